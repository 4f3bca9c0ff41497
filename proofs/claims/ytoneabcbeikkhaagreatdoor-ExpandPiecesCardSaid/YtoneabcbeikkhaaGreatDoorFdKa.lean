/- Two rows of texts, held against one another by the reference. -/
import Derived.Test.YtoneabcbeikkhaaGreatDoorFdB
import Derived.Test.YtoneabcbeikkhaaGreatDoorQuiet
namespace Go.Proofs.YtoneabcbeikkhaaGreatDoor
open Go.RowKit Cls
namespace Fld
set_option maxRecDepth 4000 in
set_option maxHeartbeats 1000000 in
theorem same_any (xs ys : List ByteArray) (av bv : Value) (w : World) (h : Txt w av xs) (h2 : Txt w bv ys) (hl : xs.length ≤ 1000000) :
    Calls Tryz.prog 19 #[av, bv] w fun e w' => e = .returned (.bool (decide (xs = ys))) ∧ Below w.heap.size w w' := by
  obtain ⟨a, cap, rfl, hcell⟩ := h.cell
  obtain ⟨b, cap2, rfl, hcell2⟩ := h2.cell
  have HC := Lib.hid hcell; have HC2 := Lib.hid hcell2
  clear hcell h hcell2 h2
  by_cases hlen : xs.length = ys.length
  · have HL := Lib.hid hlen
    rw [hlen] at hl ⊢
    clear hlen
    go_enter Tryz.func19, Tryz.ntmps19
    go_wp2_with fail
    go_loopw [13] (fun i wr => ∃ k : Nat, k ≤ ys.length ∧ i = .int .i64 k ∧ xs.take k = ys.take k ∧ Below w.heap.size w wr) (fun i _ => ys.length - (intOf i).toNat)
    case atStart => exact ⟨0, Nat.zero_le _, rfl, rfl, Below.refl _ _⟩
    case round =>
      obtain ⟨k, hk, rfl, htk, hbw⟩ := hrel
      have HT := Lib.hid htk; have HB := Lib.hid hbw
      clear htk hbw
      rcases Nat.lt_or_ge k ys.length with hlt | hge
      · have hy : ys[k]? = some (ys[k]'hlt) := List.getElem?_eq_getElem hlt
        have hx : xs[k]? = some (xs[k]'(by rw [HL.out]; exact hlt)) := List.getElem?_eq_getElem _
        obtain ⟨b1, off1, rfl, _, hc1⟩ := HC.out k _ hx
        obtain ⟨b2, off2, rfl, _, hc2⟩ := HC2.out k _ hy
        have hq1 := cell_regrown (HB.out.cell (World.block_lt_of_cell? _ _ hc1) ▸ hc1)
        have hq2 := cell_regrown (HB.out.cell (World.block_lt_of_cell? _ _ hc2) ▸ hc2)
        clear hc1 hc2
        have HX := Lib.hid hx; have HY := Lib.hid hy
        clear hx hy
        generalize xs[k]'(by rw [HL.out]; exact hlt) = x at hq1 HX
        generalize ys[k] = y at hq2 HY
        by_cases he : x = y
        · have e1 : (x.toList == y.toList) = true := by rw [he]; simp
          go_wp2_with fail
          refine Qu.region (by kernel_rfl) (by kernel_rfl) ?_
          repeat (first
            | (first | refine Qu.carry0 rfl (fun K hK => ?_) | refine Qu.carryG rfl rfl rfl (fun K hK => ?_)
               go_simp
               first
               | (refine hK _ ?_; clear hK K)
               | (apply Exists.intro; refine ⟨fun _ => ?_, hK _ ?_⟩; fail; clear hK K))
            | (refine Qu.passG rfl rfl rfl (fun K hK => ?_); go_simp; refine hK _ ?_; clear hK K))
          refine Qu.fin ?_
          rintro ⟨dq, osq⟩
          go_wp2_with fail
          go_roundw
          case rel => exact ⟨k + 1, by omega, by go_num, by rw [List.take_add_one, List.take_add_one, HX.out, HY.out, HT.out, he], HB.out.trans ((below_regrown _ dq osq).mono HB.out.size)⟩
          case measure => simp [intOf]; omega
        · have e1 : (x.toList == y.toList) = false := by
            rw [beq_eq_false_iff_ne, Lib.toList_data, Lib.toList_data]; exact fun e => he (bs_inj e)
          go_wp2_with fail
          refine Qu.region (by kernel_rfl) (by kernel_rfl) ?_
          repeat (first
            | (first | refine Qu.carry0 rfl (fun K hK => ?_) | refine Qu.carryG rfl rfl rfl (fun K hK => ?_)
               go_simp
               first
               | (refine hK _ ?_; clear hK K)
               | (apply Exists.intro; refine ⟨fun _ => ?_, hK _ ?_⟩; fail; clear hK K))
            | (refine Qu.passG rfl rfl rfl (fun K hK => ?_); go_simp; refine hK _ ?_; clear hK K))
          refine Qu.fin ?_
          rintro ⟨dq, osq⟩
          go_wp2_with fail
          go_ret
          exact ⟨congrArg (fun b => Ending.returned (.bool b)) (decide_eq_false fun e => he (by have := HX.out; rw [e, HY.out] at this; injection this with this; exact this.symm)).symm, HB.out.trans ((below_regrown _ dq osq).mono HB.out.size)⟩
      · have hkk : k = ys.length := by omega
        subst hkk
        have e1 : xs = ys := by have := HT.out; rwa [List.take_length, ← HL.out, List.take_length] at this
        go_wp2_with fail
        go_ret
        exact ⟨congrArg (fun b => Ending.returned (.bool b)) (decide_eq_true e1).symm, HB.out⟩
  · have hne : xs ≠ ys := fun e => hlen (by rw [e])
    have h2 : ¬ (xs.length : Int) = (ys.length : Int) := by omega
    go_enter Tryz.func19, Tryz.ntmps19
    go_wp2_with fail
    go_ret
    exact ⟨congrArg (fun b => Ending.returned (.bool b)) (decide_eq_false hne).symm, Below.refl _ _⟩
theorem same_yes (xs : List ByteArray) (av bv : Value) (w : World) (h : Txt w av xs) (h2 : Txt w bv xs) (hl : xs.length ≤ 1000000) :
    Calls Tryz.prog 19 #[av, bv] w fun e w' => e = .returned (.bool true) ∧ Below w.heap.size w w' :=
  (same_any xs xs av bv w h h2 hl).mono fun e w' ⟨he, hb⟩ => ⟨by rw [he, decide_eq_true rfl], hb⟩
end Fld
end Go.Proofs.YtoneabcbeikkhaaGreatDoor
