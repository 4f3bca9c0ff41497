/- The reference's Join, SameTexts, Shift. -/
import Derived.Test.YtoneabcbeikkhaaGreatDoorVrN
import Derived.Test.YtoneabcbeikkhaaGreatDoorQuiet
import Derived.Test.YtoneabcbeikkhaaGreatDoorVrQ
namespace Go.Proofs.YtoneabcbeikkhaaGreatDoor
open Go.RowKit Go.Maps Cls
namespace Vr

def joinB (xs : List ByteArray) : List UInt8 := Lib.join (xs.map bs) [32]
theorem inter_snoc (s x : List UInt8) : ∀ l : List (List UInt8), l ≠ [] → s.intercalate (l ++ [x]) = s.intercalate l ++ s ++ x
  | [], h => absurd rfl h
  | [a], _ => by simp [List.intercalate]
  | a :: b :: r, _ => by
    have ih := inter_snoc s x (b :: r) (by simp)
    simp only [List.intercalate, List.cons_append, List.intersperse_cons_cons, List.flatten_cons] at ih ⊢
    rw [ih]; simp
theorem joinB_succ (xs : List ByteArray) (k : Nat) (x : ByteArray) (h : xs[k]? = some x) : joinB (xs.take (k + 1)) = joinB (xs.take k) ++ (if k = 0 then [] else [32]) ++ bs x := by
  have hk : k < xs.length := (List.getElem?_eq_some_iff.1 h).1
  rw [List.take_add_one, h]
  unfold joinB Lib.join
  rw [List.map_append]
  by_cases h0 : k = 0
  · subst h0; simp [List.intercalate]
  · rw [if_neg h0]
    exact inter_snoc [32] (bs x) _ (by
      intro e
      have := congrArg List.length e
      simp only [List.length_map, List.length_take, List.length_nil] at this; omega)
theorem joinB_le (xs : List ByteArray) : ∀ d k : Nat, k + d = xs.length → (joinB (xs.take k)).length ≤ (joinB xs).length
  | 0, k, h => by rw [List.take_of_length_le (by omega)]; exact Nat.le_refl _
  | d + 1, k, h => by
    have ih := joinB_le xs d (k + 1) (by omega)
    rw [joinB_succ xs k (xs[k]'(by omega)) (List.getElem?_eq_getElem (by omega))] at ih
    simp only [List.length_append] at ih; omega
set_option maxRecDepth 4000 in
set_option maxHeartbeats 1000000 in
theorem rjoin_any (xs : List ByteArray) (av : Value) (w : World) (h : Txt w av xs) (hl : xs.length ≤ 1000000) (hj : (joinB xs).length ≤ 4194304) :
    Calls Tryz.prog 78 #[av] w fun e w' => e = .returned (.string (tx (joinB xs))) ∧ w' = w := by
  obtain ⟨a, cap, rfl, hcell⟩ := h.cell
  have HC := Lib.hid hcell
  clear hcell h
  go_enter Tryz.func78, Tryz.ntmps78
  go_wp2_with fail
  go_loopw [3, 8] (fun sv i wr => ∃ k : Nat, k ≤ xs.length ∧ i = .int .i64 k ∧ sv = .string (tx (joinB (xs.take k))) ∧ wr = w) (fun _ i _ => xs.length - (intOf i).toNat)
  case atStart => exact ⟨0, Nat.zero_le _, rfl, rfl, rfl⟩
  case round =>
    obtain ⟨k, hk, rfl, rfl, rfl⟩ := hrel
    rcases Nat.lt_or_ge k xs.length with hlt | hge
    · have hx : xs[k]? = some (xs[k]'hlt) := List.getElem?_eq_getElem hlt
      obtain ⟨b, off, rfl, _, hc⟩ := HC.out k _ hx
      have hsucc := joinB_succ xs k _ hx
      have hle := joinB_le xs (xs.length - (k + 1)) (k + 1) (by omega)
      rw [hsucc] at hle
      simp only [List.length_append] at hle
      generalize xs[k] = y at hc hsucc hle
      have hs1 : (tx (joinB (xs.take k))).size ≤ 4194304 := by have : (tx (joinB (xs.take k))).size = (joinB (xs.take k)).length := by simp [tx, ByteArray.size]
                                                               omega
      have hs2 : y.size ≤ 4194304 := by rw [lenB] at hle; omega
      have HS := Lib.hid hsucc
      clear hsucc hle
      generalize hjj : tx (joinB (xs.take k)) = J at hs1 ⊢
      have HJJ := Lib.hid hjj
      clear hjj
      by_cases h0 : k = 0
      · subst h0
        simp only [Nat.add_zero] at hc
        go_wp2_with fail
        go_roundw
        case rel => exact ⟨1, by omega, by go_num, by
          rw [HS.out]
          exact congrArg Value.string (by rw [← HJJ.out, if_pos rfl, List.append_nil]; exact tx_cat _ _), by first | rfl | trivial⟩
        case measure => simp [intOf]; omega
      · have hpos : 0 < k := by omega
        go_wp2_with fail
        go_roundw
        case rel => exact ⟨k + 1, by omega, by go_num, by
          rw [HS.out]
          exact congrArg Value.string (by rw [← HJJ.out, if_neg h0]; exact (congrArg (· ++ y) (tx_cat _ [32])).trans (tx_cat _ _)), by first | rfl | trivial⟩
        case measure => simp [intOf]; omega
    · have hkk : k = xs.length := by omega
      subst hkk
      go_wp2_with fail
      go_ret
      rw [List.take_length]
      exact ⟨rfl, rfl⟩
set_option maxRecDepth 4000 in
set_option maxHeartbeats 1000000 in
theorem same_any (xs ys : List ByteArray) (av bv : Value) (w : World) (h : Txt w av xs) (h2 : Txt w bv ys) (hl : xs.length ≤ 1000000) :
    Calls Tryz.prog 19 #[av, bv] w fun e w' => e = .returned (.bool (decide (xs = ys))) ∧ Below w.heap.size w w' := by
  obtain ⟨a, cap, rfl, hcell⟩ := h.cell
  obtain ⟨b, cap2, rfl, hcell2⟩ := h2.cell
  have HC := Lib.hid hcell; have HC2 := Lib.hid hcell2
  clear hcell h hcell2 h2
  by_cases hlen : xs.length = ys.length
  · have HL := Lib.hid hlen
    rw [hlen] at hl ⊢
    clear hlen
    go_enter Tryz.func19, Tryz.ntmps19
    go_wp2_with fail
    go_loopw [13] (fun i wr => ∃ k : Nat, k ≤ ys.length ∧ i = .int .i64 k ∧ xs.take k = ys.take k ∧ Below w.heap.size w wr) (fun i _ => ys.length - (intOf i).toNat)
    case atStart => exact ⟨0, Nat.zero_le _, rfl, rfl, Below.refl _ _⟩
    case round =>
      obtain ⟨k, hk, rfl, htk, hbw⟩ := hrel
      have HT := Lib.hid htk; have HB := Lib.hid hbw
      clear htk hbw
      rcases Nat.lt_or_ge k ys.length with hlt | hge
      · have hy : ys[k]? = some (ys[k]'hlt) := List.getElem?_eq_getElem hlt
        have hx : xs[k]? = some (xs[k]'(by rw [HL.out]; exact hlt)) := List.getElem?_eq_getElem _
        obtain ⟨b1, off1, rfl, _, hc1⟩ := HC.out k _ hx
        obtain ⟨b2, off2, rfl, _, hc2⟩ := HC2.out k _ hy
        have hq1 := cell_regrown (HB.out.cell (World.block_lt_of_cell? _ _ hc1) ▸ hc1)
        have hq2 := cell_regrown (HB.out.cell (World.block_lt_of_cell? _ _ hc2) ▸ hc2)
        clear hc1 hc2
        have HX := Lib.hid hx; have HY := Lib.hid hy
        clear hx hy
        generalize xs[k]'(by rw [HL.out]; exact hlt) = x at hq1 HX
        generalize ys[k] = y at hq2 HY
        by_cases he : x = y
        · have e1 : (x.toList == y.toList) = true := by rw [he]; simp
          go_wp2_with fail
          refine Qu.region (by kernel_rfl) (by kernel_rfl) ?_
          repeat (first
            | (first | refine Qu.carry0 rfl (fun K hK => ?_) | refine Qu.carryG rfl rfl rfl (fun K hK => ?_)
               go_simp
               first
               | (refine hK _ ?_; clear hK K)
               | (apply Exists.intro; refine ⟨fun _ => ?_, hK _ ?_⟩; fail; clear hK K))
            | (refine Qu.passG rfl rfl rfl (fun K hK => ?_); go_simp; refine hK _ ?_; clear hK K))
          refine Qu.fin ?_
          rintro ⟨dq, osq⟩
          go_wp2_with fail
          go_roundw
          case rel => exact ⟨k + 1, by omega, by go_num, by rw [List.take_add_one, List.take_add_one, HX.out, HY.out, HT.out, he], HB.out.trans ((below_regrown _ dq osq).mono HB.out.size)⟩
          case measure => simp [intOf]; omega
        · have e1 : (x.toList == y.toList) = false := by
            rw [beq_eq_false_iff_ne, Lib.toList_data, Lib.toList_data]; exact fun e => he (bs_inj e)
          go_wp2_with fail
          refine Qu.region (by kernel_rfl) (by kernel_rfl) ?_
          repeat (first
            | (first | refine Qu.carry0 rfl (fun K hK => ?_) | refine Qu.carryG rfl rfl rfl (fun K hK => ?_)
               go_simp
               first
               | (refine hK _ ?_; clear hK K)
               | (apply Exists.intro; refine ⟨fun _ => ?_, hK _ ?_⟩; fail; clear hK K))
            | (refine Qu.passG rfl rfl rfl (fun K hK => ?_); go_simp; refine hK _ ?_; clear hK K))
          refine Qu.fin ?_
          rintro ⟨dq, osq⟩
          go_wp2_with fail
          go_ret
          exact ⟨congrArg (fun b => Ending.returned (.bool b)) (decide_eq_false fun e => he (by have := HX.out; rw [e, HY.out] at this; injection this with this; exact this.symm)).symm, HB.out.trans ((below_regrown _ dq osq).mono HB.out.size)⟩
      · have hkk : k = ys.length := by omega
        subst hkk
        have e1 : xs = ys := by have := HT.out; rwa [List.take_length, ← HL.out, List.take_length] at this
        go_wp2_with fail
        go_ret
        exact ⟨congrArg (fun b => Ending.returned (.bool b)) (decide_eq_true e1).symm, HB.out⟩
  · have hne : xs ≠ ys := fun e => hlen (by rw [e])
    have h2 : ¬ (xs.length : Int) = (ys.length : Int) := by omega
    go_enter Tryz.func19, Tryz.ntmps19
    go_wp2_with fail
    go_ret
    exact ⟨congrArg (fun b => Ending.returned (.bool b)) (decide_eq_false hne).symm, Below.refl _ _⟩
end Vr
end Go.Proofs.YtoneabcbeikkhaaGreatDoor
