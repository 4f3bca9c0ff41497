/- SameTexts and Join of the reference of layer 9; Heavy; the alive check. -/
import Derived.Test.YtbhfdjmnnailnaaFdI
import Derived.Test.YtbhfdjmnnailnaaFdG
import Derived.Test.YtbhfdjmnnailnaaQuiet
import Derived.KernelRfl
namespace Go.Proofs.Ytbhfdjmnnailnaa
open Go.RowKit Cls
namespace Fld
set_option maxRecDepth 4000 in
set_option maxHeartbeats 1000000 in
theorem same_any (xs ys : List ByteArray) (av bv : Value) (w : World) (h : Txt w av xs) (h2 : Txt w bv ys) (hl : xs.length ≤ 1000000) :
    Calls Try.prog 9 #[av, bv] w fun e w' => e = .returned (.bool (decide (xs = ys))) ∧ Below w.heap.size w w' := by
  obtain ⟨a, cap, rfl, hcell⟩ := h.cell
  obtain ⟨b, cap2, rfl, hcell2⟩ := h2.cell
  have HC := Lib.hid hcell; have HC2 := Lib.hid hcell2
  clear hcell h hcell2 h2
  by_cases hlen : xs.length = ys.length
  · have HL := Lib.hid hlen
    rw [hlen] at hl ⊢
    clear hlen
    go_enter Try.func9, Try.ntmps9
    go_wp2_with fail
    go_loopw [13] (fun i wr => ∃ k : Nat, k ≤ ys.length ∧ i = .int .i64 k ∧ xs.take k = ys.take k ∧ Below w.heap.size w wr) (fun i _ => ys.length - (intOf i).toNat)
    case atStart => exact ⟨0, Nat.zero_le _, rfl, rfl, Below.refl _ _⟩
    case round =>
      obtain ⟨k, hk, rfl, htk, hbw⟩ := hrel
      have HT := Lib.hid htk; have HB := Lib.hid hbw
      clear htk hbw
      rcases Nat.lt_or_ge k ys.length with hlt | hge
      · have hy : ys[k]? = some (ys[k]'hlt) := List.getElem?_eq_getElem hlt
        have hx : xs[k]? = some (xs[k]'(by rw [HL.out]; exact hlt)) := List.getElem?_eq_getElem _
        obtain ⟨b1, off1, rfl, _, hc1⟩ := HC.out k _ hx
        obtain ⟨b2, off2, rfl, _, hc2⟩ := HC2.out k _ hy
        have hq1 := cell_regrown (HB.out.cell (World.block_lt_of_cell? _ _ hc1) ▸ hc1)
        have hq2 := cell_regrown (HB.out.cell (World.block_lt_of_cell? _ _ hc2) ▸ hc2)
        clear hc1 hc2
        have HX := Lib.hid hx; have HY := Lib.hid hy
        clear hx hy
        generalize xs[k]'(by rw [HL.out]; exact hlt) = x at hq1 HX
        generalize ys[k] = y at hq2 HY
        by_cases he : x = y
        · have e1 : (x.toList == y.toList) = true := by rw [he]; simp
          go_wp2_with fail
          refine Qu.region (by kernel_rfl) (by kernel_rfl) ?_
          repeat (first
            | (first | refine Qu.carry0 rfl (fun K hK => ?_) | refine Qu.carryG rfl rfl rfl (fun K hK => ?_)
               go_simp
               first
               | (refine hK _ ?_; clear hK K)
               | (apply Exists.intro; refine ⟨fun _ => ?_, hK _ ?_⟩; fail; clear hK K))
            | (refine Qu.passG rfl rfl rfl (fun K hK => ?_); go_simp; refine hK _ ?_; clear hK K))
          refine Qu.fin ?_
          rintro ⟨dq, osq⟩
          go_wp2_with fail
          go_roundw
          case rel => exact ⟨k + 1, by omega, by go_num, by rw [List.take_add_one, List.take_add_one, HX.out, HY.out, HT.out, he], HB.out.trans ((below_regrown _ dq osq).mono HB.out.size)⟩
          case measure => simp [intOf]; omega
        · have e1 : (x.toList == y.toList) = false := by
            rw [beq_eq_false_iff_ne, Lib.toList_data, Lib.toList_data]; exact fun e => he (bs_inj e)
          go_wp2_with fail
          refine Qu.region (by kernel_rfl) (by kernel_rfl) ?_
          repeat (first
            | (first | refine Qu.carry0 rfl (fun K hK => ?_) | refine Qu.carryG rfl rfl rfl (fun K hK => ?_)
               go_simp
               first
               | (refine hK _ ?_; clear hK K)
               | (apply Exists.intro; refine ⟨fun _ => ?_, hK _ ?_⟩; fail; clear hK K))
            | (refine Qu.passG rfl rfl rfl (fun K hK => ?_); go_simp; refine hK _ ?_; clear hK K))
          refine Qu.fin ?_
          rintro ⟨dq, osq⟩
          go_wp2_with fail
          go_ret
          exact ⟨congrArg (fun b => Ending.returned (.bool b)) (decide_eq_false fun e => he (by have := HX.out; rw [e, HY.out] at this; injection this with this; exact this.symm)).symm, HB.out.trans ((below_regrown _ dq osq).mono HB.out.size)⟩
      · have hkk : k = ys.length := by omega
        subst hkk
        have e1 : xs = ys := by have := HT.out; rwa [List.take_length, ← HL.out, List.take_length] at this
        go_wp2_with fail
        go_ret
        exact ⟨congrArg (fun b => Ending.returned (.bool b)) (decide_eq_true e1).symm, HB.out⟩
  · have hne : xs ≠ ys := fun e => hlen (by rw [e])
    have h2 : ¬ (xs.length : Int) = (ys.length : Int) := by omega
    go_enter Try.func9, Try.ntmps9
    go_wp2_with fail
    go_ret
    exact ⟨congrArg (fun b => Ending.returned (.bool b)) (decide_eq_false hne).symm, Below.refl _ _⟩
theorem same_yes (xs : List ByteArray) (av bv : Value) (w : World) (h : Txt w av xs) (h2 : Txt w bv xs) (hl : xs.length ≤ 1000000) :
    Calls Try.prog 9 #[av, bv] w fun e w' => e = .returned (.bool true) ∧ Below w.heap.size w w' :=
  (same_any xs xs av bv w h h2 hl).mono fun e w' ⟨he, hb⟩ => ⟨by rw [he, decide_eq_true rfl], hb⟩
/-- Texts, with a blank between each two: those of the pieces that they are. -/
theorem joinQ_snoc (l : List ByteArray) (y : ByteArray) : joinS (qP (l ++ [y])) = joinS (qP l) ++ ((bif l.isEmpty then [] else [32]) ++ bs y) := by
  rw [qP_snoc]
  cases l with
  | nil => simp [joinS, qP, quoP, joinP]
  | cons x r => simp [joinS, cutP, quoP, joinP]
set_option maxRecDepth 4000 in
set_option maxHeartbeats 1000000 in
theorem rjoin9_any (xs : List ByteArray) (av : Value) (w : World) (h : Txt w av xs) (hl : xs.length ≤ 1000) (hj : ∀ k, (joinS (qP (xs.take k))).length ≤ 4194304) (hx1 : ∀ x ∈ xs, x.size ≤ 1000) :
    Calls Try.prog 15 #[av] w fun e w' => e = .returned (.string (tx (joinS (qP xs)))) ∧ w' = w := by
  obtain ⟨a, cap, rfl, hcell⟩ := h.cell
  have HC := Lib.hid hcell; have HJ0 := Lib.hid hj; have HX1 := Lib.hid hx1
  clear hcell h hj hx1
  go_enter Try.func15, Try.ntmps15
  go_wp2_with fail
  go_loopw [3, 8] (fun sv i wr => ∃ k : Nat, k ≤ xs.length ∧ i = .int .i64 k ∧ sv = .string (tx (joinS (qP (xs.take k)))) ∧ wr = w) (fun _ i _ => xs.length - (intOf i).toNat)
  case atStart => exact ⟨0, Nat.zero_le _, rfl, rfl, rfl⟩
  case round =>
    obtain ⟨k, hk, rfl, rfl, rfl⟩ := hrel
    rcases Nat.lt_or_ge k xs.length with hlt | hge
    · have hx : xs[k]? = some (xs[k]'hlt) := List.getElem?_eq_getElem hlt
      obtain ⟨b, off, rfl, _, hc⟩ := HC.out k _ hx
      have hsucc : joinS (qP (xs.take (k + 1))) = joinS (qP (xs.take k)) ++ ((bif (xs.take k).isEmpty then [] else [32]) ++ bs (xs[k]'hlt)) := by rw [List.take_succ_eq_append_getElem hlt, joinQ_snoc]
      have hs2 : (xs[k]'hlt).size ≤ 1000 := HX1.out _ (List.getElem_mem hlt)
      have hs1 : (tx (joinS (qP (xs.take k)))).size ≤ 4194304 := by rw [tx_size]; exact HJ0.out k
      generalize xs[k] = y at hc hsucc hs2
      have HS := Lib.hid hsucc
      clear hsucc
      generalize hjj : tx (joinS (qP (xs.take k))) = J at hs1 ⊢
      have HJJ := Lib.hid hjj
      clear hjj
      by_cases h0 : k = 0
      · subst h0
        simp only [Nat.add_zero] at hc
        go_wp2_with fail
        go_roundw
        case rel => exact ⟨1, by omega, by go_num, by
          rw [HS.out]
          exact congrArg Value.string (by rw [← HJJ.out]; exact tx_cat _ (bs y)), by first | rfl | trivial⟩
        case measure => simp [intOf]; omega
      · have hpos : 0 < k := by omega
        have he : (xs.take k).isEmpty = false := by
          cases hh : xs.take k with
          | nil => exfalso; have := congrArg List.length hh; rw [List.length_take, List.length_nil] at this; omega
          | cons x r => rfl
        have HE := Lib.hid he
        clear he
        go_wp2_with fail
        go_roundw
        case rel => exact ⟨k + 1, by omega, by go_num, by
          rw [HS.out, HE.out]
          exact congrArg Value.string (by rw [← HJJ.out]; exact (congrArg (· ++ y) (tx_cat _ [32])).trans ((tx_cat _ (bs y)).trans (by rw [List.append_assoc]; rfl))), by first | rfl | trivial⟩
        case measure => simp [intOf]; omega
    · have hkk : k = xs.length := by omega
      subst hkk
      go_wp2_with fail
      go_ret
      rw [List.take_length]
      exact ⟨rfl, rfl⟩
def R : Nat := 140737488351232
/-- Are they more than is looked at? -/
def hvy (ps : List Pc) : Int := if 5000 < weight ps then 1 else 0
set_option maxHeartbeats 800000 in
theorem heavy_any (a : Option Addr) (cap : Nat) (ps : List Pc) (w : World) (h : Pcs w a ps) (hl : ps.length ≤ R) (hR : ∀ p ∈ ps, p.1.size ≤ R) :
    Calls Try.prog 7 #[.slice a ps.length cap] w fun e w' => e = .returned (.int .i64 (hvy ps)) ∧ Below w.heap.size w w' := by
  have H := Lib.hid h; have HR := Lib.hid hR; clear h hR
  unfold R at hl
  go_enter Try.func7, Try.ntmps7
  go_wp2_with fail
  go_loopw [3, 8] (fun v x wr => ∃ k : Nat, k ≤ ps.length ∧ x = .int .i64 k ∧ v = .int .i64 (weight (ps.take k) : Nat) ∧ weight (ps.take k) ≤ 5000 ∧ Below w.heap.size w wr) (fun _ x _ => ps.length - (intOf x).toNat)
  case atStart => exact ⟨0, Nat.zero_le _, rfl, rfl, by simp [weight], Below.refl _ _⟩
  case round =>
    obtain ⟨k, hk, rfl, rfl, hw2, hbw⟩ := hrel
    have HW := Lib.hid hbw
    have hws := hbw.size
    clear hbw
    by_cases hlt : k < ps.length
    · obtain ⟨b, o, rfl, hb, c0, c1, c2⟩ := (H.out.below HW.out).get hlt
      have hT : weight (ps.take (k + 1)) = weight (ps.take k) + ((pc ps k).1.size + 1) := by rw [take_snoc hlt, weight_snoc]
      have hsz : (pc ps k).1.size ≤ R := HR.out _ (pc_mem hlt)
      have hle := weight_take ps (k + 1)
      unfold R at hsz
      have HT := Lib.hid hT; have HLE := Lib.hid hle
      clear hT hle
      revert c0 c1 c2 HT hsz
      generalize pc ps k = p
      obtain ⟨t, q, u⟩ := p
      intro c0 c1 c2 hsz HT
      have HT2 := Lib.hid (show weight (ps.take (k + 1)) = weight (ps.take k) + (t.size + 1) from HT.out)
      have hsz2 : t.size ≤ 140737488351232 := hsz
      clear hsz HT
      by_cases hbig : 5000 < weight (ps.take k) + (t.size + 1)
      · have HBG := Lib.hid hbig
        have hbI : (((weight (ps.take k) : Nat) : Int) + ((t.size : Int) + 1) > 5000) = True := eq_true (by omega)
        have hbJ : (5000 < ((weight (ps.take k) : Nat) : Int) + ((t.size : Int) + 1)) = True := eq_true (by omega)
        go_wp2_with fail
        go_ret
        refine ⟨?_, HW.out.alloc hws _⟩
        show Ending.returned (.int .i64 1) = _
        rw [hvy, if_pos (by have h1 := HLE.out; have h2 := HT2.out; have h3 := HBG.out; omega)]
      · have HBG := Lib.hid hbig
        have hbI : (((weight (ps.take k) : Nat) : Int) + ((t.size : Int) + 1) > 5000) = False := eq_false (by omega)
        have hbJ : (5000 < ((weight (ps.take k) : Nat) : Int) + ((t.size : Int) + 1)) = False := eq_false (by omega)
        go_wp2_with fail
        go_roundw
        case rel => exact ⟨k + 1, by omega, by go_num, by rw [HT2.out]; push_cast; rfl, by rw [HT2.out]; have := HBG.out; omega, HW.out.alloc hws _⟩
        case measure => simp [intOf]; omega
    · obtain rfl : k = ps.length := by omega
      rw [List.take_length] at hw2
      have HW2 := Lib.hid (show ¬ 5000 < weight ps by omega)
      go_wp2_with fail
      go_ret
      refine ⟨?_, HW.out⟩
      show Ending.returned (.int .i64 0) = _
      rw [hvy, if_neg HW2.out]
theorem one_piece (w : World) (t : ByteArray) (q c : Bool) : Pcs (w.alloc (.cells #[.string t, .bool q, .bool c] 31)) (some ⟨w.heap.size, 0, none⟩) [(t, q, c)] := by
  refine .inr ⟨_, 0, rfl, by simp, fun i hi => ?_⟩
  obtain rfl : i = 0 := by simp at hi; omega
  exact ⟨World.cell?_alloc_at _ _ _ _ rfl, World.cell?_alloc_at _ _ _ _ rfl, World.cell?_alloc_at _ _ _ _ rfl⟩
theorem own_len {w : World} {b : Nat} {e : TypeId} {s : Nat} {v : Value} {n : Nat} {xs : List Value} (h : w.ownsRow b e s v n xs) : ∃ a cap, v = .slice a n cap ∧ (a = none → cap = 0) := by
  rcases h.2 with ⟨rfl, h0⟩ | ⟨g, cap, cur, rfl, _⟩
  · exact ⟨none, 0, by rw [h0], fun _ => rfl⟩
  · exact ⟨_, cap, rfl, fun h => by cases h⟩
theorem alive1 : (splitS [(⟨#[97, 32, 98]⟩, false, false)]).length = 2 := by decide +kernel
theorem alive2 : (splitS [(⟨#[]⟩, false, false)]).length = 0 := by decide +kernel
theorem alive3 : (splitS [(⟨#[]⟩, true, false)]).length = 1 := by decide +kernel
set_option maxHeartbeats 800000 in
theorem alive_any (w : World) : Calls Try.prog 6 #[] w fun e w' => e = .returned (.bool true) ∧ Below w.heap.size w w' := by
  have HP := Lib.hid (one_piece w ⟨#[97, 32, 98]⟩ false false)
  have HB0 := Lib.hid (below_alloc w (.cells #[.string ⟨#[97, 32, 98]⟩, .bool false, .bool false] 31))
  go_enter Try.func6, Try.ntmps6
  go_wp2_with fail
  refine (split_any _ _ [(⟨#[97, 32, 98]⟩, false, false)] _ HP.out (by decide)).mono ?_
  rintro e w1 ⟨v1, rfl, ho1, hb1⟩
  rw [alive1] at ho1
  obtain ⟨a1, k1, rfl, _⟩ := own_len ho1
  have HB1 := Lib.hid (HB0.out.trans (hb1.mono HB0.out.size))
  clear ho1 hb1
  go_wp2_with fail
  refine (split_any _ _ [(⟨#[]⟩, false, false)] _ (one_piece w1 ⟨#[]⟩ false false) (by decide)).mono ?_
  rintro e w2 ⟨v2, rfl, ho2, hb2⟩
  rw [alive2] at ho2
  obtain ⟨a2, k2, rfl, _⟩ := own_len ho2
  have HB2 := Lib.hid ((HB1.out.alloc HB1.out.size _).trans (hb2.mono (Nat.le_trans HB1.out.size (by simp))))
  clear ho2 hb2
  go_wp2_with fail
  refine (split_any _ _ [(⟨#[]⟩, true, false)] _ (one_piece w2 ⟨#[]⟩ true false) (by decide)).mono ?_
  rintro e w3 ⟨v3, rfl, ho3, hb3⟩
  rw [alive3] at ho3
  obtain ⟨a3, k3, rfl, _⟩ := own_len ho3
  have HB3 := Lib.hid ((HB2.out.alloc HB2.out.size _).trans (hb3.mono (Nat.le_trans HB2.out.size (by simp))))
  clear ho3 hb3
  go_wp2_with fail
  go_ret
  exact ⟨rfl, HB3.out⟩
end Fld
end Go.Proofs.Ytbhfdjmnnailnaa
