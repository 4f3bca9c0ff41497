/- An item is the same as itself. -/
import Derived.Test.YtbcldfaphnnmlaaFrA
namespace Go.Proofs.Ytbcldfaphnnmlaa
open Go.RowKit Go.Sort
namespace Fra
open Cls Pt Tr
theorem eqL_refl {T : Type} {p : T → T → Bool} (h : ∀ x, p x x = true) : ∀ l : List T, eqL p l l = true
  | [] => rfl
  | x :: r => by simp only [eqL, h x, eqL_refl h r, Bool.and_true]
theorem same_refl : ∀ l : PL, same l l = true
  | .nil => rfl
  | .cons k q t o f r => by simp [same, same_refl f, same_refl r]
theorem sameN_refl : ∀ l : NL, sameN l l = true
  | .nil => rfl
  | .node k nm g az ws ks bs cz r => by
    simp [sameN, sameN_refl ks, sameN_refl cz, sameN_refl r, eqL_refl same_refl, eqL_refl (p := sameA) (fun x => by simp [sameA, same_refl]), eqL_refl (p := ((· == ·) : Bool → Bool → Bool)) (fun x => by simp)]
  | .cse ps b r => by simp [sameN, sameN_refl b, sameN_refl r, eqL_refl same_refl]
theorem nodeEq_refl (k : Int) (nm : ByteArray) (g : Bool) (az : List (ByteArray × PL)) (ws : List PL) (ks : NL) (bs : List Bool) (cz : NL) : nodeEq k nm g az ws ks bs cz k nm g az ws ks bs cz = true := by
  simp [nodeEq, sameN_refl, eqL_refl same_refl, eqL_refl (p := sameA) (fun x => by simp [sameA, same_refl]), eqL_refl (p := ((· == ·) : Bool → Bool → Bool)) (fun x => by simp)]
set_option maxRecDepth 4000 in
set_option maxHeartbeats 800000 in
theorem texts_self (a : Option Addr) (n cap : Nat) (xs : List ByteArray) (w : World) (hn : xs.length = n) (hl : n ≤ 140737488351232) (h : ∀ j t, xs[j]? = some t → ∃ b o, a = some ⟨b, o, none⟩ ∧ w.cell? ⟨b, o + j, none⟩ = some (.string t)) :
    Calls Try.prog 25 #[.slice a n cap, .slice a n cap] w fun e w' => e = .returned (.bool true) ∧ Below w.heap.size w w' := by
  have HC := Lib.hid h; have HN := Lib.hid hn
  clear h hn
  go_enter Try.func25, Try.ntmps25
  go_wp2_with fail
  go_loopw [13] (fun i wr => ∃ k : Nat, k ≤ n ∧ i = .int .i64 k ∧ Below w.heap.size w wr) (fun i _ => n - (intOf i).toNat)
  case atStart => exact ⟨0, Nat.zero_le _, rfl, Below.refl _ _⟩
  case round =>
    obtain ⟨k, hk, rfl, hbw⟩ := hrel
    have HBW := Lib.hid hbw
    clear hbw
    by_cases hlt : k < n
    · obtain ⟨t, ht⟩ : ∃ t, xs[k]? = some t := ⟨_, List.getElem?_eq_getElem (by rw [HN.out]; exact hlt)⟩
      obtain ⟨b, o, rfl, hc⟩ := HC.out k t ht
      have q1 := cell_below HBW.out hc
      clear hc ht
      go_wp2_with fail
      go_region
      all_goals
        go_wp2_with fail
        go_roundw
        case rel => exact ⟨k + 1, by omega, by go_num, HBW.out.os, HBW.out.tape, HBW.out.output, HBW.out.size, HBW.out.block⟩
        case measure => simp [intOf]; omega
    · obtain rfl : k = n := by omega
      go_wp2_with fail
      go_ret
      exact ⟨rfl, HBW.out⟩
set_option maxRecDepth 4000 in
set_option maxHeartbeats 800000 in
theorem ints_self (a : Option Addr) (n cap : Nat) (xs : List Int) (w : World) (hn : xs.length = n) (hl : n ≤ 140737488351232) (h : ∀ j t, xs[j]? = some t → ∃ b o, a = some ⟨b, o, none⟩ ∧ w.cell? ⟨b, o + j, none⟩ = some (.int .i64 t)) :
    Calls Try.prog 26 #[.slice a n cap, .slice a n cap] w fun e w' => e = .returned (.bool true) ∧ Below w.heap.size w w' := by
  have HC := Lib.hid h; have HN := Lib.hid hn
  clear h hn
  go_enter Try.func26, Try.ntmps26
  go_wp2_with fail
  go_loopw [13] (fun i wr => ∃ k : Nat, k ≤ n ∧ i = .int .i64 k ∧ Below w.heap.size w wr) (fun i _ => n - (intOf i).toNat)
  case atStart => exact ⟨0, Nat.zero_le _, rfl, Below.refl _ _⟩
  case round =>
    obtain ⟨k, hk, rfl, hbw⟩ := hrel
    have HBW := Lib.hid hbw
    clear hbw
    by_cases hlt : k < n
    · obtain ⟨t, ht⟩ : ∃ t, xs[k]? = some t := ⟨_, List.getElem?_eq_getElem (by rw [HN.out]; exact hlt)⟩
      obtain ⟨b, o, rfl, hc⟩ := HC.out k t ht
      have q1 := cell_below HBW.out hc
      clear hc ht
      go_wp2_with fail
      go_region
      all_goals
        go_wp2_with fail
        go_roundw
        case rel => exact ⟨k + 1, by omega, by go_num, HBW.out.os, HBW.out.tape, HBW.out.output, HBW.out.size, HBW.out.block⟩
        case measure => simp [intOf]; omega
    · obtain rfl : k = n := by omega
      go_wp2_with fail
      go_ret
      exact ⟨rfl, HBW.out⟩
set_option maxRecDepth 4000 in
set_option maxHeartbeats 1600000 in
theorem item_self (y : IV) (w : World) (h : Good w y) :
    Calls Try.prog 9 #[.agg (icells y).toArray, .agg (icells y).toArray] w fun e w' => e = .returned (.int .i64 1) ∧ Below w.heap.size w w' := by
  have hb0 : Below w.heap.size w ((w.alloc (.cells (icells y).toArray 43)).alloc (.cells (icells y).toArray 41)) := thru (bel1 _ _) (bel1 _ _)
  have hg := h.stay hb0
  have hrow1 : ((w.alloc (.cells (icells y).toArray 43)).alloc (.cells (icells y).toArray 41)).heap[w.heap.size]? = some (.cells (icells y).toArray 43 (0, 0)) := ((bel1 (w.alloc (.cells (icells y).toArray 43)) (.cells (icells y).toArray 41)).block _ (by simp)).trans (heap_alloc_new _ _)
  have hrow2 : ((w.alloc (.cells (icells y).toArray 43)).alloc (.cells (icells y).toArray 41)).heap[w.heap.size + 1]? = some (.cells (icells y).toArray 41 (0, 0)) := by
    have := heap_alloc_new (w.alloc (.cells (icells y).toArray 43)) (.cells (icells y).toArray 41)
    rwa [World.size_alloc] at this
  have hS := rsame_all (y.ks.size + y.cz.size + 1) y.nk y.nm y.g y.az y.nw y.ks y.bs y.cz y.nk y.nm y.g y.az y.nw y.ks y.bs y.cz y.a1 y.c1 y.a2 y.c2 y.a3 y.c3 y.a4 y.c4 y.a5 y.c5 y.a1 y.c1 y.a2 y.c2 y.a3 y.c3 y.a4 y.c4 y.a5 y.c5 _ (by omega) hg.nd hg.nd
  rw [nodeEq_refl] at hS
  have HS := Lib.hid hS; have HG := Lib.hid hg; have HB := Lib.hid hb0; have HR1 := Lib.hid hrow1; have HR2 := Lib.hid hrow2
  clear hS hg hb0 hrow1 hrow2 h
  unfold icells at HS HG HB HR1 HR2
  unfold nodeV at HS
  unfold icells
  go_enter Try.func9, Try.ntmps9
  go_wp2_with fail
  refine HS.out.mono ?_
  rintro e w1 ⟨rfl, hb1⟩
  have hrow1 := (hb1.block _ (Array.getElem?_eq_some_iff.1 HR1.out).1).trans HR1.out
  have hrow2 := (hb1.block _ (Array.getElem?_eq_some_iff.1 HR2.out).1).trans HR2.out
  have p12 := Lib.cell_of_heap hrow1 12; have p13 := Lib.cell_of_heap hrow1 13
  have q12 := Lib.cell_of_heap hrow2 12; have q13 := Lib.cell_of_heap hrow2 13
  have HG1 := Lib.hid (HG.out.stay hb1); have HB1 := Lib.hid (thru HB.out hb1); have HR3 := Lib.hid hrow1; have HR4 := Lib.hid hrow2
  clear hrow1 hrow2 hb1
  go_wp2_with fail
  refine (texts_self _ _ _ y.ws _ rfl HG1.out.nw HG1.out.ws).mono ?_
  rintro e w2 ⟨rfl, hb2⟩
  have hrow1 := (hb2.block _ (Array.getElem?_eq_some_iff.1 HR3.out).1).trans HR3.out
  have hrow2 := (hb2.block _ (Array.getElem?_eq_some_iff.1 HR4.out).1).trans HR4.out
  clear p12 p13 q12 q13
  have p13 := Lib.cell_of_heap hrow1 13
  have q13 := Lib.cell_of_heap hrow2 13
  have HG2 := Lib.hid (HG1.out.stay hb2); have HB2 := Lib.hid (thru HB1.out hb2)
  clear hrow1 hrow2 hb2
  go_wp2_with fail
  refine (ints_self _ _ _ y.ps _ rfl HG2.out.np HG2.out.ps).mono ?_
  rintro e w3 ⟨rfl, hb3⟩
  have HB3 := Lib.hid (thru HB2.out hb3)
  clear hb3 p13 q13
  go_wp2_with fail
  go_ret
  exact ⟨rfl, HB3.out⟩
end Fra
end Go.Proofs.Ytbcldfaphnnmlaa
