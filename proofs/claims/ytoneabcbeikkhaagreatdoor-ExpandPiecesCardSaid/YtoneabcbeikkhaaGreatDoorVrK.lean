/- Get: an argument; no parameter. -/
import Derived.Test.YtoneabcbeikkhaaGreatDoorVrJ
namespace Go.Proofs.YtoneabcbeikkhaaGreatDoor
open Go.RowKit Go.Maps Cls
namespace Vr

theorem join_any {w : World} {B : Nat} {av : Value} {xs : List ByteArray} (h : RowAt w B av xs) (hl : xs.length ≤ 1000000) (hj : (Lib.join (xs.map bs) [32]).length ≤ 140737488355328) :
    Calls Tryz.prog 58 #[av, .string { data := #[32] }] w fun e w' => e = .returned (.string (tx (Lib.join (xs.map bs) [32]))) ∧ Below w.heap.size w w' := by
  rcases h with ⟨rfl, rfl⟩ | ⟨g, off, cap, cur, rfl, hb, h1, h2, h3, hh, h4⟩
  · refine (Tryz.strings_Join_none none 0 _ w).mono ?_
    rintro e w' ⟨rfl, rfl⟩
    exact ⟨rfl, Below.refl _ _⟩
  · refine (Tryz.strings_Join g off cap xs (tx [32]) w (fun j x hx => by rw [cell_of_row _ _ _ _ _ _ hh]; exact h4 j x hx) (Array.getElem?_eq_some_iff.1 hh).1 (by omega) h1 hj).mono ?_
    rintro e w' ⟨rfl, hb⟩
    exact ⟨rfl, hb⟩

set_option maxRecDepth 4000 in
set_option maxHeartbeats 2000000 in
theorem get_argument (s : St) (B q : Nat) (n : ByteArray) (w : World) (mv av : Value) (hsc : Sc w B q s mv av) (hNS : n.size ≤ 9223372036854775807) (hnm : nameL (bs n) = false) (hpm : paramL (bs n) = true)
    (h1 : bs n ≠ [48]) (h2 : bs n ≠ [35]) (h3 : bs n ≠ [63]) (h4 : bs n ≠ [36]) (h5 : bs n ≠ [33]) (h6 : bs n ≠ [64]) (h7 : bs n ≠ [42]) :
    Calls Tryz.prog 31 #[.pointer (some ⟨q, 0, none⟩), .string n] w fun e w' => e = .returned (out (argV s.args (bs n))) ∧ Below w.heap.size w w' := by
  have t1 : (n.toList == [48]) = false := by rw [tests]; exact beq_eq_false_iff_ne.2 h1
  have t2 : (n.toList == [35]) = false := by rw [tests]; exact beq_eq_false_iff_ne.2 h2
  have t3 : (n.toList == [63]) = false := by rw [tests]; exact beq_eq_false_iff_ne.2 h3
  have t4 : (n.toList == [36]) = false := by rw [tests]; exact beq_eq_false_iff_ne.2 h4
  have t5 : (n.toList == [33]) = false := by rw [tests]; exact beq_eq_false_iff_ne.2 h5
  have t6 : (n.toList == [64]) = false := by rw [tests]; exact beq_eq_false_iff_ne.2 h6
  have t7 : (n.toList == [42]) = false := by rw [tests]; exact beq_eq_false_iff_ne.2 h7
  have hsp : specialL (bs n) = false := by simp only [specialL, Bool.or_eq_false_iff, beq_eq_false_iff_ne]; exact ⟨⟨⟨⟨⟨h6, h7⟩, h2⟩, h3⟩, h4⟩, h5⟩
  have hnu : numberL (bs n) = true := by rw [paramL, hnm, hsp] at hpm; simpa using hpm
  obtain ⟨k, hk1, hk2, hk⟩ := number_of hnu h1
  have hv : argV s.args (bs n) = s.args[k - 1]? := by rw [hk]; exact argV_digits _ _ hk1
  rw [hv]
  clear hv hsp hnu
  have hnm2 : nameL n.data.toList = false := hnm
  have hpm2 : paramL n.data.toList = true := hpm
  have H := Lib.hid hsc; clear hsc h1 h2 h3 h4 h5 h6 h7
  go_enter Tryz.func31, Tryz.ntmps31
  go_wp2_with (first
    | (go_at_call 43; refine (name_any n _ hNS).mono ?_; rintro e w' ⟨rfl, rfl⟩; rw [hnm2])
    | (go_at_call 55; refine (param_any n _ hNS).mono ?_; rintro e w1 ⟨rfl, hb1⟩; rw [hpm2])
    | (go_at_call 59; refine (argument_any s B q n _ mv av (H.out.stay hb1) k hk1 hk2 hk).mono ?_; rintro e w2 ⟨rfl, hb2⟩))
  go_ret2
  exact ⟨rfl, hb1.trans (hb2.mono hb1.size)⟩
set_option maxRecDepth 4000 in
set_option maxHeartbeats 2000000 in
theorem get_nothing (s : St) (B q : Nat) (n : ByteArray) (w : World) (mv av : Value) (hNS : n.size ≤ 9223372036854775807) (hnm : nameL (bs n) = false) (hpm : paramL (bs n) = false) :
    Calls Tryz.prog 31 #[.pointer (some ⟨q, 0, none⟩), .string n] w fun e w' => e = .returned (out none) ∧ Below w.heap.size w w' := by
  have hnm2 : nameL n.data.toList = false := hnm
  have hpm2 : paramL n.data.toList = false := hpm
  go_enter Tryz.func31, Tryz.ntmps31
  go_wp2_with (first
    | (go_at_call 43; refine (name_any n _ hNS).mono ?_; rintro e w' ⟨rfl, rfl⟩; rw [hnm2])
    | (go_at_call 55; refine (param_any n _ hNS).mono ?_; rintro e w1 ⟨rfl, hb1⟩; rw [hpm2]))
  go_ret2
  exact ⟨rfl, hb1⟩
end Vr
end Go.Proofs.YtoneabcbeikkhaaGreatDoor
