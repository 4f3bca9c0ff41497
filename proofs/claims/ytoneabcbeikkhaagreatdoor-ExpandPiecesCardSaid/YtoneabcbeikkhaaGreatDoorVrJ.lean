/- Get: what a parameter means. -/
import Derived.Test.YtoneabcbeikkhaaGreatDoorVrI
import Derived.Maps.StringElems
namespace Go.Proofs.YtoneabcbeikkhaaGreatDoor
open Go.RowKit Go.Maps Cls
namespace Vr

set_option maxRecDepth 4000 in
set_option maxHeartbeats 2000000 in
theorem get_name (s : St) (B q : Nat) (n : ByteArray) (w : World) (mv av : Value) (hsc : Sc w B q s mv av) (hn : n.size ≤ maxLen) (hname : nameL (bs n) = true) :
    Calls Tryz.prog 31 #[.pointer (some ⟨q, 0, none⟩), .string n] w fun e w' => e = .returned (out (getV s.vs n)) ∧ Below w.heap.size w w' := by
  have hNS : n.size ≤ 9223372036854775807 := by unfold maxLen at hn; omega
  have c0 : w.cell? ⟨q, 0, none⟩ = some mv := cell_of_row _ _ _ _ _ _ hsc.cells
  have hvars := hsc.vars
  clear hsc
  have hkey : keyOf Tryz.prog 9 (.string n) = some (.string (bs n)) := WideMaps.keyOf_string_mk Tryz.underlying9 hn
  have hz := plainElem_string (H := Nat) Tryz.underlying9 (s := tx []) (by decide)
  rcases hvars with ⟨rfl, hnil⟩ | ⟨b, rfl, hb, hown⟩
  · rw [hnil]
    have hlk := Maps.look_nil (P := Tryz.prog) (w := w) true keyed Tryz.underlying56 (zeroS w) hkey
    go_enter Tryz.func31, Tryz.ntmps31
    go_wp2_with (first
      | (go_at_call 43; refine (name_any n _ hNS).mono ?_; rintro e w' ⟨rfl, rfl⟩; rw [show nameL n.data.toList = true from hname]))
    go_ret2
    exact ⟨rfl, Below.refl _ _⟩
  · have hat := at_D (H := Nat) s.vs n (.lit (.string (tx []).data.toList))
    have hhas := has_D (H := Nat) s.vs n
    have kk : ∀ v ps, plainElem (H := Nat) Tryz.prog 9 v = some ((D s.vs).atKey (.string (bs n)) (.lit (.string (tx []).data.toList)), ps) → v = .string ((getV s.vs n).getD (tx [])) := by
      intro v ps h
      obtain ⟨x, rfl, hx, _⟩ := plainElem_string_inv Tryz.underlying9 h
      rw [hat] at hx
      congr 1
      have h2 := congrArg Prod.fst hx
      simp only at h2
      apply bs_inj
      cases hg : getV s.vs n with
      | none => rw [hg] at h2; simp only at h2; injection h2 with h2; injection h2 with h2; exact h2.symm
      | some y => rw [hg] at h2; simp only at h2; injection h2 with h2; injection h2 with h2; exact h2.symm
    go_enter Tryz.func31, Tryz.ntmps31
    go_wp2_with (first
      | (go_at_call 43; refine (name_any n _ hNS).mono ?_; rintro e w' ⟨rfl, rfl⟩; rw [show nameL n.data.toList = true from hname])
      | (at_lookup; refine wpList_lookup_own_ok _ rfl _ _ 56 rfl 9 9 keyed Tryz.underlying56 _ (zeroS _) _ [] hz b _ _ rfl hown _ _ rfl hkey ?_; intro v ps hv; obtain rfl := kk v ps hv; rw [hhas]))
    go_ret2
    exact ⟨by cases getV s.vs n <;> rfl, Below.refl _ _⟩

theorem tests (n : ByteArray) (l : List UInt8) : (n.toList == l) = (bs n == l) := by rw [Lib.toList_data]

set_option maxRecDepth 4000 in
set_option maxHeartbeats 2000000 in
theorem get_sh (s : St) (B q : Nat) (n : ByteArray) (w : World) (mv av : Value) (hsc : Sc w B q s mv av) (hbs : bs n = [48]) :
    Calls Tryz.prog 31 #[.pointer (some ⟨q, 0, none⟩), .string n] w fun e w' => e = .returned (out (some (tx [115, 104]))) ∧ Below w.heap.size w w' := by
  have hNS : n.size ≤ 9223372036854775807 := by have := congrArg List.length hbs; rw [lenB] at this; simp at this; omega
  have hnm : nameL n.data.toList = false := by rw [show n.data.toList = bs n from rfl, hbs]; decide
  have hpm : paramL n.data.toList = true := by rw [show n.data.toList = bs n from rfl, hbs]; decide
  have t1 : (n.toList == [48]) = true := by rw [tests, hbs]; decide
  have t2 : (n.toList == [35]) = false := by rw [tests, hbs]; decide
  have t3 : (n.toList == [63]) = false := by rw [tests, hbs]; decide
  have t4 : (n.toList == [36]) = false := by rw [tests, hbs]; decide
  have t5 : (n.toList == [33]) = false := by rw [tests, hbs]; decide
  have t6 : (n.toList == [64]) = false := by rw [tests, hbs]; decide
  have t7 : (n.toList == [42]) = false := by rw [tests, hbs]; decide
  go_enter Tryz.func31, Tryz.ntmps31
  go_wp2_with (first
    | (go_at_call 43; refine (name_any n _ hNS).mono ?_; rintro e w' ⟨rfl, rfl⟩; rw [hnm])
    | (go_at_call 55; refine (param_any n _ hNS).mono ?_; rintro e w1 ⟨rfl, hb1⟩; rw [hpm]))
  go_ret2
  exact ⟨rfl, hb1⟩

set_option maxRecDepth 4000 in
set_option maxHeartbeats 2000000 in
theorem get_pid (s : St) (B q : Nat) (n : ByteArray) (w : World) (mv av : Value) (hsc : Sc w B q s mv av) (hbs : bs n = [36]) :
    Calls Tryz.prog 31 #[.pointer (some ⟨q, 0, none⟩), .string n] w fun e w' => e = .returned (out (some (tx [49]))) ∧ Below w.heap.size w w' := by
  have hNS : n.size ≤ 9223372036854775807 := by have := congrArg List.length hbs; rw [lenB] at this; simp at this; omega
  have hnm : nameL n.data.toList = false := by rw [show n.data.toList = bs n from rfl, hbs]; decide
  have hpm : paramL n.data.toList = true := by rw [show n.data.toList = bs n from rfl, hbs]; decide
  have t1 : (n.toList == [48]) = false := by rw [tests, hbs]; decide
  have t2 : (n.toList == [35]) = false := by rw [tests, hbs]; decide
  have t3 : (n.toList == [63]) = false := by rw [tests, hbs]; decide
  have t4 : (n.toList == [36]) = true := by rw [tests, hbs]; decide
  have t5 : (n.toList == [33]) = false := by rw [tests, hbs]; decide
  have t6 : (n.toList == [64]) = false := by rw [tests, hbs]; decide
  have t7 : (n.toList == [42]) = false := by rw [tests, hbs]; decide
  go_enter Tryz.func31, Tryz.ntmps31
  go_wp2_with (first
    | (go_at_call 43; refine (name_any n _ hNS).mono ?_; rintro e w' ⟨rfl, rfl⟩; rw [hnm])
    | (go_at_call 55; refine (param_any n _ hNS).mono ?_; rintro e w1 ⟨rfl, hb1⟩; rw [hpm]))
  go_ret2
  exact ⟨rfl, hb1⟩

set_option maxRecDepth 4000 in
set_option maxHeartbeats 2000000 in
theorem get_status (s : St) (B q : Nat) (n : ByteArray) (w : World) (mv av : Value) (hsc : Sc w B q s mv av) (ht : Tab w) (h0 : -9223372036854775808 ≤ s.st) (h1 : s.st ≤ 9223372036854775807) (hbs : bs n = [63]) :
    Calls Tryz.prog 31 #[.pointer (some ⟨q, 0, none⟩), .string n] w fun e w' => e = .returned (out (some (tx (Lib.itoa s.st)))) ∧ Below w.heap.size w w' := by
  have hNS : n.size ≤ 9223372036854775807 := by have := congrArg List.length hbs; rw [lenB] at this; simp at this; omega
  have hnm : nameL n.data.toList = false := by rw [show n.data.toList = bs n from rfl, hbs]; decide
  have hpm : paramL n.data.toList = true := by rw [show n.data.toList = bs n from rfl, hbs]; decide
  have t1 : (n.toList == [48]) = false := by rw [tests, hbs]; decide
  have t2 : (n.toList == [35]) = false := by rw [tests, hbs]; decide
  have t3 : (n.toList == [63]) = true := by rw [tests, hbs]; decide
  have t4 : (n.toList == [36]) = false := by rw [tests, hbs]; decide
  have t5 : (n.toList == [33]) = false := by rw [tests, hbs]; decide
  have t6 : (n.toList == [64]) = false := by rw [tests, hbs]; decide
  have t7 : (n.toList == [42]) = false := by rw [tests, hbs]; decide
  have H := Lib.hid hsc; clear hsc
  go_enter Tryz.func31, Tryz.ntmps31
  go_wp2_with (first
    | (go_at_call 43; refine (name_any n _ hNS).mono ?_; rintro e w' ⟨rfl, rfl⟩; rw [hnm])
    | (go_at_call 55; refine (param_any n _ hNS).mono ?_; rintro e w1 ⟨rfl, hb1⟩; rw [hpm]; have c2 := cell_of_row _ _ 2 _ _ _ (H.out.stay hb1).cells; simp at c2)
    | (go_at_call 56; refine (itoa_any s.st h0 h1 _ (ht.stay hb1)).mono ?_; rintro e w2 ⟨rfl, hb2⟩))
  go_ret2
  exact ⟨rfl, hb1.trans (hb2.mono hb1.size)⟩

set_option maxRecDepth 4000 in
set_option maxHeartbeats 2000000 in
theorem get_last (s : St) (B q : Nat) (n : ByteArray) (w : World) (mv av : Value) (hsc : Sc w B q s mv av) (ht : Tab w) (h0 : -9223372036854775808 ≤ s.la) (h1 : s.la ≤ 9223372036854775807) (hbs : bs n = [33]) :
    Calls Tryz.prog 31 #[.pointer (some ⟨q, 0, none⟩), .string n] w fun e w' => e = .returned (out (if s.la = 0 then none else some (tx (Lib.itoa s.la)))) ∧ Below w.heap.size w w' := by
  have hNS : n.size ≤ 9223372036854775807 := by have := congrArg List.length hbs; rw [lenB] at this; simp at this; omega
  have hnm : nameL n.data.toList = false := by rw [show n.data.toList = bs n from rfl, hbs]; decide
  have hpm : paramL n.data.toList = true := by rw [show n.data.toList = bs n from rfl, hbs]; decide
  have t1 : (n.toList == [48]) = false := by rw [tests, hbs]; decide
  have t2 : (n.toList == [35]) = false := by rw [tests, hbs]; decide
  have t3 : (n.toList == [63]) = false := by rw [tests, hbs]; decide
  have t4 : (n.toList == [36]) = false := by rw [tests, hbs]; decide
  have t5 : (n.toList == [33]) = true := by rw [tests, hbs]; decide
  have t6 : (n.toList == [64]) = false := by rw [tests, hbs]; decide
  have t7 : (n.toList == [42]) = false := by rw [tests, hbs]; decide
  have H := Lib.hid hsc; clear hsc
  go_enter Tryz.func31, Tryz.ntmps31
  go_wp2_with (first
    | (go_at_call 43; refine (name_any n _ hNS).mono ?_; rintro e w' ⟨rfl, rfl⟩; rw [hnm])
    | (go_at_call 55; refine (param_any n _ hNS).mono ?_; rintro e w1 ⟨rfl, hb1⟩; rw [hpm])
    | (go_at_call 57; refine (started_any s B q _ mv av (H.out.stay hb1) (ht.stay hb1) h0 h1).mono ?_; rintro e w2 ⟨rfl, hb2⟩))
  all_goals (go_ret2; exact ⟨rfl, hb1.trans (hb2.mono hb1.size)⟩)

set_option maxRecDepth 4000 in
set_option maxHeartbeats 2000000 in
theorem get_count (s : St) (B q : Nat) (n : ByteArray) (w : World) (mv av : Value) (hsc : Sc w B q s mv av) (ht : Tab w) (hl : s.args.length ≤ 1000000) (hbs : bs n = [35]) :
    Calls Tryz.prog 31 #[.pointer (some ⟨q, 0, none⟩), .string n] w fun e w' => e = .returned (out (some (tx (Lib.itoa s.args.length)))) ∧ Below w.heap.size w w' := by
  have hNS : n.size ≤ 9223372036854775807 := by have := congrArg List.length hbs; rw [lenB] at this; simp at this; omega
  have hnm : nameL n.data.toList = false := by rw [show n.data.toList = bs n from rfl, hbs]; decide
  have hpm : paramL n.data.toList = true := by rw [show n.data.toList = bs n from rfl, hbs]; decide
  have t1 : (n.toList == [48]) = false := by rw [tests, hbs]; decide
  have t2 : (n.toList == [35]) = true := by rw [tests, hbs]; decide
  have t3 : (n.toList == [63]) = false := by rw [tests, hbs]; decide
  have t4 : (n.toList == [36]) = false := by rw [tests, hbs]; decide
  have t5 : (n.toList == [33]) = false := by rw [tests, hbs]; decide
  have t6 : (n.toList == [64]) = false := by rw [tests, hbs]; decide
  have t7 : (n.toList == [42]) = false := by rw [tests, hbs]; decide
  obtain ⟨a0, n0, k0, hav, hlen⟩ := hsc.args.len
  subst hlen
  subst hav
  have H := Lib.hid hsc; clear hsc
  go_enter Tryz.func31, Tryz.ntmps31
  go_wp2_with (first
    | (go_at_call 43; refine (name_any n _ hNS).mono ?_; rintro e w' ⟨rfl, rfl⟩; rw [hnm])
    | (go_at_call 55; refine (param_any n _ hNS).mono ?_; rintro e w1 ⟨rfl, hb1⟩; rw [hpm]; have c2 := cell_of_row _ _ 1 _ _ _ (H.out.stay hb1).cells; simp at c2)
    | (go_at_call 56; refine (itoa_any s.args.length (by omega) (by omega) _ (ht.stay hb1)).mono ?_; rintro e w2 ⟨rfl, hb2⟩))
  go_ret2
  exact ⟨rfl, hb1.trans (hb2.mono hb1.size)⟩
end Vr
end Go.Proofs.YtoneabcbeikkhaaGreatDoor
