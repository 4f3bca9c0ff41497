/- Get: what a parameter means. -/
import Derived.Test.YtoneabcbeikkhaaGreatDoorVrE
import Derived.Test.YtoneabcbeikkhaaGreatDoorClsN
import Derived.Lib.SmallJoins
import Derived.Lib.AppendIntMem
namespace Go.Proofs.YtoneabcbeikkhaaGreatDoor
open Go.RowKit Go.Maps Cls
namespace Vr

def Tab (w : World) : Prop := Lib.TabIs Tryz.prog w "internal/strconv.uint64pow10" .u64 Lib.pow10Tab
theorem Tab.stay {w w' : World} (h : Tab w) (hb : Below w.heap.size w w') : Tab w' := Go.Joins.tab_stays (g := 1) (by kernel_rfl) h hb (Nat.le_refl _)

theorem itoa_any (n : Int) (h0 : -9223372036854775808 ≤ n) (h1 : n ≤ 9223372036854775807) (w : World) (ht : Tab w) :
    Calls Tryz.prog 56 #[.int .i64 n] w fun e w' => e = .returned (.string (tx (Lib.itoa n))) ∧ Below w.heap.size w w' := by
  refine (Tryz.strconv_Itoa n h0 h1 w ht).mono ?_
  rintro e w' ⟨rfl, k, os, rfl⟩
  exact ⟨rfl, Lib.below_grow _ _ (Nat.le_refl _) _ _⟩

set_option maxHeartbeats 1000000 in
theorem started_any (s : St) (B q : Nat) (w : World) (mv av : Value) (hsc : Sc w B q s mv av) (ht : Tab w) (h0 : -9223372036854775808 ≤ s.la) (h1 : s.la ≤ 9223372036854775807) :
    Calls Tryz.prog 57 #[.pointer (some ⟨q, 0, none⟩)] w fun e w' => e = .returned (out (if s.la = 0 then none else some (tx (Lib.itoa s.la)))) ∧ Below w.heap.size w w' := by
  have c3 : w.cell? ⟨q, 3, none⟩ = some (.int .i64 s.la) := cell_of_row _ _ _ _ _ _ hsc.cells
  have hi := itoa_any s.la h0 h1 w ht
  clear hsc
  go_enter Tryz.func57, Tryz.ntmps57
  by_cases hz : s.la = 0
  · rw [if_pos hz]
    rw [hz] at c3
    go_wp2_with fail
    go_ret2
    exact ⟨rfl, Below.refl _ _⟩
  · rw [if_neg hz]
    go_wp2_with (go_at_call 56; refine hi.mono ?_; rintro e w1 ⟨rfl, hb⟩)
    go_ret2
    exact ⟨rfl, hb⟩
set_option maxHeartbeats 1000000 in
theorem argument_any (s : St) (B q : Nat) (n : ByteArray) (w : World) (mv av : Value) (hsc : Sc w B q s mv av) (k : Nat) (hk : 1 ≤ k) (hk2 : k ≤ 999) (hn : bs n = Lib.decDigits k) :
    Calls Tryz.prog 59 #[.pointer (some ⟨q, 0, none⟩), .string n] w fun e w' => e = .returned (out (s.args[k - 1]?)) ∧ Below w.heap.size w w' := by
  have hsz : n.size ≤ 18 := by
    have := congrArg List.length hn
    rw [Lib.decDigits_length] at this
    have h2 : Lib.nDigits k ≤ 3 := by
      rcases Nat.lt_or_ge k 10 with h | h
      · rw [Lib.nDigits_unique 0 k (by omega) (by omega)]; omega
      · rcases Nat.lt_or_ge k 100 with h | h
        · rw [Lib.nDigits_unique 1 k (by omega) (by omega)]; omega
        · rw [Lib.nDigits_unique 2 k (by omega) (by omega)]; omega
    rw [lenB] at this; omega
  have hat : Calls Tryz.prog 82 #[.string n] w fun e w' => e = .returned (.tuple #[.int .i64 k, .nilIface]) ∧ Below w.heap.size w w' := by
    refine (Tryz.strconv_Atoi n k hsz (by rw [show n.data.toList = bs n from rfl, hn]; exact atoi_digits k) w).mono ?_
    rintro e w' ⟨rfl, t, rfl⟩
    exact ⟨rfl, Go.Joins.below_bytesWorld _ _ _ _ (Nat.le_refl _)⟩
  have hrow := hsc.cells
  have hargs := hsc.args
  have hlt := hsc.lt
  have H := Lib.hid hsc
  clear hsc
  rcases hargs with ⟨rfl, hnil⟩ | ⟨g, off, cap, cur, rfl, hb, h1, h2, h3, hh, h4⟩
  · rw [hnil]
    have hk1 : ¬ (k : Int) < 1 := by omega
    have hk3 : (0 : Int) < (k : Int) := by omega
    go_enter Tryz.func59, Tryz.ntmps59
    go_wp2_with (go_at_call 82; refine hat.mono ?_; rintro e w1 ⟨rfl, hb⟩; have c1 := cell_of_row _ _ 1 _ _ _ ((hb.block q hlt).trans hrow); simp at c1)
    go_ret2
    exact ⟨rfl, hb⟩
  · have hg := (Array.getElem?_eq_some_iff.1 hh).1
    by_cases hin : k ≤ s.args.length
    · have hx : s.args[k - 1]? = some (s.args[k - 1]'(by omega)) := List.getElem?_eq_getElem (by omega)
      have hcur := h4 _ _ hx
      rw [hx]
      generalize s.args[k - 1] = y at hcur ⊢
      have hk1 : ¬ (k : Int) < 1 := by omega
      have hk3 : ¬ (s.args.length : Int) < (k : Int) := by omega
      go_enter Tryz.func59, Tryz.ntmps59
      go_wp2_with (go_at_call 82; refine hat.mono ?_; rintro e w1 ⟨rfl, hb⟩; have c1 := cell_of_row _ _ 1 _ _ _ ((hb.block q hlt).trans hrow); simp at c1; have d1 := cell_of_row _ _ (off + (k - 1)) _ _ _ ((hb.block g hg).trans hh); rw [hcur] at d1)
      go_ret2
      exact ⟨rfl, hb⟩
    · have hx : s.args[k - 1]? = none := List.getElem?_eq_none (by omega)
      rw [hx]
      have hk1 : ¬ (k : Int) < 1 := by omega
      have hk3 : (s.args.length : Int) < (k : Int) := by omega
      go_enter Tryz.func59, Tryz.ntmps59
      go_wp2_with (go_at_call 82; refine hat.mono ?_; rintro e w1 ⟨rfl, hb⟩; have c1 := cell_of_row _ _ 1 _ _ _ ((hb.block q hlt).trans hrow); simp at c1)
      go_ret2
      exact ⟨rfl, hb⟩
end Vr
end Go.Proofs.YtoneabcbeikkhaaGreatDoor
