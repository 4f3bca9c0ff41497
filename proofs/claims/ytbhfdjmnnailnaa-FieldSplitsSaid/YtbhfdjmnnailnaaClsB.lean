/- What the small functions of package class answer (Blank, Break, Sign, Bare, Letter, Digit), in the program and in the reference, for every byte. -/
import Derived.Test.YtbhfdjmnnailnaaClsA
namespace Go.Proofs.Ytbhfdjmnnailnaa
open Go.RowKit
namespace Cls

set_option maxHeartbeats 400000 in
theorem blank_any (n : Nat) (w : World) :
    Calls Try.prog 24 #[.int .u8 n] w fun e w' => e = .returned (.bool (blankB n)) ∧ w = w' := by
  go_enter Try.func24, Try.ntmps24
  go_wp2_with fail
  all_goals (go_ret; exact ⟨ret_bool (by first | rfl | (simp only [blankB, *]; done) | (simp only [blankB, *]; rfl)), rfl⟩)


set_option maxHeartbeats 400000 in
theorem rbreak_any (n : Nat) (w : World) :
    Calls Try.prog 29 #[.int .u8 n] w fun e w' => e = .returned (.bool (breakB n)) ∧ w = w' := by
  go_enter Try.func29, Try.ntmps29
  go_wp2_with fail
  all_goals (go_ret; exact ⟨ret_bool (by first | rfl | (simp only [breakB, *]; done) | (simp only [breakB, *]; rfl)), rfl⟩)





set_option maxHeartbeats 400000 in
theorem break_any (n : Nat) (w : World) :
    Calls Try.prog 14 #[.int .u8 n] w fun e w' => e = .returned (.bool (breakB n)) ∧ w = w' := by
  cases hb : blankB n
  all_goals
    have HB := Lib.hid hb
    go_enter Try.func14, Try.ntmps14
    go_wp2_with (go_at_call 24; refine (blank_any _ _).mono ?_; rintro e w' ⟨rfl, rfl⟩)
    all_goals (go_ret; exact ⟨ret_bool (by have := HB.out; unfold blankB at this; simp [breakB, this]), rfl⟩)


/-- What among has asked so far. -/
theorem among_snoc {n k : Nat} {l : List UInt8} (h : amongB n (l.take k) = false) (hk : k < l.length) (hn : (l.getD k 0).toNat ≠ n) : amongB n (l.take (k + 1)) = false := by
  rw [List.take_succ_eq_append_getElem hk]
  unfold amongB at h ⊢
  rw [List.any_append, h]
  simp only [List.getD, List.getElem?_eq_getElem hk, Option.getD_some] at hn
  simp [hn]
theorem among_hit {n k : Nat} {l : List UInt8} (hk : k < l.length) (hn : (l.getD k 0).toNat = n) : amongB n l = true := by
  unfold amongB
  simp only [List.getD, List.getElem?_eq_getElem hk, Option.getD_some] at hn
  rw [List.any_eq_true]
  exact ⟨l[k], List.getElem_mem hk, by simp [hn]⟩
theorem getB {s : ByteArray} {k : Nat} (h : k < s.size) : s[k] = s.data.toList.getD k 0 := by
  have : k < s.data.toList.length := by simpa using h
  simp only [List.getD, List.getElem?_eq_getElem this, Option.getD_some]
  rfl


end Cls
end Go.Proofs.Ytbhfdjmnnailnaa
