/- What the small functions of package class answer (Blank, Break, Sign, Bare, Letter, Digit), in the program and in the reference, for every byte. -/
import Derived.Test.YtgdjeemmklmpfaaClsA
namespace Go.Proofs.Ytgdjeemmklmpfaa
open Go.RowKit
namespace Cls

set_option maxHeartbeats 400000 in
theorem blank_any (n : Nat) (w : World) :
    Calls Try.prog 95 #[.int .u8 n] w fun e w' => e = .returned (.bool (blankB n)) ∧ w = w' := by
  go_enter Try.func95, Try.ntmps95
  go_wp2_with fail
  all_goals (go_ret; exact ⟨ret_bool (by first | rfl | (simp only [blankB, *]; done) | (simp only [blankB, *]; rfl)), rfl⟩)



set_option maxHeartbeats 400000 in
theorem sign_any (n : Nat) (w : World) :
    Calls Try.prog 89 #[.int .u8 n] w fun e w' => e = .returned (.bool (signB n)) ∧ w = w' := by
  go_enter Try.func89, Try.ntmps89
  go_wp2_with fail
  all_goals (go_ret; exact ⟨ret_bool (by first | rfl | (simp only [signB, *]; done) | (simp only [signB, *]; rfl)), rfl⟩)

set_option maxHeartbeats 400000 in
theorem quoting_any (n : Nat) (w : World) :
    Calls Try.prog 90 #[.int .u8 n] w fun e w' => e = .returned (.bool (quoteB n)) ∧ w = w' := by
  go_enter Try.func90, Try.ntmps90
  go_wp2_with fail
  all_goals (go_ret; exact ⟨ret_bool (by first | rfl | (simp only [quoteB, *]; done) | (simp only [quoteB, *]; rfl)), rfl⟩)

set_option maxHeartbeats 400000 in
theorem letter_any (n : Nat) (w : World) :
    Calls Try.prog 61 #[.int .u8 n] w fun e w' => e = .returned (.bool (letterB n)) ∧ w = w' := by
  go_enter Try.func61, Try.ntmps61
  go_wp2_with fail
  all_goals (go_ret; exact ⟨ret_bool (by rw [Bool.eq_iff_iff]; simp [letterB]; omega), rfl⟩)

set_option maxHeartbeats 400000 in
theorem digit_any (n : Nat) (w : World) :
    Calls Try.prog 62 #[.int .u8 n] w fun e w' => e = .returned (.bool (digitB n)) ∧ w = w' := by
  go_enter Try.func62, Try.ntmps62
  go_wp2_with fail
  all_goals (go_ret; exact ⟨ret_bool (by rw [Bool.eq_iff_iff]; simp [digitB]; omega), rfl⟩)

set_option maxHeartbeats 400000 in
theorem break_any (n : Nat) (w : World) :
    Calls Try.prog 88 #[.int .u8 n] w fun e w' => e = .returned (.bool (breakB n)) ∧ w = w' := by
  cases hb : blankB n
  all_goals
    have HB := Lib.hid hb
    go_enter Try.func88, Try.ntmps88
    go_wp2_with (go_at_call 95; refine (blank_any _ _).mono ?_; rintro e w' ⟨rfl, rfl⟩)
    all_goals (go_ret; exact ⟨ret_bool (by have := HB.out; unfold blankB at this; simp [breakB, this]), rfl⟩)

set_option maxHeartbeats 400000 in
theorem bare_any (n : Nat) (w : World) :
    Calls Try.prog 80 #[.int .u8 n] w fun e w' => e = .returned (.bool (bareB n)) ∧ w = w' := by
  unfold bareB
  cases hb : breakB n <;> cases hs : signB n
  all_goals
    go_enter Try.func80, Try.ntmps80
    go_wp2_with (first
      | (go_at_call 88; refine (break_any _ _).mono ?_; rintro e w' ⟨rfl, rfl⟩)
      | (go_at_call 89; refine (sign_any _ _).mono ?_; rintro e w' ⟨rfl, rfl⟩)
      | (go_at_call 90; refine (quoting_any _ _).mono ?_; rintro e w' ⟨rfl, rfl⟩))
    all_goals (go_ret; exact ⟨rfl, rfl⟩)

/-- What among has asked so far. -/
theorem among_snoc {n k : Nat} {l : List UInt8} (h : amongB n (l.take k) = false) (hk : k < l.length) (hn : (l.getD k 0).toNat ≠ n) : amongB n (l.take (k + 1)) = false := by
  rw [List.take_succ_eq_append_getElem hk]
  unfold amongB at h ⊢
  rw [List.any_append, h]
  simp only [List.getD, List.getElem?_eq_getElem hk, Option.getD_some] at hn
  simp [hn]
theorem among_hit {n k : Nat} {l : List UInt8} (hk : k < l.length) (hn : (l.getD k 0).toNat = n) : amongB n l = true := by
  unfold amongB
  simp only [List.getD, List.getElem?_eq_getElem hk, Option.getD_some] at hn
  rw [List.any_eq_true]
  exact ⟨l[k], List.getElem_mem hk, by simp [hn]⟩
theorem getB {s : ByteArray} {k : Nat} (h : k < s.size) : s[k] = s.data.toList.getD k 0 := by
  have : k < s.data.toList.length := by simpa using h
  simp only [List.getD, List.getElem?_eq_getElem this, Option.getD_some]
  rfl


end Cls
end Go.Proofs.Ytgdjeemmklmpfaa
