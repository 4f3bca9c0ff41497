/- What the small functions of package class answer (Blank, Break, Sign, Bare, Letter, Digit), in the program and in the reference, for every byte. -/
import Derived.Test.YtpphoaidnpkgpaaDoorClsA
namespace Go.Proofs.YtpphoaidnpkgpaaDoor
open Go.RowKit
namespace Cls






set_option maxHeartbeats 400000 in
theorem letter_any (n : Nat) (w : World) :
    Calls Tryd.prog 24 #[.int .u8 n] w fun e w' => e = .returned (.bool (letterB n)) ∧ w = w' := by
  go_enter Tryd.func24, Tryd.ntmps24
  go_wp2_with fail
  all_goals (go_ret; exact ⟨ret_bool (by rw [Bool.eq_iff_iff]; simp [letterB]; omega), rfl⟩)

set_option maxHeartbeats 400000 in
theorem digit_any (n : Nat) (w : World) :
    Calls Tryd.prog 25 #[.int .u8 n] w fun e w' => e = .returned (.bool (digitB n)) ∧ w = w' := by
  go_enter Tryd.func25, Tryd.ntmps25
  go_wp2_with fail
  all_goals (go_ret; exact ⟨ret_bool (by rw [Bool.eq_iff_iff]; simp [digitB]; omega), rfl⟩)



/-- What among has asked so far. -/
theorem among_snoc {n k : Nat} {l : List UInt8} (h : amongB n (l.take k) = false) (hk : k < l.length) (hn : (l.getD k 0).toNat ≠ n) : amongB n (l.take (k + 1)) = false := by
  rw [List.take_succ_eq_append_getElem hk]
  unfold amongB at h ⊢
  rw [List.any_append, h]
  simp only [List.getD, List.getElem?_eq_getElem hk, Option.getD_some] at hn
  simp [hn]
theorem among_hit {n k : Nat} {l : List UInt8} (hk : k < l.length) (hn : (l.getD k 0).toNat = n) : amongB n l = true := by
  unfold amongB
  simp only [List.getD, List.getElem?_eq_getElem hk, Option.getD_some] at hn
  rw [List.any_eq_true]
  exact ⟨l[k], List.getElem_mem hk, by simp [hn]⟩
theorem getB {s : ByteArray} {k : Nat} (h : k < s.size) : s[k] = s.data.toList.getD k 0 := by
  have : k < s.data.toList.length := by simpa using h
  simp only [List.getD, List.getElem?_eq_getElem this, Option.getD_some]
  rfl


end Cls
end Go.Proofs.YtpphoaidnpkgpaaDoor
