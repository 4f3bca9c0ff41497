/- What the small functions of package class answer (Blank, Break, Sign, Bare, Letter, Digit), in the program and in the reference, for every byte. -/
import Derived.Test.YtpjdpmlneefafaaDoorClsA
namespace Go.Proofs.YtpjdpmlneefafaaDoor
open Go.RowKit
namespace Cls

set_option maxHeartbeats 400000 in
theorem blank_any (n : Nat) (w : World) :
    Calls Tryd.prog 74 #[.int .u8 n] w fun e w' => e = .returned (.bool (blankB n)) ∧ w = w' := by
  go_enter Tryd.func74, Tryd.ntmps74
  go_wp2_with fail
  all_goals (go_ret; exact ⟨ret_bool (by first | rfl | (simp only [blankB, *]; done) | (simp only [blankB, *]; rfl)), rfl⟩)



set_option maxHeartbeats 400000 in
theorem sign_any (n : Nat) (w : World) :
    Calls Tryd.prog 70 #[.int .u8 n] w fun e w' => e = .returned (.bool (signB n)) ∧ w = w' := by
  go_enter Tryd.func70, Tryd.ntmps70
  go_wp2_with fail
  all_goals (go_ret; exact ⟨ret_bool (by first | rfl | (simp only [signB, *]; done) | (simp only [signB, *]; rfl)), rfl⟩)

set_option maxHeartbeats 400000 in
theorem quoting_any (n : Nat) (w : World) :
    Calls Tryd.prog 71 #[.int .u8 n] w fun e w' => e = .returned (.bool (quoteB n)) ∧ w = w' := by
  go_enter Tryd.func71, Tryd.ntmps71
  go_wp2_with fail
  all_goals (go_ret; exact ⟨ret_bool (by first | rfl | (simp only [quoteB, *]; done) | (simp only [quoteB, *]; rfl)), rfl⟩)

set_option maxHeartbeats 400000 in
theorem letter_any (n : Nat) (w : World) :
    Calls Tryd.prog 29 #[.int .u8 n] w fun e w' => e = .returned (.bool (letterB n)) ∧ w = w' := by
  go_enter Tryd.func29, Tryd.ntmps29
  go_wp2_with fail
  all_goals (go_ret; exact ⟨ret_bool (by rw [Bool.eq_iff_iff]; simp [letterB]; omega), rfl⟩)

set_option maxHeartbeats 400000 in
theorem digit_any (n : Nat) (w : World) :
    Calls Tryd.prog 30 #[.int .u8 n] w fun e w' => e = .returned (.bool (digitB n)) ∧ w = w' := by
  go_enter Tryd.func30, Tryd.ntmps30
  go_wp2_with fail
  all_goals (go_ret; exact ⟨ret_bool (by rw [Bool.eq_iff_iff]; simp [digitB]; omega), rfl⟩)

set_option maxHeartbeats 400000 in
theorem break_any (n : Nat) (w : World) :
    Calls Tryd.prog 69 #[.int .u8 n] w fun e w' => e = .returned (.bool (breakB n)) ∧ w = w' := by
  cases hb : blankB n
  all_goals
    have HB := Lib.hid hb
    go_enter Tryd.func69, Tryd.ntmps69
    go_wp2_with (go_at_call 74; refine (blank_any _ _).mono ?_; rintro e w' ⟨rfl, rfl⟩)
    all_goals (go_ret; exact ⟨ret_bool (by have := HB.out; unfold blankB at this; simp [breakB, this]), rfl⟩)

set_option maxHeartbeats 400000 in
theorem bare_any (n : Nat) (w : World) :
    Calls Tryd.prog 66 #[.int .u8 n] w fun e w' => e = .returned (.bool (bareB n)) ∧ w = w' := by
  unfold bareB
  cases hb : breakB n <;> cases hs : signB n
  all_goals
    go_enter Tryd.func66, Tryd.ntmps66
    go_wp2_with (first
      | (go_at_call 69; refine (break_any _ _).mono ?_; rintro e w' ⟨rfl, rfl⟩)
      | (go_at_call 70; refine (sign_any _ _).mono ?_; rintro e w' ⟨rfl, rfl⟩)
      | (go_at_call 71; refine (quoting_any _ _).mono ?_; rintro e w' ⟨rfl, rfl⟩))
    all_goals (go_ret; exact ⟨rfl, rfl⟩)

/-- What among has asked so far. -/
theorem among_snoc {n k : Nat} {l : List UInt8} (h : amongB n (l.take k) = false) (hk : k < l.length) (hn : (l.getD k 0).toNat ≠ n) : amongB n (l.take (k + 1)) = false := by
  rw [List.take_succ_eq_append_getElem hk]
  unfold amongB at h ⊢
  rw [List.any_append, h]
  simp only [List.getD, List.getElem?_eq_getElem hk, Option.getD_some] at hn
  simp [hn]
theorem among_hit {n k : Nat} {l : List UInt8} (hk : k < l.length) (hn : (l.getD k 0).toNat = n) : amongB n l = true := by
  unfold amongB
  simp only [List.getD, List.getElem?_eq_getElem hk, Option.getD_some] at hn
  rw [List.any_eq_true]
  exact ⟨l[k], List.getElem_mem hk, by simp [hn]⟩
theorem getB {s : ByteArray} {k : Nat} (h : k < s.size) : s[k] = s.data.toList.getD k 0 := by
  have : k < s.data.toList.length := by simpa using h
  simp only [List.getD, List.getElem?_eq_getElem this, Option.getD_some]
  rfl

set_option maxHeartbeats 400000 in
theorem ramong_any (n : Nat) (s : ByteArray) (w : World) (hs : s.size ≤ 9223372036854775807) :
    Calls Tryd.prog 40 #[.int .u8 n, .string s] w fun e w' => e = .returned (.bool (amongB n s.data.toList)) ∧ w = w' := by
  go_enter Tryd.func40, Tryd.ntmps40
  go_wp2
  go_loop [5] (fun i => ∃ k : Nat, k ≤ s.size ∧ i = .int .i64 k ∧ amongB n (s.data.toList.take k) = false) (fun i => s.size - (intOf i).toNat)
  case atStart => exact ⟨0, Nat.zero_le _, rfl, rfl⟩
  case round =>
    obtain ⟨k, hk, rfl, hr⟩ := hrel
    have HR := Lib.hid hr; clear hr
    by_cases hlt : k < s.size
    · have hlt' : k < s.data.toList.length := by simpa using hlt
      by_cases hn : s[k].toNat = n
      · have hb : ((s[k].toNat : Int) == (n : Int)) = true := by simp [hn]
        have HN := Lib.hid hn; clear hn
        go_wp2
        go_ret
        exact ⟨ret_bool (among_hit hlt' (by rw [← getB hlt]; exact HN.out)).symm, rfl⟩
      · have hb : ((s[k].toNat : Int) == (n : Int)) = false := by simp; omega
        have HN := Lib.hid hn; clear hn
        go_wp2
        go_round
        case rel => exact ⟨k + 1, by omega, by go_num, among_snoc HR.out hlt' (by rw [← getB hlt]; exact HN.out)⟩
        case measure => simp [intOf]; omega
    · go_wp2
      go_ret
      exact ⟨ret_bool (by rw [← HR.out, List.take_of_length_le (by simp; omega)]), rfl⟩

set_option maxHeartbeats 400000 in
theorem rletter_any (n : Nat) (hn : n < 256) (w : World) :
    Calls Tryd.prog 31 #[.int .u8 n] w fun e w' => e = .returned (.bool (letterB n)) ∧ w = w' := by
  rw [← among_letters n hn]
  go_enter Tryd.func31, Tryd.ntmps31
  go_wp2_with (go_at_call 40; refine (ramong_any _ _ _ (by decide)).mono ?_; rintro e w' ⟨rfl, rfl⟩)
  go_ret
  exact ⟨rfl, rfl⟩
set_option maxHeartbeats 400000 in
theorem rdigit_any (n : Nat) (hn : n < 256) (w : World) :
    Calls Tryd.prog 32 #[.int .u8 n] w fun e w' => e = .returned (.bool (digitB n)) ∧ w = w' := by
  rw [← among_digits n hn]
  go_enter Tryd.func32, Tryd.ntmps32
  go_wp2_with (go_at_call 40; refine (ramong_any _ _ _ (by decide)).mono ?_; rintro e w' ⟨rfl, rfl⟩)
  go_ret
  exact ⟨rfl, rfl⟩
end Cls
end Go.Proofs.YtpjdpmlneefafaaDoor
