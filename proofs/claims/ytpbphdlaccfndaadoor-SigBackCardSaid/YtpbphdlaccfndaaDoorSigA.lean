/- What the small functions of package sig answer (Is, bit, Has, With, Without), for every number and every set. -/
import Derived.Test.YtpbphdlaccfndaaDoorRows
import Derived.Test.YtpbphdlaccfndaaDoorShelf
import Derived.WalkKit
import Derived.Lib.Hide
import Derived.WalkSpells
import Derived.WalkLawsBesides
namespace Go.Proofs.YtpbphdlaccfndaaDoor
open Go.RowKit
namespace Sig

/-- Is it a signal? -/
def isB (s : Int) : Bool := decide (1 ≤ s ∧ s ≤ 31)
theorem isB_yes {s : Int} (h : 1 ≤ s ∧ s ≤ 31) : isB s = true := decide_eq_true h
theorem isB_no {s : Int} (h : ¬ (1 ≤ s ∧ s ≤ 31)) : isB s = false := decide_eq_false h

set_option maxHeartbeats 400000 in
theorem is_yes (s : Int) (h1 : 1 ≤ s) (h2 : s ≤ 31) (w : World) :
    Calls Tryd.prog 10 #[.int .i64 s] w fun e w' => e = .returned (.bool true) ∧ w = w' := by
  go_enter Tryd.func10, Tryd.ntmps10
  go_wp2
  go_ret
  exact ⟨rfl, rfl⟩
set_option maxHeartbeats 400000 in
theorem is_no (s : Int) (h : ¬ (1 ≤ s ∧ s ≤ 31)) (w : World) :
    Calls Tryd.prog 10 #[.int .i64 s] w fun e w' => e = .returned (.bool false) ∧ w = w' := by
  by_cases h1 : 1 ≤ s
  · have h2 : decide (s ≤ 31) = false := decide_eq_false (by omega)
    clear h
    go_enter Tryd.func10, Tryd.ntmps10
    go_wp2
    go_ret
    exact ⟨rfl, rfl⟩
  · have h1 : s < 1 := by omega
    clear h
    go_enter Tryd.func10, Tryd.ntmps10
    go_wp2
    go_ret
    exact ⟨rfl, rfl⟩
theorem is_any (s : Int) (w : World) :
    Calls Tryd.prog 10 #[.int .i64 s] w fun e w' => e = .returned (.bool (isB s)) ∧ w = w' := by
  by_cases h : 1 ≤ s ∧ s ≤ 31
  · rw [isB_yes h]; exact is_yes s h.1 h.2 w
  · rw [isB_no h]; exact is_no s h w

/-- Is s in x? -/
def hasB (x : Nat) (s : Int) : Bool := isB s && x.testBit s.toNat
/-- The set of s alone, as a number. -/
def bitN (s : Int) : Nat := if isB s then 2 ^ s.toNat else 0
theorem bitN_yes {s : Nat} (h : 1 ≤ s ∧ s ≤ 31) : bitN (s : Int) = 2 ^ s := by simp [bitN, isB]; omega
theorem bitN_no {s : Int} (h : ¬ (1 ≤ s ∧ s ≤ 31)) : bitN s = 0 := by simp [bitN, isB_no h]
theorem ret_u32 {a b : Int} (h : a = b) : Ending.returned (.int .u32 a) = .returned (.int .u32 b) := by rw [h]
theorem pow_lt (s : Nat) (h : s ≤ 31) : 2 ^ s < 4294967296 := by
  have : (2 : Nat) ^ s < 2 ^ 32 := Nat.pow_lt_pow_right (by decide) (by omega)
  exact this
theorem bitN_lt (s : Int) : bitN s < 4294967296 := by
  unfold bitN
  split
  · rename_i h; have h := of_decide_eq_true h; exact pow_lt _ (by omega)
  · decide
theorem ret_bool {a b : Bool} (h : a = b) : Ending.returned (.bool a) = .returned (.bool b) := by rw [h]
theorem and_has (x : Nat) (s : Int) (hx : x < 4294967296) : (bits .and .u32 (x : Int) (bitN s : Int) != 0) = hasB x s := by
  rw [u32_and_nat x (bitN s) hx (bitN_lt s)]
  unfold hasB
  by_cases h : 1 ≤ s ∧ s ≤ 31
  · obtain ⟨n, rfl⟩ : ∃ n : Nat, s = n := ⟨s.toNat, by omega⟩
    rw [bitN_yes (by omega), isB_yes h]
    cases hb : x.testBit n
    · have : x &&& 2 ^ n = 0 := by
        apply Nat.eq_of_testBit_eq
        intro i
        rw [Nat.testBit_and, Nat.testBit_two_pow]
        by_cases hi : n = i
        · subst hi; simp [hb]
        · simp [hi]
      simp [this, hb]
    · have : x &&& 2 ^ n ≠ 0 := by
        intro h0
        have := congrArg (Nat.testBit · n) h0
        simp [Nat.testBit_and, hb] at this
      simp [this, hb]
  · rw [bitN_no h, isB_no h]; simp

set_option maxHeartbeats 400000 in
theorem bit_yes (s : Nat) (h1 : 1 ≤ s) (h2 : s ≤ 31) (w : World) :
    Calls Tryd.prog 26 #[.int .i64 s] w fun e w' => e = .returned (.int .u32 (2 ^ s : Nat)) ∧ w = w' := by
  go_enter Tryd.func26, Tryd.ntmps26
  go_wp2_with (go_at_call 10; refine (is_yes _ (by omega) (by omega) _).mono ?_; rintro e w' ⟨rfl, rfl⟩)
  go_ret
  exact ⟨ret_u32 (by have := pow_lt s h2; rw [← Nat.mod_eq_of_lt this]; simp), rfl⟩
set_option maxHeartbeats 400000 in
theorem bit_no (s : Int) (h : ¬ (1 ≤ s ∧ s ≤ 31)) (w : World) :
    Calls Tryd.prog 26 #[.int .i64 s] w fun e w' => e = .returned (.int .u32 (0 : Nat)) ∧ w = w' := by
  have H := Lib.hid h; clear h
  go_enter Tryd.func26, Tryd.ntmps26
  go_wp2_with (go_at_call 10; refine (is_no _ H.out _).mono ?_; rintro e w' ⟨rfl, rfl⟩)
  go_ret
  exact ⟨rfl, rfl⟩
theorem bit_any (s : Int) (w : World) :
    Calls Tryd.prog 26 #[.int .i64 s] w fun e w' => e = .returned (.int .u32 (bitN s)) ∧ w = w' := by
  by_cases h : 1 ≤ s ∧ s ≤ 31
  · obtain ⟨n, rfl⟩ : ∃ n : Nat, s = n := ⟨s.toNat, by omega⟩
    rw [bitN_yes (by omega)]; exact bit_yes n (by omega) (by omega) w
  · rw [bitN_no h]; exact bit_no s h w

set_option maxHeartbeats 400000 in
theorem has_any (x : Nat) (s : Int) (hx : x < 4294967296) (w : World) :
    Calls Tryd.prog 19 #[.int .u32 x, .int .i64 s] w fun e w' => e = .returned (.bool (hasB x s)) ∧ w = w' := by
  have hb := bitN_lt s
  go_enter Tryd.func19, Tryd.ntmps19
  go_wp2_with (go_at_call 26; refine (bit_any _ _).mono ?_; rintro e w' ⟨rfl, rfl⟩)
  go_ret
  exact ⟨ret_bool (and_has x s hx), rfl⟩
set_option maxHeartbeats 400000 in
theorem with_any (x : Nat) (s : Int) (hx : x < 4294967296) (w : World) :
    Calls Tryd.prog 22 #[.int .u32 x, .int .i64 s] w fun e w' => e = .returned (.int .u32 (x ||| bitN s : Nat)) ∧ w = w' := by
  have hb := bitN_lt s
  go_enter Tryd.func22, Tryd.ntmps22
  go_wp2_with (go_at_call 26; refine (bit_any _ _).mono ?_; rintro e w' ⟨rfl, rfl⟩)
  go_ret
  exact ⟨ret_u32 (u32_or_nat x (bitN s) hx hb), rfl⟩
set_option maxHeartbeats 400000 in
theorem without_any (x : Nat) (s : Int) (hx : x < 4294967296) (w : World) :
    Calls Tryd.prog 21 #[.int .u32 x, .int .i64 s] w fun e w' => e = .returned (.int .u32 (x &&& (4294967295 - bitN s) : Nat)) ∧ w = w' := by
  have hb := bitN_lt s
  go_enter Tryd.func21, Tryd.ntmps21
  go_wp2_with (go_at_call 26; refine (bit_any _ _).mono ?_; rintro e w' ⟨rfl, rfl⟩)
  go_ret
  exact ⟨ret_u32 (u32_andNot_nat x (bitN s) hx hb), rfl⟩

set_option maxHeartbeats 400000 in
theorem name_yes (s : Nat) (h1 : 1 ≤ s) (h2 : s ≤ 31) (w : World) (t : ByteArray) (hc : w.cell? ⟨0, s, none⟩ = some (.string t)) :
    Calls Tryd.prog 12 #[.int .i64 s] w fun e w' => e = .returned (.string t) ∧ w = w' := by
  go_enter Tryd.func12, Tryd.ntmps12
  go_wp2_with (go_at_call 10; refine (is_yes _ (by omega) (by omega) _).mono ?_; rintro e w' ⟨rfl, rfl⟩)
  go_ret
  exact ⟨rfl, rfl⟩
set_option maxHeartbeats 400000 in
theorem name_no (s : Int) (h : ¬ (1 ≤ s ∧ s ≤ 31)) (w : World) :
    Calls Tryd.prog 12 #[.int .i64 s] w fun e w' => e = .returned (.string ⟨#[]⟩) ∧ w = w' := by
  have H := Lib.hid h; clear h
  go_enter Tryd.func12, Tryd.ntmps12
  go_wp2_with (go_at_call 10; refine (is_no _ H.out _).mono ?_; rintro e w' ⟨rfl, rfl⟩)
  go_ret
  exact ⟨rfl, rfl⟩
end Sig
end Go.Proofs.YtpbphdlaccfndaaDoor
