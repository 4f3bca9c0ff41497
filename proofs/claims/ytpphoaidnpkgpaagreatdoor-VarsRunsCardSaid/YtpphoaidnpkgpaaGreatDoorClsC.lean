/- What Name, special, Reserved answer, in the program and in the reference, for every text. -/
import Derived.Test.YtpphoaidnpkgpaaGreatDoorClsB
namespace Go.Proofs.YtpphoaidnpkgpaaGreatDoor
open Go.RowKit
namespace Cls

/-- All bytes of the first k are right. -/
def oksTo (l : List UInt8) (k : Nat) : Prop := ∀ j, j < k → okB j (l.getD j 0).toNat = true
theorem oksTo_succ {l : List UInt8} {k : Nat} (h : oksTo l k) (hk : okB k (l.getD k 0).toNat = true) : oksTo l (k + 1) := by
  intro j hj
  by_cases e : j = k
  · subst e; exact hk
  · exact h j (by omega)
theorem nameL_no {l : List UInt8} {k : Nat} (hk : k < l.length) (h : okB k (l.getD k 0).toNat = false) : nameL l = false := by
  unfold nameL
  apply decide_eq_false
  rintro ⟨_, h2⟩
  have := h2 k hk
  rw [h] at this; cases this
theorem nameL_yes {l : List UInt8} (h0 : 0 < l.length) (h : oksTo l l.length) : nameL l = true := decide_eq_true ⟨h0, h⟩
theorem nameL_nil {l : List UInt8} (h0 : ¬ 0 < l.length) : nameL l = false := decide_eq_false fun h => h0 h.1
theorem okB_letter {j n : Nat} (h : letterB n = true) : okB j n = true := by simp [okB, h]
theorem okB_digit {j n : Nat} (h : digitB n = true) (hj : j ≠ 0) : okB j n = true := by simp [okB, h, hj]
theorem okB_no {j n : Nat} (h : letterB n = false) (h2 : j = 0 ∨ digitB n = false) : okB j n = false := by
  rcases h2 with h2 | h2 <;> simp [okB, h, h2]

theorem lenB (s : ByteArray) : s.data.toList.length = s.size := by simp

set_option maxHeartbeats 400000 in
theorem name_any (s : ByteArray) (w : World) (hs : s.size ≤ 9223372036854775807) :
    Calls Tryz.prog 17 #[.string s] w fun e w' => e = .returned (.bool (nameL s.data.toList)) ∧ w = w' := by
  go_enter Tryz.func17, Tryz.ntmps17
  go_wp2
  go_loop [6] (fun i => ∃ k : Nat, k ≤ s.size ∧ i = .int .i64 k ∧ oksTo s.data.toList k) (fun i => s.size - (intOf i).toNat)
  case atStart => exact ⟨0, Nat.zero_le _, rfl, fun j hj => by omega⟩
  case round =>
    obtain ⟨k, hk, rfl, hr⟩ := hrel
    have HR := Lib.hid hr; clear hr
    by_cases hlt : k < s.size
    · have hlt' : k < s.data.toList.length := by simpa using hlt
      have HG := Lib.hid (congrArg UInt8.toNat (getB hlt))
      cases hl : letterB s[k].toNat
      · by_cases h0 : k = 0
        · subst h0
          have HL := Lib.hid hl
          go_wp2_with (first
            | (go_at_call 34; refine (letter_any _ _).mono ?_; rintro e w' ⟨rfl, rfl⟩)
            | (go_at_call 35; refine (digit_any _ _).mono ?_; rintro e w' ⟨rfl, rfl⟩))
          go_ret
          exact ⟨ret_bool (nameL_no hlt' (okB_no (by rw [← HG.out]; exact HL.out) (.inl rfl))).symm, rfl⟩
        · have hk0 : ((k : Int) == 0) = false := by simp; omega
          have H0 := Lib.hid h0; clear h0
          have HL := Lib.hid hl
          cases hd : digitB s[k].toNat
          · have HD := Lib.hid hd
            go_wp2_with (first
              | (go_at_call 34; refine (letter_any _ _).mono ?_; rintro e w' ⟨rfl, rfl⟩)
              | (go_at_call 35; refine (digit_any _ _).mono ?_; rintro e w' ⟨rfl, rfl⟩))
            go_ret
            exact ⟨ret_bool (nameL_no hlt' (okB_no (by rw [← HG.out]; exact HL.out) (.inr (by rw [← HG.out]; exact HD.out)))).symm, rfl⟩
          · have HD := Lib.hid hd
            go_wp2_with (first
              | (go_at_call 34; refine (letter_any _ _).mono ?_; rintro e w' ⟨rfl, rfl⟩)
              | (go_at_call 35; refine (digit_any _ _).mono ?_; rintro e w' ⟨rfl, rfl⟩))
            go_round
            case rel => exact ⟨k + 1, by omega, by go_num, oksTo_succ HR.out (okB_digit (by rw [← HG.out]; exact HD.out) H0.out)⟩
            case measure => simp [intOf]; omega
      · have HL := Lib.hid hl
        go_wp2_with (go_at_call 34; refine (letter_any _ _).mono ?_; rintro e w' ⟨rfl, rfl⟩)
        go_round
        case rel => exact ⟨k + 1, by omega, by go_num, oksTo_succ HR.out (okB_letter (by rw [← HG.out]; exact HL.out))⟩
        case measure => simp [intOf]; omega
    · obtain rfl : k = s.size := by omega
      have HN := Lib.hid (lenB s)
      by_cases h0 : s.toList = []
      · have H0 := Lib.hid h0
        go_wp2
        go_ret
        exact ⟨ret_bool (by rw [nameL_nil (by rw [← Lib.toList_data, H0.out]; simp)] <;> rfl), rfl⟩
      · have h1 : s.toList.isEmpty = false := by simpa using h0
        have H0 := Lib.hid h0; clear h0
        go_wp2
        go_ret
        exact ⟨ret_bool (by rw [nameL_yes (List.length_pos_iff.2 (by rw [← Lib.toList_data]; exact H0.out)) (by rw [HN.out]; exact HR.out)] <;> rfl), rfl⟩

set_option maxHeartbeats 400000 in
theorem special_any (s : ByteArray) (w : World) :
    Calls Tryz.prog 43 #[.string s] w fun e w' => e = .returned (.bool (specialL s.data.toList)) ∧ w = w' := by
  rw [← Lib.toList_data]
  go_enter Tryz.func43, Tryz.ntmps43
  go_wp2_with fail
  all_goals (go_ret; exact ⟨ret_bool (by first | rfl | (exfalso; simp_all; done) | (simp only [specialL, *]; done) | (simp only [specialL, *]; rfl)), rfl⟩)

end Cls
end Go.Proofs.YtpphoaidnpkgpaaGreatDoor
