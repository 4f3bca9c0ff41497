/- What the small functions of package class answer (Blank, Break, Sign, Bare, Letter, Digit), in the program and in the reference, for every byte. -/
import Derived.Test.YtpfndjloolfmhaaDoorClsA
namespace Go.Proofs.YtpfndjloolfmhaaDoor
open Go.RowKit
namespace Cls










/-- What among has asked so far. -/
theorem among_snoc {n k : Nat} {l : List UInt8} (h : amongB n (l.take k) = false) (hk : k < l.length) (hn : (l.getD k 0).toNat ≠ n) : amongB n (l.take (k + 1)) = false := by
  rw [List.take_succ_eq_append_getElem hk]
  unfold amongB at h ⊢
  rw [List.any_append, h]
  simp only [List.getD, List.getElem?_eq_getElem hk, Option.getD_some] at hn
  simp [hn]
theorem among_hit {n k : Nat} {l : List UInt8} (hk : k < l.length) (hn : (l.getD k 0).toNat = n) : amongB n l = true := by
  unfold amongB
  simp only [List.getD, List.getElem?_eq_getElem hk, Option.getD_some] at hn
  rw [List.any_eq_true]
  exact ⟨l[k], List.getElem_mem hk, by simp [hn]⟩
theorem getB {s : ByteArray} {k : Nat} (h : k < s.size) : s[k] = s.data.toList.getD k 0 := by
  have : k < s.data.toList.length := by simpa using h
  simp only [List.getD, List.getElem?_eq_getElem this, Option.getD_some]
  rfl

set_option maxHeartbeats 400000 in
theorem ramong_any (n : Nat) (s : ByteArray) (w : World) (hs : s.size ≤ 9223372036854775807) :
    Calls Tryd.prog 18 #[.int .u8 n, .string s] w fun e w' => e = .returned (.bool (amongB n s.data.toList)) ∧ w = w' := by
  go_enter Tryd.func18, Tryd.ntmps18
  go_wp2
  go_loop [5] (fun i => ∃ k : Nat, k ≤ s.size ∧ i = .int .i64 k ∧ amongB n (s.data.toList.take k) = false) (fun i => s.size - (intOf i).toNat)
  case atStart => exact ⟨0, Nat.zero_le _, rfl, rfl⟩
  case round =>
    obtain ⟨k, hk, rfl, hr⟩ := hrel
    have HR := Lib.hid hr; clear hr
    by_cases hlt : k < s.size
    · have hlt' : k < s.data.toList.length := by simpa using hlt
      by_cases hn : s[k].toNat = n
      · have hb : ((s[k].toNat : Int) == (n : Int)) = true := by simp [hn]
        have HN := Lib.hid hn; clear hn
        go_wp2
        go_ret
        exact ⟨ret_bool (among_hit hlt' (by rw [← getB hlt]; exact HN.out)).symm, rfl⟩
      · have hb : ((s[k].toNat : Int) == (n : Int)) = false := by simp; omega
        have HN := Lib.hid hn; clear hn
        go_wp2
        go_round
        case rel => exact ⟨k + 1, by omega, by go_num, among_snoc HR.out hlt' (by rw [← getB hlt]; exact HN.out)⟩
        case measure => simp [intOf]; omega
    · go_wp2
      go_ret
      exact ⟨ret_bool (by rw [← HR.out, List.take_of_length_le (by simp; omega)]), rfl⟩

set_option maxHeartbeats 400000 in
theorem rdigit_any (n : Nat) (hn : n < 256) (w : World) :
    Calls Tryd.prog 16 #[.int .u8 n] w fun e w' => e = .returned (.bool (digitB n)) ∧ w = w' := by
  rw [← among_digits n hn]
  go_enter Tryd.func16, Tryd.ntmps16
  go_wp2_with (go_at_call 18; refine (ramong_any _ _ _ (by decide)).mono ?_; rintro e w' ⟨rfl, rfl⟩)
  go_ret
  exact ⟨rfl, rfl⟩
end Cls
end Go.Proofs.YtpfndjloolfmhaaDoor
