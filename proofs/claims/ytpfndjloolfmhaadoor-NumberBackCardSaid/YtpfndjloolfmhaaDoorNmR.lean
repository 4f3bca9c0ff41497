/- The reference's Digits, and texts as lists of bytes (layer 14). -/
import Derived.Test.YtpfndjloolfmhaaDoorClsB
import Derived.Test.YtpfndjloolfmhaaDoorNmA
namespace Go.Proofs.YtpfndjloolfmhaaDoor
open Go.RowKit Cls
namespace Num14
theorem byte_lt (x : UInt8) : x.toNat < 256 := UInt8.toNat_lt x
theorem lenB (s : ByteArray) : s.data.toList.length = s.size := by simp
def bs (s : ByteArray) : List UInt8 := s.data.toList
def tx (l : List UInt8) : ByteArray := ⟨l.toArray⟩
theorem bs_tx (l : List UInt8) : bs (tx l) = l := by simp [bs, tx]
theorem bs_inj {a b : ByteArray} (h : bs a = bs b) : a = b := by
  cases a; cases b; simp only [bs] at h; congr 1; exact Array.toList_inj.1 h
def digitsNE (l : List UInt8) : Bool := decide (0 < l.length) && digitsL l
theorem digits_snoc {l : List UInt8} {k : Nat} (h : digitsL (l.take k) = true) (hk : k < l.length) (hd : digitB (l.getD k 0).toNat = true) : digitsL (l.take (k + 1)) = true := by
  rw [List.take_succ_eq_append_getElem hk]
  unfold digitsL at h ⊢
  rw [List.all_append, h]
  simp only [List.getD, List.getElem?_eq_getElem hk, Option.getD_some] at hd
  simp [hd]
theorem digits_miss {l : List UInt8} {k : Nat} (hk : k < l.length) (hd : digitB (l.getD k 0).toNat = false) : digitsNE l = false := by
  simp only [List.getD, List.getElem?_eq_getElem hk, Option.getD_some] at hd
  have : digitsL l = false := by
    unfold digitsL
    rw [List.all_eq_false]
    exact ⟨l[k], List.getElem_mem hk, by simp [hd]⟩
  simp [digitsNE, this]
set_option maxHeartbeats 400000 in
theorem rdigits_any (s : ByteArray) (w : World) (hs : s.size ≤ 9223372036854775807) :
    Calls Tryd.prog 14 #[.string s] w fun e w' => e = .returned (.bool (digitsNE s.data.toList)) ∧ w = w' := by
  go_enter Tryd.func14, Tryd.ntmps14
  go_wp2
  go_loop [3] (fun i => ∃ k : Nat, k ≤ s.size ∧ i = .int .i64 k ∧ digitsL (s.data.toList.take k) = true) (fun i => s.size - (intOf i).toNat)
  case atStart => exact ⟨0, Nat.zero_le _, rfl, rfl⟩
  case round =>
    obtain ⟨k, hk, rfl, hr⟩ := hrel
    have HR := Lib.hid hr; clear hr
    by_cases hlt : k < s.size
    · have hlt' : k < s.data.toList.length := by simpa using hlt
      have HG := Lib.hid (congrArg UInt8.toNat (getB hlt))
      have hb := byte_lt s[k]
      cases hd : digitB s[k].toNat
      · have HD := Lib.hid hd
        go_wp2_with (go_at_call 16; refine (rdigit_any _ hb _).mono ?_; rintro e w' ⟨rfl, rfl⟩)
        go_ret
        exact ⟨ret_bool (digits_miss hlt' (by rw [← HG.out]; exact HD.out)).symm, rfl⟩
      · have HD := Lib.hid hd
        go_wp2_with (go_at_call 16; refine (rdigit_any _ hb _).mono ?_; rintro e w' ⟨rfl, rfl⟩)
        go_round
        case rel => exact ⟨k + 1, by omega, by go_num, digits_snoc HR.out hlt' (by rw [← HG.out]; exact HD.out)⟩
        case measure => simp [intOf]; omega
    · obtain rfl : k = s.size := by omega
      have HN := Lib.hid (lenB s)
      go_wp2
      go_ret
      exact ⟨ret_bool (by have := HR.out; rw [List.take_of_length_le (by rw [HN.out]; omega)] at this; rw [digitsNE, this, HN.out]; simp), rfl⟩
end Num14
end Go.Proofs.YtpfndjloolfmhaaDoor
