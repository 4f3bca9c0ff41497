/- The reference's Read, Status and Count, and the chapter's examples (layer 14). -/
import Derived.Test.YtpfndjloolfmhaaDoorNmB
import Derived.Test.YtpfndjloolfmhaaDoorNmD
namespace Go.Proofs.YtpfndjloolfmhaaDoor
open Go.RowKit Cls
open Lib (decFrom)
namespace Num14
set_option maxHeartbeats 400000 in
theorem rread_any (s : ByteArray) (w : World) (hs : s.size ≤ 9223372036854775807) :
    Calls Tryd.prog 7 #[.string s] w fun e w' => e = .returned (.int .i64 (mi (rd (bs s)))) ∧ w = w' := by
  have HL := Lib.hid (lenB s)
  have HD := Lib.hid (rdigits_any s w hs)
  cases hd : digitsNE s.data.toList
  · rw [hd] at HD
    have hn : rd (bs s) = none := by
      unfold rd; split
      · rfl
      · rename_i h
        refine dec_not _ ?_
        have : 0 < (bs s).length := by omega
        rw [digitsNE, show s.data.toList = bs s from rfl, decide_eq_true this, Bool.true_and] at hd
        exact hd
    rw [hn]
    clear hd hn
    go_enter Tryd.func7, Tryd.ntmps7
    go_wp2_with (go_at_call 14; refine HD.out.mono ?_; rintro e w1 ⟨rfl, rfl⟩)
    go_ret
    exact ⟨rfl, rfl⟩
  rw [hd] at HD
  have hd' : digitsL (bs s) = true := by
    rw [digitsNE, Bool.and_eq_true] at hd; exact hd.2
  have h0 : 0 < s.size := by
    rw [digitsNE, Bool.and_eq_true, decide_eq_true_eq, HL.out] at hd; exact hd.1
  have HD' := Lib.hid hd'
  clear hd hd'
  by_cases h9 : 9 < s.size
  · have hn : rd (bs s) = none := by
      unfold rd; rw [if_pos (Or.inr (by rw [show (bs s).length = _ from HL.out]; exact h9))]
    rw [hn]; clear hn
    go_enter Tryd.func7, Tryd.ntmps7
    go_wp2_with (go_at_call 14; refine HD.out.mono ?_; rintro e w1 ⟨rfl, rfl⟩)
    go_ret
    exact ⟨rfl, rfl⟩
  · go_enter Tryd.func7, Tryd.ntmps7
    go_wp2_with (go_at_call 14; refine HD.out.mono ?_; rintro e w1 ⟨rfl, rfl⟩)
    go_loop [3, 4] (fun m i => ∃ k x : Nat, k ≤ s.size ∧ i = .int .i64 k ∧ m = .int .i64 x ∧ decFrom 0 ((bs s).take k) = some x) (fun _ i => s.size - (intOf i).toNat)
    case atStart => exact ⟨0, 0, Nat.zero_le _, rfl, rfl, rfl⟩
    case round =>
      obtain ⟨k, x, hk, rfl, rfl, hr⟩ := hrel
      have hx : x < 1000000000 := by
        have := decFrom_lt _ 0 x hr
        have h10 : 10 ^ ((bs s).take k).length ≤ 10 ^ 9 := Nat.pow_le_pow_right (by decide) (by rw [List.length_take]; omega)
        omega
      have HR := Lib.hid hr; clear hr
      by_cases hlt : k < s.size
      · have hlt' : k < (bs s).length := by rw [bs, lenB]; exact hlt
        have HG := Lib.hid (show s[k] = (bs s)[k] from rfl)
        have hb := byte_lt s[k]
        have hd : digitB s[k].toNat = true := by
          have := List.all_eq_true.1 HD'.out (bs s)[k] (List.getElem_mem hlt')
          rw [HG.out]; exact this
        have HB := Lib.hid hd
        have hd1 : 48 ≤ s[k].toNat := by
          rw [digitB, decide_eq_true_eq] at hd; omega
        have hd2 : s[k].toNat ≤ 57 := by
          rw [digitB, decide_eq_true_eq] at hd; omega
        clear hd
        go_wp2_with fail
        go_round
        case rel => exact ⟨k + 1, x * 10 + (s[k].toNat - 48), by omega, by go_num, by go_num, by rw [dec_step hlt' HR.out (by rw [← HG.out]; exact HB.out), ← HG.out]⟩
        case measure => simp [intOf]; omega
      · obtain rfl : k = s.size := by omega
        go_wp2_with fail
        go_ret
        refine ⟨?_, rfl⟩
        have := HR.out
        rw [List.take_of_length_le (by rw [show (bs s).length = _ from HL.out]; omega)] at this
        rw [rd, if_neg (by rw [show (bs s).length = _ from HL.out]; omega), this]
        rfl
set_option maxHeartbeats 400000 in
theorem rstatus_any (n : Int) (w : World) (h0 : -9223372036854775808 ≤ n) (h1 : n ≤ 9223372036854775807) :
    Calls Tryd.prog 11 #[.int .i64 n] w fun e w' => e = .returned (.int .i64 (n % 256)) ∧ w = w' := by
  have H := Lib.hid (status_go n)
  go_enter Tryd.func11, Tryd.ntmps11
  go_wp2_with fail
  go_ret
  exact ⟨congrArg (fun x => Ending.returned (.int .i64 x)) H.out, rfl⟩
set_option maxHeartbeats 400000 in
theorem rcount_any (s : ByteArray) (m : Int) (w : World) (hs : s.size ≤ 9223372036854775807) (h0 : -9223372036854775808 ≤ m) (h1 : m ≤ 9223372036854775807) :
    Calls Tryd.prog 9 #[.string s, .int .i64 m] w fun e w' => e = .returned (.int .i64 (mj (cnt (bs s) m))) ∧ w = w' := by
  have H := Lib.hid (rread_any s w hs)
  cases hr : rd (bs s) with
  | none =>
    rw [hr] at H
    have H1 : Calls Tryd.prog 7 #[.string s] w fun e w' => e = .returned (.int .i64 (-1)) ∧ w = w' := H.out
    clear H
    rw [show cnt (bs s) m = none by rw [cnt, hr]]
    clear hr
    go_enter Tryd.func9, Tryd.ntmps9
    go_wp2_with (go_at_call 7; refine H1.mono ?_; rintro e w1 ⟨rfl, rfl⟩)
    go_ret
    exact ⟨rfl, rfl⟩
  | some n =>
    rw [hr] at H
    have H1 : Calls Tryd.prog 7 #[.string s] w fun e w' => e = .returned (.int .i64 n) ∧ w = w' := H.out
    clear H
    have hn := rd_lt hr
    have hv : mj (cnt (bs s) m) = if n < 1 then -1 else if m < 0 then 0 else if m < n then m else (n : Int) := by
      rw [cnt, hr]
      show mj (if n < 1 then none else if m < 0 then some 0 else if m < n then some m else some (n : Int)) = _
      split
      · rfl
      · split
        · rfl
        · split <;> rfl
    rw [hv]
    clear hr hv
    by_cases h : n < 1
    · rw [if_pos h]
      go_enter Tryd.func9, Tryd.ntmps9
      go_wp2_with (go_at_call 7; refine H1.mono ?_; rintro e w1 ⟨rfl, rfl⟩)
      go_ret
      exact ⟨rfl, rfl⟩
    rw [if_neg h]
    by_cases h2 : m < 0
    · rw [if_pos h2]
      go_enter Tryd.func9, Tryd.ntmps9
      go_wp2_with (go_at_call 7; refine H1.mono ?_; rintro e w1 ⟨rfl, rfl⟩)
      go_ret
      exact ⟨rfl, rfl⟩
    rw [if_neg h2]
    by_cases h3 : m < n
    · rw [if_pos h3]
      go_enter Tryd.func9, Tryd.ntmps9
      go_wp2_with (go_at_call 7; refine H1.mono ?_; rintro e w1 ⟨rfl, rfl⟩)
      go_ret
      exact ⟨rfl, rfl⟩
    · rw [if_neg h3]
      go_enter Tryd.func9, Tryd.ntmps9
      go_wp2_with (go_at_call 7; refine H1.mono ?_; rintro e w1 ⟨rfl, rfl⟩)
      go_ret
      exact ⟨rfl, rfl⟩
theorem rd_007 : rd [48, 48, 55] = some 7 := by decide +kernel
theorem cnt_92 : cnt [57] 2 = some 2 := by decide +kernel
set_option maxHeartbeats 400000 in
theorem alive_any (w : World) :
    Calls Tryd.prog 5 #[] w fun e w' => e = .returned (.bool true) ∧ w = w' := by
  have H1 : ∀ w, Calls Tryd.prog 6 #[.string ⟨#[48, 48, 55]⟩] w fun e w' => e = .returned (.tuple #[.int .i64 7, .bool true]) ∧ w = w' := fun w => by
    have := read_any ⟨#[48, 48, 55]⟩ w (by decide)
    rw [show bs ⟨#[48, 48, 55]⟩ = [48, 48, 55] from rfl, rd_007] at this
    exact this
  have H2 : ∀ w, Calls Tryd.prog 8 #[.string ⟨#[57]⟩, .int .i64 2] w fun e w' => e = .returned (.tuple #[.int .i64 2, .bool true]) ∧ w = w' := fun w => by
    have := count_any ⟨#[57]⟩ 2 w (by decide) (by decide) (by decide)
    rw [show bs ⟨#[57]⟩ = [57] from rfl, cnt_92] at this
    exact this
  go_enter Tryd.func5, Tryd.ntmps5
  go_wp2_with (first
    | (go_at_call 6; refine (H1 _).mono ?_; rintro e w1 ⟨rfl, rfl⟩)
    | (go_at_call 8; refine (H2 _).mono ?_; rintro e w1 ⟨rfl, rfl⟩))
  go_ret
  exact ⟨rfl, rfl⟩
/-- What the program's answers are, in the reference's words. -/
theorem out_mi (o : Option Nat) : out o = .tuple #[.int .i64 (max (mi o) 0), .bool (decide (0 ≤ mi o))] := by
  cases o with
  | none => rfl
  | some n => show Value.tuple #[.int .i64 n, .bool true] = .tuple #[.int .i64 (max (n : Int) 0), .bool (decide (0 ≤ (n : Int)))]; rw [show max (n : Int) 0 = n by omega, decide_eq_true (by omega)]
theorem cnt_pos {l : List UInt8} {m n : Int} (h : cnt l m = some n) : 0 ≤ n := by
  unfold cnt at h
  split at h
  · cases h
  · split at h
    · cases h
    · split at h
      · cases h; omega
      · split at h
        · cases h; omega
        · cases h; omega
theorem outC_mj (l : List UInt8) (m : Int) : outC (cnt l m) = .tuple #[.int .i64 (max (mj (cnt l m)) 0), .bool (decide (0 ≤ mj (cnt l m)))] := by
  cases h : cnt l m with
  | none => rfl
  | some n => have := cnt_pos h; show Value.tuple #[.int .i64 n, .bool true] = .tuple #[.int .i64 (max n 0), .bool (decide (0 ≤ n))]; rw [show max n 0 = n by omega, decide_eq_true this]
theorem mi_in (s : ByteArray) : -1 ≤ mi (rd (bs s)) ∧ mi (rd (bs s)) < 1000000000 := by
  cases h : rd (bs s) with
  | none => decide
  | some n => have := rd_lt h; show -1 ≤ (n : Int) ∧ (n : Int) < 1000000000; omega
set_option maxHeartbeats 800000 in
theorem reads_big (s : ByteArray) (n : Int) (w : World) (hs : s.size ≤ 9223372036854775807) (h : 2000 < s.size) :
    Calls Tryd.prog 3 #[.string s, .int .i64 n] w fun e w' => e = .returned (.bool true) ∧ Below w.heap.size w w' := by
  go_enter Tryd.func3, Tryd.ntmps3
  go_wp2_with (go_at_call 5; refine (alive_any _).mono ?_; rintro e w1 ⟨rfl, rfl⟩)
  go_ret
  exact ⟨rfl, Below.refl _ _⟩
set_option maxHeartbeats 800000 in
theorem reads_any (s : ByteArray) (n : Int) (w : World) (hs : s.size ≤ 2000) (h0 : -9223372036854775808 ≤ n) (h1 : n ≤ 9223372036854775807) (ht : Tab w) :
    Calls Tryd.prog 3 #[.string s, .int .i64 n] w fun e w' => e = .returned (.bool true) ∧ Below w.heap.size w w' := by
  have R1 := read_any s w (by omega)
  rw [out_mi] at R1
  have R2 := rread_any s w (by omega)
  have C1 := count_any s n w (by omega) h0 h1
  rw [outC_mj] at C1
  have C2 := rcount_any s n w (by omega) h0 h1
  have S1 := status_any n w h0 h1
  have S2 := rstatus_any n w h0 h1
  have T1 := text_any n h0 h1 w ht
  have T2 := fun w => rdig_any n w h0 h1
  have m1 : ∀ ts t w, (Builtin.max_ ts t #[.int .i64 (mi (rd (bs s))), .int .i64 0]).run Tryd.prog w = .ok (.int .i64 (max (mi (rd (bs s))) 0)) w := fun ts t w => by
    rw [run_max_int2, show (if (0 : Int) > mi (rd (bs s)) then (0 : Int) else mi (rd (bs s))) = max (mi (rd (bs s))) 0 by split <;> omega]
  have m2 : ∀ ts t w, (Builtin.max_ ts t #[.int .i64 (mj (cnt (bs s) n)), .int .i64 0]).run Tryd.prog w = .ok (.int .i64 (max (mj (cnt (bs s) n)) 0)) w := fun ts t w => by
    rw [run_max_int2, show (if (0 : Int) > mj (cnt (bs s) n) then (0 : Int) else mj (cnt (bs s) n)) = max (mj (cnt (bs s) n)) 0 by split <;> omega]
  generalize max (mi (rd (bs s))) 0 = M1 at R1 m1
  generalize max (mj (cnt (bs s) n)) 0 = M2 at C1 m2
  generalize mi (rd (bs s)) = W1 at R1 R2 m1
  generalize mj (cnt (bs s) n) = W2 at C1 C2 m2
  generalize n % 256 = S at S1 S2
  have hT := itoa_size n h0 h1
  generalize tx (Lib.itoa n) = T at T1 T2 hT
  go_enter Tryd.func3, Tryd.ntmps3
  go_wp2_with (first
    | (go_at_call 5; refine (alive_any _).mono ?_; rintro e w1 ⟨rfl, rfl⟩)
    | (go_at_call 6; refine R1.mono ?_; rintro e w1 ⟨rfl, rfl⟩)
    | (go_at_call 7; refine R2.mono ?_; rintro e w1 ⟨rfl, rfl⟩)
    | (go_at_call 8; refine C1.mono ?_; rintro e w1 ⟨rfl, rfl⟩)
    | (go_at_call 9; refine C2.mono ?_; rintro e w1 ⟨rfl, rfl⟩)
    | (go_at_call 10; refine S1.mono ?_; rintro e w1 ⟨rfl, rfl⟩)
    | (go_at_call 11; refine S2.mono ?_; rintro e w1 ⟨rfl, rfl⟩)
    | (go_at_call 12; refine T1.mono ?_; rintro e w1 ⟨rfl, hb1⟩)
    | (go_at_call 13; refine (T2 _).mono ?_; rintro e w2 ⟨rfl, hb2⟩))
  go_ret
  exact ⟨rfl, hb1.trans (hb2.mono hb1.size)⟩
end Num14
end Go.Proofs.YtpfndjloolfmhaaDoor
