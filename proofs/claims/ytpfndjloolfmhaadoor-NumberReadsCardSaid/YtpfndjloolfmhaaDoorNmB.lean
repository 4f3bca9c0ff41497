/- The program's Read, Status, Count and Text (layer 14). -/
import Derived.Test.YtpfndjloolfmhaaDoorNmR
import Derived.Test.YtpfndjloolfmhaaDoorShelf
import Derived.Lib.SmallJoins
import Derived.Lib.AppendIntMem
namespace Go.Proofs.YtpfndjloolfmhaaDoor
open Go.RowKit Cls
open Lib (decFrom)
namespace Num14
def out : Option Nat → Value
  | none => .tuple #[.int .i64 0, .bool false]
  | some n => .tuple #[.int .i64 n, .bool true]
def Tab (w : World) : Prop := Lib.TabIs Tryd.prog w "internal/strconv.uint64pow10" .u64 Lib.pow10Tab
theorem Tab.stay {w w' : World} (h : Tab w) (hb : Below w.heap.size w w') : Tab w' := Go.Joins.tab_stays (g := 0) (by kernel_rfl) h hb (Nat.le_refl _)
def outC : Option Int → Value
  | none => .tuple #[.int .i64 0, .bool false]
  | some n => .tuple #[.int .i64 n, .bool true]
theorem and255 (n : Int) : bits .and .i64 n 255 = n % 256 := by
  have h255 : (BitVec.ofInt 64 255).toNat = 2 ^ 8 - 1 := by decide
  have key : (BitVec.ofInt 64 n &&& BitVec.ofInt 64 255).toNat = (n % ((2 ^ 64 : Nat) : Int)).toNat % 2 ^ 8 := by
    rw [BitVec.toNat_and, BitVec.toNat_ofInt, h255, Nat.and_two_pow_sub_one_eq_mod]
  show IntKind.i64.wrap ((BitVec.ofInt 64 n &&& BitVec.ofInt 64 255).toNat : Nat) = n % 256
  rw [key, IntKind.wrap_i64]
  omega
set_option maxHeartbeats 400000 in
theorem read_any (s : ByteArray) (w : World) (hs : s.size ≤ 9223372036854775807) :
    Calls Tryd.prog 6 #[.string s] w fun e w' => e = .returned (out (rd (bs s))) ∧ w = w' := by
  by_cases h0 : s.size = 0
  · have : s = tx [] := bs_inj (by rw [bs_tx]; exact List.length_eq_zero_iff.1 (by rw [bs, lenB, h0]))
    subst this
    have e1 : (tx []).toList.isEmpty = true := by rw [Lib.toList_data]; rfl
    go_enter Tryd.func6, Tryd.ntmps6
    go_wp2_with fail
    go_ret2
    exact ⟨rfl, rfl⟩
  have HL := Lib.hid (lenB s)
  have e1 : s.toList.isEmpty = false := by
    rw [Lib.toList_data, List.isEmpty_eq_false_iff]; intro e
    have := lenB s; rw [e] at this; exact h0 this.symm
  by_cases h9 : 9 < s.size
  · go_enter Tryd.func6, Tryd.ntmps6
    go_wp2_with fail
    go_ret2
    refine ⟨?_, rfl⟩
    rw [rd, if_pos (Or.inr (by rw [show (bs s).length = _ from HL.out]; exact h9))]
    rfl
  · go_enter Tryd.func6, Tryd.ntmps6
    go_wp2_with fail
    go_loop [4, 15] (fun m i => ∃ k x : Nat, k ≤ s.size ∧ i = .int .i64 k ∧ m = .int .i64 x ∧ decFrom 0 ((bs s).take k) = some x) (fun _ i => s.size - (intOf i).toNat)
    case atStart => exact ⟨0, 0, Nat.zero_le _, rfl, rfl, rfl⟩
    case round =>
      obtain ⟨k, x, hk, rfl, rfl, hr⟩ := hrel
      have hx : x < 1000000000 := by
        have := decFrom_lt _ 0 x hr
        have h10 : 10 ^ ((bs s).take k).length ≤ 10 ^ 9 := Nat.pow_le_pow_right (by decide) (by rw [List.length_take]; omega)
        omega
      have HR := Lib.hid hr; clear hr
      by_cases hlt : k < s.size
      · have hlt' : k < (bs s).length := by rw [bs, lenB]; exact hlt
        have HG := Lib.hid (show s[k] = (bs s)[k] from rfl)
        have hb := byte_lt s[k]
        cases hd : digitB s[k].toNat
        · have HD := Lib.hid hd; clear hd
          by_cases h48 : s[k].toNat < 48
          · go_wp2_with fail
            go_ret2
            refine ⟨?_, rfl⟩
            rw [rd, if_neg (by rw [show (bs s).length = _ from HL.out]; omega), dec_stop hlt' (by rw [← HG.out]; exact HD.out)]
            rfl
          · have h57 : 57 < s[k].toNat := by
              have := HD.out; rw [digitB, decide_eq_false_iff_not] at this; omega
            go_wp2_with fail
            go_ret2
            refine ⟨?_, rfl⟩
            rw [rd, if_neg (by rw [show (bs s).length = _ from HL.out]; omega), dec_stop hlt' (by rw [← HG.out]; exact HD.out)]
            rfl
        · have HD := Lib.hid hd
          have hd1 : 48 ≤ s[k].toNat := by
            rw [digitB, decide_eq_true_eq] at hd; omega
          have hd2 : s[k].toNat ≤ 57 := by
            rw [digitB, decide_eq_true_eq] at hd; omega
          clear hd
          go_wp2_with fail
          go_round
          case rel => exact ⟨k + 1, x * 10 + (s[k].toNat - 48), by omega, by go_num, by go_num, by rw [dec_step hlt' HR.out (by rw [← HG.out]; exact HD.out), ← HG.out]⟩
          case measure => simp [intOf]; omega
      · obtain rfl : k = s.size := by omega
        go_wp2_with fail
        go_ret2
        refine ⟨?_, rfl⟩
        have := HR.out
        rw [List.take_of_length_le (by rw [show (bs s).length = _ from HL.out]; omega)] at this
        rw [rd, if_neg (by rw [show (bs s).length = _ from HL.out]; omega), this]
        rfl
set_option maxHeartbeats 400000 in
theorem status_any (n : Int) (w : World) (h0 : -9223372036854775808 ≤ n) (h1 : n ≤ 9223372036854775807) :
    Calls Tryd.prog 10 #[.int .i64 n] w fun e w' => e = .returned (.int .i64 (n % 256)) ∧ w = w' := by
  go_enter Tryd.func10, Tryd.ntmps10
  go_wp2_with fail
  go_ret
  exact ⟨congrArg (fun x => Ending.returned (.int .i64 x)) (and255 n), rfl⟩
theorem itoa_any (n : Int) (h0 : -9223372036854775808 ≤ n) (h1 : n ≤ 9223372036854775807) (w : World) (ht : Tab w) :
    Calls Tryd.prog 15 #[.int .i64 n] w fun e w' => e = .returned (.string (tx (Lib.itoa n))) ∧ Below w.heap.size w w' := by
  refine (Tryd.strconv_Itoa n h0 h1 w ht).mono ?_
  rintro e w' ⟨rfl, k, os, rfl⟩
  exact ⟨rfl, Lib.below_grow _ _ (Nat.le_refl _) _ _⟩
set_option maxHeartbeats 400000 in
theorem text_any (n : Int) (h0 : -9223372036854775808 ≤ n) (h1 : n ≤ 9223372036854775807) (w : World) (ht : Tab w) :
    Calls Tryd.prog 12 #[.int .i64 n] w fun e w' => e = .returned (.string (tx (Lib.itoa n))) ∧ Below w.heap.size w w' := by
  have H := itoa_any n h0 h1 w ht
  go_enter Tryd.func12, Tryd.ntmps12
  go_wp2_with (go_at_call 15; refine H.mono ?_; rintro e w1 ⟨rfl, hb⟩)
  go_ret
  exact ⟨rfl, hb⟩
set_option maxHeartbeats 400000 in
theorem count_any (s : ByteArray) (m : Int) (w : World) (hs : s.size ≤ 9223372036854775807) (h0 : -9223372036854775808 ≤ m) (h1 : m ≤ 9223372036854775807) :
    Calls Tryd.prog 8 #[.string s, .int .i64 m] w fun e w' => e = .returned (outC (cnt (bs s) m)) ∧ w = w' := by
  have H0 := read_any s w hs
  cases hr : rd (bs s) with
  | none =>
    rw [hr] at H0
    have H : Calls Tryd.prog 6 #[.string s] w fun e w' => e = .returned (.tuple #[.int .i64 0, .bool false]) ∧ w = w' := H0
    clear H0
    rw [show cnt (bs s) m = none by rw [cnt, hr]]
    clear hr
    go_enter Tryd.func8, Tryd.ntmps8
    go_wp2_with (go_at_call 6; refine H.mono ?_; rintro e w1 ⟨rfl, rfl⟩)
    go_ret2
    exact ⟨rfl, rfl⟩
  | some n =>
    rw [hr] at H0
    have H : Calls Tryd.prog 6 #[.string s] w fun e w' => e = .returned (.tuple #[.int .i64 n, .bool true]) ∧ w = w' := H0
    clear H0
    have hn := rd_lt hr
    by_cases h : n < 1
    · rw [show cnt (bs s) m = none by rw [cnt, hr]; simp only [if_pos h]]
      obtain rfl : n = 0 := by omega
      clear hr
      go_enter Tryd.func8, Tryd.ntmps8
      go_wp2_with (go_at_call 6; refine H.mono ?_; rintro e w1 ⟨rfl, rfl⟩)
      go_ret2
      exact ⟨rfl, rfl⟩
    · have hv : cnt (bs s) m = some (min (n : Int) (max m 0)) := by
        rw [cnt, hr]; simp only [if_neg h]; split
        · congr 1; omega
        · split <;> (congr 1; omega)
      rw [hv]
      clear hr hv
      have hmax : ∀ ts t w, (Builtin.max_ ts t #[.int .i64 m, .int .i64 0]).run Tryd.prog w = .ok (.int .i64 (max m 0)) w := fun ts t w => by
        rw [run_max_int2, show (if (0 : Int) > m then (0 : Int) else m) = max m 0 by split <;> omega]
      generalize max m 0 = M at hmax ⊢
      have hmin : ∀ ts t w, (Builtin.min_ ts t #[.int .i64 n, .int .i64 M]).run Tryd.prog w = .ok (.int .i64 (min (n : Int) M)) w := fun ts t w => by
        rw [run_min_int2, show (if M < (n : Int) then M else (n : Int)) = min (n : Int) M by split <;> omega]
      generalize min (n : Int) M = R at hmin ⊢
      go_enter Tryd.func8, Tryd.ntmps8
      go_wp2_with (go_at_call 6; refine H.mono ?_; rintro e w1 ⟨rfl, rfl⟩)
      go_ret2
      exact ⟨rfl, rfl⟩
end Num14
end Go.Proofs.YtpfndjloolfmhaaDoor
