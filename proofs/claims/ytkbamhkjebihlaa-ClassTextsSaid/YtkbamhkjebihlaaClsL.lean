/- The laws ClassBytes, ClassTexts, ClassParts, walked by their callees' contracts: each answers true for every input, and what was in memory stays as it was. -/
import Derived.Test.YtkbamhkjebihlaaClsN
import Derived.Test.YtkbamhkjebihlaaClsR
import Derived.KernelRfl
import Derived.Lib.SlBytesRow
namespace Go.Proofs.Ytkbamhkjebihlaa
open Go.RowKit
namespace Cls

theorem name_at (s : ByteArray) (b : Bool) (w : World) (hs : s.size ≤ 9223372036854775807) (h : nameL s.data.toList = b) :
    Calls Try.prog 19 #[.string s] w fun e w' => e = .returned (.bool b) ∧ w = w' := by subst h; exact name_any s w hs
theorem param_at (s : ByteArray) (b : Bool) (w : World) (hs : s.size ≤ 9223372036854775807) (h : paramL s.data.toList = b) :
    Calls Try.prog 21 #[.string s] w fun e w' => e = .returned (.bool b) ∧ Below w.heap.size w w' := by subst h; exact param_any s w hs
theorem alive_name1 : nameL (⟨#[95, 97, 49]⟩ : ByteArray).data.toList = true := by kernel_rfl
theorem alive_name2 : nameL (⟨#[49, 97]⟩ : ByteArray).data.toList = false := by kernel_rfl
theorem alive_param1 : paramL (⟨#[49, 48]⟩ : ByteArray).data.toList = true := by kernel_rfl
theorem alive_param2 : paramL (⟨#[48, 49]⟩ : ByteArray).data.toList = false := by kernel_rfl
set_option maxHeartbeats 400000 in
theorem alive_any (w : World) :
    Calls Try.prog 6 #[] w fun e w' => e = .returned (.bool true) ∧ Below w.heap.size w w' := by
  go_enter Try.func6, Try.ntmps6
  go_wp2_with fail
  refine (name_at _ true _ (by decide) alive_name1).mono ?_
  rintro e w' ⟨rfl, rfl⟩
  go_wp2_with fail
  refine (name_at _ false _ (by decide) alive_name2).mono ?_
  rintro e w' ⟨rfl, rfl⟩
  go_wp2_with fail
  refine (param_at _ true _ (by decide) alive_param1).mono ?_
  rintro e w1 ⟨rfl, hb1⟩
  go_wp2_with fail
  refine (param_at _ false _ (by decide) alive_param2).mono ?_
  rintro e w2 ⟨rfl, hb2⟩
  go_wp2_with fail
  go_ret
  exact ⟨rfl, hb1.trans (hb2.mono hb1.size)⟩

set_option maxHeartbeats 1000000 in
theorem bytes_law (n : Nat) (hn : n < 256) (w : World) :
    Calls Try.prog 3 #[.int .u8 n] w fun e w' => e = .returned (.bool true) ∧ Below w.heap.size w w' := by
  go_enter Try.func3, Try.ntmps3
  go_wp2_with (first
    | (go_at_call 6; refine (alive_any _).mono ?_; rintro e w1 ⟨rfl, hb1⟩)
    | (go_at_call 7; refine (blank_any _ _).mono ?_; rintro e w' ⟨rfl, rfl⟩)
    | (go_at_call 8; refine (rblank_any _ _).mono ?_; rintro e w' ⟨rfl, rfl⟩)
    | (go_at_call 9; refine (break_any _ _).mono ?_; rintro e w' ⟨rfl, rfl⟩)
    | (go_at_call 10; refine (rbreak_any _ _).mono ?_; rintro e w' ⟨rfl, rfl⟩)
    | (go_at_call 11; refine (sign_any _ _).mono ?_; rintro e w' ⟨rfl, rfl⟩)
    | (go_at_call 12; refine (rsign_any _ hn _).mono ?_; rintro e w' ⟨rfl, rfl⟩)
    | (go_at_call 13; refine (bare_any _ _).mono ?_; rintro e w' ⟨rfl, rfl⟩)
    | (go_at_call 14; refine (rbare_any _ hn _).mono ?_; rintro e w' ⟨rfl, rfl⟩)
    | (go_at_call 15; refine (letter_any _ _).mono ?_; rintro e w' ⟨rfl, rfl⟩)
    | (go_at_call 16; refine (rletter_any _ hn _).mono ?_; rintro e w' ⟨rfl, rfl⟩)
    | (go_at_call 17; refine (digit_any _ _).mono ?_; rintro e w' ⟨rfl, rfl⟩)
    | (go_at_call 18; refine (rdigit_any _ hn _).mono ?_; rintro e w' ⟨rfl, rfl⟩))
  go_ret
  exact ⟨rfl, hb1⟩

set_option maxHeartbeats 1000000 in
theorem texts_law (s : ByteArray) (hs : s.size ≤ 9223372036854775807) (w : World) :
    Calls Try.prog 4 #[.string s] w fun e w' => e = .returned (.bool true) ∧ Below w.heap.size w w' := by
  by_cases hl : 2000 < s.size
  · go_enter Try.func4, Try.ntmps4
    go_wp2_with (go_at_call 6; refine (alive_any _).mono ?_; rintro e w1 ⟨rfl, hb1⟩)
    go_ret
    exact ⟨rfl, hb1⟩
  · go_enter Try.func4, Try.ntmps4
    go_wp2_with (first
      | (go_at_call 6; refine (alive_any _).mono ?_; rintro e w1 ⟨rfl, hb1⟩)
      | (go_at_call 19; refine (name_any _ _ hs).mono ?_; rintro e w' ⟨rfl, rfl⟩)
      | (go_at_call 20; refine (rname_any _ _ hs).mono ?_; rintro e w' ⟨rfl, rfl⟩)
      | (go_at_call 21; refine (param_any _ _ hs).mono ?_; rintro e w2 ⟨rfl, hb2⟩)
      | (go_at_call 22; refine (rparam_any _ _ hs).mono ?_; rintro e w' ⟨rfl, rfl⟩)
      | (go_at_call 23; refine (reserved_any _ _).mono ?_; rintro e w' ⟨rfl, rfl⟩)
      | (go_at_call 24; refine (rreserved_any _ _).mono ?_; rintro e w3 ⟨rfl, hb3⟩))
    go_ret
    have k2 := hb1.trans (hb2.mono hb1.size)
    exact ⟨rfl, k2.trans (hb3.mono k2.size)⟩
end Cls
end Go.Proofs.Ytkbamhkjebihlaa
