/- What the small functions of package sig answer (Is, bit, Has, With, Without, Mild, Fixed, List), for every number and every set: for seats that reach no name of a signal. -/
import Derived.Test.YtlebglnlkkoakaaRows
import Derived.OwnWalk
import Derived.WalkKit
import Derived.Lib.Hide
import Derived.WalkSpells
import Derived.WalkLawsBesides
namespace Go.Proofs.Ytlebglnlkkoakaa
open Go.RowKit
namespace Sig

/-- Is it a signal? -/
def isB (s : Int) : Bool := decide (1 ≤ s ∧ s ≤ 31)
theorem isB_yes {s : Int} (h : 1 ≤ s ∧ s ≤ 31) : isB s = true := decide_eq_true h
theorem isB_no {s : Int} (h : ¬ (1 ≤ s ∧ s ≤ 31)) : isB s = false := decide_eq_false h

set_option maxHeartbeats 400000 in
theorem is_yes (s : Int) (h1 : 1 ≤ s) (h2 : s ≤ 31) (w : World) :
    Calls Try.prog 48 #[.int .i64 s] w fun e w' => e = .returned (.bool true) ∧ w = w' := by
  go_enter Try.func48, Try.ntmps48
  go_wp2
  go_ret
  exact ⟨rfl, rfl⟩
set_option maxHeartbeats 400000 in
theorem is_no (s : Int) (h : ¬ (1 ≤ s ∧ s ≤ 31)) (w : World) :
    Calls Try.prog 48 #[.int .i64 s] w fun e w' => e = .returned (.bool false) ∧ w = w' := by
  by_cases h1 : 1 ≤ s
  · have h2 : decide (s ≤ 31) = false := decide_eq_false (by omega)
    clear h
    go_enter Try.func48, Try.ntmps48
    go_wp2
    go_ret
    exact ⟨rfl, rfl⟩
  · have h1 : s < 1 := by omega
    clear h
    go_enter Try.func48, Try.ntmps48
    go_wp2
    go_ret
    exact ⟨rfl, rfl⟩
theorem is_any (s : Int) (w : World) :
    Calls Try.prog 48 #[.int .i64 s] w fun e w' => e = .returned (.bool (isB s)) ∧ w = w' := by
  by_cases h : 1 ≤ s ∧ s ≤ 31
  · rw [isB_yes h]; exact is_yes s h.1 h.2 w
  · rw [isB_no h]; exact is_no s h w

/-- Is s in x? -/
def hasB (x : Nat) (s : Int) : Bool := isB s && x.testBit s.toNat
/-- The set of s alone, as a number. -/
def bitN (s : Int) : Nat := if isB s then 2 ^ s.toNat else 0
theorem bitN_yes {s : Nat} (h : 1 ≤ s ∧ s ≤ 31) : bitN (s : Int) = 2 ^ s := by simp [bitN, isB]; omega
theorem bitN_no {s : Int} (h : ¬ (1 ≤ s ∧ s ≤ 31)) : bitN s = 0 := by simp [bitN, isB_no h]
theorem ret_u32 {a b : Int} (h : a = b) : Ending.returned (.int .u32 a) = .returned (.int .u32 b) := by rw [h]
theorem pow_lt (s : Nat) (h : s ≤ 31) : 2 ^ s < 4294967296 := by
  have : (2 : Nat) ^ s < 2 ^ 32 := Nat.pow_lt_pow_right (by decide) (by omega)
  exact this
theorem bitN_lt (s : Int) : bitN s < 4294967296 := by
  unfold bitN
  split
  · rename_i h; have h := of_decide_eq_true h; exact pow_lt _ (by omega)
  · decide
theorem ret_bool {a b : Bool} (h : a = b) : Ending.returned (.bool a) = .returned (.bool b) := by rw [h]
theorem and_has (x : Nat) (s : Int) (hx : x < 4294967296) : (bits .and .u32 (x : Int) (bitN s : Int) != 0) = hasB x s := by
  rw [u32_and_nat x (bitN s) hx (bitN_lt s)]
  unfold hasB
  by_cases h : 1 ≤ s ∧ s ≤ 31
  · obtain ⟨n, rfl⟩ : ∃ n : Nat, s = n := ⟨s.toNat, by omega⟩
    rw [bitN_yes (by omega), isB_yes h]
    cases hb : x.testBit n
    · have : x &&& 2 ^ n = 0 := by
        apply Nat.eq_of_testBit_eq
        intro i
        rw [Nat.testBit_and, Nat.testBit_two_pow]
        by_cases hi : n = i
        · subst hi; simp [hb]
        · simp [hi]
      simp [this, hb]
    · have : x &&& 2 ^ n ≠ 0 := by
        intro h0
        have := congrArg (Nat.testBit · n) h0
        simp [Nat.testBit_and, hb] at this
      simp [this, hb]
  · rw [bitN_no h, isB_no h]; simp

set_option maxHeartbeats 400000 in
theorem bit_yes (s : Nat) (h1 : 1 ≤ s) (h2 : s ≤ 31) (w : World) :
    Calls Try.prog 62 #[.int .i64 s] w fun e w' => e = .returned (.int .u32 (2 ^ s : Nat)) ∧ w = w' := by
  go_enter Try.func62, Try.ntmps62
  go_wp2_with (go_at_call 48; refine (is_yes _ (by omega) (by omega) _).mono ?_; rintro e w' ⟨rfl, rfl⟩)
  go_ret
  exact ⟨ret_u32 (by have := pow_lt s h2; rw [← Nat.mod_eq_of_lt this]; simp), rfl⟩
set_option maxHeartbeats 400000 in
theorem bit_no (s : Int) (h : ¬ (1 ≤ s ∧ s ≤ 31)) (w : World) :
    Calls Try.prog 62 #[.int .i64 s] w fun e w' => e = .returned (.int .u32 (0 : Nat)) ∧ w = w' := by
  have H := Lib.hid h; clear h
  go_enter Try.func62, Try.ntmps62
  go_wp2_with (go_at_call 48; refine (is_no _ H.out _).mono ?_; rintro e w' ⟨rfl, rfl⟩)
  go_ret
  exact ⟨rfl, rfl⟩
theorem bit_any (s : Int) (w : World) :
    Calls Try.prog 62 #[.int .i64 s] w fun e w' => e = .returned (.int .u32 (bitN s)) ∧ w = w' := by
  by_cases h : 1 ≤ s ∧ s ≤ 31
  · obtain ⟨n, rfl⟩ : ∃ n : Nat, s = n := ⟨s.toNat, by omega⟩
    rw [bitN_yes (by omega)]; exact bit_yes n (by omega) (by omega) w
  · rw [bitN_no h]; exact bit_no s h w

set_option maxHeartbeats 400000 in
theorem has_any (x : Nat) (s : Int) (hx : x < 4294967296) (w : World) :
    Calls Try.prog 33 #[.int .u32 x, .int .i64 s] w fun e w' => e = .returned (.bool (hasB x s)) ∧ w = w' := by
  have hb := bitN_lt s
  go_enter Try.func33, Try.ntmps33
  go_wp2_with (go_at_call 62; refine (bit_any _ _).mono ?_; rintro e w' ⟨rfl, rfl⟩)
  go_ret
  exact ⟨ret_bool (and_has x s hx), rfl⟩
set_option maxHeartbeats 400000 in
theorem with_any (x : Nat) (s : Int) (hx : x < 4294967296) (w : World) :
    Calls Try.prog 50 #[.int .u32 x, .int .i64 s] w fun e w' => e = .returned (.int .u32 (x ||| bitN s : Nat)) ∧ w = w' := by
  have hb := bitN_lt s
  go_enter Try.func50, Try.ntmps50
  go_wp2_with (go_at_call 62; refine (bit_any _ _).mono ?_; rintro e w' ⟨rfl, rfl⟩)
  go_ret
  exact ⟨ret_u32 (u32_or_nat x (bitN s) hx hb), rfl⟩
set_option maxHeartbeats 400000 in
theorem without_any (x : Nat) (s : Int) (hx : x < 4294967296) (w : World) :
    Calls Try.prog 56 #[.int .u32 x, .int .i64 s] w fun e w' => e = .returned (.int .u32 (x &&& (4294967295 - bitN s) : Nat)) ∧ w = w' := by
  have hb := bitN_lt s
  go_enter Try.func56, Try.ntmps56
  go_wp2_with (go_at_call 62; refine (bit_any _ _).mono ?_; rintro e w' ⟨rfl, rfl⟩)
  go_ret
  exact ⟨ret_u32 (u32_andNot_nat x (bitN s) hx hb), rfl⟩

/-- Nobody dies of it. -/
def mildB (s : Int) : Bool := s == 17 || s == 18 || s == 23 || s == 28
def fixedB (s : Int) : Bool := s == 9 || s == 19
set_option maxHeartbeats 400000 in
theorem mild_any (s : Int) (w : World) :
    Calls Try.prog 51 #[.int .i64 s] w fun e w' => e = .returned (.bool (mildB s)) ∧ w = w' := by
  unfold mildB
  cases h1 : s == 17 <;> cases h2 : s == 18 <;> cases h3 : s == 23 <;> cases h4 : s == 28
  all_goals
    go_enter Try.func51, Try.ntmps51
    go_wp2
    go_ret
    exact ⟨rfl, rfl⟩
set_option maxHeartbeats 400000 in
theorem fixed_any (s : Int) (w : World) :
    Calls Try.prog 34 #[.int .i64 s] w fun e w' => e = .returned (.bool (fixedB s)) ∧ w = w' := by
  unfold fixedB
  cases h1 : s == 9 <;> cases h2 : s == 19
  all_goals
    go_enter Try.func34, Try.ntmps34
    go_wp2
    go_ret
    exact ⟨rfl, rfl⟩

/-- The signals from 1 to k that are in x. -/
def listN (x k : Nat) : List Int := ((List.range k).map fun i : Nat => (i : Int) + 1).filter (hasB x)
theorem listN_succ (x k : Nat) : listN x (k + 1) = listN x k ++ (if hasB x ((k : Int) + 1) then [(k : Int) + 1] else []) := by
  unfold listN
  rw [List.range_succ, List.map_append, List.filter_append]
  cases h : hasB x ((k : Int) + 1) <;> simp [h]
theorem listN_len (x k : Nat) : (listN x k).length ≤ k := by
  unfold listN
  exact Nat.le_trans (List.length_filter_le _ _) (by simp)
theorem infoInt : (Try.prog.info? 3).map (fun i => (i.zero, i.size, i.bytes)) = some (some (.int .i64 0), 1, 8) := by kernel_rfl
/-- One round of List: a signal that is in the set is appended. -/
theorem list_rel {w w1 : World} {x k : Nat} {v' : Value} (hh : hasB x ((k : Int) + 1) = true) (hown : w1.ownsRow w.heap.size 3 1 v' ((listN x k).length + 1) ((listN x k).map (Value.int .i64) ++ [.int .i64 ((k : Int) + 1)])) :
    w1.ownsRow w.heap.size 3 1 v' (listN x (k + 1)).length ((listN x (k + 1)).map (Value.int .i64)) := by
  rw [listN_succ, if_pos hh]
  simpa using hown
theorem list_skip {w wr : World} {x k : Nat} {v : Value} (hh : hasB x ((k : Int) + 1) = false) (hown : wr.ownsRow w.heap.size 3 1 v (listN x k).length ((listN x k).map (Value.int .i64))) :
    wr.ownsRow w.heap.size 3 1 v (listN x (k + 1)).length ((listN x (k + 1)).map (Value.int .i64)) := by
  rw [listN_succ, if_neg (by simp [hh]), List.append_nil]
  exact hown

set_option maxHeartbeats 800000 in
set_option maxRecDepth 100000 in
theorem list_any (x : Nat) (hx : x < 4294967296) (w : World) :
    Calls Try.prog 63 #[.int .u32 x] w fun e w' => ∃ v, e = .returned v ∧ w'.ownsRow w.heap.size 3 1 v (listN x 31).length ((listN x 31).map (Value.int .i64)) ∧ Below w.heap.size w w' := by
  obtain ⟨i0, hi, hz0, hz1, hz2⟩ := info_parts infoInt
  go_enter Try.func63, Try.ntmps63
  go_wp2
  go_loopw [3, 4] (fun v s wr => ∃ k : Nat, k ≤ 31 ∧ s = .int .i64 ((k : Int) + 1) ∧ wr.ownsRow w.heap.size 3 1 v (listN x k).length ((listN x k).map (Value.int .i64)) ∧ Below w.heap.size w wr) (fun _ s _ => 32 - (intOf s).toNat)
  case atStart => exact ⟨0, by omega, rfl, World.ownsRow_nil _ _ _ _, Below.refl _ _⟩
  case round =>
    obtain ⟨k, hk, rfl, hown, hbel⟩ := hrel
    have HO := Lib.hid hown; have HB := Lib.hid hbel
    have hsz := hbel.size
    have hln := listN_len x k
    clear hown hbel
    by_cases hlt : k < 31
    · cases hh : hasB x ((k : Int) + 1)
      · have HH := Lib.hid hh
        go_wp2_with (go_at_call 33; refine (has_any _ _ hx _).mono ?_; rintro e w' ⟨rfl, rfl⟩)
        go_roundw
        case rel => exact ⟨k + 1, by omega, by go_num, list_skip (w := w) HH.out HO.out, HB.out⟩
        case measure => simp [intOf]; omega
      · have HH := Lib.hid hh
        go_wp2_with (first
          | (go_at_call 33; refine (has_any _ _ hx _).mono ?_; rintro e w' ⟨rfl, rfl⟩)
          | (at_builtin; refine wpList_append_own _ rfl _ _ 60 rfl w.heap.size 3 i0 (.int .i64 0) 1 8 Try.underlying60 hi hz0 hz1 hz2 rfl (by decide) _ _ _ rfl (HO.out.alloc _) ⟨_, 0, none⟩ 1 1 [.int .i64 ((k : Int) + 1)] rfl rfl ?c1 ?c2 ?c3 ?c4 ?c5 ?_))
        case c1 =>
          intro j u hj
          match j, hj with
          | 0, hj => simp at hj; subst hj; simp [Addr.add]
        case c2 => intro u hu; simp at hu; subst hu; rfl
        case c3 => unfold maxLen; omega
        case c4 => omega
        case c5 => simp; omega
        intro v' w1 hown' hgrow _
        have H1 := Lib.hid hown'; have HG := Lib.hid hgrow
        clear hown' hgrow
        go_wp2
        go_roundw
        case rel => exact ⟨k + 1, by omega, by go_num, list_rel HH.out H1.out, (HB.out.alloc hsz _).grown HG.out (by simp; omega) (fun j hj => (HO.out.lt j hj).1)⟩
        case measure => simp [intOf]; omega
    · obtain rfl : k = 31 := by omega
      go_wp2
      go_ret
      exact ⟨_, rfl, HO.out, HB.out⟩
end Sig
end Go.Proofs.Ytlebglnlkkoakaa
