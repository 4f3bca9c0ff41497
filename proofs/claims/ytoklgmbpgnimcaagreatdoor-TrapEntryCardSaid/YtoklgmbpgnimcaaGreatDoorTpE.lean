/- What the small functions of package sig answer (Is, bit, Has, With, Without, Mild, Fixed, List), for every number and every set: for seats that reach no name of a signal. -/
/- What the reference answers of signals and sets (Is, Name, Mild, Fixed, Has, With, Without, List). -/
/- What lies in memory of a table of traps; what the small functions answer (is, free, How, Entry). -/
/- put and Reset. -/
/- New. -/
/- Reset, Action. -/
/- Child. -/
import Derived.Test.YtoklgmbpgnimcaaGreatDoorRows
import Derived.OwnWalk
import Derived.WalkKit
import Derived.Lib.Hide
import Derived.WalkSpells
import Derived.WalkLawsBesides
import Derived.Lib.SlBytesRow
import Derived.Deep.WholeRow
import Derived.Test.YtoklgmbpgnimcaaGreatDoorRegN
import Derived.Deep.MidRow
namespace Go.Proofs.YtoklgmbpgnimcaaGreatDoor
open Go.RowKit
namespace Sig

/-- Is it a signal? -/
def isB (s : Int) : Bool := decide (1 ≤ s ∧ s ≤ 31)
theorem isB_yes {s : Int} (h : 1 ≤ s ∧ s ≤ 31) : isB s = true := decide_eq_true h
theorem isB_no {s : Int} (h : ¬ (1 ≤ s ∧ s ≤ 31)) : isB s = false := decide_eq_false h

set_option maxHeartbeats 400000 in
theorem is_yes (s : Int) (h1 : 1 ≤ s) (h2 : s ≤ 31) (w : World) :
    Calls Tryz.prog 31 #[.int .i64 s] w fun e w' => e = .returned (.bool true) ∧ w = w' := by
  go_enter Tryz.func31, Tryz.ntmps31
  go_wp2
  go_ret
  exact ⟨rfl, rfl⟩
set_option maxHeartbeats 400000 in
theorem is_no (s : Int) (h : ¬ (1 ≤ s ∧ s ≤ 31)) (w : World) :
    Calls Tryz.prog 31 #[.int .i64 s] w fun e w' => e = .returned (.bool false) ∧ w = w' := by
  by_cases h1 : 1 ≤ s
  · have h2 : decide (s ≤ 31) = false := decide_eq_false (by omega)
    clear h
    go_enter Tryz.func31, Tryz.ntmps31
    go_wp2
    go_ret
    exact ⟨rfl, rfl⟩
  · have h1 : s < 1 := by omega
    clear h
    go_enter Tryz.func31, Tryz.ntmps31
    go_wp2
    go_ret
    exact ⟨rfl, rfl⟩
theorem is_any (s : Int) (w : World) :
    Calls Tryz.prog 31 #[.int .i64 s] w fun e w' => e = .returned (.bool (isB s)) ∧ w = w' := by
  by_cases h : 1 ≤ s ∧ s ≤ 31
  · rw [isB_yes h]; exact is_yes s h.1 h.2 w
  · rw [isB_no h]; exact is_no s h w

/-- Is s in x? -/
def hasB (x : Nat) (s : Int) : Bool := isB s && x.testBit s.toNat
/-- The set of s alone, as a number. -/
def bitN (s : Int) : Nat := if isB s then 2 ^ s.toNat else 0
theorem bitN_yes {s : Nat} (h : 1 ≤ s ∧ s ≤ 31) : bitN (s : Int) = 2 ^ s := by simp [bitN, isB]; omega
theorem bitN_no {s : Int} (h : ¬ (1 ≤ s ∧ s ≤ 31)) : bitN s = 0 := by simp [bitN, isB_no h]
theorem ret_u32 {a b : Int} (h : a = b) : Ending.returned (.int .u32 a) = .returned (.int .u32 b) := by rw [h]
theorem pow_lt (s : Nat) (h : s ≤ 31) : 2 ^ s < 4294967296 := by
  have : (2 : Nat) ^ s < 2 ^ 32 := Nat.pow_lt_pow_right (by decide) (by omega)
  exact this
theorem bitN_lt (s : Int) : bitN s < 4294967296 := by
  unfold bitN
  split
  · rename_i h; have h := of_decide_eq_true h; exact pow_lt _ (by omega)
  · decide
theorem ret_bool {a b : Bool} (h : a = b) : Ending.returned (.bool a) = .returned (.bool b) := by rw [h]
theorem and_has (x : Nat) (s : Int) (hx : x < 4294967296) : (bits .and .u32 (x : Int) (bitN s : Int) != 0) = hasB x s := by
  rw [u32_and_nat x (bitN s) hx (bitN_lt s)]
  unfold hasB
  by_cases h : 1 ≤ s ∧ s ≤ 31
  · obtain ⟨n, rfl⟩ : ∃ n : Nat, s = n := ⟨s.toNat, by omega⟩
    rw [bitN_yes (by omega), isB_yes h]
    cases hb : x.testBit n
    · have : x &&& 2 ^ n = 0 := by
        apply Nat.eq_of_testBit_eq
        intro i
        rw [Nat.testBit_and, Nat.testBit_two_pow]
        by_cases hi : n = i
        · subst hi; simp [hb]
        · simp [hi]
      simp [this, hb]
    · have : x &&& 2 ^ n ≠ 0 := by
        intro h0
        have := congrArg (Nat.testBit · n) h0
        simp [Nat.testBit_and, hb] at this
      simp [this, hb]
  · rw [bitN_no h, isB_no h]; simp

set_option maxHeartbeats 400000 in
theorem bit_yes (s : Nat) (h1 : 1 ≤ s) (h2 : s ≤ 31) (w : World) :
    Calls Tryz.prog 28 #[.int .i64 s] w fun e w' => e = .returned (.int .u32 (2 ^ s : Nat)) ∧ w = w' := by
  go_enter Tryz.func28, Tryz.ntmps28
  go_wp2_with (go_at_call 31; refine (is_yes _ (by omega) (by omega) _).mono ?_; rintro e w' ⟨rfl, rfl⟩)
  go_ret
  exact ⟨ret_u32 (by have := pow_lt s h2; rw [← Nat.mod_eq_of_lt this]; simp), rfl⟩
set_option maxHeartbeats 400000 in
theorem bit_no (s : Int) (h : ¬ (1 ≤ s ∧ s ≤ 31)) (w : World) :
    Calls Tryz.prog 28 #[.int .i64 s] w fun e w' => e = .returned (.int .u32 (0 : Nat)) ∧ w = w' := by
  have H := Lib.hid h; clear h
  go_enter Tryz.func28, Tryz.ntmps28
  go_wp2_with (go_at_call 31; refine (is_no _ H.out _).mono ?_; rintro e w' ⟨rfl, rfl⟩)
  go_ret
  exact ⟨rfl, rfl⟩
theorem bit_any (s : Int) (w : World) :
    Calls Tryz.prog 28 #[.int .i64 s] w fun e w' => e = .returned (.int .u32 (bitN s)) ∧ w = w' := by
  by_cases h : 1 ≤ s ∧ s ≤ 31
  · obtain ⟨n, rfl⟩ : ∃ n : Nat, s = n := ⟨s.toNat, by omega⟩
    rw [bitN_yes (by omega)]; exact bit_yes n (by omega) (by omega) w
  · rw [bitN_no h]; exact bit_no s h w

set_option maxHeartbeats 400000 in
theorem has_any (x : Nat) (s : Int) (hx : x < 4294967296) (w : World) :
    Calls Tryz.prog 25 #[.int .u32 x, .int .i64 s] w fun e w' => e = .returned (.bool (hasB x s)) ∧ w = w' := by
  have hb := bitN_lt s
  go_enter Tryz.func25, Tryz.ntmps25
  go_wp2_with (go_at_call 28; refine (bit_any _ _).mono ?_; rintro e w' ⟨rfl, rfl⟩)
  go_ret
  exact ⟨ret_bool (and_has x s hx), rfl⟩
set_option maxHeartbeats 400000 in
theorem with_any (x : Nat) (s : Int) (hx : x < 4294967296) (w : World) :
    Calls Tryz.prog 17 #[.int .u32 x, .int .i64 s] w fun e w' => e = .returned (.int .u32 (x ||| bitN s : Nat)) ∧ w = w' := by
  have hb := bitN_lt s
  go_enter Tryz.func17, Tryz.ntmps17
  go_wp2_with (go_at_call 28; refine (bit_any _ _).mono ?_; rintro e w' ⟨rfl, rfl⟩)
  go_ret
  exact ⟨ret_u32 (u32_or_nat x (bitN s) hx hb), rfl⟩

/-- Nobody dies of it. -/
def mildB (s : Int) : Bool := s == 17 || s == 18 || s == 23 || s == 28
def fixedB (s : Int) : Bool := s == 9 || s == 19
set_option maxHeartbeats 400000 in
theorem fixed_any (s : Int) (w : World) :
    Calls Tryz.prog 16 #[.int .i64 s] w fun e w' => e = .returned (.bool (fixedB s)) ∧ w = w' := by
  unfold fixedB
  cases h1 : s == 9 <;> cases h2 : s == 19
  all_goals
    go_enter Tryz.func16, Tryz.ntmps16
    go_wp2
    go_ret
    exact ⟨rfl, rfl⟩

/-- The signals from 1 to k that are in x. -/
def listN (x k : Nat) : List Int := ((List.range k).map fun i : Nat => (i : Int) + 1).filter (hasB x)
theorem listN_succ (x k : Nat) : listN x (k + 1) = listN x k ++ (if hasB x ((k : Int) + 1) then [(k : Int) + 1] else []) := by
  unfold listN
  rw [List.range_succ, List.map_append, List.filter_append]
  cases h : hasB x ((k : Int) + 1) <;> simp [h]
theorem listN_len (x k : Nat) : (listN x k).length ≤ k := by
  unfold listN
  exact Nat.le_trans (List.length_filter_le _ _) (by simp)
theorem infoInt : (Tryz.prog.info? 3).map (fun i => (i.zero, i.size, i.bytes)) = some (some (.int .i64 0), 1, 8) := by kernel_rfl
/-- One round of List: a signal that is in the set is appended. -/
theorem list_rel {w w1 : World} {x k : Nat} {v' : Value} (hh : hasB x ((k : Int) + 1) = true) (hown : w1.ownsRow w.heap.size 3 1 v' ((listN x k).length + 1) ((listN x k).map (Value.int .i64) ++ [.int .i64 ((k : Int) + 1)])) :
    w1.ownsRow w.heap.size 3 1 v' (listN x (k + 1)).length ((listN x (k + 1)).map (Value.int .i64)) := by
  rw [listN_succ, if_pos hh]
  simpa using hown
theorem list_skip {w wr : World} {x k : Nat} {v : Value} (hh : hasB x ((k : Int) + 1) = false) (hown : wr.ownsRow w.heap.size 3 1 v (listN x k).length ((listN x k).map (Value.int .i64))) :
    wr.ownsRow w.heap.size 3 1 v (listN x (k + 1)).length ((listN x (k + 1)).map (Value.int .i64)) := by
  rw [listN_succ, if_neg (by simp [hh]), List.append_nil]
  exact hown

set_option maxHeartbeats 800000 in
set_option maxRecDepth 100000 in
theorem list_any (x : Nat) (hx : x < 4294967296) (w : World) :
    Calls Tryz.prog 15 #[.int .u32 x] w fun e w' => ∃ v, e = .returned v ∧ w'.ownsRow w.heap.size 3 1 v (listN x 31).length ((listN x 31).map (Value.int .i64)) ∧ Below w.heap.size w w' := by
  obtain ⟨i0, hi, hz0, hz1, hz2⟩ := info_parts infoInt
  go_enter Tryz.func15, Tryz.ntmps15
  go_wp2
  go_loopw [3, 4] (fun v s wr => ∃ k : Nat, k ≤ 31 ∧ s = .int .i64 ((k : Int) + 1) ∧ wr.ownsRow w.heap.size 3 1 v (listN x k).length ((listN x k).map (Value.int .i64)) ∧ Below w.heap.size w wr) (fun _ s _ => 32 - (intOf s).toNat)
  case atStart => exact ⟨0, by omega, rfl, World.ownsRow_nil _ _ _ _, Below.refl _ _⟩
  case round =>
    obtain ⟨k, hk, rfl, hown, hbel⟩ := hrel
    have HO := Lib.hid hown; have HB := Lib.hid hbel
    have hsz := hbel.size
    have hln := listN_len x k
    clear hown hbel
    by_cases hlt : k < 31
    · cases hh : hasB x ((k : Int) + 1)
      · have HH := Lib.hid hh
        go_wp2_with (go_at_call 25; refine (has_any _ _ hx _).mono ?_; rintro e w' ⟨rfl, rfl⟩)
        go_roundw
        case rel => exact ⟨k + 1, by omega, by go_num, list_skip (w := w) HH.out HO.out, HB.out⟩
        case measure => simp [intOf]; omega
      · have HH := Lib.hid hh
        go_wp2_with (first
          | (go_at_call 25; refine (has_any _ _ hx _).mono ?_; rintro e w' ⟨rfl, rfl⟩)
          | (at_builtin; refine wpList_append_own _ rfl _ _ 56 rfl w.heap.size 3 i0 (.int .i64 0) 1 8 Tryz.underlying56 hi hz0 hz1 hz2 rfl (by decide) _ _ _ rfl (HO.out.alloc _) ⟨_, 0, none⟩ 1 1 [.int .i64 ((k : Int) + 1)] rfl rfl ?c1 ?c2 ?c3 ?c4 ?c5 ?_))
        case c1 =>
          intro j u hj
          match j, hj with
          | 0, hj => simp at hj; subst hj; simp [Addr.add]
        case c2 => intro u hu; simp at hu; subst hu; rfl
        case c3 => unfold maxLen; omega
        case c4 => omega
        case c5 => simp; omega
        intro v' w1 hown' hgrow _
        have H1 := Lib.hid hown'; have HG := Lib.hid hgrow
        clear hown' hgrow
        go_wp2
        go_roundw
        case rel => exact ⟨k + 1, by omega, by go_num, list_rel HH.out H1.out, (HB.out.alloc hsz _).grown HG.out (by simp; omega) (fun j hj => (HO.out.lt j hj).1)⟩
        case measure => simp [intOf]; omega
    · obtain rfl : k = 31 := by omega
      go_wp2
      go_ret
      exact ⟨_, rfl, HO.out, HB.out⟩
end Sig
end Go.Proofs.YtoklgmbpgnimcaaGreatDoor

namespace Go.Proofs.YtoklgmbpgnimcaaGreatDoor
open Go.RowKit
namespace Sig

/-- The names, from 1 on. -/
def nm : Nat → List UInt8
  | 1 => [72, 85, 80] | 2 => [73, 78, 84] | 3 => [81, 85, 73, 84] | 4 => [73, 76, 76] | 5 => [84, 82, 65, 80] | 6 => [65, 66, 82, 84] | 7 => [66, 85, 83] | 8 => [70, 80, 69]
  | 9 => [75, 73, 76, 76] | 10 => [85, 83, 82, 49] | 11 => [83, 69, 71, 86] | 12 => [85, 83, 82, 50] | 13 => [80, 73, 80, 69] | 14 => [65, 76, 82, 77] | 15 => [84, 69, 82, 77] | 16 => [83, 84, 75, 70, 76, 84]
  | 17 => [67, 72, 76, 68] | 18 => [67, 79, 78, 84] | 19 => [83, 84, 79, 80] | 20 => [84, 83, 84, 80] | 21 => [84, 84, 73, 78] | 22 => [84, 84, 79, 85] | 23 => [85, 82, 71] | 24 => [88, 67, 80, 85]
  | 25 => [88, 70, 83, 90] | 26 => [86, 84, 65, 76, 82, 77] | 27 => [80, 82, 79, 70] | 28 => [87, 73, 78, 67, 72] | 29 => [73, 79] | 30 => [80, 87, 82] | 31 => [83, 89, 83] | _ => []
def nmB (s : Nat) : ByteArray := ⟨(nm s).toArray⟩
set_option maxHeartbeats 400000 in
theorem ris_any (s : Int) (w : World) :
    Calls Tryz.prog 18 #[.int .i64 s] w fun e w' => e = .returned (.bool (isB s)) ∧ w = w' := by
  by_cases h : 1 ≤ s
  · by_cases h' : s ≤ 31
    · rw [isB_yes ⟨h, h'⟩]
      go_enter Tryz.func18, Tryz.ntmps18
      go_wp2
      go_ret
      exact ⟨rfl, rfl⟩
    · rw [isB_no (by omega)]
      have hd : decide (s ≤ 31) = false := decide_eq_false (by omega)
      clear h'
      go_enter Tryz.func18, Tryz.ntmps18
      go_wp2
      go_ret
      exact ⟨rfl, rfl⟩
  · rw [isB_no (by omega)]
    have h1 : s < 1 := by omega
    clear h
    go_enter Tryz.func18, Tryz.ntmps18
    go_wp2
    go_ret
    exact ⟨rfl, rfl⟩

set_option maxHeartbeats 400000 in
theorem rnames_any (w : World) :
    Calls Tryz.prog 29 #[] w fun e w' => e = .returned (.slice (some ⟨w.heap.size, 0, none⟩) 31 31) ∧ Below w.heap.size w w' ∧ w.heap.size < w'.heap.size ∧ ∀ k : Nat, k < 31 → w'.cell? ⟨w.heap.size, k, none⟩ = some (.string (nmB (k + 1))) := by
  go_enter Tryz.func29, Tryz.ntmps29
  go_wp2
  go_ret
  refine ⟨rfl, (Below.refl _ _).alloc (Nat.le_refl _) _, by simp, ?_⟩
  intro k hk
  rw [World.cell?_alloc_at _ _ _ _ rfl]
  match k, hk with
  | 0, _ => rfl | 1, _ => rfl | 2, _ => rfl | 3, _ => rfl | 4, _ => rfl | 5, _ => rfl | 6, _ => rfl | 7, _ => rfl | 8, _ => rfl | 9, _ => rfl | 10, _ => rfl | 11, _ => rfl | 12, _ => rfl | 13, _ => rfl | 14, _ => rfl | 15, _ => rfl | 16, _ => rfl | 17, _ => rfl | 18, _ => rfl | 19, _ => rfl | 20, _ => rfl | 21, _ => rfl | 22, _ => rfl | 23, _ => rfl | 24, _ => rfl | 25, _ => rfl | 26, _ => rfl | 27, _ => rfl | 28, _ => rfl | 29, _ => rfl | 30, _ => rfl | n + 31, h => omega

set_option maxHeartbeats 400000 in
theorem rname_yes (s : Nat) (h1 : 1 ≤ s) (h2 : s ≤ 31) (w : World) :
    Calls Tryz.prog 20 #[.int .i64 s] w fun e w' => e = .returned (.string (nmB s)) ∧ Below w.heap.size w w' := by
  have hb : isB (s : Int) = true := isB_yes (by omega)
  go_enter Tryz.func20, Tryz.ntmps20
  go_wp2_with (go_at_call 18; refine (ris_any _ _).mono ?_; rintro e w' ⟨rfl, rfl⟩)
  refine (rnames_any _).mono ?_
  rintro e w1 ⟨rfl, hbel, -, hc⟩
  have hc1 := hc (s - 1) (by omega)
  rw [show s - 1 + 1 = s by omega] at hc1
  clear hc hb
  go_wp2
  go_ret
  exact ⟨rfl, hbel⟩
set_option maxHeartbeats 400000 in
theorem rname_no (s : Int) (h : ¬ (1 ≤ s ∧ s ≤ 31)) (w : World) :
    Calls Tryz.prog 20 #[.int .i64 s] w fun e w' => e = .returned (.string ⟨#[]⟩) ∧ Below w.heap.size w w' := by
  have hb : isB s = false := isB_no h
  clear h
  go_enter Tryz.func20, Tryz.ntmps20
  go_wp2_with (go_at_call 18; refine (ris_any _ _).mono ?_; rintro e w' ⟨rfl, rfl⟩)
  go_ret
  exact ⟨rfl, Below.refl _ _⟩
theorem nm_out {s : Int} (h : ¬ (1 ≤ s ∧ s ≤ 31)) : nm s.toNat = [] := by
  by_cases h0 : s < 1
  · rw [show s.toNat = 0 by omega]; rfl
  · obtain ⟨k, hk⟩ : ∃ k, s.toNat = k + 32 := ⟨s.toNat - 32, by omega⟩
    rw [hk]; rfl
theorem rname_any (s : Int) (w : World) :
    Calls Tryz.prog 20 #[.int .i64 s] w fun e w' => e = .returned (.string (nmB s.toNat)) ∧ Below w.heap.size w w' := by
  by_cases h : 1 ≤ s ∧ s ≤ 31
  · obtain ⟨n, rfl⟩ : ∃ n : Nat, s = n := ⟨s.toNat, by omega⟩
    exact rname_yes n (by omega) (by omega) w
  · rw [nmB, nm_out h]; exact rname_no s h w
/-- Whose name it is. -/
theorem nm_only (x : List UInt8) (k : Nat) (h : ∀ j : Fin 32, (nm j == x) = ((j : Nat) == k)) (hk : 1 ≤ k) (hk' : k < 32) (s : Int) : ((nmB s.toNat).toList == x) = (s == k) := by
  have e : (nmB s.toNat).toList = nm s.toNat := by rw [nmB, Lib.toList_data]
  rw [e]
  by_cases hs : 1 ≤ s ∧ s ≤ 31
  · have := h ⟨s.toNat, by omega⟩
    rw [show nm s.toNat = nm (⟨s.toNat, by omega⟩ : Fin 32) from rfl, this, Bool.eq_iff_iff]
    simp; omega
  · rw [nm_out hs]
    have := h ⟨0, by omega⟩
    rw [show ([] : List UInt8) = nm (⟨0, by omega⟩ : Fin 32) from rfl, this]
    rw [Bool.eq_iff_iff]; simp; omega
set_option maxHeartbeats 400000 in
theorem rfixed_any (s : Int) (w : World) :
    Calls Tryz.prog 7 #[.int .i64 s] w fun e w' => e = .returned (.bool (fixedB s)) ∧ Below w.heap.size w w' := by
  have e1 : ((nmB s.toNat).toList == [75, 73, 76, 76]) = (s == 9) := nm_only [75, 73, 76, 76] 9 (by decide) (by omega) (by omega) s
  have e2 : ((nmB s.toNat).toList == [83, 84, 79, 80]) = (s == 19) := nm_only [83, 84, 79, 80] 19 (by decide) (by omega) (by omega) s
  unfold fixedB
  cases h1 : s == 9 <;> cases h2 : s == 19
  all_goals
    rw [h1] at e1; rw [h2] at e2
    clear h1 h2
    go_enter Tryz.func7, Tryz.ntmps7
    go_wp2_with fail
    refine (rname_any _ _).mono ?_
    rintro e w1 ⟨rfl, hb1⟩
    go_wp2_with (go_at_call 20; refine (rname_any _ _).mono ?_; rintro e w2 ⟨rfl, hb2⟩)
    go_ret
    first
    | exact ⟨rfl, hb1⟩
    | exact ⟨rfl, hb1.trans (hb2.mono hb1.size)⟩
theorem has_div (x : Nat) (s : Nat) (h1 : 1 ≤ s) (h2 : s ≤ 31) : hasB x (s : Int) = (x / 2 ^ s % 2 == 1) := by
  unfold hasB
  rw [isB_yes (by omega), Bool.true_and, show ((s : Int)).toNat = s from rfl, Nat.testBit_eq_decide_div_mod_eq]
  by_cases h : x / 2 ^ s % 2 = 1 <;> simp [h]
theorem add_or {x y : Nat} (hx : x < 2 ^ 33) (hy : y < 2 ^ 33) (h : x &&& y = 0) (hs : x + y < 2 ^ 33) : x + y = x ||| y := by
  have e := BitVec.add_eq_or_of_and_eq_zero (BitVec.ofNat 33 x) (BitVec.ofNat 33 y) (by
    apply BitVec.eq_of_toNat_eq
    simp [BitVec.toNat_and, Nat.mod_eq_of_lt hx, Nat.mod_eq_of_lt hy, h])
  have e2 := congrArg BitVec.toNat e
  simpa [BitVec.toNat_add, BitVec.toNat_or, Nat.mod_eq_of_lt hx, Nat.mod_eq_of_lt hy, Nat.mod_eq_of_lt hs] using e2
theorem with_add {x s : Nat} (hx : x < 4294967296) (h2 : s ≤ 31) (h : x.testBit s = false) : x + 2 ^ s = x ||| 2 ^ s := by
  have hp := pow_lt s h2
  refine add_or (by omega) (by omega) ?_ (by omega)
  apply Nat.eq_of_testBit_eq
  intro i
  rw [Nat.testBit_and, Nat.testBit_two_pow]
  by_cases hi : s = i
  · subst hi; simp [h]
  · simp [hi]
theorem without_sub {x s : Nat} (hx : x < 4294967296) (h2 : s ≤ 31) (h : x.testBit s = true) : x - 2 ^ s = x &&& (4294967295 - 2 ^ s) := by
  have hp := pow_lt s h2
  have bits : ∀ i, (x &&& (4294967295 - 2 ^ s)).testBit i = (x.testBit i && !decide (s = i)) := fun i => by
    rw [Nat.testBit_and]
    by_cases hi : i < 32
    · rw [show 4294967295 - 2 ^ s = 2 ^ 32 - (2 ^ s + 1) by omega, Nat.testBit_two_pow_sub_succ (show 2 ^ s < 2 ^ 32 from hp), Nat.testBit_two_pow]
      simp [hi]
    · have : x.testBit i = false := Nat.testBit_lt_two_pow (Nat.lt_of_lt_of_le hx (Nat.le_trans (show 4294967296 ≤ 2 ^ 32 by decide) (Nat.pow_le_pow_right (show 0 < 2 by decide) (show 32 ≤ i by omega))))
      simp [this]
  have e : (x &&& (4294967295 - 2 ^ s)) ||| 2 ^ s = x := by
    apply Nat.eq_of_testBit_eq
    intro i
    rw [Nat.testBit_or, bits, Nat.testBit_two_pow]
    by_cases hi : s = i
    · subst hi; simp [h]
    · simp [hi]
  have hlt : (x &&& (4294967295 - 2 ^ s)) < 4294967296 := Nat.lt_of_le_of_lt Nat.and_le_left hx
  have e2 := with_add hlt h2 (by rw [bits]; simp)
  omega
theorem with_lt {x : Nat} (hx : x < 4294967296) (s : Int) : x ||| bitN s < 4294967296 := Nat.or_lt_two_pow (n := 32) hx (bitN_lt s)
theorem without_lt {x : Nat} (hx : x < 4294967296) (y : Nat) : x &&& y < 4294967296 := Nat.lt_of_le_of_lt Nat.and_le_left hx
theorem without_none {x : Nat} {s : Int} (hx : x < 4294967296) (h : hasB x s = false) : x &&& (4294967295 - bitN s) = x := by
  by_cases hs : 1 ≤ s ∧ s ≤ 31
  · obtain ⟨n, rfl⟩ : ∃ n : Nat, s = n := ⟨s.toNat, by omega⟩
    have hbit : x.testBit n = false := by unfold hasB at h; rw [isB_yes hs, Bool.true_and] at h; exact h
    rw [bitN_yes (by omega)]
    have hp := pow_lt n (by omega)
    apply Nat.eq_of_testBit_eq
    intro i
    rw [Nat.testBit_and]
    by_cases hi : i < 32
    · rw [show 4294967295 - 2 ^ n = 2 ^ 32 - (2 ^ n + 1) by omega, Nat.testBit_two_pow_sub_succ (show 2 ^ n < 2 ^ 32 from hp), Nat.testBit_two_pow]
      by_cases hk : n = i
      · subst hk; simp [hbit]
      · simp [hi, hk]
    · have : x.testBit i = false := Nat.testBit_lt_two_pow (Nat.lt_of_lt_of_le hx (Nat.le_trans (show 4294967296 ≤ 2 ^ 32 by decide) (Nat.pow_le_pow_right (show 0 < 2 by decide) (show 32 ≤ i by omega))))
      simp [this]
  · rw [bitN_no hs, Nat.sub_zero]
    apply Nat.eq_of_testBit_eq
    intro i
    rw [Nat.testBit_and]
    by_cases hi : i < 32
    · rw [show 4294967295 = 2 ^ 32 - (0 + 1) by decide, Nat.testBit_two_pow_sub_succ (by decide)]
      simp [hi]
    · have : x.testBit i = false := Nat.testBit_lt_two_pow (Nat.lt_of_lt_of_le hx (Nat.le_trans (show 4294967296 ≤ 2 ^ 32 by decide) (Nat.pow_le_pow_right (show 0 < 2 by decide) (show 32 ≤ i by omega))))
      simp [this]
theorem odd_nat {x q : Nat} (hx : x < 4294967296) : ((IntKind.u64.wrap ((x : Int) / (q : Int))).tmod 2 == 1) = (x / q % 2 == 1) := by
  have hd : x / q ≤ x := Nat.div_le_self x q
  have e : ((x : Int) / (q : Int)) = ((x / q : Nat) : Int) := by simp
  rw [e]
  clear e
  generalize x / q = d at hd ⊢
  rw [IntWalk.u64_in _ (by omega), Bool.eq_iff_iff]
  rw [Int.tmod_eq_emod_of_nonneg (by omega)]
  simp only [beq_iff_eq]
  omega
theorem ret_u64 {a b : Int} (h : a = b) : Ending.returned (.int .u64 a) = .returned (.int .u64 b) := by rw [h]

set_option maxHeartbeats 400000 in
theorem rvalue_any (s : Nat) (h : s ≤ 31) (w : World) :
    Calls Tryz.prog 19 #[.int .i64 s] w fun e w' => e = .returned (.int .u64 (2 ^ s : Nat)) ∧ w = w' := by
  have hp := pow_lt s h
  have HP := Lib.hid hp; clear hp
  go_enter Tryz.func19, Tryz.ntmps19
  go_wp2
  go_loop [3, 4] (fun v i => ∃ k : Nat, k ≤ s ∧ i = .int .i64 k ∧ v = .int .u64 (2 ^ k : Nat)) (fun _ i => s - (intOf i).toNat)
  case atStart => exact ⟨0, Nat.zero_le _, rfl, rfl⟩
  case round =>
    obtain ⟨k, hk, rfl, rfl⟩ := hrel
    by_cases hlt : k < s
    · have hpk := pow_lt k (by omega)
      have HPK := Lib.hid hpk
      generalize hq : 2 ^ k = q at hpk
      have HQ := Lib.hid hq; clear hq
      go_wp2
      go_round
      case rel => exact ⟨k + 1, by omega, by go_num, by rw [Nat.pow_succ, HQ.out]; go_num⟩
      case measure => simp [intOf]; omega
    · obtain rfl : k = s := by omega
      go_wp2
      go_ret
      exact ⟨rfl, rfl⟩
set_option maxHeartbeats 400000 in
theorem rhas_any (x : Nat) (s : Int) (hx : x < 4294967296) (w : World) :
    Calls Tryz.prog 6 #[.int .u32 x, .int .i64 s] w fun e w' => e = .returned (.bool (hasB x s)) ∧ w = w' := by
  by_cases h : 1 ≤ s ∧ s ≤ 31
  · obtain ⟨n, rfl⟩ : ∃ n : Nat, s = n := ⟨s.toNat, by omega⟩
    have hb := isB_yes h
    have hd := has_div x n (by omega) (by omega)
    have hp := pow_lt n (by omega)
    have hn : n ≤ 31 := by omega
    rw [hd]
    generalize hq : 2 ^ n = q at hp
    have hq0 : 0 < q := by rw [← hq]; exact Nat.two_pow_pos n
    have HQ := Lib.hid hq
    clear hd hq h
    go_enter Tryz.func6, Tryz.ntmps6
    go_wp2_with (first
      | (go_at_call 18; refine (ris_any _ _).mono ?_; rintro e w' ⟨rfl, rfl⟩)
      | (go_at_call 19; refine (rvalue_any _ (by omega) _).mono ?_; rw [HQ.out]; rintro e w' ⟨rfl, rfl⟩))
    go_ret
    exact ⟨ret_bool (odd_nat hx), rfl⟩
  · have hb := isB_no h
    rw [show hasB x s = false by unfold hasB; rw [hb]; rfl]
    clear h
    go_enter Tryz.func6, Tryz.ntmps6
    go_wp2_with (go_at_call 18; refine (ris_any _ _).mono ?_; rintro e w' ⟨rfl, rfl⟩)
    go_ret
    exact ⟨rfl, rfl⟩
end Sig
end Go.Proofs.YtoklgmbpgnimcaaGreatDoor

namespace Go.Proofs.YtoklgmbpgnimcaaGreatDoor
open Go.RowKit
namespace Tp
open Sig

/-- Is it a condition? -/
def isC (s : Int) : Bool := s == 0 || isB s
theorem isC_iff {s : Int} : isC s = true ↔ 0 ≤ s ∧ s ≤ 31 := by
  unfold isC isB
  simp only [Bool.or_eq_true, beq_iff_eq, decide_eq_true_eq]
  omega
def freeC (s : Int) : Bool := isC s && !fixedB s

set_option maxHeartbeats 400000 in
theorem cis_any (s : Int) (w : World) :
    Calls Tryz.prog 24 #[.int .i64 s] w fun e w' => e = .returned (.bool (isC s)) ∧ w = w' := by
  unfold isC
  cases h1 : s == 0
  all_goals
    go_enter Tryz.func24, Tryz.ntmps24
    go_wp2_with (go_at_call 31; refine (is_any _ _).mono ?_; rintro e w' ⟨rfl, rfl⟩)
    go_ret
    exact ⟨rfl, rfl⟩
set_option maxHeartbeats 400000 in
theorem cfree_any (s : Int) (w : World) :
    Calls Tryz.prog 21 #[.int .i64 s] w fun e w' => e = .returned (.bool (freeC s)) ∧ w = w' := by
  unfold freeC
  cases h1 : isC s
  all_goals
    have hc := cis_any s
    rw [h1] at hc
    have HC := Lib.hid hc
    clear hc
    go_enter Tryz.func21, Tryz.ntmps21
    go_wp2_with (first
      | (go_at_call 24; refine (HC.out _).mono ?_; rintro e w' ⟨rfl, rfl⟩)
      | (go_at_call 16; refine (fixed_any _ _).mono ?_; rintro e w' ⟨rfl, rfl⟩))
    go_ret
    exact ⟨rfl, rfl⟩

/-- What a table holds: E ignored on entry, how of each condition, a text of each. -/
structure TT where
  E : Nat
  h : Nat → Nat
  x : Nat → ByteArray
/-- It lies at block H. -/
structure Tb (w : World) (H : Nat) (t : TT) (C : Array Value) : Prop where
  row : w.heap[H]? = some (.cells C 55 (0, 0))
  size : C.size = 321
  ent : C[0]? = some (.int .u32 t.E)
  lt : t.E < 4294967296
  how : ∀ i, i < 32 → C[1 + i]? = some (.int .i64 (t.h i)) ∧ t.h i < 3
  act : ∀ i, i < 32 → ∃ k nm g a1 l1 c1 a2 l2 c2 a3 l3 c3 a4 l4 c4 a5 l5 c5, C[33 + i * 9]? = some (.string (t.x i)) ∧ C[33 + i * 9 + 1]? = some (.int .i64 k) ∧ C[33 + i * 9 + 2]? = some (.string nm) ∧ C[33 + i * 9 + 3]? = some (.bool g) ∧ C[33 + i * 9 + 4]? = some (.slice a1 l1 c1) ∧ C[33 + i * 9 + 5]? = some (.slice a2 l2 c2) ∧ C[33 + i * 9 + 6]? = some (.slice a3 l3 c3) ∧ C[33 + i * 9 + 7]? = some (.slice a4 l4 c4) ∧ C[33 + i * 9 + 8]? = some (.slice a5 l5 c5)

theorem cell_row {w : World} {H : Nat} {C : Array Value} {T : TypeId} {i : Nat} {v : Value} (h : w.heap[H]? = some (.cells C T (0, 0))) (hv : C[i]? = some v) : w.cell? ⟨H, i, none⟩ = some v :=
  (cell_of_row _ _ i C T (0, 0) h).trans hv

set_option maxHeartbeats 400000 in
theorem how_any {w : World} {H : Nat} {t : TT} {C : Array Value} (T : Tb w H t C) (s : Int) :
    Calls Tryz.prog 12 #[.pointer (some ⟨H, 0, none⟩), .int .i64 s] w fun e w' => e = .returned (.int .i64 (if isC s then t.h s.toNat else 0 : Nat)) ∧ w = w' := by
  cases h1 : isC s
  · have hc := cis_any s
    rw [h1] at hc
    have HC := Lib.hid hc
    clear hc T
    go_enter Tryz.func12, Tryz.ntmps12
    go_wp2_with (go_at_call 24; refine (HC.out _).mono ?_; rintro e w' ⟨rfl, rfl⟩)
    go_ret
    exact ⟨rfl, rfl⟩
  · have hc := cis_any s
    rw [h1] at hc
    have HC := Lib.hid hc
    obtain ⟨k, hk, rfl⟩ : ∃ k : Nat, k < 32 ∧ s = k := ⟨s.toNat, by have := isC_iff.1 h1; omega, by have := isC_iff.1 h1; omega⟩
    have ch := cell_row T.row (T.how k hk).1
    clear hc
    go_enter Tryz.func12, Tryz.ntmps12
    go_wp2_with (go_at_call 24; refine (HC.out _).mono ?_; rintro e w' ⟨rfl, rfl⟩)
    all_goals
      go_ret
      exact ⟨rfl, rfl⟩
set_option maxHeartbeats 400000 in
theorem entry_any {w : World} {H : Nat} {t : TT} {C : Array Value} (T : Tb w H t C) :
    Calls Tryz.prog 13 #[.pointer (some ⟨H, 0, none⟩)] w fun e w' => e = .returned (.int .u32 t.E) ∧ w = w' := by
  have ch := cell_row T.row T.ent
  go_enter Tryz.func13, Tryz.ntmps13
  go_wp2
  go_ret
  exact ⟨rfl, rfl⟩
end Tp
end Go.Proofs.YtoklgmbpgnimcaaGreatDoor

namespace Go.Proofs.YtoklgmbpgnimcaaGreatDoor
open Go.RowKit
namespace Tp
open Sig

/-- All but block H is as it was. -/
structure Fr (H : Nat) (w w' : World) : Prop where
  os : w'.os = w.os
  tape : w'.tape = w.tape
  output : w'.output = w.output
  size : w.heap.size ≤ w'.heap.size
  block : ∀ b, b < w.heap.size → b ≠ H → w'.heap[b]? = w.heap[b]?
theorem Fr.refl (H : Nat) (w : World) : Fr H w w := ⟨rfl, rfl, rfl, Nat.le_refl _, fun _ _ _ => rfl⟩
theorem Fr.trans {H : Nat} {w w1 w2 : World} (h : Fr H w w1) (k : Fr H w1 w2) : Fr H w w2 := ⟨k.os.trans h.os, k.tape.trans h.tape, k.output.trans h.output, Nat.le_trans h.size k.size, fun b hb hn => (k.block b (Nat.lt_of_lt_of_le hb h.size) hn).trans (h.block b hb hn)⟩
theorem Fr.of_below {H : Nat} {w w' : World} (h : Below w.heap.size w w') : Fr H w w' := ⟨h.os, h.tape, h.output, h.size, fun b hb _ => h.block b hb⟩
theorem Fr.set (w : World) (H i : Nat) (v : Value) : Fr H w (w.setCell ⟨H, i, none⟩ v) := ⟨rfl, rfl, rfl, by simp, fun c _ hn => Below.heap_setCell _ _ _ _ hn⟩
theorem Fr.below {H n : Nat} {w0 w w' : World} (hb : Below n w0 w) (h : Fr H w w') (hn : n ≤ H) (hs : n ≤ w.heap.size) : Below n w0 w' :=
  ⟨h.os.trans hb.os, h.tape.trans hb.tape, h.output.trans hb.output, Nat.le_trans hb.size h.size, fun b hl => (h.block b (by omega) (by omega)).trans (hb.block b hl)⟩

def TT.put (t : TT) (k : Nat) (hw : Nat) (x : ByteArray) : TT := ⟨t.E, fun i => if i = k then hw else t.h i, fun i => if i = k then x else t.x i⟩

theorem Tb.below {w w' : World} {H : Nat} {t : TT} {C : Array Value} (T : Tb w H t C) (hb : Below w.heap.size w w') : Tb w' H t C :=
  ⟨(hb.block H (Array.getElem?_eq_some_iff.1 T.row).1).trans T.row, T.size, T.ent, T.lt, T.how, T.act⟩
theorem Tb.hlt {w : World} {H : Nat} {t : TT} {C : Array Value} (T : Tb w H t C) : H < w.heap.size := (Array.getElem?_eq_some_iff.1 T.row).1
theorem al1 (w : World) (x : Obj) : Below w.heap.size w (w.alloc x) := (Below.refl _ w).alloc (Nat.le_refl _) x
theorem fz {w : World} {H : Nat} {t : TT} {C : Array Value} (T : Tb w H t C) (i : Nat) : w.frozen? ⟨H, i, none⟩ = false := frozen_of_row _ _ _ _ _ T.row

/-- Nine cells, from o on. -/
def set9 (C : Array Value) (o : Nat) (v0 v1 v2 v3 v4 v5 v6 v7 v8 : Value) : Array Value := (((((((((C.setIfInBounds o v0).setIfInBounds (o + 1) v1).setIfInBounds (o + 2) v2).setIfInBounds (o + 3) v3).setIfInBounds (o + 4) v4).setIfInBounds (o + 5) v5).setIfInBounds (o + 6) v6).setIfInBounds (o + 7) v7).setIfInBounds (o + 8) v8)
theorem set9_size (C : Array Value) (o : Nat) (v0 v1 v2 v3 v4 v5 v6 v7 v8 : Value) : (set9 C o v0 v1 v2 v3 v4 v5 v6 v7 v8).size = C.size := by simp [set9]
theorem set9_out {C : Array Value} {o j : Nat} {v0 v1 v2 v3 v4 v5 v6 v7 v8 : Value} (h : j < o ∨ o + 9 ≤ j) : (set9 C o v0 v1 v2 v3 v4 v5 v6 v7 v8)[j]? = C[j]? := by
  unfold set9
  rw [Array.getElem?_setIfInBounds_ne (by omega), Array.getElem?_setIfInBounds_ne (by omega), Array.getElem?_setIfInBounds_ne (by omega), Array.getElem?_setIfInBounds_ne (by omega), Array.getElem?_setIfInBounds_ne (by omega), Array.getElem?_setIfInBounds_ne (by omega), Array.getElem?_setIfInBounds_ne (by omega), Array.getElem?_setIfInBounds_ne (by omega), Array.getElem?_setIfInBounds_ne (by omega)]
theorem setEq {C : Array Value} {o : Nat} {v : Value} (h : o < C.size) : (C.setIfInBounds o v)[o]? = some v := by simp [h]
theorem set9_0 {C : Array Value} {o : Nat} {v0 v1 v2 v3 v4 v5 v6 v7 v8 : Value} (h : o + 9 ≤ C.size) : (set9 C o v0 v1 v2 v3 v4 v5 v6 v7 v8)[o]? = some v0 := by
  unfold set9
  rw [Array.getElem?_setIfInBounds_ne (by omega), Array.getElem?_setIfInBounds_ne (by omega), Array.getElem?_setIfInBounds_ne (by omega), Array.getElem?_setIfInBounds_ne (by omega), Array.getElem?_setIfInBounds_ne (by omega), Array.getElem?_setIfInBounds_ne (by omega), Array.getElem?_setIfInBounds_ne (by omega), Array.getElem?_setIfInBounds_ne (by omega), setEq (by (try simp only [Array.size_setIfInBounds]); omega)]
theorem set9_1 {C : Array Value} {o : Nat} {v0 v1 v2 v3 v4 v5 v6 v7 v8 : Value} (h : o + 9 ≤ C.size) : (set9 C o v0 v1 v2 v3 v4 v5 v6 v7 v8)[o + 1]? = some v1 := by
  unfold set9
  rw [Array.getElem?_setIfInBounds_ne (by omega), Array.getElem?_setIfInBounds_ne (by omega), Array.getElem?_setIfInBounds_ne (by omega), Array.getElem?_setIfInBounds_ne (by omega), Array.getElem?_setIfInBounds_ne (by omega), Array.getElem?_setIfInBounds_ne (by omega), Array.getElem?_setIfInBounds_ne (by omega), setEq (by (try simp only [Array.size_setIfInBounds]); omega)]
theorem set9_2 {C : Array Value} {o : Nat} {v0 v1 v2 v3 v4 v5 v6 v7 v8 : Value} (h : o + 9 ≤ C.size) : (set9 C o v0 v1 v2 v3 v4 v5 v6 v7 v8)[o + 2]? = some v2 := by
  unfold set9
  rw [Array.getElem?_setIfInBounds_ne (by omega), Array.getElem?_setIfInBounds_ne (by omega), Array.getElem?_setIfInBounds_ne (by omega), Array.getElem?_setIfInBounds_ne (by omega), Array.getElem?_setIfInBounds_ne (by omega), Array.getElem?_setIfInBounds_ne (by omega), setEq (by (try simp only [Array.size_setIfInBounds]); omega)]
theorem set9_3 {C : Array Value} {o : Nat} {v0 v1 v2 v3 v4 v5 v6 v7 v8 : Value} (h : o + 9 ≤ C.size) : (set9 C o v0 v1 v2 v3 v4 v5 v6 v7 v8)[o + 3]? = some v3 := by
  unfold set9
  rw [Array.getElem?_setIfInBounds_ne (by omega), Array.getElem?_setIfInBounds_ne (by omega), Array.getElem?_setIfInBounds_ne (by omega), Array.getElem?_setIfInBounds_ne (by omega), Array.getElem?_setIfInBounds_ne (by omega), setEq (by (try simp only [Array.size_setIfInBounds]); omega)]
theorem set9_4 {C : Array Value} {o : Nat} {v0 v1 v2 v3 v4 v5 v6 v7 v8 : Value} (h : o + 9 ≤ C.size) : (set9 C o v0 v1 v2 v3 v4 v5 v6 v7 v8)[o + 4]? = some v4 := by
  unfold set9
  rw [Array.getElem?_setIfInBounds_ne (by omega), Array.getElem?_setIfInBounds_ne (by omega), Array.getElem?_setIfInBounds_ne (by omega), Array.getElem?_setIfInBounds_ne (by omega), setEq (by (try simp only [Array.size_setIfInBounds]); omega)]
theorem set9_5 {C : Array Value} {o : Nat} {v0 v1 v2 v3 v4 v5 v6 v7 v8 : Value} (h : o + 9 ≤ C.size) : (set9 C o v0 v1 v2 v3 v4 v5 v6 v7 v8)[o + 5]? = some v5 := by
  unfold set9
  rw [Array.getElem?_setIfInBounds_ne (by omega), Array.getElem?_setIfInBounds_ne (by omega), Array.getElem?_setIfInBounds_ne (by omega), setEq (by (try simp only [Array.size_setIfInBounds]); omega)]
theorem set9_6 {C : Array Value} {o : Nat} {v0 v1 v2 v3 v4 v5 v6 v7 v8 : Value} (h : o + 9 ≤ C.size) : (set9 C o v0 v1 v2 v3 v4 v5 v6 v7 v8)[o + 6]? = some v6 := by
  unfold set9
  rw [Array.getElem?_setIfInBounds_ne (by omega), Array.getElem?_setIfInBounds_ne (by omega), setEq (by (try simp only [Array.size_setIfInBounds]); omega)]
theorem set9_7 {C : Array Value} {o : Nat} {v0 v1 v2 v3 v4 v5 v6 v7 v8 : Value} (h : o + 9 ≤ C.size) : (set9 C o v0 v1 v2 v3 v4 v5 v6 v7 v8)[o + 7]? = some v7 := by
  unfold set9
  rw [Array.getElem?_setIfInBounds_ne (by omega), setEq (by (try simp only [Array.size_setIfInBounds]); omega)]
theorem set9_8 {C : Array Value} {o : Nat} {v0 v1 v2 v3 v4 v5 v6 v7 v8 : Value} (h : o + 9 ≤ C.size) : (set9 C o v0 v1 v2 v3 v4 v5 v6 v7 v8)[o + 8]? = some v8 := by
  unfold set9
  rw [setEq (by (try simp only [Array.size_setIfInBounds]); omega)]
theorem stores9 {w : World} {H : Nat} {C : Array Value} {T : TypeId} (h : w.heap[H]? = some (.cells C T (0, 0))) (o : Nat) (v0 v1 v2 v3 v4 v5 v6 v7 v8 : Value) :
    (((((((((w.setCell ⟨H, o, none⟩ v0).setCell ⟨H, o + 1, none⟩ v1).setCell ⟨H, o + 2, none⟩ v2).setCell ⟨H, o + 3, none⟩ v3).setCell ⟨H, o + 4, none⟩ v4).setCell ⟨H, o + 5, none⟩ v5).setCell ⟨H, o + 6, none⟩ v6).setCell ⟨H, o + 7, none⟩ v7).setCell ⟨H, o + 8, none⟩ v8).heap[H]? = some (.cells (set9 C o v0 v1 v2 v3 v4 v5 v6 v7 v8) T (0, 0)) ∧ Fr H w (((((((((w.setCell ⟨H, o, none⟩ v0).setCell ⟨H, o + 1, none⟩ v1).setCell ⟨H, o + 2, none⟩ v2).setCell ⟨H, o + 3, none⟩ v3).setCell ⟨H, o + 4, none⟩ v4).setCell ⟨H, o + 5, none⟩ v5).setCell ⟨H, o + 6, none⟩ v6).setCell ⟨H, o + 7, none⟩ v7).setCell ⟨H, o + 8, none⟩ v8) := by
  have e0 := heap_setCell_same _ H o _ _ v0 h
  have e1 := heap_setCell_same _ H (o + 1) _ _ v1 e0
  have e2 := heap_setCell_same _ H (o + 2) _ _ v2 e1
  have e3 := heap_setCell_same _ H (o + 3) _ _ v3 e2
  have e4 := heap_setCell_same _ H (o + 4) _ _ v4 e3
  have e5 := heap_setCell_same _ H (o + 5) _ _ v5 e4
  have e6 := heap_setCell_same _ H (o + 6) _ _ v6 e5
  have e7 := heap_setCell_same _ H (o + 7) _ _ v7 e6
  have e8 := heap_setCell_same _ H (o + 8) _ _ v8 e7
  exact ⟨e8, ((((((((Fr.set _ _ _ _).trans (Fr.set _ _ _ _)).trans (Fr.set _ _ _ _)).trans (Fr.set _ _ _ _)).trans (Fr.set _ _ _ _)).trans (Fr.set _ _ _ _)).trans (Fr.set _ _ _ _)).trans (Fr.set _ _ _ _)).trans (Fr.set _ _ _ _)⟩
theorem Tb.put {w w' : World} {H : Nat} {t : TT} {C : Array Value} (T : Tb w H t C) {k : Nat} (hk : k < 32) {hw : Nat} (hhw : hw < 3) {x : ByteArray} {nk : Int} {nm : ByteArray} {g : Bool} {a1 a2 a3 a4 a5 : Option Addr} {l1 c1 l2 c2 l3 c3 l4 c4 l5 c5 : Nat}
    (h : w'.heap[H]? = some (.cells (set9 (C.setIfInBounds (1 + k) (.int .i64 hw)) (33 + k * 9) (.string x) (.int .i64 nk) (.string nm) (.bool g) (.slice a1 l1 c1) (.slice a2 l2 c2) (.slice a3 l3 c3) (.slice a4 l4 c4) (.slice a5 l5 c5)) 55 (0, 0))) :
    ∃ C', Tb w' H (t.put k hw x) C' := by
  have hs := T.size
  refine ⟨_, h, ?_, ?_, T.lt, fun i hi => ?_, fun i hi => ?_⟩
  · rw [set9_size, Array.size_setIfInBounds, hs]
  · rw [set9_out (by omega), Array.getElem?_setIfInBounds_ne (by omega)]; exact T.ent
  · rw [set9_out (by omega)]
    by_cases e : i = k
    · subst e
      rw [setEq (by omega)]
      exact ⟨by simp [TT.put], by simpa [TT.put] using hhw⟩
    · rw [Array.getElem?_setIfInBounds_ne (by omega)]
      simpa [TT.put, e] using T.how i hi
  · by_cases e : i = k
    · subst e
      have hz : 33 + i * 9 + 9 ≤ (C.setIfInBounds (1 + i) (.int .i64 hw)).size := by rw [Array.size_setIfInBounds]; omega
      refine ⟨nk, nm, g, a1, l1, c1, a2, l2, c2, a3, l3, c3, a4, l4, c4, a5, l5, c5, ?_, set9_1 hz, set9_2 hz, set9_3 hz, set9_4 hz, set9_5 hz, set9_6 hz, set9_7 hz, set9_8 hz⟩
      rw [set9_0 hz]
      simp [TT.put]
    · obtain ⟨nk0, nm0, g0, b1, m1, d1, b2, m2, d2, b3, m3, d3, b4, m4, d4, b5, m5, d5, q0, q1, q2, q3, q4, q5, q6, q7, q8⟩ := T.act i hi
      have go : ∀ d, d < 9 → (set9 (C.setIfInBounds (1 + k) (.int .i64 hw)) (33 + k * 9) (.string x) (.int .i64 nk) (.string nm) (.bool g) (.slice a1 l1 c1) (.slice a2 l2 c2) (.slice a3 l3 c3) (.slice a4 l4 c4) (.slice a5 l5 c5))[33 + i * 9 + d]? = C[33 + i * 9 + d]? := fun d hd => by
        rw [set9_out (by omega), Array.getElem?_setIfInBounds_ne (by omega)]
      refine ⟨nk0, nm0, g0, b1, m1, d1, b2, m2, d2, b3, m3, d3, b4, m4, d4, b5, m5, d5, (go 0 (by omega)).trans ?_, (go 1 (by omega)).trans q1, (go 2 (by omega)).trans q2, (go 3 (by omega)).trans q3, (go 4 (by omega)).trans q4, (go 5 (by omega)).trans q5, (go 6 (by omega)).trans q6, (go 7 (by omega)).trans q7, (go 8 (by omega)).trans q8⟩
      simpa [TT.put, e] using q0

set_option maxHeartbeats 400000 in
set_option maxRecDepth 100000 in
theorem put_kept {w : World} {H : Nat} {t : TT} {C : Array Value} (T : Tb w H t C) (s hw : Int) (hh : hasB t.E s = true) (x : ByteArray) (nk : Int) (nm : ByteArray) (g : Bool) (a1 a2 a3 a4 a5 : Option Addr) (l1 c1 l2 c2 l3 c3 l4 c4 l5 c5 : Nat) :
    Calls Tryz.prog 22 #[.pointer (some ⟨H, 0, none⟩), .int .i64 s, .int .i64 hw, .agg #[.string x, .int .i64 nk, .string nm, .bool g, .slice a1 l1 c1, .slice a2 l2 c2, .slice a3 l3 c3, .slice a4 l4 c4, .slice a5 l5 c5]] w fun e w' => e = .returned (.tuple #[]) ∧ Below w.heap.size w w' := by
  have hb := al1 w (.cells #[.string x, .int .i64 nk, .string nm, .bool g, .slice a1 l1 c1, .slice a2 l2 c2, .slice a3 l3 c3, .slice a4 l4 c4, .slice a5 l5 c5] 52)
  have c0 := cell_row (T.below hb).row T.ent
  have HB := Lib.hid hb
  have hc := has_any t.E s T.lt
  rw [hh] at hc
  have HC := Lib.hid hc
  clear hc T hh hb
  go_enter Tryz.func22, Tryz.ntmps22
  go_wp2_with (go_at_call 25; refine (HC.out _).mono ?_; rintro e w' ⟨rfl, rfl⟩)
  refine bodyPost_ret (results_none (by kernel_rfl) _ _ _) rfl ?_
  exact ⟨rfl, HB.out⟩
set_option maxHeartbeats 400000 in
set_option maxRecDepth 100000 in
theorem put_does {w : World} {H : Nat} {t : TT} {C : Array Value} (T : Tb w H t C) (k : Nat) (hk : k < 32) (hw : Nat) (hhw : hw < 3) (hh : hasB t.E k = false) (x : ByteArray) (nk : Int) (nm : ByteArray) (g : Bool) (a1 a2 a3 a4 a5 : Option Addr) (l1 c1 l2 c2 l3 c3 l4 c4 l5 c5 : Nat) :
    Calls Tryz.prog 22 #[.pointer (some ⟨H, 0, none⟩), .int .i64 k, .int .i64 hw, .agg #[.string x, .int .i64 nk, .string nm, .bool g, .slice a1 l1 c1, .slice a2 l2 c2, .slice a3 l3 c3, .slice a4 l4 c4, .slice a5 l5 c5]] w fun e w' => e = .returned (.tuple #[]) ∧ (∃ C', Tb w' H (t.put k hw x) C') ∧ Fr H w w' := by
  have hb := al1 w (.cells #[.string x, .int .i64 nk, .string nm, .bool g, .slice a1 l1 c1, .slice a2 l2 c2, .slice a3 l3 c3, .slice a4 l4 c4, .slice a5 l5 c5] 52)
  have T1 := T.below hb
  have c0 := cell_row T1.row T.ent
  have ch := cell_row T1.row (T.how k hk).1
  have fh := fz T1 (1 + k)
  have hc := has_any t.E k T.lt
  rw [hh] at hc
  have HC := Lib.hid hc
  obtain ⟨nk0, nm0, g0, b1, m1, d1, b2, m2, d2, b3, m3, d3, b4, m4, d4, b5, m5, d5, q0, q1, q2, q3, q4, q5, q6, q7, q8⟩ := T.act k hk
  have p0 := cell_row T1.row q0
  have p1 := cell_row T1.row q1
  have p2 := cell_row T1.row q2
  have p3 := cell_row T1.row q3
  have p4 := cell_row T1.row q4
  have p5 := cell_row T1.row q5
  have p6 := cell_row T1.row q6
  have p7 := cell_row T1.row q7
  have p8 := cell_row T1.row q8
  have f0 := fz T1 (33 + k * 9)
  have f1 := fz T1 (33 + k * 9 + 1)
  have f2 := fz T1 (33 + k * 9 + 2)
  have f3 := fz T1 (33 + k * 9 + 3)
  have f4 := fz T1 (33 + k * 9 + 4)
  have f5 := fz T1 (33 + k * 9 + 5)
  have f6 := fz T1 (33 + k * 9 + 6)
  have f7 := fz T1 (33 + k * 9 + 7)
  have f8 := fz T1 (33 + k * 9 + 8)
  have HT := Lib.hid T1
  have HL := Lib.hid T.hlt
  have HQ := Lib.hid (And.intro q0 (And.intro q1 (And.intro q2 (And.intro q3 (And.intro q4 (And.intro q5 (And.intro q6 (And.intro q7 q8))))))))
  have hki : (k : Int) < 32 := by omega
  have HB := Lib.hid hb
  clear hc hh T T1 q0 q1 q2 q3 q4 q5 q6 q7 q8 hb
  go_enter Tryz.func22, Tryz.ntmps22
  go_wp2_with (go_at_call 25; refine (HC.out _).mono ?_; rintro e w' ⟨rfl, rfl⟩)
  refine RN.begins (fun w' => w'.heap[w.heap.size]? = some (.cells #[.string x, .int .i64 nk, .string nm, .bool g, .slice a1 l1 c1, .slice a2 l2 c2, .slice a3 l3 c3, .slice a4 l4 c4, .slice a5 l5 c5] 52 (0, 0))) [] (by kernel_rfl) ?_
  have hS : (fun w' : World => w'.heap[w.heap.size]? = some (.cells #[.string x, .int .i64 nk, .string nm, .bool g, .slice a1 l1 c1, .slice a2 l2 c2, .slice a3 l3 c3, .slice a4 l4 c4, .slice a5 l5 c5] 52 (0, 0))) (w.alloc (.cells #[.string x, .int .i64 nk, .string nm, .bool g, .slice a1 l1 c1, .slice a2 l2 c2, .slice a3 l3 c3, .slice a4 l4 c4, .slice a5 l5 c5] 52)).drew := heap_alloc_new w _
  refine RN.take (i := 0) (v := ?_) rfl (by decide) (by kernel_rfl) (by kernel_rfl) (by kernel_rfl) (by kernel_rfl) (by kernel_rfl) (by first | exact fun _ _ _ h => h | exact fun _ _ _ h => (by cases h.1) | exact fun _ _ _ h => door_put (by decide) h) (.inl ⟨by rfl, ?_⟩) hS ?_
  rotate_left 1
  · (intro wq hq; have s0 := zc0 hq; have s1 := zc1 hq; have s2 := zc2 hq; have s3 := zc3 hq; have s4 := zc4 hq; have s5 := zc5 hq; have s6 := zc6 hq; have s7 := zc7 hq; have s8 := zc8 hq; go_simp; try with_reducible rfl)
  refine RN.take (i := 1) (v := ?_) rfl (by decide) (by kernel_rfl) (by kernel_rfl) (by kernel_rfl) (by kernel_rfl) (by kernel_rfl) (by first | exact fun _ _ _ h => h | exact fun _ _ _ h => (by cases h.1) | exact fun _ _ _ h => door_put (by decide) h) (.inl ⟨by rfl, ?_⟩) hS ?_
  rotate_left 1
  · (intro wq hq; have s0 := zc0 hq; have s1 := zc1 hq; have s2 := zc2 hq; have s3 := zc3 hq; have s4 := zc4 hq; have s5 := zc5 hq; have s6 := zc6 hq; have s7 := zc7 hq; have s8 := zc8 hq; go_simp; try with_reducible rfl)
  refine RN.take (i := 2) (v := ?_) rfl (by decide) (by kernel_rfl) (by kernel_rfl) (by kernel_rfl) (by kernel_rfl) (by kernel_rfl) (by first | exact fun _ _ _ h => h | exact fun _ _ _ h => (by cases h.1) | exact fun _ _ _ h => door_put (by decide) h) (.inl ⟨by rfl, ?_⟩) hS ?_
  rotate_left 1
  · (intro wq hq; have s0 := zc0 hq; have s1 := zc1 hq; have s2 := zc2 hq; have s3 := zc3 hq; have s4 := zc4 hq; have s5 := zc5 hq; have s6 := zc6 hq; have s7 := zc7 hq; have s8 := zc8 hq; go_simp; try with_reducible rfl)
  refine RN.take (i := 3) (v := ?_) rfl (by decide) (by kernel_rfl) (by kernel_rfl) (by kernel_rfl) (by kernel_rfl) (by kernel_rfl) (by first | exact fun _ _ _ h => h | exact fun _ _ _ h => (by cases h.1) | exact fun _ _ _ h => door_put (by decide) h) (.inl ⟨by rfl, ?_⟩) hS ?_
  rotate_left 1
  · (intro wq hq; have s0 := zc0 hq; have s1 := zc1 hq; have s2 := zc2 hq; have s3 := zc3 hq; have s4 := zc4 hq; have s5 := zc5 hq; have s6 := zc6 hq; have s7 := zc7 hq; have s8 := zc8 hq; go_simp; try with_reducible rfl)
  refine RN.take (i := 4) (v := ?_) rfl (by decide) (by kernel_rfl) (by kernel_rfl) (by kernel_rfl) (by kernel_rfl) (by kernel_rfl) (by first | exact fun _ _ _ h => h | exact fun _ _ _ h => (by cases h.1) | exact fun _ _ _ h => door_put (by decide) h) (.inl ⟨by rfl, ?_⟩) hS ?_
  rotate_left 1
  · (intro wq hq; have s0 := zc0 hq; have s1 := zc1 hq; have s2 := zc2 hq; have s3 := zc3 hq; have s4 := zc4 hq; have s5 := zc5 hq; have s6 := zc6 hq; have s7 := zc7 hq; have s8 := zc8 hq; go_simp; try with_reducible rfl)
  refine RN.take (i := 5) (v := ?_) rfl (by decide) (by kernel_rfl) (by kernel_rfl) (by kernel_rfl) (by kernel_rfl) (by kernel_rfl) (by first | exact fun _ _ _ h => h | exact fun _ _ _ h => (by cases h.1) | exact fun _ _ _ h => door_put (by decide) h) (.inl ⟨by rfl, ?_⟩) hS ?_
  rotate_left 1
  · (intro wq hq; have s0 := zc0 hq; have s1 := zc1 hq; have s2 := zc2 hq; have s3 := zc3 hq; have s4 := zc4 hq; have s5 := zc5 hq; have s6 := zc6 hq; have s7 := zc7 hq; have s8 := zc8 hq; go_simp; try with_reducible rfl)
  refine RN.take (i := 6) (v := ?_) rfl (by decide) (by kernel_rfl) (by kernel_rfl) (by kernel_rfl) (by kernel_rfl) (by kernel_rfl) (by first | exact fun _ _ _ h => h | exact fun _ _ _ h => (by cases h.1) | exact fun _ _ _ h => door_put (by decide) h) (.inl ⟨by rfl, ?_⟩) hS ?_
  rotate_left 1
  · (intro wq hq; have s0 := zc0 hq; have s1 := zc1 hq; have s2 := zc2 hq; have s3 := zc3 hq; have s4 := zc4 hq; have s5 := zc5 hq; have s6 := zc6 hq; have s7 := zc7 hq; have s8 := zc8 hq; go_simp; try with_reducible rfl)
  refine RN.take (i := 7) (v := ?_) rfl (by decide) (by kernel_rfl) (by kernel_rfl) (by kernel_rfl) (by kernel_rfl) (by kernel_rfl) (by first | exact fun _ _ _ h => h | exact fun _ _ _ h => (by cases h.1) | exact fun _ _ _ h => door_put (by decide) h) (.inl ⟨by rfl, ?_⟩) hS ?_
  rotate_left 1
  · (intro wq hq; have s0 := zc0 hq; have s1 := zc1 hq; have s2 := zc2 hq; have s3 := zc3 hq; have s4 := zc4 hq; have s5 := zc5 hq; have s6 := zc6 hq; have s7 := zc7 hq; have s8 := zc8 hq; go_simp; try with_reducible rfl)
  refine RN.take (i := 8) (v := ?_) rfl (by decide) (by kernel_rfl) (by kernel_rfl) (by kernel_rfl) (by kernel_rfl) (by kernel_rfl) (by first | exact fun _ _ _ h => h | exact fun _ _ _ h => (by cases h.1) | exact fun _ _ _ h => door_put (by decide) h) (.inl ⟨by rfl, ?_⟩) hS ?_
  rotate_left 1
  · (intro wq hq; have s0 := zc0 hq; have s1 := zc1 hq; have s2 := zc2 hq; have s3 := zc3 hq; have s4 := zc4 hq; have s5 := zc5 hq; have s6 := zc6 hq; have s7 := zc7 hq; have s8 := zc8 hq; go_simp; try with_reducible rfl)
  refine RN.take (i := 10) (v := ?_) rfl (by decide) (by kernel_rfl) (by kernel_rfl) (by kernel_rfl) (by kernel_rfl) (by kernel_rfl) (by first | exact fun _ _ _ h => h | exact fun _ _ _ h => (by cases h.1) | exact fun _ _ _ h => door_put (by decide) h) (.inl ⟨by rfl, ?_⟩) hS ?_
  rotate_left 1
  · (intro wq hq; have s0 := zc0 hq; have s1 := zc1 hq; have s2 := zc2 hq; have s3 := zc3 hq; have s4 := zc4 hq; have s5 := zc5 hq; have s6 := zc6 hq; have s7 := zc7 hq; have s8 := zc8 hq; go_simp; try with_reducible rfl)
  refine RN.take (i := 11) (v := ?_) rfl (by decide) (by kernel_rfl) (by kernel_rfl) (by kernel_rfl) (by kernel_rfl) (by kernel_rfl) (by first | exact fun _ _ _ h => h | exact fun _ _ _ h => (by cases h.1) | exact fun _ _ _ h => door_put (by decide) h) (.inl ⟨by rfl, ?_⟩) hS ?_
  rotate_left 1
  · (intro wq hq; have s0 := zc0 hq; have s1 := zc1 hq; have s2 := zc2 hq; have s3 := zc3 hq; have s4 := zc4 hq; have s5 := zc5 hq; have s6 := zc6 hq; have s7 := zc7 hq; have s8 := zc8 hq; go_simp; try with_reducible rfl)
  refine RN.all (rs := [9]) (by kernel_rfl) (by simp) ?_
  refine RN.All.cons rfl (fun K hK => ?_) RN.All.nil
  go_simp
  have hrow := heap_setCell_same _ H (1 + k) C _ (.int .i64 hw) HT.out.row
  have hF := (Fr.of_below HB.out).trans (Fr.set (w.alloc (.cells #[.string x, .int .i64 nk, .string nm, .bool g, .slice a1 l1 c1, .slice a2 l2 c2, .slice a3 l3 c3, .slice a4 l4 c4, .slice a5 l5 c5] 52)) H (1 + k) (.int .i64 hw))
  have hne : w.heap.size ≠ H := Nat.ne_of_gt HL.out
  have hS2 : (((w.alloc (.cells #[.string x, .int .i64 nk, .string nm, .bool g, .slice a1 l1 c1, .slice a2 l2 c2, .slice a3 l3 c3, .slice a4 l4 c4, .slice a5 l5 c5] 52)).setCell ⟨H, 1 + k, none⟩ (.int .i64 hw)).drew).heap[w.heap.size]? = some _ := (Below.heap_setCell _ ⟨H, 1 + k, none⟩ _ _ hne).trans (heap_alloc_new w _)
  have hrow : (((w.alloc (.cells #[.string x, .int .i64 nk, .string nm, .bool g, .slice a1 l1 c1, .slice a2 l2 c2, .slice a3 l3 c3, .slice a4 l4 c4, .slice a5 l5 c5] 52)).setCell ⟨H, 1 + k, none⟩ (.int .i64 hw)).drew).heap[H]? = _ := hrow
  have hF : Fr H w (((w.alloc (.cells #[.string x, .int .i64 nk, .string nm, .bool g, .slice a1 l1 c1, .slice a2 l2 c2, .slice a3 l3 c3, .slice a4 l4 c4, .slice a5 l5 c5] 52)).setCell ⟨H, 1 + k, none⟩ (.int .i64 hw)).drew) := ⟨hF.os, hF.tape, hF.output, hF.size, hF.block⟩
  clear c0 ch fh p0 p1 p2 p3 p4 p5 p6 p7 p8 f0 f1 f2 f3 f4 f5 f6 f7 f8 hS
  generalize (((w.alloc (.cells #[.string x, .int .i64 nk, .string nm, .bool g, .slice a1 l1 c1, .slice a2 l2 c2, .slice a3 l3 c3, .slice a4 l4 c4, .slice a5 l5 c5] 52)).setCell ⟨H, 1 + k, none⟩ (.int .i64 hw)).drew) = W2 at hrow hF hS2 ⊢
  obtain ⟨q0, q1, q2, q3, q4, q5, q6, q7, q8⟩ := HQ.out
  have p0 := cell_row hrow ((Array.getElem?_setIfInBounds_ne (by omega)).trans q0)
  have p1 := cell_row hrow ((Array.getElem?_setIfInBounds_ne (by omega)).trans q1)
  have p2 := cell_row hrow ((Array.getElem?_setIfInBounds_ne (by omega)).trans q2)
  have p3 := cell_row hrow ((Array.getElem?_setIfInBounds_ne (by omega)).trans q3)
  have p4 := cell_row hrow ((Array.getElem?_setIfInBounds_ne (by omega)).trans q4)
  have p5 := cell_row hrow ((Array.getElem?_setIfInBounds_ne (by omega)).trans q5)
  have p6 := cell_row hrow ((Array.getElem?_setIfInBounds_ne (by omega)).trans q6)
  have p7 := cell_row hrow ((Array.getElem?_setIfInBounds_ne (by omega)).trans q7)
  have p8 := cell_row hrow ((Array.getElem?_setIfInBounds_ne (by omega)).trans q8)
  have f0 := zf (33 + k * 9) hrow
  have f1 := zf (33 + k * 9 + 1) hrow
  have f2 := zf (33 + k * 9 + 2) hrow
  have f3 := zf (33 + k * 9 + 3) hrow
  have f4 := zf (33 + k * 9 + 4) hrow
  have f5 := zf (33 + k * 9 + 5) hrow
  have f6 := zf (33 + k * 9 + 6) hrow
  have f7 := zf (33 + k * 9 + 7) hrow
  have f8 := zf (33 + k * 9 + 8) hrow
  have HR := Lib.hid hrow; have HF := Lib.hid hF
  clear q0 q1 q2 q3 q4 q5 q6 q7 q8 hrow hF
  refine hK _ _ (fun _ => hS2) ?_
  have hS := hS2
  clear hK K
  refine RN.take (i := 12) (v := ?_) rfl (by decide) (by kernel_rfl) (by kernel_rfl) (by kernel_rfl) (by kernel_rfl) (by kernel_rfl) (by first | exact fun _ _ _ h => h | exact fun _ _ _ h => (by cases h.1) | exact fun _ _ _ h => door_put (by decide) h) (.inl ⟨by rfl, ?_⟩) hS ?_
  rotate_left 1
  · (intro wq hq; skip; go_simp; try with_reducible rfl)
  refine RN.all (rs := [13]) (by kernel_rfl) (by simp) ?_
  refine RN.All.cons rfl (fun K hK => ?_) RN.All.nil
  go_simp
  have hst := stores9 HR.out (33 + k * 9) (.string x) (.int .i64 nk) (.string nm) (.bool g) (.slice a1 l1 c1) (.slice a2 l2 c2) (.slice a3 l3 c3) (.slice a4 l4 c4) (.slice a5 l5 c5)
  refine hK _ _ (fun _ => (hst.2.block _ (by have := hst.2.size; have := (Array.getElem?_eq_some_iff.1 hS2).1; omega) hne).trans hS2) ?_
  have hput := HT.out.put hk hhw hst.1
  have hfr := HF.out.trans hst.2
  clear hK K
  refine RN.done (by kernel_rfl) ?_ _
  go_wp2_with fail
  go_end0
  exact ⟨rfl, hput, hfr⟩
end Tp
end Go.Proofs.YtoklgmbpgnimcaaGreatDoor

namespace Go.Proofs.YtoklgmbpgnimcaaGreatDoor
open Go.RowKit
namespace Tp
open Sig

theorem lt32 {P : Nat → Prop} (h0 : P 0) (h1 : P 1) (h2 : P 2) (h3 : P 3) (h4 : P 4) (h5 : P 5) (h6 : P 6) (h7 : P 7) (h8 : P 8) (h9 : P 9) (h10 : P 10) (h11 : P 11) (h12 : P 12) (h13 : P 13) (h14 : P 14) (h15 : P 15) (h16 : P 16) (h17 : P 17) (h18 : P 18) (h19 : P 19) (h20 : P 20) (h21 : P 21) (h22 : P 22) (h23 : P 23) (h24 : P 24) (h25 : P 25) (h26 : P 26) (h27 : P 27) (h28 : P 28) (h29 : P 29) (h30 : P 30) (h31 : P 31) :
    ∀ i, i < 32 → P i := fun i hi => by
  have : i = 0 ∨ i = 1 ∨ i = 2 ∨ i = 3 ∨ i = 4 ∨ i = 5 ∨ i = 6 ∨ i = 7 ∨ i = 8 ∨ i = 9 ∨ i = 10 ∨ i = 11 ∨ i = 12 ∨ i = 13 ∨ i = 14 ∨ i = 15 ∨ i = 16 ∨ i = 17 ∨ i = 18 ∨ i = 19 ∨ i = 20 ∨ i = 21 ∨ i = 22 ∨ i = 23 ∨ i = 24 ∨ i = 25 ∨ i = 26 ∨ i = 27 ∨ i = 28 ∨ i = 29 ∨ i = 30 ∨ i = 31 := by omega
  rcases this with h | h | h | h | h | h | h | h | h | h | h | h | h | h | h | h | h | h | h | h | h | h | h | h | h | h | h | h | h | h | h | h <;> subst h <;> assumption
def TT.zero : TT := ⟨0, fun _ => 0, fun _ => ⟨#[]⟩⟩
theorem zhow : ∀ i, i < 32 → Tryz.zeroCells55[1 + i]? = some (.int .i64 0) := by
  apply lt32 <;> kernel_rfl
theorem zact : ∀ i, i < 32 → (Tryz.zeroCells55[33 + i * 9]? = some (.string ⟨#[]⟩) ∧ Tryz.zeroCells55[33 + i * 9 + 1]? = some (.int .i64 0) ∧ Tryz.zeroCells55[33 + i * 9 + 2]? = some (.string ⟨#[]⟩) ∧ Tryz.zeroCells55[33 + i * 9 + 3]? = some (.bool false) ∧ Tryz.zeroCells55[33 + i * 9 + 4]? = some (.slice none 0 0) ∧ Tryz.zeroCells55[33 + i * 9 + 5]? = some (.slice none 0 0) ∧ Tryz.zeroCells55[33 + i * 9 + 6]? = some (.slice none 0 0) ∧ Tryz.zeroCells55[33 + i * 9 + 7]? = some (.slice none 0 0) ∧ Tryz.zeroCells55[33 + i * 9 + 8]? = some (.slice none 0 0)) := by
  apply lt32 <;> exact ⟨by kernel_rfl, by kernel_rfl, by kernel_rfl, by kernel_rfl, by kernel_rfl, by kernel_rfl, by kernel_rfl, by kernel_rfl, by kernel_rfl⟩
theorem zero_tb (w : World) : Tb (w.alloc (.cells Tryz.zeroCells55 55)) w.heap.size TT.zero Tryz.zeroCells55 :=
  ⟨heap_alloc_new w _, by kernel_rfl, by kernel_rfl, by decide, fun i hi => ⟨zhow i hi, Nat.zero_lt_succ 2⟩, fun i hi => ⟨0, ⟨#[]⟩, false, none, 0, 0, none, 0, 0, none, 0, 0, none, 0, 0, none, 0, 0, zact i hi⟩⟩

theorem Tb.setE {w w' : World} {H : Nat} {t : TT} {C : Array Value} (T : Tb w H t C) {E : Nat} (hE : E < 4294967296) (h : w'.heap[H]? = some (.cells (C.setIfInBounds 0 (.int .u32 E)) 55 (0, 0))) :
    Tb w' H ⟨E, t.h, t.x⟩ (C.setIfInBounds 0 (.int .u32 E)) := by
  have hs := T.size
  refine ⟨h, by simpa using hs, setEq (by omega), hE, fun i hi => ?_, fun i hi => ?_⟩
  · rw [Array.getElem?_setIfInBounds_ne (by omega)]; exact T.how i hi
  · obtain ⟨nk0, nm0, g0, b1, m1, d1, b2, m2, d2, b3, m3, d3, b4, m4, d4, b5, m5, d5, q⟩ := T.act i hi
    refine ⟨nk0, nm0, g0, b1, m1, d1, b2, m2, d2, b3, m3, d3, b4, m4, d4, b5, m5, d5, ?_⟩
    have go : ∀ d, (C.setIfInBounds 0 (.int .u32 E))[33 + i * 9 + d]? = C[33 + i * 9 + d]? := fun d => Array.getElem?_setIfInBounds_ne (by omega)
    have g0 := go 0
    simp only [Nat.add_zero] at g0
    rw [g0, go 1, go 2, go 3, go 4, go 5, go 6, go 7, go 8]
    exact q
def TT.setH (t : TT) (k hw : Nat) : TT := ⟨t.E, fun i => if i = k then hw else t.h i, t.x⟩
theorem Tb.setH {w w' : World} {H : Nat} {t : TT} {C : Array Value} (T : Tb w H t C) {k hw : Nat} (hk : k < 32) (hhw : hw < 3) (h : w'.heap[H]? = some (.cells (C.setIfInBounds (1 + k) (.int .i64 hw)) 55 (0, 0))) :
    Tb w' H (t.setH k hw) (C.setIfInBounds (1 + k) (.int .i64 hw)) := by
  have hs := T.size
  refine ⟨h, by simpa using hs, ?_, T.lt, fun i hi => ?_, fun i hi => ?_⟩
  · rw [Array.getElem?_setIfInBounds_ne (by omega)]; exact T.ent
  · by_cases e : i = k
    · subst e
      rw [setEq (by omega)]
      exact ⟨by simp [TT.setH], by simpa [TT.setH] using hhw⟩
    · rw [Array.getElem?_setIfInBounds_ne (by omega)]
      simpa [TT.setH, e] using T.how i hi
  · obtain ⟨nk0, nm0, g0, b1, m1, d1, b2, m2, d2, b3, m3, d3, b4, m4, d4, b5, m5, d5, q⟩ := T.act i hi
    refine ⟨nk0, nm0, g0, b1, m1, d1, b2, m2, d2, b3, m3, d3, b4, m4, d4, b5, m5, d5, ?_⟩
    have go : ∀ d, (C.setIfInBounds (1 + k) (.int .i64 hw))[33 + i * 9 + d]? = C[33 + i * 9 + d]? := fun d => Array.getElem?_setIfInBounds_ne (by omega)
    have g0 := go 0
    simp only [Nat.add_zero] at g0
    rw [g0, go 1, go 2, go 3, go 4, go 5, go 6, go 7, go 8]
    exact q

/-- One of the signals that are ignored on entry. -/
def TT.add (t : TT) (s : Int) : TT := if fixedB s then t else ⟨t.E ||| bitN s, fun i => if i = s.toNat then 1 else t.h i, t.x⟩
theorem add_no {t : TT} {n : Nat} (h : fixedB n = false) : t.add n = TT.setH ⟨t.E ||| bitN n, t.h, t.x⟩ n 1 := by
  unfold TT.add TT.setH
  rw [h]
  simp
def newT (x : Nat) : TT := (listN x 31).foldl TT.add TT.zero
theorem slice_of_owns {w : World} {base : Nat} {v : Value} {l : List Int} (h : w.ownsRow base 3 1 v l.length (l.map (Value.int .i64))) : ∃ a cap, v = .slice a l.length cap ∧ ∀ j : Nat, j < l.length → ∃ b, a = some ⟨b, 0, none⟩ ∧ base ≤ b ∧ w.cell? ⟨b, j, none⟩ = some (.int .i64 (l.getD j 0)) := by
  rcases h.2 with ⟨rfl, h0⟩ | ⟨g, cap, cur, rfl, hb, _⟩
  · exact ⟨none, 0, by rw [h0], fun j hj => by omega⟩
  · refine ⟨_, cap, rfl, fun j hj => ⟨g, rfl, hb, ?_⟩⟩
    have := h.cellAt j (by simpa using hj)
    rw [this]
    simp [List.getD, hj]
theorem listN_mem {x k : Nat} {s : Int} (h : s ∈ listN x k) : 1 ≤ s ∧ s ≤ k ∧ hasB x s = true := by
  unfold listN at h
  obtain ⟨h1, h2⟩ := List.mem_filter.1 h
  obtain ⟨i, hi, rfl⟩ := List.mem_map.1 h1
  have := List.mem_range.1 hi
  exact ⟨by omega, by omega, h2⟩

theorem has_or (E : Nat) (n s : Int) : hasB (E ||| bitN n) s = (hasB E s || (isB n && s == n)) := by
  unfold hasB bitN
  cases hn : isB n
  · simp
  · have h1 := of_decide_eq_true hn
    simp only [if_true, Nat.testBit_or, Nat.testBit_two_pow, Bool.true_and]
    cases hs : isB s
    · have h2 := of_decide_eq_false hs
      have : (s == n) = false := by simp; omega
      simp [this]
    · have h2 := of_decide_eq_true hs
      have : decide (n.toNat = s.toNat) = (s == n) := by
        by_cases e : s = n
        · subst e; simp
        · rw [decide_eq_false (by omega)]; exact (beq_eq_false_iff_ne.2 e).symm
      simp [this]
/-- A table in which signals are ignored on entry, and nothing else is. -/
def Clean (t : TT) : Prop := (∀ i : Nat, i < 32 → t.h i = if hasB t.E i then 1 else 0) ∧ ∀ i, t.x i = ⟨#[]⟩
theorem hasB_zero (s : Int) : hasB 0 s = false := by simp [hasB]
theorem Clean.zero : Clean TT.zero := ⟨fun i _ => by show 0 = if hasB 0 i then 1 else 0; rw [hasB_zero]; rfl, fun _ => rfl⟩
theorem Clean.add {t : TT} (h : Clean t) {n : Int} (hn : isB n = true) : Clean (t.add n) := by
  unfold TT.add
  cases hf : fixedB n
  · rw [if_neg (by decide)]
    refine ⟨fun i hi => ?_, h.2⟩
    show (if i = n.toNat then 1 else t.h i) = if hasB (t.E ||| bitN n) i then 1 else 0
    have h1 := of_decide_eq_true hn
    rw [has_or, hn]
    by_cases e : i = n.toNat
    · have : ((i : Int) == n) = true := by simp; omega
      rw [if_pos e, this]; simp
    · have : ((i : Int) == n) = false := by simp; omega
      rw [if_neg e, this, h.1 i hi]; simp
  · rw [if_pos rfl]; exact h
theorem fold_clean : ∀ (l : List Int) (t : TT), Clean t → (∀ s ∈ l, isB s = true) → Clean (l.foldl TT.add t)
  | [], _, h, _ => h
  | s :: l, t, h, hl => fold_clean l _ (h.add (hl s (by simp))) fun x hx => hl x (by simp [hx])
theorem fold_has (s : Int) : ∀ (l : List Int) (t : TT), (∀ x ∈ l, isB x = true) → hasB (l.foldl TT.add t).E s = (hasB t.E s || (l.contains s && !fixedB s))
  | [], t, _ => by simp
  | n :: l, t, hl => by
    rw [List.foldl_cons, fold_has s l _ fun x hx => hl x (by simp [hx])]
    have hn := hl n (by simp)
    by_cases e : s = n
    · subst e
      cases hf : fixedB s
      · have : (t.add s).E = t.E ||| bitN s := by unfold TT.add; rw [hf]; rfl
        rw [this, has_or, hn]
        simp
      · have : t.add s = t := by unfold TT.add; rw [hf]; rfl
        rw [this]; simp
    · have he : (s == n) = false := by simp [e]
      have hc : (n :: l).contains s = l.contains s := by simp [e]
      rw [hc]
      cases hf : fixedB n
      · have : (t.add n).E = t.E ||| bitN n := by unfold TT.add; rw [hf]; rfl
        rw [this, has_or, he]
        simp
      · have : t.add n = t := by unfold TT.add; rw [hf]; rfl
        rw [this]
theorem isB_listN {x : Nat} {s : Int} (h : s ∈ listN x 31) : isB s = true := by
  have := listN_mem h
  exact isB_yes (by omega)
theorem newT_clean (x : Nat) : Clean (newT x) := fold_clean _ _ Clean.zero fun _ => isB_listN
theorem newT_has (x : Nat) (s : Int) : hasB (newT x).E s = (hasB x s && !fixedB s) := by
  unfold newT
  rw [fold_has s _ _ fun _ => isB_listN]
  have h0 : hasB TT.zero.E s = false := hasB_zero s
  have hc : (listN x 31).contains s = hasB x s := by
    cases hh : hasB x s
    · rw [Bool.eq_false_iff]
      intro h
      have := listN_mem (List.contains_iff_mem.1 h)
      rw [hh] at this
      exact Bool.noConfusion this.2.2
    · refine List.contains_iff_mem.2 (List.mem_filter.2 ⟨List.mem_map.2 ⟨s.toNat - 1, ?_, ?_⟩, hh⟩)
      all_goals
        have hb : isB s = true := by unfold hasB at hh; simp only [Bool.and_eq_true] at hh; exact hh.1
        have := of_decide_eq_true hb
      · exact List.mem_range.2 (by omega)
      · omega
  rw [h0, hc]; simp

set_option maxHeartbeats 800000 in
set_option maxRecDepth 100000 in
theorem new_any (x : Nat) (hx : x < 4294967296) (w : World) :
    Calls Tryz.prog 5 #[.int .u32 x] w fun e w' => ∃ H C, e = .returned (.pointer (some ⟨H, 0, none⟩)) ∧ Tb w' H (newT x) C ∧ w.heap.size ≤ H ∧ Below w.heap.size w w' := by
  have hZ := zero_tb w
  have hB0 := al1 w (.cells Tryz.zeroCells55 55)
  have hsz : (w.alloc (.cells Tryz.zeroCells55 55)).heap.size = w.heap.size + 1 := by simp
  have hF := Lib.hid (And.intro hZ (And.intro hB0 hsz))
  have HL := Lib.hid (list_any x hx)
  have hln := listN_len x 31
  have hm := fun s => @listN_mem x 31 s
  clear hZ hB0 hsz
  go_enter Tryz.func5, Tryz.ntmps5
  go_wp2_with fail
  obtain ⟨hZ, hB0, hsz⟩ := hF.out
  clear hF
  generalize w.alloc (.cells Tryz.zeroCells55 55) = w0 at hZ hB0 hsz ⊢
  refine (HL.out w0).mono ?_
  rintro e w1 ⟨v, rfl, hown, hb⟩
  obtain ⟨a, cap, rfl, hc⟩ := slice_of_owns hown
  have hT1 := hZ.below hb
  have hB1 : Below w.heap.size w w1 := ⟨hb.os.trans hB0.os, hb.tape.trans hB0.tape, hb.output.trans hB0.output, Nat.le_trans hB0.size hb.size, fun k hk => (hb.block k (by omega)).trans (hB0.block k hk)⟩
  obtain ⟨l, hl⟩ : ∃ l, l = listN x 31 := ⟨_, rfl⟩
  have HRES := Lib.hid (show newT x = l.foldl TT.add TT.zero by rw [hl]; rfl)
  rw [← hl] at hc hln hm ⊢
  have HC := Lib.hid hc; have HT1 := Lib.hid hT1; have HB1 := Lib.hid hB1; have HSZ := Lib.hid hsz; have HM := Lib.hid hm; have HS1 := Lib.hid hb.size
  clear hown hb hc hl HL hT1 hB1 hB0 hZ hsz hm
  go_wp2_with fail
  go_loopw [11] (fun i wr => ∃ k C, k ≤ l.length ∧ i = .int .i64 (k : Nat) ∧ Tb wr w.heap.size ((l.take k).foldl TT.add TT.zero) C ∧ Fr w.heap.size w1 wr) (fun i _ => l.length - (intOf i).toNat)
  case atStart => exact ⟨0, _, Nat.zero_le _, rfl, HT1.out, Fr.refl _ _⟩
  case round =>
    obtain ⟨k, C, hk, rfl, hT, hFr⟩ := hrel
    by_cases hlt : k < l.length
    · obtain ⟨b, rfl, hbb, hcell1⟩ := HC.out k hlt
      have hcell : wr.cell? ⟨b, k, none⟩ = some (.int .i64 (l.getD k 0)) := by
        have hlt := World.block_lt_of_cell? _ _ hcell1
        have := HSZ.out
        rw [World.cell?_of_block (hFr.block b hlt (by omega))]; exact hcell1
      have HTk := Lib.hid (List.take_succ_eq_append_getElem hlt)
      have hs : l.getD k 0 = l[k] := by simp [List.getD, hlt]
      have hmem := HM.out _ (List.getElem_mem hlt)
      rw [hs] at hcell
      clear hs hcell1
      generalize l[k] = s at hcell HTk hmem
      obtain ⟨n, rfl⟩ : ∃ n : Nat, s = n := ⟨s.toNat, by omega⟩
      obtain ⟨y, hy⟩ : ∃ y, y = (l.take k).foldl TT.add TT.zero := ⟨_, rfl⟩
      rw [← hy] at hT
      have hstep : (l.take (k + 1)).foldl TT.add TT.zero = y.add n := by rw [HTk.out, List.foldl_append, ← hy]; rfl
      have HST := Lib.hid hstep; have HFr := Lib.hid hFr; have HT := Lib.hid hT
      have c0 := cell_row hT.row hT.ent
      have g0 := fz hT 0
      have gn := fz hT (1 + n)
      have cn := cell_row hT.row (hT.how n (by omega)).1
      have hlt32 := hT.lt
      have hn32 : (n : Int) < 32 := by omega
      clear hstep hFr hT hy HTk
      cases hf : fixedB n
      · have HF := Lib.hid hf
        go_wp2_with (first
          | (go_at_call 16; refine (fixed_any n _).mono ?_; rw [HF.out]; rintro e w' ⟨rfl, rfl⟩)
          | (go_at_call 17; refine (with_any y.E n hlt32 _).mono ?_; rintro e w' ⟨rfl, rfl⟩))
        go_roundw
        case rel =>
          have e1 := heap_setCell_same wr w.heap.size 0 C _ (.int .u32 (y.E ||| bitN n : Nat)) HT.out.row
          have T1 := HT.out.setE (with_lt hlt32 n) e1
          have e2 := heap_setCell_same (wr.setCell ⟨w.heap.size, 0, none⟩ (.int .u32 (y.E ||| bitN n : Nat))) w.heap.size (1 + n) _ _ (.int .i64 1) e1
          have T2 := T1.setH (k := n) (hw := 1) (by omega) (by decide) e2
          rw [← add_no HF.out, ← HST.out] at T2
          exact ⟨k + 1, _, by omega, by go_num, T2, (HFr.out.trans (Fr.set _ _ _ _)).trans (Fr.set _ _ _ _)⟩
        case measure => simp [intOf]; omega
      · have HF := Lib.hid hf
        go_wp2_with (go_at_call 16; refine (fixed_any n _).mono ?_; rw [HF.out]; rintro e w' ⟨rfl, rfl⟩)
        go_roundw
        case rel => exact ⟨k + 1, C, by omega, by go_num, by rw [HST.out]; unfold TT.add; rw [if_pos HF.out]; exact HT.out, HFr.out⟩
        case measure => simp [intOf]; omega
    · obtain rfl : k = l.length := by omega
      go_wp2_with fail
      go_ret
      refine ⟨_, C, rfl, ?_, Nat.le_refl _, hFr.below HB1.out (Nat.le_refl _) HB1.out.size⟩
      rw [HRES.out]
      rw [List.take_length] at hT
      exact hT
end Tp
end Go.Proofs.YtoklgmbpgnimcaaGreatDoor

namespace Go.Proofs.YtoklgmbpgnimcaaGreatDoor
open Go.RowKit
namespace Tp
open Sig

/-- What a call that sets a condition leaves. -/
def TT.putIf (t : TT) (k hw : Nat) (x : ByteArray) : TT := if hasB t.E k then t else t.put k hw x
theorem put_any {w : World} {H : Nat} {t : TT} {C : Array Value} (T : Tb w H t C) (k : Nat) (hk : k < 32) (hw : Nat) (hhw : hw < 3) (x : ByteArray) (nk : Int) (nm : ByteArray) (g : Bool) (a1 a2 a3 a4 a5 : Option Addr) (l1 c1 l2 c2 l3 c3 l4 c4 l5 c5 : Nat) :
    Calls Tryz.prog 22 #[.pointer (some ⟨H, 0, none⟩), .int .i64 k, .int .i64 hw, .agg #[.string x, .int .i64 nk, .string nm, .bool g, .slice a1 l1 c1, .slice a2 l2 c2, .slice a3 l3 c3, .slice a4 l4 c4, .slice a5 l5 c5]] w fun e w' => e = .returned (.tuple #[]) ∧ (∃ C', Tb w' H (t.putIf k hw x) C') ∧ Fr H w w' := by
  unfold TT.putIf
  cases hh : hasB t.E k
  · rw [if_neg (by decide)]
    exact put_does T k hk hw hhw hh x nk nm g a1 a2 a3 a4 a5 l1 c1 l2 c2 l3 c3 l4 c4 l5 c5
  · rw [if_pos rfl]
    refine (put_kept T k hw hh x nk nm g a1 a2 a3 a4 a5 l1 c1 l2 c2 l3 c3 l4 c4 l5 c5).mono ?_
    rintro e w' ⟨rfl, hb⟩
    exact ⟨rfl, ⟨C, T.below hb⟩, Fr.of_below hb⟩
theorem free_iff {s : Int} (h : freeC s = true) : ∃ k : Nat, s = k ∧ k < 32 ∧ fixedB k = false := by
  unfold freeC at h
  simp only [Bool.and_eq_true, Bool.not_eq_true'] at h
  have := isC_iff.1 h.1
  obtain ⟨k, rfl⟩ : ∃ k : Nat, s = k := ⟨s.toNat, by omega⟩
  exact ⟨k, rfl, by omega, h.2⟩
def TT.reset (t : TT) (s : Int) : TT := if freeC s then t.putIf s.toNat 0 ⟨#[]⟩ else t
set_option maxHeartbeats 800000 in
set_option maxRecDepth 100000 in
theorem reset_any {w : World} {H : Nat} {t : TT} {C : Array Value} (T : Tb w H t C) (s : Int) :
    Calls Tryz.prog 8 #[.pointer (some ⟨H, 0, none⟩), .int .i64 s] w fun e w' => e = .returned (.int .i64 (if freeC s then 0 else 3)) ∧ (∃ C', Tb w' H (t.reset s) C') ∧ Fr H w w' := by
  unfold TT.reset
  cases hf : freeC s
  · have hc := cfree_any s
    rw [hf] at hc
    have HC := Lib.hid hc; have HT := Lib.hid T
    clear hc T hf
    go_enter Tryz.func8, Tryz.ntmps8
    go_wp2_with (go_at_call 21; refine (HC.out _).mono ?_; rintro e w' ⟨rfl, rfl⟩)
    go_ret
    exact ⟨rfl, ⟨_, HT.out⟩, Fr.refl _ _⟩
  · have hc := cfree_any s
    rw [hf] at hc
    obtain ⟨k, rfl, hk, _⟩ := free_iff hf
    have hp := put_any T k hk 0 (by decide) ⟨#[]⟩ 0 ⟨#[]⟩ false none none none none none 0 0 0 0 0 0 0 0 0 0
    have HC := Lib.hid hc; have HP := Lib.hid hp
    clear hc T hf hp
    go_enter Tryz.func8, Tryz.ntmps8
    go_wp2_with (first
      | (go_at_call 21; refine (HC.out _).mono ?_; rintro e w' ⟨rfl, rfl⟩)
      | (go_at_call 22; refine HP.out.mono ?_; rintro e w' ⟨rfl, hT, hF⟩))
    go_ret
    exact ⟨rfl, hT, hF⟩

theorem put8 {w : World} {g : Nat} {T : TypeId} {a0 a1 a2 a3 a4 a5 a6 a7 : Value} (h : w.heap[g]? = some (.cells #[a0, a1, a2, a3, a4, a5, a6, a7] T (0, 0))) (b0 b1 b2 b3 b4 b5 b6 b7 : Value) :
    ((((((((w.setCell ⟨g, 0, none⟩ b0).setCell ⟨g, 1, none⟩ b1).setCell ⟨g, 2, none⟩ b2).setCell ⟨g, 3, none⟩ b3).setCell ⟨g, 4, none⟩ b4).setCell ⟨g, 5, none⟩ b5).setCell ⟨g, 6, none⟩ b6).setCell ⟨g, 7, none⟩ b7).heap[g]? = some (.cells #[b0, b1, b2, b3, b4, b5, b6, b7] T (0, 0)) := by
  have e : (w.setCell ⟨g, 0, none⟩ b0).heap[g]? = some (.cells #[b0, a1, a2, a3, a4, a5, a6, a7] T (0, 0)) := heap_setCell_same _ _ 0 _ _ b0 h
  generalize w.setCell ⟨g, 0, none⟩ b0 = w at e ⊢
  have h := e
  clear e
  have e : (w.setCell ⟨g, 1, none⟩ b1).heap[g]? = some (.cells #[b0, b1, a2, a3, a4, a5, a6, a7] T (0, 0)) := heap_setCell_same _ _ 1 _ _ b1 h
  generalize w.setCell ⟨g, 1, none⟩ b1 = w at e ⊢
  have h := e
  clear e
  have e : (w.setCell ⟨g, 2, none⟩ b2).heap[g]? = some (.cells #[b0, b1, b2, a3, a4, a5, a6, a7] T (0, 0)) := heap_setCell_same _ _ 2 _ _ b2 h
  generalize w.setCell ⟨g, 2, none⟩ b2 = w at e ⊢
  have h := e
  clear e
  have e : (w.setCell ⟨g, 3, none⟩ b3).heap[g]? = some (.cells #[b0, b1, b2, b3, a4, a5, a6, a7] T (0, 0)) := heap_setCell_same _ _ 3 _ _ b3 h
  generalize w.setCell ⟨g, 3, none⟩ b3 = w at e ⊢
  have h := e
  clear e
  have e : (w.setCell ⟨g, 4, none⟩ b4).heap[g]? = some (.cells #[b0, b1, b2, b3, b4, a5, a6, a7] T (0, 0)) := heap_setCell_same _ _ 4 _ _ b4 h
  generalize w.setCell ⟨g, 4, none⟩ b4 = w at e ⊢
  have h := e
  clear e
  have e : (w.setCell ⟨g, 5, none⟩ b5).heap[g]? = some (.cells #[b0, b1, b2, b3, b4, b5, a6, a7] T (0, 0)) := heap_setCell_same _ _ 5 _ _ b5 h
  generalize w.setCell ⟨g, 5, none⟩ b5 = w at e ⊢
  have h := e
  clear e
  have e : (w.setCell ⟨g, 6, none⟩ b6).heap[g]? = some (.cells #[b0, b1, b2, b3, b4, b5, b6, a7] T (0, 0)) := heap_setCell_same _ _ 6 _ _ b6 h
  generalize w.setCell ⟨g, 6, none⟩ b6 = w at e ⊢
  have h := e
  clear e
  have e : (w.setCell ⟨g, 7, none⟩ b7).heap[g]? = some (.cells #[b0, b1, b2, b3, b4, b5, b6, b7] T (0, 0)) := heap_setCell_same _ _ 7 _ _ b7 h
  exact e
theorem Fr.set8 (w : World) (g : Nat) (b0 b1 b2 b3 b4 b5 b6 b7 : Value) : Fr g w ((((((((w.setCell ⟨g, 0, none⟩ b0).setCell ⟨g, 1, none⟩ b1).setCell ⟨g, 2, none⟩ b2).setCell ⟨g, 3, none⟩ b3).setCell ⟨g, 4, none⟩ b4).setCell ⟨g, 5, none⟩ b5).setCell ⟨g, 6, none⟩ b6).setCell ⟨g, 7, none⟩ b7) := (((((((Fr.set _ _ _ _).trans (Fr.set _ _ _ _)).trans (Fr.set _ _ _ _)).trans (Fr.set _ _ _ _)).trans (Fr.set _ _ _ _)).trans (Fr.set _ _ _ _)).trans (Fr.set _ _ _ _)).trans (Fr.set _ _ _ _)
theorem results_tmp_row {P : Program} {fn : Func} {p u : Tmp} {ty : TypeId} (h : fn.results = #[.tmp u, .cell p ty]) (tmps : Array Value) (w : World) (g : Nat) (t : TypeId) (cs : Array Value) (fr : Nat × Nat) (d : TypeDesc)
    (hp : tmps.getD p undef = .pointer (some ⟨g, 0, none⟩)) (hg : w.heap[g]? = some (.cells cs t fr))
    (hu : P.underlying ty = some d) (hd : (match d with | .struct _ | .array _ _ => true | _ => false) = true) (hi : (P.info? ty).map (·.size) = some cs.size) :
    (results fn tmps).run P w = .ok (.tuple #[tmps.getD u undef, .agg cs]) w := by
  have hp' : tmps[p]?.getD undef = .pointer (some ⟨g, 0, none⟩) := by simpa using hp
  simp [results, h, hp', asAddr, run_loadVar_row w g t ty cs fr d hg hu hd hi]
/-- What Action answers of a table. -/
def ActPost (t : TT) (s : Int) (w : World) (e : Ending) (w' : World) : Prop := (∃ nk nm g a1 a2 a3 a4 a5 l1 c1 l2 c2 l3 c3 l4 c4 l5 c5, e = .returned (.tuple #[.string (if isC s then t.x s.toNat else ⟨#[]⟩), .agg #[.int .i64 nk, .string nm, .bool g, .slice a1 l1 c1, .slice a2 l2 c2, .slice a3 l3 c3, .slice a4 l4 c4, .slice a5 l5 c5]])) ∧ Below w.heap.size w w'
set_option maxHeartbeats 800000 in
set_option maxRecDepth 100000 in
theorem action_any {w : World} {H : Nat} {t : TT} {C : Array Value} (T : Tb w H t C) (s : Int) :
    Calls Tryz.prog 11 #[.pointer (some ⟨H, 0, none⟩), .int .i64 s] w (ActPost t s w) := by
  cases hs : isC s
  · have hc := cis_any s
    rw [hs] at hc
    have HC := Lib.hid hc
    have HB := Lib.hid (al1 w (.cells #[.int .i64 0, .string ⟨#[]⟩, .bool false, .slice none 0 0, .slice none 0 0, .slice none 0 0, .slice none 0 0, .slice none 0 0] 42))
    have HS := Lib.hid hs
    clear hc T hs
    go_enter Tryz.func11, Tryz.ntmps11
    go_wp2_with (go_at_call 24; refine (HC.out _).mono ?_; rintro e w' ⟨rfl, rfl⟩)
    refine bodyPost_ret (results_tmp_row rfl _ _ w.heap.size _ _ _ _ rfl (heap_alloc_new w _) Tryz.underlying42 rfl (by kernel_rfl)) rfl ⟨⟨_, _, _, _, _, _, _, _, _, _, _, _, _, _, _, _, _, _, by rw [HS.out]; rfl⟩, HB.out⟩
  · have hc := cis_any s
    rw [hs] at hc
    have HC := Lib.hid hc
    obtain ⟨k, hk, rfl⟩ : ∃ k : Nat, k < 32 ∧ s = k := ⟨s.toNat, by have := isC_iff.1 hs; omega, by have := isC_iff.1 hs; omega⟩
    have hki : (k : Int) < 32 := by omega
    obtain ⟨nk, nm, g, a1, l1, c1, a2, l2, c2, a3, l3, c3, a4, l4, c4, a5, l5, c5, q0, q1, q2, q3, q4, q5, q6, q7, q8⟩ := T.act k hk
    have HQ := Lib.hid (And.intro q0 (And.intro q1 (And.intro q2 (And.intro q3 (And.intro q4 (And.intro q5 (And.intro q6 (And.intro q7 q8))))))))
    have hb := al1 w (.cells #[.int .i64 0, .string ⟨#[]⟩, .bool false, .slice none 0 0, .slice none 0 0, .slice none 0 0, .slice none 0 0, .slice none 0 0] 42)
    have HB := Lib.hid hb
    have T := T.below hb
    have HS := Lib.hid hs
    have p0 := cell_row T.row q0
    have p1 := cell_row T.row q1
    have p2 := cell_row T.row q2
    have p3 := cell_row T.row q3
    have p4 := cell_row T.row q4
    have p5 := cell_row T.row q5
    have p6 := cell_row T.row q6
    have p7 := cell_row T.row q7
    have p8 := cell_row T.row q8
    clear hc T hs hb q0 q1 q2 q3 q4 q5 q6 q7 q8
    go_enter Tryz.func11, Tryz.ntmps11
    go_wp2_with (go_at_call 24; refine (HC.out _).mono ?_; rintro e w' ⟨rfl, rfl⟩)
    have hN : ((w.alloc (.cells #[.int .i64 0, .string ⟨#[]⟩, .bool false, .slice none 0 0, .slice none 0 0, .slice none 0 0, .slice none 0 0, .slice none 0 0] 42)).alloc (.cells #[.string (t.x k), .int .i64 nk, .string nm, .bool g, .slice a1 l1 c1, .slice a2 l2 c2, .slice a3 l3 c3, .slice a4 l4 c4, .slice a5 l5 c5] 52)).heap[w.heap.size]? = some (.cells #[.int .i64 0, .string ⟨#[]⟩, .bool false, .slice none 0 0, .slice none 0 0, .slice none 0 0, .slice none 0 0, .slice none 0 0] 42 (0, 0)) := (Below.heap_alloc _ _ _ (by simp)).trans (heap_alloc_new w _)
    have hA : ((w.alloc (.cells #[.int .i64 0, .string ⟨#[]⟩, .bool false, .slice none 0 0, .slice none 0 0, .slice none 0 0, .slice none 0 0, .slice none 0 0] 42)).alloc (.cells #[.string (t.x k), .int .i64 nk, .string nm, .bool g, .slice a1 l1 c1, .slice a2 l2 c2, .slice a3 l3 c3, .slice a4 l4 c4, .slice a5 l5 c5] 52)).heap[w.heap.size + 1]? = some (.cells #[.string (t.x k), .int .i64 nk, .string nm, .bool g, .slice a1 l1 c1, .slice a2 l2 c2, .slice a3 l3 c3, .slice a4 l4 c4, .slice a5 l5 c5] 52 (0, 0)) := by
      have := heap_alloc_new (w.alloc (.cells #[.int .i64 0, .string ⟨#[]⟩, .bool false, .slice none 0 0, .slice none 0 0, .slice none 0 0, .slice none 0 0, .slice none 0 0] 42)) (.cells #[.string (t.x k), .int .i64 nk, .string nm, .bool g, .slice a1 l1 c1, .slice a2 l2 c2, .slice a3 l3 c3, .slice a4 l4 c4, .slice a5 l5 c5] 52)
      rwa [World.size_alloc] at this
    have hb2 : Below w.heap.size w ((w.alloc (.cells #[.int .i64 0, .string ⟨#[]⟩, .bool false, .slice none 0 0, .slice none 0 0, .slice none 0 0, .slice none 0 0, .slice none 0 0] 42)).alloc (.cells #[.string (t.x k), .int .i64 nk, .string nm, .bool g, .slice a1 l1 c1, .slice a2 l2 c2, .slice a3 l3 c3, .slice a4 l4 c4, .slice a5 l5 c5] 52)) := HB.out.alloc (by simp) _
    clear p0 p1 p2 p3 p4 p5 p6 p7 p8
    generalize ((w.alloc (.cells #[.int .i64 0, .string ⟨#[]⟩, .bool false, .slice none 0 0, .slice none 0 0, .slice none 0 0, .slice none 0 0, .slice none 0 0] 42)).alloc (.cells #[.string (t.x k), .int .i64 nk, .string nm, .bool g, .slice a1 l1 c1, .slice a2 l2 c2, .slice a3 l3 c3, .slice a4 l4 c4, .slice a5 l5 c5] 52)) = W0 at hN hA hb2 ⊢
    refine RN.begins (fun w' => w'.heap[w.heap.size + 1]? = some (.cells #[.string (t.x k), .int .i64 nk, .string nm, .bool g, .slice a1 l1 c1, .slice a2 l2 c2, .slice a3 l3 c3, .slice a4 l4 c4, .slice a5 l5 c5] 52 (0, 0))) [] (by kernel_rfl) ?_
    have hS : (fun w' : World => w'.heap[w.heap.size + 1]? = some (.cells #[.string (t.x k), .int .i64 nk, .string nm, .bool g, .slice a1 l1 c1, .slice a2 l2 c2, .slice a3 l3 c3, .slice a4 l4 c4, .slice a5 l5 c5] 52 (0, 0))) W0.drew := hA
    refine RN.take (i := 0) (v := ?_) rfl (by decide) (by kernel_rfl) (by kernel_rfl) (by kernel_rfl) (by kernel_rfl) (by kernel_rfl) (by first | exact fun _ _ _ h => h | exact fun _ _ _ h => (by cases h.1) | exact fun _ _ _ h => door_put (by decide) h) (.inl ⟨by rfl, ?_⟩) hS ?_
    rotate_left 1
    · (intro wq hq; have s0 := zc0 hq; have s1 := zc1 hq; have s2 := zc2 hq; have s3 := zc3 hq; have s4 := zc4 hq; have s5 := zc5 hq; have s6 := zc6 hq; have s7 := zc7 hq; have s8 := zc8 hq; go_simp; try with_reducible rfl)
    refine RN.take (i := 1) (v := ?_) rfl (by decide) (by kernel_rfl) (by kernel_rfl) (by kernel_rfl) (by kernel_rfl) (by kernel_rfl) (by first | exact fun _ _ _ h => h | exact fun _ _ _ h => (by cases h.1) | exact fun _ _ _ h => door_put (by decide) h) (.inl ⟨by rfl, ?_⟩) hS ?_
    rotate_left 1
    · (intro wq hq; have s0 := zc0 hq; have s1 := zc1 hq; have s2 := zc2 hq; have s3 := zc3 hq; have s4 := zc4 hq; have s5 := zc5 hq; have s6 := zc6 hq; have s7 := zc7 hq; have s8 := zc8 hq; go_simp; try with_reducible rfl)
    refine RN.take (i := 2) (v := ?_) rfl (by decide) (by kernel_rfl) (by kernel_rfl) (by kernel_rfl) (by kernel_rfl) (by kernel_rfl) (by first | exact fun _ _ _ h => h | exact fun _ _ _ h => (by cases h.1) | exact fun _ _ _ h => door_put (by decide) h) (.inl ⟨by rfl, ?_⟩) hS ?_
    rotate_left 1
    · (intro wq hq; have s0 := zc0 hq; have s1 := zc1 hq; have s2 := zc2 hq; have s3 := zc3 hq; have s4 := zc4 hq; have s5 := zc5 hq; have s6 := zc6 hq; have s7 := zc7 hq; have s8 := zc8 hq; go_simp; try with_reducible rfl)
    refine RN.take (i := 3) (v := ?_) rfl (by decide) (by kernel_rfl) (by kernel_rfl) (by kernel_rfl) (by kernel_rfl) (by kernel_rfl) (by first | exact fun _ _ _ h => h | exact fun _ _ _ h => (by cases h.1) | exact fun _ _ _ h => door_put (by decide) h) (.inl ⟨by rfl, ?_⟩) hS ?_
    rotate_left 1
    · (intro wq hq; have s0 := zc0 hq; have s1 := zc1 hq; have s2 := zc2 hq; have s3 := zc3 hq; have s4 := zc4 hq; have s5 := zc5 hq; have s6 := zc6 hq; have s7 := zc7 hq; have s8 := zc8 hq; go_simp; try with_reducible rfl)
    refine RN.take (i := 4) (v := ?_) rfl (by decide) (by kernel_rfl) (by kernel_rfl) (by kernel_rfl) (by kernel_rfl) (by kernel_rfl) (by first | exact fun _ _ _ h => h | exact fun _ _ _ h => (by cases h.1) | exact fun _ _ _ h => door_put (by decide) h) (.inl ⟨by rfl, ?_⟩) hS ?_
    rotate_left 1
    · (intro wq hq; have s0 := zc0 hq; have s1 := zc1 hq; have s2 := zc2 hq; have s3 := zc3 hq; have s4 := zc4 hq; have s5 := zc5 hq; have s6 := zc6 hq; have s7 := zc7 hq; have s8 := zc8 hq; go_simp; try with_reducible rfl)
    refine RN.all (rs := [5]) (by kernel_rfl) (by simp) ?_
    refine RN.All.cons rfl (fun K hK => ?_) RN.All.nil
    have hN : W0.drew.heap[w.heap.size]? = some (.cells #[.int .i64 0, .string ⟨#[]⟩, .bool false, .slice none 0 0, .slice none 0 0, .slice none 0 0, .slice none 0 0, .slice none 0 0] 42 (0, 0)) := hN
    have hb3 := Below.drew hb2
    clear hA hb2
    generalize W0.drew = W1 at hN hS hb3 ⊢
    have k0 := zc0 hN
    have k1 := zc1 hN
    have k2 := zc2 hN
    have k3 := zc3 hN
    have k4 := zc4 hN
    have k5 := zc5 hN
    have k6 := zc6 hN
    have k7 := zc7 hN
    have f0 := zf 0 hN
    have f1 := zf 1 hN
    have f2 := zf 2 hN
    have f3 := zf 3 hN
    have f4 := zf 4 hN
    have f5 := zf 5 hN
    have f6 := zf 6 hN
    have f7 := zf 7 hN
    have hst := put8 hN (.int .i64 nk) (.string nm) (.bool g) (.slice a1 l1 c1) (.slice a2 l2 c2) (.slice a3 l3 c3) (.slice a4 l4 c4) (.slice a5 l5 c5)
    have hfr := Fr.set8 W1 w.heap.size (.int .i64 nk) (.string nm) (.bool g) (.slice a1 l1 c1) (.slice a2 l2 c2) (.slice a3 l3 c3) (.slice a4 l4 c4) (.slice a5 l5 c5)
    have HST := Lib.hid (And.intro hst hfr)
    clear hst hfr hN
    go_simp
    obtain ⟨hst, hfr⟩ := HST.out
    refine hK _ _ (fun _ => (hfr.block _ (Array.getElem?_eq_some_iff.1 hS).1 (by omega)).trans hS) ?_
    have hbe := hfr.below hb3 (Nat.le_refl _) hb3.size
    clear hK K
    refine RN.done (by kernel_rfl) ?_ _
    go_wp2_with fail
    refine bodyPost_ret (results_tmp_row rfl _ _ w.heap.size _ _ _ _ rfl hst Tryz.underlying42 rfl (by kernel_rfl)) rfl ⟨⟨nk, nm, g, a1, a2, a3, a4, a5, l1, c1, l2, c2, l3, c3, l4, c4, l5, c5, by rw [HS.out]; rfl⟩, hbe⟩
end Tp
end Go.Proofs.YtoklgmbpgnimcaaGreatDoor

namespace Go.Proofs.YtoklgmbpgnimcaaGreatDoor
open Go.RowKit
namespace Tp
open Sig

theorem Tb.hows {w : World} {H : Nat} {t : TT} {C : Array Value} (T : Tb w H t C) : ∃ cs : List Value, cs.length = 32 ∧ (∀ k, k < 32 → cs[k]? = some (.int .i64 (t.h k))) ∧ w.rangeAt H 1 cs := by
  refine ⟨(List.range 32).map fun i => .int .i64 (t.h i), by simp, fun k hk => by simp [hk], fun j v hv => ?_⟩
  have hj : j < 32 := by
    have := (List.getElem?_eq_some_iff.1 hv).1
    simpa using this
  have : v = .int .i64 (t.h j) := by
    simp [hj] at hv
    exact hv.symm
  rw [this]
  exact cell_row T.row (T.how j hj).1
theorem idx {cs : List Value} {k : Nat} (hk : k < 32) {v : Value} (h : cs[k]? = some v) (w : World) : (Instr.index 50 (.agg cs.toArray) (.int .i64 k)).run Tryz.prog w = .ok v w := by
  have hki : (k : Int) < 32 := by omega
  have h0 : (0 : Int) ≤ k := by omega
  obtain ⟨hl, hg⟩ := List.getElem?_eq_some_iff.1 h
  simp [Instr.index, run_underlying Tryz.underlying50, asIntOf, part, go_sem, hki, h0, hl, hg]
  omega
def TT.more (t : TT) (c : TT) (k : Nat) : TT := if k ≠ 0 ∧ t.h k = 1 then c.setH k 1 else c
def TT.child (t : TT) : TT := (List.range 32).foldl t.more (newT t.E)
set_option maxHeartbeats 800000 in
set_option maxRecDepth 100000 in
theorem child_any {w : World} {H : Nat} {t : TT} {C : Array Value} (T : Tb w H t C) :
    Calls Tryz.prog 9 #[.pointer (some ⟨H, 0, none⟩)] w fun e w' => ∃ H' C', e = .returned (.pointer (some ⟨H', 0, none⟩)) ∧ Tb w' H' t.child C' ∧ w.heap.size ≤ H' ∧ Below w.heap.size w w' := by
  have c0 := cell_row T.row T.ent
  have HN := Lib.hid (new_any t.E T.lt w)
  have HT := Lib.hid T
  clear T
  go_enter Tryz.func9, Tryz.ntmps9
  go_wp2_with fail
  refine HN.out.mono ?_
  rintro e w1 ⟨H', C', rfl, hT', hH, hb⟩
  have T1 := HT.out.below hb
  obtain ⟨cs, hcl, hcs, hR⟩ := T1.hows
  have hi : (Tryz.prog.info? 50).map (·.size) = some cs.length := by rw [hcl]; kernel_rfl
  have HT1 := Lib.hid T1; have HT' := Lib.hid hT'; have HB := Lib.hid hb; have HH := Lib.hid hH; have HR := Lib.hid hR; have HI := Lib.hid hi; have HCS := Lib.hid hcs
  clear T1 hT' hb hH hR hi hcs
  go_wp2_with (refine wpList_load_mid rfl 50 _ rfl H 1 rfl cs _ HR.out Tryz.underlying50 rfl HI.out ?_)
  go_loopw [15] (fun i wr => ∃ k C2, k ≤ 32 ∧ i = .int .i64 (k : Nat) ∧ Tb wr H' ((List.range k).foldl t.more (newT t.E)) C2 ∧ Fr H' w1 wr) (fun i _ => 32 - (intOf i).toNat)
  case atStart => exact ⟨0, C', by omega, rfl, HT'.out, Fr.refl _ _⟩
  case round =>
    obtain ⟨k, C2, hk, rfl, hT, hF⟩ := hrel
    by_cases hlt : k < 32
    · have hstep : (List.range (k + 1)).foldl t.more (newT t.E) = t.more ((List.range k).foldl t.more (newT t.E)) k := by rw [List.range_succ, List.foldl_append]; rfl
      obtain ⟨y, hy⟩ : ∃ y, y = (List.range k).foldl t.more (newT t.E) := ⟨_, rfl⟩
      rw [← hy] at hT hstep
      have hcell := HCS.out k hlt
      have hidx := idx hlt hcell wr
      clear hcell
      have hki : (k : Int) < 32 := by omega
      have HST := Lib.hid hstep; have HTk := Lib.hid hT; have HF := Lib.hid hF
      have hnn : (0 : Int) ≤ k := by omega
      have cn := cell_row hT.row (hT.how k hlt).1
      have gn := fz hT (1 + k)
      clear hT hstep hy hF
      by_cases h0 : k = 0
      · subst h0
        have hidx : (Instr.index 50 (.agg cs.toArray) (.int .i64 0)).run Tryz.prog wr = .ok (.int .i64 (t.h 0)) wr := hidx
        go_wp2_with fail
        go_roundw
        case rel =>
          refine ⟨0 + 1, C2, by omega, by go_num, ?_, HF.out⟩
          rw [HST.out]
          exact HTk.out
        case measure => simp [intOf]
      · have h0' : ¬ (k : Int) = 0 := by omega
        have h0b : ((k : Int) != 0) = true := by simpa using h0'
        by_cases h1 : t.h k = 1
        · have H1 := Lib.hid h1
          rw [h1] at hidx
          clear h1
          go_wp2_with fail
          go_roundw
          case rel =>
            have e1 := heap_setCell_same wr H' (1 + k) C2 _ (.int .i64 1) HTk.out.row
            have T1 := HTk.out.setH (k := k) (hw := 1) hlt (by decide) e1
            have hm : t.more y k = y.setH k 1 := by unfold TT.more; rw [if_pos ⟨h0, H1.out⟩]
            rw [← hm, ← HST.out] at T1
            exact ⟨k + 1, _, by omega, by go_num, T1, HF.out.trans (Fr.set _ _ _ _)⟩
          case measure => simp [intOf]; omega
        · have H1 := Lib.hid h1
          have h1' : ¬ (t.h k : Int) = 1 := by omega
          have h2 : ((t.h k : Int) == 1) = false := beq_eq_false_iff_ne.2 h1'
          go_wp2_with fail
          go_roundw
          case rel =>
            have hm : t.more y k = y := by unfold TT.more; rw [if_neg (fun h => H1.out h.2)]
            refine ⟨k + 1, C2, by omega, by go_num, ?_, HF.out⟩
            rw [HST.out, hm]
            exact HTk.out
          case measure => simp [intOf]; omega
    · obtain rfl : k = 32 := by omega
      go_wp2_with fail
      go_ret
      exact ⟨_, C2, rfl, hT, HH.out, hF.below HB.out HH.out HB.out.size⟩
end Tp
end Go.Proofs.YtoklgmbpgnimcaaGreatDoor
