/- What sig.Of and sig.List answer, for every list of numbers and every set. -/
import Derived.Test.YtpbphdlaccfndaaDoorSigB
namespace Go.Proofs.YtpbphdlaccfndaaDoor
open Go.RowKit
namespace Sig

/-- The set of a list's signals, as a number. -/
def ofN (l : List Int) : Nat := l.foldl (fun x s => x ||| bitN s) 0
theorem ofN_snoc (l : List Int) (s : Int) : ofN (l ++ [s]) = ofN l ||| bitN s := by simp [ofN]
theorem ofN_rev (l : List Int) : ∀ x, (l.foldl (fun x s => x ||| bitN s) x) < 4294967296 ∨ ¬ x < 4294967296 := by
  induction l with
  | nil => intro x; by_cases h : x < 4294967296 <;> simp [h]
  | cons s l ih =>
    intro x
    by_cases h : x < 4294967296
    · rcases ih (x ||| bitN s) with h1 | h1
      · exact .inl (by simpa using h1)
      · exact absurd (Nat.or_lt_two_pow (n := 32) h (bitN_lt s)) h1
    · exact .inr h
theorem ofN_lt (l : List Int) : ofN l < 4294967296 := by
  rcases ofN_rev l 0 with h | h
  · exact h
  · exact absurd (by decide) h
/-- A signal is in the set just if it is in the list. -/
theorem foldl_bit (l : List Int) (k : Nat) : ∀ x : Nat, (l.foldl (fun x s => x ||| bitN s) x).testBit k = (x.testBit k || l.any (fun s => (bitN s).testBit k)) := by
  induction l with
  | nil => intro x; simp
  | cons s l ih => intro x; simp [ih, Nat.testBit_or, Bool.or_assoc]
theorem bit_bitN (s : Int) (k : Nat) : (bitN s).testBit k = (isB s && decide (s.toNat = k)) := by
  unfold bitN
  by_cases h : isB s = true
  · rw [if_pos h, h, Nat.testBit_two_pow]; simp
  · rw [if_neg h]; simp [h]
theorem ofN_bit (l : List Int) (k : Nat) : (ofN l).testBit k = l.any (fun s => isB s && decide (s.toNat = k)) := by
  unfold ofN
  rw [foldl_bit]
  simp [bit_bitN]
theorem has_ofN {l : List Int} {n : Int} (h : n ∈ l) : hasB (ofN l) n = isB n := by
  unfold hasB
  cases hb : isB n
  · rfl
  · rw [ofN_bit]
    simp only [Bool.true_and, List.any_eq_true]
    exact ⟨n, h, by simp [hb]⟩
theorem has_without (x : Nat) (s : Int) : hasB (x &&& (4294967295 - bitN s)) s = false := by
  unfold hasB
  cases hb : isB s
  · rfl
  · have hs := of_decide_eq_true hb
    obtain ⟨n, rfl⟩ : ∃ n : Nat, s = n := ⟨s.toNat, by omega⟩
    rw [bitN_yes (by omega), Nat.testBit_and, show (n : Int).toNat = n by omega]
    have : (4294967295 - 2 ^ n).testBit n = false := by
      have e : 4294967295 - 2 ^ n = 2 ^ 32 - (2 ^ n + 1) := by omega
      rw [e, Nat.testBit_two_pow_sub_succ (pow_lt n (by omega)), Nat.testBit_two_pow]
      simp
    simp [this]
theorem has_with (x : Nat) (s : Int) : hasB (x ||| bitN s) s = isB s := by
  unfold hasB
  cases hb : isB s
  · rfl
  · simp [Nat.testBit_or, bit_bitN, hb]

/-- The signals from 1 to k that are in x. -/
def listN (x k : Nat) : List Int := ((List.range k).map fun i : Nat => (i : Int) + 1).filter (hasB x)
theorem listN_succ (x k : Nat) : listN x (k + 1) = listN x k ++ (if hasB x ((k : Int) + 1) then [(k : Int) + 1] else []) := by
  unfold listN
  rw [List.range_succ, List.map_append, List.filter_append]
  cases h : hasB x ((k : Int) + 1) <;> simp [h]
theorem listN_len (x k : Nat) : (listN x k).length ≤ k := by
  unfold listN
  exact Nat.le_trans (List.length_filter_le _ _) (by simp)
theorem ofN_listN (l : List Int) : ofN (listN (ofN l) 31) = ofN l := by
  apply Nat.eq_of_testBit_eq
  intro k
  rw [ofN_bit, Bool.eq_iff_iff]
  simp only [List.any_eq_true, listN, List.mem_filter, List.mem_map, List.mem_range, Bool.and_eq_true, decide_eq_true_eq]
  constructor
  · rintro ⟨s, ⟨⟨i, hi, rfl⟩, hh⟩, hs, rfl⟩
    unfold hasB at hh
    simp only [Bool.and_eq_true] at hh
    exact hh.2
  · intro h
    have h' := h
    rw [ofN_bit, List.any_eq_true] at h
    obtain ⟨s, hs, h2⟩ := h
    simp only [Bool.and_eq_true, decide_eq_true_eq] at h2
    obtain ⟨hb, rfl⟩ := h2
    have := of_decide_eq_true hb
    refine ⟨s, ⟨⟨s.toNat - 1, by omega, by omega⟩, ?_⟩, hb, rfl⟩
    unfold hasB
    rw [hb, h']; rfl

/-- A slice's cells hold these numbers. -/
def SliceIs (w : World) (a : Option Addr) (zs : List Int) : Prop := ∀ j : Nat, j < zs.length → ∃ b off, a = some ⟨b, off, none⟩ ∧ w.cell? ⟨b, off + j, none⟩ = some (.int .i64 (zs.getD j 0))

set_option maxHeartbeats 400000 in
theorem of_any (a : Option Addr) (cap : Nat) (zs : List Int) (w : World) (hm : zs.length ≤ 9223372036854775807) (hc : SliceIs w a zs) :
    Calls Tryd.prog 18 #[.slice a zs.length cap] w fun e w' => e = .returned (.int .u32 (ofN zs)) ∧ w = w' := by
  have HC := Lib.hid hc; clear hc
  go_enter Tryd.func18, Tryd.ntmps18
  go_wp2
  go_loop [3, 8] (fun x i => ∃ k : Nat, k ≤ zs.length ∧ i = .int .i64 k ∧ x = .int .u32 (ofN (zs.take k))) (fun _ i => zs.length - (intOf i).toNat)
  case atStart => exact ⟨0, Nat.zero_le _, rfl, rfl⟩
  case round =>
    obtain ⟨k, hk, rfl, rfl⟩ := hrel
    by_cases hlt : k < zs.length
    · obtain ⟨b, off, rfl, hcell⟩ := HC.out k hlt
      have hx := ofN_lt (zs.take k)
      have HT := Lib.hid (List.take_succ_eq_append_getElem hlt)
      go_wp2_with (go_at_call 26; refine (bit_any _ _).mono ?_; rintro e w' ⟨rfl, rfl⟩)
      go_round
      case rel => exact ⟨k + 1, by omega, by go_num, by rw [HT.out, ofN_snoc, u32_or_nat _ _ hx (bitN_lt _)]⟩
      case measure => simp [intOf]; omega
    · go_wp2
      go_ret
      exact ⟨ret_u32 (by rw [List.take_of_length_le (by omega)]), rfl⟩

theorem infoInt : (Tryd.prog.info? 3).map (fun i => (i.zero, i.size, i.bytes)) = some (some (.int .i64 0), 1, 8) := by kernel_rfl
/-- One round of List: a signal that is in the set is appended. -/
theorem list_rel {w w1 : World} {x k : Nat} {v' : Value} (hh : hasB x ((k : Int) + 1) = true) (hown : w1.ownsRow w.heap.size 3 1 v' ((listN x k).length + 1) ((listN x k).map (Value.int .i64) ++ [.int .i64 ((k : Int) + 1)])) :
    w1.ownsRow w.heap.size 3 1 v' (listN x (k + 1)).length ((listN x (k + 1)).map (Value.int .i64)) := by
  rw [listN_succ, if_pos hh]
  simpa using hown
theorem list_skip {w wr : World} {x k : Nat} {v : Value} (hh : hasB x ((k : Int) + 1) = false) (hown : wr.ownsRow w.heap.size 3 1 v (listN x k).length ((listN x k).map (Value.int .i64))) :
    wr.ownsRow w.heap.size 3 1 v (listN x (k + 1)).length ((listN x (k + 1)).map (Value.int .i64)) := by
  rw [listN_succ, if_neg (by simp [hh]), List.append_nil]
  exact hown

set_option maxHeartbeats 800000 in
set_option maxRecDepth 100000 in
theorem list_any (x : Nat) (hx : x < 4294967296) (w : World) :
    Calls Tryd.prog 20 #[.int .u32 x] w fun e w' => ∃ v, e = .returned v ∧ w'.ownsRow w.heap.size 3 1 v (listN x 31).length ((listN x 31).map (Value.int .i64)) ∧ Below w.heap.size w w' := by
  obtain ⟨i0, hi, hz0, hz1, hz2⟩ := info_parts infoInt
  go_enter Tryd.func20, Tryd.ntmps20
  go_wp2
  go_loopw [3, 4] (fun v s wr => ∃ k : Nat, k ≤ 31 ∧ s = .int .i64 ((k : Int) + 1) ∧ wr.ownsRow w.heap.size 3 1 v (listN x k).length ((listN x k).map (Value.int .i64)) ∧ Below w.heap.size w wr) (fun _ s _ => 32 - (intOf s).toNat)
  case atStart => exact ⟨0, by omega, rfl, World.ownsRow_nil _ _ _ _, Below.refl _ _⟩
  case round =>
    obtain ⟨k, hk, rfl, hown, hbel⟩ := hrel
    have HO := Lib.hid hown; have HB := Lib.hid hbel
    have hsz := hbel.size
    have hln := listN_len x k
    clear hown hbel
    by_cases hlt : k < 31
    · cases hh : hasB x ((k : Int) + 1)
      · have HH := Lib.hid hh
        go_wp2_with (go_at_call 19; refine (has_any _ _ hx _).mono ?_; rintro e w' ⟨rfl, rfl⟩)
        go_roundw
        case rel => exact ⟨k + 1, by omega, by go_num, list_skip (w := w) HH.out HO.out, HB.out⟩
        case measure => simp [intOf]; omega
      · have HH := Lib.hid hh
        go_wp2_with (first
          | (go_at_call 19; refine (has_any _ _ hx _).mono ?_; rintro e w' ⟨rfl, rfl⟩)
          | (at_builtin; refine wpList_append_own _ rfl _ _ 29 rfl w.heap.size 3 i0 (.int .i64 0) 1 8 Tryd.underlying29 hi hz0 hz1 hz2 rfl (by decide) _ _ _ rfl (HO.out.alloc _) ⟨_, 0, none⟩ 1 1 [.int .i64 ((k : Int) + 1)] rfl rfl ?c1 ?c2 ?c3 ?c4 ?c5 ?_))
        case c1 =>
          intro j u hj
          match j, hj with
          | 0, hj => simp at hj; subst hj; simp [Addr.add]
        case c2 => intro u hu; simp at hu; subst hu; rfl
        case c3 => unfold maxLen; omega
        case c4 => omega
        case c5 => simp; omega
        intro v' w1 hown' hgrow _
        have H1 := Lib.hid hown'; have HG := Lib.hid hgrow
        clear hown' hgrow
        go_wp2
        go_roundw
        case rel => exact ⟨k + 1, by omega, by go_num, list_rel HH.out H1.out, (HB.out.alloc hsz _).grown HG.out (by simp; omega) (fun j hj => (HO.out.lt j hj).1)⟩
        case measure => simp [intOf]; omega
    · obtain rfl : k = 31 := by omega
      go_wp2
      go_ret
      exact ⟨_, rfl, HO.out, HB.out⟩
end Sig
end Go.Proofs.YtpbphdlaccfndaaDoor
