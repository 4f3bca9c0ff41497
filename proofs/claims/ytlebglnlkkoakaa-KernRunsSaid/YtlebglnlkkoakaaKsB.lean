/- What the reference answers of signals and sets (Is, Name, Mild, Fixed, Has, With, Without, List). -/
import Derived.Test.YtlebglnlkkoakaaKsA
import Derived.Lib.SlBytesRow
namespace Go.Proofs.Ytlebglnlkkoakaa
open Go.RowKit
namespace Sig

/-- The names, from 1 on. -/
def nm : Nat → List UInt8
  | 1 => [72, 85, 80] | 2 => [73, 78, 84] | 3 => [81, 85, 73, 84] | 4 => [73, 76, 76] | 5 => [84, 82, 65, 80] | 6 => [65, 66, 82, 84] | 7 => [66, 85, 83] | 8 => [70, 80, 69]
  | 9 => [75, 73, 76, 76] | 10 => [85, 83, 82, 49] | 11 => [83, 69, 71, 86] | 12 => [85, 83, 82, 50] | 13 => [80, 73, 80, 69] | 14 => [65, 76, 82, 77] | 15 => [84, 69, 82, 77] | 16 => [83, 84, 75, 70, 76, 84]
  | 17 => [67, 72, 76, 68] | 18 => [67, 79, 78, 84] | 19 => [83, 84, 79, 80] | 20 => [84, 83, 84, 80] | 21 => [84, 84, 73, 78] | 22 => [84, 84, 79, 85] | 23 => [85, 82, 71] | 24 => [88, 67, 80, 85]
  | 25 => [88, 70, 83, 90] | 26 => [86, 84, 65, 76, 82, 77] | 27 => [80, 82, 79, 70] | 28 => [87, 73, 78, 67, 72] | 29 => [73, 79] | 30 => [80, 87, 82] | 31 => [83, 89, 83] | _ => []
def nmB (s : Nat) : ByteArray := ⟨(nm s).toArray⟩
set_option maxHeartbeats 400000 in
theorem ris_any (s : Int) (w : World) :
    Calls Try.prog 35 #[.int .i64 s] w fun e w' => e = .returned (.bool (isB s)) ∧ w = w' := by
  by_cases h : 1 ≤ s
  · by_cases h' : s ≤ 31
    · rw [isB_yes ⟨h, h'⟩]
      go_enter Try.func35, Try.ntmps35
      go_wp2
      go_ret
      exact ⟨rfl, rfl⟩
    · rw [isB_no (by omega)]
      have hd : decide (s ≤ 31) = false := decide_eq_false (by omega)
      clear h'
      go_enter Try.func35, Try.ntmps35
      go_wp2
      go_ret
      exact ⟨rfl, rfl⟩
  · rw [isB_no (by omega)]
    have h1 : s < 1 := by omega
    clear h
    go_enter Try.func35, Try.ntmps35
    go_wp2
    go_ret
    exact ⟨rfl, rfl⟩

set_option maxHeartbeats 400000 in
theorem rnames_any (w : World) :
    Calls Try.prog 68 #[] w fun e w' => e = .returned (.slice (some ⟨w.heap.size, 0, none⟩) 31 31) ∧ Below w.heap.size w w' ∧ w.heap.size < w'.heap.size ∧ ∀ k : Nat, k < 31 → w'.cell? ⟨w.heap.size, k, none⟩ = some (.string (nmB (k + 1))) := by
  go_enter Try.func68, Try.ntmps68
  go_wp2
  go_ret
  refine ⟨rfl, (Below.refl _ _).alloc (Nat.le_refl _) _, by simp, ?_⟩
  intro k hk
  rw [World.cell?_alloc_at _ _ _ _ rfl]
  match k, hk with
  | 0, _ => rfl | 1, _ => rfl | 2, _ => rfl | 3, _ => rfl | 4, _ => rfl | 5, _ => rfl | 6, _ => rfl | 7, _ => rfl | 8, _ => rfl | 9, _ => rfl | 10, _ => rfl | 11, _ => rfl | 12, _ => rfl | 13, _ => rfl | 14, _ => rfl | 15, _ => rfl | 16, _ => rfl | 17, _ => rfl | 18, _ => rfl | 19, _ => rfl | 20, _ => rfl | 21, _ => rfl | 22, _ => rfl | 23, _ => rfl | 24, _ => rfl | 25, _ => rfl | 26, _ => rfl | 27, _ => rfl | 28, _ => rfl | 29, _ => rfl | 30, _ => rfl | n + 31, h => omega

set_option maxHeartbeats 400000 in
theorem rname_yes (s : Nat) (h1 : 1 ≤ s) (h2 : s ≤ 31) (w : World) :
    Calls Try.prog 64 #[.int .i64 s] w fun e w' => e = .returned (.string (nmB s)) ∧ Below w.heap.size w w' := by
  have hb : isB (s : Int) = true := isB_yes (by omega)
  go_enter Try.func64, Try.ntmps64
  go_wp2_with (go_at_call 35; refine (ris_any _ _).mono ?_; rintro e w' ⟨rfl, rfl⟩)
  refine (rnames_any _).mono ?_
  rintro e w1 ⟨rfl, hbel, -, hc⟩
  have hc1 := hc (s - 1) (by omega)
  rw [show s - 1 + 1 = s by omega] at hc1
  clear hc hb
  go_wp2
  go_ret
  exact ⟨rfl, hbel⟩
set_option maxHeartbeats 400000 in
theorem rname_no (s : Int) (h : ¬ (1 ≤ s ∧ s ≤ 31)) (w : World) :
    Calls Try.prog 64 #[.int .i64 s] w fun e w' => e = .returned (.string ⟨#[]⟩) ∧ Below w.heap.size w w' := by
  have hb : isB s = false := isB_no h
  clear h
  go_enter Try.func64, Try.ntmps64
  go_wp2_with (go_at_call 35; refine (ris_any _ _).mono ?_; rintro e w' ⟨rfl, rfl⟩)
  go_ret
  exact ⟨rfl, Below.refl _ _⟩
theorem nm_out {s : Int} (h : ¬ (1 ≤ s ∧ s ≤ 31)) : nm s.toNat = [] := by
  by_cases h0 : s < 1
  · rw [show s.toNat = 0 by omega]; rfl
  · obtain ⟨k, hk⟩ : ∃ k, s.toNat = k + 32 := ⟨s.toNat - 32, by omega⟩
    rw [hk]; rfl
theorem rname_any (s : Int) (w : World) :
    Calls Try.prog 64 #[.int .i64 s] w fun e w' => e = .returned (.string (nmB s.toNat)) ∧ Below w.heap.size w w' := by
  by_cases h : 1 ≤ s ∧ s ≤ 31
  · obtain ⟨n, rfl⟩ : ∃ n : Nat, s = n := ⟨s.toNat, by omega⟩
    exact rname_yes n (by omega) (by omega) w
  · rw [nmB, nm_out h]; exact rname_no s h w
/-- Whose name it is. -/
theorem nm_only (x : List UInt8) (k : Nat) (h : ∀ j : Fin 32, (nm j == x) = ((j : Nat) == k)) (hk : 1 ≤ k) (hk' : k < 32) (s : Int) : ((nmB s.toNat).toList == x) = (s == k) := by
  have e : (nmB s.toNat).toList = nm s.toNat := by rw [nmB, Lib.toList_data]
  rw [e]
  by_cases hs : 1 ≤ s ∧ s ≤ 31
  · have := h ⟨s.toNat, by omega⟩
    rw [show nm s.toNat = nm (⟨s.toNat, by omega⟩ : Fin 32) from rfl, this, Bool.eq_iff_iff]
    simp; omega
  · rw [nm_out hs]
    have := h ⟨0, by omega⟩
    rw [show ([] : List UInt8) = nm (⟨0, by omega⟩ : Fin 32) from rfl, this]
    rw [Bool.eq_iff_iff]; simp; omega
set_option maxHeartbeats 400000 in
theorem rmild_any (s : Int) (w : World) :
    Calls Try.prog 53 #[.int .i64 s] w fun e w' => e = .returned (.bool (mildB s)) ∧ Below w.heap.size w w' := by
  have e1 : ((nmB s.toNat).toList == [67, 72, 76, 68]) = (s == 17) := nm_only [67, 72, 76, 68] 17 (by decide) (by omega) (by omega) s
  have e2 : ((nmB s.toNat).toList == [67, 79, 78, 84]) = (s == 18) := nm_only [67, 79, 78, 84] 18 (by decide) (by omega) (by omega) s
  have e3 : ((nmB s.toNat).toList == [85, 82, 71]) = (s == 23) := nm_only [85, 82, 71] 23 (by decide) (by omega) (by omega) s
  have e4 : ((nmB s.toNat).toList == [87, 73, 78, 67, 72]) = (s == 28) := nm_only [87, 73, 78, 67, 72] 28 (by decide) (by omega) (by omega) s
  unfold mildB
  cases h1 : s == 17 <;> cases h2 : s == 18 <;> cases h3 : s == 23 <;> cases h4 : s == 28
  all_goals
    rw [h1] at e1; rw [h2] at e2; rw [h3] at e3; rw [h4] at e4
    clear h1 h2 h3 h4
    go_enter Try.func53, Try.ntmps53
    go_wp2_with (go_at_call 64; refine (rname_any _ _).mono ?_; rintro e w1 ⟨rfl, hb1⟩)
    go_ret
    exact ⟨rfl, hb1⟩
set_option maxHeartbeats 400000 in
theorem rfixed_any (s : Int) (w : World) :
    Calls Try.prog 39 #[.int .i64 s] w fun e w' => e = .returned (.bool (fixedB s)) ∧ Below w.heap.size w w' := by
  have e1 : ((nmB s.toNat).toList == [75, 73, 76, 76]) = (s == 9) := nm_only [75, 73, 76, 76] 9 (by decide) (by omega) (by omega) s
  have e2 : ((nmB s.toNat).toList == [83, 84, 79, 80]) = (s == 19) := nm_only [83, 84, 79, 80] 19 (by decide) (by omega) (by omega) s
  unfold fixedB
  cases h1 : s == 9 <;> cases h2 : s == 19
  all_goals
    rw [h1] at e1; rw [h2] at e2
    clear h1 h2
    go_enter Try.func39, Try.ntmps39
    go_wp2_with fail
    refine (rname_any _ _).mono ?_
    rintro e w1 ⟨rfl, hb1⟩
    go_wp2_with (go_at_call 64; refine (rname_any _ _).mono ?_; rintro e w2 ⟨rfl, hb2⟩)
    go_ret
    first
    | exact ⟨rfl, hb1⟩
    | exact ⟨rfl, hb1.trans (hb2.mono hb1.size)⟩
theorem has_div (x : Nat) (s : Nat) (h1 : 1 ≤ s) (h2 : s ≤ 31) : hasB x (s : Int) = (x / 2 ^ s % 2 == 1) := by
  unfold hasB
  rw [isB_yes (by omega), Bool.true_and, show ((s : Int)).toNat = s from rfl, Nat.testBit_eq_decide_div_mod_eq]
  by_cases h : x / 2 ^ s % 2 = 1 <;> simp [h]
theorem add_or {x y : Nat} (hx : x < 2 ^ 33) (hy : y < 2 ^ 33) (h : x &&& y = 0) (hs : x + y < 2 ^ 33) : x + y = x ||| y := by
  have e := BitVec.add_eq_or_of_and_eq_zero (BitVec.ofNat 33 x) (BitVec.ofNat 33 y) (by
    apply BitVec.eq_of_toNat_eq
    simp [BitVec.toNat_and, Nat.mod_eq_of_lt hx, Nat.mod_eq_of_lt hy, h])
  have e2 := congrArg BitVec.toNat e
  simpa [BitVec.toNat_add, BitVec.toNat_or, Nat.mod_eq_of_lt hx, Nat.mod_eq_of_lt hy, Nat.mod_eq_of_lt hs] using e2
theorem with_add {x s : Nat} (hx : x < 4294967296) (h2 : s ≤ 31) (h : x.testBit s = false) : x + 2 ^ s = x ||| 2 ^ s := by
  have hp := pow_lt s h2
  refine add_or (by omega) (by omega) ?_ (by omega)
  apply Nat.eq_of_testBit_eq
  intro i
  rw [Nat.testBit_and, Nat.testBit_two_pow]
  by_cases hi : s = i
  · subst hi; simp [h]
  · simp [hi]
theorem without_sub {x s : Nat} (hx : x < 4294967296) (h2 : s ≤ 31) (h : x.testBit s = true) : x - 2 ^ s = x &&& (4294967295 - 2 ^ s) := by
  have hp := pow_lt s h2
  have bits : ∀ i, (x &&& (4294967295 - 2 ^ s)).testBit i = (x.testBit i && !decide (s = i)) := fun i => by
    rw [Nat.testBit_and]
    by_cases hi : i < 32
    · rw [show 4294967295 - 2 ^ s = 2 ^ 32 - (2 ^ s + 1) by omega, Nat.testBit_two_pow_sub_succ (show 2 ^ s < 2 ^ 32 from hp), Nat.testBit_two_pow]
      simp [hi]
    · have : x.testBit i = false := Nat.testBit_lt_two_pow (Nat.lt_of_lt_of_le hx (Nat.le_trans (show 4294967296 ≤ 2 ^ 32 by decide) (Nat.pow_le_pow_right (show 0 < 2 by decide) (show 32 ≤ i by omega))))
      simp [this]
  have e : (x &&& (4294967295 - 2 ^ s)) ||| 2 ^ s = x := by
    apply Nat.eq_of_testBit_eq
    intro i
    rw [Nat.testBit_or, bits, Nat.testBit_two_pow]
    by_cases hi : s = i
    · subst hi; simp [h]
    · simp [hi]
  have hlt : (x &&& (4294967295 - 2 ^ s)) < 4294967296 := Nat.lt_of_le_of_lt Nat.and_le_left hx
  have e2 := with_add hlt h2 (by rw [bits]; simp)
  omega
theorem with_lt {x : Nat} (hx : x < 4294967296) (s : Int) : x ||| bitN s < 4294967296 := Nat.or_lt_two_pow (n := 32) hx (bitN_lt s)
theorem without_lt {x : Nat} (hx : x < 4294967296) (y : Nat) : x &&& y < 4294967296 := Nat.lt_of_le_of_lt Nat.and_le_left hx
theorem without_none {x : Nat} {s : Int} (hx : x < 4294967296) (h : hasB x s = false) : x &&& (4294967295 - bitN s) = x := by
  by_cases hs : 1 ≤ s ∧ s ≤ 31
  · obtain ⟨n, rfl⟩ : ∃ n : Nat, s = n := ⟨s.toNat, by omega⟩
    have hbit : x.testBit n = false := by unfold hasB at h; rw [isB_yes hs, Bool.true_and] at h; exact h
    rw [bitN_yes (by omega)]
    have hp := pow_lt n (by omega)
    apply Nat.eq_of_testBit_eq
    intro i
    rw [Nat.testBit_and]
    by_cases hi : i < 32
    · rw [show 4294967295 - 2 ^ n = 2 ^ 32 - (2 ^ n + 1) by omega, Nat.testBit_two_pow_sub_succ (show 2 ^ n < 2 ^ 32 from hp), Nat.testBit_two_pow]
      by_cases hk : n = i
      · subst hk; simp [hbit]
      · simp [hi, hk]
    · have : x.testBit i = false := Nat.testBit_lt_two_pow (Nat.lt_of_lt_of_le hx (Nat.le_trans (show 4294967296 ≤ 2 ^ 32 by decide) (Nat.pow_le_pow_right (show 0 < 2 by decide) (show 32 ≤ i by omega))))
      simp [this]
  · rw [bitN_no hs, Nat.sub_zero]
    apply Nat.eq_of_testBit_eq
    intro i
    rw [Nat.testBit_and]
    by_cases hi : i < 32
    · rw [show 4294967295 = 2 ^ 32 - (0 + 1) by decide, Nat.testBit_two_pow_sub_succ (by decide)]
      simp [hi]
    · have : x.testBit i = false := Nat.testBit_lt_two_pow (Nat.lt_of_lt_of_le hx (Nat.le_trans (show 4294967296 ≤ 2 ^ 32 by decide) (Nat.pow_le_pow_right (show 0 < 2 by decide) (show 32 ≤ i by omega))))
      simp [this]
theorem odd_nat {x q : Nat} (hx : x < 4294967296) : ((IntKind.u64.wrap ((x : Int) / (q : Int))).tmod 2 == 1) = (x / q % 2 == 1) := by
  have hd : x / q ≤ x := Nat.div_le_self x q
  have e : ((x : Int) / (q : Int)) = ((x / q : Nat) : Int) := by simp
  rw [e]
  clear e
  generalize x / q = d at hd ⊢
  rw [IntWalk.u64_in _ (by omega), Bool.eq_iff_iff]
  rw [Int.tmod_eq_emod_of_nonneg (by omega)]
  simp only [beq_iff_eq]
  omega
theorem ret_u64 {a b : Int} (h : a = b) : Ending.returned (.int .u64 a) = .returned (.int .u64 b) := by rw [h]

set_option maxHeartbeats 400000 in
theorem rvalue_any (s : Nat) (h : s ≤ 31) (w : World) :
    Calls Try.prog 65 #[.int .i64 s] w fun e w' => e = .returned (.int .u64 (2 ^ s : Nat)) ∧ w = w' := by
  have hp := pow_lt s h
  have HP := Lib.hid hp; clear hp
  go_enter Try.func65, Try.ntmps65
  go_wp2
  go_loop [3, 4] (fun v i => ∃ k : Nat, k ≤ s ∧ i = .int .i64 k ∧ v = .int .u64 (2 ^ k : Nat)) (fun _ i => s - (intOf i).toNat)
  case atStart => exact ⟨0, Nat.zero_le _, rfl, rfl⟩
  case round =>
    obtain ⟨k, hk, rfl, rfl⟩ := hrel
    by_cases hlt : k < s
    · have hpk := pow_lt k (by omega)
      have HPK := Lib.hid hpk
      generalize hq : 2 ^ k = q at hpk
      have HQ := Lib.hid hq; clear hq
      go_wp2
      go_round
      case rel => exact ⟨k + 1, by omega, by go_num, by rw [Nat.pow_succ, HQ.out]; go_num⟩
      case measure => simp [intOf]; omega
    · obtain rfl : k = s := by omega
      go_wp2
      go_ret
      exact ⟨rfl, rfl⟩
set_option maxHeartbeats 400000 in
theorem rhas_any (x : Nat) (s : Int) (hx : x < 4294967296) (w : World) :
    Calls Try.prog 58 #[.int .u32 x, .int .i64 s] w fun e w' => e = .returned (.bool (hasB x s)) ∧ w = w' := by
  by_cases h : 1 ≤ s ∧ s ≤ 31
  · obtain ⟨n, rfl⟩ : ∃ n : Nat, s = n := ⟨s.toNat, by omega⟩
    have hb := isB_yes h
    have hd := has_div x n (by omega) (by omega)
    have hp := pow_lt n (by omega)
    have hn : n ≤ 31 := by omega
    rw [hd]
    generalize hq : 2 ^ n = q at hp
    have hq0 : 0 < q := by rw [← hq]; exact Nat.two_pow_pos n
    have HQ := Lib.hid hq
    clear hd hq h
    go_enter Try.func58, Try.ntmps58
    go_wp2_with (first
      | (go_at_call 35; refine (ris_any _ _).mono ?_; rintro e w' ⟨rfl, rfl⟩)
      | (go_at_call 65; refine (rvalue_any _ (by omega) _).mono ?_; rw [HQ.out]; rintro e w' ⟨rfl, rfl⟩))
    go_ret
    exact ⟨ret_bool (odd_nat hx), rfl⟩
  · have hb := isB_no h
    rw [show hasB x s = false by unfold hasB; rw [hb]; rfl]
    clear h
    go_enter Try.func58, Try.ntmps58
    go_wp2_with (go_at_call 35; refine (ris_any _ _).mono ?_; rintro e w' ⟨rfl, rfl⟩)
    go_ret
    exact ⟨rfl, rfl⟩
set_option maxHeartbeats 400000 in
theorem rwith_any (x : Nat) (s : Int) (hx : x < 4294967296) (w : World) :
    Calls Try.prog 40 #[.int .u32 x, .int .i64 s] w fun e w' => e = .returned (.int .u32 (x ||| bitN s : Nat)) ∧ w = w' := by
  by_cases h : 1 ≤ s ∧ s ≤ 31
  · obtain ⟨n, rfl⟩ : ∃ n : Nat, s = n := ⟨s.toNat, by omega⟩
    have hb := isB_yes h
    have hn : n ≤ 31 := by omega
    rw [bitN_yes (by omega)]
    cases hh : hasB x (n : Int)
    · have hbit : x.testBit n = false := by unfold hasB at hh; rw [hb, Bool.true_and] at hh; exact hh
      have hp := pow_lt n hn
      have hw := with_add hx hn hbit
      have hlt : x ||| 2 ^ n < 4294967296 := Nat.or_lt_two_pow (n := 32) hx hp
      have HW := Lib.hid hw; have HX := Lib.hid hx; have HL := Lib.hid hlt
      generalize hq : 2 ^ n = q at hp
      have HQ := Lib.hid hq
      clear hw hbit h hq hlt
      go_enter Try.func40, Try.ntmps40
      go_wp2_with (first
        | (go_at_call 35; refine (ris_any _ _).mono ?_; rintro e w' ⟨rfl, rfl⟩)
        | (go_at_call 58; refine (rhas_any _ _ HX.out _).mono ?_; rintro e w' ⟨rfl, rfl⟩)
        | (go_at_call 65; refine (rvalue_any _ hn _).mono ?_; rw [HQ.out]; rintro e w' ⟨rfl, rfl⟩))
      go_ret
      exact ⟨ret_u32 (by have h1 := HW.out; have h2 := HL.out; rw [HQ.out] at h1 h2; rw [← h1] at h2 ⊢; omega), rfl⟩
    · have hbit : x.testBit n = true := by unfold hasB at hh; rw [hb, Bool.true_and] at hh; exact hh
      have HB := Lib.hid hbit; have HX := Lib.hid hx
      clear hbit h
      go_enter Try.func40, Try.ntmps40
      go_wp2_with (first
        | (go_at_call 35; refine (ris_any _ _).mono ?_; rintro e w' ⟨rfl, rfl⟩)
        | (go_at_call 58; refine (rhas_any _ _ HX.out _).mono ?_; rintro e w' ⟨rfl, rfl⟩))
      go_ret
      refine ⟨ret_u32 ?_, rfl⟩
      congr 1
      apply Nat.eq_of_testBit_eq
      intro i
      rw [Nat.testBit_or, Nat.testBit_two_pow]
      by_cases hi : n = i
      · subst hi; simp [HB.out]
      · simp [hi]
  · have hb := isB_no h
    rw [bitN_no h, Nat.or_zero]
    clear h
    go_enter Try.func40, Try.ntmps40
    go_wp2_with (go_at_call 35; refine (ris_any _ _).mono ?_; rintro e w' ⟨rfl, rfl⟩)
    go_ret
    exact ⟨rfl, rfl⟩
set_option maxHeartbeats 400000 in
theorem rwithout_any (x : Nat) (s : Int) (hx : x < 4294967296) (w : World) :
    Calls Try.prog 57 #[.int .u32 x, .int .i64 s] w fun e w' => e = .returned (.int .u32 (x &&& (4294967295 - bitN s) : Nat)) ∧ w = w' := by
  cases hh : hasB x s
  · have HH := Lib.hid hh; have HX := Lib.hid hx
    go_enter Try.func57, Try.ntmps57
    go_wp2_with (go_at_call 58; refine (rhas_any _ _ HX.out _).mono ?_; rintro e w' ⟨rfl, rfl⟩)
    go_ret
    exact ⟨ret_u32 (congrArg Int.ofNat (without_none HX.out HH.out).symm), rfl⟩
  · have h : 1 ≤ s ∧ s ≤ 31 := by
      unfold hasB at hh
      simp only [Bool.and_eq_true] at hh
      exact of_decide_eq_true hh.1
    obtain ⟨n, rfl⟩ : ∃ n : Nat, s = n := ⟨s.toNat, by omega⟩
    have hb := isB_yes h
    have hn : n ≤ 31 := by omega
    have hbit : x.testBit n = true := by unfold hasB at hh; rw [hb, Bool.true_and] at hh; exact hh
    have hw := without_sub hx hn hbit
    have hle : 2 ^ n ≤ x := Nat.ge_two_pow_of_testBit hbit
    rw [bitN_yes (by omega), ← hw]
    have HX := Lib.hid hx
    generalize hq : 2 ^ n = q at hle
    have HQ := Lib.hid hq
    clear hw hbit h hq hb
    go_enter Try.func57, Try.ntmps57
    go_wp2_with (first
      | (go_at_call 58; refine (rhas_any _ _ HX.out _).mono ?_; rintro e w' ⟨rfl, rfl⟩)
      | (go_at_call 65; refine (rvalue_any _ hn _).mono ?_; rw [HQ.out]; rintro e w' ⟨rfl, rfl⟩))
    go_ret
    exact ⟨ret_u32 (by omega), rfl⟩
set_option maxHeartbeats 800000 in
set_option maxRecDepth 100000 in
theorem rlist_any (x : Nat) (hx : x < 4294967296) (w : World) :
    Calls Try.prog 38 #[.int .u32 x] w fun e w' => ∃ v, e = .returned v ∧ w'.ownsRow w.heap.size 3 1 v (listN x 31).length ((listN x 31).map (Value.int .i64)) ∧ Below w.heap.size w w' := by
  obtain ⟨i0, hi, hz0, hz1, hz2⟩ := info_parts infoInt
  go_enter Try.func38, Try.ntmps38
  go_wp2
  go_loopw [3, 4] (fun v s wr => ∃ k : Nat, k ≤ 31 ∧ s = .int .i64 ((k : Int) + 1) ∧ wr.ownsRow w.heap.size 3 1 v (listN x k).length ((listN x k).map (Value.int .i64)) ∧ Below w.heap.size w wr) (fun _ s _ => 32 - (intOf s).toNat)
  case atStart => exact ⟨0, by omega, rfl, World.ownsRow_made w #[] 0 (Nat.le_refl _) (Nat.zero_le _) (by simp), (Below.refl _ _).alloc (Nat.le_refl _) _⟩
  case round =>
    obtain ⟨k, hk, rfl, hown, hbel⟩ := hrel
    have HO := Lib.hid hown; have HB := Lib.hid hbel
    have hsz := hbel.size
    have hln := listN_len x k
    clear hown hbel
    by_cases hlt : k < 31
    · cases hh : hasB x ((k : Int) + 1)
      · have HH := Lib.hid hh
        go_wp2_with (go_at_call 58; refine (rhas_any _ _ hx _).mono ?_; rintro e w' ⟨rfl, rfl⟩)
        go_roundw
        case rel => exact ⟨k + 1, by omega, by go_num, list_skip (w := w) HH.out HO.out, HB.out⟩
        case measure => simp [intOf]; omega
      · have HH := Lib.hid hh
        go_wp2_with (first
          | (go_at_call 58; refine (rhas_any _ _ hx _).mono ?_; rintro e w' ⟨rfl, rfl⟩)
          | (at_builtin; refine wpList_append_own _ rfl _ _ 60 rfl w.heap.size 3 i0 (.int .i64 0) 1 8 Try.underlying60 hi hz0 hz1 hz2 rfl (by decide) _ _ _ rfl (HO.out.alloc _) ⟨_, 0, none⟩ 1 1 [.int .i64 ((k : Int) + 1)] rfl rfl ?c1 ?c2 ?c3 ?c4 ?c5 ?_))
        case c1 =>
          intro j u hj
          match j, hj with
          | 0, hj => simp at hj; subst hj; simp [Addr.add]
        case c2 => intro u hu; simp at hu; subst hu; rfl
        case c3 => unfold maxLen; omega
        case c4 => omega
        case c5 => simp; omega
        intro v' w1 hown' hgrow _
        have H1 := Lib.hid hown'; have HG := Lib.hid hgrow
        clear hown' hgrow
        go_wp2
        go_roundw
        case rel => exact ⟨k + 1, by omega, by go_num, list_rel HH.out H1.out, (HB.out.alloc hsz _).grown HG.out (by simp; omega) (fun j hj => (HO.out.lt j hj).1)⟩
        case measure => simp [intOf]; omega
    · obtain rfl : k = 31 := by omega
      go_wp2
      go_ret
      exact ⟨_, rfl, HO.out, HB.out⟩
end Sig
end Go.Proofs.Ytlebglnlkkoakaa
