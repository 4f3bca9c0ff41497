/- The reference's Digits. -/
import Derived.Test.YtpfndjloolfmhaaDoorNmR
import Derived.Lib.SlBytesRow
namespace Go.Proofs.YtpfndjloolfmhaaDoor
open Go.RowKit Cls
namespace Num14

def meas (n : Int) : Nat := 2 * n.natAbs + (if n < 0 then 1 else 0)
theorem itoa_small_neg (n : Int) (h : n < 0) (h2 : -10 < n) : Lib.itoa n = 45 :: Lib.itoa (-n) := by
  rw [Lib.itoa, if_pos h, Lib.itoa, if_neg (by omega)]
  congr 2; omega
theorem neg_parts (n : Int) (h : n < 0) : ∃ m : Nat, n = -(m : Int) ∧ n.tdiv 10 = -((m / 10 : Nat) : Int) ∧ -(n.tmod 10) = ((m % 10 : Nat) : Int) := by
  obtain ⟨m, rfl⟩ : ∃ m : Nat, n = -(m : Int) := ⟨n.natAbs, by omega⟩
  exact ⟨m, rfl, by rw [Int.neg_tdiv]; rfl, by rw [Int.neg_tmod, Int.neg_neg]; rfl⟩
theorem itoa_neg_step (n : Int) (h : n ≤ -10) : Lib.itoa n = Lib.itoa (n.tdiv 10) ++ Lib.itoa (-(n.tmod 10)) := by
  obtain ⟨m, rfl⟩ : ∃ m : Nat, n = -(m : Int) := ⟨n.natAbs, by omega⟩
  have hm : 10 ≤ m := by omega
  have e1 : (-(m : Int)).tdiv 10 = -((m / 10 : Nat) : Int) := by rw [Int.neg_tdiv]; rfl
  have e2 : -((-(m : Int)).tmod 10) = ((m % 10 : Nat) : Int) := by rw [Int.neg_tmod, Int.neg_neg]; rfl
  rw [e1, e2, Lib.itoa_neg m (by omega), Lib.itoa_neg _ (by omega), Lib.itoa_nonneg]
  rw [Lib.decDigits, dif_neg (by omega), List.cons_append]
  congr 2
  rw [Lib.decDigits, dif_pos (Nat.mod_lt _ (by omega))]
theorem itoa_step (n : Int) (h : 10 ≤ n) : Lib.itoa n = Lib.itoa (n / 10) ++ Lib.itoa (n % 10) := by
  obtain ⟨m, rfl⟩ : ∃ m : Nat, n = (m : Int) := ⟨n.natAbs, by omega⟩
  have hm : 10 ≤ m := by omega
  have e1 : (m : Int) / 10 = ((m / 10 : Nat) : Int) := rfl
  have e2 : ((m : Int) % 10) = ((m % 10 : Nat) : Int) := rfl
  rw [e1, e2, Lib.itoa_nonneg, Lib.itoa_nonneg, Lib.itoa_nonneg]
  rw [Lib.decDigits, dif_neg (by omega)]
  congr 1
  rw [Lib.decDigits, dif_pos (Nat.mod_lt _ (by omega))]
theorem itoa_one (n : Int) (h : 0 ≤ n) (h2 : n < 10) : Lib.itoa n = [UInt8.ofNat (48 + n.toNat)] := by
  rw [Lib.itoa, if_neg (by omega), Lib.decDigits, dif_pos (by omega)]

theorem itoa_size (n : Int) (h0 : -9223372036854775808 ≤ n) (h1 : n ≤ 9223372036854775807) : (tx (Lib.itoa n)).size ≤ 21 := by
  have := Lib.itoa_length_le n h0 h1
  simpa [tx, ByteArray.size] using this
theorem tx_cat (a b : List UInt8) : tx a ++ tx b = tx (a ++ b) := by
  apply bs_inj; simp [bs, tx]
set_option maxRecDepth 4000 in
set_option maxHeartbeats 400000 in
theorem rdig_neg (n : Int) (w : World) (hn : n ≤ -10) (h0 : -9223372036854775808 ≤ n) (x y : List UInt8) (hx : (tx x).size ≤ 21) (hy : (tx y).size ≤ 21) (c1 : ∀ w : World, Calls Tryd.prog 13 #[.int .i64 (n.tdiv 10)] w fun e w' => e = .returned (.string (tx (x))) ∧ Below w.heap.size w w') (c2 : ∀ w : World, Calls Tryd.prog 13 #[.int .i64 (-(n.tmod 10))] w fun e w' => e = .returned (.string (tx (y))) ∧ Below w.heap.size w w') :
    Calls Tryd.prog 13 #[.int .i64 (n)] w fun e w' => e = .returned (.string (tx (x ++ y))) ∧ Below w.heap.size w w' := by
  have hw : wrap64 (-(n.tmod 10)) = -(n.tmod 10) := by
    obtain ⟨m, _, _, e⟩ := neg_parts n (by omega)
    rw [e]; have : m % 10 < 10 := Nat.mod_lt _ (by omega)
    unfold wrap64; omega
  rw [← hw] at c2
  clear hw
  have C1 := Lib.hid c1; have C2 := Lib.hid c2
  have k1 : n < 0 := by omega
  have k2 : ¬ -10 < n := by omega
  clear c1 c2
  have tok1 : True := trivial
  go_enter Tryd.func13, Tryd.ntmps13
  go_wp2_with (first
    | (go_at_call 13; have _t := tok1; refine (C1.out _).mono ?_; rintro e w1 ⟨rfl, hb⟩; clear tok1)
    | (go_at_call 13; refine (C2.out _).mono ?_; rintro e w2 ⟨rfl, hb2⟩))
  go_ret
  refine ⟨?_, hb.trans (hb2.mono hb.size)⟩
  exact congrArg (fun x => Ending.returned (.string x)) (tx_cat _ _)
set_option maxRecDepth 4000 in
set_option maxHeartbeats 400000 in
theorem rdig_pos (n : Int) (w : World) (hn : 10 ≤ n) (h0 : n ≤ 9223372036854775807) (x y : List UInt8) (hx : (tx x).size ≤ 21) (hy : (tx y).size ≤ 21) (c1 : ∀ w : World, Calls Tryd.prog 13 #[.int .i64 (n / 10)] w fun e w' => e = .returned (.string (tx (x))) ∧ Below w.heap.size w w') (c2 : ∀ w : World, Calls Tryd.prog 13 #[.int .i64 (n % 10)] w fun e w' => e = .returned (.string (tx (y))) ∧ Below w.heap.size w w') :
    Calls Tryd.prog 13 #[.int .i64 (n)] w fun e w' => e = .returned (.string (tx (x ++ y))) ∧ Below w.heap.size w w' := by
  have C1 := Lib.hid c1; have C2 := Lib.hid c2
  have k1 : ¬ n < 0 := by omega
  have k2 : ¬ n < 10 := by omega
  clear c1 c2
  have tok1 : True := trivial
  go_enter Tryd.func13, Tryd.ntmps13
  go_wp2_with (first
    | (go_at_call 13; have _t := tok1; refine (C1.out _).mono ?_; rintro e w1 ⟨rfl, hb⟩; clear tok1)
    | (go_at_call 13; refine (C2.out _).mono ?_; rintro e w2 ⟨rfl, hb2⟩))
  go_ret
  refine ⟨?_, hb.trans (hb2.mono hb.size)⟩
  exact congrArg (fun x => Ending.returned (.string x)) (tx_cat _ _)
set_option maxRecDepth 4000 in
set_option maxHeartbeats 400000 in
theorem rdig_sign (n : Int) (w : World) (hn : n < 0) (hn2 : -10 < n) (x : List UInt8) (hx : (tx x).size ≤ 21) (c1 : ∀ w : World, Calls Tryd.prog 13 #[.int .i64 (-n)] w fun e w' => e = .returned (.string (tx (x))) ∧ Below w.heap.size w w') :
    Calls Tryd.prog 13 #[.int .i64 (n)] w fun e w' => e = .returned (.string (tx (45 :: x))) ∧ Below w.heap.size w w' := by
  have C1 := Lib.hid c1
  clear c1
  go_enter Tryd.func13, Tryd.ntmps13
  go_wp2_with (go_at_call 13; refine (C1.out _).mono ?_; rintro e w1 ⟨rfl, hb⟩)
  go_ret
  exact ⟨congrArg (fun x => Ending.returned (.string x)) (tx_cat [45] _), hb⟩
/-- The cells of the text's bytes, made by the call itself. -/
theorem digit_bytes (n : Nat) (h : n < 10) (w : World) : Lib.Bytes (w.alloc (.cells #[.int .u8 (48 + n)] 5)) w.heap.size 0 (tx [UInt8.ofNat (48 + n)]) := by
  intro i hi
  have hi0 : i = 0 := by have : i < 1 := hi; omega
  subst hi0
  rw [World.cell?_alloc_at _ _ _ _ rfl]
  have e : (UInt8.ofNat (48 + n)).toNat = 48 + n := by rw [UInt8.toNat_ofNat']; omega
  show some (Value.int .u8 (48 + n)) = some (Value.int .u8 ((UInt8.ofNat (48 + n)).toNat : Int))
  rw [e]; rfl
set_option maxRecDepth 4000 in
set_option maxHeartbeats 400000 in
theorem rdig_one (n : Nat) (w : World) (hn : n < 10) : Calls Tryd.prog 13 #[.int .i64 n] w fun e w' => e = .returned (.string (tx [UInt8.ofNat (48 + n)])) ∧ Below w.heap.size w w' := by
  have k1 : ¬ (n : Int) < 0 := by omega
  have k2 : (n : Int) < 10 := by omega
  have hconv := Lib.run_convert_whole (P := Tryd.prog) _ 34 5 9 Tryd.underlying34 Tryd.underlying5 Tryd.underlying9 w.heap.size 0 _ (digit_bytes n hn w) 1
  rw [show (tx [UInt8.ofNat (48 + n)]).size = 1 from rfl] at hconv
  go_enter Tryd.func13, Tryd.ntmps13
  go_wp2_with fail
  go_ret
  exact ⟨rfl, (Below.refl _ _).alloc (Nat.le_refl _) _⟩
theorem rdig_at : ∀ (m : Nat) (n : Int) (w : World), meas n < m → -9223372036854775808 ≤ n → n ≤ 9223372036854775807 →
    Calls Tryd.prog 13 #[.int .i64 (n)] w fun e w' => e = .returned (.string (tx (Lib.itoa n))) ∧ Below w.heap.size w w' := by
  intro m
  induction m with
  | zero => intro n w hm; exact absurd hm (by omega)
  | succ m ih =>
    intro n w hm h0 h1
    by_cases hn : n < 0
    · by_cases hn2 : -10 < n
      · rw [itoa_small_neg n hn hn2]
        exact rdig_sign n w hn hn2 _ (itoa_size (-n) (by omega) (by omega)) fun w' => ih (-n) w' (by unfold meas at hm ⊢; split at hm <;> split <;> omega) (by omega) (by omega)
      · rw [itoa_neg_step n (by omega)]
        obtain ⟨k, hk, hd, hr⟩ := neg_parts n hn
        exact rdig_neg n w (by omega) h0 _ _ (itoa_size _ (by omega) (by omega)) (itoa_size _ (by omega) (by omega))
          (fun w' => ih _ w' (by unfold meas at hm ⊢; split at hm <;> split <;> omega) (by omega) (by omega)) (fun w' => ih _ w' (by unfold meas at hm ⊢; split at hm <;> split <;> omega) (by omega) (by omega))
    · by_cases hn2 : n < 10
      · rw [itoa_one n (by omega) hn2]
        have := rdig_one n.toNat w (by omega)
        rwa [Int.toNat_of_nonneg (by omega)] at this
      · rw [itoa_step n (by omega)]
        exact rdig_pos n w (by omega) h1 _ _ (itoa_size _ (by omega) (by omega)) (itoa_size _ (by omega) (by omega))
          (fun w' => ih _ w' (by unfold meas at hm ⊢; split at hm <;> split <;> omega) (by omega) (by omega)) (fun w' => ih _ w' (by unfold meas at hm ⊢; split at hm <;> split <;> omega) (by omega) (by omega))
theorem rdig_any (n : Int) (w : World) (h0 : -9223372036854775808 ≤ n) (h1 : n ≤ 9223372036854775807) :
    Calls Tryd.prog 13 #[.int .i64 (n)] w fun e w' => e = .returned (.string (tx (Lib.itoa n))) ∧ Below w.heap.size w w' := rdig_at _ n w (Nat.lt_succ_self _) h0 h1
end Num14
end Go.Proofs.YtpfndjloolfmhaaDoor
