/- Pure: what number a text is (layer 14). -/
import Derived.Test.YtpfndjloolfmhaaDoorClsA
import Derived.Lib.Atoi
import Derived.Lib.ItoaLen
namespace Go.Proofs.YtpfndjloolfmhaaDoor
open Go.RowKit Cls
namespace Num14
open Lib
theorem decFrom_append (a : List UInt8) : ∀ (acc : Nat) (b : UInt8), decFrom acc (a ++ [b]) = match decFrom acc a, digitVal b with | some x, some d => some (x * 10 + d) | _, _ => none := by
  induction a with
  | nil => intro acc b; simp only [List.nil_append, decFrom]; cases digitVal b <;> rfl
  | cons c r ih =>
    intro acc b
    rw [List.cons_append, decFrom, decFrom]
    cases h : digitVal c
    · rfl
    · exact ih _ b
theorem digitVal_of (d : Nat) (h : d < 10) : digitVal (UInt8.ofNat (48 + d)) = some d := by
  have : ∀ d : Fin 10, digitVal (UInt8.ofNat (48 + d.val)) = some d.val := by decide +kernel
  exact this ⟨d, h⟩
theorem digitVal_at : ∀ n : Fin 256, digitVal (UInt8.ofNat n.val) = if digitB n.val then some (n.val - 48) else none := by decide +kernel
theorem digitVal_eq (x : UInt8) : digitVal x = if digitB x.toNat then some (x.toNat - 48) else none := by
  have := digitVal_at ⟨x.toNat, x.toNat_lt⟩
  simpa using this
theorem decFrom_digits (u : Nat) : decFrom 0 (decDigits u) = some u := by
  induction u using Nat.strongRecOn with
  | ind u ih =>
    rw [decDigits]
    by_cases h : u < 10
    · rw [dif_pos h]; simp only [decFrom, digitVal_of u h]; simp
    · rw [dif_neg h, decFrom_append, ih (u / 10) (by omega), digitVal_of _ (Nat.mod_lt _ (by omega))]
      simp only [Option.some.injEq]; omega
theorem decFrom_none (c : UInt8) (h : digitVal c = none) : ∀ (acc : Nat) (a b : List UInt8), decFrom acc (a ++ c :: b) = none
  | acc, [], b => by simp only [List.nil_append, decFrom, h]
  | acc, x :: a, b => by
    rw [List.cons_append, decFrom]
    cases digitVal x
    · rfl
    · exact decFrom_none c h _ a b
theorem decFrom_lt : ∀ (l : List UInt8) (acc x : Nat), decFrom acc l = some x → x < (acc + 1) * 10 ^ l.length
  | [], acc, x, h => by simp only [decFrom] at h; injection h with h; simp; omega
  | c :: r, acc, x, h => by
    rw [decFrom] at h
    cases hc : digitVal c with
    | none => rw [hc] at h; cases h
    | some d =>
      rw [hc] at h
      have hd : d < 10 := by
        rw [digitVal_eq] at hc
        split at hc
        · rename_i h1
          have := of_decide_eq_true h1
          injection hc with hc; omega
        · cases hc
      have := decFrom_lt r _ x h
      refine Nat.lt_of_lt_of_le this ?_
      rw [List.length_cons, Nat.pow_succ, Nat.mul_comm (10 ^ r.length) 10, ← Nat.mul_assoc]
      exact Nat.mul_le_mul_right _ (by omega)
/-- A text's number. -/
def rd (l : List UInt8) : Option Nat := if l.length = 0 ∨ 9 < l.length then none else decFrom 0 l
/-- A text's number, from 1 on, at most so much. -/
def cnt (l : List UInt8) (most : Int) : Option Int :=
  match rd l with
  | none => none
  | some n => if n < 1 then none else if most < 0 then some 0 else if most < n then some most else some (n : Int)
/-- An answer of the reference: -1, if there is none. -/
def mi : Option Nat → Int
  | none => -1
  | some n => n
def mj : Option Int → Int
  | none => -1
  | some n => n
theorem rd_lt {l : List UInt8} {n : Nat} (h : rd l = some n) : n < 1000000000 := by
  unfold rd at h
  split at h
  · cases h
  · rename_i h1
    have := decFrom_lt l 0 n h
    have h9 : l.length ≤ 9 := by omega
    have : 10 ^ l.length ≤ 10 ^ 9 := Nat.pow_le_pow_right (by decide) h9
    omega
/-- What the first ones are. -/
theorem dec_step {l : List UInt8} {k x : Nat} (hk : k < l.length) (hx : decFrom 0 (l.take k) = some x) (hd : digitB (l[k]).toNat = true) : decFrom 0 (l.take (k + 1)) = some (x * 10 + ((l[k]).toNat - 48)) := by
  rw [List.take_succ_eq_append_getElem hk, decFrom_append, hx, digitVal_eq, hd]
  rfl
theorem dec_stop {l : List UInt8} {k : Nat} (hk : k < l.length) (hd : digitB (l[k]).toNat = false) : decFrom 0 l = none := by
  have e : l = l.take k ++ l[k] :: l.drop (k + 1) := by
    rw [List.getElem_cons_drop, List.take_append_drop]
  rw [e]
  exact decFrom_none _ (by rw [digitVal_eq, hd]; rfl) 0 _ _
theorem dec_all (l : List UInt8) (h : digitsL l = true) : ∃ n, decFrom 0 l = some n := by
  have : ∀ (l : List UInt8) (acc : Nat), digitsL l = true → ∃ n, decFrom acc l = some n := by
    intro l
    induction l with
    | nil => intro acc _; exact ⟨acc, rfl⟩
    | cons c r ih =>
      intro acc h
      unfold digitsL at h ih
      rw [List.all_cons, Bool.and_eq_true] at h
      rw [decFrom, digitVal_eq, h.1]
      exact ih _ h.2
  exact this l 0 h
theorem dec_not (l : List UInt8) (h : digitsL l = false) : decFrom 0 l = none := by
  unfold digitsL at h
  rw [List.all_eq_false] at h
  obtain ⟨x, hx, h⟩ := h
  obtain ⟨k, hk, rfl⟩ := List.getElem_of_mem hx
  exact dec_stop hk (by simpa using h)
/-- A number as a status. -/
theorem status_in (n : Int) : 0 ≤ n % 256 ∧ n % 256 < 256 := ⟨Int.emod_nonneg _ (by decide), Int.emod_lt_of_pos _ (by decide)⟩
theorem status_go (st : Int) : (wrap64 (st.tmod 256 + 256)).tmod 256 = st % 256 := by
  have b : -255 ≤ st.tmod 256 ∧ st.tmod 256 ≤ 255 := by
    by_cases h : 0 ≤ st
    · rw [Int.tmod_eq_emod_of_nonneg h]; omega
    · obtain ⟨n, rfl⟩ : ∃ n : Int, st = -n := ⟨-st, by omega⟩
      rw [Int.neg_tmod, Int.tmod_eq_emod_of_nonneg (show 0 ≤ n by omega)]; omega
  have e : st.tmod 256 = st - 256 * (st.tdiv 256) := by have := Int.tmod_add_mul_tdiv st 256; omega
  rw [IntWalk.wrap64_in _ (by omega), Int.tmod_eq_emod_of_nonneg (by omega)]
  omega
/-- A number of at most nine digits comes back. -/
theorem rd_back (k : Nat) (h : k < 1000000000) : rd (decDigits k) = some k := by
  have hl : 1 ≤ (decDigits k).length ∧ (decDigits k).length ≤ 9 := by
    refine ⟨?_, ?_⟩
    · rw [decDigits]; split <;> simp
    · have hlen : ∀ (m k : Nat), k < 10 ^ (m + 1) → (decDigits k).length ≤ m + 1 := by
        intro m
        induction m with
        | zero => intro k hk; rw [decDigits, dif_pos (by simpa using hk)]; simp
        | succ m ih =>
          intro k hk
          rw [decDigits]
          split
          · simp
          · rw [List.length_append]
            have := ih (k / 10) (by rw [Nat.div_lt_iff_lt_mul (by decide)]; rw [Nat.pow_succ] at hk; exact hk)
            simp; omega
      exact hlen 8 k (by simpa using h)
  unfold rd
  rw [if_neg (by omega)]
  exact decFrom_digits k
theorem rd_minus (l : List UInt8) : rd (45 :: l) = none := by
  unfold rd
  split
  · rfl
  · rw [decFrom, digitVal_eq]
    rfl
end Num14
end Go.Proofs.YtpfndjloolfmhaaDoor
