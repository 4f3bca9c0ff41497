/- Pure: decimal numerals there and back; what a number of three digits at most is. -/
import Derived.Lib.Atoi
import Derived.Lib.ItoaMem
import Derived.Lib.ItoaLen
import Derived.Lib.Join
import Derived.Test.YtpphoaidnpkgpaaGreatDoorClsA
import Derived.Test.YtpphoaidnpkgpaaGreatDoorVrA
namespace Go.Proofs.YtpphoaidnpkgpaaGreatDoor
open Go.RowKit
namespace Vr
open Lib Cls

theorem decFrom_append (a : List UInt8) : ∀ (acc : Nat) (b : UInt8), decFrom acc (a ++ [b]) = match decFrom acc a, digitVal b with | some x, some d => some (x * 10 + d) | _, _ => none := by
  induction a with
  | nil => intro acc b; simp only [List.nil_append, decFrom]; cases digitVal b <;> rfl
  | cons c r ih =>
    intro acc b
    rw [List.cons_append, decFrom, decFrom]
    cases h : digitVal c
    · rfl
    · exact ih _ b
theorem digitVal_of (d : Nat) (h : d < 10) : digitVal (UInt8.ofNat (48 + d)) = some d := by
  have : ∀ d : Fin 10, digitVal (UInt8.ofNat (48 + d.val)) = some d.val := by decide +kernel
  exact this ⟨d, h⟩
theorem decFrom_digits (u : Nat) : decFrom 0 (decDigits u) = some u := by
  induction u using Nat.strongRecOn with
  | ind u ih =>
    rw [decDigits]
    by_cases h : u < 10
    · rw [dif_pos h]; simp only [decFrom, digitVal_of u h]; simp
    · rw [dif_neg h, decFrom_append, ih (u / 10) (by omega), digitVal_of _ (Nat.mod_lt _ (by omega))]
      simp only [Option.some.injEq]; omega
theorem digits_inj {a b : Nat} (h : decDigits a = decDigits b) : a = b := by
  have := decFrom_digits a; rw [h, decFrom_digits b] at this; injection this with this; exact this.symm

theorem digit_range {x : UInt8} (h : digitB x.toNat = true) : ∃ d, d < 10 ∧ x = UInt8.ofNat (48 + d) ∧ x.toNat = 48 + d := by
  have h' := of_decide_eq_true h
  refine ⟨x.toNat - 48, by omega, ?_, by omega⟩
  apply UInt8.toNat_inj.1
  rw [UInt8.toNat_ofNat_of_lt' (by show _ < 256; omega)]; omega

/-- What number a text is that is one from 1 on. -/
theorem number_of {l : List UInt8} (h : numberL l = true) (h0 : l ≠ [48]) : ∃ n, 1 ≤ n ∧ n ≤ 999 ∧ l = decDigits n := by
  simp only [numberL, Bool.and_eq_true, decide_eq_true_eq, digitsL, List.all_eq_true, Bool.or_eq_true, Bool.not_eq_true', beq_iff_eq, beq_eq_false_iff_ne] at h
  obtain ⟨⟨⟨h1, h2⟩, h3⟩, h4⟩ := h
  have h3 := h3.resolve_right h0
  match l, h1, h2, h3, h4 with
  | [a], _, _, h3, h4 =>
    obtain ⟨d, hd, rfl, e⟩ := digit_range (h4 a (by simp))
    have : d ≠ 0 := by rintro rfl; exact h3 (by simp)
    exact ⟨d, by omega, by omega, by rw [decDigits, dif_pos hd]⟩
  | [a, b], _, _, h3, h4 =>
    obtain ⟨d, hd, rfl, e⟩ := digit_range (h4 a (by simp))
    obtain ⟨d2, hd2, rfl, e2⟩ := digit_range (h4 b (by simp))
    have : d ≠ 0 := by rintro rfl; exact h3 (by simp)
    refine ⟨d * 10 + d2, by omega, by omega, ?_⟩
    rw [decDigits, dif_neg (by omega), show (d * 10 + d2) / 10 = d by omega, show (d * 10 + d2) % 10 = d2 by omega, decDigits, dif_pos hd]; rfl
  | [a, b, c], _, _, h3, h4 =>
    obtain ⟨d, hd, rfl, e⟩ := digit_range (h4 a (by simp))
    obtain ⟨d2, hd2, rfl, e2⟩ := digit_range (h4 b (by simp))
    obtain ⟨d3, hd3, rfl, e3⟩ := digit_range (h4 c (by simp))
    have : d ≠ 0 := by rintro rfl; exact h3 (by simp)
    refine ⟨d * 100 + d2 * 10 + d3, by omega, by omega, ?_⟩
    rw [decDigits, dif_neg (by omega), show (d * 100 + d2 * 10 + d3) / 10 = d * 10 + d2 by omega, show (d * 100 + d2 * 10 + d3) % 10 = d3 by omega, decDigits, dif_neg (by omega), show (d * 10 + d2) / 10 = d by omega, show (d * 10 + d2) % 10 = d2 by omega, decDigits, dif_pos hd]; rfl

/-- A scope. -/
structure St where
  vs : Vs
  args : List ByteArray
  st : Int
  la : Int

/-- The argument of a number. -/
def argV (args : List ByteArray) (l : List UInt8) : Option ByteArray :=
  match atoi l with
  | some n => if 1 ≤ n ∧ n ≤ args.length then args[n.toNat - 1]? else none
  | none => none
theorem atoi_digits (n : Nat) : atoi (decDigits n) = some (n : Int) := by
  have hne : decDigits n ≠ [] := by
    intro e; have := decDigits_length n; rw [e] at this; have := nDigits_pos n; simp at *; omega
  have hd := decFrom_digits n
  match hl : decDigits n, hne with
  | b :: r, _ =>
    rw [hl] at hd
    have hb : ∃ d, digitVal b = some d := by
      rw [decFrom] at hd
      cases h : digitVal b
      · rw [h] at hd; cases hd
      · exact ⟨_, rfl⟩
    obtain ⟨d, hb⟩ := hb
    have := digitVal_eq hb
    have h1 : (b == 45) = false := by rw [beq_eq_false_iff_ne]; rintro rfl; simp at this
    have h2 : (b == 43) = false := by rw [beq_eq_false_iff_ne]; rintro rfl; simp at this
    simp only [atoi, h1, h2, Bool.false_eq_true, if_false, decNat, List.isEmpty_cons, hd, Option.map_some]
theorem argV_digits (args : List ByteArray) (n : Nat) (h1 : 1 ≤ n) : argV args (decDigits n) = args[n - 1]? := by
  rw [argV, atoi_digits]
  simp only
  by_cases h : n ≤ args.length
  · rw [if_pos ⟨by omega, by omega⟩]; simp
  · rw [if_neg (by omega), List.getElem?_eq_none (by omega)]

/-- A text of these bytes. -/
def tx (l : List UInt8) : ByteArray := ⟨l.toArray⟩
theorem bs_tx (l : List UInt8) : bs (tx l) = l := by simp [bs, tx]
/-- What a parameter means. -/
def val (s : St) (n : ByteArray) : Option ByteArray :=
  if nameL (bs n) then getV s.vs n
  else if paramL (bs n) = false then none
  else if bs n = [48] then some (tx [115, 104])
  else if bs n = [35] then some (tx (itoa s.args.length))
  else if bs n = [63] then some (tx (itoa s.st))
  else if bs n = [36] then some (tx [49])
  else if bs n = [33] then if s.la = 0 then none else some (tx (itoa s.la))
  else if bs n = [64] ∨ bs n = [42] then if s.args = [] then none else some (tx (Lib.join (s.args.map bs) [32]))
  else argV s.args (bs n)
/-- .. as it is answered. -/
abbrev out (o : Option ByteArray) : Value := .tuple #[.string (o.getD (tx [])), .bool o.isSome]
end Vr
end Go.Proofs.YtpphoaidnpkgpaaGreatDoor
