/- What the reference's Name, Digits, Param, Reserved answer, for every text. -/
import Derived.Test.YtgdjeemmklmpfaaClsC
namespace Go.Proofs.Ytgdjeemmklmpfaa
open Go.RowKit
namespace Cls

theorem byte_lt (x : UInt8) : x.toNat < 256 := UInt8.toNat_lt x

def digitsNE (l : List UInt8) : Bool := decide (0 < l.length) && digitsL l
theorem digits_snoc {l : List UInt8} {k : Nat} (h : digitsL (l.take k) = true) (hk : k < l.length) (hd : digitB (l.getD k 0).toNat = true) : digitsL (l.take (k + 1)) = true := by
  rw [List.take_succ_eq_append_getElem hk]
  unfold digitsL at h ⊢
  rw [List.all_append, h]
  simp only [List.getD, List.getElem?_eq_getElem hk, Option.getD_some] at hd
  simp [hd]
theorem digits_miss {l : List UInt8} {k : Nat} (hk : k < l.length) (hd : digitB (l.getD k 0).toNat = false) : digitsNE l = false := by
  simp only [List.getD, List.getElem?_eq_getElem hk, Option.getD_some] at hd
  have : digitsL l = false := by
    unfold digitsL
    rw [List.all_eq_false]
    exact ⟨l[k], List.getElem_mem hk, by simp [hd]⟩
  simp [digitsNE, this]

/-- A parameter, as the reference has it. -/
def rparamL (l : List UInt8) : Bool := (l.length == 1 && amongB (l.getD 0 0).toNat specials || nameL l) || (digitsNE l && decide (l.length ≤ 3) && !(l.getD 0 0).toNat == 48)
theorem rparam_one : ∀ n : Fin 256, rparamL [UInt8.ofNat n] = paramL [UInt8.ofNat n] := by decide +kernel
theorem rparam_eq (l : List UInt8) : rparamL l = paramL l := by
  by_cases h1 : l.length = 1
  · obtain ⟨x, rfl⟩ := List.length_eq_one_iff.1 h1
    have := rparam_one ⟨x.toNat, byte_lt x⟩
    simpa using this
  · have h2 : specialL l = false := by
      cases h : specialL l
      · rfl
      · simp [specialL] at h; rcases h with ((((h | h) | h) | h) | h) | h <;> (subst h; simp at h1)
    have h3 : (l == [48]) = false := by
      rw [beq_eq_false_iff_ne]; rintro rfl; simp at h1
    have h4 : (l.length == 1) = false := by simpa using h1
    simp only [rparamL, paramL, numberL, digitsNE, h2, h3, h4, Bool.false_and, Bool.false_or, Bool.or_false]
    cases nameL l
    · by_cases h5 : 0 < l.length <;> by_cases h6 : l.length ≤ 3 <;> cases digitsL l <;> cases ((l.getD 0 0).toNat == 48) <;> simp [h5, h6]
    · rfl


/-- What the row of words says so far. -/
theorem reserved_snoc {l : List UInt8} {k : Nat} (h : ((words.take k).any fun x => l == x) = false) (hk : k < 16) (hn : (l == words.getD k []) = false) : ((words.take (k + 1)).any fun x => l == x) = false := by
  have hk' : k < words.length := hk
  rw [List.take_succ_eq_append_getElem hk', List.any_append, h]
  simp only [List.getD, List.getElem?_eq_getElem hk', Option.getD_some] at hn
  simp only [List.any_cons, List.any_nil, hn]; rfl
theorem reserved_hit {l : List UInt8} {k : Nat} (hk : k < 16) (hn : (l == words.getD k []) = true) : reservedL l = true := by
  have hk' : k < words.length := hk
  simp only [List.getD, List.getElem?_eq_getElem hk', Option.getD_some] at hn
  unfold reservedL
  rw [List.any_eq_true]
  exact ⟨words[k], List.getElem_mem hk', hn⟩
def wordB (k : Nat) : ByteArray := ⟨(words.getD k []).toArray⟩
theorem wordB_list (k : Nat) : (wordB k).toList = words.getD k [] := by rw [wordB, Lib.toList_data]
end Cls
end Go.Proofs.Ytgdjeemmklmpfaa
