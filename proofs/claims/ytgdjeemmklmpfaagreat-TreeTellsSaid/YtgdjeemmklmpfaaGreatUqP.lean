/- What right parts say of their first one. -/
import Derived.Test.YtgdjeemmklmpfaaGreatPtY
namespace Go.Proofs.YtgdjeemmklmpfaaGreat
open Go.RowKit Go.Sort
namespace Uq
open Cls Pt

theorem len_nil {f : PL} (h : (f.len == 0) = true) : f = .nil := by
  cases f with
  | nil => rfl
  | cons => simp [PL.len] at h
theorem right_parts {p : Option (Int × Bool)} {k : Int} {q : Bool} {t o : ByteArray} {f r : PL} {at' d : Nat} (h : rightL p (.cons k q t o f r) at' d = true) :
    (at' = 2 → q = true) ∧ (p = some (1, q) → k ≠ 1) ∧ rightL (some (k, q)) r at' d = true ∧
      ((k = 1 ∧ o.data.toList = [] ∧ f = .nil ∧ textOK q t.data.toList at' = true) ∨ (k = 2 ∧ nameOK t.data.toList o.data.toList = true ∧ (o.data.toList = [] → f = .nil) ∧ rightL none f (wth q) (d + 1) = true)) := by
  simp only [rightL, Bool.and_eq_true] at h
  obtain ⟨⟨⟨h1, h2⟩, h3⟩, h4⟩ := h
  refine ⟨fun e => ?_, fun e hk => ?_, h4, ?_⟩
  · subst e
    cases q
    · simp at h1
    · rfl
  · subst e hk
    simp at h2
  · split at h3
    · rename_i hk
      simp only [Bool.and_eq_true, beq_iff_eq] at h3
      exact .inl ⟨by simpa using hk, h3.1.1, len_nil (by simpa using h3.1.2), h3.2⟩
    · split at h3
      · rename_i hk
        simp only [Bool.and_eq_true, Bool.or_eq_true] at h3
        refine .inr ⟨by simpa using hk, h3.1.1.2, fun e => ?_, h3.2⟩
        rcases h3.1.2 with h5 | h5
        · simp [e] at h5
        · exact len_nil h5
      · cases h3
end Uq
end Go.Proofs.YtgdjeemmklmpfaaGreat
