/- One way to write it: right parts that have one text are the same. -/
import Derived.Test.YtpjdpmlneefafaaDoorWrB
namespace Go.Proofs.YtpjdpmlneefafaaDoor
open Go.RowKit Go.Sort
namespace Uq
open Cls Pt Bd

theorem span {p : UInt8 → Bool} : ∀ {t1 t2 z1 z2 : List UInt8}, t1.all p = true → t2.all p = true → (∀ c z, z1 = c :: z → p c = false) → (∀ c z, z2 = c :: z → p c = false) → t1 ++ z1 = t2 ++ z2 → t1 = t2 ∧ z1 = z2
  | [], [], _, _, _, _, _, _, h => ⟨rfl, h⟩
  | [], d :: t2, z1, _, _, h2, h3, _, h => by
    have := h3 d _ h
    simp [this] at h2
  | c :: t1, [], _, z2, h1, _, _, h4, h => by
    have := h4 c _ h.symm
    simp [this] at h1
  | c :: t1, d :: t2, z1, z2, h1, h2, h3, h4, h => by
    simp only [List.cons_append, List.cons.injEq] at h
    simp only [List.all_cons, Bool.and_eq_true] at h1 h2
    obtain ⟨r1, r2⟩ := span h1.2 h2.2 h3 h4 h.2
    exact ⟨by rw [h.1, r1], r2⟩

theorem marks_cons (c : UInt8) (l : List UInt8) : marksL (c :: l) = (if c == 39 then [39, 92, 39, 39] else [c]) ++ marksL l := rfl
theorem marks_unique : ∀ {t1 t2 z1 z2 : List UInt8}, (∀ z, z1 ≠ 92 :: z) → (∀ z, z2 ≠ 92 :: z) → marksL t1 ++ 39 :: z1 = marksL t2 ++ 39 :: z2 → t1 = t2 ∧ z1 = z2
  | [], [], _, _, _, _, h => by simpa [marksL] using h
  | [], d :: t2, z1, z2, h1, _, h => by
    rw [marks_cons] at h
    split at h
    · simp [marksL] at h; exact absurd h (h1 _)
    · rename_i hd
      simp [marksL] at h
      exact absurd h.1.symm (by simpa using hd)
  | c :: t1, [], z1, z2, _, h2, h => by
    rw [marks_cons] at h
    split at h
    · simp [marksL] at h; exact absurd h.symm (h2 _)
    · rename_i hd
      simp [marksL] at h
      exact absurd h.1 (by simpa using hd)
  | c :: t1, d :: t2, z1, z2, h1, h2, h => by
    rw [marks_cons, marks_cons] at h
    split at h <;> split at h
    · rename_i hc hd
      simp only [List.cons_append, List.nil_append, List.cons.injEq, true_and] at h
      obtain ⟨r1, r2⟩ := marks_unique h1 h2 h
      exact ⟨by rw [beq_iff_eq.1 hc, beq_iff_eq.1 hd, r1], r2⟩
    · rename_i hc hd
      simp only [List.cons_append, List.nil_append, List.cons.injEq] at h
      exact absurd h.1.symm (by simpa using hd)
    · rename_i hc hd
      simp only [List.cons_append, List.nil_append, List.cons.injEq] at h
      exact absurd h.1 (by simpa using hc)
    · simp only [List.cons_append, List.nil_append, List.cons.injEq] at h
      obtain ⟨r1, r2⟩ := marks_unique h1 h2 h.2
      exact ⟨by rw [h.1, r1], r2⟩

theorem esc_cons (c : UInt8) (l : List UInt8) : escL (c :: l) = (if escB c.toNat then [92, c] else [c]) ++ escL l := rfl
theorem esc92 : escB (92 : UInt8).toNat = true := by decide
theorem esc_unique : ∀ {t1 t2 z1 z2 : List UInt8}, (∃ c z, z1 = c :: z ∧ escB c.toNat = true ∧ c ≠ 92) → (∃ c z, z2 = c :: z ∧ escB c.toNat = true ∧ c ≠ 92) → escL t1 ++ z1 = escL t2 ++ z2 → t1 = t2 ∧ z1 = z2
  | [], [], _, _, _, _, h => by simpa [escL] using h
  | [], d :: t2, z1, z2, ⟨c, z, hz, he, hn⟩, _, h => by
    rw [esc_cons, hz] at h
    split at h
    · simp [escL] at h; exact absurd h.1 hn
    · rename_i hd
      simp [escL] at h
      rw [← h.1, he] at hd
      exact absurd rfl hd
  | d :: t1, [], z1, z2, _, ⟨c, z, hz, he, hn⟩, h => by
    rw [esc_cons, hz] at h
    split at h
    · simp [escL] at h; exact absurd h.1.symm hn
    · rename_i hd
      simp [escL] at h
      rw [h.1, he] at hd
      exact absurd rfl hd
  | c :: t1, d :: t2, z1, z2, h1, h2, h => by
    rw [esc_cons, esc_cons] at h
    split at h <;> split at h
    · simp only [List.cons_append, List.nil_append, List.cons.injEq, true_and] at h
      obtain ⟨r1, r2⟩ := esc_unique h1 h2 h.2
      exact ⟨by rw [h.1, r1], r2⟩
    · rename_i hc hd
      simp only [List.cons_append, List.nil_append, List.cons.injEq] at h
      rw [← h.1] at hd
      exact absurd esc92 hd
    · rename_i hc hd
      simp only [List.cons_append, List.nil_append, List.cons.injEq] at h
      rw [h.1] at hc
      exact absurd esc92 hc
    · simp only [List.cons_append, List.nil_append, List.cons.injEq] at h
      obtain ⟨r1, r2⟩ := esc_unique h1 h2 h.2
      exact ⟨by rw [h.1, r1], r2⟩

def wordC (c : UInt8) : Bool := letterB c.toNat || digitB c.toNat
theorem param_shape {t : List UInt8} (h : paramL t = true) : (t ≠ [] ∧ t.all wordC = true) ∨ ∃ c, t = [c] ∧ wordC c = false := by
  simp only [paramL, Bool.or_eq_true] at h
  rcases h with (h | h) | h
  · left
    simp only [nameL, decide_eq_true_eq] at h
    refine ⟨by rintro rfl; simp at h, ?_⟩
    rw [List.all_eq_true]
    intro x hx
    obtain ⟨j, hj, rfl⟩ := List.getElem_of_mem hx
    have := h.2 j hj
    simp only [List.getD, List.getElem?_eq_getElem hj, Option.getD_some, okB, Bool.or_eq_true, Bool.and_eq_true] at this
    simp only [wordC, Bool.or_eq_true]
    rcases this with h | h
    · exact .inl h
    · exact .inr h.2
  · right
    simp only [specialL, Bool.or_eq_true, beq_iff_eq] at h
    rcases h with ((((h | h) | h) | h) | h) | h <;> subst h
    all_goals exact ⟨_, rfl, by decide⟩
  · left
    simp only [numberL, Bool.and_eq_true, decide_eq_true_eq] at h
    refine ⟨by rintro rfl; simp at h, ?_⟩
    have h2 := h.2
    simp only [digitsL, List.all_eq_true] at h2 ⊢
    intro x hx
    simp [wordC, h2 x hx]

/-- A name ends where a byte follows that stands in none. -/
theorem name_unique {t1 t2 z1 z2 : List UInt8} (h1 : paramL t1 = true) (h2 : paramL t2 = true) (n1 : ∃ c z, z1 = c :: z ∧ wordC c = false) (n2 : ∃ c z, z2 = c :: z ∧ wordC c = false) (h : t1 ++ z1 = t2 ++ z2) : t1 = t2 ∧ z1 = z2 := by
  rcases param_shape h1 with ⟨e1, a1⟩ | ⟨c, rfl, hc⟩ <;> rcases param_shape h2 with ⟨e2, a2⟩ | ⟨d, rfl, hd⟩
  · obtain ⟨c1, y1, rfl, w1⟩ := n1
    obtain ⟨c2, y2, rfl, w2⟩ := n2
    exact span a1 a2 (fun c z e => by cases e; exact w1) (fun c z e => by cases e; exact w2) h
  · cases t1 with
    | nil => exact absurd rfl e1
    | cons x t1 =>
      simp only [List.cons_append, List.nil_append, List.cons.injEq] at h
      rw [← h.1] at hd
      simp [hd] at a1
  · cases t2 with
    | nil => exact absurd rfl e2
    | cons x t2 =>
      simp only [List.cons_append, List.nil_append, List.cons.injEq] at h
      rw [h.1] at hc
      simp [hc] at a2
  · simp only [List.cons_append, List.nil_append, List.cons.injEq] at h
    exact ⟨by rw [h.1], h.2⟩

theorem name_param {t : List UInt8} (h : nameL t = true) : paramL t = true := by simp [paramL, h]
/-- What an operator may be. -/
def opL : List (List UInt8) := [[], [45], [58, 45], [61], [58, 61], [43], [58, 43], [63], [58, 63]]
theorem nameOK_of {t o : List UInt8} (h : nameOK t o = true) : paramL t = true ∧ o ∈ opL := by
  unfold nameOK at h
  split at h
  · rename_i hs
    refine ⟨name_param h, ?_⟩
    simp only [isSet, Bool.or_eq_true, beq_iff_eq] at hs
    rcases hs with rfl | rfl <;> simp [opL]
  · split at h
    · rename_i hs
      refine ⟨h, ?_⟩
      simp only [isOp, Bool.or_eq_true, beq_iff_eq] at hs
      rcases hs with (((((rfl | rfl) | rfl) | rfl) | rfl) | rfl) | rfl <;> simp [opL]
    · cases h
end Uq
end Go.Proofs.YtpjdpmlneefafaaDoor
