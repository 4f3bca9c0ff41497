/- One way to write it: right parts that have one text are the same. -/
/- One way to write it: right parts that have one text are the same; the same parts have one text. -/
import Derived.Test.YtgpnleenejjnmaaGreatDoorWrB
namespace Go.Proofs.YtgpnleenejjnmaaGreatDoor
open Go.RowKit Go.Sort
namespace Uq
open Cls Pt Bd

theorem span {p : UInt8 → Bool} : ∀ {t1 t2 z1 z2 : List UInt8}, t1.all p = true → t2.all p = true → (∀ c z, z1 = c :: z → p c = false) → (∀ c z, z2 = c :: z → p c = false) → t1 ++ z1 = t2 ++ z2 → t1 = t2 ∧ z1 = z2
  | [], [], _, _, _, _, _, _, h => ⟨rfl, h⟩
  | [], d :: t2, z1, _, _, h2, h3, _, h => by
    have := h3 d _ h
    simp [this] at h2
  | c :: t1, [], _, z2, h1, _, _, h4, h => by
    have := h4 c _ h.symm
    simp [this] at h1
  | c :: t1, d :: t2, z1, z2, h1, h2, h3, h4, h => by
    simp only [List.cons_append, List.cons.injEq] at h
    simp only [List.all_cons, Bool.and_eq_true] at h1 h2
    obtain ⟨r1, r2⟩ := span h1.2 h2.2 h3 h4 h.2
    exact ⟨by rw [h.1, r1], r2⟩

theorem marks_cons (c : UInt8) (l : List UInt8) : marksL (c :: l) = (if c == 39 then [39, 92, 39, 39] else [c]) ++ marksL l := rfl
theorem marks_unique : ∀ {t1 t2 z1 z2 : List UInt8}, (∀ z, z1 ≠ 92 :: z) → (∀ z, z2 ≠ 92 :: z) → marksL t1 ++ 39 :: z1 = marksL t2 ++ 39 :: z2 → t1 = t2 ∧ z1 = z2
  | [], [], _, _, _, _, h => by simpa [marksL] using h
  | [], d :: t2, z1, z2, h1, _, h => by
    rw [marks_cons] at h
    split at h
    · simp [marksL] at h; exact absurd h (h1 _)
    · rename_i hd
      simp [marksL] at h
      exact absurd h.1.symm (by simpa using hd)
  | c :: t1, [], z1, z2, _, h2, h => by
    rw [marks_cons] at h
    split at h
    · simp [marksL] at h; exact absurd h.symm (h2 _)
    · rename_i hd
      simp [marksL] at h
      exact absurd h.1 (by simpa using hd)
  | c :: t1, d :: t2, z1, z2, h1, h2, h => by
    rw [marks_cons, marks_cons] at h
    split at h <;> split at h
    · rename_i hc hd
      simp only [List.cons_append, List.nil_append, List.cons.injEq, true_and] at h
      obtain ⟨r1, r2⟩ := marks_unique h1 h2 h
      exact ⟨by rw [beq_iff_eq.1 hc, beq_iff_eq.1 hd, r1], r2⟩
    · rename_i hc hd
      simp only [List.cons_append, List.nil_append, List.cons.injEq] at h
      exact absurd h.1.symm (by simpa using hd)
    · rename_i hc hd
      simp only [List.cons_append, List.nil_append, List.cons.injEq] at h
      exact absurd h.1 (by simpa using hc)
    · simp only [List.cons_append, List.nil_append, List.cons.injEq] at h
      obtain ⟨r1, r2⟩ := marks_unique h1 h2 h.2
      exact ⟨by rw [h.1, r1], r2⟩

theorem esc_cons (c : UInt8) (l : List UInt8) : escL (c :: l) = (if escB c.toNat then [92, c] else [c]) ++ escL l := rfl
theorem esc92 : escB (92 : UInt8).toNat = true := by decide
theorem esc_unique : ∀ {t1 t2 z1 z2 : List UInt8}, (∃ c z, z1 = c :: z ∧ escB c.toNat = true ∧ c ≠ 92) → (∃ c z, z2 = c :: z ∧ escB c.toNat = true ∧ c ≠ 92) → escL t1 ++ z1 = escL t2 ++ z2 → t1 = t2 ∧ z1 = z2
  | [], [], _, _, _, _, h => by simpa [escL] using h
  | [], d :: t2, z1, z2, ⟨c, z, hz, he, hn⟩, _, h => by
    rw [esc_cons, hz] at h
    split at h
    · simp [escL] at h; exact absurd h.1 hn
    · rename_i hd
      simp [escL] at h
      rw [← h.1, he] at hd
      exact absurd rfl hd
  | d :: t1, [], z1, z2, _, ⟨c, z, hz, he, hn⟩, h => by
    rw [esc_cons, hz] at h
    split at h
    · simp [escL] at h; exact absurd h.1.symm hn
    · rename_i hd
      simp [escL] at h
      rw [h.1, he] at hd
      exact absurd rfl hd
  | c :: t1, d :: t2, z1, z2, h1, h2, h => by
    rw [esc_cons, esc_cons] at h
    split at h <;> split at h
    · simp only [List.cons_append, List.nil_append, List.cons.injEq, true_and] at h
      obtain ⟨r1, r2⟩ := esc_unique h1 h2 h.2
      exact ⟨by rw [h.1, r1], r2⟩
    · rename_i hc hd
      simp only [List.cons_append, List.nil_append, List.cons.injEq] at h
      rw [← h.1] at hd
      exact absurd esc92 hd
    · rename_i hc hd
      simp only [List.cons_append, List.nil_append, List.cons.injEq] at h
      rw [h.1] at hc
      exact absurd esc92 hc
    · simp only [List.cons_append, List.nil_append, List.cons.injEq] at h
      obtain ⟨r1, r2⟩ := esc_unique h1 h2 h.2
      exact ⟨by rw [h.1, r1], r2⟩

def wordC (c : UInt8) : Bool := letterB c.toNat || digitB c.toNat
theorem param_shape {t : List UInt8} (h : paramL t = true) : (t ≠ [] ∧ t.all wordC = true) ∨ ∃ c, t = [c] ∧ wordC c = false := by
  simp only [paramL, Bool.or_eq_true] at h
  rcases h with (h | h) | h
  · left
    simp only [nameL, decide_eq_true_eq] at h
    refine ⟨by rintro rfl; simp at h, ?_⟩
    rw [List.all_eq_true]
    intro x hx
    obtain ⟨j, hj, rfl⟩ := List.getElem_of_mem hx
    have := h.2 j hj
    simp only [List.getD, List.getElem?_eq_getElem hj, Option.getD_some, okB, Bool.or_eq_true, Bool.and_eq_true] at this
    simp only [wordC, Bool.or_eq_true]
    rcases this with h | h
    · exact .inl h
    · exact .inr h.2
  · right
    simp only [specialL, Bool.or_eq_true, beq_iff_eq] at h
    rcases h with ((((h | h) | h) | h) | h) | h <;> subst h
    all_goals exact ⟨_, rfl, by decide⟩
  · left
    simp only [numberL, Bool.and_eq_true, decide_eq_true_eq] at h
    refine ⟨by rintro rfl; simp at h, ?_⟩
    have h2 := h.2
    simp only [digitsL, List.all_eq_true] at h2 ⊢
    intro x hx
    simp [wordC, h2 x hx]

/-- A name ends where a byte follows that stands in none. -/
theorem name_unique {t1 t2 z1 z2 : List UInt8} (h1 : paramL t1 = true) (h2 : paramL t2 = true) (n1 : ∃ c z, z1 = c :: z ∧ wordC c = false) (n2 : ∃ c z, z2 = c :: z ∧ wordC c = false) (h : t1 ++ z1 = t2 ++ z2) : t1 = t2 ∧ z1 = z2 := by
  rcases param_shape h1 with ⟨e1, a1⟩ | ⟨c, rfl, hc⟩ <;> rcases param_shape h2 with ⟨e2, a2⟩ | ⟨d, rfl, hd⟩
  · obtain ⟨c1, y1, rfl, w1⟩ := n1
    obtain ⟨c2, y2, rfl, w2⟩ := n2
    exact span a1 a2 (fun c z e => by cases e; exact w1) (fun c z e => by cases e; exact w2) h
  · cases t1 with
    | nil => exact absurd rfl e1
    | cons x t1 =>
      simp only [List.cons_append, List.nil_append, List.cons.injEq] at h
      rw [← h.1] at hd
      simp [hd] at a1
  · cases t2 with
    | nil => exact absurd rfl e2
    | cons x t2 =>
      simp only [List.cons_append, List.nil_append, List.cons.injEq] at h
      rw [h.1] at hc
      simp [hc] at a2
  · simp only [List.cons_append, List.nil_append, List.cons.injEq] at h
    exact ⟨by rw [h.1], h.2⟩

theorem name_param {t : List UInt8} (h : nameL t = true) : paramL t = true := by simp [paramL, h]
/-- What an operator may be. -/
def opL : List (List UInt8) := [[], [45], [58, 45], [61], [58, 61], [43], [58, 43], [63], [58, 63]]
theorem nameOK_of {t o : List UInt8} (h : nameOK t o = true) : paramL t = true ∧ o ∈ opL := by
  unfold nameOK at h
  split at h
  · rename_i hs
    refine ⟨name_param h, ?_⟩
    simp only [isSet, Bool.or_eq_true, beq_iff_eq] at hs
    rcases hs with rfl | rfl <;> simp [opL]
  · split at h
    · rename_i hs
      refine ⟨h, ?_⟩
      simp only [isOp, Bool.or_eq_true, beq_iff_eq] at hs
      rcases hs with (((((rfl | rfl) | rfl) | rfl) | rfl) | rfl) | rfl <;> simp [opL]
    · cases h
end Uq
end Go.Proofs.YtgpnleenejjnmaaGreatDoor

namespace Go.Proofs.YtgpnleenejjnmaaGreatDoor
open Go.RowKit Go.Sort
namespace Uq
open Cls Pt Bd

theorem len_nil {f : PL} (h : (f.len == 0) = true) : f = .nil := by
  cases f with
  | nil => rfl
  | cons => simp [PL.len] at h
theorem right_parts {p : Option (Int × Bool)} {k : Int} {q : Bool} {t o : ByteArray} {f r : PL} {at' d : Nat} (h : rightL p (.cons k q t o f r) at' d = true) :
    (at' = 2 → q = true) ∧ (p = some (1, q) → k ≠ 1) ∧ rightL (some (k, q)) r at' d = true ∧
      ((k = 1 ∧ o.data.toList = [] ∧ f = .nil ∧ textOK q t.data.toList at' = true) ∨ (k = 2 ∧ nameOK t.data.toList o.data.toList = true ∧ (o.data.toList = [] → f = .nil) ∧ rightL none f (wth q) (d + 1) = true)) := by
  simp only [rightL, Bool.and_eq_true] at h
  obtain ⟨⟨⟨h1, h2⟩, h3⟩, h4⟩ := h
  refine ⟨fun e => ?_, fun e hk => ?_, h4, ?_⟩
  · subst e
    cases q
    · simp at h1
    · rfl
  · subst e hk
    simp at h2
  · split at h3
    · rename_i hk
      simp only [Bool.and_eq_true, beq_iff_eq] at h3
      exact .inl ⟨by simpa using hk, h3.1.1, len_nil (by simpa using h3.1.2), h3.2⟩
    · split at h3
      · rename_i hk
        simp only [Bool.and_eq_true, Bool.or_eq_true] at h3
        refine .inr ⟨by simpa using hk, h3.1.1.2, fun e => ?_, h3.2⟩
        rcases h3.1.2 with h5 | h5
        · simp [e] at h5
        · exact len_nil h5
      · cases h3

theorem text_ne' {k : Int} {q : Bool} {t o : ByteArray} {f r : PL} {d : Nat} (h : rightL none (.cons k q t o f r) 0 d = true) : textL (.cons k q t o f r) 0 ≠ [] := by
  rw [textL_cons]
  intro h0
  have h1 := List.append_eq_nil_iff.1 h0 |>.1
  obtain ⟨_, _, _, h4⟩ := right_parts h
  rcases h4 with ⟨rfl, _, _, ht⟩ | ⟨rfl, _⟩
  · cases q
    · simp [partT] at h1
      simp [textOK, h1] at ht
    · simp [partT, quoteL] at h1
  · cases q <;> simp [partT, paramT] at h1

/-- What stands behind parts in a place. -/
def term (at' : Nat) (x : List UInt8) : Prop := (at' = 0 ∧ x = []) ∨ (at' ≠ 0 ∧ ∃ y, x = 125 :: y)
/-- A part's first byte. -/
def cls (k : Int) (q : Bool) (at' : Nat) (c : UInt8) : Prop :=
  (k = 2 ∧ c = if q && !(at' == 2) then 34 else 36) ∨ (k = 1 ∧ at' = 2 ∧ (c = 92 ∨ escB c.toNat = false)) ∨ (k = 1 ∧ at' ≠ 2 ∧ q = true ∧ c = 39) ∨ (k = 1 ∧ at' ≠ 2 ∧ q = false ∧ standsB c.toNat at' = true)

theorem first {p : Option (Int × Bool)} {k : Int} {q : Bool} {t o : ByteArray} {f r : PL} {at' d : Nat} (x : List UInt8) (h : rightL p (.cons k q t o f r) at' d = true) :
    ∃ c z, textL (.cons k q t o f r) at' ++ x = c :: z ∧ cls k q at' c := by
  obtain ⟨h1, _, _, h4⟩ := right_parts h
  rw [textL_cons]
  rcases h4 with ⟨rfl, _, _, ht⟩ | ⟨rfl, _⟩
  · by_cases h2 : at' = 2
    · subst h2
      have hq := h1 rfl
      subst hq
      simp only [textOK] at ht
      cases hl : t.data.toList with
      | nil => simp [hl] at ht
      | cons c l =>
        cases he : escB c.toNat
        · exact ⟨c, _, by simp [partT, hl, esc_cons, he]; rfl, .inr (.inl ⟨rfl, rfl, .inr he⟩)⟩
        · exact ⟨92, _, by simp [partT, hl, esc_cons, he]; rfl, .inr (.inl ⟨rfl, rfl, .inl rfl⟩)⟩
    · have h2' : (at' == 2) = false := by simpa using h2
      cases q
      · simp only [textOK] at ht
        cases hl : t.data.toList with
        | nil => simp [hl] at ht
        | cons c l =>
          simp [hl] at ht
          exact ⟨c, _, by simp [partT, hl, h2']; rfl, .inr (.inr (.inr ⟨rfl, h2, rfl, ht.1⟩))⟩
      · exact ⟨39, _, by simp [partT, h2', quoteL]; rfl, .inr (.inr (.inl ⟨rfl, h2, rfl, rfl⟩))⟩
  · cases hm : (q && !(at' == 2))
    · exact ⟨36, _, by simp only [partT, paramT, hm]; rfl, .inl ⟨rfl, by rw [hm]; rfl⟩⟩
    · exact ⟨34, _, by simp only [partT, paramT, hm]; rfl, .inl ⟨rfl, by rw [hm]; rfl⟩⟩

theorem stands0 : ∀ n : Fin 256, standsB n 0 = true → n.val ≠ 34 ∧ n.val ≠ 36 ∧ n.val ≠ 39 ∧ n.val ≠ 92 := by decide +kernel
theorem stands1 : ∀ n : Fin 256, standsB n 1 = true → n.val ≠ 34 ∧ n.val ≠ 36 ∧ n.val ≠ 39 ∧ n.val ≠ 92 ∧ n.val ≠ 125 := by decide +kernel
theorem stands_no {c : UInt8} {at' : Nat} (ha : at' ≤ 2) (h2 : at' ≠ 2) (h : standsB c.toNat at' = true) : c ≠ 34 ∧ c ≠ 36 ∧ c ≠ 39 ∧ c ≠ 92 ∧ (at' ≠ 0 → c ≠ 125) := by
  have hlt : c.toNat < 256 := UInt8.toNat_lt c
  have hc : at' = 0 ∨ at' = 1 := by omega
  rcases hc with rfl | rfl
  · have := stands0 ⟨c.toNat, hlt⟩ h
    refine ⟨?_, ?_, ?_, ?_, fun h => absurd rfl h⟩ <;> rintro rfl <;> simp at this
  · have := stands1 ⟨c.toNat, hlt⟩ h
    refine ⟨?_, ?_, ?_, ?_, fun _ => ?_⟩ <;> rintro rfl <;> simp at this
theorem cls_125 {k : Int} {q : Bool} {at' : Nat} {c : UInt8} (ha : at' ≤ 2) (h0 : at' ≠ 0) (h : cls k q at' c) : c ≠ 125 := by
  rintro rfl
  rcases h with ⟨_, h⟩ | ⟨_, _, h⟩ | ⟨_, _, _, h⟩ | ⟨_, h2, _, h⟩
  · split at h <;> simp at h
  · rcases h with h | h
    · simp at h
    · simp [escB] at h
  · simp at h
  · exact (stands_no ha h2 h).2.2.2.2 h0 rfl

theorem cls_same {k k' : Int} {q q' : Bool} {at' : Nat} {c : UInt8} (ha : at' ≤ 2) (hq : at' = 2 → q = true) (hq' : at' = 2 → q' = true) (h : cls k q at' c) (h' : cls k' q' at' c) : k = k' ∧ q = q' := by
  by_cases h2 : at' = 2
  · obtain rfl := hq h2
    obtain rfl := hq' h2
    subst h2
    refine ⟨?_, rfl⟩
    rcases h with ⟨e1, h⟩ | ⟨e1, _, h⟩ | ⟨e1, n, _⟩ | ⟨e1, n, _⟩ <;> rcases h' with ⟨e2, h'⟩ | ⟨e2, _, h'⟩ | ⟨e2, n', _⟩ | ⟨e2, n', _⟩
    all_goals first
      | exact e1.trans e2.symm
      | exact absurd rfl n
      | exact absurd rfl n'
      | (subst h; exact absurd h' (by decide))
      | (subst h'; exact absurd h (by decide))
  · have hb : (at' == 2) = false := by simpa using h2
    rcases h with ⟨e1, h⟩ | ⟨_, n, _⟩ | ⟨e1, _, e3, h⟩ | ⟨e1, _, e3, h⟩ <;> rcases h' with ⟨e2, h'⟩ | ⟨_, n', _⟩ | ⟨e2, _, e4, h'⟩ | ⟨e2, _, e4, h'⟩
    all_goals first
      | exact absurd n h2
      | exact absurd n' h2
      | exact ⟨e1.trans e2.symm, e3.trans e4.symm⟩
      | skip
    · refine ⟨e1.trans e2.symm, ?_⟩
      rw [hb] at h h'
      cases q <;> cases q' <;> simp_all
    · rw [hb] at h; subst h'; cases q <;> simp at h
    · have := stands_no ha h2 h'; rw [hb] at h; cases q <;> simp_all
    · rw [hb] at h'; subst h; cases q' <;> simp at h'
    · have := stands_no ha h2 h'; simp_all
    · have := stands_no ha h2 h; rw [hb] at h'; cases q' <;> simp_all
    · have := stands_no ha h2 h; simp_all

theorem follow2 {p : Option (Int × Bool)} {r : PL} {d : Nat} {x : List UInt8} (hp : p = some (1, true)) (h : rightL p r 2 d = true) (hx : term 2 x) : ∃ c z, textL r 2 ++ x = c :: z ∧ escB c.toNat = true ∧ c ≠ 92 := by
  cases r with
  | nil =>
    obtain ⟨h0, _⟩ | ⟨_, y, rfl⟩ := hx
    · cases h0
    · exact ⟨125, y, rfl, by decide, by decide⟩
  | cons k q t o f r =>
    obtain ⟨c, z, e, hc⟩ := first x h
    obtain ⟨hq, hk, _⟩ := right_parts h
    obtain rfl := hq rfl
    refine ⟨c, z, e, ?_⟩
    rcases hc with ⟨_, rfl⟩ | ⟨e1, _⟩ | ⟨_, n, _⟩ | ⟨_, n, _⟩
    · exact ⟨by decide, by decide⟩
    · exact absurd e1 (hk hp)
    · exact absurd rfl n
    · exact absurd rfl n
theorem followQ {p : Option (Int × Bool)} {r : PL} {at' d : Nat} {x : List UInt8} (hp : p = some (1, true)) (ha : at' ≤ 2) (h2 : at' ≠ 2) (h : rightL p r at' d = true) (hx : term at' x) : ∀ z, textL r at' ++ x ≠ 92 :: z := by
  intro z0 hz
  cases r with
  | nil =>
    simp only [textL, List.nil_append] at hz
    obtain ⟨_, rfl⟩ | ⟨_, y, rfl⟩ := hx
    · cases hz
    · simp at hz
  | cons k q t o f r =>
    obtain ⟨c, z, e, hc⟩ := first x h
    obtain ⟨_, hk, _⟩ := right_parts h
    rw [e] at hz
    have hc92 : c = 92 := by simpa using (List.cons.inj hz).1
    subst hc92
    rcases hc with ⟨_, h⟩ | ⟨_, n, _⟩ | ⟨_, _, _, h⟩ | ⟨_, _, _, h⟩
    · split at h <;> simp at h
    · exact h2 n
    · simp at h
    · exact (stands_no ha h2 h).2.2.2.1 rfl
theorem followU {p : Option (Int × Bool)} {r : PL} {at' d : Nat} {x : List UInt8} (hp : p = some (1, false)) (ha : at' ≤ 2) (h2 : at' ≠ 2) (h : rightL p r at' d = true) (hx : term at' x) : ∀ c z, textL r at' ++ x = c :: z → standsB c.toNat at' = false := by
  intro c0 z0 hz
  have hno : ∀ c : UInt8, c = 34 ∨ c = 36 ∨ c = 39 → standsB c.toNat at' = false := by
    intro c hc
    cases hs : standsB c.toNat at'
    · rfl
    · have := stands_no ha h2 hs
      rcases hc with rfl | rfl | rfl <;> simp at this
  cases r with
  | nil =>
    simp only [textL, List.nil_append] at hz
    obtain ⟨_, rfl⟩ | ⟨h0, y, rfl⟩ := hx
    · cases hz
    · obtain rfl := (List.cons.inj hz).1
      cases hs : standsB (125 : UInt8).toNat at'
      · rfl
      · exact absurd rfl ((stands_no ha h2 hs).2.2.2.2 h0)
  | cons k q t o f r =>
    obtain ⟨c, z, e, hc⟩ := first x h
    obtain ⟨_, hk, _⟩ := right_parts h
    rw [e] at hz
    obtain rfl := (List.cons.inj hz).1
    rcases hc with ⟨_, h⟩ | ⟨_, n, _⟩ | ⟨_, _, _, h⟩ | ⟨e1, _, e2, h⟩
    · refine hno c ?_
      split at h
      · exact .inl h
      · exact .inr (.inl h)
    · exact absurd n h2
    · exact hno c (.inr (.inr h))
    · exact absurd e1 (hk (by rw [hp, e2]))

theorem op_unique {o1 o2 F1 F2 r1 r2 : List UInt8} (h1 : o1 ∈ opL) (h2 : o2 ∈ opL) (e1 : o1 = [] → F1 = []) (e2 : o2 = [] → F2 = []) (h : o1 ++ (F1 ++ 125 :: r1) = o2 ++ (F2 ++ 125 :: r2)) : o1 = o2 ∧ F1 ++ 125 :: r1 = F2 ++ 125 :: r2 := by
  simp only [opL, List.mem_cons, List.not_mem_nil, or_false] at h1 h2
  rcases h1 with rfl | rfl | rfl | rfl | rfl | rfl | rfl | rfl | rfl <;> rcases h2 with rfl | rfl | rfl | rfl | rfl | rfl | rfl | rfl | rfl
  all_goals first
    | exact ⟨rfl, h⟩
    | (simp at h; done)
    | (simp at h; exact ⟨rfl, h⟩)
    | (rw [e1 rfl] at h; simp at h; done)
    | (rw [e2 rfl] at h; simp at h; done)
theorem op_word {o F r : List UInt8} (h1 : o ∈ opL) (e1 : o = [] → F = []) : ∃ c z, o ++ (F ++ 125 :: r) = c :: z ∧ wordC c = false := by
  simp only [opL, List.mem_cons, List.not_mem_nil, or_false] at h1
  rcases h1 with rfl | rfl | rfl | rfl | rfl | rfl | rfl | rfl | rfl
  · rw [e1 rfl]; exact ⟨125, r, rfl, by decide⟩
  all_goals exact ⟨_, _, rfl, by decide⟩

theorem same_cons {k : Int} {q : Bool} {t o t' o' : ByteArray} {f r f' r' : PL} (ht : t.data.toList = t'.data.toList) (ho : o.data.toList = o'.data.toList) (hf : same f f' = true) (hr : same r r' = true) : same (.cons k q t o f r) (.cons k q t' o' f' r') = true := by
  simp [same, Lib.toList_data, ht, ho, hf, hr]

theorem unique : ∀ (a b : PL) (p : Option (Int × Bool)) (at' d : Nat) (x y : List UInt8), rightL p a at' d = true → rightL p b at' d = true → at' ≤ 2 → term at' x → term at' y → textL a at' ++ x = textL b at' ++ y → same a b = true ∧ x = y := by
  intro a
  induction a with
  | nil =>
    intro b p at' d x y _ hb ha hx hy h
    cases b with
    | nil => exact ⟨rfl, h⟩
    | cons k q t o f r =>
      exfalso
      obtain ⟨c, z, e, hc⟩ := first y hb
      rw [e] at h
      simp only [textL, List.nil_append] at h
      obtain ⟨_, rfl⟩ | ⟨h0, y', rfl⟩ := hx
      · cases h
      · exact cls_125 ha h0 hc (List.cons.inj h).1.symm
  | cons k q t o f r ihf ihr =>
    intro b p at' d x y hra hrb ha hx hy h
    cases b with
    | nil =>
      exfalso
      obtain ⟨c, z, e, hc⟩ := first x hra
      rw [e] at h
      simp only [textL, List.nil_append] at h
      obtain ⟨_, rfl⟩ | ⟨h0, y', rfl⟩ := hy
      · cases h
      · exact cls_125 ha h0 hc (List.cons.inj h).1
    | cons k' q' t' o' f' r' =>
      obtain ⟨hq, hk, hrr, hp⟩ := right_parts hra
      obtain ⟨hq', hk', hrr', hp'⟩ := right_parts hrb
      obtain ⟨c, z, e, hc⟩ := first x hra
      obtain ⟨c', z', e', hc'⟩ := first y hrb
      have hcc : c = c' := by rw [e, e'] at h; exact (List.cons.inj h).1
      subst hcc
      obtain ⟨rfl, rfl⟩ := cls_same ha hq hq' hc hc'
      clear e e' hc hc'
      rw [textL_cons, textL_cons, List.append_assoc, List.append_assoc] at h
      rcases hp with ⟨rfl, ho, rfl, ht⟩ | ⟨rfl, hn, hof, hf⟩
      · rcases hp' with ⟨_, ho', rfl, ht'⟩ | ⟨e, _⟩
        · by_cases h2 : at' = 2
          · subst h2
            obtain rfl := hq rfl
            obtain ⟨e1, e2⟩ := esc_unique (follow2 rfl hrr hx) (follow2 rfl hrr' hy) (by simpa [partT] using h)
            obtain ⟨s1, s2⟩ := ihr r' _ 2 d x y hrr hrr' ha hx hy e2
            exact ⟨same_cons e1 (ho.trans ho'.symm) rfl s1, s2⟩
          · have hb : (at' == 2) = false := by simpa using h2
            cases q
            · simp only [textOK] at ht ht'
              obtain ⟨e1, e2⟩ := span (p := fun c => standsB c.toNat at') (by simp only [Bool.false_eq_true, if_false, Bool.and_eq_true] at ht; exact ht.1) (by simp only [Bool.false_eq_true, if_false, Bool.and_eq_true] at ht'; exact ht'.1) (followU rfl ha h2 hrr hx) (followU rfl ha h2 hrr' hy) (by simpa [partT, hb] using h)
              obtain ⟨s1, s2⟩ := ihr r' _ at' d x y hrr hrr' ha hx hy e2
              exact ⟨same_cons e1 (ho.trans ho'.symm) rfl s1, s2⟩
            · obtain ⟨e1, e2⟩ := marks_unique (followQ rfl ha h2 hrr hx) (followQ rfl ha h2 hrr' hy) (by simpa [partT, hb, quoteL] using h)
              obtain ⟨s1, s2⟩ := ihr r' _ at' d x y hrr hrr' ha hx hy e2
              exact ⟨same_cons e1 (ho.trans ho'.symm) rfl s1, s2⟩
        · cases e
      · rcases hp' with ⟨e, _⟩ | ⟨_, hn', hof', hf'⟩
        · cases e
        · obtain ⟨np, no⟩ := nameOK_of hn
          obtain ⟨np', no'⟩ := nameOK_of hn'
          have hw : wth q ≤ 2 := by cases q <;> simp [wth]
          have hw0 : wth q ≠ 0 := by cases q <;> simp [wth]
          have key : ∀ (m m' : List UInt8), t.data.toList ++ (o.data.toList ++ (textL f (wth q) ++ 125 :: m)) = t'.data.toList ++ (o'.data.toList ++ (textL f' (wth q) ++ 125 :: m')) → t.data.toList = t'.data.toList ∧ o.data.toList = o'.data.toList ∧ same f f' = true ∧ m = m' := by
            intro m m' hm
            have F1 : o.data.toList = [] → textL f (wth q) = [] := fun e => by rw [hof e]; rfl
            have F2 : o'.data.toList = [] → textL f' (wth q) = [] := fun e => by rw [hof' e]; rfl
            obtain ⟨e1, e2⟩ := name_unique np np' (op_word no F1) (op_word no' F2) hm
            obtain ⟨e3, e4⟩ := op_unique no no' F1 F2 e2
            obtain ⟨e5, e6⟩ := ihf f' none (wth q) (d + 1) _ _ hf hf' hw (.inr ⟨hw0, m, rfl⟩) (.inr ⟨hw0, m', rfl⟩) e4
            exact ⟨e1, e3, e5, (List.cons.inj e6).2⟩
          cases hm : (q && !(at' == 2))
          · obtain ⟨e1, e2, e3, e4⟩ := key _ _ (by simpa [partT, paramT, hm] using h)
            obtain ⟨s1, s2⟩ := ihr r' _ at' d x y hrr hrr' ha hx hy e4
            exact ⟨same_cons e1 e2 e3 s1, s2⟩
          · obtain ⟨e1, e2, e3, e4⟩ := key (34 :: (textL r at' ++ x)) (34 :: (textL r' at' ++ y)) (by simpa [partT, paramT, hm] using h)
            obtain ⟨s1, s2⟩ := ihr r' _ at' d x y hrr hrr' ha hx hy (List.cons.inj e4).2
            exact ⟨same_cons e1 e2 e3 s1, s2⟩

theorem text_of_same : ∀ (a b : PL) (at' : Nat), same a b = true → textL a at' = textL b at' := by
  intro a
  induction a with
  | nil => intro b at' h; cases b with | nil => rfl | cons => cases h
  | cons k q t o f r ihf ihr =>
    intro b at' h
    cases b with
    | nil => cases h
    | cons k' q' t' o' f' r' =>
      simp only [same, Bool.and_eq_true, beq_iff_eq, Lib.toList_data] at h
      obtain ⟨⟨⟨⟨⟨rfl, rfl⟩, ht⟩, ho⟩, hf⟩, hr⟩ := h
      rw [textL_cons, textL_cons, ihr r' at' hr]
      simp only [partT, paramT, ht, ho, ihf f' _ hf]
theorem text_same {a b : PL} (ha : rightL none a 0 1 = true) (hb : rightL none b 0 1 = true) : (textL a 0 == textL b 0) = same a b := by
  cases hs : same a b
  · rw [beq_eq_false_iff_ne]
    intro h
    have := (unique a b none 0 1 [] [] ha hb (by omega) (.inl ⟨rfl, rfl⟩) (.inl ⟨rfl, rfl⟩) (by simpa using h)).1
    rw [hs] at this
    cases this
  · rw [beq_iff_eq]
    exact text_of_same a b 0 hs
theorem text_empty {a : PL} (ha : rightL none a 0 1 = true) : (textL a 0).isEmpty = (a.len == 0) := by
  cases a with
  | nil => rfl
  | cons k q t o f r =>
    have := text_ne' ha
    simpa [PL.len] using this
end Uq
end Go.Proofs.YtgpnleenejjnmaaGreatDoor
