/- Patterns, as plain functions over their bytes: where sets end, what they have, what a pattern means one meaning behind the other, and which texts it means; what two ways of going through a text say of that. -/
import Derived.Test.YtfjfgaefbldgbaaRows
import Derived.WalkKit
import Derived.Lib.Hide
import Derived.Lib.Strings
namespace Go.Proofs.Ytfjfgaefbldgbaa
namespace Pn

/-- A byte of a pattern: the byte, and whether it is quoted. -/
abbrev Sg := Nat × Bool
def at' (l : List Sg) (i : Nat) : Sg := l.getD i (0, true)
def isAt (l : List Sg) (i c : Nat) : Bool := (at' l i).1 == c && !(at' l i).2
def firstAt (l : List Sg) (i : Nat) : Nat := if isAt l (i + 1) 33 then i + 2 else i + 1
def memAt (l : List Sg) (i : Nat) : Nat := if decide (i + 2 < l.length) && isAt l (i + 1) 45 && !isAt l (i + 2) 93 then 3 else 1
/-- The first place from k on where a set may end. -/
def closeAt (l : List Sg) (k : Nat) : Option Nat := (List.range l.length).find? fun j => decide (k ≤ j) && isAt l j 93
/-- Where a set ends that begins at place i. -/
def setEnd (l : List Sg) (i : Nat) : Option Nat := if isAt l i 91 then closeAt l (firstAt l i + 1) else none
/-- Has a set, from place k on to place e, a byte? -/
def hasF (l : List Sg) (e c : Nat) : Nat → Nat → Bool
  | 0, _ => false
  | f + 1, k => if k < e then (decide ((at' l k).1 ≤ c ∧ c ≤ (at' l (k + memAt l k - 1)).1)) || hasF l e c f (k + memAt l k) else false
def hasB (l : List Sg) (i e c : Nat) : Bool := hasF l e c (l.length + 1) (firstAt l i) != (firstAt l i == i + 2)

theorem isAt_lt {l : List Sg} {i c : Nat} (h : isAt l i c = true) : i < l.length := by
  by_cases hi : i < l.length
  · exact hi
  · simp [isAt, at', List.getD, List.getElem?_eq_none (show l.length ≤ i by omega)] at h
theorem isAt_ne {l : List Sg} {i c d : Nat} (h : isAt l i c = true) (hd : c ≠ d) : isAt l i d = false := by
  simp only [isAt, Bool.and_eq_true, beq_iff_eq] at h ⊢
  rw [h.1]
  simp [hd]
theorem closeAt_some {l : List Sg} {k e : Nat} (h1 : k ≤ e) (h2 : isAt l e 93 = true) (h3 : ∀ j, k ≤ j → j < e → isAt l j 93 = false) : closeAt l k = some e := by
  unfold closeAt
  rw [List.find?_range_eq_some]
  refine ⟨by simp [h1, h2], by simp [isAt_lt h2], fun j hj => ?_⟩
  by_cases hk : k ≤ j
  · simp [h3 j hk hj]
  · simp [hk]
theorem closeAt_is {l : List Sg} {k e : Nat} (h : closeAt l k = some e) : k ≤ e ∧ isAt l e 93 = true ∧ ∀ j, k ≤ j → j < e → isAt l j 93 = false := by
  unfold closeAt at h
  rw [List.find?_range_eq_some] at h
  obtain ⟨h1, _, h3⟩ := h
  simp only [Bool.and_eq_true, decide_eq_true_eq] at h1
  refine ⟨h1.1, h1.2, fun j hk hj => ?_⟩
  have := h3 j hj
  simpa [hk] using this
theorem closeAt_none {l : List Sg} {k : Nat} (h : ∀ j, k ≤ j → isAt l j 93 = false) : closeAt l k = none := by
  unfold closeAt
  rw [List.find?_eq_none]
  intro j _
  simp only [Bool.and_eq_true, decide_eq_true_eq, not_and, Bool.not_eq_true]
  exact h j
theorem closeAt_no {l : List Sg} {k : Nat} (h : closeAt l k = none) : ∀ j, k ≤ j → isAt l j 93 = false := by
  intro j hj
  by_cases hl : j < l.length
  · unfold closeAt at h
    rw [List.find?_eq_none] at h
    have := h j (by simp [hl])
    simpa [hj] using this
  · cases hc : isAt l j 93
    · rfl
    · exact absurd (isAt_lt hc) hl

theorem memAt_pos (l : List Sg) (i : Nat) : 1 ≤ memAt l i ∧ memAt l i ≤ 3 := by unfold memAt; split <;> omega
theorem memAt_lt {l : List Sg} {i : Nat} (h : i < l.length) : i + memAt l i ≤ l.length := by
  unfold memAt
  split
  · rename_i h'
    simp only [Bool.and_eq_true, decide_eq_true_eq] at h'
    omega
  · omega
theorem hasF_more {l : List Sg} {e c : Nat} : ∀ {f g k : Nat}, e < k + f → f ≤ g → hasF l e c g k = hasF l e c f k
  | 0, g, k, h, _ => by
    cases g with
    | zero => rfl
    | succ g => rw [hasF, hasF, if_neg (show ¬ k < e by omega)]
  | f + 1, 0, k, h, hg => by omega
  | f + 1, g + 1, k, h, hg => by
    have := (memAt_pos l k).1
    rw [hasF, hasF]
    split
    · rw [hasF_more (f := f) (g := g) (by omega) (by omega)]
    · rfl
/-- A member more. -/
theorem hasF_step {l : List Sg} {e c k : Nat} (h : k < e) (he : e ≤ l.length) : hasF l e c (l.length + 1) k = (decide ((at' l k).1 ≤ c ∧ c ≤ (at' l (k + memAt l k - 1)).1) || hasF l e c (l.length + 1) (k + memAt l k)) := by
  have := (memAt_pos l k).1
  rw [hasF, if_pos h, hasF_more (f := l.length) (g := l.length + 1) (by omega) (by omega)]
theorem hasF_end {l : List Sg} {e c k : Nat} (h : e ≤ k) : hasF l e c (l.length + 1) k = false := by
  rw [hasF, if_neg (by omega)]

/-- What one place of a pattern means: any bytes, or one byte of some. -/
inductive Mn where
  | star
  | byte (p : Nat → Bool)
def one (x : Sg) : Mn := if x.1 == 63 && !x.2 then .byte fun _ => true else if x.1 == 42 && !x.2 then .star else .byte fun c => x.1 == c
/-- What a pattern means from place i on. -/
def units (l : List Sg) : Nat → Nat → List Mn
  | 0, _ => []
  | f + 1, i => if i < l.length then (match setEnd l i with
      | some e => .byte (hasB l i e) :: units l f (e + 1)
      | none => one (at' l i) :: units l f (i + 1)) else []
def U (l : List Sg) (i : Nat) : List Mn := units l (l.length + 1) i
theorem setEnd_is {l : List Sg} {i e : Nat} (h : setEnd l i = some e) : isAt l i 91 = true ∧ firstAt l i < e ∧ isAt l e 93 = true ∧ ∀ j, firstAt l i < j → j < e → isAt l j 93 = false := by
  unfold setEnd at h
  split at h
  · rename_i h0
    obtain ⟨h1, h2, h3⟩ := closeAt_is h
    exact ⟨h0, by omega, h2, fun j hj => h3 j (by omega)⟩
  · cases h
theorem firstAt_gt (l : List Sg) (i : Nat) : i < firstAt l i ∧ firstAt l i ≤ i + 2 := by unfold firstAt; split <;> omega
theorem units_more {l : List Sg} : ∀ {f g i : Nat}, l.length < i + f → f ≤ g → units l g i = units l f i
  | 0, g, i, h, _ => by
    cases g with
    | zero => rfl
    | succ g => rw [units, units, if_neg (show ¬ i < l.length by omega)]
  | f + 1, 0, i, h, hg => by omega
  | f + 1, g + 1, i, h, hg => by
    rw [units, units]
    split
    · cases hs : setEnd l i with
      | none => simp only; rw [units_more (f := f) (g := g) (by omega) (by omega)]
      | some e =>
        obtain ⟨_, h2, _⟩ := setEnd_is hs
        have := (firstAt_gt l i).1
        simp only
        rw [units_more (f := f) (g := g) (by omega) (by omega)]
    · rfl
theorem U_end {l : List Sg} {i : Nat} (h : l.length ≤ i) : U l i = [] := by unfold U; rw [units, if_neg (by omega)]
theorem U_set {l : List Sg} {i e : Nat} (h : setEnd l i = some e) : U l i = .byte (hasB l i e) :: U l (e + 1) := by
  have h0 := isAt_lt (setEnd_is h).1
  have h1 := (setEnd_is h).2.1
  have := (firstAt_gt l i).1
  unfold U
  rw [units, if_pos h0, h]
  simp only
  rw [units_more (f := l.length) (g := l.length + 1) (by omega) (by omega)]
theorem U_one {l : List Sg} {i : Nat} (hi : i < l.length) (h : setEnd l i = none) : U l i = one (at' l i) :: U l (i + 1) := by
  unfold U
  rw [units, if_pos hi, h]
  simp only
  rw [units_more (f := l.length) (g := l.length + 1) (by omega) (by omega)]
theorem setEnd_other {l : List Sg} {i c : Nat} (h : isAt l i c = true) (hc : c ≠ 91) : setEnd l i = none := by
  unfold setEnd
  rw [isAt_ne h hc]
  rfl
theorem U_star {l : List Sg} {i : Nat} (h : isAt l i 42 = true) : U l i = .star :: U l (i + 1) := by
  rw [U_one (isAt_lt h) (setEnd_other h (by decide))]
  simp only [isAt, Bool.and_eq_true, beq_iff_eq] at h
  simp [one, h.1, h.2]

/-- Which texts it means. -/
def mt : List Mn → List Nat → Bool
  | [], [] => true
  | [], _ :: _ => false
  | .star :: m, [] => mt m []
  | .star :: m, c :: s => mt m (c :: s) || mt (.star :: m) s
  | .byte _ :: _, [] => false
  | .byte p :: m, c :: s => p c && mt m s
theorem mt_skip {m : List Mn} : ∀ {s : List Nat}, mt m s = true → mt (.star :: m) s = true
  | [], h => by simpa [mt] using h
  | _ :: _, h => by simp [mt, h]
theorem mt_eat {m : List Mn} {c : Nat} {s : List Nat} (h : mt (.star :: m) s = true) : mt (.star :: m) (c :: s) = true := by simp [mt, h]
theorem mt_eats {m : List Mn} {s : List Nat} (h : mt (.star :: m) s = true) : ∀ (x : List Nat), mt (.star :: m) (x ++ s) = true
  | [] => h
  | _ :: x => mt_eat (mt_eats h x)
/-- What may be reached from ahead of a star may be reached from it. -/
theorem mt_absorb {m : List Mn} : ∀ (X : List Mn) (s : List Nat), mt (X ++ .star :: m) s = true → mt (.star :: m) s = true
  | [], _, h => h
  | .star :: X, [], h => mt_absorb X [] (by simpa [mt] using h)
  | .star :: X, c :: s, h => by
    simp only [List.cons_append, mt, Bool.or_eq_true] at h
    rcases h with h | h
    · exact mt_absorb X (c :: s) h
    · exact mt_eat (mt_absorb (.star :: X) s h)
  | .byte _ :: X, [], h => by simp [mt] at h
  | .byte _ :: X, c :: s, h => by
    simp only [List.cons_append, mt, Bool.and_eq_true] at h
    exact mt_eat (mt_absorb X s h.2)
termination_by X s _ => (X.length, s.length)

-- The reference's way: a truth for each place.
def upd (A : Nat → Bool) (j : Nat) (v : Bool) : Nat → Bool := fun x => if x = j then v else A x
def reachK (l : List Sg) (A : Nat → Bool) : Nat → Nat → Bool
  | 0 => A
  | k + 1 => if reachK l A k k && isAt l k 42 then upd (reachK l A k) (k + 1) true else reachK l A k
def stepK (l : List Sg) (A : Nat → Bool) (c : Nat) : Nat → Nat → Bool
  | 0 => fun _ => false
  | k + 1 => if A k then (if isAt l k 42 then upd (stepK l A c k) k true else match setEnd l k with
      | some e => upd (stepK l A c k) (e + 1) (stepK l A c k (e + 1) || hasB l k e c)
      | none => if isAt l k 63 || (at' l k).1 == c then upd (stepK l A c k) (k + 1) true else stepK l A c k) else stepK l A c k
def can (l : List Sg) (A : Nat → Bool) (s : List Nat) : Prop := ∃ i, i ≤ l.length ∧ A i = true ∧ mt (U l i) s = true
theorem reachK_can (l : List Sg) (A : Nat → Bool) (s : List Nat) : ∀ k, k ≤ l.length → (can l (reachK l A k) s ↔ can l A s)
  | 0, _ => Iff.rfl
  | k + 1, hk => by
    rw [← reachK_can l A s k (by omega), reachK]
    split
    · rename_i h
      simp only [Bool.and_eq_true] at h
      constructor
      · rintro ⟨i, hi, ha, hm⟩
        by_cases e : i = k + 1
        · subst e
          exact ⟨k, by omega, h.1, by rw [U_star h.2]; exact mt_skip hm⟩
        · rw [upd, if_neg e] at ha
          exact ⟨i, hi, ha, hm⟩
      · rintro ⟨i, hi, ha, hm⟩
        refine ⟨i, hi, ?_, hm⟩
        unfold upd
        split
        · rfl
        · exact ha
    · exact Iff.rfl
/-- Stars passed over already. -/
def Shut (l : List Sg) (A : Nat → Bool) (n : Nat) : Prop := ∀ i, i < n → A i = true → isAt l i 42 = true → A (i + 1) = true
theorem reachK_mono (l : List Sg) (A : Nat → Bool) (k i : Nat) (h : reachK l A k i = true) : reachK l A (k + 1) i = true := by
  rw [reachK]
  split
  · unfold upd; split
    · rfl
    · exact h
  · exact h
theorem reachK_low (l : List Sg) (A : Nat → Bool) (k i : Nat) (h : i ≤ k) : reachK l A (k + 1) i = reachK l A k i := by
  rw [reachK]
  split
  · rw [upd, if_neg (by omega)]
  · rfl
theorem reachK_shut (l : List Sg) (A : Nat → Bool) : ∀ k, Shut l (reachK l A k) k
  | 0, i, h, _, _ => by omega
  | k + 1, i, h, ha, hs => by
    by_cases e : i = k
    · subst e
      rw [reachK_low l A i i (Nat.le_refl _)] at ha
      rw [reachK, if_pos (by simp [ha, hs]), upd, if_pos rfl]
    · rw [reachK_low l A k i (by omega)] at ha
      exact reachK_mono l A k _ (reachK_shut l A k i (by omega) ha hs)
theorem one_mt {x : Sg} (h : (x.1 == 42 && !x.2) = false) (m : List Mn) (c : Nat) (s : List Nat) : mt (one x :: m) (c :: s) = ((x.1 == 63 && !x.2 || x.1 == c) && mt m s) := by
  unfold one
  cases h63 : (x.1 == 63 && !x.2)
  · simp [mt, h]
  · simp [mt]
theorem stepK_can (l : List Sg) (A : Nat → Bool) (c : Nat) (s : List Nat) : ∀ k, k ≤ l.length →
    ((can l (stepK l A c k) s) ↔ ∃ i, i < k ∧ A i = true ∧ (if isAt l i 42 then mt (U l i) s = true else mt (U l i) (c :: s) = true))
  | 0, _ => by
    constructor
    · rintro ⟨_, _, h, _⟩; cases h
    · rintro ⟨_, h, _⟩; omega
  | k + 1, hk => by
    have ih := stepK_can l A c s k (by omega)
    have hsplit : (∃ i, i < k + 1 ∧ A i = true ∧ (if isAt l i 42 then mt (U l i) s = true else mt (U l i) (c :: s) = true)) ↔ (can l (stepK l A c k) s ∨ A k = true ∧ (if isAt l k 42 then mt (U l k) s = true else mt (U l k) (c :: s) = true)) := by
      rw [ih]
      constructor
      · rintro ⟨i, hi, h⟩
        by_cases e : i = k
        · subst e; exact .inr h
        · exact .inl ⟨i, by omega, h⟩
      · rintro (⟨i, hi, h⟩ | h)
        · exact ⟨i, by omega, h⟩
        · exact ⟨k, by omega, h⟩
    have hupd : ∀ (B : Nat → Bool) (j : Nat) (v : Bool), j ≤ l.length → (B j = true → v = true) → (can l (upd B j v) s ↔ can l B s ∨ v = true ∧ mt (U l j) s = true) := by
      intro B j v hj hv
      constructor
      · rintro ⟨i, hi, ha, hm⟩
        by_cases e : i = j
        · subst e; rw [upd, if_pos rfl] at ha; exact .inr ⟨ha, hm⟩
        · rw [upd, if_neg e] at ha; exact .inl ⟨i, hi, ha, hm⟩
      · rintro (⟨i, hi, ha, hm⟩ | ⟨hv', hm⟩)
        · by_cases e : i = j
          · subst e; exact ⟨i, hi, by rw [upd, if_pos rfl]; exact hv ha, hm⟩
          · exact ⟨i, hi, by rw [upd, if_neg e]; exact ha, hm⟩
        · exact ⟨j, hj, by rw [upd, if_pos rfl]; exact hv', hm⟩
    rw [hsplit, stepK]
    cases hA : A k
    · simp
    · cases hs : isAt l k 42
      · cases he : setEnd l k with
        | none =>
          have hm : mt (U l k) (c :: s) = ((isAt l k 63 || (at' l k).1 == c) && mt (U l (k + 1)) s) := by
            rw [U_one (by omega) he, one_mt hs]; rfl
          simp only [hm, Bool.false_eq_true, if_false, if_true, true_and]
          cases hq : (isAt l k 63 || (at' l k).1 == c)
          · simp
          · simp only [if_true, Bool.true_and]
            rw [hupd _ _ _ (by omega) (fun _ => rfl)]
            simp
        | some e =>
          have hel := isAt_lt (setEnd_is he).2.2.1
          have hm : mt (U l k) (c :: s) = (hasB l k e c && mt (U l (e + 1)) s) := by rw [U_set he, mt]
          simp only [hm, Bool.false_eq_true, if_false, if_true, true_and]
          rw [hupd _ _ _ (by omega) (fun h => by simp [h])]
          constructor
          · rintro (h | ⟨h1, h2⟩)
            · exact .inl h
            · simp only [Bool.or_eq_true] at h1
              rcases h1 with h1 | h1
              · exact .inl ⟨e + 1, by omega, h1, h2⟩
              · exact .inr (by simp [h1, h2])
          · rintro (h | h)
            · exact .inl h
            · simp only [Bool.and_eq_true] at h
              exact .inr ⟨by simp [h.1], h.2⟩
      · simp only [if_true, true_and]
        rw [hupd _ _ _ (by omega) (fun _ => rfl)]
        simp
/-- One byte more. -/
theorem step_can {l : List Sg} {A : Nat → Bool} {c : Nat} {s : List Nat} (hs : Shut l A l.length) : can l (reachK l (stepK l A c l.length) l.length) s ↔ can l A (c :: s) := by
  rw [reachK_can l _ s _ (Nat.le_refl _), stepK_can l A c s _ (Nat.le_refl _)]
  constructor
  · rintro ⟨i, hi, ha, hm⟩
    refine ⟨i, by omega, ha, ?_⟩
    split at hm
    · rename_i h
      rw [U_star h] at hm ⊢
      exact mt_eat hm
    · exact hm
  · have key : ∀ n i, l.length - i = n → i ≤ l.length → A i = true → mt (U l i) (c :: s) = true → ∃ i, i < l.length ∧ A i = true ∧ (if isAt l i 42 then mt (U l i) s = true else mt (U l i) (c :: s) = true) := by
      intro n
      induction n with
      | zero =>
        intro i hn hi ha hm
        rw [U_end (by omega)] at hm
        simp [mt] at hm
      | succ n ih =>
        intro i hn hi ha hm
        cases h : isAt l i 42
        · exact ⟨i, by omega, ha, by rw [h]; simpa using hm⟩
        · rw [U_star h] at hm
          simp only [mt, Bool.or_eq_true] at hm
          rcases hm with hm | hm
          · exact ih (i + 1) (by omega) (by omega) (hs i (by omega) ha h) hm
          · exact ⟨i, by omega, ha, by rw [h, U_star h]; simpa using hm⟩
    rintro ⟨i, hi, ha, hm⟩
    exact key _ i rfl hi ha hm
/-- At a text's end. -/
theorem end_can {l : List Sg} {A : Nat → Bool} (hs : Shut l A l.length) : can l A [] ↔ A l.length = true := by
  constructor
  · have key : ∀ n i, l.length - i = n → i ≤ l.length → A i = true → mt (U l i) [] = true → A l.length = true := by
      intro n
      induction n with
      | zero =>
        intro i hn hi ha hm
        rwa [show l.length = i by omega]
      | succ n ih =>
        intro i hn hi ha hm
        cases he : setEnd l i with
        | some e => rw [U_set he] at hm; simp [mt] at hm
        | none =>
          cases h : isAt l i 42
          · rw [U_one (by omega) he] at hm
            have h' : ((at' l i).1 == 42 && !(at' l i).2) = false := h
            unfold one at hm
            split at hm
            · simp [mt] at hm
            · split at hm
              · rename_i h1; rw [h'] at h1; cases h1
              · simp [mt] at hm
          · rw [U_star h] at hm
            rw [mt] at hm
            exact ih (i + 1) (by omega) (by omega) (hs i (by omega) ha h) hm
    rintro ⟨i, hi, ha, hm⟩
    exact key _ i rfl hi ha hm
  · intro h
    exact ⟨l.length, Nat.le_refl _, h, by rw [U_end (Nat.le_refl _)]; simp [mt]⟩
theorem start_can {l : List Sg} {s : List Nat} : can l (upd (fun _ => false) 0 true) s ↔ mt (U l 0) s = true := by
  constructor
  · rintro ⟨i, _, ha, hm⟩
    by_cases e : i = 0
    · subst e; exact hm
    · rw [upd, if_neg e] at ha; cases ha
  · intro h
    exact ⟨0, Nat.zero_le _, rfl, h⟩

-- The program's way: the places, rising.
def starAt (M : List Mn) (i : Nat) : Bool := match M[i]? with | some .star => true | _ => false
def spreadF (M : List Mn) : Nat → List Nat → Nat → List Nat
  | 0, t, p => t ++ [p]
  | f + 1, t, p => if starAt M p then spreadF M f [p] (p + 1) else t ++ [p]
def eats (M : List Mn) (i c : Nat) : Bool := match M[i]? with | some (.byte p) => p c | _ => false
def stepP (M : List Mn) (c : Nat) : List Nat → List Nat → List Nat
  | [], t => t
  | q :: now, t => stepP M c now (if starAt M q then spreadF M M.length t q else if eats M q c then spreadF M M.length t (q + 1) else t)
def Near (M : List Mn) (x p : Nat) : Prop := ∀ j, p ≤ j → j < x → starAt M j = true
def may (M : List Mn) (t : List Nat) (s : List Nat) : Prop := ∃ x, x ∈ t ∧ mt (M.drop x) s = true
theorem starAt_lt {M : List Mn} {i : Nat} (h : starAt M i = true) : i < M.length := by
  by_cases hi : i < M.length
  · exact hi
  · simp [starAt, List.getElem?_eq_none (show M.length ≤ i by omega)] at h
theorem starAt_drop {M : List Mn} {i : Nat} (h : starAt M i = true) : M.drop i = .star :: M.drop (i + 1) := by
  have hi := starAt_lt h
  rw [List.drop_eq_getElem_cons hi]
  simp only [starAt, List.getElem?_eq_getElem hi] at h
  split at h
  · rename_i h'; rw [Option.some.inj h']
  · cases h
theorem near_mt {M : List Mn} {p : Nat} (hp : starAt M p = true) {s : List Nat} : ∀ {x : Nat}, Near M x p → mt (M.drop x) s = true → mt (M.drop p) s = true := by
  intro x hn hm
  by_cases hx : x ≤ p
  · have hd : M.drop x = (M.drop x).take (p - x) ++ M.drop p := by
      rw [show M.drop p = (M.drop x).drop (p - x) by rw [List.drop_drop]; congr 1; omega, List.take_append_drop]
    rw [hd, starAt_drop hp] at hm
    rw [starAt_drop hp]
    exact mt_absorb _ _ hm
  · have key : ∀ n, p + n ≤ x → mt (M.drop (x - n)) s = true := by
      intro n
      induction n with
      | zero => intro _; exact hm
      | succ n ih =>
        intro h
        have h1 := ih (by omega)
        have h2 := hn (x - (n + 1)) (by omega) (by omega)
        rw [starAt_drop h2, show x - (n + 1) + 1 = x - n by omega]
        exact mt_skip h1
    have := key (x - p) (by omega)
    rwa [show x - (x - p) = p by omega] at this
theorem spreadF_may {M : List Mn} {s : List Nat} : ∀ {f : Nat} {t : List Nat} {p : Nat}, M.length ≤ p + f → (∀ x ∈ t, Near M x p) → (may M (spreadF M f t p) s ↔ may M t s ∨ mt (M.drop p) s = true) := by
  have base : ∀ (t : List Nat) (p : Nat), (may M (t ++ [p]) s ↔ may M t s ∨ mt (M.drop p) s = true) := by
    intro t p
    constructor
    · rintro ⟨x, hx, hm⟩
      rcases List.mem_append.1 hx with hx | hx
      · exact .inl ⟨x, hx, hm⟩
      · rw [List.mem_singleton] at hx; subst hx; exact .inr hm
    · rintro (⟨x, hx, hm⟩ | hm)
      · exact ⟨x, List.mem_append.2 (.inl hx), hm⟩
      · exact ⟨p, by simp, hm⟩
  intro f
  induction f with
  | zero => intro t p _ _; exact base t p
  | succ f ih =>
    intro t p hf hn
    rw [spreadF]
    split
    · rename_i hs
      rw [ih (by omega) (by intro x hx j h1 h2; simp only [List.mem_singleton] at hx; omega)]
      constructor
      · rintro (⟨x, hx, hm⟩ | hm)
        · simp only [List.mem_singleton] at hx; subst hx; exact .inr hm
        · exact .inr (by rw [starAt_drop hs]; exact mt_skip hm)
      · rintro (⟨x, hx, hm⟩ | hm)
        · exact .inl ⟨p, by simp, near_mt hs (hn x hx) hm⟩
        · exact .inl ⟨p, by simp, hm⟩
    · exact base t p
/-- What the places are like: rising, none beyond the end, stars passed over. -/
structure Nice (M : List Mn) (t : List Nat) : Prop where
  rise : t.Pairwise (· < ·)
  le : ∀ x ∈ t, x ≤ M.length
  shut : ∀ x ∈ t, starAt M x = true → x + 1 ∈ t
theorem spreadF_nice {M : List Mn} : ∀ {f : Nat} {t : List Nat} {p : Nat}, M.length ≤ p + f → p ≤ M.length → t.Pairwise (· < ·) → (∀ x ∈ t, x ≤ M.length) → (∀ x ∈ t, starAt M x = true → x + 1 ∈ t ∨ x + 1 = p) → (∀ x ∈ t, x < p ∨ starAt M p = true) →
    Nice M (spreadF M f t p) ∧ ∀ x ∈ spreadF M f t p, x ∈ t ∨ Near M x p := by
  have base : ∀ (t : List Nat) (p : Nat), p ≤ M.length → starAt M p = false → t.Pairwise (· < ·) → (∀ x ∈ t, x ≤ M.length) → (∀ x ∈ t, starAt M x = true → x + 1 ∈ t ∨ x + 1 = p) → (∀ x ∈ t, x < p ∨ starAt M p = true) → Nice M (t ++ [p]) ∧ ∀ x ∈ t ++ [p], x ∈ t ∨ Near M x p := by
    intro t p hp hs h1 h2 h3 h4
    refine ⟨⟨?_, ?_, ?_⟩, ?_⟩
    · rw [List.pairwise_append]
      refine ⟨h1, by simp, fun x hx y hy => ?_⟩
      simp only [List.mem_singleton] at hy
      subst hy
      rcases h4 x hx with h | h
      · exact h
      · rw [hs] at h; cases h
    · intro x hx
      rcases List.mem_append.1 hx with hx | hx
      · exact h2 x hx
      · simp only [List.mem_singleton] at hx; omega
    · intro x hx hx'
      rcases List.mem_append.1 hx with hx | hx
      · rcases h3 x hx hx' with h | h
        · simp [h]
        · simp [h]
      · simp only [List.mem_singleton] at hx; subst hx; rw [hs] at hx'; cases hx'
    · intro x hx
      rcases List.mem_append.1 hx with hx | hx
      · exact .inl hx
      · simp only [List.mem_singleton] at hx; subst hx; exact .inr fun j h1 h2 => by omega
  intro f
  induction f with
  | zero =>
    intro t p hf hp h1 h2 h3 h4
    exact base t p hp (by cases hc : starAt M p; rfl; have := starAt_lt hc; omega) h1 h2 h3 h4
  | succ f ih =>
    intro t p hf hp h1 h2 h3 h4
    rw [spreadF]
    split
    · rename_i hs
      have hlt := starAt_lt hs
      obtain ⟨hN, hM⟩ := ih (t := [p]) (p := p + 1) (by omega) (by omega) (by simp) (by intro x hx; simp only [List.mem_singleton] at hx; omega) (by intro x hx _; simp only [List.mem_singleton] at hx; omega) (by intro x hx; simp only [List.mem_singleton] at hx; omega)
      refine ⟨hN, fun x hx => ?_⟩
      rcases hM x hx with h | h
      · simp only [List.mem_singleton] at h; subst h; exact .inr fun j h1 h2 => by omega
      · refine .inr fun j h1 h2 => ?_
        by_cases e : j = p
        · subst e; exact hs
        · exact h j (by omega) h2
    · rename_i hs
      exact base t p hp (by simpa using hs) h1 h2 h3 h4
theorem stepP_ok {M : List Mn} {c : Nat} {s : List Nat} : ∀ {now t : List Nat}, now.Pairwise (· < ·) → (∀ x ∈ now, x ≤ M.length) → Nice M t → (∀ x ∈ t, ∀ q ∈ now, Near M x q) →
    Nice M (stepP M c now t) ∧ (may M (stepP M c now t) s ↔ may M t s ∨ ∃ q, q ∈ now ∧ (if starAt M q then mt (M.drop q) s = true else mt (M.drop q) (c :: s) = true))
  | [], t, _, _, hN, _ => ⟨hN, by simp [stepP]⟩
  | q :: now, t, hP, hL, hN, hK => by
    rw [List.pairwise_cons] at hP
    have hq : ∀ x ∈ t, Near M x q := fun x hx => hK x hx q (by simp)
    have hql := hL q (by simp)
    rw [stepP]
    cases hs : starAt M q
    · have hle : ∀ x ∈ t, x ≤ q := fun x hx => by
        rcases Nat.lt_or_ge q x with h | h
        · have := hq x hx q (Nat.le_refl _) h; rw [hs] at this; cases this
        · exact h
      cases he : eats M q c
      · have ih := stepP_ok (c := c) (s := s) hP.2 (fun x hx => hL x (by simp [hx])) hN (fun x hx r hr => hK x hx r (by simp [hr]))
        simp only [Bool.false_eq_true, if_false]
        refine ⟨ih.1, ih.2.trans ?_⟩
        have hno : mt (M.drop q) (c :: s) = false := by
          by_cases hlt : q < M.length
          · rw [List.drop_eq_getElem_cons hlt]
            simp only [eats, List.getElem?_eq_getElem hlt] at he
            simp only [starAt, List.getElem?_eq_getElem hlt] at hs
            cases hm : M[q] with
            | star => rw [hm] at hs; cases hs
            | byte p => rw [hm] at he; simp [mt, show p c = false from he]
          · rw [List.drop_eq_nil_of_le (by omega)]; simp [mt]
        constructor
        · rintro (h | ⟨r, hr, h⟩)
          · exact .inl h
          · exact .inr ⟨r, by simp [hr], h⟩
        · rintro (h | ⟨r, hr, h⟩)
          · exact .inl h
          · rcases List.mem_cons.1 hr with rfl | hr
            · rw [hs, if_neg (by simp), hno] at h; cases h
            · exact .inr ⟨r, hr, h⟩
      · have hlt : q < M.length := by
          by_cases hlt : q < M.length
          · exact hlt
          · simp [eats, List.getElem?_eq_none (show M.length ≤ q by omega)] at he
        have hyes : mt (M.drop q) (c :: s) = mt (M.drop (q + 1)) s := by
          rw [List.drop_eq_getElem_cons hlt]
          simp only [eats, List.getElem?_eq_getElem hlt] at he
          cases hm : M[q] with
          | star => rw [hm] at he; cases he
          | byte p => rw [hm] at he; simp [mt, show p c = true from he]
        obtain ⟨n1, n2⟩ := spreadF_nice (f := M.length) (t := t) (p := q + 1) (by omega) (by omega) hN.rise hN.le (fun x hx h => .inl (hN.shut x hx h)) (fun x hx => .inl (by have := hle x hx; omega))
        have ih := stepP_ok (c := c) (s := s) hP.2 (fun x hx => hL x (by simp [hx])) n1 (fun x hx r hr => by
          rcases n2 x hx with h | h
          · exact hK x h r (by simp [hr])
          · have := hP.1 r hr
            exact fun j h1 h2 => h j (by omega) h2)
        simp only [Bool.false_eq_true, if_false, if_true]
        refine ⟨ih.1, ih.2.trans ?_⟩
        rw [spreadF_may (by omega) (fun x hx j h1 h2 => hq x hx j (by omega) h2)]
        constructor
        · rintro ((h | h) | ⟨r, hr, h⟩)
          · exact .inl h
          · exact .inr ⟨q, by simp, by rw [hs, if_neg (by simp), hyes]; exact h⟩
          · exact .inr ⟨r, by simp [hr], h⟩
        · rintro (h | ⟨r, hr, h⟩)
          · exact .inl (.inl h)
          · rcases List.mem_cons.1 hr with rfl | hr
            · rw [hs, if_neg (by simp), hyes] at h; exact .inl (.inr h)
            · exact .inr ⟨r, hr, h⟩
    · have hlt := starAt_lt hs
      obtain ⟨n1, n2⟩ := spreadF_nice (f := M.length) (t := t) (p := q) (by omega) (by omega) hN.rise hN.le (fun x hx h => .inl (hN.shut x hx h)) (fun x hx => .inr hs)
      have ih := stepP_ok (c := c) (s := s) hP.2 (fun x hx => hL x (by simp [hx])) n1 (fun x hx r hr => by
        rcases n2 x hx with h | h
        · exact hK x h r (by simp [hr])
        · have := hP.1 r hr
          exact fun j h1 h2 => h j (by omega) h2)
      simp only [if_true]
      refine ⟨ih.1, ih.2.trans ?_⟩
      rw [spreadF_may (by omega) hq]
      constructor
      · rintro ((h | h) | ⟨r, hr, h⟩)
        · exact .inl h
        · exact .inr ⟨q, by simp, by rw [hs, if_pos rfl]; exact h⟩
        · exact .inr ⟨r, by simp [hr], h⟩
      · rintro (h | ⟨r, hr, h⟩)
        · exact .inl (.inl h)
        · rcases List.mem_cons.1 hr with rfl | hr
          · rw [hs, if_pos rfl] at h; exact .inl (.inr h)
          · exact .inr ⟨r, hr, h⟩
/-- One byte more. -/
theorem step_may {M : List Mn} {c : Nat} {s : List Nat} {now : List Nat} (h : Nice M now) : Nice M (stepP M c now []) ∧ (may M (stepP M c now []) s ↔ may M now (c :: s)) := by
  have := stepP_ok (M := M) (c := c) (s := s) (now := now) (t := []) h.rise h.le ⟨by simp, by simp, by simp⟩ (by simp)
  refine ⟨this.1, this.2.trans ?_⟩
  constructor
  · rintro (⟨x, hx, _⟩ | ⟨q, hq, hm⟩)
    · cases hx
    · refine ⟨q, hq, ?_⟩
      split at hm
      · rename_i hs
        rw [starAt_drop hs] at hm ⊢
        exact mt_eat hm
      · exact hm
  · have key : ∀ n q, M.length - q = n → q ∈ now → mt (M.drop q) (c :: s) = true → ∃ q, q ∈ now ∧ (if starAt M q then mt (M.drop q) s = true else mt (M.drop q) (c :: s) = true) := by
      intro n
      induction n with
      | zero =>
        intro q hn hq hm
        rw [List.drop_eq_nil_of_le (by omega)] at hm
        simp [mt] at hm
      | succ n ih =>
        intro q hn hq hm
        cases hs : starAt M q
        · exact ⟨q, hq, by rw [hs]; simpa using hm⟩
        · rw [starAt_drop hs] at hm
          simp only [mt, Bool.or_eq_true] at hm
          rcases hm with hm | hm
          · exact ih (q + 1) (by omega) (h.shut q hq hs) hm
          · exact ⟨q, hq, by rw [hs, starAt_drop hs]; simpa using hm⟩
    rintro ⟨q, hq, hm⟩
    exact .inr (key _ q rfl hq hm)
theorem start_may {M : List Mn} {s : List Nat} : Nice M (spreadF M M.length [] 0) ∧ (may M (spreadF M M.length [] 0) s ↔ mt M s = true) := by
  refine ⟨(spreadF_nice (by omega) (by omega) (by simp) (by simp) (by simp) (by simp)).1, ?_⟩
  rw [spreadF_may (by omega) (by simp)]
  simp [may]
/-- At a text's end: is the last place the pattern's end? -/
theorem end_may {M : List Mn} {t : List Nat} (h : Nice M t) : may M t [] ↔ 0 < t.length ∧ t.getD (t.length - 1) 0 = M.length := by
  have hmem : may M t [] ↔ M.length ∈ t := by
    constructor
    · have key : ∀ n x, M.length - x = n → x ∈ t → mt (M.drop x) [] = true → M.length ∈ t := by
        intro n
        induction n with
        | zero =>
          intro x hn hx hm
          have := h.le x hx
          rwa [show M.length = x by omega]
        | succ n ih =>
          intro x hn hx hm
          cases hs : starAt M x
          · have hlt : x < M.length := by omega
            rw [List.drop_eq_getElem_cons hlt] at hm
            simp only [starAt, List.getElem?_eq_getElem hlt] at hs
            cases hc : M[x] with
            | star => rw [hc] at hs; cases hs
            | byte p => rw [hc] at hm; simp [mt] at hm
          · rw [starAt_drop hs, mt] at hm
            exact ih (x + 1) (by omega) (h.shut x hx hs) hm
      rintro ⟨x, hx, hm⟩
      exact key _ x rfl hx hm
    · intro hx
      exact ⟨_, hx, by rw [List.drop_eq_nil_of_le (Nat.le_refl _)]; simp [mt]⟩
  rw [hmem]
  constructor
  · intro hx
    obtain ⟨i, hi, he⟩ := List.mem_iff_getElem.1 hx
    refine ⟨by omega, ?_⟩
    have hl : t.length - 1 < t.length := by omega
    simp only [List.getD, List.getElem?_eq_getElem hl, Option.getD_some]
    have h1 := h.le _ (List.getElem_mem hl)
    by_cases e : i = t.length - 1
    · subst e; exact he
    · have := List.pairwise_iff_getElem.1 h.rise i (t.length - 1) hi hl (by omega)
      omega
  · rintro ⟨h0, h1⟩
    have hl : t.length - 1 < t.length := by omega
    simp only [List.getD, List.getElem?_eq_getElem hl, Option.getD_some] at h1
    rw [← h1]
    exact List.getElem_mem hl
end Pn
end Go.Proofs.Ytfjfgaefbldgbaa
