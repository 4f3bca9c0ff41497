/- What is written of parts is read as those parts. -/
import Derived.Test.YtgpnleenejjnmaaGreatDoorLxV
import Derived.Test.YtgpnleenejjnmaaGreatDoorUqB
namespace Go.Proofs.YtgpnleenejjnmaaGreatDoor
open Go.RowKit Go.Sort
namespace Lx
open Cls Pt Bd

/-! A text from a place on. -/
theorem rest_cons {s : ByteArray} {i : Nat} {c : UInt8} {l : List UInt8} (h : restAt s i = c :: l) : i < s.size ∧ byteAt s i = c ∧ restAt s (i + 1) = l := by
  have hi : i < s.size := by
    refine Classical.byContradiction fun hn => ?_
    rw [restAt_nil (by omega)] at h
    cases h
  rw [restAt_cons hi] at h
  exact ⟨hi, (List.cons.inj h).1, (List.cons.inj h).2⟩
theorem rest_app {s : ByteArray} {i : Nat} {l x : List UInt8} (h : restAt s i = l ++ x) : restAt s (i + l.length) = x := by
  have h1 : restAt s (i + l.length) = (restAt s i).drop l.length := by unfold restAt; rw [List.drop_drop]
  rw [h1, h, List.drop_left]
theorem rest_le {s : ByteArray} {i : Nat} {l x : List UInt8} (h : restAt s i = l ++ x) (hi : i ≤ s.size) : i + l.length ≤ s.size := by
  have := congrArg List.length h
  rw [restAt_len, List.length_append] at this
  omega
theorem ba_ext {a b : ByteArray} (h : a.data.toList = b.data.toList) : a = b := bytes_inj (by rw [Lib.toList_data, Lib.toList_data, h])
theorem ba_list (t : ByteArray) : (⟨t.data.toList.toArray⟩ : ByteArray) = t := ba_ext (by simp)

/-! Steps of the reading. -/
def StepB (s : ByteArray) (d i : Nat) (a : A) (i' : Nat) (a' : A) : Prop := ∀ n, s.size < i + n → ∃ n', s.size < i' + n' ∧ bareF n s d a i = bareF n' s d a' i'
def StepM (s : ByteArray) (ec d i : Nat) (a : A) (i' : Nat) (a' : A) : Prop := ∀ n, s.size < i + n → ∃ n', s.size < i' + n' ∧ markedF n s ec d a i = markedF n' s ec d a' i'
theorem StepB.refl (s : ByteArray) (d i : Nat) (a : A) : StepB s d i a i a := fun n h => ⟨n, h, rfl⟩
theorem StepM.refl (s : ByteArray) (ec d i : Nat) (a : A) : StepM s ec d i a i a := fun n h => ⟨n, h, rfl⟩
theorem StepB.trans {s : ByteArray} {d i i' i'' : Nat} {a a' a'' : A} (h1 : StepB s d i a i' a') (h2 : StepB s d i' a' i'' a'') : StepB s d i a i'' a'' := fun n h => by
  obtain ⟨n1, g1, e1⟩ := h1 n h
  obtain ⟨n2, g2, e2⟩ := h2 n1 g1
  exact ⟨n2, g2, e1.trans e2⟩
theorem StepM.trans {s : ByteArray} {ec d i i' i'' : Nat} {a a' a'' : A} (h1 : StepM s ec d i a i' a') (h2 : StepM s ec d i' a' i'' a'') : StepM s ec d i a i'' a'' := fun n h => by
  obtain ⟨n1, g1, e1⟩ := h1 n h
  obtain ⟨n2, g2, e2⟩ := h2 n1 g1
  exact ⟨n2, g2, e1.trans e2⟩

theorem text_text (a : A) (s s' : List UInt8) (q : Bool) : (a.text s q).text s' q = a.text (s ++ s') q := by
  obtain ⟨l, cur⟩ := a
  cases cur with
  | none => simp [A.text, A.begins, A.bytes]
  | some x =>
    obtain ⟨q', bs⟩ := x
    cases hq : (q' == q)
    · simp [A.text, A.begins, A.bytes, hq]
    · obtain rfl : q' = q := by simpa using hq
      simp [A.text, A.begins, A.bytes]

theorem ne_byte {c m : UInt8} {k : Int} (h : c ≠ m) (hk : (m.toNat : Int) = k) : ¬ ((c.toNat : Int) == k) = true := by
  intro e
  apply h
  apply UInt8.toNat_inj.1
  have := beq_iff_eq.1 e
  omega
theorem StepB.cast {s : ByteArray} {d i j j' : Nat} {a b b' : A} (h : StepB s d i a j b) (hj : j = j') (hb : b = b') : StepB s d i a j' b' := by subst hj hb; exact h
theorem StepM.cast {s : ByteArray} {ec d i j j' : Nat} {a b b' : A} (h : StepM s ec d i a j b) (hj : j = j') (hb : b = b') : StepM s ec d i a j' b' := by subst hj hb; exact h
theorem bare_put {s : ByteArray} {d i : Nat} {a : A} {c : UInt8} {x : List UInt8} (h : restAt s i = c :: x) (h39 : c ≠ 39) (h34 : c ≠ 34) (h92 : c ≠ 92) (h96 : c ≠ 96) (h36 : c ≠ 36) (hst : stopB d c.toNat = false) : StepB s d i a (i + 1) (a.text [c] false) := fun n hn => by
  obtain ⟨h1, h2, h3⟩ := rest_cons h
  obtain ⟨m, rfl⟩ : ∃ m, n = m + 1 := ⟨n - 1, by omega⟩
  refine ⟨m, by omega, ?_⟩
  have k39 : ¬ ((c.toNat : Int) == 39) = true := ne_byte h39 rfl
  have k34 : ¬ ((c.toNat : Int) == 34) = true := ne_byte h34 rfl
  have k92 : ¬ ((c.toNat : Int) == 92) = true := ne_byte h92 rfl
  have k96 : ¬ ((c.toNat : Int) == 96) = true := ne_byte h96 rfl
  have k36 : ¬ ((c.toNat : Int) == 36) = true := ne_byte h36 rfl
  rw [bareF, if_neg (by omega), h2, if_neg k39, if_neg k34, if_neg k92, if_neg k96, if_neg k36, if_neg (by rw [hst]; decide)]
theorem index_of {c : UInt8} : ∀ {u z : List UInt8}, c ∉ u → Lib.indexByte (u ++ c :: z) c = u.length
  | [], z, _ => by simp [Lib.indexByte]
  | b :: u, z, h => by
    have hb : (b == c) = false := by
      simp only [List.mem_cons, not_or] at h
      simpa using fun e => h.1 e.symm
    have ih := index_of (u := u) (z := z) (fun e => h (List.mem_cons_of_mem _ e))
    simp only [List.cons_append, Lib.indexByte, hb, ih]
    have : ((u.length : Int) == -1) = false := by simp
    simp [this]
theorem bare_single {s : ByteArray} {d i : Nat} {a : A} {u x : List UInt8} (h : restAt s i = 39 :: (u ++ 39 :: x)) (hu : (39 : UInt8) ∉ u) : StepB s d i a (i + u.length + 2) (a.text u true) := fun n hn => by
  obtain ⟨h1, h2, h3⟩ := rest_cons h
  obtain ⟨m, rfl⟩ : ∃ m, n = m + 1 := ⟨n - 1, by omega⟩
  refine ⟨m, by omega, ?_⟩
  rw [bareF, if_neg (by omega), h2, if_pos (by rfl), h3, index_of hu, if_pos (by omega), Int.toNat_natCast, List.take_left]
theorem bare_esc {s : ByteArray} {d i : Nat} {a : A} {c : UInt8} {x : List UInt8} (h : restAt s i = 92 :: c :: x) (h10 : c ≠ 10) : StepB s d i a (i + 2) (a.text [c] true) := fun n hn => by
  obtain ⟨h1, h2, h3⟩ := rest_cons h
  obtain ⟨h4, h5, _⟩ := rest_cons h3
  obtain ⟨m, rfl⟩ : ∃ m, n = m + 1 := ⟨n - 1, by omega⟩
  refine ⟨m, by omega, ?_⟩
  have k10 : ¬ ((c.toNat : Int) == 10) = true := ne_byte h10 rfl
  rw [bareF, if_neg (by omega), h2, if_neg (by decide), if_neg (by decide), if_pos (by rfl), if_neg (by omega), h5, escA, if_neg k10]
theorem bare_par {s : ByteArray} {d i j : Nat} {a : A} {x : List UInt8} {p : PL} (h : restAt s i = 36 :: x) (hij : i < j) (hp : ∀ n, s.size < i + n + 1 → paramF n s false (d + 1) i = .ok p j) : StepB s d i a j (a.add p) := fun n hn => by
  obtain ⟨h1, h2, h3⟩ := rest_cons h
  obtain ⟨m, rfl⟩ : ∃ m, n = m + 1 := ⟨n - 1, by omega⟩
  refine ⟨m, by omega, ?_⟩
  rw [bareF, if_neg (by omega), h2, if_neg (by decide), if_neg (by decide), if_neg (by decide), if_neg (by decide), if_pos (by rfl), hp m (by omega)]
theorem bare_dbl {s : ByteArray} {d i j : Nat} {a : A} {x z : List UInt8} {t o : ByteArray} {f : PL} (h : restAt s i = 34 :: 36 :: x) (hij : i + 2 < j) (hj : restAt s j = 34 :: z) (hp : ∀ n, s.size < i + 1 + n + 1 → paramF n s true (d + 1) (i + 1) = .ok (one 2 true t o f) j) : StepB s d i a (j + 1) (a.add (one 2 true t o f)) := fun n hn => by
  obtain ⟨h1, h2, h3⟩ := rest_cons h
  obtain ⟨h4, h5, _⟩ := rest_cons h3
  obtain ⟨h6, h7, _⟩ := rest_cons hj
  obtain ⟨m, rfl⟩ : ∃ m, n = m + 3 := ⟨n - 3, by omega⟩
  refine ⟨m + 2, by omega, ?_⟩
  rw [bareF, if_neg (by omega), h2, if_neg (by decide), if_pos (by rfl)]
  have hM : markedF (m + 2) s 34 d A0 (i + 1) = .ok (one 2 true t o f) j := by
    rw [markedF, if_neg (by omega), h5, if_neg (by decide), if_neg (by decide), if_pos (by rfl), hp (m + 1) (by omega)]
    show markedF (m + 1) s 34 d (A0.add (one 2 true t o f)) j = _
    rw [markedF, if_neg (by omega), h7, if_pos (by rfl)]
    rfl
  rw [hM]
  show (if s.size ≤ j then Out.bad i 1 else bareF (m + 2) s d (a.join (nz (one 2 true t o f))) (j + 1)) = _
  rw [if_neg (by omega)]
  rfl
theorem mark_put {s : ByteArray} {d i : Nat} {a : A} {c : UInt8} {x : List UInt8} (h : restAt s i = c :: x) (he : escB c.toNat = false) : StepM s 125 d i a (i + 1) (a.text [c] true) := fun n hn => by
  obtain ⟨h1, h2, h3⟩ := rest_cons h
  obtain ⟨m, rfl⟩ : ∃ m, n = m + 1 := ⟨n - 1, by omega⟩
  refine ⟨m, by omega, ?_⟩
  simp only [escB, Bool.or_eq_false_iff] at he
  obtain ⟨⟨⟨⟨e1, e2⟩, e3⟩, e4⟩, e5⟩ := he
  have e5' : ¬ ((c.toNat : Int) == ((125 : Nat) : Int)) = true := by rw [Bool.not_eq_true]; exact e5
  rw [markedF, if_neg (by omega), h2, if_neg e5', if_neg (by rw [e1, e4]; decide), if_neg (by rw [e2]; decide), if_neg (by rw [e3]; decide)]
theorem mark_esc {s : ByteArray} {d i : Nat} {a : A} {c : UInt8} {x : List UInt8} (h : restAt s i = 92 :: c :: x) (he : escB c.toNat = true) : StepM s 125 d i a (i + 2) (a.text [c] true) := fun n hn => by
  obtain ⟨h1, h2, h3⟩ := rest_cons h
  obtain ⟨m, rfl⟩ : ∃ m, n = m + 1 := ⟨n - 1, by omega⟩
  refine ⟨m, by omega, ?_⟩
  have hs : slashR 125 (c :: x) a = (a.text [c] true, 2) := by
    unfold slashR
    have h10 : seesB (c :: x) 10 = false := by
      simp only [seesB, beq_eq_false_iff_ne]
      intro e
      simp only [escB, Bool.or_eq_true, beq_iff_eq] at he
      omega
    have hany : (seesB (c :: x) 34 || seesB (c :: x) 36 || seesB (c :: x) 92 || seesB (c :: x) 96 || seesB (c :: x) 125) = true := he
    rw [h10, hany]
    rfl
  rw [markedF, if_neg (by omega), h2, if_neg (by decide), if_neg (by decide), if_neg (by decide), if_pos (by rfl), h3, hs]
theorem mark_par {s : ByteArray} {d i j : Nat} {a : A} {x : List UInt8} {p : PL} (h : restAt s i = 36 :: x) (hij : i < j) (hp : ∀ n, s.size < i + n + 1 → paramF n s true (d + 1) i = .ok p j) : StepM s 125 d i a j (a.add p) := fun n hn => by
  obtain ⟨h1, h2, h3⟩ := rest_cons h
  obtain ⟨m, rfl⟩ : ∃ m, n = m + 1 := ⟨n - 1, by omega⟩
  refine ⟨m, by omega, ?_⟩
  rw [markedF, if_neg (by omega), h2, if_neg (by decide), if_neg (by decide), if_pos (by rfl), hp m (by omega)]

/-! Texts. -/
theorem bare_more {s : ByteArray} {d : Nat} (hd : ∀ c : UInt8, standsB c.toNat (plc d) = true → c ≠ 39 ∧ c ≠ 34 ∧ c ≠ 92 ∧ c ≠ 96 ∧ c ≠ 36 ∧ stopB d c.toNat = false) : ∀ (t x : List UInt8) (i : Nat) (a : A) (u : List UInt8), restAt s i = t ++ x → (t.all fun c => standsB c.toNat (plc d)) = true →
    StepB s d i (a.text u false) (i + t.length) (a.text (u ++ t) false)
  | [], _, i, a, u, _, _ => by rw [List.append_nil]; exact StepB.refl _ _ _ _
  | c :: t, x, i, a, u, h, ht => by
    simp only [List.all_cons, Bool.and_eq_true] at ht
    obtain ⟨g1, g2, g3, g4, g5, g6⟩ := hd c ht.1
    have h1 := bare_put (d := d) (a := a.text u false) h g1 g2 g3 g4 g5 g6
    rw [text_text] at h1
    have h2 := bare_more hd t x (i + 1) a (u ++ [c]) (rest_cons h).2.2 ht.2
    exact (h1.trans h2).cast (by simp; omega) (by simp)
theorem bare_text {s : ByteArray} {d : Nat} (hd : ∀ c : UInt8, standsB c.toNat (plc d) = true → c ≠ 39 ∧ c ≠ 34 ∧ c ≠ 92 ∧ c ≠ 96 ∧ c ≠ 36 ∧ stopB d c.toNat = false) {t x : List UInt8} {i : Nat} {a : A} (h : restAt s i = t ++ x) (ht : textOK false t (plc d) = true) :
    StepB s d i a (i + t.length) (a.text t false) := by
  simp only [textOK, Bool.false_eq_true, if_false, Bool.and_eq_true] at ht
  cases t with
  | nil => simp at ht
  | cons c t =>
    have ht1 := ht.1
    simp only [List.all_cons, Bool.and_eq_true] at ht1
    obtain ⟨g1, g2, g3, g4, g5, g6⟩ := hd c ht1.1
    have h1 := bare_put (d := d) (a := a) h g1 g2 g3 g4 g5 g6
    have h2 := bare_more hd t x (i + 1) a [c] (rest_cons h).2.2 ht1.2
    exact (h1.trans h2).cast (by simp; omega) (by simp)
theorem split39 : ∀ t : List UInt8, ∃ u r, t = u ++ r ∧ (39 : UInt8) ∉ u ∧ (r = [] ∨ ∃ v, r = 39 :: v)
  | [] => ⟨[], [], rfl, by simp, .inl rfl⟩
  | c :: t => by
    by_cases hc : c = 39
    · subst hc
      exact ⟨[], 39 :: t, rfl, by simp, .inr ⟨t, rfl⟩⟩
    · obtain ⟨u, r, rfl, h1, h2⟩ := split39 t
      refine ⟨c :: u, r, rfl, ?_, h2⟩
      simp only [List.mem_cons, not_or]
      exact ⟨fun e => hc e.symm, h1⟩
theorem bare_quote {s : ByteArray} {d : Nat} : ∀ (n : Nat) (t x : List UInt8) (i : Nat) (a : A), t.length < n → restAt s i = quoteL t ++ x → StepB s d i a (i + (quoteL t).length) (a.text t true) := by
  intro n
  induction n with
  | zero => intro _ _ _ _ h; omega
  | succ n ih =>
    intro t x i a hn h
    obtain ⟨u, r, rfl, hu, hr⟩ := split39 t
    rcases hr with rfl | ⟨v, rfl⟩
    · have hq : quoteL (u ++ []) = 39 :: (u ++ [39]) := by rw [List.append_nil, quoteL, marks_none hu]
      rw [hq] at h ⊢
      have := bare_single (d := d) (a := a) (u := u) (x := x) (by simpa using h) hu
      simpa [Nat.add_assoc] using this
    · have hq : quoteL (u ++ 39 :: v) = 39 :: (u ++ 39 :: 92 :: 39 :: quoteL v) := by
        simp only [quoteL, marksL, List.flatMap_append, List.flatMap_cons]
        have := marks_none hu
        unfold marksL at this
        rw [this]
        simp
      rw [hq] at h ⊢
      have h1 := bare_single (d := d) (a := a) (u := u) (x := 92 :: 39 :: (quoteL v ++ x)) (by simpa using h) hu
      have r1 : restAt s (i + u.length + 2) = 92 :: 39 :: (quoteL v ++ x) := by
        have := rest_app (s := s) (i := i) (l := 39 :: (u ++ [39])) (x := 92 :: 39 :: (quoteL v ++ x)) (by simpa using h)
        simpa [Nat.add_assoc] using this
      have h2 := bare_esc (d := d) (a := a.text u true) r1 (by decide)
      rw [text_text] at h2
      have r2 := (rest_cons (rest_cons r1).2.2).2.2
      have h3 := ih v x (i + u.length + 2 + 1 + 1) (a.text (u ++ [39]) true) (by simp at hn; omega) r2
      rw [text_text] at h3
      exact ((h1.trans h2).trans h3).cast (by simp; omega) (by simp)
theorem mark_one {s : ByteArray} {d i : Nat} {a : A} {c : UInt8} {x : List UInt8} (h : restAt s i = (if escB c.toNat then [92, c] else [c]) ++ x) : StepM s 125 d i a (i + (if escB c.toNat then [92, c] else [c]).length) (a.text [c] true) := by
  cases he : escB c.toNat
  · rw [he] at h
    exact mark_put h he
  · rw [he] at h
    exact mark_esc h he
theorem mark_more {s : ByteArray} {d : Nat} : ∀ (t x : List UInt8) (i : Nat) (a : A) (u : List UInt8), restAt s i = escL t ++ x → StepM s 125 d i (a.text u true) (i + (escL t).length) (a.text (u ++ t) true)
  | [], _, i, a, u, _ => by rw [List.append_nil]; exact StepM.refl _ _ _ _ _
  | c :: t, x, i, a, u, h => by
    rw [Uq.esc_cons, List.append_assoc] at h
    have h1 := mark_one (d := d) (a := a.text u true) h
    rw [text_text] at h1
    have h2 := mark_more (d := d) t x _ a (u ++ [c]) (rest_app h)
    have := h1.trans h2
    rw [Uq.esc_cons, List.length_append, ← Nat.add_assoc]
    simpa [List.append_assoc] using this
theorem mark_text {s : ByteArray} {d i : Nat} {a : A} {t x : List UInt8} (h : restAt s i = escL t ++ x) (ht : textOK true t 2 = true) : StepM s 125 d i a (i + (escL t).length) (a.text t true) := by
  cases t with
  | nil => simp [textOK] at ht
  | cons c t =>
    rw [Uq.esc_cons, List.append_assoc] at h
    have h1 := mark_one (d := d) (a := a) h
    have h2 := mark_more (d := d) t x _ a [c] (rest_app h)
    have := h1.trans h2
    rw [Uq.esc_cons, List.length_append, ← Nat.add_assoc]
    simpa using this
theorem plc_stands (d : Nat) (c : UInt8) (h : standsB c.toNat (plc d) = true) : c ≠ 39 ∧ c ≠ 34 ∧ c ≠ 92 ∧ c ≠ 96 ∧ c ≠ 36 ∧ stopB d c.toNat = false := by
  have hlt : c.toNat < 256 := UInt8.toNat_lt c
  have key0 : ∀ n : Fin 256, standsB n 0 = true → n.val ≠ 39 ∧ n.val ≠ 34 ∧ n.val ≠ 92 ∧ n.val ≠ 96 ∧ n.val ≠ 36 ∧ bareB n.val = true := by decide +kernel
  have key1 : ∀ n : Fin 256, standsB n 1 = true → n.val ≠ 39 ∧ n.val ≠ 34 ∧ n.val ≠ 92 ∧ n.val ≠ 96 ∧ n.val ≠ 36 ∧ n.val ≠ 125 := by decide +kernel
  have ne : ∀ m : UInt8, c.toNat ≠ m.toNat → c ≠ m := fun m h e => h (by rw [e])
  unfold plc at h
  split at h
  · rename_i hd
    subst hd
    obtain ⟨g1, g2, g3, g4, g5, g6⟩ := key0 ⟨c.toNat, hlt⟩ h
    refine ⟨ne 39 g1, ne 34 g2, ne 92 g3, ne 96 g4, ne 36 g5, ?_⟩
    have g6' : bareB c.toNat = true := g6
    simp [stopB, g6']
  · rename_i hd
    obtain ⟨g1, g2, g3, g4, g5, g6⟩ := key1 ⟨c.toNat, hlt⟩ h
    refine ⟨ne 39 g1, ne 34 g2, ne 92 g3, ne 96 g4, ne 36 g5, ?_⟩
    have g6' : c.toNat ≠ 125 := g6
    simp only [stopB, Bool.or_eq_false_iff, Bool.and_eq_false_iff]
    refine ⟨.inl ?_, .inr ?_⟩
    · simp; omega
    · simp only [beq_eq_false_iff_ne]; omega

/-! Names and operators. -/
theorem run_app {p : Nat → Bool} : ∀ {t z : List UInt8}, (t.all fun c => p c.toNat) = true → (∀ c y, z = c :: y → p c.toNat = false) → runLen p (t ++ z) = t.length
  | [], z, _, h => by
    cases z with
    | nil => rfl
    | cons c y => simp [runLen, h c y rfl]
  | c :: t, z, ht, h => by
    simp only [List.all_cons, Bool.and_eq_true] at ht
    simp only [List.cons_append, runLen, ht.1, if_true, run_app ht.2 h, List.length_cons]
theorem nameLen_app {t z : List UInt8} {d : Nat} (ht : paramL t = true) (hz : ∃ c y, z = c :: y ∧ Uq.wordC c = false) (hd : t.length ≤ d) : nameLen (t ++ z) d = t.length := by
  obtain ⟨cz, y, rfl, hcz⟩ := hz
  have hcz' : letterB cz.toNat = false ∧ digitB cz.toNat = false := by simpa [Uq.wordC] using hcz
  cases t with
  | nil => exact absurd ht (by decide)
  | cons c t =>
    have hsh := Uq.param_shape ht
    simp only [List.cons_append, nameLen]
    split
    · rename_i hl
      rcases hsh with ⟨_, h2⟩ | ⟨c', h2, h3⟩
      · exact run_app (t := c :: t) (z := cz :: y) (p := Lx.wordB) h2 (fun c' y' e => by cases e; simp [Lx.wordB, hcz'])
      · cases h2
        simp [Uq.wordC, hl] at h3
    · rename_i hl
      have hl' : letterB c.toNat = false := by simpa using hl
      have hnn : nameL (c :: t) = false := by
        cases h : nameL (c :: t)
        · rfl
        · simp only [nameL, decide_eq_true_eq] at h
          have := h.2 0 (by simp)
          simp [okB, hl'] at this
      split
      · rename_i hdg
        have hsp : specialL (c :: t) = false := by
          cases h : specialL (c :: t)
          · rfl
          · simp only [specialL, Bool.or_eq_true, beq_iff_eq, List.cons.injEq] at h
            rcases h with ((((h | h) | h) | h) | h) | h <;> (rw [h.1] at hdg; exact absurd hdg (by decide))
        have hnum : numberL (c :: t) = true := by simpa [paramL, hnn, hsp] using ht
        simp only [numberL, Bool.and_eq_true] at hnum
        have := run_app (t := c :: t) (z := cz :: y) (p := digitB) hnum.2 (fun c' y' e => by cases e; exact hcz'.2)
        simp only [List.cons_append] at this
        rw [this]
        exact Nat.min_eq_left hd
      · rename_i hdg
        have hnum : numberL (c :: t) = false := by
          cases h : numberL (c :: t)
          · rfl
          · simp only [numberL, Bool.and_eq_true, digitsL, List.all_cons] at h
            exact absurd h.2.1 hdg
        have hsp : specialL (c :: t) = true := by simpa [paramL, hnn, hnum] using ht
        have ht0 : t = [] := by
          simp only [specialL, Bool.or_eq_true, beq_iff_eq, List.cons.injEq] at hsp
          rcases hsp with ((((h | h) | h) | h) | h) | h <;> exact h.2
        subst ht0
        rw [if_pos ht]
        rfl
theorem opLen_app {o F z : List UInt8} (ho : o ∈ Uq.opL) (hF : o = [] → F = []) : opLen (o ++ (F ++ 125 :: z)) = o.length := by
  simp only [Uq.opL, List.mem_cons, List.not_mem_nil, or_false] at ho
  rcases ho with rfl | rfl | rfl | rfl | rfl | rfl | rfl | rfl | rfl
  · rw [hF rfl]; rfl
  all_goals rfl
theorem op_suf {o : List UInt8} (ho : o ∈ Uq.opL) : sufEq o = isSet o := by
  simp only [Uq.opL, List.mem_cons, List.not_mem_nil, or_false] at ho
  rcases ho with rfl | rfl | rfl | rfl | rfl | rfl | rfl | rfl | rfl
  all_goals rfl
theorem set_name {t o : List UInt8} (h : nameOK t o = true) (hs : isSet o = true) : nameL t = true := by
  unfold nameOK at h
  rwa [if_pos hs] at h

/-- A parameter's text is read as that parameter. -/
theorem param_read {s : ByteArray} {q : Bool} {D i : Nat} {t o : ByteArray} {f : PL} {x : List UInt8} (hi : i ≤ s.size) (h : restAt s i = 36 :: 123 :: (t.data.toList ++ (o.data.toList ++ (textL f (wth q) ++ 125 :: x)))) (hD : D ≤ 200) (hn : nameOK t.data.toList o.data.toList = true) (hof : o.data.toList = [] → f = .nil)
    (hf : ∀ j n, restAt s j = textL f (wth q) ++ 125 :: x → j ≤ s.size → s.size < j + n → (if q then markedF n s 125 D A0 j else bareF n s D A0 j) = .ok f (j + (textL f (wth q)).length)) (n : Nat) (hsz : s.size < i + n + 1) :
    paramF n s q D i = .ok (one 2 q t o f) (i + (3 + t.data.toList.length + o.data.toList.length + (textL f (wth q)).length)) := by
  obtain ⟨h1, h2, h3⟩ := rest_cons h
  obtain ⟨h4, h5, h6⟩ := rest_cons h3
  obtain ⟨np, no⟩ := Uq.nameOK_of hn
  have hF : o.data.toList = [] → textL f (wth q) = [] := fun e => by rw [hof e]; rfl
  have h6' : restAt s (i + 2) = t.data.toList ++ (o.data.toList ++ (textL f (wth q) ++ 125 :: x)) := h6
  have htl : t.data.toList.length ≤ s.size := by have := rest_le h6' (by omega); omega
  have hnl : nameLen (restAt s (i + 2)) s.size = t.data.toList.length := by rw [h6']; exact nameLen_app np (Uq.op_word no hF) htl
  have h7 : restAt s (i + 2 + t.data.toList.length) = o.data.toList ++ (textL f (wth q) ++ 125 :: x) := rest_app h6'
  have hol : opLen (restAt s (i + 2 + t.data.toList.length)) = o.data.toList.length := by rw [h7]; exact opLen_app no hF
  have h8 : restAt s (i + 2 + t.data.toList.length + o.data.toList.length) = textL f (wth q) ++ 125 :: x := rest_app h7
  have l8 : i + 2 + t.data.toList.length + o.data.toList.length ≤ s.size := by have := rest_le h6' (by omega); have := rest_le h7 (by omega); omega
  have h9 : restAt s (i + 2 + t.data.toList.length + o.data.toList.length + (textL f (wth q)).length) = 125 :: x := rest_app h8
  have et : s.extract (i + 2) (i + 2 + t.data.toList.length) = t := ba_ext (by rw [extract_mid, h6', List.take_left])
  have eo : s.extract (i + 2 + t.data.toList.length) (i + 2 + t.data.toList.length + o.data.toList.length) = o := ba_ext (by rw [extract_mid, h7, List.take_left])
  have tt : (restAt s (i + 2)).take t.data.toList.length = t.data.toList := by rw [h6', List.take_left]
  have t2 : (restAt s (i + 2 + t.data.toList.length)).take o.data.toList.length = o.data.toList := by rw [h7, List.take_left]
  obtain ⟨m, rfl⟩ : ∃ m, n = m + 1 := ⟨n - 1, by omega⟩
  rw [paramF, if_neg (by omega), if_pos (by rw [h3]; rfl)]
  simp only [hnl, hol, tt, t2, et, eo]
  rw [if_neg (by
    rw [np, op_suf no]
    intro hc
    simp only [Bool.not_true, Bool.false_or, Bool.and_eq_true, Bool.not_eq_true'] at hc
    rw [set_name hn hc.1] at hc
    cases hc.2)]
  by_cases ho : o.data.toList.length = 0
  · have hol0 : o.data.toList = [] := List.length_eq_zero_iff.1 ho
    have hfn := hof hol0
    subst hfn
    have heo : o = ⟨#[]⟩ := ba_ext hol0
    rw [if_pos ho, if_pos (by rw [h7, hol0]; rfl), heo]
    simp only [textL, List.length_nil]
    show Out.ok _ _ = Out.ok _ _
    congr 1
    simp; omega
  · rw [if_neg ho, hf _ m h8 l8 (by omega)]
    show (if seesB (restAt s (i + 2 + t.data.toList.length + o.data.toList.length + (textL f (wth q)).length)) 125 = true then Out.ok (one 2 q t o f) (i + 2 + t.data.toList.length + o.data.toList.length + (textL f (wth q)).length + 1) else Out.bad i 1) = _
    rw [h9, if_pos (by rfl)]
    congr 1
    omega

/-- Parts come as they were. -/
theorem join_flush : ∀ (m : PL) (p : Option (Int × Bool)) (a : A) (at' d : Nat), rightL p m at' d = true → (∀ q bs, a.cur = some (q, bs) → p = some (1, q)) → (a.join m).flush = a.flush.app m
  | .nil, _, a, _, _, _, _ => by rw [A.join_nil, PL.app_nil]
  | .cons k q t o f r, p, a, at', d, h, hc => by
    obtain ⟨_, hk, hr, hp⟩ := Uq.right_parts h
    rw [A.join_cons]
    rcases hp with ⟨rfl, ho, rfl, _⟩ | ⟨rfl, _⟩
    · have hfl : (a.text t.data.toList q).flush = a.flush.app (.cons 1 q t o .nil .nil) ∧ (a.text t.data.toList q).cur.map (·.1) = some q := by
        have hlit : A.lit q t.data.toList = .cons 1 q t o .nil .nil := by
          rw [A.lit, ba_list, show o = ⟨#[]⟩ from ba_ext ho]
        obtain ⟨l, cur⟩ := a
        match cur, hc with
        | none, _ => exact ⟨by rw [← hlit]; rfl, rfl⟩
        | some (q', bs), hc =>
          have hq : (q' == q) = false := by
            cases hq : (q' == q)
            · rfl
            · obtain rfl : q' = q := by simpa using hq
              exact absurd rfl (hk (hc _ _ rfl))
          have he : A.text ⟨l, some (q', bs)⟩ t.data.toList q = ⟨A.flush ⟨l, some (q', bs)⟩, some (q, t.data.toList)⟩ := by simp [A.text, A.begins, hq, A.bytes]
          rw [he]
          exact ⟨by rw [← hlit]; rfl, rfl⟩
      have hst : a.step 1 q t o .nil = a.text t.data.toList q := by unfold A.step; rw [if_pos (by rfl)]
      rw [hst, join_flush r (some (1, q)) _ at' d hr (fun q' bs he => by
        have := hfl.2
        rw [he] at this
        simp only [Option.map_some, Option.some.injEq] at this
        rw [this]), hfl.1, PL.app_assoc]
      rfl
    · have hst : a.step 2 q t o f = a.add (one 2 q t o f) := by unfold A.step; rw [if_neg (by decide)]
      rw [hst, join_flush r (some (2, q)) _ at' d hr (fun q' bs he => by cases he)]
      show (a.flush.app (one 2 q t o f)).app r = _
      rw [PL.app_assoc]
      rfl

theorem read_all : ∀ l : PL, (∀ (s : ByteArray) (d i : Nat) (a : A) (x : List UInt8) (p : Option (Int × Bool)), rightL p l (plc d) (d + 1) = true → restAt s i = textL l (plc d) ++ x → i ≤ s.size → StepB s d i a (i + (textL l (plc d)).length) (a.join l)) ∧
    (∀ (s : ByteArray) (d i : Nat) (a : A) (x : List UInt8) (p : Option (Int × Bool)), rightL p l 2 (d + 1) = true → restAt s i = textL l 2 ++ x → i ≤ s.size → StepM s 125 d i a (i + (textL l 2).length) (a.join l)) := by
  intro l
  induction l with
  | nil => exact ⟨fun s d i a x p _ _ _ => StepB.refl _ _ _ _, fun s d i a x p _ _ _ => StepM.refl _ _ _ _ _⟩
  | cons k q t o f r ihf ihr =>
    have hpar : ∀ (s : ByteArray) (D i : Nat) (x : List UInt8), i ≤ s.size → restAt s i = 36 :: 123 :: (t.data.toList ++ (o.data.toList ++ (textL f (wth q) ++ 125 :: x))) → partOK 2 q t o f 0 D = true → 0 < D → ∀ n, s.size < i + n + 1 →
        paramF n s q D i = .ok (one 2 q t o f) (i + (3 + t.data.toList.length + o.data.toList.length + (textL f (wth q)).length)) := by
      intro s D i x hi h hp hD0 n hn
      unfold partOK at hp
      simp only [if_neg (show ¬ (((2 : Int) == 1) = true) by decide), if_pos (show ((2 : Int) == 2) = true by decide), Bool.and_eq_true, decide_eq_true_eq, Bool.or_eq_true] at hp
      obtain ⟨⟨⟨hD, hno⟩, hof⟩, hrf⟩ := hp
      refine param_read hi h hD hno (fun e => ?_) (fun j n hj hjs hjn => ?_) n hn
      · rcases hof with h5 | h5
        · simp [e] at h5
        · exact Uq.len_nil h5
      · have h9 := rest_app hj
        obtain ⟨g1, g2, _⟩ := rest_cons h9
        cases q with
        | true =>
          obtain ⟨n', e1, e2⟩ := ihf.2 s D j A0 _ none hrf hj hjs n hjn
          rw [if_pos rfl]
          show markedF n s 125 D A0 j = _
          rw [e2]
          obtain ⟨m, rfl⟩ : ∃ m, n' = m + 1 := ⟨n' - 1, by
            have : s.size < j + (textL f (wth true)).length + n' := e1
            omega⟩
          show markedF (m + 1) s 125 D (A0.join f) (j + (textL f (wth true)).length) = _
          rw [markedF, if_neg (by omega), g2, if_pos (by rfl), join_flush f none A0 _ _ hrf (fun _ _ h => by cases h)]
          rfl
        | false =>
          have hpl : plc D = 1 := if_neg (by omega)
          obtain ⟨n', e1, e2⟩ := ihf.1 s D j A0 (125 :: x) none (by rw [hpl]; exact hrf) (by rw [hpl]; exact hj) hjs n hjn
          rw [hpl] at e1 e2
          rw [if_neg (by decide)]
          show bareF n s D A0 j = _
          rw [e2]
          obtain ⟨m, rfl⟩ : ∃ m, n' = m + 1 := ⟨n' - 1, by
            have : s.size < j + (textL f (wth false)).length + n' := e1
            omega⟩
          show bareF (m + 1) s D (A0.join f) (j + (textL f (wth false)).length) = _
          rw [bareF, if_neg (by omega), g2, if_neg (by decide), if_neg (by decide), if_neg (by decide), if_neg (by decide), if_neg (by decide), if_pos (by simp [stopB, hD0]), join_flush f none A0 _ _ hrf (fun _ _ h => by cases h)]
          rfl
    refine ⟨?_, ?_⟩
    · intro s d i a x p h hr hi
      rw [right_cons] at h
      simp only [Bool.and_eq_true] at h
      obtain ⟨⟨⟨_, _⟩, hp⟩, hrr⟩ := h
      rw [textL_cons, List.append_assoc] at hr
      rw [textL_cons, List.length_append, ← Nat.add_assoc, A.join_cons]
      have hr2 := rest_app hr
      refine StepB.trans ?_ (ihr.1 s d _ _ x _ hrr hr2 (rest_le hr hi))
      cases hk : (k == 1)
      · obtain ⟨rfl, hp2⟩ := part_two hk hp
        have hst : a.step 2 q t o f = a.add (one 2 q t o f) := by unfold A.step; rw [if_neg (by decide)]
        rw [hst]
        cases q with
        | false =>
          have hpt : partT 2 false t o f (plc d) = 36 :: 123 :: (t.data.toList ++ (o.data.toList ++ (textL f (wth false) ++ [125]))) := by simp [partT, paramT]
          rw [hpt] at hr ⊢
          have hr3 : restAt s i = 36 :: 123 :: (t.data.toList ++ (o.data.toList ++ (textL f (wth false) ++ 125 :: (textL r (plc d) ++ x)))) := by rw [hr]; simp
          have := bare_par (a := a) (d := d) hr3 (by omega) (hpar s (d + 1) i _ hi hr3 hp2 (by omega))
          exact this.cast (by simp; omega) rfl
        | true =>
          have hpt : partT 2 true t o f (plc d) = 34 :: 36 :: 123 :: (t.data.toList ++ (o.data.toList ++ (textL f (wth true) ++ [125, 34]))) := by
            have := plc2 d
            simp [partT, paramT, this]
          rw [hpt] at hr ⊢
          have hr3 : restAt s i = 34 :: 36 :: 123 :: (t.data.toList ++ (o.data.toList ++ (textL f (wth true) ++ 125 :: 34 :: (textL r (plc d) ++ x)))) := by rw [hr]; simp
          obtain ⟨g1, _, g3⟩ := rest_cons hr3
          have hP := hpar s (d + 1) (i + 1) _ (by omega) g3 hp2 (by omega)
          have hj : restAt s (i + 1 + (3 + t.data.toList.length + o.data.toList.length + (textL f (wth true)).length)) = 34 :: (textL r (plc d) ++ x) := by
            have := rest_app (s := s) (i := i + 1) (l := 36 :: 123 :: (t.data.toList ++ (o.data.toList ++ (textL f (wth true) ++ [125])))) (x := 34 :: (textL r (plc d) ++ x)) (by rw [g3]; simp)
            rw [← this]
            congr 1
            simp; omega
          have := bare_dbl (a := a) (d := d) hr3 (by omega) hj hP
          exact this.cast (by simp; omega) rfl
      · obtain rfl : k = 1 := by simpa using hk
        have hst : a.step 1 q t o f = a.text t.data.toList q := by unfold A.step; rw [if_pos (by rfl)]
        rw [hst]
        unfold partOK at hp
        simp only [if_pos (show ((1 : Int) == 1) = true by decide), Bool.and_eq_true] at hp
        have hpt : partT 1 q t o f (plc d) = if q then quoteL t.data.toList else t.data.toList := by
          simp [partT, plc2 d]
        rw [hpt] at hr ⊢
        cases q with
        | false => exact bare_text (plc_stands d) hr hp.2
        | true => exact bare_quote _ _ _ _ _ (Nat.lt_succ_self _) hr
    · intro s d i a x p h hr hi
      rw [right_cons] at h
      simp only [Bool.and_eq_true, Bool.not_eq_true'] at h
      obtain ⟨⟨⟨hq, _⟩, hp⟩, hrr⟩ := h
      obtain rfl : q = true := by cases q <;> simp_all
      rw [textL_cons, List.append_assoc] at hr
      rw [textL_cons, List.length_append, ← Nat.add_assoc, A.join_cons]
      have hr2 := rest_app hr
      refine StepM.trans ?_ (ihr.2 s d _ _ x _ hrr hr2 (rest_le hr hi))
      cases hk : (k == 1)
      · obtain ⟨rfl, hp2⟩ := part_two hk hp
        have hst : a.step 2 true t o f = a.add (one 2 true t o f) := by unfold A.step; rw [if_neg (by decide)]
        rw [hst]
        have hpt : partT 2 true t o f 2 = 36 :: 123 :: (t.data.toList ++ (o.data.toList ++ (textL f (wth true) ++ [125]))) := by simp [partT, paramT]
        rw [hpt] at hr ⊢
        have hr3 : restAt s i = 36 :: 123 :: (t.data.toList ++ (o.data.toList ++ (textL f (wth true) ++ 125 :: (textL r 2 ++ x)))) := by rw [hr]; simp
        have := mark_par (a := a) (d := d) hr3 (by omega) (hpar s (d + 1) i _ hi hr3 hp2 (by omega))
        exact this.cast (by simp; omega) rfl
      · obtain rfl : k = 1 := by simpa using hk
        have hst : a.step 1 true t o f = a.text t.data.toList true := by unfold A.step; rw [if_pos (by rfl)]
        rw [hst]
        unfold partOK at hp
        simp only [if_pos (show ((1 : Int) == 1) = true by decide), Bool.and_eq_true] at hp
        have hpt : partT 1 true t o f 2 = escL t.data.toList := by simp [partT]
        rw [hpt] at hr ⊢
        exact mark_text hr hp.2

/-- A right word, with a blank behind it, is read as that word. -/
theorem word_read {s : ByteArray} {i : Nat} {l : PL} {x : List UInt8} (h : rightL none l 0 1 = true) (hr : restAt s i = textL l 0 ++ 32 :: x) (hi : i ≤ s.size) : bareF (s.size + 1) s 0 A0 i = .ok l (i + (textL l 0).length) := by
  have h9 := rest_app hr
  obtain ⟨g1, g2, _⟩ := rest_cons h9
  obtain ⟨n', e1, e2⟩ := (read_all l).1 s 0 i A0 _ none h hr hi (s.size + 1) (by omega)
  rw [e2]
  have e1' : s.size < i + (textL l 0).length + n' := e1
  obtain ⟨m, rfl⟩ : ∃ m, n' = m + 1 := ⟨n' - 1, by omega⟩
  show bareF (m + 1) s 0 (A0.join l) (i + (textL l 0).length) = _
  rw [bareF, if_neg (by omega), g2, if_neg (by decide), if_neg (by decide), if_neg (by decide), if_neg (by decide), if_neg (by decide), if_pos (by decide), join_flush l none A0 _ _ h (fun _ _ h => by cases h)]
  rfl
end Lx
end Go.Proofs.YtgpnleenejjnmaaGreatDoor
