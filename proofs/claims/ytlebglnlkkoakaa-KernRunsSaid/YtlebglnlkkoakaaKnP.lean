/- Pure: what KernSafe asks: who is ignored, caught, and ends. -/
import Derived.Test.YtlebglnlkkoakaaKnNa
namespace Go.Proofs.Ytlebglnlkkoakaa
open Go.RowKit Go.Maps
namespace Kn
theorem isS_toNat {a b : Int} (ha : Sig.isB a = true) (hb : Sig.isB b = true) (h : a.toNat = b.toNat) : a = b := by
  have h1 := of_decide_eq_true ha; have h2 := of_decide_eq_true hb; omega
theorem has_del {x : Nat} (hx : x < 4294967296) (j s : Int) : has (del x j) s = (has x s && !(Sig.isB j && decide (j = s))) := by
  unfold has Sig.hasB del
  cases hs : Sig.isB s
  · rfl
  · rw [Nat.testBit_and, bit_mask, bit_bitN]
    have h32 : s.toNat < 32 := by have := of_decide_eq_true hs; omega
    cases hj : Sig.isB j
    · simp [h32]
    · by_cases e : j = s
      · subst e; simp
      · have : j.toNat ≠ s.toNat := fun e2 => e (isS_toNat hj hs e2)
        simp [h32, e, this]
theorem has_add (x : Nat) (j s : Int) : has (add x j) s = (has x s || (Sig.isB j && decide (j = s))) := by
  unfold has Sig.hasB add
  cases hs : Sig.isB s
  · cases hj : Sig.isB j
    · rfl
    · by_cases e : j = s
      · subst e; rw [hs] at hj; cases hj
      · simp [e]
  · rw [Nat.testBit_or, bit_bitN]
    cases hj : Sig.isB j
    · simp
    · by_cases e : j = s
      · subst e; simp
      · have : j.toNat ≠ s.toNat := fun e2 => e (isS_toNat hj hs e2)
        simp [e, this]
theorem has_loose (l : List Int) : ∀ {y : Nat}, y < 4294967296 → ∀ s, has (l.foldl (fun y s => if Sig.fixedB s then del y s else y) y) s = (has y s && !(l.any fun j => Sig.fixedB j && Sig.isB j && decide (j = s))) := by
  induction l with
  | nil => intro y _ s; simp
  | cons a r ih =>
    intro y hy s
    rw [List.foldl_cons, List.any_cons]
    cases hf : Sig.fixedB a
    · simp only [Bool.false_eq_true, if_false, Bool.false_and, Bool.false_or]
      exact ih hy s
    · simp only [if_true, Bool.true_and]
      rw [ih (del_lt hy a) s, has_del hy]
      cases has y s <;> cases Sig.isB a <;> cases decide (a = s) <;> simp
theorem mem_listN {x : Nat} {s : Int} : s ∈ Sig.listN x 31 ↔ Sig.hasB x s = true := by
  unfold Sig.listN
  simp only [List.mem_filter, List.mem_map, List.mem_range]
  constructor
  · exact fun h => h.2
  · intro h
    have hs : Sig.isB s = true := by unfold Sig.hasB at h; simp only [Bool.and_eq_true] at h; exact h.1
    have := of_decide_eq_true hs
    exact ⟨⟨s.toNat - 1, by omega, by omega⟩, h⟩
/-- What is ignored from the beginning on. -/
theorem has_looseN {x : Nat} (hx : x < 4294967296) (s : Int) : has (looseN x) s = (has x s && !Sig.fixedB s) := by
  unfold looseN
  rw [has_loose _ hx]
  cases h : has x s
  · rfl
  · simp only [Bool.true_and]
    congr 1
    rw [Bool.eq_iff_iff, List.any_eq_true]
    constructor
    · rintro ⟨j, _, hj⟩
      simp only [Bool.and_eq_true, decide_eq_true_eq] at hj
      rw [← hj.2]; exact hj.1.1
    · intro hf
      have hs : Sig.isB s = true := by unfold has Sig.hasB at h; simp only [Bool.and_eq_true] at h; exact h.1
      exact ⟨s, mem_listN.2 h, by simp [hf, hs]⟩
theorem new_chain (x : Nat) : newT x = chain (looseN x) 0 := by
  unfold newT chain; rfl
def q0 (X m : Nat) : P := ⟨(m : Int) + 1, (m : Int), 0, true, X, 0, 0⟩
theorem find_q0 (X m : Nat) : find (chain X m) ((m : Int) + 1) = some (q0 X m) := chain_find X m
theorem live_at {t : T} {pid : Int} {p : P} (hf : find t pid = some p) : live t pid = p.live := by unfold live; rw [hf]; rfl
theorem put_ok {t : T} {pid s k : Int} {p : P} (hf : find t pid = some p) (hp : p.live = true) (hs : isS s = true) (hx : Sig.fixedB s = false) (h1 : 0 ≤ k) (h2 : k ≤ 2) :
    putS Sig.fixedB t pid s k = (put t pid fun p => setP p s k, true) ∧ find (put t pid fun p => setP p s k) pid = some (setP p s k) := by
  refine ⟨?_, find_put hf fun _ => rfl⟩
  unfold putS
  rw [if_neg]
  rintro (e | e | e | e | e)
  · rw [live_at hf, hp] at e; cases e
  · rw [hs] at e; cases e
  · rw [hx] at e; cases e
  · omega
  · omega
theorem put_fixed {t : T} {pid s k : Int} (hx : Sig.fixedB s = true) : putS Sig.fixedB t pid s k = (t, false) := by unfold putS; rw [if_pos (.inr (.inr (.inl hx)))]
theorem fixed_is {s : Int} (h : Sig.fixedB s = true) : isS s = true ∧ Sig.mildB s = false := by
  unfold Sig.fixedB at h
  simp only [Bool.or_eq_true, beq_iff_eq] at h
  rcases h with rfl | rfl <;> exact ⟨by decide, by decide⟩
theorem bit_none (s : Int) : del (add 0 s) s = 0 := by
  unfold del add
  apply Nat.eq_of_testBit_eq
  intro i
  rw [Nat.testBit_and, Nat.testBit_or, bit_mask]
  simp
  intro h1 _
  exact h1
theorem has_zero (s : Int) : has 0 s = false := by unfold has Sig.hasB; simp
/-- A signal that is caught, comes, and isn't caught any more. -/
theorem caught {t : T} {pid s : Int} {p : P} (hf : find t pid = some p) (hp : p.live = true) (hs : isS s = true) (hx : Sig.fixedB s = false) (hi : p.ig < 4294967296) (hc : p.ca = 0) (he : p.pe = 0) :
    ∃ t1 t2 t3, putS Sig.fixedB t pid s 2 = (t1, true) ∧ send Sig.mildB t1 pid s = (t2, true) ∧ pending t2 pid = add 0 s ∧ putS Sig.fixedB t2 pid s 0 = (t3, true) ∧ pending t3 pid = 0 ∧ live t3 pid = true := by
  obtain ⟨e1, f1⟩ := put_ok (k := 2) hf hp hs hx (by omega) (by omega)
  have l1 : (setP p s 2).live = true := hp
  have h1 : howP (setP p s 2) s = 2 := by
    have a1 : has (setP p s 2).ig s = false := by
      show has (if (2 : Int) = 1 then add (del p.ig s) s else del p.ig s) s = false
      rw [if_neg (by decide), has_del hi]; simp [show Sig.isB s = true from hs]
    have a2 : has (setP p s 2).ca s = true := by
      show has (if (2 : Int) = 2 then add (del p.ca s) s else del p.ca s) s = true
      rw [if_pos rfl, has_add]; simp [show Sig.isB s = true from hs]
    unfold howP; simp [a1, a2]
  have e2 := send_caught Sig.mildB (by rw [live_at f1]; exact l1) hs ((how_live s f1 l1).trans h1)
  have f2 := find_put f1 (f := fun p => { p with pe := add p.pe s }) fun _ => rfl
  obtain ⟨e3, f3⟩ := put_ok (k := 0) f2 l1 hs hx (by omega) (by omega)
  refine ⟨_, _, _, e1, e2, ?_, e3, ?_, ?_⟩
  · rw [pending_live f2 l1]
    show add (if (2 : Int) = 2 then p.pe else del p.pe s) s = _
    rw [if_pos rfl, he]
  · rw [pending_live f3 l1]
    show (if (0 : Int) = 2 then add (if (2 : Int) = 2 then p.pe else del p.pe s) s else del (add (if (2 : Int) = 2 then p.pe else del p.pe s) s) s) = 0
    rw [if_neg (by decide), if_pos rfl, he, bit_none]
  · rw [live_at f3]; exact l1
end Kn
end Go.Proofs.Ytlebglnlkkoakaa
