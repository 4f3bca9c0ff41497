/- What is right stays right deeper down, as long as it isn't too deep. -/
import Derived.Test.YtgdjeemmklmpfaaTrW
namespace Go.Proofs.Ytgdjeemmklmpfaa
open Go.RowKit Go.Sort
namespace Tr
open Cls Pt

theorem kind_mono {k : Int} {nm : ByteArray} {g : Bool} {az : List (ByteArray × PL)} {ws : List PL} {ks : NL} {bs : List Bool} {rk rc rk' rc' : Bool} (h : kindB k nm g az ws ks bs rk rc = true) (hk : rk = true → rk' = true) (hc : rc = true → rc' = true) : kindB k nm g az ws ks bs rk' rc' = true := by
  unfold kindB at h ⊢
  repeat' split at h
  all_goals first
    | exact h
    | (simp_all; done)
theorem rt_mono : ∀ (l : NL) (d D : Nat), rt l d = true → D + depN l ≤ 201 → rt l D = true
  | .nil, _, _, _, _ => rfl
  | .node k nm g az ws ks bs cz r, d, D, h, hD => by
    simp only [rt, Bool.and_eq_true] at h ⊢
    simp only [depN] at hD
    obtain ⟨⟨⟨_, h2⟩, h3⟩, h4⟩ := h
    have hw : withinD k D ≤ D + 1 := by unfold withinD; split <;> omega
    refine ⟨⟨⟨?_, h2⟩, kind_mono h3 (fun h => rt_mono ks _ _ h (by omega)) (fun h => rt_mono cz _ _ h (by omega))⟩, rt_mono r _ _ h4 (by omega)⟩
    have : decide (200 < D) = false := by rw [decide_eq_false_iff_not]; omega
    simp [deepB, this]
  | .cse ps b r, d, D, h, hD => by
    simp only [rt, Bool.and_eq_true] at h ⊢
    simp only [depN] at hD
    obtain ⟨⟨h1, h2, h3⟩, h4⟩ := h
    exact ⟨⟨h1, h2, rt_mono b _ _ h3 (by omega)⟩, rt_mono r _ _ h4 (by omega)⟩

/-- A group, or brackets. -/
def kn (i : Nat) : Int := if i % 2 = 1 then 12 else 11
/-- What is built of a list X, S being a simple command: so often. -/
def built (S : NL) : Nat → NL → NL
  | 0, X => X
  | i + 1, X => .node 5 ⟨#[]⟩ false [] [] (.node (kn i) ⟨#[]⟩ false [] [] (built S i X) [] .nil (.node 4 ⟨#[]⟩ false [] [] S [] .nil .nil)) [decide (i % 3 = 0), false] .nil .nil
theorem built_body (S X : NL) (hX : allS bodyB X = true) (hl : X.len = 1) : ∀ i, allS bodyB (built S i X) = true ∧ (built S i X).len = 1
  | 0 => ⟨hX, hl⟩
  | _ + 1 => ⟨rfl, rfl⟩
theorem built_size (S X : NL) (hS : sizeN S = 1) : ∀ i, sizeN (built S i X) = sizeN X + 4 * i
  | 0 => rfl
  | i + 1 => by
    have := built_size S X hS i
    simp only [built, sizeN, this, hS]
    omega
theorem built_right (S X : NL) (hX : allS bodyB X = true) (hl : X.len = 1) (hS : ∀ d, rt S d = true) (hS1 : S.len = 1) (hSc : allS commandS S = true) (c : Nat) (hr : ∀ D, D + c ≤ 201 → rt X D = true) :
    ∀ (i D : Nat), 0 < c → D + i + c ≤ 201 → rt (built S i X) D = true
  | 0, D, _, h => hr D (by omega)
  | i + 1, D, hc, h => by
    obtain ⟨h1, h2⟩ := built_body S X hX hl i
    have h3 := built_right S X hX hl hS hS1 hSc c hr i (D + 1) hc (by omega)
    have h4 : decide (200 < D) = false := by rw [decide_eq_false_iff_not]; omega
    have e4 : ownB 4 ⟨#[]⟩ false [] [] S [] .nil = true := by simp [ownB, nodeEq, eqL, sameN]
    have n4 : ∀ d, withinD 4 d = d := fun _ => rfl
    have n5 : ∀ d, withinD 5 d = d := fun _ => rfl
    have q4 : ∀ d, deepB 4 d = false := fun _ => rfl
    have q5 : ∀ d, deepB 5 d = false := fun _ => rfl
    have hk : kn i = 11 ∨ kn i = 12 := by unfold kn; split <;> simp
    have r4 : rt (.node 4 ⟨#[]⟩ false [] [] S [] .nil .nil) D = true := by
      simp only [rt, q4, e4, n4, kindB, hS, hS1, hSc]
      rfl
    have hrk : ∀ k : Int, k = 11 ∨ k = 12 → rt (.node k ⟨#[]⟩ false [] [] (built S i X) [] .nil (.node 4 ⟨#[]⟩ false [] [] S [] .nil .nil)) D = true := by
      rintro k (rfl | rfl)
      · have e : ownB 11 ⟨#[]⟩ false [] [] (built S i X) [] .nil = true := by simp [ownB, nodeEq, eqL, sameN]
        have n : withinD 11 D = D + 1 := rfl
        have q : deepB 11 D = false := by simp [deepB, h4]
        simp only [rt] at r4 ⊢
        rw [r4, e, n, q]
        simp [kindB, h1, h2, h3]
      · have e : ownB 12 ⟨#[]⟩ false [] [] (built S i X) [] .nil = true := by simp [ownB, nodeEq, eqL, sameN]
        have n : withinD 12 D = D + 1 := rfl
        have q : deepB 12 D = false := by simp [deepB, h4]
        simp only [rt] at r4 ⊢
        rw [r4, e, n, q]
        simp [kindB, h1, h2, h3]
    have hrr := hrk _ hk
    have hit : itemB (kn i) = true := by rcases hk with h | h <;> rw [h] <;> rfl
    have e5 : ∀ (ks : NL) (bs : List Bool), ownB 5 ⟨#[]⟩ false [] [] ks bs .nil = true := fun _ _ => by simp [ownB, nodeEq, eqL, sameN]
    unfold built
    rw [rt_node]
    unfold nodeR
    rw [q5, e5, n5, hrr]
    have hi4 : itemB 4 = true := rfl
    simp [kindB, allS, itemS, hit, hi4, NL.len, rt]
end Tr
end Go.Proofs.Ytgdjeemmklmpfaa
