/- What a small weight says; how deep nodes are; shallow. -/
import Derived.Test.YtgdjeemmklmpfaaTrV
namespace Go.Proofs.Ytgdjeemmklmpfaa
open Go.RowKit Go.Sort
namespace Tr
open Cls Pt

theorem size_bytes : ∀ l : PL, l.size ≤ Bd.bytes l
  | .nil => Nat.le_refl _
  | .cons _ _ t o f r => by
    have h1 := size_bytes f
    have h2 := size_bytes r
    simp only [PL.size, Bd.bytes]
    omega
theorem wOK_bytes {l : PL} (h : Bd.bytes l ≤ 1000000) : wOK l := by
  refine ⟨Nat.le_trans (size_bytes l) h, ?_⟩
  rintro k q t o f r rfl
  simp only [Bd.bytes] at h
  omega
theorem wsB_mem {l : PL} : ∀ {ws : List PL}, l ∈ ws → Bd.bytes l ≤ wsB ws
  | [], h => by simp at h
  | x :: r, h => by
    simp only [wsB]
    rcases List.mem_cons.1 h with rfl | h
    · omega
    · have := wsB_mem h
      omega
theorem wsB_ok {ws : List PL} (h : wsB ws ≤ 1000000) : ∀ l ∈ ws, wOK l := fun _ hl => wOK_bytes (Nat.le_trans (wsB_mem hl) h)
theorem fit_tot : ∀ {l : NL}, totN l ≤ 1000000 → fitN l
  | .nil, _ => trivial
  | .node _ _ _ _ ws ks _ cz r, h => by
    simp only [totN] at h
    exact ⟨wsB_ok (by omega), fit_tot (by omega), fit_tot (by omega), fit_tot (by omega)⟩
  | .cse _ b r, h => by
    simp only [totN] at h
    exact ⟨fit_tot (by omega), fit_tot (by omega)⟩
theorem size_tot : ∀ (l : NL), sizeN l ≤ totN l
  | .nil => Nat.le_refl _
  | .node _ _ _ _ ws ks _ cz r => by
    have h1 := size_tot ks
    have h2 := size_tot cz
    have h3 := size_tot r
    simp only [totN, sizeN]
    omega
  | .cse _ b r => by
    have h1 := size_tot b
    have h3 := size_tot r
    simp only [totN, sizeN]
    omega
theorem len_tot : ∀ (l : NL), l.len ≤ totN l
  | .nil => Nat.le_refl _
  | .node _ _ _ _ ws ks _ cz r => by
    have h3 := len_tot r
    simp only [totN, NL.len]
    omega
  | .cse _ b r => by
    have h3 := len_tot r
    simp only [totN, NL.len]
    omega

/-- How deep nodes are. -/
def depN : NL → Nat
  | .nil => 0
  | .node _ _ _ _ _ ks _ cz r => max (1 + max (depN ks) (depN cz)) (depN r)
  | .cse _ b r => max (depN b) (depN r)
theorem dep_app : ∀ (l m : NL), depN (l.app m) = max (depN l) (depN m)
  | .nil, m => by simp [NL.app, depN]
  | .node _ _ _ _ _ _ _ _ r, m => by have := dep_app r m; simp only [NL.app, depN, this]; omega
  | .cse _ _ r, m => by have := dep_app r m; simp only [NL.app, depN, this]; omega
theorem dep_bodies : ∀ {cz : NL}, NL.okN cz false = true → depN (bodies cz) = depN cz
  | .nil, _ => rfl
  | .cse ps b r, h => by
    simp only [NL.okN, Bool.and_eq_true] at h
    have h1 := dep_bodies h.2
    simp only [bodies, dep_app, depN, h1]
  | .node _ _ _ _ _ _ _ _ _, h => by simp [NL.okN] at h
theorem tot_drop : ∀ (n : Nat) (l : NL), totN (l.drop n) ≤ totN l
  | 0, _ => Nat.le_refl _
  | _ + 1, .nil => Nat.le_refl _
  | n + 1, .node _ _ _ _ _ _ _ _ r => by have := tot_drop n r; simp only [NL.drop, totN]; omega
  | n + 1, .cse _ _ r => by have := tot_drop n r; simp only [NL.drop, totN]; omega
theorem dep_drop : ∀ (n : Nat) (l : NL), depN (l.drop n) ≤ depN l
  | 0, _ => Nat.le_refl _
  | _ + 1, .nil => Nat.le_refl _
  | n + 1, .node _ _ _ _ _ _ _ _ r => by have := dep_drop n r; simp only [NL.drop, depN]; omega
  | n + 1, .cse _ _ r => by have := dep_drop n r; simp only [NL.drop, depN]; omega
end Tr
end Go.Proofs.Ytgdjeemmklmpfaa
