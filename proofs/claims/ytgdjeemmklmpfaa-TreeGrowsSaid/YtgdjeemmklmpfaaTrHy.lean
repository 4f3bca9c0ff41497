/- What TreeGrows asks of a node that it goes on with; what it builds of it is right. -/
import Derived.Test.YtgdjeemmklmpfaaTrHx
namespace Go.Proofs.Ytgdjeemmklmpfaa
open Go.RowKit Go.Sort
namespace Tr
open Cls Pt

/-- A node that TreeGrows asks on of. -/
structure Fair (k : Int) (nm : ByteArray) (g : Bool) (az : List (ByteArray × PL)) (ws : List PL) (ks : NL) (bs : List Bool) (cz : NL) : Prop where
  kind : k = 5
  right : nodeR k nm g az ws ks bs cz 1 = true
  some : 0 < ks.len
  flat : max (depN ks) (depN cz) ≤ 20
  light : totX nm az ws ks bs cz ≤ 4000
section
variable {k : Int} {nm : ByteArray} {g : Bool} {az : List (ByteArray × PL)} {ws : List PL} {ks cz : NL} {bs : List Bool}
theorem Fair.deeper (h : Fair k nm g az ws ks bs cz) (D : Nat) (hD : D + 20 ≤ 201) : rt (.node k nm g az ws ks bs cz .nil) D = true := by
  obtain ⟨rfl, h2, h3, h4, h5⟩ := h
  rw [rt_node]
  unfold nodeR at h2 ⊢
  have q5 : ∀ d, deepB 5 d = false := fun _ => rfl
  have n5 : ∀ d, withinD 5 d = d := fun _ => rfl
  rw [q5, n5] at h2 ⊢
  simp only [Bool.not_false, Bool.true_and, Bool.and_eq_true] at h2
  rw [h2.1, kind_mono h2.2 (fun h => rt_mono ks 1 D h (by omega)) (fun h => rt_mono cz 1 D h (by omega))]
  rfl
theorem Fair.body (h : Fair k nm g az ws ks bs cz) : bodyB k ks.len = true := by
  have := h.some
  simp [bodyB, h.kind, this]
/-- A loop with it twice. -/
theorem Fair.loop (h : Fair k nm g az ws ks bs cz) : nodeR 7 ⟨#[]⟩ false [] [] (.node k nm g az ws ks bs cz (.node k nm g az ws ks bs cz .nil)) [] .nil 1 = true := by
  have h1 := h.deeper 2 (by omega)
  rw [rt_node] at h1
  simp only [rt, Bool.and_true] at h1
  have e : ∀ ks, ownB 7 ⟨#[]⟩ false [] [] ks [] .nil = true := fun ks => by simp [ownB, nodeEq, eqL, sameN]
  have q : deepB 7 1 = false := rfl
  have n : withinD 7 1 = 2 := rfl
  unfold nodeR
  rw [q, e, n]
  have h2 : rt (.node k nm g az ws ks bs cz (.node k nm g az ws ks bs cz .nil)) 2 = true := by
    rw [rt_node, rt_node, h1]; rfl
  simp [kindB, allS, NL.len, h2, h.body]
/-- A function of that. -/
theorem Fair.func (h : Fair k nm g az ws ks bs cz) : nodeR 13 ⟨#[102]⟩ false [] [] (.node 7 ⟨#[]⟩ false [] [] (.node k nm g az ws ks bs cz (.node k nm g az ws ks bs cz .nil)) [] .nil .nil) [] .nil 1 = true := by
  have h1 := h.loop
  have e : ∀ ks, ownB 13 ⟨#[102]⟩ false [] [] ks [] .nil = true := fun ks => by simp [ownB, nodeEq, eqL, sameN]
  have q : deepB 13 1 = false := rfl
  have n : withinD 13 1 = 1 := rfl
  unfold nodeR
  rw [q, e, n]
  have h2 : rt (.node 7 ⟨#[]⟩ false [] [] (.node k nm g az ws ks bs cz (.node k nm g az ws ks bs cz .nil)) [] .nil .nil) 1 = true := by
    rw [rt_node, h1]; rfl
  have h3 : nameL (⟨#[102]⟩ : ByteArray).data.toList = true := by decide +kernel
  have h4 : reservedL (⟨#[102]⟩ : ByteArray).data.toList = false := by decide +kernel
  have h5 : compoundS 7 2 = true := rfl
  simp only [kindB]
  simp [allS, NL.len, h2, h3, h4, h5]
theorem built_fit (X : NL) (hX : fitN X) : ∀ i, fitN (built sA i X)
  | 0 => hX
  | i + 1 => ⟨by simp, ⟨by simp, built_fit X hX i, trivial, ⟨by simp, ⟨by intro l hl; rw [List.mem_singleton.1 hl]; exact wA_ok, trivial, trivial, trivial⟩, trivial, trivial⟩⟩, trivial, trivial⟩
theorem Fair.program (h : Fair k nm g az ws ks bs cz) {i : Nat} {k' : Int} {nm' : ByteArray} {g' : Bool} {az' : List (ByteArray × PL)} {ws' : List PL} {ks' cz' : NL} {bs' : List Bool} (hi : i ≤ 180) (hb : built sA i (.node k nm g az ws ks bs cz .nil) = .node k' nm' g' az' ws' ks' bs' cz' .nil) : (k' == 5 && nodeR k' nm' g' az' ws' ks' bs' cz' 1) = true := by
  have h1 := built_right sA (.node k nm g az ws ks bs cz .nil) (by simp [allS, h.body]) rfl sA_right rfl sA_command 20 (fun D hD => h.deeper D hD) i 1 (by omega) (by omega)
  rw [hb, rt_node] at h1
  simp only [rt, Bool.and_true] at h1
  rw [h1]
  have hk : k' = 5 := by
    cases i with
    | zero => cases hb; exact h.kind
    | succ i => cases hb; rfl
  simp [hk]
theorem built_sum {i : Nat} {k' : Int} {nm' : ByteArray} {g' : Bool} {az' : List (ByteArray × PL)} {ws' : List PL} {ks' cz' : NL} {bs' : List Bool} (hb : built sA i (.node k nm g az ws ks bs cz .nil) = .node k' nm' g' az' ws' ks' bs' cz' .nil) : 1 + sizeN ks' + sizeN cz' = (1 + sizeN ks + sizeN cz) + 4 * i := by
  have := built_size sA (.node k nm g az ws ks bs cz .nil) sA_size i
  rw [hb] at this
  simpa [sizeN] using this
/-- Two of it, side by side. -/
theorem pair_holds {w : World} {b : Nat} {x1 x2 x3 x4 x5 : Option Addr} {d1 d2 d3 d4 d5 : Nat} {t : TypeId} (h : Holds w nm az ws ks bs cz x1 d1 x2 d2 x3 d3 x4 d4 x5 d5)
    (hr : w.heap[b]? = some (.cells #[.int .i64 k, .string nm, .bool g, .slice x1 az.length d1, .slice x2 ws.length d2, .slice x3 ks.len d3, .slice x4 bs.length d4, .slice x5 cz.len d5, .int .i64 k, .string nm, .bool g, .slice x1 az.length d1, .slice x2 ws.length d2, .slice x3 ks.len d3, .slice x4 bs.length d4, .slice x5 cz.len d5] t (0, 0))) :
    Holds w ⟨#[]⟩ [] [] (.node k nm g az ws ks bs cz (.node k nm g az ws ks bs cz .nil)) [] .nil none 0 none 0 (some ⟨b, 0, none⟩) 2 none 0 none 0 := by
  have n2 : NAt w (.node k nm g az ws ks bs cz .nil) b 8 := nat_cons h (fun j v hv => (Lib.cell_of_heap hr (8 + j)).trans (by
    match j, hv with
    | 0, hv => cases hv; rfl
    | 1, hv => cases hv; rfl
    | 2, hv => cases hv; rfl
    | 3, hv => cases hv; rfl
    | 4, hv => cases hv; rfl
    | 5, hv => cases hv; rfl
    | 6, hv => cases hv; rfl
    | 7, hv => cases hv; rfl
    | j + 8, hv => simp [nodeV] at hv)) trivial
  have n1 : NAt w (.node k nm g az ws ks bs cz (.node k nm g az ws ks bs cz .nil)) b 0 := nat_cons h (fun j v hv => (Lib.cell_of_heap hr (0 + j)).trans (by
    match j, hv with
    | 0, hv => cases hv; rfl
    | 1, hv => cases hv; rfl
    | 2, hv => cases hv; rfl
    | 3, hv => cases hv; rfl
    | 4, hv => cases hv; rfl
    | 5, hv => cases hv; rfl
    | 6, hv => cases hv; rfl
    | 7, hv => cases hv; rfl
    | j + 8, hv => simp [nodeV] at hv)) n2
  exact ⟨by decide, sl_nil _ _, sl_nil _ _, ⟨Nat.le_refl _, (by decide : 2 ≤ R), .inr ⟨_, _, rfl, n1⟩⟩, sl_nil _ _, nl_nil _, by simp [NL.okN, h.okk, h.okc], rfl⟩
end
end Tr
end Go.Proofs.Ytgdjeemmklmpfaa
