/- One round of tree.copied: a thing stored in the row. -/
import Derived.Test.YtmpongcambbihaaTrOa
namespace Go.Proofs.Ytmpongcambbihaa
open Go.RowKit Go.Sort
namespace Ow
open Cls Pt Tr

/-- Values stored one behind the other. -/
def setRow (w : World) (B : Nat) : Nat → List Value → World
  | _, [] => w
  | o, v :: r => setRow (w.setCell ⟨B, o, none⟩ v) B (o + 1) r
theorem setRow_spec {B : Nat} {ty : TypeId} : ∀ (vs : List Value) (w : World) (o : Nat) (row : Array Value), w.heap[B]? = some (.cells row ty (0, 0)) → o + vs.length ≤ row.size →
    ∃ row' : Array Value, row'.size = row.size ∧ (setRow w B o vs).heap[B]? = some (.cells row' ty (0, 0)) ∧ (∀ i v, vs[i]? = some v → row'[o + i]? = some v) ∧ (∀ i, i < o → row'[i]? = row[i]?) ∧
      (∀ c, c ≠ B → (setRow w B o vs).heap[c]? = w.heap[c]?) ∧ (setRow w B o vs).heap.size = w.heap.size ∧ (∀ N w0, Below N w0 w → N ≤ B → Below N w0 (setRow w B o vs))
  | [], w, o, row, h, _ => ⟨row, rfl, h, fun _ _ h => by simp at h, fun _ _ => rfl, fun _ _ => rfl, rfl, fun _ _ h _ => h⟩
  | v :: r, w, o, row, h, hl => by
    simp only [List.length_cons] at hl
    have g := heap_setCell_same _ _ o _ _ v h
    obtain ⟨row', h1, h2, h3, h4, h5, h6, h7⟩ := setRow_spec r (w.setCell ⟨B, o, none⟩ v) (o + 1) _ g (by simp; omega)
    refine ⟨row', by rw [h1]; simp, h2, fun i u hu => ?_, fun i hi => ?_, fun c hc => ?_, ?_, fun N w0 hb hN => ?_⟩
    · cases i with
      | zero =>
        simp only [List.getElem?_cons_zero, Option.some.injEq] at hu
        subst hu
        rw [Nat.add_zero, h4 o (by omega)]
        simp only [Array.getElem?_setIfInBounds]
        rw [if_pos trivial, if_pos (by omega)]
      | succ i =>
        have := h3 i u (by simpa using hu)
        rwa [show o + 1 + i = o + (i + 1) by omega] at this
    · rw [h4 i (by omega)]
      simp only [Array.getElem?_setIfInBounds]
      rw [if_neg (by omega)]
    · exact (h5 c hc).trans (heap_setCell_other _ _ _ _ hc)
    · rw [show setRow w B o (v :: r) = setRow (w.setCell ⟨B, o, none⟩ v) B (o + 1) r from rfl, h6]; simp
    · exact h7 N w0 (hb.setCell hN _) hN

/-- A value that, wherever it is stored, is a thing with memory of its own. -/
def Gives {T : Type} (E : Elem T) (w w' : World) (vs : List Value) (t : T) : Prop :=
  ∀ (w2 : World) (b o : Nat), (∀ i v, vs[i]? = some v → w2.cell? ⟨b, o + i, none⟩ = some v) → (∀ c, w.heap.size ≤ c → c < w'.heap.size → w2.heap[c]? = w'.heap[c]?) → E w2 b o w.heap.size w'.heap.size t
theorem round {T : Type} {k : Nat} {E : Elem T} {get : Nat → Option T} (hE : Stable k E) {w0 wr wc w2 : World} {B n j : Nat} {ms : Nat → Nat} {t : T} {vs : List Value} {row : Array Value} {ty : TypeId}
    (h : Done k E get wr B j ms) (hms : ms j ≤ wr.heap.size) (hb0 : Below B w0 wr) (hrb : wr.heap[B]? = some (.cells row ty (0, 0))) (hrow : row.size = n * k) (hj : j < n)
    (hc : Below wr.heap.size wr wc) (h2 : Below wc.heap.size wc w2) (hlen : vs.length = k) (ht : get j = some t) (hnew : Gives E wc w2 vs t) :
    ∃ W, setRow w2 B (j * k) vs = W ∧ Below B w0 W ∧ (∃ row' : Array Value, row'.size = n * k ∧ W.heap[B]? = some (.cells row' ty (0, 0))) ∧ ∃ ms', ms' (j + 1) ≤ W.heap.size ∧ Done k E get W B (j + 1) ms' := by
  have hBlt := (Array.getElem?_eq_some_iff.1 hrb).1
  have hcs := hc.size
  have h2s := h2.size
  have hr2 : w2.heap[B]? = some (.cells row ty (0, 0)) := (h2.block B (by omega)).trans ((hc.block B hBlt).trans hrb)
  have hle : j * k + k ≤ n * k := by
    have : (j + 1) * k ≤ n * k := Nat.mul_le_mul_right _ hj
    rwa [Nat.succ_mul] at this
  obtain ⟨row', g1, g2, g3, g4, g5, g6, g7⟩ := setRow_spec vs w2 (j * k) row hr2 (by rw [hlen, hrow]; exact hle)
  have hbw : Below B w0 w2 := (hb0.trans (hc.mono (by omega))).trans (h2.mono (by omega))
  generalize setRow w2 B (j * k) vs = W at g2 g5 g6 g7
  refine ⟨W, rfl, g7 B w0 hbw (Nat.le_refl _), ⟨row', by rw [g1, hrow], g2⟩, fun i => if i ≤ j then ms i else W.heap.size, ?_, ?_⟩
  · have e : ¬ j + 1 ≤ j := by omega
    simp only [e, if_false]
    exact Nat.le_refl _
  · refine Done.step hE h hms (by omega) (fun i hi => ?_) (fun c hc1 hc2 => ?_) ht ?_
    · rw [Lib.cell_of_heap g2, Lib.cell_of_heap hrb, g4 i hi]
    · rw [g5 c (by omega), h2.block c (by omega), hc.block c hc2]
    · have hn := hnew W B (j * k) (fun i v hv => (Lib.cell_of_heap g2 _).trans (g3 i v hv)) (fun c h1 h2 => g5 c (by omega))
      rw [← g6] at hn
      exact hE.low hn hcs
end Ow
end Go.Proofs.Ytmpongcambbihaa
