/- Pieces and texts, as they lie in memory. -/
import Derived.Test.YtoneabcbeikkhaaGreatDoorFdA
import Derived.Below
import Derived.Laws.AppendOwn
import Derived.Laws.OwnMore
import Derived.OwnWalk
import Derived.OpenShut
import Derived.Lib.SmallJoins
namespace Go.Proofs.YtoneabcbeikkhaaGreatDoor
open Go.RowKit Cls
namespace Fld
theorem below_alloc (w : World) (o : Obj) : Below w.heap.size w (w.alloc o) := (Below.refl _ w).alloc (Nat.le_refl _) o
theorem drewn {B : Nat} {w w' : World} (h : Below B w w') : Below B w w'.drew := ⟨h.os, h.tape, h.output, h.size, h.block⟩
def pc (ps : List Pc) (i : Nat) : Pc := ps.getD i (tx [], false, false)
def PAt (w : World) (b o : Nat) (ps : List Pc) : Prop := ∀ i, i < ps.length → w.cell? ⟨b, o + i * 3, none⟩ = some (.string (pc ps i).1) ∧ w.cell? ⟨b, o + i * 3 + 1, none⟩ = some (.bool (pc ps i).2.1) ∧ w.cell? ⟨b, o + i * 3 + 2, none⟩ = some (.bool (pc ps i).2.2)
def Pcs (w : World) (a : Option Addr) (ps : List Pc) : Prop := ps = [] ∨ ∃ b o, a = some ⟨b, o, none⟩ ∧ b < w.heap.size ∧ PAt w b o ps
theorem Pcs.below {w w' : World} {a : Option Addr} {ps : List Pc} (h : Pcs w a ps) (hb : Below w.heap.size w w') : Pcs w' a ps := by
  rcases h with h | ⟨b, o, ha, hlt, h⟩
  · exact .inl h
  · exact .inr ⟨b, o, ha, Nat.lt_of_lt_of_le hlt hb.size, fun i hi => ⟨(hb.cell (p := ⟨b, _, none⟩) hlt).trans (h i hi).1, (hb.cell (p := ⟨b, _, none⟩) hlt).trans (h i hi).2.1, (hb.cell (p := ⟨b, _, none⟩) hlt).trans (h i hi).2.2⟩⟩
theorem Pcs.get {w : World} {a : Option Addr} {ps : List Pc} {i : Nat} (h : Pcs w a ps) (hi : i < ps.length) :
    ∃ b o, a = some ⟨b, o, none⟩ ∧ b < w.heap.size ∧ w.cell? ⟨b, o + i * 3, none⟩ = some (.string (pc ps i).1) ∧ w.cell? ⟨b, o + i * 3 + 1, none⟩ = some (.bool (pc ps i).2.1) ∧ w.cell? ⟨b, o + i * 3 + 2, none⟩ = some (.bool (pc ps i).2.2) := by
  rcases h with rfl | ⟨b, o, ha, hlt, h⟩
  · exact absurd hi (Nat.not_lt_zero i)
  · exact ⟨b, o, ha, hlt, h i hi⟩
theorem take_snoc {ps : List Pc} {k : Nat} (h : k < ps.length) : ps.take (k + 1) = ps.take k ++ [pc ps k] := by
  rw [List.take_succ_eq_append_getElem h, pc, List.getD, List.getElem?_eq_getElem h]
  rfl
theorem pc_mem {ps : List Pc} {k : Nat} (h : k < ps.length) : pc ps k ∈ ps := by
  rw [pc, List.getD, List.getElem?_eq_getElem h]; exact List.getElem_mem h
def pcells (ps : List Pc) : List Value := ps.flatMap fun p => [.string p.1, .bool p.2.1, .bool p.2.2]
theorem pcells_len (ps : List Pc) : (pcells ps).length = ps.length * 3 := by
  induction ps with
  | nil => rfl
  | cons x r ih => simp only [pcells, List.flatMap_cons, List.length_append, List.length_cons, List.length_nil] at ih ⊢; omega
theorem pcells_app (l m : List Pc) : pcells (l ++ m) = pcells l ++ pcells m := by simp [pcells]
theorem pcells_at : ∀ {l : List Pc} {i : Nat}, i < l.length → (pcells l)[i * 3]? = some (.string (pc l i).1) ∧ (pcells l)[i * 3 + 1]? = some (.bool (pc l i).2.1) ∧ (pcells l)[i * 3 + 2]? = some (.bool (pc l i).2.2)
  | x :: r, 0, _ => ⟨rfl, rfl, rfl⟩
  | x :: r, i + 1, h => by
    have := pcells_at (l := r) (i := i) (by simpa using h)
    rw [show (i + 1) * 3 = i * 3 + 3 by omega]
    exact this
theorem pcells_one (l : List Pc) : ∀ u ∈ pcells l, u.oneCell' = true := by
  intro u hu
  obtain ⟨p, _, hp⟩ := List.mem_flatMap.1 hu
  simp only [List.mem_cons, List.not_mem_nil, or_false] at hp
  rcases hp with rfl | rfl | rfl <;> rfl
/-- The cells of pieces, one by one. -/
theorem Pcs.cells {w : World} {a : Option Addr} {ps : List Pc} (h : Pcs w a ps) (hne : ps ≠ []) : ∃ b o, a = some ⟨b, o, none⟩ ∧ ∀ j u, (pcells ps)[j]? = some u → w.cell? ⟨b, o + j, none⟩ = some u := by
  rcases h with h | ⟨b, o, ha, _, h⟩
  · exact absurd h hne
  · refine ⟨b, o, ha, fun j u hu => ?_⟩
    have hj : j < ps.length * 3 := by rw [← pcells_len]; exact (List.getElem?_eq_some_iff.1 hu).1
    have hi : j / 3 < ps.length := by omega
    obtain ⟨h0, h1, h2⟩ := h _ hi
    obtain ⟨k0, k1, k2⟩ := pcells_at hi
    rcases (show j = j / 3 * 3 ∨ j = j / 3 * 3 + 1 ∨ j = j / 3 * 3 + 2 by omega) with e | e | e
    · rw [e] at hu ⊢; rw [k0] at hu; rw [← hu]; exact h0
    · rw [e] at hu ⊢; rw [k1] at hu; rw [← hu, ← Nat.add_assoc]; exact h1
    · rw [e] at hu ⊢; rw [k2] at hu; rw [← hu, ← Nat.add_assoc]; exact h2
/-- A slice that a call has built is pieces. -/
theorem pcs_own {w : World} {base : Nat} {T : TypeId} {v : Value} {n : Nat} {xs : List Value} {l : List Pc} (h : w.ownsRow base T 3 v n xs) (hn : n = l.length) (hx : xs = pcells l) : ∃ a cap, v = .slice a l.length cap ∧ Pcs w a l := by
  subst hn; subst hx
  rcases h.2 with ⟨rfl, hn⟩ | ⟨g, cap, cur, rfl, hb, hg, hcap, _⟩
  · exact ⟨none, 0, by rw [hn], .inl (List.length_eq_zero_iff.1 hn)⟩
  · refine ⟨_, cap, rfl, .inr ⟨g, 0, rfl, (Array.getElem?_eq_some_iff.1 hg).1, fun i hi => ?_⟩⟩
    obtain ⟨h0, h1, h2⟩ := pcells_at hi
    have c0 := h.cells (g := g) rfl _ _ h0
    have c1 := h.cells (g := g) rfl _ _ h1
    have c2 := h.cells (g := g) rfl _ _ h2
    rw [Go.WideShapes.add_plain] at c0 c1 c2
    exact ⟨c0, by rw [Nat.add_assoc]; exact c1, by rw [Nat.add_assoc]; exact c2⟩

/-- A slice's value that may be read as these texts. -/
def Txt (w : World) (av : Value) (xs : List ByteArray) : Prop :=
  (xs = [] ∧ ∃ a cap, av = .slice a 0 cap) ∨ ∃ b off cap, av = .slice (some ⟨b, off, none⟩) xs.length cap ∧ xs.length ≤ cap ∧ b < w.heap.size ∧ ∀ j x, xs[j]? = some x → w.cell? ⟨b, off + j, none⟩ = some (.string x)
theorem Txt.stay {w w' : World} {av : Value} {xs : List ByteArray} (h : Txt w av xs) (hb : Below w.heap.size w w') : Txt w' av xs := by
  rcases h with h | ⟨b, off, cap, rfl, h1, h2, h3⟩
  · exact .inl h
  · refine .inr ⟨b, off, cap, rfl, h1, Nat.lt_of_lt_of_le h2 hb.size, fun j x hj => ?_⟩
    rw [World.cell?_of_block (hb.block b h2)]; exact h3 j x hj
theorem Txt.cell {w : World} {av : Value} {xs : List ByteArray} (h : Txt w av xs) : ∃ a cap, av = .slice a xs.length cap ∧ ∀ j x, xs[j]? = some x → ∃ b off, a = some ⟨b, off, none⟩ ∧ b < w.heap.size ∧ w.cell? ⟨b, off + j, none⟩ = some (.string x) := by
  rcases h with ⟨rfl, a, cap, rfl⟩ | ⟨b, off, cap, rfl, h1, h2, h3⟩
  · exact ⟨a, cap, rfl, fun j x hj => by simp at hj⟩
  · exact ⟨_, cap, rfl, fun j x hj => ⟨b, off, rfl, h2, h3 j x hj⟩⟩
theorem Txt.ofOwn {w : World} {B : Nat} {v : Value} {n : Nat} {ys : List Value} {xs : List ByteArray} (h : w.ownsRow B 9 1 v n ys) (hn : n = xs.length) (hy : ys = xs.map Value.string) : Txt w v xs := by
  subst hn; subst hy
  obtain ⟨_, ⟨rfl, h0⟩ | ⟨g, cap, cur, rfl, hg, hh, h1, h2, h3, h4⟩⟩ := h
  · exact .inl ⟨List.length_eq_zero_iff.1 h0, none, 0, rfl⟩
  · refine .inr ⟨g, 0, cap, rfl, h1, (Array.getElem?_eq_some_iff.1 hh).1, fun j x hj => ?_⟩
    rw [cell_of_row _ _ _ _ _ _ hh]
    have : (cur.toList.take (xs.length * 1))[j]? = some (.string x) := by rw [h4, List.getElem?_map, hj]; rfl
    rw [List.getElem?_take] at this
    split at this
    · simpa using this
    · cases this
theorem ownsRow_keep {w w' : World} {base : Nat} {e : TypeId} {size : Nat} {v : Value} {n : Nat} {xs : List Value} (h : w.ownsRow base e size v n xs) (hk : ∀ g, v.ownBlock = some g → w'.heap[g]? = w.heap[g]?) : w'.ownsRow base e size v n xs := by
  refine ⟨h.1, ?_⟩
  rcases h.2 with h | ⟨g, cap, cur, rfl, hb, hg, r⟩
  · exact .inl h
  · exact .inr ⟨g, cap, cur, rfl, hb, (hk g rfl).trans hg, r⟩
theorem ownsRow_below {w w' : World} {base : Nat} {e : TypeId} {size : Nat} {v : Value} {n : Nat} {xs : List Value} (h : w.ownsRow base e size v n xs) (hb : Below w.heap.size w w') : w'.ownsRow base e size v n xs :=
  ownsRow_keep h fun g hg => hb.block g (h.lt g hg).2
theorem ownsRow_ne {w : World} {base : Nat} {e : TypeId} {size : Nat} {v : Value} {n : Nat} {xs : List Value} {b : Nat} {cs : Array Value} {T : TypeId} {fr : Nat × Nat} (h : w.ownsRow base e size v n xs) (hb : w.heap[b]? = some (.cells cs T fr)) (hT : T ≠ e) : v.ownBlock ≠ some b := by
  rcases h.2 with ⟨rfl, _⟩ | ⟨g, cap, cur, rfl, _, hg, _⟩
  · simp [Value.ownBlock]
  · intro k
    simp only [Value.ownBlock, Option.some.injEq] at k
    subst k
    rw [hg] at hb
    simp only [Option.some.injEq, Obj.cells.injEq] at hb
    exact hT hb.2.1.symm
end Fld
end Go.Proofs.YtoneabcbeikkhaaGreatDoor
