/- Pairs of texts in memory. -/
import Derived.Test.YtoneabcbeikkhaaGreatDoorVrM
namespace Go.Proofs.YtoneabcbeikkhaaGreatDoor
open Go.RowKit Go.Maps Cls
namespace Vr

/-- A slice's value that may be read as these pairs. -/
def Prs (w : World) (v : Value) (vs : Vs) : Prop :=
  (vs = [] ∧ ∃ a cap, v = .slice a 0 cap) ∨ ∃ b off cap, v = .slice (some ⟨b, off, none⟩) vs.length cap ∧ vs.length ≤ cap ∧ b < w.heap.size ∧
    ∀ j p, vs[j]? = some p → w.cell? ⟨b, off + 2 * j, none⟩ = some (.string p.1) ∧ w.cell? ⟨b, off + 2 * j + 1, none⟩ = some (.string p.2)
theorem Prs.stay {w w' : World} {v : Value} {vs : Vs} (h : Prs w v vs) (hb : Below w.heap.size w w') : Prs w' v vs := by
  rcases h with h | ⟨b, off, cap, rfl, h1, h2, h3⟩
  · exact .inl h
  · refine .inr ⟨b, off, cap, rfl, h1, Nat.lt_of_lt_of_le h2 hb.size, fun j x hj => ?_⟩
    exact ⟨(World.cell?_of_block (a := ⟨b, off + 2 * j, none⟩) (hb.block b h2)).trans (h3 j x hj).1, (World.cell?_of_block (a := ⟨b, off + 2 * j + 1, none⟩) (hb.block b h2)).trans (h3 j x hj).2⟩
theorem Prs.cell {w : World} {v : Value} {vs : Vs} (h : Prs w v vs) : ∃ a cap, v = .slice a vs.length cap ∧ ∀ j p, vs[j]? = some p → ∃ b off, a = some ⟨b, off, none⟩ ∧ b < w.heap.size ∧ w.cell? ⟨b, off + 2 * j, none⟩ = some (.string p.1) ∧ w.cell? ⟨b, off + 2 * j + 1, none⟩ = some (.string p.2) := by
  rcases h with ⟨rfl, a, cap, rfl⟩ | ⟨b, off, cap, rfl, h1, h2, h3⟩
  · exact ⟨a, cap, rfl, fun j x hj => by simp at hj⟩
  · exact ⟨_, cap, rfl, fun j x hj => ⟨b, off, rfl, h2, (h3 j x hj).1, (h3 j x hj).2⟩⟩

theorem Txt.cell {w : World} {av : Value} {xs : List ByteArray} (h : Txt w av xs) : ∃ a cap, av = .slice a xs.length cap ∧ ∀ j x, xs[j]? = some x → ∃ b off, a = some ⟨b, off, none⟩ ∧ b < w.heap.size ∧ w.cell? ⟨b, off + j, none⟩ = some (.string x) := by
  rcases h with ⟨rfl, a, cap, rfl⟩ | ⟨b, off, cap, rfl, h1, h2, h3⟩
  · exact ⟨a, cap, rfl, fun j x hj => by simp at hj⟩
  · exact ⟨_, cap, rfl, fun j x hj => ⟨b, off, rfl, h2, h3 j x hj⟩⟩
end Vr
end Go.Proofs.YtoneabcbeikkhaaGreatDoor
