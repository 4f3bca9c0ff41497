/- A block of another type than a scope's stays as it is. -/
import Derived.Test.YtoneabcbeikkhaaGreatDoorVrU
namespace Go.Proofs.YtoneabcbeikkhaaGreatDoor
open Go.RowKit Go.Maps Cls
namespace Vr

theorem RowAt.neType {w : World} {B q : Nat} {av : Value} {xs : List ByteArray} {cs : Array Value} {T : TypeId} {fr : Nat × Nat} (h : RowAt w B av xs) (hT : T ≠ 9) (hq : w.heap[q]? = some (.cells cs T fr)) : av.ownBlock ≠ some q := by
  intro e
  rcases h with ⟨rfl, _⟩ | ⟨g, off, cap, cur, rfl, _, _, _, _, hh, _⟩
  · cases e
  · cases e; rw [hq] at hh; injection hh with hh; injection hh with _ h2; exact absurd h2 hT
/-- A block of another type stays. -/
theorem Kp.other {w w' : World} {q k B B' : Nat} {mv av : Value} {vs : Vs} {xs : List ByteArray} {cs : Array Value} {T : TypeId} (h : Kp w w' q mv av) (hm : MapAt w B mv vs) (ha : RowAt w B' av xs) (hT : T ≠ 9) (hk : w.heap[k]? = some (.cells cs T (0, 0))) (hq : k ≠ q) : w'.heap[k]? = some (.cells cs T (0, 0)) :=
  (h.block k (Array.getElem?_eq_some_iff.1 hk).1 hq (hm.neScope hk) (ha.neType hT hk)).trans hk
end Vr
end Go.Proofs.YtoneabcbeikkhaaGreatDoor
