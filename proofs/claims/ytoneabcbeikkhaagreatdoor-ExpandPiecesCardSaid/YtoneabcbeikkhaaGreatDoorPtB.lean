/- How much parts hold. -/
/- Same: the program's and the reference's, for all parts. -/
import Derived.Test.YtoneabcbeikkhaaGreatDoorPtA
import Derived.Test.YtoneabcbeikkhaaGreatDoorClsN
import Derived.Lib.QuietBelow
namespace Go.Proofs.YtoneabcbeikkhaaGreatDoor
namespace Bd
open Pt
/-- How much there is in all: parts and bytes. -/
def bytes : PL → Nat
  | .nil => 0
  | .cons _ _ t o f r => 1 + t.size + o.size + bytes f + bytes r
/-- A part in a block of its own. -/
def Box (w : World) (c : Nat) (k : Int) (q : Bool) (t o : ByteArray) (a : Option Addr) (n cap : Nat) : Prop :=
  w.heap[c]? = some (.cells #[.int .i64 k, .bool q, .string t, .string o, .slice a n cap] 52 (0, 0))
theorem Box.cell {w : World} {c : Nat} {k : Int} {q : Bool} {t o : ByteArray} {a : Option Addr} {n cap : Nat} (h : Box w c k q t o a n cap) (j : Nat) : w.cell? ⟨c, j, none⟩ = #[Value.int .i64 k, .bool q, .string t, .string o, .slice a n cap][j]? :=
  Lib.cell_of_heap h j
end Bd
end Go.Proofs.YtoneabcbeikkhaaGreatDoor

namespace Go.Proofs.YtoneabcbeikkhaaGreatDoor
open Go.RowKit Go.Sort
namespace Pt
open Cls

def same : PL → PL → Bool
  | .nil, .nil => true
  | .cons k q t o f r, .cons k' q' t' o' f' r' => (k == k' && q == q' && t.toList == t'.toList && o.toList == o'.toList && same f f') && same r r'
  | _, _ => false

/-- A part as a value. -/
def pv (k : Int) (q : Bool) (t o : ByteArray) (a : Option Addr) (n cap : Nat) : Value := .agg #[.int .i64 k, .bool q, .string t, .string o, .slice a n cap]

theorem thru {w w1 w2 : World} (h1 : Below w.heap.size w w1) (h2 : Below w1.heap.size w1 w2) : Below w.heap.size w w2 :=
  h1.trans (h2.mono h1.size)
theorem bel1 (w : World) (x : Obj) : Below w.heap.size w (w.alloc x) := (Below.refl _ w).alloc (Nat.le_refl _) x
theorem bel2 (w : World) (x y : Obj) : Below w.heap.size w ((w.alloc x).alloc y) := thru (bel1 w x) (bel1 _ y)


theorem same_len : ∀ {a b : PL}, a.len ≠ b.len → same a b = false
  | .nil, .nil, h => absurd rfl h
  | .nil, .cons .., _ => rfl
  | .cons .., .nil, _ => rfl
  | .cons _ _ _ _ _ r, .cons _ _ _ _ _ r', h => by simp only [same, same_len (a := r) (b := r') (by simpa [PL.len] using h), Bool.and_false]

end Pt
end Go.Proofs.YtoneabcbeikkhaaGreatDoor
