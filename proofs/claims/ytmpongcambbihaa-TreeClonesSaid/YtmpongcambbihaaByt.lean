/- How much parts hold. -/
import Derived.Test.YtmpongcambbihaaPtA
namespace Go.Proofs.Ytmpongcambbihaa
namespace Bd
open Pt
/-- How much there is in all: parts and bytes. -/
def bytes : PL → Nat
  | .nil => 0
  | .cons _ _ t o f r => 1 + t.size + o.size + bytes f + bytes r
/-- A part in a block of its own. -/
def Box (w : World) (c : Nat) (k : Int) (q : Bool) (t o : ByteArray) (a : Option Addr) (n cap : Nat) : Prop :=
  w.heap[c]? = some (.cells #[.int .i64 k, .bool q, .string t, .string o, .slice a n cap] 38 (0, 0))
theorem Box.cell {w : World} {c : Nat} {k : Int} {q : Bool} {t o : ByteArray} {a : Option Addr} {n cap : Nat} (h : Box w c k q t o a n cap) (j : Nat) : w.cell? ⟨c, j, none⟩ = #[Value.int .i64 k, .bool q, .string t, .string o, .slice a n cap][j]? :=
  Lib.cell_of_heap h j
end Bd
end Go.Proofs.Ytmpongcambbihaa
