/- Same: the program's and the reference's, for all parts. -/
import Derived.Test.YtoklgmbpgnimcaaGreatDoorPtA
import Derived.Test.YtoklgmbpgnimcaaGreatDoorClsN
import Derived.Lib.QuietBelow
namespace Go.Proofs.YtoklgmbpgnimcaaGreatDoor
open Go.RowKit Go.Sort
namespace Pt
open Cls
def same:PL→PL→Bool
 | .nil,.nil=>true
 | .cons k q t o f r,.cons k' q' t' o' f' r'=>(k == k' && q == q' && t.toList == t'.toList && o.toList == o'.toList && same f f') && same r r'
 | _,_=>false
def pv (k:Int) (q:Bool) (t o:ByteArray) (a:Option Addr) (n cap:Nat):Value:=.agg #[.int .i64 k,.bool q,.string t,.string o,.slice a n cap]
theorem thru {w w1 w2:World} (h1:Below w.heap.size w w1) (h2:Below w1.heap.size w1 w2):Below w.heap.size w w2 :=
 h1.trans (h2.mono h1.size)
theorem bel1 (w:World) (x:Obj):Below w.heap.size w (w.alloc x):=(Below.refl _ w).alloc (Nat.le_refl _) x
theorem bel2 (w:World) (x y:Obj):Below w.heap.size w ((w.alloc x).alloc y):=thru (bel1 w x) (bel1 _ y)
end Pt
end Go.Proofs.YtoklgmbpgnimcaaGreatDoor
