/- tree.Same, for all nodes. -/
/- Small functions of tree; which fields a node may have. -/
import Derived.Test.YtoklgmbpgnimcaaGreatDoorTrC
import Derived.Test.YtoklgmbpgnimcaaGreatDoorClsN
import Derived.Test.YtoklgmbpgnimcaaGreatDoorPtY
namespace Go.Proofs.YtoklgmbpgnimcaaGreatDoor
open Go.RowKit Go.Sort
namespace Tr
open Cls Pt
theorem heap_new' (w:World) (o:Obj):(w.alloc o).heap[w.heap.size]? = some o:=by
 show (w.heap.push o)[w.heap.size]? = some o
 exact Array.getElem?_push_size
def cv (a:Option Addr) (n c:Nat) (a':Option Addr) (n' c':Nat):Value:=.agg #[.slice a n c,.slice a' n' c']
end Tr
end Go.Proofs.YtoklgmbpgnimcaaGreatDoor
namespace Go.Proofs.YtoklgmbpgnimcaaGreatDoor
open Go.RowKit Go.Sort
namespace Tr
open Cls Pt
end Tr
end Go.Proofs.YtoklgmbpgnimcaaGreatDoor
