/- tree.Same, for all nodes. -/
/- Small functions of tree; which fields a node may have. -/
import Derived.Test.YtbcldfaphnnmlaaTrC
import Derived.Test.YtbcldfaphnnmlaaClsN
import Derived.Test.YtbcldfaphnnmlaaPtY
namespace Go.Proofs.Ytbcldfaphnnmlaa
open Go.RowKit Go.Sort
namespace Tr
open Cls Pt
theorem heap_new' (w:World) (o:Obj):(w.alloc o).heap[w.heap.size]? = some o:=by
 show (w.heap.push o)[w.heap.size]? = some o
 exact Array.getElem?_push_size
end Tr
end Go.Proofs.Ytbcldfaphnnmlaa
namespace Go.Proofs.Ytbcldfaphnnmlaa
open Go.RowKit Go.Sort
namespace Tr
open Cls Pt
end Tr
end Go.Proofs.Ytbcldfaphnnmlaa
