/- rightAt, Right, Program, for all nodes. -/
import Derived.Test.YtbcldfaphnnmlaaTrK
import Derived.Laws.EntriesVeiled
namespace Go.Proofs.Ytbcldfaphnnmlaa
open Go.RowKit Go.Sort
namespace Tr
open Cls Pt
end Tr
end Go.Proofs.Ytbcldfaphnnmlaa
