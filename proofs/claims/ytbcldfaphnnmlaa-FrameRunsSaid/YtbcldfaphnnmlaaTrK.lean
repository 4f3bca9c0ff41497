/- All of a row of nodes (the closure that rightAt makes). -/
/- rightAt's second closure; cases that are right. -/
import Derived.Test.YtbcldfaphnnmlaaTrI
namespace Go.Proofs.Ytbcldfaphnnmlaa
open Go.RowKit Go.Sort
namespace Tr
open Cls Pt
end Tr
end Go.Proofs.Ytbcldfaphnnmlaa
namespace Go.Proofs.Ytbcldfaphnnmlaa
open Go.RowKit Go.Sort
namespace Tr
open Cls Pt
end Tr
end Go.Proofs.Ytbcldfaphnnmlaa
