/- Plain; the reference's Split: for all parts. -/
/- Which fields a node may have (onlyItsOwn); words that are right; a command's first word. -/
import Derived.Test.YtbcldfaphnnmlaaPtY
import Derived.Test.YtbcldfaphnnmlaaClsN
import Derived.Test.YtbcldfaphnnmlaaTrE
import Derived.Test.YtbcldfaphnnmlaaSpC
namespace Go.Proofs.Ytbcldfaphnnmlaa
open Go.RowKit Go.Sort
namespace Sp
open Cls Pt
end Sp
end Go.Proofs.Ytbcldfaphnnmlaa
namespace Go.Proofs.Ytbcldfaphnnmlaa
open Go.RowKit Go.Sort
namespace Tr
open Cls Pt
end Tr
end Go.Proofs.Ytbcldfaphnnmlaa
