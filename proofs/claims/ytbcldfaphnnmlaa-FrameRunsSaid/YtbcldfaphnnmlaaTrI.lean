/- Words that are right, a command's first word, a simple command, a loop's head. -/
/- A simple command that is right; a loop's head. -/
/- A loop's head; what is right in a place and at a depth, as a plain function; all of a row of nodes. -/
import Derived.Test.YtbcldfaphnnmlaaTrF
namespace Go.Proofs.Ytbcldfaphnnmlaa
open Go.RowKit Go.Sort
namespace Tr
open Cls Pt
end Tr
end Go.Proofs.Ytbcldfaphnnmlaa
namespace Go.Proofs.Ytbcldfaphnnmlaa
open Go.RowKit Go.Sort
namespace Tr
open Cls Pt
end Tr
end Go.Proofs.Ytbcldfaphnnmlaa
namespace Go.Proofs.Ytbcldfaphnnmlaa
open Go.RowKit Go.Sort
namespace Tr
open Cls Pt
end Tr
end Go.Proofs.Ytbcldfaphnnmlaa
