/- What Name, special, Reserved answer, in the program and in the reference, for every text. -/
/- What number and Param answer, in the program, for every text: a text is asked sign by sign, and no sign that is a digit stands at a byte that is none. -/
/- What the reference's Name, Digits, Param, Reserved answer, for every text. -/
import Derived.Test.YtbcldfaphnnmlaaClsB
import Derived.Test.YtbcldfaphnnmlaaShelf
import Derived.Lib.SpaceUEq
import Derived.Lib.TrimUEq
namespace Go.Proofs.Ytbcldfaphnnmlaa
open Go.RowKit
namespace Cls
end Cls
end Go.Proofs.Ytbcldfaphnnmlaa
namespace Go.Proofs.Ytbcldfaphnnmlaa
open Go.RowKit Go.Shelf
namespace Cls
end Cls
end Go.Proofs.Ytbcldfaphnnmlaa
namespace Go.Proofs.Ytbcldfaphnnmlaa
open Go.RowKit
namespace Cls
end Cls
end Go.Proofs.Ytbcldfaphnnmlaa
