/- The program's small functions on parts: which bytes stand for themselves, names with operators, texts. -/
/- Which parts are right, as the program has it: for all parts. -/
/- rightParts, Value, Right: for all parts. -/
/- Value and Right, for all parts. -/
import Derived.Test.YtbcldfaphnnmlaaPtB
import Derived.Test.YtbcldfaphnnmlaaClsN
import Derived.Test.YtbcldfaphnnmlaaQTail
namespace Go.Proofs.Ytbcldfaphnnmlaa
open Go.RowKit Go.Sort
namespace Pt
open Cls
end Pt
end Go.Proofs.Ytbcldfaphnnmlaa
namespace Go.Proofs.Ytbcldfaphnnmlaa
open Go.RowKit Go.Sort
namespace Pt
open Cls
theorem wrapEq (x:Int):IntKind.i64.wrap x = wrap64 x:=by rw [IntKind.wrap_i64,wrap64]
end Pt
end Go.Proofs.Ytbcldfaphnnmlaa
namespace Go.Proofs.Ytbcldfaphnnmlaa
open Go.RowKit Go.Sort
namespace Pt
open Cls
end Pt
end Go.Proofs.Ytbcldfaphnnmlaa
namespace Go.Proofs.Ytbcldfaphnnmlaa
open Go.RowKit Go.Sort
namespace Pt
open Cls
end Pt
end Go.Proofs.Ytbcldfaphnnmlaa
