/- What bytes and texts are in a program (package class), as plain functions, and what the reference's lists of bytes say of them. -/
/- What the small functions of package class answer (Blank, Break, Sign, Bare, Letter, Digit), in the program and in the reference, for every byte. -/
import Derived.Test.YtbcldfaphnnmlaaRows
import Derived.WalkKit
import Derived.Lib.Hide
import Derived.WalkSpells
import Derived.WalkLawsBesides
import Derived.Lib.Strings
namespace Go.Proofs.Ytbcldfaphnnmlaa
open Go.RowKit
namespace Cls
theorem ret_bool {a b:Bool} (h:a = b):Ending.returned (.bool a) = .returned (.bool b):=by rw [h]
end Cls
end Go.Proofs.Ytbcldfaphnnmlaa
namespace Go.Proofs.Ytbcldfaphnnmlaa
open Go.RowKit
namespace Cls
end Cls
end Go.Proofs.Ytbcldfaphnnmlaa
