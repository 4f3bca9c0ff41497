/- Words that are right, a command's first word, a simple command, a loop's head. -/
/- A simple command that is right; a loop's head. -/
import Derived.Test.YtoklgmbpgnimcaaGreatDoorTrF
namespace Go.Proofs.YtoklgmbpgnimcaaGreatDoor
open Go.RowKit Go.Sort
namespace Tr
open Cls Pt
end Tr
end Go.Proofs.YtoklgmbpgnimcaaGreatDoor
namespace Go.Proofs.YtoklgmbpgnimcaaGreatDoor
open Go.RowKit Go.Sort
namespace Tr
open Cls Pt
end Tr
end Go.Proofs.YtoklgmbpgnimcaaGreatDoor
