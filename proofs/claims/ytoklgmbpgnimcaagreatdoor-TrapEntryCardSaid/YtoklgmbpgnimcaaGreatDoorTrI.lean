/- A loop's head; what is right in a place and at a depth, as a plain function; all of a row of nodes. -/
import Derived.Test.YtoklgmbpgnimcaaGreatDoorTrH
namespace Go.Proofs.YtoklgmbpgnimcaaGreatDoor
open Go.RowKit Go.Sort
namespace Tr
open Cls Pt
end Tr
end Go.Proofs.YtoklgmbpgnimcaaGreatDoor
