/- tree.Same, for all nodes. -/
import Derived.Test.YtoklgmbpgnimcaaGreatDoorTrB
import Derived.Test.YtoklgmbpgnimcaaGreatDoorPtB
import Derived.Test.YtoklgmbpgnimcaaGreatDoorQTail
import Derived.Test.YtoklgmbpgnimcaaGreatDoorPtY
namespace Go.Proofs.YtoklgmbpgnimcaaGreatDoor
open Go.RowKit Go.Sort
namespace Tr
open Cls Pt
def av (n:ByteArray) (a:Option Addr) (k c:Nat):Value:=.agg #[.string n,.slice a k c]
end Tr
end Go.Proofs.YtoklgmbpgnimcaaGreatDoor
