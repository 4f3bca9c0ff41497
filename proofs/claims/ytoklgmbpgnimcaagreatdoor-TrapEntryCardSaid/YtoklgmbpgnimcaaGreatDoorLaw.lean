/- Small lemmas, of no program of ours: what a law's row says follows from its call: it returns true and leaves what was there as it was; a table of texts that reads as listed holds those texts. -/
import Derived.Test.YtoklgmbpgnimcaaGreatDoorRows
import Derived.ProofKit
import Derived.OpenShut
import Derived.LaidMore
import Derived.Stop.LaidErr
import Derived.Carry
import Derived.Below
import Derived.Lib.LaidTab
namespace Go.Proofs.YtoklgmbpgnimcaaGreatDoor
open Go.RowKit Go.WideShapes Go.ChangeShapes Go.ChangeAt
namespace Law
section
variable {H:Type} {enc:TypeId × Value→H} {P:Program}
end
end Law
end Go.Proofs.YtoklgmbpgnimcaaGreatDoor
