/- Which parts are right, as the program has it: for all parts. -/
/- rightParts, Value, Right: for all parts. -/
/- Value and Right, for all parts. -/
import Derived.Test.YtoklgmbpgnimcaaGreatDoorPtV
namespace Go.Proofs.YtoklgmbpgnimcaaGreatDoor
open Go.RowKit Go.Sort
namespace Pt
open Cls
def rightL:Option (Int × Bool)→PL→Nat→Nat→Bool
 | _,.nil,_,_=>true
 | p,.cons k q t o f r,at',d =>
  !(at' == 2 && !q) && !(p.any fun x=>x.1 == 1 && k == 1 && x.2 == q) &&
   (if k == 1 then (o.data.toList == [] && f.len == 0 && textOK q t.data.toList at')
    else if k == 2 then (decide (d≤200) && nameOK t.data.toList o.data.toList && (!(o.data.toList == []) || f.len == 0) && rightL none f (wth q) (d + 1)) else false) &&
   rightL (some (k,q)) r at' d
def partOK (k:Int) (q:Bool) (t o:ByteArray) (f:PL) (at' d:Nat):Bool :=
 if k == 1 then (o.data.toList == [] && f.len == 0 && textOK q t.data.toList at')
 else if k == 2 then (decide (d≤200) && nameOK t.data.toList o.data.toList && (!(o.data.toList == []) || f.len == 0) && rightL none f (wth q) (d + 1)) else false
end Pt
end Go.Proofs.YtoklgmbpgnimcaaGreatDoor
namespace Go.Proofs.YtoklgmbpgnimcaaGreatDoor
open Go.RowKit Go.Sort
namespace Pt
open Cls
end Pt
end Go.Proofs.YtoklgmbpgnimcaaGreatDoor
namespace Go.Proofs.YtoklgmbpgnimcaaGreatDoor
open Go.RowKit Go.Sort
namespace Pt
open Cls
def rightW:PL→Bool
 | .nil=>false
 | .cons k q t o f r=>!(k == 1 && !q && Lib.hasPrefix t.data.toList [35]) && rightL none (.cons k q t o f r) 0 1
end Pt
end Go.Proofs.YtoklgmbpgnimcaaGreatDoor
