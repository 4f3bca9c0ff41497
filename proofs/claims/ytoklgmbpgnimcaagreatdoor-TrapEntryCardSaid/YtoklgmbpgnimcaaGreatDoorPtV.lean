/- The program's small functions on parts: which bytes stand for themselves, names with operators, texts. -/
import Derived.Test.YtoklgmbpgnimcaaGreatDoorPtB
import Derived.Test.YtoklgmbpgnimcaaGreatDoorClsN
import Derived.Test.YtoklgmbpgnimcaaGreatDoorQTail
namespace Go.Proofs.YtoklgmbpgnimcaaGreatDoor
open Go.RowKit Go.Sort
namespace Pt
open Cls
def escB (n:Nat):Bool:=(n:Int) == 34 || (n:Int) == 36 || (n:Int) == 92 || (n:Int) == 96 || (n:Int) == 125
def standsB (n:Nat) (at':Nat):Bool:=if at' = 0 then bareB n else !((n:Int) == 39) && !escB n
def textOK (q:Bool) (t:List UInt8) (at':Nat):Bool:=if q then (!(at' == 2) || !(t == [])) else (t.all fun c=>standsB c.toNat at') && !(t == [])
def isSet (o:List UInt8):Bool:=o == [61] || o == [58,61]
def isOp (o:List UInt8):Bool:=o == [] || o == [45] || o == [58,45] || o == [43] || o == [58,43] || o == [63] || o == [58,63]
def nameOK (t o:List UInt8):Bool:=if isSet o then nameL t else if isOp o then paramL t else false
def wth (q:Bool):Nat:=if q then 2 else 1
end Pt
end Go.Proofs.YtoklgmbpgnimcaaGreatDoor
