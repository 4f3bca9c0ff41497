/- How long names and operators are: lex.run, nameLength, opLength, for every text. -/
import Derived.Test.YtjmpfihopeohbaaGreatDoorClsN
namespace Go.Proofs.YtjmpfihopeohbaaGreatDoor
open Go.RowKit
namespace Lx
open Cls
def runLen (p:Nat→Bool):List UInt8→Nat
 | []=>0
 | c :: l=>if p c.toNat then runLen p l + 1 else 0
def wordB (n:Nat):Bool:=letterB n || digitB n
def nameLen (l:List UInt8) (d:Nat):Nat :=
 match l with
 | []=>0
 | c :: _=>if letterB c.toNat then runLen wordB l else if digitB c.toNat then min (runLen digitB l) d else if paramL [c] then 1 else 0
def opB (n:Nat):Bool:=(n:Int) == 45 || (n:Int) == 61 || (n:Int) == 43 || (n:Int) == 63
def opLen:List UInt8→Nat
 | []=>0
 | c :: l=>if (c.toNat:Int) == 58 then match l with
   | []=>0
   | c2 :: _=>if opB c2.toNat then 2 else 0
  else if opB c.toNat then 1 else 0
end Lx
end Go.Proofs.YtjmpfihopeohbaaGreatDoor
