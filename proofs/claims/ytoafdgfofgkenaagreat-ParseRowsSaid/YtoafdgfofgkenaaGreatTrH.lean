/- Words that are right, a command's first word, a simple command, a loop's head. -/
/- A simple command that is right; a loop's head. -/
import Derived.Test.YtoafdgfofgkenaaGreatTrF
namespace Go.Proofs.YtoafdgfofgkenaaGreat
open Go.RowKit Go.Sort
namespace Tr
open Cls Pt
def firstB (l:PL) (behind:Bool):Bool:=!(Sp.splitP l).isSome && (behind || !Sp.plainB l || !reservedL (Sp.plainT l).data.toList)
end Tr
end Go.Proofs.YtoafdgfofgkenaaGreat
namespace Go.Proofs.YtoafdgfofgkenaaGreat
open Go.RowKit Go.Sort
namespace Tr
open Cls Pt
def assignB (x:ByteArray × PL):Bool:=nameL x.1.data.toList && rightL none x.2 0 1
def simpleB (az:List (ByteArray × PL)) (ws:List PL):Bool :=
 az.all assignB && match ws with
  | []=>decide (0 < az.length)
  | l :: r=>firstB l (decide (0 < az.length)) && (l :: r).all rightW
end Tr
end Go.Proofs.YtoafdgfofgkenaaGreat
