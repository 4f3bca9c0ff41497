/- What the parser makes of tokens: plain functions; no program's. -/
import Derived.Test.YtoklgmbpgnimcaaGreatDoorLxY
import Derived.Test.YtoklgmbpgnimcaaGreatDoorSpC
import Derived.Test.YtoklgmbpgnimcaaGreatDoorTrQa
import Derived.Lib.SlicesS
namespace Go.Proofs.YtoklgmbpgnimcaaGreatDoor
open Go.RowKit Go.Sort
namespace Ps
open Cls Pt Tr Sp Lx
inductive Rs (T:Type) where
 | ok (a:T) (o:Tok)
 | bad (i e:Nat)
def Rs.bind {T U:Type} (r:Rs T) (f:T→Tok→Rs U):Rs U:=match r with
 | .ok a o=>f a o
 | .bad i e=>.bad i e
def textF (o:Tok):ByteArray:=if o.k = 2 then o.t else if o.k = 3 then ⟨#[10]⟩ else plainT o.l
def seesF (l:List ByteArray) (o:Tok):Bool:=Lib.containsS l (textF o)
def nextF (s:ByteArray) (o:Tok):Rs Unit:=if (tokAt s o.j).k = 5 then .bad (tokAt s o.j).i (tokAt s o.j).err else .ok () (tokAt s o.j)
def skipF (s:ByteArray) (l:List ByteArray) (o:Tok):Rs Bool:=if seesF l o then (nextF s o).bind fun _ o=>.ok true o else .ok false o
def takeF (s:ByteArray) (l:List ByteArray) (o:Tok):Rs Unit:=(skipF s l o).bind fun b o=>if b then .ok () o else .bad o.i 1
def tLine:ByteArray:=⟨#[10]⟩
def F (s:ByteArray):Nat:=2 * s.size + 2
def linesN (s:ByteArray):Nat→Tok→Rs Unit
 | 0,_=>.bad 0 0
 | n + 1,o=>(skipF s [tLine] o).bind fun b o=>if b then linesN s n o else .ok () o
def linesF (s:ByteArray) (o:Tok):Rs Unit:=linesN s (F s) o
def wordF (s:ByteArray) (o:Tok):Rs PL:=if o.k = 1 then (nextF s o).bind fun _ p=>.ok o.l p else .bad o.i 1
def wordsN (s:ByteArray):Nat→List PL→Tok→Rs (List PL)
 | 0,_,_=>.bad 0 0
 | n + 1,l,o=>if o.k = 1 then (wordF s o).bind fun x o=>wordsN s n (l ++ [x]) o else .ok l o
def wordsF (s:ByteArray) (o:Tok):Rs (List PL):=wordsN s (F s) [] o
def splitA (l:PL):Option (ByteArray × PL):=match l,splitP l with
 | .cons k q t o f r,some m=>some (⟨(t.data.toList.take m).toArray⟩,restP (.cons k q t o f r) m)
 | _,_=>none
def assignsN (s:ByteArray):Nat→List (ByteArray × PL)→Tok→Rs (List (ByteArray × PL))
 | 0,_,_=>.bad 0 0
 | n + 1,l,o=>if o.k = 1 then match splitA o.l with
  | some x=>(nextF s o).bind fun _ o=>assignsN s n (l ++ [x]) o
  | none=>.ok l o
  else .ok l o
def assignsF (s:ByteArray) (o:Tok):Rs (List (ByteArray × PL)):=assignsN s (F s) [] o
def namedB (o:Tok):Bool:=o.k == 1 && nameL (textF o).data.toList
def nameF (s:ByteArray) (o:Tok):Rs ByteArray:=if namedB o then (nextF s o).bind fun _ p=>.ok (textF o) p else .bad o.i 1
def tOpen:List ByteArray:=[⟨#[123]⟩,⟨#[40]⟩,⟨#[105,102]⟩,⟨#[119,104,105,108,101]⟩,⟨#[117,110,116,105,108]⟩,⟨#[102,111,114]⟩,⟨#[99,97,115,101]⟩]
def opensB (o:Tok):Bool:=seesF tOpen o
def simplyB (o:Tok):Bool:=o.k == 1 && !reservedL (textF o).data.toList
def beginsB (o:Tok):Bool:=simplyB o || opensB o || seesF [⟨#[33]⟩] o
structure ND where
 k:Int
 nm:ByteArray
 g:Bool
 az:List (ByteArray × PL)
 ws:List PL
 ks:NL
 bs:List Bool
 cz:NL
def ND.on (x:ND) (r:NL):NL:=.node x.k x.nm x.g x.az x.ws x.ks x.bs x.cz r
def toN:List ND→NL
 | []=>.nil
 | x :: r=>x.on (toN r)
abbrev CD:=List PL × List ND
def toC:List CD→NL
 | []=>.nil
 | x :: r=>.cse x.1 (toN x.2) (toC r)
def nd (k:Int) (ks:List ND):ND:=⟨k,⟨#[]⟩,false,[],[],toN ks,[],.nil⟩
def listD (ks:List ND) (bs:List Bool):ND:=⟨5,⟨#[]⟩,false,[],[],toN ks,bs,.nil⟩
def patsN (s:ByteArray):Nat→List PL→Tok→Rs (List PL)
 | 0,_,_=>.bad 0 0
 | n + 1,l,o=>(skipF s [⟨#[124]⟩] o).bind fun b o=>if b then (wordF s o).bind fun x o=>patsN s n (l ++ [x]) o else .ok l o
mutual
def listF (s:ByteArray) (d:Nat):Nat→List ND→List Bool→Tok→Rs ND
 | 0,_,_,_=>.bad 0 0
 | n + 1,ks,bs,o=>(itemF s d n o).bind fun x o=>(skipF s [⟨#[59]⟩,⟨#[38]⟩,tLine] o).bind fun b p =>
  if b then (linesF s p).bind fun _ q=>if beginsB q then listF s d n (ks ++ [x]) (bs ++ [seesF [⟨#[38]⟩] o]) q else .ok (listD (ks ++ [x]) (bs ++ [seesF [⟨#[38]⟩] o])) q
  else .ok (listD (ks ++ [x]) (bs ++ [seesF [⟨#[38]⟩] o])) p
def itemF (s:ByteArray) (d:Nat):Nat→Tok→Rs ND
 | 0,_=>.bad 0 0
 | n + 1,o=>(unitF s d n o).bind fun x o=>itemL s d n x o
def itemL (s:ByteArray) (d:Nat):Nat→ND→Tok→Rs ND
 | 0,_,_=>.bad 0 0
 | n + 1,x,o=>if seesF [⟨#[38,38]⟩,⟨#[124,124]⟩] o then (nextF s o).bind fun _ p=>(linesF s p).bind fun _ p=>(unitF s d n p).bind fun y p=>itemL s d n (nd (if seesF [⟨#[124,124]⟩] o then 3 else 2) [x,y]) p else .ok x o
def unitF (s:ByteArray) (d:Nat):Nat→Tok→Rs ND
 | 0,_=>.bad 0 0
 | n + 1,o=>(skipF s [⟨#[33]⟩] o).bind fun b o=>if b then (commandF s d n o).bind fun x o=>.ok (nd 4 [x]) o else commandF s d n o
def commandF (s:ByteArray) (d:Nat):Nat→Tok→Rs ND
 | 0,_=>.bad 0 0
 | n + 1,o=>if simplyB o then simpleF s d n o else compoundF s d n o
def simpleF (s:ByteArray) (d:Nat):Nat→Tok→Rs ND
 | 0,_=>.bad 0 0
 | n + 1,o=>(assignsF s o).bind fun az p=>(wordsF s p).bind fun ws p =>
  if namedB o && ws.length == 1 then (skipF s [⟨#[40]⟩] p).bind fun b p=>if b then (takeF s [⟨#[41]⟩] p).bind fun _ p=>(linesF s p).bind fun _ p=>(compoundF s d n p).bind fun x p=>.ok ⟨13,textF o,false,[],[],toN [x],[],.nil⟩ p
   else .ok ⟨1,⟨#[]⟩,false,az,ws,.nil,[],.nil⟩ p
  else .ok ⟨1,⟨#[]⟩,false,az,ws,.nil,[],.nil⟩ p
def compoundF (s:ByteArray) (d:Nat):Nat→Tok→Rs ND
 | 0,_=>.bad 0 0
 | n + 1,o=>if opensB o then if d = 200 then .bad o.i 2 else (nextF s o).bind fun _ p=>openedF s (d + 1) n (textF o) p else .bad o.i 1
/-- What is behind the word,or the sign,that a compound begins with. -/
def openedF (s:ByteArray) (d:Nat):Nat→ByteArray→Tok→Rs ND
 | 0,_,_=>.bad 0 0
 | n + 1,t,o =>
  if t = ⟨#[123]⟩ then (linesF s o).bind fun _ o=>(listF s d n [] [] o).bind fun x o=>(takeF s [⟨#[125]⟩] o).bind fun _ o=>.ok (nd 11 [x]) o
  else if t = ⟨#[40]⟩ then (linesF s o).bind fun _ o=>(listF s d n [] [] o).bind fun x o=>(takeF s [⟨#[41]⟩] o).bind fun _ o=>.ok (nd 12 [x]) o
  else if t = ⟨#[105,102]⟩ then (branchF s d n o).bind fun x o=>(takeF s [⟨#[102,105]⟩] o).bind fun _ o=>.ok x o
  else if t = ⟨#[119,104,105,108,101]⟩ then loopF s d n 7 o
  else if t = ⟨#[117,110,116,105,108]⟩ then loopF s d n 8 o
  else if t = ⟨#[102,111,114]⟩ then eachF s d n o
  else choiceF s d n o
def loopF (s:ByteArray) (d:Nat):Nat→Int→Tok→Rs ND
 | 0,_,_=>.bad 0 0
 | n + 1,k,o=>(linesF s o).bind fun _ o=>(listF s d n [] [] o).bind fun x o=>(behindF s d n ⟨#[100,111]⟩ o).bind fun y o=>(takeF s [⟨#[100,111,110,101]⟩] o).bind fun _ o=>.ok (nd k [x,y]) o
def behindF (s:ByteArray) (d:Nat):Nat→ByteArray→Tok→Rs ND
 | 0,_,_=>.bad 0 0
 | n + 1,t,o=>(takeF s [t] o).bind fun _ o=>(linesF s o).bind fun _ o=>listF s d n [] [] o
def branchF (s:ByteArray) (d:Nat):Nat→Tok→Rs ND
 | 0,_=>.bad 0 0
 | n + 1,o=>(linesF s o).bind fun _ o=>(listF s d n [] [] o).bind fun x o=>(behindF s d n ⟨#[116,104,101,110]⟩ o).bind fun y o =>
  if seesF [⟨#[101,108,115,101]⟩] o then (behindF s d n ⟨#[101,108,115,101]⟩ o).bind fun z o=>.ok (nd 6 [x,y,z]) o
  else if seesF [⟨#[101,108,105,102]⟩] o then if d = 200 then .bad o.i 2 else (nextF s o).bind fun _ o=>(branchF s (d + 1) n o).bind fun z o=>.ok (nd 6 [x,y,listD [z] [false]]) o
  else .ok (nd 6 [x,y]) o
def eachF (s:ByteArray) (d:Nat):Nat→Tok→Rs ND
 | 0,_=>.bad 0 0
 | n + 1,o=>(nameF s o).bind fun nm o=>(eachW s o).bind fun gw o=>(behindF s d n ⟨#[100,111]⟩ o).bind fun y o=>(takeF s [⟨#[100,111,110,101]⟩] o).bind fun _ o=>.ok ⟨9,nm,gw.1,[],gw.2,toN [y],[],.nil⟩ o
def choiceF (s:ByteArray) (d:Nat):Nat→Tok→Rs ND
 | 0,_=>.bad 0 0
 | n + 1,o=>(wordF s o).bind fun x o=>(linesF s o).bind fun _ o=>(takeF s [⟨#[105,110]⟩] o).bind fun _ o=>(linesF s o).bind fun _ o=>choiceL s d n x [] o
def choiceL (s:ByteArray) (d:Nat):Nat→PL→List CD→Tok→Rs ND
 | 0,_,_,_=>.bad 0 0
 | n + 1,x,cs,o=>(skipF s [⟨#[101,115,97,99]⟩] o).bind fun b o=>if b then .ok ⟨10,⟨#[]⟩,false,[],[x],.nil,[],toC cs⟩ o else (entryF s d n o).bind fun c o=>choiceL s d n x (cs ++ [c]) o
def entryF (s:ByteArray) (d:Nat):Nat→Tok→Rs CD
 | 0,_=>.bad 0 0
 | n + 1,o=>(skipF s [⟨#[40]⟩] o).bind fun _ o=>(wordF s o).bind fun x o=>(patsN s (F s) [x] o).bind fun ps o=>(takeF s [⟨#[41]⟩] o).bind fun _ o=>(linesF s o).bind fun _ o =>
  if beginsB o then (listF s d n [] [] o).bind fun y o=>entryE s (ps,[y]) o else entryE s (ps,[]) o
/-- The words of a for. -/
def eachW (s:ByteArray) (o:Tok):Rs (Bool × List PL):=(skipF s [⟨#[59]⟩] o).bind fun b o=>(linesF s o).bind fun _ o=>if b then .ok (false,[]) o else
 (skipF s [⟨#[105,110]⟩] o).bind fun g o=>if g then (wordsF s o).bind fun ws o=>(takeF s [⟨#[59]⟩,tLine] o).bind fun _ o=>(linesF s o).bind fun _ o=>.ok (true,ws) o else .ok (false,[]) o
def entryE (s:ByteArray) (c:CD) (o:Tok):Rs CD:=if seesF [⟨#[101,115,97,99]⟩] o then .ok c o else (takeF s [⟨#[59,59]⟩] o).bind fun _ o=>(linesF s o).bind fun _ o=>.ok c o
end
end Ps
end Go.Proofs.YtoklgmbpgnimcaaGreatDoor
