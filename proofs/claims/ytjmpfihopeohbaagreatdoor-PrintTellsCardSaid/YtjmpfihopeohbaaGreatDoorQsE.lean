/- What the parser makes of tokens: plain functions; no program's. -/
import Derived.Test.YtjmpfihopeohbaaGreatDoorQxX
import Derived.Test.YtjmpfihopeohbaaGreatDoorTrQp
set_option maxHeartbeats 1600000
set_option maxRecDepth 100000
namespace Go.Proofs.YtjmpfihopeohbaaGreatDoor
open Go.RowKit Go.Sort
namespace Ps
open Cls Pt Tr Sp Lx
inductive Rs (T:Type) where
 | ok (a:T) (o:Tok)
 | bad (i e:Nat)
def Rs.bind {T U:Type} (r:Rs T) (f:T→Tok→Rs U):Rs U:=match r with
 | .ok a o=>f a o
 | .bad i e=>.bad i e
def textF (o:Tok):ByteArray:=if o.k = 2 then o.t else if o.k = 3 then ⟨#[10]⟩ else plainT o.l
def seesF (l:List ByteArray) (o:Tok):Bool:=Lib.containsS l (textF o)
def nextF (s:ByteArray) (o:Tok):Rs Unit:=if (tokAt s o.j).k = 5 then .bad (tokAt s o.j).i (tokAt s o.j).err else .ok () (tokAt s o.j)
def skipF (s:ByteArray) (l:List ByteArray) (o:Tok):Rs Bool:=if seesF l o then (nextF s o).bind fun _ o=>.ok true o else .ok false o
def takeF (s:ByteArray) (l:List ByteArray) (o:Tok):Rs Unit:=(skipF s l o).bind fun b o=>if b then .ok () o else .bad o.i 1
def tLine:ByteArray:=⟨#[10]⟩
def F (s:ByteArray):Nat:=2 * s.size + 2
def linesN (s:ByteArray):Nat→Tok→Rs Unit
 | 0,_=>.bad 0 0
 | n + 1,o=>(skipF s [tLine] o).bind fun b o=>if b then linesN s n o else .ok () o
def linesF (s:ByteArray) (o:Tok):Rs Unit:=linesN s (F s) o
def wordF (s:ByteArray) (o:Tok):Rs PL:=if o.k = 1 then (nextF s o).bind fun _ p=>.ok o.l p else .bad o.i 1
def wordsN (s:ByteArray):Nat→List PL→Tok→Rs (List PL)
 | 0,_,_=>.bad 0 0
 | n + 1,l,o=>if o.k = 1 then (wordF s o).bind fun x o=>wordsN s n (l ++ [x]) o else .ok l o
def wordsF (s:ByteArray) (o:Tok):Rs (List PL):=wordsN s (F s) [] o
def splitA (l:PL):Option (ByteArray × PL):=match l,splitP l with
 | .cons k q t o f r,some m=>some (⟨(t.data.toList.take m).toArray⟩,restP (.cons k q t o f r) m)
 | _,_=>none
def assignsN (s:ByteArray):Nat→List (ByteArray × PL)→Tok→Rs (List (ByteArray × PL))
 | 0,_,_=>.bad 0 0
 | n + 1,l,o=>if o.k = 1 then match splitA o.l with
  | some x=>(nextF s o).bind fun _ o=>assignsN s n (l ++ [x]) o
  | none=>.ok l o
  else .ok l o
def assignsF (s:ByteArray) (o:Tok):Rs (List (ByteArray × PL)):=assignsN s (F s) [] o
def namedB (o:Tok):Bool:=o.k == 1 && nameL (textF o).data.toList
def nameF (s:ByteArray) (o:Tok):Rs ByteArray:=if namedB o then (nextF s o).bind fun _ p=>.ok (textF o) p else .bad o.i 1
def tOpen:List ByteArray:=[⟨#[123]⟩,⟨#[40]⟩,⟨#[105,102]⟩,⟨#[119,104,105,108,101]⟩,⟨#[117,110,116,105,108]⟩,⟨#[102,111,114]⟩,⟨#[99,97,115,101]⟩]
def opensB (o:Tok):Bool:=seesF tOpen o
def simplyB (o:Tok):Bool:=o.k == 1 && !reservedL (textF o).data.toList
def beginsB (o:Tok):Bool:=simplyB o || opensB o || seesF [⟨#[33]⟩] o
structure ND where
 k:Int
 nm:ByteArray
 g:Bool
 az:List (ByteArray × PL)
 ws:List PL
 ks:NL
 bs:List Bool
 cz:NL
def ND.on (x:ND) (r:NL):NL:=.node x.k x.nm x.g x.az x.ws x.ks x.bs x.cz r
def toN:List ND→NL
 | []=>.nil
 | x :: r=>x.on (toN r)
abbrev CD:=List PL × List ND
def toC:List CD→NL
 | []=>.nil
 | x :: r=>.cse x.1 (toN x.2) (toC r)
def nd (k:Int) (ks:List ND):ND:=⟨k,⟨#[]⟩,false,[],[],toN ks,[],.nil⟩
def listD (ks:List ND) (bs:List Bool):ND:=⟨5,⟨#[]⟩,false,[],[],toN ks,bs,.nil⟩
def patsN (s:ByteArray):Nat→List PL→Tok→Rs (List PL)
 | 0,_,_=>.bad 0 0
 | n + 1,l,o=>(skipF s [⟨#[124]⟩] o).bind fun b o=>if b then (wordF s o).bind fun x o=>patsN s n (l ++ [x]) o else .ok l o
mutual
def listF (s:ByteArray) (d:Nat):Nat→List ND→List Bool→Tok→Rs ND
 | 0,_,_,_=>.bad 0 0
 | n + 1,ks,bs,o=>(itemF s d n o).bind fun x o=>(skipF s [⟨#[59]⟩,⟨#[38]⟩,tLine] o).bind fun b p =>
  if b then (linesF s p).bind fun _ q=>if beginsB q then listF s d n (ks ++ [x]) (bs ++ [seesF [⟨#[38]⟩] o]) q else .ok (listD (ks ++ [x]) (bs ++ [seesF [⟨#[38]⟩] o])) q
  else .ok (listD (ks ++ [x]) (bs ++ [seesF [⟨#[38]⟩] o])) p
def itemF (s:ByteArray) (d:Nat):Nat→Tok→Rs ND
 | 0,_=>.bad 0 0
 | n + 1,o=>(unitF s d n o).bind fun x o=>itemL s d n x o
def itemL (s:ByteArray) (d:Nat):Nat→ND→Tok→Rs ND
 | 0,_,_=>.bad 0 0
 | n + 1,x,o=>if seesF [⟨#[38,38]⟩,⟨#[124,124]⟩] o then (nextF s o).bind fun _ p=>(linesF s p).bind fun _ p=>(unitF s d n p).bind fun y p=>itemL s d n (nd (if seesF [⟨#[124,124]⟩] o then 3 else 2) [x,y]) p else .ok x o
def unitF (s:ByteArray) (d:Nat):Nat→Tok→Rs ND
 | 0,_=>.bad 0 0
 | n + 1,o=>(skipF s [⟨#[33]⟩] o).bind fun b o=>if b then (commandF s d n o).bind fun x o=>.ok (nd 4 [x]) o else commandF s d n o
def commandF (s:ByteArray) (d:Nat):Nat→Tok→Rs ND
 | 0,_=>.bad 0 0
 | n + 1,o=>if simplyB o then simpleF s d n o else compoundF s d n o
def simpleF (s:ByteArray) (d:Nat):Nat→Tok→Rs ND
 | 0,_=>.bad 0 0
 | n + 1,o=>(assignsF s o).bind fun az p=>(wordsF s p).bind fun ws p =>
  if namedB o && ws.length == 1 then (skipF s [⟨#[40]⟩] p).bind fun b p=>if b then (takeF s [⟨#[41]⟩] p).bind fun _ p=>(linesF s p).bind fun _ p=>(compoundF s d n p).bind fun x p=>.ok ⟨13,textF o,false,[],[],toN [x],[],.nil⟩ p
   else .ok ⟨1,⟨#[]⟩,false,az,ws,.nil,[],.nil⟩ p
  else .ok ⟨1,⟨#[]⟩,false,az,ws,.nil,[],.nil⟩ p
def compoundF (s:ByteArray) (d:Nat):Nat→Tok→Rs ND
 | 0,_=>.bad 0 0
 | n + 1,o=>if opensB o then if d = 200 then .bad o.i 2 else (nextF s o).bind fun _ p=>openedF s (d + 1) n (textF o) p else .bad o.i 1
/-- What is behind the word,or the sign,that a compound begins with. -/
def openedF (s:ByteArray) (d:Nat):Nat→ByteArray→Tok→Rs ND
 | 0,_,_=>.bad 0 0
 | n + 1,t,o =>
  if t = ⟨#[123]⟩ then (linesF s o).bind fun _ o=>(listF s d n [] [] o).bind fun x o=>(takeF s [⟨#[125]⟩] o).bind fun _ o=>.ok (nd 11 [x]) o
  else if t = ⟨#[40]⟩ then (linesF s o).bind fun _ o=>(listF s d n [] [] o).bind fun x o=>(takeF s [⟨#[41]⟩] o).bind fun _ o=>.ok (nd 12 [x]) o
  else if t = ⟨#[105,102]⟩ then (branchF s d n o).bind fun x o=>(takeF s [⟨#[102,105]⟩] o).bind fun _ o=>.ok x o
  else if t = ⟨#[119,104,105,108,101]⟩ then loopF s d n 7 o
  else if t = ⟨#[117,110,116,105,108]⟩ then loopF s d n 8 o
  else if t = ⟨#[102,111,114]⟩ then eachF s d n o
  else choiceF s d n o
def loopF (s:ByteArray) (d:Nat):Nat→Int→Tok→Rs ND
 | 0,_,_=>.bad 0 0
 | n + 1,k,o=>(linesF s o).bind fun _ o=>(listF s d n [] [] o).bind fun x o=>(behindF s d n ⟨#[100,111]⟩ o).bind fun y o=>(takeF s [⟨#[100,111,110,101]⟩] o).bind fun _ o=>.ok (nd k [x,y]) o
def behindF (s:ByteArray) (d:Nat):Nat→ByteArray→Tok→Rs ND
 | 0,_,_=>.bad 0 0
 | n + 1,t,o=>(takeF s [t] o).bind fun _ o=>(linesF s o).bind fun _ o=>listF s d n [] [] o
def branchF (s:ByteArray) (d:Nat):Nat→Tok→Rs ND
 | 0,_=>.bad 0 0
 | n + 1,o=>(linesF s o).bind fun _ o=>(listF s d n [] [] o).bind fun x o=>(behindF s d n ⟨#[116,104,101,110]⟩ o).bind fun y o =>
  if seesF [⟨#[101,108,115,101]⟩] o then (behindF s d n ⟨#[101,108,115,101]⟩ o).bind fun z o=>.ok (nd 6 [x,y,z]) o
  else if seesF [⟨#[101,108,105,102]⟩] o then if d = 200 then .bad o.i 2 else (nextF s o).bind fun _ o=>(branchF s (d + 1) n o).bind fun z o=>.ok (nd 6 [x,y,listD [z] [false]]) o
  else .ok (nd 6 [x,y]) o
def eachF (s:ByteArray) (d:Nat):Nat→Tok→Rs ND
 | 0,_=>.bad 0 0
 | n + 1,o=>(nameF s o).bind fun nm o=>(eachW s o).bind fun gw o=>(behindF s d n ⟨#[100,111]⟩ o).bind fun y o=>(takeF s [⟨#[100,111,110,101]⟩] o).bind fun _ o=>.ok ⟨9,nm,gw.1,[],gw.2,toN [y],[],.nil⟩ o
def choiceF (s:ByteArray) (d:Nat):Nat→Tok→Rs ND
 | 0,_=>.bad 0 0
 | n + 1,o=>(wordF s o).bind fun x o=>(linesF s o).bind fun _ o=>(takeF s [⟨#[105,110]⟩] o).bind fun _ o=>(linesF s o).bind fun _ o=>choiceL s d n x [] o
def choiceL (s:ByteArray) (d:Nat):Nat→PL→List CD→Tok→Rs ND
 | 0,_,_,_=>.bad 0 0
 | n + 1,x,cs,o=>(skipF s [⟨#[101,115,97,99]⟩] o).bind fun b o=>if b then .ok ⟨10,⟨#[]⟩,false,[],[x],.nil,[],toC cs⟩ o else (entryF s d n o).bind fun c o=>choiceL s d n x (cs ++ [c]) o
def entryF (s:ByteArray) (d:Nat):Nat→Tok→Rs CD
 | 0,_=>.bad 0 0
 | n + 1,o=>(skipF s [⟨#[40]⟩] o).bind fun _ o=>(wordF s o).bind fun x o=>(patsN s (F s) [x] o).bind fun ps o=>(takeF s [⟨#[41]⟩] o).bind fun _ o=>(linesF s o).bind fun _ o =>
  if beginsB o then (listF s d n [] [] o).bind fun y o=>entryE s (ps,[y]) o else entryE s (ps,[]) o
/-- The words of a for. -/
def eachW (s:ByteArray) (o:Tok):Rs (Bool × List PL):=(skipF s [⟨#[59]⟩] o).bind fun b o=>(linesF s o).bind fun _ o=>if b then .ok (false,[]) o else
 (skipF s [⟨#[105,110]⟩] o).bind fun g o=>if g then (wordsF s o).bind fun ws o=>(takeF s [⟨#[59]⟩,tLine] o).bind fun _ o=>(linesF s o).bind fun _ o=>.ok (true,ws) o else .ok (false,[]) o
def entryE (s:ByteArray) (c:CD) (o:Tok):Rs CD:=if seesF [⟨#[101,115,97,99]⟩] o then .ok c o else (takeF s [⟨#[59,59]⟩] o).bind fun _ o=>(linesF s o).bind fun _ o=>.ok c o
end
end Ps
end Go.Proofs.YtjmpfihopeohbaaGreatDoor
namespace Go.Proofs.YtjmpfihopeohbaaGreatDoor
open Go.RowKit Go.Sort
namespace Lx
open Cls Pt
def ftot:PL→Nat
 | .nil=>0
 | .cons _ _ t o f r=>1 + t.size + o.size + ftot f + ftot r
theorem size_ftot:∀ l:PL,l.size≤ftot l
 | .nil=>Nat.le_refl _
 | .cons _ _ _ _ f r=>by have:=size_ftot f;have:=size_ftot r;simp only [PL.size,ftot];omega
end Lx
end Go.Proofs.YtjmpfihopeohbaaGreatDoor
namespace Go.Proofs.YtjmpfihopeohbaaGreatDoor
open Go.RowKit Go.Sort
namespace Lx
open Cls Pt
theorem LiesS.to {S S':Nat→Prop} {w w':World} {a:Option Addr} {cap:Nat} {l:PL} (h:LiesS S w a cap l) (hs:w.heap.size≤w'.heap.size) (hk:∀ b,S b→b < w.heap.size→w'.heap[b]? = w.heap[b]?) (hS:∀ b,S b→b < w.heap.size→S' b):LiesS S' w' a cap l :=
 fun w2 h2 hk2=>h w2 (by omega) fun b hb hlt=>(hk2 b (hS b hb hlt) (by omega)).trans (hk b hb hlt)
end Lx
namespace Ps
open Cls Pt Tr Sp Lx
def faultP (i err:Nat):Value:=.iface 56 (.agg #[.int .i64 i,.int .i64 err])
abbrev thrownP (i err:Nat):Ending:=.panicked [{ v:=faultP i err,recovered:=false }]
structure TokOK (s:ByteArray) (o:Tok):Prop where
 i:o.i≤s.size
 j:o.j≤s.size
 e:o.k = 4→o.j = s.size∧o.l = .nil
 f:ftot o.l≤2 * s.size
 t:o.t.size≤s.size
structure Pl (s:ByteArray):Prop where
 sz:s.size≤400000
 pl:Plain s
 k5:∀ i,i≤s.size→(tokAt s i).k ≠ 5
 ok:∀ i,i≤s.size→TokOK s (tokAt s i)
 go:∀ i,i≤s.size→stopT (tokAt s i) = false→i < (tokAt s i).j
def PRow (w:World) (pb:Nat) (s:ByteArray) (o:Tok) (a:Option Addr) (cap d:Nat):Prop :=
 w.heap[pb]? = some (.cells #[.string s,.int .i64 o.k,.int .i64 o.i,.string o.t,.slice a o.l.len cap,.int .i64 o.err,.string (textF o),.int .i64 o.j,.int .i64 d] 61 (0,0))
structure PAt (S:Nat→Prop) (w:World) (pb:Nat) (s:ByteArray) (o:Tok) (d:Nat):Prop where
 ex:∃ a cap,PRow w pb s o a cap d∧LiesS S w a cap o.l
 ns:¬ S pb
 lt:∀ b,S b→b < w.heap.size
 ok:TokOK s o
 g:S 0
 m:∃ m,w.cell? ⟨0,0,none⟩ = some (.int .i64 m)
def Up (S:Nat→Prop) (w w':World) (b:Nat):Prop:=S b∨(w.heap.size≤b∧b < w'.heap.size)
theorem PAt.pb {S:Nat→Prop} {w:World} {pb:Nat} {s:ByteArray} {o:Tok} {d:Nat} (h:PAt S w pb s o d):pb < w.heap.size:=by
 obtain ⟨a,cap,hr,_⟩:=h.ex;exact (Array.getElem?_eq_some_iff.1 hr).1
theorem PAt.below {S:Nat→Prop} {w w':World} {pb:Nat} {s:ByteArray} {o:Tok} {d:Nat} (h:PAt S w pb s o d) (hb:Below w.heap.size w w'):PAt S w' pb s o d:=by
 obtain ⟨⟨a,cap,hr,hl⟩,h1,h2,h3,h4,m,hm⟩:=h;exact ⟨⟨a,cap,(hb.block _ (Array.getElem?_eq_some_iff.1 hr).1).trans hr,hl.keep hb.size fun b _ hlt=>hb.block b hlt⟩,h1,fun b hs=>Nat.lt_of_lt_of_le (h2 b hs) hb.size,h3,h4,m,cell_below hb hm⟩
theorem PAt.up {S:Nat→Prop} {w w':World} {pb:Nat} {s:ByteArray} {o:Tok} {d:Nat} (h:PAt S w' pb s o d) (hpb:pb < w.heap.size):PAt (Up S w w') w' pb s o d:=by
 obtain ⟨⟨a,cap,hr,hl⟩,h1,h2,h3,h4,h5⟩:=h;exact ⟨⟨a,cap,hr,hl.mono fun b hb _=>.inl hb⟩,fun hb=>hb.elim h1 fun hb=>by omega,fun b hb=>hb.elim (h2 b) fun hb=>hb.2,h3,.inl h4,h5⟩
theorem TokOK.text {s:ByteArray} {o:Tok} (h:TokOK s o) (hs:s.size≤400000):(textF o).size≤800000:=by
 unfold textF;split
 ·have:=h.t;omega
 ·split
  ·show (1:Nat)≤_;omega
  ·have hf:=h.f;cases hl:o.l with
   | nil=>exact Nat.zero_le _
   | cons k q t o' f r =>
    rw [hl] at hf;simp only [ftot] at hf;cases r with
    | nil =>
     simp only [plainT];split
     ·omega
     ·exact Nat.zero_le _
    | cons=>exact Nat.zero_le _
def Does {T:Type} (S:Nat→Prop) (pb:Nat) (s:ByteArray) (d:Nat) (w:World) (V:(Nat→Prop)→World→Value→T→Prop) (r:Rs T) (e:Ending) (w':World):Prop :=
 FrP pb w w'∧match r with
 | .ok a o=>(∃ v,e = .returned v∧V (Up S w w') w' v a)∧PAt (Up S w w') w' pb s o d
 | .bad i er=>e = thrownP i er
def VUnit (_:Nat→Prop) (_:World) (v:Value) (_:Unit):Prop:=v = .tuple #[]
def VBool (_:Nat→Prop) (_:World) (v:Value) (b:Bool):Prop:=v = .bool b
def VM {T:Type} (V:(Nat→Prop)→World→Value→T→Prop):Prop:=∀ (S S':Nat→Prop) (w:World) (v:Value) (a:T),(∀ b,S b→S' b)→V S w v a→V S' w v a
theorem VM.unit:VM VUnit:=fun _ _ _ _ _ _ h=>h
theorem VM.bool:VM VBool:=fun _ _ _ _ _ _ h=>h
theorem PAt.mono {S S':Nat→Prop} {w:World} {pb:Nat} {s:ByteArray} {o:Tok} {d:Nat} (h:PAt S w pb s o d) (hS:∀ b,S b→S' b) (hn:¬ S' pb) (hl:∀ b,S' b→b < w.heap.size):PAt S' w pb s o d:=by
 obtain ⟨⟨a,cap,hr,hl'⟩,_,_,h3,h4,h5⟩:=h;exact ⟨⟨a,cap,hr,hl'.mono fun b hb _=>hS b hb⟩,hn,hl,h3,hS _ h4,h5⟩
theorem Up.out {S:Nat→Prop} {w w':World} {pb:Nat} (hn:¬ S pb) (hpb:pb < w.heap.size):¬ Up S w w' pb:=fun h=>h.elim hn fun h=>by omega
theorem Up.lt {S:Nat→Prop} {w w':World} (hl:∀ b,S b→b < w.heap.size) (hs:w.heap.size≤w'.heap.size):∀ b,Up S w w' b→b < w'.heap.size:=fun b h=>h.elim (fun h=>Nat.lt_of_lt_of_le (hl b h) hs) fun h=>h.2
theorem Does.after {T:Type} {S S':Nat→Prop} {pb d:Nat} {s:ByteArray} {w w1 w2:World} {V:(Nat→Prop)→World→Value→T→Prop} {r:Rs T} {e:Ending} (hV:VM V) (hn:¬ S pb) (hl:∀ b,S b→b < w.heap.size) (hpb:pb < w.heap.size) (hf:FrP pb w w1)
  (hS:∀ b,S' b→Up S w w1 b) (h:Does S' pb s d w1 V r e w2):Does S pb s d w V r e w2:=by
 have hf2:=hf.trans h.1;have hu:∀ b,Up S' w1 w2 b→Up S w w2 b:=fun b hb=>by
  have h1:=hf.size;have h2:=h.1.size;rcases hb with hb | hb
  ·exact (hS b hb).imp id fun hb=>by omega
  ·exact .inr (by omega)
 refine ⟨hf2,?_⟩;cases r with
 | ok a o=>exact ⟨let ⟨v,he,hv⟩:=h.2.1;⟨v,he,hV _ _ _ _ _ hu hv⟩,h.2.2.mono hu (Up.out hn hpb) (Up.lt hl hf2.size)⟩
 | bad i er=>exact h.2
theorem PAt.after {T:Type} {S:Nat→Prop} {pb d:Nat} {s:ByteArray} {w w1 w2:World} {o:Tok} {V:(Nat→Prop)→World→Value→T→Prop} {r:Rs T} {e:Ending} (hV:VM V) (h:PAt S w pb s o d) (hb:Below w.heap.size w w1) (hd:Does S pb s d w1 V r e w2):Does S pb s d w V r e w2 :=
 hd.after hV h.ns h.lt h.pb (FrP.of_below hb) fun b hb=>.inl hb
theorem PAt.go {T:Type} {S:Nat→Prop} {pb d:Nat} {s:ByteArray} {w w1 w2:World} {o:Tok} {V:(Nat→Prop)→World→Value→T→Prop} {r:Rs T} {e:Ending} (hV:VM V) (h:PAt S w pb s o d) (hf:FrP pb w w1) (hd:Does (Up S w w1) pb s d w1 V r e w2):Does S pb s d w V r e w2 :=
 hd.after hV h.ns h.lt h.pb hf fun _ hb=>hb
theorem PAt.does {T:Type} {S:Nat→Prop} {pb d:Nat} {s:ByteArray} {w w1:World} {o:Tok} {V:(Nat→Prop)→World→Value→T→Prop} {a:T} {v:Value} (h:PAt S w pb s o d) (hb:Below w.heap.size w w1) (hv:V (Up S w w1) w1 v a):Does S pb s d w V (.ok a o) (.returned v) w1 :=
 ⟨FrP.of_below hb,⟨v,rfl,hv⟩,(h.below hb).up h.pb⟩
theorem wrong_any (S:Nat→Prop) (pb:Nat) (s:ByteArray) (o:Tok) (d err:Nat) (w:World) (h:PAt S w pb s o d) :
  Calls Tryz.prog 51 #[.pointer (some ⟨pb,0,none⟩),.int .i64 err] w fun e w'=>e = thrownP o.i err∧Below w.heap.size w w':=by
 obtain ⟨⟨a,cap,hr,hl⟩,h1,h2,h3,_⟩:=h;have c2:=zc2 hr;clear hr hl;go_enter Tryz.func51,Tryz.ntmps51;go_wp2_with fail;exact ⟨rfl,rfl,Below.refl _ _⟩
theorem text_any (o:Tok) (a:Option Addr) (cap:Nat) (w:World) (h:Lies w a cap o.l) :
  Calls Tryz.prog 50 #[.agg #[.int .i64 o.k,.int .i64 o.i,.string o.t,.slice a o.l.len cap,.int .i64 o.err]] w fun e w'=>e = .returned (.string (textF o))∧Below w.heap.size w w':=by
 have hp:=fun w' (hb:Below w.heap.size w w')=>plain_any o.l a cap w' (h.below hb);have HP:=Lib.hid hp;have hle:=h.le;clear hp h
 by_cases h2:o.k = 2
 ·have e:textF o = o.t:=by simp [textF,h2]
  rw [e,h2];go_enter Tryz.func50,Tryz.ntmps50;go_wp2_with fail;go_ret;exact ⟨rfl,bel1 _ _⟩
 by_cases h3:o.k = 3
 ·have e:textF o = ⟨#[10]⟩:=by simp [textF,h3]
  rw [e,h3];go_enter Tryz.func50,Tryz.ntmps50;go_wp2_with fail;go_ret;exact ⟨rfl,bel1 _ _⟩
 have e:textF o = plainT o.l:=by simp [textF,h2,h3]
 have e2:((o.k:Int) == 2) = false:=by rw [beq_eq_false_iff_ne];omega
 have e3:((o.k:Int) == 3) = false:=by rw [beq_eq_false_iff_ne];omega
 rw [e];clear e h2 h3;go_enter Tryz.func50,Tryz.ntmps50;go_wp2_with fail;refine (HP.out _ (bel1 _ _)).mono ?_;rintro e w' ⟨rfl,rfl⟩;go_wp2_with fail;go_ret;exact ⟨rfl,bel1 _ _⟩
end Ps
end Go.Proofs.YtjmpfihopeohbaaGreatDoor
namespace Go.Proofs.YtjmpfihopeohbaaGreatDoor
open Go.RowKit Go.Sort
namespace Ps
open Cls Pt Tr Sp Lx
theorem row_tok (W:World) (pb:Nat) (v0 v1 v2 v3 v4 v5 v6 v7 v8 u1 u2 u3 u4 u5:Value) (T:TypeId) (h:W.heap[pb]? = some (.cells #[v0,v1,v2,v3,v4,v5,v6,v7,v8] T (0,0))) :
  (((((W.setCell ⟨pb,1,none⟩ u1).setCell ⟨pb,2,none⟩ u2).setCell ⟨pb,3,none⟩ u3).setCell ⟨pb,4,none⟩ u4).setCell ⟨pb,5,none⟩ u5).heap[pb]? = some (.cells #[v0,u1,u2,u3,u4,u5,v6,v7,v8] T (0,0)) ∧
    FrP pb W (((((W.setCell ⟨pb,1,none⟩ u1).setCell ⟨pb,2,none⟩ u2).setCell ⟨pb,3,none⟩ u3).setCell ⟨pb,4,none⟩ u4).setCell ⟨pb,5,none⟩ u5):=by
 have g1:(W.setCell ⟨pb,1,none⟩ u1).heap[pb]? = some (.cells #[v0,u1,v2,v3,v4,v5,v6,v7,v8] T (0,0)):=heap_setCell_same _ _ 1 _ _ u1 h;have g2:((W.setCell ⟨pb,1,none⟩ u1).setCell ⟨pb,2,none⟩ u2).heap[pb]? = some (.cells #[v0,u1,u2,v3,v4,v5,v6,v7,v8] T (0,0)):=heap_setCell_same _ _ 2 _ _ u2 g1;have g3:(((W.setCell ⟨pb,1,none⟩ u1).setCell ⟨pb,2,none⟩ u2).setCell ⟨pb,3,none⟩ u3).heap[pb]? = some (.cells #[v0,u1,u2,u3,v4,v5,v6,v7,v8] T (0,0)):=heap_setCell_same _ _ 3 _ _ u3 g2;have g4:((((W.setCell ⟨pb,1,none⟩ u1).setCell ⟨pb,2,none⟩ u2).setCell ⟨pb,3,none⟩ u3).setCell ⟨pb,4,none⟩ u4).heap[pb]? = some (.cells #[v0,u1,u2,u3,u4,v5,v6,v7,v8] T (0,0)):=heap_setCell_same _ _ 4 _ _ u4 g3;have g5:(((((W.setCell ⟨pb,1,none⟩ u1).setCell ⟨pb,2,none⟩ u2).setCell ⟨pb,3,none⟩ u3).setCell ⟨pb,4,none⟩ u4).setCell ⟨pb,5,none⟩ u5).heap[pb]? = some (.cells #[v0,u1,u2,u3,u4,u5,v6,v7,v8] T (0,0)):=heap_setCell_same _ _ 5 _ _ u5 g4;exact ⟨g5,((((FrP.set W 1 u1).trans (FrP.set _ 2 u2)).trans (FrP.set _ 3 u3)).trans (FrP.set _ 4 u4)).trans (FrP.set _ 5 u5)⟩
theorem next_any (S:Nat→Prop) (pb:Nat) (s:ByteArray) (hs:Pl s) (o:Tok) (d:Nat) (w:World) (h:PAt S w pb s o d) :
  Calls Tryz.prog 25 #[.pointer (some ⟨pb,0,none⟩)] w (Does S pb s d w VUnit (nextF s o)):=by
 have hpb:=h.pb;obtain ⟨⟨a,cap,hr,hl⟩,h1,h2,h3,h4,m,hm⟩:=h;have hn:=fun w'=>Lx.next_any s (by have:=hs.sz;omega) hs.pl o.j h3.j (hs.k5 _ h3.j) w';have hok:=hs.ok o.j h3.j;have hnf:nextF s o = if (tokAt s o.j).k = 5 then .bad (tokAt s o.j).i (tokAt s o.j).err else .ok () (tokAt s o.j):=rfl;generalize tokAt s o.j = q at hn hok hnf;generalize nextF s o = r at hnf ⊢
 have HNF:=Lib.hid hnf;have HOK:=Lib.hid hok;clear hnf hok;have c0:=zc0 hr;have c7:=zc7 hr;have HR:=Lib.hid hr;have HL:=Lib.hid hl;have HN:=Lib.hid hn;have HM:=Lib.hid hm;clear hr hl hn hm;go_enter Tryz.func25,Tryz.ntmps25;go_wp2_with fail;refine RN.begins (fun w'=>w'.cell? ⟨pb,0,none⟩ = some (.string s)∧w'.cell? ⟨pb,7,none⟩ = some (.int .i64 o.j)) [19] (by kernel_rfl) ?_;have hS:w.drew.cell? ⟨pb,0,none⟩ = some (.string s)∧w.drew.cell? ⟨pb,7,none⟩ = some (.int .i64 o.j):=⟨c0,c7⟩;clear c0 c7;refine RN.tk (i:=0) (v:=?_) rfl hS ?_ ?_;rotate_left 1
 ·(intro wq hq;obtain ⟨s0,s7⟩:=hq;go_simp;try with_reducible rfl)
 refine RN.tk (i:=1) (v:=?_) rfl hS ?_ ?_;rotate_left 1
 ·(intro wq hq;obtain ⟨s0,s7⟩:=hq;go_simp;try with_reducible rfl)
 refine RN.tk (i:=2) (v:=?_) rfl hS ?_ ?_;rotate_left 1
 ·(intro wq hq;obtain ⟨s0,s7⟩:=hq;go_simp;try with_reducible rfl)
 refine RN.tk (i:=3) (v:=?_) rfl hS ?_ ?_;rotate_left 1
 ·(intro wq hq;obtain ⟨s0,s7⟩:=hq;go_simp;try with_reducible rfl)
 refine RN.tk (i:=4) (v:=?_) rfl hS ?_ ?_;rotate_left 1
 ·(intro wq hq;obtain ⟨s0,s7⟩:=hq;go_simp;try with_reducible rfl)
 refine RN.tk (i:=5) (v:=?_) rfl hS ?_ ?_;rotate_left 1
 ·(intro wq hq;obtain ⟨s0,s7⟩:=hq;go_simp;try with_reducible rfl)
 refine RN.tk (i:=6) (v:=?_) rfl hS ?_ ?_;rotate_left 1
 ·(intro wq hq;obtain ⟨s0,s7⟩:=hq;go_simp;try with_reducible rfl)
 refine RN.tk (i:=7) (v:=?_) rfl hS ?_ ?_;rotate_left 1
 ·(intro wq hq;obtain ⟨s0,s7⟩:=hq;go_simp;try with_reducible rfl)
 refine RN.tk (i:=8) (v:=?_) rfl hS ?_ ?_;rotate_left 1
 ·(intro wq hq;obtain ⟨s0,s7⟩:=hq;go_simp;try with_reducible rfl)
 refine RN.tk (i:=9) (v:=?_) rfl hS ?_ ?_;rotate_left 1
 ·(intro wq hq;obtain ⟨s0,s7⟩:=hq;go_simp;try with_reducible rfl)
 refine RN.all (rs:=[10]) (by kernel_rfl) (by simp) ?_;refine RN.All.cons rfl (fun K hK=>?_) RN.All.nil;go_simp;refine (HN.out _).mono ?_;rintro e w1 ⟨a1,cap1,rfl,hl1,hb1⟩;have hr1:PRow w1 pb s o a cap d:=(hb1.block _ hpb).trans HR.out;have hS1:w1.cell? ⟨pb,0,none⟩ = some (.string s)∧w1.cell? ⟨pb,7,none⟩ = some (.int .i64 o.j):=⟨Lib.cell_of_heap hr1 0,Lib.cell_of_heap hr1 7⟩;refine hK _ _ (fun _=>hS1) ?_;clear hS hK K;have hS:=hS1;clear hS1;have HB1:=Lib.hid hb1;have HL1:=Lib.hid hl1;have HR1:=Lib.hid hr1;clear hb1 hl1 hr1;refine RN.tk (i:=11) (v:=?_) rfl hS ?_ ?_;rotate_left 1
 ·(intro wq hq;obtain ⟨s0,s7⟩:=hq;go_simp;try with_reducible rfl)
 refine RN.tk (i:=12) (v:=?_) rfl hS ?_ ?_;rotate_left 1
 ·(intro wq hq;obtain ⟨s0,s7⟩:=hq;go_simp;try with_reducible rfl)
 refine RN.tk (i:=13) (v:=?_) rfl hS ?_ ?_;rotate_left 1
 ·(intro wq hq;obtain ⟨s0,s7⟩:=hq;go_simp;try with_reducible rfl)
 refine RN.tk (i:=14) (v:=?_) rfl hS ?_ ?_;rotate_left 1
 ·(intro wq hq;obtain ⟨s0,s7⟩:=hq;go_simp;try with_reducible rfl)
 refine RN.tk (i:=15) (v:=?_) rfl hS ?_ ?_;rotate_left 1
 ·(intro wq hq;obtain ⟨s0,s7⟩:=hq;go_simp;try with_reducible rfl)
 refine RN.all (rs:=[16]) (by kernel_rfl) (by simp) ?_;refine RN.All.cons rfl (fun K hK=>?_) RN.All.nil;have fx:∀ i,w1.frozen? ⟨pb,i,none⟩ = false:=fun i=>frozen_of_row _ _ _ _ _ HR1.out;have f1:=fx 1;have f2:=fx 2;have f3:=fx 3;have f4:=fx 4;have f5:=fx 5;have k1:=Lib.cell_of_heap HR1.out 1;have k2:=Lib.cell_of_heap HR1.out 2;have k3:=Lib.cell_of_heap HR1.out 3;have k4:=Lib.cell_of_heap HR1.out 4;have k5:=Lib.cell_of_heap HR1.out 5;go_simp;have hst:=row_tok w1 pb _ _ _ _ _ _ _ _ _ (.int .i64 q.k) (.int .i64 q.i) (.string q.t) (.slice a1 q.l.len cap1) (.int .i64 q.err) _ HR1.out;have hS2:=(⟨Lib.cell_of_heap hst.1 0,Lib.cell_of_heap hst.1 7⟩:_∧_);refine hK _ _ (fun _=>hS2) ?_;clear hS hK K fx f1 f2 f3 f4 f5 k1 k2 k3 k4 k5;generalize (((((w1.setCell ⟨pb,1,none⟩ (.int .i64 q.k)).setCell ⟨pb,2,none⟩ (.int .i64 q.i)).setCell ⟨pb,3,none⟩ (.string q.t)).setCell ⟨pb,4,none⟩ (.slice a1 q.l.len cap1)).setCell ⟨pb,5,none⟩ (.int .i64 q.err)) = w2 at hst hS2 ⊢
 have HST:=Lib.hid hst;have hS:=hS2;clear hst hS2;refine RN.tk (i:=17) (v:=?_) rfl hS ?_ ?_;rotate_left 1
 ·(intro wq hq;obtain ⟨s0,s7⟩:=hq;go_simp;try with_reducible rfl)
 refine RN.tk (i:=18) (v:=?_) rfl hS ?_ ?_;rotate_left 1
 ·(intro wq hq;obtain ⟨s0,s7⟩:=hq;go_simp;try with_reducible rfl)
 refine RN.all (rs:=[19]) (by kernel_rfl) (by simp) ?_;refine RN.All.cons rfl (fun K hK=>?_) RN.All.nil;have f7:=zf 7 HST.out.1;have k7:=Lib.cell_of_heap HST.out.1 7;go_simp;refine hK _ _ (fun h=>absurd h (by decide)) ?_;clear hS hK K f7 k7;refine RN.done (by kernel_rfl) ?_ _;have hst:(w2.setCell ⟨pb,7,none⟩ (.int .i64 q.j)).heap[pb]? = some (.cells #[.string s,.int .i64 q.k,.int .i64 q.i,.string q.t,.slice a1 q.l.len cap1,.int .i64 q.err,.string (textF o),.int .i64 q.j,.int .i64 d] 61 (0,0)):=heap_setCell_same _ _ 7 _ _ (.int .i64 q.j) HST.out.1;have hfr:=HST.out.2.trans (FrP.set w2 7 (.int .i64 q.j));generalize w2.setCell ⟨pb,7,none⟩ (.int .i64 q.j) = w3 at hst hfr ⊢
 have HS3:=Lib.hid hst;have HF3:=Lib.hid hfr;clear hst hfr HST HR1;have s1:=Lib.cell_of_heap HS3.out 1;have s2:=Lib.cell_of_heap HS3.out 2;have s3:=Lib.cell_of_heap HS3.out 3;have s4:=Lib.cell_of_heap HS3.out 4;have s5:=Lib.cell_of_heap HS3.out 5;have hw3:w1.heap.size≤w3.heap.size:=HF3.out.size
 have hl3:LiesS (fun b=>w.heap.size≤b) w3 a1 cap1 q.l:=HL1.out.keep hw3 fun b hb hlt=>HF3.out.block b hlt (by
  have:w.heap.size≤b:=hb
  omega)
 have ht:=text_any q a1 cap1 w3 hl3.lies;have HT:=Lib.hid ht;clear ht;go_wp2_with fail;refine HT.out.mono ?_;rintro e w4 ⟨rfl,hb4⟩;have hS4:=(hb4.block _ (Array.getElem?_eq_some_iff.1 HS3.out).1).trans HS3.out;have f6:=zf 6 hS4;have k6:=Lib.cell_of_heap hS4 6;have hst:(w4.setCell ⟨pb,6,none⟩ (.string (textF q))).heap[pb]? = some (.cells #[.string s,.int .i64 q.k,.int .i64 q.i,.string q.t,.slice a1 q.l.len cap1,.int .i64 q.err,.string (textF q),.int .i64 q.j,.int .i64 d] 61 (0,0)):=heap_setCell_same _ _ 6 _ _ (.string (textF q)) hS4;have hfr:FrP pb w1 (w4.setCell ⟨pb,6,none⟩ (.string (textF q))):=(HF3.out.trans (FrP.of_below hb4)).trans (FrP.set w4 6 (.string (textF q)));have hz5:(w4.setCell ⟨pb,6,none⟩ (.string (textF q))).heap.size = w4.heap.size:=by simp
 have hl5:LiesS (fun b=>w.heap.size≤b) (w4.setCell ⟨pb,6,none⟩ (.string (textF q))) a1 cap1 q.l:=HL1.out.keep hfr.size fun b hb hlt=>hfr.block b hlt (by
  have:w.heap.size≤b:=hb
  omega)
 have hfw:FrP pb w (w4.setCell ⟨pb,6,none⟩ (.string (textF q))):=(show FrP pb w w1 from ⟨HB1.out.os,HB1.out.tape,HB1.out.output,HB1.out.size,fun b hb _=>HB1.out.block b hb⟩).trans hfr;have hp5:PAt (fun b=>S b∨(w.heap.size≤b∧b < w4.heap.size)) (w4.setCell ⟨pb,6,none⟩ (.string (textF q))) pb s q d:=by
  have:=hfw.size;rw [hz5] at this;refine ⟨⟨a1,cap1,hst,hl5.mono fun b hb hlt=>.inr ⟨hb,by rw [hz5] at hlt;exact hlt⟩⟩,fun hb=>hb.elim h1 fun hb=>by omega,fun b hb=>?_,HOK.out,.inl h4,m,(World.cell?_of_block (w:=w) (a:=⟨0,0,none⟩) (hfw.block _ (h2 _ h4) fun e=>h1 (e ▸ h4))).trans HM.out⟩;rw [hz5];exact hb.elim (fun hb=>Nat.lt_of_lt_of_le (h2 b hb) this) fun hb=>hb.2
 have s1:=Lib.cell_of_heap hst 1;have s2:=Lib.cell_of_heap hst 2;have s5:=Lib.cell_of_heap hst 5;have HP5:=Lib.hid hp5;have HF5:=Lib.hid hfw;have HZ5:=Lib.hid hz5;clear hS4 hb4 hst hfr hl5 hp5 hfw hz5 hl3
 by_cases hk:q.k = 5
 ·have hr:r = .bad q.i q.err:=by rw [HNF.out,if_pos hk]
  have hk5:((q.k:Int) == 5) = true:=by rw [hk];rfl
  have hw:=wrong_any _ pb s q d q.err _ HP5.out;have HW:=Lib.hid hw;have HR':=Lib.hid hr;clear hw hk hr;go_wp2_with fail;refine HW.out.mono ?_;rintro e w6 ⟨rfl,hb6⟩;go_wp2_with fail;rw [HR'.out];exact ⟨rfl,HF5.out.trans (FrP.of_below hb6),rfl⟩
 ·have hr:r = .ok () q:=by rw [HNF.out,if_neg hk]
  have hk5:((q.k:Int) == 5) = false:=by rw [beq_eq_false_iff_ne];omega
  have HR':=Lib.hid hr;clear hk hr;go_wp2_with fail;go_end0;rw [HR'.out];refine ⟨HF5.out,⟨_,rfl,rfl⟩,?_⟩;have h5:=HP5.out;rw [← HZ5.out] at h5;exact h5
end Ps
end Go.Proofs.YtjmpfihopeohbaaGreatDoor
namespace Go.Proofs.YtjmpfihopeohbaaGreatDoor
open Go.RowKit Go.Sort
namespace Ps
open Cls Pt Tr Sp Lx
def Texts (w:World) (b:Nat) (l:List ByteArray):Prop:=l.length≤100∧∀ j,j < l.length→w.cell? ⟨b,0 + j,none⟩ = some (.string (l.getD j ByteArray.empty))
theorem Texts.below {w w':World} {b:Nat} {l:List ByteArray} (h:Texts w b l) (hb:Below w.heap.size w w'):Texts w' b l:=⟨h.1,fun j hj=>cell_below hb (h.2 j hj)⟩
theorem sees_any (S:Nat→Prop) (pb:Nat) (s:ByteArray) (o:Tok) (d:Nat) (l:List ByteArray) (b c:Nat) (w:World) (h:PAt S w pb s o d) (ht:Texts w b l) :
  Calls Tryz.prog 98 #[.pointer (some ⟨pb,0,none⟩),.slice (some ⟨b,0,none⟩) l.length c] w fun e w'=>e = .returned (.bool (seesF l o))∧Below w.heap.size w w':=by
 obtain ⟨a,cap,hr,hl⟩:=h.ex;have c6:=zc6 hr;have hc:=fun w' (hb:Below w.heap.size w w')=>Tryz.slices_Contains_string b 0 l.length c l (textF o) w' (Nat.le_refl _) (by have:=ht.1;omega) (ht.below hb).2;rw [List.take_length] at hc;have HC:=Lib.hid hc;unfold seesF;clear hc hr hl h ht;go_enter Tryz.func98,Tryz.ntmps98;go_wp2_with fail;refine (HC.out _ (Below.refl _ _)).mono ?_;rintro e w1 ⟨rfl,rfl⟩;go_wp2_with fail;go_ret;exact ⟨rfl,Below.refl _ _⟩
theorem skip_any (S:Nat→Prop) (pb:Nat) (s:ByteArray) (hs:Pl s) (o:Tok) (d:Nat) (l:List ByteArray) (b c:Nat) (w:World) (h:PAt S w pb s o d) (ht:Texts w b l) :
  Calls Tryz.prog 95 #[.pointer (some ⟨pb,0,none⟩),.slice (some ⟨b,0,none⟩) l.length c] w (Does S pb s d w VBool (skipF s l o)):=by
 have hse:=sees_any S pb s o d l b c w h ht;have hn:=fun w' (hb:Below w.heap.size w w')=>next_any S pb s hs o d w' (h.below hb);have hlen:=ht.1;have H:=Lib.hid h;clear ht;cases hB:seesF l o
 ·rw [hB] at hse;have hsk:skipF s l o = .ok false o:=by unfold skipF;rw [hB];rfl
  rw [hsk];have HSE:=Lib.hid hse;clear h hn hse hB hsk;go_enter Tryz.func95,Tryz.ntmps95;go_wp2_with fail;refine HSE.out.mono ?_;rintro e w1 ⟨rfl,hb⟩;go_wp2_with fail;go_ret;exact H.out.does hb rfl
 ·rw [hB] at hse;have hsk:skipF s l o = (nextF s o).bind fun _ q=>.ok true q:=by unfold skipF;rw [hB];rfl
  rw [hsk];generalize nextF s o = r at hn ⊢
  have HSE:=Lib.hid hse;have HN:=Lib.hid hn;clear h hn hse hB hsk;cases r with
  | ok u q =>
   go_enter Tryz.func95,Tryz.ntmps95;go_wp2_with fail;refine HSE.out.mono ?_;rintro e w1 ⟨rfl,hb⟩;have HB:=Lib.hid hb;clear hb;go_wp2_with fail;refine (HN.out _ HB.out).mono ?_;rintro e w2 ⟨hf,⟨v,rfl,rfl⟩,hp⟩;have hd2:Does S pb s d w1 VBool (.ok true q) (.returned (.bool true)) w2:=⟨hf,⟨_,rfl,rfl⟩,hp⟩;have HD:=Lib.hid (H.out.after VM.bool HB.out hd2);clear hd2 hf hp;go_wp2_with fail;go_ret;exact HD.out
  | bad i er =>
   go_enter Tryz.func95,Tryz.ntmps95;go_wp2_with fail;refine HSE.out.mono ?_;rintro e w1 ⟨rfl,hb⟩;have HB:=Lib.hid hb;clear hb;go_wp2_with fail;refine (HN.out _ HB.out).mono ?_;rintro e w2 ⟨hf,rfl⟩;have hd2:Does S pb s d w1 VBool (.bad i er) (thrownP i er) w2:=⟨hf,rfl⟩;have HD:=Lib.hid (H.out.after VM.bool HB.out hd2);clear hd2 hf;go_wp2_with fail;exact ⟨rfl,HD.out⟩
theorem take_any (S:Nat→Prop) (pb:Nat) (s:ByteArray) (hs:Pl s) (o:Tok) (d:Nat) (l:List ByteArray) (b c:Nat) (w:World) (h:PAt S w pb s o d) (ht:Texts w b l) :
  Calls Tryz.prog 192 #[.pointer (some ⟨pb,0,none⟩),.slice (some ⟨b,0,none⟩) l.length c] w (Does S pb s d w VUnit (takeF s l o)):=by
 have hsk:=skip_any S pb s hs o d l b c w h ht;have hlen:=ht.1;have H:=Lib.hid h;unfold takeF;generalize skipF s l o = r at hsk ⊢
 have HSK:=Lib.hid hsk;clear hsk h ht
 match r with
 | .bad i er =>
  go_enter Tryz.func192,Tryz.ntmps192;go_wp2_with fail;refine HSK.out.mono ?_;rintro e w1 ⟨hf,rfl⟩;go_wp2_with fail;exact ⟨rfl,hf,rfl⟩
 | .ok true q =>
  go_enter Tryz.func192,Tryz.ntmps192;go_wp2_with fail;refine HSK.out.mono ?_;rintro e w1 ⟨hf,⟨v,rfl,rfl⟩,hp⟩;go_wp2_with fail;go_end0;exact ⟨hf,⟨_,rfl,rfl⟩,hp⟩
 | .ok false q =>
  go_enter Tryz.func192,Tryz.ntmps192;go_wp2_with fail;refine HSK.out.mono ?_;rintro e w1 ⟨hf,⟨v,rfl,rfl⟩,hp⟩;have HW:=Lib.hid (wrong_any _ pb s q d 1 w1 hp);clear hp;go_wp2_with fail;refine HW.out.mono ?_;rintro e w2 ⟨rfl,hb⟩;go_wp2_with fail;exact ⟨rfl,hf.trans (FrP.of_below hb),rfl⟩
theorem Texts.row {w:World} {b:Nat} {l:List ByteArray} {T:TypeId} (h:w.heap[b]? = some (.cells (l.map Value.string).toArray T (0,0))) (hl:l.length≤100):Texts w b l:=by
 refine ⟨hl,fun j hj=>?_⟩;rw [Nat.zero_add,Lib.cell_of_heap h j];simp [hj]
theorem sees_row (S:Nat→Prop) (pb:Nat) (s:ByteArray) (o:Tok) (d:Nat) (l:List ByteArray) (w:World) (h:PAt S w pb s o d) (hl:l.length≤100) :
  Calls Tryz.prog 98 #[.pointer (some ⟨pb,0,none⟩),.slice (some ⟨w.heap.size,0,none⟩) l.length l.length] (w.alloc (.cells (l.map Value.string).toArray 9)) fun e w'=>e = .returned (.bool (seesF l o))∧Below w.heap.size w w' :=
 (sees_any S pb s o d l _ _ _ (h.below (bel1 _ _)) (Texts.row (heap_new' _ _) hl)).mono fun _ _ ⟨he,hb⟩=>⟨he,thru (bel1 _ _) hb⟩
theorem skip_row (S:Nat→Prop) (pb:Nat) (s:ByteArray) (hs:Pl s) (o:Tok) (d:Nat) (l:List ByteArray) (w:World) (h:PAt S w pb s o d) (hl:l.length≤100) :
  Calls Tryz.prog 95 #[.pointer (some ⟨pb,0,none⟩),.slice (some ⟨w.heap.size,0,none⟩) l.length l.length] (w.alloc (.cells (l.map Value.string).toArray 9)) (Does S pb s d w VBool (skipF s l o)) :=
 (skip_any S pb s hs o d l _ _ _ (h.below (bel1 _ _)) (Texts.row (heap_new' _ _) hl)).mono fun _ _ hd=>h.after VM.bool (bel1 _ _) hd
theorem take_row (S:Nat→Prop) (pb:Nat) (s:ByteArray) (hs:Pl s) (o:Tok) (d:Nat) (l:List ByteArray) (w:World) (h:PAt S w pb s o d) (hl:l.length≤100) :
  Calls Tryz.prog 192 #[.pointer (some ⟨pb,0,none⟩),.slice (some ⟨w.heap.size,0,none⟩) l.length l.length] (w.alloc (.cells (l.map Value.string).toArray 9)) (Does S pb s d w VUnit (takeF s l o)) :=
 (take_any S pb s hs o d l _ _ _ (h.below (bel1 _ _)) (Texts.row (heap_new' _ _) hl)).mono fun _ _ hd=>h.after VM.unit (bel1 _ _) hd
end Ps
end Go.Proofs.YtjmpfihopeohbaaGreatDoor
namespace Go.Proofs.YtjmpfihopeohbaaGreatDoor
open Go.RowKit Go.Sort
namespace Ps
open Cls Pt Tr Sp Lx
def mu (s:ByteArray) (o:Tok):Nat:=2 * (s.size - o.j) + (if o.k = 4 then 0 else 1)
theorem mu_F (s:ByteArray) (o:Tok):mu s o < F s:=by unfold mu F;split <;> omega
def muW (s:ByteArray) (pb:Nat) (w:World):Nat:=2 * (s.size - (intOf ((w.cell? ⟨pb,7,none⟩).getD undef)).toNat) + (if intOf ((w.cell? ⟨pb,1,none⟩).getD undef) = 4 then 0 else 1)
theorem PAt.mW {S:Nat→Prop} {w:World} {pb:Nat} {s:ByteArray} {o:Tok} {d:Nat} (h:PAt S w pb s o d):muW s pb w = mu s o:=by
 obtain ⟨a,cap,hr,_⟩:=h.ex;have c1:=zc1 hr;have c7:=zc7 hr;unfold muW mu;rw [c1,c7];simp only [Option.getD_some,intOf,Int.toNat_natCast];have:((o.k:Int) = 4) ↔ o.k = 4:=by omega
 simp only [this]
theorem next_mu {s:ByteArray} (hs:Pl s) {o q:Tok} (ho:TokOK s o) (hk:o.k ≠ 4) (h:nextF s o = .ok () q):mu s q < mu s o∧TokOK s q:=by
 unfold nextF at h;split at h
 ·cases h
 ·rename_i h5;have hq:q = tokAt s o.j:=by injection h with h1 h2;exact h2.symm
  subst hq;have hok:=hs.ok o.j ho.j;refine ⟨?_,hok⟩
  by_cases h4:(tokAt s o.j).k = 4
  ·have:=(hok.e h4).1;unfold mu;rw [if_pos h4,if_neg hk];omega
  ·have hst:stopT (tokAt s o.j) = false:=by simp [stopT,h4,h5]
   have:=hs.go _ ho.j hst;have:=hok.j;have:=ho.j;unfold mu;rw [if_neg h4,if_neg hk];omega
theorem sees_k {l:List ByteArray} {o:Tok} {s:ByteArray} (ho:TokOK s o) (hl:l.all (fun x=>x.size != 0) = true) (h:seesF l o = true):o.k ≠ 4:=by
 intro h4;unfold seesF at h;rw [Lib.containsS_iff] at h;have:textF o = ⟨#[]⟩:=by unfold textF;rw [if_neg (by omega),if_neg (by omega),(ho.e h4).2];rfl
 rw [this] at h;have:=List.all_eq_true.1 hl _ h;simp [ByteArray.size] at this
theorem skip_mu {l:List ByteArray} {s:ByteArray} (hs:Pl s) {o q:Tok} (ho:TokOK s o) (hl:l.all (fun x=>x.size != 0) = true) (h:skipF s l o = .ok true q):mu s q < mu s o∧TokOK s q:=by
 unfold skipF at h;split at h
 ·rename_i hse;refine next_mu hs ho (sees_k ho hl hse) ?_;cases hn:nextF s o with
  | ok u p=>rw [hn] at h;simp only [Rs.bind] at h;injection h with h1 h2;rw [h2]
  | bad i e=>rw [hn] at h;cases h
 ·injection h with h1 h2;cases h1
theorem lines_any (S:Nat→Prop) (pb:Nat) (s:ByteArray) (hs:Pl s) (o:Tok) (d:Nat) (w:World) (h:PAt S w pb s o d) :
  Calls Tryz.prog 52 #[.pointer (some ⟨pb,0,none⟩)] w (Does S pb s d w VUnit (linesF s o)):=by
 have H:=Lib.hid h;clear h;go_enter Tryz.func52,Tryz.ntmps52;go_wp2_with fail
 go_loopw [4] (fun b wr=>∃ (n:Nat) (q:Tok),linesN s n q = linesF s o∧mu s q < n∧FrP pb w wr∧PAt (Up S w wr) wr pb s q d) (fun b wr=>muW s pb wr)
 case atStart=>exact ⟨F s,o,rfl,mu_F s o,FrP.refl _ _,H.out.up H.out.pb⟩
 case round =>
  obtain ⟨n,q,hn,hmu,hf,hp⟩:=hrel;obtain ⟨n,rfl⟩:∃ m,n = m + 1:=⟨n - 1,by omega⟩;have hk:=skip_row (Up S w wr) pb s hs q d [tLine] wr hp (by decide);have hmuW:=hp.mW;have hsm:=fun p=>skip_mu hs (l:=[tLine]) (o:=q) (q:=p) hp.ok (by decide);unfold linesN at hn;generalize skipF s [tLine] q = r at hk hn hsm;have HK:=Lib.hid hk;have HN:=Lib.hid hn;have HF:=Lib.hid hf;have HP:=Lib.hid hp;have HSM:=Lib.hid hsm;have HMW:=Lib.hid hmuW;have HMU:=Lib.hid hmu;clear hk hn hf hp hsm hmuW hmu
  match r with
  | .bad i er =>
   go_wp2_with fail;refine HK.out.mono ?_;rintro e w2 ⟨hf2,rfl⟩;have hd:Does (Up S w wr) pb s d wr VUnit (.bad i er) (thrownP i er) w2:=⟨hf2,rfl⟩;have HD:=Lib.hid (H.out.go VM.unit HF.out hd);have hr:linesF s o = .bad i er:=HN.out.symm;rw [← hr] at HD;clear hd hf2 hr;go_wp2_with fail;exact ⟨rfl,HD.out⟩
  | .ok false p =>
   go_wp2_with fail;refine HK.out.mono ?_;rintro e w2 ⟨hf2,⟨v,rfl,rfl⟩,hp2⟩;have hd:Does (Up S w wr) pb s d wr VUnit (.ok () p) (.returned (.tuple #[])) w2:=⟨hf2,⟨_,rfl,rfl⟩,hp2⟩;have HD:=Lib.hid (H.out.go VM.unit HF.out hd);have hr:linesF s o = .ok () p:=HN.out.symm;rw [← hr] at HD;clear hd hf2 hp2 hr;go_wp2_with fail;go_end0;exact HD.out
  | .ok true p =>
   go_wp2_with fail;refine HK.out.mono ?_;rintro e w2 ⟨hf2,⟨v,rfl,rfl⟩,hp2⟩;have HP2:=Lib.hid hp2;have HF2:=Lib.hid hf2;clear hf2 hp2;go_wp2_with fail;go_roundw
   case rel =>
    have hm:=HSM.out p rfl;have hmu:=HMU.out;have hm1:=hm.1;refine ⟨n,p,HN.out,by omega,HF.out.trans HF2.out,HP2.out.mono (fun b hb=>?_) ?_ ?_⟩
    ·have h1:=HF.out.size;have h2:=HF2.out.size;rcases hb with hb | hb
     ·exact hb.imp id fun hb=>by omega
     ·exact .inr (by omega)
    ·exact Up.out H.out.ns H.out.pb
    ·exact Up.lt H.out.lt (HF.out.trans HF2.out).size
   case measure =>
    have:=(HSM.out p rfl).1;have e1:=HMW.out;have e2:=HP2.out.mW;omega
end Ps
end Go.Proofs.YtjmpfihopeohbaaGreatDoor
