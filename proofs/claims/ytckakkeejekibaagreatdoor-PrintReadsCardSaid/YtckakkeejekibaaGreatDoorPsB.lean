/- What the parser makes of tokens: plain functions; no program's. -/
import Derived.Test.YtckakkeejekibaaGreatDoorLxY
import Derived.Test.YtckakkeejekibaaGreatDoorTrQp
namespace Go.Proofs.YtckakkeejekibaaGreatDoor
open Go.RowKit Go.Sort
namespace Ps
open j6 Pt Tr Sp Lx
inductive Rs (T:Type) where
 | ok (a:T) (o:Tok)
 | bad (i e:Nat)
def Rs.bind {T U:Type} (r:Rs T) (f:T→Tok→Rs U):Rs U:=match r with
 | .ok a o=>f a o
 | .bad i e=>.bad i e
def aT (o:Tok):ByteArray:=if o.k = 2 then o.t else if o.k = 3 then ⟨#[10]⟩ else fQ o.l
def bu (l:List ByteArray) (o:Tok):Bool:=Lib.containsS l (aT o)
def dL (s:ByteArray) (o:Tok):Rs Unit:=if (cO s o.j).k = 5 then .bad (cO s o.j).i (cO s o.j).err else .ok () (cO s o.j)
def bO (s:ByteArray) (l:List ByteArray) (o:Tok):Rs Bool:=if bu l o then (dL s o).bind fun _ o=>.ok true o else .ok false o
def aZ (s:ByteArray) (l:List ByteArray) (o:Tok):Rs Unit:=(bO s l o).bind fun b o=>if b then .ok () o else .bad o.i 1
def gM:ByteArray:=⟨#[10]⟩
def F (s:ByteArray):Nat:=2 * s.size + 2
def linesN (s:ByteArray):Nat→Tok→Rs Unit
 | 0,_=>.bad 0 0
 | n + 1,o=>(bO s [gM] o).bind fun b o=>if b then linesN s n o else .ok () o
def aD (s:ByteArray) (o:Tok):Rs Unit:=linesN s (F s) o
def gV (s:ByteArray) (o:Tok):Rs PL:=if o.k = 1 then (dL s o).bind fun _ p=>.ok o.l p else .bad o.i 1
def wordsN (s:ByteArray):Nat→List PL→Tok→Rs (List PL)
 | 0,_,_=>.bad 0 0
 | n + 1,l,o=>if o.k = 1 then (gV s o).bind fun x o=>wordsN s n (l ++ [x]) o else .ok l o
def lc (s:ByteArray) (o:Tok):Rs (List PL):=wordsN s (F s) [] o
def splitA (l:PL):Option (ByteArray × PL):=match l,splitP l with
 | .cons k q t o f r,some m=>some (⟨(t.data.toList.take m).toArray⟩,restP (.cons k q t o f r) m)
 | _,_=>none
def assignsN (s:ByteArray):Nat→List (ByteArray × PL)→Tok→Rs (List (ByteArray × PL))
 | 0,_,_=>.bad 0 0
 | n + 1,l,o=>if o.k = 1 then match splitA o.l with
  | some x=>(dL s o).bind fun _ o=>assignsN s n (l ++ [x]) o
  | none=>.ok l o
  else .ok l o
def jv (s:ByteArray) (o:Tok):Rs (List (ByteArray × PL)):=assignsN s (F s) [] o
def iT (o:Tok):Bool:=o.k == 1 && bV (aT o).data.toList
def mI (s:ByteArray) (o:Tok):Rs ByteArray:=if iT o then (dL s o).bind fun _ p=>.ok (aT o) p else .bad o.i 1
def nX:List ByteArray:=[⟨#[123]⟩,⟨#[40]⟩,⟨#[105,102]⟩,⟨#[119,104,105,108,101]⟩,⟨#[117,110,116,105,108]⟩,⟨#[102,111,114]⟩,⟨#[99,97,115,101]⟩]
def lg (o:Tok):Bool:=bu nX o
def gF (o:Tok):Bool:=o.k == 1 && !bF (aT o).data.toList
def dG (o:Tok):Bool:=gF o || lg o || bu [⟨#[33]⟩] o
structure ND where
 k:Int
 nm:ByteArray
 g:Bool
 az:List (ByteArray × PL)
 ws:List PL
 ks:NL
 bs:List Bool
 cz:NL
def ND.on (x:ND) (r:NL):NL:=.node x.k x.nm x.g x.az x.ws x.ks x.bs x.cz r
def toN:List ND→NL
 | []=>.nil
 | x :: r=>x.on (toN r)
abbrev CD:=List PL × List ND
def toC:List CD→NL
 | []=>.nil
 | x :: r=>.cse x.1 (toN x.2) (toC r)
def nd (k:Int) (ks:List ND):ND:=⟨k,⟨#[]⟩,false,[],[],toN ks,[],.nil⟩
def gq (ks:List ND) (bs:List Bool):ND:=⟨5,⟨#[]⟩,false,[],[],toN ks,bs,.nil⟩
def mJ (s:ByteArray):Nat→List PL→Tok→Rs (List PL)
 | 0,_,_=>.bad 0 0
 | n + 1,l,o=>(bO s [⟨#[124]⟩] o).bind fun b o=>if b then (gV s o).bind fun x o=>mJ s n (l ++ [x]) o else .ok l o
mutual
def listF (s:ByteArray) (d:Nat):Nat→List ND→List Bool→Tok→Rs ND
 | 0,_,_,_=>.bad 0 0
 | n + 1,ks,bs,o=>(gW s d n o).bind fun x o=>(bO s [⟨#[59]⟩,⟨#[38]⟩,gM] o).bind fun b p =>
  if b then (aD s p).bind fun _ q=>if dG q then listF s d n (ks ++ [x]) (bs ++ [bu [⟨#[38]⟩] o]) q else .ok (gq (ks ++ [x]) (bs ++ [bu [⟨#[38]⟩] o])) q
  else .ok (gq (ks ++ [x]) (bs ++ [bu [⟨#[38]⟩] o])) p
def gW (s:ByteArray) (d:Nat):Nat→Tok→Rs ND
 | 0,_=>.bad 0 0
 | n + 1,o=>(fJ s d n o).bind fun x o=>itemL s d n x o
def itemL (s:ByteArray) (d:Nat):Nat→ND→Tok→Rs ND
 | 0,_,_=>.bad 0 0
 | n + 1,x,o=>if bu [⟨#[38,38]⟩,⟨#[124,124]⟩] o then (dL s o).bind fun _ p=>(aD s p).bind fun _ p=>(fJ s d n p).bind fun y p=>itemL s d n (nd (if bu [⟨#[124,124]⟩] o then 3 else 2) [x,y]) p else .ok x o
def fJ (s:ByteArray) (d:Nat):Nat→Tok→Rs ND
 | 0,_=>.bad 0 0
 | n + 1,o=>(bO s [⟨#[33]⟩] o).bind fun b o=>if b then (aU s d n o).bind fun x o=>.ok (nd 4 [x]) o else aU s d n o
def aU (s:ByteArray) (d:Nat):Nat→Tok→Rs ND
 | 0,_=>.bad 0 0
 | n + 1,o=>if gF o then dO s d n o else aF s d n o
def dO (s:ByteArray) (d:Nat):Nat→Tok→Rs ND
 | 0,_=>.bad 0 0
 | n + 1,o=>(jv s o).bind fun az p=>(lc s p).bind fun ws p =>
  if iT o && ws.length == 1 then (bO s [⟨#[40]⟩] p).bind fun b p=>if b then (aZ s [⟨#[41]⟩] p).bind fun _ p=>(aD s p).bind fun _ p=>(aF s d n p).bind fun x p=>.ok ⟨13,aT o,false,[],[],toN [x],[],.nil⟩ p
   else .ok ⟨1,⟨#[]⟩,false,az,ws,.nil,[],.nil⟩ p
  else .ok ⟨1,⟨#[]⟩,false,az,ws,.nil,[],.nil⟩ p
def aF (s:ByteArray) (d:Nat):Nat→Tok→Rs ND
 | 0,_=>.bad 0 0
 | n + 1,o=>if lg o then if d = 200 then .bad o.i 2 else (dL s o).bind fun _ p=>openedF s (d + 1) n (aT o) p else .bad o.i 1
/-- What is behind the word,or the sign,that a compound begins with. -/
def openedF (s:ByteArray) (d:Nat):Nat→ByteArray→Tok→Rs ND
 | 0,_,_=>.bad 0 0
 | n + 1,t,o =>
  if t = ⟨#[123]⟩ then (aD s o).bind fun _ o=>(listF s d n [] [] o).bind fun x o=>(aZ s [⟨#[125]⟩] o).bind fun _ o=>.ok (nd 11 [x]) o
  else if t = ⟨#[40]⟩ then (aD s o).bind fun _ o=>(listF s d n [] [] o).bind fun x o=>(aZ s [⟨#[41]⟩] o).bind fun _ o=>.ok (nd 12 [x]) o
  else if t = ⟨#[105,102]⟩ then (bZ s d n o).bind fun x o=>(aZ s [⟨#[102,105]⟩] o).bind fun _ o=>.ok x o
  else if t = ⟨#[119,104,105,108,101]⟩ then loopF s d n 7 o
  else if t = ⟨#[117,110,116,105,108]⟩ then loopF s d n 8 o
  else if t = ⟨#[102,111,114]⟩ then iW s d n o
  else dU s d n o
def loopF (s:ByteArray) (d:Nat):Nat→Int→Tok→Rs ND
 | 0,_,_=>.bad 0 0
 | n + 1,k,o=>(aD s o).bind fun _ o=>(listF s d n [] [] o).bind fun x o=>(aS s d n ⟨#[100,111]⟩ o).bind fun y o=>(aZ s [⟨#[100,111,110,101]⟩] o).bind fun _ o=>.ok (nd k [x,y]) o
def aS (s:ByteArray) (d:Nat):Nat→ByteArray→Tok→Rs ND
 | 0,_,_=>.bad 0 0
 | n + 1,t,o=>(aZ s [t] o).bind fun _ o=>(aD s o).bind fun _ o=>listF s d n [] [] o
def bZ (s:ByteArray) (d:Nat):Nat→Tok→Rs ND
 | 0,_=>.bad 0 0
 | n + 1,o=>(aD s o).bind fun _ o=>(listF s d n [] [] o).bind fun x o=>(aS s d n ⟨#[116,104,101,110]⟩ o).bind fun y o =>
  if bu [⟨#[101,108,115,101]⟩] o then (aS s d n ⟨#[101,108,115,101]⟩ o).bind fun z o=>.ok (nd 6 [x,y,z]) o
  else if bu [⟨#[101,108,105,102]⟩] o then if d = 200 then .bad o.i 2 else (dL s o).bind fun _ o=>(bZ s (d + 1) n o).bind fun z o=>.ok (nd 6 [x,y,gq [z] [false]]) o
  else .ok (nd 6 [x,y]) o
def iW (s:ByteArray) (d:Nat):Nat→Tok→Rs ND
 | 0,_=>.bad 0 0
 | n + 1,o=>(mI s o).bind fun nm o=>(lQ s o).bind fun gw o=>(aS s d n ⟨#[100,111]⟩ o).bind fun y o=>(aZ s [⟨#[100,111,110,101]⟩] o).bind fun _ o=>.ok ⟨9,nm,gw.1,[],gw.2,toN [y],[],.nil⟩ o
def dU (s:ByteArray) (d:Nat):Nat→Tok→Rs ND
 | 0,_=>.bad 0 0
 | n + 1,o=>(gV s o).bind fun x o=>(aD s o).bind fun _ o=>(aZ s [⟨#[105,110]⟩] o).bind fun _ o=>(aD s o).bind fun _ o=>choiceL s d n x [] o
def choiceL (s:ByteArray) (d:Nat):Nat→PL→List CD→Tok→Rs ND
 | 0,_,_,_=>.bad 0 0
 | n + 1,x,cs,o=>(bO s [⟨#[101,115,97,99]⟩] o).bind fun b o=>if b then .ok ⟨10,⟨#[]⟩,false,[],[x],.nil,[],toC cs⟩ o else (eD s d n o).bind fun c o=>choiceL s d n x (cs ++ [c]) o
def eD (s:ByteArray) (d:Nat):Nat→Tok→Rs CD
 | 0,_=>.bad 0 0
 | n + 1,o=>(bO s [⟨#[40]⟩] o).bind fun _ o=>(gV s o).bind fun x o=>(mJ s (F s) [x] o).bind fun ps o=>(aZ s [⟨#[41]⟩] o).bind fun _ o=>(aD s o).bind fun _ o =>
  if dG o then (listF s d n [] [] o).bind fun y o=>je s (ps,[y]) o else je s (ps,[]) o
/-- The words of a for. -/
def lQ (s:ByteArray) (o:Tok):Rs (Bool × List PL):=(bO s [⟨#[59]⟩] o).bind fun b o=>(aD s o).bind fun _ o=>if b then .ok (false,[]) o else
 (bO s [⟨#[105,110]⟩] o).bind fun g o=>if g then (lc s o).bind fun ws o=>(aZ s [⟨#[59]⟩,gM] o).bind fun _ o=>(aD s o).bind fun _ o=>.ok (true,ws) o else .ok (false,[]) o
def je (s:ByteArray) (c:CD) (o:Tok):Rs CD:=if bu [⟨#[101,115,97,99]⟩] o then .ok c o else (aZ s [⟨#[59,59]⟩] o).bind fun _ o=>(aD s o).bind fun _ o=>.ok c o
end
end Ps
namespace Lx
open j6 Pt
def ftot:PL→Nat
 | .nil=>0
 | .cons _ _ t o f r=>1 + t.size + o.size + ftot f + ftot r
theorem zO:∀ l m:PL,ftot (l.app m) = ftot l + ftot m
 | .nil,m=>by simp [ftot,PL.app]
 | .cons _ _ _ _ _ r,m=>by simp only [ftot,PL.app,zO r m];omega
theorem tF:∀ l:PL,l.size≤ftot l
 | .nil=>vi _
 | .cons _ _ _ _ f r=>by have:=tF f;have:=tF r;simp only [PL.size,ftot];omega
def A.ft (a:A):Nat:=Lx.ftot a.l + match a.cur with | none=>0 | some x=>1 + x.2.length
theorem A.pQ (a:A):Lx.ftot a.flush = a.ft:=by
 obtain ⟨l,cur⟩:=a
 match cur with
 | none=>simp [A.flush,A.ft]
 | some x =>
  simp only [A.flush,A.ft,zO,A.lit,Lx.ftot];show Lx.ftot l + (1 + (List.toArray _).size + 0 + 0 + 0) = _;rw [List.size_toArray];omega
theorem A.MR (a:A) (q:Bool):(a.begins q).ft≤a.ft + 1:=by
 obtain ⟨l,cur⟩:=a
 match cur with
 | none=>simp [A.begins,A.ft]
 | some x =>
  simp only [A.begins];split
  ·omega
  ·have:=A.pQ ⟨l,some x⟩;simp only [A.ft,zZ] at this ⊢
   omega
theorem A.qx (a:A) (s:List UInt8) (q:Bool):(a.text s q).ft≤a.ft + 1 + s.length:=by
 have h:=A.MR a q;have hc:=qf a q;simp only [A.ft,hc] at h;simp only [A.text,A.ft,zI];omega
theorem A.JE (a:A) (p:PL):(a.add p).ft = a.ft + Lx.ftot p:=by
 have:=A.pQ a;simp only [A.add,A.ft,zO];simp only [A.ft] at this;omega
theorem A.DJ:∀ (m:PL) (a:A),(a.join m).ft≤a.ft + Lx.ftot m
 | .nil,a=>by simp [A.join,Lx.ftot]
 | .cons k q t o f r,a=>by
  simp only [A.join];split
  ·have h1:=A.DJ r (a.text t.data.toList q);have h2:=A.qx a t.data.toList q;rw [iE] at h2;simp only [Lx.ftot];omega
  ·have h1:=A.DJ r (a.add (.cons k q t o f .nil));have h2:=A.JE a (.cons k q t o f .nil);simp only [Lx.ftot] at h2 ⊢;omega
theorem PU {s:ByteArray} {i ec:Nat} {a:A} (hi:i < s.size):1≤(dW ec (ag s (i + 1)) a).2∧i + (dW ec (ag s (i + 1)) a).2≤s.size∧(dW ec (ag s (i + 1)) a).1.ft≤a.ft + 2 * (dW ec (ag s (i + 1)) a).2:=by
 have hx:∀ c,seesB (ag s (i + 1)) c = true→i + 1 < s.size:=fun c h=>nA h;unfold dW;split
 ·rename_i h;have:=hx _ h;simp only [];omega
 ·split
  ·rename_i h;have hl:i + 1 < s.size:=by
    simp only [Bool.or_eq_true] at h;rcases h with (((h | h) | h) | h) | h <;> exact hx _ h
   have:=A.qx a [(ag s (i + 1)).headD 0] true;simp only [zz,zZ] at this ⊢
   omega
  ·have:=A.qx a [92] true;simp only [zz,zZ] at this ⊢
   omega
theorem VY (a:A) (c:UInt8):(yt a c).ft≤a.ft + 2:=by
 unfold yt;split
 ·omega
 ·have:=A.qx a [c] true;simp only [zz,zZ] at this;omega
theorem YJ (m:PL):ftot (nz m)≤ftot m + 1:=by
 cases m with
 | nil=>simp [nz,A.lit,ftot];exact vi _
 | cons=>simp [nz]
theorem Tf (s:ByteArray):∀ n,(∀ (ec d:Nat) (a:A) (i j:Nat) (l:PL),markedF n s ec d a i = .ok l j→i≤s.size→i≤j∧j≤s.size∧ftot l≤a.ft + 2 * (j - i)) ∧
  (∀ (d:Nat) (a:A) (i j:Nat) (l:PL),bareF n s d a i = .ok l j→i≤s.size→i≤j∧j≤s.size∧ftot l≤a.ft + 2 * (j - i)) ∧
  (∀ (q:Bool) (d i j:Nat) (p:PL),paramF n s q d i = .ok p j→i < s.size→i < j∧j≤s.size∧ftot p≤2 * (j - i)):=by
 have hA0:A0.ft = 0:=rfl;intro n
 induction n with
 | zero=>exact ⟨fun _ _ _ _ _ _ h=>by simp [markedF] at h,fun _ _ _ _ _ h=>by simp [bareF] at h,fun _ _ _ _ _ h=>by simp [paramF] at h⟩
 | succ n ih =>
  obtain ⟨zn,ihb,O0⟩:=ih;refine ⟨?_,?_,?_⟩
  ·intro ec d a i j l h hi;rw [markedF] at h;split at h
   ·cases h;have:=A.pQ a;omega
   ·split at h
    ·cases h;have:=A.pQ a;omega
    ·split at h
     ·cases h
     ·split at h
      ·split at h
       ·cases h
       ·rename_i p j' hp;obtain ⟨h1,h2,h3⟩:=O0 _ _ _ _ _ hp (by omega);obtain ⟨h4,h5,h6⟩:=zn _ _ _ _ _ _ h h2;rw [A.JE] at h6;exact ⟨by omega,h5,by omega⟩
      ·split at h
       ·obtain ⟨k1,k2,k3⟩:=PU (ec:=ec) (a:=a) (show i < s.size by omega);obtain ⟨h4,h5,h6⟩:=zn _ _ _ _ _ _ h k2;exact ⟨by omega,h5,by omega⟩
       ·obtain ⟨h4,h5,h6⟩:=zn _ _ _ _ _ _ h (by omega);have:=A.qx a [bG s i] true;simp only [zz,zZ] at this;exact ⟨by omega,h5,by omega⟩
  ·intro d a i j l h hi;rw [bareF] at h;split at h
   ·cases h;have:=A.pQ a;exact ⟨by omega,by omega,by omega⟩
   ·split at h
    ·split at h
     ·rename_i h0;have hn:(Lib.indexByte (ag s (i + 1)) 39).toNat < (ag s (i + 1)).length:=by
       have:=(Lib.indexByte_some (l:=ag s (i + 1)) (c:=39) (o:=(Lib.indexByte (ag s (i + 1)) 39).toNat) (by omega)).1;exact (List.getElem?_eq_some_iff.1 this).1
      rw [aQ] at hn;have h2:=ihb _ _ _ _ _ h (by omega);have h3:=A.qx a ((ag s (i + 1)).take (Lib.indexByte (ag s (i + 1)) 39).toNat) true;rw [List.length_take,aQ] at h3;exact ⟨by omega,h2.2.1,by omega⟩
     ·cases h
    ·split at h
     ·split at h
      ·cases h
      ·rename_i m j' hm;split at h
       ·cases h
       ·have h1:=zn _ _ _ _ _ _ hm (by omega);have h2:=ihb _ _ _ _ _ h (by omega);have h3:=A.DJ (nz m) a;have h4:=YJ m;exact ⟨by omega,h2.2.1,by omega⟩
     ·split at h
      ·split at h
       ·cases h
       ·have h2:=ihb _ _ _ _ _ h (by omega);have h3:=VY a (bG s (i + 1));exact ⟨by omega,h2.2.1,by omega⟩
      ·split at h
       ·cases h
       ·split at h
        ·split at h
         ·cases h
         ·rename_i p j' hp;have h1:=O0 _ _ _ _ _ hp (by omega);have h2:=ihb _ _ _ _ _ h h1.2.1;rw [A.JE] at h2;exact ⟨by omega,h2.2.1,by omega⟩
        ·split at h
         ·cases h;have:=A.pQ a;exact ⟨by omega,by omega,by omega⟩
         ·have h2:=ihb _ _ _ _ _ h (by omega);have h3:=A.qx a [bG s i] false;simp only [zz,zZ] at h3;exact ⟨by omega,h2.2.1,by omega⟩
  ·intro q d i j p h hi;rw [paramF] at h;split at h
   ·cases h
   ·split at h
    ·rename_i jc;have h1:=nA jc;have hn:=kE (ag s (i + 2)) s.size;rw [aQ] at hn;have ho:=r9 (ag s (i + 2 + aL (ag s (i + 2)) s.size));rw [aQ] at ho;split at h
     ·cases h
     ·split at h
      ·split at h
       ·rename_i FR;have h2:=nA FR;cases h;refine ⟨by omega,by omega,?_⟩;simp only [one,ftot,ByteArray.size_extract];have:(⟨#[]⟩:ByteArray).size = 0:=rfl;omega
       ·cases h
      ·split at h
       ·cases h
       ·rename_i f j' hm;split at h
        ·rename_i FR;have h2:=nA FR;have hj:i + 2 + aL (ag s (i + 2)) s.size + gG (ag s (i + 2 + aL (ag s (i + 2)) s.size))≤j'∧ftot f≤2 * (j' - (i + 2 + aL (ag s (i + 2)) s.size + gG (ag s (i + 2 + aL (ag s (i + 2)) s.size)))):=by
          cases q with
          | true=>have:=zn _ _ _ _ _ _ hm (by omega);omega
          | false=>have:=ihb _ _ _ _ _ hm (by omega);omega
         cases h;refine ⟨by omega,by omega,?_⟩;simp only [one,ftot,ByteArray.size_extract];omega
        ·cases h
    ·split at h
     ·cases h
     ·rename_i h0;have hn:=kE (ag s (i + 1)) 1;rw [aQ] at hn;cases h;refine ⟨by omega,by omega,?_⟩;simp only [one,ftot,ByteArray.size_extract];have:(⟨#[]⟩:ByteArray).size = 0:=rfl;omega
theorem PV (s:ByteArray) (i:Nat) (hi:i≤s.size):ftot (cO s i).l≤2 * ((cO s i).j - i)∧(cO s i).t.size≤s.size:=by
 have h1:=vK s (s.size + 1) i hi;unfold cO;generalize aheadF (s.size + 1) s i = m at h1 ⊢
 unfold tokF;split
 ·exact ⟨zVy _,zVy _⟩
 ·split
  ·exact ⟨zVy _,zVy _⟩
  ·split
   ·split
    ·exact ⟨zVy _,zVy _⟩
    ·refine ⟨zVy _,?_⟩;simp only [ByteArray.size_extract];omega
   ·split
    ·rename_i l j hw;have:=(Tf s (s.size + 1)).2.1 _ _ _ _ _ hw h1.2;have hA0:A0.ft = 0:=rfl;exact ⟨by simp only [];omega,zVy _⟩
    ·exact ⟨zVy _,zVy _⟩
end Lx
namespace Ps
open j6 Pt Tr Sp Lx
def uI (i err:Nat):Value:=.iface 56 (.agg #[.int .i64 i,.int .i64 err])
abbrev aA (i err:Nat):Ending:=.panicked [{ v:=uI i err,recovered:=false }]
structure dz (s:ByteArray) (o:Tok):Prop where
 i:o.i≤s.size
 j:o.j≤s.size
 e:o.k = 4→o.j = s.size∧o.l = .nil
 f:ftot o.l≤2 * s.size
 t:o.t.size≤s.size
def PRow (w:World) (pb:Nat) (s:ByteArray) (o:Tok) (a:Option Addr) (cap d:Nat):Prop :=
 w.heap[pb]? = some (.cells #[.string s,.int .i64 o.k,.int .i64 o.i,.string o.t,.slice a o.l.len cap,.int .i64 o.err,.string (aT o),.int .i64 o.j,.int .i64 d] 61 (0,0))
structure jl (S:Nat→Prop) (w:World) (pb:Nat) (s:ByteArray) (o:Tok) (d:Nat):Prop where
 ex:∃ a cap,PRow w pb s o a cap d∧cu S w a cap o.l
 ns:¬ S pb
 lt:∀ b,S b→b < w.heap.size
 ok:dz s o
 g:S 0
 m:∃ m,w.cell? ⟨0,0,none⟩ = some (.int .i64 m)
def Up (S:Nat→Prop) (w w':World) (b:Nat):Prop:=S b∨(w.heap.size≤b∧b < w'.heap.size)
theorem jl.pb {S:Nat→Prop} {w:World} {pb:Nat} {s:ByteArray} {o:Tok} {d:Nat} (h:jl S w pb s o d):pb < w.heap.size:=by
 obtain ⟨a,cap,hr,_⟩:=h.ex;exact (zv hr).1
theorem jl.below {S:Nat→Prop} {w w':World} {pb:Nat} {s:ByteArray} {o:Tok} {d:Nat} (h:jl S w pb s o d) (hb:Below w.heap.size w w'):jl S w' pb s o d:=by
 obtain ⟨⟨a,cap,hr,hl⟩,h1,h2,h3,h4,m,hm⟩:=h;exact ⟨⟨a,cap,(hb.block _ (zv hr).1).trans hr,hl.keep hb.size fun b _ aB=>hb.block b aB⟩,h1,fun b hs=>kd (h2 b hs) hb.size,h3,h4,m,cell_below hb hm⟩
theorem jl.up {S:Nat→Prop} {w w':World} {pb:Nat} {s:ByteArray} {o:Tok} {d:Nat} (h:jl S w' pb s o d) (Ou:pb < w.heap.size):jl (Up S w w') w' pb s o d:=by
 obtain ⟨⟨a,cap,hr,hl⟩,h1,h2,h3,h4,h5⟩:=h;exact ⟨⟨a,cap,hr,hl.mono fun b hb _=>.inl hb⟩,fun hb=>hb.elim h1 fun hb=>by omega,fun b hb=>hb.elim (h2 b) fun hb=>hb.2,h3,.inl h4,h5⟩
theorem dz.text {s:ByteArray} {o:Tok} (h:dz s o) (hs:s.size≤400000):(aT o).size≤800000:=by
 unfold aT;split
 ·have:=h.t;omega
 ·split
  ·show (1:Nat)≤_;omega
  ·have hf:=h.f;cases hl:o.l with
   | nil=>exact zVy _
   | cons k q t o' f r =>
    rw [hl] at hf;simp only [ftot] at hf;cases r with
    | nil =>
     simp only [fQ];split
     ·omega
     ·exact zVy _
    | cons=>exact zVy _
def Does {T:Type} (S:Nat→Prop) (pb:Nat) (s:ByteArray) (d:Nat) (w:World) (V:(Nat→Prop)→World→Value→T→Prop) (r:Rs T) (e:Ending) (w':World):Prop :=
 jU pb w w'∧match r with
 | .ok a o=>(∃ v,e = .returned v∧V (Up S w w') w' v a)∧jl (Up S w w') w' pb s o d
 | .bad i er=>e = aA i er
def uj (_:Nat→Prop) (_:World) (v:Value) (_:Unit):Prop:=v = .tuple #[]
def Gq (_:Nat→Prop) (_:World) (v:Value) (b:Bool):Prop:=v = .bool b
def VM {T:Type} (V:(Nat→Prop)→World→Value→T→Prop):Prop:=∀ (S S':Nat→Prop) (w:World) (v:Value) (a:T),(∀ b,S b→S' b)→V S w v a→V S' w v a
theorem VM.unit:VM uj:=fun _ _ _ _ _ _ h=>h
theorem VM.bool:VM Gq:=fun _ _ _ _ _ _ h=>h
theorem jl.mono {S S':Nat→Prop} {w:World} {pb:Nat} {s:ByteArray} {o:Tok} {d:Nat} (h:jl S w pb s o d) (hS:∀ b,S b→S' b) (hn:¬ S' pb) (hl:∀ b,S' b→b < w.heap.size):jl S' w pb s o d:=by
 obtain ⟨⟨a,cap,hr,A9⟩,_,_,h3,h4,h5⟩:=h;exact ⟨⟨a,cap,hr,A9.mono fun b hb _=>hS b hb⟩,hn,hl,h3,hS _ h4,h5⟩
theorem Up.out {S:Nat→Prop} {w w':World} {pb:Nat} (hn:¬ S pb) (Ou:pb < w.heap.size):¬ Up S w w' pb:=fun h=>h.elim hn fun h=>by omega
theorem Up.lt {S:Nat→Prop} {w w':World} (hl:∀ b,S b→b < w.heap.size) (hs:w.heap.size≤w'.heap.size):∀ b,Up S w w' b→b < w'.heap.size:=fun b h=>h.elim (fun h=>kd (hl b h) hs) fun h=>h.2
theorem Does.after {T:Type} {S S':Nat→Prop} {pb d:Nat} {s:ByteArray} {w w1 w2:World} {V:(Nat→Prop)→World→Value→T→Prop} {r:Rs T} {e:Ending} (hV:VM V) (hn:¬ S pb) (hl:∀ b,S b→b < w.heap.size) (Ou:pb < w.heap.size) (hf:jU pb w w1)
  (hS:∀ b,S' b→Up S w w1 b) (h:Does S' pb s d w1 V r e w2):Does S pb s d w V r e w2:=by
 have tV:=hf.trans h.1;have hu:∀ b,Up S' w1 w2 b→Up S w w2 b:=fun b hb=>by
  have h1:=hf.size;have h2:=h.1.size;rcases hb with hb | hb
  ·exact (hS b hb).imp id fun hb=>by omega
  ·exact .inr (by omega)
 refine ⟨tV,?_⟩;cases r with
 | ok a o=>exact ⟨let ⟨v,he,hv⟩:=h.2.1;⟨v,he,hV _ _ _ _ _ hu hv⟩,h.2.2.mono hu (Up.out hn Ou) (Up.lt hl tV.size)⟩
 | bad i er=>exact h.2
theorem jl.after {T:Type} {S:Nat→Prop} {pb d:Nat} {s:ByteArray} {w w1 w2:World} {o:Tok} {V:(Nat→Prop)→World→Value→T→Prop} {r:Rs T} {e:Ending} (hV:VM V) (h:jl S w pb s o d) (hb:Below w.heap.size w w1) (hd:Does S pb s d w1 V r e w2):Does S pb s d w V r e w2 :=
 hd.after hV h.ns h.lt h.pb (jU.of_below hb) fun b hb=>.inl hb
theorem jl.go {T:Type} {S:Nat→Prop} {pb d:Nat} {s:ByteArray} {w w1 w2:World} {o:Tok} {V:(Nat→Prop)→World→Value→T→Prop} {r:Rs T} {e:Ending} (hV:VM V) (h:jl S w pb s o d) (hf:jU pb w w1) (hd:Does (Up S w w1) pb s d w1 V r e w2):Does S pb s d w V r e w2 :=
 hd.after hV h.ns h.lt h.pb hf fun _ hb=>hb
theorem jl.does {T:Type} {S:Nat→Prop} {pb d:Nat} {s:ByteArray} {w w1:World} {o:Tok} {V:(Nat→Prop)→World→Value→T→Prop} {a:T} {v:Value} (h:jl S w pb s o d) (hb:Below w.heap.size w w1) (hv:V (Up S w w1) w1 v a):Does S pb s d w V (.ok a o) (.returned v) w1 :=
 ⟨jU.of_below hb,⟨v,rfl,hv⟩,(h.below hb).up h.pb⟩
theorem cZ (S:Nat→Prop) (pb:Nat) (s:ByteArray) (o:Tok) (d err:Nat) (w:World) (h:jl S w pb s o d) :
  Calls Tryz.prog 51 #[.pointer (some ⟨pb,0,none⟩),.int .i64 err] w fun e w'=>e = aA o.i err∧Below w.heap.size w w':=by
 obtain ⟨⟨a,cap,hr,hl⟩,h1,h2,h3,_⟩:=h;have c2:=ed hr;clear hr hl;go_enter Tryz.func51,Tryz.ntmps51;go_wp2_with fail;exact ⟨rfl,rfl,Below.refl _ _⟩
theorem vH (o:Tok) (a:Option Addr) (cap:Nat) (w:World) (h:gJ w a cap o.l) :
  Calls Tryz.prog 50 #[.agg #[.int .i64 o.k,.int .i64 o.i,.string o.t,.slice a o.l.len cap,.int .i64 o.err]] w fun e w'=>e = .returned (.string (aT o))∧Below w.heap.size w w':=by
 have hp:=fun w' (hb:Below w.heap.size w w')=>Ck o.l a cap w' (h.below hb);have HP:=kq hp;have hle:=h.le;clear hp h
 by_cases h2:o.k = 2
 ·have e:aT o = o.t:=by simp [aT,h2]
  rw [e,h2];go_enter Tryz.func50,Tryz.ntmps50;go_wp2_with fail;go_ret;exact ⟨rfl,ax _ _⟩
 by_cases h3:o.k = 3
 ·have e:aT o = ⟨#[10]⟩:=by simp [aT,h3]
  rw [e,h3];go_enter Tryz.func50,Tryz.ntmps50;go_wp2_with fail;go_ret;exact ⟨rfl,ax _ _⟩
 have e:aT o = fQ o.l:=by simp [aT,h2,h3]
 have e2:((o.k:Int) == 2) = false:=by rw [beq_eq_false_iff_ne];omega
 have e3:((o.k:Int) == 3) = false:=by rw [beq_eq_false_iff_ne];omega
 rw [e];clear e h2 h3;go_enter Tryz.func50,Tryz.ntmps50;go_wp2_with fail;refine (HP.out _ (ax _ _)).mono ?_;rintro e w' ⟨rfl,rfl⟩;go_wp2_with fail;go_ret;exact ⟨rfl,ax _ _⟩
end Ps
end Go.Proofs.YtckakkeejekibaaGreatDoor
