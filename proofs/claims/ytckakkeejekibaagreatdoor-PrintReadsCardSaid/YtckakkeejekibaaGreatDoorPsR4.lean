/- What is read is right. Pure. -/
import Derived.Test.YtckakkeejekibaaGreatDoorPsPb
namespace Go.Proofs.YtckakkeejekibaaGreatDoor
open Go.RowKit Go.Sort
namespace Ps
open j6 Pt Tr Sp Lx
structure Good (s:ByteArray) (o:Tok):Prop where
 ok:dz s o
 r:o.k = 1→aG o.l = true
def bD {T:Type} (s:ByteArray) (P:T→Tok→Prop) (r:Rs T):Prop:=∀ a q,r = .ok a q→P a q∧Good s q
section
variable {T U:Type} {s:ByteArray} {o:Tok} {r:Rs T} {f:T→Tok→Rs U} {P P':T→Tok→Prop} {P2:U→Tok→Prop}
theorem bD.bad {i e:Nat}:bD s P (.bad i e):=fun _ _ h=>by cases h
theorem bD.ok {a:T} (h:P a o) (ho:Good s o):bD s P (.ok a o):=fun b q e=>by injection e with e1 e2;subst e1;subst e2;exact ⟨h,ho⟩
theorem bD.bind (h:bD s P r) (hf:∀ a q,P a q→Good s q→bD s P2 (f a q)):bD s P2 (r.bind f):=by
 cases r with
 | bad i e=>exact bD.bad
 | ok a q=>exact hf a q (h a q rfl).1 (h a q rfl).2
theorem bD.imp (h:bD s P r) (hp:∀ a q,P a q→P' a q):bD s P' r:=fun a q e=>⟨hp a q (h a q e).1,(h a q e).2⟩
end
abbrev Any (T:Type):T→Tok→Prop:=fun _ _=>True
theorem jk {s:ByteArray} {o:Tok} (ho:Good s o):bD s (Any Unit) (dL s o):=fun _ q h=>by
 unfold dL at h;split at h
 ·cases h
 ·injection h with h1 h2;subst h2;exact ⟨trivial,D7 s o.j ho.ok.j,(pu s o.j ho.ok.j).2.2.1⟩
theorem bR {s:ByteArray} {o:Tok} (l:List ByteArray) (ho:Good s o):bD s (fun b q=>b = false→q = o) (bO s l o):=by
 unfold bO;split
 ·exact (jk ho).bind fun _ q _ hq=>bD.ok (fun h=>by cases h) hq
 ·exact bD.ok (fun _=>rfl) ho
theorem bK {s:ByteArray} {o:Tok} (l:List ByteArray) (ho:Good s o):bD s (Any Unit) (aZ s l o):=by
 unfold aZ;refine (bR l ho).bind fun b q _ hq=>?_;split
 ·exact bD.ok trivial hq
 ·exact bD.bad
theorem bn {s:ByteArray}:∀ (n:Nat) (o:Tok),Good s o→bD s (Any Unit) (linesN s n o)
 | 0,_,_=>bD.bad
 | n + 1,o,ho=>by
  rw [linesN];refine (bR _ ho).bind fun b q _ hq=>?_;split
  ·exact bn n q hq
  ·exact bD.ok trivial hq
theorem pX {s:ByteArray} {o:Tok} (ho:Good s o):bD s (fun x _=>aG x = true∧x = o.l) (gV s o):=by
 unfold gV;split
 ·rename_i h;exact (jk ho).bind fun _ q _ hq=>bD.ok ⟨ho.r h,rfl⟩ hq
 ·exact bD.bad
theorem xD {s:ByteArray}:∀ (n:Nat) (l:List PL) (o:Tok),Good s o→l.all aG = true→bD s (fun ws _=>ws.all aG = true∧∃ r,ws = l ++ r∧(o.k = 1→∃ r',r = o.l :: r')∧(o.k ≠ 1→r = [])) (wordsN s n l o)
 | 0,_,_,_,_=>bD.bad
 | n + 1,l,o,ho,hl=>by
  rw [wordsN];split
  ·rename_i h;refine (pX ho).bind fun x q hx hq=>?_;obtain ⟨hx,rfl⟩:=hx;refine (xD n (l ++ [o.l]) q hq (by simp only [List.all_append,hl,List.all_cons,hx,List.all_nil,Bool.and_self])).imp fun ws p hw=>?_;obtain ⟨h1,r,rfl,_,_⟩:=hw;exact ⟨h1,o.l :: r,by simp,fun _=>⟨r,rfl⟩,fun hn=>absurd h hn⟩
  ·rename_i h;exact bD.ok ⟨hl,[],by simp,fun hk=>absurd hk h,fun _=>rfl⟩ ho
theorem Hf:∀ (p:Option (Int × Bool)) (l:PL) (a d:Nat),rightL p l a d = true→rightL none l a d = true
 | _,.nil,_,_,_=>rfl
 | _,.cons _ _ _ _ _ _,_,_,h=>by
  simp only [rightL,ud] at h ⊢
  exact ⟨⟨⟨h.1.1.1,rfl⟩,h.1.2⟩,h.2⟩
theorem qB {l:PL}:splitA l = none ↔ splitP l = none:=by
 cases l with
 | nil=>exact ⟨fun _=>rfl,fun _=>rfl⟩
 | cons k q t o f r =>
  unfold splitA;cases splitP (.cons k q t o f r) with
  | none=>exact ⟨fun _=>rfl,fun _=>rfl⟩
  | some n=>exact ⟨(fun h=>by cases h),(fun h=>by cases h)⟩
theorem Hg {l:PL} {x:ByteArray × PL} (hr:aG l = true) (h:splitA l = some x):jF x = true:=by
 cases l with
 | nil=>simp [splitA] at h
 | cons k q t o f r =>
  unfold splitA at h;cases hs:splitP (.cons k q t o f r) with
  | none=>rw [hs] at h;cases h
  | some n =>
   rw [hs] at h;simp only [Option.some.injEq] at h;subst h;simp only [splitP] at hs;split at hs
   ·rename_i uh;obtain ⟨hi,hn,aB⟩:=sw hs;simp only [aG,ud] at hr;have nR:=hr.2;simp only [rightL,ud] at nR;obtain ⟨⟨_,DZ⟩,hrest⟩:=nR;unfold jF;simp only [ud];refine ⟨by simpa using hn,?_⟩;show rightL none (if t.size≤n + 1 then r else .cons k q ⟨(t.data.toList.drop (n + 1)).toArray⟩ o f r) 0 1 = true;split
    ·exact Hf (some (k,q)) r 0 1 hrest
    ·rename_i hlen;simp only [ud,Bool.not_eq_true'] at uh;obtain ⟨hk,rfl⟩:=uh;simp only [rightL,ud];refine ⟨⟨⟨by decide,rfl⟩,?_⟩,hrest⟩;rw [if_pos hk] at DZ ⊢
     simp only [ud,dh,Bool.false_eq_true,if_false] at DZ ⊢
     obtain ⟨⟨h1,h2⟩,h3,h4⟩:=DZ;refine ⟨⟨h1,h2⟩,?_,?_⟩
     ·rw [List.all_eq_true] at h3 ⊢
      intro c hc;exact h3 c (List.mem_of_mem_drop (by simpa using hc))
     ·have hl:=iE t;have:(t.data.toList.drop (n + 1)).length ≠ 0:=by rw [List.length_drop];omega
      cases hd:t.data.toList.drop (n + 1) with
      | nil=>rw [hd] at this;exact absurd rfl this
      | cons a b=>simp
   ·cases hs
theorem sQ {s:ByteArray}:∀ (n:Nat) (l:List (ByteArray × PL)) (o:Tok),Good s o→l.all jF = true→bD s (fun az q=>az.all jF = true∧(q.k = 1→splitP q.l = none)∧∃ r,az = l ++ r∧(r = []→q = o)) (assignsN s n l o)
 | 0,_,_,_,_=>bD.bad
 | n + 1,l,o,ho,hl=>by
  rw [assignsN];split
  ·rename_i h;split
   ·rename_i x hx;refine (jk ho).bind fun _ q _ hq=>?_;refine (sQ n (l ++ [x]) q hq (by simp only [List.all_append,hl,List.all_cons,Hg (ho.r h) hx,List.all_nil,Bool.and_self])).imp fun az p ha=>?_;obtain ⟨h1,h2,r,rfl,_⟩:=ha;exact ⟨h1,h2,x :: r,by simp,fun h=>by cases h⟩
   ·rename_i hx;exact bD.ok ⟨hl,fun _=>qB.1 hx,[],by simp,fun _=>rfl⟩ ho
  ·rename_i h;exact bD.ok ⟨hl,fun hk=>absurd hk h,[],by simp,fun _=>rfl⟩ ho
theorem Hl {s:ByteArray} {o:Tok} (ho:Good s o):bD s (fun nm _=>bV nm.data.toList = true) (mI s o):=by
 unfold mI;split
 ·rename_i h;unfold iT at h;simp only [ud] at h;exact (jk ho).bind fun _ q _ hq=>bD.ok h.2 hq
 ·exact bD.bad
theorem Ay {s:ByteArray}:∀ (n:Nat) (l:List PL) (o:Tok),Good s o→l.all aG = true→l ≠ []→bD s (fun ps _=>ps.all aG = true∧ps ≠ []) (mJ s n l o)
 | 0,_,_,_,_,_=>bD.bad
 | n + 1,l,o,ho,hl,hn=>by
  rw [mJ];refine (bR _ ho).bind fun b q _ hq=>?_;split
  ·exact (pX hq).bind fun x q hx hq=>Ay n _ q hq (by simp only [List.all_append,hl,List.all_cons,hx.1,List.all_nil,Bool.and_self]) (by simp)
  ·exact bD.ok ⟨hl,hn⟩ hq
theorem Nu {s:ByteArray} {o:Tok} (ho:Good s o):bD s (fun gw _=>(gw.1 || decide (gw.2.length = 0)) = true∧gw.2.all aG = true) (lQ s o):=by
 unfold lQ;refine (bR _ ho).bind fun b q _ hq=>(bn _ q hq).bind fun _ q _ hq=>?_;split
 ·exact bD.ok ⟨rfl,rfl⟩ hq
 ·refine (bR _ hq).bind fun g q _ hq=>?_;split
  ·exact (xD _ _ q hq rfl).bind fun ws q hw hq=>(bK _ hq).bind fun _ q _ hq=>(bn _ q hq).bind fun _ q _ hq=>bD.ok ⟨rfl,hw.1⟩ hq
  ·exact bD.ok ⟨rfl,rfl⟩ hq
def NR (x:ND) (D:Nat):Prop:=aW x.k x.nm x.g x.az x.ws x.ks x.bs x.cz D = true
theorem uS {D:Nat}:∀ {l:List ND},(∀ x ∈ l,NR x D)→rt (toN l) D = true
 | [],_=>rfl
 | x :: r,h=>by
  show rt (.node x.k x.nm x.g x.az x.ws x.ks x.bs x.cz (toN r)) D = true;rw [qm,ud];exact ⟨h x (by simp),uS fun y hy=>h y (by simp [hy])⟩
theorem pY {S:Int→Nat→Bool}:∀ {l:List ND},(∀ x ∈ l,S x.k x.ks.len = true)→allS S (toN l) = true
 | [],_=>rfl
 | x :: r,h=>by
  show (S x.k x.ks.len && allS S (toN r)) = true;rw [ud];exact ⟨h x (by simp),pY fun y hy=>h y (by simp [hy])⟩
def CR (c:CD) (D:Nat):Prop:=c.1.all aG = true∧c.1 ≠ []∧c.2.length≤1∧∀ x ∈ c.2,dK x.k x.ks.len = true∧NR x D
theorem QP {D:Nat}:∀ {l:List CD},(∀ c ∈ l,CR c D)→rt (toC l) D = true
 | [],_=>rfl
 | c :: r,h=>by
  obtain ⟨h1,h2,h3,h4⟩:=h c (by simp);have ih:=QP (l:=r) fun y hy=>h y (by simp [hy]);show ((!c.1.isEmpty && c.1.all aG && decide ((toN c.2).len≤1) && (allS dK (toN c.2) && rt (toN c.2) D)) && rt (toC r) D) = true;simp only [ud,decide_eq_true_eq,jW];refine ⟨⟨⟨⟨?_,h1⟩,h3⟩,pY fun x hx=>(h4 x hx).1,uS fun x hx=>(h4 x hx).2⟩,ih⟩;cases hc:c.1 with
  | nil=>exact absurd hc h2
  | cons=>rfl
end Ps
namespace Ps
open j6 Pt Tr Sp Lx
def LR (x:ND) (D:Nat):Prop:=x.k = 5∧0 < x.ks.len∧NR x D
theorem LR.body {x:ND} {D:Nat} (h:LR x D):dK x.k x.ks.len = true:=by
 unfold dK;rw [h.1];simp only [ud,decide_eq_true_eq];exact ⟨rfl,h.2.1⟩
theorem Ee {ks:List ND} {bs:List Bool} {D:Nat} (h:∀ x ∈ ks,dN x.k = true∧NR x D) (hb:bs.length = ks.length):NR (gq ks bs) D:=by
 show (!fC 5 D && ownB 5 ⟨#[]⟩ false [] [] (toN ks) bs .nil && (decide ((toN ks).len = bs.length) && (allS kL (toN ks) && rt (toN ks) D))) = true;simp only [ud,decide_eq_true_eq,jW];exact ⟨⟨rfl,(by simp [ownB,cB,sameN,eqL])⟩,hb.symm,pY fun x hx=>(h x hx).1,uS fun x hx=>(h x hx).2⟩
theorem Wy {k:Int} (hk:k = 2∨k = 3) {x y:ND} {D:Nat} (h1:dN x.k = true) (h2:NR x D) (h3:ik y.k = true) (h4:NR y D):NR (nd k [x,y]) D:=by
 have hr:rt (toN [x,y]) D = true:=uS fun z hz=>by
  simp only [List.mem_cons,List.not_mem_nil,or_false] at hz;rcases hz with rfl | rfl
  ·exact h2
  ·exact h4
 rcases hk with rfl | rfl
 ·show (!fC 2 D && ownB 2 ⟨#[]⟩ false [] [] (toN [x,y]) [] .nil && (decide ((toN [x,y]).len = 2) && (dN x.k && ik y.k) && rt (toN [x,y]) D)) = true;simp only [ud];exact ⟨⟨rfl,(by simp [ownB,cB,sameN,eqL])⟩,⟨rfl,h1,h3⟩,hr⟩
 ·show (!fC 3 D && ownB 3 ⟨#[]⟩ false [] [] (toN [x,y]) [] .nil && (decide ((toN [x,y]).len = 2) && (dN x.k && ik y.k) && rt (toN [x,y]) D)) = true;simp only [ud];exact ⟨⟨rfl,(by simp [ownB,cB,sameN,eqL])⟩,⟨rfl,h1,h3⟩,hr⟩
theorem Wz {x:ND} {D:Nat} (h1:eH x.k = true) (h2:NR x D):NR (nd 4 [x]) D:=by
 show (!fC 4 D && ownB 4 ⟨#[]⟩ false [] [] (toN [x]) [] .nil && (decide ((toN [x]).len = 1) && (allS gU (toN [x]) && rt (toN [x]) D))) = true;simp only [ud];exact ⟨⟨rfl,(by simp [ownB,cB,sameN,eqL])⟩,rfl,pY fun z hz=>by simp only [List.mem_singleton] at hz;subst hz;exact h1,uS fun z hz=>by simp only [List.mem_singleton] at hz;subst hz;exact h2⟩
theorem oM {k:Int} {D:Nat} (h:D≤200):(!fC k D) = true:=by
 unfold fC;have:decide (200 < D) = false:=by simp;omega
 rw [this,Bool.and_false];rfl
theorem bodies {l:List ND} {D:Nat} (h:∀ x ∈ l,LR x D):allS dK (toN l) = true∧rt (toN l) D = true:=⟨pY fun x hx=>(h x hx).body,uS fun x hx=>(h x hx).2.2⟩
theorem mem1 {x:ND} {P:ND→Prop} (h:P x):∀ z ∈ [x],P z:=fun z hz=>by simp only [List.mem_singleton] at hz;subst hz;exact h
theorem mem2 {x y:ND} {P:ND→Prop} (h:P x) (k:P y):∀ z ∈ [x,y],P z:=fun z hz=>by
 simp only [List.mem_cons,List.not_mem_nil,or_false] at hz;rcases hz with rfl | rfl
 ·exact h
 ·exact k
theorem mem3 {x y u:ND} {P:ND→Prop} (h:P x) (k:P y) (m:P u):∀ z ∈ [x,y,u],P z:=fun z hz=>by
 simp only [List.mem_cons,List.not_mem_nil,or_false] at hz;rcases hz with rfl | rfl | rfl
 ·exact h
 ·exact k
 ·exact m
theorem QQ {k:Int} (hk:k = 11∨k = 12) {x:ND} {D:Nat} (hD:D≤200) (h:LR x (D + 1)):NR (nd k [x]) D:=by
 obtain ⟨h1,h2⟩:=bodies (mem1 (P:=fun z=>LR z (D + 1)) h);rcases hk with rfl | rfl
 ·show (!fC 11 D && ownB 11 ⟨#[]⟩ false [] [] (toN [x]) [] .nil && (decide ((toN [x]).len = 1) && (allS dK (toN [x]) && rt (toN [x]) (D + 1)))) = true;simp only [ud];exact ⟨⟨oM hD,(by simp [ownB,cB,sameN,eqL])⟩,rfl,h1,h2⟩
 ·show (!fC 12 D && ownB 12 ⟨#[]⟩ false [] [] (toN [x]) [] .nil && (decide ((toN [x]).len = 1) && (allS dK (toN [x]) && rt (toN [x]) (D + 1)))) = true;simp only [ud];exact ⟨⟨oM hD,(by simp [ownB,cB,sameN,eqL])⟩,rfl,h1,h2⟩
theorem TR {k:Int} (hk:k = 7∨k = 8) {x y:ND} {D:Nat} (hD:D≤200) (h:LR x (D + 1)) (h':LR y (D + 1)):NR (nd k [x,y]) D:=by
 obtain ⟨h1,h2⟩:=bodies (mem2 (P:=fun z=>LR z (D + 1)) h h');rcases hk with rfl | rfl
 ·show (!fC 7 D && ownB 7 ⟨#[]⟩ false [] [] (toN [x,y]) [] .nil && (decide ((toN [x,y]).len = 2) && (allS dK (toN [x,y]) && rt (toN [x,y]) (D + 1)))) = true;simp only [ud];exact ⟨⟨oM hD,(by simp [ownB,cB,sameN,eqL])⟩,rfl,h1,h2⟩
 ·show (!fC 8 D && ownB 8 ⟨#[]⟩ false [] [] (toN [x,y]) [] .nil && (decide ((toN [x,y]).len = 2) && (allS dK (toN [x,y]) && rt (toN [x,y]) (D + 1)))) = true;simp only [ud];exact ⟨⟨oM hD,(by simp [ownB,cB,sameN,eqL])⟩,rfl,h1,h2⟩
theorem QR {l:List ND} {D:Nat} (hl:l.length = 2∨l.length = 3) (hD:D≤200) (h:∀ x ∈ l,LR x (D + 1)):NR (nd 6 l) D:=by
 obtain ⟨h1,h2⟩:=bodies h;show (!fC 6 D && ownB 6 ⟨#[]⟩ false [] [] (toN l) [] .nil && ((decide ((toN l).len = 2) || decide ((toN l).len = 3)) && (allS dK (toN l) && rt (toN l) (D + 1)))) = true;simp only [ud,Bool.or_eq_true,decide_eq_true_eq,jW];exact ⟨⟨oM hD,(by simp [ownB,cB,sameN,eqL])⟩,hl,h1,h2⟩
theorem WA {nm:ByteArray} {g:Bool} {ws:List PL} {x:ND} {D:Nat} (hD:D≤200) (hn:bV nm.data.toList = true) (hg:(g || decide (ws.length = 0)) = true) (hw:ws.all aG = true) (h:LR x (D + 1)):NR ⟨9,nm,g,[],ws,toN [x],[],.nil⟩ D:=by
 obtain ⟨h1,h2⟩:=bodies (mem1 (P:=fun z=>LR z (D + 1)) h);show (!fC 9 D && ownB 9 nm g [] ws (toN [x]) [] .nil && (decide ((toN [x]).len = 1) && (bV nm.data.toList && (g || decide (ws.length = 0)) && ws.all aG) && (allS dK (toN [x]) && rt (toN [x]) (D + 1)))) = true;simp only [ud];exact ⟨⟨oM hD,(by simp [ownB,cB,sameN,eqL])⟩,⟨rfl,⟨hn,hg⟩,hw⟩,h1,h2⟩
theorem TS {x:PL} {cs:List CD} {D:Nat} (hD:D≤200) (hx:aG x = true) (h:∀ c ∈ cs,CR c (D + 1)):NR ⟨10,⟨#[]⟩,false,[],[x],.nil,[],toC cs⟩ D:=by
 have h1:=QP h;show (!fC 10 D && ownB 10 ⟨#[]⟩ false [] [x] .nil [] (toC cs) && (decide (([x]:List PL).length = 1) && [x].all aG && rt (toC cs) (D + 1))) = true;simp only [ud,List.all_cons,List.all_nil,Bool.and_true];exact ⟨⟨oM hD,(by simp [ownB,cB,sameN,eqL])⟩,⟨rfl,hx⟩,h1⟩
theorem TT {nm:ByteArray} {x:ND} {D:Nat} (hD:D≤200) (hn:bV nm.data.toList = true) (hr:bF nm.data.toList = false) (h1:df x.k = true) (h2:NR x D):NR ⟨13,nm,false,[],[],toN [x],[],.nil⟩ D:=by
 show (!fC 13 D && ownB 13 nm false [] [] (toN [x]) [] .nil && (decide ((toN [x]).len = 1) && bV nm.data.toList && !bF nm.data.toList && (allS gu (toN [x]) && rt (toN [x]) D))) = true;simp only [ud,hr,Bool.not_false];exact ⟨⟨oM hD,(by simp [ownB,cB,sameN,eqL])⟩,⟨⟨rfl,hn⟩,trivial⟩,pY (mem1 h1),uS (mem1 h2)⟩
theorem Nv {az:List (ByteArray × PL)} {ws:List PL} {D:Nat} (h:simpleB az ws = true):NR ⟨1,⟨#[]⟩,false,az,ws,.nil,[],.nil⟩ D:=by
 show (!fC 1 D && ownB 1 ⟨#[]⟩ false az ws .nil [] .nil && simpleB az ws) = true;simp only [ud];exact ⟨⟨rfl,(by simp [ownB,cB,sameN,eqL])⟩,h⟩
structure acK (s:ByteArray) (n:Nat):Prop where
 list:∀ d ks bs o,d≤200→Good s o→(∀ x ∈ ks,dN x.k = true∧NR x (d + 1))→bs.length = ks.length→bD s (fun x _=>LR x (d + 1)) (listF s d n ks bs o)
 item:∀ d o,d≤200→Good s o→bD s (fun x _=>dN x.k = true∧NR x (d + 1)) (gW s d n o)
 mP:∀ d x o,d≤200→Good s o→dN x.k = true→NR x (d + 1)→bD s (fun x _=>dN x.k = true∧NR x (d + 1)) (itemL s d n x o)
 unit:∀ d o,d≤200→Good s o→bD s (fun x _=>ik x.k = true∧NR x (d + 1)) (fJ s d n o)
 command:∀ d o,d≤200→Good s o→bD s (fun x _=>eH x.k = true∧NR x (d + 1)) (aU s d n o)
 simple:∀ d o,d≤200→Good s o→gF o = true→bD s (fun x _=>eH x.k = true∧NR x (d + 1)) (dO s d n o)
 eP:∀ d o,d≤200→Good s o→bD s (fun x _=>df x.k = true∧NR x (d + 1)∧d + 1≤200) (aF s d n o)
 opened:∀ d t o,d≤200→Good s o→bD s (fun x _=>df x.k = true∧NR x d) (openedF s d n t o)
 loop:∀ d k o,(k = 7∨k = 8)→d≤200→Good s o→bD s (fun x _=>df x.k = true∧NR x d) (loopF s d n k o)
 behind:∀ d t o,d≤200→Good s o→bD s (fun x _=>LR x (d + 1)) (aS s d n t o)
 branch:∀ d o,d≤200→Good s o→bD s (fun x _=>x.k = 6∧NR x d) (bZ s d n o)
 each:∀ d o,d≤200→Good s o→bD s (fun x _=>df x.k = true∧NR x d) (iW s d n o)
 choice:∀ d o,d≤200→Good s o→bD s (fun x _=>df x.k = true∧NR x d) (dU s d n o)
 iN:∀ d x cs o,d≤200→Good s o→aG x = true→(∀ c ∈ cs,CR c (d + 1))→bD s (fun x _=>df x.k = true∧NR x d) (choiceL s d n x cs o)
 entry:∀ d o,d≤200→Good s o→bD s (fun c _=>CR c (d + 1)) (eD s d n o)
theorem Az {s:ByteArray} {c:CD} {o:Tok} {D:Nat} (hc:CR c D) (ho:Good s o):bD s (fun c _=>CR c D) (je s c o):=by
 unfold je;split
 ·exact bD.ok hc ho
 ·exact (bK _ ho).bind fun _ q _ hq=>(bn _ q hq).bind fun _ q _ hq=>bD.ok hc hq
theorem xE {k:Int} (h:df k = true):eH k = true:=by
 unfold df at h;unfold eH bQ;simp only [ud,decide_eq_true_eq] at h;simp only [Bool.or_eq_true,ud,decide_eq_true_eq];right;omega
theorem Ef {k:Int} (h:eH k = true):ik k = true:=by unfold ik;rw [h,Bool.or_true]
theorem Nw {k:Int} (h:ik k = true):dN k = true:=by unfold dN;rw [h,Bool.or_true]
theorem Hm (s:ByteArray):∀ n,acK s n
 | 0=>by
  constructor <;> (intros;intro a q h;simp [listF,gW,itemL,fJ,aU,dO,aF,openedF,loopF,aS,bZ,iW,dU,choiceL,eD] at h)
 | n + 1=>by
  have ih:=Hm s n;constructor
  ·intro d ks bs o hd ho hks hbs;rw [listF];refine (ih.item d o hd ho).bind fun x q hx hq=>?_;have Zn:∀ y ∈ ks ++ [x],dN y.k = true∧NR y (d + 1):=fun y hy=>by
    rcases List.mem_append.1 hy with hy | hy
    ·exact hks y hy
    ·simp only [List.mem_singleton] at hy;subst hy;exact hx
   have Ba:∀ b:Bool,(bs ++ [b]).length = (ks ++ [x]).length:=fun b=>by simp [hbs]
   have WX:∀ b:Bool,LR (gq (ks ++ [x]) (bs ++ [b])) (d + 1):=fun b=>⟨rfl,by show 0 < (toN (ks ++ [x])).len;rw [jW];simp,Ee Zn (Ba b)⟩;refine (bR _ hq).bind fun b p _ hp=>?_;split
   ·refine (bn _ p hp).bind fun _ q2 _ lH=>?_;split
    ·exact ih.list d _ _ q2 hd lH Zn (Ba _)
    ·exact bD.ok (WX _) lH
   ·exact bD.ok (WX _) hp
  ·intro d o hd ho;rw [gW];exact (ih.unit d o hd ho).bind fun x q hx hq=>ih.mP d x q hd hq (Nw hx.1) hx.2
  ·intro d x o hd ho h1 h2;rw [itemL];split
   ·exact (jk ho).bind fun _ q _ hq=>(bn _ q hq).bind fun _ q _ hq=>(ih.unit d q hd hq).bind fun y q hy hq=>ih.mP d _ q hd hq (by split <;> rfl) (Wy (by split <;> simp) h1 h2 hy.1 hy.2)
   ·exact bD.ok ⟨h1,h2⟩ ho
  ·intro d o hd ho;rw [fJ];refine (bR _ ho).bind fun b q _ hq=>?_;split
   ·exact (ih.command d q hd hq).bind fun x q hx hq=>bD.ok ⟨rfl,Wz hx.1 hx.2⟩ hq
   ·exact (ih.command d q hd hq).imp fun x q hx=>⟨Ef hx.1,hx.2⟩
  ·intro d o hd ho;rw [aU];split
   ·rename_i h;exact ih.simple d o hd ho h
   ·exact (ih.eP d o hd ho).imp fun x q hx=>⟨xE hx.1,hx.2.1⟩
  ·intro d o hd ho Xq;rw [dO];unfold gF at Xq;simp only [ud,beq_iff_eq,Bool.not_eq_true'] at Xq;refine (sQ _ _ o ho rfl).bind fun az p haz hp=>(xD _ _ p hp rfl).bind fun ws q hws hq=>?_;obtain ⟨R9,ha2,ra,Zo,ha3⟩:=haz;obtain ⟨yu,rw',aC,Z9,O4⟩:=hws;rw [List.nil_append] at Zo aC;subst Zo;subst aC;have Vq:simpleB az ws = true:=by
    unfold simpleB;rw [ud];refine ⟨R9,?_⟩
    by_cases hpk:p.k = 1
    ·obtain ⟨r',rfl⟩:=Z9 hpk;show (kZ p.l (decide (0 < az.length)) && (p.l :: r').all aG) = true;rw [ud];refine ⟨?_,yu⟩;unfold kZ;rw [ud];refine ⟨by rw [ha2 hpk];rfl,?_⟩;cases az with
     | cons a b=>simp
     | nil =>
      have WL:=ha3 rfl;subst WL;have ht:aT p = fQ p.l:=by unfold aT;rw [if_neg (by omega),if_neg (by omega)]
      rw [ht] at Xq;rw [Xq.2];simp
    ·rw [O4 hpk];cases az with
     | cons a b=>simp
     | nil=>exact absurd (by rw [ha3 rfl];exact Xq.1) hpk
   have fO:eH (1:Int) = true∧NR ⟨1,⟨#[]⟩,false,az,ws,.nil,[],.nil⟩ (d + 1):=⟨rfl,Nv Vq⟩;split
   ·rename_i U4;refine (bR _ hq).bind fun b q2 _ lH=>?_;split
    ·refine (bK _ lH).bind fun _ q3 _ AA=>(bn _ q3 AA).bind fun _ q4 _ RD=>(ih.eP d q4 hd RD).bind fun x q5 hx U5=>bD.ok ⟨rfl,?_⟩ U5;simp only [ud,iT] at U4;exact TT hx.2.2 U4.1.2 Xq.2 hx.1 hx.2.1
    ·exact bD.ok fO lH
   ·exact bD.ok fO hq
  ·intro d o hd ho;rw [aF];split
   ·split
    ·exact bD.bad
    ·rename_i jD;exact (jk ho).bind fun _ q _ hq=>(ih.opened (d + 1) _ q (by omega) hq).imp fun x q hx=>⟨hx.1,hx.2,by omega⟩
   ·exact bD.bad
  ·intro d t o hd ho;rw [openedF];split
   ·exact (bn _ o ho).bind fun _ q _ hq=>(ih.list d _ _ q hd hq (fun _ h=>by cases h) rfl).bind fun x q hx hq=>(bK _ hq).bind fun _ q _ hq=>bD.ok ⟨rfl,QQ (.inl rfl) hd hx⟩ hq
   ·split
    ·exact (bn _ o ho).bind fun _ q _ hq=>(ih.list d _ _ q hd hq (fun _ h=>by cases h) rfl).bind fun x q hx hq=>(bK _ hq).bind fun _ q _ hq=>bD.ok ⟨rfl,QQ (.inr rfl) hd hx⟩ hq
    ·split
     ·exact (ih.branch d o hd ho).bind fun x q hx hq=>(bK _ hq).bind fun _ q _ hq=>bD.ok ⟨by rw [hx.1];rfl,hx.2⟩ hq
     ·split
      ·exact ih.loop d _ o (.inl rfl) hd ho
      ·split
       ·exact ih.loop d _ o (.inr rfl) hd ho
       ·split
        ·exact ih.each d o hd ho
        ·exact ih.choice d o hd ho
  ·intro d k o hk hd ho;rw [loopF];exact (bn _ o ho).bind fun _ q _ hq=>(ih.list d _ _ q hd hq (fun _ h=>by cases h) rfl).bind fun x q hx hq=>(ih.behind d _ q hd hq).bind fun y q hy hq=>(bK _ hq).bind fun _ q _ hq=>bD.ok ⟨by rcases hk with rfl | rfl <;> rfl,TR hk hd hx hy⟩ hq
  ·intro d t o hd ho;rw [aS];exact (bK _ ho).bind fun _ q _ hq=>(bn _ q hq).bind fun _ q _ hq=>ih.list d _ _ q hd hq (fun _ h=>by cases h) rfl
  ·intro d o hd ho;rw [bZ];refine (bn _ o ho).bind fun _ q _ hq=>(ih.list d _ _ q hd hq (fun _ h=>by cases h) rfl).bind fun x q hx hq=>(ih.behind d _ q hd hq).bind fun y q hy hq=>?_;split
   ·exact (ih.behind d _ q hd hq).bind fun z q hz hq=>bD.ok ⟨rfl,QR (.inr rfl) hd (mem3 hx hy hz)⟩ hq
   ·split
    ·split
     ·exact bD.bad
     ·rename_i jD;refine (jk hq).bind fun _ q _ hq=>(ih.branch (d + 1) q (by omega) hq).bind fun z q hz hq=>bD.ok ⟨rfl,QR (.inr rfl) hd (mem3 hx hy ?_)⟩ hq;exact ⟨rfl,Nat.zero_lt_one,Ee (mem1 (P:=fun z=>dN z.k = true∧NR z (d + 1)) ⟨by rw [hz.1];rfl,hz.2⟩) rfl⟩
    ·exact bD.ok ⟨rfl,QR (.inl rfl) hd (mem2 hx hy)⟩ hq
  ·intro d o hd ho;rw [iW];exact (Hl ho).bind fun nm q hnm hq=>(Nu hq).bind fun gw q Zp hq=>(ih.behind d _ q hd hq).bind fun y q hy hq=>(bK _ hq).bind fun _ q _ hq=>bD.ok ⟨rfl,WA hd hnm Zp.1 Zp.2 hy⟩ hq
  ·intro d o hd ho;rw [dU];exact (pX ho).bind fun x q hx hq=>(bn _ q hq).bind fun _ q _ hq=>(bK _ hq).bind fun _ q _ hq=>(bn _ q hq).bind fun _ q _ hq=>ih.iN d x [] q hd hq hx.1 fun _ h=>by cases h
  ·intro d x cs o hd ho hx hcs;rw [choiceL];refine (bR _ ho).bind fun b q _ hq=>?_;split
   ·exact bD.ok ⟨rfl,TS hd hx hcs⟩ hq
   ·exact (ih.entry d q hd hq).bind fun c q hc hq=>ih.iN d x _ q hd hq hx fun y hy=>by
     rcases List.mem_append.1 hy with hy | hy
     ·exact hcs y hy
     ·simp only [List.mem_singleton] at hy;subst hy;exact hc
  ·intro d o hd ho;rw [eD];refine (bR _ ho).bind fun _ q _ hq=>(pX hq).bind fun x q hx hq=>(Ay _ _ q hq (by simp only [List.all_cons,hx.1,List.all_nil,Bool.and_self]) (by simp)).bind fun ps q U6 hq=>(bK _ hq).bind fun _ q _ hq=>(bn _ q hq).bind fun _ q _ hq=>?_;split
   ·exact (ih.list d _ _ q hd hq (fun _ h=>by cases h) rfl).bind fun y q hy hq=>Az ⟨U6.1,U6.2,by simp,mem1 (P:=fun z=>dK z.k z.ks.len = true∧NR z (d + 1)) ⟨hy.body,hy.2.2⟩⟩ hq
   ·exact Az ⟨U6.1,U6.2,by simp,fun _ h=>by cases h⟩ hq
theorem sS {s:ByteArray} {x:ND} {q:Tok} (h:gX s = .ok x q):x.k = 5∧NR x 1:=by
 have h0:Good s o0:=⟨⟨zVy _,zVy _,fun h=>by simp [o0] at h,zVy _,zVy _⟩,fun h=>by simp [o0] at h⟩;have uE:∀ (x:ND) (o:Tok),x.k = 5∧NR x 1→Good s o→bD s (fun x _=>x.k = 5∧NR x 1) (qQ x o):=fun x o hx ho=>by
  unfold qQ;split
  ·exact bD.ok hx ho
  ·exact bD.bad
 have hp:bD s (fun x _=>x.k = 5∧NR x 1) (gX s):=by
  unfold gX;refine (jk h0).bind fun _ o _ ho=>?_;unfold jP;refine (bn _ o ho).bind fun _ o _ ho=>?_;split
  ·exact ((Hm s (qJ s)).list 0 [] [] o (by omega) ho (fun _ h=>by cases h) rfl).bind fun x o hx ho=>uE x o ⟨hx.1,hx.2.2⟩ ho
  ·exact uE _ o ⟨rfl,Ee (fun _ h=>by cases h) rfl⟩ ho
 exact (hp x q h).1
end Ps
namespace Ps
open j6 Pt Tr Sp Lx
def toks (s:ByteArray):List Tok:=scanF (s.size + 1) s 0
theorem CP {s:ByteArray} {o:Tok}:∀ (n i:Nat),i≤s.size→s.size - i < n→o ∈ scanF n s i→mG o = false→cO s o.j ∈ scanF n s i
 | 0,_,_,h,_,_=>by omega
 | n + 1,i,hi,hn,hm,hs=>by
  rw [scanF] at hm ⊢
  rcases List.mem_cons.1 hm with rfl | hm
  ·have hg:=(pu s i hi).2.2.2.2 hs;rw [hs];obtain ⟨n,rfl⟩:∃ m,n = m + 1:=⟨n - 1,by omega⟩;refine List.mem_cons_of_mem _ ?_;rw [if_neg (by decide),scanF];exact List.mem_cons_self
  ·cases aM:mG (cO s i)
   ·rw [aM,if_neg (by decide)] at hm;have hg:=(pu s i hi).2.2.2.2 aM;refine List.mem_cons_of_mem _ ?_;rw [if_neg (by decide)];exact CP n _ hg.2.2 (by omega) hm hs
   ·rw [aM,if_pos rfl] at hm;cases hm
structure bW (s:ByteArray) (o:Tok):Prop where
 ok:dz s o
 tk:o ∈ toks s
 n5:o.k ≠ 5
def E {T:Type} (s:ByteArray) (r:Rs T):Prop:=(∀ i e,r = .bad i e→e ≠ 0∧∃ t ∈ toks s,t.i = i)∧∀ a q,r = .ok a q→bW s q
section
variable {T U:Type} {s:ByteArray} {o:Tok} {r:Rs T} {f:T→Tok→Rs U}
theorem E.bad {e:Nat} (ho:bW s o) (he:e ≠ 0):E s (.bad o.i e:Rs T):=⟨fun i e' h=>by injection h with h1 h2;subst h1;subst h2;exact ⟨he,o,ho.tk,rfl⟩,fun _ _ h=>by cases h⟩
theorem E.ok {a:T} (ho:bW s o):E s (.ok a o):=⟨(fun _ _ h=>by cases h),fun b q h=>by injection h with h1 h2;subst h2;exact ho⟩
theorem E.bind (h:E s r) (hf:∀ a q,r = .ok a q→bW s q→E s (f a q)):E s (r.bind f):=by
 cases r with
 | bad i e=>exact ⟨fun j g hj=>by have:Rs.bad i e = (Rs.bad j g:Rs U):=hj;injection this with h1 h2;subst h1;subst h2;exact h.1 i e rfl,fun _ _ h=>by cases h⟩
 | ok a q=>exact hf a q rfl (h.2 a q rfl)
end
theorem Ho {s:ByteArray} {j:Nat} (hj:j≤s.size) (hm:cO s j ∈ toks s):E s (if (cO s j).k = 5 then .bad (cO s j).i (cO s j).err else .ok () (cO s j)):=by
 split
 ·rename_i h5;exact ⟨fun i e h=>by injection h with h1 h2;subst h1;subst h2;exact ⟨(pu s j hj).2.2.2.1.1 h5,_,hm,rfl⟩,fun _ _ h=>by cases h⟩
 ·rename_i h5;exact E.ok ⟨D7 s j hj,hm,h5⟩
theorem uT {s:ByteArray} {o:Tok} (ho:bW s o) (hk:o.k ≠ 4):E s (dL s o):=by
 have aM:mG o = false:=by
  have:=ho.n5;simp [mG,hk,this]
 exact Ho ho.ok.j (CP _ 0 (zVy _) (by omega) ho.tk aM)
theorem TU (s:ByteArray):E s (dL s o0):=Ho (zVy _) (by
 show cO s 0 ∈ scanF (s.size + 1) s 0;rw [scanF]
 exact List.mem_cons_self)
theorem oU {s:ByteArray} {o:Tok} {l:List ByteArray} (ho:bW s o) (hl:l.all (fun x=>x.size != 0) = true):E s (bO s l o):=by
 unfold bO;split
 ·rename_i h;exact (uT ho (j5 ho.ok hl h)).bind fun _ q _ hq=>E.ok hq
 ·exact E.ok ho
theorem om {s:ByteArray} {o:Tok} {l:List ByteArray} (ho:bW s o) (hl:l.all (fun x=>x.size != 0) = true):E s (aZ s l o):=by
 unfold aZ;refine (oU ho hl).bind fun b q _ hq=>?_;split
 ·exact E.ok hq
 ·exact E.bad hq (by decide)
theorem Ls {s:ByteArray}:∀ n o,bW s o→mu s o < n→E s (linesN s n o)
 | 0,_,_,h=>by omega
 | n + 1,o,ho,hm=>by
  rw [linesN];refine (oU ho (by decide)).bind fun b q h hq=>?_;split
  ·rename_i hb;subst hb;exact Ls n q hq (by have:=(qE ho.ok (by decide) h).1;omega)
  ·exact E.ok hq
theorem Eg {s:ByteArray} {o:Tok} (ho:bW s o):E s (gV s o):=by
 unfold gV;split
 ·exact (uT ho (by omega)).bind fun _ q _ hq=>E.ok hq
 ·exact E.bad ho (by decide)
theorem Eh {s:ByteArray}:∀ n l o,bW s o→mu s o < n→E s (wordsN s n l o)
 | 0,_,_,_,h=>by omega
 | n + 1,l,o,ho,hm=>by
  rw [wordsN];split
  ·exact (Eg ho).bind fun x q h hq=>Eh n _ q hq (by have:=(tN ho.ok h).1;omega)
  ·exact E.ok ho
theorem CQ {s:ByteArray}:∀ n l o,bW s o→mu s o < n→E s (assignsN s n l o)
 | 0,_,_,_,h=>by omega
 | n + 1,l,o,ho,hm=>by
  rw [assignsN];split
  ·rename_i hk;split
   ·exact (uT ho (by omega)).bind fun x q h hq=>CQ n _ q hq (by have:=(nH ho.ok (by omega) h).1;omega)
   ·exact E.ok ho
  ·exact E.ok ho
theorem WB {s:ByteArray} {o:Tok} (ho:bW s o):E s (mI s o):=by
 unfold mI;split
 ·rename_i h;have hk:o.k ≠ 4:=by
   unfold iT at h;simp only [ud,beq_iff_eq] at h;omega
  exact (uT ho hk).bind fun _ q _ hq=>E.ok hq
 ·exact E.bad ho (by decide)
theorem QS {s:ByteArray}:∀ n l o,bW s o→mu s o < n→E s (mJ s n l o)
 | 0,_,_,_,h=>by omega
 | n + 1,l,o,ho,hm=>by
  rw [mJ];refine (oU ho (by decide)).bind fun b q h hq=>?_;split
  ·rename_i hb;subst hb;have h1:=(qE ho.ok (by decide) h).1;exact (Eg hq).bind fun x q2 h2 lH=>QS n _ q2 lH (by have:=(tN hq.ok h2).1;omega)
  ·exact E.ok hq
theorem iy {s:ByteArray} {o:Tok} (ho:bW s o):E s (aD s o):=Ls _ o ho (tX s o)
theorem TV {s:ByteArray} {o:Tok} (ho:bW s o):E s (lQ s o):=by
 unfold lQ;refine (oU ho (by decide)).bind fun b q _ hq=>(iy hq).bind fun _ q _ hq=>?_;split
 ·exact E.ok hq
 ·refine (oU hq (by decide)).bind fun g q _ hq=>?_;split
  ·exact (Eh _ _ q hq (tX s q)).bind fun ws q _ hq=>(om hq (by decide)).bind fun _ q _ hq=>(iy hq).bind fun _ q _ hq=>E.ok hq
  ·exact E.ok hq
theorem Hq {s:ByteArray} {c:CD} {o:Tok} (ho:bW s o):E s (je s c o):=by
 unfold je;split
 ·exact E.ok ho
 ·exact (om ho (by decide)).bind fun _ q _ hq=>(iy hq).bind fun _ q _ hq=>E.ok hq
structure Es (s:ByteArray) (n:Nat):Prop where
 list:∀ d ks bs o,bW s o→10 * mu s o + 6 < n→E s (listF s d n ks bs o)
 item:∀ d o,bW s o→10 * mu s o + 5 < n→E s (gW s d n o)
 mP:∀ d x o,bW s o→10 * mu s o < n→E s (itemL s d n x o)
 unit:∀ d o,bW s o→10 * mu s o + 4 < n→E s (fJ s d n o)
 command:∀ d o,bW s o→10 * mu s o + 3 < n→E s (aU s d n o)
 simple:∀ d o,bW s o→10 * mu s o + 2 < n→gF o = true→E s (dO s d n o)
 eP:∀ d o,bW s o→10 * mu s o + 1 < n→E s (aF s d n o)
 opened:∀ d t o,bW s o→10 * mu s o + 8 < n→E s (openedF s d n t o)
 loop:∀ d k o,bW s o→10 * mu s o + 7 < n→E s (loopF s d n k o)
 behind:∀ d t o,t.size ≠ 0→bW s o→10 * mu s o + 1 < n→E s (aS s d n t o)
 branch:∀ d o,bW s o→10 * mu s o + 7 < n→E s (bZ s d n o)
 each:∀ d o,bW s o→10 * mu s o + 1 < n→E s (iW s d n o)
 choice:∀ d o,bW s o→10 * mu s o + 1 < n→E s (dU s d n o)
 iN:∀ d x cs o,bW s o→10 * mu s o + 2 < n→E s (choiceL s d n x cs o)
 entry:∀ d o,bW s o→10 * mu s o + 1 < n→E s (eD s d n o)
theorem jQ {s:ByteArray} {o q:Tok} {u:Unit} (ho:dz s o) (h:aD s o = .ok u q):mu s q≤mu s o:=(aO s _ o ho u q h).1
theorem yS {s:ByteArray} {o q:Tok} {u:Unit} {l:List ByteArray} (ho:dz s o) (hl:l.all (fun x=>x.size != 0) = true) (h:aZ s l o = .ok u q):mu s q < mu s o:=(bJ ho hl u q h).1
theorem Ei {s:ByteArray} {o q:Tok} {b:Bool} {l:List ByteArray} (ho:dz s o) (hl:l.all (fun x=>x.size != 0) = true) (h:bO s l o = .ok b q):mu s q≤mu s o:=(eY ho hl b q h).1
theorem QT (s:ByteArray):∀ n,Es s n
 | 0=>by constructor <;> intros <;> omega
 | n + 1=>by
  have ih:=QT s n;have dn:=aX s n;constructor
  ·intro d ks bs o ho hn;rw [listF];refine (ih.item d o ho (by omega)).bind fun x q h1 hq=>(oU hq (by decide)).bind fun b p h2 hp=>?_;have e1:=(dn.item d o ho.ok x q h1).1;split
   ·rename_i hb;subst hb;have e2:=(qE hq.ok (by decide) h2).1;refine (iy hp).bind fun _ q2 h3 lH=>?_;have e3:=jQ hp.ok h3;split
    ·exact ih.list d _ _ q2 lH (by omega)
    ·exact E.ok lH
   ·exact E.ok hp
  ·intro d o ho hn;rw [gW];exact (ih.unit d o ho (by omega)).bind fun x q h hq=>ih.mP d x q hq (by have:=(dn.unit d o ho.ok x q h).1;omega)
  ·intro d x o ho hn;rw [itemL];split
   ·rename_i h;refine (uT ho (j5 ho.ok (by decide) h)).bind fun _ q h1 hq=>(iy hq).bind fun _ q2 h2 lH=>?_;have e1:=(nH ho.ok (j5 ho.ok (by decide) h) h1).1;have e2:=jQ hq.ok h2;exact (ih.unit d q2 lH (by omega)).bind fun y q3 h3 AA=>ih.mP d _ q3 AA (by have:=(dn.unit d q2 lH.ok y q3 h3).1;omega)
   ·exact E.ok ho
  ·intro d o ho hn;rw [fJ];refine (oU ho (by decide)).bind fun b q h hq=>?_;have e1:=Ei ho.ok (by decide) h;split
   ·exact (ih.command d q hq (by omega)).bind fun x q _ hq=>E.ok hq
   ·exact ih.command d q hq (by omega)
  ·intro d o ho hn;rw [aU];split
   ·rename_i h;exact ih.simple d o ho (by omega) h
   ·exact ih.eP d o ho (by omega)
  ·intro d o ho hn hs;rw [dO];refine (CQ _ _ o ho (tX s o)).bind fun az p h1 hp=>(Eh _ _ p hp (tX s p)).bind fun ws p2 h2 lF=>?_;have e1:=(nI s _ _ o ho.ok az p h1).1;have e2:=(mg s _ _ p hp.ok ws p2 h2).1;split
   ·refine (oU lF (by decide)).bind fun b q h3 hq=>?_;split
    ·rename_i hb;subst hb;have e3:=(qE lF.ok (by decide) h3).1;refine (om hq (by decide)).bind fun _ q2 h4 lH=>(iy lH).bind fun _ q3 h5 AA=>?_;have e4:=yS hq.ok (by decide) h4;have e5:=jQ lH.ok h5;exact (ih.eP d q3 AA (by omega)).bind fun x q _ hq=>E.ok hq
    ·exact E.ok hq
   ·exact E.ok lF
  ·intro d o ho hn;rw [aF];split
   ·rename_i h;split
    ·exact E.bad ho (by decide)
    ·exact (uT ho (yR ho.ok h)).bind fun _ q h1 hq=>ih.opened _ _ q hq (by have:=(nH ho.ok (yR ho.ok h) h1).1;omega)
   ·exact E.bad ho (by decide)
  ·intro d t o ho hn;rw [openedF];split
   ·exact (iy ho).bind fun _ q h1 hq=>(ih.list d _ _ q hq (by have:=jQ ho.ok h1;omega)).bind fun x q _ hq=>(om hq (by decide)).bind fun _ q _ hq=>E.ok hq
   ·split
    ·exact (iy ho).bind fun _ q h1 hq=>(ih.list d _ _ q hq (by have:=jQ ho.ok h1;omega)).bind fun x q _ hq=>(om hq (by decide)).bind fun _ q _ hq=>E.ok hq
    ·split
     ·exact (ih.branch d o ho (by omega)).bind fun x q _ hq=>(om hq (by decide)).bind fun _ q _ hq=>E.ok hq
     ·split
      ·exact ih.loop d _ o ho (by omega)
      ·split
       ·exact ih.loop d _ o ho (by omega)
       ·split
        ·exact ih.each d o ho (by omega)
        ·exact ih.choice d o ho (by omega)
  ·intro d k o ho hn;rw [loopF];refine (iy ho).bind fun _ q h1 hq=>?_;have e1:=jQ ho.ok h1;refine (ih.list d _ _ q hq (by omega)).bind fun x q2 h2 lH=>?_;have e2:=(dn.list d _ _ q hq.ok x q2 h2).1;exact (ih.behind d _ q2 (by decide) lH (by omega)).bind fun y q _ hq=>(om hq (by decide)).bind fun _ q _ hq=>E.ok hq
  ·intro d t o ht ho hn;rw [aS];refine (om ho (by simpa using ht)).bind fun _ q h1 hq=>(iy hq).bind fun _ q2 h2 lH=>?_;have e1:=yS ho.ok (by simpa using ht) h1;have e2:=jQ hq.ok h2;exact ih.list d _ _ q2 lH (by omega)
  ·intro d o ho hn;rw [bZ];refine (iy ho).bind fun _ q h1 hq=>?_;have e1:=jQ ho.ok h1;refine (ih.list d _ _ q hq (by omega)).bind fun x q2 h2 lH=>?_;have e2:=(dn.list d _ _ q hq.ok x q2 h2).1;refine (ih.behind d _ q2 (by decide) lH (by omega)).bind fun y q3 h3 AA=>?_;have e3:=(dn.behind d _ q2 (by decide) lH.ok y q3 h3).1;split
   ·exact (ih.behind d _ q3 (by decide) AA (by omega)).bind fun z q _ hq=>E.ok hq
   ·split
    ·rename_i h;split
     ·exact E.bad AA (by decide)
     ·exact (uT AA (j5 AA.ok (by decide) h)).bind fun _ q h4 hq=>(ih.branch _ q hq (by have:=(nH AA.ok (j5 AA.ok (by decide) h) h4).1;omega)).bind fun z q _ hq=>E.ok hq
    ·exact E.ok AA
  ·intro d o ho hn;rw [iW];refine (WB ho).bind fun nm q h1 hq=>(TV hq).bind fun gw q2 h2 lH=>?_;have e1:=(xy ho.ok nm q h1).1;have e2:=(Ao hq.ok gw q2 h2).1;exact (ih.behind d _ q2 (by decide) lH (by omega)).bind fun y q _ hq=>(om hq (by decide)).bind fun _ q _ hq=>E.ok hq
  ·intro d o ho hn;rw [dU];refine (Eg ho).bind fun x q h1 hq=>(iy hq).bind fun _ q2 h2 lH=>(om lH (by decide)).bind fun _ q3 h3 AA=>(iy AA).bind fun _ q4 h4 RD=>?_;have e1:=(tN ho.ok h1).1;have e2:=jQ hq.ok h2;have e3:=yS lH.ok (by decide) h3;have e4:=jQ AA.ok h4;exact ih.iN d x _ q4 RD (by omega)
  ·intro d x cs o ho hn;rw [choiceL];refine (oU ho (by decide)).bind fun b q h1 hq=>?_;have e1:=Ei ho.ok (by decide) h1;split
   ·exact E.ok hq
   ·exact (ih.entry d q hq (by omega)).bind fun c q2 h2 lH=>ih.iN d x _ q2 lH (by have:=(dn.entry d q hq.ok c q2 h2).1;omega)
  ·intro d o ho hn;rw [eD];refine (oU ho (by decide)).bind fun _ q h1 hq=>(Eg hq).bind fun x q2 h2 lH=>(QS _ _ q2 lH (tX s q2)).bind fun ps q3 h3 AA=>(om AA (by decide)).bind fun _ q4 h4 RD=>(iy RD).bind fun _ q5 h5 U5=>?_;have e1:=Ei ho.ok (by decide) h1;have e2:=(tN hq.ok h2).1;have e3:=(xz s _ _ q2 lH.ok ps q3 h3).1;have e4:=yS AA.ok (by decide) h4;have e5:=jQ RD.ok h5;split
   ·exact (ih.list d _ _ q5 U5 (by omega)).bind fun y q _ hq=>Hq hq
   ·exact Hq U5
theorem Lt (s:ByteArray):E s (gX s):=by
 unfold gX;refine (TU s).bind fun _ o _ ho=>?_;unfold jP;refine (iy ho).bind fun _ p _ hp=>?_;have uE:∀ (x:ND) (o:Tok),bW s o→E s (qQ x o):=fun x o ho=>by
  unfold qQ;split
  ·exact E.ok ho
  ·exact E.bad ho (by decide)
 split
 ·exact ((QT s (qJ s)).list 0 _ _ p hp (by have:=tX s p;unfold F at this;unfold qJ;omega)).bind fun x o _ ho=>uE x o ho
 ·exact uE _ p hp
end Ps
namespace Ps
open j6 Pt Tr Sp Lx
def NF (x:ND):Prop:=(∀ l ∈ x.ws,ui l)∧fB x.ks∧fB x.cz
theorem Ej:∀ {l:List ND},(∀ x ∈ l,NF x)→fB (toN l)
 | [],_=>trivial
 | x :: r,h=>⟨(h x (by simp)).1,(h x (by simp)).2.1,(h x (by simp)).2.2,Ej fun y hy=>h y (by simp [hy])⟩
theorem Lu:∀ {l:List CD},(∀ c ∈ l,∀ x ∈ c.2,NF x)→fB (toC l)
 | [],_=>trivial
 | c :: r,h=>⟨Ej (h c (by simp)),Lu fun y hy=>h y (by simp [hy])⟩
theorem NF.kids {k:Int} {nm:ByteArray} {g:Bool} {az:List (ByteArray × PL)} {ws:List PL} {ks:List ND} {bs:List Bool} (hw:∀ l ∈ ws,ui l) (h:∀ x ∈ ks,NF x):NF ⟨k,nm,g,az,ws,toN ks,bs,.nil⟩:=⟨hw,Ej h,trivial⟩
theorem eF {T:Type} {P:T→Prop}:∀ x ∈ ([]:List T),P x:=fun _ h=>by cases h
theorem El {T:Type} {P:T→Prop} {l:List T} {x:T} (h:∀ y ∈ l,P y) (hx:P x):∀ y ∈ l ++ [x],P y:=fun y hy=>by
 rcases List.mem_append.1 hy with hy | hy
 ·exact h y hy
 ·simp only [List.mem_singleton] at hy;subst hy;exact hx
theorem TW {s:ByteArray} {o:Tok} (hs:s.size≤400000) (ho:dz s o):ui o.l:=by
 have hf:=ho.f;refine ⟨by have:=tF o.l;omega,fun k q t o' f r h=>?_⟩;have:=D8 h;omega
section
variable {s:ByteArray} (hs:s.size≤400000)
include hs
theorem Hr {o:Tok} (ho:Good s o):bD s (fun x _=>ui x) (gV s o):=(pX ho).imp fun x _ h=>by rw [h.2];exact TW hs ho.ok
theorem xG:∀ (n:Nat) (l:List PL) (o:Tok),Good s o→(∀ x ∈ l,ui x)→bD s (fun ws _=>∀ x ∈ ws,ui x) (wordsN s n l o)
 | 0,_,_,_,_=>bD.bad
 | n + 1,l,o,ho,hl=>by
  rw [wordsN];split
  ·exact (Hr hs ho).bind fun x q hx hq=>xG n _ q hq (El hl hx)
  ·exact bD.ok hl ho
theorem Ny {o:Tok} (ho:Good s o):bD s (fun x _=>∀ y ∈ x.2,ui y) (lQ s o):=by
 unfold lQ;refine (bR _ ho).bind fun b q _ hq=>(bn _ q hq).bind fun _ q _ hq=>?_;split
 ·exact bD.ok eF hq
 ·refine (bR _ hq).bind fun g q _ hq=>?_;split
  ·exact (xG hs _ _ q hq eF).bind fun ws q hws hq=>(bK _ hq).bind fun _ q _ hq=>(bn _ q hq).bind fun _ q _ hq=>bD.ok hws hq
  ·exact bD.ok eF hq
end
theorem AB {s:ByteArray} {c:CD} {o:Tok} (hc:∀ x ∈ c.2,NF x) (ho:Good s o):bD s (fun c _=>∀ x ∈ c.2,NF x) (je s c o):=by
 unfold je;split
 ·exact bD.ok hc ho
 ·exact (bK _ ho).bind fun _ q _ hq=>(bn _ q hq).bind fun _ q _ hq=>bD.ok hc hq
abbrev Iw:ND→Tok→Prop:=fun x _=>NF x
structure Fits (s:ByteArray) (n:Nat):Prop where
 list:∀ d ks bs o,Good s o→(∀ x ∈ ks,NF x)→bD s Iw (listF s d n ks bs o)
 item:∀ d o,Good s o→bD s Iw (gW s d n o)
 mP:∀ d x o,Good s o→NF x→bD s Iw (itemL s d n x o)
 unit:∀ d o,Good s o→bD s Iw (fJ s d n o)
 command:∀ d o,Good s o→bD s Iw (aU s d n o)
 simple:∀ d o,Good s o→bD s Iw (dO s d n o)
 eP:∀ d o,Good s o→bD s Iw (aF s d n o)
 opened:∀ d t o,Good s o→bD s Iw (openedF s d n t o)
 loop:∀ d k o,Good s o→bD s Iw (loopF s d n k o)
 behind:∀ d t o,Good s o→bD s Iw (aS s d n t o)
 branch:∀ d o,Good s o→bD s Iw (bZ s d n o)
 each:∀ d o,Good s o→bD s Iw (iW s d n o)
 choice:∀ d o,Good s o→bD s Iw (dU s d n o)
 iN:∀ d x cs o,Good s o→ui x→(∀ c ∈ cs,∀ y ∈ c.2,NF y)→bD s Iw (choiceL s d n x cs o)
 entry:∀ d o,Good s o→bD s (fun c _=>∀ x ∈ c.2,NF x) (eD s d n o)
theorem Ht (s:ByteArray) (hs:s.size≤400000):∀ n,Fits s n
 | 0=>by
  constructor <;> (intros;intro a q h;simp [listF,gW,itemL,fJ,aU,dO,aF,openedF,loopF,aS,bZ,iW,dU,choiceL,eD] at h)
 | n + 1=>by
  have ih:=Ht s hs n;constructor
  ·intro d ks bs o ho hks;rw [listF];refine (ih.item d o ho).bind fun x q hx hq=>(bR _ hq).bind fun b p _ hp=>?_;have h2:=El hks hx;split
   ·refine (bn _ p hp).bind fun _ q2 _ lH=>?_;split
    ·exact ih.list d _ _ q2 lH h2
    ·exact bD.ok (NF.kids eF h2) lH
   ·exact bD.ok (NF.kids eF h2) hp
  ·intro d o ho;rw [gW];exact (ih.unit d o ho).bind fun x q hx hq=>ih.mP d x q hq hx
  ·intro d x o ho h1;rw [itemL];split
   ·exact (jk ho).bind fun _ q _ hq=>(bn _ q hq).bind fun _ q _ hq=>(ih.unit d q hq).bind fun y q hy hq=>ih.mP d _ q hq (NF.kids eF (mem2 h1 hy))
   ·exact bD.ok h1 ho
  ·intro d o ho;rw [fJ];refine (bR _ ho).bind fun b q _ hq=>?_;split
   ·exact (ih.command d q hq).bind fun x q hx hq=>bD.ok (NF.kids eF (mem1 hx)) hq
   ·exact ih.command d q hq
  ·intro d o ho;rw [aU];split
   ·exact ih.simple d o ho
   ·exact ih.eP d o ho
  ·intro d o ho;rw [dO];refine (sQ _ _ o ho rfl).bind fun az p _ hp=>(xG hs _ _ p hp eF).bind fun ws q hws hq=>?_;have fO:NF ⟨1,⟨#[]⟩,false,az,ws,.nil,[],.nil⟩:=⟨hws,trivial,trivial⟩;split
   ·refine (bR _ hq).bind fun b q2 _ lH=>?_;split
    ·exact (bK _ lH).bind fun _ q3 _ AA=>(bn _ q3 AA).bind fun _ q4 _ RD=>(ih.eP d q4 RD).bind fun x q5 hx U5=>bD.ok (NF.kids eF (mem1 hx)) U5
    ·exact bD.ok fO lH
   ·exact bD.ok fO hq
  ·intro d o ho;rw [aF];split
   ·split
    ·exact bD.bad
    ·exact (jk ho).bind fun _ q _ hq=>ih.opened (d + 1) _ q hq
   ·exact bD.bad
  ·intro d t o ho;rw [openedF];split
   ·exact (bn _ o ho).bind fun _ q _ hq=>(ih.list d _ _ q hq eF).bind fun x q hx hq=>(bK _ hq).bind fun _ q _ hq=>bD.ok (NF.kids eF (mem1 hx)) hq
   ·split
    ·exact (bn _ o ho).bind fun _ q _ hq=>(ih.list d _ _ q hq eF).bind fun x q hx hq=>(bK _ hq).bind fun _ q _ hq=>bD.ok (NF.kids eF (mem1 hx)) hq
    ·split
     ·exact (ih.branch d o ho).bind fun x q hx hq=>(bK _ hq).bind fun _ q _ hq=>bD.ok hx hq
     ·split
      ·exact ih.loop d _ o ho
      ·split
       ·exact ih.loop d _ o ho
       ·split
        ·exact ih.each d o ho
        ·exact ih.choice d o ho
  ·intro d k o ho;rw [loopF];exact (bn _ o ho).bind fun _ q _ hq=>(ih.list d _ _ q hq eF).bind fun x q hx hq=>(ih.behind d _ q hq).bind fun y q hy hq=>(bK _ hq).bind fun _ q _ hq=>bD.ok (NF.kids eF (mem2 hx hy)) hq
  ·intro d t o ho;rw [aS];exact (bK _ ho).bind fun _ q _ hq=>(bn _ q hq).bind fun _ q _ hq=>ih.list d _ _ q hq eF
  ·intro d o ho;rw [bZ];refine (bn _ o ho).bind fun _ q _ hq=>(ih.list d _ _ q hq eF).bind fun x q hx hq=>(ih.behind d _ q hq).bind fun y q hy hq=>?_;split
   ·exact (ih.behind d _ q hq).bind fun z q hz hq=>bD.ok (NF.kids eF (mem3 hx hy hz)) hq
   ·split
    ·split
     ·exact bD.bad
     ·exact (jk hq).bind fun _ q _ hq=>(ih.branch (d + 1) q hq).bind fun z q hz hq=>bD.ok (NF.kids eF (mem3 hx hy (NF.kids eF (mem1 hz)))) hq
    ·exact bD.ok (NF.kids eF (mem2 hx hy)) hq
  ·intro d o ho;rw [iW];exact (Hl ho).bind fun nm q _ hq=>(Ny hs hq).bind fun gw q Zp hq=>(ih.behind d _ q hq).bind fun y q hy hq=>(bK _ hq).bind fun _ q _ hq=>bD.ok (NF.kids Zp (mem1 hy)) hq
  ·intro d o ho;rw [dU];exact (Hr hs ho).bind fun x q hx hq=>(bn _ q hq).bind fun _ q _ hq=>(bK _ hq).bind fun _ q _ hq=>(bn _ q hq).bind fun _ q _ hq=>ih.iN d x [] q hq hx eF
  ·intro d x cs o ho hx hcs;rw [choiceL];refine (bR _ ho).bind fun b q _ hq=>?_;split
   ·exact bD.ok ⟨fun l hl=>by simp only [List.mem_singleton] at hl;subst hl;exact hx,trivial,Lu hcs⟩ hq
   ·exact (ih.entry d q hq).bind fun c q hc hq=>ih.iN d x _ q hq hx (El (P:=fun c:CD=>∀ y ∈ c.2,NF y) hcs hc)
  ·intro d o ho;rw [eD];refine (bR _ ho).bind fun _ q _ hq=>(pX hq).bind fun x q hx hq=>(Ay _ _ q hq (by simp only [List.all_cons,hx.1,List.all_nil,Bool.and_self]) (by simp)).bind fun ps q _ hq=>(bK _ hq).bind fun _ q _ hq=>(bn _ q hq).bind fun _ q _ hq=>?_;split
   ·exact (ih.list d _ _ q hq eF).bind fun y q hy hq=>AB (mem1 hy) hq
   ·exact AB eF hq
theorem Nz {s:ByteArray} (hs:s.size≤400000) {x:ND} {q:Tok} (h:gX s = .ok x q):NF x:=by
 have h0:Good s o0:=⟨⟨zVy _,zVy _,fun h=>by simp [o0] at h,zVy _,zVy _⟩,fun h=>by simp [o0] at h⟩;have uE:∀ (x:ND) (o:Tok),NF x→Good s o→bD s Iw (qQ x o):=fun x o hx ho=>by
  unfold qQ;split
  ·exact bD.ok hx ho
  ·exact bD.bad
 have hp:bD s Iw (gX s):=by
  unfold gX;refine (jk h0).bind fun _ o _ ho=>?_;unfold jP;refine (bn _ o ho).bind fun _ o _ ho=>?_;split
  ·exact ((Ht s hs (qJ s)).list 0 [] [] o ho eF).bind fun x o hx ho=>uE x o hx ho
  ·exact uE _ o (NF.kids eF eF) ho
 exact (hp x q h).1
end Ps
end Go.Proofs.YtckakkeejekibaaGreatDoor
