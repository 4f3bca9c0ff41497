/- What is written of nodes, as a plain function. Pure. -/
import Derived.Test.YtjmpfihopeohbaaGreatDoorWrD
import Derived.Test.YtjmpfihopeohbaaGreatDoorQsJ
namespace Go.Proofs.YtjmpfihopeohbaaGreatDoor
open Go.RowKit Go.Sort
namespace Pr
abbrev T:=List UInt8
open Cls Pt Bd Tr Sp Lx Ps
def wordT (l:PL):T:=textL l 0
def asgT (x:ByteArray × PL):T:=x.1.data.toList ++ 61 :: wordT x.2
theorem rightW_L {w:PL} (hw:rightW w = true):rightL none w 0 1 = true:=by
 cases w with
 | nil=>rfl
 | cons k q t o f r=>simp only [rightW,Bool.and_eq_true] at hw;exact hw.2
def behind:T→T→List T→T
 | _,_,[]=>[]
 | a,b,x :: r=>a ++ (x ++ behind b b r)
def at0 (K:List T) (i:Nat):T:=K.getD i []
def itemsT:List T→List Bool→T
 | x :: r,b :: bs=>x ++ ((if b then [32,38,32] else [59,32]) ++ itemsT r bs)
 | _,_=>[]
def simpleT (az:List (ByteArray × PL)) (ws:List PL):T:=behind [] [32] (az.map asgT ++ ws.map wordT)
def caseT (ps:List PL) (B:List T):T:=behind [40] [124] (ps.map wordT) ++ ([41,32] ++ (B.flatten ++ [59,59,32]))
def kIf:T:=[105,102]
def kThen:T:=[116,104,101,110]
def kElse:T:=[101,108,115,101]
def kFi:T:=[102,105]
def kWhile:T:=[119,104,105,108,101]
def kUntil:T:=[117,110,116,105,108]
def kDo:T:=[100,111]
def kDone:T:=[100,111,110,101]
def kFor:T:=[102,111,114]
def kIn:T:=[105,110]
def kCase:T:=[99,97,115,101]
def kEsac:T:=[101,115,97,99]
def cmdT (k:Int) (nm:ByteArray) (g:Bool) (az:List (ByteArray × PL)) (ws:List PL) (K:List T) (bs:List Bool) (C:List T):T :=
 if k = 1 then simpleT az ws
 else if k = 2 then at0 K 0 ++ ([32] ++ ([38,38] ++ ([32] ++ at0 K 1)))
 else if k = 3 then at0 K 0 ++ ([32] ++ ([124,124] ++ ([32] ++ at0 K 1)))
 else if k = 4 then [33] ++ ([32] ++ at0 K 0)
 else if k = 5 then itemsT K bs
 else if k = 6 then kIf ++ ([32] ++ (at0 K 0 ++ (kThen ++ ([32] ++ (at0 K 1 ++ ((if K.length = 3 then kElse ++ ([32] ++ at0 K 2) else []) ++ kFi))))))
 else if k = 7 then kWhile ++ ([32] ++ (at0 K 0 ++ (kDo ++ ([32] ++ (at0 K 1 ++ kDone)))))
 else if k = 8 then kUntil ++ ([32] ++ (at0 K 0 ++ (kDo ++ ([32] ++ (at0 K 1 ++ kDone)))))
 else if k = 9 then kFor ++ ([32] ++ (nm.data.toList ++ ((if g then [32] ++ (kIn ++ (behind [32] [32] (ws.map wordT) ++ [59])) else []) ++ ([32] ++ (kDo ++ ([32] ++ (at0 K 0 ++ kDone)))))))
 else if k = 10 then kCase ++ ([32] ++ (at0 (ws.map wordT) 0 ++ ([32] ++ (kIn ++ ([32] ++ (C.flatten ++ kEsac))))))
 else if k = 11 then [123] ++ ([32] ++ (at0 K 0 ++ [125]))
 else if k = 12 then [40] ++ (at0 K 0 ++ [41])
 else nm.data.toList ++ ([40] ++ ([41] ++ ([32] ++ at0 K 0)))
def txt:NL→List T
 | .nil=>[]
 | .node k nm g az ws ks bs cs r=>cmdT k nm g az ws (txt ks) bs (txt cs) :: txt r
 | .cse ps b r=>caseT ps (txt b) :: txt r
def tx (x:ND):T:=cmdT x.k x.nm x.g x.az x.ws (txt x.ks) x.bs (txt x.cz)
theorem txt_toN:∀ l:List ND,txt (toN l) = l.map tx
 | []=>rfl
 | x :: r=>by show tx x :: txt (toN r) = _;rw [txt_toN r];rfl
def endT (b:Bool):T:=if b then [32,38,10] else [10]
def lineT:List T→List Bool→T
 | x :: r,b :: bs=>x ++ (endT b ++ lineT r bs)
 | _,_=>[]
theorem line_cons (x:T) (r:List T) (b:Bool) (bs:List Bool):lineT (x :: r) (b :: bs) = x ++ (endT b ++ lineT r bs):=rfl
end Pr
end Go.Proofs.YtjmpfihopeohbaaGreatDoor
namespace Go.Proofs.YtjmpfihopeohbaaGreatDoor
open Go.RowKit Go.Sort
namespace Pr
open Cls Pt Bd Tr Sp Lx Ps
def ofN:NL→List ND
 | .node k nm g az ws ks bs cs r=>⟨k,nm,g,az,ws,ks,bs,cs⟩ :: ofN r
 | _=>[]
def ofC:NL→List CD
 | .cse ps b r=>(ps,ofN b) :: ofC r
 | _=>[]
theorem toN_ofN:∀ {l:NL},NL.okN l true = true→toN (ofN l) = l
 | .nil,_=>rfl
 | .node k nm g az ws ks bs cs r,h=>by
  simp only [NL.okN,Bool.and_eq_true] at h;show NL.node k nm g az ws ks bs cs (toN (ofN r)) = _;rw [toN_ofN h.2]
 | .cse _ _ _,h=>by simp [NL.okN] at h
theorem toC_ofC:∀ {l:NL},NL.okN l false = true→toC (ofC l) = l
 | .nil,_=>rfl
 | .cse ps b r,h=>by
  simp only [NL.okN,Bool.and_eq_true] at h;show NL.cse ps (toN (ofN b)) (toC (ofC r)) = _;rw [toN_ofN h.1.2,toC_ofC h.2]
 | .node _ _ _ _ _ _ _ _ _,h=>by simp [NL.okN] at h
def sz (x:ND):Nat:=x.ks.size + x.cz.size
structure W (x:ND) (D:Nat):Prop where
 r:nodeR x.k x.nm x.g x.az x.ws x.ks x.bs x.cz D = true
 ks:NL.okN x.ks true = true
 cz:NL.okN x.cz false = true
theorem ofN_len:∀ {l:NL},NL.okN l true = true→(ofN l).length = l.len
 | .nil,_=>rfl
 | .node _ _ _ _ _ _ _ _ r,h=>by
  simp only [NL.okN,Bool.and_eq_true] at h;show (ofN r).length + 1 = r.len + 1;rw [ofN_len h.2]
 | .cse _ _ _,h=>by simp [NL.okN] at h
theorem ofN_mem {D:Nat}:∀ {l:NL},NL.okN l true = true→rt l D = true→∀ x ∈ ofN l,W x D∧sz x < l.size
 | .nil,_,_,_,hx=>by cases hx
 | .node k nm g az ws ks bs cs r,h,hr,x,hx=>by
  simp only [NL.okN,Bool.and_eq_true] at h;rw [rt_node,Bool.and_eq_true] at hr;rcases List.mem_cons.1 hx with rfl | hx
  ·exact ⟨⟨hr.1,h.1.1.2,h.1.2⟩,by simp only [sz,NL.size];omega⟩
  ·obtain ⟨h1,h2⟩:=ofN_mem h.2 hr.2 x hx;exact ⟨h1,by simp only [NL.size];omega⟩
 | .cse _ _ _,h,_,_,_=>by simp [NL.okN] at h
theorem ofN_all {S:Int→Nat→Bool}:∀ {l:NL},allS S l = true→∀ x ∈ ofN l,S x.k x.ks.len = true
 | .nil,_,_,hx=>by cases hx
 | .node k nm g az ws ks bs cs r,h,x,hx=>by
  simp only [allS,Bool.and_eq_true] at h;rcases List.mem_cons.1 hx with rfl | hx
  ·exact h.1
  ·exact ofN_all h.2 x hx
 | .cse _ _ _,h,_,_=>by simp [allS] at h
structure Body (y:ND) (D m:Nat):Prop where
 k:y.k = 5
 ne:0 < y.ks.len
 w:W y D
 lt:sz y < m
theorem bodies_of {l:NL} {D:Nat} (h:NL.okN l true = true) (ha:allS bodyB l = true) (hr:rt l D = true):∀ x ∈ ofN l,Body x D l.size:=fun x hx=>by
 have h1:=ofN_all ha x hx;simp only [bodyB,Bool.and_eq_true,beq_iff_eq,decide_eq_true_eq] at h1;exact ⟨h1.1,h1.2,(ofN_mem h hr x hx).1,(ofN_mem h hr x hx).2⟩
theorem eqL_nil {U:Type} {p:U→U→Bool} {l:List U} (h:eqL p l [] = true):l = []:=by
 cases l with
 | nil=>rfl
 | cons x r=>simp [eqL] at h
theorem sameN_nil {l:NL} (h:sameN l .nil = true):l = .nil:=by
 cases l with
 | nil=>rfl
 | node=>simp [sameN] at h
 | cse=>simp [sameN] at h
theorem name_nil {nm:ByteArray} (h:(nm.toList == (⟨#[]⟩:ByteArray).toList) = true):nm = ⟨#[]⟩:=Cls.bytes_inj (beq_iff_eq.1 h)
theorem zero_of {k:Int} {nm:ByteArray} {g:Bool} {az:List (ByteArray × PL)} {ws:List PL} {ks:NL} {bs:List Bool} {cz:NL} (h:nodeEq k nm g az ws ks bs cz k ⟨#[]⟩ false [] [] .nil [] .nil = true) :
  nm = ⟨#[]⟩∧g = false∧az = []∧ws = []∧ks = .nil∧bs = []∧cz = .nil:=by
 unfold nodeEq at h;simp only [Bool.and_eq_true] at h;obtain ⟨⟨⟨⟨⟨⟨⟨_,h1⟩,h2⟩,h3⟩,h4⟩,h5⟩,h6⟩,h7⟩:=h;exact ⟨name_nil h1,by simpa using h2,eqL_nil h3,eqL_nil h4,sameN_nil h5,eqL_nil h6,sameN_nil h7⟩
theorem parts_of {x:ND} {D:Nat} (h:W x D):deepB x.k D = false∧ownB x.k x.nm x.g x.az x.ws x.ks x.bs x.cz = true∧kindB x.k x.nm x.g x.az x.ws x.ks x.bs (rt x.ks (withinD x.k D)) (rt x.cz (withinD x.k D)) = true:=by
 have:=h.r;unfold nodeR at this;simp only [Bool.and_eq_true,Bool.not_eq_true'] at this;exact ⟨this.1.1,this.1.2,this.2⟩
theorem two_of {l:NL} (h:NL.okN l true = true) (hl:l.len = 2):∃ a b,l = toN [a,b]∧ofN l = [a,b]:=by
 have h1:=ofN_len h;have h2:=toN_ofN h;rw [hl] at h1
 match hq:ofN l,h1 with
 | [a,b],_=>exact ⟨a,b,by rw [← h2,hq],rfl⟩
theorem one_of {l:NL} (h:NL.okN l true = true) (hl:l.len = 1):∃ a,l = toN [a]∧ofN l = [a]:=by
 have h1:=ofN_len h;have h2:=toN_ofN h;rw [hl] at h1
 match hq:ofN l,h1 with
 | [a],_=>exact ⟨a,by rw [← h2,hq],rfl⟩
theorem inv_1 {x:ND} {D:Nat} (h:W x D) (hk:x.k = 1):x = ⟨1,⟨#[]⟩,false,x.az,x.ws,.nil,[],.nil⟩∧simpleB x.az x.ws = true:=by
 obtain ⟨_,h2,h3⟩:=parts_of h;obtain ⟨k,nm,g,az,ws,ks,bs,cz⟩:=x;subst hk;obtain ⟨rfl,rfl,_,_,rfl,rfl,rfl⟩:=zero_of (k:=1) (az:=[]) (ws:=[]) (show nodeEq 1 nm g [] [] ks bs cz 1 ⟨#[]⟩ false [] [] .nil [] .nil = true from h2);exact ⟨rfl,h3⟩
def pairB (ks:NL):Bool:=match ks with
 | .node k0 _ _ _ _ _ _ _ (.node k1 _ _ _ _ _ _ _ _)=>itemB k0 && unitB k1
 | _=>false
theorem inv_23 {x:ND} {D:Nat} (h:W x D) (hk:x.k = 2∨x.k = 3):∃ a b,x = nd x.k [a,b]∧itemB a.k = true∧unitB b.k = true∧W a D∧W b D∧sz a < sz x∧sz b < sz x:=by
 obtain ⟨_,h2,h3⟩:=parts_of h;have ho:=h.ks;obtain ⟨k,nm,g,az,ws,ks,bs,cz⟩:=x;have hk:k = 2∨k = 3:=hk;have h2':nodeEq k nm g az ws .nil bs cz k ⟨#[]⟩ false [] [] .nil [] .nil = true:=by rcases hk with rfl | rfl <;> exact h2
 have h3':(decide (ks.len = 2) && pairB ks && rt ks D) = true:=by rcases hk with rfl | rfl <;> exact h3
 obtain ⟨rfl,rfl,rfl,rfl,_,rfl,rfl⟩:=zero_of h2';simp only [Bool.and_eq_true,decide_eq_true_eq] at h3';obtain ⟨⟨hl,hm⟩,hr⟩:=h3';obtain ⟨a,b,rfl,hq⟩:=two_of ho hl;have hm':(itemB a.k && unitB b.k) = true:=hm;simp only [Bool.and_eq_true] at hm';have ha:=ofN_mem ho hr a (by rw [hq];simp);have hb:=ofN_mem ho hr b (by rw [hq];simp);exact ⟨a,b,rfl,hm'.1,hm'.2,ha.1,hb.1,Nat.lt_of_lt_of_le ha.2 (Nat.le_add_right _ _),Nat.lt_of_lt_of_le hb.2 (Nat.le_add_right _ _)⟩
theorem inv_4 {x:ND} {D:Nat} (h:W x D) (hk:x.k = 4):∃ a,x = nd 4 [a]∧commandB a.k = true∧W a D∧sz a < sz x:=by
 obtain ⟨_,h2,h3⟩:=parts_of h;have ho:=h.ks;obtain ⟨k,nm,g,az,ws,ks,bs,cz⟩:=x;subst hk;obtain ⟨rfl,rfl,rfl,rfl,_,rfl,rfl⟩:=zero_of (k:=4) (ks:=.nil) (show nodeEq 4 nm g az ws .nil bs cz 4 ⟨#[]⟩ false [] [] .nil [] .nil = true from h2);have h3':(decide (ks.len = 1) && (allS commandS ks && rt ks D)) = true:=h3;simp only [Bool.and_eq_true,decide_eq_true_eq] at h3';obtain ⟨hl,hm,hr⟩:=h3';obtain ⟨a,rfl,hq⟩:=one_of ho hl;have ha:=ofN_mem ho hr a (by rw [hq];simp);exact ⟨a,rfl,ofN_all hm a (by rw [hq];simp),ha.1,Nat.lt_of_lt_of_le ha.2 (Nat.le_add_right _ _)⟩
theorem inv_5 {x:ND} {D:Nat} (h:W x D) (hk:x.k = 5):∃ l,x = listD l x.bs∧l.length = x.bs.length∧l.length = x.ks.len∧∀ y ∈ l,itemB y.k = true∧W y D∧sz y < sz x:=by
 obtain ⟨_,h2,h3⟩:=parts_of h;have ho:=h.ks;obtain ⟨k,nm,g,az,ws,ks,bs,cz⟩:=x;subst hk;obtain ⟨rfl,rfl,rfl,rfl,_,_,rfl⟩:=zero_of (k:=5) (ks:=.nil) (bs:=[]) (show nodeEq 5 nm g az ws .nil [] cz 5 ⟨#[]⟩ false [] [] .nil [] .nil = true from h2);have h3':(decide (ks.len = bs.length) && (allS itemS ks && rt ks D)) = true:=h3;simp only [Bool.and_eq_true,decide_eq_true_eq] at h3';obtain ⟨hl,hm,hr⟩:=h3';have hlen:=ofN_len ho;refine ⟨ofN ks,?_,by rw [hlen,hl],hlen,fun y hy=>⟨ofN_all hm y hy,(ofN_mem ho hr y hy).1,Nat.lt_of_lt_of_le (ofN_mem ho hr y hy).2 (Nat.le_add_right _ _)⟩⟩;show _ = listD (ofN ks) bs;unfold listD;rw [toN_ofN ho]
theorem deep_le {k:Int} {D:Nat} (hk:countsB k = true) (h:deepB k D = false):D≤200:=by
 unfold deepB at h;rw [hk] at h;simp at h;exact h
theorem inv_ks {x:ND} {D:Nat} (h:W x D) (hk:x.k = 6∨x.k = 7∨x.k = 8∨x.k = 11∨x.k = 12):∃ l,x = nd x.k l∧D≤200∧(∀ y ∈ l,Body y (D + 1) (sz x))∧(x.k = 6→l.length = 2∨l.length = 3)∧(x.k = 7∨x.k = 8→l.length = 2)∧(x.k = 11∨x.k = 12→l.length = 1):=by
 obtain ⟨h1,h2,h3⟩:=parts_of h;have ho:=h.ks;obtain ⟨k,nm,g,az,ws,ks,bs,cz⟩:=x;have hk:k = 6∨k = 7∨k = 8∨k = 11∨k = 12:=hk;have h2':nodeEq k nm g az ws .nil bs cz k ⟨#[]⟩ false [] [] .nil [] .nil = true:=by rcases hk with rfl | rfl | rfl | rfl | rfl <;> exact h2
 obtain ⟨rfl,rfl,rfl,rfl,_,rfl,rfl⟩:=zero_of h2';have h3':((allS bodyB ks && rt ks (D + 1)) = true)∧(k = 6→ks.len = 2∨ks.len = 3)∧(k = 7∨k = 8→ks.len = 2)∧(k = 11∨k = 12→ks.len = 1):=by
  rcases hk with rfl | rfl | rfl | rfl | rfl
  ·have h3:((decide (ks.len = 2) || decide (ks.len = 3)) && (allS bodyB ks && rt ks (D + 1))) = true:=h3;simp only [Bool.and_eq_true,Bool.or_eq_true,decide_eq_true_eq] at h3;exact ⟨by simp [h3.2.1,h3.2.2],fun _=>h3.1,fun h=>by omega,fun h=>by omega⟩
  ·have h3:(decide (ks.len = 2) && (allS bodyB ks && rt ks (D + 1))) = true:=h3;simp only [Bool.and_eq_true,decide_eq_true_eq] at h3;exact ⟨by simp [h3.2.1,h3.2.2],fun h=>by omega,fun _=>h3.1,fun h=>by omega⟩
  ·have h3:(decide (ks.len = 2) && (allS bodyB ks && rt ks (D + 1))) = true:=h3;simp only [Bool.and_eq_true,decide_eq_true_eq] at h3;exact ⟨by simp [h3.2.1,h3.2.2],fun h=>by omega,fun _=>h3.1,fun h=>by omega⟩
  ·have h3:(decide (ks.len = 1) && (allS bodyB ks && rt ks (D + 1))) = true:=h3;simp only [Bool.and_eq_true,decide_eq_true_eq] at h3;exact ⟨by simp [h3.2.1,h3.2.2],fun h=>by omega,fun h=>by omega,fun _=>h3.1⟩
  ·have h3:(decide (ks.len = 1) && (allS bodyB ks && rt ks (D + 1))) = true:=h3;simp only [Bool.and_eq_true,decide_eq_true_eq] at h3;exact ⟨by simp [h3.2.1,h3.2.2],fun h=>by omega,fun h=>by omega,fun _=>h3.1⟩
 have hD:D≤200:=deep_le (by rcases hk with rfl | rfl | rfl | rfl | rfl <;> rfl) h1;obtain ⟨h4,h5,h6,h7⟩:=h3';simp only [Bool.and_eq_true] at h4;have hlen:=ofN_len ho;refine ⟨ofN ks,?_,hD,fun y hy=>?_,fun e=>by rw [hlen];exact h5 e,fun e=>by rw [hlen];exact h6 e,fun e=>by rw [hlen];exact h7 e⟩
 ·show _ = nd k (ofN ks);unfold nd;rw [toN_ofN ho]
 ·obtain ⟨b1,b2,b3,b4⟩:=bodies_of ho h4.1 h4.2 y hy;exact ⟨b1,b2,b3,Nat.lt_of_lt_of_le b4 (Nat.le_add_right _ _)⟩
theorem inv_9 {x:ND} {D:Nat} (h:W x D) (hk:x.k = 9):∃ y,x = ⟨9,x.nm,x.g,[],x.ws,toN [y],[],.nil⟩∧D≤200∧forB x.nm x.g x.ws = true∧Body y (D + 1) (sz x):=by
 obtain ⟨h1,h2,h3⟩:=parts_of h;have ho:=h.ks;obtain ⟨k,nm,g,az,ws,ks,bs,cz⟩:=x;subst hk;obtain ⟨_,_,rfl,_,_,rfl,rfl⟩:=zero_of (k:=9) (nm:=⟨#[]⟩) (g:=false) (ws:=[]) (ks:=.nil) (show nodeEq 9 ⟨#[]⟩ false az [] .nil bs cz 9 ⟨#[]⟩ false [] [] .nil [] .nil = true from h2);have h3':(decide (ks.len = 1) && forB nm g ws && (allS bodyB ks && rt ks (D + 1))) = true:=h3;simp only [Bool.and_eq_true,decide_eq_true_eq] at h3';obtain ⟨⟨hl,hf⟩,ha,hr⟩:=h3';obtain ⟨y,rfl,hq⟩:=one_of ho hl;obtain ⟨b1,b2,b3,b4⟩:=bodies_of ho ha hr y (by rw [hq];simp);exact ⟨y,rfl,deep_le rfl h1,hf,b1,b2,b3,Nat.lt_of_lt_of_le b4 (Nat.le_add_right _ _)⟩
structure Entry (c:CD) (D m:Nat):Prop where
 ne:c.1 ≠ []
 all:∀ p ∈ c.1,rightW p = true
 one:c.2.length≤1
 body:∀ y ∈ c.2,Body y D m
theorem entries_of {D:Nat}:∀ {l:NL},NL.okN l false = true→rt l D = true→∀ c ∈ ofC l,Entry c D l.size
 | .nil,_,_,_,hc=>by cases hc
 | .cse ps b r,h,hr,c,hc=>by
  simp only [NL.okN,Bool.and_eq_true] at h;have hr':((!ps.isEmpty && ps.all rightW && decide (b.len≤1) && (allS bodyB b && rt b D)) && rt r D) = true:=hr;simp only [Bool.and_eq_true,Bool.not_eq_true',decide_eq_true_eq] at hr';obtain ⟨⟨⟨⟨e1,e2⟩,e3⟩,e4,e5⟩,e6⟩:=hr';rcases List.mem_cons.1 hc with rfl | hc
  ·refine ⟨fun e=>?_,fun p hp=>List.all_eq_true.1 e2 p hp,by show (ofN b).length≤1;rw [ofN_len h.1.2];exact e3,fun y hy=>?_⟩
   ·rw [show ps = [] from e] at e1;simp at e1
   ·obtain ⟨b1,b2,b3,b4⟩:=bodies_of h.1.2 e4 e5 y hy;exact ⟨b1,b2,b3,by simp only [NL.size];omega⟩
  ·obtain ⟨a1,a2,a3,a4⟩:=entries_of h.2 e6 c hc;exact ⟨a1,a2,a3,fun y hy=>let ⟨b1,b2,b3,b4⟩:=a4 y hy;⟨b1,b2,b3,by simp only [NL.size];omega⟩⟩
 | .node _ _ _ _ _ _ _ _ _,h,_,_,_=>by simp [NL.okN] at h
theorem inv_10 {x:ND} {D:Nat} (h:W x D) (hk:x.k = 10):∃ w cs,x = ⟨10,⟨#[]⟩,false,[],[w],.nil,[],toC cs⟩∧D≤200∧rightW w = true∧∀ c ∈ cs,Entry c (D + 1) (sz x):=by
 obtain ⟨h1,h2,h3⟩:=parts_of h;have ho:=h.cz;obtain ⟨k,nm,g,az,ws,ks,bs,cz⟩:=x;subst hk;obtain ⟨rfl,rfl,rfl,_,rfl,rfl,_⟩:=zero_of (k:=10) (ws:=[]) (cz:=.nil) (show nodeEq 10 nm g az [] ks bs .nil 10 ⟨#[]⟩ false [] [] .nil [] .nil = true from h2);have h3':(decide (ws.length = 1) && ws.all rightW && rt cz (D + 1)) = true:=h3;simp only [Bool.and_eq_true,decide_eq_true_eq] at h3';obtain ⟨⟨hl,ha⟩,hr⟩:=h3'
 match ws,hl,ha with
 | [w],_,ha =>
  refine ⟨w,ofC cz,?_,deep_le rfl h1,by simpa using ha,fun c hc=>?_⟩
  ·rw [toC_ofC ho]
  ·obtain ⟨a1,a2,a3,a4⟩:=entries_of ho hr c hc;exact ⟨a1,a2,a3,fun y hy=>let ⟨b1,b2,b3,b4⟩:=a4 y hy;⟨b1,b2,b3,Nat.lt_of_lt_of_le b4 (Nat.le_add_left _ _)⟩⟩
theorem inv_13 {x:ND} {D:Nat} (h:W x D) (hk:x.k = 13):∃ y,x = ⟨13,x.nm,false,[],[],toN [y],[],.nil⟩∧nameL x.nm.data.toList = true∧reservedL x.nm.data.toList = false∧compoundB y.k = true∧W y D∧sz y < sz x:=by
 obtain ⟨h1,h2,h3⟩:=parts_of h;have ho:=h.ks;obtain ⟨k,nm,g,az,ws,ks,bs,cz⟩:=x;subst hk;obtain ⟨_,rfl,rfl,rfl,_,rfl,rfl⟩:=zero_of (k:=13) (nm:=⟨#[]⟩) (ks:=.nil) (show nodeEq 13 ⟨#[]⟩ g az ws .nil bs cz 13 ⟨#[]⟩ false [] [] .nil [] .nil = true from h2);have h3':(decide (ks.len = 1) && nameL nm.data.toList && !reservedL nm.data.toList && (allS compoundS ks && rt ks D)) = true:=h3;simp only [Bool.and_eq_true,decide_eq_true_eq,Bool.not_eq_true'] at h3';obtain ⟨⟨⟨hl,hn⟩,hrs⟩,ha,hr⟩:=h3';obtain ⟨y,rfl,hq⟩:=one_of ho hl;have hy:=ofN_mem ho hr y (by rw [hq];simp);exact ⟨y,rfl,hn,hrs,ofN_all ha y (by rw [hq];simp),hy.1,Nat.lt_of_lt_of_le hy.2 (Nat.le_add_right _ _)⟩
theorem tx_2 (a b:ND):tx (nd 2 [a,b]) = tx a ++ ([32] ++ ([38,38] ++ ([32] ++ tx b))):=rfl
theorem tx_3 (a b:ND):tx (nd 3 [a,b]) = tx a ++ ([32] ++ ([124,124] ++ ([32] ++ tx b))):=rfl
theorem tx_4 (a:ND):tx (nd 4 [a]) = [33] ++ ([32] ++ tx a):=rfl
theorem tx_5 (l:List ND) (bs:List Bool):tx (listD l bs) = itemsT (l.map tx) bs:=by
 show itemsT (txt (toN l)) bs = _;rw [txt_toN]
theorem tx_62 (a b:ND):tx (nd 6 [a,b]) = kIf ++ ([32] ++ (tx a ++ (kThen ++ ([32] ++ (tx b ++ ([] ++ kFi)))))):=rfl
theorem tx_63 (a b c:ND):tx (nd 6 [a,b,c]) = kIf ++ ([32] ++ (tx a ++ (kThen ++ ([32] ++ (tx b ++ ((kElse ++ ([32] ++ tx c)) ++ kFi)))))):=rfl
theorem tx_7 (a b:ND):tx (nd 7 [a,b]) = kWhile ++ ([32] ++ (tx a ++ (kDo ++ ([32] ++ (tx b ++ kDone))))):=rfl
theorem tx_8 (a b:ND):tx (nd 8 [a,b]) = kUntil ++ ([32] ++ (tx a ++ (kDo ++ ([32] ++ (tx b ++ kDone))))):=rfl
theorem tx_9 (nm:ByteArray) (g:Bool) (ws:List PL) (y:ND):tx ⟨9,nm,g,[],ws,toN [y],[],.nil⟩ = kFor ++ ([32] ++ (nm.data.toList ++ ((if g then [32] ++ (kIn ++ (behind [32] [32] (ws.map wordT) ++ [59])) else []) ++ ([32] ++ (kDo ++ ([32] ++ (tx y ++ kDone))))))):=rfl
def csT (c:CD):T:=caseT c.1 (c.2.map tx)
theorem txt_toC:∀ l:List CD,txt (toC l) = l.map csT
 | []=>rfl
 | c :: r=>by
  show caseT c.1 (txt (toN c.2)) :: txt (toC r) = _;rw [txt_toC r,txt_toN];rfl
theorem tx_10 (w:PL) (cs:List CD):tx ⟨10,⟨#[]⟩,false,[],[w],.nil,[],toC cs⟩ = kCase ++ ([32] ++ (wordT w ++ ([32] ++ (kIn ++ ([32] ++ ((cs.map csT).flatten ++ kEsac)))))):=by
 show kCase ++ ([32] ++ (wordT w ++ ([32] ++ (kIn ++ ([32] ++ ((txt (toC cs)).flatten ++ kEsac)))))) = _;rw [txt_toC]
theorem tx_11 (a:ND):tx (nd 11 [a]) = [123] ++ ([32] ++ (tx a ++ [125])):=rfl
theorem tx_12 (a:ND):tx (nd 12 [a]) = [40] ++ (tx a ++ [41]):=rfl
theorem tx_13 (nm:ByteArray) (y:ND):tx ⟨13,nm,false,[],[],toN [y],[],.nil⟩ = nm.data.toList ++ ([40] ++ ([41] ++ ([32] ++ tx y))):=rfl
end Pr
end Go.Proofs.YtjmpfihopeohbaaGreatDoor
