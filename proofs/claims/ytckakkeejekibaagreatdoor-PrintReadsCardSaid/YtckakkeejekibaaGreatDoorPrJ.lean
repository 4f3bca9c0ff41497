/- What a command begins with. Pure. -/
import Derived.Test.YtckakkeejekibaaGreatDoorPrE
namespace Go.Proofs.YtckakkeejekibaaGreatDoor
open Go.RowKit Go.Sort
namespace Pr
open j6 Pt Bd Tr Sp Lx Ps
theorem JP {w:PL} (hw:aG w = true):∀ c ∈ (fQ w).data.toList,nO c.toNat = true:=by
 have hr:=pU hw;cases w with
 | nil=>cases hw
 | cons k q t o f r =>
  cases r with
  | nil =>
   by_cases hk:(k == 1 && !q) = true
   ·have e:fQ (.cons k q t o f .nil) = t:=by simp only [fQ];rw [if_pos hk]
    rw [e];simp only [ud,beq_iff_eq,Bool.not_eq_true'] at hk;obtain ⟨rfl,rfl⟩:=hk;rw [jL] at hr;simp only [ud] at hr;obtain ⟨_,_,p3⟩:=JO hr.1.2;unfold dh at p3;simp only [Bool.false_eq_true,if_false,ud] at p3;intro c hc;simpa [gI] using List.all_eq_true.1 p3.1 c hc
   ·have e:fQ (.cons k q t o f .nil) = ⟨#[]⟩:=by simp only [fQ];rw [if_neg hk]
    rw [e];exact fun c hc=>by cases hc
  | cons=>exact fun c hc=>by cases hc
theorem Ql {w:PL} (hw:aG w = true) {c:UInt8} {z:T} (hc:nO c.toNat = false):fQ w ≠ ⟨(c :: z).toArray⟩:=fun e=>by
 have:=JP hw c (by rw [e];simp);rw [hc] at this;cases this
structure UJ (o:Tok):Prop where
 JQ:gF o = true
 line:bu [gM] o = false
 Tn:bu [⟨#[33]⟩] o = false
theorem DW {o:Tok} {w:PL} (h1:o.k = 1) (h2:o.l = w) (hw:aG w = true) (hr:bF (fQ w).data.toList = false):UJ o:=by
 have ht:aT o = fQ w:=by rw [MX h1,h2]
 refine ⟨?_,zT ?_,zT ?_⟩
 ·unfold gF;rw [ht,hr,h1];rfl
 ·rw [ht];simp only [List.mem_singleton];exact Ql hw (c:=10) (z:=[]) (by decide)
 ·rw [ht];simp only [List.mem_singleton];intro e;rw [e] at hr;exact absurd hr (by decide)
theorem GG {o:Tok} (h:UJ o):dG o = true:=by unfold dG;rw [h.JQ];rfl
theorem Qm {l:T} (h:61 ∈ l):bF l = false:=by
 rw [← Bool.not_eq_true];intro hr;unfold bF at hr;obtain ⟨x,hx,e⟩:=List.any_eq_true.1 hr;have e:=beq_iff_eq.1 e;have iF:(words.all fun x=>!x.contains 61) = true:=by decide
 have:=List.all_eq_true.1 iF x hx;rw [← e] at this;simp [h] at this
theorem Tp {x:ByteArray × PL}:bF (fQ (vP x)).data.toList = false:=by
 have R5:bF [] = false:=by decide
 obtain ⟨nm,v⟩:=x;unfold vP;cases v with
 | nil=>exact Qm (by simp [fQ])
 | cons k q t o f r =>
  by_cases hk:(k == 1 && !q) = true
  ·show bF (fQ (if (k == 1 && !q) = true then _ else _)).data.toList = false;rw [if_pos hk];cases r with
   | nil=>exact Qm (by simp [fQ])
   | cons=>exact R5
  ·show bF (fQ (if (k == 1 && !q) = true then _ else _)).data.toList = false;rw [if_neg hk];exact R5
theorem M3 {l:PL} (h:kZ l false = true):splitP l = none∧bF (fQ l).data.toList = false:=by
 unfold kZ at h;simp only [ud,Bool.not_eq_true',Bool.or_eq_true,Bool.false_or] at h
 refine ⟨by cases hs:splitP l with
  | none=>rfl
  | some n=>rw [hs] at h;simp at h,?_⟩
 rcases h.2 with h | h
 ·have:fQ l = ⟨#[]⟩:=by
   cases l with
   | nil=>rfl
   | cons k q t o f r =>
    cases r with
    | nil =>
     simp only [plainB] at h;simp only [fQ];rw [if_neg (by rw [h];decide)]
    | cons=>rfl
  rw [this];decide
 ·exact h
theorem qB {l:PL} (h:splitP l = none):splitA l = none:=by
 unfold splitA;cases l with
 | nil=>rfl
 | cons k q t o f r=>rw [h]
theorem GH {l:PL} {b:Bool} (h:kZ l b = true):splitP l = none:=by
 unfold kZ at h;simp only [ud,Bool.not_eq_true'] at h;cases hs:splitP l with
 | none=>rfl
 | some n=>rw [hs] at h;simp at h
def M4 (az:List (ByteArray × PL)) (ws:List PL):List PL:=az.map vP ++ ws
theorem vR {az:List (ByteArray × PL)} {ws:List PL} (h:simpleB az ws = true) :
  (∀ x ∈ az,bV x.1.data.toList = true∧rightL none x.2 0 1 = true)∧(∀ w ∈ ws,aG w = true)∧(∀ w r,ws = w :: r→splitA w = none)∧∃ w r,M4 az ws = w :: r∧bF (fQ w).data.toList = false:=by
 unfold simpleB at h;simp only [ud] at h;obtain ⟨h1,h2⟩:=h;have ha:∀ x ∈ az,bV x.1.data.toList = true∧rightL none x.2 0 1 = true:=fun x hx=>by
  have:=List.all_eq_true.1 h1 x hx;unfold jF at this;simp only [ud] at this;exact this
 refine ⟨ha,?_,?_,?_⟩
 ·cases ws with
  | nil=>exact fun _ h=>by cases h
  | cons l r =>
   simp only [ud] at h2;exact fun w hw=>List.all_eq_true.1 h2.2 w hw
 ·rintro w r rfl;simp only [ud] at h2;exact qB (GH h2.1)
 ·cases az with
  | cons x az=>exact ⟨vP x,_,rfl,Tp⟩
  | nil =>
   cases ws with
   | nil=>simp at h2
   | cons l r =>
    simp only [ud,zZ,Nat.lt_irrefl,decide_false] at h2;exact ⟨l,r,rfl,(M3 h2.1).2⟩
theorem zW {az:List (ByteArray × PL)} {ws:List PL} (ha:∀ x ∈ az,bV x.1.data.toList = true∧rightL none x.2 0 1 = true) (hw:∀ w ∈ ws,aG w = true):∀ w ∈ M4 az ws,aG w = true:=fun y hy=>by
 rcases List.mem_append.1 hy with hy | hy
 ·obtain ⟨u,hu,rfl⟩:=List.mem_map.1 hy;exact xn (ha u hu).1 (ha u hu).2
 ·exact hw y hy
theorem zX {az:List (ByteArray × PL)} {ws:List PL} (ha:∀ x ∈ az,bV x.1.data.toList = true∧rightL none x.2 0 1 = true):kC az ws = zU (M4 az ws):=by
 unfold kC zU M4;rw [List.map_append,List.map_map];congr 2;apply List.map_congr_left;intro x hx;exact (Qj (ha x hx).2).symm
def wH (Z:T):Prop:=∃ c y,Z = c :: y∧uk c = true
theorem wH.app {A Z:T} (h:wH A):wH (A ++ Z):=by
 obtain ⟨c,y,rfl,hc⟩:=h;exact ⟨c,y ++ Z,rfl,hc⟩
theorem aV (x:T):wH ([32] ++ x):=⟨32,x,rfl,by decide⟩
theorem yO {r:List PL} {Z:T} (h:wH Z):wH (behind [32] [32] (r.map aR) ++ Z):=by
 cases r with
 | nil=>exact h
 | cons w r=>exact ⟨32,_,rfl,by decide⟩
structure Head (o:Tok) (c:Bool):Prop where
 begins:dG o = true
 line:bu [gM] o = false
 Tn:c = true→bu [⟨#[33]⟩] o = false
def um (X:T) (c:Bool):Prop:=bW X∧∀ s o,aH s o X→Head o c
theorem M5 {w:PL} {r:List PL} {Z:T} (hw:aG w = true) (hr:bF (fQ w).data.toList = false) (hZ:wH Z) (c:Bool):um (zU (w :: r) ++ Z) c:=by
 obtain ⟨d,y,e,hd⟩:=yO (r:=r) hZ;rw [sH,zq,e];refine ⟨bW.word hw hd y,fun s o h=>?_⟩;obtain ⟨h1,h2,_⟩:=h.word hw hd;have hh:=DW h1 h2 hw hr;exact ⟨GG hh,hh.line,fun _=>hh.Tn⟩
structure Key (t:T):Prop where
 w:aG (K7 t) = true
 line:Lib.containsS [gM] ⟨t.toArray⟩ = false
theorem fw {s:ByteArray} {o:Tok} {t:T} {Z:T} (hk:Key t) (hZ:wH Z) (h:aH s o (t ++ Z)):o.k = 1∧aT o = ⟨t.toArray⟩∧After s o Z:=by
 obtain ⟨c,y,rfl,hc⟩:=hZ;obtain ⟨h1,_,h3,h4⟩:=h.kw hk.w hc;exact ⟨h1,h3,h4⟩
theorem mM {t:T} {Z:T} (hk:Key t) (hZ:wH Z):bW (t ++ Z):=by
 obtain ⟨c,y,rfl,hc⟩:=hZ;exact bW.kw hk.w hc y
theorem l6 {t:T} {Z:T} (hk:Key t) (ho:Lib.containsS nX ⟨t.toArray⟩ = true) (hb:Lib.containsS [⟨#[33]⟩] ⟨t.toArray⟩ = false) (hZ:wH Z) (c:Bool):um (t ++ Z) c:=by
 refine ⟨mM hk hZ,fun s o h=>?_⟩;obtain ⟨_,h2,_⟩:=fw hk hZ h;refine ⟨?_,by rw [aI h2];exact hk.line,fun _=>by rw [aI h2];exact hb⟩;unfold dG lg;rw [aI h2,ho];simp
theorem xq:Key Eu:=⟨by kernel_rfl,by decide⟩
theorem xu:Key xg:=⟨by kernel_rfl,by decide⟩
theorem xw:Key xh:=⟨by kernel_rfl,by decide⟩
theorem DX:Key uK:=⟨by kernel_rfl,by decide⟩
theorem zY:Key ul:=⟨by kernel_rfl,by decide⟩
theorem z8:Key mK:=⟨by kernel_rfl,by decide⟩
theorem Aa:Key sG:=⟨by kernel_rfl,by decide⟩
theorem DY:Key Gy:=⟨by kernel_rfl,by decide⟩
theorem uM:Key qA:=⟨by kernel_rfl,by decide⟩
theorem Ab:Key iq:=⟨by kernel_rfl,by decide⟩
theorem Ac:Key BD:=⟨by kernel_rfl,by decide⟩
theorem Ad:Key jw:=⟨by kernel_rfl,by decide⟩
theorem Ae:Key [123]:=⟨by kernel_rfl,by decide⟩
theorem GI:Key [125]:=⟨by kernel_rfl,by decide⟩
theorem Af:Key [33]:=⟨by kernel_rfl,by decide⟩
theorem kH {l:T} (h:bV l = true):aG (K7 l) = true:=by
 obtain ⟨jD,hb⟩:=og h;have h1:dh false l 0 = true:=by
  unfold dh;simp only [Bool.false_eq_true,if_false,ud];refine ⟨List.all_eq_true.2 fun c hc=>by simpa [gI] using (hb c hc).1,by cases l <;> simp_all⟩
 have h2:Lib.hasPrefix l [35] = false:=by
  cases l with
  | nil=>exact absurd rfl jD
  | cons c z =>
   have:=(hb c (by simp)).2.2;simp [Lib.hasPrefix,List.isPrefixOf,Ne.symm this]
 unfold K7;simp only [aG,rightL];simp [h1,h2,PL.len]
theorem JR {nm:T} {Z:T} (hn:bV nm = true) (hr:bF nm = false) (c:Bool) (hZ:wH Z):um (nm ++ Z) c:=by
 obtain ⟨d,y,rfl,hd⟩:=hZ;refine ⟨bW.kw (kH hn) hd y,fun s o h=>?_⟩;obtain ⟨h1,h2,_,_⟩:=h.kw (kH hn) hd;have hp:fQ (K7 nm) = ⟨nm.toArray⟩:=rfl;have hh:=DW h1 h2 (kH hn) (by rw [hp];exact hr);exact ⟨GG hh,hh.line,fun _=>hh.Tn⟩
end Pr
namespace Pr
open j6 Pt Bd Tr Sp Lx Ps
theorem V6 (a b:ND):tx (nd 2 [a,b]) = tx a ++ ([32] ++ ([38,38] ++ ([32] ++ tx b))):=rfl
theorem V7 (a b:ND):tx (nd 3 [a,b]) = tx a ++ ([32] ++ ([124,124] ++ ([32] ++ tx b))):=rfl
theorem V8 (a:ND):tx (nd 4 [a]) = [33] ++ ([32] ++ tx a):=rfl
theorem V9 (l:List ND) (bs:List Bool):tx (gq l bs) = itemsT (l.map tx) bs:=by
 show itemsT (txt (toN l)) bs = _;rw [vN]
theorem Lb (a b:ND):tx (nd 6 [a,b]) = Eu ++ ([32] ++ (tx a ++ (mK ++ ([32] ++ (tx b ++ ([] ++ Gy)))))):=rfl
theorem GJ (a b c:ND):tx (nd 6 [a,b,c]) = Eu ++ ([32] ++ (tx a ++ (mK ++ ([32] ++ (tx b ++ ((sG ++ ([32] ++ tx c)) ++ Gy)))))):=rfl
theorem Tq (a b:ND):tx (nd 7 [a,b]) = xg ++ ([32] ++ (tx a ++ (qA ++ ([32] ++ (tx b ++ iq))))):=rfl
theorem Tt (a b:ND):tx (nd 8 [a,b]) = xh ++ ([32] ++ (tx a ++ (qA ++ ([32] ++ (tx b ++ iq))))):=rfl
theorem Tu (nm:ByteArray) (g:Bool) (ws:List PL) (y:ND):tx ⟨9,nm,g,[],ws,toN [y],[],.nil⟩ = uK ++ ([32] ++ (nm.data.toList ++ ((if g then [32] ++ (BD ++ (behind [32] [32] (ws.map aR) ++ [59])) else []) ++ ([32] ++ (qA ++ ([32] ++ (tx y ++ iq))))))):=rfl
def Bc (c:CD):T:=caseT c.1 (c.2.map tx)
theorem Lc:∀ l:List CD,txt (toC l) = l.map Bc
 | []=>rfl
 | c :: r=>by
  show caseT c.1 (txt (toN c.2)) :: txt (toC r) = _;rw [Lc r,vN];rfl
theorem Ld (w:PL) (cs:List CD):tx ⟨10,⟨#[]⟩,false,[],[w],.nil,[],toC cs⟩ = ul ++ ([32] ++ (aR w ++ ([32] ++ (BD ++ ([32] ++ ((cs.map Bc).flatten ++ jw)))))):=by
 show ul ++ ([32] ++ (aR w ++ ([32] ++ (BD ++ ([32] ++ ((txt (toC cs)).flatten ++ jw)))))) = _;rw [Lc]
theorem Le (a:ND):tx (nd 11 [a]) = [123] ++ ([32] ++ (tx a ++ [125])):=rfl
theorem Lf (a:ND):tx (nd 12 [a]) = [40] ++ (tx a ++ [41]):=rfl
theorem Qn (nm:ByteArray) (y:ND):tx ⟨13,nm,false,[],[],toN [y],[],.nil⟩ = nm.data.toList ++ ([40] ++ ([41] ++ ([32] ++ tx y))):=rfl
theorem YW (az:List (ByteArray × PL)) (ws:List PL):tx ⟨1,⟨#[]⟩,false,az,ws,.nil,[],.nil⟩ = kC az ws:=rfl
theorem JS {k:Int} (h:dN k = true):k = 1∨k = 2∨k = 3∨k = 4∨k = 6∨k = 7∨k = 8∨k = 9∨k = 10∨k = 11∨k = 12∨k = 13:=by
 unfold dN ik eH bQ at h;simp only [Bool.or_eq_true,beq_iff_eq,ud,decide_eq_true_eq] at h;omega
theorem JU {k:Int} (h:ik k = true):k = 4∨eH k = true:=by
 unfold ik at h;simpa using h
theorem BF {k:Int} (h:eH k = true):k = 1∨k = 13∨df k = true:=by
 unfold eH bQ at h;unfold df;simp only [Bool.or_eq_true,beq_iff_eq,ud,decide_eq_true_eq] at h ⊢
 omega
theorem sI {k:Int} (h:df k = true):k = 6∨k = 7∨k = 8∨k = 9∨k = 10∨k = 11∨k = 12:=by
 unfold df at h;simp only [ud,decide_eq_true_eq] at h;omega
theorem JV (X:T) (h:∃ c z,X = c :: z) (c:Bool):um ([40] ++ X) c:=by
 obtain ⟨d,z,rfl⟩:=h;refine ⟨bW.sign (nD d z),fun s o h=>?_⟩;obtain ⟨h1,h2,_⟩:=h.sign (nD d z);have ht:=fK h1 h2;refine ⟨?_,by rw [aI ht];decide,fun _=>by rw [aI ht];decide⟩;unfold dG lg;rw [aI (l:=nX) ht];simp [show Lib.containsS nX ⟨[(40:UInt8)].toArray⟩ = true from by decide]
theorem JW (X:T):um ([33] ++ ([32] ++ X)) false:=by
 refine ⟨mM Af (aV X),fun s o h=>?_⟩;obtain ⟨_,h2,_⟩:=fw Af (aV X) h;refine ⟨?_,by rw [aI h2];decide,fun e=>by cases e⟩;unfold dG;rw [aI (l:=[⟨#[33]⟩]) h2];simp [show Lib.containsS [⟨#[33]⟩] ⟨[(33:UInt8)].toArray⟩ = true from by decide]
theorem jo:∀ (m:Nat) (x:ND) (D:Nat),sz x < m→W x D→dN x.k = true→(∀ Z,wH Z→um (tx x ++ Z) (eH x.k))∧tx x ≠ []
 | m + 1,x,D,hm,hx,hi=>by
  have low:∀ y D,sz y < sz x→W y D→dN y.k = true→(∀ Z,wH Z→um (tx y ++ Z) (eH y.k))∧tx y ≠ []:=fun y D hy=>jo m y D (by omega);rcases JS hi with h | h | h | h | h | h | h | h | h | h | h | h
  ·obtain ⟨e,hs⟩:=Qg hx h;obtain ⟨ha,hw,_,w,r,LW,Qo⟩:=vR hs;rw [h,e,YW,zX ha,LW];have yu:=zW ha hw w (by rw [LW];simp)
   exact ⟨fun Z hZ=>M5 yu Qo hZ _,fun e=>by
    have:=GD yu;rw [sH] at e;have h0:=(List.append_eq_nil_iff.1 e).1;unfold aR at h0;rw [h0] at this
    exact absurd this (by simp)⟩
  ·obtain ⟨a,b,e,h1,_,h3,_,h5,_⟩:=xm hx (.inl h);rw [h] at e ⊢
   rw [e,V6];obtain ⟨g1,g2⟩:=low a D h5 h3 h1;refine ⟨fun Z hZ=>?_,by simp⟩;rw [zq,zq];have:=g1 _ (aV (([38,38] ++ ([32] ++ tx b)) ++ Z));exact ⟨this.1,fun s o ho=>⟨(this.2 s o ho).begins,(this.2 s o ho).line,fun e=>by cases e⟩⟩
  ·obtain ⟨a,b,e,h1,_,h3,_,h5,_⟩:=xm hx (.inr h);rw [h] at e ⊢
   rw [e,V7];obtain ⟨g1,g2⟩:=low a D h5 h3 h1;refine ⟨fun Z hZ=>?_,by simp⟩;rw [zq,zq];have:=g1 _ (aV (([124,124] ++ ([32] ++ tx b)) ++ Z));exact ⟨this.1,fun s o ho=>⟨(this.2 s o ho).begins,(this.2 s o ho).line,fun e=>by cases e⟩⟩
  ·obtain ⟨a,e,_⟩:=Qh hx h;rw [h,e,V8];exact ⟨fun Z hZ=>JW (tx a ++ Z),by simp⟩
  ·obtain ⟨l,e,_,_,hl,_⟩:=jg hx (.inl h);rw [h] at e;have hl:=hl h;rw [h,e];rcases hl with hl | hl
   ·match l,hl with
    | [a,b],_=>exact ⟨fun Z hZ=>l6 xq (by decide) (by decide) (aV _) _,by rw [Lb];simp [Eu]⟩
   ·match l,hl with
    | [a,b,c],_=>exact ⟨fun Z hZ=>l6 xq (by decide) (by decide) (aV _) _,by rw [GJ];simp [Eu]⟩
  ·obtain ⟨l,e,_,_,_,hl,_⟩:=jg hx (.inr (.inl h));rw [h] at e;have hl:=hl (.inl h);rw [h,e]
   match l,hl with
   | [a,b],_=>exact ⟨fun Z hZ=>l6 xu (by decide) (by decide) (aV _) _,by rw [Tq];simp [xg]⟩
  ·obtain ⟨l,e,_,_,_,hl,_⟩:=jg hx (.inr (.inr (.inl h)));rw [h] at e;have hl:=hl (.inr h);rw [h,e]
   match l,hl with
   | [a,b],_=>exact ⟨fun Z hZ=>l6 xw (by decide) (by decide) (aV _) _,by rw [Tt];simp [xh]⟩
  ·obtain ⟨y,e,_⟩:=La hx h;rw [h,e,Tu];exact ⟨fun Z hZ=>l6 DX (by decide) (by decide) (aV _) _,by simp [uK]⟩
  ·obtain ⟨w,cs,e,_⟩:=DV hx h;rw [h,e,Ld];exact ⟨fun Z hZ=>l6 zY (by decide) (by decide) (aV _) _,by simp [ul]⟩
  ·obtain ⟨l,e,_,_,_,_,hl⟩:=jg hx (.inr (.inr (.inr (.inl h))));rw [h] at e;have hl:=hl (.inl h);rw [h,e]
   match l,hl with
   | [a],_=>exact ⟨fun Z hZ=>l6 Ae (by decide) (by decide) (aV _) _,by rw [Le];simp⟩
  ·obtain ⟨l,e,_,hb,_,_,hl⟩:=jg hx (.inr (.inr (.inr (.inr h))));rw [h] at e;have hl:=hl (.inr h);rw [h,e]
   match l,hl,hb with
   | [a],_,hb =>
    rw [Lf];refine ⟨fun Z hZ=>?_,by simp⟩;rw [zq];refine JV _ ?_ _;cases hq:tx a with
    | nil=>exact ⟨41,_,rfl⟩
    | cons d z=>exact ⟨d,_,rfl⟩
  ·obtain ⟨y,e,hn,hr,_⟩:=JM hx h;rw [h,e,Qn];have jD:=(og hn).1;refine ⟨fun Z hZ=>?_,by simp⟩;rw [zq];exact JR hn hr _ ⟨40,_,rfl,by decide⟩
structure Ends (E:T):Prop where
 fine:bW E
 no:∀ s o,aH s o E→dG o = false∧bu [gM] o = false
theorem pV {t Z:T} (hk:Key t) (h1:bF t = true) (h2:Lib.containsS nX ⟨t.toArray⟩ = false) (h3:Lib.containsS [⟨#[33]⟩] ⟨t.toArray⟩ = false) (hZ:wH Z):Ends (t ++ Z):=by
 refine ⟨mM hk hZ,fun s o h=>?_⟩;obtain ⟨_,ht,_⟩:=fw hk hZ h;refine ⟨?_,by rw [aI ht];exact hk.line⟩;unfold dG gF lg;rw [aI (l:=nX) ht,aI (l:=[⟨#[33]⟩]) ht,h2,h3,ht];simp [h1]
theorem Ct {t Z:T} (hs:Sg t Z) (h2:Lib.containsS nX ⟨t.toArray⟩ = false) (h3:Lib.containsS [⟨#[33]⟩] ⟨t.toArray⟩ = false) (h4:Lib.containsS [gM] ⟨t.toArray⟩ = false):Ends (t ++ Z):=by
 refine ⟨bW.sign hs,fun s o h=>?_⟩;obtain ⟨h1,ht,_⟩:=h.sign hs;have ht:=fK h1 ht;refine ⟨?_,by rw [aI ht];exact h4⟩;unfold dG gF lg;rw [aI (l:=nX) ht,aI (l:=[⟨#[33]⟩]) ht,h2,h3,h1];rfl
theorem Ag:Ends []:=by
 refine ⟨bW.fin,fun s o h=>?_⟩;obtain ⟨h1,h2⟩:=h.fin;have ht:=Qe h1 h2;refine ⟨?_,by rw [aI ht];decide⟩;unfold dG gF lg;rw [aI (l:=nX) ht,aI (l:=[⟨#[33]⟩]) ht,h1];rfl
def Wd (b:Bool):T:=if b then [32,38,32] else [59,32]
theorem Lg (b:Bool):wH (Wd b):=by
 cases b
 ·exact ⟨59,[32],rfl,by decide⟩
 ·exact ⟨32,[38,32],rfl,by decide⟩
theorem uN (x:T) (r:List T) (b:Bool) (bs:List Bool):itemsT (x :: r) (b :: bs) = x ++ (Wd b ++ itemsT r bs):=rfl
theorem jO {y:ND} {D m:Nat} (h:Body y D m) (E:T):um (tx y ++ E) false∧∃ c z,tx y ++ E = c :: z:=by
 obtain ⟨l,e,h1,h2,h3⟩:=Cs h.w h.k;have jD:0 < l.length:=by rw [h2];exact h.ne
 generalize hbs:y.bs = bs at e h1;rw [e,V9];cases l with
 | nil=>simp at jD
 | cons x r =>
  cases bs with
  | nil=>simp at h1
  | cons b bs =>
   rw [List.map_cons,uN,zq,zq];obtain ⟨g1,g2,g3⟩:=h3 x (by simp);obtain ⟨k1,k2⟩:=jo (sz x + 1) x D (by omega) g2 g1;have:=k1 _ (wH.app (Z:=itemsT (r.map tx) bs ++ E) (Lg b));refine ⟨⟨this.1,fun s o ho=>⟨(this.2 s o ho).begins,(this.2 s o ho).line,fun e=>by cases e⟩⟩,?_⟩;cases hq:tx x with
   | nil=>exact absurd hq k2
   | cons c z=>exact ⟨c,_,rfl⟩
end Pr
namespace Pr
open j6 Pt Bd Tr Sp Lx Ps
def Read {U:Type} (s:ByteArray) (f:Nat→Rs U) (x:U) (z:T):Prop:=∃ N o',aH s o' z∧∀ n,N≤n→f n = .ok x o'
structure Reads (s:ByteArray) (m:Nat):Prop where
 cmd:∀ (x:ND) (d:Nat) (o:Tok) (Z z:T),sz x < m→W x (d + 1)→eH x.k = true→Rest Z z→aH s o (tx x ++ Z)→Read s (fun n=>aU s d n o) x z
 cpd:∀ (x:ND) (d:Nat) (o:Tok) (Z z:T),sz x < m→W x (d + 1)→df x.k = true→Rest Z z→aH s o (tx x ++ Z)→Read s (fun n=>aF s d n o) x z
 unit:∀ (x:ND) (d:Nat) (o:Tok) (Z z:T),sz x < m→W x (d + 1)→ik x.k = true→Rest Z z→aH s o (tx x ++ Z)→Read s (fun n=>fJ s d n o) x z
 item:∀ (x:ND) (d:Nat) (o:Tok) (Z z:T),sz x < m→W x (d + 1)→dN x.k = true→Rest Z z→aH s o (tx x ++ Z)→∃ N K o',aH s o' z∧∀ n,N≤n→gW s d (n + K) o = itemL s d n x o'
theorem iM {o:Tok} {t:ByteArray} (h:aT o = t):bu [t] o = true:=Gz.2 (by rw [h];simp)
theorem Lh {s:ByteArray} {o:Tok} {t X:T} (hk:Key t) (hX:bW X) (h:aH s o (t ++ ([32] ++ X))):∃ o',aZ s [⟨t.toArray⟩] o = .ok () o'∧aH s o' X:=by
 obtain ⟨_,ht,ha⟩:=fw hk (aV X) h;obtain ⟨o',h1,h2⟩:=bg (.inr rfl) ha hX;exact ⟨o',bK (iM ht) h1,h2⟩
theorem sJ {s:ByteArray} {o:Tok} {t Z z:T} (hk:Key t) (R:Rest Z z) (h:aH s o (t ++ Z)):∃ o',aZ s [⟨t.toArray⟩] o = .ok () o'∧aH s o' z:=by
 obtain ⟨_,ht,ha⟩:=fw hk R.del h;obtain ⟨o',h1,h2⟩:=R.next ha;exact ⟨o',bK (iM ht) h1,h2⟩
theorem JX {o:Tok} {c:UInt8} (h:aT o = ⟨#[c]⟩):bu [⟨#[38,38]⟩,⟨#[124,124]⟩] o = false:=zT (by rw [h];simp)
theorem xY {s:ByteArray} {D:Nat} {E:T}:∀ {l:List ND} {bs:List Bool},(∀ y ∈ l,dN y.k = true∧W y D)→l.length = bs.length→l ≠ []→um (itemsT (l.map tx) bs ++ E) false
 | [],_,_,_,h=>absurd rfl h
 | x :: r,[],_,h,_=>by simp at h
 | x :: r,b :: bs,hl,_,_=>by
  rw [List.map_cons,uN,zq,zq];obtain ⟨g1,g2⟩:=hl x (by simp);have:=(jo (sz x + 1) x D (by omega) g2 g1).1 _ (wH.app (Z:=itemsT (r.map tx) bs ++ E) (Lg b));exact ⟨this.1,fun s o ho=>⟨(this.2 s o ho).begins,(this.2 s o ho).line,fun e=>by cases e⟩⟩
theorem Qp (b:Bool) (Q:T):∃ c:UInt8,Rest (Wd b ++ Q) ([c] ++ (32 :: Q))∧Sg [c] (32 :: Q)∧bu [⟨#[38]⟩] = (fun o=>bu [⟨#[38]⟩] o)∧(∀ o:Tok,aT o = ⟨#[c]⟩→bu [⟨#[38]⟩] o = b∧bu [⟨#[59]⟩,⟨#[38]⟩,gM] o = true):=by
 cases b
 ·exact ⟨59,Rest.YS Q,DL Q,rfl,fun o h=>⟨by rw [aI h];decide,by rw [aI h];decide⟩⟩
 ·exact ⟨38,Rest.amp Q,Qb Q,rfl,fun o h=>⟨by rw [aI h];decide,by rw [aI h];decide⟩⟩
theorem Cu {s:ByteArray} {m d:Nat} (ih:Reads s m) {E:T} (hE:Ends E):∀ (l:List ND) (bs:List Bool) (ko:List ND) (ku:List Bool) (o:Tok),(∀ y ∈ l,dN y.k = true∧W y (d + 1)∧sz y < m)→l.length = bs.length→l ≠ []→aH s o (itemsT (l.map tx) bs ++ E) →
  Read s (fun n=>listF s d n ko ku o) (gq (ko ++ l) (ku ++ bs)) E
 | [],_,_,_,_,_,_,h,_=>absurd rfl h
 | x :: r,[],_,_,_,_,h,_,_=>by simp at h
 | x :: r,b :: bs,ko,ku,o,hl,hlen,_,h=>by
  rw [List.map_cons,uN,zq,zq] at h;obtain ⟨g1,g2,g3⟩:=hl x (by simp);obtain ⟨c,R,zy,_,hs⟩:=Qp b (itemsT (r.map tx) bs ++ E);obtain ⟨N,K,o1,h1,h2⟩:=ih.item x d o _ _ g3 g2 g1 R h;obtain ⟨k1,k2,k3⟩:=h1.sign zy;have ht:aT o1 = ⟨#[c]⟩:=fK k1 k2;obtain ⟨s1,s2⟩:=hs o1 ht;have hr:r.length = bs.length:=by simpa using hlen
  have YX:bW (itemsT (r.map tx) bs ++ E):=by
   cases r with
   | nil =>
    have:bs = []:=by cases bs <;> simp_all
    subst this;exact hE.fine
   | cons y r=>exact (xY (s:=s) (D:=d + 1) (fun y hy=>⟨(hl y (by simp [hy])).1,(hl y (by simp [hy])).2.1⟩) hr (by simp)).1
  obtain ⟨o2,n1,n2⟩:=bg (pre:=[32]) (.inr rfl) k3 YX;have GK:∀ n,N + 1 + K≤n→gW s d n o = .ok x o1:=fun n hn=>by
   obtain ⟨n',rfl⟩:∃ n',n = n' + 1 + K:=⟨n - 1 - K,by omega⟩;rw [h2 (n' + 1) (by omega),itemL,JX ht];rfl
  have GL:=bR s2 n1;cases r with
  | nil =>
   have hbs:bs = []:=by cases bs <;> simp_all
   subst hbs;obtain ⟨e1,e2⟩:=hE.no s o2 n2;refine ⟨N + 1 + K + 1,o2,n2,fun n hn=>?_⟩;obtain ⟨n',rfl⟩:∃ n',n = n' + 1:=⟨n - 1,by omega⟩;show listF s d (n' + 1) ko ku o = _;rw [listF,GK n' (by omega)];show (bO s [⟨#[59]⟩,⟨#[38]⟩,gM] o1).bind _ = _;rw [GL];show (aD s o2).bind _ = _;rw [fu e2];show (if dG o2 then _ else Rs.ok (gq (ko ++ [x]) (ku ++ [bu [⟨#[38]⟩] o1])) o2) = _;rw [e1,s1];rfl
  | cons y r =>
   have hh:=(xY (s:=s) (D:=d + 1) (E:=E) (fun y hy=>⟨(hl y (by simp [hy])).1,(hl y (by simp [hy])).2.1⟩) hr (by simp)).2 s o2 n2;obtain ⟨N2,o3,q1,q2⟩:=Cu ih hE (y :: r) bs (ko ++ [x]) (ku ++ [b]) o2 (fun y hy=>hl y (by simp [hy])) hr (by simp) n2;refine ⟨N + 1 + K + N2 + 1,o3,q1,fun n hn=>?_⟩;obtain ⟨n',rfl⟩:∃ n',n = n' + 1:=⟨n - 1,by omega⟩;show listF s d (n' + 1) ko ku o = _;rw [listF,GK n' (by omega)];show (bO s [⟨#[59]⟩,⟨#[38]⟩,gM] o1).bind _ = _;rw [GL];show (aD s o2).bind _ = _;rw [fu hh.line];show (if dG o2 then listF s d n' (ko ++ [x]) (ku ++ [bu [⟨#[38]⟩] o1]) o2 else _) = _;rw [hh.begins,s1];show listF s d n' (ko ++ [x]) (ku ++ [b]) o2 = _;have hq:listF s d n' (ko ++ [x]) (ku ++ [b]) o2 = .ok (gq ((ko ++ [x]) ++ y :: r) ((ku ++ [b]) ++ bs)) o3:=q2 n' (by omega);rw [hq,zq,zq];rfl
theorem l7 {s:ByteArray} {m d:Nat} (ih:Reads s m) {y:ND} (hy:Body y (d + 1) (m + 1)) {o:Tok} {E:T} (hE:Ends E) (h:aH s o (tx y ++ E)):Read s (fun n=>listF s d n [] [] o) y E:=by
 obtain ⟨l,e,h1,h2,h3⟩:=Cs hy.w hy.k;have jD:0 < l.length:=by rw [h2];exact hy.ne
 have aB:=hy.lt;have hl:∀ z ∈ l,dN z.k = true∧W z (d + 1)∧sz z < m:=fun z hz=>⟨(h3 z hz).1,(h3 z hz).2.1,by have:=(h3 z hz).2.2;omega⟩;generalize y.bs = bs at e h1;subst e;rw [V9] at h;have:=Cu ih hE l bs [] [] o hl h1 (fun e=>by rw [e] at jD;exact absurd jD (by decide)) h;simpa using this
theorem mO {s:ByteArray} {m d:Nat} (ih:Reads s m) {y:ND} (hy:Body y (d + 1) (m + 1)) {t:T} (hk:Key t) {o:Tok} {E:T} (hE:Ends E) (h:aH s o (t ++ ([32] ++ (tx y ++ E)))):Read s (fun n=>aS s d n ⟨t.toArray⟩ o) y E:=by
 obtain ⟨hh,_⟩:=jO hy E;obtain ⟨o1,h1,h2⟩:=Lh hk hh.1 h;obtain ⟨N,o2,h3,h4⟩:=l7 ih hy hE h2;refine ⟨N + 1,o2,h3,fun n hn=>?_⟩;obtain ⟨n',rfl⟩:∃ n',n = n' + 1:=⟨n - 1,by omega⟩;show aS s d (n' + 1) ⟨t.toArray⟩ o = _;rw [aS,h1];show (aD s o1).bind _ = _;rw [fu (hh.2 s o1 h2).line];exact h4 n' (by omega)
theorem opened {s:ByteArray} {d:Nat} {o p:Tok} {t:ByteArray} (ht:aT o = t) (ho:Lib.containsS nX t = true) (hd:d≤199) (hn:dL s o = .ok () p) (n:Nat):aF s d (n + 1) o = openedF s (d + 1) n t p:=by
 rw [aF];unfold lg;rw [aI ht,ho,if_pos rfl,if_neg (by omega),hn,ht];rfl
theorem Cv (X:T):Ends (mK ++ ([32] ++ X)):=pV z8 (by decide) (by decide) (by decide) (aV X)
theorem M6 (X:T):Ends (sG ++ ([32] ++ X)):=pV Aa (by decide) (by decide) (by decide) (aV X)
theorem Tv (X:T):Ends (qA ++ ([32] ++ X)):=pV uM (by decide) (by decide) (by decide) (aV X)
theorem Li {Z:T} (h:wH Z):Ends (Gy ++ Z):=pV DY (by decide) (by decide) (by decide) h
theorem Cw {Z:T} (h:wH Z):Ends (iq ++ Z):=pV Ab (by decide) (by decide) (by decide) h
theorem M7 {Z:T} (h:wH Z):Ends ([125] ++ Z):=pV GI (by decide) (by decide) (by decide) h
theorem JY {Z:T} (h:wH Z):Ends ([41] ++ Z):=by
 obtain ⟨c,y,rfl,_⟩:=h;exact Ct (nZ c y) (by decide) (by decide) (by decide)
theorem M8 {y:ND} {D a b:Nat} (h:Body y D a) (hab:a≤b):Body y D b:=⟨h.k,h.ne,h.w,kd h.lt hab⟩
theorem JZ {s:ByteArray} {m d:Nat} (ih:Reads s m) (hd:d≤199) {y:ND} (hy:Body y (d + 1 + 1) (m + 1)) {o:Tok} {Z z:T} (R:Rest Z z) (h:aH s o (([123] ++ ([32] ++ (tx y ++ [125]))) ++ Z)):Read s (fun n=>aF s d n o) (nd 11 [y]) z:=by
 have h:aH s o ([123] ++ ([32] ++ (tx y ++ ([125] ++ Z)))):=by simpa using h
 obtain ⟨_,ht,ha⟩:=fw Ae (aV _) h;obtain ⟨hh,_⟩:=jO hy ([125] ++ Z);obtain ⟨p,n1,n2⟩:=bg (.inr rfl) ha hh.1;obtain ⟨N,o2,h3,h4⟩:=l7 ih hy (M7 R.del) n2;obtain ⟨o3,h5,h6⟩:=sJ GI R h3;refine ⟨N + 2,o3,h6,fun n hn=>?_⟩;obtain ⟨n',rfl⟩:∃ n',n = n' + 2:=⟨n - 2,by omega⟩;show aF s d (n' + 1 + 1) o = _;rw [opened ht (by decide) hd n1,openedF,if_pos rfl,fu (hh.2 s p n2).line];show (listF s (d + 1) n' [] [] p).bind _ = _;rw [show listF s (d + 1) n' [] [] p = .ok y o2 from h4 n' (by omega)];show (aZ s [⟨#[125]⟩] o2).bind _ = _;rw [show aZ s [⟨#[125]⟩] o2 = .ok () o3 from h5];rfl
theorem Qq {s:ByteArray} {m d:Nat} (ih:Reads s m) (hd:d≤199) {y:ND} (hy:Body y (d + 1 + 1) (m + 1)) {o:Tok} {Z z:T} (R:Rest Z z) (h:aH s o (([40] ++ (tx y ++ [41])) ++ Z)):Read s (fun n=>aF s d n o) (nd 12 [y]) z:=by
 have h:aH s o ([40] ++ (tx y ++ ([41] ++ Z))):=by simpa using h
 obtain ⟨hh,c,q,hcq⟩:=jO hy ([41] ++ Z);have zy:Sg [40] (tx y ++ ([41] ++ Z)):=by rw [hcq];exact nD c q
 obtain ⟨k1,k2,ha⟩:=h.sign zy;have ht:aT o = ⟨#[40]⟩:=fK k1 k2;obtain ⟨p,n1,n2⟩:=bg (pre:=[]) (.inl rfl) ha hh.1;obtain ⟨N,o2,h3,h4⟩:=l7 ih hy (JY R.del) n2;have lT:=R.del;have acd:Sg [41] Z:=by
  obtain ⟨c,y,rfl,_⟩:=lT;exact nZ c y
 obtain ⟨k3,k4,ha2⟩:=h3.sign acd;have MB:aT o2 = ⟨#[41]⟩:=fK k3 k4;obtain ⟨o3,h5,h6⟩:=R.next ha2;refine ⟨N + 2,o3,h6,fun n hn=>?_⟩;obtain ⟨n',rfl⟩:∃ n',n = n' + 2:=⟨n - 2,by omega⟩;show aF s d (n' + 1 + 1) o = _;rw [opened ht (by decide) hd n1,openedF,if_neg (by decide),if_pos rfl,fu (hh.2 s p n2).line];show (listF s (d + 1) n' [] [] p).bind _ = _;rw [show listF s (d + 1) n' [] [] p = .ok y o2 from h4 n' (by omega)];show (aZ s [⟨#[41]⟩] o2).bind _ = _;rw [bK (iM MB) h5];rfl
theorem Cx {s:ByteArray} {m d:Nat} (ih:Reads s m) (hd:d≤199) {k:Int} {t:T} (hk:Key t) (ho:Lib.containsS nX ⟨t.toArray⟩ = true) (hl:∀ n p,openedF s (d + 1) (n + 1) ⟨t.toArray⟩ p = loopF s (d + 1) n k p) {a b:ND} (We:Body a (d + 1 + 1) (m + 1)) (hyb:Body b (d + 1 + 1) (m + 1)) {o:Tok} {Z z:T} (R:Rest Z z)
  (h:aH s o ((t ++ ([32] ++ (tx a ++ (qA ++ ([32] ++ (tx b ++ iq)))))) ++ Z)):Read s (fun n=>aF s d n o) (nd k [a,b]) z:=by
 have h:aH s o (t ++ ([32] ++ (tx a ++ (qA ++ ([32] ++ (tx b ++ (iq ++ Z))))))):=by simpa using h
 obtain ⟨_,ht,ha⟩:=fw hk (aV _) h;obtain ⟨hh,_⟩:=jO We (qA ++ ([32] ++ (tx b ++ (iq ++ Z))));obtain ⟨p,n1,n2⟩:=bg (.inr rfl) ha hh.1;obtain ⟨N,o2,h3,h4⟩:=l7 ih We (Tv _) n2;obtain ⟨N2,o3,h5,h6⟩:=mO ih hyb uM (Cw R.del) h3;obtain ⟨o4,h7,h8⟩:=sJ Ab R h5;refine ⟨N + N2 + 3,o4,h8,fun n hn=>?_⟩;obtain ⟨n',rfl⟩:∃ n',n = n' + 3:=⟨n - 3,by omega⟩;show aF s d (n' + 1 + 1 + 1) o = _;rw [opened ht ho hd n1,hl,loopF,fu (hh.2 s p n2).line];show (listF s (d + 1) n' [] [] p).bind _ = _;rw [show listF s (d + 1) n' [] [] p = .ok a o2 from h4 n' (by omega)];show (aS s (d + 1) n' ⟨#[100,111]⟩ o2).bind _ = _;rw [show aS s (d + 1) n' ⟨#[100,111]⟩ o2 = .ok b o3 from h6 n' (by omega)];show (aZ s [⟨#[100,111,110,101]⟩] o3).bind _ = _;rw [show aZ s [⟨#[100,111,110,101]⟩] o3 = .ok () o4 from h7];rfl
theorem Lj {s:ByteArray} {m d:Nat} (ih:Reads s m) (hd:d≤199) {a b:ND} {e:List ND} (We:Body a (d + 1 + 1) (m + 1)) (hyb:Body b (d + 1 + 1) (m + 1)) (he:e = []∨∃ c,e = [c]∧Body c (d + 1 + 1) (m + 1)) {o:Tok} {Z z:T} (R:Rest Z z)
  (h:aH s o (tx (nd 6 (a :: b :: e)) ++ Z)):Read s (fun n=>aF s d n o) (nd 6 (a :: b :: e)) z:=by
 have uC:⟨Eu.toArray⟩ = (⟨#[105,102]⟩:ByteArray):=rfl;have Us:∀ n p,openedF s (d + 1) (n + 1) ⟨Eu.toArray⟩ p = (bZ s (d + 1) n p).bind fun x o=>(aZ s [⟨#[102,105]⟩] o).bind fun _ o=>.ok x o:=fun n p=>by
  rw [openedF,if_neg (by decide),if_neg (by decide),if_pos uC]
 rcases he with rfl | ⟨c,rfl,hyc⟩
 ·have h:aH s o (Eu ++ ([32] ++ (tx a ++ (mK ++ ([32] ++ (tx b ++ (Gy ++ Z))))))):=by rw [Lb] at h;simpa using h
  obtain ⟨_,ht,ha⟩:=fw xq (aV _) h;obtain ⟨hh,_⟩:=jO We (mK ++ ([32] ++ (tx b ++ (Gy ++ Z))));obtain ⟨p,n1,n2⟩:=bg (.inr rfl) ha hh.1;obtain ⟨N,o2,h3,h4⟩:=l7 ih We (Cv _) n2;obtain ⟨N2,o3,h5,h6⟩:=mO ih hyb z8 (Li R.del) h3;obtain ⟨_,Tw,_⟩:=fw DY R.del h5;obtain ⟨o4,h7,h8⟩:=sJ DY R h5;refine ⟨N + N2 + 3,o4,h8,fun n hn=>?_⟩;obtain ⟨n',rfl⟩:∃ n',n = n' + 3:=⟨n - 3,by omega⟩;show aF s d (n' + 1 + 1 + 1) o = _;rw [opened ht (by decide) hd n1,Us,bZ,fu (hh.2 s p n2).line];show ((listF s (d + 1) n' [] [] p).bind _).bind _ = _;rw [show listF s (d + 1) n' [] [] p = .ok a o2 from h4 n' (by omega)];show ((aS s (d + 1) n' ⟨#[116,104,101,110]⟩ o2).bind _).bind _ = _;rw [show aS s (d + 1) n' ⟨#[116,104,101,110]⟩ o2 = .ok b o3 from h6 n' (by omega)];show (if bu [⟨#[101,108,115,101]⟩] o3 = true then _ else if bu [⟨#[101,108,105,102]⟩] o3 = true then _ else Rs.ok (nd 6 [a,b]) o3).bind _ = _;rw [aI Tw,aI Tw,if_neg (by decide),if_neg (by decide)];show (aZ s [⟨#[102,105]⟩] o3).bind _ = _;rw [show aZ s [⟨#[102,105]⟩] o3 = .ok () o4 from h7];rfl
 ·have h:aH s o (Eu ++ ([32] ++ (tx a ++ (mK ++ ([32] ++ (tx b ++ (sG ++ ([32] ++ (tx c ++ (Gy ++ Z)))))))))):=by rw [GJ] at h;simpa using h
  obtain ⟨_,ht,ha⟩:=fw xq (aV _) h;obtain ⟨hh,_⟩:=jO We (mK ++ ([32] ++ (tx b ++ (sG ++ ([32] ++ (tx c ++ (Gy ++ Z)))))));obtain ⟨p,n1,n2⟩:=bg (.inr rfl) ha hh.1;obtain ⟨N,o2,h3,h4⟩:=l7 ih We (Cv _) n2;obtain ⟨N2,o3,h5,h6⟩:=mO ih hyb z8 (M6 _) h3;obtain ⟨_,Tw,_⟩:=fw Aa (aV _) h5;obtain ⟨N3,o5,h9,yl⟩:=mO ih hyc Aa (Li R.del) h5;obtain ⟨o4,h7,h8⟩:=sJ DY R h9;refine ⟨N + N2 + N3 + 3,o4,h8,fun n hn=>?_⟩;obtain ⟨n',rfl⟩:∃ n',n = n' + 3:=⟨n - 3,by omega⟩;show aF s d (n' + 1 + 1 + 1) o = _;rw [opened ht (by decide) hd n1,Us,bZ,fu (hh.2 s p n2).line];show ((listF s (d + 1) n' [] [] p).bind _).bind _ = _;rw [show listF s (d + 1) n' [] [] p = .ok a o2 from h4 n' (by omega)];show ((aS s (d + 1) n' ⟨#[116,104,101,110]⟩ o2).bind _).bind _ = _;rw [show aS s (d + 1) n' ⟨#[116,104,101,110]⟩ o2 = .ok b o3 from h6 n' (by omega)];show (if bu [⟨#[101,108,115,101]⟩] o3 = true then (aS s (d + 1) n' ⟨#[101,108,115,101]⟩ o3).bind fun z o=>.ok (nd 6 [a,b,z]) o else _).bind _ = _;rw [show bu [⟨#[101,108,115,101]⟩] o3 = true from iM Tw,if_pos rfl,show aS s (d + 1) n' ⟨#[101,108,115,101]⟩ o3 = .ok c o5 from yl n' (by omega)];show (aZ s [⟨#[102,105]⟩] o5).bind _ = _;rw [show aZ s [⟨#[102,105]⟩] o5 = .ok () o4 from h7];rfl
end Pr
namespace Pr
open j6 Pt Bd Tr Sp Lx Ps
theorem qC (a b:T):∀ {L:List PL},(∀ w ∈ L,aG w = true)→L.length≤(behind a b (L.map aR)).length
 | [],_=>zVy _
 | w :: r,h=>by
  have h1:=GD (h w (by simp));have h2:=qC b b (L:=r) fun x hx=>h x (by simp [hx]);show r.length + 1≤(a ++ (aR w ++ behind b b (r.map aR))).length;rw [zI,zI];show r.length + 1≤a.length + ((textL w 0).length + _);omega
theorem uO {s:ByteArray} {o:Tok} {X Z:T} (h:aH s o (X ++ Z)):X.length≤s.size:=by
 obtain ⟨p,hp,hr,_⟩:=h;have:=congrArg List.length hr;rw [aQ,zI] at this;omega
theorem Qr {w:PL} {r:List PL} {Z:T} (hw:aG w = true) (hZ:wH Z):bW (zU (w :: r) ++ Z):=by
 obtain ⟨d,y,e,hd⟩:=yO (r:=r) hZ;rw [sH,zq,e];exact bW.word hw hd y
theorem Tx {s:ByteArray} {o:Tok} {X:T} (h:aH s o (qA ++ ([32] ++ X))):lQ s o = .ok (false,[]) o:=by
 obtain ⟨_,ht,_⟩:=fw uM (aV X) h;unfold lQ;rw [nE (by rw [aI ht];decide)];show (aD s o).bind _ = _;rw [fu (by rw [aI ht];decide)];show (bO s [⟨#[105,110]⟩] o).bind _ = _;rw [nE (by rw [aI ht];decide)];rfl
theorem Qs {s:ByteArray} {o:Tok} {X:T} {ws:List PL} (hws:∀ w ∈ ws,aG w = true) (h:aH s o (BD ++ (behind [32] [32] (ws.map aR) ++ ([59] ++ ([32] ++ (qA ++ ([32] ++ X))))))):∃ o',lQ s o = .ok (true,ws) o'∧aH s o' (qA ++ ([32] ++ X)):=by
 have Yj:wH ([59] ++ ([32] ++ (qA ++ ([32] ++ X)))):=⟨59,_,rfl,by decide⟩;have R:Rest ([59] ++ ([32] ++ (qA ++ ([32] ++ X)))) ([59] ++ (32 :: (qA ++ ([32] ++ X)))):=Rest.YS _;obtain ⟨_,ht,ha⟩:=fw Ac (yO Yj) h;have key:∃ o1,dL s o = .ok () o1∧Seq s o1 ws ([59] ++ ([32] ++ (qA ++ ([32] ++ X)))) ([59] ++ (32 :: (qA ++ ([32] ++ X))))∧ws.length < F s:=by
  cases ws with
  | nil =>
   obtain ⟨o1,h1,h2⟩:=R.next ha;exact ⟨o1,h1,h2,by unfold F;simp⟩
  | cons w r =>
   rw [xX,zq] at ha;obtain ⟨o1,h1,h2⟩:=bg (.inr rfl) ha (Qr (hws w (by simp)) Yj);refine ⟨o1,h1,h2,?_⟩;have:=uO h2;have h3:=qC [] [32] hws;unfold zU at this;unfold F;omega
 obtain ⟨o1,h1,h2,h3⟩:=key;obtain ⟨o2,h4,h5⟩:=uL R ws (F s) [] o1 hws h2 h3;obtain ⟨k1,k2,k3⟩:=h5.sign (DL _);have MB:aT o2 = ⟨#[59]⟩:=fK k1 k2;obtain ⟨o3,h6,h7⟩:=bg (pre:=[32]) (.inr rfl) k3 (mM uM (aV X));obtain ⟨_,Tw,_⟩:=fw uM (aV X) h7;refine ⟨o3,?_,h7⟩;unfold lQ;rw [nE (by rw [aI ht];decide)];show (aD s o).bind _ = _;rw [fu (by rw [aI ht];decide)];show (bO s [⟨#[105,110]⟩] o).bind _ = _;rw [bR (iM (t:=⟨#[105,110]⟩) ht) h1];show (wordsN s (F s) [] o1).bind _ = _;rw [h4];show (aZ s [⟨#[59]⟩,gM] o2).bind _ = _;rw [bK (by rw [aI MB];decide) h6];show (aD s o3).bind _ = _;rw [fu (by rw [aI Tw];decide)];rfl
theorem Qt {s:ByteArray} {m d:Nat} (ih:Reads s m) (hd:d≤199) {nm:ByteArray} {g:Bool} {ws:List PL} (hf:DC nm g ws = true) {y:ND} (hy:Body y (d + 1 + 1) (m + 1)) {o:Tok} {Z z:T} (R:Rest Z z)
  (h:aH s o (tx ⟨9,nm,g,[],ws,toN [y],[],.nil⟩ ++ Z)):Read s (fun n=>aF s d n o) ⟨9,nm,g,[],ws,toN [y],[],.nil⟩ z:=by
 unfold DC at hf;simp only [ud,Bool.or_eq_true,decide_eq_true_eq] at hf;obtain ⟨⟨hn,hg⟩,hw⟩:=hf;have hws:∀ w ∈ ws,aG w = true:=fun w h=>List.all_eq_true.1 hw w h;obtain ⟨Y,hY⟩:∃ Y,Y = qA ++ ([32] ++ (tx y ++ (iq ++ Z))):=⟨_,rfl⟩;obtain ⟨M,hM⟩:∃ M,M = (if g then [32] ++ (BD ++ (behind [32] [32] (ws.map aR) ++ [59])) else []) ++ ([32] ++ Y):=⟨_,rfl⟩;have h:aH s o (uK ++ ([32] ++ (nm.data.toList ++ M))):=by rw [Tu] at h;rw [hM,hY];simpa using h
 have hMd:∃ q,M = 32 :: q:=by
  rw [hM];cases g
  ·exact ⟨_,rfl⟩
  ·exact ⟨_,rfl⟩
 obtain ⟨q,hq⟩:=hMd;obtain ⟨_,ht,ha⟩:=fw DX (aV _) h;have OA:bW (nm.data.toList ++ M):=by rw [hq];exact bW.kw (kH hn) (by decide) q
 obtain ⟨p,n1,n2⟩:=bg (.inr rfl) ha OA;have n2':aH s p (nm.data.toList ++ 32 :: q):=by rw [← hq];exact n2
 obtain ⟨k1,_,k3,k4⟩:=n2'.kw (kH hn) (by decide);rw [vM] at k3;have J2:iT p = true:=by unfold iT;rw [k1,k3,hn];rfl
 have he:∃ p2 p3,dL s p = .ok () p2∧lQ s p2 = .ok (g,ws) p3∧aH s p3 Y:=by
  rw [← hq] at k4;rw [hM] at k4;rw [hY] at k4 ⊢
  cases g
  ·obtain ⟨p2,a1,a2⟩:=bg (pre:=[32]) (.inr rfl) k4 (mM uM (aV _));have hw0:ws = []:=by
    rcases hg with hg | hg
    ·cases hg
    ·exact List.length_eq_zero_iff.1 hg
   subst hw0;exact ⟨p2,p2,a1,Tx a2,a2⟩
  ·have k4':After s p ([32] ++ (BD ++ (behind [32] [32] (ws.map aR) ++ ([59] ++ ([32] ++ (qA ++ ([32] ++ (tx y ++ (iq ++ Z))))))))):=by simpa using k4
   obtain ⟨p2,a1,a2⟩:=bg (pre:=[32]) (.inr rfl) k4' (mM Ac (yO ⟨59,_,rfl,by decide⟩));obtain ⟨p3,b1,b2⟩:=Qs hws a2;exact ⟨p2,p3,a1,b1,b2⟩
 obtain ⟨p2,p3,a1,a2,a3⟩:=he;rw [hY] at a3;obtain ⟨N,o3,h5,h6⟩:=mO ih hy uM (Cw R.del) a3;obtain ⟨o4,h7,h8⟩:=sJ Ab R h5;refine ⟨N + 3,o4,h8,fun n BL=>?_⟩;obtain ⟨n',rfl⟩:∃ n',n = n' + 3:=⟨n - 3,by omega⟩;show aF s d (n' + 1 + 1 + 1) o = _;have uC:⟨uK.toArray⟩ = (⟨#[102,111,114]⟩:ByteArray):=rfl;rw [opened ht (by decide) hd n1,openedF,if_neg (by decide),if_neg (by decide),if_neg (by decide),if_neg (by decide),if_neg (by decide),if_pos uC,iW];have pE:mI s p = .ok nm p2:=by
  unfold mI;rw [J2,if_pos rfl,a1,k3];rfl
 rw [pE];show (lQ s p2).bind _ = _;rw [a2];show (aS s (d + 1) n' ⟨#[100,111]⟩ p3).bind _ = _;rw [show aS s (d + 1) n' ⟨#[100,111]⟩ p3 = .ok y o3 from h6 n' (by omega)];show (aZ s [⟨#[100,111,110,101]⟩] o3).bind _ = _;rw [show aZ s [⟨#[100,111,110,101]⟩] o3 = .ok () o4 from h7];rfl
theorem qD {w:PL} (hw:aG w = true) (X:T):∃ c z,aR w ++ X = c :: z∧lL c.toNat = false:=by
 obtain ⟨c,z,e,_,_,_,_,h⟩:=qz hw X;exact ⟨c,z,e,h⟩
theorem Ah {s:ByteArray} {r:List PL} {Q:T} (hr:∀ w ∈ r,aG w = true):bW (behind [124] [124] (r.map aR) ++ ([41] ++ (32 :: Q)))∧wH (behind [124] [124] (r.map aR) ++ ([41] ++ (32 :: Q))):=by
 cases r with
 | nil=>exact ⟨bW.sign (t:=[41]) (nZ 32 Q),⟨41,_,rfl,by decide⟩⟩
 | cons w r =>
  obtain ⟨c,z,e,h⟩:=qD (hr w (by simp)) (behind [124] [124] (r.map aR) ++ ([41] ++ (32 :: Q)));refine ⟨?_,⟨124,_,rfl,by decide⟩⟩;show bW ([124] ++ (aR w ++ behind [124] [124] (r.map aR)) ++ ([41] ++ (32 :: Q)));rw [zq,zq,e];exact bW.sign (Qc h z)
theorem Cy {s:ByteArray} {o:Tok} {w:PL} {r:List PL} {Q:T} (hw:aG w = true) (hr:∀ x ∈ r,aG x = true) (h:aH s o (aR w ++ (behind [124] [124] (r.map aR) ++ ([41] ++ (32 :: Q))))):∃ o',gV s o = .ok w o'∧aH s o' (behind [124] [124] (r.map aR) ++ ([41] ++ (32 :: Q))):=by
 obtain ⟨hf,c,y,e,hc⟩:=Ah (s:=s) (Q:=Q) hr;have h':=h;rw [e] at h';obtain ⟨h1,h2,h3⟩:=h'.word hw hc;rw [← e] at h3;obtain ⟨o',a1,a2⟩:=bg (pre:=[]) (.inl rfl) h3 hf;exact ⟨o',by unfold gV;rw [if_pos h1,a1,h2];rfl,a2⟩
theorem Cz {s:ByteArray} {Q:T}:∀ (r:List PL) (n:Nat) (acc:List PL) (o:Tok),(∀ x ∈ r,aG x = true)→aH s o (behind [124] [124] (r.map aR) ++ ([41] ++ (32 :: Q)))→r.length < n→∃ o',mJ s n acc o = .ok (acc ++ r) o'∧aH s o' ([41] ++ (32 :: Q))
 | [],n + 1,acc,o,_,h,_=>by
  obtain ⟨k1,k2,_⟩:=aH.sign (t:=[41]) h (nZ 32 Q);have ht:aT o = ⟨#[41]⟩:=fK k1 k2;refine ⟨o,?_,h⟩;rw [mJ,nE (by rw [aI ht];decide),List.append_nil];rfl
 | w :: r,n + 1,acc,o,hr,h,hn=>by
  have h:aH s o ([124] ++ (aR w ++ (behind [124] [124] (r.map aR) ++ ([41] ++ (32 :: Q))))):=by
   have e:behind [124] [124] ((w :: r).map aR) = [124] ++ (aR w ++ behind [124] [124] (r.map aR)):=rfl;rw [e,zq,zq] at h;exact h
  obtain ⟨c,z,e,hc⟩:=qD (hr w (by simp)) (behind [124] [124] (r.map aR) ++ ([41] ++ (32 :: Q)));have zy:Sg [124] (aR w ++ (behind [124] [124] (r.map aR) ++ ([41] ++ (32 :: Q)))):=by rw [e];exact Qc hc z
  obtain ⟨k1,k2,k3⟩:=h.sign zy;have ht:aT o = ⟨#[124]⟩:=fK k1 k2;have hw:=hr w (by simp);have qU:bW (aR w ++ (behind [124] [124] (r.map aR) ++ ([41] ++ (32 :: Q)))):=by
   obtain ⟨c2,y2,e2,oN⟩:=(Ah (s:=s) (Q:=Q) (r:=r) fun x hx=>hr x (by simp [hx])).2;rw [e2];exact bW.word hw oN y2
  obtain ⟨o1,a1,a2⟩:=bg (pre:=[]) (.inl rfl) k3 qU;obtain ⟨o2,b1,b2⟩:=Cy hw (fun x hx=>hr x (by simp [hx])) a2;obtain ⟨o3,c1,c2⟩:=Cz r n (acc ++ [w]) o2 (fun x hx=>hr x (by simp [hx])) b2 (by simp only [zz] at hn;omega);refine ⟨o3,?_,c2⟩;rw [mJ,bR (iM ht) a1];show (gV s o1).bind _ = _;rw [b1];show mJ s n (acc ++ [w]) o2 = _;rw [c1,zq];rfl
theorem xZ {s:ByteArray} {o:Tok} {c:CD} {Q:T} (hQ:bW Q) (hl:∀ s o,aH s o Q→bu [gM] o = false) (h:aH s o ([59,59] ++ (32 :: Q))):∃ o',je s c o = .ok c o'∧aH s o' Q:=by
 obtain ⟨k1,k2,k3⟩:=h.sign (Gx _);have ht:aT o = ⟨#[59,59]⟩:=fK k1 k2;obtain ⟨o1,a1,a2⟩:=bg (pre:=[32]) (.inr rfl) k3 hQ;refine ⟨o1,?_,a2⟩;unfold je;rw [if_neg (by rw [aI ht];decide),bK (iM ht) a1];show (aD s o1).bind _ = _;rw [fu (hl s o1 a2)];rfl
theorem Ll {w:PL} {r:List PL} {B:List T} (Q:T):caseT (w :: r) B ++ Q = [40] ++ (aR w ++ (behind [124] [124] (r.map aR) ++ ([41] ++ (32 :: (B.flatten ++ ([59,59] ++ (32 :: Q))))))):=by
 have e:behind [40] [124] ((w :: r).map aR) = [40] ++ (aR w ++ behind [124] [124] (r.map aR)):=rfl;unfold caseT;rw [e];simp
theorem J3 {s:ByteArray} {m d:Nat} (ih:Reads s m) {c:CD} (hc:Entry c (d + 1) (m + 1)) {o:Tok} {Q:T} (hQ:bW Q) (hl:∀ s o,aH s o Q→bu [gM] o = false) (h:aH s o (Bc c ++ Q)):aT o = ⟨#[40]⟩∧Read s (fun n=>eD s d n o) c Q:=by
 obtain ⟨ps,bd⟩:=c;obtain ⟨jD,iF,DZ,BU⟩:=hc;cases ps with
 | nil=>exact absurd rfl jD
 | cons w r =>
  have h:aH s o (caseT (w :: r) (bd.map tx) ++ Q):=h;rw [Ll] at h;have hw:=iF w (by simp);have hr:∀ x ∈ r,aG x = true:=fun x hx=>iF x (by simp [hx]);obtain ⟨X,hX⟩:∃ X,X = (bd.map tx).flatten ++ ([59,59] ++ (32 :: Q)):=⟨_,rfl⟩;rw [← hX] at h;obtain ⟨c1,z1,e1,_⟩:=qD hw (behind [124] [124] (r.map aR) ++ ([41] ++ (32 :: X)));have zy:Sg [40] (aR w ++ (behind [124] [124] (r.map aR) ++ ([41] ++ (32 :: X)))):=by rw [e1];exact nD c1 z1
  obtain ⟨k1,k2,k3⟩:=h.sign zy;have ht:aT o = ⟨#[40]⟩:=fK k1 k2;refine ⟨ht,?_⟩;have qU:bW (aR w ++ (behind [124] [124] (r.map aR) ++ ([41] ++ (32 :: X)))):=by
   obtain ⟨c2,y2,e2,oN⟩:=(Ah (s:=s) (Q:=X) hr).2;rw [e2];exact bW.word hw oN y2
  obtain ⟨o1,a1,a2⟩:=bg (pre:=[]) (.inl rfl) k3 qU;obtain ⟨o2,b1,b2⟩:=Cy hw hr a2;have hlen:r.length < F s:=by
   have h1:=uO b2;have h2:=qC [124] [124] hr;unfold F;omega
  obtain ⟨o3,c1,c2⟩:=Cz r (F s) [w] o2 hr b2 hlen;obtain ⟨k4,k5,k6⟩:=c2.sign (nZ 32 X);have Tw:aT o3 = ⟨#[41]⟩:=fK k4 k5;have Qv:∀ n p,aZ s [⟨#[41]⟩] o3 = .ok () p→eD s d (n + 1) o = (aD s p).bind fun _ o=>if dG o then (listF s d n [] [] o).bind fun y o=>je s (w :: r,[y]) o else je s (w :: r,[]) o:=fun n p hp=>by
   rw [eD,bR (iM ht) a1];show (gV s o1).bind _ = _;rw [b1];show (mJ s (F s) [w] o2).bind _ = _;rw [c1];show (aZ s [⟨#[41]⟩] o3).bind _ = _;rw [hp];rfl
  have hE:Ends ([59,59] ++ (32 :: Q)):=Ct (Gx _) (by decide) (by decide) (by decide)
  match bd,DZ,BU,hX with
  | [],_,_,hX =>
   have hX:X = [59,59] ++ (32 :: Q):=hX;rw [hX] at k6;obtain ⟨p,d1,d2⟩:=bg (pre:=[32]) (.inr rfl) k6 hE.fine;obtain ⟨e2,e3⟩:=hE.no s p d2;obtain ⟨o5,f1,f2⟩:=xZ (c:=(w :: r,[])) hQ hl d2;refine ⟨1,o5,f2,fun n hn=>?_⟩;obtain ⟨n',rfl⟩:∃ n',n = n' + 1:=⟨n - 1,by omega⟩;show eD s d (n' + 1) o = _;rw [Qv n' p (bK (iM Tw) d1),fu e3];show (if dG p then _ else je s (w :: r,[]) p) = _;rw [e2];exact f1
  | [y],_,BU,hX =>
   have hX:X = tx y ++ ([59,59] ++ (32 :: Q)):=by rw [hX];simp
   have hy:=BU y (by simp);obtain ⟨hh,_⟩:=jO hy ([59,59] ++ (32 :: Q));rw [hX] at k6;obtain ⟨p,d1,d2⟩:=bg (pre:=[32]) (.inr rfl) k6 hh.1;have hhp:=hh.2 s p d2;obtain ⟨N,o4,g1,g2⟩:=l7 ih hy hE d2;obtain ⟨o5,f1,f2⟩:=xZ (c:=(w :: r,[y])) hQ hl g1;refine ⟨N + 1,o5,f2,fun n hn=>?_⟩;obtain ⟨n',rfl⟩:∃ n',n = n' + 1:=⟨n - 1,by omega⟩;show eD s d (n' + 1) o = _;rw [Qv n' p (bK (iM Tw) d1),fu hhp.line];show (if dG p then (listF s d n' [] [] p).bind fun y o=>je s (w :: r,[y]) o else _) = _;rw [hhp.begins,if_pos rfl,show listF s d n' [] [] p = .ok y o4 from g2 n' (by omega)];exact f1
  | _ :: _ :: _,DZ,_,_=>simp at DZ
theorem Ai {D m:Nat} {Z:T} (hZ:wH Z):∀ {cs:List CD},(∀ c ∈ cs,Entry c D m)→bW ((cs.map Bc).flatten ++ (jw ++ Z))∧∀ s o,aH s o ((cs.map Bc).flatten ++ (jw ++ Z))→bu [gM] o = false
 | [],_=>⟨show bW (jw ++ Z) from mM Ad hZ,fun s o h=>by
   have h:aH s o (jw ++ Z):=h;obtain ⟨_,ht,_⟩:=fw Ad hZ h
   rw [aI ht];decide⟩
 | c :: cs,h=>by
  obtain ⟨ps,bd⟩:=c;obtain ⟨jD,iF,_,_⟩:=h _ (List.mem_cons_self ..);cases ps with
  | nil=>exact absurd rfl jD
  | cons w r =>
   have e:((((w :: r,bd) :: cs).map Bc).flatten ++ (jw ++ Z)) = caseT (w :: r) (bd.map tx) ++ ((cs.map Bc).flatten ++ (jw ++ Z)):=by
    show (caseT (w :: r) (bd.map tx) ++ (cs.map Bc).flatten) ++ (jw ++ Z) = _;rw [zq]
   rw [e,Ll];obtain ⟨c1,z1,e1,_⟩:=qD (iF w (by simp)) (behind [124] [124] (r.map aR) ++ ([41] ++ (32 :: ((bd.map tx).flatten ++ ([59,59] ++ (32 :: ((cs.map Bc).flatten ++ (jw ++ Z))))))));rw [e1];refine ⟨bW.sign (nD c1 z1),fun s o h=>?_⟩;obtain ⟨k1,k2,_⟩:=h.sign (nD c1 z1);rw [aI (fK k1 k2)];decide
theorem Aj {s:ByteArray} {m d:Nat} (ih:Reads s m) {Z z:T} (R:Rest Z z) (x:PL):∀ (cs Rz:List CD) (o:Tok),(∀ c ∈ cs,Entry c (d + 1) (m + 1))→aH s o ((cs.map Bc).flatten ++ (jw ++ Z))→Read s (fun n=>choiceL s d n x Rz o) ⟨10,⟨#[]⟩,false,[],[x],.nil,[],toC (Rz ++ cs)⟩ z
 | [],Rz,o,_,h=>by
  have h:aH s o (jw ++ Z):=h;obtain ⟨_,ht,ha⟩:=fw Ad R.del h;obtain ⟨o1,h1,h2⟩:=R.next ha;refine ⟨1,o1,h2,fun n hn=>?_⟩;obtain ⟨n',rfl⟩:∃ n',n = n' + 1:=⟨n - 1,by omega⟩;show choiceL s d (n' + 1) x Rz o = _;rw [choiceL,bR (iM (t:=⟨#[101,115,97,99]⟩) ht) h1,List.append_nil];rfl
 | c :: cs,Rz,o,hcs,h=>by
  have h:aH s o (Bc c ++ ((cs.map Bc).flatten ++ (jw ++ Z))):=by
   rw [List.map_cons,List.flatten_cons,zq] at h;exact h
  obtain ⟨hf,hl⟩:=Ai R.del (fun c hc=>hcs c (List.mem_cons_of_mem _ hc));obtain ⟨ht,N,o1,h1,h2⟩:=J3 ih (hcs c (List.mem_cons_self ..)) hf hl h;obtain ⟨N2,o2,h3,h4⟩:=Aj ih R x cs (Rz ++ [c]) o1 (fun c hc=>hcs c (List.mem_cons_of_mem _ hc)) h1;refine ⟨N + N2 + 1,o2,h3,fun n hn=>?_⟩;obtain ⟨n',rfl⟩:∃ n',n = n' + 1:=⟨n - 1,by omega⟩;show choiceL s d (n' + 1) x Rz o = _;rw [choiceL,nE (by rw [aI ht];decide)];show (eD s d n' o).bind _ = _;rw [show eD s d n' o = .ok c o1 from h2 n' (by omega)];have hq:choiceL s d n' x (Rz ++ [c]) o1 = .ok ⟨10,⟨#[]⟩,false,[],[x],.nil,[],toC ((Rz ++ [c]) ++ cs)⟩ o2:=h4 n' (by omega);show choiceL s d n' x (Rz ++ [c]) o1 = _;rw [hq,zq];rfl
theorem M9 {s:ByteArray} {m d:Nat} (ih:Reads s m) (hd:d≤199) {w:PL} (hw:aG w = true) {cs:List CD} (hcs:∀ c ∈ cs,Entry c (d + 1 + 1) (m + 1)) {o:Tok} {Z z:T} (R:Rest Z z)
  (h:aH s o (tx ⟨10,⟨#[]⟩,false,[],[w],.nil,[],toC cs⟩ ++ Z)):Read s (fun n=>aF s d n o) ⟨10,⟨#[]⟩,false,[],[w],.nil,[],toC cs⟩ z:=by
 obtain ⟨Y,hY⟩:∃ Y,Y = (cs.map Bc).flatten ++ (jw ++ Z):=⟨_,rfl⟩;have h:aH s o (ul ++ ([32] ++ (aR w ++ 32 :: (BD ++ ([32] ++ Y))))):=by rw [Ld] at h;rw [hY];simpa using h
 obtain ⟨_,ht,ha⟩:=fw zY (aV _) h;obtain ⟨p,n1,n2⟩:=bg (.inr rfl) ha (bW.word hw (by decide) _);obtain ⟨k1,k2,k3⟩:=n2.word hw (by decide);obtain ⟨p2,a1,a2⟩:=bg (pre:=[32]) (.inr rfl) k3 (mM Ac (aV Y));obtain ⟨_,MB,_⟩:=fw Ac (aV Y) a2;obtain ⟨hf,hl⟩:=Ai R.del hcs;rw [← hY] at hf hl;obtain ⟨p3,b1,b2⟩:=Lh Ac hf a2;have Xh:=hl s p3 b2;rw [hY] at b2;obtain ⟨N,o4,c1,c2⟩:=Aj ih R w cs [] p3 hcs b2;refine ⟨N + 3,o4,c1,fun n hn=>?_⟩;obtain ⟨n',rfl⟩:∃ n',n = n' + 3:=⟨n - 3,by omega⟩;show aF s d (n' + 1 + 1 + 1) o = _;rw [opened ht (by decide) hd n1,openedF,if_neg (by decide),if_neg (by decide),if_neg (by decide),if_neg (by decide),if_neg (by decide),if_neg (by decide),dU];have YY:gV s p = .ok w p2:=by unfold gV;rw [if_pos k1,a1,k2];rfl
 rw [YY];show (aD s p2).bind _ = _;rw [fu (by rw [aI MB];decide)];show (aZ s [⟨#[105,110]⟩] p2).bind _ = _;rw [show aZ s [⟨#[105,110]⟩] p2 = .ok () p3 from b1];show (aD s p3).bind _ = _;rw [fu Xh];exact c2 n' (by omega)
end Pr
namespace Pr
open j6 Pt Bd Tr Sp Lx Ps
theorem GM {s:ByteArray} {d:Nat} {x:ND} (hx:W x (d + 1)) (hk:x.k = 1) {o:Tok} {Z z:T} (R:Rest Z z) (h:aH s o (tx x ++ Z)):Read s (fun n=>aU s d n o) x z:=by
 obtain ⟨e,hs⟩:=Qg hx hk;obtain ⟨ha,hw,hf,w,r,LW,Qo⟩:=vR hs;generalize x.az = az at e ha LW;generalize x.ws = ws at e hw hf LW;subst e;rw [YW,zX ha] at h;have iF:=zW ha hw;have h':aH s o (zU (w :: r) ++ Z):=by rw [← LW];exact h
 obtain ⟨k1,k2,_⟩:=tL (iF w (by rw [LW];simp)) (fun y hy=>iF y (by rw [LW];simp [hy])) R h';have hh:=DW k1 k2 (iF w (by rw [LW];simp)) Qo;have ace:Seq s o (az.map vP ++ ws) Z z:=by
  rw [show az.map vP ++ ws = w :: r from LW];exact h'
 have hlen:(M4 az ws).length≤s.size:=Nat.le_trans (qC [] [32] iF) (uO h);have Ba:az.length + ws.length≤s.size:=by
  unfold M4 at hlen;simpa using hlen
 obtain ⟨o1,a1,a2⟩:=vQ R ws hw hf az (F s) [] o ha ace (by unfold F;omega);obtain ⟨o2,b1,b2⟩:=uL R ws (F s) [] o1 hw a2 (by unfold F;omega);have YZ:=R.stops.stop s o2 b2;refine ⟨2,o2,b2,fun n hn=>?_⟩;obtain ⟨n',rfl⟩:∃ n',n = n' + 2:=⟨n - 2,by omega⟩;show aU s d (n' + 1 + 1) o = _;rw [aU,if_pos hh.JQ,dO];show (assignsN s (F s) [] o).bind _ = _;rw [a1];show (wordsN s (F s) [] o1).bind _ = _;rw [b1];show (if (iT o && (([] ++ ws:List PL)).length == 1) = true then (bO s [⟨#[40]⟩] o2).bind _ else _) = _;rw [nE YZ.2];split <;> rfl
theorem D5 {l:T} (h:bV l = true):splitA (K7 l) = none:=by
 have hb:=(og h).2;apply qB;show Py l = none;cases he:Py l with
 | none=>rfl
 | some n =>
  obtain ⟨h1,_,h3⟩:=sw he;exact absurd rfl (hb 61 (List.mem_of_getElem? (Lib.indexByte_some h1).1)).2.1
theorem Na {s:ByteArray} {m d:Nat} (ih:Reads s m) {nm:ByteArray} (hn:bV nm.data.toList = true) (Qo:bF nm.data.toList = false) {y:ND} (hy:W y (d + 1)) (hyk:df y.k = true) (aB:sz y < m) {o:Tok} {Z z:T} (R:Rest Z z)
  (h:aH s o (tx ⟨13,nm,false,[],[],toN [y],[],.nil⟩ ++ Z)):Read s (fun n=>aU s d n o) ⟨13,nm,false,[],[],toN [y],[],.nil⟩ z:=by
 have h:aH s o (nm.data.toList ++ 40 :: (41 :: 32 :: (tx y ++ Z))):=by rw [Qn] at h;simpa using h
 obtain ⟨k1,k2,k3,k4⟩:=h.kw (kH hn) (by decide);rw [vM] at k3;have hh:=DW k1 k2 (kH hn) Qo;have hi:dN y.k = true:=by
  unfold df at hyk;simp only [ud,decide_eq_true_eq] at hyk;unfold dN ik eH bQ;simp only [Bool.or_eq_true,beq_iff_eq,ud,decide_eq_true_eq];omega
 have hyh:=(jo (sz y + 1) y (d + 1) (by omega) hy hi).1 Z R.del;obtain ⟨o1,a1,a2⟩:=bg (pre:=[]) (x:=[40] ++ (41 :: 32 :: (tx y ++ Z))) (.inl rfl) k4 (bW.sign (nD 41 _));obtain ⟨b1,b2,b3⟩:=a2.sign (nD 41 _);have YM:aT o1 = ⟨#[40]⟩:=fK b1 b2;obtain ⟨o2,c1,c2⟩:=bg (pre:=[]) (x:=[41] ++ (32 :: (tx y ++ Z))) (.inl rfl) b3 (bW.sign (nZ 32 _));obtain ⟨d1,d2,d3⟩:=c2.sign (nZ 32 _);have MB:aT o2 = ⟨#[41]⟩:=fK d1 d2;obtain ⟨o3,e1,e2⟩:=bg (pre:=[32]) (x:=tx y ++ Z) (.inr rfl) d3 hyh.1;have Xh:=(hyh.2 s o3 e2).line;obtain ⟨N,o4,f1,f2⟩:=ih.cpd y d o3 Z z aB hy hyk R e2;refine ⟨N + 2,o4,f1,fun n BL=>?_⟩;obtain ⟨n',rfl⟩:∃ n',n = n' + 2:=⟨n - 2,by omega⟩;have acg:jv s o = .ok [] o:=by
  show assignsN s (2 * s.size + 1 + 1) [] o = _;rw [assignsN,if_pos k1,k2,D5 hn]
 have ach:lc s o = .ok [K7 nm.data.toList] o1:=by
  show wordsN s (2 * s.size + 1 + 1) [] o = _;rw [wordsN,if_pos k1,gV,if_pos k1,a1,k2];show wordsN s (2 * s.size + 1) ([] ++ [K7 nm.data.toList]) o1 = _;rw [wordsN,if_neg (by omega)];rfl
 have J2:iT o = true:=by unfold iT;rw [k1,k3,hn];rfl
 show aU s d (n' + 1 + 1) o = _;rw [aU,if_pos hh.JQ,dO,acg];show (lc s o).bind _ = _;rw [ach];show (if (iT o && ([K7 nm.data.toList]:List PL).length == 1) = true then (bO s [⟨#[40]⟩] o1).bind _ else _) = _;rw [J2,if_pos (by rfl),bR (iM YM) c1];show (aZ s [⟨#[41]⟩] o2).bind _ = _;rw [bK (iM MB) e1];show (aD s o3).bind _ = _;rw [fu Xh];show (aF s d n' o3).bind _ = _;rw [show aF s d n' o3 = .ok y o4 from f2 n' (by omega),k3];rfl
theorem uo {s:ByteArray} {m d:Nat} (ih:Reads s m) {x:ND} (hm:sz x < m + 1) (hx:W x (d + 1)) (hk:df x.k = true) {o:Tok} {Z z:T} (R:Rest Z z) (h:aH s o (tx x ++ Z)):Read s (fun n=>aF s d n o) x z:=by
 have hb:∀ {y:ND},Body y (d + 1 + 1) (sz x)→Body y (d + 1 + 1) (m + 1):=fun hy=>M8 hy (by omega);rcases sI hk with hq | hq | hq | hq | hq | hq | hq
 ·obtain ⟨l,e,hd,hbs,hl,_⟩:=jg hx (.inl hq);rw [hq] at e
  match l,hl hq,e,hbs with
  | [a,b],_,e,hbs =>
   rw [e] at h ⊢
   exact Lj ih (by omega) (hb (hbs a (by simp))) (hb (hbs b (by simp))) (.inl rfl) R h
  | [a,b,c],_,e,hbs =>
   rw [e] at h ⊢
   exact Lj ih (by omega) (hb (hbs a (by simp))) (hb (hbs b (by simp))) (.inr ⟨c,rfl,hb (hbs c (by simp))⟩) R h
  | [],hl,_,_=>rcases hl with hl | hl <;> simp at hl
  | [_],hl,_,_=>rcases hl with hl | hl <;> simp at hl
  | _ :: _ :: _ :: _ :: _,hl,_,_=>rcases hl with hl | hl <;> simp at hl
 ·obtain ⟨l,e,hd,hbs,_,hl,_⟩:=jg hx (.inr (.inl hq));rw [hq] at e
  match l,hl (.inl hq),e,hbs with
  | [a,b],_,e,hbs =>
   rw [e] at h ⊢
   rw [Tq] at h;exact Cx ih (by omega) xu (by decide) (fun n p=>by rw [openedF,if_neg (by decide),if_neg (by decide),if_neg (by decide),if_pos (show (⟨xg.toArray⟩:ByteArray) = ⟨#[119,104,105,108,101]⟩ from rfl)]) (hb (hbs a (by simp))) (hb (hbs b (by simp))) R h
 ·obtain ⟨l,e,hd,hbs,_,hl,_⟩:=jg hx (.inr (.inr (.inl hq)));rw [hq] at e
  match l,hl (.inr hq),e,hbs with
  | [a,b],_,e,hbs =>
   rw [e] at h ⊢
   rw [Tt] at h;exact Cx ih (by omega) xw (by decide) (fun n p=>by rw [openedF,if_neg (by decide),if_neg (by decide),if_neg (by decide),if_neg (by decide),if_pos (show (⟨xh.toArray⟩:ByteArray) = ⟨#[117,110,116,105,108]⟩ from rfl)]) (hb (hbs a (by simp))) (hb (hbs b (by simp))) R h
 ·obtain ⟨y,e,hd,hf,hy⟩:=La hx hq;generalize x.nm = nm at e hf;generalize x.g = g at e hf;generalize x.ws = ws at e hf;have VO:=hb hy;subst e;exact Qt ih (by omega) hf VO R h
 ·obtain ⟨w,cs,e,hd,hw,hcs⟩:=DV hx hq;have aci:∀ c ∈ cs,Entry c (d + 1 + 1) (m + 1):=fun c hc=>let ⟨a1,a2,a3,a4⟩:=hcs c hc;⟨a1,a2,a3,fun y hy=>hb (a4 y hy)⟩;subst e;exact M9 ih (by omega) hw aci R h
 ·obtain ⟨l,e,hd,hbs,_,_,hl⟩:=jg hx (.inr (.inr (.inr (.inl hq))));rw [hq] at e
  match l,hl (.inl hq),e,hbs with
  | [a],_,e,hbs =>
   rw [e] at h ⊢
   rw [Le] at h;exact JZ ih (by omega) (hb (hbs a (by simp))) R h
 ·obtain ⟨l,e,hd,hbs,_,_,hl⟩:=jg hx (.inr (.inr (.inr (.inr hq))));rw [hq] at e
  match l,hl (.inr hq),e,hbs with
  | [a],_,e,hbs =>
   rw [e] at h ⊢
   rw [Lf] at h;exact Qq ih (by omega) (hb (hbs a (by simp))) R h
theorem kI {s:ByteArray} {o:Tok} {t Z:T} (hk:Key t) (hr:bF t = true) (hZ:wH Z) (h:aH s o (t ++ Z)):gF o = false:=by
 obtain ⟨_,ht,_⟩:=fw hk hZ h;unfold gF;rw [ht];simp [hr]
theorem Ak {s:ByteArray} {x:ND} {D:Nat} (hx:W x D) (hk:df x.k = true) {o:Tok} {Z:T} (hZ:wH Z) (h:aH s o (tx x ++ Z)):gF o = false:=by
 rcases sI hk with hq | hq | hq | hq | hq | hq | hq
 ·obtain ⟨l,e,_,_,hl,_⟩:=jg hx (.inl hq);rw [hq] at e
  match l,hl hq,e with
  | [a,b],_,e =>
   rw [e,Lb,zq] at h;exact kI xq (by decide) (aV _) h
  | [a,b,c],_,e =>
   rw [e,GJ,zq] at h;exact kI xq (by decide) (aV _) h
  | [],hl,_=>rcases hl with hl | hl <;> simp at hl
  | [_],hl,_=>rcases hl with hl | hl <;> simp at hl
  | _ :: _ :: _ :: _ :: _,hl,_=>rcases hl with hl | hl <;> simp at hl
 ·obtain ⟨l,e,_,_,_,hl,_⟩:=jg hx (.inr (.inl hq));rw [hq] at e
  match l,hl (.inl hq),e with
  | [a,b],_,e =>
   rw [e,Tq,zq] at h;exact kI xu (by decide) (aV _) h
 ·obtain ⟨l,e,_,_,_,hl,_⟩:=jg hx (.inr (.inr (.inl hq)));rw [hq] at e
  match l,hl (.inr hq),e with
  | [a,b],_,e =>
   rw [e,Tt,zq] at h;exact kI xw (by decide) (aV _) h
 ·obtain ⟨y,e,_⟩:=La hx hq;rw [e,Tu,zq] at h;exact kI DX (by decide) (aV _) h
 ·obtain ⟨w,cs,e,_⟩:=DV hx hq;rw [e,Ld,zq] at h;exact kI zY (by decide) (aV _) h
 ·obtain ⟨l,e,_,_,_,_,hl⟩:=jg hx (.inr (.inr (.inr (.inl hq))));rw [hq] at e
  match l,hl (.inl hq),e with
  | [a],_,e =>
   rw [e,Le,zq] at h;exact kI Ae (by decide) (aV _) h
 ·obtain ⟨l,e,_,hb,_,_,hl⟩:=jg hx (.inr (.inr (.inr (.inr hq))));rw [hq] at e
  match l,hl (.inr hq),e,hb with
  | [a],_,e,hb =>
   rw [e,Lf,zq,zq] at h;obtain ⟨_,c,z,hz⟩:=jO (hb a (by simp)) ([41] ++ Z);rw [hz] at h;obtain ⟨k1,_,_⟩:=h.sign (nD c z);unfold gF;rw [k1];rfl
theorem D6 {s:ByteArray} {m d:Nat} (ih:Reads s m) {x:ND} (hm:sz x < m + 1) (hx:W x (d + 1)) (hk:eH x.k = true) {o:Tok} {Z z:T} (R:Rest Z z) (h:aH s o (tx x ++ Z)):Read s (fun n=>aU s d n o) x z:=by
 rcases BF hk with hq | hq | hq
 ·exact GM hx hq R h
 ·obtain ⟨y,e,hn,hr,hy,hw,aB⟩:=JM hx hq;generalize x.nm = nm at e hn hr;have qc:sz y < m:=by omega
  subst e;exact Na ih hn hr hw hy qc R h
 ·obtain ⟨N,o',h1,h2⟩:=uo ih hm hx hq R h;have hi:dN x.k = true:=by unfold dN ik;rw [hk];simp
  have hh:=((jo (sz x + 1) x (d + 1) (by omega) hx hi).1 Z R.del).2 s o h;refine ⟨N + 1,o',h1,fun n hn=>?_⟩;obtain ⟨n',rfl⟩:∃ n',n = n' + 1:=⟨n - 1,by omega⟩;show aU s d (n' + 1) o = _;rw [aU,Ak hx hq R.del h];exact h2 n' (by omega)
theorem xx (s:ByteArray):∀ m,Reads s m
 | 0=>⟨fun _ _ _ _ _ h=>absurd h (Nat.not_lt_zero _),fun _ _ _ _ _ h=>absurd h (Nat.not_lt_zero _),fun _ _ _ _ _ h=>absurd h (Nat.not_lt_zero _),fun _ _ _ _ _ h=>absurd h (Nat.not_lt_zero _)⟩
 | m + 1=>by
  have ih:=xx s m;have Y0:∀ (x:ND) (d:Nat) (o:Tok) (Z z:T),sz x < m + 1→W x (d + 1)→eH x.k = true→Rest Z z→aH s o (tx x ++ Z)→Read s (fun n=>aU s d n o) x z:=fun x d o Z z hm hx hk R h=>D6 ih hm hx hk R h;have UK:∀ (x:ND) (d:Nat) (o:Tok) (Z z:T),sz x < m + 1→W x (d + 1)→ik x.k = true→Rest Z z→aH s o (tx x ++ Z)→Read s (fun n=>fJ s d n o) x z:=fun x d o Z z hm hx hk R h=>by
   rcases JU hk with hq | hq
   ·obtain ⟨a,e,ha,hw,aB⟩:=Qh hx hq;have qc:sz a < m:=by omega
    subst e;rw [V8,zq,zq] at h;obtain ⟨_,ht,hb⟩:=fw Af (aV _) h;have hi:dN a.k = true:=by unfold dN ik;rw [ha];simp
    obtain ⟨o1,h1,h2⟩:=bg (.inr rfl) hb ((jo (sz a + 1) a (d + 1) (by omega) hw hi).1 Z R.del).1;obtain ⟨N,o2,h3,h4⟩:=ih.cmd a d o1 Z z qc hw ha R h2;refine ⟨N + 1,o2,h3,fun n hn=>?_⟩;obtain ⟨n',rfl⟩:∃ n',n = n' + 1:=⟨n - 1,by omega⟩;show fJ s d (n' + 1) o = _;rw [fJ,bR (iM (t:=⟨#[33]⟩) ht) h1];show (aU s d n' o1).bind _ = _;rw [show aU s d n' o1 = .ok a o2 from h4 n' (by omega)];rfl
   ·obtain ⟨N,o2,h3,h4⟩:=Y0 x d o Z z hm hx hq R h;have hi:dN x.k = true:=by unfold dN;rw [hk];simp
    have hh:=((jo (sz x + 1) x (d + 1) (by omega) hx hi).1 Z R.del).2 s o h;refine ⟨N + 1,o2,h3,fun n hn=>?_⟩;obtain ⟨n',rfl⟩:∃ n',n = n' + 1:=⟨n - 1,by omega⟩;show fJ s d (n' + 1) o = _;rw [fJ,nE (hh.Tn hq)];exact h4 n' (by omega)
  refine ⟨Y0,fun x d o Z z hm hx hk R h=>uo ih hm hx hk R h,UK,fun x d o Z z hm hx hk R h=>?_⟩;have two:∀ (a b:ND) (op:T) (k:Int),dN a.k = true→ik b.k = true→W a (d + 1)→W b (d + 1)→sz a < m→sz b < m→x = nd k [a,b]→(∀ Q,Rest ([32] ++ (op ++ Q)) (op ++ Q))→(∀ Q,Sg op Q)→(∀ o:Tok,aT o = ⟨op.toArray⟩→bu [⟨#[38,38]⟩,⟨#[124,124]⟩] o = true∧(if bu [⟨#[124,124]⟩] o then (3:Int) else 2) = k)→aH s o (tx a ++ ([32] ++ (op ++ ([32] ++ (tx b ++ Z))))) →
    ∃ N K o',aH s o' z∧∀ n,N≤n→gW s d (n + K) o = itemL s d n x o':=fun a b op k ha hb Y1 Xi la lb e hR hS hs h=>by
   obtain ⟨N,K,o1,h1,h2⟩:=ih.item a d o _ _ la Y1 ha (hR _) h;obtain ⟨k1,k2,k3⟩:=h1.sign (hS _);have ht:=fK k1 k2;obtain ⟨s1,s2⟩:=hs o1 ht;have hib:dN b.k = true:=by unfold dN;rw [hb];simp
   have hhb:=(jo (sz b + 1) b (d + 1) (by omega) Xi hib).1 Z R.del;obtain ⟨o2,h3,h4⟩:=bg (.inr rfl) k3 hhb.1;obtain ⟨N2,o3,h5,h6⟩:=ih.unit b d o2 Z z lb Xi hb R h4;refine ⟨N + N2,1 + K,o3,h5,fun n hn=>?_⟩;rw [← Nat.add_assoc,h2 (n + 1) (by omega),itemL,s1,if_pos rfl,h3];show (aD s o2).bind _ = _;rw [fu (hhb.2 s o2 h4).line];show (fJ s d n o2).bind _ = _;rw [show fJ s d n o2 = .ok b o3 from h6 n (by omega),e];show itemL s d n (nd (if bu [⟨#[124,124]⟩] o1 then 3 else 2) [a,b]) o3 = _;rw [s2]
  have one:ik x.k = true→∃ N K o',aH s o' z∧∀ n,N≤n→gW s d (n + K) o = itemL s d n x o':=fun hu=>by
   obtain ⟨N,o',h1,h2⟩:=UK x d o Z z hm hx hu R h;refine ⟨N,1,o',h1,fun n hn=>?_⟩;rw [gW,show fJ s d n o = .ok x o' from h2 n hn];rfl
  by_cases h2:x.k = 2
  ·obtain ⟨a,b,e,ha,hb,Y1,Xi,la,lb⟩:=xm hx (.inl h2);rw [h2] at e;refine two a b [38,38] 2 ha hb Y1 Xi (by omega) (by omega) e (fun Q=>Rest.and Q) (fun Q=>Qd Q) (fun o ht=>?_) ?_
   ·rw [aI ht,aI ht];decide
   ·rw [e,V6] at h;simpa using h
  ·by_cases h3:x.k = 3
   ·obtain ⟨a,b,e,ha,hb,Y1,Xi,la,lb⟩:=xm hx (.inr h3);rw [h3] at e;refine two a b [124,124] 3 ha hb Y1 Xi (by omega) (by omega) e (fun Q=>Rest.or Q) (fun Q=>UI Q) (fun o ht=>?_) ?_
    ·rw [aI ht,aI ht];decide
    ·rw [e,V7] at h;simpa using h
   ·refine one ?_;unfold dN at hk;simp only [Bool.or_eq_true,beq_iff_eq] at hk;rcases hk with (hk | hk) | hk
    ·exact absurd hk h2
    ·exact absurd hk h3
    ·exact hk
end Pr
end Go.Proofs.YtckakkeejekibaaGreatDoor
