/- What is written, read token by token. Pure. -/
import Derived.Test.YtckakkeejekibaaGreatDoorRdB
import Derived.Test.YtckakkeejekibaaGreatDoorPsB
namespace Go.Proofs.YtckakkeejekibaaGreatDoor
open Go.RowKit Go.Sort
namespace Pr
open j6 Pt Bd Tr Sp Lx Ps
abbrev T:=List UInt8
def uk (c:UInt8):Bool:=!nO c.toNat && c != 39 && c != 34 && c != 92 && c != 96 && c != 36
theorem JK {s:ByteArray} {i:Nat} {l:PL} {c:UInt8} {x:List UInt8} (h:rightL none l 0 1 = true) (hr:ag s i = textL l 0 ++ c :: x) (hc:uk c = true) (hi:i≤s.size):bareF (s.size + 1) s 0 A0 i = .ok l (i + (textL l 0).length):=by
 have h9:=jf hr;obtain ⟨g1,g2,_⟩:=bI h9;obtain ⟨n',e1,e2⟩:=(Qa l).1 s 0 i A0 _ none h hr hi (s.size + 1) (by omega);rw [e2];have e1':s.size < i + (textL l 0).length + n':=e1;obtain ⟨m,rfl⟩:∃ m,n' = m + 1:=⟨n' - 1,by omega⟩;show bareF (m + 1) s 0 (A0.join l) (i + (textL l 0).length) = _;unfold uk at hc;simp only [ud,Bool.not_eq_true',bne_iff_ne,ne_eq] at hc;obtain ⟨⟨⟨⟨⟨hb,n39⟩,n34⟩,n92⟩,n96⟩,n36⟩:=hc;have k39:¬ ((c.toNat:Int) == 39) = true:=jV n39 rfl;have k34:¬ ((c.toNat:Int) == 34) = true:=jV n34 rfl;have Xb:¬ ((c.toNat:Int) == 92) = true:=jV n92 rfl;have k96:¬ ((c.toNat:Int) == 96) = true:=jV n96 rfl;have k36:¬ ((c.toNat:Int) == 36) = true:=jV n36 rfl;rw [bareF,if_neg (by omega),g2,if_neg k39,if_neg k34,if_neg Xb,if_neg k96,if_neg k36,if_pos (by simp [ng,hb]),nY l none A0 _ _ h (fun _ _ h=>by cases h)];rfl
theorem pU {w:PL} (hw:aG w = true):rightL none w 0 1 = true:=by
 cases w with
 | nil=>rfl
 | cons k q t o f r=>simp only [aG,ud] at hw;exact hw.2
theorem Cq {s:ByteArray} {j:Nat} {w:PL} {c:UInt8} {x:List UInt8} (hw:aG w = true) (h:ag s j = textL w 0 ++ c :: x) (hc:uk c = true) (hj:j≤s.size):tokF s j = ⟨1,j,⟨#[]⟩,w,0,j + (textL w 0).length⟩:=by
 obtain ⟨c',z,e,_,_,_,yl,zy⟩:=qz hw (c :: x);obtain ⟨h1,h2,_⟩:=bI (h.trans e);rw [tokF,if_neg (by omega),h2,if_neg yl,if_neg (by rw [zy];decide),JK (pU hw) h hc hj]
def aH (s:ByteArray) (o:Tok) (x:T):Prop:=∃ p,p≤s.size∧ag s p = x∧o = tokF s p
def After (s:ByteArray) (o:Tok) (x:T):Prop:=ag s o.j = x∧o.j≤s.size
structure bW (x:T):Prop where
 first:x = []∨∃ c z,x = c :: z∧jE c.toNat = false∧c ≠ 92∧c ≠ 35
 tok:∀ s p,p≤s.size→ag s p = x→(tokF s p).k ≠ 5
theorem bg {s:ByteArray} {o:Tok} {pre x:T} (hp:pre = []∨pre = [32]) (h:After s o (pre ++ x)) (hx:bW x):∃ o',dL s o = .ok () o'∧aH s o' x:=by
 obtain ⟨h,hj⟩:=h;have key:∃ p,p≤s.size∧ag s p = x∧aheadF (s.size + 1) s o.j = p:=by
  rcases hp with rfl | rfl
  ·rcases hx.first with rfl | ⟨c,z,rfl,hb,oV,yE⟩
   ·have hl:=congrArg List.length h;rw [aQ] at hl;simp at hl;exact ⟨o.j,hj,h,zQ (by omega) _⟩
   ·exact ⟨o.j,hj,h,zR (s:=s) h hb oV yE _⟩
  ·have h':ag s o.j = 32 :: x:=h;obtain ⟨g1,_,g3⟩:=bI h';rw [Gv h'];rcases hx.first with rfl | ⟨c,z,rfl,hb,oV,yE⟩
   ·have hl:=congrArg List.length g3;rw [aQ] at hl;simp at hl;exact ⟨o.j + 1,by omega,g3,zQ (by omega) _⟩
   ·exact ⟨o.j + 1,by omega,g3,zR (s:=s) g3 hb oV yE _⟩
 obtain ⟨p,h1,h2,h3⟩:=key;have ht:cO s o.j = tokF s p:=by unfold cO;rw [h3]
 refine ⟨tokF s p,?_,p,h1,h2,rfl⟩;unfold dL;rw [ht,if_neg (hx.tok s p h1 h2)]
theorem bW.word {w:PL} (hw:aG w = true) {c:UInt8} (hc:uk c = true) (x:T):bW (textL w 0 ++ c :: x):=by
 refine ⟨.inr ?_,fun s p hp h=>by rw [Cq hw h hc hp];exact (by decide:(1:Nat) ≠ 5)⟩;obtain ⟨c',z,e,hb,oV,yE,_⟩:=qz hw (c :: x);exact ⟨c',z,e,hb,oV,yE⟩
theorem aH.word {s:ByteArray} {o:Tok} {w:PL} {c:UInt8} {x:T} (h:aH s o (textL w 0 ++ c :: x)) (hw:aG w = true) (hc:uk c = true):o.k = 1∧o.l = w∧After s o (c :: x):=by
 obtain ⟨p,hp,hr,rfl⟩:=h;rw [Cq hw hr hc hp];exact ⟨rfl,rfl,jf hr,qy hr hp⟩
theorem bW.nl (x:T):bW (10 :: x):=by
 refine ⟨.inr ⟨10,x,rfl,by decide,by decide,by decide⟩,fun s p hp h=>?_⟩;obtain ⟨h1,h2,_⟩:=bI h;rw [tokF,if_neg (by omega),h2,if_pos rfl];exact (by decide:(3:Nat) ≠ 5)
theorem aH.nl {s:ByteArray} {o:Tok} {x:T} (h:aH s o (10 :: x)):o.k = 3∧After s o x:=by
 obtain ⟨p,hp,hr,rfl⟩:=h;obtain ⟨h1,h2,h3⟩:=bI hr;rw [tokF,if_neg (by omega),h2,if_pos rfl];exact ⟨rfl,h3,h1⟩
theorem bW.fin:bW []:=by
 refine ⟨.inl rfl,fun s p hp h=>?_⟩;have hl:=congrArg List.length h;rw [aQ] at hl;simp at hl;rw [tokF,if_pos (by omega)];exact (by decide:(4:Nat) ≠ 5)
theorem aH.fin {s:ByteArray} {o:Tok} (h:aH s o []):o.k = 4∧o.l = .nil:=by
 obtain ⟨p,hp,hr,rfl⟩:=h;have hl:=congrArg List.length hr;rw [aQ] at hl;simp at hl;rw [tokF,if_pos (by omega)];exact ⟨rfl,rfl⟩
structure Sg (t:T) (x:T):Prop where
 ne:t ≠ []
 first:∀ c z,t = c :: z→lL c.toNat = true∧c ≠ 10∧jE c.toNat = false∧c ≠ 92∧c ≠ 35
 len:dM (t ++ x) = t.length
theorem Gw {s:ByteArray} {p:Nat} {t x:T} (hs:Sg t x) (hp:p≤s.size) (h:ag s p = t ++ x):(tokF s p).k = 2∧(tokF s p).t = ⟨t.toArray⟩∧(tokF s p).j = p + t.length:=by
 cases t with
 | nil=>exact absurd rfl hs.ne
 | cons c z =>
  obtain ⟨h1,h2,h3⟩:=bI h;obtain ⟨f1,f2,_⟩:=hs.first c z rfl;have hl:¬ dM (ag s p) = 0:=by rw [h,hs.len];simp
  rw [tokF,if_neg (by omega),h2,if_neg f2,if_pos f1,if_neg hl];refine ⟨rfl,?_,by show p + dM (ag s p) = _;rw [h,hs.len]⟩;show (s.extract p s.size).extract 0 (dM (ag s p)) = _;apply xe;rw [h,hs.len];have e:=iK (s.extract p s.size) 0 (c :: z).length;rw [Nat.zero_add] at e;rw [e];have e2:ag (s.extract p s.size) 0 = ag s p:=by
   show (s.extract p s.size).data.toList.drop 0 = _;rw [List.drop_zero,iJ]
  rw [e2,h,List.take_left]
theorem bW.sign {t x:T} (hs:Sg t x):bW (t ++ x):=by
 refine ⟨.inr ?_,fun s p hp h=>by rw [(Gw hs hp h).1];decide⟩;obtain ⟨c,z,rfl⟩:∃ c z,t = c :: z:=by
  cases t with
  | nil=>exact absurd rfl hs.ne
  | cons c z=>exact ⟨c,z,rfl⟩
 obtain ⟨_,_,h3,h4,h5⟩:=hs.first c z rfl;exact ⟨c,z ++ x,rfl,h3,h4,h5⟩
theorem aH.sign {s:ByteArray} {o:Tok} {t x:T} (h:aH s o (t ++ x)) (hs:Sg t x):o.k = 2∧o.t = ⟨t.toArray⟩∧After s o x:=by
 obtain ⟨p,hp,hr,rfl⟩:=h;obtain ⟨h1,h2,h3⟩:=Gw hs hp hr;refine ⟨h1,h2,?_,?_⟩
 ·rw [h3];exact jf hr
 ·rw [h3];exact qy hr hp
theorem sg2 {a b:UInt8} (h:oP [a,b] = true) (hf:lL a.toNat = true∧a ≠ 10∧jE a.toNat = false∧a ≠ 92∧a ≠ 35) (x:T):Sg [a,b] x:=by
 refine ⟨by simp,fun c z e=>by cases e;exact hf,?_⟩;show signDown (a :: b :: x) (min 2 (a :: b :: x).length) = 2;have:min 2 (a :: b :: x).length = 2:=by simp only [zz];omega
 rw [this,signDown,if_pos (by simpa using h)]
theorem Xg {a b:UInt8} (h:oP [a] = true) (h2:oP [a,b] = false) (hf:lL a.toNat = true∧a ≠ 10∧jE a.toNat = false∧a ≠ 92∧a ≠ 35) (x:T):Sg [a] (b :: x):=by
 refine ⟨by simp,fun c z e=>by cases e;exact hf,?_⟩;show signDown (a :: b :: x) (min 2 (a :: b :: x).length) = 1;have:min 2 (a :: b :: x).length = 2:=by simp only [zz];omega
 rw [this,signDown,if_neg (by simpa using h2),signDown,if_pos (by simpa using h)]
theorem nD (b:UInt8) (x:T):Sg [40] (b :: x):=Xg (by decide) (by simp [oP]) (by decide) x
theorem nZ (b:UInt8) (x:T):Sg [41] (b :: x):=Xg (by decide) (by simp [oP]) (by decide) x
theorem DL (x:T):Sg [59] (32 :: x):=Xg (by decide) (by decide) (by decide) x
theorem Qb (x:T):Sg [38] (32 :: x):=Xg (by decide) (by decide) (by decide) x
theorem K6 (x:T):Sg [38] (10 :: x):=Xg (by decide) (by decide) (by decide) x
theorem Qc {b:UInt8} (h:lL b.toNat = false) (x:T):Sg [124] (b :: x):=Xg (by decide) (by
 have:b ≠ 124:=fun e=>by rw [e] at h;exact absurd h (by decide)
 simp [oP,this]) (by decide) x
theorem Qd (x:T):Sg [38,38] x:=sg2 (by decide) (by decide) x
theorem UI (x:T):Sg [124,124] x:=sg2 (by decide) (by decide) x
theorem Gx (x:T):Sg [59,59] x:=sg2 (by decide) (by decide) x
def K7 (t:T):PL:=.cons 1 false ⟨t.toArray⟩ ⟨#[]⟩ .nil .nil
theorem K8 (t:T):textL (K7 t) 0 = t:=by simp [textL,K7]
theorem bW.kw {t:T} (hw:aG (K7 t) = true) {c:UInt8} (hc:uk c = true) (x:T):bW (t ++ c :: x):=by
 have:=bW.word hw hc x;rwa [K8] at this
theorem aH.kw {s:ByteArray} {o:Tok} {t:T} {c:UInt8} {x:T} (h:aH s o (t ++ c :: x)) (hw:aG (K7 t) = true) (hc:uk c = true):o.k = 1∧o.l = K7 t∧aT o = ⟨t.toArray⟩∧After s o (c :: x):=by
 have h':aH s o (textL (K7 t) 0 ++ c :: x):=by rwa [K8]
 obtain ⟨h1,h2,h3⟩:=h'.word hw hc;exact ⟨h1,h2,by unfold aT;rw [h1,h2];rfl,h3⟩
theorem fK {o:Tok} {t:ByteArray} (h:o.k = 2) (ht:o.t = t):aT o = t:=by unfold aT;rw [if_pos h,ht]
theorem DN {o:Tok} (h:o.k = 3):aT o = ⟨#[10]⟩:=by unfold aT;rw [if_neg (by omega),if_pos h]
theorem Qe {o:Tok} (h:o.k = 4) (hl:o.l = .nil):aT o = ⟨#[]⟩:=by unfold aT;rw [if_neg (by omega),if_neg (by omega),hl];rfl
theorem MX {o:Tok} (h:o.k = 1):aT o = fQ o.l:=by unfold aT;rw [if_neg (by omega),if_neg (by omega)]
theorem aI {l:List ByteArray} {o:Tok} {t:ByteArray} (h:aT o = t):bu l o = Lib.containsS l t:=by unfold bu;rw [h]
theorem nE {s:ByteArray} {l:List ByteArray} {o:Tok} (h:bu l o = false):bO s l o = .ok false o:=by unfold bO;rw [h];rfl
theorem bR {s:ByteArray} {l:List ByteArray} {o o':Tok} (h:bu l o = true) (hn:dL s o = .ok () o'):bO s l o = .ok true o':=by unfold bO;rw [h,hn];rfl
theorem bK {s:ByteArray} {l:List ByteArray} {o o':Tok} (h:bu l o = true) (hn:dL s o = .ok () o'):aZ s l o = .ok () o':=by unfold aZ;rw [bR h hn];rfl
theorem fu {s:ByteArray} {o:Tok} (h:bu [gM] o = false):aD s o = .ok () o:=by
 unfold aD F linesN;rw [nE h];rfl
theorem MZ {s:ByteArray} {o o':Tok} (h:bu [gM] o = true) (hn:dL s o = .ok () o') (h':bu [gM] o' = false):aD s o = .ok () o':=by
 show linesN s (2 * s.size + 1 + 1) o = _;rw [linesN,bR h hn];show linesN s (2 * s.size + 1) o' = _;rw [linesN,nE h'];rfl
end Pr
namespace Pr
open j6 Pt Bd Tr Sp Lx Ps
def aR (l:PL):T:=textL l 0
def uJ (x:ByteArray × PL):T:=x.1.data.toList ++ 61 :: aR x.2
def behind:T→T→List T→T
 | _,_,[]=>[]
 | a,b,x :: r=>a ++ (x ++ behind b b r)
def oZ (K:List T) (i:Nat):T:=K.getD i []
def itemsT:List T→List Bool→T
 | x :: r,b :: bs=>x ++ ((if b then [32,38,32] else [59,32]) ++ itemsT r bs)
 | _,_=>[]
def kC (az:List (ByteArray × PL)) (ws:List PL):T:=behind [] [32] (az.map uJ ++ ws.map aR)
def caseT (ps:List PL) (B:List T):T:=behind [40] [124] (ps.map aR) ++ ([41,32] ++ (B.flatten ++ [59,59,32]))
def Eu:T:=[105,102]
def mK:T:=[116,104,101,110]
def sG:T:=[101,108,115,101]
def Gy:T:=[102,105]
def xg:T:=[119,104,105,108,101]
def xh:T:=[117,110,116,105,108]
def qA:T:=[100,111]
def iq:T:=[100,111,110,101]
def uK:T:=[102,111,114]
def BD:T:=[105,110]
def ul:T:=[99,97,115,101]
def jw:T:=[101,115,97,99]
def YR (k:Int) (nm:ByteArray) (g:Bool) (az:List (ByteArray × PL)) (ws:List PL) (K:List T) (bs:List Bool) (C:List T):T :=
 if k = 1 then kC az ws
 else if k = 2 then oZ K 0 ++ ([32] ++ ([38,38] ++ ([32] ++ oZ K 1)))
 else if k = 3 then oZ K 0 ++ ([32] ++ ([124,124] ++ ([32] ++ oZ K 1)))
 else if k = 4 then [33] ++ ([32] ++ oZ K 0)
 else if k = 5 then itemsT K bs
 else if k = 6 then Eu ++ ([32] ++ (oZ K 0 ++ (mK ++ ([32] ++ (oZ K 1 ++ ((if K.length = 3 then sG ++ ([32] ++ oZ K 2) else []) ++ Gy))))))
 else if k = 7 then xg ++ ([32] ++ (oZ K 0 ++ (qA ++ ([32] ++ (oZ K 1 ++ iq)))))
 else if k = 8 then xh ++ ([32] ++ (oZ K 0 ++ (qA ++ ([32] ++ (oZ K 1 ++ iq)))))
 else if k = 9 then uK ++ ([32] ++ (nm.data.toList ++ ((if g then [32] ++ (BD ++ (behind [32] [32] (ws.map aR) ++ [59])) else []) ++ ([32] ++ (qA ++ ([32] ++ (oZ K 0 ++ iq)))))))
 else if k = 10 then ul ++ ([32] ++ (oZ (ws.map aR) 0 ++ ([32] ++ (BD ++ ([32] ++ (C.flatten ++ jw))))))
 else if k = 11 then [123] ++ ([32] ++ (oZ K 0 ++ [125]))
 else if k = 12 then [40] ++ (oZ K 0 ++ [41])
 else nm.data.toList ++ ([40] ++ ([41] ++ ([32] ++ oZ K 0)))
def txt:NL→List T
 | .nil=>[]
 | .node k nm g az ws ks bs cs r=>YR k nm g az ws (txt ks) bs (txt cs) :: txt r
 | .cse ps b r=>caseT ps (txt b) :: txt r
def tx (x:ND):T:=YR x.k x.nm x.g x.az x.ws (txt x.ks) x.bs (txt x.cz)
theorem vN:∀ l:List ND,txt (toN l) = l.map tx
 | []=>rfl
 | x :: r=>by show tx x :: txt (toN r) = _;rw [vN r];rfl
structure Stops (z:T):Prop where
 fine:bW z
 stop:∀ s o,aH s o z→o.k ≠ 1∧bu [⟨#[40]⟩] o = false
structure Rest (Z z:T):Prop where
 pre:∃ pre,(pre = []∨pre = [32])∧Z = pre ++ z
 del:∃ c y,Z = c :: y∧uk c = true
 stops:Stops z
theorem Rest.next {Z z:T} (h:Rest Z z) {s:ByteArray} {o:Tok} (ha:After s o Z):∃ o',dL s o = .ok () o'∧aH s o' z:=by
 obtain ⟨pre,hp,rfl⟩:=h.pre;exact bg hp ha h.stops.fine
theorem Stops.sign {t:T} {x:T} (hs:Sg t x) (h:Lib.containsS [⟨#[40]⟩] ⟨t.toArray⟩ = false):Stops (t ++ x) :=
 ⟨bW.sign hs,fun s o ho=>by
  obtain ⟨h1,h2,_⟩:=ho.sign hs
  exact ⟨by omega,by rw [aI (fK h1 h2)];exact h⟩⟩
theorem Stops.nl (x:T):Stops (10 :: x):=⟨bW.nl x,fun s o ho=>by
 obtain ⟨h1,_⟩:=ho.nl
 exact ⟨by omega,by rw [aI (DN h1)];decide⟩⟩
theorem Rest.YS (x:T):Rest ([59,32] ++ x) ([59] ++ (32 :: x)):=⟨⟨[],.inl rfl,rfl⟩,⟨59,_,rfl,by decide⟩,Stops.sign (DL x) (by decide)⟩
theorem Rest.amp (x:T):Rest ([32,38,32] ++ x) ([38] ++ (32 :: x)):=⟨⟨[32],.inr rfl,rfl⟩,⟨32,_,rfl,by decide⟩,Stops.sign (Qb x) (by decide)⟩
theorem Rest.ab8 (x:T):Rest ([32,38,10] ++ x) ([38] ++ (10 :: x)):=⟨⟨[32],.inr rfl,rfl⟩,⟨32,_,rfl,by decide⟩,Stops.sign (K6 x) (by decide)⟩
theorem Rest.line (x:T):Rest (10 :: x) (10 :: x):=⟨⟨[],.inl rfl,rfl⟩,⟨10,_,rfl,by decide⟩,Stops.nl x⟩
theorem Rest.and (x:T):Rest ([32] ++ ([38,38] ++ x)) ([38,38] ++ x):=⟨⟨[32],.inr rfl,rfl⟩,⟨32,_,rfl,by decide⟩,Stops.sign (Qd x) (by decide)⟩
theorem Rest.or (x:T):Rest ([32] ++ ([124,124] ++ x)) ([124,124] ++ x):=⟨⟨[32],.inr rfl,rfl⟩,⟨32,_,rfl,by decide⟩,Stops.sign (UI x) (by decide)⟩
end Pr
namespace Pr
open j6 Pt Bd Tr Sp Lx Ps
def yz:NL→List ND
 | .node k nm g az ws ks bs cs r=>⟨k,nm,g,az,ws,ks,bs,cs⟩ :: yz r
 | _=>[]
def YT:NL→List CD
 | .cse ps b r=>(ps,yz b) :: YT r
 | _=>[]
theorem tJ:∀ {l:NL},NL.okN l true = true→toN (yz l) = l
 | .nil,_=>rfl
 | .node k nm g az ws ks bs cs r,h=>by
  simp only [NL.okN,ud] at h;show NL.node k nm g az ws ks bs cs (toN (yz r)) = _;rw [tJ h.2]
 | .cse _ _ _,h=>by simp [NL.okN] at h
theorem K9:∀ {l:NL},NL.okN l false = true→toC (YT l) = l
 | .nil,_=>rfl
 | .cse ps b r,h=>by
  simp only [NL.okN,ud] at h;show NL.cse ps (toN (yz b)) (toC (YT r)) = _;rw [tJ h.1.2,K9 h.2]
 | .node _ _ _ _ _ _ _ _ _,h=>by simp [NL.okN] at h
def sz (x:ND):Nat:=x.ks.size + x.cz.size
structure W (x:ND) (D:Nat):Prop where
 r:aW x.k x.nm x.g x.az x.ws x.ks x.bs x.cz D = true
 ks:NL.okN x.ks true = true
 cz:NL.okN x.cz false = true
theorem tK:∀ {l:NL},NL.okN l true = true→(yz l).length = l.len
 | .nil,_=>rfl
 | .node _ _ _ _ _ _ _ _ r,h=>by
  simp only [NL.okN,ud] at h;show (yz r).length + 1 = r.len + 1;rw [tK h.2]
 | .cse _ _ _,h=>by simp [NL.okN] at h
theorem nG {D:Nat}:∀ {l:NL},NL.okN l true = true→rt l D = true→∀ x ∈ yz l,W x D∧sz x < l.size
 | .nil,_,_,_,hx=>by cases hx
 | .node k nm g az ws ks bs cs r,h,hr,x,hx=>by
  simp only [NL.okN,ud] at h;rw [qm,ud] at hr;rcases List.mem_cons.1 hx with rfl | hx
  ·exact ⟨⟨hr.1,h.1.1.2,h.1.2⟩,by simp only [sz,NL.size];omega⟩
  ·obtain ⟨h1,h2⟩:=nG h.2 hr.2 x hx;exact ⟨h1,by simp only [NL.size];omega⟩
 | .cse _ _ _,h,_,_,_=>by simp [NL.okN] at h
theorem vO {S:Int→Nat→Bool}:∀ {l:NL},allS S l = true→∀ x ∈ yz l,S x.k x.ks.len = true
 | .nil,_,_,hx=>by cases hx
 | .node k nm g az ws ks bs cs r,h,x,hx=>by
  simp only [allS,ud] at h;rcases List.mem_cons.1 hx with rfl | hx
  ·exact h.1
  ·exact vO h.2 x hx
 | .cse _ _ _,h,_,_=>by simp [allS] at h
structure Body (y:ND) (D m:Nat):Prop where
 k:y.k = 5
 ne:0 < y.ks.len
 w:W y D
 lt:sz y < m
theorem xk {l:NL} {D:Nat} (h:NL.okN l true = true) (ha:allS dK l = true) (hr:rt l D = true):∀ x ∈ yz l,Body x D l.size:=fun x hx=>by
 have h1:=vO ha x hx;simp only [dK,ud,beq_iff_eq,decide_eq_true_eq] at h1;exact ⟨h1.1,h1.2,(nG h hr x hx).1,(nG h hr x hx).2⟩
theorem DR {U:Type} {p:U→U→Bool} {l:List U} (h:eqL p l [] = true):l = []:=by
 cases l with
 | nil=>rfl
 | cons x r=>simp [eqL] at h
theorem Cr {l:NL} (h:sameN l .nil = true):l = .nil:=by
 cases l with
 | nil=>rfl
 | node=>simp [sameN] at h
 | cse=>simp [sameN] at h
theorem Qf {nm:ByteArray} (h:(nm.toList == (⟨#[]⟩:ByteArray).toList) = true):nm = ⟨#[]⟩:=j6.bytes_inj (beq_iff_eq.1 h)
theorem oL {k:Int} {nm:ByteArray} {g:Bool} {az:List (ByteArray × PL)} {ws:List PL} {ks:NL} {bs:List Bool} {cz:NL} (h:cB k nm g az ws ks bs cz k ⟨#[]⟩ false [] [] .nil [] .nil = true) :
  nm = ⟨#[]⟩∧g = false∧az = []∧ws = []∧ks = .nil∧bs = []∧cz = .nil:=by
 unfold cB at h;simp only [ud] at h;obtain ⟨⟨⟨⟨⟨⟨⟨_,h1⟩,h2⟩,h3⟩,h4⟩,h5⟩,h6⟩,h7⟩:=h;exact ⟨Qf h1,by simpa using h2,DR h3,DR h4,Cr h5,DR h6,Cr h7⟩
theorem ll {x:ND} {D:Nat} (h:W x D):fC x.k D = false∧ownB x.k x.nm x.g x.az x.ws x.ks x.bs x.cz = true∧kindB x.k x.nm x.g x.az x.ws x.ks x.bs (rt x.ks (gp x.k D)) (rt x.cz (gp x.k D)) = true:=by
 have:=h.r;unfold aW at this;simp only [ud,Bool.not_eq_true'] at this;exact ⟨this.1.1,this.1.2,this.2⟩
theorem V5 {l:NL} (h:NL.okN l true = true) (hl:l.len = 2):∃ a b,l = toN [a,b]∧yz l = [a,b]:=by
 have h1:=tK h;have h2:=tJ h;rw [hl] at h1
 match hq:yz l,h1 with
 | [a,b],_=>exact ⟨a,b,by rw [← h2,hq],rfl⟩
theorem JL {l:NL} (h:NL.okN l true = true) (hl:l.len = 1):∃ a,l = toN [a]∧yz l = [a]:=by
 have h1:=tK h;have h2:=tJ h;rw [hl] at h1
 match hq:yz l,h1 with
 | [a],_=>exact ⟨a,by rw [← h2,hq],rfl⟩
theorem Qg {x:ND} {D:Nat} (h:W x D) (hk:x.k = 1):x = ⟨1,⟨#[]⟩,false,x.az,x.ws,.nil,[],.nil⟩∧simpleB x.az x.ws = true:=by
 obtain ⟨_,h2,h3⟩:=ll h;obtain ⟨k,nm,g,az,ws,ks,bs,cz⟩:=x;subst hk;obtain ⟨rfl,rfl,_,_,rfl,rfl,rfl⟩:=oL (k:=1) (az:=[]) (ws:=[]) (show cB 1 nm g [] [] ks bs cz 1 ⟨#[]⟩ false [] [] .nil [] .nil = true from h2);exact ⟨rfl,h3⟩
def YU (ks:NL):Bool:=match ks with
 | .node k0 _ _ _ _ _ _ _ (.node k1 _ _ _ _ _ _ _ _)=>dN k0 && ik k1
 | _=>false
theorem xm {x:ND} {D:Nat} (h:W x D) (hk:x.k = 2∨x.k = 3):∃ a b,x = nd x.k [a,b]∧dN a.k = true∧ik b.k = true∧W a D∧W b D∧sz a < sz x∧sz b < sz x:=by
 obtain ⟨_,h2,h3⟩:=ll h;have ho:=h.ks;obtain ⟨k,nm,g,az,ws,ks,bs,cz⟩:=x;have hk:k = 2∨k = 3:=hk;have Fj:cB k nm g az ws .nil bs cz k ⟨#[]⟩ false [] [] .nil [] .nil = true:=by rcases hk with rfl | rfl <;> exact h2
 have DT:(decide (ks.len = 2) && YU ks && rt ks D) = true:=by rcases hk with rfl | rfl <;> exact h3
 obtain ⟨rfl,rfl,rfl,rfl,_,rfl,rfl⟩:=oL Fj;simp only [ud,decide_eq_true_eq] at DT;obtain ⟨⟨hl,hm⟩,hr⟩:=DT;obtain ⟨a,b,rfl,hq⟩:=V5 ho hl;have hm':(dN a.k && ik b.k) = true:=hm;simp only [ud] at hm';have ha:=nG ho hr a (by rw [hq];simp);have hb:=nG ho hr b (by rw [hq];simp);exact ⟨a,b,rfl,hm'.1,hm'.2,ha.1,hb.1,kd ha.2 (Nat.le_add_right _ _),kd hb.2 (Nat.le_add_right _ _)⟩
theorem Qh {x:ND} {D:Nat} (h:W x D) (hk:x.k = 4):∃ a,x = nd 4 [a]∧eH a.k = true∧W a D∧sz a < sz x:=by
 obtain ⟨_,h2,h3⟩:=ll h;have ho:=h.ks;obtain ⟨k,nm,g,az,ws,ks,bs,cz⟩:=x;subst hk;obtain ⟨rfl,rfl,rfl,rfl,_,rfl,rfl⟩:=oL (k:=4) (ks:=.nil) (show cB 4 nm g az ws .nil bs cz 4 ⟨#[]⟩ false [] [] .nil [] .nil = true from h2);have DT:(decide (ks.len = 1) && (allS gU ks && rt ks D)) = true:=h3;simp only [ud,decide_eq_true_eq] at DT;obtain ⟨hl,hm,hr⟩:=DT;obtain ⟨a,rfl,hq⟩:=JL ho hl;have ha:=nG ho hr a (by rw [hq];simp);exact ⟨a,rfl,vO hm a (by rw [hq];simp),ha.1,kd ha.2 (Nat.le_add_right _ _)⟩
theorem Cs {x:ND} {D:Nat} (h:W x D) (hk:x.k = 5):∃ l,x = gq l x.bs∧l.length = x.bs.length∧l.length = x.ks.len∧∀ y ∈ l,dN y.k = true∧W y D∧sz y < sz x:=by
 obtain ⟨_,h2,h3⟩:=ll h;have ho:=h.ks;obtain ⟨k,nm,g,az,ws,ks,bs,cz⟩:=x;subst hk;obtain ⟨rfl,rfl,rfl,rfl,_,_,rfl⟩:=oL (k:=5) (ks:=.nil) (bs:=[]) (show cB 5 nm g az ws .nil [] cz 5 ⟨#[]⟩ false [] [] .nil [] .nil = true from h2);have DT:(decide (ks.len = bs.length) && (allS kL ks && rt ks D)) = true:=h3;simp only [ud,decide_eq_true_eq] at DT;obtain ⟨hl,hm,hr⟩:=DT;have hlen:=tK ho;refine ⟨yz ks,?_,by rw [hlen,hl],hlen,fun y hy=>⟨vO hm y hy,(nG ho hr y hy).1,kd (nG ho hr y hy).2 (Nat.le_add_right _ _)⟩⟩;show _ = gq (yz ks) bs;unfold gq;rw [tJ ho]
theorem DU {k:Int} {D:Nat} (hk:bQ k = true) (h:fC k D = false):D≤200:=by
 unfold fC at h;rw [hk] at h;simp at h;exact h
theorem jg {x:ND} {D:Nat} (h:W x D) (hk:x.k = 6∨x.k = 7∨x.k = 8∨x.k = 11∨x.k = 12):∃ l,x = nd x.k l∧D≤200∧(∀ y ∈ l,Body y (D + 1) (sz x))∧(x.k = 6→l.length = 2∨l.length = 3)∧(x.k = 7∨x.k = 8→l.length = 2)∧(x.k = 11∨x.k = 12→l.length = 1):=by
 obtain ⟨h1,h2,h3⟩:=ll h;have ho:=h.ks;obtain ⟨k,nm,g,az,ws,ks,bs,cz⟩:=x;have hk:k = 6∨k = 7∨k = 8∨k = 11∨k = 12:=hk;have Fj:cB k nm g az ws .nil bs cz k ⟨#[]⟩ false [] [] .nil [] .nil = true:=by rcases hk with rfl | rfl | rfl | rfl | rfl <;> exact h2
 obtain ⟨rfl,rfl,rfl,rfl,_,rfl,rfl⟩:=oL Fj;have DT:((allS dK ks && rt ks (D + 1)) = true)∧(k = 6→ks.len = 2∨ks.len = 3)∧(k = 7∨k = 8→ks.len = 2)∧(k = 11∨k = 12→ks.len = 1):=by
  rcases hk with rfl | rfl | rfl | rfl | rfl
  ·have h3:((decide (ks.len = 2) || decide (ks.len = 3)) && (allS dK ks && rt ks (D + 1))) = true:=h3;simp only [ud,Bool.or_eq_true,decide_eq_true_eq] at h3;exact ⟨by simp [h3.2.1,h3.2.2],fun _=>h3.1,fun h=>by omega,fun h=>by omega⟩
  ·have h3:(decide (ks.len = 2) && (allS dK ks && rt ks (D + 1))) = true:=h3;simp only [ud,decide_eq_true_eq] at h3;exact ⟨by simp [h3.2.1,h3.2.2],fun h=>by omega,fun _=>h3.1,fun h=>by omega⟩
  ·have h3:(decide (ks.len = 2) && (allS dK ks && rt ks (D + 1))) = true:=h3;simp only [ud,decide_eq_true_eq] at h3;exact ⟨by simp [h3.2.1,h3.2.2],fun h=>by omega,fun _=>h3.1,fun h=>by omega⟩
  ·have h3:(decide (ks.len = 1) && (allS dK ks && rt ks (D + 1))) = true:=h3;simp only [ud,decide_eq_true_eq] at h3;exact ⟨by simp [h3.2.1,h3.2.2],fun h=>by omega,fun h=>by omega,fun _=>h3.1⟩
  ·have h3:(decide (ks.len = 1) && (allS dK ks && rt ks (D + 1))) = true:=h3;simp only [ud,decide_eq_true_eq] at h3;exact ⟨by simp [h3.2.1,h3.2.2],fun h=>by omega,fun h=>by omega,fun _=>h3.1⟩
 have hD:D≤200:=DU (by rcases hk with rfl | rfl | rfl | rfl | rfl <;> rfl) h1;obtain ⟨h4,h5,h6,h7⟩:=DT;simp only [ud] at h4;have hlen:=tK ho;refine ⟨yz ks,?_,hD,fun y hy=>?_,fun e=>by rw [hlen];exact h5 e,fun e=>by rw [hlen];exact h6 e,fun e=>by rw [hlen];exact h7 e⟩
 ·show _ = nd k (yz ks);unfold nd;rw [tJ ho]
 ·obtain ⟨b1,b2,b3,b4⟩:=xk ho h4.1 h4.2 y hy;exact ⟨b1,b2,b3,kd b4 (Nat.le_add_right _ _)⟩
theorem La {x:ND} {D:Nat} (h:W x D) (hk:x.k = 9):∃ y,x = ⟨9,x.nm,x.g,[],x.ws,toN [y],[],.nil⟩∧D≤200∧DC x.nm x.g x.ws = true∧Body y (D + 1) (sz x):=by
 obtain ⟨h1,h2,h3⟩:=ll h;have ho:=h.ks;obtain ⟨k,nm,g,az,ws,ks,bs,cz⟩:=x;subst hk;obtain ⟨_,_,rfl,_,_,rfl,rfl⟩:=oL (k:=9) (nm:=⟨#[]⟩) (g:=false) (ws:=[]) (ks:=.nil) (show cB 9 ⟨#[]⟩ false az [] .nil bs cz 9 ⟨#[]⟩ false [] [] .nil [] .nil = true from h2);have DT:(decide (ks.len = 1) && DC nm g ws && (allS dK ks && rt ks (D + 1))) = true:=h3;simp only [ud,decide_eq_true_eq] at DT;obtain ⟨⟨hl,hf⟩,ha,hr⟩:=DT;obtain ⟨y,rfl,hq⟩:=JL ho hl;obtain ⟨b1,b2,b3,b4⟩:=xk ho ha hr y (by rw [hq];simp);exact ⟨y,rfl,DU rfl h1,hf,b1,b2,b3,kd b4 (Nat.le_add_right _ _)⟩
structure Entry (c:CD) (D m:Nat):Prop where
 ne:c.1 ≠ []
 all:∀ p ∈ c.1,aG p = true
 one:c.2.length≤1
 body:∀ y ∈ c.2,Body y D m
theorem zS {D:Nat}:∀ {l:NL},NL.okN l false = true→rt l D = true→∀ c ∈ YT l,Entry c D l.size
 | .nil,_,_,_,hc=>by cases hc
 | .cse ps b r,h,hr,c,hc=>by
  simp only [NL.okN,ud] at h;have LU:((!ps.isEmpty && ps.all aG && decide (b.len≤1) && (allS dK b && rt b D)) && rt r D) = true:=hr;simp only [ud,Bool.not_eq_true',decide_eq_true_eq] at LU;obtain ⟨⟨⟨⟨e1,e2⟩,e3⟩,e4,e5⟩,e6⟩:=LU;rcases List.mem_cons.1 hc with rfl | hc
  ·refine ⟨fun e=>?_,fun p hp=>List.all_eq_true.1 e2 p hp,by show (yz b).length≤1;rw [tK h.1.2];exact e3,fun y hy=>?_⟩
   ·rw [show ps = [] from e] at e1;simp at e1
   ·obtain ⟨b1,b2,b3,b4⟩:=xk h.1.2 e4 e5 y hy;exact ⟨b1,b2,b3,by simp only [NL.size];omega⟩
  ·obtain ⟨a1,a2,a3,a4⟩:=zS h.2 e6 c hc;exact ⟨a1,a2,a3,fun y hy=>let ⟨b1,b2,b3,b4⟩:=a4 y hy;⟨b1,b2,b3,by simp only [NL.size];omega⟩⟩
 | .node _ _ _ _ _ _ _ _ _,h,_,_,_=>by simp [NL.okN] at h
theorem DV {x:ND} {D:Nat} (h:W x D) (hk:x.k = 10):∃ w cs,x = ⟨10,⟨#[]⟩,false,[],[w],.nil,[],toC cs⟩∧D≤200∧aG w = true∧∀ c ∈ cs,Entry c (D + 1) (sz x):=by
 obtain ⟨h1,h2,h3⟩:=ll h;have ho:=h.cz;obtain ⟨k,nm,g,az,ws,ks,bs,cz⟩:=x;subst hk;obtain ⟨rfl,rfl,rfl,_,rfl,rfl,_⟩:=oL (k:=10) (ws:=[]) (cz:=.nil) (show cB 10 nm g az [] ks bs .nil 10 ⟨#[]⟩ false [] [] .nil [] .nil = true from h2);have DT:(decide (ws.length = 1) && ws.all aG && rt cz (D + 1)) = true:=h3;simp only [ud,decide_eq_true_eq] at DT;obtain ⟨⟨hl,ha⟩,hr⟩:=DT
 match ws,hl,ha with
 | [w],_,ha =>
  refine ⟨w,YT cz,?_,DU rfl h1,by simpa using ha,fun c hc=>?_⟩
  ·rw [K9 ho]
  ·obtain ⟨a1,a2,a3,a4⟩:=zS ho hr c hc;exact ⟨a1,a2,a3,fun y hy=>let ⟨b1,b2,b3,b4⟩:=a4 y hy;⟨b1,b2,b3,kd b4 (Nat.le_add_left _ _)⟩⟩
theorem JM {x:ND} {D:Nat} (h:W x D) (hk:x.k = 13):∃ y,x = ⟨13,x.nm,false,[],[],toN [y],[],.nil⟩∧bV x.nm.data.toList = true∧bF x.nm.data.toList = false∧df y.k = true∧W y D∧sz y < sz x:=by
 obtain ⟨h1,h2,h3⟩:=ll h;have ho:=h.ks;obtain ⟨k,nm,g,az,ws,ks,bs,cz⟩:=x;subst hk;obtain ⟨_,rfl,rfl,rfl,_,rfl,rfl⟩:=oL (k:=13) (nm:=⟨#[]⟩) (ks:=.nil) (show cB 13 ⟨#[]⟩ g az ws .nil bs cz 13 ⟨#[]⟩ false [] [] .nil [] .nil = true from h2);have DT:(decide (ks.len = 1) && bV nm.data.toList && !bF nm.data.toList && (allS gu ks && rt ks D)) = true:=h3;simp only [ud,decide_eq_true_eq,Bool.not_eq_true'] at DT;obtain ⟨⟨⟨hl,hn⟩,hrs⟩,ha,hr⟩:=DT;obtain ⟨y,rfl,hq⟩:=JL ho hl;have hy:=nG ho hr y (by rw [hq];simp);exact ⟨y,rfl,hn,hrs,vO ha y (by rw [hq];simp),hy.1,kd hy.2 (Nat.le_add_right _ _)⟩
end Pr
namespace Pr
open j6 Pt Bd Tr Sp Lx Ps
theorem Gz {l:List ByteArray} {o:Tok}:bu l o = true ↔ aT o ∈ l:=Lib.containsS_iff l (aT o)
theorem zT {l:List ByteArray} {o:Tok} (h:aT o ∉ l):bu l o = false:=by
 rw [← Bool.not_eq_true,Gz];exact h
def vP (x:ByteArray × PL):PL:=match x.2 with
 | .cons k q t o f r=>if k == 1 && !q then .cons 1 false ⟨(x.1.data.toList ++ 61 :: t.data.toList).toArray⟩ o f r else .cons 1 false ⟨(x.1.data.toList ++ [61]).toArray⟩ ⟨#[]⟩ .nil (.cons k q t o f r)
 | .nil=>.cons 1 false ⟨(x.1.data.toList ++ [61]).toArray⟩ ⟨#[]⟩ .nil .nil
theorem JN:∀ n:Fin 256,iX n = true∨eZ n = true→nO n = true∧n.val ≠ 61∧n.val ≠ 35:=by decide +kernel
theorem og {l:T} (h:bV l = true):l ≠ []∧∀ c ∈ l,nO c.toNat = true∧c ≠ 61∧c ≠ 35:=by
 unfold bV at h;have h:=of_decide_eq_true h;refine ⟨fun e=>by rw [e] at h;exact absurd h.1 (by simp),fun c hc=>?_⟩;obtain ⟨j,hj,rfl⟩:=List.mem_iff_getElem.1 hc;have:=h.2 j hj;rw [List.getD,List.getElem?_eq_getElem hj,Option.getD_some] at this;have hb:iX l[j].toNat = true∨eZ l[j].toNat = true:=by
  unfold okB at this;simp only [Bool.or_eq_true,ud] at this;exact this.imp id fun h=>h.2
 obtain ⟨g1,g2,g3⟩:=JN ⟨l[j].toNat,UInt8.toNat_lt _⟩ hb;exact ⟨g1,fun e=>g2 (by rw [e];rfl),fun e=>g3 (by rw [e];rfl)⟩
theorem Tk {l x:T} (h:∀ c ∈ l,c ≠ 61):Lib.indexByte (l ++ 61 :: x) 61 = l.length:=zP fun e=>h 61 e rfl
theorem Qi {l x:T} (h:bV l = true):Py (l ++ 61 :: x) = some l.length:=by
 have hb:=og h;unfold Py;rw [Tk fun c hc=>(hb.2 c hc).2.1,if_pos (by omega),Int.toNat_natCast,List.take_left,if_pos h]
theorem JO {q:Bool} {t o:ByteArray} {f:PL} (h:gm 1 q t o f 0 1 = true):o.data.toList = []∧f.len = 0∧dh q t.data.toList 0 = true:=by
 unfold gm at h;rw [if_pos (show ((1:Int) == 1) = true by decide)] at h;simp only [ud,beq_iff_eq] at h;exact ⟨h.1.1,h.1.2,h.2⟩
theorem Qj {x:ByteArray × PL} (hv:rightL none x.2 0 1 = true):textL (vP x) 0 = uJ x:=by
 obtain ⟨nm,v⟩:=x;unfold vP uJ aR;cases v with
 | nil=>simp [textL]
 | cons k q t o f r =>
  by_cases hk:(k == 1 && !q) = true
  ·simp only [ud,beq_iff_eq,Bool.not_eq_true'] at hk;obtain ⟨rfl,rfl⟩:=hk;simp [textL]
  ·simp only [hk];simp [textL]
theorem Tm:gI (61:UInt8).toNat 0 = true:=by decide
theorem xn {x:ByteArray × PL} (hn:bV x.1.data.toList = true) (hv:rightL none x.2 0 1 = true):aG (vP x) = true:=by
 obtain ⟨nm,v⟩:=x;have hb:=og hn;have jD:nm.data.toList ≠ []:=hb.1;have aM:∀ (l:T),(∀ c ∈ l,gI c.toNat 0 = true)→dh false (nm.data.toList ++ 61 :: l) 0 = true:=fun l hl=>by
  unfold dh;simp only [Bool.false_eq_true,if_false,ud];refine ⟨List.all_eq_true.2 fun c hc=>?_,by cases h:nm.data.toList <;> simp⟩;rcases List.mem_append.1 hc with hc | hc
  ·have:=(hb.2 c hc).1;simpa [gI] using this
  ·rcases List.mem_cons.1 hc with rfl | hc
   ·exact Tm
   ·exact hl c hc
 have yE:∀ l:T,Lib.hasPrefix (nm.data.toList ++ 61 :: l) [35] = false:=fun l=>by
  cases h:nm.data.toList with
  | nil=>exact absurd h jD
  | cons c z =>
   have:=(hb.2 c (by rw [h];simp)).2.2;simp [Lib.hasPrefix,List.isPrefixOf,Ne.symm this]
 have key:∀ (l:T) (o:ByteArray) (f r:PL),(∀ c ∈ l,gI c.toNat 0 = true)→o.data.toList = []→f.len = 0→rightL (some (1,false)) r 0 1 = true→aG (.cons 1 false ⟨(nm.data.toList ++ 61 :: l).toArray⟩ o f r) = true:=fun l o f r hl ho hf hr=>by
  have h1:=aM l hl;have h2:=yE l;simp only [aG,rightL];simp [h1,h2,ho,hf,hr]
 unfold vP;cases v with
 | nil=>exact key [] ⟨#[]⟩ .nil .nil (fun _ h=>by cases h) rfl rfl rfl
 | cons k q t o f r =>
  have hv':=hv;rw [jL] at hv';simp only [ud] at hv';obtain ⟨⟨⟨_,_⟩,hp⟩,Pg⟩:=hv'
  by_cases hk:(k == 1 && !q) = true
  ·have YV:=hk;simp only [ud,beq_iff_eq,Bool.not_eq_true'] at YV;obtain ⟨rfl,rfl⟩:=YV;obtain ⟨p1,p2,p3⟩:=JO hp;show aG (if ((1:Int) == 1 && !false) = true then _ else _) = true;rw [if_pos hk];refine key t.data.toList o f r (fun c hc=>?_) p1 p2 Pg;unfold dh at p3;simp only [Bool.false_eq_true,if_false,ud] at p3;exact List.all_eq_true.1 p3.1 c hc
  ·show aG (if (k == 1 && !q) = true then _ else _) = true;rw [if_neg hk];refine key [] ⟨#[]⟩ .nil _ (fun _ h=>by cases h) rfl rfl ?_;have:(some ((1:Int),false)).any (fun x=>x.1 == 1 && k == 1 && x.2 == q) = false:=by
    cases h1:k == 1 <;> cases q <;> simp_all
   have BL:(none:Option (Int × Bool)).any (fun x=>x.1 == 1 && k == 1 && x.2 == q) = false:=rfl;rw [jL] at hv ⊢
   rw [this];rw [BL] at hv;exact hv
theorem GA {k:Int} {q:Bool} {t o:ByteArray} {f r:PL} {n:Nat} (h:t.size≤n + 1):restP (.cons k q t o f r) n = r:=if_pos h
theorem Qk {k:Int} {q:Bool} {t o:ByteArray} {f r:PL} {n:Nat} (h:¬ t.size≤n + 1):restP (.cons k q t o f r) n = .cons k q ⟨(t.data.toList.drop (n + 1)).toArray⟩ o f r:=if_neg h
theorem M0 {x:ByteArray × PL} (hn:bV x.1.data.toList = true) (hv:rightL none x.2 0 1 = true):splitA (vP x) = some x:=by
 obtain ⟨nm,v⟩:=x;have bU:∀ l:T,(⟨(nm.data.toList ++ 61 :: l).toArray⟩:ByteArray).size = nm.data.toList.length + l.length + 1:=fun l=>by
  show (nm.data.toList ++ 61 :: l).toArray.size = _;rw [List.size_toArray,zI,zz];(try omega)
 have htk:∀ l:T,(⟨((nm.data.toList ++ 61 :: l).take nm.data.toList.length).toArray⟩:ByteArray) = nm:=fun l=>by
  rw [List.take_left,vM]
 have hE:∀ l:T,Py (nm.data.toList ++ 61 :: l) = some nm.data.toList.length:=fun l=>Qi hn;unfold vP;cases v with
 | nil =>
  show splitA (.cons 1 false ⟨(nm.data.toList ++ 61 :: []).toArray⟩ ⟨#[]⟩ .nil .nil) = _;unfold splitA splitP;simp only [hE,show ((1:Int) == 1 && !false) = true from rfl,if_true];rw [htk];rw [GA (by rw [bU];simp)]
 | cons k q t o f r =>
  by_cases hk:(k == 1 && !q) = true
  ·have YV:=hk;simp only [ud,beq_iff_eq,Bool.not_eq_true'] at YV;obtain ⟨rfl,rfl⟩:=YV;rw [jL] at hv;simp only [ud] at hv;obtain ⟨p1,p2,p3⟩:=JO hv.1.2;show splitA (if ((1:Int) == 1 && !false) = true then _ else _) = _;rw [if_pos hk];unfold splitA splitP;simp only [hE,show ((1:Int) == 1 && !false) = true from rfl,if_true];rw [htk];have jD:t.data.toList ≠ []:=fun e=>by
    unfold dh at p3;rw [e] at p3;simp at p3
   have IP:0 < t.data.toList.length:=List.length_pos_iff.2 jD;rw [Qk (by rw [bU];omega)];have:(nm.data.toList ++ 61 :: t.data.toList).drop (nm.data.toList.length + 1) = t.data.toList:=by
    rw [← List.drop_drop,List.drop_left];rfl
   simp only [this,vM]
  ·show splitA (if (k == 1 && !q) = true then _ else _) = _;rw [if_neg hk];show splitA (.cons 1 false ⟨(nm.data.toList ++ 61 :: []).toArray⟩ ⟨#[]⟩ .nil _) = _;unfold splitA splitP;simp only [hE,show ((1:Int) == 1 && !false) = true from rfl,if_true];rw [htk];rw [GA (by rw [bU];simp)]
def zU (L:List PL):T:=behind [] [32] (L.map aR)
theorem sH (w:PL) (r:List PL):zU (w :: r) = aR w ++ behind [32] [32] (r.map aR):=rfl
theorem xX (w:PL) (r:List PL):behind [32] [32] ((w :: r).map aR) = [32] ++ zU (w :: r):=rfl
theorem GD {w:PL} (h:aG w = true):0 < (textL w 0).length:=by
 obtain ⟨c,z,e,_⟩:=qz h [];have:=congrArg List.length e;simp at this;omega
def Seq (s:ByteArray) (o:Tok) (L:List PL) (Z z:T):Prop:=match L with
 | []=>aH s o z
 | w :: r=>aH s o (zU (w :: r) ++ Z)
theorem zV {r:List PL} {Z z:T} (R:Rest Z z):∃ c y,behind [32] [32] (r.map aR) ++ Z = c :: y∧uk c = true:=by
 cases r with
 | nil=>exact R.del
 | cons w r=>exact ⟨32,_,rfl,by decide⟩
theorem tL {s:ByteArray} {o:Tok} {w:PL} {r:List PL} {Z z:T} (hw:aG w = true) (hr:∀ x ∈ r,aG x = true) (R:Rest Z z) (h:aH s o (zU (w :: r) ++ Z)):o.k = 1∧o.l = w∧∃ o',dL s o = .ok () o'∧Seq s o' r Z z:=by
 obtain ⟨c,y,e,hc⟩:=zV (r:=r) R;rw [sH,zq,e] at h;obtain ⟨h1,h2,h3⟩:=h.word hw hc;refine ⟨h1,h2,?_⟩;rw [← e] at h3;cases r with
 | nil=>exact R.next h3
 | cons w2 r =>
  obtain ⟨c2,y2,e2,oN⟩:=zV (r:=r) R;have hx:bW (zU (w2 :: r) ++ Z):=by
   rw [sH,zq,e2];exact bW.word (hr w2 (by simp)) oN y2
  rw [xX,zq] at h3;exact bg (.inr rfl) h3 hx
theorem uL {s:ByteArray} {Z z:T} (R:Rest Z z):∀ (L:List PL) (n:Nat) (acc:List PL) (o:Tok),(∀ x ∈ L,aG x = true)→Seq s o L Z z→L.length < n→∃ o',wordsN s n acc o = .ok (acc ++ L) o'∧aH s o' z
 | [],n + 1,acc,o,_,h,_=>⟨o,by
   rw [wordsN,if_neg (R.stops.stop s o h).1,List.append_nil],h⟩
 | w :: r,n + 1,acc,o,hL,h,hn=>by
  obtain ⟨h1,h2,o1,h3,h4⟩:=tL (hL w (by simp)) (fun x hx=>hL x (by simp [hx])) R h;obtain ⟨o2,h5,h6⟩:=uL R r n (acc ++ [w]) o1 (fun x hx=>hL x (by simp [hx])) h4 (by simp only [zz] at hn;omega);refine ⟨o2,?_,h6⟩;rw [wordsN,if_pos h1,gV,if_pos h1,h3,h2];show wordsN s n (acc ++ [w]) o1 = _;rw [h5,zq];rfl
theorem vQ {s:ByteArray} {Z z:T} (R:Rest Z z) (ws:List PL) (hws:∀ x ∈ ws,aG x = true) (hf:∀ w r,ws = w :: r→splitA w = none):∀ (az:List (ByteArray × PL)) (n:Nat) (acc:List (ByteArray × PL)) (o:Tok),(∀ x ∈ az,bV x.1.data.toList = true∧rightL none x.2 0 1 = true)→Seq s o (az.map vP ++ ws) Z z→az.length < n →
  ∃ o',assignsN s n acc o = .ok (acc ++ az) o'∧Seq s o' ws Z z
 | [],n + 1,acc,o,_,h,_=>by
  refine ⟨o,?_,h⟩;rw [List.append_nil,assignsN];cases ws with
  | nil=>rw [if_neg (R.stops.stop s o h).1]
  | cons w r =>
   obtain ⟨h1,h2,_⟩:=tL (hws w (by simp)) (fun x hx=>hws x (by simp [hx])) R h;rw [if_pos h1,h2,hf w r rfl]
 | x :: az,n + 1,acc,o,ha,h,hn=>by
  obtain ⟨yC,zu⟩:=ha x (by simp);have iF:∀ y ∈ az.map vP ++ ws,aG y = true:=fun y hy=>by
   rcases List.mem_append.1 hy with hy | hy
   ·obtain ⟨u,hu,rfl⟩:=List.mem_map.1 hy;exact xn (ha u (by simp [hu])).1 (ha u (by simp [hu])).2
   ·exact hws y hy
  obtain ⟨h1,h2,o1,h3,h4⟩:=tL (xn yC zu) iF R h;obtain ⟨o2,h5,h6⟩:=vQ R ws hws hf az n (acc ++ [x]) o1 (fun y hy=>ha y (by simp [hy])) h4 (by simp only [zz] at hn;omega);refine ⟨o2,?_,h6⟩;rw [assignsN,if_pos h1,h2,M0 yC zu];show (dL s o).bind _ = _;rw [h3];show assignsN s n (acc ++ [x]) o1 = _;rw [h5,zq];rfl
end Pr
end Go.Proofs.YtckakkeejekibaaGreatDoor
