/- Nodes, as they lie in memory: a plain datum; an argument that is a node. -/
import Derived.Test.YtckakkeejekibaaGreatDoorLawS
import Derived.Test.YtckakkeejekibaaGreatDoorPtY
set_option maxHeartbeats 1000000
set_option maxRecDepth 100000
namespace Go.Proofs.YtckakkeejekibaaGreatDoor
open Go.RowKit Go.WideShapes Go.ChangeShapes
namespace Tr
open Pt
def qI {T:Type} (k:Nat) (P:Nat→Nat→T→Prop) (b:Nat):Nat→List T→Prop
 | _,[]=>True
 | o,t :: r=>P b o t∧qI k P b (o + k) r
theorem qI.get {T:Type} {k:Nat} {P:Nat→Nat→T→Prop} {b:Nat}:∀ {l:List T} {o n:Nat} {t:T},qI k P b o l→l[n]? = some t→P b (o + n * k) t
 | [],_,_,_,_,h=>by simp at h
 | _ :: _,o,0,_,h,hn=>by
  simp only [List.getElem?_cons_zero,Option.some.injEq] at hn;subst hn;simpa using h.1
 | _ :: r,o,n + 1,t,h,hn=>by
  have:=qI.get (n:=n) h.2 (by simpa using hn);rwa [show o + k + n * k = o + (n + 1) * k by rw [Nat.succ_mul];omega] at this
theorem qI.mono {T:Type} {k:Nat} {P Q:Nat→Nat→T→Prop} {b:Nat} (hPQ:∀ o t,P b o t→Q b o t):∀ {l:List T} {o:Nat},qI k P b o l→qI k Q b o l
 | [],_,_=>trivial
 | _ :: _,_,h=>⟨hPQ _ _ h.1,qI.mono hPQ h.2⟩
def Sl {T:Type} (k:Nat) (P:Nat→Nat→T→Prop) (a:Option Addr) (cap:Nat) (l:List T):Prop :=
 l.length≤cap∧l.length≤R∧(l = []∨∃ b o,a = some ⟨b,o,none⟩∧qI k P b o l)
theorem Sl.le {T:Type} {k:Nat} {P:Nat→Nat→T→Prop} {a:Option Addr} {cap:Nat} {l:List T} (h:Sl k P a cap l):l.length≤140737488351232:=h.2.1
theorem Sl.get {T:Type} {k:Nat} {P:Nat→Nat→T→Prop} {a:Option Addr} {cap n:Nat} {l:List T} {t:T} (h:Sl k P a cap l) (hn:l[n]? = some t):∃ b o,a = some ⟨b,o,none⟩∧P b (o + n * k) t:=by
 obtain ⟨_,_,h3⟩:=h;rcases h3 with rfl | ⟨b,o,ha,h3⟩
 ·simp at hn
 ·exact ⟨b,o,ha,h3.get hn⟩
theorem Sl.mono {T:Type} {k:Nat} {P Q:Nat→Nat→T→Prop} {a:Option Addr} {cap:Nat} {l:List T} (h:Sl k P a cap l) (hPQ:∀ b o t,P b o t→Q b o t):Sl k Q a cap l:=by
 obtain ⟨h1,h2,h3⟩:=h;refine ⟨h1,h2,?_⟩;rcases h3 with h3 | ⟨b,o,ha,h3⟩
 ·exact .inl h3
 ·exact .inr ⟨b,o,ha,h3.mono fun o t=>hPQ b o t⟩
def PA (w:World) (b o:Nat) (x:ByteArray × PL):Prop:=w.cell? ⟨b,o,none⟩ = some (.string x.1)∧x.1.size≤R∧∃ a cap,w.cell? ⟨b,o + 1,none⟩ = some (.slice a x.2.len cap)∧gJ w a cap x.2
def PW (w:World) (b o:Nat) (l:PL):Prop:=∃ a cap,w.cell? ⟨b,o,none⟩ = some (.slice a l.len cap)∧gJ w a cap l
def PB (w:World) (b o:Nat) (x:Bool):Prop:=w.cell? ⟨b,o,none⟩ = some (.bool x)
theorem cell_below {w w':World} (hb:Below w.heap.size w w') {b o:Nat} {v:Value} (h:w.cell? ⟨b,o,none⟩ = some v):w'.cell? ⟨b,o,none⟩ = some v:=(hb.cell (p:=⟨b,o,none⟩) (World.block_lt_of_cell? _ _ h)).trans h
theorem PA.below {w w':World} (hb:Below w.heap.size w w') {b o:Nat} {x:ByteArray × PL} (h:PA w b o x):PA w' b o x:=by
 obtain ⟨h1,h2,a,cap,h3,h4⟩:=h;exact ⟨cell_below hb h1,h2,a,cap,cell_below hb h3,h4.below hb⟩
theorem PW.below {w w':World} (hb:Below w.heap.size w w') {b o:Nat} {x:PL} (h:PW w b o x):PW w' b o x:=by
 obtain ⟨a,cap,h3,h4⟩:=h;exact ⟨a,cap,cell_below hb h3,h4.below hb⟩
theorem PB.below {w w':World} (hb:Below w.heap.size w w') {b o:Nat} {x:Bool} (h:PB w b o x):PB w' b o x:=cell_below hb h
inductive NL where
 | nil
 | node (k:Int) (nm:ByteArray) (g:Bool) (az:List (ByteArray × PL)) (ws:List PL) (kids:NL) (bs:List Bool) (cs:NL) (rest:NL)
 | cse (ps:List PL) (body:NL) (rest:NL)
namespace NL
def len:NL→Nat
 | nil=>0
 | node _ _ _ _ _ _ _ _ r=>r.len + 1
 | cse _ _ r=>r.len + 1
def size:NL→Nat
 | nil=>0
 | node _ _ _ _ _ ks _ cs r=>ks.size + cs.size + r.size + 1
 | cse _ b r=>b.size + r.size + 1
def drop:Nat→NL→NL
 | 0,l=>l
 | _ + 1,nil=>nil
 | n + 1,node _ _ _ _ _ _ _ _ r=>drop n r
 | n + 1,cse _ _ r=>drop n r
def okN:NL→Bool→Bool
 | nil,_=>true
 | node _ _ _ _ _ ks _ cs r,f=>f && okN ks true && okN cs false && okN r true
 | cse _ b r,f=>!f && okN b true && okN r false
theorem o6:∀ (n:Nat) (l:NL),(drop n l).len = l.len - n
 | 0,_=>rfl
 | n + 1,nil=>by simp [drop,len]
 | n + 1,node _ _ _ _ _ _ _ _ r=>by simp [drop,len,o6 n r]
 | n + 1,cse _ _ r=>by simp [drop,len,o6 n r]
theorem eX:∀ (n:Nat) (l:NL),(drop n l).size≤l.size
 | 0,_=>Nat.le_refl _
 | n + 1,nil=>Nat.le_refl _
 | n + 1,node _ _ _ _ _ _ _ _ r=>by have:=eX n r;simp only [drop,size];omega
 | n + 1,cse _ _ r=>by have:=eX n r;simp only [drop,size];omega
theorem yG:∀ (n:Nat) (l:NL) (f:Bool),okN l f = true→okN (drop n l) f = true
 | 0,_,_,h=>h
 | n + 1,nil,_,h=>h
 | n + 1,node _ _ _ _ _ _ _ _ r,f,h=>by
  simp only [okN,Bool.and_eq_true] at h;obtain ⟨⟨⟨rfl,_⟩,_⟩,h4⟩:=h;exact yG n r true h4
 | n + 1,cse _ _ r,f,h=>by
  simp only [okN,Bool.and_eq_true,Bool.not_eq_true'] at h;obtain ⟨⟨rfl,_⟩,h4⟩:=h;exact yG n r false h4
theorem bf:∀ {n:Nat} {l:NL},n < l.len→okN l true = true→∃ k nm g az ws ks bs cs r,drop n l = node k nm g az ws ks bs cs r
 | 0,node k nm g az ws ks bs cs r,_,_=>⟨k,nm,g,az,ws,ks,bs,cs,r,rfl⟩
 | 0,cse _ _ _,_,h=>by simp [okN] at h
 | n + 1,node _ _ _ _ _ _ _ _ r,h,hk=>by
  simp only [len] at h;simp only [okN,Bool.and_eq_true] at hk;exact bf (n:=n) (l:=r) (by omega) hk.2
 | n + 1,cse _ _ _,_,h=>by simp [okN] at h
theorem pF:∀ {n:Nat} {l:NL},n < l.len→okN l false = true→∃ ps b r,drop n l = cse ps b r
 | 0,cse ps b r,_,_=>⟨ps,b,r,rfl⟩
 | 0,node _ _ _ _ _ _ _ _ _,_,h=>by simp [okN] at h
 | n + 1,cse _ _ r,h,hk=>by
  simp only [len] at h;simp only [okN,Bool.and_eq_true] at hk;exact pF (n:=n) (l:=r) (by omega) hk.2
 | n + 1,node _ _ _ _ _ _ _ _ _,_,h=>by simp [okN] at h
theorem fo {n:Nat} {l:NL} (h:l.len≤n):drop n l = nil:=by
 have:=o6 n l;cases hd:drop n l with
 | nil=>rfl
 | node=>rw [hd] at this;simp only [len] at this;omega
 | cse=>rw [hd] at this;simp only [len] at this;omega
theorem gP:∀ {n:Nat} {l r ks cs:NL} {k:Int} {nm:ByteArray} {g:Bool} {az:List (ByteArray × PL)} {ws:List PL} {bs:List Bool},drop n l = node k nm g az ws ks bs cs r→drop (n + 1) l = r
 | 0,_,_,_,_,_,_,_,_,_,_,h=>by simp only [drop] at h;subst h;rfl
 | n + 1,nil,_,_,_,_,_,_,_,_,_,h=>by simp [drop] at h
 | n + 1,node _ _ _ _ _ _ _ _ _,_,_,_,_,_,_,_,_,_,h=>by simp only [drop] at h ⊢;exact gP h
 | n + 1,cse _ _ _,_,_,_,_,_,_,_,_,_,h=>by simp only [drop] at h ⊢;exact gP h
theorem lY:∀ {n:Nat} {l r b:NL} {ps:List PL},drop n l = cse ps b r→drop (n + 1) l = r
 | 0,_,_,_,_,h=>by simp only [drop] at h;subst h;rfl
 | n + 1,nil,_,_,_,h=>by simp [drop] at h
 | n + 1,node _ _ _ _ _ _ _ _ _,_,_,_,h=>by simp only [drop] at h ⊢;exact lY h
 | n + 1,cse _ _ _,_,_,_,h=>by simp only [drop] at h ⊢;exact lY h
end NL
def BA (w:World):NL→Nat→Nat→Prop
 | .nil,_,_=>True
 | .node k nm g az ws ks bs cs r,b,o =>
  (w.cell? ⟨b,o,none⟩ = some (.int .i64 k)∧w.cell? ⟨b,o + 1,none⟩ = some (.string nm)∧w.cell? ⟨b,o + 2,none⟩ = some (.bool g)∧nm.size≤R) ∧
  (∃ a cap,w.cell? ⟨b,o + 3,none⟩ = some (.slice a az.length cap)∧Sl 2 (PA w) a cap az) ∧
  (∃ a cap,w.cell? ⟨b,o + 4,none⟩ = some (.slice a ws.length cap)∧Sl 1 (PW w) a cap ws) ∧
  (∃ a cap,w.cell? ⟨b,o + 5,none⟩ = some (.slice a ks.len cap)∧ks.len≤cap∧ks.len≤R∧(ks = .nil∨∃ b' o',a = some ⟨b',o',none⟩∧BA w ks b' o')) ∧
  (∃ a cap,w.cell? ⟨b,o + 6,none⟩ = some (.slice a bs.length cap)∧Sl 1 (PB w) a cap bs) ∧
  (∃ a cap,w.cell? ⟨b,o + 7,none⟩ = some (.slice a cs.len cap)∧cs.len≤cap∧cs.len≤R∧(cs = .nil∨∃ b' o',a = some ⟨b',o',none⟩∧BA w cs b' o'))∧BA w r b (o + 8)
 | .cse ps bd r,b,o =>
  (∃ a cap,w.cell? ⟨b,o,none⟩ = some (.slice a ps.length cap)∧Sl 1 (PW w) a cap ps) ∧
  (∃ a cap,w.cell? ⟨b,o + 1,none⟩ = some (.slice a bd.len cap)∧bd.len≤cap∧bd.len≤R∧(bd = .nil∨∃ b' o',a = some ⟨b',o',none⟩∧BA w bd b' o'))∧BA w r b (o + 2)
def dJ (w:World) (a:Option Addr) (cap:Nat) (l:NL):Prop:=l.len≤cap∧l.len≤R∧(l = .nil∨∃ b o,a = some ⟨b,o,none⟩∧BA w l b o)
theorem dJ.le {w:World} {a:Option Addr} {cap:Nat} {l:NL} (h:dJ w a cap l):l.len≤140737488351232:=h.2.1
theorem BA.below {w w':World} (hb:Below w.heap.size w w'):∀ {l:NL} {b o:Nat},BA w l b o→BA w' l b o:=by
 intro l
 induction l with
 | nil=>exact fun _=>trivial
 | node k nm g az ws ks bs cs r ihk ihc SG =>
  rintro b o ⟨⟨h0,h1,h2,h3⟩,⟨a1,c1,e1,s1⟩,⟨a2,c2,e2,s2⟩,⟨a3,c3,e3,l3,m3,s3⟩,⟨a4,c4,e4,s4⟩,⟨a5,c5,e5,l5,m5,s5⟩,hr⟩;refine ⟨⟨cell_below hb h0,cell_below hb h1,cell_below hb h2,h3⟩,⟨a1,c1,cell_below hb e1,s1.mono fun _ _ _ h=>h.below hb⟩,⟨a2,c2,cell_below hb e2,s2.mono fun _ _ _ h=>h.below hb⟩,⟨a3,c3,cell_below hb e3,l3,m3,?_⟩,⟨a4,c4,cell_below hb e4,s4.mono fun _ _ _ h=>h.below hb⟩,⟨a5,c5,cell_below hb e5,l5,m5,?_⟩,SG hr⟩
  ·exact s3.imp id fun ⟨b',o',ha,h⟩=>⟨b',o',ha,ihk h⟩
  ·exact s5.imp id fun ⟨b',o',ha,h⟩=>⟨b',o',ha,ihc h⟩
 | cse ps bd r ihb SG =>
  rintro b o ⟨⟨a2,c2,e2,s2⟩,⟨a3,c3,e3,l3,m3,s3⟩,hr⟩;exact ⟨⟨a2,c2,cell_below hb e2,s2.mono fun _ _ _ h=>h.below hb⟩,⟨a3,c3,cell_below hb e3,l3,m3,s3.imp id fun ⟨b',o',ha,h⟩=>⟨b',o',ha,ihb h⟩⟩,SG hr⟩
theorem dJ.below {w w':World} {a:Option Addr} {cap:Nat} {l:NL} (h:dJ w a cap l) (hb:Below w.heap.size w w'):dJ w' a cap l :=
 ⟨h.1,h.2.1,h.2.2.imp id fun ⟨b,o,ha,h⟩=>⟨b,o,ha,h.below hb⟩⟩
theorem BA.UC {w:World} {b:Nat}:∀ {n:Nat} {l:NL} {o:Nat},NL.okN l true = true→BA w l b o→BA w (l.drop n) b (o + n * 8)
 | 0,_,o,_,h=>by simpa [NL.drop] using h
 | n + 1,.nil,_,_,_=>trivial
 | n + 1,.node _ _ _ _ _ _ _ _ r,o,hk,h=>by
  simp only [NL.okN,Bool.and_eq_true] at hk;have:=BA.UC (n:=n) hk.2 h.2.2.2.2.2.2;simp only [NL.drop];rwa [show o + (n + 1) * 8 = o + 8 + n * 8 by omega]
 | n + 1,.cse _ _ _,_,hk,_=>by simp [NL.okN] at hk
theorem BA.UD {w:World} {b:Nat}:∀ {n:Nat} {l:NL} {o:Nat},NL.okN l false = true→BA w l b o→BA w (l.drop n) b (o + n * 2)
 | 0,_,o,_,h=>by simpa [NL.drop] using h
 | n + 1,.nil,_,_,_=>trivial
 | n + 1,.cse _ _ r,o,hk,h=>by
  simp only [NL.okN,Bool.and_eq_true] at hk;have:=BA.UD (n:=n) hk.2 h.2.2;simp only [NL.drop];rwa [show o + (n + 1) * 2 = o + 2 + n * 2 by omega]
 | n + 1,.node _ _ _ _ _ _ _ _ _,_,hk,_=>by simp [NL.okN] at hk
def aJ (k:Int) (nm:ByteArray) (g:Bool) (a1:Option Addr) (n1 c1:Nat) (a2:Option Addr) (n2 c2:Nat) (a3:Option Addr) (n3 c3:Nat) (a4:Option Addr) (n4 c4:Nat) (a5:Option Addr) (n5 c5:Nat):Array Value :=
 #[.int .i64 k,.string nm,.bool g,.slice a1 n1 c1,.slice a2 n2 c2,.slice a3 n3 c3,.slice a4 n4 c4,.slice a5 n5 c5]
structure Holds (w:World) (nm:ByteArray) (az:List (ByteArray × PL)) (ws:List PL) (ks:NL) (bs:List Bool) (cs:NL) (a1:Option Addr) (c1:Nat) (a2:Option Addr) (c2:Nat) (a3:Option Addr) (c3:Nat) (a4:Option Addr) (c4:Nat) (a5:Option Addr) (c5:Nat):Prop where
 hnm:nm.size≤R
 haz:Sl 2 (PA w) a1 c1 az
 hws:Sl 1 (PW w) a2 c2 ws
 hks:dJ w a3 c3 ks
 hbs:Sl 1 (PB w) a4 c4 bs
 hcs:dJ w a5 c5 cs
 xU:NL.okN ks true = true
 MO:NL.okN cs false = true
theorem Holds.below {w w':World} {nm:ByteArray} {az:List (ByteArray × PL)} {ws:List PL} {ks cs:NL} {bs:List Bool} {a1 a2 a3 a4 a5:Option Addr} {c1 c2 c3 c4 c5:Nat} (h:Holds w nm az ws ks bs cs a1 c1 a2 c2 a3 c3 a4 c4 a5 c5) (hb:Below w.heap.size w w'):Holds w' nm az ws ks bs cs a1 c1 a2 c2 a3 c3 a4 c4 a5 c5 :=
 ⟨h.hnm,h.haz.mono fun _ _ _ h=>h.below hb,h.hws.mono fun _ _ _ h=>h.below hb,h.hks.below hb,h.hbs.mono fun _ _ _ h=>h.below hb,h.hcs.below hb,h.xU,h.MO⟩
theorem dJ.kX {w:World} {a:Option Addr} {cap i:Nat} {l ks cs r:NL} {k:Int} {nm:ByteArray} {g:Bool} {az:List (ByteArray × PL)} {ws:List PL} {bs:List Bool} (h:dJ w a cap l) (hk:NL.okN l true = true) (hd:l.drop i = .node k nm g az ws ks bs cs r) :
  ∃ b o,a = some ⟨b,o,none⟩∧b < w.heap.size∧∃ a1 c1 a2 c2 a3 c3 a4 c4 a5 c5,(∀ j v,(aJ k nm g a1 az.length c1 a2 ws.length c2 a3 ks.len c3 a4 bs.length c4 a5 cs.len c5)[j]? = some v→w.cell? ⟨b,o + i * 8 + j,none⟩ = some v)∧Holds w nm az ws ks bs cs a1 c1 a2 c2 a3 c3 a4 c4 a5 c5:=by
 obtain ⟨_,_,h3⟩:=h;rcases h3 with rfl | ⟨b,o,ha,h3⟩
 ·cases i <;> simp [NL.drop] at hd
 ·have fO:=NL.yG i l true hk;have:=BA.UC (n:=i) hk h3;rw [hd] at this fO;simp only [NL.okN,Bool.and_eq_true] at fO;obtain ⟨⟨h0,h1,h2,h3⟩,⟨a1,c1,e1,s1⟩,⟨a2,c2,e2,s2⟩,⟨a3,c3,e3,s3⟩,⟨a4,c4,e4,s4⟩,⟨a5,c5,e5,s5⟩,_⟩:=this;refine ⟨b,o,ha,World.block_lt_of_cell? _ _ h0,a1,c1,a2,c2,a3,c3,a4,c4,a5,c5,fun j v hv=>?_,h3,s1,s2,s3,s4,s5,fO.1.1.2,fO.1.2⟩
  match j,hv with
  | 0,hv=>cases hv;exact h0
  | 1,hv=>cases hv;exact h1
  | 2,hv=>cases hv;exact h2
  | 3,hv=>cases hv;exact e1
  | 4,hv=>cases hv;exact e2
  | 5,hv=>cases hv;exact e3
  | 6,hv=>cases hv;exact e4
  | 7,hv=>cases hv;exact e5
  | j + 8,hv=>simp [aJ] at hv
theorem dJ.SH {w:World} {a:Option Addr} {cap i:Nat} {l bd r:NL} {ps:List PL} (h:dJ w a cap l) (hk:NL.okN l false = true) (hd:l.drop i = .cse ps bd r) :
  ∃ b o,a = some ⟨b,o,none⟩∧b < w.heap.size∧∃ a1 c1 a2 c2,w.cell? ⟨b,o + i * 2,none⟩ = some (.slice a1 ps.length c1)∧w.cell? ⟨b,o + i * 2 + 1,none⟩ = some (.slice a2 bd.len c2)∧Sl 1 (PW w) a1 c1 ps∧dJ w a2 c2 bd∧NL.okN bd true = true:=by
 obtain ⟨_,_,h3⟩:=h;rcases h3 with rfl | ⟨b,o,ha,h3⟩
 ·cases i <;> simp [NL.drop] at hd
 ·have fO:=NL.yG i l false hk;have:=BA.UD (n:=i) hk h3;rw [hd] at this fO;simp only [NL.okN,Bool.and_eq_true] at fO;obtain ⟨⟨a1,c1,e1,s1⟩,⟨a2,c2,e2,s2⟩,_⟩:=this;exact ⟨b,o,ha,World.block_lt_of_cell? _ _ e1,a1,c1,a2,c2,e1,e2,s1,s2,fO.1.2⟩
section
variable {H:Type} {enc:TypeId × Value→H} {w:World} {base:Nat} {held:Bool}
end
end Tr
end Go.Proofs.YtckakkeejekibaaGreatDoor
namespace Go.Proofs.YtckakkeejekibaaGreatDoor
open Go.RowKit Go.Sort
namespace Tr
open j6 Pt
def eqL {T:Type} (p:T→T→Bool):List T→List T→Bool
 | [],[]=>true
 | x :: r,y :: s=>p x y && eqL p r s
 | _,_=>false
theorem yH {T:Type} {p:T→T→Bool}:∀ {l m:List T},l.length ≠ m.length→eqL p l m = false
 | [],[],h=>absurd rfl h
 | [],_ :: _,_=>rfl
 | _ :: _,[],_=>rfl
 | x :: r,y :: s,h=>by simp only [eqL,yH (l:=r) (m:=s) (by simpa using h),Bool.and_false]
theorem Jw {T:Type} {p:T→T→Bool} {l m:List T} {k:Nat} (h1:k < l.length) (h2:k < m.length):eqL p (l.drop k) (m.drop k) = (p l[k] m[k] && eqL p (l.drop (k + 1)) (m.drop (k + 1))):=by
 rw [List.drop_eq_getElem_cons h1,List.drop_eq_getElem_cons h2];rfl
theorem Dw {T:Type} {p:T→T→Bool} {l m:List T} (h:l.length = m.length):eqL p (l.drop l.length) (m.drop l.length) = true:=by
 rw [List.drop_eq_nil_of_le (Nat.le_refl _),List.drop_eq_nil_of_le (by omega)];rfl
def lN (x y:ByteArray × PL):Bool:=x.1.toList == y.1.toList && same x.2 y.2
def sameN:NL→NL→Bool
 | .nil,.nil=>true
 | .node k nm g az ws ks bs cs r,.node k' nm' g' az' ws' ks' bs' cs' r'=>(k == k' && nm.toList == nm'.toList && g == g' && eqL lN az az' && eqL same ws ws' && sameN ks ks' && eqL (· == ·) bs bs' && sameN cs cs') && sameN r r'
 | .cse ps b r,.cse ps' b' r'=>(eqL same ps ps' && sameN b b') && sameN r r'
 | _,_=>false
theorem tC:∀ {a b:NL},a.len ≠ b.len→sameN a b = false
 | .nil,.nil,h=>absurd rfl h
 | .nil,.node ..,_=>rfl
 | .nil,.cse ..,_=>rfl
 | .node ..,.nil,_=>rfl
 | .cse ..,.nil,_=>rfl
 | .node ..,.cse ..,_=>rfl
 | .cse ..,.node ..,_=>rfl
 | .node _ _ _ _ _ _ _ _ r,.node _ _ _ _ _ _ _ _ r',h=>by simp only [sameN,tC (a:=r) (b:=r') (by simpa [NL.len] using h),Bool.and_false]
 | .cse _ _ r,.cse _ _ r',h=>by simp only [sameN,tC (a:=r) (b:=r') (by simpa [NL.len] using h),Bool.and_false]
theorem dX {T:Type} {k:Nat} {P:World→Nat→Nat→T→Prop} {w w':World} {a:Option Addr} {cap:Nat} {l:List T} (hP:∀ {b o t},P w b o t→P w' b o t) (h:Sl k (P w) a cap l):Sl k (P w') a cap l:=h.mono fun _ _ _=>hP
def av (n:ByteArray) (a:Option Addr) (k c:Nat):Value:=.agg #[.string n,.slice a k c]
theorem zG (n1 n2:ByteArray) (l1 l2:PL) (a1 a2:Option Addr) (c1 c2:Nat) (w:World) (h1:gJ w a1 c1 l1) (h2:gJ w a2 c2 l2) :
  Calls Tryz.prog 31 #[av n1 a1 l1.len c1,av n2 a2 l2.len c2] w fun e w'=>e = .returned (.bool (lN (n1,l1) (n2,l2)))∧Below w.heap.size w w':=by
 have HS:=Lib.hid (fun (x y:Obj)=>Fa (l1.size + 1) l1 l2 a1 a2 c1 c2 ((w.alloc x).alloc y) (by omega) (h1.below (bY w x y)) (h2.below (bY w x y)));clear h1 h2;unfold av lN;cases hn:(n1.toList == n2.toList)
 ·go_enter Tryz.func31,Tryz.ntmps31;go_wp2_with fail;go_ret;exact ⟨rfl,bY _ _ _⟩
 ·go_enter Tryz.func31,Tryz.ntmps31;go_wp2_with (go_at_call 33;refine (HS.out _ _).mono ?_;rintro e w' ⟨rfl,hb⟩);go_ret;exact ⟨rfl,ak (bY _ _ _) (by assumption)⟩
theorem SI (la lb:List (ByteArray × PL)) (a b:Option Addr) (ca cb:Nat) (w:World) (lI:Sl 2 (PA w) a ca la) (qa:Sl 2 (PA w) b cb lb) :
  Calls Tryz.prog 30 #[.slice a la.length ca,.slice b lb.length cb,.func (.func 31) #[] #[]] w fun e w'=>e = .returned (.bool (eqL lN la lb))∧Below w.heap.size w w':=by
 have hle:=lI.le;have HA:=Lib.hid lI;have HB:=Lib.hid qa;clear lI qa
 by_cases hl:la.length = lb.length
 ·have A9:((la.length:Int) != (lb.length:Int)) = false:=by simp [hl]
  have HL:=Lib.hid hl;clear hl;go_enter Tryz.func30,Tryz.ntmps30;go_wp2
  go_loopw [17] (fun i wr=>∃ k:Nat,k≤la.length∧i = .int .i64 k∧eqL lN la lb = eqL lN (la.drop k) (lb.drop k)∧Below w.heap.size w wr) (fun i wr=>la.length - (intOf i).toNat)
  case atStart=>exact ⟨0,Nat.zero_le _,rfl,rfl,Below.refl _ _⟩
  case round =>
   obtain ⟨k,hk,rfl,hr,ja⟩:=hrel;have HR:=Lib.hid hr;have HW:=Lib.hid ja;clear hr ja
   by_cases aB:k < la.length
   ·have qc:k < lb.length:=by have:=HL.out;omega
    obtain ⟨b1,o1,rfl,qG,_,a1,lJ,tY,mU⟩:=(dX (P:=PA) (fun h=>h.below HW.out) HA.out).get (List.getElem?_eq_getElem aB);obtain ⟨b2,o2,rfl,Oi,_,a2,sZ,WH,Ba⟩:=(dX (P:=PA) (fun h=>h.below HW.out) HB.out).get (List.getElem?_eq_getElem qc);have aP:=World.block_lt_of_cell? _ _ qG;have d9:=World.block_lt_of_cell? _ _ Oi;have hC:=fun X Y=>zG la[k].1 lb[k].1 la[k].2 lb[k].2 a1 a2 lJ sZ ((wr.alloc X).alloc Y) (mU.below (bY wr X Y)) (Ba.below (bY wr X Y));unfold av at hC;have bL:eqL lN la lb = (lN la[k] lb[k] && eqL lN (la.drop (k + 1)) (lb.drop (k + 1))):=HR.out.trans (Jw aB qc);have hBB:lN (la[k].1,la[k].2) (lb[k].1,lb[k].2) = lN la[k] lb[k]:=rfl;rw [hBB] at hC;generalize lN la[k] lb[k] = B at hC bL;generalize la[k].1 = n1 at *
    generalize lb[k].1 = n2 at *
    generalize la[k].2 = l1 at *
    generalize lb[k].2 = l2 at *
    have hws:=HW.out.size;have HC:=Lib.hid hC;have HT:=Lib.hid bL;clear hC bL mU Ba hBB;cases B
    ·go_wp2_with (go_at_call 31;refine (HC.out _ _).mono ?_;rintro e w' ⟨rfl,hb⟩);go_ret;exact ⟨ai (by rw [HT.out];rfl),ak HW.out (ak (bY _ _ _) (by assumption))⟩
    ·go_wp2_with (go_at_call 31;refine (HC.out _ _).mono ?_;rintro e w' ⟨rfl,hb⟩);go_roundw
     case rel=>exact ⟨k + 1,by omega,by go_num,by rw [HT.out];rfl,ak HW.out (ak (bY _ _ _) (by assumption))⟩
     case measure=>simp [intOf];omega
   ·obtain rfl:k = la.length:=by omega
    go_wp2;go_ret;exact ⟨ai (by rw [HR.out];exact (Dw HL.out).symm),HW.out⟩
 ·have A9:((la.length:Int) != (lb.length:Int)) = true:=by simp;omega
  have HL:=Lib.hid hl;clear hl;go_enter Tryz.func30,Tryz.ntmps30;go_wp2_with fail;go_ret;exact ⟨ai (yH HL.out).symm,Below.refl _ _⟩
theorem KX (la lb:List PL) (a b:Option Addr) (ca cb:Nat) (w:World) (lI:Sl 1 (PW w) a ca la) (qa:Sl 1 (PW w) b cb lb) :
  Calls Tryz.prog 32 #[.slice a la.length ca,.slice b lb.length cb,.func (.func 33) #[] #[]] w fun e w'=>e = .returned (.bool (eqL same la lb))∧Below w.heap.size w w':=by
 have hle:=lI.le;have HA:=Lib.hid lI;have HB:=Lib.hid qa;clear lI qa
 by_cases hl:la.length = lb.length
 ·have A9:((la.length:Int) != (lb.length:Int)) = false:=by simp [hl]
  have HL:=Lib.hid hl;clear hl;go_enter Tryz.func32,Tryz.ntmps32;go_wp2
  go_loopw [17] (fun i wr=>∃ k:Nat,k≤la.length∧i = .int .i64 k∧eqL same la lb = eqL same (la.drop k) (lb.drop k)∧Below w.heap.size w wr) (fun i wr=>la.length - (intOf i).toNat)
  case atStart=>exact ⟨0,Nat.zero_le _,rfl,rfl,Below.refl _ _⟩
  case round =>
   obtain ⟨k,hk,rfl,hr,ja⟩:=hrel;have HR:=Lib.hid hr;have HW:=Lib.hid ja;clear hr ja
   by_cases aB:k < la.length
   ·have qc:k < lb.length:=by have:=HL.out;omega
    obtain ⟨b1,o1,rfl,a1,lJ,qG,mU⟩:=(dX (P:=PW) (fun h=>h.below HW.out) HA.out).get (List.getElem?_eq_getElem aB);obtain ⟨b2,o2,rfl,a2,sZ,Oi,Ba⟩:=(dX (P:=PW) (fun h=>h.below HW.out) HB.out).get (List.getElem?_eq_getElem qc);rw [Nat.mul_one] at qG Oi;have hC:=Fa (la[k].size + 1) la[k] lb[k] a1 a2 lJ sZ wr (by omega) mU Ba;have bL:eqL same la lb = (same la[k] lb[k] && eqL same (la.drop (k + 1)) (lb.drop (k + 1))):=HR.out.trans (Jw aB qc);generalize same la[k] lb[k] = B at hC bL;generalize la[k] = l1 at *
    generalize lb[k] = l2 at *
    have hws:=HW.out.size;have HC:=Lib.hid hC;have HT:=Lib.hid bL;clear hC bL mU Ba;cases B
    ·go_wp2_with (go_at_call 33;refine (HC.out).mono ?_;rintro e w' ⟨rfl,hb⟩);go_ret;exact ⟨ai (by rw [HT.out];rfl),ak HW.out (by assumption)⟩
    ·go_wp2_with (go_at_call 33;refine (HC.out).mono ?_;rintro e w' ⟨rfl,hb⟩);go_roundw
     case rel=>exact ⟨k + 1,by omega,by go_num,by rw [HT.out];rfl,ak HW.out (by assumption)⟩
     case measure=>simp [intOf];omega
   ·obtain rfl:k = la.length:=by omega
    go_wp2;go_ret;exact ⟨ai (by rw [HR.out];exact (Dw HL.out).symm),HW.out⟩
 ·have A9:((la.length:Int) != (lb.length:Int)) = true:=by simp;omega
  have HL:=Lib.hid hl;clear hl;go_enter Tryz.func32,Tryz.ntmps32;go_wp2_with fail;go_ret;exact ⟨ai (yH HL.out).symm,Below.refl _ _⟩
theorem SK (la lb:List Bool) (a b:Option Addr) (ca cb:Nat) (w:World) (lI:Sl 1 (PB w) a ca la) (qa:Sl 1 (PB w) b cb lb) :
  Calls Tryz.prog 35 #[.slice a la.length ca,.slice b lb.length cb] w fun e w'=>e = .returned (.bool (eqL (· == ·) la lb))∧Below w.heap.size w w':=by
 have hle:=lI.le;have HA:=Lib.hid lI;have HB:=Lib.hid qa;clear lI qa
 by_cases hl:la.length = lb.length
 ·have A9:((la.length:Int) != (lb.length:Int)) = false:=by simp [hl]
  have HL:=Lib.hid hl;clear hl;go_enter Tryz.func35,Tryz.ntmps35;go_wp2
  go_loopw [13] (fun i wr=>∃ k:Nat,k≤la.length∧i = .int .i64 k∧eqL (· == ·) la lb = eqL (· == ·) (la.drop k) (lb.drop k)∧Below w.heap.size w wr) (fun i wr=>la.length - (intOf i).toNat)
  case atStart=>exact ⟨0,Nat.zero_le _,rfl,rfl,Below.refl _ _⟩
  case round =>
   obtain ⟨k,hk,rfl,hr,ja⟩:=hrel;have HR:=Lib.hid hr;have HW:=Lib.hid ja;clear hr ja
   by_cases aB:k < la.length
   ·have qc:k < lb.length:=by have:=HL.out;omega
    have bL:eqL (· == ·) la lb = ((la[k] == lb[k]) && eqL (· == ·) (la.drop (k + 1)) (lb.drop (k + 1))):=HR.out.trans (Jw aB qc);obtain ⟨b1,o1,rfl,qG⟩:=(dX (P:=PB) (fun h=>h.below HW.out) HA.out).get (List.getElem?_eq_getElem aB);obtain ⟨b2,o2,rfl,Oi⟩:=(dX (P:=PB) (fun h=>h.below HW.out) HB.out).get (List.getElem?_eq_getElem qc);rw [Nat.mul_one] at qG Oi;unfold PB at qG Oi;generalize la[k] = x1 at *
    generalize lb[k] = x2 at *
    have HT:=Lib.hid bL;clear bL;have ky:∀ n,Below w.heap.size w (wr.drewN n):=fun n=>⟨HW.out.os,HW.out.tape,HW.out.output,HW.out.size,HW.out.block⟩;have Rl:=Lib.hid ky;clear ky;cases x1 <;> cases x2
    all_goals
     go_wp2_with fail
     go_quiet (fail)
     go_wp2_with fail
     first
      | (go_roundw
         case rel=>exact ⟨k + 1,by omega,by go_num,by rw [HT.out];rfl,Rl.out _⟩
         case measure=>simp [intOf];omega)
      | (go_ret
         exact ⟨ai (by rw [HT.out];rfl),Rl.out _⟩)
   ·obtain rfl:k = la.length:=by omega
    go_wp2;go_ret;exact ⟨ai (by rw [HR.out];exact (Dw HL.out).symm),HW.out⟩
 ·have A9:((la.length:Int) != (lb.length:Int)) = true:=by simp;omega
  have HL:=Lib.hid hl;clear hl;go_enter Tryz.func35,Tryz.ntmps35;go_wp2_with fail;go_ret;exact ⟨ai (yH HL.out).symm,Below.refl _ _⟩
def cB (k1:Int) (dE:ByteArray) (g1:Bool) (dB:List (ByteArray × PL)) (dC:List PL) (bM:NL) (dD:List Bool) (cK:NL) (k2:Int) (vL:ByteArray) (g2:Bool) (uX:List (ByteArray × PL)) (uY:List PL) (uZ:NL) (vg:List Bool) (vk:NL):Bool :=
 k1 == k2 && dE.toList == vL.toList && g1 == g2 && eqL lN dB uX && eqL same dC uY && sameN bM uZ && eqL (· == ·) dD vg && sameN cK vk
def Jy (n:Nat):Prop:=∀ (k1:Int) (dE:ByteArray) (g1:Bool) (dB:List (ByteArray × PL)) (dC:List PL) (bM:NL) (dD:List Bool) (cK:NL) (k2:Int) (vL:ByteArray) (g2:Bool) (uX:List (ByteArray × PL)) (uY:List PL) (uZ:NL) (vg:List Bool) (vk:NL) (iC:Option Addr) (d11:Nat) (iD:Option Addr) (d12:Nat) (iG:Option Addr) (d13:Nat) (iH:Option Addr) (d14:Nat) (iI:Option Addr) (d15:Nat) (yI:Option Addr) (d21:Nat) (yJ:Option Addr) (d22:Nat) (yK:Option Addr) (d23:Nat) (yL:Option Addr) (d24:Nat) (yM:Option Addr) (d25:Nat) (w:World),bM.size + cK.size < n→Holds w dE dB dC bM dD cK iC d11 iD d12 iG d13 iH d14 iI d15→Holds w vL uX uY uZ vg vk yI d21 yJ d22 yK d23 yL d24 yM d25 →
 Calls Tryz.prog 16 #[.agg (aJ k1 dE g1 iC dB.length d11 iD dC.length d12 iG bM.len d13 iH dD.length d14 iI cK.len d15),.agg (aJ k2 vL g2 yI uX.length d21 yJ uY.length d22 yK uZ.len d23 yL vg.length d24 yM vk.len d25)] w fun e w'=>e = .returned (.bool (cB k1 dE g1 dB dC bM dD cK k2 vL g2 uX uY uZ vg vk))∧Below w.heap.size w w'
theorem KY (n:Nat) (hS:Jy n) (la lb:NL) (hn:la.size≤n) (PD:NL.okN la true = true) (PE:NL.okN lb true = true) (a b:Option Addr) (ca cb:Nat) (w:World) (lI:dJ w a ca la) (qa:dJ w b cb lb) :
  Calls Tryz.prog 34 #[.slice a la.len ca,.slice b lb.len cb,.func (.func 16) #[] #[]] w fun e w'=>e = .returned (.bool (sameN la lb))∧Below w.heap.size w w':=by
 have hle:=lI.le;have HS:=Lib.hid hS;have Yw:=Lib.hid PD;have Yx:=Lib.hid PE;have HA:=Lib.hid lI;have HB:=Lib.hid qa;clear lI qa hS PD PE
 by_cases hl:la.len = lb.len
 ·have A9:((la.len:Int) != (lb.len:Int)) = false:=by simp [hl]
  have HL:=Lib.hid hl;clear hl;go_enter Tryz.func34,Tryz.ntmps34;go_wp2
  go_loopw [17] (fun i wr=>∃ k:Nat,k≤la.len∧i = .int .i64 k∧sameN la lb = sameN (la.drop k) (lb.drop k)∧Below w.heap.size w wr) (fun i wr=>la.len - (intOf i).toNat)
  case atStart=>exact ⟨0,Nat.zero_le _,rfl,rfl,Below.refl _ _⟩
  case round =>
   obtain ⟨k,hk,rfl,hr,ja⟩:=hrel;have HR:=Lib.hid hr;have HW:=Lib.hid ja;clear hr ja
   by_cases aB:k < la.len
   ·have qc:k < lb.len:=by have:=HL.out;omega
    obtain ⟨k1,dE,g1,dB,dC,bM,dD,cK,r1,fG⟩:=NL.bf aB Yw.out;obtain ⟨k2,vL,g2,uX,uY,uZ,vg,vk,r2,lT⟩:=NL.bf qc Yx.out;obtain ⟨b1,o1,rfl,aP,iC,d11,iD,d12,iG,d13,iH,d14,iI,d15,fE,qj⟩:=(HA.out.below HW.out).kX Yw.out fG;obtain ⟨b2,o2,rfl,d9,yI,d21,yJ,d22,yK,d23,yL,d24,yM,d25,oN,Yy⟩:=(HB.out.below HW.out).kX Yx.out lT;have qG:wr.cell? ⟨b1,o1 + k * 8,none⟩ = some (.int .i64 k1):=fE 0 _ rfl;have tY:wr.cell? ⟨b1,o1 + k * 8 + 1,none⟩ = some (.string dE):=fE 1 _ rfl;have wM:wr.cell? ⟨b1,o1 + k * 8 + 2,none⟩ = some (.bool g1):=fE 2 _ rfl;have wN:wr.cell? ⟨b1,o1 + k * 8 + 3,none⟩ = some (.slice iC dB.length d11):=fE 3 _ rfl;have wB:wr.cell? ⟨b1,o1 + k * 8 + 4,none⟩ = some (.slice iD dC.length d12):=fE 4 _ rfl;have Oo:wr.cell? ⟨b1,o1 + k * 8 + 5,none⟩ = some (.slice iG bM.len d13):=fE 5 _ rfl;have Oq:wr.cell? ⟨b1,o1 + k * 8 + 6,none⟩ = some (.slice iH dD.length d14):=fE 6 _ rfl;have Ot:wr.cell? ⟨b1,o1 + k * 8 + 7,none⟩ = some (.slice iI cK.len d15):=fE 7 _ rfl;have Oi:wr.cell? ⟨b2,o2 + k * 8,none⟩ = some (.int .i64 k2):=oN 0 _ rfl;have WH:wr.cell? ⟨b2,o2 + k * 8 + 1,none⟩ = some (.string vL):=oN 1 _ rfl;have ZU:wr.cell? ⟨b2,o2 + k * 8 + 2,none⟩ = some (.bool g2):=oN 2 _ rfl;have ZV:wr.cell? ⟨b2,o2 + k * 8 + 3,none⟩ = some (.slice yI uX.length d21):=oN 3 _ rfl;have ZW:wr.cell? ⟨b2,o2 + k * 8 + 4,none⟩ = some (.slice yJ uY.length d22):=oN 4 _ rfl;have c25:wr.cell? ⟨b2,o2 + k * 8 + 5,none⟩ = some (.slice yK uZ.len d23):=oN 5 _ rfl;have c26:wr.cell? ⟨b2,o2 + k * 8 + 6,none⟩ = some (.slice yL vg.length d24):=oN 6 _ rfl;have c27:wr.cell? ⟨b2,o2 + k * 8 + 7,none⟩ = some (.slice yM vk.len d25):=oN 7 _ rfl;have bU:bM.size + cK.size < la.size:=by
     have:=NL.eX k la;rw [fG] at this;simp only [NL.size] at this;omega
    have hC:=fun X Y=>HS.out k1 dE g1 dB dC bM dD cK k2 vL g2 uX uY uZ vg vk iC d11 iD d12 iG d13 iH d14 iI d15 yI d21 yJ d22 yK d23 yL d24 yM d25 ((wr.alloc X).alloc Y) (by omega) (qj.below (bY wr X Y)) (Yy.below (bY wr X Y));unfold aJ at hC;have bL:sameN la lb = (cB k1 dE g1 dB dC bM dD cK k2 vL g2 uX uY uZ vg vk && sameN r1 r2):=by rw [HR.out,fG,lT];rfl
    have Ue:=NL.gP fG;have BL:=NL.gP lT;generalize cB k1 dE g1 dB dC bM dD cK k2 vL g2 uX uY uZ vg vk = B at hC bL;have Xz:=Lib.hid Ue;have y8:=Lib.hid BL;have hws:=HW.out.size;have HC:=Lib.hid hC;have HT:=Lib.hid bL;clear hC bL qj Yy fG lT Ue BL fE oN;cases B
    ·go_wp2_with (go_at_call 16;refine (HC.out _ _).mono ?_;rintro e w' ⟨rfl,hb⟩);go_ret;exact ⟨ai (by rw [HT.out];rfl),ak HW.out (ak (bY _ _ _) (by assumption))⟩
    ·go_wp2_with (go_at_call 16;refine (HC.out _ _).mono ?_;rintro e w' ⟨rfl,hb⟩);go_roundw
     case rel=>exact ⟨k + 1,by omega,by go_num,by rw [HT.out];rw [Xz.out,y8.out];rfl,ak HW.out (ak (bY _ _ _) (by assumption))⟩
     case measure=>simp [intOf];omega
   ·obtain rfl:k = la.len:=by omega
    go_wp2;go_ret;exact ⟨ai (by rw [HR.out];rw [NL.fo (Nat.le_refl _),NL.fo (by rw [HL.out];exact Nat.le_refl _)];rfl),HW.out⟩
 ·have A9:((la.len:Int) != (lb.len:Int)) = true:=by simp;omega
  have HL:=Lib.hid hl;clear hl;go_enter Tryz.func34,Tryz.ntmps34;go_wp2_with fail;go_ret;exact ⟨ai (tC HL.out).symm,Below.refl _ _⟩
end Tr
end Go.Proofs.YtckakkeejekibaaGreatDoor
namespace Go.Proofs.YtckakkeejekibaaGreatDoor
theorem zv {T:Type} {a:Array T} {i:Nat} {b:T} (h:a[i]? = some b):∃ h:i < a.size,a[i] = b:=Array.getElem?_eq_some_iff.1 h
theorem zd (w:World) (o:Obj):(w.alloc o).heap.size = w.heap.size + 1:=World.size_alloc w o
theorem ud (a b:Bool):((a && b) = true) = (a = true∧b = true):=Bool.and_eq_true a b
theorem vi (n:Nat):n≤n:=Nat.le_refl n
theorem zVy (n:Nat):0≤n:=Nat.zero_le n
end Go.Proofs.YtckakkeejekibaaGreatDoor
