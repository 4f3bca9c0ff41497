/- Nodes, as they lie in memory: a plain datum; an argument that is a node. -/
import Derived.Test.YtjmpfihopeohbaaGreatDoorLawS
import Derived.Test.YtjmpfihopeohbaaGreatDoorPtY
set_option maxHeartbeats 1000000
set_option maxRecDepth 100000
namespace Go.Proofs.YtjmpfihopeohbaaGreatDoor
open Go.RowKit Go.WideShapes Go.ChangeShapes
namespace Tr
open Pt
def Chain {T:Type} (k:Nat) (P:Nat→Nat→T→Prop) (b:Nat):Nat→List T→Prop
 | _,[]=>True
 | o,t :: r=>P b o t∧Chain k P b (o + k) r
theorem Chain.get {T:Type} {k:Nat} {P:Nat→Nat→T→Prop} {b:Nat}:∀ {l:List T} {o n:Nat} {t:T},Chain k P b o l→l[n]? = some t→P b (o + n * k) t
 | [],_,_,_,_,h=>by simp at h
 | _ :: _,o,0,_,h,hn=>by
  simp only [List.getElem?_cons_zero,Option.some.injEq] at hn;subst hn;simpa using h.1
 | _ :: r,o,n + 1,t,h,hn=>by
  have:=Chain.get (n:=n) h.2 (by simpa using hn);rwa [show o + k + n * k = o + (n + 1) * k by rw [Nat.succ_mul];omega] at this
theorem Chain.mono {T:Type} {k:Nat} {P Q:Nat→Nat→T→Prop} {b:Nat} (hPQ:∀ o t,P b o t→Q b o t):∀ {l:List T} {o:Nat},Chain k P b o l→Chain k Q b o l
 | [],_,_=>trivial
 | _ :: _,_,h=>⟨hPQ _ _ h.1,Chain.mono hPQ h.2⟩
def Sl {T:Type} (k:Nat) (P:Nat→Nat→T→Prop) (a:Option Addr) (cap:Nat) (l:List T):Prop :=
 l.length≤cap∧l.length≤R∧(l = []∨∃ b o,a = some ⟨b,o,none⟩∧Chain k P b o l)
theorem Sl.le {T:Type} {k:Nat} {P:Nat→Nat→T→Prop} {a:Option Addr} {cap:Nat} {l:List T} (h:Sl k P a cap l):l.length≤140737488351232:=h.2.1
theorem Sl.get {T:Type} {k:Nat} {P:Nat→Nat→T→Prop} {a:Option Addr} {cap n:Nat} {l:List T} {t:T} (h:Sl k P a cap l) (hn:l[n]? = some t):∃ b o,a = some ⟨b,o,none⟩∧P b (o + n * k) t:=by
 obtain ⟨_,_,h3⟩:=h;rcases h3 with rfl | ⟨b,o,ha,h3⟩
 ·simp at hn
 ·exact ⟨b,o,ha,h3.get hn⟩
theorem Sl.mono {T:Type} {k:Nat} {P Q:Nat→Nat→T→Prop} {a:Option Addr} {cap:Nat} {l:List T} (h:Sl k P a cap l) (hPQ:∀ b o t,P b o t→Q b o t):Sl k Q a cap l:=by
 obtain ⟨h1,h2,h3⟩:=h;refine ⟨h1,h2,?_⟩;rcases h3 with h3 | ⟨b,o,ha,h3⟩
 ·exact .inl h3
 ·exact .inr ⟨b,o,ha,h3.mono fun o t=>hPQ b o t⟩
def PA (w:World) (b o:Nat) (x:ByteArray × PL):Prop:=w.cell? ⟨b,o,none⟩ = some (.string x.1)∧x.1.size≤R∧∃ a cap,w.cell? ⟨b,o + 1,none⟩ = some (.slice a x.2.len cap)∧Lies w a cap x.2
def PW (w:World) (b o:Nat) (l:PL):Prop:=∃ a cap,w.cell? ⟨b,o,none⟩ = some (.slice a l.len cap)∧Lies w a cap l
def PB (w:World) (b o:Nat) (x:Bool):Prop:=w.cell? ⟨b,o,none⟩ = some (.bool x)
theorem cell_below {w w':World} (hb:Below w.heap.size w w') {b o:Nat} {v:Value} (h:w.cell? ⟨b,o,none⟩ = some v):w'.cell? ⟨b,o,none⟩ = some v:=(hb.cell (p:=⟨b,o,none⟩) (World.block_lt_of_cell? _ _ h)).trans h
theorem PA.below {w w':World} (hb:Below w.heap.size w w') {b o:Nat} {x:ByteArray × PL} (h:PA w b o x):PA w' b o x:=by
 obtain ⟨h1,h2,a,cap,h3,h4⟩:=h;exact ⟨cell_below hb h1,h2,a,cap,cell_below hb h3,h4.below hb⟩
theorem PW.below {w w':World} (hb:Below w.heap.size w w') {b o:Nat} {x:PL} (h:PW w b o x):PW w' b o x:=by
 obtain ⟨a,cap,h3,h4⟩:=h;exact ⟨a,cap,cell_below hb h3,h4.below hb⟩
theorem PB.below {w w':World} (hb:Below w.heap.size w w') {b o:Nat} {x:Bool} (h:PB w b o x):PB w' b o x:=cell_below hb h
inductive NL where
 | nil
 | node (k:Int) (nm:ByteArray) (g:Bool) (az:List (ByteArray × PL)) (ws:List PL) (kids:NL) (bs:List Bool) (cs:NL) (rest:NL)
 | cse (ps:List PL) (body:NL) (rest:NL)
namespace NL
def len:NL→Nat
 | nil=>0
 | node _ _ _ _ _ _ _ _ r=>r.len + 1
 | cse _ _ r=>r.len + 1
def size:NL→Nat
 | nil=>0
 | node _ _ _ _ _ ks _ cs r=>ks.size + cs.size + r.size + 1
 | cse _ b r=>b.size + r.size + 1
def drop:Nat→NL→NL
 | 0,l=>l
 | _ + 1,nil=>nil
 | n + 1,node _ _ _ _ _ _ _ _ r=>drop n r
 | n + 1,cse _ _ r=>drop n r
def okN:NL→Bool→Bool
 | nil,_=>true
 | node _ _ _ _ _ ks _ cs r,f=>f && okN ks true && okN cs false && okN r true
 | cse _ b r,f=>!f && okN b true && okN r false
theorem drop_len:∀ (n:Nat) (l:NL),(drop n l).len = l.len - n
 | 0,_=>rfl
 | n + 1,nil=>by simp [drop,len]
 | n + 1,node _ _ _ _ _ _ _ _ r=>by simp [drop,len,drop_len n r]
 | n + 1,cse _ _ r=>by simp [drop,len,drop_len n r]
theorem drop_size:∀ (n:Nat) (l:NL),(drop n l).size≤l.size
 | 0,_=>Nat.le_refl _
 | n + 1,nil=>Nat.le_refl _
 | n + 1,node _ _ _ _ _ _ _ _ r=>by have:=drop_size n r;simp only [drop,size];omega
 | n + 1,cse _ _ r=>by have:=drop_size n r;simp only [drop,size];omega
theorem drop_ok:∀ (n:Nat) (l:NL) (f:Bool),okN l f = true→okN (drop n l) f = true
 | 0,_,_,h=>h
 | n + 1,nil,_,h=>h
 | n + 1,node _ _ _ _ _ _ _ _ r,f,h=>by
  simp only [okN,Bool.and_eq_true] at h;obtain ⟨⟨⟨rfl,_⟩,_⟩,h4⟩:=h;exact drop_ok n r true h4
 | n + 1,cse _ _ r,f,h=>by
  simp only [okN,Bool.and_eq_true,Bool.not_eq_true'] at h;obtain ⟨⟨rfl,_⟩,h4⟩:=h;exact drop_ok n r false h4
theorem drop_node:∀ {n:Nat} {l:NL},n < l.len→okN l true = true→∃ k nm g az ws ks bs cs r,drop n l = node k nm g az ws ks bs cs r
 | 0,node k nm g az ws ks bs cs r,_,_=>⟨k,nm,g,az,ws,ks,bs,cs,r,rfl⟩
 | 0,cse _ _ _,_,h=>by simp [okN] at h
 | n + 1,node _ _ _ _ _ _ _ _ r,h,hk=>by
  simp only [len] at h;simp only [okN,Bool.and_eq_true] at hk;exact drop_node (n:=n) (l:=r) (by omega) hk.2
 | n + 1,cse _ _ _,_,h=>by simp [okN] at h
theorem drop_case:∀ {n:Nat} {l:NL},n < l.len→okN l false = true→∃ ps b r,drop n l = cse ps b r
 | 0,cse ps b r,_,_=>⟨ps,b,r,rfl⟩
 | 0,node _ _ _ _ _ _ _ _ _,_,h=>by simp [okN] at h
 | n + 1,cse _ _ r,h,hk=>by
  simp only [len] at h;simp only [okN,Bool.and_eq_true] at hk;exact drop_case (n:=n) (l:=r) (by omega) hk.2
 | n + 1,node _ _ _ _ _ _ _ _ _,_,h=>by simp [okN] at h
theorem drop_end {n:Nat} {l:NL} (h:l.len≤n):drop n l = nil:=by
 have:=drop_len n l;cases hd:drop n l with
 | nil=>rfl
 | node=>rw [hd] at this;simp only [len] at this;omega
 | cse=>rw [hd] at this;simp only [len] at this;omega
theorem drop_succN:∀ {n:Nat} {l r ks cs:NL} {k:Int} {nm:ByteArray} {g:Bool} {az:List (ByteArray × PL)} {ws:List PL} {bs:List Bool},drop n l = node k nm g az ws ks bs cs r→drop (n + 1) l = r
 | 0,_,_,_,_,_,_,_,_,_,_,h=>by simp only [drop] at h;subst h;rfl
 | n + 1,nil,_,_,_,_,_,_,_,_,_,h=>by simp [drop] at h
 | n + 1,node _ _ _ _ _ _ _ _ _,_,_,_,_,_,_,_,_,_,h=>by simp only [drop] at h ⊢;exact drop_succN h
 | n + 1,cse _ _ _,_,_,_,_,_,_,_,_,_,h=>by simp only [drop] at h ⊢;exact drop_succN h
theorem drop_succC:∀ {n:Nat} {l r b:NL} {ps:List PL},drop n l = cse ps b r→drop (n + 1) l = r
 | 0,_,_,_,_,h=>by simp only [drop] at h;subst h;rfl
 | n + 1,nil,_,_,_,h=>by simp [drop] at h
 | n + 1,node _ _ _ _ _ _ _ _ _,_,_,_,h=>by simp only [drop] at h ⊢;exact drop_succC h
 | n + 1,cse _ _ _,_,_,_,h=>by simp only [drop] at h ⊢;exact drop_succC h
end NL
def NAt (w:World):NL→Nat→Nat→Prop
 | .nil,_,_=>True
 | .node k nm g az ws ks bs cs r,b,o =>
  (w.cell? ⟨b,o,none⟩ = some (.int .i64 k)∧w.cell? ⟨b,o + 1,none⟩ = some (.string nm)∧w.cell? ⟨b,o + 2,none⟩ = some (.bool g)∧nm.size≤R) ∧
  (∃ a cap,w.cell? ⟨b,o + 3,none⟩ = some (.slice a az.length cap)∧Sl 2 (PA w) a cap az) ∧
  (∃ a cap,w.cell? ⟨b,o + 4,none⟩ = some (.slice a ws.length cap)∧Sl 1 (PW w) a cap ws) ∧
  (∃ a cap,w.cell? ⟨b,o + 5,none⟩ = some (.slice a ks.len cap)∧ks.len≤cap∧ks.len≤R∧(ks = .nil∨∃ b' o',a = some ⟨b',o',none⟩∧NAt w ks b' o')) ∧
  (∃ a cap,w.cell? ⟨b,o + 6,none⟩ = some (.slice a bs.length cap)∧Sl 1 (PB w) a cap bs) ∧
  (∃ a cap,w.cell? ⟨b,o + 7,none⟩ = some (.slice a cs.len cap)∧cs.len≤cap∧cs.len≤R∧(cs = .nil∨∃ b' o',a = some ⟨b',o',none⟩∧NAt w cs b' o'))∧NAt w r b (o + 8)
 | .cse ps bd r,b,o =>
  (∃ a cap,w.cell? ⟨b,o,none⟩ = some (.slice a ps.length cap)∧Sl 1 (PW w) a cap ps) ∧
  (∃ a cap,w.cell? ⟨b,o + 1,none⟩ = some (.slice a bd.len cap)∧bd.len≤cap∧bd.len≤R∧(bd = .nil∨∃ b' o',a = some ⟨b',o',none⟩∧NAt w bd b' o'))∧NAt w r b (o + 2)
def NLies (w:World) (a:Option Addr) (cap:Nat) (l:NL):Prop:=l.len≤cap∧l.len≤R∧(l = .nil∨∃ b o,a = some ⟨b,o,none⟩∧NAt w l b o)
theorem NLies.le {w:World} {a:Option Addr} {cap:Nat} {l:NL} (h:NLies w a cap l):l.len≤140737488351232:=h.2.1
theorem NAt.below {w w':World} (hb:Below w.heap.size w w'):∀ {l:NL} {b o:Nat},NAt w l b o→NAt w' l b o:=by
 intro l
 induction l with
 | nil=>exact fun _=>trivial
 | node k nm g az ws ks bs cs r ihk ihc ihr =>
  rintro b o ⟨⟨h0,h1,h2,h3⟩,⟨a1,c1,e1,s1⟩,⟨a2,c2,e2,s2⟩,⟨a3,c3,e3,l3,m3,s3⟩,⟨a4,c4,e4,s4⟩,⟨a5,c5,e5,l5,m5,s5⟩,hr⟩;refine ⟨⟨cell_below hb h0,cell_below hb h1,cell_below hb h2,h3⟩,⟨a1,c1,cell_below hb e1,s1.mono fun _ _ _ h=>h.below hb⟩,⟨a2,c2,cell_below hb e2,s2.mono fun _ _ _ h=>h.below hb⟩,⟨a3,c3,cell_below hb e3,l3,m3,?_⟩,⟨a4,c4,cell_below hb e4,s4.mono fun _ _ _ h=>h.below hb⟩,⟨a5,c5,cell_below hb e5,l5,m5,?_⟩,ihr hr⟩
  ·exact s3.imp id fun ⟨b',o',ha,h⟩=>⟨b',o',ha,ihk h⟩
  ·exact s5.imp id fun ⟨b',o',ha,h⟩=>⟨b',o',ha,ihc h⟩
 | cse ps bd r ihb ihr =>
  rintro b o ⟨⟨a2,c2,e2,s2⟩,⟨a3,c3,e3,l3,m3,s3⟩,hr⟩;exact ⟨⟨a2,c2,cell_below hb e2,s2.mono fun _ _ _ h=>h.below hb⟩,⟨a3,c3,cell_below hb e3,l3,m3,s3.imp id fun ⟨b',o',ha,h⟩=>⟨b',o',ha,ihb h⟩⟩,ihr hr⟩
theorem NLies.below {w w':World} {a:Option Addr} {cap:Nat} {l:NL} (h:NLies w a cap l) (hb:Below w.heap.size w w'):NLies w' a cap l :=
 ⟨h.1,h.2.1,h.2.2.imp id fun ⟨b,o,ha,h⟩=>⟨b,o,ha,h.below hb⟩⟩
theorem NAt.dropN {w:World} {b:Nat}:∀ {n:Nat} {l:NL} {o:Nat},NL.okN l true = true→NAt w l b o→NAt w (l.drop n) b (o + n * 8)
 | 0,_,o,_,h=>by simpa [NL.drop] using h
 | n + 1,.nil,_,_,_=>trivial
 | n + 1,.node _ _ _ _ _ _ _ _ r,o,hk,h=>by
  simp only [NL.okN,Bool.and_eq_true] at hk;have:=NAt.dropN (n:=n) hk.2 h.2.2.2.2.2.2;simp only [NL.drop];rwa [show o + (n + 1) * 8 = o + 8 + n * 8 by omega]
 | n + 1,.cse _ _ _,_,hk,_=>by simp [NL.okN] at hk
theorem NAt.dropC {w:World} {b:Nat}:∀ {n:Nat} {l:NL} {o:Nat},NL.okN l false = true→NAt w l b o→NAt w (l.drop n) b (o + n * 2)
 | 0,_,o,_,h=>by simpa [NL.drop] using h
 | n + 1,.nil,_,_,_=>trivial
 | n + 1,.cse _ _ r,o,hk,h=>by
  simp only [NL.okN,Bool.and_eq_true] at hk;have:=NAt.dropC (n:=n) hk.2 h.2.2;simp only [NL.drop];rwa [show o + (n + 1) * 2 = o + 2 + n * 2 by omega]
 | n + 1,.node _ _ _ _ _ _ _ _ _,_,hk,_=>by simp [NL.okN] at hk
def nodeV (k:Int) (nm:ByteArray) (g:Bool) (a1:Option Addr) (n1 c1:Nat) (a2:Option Addr) (n2 c2:Nat) (a3:Option Addr) (n3 c3:Nat) (a4:Option Addr) (n4 c4:Nat) (a5:Option Addr) (n5 c5:Nat):Array Value :=
 #[.int .i64 k,.string nm,.bool g,.slice a1 n1 c1,.slice a2 n2 c2,.slice a3 n3 c3,.slice a4 n4 c4,.slice a5 n5 c5]
structure Holds (w:World) (nm:ByteArray) (az:List (ByteArray × PL)) (ws:List PL) (ks:NL) (bs:List Bool) (cs:NL) (a1:Option Addr) (c1:Nat) (a2:Option Addr) (c2:Nat) (a3:Option Addr) (c3:Nat) (a4:Option Addr) (c4:Nat) (a5:Option Addr) (c5:Nat):Prop where
 hnm:nm.size≤R
 haz:Sl 2 (PA w) a1 c1 az
 hws:Sl 1 (PW w) a2 c2 ws
 hks:NLies w a3 c3 ks
 hbs:Sl 1 (PB w) a4 c4 bs
 hcs:NLies w a5 c5 cs
 okk:NL.okN ks true = true
 okc:NL.okN cs false = true
theorem Holds.below {w w':World} {nm:ByteArray} {az:List (ByteArray × PL)} {ws:List PL} {ks cs:NL} {bs:List Bool} {a1 a2 a3 a4 a5:Option Addr} {c1 c2 c3 c4 c5:Nat} (h:Holds w nm az ws ks bs cs a1 c1 a2 c2 a3 c3 a4 c4 a5 c5) (hb:Below w.heap.size w w'):Holds w' nm az ws ks bs cs a1 c1 a2 c2 a3 c3 a4 c4 a5 c5 :=
 ⟨h.hnm,h.haz.mono fun _ _ _ h=>h.below hb,h.hws.mono fun _ _ _ h=>h.below hb,h.hks.below hb,h.hbs.mono fun _ _ _ h=>h.below hb,h.hcs.below hb,h.okk,h.okc⟩
theorem NLies.getN {w:World} {a:Option Addr} {cap i:Nat} {l ks cs r:NL} {k:Int} {nm:ByteArray} {g:Bool} {az:List (ByteArray × PL)} {ws:List PL} {bs:List Bool} (h:NLies w a cap l) (hk:NL.okN l true = true) (hd:l.drop i = .node k nm g az ws ks bs cs r) :
  ∃ b o,a = some ⟨b,o,none⟩∧b < w.heap.size∧∃ a1 c1 a2 c2 a3 c3 a4 c4 a5 c5,(∀ j v,(nodeV k nm g a1 az.length c1 a2 ws.length c2 a3 ks.len c3 a4 bs.length c4 a5 cs.len c5)[j]? = some v→w.cell? ⟨b,o + i * 8 + j,none⟩ = some v)∧Holds w nm az ws ks bs cs a1 c1 a2 c2 a3 c3 a4 c4 a5 c5:=by
 obtain ⟨_,_,h3⟩:=h;rcases h3 with rfl | ⟨b,o,ha,h3⟩
 ·cases i <;> simp [NL.drop] at hd
 ·have hok:=NL.drop_ok i l true hk;have:=NAt.dropN (n:=i) hk h3;rw [hd] at this hok;simp only [NL.okN,Bool.and_eq_true] at hok;obtain ⟨⟨h0,h1,h2,h3⟩,⟨a1,c1,e1,s1⟩,⟨a2,c2,e2,s2⟩,⟨a3,c3,e3,s3⟩,⟨a4,c4,e4,s4⟩,⟨a5,c5,e5,s5⟩,_⟩:=this;refine ⟨b,o,ha,World.block_lt_of_cell? _ _ h0,a1,c1,a2,c2,a3,c3,a4,c4,a5,c5,fun j v hv=>?_,h3,s1,s2,s3,s4,s5,hok.1.1.2,hok.1.2⟩
  match j,hv with
  | 0,hv=>cases hv;exact h0
  | 1,hv=>cases hv;exact h1
  | 2,hv=>cases hv;exact h2
  | 3,hv=>cases hv;exact e1
  | 4,hv=>cases hv;exact e2
  | 5,hv=>cases hv;exact e3
  | 6,hv=>cases hv;exact e4
  | 7,hv=>cases hv;exact e5
  | j + 8,hv=>simp [nodeV] at hv
theorem NLies.getC {w:World} {a:Option Addr} {cap i:Nat} {l bd r:NL} {ps:List PL} (h:NLies w a cap l) (hk:NL.okN l false = true) (hd:l.drop i = .cse ps bd r) :
  ∃ b o,a = some ⟨b,o,none⟩∧b < w.heap.size∧∃ a1 c1 a2 c2,w.cell? ⟨b,o + i * 2,none⟩ = some (.slice a1 ps.length c1)∧w.cell? ⟨b,o + i * 2 + 1,none⟩ = some (.slice a2 bd.len c2)∧Sl 1 (PW w) a1 c1 ps∧NLies w a2 c2 bd∧NL.okN bd true = true:=by
 obtain ⟨_,_,h3⟩:=h;rcases h3 with rfl | ⟨b,o,ha,h3⟩
 ·cases i <;> simp [NL.drop] at hd
 ·have hok:=NL.drop_ok i l false hk;have:=NAt.dropC (n:=i) hk h3;rw [hd] at this hok;simp only [NL.okN,Bool.and_eq_true] at hok;obtain ⟨⟨a1,c1,e1,s1⟩,⟨a2,c2,e2,s2⟩,_⟩:=this;exact ⟨b,o,ha,World.block_lt_of_cell? _ _ e1,a1,c1,a2,c2,e1,e2,s1,s2,hok.1.2⟩
end Tr
end Go.Proofs.YtjmpfihopeohbaaGreatDoor
namespace Go.Proofs.YtjmpfihopeohbaaGreatDoor
open Go.RowKit Go.WideShapes Go.ChangeShapes
namespace Tr
open Pt
section
variable {H:Type} {enc:TypeId × Value→H} {w:World} {base:Nat} {held:Bool}
theorem open_sl {T:Type} {ty e:TypeId} (k nb:Nat) (hty:Tryz.prog.underlying ty = some (.slice e)) (hk:Tryz.prog.cellsOf e = k) (hk0:0 < k) (hnb:Tryz.prog.bytesOf e = nb) (hnb0:0 < nb) (P:Nat→Nat→T→Prop) (fuel:Nat)
  (helem:∀ n,n < fuel→∀ (cs:List Value) (y:DataW H × List MemPlace),cs.length = k→DataW.trod enc Tryz.prog w base (fun _=>true) held n e cs = some y→(∀ m ∈ y.1.weights Tryz.prog e,m≤R)→∃ t,∀ b o,(∀ i u,cs[i]? = some u→w.cell? ⟨b,o + i,none⟩ = some u)→P b o t)
  (cs:List Value) (x:DataW H × List MemPlace) (h:DataW.trod enc Tryz.prog w base (fun _=>true) held fuel ty cs = some x) (hR:∀ n ∈ x.1.weights Tryz.prog ty,n≤R) :
  ∃ a cap,∃ l:List T,cs = [.slice a l.length cap]∧Sl k P a cap l:=by
 rcases DataW.trod_slice hty h with ⟨rfl,rfl⟩ | ⟨a,len,cap,elems,rest,n,rfl,rfl,rfl,hb,hl,hm,hlen,hel,hsp,hns⟩
 ·exact ⟨none,0,[],rfl,Nat.le_refl _,Nat.zero_le _,.inl rfl⟩
 ·obtain ⟨b,off,spot⟩:=a;have hcap:cap≤R:=by
   have h1:=hR ((elems.length + rest.length) * Tryz.prog.bytesOf e) (by simp [DataW.weights,hty]);rw [hnb] at h1;have h2:=(hsp rfl).1;have h3:elems.length + rest.length = cap:=by omega
   rw [h3] at h1;exact Nat.le_trans (Nat.le_mul_of_pos_right cap hnb0) h1
  have hsp0:len = 0∨spot = none:=by
   rcases Nat.eq_zero_or_pos len with h0 | h0
   ·exact .inl h0
   ·right;have he:=hel 0 h0;rw [List.getElem?_eq_getElem (by omega)] at he;obtain ⟨cs',hcs,_⟩:=Option.bind_eq_some_iff.1 he;rw [hk] at hcs;obtain ⟨_,hl5,hcell⟩:=World.cells?_some hcs;have h1:=hcell 0 (by omega);rw [List.getElem?_eq_getElem (by omega)] at h1;simpa [Addr.add] using World.cell?_spot h1
  have build:∀ j,j≤len→∃ l:List T,l.length = j∧(j = 0∨spot = none∧Chain k P b (off + (len - j) * k) l):=by
   intro j
   induction j with
   | zero=>exact fun _=>⟨[],rfl,.inl rfl⟩
   | succ j ihj =>
    intro hj;have hoff:off + (len - (j + 1)) * k + k = off + (len - j) * k:=by
     rw [Nat.add_assoc,← Nat.succ_mul];congr 2;clear ihj hel hsp hns hR helem;omega
    obtain ⟨r,hr,har⟩:=ihj (by omega);have hi:len - (j + 1) < elems.length:=by omega
    have he:=hel (len - (j + 1)) (by omega);rw [List.getElem?_eq_getElem hi] at he;obtain ⟨cs',hcs,hy⟩:=Option.bind_eq_some_iff.1 he;rw [hk] at hcs;obtain ⟨_,hl1,hcell⟩:=World.cells?_some hcs
    have hRi:∀ n ∈ (elems[len - (j + 1)]).1.weights Tryz.prog e,n≤R:=fun n hn=>hR n (by
     simp only [DataW.weights,hty]
     exact List.mem_cons_of_mem _ (List.mem_append_left _ (weights_all (List.mem_map_of_mem (List.getElem_mem hi)) n hn)))
    obtain ⟨t,ht⟩:=helem n (Nat.lt_succ_self _) cs' _ hl1 hy hRi;obtain rfl:spot = none:=hsp0.resolve_left (by omega);refine ⟨t :: r,by rw [List.length_cons,hr],.inr ⟨rfl,ht b _ fun i u hu=>?_,?_⟩⟩
    ·have hik:i < k:=by have:=(List.getElem?_eq_some_iff.1 hu).1;omega
     have:=(hcell i hik).trans hu;rwa [add_plain,add_plain] at this
    ·rcases har with rfl | ⟨_,har⟩
     ·cases r with
      | nil=>trivial
      | cons=>simp at hr
     ·rwa [hoff]
  obtain ⟨l,hll,hat⟩:=build len (Nat.le_refl _);refine ⟨some ⟨b,off,spot⟩,cap,l,by rw [hll],by omega,by omega,?_⟩;rcases hat with h0 | ⟨rfl,hat⟩
  ·left;cases l with
   | nil=>rfl
   | cons=>simp only [List.length_cons] at hll;omega
  ·exact .inr ⟨b,off,rfl,by simpa using hat⟩
theorem ncI:Tryz.prog.cellsOf 3 = 1:=by kernel_rfl
theorem ncB:Tryz.prog.cellsOf 4 = 1:=by kernel_rfl
theorem ncS:Tryz.prog.cellsOf 9 = 1:=by kernel_rfl
theorem ncW:Tryz.prog.cellsOf 39 = 1:=by kernel_rfl
theorem ncSA:Tryz.prog.cellsOf 22 = 1:=by kernel_rfl
theorem ncSW:Tryz.prog.cellsOf 23 = 1:=by kernel_rfl
theorem ncSN:Tryz.prog.cellsOf 24 = 1:=by kernel_rfl
theorem ncSB:Tryz.prog.cellsOf 25 = 1:=by kernel_rfl
theorem ncSC:Tryz.prog.cellsOf 26 = 1:=by kernel_rfl
theorem ncA:Tryz.prog.cellsOf 42 = 2:=by kernel_rfl
theorem ncN:Tryz.prog.cellsOf 28 = 8:=by kernel_rfl
theorem ncC:Tryz.prog.cellsOf 44 = 2:=by kernel_rfl
theorem nbB:Tryz.prog.bytesOf 4 = 1:=by kernel_rfl
theorem nbW:Tryz.prog.bytesOf 39 = 24:=by kernel_rfl
theorem nbA:Tryz.prog.bytesOf 42 = 40:=by kernel_rfl
theorem nbN:Tryz.prog.bytesOf 28 = 152:=by kernel_rfl
theorem nbC:Tryz.prog.bytesOf 44 = 48:=by kernel_rfl
theorem open_bl (fuel:Nat) (cs:List Value) (x:DataW H × List MemPlace) (h:DataW.trod enc Tryz.prog w base (fun _=>true) held fuel 25 cs = some x) (hR:∀ n ∈ x.1.weights Tryz.prog 25,n≤R) :
  ∃ a cap,∃ l:List Bool,cs = [.slice a l.length cap]∧Sl 1 (PB w) a cap l:=by
 refine open_sl 1 1 Tryz.underlying25 ncB (by decide) nbB (by decide) (PB w) fuel (fun n _ cs y _ hy _=>?_) cs x h hR;obtain ⟨z,e1,_⟩:=DataW.trod_bool Tryz.underlying4 hy;subst e1;exact ⟨z,fun b o hc=>hc 0 _ rfl⟩
theorem open_ww (fuel:Nat) (cs:List Value) (x:DataW H × List MemPlace) (h:DataW.trod enc Tryz.prog w base (fun _=>true) held fuel 23 cs = some x) (hR:∀ n ∈ x.1.weights Tryz.prog 23,n≤R) :
  ∃ a cap,∃ l:List PL,cs = [.slice a l.length cap]∧Sl 1 (PW w) a cap l:=by
 refine open_sl 1 24 Tryz.underlying23 ncW (by decide) nbW (by decide) (PW w) fuel (fun n _ cs y _ hy hRy=>?_) cs x h hR;obtain ⟨a1,c1,l1,rfl,hli⟩:=open_pl Tryz.underlying39 _ _ _ hy hRy;exact ⟨l1,fun b o hc=>⟨a1,c1,hc 0 _ rfl,hli⟩⟩
theorem open_al (fuel:Nat) (cs:List Value) (x:DataW H × List MemPlace) (h:DataW.trod enc Tryz.prog w base (fun _=>true) held fuel 22 cs = some x) (hR:∀ n ∈ x.1.weights Tryz.prog 22,n≤R) :
  ∃ a cap,∃ l:List (ByteArray × PL),cs = [.slice a l.length cap]∧Sl 2 (PA w) a cap l:=by
 refine open_sl 2 40 Tryz.underlying22 ncA (by decide) nbA (by decide) (PA w) fuel (fun n _ cs y hl hy hRy=>?_) cs x h hR;obtain ⟨ys,m,rfl,hy2,_,hys,hf⟩:=DataW.trod_struct Tryz.underlying42 hy;rw [hy2] at hRy
 match cs,hl with
 | [v0,v1],_ =>
  match ys,hys with
  | [y0,y1],_ =>
   have g0:DataW.trod enc Tryz.prog w base (fun _=>true) held m 9 (List.take (Tryz.prog.cellsOf 9) (List.drop 0 [v0,v1])) = some y0:=hf 0 _ rfl;rw [ncS] at g0;have g1:DataW.trod enc Tryz.prog w base (fun _=>true) held m 39 (List.take (Tryz.prog.cellsOf 39) (List.drop 1 [v0,v1])) = some y1:=hf 1 _ rfl;rw [ncW] at g1;simp only [List.drop,List.take] at g0 g1;obtain ⟨z0,e0,d0,_⟩:=DataW.trod_string Tryz.underlying9 g0;subst d0;simp only [DataW.weights,Tryz.underlying42,List.map,DataW.weightsEach,List.mem_append] at hRy;obtain ⟨a1,c1,l1,e1,hli⟩:=open_pl Tryz.underlying39 _ _ _ g1 (fun n hn=>hRy n (by simp [hn]));have r0:z0.size≤R:=hRy z0.data.toList.length (by simp) |> fun h=>by simpa using h
   simp only [List.cons.injEq,and_true] at e0 e1;subst e0 e1;exact ⟨(z0,l1),fun b o hc=>⟨hc 0 _ rfl,r0,a1,c1,hc 1 _ rfl,hli⟩⟩
def NodeIs (w:World) (cs:List Value) (k:Int) (nm:ByteArray) (g:Bool) (az:List (ByteArray × PL)) (ws:List PL) (ks:NL) (bs:List Bool) (cz:NL):Prop :=
 ∃ a1 c1 a2 c2 a3 c3 a4 c4 a5 c5,cs = (nodeV k nm g a1 az.length c1 a2 ws.length c2 a3 ks.len c3 a4 bs.length c4 a5 cz.len c5).toList∧Holds w nm az ws ks bs cz a1 c1 a2 c2 a3 c3 a4 c4 a5 c5
def P1 (w:World) (b o:Nat) (x:NL):Prop:=∃ k nm g az ws ks bs cz,x = .node k nm g az ws ks bs cz .nil∧NAt w x b o∧NL.okN x true = true
def C1 (w:World) (b o:Nat) (x:NL):Prop:=∃ ps bd,x = .cse ps bd .nil∧NAt w x b o∧NL.okN x false = true
theorem of_is {w:World} {cs:List Value} {k:Int} {nm:ByteArray} {g:Bool} {az:List (ByteArray × PL)} {ws:List PL} {ks:NL} {bs:List Bool} {cz:NL} (h:NodeIs w cs k nm g az ws ks bs cz) :
  ∃ x,∀ b o,(∀ i u,cs[i]? = some u→w.cell? ⟨b,o + i,none⟩ = some u)→P1 w b o x:=by
 obtain ⟨a1,c1,a2,c2,a3,c3,a4,c4,a5,c5,rfl,hh⟩:=h;refine ⟨.node k nm g az ws ks bs cz .nil,fun b o hc=>⟨k,nm,g,az,ws,ks,bs,cz,rfl,?_,by simp [NL.okN,hh.okk,hh.okc]⟩⟩;exact ⟨⟨hc 0 _ rfl,hc 1 _ rfl,hc 2 _ rfl,hh.hnm⟩,⟨a1,c1,hc 3 _ rfl,hh.haz⟩,⟨a2,c2,hc 4 _ rfl,hh.hws⟩,⟨a3,c3,hc 5 _ rfl,hh.hks⟩,⟨a4,c4,hc 6 _ rfl,hh.hbs⟩,⟨a5,c5,hc 7 _ rfl,hh.hcs⟩,trivial⟩
theorem fold_n {b:Nat}:∀ {l:List NL} {o:Nat},Chain 8 (P1 w) b o l→∃ L:NL,L.len = l.length∧NAt w L b o∧NL.okN L true = true
 | [],_,_=>⟨.nil,rfl,trivial,rfl⟩
 | x :: r,o,⟨⟨k,nm,g,az,ws,ks,bs,cz,e,hx,hk⟩,h⟩=>by
  subst e;obtain ⟨L,h1,h2,h3⟩:=fold_n h;obtain ⟨g1,g2,g3,g4,g5,g6,_⟩:=hx;simp only [NL.okN,Bool.and_eq_true] at hk;exact ⟨.node k nm g az ws ks bs cz L,by simp [NL.len,h1],⟨g1,g2,g3,g4,g5,g6,h2⟩,by simp [NL.okN,hk.1.1.2,hk.1.2,h3]⟩
theorem fold_c {b:Nat}:∀ {l:List NL} {o:Nat},Chain 2 (C1 w) b o l→∃ L:NL,L.len = l.length∧NAt w L b o∧NL.okN L false = true
 | [],_,_=>⟨.nil,rfl,trivial,rfl⟩
 | x :: r,o,⟨⟨ps,bd,e,hx,hk⟩,h⟩=>by
  subst e;obtain ⟨L,h1,h2,h3⟩:=fold_c h;obtain ⟨g1,g2,_⟩:=hx;simp only [NL.okN,Bool.and_eq_true] at hk;exact ⟨.cse ps bd L,by simp [NL.len,h1],⟨g1,g2,h2⟩,by simp [NL.okN,hk.1.2,h3]⟩
theorem sl_n {a:Option Addr} {cap:Nat} {l:List NL} (h:Sl 8 (P1 w) a cap l):∃ L:NL,L.len = l.length∧NLies w a cap L∧NL.okN L true = true:=by
 obtain ⟨h1,h2,h3⟩:=h;rcases h3 with rfl | ⟨b,o,ha,h3⟩
 ·exact ⟨.nil,rfl,⟨h1,h2,.inl rfl⟩,rfl⟩
 ·obtain ⟨L,e1,e2,e3⟩:=fold_n h3;exact ⟨L,e1,⟨by omega,by omega,.inr ⟨b,o,ha,e2⟩⟩,e3⟩
theorem sl_c {a:Option Addr} {cap:Nat} {l:List NL} (h:Sl 2 (C1 w) a cap l):∃ L:NL,L.len = l.length∧NLies w a cap L∧NL.okN L false = true:=by
 obtain ⟨h1,h2,h3⟩:=h;rcases h3 with rfl | ⟨b,o,ha,h3⟩
 ·exact ⟨.nil,rfl,⟨h1,h2,.inl rfl⟩,rfl⟩
 ·obtain ⟨L,e1,e2,e3⟩:=fold_c h3;exact ⟨L,e1,⟨by omega,by omega,.inr ⟨b,o,ha,e2⟩⟩,e3⟩
theorem open_nl:∀ fuel,(∀ cs x,DataW.trod enc Tryz.prog w base (fun _=>true) held fuel 24 cs = some x→(∀ n ∈ (x:DataW H × List MemPlace).1.weights Tryz.prog 24,n≤R)→∃ a cap l,cs = [.slice a (NL.len l) cap]∧NLies w a cap l∧NL.okN l true = true) ∧
  (∀ cs x,DataW.trod enc Tryz.prog w base (fun _=>true) held fuel 26 cs = some x→(∀ n ∈ (x:DataW H × List MemPlace).1.weights Tryz.prog 26,n≤R)→∃ a cap l,cs = [.slice a (NL.len l) cap]∧NLies w a cap l∧NL.okN l false = true) ∧
  (∀ cs x,cs.length = 8→DataW.trod enc Tryz.prog w base (fun _=>true) held fuel 28 cs = some x→(∀ n ∈ (x:DataW H × List MemPlace).1.weights Tryz.prog 28,n≤R)→∃ k nm g az ws ks bs cz,NodeIs w cs k nm g az ws ks bs cz):=by
 intro fuel
 induction fuel using Nat.strongRecOn with
 | _ fuel ih =>
  refine ⟨?_,?_,?_⟩
  ·intro cs x h hR
   obtain ⟨a,cap,l,rfl,hs⟩:=open_sl 8 152 Tryz.underlying24 ncN (by decide) nbN (by decide) (P1 w) fuel (fun n hn cs y hl hy hRy=>by
    obtain ⟨k,nm,g,az,ws,ks,bs,cz,hi⟩:=(ih n hn).2.2 cs y hl hy hRy
    exact of_is hi) cs x h hR
   obtain ⟨L,e1,e2,e3⟩:=sl_n hs;exact ⟨a,cap,L,by rw [e1],e2,e3⟩
  ·intro cs x h hR
   obtain ⟨a,cap,l,rfl,hs⟩:=open_sl 2 48 Tryz.underlying26 ncC (by decide) nbC (by decide) (C1 w) fuel (fun n hn cs y hl hy hRy=>by
    obtain ⟨ys,m,rfl,hy2,_,hys,hf⟩:=DataW.trod_struct Tryz.underlying44 hy;rw [hy2] at hRy
    match cs,hl with
    | [v0,v1],_ =>
     match ys,hys with
     | [y0,y1],_ =>
      have g0:DataW.trod enc Tryz.prog w base (fun _=>true) held m 23 (List.take (Tryz.prog.cellsOf 23) (List.drop 0 [v0,v1])) = some y0:=hf 0 _ rfl;rw [ncSW] at g0;have g1:DataW.trod enc Tryz.prog w base (fun _=>true) held m 24 (List.take (Tryz.prog.cellsOf 24) (List.drop 1 [v0,v1])) = some y1:=hf 1 _ rfl;rw [ncSN] at g1;simp only [List.drop,List.take] at g0 g1;simp only [DataW.weights,Tryz.underlying44,List.map,DataW.weightsEach,List.mem_append] at hRy;obtain ⟨a1,c1,l1,e0,s0⟩:=open_ww _ _ _ g0 (fun n hn=>hRy n (by simp [hn]));obtain ⟨a2,c2,l2,e1,s1,o1⟩:=(ih m (by omega)).1 _ _ g1 (fun n hn=>hRy n (by simp [hn]));simp only [List.cons.injEq,and_true] at e0 e1;subst e0 e1
      exact ⟨.cse l1 l2 .nil,fun b o hc=>⟨l1,l2,rfl,⟨⟨a1,c1,hc 0 _ rfl,s0⟩,⟨a2,c2,hc 1 _ rfl,s1⟩,trivial⟩,by simp [NL.okN,o1]⟩⟩) cs x h hR
   obtain ⟨L,e1,e2,e3⟩:=sl_c hs;exact ⟨a,cap,L,by rw [e1],e2,e3⟩
  ·intro cs x hl h hR;obtain ⟨ys,m,rfl,hy2,_,hys,hf⟩:=DataW.trod_struct Tryz.underlying28 h;rw [hy2] at hR
   match cs,hl with
   | [v0,v1,v2,v3,v4,v5,v6,v7],_ =>
    match ys,hys with
    | [y0,y1,y2,y3,y4,y5,y6,y7],_ =>
     have g0:DataW.trod enc Tryz.prog w base (fun _=>true) held m 3 (List.take (Tryz.prog.cellsOf 3) (List.drop 0 [v0,v1,v2,v3,v4,v5,v6,v7])) = some y0:=hf 0 _ rfl;rw [ncI] at g0;have g1:DataW.trod enc Tryz.prog w base (fun _=>true) held m 9 (List.take (Tryz.prog.cellsOf 9) (List.drop 1 [v0,v1,v2,v3,v4,v5,v6,v7])) = some y1:=hf 1 _ rfl;rw [ncS] at g1;have g2:DataW.trod enc Tryz.prog w base (fun _=>true) held m 4 (List.take (Tryz.prog.cellsOf 4) (List.drop 2 [v0,v1,v2,v3,v4,v5,v6,v7])) = some y2:=hf 2 _ rfl;rw [ncB] at g2;have g3:DataW.trod enc Tryz.prog w base (fun _=>true) held m 22 (List.take (Tryz.prog.cellsOf 22) (List.drop 3 [v0,v1,v2,v3,v4,v5,v6,v7])) = some y3:=hf 3 _ rfl;rw [ncSA] at g3;have g4:DataW.trod enc Tryz.prog w base (fun _=>true) held m 23 (List.take (Tryz.prog.cellsOf 23) (List.drop 4 [v0,v1,v2,v3,v4,v5,v6,v7])) = some y4:=hf 4 _ rfl;rw [ncSW] at g4;have g5:DataW.trod enc Tryz.prog w base (fun _=>true) held m 24 (List.take (Tryz.prog.cellsOf 24) (List.drop 5 [v0,v1,v2,v3,v4,v5,v6,v7])) = some y5:=hf 5 _ rfl;rw [ncSN] at g5;have g6:DataW.trod enc Tryz.prog w base (fun _=>true) held m 25 (List.take (Tryz.prog.cellsOf 25) (List.drop 6 [v0,v1,v2,v3,v4,v5,v6,v7])) = some y6:=hf 6 _ rfl;rw [ncSB] at g6;have g7:DataW.trod enc Tryz.prog w base (fun _=>true) held m 26 (List.take (Tryz.prog.cellsOf 26) (List.drop 7 [v0,v1,v2,v3,v4,v5,v6,v7])) = some y7:=hf 7 _ rfl;rw [ncSC] at g7;simp only [List.drop,List.take] at g0 g1 g2 g3 g4 g5 g6 g7;obtain ⟨z0,e0,d0,_⟩:=DataW.trod_int Tryz.underlying3 g0;obtain ⟨z1,e1,d1,_⟩:=DataW.trod_string Tryz.underlying9 g1;obtain ⟨z2,e2,d2⟩:=DataW.trod_bool Tryz.underlying4 g2;subst d1;simp only [DataW.weights,Tryz.underlying28,List.map,DataW.weightsEach,List.mem_append] at hR;obtain ⟨a3,c3,l3,e3,s3⟩:=open_al _ _ _ g3 (fun n hn=>hR n (by simp [hn]));obtain ⟨a4,c4,l4,e4,s4⟩:=open_ww _ _ _ g4 (fun n hn=>hR n (by simp [hn]));obtain ⟨a5,c5,l5,e5,s5,o5⟩:=(ih m (by omega)).1 _ _ g5 (fun n hn=>hR n (by simp [hn]));obtain ⟨a6,c6,l6,e6,s6⟩:=open_bl _ _ _ g6 (fun n hn=>hR n (by simp [hn]));obtain ⟨a7,c7,l7,e7,s7,o7⟩:=(ih m (by omega)).2.1 _ _ g7 (fun n hn=>hR n (by simp [hn]));have r1:z1.size≤R:=hR z1.data.toList.length (by simp) |> fun h=>by simpa using h
     simp only [List.cons.injEq,and_true] at e0 e1 e2 e3 e4 e5 e6 e7;subst e0 e1 e2 e3 e4 e5 e6 e7;exact ⟨z0,z1,z2,l3,l4,l5,l6,l7,a3,c3,a4,c4,a5,c5,a6,c6,a7,c7,rfl,r1,s3,s4,s5,s6,s7,o5,o7⟩
theorem node_arg {W:World} {base:Nat} {v:Value} {d:DataW H} {p:List MemPlace} (hv:Value.okWide Tryz.prog W .any base 28 v) (h:DataW.Trod enc Tryz.prog W 0 (fun _=>true) true 28 v d p) (hw:∀ n ∈ d.weights Tryz.prog 28,n≤R) :
  ∃ cs k nm g az ws ks bs cz,v = .agg cs∧NodeIs W cs.toList k nm g az ws ks bs cz:=by
 obtain ⟨cs,rfl,hsz⟩:=okWide_struct Tryz.underlying28 hv;obtain ⟨fuel,hf⟩:=h;rw [ncN] at hsz;obtain ⟨k,nm,g,az,ws,ks,bs,cz,hi⟩:=(open_nl fuel).2.2 _ _ (by simpa [Value.cells] using hsz) hf hw;exact ⟨cs,k,nm,g,az,ws,ks,bs,cz,rfl,by simpa [Value.cells] using hi⟩
end
end Tr
end Go.Proofs.YtjmpfihopeohbaaGreatDoor
namespace Go.Proofs.YtjmpfihopeohbaaGreatDoor
open Go.RowKit Go.Sort
namespace Tr
open Cls Pt
def eqL {T:Type} (p:T→T→Bool):List T→List T→Bool
 | [],[]=>true
 | x :: r,y :: s=>p x y && eqL p r s
 | _,_=>false
theorem eqL_len {T:Type} {p:T→T→Bool}:∀ {l m:List T},l.length ≠ m.length→eqL p l m = false
 | [],[],h=>absurd rfl h
 | [],_ :: _,_=>rfl
 | _ :: _,[],_=>rfl
 | x :: r,y :: s,h=>by simp only [eqL,eqL_len (l:=r) (m:=s) (by simpa using h),Bool.and_false]
theorem eqL_at {T:Type} {p:T→T→Bool} {l m:List T} {k:Nat} (h1:k < l.length) (h2:k < m.length):eqL p (l.drop k) (m.drop k) = (p l[k] m[k] && eqL p (l.drop (k + 1)) (m.drop (k + 1))):=by
 rw [List.drop_eq_getElem_cons h1,List.drop_eq_getElem_cons h2];rfl
theorem eqL_end {T:Type} {p:T→T→Bool} {l m:List T} (h:l.length = m.length):eqL p (l.drop l.length) (m.drop l.length) = true:=by
 rw [List.drop_eq_nil_of_le (Nat.le_refl _),List.drop_eq_nil_of_le (by omega)];rfl
def sameA (x y:ByteArray × PL):Bool:=x.1.toList == y.1.toList && same x.2 y.2
def sameN:NL→NL→Bool
 | .nil,.nil=>true
 | .node k nm g az ws ks bs cs r,.node k' nm' g' az' ws' ks' bs' cs' r'=>(k == k' && nm.toList == nm'.toList && g == g' && eqL sameA az az' && eqL same ws ws' && sameN ks ks' && eqL (· == ·) bs bs' && sameN cs cs') && sameN r r'
 | .cse ps b r,.cse ps' b' r'=>(eqL same ps ps' && sameN b b') && sameN r r'
 | _,_=>false
theorem sameN_len:∀ {a b:NL},a.len ≠ b.len→sameN a b = false
 | .nil,.nil,h=>absurd rfl h
 | .nil,.node ..,_=>rfl
 | .nil,.cse ..,_=>rfl
 | .node ..,.nil,_=>rfl
 | .cse ..,.nil,_=>rfl
 | .node ..,.cse ..,_=>rfl
 | .cse ..,.node ..,_=>rfl
 | .node _ _ _ _ _ _ _ _ r,.node _ _ _ _ _ _ _ _ r',h=>by simp only [sameN,sameN_len (a:=r) (b:=r') (by simpa [NL.len] using h),Bool.and_false]
 | .cse _ _ r,.cse _ _ r',h=>by simp only [sameN,sameN_len (a:=r) (b:=r') (by simpa [NL.len] using h),Bool.and_false]
theorem sl_below {T:Type} {k:Nat} {P:World→Nat→Nat→T→Prop} {w w':World} {a:Option Addr} {cap:Nat} {l:List T} (hP:∀ {b o t},P w b o t→P w' b o t) (h:Sl k (P w) a cap l):Sl k (P w') a cap l:=h.mono fun _ _ _=>hP
def av (n:ByteArray) (a:Option Addr) (k c:Nat):Value:=.agg #[.string n,.slice a k c]
theorem sameAssign_any (n1 n2:ByteArray) (l1 l2:PL) (a1 a2:Option Addr) (c1 c2:Nat) (w:World) (h1:Lies w a1 c1 l1) (h2:Lies w a2 c2 l2) :
  Calls Tryz.prog 31 #[av n1 a1 l1.len c1,av n2 a2 l2.len c2] w fun e w'=>e = .returned (.bool (sameA (n1,l1) (n2,l2)))∧Below w.heap.size w w':=by
 have HS:=Lib.hid (fun (x y:Obj)=>same_any (l1.size + 1) l1 l2 a1 a2 c1 c2 ((w.alloc x).alloc y) (by omega) (h1.below (bel2 w x y)) (h2.below (bel2 w x y)));clear h1 h2;unfold av sameA;cases hn:(n1.toList == n2.toList)
 ·go_enter Tryz.func31,Tryz.ntmps31;go_wp2_with fail;go_ret;exact ⟨rfl,bel2 _ _ _⟩
 ·go_enter Tryz.func31,Tryz.ntmps31;go_wp2_with (go_at_call 33;refine (HS.out _ _).mono ?_;rintro e w' ⟨rfl,hb⟩);go_ret;exact ⟨rfl,thru (bel2 _ _ _) (by assumption)⟩
theorem eqA_any (la lb:List (ByteArray × PL)) (a b:Option Addr) (ca cb:Nat) (w:World) (hla:Sl 2 (PA w) a ca la) (hlb:Sl 2 (PA w) b cb lb) :
  Calls Tryz.prog 30 #[.slice a la.length ca,.slice b lb.length cb,.func (.func 31) #[] #[]] w fun e w'=>e = .returned (.bool (eqL sameA la lb))∧Below w.heap.size w w':=by
 have hle:=hla.le;have HA:=Lib.hid hla;have HB:=Lib.hid hlb;clear hla hlb
 by_cases hl:la.length = lb.length
 ·have hl':((la.length:Int) != (lb.length:Int)) = false:=by simp [hl]
  have HL:=Lib.hid hl;clear hl;go_enter Tryz.func30,Tryz.ntmps30;go_wp2
  go_loopw [17] (fun i wr=>∃ k:Nat,k≤la.length∧i = .int .i64 k∧eqL sameA la lb = eqL sameA (la.drop k) (lb.drop k)∧Below w.heap.size w wr) (fun i wr=>la.length - (intOf i).toNat)
  case atStart=>exact ⟨0,Nat.zero_le _,rfl,rfl,Below.refl _ _⟩
  case round =>
   obtain ⟨k,hk,rfl,hr,hbw⟩:=hrel;have HR:=Lib.hid hr;have HW:=Lib.hid hbw;clear hr hbw
   by_cases hlt:k < la.length
   ·have hlt2:k < lb.length:=by have:=HL.out;omega
    obtain ⟨b1,o1,rfl,c10,_,a1,ca1,c11,hl1⟩:=(sl_below (P:=PA) (fun h=>h.below HW.out) HA.out).get (List.getElem?_eq_getElem hlt);obtain ⟨b2,o2,rfl,c20,_,a2,ca2,c21,hl2⟩:=(sl_below (P:=PA) (fun h=>h.below HW.out) HB.out).get (List.getElem?_eq_getElem hlt2);have hb1:=World.block_lt_of_cell? _ _ c10;have hb2:=World.block_lt_of_cell? _ _ c20;have hC:=fun X Y=>sameAssign_any la[k].1 lb[k].1 la[k].2 lb[k].2 a1 a2 ca1 ca2 ((wr.alloc X).alloc Y) (hl1.below (bel2 wr X Y)) (hl2.below (bel2 wr X Y));unfold av at hC;have hstep:eqL sameA la lb = (sameA la[k] lb[k] && eqL sameA (la.drop (k + 1)) (lb.drop (k + 1))):=HR.out.trans (eqL_at hlt hlt2);have hBB:sameA (la[k].1,la[k].2) (lb[k].1,lb[k].2) = sameA la[k] lb[k]:=rfl;rw [hBB] at hC;generalize sameA la[k] lb[k] = B at hC hstep;generalize la[k].1 = n1 at *
    generalize lb[k].1 = n2 at *
    generalize la[k].2 = l1 at *
    generalize lb[k].2 = l2 at *
    have hws:=HW.out.size;have HC:=Lib.hid hC;have HT:=Lib.hid hstep;clear hC hstep hl1 hl2 hBB;cases B
    ·go_wp2_with (go_at_call 31;refine (HC.out _ _).mono ?_;rintro e w' ⟨rfl,hb⟩);go_ret;exact ⟨ret_bool (by rw [HT.out];rfl),thru HW.out (thru (bel2 _ _ _) (by assumption))⟩
    ·go_wp2_with (go_at_call 31;refine (HC.out _ _).mono ?_;rintro e w' ⟨rfl,hb⟩);go_roundw
     case rel=>exact ⟨k + 1,by omega,by go_num,by rw [HT.out];rfl,thru HW.out (thru (bel2 _ _ _) (by assumption))⟩
     case measure=>simp [intOf];omega
   ·obtain rfl:k = la.length:=by omega
    go_wp2;go_ret;exact ⟨ret_bool (by rw [HR.out];exact (eqL_end HL.out).symm),HW.out⟩
 ·have hl':((la.length:Int) != (lb.length:Int)) = true:=by simp;omega
  have HL:=Lib.hid hl;clear hl;go_enter Tryz.func30,Tryz.ntmps30;go_wp2_with fail;go_ret;exact ⟨ret_bool (eqL_len HL.out).symm,Below.refl _ _⟩
theorem eqW_any (la lb:List PL) (a b:Option Addr) (ca cb:Nat) (w:World) (hla:Sl 1 (PW w) a ca la) (hlb:Sl 1 (PW w) b cb lb) :
  Calls Tryz.prog 32 #[.slice a la.length ca,.slice b lb.length cb,.func (.func 33) #[] #[]] w fun e w'=>e = .returned (.bool (eqL same la lb))∧Below w.heap.size w w':=by
 have hle:=hla.le;have HA:=Lib.hid hla;have HB:=Lib.hid hlb;clear hla hlb
 by_cases hl:la.length = lb.length
 ·have hl':((la.length:Int) != (lb.length:Int)) = false:=by simp [hl]
  have HL:=Lib.hid hl;clear hl;go_enter Tryz.func32,Tryz.ntmps32;go_wp2
  go_loopw [17] (fun i wr=>∃ k:Nat,k≤la.length∧i = .int .i64 k∧eqL same la lb = eqL same (la.drop k) (lb.drop k)∧Below w.heap.size w wr) (fun i wr=>la.length - (intOf i).toNat)
  case atStart=>exact ⟨0,Nat.zero_le _,rfl,rfl,Below.refl _ _⟩
  case round =>
   obtain ⟨k,hk,rfl,hr,hbw⟩:=hrel;have HR:=Lib.hid hr;have HW:=Lib.hid hbw;clear hr hbw
   by_cases hlt:k < la.length
   ·have hlt2:k < lb.length:=by have:=HL.out;omega
    obtain ⟨b1,o1,rfl,a1,ca1,c10,hl1⟩:=(sl_below (P:=PW) (fun h=>h.below HW.out) HA.out).get (List.getElem?_eq_getElem hlt);obtain ⟨b2,o2,rfl,a2,ca2,c20,hl2⟩:=(sl_below (P:=PW) (fun h=>h.below HW.out) HB.out).get (List.getElem?_eq_getElem hlt2);rw [Nat.mul_one] at c10 c20;have hC:=same_any (la[k].size + 1) la[k] lb[k] a1 a2 ca1 ca2 wr (by omega) hl1 hl2;have hstep:eqL same la lb = (same la[k] lb[k] && eqL same (la.drop (k + 1)) (lb.drop (k + 1))):=HR.out.trans (eqL_at hlt hlt2);generalize same la[k] lb[k] = B at hC hstep;generalize la[k] = l1 at *
    generalize lb[k] = l2 at *
    have hws:=HW.out.size;have HC:=Lib.hid hC;have HT:=Lib.hid hstep;clear hC hstep hl1 hl2;cases B
    ·go_wp2_with (go_at_call 33;refine (HC.out).mono ?_;rintro e w' ⟨rfl,hb⟩);go_ret;exact ⟨ret_bool (by rw [HT.out];rfl),thru HW.out (by assumption)⟩
    ·go_wp2_with (go_at_call 33;refine (HC.out).mono ?_;rintro e w' ⟨rfl,hb⟩);go_roundw
     case rel=>exact ⟨k + 1,by omega,by go_num,by rw [HT.out];rfl,thru HW.out (by assumption)⟩
     case measure=>simp [intOf];omega
   ·obtain rfl:k = la.length:=by omega
    go_wp2;go_ret;exact ⟨ret_bool (by rw [HR.out];exact (eqL_end HL.out).symm),HW.out⟩
 ·have hl':((la.length:Int) != (lb.length:Int)) = true:=by simp;omega
  have HL:=Lib.hid hl;clear hl;go_enter Tryz.func32,Tryz.ntmps32;go_wp2_with fail;go_ret;exact ⟨ret_bool (eqL_len HL.out).symm,Below.refl _ _⟩
theorem eqB_any (la lb:List Bool) (a b:Option Addr) (ca cb:Nat) (w:World) (hla:Sl 1 (PB w) a ca la) (hlb:Sl 1 (PB w) b cb lb) :
  Calls Tryz.prog 35 #[.slice a la.length ca,.slice b lb.length cb] w fun e w'=>e = .returned (.bool (eqL (· == ·) la lb))∧Below w.heap.size w w':=by
 have hle:=hla.le;have HA:=Lib.hid hla;have HB:=Lib.hid hlb;clear hla hlb
 by_cases hl:la.length = lb.length
 ·have hl':((la.length:Int) != (lb.length:Int)) = false:=by simp [hl]
  have HL:=Lib.hid hl;clear hl;go_enter Tryz.func35,Tryz.ntmps35;go_wp2
  go_loopw [13] (fun i wr=>∃ k:Nat,k≤la.length∧i = .int .i64 k∧eqL (· == ·) la lb = eqL (· == ·) (la.drop k) (lb.drop k)∧Below w.heap.size w wr) (fun i wr=>la.length - (intOf i).toNat)
  case atStart=>exact ⟨0,Nat.zero_le _,rfl,rfl,Below.refl _ _⟩
  case round =>
   obtain ⟨k,hk,rfl,hr,hbw⟩:=hrel;have HR:=Lib.hid hr;have HW:=Lib.hid hbw;clear hr hbw
   by_cases hlt:k < la.length
   ·have hlt2:k < lb.length:=by have:=HL.out;omega
    have hstep:eqL (· == ·) la lb = ((la[k] == lb[k]) && eqL (· == ·) (la.drop (k + 1)) (lb.drop (k + 1))):=HR.out.trans (eqL_at hlt hlt2);obtain ⟨b1,o1,rfl,c10⟩:=(sl_below (P:=PB) (fun h=>h.below HW.out) HA.out).get (List.getElem?_eq_getElem hlt);obtain ⟨b2,o2,rfl,c20⟩:=(sl_below (P:=PB) (fun h=>h.below HW.out) HB.out).get (List.getElem?_eq_getElem hlt2);rw [Nat.mul_one] at c10 c20;unfold PB at c10 c20;generalize la[k] = x1 at *
    generalize lb[k] = x2 at *
    have HT:=Lib.hid hstep;clear hstep;have hbd:∀ n,Below w.heap.size w (wr.drewN n):=fun n=>⟨HW.out.os,HW.out.tape,HW.out.output,HW.out.size,HW.out.block⟩;have HBD:=Lib.hid hbd;clear hbd;cases x1 <;> cases x2
    all_goals
     go_wp2_with fail
     go_quiet (fail)
     go_wp2_with fail
     first
      | (go_roundw
         case rel=>exact ⟨k + 1,by omega,by go_num,by rw [HT.out];rfl,HBD.out _⟩
         case measure=>simp [intOf];omega)
      | (go_ret
         exact ⟨ret_bool (by rw [HT.out];rfl),HBD.out _⟩)
   ·obtain rfl:k = la.length:=by omega
    go_wp2;go_ret;exact ⟨ret_bool (by rw [HR.out];exact (eqL_end HL.out).symm),HW.out⟩
 ·have hl':((la.length:Int) != (lb.length:Int)) = true:=by simp;omega
  have HL:=Lib.hid hl;clear hl;go_enter Tryz.func35,Tryz.ntmps35;go_wp2_with fail;go_ret;exact ⟨ret_bool (eqL_len HL.out).symm,Below.refl _ _⟩
def nodeEq (k1:Int) (nm1:ByteArray) (g1:Bool) (az1:List (ByteArray × PL)) (ws1:List PL) (ks1:NL) (bs1:List Bool) (cz1:NL) (k2:Int) (nm2:ByteArray) (g2:Bool) (az2:List (ByteArray × PL)) (ws2:List PL) (ks2:NL) (bs2:List Bool) (cz2:NL):Bool :=
 k1 == k2 && nm1.toList == nm2.toList && g1 == g2 && eqL sameA az1 az2 && eqL same ws1 ws2 && sameN ks1 ks2 && eqL (· == ·) bs1 bs2 && sameN cz1 cz2
def SameAt (n:Nat):Prop:=∀ (k1:Int) (nm1:ByteArray) (g1:Bool) (az1:List (ByteArray × PL)) (ws1:List PL) (ks1:NL) (bs1:List Bool) (cz1:NL) (k2:Int) (nm2:ByteArray) (g2:Bool) (az2:List (ByteArray × PL)) (ws2:List PL) (ks2:NL) (bs2:List Bool) (cz2:NL) (x11:Option Addr) (d11:Nat) (x12:Option Addr) (d12:Nat) (x13:Option Addr) (d13:Nat) (x14:Option Addr) (d14:Nat) (x15:Option Addr) (d15:Nat) (x21:Option Addr) (d21:Nat) (x22:Option Addr) (d22:Nat) (x23:Option Addr) (d23:Nat) (x24:Option Addr) (d24:Nat) (x25:Option Addr) (d25:Nat) (w:World),ks1.size + cz1.size < n→Holds w nm1 az1 ws1 ks1 bs1 cz1 x11 d11 x12 d12 x13 d13 x14 d14 x15 d15→Holds w nm2 az2 ws2 ks2 bs2 cz2 x21 d21 x22 d22 x23 d23 x24 d24 x25 d25 →
 Calls Tryz.prog 16 #[.agg (nodeV k1 nm1 g1 x11 az1.length d11 x12 ws1.length d12 x13 ks1.len d13 x14 bs1.length d14 x15 cz1.len d15),.agg (nodeV k2 nm2 g2 x21 az2.length d21 x22 ws2.length d22 x23 ks2.len d23 x24 bs2.length d24 x25 cz2.len d25)] w fun e w'=>e = .returned (.bool (nodeEq k1 nm1 g1 az1 ws1 ks1 bs1 cz1 k2 nm2 g2 az2 ws2 ks2 bs2 cz2))∧Below w.heap.size w w'
theorem eqN_any (n:Nat) (hS:SameAt n) (la lb:NL) (hn:la.size≤n) (hoka:NL.okN la true = true) (hokb:NL.okN lb true = true) (a b:Option Addr) (ca cb:Nat) (w:World) (hla:NLies w a ca la) (hlb:NLies w b cb lb) :
  Calls Tryz.prog 34 #[.slice a la.len ca,.slice b lb.len cb,.func (.func 16) #[] #[]] w fun e w'=>e = .returned (.bool (sameN la lb))∧Below w.heap.size w w':=by
 have hle:=hla.le;have HS:=Lib.hid hS;have HOA:=Lib.hid hoka;have HOB:=Lib.hid hokb;have HA:=Lib.hid hla;have HB:=Lib.hid hlb;clear hla hlb hS hoka hokb
 by_cases hl:la.len = lb.len
 ·have hl':((la.len:Int) != (lb.len:Int)) = false:=by simp [hl]
  have HL:=Lib.hid hl;clear hl;go_enter Tryz.func34,Tryz.ntmps34;go_wp2
  go_loopw [17] (fun i wr=>∃ k:Nat,k≤la.len∧i = .int .i64 k∧sameN la lb = sameN (la.drop k) (lb.drop k)∧Below w.heap.size w wr) (fun i wr=>la.len - (intOf i).toNat)
  case atStart=>exact ⟨0,Nat.zero_le _,rfl,rfl,Below.refl _ _⟩
  case round =>
   obtain ⟨k,hk,rfl,hr,hbw⟩:=hrel;have HR:=Lib.hid hr;have HW:=Lib.hid hbw;clear hr hbw
   by_cases hlt:k < la.len
   ·have hlt2:k < lb.len:=by have:=HL.out;omega
    obtain ⟨k1,nm1,g1,az1,ws1,ks1,bs1,cz1,r1,hd1⟩:=NL.drop_node hlt HOA.out;obtain ⟨k2,nm2,g2,az2,ws2,ks2,bs2,cz2,r2,hd2⟩:=NL.drop_node hlt2 HOB.out;obtain ⟨b1,o1,rfl,hb1,x11,d11,x12,d12,x13,d13,x14,d14,x15,d15,hc1,hh1⟩:=(HA.out.below HW.out).getN HOA.out hd1;obtain ⟨b2,o2,rfl,hb2,x21,d21,x22,d22,x23,d23,x24,d24,x25,d25,hc2,hh2⟩:=(HB.out.below HW.out).getN HOB.out hd2;have c10:wr.cell? ⟨b1,o1 + k * 8,none⟩ = some (.int .i64 k1):=hc1 0 _ rfl;have c11:wr.cell? ⟨b1,o1 + k * 8 + 1,none⟩ = some (.string nm1):=hc1 1 _ rfl;have c12:wr.cell? ⟨b1,o1 + k * 8 + 2,none⟩ = some (.bool g1):=hc1 2 _ rfl;have c13:wr.cell? ⟨b1,o1 + k * 8 + 3,none⟩ = some (.slice x11 az1.length d11):=hc1 3 _ rfl;have c14:wr.cell? ⟨b1,o1 + k * 8 + 4,none⟩ = some (.slice x12 ws1.length d12):=hc1 4 _ rfl;have c15:wr.cell? ⟨b1,o1 + k * 8 + 5,none⟩ = some (.slice x13 ks1.len d13):=hc1 5 _ rfl;have c16:wr.cell? ⟨b1,o1 + k * 8 + 6,none⟩ = some (.slice x14 bs1.length d14):=hc1 6 _ rfl;have c17:wr.cell? ⟨b1,o1 + k * 8 + 7,none⟩ = some (.slice x15 cz1.len d15):=hc1 7 _ rfl;have c20:wr.cell? ⟨b2,o2 + k * 8,none⟩ = some (.int .i64 k2):=hc2 0 _ rfl;have c21:wr.cell? ⟨b2,o2 + k * 8 + 1,none⟩ = some (.string nm2):=hc2 1 _ rfl;have c22:wr.cell? ⟨b2,o2 + k * 8 + 2,none⟩ = some (.bool g2):=hc2 2 _ rfl;have c23:wr.cell? ⟨b2,o2 + k * 8 + 3,none⟩ = some (.slice x21 az2.length d21):=hc2 3 _ rfl;have c24:wr.cell? ⟨b2,o2 + k * 8 + 4,none⟩ = some (.slice x22 ws2.length d22):=hc2 4 _ rfl;have c25:wr.cell? ⟨b2,o2 + k * 8 + 5,none⟩ = some (.slice x23 ks2.len d23):=hc2 5 _ rfl;have c26:wr.cell? ⟨b2,o2 + k * 8 + 6,none⟩ = some (.slice x24 bs2.length d24):=hc2 6 _ rfl;have c27:wr.cell? ⟨b2,o2 + k * 8 + 7,none⟩ = some (.slice x25 cz2.len d25):=hc2 7 _ rfl;have hsz:ks1.size + cz1.size < la.size:=by
     have:=NL.drop_size k la;rw [hd1] at this;simp only [NL.size] at this;omega
    have hC:=fun X Y=>HS.out k1 nm1 g1 az1 ws1 ks1 bs1 cz1 k2 nm2 g2 az2 ws2 ks2 bs2 cz2 x11 d11 x12 d12 x13 d13 x14 d14 x15 d15 x21 d21 x22 d22 x23 d23 x24 d24 x25 d25 ((wr.alloc X).alloc Y) (by omega) (hh1.below (bel2 wr X Y)) (hh2.below (bel2 wr X Y));unfold nodeV at hC;have hstep:sameN la lb = (nodeEq k1 nm1 g1 az1 ws1 ks1 bs1 cz1 k2 nm2 g2 az2 ws2 ks2 bs2 cz2 && sameN r1 r2):=by rw [HR.out,hd1,hd2];rfl
    have hn1:=NL.drop_succN hd1;have hn2:=NL.drop_succN hd2;generalize nodeEq k1 nm1 g1 az1 ws1 ks1 bs1 cz1 k2 nm2 g2 az2 ws2 ks2 bs2 cz2 = B at hC hstep;have HN1:=Lib.hid hn1;have HN2:=Lib.hid hn2;have hws:=HW.out.size;have HC:=Lib.hid hC;have HT:=Lib.hid hstep;clear hC hstep hh1 hh2 hd1 hd2 hn1 hn2 hc1 hc2;cases B
    ·go_wp2_with (go_at_call 16;refine (HC.out _ _).mono ?_;rintro e w' ⟨rfl,hb⟩);go_ret;exact ⟨ret_bool (by rw [HT.out];rfl),thru HW.out (thru (bel2 _ _ _) (by assumption))⟩
    ·go_wp2_with (go_at_call 16;refine (HC.out _ _).mono ?_;rintro e w' ⟨rfl,hb⟩);go_roundw
     case rel=>exact ⟨k + 1,by omega,by go_num,by rw [HT.out];rw [HN1.out,HN2.out];rfl,thru HW.out (thru (bel2 _ _ _) (by assumption))⟩
     case measure=>simp [intOf];omega
   ·obtain rfl:k = la.len:=by omega
    go_wp2;go_ret;exact ⟨ret_bool (by rw [HR.out];rw [NL.drop_end (Nat.le_refl _),NL.drop_end (by rw [HL.out];exact Nat.le_refl _)];rfl),HW.out⟩
 ·have hl':((la.len:Int) != (lb.len:Int)) = true:=by simp;omega
  have HL:=Lib.hid hl;clear hl;go_enter Tryz.func34,Tryz.ntmps34;go_wp2_with fail;go_ret;exact ⟨ret_bool (sameN_len HL.out).symm,Below.refl _ _⟩
end Tr
end Go.Proofs.YtjmpfihopeohbaaGreatDoor
