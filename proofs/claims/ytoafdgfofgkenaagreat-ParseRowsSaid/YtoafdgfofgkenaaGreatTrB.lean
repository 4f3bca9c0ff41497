/- Words, one behind the other, as they lie in memory; an argument that is such. -/
/- Nodes, as they lie in memory: a plain datum; an argument that is a node. -/
/- An argument that is a node: its reading is nodes in memory. -/
import Derived.Test.YtoafdgfofgkenaaGreatPtA
import Derived.Test.YtoafdgfofgkenaaGreatLawP
namespace Go.Proofs.YtoafdgfofgkenaaGreat
open Go.RowKit Go.WideShapes Go.ChangeShapes
namespace Pt
def WAt (w:World) (b:Nat):Nat→List PL→Prop
 | _,[]=>True
 | o,l :: r=>(∃ a cap,w.cell? ⟨b,o,none⟩ = some (.slice a l.len cap)∧Lies w a cap l)∧WAt w b (o + 1) r
def WLies (w:World) (a:Option Addr) (cap:Nat) (ws:List PL):Prop :=
 ws.length≤cap∧ws.length≤R∧(ws = []∨∃ b o,a = some ⟨b,o,none⟩∧WAt w b o ws)
theorem WLies.le {w:World} {a:Option Addr} {cap:Nat} {ws:List PL} (h:WLies w a cap ws):ws.length≤140737488351232:=h.2.1
theorem WAt.below {w w':World} (hb:Below w.heap.size w w'):∀ {ws:List PL} {b o:Nat},WAt w b o ws→WAt w' b o ws
 | [],_,_,_=>trivial
 | _ :: _,b,o,⟨⟨a,cap,h,hl⟩,hr⟩=>⟨⟨a,cap,(hb.cell (p:=⟨b,o,none⟩) (World.block_lt_of_cell? _ _ h)).trans h,hl.below hb⟩,WAt.below hb hr⟩
theorem WLies.below {w w':World} {a:Option Addr} {cap:Nat} {ws:List PL} (h:WLies w a cap ws) (hb:Below w.heap.size w w'):WLies w' a cap ws:=by
 obtain ⟨h1,h2,h3⟩:=h
 refine ⟨h1,h2,?_⟩
 rcases h3 with h3 | ⟨b,o,ha,h3⟩
 ·exact .inl h3
 ·exact .inr ⟨b,o,ha,WAt.below hb h3⟩
theorem WAt.get {w:World} {b:Nat}:∀ {ws:List PL} {o n:Nat} {l:PL},WAt w b o ws→ws[n]? = some l→∃ a cap,w.cell? ⟨b,o + n,none⟩ = some (.slice a l.len cap)∧Lies w a cap l
 | [],_,_,_,_,h=>by simp at h
 | _ :: _,o,0,_,h,hn=>by
  simp only [List.getElem?_cons_zero,Option.some.injEq] at hn
  subst hn
  exact h.1
 | _ :: r,o,n + 1,l,h,hn=>by
  have:=WAt.get (n:=n) h.2 (by simpa using hn)
  rwa [show o + 1 + n = o + (n + 1) by omega] at this
theorem WLies.get {w:World} {a:Option Addr} {cap n:Nat} {ws:List PL} {l:PL} (h:WLies w a cap ws) (hn:ws[n]? = some l) :
  ∃ b o,a = some ⟨b,o,none⟩∧b < w.heap.size∧∃ a' cap',w.cell? ⟨b,o + n,none⟩ = some (.slice a' l.len cap')∧Lies w a' cap' l:=by
 obtain ⟨_,_,h3⟩:=h
 rcases h3 with rfl | ⟨b,o,ha,h3⟩
 ·simp at hn
 ·obtain ⟨a',cap',hc,hl⟩:=h3.get hn
  exact ⟨b,o,ha,World.block_lt_of_cell? _ _ hc,a',cap',hc,hl⟩
section
variable {H:Type} {enc:TypeId × Value→H} {w:World} {base:Nat} {held:Bool}
end
end Pt
namespace Law
section
variable {H:Type} {enc:TypeId × Value→H}
end
end Law
end Go.Proofs.YtoafdgfofgkenaaGreat
namespace Go.Proofs.YtoafdgfofgkenaaGreat
open Go.RowKit Go.WideShapes Go.ChangeShapes
namespace Tr
open Pt
def Chain {T:Type} (k:Nat) (P:Nat→Nat→T→Prop) (b:Nat):Nat→List T→Prop
 | _,[]=>True
 | o,t :: r=>P b o t∧Chain k P b (o + k) r
theorem Chain.get {T:Type} {k:Nat} {P:Nat→Nat→T→Prop} {b:Nat}:∀ {l:List T} {o n:Nat} {t:T},Chain k P b o l→l[n]? = some t→P b (o + n * k) t
 | [],_,_,_,_,h=>by simp at h
 | _ :: _,o,0,_,h,hn=>by
  simp only [List.getElem?_cons_zero,Option.some.injEq] at hn
  subst hn
  simpa using h.1
 | _ :: r,o,n + 1,t,h,hn=>by
  have:=Chain.get (n:=n) h.2 (by simpa using hn)
  rwa [show o + k + n * k = o + (n + 1) * k by rw [Nat.succ_mul];omega] at this
theorem Chain.mono {T:Type} {k:Nat} {P Q:Nat→Nat→T→Prop} {b:Nat} (hPQ:∀ o t,P b o t→Q b o t):∀ {l:List T} {o:Nat},Chain k P b o l→Chain k Q b o l
 | [],_,_=>trivial
 | _ :: _,_,h=>⟨hPQ _ _ h.1,Chain.mono hPQ h.2⟩
def Sl {T:Type} (k:Nat) (P:Nat→Nat→T→Prop) (a:Option Addr) (cap:Nat) (l:List T):Prop :=
 l.length≤cap∧l.length≤R∧(l = []∨∃ b o,a = some ⟨b,o,none⟩∧Chain k P b o l)
theorem Sl.le {T:Type} {k:Nat} {P:Nat→Nat→T→Prop} {a:Option Addr} {cap:Nat} {l:List T} (h:Sl k P a cap l):l.length≤140737488351232:=h.2.1
theorem Sl.get {T:Type} {k:Nat} {P:Nat→Nat→T→Prop} {a:Option Addr} {cap n:Nat} {l:List T} {t:T} (h:Sl k P a cap l) (hn:l[n]? = some t):∃ b o,a = some ⟨b,o,none⟩∧P b (o + n * k) t:=by
 obtain ⟨_,_,h3⟩:=h
 rcases h3 with rfl | ⟨b,o,ha,h3⟩
 ·simp at hn
 ·exact ⟨b,o,ha,h3.get hn⟩
theorem Sl.mono {T:Type} {k:Nat} {P Q:Nat→Nat→T→Prop} {a:Option Addr} {cap:Nat} {l:List T} (h:Sl k P a cap l) (hPQ:∀ b o t,P b o t→Q b o t):Sl k Q a cap l:=by
 obtain ⟨h1,h2,h3⟩:=h
 refine ⟨h1,h2,?_⟩
 rcases h3 with h3 | ⟨b,o,ha,h3⟩
 ·exact .inl h3
 ·exact .inr ⟨b,o,ha,h3.mono fun o t=>hPQ b o t⟩
def PA (w:World) (b o:Nat) (x:ByteArray × PL):Prop:=w.cell? ⟨b,o,none⟩ = some (.string x.1)∧x.1.size≤R∧∃ a cap,w.cell? ⟨b,o + 1,none⟩ = some (.slice a x.2.len cap)∧Lies w a cap x.2
def PW (w:World) (b o:Nat) (l:PL):Prop:=∃ a cap,w.cell? ⟨b,o,none⟩ = some (.slice a l.len cap)∧Lies w a cap l
def PB (w:World) (b o:Nat) (x:Bool):Prop:=w.cell? ⟨b,o,none⟩ = some (.bool x)
theorem cell_below {w w':World} (hb:Below w.heap.size w w') {b o:Nat} {v:Value} (h:w.cell? ⟨b,o,none⟩ = some v):w'.cell? ⟨b,o,none⟩ = some v:=(hb.cell (p:=⟨b,o,none⟩) (World.block_lt_of_cell? _ _ h)).trans h
theorem PA.below {w w':World} (hb:Below w.heap.size w w') {b o:Nat} {x:ByteArray × PL} (h:PA w b o x):PA w' b o x:=by
 obtain ⟨h1,h2,a,cap,h3,h4⟩:=h
 exact ⟨cell_below hb h1,h2,a,cap,cell_below hb h3,h4.below hb⟩
theorem PW.below {w w':World} (hb:Below w.heap.size w w') {b o:Nat} {x:PL} (h:PW w b o x):PW w' b o x:=by
 obtain ⟨a,cap,h3,h4⟩:=h
 exact ⟨a,cap,cell_below hb h3,h4.below hb⟩
theorem PB.below {w w':World} (hb:Below w.heap.size w w') {b o:Nat} {x:Bool} (h:PB w b o x):PB w' b o x:=cell_below hb h
inductive NL where
 | nil
 | node (k:Int) (nm:ByteArray) (g:Bool) (az:List (ByteArray × PL)) (ws:List PL) (kids:NL) (bs:List Bool) (cs:NL) (rest:NL)
 | cse (ps:List PL) (body:NL) (rest:NL)
namespace NL
def len:NL→Nat
 | nil=>0
 | node _ _ _ _ _ _ _ _ r=>r.len + 1
 | cse _ _ r=>r.len + 1
def size:NL→Nat
 | nil=>0
 | node _ _ _ _ _ ks _ cs r=>ks.size + cs.size + r.size + 1
 | cse _ b r=>b.size + r.size + 1
def drop:Nat→NL→NL
 | 0,l=>l
 | _ + 1,nil=>nil
 | n + 1,node _ _ _ _ _ _ _ _ r=>drop n r
 | n + 1,cse _ _ r=>drop n r
def okN:NL→Bool→Bool
 | nil,_=>true
 | node _ _ _ _ _ ks _ cs r,f=>f && okN ks true && okN cs false && okN r true
 | cse _ b r,f=>!f && okN b true && okN r false
theorem drop_len:∀ (n:Nat) (l:NL),(drop n l).len = l.len - n
 | 0,_=>rfl
 | n + 1,nil=>by simp [drop,len]
 | n + 1,node _ _ _ _ _ _ _ _ r=>by simp [drop,len,drop_len n r]
 | n + 1,cse _ _ r=>by simp [drop,len,drop_len n r]
theorem drop_size:∀ (n:Nat) (l:NL),(drop n l).size≤l.size
 | 0,_=>Nat.le_refl _
 | n + 1,nil=>Nat.le_refl _
 | n + 1,node _ _ _ _ _ _ _ _ r=>by have:=drop_size n r;simp only [drop,size];omega
 | n + 1,cse _ _ r=>by have:=drop_size n r;simp only [drop,size];omega
theorem drop_ok:∀ (n:Nat) (l:NL) (f:Bool),okN l f = true→okN (drop n l) f = true
 | 0,_,_,h=>h
 | n + 1,nil,_,h=>h
 | n + 1,node _ _ _ _ _ _ _ _ r,f,h=>by
  simp only [okN,Bool.and_eq_true] at h
  obtain ⟨⟨⟨rfl,_⟩,_⟩,h4⟩:=h
  exact drop_ok n r true h4
 | n + 1,cse _ _ r,f,h=>by
  simp only [okN,Bool.and_eq_true,Bool.not_eq_true'] at h
  obtain ⟨⟨rfl,_⟩,h4⟩:=h
  exact drop_ok n r false h4
theorem drop_node:∀ {n:Nat} {l:NL},n < l.len→okN l true = true→∃ k nm g az ws ks bs cs r,drop n l = node k nm g az ws ks bs cs r
 | 0,node k nm g az ws ks bs cs r,_,_=>⟨k,nm,g,az,ws,ks,bs,cs,r,rfl⟩
 | 0,cse _ _ _,_,h=>by simp [okN] at h
 | n + 1,node _ _ _ _ _ _ _ _ r,h,hk=>by
  simp only [len] at h
  simp only [okN,Bool.and_eq_true] at hk
  exact drop_node (n:=n) (l:=r) (by omega) hk.2
 | n + 1,cse _ _ _,_,h=>by simp [okN] at h
theorem drop_case:∀ {n:Nat} {l:NL},n < l.len→okN l false = true→∃ ps b r,drop n l = cse ps b r
 | 0,cse ps b r,_,_=>⟨ps,b,r,rfl⟩
 | 0,node _ _ _ _ _ _ _ _ _,_,h=>by simp [okN] at h
 | n + 1,cse _ _ r,h,hk=>by
  simp only [len] at h
  simp only [okN,Bool.and_eq_true] at hk
  exact drop_case (n:=n) (l:=r) (by omega) hk.2
 | n + 1,node _ _ _ _ _ _ _ _ _,_,h=>by simp [okN] at h
theorem drop_end {n:Nat} {l:NL} (h:l.len≤n):drop n l = nil:=by
 have:=drop_len n l
 cases hd:drop n l with
 | nil=>rfl
 | node=>rw [hd] at this;simp only [len] at this;omega
 | cse=>rw [hd] at this;simp only [len] at this;omega
theorem drop_succN:∀ {n:Nat} {l r ks cs:NL} {k:Int} {nm:ByteArray} {g:Bool} {az:List (ByteArray × PL)} {ws:List PL} {bs:List Bool},drop n l = node k nm g az ws ks bs cs r→drop (n + 1) l = r
 | 0,_,_,_,_,_,_,_,_,_,_,h=>by simp only [drop] at h;subst h;rfl
 | n + 1,nil,_,_,_,_,_,_,_,_,_,h=>by simp [drop] at h
 | n + 1,node _ _ _ _ _ _ _ _ _,_,_,_,_,_,_,_,_,_,h=>by simp only [drop] at h ⊢;exact drop_succN h
 | n + 1,cse _ _ _,_,_,_,_,_,_,_,_,_,h=>by simp only [drop] at h ⊢;exact drop_succN h
theorem drop_succC:∀ {n:Nat} {l r b:NL} {ps:List PL},drop n l = cse ps b r→drop (n + 1) l = r
 | 0,_,_,_,_,h=>by simp only [drop] at h;subst h;rfl
 | n + 1,nil,_,_,_,h=>by simp [drop] at h
 | n + 1,node _ _ _ _ _ _ _ _ _,_,_,_,h=>by simp only [drop] at h ⊢;exact drop_succC h
 | n + 1,cse _ _ _,_,_,_,h=>by simp only [drop] at h ⊢;exact drop_succC h
end NL
def NAt (w:World):NL→Nat→Nat→Prop
 | .nil,_,_=>True
 | .node k nm g az ws ks bs cs r,b,o =>
  (w.cell? ⟨b,o,none⟩ = some (.int .i64 k)∧w.cell? ⟨b,o + 1,none⟩ = some (.string nm)∧w.cell? ⟨b,o + 2,none⟩ = some (.bool g)∧nm.size≤R) ∧
  (∃ a cap,w.cell? ⟨b,o + 3,none⟩ = some (.slice a az.length cap)∧Sl 2 (PA w) a cap az) ∧
  (∃ a cap,w.cell? ⟨b,o + 4,none⟩ = some (.slice a ws.length cap)∧Sl 1 (PW w) a cap ws) ∧
  (∃ a cap,w.cell? ⟨b,o + 5,none⟩ = some (.slice a ks.len cap)∧ks.len≤cap∧ks.len≤R∧(ks = .nil∨∃ b' o',a = some ⟨b',o',none⟩∧NAt w ks b' o')) ∧
  (∃ a cap,w.cell? ⟨b,o + 6,none⟩ = some (.slice a bs.length cap)∧Sl 1 (PB w) a cap bs) ∧
  (∃ a cap,w.cell? ⟨b,o + 7,none⟩ = some (.slice a cs.len cap)∧cs.len≤cap∧cs.len≤R∧(cs = .nil∨∃ b' o',a = some ⟨b',o',none⟩∧NAt w cs b' o'))∧NAt w r b (o + 8)
 | .cse ps bd r,b,o =>
  (∃ a cap,w.cell? ⟨b,o,none⟩ = some (.slice a ps.length cap)∧Sl 1 (PW w) a cap ps) ∧
  (∃ a cap,w.cell? ⟨b,o + 1,none⟩ = some (.slice a bd.len cap)∧bd.len≤cap∧bd.len≤R∧(bd = .nil∨∃ b' o',a = some ⟨b',o',none⟩∧NAt w bd b' o'))∧NAt w r b (o + 2)
def NLies (w:World) (a:Option Addr) (cap:Nat) (l:NL):Prop:=l.len≤cap∧l.len≤R∧(l = .nil∨∃ b o,a = some ⟨b,o,none⟩∧NAt w l b o)
theorem NLies.le {w:World} {a:Option Addr} {cap:Nat} {l:NL} (h:NLies w a cap l):l.len≤140737488351232:=h.2.1
theorem NAt.below {w w':World} (hb:Below w.heap.size w w'):∀ {l:NL} {b o:Nat},NAt w l b o→NAt w' l b o:=by
 intro l
 induction l with
 | nil=>exact fun _=>trivial
 | node k nm g az ws ks bs cs r ihk ihc ihr =>
  rintro b o ⟨⟨h0,h1,h2,h3⟩,⟨a1,c1,e1,s1⟩,⟨a2,c2,e2,s2⟩,⟨a3,c3,e3,l3,m3,s3⟩,⟨a4,c4,e4,s4⟩,⟨a5,c5,e5,l5,m5,s5⟩,hr⟩
  refine ⟨⟨cell_below hb h0,cell_below hb h1,cell_below hb h2,h3⟩,⟨a1,c1,cell_below hb e1,s1.mono fun _ _ _ h=>h.below hb⟩,⟨a2,c2,cell_below hb e2,s2.mono fun _ _ _ h=>h.below hb⟩,⟨a3,c3,cell_below hb e3,l3,m3,?_⟩,⟨a4,c4,cell_below hb e4,s4.mono fun _ _ _ h=>h.below hb⟩,⟨a5,c5,cell_below hb e5,l5,m5,?_⟩,ihr hr⟩
  ·exact s3.imp id fun ⟨b',o',ha,h⟩=>⟨b',o',ha,ihk h⟩
  ·exact s5.imp id fun ⟨b',o',ha,h⟩=>⟨b',o',ha,ihc h⟩
 | cse ps bd r ihb ihr =>
  rintro b o ⟨⟨a2,c2,e2,s2⟩,⟨a3,c3,e3,l3,m3,s3⟩,hr⟩
  exact ⟨⟨a2,c2,cell_below hb e2,s2.mono fun _ _ _ h=>h.below hb⟩,⟨a3,c3,cell_below hb e3,l3,m3,s3.imp id fun ⟨b',o',ha,h⟩=>⟨b',o',ha,ihb h⟩⟩,ihr hr⟩
theorem NLies.below {w w':World} {a:Option Addr} {cap:Nat} {l:NL} (h:NLies w a cap l) (hb:Below w.heap.size w w'):NLies w' a cap l :=
 ⟨h.1,h.2.1,h.2.2.imp id fun ⟨b,o,ha,h⟩=>⟨b,o,ha,h.below hb⟩⟩
theorem NAt.dropN {w:World} {b:Nat}:∀ {n:Nat} {l:NL} {o:Nat},NL.okN l true = true→NAt w l b o→NAt w (l.drop n) b (o + n * 8)
 | 0,_,o,_,h=>by simpa [NL.drop] using h
 | n + 1,.nil,_,_,_=>trivial
 | n + 1,.node _ _ _ _ _ _ _ _ r,o,hk,h=>by
  simp only [NL.okN,Bool.and_eq_true] at hk
  have:=NAt.dropN (n:=n) hk.2 h.2.2.2.2.2.2
  simp only [NL.drop]
  rwa [show o + (n + 1) * 8 = o + 8 + n * 8 by omega]
 | n + 1,.cse _ _ _,_,hk,_=>by simp [NL.okN] at hk
theorem NAt.dropC {w:World} {b:Nat}:∀ {n:Nat} {l:NL} {o:Nat},NL.okN l false = true→NAt w l b o→NAt w (l.drop n) b (o + n * 2)
 | 0,_,o,_,h=>by simpa [NL.drop] using h
 | n + 1,.nil,_,_,_=>trivial
 | n + 1,.cse _ _ r,o,hk,h=>by
  simp only [NL.okN,Bool.and_eq_true] at hk
  have:=NAt.dropC (n:=n) hk.2 h.2.2
  simp only [NL.drop]
  rwa [show o + (n + 1) * 2 = o + 2 + n * 2 by omega]
 | n + 1,.node _ _ _ _ _ _ _ _ _,_,hk,_=>by simp [NL.okN] at hk
def nodeV (k:Int) (nm:ByteArray) (g:Bool) (a1:Option Addr) (n1 c1:Nat) (a2:Option Addr) (n2 c2:Nat) (a3:Option Addr) (n3 c3:Nat) (a4:Option Addr) (n4 c4:Nat) (a5:Option Addr) (n5 c5:Nat):Array Value :=
 #[.int .i64 k,.string nm,.bool g,.slice a1 n1 c1,.slice a2 n2 c2,.slice a3 n3 c3,.slice a4 n4 c4,.slice a5 n5 c5]
structure Holds (w:World) (nm:ByteArray) (az:List (ByteArray × PL)) (ws:List PL) (ks:NL) (bs:List Bool) (cs:NL) (a1:Option Addr) (c1:Nat) (a2:Option Addr) (c2:Nat) (a3:Option Addr) (c3:Nat) (a4:Option Addr) (c4:Nat) (a5:Option Addr) (c5:Nat):Prop where
 hnm:nm.size≤R
 haz:Sl 2 (PA w) a1 c1 az
 hws:Sl 1 (PW w) a2 c2 ws
 hks:NLies w a3 c3 ks
 hbs:Sl 1 (PB w) a4 c4 bs
 hcs:NLies w a5 c5 cs
 okk:NL.okN ks true = true
 okc:NL.okN cs false = true
theorem Holds.below {w w':World} {nm:ByteArray} {az:List (ByteArray × PL)} {ws:List PL} {ks cs:NL} {bs:List Bool} {a1 a2 a3 a4 a5:Option Addr} {c1 c2 c3 c4 c5:Nat} (h:Holds w nm az ws ks bs cs a1 c1 a2 c2 a3 c3 a4 c4 a5 c5) (hb:Below w.heap.size w w'):Holds w' nm az ws ks bs cs a1 c1 a2 c2 a3 c3 a4 c4 a5 c5 :=
 ⟨h.hnm,h.haz.mono fun _ _ _ h=>h.below hb,h.hws.mono fun _ _ _ h=>h.below hb,h.hks.below hb,h.hbs.mono fun _ _ _ h=>h.below hb,h.hcs.below hb,h.okk,h.okc⟩
theorem NLies.getN {w:World} {a:Option Addr} {cap i:Nat} {l ks cs r:NL} {k:Int} {nm:ByteArray} {g:Bool} {az:List (ByteArray × PL)} {ws:List PL} {bs:List Bool} (h:NLies w a cap l) (hk:NL.okN l true = true) (hd:l.drop i = .node k nm g az ws ks bs cs r) :
  ∃ b o,a = some ⟨b,o,none⟩∧b < w.heap.size∧∃ a1 c1 a2 c2 a3 c3 a4 c4 a5 c5,(∀ j v,(nodeV k nm g a1 az.length c1 a2 ws.length c2 a3 ks.len c3 a4 bs.length c4 a5 cs.len c5)[j]? = some v→w.cell? ⟨b,o + i * 8 + j,none⟩ = some v)∧Holds w nm az ws ks bs cs a1 c1 a2 c2 a3 c3 a4 c4 a5 c5:=by
 obtain ⟨_,_,h3⟩:=h
 rcases h3 with rfl | ⟨b,o,ha,h3⟩
 ·cases i <;> simp [NL.drop] at hd
 ·have hok:=NL.drop_ok i l true hk
  have:=NAt.dropN (n:=i) hk h3
  rw [hd] at this hok
  simp only [NL.okN,Bool.and_eq_true] at hok
  obtain ⟨⟨h0,h1,h2,h3⟩,⟨a1,c1,e1,s1⟩,⟨a2,c2,e2,s2⟩,⟨a3,c3,e3,s3⟩,⟨a4,c4,e4,s4⟩,⟨a5,c5,e5,s5⟩,_⟩:=this
  refine ⟨b,o,ha,World.block_lt_of_cell? _ _ h0,a1,c1,a2,c2,a3,c3,a4,c4,a5,c5,fun j v hv=>?_,h3,s1,s2,s3,s4,s5,hok.1.1.2,hok.1.2⟩
  match j,hv with
  | 0,hv=>cases hv;exact h0
  | 1,hv=>cases hv;exact h1
  | 2,hv=>cases hv;exact h2
  | 3,hv=>cases hv;exact e1
  | 4,hv=>cases hv;exact e2
  | 5,hv=>cases hv;exact e3
  | 6,hv=>cases hv;exact e4
  | 7,hv=>cases hv;exact e5
  | j + 8,hv=>simp [nodeV] at hv
theorem NLies.getC {w:World} {a:Option Addr} {cap i:Nat} {l bd r:NL} {ps:List PL} (h:NLies w a cap l) (hk:NL.okN l false = true) (hd:l.drop i = .cse ps bd r) :
  ∃ b o,a = some ⟨b,o,none⟩∧b < w.heap.size∧∃ a1 c1 a2 c2,w.cell? ⟨b,o + i * 2,none⟩ = some (.slice a1 ps.length c1)∧w.cell? ⟨b,o + i * 2 + 1,none⟩ = some (.slice a2 bd.len c2)∧Sl 1 (PW w) a1 c1 ps∧NLies w a2 c2 bd∧NL.okN bd true = true:=by
 obtain ⟨_,_,h3⟩:=h
 rcases h3 with rfl | ⟨b,o,ha,h3⟩
 ·cases i <;> simp [NL.drop] at hd
 ·have hok:=NL.drop_ok i l false hk
  have:=NAt.dropC (n:=i) hk h3
  rw [hd] at this hok
  simp only [NL.okN,Bool.and_eq_true] at hok
  obtain ⟨⟨a1,c1,e1,s1⟩,⟨a2,c2,e2,s2⟩,_⟩:=this
  exact ⟨b,o,ha,World.block_lt_of_cell? _ _ e1,a1,c1,a2,c2,e1,e2,s1,s2,hok.1.2⟩
end Tr
end Go.Proofs.YtoafdgfofgkenaaGreat
namespace Go.Proofs.YtoafdgfofgkenaaGreat
open Go.RowKit Go.WideShapes Go.ChangeShapes
namespace Tr
open Pt
section
variable {H:Type} {enc:TypeId × Value→H} {w:World} {base:Nat} {held:Bool}
end
end Tr
end Go.Proofs.YtoafdgfofgkenaaGreat
