/- Nodes, as they lie in memory: a plain datum; an argument that is a node. -/
/- An argument that is a node: its reading is nodes in memory. -/
import Derived.Test.YtoklgmbpgnimcaaGreatDoorWl
namespace Go.Proofs.YtoklgmbpgnimcaaGreatDoor
open Go.RowKit Go.WideShapes Go.ChangeShapes
namespace Tr
open Pt
def Chain {T:Type} (k:Nat) (P:Nat→Nat→T→Prop) (b:Nat):Nat→List T→Prop
 | _,[]=>True
 | o,t :: r=>P b o t∧Chain k P b (o + k) r
theorem Chain.get {T:Type} {k:Nat} {P:Nat→Nat→T→Prop} {b:Nat}:∀ {l:List T} {o n:Nat} {t:T},Chain k P b o l→l[n]? = some t→P b (o + n * k) t
 | [],_,_,_,_,h=>by simp at h
 | _ :: _,o,0,_,h,hn=>by
  simp only [List.getElem?_cons_zero,Option.some.injEq] at hn
  subst hn
  simpa using h.1
 | _ :: r,o,n + 1,t,h,hn=>by
  have:=Chain.get (n:=n) h.2 (by simpa using hn)
  rwa [show o + k + n * k = o + (n + 1) * k by rw [Nat.succ_mul];omega] at this
theorem Chain.mono {T:Type} {k:Nat} {P Q:Nat→Nat→T→Prop} {b:Nat} (hPQ:∀ o t,P b o t→Q b o t):∀ {l:List T} {o:Nat},Chain k P b o l→Chain k Q b o l
 | [],_,_=>trivial
 | _ :: _,_,h=>⟨hPQ _ _ h.1,Chain.mono hPQ h.2⟩
def Sl {T:Type} (k:Nat) (P:Nat→Nat→T→Prop) (a:Option Addr) (cap:Nat) (l:List T):Prop :=
 l.length≤cap∧l.length≤R∧(l = []∨∃ b o,a = some ⟨b,o,none⟩∧Chain k P b o l)
theorem Sl.le {T:Type} {k:Nat} {P:Nat→Nat→T→Prop} {a:Option Addr} {cap:Nat} {l:List T} (h:Sl k P a cap l):l.length≤140737488351232:=h.2.1
theorem Sl.get {T:Type} {k:Nat} {P:Nat→Nat→T→Prop} {a:Option Addr} {cap n:Nat} {l:List T} {t:T} (h:Sl k P a cap l) (hn:l[n]? = some t):∃ b o,a = some ⟨b,o,none⟩∧P b (o + n * k) t:=by
 obtain ⟨_,_,h3⟩:=h
 rcases h3 with rfl | ⟨b,o,ha,h3⟩
 ·simp at hn
 ·exact ⟨b,o,ha,h3.get hn⟩
theorem Sl.mono {T:Type} {k:Nat} {P Q:Nat→Nat→T→Prop} {a:Option Addr} {cap:Nat} {l:List T} (h:Sl k P a cap l) (hPQ:∀ b o t,P b o t→Q b o t):Sl k Q a cap l:=by
 obtain ⟨h1,h2,h3⟩:=h
 refine ⟨h1,h2,?_⟩
 rcases h3 with h3 | ⟨b,o,ha,h3⟩
 ·exact .inl h3
 ·exact .inr ⟨b,o,ha,h3.mono fun o t=>hPQ b o t⟩
def PA (w:World) (b o:Nat) (x:ByteArray × PL):Prop:=w.cell? ⟨b,o,none⟩ = some (.string x.1)∧x.1.size≤R∧∃ a cap,w.cell? ⟨b,o + 1,none⟩ = some (.slice a x.2.len cap)∧Lies w a cap x.2
def PW (w:World) (b o:Nat) (l:PL):Prop:=∃ a cap,w.cell? ⟨b,o,none⟩ = some (.slice a l.len cap)∧Lies w a cap l
def PB (w:World) (b o:Nat) (x:Bool):Prop:=w.cell? ⟨b,o,none⟩ = some (.bool x)
theorem cell_below {w w':World} (hb:Below w.heap.size w w') {b o:Nat} {v:Value} (h:w.cell? ⟨b,o,none⟩ = some v):w'.cell? ⟨b,o,none⟩ = some v:=(hb.cell (p:=⟨b,o,none⟩) (World.block_lt_of_cell? _ _ h)).trans h
theorem PA.below {w w':World} (hb:Below w.heap.size w w') {b o:Nat} {x:ByteArray × PL} (h:PA w b o x):PA w' b o x:=by
 obtain ⟨h1,h2,a,cap,h3,h4⟩:=h
 exact ⟨cell_below hb h1,h2,a,cap,cell_below hb h3,h4.below hb⟩
theorem PW.below {w w':World} (hb:Below w.heap.size w w') {b o:Nat} {x:PL} (h:PW w b o x):PW w' b o x:=by
 obtain ⟨a,cap,h3,h4⟩:=h
 exact ⟨a,cap,cell_below hb h3,h4.below hb⟩
theorem PB.below {w w':World} (hb:Below w.heap.size w w') {b o:Nat} {x:Bool} (h:PB w b o x):PB w' b o x:=cell_below hb h
inductive NL where
 | nil
 | node (k:Int) (nm:ByteArray) (g:Bool) (az:List (ByteArray × PL)) (ws:List PL) (kids:NL) (bs:List Bool) (cs:NL) (rest:NL)
 | cse (ps:List PL) (body:NL) (rest:NL)
namespace NL
def len:NL→Nat
 | nil=>0
 | node _ _ _ _ _ _ _ _ r=>r.len + 1
 | cse _ _ r=>r.len + 1
def size:NL→Nat
 | nil=>0
 | node _ _ _ _ _ ks _ cs r=>ks.size + cs.size + r.size + 1
 | cse _ b r=>b.size + r.size + 1
def drop:Nat→NL→NL
 | 0,l=>l
 | _ + 1,nil=>nil
 | n + 1,node _ _ _ _ _ _ _ _ r=>drop n r
 | n + 1,cse _ _ r=>drop n r
def okN:NL→Bool→Bool
 | nil,_=>true
 | node _ _ _ _ _ ks _ cs r,f=>f && okN ks true && okN cs false && okN r true
 | cse _ b r,f=>!f && okN b true && okN r false
end NL
def NAt (w:World):NL→Nat→Nat→Prop
 | .nil,_,_=>True
 | .node k nm g az ws ks bs cs r,b,o =>
  (w.cell? ⟨b,o,none⟩ = some (.int .i64 k)∧w.cell? ⟨b,o + 1,none⟩ = some (.string nm)∧w.cell? ⟨b,o + 2,none⟩ = some (.bool g)∧nm.size≤R) ∧
  (∃ a cap,w.cell? ⟨b,o + 3,none⟩ = some (.slice a az.length cap)∧Sl 2 (PA w) a cap az) ∧
  (∃ a cap,w.cell? ⟨b,o + 4,none⟩ = some (.slice a ws.length cap)∧Sl 1 (PW w) a cap ws) ∧
  (∃ a cap,w.cell? ⟨b,o + 5,none⟩ = some (.slice a ks.len cap)∧ks.len≤cap∧ks.len≤R∧(ks = .nil∨∃ b' o',a = some ⟨b',o',none⟩∧NAt w ks b' o')) ∧
  (∃ a cap,w.cell? ⟨b,o + 6,none⟩ = some (.slice a bs.length cap)∧Sl 1 (PB w) a cap bs) ∧
  (∃ a cap,w.cell? ⟨b,o + 7,none⟩ = some (.slice a cs.len cap)∧cs.len≤cap∧cs.len≤R∧(cs = .nil∨∃ b' o',a = some ⟨b',o',none⟩∧NAt w cs b' o'))∧NAt w r b (o + 8)
 | .cse ps bd r,b,o =>
  (∃ a cap,w.cell? ⟨b,o,none⟩ = some (.slice a ps.length cap)∧Sl 1 (PW w) a cap ps) ∧
  (∃ a cap,w.cell? ⟨b,o + 1,none⟩ = some (.slice a bd.len cap)∧bd.len≤cap∧bd.len≤R∧(bd = .nil∨∃ b' o',a = some ⟨b',o',none⟩∧NAt w bd b' o'))∧NAt w r b (o + 2)
def NLies (w:World) (a:Option Addr) (cap:Nat) (l:NL):Prop:=l.len≤cap∧l.len≤R∧(l = .nil∨∃ b o,a = some ⟨b,o,none⟩∧NAt w l b o)
theorem NLies.le {w:World} {a:Option Addr} {cap:Nat} {l:NL} (h:NLies w a cap l):l.len≤140737488351232:=h.2.1
theorem NAt.below {w w':World} (hb:Below w.heap.size w w'):∀ {l:NL} {b o:Nat},NAt w l b o→NAt w' l b o:=by
 intro l
 induction l with
 | nil=>exact fun _=>trivial
 | node k nm g az ws ks bs cs r ihk ihc ihr =>
  rintro b o ⟨⟨h0,h1,h2,h3⟩,⟨a1,c1,e1,s1⟩,⟨a2,c2,e2,s2⟩,⟨a3,c3,e3,l3,m3,s3⟩,⟨a4,c4,e4,s4⟩,⟨a5,c5,e5,l5,m5,s5⟩,hr⟩
  refine ⟨⟨cell_below hb h0,cell_below hb h1,cell_below hb h2,h3⟩,⟨a1,c1,cell_below hb e1,s1.mono fun _ _ _ h=>h.below hb⟩,⟨a2,c2,cell_below hb e2,s2.mono fun _ _ _ h=>h.below hb⟩,⟨a3,c3,cell_below hb e3,l3,m3,?_⟩,⟨a4,c4,cell_below hb e4,s4.mono fun _ _ _ h=>h.below hb⟩,⟨a5,c5,cell_below hb e5,l5,m5,?_⟩,ihr hr⟩
  ·exact s3.imp id fun ⟨b',o',ha,h⟩=>⟨b',o',ha,ihk h⟩
  ·exact s5.imp id fun ⟨b',o',ha,h⟩=>⟨b',o',ha,ihc h⟩
 | cse ps bd r ihb ihr =>
  rintro b o ⟨⟨a2,c2,e2,s2⟩,⟨a3,c3,e3,l3,m3,s3⟩,hr⟩
  exact ⟨⟨a2,c2,cell_below hb e2,s2.mono fun _ _ _ h=>h.below hb⟩,⟨a3,c3,cell_below hb e3,l3,m3,s3.imp id fun ⟨b',o',ha,h⟩=>⟨b',o',ha,ihb h⟩⟩,ihr hr⟩
theorem NLies.below {w w':World} {a:Option Addr} {cap:Nat} {l:NL} (h:NLies w a cap l) (hb:Below w.heap.size w w'):NLies w' a cap l :=
 ⟨h.1,h.2.1,h.2.2.imp id fun ⟨b,o,ha,h⟩=>⟨b,o,ha,h.below hb⟩⟩
structure Holds (w:World) (nm:ByteArray) (az:List (ByteArray × PL)) (ws:List PL) (ks:NL) (bs:List Bool) (cs:NL) (a1:Option Addr) (c1:Nat) (a2:Option Addr) (c2:Nat) (a3:Option Addr) (c3:Nat) (a4:Option Addr) (c4:Nat) (a5:Option Addr) (c5:Nat):Prop where
 hnm:nm.size≤R
 haz:Sl 2 (PA w) a1 c1 az
 hws:Sl 1 (PW w) a2 c2 ws
 hks:NLies w a3 c3 ks
 hbs:Sl 1 (PB w) a4 c4 bs
 hcs:NLies w a5 c5 cs
 okk:NL.okN ks true = true
 okc:NL.okN cs false = true
theorem Holds.below {w w':World} {nm:ByteArray} {az:List (ByteArray × PL)} {ws:List PL} {ks cs:NL} {bs:List Bool} {a1 a2 a3 a4 a5:Option Addr} {c1 c2 c3 c4 c5:Nat} (h:Holds w nm az ws ks bs cs a1 c1 a2 c2 a3 c3 a4 c4 a5 c5) (hb:Below w.heap.size w w'):Holds w' nm az ws ks bs cs a1 c1 a2 c2 a3 c3 a4 c4 a5 c5 :=
 ⟨h.hnm,h.haz.mono fun _ _ _ h=>h.below hb,h.hws.mono fun _ _ _ h=>h.below hb,h.hks.below hb,h.hbs.mono fun _ _ _ h=>h.below hb,h.hcs.below hb,h.okk,h.okc⟩
end Tr
end Go.Proofs.YtoklgmbpgnimcaaGreatDoor
namespace Go.Proofs.YtoklgmbpgnimcaaGreatDoor
open Go.RowKit Go.WideShapes Go.ChangeShapes
namespace Tr
open Pt
section
variable {H:Type} {enc:TypeId × Value→H} {w:World} {base:Nat} {held:Bool}
end
end Tr
end Go.Proofs.YtoklgmbpgnimcaaGreatDoor
