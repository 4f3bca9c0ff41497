/- Words, one behind the other, as they lie in memory; an argument that is such. -/
import Derived.Test.YtoklgmbpgnimcaaGreatDoorPtA
import Derived.Test.YtoklgmbpgnimcaaGreatDoorLaw
namespace Go.Proofs.YtoklgmbpgnimcaaGreatDoor
open Go.RowKit Go.WideShapes Go.ChangeShapes
namespace Pt
def WAt (w:World) (b:Nat):Nat→List PL→Prop
 | _,[]=>True
 | o,l :: r=>(∃ a cap,w.cell? ⟨b,o,none⟩ = some (.slice a l.len cap)∧Lies w a cap l)∧WAt w b (o + 1) r
def WLies (w:World) (a:Option Addr) (cap:Nat) (ws:List PL):Prop :=
 ws.length≤cap∧ws.length≤R∧(ws = []∨∃ b o,a = some ⟨b,o,none⟩∧WAt w b o ws)
theorem WLies.le {w:World} {a:Option Addr} {cap:Nat} {ws:List PL} (h:WLies w a cap ws):ws.length≤140737488351232:=h.2.1
theorem WAt.below {w w':World} (hb:Below w.heap.size w w'):∀ {ws:List PL} {b o:Nat},WAt w b o ws→WAt w' b o ws
 | [],_,_,_=>trivial
 | _ :: _,b,o,⟨⟨a,cap,h,hl⟩,hr⟩=>⟨⟨a,cap,(hb.cell (p:=⟨b,o,none⟩) (World.block_lt_of_cell? _ _ h)).trans h,hl.below hb⟩,WAt.below hb hr⟩
theorem WLies.below {w w':World} {a:Option Addr} {cap:Nat} {ws:List PL} (h:WLies w a cap ws) (hb:Below w.heap.size w w'):WLies w' a cap ws:=by
 obtain ⟨h1,h2,h3⟩:=h
 refine ⟨h1,h2,?_⟩
 rcases h3 with h3 | ⟨b,o,ha,h3⟩
 ·exact .inl h3
 ·exact .inr ⟨b,o,ha,WAt.below hb h3⟩
theorem WAt.get {w:World} {b:Nat}:∀ {ws:List PL} {o n:Nat} {l:PL},WAt w b o ws→ws[n]? = some l→∃ a cap,w.cell? ⟨b,o + n,none⟩ = some (.slice a l.len cap)∧Lies w a cap l
 | [],_,_,_,_,h=>by simp at h
 | _ :: _,o,0,_,h,hn=>by
  simp only [List.getElem?_cons_zero,Option.some.injEq] at hn
  subst hn
  exact h.1
 | _ :: r,o,n + 1,l,h,hn=>by
  have:=WAt.get (n:=n) h.2 (by simpa using hn)
  rwa [show o + 1 + n = o + (n + 1) by omega] at this
theorem WLies.get {w:World} {a:Option Addr} {cap n:Nat} {ws:List PL} {l:PL} (h:WLies w a cap ws) (hn:ws[n]? = some l) :
  ∃ b o,a = some ⟨b,o,none⟩∧b < w.heap.size∧∃ a' cap',w.cell? ⟨b,o + n,none⟩ = some (.slice a' l.len cap')∧Lies w a' cap' l:=by
 obtain ⟨_,_,h3⟩:=h
 rcases h3 with rfl | ⟨b,o,ha,h3⟩
 ·simp at hn
 ·obtain ⟨a',cap',hc,hl⟩:=h3.get hn
  exact ⟨b,o,ha,World.block_lt_of_cell? _ _ hc,a',cap',hc,hl⟩
section
variable {H:Type} {enc:TypeId × Value→H} {w:World} {base:Nat} {held:Bool}
end
end Pt
namespace Law
section
variable {H:Type} {enc:TypeId × Value→H}
end
end Law
end Go.Proofs.YtoklgmbpgnimcaaGreatDoor
