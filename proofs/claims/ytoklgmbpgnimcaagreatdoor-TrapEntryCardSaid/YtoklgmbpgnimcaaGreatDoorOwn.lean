/- Parts in a slice that the call itself has built: a row's cells as parts. -/
import Derived.Test.YtoklgmbpgnimcaaGreatDoorPtB
import Derived.Laws.OwnMore
namespace Go.Proofs.YtoklgmbpgnimcaaGreatDoor
open Go.RowKit Go.Sort
namespace Pt
open Cls
namespace PL
def app:PL→PL→PL
 | nil,m=>m
 | cons k q t o f r,m=>cons k q t o f (app r m)
theorem app_len:∀ (l m:PL),(app l m).len = l.len + m.len
 | nil,m=>by simp [app,len]
 | cons _ _ _ _ _ r,m=>by simp only [app,len,app_len r m];omega
end PL
def CellsP (w:World):PL→List Value→Prop
 | .nil,xs=>xs = []
 | .cons k q t o f r,xs=>∃ a cap ys,xs = .int .i64 k :: .bool q :: .string t :: .string o :: .slice a f.len cap :: ys∧t.size≤R∧o.size≤R∧Lies w a cap f∧CellsP w r ys
theorem CellsP.len {w:World}:∀ {l:PL} {xs:List Value},CellsP w l xs→xs.length = l.len * 5
 | .nil,xs,h=>by cases h;rfl
 | .cons _ _ _ _ _ r,xs,⟨a,cap,ys,hx,_,_,_,h⟩=>by
  have:=CellsP.len h
  subst hx
  simp only [List.length_cons,PL.len,this];omega
theorem CellsP.below {w w':World} (hb:Below w.heap.size w w'):∀ {l:PL} {xs:List Value},CellsP w l xs→CellsP w' l xs
 | .nil,_,h=>h
 | .cons _ _ _ _ _ r,_,⟨a,cap,ys,hx,h1,h2,h3,h⟩=>⟨a,cap,ys,hx,h1,h2,h3.below hb,CellsP.below hb h⟩
theorem CellsP.app {w:World}:∀ {l m:PL} {xs ys:List Value},CellsP w l xs→CellsP w m ys→CellsP w (l.app m) (xs ++ ys)
 | .nil,m,xs,ys,h,k=>by cases h;exact k
 | .cons _ _ _ _ _ r,m,xs,ys,⟨a,cap,zs,hx,h1,h2,h3,h⟩,k=>⟨a,cap,zs ++ ys,by subst hx;rfl,h1,h2,h3,CellsP.app h k⟩
theorem CellsP.one {w:World}:∀ {l:PL} {xs:List Value},CellsP w l xs→∀ u ∈ xs,u.oneCell' = true
 | .nil,_,h,u,hu=>by cases h;cases hu
 | .cons _ _ _ _ _ r,_,⟨a,cap,ys,hx,_,_,_,h⟩,u,hu=>by
  subst hx
  simp only [List.mem_cons] at hu
  rcases hu with rfl | rfl | rfl | rfl | rfl | hu
  ·rfl
  ·rfl
  ·rfl
  ·rfl
  ·rfl
  ·exact CellsP.one h u hu
theorem CellsP.at {w:World} {b:Nat}:∀ {l:PL} {xs:List Value} {o:Nat},CellsP w l xs→(∀ j u,xs[j]? = some u→w.cell? ⟨b,o + j,none⟩ = some u)→At w b o l
 | .nil,_,_,_,_=>trivial
 | .cons k q t p f r,_,o,⟨a,cap,ys,hx,h1,h2,h3,h⟩,hc=>by
  subst hx
  refine ⟨⟨hc 0 _ rfl,hc 1 _ rfl,hc 2 _ rfl,hc 3 _ rfl,h1,h2⟩,⟨a,cap,hc 4 _ rfl,h3.1,h3.2.1,h3.2.2⟩,CellsP.at h fun j u hu=>?_⟩
  have:=hc (j + 5) u (by simpa using hu)
  rwa [show o + (j + 5) = o + 5 + j by omega] at this
theorem lies_own {w:World} {base:Nat} {v:Value} {l:PL} {xs:List Value} (h:w.ownsRow base 125 5 v l.len xs) (hc:CellsP w l xs) (hR:l.len≤R):∃ a cap,v = .slice a l.len cap∧Lies w a cap l:=by
 rcases h.2 with ⟨rfl,hn⟩ | ⟨g,cap,cur,rfl,hb,hg,hcap,_⟩
 ·have:l = .nil:=by
   cases l with
   | nil=>rfl
   | cons=>simp [PL.len] at hn
  subst this
  exact ⟨none,0,rfl,Nat.le_refl _,Nat.zero_le _,.inl rfl⟩
 ·refine ⟨_,cap,rfl,hcap,hR,.inr ⟨g,0,rfl,hc.at fun j u hu=>?_⟩⟩
  have:=h.cells (g:=g) rfl j u hu
  rwa [Go.WideShapes.add_plain] at this
end Pt
end Go.Proofs.YtoklgmbpgnimcaaGreatDoor
