/- All nodes in a node, in a slice of their own (the reference's Within). -/
import Derived.Test.YtbcldfaphnnmlaaTrQp
import Derived.Laws.OwnMore
namespace Go.Proofs.Ytbcldfaphnnmlaa
open Go.RowKit Go.Sort
namespace Tr
open Cls Pt
namespace NL
def app:NL→NL→NL
 | nil,m=>m
 | node k nm g az ws ks bs cz r,m=>node k nm g az ws ks bs cz (app r m)
 | cse ps b r,m=>cse ps b (app r m)
theorem app_len:∀ l m:NL,(app l m).len = l.len + m.len
 | nil,m=>by simp [app,len]
 | node _ _ _ _ _ _ _ _ r,m=>by simp only [app,len,app_len r m];omega
 | cse _ _ r,m=>by simp only [app,len,app_len r m];omega
theorem app_nil:∀ l:NL,app l nil = l
 | nil=>rfl
 | node _ _ _ _ _ _ _ _ r=>by simp only [app,app_nil r]
 | cse _ _ r=>by simp only [app,app_nil r]
theorem app_assoc:∀ l m n:NL,app (app l m) n = app l (app m n)
 | nil,_,_=>rfl
 | node _ _ _ _ _ _ _ _ r,m,n=>by simp only [app,app_assoc r m n]
 | cse _ _ r,m,n=>by simp only [app,app_assoc r m n]
theorem app_ok:∀ {l m:NL},okN l true = true→okN m true = true→okN (app l m) true = true
 | nil,_,_,h=>h
 | node _ _ _ _ _ _ _ _ r,m,h1,h2=>by
  simp only [okN,Bool.and_eq_true] at h1
  simp only [app,okN,Bool.and_eq_true]
  exact ⟨h1.1,app_ok h1.2 h2⟩
 | cse _ _ _,_,h,_=>by simp [okN] at h
end NL
def bodies:NL→NL
 | .cse _ b r=>b.app (bodies r)
 | _=>.nil
def CellsN (w:World):NL→List Value→Prop
 | .nil,xs=>xs = []
 | .node k nm g az ws ks bs cz r,xs=>∃ a1 c1 a2 c2 a3 c3 a4 c4 a5 c5 ys,xs = .int .i64 k :: .string nm :: .bool g :: .slice a1 az.length c1 :: .slice a2 ws.length c2 :: .slice a3 ks.len c3 :: .slice a4 bs.length c4 :: .slice a5 cz.len c5 :: ys∧Holds w nm az ws ks bs cz a1 c1 a2 c2 a3 c3 a4 c4 a5 c5∧CellsN w r ys
 | .cse _ _ _,_=>False
theorem CellsN.len {w:World}:∀ {l:NL} {xs:List Value},CellsN w l xs→xs.length = l.len * 8
 | .nil,xs,h=>by cases h;rfl
 | .node _ _ _ _ _ _ _ _ r,xs,⟨_,_,_,_,_,_,_,_,_,_,ys,hx,_,h⟩=>by
  have:=CellsN.len h
  subst hx
  simp only [List.length_cons,NL.len,this];omega
 | .cse _ _ _,_,h=>h.elim
theorem CellsN.below {w w':World} (hb:Below w.heap.size w w'):∀ {l:NL} {xs:List Value},CellsN w l xs→CellsN w' l xs
 | .nil,_,h=>h
 | .node _ _ _ _ _ _ _ _ r,_,⟨a1,c1,a2,c2,a3,c3,a4,c4,a5,c5,ys,hx,hh,h⟩=>⟨a1,c1,a2,c2,a3,c3,a4,c4,a5,c5,ys,hx,hh.below hb,CellsN.below hb h⟩
 | .cse _ _ _,_,h=>h.elim
theorem CellsN.app {w:World}:∀ {l m:NL} {xs ys:List Value},CellsN w l xs→CellsN w m ys→CellsN w (l.app m) (xs ++ ys)
 | .nil,m,xs,ys,h,k=>by cases h;exact k
 | .node _ _ _ _ _ _ _ _ r,m,xs,ys,⟨a1,c1,a2,c2,a3,c3,a4,c4,a5,c5,zs,hx,hh,h⟩,k=>⟨a1,c1,a2,c2,a3,c3,a4,c4,a5,c5,zs ++ ys,by subst hx;rfl,hh,CellsN.app h k⟩
 | .cse _ _ _,_,_,_,h,_=>h.elim
theorem CellsN.one {w:World}:∀ {l:NL} {xs:List Value},CellsN w l xs→∀ u ∈ xs,u.oneCell' = true
 | .nil,_,h,u,hu=>by cases h;cases hu
 | .node _ _ _ _ _ _ _ _ r,_,⟨_,_,_,_,_,_,_,_,_,_,ys,hx,_,h⟩,u,hu=>by
  subst hx
  simp only [List.mem_cons] at hu
  rcases hu with rfl | rfl | rfl | rfl | rfl | rfl | rfl | rfl | hu
  all_goals first | rfl | exact CellsN.one h u hu
 | .cse _ _ _,_,h,_,_=>h.elim
theorem CellsN.of_at {w:World} {b:Nat}:∀ {l:NL} {o:Nat},NL.okN l true = true→NAt w l b o→∃ xs,CellsN w l xs∧∀ j u,xs[j]? = some u→w.cell? ⟨b,o + j,none⟩ = some u
 | .nil,_,_,_=>⟨[],rfl,fun j u h=>by simp at h⟩
 | .node k nm g az ws ks bs cz r,o,hk,⟨⟨h0,h1,h2,h3⟩,⟨a1,c1,e1,s1⟩,⟨a2,c2,e2,s2⟩,⟨a3,c3,e3,s3⟩,⟨a4,c4,e4,s4⟩,⟨a5,c5,e5,s5⟩,hr⟩=>by
  simp only [NL.okN,Bool.and_eq_true] at hk
  obtain ⟨ys,hy,hc⟩:=CellsN.of_at hk.2 hr
  refine ⟨_,⟨a1,c1,a2,c2,a3,c3,a4,c4,a5,c5,ys,rfl,⟨h3,s1,s2,s3,s4,s5,hk.1.1.2,hk.1.2⟩,hy⟩,fun j u hu=>?_⟩
  match j,hu with
  | 0,hu=>cases hu;exact h0
  | 1,hu=>cases hu;exact h1
  | 2,hu=>cases hu;exact h2
  | 3,hu=>cases hu;exact e1
  | 4,hu=>cases hu;exact e2
  | 5,hu=>cases hu;exact e3
  | 6,hu=>cases hu;exact e4
  | 7,hu=>cases hu;exact e5
  | j + 8,hu=>simp only [List.getElem?_cons_succ] at hu;have:=hc j u hu;rwa [show o + 8 + j = o + (j + 8) by omega] at this
 | .cse _ _ _,_,hk,_=>by simp [NL.okN] at hk
theorem CellsN.at {w:World} {b:Nat}:∀ {l:NL} {xs:List Value} {o:Nat},CellsN w l xs→(∀ j u,xs[j]? = some u→w.cell? ⟨b,o + j,none⟩ = some u)→NAt w l b o∧NL.okN l true = true
 | .nil,_,_,_,_=>⟨trivial,rfl⟩
 | .node k nm g az ws ks bs cz r,_,o,⟨a1,c1,a2,c2,a3,c3,a4,c4,a5,c5,ys,hx,hh,h⟩,hc=>by
  subst hx
  obtain ⟨g1,g2⟩:=CellsN.at (o:=o + 8) h (fun j u hu=>by
   have:=hc (j + 8) u (by simpa using hu)
   rwa [show o + (j + 8) = o + 8 + j by omega] at this)
  exact ⟨⟨⟨hc 0 _ rfl,hc 1 _ rfl,hc 2 _ rfl,hh.hnm⟩,⟨a1,c1,hc 3 _ rfl,hh.haz⟩,⟨a2,c2,hc 4 _ rfl,hh.hws⟩,⟨a3,c3,hc 5 _ rfl,hh.hks⟩,⟨a4,c4,hc 6 _ rfl,hh.hbs⟩,⟨a5,c5,hc 7 _ rfl,hh.hcs⟩,g1⟩,by simp [NL.okN,hh.okk,hh.okc,g2]⟩
 | .cse _ _ _,_,_,h,_=>h.elim
theorem nlies_own {w:World} {base:Nat} {v:Value} {l:NL} {xs:List Value} (h:w.ownsRow base 37 8 v l.len xs) (hc:CellsN w l xs) (hR:l.len≤R):∃ a cap,v = .slice a l.len cap∧NLies w a cap l:=by
 rcases h.2 with ⟨rfl,hn⟩ | ⟨g,cap,cur,rfl,hb,hg,hcap,_⟩
 ·have:l = .nil:=by
   cases l with
   | nil=>rfl
   | node=>simp [NL.len] at hn
   | cse=>simp [NL.len] at hn
  subst this
  exact ⟨none,0,rfl,Nat.le_refl _,Nat.zero_le _,.inl rfl⟩
 ·refine ⟨_,cap,rfl,hcap,hR,.inr ⟨g,0,rfl,(hc.at fun j u hu=>?_).1⟩⟩
  have:=h.cells (g:=g) rfl j u hu
  rwa [Go.WideShapes.add_plain] at this
theorem cells_n {w:World} {a:Option Addr} {cap:Nat} {l:NL} (h:NLies w a cap l) (hk:NL.okN l true = true):∃ xs,CellsN w l xs∧∀ b o,a = some ⟨b,o,none⟩→∀ j u,xs[j]? = some u→w.cell? ⟨b,o + j,none⟩ = some u:=by
 obtain ⟨_,_,h3⟩:=h
 rcases h3 with rfl | ⟨b,o,rfl,h3⟩
 ·exact ⟨[],rfl,fun _ _ _ j u h=>by simp at h⟩
 ·obtain ⟨xs,h1,h2⟩:=CellsN.of_at hk h3
  exact ⟨xs,h1,fun b' o' e j u hu=>by cases e;exact h2 j u hu⟩
theorem infoNode:(Try.prog.info? 37).map (fun i=>(i.zero,i.size,i.bytes)) = some (some (.agg #[.int .i64 0,.string ⟨#[]⟩,.bool false,.slice none 0 0,.slice none 0 0,.slice none 0 0,.slice none 0 0,.slice none 0 0]),8,152):=by kernel_rfl
end Tr
end Go.Proofs.Ytbcldfaphnnmlaa
