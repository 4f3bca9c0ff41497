/- The reference's Weight: the plain part. -/
import Derived.Test.YtbcldfaphnnmlaaTrS
import Derived.Test.YtbcldfaphnnmlaaPtK
namespace Go.Proofs.Ytbcldfaphnnmlaa
open Go.RowKit Go.Sort
namespace Pt
theorem wGo_two:∀ (l:PL) (d n:Nat),n≤10000→wGo l d n≤10000∨wGo l d n = 100000
 | .nil,_,n,h=>.inl h
 | .cons k q t o f r,d,n,h=>by
  rw [wGo_cons]
  split
  ·exact .inr rfl
  ·exact wGo_two r d _ (by omega)
theorem weight_two (l:PL) (d:Nat):weight l d≤10000∨weight l d = 100000:=by
 unfold weight
 split
 ·exact .inr rfl
 ·exact wGo_two l d 0 (by omega)
end Pt
namespace Tr
open Cls Pt
def wsB:List PL→Nat
 | []=>0
 | l :: r=>1 + Bd.bytes l + wsB r
def azB:List (ByteArray × PL)→Nat
 | []=>0
 | x :: r=>1 + x.1.size + Bd.bytes x.2 + azB r
def totN:NL→Nat
 | .nil=>0
 | .node _ nm _ az ws ks bs cz r=>(1 + nm.size + bs.length + wsB ws + azB az + totN ks + totN cz) + totN r
 | .cse ps b r=>(1 + b.len + wsB ps + totN b) + totN r
def czB:NL→Nat
 | .nil=>0
 | .cse ps b r=>(1 + b.len + wsB ps) + czB r
 | .node _ _ _ _ _ _ _ _ r=>czB r
def totX (nm:ByteArray) (az:List (ByteArray × PL)) (ws:List PL) (ks:NL) (bs:List Bool) (cz:NL):Nat :=
 1 + nm.size + bs.length + wsB ws + azB az + totN ks + totN cz
theorem wsB_drop {l:PL}:∀ {ws:List PL} {j:Nat},ws[j]? = some l→wsB (ws.drop j) = 1 + Bd.bytes l + wsB (ws.drop (j + 1))
 | [],_,h=>by simp at h
 | _ :: r,0,h=>by
  simp only [List.getElem?_cons_zero,Option.some.injEq] at h
  subst h
  simp [wsB]
 | _ :: r,j + 1,h=>by
  simp only [List.drop_succ_cons]
  exact wsB_drop (by simpa using h)
theorem azB_drop {x:ByteArray × PL}:∀ {az:List (ByteArray × PL)} {j:Nat},az[j]? = some x→azB (az.drop j) = 1 + x.1.size + Bd.bytes x.2 + azB (az.drop (j + 1))
 | [],_,h=>by simp at h
 | _ :: r,0,h=>by
  simp only [List.getElem?_cons_zero,Option.some.injEq] at h
  subst h
  simp [azB]
 | _ :: r,j + 1,h=>by
  simp only [List.drop_succ_cons]
  exact azB_drop (by simpa using h)
theorem totN_app:∀ {ks:NL} (l:NL),NL.okN ks true = true→totN (ks.app l) = totN ks + totN l
 | .nil,l,_=>by simp [NL.app,totN]
 | .node _ _ _ _ _ _ _ _ r,l,h=>by
  simp only [NL.okN,Bool.and_eq_true] at h
  have:=totN_app (ks:=r) l h.2
  simp only [NL.app,totN,this]
  omega
 | .cse _ _ _,_,h=>by simp [NL.okN] at h
theorem totN_bodies:∀ {cz:NL},NL.okN cz false = true→totN cz = czB cz + totN (bodies cz)
 | .nil,_=>rfl
 | .cse ps b r,h=>by
  simp only [NL.okN,Bool.and_eq_true] at h
  have h1:=totN_bodies (cz:=r) h.2
  have h2:=totN_app (ks:=b) (bodies r) h.1.2
  simp only [totN,czB,bodies,h1,h2]
  omega
 | .node _ _ _ _ _ _ _ _ _,h=>by simp [NL.okN] at h
theorem len_bodies:∀ {cz:NL},NL.okN cz false = true→(bodies cz).len≤czB cz
 | .nil,_=>Nat.le_refl _
 | .cse ps b r,h=>by
  simp only [NL.okN,Bool.and_eq_true] at h
  have h1:=len_bodies (cz:=r) h.2
  simp only [czB,bodies,NL.app_len]
  omega
 | .node _ _ _ _ _ _ _ _ _,h=>by simp [NL.okN] at h
theorem bodies_okN:∀ {cz:NL},NL.okN cz false = true→NL.okN (bodies cz) true = true
 | .nil,_=>rfl
 | .cse ps b r,h=>by
  simp only [NL.okN,Bool.and_eq_true] at h
  exact NL.app_ok h.1.2 (bodies_okN h.2)
 | .node _ _ _ _ _ _ _ _ _,h=>by simp [NL.okN] at h
theorem NL.app_size:∀ (l m:NL),(l.app m).size = l.size + m.size
 | .nil,m=>by simp [NL.app,NL.size]
 | .node _ _ _ _ _ _ _ _ r,m=>by have:=NL.app_size r m;simp only [NL.app,NL.size,this];omega
 | .cse _ _ r,m=>by have:=NL.app_size r m;simp only [NL.app,NL.size,this];omega
theorem bodies_size:∀ (cz:NL),(bodies cz).size≤cz.size
 | .nil=>Nat.le_refl _
 | .cse ps b r=>by
  have h1:=bodies_size r
  simp only [bodies,NL.app_size,NL.size]
  omega
 | .node _ _ _ _ _ _ _ _ r=>by
  have h1:=bodies_size r
  simp only [bodies,NL.size]
  omega
end Tr
end Go.Proofs.Ytbcldfaphnnmlaa
