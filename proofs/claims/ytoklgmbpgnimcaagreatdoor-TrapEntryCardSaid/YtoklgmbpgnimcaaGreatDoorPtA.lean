/- Parts of words, as they lie in memory: a plain inductive datum; how an argument's reading becomes one; that they lie there still when the world goes on above. -/
import Derived.Test.YtoklgmbpgnimcaaGreatDoorClsB
import Derived.OpenShut
import Derived.ChangeArms
import Derived.Below
namespace Go.Proofs.YtoklgmbpgnimcaaGreatDoor
open Go.RowKit Go.WideShapes Go.ChangeShapes
namespace Pt
theorem hcells:Tryz.prog.cellsOf 125 = 5:=by kernel_rfl
inductive PL where
 | nil
 | cons (k:Int) (q:Bool) (t o:ByteArray) (of rest:PL)
namespace PL
def len:PL→Nat
 | nil=>0
 | cons _ _ _ _ _ r=>r.len + 1
def size:PL→Nat
 | nil=>0
 | cons _ _ _ _ f r=>f.size + r.size + 1
def drop:Nat→PL→PL
 | 0,l=>l
 | _ + 1,nil=>nil
 | n + 1,cons _ _ _ _ _ r=>drop n r
theorem drop_len:∀ (n:Nat) (l:PL),(drop n l).len = l.len - n
 | 0,_=>rfl
 | n + 1,nil=>by simp [drop,len]
 | n + 1,cons _ _ _ _ _ r=>by simp [drop,len,drop_len n r]
theorem drop_size:∀ (n:Nat) (l:PL),(drop n l).size≤l.size
 | 0,_=>Nat.le_refl _
 | n + 1,nil=>Nat.le_refl _
 | n + 1,cons _ _ _ _ _ r=>by have:=drop_size n r;simp only [drop,size];omega
theorem drop_succ:∀ {n:Nat} {l r f:PL} {k:Int} {q:Bool} {t o:ByteArray},drop n l = cons k q t o f r→drop (n + 1) l = r
 | 0,_,_,_,_,_,_,_,h=>by simp only [drop] at h;subst h;rfl
 | n + 1,nil,_,_,_,_,_,_,h=>by simp [drop] at h
 | n + 1,cons _ _ _ _ _ _,_,_,_,_,_,_,h=>by simp only [drop] at h ⊢;exact drop_succ h
theorem drop_at:∀ {n:Nat} {l:PL},n < l.len→∃ k q t o f r,drop n l = cons k q t o f r
 | 0,cons k q t o f r,_=>⟨k,q,t,o,f,r,rfl⟩
 | n + 1,cons _ _ _ _ _ r,h=>by simp only [len] at h;exact drop_at (n:=n) (l:=r) (by omega)
theorem drop_end {n:Nat} {l:PL} (h:l.len≤n):drop n l = nil:=by
 have:=drop_len n l
 cases hd:drop n l with
 | nil=>rfl
 | cons=>rw [hd] at this;simp only [len] at this;omega
end PL
def R:Nat:=140737488351232
def At (w:World) (b:Nat):Nat→PL→Prop
 | _,.nil=>True
 | o,.cons k q t p f r=>(w.cell? ⟨b,o,none⟩ = some (.int .i64 k)∧w.cell? ⟨b,o + 1,none⟩ = some (.bool q)∧w.cell? ⟨b,o + 2,none⟩ = some (.string t)∧w.cell? ⟨b,o + 3,none⟩ = some (.string p)∧t.size≤R∧p.size≤R) ∧
   (∃ a cap,w.cell? ⟨b,o + 4,none⟩ = some (.slice a f.len cap)∧f.len≤cap∧f.len≤R∧(f = .nil∨∃ b' o',a = some ⟨b',o',none⟩∧At w b' o' f))∧At w b (o + 5) r
def Lies (w:World) (a:Option Addr) (cap:Nat) (l:PL):Prop :=
 l.len≤cap∧l.len≤R∧(l = .nil∨∃ b o,a = some ⟨b,o,none⟩∧At w b o l)
theorem Lies.le {w:World} {a:Option Addr} {cap:Nat} {l:PL} (h:Lies w a cap l):l.len≤140737488351232:=h.2.1
theorem At.below {w w':World} (hb:Below w.heap.size w w'):∀ {l:PL} {b o:Nat},At w b o l→At w' b o l
 | .nil,_,_,_=>trivial
 | .cons _ _ _ _ f r,b,o,⟨⟨h0,h1,h2,h3,h4,h5⟩,⟨a,cap,h6,h7,h8,h9⟩,hr⟩=>by
  have hlt:=World.block_lt_of_cell? _ _ h0
  have hc:∀ {j v},w.cell? ⟨b,j,none⟩ = some v→w'.cell? ⟨b,j,none⟩ = some v:=fun {j v} h=>(hb.cell (p:=⟨b,j,none⟩) hlt).trans h
  refine ⟨⟨hc h0,hc h1,hc h2,hc h3,h4,h5⟩,⟨a,cap,hc h6,h7,h8,?_⟩,At.below hb hr⟩
  rcases h9 with h9 | ⟨b',o',ha,h9⟩
  ·exact .inl h9
  ·exact .inr ⟨b',o',ha,At.below hb h9⟩
theorem Lies.below {w w':World} {a:Option Addr} {cap:Nat} {l:PL} (h:Lies w a cap l) (hb:Below w.heap.size w w'):Lies w' a cap l:=by
 obtain ⟨h1,h2,h3⟩:=h
 refine ⟨h1,h2,?_⟩
 rcases h3 with h3 | ⟨b,o,ha,h3⟩
 ·exact .inl h3
 ·exact .inr ⟨b,o,ha,At.below hb h3⟩
theorem At.drop {w:World} {b:Nat}:∀ {n:Nat} {l:PL} {o:Nat},At w b o l→At w b (o + n * 5) (l.drop n)
 | 0,_,o,h=>by simpa [PL.drop] using h
 | n + 1,.nil,_,_=>trivial
 | n + 1,.cons _ _ _ _ _ r,o,h=>by
  have:=At.drop (n:=n) h.2.2
  simp only [PL.drop]
  rwa [show o + (n + 1) * 5 = o + 5 + n * 5 by omega]
theorem Lies.get {w:World} {a:Option Addr} {cap i:Nat} {l f r:PL} {k:Int} {q:Bool} {t p:ByteArray} (h:Lies w a cap l) (hd:l.drop i = .cons k q t p f r) :
  ∃ b o,a = some ⟨b,o,none⟩∧b < w.heap.size∧w.cell? ⟨b,o + i * 5,none⟩ = some (.int .i64 k)∧w.cell? ⟨b,o + i * 5 + 1,none⟩ = some (.bool q)∧w.cell? ⟨b,o + i * 5 + 2,none⟩ = some (.string t)∧w.cell? ⟨b,o + i * 5 + 3,none⟩ = some (.string p)∧t.size≤R∧p.size≤R ∧
   ∃ a' cap',w.cell? ⟨b,o + i * 5 + 4,none⟩ = some (.slice a' f.len cap')∧Lies w a' cap' f:=by
 obtain ⟨_,_,h3⟩:=h
 rcases h3 with rfl | ⟨b,o,ha,h3⟩
 ·cases i <;> simp [PL.drop] at hd
 ·have:=At.drop (n:=i) h3
  rw [hd] at this
  obtain ⟨⟨h0,h1,h2,h3,h4,h5⟩,⟨a',cap',h6,h7,h8,h9⟩,_⟩:=this
  exact ⟨b,o,ha,World.block_lt_of_cell? _ _ h0,h0,h1,h2,h3,h4,h5,a',cap',h6,h7,h8,h9⟩
theorem Lies.lt {w:World} {a:Option Addr} {cap i:Nat} {l f r:PL} {k:Int} {q:Bool} {t p:ByteArray} (_:Lies w a cap l) (hd:l.drop i = .cons k q t p f r):i < l.len:=by
 have:=PL.drop_len i l
 rw [hd] at this
 simp only [PL.len] at this
 omega
section
variable {H:Type} {enc:TypeId × Value→H} {w:World} {base:Nat} {held:Bool}
end
end Pt
end Go.Proofs.YtoklgmbpgnimcaaGreatDoor
