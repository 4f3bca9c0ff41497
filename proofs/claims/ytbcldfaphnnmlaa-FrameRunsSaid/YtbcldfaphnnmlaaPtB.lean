/- Parts of words, as they lie in memory: a plain inductive datum; how an argument's reading becomes one; that they lie there still when the world goes on above. -/
/- How much parts hold. -/
/- Same: the program's and the reference's, for all parts. -/
import Derived.Test.YtbcldfaphnnmlaaClsB
import Derived.OpenShut
import Derived.ChangeArms
import Derived.Below
import Derived.Test.YtbcldfaphnnmlaaClsN
import Derived.Lib.QuietBelow
namespace Go.Proofs.Ytbcldfaphnnmlaa
open Go.RowKit Go.WideShapes Go.ChangeShapes
namespace Pt
theorem hbytes:Try.prog.bytesOf 85 = 72:=by kernel_rfl
theorem hcI:Try.prog.cellsOf 3 = 1:=by kernel_rfl
theorem hcB:Try.prog.cellsOf 4 = 1:=by kernel_rfl
theorem hcS:Try.prog.cellsOf 9 = 1:=by kernel_rfl
theorem hcL:Try.prog.cellsOf 72 = 1:=by kernel_rfl
theorem hcells:Try.prog.cellsOf 85 = 5:=by kernel_rfl
inductive PL where
 | nil
 | cons (k:Int) (q:Bool) (t o:ByteArray) (of rest:PL)
namespace PL
def len:PL→Nat
 | nil=>0
 | cons _ _ _ _ _ r=>r.len + 1
def size:PL→Nat
 | nil=>0
 | cons _ _ _ _ f r=>f.size + r.size + 1
def drop:Nat→PL→PL
 | 0,l=>l
 | _ + 1,nil=>nil
 | n + 1,cons _ _ _ _ _ r=>drop n r
theorem drop_len:∀ (n:Nat) (l:PL),(drop n l).len = l.len - n
 | 0,_=>rfl
 | n + 1,nil=>by simp [drop,len]
 | n + 1,cons _ _ _ _ _ r=>by simp [drop,len,drop_len n r]
theorem drop_size:∀ (n:Nat) (l:PL),(drop n l).size≤l.size
 | 0,_=>Nat.le_refl _
 | n + 1,nil=>Nat.le_refl _
 | n + 1,cons _ _ _ _ _ r=>by have:=drop_size n r;simp only [drop,size];omega
theorem drop_succ:∀ {n:Nat} {l r f:PL} {k:Int} {q:Bool} {t o:ByteArray},drop n l = cons k q t o f r→drop (n + 1) l = r
 | 0,_,_,_,_,_,_,_,h=>by simp only [drop] at h;subst h;rfl
 | n + 1,nil,_,_,_,_,_,_,h=>by simp [drop] at h
 | n + 1,cons _ _ _ _ _ _,_,_,_,_,_,_,h=>by simp only [drop] at h ⊢;exact drop_succ h
theorem drop_at:∀ {n:Nat} {l:PL},n < l.len→∃ k q t o f r,drop n l = cons k q t o f r
 | 0,cons k q t o f r,_=>⟨k,q,t,o,f,r,rfl⟩
 | n + 1,cons _ _ _ _ _ r,h=>by simp only [len] at h;exact drop_at (n:=n) (l:=r) (by omega)
theorem drop_end {n:Nat} {l:PL} (h:l.len≤n):drop n l = nil:=by
 have:=drop_len n l
 cases hd:drop n l with
 | nil=>rfl
 | cons=>rw [hd] at this;simp only [len] at this;omega
end PL
def R:Nat:=140737488351232
def At (w:World) (b:Nat):Nat→PL→Prop
 | _,.nil=>True
 | o,.cons k q t p f r=>(w.cell? ⟨b,o,none⟩ = some (.int .i64 k)∧w.cell? ⟨b,o + 1,none⟩ = some (.bool q)∧w.cell? ⟨b,o + 2,none⟩ = some (.string t)∧w.cell? ⟨b,o + 3,none⟩ = some (.string p)∧t.size≤R∧p.size≤R) ∧
   (∃ a cap,w.cell? ⟨b,o + 4,none⟩ = some (.slice a f.len cap)∧f.len≤cap∧f.len≤R∧(f = .nil∨∃ b' o',a = some ⟨b',o',none⟩∧At w b' o' f))∧At w b (o + 5) r
def Lies (w:World) (a:Option Addr) (cap:Nat) (l:PL):Prop :=
 l.len≤cap∧l.len≤R∧(l = .nil∨∃ b o,a = some ⟨b,o,none⟩∧At w b o l)
theorem Lies.le {w:World} {a:Option Addr} {cap:Nat} {l:PL} (h:Lies w a cap l):l.len≤140737488351232:=h.2.1
theorem At.below {w w':World} (hb:Below w.heap.size w w'):∀ {l:PL} {b o:Nat},At w b o l→At w' b o l
 | .nil,_,_,_=>trivial
 | .cons _ _ _ _ f r,b,o,⟨⟨h0,h1,h2,h3,h4,h5⟩,⟨a,cap,h6,h7,h8,h9⟩,hr⟩=>by
  have hlt:=World.block_lt_of_cell? _ _ h0
  have hc:∀ {j v},w.cell? ⟨b,j,none⟩ = some v→w'.cell? ⟨b,j,none⟩ = some v:=fun {j v} h=>(hb.cell (p:=⟨b,j,none⟩) hlt).trans h
  refine ⟨⟨hc h0,hc h1,hc h2,hc h3,h4,h5⟩,⟨a,cap,hc h6,h7,h8,?_⟩,At.below hb hr⟩
  rcases h9 with h9 | ⟨b',o',ha,h9⟩
  ·exact .inl h9
  ·exact .inr ⟨b',o',ha,At.below hb h9⟩
theorem Lies.below {w w':World} {a:Option Addr} {cap:Nat} {l:PL} (h:Lies w a cap l) (hb:Below w.heap.size w w'):Lies w' a cap l:=by
 obtain ⟨h1,h2,h3⟩:=h
 refine ⟨h1,h2,?_⟩
 rcases h3 with h3 | ⟨b,o,ha,h3⟩
 ·exact .inl h3
 ·exact .inr ⟨b,o,ha,At.below hb h3⟩
theorem At.drop {w:World} {b:Nat}:∀ {n:Nat} {l:PL} {o:Nat},At w b o l→At w b (o + n * 5) (l.drop n)
 | 0,_,o,h=>by simpa [PL.drop] using h
 | n + 1,.nil,_,_=>trivial
 | n + 1,.cons _ _ _ _ _ r,o,h=>by
  have:=At.drop (n:=n) h.2.2
  simp only [PL.drop]
  rwa [show o + (n + 1) * 5 = o + 5 + n * 5 by omega]
theorem Lies.get {w:World} {a:Option Addr} {cap i:Nat} {l f r:PL} {k:Int} {q:Bool} {t p:ByteArray} (h:Lies w a cap l) (hd:l.drop i = .cons k q t p f r) :
  ∃ b o,a = some ⟨b,o,none⟩∧b < w.heap.size∧w.cell? ⟨b,o + i * 5,none⟩ = some (.int .i64 k)∧w.cell? ⟨b,o + i * 5 + 1,none⟩ = some (.bool q)∧w.cell? ⟨b,o + i * 5 + 2,none⟩ = some (.string t)∧w.cell? ⟨b,o + i * 5 + 3,none⟩ = some (.string p)∧t.size≤R∧p.size≤R ∧
   ∃ a' cap',w.cell? ⟨b,o + i * 5 + 4,none⟩ = some (.slice a' f.len cap')∧Lies w a' cap' f:=by
 obtain ⟨_,_,h3⟩:=h
 rcases h3 with rfl | ⟨b,o,ha,h3⟩
 ·cases i <;> simp [PL.drop] at hd
 ·have:=At.drop (n:=i) h3
  rw [hd] at this
  obtain ⟨⟨h0,h1,h2,h3,h4,h5⟩,⟨a',cap',h6,h7,h8,h9⟩,_⟩:=this
  exact ⟨b,o,ha,World.block_lt_of_cell? _ _ h0,h0,h1,h2,h3,h4,h5,a',cap',h6,h7,h8,h9⟩
theorem Lies.lt {w:World} {a:Option Addr} {cap i:Nat} {l f r:PL} {k:Int} {q:Bool} {t p:ByteArray} (_:Lies w a cap l) (hd:l.drop i = .cons k q t p f r):i < l.len:=by
 have:=PL.drop_len i l
 rw [hd] at this
 simp only [PL.len] at this
 omega
section
variable {H:Type} {enc:TypeId × Value→H} {w:World} {base:Nat} {held:Bool}
theorem weights_all {e:TypeId}:∀ {l:List (DataW H)} {d:DataW H},d ∈ l→∀ n ∈ d.weights Try.prog e,n ∈ DataW.weightsAll Try.prog e l
 | x :: l,d,h,n,hn=>by
  rw [DataW.weightsAll,List.mem_append]
  rcases List.mem_cons.1 h with rfl | h
  ·exact .inl hn
  ·exact .inr (weights_all h n hn)
set_option maxHeartbeats 1000000 in
set_option maxRecDepth 100000 in
theorem open_pl {ty:TypeId} (hty:Try.prog.underlying ty = some (.slice 85)):∀ (fuel:Nat) (cs:List Value) (x:DataW H × List MemPlace),DataW.trod enc Try.prog w base (fun _=>true) held fuel ty cs = some x →
  (∀ n ∈ x.1.weights Try.prog ty,n≤R)→∃ a cap l,cs = [.slice a (PL.len l) cap]∧Lies w a cap l:=by
 have hst:∀ (ty:TypeId),Try.prog.underlying ty = some (.slice 85)→∀ (fuel:Nat) (cs:List Value) (x:DataW H × List MemPlace),DataW.trod enc Try.prog w base (fun _=>true) held fuel ty cs = some x →
  (∀ n ∈ x.1.weights Try.prog ty,n≤R)→∃ a cap l,cs = [.slice a (PL.len l) cap]∧Lies w a cap l:=by
  intro ty hty fuel
  induction fuel using Nat.strongRecOn generalizing ty with
  | _ fuel ih =>
   intro cs x h hR
   rcases DataW.trod_slice hty h with ⟨rfl,rfl⟩ | ⟨a,len,cap,elems,rest,n,rfl,rfl,rfl,hb,hl,hm,hlen,hel,hsp,hns⟩
   ·exact ⟨none,0,.nil,rfl,Nat.le_refl _,Nat.zero_le _,.inl rfl⟩
   ·obtain ⟨b,off,spot⟩:=a
    have hcap:cap≤R:=by
     have h1:=hR ((elems.length + rest.length) * Try.prog.bytesOf 85) (by simp [DataW.weights,hty])
     rw [hbytes] at h1
     have:=(hsp rfl).1
     omega
    have hsp0:len = 0∨spot = none:=by
     rcases Nat.eq_zero_or_pos len with h0 | h0
     ·exact .inl h0
     ·right
      have he:=hel 0 h0
      rw [List.getElem?_eq_getElem (by omega)] at he
      obtain ⟨cs',hcs,_⟩:=Option.bind_eq_some_iff.1 he
      rw [hcells] at hcs
      obtain ⟨_,hl5,hcell⟩:=World.cells?_some hcs
      have h1:=hcell 0 (by omega)
      rw [List.getElem?_eq_getElem (by omega)] at h1
      simpa [Addr.add] using World.cell?_spot h1
    have build:∀ j,j≤len→∃ l:PL,l.len = j∧(j = 0∨spot = none∧At w b (off + (len - j) * 5) l):=by
     intro j
     induction j with
     | zero=>exact fun _=>⟨.nil,rfl,.inl rfl⟩
     | succ j ihj =>
      intro hj
      have hoff:off + (len - (j + 1)) * 5 + 5 = off + (len - j) * 5:=by clear ih ihj hel hsp hns hR;omega
      obtain ⟨r,hr,har⟩:=ihj (by omega)
      have hi:len - (j + 1) < elems.length:=by omega
      have he:=hel (len - (j + 1)) (by omega)
      rw [List.getElem?_eq_getElem hi] at he
      obtain ⟨cs',hcs,hy⟩:=Option.bind_eq_some_iff.1 he
      rw [hcells] at hcs
      obtain ⟨_,hl5,hcell⟩:=World.cells?_some hcs
      obtain ⟨ys,m,rfl,hy2,_,hys,hf⟩:=DataW.trod_struct Try.underlying85 hy
      have hRi:∀ n ∈ (elems[len - (j + 1)]).1.weights Try.prog 85,n≤R:=fun n hn=>hR n (by
       simp only [DataW.weights,hty]
       exact List.mem_cons_of_mem _ (List.mem_append_left _ (weights_all (List.mem_map_of_mem (List.getElem_mem hi)) n hn)))
      rw [hy2] at hRi
      match cs',hl5 with
      | [v0,v1,v2,v3,v4],_ =>
       match ys,hys with
       | [y0,y1,y2,y3,y4],_ =>
       have g0:DataW.trod enc Try.prog w base (fun _=>true) held m 3 (List.take (Try.prog.cellsOf 3) (List.drop 0 [v0,v1,v2,v3,v4])) = some y0:=hf 0 _ rfl
       rw [hcI] at g0
       have g1:DataW.trod enc Try.prog w base (fun _=>true) held m 4 (List.take (Try.prog.cellsOf 4) (List.drop 1 [v0,v1,v2,v3,v4])) = some y1:=hf 1 _ rfl
       rw [hcB] at g1
       have g2:DataW.trod enc Try.prog w base (fun _=>true) held m 9 (List.take (Try.prog.cellsOf 9) (List.drop 2 [v0,v1,v2,v3,v4])) = some y2:=hf 2 _ rfl
       rw [hcS] at g2
       have g3:DataW.trod enc Try.prog w base (fun _=>true) held m 9 (List.take (Try.prog.cellsOf 9) (List.drop 3 [v0,v1,v2,v3,v4])) = some y3:=hf 3 _ rfl
       rw [hcS] at g3
       have g4:DataW.trod enc Try.prog w base (fun _=>true) held m 72 (List.take (Try.prog.cellsOf 72) (List.drop 4 [v0,v1,v2,v3,v4])) = some y4:=hf 4 _ rfl
       rw [hcL] at g4
       simp only [List.drop,List.take] at g0 g1 g2 g3 g4
       obtain ⟨z0,e0,_,_⟩:=DataW.trod_int Try.underlying3 g0
       obtain ⟨z1,e1,_⟩:=DataW.trod_bool Try.underlying4 g1
       obtain ⟨z2,e2,d2,_⟩:=DataW.trod_string Try.underlying9 g2
       obtain ⟨z3,e3,d3,_⟩:=DataW.trod_string Try.underlying9 g3
       subst d2 d3
       simp only [DataW.weights,Try.underlying85,List.map,DataW.weightsEach,List.mem_append] at hRi
       obtain ⟨a4,cap4,l4,e4,h4⟩:=ih m (by omega) 72 Try.underlying72 _ _ g4 (fun n hn=>hRi n (by simp [hn]))
       have r2:z2.size≤R:=hRi z2.data.toList.length (by simp) |> fun h=>by simpa using h
       have r3:z3.size≤R:=hRi z3.data.toList.length (by simp) |> fun h=>by simpa using h
       simp only [List.cons.injEq,and_true] at e0 e1 e2 e3 e4
       subst e0 e1 e2 e3 e4
       obtain rfl:spot = none:=hsp0.resolve_left (by omega)
       refine ⟨.cons z0 z1 z2 z3 l4 r,by simp [PL.len,hr],.inr ⟨rfl,?_⟩⟩
       have hcell':∀ i v,[Value.int .i64 z0,Value.bool z1,Value.string z2,Value.string z3,Value.slice a4 l4.len cap4][i]? = some v→w.cell? ⟨b,off + (len - (j + 1)) * 5 + i,none⟩ = some v:=fun i v hv=>by
        have hi5:i < 5:=by have:=(List.getElem?_eq_some_iff.1 hv).1;simpa using this
        have:=(hcell i hi5).trans hv
        rwa [add_plain,add_plain] at this
       refine ⟨⟨hcell' 0 _ rfl,hcell' 1 _ rfl,hcell' 2 _ rfl,hcell' 3 _ rfl,r2,r3⟩,⟨a4,cap4,hcell' 4 _ rfl,h4.1,h4.2.1,h4.2.2⟩,?_⟩
       rcases har with rfl | ⟨_,har⟩
       ·cases r with
        | nil=>trivial
        | cons=>simp [PL.len] at hr
       ·rwa [hoff]
    obtain ⟨l,hll,hat⟩:=build len (Nat.le_refl _)
    refine ⟨some ⟨b,off,spot⟩,cap,l,by rw [hll],by omega,by omega,?_⟩
    rcases hat with h0 | ⟨rfl,hat⟩
    ·left
     cases l with
     | nil=>rfl
     | cons=>simp only [PL.len] at hll;omega
    ·exact .inr ⟨b,off,rfl,by simpa using hat⟩
 exact hst ty hty
end
end Pt
end Go.Proofs.Ytbcldfaphnnmlaa
namespace Go.Proofs.Ytbcldfaphnnmlaa
namespace Bd
open Pt
def bytes:PL→Nat
 | .nil=>0
 | .cons _ _ t o f r=>1 + t.size + o.size + bytes f + bytes r
def Box (w:World) (c:Nat) (k:Int) (q:Bool) (t o:ByteArray) (a:Option Addr) (n cap:Nat):Prop :=
 w.heap[c]? = some (.cells #[.int .i64 k,.bool q,.string t,.string o,.slice a n cap] 85 (0,0))
theorem Box.cell {w:World} {c:Nat} {k:Int} {q:Bool} {t o:ByteArray} {a:Option Addr} {n cap:Nat} (h:Box w c k q t o a n cap) (j:Nat):w.cell? ⟨c,j,none⟩ = #[Value.int .i64 k,.bool q,.string t,.string o,.slice a n cap][j]? :=
 Lib.cell_of_heap h j
end Bd
end Go.Proofs.Ytbcldfaphnnmlaa
namespace Go.Proofs.Ytbcldfaphnnmlaa
open Go.RowKit Go.Sort
namespace Pt
open Cls
def same:PL→PL→Bool
 | .nil,.nil=>true
 | .cons k q t o f r,.cons k' q' t' o' f' r'=>(k == k' && q == q' && t.toList == t'.toList && o.toList == o'.toList && same f f') && same r r'
 | _,_=>false
theorem thru {w w1 w2:World} (h1:Below w.heap.size w w1) (h2:Below w1.heap.size w1 w2):Below w.heap.size w w2 :=
 h1.trans (h2.mono h1.size)
theorem bel1 (w:World) (x:Obj):Below w.heap.size w (w.alloc x):=(Below.refl _ w).alloc (Nat.le_refl _) x
theorem bel2 (w:World) (x y:Obj):Below w.heap.size w ((w.alloc x).alloc y):=thru (bel1 w x) (bel1 _ y)
theorem same_len:∀ {a b:PL},a.len ≠ b.len→same a b = false
 | .nil,.nil,h=>absurd rfl h
 | .nil,.cons ..,_=>rfl
 | .cons ..,.nil,_=>rfl
 | .cons _ _ _ _ _ r,.cons _ _ _ _ _ r',h=>by simp only [same,same_len (a:=r) (b:=r') (by simpa [PL.len] using h),Bool.and_false]
end Pt
end Go.Proofs.Ytbcldfaphnnmlaa
