/- Rows that are appended whole, in a statement that leaves its order open. Of no program. -/
/- The appends of ParseRows's law. -/
import Derived.Test.YtoafdgfofgkenaaGreatPsJ
import Derived.Laws.OwnMore
import Derived.OwnWalk
import Derived.Maps.AppendAt
import Derived.Test.YtoafdgfofgkenaaGreatPsP
namespace Go.Proofs.YtoafdgfofgkenaaGreat
open Go.RowKit Go.Sort
namespace Ps
open Cls Pt Tr Sp Lx
section
variable {T:Type} {k:Nat} {Q:World→Nat→Nat→T→Prop}
def Each (k:Nat) (Q:World→Nat→Nat→T→Prop):Prop:=∀ (w:World) (b o:Nat) (x:T),Q w b o x→∃ vs:List Value,vs.length = k∧(∀ u ∈ vs,u.oneCell' = true)∧(∀ j u,vs[j]? = some u→w.cell? ⟨b,o + j,none⟩ = some u) ∧
 ∀ (w':World) (b' o':Nat),Below w.heap.size w w'→(∀ j u,vs[j]? = some u→w'.cell? ⟨b',o' + j,none⟩ = some u)→Q w' b' o' x
structure Copy (k:Nat) (Q:World→Nat→Nat→T→Prop) (w:World) (a:Option Addr) (l:List T) (cs:List Value):Prop where
 len:cs.length = l.length * k
 one:∀ u ∈ cs,u.oneCell' = true
 nil:a = none→l.length = 0
 cell:∀ ad,a = some ad→∀ j u,cs[j]? = some u→w.cell? (ad.add j) = some u
 to:∀ (w':World) (b o:Nat),Below w.heap.size w w'→(∀ j u,cs[j]? = some u→w'.cell? ⟨b,o + j,none⟩ = some u)→Chain k (Q w') b o l
theorem copy_chain (each:Each k Q) {w:World} {b:Nat}:∀ (l:List T) (o:Nat),Chain k (Q w) b o l→∃ cs:List Value,cs.length = l.length * k∧(∀ u ∈ cs,u.oneCell' = true)∧(∀ j u,cs[j]? = some u→w.cell? ⟨b,o + j,none⟩ = some u) ∧
  ∀ (w':World) (b' o':Nat),Below w.heap.size w w'→(∀ j u,cs[j]? = some u→w'.cell? ⟨b',o' + j,none⟩ = some u)→Chain k (Q w') b' o' l
 | [],_,_=>⟨[],by simp,by simp,by simp,fun _ _ _ _ _=>trivial⟩
 | x :: r,o,⟨hx,hr⟩=>by
  obtain ⟨vs,h1,h2,h3,h4⟩:=each w b o x hx
  obtain ⟨cs,g1,g2,g3,g4⟩:=copy_chain each r (o + k) hr
  refine ⟨vs ++ cs,by rw [List.length_append,h1,g1,List.length_cons,Nat.succ_mul];omega,?_,?_,?_⟩
  ·intro u hu
   rcases List.mem_append.1 hu with hu | hu
   ·exact h2 u hu
   ·exact g2 u hu
  ·intro j u hj
   rcases Nat.lt_or_ge j vs.length with hl | hl
   ·rw [List.getElem?_append_left hl] at hj;exact h3 j u hj
   ·rw [List.getElem?_append_right hl] at hj
    have:=g3 _ u hj
    rwa [show o + k + (j - vs.length) = o + j by omega] at this
  ·intro w' b' o' hb hc
   refine ⟨h4 w' b' o' hb fun j u hj=>hc j u (by rw [List.getElem?_append_left (List.getElem?_eq_some_iff.1 hj).1];exact hj),g4 w' b' (o' + k) hb fun j u hj=>?_⟩
   have:=hc (k + j) u (by rw [List.getElem?_append_right (by omega),h1,Nat.add_sub_cancel_left];exact hj)
   rwa [show o' + (k + j) = o' + k + j by omega] at this
theorem copy_of (each:Each k Q) {w:World} {a:Option Addr} {cap:Nat} {l:List T} (h:Sl k (Q w) a cap l):∃ cs,Copy k Q w a l cs:=by
 obtain ⟨_,_,rfl | ⟨b,o,rfl,hc⟩⟩:=h
 ·exact ⟨[],by simp,by simp,fun _=>rfl,by simp,fun _ _ _ _ _=>trivial⟩
 ·obtain ⟨cs,h1,h2,h3,h4⟩:=copy_chain each l o hc
  exact ⟨cs,h1,h2,(fun h=>by cases h),fun ad had j u hj=>by cases had;rw [Go.WideShapes.add_plain];exact h3 j u hj,h4⟩
theorem Copy.below {w w1:World} {a:Option Addr} {l:List T} {cs:List Value} (h:Copy k Q w a l cs) (hb:Below w.heap.size w w1):Copy k Q w1 a l cs :=
 ⟨h.len,h.one,h.nil,fun ad had j u hj=>(hb.cell (World.block_lt_of_cell? _ _ (h.cell ad had j u hj))).trans (h.cell ad had j u hj),fun w' b o hb2 hc=>h.to w' b o (thru hb hb2) hc⟩
theorem chain_append {P:Nat→Nat→T→Prop} {b:Nat}:∀ {l l2:List T} {o:Nat},Chain k P b o l→Chain k P b (o + l.length * k) l2→Chain k P b o (l ++ l2)
 | [],_,o,_,h=>by simpa using h
 | x :: r,l2,o,⟨h1,h2⟩,h=>⟨h1,chain_append h2 (by rw [List.length_cons,Nat.succ_mul] at h;rwa [show o + (r.length * k + k) = o + k + r.length * k by omega] at h)⟩
theorem own_two {w w':World} {a1 a2:Option Addr} {l1 l2:List T} {c1 c2:List Value} {base:Nat} {ty:TypeId} {v:Value} (h1:Copy k Q w a1 l1 c1) (h2:Copy k Q w a2 l2 c2) (hown:w'.ownsRow base ty k v (l1.length + l2.length) (c1 ++ c2)) (hb:Below w.heap.size w w') (hR:l1.length + l2.length≤R) :
  ∃ a cap,v = .slice a (l1.length + l2.length) cap∧Sl k (Q w') a cap (l1 ++ l2):=by
 have hlen:(l1 ++ l2).length = l1.length + l2.length:=List.length_append
 have hcell:=fun g (e:v.ownBlock = some g)=>hown.cells (g:=g) e
 rcases hown.2 with ⟨rfl,h0⟩ | ⟨g,cap,cur,rfl,_,_,h3,_⟩
 ·exact ⟨none,0,by rw [h0],by rw [hlen,h0];exact Nat.zero_le _,by rw [hlen];exact hR,.inl (List.length_eq_zero_iff.1 (by rw [hlen];exact h0))⟩
 ·refine ⟨_,cap,rfl,by rw [hlen];exact h3,by rw [hlen];exact hR,.inr ⟨g,0,rfl,?_⟩⟩
  have hc:=hcell g rfl
  refine chain_append (h1.to w' g 0 hb fun j u hj=>?_) (h2.to w' g _ hb fun j u hj=>?_)
  ·have:=hc j u (by rw [List.getElem?_append_left (List.getElem?_eq_some_iff.1 hj).1];exact hj)
   rwa [Go.WideShapes.add_plain] at this
  ·have:=hc (l1.length * k + j) u (by rw [List.getElem?_append_right (by rw [h1.len];omega),h1.len,Nat.add_sub_cancel_left];exact hj)
   rw [Go.WideShapes.add_plain] at this
   rwa [show 0 + l1.length * k + j = 0 + (l1.length * k + j) by omega]
end
theorem each_bool:Each 1 PB:=fun w b o x h=>⟨[.bool x],rfl,(fun u hu=>by simp at hu;subst hu;rfl),(fun j u hj=>by
 match j,hj with
 | 0,hj=>cases hj;exact h),fun w' b' o' _ hc=>hc 0 _ rfl⟩
theorem each_node:Each 8 PN:=fun w b o x ⟨a1,c1,a2,c2,a3,c3,a4,c4,a5,c5,h,hh⟩=>⟨nvs x a1 c1 a2 c2 a3 c3 a4 c4 a5 c5,rfl,(fun u hu=>by simp [nvs] at hu;rcases hu with rfl | rfl | rfl | rfl | rfl | rfl | rfl | rfl <;> rfl),h,
 fun w' b' o' hb hc=>⟨a1,c1,a2,c2,a3,c3,a4,c4,a5,c5,hc,hh.below hb⟩⟩
theorem chain_toN {w:World} {b:Nat}:∀ {l:List ND} {o:Nat},NAt w (toN l) b o→NL.okN (toN l) true = true→Chain 8 (PN w) b o l
 | [],_,_,_=>trivial
 | x :: r,o,h,hk=>by
  simp only [toN,ND.on,NL.okN,Bool.and_eq_true] at hk
  obtain ⟨⟨h0,h1,h2,h3⟩,⟨a1,c1,e1,s1⟩,⟨a2,c2,e2,s2⟩,⟨a3,c3,e3,l3,m3,s3⟩,⟨a4,c4,e4,s4⟩,⟨a5,c5,e5,l5,m5,s5⟩,hr⟩:=h
  refine ⟨⟨a1,c1,a2,c2,a3,c3,a4,c4,a5,c5,fun j v hj=>?_,⟨h3,s1,s2,⟨l3,m3,s3⟩,s4,⟨l5,m5,s5⟩,hk.1.1.2,hk.1.2⟩⟩,chain_toN hr hk.2⟩
  match j,hj with
  | 0,hj=>cases hj;exact h0
  | 1,hj=>cases hj;exact h1
  | 2,hj=>cases hj;exact h2
  | 3,hj=>cases hj;exact e1
  | 4,hj=>cases hj;exact e2
  | 5,hj=>cases hj;exact e3
  | 6,hj=>cases hj;exact e4
  | 7,hj=>cases hj;exact e5
theorem sl_toN {w:World} {a:Option Addr} {cap:Nat} {l:List ND} (h:NLies w a cap (toN l)) (hk:NL.okN (toN l) true = true):Sl 8 (PN w) a cap l:=by
 obtain ⟨h1,h2,h3⟩:=h
 rw [toN_len] at h1 h2
 refine ⟨h1,h2,?_⟩
 rcases h3 with h3 | ⟨b,o,rfl,h3⟩
 ·left
  cases l with
  | nil=>rfl
  | cons=>cases h3
 ·exact .inr ⟨b,o,rfl,chain_toN h3 hk⟩
theorem lies_sl {w:World} {a:Option Addr} {cap:Nat} {l:List ND} (h:Sl 8 (PN w) a cap l):NLies w a cap (toN l)∧NL.okN (toN l) true = true:=by
 obtain ⟨h1,h2,rfl | ⟨b,o,rfl,h3⟩⟩:=h
 ·exact ⟨⟨Nat.zero_le _,Nat.zero_le _,.inl rfl⟩,rfl⟩
 ·obtain ⟨h4,h5⟩:=chainN h3
  exact ⟨⟨by rw [toN_len];exact h1,by rw [toN_len];exact h2,.inr ⟨b,o,rfl,h4⟩⟩,h5⟩
section
variable {P:Program} {w:World}
theorem wp_append_any {o:Oper} {a:Act} {K:Act→World→Prop} {Q:Exit→Act→World→Prop} (s x:Operand) (t:TypeId)
  (ho:o.op = .call { callee:=.builtin .append,args:=#[s,x],argTypes:=#[t,t] })
  (base:Nat) (e:TypeId) (i:TypeInfo) (z:Value) (size bytes:Nat) (ht:P.underlying t = some (.slice e)) (hi:P.info? e = some i) (hz:i.zero = some z)
  (hsize:i.size = size) (hby:i.bytes = bytes) (hzs:z.cells.size = size) (hsz:0 < size)
  (v:Value) (n:Nat) (xs:List Value) (hs:a.eval s = v) (hown:w.ownsRow base e size v n xs)
  (sa:Option Addr) (m c:Nat) (news:List Value) (hx:a.eval x = .slice sa m c) (hm:sa = none→m = 0) (hl:news.length = m * size) (hnews:∀ ad,sa = some ad→∀ j u,news[j]? = some u→w.cell? (ad.add j) = some u) (h1:∀ u ∈ news,u.oneCell' = true)
  (h63:n + m≤maxLen) (hbytes:(n + m) * bytes≤140737488355328) (hbase:base≤w.heap.size)
  (h:∀ v' w',w'.ownsRow base e size v' (n + m) (xs ++ news)→w.grownBy w' v.ownBlock→(v'.ownBlock = v.ownBlock∨v'.ownBlock = some w.heap.size)→K (a.put o.dst v') w'):o.wp P a w K Q:=by
 cases sa with
 | none =>
  obtain rfl:=hm rfl
  have hn:news = []:=List.eq_nil_of_length_eq_zero (by simpa using hl)
  subst hn
  have hr:(Builtin.append_ #[t,t] o.type #[v,.slice none 0 c]).run P w = .ok v w:=by
   rcases hown.2 with ⟨rfl,rfl⟩ | ⟨g,cap,cur,rfl,_,_,hnc,_⟩
   ·simp [Builtin.append_,run_underlying ht,sizeOf,typeInfo,hi,Builtin.lenOf,Builtin.firstCells]
   ·simp [Builtin.append_,run_underlying ht,sizeOf,typeInfo,hi,Builtin.lenOf,Builtin.firstCells,hnc,storeCells]
  unfold Oper.wp execOp
  simp only [ho,resolve,invoke,builtin,Sem.run_bind,Sem.run_pure,Result.andThen_ok,List.map_toArray,List.map_cons,List.map_nil,hs,hx,hr]
  exact h v w (by simpa using hown) (World.grownBy.refl _ _) (.inl rfl)
 | some ad =>
  obtain ⟨v',w',hr,h2,h3,h4,h5⟩:=run_append_own_at (P:=P) w base t o.type e i z size bytes ht hi hz hsize hby hzs hsz v n xs hown ad m c news hl (hnews ad rfl) h1 h63 hbytes hbase
  unfold Oper.wp execOp
  simp only [ho,resolve,invoke,builtin,Sem.run_bind,Sem.run_pure,Result.andThen_ok,List.map_toArray,List.map_cons,List.map_nil,hs,hx,hr]
  exact h v' w' h2 h3 h5
end
structure Gr (tA tB:TypeId) (o:Obj) (W0 w:World) (A B:Option (Value × Nat × List Value)) (N:Option Nat):Prop where
 bel:Below W0.heap.size W0 w
 a:∀ v n xs,A = some (v,n,xs)→w.ownsRow W0.heap.size tA 8 v n xs
 b:∀ v n xs,B = some (v,n,xs)→w.ownsRow W0.heap.size tB 1 v n xs
 n:∀ g,N = some g→w.heap[g]? = some o∧W0.heap.size≤g∧g < w.heap.size
 ab:∀ v n xs v' n' xs',A = some (v,n,xs)→B = some (v',n',xs')→∀ j,v.ownBlock = some j→v'.ownBlock ≠ some j
 an:∀ v n xs g,A = some (v,n,xs)→N = some g→v.ownBlock ≠ some g
 bn:∀ v n xs g,B = some (v,n,xs)→N = some g→v.ownBlock ≠ some g
section
variable {tA tB:TypeId} {o:Obj} {W0 w:World} {A B:Option (Value × Nat × List Value)} {N:Option Nat}
theorem Gr.start (tA tB:TypeId) (o:Obj) (hb:Below W0.heap.size W0 w):Gr tA tB o W0 w none none none :=
 ⟨hb,(fun _ _ _ h=>by cases h),(fun _ _ _ h=>by cases h),(fun _ h=>by cases h),(fun _ _ _ _ _ _ h=>by cases h),(fun _ _ _ _ h=>by cases h),(fun _ _ _ _ h=>by cases h)⟩
theorem Gr.newA (h:Gr tA tB o W0 w none B N):Gr tA tB o W0 (w.alloc (.cells #[] tA)) (some (.slice (some ⟨w.heap.size,0,none⟩) 0 0,0,[])) B N:=by
 have hs:=h.bel.size
 refine ⟨h.bel.trans ((bel1 w _).mono hs),?_,fun v n xs e=>(h.b v n xs e).alloc _,fun g e=>?_,?_,?_,h.bn⟩
 ·intro v n xs e
  cases e
  exact World.ownsRow_made w #[] 0 hs (Nat.zero_le _) rfl
 ·obtain ⟨h1,h2,h3⟩:=h.n g e
  exact ⟨(Below.heap_alloc _ _ _ h3).trans h1,h2,by rw [World.size_alloc];omega⟩
 ·intro v n xs v' n' xs' e e' j hj hj'
  cases e
  cases hj
  have:=((h.b v' n' xs' e').lt _ hj').2
  exact Nat.lt_irrefl _ this
 ·intro v n xs g e e' hj
  cases e
  cases hj
  have:=(h.n _ e').2.2
  exact Nat.lt_irrefl _ this
theorem Gr.newB (h:Gr tA tB o W0 w A none N):Gr tA tB o W0 (w.alloc (.cells #[] tB)) A (some (.slice (some ⟨w.heap.size,0,none⟩) 0 0,0,[])) N:=by
 have hs:=h.bel.size
 refine ⟨h.bel.trans ((bel1 w _).mono hs),fun v n xs e=>(h.a v n xs e).alloc _,?_,fun g e=>?_,?_,h.an,?_⟩
 ·intro v n xs e
  cases e
  exact World.ownsRow_made w #[] 0 hs (Nat.zero_le _) rfl
 ·obtain ⟨h1,h2,h3⟩:=h.n g e
  exact ⟨(Below.heap_alloc _ _ _ h3).trans h1,h2,by rw [World.size_alloc];omega⟩
 ·intro v n xs v' n' xs' e e' j hj hj'
  cases e'
  cases hj'
  have:=((h.a v n xs e).lt _ hj).2
  exact Nat.lt_irrefl _ this
 ·intro v n xs g e e' hj
  cases e
  cases hj
  have:=(h.n _ e').2.2
  exact Nat.lt_irrefl _ this
theorem Gr.newN (h:Gr tA tB o W0 w A B none):Gr tA tB o W0 (w.alloc o) A B (some w.heap.size):=by
 have hs:=h.bel.size
 refine ⟨h.bel.trans ((bel1 w _).mono hs),fun v n xs e=>(h.a v n xs e).alloc _,fun v n xs e=>(h.b v n xs e).alloc _,fun g e=>?_,h.ab,?_,?_⟩
 ·cases e
  exact ⟨heap_alloc_new w _,hs,by rw [World.size_alloc];omega⟩
 ·intro v n xs g e e' hj
  cases e'
  have:=((h.a v n xs e).lt _ hj).2
  omega
 ·intro v n xs g e e' hj
  cases e'
  have:=((h.b v n xs e).lt _ hj).2
  omega
theorem Gr.growA {w':World} {v v':Value} {n n':Nat} {xs xs':List Value} (h:Gr tA tB o W0 w (some (v,n,xs)) B N) (hown:w'.ownsRow W0.heap.size tA 8 v' n' xs') (hg:w.grownBy w' v.ownBlock) (hat:v'.ownBlock = v.ownBlock∨v'.ownBlock = some w.heap.size):Gr tA tB o W0 w' (some (v',n',xs')) B N:=by
 have hs:=h.bel.size
 have hlt:=(h.a v n xs rfl).lt
 refine ⟨⟨hg.os.trans h.bel.os,hg.tape.trans h.bel.tape,hg.output.trans h.bel.output,Nat.le_trans hs hg.size,fun k hk=>(hg.block k (by omega) fun e=>by have:=(hlt k e.symm).1;omega).trans (h.bel.block k hk)⟩,?_,fun u m ys e=>?_,fun g e=>?_,?_,?_,h.bn⟩
 ·intro u m ys e
  cases e
  exact hown
 ·exact own_keep (h.b u m ys e) fun g hg' hl=>hg.block g hl fun e2=>h.ab v n xs u m ys rfl e g e2.symm hg'
 ·obtain ⟨h1,h2,h3⟩:=h.n g e
  exact ⟨(hg.block g h3 fun e2=>h.an v n xs g rfl e e2.symm).trans h1,h2,Nat.lt_of_lt_of_le h3 hg.size⟩
 ·intro u m ys u' m' ys' e e' j hj hj'
  cases e
  rcases hat with hat | hat
  ·exact h.ab v n xs u' m' ys' rfl e' j (hat.symm.trans hj) hj'
  ·rw [hat] at hj
   cases hj
   have:=((h.b u' m' ys' e').lt _ hj').2
   omega
 ·intro u m ys g e e' hj
  cases e
  rcases hat with hat | hat
  ·exact h.an v n xs g rfl e' (hat.symm.trans hj)
  ·rw [hat] at hj
   cases hj
   have:=(h.n _ e').2.2
   omega
theorem Gr.growB {w':World} {v v':Value} {n n':Nat} {xs xs':List Value} (h:Gr tA tB o W0 w A (some (v,n,xs)) N) (hown:w'.ownsRow W0.heap.size tB 1 v' n' xs') (hg:w.grownBy w' v.ownBlock) (hat:v'.ownBlock = v.ownBlock∨v'.ownBlock = some w.heap.size):Gr tA tB o W0 w' A (some (v',n',xs')) N:=by
 have hs:=h.bel.size
 have hlt:=(h.b v n xs rfl).lt
 refine ⟨⟨hg.os.trans h.bel.os,hg.tape.trans h.bel.tape,hg.output.trans h.bel.output,Nat.le_trans hs hg.size,fun k hk=>(hg.block k (by omega) fun e=>by have:=(hlt k e.symm).1;omega).trans (h.bel.block k hk)⟩,fun u m ys e=>?_,?_,fun g e=>?_,?_,h.an,?_⟩
 ·exact own_keep (h.a u m ys e) fun g hg' hl=>hg.block g hl fun e2=>h.ab u m ys v n xs e rfl g hg' e2.symm
 ·intro u m ys e
  cases e
  exact hown
 ·obtain ⟨h1,h2,h3⟩:=h.n g e
  exact ⟨(hg.block g h3 fun e2=>h.bn v n xs g rfl e e2.symm).trans h1,h2,Nat.lt_of_lt_of_le h3 hg.size⟩
 ·intro u m ys u' m' ys' e e' j hj hj'
  cases e'
  rcases hat with hat | hat
  ·exact h.ab u m ys v n xs e rfl j hj (hat.symm.trans hj')
  ·rw [hat] at hj'
   cases hj'
   have:=((h.a u m ys e).lt _ hj).2
   omega
 ·intro u m ys g e e' hj
  cases e
  rcases hat with hat | hat
  ·exact h.bn v n xs g rfl e' (hat.symm.trans hj)
  ·rw [hat] at hj
   cases hj
   have:=(h.n _ e').2.2
   omega
end
end Ps
end Go.Proofs.YtoafdgfofgkenaaGreat
namespace Go.Proofs.YtoafdgfofgkenaaGreat
open Go.RowKit Go.Sort
namespace Ps
open Cls Pt Tr Sp Lx
def Z8:Obj:=.cells #[.int .i64 0,.string ⟨#[]⟩,.bool false,.slice none 0 0,.slice none 0 0,.slice none 0 0,.slice none 0 0,.slice none 0 0] 28
abbrev GR (W0 w:World) (A B:Option (Value × Nat × List Value)) (N:Option Nat):Prop:=Gr 28 4 Z8 W0 w A B N
section
variable {W0 w:World} {A B:Option (Value × Nat × List Value)} {N:Option Nat} {o:Oper} {a:Act} {K:Act→World→Prop} {Q:Exit→Act→World→Prop} {v:Value} {n c:Nat} {xs cs:List Value} {sa:Option Addr}
theorem wp_A {l:List ND} (HG:GR W0 w (some (v,n,xs)) B N) (s x:Operand) (ho:o.op = .call { callee:=.builtin .append,args:=#[s,x],argTypes:=#[24,24] })
  (hs:a.eval s = v) (cp:Copy 8 PN W0 sa l cs) (hx:a.eval x = .slice sa l.length c) (hn:n + l.length≤1000000)
  (h:∀ ra rn rc w',GR W0 w' (some (.slice ra rn rc,n + l.length,xs ++ cs)) B N→K (a.put o.dst (.slice ra rn rc)) w'):o.wp Tryz.prog a w K Q:=by
 obtain ⟨i0,hi,hz0,hz1,hz2⟩:=info_parts infoN
 have cp2:=cp.below HG.bel
 exact wp_append_any s x 24 ho W0.heap.size 28 i0 _ 8 152 Tryz.underlying24 hi hz0 hz1 hz2 rfl (by decide) v n xs hs (HG.a _ _ _ rfl) sa l.length c cs hx cp2.nil cp2.len cp2.cell cp2.one (by unfold maxLen;omega) (by omega) HG.bel.size
  fun v' w' h1 h2 h3=>by
   obtain ⟨ra,rn,rc,rfl⟩:∃ ra rn rc,v' = .slice ra rn rc:=by
    rcases h1.2 with ⟨h,_⟩ | ⟨g,c,_,h,_⟩
    ·exact ⟨_,_,_,h⟩
    ·exact ⟨_,_,_,h⟩
   exact h ra rn rc w' (HG.growA h1 h2 h3)
theorem wp_B {l:List Bool} (HG:GR W0 w A (some (v,n,xs)) N) (s x:Operand) (ho:o.op = .call { callee:=.builtin .append,args:=#[s,x],argTypes:=#[25,25] })
  (hs:a.eval s = v) (cp:Copy 1 PB W0 sa l cs) (hx:a.eval x = .slice sa l.length c) (hn:n + l.length≤1000000)
  (h:∀ ra rn rc w',GR W0 w' A (some (.slice ra rn rc,n + l.length,xs ++ cs)) N→K (a.put o.dst (.slice ra rn rc)) w'):o.wp Tryz.prog a w K Q:=by
 obtain ⟨j0,hj,hy0,hy1,hy2⟩:=info_parts infoB
 have cp2:=cp.below HG.bel
 exact wp_append_any s x 25 ho W0.heap.size 4 j0 _ 1 1 Tryz.underlying25 hj hy0 hy1 hy2 rfl (by decide) v n xs hs (HG.b _ _ _ rfl) sa l.length c cs hx cp2.nil (by rw [cp2.len]) cp2.cell cp2.one (by unfold maxLen;omega) (by omega) HG.bel.size
  fun v' w' h1 h2 h3=>by
   obtain ⟨ra,rn,rc,rfl⟩:∃ ra rn rc,v' = .slice ra rn rc:=by
    rcases h1.2 with ⟨h,_⟩ | ⟨g,c,_,h,_⟩
    ·exact ⟨_,_,_,h⟩
    ·exact ⟨_,_,_,h⟩
   exact h ra rn rc w' (HG.growB h1 h2 h3)
end
def Fin (W0 w:World) (nb:Nat) (l1 l2:List ND) (b1 b2:List Bool):Prop:=∃ a3 c3 a4 c4,w.heap[nb]? = some (.cells #[.int .i64 5,.string ⟨#[]⟩,.bool false,.slice none 0 0,.slice none 0 0,.slice a3 (l1.length + l2.length) c3,.slice a4 (b1.length + b2.length) c4,.slice none 0 0] 28 (0,0)) ∧
 Sl 8 (PN w) a3 c3 (l1 ++ l2)∧Sl 1 (PB w) a4 c4 (b1 ++ b2)∧Below W0.heap.size W0 w
theorem fin_of {W0 w:World} {va vb:Value} {ca1 ca2 cb1 cb2:List Value} {nb:Nat} {x3 y3 x4 y4:Option Addr} {l1 l2:List ND} {b1 b2:List Bool}
  (HG:GR W0 w (some (va,0 + l1.length + l2.length,[] ++ ca1 ++ ca2)) (some (vb,0 + b1.length + b2.length,[] ++ cb1 ++ cb2)) (some nb)) (p1:Copy 8 PN W0 x3 l1 ca1) (p2:Copy 8 PN W0 y3 l2 ca2) (q1:Copy 1 PB W0 x4 b1 cb1) (q2:Copy 1 PB W0 y4 b2 cb2)
  (hl:l1.length + l2.length≤1000000) (hb:b1.length + b2.length≤1000000) :
  Fin W0 ((((((((w.setCell ⟨nb,0,none⟩ (.int .i64 5)).setCell ⟨nb,1,none⟩ (.string ⟨#[]⟩)).setCell ⟨nb,2,none⟩ (.bool false)).setCell ⟨nb,3,none⟩ (.slice none 0 0)).setCell ⟨nb,4,none⟩ (.slice none 0 0)).setCell ⟨nb,5,none⟩ va).setCell ⟨nb,6,none⟩ vb).setCell ⟨nb,7,none⟩ (.slice none 0 0)) nb l1 l2 b1 b2:=by
 obtain ⟨hn1,hn2,hn3⟩:=HG.n _ rfl
 obtain ⟨h1,h2⟩:=stored_rb w nb (.int .i64 5) (.string ⟨#[]⟩) (.bool false) (.slice none 0 0) (.slice none 0 0) va vb (.slice none 0 0) _ _ _ _ _ _ _ _ _ hn1
 generalize ((((((((w.setCell ⟨nb,0,none⟩ (.int .i64 5)).setCell ⟨nb,1,none⟩ (.string ⟨#[]⟩)).setCell ⟨nb,2,none⟩ (.bool false)).setCell ⟨nb,3,none⟩ (.slice none 0 0)).setCell ⟨nb,4,none⟩ (.slice none 0 0)).setCell ⟨nb,5,none⟩ va).setCell ⟨nb,6,none⟩ vb).setCell ⟨nb,7,none⟩ (.slice none 0 0)) = w' at h1 h2
 have hbl:Below W0.heap.size W0 w':=HG.bel.trans ⟨h2.os,h2.tape,h2.output,h2.size,fun k hk=>h2.block k (Nat.lt_of_lt_of_le hk HG.bel.size) (by omega)⟩
 have oa:=own_keep (w':=w') (HG.a _ _ _ rfl) fun g e hlt=>h2.block g hlt fun e2=>HG.an _ _ _ _ rfl rfl (by rw [← e2];exact e)
 have ob:=own_keep (w':=w') (HG.b _ _ _ rfl) fun g e hlt=>h2.block g hlt fun e2=>HG.bn _ _ _ _ rfl rfl (by rw [← e2];exact e)
 rw [Nat.zero_add,List.nil_append] at oa ob
 have hRR:(1000000:Nat)≤R:=by decide
 obtain ⟨a3,c3,rfl,s3⟩:=own_two p1 p2 oa hbl (by omega)
 obtain ⟨a4,c4,rfl,s4⟩:=own_two q1 q2 ob hbl (by omega)
 exact ⟨a3,c3,a4,c4,h1,s3,s4,hbl⟩
end Ps
end Go.Proofs.YtoafdgfofgkenaaGreat
