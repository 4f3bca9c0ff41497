/- A region that draws its order, walked in the order of the text at the class 'below': steps in which the whole region's text stands in no goal that Lean unfolds (so that a long region with guards is walked in seconds). Of no program. -/
import Derived.Test.YtjmpfihopeohbaaGreatDoorRows
import Derived.Lib.QuietBelow
import Derived.WalkKit
import Derived.StillTail
namespace Go.Proofs.YtjmpfihopeohbaaGreatDoor
open Go.RowKit Go.Sort
namespace Qu
variable {P:Program} {ops:Array Oper} {C:World→Prop}
structure W (P:Program) (ops:Array Oper) (C:World→Prop) (Q:Act→Prop) (l:List Oper) (a:Act):Prop where
 out:wpQuiet P ops C Q l a
theorem fin {Q:Act→Prop} {a:Act} (h:Q a):W P ops C Q [] a:=⟨h⟩
theorem carry {Q:Act→Prop} {a:Act} {o:Oper} {rest:List Oper} (hw:Region.wanted o (yielded ops a.tmps) = true)
  (h:∀ K:Act→Prop,(∀ a,W P ops C Q rest a→K a)→o.quiet P a C K):W P ops C Q (o :: rest) a :=
 ⟨wpQuiet_step fun K hK=>by rw [hw];exact h K fun a ha=>hK a ha.out⟩
theorem pass {Q:Act→Prop} {a:Act} {o:Oper} {rest:List Oper} (hw:Region.wanted o (yielded ops a.tmps) = false)
  (h:∀ K:Act→Prop,(∀ a,W P ops C Q rest a→K a)→K (a.put o.dst undef)):W P ops C Q (o :: rest) a :=
 ⟨wpQuiet_step fun K hK=>by rw [hw];exact h K fun a ha=>hK a ha.out⟩
def mets (b:Bool):Value→Bool
 | .bool c=>c == b
 | _=>false
theorem wanted_of {l:List Oper} {ts:List Value} {o:Oper} {i:Nat} {b:Bool} {v:Value} (hg:o.guard = some (i,b)) (hv:(l[i]?.bind (·.dst)).bind (ts[·]?) = some v) :
  Region.wanted o (yielded l.toArray ts.toArray) = mets b v:=by
 cases v <;> simp [Region.wanted,hg,yielded,hv,mets]
theorem carryG {l:List Oper} {ts:List Value} {ds} {Q:Act→Prop} {o:Oper} {rest:List Oper} {i:Nat} {b:Bool} {v:Value} (hg:o.guard = some (i,b)) (hv:(l[i]?.bind (·.dst)).bind (ts[·]?) = some v) (hm:mets b v = true)
  (h:∀ K:Act→Prop,(∀ a,W P l.toArray C Q rest a→K a)→o.quiet P { tmps:=ts.toArray,defers:=ds } C K):W P l.toArray C Q (o :: rest) { tmps:=ts.toArray,defers:=ds } :=
 carry ((wanted_of hg hv).trans hm) h
theorem passG {l:List Oper} {ts:List Value} {ds} {Q:Act→Prop} {o:Oper} {rest:List Oper} {i:Nat} {b:Bool} {v:Value} (hg:o.guard = some (i,b)) (hv:(l[i]?.bind (·.dst)).bind (ts[·]?) = some v) (hm:mets b v = false)
  (h:∀ K:Act→Prop,(∀ a,W P l.toArray C Q rest a→K a)→K (Act.put { tmps:=ts.toArray,defers:=ds } o.dst undef)):W P l.toArray C Q (o :: rest) { tmps:=ts.toArray,defers:=ds } :=
 pass ((wanted_of hg hv).trans hm) h
theorem carry0 {Q:Act→Prop} {a:Act} {o:Oper} {rest:List Oper} (hg:o.guard = none)
  (h:∀ K:Act→Prop,(∀ a,W P ops C Q rest a→K a)→o.quiet P a C K):W P ops C Q (o :: rest) a :=
 carry (by simp [Region.wanted,hg]) h
theorem region {id:Nat} {Q:Exit→Act→World→Prop} {a:Act} {w:World} {l:List Oper} (hm:P.follows .mixedOrders = true) (hB:Region.lexB .any l.toArray = true)
  (h:W P l.toArray (fun w'=>∃ p:Regrown,w' = grow (redrawn w p.d) p.os) (fun a'=>∀ p:Regrown,Q .normal a' (grow (redrawn w p.d) p.os)) l a):(Code.region id l.toArray true).wp P Q a w :=
 wp_region_quiet_below hm hB (by
  have h1:=h.out;have:(fun a'=>∀ p:Regrown,Q .normal a' (grow (redrawn w p.d) p.os)) = (fun a'=>∀ w',(∃ p:Regrown,w' = grow (redrawn w p.d) p.os)→Q .normal a' w'):=by
   funext a';exact propext ⟨fun h w' ⟨p,hp⟩=>hp ▸ h p,fun h p=>h _ ⟨p,rfl⟩⟩
  rw [this] at h1
  exact h1)
end Qu
end Go.Proofs.YtjmpfihopeohbaaGreatDoor
namespace Go.Proofs.YtjmpfihopeohbaaGreatDoor
open Go.RowKit Go.Sort
namespace Qu
section
variable {P:Program} {ops:Array Oper} {md:Region.Mode} {C:World→Prop}
def heads (P:Program) (md:Region.Mode) (ops:Array Oper) (C:World→Prop) (n:Nat) (L:Array Bool→Act→Prop):Nat→Array Bool→Act→Prop
 | 0,listed,a=>L listed a
 | f + 1,listed,a=>Region.ready md ops listed ≠ []∧∀ i ∈ Region.ready md ops listed,i < n∧qOp P ops C i (heads P md ops C n L f (listed.setIfInBounds i true)) a
theorem any_of_heads {n g:Nat} {L:Array Bool→Act→Prop} {Q':Exit→Act→World→Prop} (hL:∀ listed a w,C w→L listed a→wpAny P md ops Q' g listed a w) :
  ∀ (f:Nat) (listed:Array Bool) (a:Act) (w:World),C w→heads P md ops C n L f listed a→wpAny P md ops Q' (f + g) listed a w
 | 0,listed,a,w,hw,h=>by rw [Nat.zero_add];exact hL _ _ _ hw h
 | f + 1,listed,a,w,hw,h=>by
  rw [Nat.succ_add];exact ⟨fun h0=>absurd h0 h.1,fun i hi=>wpOp_of_qOp hw (fun a' w' hw' h'=>any_of_heads hL f _ a' w' hw' h') (h.2 i hi).2⟩
theorem heads_first {n i:Nat} {oi:Oper} {v:Value} {L:Array Bool→Act→Prop} (hi:ops[i]? = some oi) (hsel:∀ (j:Nat) (o:Oper) cs b,ops[j]? = some o→o.op ≠ .select cs b)
  (hs:Region.sinkB md ops n = true) (hc:Region.chainB md ops n = true) (hn:n < ops.size) (hin:i < n) (hdone:∀ listed a,L listed a→∀ j ∈ Region.ready md ops listed,n≤j) :
  ∀ (f:Nat) (listed:Array Bool) (a:Act),HeadInv md ops n listed →
   (∀ j oj,ops[j]? = some oj→j ≠ i→listed.getD j true = false→(∀ e ∈ oj.after,Region.binds md e = true→e.on ≠ i)→oi.apart ops oj = true) →
   i ∈ Region.ready md ops listed→YieldsIn P ops C oi v a→heads P md ops C n L f (listed.setIfInBounds i true) (a.put oi.dst v)→heads P md ops C n L (f + 1) listed a:=by
 intro f
 induction f with
 | zero =>
  intro listed a inv _ hr hy H;have hun:=(mem_ready.1 hr).1;refine ⟨List.ne_nil_of_mem hr,fun j hj=>?_⟩;have hjn:j < n:=Nat.lt_of_not_le fun h=>tail_waits hs hc hn inv _ i rfl hin hun j h hj;refine ⟨hjn,?_⟩
  by_cases hji:j = i
  ·rw [hji];exact hy.qOp hi H
  ·exact absurd (hdone _ _ H j (ready_mono hj hji)) (Nat.not_le.2 hjn)
 | succ f ih =>
  intro listed a inv hfree hr hy H;have hun:=(mem_ready.1 hr).1;refine ⟨List.ne_nil_of_mem hr,fun j hj=>?_⟩;have hjn:j < n:=Nat.lt_of_not_le fun h=>tail_waits hs hc hn inv _ i rfl hin hun j h hj;refine ⟨hjn,?_⟩
  by_cases hji:j = i
  ·rw [hji];exact hy.qOp hi H
  ·obtain ⟨hjun,oj,hoj,hall⟩:=mem_ready.1 hj;have hnot:∀ e ∈ oj.after,Region.binds md e = true→e.on ≠ i:=fun e he hb heq=>by
    have h1:=hall e he hb;rw [heq,getD_both hun] at h1;cases h1
   have h2:=qOp_put hoj (hfree j oj hoj hji hjun hnot) (fun cs b=>hsel i oi cs b hi) (fun cs b=>hsel j oj cs b hoj) hy (H.2 j (ready_mono hj hji)).2;refine qOp_mono (fun a' h3=>ih (listed.setIfInBounds j true) a' (inv.set hj hjn) (fun k ok hk hki hku hno=>hfree k ok hk hki ?_ hno) (ready_mono hr (Ne.symm hji)) h3.1 ?_) h2
   ·by_cases hjk:j = k
    ·rw [← hjk];exact hjun
    ·rwa [getD_set_ne true hjk] at hku
   ·rw [Array.setIfInBounds_comm _ _ hji];exact h3.2
theorem heads_lex {n g:Nat} {Lq:Act→Prop} (hsel:Region.noSelect ops = true) (hs:Region.sinkB md ops n = true) (hc:Region.chainB md ops n = true) (hn:n < ops.size) :
  ∀ (l:List Oper) (k:Nat) (listed:Array Bool) (a:Act),(∀ j,j < l.length→l[j]? = ops[k + j]?)→k + l.length = n→HeadInv md ops n listed →
  Region.lexHead md ops g l.length k listed = true→wpQuiet P ops C Lq l a→heads P md ops C n (fun listed' a'=>Region.seqB md ops g n listed' = true∧Lq a') l.length listed a
 | [],k,listed,a,_,hk,_,hB,h=>by
  obtain rfl:k = n:=by simpa using hk
  exact ⟨by simpa [Region.lexHead] using hB,h⟩
 | o :: l,k,listed,a,hl,hk,inv,hB,h=>by
  have h0:ops[k]? = some o:=by simpa using (hl 0 (by simp)).symm
  simp only [List.length_cons,Region.lexHead,Bool.and_eq_true] at hB;obtain ⟨⟨hr,hf⟩,hB'⟩:=hB;have hkn:k < n:=by simp only [List.length_cons] at hk;omega
  have hr':k ∈ Region.ready md ops listed:=by simpa using hr
  obtain ⟨v,hy,hK⟩:=yieldsIn_of_qOp h0 (show qOp P ops C k (wpQuiet P ops C Lq l) a by unfold qOp;simp only [h0];exact h);exact heads_first h0 (Region.noSelect_spec hsel) hs hc hn hkn (fun _ _ hL=>seqB_ready hL.1) l.length listed a inv (Region.free_spec h0 hf) hr' hy
   (heads_lex hsel hs hc hn l (k + 1) _ _ (fun j hj=>by have:=hl (j + 1) (by simp;omega);simpa [Nat.add_assoc,Nat.add_comm 1 j] using this) (by simp only [List.length_cons] at hk;omega) (inv.set hr' hkn) hB' hK)
end
theorem region_tail {P:Program} {id:Nat} {Q:Exit→Act→World→Prop} {a:Act} {w:World} {l:List Oper} (n:Nat) (hm:P.follows .mixedOrders = true) (hB:Region.lexTailB .any l.toArray n = true)
  (h:W P l.toArray (fun w'=>∃ p:Regrown,w' = grow (redrawn w p.d) p.os) (fun a'=>∀ p:Regrown,wpList P l.toArray Q (l.drop n) a' (grow (redrawn w p.d) p.os)) (l.take n) a):(Code.region id l.toArray true).wp P Q a w:=by
 simp only [Region.lexTailB,Bool.and_eq_true,decide_eq_true_eq] at hB;obtain ⟨⟨⟨⟨hsel,hn⟩,hs⟩,hc⟩,hlex⟩:=hB;have hn':n < l.length:=by simpa using hn
 have htl:(l.take n).length = n:=by simp;omega
 have hdl:(l.drop n).length = l.toArray.size - n:=by simp
 have H:=heads_lex (P:=P) (C:=fun w'=>∃ p:Regrown,w' = grow (redrawn w p.d) p.os) (md:=.any) (g:=l.toArray.size - n) hsel hs hc hn (l.take n) 0 (Array.replicate l.toArray.size false) a (fun j hj=>by
  have hj':j < n:=by rw [htl] at hj;exact hj
  simp [hj']) (by simpa using htl)
  ⟨by simp,fun j oj _ hl=>(by rw [getD_replicate_false] at hl;cases hl),fun t _ ht=>getD_in (by simpa using ht) (getD_replicate_false _ _)⟩ (by rw [htl];exact hlex) h.out
 refine wp_region_any hm ?_
 have:=any_of_heads (Q':=Q) (g:=l.toArray.size - n) (fun listed a' w' hw' hL=>by
  obtain ⟨p,rfl⟩:=hw';have:=wpAny_of_seq (md:=.any) (Q':=Q) (l.drop n) n listed a' (grow (redrawn w p.d) p.os) (fun j=>by simp [List.getElem?_drop]) (by rw [hdl];exact hL.1) (hL.2 p)
  rwa [hdl] at this) _ _ _ { w with drawn:=w.drawn + 1 } ⟨⟨w.drawn + 1,#[]⟩,by rw [grow_empty];rfl⟩ H
 rwa [htl,show n + (l.toArray.size - n) = l.toArray.size by omega] at this
end Qu
end Go.Proofs.YtjmpfihopeohbaaGreatDoor
