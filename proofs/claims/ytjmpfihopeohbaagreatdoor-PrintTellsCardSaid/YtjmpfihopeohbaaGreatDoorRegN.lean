/- A region that draws its order: loads (and what else yields one value in every world that meets S) are taken first; S is asked behind the first n operations alone, which all the others wait for. So the others may write what was loaded. Of no program. After Derived/OrdersHeld.lean. -/
import Derived.OrdersHeld
import Derived.StillTail
import Derived.RegionTactic
import Derived.Lib.Builder
import Derived.Test.YtjmpfihopeohbaaGreatDoorRows
namespace Go.Proofs.YtjmpfihopeohbaaGreatDoor
section
theorem zc0 {w:World} {b:Nat} {x0:Value} {l:List Value} {T:TypeId} {fr:Nat × Nat} (h:w.heap[b]? = some (.cells (List.toArray (x0 :: l)) T fr)):w.cell? ⟨b,0,none⟩ = some x0:=Lib.cell_of_heap h 0
theorem zc1 {w:World} {b:Nat} {x0 x1:Value} {l:List Value} {T:TypeId} {fr:Nat × Nat} (h:w.heap[b]? = some (.cells (List.toArray (x0 :: x1 :: l)) T fr)):w.cell? ⟨b,1,none⟩ = some x1:=Lib.cell_of_heap h 1
theorem zc2 {w:World} {b:Nat} {x0 x1 x2:Value} {l:List Value} {T:TypeId} {fr:Nat × Nat} (h:w.heap[b]? = some (.cells (List.toArray (x0 :: x1 :: x2 :: l)) T fr)):w.cell? ⟨b,2,none⟩ = some x2:=Lib.cell_of_heap h 2
theorem zc3 {w:World} {b:Nat} {x0 x1 x2 x3:Value} {l:List Value} {T:TypeId} {fr:Nat × Nat} (h:w.heap[b]? = some (.cells (List.toArray (x0 :: x1 :: x2 :: x3 :: l)) T fr)):w.cell? ⟨b,3,none⟩ = some x3:=Lib.cell_of_heap h 3
theorem zc4 {w:World} {b:Nat} {x0 x1 x2 x3 x4:Value} {l:List Value} {T:TypeId} {fr:Nat × Nat} (h:w.heap[b]? = some (.cells (List.toArray (x0 :: x1 :: x2 :: x3 :: x4 :: l)) T fr)):w.cell? ⟨b,4,none⟩ = some x4:=Lib.cell_of_heap h 4
theorem zc5 {w:World} {b:Nat} {x0 x1 x2 x3 x4 x5:Value} {l:List Value} {T:TypeId} {fr:Nat × Nat} (h:w.heap[b]? = some (.cells (List.toArray (x0 :: x1 :: x2 :: x3 :: x4 :: x5 :: l)) T fr)):w.cell? ⟨b,5,none⟩ = some x5:=Lib.cell_of_heap h 5
theorem zc6 {w:World} {b:Nat} {x0 x1 x2 x3 x4 x5 x6:Value} {l:List Value} {T:TypeId} {fr:Nat × Nat} (h:w.heap[b]? = some (.cells (List.toArray (x0 :: x1 :: x2 :: x3 :: x4 :: x5 :: x6 :: l)) T fr)):w.cell? ⟨b,6,none⟩ = some x6:=Lib.cell_of_heap h 6
theorem zc7 {w:World} {b:Nat} {x0 x1 x2 x3 x4 x5 x6 x7:Value} {l:List Value} {T:TypeId} {fr:Nat × Nat} (h:w.heap[b]? = some (.cells (List.toArray (x0 :: x1 :: x2 :: x3 :: x4 :: x5 :: x6 :: x7 :: l)) T fr)):w.cell? ⟨b,7,none⟩ = some x7:=Lib.cell_of_heap h 7
theorem zc8 {w:World} {b:Nat} {x0 x1 x2 x3 x4 x5 x6 x7 x8:Value} {l:List Value} {T:TypeId} {fr:Nat × Nat} (h:w.heap[b]? = some (.cells (List.toArray (x0 :: x1 :: x2 :: x3 :: x4 :: x5 :: x6 :: x7 :: x8 :: l)) T fr)):w.cell? ⟨b,8,none⟩ = some x8:=Lib.cell_of_heap h 8
theorem zf (j:Nat) {w:World} {g:Nat} {cs:Array Value} {t:TypeId} (h:w.heap[g]? = some (.cells cs t (0,0))):w.frozen? ⟨g,j,none⟩ = false:=by simp [World.frozen?,h]
end
namespace RT
section
variable {P:Program} {ops:Array Oper} {Q:Exit→Act→World→Prop} {md:Region.Mode} {S:World→Prop} {n:Nat}
def Any (P:Program) (md:Region.Mode) (ops:Array Oper) (Q:Exit→Act→World→Prop) (S:World→Prop) (n:Nat):Nat→Array Bool→Act→World→Prop
 | 0,listed,a,w=>Region.ready md ops listed = []∧Q .normal a w
 | fuel + 1,listed,a,w =>
  (Region.ready md ops listed = []→Q .normal a w) ∧
  ∀ i ∈ Region.ready md ops listed,wpOp P ops Q i (fun a' w'=>(i < n→S w')∧Any P md ops Q S n fuel (listed.setIfInBounds i true) a' w') a w
theorem any_of:∀ (fuel:Nat) (listed:Array Bool) (a:Act) (w:World),Any P md ops Q S n fuel listed a w→wpAny P md ops Q fuel listed a w
 | 0,_,_,_,h=>h
 | fuel + 1,_,_,_,h=>⟨h.1,fun i hi=>wpOp_mono (fun a' w' h'=>any_of fuel _ a' w' h'.2) (h.2 i hi)⟩
def waitB (md:Region.Mode) (ops:Array Oper) (n i:Nat):Bool:=decide (i < n) && (List.range ops.size).all fun t=>decide (t < n) || Region.waitsFor md ops t i
theorem waitB_spec {i:Nat} (h:waitB md ops n i = true):i < n∧∀ (t:Nat) (ot:Oper),ops[t]? = some ot→(∀ e ∈ ot.after,Region.binds md e = true→e.on ≠ i)→t < n:=by
 simp only [waitB,Bool.and_eq_true,decide_eq_true_eq] at h;refine ⟨h.1,fun t ot ht hno=>?_⟩;have h1:=List.all_eq_true.1 h.2 t (List.mem_range.2 (Array.getElem?_eq_some_iff.1 ht).1);simp only [Bool.or_eq_true,decide_eq_true_eq] at h1;rcases h1 with h1 | h1
 ·exact h1
 ·obtain ⟨o',ho',e,he,hb,hon⟩:=Region.waitsFor_spec h1;have:o' = ot:=Option.some.inj (ho'.symm.trans ht);subst this;exact absurd hon (hno e he hb)
theorem first {T:World→Prop} {i:Nat} {oi:Oper} {v:Value} (hi:ops[i]? = some oi) (hsel:∀ (j:Nat) (o:Oper) cs b,ops[j]? = some o→o.op ≠ .select cs b)
  (hT:∀ (j:Nat) (oj:Oper) (w:World),ops[j]? = some oj→(∀ e ∈ oj.after,Region.binds md e = true→e.on ≠ i)→(j < n→S w)→T w) (hTS:∀ w,T w→i < n→S w)
  (hQ:∀ c a w,Q (.panic c) (a.put oi.dst v) w→Q (.panic c) a w) :
  ∀ (fuel:Nat) (listed:Array Bool) (a:Act) (w:World),
   (∀ j oj,ops[j]? = some oj→j ≠ i→listed.getD j true = false→(∀ e ∈ oj.after,Region.binds md e = true→e.on ≠ i)→oi.apart ops oj = true) →
   i ∈ Region.ready md ops listed→YieldsIf P ops T oi v a→T w →
   Any P md ops Q S n fuel (listed.setIfInBounds i true) (a.put oi.dst v) w→Any P md ops Q S n (fuel + 1) listed a w:=by
 intro fuel
 induction fuel with
 | zero =>
  intro listed a w _ hr hy hS H;refine ⟨fun h=>(by rw [h] at hr;cases hr),fun j hj=>?_⟩
  by_cases hji:j = i
  ·subst hji;exact hy.wpOp hi hS ⟨hTS w hS,H⟩
  ·have:=ready_mono hj hji;rw [H.1] at this;cases this
 | succ fuel ih =>
  intro listed a w hfree hr hy hS H;refine ⟨fun h=>(by rw [h] at hr;cases hr),fun j hj=>?_⟩
  by_cases hji:j = i
  ·subst hji;exact hy.wpOp hi hS ⟨hTS w hS,H⟩
  ·have h1:=H.2 j (ready_mono hj hji);obtain ⟨hjun,oj,hoj,hall⟩:=mem_ready.1 hj;have hnot:∀ e ∈ oj.after,Region.binds md e = true→e.on ≠ i:=fun e he hb heq=>by
    have h1:=hall e he hb;have h0:=(mem_ready.1 hr).1;rw [heq] at h1;rcases Nat.lt_or_ge i listed.size with h' | h'
    ·simp [h'] at h0 h1;rw [h0] at h1;cases h1
    ·simp [Array.getElem?_eq_none h'] at h1
   have h2:=wpOp_putIf hoj (hfree j oj hoj hji hjun hnot) (fun cs b=>hsel i oi cs b hi) (fun cs b=>hsel j oj cs b hoj) hQ hy h1;have hfree':∀ k ok,ops[k]? = some ok→k ≠ i→(listed.setIfInBounds j true).getD k true = false →
     (∀ e ∈ ok.after,Region.binds md e = true→e.on ≠ i)→oi.apart ops ok = true:=fun k ok hk hki hun hno=>by
    refine hfree k ok hk hki ?_ hno
    by_cases hjk:j = k
    ·subst hjk;exact hjun
    ·rw [getD_set_ne true hjk] at hun;exact hun
   refine wpOp_mono (fun a' w' h3=>⟨h3.2.1,ih (listed.setIfInBounds j true) a' w' hfree' (ready_mono hr (Ne.symm hji)) h3.1 (hT j oj w' hoj hnot h3.2.1) ?_⟩) h2;rw [Array.setIfInBounds_comm _ _ hji];exact h3.2.2
theorem take {i:Nat} {oi:Oper} {v:Value} {fuel:Nat} {listed:Array Bool} {a:Act} {w:World} (hi:ops[i]? = some oi)
  (hs:Region.noSelect ops = true) (hf:Region.free md ops listed i = true) (hr:(Region.ready md ops listed).contains i = true) (hw:waitB md ops n i = true)
  (hQ:∀ c a w,Q (.panic c) (a.put oi.dst v) w→Q (.panic c) a w) (hy:YieldsIf P ops S oi v a) (hS:S w)
  (h:Any P md ops Q S n fuel (listed.setIfInBounds i true) (a.put oi.dst v) w):Any P md ops Q S n (fuel + 1) listed a w :=
 first (T:=S) hi (Region.noSelect_spec hs) (fun j oj w hoj hno h=>h ((waitB_spec hw).2 j oj hoj hno)) (fun _ h _=>h) hQ fuel listed a w (Region.free_spec hi hf) (by simpa using hr) hy hS h
theorem tk {i:Nat} {oi:Oper} {v:Value} {fuel:Nat} {listed:Array Bool} {a:Act} {w:World} (hi:ops[i]? = some oi) (hS:S w) (hv:∀ w,S w→(execOp a.eval oi).run P w = .ok (.value v) w)
  (h:Any P md ops Q S n fuel (listed.setIfInBounds i true) (a.put oi.dst v) w)
  (hs:Region.noSelect ops = true:=by kernel_rfl) (hf:Region.free md ops listed i = true:=by kernel_rfl) (hr:(Region.ready md ops listed).contains i = true:=by kernel_rfl) (hw:waitB md ops n i = true:=by kernel_rfl)
  (hQ:∀ c a w,Q (.panic c) (a.put oi.dst v) w→Q (.panic c) a w:=by exact fun _ _ _ h=>h) (hg:Region.wanted oi (yielded ops a.tmps) = true:=by rfl):Any P md ops Q S n (fuel + 1) listed a w :=
 take hi hs hf hr hw hQ (.inl ⟨hg,hv⟩) hS h
theorem takeW {i:Nat} {oi:Oper} {v:Value} {fuel:Nat} {listed:Array Bool} {a:Act} {w:World} (hi:ops[i]? = some oi) (hn:n≤i)
  (hs:Region.noSelect ops = true) (hf:Region.free md ops listed i = true) (hr:(Region.ready md ops listed).contains i = true)
  (hQ:∀ c a w,Q (.panic c) (a.put oi.dst v) w→Q (.panic c) a w) (hy:YieldsIf P ops (fun _=>True) oi v a)
  (h:Any P md ops Q S n fuel (listed.setIfInBounds i true) (a.put oi.dst v) w):Any P md ops Q S n (fuel + 1) listed a w :=
 first (T:=fun _=>True) hi (Region.noSelect_spec hs) (fun _ _ _ _ _ _=>trivial) (fun _ _ h=>absurd h (by omega)) hQ fuel listed a w (Region.free_spec hi hf) (by simpa using hr) hy trivial h
def All (P:Program) (md:Region.Mode) (ops:Array Oper) (Q:Exit→Act→World→Prop) (S:World→Prop) (n fuel:Nat) (listed:Array Bool) (a:Act) (w:World) (rs:List Nat):Prop :=
 ∀ i ∈ rs,wpOp P ops Q i (fun a' w'=>(i < n→S w')∧Any P md ops Q S n fuel (listed.setIfInBounds i true) a' w') a w
theorem all {rs:List Nat} {fuel:Nat} {listed:Array Bool} {a:Act} {w:World} (hr:Region.ready md ops listed = rs) (hne:rs ≠ [])
  (h:All P md ops Q S n fuel listed a w rs):Any P md ops Q S n (fuel + 1) listed a w :=
 ⟨fun h0=>absurd (hr ▸ h0) hne,hr ▸ h⟩
theorem All.nil {fuel:Nat} {listed:Array Bool} {a:Act} {w:World}:All P md ops Q S n fuel listed a w []:=fun _ h=>by cases h
theorem All.cons {fuel:Nat} {listed:Array Bool} {a:Act} {w:World} {i:Nat} {o:Oper} {rs:List Nat} (ho:ops[i]? = some o)
  (h:∀ K':Act→World→Prop,(∀ a w,(i < n→S w)→Any P md ops Q S n fuel (listed.setIfInBounds i true) a w→K' a w)→if Region.wanted o (yielded ops a.tmps) = true then Oper.wp P o a w K' Q else K' (a.put o.dst undef) w)
  (hs:All P md ops Q S n fuel listed a w rs):All P md ops Q S n fuel listed a w (i :: rs):=fun j hj=>by
 rcases List.mem_cons.1 hj with rfl | hj
 ·exact wpOp_step ho fun K' hK=>h K' fun a w h1 h2=>hK a w ⟨h1,h2⟩
 ·exact hs j hj
theorem done {listed:Array Bool} {a:Act} {w:World} (hr:Region.ready md ops listed = []) (h:Q .normal a w):∀ fuel,Any P md ops Q S n fuel listed a w
 | 0=>⟨hr,h⟩
 | _ + 1=>⟨fun _=>h,by rw [hr];simp⟩
theorem begins (S:World→Prop) (n:Nat) {id:Nat} {a:Act} {w:World} (hm:P.follows .mixedOrders = true)
  (h:Any P .any ops Q S n ops.size (Array.replicate ops.size false) a w.drew):(Code.region id ops true).wp P Q a w :=
 wp_region_any hm (any_of _ _ _ _ h)
end
end RT
end Go.Proofs.YtjmpfihopeohbaaGreatDoor
namespace Go.Proofs.YtjmpfihopeohbaaGreatDoor
namespace RT
section
variable {P:Program} {ops:Array Oper} {Q:Exit→Act→World→Prop} {md:Region.Mode} {S:World→Prop} {n:Nat}
def Closed (md:Region.Mode) (ops:Array Oper) (listed:Array Bool):Prop :=
 ∀ (j:Nat) (oj:Oper),ops[j]? = some oj→listed.getD j false = true→∀ e ∈ oj.after,Region.binds md e = true→listed.getD e.on false = true
def closedB (md:Region.Mode) (ops:Array Oper) (listed:Array Bool):Bool :=
 (List.range ops.size).all fun j=>!listed.getD j false || (match ops[j]? with | some o=>o.after.all fun e=>!Region.binds md e || listed.getD e.on false | none=>true)
theorem closedB_spec {listed:Array Bool} (h:closedB md ops listed = true):Closed md ops listed:=by
 intro j oj hj hl e he hb;have h1:=List.all_eq_true.1 h j (List.mem_range.2 (Array.getElem?_eq_some_iff.1 hj).1);rw [hl,hj] at h1;simp only [Bool.not_true,Bool.false_or] at h1;have h2:=Array.all_eq_true'.1 h1 e he;rw [hb] at h2;simpa using h2
theorem Closed.set {listed:Array Bool} {j:Nat} (h:Closed md ops listed) (hj:j ∈ Region.ready md ops listed):Closed md ops (listed.setIfInBounds j true):=by
 intro x ox hx hl e he hb
 by_cases hjx:j = x
 ·subst hjx;obtain ⟨_,oj,hoj,hall⟩:=mem_ready.1 hj;have:ox = oj:=Option.some.inj (hx.symm.trans hoj);subst this;exact getD_set_true (hall e he hb)
 ·rw [getD_set_ne false hjx] at hl;exact getD_set_true (h x ox hx hl e he hb)
def waitsT (md:Region.Mode) (ops:Array Oper):Nat→Nat→Nat→Bool
 | 0,_,_=>false
 | f + 1,t,i=>match ops[t]? with
  | some o=>o.after.any fun e=>Region.binds md e && (e.on == i || waitsT md ops f e.on i)
  | none=>false
theorem waitsT_spec {listed:Array Bool} (hc:Closed md ops listed) (i:Nat):∀ (f t:Nat) (ot:Oper),ops[t]? = some ot→(∀ e ∈ ot.after,Region.binds md e = true→listed.getD e.on false = true)→waitsT md ops f t i = true→listed.getD i false = true
 | 0,_,_,_,_,h=>by simp [waitsT] at h
 | f + 1,t,ot,ht,hd,h=>by
  simp only [waitsT,ht] at h;obtain ⟨e,he,hb⟩:=Array.any_eq_true'.1 h;simp only [Bool.and_eq_true,Bool.or_eq_true,beq_iff_eq] at hb;have hl:=hd e he hb.1;rcases hb.2 with hb2 | hb2
  ·rw [← hb2];exact hl
  ·cases ho:ops[e.on]? with
   | none =>
    cases f with
    | zero=>simp [waitsT] at hb2
    | succ f=>simp [waitsT,ho] at hb2
   | some o=>exact waitsT_spec hc i f e.on o ho (fun e' he' hb'=>hc e.on o ho hl e' he' hb') hb2
end
end RT
end Go.Proofs.YtjmpfihopeohbaaGreatDoor
namespace Go.Proofs.YtjmpfihopeohbaaGreatDoor
namespace RN
section
variable {P:Program} {ops:Array Oper} {Q:Exit→Act→World→Prop} {md:Region.Mode} {S:World→Prop} {nd:List Nat}
def Any (P:Program) (md:Region.Mode) (ops:Array Oper) (Q:Exit→Act→World→Prop) (S:World→Prop) (nd:List Nat):Nat→Array Bool→Act→World→Prop
 | 0,listed,a,w=>Region.ready md ops listed = []∧Q .normal a w
 | fuel + 1,listed,a,w =>
  (Region.ready md ops listed = []→Q .normal a w) ∧
  ∀ i ∈ Region.ready md ops listed,wpOp P ops Q i (fun a' w'=>(nd.contains i = false→S w')∧Any P md ops Q S nd fuel (listed.setIfInBounds i true) a' w') a w
theorem any_of:∀ (fuel:Nat) (listed:Array Bool) (a:Act) (w:World),Any P md ops Q S nd fuel listed a w→wpAny P md ops Q fuel listed a w
 | 0,_,_,_,h=>h
 | fuel + 1,_,_,_,h=>⟨h.1,fun i hi=>wpOp_mono (fun a' w' h'=>any_of fuel _ a' w' h'.2) (h.2 i hi)⟩
def waitB (md:Region.Mode) (ops:Array Oper) (nd:List Nat) (listed:Array Bool) (i:Nat):Bool:=nd.all fun t=>listed.getD t true || RT.waitsT md ops ops.size t i
theorem first {T:World→Prop} {i:Nat} {oi:Oper} {v:Value} (hi:ops[i]? = some oi) (hsel:∀ (j:Nat) (o:Oper) cs b,ops[j]? = some o→o.op ≠ .select cs b)
  (hT:∀ w,(nd.contains i = false→S w)→T w) (hTS:∀ w,T w→nd.contains i = false→S w) (hTT:(∀ w,T w)∨nd.contains i = false)
  (hQ:∀ c a w,Q (.panic c) (a.put oi.dst v) w→Q (.panic c) a w) :
  ∀ (fuel:Nat) (listed:Array Bool) (a:Act) (w:World),RT.Closed md ops listed→((∀ w,T w)∨waitB md ops nd listed i = true) →
   (∀ j oj,ops[j]? = some oj→j ≠ i→listed.getD j true = false→(∀ e ∈ oj.after,Region.binds md e = true→e.on ≠ i)→oi.apart ops oj = true) →
   i ∈ Region.ready md ops listed→YieldsIf P ops T oi v a→T w →
   Any P md ops Q S nd fuel (listed.setIfInBounds i true) (a.put oi.dst v) w→Any P md ops Q S nd (fuel + 1) listed a w:=by
 intro fuel
 induction fuel with
 | zero =>
  intro listed a w _ _ _ hr hy hS H;refine ⟨fun h=>(by rw [h] at hr;cases hr),fun j hj=>?_⟩
  by_cases hji:j = i
  ·subst hji;exact hy.wpOp hi hS ⟨hTS w hS,H⟩
  ·have:=ready_mono hj hji;rw [H.1] at this;cases this
 | succ fuel ih =>
  intro listed a w hc hw hfree hr hy hS H;refine ⟨fun h=>(by rw [h] at hr;cases hr),fun j hj=>?_⟩
  by_cases hji:j = i
  ·subst hji;exact hy.wpOp hi hS ⟨hTS w hS,H⟩
  ·have h1:=H.2 j (ready_mono hj hji);obtain ⟨hjun,oj,hoj,hall⟩:=mem_ready.1 hj;have hiun:=(mem_ready.1 hr).1;have hnot:∀ e ∈ oj.after,Region.binds md e = true→e.on ≠ i:=fun e he hb heq=>by
    have h1:=hall e he hb;rw [heq] at h1;rcases Nat.lt_or_ge i listed.size with h' | h'
    ·simp [h'] at hiun h1;rw [hiun] at h1;cases h1
    ·simp [Array.getElem?_eq_none h'] at h1
   have hTw:∀ w',(nd.contains j = false→S w')→T w':=fun w' hsj=>by
    rcases hw with hw | hw
    ·exact hw w'
    ·rcases hTT with h | hni
     ·exact h w'
     ·refine hT w' fun _=>hsj ?_;cases hcj:nd.contains j with
      | false=>rfl
      | true =>
       exfalso;have hmem:j ∈ nd:=by simpa using hcj
       have h2:=List.all_eq_true.1 hw j hmem;rw [hjun] at h2;simp only [Bool.false_or] at h2;have h3:=RT.waitsT_spec hc i _ j oj hoj hall h2;rcases Nat.lt_or_ge i listed.size with h' | h'
       ·simp [h'] at hiun h3;rw [hiun] at h3;cases h3
       ·simp [Array.getElem?_eq_none h'] at h3
   have h2:=wpOp_putIf hoj (hfree j oj hoj hji hjun hnot) (fun cs b=>hsel i oi cs b hi) (fun cs b=>hsel j oj cs b hoj) hQ hy h1;have hfree':∀ k ok,ops[k]? = some ok→k ≠ i→(listed.setIfInBounds j true).getD k true = false →
     (∀ e ∈ ok.after,Region.binds md e = true→e.on ≠ i)→oi.apart ops ok = true:=fun k ok hk hki hun hno=>by
    refine hfree k ok hk hki ?_ hno
    by_cases hjk:j = k
    ·subst hjk;exact hjun
    ·rw [getD_set_ne true hjk] at hun;exact hun
   have hw':(∀ w,T w)∨waitB md ops nd (listed.setIfInBounds j true) i = true:=hw.imp id fun hw=>by
    refine List.all_eq_true.2 fun t ht=>?_;have h4:=List.all_eq_true.1 hw t ht
    by_cases hjt:j = t
    ·subst hjt;have hjs:j < listed.size:=by
      refine Classical.byContradiction fun hn=>?_;simp [Array.getElem?_eq_none (Nat.le_of_not_lt hn)] at hjun
     simp [hjs]
    ·rw [getD_set_ne true hjt];exact h4
   refine wpOp_mono (fun a' w' h3=>⟨h3.2.1,ih (listed.setIfInBounds j true) a' w' (hc.set hj) hw' hfree' (ready_mono hr (Ne.symm hji)) h3.1 (hTw w' h3.2.1) ?_⟩) h2;rw [Array.setIfInBounds_comm _ _ hji];exact h3.2.2
theorem take {i:Nat} {oi:Oper} {v:Value} {fuel:Nat} {listed:Array Bool} {a:Act} {w:World} (hi:ops[i]? = some oi) (hni:nd.contains i = false)
  (hs:Region.noSelect ops = true) (hf:Region.free md ops listed i = true) (hr:(Region.ready md ops listed).contains i = true) (hw:waitB md ops nd listed i = true) (hc:RT.closedB md ops listed = true)
  (hQ:∀ c a w,Q (.panic c) (a.put oi.dst v) w→Q (.panic c) a w) (hy:YieldsIf P ops S oi v a) (hS:S w)
  (h:Any P md ops Q S nd fuel (listed.setIfInBounds i true) (a.put oi.dst v) w):Any P md ops Q S nd (fuel + 1) listed a w :=
 first (T:=S) hi (Region.noSelect_spec hs) (fun w h=>h hni) (fun _ h _=>h) (.inr hni) hQ fuel listed a w (RT.closedB_spec hc) (.inr hw) (Region.free_spec hi hf) (by simpa using hr) hy hS h
theorem tk {i:Nat} {oi:Oper} {v:Value} {fuel:Nat} {listed:Array Bool} {a:Act} {w:World} (hi:ops[i]? = some oi) (hS:S w) (hv:∀ w,S w→(execOp a.eval oi).run P w = .ok (.value v) w)
  (h:Any P md ops Q S nd fuel (listed.setIfInBounds i true) (a.put oi.dst v) w) (hni:nd.contains i = false:=by decide)
  (hs:Region.noSelect ops = true:=by kernel_rfl) (hf:Region.free md ops listed i = true:=by kernel_rfl) (hr:(Region.ready md ops listed).contains i = true:=by kernel_rfl) (hw:waitB md ops nd listed i = true:=by kernel_rfl) (hc:RT.closedB md ops listed = true:=by kernel_rfl)
  (hQ:∀ c a w,Q (.panic c) (a.put oi.dst v) w→Q (.panic c) a w:=by first | exact fun _ _ _ h=>h | exact fun _ _ _ h=>(by cases h.1)) (hg:Region.wanted oi (yielded ops a.tmps) = true:=by rfl):Any P md ops Q S nd (fuel + 1) listed a w :=
 take hi hni hs hf hr hw hc hQ (.inl ⟨hg,hv⟩) hS h
theorem takeW {i:Nat} {oi:Oper} {v:Value} {fuel:Nat} {listed:Array Bool} {a:Act} {w:World} (hi:ops[i]? = some oi) (hni:nd.contains i = true)
  (hs:Region.noSelect ops = true) (hf:Region.free md ops listed i = true) (hr:(Region.ready md ops listed).contains i = true) (hc:RT.closedB md ops listed = true)
  (hQ:∀ c a w,Q (.panic c) (a.put oi.dst v) w→Q (.panic c) a w) (hy:YieldsIf P ops (fun _=>True) oi v a)
  (h:Any P md ops Q S nd fuel (listed.setIfInBounds i true) (a.put oi.dst v) w):Any P md ops Q S nd (fuel + 1) listed a w :=
 first (T:=fun _=>True) hi (Region.noSelect_spec hs) (fun _ _=>trivial) (fun _ _ h=>by rw [hni] at h;cases h) (.inl fun _=>trivial) hQ fuel listed a w (RT.closedB_spec hc) (.inl fun _=>trivial) (Region.free_spec hi hf) (by simpa using hr) hy trivial h
def All (P:Program) (md:Region.Mode) (ops:Array Oper) (Q:Exit→Act→World→Prop) (S:World→Prop) (nd:List Nat) (fuel:Nat) (listed:Array Bool) (a:Act) (w:World) (rs:List Nat):Prop :=
 ∀ i ∈ rs,wpOp P ops Q i (fun a' w'=>(nd.contains i = false→S w')∧Any P md ops Q S nd fuel (listed.setIfInBounds i true) a' w') a w
theorem all {rs:List Nat} {fuel:Nat} {listed:Array Bool} {a:Act} {w:World} (hr:Region.ready md ops listed = rs) (hne:rs ≠ [])
  (h:All P md ops Q S nd fuel listed a w rs):Any P md ops Q S nd (fuel + 1) listed a w :=
 ⟨fun h0=>absurd (hr ▸ h0) hne,hr ▸ h⟩
theorem All.nil {fuel:Nat} {listed:Array Bool} {a:Act} {w:World}:All P md ops Q S nd fuel listed a w []:=fun _ h=>by cases h
theorem All.cons {fuel:Nat} {listed:Array Bool} {a:Act} {w:World} {i:Nat} {o:Oper} {rs:List Nat} (ho:ops[i]? = some o)
  (h:∀ K':Act→World→Prop,(∀ a w,(nd.contains i = false→S w)→Any P md ops Q S nd fuel (listed.setIfInBounds i true) a w→K' a w)→if Region.wanted o (yielded ops a.tmps) = true then Oper.wp P o a w K' Q else K' (a.put o.dst undef) w)
  (hs:All P md ops Q S nd fuel listed a w rs):All P md ops Q S nd fuel listed a w (i :: rs):=fun j hj=>by
 rcases List.mem_cons.1 hj with rfl | hj
 ·exact wpOp_step ho fun K' hK=>h K' fun a w h1 h2=>hK a w ⟨h1,h2⟩
 ·exact hs j hj
theorem done {listed:Array Bool} {a:Act} {w:World} (hr:Region.ready md ops listed = []) (h:Q .normal a w):∀ fuel,Any P md ops Q S nd fuel listed a w
 | 0=>⟨hr,h⟩
 | _ + 1=>⟨fun _=>h,by rw [hr];simp⟩
theorem begins (S:World→Prop) (nd:List Nat) {id:Nat} {a:Act} {w:World} (hm:P.follows .mixedOrders = true)
  (h:Any P .any ops Q S nd ops.size (Array.replicate ops.size false) a w.drew):(Code.region id ops true).wp P Q a w :=
 wp_region_any hm (any_of _ _ _ _ h)
end
end RN
end Go.Proofs.YtjmpfihopeohbaaGreatDoor
