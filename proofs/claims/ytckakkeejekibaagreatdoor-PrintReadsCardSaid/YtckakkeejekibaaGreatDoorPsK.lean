/- What is read goes on. Pure. -/
import Derived.Test.YtckakkeejekibaaGreatDoorPsJ
namespace Go.Proofs.YtckakkeejekibaaGreatDoor
open Go.RowKit Go.Sort
namespace Ps
open j6 Pt Tr Sp Lx
def Down {T:Type} (s:ByteArray) (o:Tok) (r:Rs T):Prop:=∀ a q,r = .ok a q→mu s q≤mu s o∧dz s q
def fD {T:Type} (s:ByteArray) (o:Tok) (r:Rs T):Prop:=∀ a q,r = .ok a q→mu s q < mu s o∧dz s q
section
variable {T U:Type} {s:ByteArray} {o:Tok} {r:Rs T} {f:T→Tok→Rs U}
theorem Down.bad {i e:Nat}:Down s o (.bad i e:Rs T):=fun _ _ h=>by cases h
theorem fD.bad {i e:Nat}:fD s o (.bad i e:Rs T):=fun _ _ h=>by cases h
theorem Down.ok {a:T} (ho:dz s o):Down s o (.ok a o):=fun b q h=>by injection h with h1 h2;subst h2;exact ⟨vi _,ho⟩
theorem fD.to (h:fD s o r):Down s o r:=fun a q e=>⟨Nat.le_of_lt (h a q e).1,(h a q e).2⟩
theorem Down.bind (h:Down s o r) (hf:∀ a q,r = .ok a q→dz s q→Down s q (f a q)):Down s o (r.bind f):=by
 cases r with
 | bad i e=>exact Down.bad
 | ok a q =>
  intro b p hb;have h1:=h a q rfl;have h2:=hf a q rfl h1.2 b p hb;exact ⟨by omega,h2.2⟩
theorem fD.bind (h:fD s o r) (hf:∀ a q,r = .ok a q→dz s q→Down s q (f a q)):fD s o (r.bind f):=by
 cases r with
 | bad i e=>exact fD.bad
 | ok a q =>
  intro b p hb;have h1:=h a q rfl;have h2:=hf a q rfl h1.2 b p hb;exact ⟨by omega,h2.2⟩
theorem Down.Y5 (h:Down s o r) (hf:∀ a q,r = .ok a q→dz s q→fD s q (f a q)):fD s o (r.bind f):=by
 cases r with
 | bad i e=>exact fD.bad
 | ok a q =>
  intro b p hb;have h1:=h a q rfl;have h2:=hf a q rfl h1.2 b p hb;exact ⟨by omega,h2.2⟩
end
theorem jX {s:ByteArray} {o:Tok} (ho:dz s o) (hk:o.k ≠ 4):fD s o (dL s o):=fun _ _ h=>nH ho hk h
theorem eY {s:ByteArray} {o:Tok} {l:List ByteArray} (ho:dz s o) (hl:l.all (fun x=>x.size != 0) = true):Down s o (bO s l o):=by
 unfold bO;split
 ·rename_i h;exact ((jX ho (j5 ho hl h)).bind fun _ q _ hq=>Down.ok hq).to
 ·exact Down.ok ho
theorem bJ {s:ByteArray} {o:Tok} {l:List ByteArray} (ho:dz s o) (hl:l.all (fun x=>x.size != 0) = true):fD s o (aZ s l o):=by
 intro a q h;unfold aZ at h;cases hs:bO s l o with
 | bad i e=>rw [hs] at h;cases h
 | ok b p =>
  rw [hs] at h;cases b with
  | false=>cases h
  | true =>
   have:p = q:=by
    simp only [Rs.bind,if_true] at h;injection h
   subst this;exact qE ho hl hs
theorem aO (s:ByteArray):∀ n o,dz s o→Down s o (linesN s n o)
 | 0,_,_=>Down.bad
 | n + 1,o,ho=>by
  rw [linesN];refine (eY ho (by decide)).bind fun b q _ hq=>?_;split
  ·exact aO s n q hq
  ·exact Down.ok hq
theorem ma {s:ByteArray} {o:Tok} (ho:dz s o):fD s o (gV s o):=fun _ _ h=>tN ho h
theorem mg (s:ByteArray):∀ n l o,dz s o→Down s o (wordsN s n l o)
 | 0,_,_,_=>Down.bad
 | n + 1,l,o,ho=>by
  rw [wordsN];split
  ·exact ((ma ho).bind fun x q _ hq=>mg s n _ q hq).to
  ·exact Down.ok ho
theorem nI (s:ByteArray):∀ n l o,dz s o→Down s o (assignsN s n l o)
 | 0,_,_,_=>Down.bad
 | n + 1,l,o,ho=>by
  rw [assignsN];split
  ·rename_i hk;split
   ·exact ((jX ho (by omega)).bind fun x q _ hq=>nI s n _ q hq).to
   ·exact Down.ok ho
  ·exact Down.ok ho
theorem xy {s:ByteArray} {o:Tok} (ho:dz s o):fD s o (mI s o):=by
 unfold mI;split
 ·rename_i h;have hk:o.k ≠ 4:=by
   unfold iT at h;simp only [ud,beq_iff_eq] at h;omega
  exact (jX ho hk).bind fun _ q _ hq=>Down.ok hq
 ·exact fD.bad
theorem xz (s:ByteArray):∀ n l o,dz s o→Down s o (mJ s n l o)
 | 0,_,_,_=>Down.bad
 | n + 1,l,o,ho=>by
  rw [mJ];refine (eY ho (by decide)).bind fun b q _ hq=>?_;split
  ·exact ((ma hq).bind fun x q _ hq=>xz s n _ q hq).to
  ·exact Down.ok hq
theorem Ao {s:ByteArray} {o:Tok} (ho:dz s o):Down s o (lQ s o):=by
 unfold lQ;refine (eY ho (by decide)).bind fun b q _ hq=>(aO s _ q hq).bind fun _ q _ hq=>?_;split
 ·exact Down.ok hq
 ·refine (eY hq (by decide)).bind fun g q _ hq=>?_;split
  ·exact (mg s _ _ q hq).bind fun ws q _ hq=>(bJ hq (by decide)).to.bind fun _ q _ hq=>(aO s _ q hq).bind fun _ q _ hq=>Down.ok hq
  ·exact Down.ok hq
theorem yc {s:ByteArray} {c:CD} {o:Tok} (ho:dz s o):Down s o (je s c o):=by
 unfold je;split
 ·exact Down.ok ho
 ·exact (bJ ho (by decide)).to.bind fun _ q _ hq=>(aO s _ q hq).bind fun _ q _ hq=>Down.ok hq
structure Y6 (s:ByteArray) (n:Nat):Prop where
 list:∀ d ks bs o,dz s o→Down s o (listF s d n ks bs o)
 item:∀ d o,dz s o→Down s o (gW s d n o)
 mP:∀ d x o,dz s o→Down s o (itemL s d n x o)
 unit:∀ d o,dz s o→Down s o (fJ s d n o)
 command:∀ d o,dz s o→Down s o (aU s d n o)
 simple:∀ d o,dz s o→Down s o (dO s d n o)
 eP:∀ d o,dz s o→Down s o (aF s d n o)
 opened:∀ d t o,dz s o→Down s o (openedF s d n t o)
 loop:∀ d k o,dz s o→Down s o (loopF s d n k o)
 behind:∀ d t o,t.size ≠ 0→dz s o→fD s o (aS s d n t o)
 branch:∀ d o,dz s o→Down s o (bZ s d n o)
 each:∀ d o,dz s o→Down s o (iW s d n o)
 choice:∀ d o,dz s o→Down s o (dU s d n o)
 iN:∀ d x cs o,dz s o→Down s o (choiceL s d n x cs o)
 entry:∀ d o,dz s o→fD s o (eD s d n o)
theorem yR {s:ByteArray} {o:Tok} (ho:dz s o) (h:lg o = true):o.k ≠ 4:=j5 ho (by decide) h
theorem aX (s:ByteArray):∀ n,Y6 s n
 | 0=>by
  constructor <;> (intros;intro a q h;simp [listF,gW,itemL,fJ,aU,dO,aF,openedF,loopF,aS,bZ,iW,dU,choiceL,eD] at h)
 | n + 1=>by
  have ih:=aX s n;constructor
  ·intro d ks bs o ho;rw [listF];refine (ih.item d o ho).bind fun x q _ hq=>(eY hq (by decide)).bind fun b p _ hp=>?_;split
   ·refine (aO s _ p hp).bind fun _ q2 _ lH=>?_;split
    ·exact ih.list d _ _ q2 lH
    ·exact Down.ok lH
   ·exact Down.ok hp
  ·intro d o ho;rw [gW];exact (ih.unit d o ho).bind fun x q _ hq=>ih.mP d x q hq
  ·intro d x o ho;rw [itemL];split
   ·rename_i h;exact ((jX ho (j5 ho (by decide) h)).bind fun _ q _ hq=>(aO s _ q hq).bind fun _ q _ hq=>(ih.unit d q hq).bind fun y q _ hq=>ih.mP d _ q hq).to
   ·exact Down.ok ho
  ·intro d o ho;rw [fJ];refine (eY ho (by decide)).bind fun b q _ hq=>?_;split
   ·exact (ih.command d q hq).bind fun x q _ hq=>Down.ok hq
   ·exact ih.command d q hq
  ·intro d o ho;rw [aU];split
   ·exact ih.simple d o ho
   ·exact ih.eP d o ho
  ·intro d o ho;rw [dO];refine (nI s _ _ o ho).bind fun az p _ hp=>(mg s _ _ p hp).bind fun ws p _ hp=>?_;split
   ·refine (eY hp (by decide)).bind fun b q _ hq=>?_;split
    ·exact (bJ hq (by decide)).to.bind fun _ q _ hq=>(aO s _ q hq).bind fun _ q _ hq=>(ih.eP d q hq).bind fun x q _ hq=>Down.ok hq
    ·exact Down.ok hq
   ·exact Down.ok hp
  ·intro d o ho;rw [aF];split
   ·rename_i h;split
    ·exact Down.bad
    ·exact ((jX ho (yR ho h)).bind fun _ q _ hq=>ih.opened _ _ q hq).to
   ·exact Down.bad
  ·intro d t o ho;rw [openedF];split
   ·exact (aO s _ o ho).bind fun _ q _ hq=>(ih.list d _ _ q hq).bind fun x q _ hq=>(bJ hq (by decide)).to.bind fun _ q _ hq=>Down.ok hq
   ·split
    ·exact (aO s _ o ho).bind fun _ q _ hq=>(ih.list d _ _ q hq).bind fun x q _ hq=>(bJ hq (by decide)).to.bind fun _ q _ hq=>Down.ok hq
    ·split
     ·exact (ih.branch d o ho).bind fun x q _ hq=>(bJ hq (by decide)).to.bind fun _ q _ hq=>Down.ok hq
     ·split
      ·exact ih.loop d _ o ho
      ·split
       ·exact ih.loop d _ o ho
       ·split
        ·exact ih.each d o ho
        ·exact ih.choice d o ho
  ·intro d k o ho;rw [loopF];exact (aO s _ o ho).bind fun _ q _ hq=>(ih.list d _ _ q hq).bind fun x q _ hq=>(ih.behind d _ q (by decide) hq).to.bind fun y q _ hq=>(bJ hq (by decide)).to.bind fun _ q _ hq=>Down.ok hq
  ·intro d t o ht ho;rw [aS];exact (bJ ho (by simpa using ht)).bind fun _ q _ hq=>(aO s _ q hq).bind fun _ q _ hq=>ih.list d _ _ q hq
  ·intro d o ho;rw [bZ];refine (aO s _ o ho).bind fun _ q _ hq=>(ih.list d _ _ q hq).bind fun x q _ hq=>(ih.behind d _ q (by decide) hq).to.bind fun y q _ hq=>?_;split
   ·exact (ih.behind d _ q (by decide) hq).to.bind fun z q _ hq=>Down.ok hq
   ·split
    ·rename_i h;split
     ·exact Down.bad
     ·exact ((jX hq (j5 hq (by decide) h)).bind fun _ q _ hq=>(ih.branch _ q hq).bind fun z q _ hq=>Down.ok hq).to
    ·exact Down.ok hq
  ·intro d o ho;rw [iW];exact (xy ho).to.bind fun nm q _ hq=>(Ao hq).bind fun gw q _ hq=>(ih.behind d _ q (by decide) hq).to.bind fun y q _ hq=>(bJ hq (by decide)).to.bind fun _ q _ hq=>Down.ok hq
  ·intro d o ho;rw [dU];exact (ma ho).to.bind fun x q _ hq=>(aO s _ q hq).bind fun _ q _ hq=>(bJ hq (by decide)).to.bind fun _ q _ hq=>(aO s _ q hq).bind fun _ q _ hq=>ih.iN d x _ q hq
  ·intro d x cs o ho;rw [choiceL];refine (eY ho (by decide)).bind fun b q _ hq=>?_;split
   ·exact Down.ok hq
   ·exact (ih.entry d q hq).to.bind fun c q _ hq=>ih.iN d x _ q hq
  ·intro d o ho;rw [eD];refine (eY ho (by decide)).Y5 fun _ q _ hq=>(ma hq).bind fun x q _ hq=>(xz s _ _ q hq).bind fun ps q _ hq=>(bJ hq (by decide)).to.bind fun _ q _ hq=>(aO s _ q hq).bind fun _ q _ hq=>?_;split
   ·exact (ih.list d _ _ q hq).bind fun y q _ hq=>yc hq
   ·exact yc hq
end Ps
namespace Ps
open j6 Pt Tr Sp Lx
structure Fn {T:Type} (E:(Nat→Prop)→World→List Value→T→Prop) (k:Nat) (ty:TypeId) (S:Nat→Prop) (pb:Nat) (s:ByteArray) (d:Nat) (nb rb base:Nat) (w wr:World) (q:Tok) (v1:Value) (l:List T) (v2:Value) (bs:List Bool) (n r:Array Value) (tn:TypeId) (M:Nat→Prop) (G:World→Prop):Prop where
 hp:jl M wr pb s q d
 two:Two E k ty M nb rb base wr v1 l v2 bs n r tn
 sub:∀ b,M b→Up S w wr b
 fr:jU pb w wr
 pb:pb < w.heap.size
 ln:w.heap.size≤nb
 lr:w.heap.size≤rb
 lw:w.heap.size≤base
 lb:base≤wr.heap.size
 held:KS M wr G
section
variable {T:Type} {k:Nat} {E:(Nat→Prop)→World→List Value→T→Prop} {Q:World→Nat→Nat→T→Prop} {ty tn:TypeId} {S M:Nat→Prop} {pb d d' nb rb base:Nat} {s:ByteArray} {w wr w1 w3:World} {o q p:Tok} {v1 v2:Value} {l:List T} {bs:List Bool} {n r:Array Value} {xs vs:List Value} {t:T} {G G':World→Prop}
theorem Fn.below (hE:Elem k E Q) (h:Fn E k ty S pb s d nb rb base w wr q v1 l v2 bs n r tn M G) (hb:Below wr.heap.size wr w1):Fn E k ty S pb s d nb rb base w w1 q v1 l v2 bs n r tn M G :=
 ⟨h.hp.below hb,h.two.ch hE (Ch.below hb) (fun _ _ hf=>hf) (fun _ _ _ _ hf=>hf) (fun hf=>hf) (fun hf=>hf) (fun _ hb=>hb) fun _ hb=>.inl hb,fun b yV=>(h.sub b yV).imp id fun h=>by have:=hb.size;omega,h.fr.trans (jU.of_below hb),h.pb,h.ln,h.lr,h.lw,Nat.le_trans h.lb hb.size,
  h.held.to hb.size (fun b _ aB=>hb.block b aB) fun _ hb _=>hb⟩
theorem Fn.grow (hE:Elem k E Q) (h:Fn E k ty S pb s d nb rb base w wr q v1 l v2 bs n r tn M G) (hb:Below wr.heap.size wr w1):Fn E k ty S pb s d nb rb base w w1 q v1 l v2 bs n r tn (Up M wr w1) G :=
 ⟨(h.hp.below hb).up h.hp.pb,h.two.ch hE (Ch.below hb) (fun _ _ hf=>hf) (fun _ _ _ _ hf=>hf) (fun hf=>hf) (fun hf=>hf) (fun _ hb=>.inl hb) (fun _ hb=>hb.imp id (·.1)),fun b yV=>by
   have e1:=h.fr.size;have e2:=hb.size;rcases yV with yV | yV
   ·exact (h.sub b yV).imp id fun h=>by omega
   ·exact .inr (by omega),h.fr.trans (jU.of_below hb),h.pb,h.ln,h.lr,h.lw,Nat.le_trans h.lb hb.size,
   h.held.to hb.size (fun b _ aB=>hb.block b aB) fun _ hb _=>.inl hb⟩
theorem Fn.call (hE:Elem k E Q) (h:Fn E k ty S pb s d nb rb base w wr q v1 l v2 bs n r tn M G) (hf:jU pb wr w1) (hp:jl (Up M wr w1) w1 pb s p d'):Fn E k ty S pb s d' nb rb base w w1 p v1 l v2 bs n r tn (Up M wr w1) G:=by
 have l1:=h.pb;have l2:=h.ln;have l3:=h.lr;have l4:=h.lw;refine ⟨hp,h.two.ch hE (Ch.frP hf) (fun b hb e=>h.hp.ns (e ▸ hb)) (fun b hb _ _ e=>by omega) (fun e=>by omega) (fun e=>by omega) (fun _ hb=>.inl hb) (fun _ hb=>hb.imp id (·.1)),fun b hb=>?_,h.fr.trans hf,h.pb,h.ln,h.lr,h.lw,Nat.le_trans h.lb hf.size,h.held.to hf.size (fun b hb aB=>hf.block b aB fun e=>h.hp.ns (e ▸ hb)) fun _ hb _=>.inl hb⟩;have e1:=h.fr.size;have e2:=hf.size;rcases hb with hb | hb
 ·exact (h.sub b hb).imp id fun h=>by omega
 ·exact .inr (by omega)
theorem Fn.hold (h:Fn E k ty S pb s d nb rb base w wr q v1 l v2 bs n r tn M G) (hg:KS M wr G'):Fn E k ty S pb s d nb rb base w wr q v1 l v2 bs n r tn M (fun w2=>G w2∧G' w2) :=
 ⟨h.hp,h.two,h.sub,h.fr,h.pb,h.ln,h.lr,h.lw,h.lb,fun w2 hs hk=>⟨h.held w2 hs hk,hg w2 hs hk⟩⟩
theorem Fn.keep (h:Fn E k ty S pb s d nb rb base w wr q v1 l v2 bs n r tn M G) (hg:KS M wr G'):Fn E k ty S pb s d nb rb base w wr q v1 l v2 bs n r tn M G' :=
 ⟨h.hp,h.two,h.sub,h.fr,h.pb,h.ln,h.lr,h.lw,h.lb,hg⟩
theorem Fn.store (hE:Elem k E Q) (h:Fn E k ty S pb s d nb rb base w wr q v1 l v2 bs n r tn M G) (jD:nb ≠ rb) (i:Nat) (v:Value):Fn E k ty S pb s d nb rb base w (wr.setCell ⟨nb,i,none⟩ v) q v1 l v2 bs (n.setIfInBounds i v) r tn M G:=by
 have hc:=Ch.set wr nb i v;have l1:=h.pb;have l2:=h.ln
 exact ⟨h.hp.keep hc.size fun b hb aB=>hc.block b aB fun e=>by
  subst e;exact hb.elim h.two.kn fun hb=>by omega,h.two.store hE jD i v,fun b hb=>(h.sub b hb).imp id fun h=>by have:=hc.size;omega,hc.fr h.fr fun b hb=>.inr (by omega),h.pb,h.ln,h.lr,h.lw,Nat.le_trans h.lb hc.size,
  h.held.to hc.size (fun b hb aB=>hc.block b aB fun e=>h.two.kn (e ▸ hb)) fun _ hb _=>hb⟩
theorem Fn.put (hE:Elem k E Q) (h:Fn E k ty S pb s d nb rb base w wr q v1 l v2 bs n r tn M G) (jD:nb ≠ rb) {n':Array Value} (hc:Ch (fun b=>b = nb) wr w1) (hr:w1.heap[nb]? = some (.cells n' tn (0,0))):Fn E k ty S pb s d nb rb base w w1 q v1 l v2 bs n' r tn M G:=by
 have l1:=h.pb;have l2:=h.ln;have lr:=(zv h.two.rr).1
 refine ⟨h.hp.keep hc.size fun b hb aB=>hc.block b aB fun e=>?_,⟨h.two.r1.to hE hc.size (fun b hb aB=>hc.block b aB fun e=>?_) (fun b hb _=>hb) h.two.r1.out,h.two.r2.to x9 hc.size (fun b hb aB=>hc.block b aB fun e=>?_) (fun b hb _=>hb) h.two.r2.out,h.two.ne,hr,(hc.block _ lr (Ne.symm jD)).trans h.two.rr,h.two.kn,h.two.kr,h.two.q1,h.two.q2⟩,fun b hb=>(h.sub b hb).imp id fun h=>by have:=hc.size;omega,hc.fr h.fr fun b hb=>.inr (by omega),h.pb,h.ln,h.lr,h.lw,Nat.le_trans h.lb hc.size,
  h.held.to hc.size (fun b hb aB=>hc.block b aB fun e=>h.two.kn (e ▸ hb)) fun _ hb _=>hb⟩
 ·subst e;exact hb.elim h.two.kn fun hb=>by omega
 ·subst e;exact hb.elim h.two.kn fun hb=>(h.two.q1 _ hb).1 rfl
 ·subst e;exact hb.elim h.two.kn fun hb=>(h.two.q2 _ hb).1 rfl
theorem Fn.J4 (hE:Elem k E Q) (h:Fn E k ty S pb s d rb rb base w wr q v1 l v2 bs n r tn M G) {n':Array Value} (hc:Ch (fun b=>b = rb) wr w1) (hr:w1.heap[rb]? = some (.cells n' tn (0,0))):Fn E k ty S pb s d rb rb base w w1 q v1 l v2 bs n' n' tn M G:=by
 have l1:=h.pb;have l2:=h.ln
 refine ⟨h.hp.keep hc.size fun b hb aB=>hc.block b aB fun e=>?_,⟨h.two.r1.to hE hc.size (fun b hb aB=>hc.block b aB fun e=>?_) (fun b hb _=>hb) h.two.r1.out,h.two.r2.to x9 hc.size (fun b hb aB=>hc.block b aB fun e=>?_) (fun b hb _=>hb) h.two.r2.out,h.two.ne,hr,hr,h.two.kn,h.two.kr,h.two.q1,h.two.q2⟩,fun b hb=>(h.sub b hb).imp id fun h=>by have:=hc.size;omega,hc.fr h.fr fun b hb=>.inr (by omega),h.pb,h.ln,h.lr,h.lw,Nat.le_trans h.lb hc.size,
  h.held.to hc.size (fun b hb aB=>hc.block b aB fun e=>h.two.kn (e ▸ hb)) fun _ hb _=>hb⟩
 ·subst e;exact hb.elim h.two.kn fun hb=>by omega
 ·subst e;exact hb.elim h.two.kn fun hb=>(h.two.q1 _ hb).1 rfl
 ·subst e;exact hb.elim h.two.kn fun hb=>(h.two.q2 _ hb).1 rfl
theorem Fn.app1 (hE:Elem k E Q) (h:Fn E k ty S pb s d nb rb base w wr q v1 l v2 bs n r tn M G) (hx:dQ E M wr l xs) (ht:E M wr vs t) {g cap:Nat} (dR:w3.ownsRow base ty k (.slice (some ⟨g,0,none⟩) (l.length + 1) cap) (l.length + 1) (xs ++ vs)) (hg:wr.grownBy w3 v1.ownBlock) (gT:v1.ownBlock = some g∨g = wr.heap.size) :
  Fn E k ty S pb s d nb rb base w w3 q (.slice (some ⟨g,0,none⟩) (l.length + 1) cap) (l ++ [t]) v2 bs n r tn M G:=by
 have hc:=Ch.grown hg;have l1:=h.pb;have l2:=h.lw;have lt:=h.two.r1.lt
 exact ⟨h.hp.keep hc.size fun b hb aB=>hc.block b aB fun e=>hb.elim (h.two.r1.out b e) fun hb=>by have:=(lt b e).1;omega,h.two.app1 hE hx h.hp.lt ht dR hg gT,fun b hb=>(h.sub b hb).imp id fun h=>by have:=hc.size;omega,
  hc.fr h.fr fun b hb=>.inr (by have:=(lt b hb).1;omega),h.pb,h.ln,h.lr,h.lw,Nat.le_trans h.lb hc.size,h.held.to hc.size (fun b hb aB=>hc.block b aB fun e=>h.two.r1.out b e hb) fun _ hb _=>hb⟩
theorem Fn.Wl (hE:Elem k E Q) (h:Fn E k ty S pb s d nb rb base w wr q v1 l v2 bs n r tn M G) {x:Bool} (hx:dQ EB M wr bs xs) {g cap:Nat} (dR:w3.ownsRow base 4 1 (.slice (some ⟨g,0,none⟩) (bs.length + 1) cap) (bs.length + 1) (xs ++ [.bool x])) (hg:wr.grownBy w3 v2.ownBlock) (gT:v2.ownBlock = some g∨g = wr.heap.size) :
  Fn E k ty S pb s d nb rb base w w3 q v1 l (.slice (some ⟨g,0,none⟩) (bs.length + 1) cap) (bs ++ [x]) n r tn M G:=by
 have hc:=Ch.grown hg;have l1:=h.pb;have l2:=h.lw;have lt:=h.two.r2.lt
 exact ⟨h.hp.keep hc.size fun b hb aB=>hc.block b aB fun e=>hb.elim (h.two.r2.out b e) fun hb=>by have:=(lt b e).1;omega,h.two.Wl hE hx h.hp.lt dR hg gT,fun b hb=>(h.sub b hb).imp id fun h=>by have:=hc.size;omega,
  hc.fr h.fr fun b hb=>.inr (by have:=(lt b hb).1;omega),h.pb,h.ln,h.lr,h.lw,Nat.le_trans h.lb hc.size,h.held.to hc.size (fun b hb aB=>hc.block b aB fun e=>h.two.r2.out b e hb) fun _ hb _=>hb⟩
theorem Fn.ks (h:Fn E k ty S pb s d nb rb base w wr q v1 l v2 bs n r tn M G) {w1:World} (hc:Ch (fun b=>b = rb) wr w1):KS (Up S w w1) w1 G :=
 h.held.to hc.size (fun b hb aB=>hc.block b aB fun e=>h.two.kr (e ▸ hb)) fun b hb _=>(h.sub b hb).imp id fun h=>by have:=hc.size;omega
theorem Fn.done {U:Type} {V:(Nat→Prop)→World→Value→U→Prop} {a:U} {v:Value} (h:Fn E k ty S pb s d nb rb base w wr q v1 l v2 bs n r tn M G) (H:jl S w pb s o d') {w1:World} (hc:Ch (fun b=>b = rb) wr w1) (hv:V (Up S w w1) w1 v a):Does S pb s d w V (.ok a q) (.returned v) w1:=by
 have l1:=h.pb;have l2:=h.lr;have hf:=hc.fr h.fr fun b hb=>.inr (by omega);have hp:jl M w1 pb s q d:=h.hp.keep hc.size fun b hb aB=>hc.block b aB fun e=>by
  subst e;exact hb.elim h.two.kr fun hb=>by omega
 exact ⟨hf,⟨v,rfl,hv⟩,hp.mono (fun b hb=>(h.sub b hb).imp id fun h=>by have:=hc.size;omega) (Up.out H.ns H.pb) (Up.lt H.lt hf.size)⟩
theorem Fn.sl1 (hE:Elem k E Q) (h:Fn E k ty S pb s d nb rb base w wr q v1 l v2 bs n r tn M G) (hl:l.length≤R) {w1:World} (hc:Ch (fun b=>b = rb) wr w1):Ov k Q (Up S w w1) w1 v1 l:=by
 obtain ⟨a,cap,rfl,hks⟩:=h.two.r1.sl hE hl;have lt:=h.two.r1.lt;have l3:=h.lw;refine ⟨a,cap,rfl,hks.to hc.size (fun b hb aB=>hc.block b aB fun e=>?_) fun b hb aB=>?_⟩
 ·subst e;exact hb.elim h.two.kr fun hb=>(h.two.q1 _ hb).2 rfl
 ·rcases hb with hb | hb
  ·exact (h.sub b hb).imp id fun h=>by have:=hc.size;omega
  ·exact .inr (by have:=lt b hb;have:=hc.size;omega)
theorem Fn.sl2 (h:Fn E k ty S pb s d nb rb base w wr q v1 l v2 bs n r tn M G) (hl:bs.length≤R) {w1:World} (hc:Ch (fun b=>b = rb) wr w1):Ov 1 PB (Up S w w1) w1 v2 bs:=by
 obtain ⟨a,cap,rfl,hks⟩:=h.two.r2.sl x9 hl;have lt:=h.two.r2.lt;have l3:=h.lw;refine ⟨a,cap,rfl,hks.to hc.size (fun b hb aB=>hc.block b aB fun e=>?_) fun b hb aB=>?_⟩
 ·subst e;exact hb.elim h.two.kr fun hb=>(h.two.q2 _ hb).2 rfl
 ·rcases hb with hb | hb
  ·exact (h.sub b hb).imp id fun h=>by have:=hc.size;omega
  ·exact .inr (by have:=lt b hb;have:=hc.size;omega)
theorem Fn.start {r:Array Value} {tn:TypeId} (H:jl S w pb s o d):Fn E k ty S pb s d w.heap.size w.heap.size w.heap.size w (w.alloc (.cells r tn)) o (.slice none 0 0) [] (.slice none 0 0) [] r r tn S (fun _=>True):=by
 have hb:=ax w (.cells r tn);exact ⟨H.below hb,⟨Row.nil _ _ _ _,Row.nil _ _ _ _,(fun _ h=>by cases h),ay _ _,ay _ _,(fun hk=>by have:=H.lt _ hk;omega),(fun hk=>by have:=H.lt _ hk;omega),(fun _ h=>by cases h),fun _ h=>by cases h⟩,fun b hb=>.inl hb,jU.of_below hb,H.pb,vi _,vi _,vi _,hb.size,fun _ _ _=>trivial⟩
theorem Fn.var {T':Type} {E':(Nat→Prop)→World→List Value→T'→Prop} {k':Nat} {ty':TypeId} {v1':Value} {l':List T'} {n':Array Value} (hE:Elem k E Q) (h:Fn E k ty S pb s d nb rb base w wr q v1 l v2 bs n r tn M G) (hr:Row E' k' ty' w.heap.size M (wr.alloc (.cells n' tn)) v1' l')
  (hq:∀ g,v1'.ownBlock = some g→g ≠ wr.heap.size∧g ≠ rb):Fn E' k' ty' S pb s d wr.heap.size rb w.heap.size w (wr.alloc (.cells n' tn)) q v1' l' (.slice none 0 0) [] n' r tn M G:=by
 have hb:=ax wr (.cells n' tn);have h2:=h.below hE hb;exact ⟨h2.hp,⟨hr,Row.nil _ _ _ _,(fun _ _ h=>by cases h),ay _ _,h2.two.rr,(fun hk=>by have:=h.hp.lt _ hk;omega),h2.two.kr,hq,(fun _ h=>by cases h)⟩,h2.sub,h2.fr,h2.pb,h.fr.size,h2.lr,vi _,Nat.le_trans h.fr.size hb.size,h2.held⟩
end
theorem KS.row {T:Type} {k:Nat} {E:(Nat→Prop)→World→List Value→T→Prop} {Q:World→Nat→Nat→T→Prop} (hE:Elem k E Q) {M:Nat→Prop} {w:World} {l:List T} {row:Array Value} {ty:TypeId} {m:Nat} (h:dQ E M w l row.toList) (hm:l.length = m) (hl:m≤R) :
  KS (Up M w (w.alloc (.cells row ty))) (w.alloc (.cells row ty)) fun w2=>Sl k (Q w2) (some ⟨w.heap.size,0,none⟩) m l:=fun w2 hs hk=>by
 subst hm;have hb:=ax w (.cells row ty);refine ⟨vi _,hl,.inr ⟨_,0,rfl,?_⟩⟩;have h2:dQ E M w2 l row.toList:=dQ.to hE (Nat.le_trans hb.size hs) (fun b yV aB=>(hk b (.inl yV) (kd aB hb.size)).trans (hb.block b aB)) (fun _ hb _=>hb) h;refine dQ.chain hE h2 fun j u hu=>?_;have hr:=(hk w.heap.size (.inr ⟨vi _,by simp⟩) (by simp)).trans (ay w (.cells row ty));rw [Nat.zero_add,kz hr];simpa using hu
theorem iU (S:Nat→Prop) (pb:Nat) (s:ByteArray) (o:Tok) (d:Nat) (hd:d≤200) (w:World) (h:jl S w pb s o (d + 1)) :
  Calls Tryz.prog 199 #[.pointer (some ⟨pb,0,none⟩)] w (Does S pb s d w uj (.ok () o)) :=
 (Nc S pb s o d hd w h).mono fun _ _ ⟨he,hf,_,hp⟩=>⟨hf,⟨_,he,rfl⟩,hp.mono (fun _ hb=>.inl hb) (Up.out h.ns h.pb) (Up.lt h.lt hf.size)⟩
theorem GR {s:ByteArray} {d:Nat} {o q:Tok} {u:Unit} (hd:d≤200) (h:l9 s d o = .ok u q):d + 1≤200:=by
 unfold l9 at h;split at h
 ·cases h
 ·omega
theorem Ap {s:ByteArray} {d:Nat} {o:Tok} (ho:dz s o) (hk:o.k ≠ 4):fD s o (l9 s d o):=by
 unfold l9;split
 ·exact fD.bad
 ·exact jX ho hk
theorem Aq {T:Type} {s:ByteArray} {d:Nat} {o:Tok} {f:Unit→Tok→Rs T}:(l9 s d o).bind f = if d = 200 then .bad o.i 2 else (dL s o).bind f:=by
 unfold l9;split <;> rfl
theorem EN.ks {M:Nat→Prop} {w:World} {x:ND} {a1 a2 a3 a4 a5:Option Addr} {c1 c2 c3 c4 c5:Nat} (h:HoldsK M w x a1 c1 a2 c2 a3 c3 a4 c4 a5 c5):EN M w (Iu x a1 c1 a2 c2 a3 c3 a4 c4 a5 c5) x:=⟨a1,c1,a2,c2,a3,c3,a4,c4,a5,c5,rfl,h⟩
end Ps
end Go.Proofs.YtckakkeejekibaaGreatDoor
