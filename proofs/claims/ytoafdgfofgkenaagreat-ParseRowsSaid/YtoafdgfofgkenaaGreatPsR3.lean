/- What is read is right. Pure. -/
/- What is read is right: all of the grammar. Pure. -/
/- What is wrong is wrong at a token; fuel is enough. Pure. -/
import Derived.Test.YtoafdgfofgkenaaGreatPsPb
import Derived.Test.YtoafdgfofgkenaaGreatTrI
namespace Go.Proofs.YtoafdgfofgkenaaGreat
open Go.RowKit Go.Sort
namespace Ps
open Cls Pt Tr Sp Lx
structure Good (s:ByteArray) (o:Tok):Prop where
 ok:TokOK s o
 r:o.k = 1→rightW o.l = true
def Yes {T:Type} (s:ByteArray) (P:T→Tok→Prop) (r:Rs T):Prop:=∀ a q,r = .ok a q→P a q∧Good s q
section
variable {T U:Type} {s:ByteArray} {o:Tok} {r:Rs T} {f:T→Tok→Rs U} {P P':T→Tok→Prop} {P2:U→Tok→Prop}
theorem Yes.bad {i e:Nat}:Yes s P (.bad i e):=fun _ _ h=>by cases h
theorem Yes.ok {a:T} (h:P a o) (ho:Good s o):Yes s P (.ok a o):=fun b q e=>by injection e with e1 e2;subst e1;subst e2;exact ⟨h,ho⟩
theorem Yes.bind (h:Yes s P r) (hf:∀ a q,P a q→Good s q→Yes s P2 (f a q)):Yes s P2 (r.bind f):=by
 cases r with
 | bad i e=>exact Yes.bad
 | ok a q=>exact hf a q (h a q rfl).1 (h a q rfl).2
theorem Yes.imp (h:Yes s P r) (hp:∀ a q,P a q→P' a q):Yes s P' r:=fun a q e=>⟨hp a q (h a q e).1,(h a q e).2⟩
end
abbrev Any (T:Type):T→Tok→Prop:=fun _ _=>True
def NR (x:ND) (D:Nat):Prop:=nodeR x.k x.nm x.g x.az x.ws x.ks x.bs x.cz D = true
def CR (c:CD) (D:Nat):Prop:=c.1.all rightW = true∧c.1 ≠ []∧c.2.length≤1∧∀ x ∈ c.2,bodyB x.k x.ks.len = true∧NR x D
end Ps
end Go.Proofs.YtoafdgfofgkenaaGreat
namespace Go.Proofs.YtoafdgfofgkenaaGreat
open Go.RowKit Go.Sort
namespace Ps
open Cls Pt Tr Sp Lx
def LR (x:ND) (D:Nat):Prop:=x.k = 5∧0 < x.ks.len∧NR x D
theorem LR.body {x:ND} {D:Nat} (h:LR x D):bodyB x.k x.ks.len = true:=by
 unfold bodyB
 rw [h.1]
 simp only [Bool.and_eq_true,decide_eq_true_eq]
 exact ⟨rfl,h.2.1⟩
structure Yess (s:ByteArray) (n:Nat):Prop where
 list:∀ d ks bs o,d≤200→Good s o→(∀ x ∈ ks,itemB x.k = true∧NR x (d + 1))→bs.length = ks.length→Yes s (fun x _=>LR x (d + 1)) (listF s d n ks bs o)
 item:∀ d o,d≤200→Good s o→Yes s (fun x _=>itemB x.k = true∧NR x (d + 1)) (itemF s d n o)
 iteml:∀ d x o,d≤200→Good s o→itemB x.k = true→NR x (d + 1)→Yes s (fun x _=>itemB x.k = true∧NR x (d + 1)) (itemL s d n x o)
 unit:∀ d o,d≤200→Good s o→Yes s (fun x _=>unitB x.k = true∧NR x (d + 1)) (unitF s d n o)
 command:∀ d o,d≤200→Good s o→Yes s (fun x _=>commandB x.k = true∧NR x (d + 1)) (commandF s d n o)
 simple:∀ d o,d≤200→Good s o→simplyB o = true→Yes s (fun x _=>commandB x.k = true∧NR x (d + 1)) (simpleF s d n o)
 compound:∀ d o,d≤200→Good s o→Yes s (fun x _=>compoundB x.k = true∧NR x (d + 1)∧d + 1≤200) (compoundF s d n o)
 opened:∀ d t o,d≤200→Good s o→Yes s (fun x _=>compoundB x.k = true∧NR x d) (openedF s d n t o)
 loop:∀ d k o,(k = 7∨k = 8)→d≤200→Good s o→Yes s (fun x _=>compoundB x.k = true∧NR x d) (loopF s d n k o)
 behind:∀ d t o,d≤200→Good s o→Yes s (fun x _=>LR x (d + 1)) (behindF s d n t o)
 branch:∀ d o,d≤200→Good s o→Yes s (fun x _=>x.k = 6∧NR x d) (branchF s d n o)
 each:∀ d o,d≤200→Good s o→Yes s (fun x _=>compoundB x.k = true∧NR x d) (eachF s d n o)
 choice:∀ d o,d≤200→Good s o→Yes s (fun x _=>compoundB x.k = true∧NR x d) (choiceF s d n o)
 choicel:∀ d x cs o,d≤200→Good s o→rightW x = true→(∀ c ∈ cs,CR c (d + 1))→Yes s (fun x _=>compoundB x.k = true∧NR x d) (choiceL s d n x cs o)
 entry:∀ d o,d≤200→Good s o→Yes s (fun c _=>CR c (d + 1)) (entryF s d n o)
end Ps
end Go.Proofs.YtoafdgfofgkenaaGreat
namespace Go.Proofs.YtoafdgfofgkenaaGreat
open Go.RowKit Go.Sort
namespace Ps
open Cls Pt Tr Sp Lx
def toks (s:ByteArray):List Tok:=scanF (s.size + 1) s 0
theorem scan_next {s:ByteArray} {o:Tok}:∀ (n i:Nat),i≤s.size→s.size - i < n→o ∈ scanF n s i→stopT o = false→tokAt s o.j ∈ scanF n s i
 | 0,_,_,h,_,_=>by omega
 | n + 1,i,hi,hn,hm,hs=>by
  rw [scanF] at hm ⊢
  rcases List.mem_cons.1 hm with rfl | hm
  ·have hg:=(tok_good s i hi).2.2.2.2 hs
   rw [hs]
   obtain ⟨n,rfl⟩:∃ m,n = m + 1:=⟨n - 1,by omega⟩
   refine List.mem_cons_of_mem _ ?_
   rw [if_neg (by decide),scanF]
   exact List.mem_cons_self
  ·cases hst:stopT (tokAt s i)
   ·rw [hst,if_neg (by decide)] at hm
    have hg:=(tok_good s i hi).2.2.2.2 hst
    refine List.mem_cons_of_mem _ ?_
    rw [if_neg (by decide)]
    exact scan_next n _ hg.2.2 (by omega) hm hs
   ·rw [hst,if_pos rfl] at hm
    cases hm
structure Fine (s:ByteArray) (o:Tok):Prop where
 ok:TokOK s o
 tk:o ∈ toks s
 n5:o.k ≠ 5
def E {T:Type} (s:ByteArray) (r:Rs T):Prop:=(∀ i e,r = .bad i e→e ≠ 0∧∃ t ∈ toks s,t.i = i)∧∀ a q,r = .ok a q→Fine s q
section
variable {T U:Type} {s:ByteArray} {o:Tok} {r:Rs T} {f:T→Tok→Rs U}
theorem E.bad {e:Nat} (ho:Fine s o) (he:e ≠ 0):E s (.bad o.i e:Rs T):=⟨fun i e' h=>by injection h with h1 h2;subst h1;subst h2;exact ⟨he,o,ho.tk,rfl⟩,fun _ _ h=>by cases h⟩
theorem E.ok {a:T} (ho:Fine s o):E s (.ok a o):=⟨(fun _ _ h=>by cases h),fun b q h=>by injection h with h1 h2;subst h2;exact ho⟩
theorem E.bind (h:E s r) (hf:∀ a q,r = .ok a q→Fine s q→E s (f a q)):E s (r.bind f):=by
 cases r with
 | bad i e=>exact ⟨fun j g hj=>by have:Rs.bad i e = (Rs.bad j g:Rs U):=hj;injection this with h1 h2;subst h1;subst h2;exact h.1 i e rfl,fun _ _ h=>by cases h⟩
 | ok a q=>exact hf a q rfl (h.2 a q rfl)
end
theorem next_tok {s:ByteArray} {j:Nat} (hj:j≤s.size) (hm:tokAt s j ∈ toks s):E s (if (tokAt s j).k = 5 then .bad (tokAt s j).i (tokAt s j).err else .ok () (tokAt s j)):=by
 split
 ·rename_i h5
  exact ⟨fun i e h=>by injection h with h1 h2;subst h1;subst h2;exact ⟨(tok_good s j hj).2.2.2.1.1 h5,_,hm,rfl⟩,fun _ _ h=>by cases h⟩
 ·rename_i h5
  exact E.ok ⟨tok_ok s j hj,hm,h5⟩
theorem next_e {s:ByteArray} {o:Tok} (ho:Fine s o) (hk:o.k ≠ 4):E s (nextF s o):=by
 have hst:stopT o = false:=by
  have:=ho.n5
  simp [stopT,hk,this]
 exact next_tok ho.ok.j (scan_next _ 0 (Nat.zero_le _) (by omega) ho.tk hst)
theorem next0_e (s:ByteArray):E s (nextF s o0):=next_tok (Nat.zero_le _) (by
 show tokAt s 0 ∈ scanF (s.size + 1) s 0
 rw [scanF]
 exact List.mem_cons_self)
theorem skip_e {s:ByteArray} {o:Tok} {l:List ByteArray} (ho:Fine s o) (hl:l.all (fun x=>x.size != 0) = true):E s (skipF s l o):=by
 unfold skipF
 split
 ·rename_i h
  exact (next_e ho (sees_k ho.ok hl h)).bind fun _ q _ hq=>E.ok hq
 ·exact E.ok ho
theorem take_e {s:ByteArray} {o:Tok} {l:List ByteArray} (ho:Fine s o) (hl:l.all (fun x=>x.size != 0) = true):E s (takeF s l o):=by
 unfold takeF
 refine (skip_e ho hl).bind fun b q _ hq=>?_
 split
 ·exact E.ok hq
 ·exact E.bad hq (by decide)
theorem lines_e {s:ByteArray}:∀ n o,Fine s o→mu s o < n→E s (linesN s n o)
 | 0,_,_,h=>by omega
 | n + 1,o,ho,hm=>by
  rw [linesN]
  refine (skip_e ho (by decide)).bind fun b q h hq=>?_
  split
  ·rename_i hb
   subst hb
   exact lines_e n q hq (by have:=(skip_mu ho.ok (by decide) h).1;omega)
  ·exact E.ok hq
theorem word_e {s:ByteArray} {o:Tok} (ho:Fine s o):E s (wordF s o):=by
 unfold wordF
 split
 ·exact (next_e ho (by omega)).bind fun _ q _ hq=>E.ok hq
 ·exact E.bad ho (by decide)
theorem words_e {s:ByteArray}:∀ n l o,Fine s o→mu s o < n→E s (wordsN s n l o)
 | 0,_,_,_,h=>by omega
 | n + 1,l,o,ho,hm=>by
  rw [wordsN]
  split
  ·exact (word_e ho).bind fun x q h hq=>words_e n _ q hq (by have:=(word_mu ho.ok h).1;omega)
  ·exact E.ok ho
theorem assigns_e {s:ByteArray}:∀ n l o,Fine s o→mu s o < n→E s (assignsN s n l o)
 | 0,_,_,_,h=>by omega
 | n + 1,l,o,ho,hm=>by
  rw [assignsN]
  split
  ·rename_i hk
   split
   ·exact (next_e ho (by omega)).bind fun x q h hq=>assigns_e n _ q hq (by have:=(next_mu ho.ok (by omega) h).1;omega)
   ·exact E.ok ho
  ·exact E.ok ho
theorem name_e {s:ByteArray} {o:Tok} (ho:Fine s o):E s (nameF s o):=by
 unfold nameF
 split
 ·rename_i h
  have hk:o.k ≠ 4:=by
   unfold namedB at h
   simp only [Bool.and_eq_true,beq_iff_eq] at h
   omega
  exact (next_e ho hk).bind fun _ q _ hq=>E.ok hq
 ·exact E.bad ho (by decide)
theorem pats_e {s:ByteArray}:∀ n l o,Fine s o→mu s o < n→E s (patsN s n l o)
 | 0,_,_,_,h=>by omega
 | n + 1,l,o,ho,hm=>by
  rw [patsN]
  refine (skip_e ho (by decide)).bind fun b q h hq=>?_
  split
  ·rename_i hb
   subst hb
   have h1:=(skip_mu ho.ok (by decide) h).1
   exact (word_e hq).bind fun x q2 h2 hq2=>pats_e n _ q2 hq2 (by have:=(word_mu hq.ok h2).1;omega)
  ·exact E.ok hq
theorem linesF_e {s:ByteArray} {o:Tok} (ho:Fine s o):E s (linesF s o):=lines_e _ o ho (mu_F s o)
theorem eachW_e {s:ByteArray} {o:Tok} (ho:Fine s o):E s (eachW s o):=by
 unfold eachW
 refine (skip_e ho (by decide)).bind fun b q _ hq=>(linesF_e hq).bind fun _ q _ hq=>?_
 split
 ·exact E.ok hq
 ·refine (skip_e hq (by decide)).bind fun g q _ hq=>?_
  split
  ·exact (words_e _ _ q hq (mu_F s q)).bind fun ws q _ hq=>(take_e hq (by decide)).bind fun _ q _ hq=>(linesF_e hq).bind fun _ q _ hq=>E.ok hq
  ·exact E.ok hq
theorem entryE_e {s:ByteArray} {c:CD} {o:Tok} (ho:Fine s o):E s (entryE s c o):=by
 unfold entryE
 split
 ·exact E.ok ho
 ·exact (take_e ho (by decide)).bind fun _ q _ hq=>(linesF_e hq).bind fun _ q _ hq=>E.ok hq
structure Es (s:ByteArray) (n:Nat):Prop where
 list:∀ d ks bs o,Fine s o→10 * mu s o + 6 < n→E s (listF s d n ks bs o)
 item:∀ d o,Fine s o→10 * mu s o + 5 < n→E s (itemF s d n o)
 iteml:∀ d x o,Fine s o→10 * mu s o < n→E s (itemL s d n x o)
 unit:∀ d o,Fine s o→10 * mu s o + 4 < n→E s (unitF s d n o)
 command:∀ d o,Fine s o→10 * mu s o + 3 < n→E s (commandF s d n o)
 simple:∀ d o,Fine s o→10 * mu s o + 2 < n→simplyB o = true→E s (simpleF s d n o)
 compound:∀ d o,Fine s o→10 * mu s o + 1 < n→E s (compoundF s d n o)
 opened:∀ d t o,Fine s o→10 * mu s o + 8 < n→E s (openedF s d n t o)
 loop:∀ d k o,Fine s o→10 * mu s o + 7 < n→E s (loopF s d n k o)
 behind:∀ d t o,t.size ≠ 0→Fine s o→10 * mu s o + 1 < n→E s (behindF s d n t o)
 branch:∀ d o,Fine s o→10 * mu s o + 7 < n→E s (branchF s d n o)
 each:∀ d o,Fine s o→10 * mu s o + 1 < n→E s (eachF s d n o)
 choice:∀ d o,Fine s o→10 * mu s o + 1 < n→E s (choiceF s d n o)
 choicel:∀ d x cs o,Fine s o→10 * mu s o + 2 < n→E s (choiceL s d n x cs o)
 entry:∀ d o,Fine s o→10 * mu s o + 1 < n→E s (entryF s d n o)
theorem lines_mu {s:ByteArray} {o q:Tok} {u:Unit} (ho:TokOK s o) (h:linesF s o = .ok u q):mu s q≤mu s o:=(lines_down s _ o ho u q h).1
theorem take_mu {s:ByteArray} {o q:Tok} {u:Unit} {l:List ByteArray} (ho:TokOK s o) (hl:l.all (fun x=>x.size != 0) = true) (h:takeF s l o = .ok u q):mu s q < mu s o:=(take_down ho hl u q h).1
theorem skip_le {s:ByteArray} {o q:Tok} {b:Bool} {l:List ByteArray} (ho:TokOK s o) (hl:l.all (fun x=>x.size != 0) = true) (h:skipF s l o = .ok b q):mu s q≤mu s o:=(skip_down ho hl b q h).1
theorem es_all (s:ByteArray):∀ n,Es s n
 | 0=>by constructor <;> intros <;> omega
 | n + 1=>by
  have ih:=es_all s n
  have dn:=downs_all s n
  constructor
  ·intro d ks bs o ho hn
   rw [listF]
   refine (ih.item d o ho (by omega)).bind fun x q h1 hq=>(skip_e hq (by decide)).bind fun b p h2 hp=>?_
   have e1:=(dn.item d o ho.ok x q h1).1
   split
   ·rename_i hb
    subst hb
    have e2:=(skip_mu hq.ok (by decide) h2).1
    refine (linesF_e hp).bind fun _ q2 h3 hq2=>?_
    have e3:=lines_mu hp.ok h3
    split
    ·exact ih.list d _ _ q2 hq2 (by omega)
    ·exact E.ok hq2
   ·exact E.ok hp
  ·intro d o ho hn
   rw [itemF]
   exact (ih.unit d o ho (by omega)).bind fun x q h hq=>ih.iteml d x q hq (by have:=(dn.unit d o ho.ok x q h).1;omega)
  ·intro d x o ho hn
   rw [itemL]
   split
   ·rename_i h
    refine (next_e ho (sees_k ho.ok (by decide) h)).bind fun _ q h1 hq=>(linesF_e hq).bind fun _ q2 h2 hq2=>?_
    have e1:=(next_mu ho.ok (sees_k ho.ok (by decide) h) h1).1
    have e2:=lines_mu hq.ok h2
    exact (ih.unit d q2 hq2 (by omega)).bind fun y q3 h3 hq3=>ih.iteml d _ q3 hq3 (by have:=(dn.unit d q2 hq2.ok y q3 h3).1;omega)
   ·exact E.ok ho
  ·intro d o ho hn
   rw [unitF]
   refine (skip_e ho (by decide)).bind fun b q h hq=>?_
   have e1:=skip_le ho.ok (by decide) h
   split
   ·exact (ih.command d q hq (by omega)).bind fun x q _ hq=>E.ok hq
   ·exact ih.command d q hq (by omega)
  ·intro d o ho hn
   rw [commandF]
   split
   ·rename_i h
    exact ih.simple d o ho (by omega) h
   ·exact ih.compound d o ho (by omega)
  ·intro d o ho hn hs
   rw [simpleF]
   refine (assigns_e _ _ o ho (mu_F s o)).bind fun az p h1 hp=>(words_e _ _ p hp (mu_F s p)).bind fun ws p2 h2 hp2=>?_
   have e1:=(assigns_down s _ _ o ho.ok az p h1).1
   have e2:=(words_down s _ _ p hp.ok ws p2 h2).1
   split
   ·refine (skip_e hp2 (by decide)).bind fun b q h3 hq=>?_
    split
    ·rename_i hb
     subst hb
     have e3:=(skip_mu hp2.ok (by decide) h3).1
     refine (take_e hq (by decide)).bind fun _ q2 h4 hq2=>(linesF_e hq2).bind fun _ q3 h5 hq3=>?_
     have e4:=take_mu hq.ok (by decide) h4
     have e5:=lines_mu hq2.ok h5
     exact (ih.compound d q3 hq3 (by omega)).bind fun x q _ hq=>E.ok hq
    ·exact E.ok hq
   ·exact E.ok hp2
  ·intro d o ho hn
   rw [compoundF]
   split
   ·rename_i h
    split
    ·exact E.bad ho (by decide)
    ·exact (next_e ho (opens_k ho.ok h)).bind fun _ q h1 hq=>ih.opened _ _ q hq (by have:=(next_mu ho.ok (opens_k ho.ok h) h1).1;omega)
   ·exact E.bad ho (by decide)
  ·intro d t o ho hn
   rw [openedF]
   split
   ·exact (linesF_e ho).bind fun _ q h1 hq=>(ih.list d _ _ q hq (by have:=lines_mu ho.ok h1;omega)).bind fun x q _ hq=>(take_e hq (by decide)).bind fun _ q _ hq=>E.ok hq
   ·split
    ·exact (linesF_e ho).bind fun _ q h1 hq=>(ih.list d _ _ q hq (by have:=lines_mu ho.ok h1;omega)).bind fun x q _ hq=>(take_e hq (by decide)).bind fun _ q _ hq=>E.ok hq
    ·split
     ·exact (ih.branch d o ho (by omega)).bind fun x q _ hq=>(take_e hq (by decide)).bind fun _ q _ hq=>E.ok hq
     ·split
      ·exact ih.loop d _ o ho (by omega)
      ·split
       ·exact ih.loop d _ o ho (by omega)
       ·split
        ·exact ih.each d o ho (by omega)
        ·exact ih.choice d o ho (by omega)
  ·intro d k o ho hn
   rw [loopF]
   refine (linesF_e ho).bind fun _ q h1 hq=>?_
   have e1:=lines_mu ho.ok h1
   refine (ih.list d _ _ q hq (by omega)).bind fun x q2 h2 hq2=>?_
   have e2:=(dn.list d _ _ q hq.ok x q2 h2).1
   exact (ih.behind d _ q2 (by decide) hq2 (by omega)).bind fun y q _ hq=>(take_e hq (by decide)).bind fun _ q _ hq=>E.ok hq
  ·intro d t o ht ho hn
   rw [behindF]
   refine (take_e ho (by simpa using ht)).bind fun _ q h1 hq=>(linesF_e hq).bind fun _ q2 h2 hq2=>?_
   have e1:=take_mu ho.ok (by simpa using ht) h1
   have e2:=lines_mu hq.ok h2
   exact ih.list d _ _ q2 hq2 (by omega)
  ·intro d o ho hn
   rw [branchF]
   refine (linesF_e ho).bind fun _ q h1 hq=>?_
   have e1:=lines_mu ho.ok h1
   refine (ih.list d _ _ q hq (by omega)).bind fun x q2 h2 hq2=>?_
   have e2:=(dn.list d _ _ q hq.ok x q2 h2).1
   refine (ih.behind d _ q2 (by decide) hq2 (by omega)).bind fun y q3 h3 hq3=>?_
   have e3:=(dn.behind d _ q2 (by decide) hq2.ok y q3 h3).1
   split
   ·exact (ih.behind d _ q3 (by decide) hq3 (by omega)).bind fun z q _ hq=>E.ok hq
   ·split
    ·rename_i h
     split
     ·exact E.bad hq3 (by decide)
     ·exact (next_e hq3 (sees_k hq3.ok (by decide) h)).bind fun _ q h4 hq=>(ih.branch _ q hq (by have:=(next_mu hq3.ok (sees_k hq3.ok (by decide) h) h4).1;omega)).bind fun z q _ hq=>E.ok hq
    ·exact E.ok hq3
  ·intro d o ho hn
   rw [eachF]
   refine (name_e ho).bind fun nm q h1 hq=>(eachW_e hq).bind fun gw q2 h2 hq2=>?_
   have e1:=(name_down ho.ok nm q h1).1
   have e2:=(eachW_down hq.ok gw q2 h2).1
   exact (ih.behind d _ q2 (by decide) hq2 (by omega)).bind fun y q _ hq=>(take_e hq (by decide)).bind fun _ q _ hq=>E.ok hq
  ·intro d o ho hn
   rw [choiceF]
   refine (word_e ho).bind fun x q h1 hq=>(linesF_e hq).bind fun _ q2 h2 hq2=>(take_e hq2 (by decide)).bind fun _ q3 h3 hq3=>(linesF_e hq3).bind fun _ q4 h4 hq4=>?_
   have e1:=(word_mu ho.ok h1).1
   have e2:=lines_mu hq.ok h2
   have e3:=take_mu hq2.ok (by decide) h3
   have e4:=lines_mu hq3.ok h4
   exact ih.choicel d x _ q4 hq4 (by omega)
  ·intro d x cs o ho hn
   rw [choiceL]
   refine (skip_e ho (by decide)).bind fun b q h1 hq=>?_
   have e1:=skip_le ho.ok (by decide) h1
   split
   ·exact E.ok hq
   ·exact (ih.entry d q hq (by omega)).bind fun c q2 h2 hq2=>ih.choicel d x _ q2 hq2 (by have:=(dn.entry d q hq.ok c q2 h2).1;omega)
  ·intro d o ho hn
   rw [entryF]
   refine (skip_e ho (by decide)).bind fun _ q h1 hq=>(word_e hq).bind fun x q2 h2 hq2=>(pats_e _ _ q2 hq2 (mu_F s q2)).bind fun ps q3 h3 hq3=>(take_e hq3 (by decide)).bind fun _ q4 h4 hq4=>(linesF_e hq4).bind fun _ q5 h5 hq5=>?_
   have e1:=skip_le ho.ok (by decide) h1
   have e2:=(word_mu hq.ok h2).1
   have e3:=(pats_down s _ _ q2 hq2.ok ps q3 h3).1
   have e4:=take_mu hq3.ok (by decide) h4
   have e5:=lines_mu hq4.ok h5
   split
   ·exact (ih.list d _ _ q5 hq5 (by omega)).bind fun y q _ hq=>entryE_e hq
   ·exact entryE_e hq5
theorem parse_e (s:ByteArray):E s (parseF s):=by
 unfold parseF
 refine (next0_e s).bind fun _ o _ ho=>?_
 unfold programF
 refine (linesF_e ho).bind fun _ p _ hp=>?_
 have hend:∀ (x:ND) (o:Tok),Fine s o→E s (endF x o):=fun x o ho=>by
  unfold endF
  split
  ·exact E.ok ho
  ·exact E.bad ho (by decide)
 split
 ·exact ((es_all s (fuelP s)).list 0 _ _ p hp (by have:=mu_F s p;unfold F at this;unfold fuelP;omega)).bind fun x o _ ho=>hend x o ho
 ·exact hend _ p hp
end Ps
end Go.Proofs.YtoafdgfofgkenaaGreat
