/- What is read of a text is read of it where a line feed and more stand behind it, as long as its end isn't reached. Pure. -/
/- What is read up to the end of a text is read up to the line feed that stands behind it. Pure. -/
import Derived.Test.YtoafdgfofgkenaaGreatPsL4
import Derived.Test.YtoafdgfofgkenaaGreatPsK
namespace Go.Proofs.YtoafdgfofgkenaaGreat
open Go.RowKit Go.Sort
namespace Ps
open Cls Pt Tr Sp Lx
structure Ex (s s':ByteArray):Prop where
 ex:∃ m,Ext s s' m
theorem Ex.le {s s':ByteArray} (L:Ex s s'):s.size≤s'.size:=by
 obtain ⟨m,h⟩:=L.ex
 have:=h.size
 omega
structure Zm {T:Type} (s:ByteArray) (o:Tok) (r r':Rs T):Prop where
 ok:∀ a q,r = .ok a q→q.k ≠ 4→r' = .ok a q∧o.k ≠ 4
 fine:∀ a q,r = .ok a q→TokOK s q
section
variable {T U:Type} {s:ByteArray} {o:Tok} {r r':Rs T} {f f':T→Tok→Rs U}
theorem Zm.bad {i e:Nat}:Zm s o (.bad i e:Rs T) r':=⟨(fun _ _ h=>by cases h),(fun _ _ h=>by cases h)⟩
theorem Zm.done {a:T} (ho:TokOK s o):Zm s o (.ok a o) (.ok a o) :=
 ⟨fun b q h hq=>by injection h with h1 h2;subst h1;subst h2;exact ⟨rfl,hq⟩,fun b q h=>by injection h with h1 h2;subst h2;exact ho⟩
theorem Zm.bind (h:Zm s o r r') (hf:∀ a q,TokOK s q→Zm s q (f a q) (f' a q)):Zm s o (r.bind f) (r'.bind f'):=by
 cases r with
 | bad i e=>exact Zm.bad
 | ok a q =>
  have hq:=hf a q (h.fine a q rfl)
  refine ⟨fun b p hb hp=>?_,fun b p hb=>hq.fine b p hb⟩
  obtain ⟨h3,h4⟩:=hq.ok b p hb hp
  obtain ⟨h5,h6⟩:=h.ok a q rfl h4
  rw [h5]
  exact ⟨h3,h6⟩
theorem Zm.ite {c:Prop} [Decidable c] {a a' b b':Rs T} (h1:c→Zm s o a a') (h2:¬ c→Zm s o b b'):Zm s o (if c then a else b) (if c then a' else b'):=by
 by_cases h:c
 ·rw [if_pos h,if_pos h];exact h1 h
 ·rw [if_neg h,if_neg h];exact h2 h
end
section
variable {s s':ByteArray} (L:Ex s s')
include L
theorem next_m {o:Tok} (ho:TokOK s o) (hk:o.k ≠ 4):Zm s o (nextF s o) (nextF s' o):=by
 unfold nextF
 by_cases h5:(tokAt s o.j).k = 5
 ·rw [if_pos h5];exact Zm.bad
 ·rw [if_neg h5]
  obtain ⟨m,hx⟩:=L.ex
  refine ⟨fun b q h hq=>?_,fun b q h=>?_⟩
  ·injection h with h1 h2
   subst h2
   rw [tok_ext hx ho.j hq h5,if_neg h5]
   exact ⟨rfl,hk⟩
  ·injection h with h1 h2
   subst h2
   exact tok_ok s o.j ho.j
theorem skip_m {o:Tok} {l:List ByteArray} (ho:TokOK s o) (hl:l.all (fun x=>x.size != 0) = true):Zm s o (skipF s l o) (skipF s' l o):=by
 unfold skipF
 exact Zm.ite (fun h=>(next_m L ho (sees_k ho hl h)).bind fun _ q hq=>Zm.done hq) fun _=>Zm.done ho
theorem take_m {o:Tok} {l:List ByteArray} (ho:TokOK s o) (hl:l.all (fun x=>x.size != 0) = true):Zm s o (takeF s l o) (takeF s' l o):=by
 unfold takeF
 exact (skip_m L ho hl).bind fun b q hq=>Zm.ite (fun _=>Zm.done hq) fun _=>Zm.bad
theorem lines_m:∀ n n' o,n≤n'→TokOK s o→Zm s o (linesN s n o) (linesN s' n' o)
 | 0,_,_,_,_=>Zm.bad
 | n + 1,0,_,h,_=>absurd h (by omega)
 | n + 1,n' + 1,o,h,ho=>by
  rw [linesN,linesN]
  exact (skip_m L ho (by decide)).bind fun b q hq=>Zm.ite (fun _=>lines_m n n' q (by omega) hq) fun _=>Zm.done hq
theorem F_lem:F s≤F s':=by
 have:=L.le
 unfold F
 omega
theorem linesF_m {o:Tok} (ho:TokOK s o):Zm s o (linesF s o) (linesF s' o):=lines_m L _ _ o (F_lem L) ho
theorem word_m {o:Tok} (ho:TokOK s o):Zm s o (wordF s o) (wordF s' o):=by
 unfold wordF
 exact Zm.ite (fun h=>(next_m L ho (by omega)).bind fun _ q hq=>Zm.done hq) fun _=>Zm.bad
theorem words_m:∀ n n' l o,n≤n'→TokOK s o→Zm s o (wordsN s n l o) (wordsN s' n' l o)
 | 0,_,_,_,_,_=>Zm.bad
 | n + 1,0,_,_,h,_=>absurd h (by omega)
 | n + 1,n' + 1,l,o,h,ho=>by
  rw [wordsN,wordsN]
  exact Zm.ite (fun _=>(word_m L ho).bind fun x q hq=>words_m n n' _ q (by omega) hq) fun _=>Zm.done ho
theorem assigns_m:∀ n n' l o,n≤n'→TokOK s o→Zm s o (assignsN s n l o) (assignsN s' n' l o)
 | 0,_,_,_,_,_=>Zm.bad
 | n + 1,0,_,_,h,_=>absurd h (by omega)
 | n + 1,n' + 1,l,o,h,ho=>by
  rw [assignsN,assignsN]
  refine Zm.ite (fun hk=>?_) fun _=>Zm.done ho
  cases splitA o.l with
  | none=>exact Zm.done ho
  | some x=>exact (next_m L ho (by omega)).bind fun _ q hq=>assigns_m n n' _ q (by omega) hq
theorem name_m {o:Tok} (ho:TokOK s o):Zm s o (nameF s o) (nameF s' o):=by
 unfold nameF
 refine Zm.ite (fun h=>?_) fun _=>Zm.bad
 have hk:o.k ≠ 4:=by
  unfold namedB at h
  simp only [Bool.and_eq_true,beq_iff_eq] at h
  omega
 exact (next_m L ho hk).bind fun _ q hq=>Zm.done hq
theorem pats_m:∀ n n' l o,n≤n'→TokOK s o→Zm s o (patsN s n l o) (patsN s' n' l o)
 | 0,_,_,_,_,_=>Zm.bad
 | n + 1,0,_,_,h,_=>absurd h (by omega)
 | n + 1,n' + 1,l,o,h,ho=>by
  rw [patsN,patsN]
  exact (skip_m L ho (by decide)).bind fun b q hq=>Zm.ite (fun _=>(word_m L hq).bind fun x q2 hq2=>pats_m n n' _ q2 (by omega) hq2) fun _=>Zm.done hq
theorem eachW_m {o:Tok} (ho:TokOK s o):Zm s o (eachW s o) (eachW s' o):=by
 unfold eachW
 exact (skip_m L ho (by decide)).bind fun b q hq=>(linesF_m L hq).bind fun _ q hq=>Zm.ite (fun _=>Zm.done hq) fun _ =>
  (skip_m L hq (by decide)).bind fun g q hq=>Zm.ite (fun _=>(words_m L _ _ _ q (F_lem L) hq).bind fun ws q hq=>(take_m L hq (by decide)).bind fun _ q hq=>(linesF_m L hq).bind fun _ q hq=>Zm.done hq) fun _=>Zm.done hq
theorem entryE_m {c:CD} {o:Tok} (ho:TokOK s o):Zm s o (entryE s c o) (entryE s' c o):=by
 unfold entryE
 exact Zm.ite (fun _=>Zm.done ho) fun _=>(take_m L ho (by decide)).bind fun _ q hq=>(linesF_m L hq).bind fun _ q hq=>Zm.done hq
end
structure Zms (s s':ByteArray) (n n':Nat):Prop where
 list:∀ d ks bs o,TokOK s o→Zm s o (listF s d n ks bs o) (listF s' d n' ks bs o)
 item:∀ d o,TokOK s o→Zm s o (itemF s d n o) (itemF s' d n' o)
 iteml:∀ d x o,TokOK s o→Zm s o (itemL s d n x o) (itemL s' d n' x o)
 unit:∀ d o,TokOK s o→Zm s o (unitF s d n o) (unitF s' d n' o)
 command:∀ d o,TokOK s o→Zm s o (commandF s d n o) (commandF s' d n' o)
 simple:∀ d o,TokOK s o→Zm s o (simpleF s d n o) (simpleF s' d n' o)
 compound:∀ d o,TokOK s o→Zm s o (compoundF s d n o) (compoundF s' d n' o)
 opened:∀ d t o,TokOK s o→Zm s o (openedF s d n t o) (openedF s' d n' t o)
 loop:∀ d k o,TokOK s o→Zm s o (loopF s d n k o) (loopF s' d n' k o)
 behind:∀ d t o,t.size ≠ 0→TokOK s o→Zm s o (behindF s d n t o) (behindF s' d n' t o)
 branch:∀ d o,TokOK s o→Zm s o (branchF s d n o) (branchF s' d n' o)
 each:∀ d o,TokOK s o→Zm s o (eachF s d n o) (eachF s' d n' o)
 choice:∀ d o,TokOK s o→Zm s o (choiceF s d n o) (choiceF s' d n' o)
 choicel:∀ d x cs o,TokOK s o→Zm s o (choiceL s d n x cs o) (choiceL s' d n' x cs o)
 entry:∀ d o,TokOK s o→Zm s o (entryF s d n o) (entryF s' d n' o)
theorem zms_all {s s':ByteArray} (L:Ex s s'):∀ n n',n≤n'→Zms s s' n n'
 | 0,n',_=>by
  constructor <;> intros <;> first | (rw [listF];exact Zm.bad) | (rw [itemF];exact Zm.bad) | (rw [itemL];exact Zm.bad) | (rw [unitF];exact Zm.bad) | (rw [commandF];exact Zm.bad) | (rw [simpleF];exact Zm.bad) | (rw [compoundF];exact Zm.bad) | (rw [openedF];exact Zm.bad) | (rw [loopF];exact Zm.bad) | (rw [behindF];exact Zm.bad) | (rw [branchF];exact Zm.bad) | (rw [eachF];exact Zm.bad) | (rw [choiceF];exact Zm.bad) | (rw [choiceL];exact Zm.bad) | (rw [entryF];exact Zm.bad)
 | n + 1,0,h=>absurd h (by omega)
 | n + 1,n' + 1,h=>by
  have ih:=zms_all L n n' (by omega)
  constructor
  ·intro d ks bs o ho
   rw [listF,listF]
   exact (ih.item d o ho).bind fun x q hq=>(skip_m L hq (by decide)).bind fun b p hp=>Zm.ite
    (fun _=>(linesF_m L hp).bind fun _ q2 hq2=>Zm.ite (fun _=>ih.list d _ _ q2 hq2) fun _=>Zm.done hq2) fun _=>Zm.done hp
  ·intro d o ho
   rw [itemF,itemF]
   exact (ih.unit d o ho).bind fun x q hq=>ih.iteml d x q hq
  ·intro d x o ho
   rw [itemL,itemL]
   exact Zm.ite (fun h=>(next_m L ho (sees_k ho (by decide) h)).bind fun _ q hq=>(linesF_m L hq).bind fun _ q2 hq2=>(ih.unit d q2 hq2).bind fun y q3 hq3=>ih.iteml d _ q3 hq3) fun _=>Zm.done ho
  ·intro d o ho
   rw [unitF,unitF]
   exact (skip_m L ho (by decide)).bind fun b q hq=>Zm.ite (fun _=>(ih.command d q hq).bind fun x q hq=>Zm.done hq) fun _=>ih.command d q hq
  ·intro d o ho
   rw [commandF,commandF]
   exact Zm.ite (fun _=>ih.simple d o ho) fun _=>ih.compound d o ho
  ·intro d o ho
   rw [simpleF,simpleF]
   exact (assigns_m L _ _ _ o (F_lem L) ho).bind fun az p hp=>(words_m L _ _ _ p (F_lem L) hp).bind fun ws p2 hp2=>Zm.ite
    (fun _=>(skip_m L hp2 (by decide)).bind fun b q hq=>Zm.ite
     (fun _=>(take_m L hq (by decide)).bind fun _ q2 hq2=>(linesF_m L hq2).bind fun _ q3 hq3=>(ih.compound d q3 hq3).bind fun x q hq=>Zm.done hq) fun _=>Zm.done hq) fun _=>Zm.done hp2
  ·intro d o ho
   rw [compoundF,compoundF]
   exact Zm.ite (fun h=>Zm.ite (fun _=>Zm.bad) fun _=>(next_m L ho (opens_k ho h)).bind fun _ q hq=>ih.opened _ _ q hq) fun _=>Zm.bad
  ·intro d t o ho
   rw [openedF,openedF]
   exact Zm.ite (fun _=>(linesF_m L ho).bind fun _ q hq=>(ih.list d _ _ q hq).bind fun x q hq=>(take_m L hq (by decide)).bind fun _ q hq=>Zm.done hq) fun _ =>
    Zm.ite (fun _=>(linesF_m L ho).bind fun _ q hq=>(ih.list d _ _ q hq).bind fun x q hq=>(take_m L hq (by decide)).bind fun _ q hq=>Zm.done hq) fun _ =>
    Zm.ite (fun _=>(ih.branch d o ho).bind fun x q hq=>(take_m L hq (by decide)).bind fun _ q hq=>Zm.done hq) fun _ =>
    Zm.ite (fun _=>ih.loop d _ o ho) fun _=>Zm.ite (fun _=>ih.loop d _ o ho) fun _=>Zm.ite (fun _=>ih.each d o ho) fun _=>ih.choice d o ho
  ·intro d k o ho
   rw [loopF,loopF]
   exact (linesF_m L ho).bind fun _ q hq=>(ih.list d _ _ q hq).bind fun x q2 hq2=>(ih.behind d _ q2 (by decide) hq2).bind fun y q hq=>(take_m L hq (by decide)).bind fun _ q hq=>Zm.done hq
  ·intro d t o ht ho
   rw [behindF,behindF]
   exact (take_m L ho (by simpa using ht)).bind fun _ q hq=>(linesF_m L hq).bind fun _ q2 hq2=>ih.list d _ _ q2 hq2
  ·intro d o ho
   rw [branchF,branchF]
   exact (linesF_m L ho).bind fun _ q hq=>(ih.list d _ _ q hq).bind fun x q2 hq2=>(ih.behind d _ q2 (by decide) hq2).bind fun y q3 hq3=>Zm.ite
    (fun _=>(ih.behind d _ q3 (by decide) hq3).bind fun z q hq=>Zm.done hq) fun _=>Zm.ite
    (fun h=>Zm.ite (fun _=>Zm.bad) fun _=>(next_m L hq3 (sees_k hq3 (by decide) h)).bind fun _ q hq=>(ih.branch _ q hq).bind fun z q hq=>Zm.done hq) fun _=>Zm.done hq3
  ·intro d o ho
   rw [eachF,eachF]
   exact (name_m L ho).bind fun nm q hq=>(eachW_m L hq).bind fun gw q2 hq2=>(ih.behind d _ q2 (by decide) hq2).bind fun y q hq=>(take_m L hq (by decide)).bind fun _ q hq=>Zm.done hq
  ·intro d o ho
   rw [choiceF,choiceF]
   exact (word_m L ho).bind fun x q hq=>(linesF_m L hq).bind fun _ q2 hq2=>(take_m L hq2 (by decide)).bind fun _ q3 hq3=>(linesF_m L hq3).bind fun _ q4 hq4=>ih.choicel d x _ q4 hq4
  ·intro d x cs o ho
   rw [choiceL,choiceL]
   exact (skip_m L ho (by decide)).bind fun b q hq=>Zm.ite (fun _=>Zm.done hq) fun _=>(ih.entry d q hq).bind fun c q2 hq2=>ih.choicel d x _ q2 hq2
  ·intro d o ho
   rw [entryF,entryF]
   exact (skip_m L ho (by decide)).bind fun _ q hq=>(word_m L hq).bind fun x q2 hq2=>(pats_m L _ _ _ q2 (F_lem L) hq2).bind fun ps q3 hq3=>(take_m L hq3 (by decide)).bind fun _ q4 hq4=>(linesF_m L hq4).bind fun _ q5 hq5=>Zm.ite
    (fun _=>(ih.list d _ _ q5 hq5).bind fun y q hq=>entryE_m L hq) fun _=>entryE_m L hq5
end Ps
end Go.Proofs.YtoafdgfofgkenaaGreat
namespace Go.Proofs.YtoafdgfofgkenaaGreat
open Go.RowKit Go.Sort
namespace Ps
open Cls Pt Tr Sp Lx
def nlT (s:ByteArray):Tok:=⟨3,s.size,⟨#[]⟩,.nil,0,s.size + 1⟩
def Dead {T:Type} (r:Rs T):Prop:=∀ a q,r ≠ .ok a q
structure V {T:Type} (s:ByteArray) (r r':Rs T):Prop where
 ok:∀ a q,r = .ok a q→q.k ≠ 4→r' = .ok a q
 fin:∀ a q,r = .ok a q→q.k = 4→r' = .ok a (nlT s)
 fine:∀ a q,r = .ok a q→TokOK s q
def Ev {T:Type} (s:ByteArray) (r r':Rs T):Prop:=∀ a q,r = .ok a q→q.k = 4∧TokOK s q∧r' = .ok a (nlT s)
section
variable {T U:Type} {s:ByteArray} {o:Tok} {r r':Rs T} {f f':T→Tok→Rs U}
theorem Dead.bad {i e:Nat}:Dead (.bad i e:Rs T):=fun _ _ h=>by cases h
theorem Dead.bind (h:Dead r):Dead (r.bind f):=by
 cases r with
 | bad i e=>exact Dead.bad
 | ok a q=>exact absurd rfl (h a q)
theorem Dead.bind2 (h:∀ a q,r = .ok a q→Dead (f a q)):Dead (r.bind f):=by
 cases r with
 | bad i e=>exact Dead.bad
 | ok a q=>exact h a q rfl
theorem V.bad {i e:Nat}:V s (.bad i e:Rs T) r':=⟨(fun _ _ h=>by cases h),(fun _ _ h=>by cases h),(fun _ _ h=>by cases h)⟩
theorem V.done {a:T} (ho:TokOK s o) (hk:o.k ≠ 4):V s (.ok a o) (.ok a o) :=
 ⟨fun b q h _=>by injection h with h1 h2;subst h1;subst h2;rfl,fun b q h h4=>by injection h with h1 h2;subst h2;exact absurd h4 hk,fun b q h=>by injection h with h1 h2;subst h2;exact ho⟩
theorem Ev.done {a:T} (ho:TokOK s o) (hk:o.k = 4):Ev s (.ok a o) (.ok a (nlT s)):=fun b q h=>by injection h with h1 h2;subst h1;subst h2;exact ⟨hk,ho,rfl⟩
theorem Ev.dead (h:Dead r):Ev s r r':=fun a q e=>absurd e (h a q)
theorem Ev.bind (h:Ev s r r') (he:∀ a q,TokOK s q→q.k = 4→Ev s (f a q) (f' a (nlT s))):Ev s (r.bind f) (r'.bind f'):=by
 cases r with
 | bad i e=>exact Ev.dead Dead.bad
 | ok a q =>
  obtain ⟨h1,h2,h3⟩:=h a q rfl
  rw [h3]
  exact he a q h2 h1
theorem V.bind (h:V s r r') (hf:∀ a q,TokOK s q→q.k ≠ 4→V s (f a q) (f' a q)) (he:∀ a q,TokOK s q→q.k = 4→Ev s (f a q) (f' a (nlT s))):V s (r.bind f) (r'.bind f'):=by
 cases r with
 | bad i e=>exact V.bad
 | ok a q =>
  have ho:=h.fine a q rfl
  by_cases h4:q.k = 4
  ·rw [h.fin a q rfl h4]
   have he:=he a q ho h4
   exact ⟨fun b p hb hp=>absurd (he b p hb).1 hp,fun b p hb _=>(he b p hb).2.2,fun b p hb=>(he b p hb).2.1⟩
  ·rw [h.ok a q rfl h4]
   exact hf a q ho h4
theorem V.bindZ (h:Zm s o r r') (hf:∀ a q,TokOK s q→q.k ≠ 4→V s (f a q) (f' a q)) (hd:∀ a q,TokOK s q→q.k = 4→Dead (f a q)):V s (r.bind f) (r'.bind f'):=by
 cases r with
 | bad i e=>exact V.bad
 | ok a q =>
  have ho:=h.fine a q rfl
  by_cases h4:q.k = 4
  ·have hd:=hd a q ho h4
   exact ⟨fun b p hb=>absurd hb (hd b p),fun b p hb=>absurd hb (hd b p),fun b p hb=>absurd hb (hd b p)⟩
  ·rw [(h.ok a q rfl h4).1]
   exact hf a q ho h4
theorem V.ite {c:Prop} [Decidable c] {a a' b b':Rs T} (h1:c→V s a a') (h2:¬ c→V s b b'):V s (if c then a else b) (if c then a' else b'):=by
 by_cases h:c
 ·rw [if_pos h,if_pos h];exact h1 h
 ·rw [if_neg h,if_neg h];exact h2 h
theorem Ev.ite {c:Prop} [Decidable c] {a a' b b':Rs T} (h1:c→Ev s a a') (h2:¬ c→Ev s b b'):Ev s (if c then a else b) (if c then a' else b'):=by
 by_cases h:c
 ·rw [if_pos h,if_pos h];exact h1 h
 ·rw [if_neg h,if_neg h];exact h2 h
theorem Dead.ite {c:Prop} [Decidable c] {a b:Rs T} (h1:c→Dead a) (h2:¬ c→Dead b):Dead (if c then a else b):=by
 by_cases h:c
 ·rw [if_pos h];exact h1 h
 ·rw [if_neg h];exact h2 h
end
section
variable {s s':ByteArray} {o:Tok}
theorem sees_end {l:List ByteArray} (ho:TokOK s o) (h4:o.k = 4) (hl:l.all (fun x=>x.size != 0) = true):seesF l o = false:=by
 cases h:seesF l o
 ·rfl
 ·exact absurd h4 (sees_k ho hl h)
theorem skip_end {l:List ByteArray} (ho:TokOK s o) (h4:o.k = 4) (hl:l.all (fun x=>x.size != 0) = true):skipF s l o = .ok false o:=by
 unfold skipF
 rw [sees_end ho h4 hl]
 rfl
theorem sees_nl (s:ByteArray) (l:List ByteArray):seesF l (nlT s) = Lib.containsS l ⟨#[10]⟩:=rfl
theorem skip_nl {l:List ByteArray} (hl:Lib.containsS l ⟨#[10]⟩ = false):skipF s' l (nlT s) = .ok false (nlT s):=by
 unfold skipF
 rw [show seesF l (nlT s) = false from hl]
 rfl
theorem skip_ev {l:List ByteArray} (ho:TokOK s o) (h4:o.k = 4) (hl:l.all (fun x=>x.size != 0) = true) (hl2:Lib.containsS l ⟨#[10]⟩ = false):Ev s (skipF s l o) (skipF s' l (nlT s)):=by
 rw [skip_end ho h4 hl,skip_nl hl2]
 exact Ev.done ho h4
theorem take_d {l:List ByteArray} (ho:TokOK s o) (h4:o.k = 4) (hl:l.all (fun x=>x.size != 0) = true):Dead (takeF s l o):=by
 unfold takeF
 rw [skip_end ho h4 hl]
 exact Dead.bad
theorem lines_end:∀ n,TokOK s o→o.k = 4→∀ a q,linesN s n o = .ok a q→q = o
 | 0,_,_,_,_,h=>by cases h
 | n + 1,ho,h4,a,q,h=>by
  rw [linesN,skip_end ho h4 (by decide)] at h
  injection h with h1 h2
  exact h2.symm
theorem lines_d {T:Type} {n:Nat} {f:Unit→Tok→Rs T} (ho:TokOK s o) (h4:o.k = 4) (h:Dead (f () o)):Dead ((linesN s n o).bind f):=Dead.bind2 fun a q e=>by rw [lines_end n ho h4 a q e];exact h
theorem word_d (h4:o.k = 4):Dead (wordF s o):=by
 unfold wordF
 rw [if_neg (by omega)]
 exact Dead.bad
theorem name_d (h4:o.k = 4):Dead (nameF s o):=by
 unfold nameF namedB
 rw [h4]
 exact Dead.bad
theorem opens_end (ho:TokOK s o) (h4:o.k = 4):opensB o = false:=sees_end ho h4 (by decide)
theorem compound_d (n d:Nat) (ho:TokOK s o) (h4:o.k = 4):Dead (compoundF s d n o):=by
 cases n with
 | zero=>rw [compoundF];exact Dead.bad
 | succ n=>rw [compoundF,opens_end ho h4];exact Dead.bad
theorem command_d (n d:Nat) (ho:TokOK s o) (h4:o.k = 4):Dead (commandF s d n o):=by
 cases n with
 | zero=>rw [commandF];exact Dead.bad
 | succ n =>
  rw [commandF,show simplyB o = false by unfold simplyB;rw [h4];rfl]
  exact compound_d n d ho h4
theorem unit_d (n d:Nat) (ho:TokOK s o) (h4:o.k = 4):Dead (unitF s d n o):=by
 cases n with
 | zero=>rw [unitF];exact Dead.bad
 | succ n =>
  rw [unitF,skip_end ho h4 (by decide)]
  exact command_d n d ho h4
theorem item_d (n d:Nat) (ho:TokOK s o) (h4:o.k = 4):Dead (itemF s d n o):=by
 cases n with
 | zero=>rw [itemF];exact Dead.bad
 | succ n=>rw [itemF];exact (unit_d n d ho h4).bind
theorem list_d (n d:Nat) {ks:List ND} {bs:List Bool} (ho:TokOK s o) (h4:o.k = 4):Dead (listF s d n ks bs o):=by
 cases n with
 | zero=>rw [listF];exact Dead.bad
 | succ n=>rw [listF];exact (item_d n d ho h4).bind
theorem behind_d (n d:Nat) {t:ByteArray} (ht:t.size ≠ 0) (ho:TokOK s o) (h4:o.k = 4):Dead (behindF s d n t o):=by
 cases n with
 | zero=>rw [behindF];exact Dead.bad
 | succ n=>rw [behindF];exact (take_d ho h4 (by simpa using ht)).bind
theorem branch_d (n d:Nat) (ho:TokOK s o) (h4:o.k = 4):Dead (branchF s d n o):=by
 cases n with
 | zero=>rw [branchF];exact Dead.bad
 | succ n=>rw [branchF];exact lines_d ho h4 (list_d n d ho h4).bind
theorem loop_d (n d:Nat) {k:Int} (ho:TokOK s o) (h4:o.k = 4):Dead (loopF s d n k o):=by
 cases n with
 | zero=>rw [loopF];exact Dead.bad
 | succ n=>rw [loopF];exact lines_d ho h4 (list_d n d ho h4).bind
theorem each_d (n d:Nat) (h4:o.k = 4):Dead (eachF s d n o):=by
 cases n with
 | zero=>rw [eachF];exact Dead.bad
 | succ n=>rw [eachF];exact (name_d h4).bind
theorem choice_d (n d:Nat) (h4:o.k = 4):Dead (choiceF s d n o):=by
 cases n with
 | zero=>rw [choiceF];exact Dead.bad
 | succ n=>rw [choiceF];exact (word_d h4).bind
theorem entry_d (n d:Nat) (ho:TokOK s o) (h4:o.k = 4):Dead (entryF s d n o):=by
 cases n with
 | zero=>rw [entryF];exact Dead.bad
 | succ n =>
  rw [entryF,skip_end ho h4 (by decide)]
  exact (word_d h4).bind
theorem choicel_d (n d:Nat) {x:PL} {cs:List CD} (ho:TokOK s o) (h4:o.k = 4):Dead (choiceL s d n x cs o):=by
 cases n with
 | zero=>rw [choiceL];exact Dead.bad
 | succ n =>
  rw [choiceL,skip_end ho h4 (by decide)]
  exact (entry_d n d ho h4).bind
theorem opened_d (n d:Nat) {t:ByteArray} (ho:TokOK s o) (h4:o.k = 4):Dead (openedF s d n t o):=by
 cases n with
 | zero=>rw [openedF];exact Dead.bad
 | succ n =>
  rw [openedF]
  exact Dead.ite (fun _=>lines_d ho h4 (list_d n d ho h4).bind) fun _=>Dead.ite (fun _=>lines_d ho h4 (list_d n d ho h4).bind) fun _=>Dead.ite (fun _=>(branch_d n d ho h4).bind) fun _ =>
   Dead.ite (fun _=>loop_d n d ho h4) fun _=>Dead.ite (fun _=>loop_d n d ho h4) fun _=>Dead.ite (fun _=>each_d n d h4) fun _=>choice_d n d h4
end
section
variable {s s':ByteArray} (L:Ex s s')
include L
theorem next_v {o:Tok} (ho:TokOK s o):V s (nextF s o) (nextF s' o):=by
 unfold nextF
 by_cases h5:(tokAt s o.j).k = 5
 ·rw [if_pos h5];exact V.bad
 ·rw [if_neg h5]
  obtain ⟨m,hx⟩:=L.ex
  refine ⟨fun b q h hq=>?_,fun b q h h4=>?_,fun b q h=>?_⟩
  ·injection h with h1 h2
   subst h2
   rw [tok_ext hx ho.j hq h5,if_neg h5]
  ·injection h with h1 h2
   subst h2
   rw [end_ext hx ho.j h4]
   rfl
  ·injection h with h1 h2
   subst h2
   exact tok_ok s o.j ho.j
theorem skip_v {o:Tok} {l:List ByteArray} (ho:TokOK s o) (hk:o.k ≠ 4):V s (skipF s l o) (skipF s' l o):=by
 unfold skipF
 exact V.ite (fun _=>(next_v L ho).bind (fun _ q hq h4=>V.done hq h4) fun _ q hq h4=>Ev.done hq h4) fun _=>V.done ho hk
theorem take_v {o:Tok} {l:List ByteArray} (ho:TokOK s o) (hk:o.k ≠ 4):V s (takeF s l o) (takeF s' l o):=by
 unfold takeF
 exact (skip_v L ho hk).bind (fun b q hq h4=>V.ite (fun _=>V.done hq h4) fun _=>V.bad) fun b q hq h4=>Ev.ite (fun _=>Ev.done hq h4) fun _=>Ev.dead Dead.bad
theorem word_v {o:Tok} (ho:TokOK s o):V s (wordF s o) (wordF s' o):=by
 unfold wordF
 exact V.ite (fun _=>(next_v L ho).bind (fun _ q hq h4=>V.done hq h4) fun _ q hq h4=>Ev.done hq h4) fun _=>V.bad
omit L in
theorem words_ev:∀ n n' l o,n≤n'→TokOK s o→o.k = 4→Ev s (wordsN s n l o) (wordsN s' n' l (nlT s))
 | 0,_,_,_,_,_,_=>Ev.dead Dead.bad
 | n + 1,0,_,_,h,_,_=>absurd h (by omega)
 | n + 1,n' + 1,l,o,h,ho,h4=>by
  rw [wordsN,wordsN,if_neg (by omega),if_neg (show ¬ (nlT s).k = 1 from (by decide:¬ (3:Nat) = 1))]
  exact Ev.done ho h4
theorem words_v:∀ n n' l o,n≤n'→TokOK s o→o.k ≠ 4→V s (wordsN s n l o) (wordsN s' n' l o)
 | 0,_,_,_,_,_,_=>V.bad
 | n + 1,0,_,_,h,_,_=>absurd h (by omega)
 | n + 1,n' + 1,l,o,h,ho,hk=>by
  rw [wordsN,wordsN]
  exact V.ite (fun _=>(word_v L ho).bind (fun x q hq h4=>words_v n n' _ q (by omega) hq h4) fun x q hq h4=>words_ev n n' _ q (by omega) hq h4) fun _=>V.done ho hk
omit L in
theorem assigns_ev:∀ n n' l o,n≤n'→TokOK s o→o.k = 4→Ev s (assignsN s n l o) (assignsN s' n' l (nlT s))
 | 0,_,_,_,_,_,_=>Ev.dead Dead.bad
 | n + 1,0,_,_,h,_,_=>absurd h (by omega)
 | n + 1,n' + 1,l,o,h,ho,h4=>by
  rw [assignsN,assignsN,if_neg (by omega),if_neg (show ¬ (nlT s).k = 1 from (by decide:¬ (3:Nat) = 1))]
  exact Ev.done ho h4
theorem assigns_v:∀ n n' l o,n≤n'→TokOK s o→o.k ≠ 4→V s (assignsN s n l o) (assignsN s' n' l o)
 | 0,_,_,_,_,_,_=>V.bad
 | n + 1,0,_,_,h,_,_=>absurd h (by omega)
 | n + 1,n' + 1,l,o,h,ho,hk=>by
  rw [assignsN,assignsN]
  refine V.ite (fun _=>?_) fun _=>V.done ho hk
  cases splitA o.l with
  | none=>exact V.done ho hk
  | some x=>exact (next_v L ho).bind (fun _ q hq h4=>assigns_v n n' _ q (by omega) hq h4) fun _ q hq h4=>assigns_ev n n' _ q (by omega) hq h4
end
structure Vs (s s':ByteArray) (n n':Nat):Prop where
 item:∀ d o,TokOK s o→o.k ≠ 4→V s (itemF s d n o) (itemF s' d n' o)
 iteml:∀ d x o,TokOK s o→o.k ≠ 4→V s (itemL s d n x o) (itemL s' d n' x o)
 unit:∀ d o,TokOK s o→o.k ≠ 4→V s (unitF s d n o) (unitF s' d n' o)
 command:∀ d o,TokOK s o→o.k ≠ 4→V s (commandF s d n o) (commandF s' d n' o)
 simple:∀ d o,TokOK s o→o.k ≠ 4→V s (simpleF s d n o) (simpleF s' d n' o)
 compound:∀ d o,TokOK s o→o.k ≠ 4→V s (compoundF s d n o) (compoundF s' d n' o)
 opened:∀ d t o,TokOK s o→o.k ≠ 4→V s (openedF s d n t o) (openedF s' d n' t o)
 loop:∀ d k o,TokOK s o→o.k ≠ 4→V s (loopF s d n k o) (loopF s' d n' k o)
 each:∀ d o,TokOK s o→o.k ≠ 4→V s (eachF s d n o) (eachF s' d n' o)
 choice:∀ d o,TokOK s o→o.k ≠ 4→V s (choiceF s d n o) (choiceF s' d n' o)
 choicel:∀ d x cs o,TokOK s o→o.k ≠ 4→V s (choiceL s d n x cs o) (choiceL s' d n' x cs o)
theorem iteml_e {s s':ByteArray} {o:Tok} (n n' d:Nat) (x:ND) (hn:n≤n') (ho:TokOK s o) (h4:o.k = 4):Ev s (itemL s d n x o) (itemL s' d n' x (nlT s)):=by
 cases n with
 | zero=>rw [itemL];exact Ev.dead Dead.bad
 | succ n =>
  obtain ⟨k,rfl⟩:∃ k,n' = k + 1:=⟨n' - 1,by omega⟩
  rw [itemL,itemL,sees_end ho h4 (by decide),show seesF [⟨#[38,38]⟩,⟨#[124,124]⟩] (nlT s) = false from by rw [sees_nl];decide]
  exact Ev.done ho h4
theorem vs_all {s s':ByteArray} (L:Ex s s'):∀ n n',n≤n'→Vs s s' n n'
 | 0,n',_=>by
  constructor <;> intros <;> first | (rw [itemF];exact V.bad) | (rw [itemL];exact V.bad) | (rw [unitF];exact V.bad) | (rw [commandF];exact V.bad) | (rw [simpleF];exact V.bad) | (rw [compoundF];exact V.bad) | (rw [openedF];exact V.bad) | (rw [loopF];exact V.bad) | (rw [eachF];exact V.bad) | (rw [choiceF];exact V.bad) | (rw [choiceL];exact V.bad)
 | n + 1,0,h=>absurd h (by omega)
 | n + 1,n' + 1,h=>by
  have hn:n≤n':=by omega
  have ih:=vs_all L n n' hn
  have iz:=zms_all L n n' hn
  constructor
  ·intro d o ho hk
   rw [itemF,itemF]
   exact (ih.unit d o ho hk).bind (fun x q hq h4=>ih.iteml d x q hq h4) fun x q hq h4=>iteml_e n n' d x hn hq h4
  ·intro d x o ho hk
   rw [itemL,itemL]
   exact V.ite (fun _=>(next_v L ho).bind
    (fun _ q hq h4=>V.bindZ (linesF_m L hq) (fun _ q2 hq2 h42=>(ih.unit d q2 hq2 h42).bind (fun y q3 hq3 h43=>ih.iteml d _ q3 hq3 h43) fun y q3 hq3 h43=>iteml_e n n' d _ hn hq3 h43) fun _ q2 hq2 h42=>(unit_d n d hq2 h42).bind)
    fun _ q hq h4=>Ev.dead (lines_d hq h4 (unit_d n d hq h4).bind)) fun _=>V.done ho hk
  ·intro d o ho hk
   rw [unitF,unitF]
   exact (skip_v L ho hk).bind (fun b q hq h4=>V.ite (fun _=>(ih.command d q hq h4).bind (fun x q hq h4=>V.done hq h4) fun x q hq h4=>Ev.done hq h4) fun _=>ih.command d q hq h4)
    fun b q hq h4=>Ev.dead (Dead.ite (fun _=>(command_d n d hq h4).bind) fun _=>command_d n d hq h4)
  ·intro d o ho hk
   rw [commandF,commandF]
   exact V.ite (fun _=>ih.simple d o ho hk) fun _=>ih.compound d o ho hk
  ·intro d o ho hk
   rw [simpleF,simpleF]
   refine (assigns_v L _ _ _ o (F_lem L) ho hk).bind (fun az p hp hp4=>(words_v L _ _ _ p (F_lem L) hp hp4).bind (fun ws p2 hp2 hk2=>?_) fun ws p2 hp2 h42=>?_) fun az p hp h4=>(words_ev _ _ _ p (F_lem L) hp h4).bind fun ws p2 hp2 h42=>?_
   ·exact V.ite (fun _=>(skip_v L hp2 hk2).bind
     (fun b q hq hk3=>V.ite (fun _=>(take_v L hq hk3).bind (fun _ q2 hq2 hk4=>V.bindZ (linesF_m L hq2) (fun _ q3 hq3 hk5=>(ih.compound d q3 hq3 hk5).bind (fun x q hq h4=>V.done hq h4) fun x q hq h4=>Ev.done hq h4) fun _ q3 hq3 h43=>(compound_d n d hq3 h43).bind)
      fun _ q2 hq2 h42=>Ev.dead (lines_d hq2 h42 (compound_d n d hq2 h42).bind)) fun _=>V.done hq hk3)
     fun b q hq h4=>Ev.ite (fun _=>Ev.dead (take_d hq h4 (by decide)).bind) fun _=>Ev.done hq h4) fun _=>V.done hp2 hk2
   ·exact Ev.ite (fun _=>(skip_ev hp2 h42 (by decide) (by decide)).bind fun b q hq h4=>Ev.ite (fun _=>Ev.dead (take_d hq h4 (by decide)).bind) fun _=>Ev.done hq h4) fun _=>Ev.done hp2 h42
   ·exact Ev.ite (fun _=>(skip_ev hp2 h42 (by decide) (by decide)).bind fun b q hq h4=>Ev.ite (fun _=>Ev.dead (take_d hq h4 (by decide)).bind) fun _=>Ev.done hq h4) fun _=>Ev.done hp2 h42
  ·intro d o ho hk
   rw [compoundF,compoundF]
   exact V.ite (fun _=>V.ite (fun _=>V.bad) fun _=>(next_v L ho).bind (fun _ q hq h4=>ih.opened _ _ q hq h4) fun _ q hq h4=>Ev.dead (opened_d n _ hq h4)) fun _=>V.bad
  ·intro d t o ho hk
   rw [openedF,openedF]
   exact V.ite (fun _=>V.bindZ (linesF_m L ho) (fun _ q hq _=>V.bindZ (iz.list d _ _ q hq) (fun x q hq h4=>(take_v L hq h4).bind (fun _ q hq h4=>V.done hq h4) fun _ q hq h4=>Ev.done hq h4) fun x q hq h4=>(take_d hq h4 (by decide)).bind) fun _ q hq h4=>(list_d n d hq h4).bind) fun _ =>
    V.ite (fun _=>V.bindZ (linesF_m L ho) (fun _ q hq _=>V.bindZ (iz.list d _ _ q hq) (fun x q hq h4=>(take_v L hq h4).bind (fun _ q hq h4=>V.done hq h4) fun _ q hq h4=>Ev.done hq h4) fun x q hq h4=>(take_d hq h4 (by decide)).bind) fun _ q hq h4=>(list_d n d hq h4).bind) fun _ =>
    V.ite (fun _=>V.bindZ (iz.branch d o ho) (fun x q hq h4=>(take_v L hq h4).bind (fun _ q hq h4=>V.done hq h4) fun _ q hq h4=>Ev.done hq h4) fun x q hq h4=>(take_d hq h4 (by decide)).bind) fun _ =>
    V.ite (fun _=>ih.loop d _ o ho hk) fun _=>V.ite (fun _=>ih.loop d _ o ho hk) fun _=>V.ite (fun _=>ih.each d o ho hk) fun _=>ih.choice d o ho hk
  ·intro d k o ho hk
   rw [loopF,loopF]
   exact V.bindZ (linesF_m L ho) (fun _ q hq _=>V.bindZ (iz.list d _ _ q hq) (fun x q2 hq2 _=>V.bindZ (iz.behind d _ q2 (by decide) hq2) (fun y q hq h4=>(take_v L hq h4).bind (fun _ q hq h4=>V.done hq h4) fun _ q hq h4=>Ev.done hq h4)
    fun y q hq h4=>(take_d hq h4 (by decide)).bind) fun x q hq h4=>(behind_d n d (by decide) hq h4).bind) fun _ q hq h4=>(list_d n d hq h4).bind
  ·intro d o ho hk
   rw [eachF,eachF]
   have hb:∀ nm q,TokOK s q→q.k = 4→Dead ((eachW s q).bind fun gw o=>(behindF s d n ⟨#[100,111]⟩ o).bind fun y o=>(takeF s [⟨#[100,111,110,101]⟩] o).bind fun _ o=>(.ok ⟨9,nm,gw.1,[],gw.2,toN [y],[],.nil⟩ o:Rs ND)):=fun nm q hq h4=>Dead.bind2 fun gw p e=>by
    have hz:=eachW_m L hq
    have h44:p.k = 4:=Classical.byContradiction fun hn=>(hz.ok gw p e hn).2 h4
    exact (behind_d n d (by decide) (hz.fine gw p e) h44).bind
   exact V.bindZ (name_m L ho) (fun nm q hq _=>V.bindZ (eachW_m L hq) (fun gw q2 hq2 _=>V.bindZ (iz.behind d _ q2 (by decide) hq2) (fun y q hq h4=>(take_v L hq h4).bind (fun _ q hq h4=>V.done hq h4) fun _ q hq h4=>Ev.done hq h4)
    fun y q hq h4=>(take_d hq h4 (by decide)).bind) fun gw q2 hq2 h4=>(behind_d n d (by decide) hq2 h4).bind) fun nm q hq h4=>hb nm q hq h4
  ·intro d o ho hk
   rw [choiceF,choiceF]
   exact V.bindZ (word_m L ho) (fun x q hq _=>V.bindZ (linesF_m L hq) (fun _ q2 hq2 _=>V.bindZ (take_m L hq2 (by decide)) (fun _ q3 hq3 _=>V.bindZ (linesF_m L hq3) (fun _ q4 hq4 h4=>ih.choicel d x _ q4 hq4 h4)
    fun _ q hq h4=>choicel_d n d hq h4) fun _ q hq h4=>lines_d hq h4 (choicel_d n d hq h4)) fun _ q hq h4=>(take_d hq h4 (by decide)).bind) fun x q hq h4=>lines_d hq h4 (take_d hq h4 (by decide)).bind
  ·intro d x cs o ho hk
   rw [choiceL,choiceL]
   exact (skip_v L ho hk).bind (fun b q hq h4=>V.ite (fun _=>V.done hq h4) fun _=>V.bindZ (iz.entry d q hq) (fun c q2 hq2 h42=>ih.choicel d x _ q2 hq2 h42) fun c q2 hq2 h42=>choicel_d n d hq2 h42)
    fun b q hq h4=>Ev.ite (fun _=>Ev.done hq h4) fun _=>Ev.dead (entry_d n d hq h4).bind
end Ps
end Go.Proofs.YtoafdgfofgkenaaGreat
