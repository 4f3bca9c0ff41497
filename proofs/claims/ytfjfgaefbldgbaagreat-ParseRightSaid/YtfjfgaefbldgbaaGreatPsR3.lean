/- What is read is right. Pure. -/
/- What is read is right: all of the grammar. Pure. -/
/- Words that are read are no larger than anything that is held. Pure. -/
/- What is wrong is wrong at a token; fuel is enough. Pure. -/
import Derived.Test.YtfjfgaefbldgbaaGreatPsPb
import Derived.Test.YtfjfgaefbldgbaaGreatTrI
namespace Go.Proofs.YtfjfgaefbldgbaaGreat
open Go.RowKit Go.Sort
namespace Ps
open Cls Pt Tr Sp Lx
structure Good (s:ByteArray) (o:Tok):Prop where
 ok:TokOK s o
 r:o.k = 1→rightW o.l = true
def Yes {T:Type} (s:ByteArray) (P:T→Tok→Prop) (r:Rs T):Prop:=∀ a q,r = .ok a q→P a q∧Good s q
section
variable {T U:Type} {s:ByteArray} {o:Tok} {r:Rs T} {f:T→Tok→Rs U} {P P':T→Tok→Prop} {P2:U→Tok→Prop}
theorem Yes.bad {i e:Nat}:Yes s P (.bad i e):=fun _ _ h=>by cases h
theorem Yes.ok {a:T} (h:P a o) (ho:Good s o):Yes s P (.ok a o):=fun b q e=>by injection e with e1 e2;subst e1;subst e2;exact ⟨h,ho⟩
theorem Yes.bind (h:Yes s P r) (hf:∀ a q,P a q→Good s q→Yes s P2 (f a q)):Yes s P2 (r.bind f):=by
 cases r with
 | bad i e=>exact Yes.bad
 | ok a q=>exact hf a q (h a q rfl).1 (h a q rfl).2
theorem Yes.imp (h:Yes s P r) (hp:∀ a q,P a q→P' a q):Yes s P' r:=fun a q e=>⟨hp a q (h a q e).1,(h a q e).2⟩
end
abbrev Any (T:Type):T→Tok→Prop:=fun _ _=>True
theorem next_yes {s:ByteArray} {o:Tok} (ho:Good s o):Yes s (Any Unit) (nextF s o):=fun _ q h=>by
 unfold nextF at h
 split at h
 ·cases h
 ·injection h with h1 h2
  subst h2
  exact ⟨trivial,tok_ok s o.j ho.ok.j,(tok_good s o.j ho.ok.j).2.2.1⟩
theorem skip_yes {s:ByteArray} {o:Tok} (l:List ByteArray) (ho:Good s o):Yes s (fun b q=>b = false→q = o) (skipF s l o):=by
 unfold skipF
 split
 ·exact (next_yes ho).bind fun _ q _ hq=>Yes.ok (fun h=>by cases h) hq
 ·exact Yes.ok (fun _=>rfl) ho
theorem take_yes {s:ByteArray} {o:Tok} (l:List ByteArray) (ho:Good s o):Yes s (Any Unit) (takeF s l o):=by
 unfold takeF
 refine (skip_yes l ho).bind fun b q _ hq=>?_
 split
 ·exact Yes.ok trivial hq
 ·exact Yes.bad
theorem lines_yes {s:ByteArray}:∀ (n:Nat) (o:Tok),Good s o→Yes s (Any Unit) (linesN s n o)
 | 0,_,_=>Yes.bad
 | n + 1,o,ho=>by
  rw [linesN]
  refine (skip_yes _ ho).bind fun b q _ hq=>?_
  split
  ·exact lines_yes n q hq
  ·exact Yes.ok trivial hq
theorem word_yes {s:ByteArray} {o:Tok} (ho:Good s o):Yes s (fun x _=>rightW x = true∧x = o.l) (wordF s o):=by
 unfold wordF
 split
 ·rename_i h
  exact (next_yes ho).bind fun _ q _ hq=>Yes.ok ⟨ho.r h,rfl⟩ hq
 ·exact Yes.bad
theorem words_yes {s:ByteArray}:∀ (n:Nat) (l:List PL) (o:Tok),Good s o→l.all rightW = true→Yes s (fun ws _=>ws.all rightW = true∧∃ r,ws = l ++ r∧(o.k = 1→∃ r',r = o.l :: r')∧(o.k ≠ 1→r = [])) (wordsN s n l o)
 | 0,_,_,_,_=>Yes.bad
 | n + 1,l,o,ho,hl=>by
  rw [wordsN]
  split
  ·rename_i h
   refine (word_yes ho).bind fun x q hx hq=>?_
   obtain ⟨hx,rfl⟩:=hx
   refine (words_yes n (l ++ [o.l]) q hq (by simp only [List.all_append,hl,List.all_cons,hx,List.all_nil,Bool.and_self])).imp fun ws p hw=>?_
   obtain ⟨h1,r,rfl,_,_⟩:=hw
   exact ⟨h1,o.l :: r,by simp,fun _=>⟨r,rfl⟩,fun hn=>absurd h hn⟩
  ·rename_i h
   exact Yes.ok ⟨hl,[],by simp,fun hk=>absurd hk h,fun _=>rfl⟩ ho
theorem rightL_none:∀ (p:Option (Int × Bool)) (l:PL) (a d:Nat),rightL p l a d = true→rightL none l a d = true
 | _,.nil,_,_,_=>rfl
 | _,.cons _ _ _ _ _ _,_,_,h=>by
  simp only [rightL,Bool.and_eq_true] at h ⊢
  exact ⟨⟨⟨h.1.1.1,rfl⟩,h.1.2⟩,h.2⟩
theorem split_none {l:PL}:splitA l = none ↔ splitP l = none:=by
 cases l with
 | nil=>exact ⟨fun _=>rfl,fun _=>rfl⟩
 | cons k q t o f r =>
  unfold splitA
  cases splitP (.cons k q t o f r) with
  | none=>exact ⟨fun _=>rfl,fun _=>rfl⟩
  | some n=>exact ⟨(fun h=>by cases h),(fun h=>by cases h)⟩
theorem split_right {l:PL} {x:ByteArray × PL} (hr:rightW l = true) (h:splitA l = some x):assignB x = true:=by
 cases l with
 | nil=>simp [splitA] at h
 | cons k q t o f r =>
  unfold splitA at h
  cases hs:splitP (.cons k q t o f r) with
  | none=>rw [hs] at h;cases h
  | some n =>
   rw [hs] at h
   simp only [Option.some.injEq] at h
   subst h
   simp only [splitP] at hs
   split at hs
   ·rename_i hkq
    obtain ⟨hi,hn,hlt⟩:=eqT_some hs
    simp only [rightW,Bool.and_eq_true] at hr
    have hr2:=hr.2
    simp only [rightL,Bool.and_eq_true] at hr2
    obtain ⟨⟨_,hone⟩,hrest⟩:=hr2
    unfold assignB
    simp only [Bool.and_eq_true]
    refine ⟨by simpa using hn,?_⟩
    show rightL none (if t.size≤n + 1 then r else .cons k q ⟨(t.data.toList.drop (n + 1)).toArray⟩ o f r) 0 1 = true
    split
    ·exact rightL_none (some (k,q)) r 0 1 hrest
    ·rename_i hlen
     simp only [Bool.and_eq_true,Bool.not_eq_true'] at hkq
     obtain ⟨hk,rfl⟩:=hkq
     simp only [rightL,Bool.and_eq_true]
     refine ⟨⟨⟨by decide,rfl⟩,?_⟩,hrest⟩
     rw [if_pos hk] at hone ⊢
     simp only [Bool.and_eq_true,textOK,Bool.false_eq_true,if_false] at hone ⊢
     obtain ⟨⟨h1,h2⟩,h3,h4⟩:=hone
     refine ⟨⟨h1,h2⟩,?_,?_⟩
     ·rw [List.all_eq_true] at h3 ⊢
      intro c hc
      exact h3 c (List.mem_of_mem_drop (by simpa using hc))
     ·have hl:=lenB t
      have:(t.data.toList.drop (n + 1)).length ≠ 0:=by rw [List.length_drop];omega
      cases hd:t.data.toList.drop (n + 1) with
      | nil=>rw [hd] at this;exact absurd rfl this
      | cons a b=>simp
   ·cases hs
theorem assigns_yes {s:ByteArray}:∀ (n:Nat) (l:List (ByteArray × PL)) (o:Tok),Good s o→l.all assignB = true→Yes s (fun az q=>az.all assignB = true∧(q.k = 1→splitP q.l = none)∧∃ r,az = l ++ r∧(r = []→q = o)) (assignsN s n l o)
 | 0,_,_,_,_=>Yes.bad
 | n + 1,l,o,ho,hl=>by
  rw [assignsN]
  split
  ·rename_i h
   split
   ·rename_i x hx
    refine (next_yes ho).bind fun _ q _ hq=>?_
    refine (assigns_yes n (l ++ [x]) q hq (by simp only [List.all_append,hl,List.all_cons,split_right (ho.r h) hx,List.all_nil,Bool.and_self])).imp fun az p ha=>?_
    obtain ⟨h1,h2,r,rfl,_⟩:=ha
    exact ⟨h1,h2,x :: r,by simp,fun h=>by cases h⟩
   ·rename_i hx
    exact Yes.ok ⟨hl,fun _=>split_none.1 hx,[],by simp,fun _=>rfl⟩ ho
  ·rename_i h
   exact Yes.ok ⟨hl,fun hk=>absurd hk h,[],by simp,fun _=>rfl⟩ ho
theorem name_yes {s:ByteArray} {o:Tok} (ho:Good s o):Yes s (fun nm _=>nameL nm.data.toList = true) (nameF s o):=by
 unfold nameF
 split
 ·rename_i h
  unfold namedB at h
  simp only [Bool.and_eq_true] at h
  exact (next_yes ho).bind fun _ q _ hq=>Yes.ok h.2 hq
 ·exact Yes.bad
theorem pats_yes {s:ByteArray}:∀ (n:Nat) (l:List PL) (o:Tok),Good s o→l.all rightW = true→l ≠ []→Yes s (fun ps _=>ps.all rightW = true∧ps ≠ []) (patsN s n l o)
 | 0,_,_,_,_,_=>Yes.bad
 | n + 1,l,o,ho,hl,hn=>by
  rw [patsN]
  refine (skip_yes _ ho).bind fun b q _ hq=>?_
  split
  ·exact (word_yes hq).bind fun x q hx hq=>pats_yes n _ q hq (by simp only [List.all_append,hl,List.all_cons,hx.1,List.all_nil,Bool.and_self]) (by simp)
  ·exact Yes.ok ⟨hl,hn⟩ hq
theorem eachW_yes {s:ByteArray} {o:Tok} (ho:Good s o):Yes s (fun gw _=>(gw.1 || decide (gw.2.length = 0)) = true∧gw.2.all rightW = true) (eachW s o):=by
 unfold eachW
 refine (skip_yes _ ho).bind fun b q _ hq=>(lines_yes _ q hq).bind fun _ q _ hq=>?_
 split
 ·exact Yes.ok ⟨rfl,rfl⟩ hq
 ·refine (skip_yes _ hq).bind fun g q _ hq=>?_
  split
  ·exact (words_yes _ _ q hq rfl).bind fun ws q hw hq=>(take_yes _ hq).bind fun _ q _ hq=>(lines_yes _ q hq).bind fun _ q _ hq=>Yes.ok ⟨rfl,hw.1⟩ hq
  ·exact Yes.ok ⟨rfl,rfl⟩ hq
def NR (x:ND) (D:Nat):Prop:=nodeR x.k x.nm x.g x.az x.ws x.ks x.bs x.cz D = true
theorem rt_toN {D:Nat}:∀ {l:List ND},(∀ x ∈ l,NR x D)→rt (toN l) D = true
 | [],_=>rfl
 | x :: r,h=>by
  show rt (.node x.k x.nm x.g x.az x.ws x.ks x.bs x.cz (toN r)) D = true
  rw [rt_node,Bool.and_eq_true]
  exact ⟨h x (by simp),rt_toN fun y hy=>h y (by simp [hy])⟩
theorem allS_toN {S:Int→Nat→Bool}:∀ {l:List ND},(∀ x ∈ l,S x.k x.ks.len = true)→allS S (toN l) = true
 | [],_=>rfl
 | x :: r,h=>by
  show (S x.k x.ks.len && allS S (toN r)) = true
  rw [Bool.and_eq_true]
  exact ⟨h x (by simp),allS_toN fun y hy=>h y (by simp [hy])⟩
def CR (c:CD) (D:Nat):Prop:=c.1.all rightW = true∧c.1 ≠ []∧c.2.length≤1∧∀ x ∈ c.2,bodyB x.k x.ks.len = true∧NR x D
theorem rt_toC {D:Nat}:∀ {l:List CD},(∀ c ∈ l,CR c D)→rt (toC l) D = true
 | [],_=>rfl
 | c :: r,h=>by
  obtain ⟨h1,h2,h3,h4⟩:=h c (by simp)
  have ih:=rt_toC (l:=r) fun y hy=>h y (by simp [hy])
  show ((!c.1.isEmpty && c.1.all rightW && decide ((toN c.2).len≤1) && (allS bodyB (toN c.2) && rt (toN c.2) D)) && rt (toC r) D) = true
  simp only [Bool.and_eq_true,decide_eq_true_eq,toN_len]
  refine ⟨⟨⟨⟨?_,h1⟩,h3⟩,allS_toN fun x hx=>(h4 x hx).1,rt_toN fun x hx=>(h4 x hx).2⟩,ih⟩
  cases hc:c.1 with
  | nil=>exact absurd hc h2
  | cons=>rfl
end Ps
end Go.Proofs.YtfjfgaefbldgbaaGreat
namespace Go.Proofs.YtfjfgaefbldgbaaGreat
open Go.RowKit Go.Sort
namespace Ps
open Cls Pt Tr Sp Lx
def LR (x:ND) (D:Nat):Prop:=x.k = 5∧0 < x.ks.len∧NR x D
theorem LR.body {x:ND} {D:Nat} (h:LR x D):bodyB x.k x.ks.len = true:=by
 unfold bodyB
 rw [h.1]
 simp only [Bool.and_eq_true,decide_eq_true_eq]
 exact ⟨rfl,h.2.1⟩
theorem NR_list {ks:List ND} {bs:List Bool} {D:Nat} (h:∀ x ∈ ks,itemB x.k = true∧NR x D) (hb:bs.length = ks.length):NR (listD ks bs) D:=by
 show (!deepB 5 D && ownB 5 ⟨#[]⟩ false [] [] (toN ks) bs .nil && (decide ((toN ks).len = bs.length) && (allS itemS (toN ks) && rt (toN ks) D))) = true
 simp only [Bool.and_eq_true,decide_eq_true_eq,toN_len]
 exact ⟨⟨rfl,(by simp [ownB,nodeEq,sameN,eqL])⟩,hb.symm,allS_toN fun x hx=>(h x hx).1,rt_toN fun x hx=>(h x hx).2⟩
theorem NR_two {k:Int} (hk:k = 2∨k = 3) {x y:ND} {D:Nat} (h1:itemB x.k = true) (h2:NR x D) (h3:unitB y.k = true) (h4:NR y D):NR (nd k [x,y]) D:=by
 have hr:rt (toN [x,y]) D = true:=rt_toN fun z hz=>by
  simp only [List.mem_cons,List.not_mem_nil,or_false] at hz
  rcases hz with rfl | rfl
  ·exact h2
  ·exact h4
 rcases hk with rfl | rfl
 ·show (!deepB 2 D && ownB 2 ⟨#[]⟩ false [] [] (toN [x,y]) [] .nil && (decide ((toN [x,y]).len = 2) && (itemB x.k && unitB y.k) && rt (toN [x,y]) D)) = true
  simp only [Bool.and_eq_true]
  exact ⟨⟨rfl,(by simp [ownB,nodeEq,sameN,eqL])⟩,⟨rfl,h1,h3⟩,hr⟩
 ·show (!deepB 3 D && ownB 3 ⟨#[]⟩ false [] [] (toN [x,y]) [] .nil && (decide ((toN [x,y]).len = 2) && (itemB x.k && unitB y.k) && rt (toN [x,y]) D)) = true
  simp only [Bool.and_eq_true]
  exact ⟨⟨rfl,(by simp [ownB,nodeEq,sameN,eqL])⟩,⟨rfl,h1,h3⟩,hr⟩
theorem NR_not {x:ND} {D:Nat} (h1:commandB x.k = true) (h2:NR x D):NR (nd 4 [x]) D:=by
 show (!deepB 4 D && ownB 4 ⟨#[]⟩ false [] [] (toN [x]) [] .nil && (decide ((toN [x]).len = 1) && (allS commandS (toN [x]) && rt (toN [x]) D))) = true
 simp only [Bool.and_eq_true]
 exact ⟨⟨rfl,(by simp [ownB,nodeEq,sameN,eqL])⟩,rfl,allS_toN fun z hz=>by simp only [List.mem_singleton] at hz;subst hz;exact h1,rt_toN fun z hz=>by simp only [List.mem_singleton] at hz;subst hz;exact h2⟩
theorem deep_no {k:Int} {D:Nat} (h:D≤200):(!deepB k D) = true:=by
 unfold deepB
 have:decide (200 < D) = false:=by simp;omega
 rw [this,Bool.and_false]
 rfl
theorem bodies {l:List ND} {D:Nat} (h:∀ x ∈ l,LR x D):allS bodyB (toN l) = true∧rt (toN l) D = true:=⟨allS_toN fun x hx=>(h x hx).body,rt_toN fun x hx=>(h x hx).2.2⟩
theorem mem1 {x:ND} {P:ND→Prop} (h:P x):∀ z ∈ [x],P z:=fun z hz=>by simp only [List.mem_singleton] at hz;subst hz;exact h
theorem mem2 {x y:ND} {P:ND→Prop} (h:P x) (k:P y):∀ z ∈ [x,y],P z:=fun z hz=>by
 simp only [List.mem_cons,List.not_mem_nil,or_false] at hz
 rcases hz with rfl | rfl
 ·exact h
 ·exact k
theorem mem3 {x y u:ND} {P:ND→Prop} (h:P x) (k:P y) (m:P u):∀ z ∈ [x,y,u],P z:=fun z hz=>by
 simp only [List.mem_cons,List.not_mem_nil,or_false] at hz
 rcases hz with rfl | rfl | rfl
 ·exact h
 ·exact k
 ·exact m
theorem NR_enc {k:Int} (hk:k = 11∨k = 12) {x:ND} {D:Nat} (hD:D≤200) (h:LR x (D + 1)):NR (nd k [x]) D:=by
 obtain ⟨h1,h2⟩:=bodies (mem1 (P:=fun z=>LR z (D + 1)) h)
 rcases hk with rfl | rfl
 ·show (!deepB 11 D && ownB 11 ⟨#[]⟩ false [] [] (toN [x]) [] .nil && (decide ((toN [x]).len = 1) && (allS bodyB (toN [x]) && rt (toN [x]) (D + 1)))) = true
  simp only [Bool.and_eq_true]
  exact ⟨⟨deep_no hD,(by simp [ownB,nodeEq,sameN,eqL])⟩,rfl,h1,h2⟩
 ·show (!deepB 12 D && ownB 12 ⟨#[]⟩ false [] [] (toN [x]) [] .nil && (decide ((toN [x]).len = 1) && (allS bodyB (toN [x]) && rt (toN [x]) (D + 1)))) = true
  simp only [Bool.and_eq_true]
  exact ⟨⟨deep_no hD,(by simp [ownB,nodeEq,sameN,eqL])⟩,rfl,h1,h2⟩
theorem NR_loop {k:Int} (hk:k = 7∨k = 8) {x y:ND} {D:Nat} (hD:D≤200) (h:LR x (D + 1)) (h':LR y (D + 1)):NR (nd k [x,y]) D:=by
 obtain ⟨h1,h2⟩:=bodies (mem2 (P:=fun z=>LR z (D + 1)) h h')
 rcases hk with rfl | rfl
 ·show (!deepB 7 D && ownB 7 ⟨#[]⟩ false [] [] (toN [x,y]) [] .nil && (decide ((toN [x,y]).len = 2) && (allS bodyB (toN [x,y]) && rt (toN [x,y]) (D + 1)))) = true
  simp only [Bool.and_eq_true]
  exact ⟨⟨deep_no hD,(by simp [ownB,nodeEq,sameN,eqL])⟩,rfl,h1,h2⟩
 ·show (!deepB 8 D && ownB 8 ⟨#[]⟩ false [] [] (toN [x,y]) [] .nil && (decide ((toN [x,y]).len = 2) && (allS bodyB (toN [x,y]) && rt (toN [x,y]) (D + 1)))) = true
  simp only [Bool.and_eq_true]
  exact ⟨⟨deep_no hD,(by simp [ownB,nodeEq,sameN,eqL])⟩,rfl,h1,h2⟩
theorem NR_if {l:List ND} {D:Nat} (hl:l.length = 2∨l.length = 3) (hD:D≤200) (h:∀ x ∈ l,LR x (D + 1)):NR (nd 6 l) D:=by
 obtain ⟨h1,h2⟩:=bodies h
 show (!deepB 6 D && ownB 6 ⟨#[]⟩ false [] [] (toN l) [] .nil && ((decide ((toN l).len = 2) || decide ((toN l).len = 3)) && (allS bodyB (toN l) && rt (toN l) (D + 1)))) = true
 simp only [Bool.and_eq_true,Bool.or_eq_true,decide_eq_true_eq,toN_len]
 exact ⟨⟨deep_no hD,(by simp [ownB,nodeEq,sameN,eqL])⟩,hl,h1,h2⟩
theorem NR_for {nm:ByteArray} {g:Bool} {ws:List PL} {x:ND} {D:Nat} (hD:D≤200) (hn:nameL nm.data.toList = true) (hg:(g || decide (ws.length = 0)) = true) (hw:ws.all rightW = true) (h:LR x (D + 1)):NR ⟨9,nm,g,[],ws,toN [x],[],.nil⟩ D:=by
 obtain ⟨h1,h2⟩:=bodies (mem1 (P:=fun z=>LR z (D + 1)) h)
 show (!deepB 9 D && ownB 9 nm g [] ws (toN [x]) [] .nil && (decide ((toN [x]).len = 1) && (nameL nm.data.toList && (g || decide (ws.length = 0)) && ws.all rightW) && (allS bodyB (toN [x]) && rt (toN [x]) (D + 1)))) = true
 simp only [Bool.and_eq_true]
 exact ⟨⟨deep_no hD,(by simp [ownB,nodeEq,sameN,eqL])⟩,⟨rfl,⟨hn,hg⟩,hw⟩,h1,h2⟩
theorem NR_case {x:PL} {cs:List CD} {D:Nat} (hD:D≤200) (hx:rightW x = true) (h:∀ c ∈ cs,CR c (D + 1)):NR ⟨10,⟨#[]⟩,false,[],[x],.nil,[],toC cs⟩ D:=by
 have h1:=rt_toC h
 show (!deepB 10 D && ownB 10 ⟨#[]⟩ false [] [x] .nil [] (toC cs) && (decide (([x]:List PL).length = 1) && [x].all rightW && rt (toC cs) (D + 1))) = true
 simp only [Bool.and_eq_true,List.all_cons,List.all_nil,Bool.and_true]
 exact ⟨⟨deep_no hD,(by simp [ownB,nodeEq,sameN,eqL])⟩,⟨rfl,hx⟩,h1⟩
theorem NR_func {nm:ByteArray} {x:ND} {D:Nat} (hD:D≤200) (hn:nameL nm.data.toList = true) (hr:reservedL nm.data.toList = false) (h1:compoundB x.k = true) (h2:NR x D):NR ⟨13,nm,false,[],[],toN [x],[],.nil⟩ D:=by
 show (!deepB 13 D && ownB 13 nm false [] [] (toN [x]) [] .nil && (decide ((toN [x]).len = 1) && nameL nm.data.toList && !reservedL nm.data.toList && (allS compoundS (toN [x]) && rt (toN [x]) D))) = true
 simp only [Bool.and_eq_true,hr,Bool.not_false]
 exact ⟨⟨deep_no hD,(by simp [ownB,nodeEq,sameN,eqL])⟩,⟨⟨rfl,hn⟩,trivial⟩,allS_toN (mem1 h1),rt_toN (mem1 h2)⟩
theorem NR_simple {az:List (ByteArray × PL)} {ws:List PL} {D:Nat} (h:simpleB az ws = true):NR ⟨1,⟨#[]⟩,false,az,ws,.nil,[],.nil⟩ D:=by
 show (!deepB 1 D && ownB 1 ⟨#[]⟩ false az ws .nil [] .nil && simpleB az ws) = true
 simp only [Bool.and_eq_true]
 exact ⟨⟨rfl,(by simp [ownB,nodeEq,sameN,eqL])⟩,h⟩
structure Yess (s:ByteArray) (n:Nat):Prop where
 list:∀ d ks bs o,d≤200→Good s o→(∀ x ∈ ks,itemB x.k = true∧NR x (d + 1))→bs.length = ks.length→Yes s (fun x _=>LR x (d + 1)) (listF s d n ks bs o)
 item:∀ d o,d≤200→Good s o→Yes s (fun x _=>itemB x.k = true∧NR x (d + 1)) (itemF s d n o)
 iteml:∀ d x o,d≤200→Good s o→itemB x.k = true→NR x (d + 1)→Yes s (fun x _=>itemB x.k = true∧NR x (d + 1)) (itemL s d n x o)
 unit:∀ d o,d≤200→Good s o→Yes s (fun x _=>unitB x.k = true∧NR x (d + 1)) (unitF s d n o)
 command:∀ d o,d≤200→Good s o→Yes s (fun x _=>commandB x.k = true∧NR x (d + 1)) (commandF s d n o)
 simple:∀ d o,d≤200→Good s o→simplyB o = true→Yes s (fun x _=>commandB x.k = true∧NR x (d + 1)) (simpleF s d n o)
 compound:∀ d o,d≤200→Good s o→Yes s (fun x _=>compoundB x.k = true∧NR x (d + 1)∧d + 1≤200) (compoundF s d n o)
 opened:∀ d t o,d≤200→Good s o→Yes s (fun x _=>compoundB x.k = true∧NR x d) (openedF s d n t o)
 loop:∀ d k o,(k = 7∨k = 8)→d≤200→Good s o→Yes s (fun x _=>compoundB x.k = true∧NR x d) (loopF s d n k o)
 behind:∀ d t o,d≤200→Good s o→Yes s (fun x _=>LR x (d + 1)) (behindF s d n t o)
 branch:∀ d o,d≤200→Good s o→Yes s (fun x _=>x.k = 6∧NR x d) (branchF s d n o)
 each:∀ d o,d≤200→Good s o→Yes s (fun x _=>compoundB x.k = true∧NR x d) (eachF s d n o)
 choice:∀ d o,d≤200→Good s o→Yes s (fun x _=>compoundB x.k = true∧NR x d) (choiceF s d n o)
 choicel:∀ d x cs o,d≤200→Good s o→rightW x = true→(∀ c ∈ cs,CR c (d + 1))→Yes s (fun x _=>compoundB x.k = true∧NR x d) (choiceL s d n x cs o)
 entry:∀ d o,d≤200→Good s o→Yes s (fun c _=>CR c (d + 1)) (entryF s d n o)
theorem entryE_yes {s:ByteArray} {c:CD} {o:Tok} {D:Nat} (hc:CR c D) (ho:Good s o):Yes s (fun c _=>CR c D) (entryE s c o):=by
 unfold entryE
 split
 ·exact Yes.ok hc ho
 ·exact (take_yes _ ho).bind fun _ q _ hq=>(lines_yes _ q hq).bind fun _ q _ hq=>Yes.ok hc hq
theorem compound_command {k:Int} (h:compoundB k = true):commandB k = true:=by
 unfold compoundB at h
 unfold commandB countsB
 simp only [Bool.and_eq_true,decide_eq_true_eq] at h
 simp only [Bool.or_eq_true,Bool.and_eq_true,decide_eq_true_eq]
 right
 omega
theorem command_unit {k:Int} (h:commandB k = true):unitB k = true:=by unfold unitB;rw [h,Bool.or_true]
theorem unit_item {k:Int} (h:unitB k = true):itemB k = true:=by unfold itemB;rw [h,Bool.or_true]
theorem yess_all (s:ByteArray):∀ n,Yess s n
 | 0=>by
  constructor <;> (intros;intro a q h;simp [listF,itemF,itemL,unitF,commandF,simpleF,compoundF,openedF,loopF,behindF,branchF,eachF,choiceF,choiceL,entryF] at h)
 | n + 1=>by
  have ih:=yess_all s n
  constructor
  ·intro d ks bs o hd ho hks hbs
   rw [listF]
   refine (ih.item d o hd ho).bind fun x q hx hq=>?_
   have hks2:∀ y ∈ ks ++ [x],itemB y.k = true∧NR y (d + 1):=fun y hy=>by
    rcases List.mem_append.1 hy with hy | hy
    ·exact hks y hy
    ·simp only [List.mem_singleton] at hy;subst hy;exact hx
   have hl2:∀ b:Bool,(bs ++ [b]).length = (ks ++ [x]).length:=fun b=>by simp [hbs]
   have hlr:∀ b:Bool,LR (listD (ks ++ [x]) (bs ++ [b])) (d + 1):=fun b=>⟨rfl,by show 0 < (toN (ks ++ [x])).len;rw [toN_len];simp,NR_list hks2 (hl2 b)⟩
   refine (skip_yes _ hq).bind fun b p _ hp=>?_
   split
   ·refine (lines_yes _ p hp).bind fun _ q2 _ hq2=>?_
    split
    ·exact ih.list d _ _ q2 hd hq2 hks2 (hl2 _)
    ·exact Yes.ok (hlr _) hq2
   ·exact Yes.ok (hlr _) hp
  ·intro d o hd ho
   rw [itemF]
   exact (ih.unit d o hd ho).bind fun x q hx hq=>ih.iteml d x q hd hq (unit_item hx.1) hx.2
  ·intro d x o hd ho h1 h2
   rw [itemL]
   split
   ·exact (next_yes ho).bind fun _ q _ hq=>(lines_yes _ q hq).bind fun _ q _ hq=>(ih.unit d q hd hq).bind fun y q hy hq=>ih.iteml d _ q hd hq (by split <;> rfl) (NR_two (by split <;> simp) h1 h2 hy.1 hy.2)
   ·exact Yes.ok ⟨h1,h2⟩ ho
  ·intro d o hd ho
   rw [unitF]
   refine (skip_yes _ ho).bind fun b q _ hq=>?_
   split
   ·exact (ih.command d q hd hq).bind fun x q hx hq=>Yes.ok ⟨rfl,NR_not hx.1 hx.2⟩ hq
   ·exact (ih.command d q hd hq).imp fun x q hx=>⟨command_unit hx.1,hx.2⟩
  ·intro d o hd ho
   rw [commandF]
   split
   ·rename_i h
    exact ih.simple d o hd ho h
   ·exact (ih.compound d o hd ho).imp fun x q hx=>⟨compound_command hx.1,hx.2.1⟩
  ·intro d o hd ho hsi
   rw [simpleF]
   unfold simplyB at hsi
   simp only [Bool.and_eq_true,beq_iff_eq,Bool.not_eq_true'] at hsi
   refine (assigns_yes _ _ o ho rfl).bind fun az p haz hp=>(words_yes _ _ p hp rfl).bind fun ws q hws hq=>?_
   obtain ⟨ha1,ha2,ra,hra,ha3⟩:=haz
   obtain ⟨hw1,rw',hrw,hw2,hw3⟩:=hws
   rw [List.nil_append] at hra hrw
   subst hra
   subst hrw
   have hsb:simpleB az ws = true:=by
    unfold simpleB
    rw [Bool.and_eq_true]
    refine ⟨ha1,?_⟩
    by_cases hpk:p.k = 1
    ·obtain ⟨r',rfl⟩:=hw2 hpk
     show (firstB p.l (decide (0 < az.length)) && (p.l :: r').all rightW) = true
     rw [Bool.and_eq_true]
     refine ⟨?_,hw1⟩
     unfold firstB
     rw [Bool.and_eq_true]
     refine ⟨by rw [ha2 hpk];rfl,?_⟩
     cases az with
     | cons a b=>simp
     | nil =>
      have hpo:=ha3 rfl
      subst hpo
      have ht:textF p = plainT p.l:=by unfold textF;rw [if_neg (by omega),if_neg (by omega)]
      rw [ht] at hsi
      rw [hsi.2]
      simp
    ·rw [hw3 hpk]
     cases az with
     | cons a b=>simp
     | nil=>exact absurd (by rw [ha3 rfl];exact hsi.1) hpk
   have hok:commandB (1:Int) = true∧NR ⟨1,⟨#[]⟩,false,az,ws,.nil,[],.nil⟩ (d + 1):=⟨rfl,NR_simple hsb⟩
   split
   ·rename_i hcond
    refine (skip_yes _ hq).bind fun b q2 _ hq2=>?_
    split
    ·refine (take_yes _ hq2).bind fun _ q3 _ hq3=>(lines_yes _ q3 hq3).bind fun _ q4 _ hq4=>(ih.compound d q4 hd hq4).bind fun x q5 hx hq5=>Yes.ok ⟨rfl,?_⟩ hq5
     simp only [Bool.and_eq_true,namedB] at hcond
     exact NR_func hx.2.2 hcond.1.2 hsi.2 hx.1 hx.2.1
    ·exact Yes.ok hok hq2
   ·exact Yes.ok hok hq
  ·intro d o hd ho
   rw [compoundF]
   split
   ·split
    ·exact Yes.bad
    ·rename_i hne
     exact (next_yes ho).bind fun _ q _ hq=>(ih.opened (d + 1) _ q (by omega) hq).imp fun x q hx=>⟨hx.1,hx.2,by omega⟩
   ·exact Yes.bad
  ·intro d t o hd ho
   rw [openedF]
   split
   ·exact (lines_yes _ o ho).bind fun _ q _ hq=>(ih.list d _ _ q hd hq (fun _ h=>by cases h) rfl).bind fun x q hx hq=>(take_yes _ hq).bind fun _ q _ hq=>Yes.ok ⟨rfl,NR_enc (.inl rfl) hd hx⟩ hq
   ·split
    ·exact (lines_yes _ o ho).bind fun _ q _ hq=>(ih.list d _ _ q hd hq (fun _ h=>by cases h) rfl).bind fun x q hx hq=>(take_yes _ hq).bind fun _ q _ hq=>Yes.ok ⟨rfl,NR_enc (.inr rfl) hd hx⟩ hq
    ·split
     ·exact (ih.branch d o hd ho).bind fun x q hx hq=>(take_yes _ hq).bind fun _ q _ hq=>Yes.ok ⟨by rw [hx.1];rfl,hx.2⟩ hq
     ·split
      ·exact ih.loop d _ o (.inl rfl) hd ho
      ·split
       ·exact ih.loop d _ o (.inr rfl) hd ho
       ·split
        ·exact ih.each d o hd ho
        ·exact ih.choice d o hd ho
  ·intro d k o hk hd ho
   rw [loopF]
   exact (lines_yes _ o ho).bind fun _ q _ hq=>(ih.list d _ _ q hd hq (fun _ h=>by cases h) rfl).bind fun x q hx hq=>(ih.behind d _ q hd hq).bind fun y q hy hq=>(take_yes _ hq).bind fun _ q _ hq=>Yes.ok ⟨by rcases hk with rfl | rfl <;> rfl,NR_loop hk hd hx hy⟩ hq
  ·intro d t o hd ho
   rw [behindF]
   exact (take_yes _ ho).bind fun _ q _ hq=>(lines_yes _ q hq).bind fun _ q _ hq=>ih.list d _ _ q hd hq (fun _ h=>by cases h) rfl
  ·intro d o hd ho
   rw [branchF]
   refine (lines_yes _ o ho).bind fun _ q _ hq=>(ih.list d _ _ q hd hq (fun _ h=>by cases h) rfl).bind fun x q hx hq=>(ih.behind d _ q hd hq).bind fun y q hy hq=>?_
   split
   ·exact (ih.behind d _ q hd hq).bind fun z q hz hq=>Yes.ok ⟨rfl,NR_if (.inr rfl) hd (mem3 hx hy hz)⟩ hq
   ·split
    ·split
     ·exact Yes.bad
     ·rename_i hne
      refine (next_yes hq).bind fun _ q _ hq=>(ih.branch (d + 1) q (by omega) hq).bind fun z q hz hq=>Yes.ok ⟨rfl,NR_if (.inr rfl) hd (mem3 hx hy ?_)⟩ hq
      exact ⟨rfl,Nat.zero_lt_one,NR_list (mem1 (P:=fun z=>itemB z.k = true∧NR z (d + 1)) ⟨by rw [hz.1];rfl,hz.2⟩) rfl⟩
    ·exact Yes.ok ⟨rfl,NR_if (.inl rfl) hd (mem2 hx hy)⟩ hq
  ·intro d o hd ho
   rw [eachF]
   exact (name_yes ho).bind fun nm q hnm hq=>(eachW_yes hq).bind fun gw q hgw hq=>(ih.behind d _ q hd hq).bind fun y q hy hq=>(take_yes _ hq).bind fun _ q _ hq=>Yes.ok ⟨rfl,NR_for hd hnm hgw.1 hgw.2 hy⟩ hq
  ·intro d o hd ho
   rw [choiceF]
   exact (word_yes ho).bind fun x q hx hq=>(lines_yes _ q hq).bind fun _ q _ hq=>(take_yes _ hq).bind fun _ q _ hq=>(lines_yes _ q hq).bind fun _ q _ hq=>ih.choicel d x [] q hd hq hx.1 fun _ h=>by cases h
  ·intro d x cs o hd ho hx hcs
   rw [choiceL]
   refine (skip_yes _ ho).bind fun b q _ hq=>?_
   split
   ·exact Yes.ok ⟨rfl,NR_case hd hx hcs⟩ hq
   ·exact (ih.entry d q hd hq).bind fun c q hc hq=>ih.choicel d x _ q hd hq hx fun y hy=>by
     rcases List.mem_append.1 hy with hy | hy
     ·exact hcs y hy
     ·simp only [List.mem_singleton] at hy;subst hy;exact hc
  ·intro d o hd ho
   rw [entryF]
   refine (skip_yes _ ho).bind fun _ q _ hq=>(word_yes hq).bind fun x q hx hq=>(pats_yes _ _ q hq (by simp only [List.all_cons,hx.1,List.all_nil,Bool.and_self]) (by simp)).bind fun ps q hps hq=>(take_yes _ hq).bind fun _ q _ hq=>(lines_yes _ q hq).bind fun _ q _ hq=>?_
   split
   ·exact (ih.list d _ _ q hd hq (fun _ h=>by cases h) rfl).bind fun y q hy hq=>entryE_yes ⟨hps.1,hps.2,by simp,mem1 (P:=fun z=>bodyB z.k z.ks.len = true∧NR z (d + 1)) ⟨hy.body,hy.2.2⟩⟩ hq
   ·exact entryE_yes ⟨hps.1,hps.2,by simp,fun _ h=>by cases h⟩ hq
theorem parse_right {s:ByteArray} {x:ND} {q:Tok} (h:parseF s = .ok x q):x.k = 5∧NR x 1:=by
 have h0:Good s o0:=⟨⟨Nat.zero_le _,Nat.zero_le _,fun h=>by simp [o0] at h,Nat.zero_le _,Nat.zero_le _⟩,fun h=>by simp [o0] at h⟩
 have hend:∀ (x:ND) (o:Tok),x.k = 5∧NR x 1→Good s o→Yes s (fun x _=>x.k = 5∧NR x 1) (endF x o):=fun x o hx ho=>by
  unfold endF
  split
  ·exact Yes.ok hx ho
  ·exact Yes.bad
 have hp:Yes s (fun x _=>x.k = 5∧NR x 1) (parseF s):=by
  unfold parseF
  refine (next_yes h0).bind fun _ o _ ho=>?_
  unfold programF
  refine (lines_yes _ o ho).bind fun _ o _ ho=>?_
  split
  ·exact ((yess_all s (fuelP s)).list 0 [] [] o (by omega) ho (fun _ h=>by cases h) rfl).bind fun x o hx ho=>hend x o ⟨hx.1,hx.2.2⟩ ho
  ·exact hend _ o ⟨rfl,NR_list (fun _ h=>by cases h) rfl⟩ ho
 exact (hp x q h).1
end Ps
end Go.Proofs.YtfjfgaefbldgbaaGreat
namespace Go.Proofs.YtfjfgaefbldgbaaGreat
open Go.RowKit Go.Sort
namespace Ps
open Cls Pt Tr Sp Lx
def NF (x:ND):Prop:=(∀ l ∈ x.ws,wOK l)∧fitN x.ks∧fitN x.cz
theorem fit_toN:∀ {l:List ND},(∀ x ∈ l,NF x)→fitN (toN l)
 | [],_=>trivial
 | x :: r,h=>⟨(h x (by simp)).1,(h x (by simp)).2.1,(h x (by simp)).2.2,fit_toN fun y hy=>h y (by simp [hy])⟩
theorem fit_toC:∀ {l:List CD},(∀ c ∈ l,∀ x ∈ c.2,NF x)→fitN (toC l)
 | [],_=>trivial
 | c :: r,h=>⟨fit_toN (h c (by simp)),fit_toC fun y hy=>h y (by simp [hy])⟩
theorem NF.kids {k:Int} {nm:ByteArray} {g:Bool} {az:List (ByteArray × PL)} {ws:List PL} {ks:List ND} {bs:List Bool} (hw:∀ l ∈ ws,wOK l) (h:∀ x ∈ ks,NF x):NF ⟨k,nm,g,az,ws,toN ks,bs,.nil⟩:=⟨hw,fit_toN h,trivial⟩
theorem none_in {T:Type} {P:T→Prop}:∀ x ∈ ([]:List T),P x:=fun _ h=>by cases h
theorem snoc_in {T:Type} {P:T→Prop} {l:List T} {x:T} (h:∀ y ∈ l,P y) (hx:P x):∀ y ∈ l ++ [x],P y:=fun y hy=>by
 rcases List.mem_append.1 hy with hy | hy
 ·exact h y hy
 ·simp only [List.mem_singleton] at hy;subst hy;exact hx
theorem wok_tok {s:ByteArray} {o:Tok} (hs:s.size≤400000) (ho:TokOK s o):wOK o.l:=by
 have hf:=ho.f
 refine ⟨by have:=size_ftot o.l;omega,fun k q t o' f r h=>?_⟩
 have:=head_ft h
 omega
section
variable {s:ByteArray} (hs:s.size≤400000)
include hs
theorem word_fit {o:Tok} (ho:Good s o):Yes s (fun x _=>wOK x) (wordF s o):=(word_yes ho).imp fun x _ h=>by rw [h.2];exact wok_tok hs ho.ok
theorem words_fit:∀ (n:Nat) (l:List PL) (o:Tok),Good s o→(∀ x ∈ l,wOK x)→Yes s (fun ws _=>∀ x ∈ ws,wOK x) (wordsN s n l o)
 | 0,_,_,_,_=>Yes.bad
 | n + 1,l,o,ho,hl=>by
  rw [wordsN]
  split
  ·exact (word_fit hs ho).bind fun x q hx hq=>words_fit n _ q hq (snoc_in hl hx)
  ·exact Yes.ok hl ho
theorem eachW_fit {o:Tok} (ho:Good s o):Yes s (fun x _=>∀ y ∈ x.2,wOK y) (eachW s o):=by
 unfold eachW
 refine (skip_yes _ ho).bind fun b q _ hq=>(lines_yes _ q hq).bind fun _ q _ hq=>?_
 split
 ·exact Yes.ok none_in hq
 ·refine (skip_yes _ hq).bind fun g q _ hq=>?_
  split
  ·exact (words_fit hs _ _ q hq none_in).bind fun ws q hws hq=>(take_yes _ hq).bind fun _ q _ hq=>(lines_yes _ q hq).bind fun _ q _ hq=>Yes.ok hws hq
  ·exact Yes.ok none_in hq
end
theorem entryE_fit {s:ByteArray} {c:CD} {o:Tok} (hc:∀ x ∈ c.2,NF x) (ho:Good s o):Yes s (fun c _=>∀ x ∈ c.2,NF x) (entryE s c o):=by
 unfold entryE
 split
 ·exact Yes.ok hc ho
 ·exact (take_yes _ ho).bind fun _ q _ hq=>(lines_yes _ q hq).bind fun _ q _ hq=>Yes.ok hc hq
abbrev NFs:ND→Tok→Prop:=fun x _=>NF x
structure Fits (s:ByteArray) (n:Nat):Prop where
 list:∀ d ks bs o,Good s o→(∀ x ∈ ks,NF x)→Yes s NFs (listF s d n ks bs o)
 item:∀ d o,Good s o→Yes s NFs (itemF s d n o)
 iteml:∀ d x o,Good s o→NF x→Yes s NFs (itemL s d n x o)
 unit:∀ d o,Good s o→Yes s NFs (unitF s d n o)
 command:∀ d o,Good s o→Yes s NFs (commandF s d n o)
 simple:∀ d o,Good s o→Yes s NFs (simpleF s d n o)
 compound:∀ d o,Good s o→Yes s NFs (compoundF s d n o)
 opened:∀ d t o,Good s o→Yes s NFs (openedF s d n t o)
 loop:∀ d k o,Good s o→Yes s NFs (loopF s d n k o)
 behind:∀ d t o,Good s o→Yes s NFs (behindF s d n t o)
 branch:∀ d o,Good s o→Yes s NFs (branchF s d n o)
 each:∀ d o,Good s o→Yes s NFs (eachF s d n o)
 choice:∀ d o,Good s o→Yes s NFs (choiceF s d n o)
 choicel:∀ d x cs o,Good s o→wOK x→(∀ c ∈ cs,∀ y ∈ c.2,NF y)→Yes s NFs (choiceL s d n x cs o)
 entry:∀ d o,Good s o→Yes s (fun c _=>∀ x ∈ c.2,NF x) (entryF s d n o)
theorem fits_all (s:ByteArray) (hs:s.size≤400000):∀ n,Fits s n
 | 0=>by
  constructor <;> (intros;intro a q h;simp [listF,itemF,itemL,unitF,commandF,simpleF,compoundF,openedF,loopF,behindF,branchF,eachF,choiceF,choiceL,entryF] at h)
 | n + 1=>by
  have ih:=fits_all s hs n
  constructor
  ·intro d ks bs o ho hks
   rw [listF]
   refine (ih.item d o ho).bind fun x q hx hq=>(skip_yes _ hq).bind fun b p _ hp=>?_
   have h2:=snoc_in hks hx
   split
   ·refine (lines_yes _ p hp).bind fun _ q2 _ hq2=>?_
    split
    ·exact ih.list d _ _ q2 hq2 h2
    ·exact Yes.ok (NF.kids none_in h2) hq2
   ·exact Yes.ok (NF.kids none_in h2) hp
  ·intro d o ho
   rw [itemF]
   exact (ih.unit d o ho).bind fun x q hx hq=>ih.iteml d x q hq hx
  ·intro d x o ho h1
   rw [itemL]
   split
   ·exact (next_yes ho).bind fun _ q _ hq=>(lines_yes _ q hq).bind fun _ q _ hq=>(ih.unit d q hq).bind fun y q hy hq=>ih.iteml d _ q hq (NF.kids none_in (mem2 h1 hy))
   ·exact Yes.ok h1 ho
  ·intro d o ho
   rw [unitF]
   refine (skip_yes _ ho).bind fun b q _ hq=>?_
   split
   ·exact (ih.command d q hq).bind fun x q hx hq=>Yes.ok (NF.kids none_in (mem1 hx)) hq
   ·exact ih.command d q hq
  ·intro d o ho
   rw [commandF]
   split
   ·exact ih.simple d o ho
   ·exact ih.compound d o ho
  ·intro d o ho
   rw [simpleF]
   refine (assigns_yes _ _ o ho rfl).bind fun az p _ hp=>(words_fit hs _ _ p hp none_in).bind fun ws q hws hq=>?_
   have hok:NF ⟨1,⟨#[]⟩,false,az,ws,.nil,[],.nil⟩:=⟨hws,trivial,trivial⟩
   split
   ·refine (skip_yes _ hq).bind fun b q2 _ hq2=>?_
    split
    ·exact (take_yes _ hq2).bind fun _ q3 _ hq3=>(lines_yes _ q3 hq3).bind fun _ q4 _ hq4=>(ih.compound d q4 hq4).bind fun x q5 hx hq5=>Yes.ok (NF.kids none_in (mem1 hx)) hq5
    ·exact Yes.ok hok hq2
   ·exact Yes.ok hok hq
  ·intro d o ho
   rw [compoundF]
   split
   ·split
    ·exact Yes.bad
    ·exact (next_yes ho).bind fun _ q _ hq=>ih.opened (d + 1) _ q hq
   ·exact Yes.bad
  ·intro d t o ho
   rw [openedF]
   split
   ·exact (lines_yes _ o ho).bind fun _ q _ hq=>(ih.list d _ _ q hq none_in).bind fun x q hx hq=>(take_yes _ hq).bind fun _ q _ hq=>Yes.ok (NF.kids none_in (mem1 hx)) hq
   ·split
    ·exact (lines_yes _ o ho).bind fun _ q _ hq=>(ih.list d _ _ q hq none_in).bind fun x q hx hq=>(take_yes _ hq).bind fun _ q _ hq=>Yes.ok (NF.kids none_in (mem1 hx)) hq
    ·split
     ·exact (ih.branch d o ho).bind fun x q hx hq=>(take_yes _ hq).bind fun _ q _ hq=>Yes.ok hx hq
     ·split
      ·exact ih.loop d _ o ho
      ·split
       ·exact ih.loop d _ o ho
       ·split
        ·exact ih.each d o ho
        ·exact ih.choice d o ho
  ·intro d k o ho
   rw [loopF]
   exact (lines_yes _ o ho).bind fun _ q _ hq=>(ih.list d _ _ q hq none_in).bind fun x q hx hq=>(ih.behind d _ q hq).bind fun y q hy hq=>(take_yes _ hq).bind fun _ q _ hq=>Yes.ok (NF.kids none_in (mem2 hx hy)) hq
  ·intro d t o ho
   rw [behindF]
   exact (take_yes _ ho).bind fun _ q _ hq=>(lines_yes _ q hq).bind fun _ q _ hq=>ih.list d _ _ q hq none_in
  ·intro d o ho
   rw [branchF]
   refine (lines_yes _ o ho).bind fun _ q _ hq=>(ih.list d _ _ q hq none_in).bind fun x q hx hq=>(ih.behind d _ q hq).bind fun y q hy hq=>?_
   split
   ·exact (ih.behind d _ q hq).bind fun z q hz hq=>Yes.ok (NF.kids none_in (mem3 hx hy hz)) hq
   ·split
    ·split
     ·exact Yes.bad
     ·exact (next_yes hq).bind fun _ q _ hq=>(ih.branch (d + 1) q hq).bind fun z q hz hq=>Yes.ok (NF.kids none_in (mem3 hx hy (NF.kids none_in (mem1 hz)))) hq
    ·exact Yes.ok (NF.kids none_in (mem2 hx hy)) hq
  ·intro d o ho
   rw [eachF]
   exact (name_yes ho).bind fun nm q _ hq=>(eachW_fit hs hq).bind fun gw q hgw hq=>(ih.behind d _ q hq).bind fun y q hy hq=>(take_yes _ hq).bind fun _ q _ hq=>Yes.ok (NF.kids hgw (mem1 hy)) hq
  ·intro d o ho
   rw [choiceF]
   exact (word_fit hs ho).bind fun x q hx hq=>(lines_yes _ q hq).bind fun _ q _ hq=>(take_yes _ hq).bind fun _ q _ hq=>(lines_yes _ q hq).bind fun _ q _ hq=>ih.choicel d x [] q hq hx none_in
  ·intro d x cs o ho hx hcs
   rw [choiceL]
   refine (skip_yes _ ho).bind fun b q _ hq=>?_
   split
   ·exact Yes.ok ⟨fun l hl=>by simp only [List.mem_singleton] at hl;subst hl;exact hx,trivial,fit_toC hcs⟩ hq
   ·exact (ih.entry d q hq).bind fun c q hc hq=>ih.choicel d x _ q hq hx (snoc_in (P:=fun c:CD=>∀ y ∈ c.2,NF y) hcs hc)
  ·intro d o ho
   rw [entryF]
   refine (skip_yes _ ho).bind fun _ q _ hq=>(word_yes hq).bind fun x q hx hq=>(pats_yes _ _ q hq (by simp only [List.all_cons,hx.1,List.all_nil,Bool.and_self]) (by simp)).bind fun ps q _ hq=>(take_yes _ hq).bind fun _ q _ hq=>(lines_yes _ q hq).bind fun _ q _ hq=>?_
   split
   ·exact (ih.list d _ _ q hq none_in).bind fun y q hy hq=>entryE_fit (mem1 hy) hq
   ·exact entryE_fit none_in hq
theorem parse_fit {s:ByteArray} (hs:s.size≤400000) {x:ND} {q:Tok} (h:parseF s = .ok x q):NF x:=by
 have h0:Good s o0:=⟨⟨Nat.zero_le _,Nat.zero_le _,fun h=>by simp [o0] at h,Nat.zero_le _,Nat.zero_le _⟩,fun h=>by simp [o0] at h⟩
 have hend:∀ (x:ND) (o:Tok),NF x→Good s o→Yes s NFs (endF x o):=fun x o hx ho=>by
  unfold endF
  split
  ·exact Yes.ok hx ho
  ·exact Yes.bad
 have hp:Yes s NFs (parseF s):=by
  unfold parseF
  refine (next_yes h0).bind fun _ o _ ho=>?_
  unfold programF
  refine (lines_yes _ o ho).bind fun _ o _ ho=>?_
  split
  ·exact ((fits_all s hs (fuelP s)).list 0 [] [] o ho none_in).bind fun x o hx ho=>hend x o hx ho
  ·exact hend _ o (NF.kids none_in none_in) ho
 exact (hp x q h).1
end Ps
end Go.Proofs.YtfjfgaefbldgbaaGreat
namespace Go.Proofs.YtfjfgaefbldgbaaGreat
open Go.RowKit Go.Sort
namespace Ps
open Cls Pt Tr Sp Lx
def toks (s:ByteArray):List Tok:=scanF (s.size + 1) s 0
theorem scan_next {s:ByteArray} {o:Tok}:∀ (n i:Nat),i≤s.size→s.size - i < n→o ∈ scanF n s i→stopT o = false→tokAt s o.j ∈ scanF n s i
 | 0,_,_,h,_,_=>by omega
 | n + 1,i,hi,hn,hm,hs=>by
  rw [scanF] at hm ⊢
  rcases List.mem_cons.1 hm with rfl | hm
  ·have hg:=(tok_good s i hi).2.2.2.2 hs
   rw [hs]
   obtain ⟨n,rfl⟩:∃ m,n = m + 1:=⟨n - 1,by omega⟩
   refine List.mem_cons_of_mem _ ?_
   rw [if_neg (by decide),scanF]
   exact List.mem_cons_self
  ·cases hst:stopT (tokAt s i)
   ·rw [hst,if_neg (by decide)] at hm
    have hg:=(tok_good s i hi).2.2.2.2 hst
    refine List.mem_cons_of_mem _ ?_
    rw [if_neg (by decide)]
    exact scan_next n _ hg.2.2 (by omega) hm hs
   ·rw [hst,if_pos rfl] at hm
    cases hm
structure Fine (s:ByteArray) (o:Tok):Prop where
 ok:TokOK s o
 tk:o ∈ toks s
 n5:o.k ≠ 5
def E {T:Type} (s:ByteArray) (r:Rs T):Prop:=(∀ i e,r = .bad i e→e ≠ 0∧∃ t ∈ toks s,t.i = i)∧∀ a q,r = .ok a q→Fine s q
section
variable {T U:Type} {s:ByteArray} {o:Tok} {r:Rs T} {f:T→Tok→Rs U}
theorem E.bad {e:Nat} (ho:Fine s o) (he:e ≠ 0):E s (.bad o.i e:Rs T):=⟨fun i e' h=>by injection h with h1 h2;subst h1;subst h2;exact ⟨he,o,ho.tk,rfl⟩,fun _ _ h=>by cases h⟩
theorem E.ok {a:T} (ho:Fine s o):E s (.ok a o):=⟨(fun _ _ h=>by cases h),fun b q h=>by injection h with h1 h2;subst h2;exact ho⟩
theorem E.bind (h:E s r) (hf:∀ a q,r = .ok a q→Fine s q→E s (f a q)):E s (r.bind f):=by
 cases r with
 | bad i e=>exact ⟨fun j g hj=>by have:Rs.bad i e = (Rs.bad j g:Rs U):=hj;injection this with h1 h2;subst h1;subst h2;exact h.1 i e rfl,fun _ _ h=>by cases h⟩
 | ok a q=>exact hf a q rfl (h.2 a q rfl)
end
theorem next_tok {s:ByteArray} {j:Nat} (hj:j≤s.size) (hm:tokAt s j ∈ toks s):E s (if (tokAt s j).k = 5 then .bad (tokAt s j).i (tokAt s j).err else .ok () (tokAt s j)):=by
 split
 ·rename_i h5
  exact ⟨fun i e h=>by injection h with h1 h2;subst h1;subst h2;exact ⟨(tok_good s j hj).2.2.2.1.1 h5,_,hm,rfl⟩,fun _ _ h=>by cases h⟩
 ·rename_i h5
  exact E.ok ⟨tok_ok s j hj,hm,h5⟩
theorem next_e {s:ByteArray} {o:Tok} (ho:Fine s o) (hk:o.k ≠ 4):E s (nextF s o):=by
 have hst:stopT o = false:=by
  have:=ho.n5
  simp [stopT,hk,this]
 exact next_tok ho.ok.j (scan_next _ 0 (Nat.zero_le _) (by omega) ho.tk hst)
theorem next0_e (s:ByteArray):E s (nextF s o0):=next_tok (Nat.zero_le _) (by
 show tokAt s 0 ∈ scanF (s.size + 1) s 0
 rw [scanF]
 exact List.mem_cons_self)
theorem skip_e {s:ByteArray} {o:Tok} {l:List ByteArray} (ho:Fine s o) (hl:l.all (fun x=>x.size != 0) = true):E s (skipF s l o):=by
 unfold skipF
 split
 ·rename_i h
  exact (next_e ho (sees_k ho.ok hl h)).bind fun _ q _ hq=>E.ok hq
 ·exact E.ok ho
theorem take_e {s:ByteArray} {o:Tok} {l:List ByteArray} (ho:Fine s o) (hl:l.all (fun x=>x.size != 0) = true):E s (takeF s l o):=by
 unfold takeF
 refine (skip_e ho hl).bind fun b q _ hq=>?_
 split
 ·exact E.ok hq
 ·exact E.bad hq (by decide)
theorem lines_e {s:ByteArray}:∀ n o,Fine s o→mu s o < n→E s (linesN s n o)
 | 0,_,_,h=>by omega
 | n + 1,o,ho,hm=>by
  rw [linesN]
  refine (skip_e ho (by decide)).bind fun b q h hq=>?_
  split
  ·rename_i hb
   subst hb
   exact lines_e n q hq (by have:=(skip_mu ho.ok (by decide) h).1;omega)
  ·exact E.ok hq
theorem word_e {s:ByteArray} {o:Tok} (ho:Fine s o):E s (wordF s o):=by
 unfold wordF
 split
 ·exact (next_e ho (by omega)).bind fun _ q _ hq=>E.ok hq
 ·exact E.bad ho (by decide)
theorem words_e {s:ByteArray}:∀ n l o,Fine s o→mu s o < n→E s (wordsN s n l o)
 | 0,_,_,_,h=>by omega
 | n + 1,l,o,ho,hm=>by
  rw [wordsN]
  split
  ·exact (word_e ho).bind fun x q h hq=>words_e n _ q hq (by have:=(word_mu ho.ok h).1;omega)
  ·exact E.ok ho
theorem assigns_e {s:ByteArray}:∀ n l o,Fine s o→mu s o < n→E s (assignsN s n l o)
 | 0,_,_,_,h=>by omega
 | n + 1,l,o,ho,hm=>by
  rw [assignsN]
  split
  ·rename_i hk
   split
   ·exact (next_e ho (by omega)).bind fun x q h hq=>assigns_e n _ q hq (by have:=(next_mu ho.ok (by omega) h).1;omega)
   ·exact E.ok ho
  ·exact E.ok ho
theorem name_e {s:ByteArray} {o:Tok} (ho:Fine s o):E s (nameF s o):=by
 unfold nameF
 split
 ·rename_i h
  have hk:o.k ≠ 4:=by
   unfold namedB at h
   simp only [Bool.and_eq_true,beq_iff_eq] at h
   omega
  exact (next_e ho hk).bind fun _ q _ hq=>E.ok hq
 ·exact E.bad ho (by decide)
theorem pats_e {s:ByteArray}:∀ n l o,Fine s o→mu s o < n→E s (patsN s n l o)
 | 0,_,_,_,h=>by omega
 | n + 1,l,o,ho,hm=>by
  rw [patsN]
  refine (skip_e ho (by decide)).bind fun b q h hq=>?_
  split
  ·rename_i hb
   subst hb
   have h1:=(skip_mu ho.ok (by decide) h).1
   exact (word_e hq).bind fun x q2 h2 hq2=>pats_e n _ q2 hq2 (by have:=(word_mu hq.ok h2).1;omega)
  ·exact E.ok hq
theorem linesF_e {s:ByteArray} {o:Tok} (ho:Fine s o):E s (linesF s o):=lines_e _ o ho (mu_F s o)
theorem eachW_e {s:ByteArray} {o:Tok} (ho:Fine s o):E s (eachW s o):=by
 unfold eachW
 refine (skip_e ho (by decide)).bind fun b q _ hq=>(linesF_e hq).bind fun _ q _ hq=>?_
 split
 ·exact E.ok hq
 ·refine (skip_e hq (by decide)).bind fun g q _ hq=>?_
  split
  ·exact (words_e _ _ q hq (mu_F s q)).bind fun ws q _ hq=>(take_e hq (by decide)).bind fun _ q _ hq=>(linesF_e hq).bind fun _ q _ hq=>E.ok hq
  ·exact E.ok hq
theorem entryE_e {s:ByteArray} {c:CD} {o:Tok} (ho:Fine s o):E s (entryE s c o):=by
 unfold entryE
 split
 ·exact E.ok ho
 ·exact (take_e ho (by decide)).bind fun _ q _ hq=>(linesF_e hq).bind fun _ q _ hq=>E.ok hq
structure Es (s:ByteArray) (n:Nat):Prop where
 list:∀ d ks bs o,Fine s o→10 * mu s o + 6 < n→E s (listF s d n ks bs o)
 item:∀ d o,Fine s o→10 * mu s o + 5 < n→E s (itemF s d n o)
 iteml:∀ d x o,Fine s o→10 * mu s o < n→E s (itemL s d n x o)
 unit:∀ d o,Fine s o→10 * mu s o + 4 < n→E s (unitF s d n o)
 command:∀ d o,Fine s o→10 * mu s o + 3 < n→E s (commandF s d n o)
 simple:∀ d o,Fine s o→10 * mu s o + 2 < n→simplyB o = true→E s (simpleF s d n o)
 compound:∀ d o,Fine s o→10 * mu s o + 1 < n→E s (compoundF s d n o)
 opened:∀ d t o,Fine s o→10 * mu s o + 8 < n→E s (openedF s d n t o)
 loop:∀ d k o,Fine s o→10 * mu s o + 7 < n→E s (loopF s d n k o)
 behind:∀ d t o,t.size ≠ 0→Fine s o→10 * mu s o + 1 < n→E s (behindF s d n t o)
 branch:∀ d o,Fine s o→10 * mu s o + 7 < n→E s (branchF s d n o)
 each:∀ d o,Fine s o→10 * mu s o + 1 < n→E s (eachF s d n o)
 choice:∀ d o,Fine s o→10 * mu s o + 1 < n→E s (choiceF s d n o)
 choicel:∀ d x cs o,Fine s o→10 * mu s o + 2 < n→E s (choiceL s d n x cs o)
 entry:∀ d o,Fine s o→10 * mu s o + 1 < n→E s (entryF s d n o)
theorem lines_mu {s:ByteArray} {o q:Tok} {u:Unit} (ho:TokOK s o) (h:linesF s o = .ok u q):mu s q≤mu s o:=(lines_down s _ o ho u q h).1
theorem take_mu {s:ByteArray} {o q:Tok} {u:Unit} {l:List ByteArray} (ho:TokOK s o) (hl:l.all (fun x=>x.size != 0) = true) (h:takeF s l o = .ok u q):mu s q < mu s o:=(take_down ho hl u q h).1
theorem skip_le {s:ByteArray} {o q:Tok} {b:Bool} {l:List ByteArray} (ho:TokOK s o) (hl:l.all (fun x=>x.size != 0) = true) (h:skipF s l o = .ok b q):mu s q≤mu s o:=(skip_down ho hl b q h).1
theorem es_all (s:ByteArray):∀ n,Es s n
 | 0=>by constructor <;> intros <;> omega
 | n + 1=>by
  have ih:=es_all s n
  have dn:=downs_all s n
  constructor
  ·intro d ks bs o ho hn
   rw [listF]
   refine (ih.item d o ho (by omega)).bind fun x q h1 hq=>(skip_e hq (by decide)).bind fun b p h2 hp=>?_
   have e1:=(dn.item d o ho.ok x q h1).1
   split
   ·rename_i hb
    subst hb
    have e2:=(skip_mu hq.ok (by decide) h2).1
    refine (linesF_e hp).bind fun _ q2 h3 hq2=>?_
    have e3:=lines_mu hp.ok h3
    split
    ·exact ih.list d _ _ q2 hq2 (by omega)
    ·exact E.ok hq2
   ·exact E.ok hp
  ·intro d o ho hn
   rw [itemF]
   exact (ih.unit d o ho (by omega)).bind fun x q h hq=>ih.iteml d x q hq (by have:=(dn.unit d o ho.ok x q h).1;omega)
  ·intro d x o ho hn
   rw [itemL]
   split
   ·rename_i h
    refine (next_e ho (sees_k ho.ok (by decide) h)).bind fun _ q h1 hq=>(linesF_e hq).bind fun _ q2 h2 hq2=>?_
    have e1:=(next_mu ho.ok (sees_k ho.ok (by decide) h) h1).1
    have e2:=lines_mu hq.ok h2
    exact (ih.unit d q2 hq2 (by omega)).bind fun y q3 h3 hq3=>ih.iteml d _ q3 hq3 (by have:=(dn.unit d q2 hq2.ok y q3 h3).1;omega)
   ·exact E.ok ho
  ·intro d o ho hn
   rw [unitF]
   refine (skip_e ho (by decide)).bind fun b q h hq=>?_
   have e1:=skip_le ho.ok (by decide) h
   split
   ·exact (ih.command d q hq (by omega)).bind fun x q _ hq=>E.ok hq
   ·exact ih.command d q hq (by omega)
  ·intro d o ho hn
   rw [commandF]
   split
   ·rename_i h
    exact ih.simple d o ho (by omega) h
   ·exact ih.compound d o ho (by omega)
  ·intro d o ho hn hs
   rw [simpleF]
   refine (assigns_e _ _ o ho (mu_F s o)).bind fun az p h1 hp=>(words_e _ _ p hp (mu_F s p)).bind fun ws p2 h2 hp2=>?_
   have e1:=(assigns_down s _ _ o ho.ok az p h1).1
   have e2:=(words_down s _ _ p hp.ok ws p2 h2).1
   split
   ·refine (skip_e hp2 (by decide)).bind fun b q h3 hq=>?_
    split
    ·rename_i hb
     subst hb
     have e3:=(skip_mu hp2.ok (by decide) h3).1
     refine (take_e hq (by decide)).bind fun _ q2 h4 hq2=>(linesF_e hq2).bind fun _ q3 h5 hq3=>?_
     have e4:=take_mu hq.ok (by decide) h4
     have e5:=lines_mu hq2.ok h5
     exact (ih.compound d q3 hq3 (by omega)).bind fun x q _ hq=>E.ok hq
    ·exact E.ok hq
   ·exact E.ok hp2
  ·intro d o ho hn
   rw [compoundF]
   split
   ·rename_i h
    split
    ·exact E.bad ho (by decide)
    ·exact (next_e ho (opens_k ho.ok h)).bind fun _ q h1 hq=>ih.opened _ _ q hq (by have:=(next_mu ho.ok (opens_k ho.ok h) h1).1;omega)
   ·exact E.bad ho (by decide)
  ·intro d t o ho hn
   rw [openedF]
   split
   ·exact (linesF_e ho).bind fun _ q h1 hq=>(ih.list d _ _ q hq (by have:=lines_mu ho.ok h1;omega)).bind fun x q _ hq=>(take_e hq (by decide)).bind fun _ q _ hq=>E.ok hq
   ·split
    ·exact (linesF_e ho).bind fun _ q h1 hq=>(ih.list d _ _ q hq (by have:=lines_mu ho.ok h1;omega)).bind fun x q _ hq=>(take_e hq (by decide)).bind fun _ q _ hq=>E.ok hq
    ·split
     ·exact (ih.branch d o ho (by omega)).bind fun x q _ hq=>(take_e hq (by decide)).bind fun _ q _ hq=>E.ok hq
     ·split
      ·exact ih.loop d _ o ho (by omega)
      ·split
       ·exact ih.loop d _ o ho (by omega)
       ·split
        ·exact ih.each d o ho (by omega)
        ·exact ih.choice d o ho (by omega)
  ·intro d k o ho hn
   rw [loopF]
   refine (linesF_e ho).bind fun _ q h1 hq=>?_
   have e1:=lines_mu ho.ok h1
   refine (ih.list d _ _ q hq (by omega)).bind fun x q2 h2 hq2=>?_
   have e2:=(dn.list d _ _ q hq.ok x q2 h2).1
   exact (ih.behind d _ q2 (by decide) hq2 (by omega)).bind fun y q _ hq=>(take_e hq (by decide)).bind fun _ q _ hq=>E.ok hq
  ·intro d t o ht ho hn
   rw [behindF]
   refine (take_e ho (by simpa using ht)).bind fun _ q h1 hq=>(linesF_e hq).bind fun _ q2 h2 hq2=>?_
   have e1:=take_mu ho.ok (by simpa using ht) h1
   have e2:=lines_mu hq.ok h2
   exact ih.list d _ _ q2 hq2 (by omega)
  ·intro d o ho hn
   rw [branchF]
   refine (linesF_e ho).bind fun _ q h1 hq=>?_
   have e1:=lines_mu ho.ok h1
   refine (ih.list d _ _ q hq (by omega)).bind fun x q2 h2 hq2=>?_
   have e2:=(dn.list d _ _ q hq.ok x q2 h2).1
   refine (ih.behind d _ q2 (by decide) hq2 (by omega)).bind fun y q3 h3 hq3=>?_
   have e3:=(dn.behind d _ q2 (by decide) hq2.ok y q3 h3).1
   split
   ·exact (ih.behind d _ q3 (by decide) hq3 (by omega)).bind fun z q _ hq=>E.ok hq
   ·split
    ·rename_i h
     split
     ·exact E.bad hq3 (by decide)
     ·exact (next_e hq3 (sees_k hq3.ok (by decide) h)).bind fun _ q h4 hq=>(ih.branch _ q hq (by have:=(next_mu hq3.ok (sees_k hq3.ok (by decide) h) h4).1;omega)).bind fun z q _ hq=>E.ok hq
    ·exact E.ok hq3
  ·intro d o ho hn
   rw [eachF]
   refine (name_e ho).bind fun nm q h1 hq=>(eachW_e hq).bind fun gw q2 h2 hq2=>?_
   have e1:=(name_down ho.ok nm q h1).1
   have e2:=(eachW_down hq.ok gw q2 h2).1
   exact (ih.behind d _ q2 (by decide) hq2 (by omega)).bind fun y q _ hq=>(take_e hq (by decide)).bind fun _ q _ hq=>E.ok hq
  ·intro d o ho hn
   rw [choiceF]
   refine (word_e ho).bind fun x q h1 hq=>(linesF_e hq).bind fun _ q2 h2 hq2=>(take_e hq2 (by decide)).bind fun _ q3 h3 hq3=>(linesF_e hq3).bind fun _ q4 h4 hq4=>?_
   have e1:=(word_mu ho.ok h1).1
   have e2:=lines_mu hq.ok h2
   have e3:=take_mu hq2.ok (by decide) h3
   have e4:=lines_mu hq3.ok h4
   exact ih.choicel d x _ q4 hq4 (by omega)
  ·intro d x cs o ho hn
   rw [choiceL]
   refine (skip_e ho (by decide)).bind fun b q h1 hq=>?_
   have e1:=skip_le ho.ok (by decide) h1
   split
   ·exact E.ok hq
   ·exact (ih.entry d q hq (by omega)).bind fun c q2 h2 hq2=>ih.choicel d x _ q2 hq2 (by have:=(dn.entry d q hq.ok c q2 h2).1;omega)
  ·intro d o ho hn
   rw [entryF]
   refine (skip_e ho (by decide)).bind fun _ q h1 hq=>(word_e hq).bind fun x q2 h2 hq2=>(pats_e _ _ q2 hq2 (mu_F s q2)).bind fun ps q3 h3 hq3=>(take_e hq3 (by decide)).bind fun _ q4 h4 hq4=>(linesF_e hq4).bind fun _ q5 h5 hq5=>?_
   have e1:=skip_le ho.ok (by decide) h1
   have e2:=(word_mu hq.ok h2).1
   have e3:=(pats_down s _ _ q2 hq2.ok ps q3 h3).1
   have e4:=take_mu hq3.ok (by decide) h4
   have e5:=lines_mu hq4.ok h5
   split
   ·exact (ih.list d _ _ q5 hq5 (by omega)).bind fun y q _ hq=>entryE_e hq
   ·exact entryE_e hq5
theorem parse_e (s:ByteArray):E s (parseF s):=by
 unfold parseF
 refine (next0_e s).bind fun _ o _ ho=>?_
 unfold programF
 refine (linesF_e ho).bind fun _ p _ hp=>?_
 have hend:∀ (x:ND) (o:Tok),Fine s o→E s (endF x o):=fun x o ho=>by
  unfold endF
  split
  ·exact E.ok ho
  ·exact E.bad ho (by decide)
 split
 ·exact ((es_all s (fuelP s)).list 0 _ _ p hp (by have:=mu_F s p;unfold F at this;unfold fuelP;omega)).bind fun x o _ ho=>hend x o ho
 ·exact hend _ p hp
end Ps
end Go.Proofs.YtfjfgaefbldgbaaGreat
