/- A reading of a text that stands behind another is the reading of it alone, moved. Pure. -/
/- More fuel changes no reading that doesn't end for want of it. Pure. -/
/- The fuel of a reading is enough. Pure. -/
/- The tokens of a text that stands behind another are its own, moved. Pure. -/
/- What the parser makes of a text that stands behind another is its own, moved. Pure. -/
import Derived.Test.YtoafdgfofgkenaaGreatPsL4
import Derived.Test.YtoafdgfofgkenaaGreatPsE
namespace Go.Proofs.YtoafdgfofgkenaaGreat
open Go.RowKit Go.Sort
namespace Lx
open Cls Pt
def mvO (n0:Nat):Out→Out
 | .ok l j=>.ok l (n0 + j)
 | .bad j e=>.bad (n0 + j) e
structure Mv (s s':ByteArray) (n0:Nat):Prop where
 rest:∀ i,restAt s' (n0 + i) = restAt s i
 size:s'.size = n0 + s.size
section
variable {s s':ByteArray} {n0:Nat}
theorem byte_rest (s:ByteArray) (i:Nat):byteAt s i = (restAt s i).headD 0:=by
 unfold byteAt restAt
 rw [List.getD_eq_getElem?_getD,List.headD_eq_head?_getD,List.head?_drop]
theorem Mv.byte (h:Mv s s' n0) (i:Nat):byteAt s' (n0 + i) = byteAt s i:=by rw [byte_rest,byte_rest,h.rest]
theorem Mv.le (h:Mv s s' n0) (i:Nat):(s'.size≤n0 + i) = (s.size≤i):=by
 rw [h.size]
 exact propext ⟨fun _=>by omega,fun _=>by omega⟩
theorem Mv.extract (h:Mv s s' n0) (a b:Nat):s'.extract (n0 + a) (n0 + b) = s.extract a b:=by
 have e:∀ x y:ByteArray,x.data.toList = y.data.toList→x = y:=fun x y hxy=>by
  cases x;cases y
  simp only [ByteArray.mk.injEq]
  exact Array.ext' hxy
 apply e
 rw [Lib.extract_data,Lib.extract_data,show n0 + b - (n0 + a) = b - a by omega]
 exact congrArg (List.take (b - a)) (h.rest a)
theorem Mv.name (h:Mv s s' n0) (i:Nat):nameLen (restAt s i) s'.size = nameLen (restAt s i) s.size:=by
 have hl:=restAt_len s i
 have hz:=h.size
 cases hr:restAt s i with
 | nil=>rfl
 | cons c l =>
  rw [hr] at hl
  have hle:=runLen_le digitB (c :: l)
  show (if letterB c.toNat then runLen wordB (c :: l) else if digitB c.toNat then min (runLen digitB (c :: l)) s'.size else if paramL [c] then 1 else 0) = (if letterB c.toNat then runLen wordB (c :: l) else if digitB c.toNat then min (runLen digitB (c :: l)) s.size else if paramL [c] then 1 else 0)
  rw [show min (runLen digitB (c :: l)) s'.size = min (runLen digitB (c :: l)) s.size by omega]
set_option maxHeartbeats 1600000 in
set_option maxRecDepth 100000 in
theorem read_mv (hv:Mv s s' n0):∀ n,
  (∀ (ec d:Nat) (a:A) (i:Nat),markedF n s' ec d a (n0 + i) = mvO n0 (markedF n s ec d a i)) ∧
  (∀ (d:Nat) (a:A) (i:Nat),bareF n s' d a (n0 + i) = mvO n0 (bareF n s d a i)) ∧
  (∀ (q:Bool) (d i:Nat),paramF n s' q d (n0 + i) = mvO n0 (paramF n s q d i)):=by
 intro n
 induction n with
 | zero=>exact ⟨fun _ _ _ _=>by simp [markedF,mvO],fun _ _ _=>by simp [bareF,mvO],fun _ _ _=>by simp [paramF,mvO]⟩
 | succ n ih =>
  obtain ⟨ihm,ihb,ihp⟩:=ih
  refine ⟨fun ec d a i=>?_,fun d a i=>?_,fun q d i=>?_⟩
  ·rw [markedF,markedF]
   simp only [Nat.add_assoc,hv.le,hv.byte,hv.rest]
   split
   ·rfl
   ·split
    ·rfl
    ·split
     ·rfl
     ·split
      ·rw [ihp]
       cases paramF n s true (d + 1) i with
       | ok p j=>exact ihm _ _ _ _
       | bad j e=>rfl
      ·split
       ·exact ihm _ _ _ _
       ·exact ihm _ _ _ _
  ·rw [bareF,bareF]
   simp only [Nat.add_assoc,hv.le,hv.byte,hv.rest]
   split
   ·rfl
   ·split
    ·split
     ·exact ihb _ _ _
     ·rfl
    ·split
     ·rw [ihm]
      cases markedF n s 34 d A0 (i + 1) with
      | bad j e=>rfl
      | ok m j =>
       simp only [mvO,hv.le,Nat.add_assoc]
       split
       ·rfl
       ·exact ihb _ _ _
     ·split
      ·split
       ·rfl
       ·exact ihb _ _ _
      ·split
       ·rfl
       ·split
        ·rw [ihp]
         cases paramF n s false (d + 1) i with
         | ok p j=>exact ihb _ _ _
         | bad j e=>rfl
        ·split
         ·rfl
         ·exact ihb _ _ _
  ·rw [paramF,paramF]
   simp only [Nat.add_assoc,hv.rest,hv.name,hv.extract,ihm,ihb]
   split
   ·rfl
   ·split
    ·split
     ·rfl
     ·split
      ·split <;> rfl
      ·rw [← apply_ite (mvO n0)]
       generalize (if q = true then markedF n s 125 d A0 _ else bareF n s d A0 _) = r
       cases r with
       | bad j e=>rfl
       | ok f j =>
        simp only [mvO,hv.rest,Nat.add_assoc]
        split <;> rfl
    ·split <;> rfl
end
end Lx
end Go.Proofs.YtoafdgfofgkenaaGreat
namespace Go.Proofs.YtoafdgfofgkenaaGreat
open Go.RowKit Go.Sort
namespace Lx
open Cls Pt
def Mo (r r':Out):Prop:=(∀ j,r ≠ .bad j 9)→r' = r
theorem Mo.same (r:Out):Mo r r:=fun _=>rfl
theorem Mo.ite {c:Prop} [Decidable c] {a a' b b':Out} (h1:c→Mo a a') (h2:¬ c→Mo b b'):Mo (if c then a else b) (if c then a' else b'):=by
 by_cases h:c
 ·rw [if_pos h,if_pos h];exact h1 h
 ·rw [if_neg h,if_neg h];exact h2 h
theorem Mo.cases {r r':Out} (h:Mo r r'):(∃ j,r = .bad j 9)∨(∃ j e,r = .bad j e∧r' = .bad j e)∨∃ l j,r = .ok l j∧r' = .ok l j:=by
 cases r with
 | ok l j=>exact .inr (.inr ⟨l,j,rfl,h fun _ h=>by cases h⟩)
 | bad j e =>
  by_cases h9:e = 9
  ·exact .inl ⟨j,by rw [h9]⟩
  ·exact .inr (.inl ⟨j,e,rfl,h fun k hk=>by injection hk with _ h2;exact h9 h2⟩)
theorem Mo.out {j:Nat} {r:Out}:Mo (.bad j 9) r:=fun h=>absurd rfl (h j)
set_option maxHeartbeats 1600000 in
set_option maxRecDepth 100000 in
theorem read_more (s:ByteArray):∀ n n',n≤n' →
  (∀ (ec d:Nat) (a:A) (i:Nat),Mo (markedF n s ec d a i) (markedF n' s ec d a i)) ∧
  (∀ (d:Nat) (a:A) (i:Nat),Mo (bareF n s d a i) (bareF n' s d a i)) ∧
  (∀ (q:Bool) (d i:Nat),Mo (paramF n s q d i) (paramF n' s q d i)):=by
 intro n
 induction n with
 | zero=>exact fun n' _=>⟨fun _ _ _ _=>by rw [markedF];exact Mo.out,fun _ _ _=>by rw [bareF];exact Mo.out,fun _ _ _=>by rw [paramF];exact Mo.out⟩
 | succ n ih =>
  intro n' hn
  obtain ⟨n',rfl⟩:∃ k,n' = k + 1:=⟨n' - 1,by omega⟩
  obtain ⟨ihm,ihb,ihp⟩:=ih n' (by omega)
  refine ⟨fun ec d a i=>?_,fun d a i=>?_,fun q d i=>?_⟩
  ·rw [markedF,markedF]
   refine Mo.ite (fun _=>Mo.same _) fun _=>Mo.ite (fun _=>Mo.same _) fun _=>Mo.ite (fun _=>Mo.same _) fun _=>Mo.ite (fun _=>?_) fun _=>Mo.ite (fun _=>ihm _ _ _ _) fun _=>ihm _ _ _ _
   rcases (ihp true (d + 1) i).cases with ⟨j,h⟩ | ⟨j,e,h,h'⟩ | ⟨p,j,h,h'⟩
   ·rw [h];exact Mo.out
   ·rw [h,h'];exact Mo.same _
   ·rw [h,h'];exact ihm _ _ _ _
  ·rw [bareF,bareF]
   refine Mo.ite (fun _=>Mo.same _) fun _=>Mo.ite (fun _=>Mo.ite (fun _=>ihb _ _ _) fun _=>Mo.same _) fun _=>Mo.ite (fun _=>?_) fun _=>Mo.ite (fun _=>Mo.ite (fun _=>Mo.same _) fun _=>ihb _ _ _) fun _=>Mo.ite (fun _=>Mo.same _) fun _=>Mo.ite (fun _=>?_) fun _=>Mo.ite (fun _=>Mo.same _) fun _=>ihb _ _ _
   ·rcases (ihm 34 d A0 (i + 1)).cases with ⟨j,h⟩ | ⟨j,e,h,h'⟩ | ⟨p,j,h,h'⟩
    ·rw [h];exact Mo.out
    ·rw [h,h'];exact Mo.same _
    ·rw [h,h'];exact Mo.ite (fun _=>Mo.same _) fun _=>ihb _ _ _
   ·rcases (ihp false (d + 1) i).cases with ⟨j,h⟩ | ⟨j,e,h,h'⟩ | ⟨p,j,h,h'⟩
    ·rw [h];exact Mo.out
    ·rw [h,h'];exact Mo.same _
    ·rw [h,h'];exact ihb _ _ _
  ·rw [paramF,paramF]
   refine Mo.ite (fun _=>Mo.same _) fun _=>Mo.ite (fun _=>Mo.ite (fun _=>Mo.same _) fun _=>Mo.ite (fun _=>Mo.same _) fun _=>?_) fun _=>Mo.same _
   generalize hx:i + 2 + nameLen (restAt s (i + 2)) s.size + opLen (restAt s (i + 2 + nameLen (restAt s (i + 2)) s.size)) = x
   have hm:Mo (if q = true then markedF n s 125 d A0 x else bareF n s d A0 x) (if q = true then markedF n' s 125 d A0 x else bareF n' s d A0 x):=Mo.ite (fun _=>ihm _ _ _ _) fun _=>ihb _ _ _
   rcases hm.cases with ⟨j,h⟩ | ⟨j,e,h,h'⟩ | ⟨p,j,h,h'⟩
   ·rw [h];exact Mo.out
   ·rw [h,h'];exact Mo.same _
   ·rw [h,h'];exact Mo.same _
end Lx
end Go.Proofs.YtoafdgfofgkenaaGreat
namespace Go.Proofs.YtoafdgfofgkenaaGreat
open Go.RowKit Go.Sort
namespace Lx
open Cls Pt
def Nb (r:Out):Prop:=∀ j,r ≠ .bad j 9
theorem Nb.ok {l:PL} {j:Nat}:Nb (.ok l j):=fun _ h=>by cases h
theorem Nb.bad {j e:Nat} (h:e ≠ 9):Nb (.bad j e):=fun _ hk=>by injection hk with _ h2;exact h h2
theorem Nb.ite {c:Prop} [Decidable c] {a b:Out} (h1:c→Nb a) (h2:¬ c→Nb b):Nb (if c then a else b):=by
 by_cases h:c
 ·rw [if_pos h];exact h1 h
 ·rw [if_neg h];exact h2 h
theorem Nb.cases {r:Out} (h:Nb r):(∃ j e,r = .bad j e∧e ≠ 9)∨∃ l j,r = .ok l j:=by
 cases r with
 | ok l j=>exact .inr ⟨l,j,rfl⟩
 | bad j e=>exact .inl ⟨j,e,rfl,fun h9=>h j (by rw [h9])⟩
set_option maxHeartbeats 1600000 in
set_option maxRecDepth 100000 in
theorem read_enough (s:ByteArray):∀ n,
  (∀ (ec d:Nat) (a:A) (i:Nat),i≤s.size→s.size < i + n→Nb (markedF n s ec d a i)) ∧
  (∀ (d:Nat) (a:A) (i:Nat),i≤s.size→s.size < i + n→Nb (bareF n s d a i)) ∧
  (∀ (q:Bool) (d i:Nat),i < s.size→s.size≤i + n→Nb (paramF n s q d i)):=by
 intro n
 induction n with
 | zero=>exact ⟨fun _ _ _ _ _ h=>by omega,fun _ _ _ _ h=>by omega,fun _ _ _ _ h=>by omega⟩
 | succ n ih =>
  obtain ⟨ihm,ihb,ihp⟩:=ih
  have hends:=ends_ft s n
  refine ⟨fun ec d a i hi hn=>?_,fun d a i hi hn=>?_,fun q d i hi hn=>?_⟩
  ·rw [markedF]
   refine Nb.ite (fun _=>Nb.ok) fun h0=>Nb.ite (fun _=>Nb.ok) fun _=>Nb.ite (fun _=>Nb.bad (by decide)) fun _=>Nb.ite (fun _=>?_) fun _=>Nb.ite (fun _=>?_) fun _=>ihm _ _ _ _ (by omega) (by omega)
   ·rcases (ihp true (d + 1) i (by omega) (by omega)).cases with ⟨j,e,h,he⟩ | ⟨p,j,h⟩
    ·rw [h];exact Nb.bad he
    ·have e1:=hends.2.2 _ _ _ _ _ h (by omega)
     rw [h];exact ihm _ _ _ _ e1.2.1 (by omega)
   ·obtain ⟨k1,k2,k3⟩:=slash_ft (ec:=ec) (a:=a) (show i < s.size by omega)
    exact ihm _ _ _ _ k2 (by omega)
  ·rw [bareF]
   refine Nb.ite (fun _=>Nb.ok) fun h0=>Nb.ite (fun _=>Nb.ite (fun h1=>?_) fun _=>Nb.bad (by decide)) fun _=>Nb.ite (fun _=>?_) fun _=>Nb.ite (fun _=>Nb.ite (fun _=>Nb.bad (by decide)) fun _=>ihb _ _ _ (by omega) (by omega)) fun _=>Nb.ite (fun _=>Nb.bad (by decide)) fun _=>Nb.ite (fun _=>?_) fun _=>Nb.ite (fun _=>Nb.ok) fun _=>ihb _ _ _ (by omega) (by omega)
   ·have hk:=index_lt h1
    exact ihb _ _ _ (by omega) (by omega)
   ·rcases (ihm 34 d A0 (i + 1) (by omega) (by omega)).cases with ⟨j,e,h,he⟩ | ⟨p,j,h⟩
    ·rw [h];exact Nb.bad he
    ·have e1:=hends.1 _ _ _ _ _ _ h (by omega)
     rw [h];exact Nb.ite (fun _=>Nb.bad (by decide)) fun _=>ihb _ _ _ (by omega) (by omega)
   ·rcases (ihp false (d + 1) i (by omega) (by omega)).cases with ⟨j,e,h,he⟩ | ⟨p,j,h⟩
    ·rw [h];exact Nb.bad he
    ·have e1:=hends.2.2 _ _ _ _ _ h (by omega)
     rw [h];exact ihb _ _ _ e1.2.1 (by omega)
  ·rw [paramF]
   refine Nb.ite (fun _=>Nb.bad (by decide)) fun _=>Nb.ite (fun h1=>Nb.ite (fun _=>Nb.bad (by decide)) fun _=>Nb.ite (fun _=>Nb.ite (fun _=>Nb.ok) fun _=>Nb.bad (by decide)) fun _=>?_) fun _=>Nb.ite (fun _=>Nb.bad (by decide)) fun _=>Nb.ok
   have hsl:=sees_lt h1
   have hnl:=nameLen_le (restAt s (i + 2)) s.size
   rw [restAt_len] at hnl
   have hol:=opLen_le (restAt s (i + 2 + nameLen (restAt s (i + 2)) s.size))
   rw [restAt_len] at hol
   generalize hx:i + 2 + nameLen (restAt s (i + 2)) s.size + opLen (restAt s (i + 2 + nameLen (restAt s (i + 2)) s.size)) = x
   have hm:Nb (if q = true then markedF n s 125 d A0 x else bareF n s d A0 x):=Nb.ite (fun _=>ihm _ _ _ _ (by omega) (by omega)) fun _=>ihb _ _ _ (by omega) (by omega)
   rcases hm.cases with ⟨j,e,h,he⟩ | ⟨p,j,h⟩
   ·rw [h];exact Nb.bad he
   ·rw [h];exact Nb.ite (fun _=>Nb.ok) fun _=>Nb.bad (by decide)
end Lx
end Go.Proofs.YtoafdgfofgkenaaGreat
namespace Go.Proofs.YtoafdgfofgkenaaGreat
open Go.RowKit Go.Sort
namespace Lx
open Cls Pt
def mvT (n0:Nat) (t:Tok):Tok:=⟨t.k,n0 + t.i,t.t,t.l,t.err,n0 + t.j⟩
theorem ahead_mv {s s':ByteArray} {n0:Nat} (hv:Mv s s' n0):∀ n i,aheadF n s' (n0 + i) = n0 + aheadF n s i
 | 0,_=>rfl
 | n + 1,i=>by
  rw [aheadF,aheadF]
  simp only [Nat.add_assoc,hv.le,hv.byte,hv.rest,ahead_mv hv n]
  split
  ·rfl
  ·split
   ·rfl
   ·split
    ·rfl
    ·split
     ·split
      ·rfl
      ·exact hv.size
     ·rfl
theorem ahead_more (s:ByteArray):∀ n n' i,n≤n'→s.size < i + n→aheadF n' s i = aheadF n s i
 | 0,n',i,_,h=>by
  cases n' with
  | zero=>rfl
  | succ n' =>
   show aheadF (n' + 1) s i = i
   rw [aheadF,if_pos (by omega)]
 | n + 1,0,_,h,_=>absurd h (by omega)
 | n + 1,n' + 1,i,h,hf=>by
  rw [aheadF,aheadF]
  split
  ·rfl
  ·split
   ·exact ahead_more s n n' _ (by omega) (by omega)
   ·split
    ·exact ahead_more s n n' _ (by omega) (by omega)
    ·split
     ·rename_i h35
      split
      ·rename_i h0
       have:=index_pos (show i < s.size by omega) h35 h0
       exact ahead_more s n n' _ (by omega) (by omega)
      ·rfl
     ·rfl
theorem tokF_mv {s s':ByteArray} {n0:Nat} (hv:Mv s s' n0) (i:Nat) (hi:i≤s.size):tokF s' (n0 + i) = mvT n0 (tokF s i):=by
 have hb:bareF (s'.size + 1) s' 0 A0 (n0 + i) = mvO n0 (bareF (s.size + 1) s 0 A0 i):=by
  rw [(read_mv hv _).2.1,(read_more s (s.size + 1) (s'.size + 1) (by have:=hv.size;omega)).2.1 0 A0 i ((read_enough s (s.size + 1)).2.1 0 A0 i hi (by omega))]
 unfold tokF
 rw [hb]
 have hx:s'.extract (n0 + i) s'.size = s.extract i s.size:=by rw [hv.size,hv.extract]
 simp only [Nat.add_assoc,hv.le,hv.byte,hv.rest,hx]
 split
 ·rfl
 ·split
  ·rfl
  ·split
   ·split <;> rfl
   ·cases bareF (s.size + 1) s 0 A0 i <;> rfl
theorem tok_mv {s s':ByteArray} {n0:Nat} (hv:Mv s s' n0) (i:Nat) (hi:i≤s.size):tokAt s' (n0 + i) = mvT n0 (tokAt s i):=by
 unfold tokAt
 have hsz:=hv.size
 rw [ahead_mv hv,ahead_more s (s.size + 1) (s'.size + 1) i (by omega) (by omega),tokF_mv hv _ (ahead_le s _ i hi).2]
end Lx
end Go.Proofs.YtoafdgfofgkenaaGreat
namespace Go.Proofs.YtoafdgfofgkenaaGreat
open Go.RowKit Go.Sort
namespace Ps
open Cls Pt Tr Sp Lx
structure Tm (s s':ByteArray) (n0:Nat):Prop where
 tk:∀ j,j≤s.size→tokAt s' (n0 + j) = mvT n0 (tokAt s j)
 le:s.size≤s'.size
structure Y {T:Type} (s:ByteArray) (n0:Nat) (r r':Rs T):Prop where
 bad:∀ i e,r = .bad i e→e ≠ 0→r' = .bad (n0 + i) e
 ok:∀ a q,r = .ok a q→r' = .ok a (mvT n0 q)
 fine:∀ a q,r = .ok a q→TokOK s q
section
variable {T U:Type} {s:ByteArray} {n0:Nat} {o:Tok} {r r':Rs T} {f f':T→Tok→Rs U}
theorem Y.wrong {e:Nat}:Y s n0 (.bad o.i e:Rs T) (.bad (mvT n0 o).i e) :=
 ⟨fun i e' h _=>(by injection h with h1 h2;subst h1;subst h2;rfl),(fun _ _ h=>by cases h),(fun _ _ h=>by cases h)⟩
theorem Y.out {i:Nat}:Y s n0 (.bad i 0:Rs T) r' :=
 ⟨fun i e' h h0=>(by injection h with h1 h2;exact absurd h2.symm h0),(fun _ _ h=>by cases h),(fun _ _ h=>by cases h)⟩
theorem Y.done {a:T} (ho:TokOK s o):Y s n0 (.ok a o) (.ok a (mvT n0 o)) :=
 ⟨(fun _ _ h=>by cases h),fun b q h=>(by injection h with h1 h2;subst h1;subst h2;rfl),fun b q h=>(by injection h with h1 h2;subst h2;exact ho)⟩
theorem Y.bind (h:Y s n0 r r') (hf:∀ a q,TokOK s q→Y s n0 (f a q) (f' a (mvT n0 q))):Y s n0 (r.bind f) (r'.bind f'):=by
 cases r with
 | bad i e =>
  refine ⟨fun j g hj h0=>?_,(fun _ _ h=>by cases h),(fun _ _ h=>by cases h)⟩
  have e1:Rs.bad i e = (Rs.bad j g:Rs U):=hj
  injection e1 with h1 h2
  subst h1;subst h2
  rw [h.bad i e rfl h0]
  rfl
 | ok a q =>
  rw [h.ok a q rfl]
  exact hf a q (h.fine a q rfl)
theorem Y.ite {c:Prop} [Decidable c] {a a' b b':Rs T} (h1:c→Y s n0 a a') (h2:¬ c→Y s n0 b b'):Y s n0 (if c then a else b) (if c then a' else b'):=by
 by_cases h:c
 ·rw [if_pos h,if_pos h];exact h1 h
 ·rw [if_neg h,if_neg h];exact h2 h
end
section
variable {s s':ByteArray} {n0:Nat} (L:Tm s s' n0)
include L
theorem next_y {o:Tok} (ho:TokOK s o):Y s n0 (nextF s o) (nextF s' (mvT n0 o)):=by
 unfold nextF
 rw [show (mvT n0 o).j = n0 + o.j from rfl,L.tk _ ho.j]
 exact Y.ite (fun _=>Y.wrong (o:=tokAt s o.j)) fun _=>Y.done (tok_ok s _ ho.j)
theorem skip_y {o:Tok} {l:List ByteArray} (ho:TokOK s o) (hl:l.all (fun x=>x.size != 0) = true):Y s n0 (skipF s l o) (skipF s' l (mvT n0 o)):=by
 unfold skipF
 exact Y.ite (fun h=>(next_y L ho).bind fun _ q hq=>Y.done hq) fun _=>Y.done ho
theorem take_y {o:Tok} {l:List ByteArray} (ho:TokOK s o) (hl:l.all (fun x=>x.size != 0) = true):Y s n0 (takeF s l o) (takeF s' l (mvT n0 o)):=by
 unfold takeF
 exact (skip_y L ho hl).bind fun b q hq=>Y.ite (fun _=>Y.done hq) fun _=>Y.wrong
theorem lines_y:∀ n n' o,n≤n'→TokOK s o→Y s n0 (linesN s n o) (linesN s' n' (mvT n0 o))
 | 0,_,_,_,_=>Y.out
 | n + 1,0,_,h,_=>absurd h (by omega)
 | n + 1,n' + 1,o,h,ho=>by
  rw [linesN,linesN]
  exact (skip_y L ho (by decide)).bind fun b q hq=>Y.ite (fun _=>lines_y n n' q (by omega) hq) fun _=>Y.done hq
theorem F_le:F s≤F s':=by
 have:=L.le
 unfold F
 omega
theorem linesF_y {o:Tok} (ho:TokOK s o):Y s n0 (linesF s o) (linesF s' (mvT n0 o)):=lines_y L _ _ o (F_le L) ho
theorem word_y {o:Tok} (ho:TokOK s o):Y s n0 (wordF s o) (wordF s' (mvT n0 o)):=by
 unfold wordF
 exact Y.ite (fun h=>(next_y L ho).bind fun _ q hq=>Y.done hq) fun _=>Y.wrong
theorem words_y:∀ n n' l o,n≤n'→TokOK s o→Y s n0 (wordsN s n l o) (wordsN s' n' l (mvT n0 o))
 | 0,_,_,_,_,_=>Y.out
 | n + 1,0,_,_,h,_=>absurd h (by omega)
 | n + 1,n' + 1,l,o,h,ho=>by
  rw [wordsN,wordsN]
  exact Y.ite (fun _=>(word_y L ho).bind fun x q hq=>words_y n n' _ q (by omega) hq) fun _=>Y.done ho
theorem assigns_y:∀ n n' l o,n≤n'→TokOK s o→Y s n0 (assignsN s n l o) (assignsN s' n' l (mvT n0 o))
 | 0,_,_,_,_,_=>Y.out
 | n + 1,0,_,_,h,_=>absurd h (by omega)
 | n + 1,n' + 1,l,o,h,ho=>by
  rw [assignsN,assignsN]
  refine Y.ite (fun hk=>?_) fun _=>Y.done ho
  rw [show splitA (mvT n0 o).l = splitA o.l from rfl]
  cases splitA o.l with
  | none=>exact Y.done ho
  | some x=>exact (next_y L ho).bind fun _ q hq=>assigns_y n n' _ q (by omega) hq
theorem name_y {o:Tok} (ho:TokOK s o):Y s n0 (nameF s o) (nameF s' (mvT n0 o)):=by
 unfold nameF
 refine Y.ite (fun h=>?_) fun _=>Y.wrong
 exact (next_y L ho).bind fun _ q hq=>Y.done hq
theorem pats_y:∀ n n' l o,n≤n'→TokOK s o→Y s n0 (patsN s n l o) (patsN s' n' l (mvT n0 o))
 | 0,_,_,_,_,_=>Y.out
 | n + 1,0,_,_,h,_=>absurd h (by omega)
 | n + 1,n' + 1,l,o,h,ho=>by
  rw [patsN,patsN]
  exact (skip_y L ho (by decide)).bind fun b q hq=>Y.ite (fun _=>(word_y L hq).bind fun x q2 hq2=>pats_y n n' _ q2 (by omega) hq2) fun _=>Y.done hq
theorem eachW_y {o:Tok} (ho:TokOK s o):Y s n0 (eachW s o) (eachW s' (mvT n0 o)):=by
 unfold eachW
 exact (skip_y L ho (by decide)).bind fun b q hq=>(linesF_y L hq).bind fun _ q hq=>Y.ite (fun _=>Y.done hq) fun _ =>
  (skip_y L hq (by decide)).bind fun g q hq=>Y.ite (fun _=>(words_y L _ _ _ q (F_le L) hq).bind fun ws q hq=>(take_y L hq (by decide)).bind fun _ q hq=>(linesF_y L hq).bind fun _ q hq=>Y.done hq) fun _=>Y.done hq
theorem entryE_y {c:CD} {o:Tok} (ho:TokOK s o):Y s n0 (entryE s c o) (entryE s' c (mvT n0 o)):=by
 unfold entryE
 exact Y.ite (fun _=>Y.done ho) fun _=>(take_y L ho (by decide)).bind fun _ q hq=>(linesF_y L hq).bind fun _ q hq=>Y.done hq
end
structure Ys (s s':ByteArray) (n0 n n':Nat):Prop where
 list:∀ d ks bs o,TokOK s o→Y s n0 (listF s d n ks bs o) (listF s' d n' ks bs (mvT n0 o))
 item:∀ d o,TokOK s o→Y s n0 (itemF s d n o) (itemF s' d n' (mvT n0 o))
 iteml:∀ d x o,TokOK s o→Y s n0 (itemL s d n x o) (itemL s' d n' x (mvT n0 o))
 unit:∀ d o,TokOK s o→Y s n0 (unitF s d n o) (unitF s' d n' (mvT n0 o))
 command:∀ d o,TokOK s o→Y s n0 (commandF s d n o) (commandF s' d n' (mvT n0 o))
 simple:∀ d o,TokOK s o→Y s n0 (simpleF s d n o) (simpleF s' d n' (mvT n0 o))
 compound:∀ d o,TokOK s o→Y s n0 (compoundF s d n o) (compoundF s' d n' (mvT n0 o))
 opened:∀ d t o,TokOK s o→Y s n0 (openedF s d n t o) (openedF s' d n' t (mvT n0 o))
 loop:∀ d k o,TokOK s o→Y s n0 (loopF s d n k o) (loopF s' d n' k (mvT n0 o))
 behind:∀ d t o,t.size ≠ 0→TokOK s o→Y s n0 (behindF s d n t o) (behindF s' d n' t (mvT n0 o))
 branch:∀ d o,TokOK s o→Y s n0 (branchF s d n o) (branchF s' d n' (mvT n0 o))
 each:∀ d o,TokOK s o→Y s n0 (eachF s d n o) (eachF s' d n' (mvT n0 o))
 choice:∀ d o,TokOK s o→Y s n0 (choiceF s d n o) (choiceF s' d n' (mvT n0 o))
 choicel:∀ d x cs o,TokOK s o→Y s n0 (choiceL s d n x cs o) (choiceL s' d n' x cs (mvT n0 o))
 entry:∀ d o,TokOK s o→Y s n0 (entryF s d n o) (entryF s' d n' (mvT n0 o))
theorem ys_all {s s':ByteArray} {n0:Nat} (L:Tm s s' n0):∀ n n',n≤n'→Ys s s' n0 n n'
 | 0,n',_=>by
  constructor <;> intros <;> first | (rw [listF];exact Y.out) | (rw [itemF];exact Y.out) | (rw [itemL];exact Y.out) | (rw [unitF];exact Y.out) | (rw [commandF];exact Y.out) | (rw [simpleF];exact Y.out) | (rw [compoundF];exact Y.out) | (rw [openedF];exact Y.out) | (rw [loopF];exact Y.out) | (rw [behindF];exact Y.out) | (rw [branchF];exact Y.out) | (rw [eachF];exact Y.out) | (rw [choiceF];exact Y.out) | (rw [choiceL];exact Y.out) | (rw [entryF];exact Y.out)
 | n + 1,0,h=>absurd h (by omega)
 | n + 1,n' + 1,h=>by
  have ih:=ys_all L n n' (by omega)
  constructor
  ·intro d ks bs o ho
   rw [listF,listF]
   exact (ih.item d o ho).bind fun x q hq=>(skip_y L hq (by decide)).bind fun b p hp=>Y.ite
    (fun _=>(linesF_y L hp).bind fun _ q2 hq2=>Y.ite (fun _=>ih.list d _ _ q2 hq2) fun _=>Y.done hq2) fun _=>Y.done hp
  ·intro d o ho
   rw [itemF,itemF]
   exact (ih.unit d o ho).bind fun x q hq=>ih.iteml d x q hq
  ·intro d x o ho
   rw [itemL,itemL]
   exact Y.ite (fun h=>(next_y L ho).bind fun _ q hq=>(linesF_y L hq).bind fun _ q2 hq2=>(ih.unit d q2 hq2).bind fun y q3 hq3=>ih.iteml d _ q3 hq3) fun _=>Y.done ho
  ·intro d o ho
   rw [unitF,unitF]
   exact (skip_y L ho (by decide)).bind fun b q hq=>Y.ite (fun _=>(ih.command d q hq).bind fun x q hq=>Y.done hq) fun _=>ih.command d q hq
  ·intro d o ho
   rw [commandF,commandF]
   exact Y.ite (fun _=>ih.simple d o ho) fun _=>ih.compound d o ho
  ·intro d o ho
   rw [simpleF,simpleF]
   exact (assigns_y L _ _ _ o (F_le L) ho).bind fun az p hp=>(words_y L _ _ _ p (F_le L) hp).bind fun ws p2 hp2=>Y.ite
    (fun _=>(skip_y L hp2 (by decide)).bind fun b q hq=>Y.ite
     (fun _=>(take_y L hq (by decide)).bind fun _ q2 hq2=>(linesF_y L hq2).bind fun _ q3 hq3=>(ih.compound d q3 hq3).bind fun x q hq=>Y.done hq) fun _=>Y.done hq) fun _=>Y.done hp2
  ·intro d o ho
   rw [compoundF,compoundF]
   exact Y.ite (fun h=>Y.ite (fun _=>Y.wrong) fun _=>(next_y L ho).bind fun _ q hq=>ih.opened _ _ q hq) fun _=>Y.wrong
  ·intro d t o ho
   rw [openedF,openedF]
   exact Y.ite (fun _=>(linesF_y L ho).bind fun _ q hq=>(ih.list d _ _ q hq).bind fun x q hq=>(take_y L hq (by decide)).bind fun _ q hq=>Y.done hq) fun _ =>
    Y.ite (fun _=>(linesF_y L ho).bind fun _ q hq=>(ih.list d _ _ q hq).bind fun x q hq=>(take_y L hq (by decide)).bind fun _ q hq=>Y.done hq) fun _ =>
    Y.ite (fun _=>(ih.branch d o ho).bind fun x q hq=>(take_y L hq (by decide)).bind fun _ q hq=>Y.done hq) fun _ =>
    Y.ite (fun _=>ih.loop d _ o ho) fun _=>Y.ite (fun _=>ih.loop d _ o ho) fun _=>Y.ite (fun _=>ih.each d o ho) fun _=>ih.choice d o ho
  ·intro d k o ho
   rw [loopF,loopF]
   exact (linesF_y L ho).bind fun _ q hq=>(ih.list d _ _ q hq).bind fun x q2 hq2=>(ih.behind d _ q2 (by decide) hq2).bind fun y q hq=>(take_y L hq (by decide)).bind fun _ q hq=>Y.done hq
  ·intro d t o ht ho
   rw [behindF,behindF]
   exact (take_y L ho (by simpa using ht)).bind fun _ q hq=>(linesF_y L hq).bind fun _ q2 hq2=>ih.list d _ _ q2 hq2
  ·intro d o ho
   rw [branchF,branchF]
   exact (linesF_y L ho).bind fun _ q hq=>(ih.list d _ _ q hq).bind fun x q2 hq2=>(ih.behind d _ q2 (by decide) hq2).bind fun y q3 hq3=>Y.ite
    (fun _=>(ih.behind d _ q3 (by decide) hq3).bind fun z q hq=>Y.done hq) fun _=>Y.ite
    (fun h=>Y.ite (fun _=>Y.wrong) fun _=>(next_y L hq3).bind fun _ q hq=>(ih.branch _ q hq).bind fun z q hq=>Y.done hq) fun _=>Y.done hq3
  ·intro d o ho
   rw [eachF,eachF]
   exact (name_y L ho).bind fun nm q hq=>(eachW_y L hq).bind fun gw q2 hq2=>(ih.behind d _ q2 (by decide) hq2).bind fun y q hq=>(take_y L hq (by decide)).bind fun _ q hq=>Y.done hq
  ·intro d o ho
   rw [choiceF,choiceF]
   exact (word_y L ho).bind fun x q hq=>(linesF_y L hq).bind fun _ q2 hq2=>(take_y L hq2 (by decide)).bind fun _ q3 hq3=>(linesF_y L hq3).bind fun _ q4 hq4=>ih.choicel d x _ q4 hq4
  ·intro d x cs o ho
   rw [choiceL,choiceL]
   exact (skip_y L ho (by decide)).bind fun b q hq=>Y.ite (fun _=>Y.done hq) fun _=>(ih.entry d q hq).bind fun c q2 hq2=>ih.choicel d x _ q2 hq2
  ·intro d o ho
   rw [entryF,entryF]
   exact (skip_y L ho (by decide)).bind fun _ q hq=>(word_y L hq).bind fun x q2 hq2=>(pats_y L _ _ _ q2 (F_le L) hq2).bind fun ps q3 hq3=>(take_y L hq3 (by decide)).bind fun _ q4 hq4=>(linesF_y L hq4).bind fun _ q5 hq5=>Y.ite
    (fun _=>(ih.list d _ _ q5 hq5).bind fun y q hq=>entryE_y L hq) fun _=>entryE_y L hq5
end Ps
end Go.Proofs.YtoafdgfofgkenaaGreat
