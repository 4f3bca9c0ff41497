/- What is read is right: the parts of any text; where it is broken off. -/
/- What a word token is read as is right; what stands between tokens. -/
import Derived.Test.YtoklgmbpgnimcaaGreatDoorLxI
import Derived.Test.YtoklgmbpgnimcaaGreatDoorPtY
namespace Go.Proofs.YtoklgmbpgnimcaaGreatDoor
open Go.RowKit Go.Sort
namespace Lx
open Cls Pt
def lastP:Option (Int × Bool)→PL→Option (Int × Bool)
 | p,.nil=>p
 | _,.cons k q _ _ _ r=>lastP (some (k,q)) r
theorem last_app:∀ (l m:PL) (p:Option (Int × Bool)),lastP p (l.app m) = lastP (lastP p l) m
 | .nil,_,_=>rfl
 | .cons _ _ _ _ _ r,m,_=>by simp only [PL.app,lastP,last_app r m]
theorem right_app:∀ (l m:PL) (p:Option (Int × Bool)) (at' d:Nat),rightL p (l.app m) at' d = (rightL p l at' d && rightL (lastP p l) m at' d)
 | .nil,m,p,at',d=>by simp [PL.app,rightL,lastP]
 | .cons k q t o f r,m,p,at',d=>by
  simp only [PL.app,rightL,lastP,right_app r m,Bool.and_assoc]
structure Rt (a:A) (at' d:Nat):Prop where
 l:rightL none a.l at' d = true
 h0:a.cur = none→((lastP none a.l).any fun x=>x.1 == 1) = false
 h1:∀ q bs,a.cur = some (q,bs)→((lastP none a.l).any fun x=>x.1 == 1 && x.2 == q) = false∧textOK q bs at' = true∧(at' == 2 && !q) = false
theorem lit_right {p:Option (Int × Bool)} {q:Bool} {bs:List UInt8} {at' d:Nat} (h1:(p.any fun x=>x.1 == 1 && x.2 == q) = false) (h2:textOK q bs at' = true) (h3:(at' == 2 && !q) = false):rightL p (A.lit q bs) at' d = true:=by
 have h4:(p.any fun x=>x.1 == 1 && (1:Int) == 1 && x.2 == q) = false:=by
  rw [← h1];congr 1;funext x;simp
 simp only [A.lit,rightL,h3,h4,h2,PL.len]
 rfl
theorem Rt.flush {a:A} {at' d:Nat} (h:Rt a at' d):rightL none a.flush at' d = true:=by
 obtain ⟨l,cur⟩:=a
 match cur,h with
 | none,h=>exact h.l
 | some (q,bs),h =>
  obtain ⟨h1,h2,h3⟩:=h.h1 q bs rfl
  simp only [A.flush,right_app,Bool.and_eq_true]
  exact ⟨h.l,lit_right h1 h2 h3⟩
theorem textOK_app {q:Bool} {s bs:List UInt8} {at':Nat} (h1:textOK q bs at' = true) (h2:textOK q s at' = true):textOK q (bs ++ s) at' = true:=by
 unfold textOK at *
 cases q
 ·simp only [Bool.and_eq_true,List.all_append,if_neg (show ¬ (false = true) by decide)] at *
  refine ⟨⟨h1.1,h2.1⟩,?_⟩
  cases bs <;> simp_all
 ·simp only [if_pos] at *
  cases h:(at' == 2)
  ·simp
  ·rw [h] at h1;cases bs <;> simp_all
theorem Rt.text {a:A} {at' d:Nat} (h:Rt a at' d) {s:List UInt8} {q:Bool} (h1:textOK q s at' = true) (h2:(at' == 2 && !q) = false):Rt (a.text s q) at' d:=by
 obtain ⟨l,cur⟩:=a
 match cur,h with
 | none,h =>
  refine ⟨h.l,(fun h=>by cases h),fun q' bs hc=>?_⟩
  simp only [A.text,A.begins,A.bytes,Option.some.injEq,Prod.mk.injEq,List.nil_append] at hc
  obtain ⟨rfl,rfl⟩:=hc
  refine ⟨?_,h1,h2⟩
  have:=h.h0 rfl
  simp only [A.text,A.begins] at *
  revert this
  cases lastP none l with
  | none=>simp
  | some x=>simp;intro h h';exact absurd h' h
 | some (q',bs'),h =>
  obtain ⟨k1,k2,k3⟩:=h.h1 q' bs' rfl
  cases hq:(q' == q)
  ·have he:A.text ⟨l,some (q',bs')⟩ s q = ⟨A.flush ⟨l,some (q',bs')⟩,some (q,s)⟩:=by simp [A.text,A.begins,hq,A.bytes]
   rw [he]
   refine ⟨h.flush,(fun h=>by cases h),fun q2 bs hc=>?_⟩
   simp only [Option.some.injEq,Prod.mk.injEq] at hc
   obtain ⟨rfl,rfl⟩:=hc
   refine ⟨?_,h1,h2⟩
   simp only [A.flush,last_app,A.lit,lastP,Option.any_some,hq,Bool.and_false]
  ·obtain rfl:q' = q:=by simpa using hq
   have he:A.text ⟨l,some (q',bs')⟩ s q' = ⟨l,some (q',bs' ++ s)⟩:=by simp [A.text,A.begins,A.bytes]
   rw [he]
   refine ⟨h.l,(fun h=>by cases h),fun q2 bs hc=>?_⟩
   simp only [Option.some.injEq,Prod.mk.injEq] at hc
   obtain ⟨rfl,rfl⟩:=hc
   exact ⟨k1,textOK_app k2 h1,k3⟩
theorem Rt.add {a:A} {at' d:Nat} (h:Rt a at' d) {q:Bool} {t o:ByteArray} {f:PL} (h1:partOK 2 q t o f 0 d = true) (h2:(at' == 2 && !q) = false):Rt (a.add (one 2 q t o f)) at' d:=by
 refine ⟨?_,fun _=>?_,fun _ _ h=>by cases h⟩
 ·simp only [A.add,right_app,h.flush,Bool.true_and,one,rightL,h2]
  have h4:∀ p:Option (Int × Bool),(p.any fun x=>x.1 == 1 && (2:Int) == 1 && x.2 == q) = false:=fun p=>by cases p <;> simp
  rw [h4]
  have h5:=h1
  unfold partOK at h5
  simp only [if_neg (show ¬ (((2:Int) == 1) = true) by decide),if_pos (show ((2:Int) == 2) = true by decide)] at h5 ⊢
  rw [h5];rfl
 ·simp only [A.add,last_app,one,lastP,Option.any_some];rfl
theorem part_two {q:Bool} {t o:ByteArray} {f:PL} {at' d:Nat} {k:Int} (h1:(k == 1) = false) (h:partOK k q t o f at' d = true):k = 2∧partOK 2 q t o f 0 d = true:=by
 unfold partOK at *
 rw [h1] at h
 simp only [if_neg (show ¬ (false = true) by decide)] at h
 split at h
 ·rename_i h2
  obtain rfl:k = 2:=by simpa using h2
  refine ⟨rfl,?_⟩
  simp only [if_neg (show ¬ (((2:Int) == 1) = true) by decide),if_pos (show ((2:Int) == 2) = true by decide)]
  exact h
 ·cases h
theorem right_cons {p:Option (Int × Bool)} {k:Int} {q:Bool} {t o:ByteArray} {f r:PL} {at' d:Nat}:rightL p (.cons k q t o f r) at' d = (!(at' == 2 && !q) && !(p.any fun x=>x.1 == 1 && k == 1 && x.2 == q) && partOK k q t o f at' d && rightL (some (k,q)) r at' d):=by
 simp only [rightL,partOK]
theorem Rt.join {at' d:Nat} (hat:(at' == 2) = false):∀ (m:PL) (p:Option (Int × Bool)) (a:A),Rt a at' d→rightL p m 2 d = true→Rt (a.join m) at' d
 | .nil,_,_,h,_=>h
 | .cons k q t o f r,p,a,h,hr=>by
  rw [right_cons] at hr
  simp only [Bool.and_eq_true,Bool.not_eq_true'] at hr
  obtain ⟨⟨⟨h1,_⟩,h3⟩,h4⟩:=hr
  obtain rfl:q = true:=by cases q <;> simp_all
  rw [A.join_cons]
  refine Rt.join hat r _ _ ?_ h4
  unfold A.step
  split
  ·exact h.text (by simp [textOK,hat]) (by simp)
  ·rename_i hk
   obtain ⟨rfl,h5⟩:=part_two (by simpa using hk) h3
   exact h.add h5 (by simp)
theorem Rt.join_nz {at' d:Nat} (hat:(at' == 2) = false) {m:PL} {a:A} (h:Rt a at' d) (hr:rightL none m 2 d = true):Rt (a.join (nz m)) at' d:=by
 cases m with
 | nil =>
  show Rt (a.join (A.lit true [])) at' d
  rw [A.lit,A.join_cons,A.join_nil,A.step,if_pos (by rfl)]
  exact h.text (by simp [textOK,hat]) (by simp)
 | cons=>exact h.join hat _ _ _ hr
theorem Rt.start (at' d:Nat):Rt A0 at' d:=⟨rfl,fun _=>rfl,fun _ _ h=>by cases h⟩
theorem run_all (p:Nat→Bool):∀ (l:List UInt8) (j:Nat),j < runLen p l→p (l.getD j 0).toNat = true
 | [],j,h=>by simp [runLen] at h
 | c :: l,j,h=>by
  simp only [runLen] at h
  split at h
  ·rename_i hc
   cases j with
   | zero=>exact hc
   | succ j=>exact run_all p l j (by omega)
  ·omega
theorem getD_take {l:List UInt8} {n j:Nat} (h:j < n):(l.take n).getD j 0 = l.getD j 0:=by
 simp [List.getD_eq_getElem?_getD,List.getElem?_take,h]
theorem name_run {c:UInt8} {l:List UInt8} (h:letterB c.toNat = true):nameL ((c :: l).take (runLen Lx.wordB (c :: l))) = true:=by
 have hle:=runLen_le Lx.wordB (c :: l)
 have hpos:0 < runLen Lx.wordB (c :: l):=by
  simp only [runLen,Lx.wordB,h,Bool.true_or,if_true];omega
 unfold nameL
 refine decide_eq_true ⟨by rw [List.length_take];omega,fun j hj=>?_⟩
 rw [List.length_take] at hj
 rw [getD_take (by omega)]
 have:=run_all Lx.wordB (c :: l) j (by omega)
 unfold okB
 cases j with
 | zero=>simp [h]
 | succ j=>simpa [Lx.wordB] using this
theorem name_one {l:List UInt8} (h:nameLen l 1 ≠ 0):paramL (l.take (nameLen l 1)) = true:=by
 unfold nameLen at *
 split at h
 ·exact absurd rfl h
 ·rename_i c t
  split
  ·rename_i hc
   unfold paramL
   rw [name_run hc];rfl
  ·split
   ·rename_i h1 hd
    have hr:1≤runLen digitB (c :: t):=by simp only [runLen,hd,if_true];omega
    rw [Nat.min_eq_right hr]
    simp only [List.take_succ_cons,List.take_zero]
    unfold paramL numberL digitsL
    have h2:(!(c.toNat == 48) || [c] == [48]) = true:=by
     cases h3:(c.toNat == 48)
     ·rfl
     ·have:c = 48:=by
       apply UInt8.toNat_inj.1
       simpa using h3
      subst this;rfl
    simp only [List.all_cons,List.all_nil,hd,List.getD_cons_zero,h2,List.length_singleton]
    simp
   ·split
    ·rename_i hp
     simpa using hp
    ·rename_i h1 h2 h3
     rw [if_neg h1,if_neg h2,if_neg h3] at h
     exact absurd rfl h
theorem op_is (l:List UInt8):isOp (l.take (opLen l)) = true∨(isSet (l.take (opLen l)) = true∧sufEq (l.take (opLen l)) = true):=by
 have hb:∀ n,opB n = true→n = 45∨n = 61∨n = 43∨n = 63:=fun n h=>by
  unfold opB at h;simp at h;omega
 have hu:∀ (c:UInt8) (m:UInt8),c.toNat = m.toNat→c = m:=fun c m h=>UInt8.toNat_inj.1 h
 match l with
 | []=>left;rfl
 | [c] =>
  simp only [opLen]
  split
  ·left;rfl
  ·split
   ·rename_i h
    rcases hb _ h with h | h | h | h
    ·obtain rfl:=hu c 45 h;left;rfl
    ·obtain rfl:=hu c 61 h;right;exact ⟨rfl,rfl⟩
    ·obtain rfl:=hu c 43 h;left;rfl
    ·obtain rfl:=hu c 63 h;left;rfl
   ·left;rfl
 | c :: c2 :: t =>
  simp only [opLen]
  split
  ·rename_i h0
   obtain rfl:=hu c 58 (by have h1:=beq_iff_eq.1 h0;show c.toNat = 58;omega)
   split
   ·rename_i h
    rcases hb _ h with h | h | h | h
    ·obtain rfl:=hu c2 45 h;left;rfl
    ·obtain rfl:=hu c2 61 h;right;exact ⟨rfl,rfl⟩
    ·obtain rfl:=hu c2 43 h;left;rfl
    ·obtain rfl:=hu c2 63 h;left;rfl
   ·left;rfl
  ·split
   ·rename_i h
    rcases hb _ h with h | h | h | h
    ·obtain rfl:=hu c 45 h;left;rfl
    ·obtain rfl:=hu c 61 h;right;exact ⟨rfl,rfl⟩
    ·obtain rfl:=hu c 43 h;left;rfl
    ·obtain rfl:=hu c 63 h;left;rfl
   ·left;rfl
theorem op_empty {l:List UInt8} (h:opLen l ≠ 0):((l.take (opLen l)) == []) = false:=by
 have h1:=opLen_le l
 cases hl:l.take (opLen l) with
 | nil =>
  have h2:=congrArg List.length hl
  rw [List.length_take,List.length_nil] at h2
  omega
 | cons=>rfl
theorem name_ok {t l:List UInt8} (h:(!paramL t || (sufEq (l.take (opLen l)) && !nameL t)) = false):nameOK t (l.take (opLen l)) = true:=by
 simp only [Bool.or_eq_false_iff,Bool.not_eq_false',Bool.and_eq_false_iff] at h
 unfold nameOK
 rcases op_is l with h1 | ⟨h1,h2⟩
 ·rw [h1]
  split
  ·rename_i hs
   have:sufEq (l.take (opLen l)) = true:=by
    unfold isSet at hs
    simp only [Bool.or_eq_true,beq_iff_eq] at hs
    rcases hs with hs | hs <;> rw [hs] <;> rfl
   rcases h.2 with h3 | h3
   ·rw [this] at h3;cases h3
   ·exact h3
  ·exact h.1
 ·rw [if_pos h1]
  rcases h.2 with h3 | h3
  ·rw [h2] at h3;cases h3
  ·exact h3
def plc (d:Nat):Nat:=if d = 0 then 0 else 1
theorem plc2 (d:Nat):(plc d == 2) = false:=by unfold plc;split <;> rfl
theorem byte_bare {d:Nat} {c:UInt8} (h39:¬ ((c.toNat:Int) == 39) = true) (h34:¬ ((c.toNat:Int) == 34) = true) (h92:¬ ((c.toNat:Int) == 92) = true) (h96:¬ ((c.toNat:Int) == 96) = true) (h36:¬ ((c.toNat:Int) == 36) = true) (hs:¬ stopB d c.toNat = true):textOK false [c] (plc d) = true:=by
 unfold textOK standsB plc
 unfold stopB at hs
 by_cases hd:d = 0
 ·subst hd
  simp only [Int.natCast_zero,beq_self_eq_true,Bool.true_and,Nat.lt_irrefl,decide_false,Bool.false_and,Bool.or_false,Bool.not_eq_true',Bool.not_eq_false] at hs
  simp [hs]
 ·have hd2:0 < d:=by omega
  simp only [hd2,decide_true,Bool.true_and,Bool.or_eq_true,not_or] at hs
  simp only [if_neg hd,escB]
  simp only [Bool.not_eq_true] at *
  simp [h39,h34,h92,h96,h36,hs.2]
theorem right_all (s:ByteArray):∀ n,(∀ (ec d:Nat) (a:A) (i j:Nat) (l:PL),markedF n s ec d a i = .ok l j→Rt a 2 (d + 1)→rightL none l 2 (d + 1) = true) ∧
  (∀ (d:Nat) (a:A) (i j:Nat) (l:PL),bareF n s d a i = .ok l j→Rt a (plc d) (d + 1)→rightL none l (plc d) (d + 1) = true) ∧
  (∀ (q:Bool) (d i j:Nat) (p:PL),paramF n s q d i = .ok p j→0 < d→∃ t o f,p = one 2 q t o f∧partOK 2 q t o f 0 d = true):=by
 intro n
 induction n with
 | zero=>exact ⟨fun _ _ _ _ _ _ h=>by simp [markedF] at h,fun _ _ _ _ _ h=>by simp [bareF] at h,fun _ _ _ _ _ h=>by simp [paramF] at h⟩
 | succ n ih =>
  obtain ⟨ihm,ihb,ihp⟩:=ih
  refine ⟨?_,?_,?_⟩
  ·intro ec d a i j l h ha
   rw [markedF] at h
   split at h
   ·cases h;exact ha.flush
   ·split at h
    ·cases h;exact ha.flush
    ·split at h
     ·cases h
     ·split at h
      ·split at h
       ·cases h
       ·rename_i p j' hp
        obtain ⟨t,o,f,rfl,h1⟩:=ihp _ _ _ _ _ hp (by omega)
        exact ihm _ _ _ _ _ _ h (ha.add h1 rfl)
      ·split at h
       ·refine ihm _ _ _ _ _ _ h ?_
        unfold slashR
        split
        ·exact ha
        ·split
         ·exact ha.text rfl rfl
         ·exact ha.text rfl rfl
       ·exact ihm _ _ _ _ _ _ h (ha.text rfl rfl)
  ·intro d a i j l h ha
   rw [bareF] at h
   split at h
   ·cases h;exact ha.flush
   ·split at h
    ·split at h
     ·exact ihb _ _ _ _ _ h (ha.text (by simp [textOK,plc2]) (by simp))
     ·cases h
    ·split at h
     ·split at h
      ·cases h
      ·rename_i m j' hm
       split at h
       ·cases h
       ·exact ihb _ _ _ _ _ h (ha.join_nz (plc2 d) (ihm _ _ _ _ _ _ hm (Rt.start _ _)))
     ·split at h
      ·split at h
       ·cases h
       ·refine ihb _ _ _ _ _ h ?_
        unfold escA
        split
        ·exact ha
        ·exact ha.text (by simp [textOK,plc2]) (by simp)
      ·split at h
       ·cases h
       ·split at h
        ·split at h
         ·cases h
         ·rename_i p j' hp
          obtain ⟨t,o,f,rfl,h1⟩:=ihp _ _ _ _ _ hp (by omega)
          exact ihb _ _ _ _ _ h (ha.add h1 (by simp [plc2]))
        ·split at h
         ·cases h;exact ha.flush
         ·rename_i h1 h2 h3 h4 h5 h6 h7
          exact ihb _ _ _ _ _ h (ha.text (byte_bare h2 h3 h4 h5 h6 h7) (by simp [plc2]))
  ·intro q d i j p h hd
   rw [paramF] at h
   split at h
   ·cases h
   ·rename_i h200
    have h200':decide (d≤200) = true:=decide_eq_true (by omega)
    split at h
    ·split at h
     ·cases h
     ·rename_i hbad
      have hn:=name_ok (Bool.eq_false_iff.2 hbad)
      split at h
      ·rename_i ho0
       split at h
       ·cases h
        refine ⟨_,_,_,rfl,?_⟩
        rw [ho0] at hn
        unfold partOK
        simp only [if_neg (show ¬ (((2:Int) == 1) = true) by decide),if_pos (show ((2:Int) == 2) = true by decide),h200',extract_mid,Bool.true_and]
        simp only [List.take_zero] at hn
        rw [hn]
        cases q <;> rfl
       ·cases h
      ·rename_i ho0
       split at h
       ·cases h
       ·rename_i f j' hm
        split at h
        ·cases h
         refine ⟨_,_,_,rfl,?_⟩
         unfold partOK
         simp only [if_neg (show ¬ (((2:Int) == 1) = true) by decide),if_pos (show ((2:Int) == 2) = true by decide),h200',extract_mid,Bool.true_and,hn,op_empty ho0,Bool.not_false,Bool.true_or]
         cases q with
         | true=>exact ihm _ _ _ _ _ _ hm (Rt.start _ _)
         | false =>
          have:=ihb _ _ _ _ _ hm (Rt.start _ _)
          rwa [show plc d = 1 from if_neg (by omega)] at this
        ·cases h
    ·split at h
     ·cases h
     ·rename_i h0
      cases h
      refine ⟨_,_,_,rfl,?_⟩
      unfold partOK
      simp only [if_neg (show ¬ (((2:Int) == 1) = true) by decide),if_pos (show ((2:Int) == 2) = true by decide),h200',extract_mid,Bool.true_and]
      have hn:nameOK ((restAt s (i + 1)).take (nameLen (restAt s (i + 1)) 1)) [] = true:=by
       unfold nameOK
       simp only [name_one h0]
       rfl
      rw [hn]
      cases q <;> rfl
theorem bad_all (s:ByteArray):∀ n,(∀ (ec d:Nat) (a:A) (i j e:Nat),markedF n s ec d a i = .bad j e→i≤s.size→i≤j∧j≤s.size∧e ≠ 0) ∧
  (∀ (d:Nat) (a:A) (i j e:Nat),bareF n s d a i = .bad j e→i≤s.size→i≤j∧j≤s.size∧e ≠ 0) ∧
  (∀ (q:Bool) (d i j e:Nat),paramF n s q d i = .bad j e→i < s.size→i≤j∧j≤s.size∧e ≠ 0):=by
 intro n
 induction n with
 | zero =>
  refine ⟨fun _ _ _ _ _ _ h=>?_,fun _ _ _ _ _ h=>?_,fun _ _ _ _ _ h=>?_⟩
  ·simp only [markedF,Out.bad.injEq] at h;omega
  ·simp only [bareF,Out.bad.injEq] at h;omega
  ·simp only [paramF,Out.bad.injEq] at h;omega
 | succ n ih =>
  obtain ⟨ihm,ihb,ihp⟩:=ih
  obtain ⟨em,eb,ep⟩:=ends_all s n
  refine ⟨?_,?_,?_⟩
  ·intro ec d a i j e h hi
   rw [markedF] at h
   split at h
   ·cases h
   ·split at h
    ·cases h
    ·split at h
     ·cases h;exact ⟨Nat.le_refl _,hi,by decide⟩
     ·split at h
      ·split at h
       ·rename_i j' e' hp
        cases h
        exact ihp _ _ _ _ _ hp (by omega)
       ·rename_i p j' hp
        have h1:=ep _ _ _ _ _ hp (by omega)
        have:=ihm _ _ _ _ _ _ h h1.2.1
        exact ⟨by omega,this.2⟩
      ·split at h
       ·have h1:=slash_len (ec:=ec) (a:=a) (show i < s.size by omega)
        have:=ihm _ _ _ _ _ _ h h1.2.1
        exact ⟨by omega,this.2⟩
       ·have:=ihm _ _ _ _ _ _ h (by omega)
        exact ⟨by omega,this.2⟩
  ·intro d a i j e h hi
   rw [bareF] at h
   split at h
   ·cases h
   ·split at h
    ·split at h
     ·rename_i h0
      have hn:(Lib.indexByte (restAt s (i + 1)) 39).toNat < (restAt s (i + 1)).length:=by
       have:=(Lib.indexByte_some (l:=restAt s (i + 1)) (c:=39) (o:=(Lib.indexByte (restAt s (i + 1)) 39).toNat) (by omega)).1
       exact (List.getElem?_eq_some_iff.1 this).1
      rw [restAt_len] at hn
      have:=ihb _ _ _ _ _ h (by omega)
      exact ⟨by omega,this.2⟩
     ·cases h;exact ⟨Nat.le_refl _,hi,by decide⟩
    ·split at h
     ·split at h
      ·rename_i j' e' hm
       cases h
       have:=ihm _ _ _ _ _ _ hm (by omega)
       exact ⟨by omega,this.2⟩
      ·rename_i m j' hm
       have h1:=em _ _ _ _ _ _ hm (by omega)
       split at h
       ·cases h;exact ⟨Nat.le_refl _,hi,by decide⟩
       ·have:=ihb _ _ _ _ _ h (by omega)
        exact ⟨by omega,this.2⟩
     ·split at h
      ·split at h
       ·cases h;exact ⟨Nat.le_refl _,hi,by decide⟩
       ·have:=ihb _ _ _ _ _ h (by omega)
        exact ⟨by omega,this.2⟩
      ·split at h
       ·cases h;exact ⟨Nat.le_refl _,hi,by decide⟩
       ·split at h
        ·split at h
         ·rename_i j' e' hp
          cases h
          exact ihp _ _ _ _ _ hp (by omega)
         ·rename_i p j' hp
          have h1:=ep _ _ _ _ _ hp (by omega)
          have:=ihb _ _ _ _ _ h h1.2.1
          exact ⟨by omega,this.2⟩
        ·split at h
         ·cases h
         ·have:=ihb _ _ _ _ _ h (by omega)
          exact ⟨by omega,this.2⟩
  ·intro q d i j e h hi
   rw [paramF] at h
   split at h
   ·cases h;exact ⟨Nat.le_refl _,by omega,by decide⟩
   ·split at h
    ·rename_i hsee
     have h1:=sees_lt hsee
     have hn:=nameLen_le (restAt s (i + 2)) s.size
     rw [restAt_len] at hn
     have ho:=opLen_le (restAt s (i + 2 + nameLen (restAt s (i + 2)) s.size))
     rw [restAt_len] at ho
     split at h
     ·cases h;exact ⟨Nat.le_refl _,by omega,by decide⟩
     ·split at h
      ·split at h
       ·cases h
       ·cases h;exact ⟨Nat.le_refl _,by omega,by decide⟩
      ·split at h
       ·rename_i j' e' hm
        cases h
        have:i + 2 + nameLen (restAt s (i + 2)) s.size + opLen (restAt s (i + 2 + nameLen (restAt s (i + 2)) s.size))≤j∧j≤s.size∧e ≠ 0:=by
         cases q with
         | true=>exact ihm _ _ _ _ _ _ hm (by omega)
         | false=>exact ihb _ _ _ _ _ hm (by omega)
        exact ⟨by omega,this.2⟩
       ·split at h
        ·cases h
        ·cases h;exact ⟨Nat.le_refl _,by omega,by decide⟩
    ·split at h
     ·cases h;exact ⟨Nat.le_refl _,by omega,by decide⟩
     ·cases h
end Lx
end Go.Proofs.YtoklgmbpgnimcaaGreatDoor
namespace Go.Proofs.YtoklgmbpgnimcaaGreatDoor
open Go.RowKit Go.Sort
namespace Lx
open Cls Pt
def headOK:PL→Prop
 | .nil=>False
 | .cons k q t _ _ _=>k = 1→q = false→∃ c u,t.data.toList = c :: u∧c ≠ 35
theorem head_app:∀ {l:PL} (m:PL),headOK l→headOK (l.app m)
 | .cons _ _ _ _ _ _,_,h=>h
theorem head_text {a:A} (h:headOK a.flush) (s:List UInt8) (q:Bool):headOK (a.text s q).flush:=by
 obtain ⟨l,cur⟩:=a
 match cur,h with
 | none,h=>exact head_app _ h
 | some (q',bs),h =>
  cases hq:(q' == q)
  ·have he:A.text ⟨l,some (q',bs)⟩ s q = ⟨A.flush ⟨l,some (q',bs)⟩,some (q,s)⟩:=by simp [A.text,A.begins,hq,A.bytes]
   rw [he]
   exact head_app _ h
  ·obtain rfl:q' = q:=by simpa using hq
   have he:A.text ⟨l,some (q',bs)⟩ s q' = ⟨l,some (q',bs ++ s)⟩:=by simp [A.text,A.begins,A.bytes]
   rw [he]
   cases l with
   | nil =>
    intro h1 h2
    obtain ⟨c,u,hc,hn⟩:=h h1 h2
    refine ⟨c,u ++ s,?_,hn⟩
    have hc':bs = c :: u:=by simpa using hc
    simp [hc']
   | cons k q2 t o f r=>exact h
theorem head_add {a:A} (h:headOK a.flush) (p:PL):headOK (a.add p).flush:=head_app p h
theorem head_join:∀ (m:PL) {a:A},headOK a.flush→headOK (a.join m).flush
 | .nil,_,h=>h
 | .cons k q t o f r,a,h=>by
  rw [A.join_cons]
  refine head_join r ?_
  unfold A.step
  split
  ·exact head_text h _ _
  ·exact head_add h _
theorem head_bare (s:ByteArray):∀ n (d:Nat) (a:A) (i j:Nat) (l:PL),bareF n s d a i = .ok l j→headOK a.flush→headOK l:=by
 intro n
 induction n with
 | zero=>exact fun _ _ _ _ _ h=>by simp [bareF] at h
 | succ n ih =>
  intro d a i j l h ha
  rw [bareF] at h
  split at h
  ·cases h;exact ha
  ·split at h
   ·split at h
    ·exact ih _ _ _ _ _ h (head_text ha _ _)
    ·cases h
   ·split at h
    ·split at h
     ·cases h
     ·split at h
      ·cases h
      ·exact ih _ _ _ _ _ h (head_join _ ha)
    ·split at h
     ·split at h
      ·cases h
      ·refine ih _ _ _ _ _ h ?_
       unfold escA
       split
       ·exact ha
       ·exact head_text ha _ _
     ·split at h
      ·cases h
      ·split at h
       ·split at h
        ·cases h
        ·exact ih _ _ _ _ _ h (head_add ha _)
       ·split at h
        ·cases h;exact ha
        ·exact ih _ _ _ _ _ h (head_text ha _ _)
theorem head_nz {m:PL} {d:Nat} (h:rightL none m 2 d = true):headOK (A0.join (nz m)).flush:=by
 cases m with
 | nil =>
  show headOK (A0.join (A.lit true [])).flush
  rw [A.lit,A.join_cons,A.join_nil,A.step,if_pos (by rfl)]
  intro _ h;cases h
 | cons k q t o f r =>
  rw [right_cons] at h
  simp only [Bool.and_eq_true,Bool.not_eq_true'] at h
  obtain ⟨⟨⟨h1,_⟩,h3⟩,h4⟩:=h
  obtain rfl:q = true:=by cases q <;> simp_all
  show headOK (A0.join (.cons k true t o f r)).flush
  rw [A.join_cons]
  refine head_join r ?_
  unfold A.step
  split
  ·intro _ h;cases h
  ·intro _ h;cases h
theorem prefix_two {s:ByteArray} {i:Nat} (h:i < s.size):Lib.hasPrefix (restAt s i) [92,10] = (((byteAt s i).toNat:Int) == 92 && (decide (i + 1 < s.size) && ((byteAt s (i + 1)).toNat:Int) == 10)):=by
 have hu:∀ (c m:UInt8),(m == c) = ((c.toNat:Int) == (m.toNat:Int)):=fun c m=>by
  rw [Bool.eq_iff_iff,beq_iff_eq,beq_iff_eq]
  exact ⟨fun h=>by rw [h],fun h=>UInt8.toNat_inj.1 (by omega)⟩
 rw [restAt_cons h]
 unfold Lib.hasPrefix
 rw [List.isPrefixOf_cons_cons,hu]
 by_cases h2:i + 1 < s.size
 ·rw [restAt_cons h2,List.isPrefixOf_cons_cons,hu]
  simp [h2,byteAt]
 ·rw [restAt_nil (by omega)]
  simp [h2,List.isPrefixOf]
theorem word_good {s:ByteArray} {i j:Nat} {l:PL} (hi:i < s.size) (h:bareF (s.size + 1) s 0 A0 i = .ok l j) (hb:blankB (byteAt s i).toNat = false) (hp:Lib.hasPrefix (restAt s i) [92,10] = false) (h35:((byteAt s i).toNat:Int) ≠ 35) (h10:byteAt s i ≠ 10) (hsg:signB (byteAt s i).toNat = false) :
  rightW l = true∧i < j∧j≤s.size:=by
 have hr:rightL none l 0 1 = true:=(right_all s (s.size + 1)).2.1 0 A0 i j l h (Rt.start _ _)
 have hh:headOK l∧i < j∧j≤s.size:=by
  have he:=(ends_all s s.size).2.1
  have hb0:=head_bare s s.size
  rw [bareF] at h
  split at h
  ·omega
  ·split at h
   ·split at h
    ·rename_i h0
     have hn:(Lib.indexByte (restAt s (i + 1)) 39).toNat < (restAt s (i + 1)).length:=by
      have:=(Lib.indexByte_some (l:=restAt s (i + 1)) (c:=39) (o:=(Lib.indexByte (restAt s (i + 1)) 39).toNat) (by omega)).1
      exact (List.getElem?_eq_some_iff.1 this).1
     rw [restAt_len] at hn
     have:=he _ _ _ _ _ h (by omega)
     exact ⟨hb0 _ _ _ _ _ h (fun _ h=>by cases h),by omega,this.2⟩
    ·cases h
   ·split at h
    ·split at h
     ·cases h
     ·rename_i m j' hm
      have h1:=(ends_all s s.size).1 _ _ _ _ _ _ hm (by omega)
      split at h
      ·cases h
      ·have:=he _ _ _ _ _ h (by omega)
       exact ⟨hb0 _ _ _ _ _ h (head_nz ((right_all s s.size).1 _ _ _ _ _ _ hm (Rt.start _ _))),by omega,this.2⟩
    ·split at h
     ·rename_i h92
      split at h
      ·cases h
      ·have:=he _ _ _ _ _ h (by omega)
       refine ⟨hb0 _ _ _ _ _ h ?_,by omega,this.2⟩
       rw [prefix_two hi,h92] at hp
       rw [decide_eq_true (show i + 1 < s.size by omega)] at hp
       unfold escA
       rw [if_neg (by simpa using hp)]
       intro _ h;cases h
     ·split at h
      ·cases h
      ·split at h
       ·split at h
        ·cases h
        ·rename_i p j' hpp
         have h1:=(ends_all s s.size).2.2 _ _ _ _ _ hpp hi
         have:=he _ _ _ _ _ h h1.2.1
         obtain ⟨t,o,f,rfl,_⟩:=h1.2.2
         exact ⟨hb0 _ _ _ _ _ h (fun h=>by cases h),by omega,this.2⟩
       ·rename_i k39 k34 k92 k96 k36
        split at h
        ·rename_i hst
         exfalso
         have hn10:((byteAt s i).toNat:Int) ≠ 10:=fun h=>h10 (UInt8.toNat_inj.1 (by show (byteAt s i).toNat = 10;omega))
         unfold stopB bareB breakB quoteB at hst
         unfold blankB at hb
         simp_all
        ·have:=he _ _ _ _ _ h (by omega)
         refine ⟨hb0 _ _ _ _ _ h (fun _ _=>⟨byteAt s i,[],rfl,fun hc=>h35 (by rw [hc];rfl)⟩),by omega,this.2⟩
 obtain ⟨h1,h2⟩:=hh
 refine ⟨?_,h2⟩
 cases l with
 | nil=>exact h1.elim
 | cons k q t o f r =>
  simp only [rightW,hr,Bool.and_true,Bool.not_eq_true']
  cases hk:(k == 1)
  ·rfl
  ·cases q
   ·obtain ⟨c,u,hc,hn⟩:=h1 (by simpa using hk) rfl
    rw [hc]
    show (35 == c && _) = false
    rw [show ((35:UInt8) == c) = false from by simpa using fun h=>hn h.symm]
    rfl
   ·rfl
def aheadF:Nat→ByteArray→Nat→Nat
 | 0,_,i=>i
 | n + 1,s,i =>
  if s.size≤i then i
  else if blankB (byteAt s i).toNat then aheadF n s (i + 1)
  else if Lib.hasPrefix (restAt s i) [92,10] then aheadF n s (i + 2)
  else if ((byteAt s i).toNat:Int) == 35 then
   if 0≤Lib.indexByte (restAt s i) 10 then aheadF n s (i + (Lib.indexByte (restAt s i) 10).toNat) else s.size
  else i
theorem prefix_le {s:ByteArray} {i:Nat} (h:Lib.hasPrefix (restAt s i) [92,10] = true):i + 2≤s.size:=by
 have:=(List.isPrefixOf_iff_prefix.1 h).length_le
 rw [restAt_len] at this
 simp at this
 omega
theorem index_lt {s:ByteArray} {i:Nat} {c:UInt8} (h0:0≤Lib.indexByte (restAt s i) c):i + (Lib.indexByte (restAt s i) c).toNat < s.size:=by
 have hn:(Lib.indexByte (restAt s i) c).toNat < (restAt s i).length:=by
  have:=(Lib.indexByte_some (l:=restAt s i) (c:=c) (o:=(Lib.indexByte (restAt s i) c).toNat) (by omega)).1
  exact (List.getElem?_eq_some_iff.1 this).1
 rw [restAt_len] at hn
 omega
theorem index_pos {s:ByteArray} {i:Nat} (hi:i < s.size) (h:((byteAt s i).toNat:Int) == 35) (h0:0≤Lib.indexByte (restAt s i) 10):0 < (Lib.indexByte (restAt s i) 10).toNat:=by
 refine Classical.byContradiction fun hn=>?_
 have:=(Lib.indexByte_some (l:=restAt s i) (c:=10) (o:=0) (by omega)).1
 rw [restAt_cons hi] at this
 simp only [List.getElem?_cons_zero,Option.some.injEq] at this
 unfold byteAt at h
 rw [this] at h
 cases h
theorem ahead_le (s:ByteArray):∀ n i,i≤s.size→i≤aheadF n s i∧aheadF n s i≤s.size:=by
 intro n
 induction n with
 | zero=>exact fun i h=>⟨Nat.le_refl _,h⟩
 | succ n ih =>
  intro i hi
  rw [aheadF]
  split
  ·exact ⟨Nat.le_refl _,hi⟩
  ·split
   ·have:=ih (i + 1) (by omega);omega
   ·split
    ·rename_i hp
     have:=ih (i + 2) (prefix_le hp);omega
    ·split
     ·split
      ·rename_i h0
       have h1:=index_lt h0
       have:=ih _ (Nat.le_of_lt h1);omega
      ·omega
     ·omega
theorem ahead_end (s:ByteArray):∀ n i,i≤s.size→s.size < i + n→aheadF n s i < s.size →
  blankB (byteAt s (aheadF n s i)).toNat = false∧Lib.hasPrefix (restAt s (aheadF n s i)) [92,10] = false∧((byteAt s (aheadF n s i)).toNat:Int) ≠ 35:=by
 intro n
 induction n with
 | zero=>intro i h1 h2;omega
 | succ n ih =>
  intro i hi hn
  rw [aheadF]
  split
  ·omega
  ·split
   ·exact ih _ (by omega) (by omega)
   ·rename_i hb
    split
    ·rename_i hp
     exact ih _ (prefix_le hp) (by omega)
    ·rename_i hp
     split
     ·rename_i h35
      split
      ·rename_i h0
       have h1:=index_lt h0
       have h2:=index_pos (by omega) h35 h0
       exact ih _ (Nat.le_of_lt h1) (by omega)
      ·omega
     ·rename_i h35
      exact fun _=>⟨by simpa using hb,by simpa using hp,by simpa using h35⟩
end Lx
end Go.Proofs.YtoklgmbpgnimcaaGreatDoor
