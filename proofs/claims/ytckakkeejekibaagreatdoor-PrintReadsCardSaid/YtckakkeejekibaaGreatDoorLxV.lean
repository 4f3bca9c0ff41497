/- What is read is right: the parts of any text; where it is broken off. -/
import Derived.Test.YtckakkeejekibaaGreatDoorLxI
import Derived.Test.YtckakkeejekibaaGreatDoorPtY
namespace Go.Proofs.YtckakkeejekibaaGreatDoor
open Go.RowKit Go.Sort
namespace Lx
open j6 Pt
def lastP:Option (Int × Bool)→PL→Option (Int × Bool)
 | p,.nil=>p
 | _,.cons k q _ _ _ r=>lastP (some (k,q)) r
theorem zA:∀ (l m:PL) (p:Option (Int × Bool)),lastP p (l.app m) = lastP (lastP p l) m
 | .nil,_,_=>rfl
 | .cons _ _ _ _ _ r,m,_=>by simp only [PL.app,lastP,zA r m]
theorem wX:∀ (l m:PL) (p:Option (Int × Bool)) (at' d:Nat),rightL p (l.app m) at' d = (rightL p l at' d && rightL (lastP p l) m at' d)
 | .nil,m,p,at',d=>by simp [PL.app,rightL,lastP]
 | .cons k q t o f r,m,p,at',d=>by
  simp only [PL.app,rightL,lastP,wX r m,Bool.and_assoc]
structure Rt (a:A) (at' d:Nat):Prop where
 l:rightL none a.l at' d = true
 h0:a.cur = none→((lastP none a.l).any fun x=>x.1 == 1) = false
 h1:∀ q bs,a.cur = some (q,bs)→((lastP none a.l).any fun x=>x.1 == 1 && x.2 == q) = false∧dh q bs at' = true∧(at' == 2 && !q) = false
theorem MF {p:Option (Int × Bool)} {q:Bool} {bs:List UInt8} {at' d:Nat} (h1:(p.any fun x=>x.1 == 1 && x.2 == q) = false) (h2:dh q bs at' = true) (h3:(at' == 2 && !q) = false):rightL p (A.lit q bs) at' d = true:=by
 have h4:(p.any fun x=>x.1 == 1 && (1:Int) == 1 && x.2 == q) = false:=by
  rw [← h1];congr 1;funext x;simp
 simp only [A.lit,rightL,h3,h4,h2,PL.len];rfl
theorem Rt.flush {a:A} {at' d:Nat} (h:Rt a at' d):rightL none a.flush at' d = true:=by
 obtain ⟨l,cur⟩:=a
 match cur,h with
 | none,h=>exact h.l
 | some (q,bs),h =>
  obtain ⟨h1,h2,h3⟩:=h.h1 q bs rfl;simp only [A.flush,wX,Bool.and_eq_true];exact ⟨h.l,MF h1 h2 h3⟩
theorem Js {q:Bool} {s bs:List UInt8} {at':Nat} (h1:dh q bs at' = true) (h2:dh q s at' = true):dh q (bs ++ s) at' = true:=by
 unfold dh at *
 cases q
 ·simp only [Bool.and_eq_true,List.all_append,if_neg (show ¬ (false = true) by decide)] at *
  refine ⟨⟨h1.1,h2.1⟩,?_⟩;cases bs <;> simp_all
 ·simp only [if_pos] at *
  cases h:(at' == 2)
  ·simp
  ·rw [h] at h1;cases bs <;> simp_all
theorem Rt.text {a:A} {at' d:Nat} (h:Rt a at' d) {s:List UInt8} {q:Bool} (h1:dh q s at' = true) (h2:(at' == 2 && !q) = false):Rt (a.text s q) at' d:=by
 obtain ⟨l,cur⟩:=a
 match cur,h with
 | none,h =>
  refine ⟨h.l,(fun h=>by cases h),fun q' bs hc=>?_⟩;simp only [A.text,A.begins,A.bytes,Option.some.injEq,Prod.mk.injEq,List.nil_append] at hc;obtain ⟨rfl,rfl⟩:=hc;refine ⟨?_,h1,h2⟩;have:=h.h0 rfl;simp only [A.text,A.begins] at *
  revert this;cases lastP none l with
  | none=>simp
  | some x=>simp;intro h h';exact absurd h' h
 | some (q',bs'),h =>
  obtain ⟨k1,k2,k3⟩:=h.h1 q' bs' rfl;cases hq:(q' == q)
  ·have he:A.text ⟨l,some (q',bs')⟩ s q = ⟨A.flush ⟨l,some (q',bs')⟩,some (q,s)⟩:=by simp [A.text,A.begins,hq,A.bytes]
   rw [he];refine ⟨h.flush,(fun h=>by cases h),fun q2 bs hc=>?_⟩;simp only [Option.some.injEq,Prod.mk.injEq] at hc;obtain ⟨rfl,rfl⟩:=hc;refine ⟨?_,h1,h2⟩;simp only [A.flush,zA,A.lit,lastP,Option.any_some,hq,Bool.and_false]
  ·obtain rfl:q' = q:=by simpa using hq
   have he:A.text ⟨l,some (q',bs')⟩ s q' = ⟨l,some (q',bs' ++ s)⟩:=by simp [A.text,A.begins,A.bytes]
   rw [he];refine ⟨h.l,(fun h=>by cases h),fun q2 bs hc=>?_⟩;simp only [Option.some.injEq,Prod.mk.injEq] at hc;obtain ⟨rfl,rfl⟩:=hc;exact ⟨k1,Js k2 h1,k3⟩
theorem Rt.add {a:A} {at' d:Nat} (h:Rt a at' d) {q:Bool} {t o:ByteArray} {f:PL} (h1:gm 2 q t o f 0 d = true) (h2:(at' == 2 && !q) = false):Rt (a.add (one 2 q t o f)) at' d:=by
 refine ⟨?_,fun _=>?_,fun _ _ h=>by cases h⟩
 ·simp only [A.add,wX,h.flush,Bool.true_and,one,rightL,h2];have h4:∀ p:Option (Int × Bool),(p.any fun x=>x.1 == 1 && (2:Int) == 1 && x.2 == q) = false:=fun p=>by cases p <;> simp
  rw [h4];have h5:=h1;unfold gm at h5;simp only [if_neg (show ¬ (((2:Int) == 1) = true) by decide),if_pos (show ((2:Int) == 2) = true by decide)] at h5 ⊢
  rw [h5];rfl
 ·simp only [A.add,zA,one,lastP,Option.any_some];rfl
theorem zB {q:Bool} {t o:ByteArray} {f:PL} {at' d:Nat} {k:Int} (h1:(k == 1) = false) (h:gm k q t o f at' d = true):k = 2∧gm 2 q t o f 0 d = true:=by
 unfold gm at *
 rw [h1] at h;simp only [if_neg (show ¬ (false = true) by decide)] at h;split at h
 ·rename_i h2;obtain rfl:k = 2:=by simpa using h2
  refine ⟨rfl,?_⟩;simp only [if_neg (show ¬ (((2:Int) == 1) = true) by decide),if_pos (show ((2:Int) == 2) = true by decide)];exact h
 ·cases h
theorem jL {p:Option (Int × Bool)} {k:Int} {q:Bool} {t o:ByteArray} {f r:PL} {at' d:Nat}:rightL p (.cons k q t o f r) at' d = (!(at' == 2 && !q) && !(p.any fun x=>x.1 == 1 && k == 1 && x.2 == q) && gm k q t o f at' d && rightL (some (k,q)) r at' d):=by
 simp only [rightL,gm]
theorem Rt.join {at' d:Nat} (gT:(at' == 2) = false):∀ (m:PL) (p:Option (Int × Bool)) (a:A),Rt a at' d→rightL p m 2 d = true→Rt (a.join m) at' d
 | .nil,_,_,h,_=>h
 | .cons k q t o f r,p,a,h,hr=>by
  rw [jL] at hr;simp only [Bool.and_eq_true,Bool.not_eq_true'] at hr;obtain ⟨⟨⟨h1,_⟩,h3⟩,h4⟩:=hr;obtain rfl:q = true:=by cases q <;> simp_all
  rw [A.join_cons];refine Rt.join gT r _ _ ?_ h4;unfold A.step;split
  ·exact h.text (by simp [dh,gT]) (by simp)
  ·rename_i hk;obtain ⟨rfl,h5⟩:=zB (by simpa using hk) h3;exact h.add h5 (by simp)
theorem Rt.Sy {at' d:Nat} (gT:(at' == 2) = false) {m:PL} {a:A} (h:Rt a at' d) (hr:rightL none m 2 d = true):Rt (a.join (nz m)) at' d:=by
 cases m with
 | nil =>
  show Rt (a.join (A.lit true [])) at' d;rw [A.lit,A.join_cons,A.join_nil,A.step,if_pos (by rfl)];exact h.text (by simp [dh,gT]) (by simp)
 | cons=>exact h.join gT _ _ _ hr
theorem Rt.start (at' d:Nat):Rt A0 at' d:=⟨rfl,fun _=>rfl,fun _ _ h=>by cases h⟩
theorem KV (p:Nat→Bool):∀ (l:List UInt8) (j:Nat),j < runLen p l→p (l.getD j 0).toNat = true
 | [],j,h=>by simp [runLen] at h
 | c :: l,j,h=>by
  simp only [runLen] at h;split at h
  ·rename_i hc;cases j with
   | zero=>exact hc
   | succ j=>exact KV p l j (by omega)
  ·omega
theorem getD_take {l:List UInt8} {n j:Nat} (h:j < n):(l.take n).getD j 0 = l.getD j 0:=by
 simp [List.getD_eq_getElem?_getD,List.getElem?_take,h]
theorem Pn {c:UInt8} {l:List UInt8} (h:iX c.toNat = true):bV ((c :: l).take (runLen Lx.mq (c :: l))) = true:=by
 have hle:=o8 Lx.mq (c :: l);have IP:0 < runLen Lx.mq (c :: l):=by
  simp only [runLen,Lx.mq,h,Bool.true_or,if_true];omega
 unfold bV;refine decide_eq_true ⟨by rw [List.length_take];omega,fun j hj=>?_⟩;rw [List.length_take] at hj;rw [getD_take (by omega)];have:=KV Lx.mq (c :: l) j (by omega);unfold okB;cases j with
 | zero=>simp [h]
 | succ j=>simpa [Lx.mq] using this
theorem Po {l:List UInt8} (h:aL l 1 ≠ 0):iZ (l.take (aL l 1)) = true:=by
 unfold aL at *
 split at h
 ·exact absurd rfl h
 ·rename_i c t;split
  ·rename_i hc;unfold iZ;rw [Pn hc];rfl
  ·split
   ·rename_i h1 hd;have hr:1≤runLen eZ (c :: t):=by simp only [runLen,hd,if_true];omega
    rw [Nat.min_eq_right hr];simp only [List.take_succ_cons,List.take_zero];unfold iZ iA nu;have h2:(!(c.toNat == 48) || [c] == [48]) = true:=by
     cases h3:(c.toNat == 48)
     ·rfl
     ·have:c = 48:=by
       apply UInt8.toNat_inj.1;simpa using h3
      subst this;rfl
    simp only [List.all_cons,List.all_nil,hd,List.getD_cons_zero,h2,List.length_singleton];simp
   ·split
    ·rename_i hp;simpa using hp
    ·rename_i h1 h2 h3;rw [if_neg h1,if_neg h2,if_neg h3] at h;exact absurd rfl h
theorem Yo (l:List UInt8):RP (l.take (gG l)) = true∨(isSet (l.take (gG l)) = true∧xO (l.take (gG l)) = true):=by
 have hb:∀ n,Ul n = true→n = 45∨n = 61∨n = 43∨n = 63:=fun n h=>by
  unfold Ul at h;simp at h;omega
 have hu:∀ (c:UInt8) (m:UInt8),c.toNat = m.toNat→c = m:=fun c m h=>UInt8.toNat_inj.1 h
 match l with
 | []=>left;rfl
 | [c] =>
  simp only [gG];split
  ·left;rfl
  ·split
   ·rename_i h;rcases hb _ h with h | h | h | h
    ·obtain rfl:=hu c 45 h;left;rfl
    ·obtain rfl:=hu c 61 h;right;exact ⟨rfl,rfl⟩
    ·obtain rfl:=hu c 43 h;left;rfl
    ·obtain rfl:=hu c 63 h;left;rfl
   ·left;rfl
 | c :: c2 :: t =>
  simp only [gG];split
  ·rename_i h0;obtain rfl:=hu c 58 (by have h1:=beq_iff_eq.1 h0;show c.toNat = 58;omega);split
   ·rename_i h;rcases hb _ h with h | h | h | h
    ·obtain rfl:=hu c2 45 h;left;rfl
    ·obtain rfl:=hu c2 61 h;right;exact ⟨rfl,rfl⟩
    ·obtain rfl:=hu c2 43 h;left;rfl
    ·obtain rfl:=hu c2 63 h;left;rfl
   ·left;rfl
  ·split
   ·rename_i h;rcases hb _ h with h | h | h | h
    ·obtain rfl:=hu c 45 h;left;rfl
    ·obtain rfl:=hu c 61 h;right;exact ⟨rfl,rfl⟩
    ·obtain rfl:=hu c 43 h;left;rfl
    ·obtain rfl:=hu c 63 h;left;rfl
   ·left;rfl
theorem Pp {l:List UInt8} (h:gG l ≠ 0):((l.take (gG l)) == []) = false:=by
 have h1:=r9 l;cases hl:l.take (gG l) with
 | nil =>
  have h2:=congrArg List.length hl;rw [List.length_take,zZ] at h2;omega
 | cons=>rfl
theorem Sz {t l:List UInt8} (h:(!iZ t || (xO (l.take (gG l)) && !bV t)) = false):jZ t (l.take (gG l)) = true:=by
 simp only [Bool.or_eq_false_iff,Bool.not_eq_false',Bool.and_eq_false_iff] at h;unfold jZ;rcases Yo l with h1 | ⟨h1,h2⟩
 ·rw [h1];split
  ·rename_i hs;have:xO (l.take (gG l)) = true:=by
    unfold isSet at hs;simp only [Bool.or_eq_true,beq_iff_eq] at hs;rcases hs with hs | hs <;> rw [hs] <;> rfl
   rcases h.2 with h3 | h3
   ·rw [this] at h3;cases h3
   ·exact h3
  ·exact h.1
 ·rw [if_pos h1];rcases h.2 with h3 | h3
  ·rw [h2] at h3;cases h3
  ·exact h3
def yD (d:Nat):Nat:=if d = 0 then 0 else 1
theorem Jt (d:Nat):(yD d == 2) = false:=by unfold yD;split <;> rfl
theorem MG {d:Nat} {c:UInt8} (Bu:¬ ((c.toNat:Int) == 39) = true) (pq:¬ ((c.toNat:Int) == 34) = true) (oV:¬ ((c.toNat:Int) == 92) = true) (xP:¬ ((c.toNat:Int) == 96) = true) (tT:¬ ((c.toNat:Int) == 36) = true) (hs:¬ ng d c.toNat = true):dh false [c] (yD d) = true:=by
 unfold dh gI yD;unfold ng at hs
 by_cases hd:d = 0
 ·subst hd;simp only [Int.natCast_zero,beq_self_eq_true,Bool.true_and,Nat.lt_irrefl,decide_false,Bool.false_and,Bool.or_false,Bool.not_eq_true',Bool.not_eq_false] at hs;simp [hs]
 ·have lT:0 < d:=by omega
  simp only [lT,decide_true,Bool.true_and,Bool.or_eq_true,not_or] at hs;simp only [if_neg hd,qK];simp only [Bool.not_eq_true] at *
  simp [Bu,pq,oV,xP,tT,hs.2]
theorem Ce (s:ByteArray):∀ n,(∀ (ec d:Nat) (a:A) (i j:Nat) (l:PL),markedF n s ec d a i = .ok l j→Rt a 2 (d + 1)→rightL none l 2 (d + 1) = true) ∧
  (∀ (d:Nat) (a:A) (i j:Nat) (l:PL),bareF n s d a i = .ok l j→Rt a (yD d) (d + 1)→rightL none l (yD d) (d + 1) = true) ∧
  (∀ (q:Bool) (d i j:Nat) (p:PL),paramF n s q d i = .ok p j→0 < d→∃ t o f,p = one 2 q t o f∧gm 2 q t o f 0 d = true):=by
 intro n
 induction n with
 | zero=>exact ⟨fun _ _ _ _ _ _ h=>by simp [markedF] at h,fun _ _ _ _ _ h=>by simp [bareF] at h,fun _ _ _ _ _ h=>by simp [paramF] at h⟩
 | succ n ih =>
  obtain ⟨zn,ihb,O0⟩:=ih;refine ⟨?_,?_,?_⟩
  ·intro ec d a i j l h ha;rw [markedF] at h;split at h
   ·cases h;exact ha.flush
   ·split at h
    ·cases h;exact ha.flush
    ·split at h
     ·cases h
     ·split at h
      ·split at h
       ·cases h
       ·rename_i p j' hp;obtain ⟨t,o,f,rfl,h1⟩:=O0 _ _ _ _ _ hp (by omega);exact zn _ _ _ _ _ _ h (ha.add h1 rfl)
      ·split at h
       ·refine zn _ _ _ _ _ _ h ?_;unfold dW;split
        ·exact ha
        ·split
         ·exact ha.text rfl rfl
         ·exact ha.text rfl rfl
       ·exact zn _ _ _ _ _ _ h (ha.text rfl rfl)
  ·intro d a i j l h ha;rw [bareF] at h;split at h
   ·cases h;exact ha.flush
   ·split at h
    ·split at h
     ·exact ihb _ _ _ _ _ h (ha.text (by simp [dh,Jt]) (by simp))
     ·cases h
    ·split at h
     ·split at h
      ·cases h
      ·rename_i m j' hm;split at h
       ·cases h
       ·exact ihb _ _ _ _ _ h (ha.Sy (Jt d) (zn _ _ _ _ _ _ hm (Rt.start _ _)))
     ·split at h
      ·split at h
       ·cases h
       ·refine ihb _ _ _ _ _ h ?_;unfold yt;split
        ·exact ha
        ·exact ha.text (by simp [dh,Jt]) (by simp)
      ·split at h
       ·cases h
       ·split at h
        ·split at h
         ·cases h
         ·rename_i p j' hp;obtain ⟨t,o,f,rfl,h1⟩:=O0 _ _ _ _ _ hp (by omega);exact ihb _ _ _ _ _ h (ha.add h1 (by simp [Jt]))
        ·split at h
         ·cases h;exact ha.flush
         ·rename_i h1 h2 h3 h4 h5 h6 h7;exact ihb _ _ _ _ _ h (ha.text (MG h2 h3 h4 h5 h6 h7) (by simp [Jt]))
  ·intro q d i j p h hd;rw [paramF] at h;split at h
   ·cases h
   ·rename_i afs;have Pq:decide (d≤200) = true:=decide_eq_true (by omega);split at h
    ·split at h
     ·cases h
     ·rename_i VL;have hn:=Sz (Bool.eq_false_iff.2 VL);split at h
      ·rename_i Yp;split at h
       ·cases h;refine ⟨_,_,_,rfl,?_⟩;rw [Yp] at hn;unfold gm;simp only [if_neg (show ¬ (((2:Int) == 1) = true) by decide),if_pos (show ((2:Int) == 2) = true by decide),Pq,iK,Bool.true_and];simp only [List.take_zero] at hn;rw [hn];cases q <;> rfl
       ·cases h
      ·rename_i Yp;split at h
       ·cases h
       ·rename_i f j' hm;split at h
        ·cases h;refine ⟨_,_,_,rfl,?_⟩;unfold gm;simp only [if_neg (show ¬ (((2:Int) == 1) = true) by decide),if_pos (show ((2:Int) == 2) = true by decide),Pq,iK,Bool.true_and,hn,Pp Yp,Bool.not_false,Bool.true_or];cases q with
         | true=>exact zn _ _ _ _ _ _ hm (Rt.start _ _)
         | false =>
          have:=ihb _ _ _ _ _ hm (Rt.start _ _);rwa [show yD d = 1 from if_neg (by omega)] at this
        ·cases h
    ·split at h
     ·cases h
     ·rename_i h0;cases h;refine ⟨_,_,_,rfl,?_⟩;unfold gm;simp only [if_neg (show ¬ (((2:Int) == 1) = true) by decide),if_pos (show ((2:Int) == 2) = true by decide),Pq,iK,Bool.true_and];have hn:jZ ((ag s (i + 1)).take (aL (ag s (i + 1)) 1)) [] = true:=by
       unfold jZ;simp only [Po h0];rfl
      rw [hn];cases q <;> rfl
theorem SA (s:ByteArray):∀ n,(∀ (ec d:Nat) (a:A) (i j e:Nat),markedF n s ec d a i = .bad j e→i≤s.size→i≤j∧j≤s.size∧e ≠ 0) ∧
  (∀ (d:Nat) (a:A) (i j e:Nat),bareF n s d a i = .bad j e→i≤s.size→i≤j∧j≤s.size∧e ≠ 0) ∧
  (∀ (q:Bool) (d i j e:Nat),paramF n s q d i = .bad j e→i < s.size→i≤j∧j≤s.size∧e ≠ 0):=by
 intro n
 induction n with
 | zero =>
  refine ⟨fun _ _ _ _ _ _ h=>?_,fun _ _ _ _ _ h=>?_,fun _ _ _ _ _ h=>?_⟩
  ·simp only [markedF,Out.bad.injEq] at h;omega
  ·simp only [bareF,Out.bad.injEq] at h;omega
  ·simp only [paramF,Out.bad.injEq] at h;omega
 | succ n ih =>
  obtain ⟨zn,ihb,O0⟩:=ih;obtain ⟨em,eb,ep⟩:=jr s n;refine ⟨?_,?_,?_⟩
  ·intro ec d a i j e h hi;rw [markedF] at h;split at h
   ·cases h
   ·split at h
    ·cases h
    ·split at h
     ·cases h;exact ⟨Nat.le_refl _,hi,by decide⟩
     ·split at h
      ·split at h
       ·rename_i j' e' hp;cases h;exact O0 _ _ _ _ _ hp (by omega)
       ·rename_i p j' hp;have h1:=ep _ _ _ _ _ hp (by omega);have:=zn _ _ _ _ _ _ h h1.2.1;exact ⟨by omega,this.2⟩
      ·split at h
       ·have h1:=wU (ec:=ec) (a:=a) (show i < s.size by omega);have:=zn _ _ _ _ _ _ h h1.2.1;exact ⟨by omega,this.2⟩
       ·have:=zn _ _ _ _ _ _ h (by omega);exact ⟨by omega,this.2⟩
  ·intro d a i j e h hi;rw [bareF] at h;split at h
   ·cases h
   ·split at h
    ·split at h
     ·rename_i h0;have hn:(Lib.indexByte (ag s (i + 1)) 39).toNat < (ag s (i + 1)).length:=by
       have:=(Lib.indexByte_some (l:=ag s (i + 1)) (c:=39) (o:=(Lib.indexByte (ag s (i + 1)) 39).toNat) (by omega)).1;exact (List.getElem?_eq_some_iff.1 this).1
      rw [aQ] at hn;have:=ihb _ _ _ _ _ h (by omega);exact ⟨by omega,this.2⟩
     ·cases h;exact ⟨Nat.le_refl _,hi,by decide⟩
    ·split at h
     ·split at h
      ·rename_i j' e' hm;cases h;have:=zn _ _ _ _ _ _ hm (by omega);exact ⟨by omega,this.2⟩
      ·rename_i m j' hm;have h1:=em _ _ _ _ _ _ hm (by omega);split at h
       ·cases h;exact ⟨Nat.le_refl _,hi,by decide⟩
       ·have:=ihb _ _ _ _ _ h (by omega);exact ⟨by omega,this.2⟩
     ·split at h
      ·split at h
       ·cases h;exact ⟨Nat.le_refl _,hi,by decide⟩
       ·have:=ihb _ _ _ _ _ h (by omega);exact ⟨by omega,this.2⟩
      ·split at h
       ·cases h;exact ⟨Nat.le_refl _,hi,by decide⟩
       ·split at h
        ·split at h
         ·rename_i j' e' hp;cases h;exact O0 _ _ _ _ _ hp (by omega)
         ·rename_i p j' hp;have h1:=ep _ _ _ _ _ hp (by omega);have:=ihb _ _ _ _ _ h h1.2.1;exact ⟨by omega,this.2⟩
        ·split at h
         ·cases h
         ·have:=ihb _ _ _ _ _ h (by omega);exact ⟨by omega,this.2⟩
  ·intro q d i j e h hi;rw [paramF] at h;split at h
   ·cases h;exact ⟨Nat.le_refl _,by omega,by decide⟩
   ·split at h
    ·rename_i jc;have h1:=nA jc;have hn:=kE (ag s (i + 2)) s.size;rw [aQ] at hn;have ho:=r9 (ag s (i + 2 + aL (ag s (i + 2)) s.size));rw [aQ] at ho;split at h
     ·cases h;exact ⟨Nat.le_refl _,by omega,by decide⟩
     ·split at h
      ·split at h
       ·cases h
       ·cases h;exact ⟨Nat.le_refl _,by omega,by decide⟩
      ·split at h
       ·rename_i j' e' hm;cases h;have:i + 2 + aL (ag s (i + 2)) s.size + gG (ag s (i + 2 + aL (ag s (i + 2)) s.size))≤j∧j≤s.size∧e ≠ 0:=by
         cases q with
         | true=>exact zn _ _ _ _ _ _ hm (by omega)
         | false=>exact ihb _ _ _ _ _ hm (by omega)
        exact ⟨by omega,this.2⟩
       ·split at h
        ·cases h
        ·cases h;exact ⟨Nat.le_refl _,by omega,by decide⟩
    ·split at h
     ·cases h;exact ⟨Nat.le_refl _,by omega,by decide⟩
     ·cases h
def kU:PL→Prop
 | .nil=>False
 | .cons k q t _ _ _=>k = 1→q = false→∃ c u,t.data.toList = c :: u∧c ≠ 35
theorem zC:∀ {l:PL} (m:PL),kU l→kU (l.app m)
 | .cons _ _ _ _ _ _,_,h=>h
theorem tu {a:A} (h:kU a.flush) (s:List UInt8) (q:Bool):kU (a.text s q).flush:=by
 obtain ⟨l,cur⟩:=a
 match cur,h with
 | none,h=>exact zC _ h
 | some (q',bs),h =>
  cases hq:(q' == q)
  ·have he:A.text ⟨l,some (q',bs)⟩ s q = ⟨A.flush ⟨l,some (q',bs)⟩,some (q,s)⟩:=by simp [A.text,A.begins,hq,A.bytes]
   rw [he];exact zC _ h
  ·obtain rfl:q' = q:=by simpa using hq
   have he:A.text ⟨l,some (q',bs)⟩ s q' = ⟨l,some (q',bs ++ s)⟩:=by simp [A.text,A.begins,A.bytes]
   rw [he];cases l with
   | nil =>
    intro h1 h2;obtain ⟨c,u,hc,hn⟩:=h h1 h2;refine ⟨c,u ++ s,?_,hn⟩;have hc':bs = c :: u:=by simpa using hc
    simp [hc']
   | cons k q2 t o f r=>exact h
theorem Ga {a:A} (h:kU a.flush) (p:PL):kU (a.add p).flush:=zC p h
theorem wY:∀ (m:PL) {a:A},kU a.flush→kU (a.join m).flush
 | .nil,_,h=>h
 | .cons k q t o f r,a,h=>by
  rw [A.join_cons];refine wY r ?_;unfold A.step;split
  ·exact tu h _ _
  ·exact Ga h _
theorem MH (s:ByteArray):∀ n (d:Nat) (a:A) (i j:Nat) (l:PL),bareF n s d a i = .ok l j→kU a.flush→kU l:=by
 intro n
 induction n with
 | zero=>exact fun _ _ _ _ _ h=>by simp [bareF] at h
 | succ n ih =>
  intro d a i j l h ha;rw [bareF] at h;split at h
  ·cases h;exact ha
  ·split at h
   ·split at h
    ·exact ih _ _ _ _ _ h (tu ha _ _)
    ·cases h
   ·split at h
    ·split at h
     ·cases h
     ·split at h
      ·cases h
      ·exact ih _ _ _ _ _ h (wY _ ha)
    ·split at h
     ·split at h
      ·cases h
      ·refine ih _ _ _ _ _ h ?_;unfold yt;split
       ·exact ha
       ·exact tu ha _ _
     ·split at h
      ·cases h
      ·split at h
       ·split at h
        ·cases h
        ·exact ih _ _ _ _ _ h (Ga ha _)
       ·split at h
        ·cases h;exact ha
        ·exact ih _ _ _ _ _ h (tu ha _ _)
theorem SB {m:PL} {d:Nat} (h:rightL none m 2 d = true):kU (A0.join (nz m)).flush:=by
 cases m with
 | nil =>
  show kU (A0.join (A.lit true [])).flush;rw [A.lit,A.join_cons,A.join_nil,A.step,if_pos (by rfl)];intro _ h;cases h
 | cons k q t o f r =>
  rw [jL] at h;simp only [Bool.and_eq_true,Bool.not_eq_true'] at h;obtain ⟨⟨⟨h1,_⟩,h3⟩,h4⟩:=h;obtain rfl:q = true:=by cases q <;> simp_all
  show kU (A0.join (.cons k true t o f r)).flush;rw [A.join_cons];refine wY r ?_;unfold A.step;split
  ·intro _ h;cases h
  ·intro _ h;cases h
theorem zD {s:ByteArray} {i:Nat} (h:i < s.size):Lib.hasPrefix (ag s i) [92,10] = (((bG s i).toNat:Int) == 92 && (decide (i + 1 < s.size) && ((bG s (i + 1)).toNat:Int) == 10)):=by
 have hu:∀ (c m:UInt8),(m == c) = ((c.toNat:Int) == (m.toNat:Int)):=fun c m=>by
  rw [Bool.eq_iff_iff,beq_iff_eq,beq_iff_eq];exact ⟨fun h=>by rw [h],fun h=>UInt8.toNat_inj.1 (by omega)⟩
 rw [kK h];unfold Lib.hasPrefix;rw [List.isPrefixOf_cons_cons,hu]
 by_cases h2:i + 1 < s.size
 ·rw [kK h2,List.isPrefixOf_cons_cons,hu];simp [h2,bG]
 ·rw [nQ (by omega)];simp [h2,List.isPrefixOf]
theorem MI {s:ByteArray} {i j:Nat} {l:PL} (hi:i < s.size) (h:bareF (s.size + 1) s 0 A0 i = .ok l j) (hb:jE (bG s i).toNat = false) (hp:Lib.hasPrefix (ag s i) [92,10] = false) (yE:((bG s i).toNat:Int) ≠ 35) (yl:bG s i ≠ 10) (zy:lL (bG s i).toNat = false) :
  aG l = true∧i < j∧j≤s.size:=by
 have hr:rightL none l 0 1 = true:=(Ce s (s.size + 1)).2.1 0 A0 i j l h (Rt.start _ _);have hh:kU l∧i < j∧j≤s.size:=by
  have he:=(jr s s.size).2.1;have gZ:=MH s s.size;rw [bareF] at h;split at h
  ·omega
  ·split at h
   ·split at h
    ·rename_i h0;have hn:(Lib.indexByte (ag s (i + 1)) 39).toNat < (ag s (i + 1)).length:=by
      have:=(Lib.indexByte_some (l:=ag s (i + 1)) (c:=39) (o:=(Lib.indexByte (ag s (i + 1)) 39).toNat) (by omega)).1;exact (List.getElem?_eq_some_iff.1 this).1
     rw [aQ] at hn;have:=he _ _ _ _ _ h (by omega);exact ⟨gZ _ _ _ _ _ h (fun _ h=>by cases h),by omega,this.2⟩
    ·cases h
   ·split at h
    ·split at h
     ·cases h
     ·rename_i m j' hm;have h1:=(jr s s.size).1 _ _ _ _ _ _ hm (by omega);split at h
      ·cases h
      ·have:=he _ _ _ _ _ h (by omega);exact ⟨gZ _ _ _ _ _ h (SB ((Ce s s.size).1 _ _ _ _ _ _ hm (Rt.start _ _))),by omega,this.2⟩
    ·split at h
     ·rename_i oV;split at h
      ·cases h
      ·have:=he _ _ _ _ _ h (by omega);refine ⟨gZ _ _ _ _ _ h ?_,by omega,this.2⟩;rw [zD hi,oV] at hp;rw [decide_eq_true (show i + 1 < s.size by omega)] at hp;unfold yt;rw [if_neg (by simpa using hp)];intro _ h;cases h
     ·split at h
      ·cases h
      ·split at h
       ·split at h
        ·cases h
        ·rename_i p j' Mo;have h1:=(jr s s.size).2.2 _ _ _ _ _ Mo hi;have:=he _ _ _ _ _ h h1.2.1;obtain ⟨t,o,f,rfl,_⟩:=h1.2.2;exact ⟨gZ _ _ _ _ _ h (fun h=>by cases h),by omega,this.2⟩
       ·rename_i k39 k34 Xb k96 k36;split at h
        ·rename_i aM;exfalso;have Pj:((bG s i).toNat:Int) ≠ 10:=fun h=>yl (UInt8.toNat_inj.1 (by show (bG s i).toNat = 10;omega));unfold ng nO yX yY at aM;unfold jE at hb
         simp_all
        ·have:=he _ _ _ _ _ h (by omega);refine ⟨gZ _ _ _ _ _ h (fun _ _=>⟨bG s i,[],rfl,fun hc=>yE (by rw [hc];rfl)⟩),by omega,this.2⟩
 obtain ⟨h1,h2⟩:=hh;refine ⟨?_,h2⟩;cases l with
 | nil=>exact h1.elim
 | cons k q t o f r =>
  simp only [aG,hr,Bool.and_true,Bool.not_eq_true'];cases hk:(k == 1)
  ·rfl
  ·cases q
   ·obtain ⟨c,u,hc,hn⟩:=h1 (by simpa using hk) rfl;rw [hc];show (35 == c && _) = false;rw [show ((35:UInt8) == c) = false from by simpa using fun h=>hn h.symm];rfl
   ·rfl
def aheadF:Nat→ByteArray→Nat→Nat
 | 0,_,i=>i
 | n + 1,s,i =>
  if s.size≤i then i
  else if jE (bG s i).toNat then aheadF n s (i + 1)
  else if Lib.hasPrefix (ag s i) [92,10] then aheadF n s (i + 2)
  else if ((bG s i).toNat:Int) == 35 then
   if 0≤Lib.indexByte (ag s i) 10 then aheadF n s (i + (Lib.indexByte (ag s i) 10).toNat) else s.size
  else i
theorem wZ {s:ByteArray} {i:Nat} (h:Lib.hasPrefix (ag s i) [92,10] = true):i + 2≤s.size:=by
 have:=(List.isPrefixOf_iff_prefix.1 h).length_le;rw [aQ] at this;simp at this;omega
theorem zF {s:ByteArray} {i:Nat} {c:UInt8} (h0:0≤Lib.indexByte (ag s i) c):i + (Lib.indexByte (ag s i) c).toNat < s.size:=by
 have hn:(Lib.indexByte (ag s i) c).toNat < (ag s i).length:=by
  have:=(Lib.indexByte_some (l:=ag s i) (c:=c) (o:=(Lib.indexByte (ag s i) c).toNat) (by omega)).1;exact (List.getElem?_eq_some_iff.1 this).1
 rw [aQ] at hn;omega
theorem Cf {s:ByteArray} {i:Nat} (hi:i < s.size) (h:((bG s i).toNat:Int) == 35) (h0:0≤Lib.indexByte (ag s i) 10):0 < (Lib.indexByte (ag s i) 10).toNat:=by
 refine Classical.byContradiction fun hn=>?_;have:=(Lib.indexByte_some (l:=ag s i) (c:=10) (o:=0) (by omega)).1;rw [kK hi] at this;simp only [List.getElem?_cons_zero,Option.some.injEq] at this;unfold bG at h;rw [this] at h;cases h
theorem vK (s:ByteArray):∀ n i,i≤s.size→i≤aheadF n s i∧aheadF n s i≤s.size:=by
 intro n
 induction n with
 | zero=>exact fun i h=>⟨Nat.le_refl _,h⟩
 | succ n ih =>
  intro i hi;rw [aheadF];split
  ·exact ⟨Nat.le_refl _,hi⟩
  ·split
   ·have:=ih (i + 1) (by omega);omega
   ·split
    ·rename_i hp;have:=ih (i + 2) (wZ hp);omega
    ·split
     ·split
      ·rename_i h0;have h1:=zF h0;have:=ih _ (Nat.le_of_lt h1);omega
      ·omega
     ·omega
theorem MJ (s:ByteArray):∀ n i,i≤s.size→s.size < i + n→aheadF n s i < s.size →
  jE (bG s (aheadF n s i)).toNat = false∧Lib.hasPrefix (ag s (aheadF n s i)) [92,10] = false∧((bG s (aheadF n s i)).toNat:Int) ≠ 35:=by
 intro n
 induction n with
 | zero=>intro i h1 h2;omega
 | succ n ih =>
  intro i hi hn;rw [aheadF];split
  ·omega
  ·split
   ·exact ih _ (by omega) (by omega)
   ·rename_i hb;split
    ·rename_i hp;exact ih _ (wZ hp) (by omega)
    ·rename_i hp;split
     ·rename_i yE;split
      ·rename_i h0;have h1:=zF h0;have h2:=Cf (by omega) yE h0;exact ih _ (Nat.le_of_lt h1) (by omega)
      ·omega
     ·rename_i yE;exact fun _=>⟨by simpa using hb,by simpa using hp,by simpa using yE⟩
end Lx
end Go.Proofs.YtckakkeejekibaaGreatDoor
