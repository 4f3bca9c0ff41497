/- One way to write it: right parts that have one text are the same. -/
import Derived.Test.YtckakkeejekibaaGreatDoorWrD
import Derived.Test.YtckakkeejekibaaGreatDoorLxY
namespace Go.Proofs.YtckakkeejekibaaGreatDoor
open Go.RowKit Go.Sort
namespace Uq
open j6 Pt Bd
theorem pR (c:UInt8) (l:List UInt8):oH (c :: l) = (if qK c.toNat then [92,c] else [c]) ++ oH l:=rfl
def xV (c:UInt8):Bool:=iX c.toNat || eZ c.toNat
theorem Gr {t:List UInt8} (h:iZ t = true):(t ≠ []∧t.all xV = true)∨∃ c,t = [c]∧xV c = false:=by
 simp only [iZ,Bool.or_eq_true] at h;rcases h with (h | h) | h
 ·left;simp only [bV,decide_eq_true_eq] at h;refine ⟨by rintro rfl;simp at h,?_⟩;rw [List.all_eq_true];intro x hx;obtain ⟨j,hj,rfl⟩:=List.getElem_of_mem hx;have:=h.2 j hj;simp only [List.getD,List.getElem?_eq_getElem hj,Option.getD_some,okB,Bool.or_eq_true,Bool.and_eq_true] at this;simp only [xV,Bool.or_eq_true];rcases this with h | h
  ·exact .inl h
  ·exact .inr h.2
 ·right;simp only [jI,Bool.or_eq_true,beq_iff_eq] at h;rcases h with ((((h | h) | h) | h) | h) | h <;> subst h
  all_goals exact ⟨_,rfl,by decide⟩
 ·left;simp only [iA,Bool.and_eq_true,decide_eq_true_eq] at h;refine ⟨by rintro rfl;simp at h,?_⟩;have h2:=h.2;simp only [nu,List.all_eq_true] at h2 ⊢
  intro x hx;simp [xV,h2 x hx]
theorem JF {t:List UInt8} (h:bV t = true):iZ t = true:=by simp [iZ,h]
def Tg:List (List UInt8):=[[],[45],[58,45],[61],[58,61],[43],[58,43],[63],[58,63]]
theorem MS {t o:List UInt8} (h:jZ t o = true):iZ t = true∧o ∈ Tg:=by
 unfold jZ at h;split at h
 ·rename_i hs;refine ⟨JF h,?_⟩;simp only [isSet,Bool.or_eq_true,beq_iff_eq] at hs;rcases hs with rfl | rfl <;> simp [Tg]
 ·split at h
  ·rename_i hs;refine ⟨h,?_⟩;simp only [RP,Bool.or_eq_true,beq_iff_eq] at hs;rcases hs with (((((rfl | rfl) | rfl) | rfl) | rfl) | rfl) | rfl <;> simp [Tg]
  ·cases h
end Uq
end Go.Proofs.YtckakkeejekibaaGreatDoor
namespace Go.Proofs.YtckakkeejekibaaGreatDoor
open Go.RowKit Go.Sort
namespace Uq
open j6 Pt
theorem len_nil {f:PL} (h:(f.len == 0) = true):f = .nil:=by
 cases f with
 | nil=>rfl
 | cons=>simp [PL.len] at h
theorem sF {p:Option (Int × Bool)} {k:Int} {q:Bool} {t o:ByteArray} {f r:PL} {at' d:Nat} (h:rightL p (.cons k q t o f r) at' d = true) :
  (at' = 2→q = true)∧(p = some (1,q)→k ≠ 1)∧rightL (some (k,q)) r at' d = true ∧
   ((k = 1∧o.data.toList = []∧f = .nil∧dh q t.data.toList at' = true)∨(k = 2∧jZ t.data.toList o.data.toList = true∧(o.data.toList = []→f = .nil)∧rightL none f (mX q) (d + 1) = true)):=by
 simp only [rightL,Bool.and_eq_true] at h;obtain ⟨⟨⟨h1,h2⟩,h3⟩,h4⟩:=h;refine ⟨fun e=>?_,fun e hk=>?_,h4,?_⟩
 ·subst e;cases q
  ·simp at h1
  ·rfl
 ·subst e hk;simp at h2
 ·split at h3
  ·rename_i hk;simp only [Bool.and_eq_true,beq_iff_eq] at h3;exact .inl ⟨by simpa using hk,h3.1.1,len_nil (by simpa using h3.1.2),h3.2⟩
  ·split at h3
   ·rename_i hk;simp only [Bool.and_eq_true,Bool.or_eq_true] at h3;refine .inr ⟨by simpa using hk,h3.1.1.2,fun e=>?_,h3.2⟩;rcases h3.1.2 with h5 | h5
    ·simp [e] at h5
    ·exact len_nil h5
   ·cases h3
end Uq
end Go.Proofs.YtckakkeejekibaaGreatDoor
namespace Go.Proofs.YtckakkeejekibaaGreatDoor
open Go.RowKit Go.Sort
namespace Uq
open j6 Pt Bd
def cls (k:Int) (q:Bool) (at':Nat) (c:UInt8):Prop :=
 (k = 2∧c = if q && !(at' == 2) then 34 else 36)∨(k = 1∧at' = 2∧(c = 92∨qK c.toNat = false))∨(k = 1∧at' ≠ 2∧q = true∧c = 39)∨(k = 1∧at' ≠ 2∧q = false∧gI c.toNat at' = true)
theorem first {p:Option (Int × Bool)} {k:Int} {q:Bool} {t o:ByteArray} {f r:PL} {at' d:Nat} (x:List UInt8) (h:rightL p (.cons k q t o f r) at' d = true) :
  ∃ c z,textL (.cons k q t o f r) at' ++ x = c :: z∧cls k q at' c:=by
 obtain ⟨h1,_,_,h4⟩:=sF h;rw [iQ];rcases h4 with ⟨rfl,_,_,ht⟩ | ⟨rfl,_⟩
 ·by_cases h2:at' = 2
  ·subst h2;have hq:=h1 rfl;subst hq;simp only [dh] at ht;cases hl:t.data.toList with
   | nil=>simp [hl] at ht
   | cons c l =>
    cases he:qK c.toNat
    ·exact ⟨c,_,by simp [partT,hl,pR,he];rfl,.inr (.inl ⟨rfl,rfl,.inr he⟩)⟩
    ·exact ⟨92,_,by simp [partT,hl,pR,he];rfl,.inr (.inl ⟨rfl,rfl,.inl rfl⟩)⟩
  ·have Fj:(at' == 2) = false:=by simpa using h2
   cases q
   ·simp only [dh] at ht;cases hl:t.data.toList with
    | nil=>simp [hl] at ht
    | cons c l =>
     simp [hl] at ht;exact ⟨c,_,by simp [partT,hl,Fj];rfl,.inr (.inr (.inr ⟨rfl,h2,rfl,ht.1⟩))⟩
   ·exact ⟨39,_,by simp [partT,Fj,iP];rfl,.inr (.inr (.inl ⟨rfl,h2,rfl,rfl⟩))⟩
 ·cases hm:(q && !(at' == 2))
  ·exact ⟨36,_,by simp only [partT,kD,hm];rfl,.inl ⟨rfl,by rw [hm];rfl⟩⟩
  ·exact ⟨34,_,by simp only [partT,kD,hm];rfl,.inl ⟨rfl,by rw [hm];rfl⟩⟩
theorem Ti {o F r:List UInt8} (h1:o ∈ Tg) (e1:o = []→F = []):∃ c z,o ++ (F ++ 125 :: r) = c :: z∧xV c = false:=by
 simp only [Tg,List.mem_cons,List.not_mem_nil,or_false] at h1;rcases h1 with rfl | rfl | rfl | rfl | rfl | rfl | rfl | rfl | rfl
 ·rw [e1 rfl];exact ⟨125,r,rfl,by decide⟩
 all_goals exact ⟨_,_,rfl,by decide⟩
end Uq
end Go.Proofs.YtckakkeejekibaaGreatDoor
namespace Go.Proofs.YtckakkeejekibaaGreatDoor
open Go.RowKit Go.Sort
namespace Lx
open j6 Pt Bd
theorem bI {s:ByteArray} {i:Nat} {c:UInt8} {l:List UInt8} (h:ag s i = c :: l):i < s.size∧bG s i = c∧ag s (i + 1) = l:=by
 have hi:i < s.size:=by
  refine Classical.byContradiction fun hn=>?_;rw [nQ (by omega)] at h;cases h
 rw [kK hi] at h;exact ⟨hi,(List.cons.inj h).1,(List.cons.inj h).2⟩
theorem jf {s:ByteArray} {i:Nat} {l x:List UInt8} (h:ag s i = l ++ x):ag s (i + l.length) = x:=by
 have h1:ag s (i + l.length) = (ag s i).drop l.length:=by unfold ag;rw [List.drop_drop]
 rw [h1,h,List.drop_left]
theorem qy {s:ByteArray} {i:Nat} {l x:List UInt8} (h:ag s i = l ++ x) (hi:i≤s.size):i + l.length≤s.size:=by
 have:=congrArg List.length h;rw [aQ,zI] at this;omega
theorem xe {a b:ByteArray} (h:a.data.toList = b.data.toList):a = b:=bytes_inj (by rw [Lib.toList_data,Lib.toList_data,h])
theorem vM (t:ByteArray):(⟨t.data.toList.toArray⟩:ByteArray) = t:=xe (by simp)
def StepB (s:ByteArray) (d i:Nat) (a:A) (i':Nat) (a':A):Prop:=∀ n,s.size < i + n→∃ n',s.size < i' + n'∧bareF n s d a i = bareF n' s d a' i'
def lh (s:ByteArray) (ec d i:Nat) (a:A) (i':Nat) (a':A):Prop:=∀ n,s.size < i + n→∃ n',s.size < i' + n'∧markedF n s ec d a i = markedF n' s ec d a' i'
theorem StepB.refl (s:ByteArray) (d i:Nat) (a:A):StepB s d i a i a:=fun n h=>⟨n,h,rfl⟩
theorem lh.refl (s:ByteArray) (ec d i:Nat) (a:A):lh s ec d i a i a:=fun n h=>⟨n,h,rfl⟩
theorem StepB.trans {s:ByteArray} {d i i' YK:Nat} {a a' YL:A} (h1:StepB s d i a i' a') (h2:StepB s d i' a' YK YL):StepB s d i a YK YL:=fun n h=>by
 obtain ⟨n1,g1,e1⟩:=h1 n h;obtain ⟨n2,g2,e2⟩:=h2 n1 g1;exact ⟨n2,g2,e1.trans e2⟩
theorem lh.trans {s:ByteArray} {ec d i i' YK:Nat} {a a' YL:A} (h1:lh s ec d i a i' a') (h2:lh s ec d i' a' YK YL):lh s ec d i a YK YL:=fun n h=>by
 obtain ⟨n1,g1,e1⟩:=h1 n h;obtain ⟨n2,g2,e2⟩:=h2 n1 g1;exact ⟨n2,g2,e1.trans e2⟩
theorem tH (a:A) (s s':List UInt8) (q:Bool):(a.text s q).text s' q = a.text (s ++ s') q:=by
 obtain ⟨l,cur⟩:=a;cases cur with
 | none=>simp [A.text,A.begins,A.bytes]
 | some x =>
  obtain ⟨q',bs⟩:=x;cases hq:(q' == q)
  ·simp [A.text,A.begins,A.bytes,hq]
  ·obtain rfl:q' = q:=by simpa using hq
   simp [A.text,A.begins,A.bytes]
theorem jV {c m:UInt8} {k:Int} (h:c ≠ m) (hk:(m.toNat:Int) = k):¬ ((c.toNat:Int) == k) = true:=by
 intro e;apply h;apply UInt8.toNat_inj.1;have:=beq_iff_eq.1 e;omega
theorem StepB.cast {s:ByteArray} {d i j j':Nat} {a b b':A} (h:StepB s d i a j b) (hj:j = j') (hb:b = b'):StepB s d i a j' b':=by subst hj hb;exact h
theorem lh.cast {s:ByteArray} {ec d i j j':Nat} {a b b':A} (h:lh s ec d i a j b) (hj:j = j') (hb:b = b'):lh s ec d i a j' b':=by subst hj hb;exact h
theorem Gs {s:ByteArray} {d i:Nat} {a:A} {c:UInt8} {x:List UInt8} (h:ag s i = c :: x) (Bu:c ≠ 39) (pq:c ≠ 34) (oV:c ≠ 92) (xP:c ≠ 96) (tT:c ≠ 36) (aM:ng d c.toNat = false):StepB s d i a (i + 1) (a.text [c] false):=fun n hn=>by
 obtain ⟨h1,h2,h3⟩:=bI h;obtain ⟨m,rfl⟩:∃ m,n = m + 1:=⟨n - 1,by omega⟩;refine ⟨m,by omega,?_⟩;have k39:¬ ((c.toNat:Int) == 39) = true:=jV Bu rfl;have k34:¬ ((c.toNat:Int) == 34) = true:=jV pq rfl;have Xb:¬ ((c.toNat:Int) == 92) = true:=jV oV rfl;have k96:¬ ((c.toNat:Int) == 96) = true:=jV xP rfl;have k36:¬ ((c.toNat:Int) == 36) = true:=jV tT rfl;rw [bareF,if_neg (by omega),h2,if_neg k39,if_neg k34,if_neg Xb,if_neg k96,if_neg k36,if_neg (by rw [aM];decide)]
theorem zP {c:UInt8}:∀ {u z:List UInt8},c ∉ u→Lib.indexByte (u ++ c :: z) c = u.length
 | [],z,_=>by simp [Lib.indexByte]
 | b :: u,z,h=>by
  have hb:(b == c) = false:=by
   simp only [List.mem_cons,not_or] at h;simpa using fun e=>h.1 e.symm
  have ih:=zP (u:=u) (z:=z) (fun e=>h (List.mem_cons_of_mem _ e));simp only [List.cons_append,Lib.indexByte,hb,ih];have:((u.length:Int) == -1) = false:=by simp
  simp [this]
theorem xW {s:ByteArray} {d i:Nat} {a:A} {u x:List UInt8} (h:ag s i = 39 :: (u ++ 39 :: x)) (hu:(39:UInt8) ∉ u):StepB s d i a (i + u.length + 2) (a.text u true):=fun n hn=>by
 obtain ⟨h1,h2,h3⟩:=bI h;obtain ⟨m,rfl⟩:∃ m,n = m + 1:=⟨n - 1,by omega⟩;refine ⟨m,by omega,?_⟩;rw [bareF,if_neg (by omega),h2,if_pos (by rfl),h3,zP hu,if_pos (by omega),Int.toNat_natCast,List.take_left]
theorem PX {s:ByteArray} {d i:Nat} {a:A} {c:UInt8} {x:List UInt8} (h:ag s i = 92 :: c :: x) (yl:c ≠ 10):StepB s d i a (i + 2) (a.text [c] true):=fun n hn=>by
 obtain ⟨h1,h2,h3⟩:=bI h;obtain ⟨h4,h5,_⟩:=bI h3;obtain ⟨m,rfl⟩:∃ m,n = m + 1:=⟨n - 1,by omega⟩;refine ⟨m,by omega,?_⟩;have k10:¬ ((c.toNat:Int) == 10) = true:=jV yl rfl;rw [bareF,if_neg (by omega),h2,if_neg (by decide),if_neg (by decide),if_pos (by rfl),if_neg (by omega),h5,yt,if_neg k10]
theorem PY {s:ByteArray} {d i j:Nat} {a:A} {x:List UInt8} {p:PL} (h:ag s i = 36 :: x) (WK:i < j) (hp:∀ n,s.size < i + n + 1→paramF n s false (d + 1) i = .ok p j):StepB s d i a j (a.add p):=fun n hn=>by
 obtain ⟨h1,h2,h3⟩:=bI h;obtain ⟨m,rfl⟩:∃ m,n = m + 1:=⟨n - 1,by omega⟩;refine ⟨m,by omega,?_⟩;rw [bareF,if_neg (by omega),h2,if_neg (by decide),if_neg (by decide),if_neg (by decide),if_neg (by decide),if_pos (by rfl),hp m (by omega)]
theorem P5 {s:ByteArray} {d i j:Nat} {a:A} {x z:List UInt8} {t o:ByteArray} {f:PL} (h:ag s i = 34 :: 36 :: x) (WK:i + 2 < j) (hj:ag s j = 34 :: z) (hp:∀ n,s.size < i + 1 + n + 1→paramF n s true (d + 1) (i + 1) = .ok (one 2 true t o f) j):StepB s d i a (j + 1) (a.add (one 2 true t o f)):=fun n hn=>by
 obtain ⟨h1,h2,h3⟩:=bI h;obtain ⟨h4,h5,_⟩:=bI h3;obtain ⟨h6,h7,_⟩:=bI hj;obtain ⟨m,rfl⟩:∃ m,n = m + 3:=⟨n - 3,by omega⟩;refine ⟨m + 2,by omega,?_⟩;rw [bareF,if_neg (by omega),h2,if_neg (by decide),if_pos (by rfl)];have hM:markedF (m + 2) s 34 d A0 (i + 1) = .ok (one 2 true t o f) j:=by
  rw [markedF,if_neg (by omega),h5,if_neg (by decide),if_neg (by decide),if_pos (by rfl),hp (m + 1) (by omega)];show markedF (m + 1) s 34 d (A0.add (one 2 true t o f)) j = _;rw [markedF,if_neg (by omega),h7,if_pos (by rfl)];rfl
 rw [hM];show (if s.size≤j then Out.bad i 1 else bareF (m + 2) s d (a.join (nz (one 2 true t o f))) (j + 1)) = _;rw [if_neg (by omega)];rfl
theorem P6 {s:ByteArray} {d i:Nat} {a:A} {c:UInt8} {x:List UInt8} (h:ag s i = c :: x) (he:qK c.toNat = false):lh s 125 d i a (i + 1) (a.text [c] true):=fun n hn=>by
 obtain ⟨h1,h2,h3⟩:=bI h;obtain ⟨m,rfl⟩:∃ m,n = m + 1:=⟨n - 1,by omega⟩;refine ⟨m,by omega,?_⟩;simp only [qK,Bool.or_eq_false_iff] at he;obtain ⟨⟨⟨⟨e1,e2⟩,e3⟩,e4⟩,e5⟩:=he;have e5':¬ ((c.toNat:Int) == ((125:Nat):Int)) = true:=by rw [Bool.not_eq_true];exact e5
 rw [markedF,if_neg (by omega),h2,if_neg e5',if_neg (by rw [e1,e4];decide),if_neg (by rw [e2];decide),if_neg (by rw [e3];decide)]
theorem P7 {s:ByteArray} {d i:Nat} {a:A} {c:UInt8} {x:List UInt8} (h:ag s i = 92 :: c :: x) (he:qK c.toNat = true):lh s 125 d i a (i + 2) (a.text [c] true):=fun n hn=>by
 obtain ⟨h1,h2,h3⟩:=bI h;obtain ⟨m,rfl⟩:∃ m,n = m + 1:=⟨n - 1,by omega⟩;refine ⟨m,by omega,?_⟩;have hs:dW 125 (c :: x) a = (a.text [c] true,2):=by
  unfold dW;have yl:seesB (c :: x) 10 = false:=by
   simp only [seesB,beq_eq_false_iff_ne];intro e;simp only [qK,Bool.or_eq_true,beq_iff_eq] at he;omega
  have ab4:(seesB (c :: x) 34 || seesB (c :: x) 36 || seesB (c :: x) 92 || seesB (c :: x) 96 || seesB (c :: x) 125) = true:=he;rw [yl,ab4];rfl
 rw [markedF,if_neg (by omega),h2,if_neg (by decide),if_neg (by decide),if_neg (by decide),if_pos (by rfl),h3,hs]
theorem P8 {s:ByteArray} {d i j:Nat} {a:A} {x:List UInt8} {p:PL} (h:ag s i = 36 :: x) (WK:i < j) (hp:∀ n,s.size < i + n + 1→paramF n s true (d + 1) i = .ok p j):lh s 125 d i a j (a.add p):=fun n hn=>by
 obtain ⟨h1,h2,h3⟩:=bI h;obtain ⟨m,rfl⟩:∃ m,n = m + 1:=⟨n - 1,by omega⟩;refine ⟨m,by omega,?_⟩;rw [markedF,if_neg (by omega),h2,if_neg (by decide),if_neg (by decide),if_pos (by rfl),hp m (by omega)]
theorem Cn {s:ByteArray} {d:Nat} (hd:∀ c:UInt8,gI c.toNat (yD d) = true→c ≠ 39∧c ≠ 34∧c ≠ 92∧c ≠ 96∧c ≠ 36∧ng d c.toNat = false):∀ (t x:List UInt8) (i:Nat) (a:A) (u:List UInt8),ag s i = t ++ x→(t.all fun c=>gI c.toNat (yD d)) = true →
  StepB s d i (a.text u false) (i + t.length) (a.text (u ++ t) false)
 | [],_,i,a,u,_,_=>by rw [List.append_nil];exact StepB.refl _ _ _ _
 | c :: t,x,i,a,u,h,ht=>by
  simp only [List.all_cons,Bool.and_eq_true] at ht;obtain ⟨g1,g2,g3,g4,g5,g6⟩:=hd c ht.1;have h1:=Gs (d:=d) (a:=a.text u false) h g1 g2 g3 g4 g5 g6;rw [tH] at h1;have h2:=Cn hd t x (i + 1) a (u ++ [c]) (bI h).2.2 ht.2;exact (h1.trans h2).cast (by simp;omega) (by simp)
theorem MU {s:ByteArray} {d:Nat} (hd:∀ c:UInt8,gI c.toNat (yD d) = true→c ≠ 39∧c ≠ 34∧c ≠ 92∧c ≠ 96∧c ≠ 36∧ng d c.toNat = false) {t x:List UInt8} {i:Nat} {a:A} (h:ag s i = t ++ x) (ht:dh false t (yD d) = true) :
  StepB s d i a (i + t.length) (a.text t false):=by
 simp only [dh,Bool.false_eq_true,if_false,Bool.and_eq_true] at ht;cases t with
 | nil=>simp at ht
 | cons c t =>
  have YM:=ht.1;simp only [List.all_cons,Bool.and_eq_true] at YM;obtain ⟨g1,g2,g3,g4,g5,g6⟩:=hd c YM.1;have h1:=Gs (d:=d) (a:=a) h g1 g2 g3 g4 g5 g6;have h2:=Cn hd t x (i + 1) a [c] (bI h).2.2 YM.2;exact (h1.trans h2).cast (by simp;omega) (by simp)
theorem K5:∀ t:List UInt8,∃ u r,t = u ++ r∧(39:UInt8) ∉ u∧(r = []∨∃ v,r = 39 :: v)
 | []=>⟨[],[],rfl,by simp,.inl rfl⟩
 | c :: t=>by
  by_cases hc:c = 39
  ·subst hc;exact ⟨[],39 :: t,rfl,by simp,.inr ⟨t,rfl⟩⟩
  ·obtain ⟨u,r,rfl,h1,h2⟩:=K5 t;refine ⟨c :: u,r,rfl,?_,h2⟩;simp only [List.mem_cons,not_or];exact ⟨fun e=>hc e.symm,h1⟩
theorem JG {s:ByteArray} {d:Nat}:∀ (n:Nat) (t x:List UInt8) (i:Nat) (a:A),t.length < n→ag s i = iP t ++ x→StepB s d i a (i + (iP t).length) (a.text t true):=by
 intro n
 induction n with
 | zero=>intro _ _ _ _ h;omega
 | succ n ih =>
  intro t x i a hn h;obtain ⟨u,r,rfl,hu,hr⟩:=K5 t;rcases hr with rfl | ⟨v,rfl⟩
  ·have hq:iP (u ++ []) = 39 :: (u ++ [39]):=by rw [List.append_nil,iP,ze hu]
   rw [hq] at h ⊢
   have:=xW (d:=d) (a:=a) (u:=u) (x:=x) (by simpa using h) hu;simpa [Nat.add_assoc] using this
  ·have hq:iP (u ++ 39 :: v) = 39 :: (u ++ 39 :: 92 :: 39 :: iP v):=by
    simp only [iP,iO,List.flatMap_append,List.flatMap_cons];have:=ze hu;unfold iO at this;rw [this];simp
   rw [hq] at h ⊢
   have h1:=xW (d:=d) (a:=a) (u:=u) (x:=92 :: 39 :: (iP v ++ x)) (by simpa using h) hu;have r1:ag s (i + u.length + 2) = 92 :: 39 :: (iP v ++ x):=by
    have:=jf (s:=s) (i:=i) (l:=39 :: (u ++ [39])) (x:=92 :: 39 :: (iP v ++ x)) (by simpa using h);simpa [Nat.add_assoc] using this
   have h2:=PX (d:=d) (a:=a.text u true) r1 (by decide);rw [tH] at h2;have r2:=(bI (bI r1).2.2).2.2;have h3:=ih v x (i + u.length + 2 + 1 + 1) (a.text (u ++ [39]) true) (by simp at hn;omega) r2;rw [tH] at h3;exact ((h1.trans h2).trans h3).cast (by simp;omega) (by simp)
theorem Gt {s:ByteArray} {d i:Nat} {a:A} {c:UInt8} {x:List UInt8} (h:ag s i = (if qK c.toNat then [92,c] else [c]) ++ x):lh s 125 d i a (i + (if qK c.toNat then [92,c] else [c]).length) (a.text [c] true):=by
 cases he:qK c.toNat
 ·rw [he] at h;exact P6 h he
 ·rw [he] at h;exact P7 h he
theorem Co {s:ByteArray} {d:Nat}:∀ (t x:List UInt8) (i:Nat) (a:A) (u:List UInt8),ag s i = oH t ++ x→lh s 125 d i (a.text u true) (i + (oH t).length) (a.text (u ++ t) true)
 | [],_,i,a,u,_=>by rw [List.append_nil];exact lh.refl _ _ _ _ _
 | c :: t,x,i,a,u,h=>by
  rw [Uq.pR,zq] at h;have h1:=Gt (d:=d) (a:=a.text u true) h;rw [tH] at h1;have h2:=Co (d:=d) t x _ a (u ++ [c]) (jf h);have:=h1.trans h2;rw [Uq.pR,zI,← Nat.add_assoc];simpa [zq] using this
theorem MV {s:ByteArray} {d i:Nat} {a:A} {t x:List UInt8} (h:ag s i = oH t ++ x) (ht:dh true t 2 = true):lh s 125 d i a (i + (oH t).length) (a.text t true):=by
 cases t with
 | nil=>simp [dh] at ht
 | cons c t =>
  rw [Uq.pR,zq] at h;have h1:=Gt (d:=d) (a:=a) h;have h2:=Co (d:=d) t x _ a [c] (jf h);have:=h1.trans h2;rw [Uq.pR,zI,← Nat.add_assoc];simpa using this
theorem JH (d:Nat) (c:UInt8) (h:gI c.toNat (yD d) = true):c ≠ 39∧c ≠ 34∧c ≠ 92∧c ≠ 96∧c ≠ 36∧ng d c.toNat = false:=by
 have aB:c.toNat < 256:=UInt8.toNat_lt c;have ab5:∀ n:Fin 256,gI n 0 = true→n.val ≠ 39∧n.val ≠ 34∧n.val ≠ 92∧n.val ≠ 96∧n.val ≠ 36∧nO n.val = true:=by decide +kernel
 have ab6:∀ n:Fin 256,gI n 1 = true→n.val ≠ 39∧n.val ≠ 34∧n.val ≠ 92∧n.val ≠ 96∧n.val ≠ 36∧n.val ≠ 125:=by decide +kernel
 have ne:∀ m:UInt8,c.toNat ≠ m.toNat→c ≠ m:=fun m h e=>h (by rw [e]);unfold yD at h;split at h
 ·rename_i hd;subst hd;obtain ⟨g1,g2,g3,g4,g5,g6⟩:=ab5 ⟨c.toNat,aB⟩ h;refine ⟨ne 39 g1,ne 34 g2,ne 92 g3,ne 96 g4,ne 36 g5,?_⟩;have g6':nO c.toNat = true:=g6;simp [ng,g6']
 ·rename_i hd;obtain ⟨g1,g2,g3,g4,g5,g6⟩:=ab6 ⟨c.toNat,aB⟩ h;refine ⟨ne 39 g1,ne 34 g2,ne 92 g3,ne 96 g4,ne 36 g5,?_⟩;have g6':c.toNat ≠ 125:=g6;simp only [ng,Bool.or_eq_false_iff,Bool.and_eq_false_iff];refine ⟨.inl ?_,.inr ?_⟩
  ·simp;omega
  ·simp only [beq_eq_false_iff_ne];omega
theorem DK {p:Nat→Bool}:∀ {t z:List UInt8},(t.all fun c=>p c.toNat) = true→(∀ c y,z = c :: y→p c.toNat = false)→runLen p (t ++ z) = t.length
 | [],z,_,h=>by
  cases z with
  | nil=>rfl
  | cons c y=>simp [runLen,h c y rfl]
 | c :: t,z,ht,h=>by
  simp only [List.all_cons,Bool.and_eq_true] at ht;simp only [List.cons_append,runLen,ht.1,if_true,DK ht.2 h,zz]
theorem Gu {t z:List UInt8} {d:Nat} (ht:iZ t = true) (hz:∃ c y,z = c :: y∧Uq.xV c = false) (hd:t.length≤d):aL (t ++ z) d = t.length:=by
 obtain ⟨cz,y,rfl,hcz⟩:=hz;have YN:iX cz.toNat = false∧eZ cz.toNat = false:=by simpa [Uq.xV] using hcz
 cases t with
 | nil=>exact absurd ht (by decide)
 | cons c t =>
  have LQ:=Uq.Gr ht;simp only [List.cons_append,aL];split
  ·rename_i hl;rcases LQ with ⟨_,h2⟩ | ⟨c',h2,h3⟩
   ·exact DK (t:=c :: t) (z:=cz :: y) (p:=Lx.mq) h2 (fun c' y' e=>by cases e;simp [Lx.mq,YN])
   ·cases h2;simp [Uq.xV,hl] at h3
  ·rename_i hl;have A9:iX c.toNat = false:=by simpa using hl
   have YO:bV (c :: t) = false:=by
    cases h:bV (c :: t)
    ·rfl
    ·simp only [bV,decide_eq_true_eq] at h;have:=h.2 0 (by simp);simp [okB,A9] at this
   split
   ·rename_i Rj;have KE:jI (c :: t) = false:=by
     cases h:jI (c :: t)
     ·rfl
     ·simp only [jI,Bool.or_eq_true,beq_iff_eq,List.cons.injEq] at h;rcases h with ((((h | h) | h) | h) | h) | h <;> (rw [h.1] at Rj;exact absurd Rj (by decide))
    have Tj:iA (c :: t) = true:=by simpa [iZ,YO,KE] using ht
    simp only [iA,Bool.and_eq_true] at Tj;have:=DK (t:=c :: t) (z:=cz :: y) (p:=eZ) Tj.2 (fun c' y' e=>by cases e;exact YN.2);simp only [List.cons_append] at this;rw [this];exact Nat.min_eq_left hd
   ·rename_i Rj;have Tj:iA (c :: t) = false:=by
     cases h:iA (c :: t)
     ·rfl
     ·simp only [iA,Bool.and_eq_true,nu,List.all_cons] at h;exact absurd h.2.1 Rj
    have KE:jI (c :: t) = true:=by simpa [iZ,YO,Tj] using ht
    have uC:t = []:=by
     simp only [jI,Bool.or_eq_true,beq_iff_eq,List.cons.injEq] at KE;rcases KE with ((((h | h) | h) | h) | h) | h <;> exact h.2
    subst uC;rw [if_pos ht];rfl
theorem MW {o F z:List UInt8} (ho:o ∈ Uq.Tg) (hF:o = []→F = []):gG (o ++ (F ++ 125 :: z)) = o.length:=by
 simp only [Uq.Tg,List.mem_cons,List.not_mem_nil,or_false] at ho;rcases ho with rfl | rfl | rfl | rfl | rfl | rfl | rfl | rfl | rfl
 ·rw [hF rfl];rfl
 all_goals rfl
theorem VZ {o:List UInt8} (ho:o ∈ Uq.Tg):xO o = isSet o:=by
 simp only [Uq.Tg,List.mem_cons,List.not_mem_nil,or_false] at ho;rcases ho with rfl | rfl | rfl | rfl | rfl | rfl | rfl | rfl | rfl
 all_goals rfl
theorem P9 {t o:List UInt8} (h:jZ t o = true) (hs:isSet o = true):bV t = true:=by
 unfold jZ at h;rwa [if_pos hs] at h
theorem JI {s:ByteArray} {q:Bool} {D i:Nat} {t o:ByteArray} {f:PL} {x:List UInt8} (hi:i≤s.size) (h:ag s i = 36 :: 123 :: (t.data.toList ++ (o.data.toList ++ (textL f (mX q) ++ 125 :: x)))) (hD:D≤200) (hn:jZ t.data.toList o.data.toList = true) (Cb:o.data.toList = []→f = .nil)
  (hf:∀ j n,ag s j = textL f (mX q) ++ 125 :: x→j≤s.size→s.size < j + n→(if q then markedF n s 125 D A0 j else bareF n s D A0 j) = .ok f (j + (textL f (mX q)).length)) (n:Nat) (bU:s.size < i + n + 1) :
  paramF n s q D i = .ok (one 2 q t o f) (i + (3 + t.data.toList.length + o.data.toList.length + (textL f (mX q)).length)):=by
 obtain ⟨h1,h2,h3⟩:=bI h;obtain ⟨h4,h5,h6⟩:=bI h3;obtain ⟨np,no⟩:=Uq.MS hn;have hF:o.data.toList = []→textL f (mX q) = []:=fun e=>by rw [Cb e];rfl
 have Xf:ag s (i + 2) = t.data.toList ++ (o.data.toList ++ (textL f (mX q) ++ 125 :: x)):=h6;have Uf:t.data.toList.length≤s.size:=by have:=qy Xf (by omega);omega
 have hnl:aL (ag s (i + 2)) s.size = t.data.toList.length:=by rw [Xf];exact Gu np (Uq.Ti no hF) Uf
 have h7:ag s (i + 2 + t.data.toList.length) = o.data.toList ++ (textL f (mX q) ++ 125 :: x):=jf Xf;have hol:gG (ag s (i + 2 + t.data.toList.length)) = o.data.toList.length:=by rw [h7];exact MW no hF
 have h8:ag s (i + 2 + t.data.toList.length + o.data.toList.length) = textL f (mX q) ++ 125 :: x:=jf h7;have l8:i + 2 + t.data.toList.length + o.data.toList.length≤s.size:=by have:=qy Xf (by omega);have:=qy h7 (by omega);omega
 have h9:ag s (i + 2 + t.data.toList.length + o.data.toList.length + (textL f (mX q)).length) = 125 :: x:=jf h8;have et:s.extract (i + 2) (i + 2 + t.data.toList.length) = t:=xe (by rw [iK,Xf,List.take_left]);have eo:s.extract (i + 2 + t.data.toList.length) (i + 2 + t.data.toList.length + o.data.toList.length) = o:=xe (by rw [iK,h7,List.take_left]);have tt:(ag s (i + 2)).take t.data.toList.length = t.data.toList:=by rw [Xf,List.take_left]
 have t2:(ag s (i + 2 + t.data.toList.length)).take o.data.toList.length = o.data.toList:=by rw [h7,List.take_left]
 obtain ⟨m,rfl⟩:∃ m,n = m + 1:=⟨n - 1,by omega⟩;rw [paramF,if_neg (by omega),if_pos (by rw [h3];rfl)];simp only [hnl,hol,tt,t2,et,eo]
 rw [if_neg (by
  rw [np,VZ no];intro hc;simp only [Bool.not_true,Bool.false_or,Bool.and_eq_true,Bool.not_eq_true'] at hc;rw [P9 hn hc.1] at hc
  cases hc.2)]
 by_cases ho:o.data.toList.length = 0
 ·have V3:o.data.toList = []:=List.length_eq_zero_iff.1 ho;have OA:=Cb V3;subst OA;have heo:o = ⟨#[]⟩:=xe V3;rw [if_pos ho,if_pos (by rw [h7,V3];rfl),heo];simp only [textL,zZ];show Out.ok _ _ = Out.ok _ _;congr 1;simp;omega
 ·rw [if_neg ho,hf _ m h8 l8 (by omega)];show (if seesB (ag s (i + 2 + t.data.toList.length + o.data.toList.length + (textL f (mX q)).length)) 125 = true then Out.ok (one 2 q t o f) (i + 2 + t.data.toList.length + o.data.toList.length + (textL f (mX q)).length + 1) else Out.bad i 1) = _;rw [h9,if_pos (by rfl)];congr 1;omega
theorem nY:∀ (m:PL) (p:Option (Int × Bool)) (a:A) (at' d:Nat),rightL p m at' d = true→(∀ q bs,a.cur = some (q,bs)→p = some (1,q))→(a.join m).flush = a.flush.app m
 | .nil,_,a,_,_,_,_=>by rw [A.join_nil,PL.KC]
 | .cons k q t o f r,p,a,at',d,h,hc=>by
  obtain ⟨_,hk,hr,hp⟩:=Uq.sF h;rw [A.join_cons];rcases hp with ⟨rfl,ho,rfl,_⟩ | ⟨rfl,_⟩
  ·have Z6:(a.text t.data.toList q).flush = a.flush.app (.cons 1 q t o .nil .nil)∧(a.text t.data.toList q).cur.map (·.1) = some q:=by
    have YP:A.lit q t.data.toList = .cons 1 q t o .nil .nil:=by
     rw [A.lit,vM,show o = ⟨#[]⟩ from xe ho]
    obtain ⟨l,cur⟩:=a
    match cur,hc with
    | none,_=>exact ⟨by rw [← YP];rfl,rfl⟩
    | some (q',bs),hc =>
     have hq:(q' == q) = false:=by
      cases hq:(q' == q)
      ·rfl
      ·obtain rfl:q' = q:=by simpa using hq
       exact absurd rfl (hk (hc _ _ rfl))
     have he:A.text ⟨l,some (q',bs)⟩ t.data.toList q = ⟨A.flush ⟨l,some (q',bs)⟩,some (q,t.data.toList)⟩:=by simp [A.text,A.begins,hq,A.bytes]
     rw [he];exact ⟨by rw [← YP];rfl,rfl⟩
   have aM:a.step 1 q t o .nil = a.text t.data.toList q:=by unfold A.step;rw [if_pos (by rfl)]
   rw [aM,nY r (some (1,q)) _ at' d hr (fun q' bs he=>by
    have:=Z6.2;rw [he] at this;simp only [Option.map_some,Option.some.injEq] at this
    rw [this]),Z6.1,PL.wO]
   rfl
  ·have aM:a.step 2 q t o f = a.add (one 2 q t o f):=by unfold A.step;rw [if_neg (by decide)]
   rw [aM,nY r (some (2,q)) _ at' d hr (fun q' bs he=>by cases he)];show (a.flush.app (one 2 q t o f)).app r = _;rw [PL.wO];rfl
theorem Qa:∀ l:PL,(∀ (s:ByteArray) (d i:Nat) (a:A) (x:List UInt8) (p:Option (Int × Bool)),rightL p l (yD d) (d + 1) = true→ag s i = textL l (yD d) ++ x→i≤s.size→StepB s d i a (i + (textL l (yD d)).length) (a.join l)) ∧
  (∀ (s:ByteArray) (d i:Nat) (a:A) (x:List UInt8) (p:Option (Int × Bool)),rightL p l 2 (d + 1) = true→ag s i = textL l 2 ++ x→i≤s.size→lh s 125 d i a (i + (textL l 2).length) (a.join l)):=by
 intro l
 induction l with
 | nil=>exact ⟨fun s d i a x p _ _ _=>StepB.refl _ _ _ _,fun s d i a x p _ _ _=>lh.refl _ _ _ _ _⟩
 | cons k q t o f r YQ SG =>
  have V4:∀ (s:ByteArray) (D i:Nat) (x:List UInt8),i≤s.size→ag s i = 36 :: 123 :: (t.data.toList ++ (o.data.toList ++ (textL f (mX q) ++ 125 :: x)))→gm 2 q t o f 0 D = true→0 < D→∀ n,s.size < i + n + 1 →
    paramF n s q D i = .ok (one 2 q t o f) (i + (3 + t.data.toList.length + o.data.toList.length + (textL f (mX q)).length)):=by
   intro s D i x hi h hp hD0 n hn;unfold gm at hp;simp only [if_neg (show ¬ (((2:Int) == 1) = true) by decide),if_pos (show ((2:Int) == 2) = true by decide),Bool.and_eq_true,decide_eq_true_eq,Bool.or_eq_true] at hp;obtain ⟨⟨⟨hD,LG⟩,Cb⟩,hrf⟩:=hp;refine JI hi h hD LG (fun e=>?_) (fun j n hj ET KF=>?_) n hn
   ·rcases Cb with h5 | h5
    ·simp [e] at h5
    ·exact Uq.len_nil h5
   ·have h9:=jf hj;obtain ⟨g1,g2,_⟩:=bI h9;cases q with
    | true =>
     obtain ⟨n',e1,e2⟩:=YQ.2 s D j A0 _ none hrf hj ET n KF;rw [if_pos rfl];show markedF n s 125 D A0 j = _;rw [e2]
     obtain ⟨m,rfl⟩:∃ m,n' = m + 1:=⟨n' - 1,by
      have:s.size < j + (textL f (mX true)).length + n':=e1
      omega⟩
     show markedF (m + 1) s 125 D (A0.join f) (j + (textL f (mX true)).length) = _;rw [markedF,if_neg (by omega),g2,if_pos (by rfl),nY f none A0 _ _ hrf (fun _ _ h=>by cases h)];rfl
    | false =>
     have Vn:yD D = 1:=if_neg (by omega);obtain ⟨n',e1,e2⟩:=YQ.1 s D j A0 (125 :: x) none (by rw [Vn];exact hrf) (by rw [Vn];exact hj) ET n KF;rw [Vn] at e1 e2;rw [if_neg (by decide)];show bareF n s D A0 j = _;rw [e2]
     obtain ⟨m,rfl⟩:∃ m,n' = m + 1:=⟨n' - 1,by
      have:s.size < j + (textL f (mX false)).length + n':=e1
      omega⟩
     show bareF (m + 1) s D (A0.join f) (j + (textL f (mX false)).length) = _;rw [bareF,if_neg (by omega),g2,if_neg (by decide),if_neg (by decide),if_neg (by decide),if_neg (by decide),if_neg (by decide),if_pos (by simp [ng,hD0]),nY f none A0 _ _ hrf (fun _ _ h=>by cases h)];rfl
  refine ⟨?_,?_⟩
  ·intro s d i a x p h hr hi;rw [jL] at h;simp only [Bool.and_eq_true] at h;obtain ⟨⟨⟨_,_⟩,hp⟩,Pg⟩:=h;rw [iQ,zq] at hr;rw [iQ,zI,← Nat.add_assoc,A.join_cons];have nR:=jf hr;refine StepB.trans ?_ (SG.1 s d _ _ x _ Pg nR (qy hr hi));cases hk:(k == 1)
   ·obtain ⟨rfl,lF⟩:=zB hk hp;have aM:a.step 2 q t o f = a.add (one 2 q t o f):=by unfold A.step;rw [if_neg (by decide)]
    rw [aM];cases q with
    | false =>
     have Me:partT 2 false t o f (yD d) = 36 :: 123 :: (t.data.toList ++ (o.data.toList ++ (textL f (mX false) ++ [125]))):=by simp [partT,kD]
     rw [Me] at hr ⊢
     have mE:ag s i = 36 :: 123 :: (t.data.toList ++ (o.data.toList ++ (textL f (mX false) ++ 125 :: (textL r (yD d) ++ x)))):=by rw [hr];simp
     have:=PY (a:=a) (d:=d) mE (by omega) (V4 s (d + 1) i _ hi mE lF (by omega));exact this.cast (by simp;omega) rfl
    | true =>
     have Me:partT 2 true t o f (yD d) = 34 :: 36 :: 123 :: (t.data.toList ++ (o.data.toList ++ (textL f (mX true) ++ [125,34]))):=by
      have:=Jt d;simp [partT,kD,this]
     rw [Me] at hr ⊢
     have mE:ag s i = 34 :: 36 :: 123 :: (t.data.toList ++ (o.data.toList ++ (textL f (mX true) ++ 125 :: 34 :: (textL r (yD d) ++ x)))):=by rw [hr];simp
     obtain ⟨g1,_,g3⟩:=bI mE;have hP:=V4 s (d + 1) (i + 1) _ (by omega) g3 lF (by omega);have hj:ag s (i + 1 + (3 + t.data.toList.length + o.data.toList.length + (textL f (mX true)).length)) = 34 :: (textL r (yD d) ++ x):=by
      have:=jf (s:=s) (i:=i + 1) (l:=36 :: 123 :: (t.data.toList ++ (o.data.toList ++ (textL f (mX true) ++ [125])))) (x:=34 :: (textL r (yD d) ++ x)) (by rw [g3];simp);rw [← this];congr 1;simp;omega
     have:=P5 (a:=a) (d:=d) mE (by omega) hj hP;exact this.cast (by simp;omega) rfl
   ·obtain rfl:k = 1:=by simpa using hk
    have aM:a.step 1 q t o f = a.text t.data.toList q:=by unfold A.step;rw [if_pos (by rfl)]
    rw [aM];unfold gm at hp;simp only [if_pos (show ((1:Int) == 1) = true by decide),Bool.and_eq_true] at hp;have Me:partT 1 q t o f (yD d) = if q then iP t.data.toList else t.data.toList:=by
     simp [partT,Jt d]
    rw [Me] at hr ⊢
    cases q with
    | false=>exact MU (JH d) hr hp.2
    | true=>exact JG _ _ _ _ _ (Nat.lt_succ_self _) hr
  ·intro s d i a x p h hr hi;rw [jL] at h;simp only [Bool.and_eq_true,Bool.not_eq_true'] at h;obtain ⟨⟨⟨hq,_⟩,hp⟩,Pg⟩:=h;obtain rfl:q = true:=by cases q <;> simp_all
   rw [iQ,zq] at hr;rw [iQ,zI,← Nat.add_assoc,A.join_cons];have nR:=jf hr;refine lh.trans ?_ (SG.2 s d _ _ x _ Pg nR (qy hr hi));cases hk:(k == 1)
   ·obtain ⟨rfl,lF⟩:=zB hk hp;have aM:a.step 2 true t o f = a.add (one 2 true t o f):=by unfold A.step;rw [if_neg (by decide)]
    rw [aM];have Me:partT 2 true t o f 2 = 36 :: 123 :: (t.data.toList ++ (o.data.toList ++ (textL f (mX true) ++ [125]))):=by simp [partT,kD]
    rw [Me] at hr ⊢
    have mE:ag s i = 36 :: 123 :: (t.data.toList ++ (o.data.toList ++ (textL f (mX true) ++ 125 :: (textL r 2 ++ x)))):=by rw [hr];simp
    have:=P8 (a:=a) (d:=d) mE (by omega) (V4 s (d + 1) i _ hi mE lF (by omega));exact this.cast (by simp;omega) rfl
   ·obtain rfl:k = 1:=by simpa using hk
    have aM:a.step 1 true t o f = a.text t.data.toList true:=by unfold A.step;rw [if_pos (by rfl)]
    rw [aM];unfold gm at hp;simp only [if_pos (show ((1:Int) == 1) = true by decide),Bool.and_eq_true] at hp;have Me:partT 1 true t o f 2 = oH t.data.toList:=by simp [partT]
    rw [Me] at hr ⊢
    exact MV hr hp.2
theorem JJ:∀ n:Fin 256,nO n = true→jE n = false∧n.val ≠ 10∧lL n = false∧n.val ≠ 92:=by decide +kernel
theorem qz {w:PL} (h:aG w = true) (x:List UInt8):∃ c z,textL w 0 ++ x = c :: z∧jE c.toNat = false∧c ≠ 92∧c ≠ 35∧c ≠ 10∧lL c.toNat = false:=by
 cases w with
 | nil=>cases h
 | cons k q t o f r =>
  simp only [aG,Bool.and_eq_true,Bool.not_eq_true'] at h;obtain ⟨yE,hr⟩:=h;obtain ⟨c,z,e,hc⟩:=Uq.first x hr;refine ⟨c,z,e,?_⟩;have UH:∀ c:UInt8,(c = 34∨c = 36∨c = 39)→jE c.toNat = false∧c ≠ 92∧c ≠ 35∧c ≠ 10∧lL c.toNat = false:=by
   intro c hc;rcases hc with rfl | rfl | rfl <;> decide
  rcases hc with ⟨_,h⟩ | ⟨_,n,_⟩ | ⟨_,_,_,h⟩ | ⟨e1,_,e2,h⟩
  ·refine UH c ?_;split at h
   ·exact .inl h
   ·exact .inr (.inl h)
  ·cases n
  ·exact UH c (.inr (.inr h))
  ·subst e1 e2;have hb:nO c.toNat = true:=by simpa [gI] using h
   obtain ⟨g1,g2,g3,g4⟩:=JJ ⟨c.toNat,UInt8.toNat_lt c⟩ hb;have ne:∀ m:UInt8,c.toNat ≠ m.toNat→c ≠ m:=fun m h e=>h (by rw [e]);refine ⟨g1,ne 92 g4,?_,ne 10 g2,g3⟩;obtain ⟨_,_,_,hp⟩:=Uq.sF hr;rcases hp with ⟨_,_,_,ht⟩ | ⟨hk,_⟩
   ·rw [iQ] at e;have Me:partT 1 false t o f 0 = t.data.toList:=by simp [partT]
    rw [Me] at e;cases hl:t.data.toList with
    | nil=>rw [hl] at ht;simp [dh] at ht
    | cons c' t' =>
     rw [hl] at e yE;have hcc:c' = c:=(List.cons.inj e).1;subst hcc;rintro rfl;simp [Lib.hasPrefix,List.isPrefixOf] at yE
   ·cases hk
theorem zQ {s:ByteArray} {j:Nat} (h:s.size≤j):∀ n,aheadF n s j = j
 | 0=>rfl
 | n + 1=>by rw [aheadF,if_pos h]
theorem zR {s:ByteArray} {j:Nat} {c:UInt8} {z:List UInt8} (h:ag s j = c :: z) (hb:jE c.toNat = false) (oV:c ≠ 92) (yE:c ≠ 35):∀ n,aheadF n s j = j
 | 0=>rfl
 | n + 1=>by
  obtain ⟨h1,h2,_⟩:=bI h;have k35:¬ ((c.toNat:Int) == 35) = true:=jV yE rfl;have Xb:((c.toNat:Int) == 92) = false:=by rw [← Bool.not_eq_true];exact jV oV rfl
  rw [aheadF,if_neg (by omega),h2,if_neg (by rw [hb];decide),if_neg (by rw [zD h1,h2,Xb];simp),if_neg k35]
theorem Gv {s:ByteArray} {j:Nat} {z:List UInt8} (h:ag s j = 32 :: z) (n:Nat):aheadF (n + 1) s j = aheadF n s (j + 1):=by
 obtain ⟨h1,h2,_⟩:=bI h;rw [aheadF,if_neg (by omega),h2,if_pos (by decide)]
theorem kM:∀ a:PL,same a a = true:=by
 intro a
 induction a with
 | nil=>rfl
 | cons k q t o f r YQ SG=>simp [same,YQ,SG]
end Lx
end Go.Proofs.YtckakkeejekibaaGreatDoor
