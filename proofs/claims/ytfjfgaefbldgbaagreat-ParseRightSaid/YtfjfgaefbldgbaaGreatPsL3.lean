/- A token is what it is, whatever stands behind a line feed behind the text. Pure. -/
/- A token that is none of the end is the same token, whatever stands behind a line feed. Pure. -/
/- What is wrong ahead of the end is wrong, whatever stands behind a line feed. Pure. -/
import Derived.Test.YtfjfgaefbldgbaaGreatPsT
import Derived.Test.YtfjfgaefbldgbaaGreatPsR3
namespace Go.Proofs.YtfjfgaefbldgbaaGreat
open Go.RowKit Go.Sort
namespace Lx
open Cls Pt
def Ext (s s':ByteArray) (m:List UInt8):Prop:=s'.data.toList = s.data.toList ++ 10 :: m
section
variable {s s':ByteArray} {m:List UInt8}
theorem Ext.size (h:Ext s s' m):s'.size = s.size + 1 + m.length:=by
 have:=congrArg List.length h
 rw [lenB,List.length_append,lenB,List.length_cons] at this
 omega
theorem Ext.rest (h:Ext s s' m) {i:Nat} (hi:i≤s.size):restAt s' i = restAt s i ++ 10 :: m:=by
 unfold restAt
 rw [h,List.drop_append_of_le_length (by rw [lenB];exact hi)]
theorem Ext.byte (h:Ext s s' m) {i:Nat} (hi:i < s.size):byteAt s' i = byteAt s i:=by
 unfold byteAt
 rw [h,List.getD_eq_getElem?_getD,List.getD_eq_getElem?_getD,List.getElem?_append_left (by rw [lenB];exact hi)]
theorem Ext.last (h:Ext s s' m):byteAt s' s.size = 10:=by
 unfold byteAt
 rw [h,List.getD_eq_getElem?_getD,List.getElem?_append_right (by rw [lenB];exact Nat.le_refl _),lenB,Nat.sub_self]
 rfl
theorem Ext.extract (h:Ext s s' m) {a b:Nat} (hb:b≤s.size):s'.extract a b = s.extract a b:=by
 have e:∀ x y:ByteArray,x.data.toList = y.data.toList→x = y:=fun x y hxy=>by
  cases x;cases y
  simp only [ByteArray.mk.injEq]
  exact Array.ext' hxy
 apply e
 rw [Lib.extract_data,Lib.extract_data,h]
 by_cases ha:a≤s.size
 ·rw [List.drop_append_of_le_length (by rw [lenB];exact ha),List.take_append_of_le_length (by rw [List.length_drop,lenB];omega)]
 ·rw [show b - a = 0 by omega,List.take_zero,List.take_zero]
end
theorem run_ext (p:Nat→Bool) (hp:p 10 = false) (m:List UInt8):∀ l,runLen p (l ++ 10 :: m) = runLen p l
 | []=>by
  show (if p (10:UInt8).toNat = true then runLen p m + 1 else 0) = 0
  rw [show (10:UInt8).toNat = 10 from rfl,hp]
  rfl
 | c :: l=>by
  simp only [List.cons_append,runLen,run_ext p hp m l]
theorem name_ext (l m:List UInt8) (d d':Nat) (h:d = d'∨(l.length≤d∧l.length≤d')):nameLen (l ++ 10 :: m) d' = nameLen l d:=by
 cases l with
 | nil=>rfl
 | cons c l =>
  show (if letterB c.toNat then runLen wordB ((c :: l) ++ 10 :: m) else if digitB c.toNat then min (runLen digitB ((c :: l) ++ 10 :: m)) d' else if paramL [c] then 1 else 0) = (if letterB c.toNat then runLen wordB (c :: l) else if digitB c.toNat then min (runLen digitB (c :: l)) d else if paramL [c] then 1 else 0)
  rw [run_ext wordB rfl,run_ext digitB rfl]
  have hr:=runLen_le digitB (c :: l)
  split
  ·rfl
  ·split
   ·rcases h with h | h
    ·rw [h]
    ·omega
   ·rfl
theorem op_ext (l m:List UInt8):opLen (l ++ 10 :: m) = opLen l:=by
 cases l with
 | nil=>rfl
 | cons c l =>
  cases l with
  | nil =>
   show (if (c.toNat:Int) == 58 then (if opB (10:UInt8).toNat then 2 else 0) else if opB c.toNat then 1 else 0) = (if (c.toNat:Int) == 58 then 0 else if opB c.toNat then 1 else 0)
   rw [if_neg (by decide:¬ opB (10:UInt8).toNat = true)]
  | cons c2 l=>rfl
theorem sees_ext (l m:List UInt8) (c:Nat) (hc:c ≠ 10):seesB (l ++ 10 :: m) c = seesB l c:=by
 cases l with
 | nil =>
  show (((10:UInt8).toNat:Int) == (c:Int)) = false
  rw [beq_eq_false_iff_ne]
  show ((10:Nat):Int) ≠ (c:Int)
  omega
 | cons x l=>rfl
theorem index_ext (c:UInt8) (r:List UInt8):∀ l,0≤Lib.indexByte l c→Lib.indexByte (l ++ r) c = Lib.indexByte l c
 | [],h=>by simp [Lib.indexByte] at h
 | x :: l,h=>by
  have ih:=index_ext c r l
  simp only [List.cons_append,Lib.indexByte] at h ⊢
  split
  ·rfl
  ·rename_i hx
   rw [if_neg hx] at h
   split at h
   ·omega
   ·rename_i hn
    have hn2:Lib.indexByte l c ≠ -1:=by simpa using hn
    have hge:=Lib.indexByte_ge l c
    have h0:0≤Lib.indexByte l c:=by omega
    rw [ih h0]
theorem slash_ext (l m:List UInt8) (ec:Nat) (a:A) (hl:l ≠ []):slashR ec (l ++ 10 :: m) a = slashR ec l a:=by
 cases l with
 | nil=>exact absurd rfl hl
 | cons c l=>rfl
set_option maxRecDepth 100000 in
theorem read_ext {s s':ByteArray} {m:List UInt8} (hx:Ext s s' m):∀ n n',n≤n' →
  (∀ (ec d:Nat) (a:A) (i j:Nat) (l:PL),markedF n s ec d a i = .ok l j→i≤s.size→j < s.size→markedF n' s' ec d a i = .ok l j) ∧
  (∀ (d:Nat) (a:A) (i j:Nat) (l:PL),bareF n s d a i = .ok l j→i≤s.size→(d = 0∨j < s.size)→bareF n' s' d a i = .ok l j) ∧
  (∀ (q:Bool) (d i j:Nat) (p:PL),paramF n s q d i = .ok p j→i < s.size→paramF n' s' q d i = .ok p j):=by
 have hsz:=hx.size
 intro n
 induction n with
 | zero=>exact fun n' _=>⟨fun _ _ _ _ _ _ h=>by simp [markedF] at h,fun _ _ _ _ _ h=>by simp [bareF] at h,fun _ _ _ _ _ h=>by simp [paramF] at h⟩
 | succ n ih =>
  intro n' hn
  obtain ⟨n',rfl⟩:∃ k,n' = k + 1:=⟨n' - 1,by omega⟩
  obtain ⟨ihm,ihb,ihp⟩:=ih n' (by omega)
  have hends:=ends_ft s n
  refine ⟨?_,?_,?_⟩
  ·intro ec d a i j l h hi hj
   rw [markedF] at h
   split at h
   ·cases h;omega
   ·rename_i hlt
    have hb:=hx.byte (show i < s.size by omega)
    rw [markedF,if_neg (by omega),hb]
    split at h
    ·rename_i h1
     cases h
     rw [if_pos h1]
    ·rename_i h1
     rw [if_neg h1]
     split at h
     ·cases h
     ·rename_i h2
      rw [if_neg h2]
      split at h
      ·rename_i h3
       rw [if_pos h3]
       split at h
       ·cases h
       ·rename_i p j' hp
        have e1:=hends.2.2 _ _ _ _ _ hp (by omega)
        rw [ihp _ _ _ _ _ hp (by omega)]
        exact ihm _ _ _ _ _ _ h e1.2.1 hj
      ·rename_i h3
       rw [if_neg h3]
       split at h
       ·rename_i h4
        rw [if_pos h4]
        obtain ⟨k1,k2,k3⟩:=slash_ft (ec:=ec) (a:=a) (show i < s.size by omega)
        have e1:=hends.1 _ _ _ _ _ _ h k2
        have hne:restAt s (i + 1) ≠ []:=fun e=>by
         have:=congrArg List.length e
         rw [restAt_len] at this
         simp only [List.length_nil] at this
         omega
        rw [hx.rest (show i + 1≤s.size by omega),slash_ext _ _ _ _ hne]
        exact ihm _ _ _ _ _ _ h k2 hj
       ·rename_i h4
        rw [if_neg h4]
        exact ihm _ _ _ _ _ _ h (by omega) hj
  ·intro d a i j l h hi hj
   rw [bareF] at h
   split at h
   ·rename_i hge
    cases h
    obtain rfl:i = s.size:=by omega
    have hd:d = 0:=by omega
    subst hd
    rw [bareF,if_neg (by omega),hx.last]
    rfl
   ·rename_i hlt
    have hb:=hx.byte (show i < s.size by omega)
    rw [bareF,if_neg (by omega),hb]
    split at h
    ·rename_i h1
     rw [if_pos h1]
     split at h
     ·rename_i h0
      have hk:(Lib.indexByte (restAt s (i + 1)) 39).toNat < (restAt s (i + 1)).length:=by
       have:=(Lib.indexByte_some (l:=restAt s (i + 1)) (c:=39) (o:=(Lib.indexByte (restAt s (i + 1)) 39).toNat) (by omega)).1
       exact (List.getElem?_eq_some_iff.1 this).1
      have hk2:=hk
      rw [restAt_len] at hk2
      rw [hx.rest (show i + 1≤s.size by omega),index_ext _ _ _ h0,if_pos h0,List.take_append_of_le_length (Nat.le_of_lt hk)]
      exact ihb _ _ _ _ _ h (by omega) hj
     ·cases h
    ·rename_i h1
     rw [if_neg h1]
     split at h
     ·rename_i h2
      rw [if_pos h2]
      split at h
      ·cases h
      ·rename_i mm j' hm
       split at h
       ·cases h
       ·rename_i hj'
        have e1:=hends.1 _ _ _ _ _ _ hm (by omega)
        rw [ihm _ _ _ _ _ _ hm (by omega) (by omega)]
        simp only []
        rw [if_neg (by omega)]
        exact ihb _ _ _ _ _ h (by omega) hj
     ·rename_i h2
      rw [if_neg h2]
      split at h
      ·rename_i h3
       rw [if_pos h3]
       split at h
       ·cases h
       ·rename_i h4
        rw [if_neg (by omega),hx.byte (show i + 1 < s.size by omega)]
        exact ihb _ _ _ _ _ h (by omega) hj
      ·rename_i h3
       rw [if_neg h3]
       split at h
       ·cases h
       ·rename_i h4
        rw [if_neg h4]
        split at h
        ·rename_i h5
         rw [if_pos h5]
         split at h
         ·cases h
         ·rename_i p j' hp
          have e1:=hends.2.2 _ _ _ _ _ hp (by omega)
          rw [ihp _ _ _ _ _ hp (by omega)]
          exact ihb _ _ _ _ _ h e1.2.1 hj
        ·rename_i h5
         rw [if_neg h5]
         split at h
         ·rename_i h6
          cases h
          rw [if_pos h6]
         ·rename_i h6
          rw [if_neg h6]
          exact ihb _ _ _ _ _ h (by omega) hj
  ·intro q d i j p h hi
   rw [paramF] at h ⊢
   split at h
   ·cases h
   ·rename_i h200
    rw [if_neg h200,hx.rest (show i + 1≤s.size by omega),sees_ext _ _ _ (by decide)]
    split at h
    ·rename_i hsee
     have h1:=sees_lt hsee
     have hnl:=nameLen_le (restAt s (i + 2)) s.size
     rw [restAt_len] at hnl
     have hol:=opLen_le (restAt s (i + 2 + nameLen (restAt s (i + 2)) s.size))
     rw [restAt_len] at hol
     have hlen:=restAt_len s (i + 2)
     have hne:nameLen (restAt s' (i + 2)) s'.size = nameLen (restAt s (i + 2)) s.size:=by
      rw [hx.rest (show i + 2≤s.size by omega)]
      exact name_ext _ _ _ _ (.inr ⟨by omega,by omega⟩)
     rw [if_pos hsee,hne,hx.rest (show i + 2≤s.size by omega),List.take_append_of_le_length (by rw [restAt_len];exact hnl),hx.rest (show i + 2 + nameLen (restAt s (i + 2)) s.size≤s.size by omega),op_ext,sees_ext _ _ _ (by decide),List.take_append_of_le_length (by rw [restAt_len];exact hol)]
     split at h
     ·cases h
     ·rename_i h2
      rw [if_neg h2]
      split at h
      ·rename_i h3
       rw [if_pos h3]
       split at h
       ·rename_i h4
        cases h
        rw [if_pos h4,hx.extract (by omega)]
       ·cases h
      ·rename_i h3
       rw [if_neg h3]
       split at h
       ·cases h
       ·rename_i f j' hm
        split at h
        ·rename_i h5
         have h6:=sees_lt h5
         cases h
         have hm':(if q = true then markedF n' s' 125 d A0 (i + 2 + nameLen (restAt s (i + 2)) s.size + opLen (restAt s (i + 2 + nameLen (restAt s (i + 2)) s.size))) else bareF n' s' d A0 (i + 2 + nameLen (restAt s (i + 2)) s.size + opLen (restAt s (i + 2 + nameLen (restAt s (i + 2)) s.size)))) = .ok f j':=by
          cases q with
          | true=>exact ihm _ _ _ _ _ _ hm (by omega) h6
          | false=>exact ihb _ _ _ _ _ hm (by omega) (.inr h6)
         rw [hm']
         simp only []
         rw [hx.rest (show j'≤s.size by omega),sees_ext _ _ _ (by decide),if_pos h5,hx.extract (by omega),hx.extract (by omega)]
        ·cases h
    ·rename_i hsee
     rw [if_neg hsee,name_ext _ _ 1 1 (.inl rfl)]
     split at h
     ·cases h
     ·rename_i h0
      have hnl:=nameLen_le (restAt s (i + 1)) 1
      rw [restAt_len] at hnl
      cases h
      rw [if_neg h0,hx.extract (by omega)]
theorem prefix_ext (l m:List UInt8) (h:¬ l = [92]):Lib.hasPrefix (l ++ 10 :: m) [92,10] = Lib.hasPrefix l [92,10]:=by
 cases l with
 | nil=>simp [Lib.hasPrefix,List.isPrefixOf]
 | cons c l =>
  cases l with
  | nil =>
   have hc:c ≠ 92:=fun e=>h (by rw [e])
   have e:((92:UInt8) == c) = false:=by simp [Ne.symm hc]
   simp [Lib.hasPrefix,List.isPrefixOf,e]
  | cons c2 l=>simp [Lib.hasPrefix,List.isPrefixOf]
theorem ahead_ext {s s':ByteArray} {m:List UInt8} (hx:Ext s s' m):∀ n n' i,n≤n'→i≤s.size→aheadF n s i < s.size→(byteAt s (aheadF n s i) ≠ 92∨aheadF n s i + 1 < s.size)→s.size < i + n→aheadF n' s' i = aheadF n s i:=by
 have hsz:=hx.size
 intro n
 induction n with
 | zero=>intro n' i _ _ _ _ h;omega
 | succ n ih =>
  intro n' i hn hi hlt h92 hfu
  obtain ⟨n',rfl⟩:∃ k,n' = k + 1:=⟨n' - 1,by omega⟩
  rw [aheadF] at hlt h92 ⊢
  rw [aheadF]
  split at hlt
  ·omega
  ·rename_i h0
   rw [if_neg h0] at h92
   rw [if_neg (by omega),if_neg h0,hx.byte (show i < s.size by omega)]
   split at hlt
   ·rename_i h1
    rw [if_pos h1] at h92 ⊢
    rw [if_pos h1]
    exact ih n' _ (by omega) (by omega) hlt h92 (by omega)
   ·rename_i h1
    rw [if_neg h1] at h92 ⊢
    rw [if_neg h1]
    by_cases hl:restAt s i = [92]
    · -- the last byte alone
     exfalso
     have hlen:=congrArg List.length hl
     rw [restAt_len] at hlen
     simp only [List.length_singleton] at hlen
     have hb:byteAt s i = 92:=by
      have:=restAt_cons (show i < s.size by omega)
      rw [hl] at this
      simp only [List.cons.injEq] at this
      exact this.1.symm
     have hp:Lib.hasPrefix (restAt s i) [92,10] = false:=by rw [hl];decide
     rw [hp,if_neg (show ¬ false = true by decide),if_neg (show ¬ (((byteAt s i).toNat:Int) == 35) = true by rw [hb];decide)] at h92
     rcases h92 with h92 | h92
     ·exact h92 hb
     ·omega
    ·rw [hx.rest (show i≤s.size by omega),prefix_ext _ _ hl]
     split at hlt
     ·rename_i h2
      rw [if_pos h2] at h92 ⊢
      rw [if_pos h2]
      have h2l:i + 2≤s.size:=by
       have h3:(restAt s i).length ≥ 2:=by
        cases hr:restAt s i with
        | nil=>rw [hr] at h2;simp [Lib.hasPrefix] at h2
        | cons c l =>
         cases l with
         | nil=>rw [hr] at h2;simp [Lib.hasPrefix] at h2
         | cons c2 l=>simp
       rw [restAt_len] at h3
       omega
      exact ih n' _ (by omega) h2l hlt h92 (by omega)
     ·rename_i h2
      rw [if_neg h2] at h92 ⊢
      rw [if_neg h2]
      split at hlt
      ·rename_i h3
       rw [if_pos h3] at h92 ⊢
       rw [if_pos h3]
       split at hlt
       ·rename_i h4
        rw [if_pos h4] at h92 ⊢
        rw [index_ext _ _ _ h4,if_pos h4]
        have hk:(Lib.indexByte (restAt s i) 10).toNat < (restAt s i).length:=by
         have:=(Lib.indexByte_some (l:=restAt s i) (c:=10) (o:=(Lib.indexByte (restAt s i) 10).toNat) (by omega)).1
         exact (List.getElem?_eq_some_iff.1 this).1
        rw [restAt_len] at hk
        have hpos:(Lib.indexByte (restAt s i) 10).toNat ≠ 0:=fun e=>by
         have h5:=(Lib.indexByte_some (l:=restAt s i) (c:=10) (o:=(Lib.indexByte (restAt s i) 10).toNat) (by omega)).1
         rw [e,restAt_cons (show i < s.size by omega)] at h5
         simp only [List.getElem?_cons_zero,Option.some.injEq] at h5
         have h6:byteAt s i = 10:=h5
         rw [h6] at h3
         revert h3
         decide
        exact ih n' _ (by omega) (by omega) hlt h92 (by omega)
       ·omega
      ·rename_i h3
       rw [if_neg h3,if_neg h3]
end Lx
end Go.Proofs.YtfjfgaefbldgbaaGreat
namespace Go.Proofs.YtfjfgaefbldgbaaGreat
open Go.RowKit Go.Sort
namespace Lx
open Cls Pt
theorem sign_ext (l m:List UInt8) (hl:l ≠ []):signLen (l ++ 10 :: m) = signLen l:=by
 unfold signLen
 cases l with
 | nil=>exact absurd rfl hl
 | cons c l =>
  cases l with
  | nil =>
   have h1:min 2 ([c] ++ 10 :: m).length = 2:=by simp
   have h2:signIs [c,10] = false:=by simp [signIs]
   rw [h1]
   show (if signIs [c,10] = true then 2 else signDown ([c] ++ 10 :: m) 1) = signDown [c] 1
   rw [h2,if_neg (by decide)]
   rfl
  | cons c2 l =>
   have h1:min 2 ((c :: c2 :: l) ++ 10 :: m).length = 2:=by simp
   have h2:min 2 (c :: c2 :: l).length = 2:=by simp
   rw [h1,h2]
   rfl
theorem bytes_ext {x y:ByteArray} (h:x.data.toList = y.data.toList):x = y:=by
 cases x;cases y
 simp only [ByteArray.mk.injEq]
 exact Array.ext' h
theorem tokF_ext {s s':ByteArray} {m:List UInt8} (hx:Ext s s' m) {i:Nat} (hi:i < s.size) (h5:(tokF s i).k ≠ 5):tokF s' i = tokF s i:=by
 have hsz:=hx.size
 unfold tokF at h5 ⊢
 rw [if_neg (show ¬ s.size≤i by omega)] at h5
 rw [if_neg (show ¬ s.size≤i by omega),if_neg (show ¬ s'.size≤i by omega),hx.byte hi]
 split
 ·rfl
 ·rename_i h1
  rw [if_neg h1] at h5
  have hne:restAt s i ≠ []:=by rw [restAt_cons hi];exact List.cons_ne_nil _ _
  split
  ·rename_i h2
   rw [if_pos h2] at h5
   rw [hx.rest (show i≤s.size by omega),sign_ext _ _ hne]
   split
   ·rename_i h3
    rw [if_pos h3] at h5
   ·have hle:i + signLen (restAt s i)≤s.size:=by
     have:=signDown_le (restAt s i) (min 2 (restAt s i).length)
     unfold signLen
     have hl:=restAt_len s i
     omega
    have e:(s'.extract i s'.size).extract 0 (signLen (restAt s i)) = (s.extract i s.size).extract 0 (signLen (restAt s i)):=by
     have e1:∀ (x:ByteArray) (k:Nat),i + k≤x.size→(x.extract i x.size).extract 0 k = x.extract i (i + k):=fun x k hk=>by
      apply bytes_ext
      rw [Lib.extract_data,Lib.extract_data,Lib.extract_data,List.drop_zero,List.take_take]
      congr 1
      omega
     rw [e1 s' _ (by omega),e1 s _ hle,hx.extract hle]
    rw [e]
  ·rename_i h2
   rw [if_neg h2] at h5
   have hr:=(read_ext hx (s.size + 1) (s'.size + 1) (by omega)).2.1 0 A0 i
   cases hb:bareF (s.size + 1) s 0 A0 i with
   | ok l j=>rw [hr j l hb (by omega) (.inl rfl)]
   | bad j e =>
    rw [hb] at h5
    exact absurd rfl h5
theorem last_bad {s:ByteArray} {i:Nat} (hi:i + 1 = s.size) (h:byteAt s i = 92):(tokF s i).k = 5:=by
 unfold tokF
 rw [if_neg (by omega),h,if_neg (by decide),if_neg (by decide),bareF,if_neg (by omega),h,if_neg (by decide),if_neg (by decide),if_pos (by decide),if_pos (by omega)]
theorem tok_ext {s s':ByteArray} {m:List UInt8} (hx:Ext s s' m) {i:Nat} (hi:i≤s.size) (h4:(tokAt s i).k ≠ 4) (h5:(tokAt s i).k ≠ 5):tokAt s' i = tokAt s i:=by
 have hsz:=hx.size
 have ha:aheadF (s.size + 1) s i < s.size:=by
  refine Classical.byContradiction fun hn=>h4 ?_
  unfold tokAt tokF
  rw [if_pos (by omega)]
 have hb:byteAt s (aheadF (s.size + 1) s i) ≠ 92∨aheadF (s.size + 1) s i + 1 < s.size:=by
  by_cases hc:byteAt s (aheadF (s.size + 1) s i) = 92
  ·right
   refine Classical.byContradiction fun hn=>h5 ?_
   exact last_bad (by omega) hc
  ·exact .inl hc
 unfold tokAt
 rw [ahead_ext hx _ (s'.size + 1) i (by omega) hi ha hb (by omega)]
 exact tokF_ext hx ha h5
end Lx
end Go.Proofs.YtfjfgaefbldgbaaGreat
namespace Go.Proofs.YtfjfgaefbldgbaaGreat
open Go.RowKit Go.Sort
namespace Ps
open Cls Pt Tr Sp Lx
structure Loc (s s':ByteArray):Prop where
 ex:∃ m,Ext s s' m
 nb:∀ t ∈ toks s,t.k ≠ 5
theorem Loc.le {s s':ByteArray} (L:Loc s s'):s.size≤s'.size:=by
 obtain ⟨m,h⟩:=L.ex
 have:=h.size
 omega
theorem scan_mem {s:ByteArray} {o:Tok}:∀ (n i:Nat),i≤s.size→o ∈ scanF n s i→∃ j,j≤s.size∧o = tokAt s j
 | 0,_,_,hm=>by cases hm
 | n + 1,i,hi,hm=>by
  rw [scanF] at hm
  rcases List.mem_cons.1 hm with rfl | hm
  ·exact ⟨i,hi,rfl⟩
  ·cases hst:stopT (tokAt s i)
   ·rw [hst,if_neg (by decide)] at hm
    have hg:=(tok_good s i hi).2.2.2.2 hst
    exact scan_mem n _ hg.2.2 hm
   ·rw [hst,if_pos rfl] at hm
    cases hm
theorem end_i (s:ByteArray) (i:Nat) (h:(tokF s i).k = 4):(tokF s i).i = (tokF s i).j:=by
 unfold tokF at h ⊢
 split at h
 ·rename_i h0
  rw [if_pos h0]
 ·split at h
  ·cases h
  ·split at h
   ·split at h <;> cases h
   ·split at h <;> cases h
theorem Fine.last {s:ByteArray} {o:Tok} (ho:Fine s o) (h:o.k = 4):o.i = s.size:=by
 obtain ⟨j,hj,rfl⟩:=scan_mem _ _ (Nat.zero_le _) ho.tk
 have h1:=(ho.ok.e h).1
 have h2:=end_i s _ h
 exact h2.trans h1
structure Z {T:Type} (s:ByteArray) (o:Tok) (r r':Rs T):Prop where
 bad:∀ i e,r = .bad i e→e ≠ 0→i < s.size→r' = .bad i e∧o.k ≠ 4
 ok:∀ a q,r = .ok a q→q.k ≠ 4→r' = .ok a q∧o.k ≠ 4
 fine:∀ a q,r = .ok a q→Fine s q
section
variable {T U:Type} {s:ByteArray} {o:Tok} {r r':Rs T} {f f':T→Tok→Rs U}
theorem Z.wrong {e:Nat} (ho:Fine s o):Z s o (.bad o.i e:Rs T) (.bad o.i e) :=
 ⟨fun i e' h _ hi=>by injection h with h1 h2;subst h1;subst h2;exact ⟨rfl,fun h4=>by have:=ho.last h4;omega⟩,(fun _ _ h=>by cases h),(fun _ _ h=>by cases h)⟩
theorem Z.out {i:Nat}:Z s o (.bad i 0:Rs T) r' :=
 ⟨fun i e' h h0 hi=>by injection h with h1 h2;exact absurd h2.symm h0,(fun _ _ h=>by cases h),(fun _ _ h=>by cases h)⟩
theorem Z.done {a:T} (ho:Fine s o):Z s o (.ok a o) (.ok a o) :=
 ⟨(fun _ _ h=>by cases h),fun b q h hq=>by injection h with h1 h2;subst h1;subst h2;exact ⟨rfl,hq⟩,fun b q h=>by injection h with h1 h2;subst h2;exact ho⟩
theorem Z.bind (h:Z s o r r') (hf:∀ a q,Fine s q→Z s q (f a q) (f' a q)):Z s o (r.bind f) (r'.bind f'):=by
 cases r with
 | bad i e =>
  refine ⟨fun j g hj h0 hi=>?_,(fun _ _ h=>by cases h),(fun _ _ h=>by cases h)⟩
  have e1:Rs.bad i e = (Rs.bad j g:Rs U):=hj
  injection e1 with h1 h2
  subst h1;subst h2
  obtain ⟨h3,h4⟩:=h.bad i e rfl h0 hi
  rw [h3]
  exact ⟨rfl,h4⟩
 | ok a q =>
  have hq:=hf a q (h.fine a q rfl)
  refine ⟨fun j g hj h0 hi=>?_,fun b p hb hp=>?_,fun b p hb=>hq.fine b p hb⟩
  ·obtain ⟨h3,h4⟩:=hq.bad j g hj h0 hi
   obtain ⟨h5,h6⟩:=h.ok a q rfl h4
   rw [h5]
   exact ⟨h3,h6⟩
  ·obtain ⟨h3,h4⟩:=hq.ok b p hb hp
   obtain ⟨h5,h6⟩:=h.ok a q rfl h4
   rw [h5]
   exact ⟨h3,h6⟩
theorem Z.ite {c:Prop} [Decidable c] {a a' b b':Rs T} (h1:c→Z s o a a') (h2:¬ c→Z s o b b'):Z s o (if c then a else b) (if c then a' else b'):=by
 by_cases h:c
 ·rw [if_pos h,if_pos h];exact h1 h
 ·rw [if_neg h,if_neg h];exact h2 h
end
theorem nxt_z {s s':ByteArray} (L:Loc s s') {o:Tok} {j:Nat} (hj:j≤s.size) (hm:tokAt s j ∈ toks s) (hk:o.k ≠ 4) :
  Z s o (if (tokAt s j).k = 5 then .bad (tokAt s j).i (tokAt s j).err else .ok () (tokAt s j)) (if (tokAt s' j).k = 5 then .bad (tokAt s' j).i (tokAt s' j).err else .ok () (tokAt s' j)):=by
 have h5:=L.nb _ hm
 obtain ⟨m,hx⟩:=L.ex
 rw [if_neg h5]
 refine ⟨(fun _ _ h=>by cases h),fun b q h hq=>?_,fun b q h=>?_⟩
 ·injection h with h1 h2
  subst h2
  rw [tok_ext hx hj hq h5,if_neg h5]
  exact ⟨rfl,hk⟩
 ·injection h with h1 h2
  subst h2
  exact ⟨tok_ok s j hj,hm,h5⟩
section
variable {s s':ByteArray} (L:Loc s s')
include L
theorem next_z {o:Tok} (ho:Fine s o) (hk:o.k ≠ 4):Z s o (nextF s o) (nextF s' o):=by
 have hst:stopT o = false:=by
  have:=ho.n5
  simp [stopT,hk,this]
 exact nxt_z L ho.ok.j (scan_next _ 0 (Nat.zero_le _) (by omega) ho.tk hst) hk
theorem next0_z:Z s o0 (nextF s o0) (nextF s' o0):=nxt_z L (Nat.zero_le _) (by
 show tokAt s 0 ∈ scanF (s.size + 1) s 0
 rw [scanF]
 exact List.mem_cons_self) (by decide)
theorem skip_z {o:Tok} {l:List ByteArray} (ho:Fine s o) (hl:l.all (fun x=>x.size != 0) = true):Z s o (skipF s l o) (skipF s' l o):=by
 unfold skipF
 exact Z.ite (fun h=>(next_z L ho (sees_k ho.ok hl h)).bind fun _ q hq=>Z.done hq) fun _=>Z.done ho
theorem take_z {o:Tok} {l:List ByteArray} (ho:Fine s o) (hl:l.all (fun x=>x.size != 0) = true):Z s o (takeF s l o) (takeF s' l o):=by
 unfold takeF
 exact (skip_z L ho hl).bind fun b q hq=>Z.ite (fun _=>Z.done hq) fun _=>Z.wrong hq
theorem lines_z:∀ n n' o,n≤n'→Fine s o→Z s o (linesN s n o) (linesN s' n' o)
 | 0,_,_,_,_=>Z.out
 | n + 1,0,_,h,_=>absurd h (by omega)
 | n + 1,n' + 1,o,h,ho=>by
  rw [linesN,linesN]
  exact (skip_z L ho (by decide)).bind fun b q hq=>Z.ite (fun _=>lines_z n n' q (by omega) hq) fun _=>Z.done hq
theorem F_le:F s≤F s':=by
 have:=L.le
 unfold F
 omega
theorem linesF_z {o:Tok} (ho:Fine s o):Z s o (linesF s o) (linesF s' o):=lines_z L _ _ o (F_le L) ho
theorem word_z {o:Tok} (ho:Fine s o):Z s o (wordF s o) (wordF s' o):=by
 unfold wordF
 exact Z.ite (fun h=>(next_z L ho (by omega)).bind fun _ q hq=>Z.done hq) fun _=>Z.wrong ho
theorem words_z:∀ n n' l o,n≤n'→Fine s o→Z s o (wordsN s n l o) (wordsN s' n' l o)
 | 0,_,_,_,_,_=>Z.out
 | n + 1,0,_,_,h,_=>absurd h (by omega)
 | n + 1,n' + 1,l,o,h,ho=>by
  rw [wordsN,wordsN]
  exact Z.ite (fun _=>(word_z L ho).bind fun x q hq=>words_z n n' _ q (by omega) hq) fun _=>Z.done ho
theorem assigns_z:∀ n n' l o,n≤n'→Fine s o→Z s o (assignsN s n l o) (assignsN s' n' l o)
 | 0,_,_,_,_,_=>Z.out
 | n + 1,0,_,_,h,_=>absurd h (by omega)
 | n + 1,n' + 1,l,o,h,ho=>by
  rw [assignsN,assignsN]
  refine Z.ite (fun hk=>?_) fun _=>Z.done ho
  cases splitA o.l with
  | none=>exact Z.done ho
  | some x=>exact (next_z L ho (by omega)).bind fun _ q hq=>assigns_z n n' _ q (by omega) hq
theorem name_z {o:Tok} (ho:Fine s o):Z s o (nameF s o) (nameF s' o):=by
 unfold nameF
 refine Z.ite (fun h=>?_) fun _=>Z.wrong ho
 have hk:o.k ≠ 4:=by
  unfold namedB at h
  simp only [Bool.and_eq_true,beq_iff_eq] at h
  omega
 exact (next_z L ho hk).bind fun _ q hq=>Z.done hq
theorem pats_z:∀ n n' l o,n≤n'→Fine s o→Z s o (patsN s n l o) (patsN s' n' l o)
 | 0,_,_,_,_,_=>Z.out
 | n + 1,0,_,_,h,_=>absurd h (by omega)
 | n + 1,n' + 1,l,o,h,ho=>by
  rw [patsN,patsN]
  exact (skip_z L ho (by decide)).bind fun b q hq=>Z.ite (fun _=>(word_z L hq).bind fun x q2 hq2=>pats_z n n' _ q2 (by omega) hq2) fun _=>Z.done hq
theorem eachW_z {o:Tok} (ho:Fine s o):Z s o (eachW s o) (eachW s' o):=by
 unfold eachW
 exact (skip_z L ho (by decide)).bind fun b q hq=>(linesF_z L hq).bind fun _ q hq=>Z.ite (fun _=>Z.done hq) fun _ =>
  (skip_z L hq (by decide)).bind fun g q hq=>Z.ite (fun _=>(words_z L _ _ _ q (F_le L) hq).bind fun ws q hq=>(take_z L hq (by decide)).bind fun _ q hq=>(linesF_z L hq).bind fun _ q hq=>Z.done hq) fun _=>Z.done hq
theorem entryE_z {c:CD} {o:Tok} (ho:Fine s o):Z s o (entryE s c o) (entryE s' c o):=by
 unfold entryE
 exact Z.ite (fun _=>Z.done ho) fun _=>(take_z L ho (by decide)).bind fun _ q hq=>(linesF_z L hq).bind fun _ q hq=>Z.done hq
end
structure Zs (s s':ByteArray) (n n':Nat):Prop where
 list:∀ d ks bs o,Fine s o→Z s o (listF s d n ks bs o) (listF s' d n' ks bs o)
 item:∀ d o,Fine s o→Z s o (itemF s d n o) (itemF s' d n' o)
 iteml:∀ d x o,Fine s o→Z s o (itemL s d n x o) (itemL s' d n' x o)
 unit:∀ d o,Fine s o→Z s o (unitF s d n o) (unitF s' d n' o)
 command:∀ d o,Fine s o→Z s o (commandF s d n o) (commandF s' d n' o)
 simple:∀ d o,Fine s o→Z s o (simpleF s d n o) (simpleF s' d n' o)
 compound:∀ d o,Fine s o→Z s o (compoundF s d n o) (compoundF s' d n' o)
 opened:∀ d t o,Fine s o→Z s o (openedF s d n t o) (openedF s' d n' t o)
 loop:∀ d k o,Fine s o→Z s o (loopF s d n k o) (loopF s' d n' k o)
 behind:∀ d t o,t.size ≠ 0→Fine s o→Z s o (behindF s d n t o) (behindF s' d n' t o)
 branch:∀ d o,Fine s o→Z s o (branchF s d n o) (branchF s' d n' o)
 each:∀ d o,Fine s o→Z s o (eachF s d n o) (eachF s' d n' o)
 choice:∀ d o,Fine s o→Z s o (choiceF s d n o) (choiceF s' d n' o)
 choicel:∀ d x cs o,Fine s o→Z s o (choiceL s d n x cs o) (choiceL s' d n' x cs o)
 entry:∀ d o,Fine s o→Z s o (entryF s d n o) (entryF s' d n' o)
theorem zs_all {s s':ByteArray} (L:Loc s s'):∀ n n',n≤n'→Zs s s' n n'
 | 0,n',_=>by
  constructor <;> intros <;> first | (rw [listF];exact Z.out) | (rw [itemF];exact Z.out) | (rw [itemL];exact Z.out) | (rw [unitF];exact Z.out) | (rw [commandF];exact Z.out) | (rw [simpleF];exact Z.out) | (rw [compoundF];exact Z.out) | (rw [openedF];exact Z.out) | (rw [loopF];exact Z.out) | (rw [behindF];exact Z.out) | (rw [branchF];exact Z.out) | (rw [eachF];exact Z.out) | (rw [choiceF];exact Z.out) | (rw [choiceL];exact Z.out) | (rw [entryF];exact Z.out)
 | n + 1,0,h=>absurd h (by omega)
 | n + 1,n' + 1,h=>by
  have ih:=zs_all L n n' (by omega)
  constructor
  ·intro d ks bs o ho
   rw [listF,listF]
   exact (ih.item d o ho).bind fun x q hq=>(skip_z L hq (by decide)).bind fun b p hp=>Z.ite
    (fun _=>(linesF_z L hp).bind fun _ q2 hq2=>Z.ite (fun _=>ih.list d _ _ q2 hq2) fun _=>Z.done hq2) fun _=>Z.done hp
  ·intro d o ho
   rw [itemF,itemF]
   exact (ih.unit d o ho).bind fun x q hq=>ih.iteml d x q hq
  ·intro d x o ho
   rw [itemL,itemL]
   exact Z.ite (fun h=>(next_z L ho (sees_k ho.ok (by decide) h)).bind fun _ q hq=>(linesF_z L hq).bind fun _ q2 hq2=>(ih.unit d q2 hq2).bind fun y q3 hq3=>ih.iteml d _ q3 hq3) fun _=>Z.done ho
  ·intro d o ho
   rw [unitF,unitF]
   exact (skip_z L ho (by decide)).bind fun b q hq=>Z.ite (fun _=>(ih.command d q hq).bind fun x q hq=>Z.done hq) fun _=>ih.command d q hq
  ·intro d o ho
   rw [commandF,commandF]
   exact Z.ite (fun _=>ih.simple d o ho) fun _=>ih.compound d o ho
  ·intro d o ho
   rw [simpleF,simpleF]
   exact (assigns_z L _ _ _ o (F_le L) ho).bind fun az p hp=>(words_z L _ _ _ p (F_le L) hp).bind fun ws p2 hp2=>Z.ite
    (fun _=>(skip_z L hp2 (by decide)).bind fun b q hq=>Z.ite
     (fun _=>(take_z L hq (by decide)).bind fun _ q2 hq2=>(linesF_z L hq2).bind fun _ q3 hq3=>(ih.compound d q3 hq3).bind fun x q hq=>Z.done hq) fun _=>Z.done hq) fun _=>Z.done hp2
  ·intro d o ho
   rw [compoundF,compoundF]
   exact Z.ite (fun h=>Z.ite (fun _=>Z.wrong ho) fun _=>(next_z L ho (opens_k ho.ok h)).bind fun _ q hq=>ih.opened _ _ q hq) fun _=>Z.wrong ho
  ·intro d t o ho
   rw [openedF,openedF]
   exact Z.ite (fun _=>(linesF_z L ho).bind fun _ q hq=>(ih.list d _ _ q hq).bind fun x q hq=>(take_z L hq (by decide)).bind fun _ q hq=>Z.done hq) fun _ =>
    Z.ite (fun _=>(linesF_z L ho).bind fun _ q hq=>(ih.list d _ _ q hq).bind fun x q hq=>(take_z L hq (by decide)).bind fun _ q hq=>Z.done hq) fun _ =>
    Z.ite (fun _=>(ih.branch d o ho).bind fun x q hq=>(take_z L hq (by decide)).bind fun _ q hq=>Z.done hq) fun _ =>
    Z.ite (fun _=>ih.loop d _ o ho) fun _=>Z.ite (fun _=>ih.loop d _ o ho) fun _=>Z.ite (fun _=>ih.each d o ho) fun _=>ih.choice d o ho
  ·intro d k o ho
   rw [loopF,loopF]
   exact (linesF_z L ho).bind fun _ q hq=>(ih.list d _ _ q hq).bind fun x q2 hq2=>(ih.behind d _ q2 (by decide) hq2).bind fun y q hq=>(take_z L hq (by decide)).bind fun _ q hq=>Z.done hq
  ·intro d t o ht ho
   rw [behindF,behindF]
   exact (take_z L ho (by simpa using ht)).bind fun _ q hq=>(linesF_z L hq).bind fun _ q2 hq2=>ih.list d _ _ q2 hq2
  ·intro d o ho
   rw [branchF,branchF]
   exact (linesF_z L ho).bind fun _ q hq=>(ih.list d _ _ q hq).bind fun x q2 hq2=>(ih.behind d _ q2 (by decide) hq2).bind fun y q3 hq3=>Z.ite
    (fun _=>(ih.behind d _ q3 (by decide) hq3).bind fun z q hq=>Z.done hq) fun _=>Z.ite
    (fun h=>Z.ite (fun _=>Z.wrong hq3) fun _=>(next_z L hq3 (sees_k hq3.ok (by decide) h)).bind fun _ q hq=>(ih.branch _ q hq).bind fun z q hq=>Z.done hq) fun _=>Z.done hq3
  ·intro d o ho
   rw [eachF,eachF]
   exact (name_z L ho).bind fun nm q hq=>(eachW_z L hq).bind fun gw q2 hq2=>(ih.behind d _ q2 (by decide) hq2).bind fun y q hq=>(take_z L hq (by decide)).bind fun _ q hq=>Z.done hq
  ·intro d o ho
   rw [choiceF,choiceF]
   exact (word_z L ho).bind fun x q hq=>(linesF_z L hq).bind fun _ q2 hq2=>(take_z L hq2 (by decide)).bind fun _ q3 hq3=>(linesF_z L hq3).bind fun _ q4 hq4=>ih.choicel d x _ q4 hq4
  ·intro d x cs o ho
   rw [choiceL,choiceL]
   exact (skip_z L ho (by decide)).bind fun b q hq=>Z.ite (fun _=>Z.done hq) fun _=>(ih.entry d q hq).bind fun c q2 hq2=>ih.choicel d x _ q2 hq2
  ·intro d o ho
   rw [entryF,entryF]
   exact (skip_z L ho (by decide)).bind fun _ q hq=>(word_z L hq).bind fun x q2 hq2=>(pats_z L _ _ _ q2 (F_le L) hq2).bind fun ps q3 hq3=>(take_z L hq3 (by decide)).bind fun _ q4 hq4=>(linesF_z L hq4).bind fun _ q5 hq5=>Z.ite
    (fun _=>(ih.list d _ _ q5 hq5).bind fun y q hq=>entryE_z L hq) fun _=>entryE_z L hq5
theorem parse_z {s s':ByteArray} (L:Loc s s'):Z s o0 (parseF s) (parseF s'):=by
 unfold parseF
 refine (next0_z L).bind fun _ o ho=>?_
 unfold programF
 refine (linesF_z L ho).bind fun _ p hp=>?_
 have hend:∀ (x:ND) (o:Tok),Fine s o→Z s o (endF x o) (endF x o):=fun x o ho=>by
  unfold endF
  exact Z.ite (fun _=>Z.done ho) fun _=>Z.wrong ho
 exact Z.ite (fun _=>((zs_all L (fuelP s) (fuelP s') (by have:=L.le;unfold fuelP;omega)).list 0 _ _ p hp).bind fun x o ho=>hend x o ho) fun _=>hend _ p hp
theorem parse_far {s s':ByteArray} (L:Loc s s') {i e:Nat} (h:parseF s = .bad i e) (hi:i < s.size):parseF s' = .bad i e :=
 ((parse_z L).bad i e h ((parse_e s).1 i e h).1 hi).1
end Ps
end Go.Proofs.YtfjfgaefbldgbaaGreat
