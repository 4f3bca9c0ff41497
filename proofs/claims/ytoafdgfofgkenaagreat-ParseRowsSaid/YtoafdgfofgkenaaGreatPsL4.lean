/- A token is what it is, whatever stands behind a line feed behind the text. Pure. -/
/- A token that is none of the end is the same token, whatever stands behind a line feed. Pure. -/
/- Where a text ends, a line feed stands in the text that goes on. Pure. -/
import Derived.Test.YtoafdgfofgkenaaGreatPsT
namespace Go.Proofs.YtoafdgfofgkenaaGreat
open Go.RowKit Go.Sort
namespace Lx
open Cls Pt
def Ext (s s':ByteArray) (m:List UInt8):Prop:=s'.data.toList = s.data.toList ++ 10 :: m
section
variable {s s':ByteArray} {m:List UInt8}
theorem Ext.size (h:Ext s s' m):s'.size = s.size + 1 + m.length:=by
 have:=congrArg List.length h
 rw [lenB,List.length_append,lenB,List.length_cons] at this
 omega
theorem Ext.rest (h:Ext s s' m) {i:Nat} (hi:i≤s.size):restAt s' i = restAt s i ++ 10 :: m:=by
 unfold restAt
 rw [h,List.drop_append_of_le_length (by rw [lenB];exact hi)]
theorem Ext.byte (h:Ext s s' m) {i:Nat} (hi:i < s.size):byteAt s' i = byteAt s i:=by
 unfold byteAt
 rw [h,List.getD_eq_getElem?_getD,List.getD_eq_getElem?_getD,List.getElem?_append_left (by rw [lenB];exact hi)]
theorem Ext.last (h:Ext s s' m):byteAt s' s.size = 10:=by
 unfold byteAt
 rw [h,List.getD_eq_getElem?_getD,List.getElem?_append_right (by rw [lenB];exact Nat.le_refl _),lenB,Nat.sub_self]
 rfl
theorem Ext.extract (h:Ext s s' m) {a b:Nat} (hb:b≤s.size):s'.extract a b = s.extract a b:=by
 have e:∀ x y:ByteArray,x.data.toList = y.data.toList→x = y:=fun x y hxy=>by
  cases x;cases y
  simp only [ByteArray.mk.injEq]
  exact Array.ext' hxy
 apply e
 rw [Lib.extract_data,Lib.extract_data,h]
 by_cases ha:a≤s.size
 ·rw [List.drop_append_of_le_length (by rw [lenB];exact ha),List.take_append_of_le_length (by rw [List.length_drop,lenB];omega)]
 ·rw [show b - a = 0 by omega,List.take_zero,List.take_zero]
end
theorem run_ext (p:Nat→Bool) (hp:p 10 = false) (m:List UInt8):∀ l,runLen p (l ++ 10 :: m) = runLen p l
 | []=>by
  show (if p (10:UInt8).toNat = true then runLen p m + 1 else 0) = 0
  rw [show (10:UInt8).toNat = 10 from rfl,hp]
  rfl
 | c :: l=>by
  simp only [List.cons_append,runLen,run_ext p hp m l]
theorem name_ext (l m:List UInt8) (d d':Nat) (h:d = d'∨(l.length≤d∧l.length≤d')):nameLen (l ++ 10 :: m) d' = nameLen l d:=by
 cases l with
 | nil=>rfl
 | cons c l =>
  show (if letterB c.toNat then runLen wordB ((c :: l) ++ 10 :: m) else if digitB c.toNat then min (runLen digitB ((c :: l) ++ 10 :: m)) d' else if paramL [c] then 1 else 0) = (if letterB c.toNat then runLen wordB (c :: l) else if digitB c.toNat then min (runLen digitB (c :: l)) d else if paramL [c] then 1 else 0)
  rw [run_ext wordB rfl,run_ext digitB rfl]
  have hr:=runLen_le digitB (c :: l)
  split
  ·rfl
  ·split
   ·rcases h with h | h
    ·rw [h]
    ·omega
   ·rfl
theorem op_ext (l m:List UInt8):opLen (l ++ 10 :: m) = opLen l:=by
 cases l with
 | nil=>rfl
 | cons c l =>
  cases l with
  | nil =>
   show (if (c.toNat:Int) == 58 then (if opB (10:UInt8).toNat then 2 else 0) else if opB c.toNat then 1 else 0) = (if (c.toNat:Int) == 58 then 0 else if opB c.toNat then 1 else 0)
   rw [if_neg (by decide:¬ opB (10:UInt8).toNat = true)]
  | cons c2 l=>rfl
theorem sees_ext (l m:List UInt8) (c:Nat) (hc:c ≠ 10):seesB (l ++ 10 :: m) c = seesB l c:=by
 cases l with
 | nil =>
  show (((10:UInt8).toNat:Int) == (c:Int)) = false
  rw [beq_eq_false_iff_ne]
  show ((10:Nat):Int) ≠ (c:Int)
  omega
 | cons x l=>rfl
theorem index_ext (c:UInt8) (r:List UInt8):∀ l,0≤Lib.indexByte l c→Lib.indexByte (l ++ r) c = Lib.indexByte l c
 | [],h=>by simp [Lib.indexByte] at h
 | x :: l,h=>by
  have ih:=index_ext c r l
  simp only [List.cons_append,Lib.indexByte] at h ⊢
  split
  ·rfl
  ·rename_i hx
   rw [if_neg hx] at h
   split at h
   ·omega
   ·rename_i hn
    have hn2:Lib.indexByte l c ≠ -1:=by simpa using hn
    have hge:=Lib.indexByte_ge l c
    have h0:0≤Lib.indexByte l c:=by omega
    rw [ih h0]
theorem slash_ext (l m:List UInt8) (ec:Nat) (a:A) (hl:l ≠ []):slashR ec (l ++ 10 :: m) a = slashR ec l a:=by
 cases l with
 | nil=>exact absurd rfl hl
 | cons c l=>rfl
set_option maxRecDepth 100000 in
theorem read_ext {s s':ByteArray} {m:List UInt8} (hx:Ext s s' m):∀ n n',n≤n' →
  (∀ (ec d:Nat) (a:A) (i j:Nat) (l:PL),markedF n s ec d a i = .ok l j→i≤s.size→j < s.size→markedF n' s' ec d a i = .ok l j) ∧
  (∀ (d:Nat) (a:A) (i j:Nat) (l:PL),bareF n s d a i = .ok l j→i≤s.size→(d = 0∨j < s.size)→bareF n' s' d a i = .ok l j) ∧
  (∀ (q:Bool) (d i j:Nat) (p:PL),paramF n s q d i = .ok p j→i < s.size→paramF n' s' q d i = .ok p j):=by
 have hsz:=hx.size
 intro n
 induction n with
 | zero=>exact fun n' _=>⟨fun _ _ _ _ _ _ h=>by simp [markedF] at h,fun _ _ _ _ _ h=>by simp [bareF] at h,fun _ _ _ _ _ h=>by simp [paramF] at h⟩
 | succ n ih =>
  intro n' hn
  obtain ⟨n',rfl⟩:∃ k,n' = k + 1:=⟨n' - 1,by omega⟩
  obtain ⟨ihm,ihb,ihp⟩:=ih n' (by omega)
  have hends:=ends_ft s n
  refine ⟨?_,?_,?_⟩
  ·intro ec d a i j l h hi hj
   rw [markedF] at h
   split at h
   ·cases h;omega
   ·rename_i hlt
    have hb:=hx.byte (show i < s.size by omega)
    rw [markedF,if_neg (by omega),hb]
    split at h
    ·rename_i h1
     cases h
     rw [if_pos h1]
    ·rename_i h1
     rw [if_neg h1]
     split at h
     ·cases h
     ·rename_i h2
      rw [if_neg h2]
      split at h
      ·rename_i h3
       rw [if_pos h3]
       split at h
       ·cases h
       ·rename_i p j' hp
        have e1:=hends.2.2 _ _ _ _ _ hp (by omega)
        rw [ihp _ _ _ _ _ hp (by omega)]
        exact ihm _ _ _ _ _ _ h e1.2.1 hj
      ·rename_i h3
       rw [if_neg h3]
       split at h
       ·rename_i h4
        rw [if_pos h4]
        obtain ⟨k1,k2,k3⟩:=slash_ft (ec:=ec) (a:=a) (show i < s.size by omega)
        have e1:=hends.1 _ _ _ _ _ _ h k2
        have hne:restAt s (i + 1) ≠ []:=fun e=>by
         have:=congrArg List.length e
         rw [restAt_len] at this
         simp only [List.length_nil] at this
         omega
        rw [hx.rest (show i + 1≤s.size by omega),slash_ext _ _ _ _ hne]
        exact ihm _ _ _ _ _ _ h k2 hj
       ·rename_i h4
        rw [if_neg h4]
        exact ihm _ _ _ _ _ _ h (by omega) hj
  ·intro d a i j l h hi hj
   rw [bareF] at h
   split at h
   ·rename_i hge
    cases h
    obtain rfl:i = s.size:=by omega
    have hd:d = 0:=by omega
    subst hd
    rw [bareF,if_neg (by omega),hx.last]
    rfl
   ·rename_i hlt
    have hb:=hx.byte (show i < s.size by omega)
    rw [bareF,if_neg (by omega),hb]
    split at h
    ·rename_i h1
     rw [if_pos h1]
     split at h
     ·rename_i h0
      have hk:(Lib.indexByte (restAt s (i + 1)) 39).toNat < (restAt s (i + 1)).length:=by
       have:=(Lib.indexByte_some (l:=restAt s (i + 1)) (c:=39) (o:=(Lib.indexByte (restAt s (i + 1)) 39).toNat) (by omega)).1
       exact (List.getElem?_eq_some_iff.1 this).1
      have hk2:=hk
      rw [restAt_len] at hk2
      rw [hx.rest (show i + 1≤s.size by omega),index_ext _ _ _ h0,if_pos h0,List.take_append_of_le_length (Nat.le_of_lt hk)]
      exact ihb _ _ _ _ _ h (by omega) hj
     ·cases h
    ·rename_i h1
     rw [if_neg h1]
     split at h
     ·rename_i h2
      rw [if_pos h2]
      split at h
      ·cases h
      ·rename_i mm j' hm
       split at h
       ·cases h
       ·rename_i hj'
        have e1:=hends.1 _ _ _ _ _ _ hm (by omega)
        rw [ihm _ _ _ _ _ _ hm (by omega) (by omega)]
        simp only []
        rw [if_neg (by omega)]
        exact ihb _ _ _ _ _ h (by omega) hj
     ·rename_i h2
      rw [if_neg h2]
      split at h
      ·rename_i h3
       rw [if_pos h3]
       split at h
       ·cases h
       ·rename_i h4
        rw [if_neg (by omega),hx.byte (show i + 1 < s.size by omega)]
        exact ihb _ _ _ _ _ h (by omega) hj
      ·rename_i h3
       rw [if_neg h3]
       split at h
       ·cases h
       ·rename_i h4
        rw [if_neg h4]
        split at h
        ·rename_i h5
         rw [if_pos h5]
         split at h
         ·cases h
         ·rename_i p j' hp
          have e1:=hends.2.2 _ _ _ _ _ hp (by omega)
          rw [ihp _ _ _ _ _ hp (by omega)]
          exact ihb _ _ _ _ _ h e1.2.1 hj
        ·rename_i h5
         rw [if_neg h5]
         split at h
         ·rename_i h6
          cases h
          rw [if_pos h6]
         ·rename_i h6
          rw [if_neg h6]
          exact ihb _ _ _ _ _ h (by omega) hj
  ·intro q d i j p h hi
   rw [paramF] at h ⊢
   split at h
   ·cases h
   ·rename_i h200
    rw [if_neg h200,hx.rest (show i + 1≤s.size by omega),sees_ext _ _ _ (by decide)]
    split at h
    ·rename_i hsee
     have h1:=sees_lt hsee
     have hnl:=nameLen_le (restAt s (i + 2)) s.size
     rw [restAt_len] at hnl
     have hol:=opLen_le (restAt s (i + 2 + nameLen (restAt s (i + 2)) s.size))
     rw [restAt_len] at hol
     have hlen:=restAt_len s (i + 2)
     have hne:nameLen (restAt s' (i + 2)) s'.size = nameLen (restAt s (i + 2)) s.size:=by
      rw [hx.rest (show i + 2≤s.size by omega)]
      exact name_ext _ _ _ _ (.inr ⟨by omega,by omega⟩)
     rw [if_pos hsee,hne,hx.rest (show i + 2≤s.size by omega),List.take_append_of_le_length (by rw [restAt_len];exact hnl),hx.rest (show i + 2 + nameLen (restAt s (i + 2)) s.size≤s.size by omega),op_ext,sees_ext _ _ _ (by decide),List.take_append_of_le_length (by rw [restAt_len];exact hol)]
     split at h
     ·cases h
     ·rename_i h2
      rw [if_neg h2]
      split at h
      ·rename_i h3
       rw [if_pos h3]
       split at h
       ·rename_i h4
        cases h
        rw [if_pos h4,hx.extract (by omega)]
       ·cases h
      ·rename_i h3
       rw [if_neg h3]
       split at h
       ·cases h
       ·rename_i f j' hm
        split at h
        ·rename_i h5
         have h6:=sees_lt h5
         cases h
         have hm':(if q = true then markedF n' s' 125 d A0 (i + 2 + nameLen (restAt s (i + 2)) s.size + opLen (restAt s (i + 2 + nameLen (restAt s (i + 2)) s.size))) else bareF n' s' d A0 (i + 2 + nameLen (restAt s (i + 2)) s.size + opLen (restAt s (i + 2 + nameLen (restAt s (i + 2)) s.size)))) = .ok f j':=by
          cases q with
          | true=>exact ihm _ _ _ _ _ _ hm (by omega) h6
          | false=>exact ihb _ _ _ _ _ hm (by omega) (.inr h6)
         rw [hm']
         simp only []
         rw [hx.rest (show j'≤s.size by omega),sees_ext _ _ _ (by decide),if_pos h5,hx.extract (by omega),hx.extract (by omega)]
        ·cases h
    ·rename_i hsee
     rw [if_neg hsee,name_ext _ _ 1 1 (.inl rfl)]
     split at h
     ·cases h
     ·rename_i h0
      have hnl:=nameLen_le (restAt s (i + 1)) 1
      rw [restAt_len] at hnl
      cases h
      rw [if_neg h0,hx.extract (by omega)]
theorem prefix_ext (l m:List UInt8) (h:¬ l = [92]):Lib.hasPrefix (l ++ 10 :: m) [92,10] = Lib.hasPrefix l [92,10]:=by
 cases l with
 | nil=>simp [Lib.hasPrefix,List.isPrefixOf]
 | cons c l =>
  cases l with
  | nil =>
   have hc:c ≠ 92:=fun e=>h (by rw [e])
   have e:((92:UInt8) == c) = false:=by simp [Ne.symm hc]
   simp [Lib.hasPrefix,List.isPrefixOf,e]
  | cons c2 l=>simp [Lib.hasPrefix,List.isPrefixOf]
theorem ahead_ext {s s':ByteArray} {m:List UInt8} (hx:Ext s s' m):∀ n n' i,n≤n'→i≤s.size→aheadF n s i < s.size→(byteAt s (aheadF n s i) ≠ 92∨aheadF n s i + 1 < s.size)→s.size < i + n→aheadF n' s' i = aheadF n s i:=by
 have hsz:=hx.size
 intro n
 induction n with
 | zero=>intro n' i _ _ _ _ h;omega
 | succ n ih =>
  intro n' i hn hi hlt h92 hfu
  obtain ⟨n',rfl⟩:∃ k,n' = k + 1:=⟨n' - 1,by omega⟩
  rw [aheadF] at hlt h92 ⊢
  rw [aheadF]
  split at hlt
  ·omega
  ·rename_i h0
   rw [if_neg h0] at h92
   rw [if_neg (by omega),if_neg h0,hx.byte (show i < s.size by omega)]
   split at hlt
   ·rename_i h1
    rw [if_pos h1] at h92 ⊢
    rw [if_pos h1]
    exact ih n' _ (by omega) (by omega) hlt h92 (by omega)
   ·rename_i h1
    rw [if_neg h1] at h92 ⊢
    rw [if_neg h1]
    by_cases hl:restAt s i = [92]
    · -- the last byte alone
     exfalso
     have hlen:=congrArg List.length hl
     rw [restAt_len] at hlen
     simp only [List.length_singleton] at hlen
     have hb:byteAt s i = 92:=by
      have:=restAt_cons (show i < s.size by omega)
      rw [hl] at this
      simp only [List.cons.injEq] at this
      exact this.1.symm
     have hp:Lib.hasPrefix (restAt s i) [92,10] = false:=by rw [hl];decide
     rw [hp,if_neg (show ¬ false = true by decide),if_neg (show ¬ (((byteAt s i).toNat:Int) == 35) = true by rw [hb];decide)] at h92
     rcases h92 with h92 | h92
     ·exact h92 hb
     ·omega
    ·rw [hx.rest (show i≤s.size by omega),prefix_ext _ _ hl]
     split at hlt
     ·rename_i h2
      rw [if_pos h2] at h92 ⊢
      rw [if_pos h2]
      have h2l:i + 2≤s.size:=by
       have h3:(restAt s i).length ≥ 2:=by
        cases hr:restAt s i with
        | nil=>rw [hr] at h2;simp [Lib.hasPrefix] at h2
        | cons c l =>
         cases l with
         | nil=>rw [hr] at h2;simp [Lib.hasPrefix] at h2
         | cons c2 l=>simp
       rw [restAt_len] at h3
       omega
      exact ih n' _ (by omega) h2l hlt h92 (by omega)
     ·rename_i h2
      rw [if_neg h2] at h92 ⊢
      rw [if_neg h2]
      split at hlt
      ·rename_i h3
       rw [if_pos h3] at h92 ⊢
       rw [if_pos h3]
       split at hlt
       ·rename_i h4
        rw [if_pos h4] at h92 ⊢
        rw [index_ext _ _ _ h4,if_pos h4]
        have hk:(Lib.indexByte (restAt s i) 10).toNat < (restAt s i).length:=by
         have:=(Lib.indexByte_some (l:=restAt s i) (c:=10) (o:=(Lib.indexByte (restAt s i) 10).toNat) (by omega)).1
         exact (List.getElem?_eq_some_iff.1 this).1
        rw [restAt_len] at hk
        have hpos:(Lib.indexByte (restAt s i) 10).toNat ≠ 0:=fun e=>by
         have h5:=(Lib.indexByte_some (l:=restAt s i) (c:=10) (o:=(Lib.indexByte (restAt s i) 10).toNat) (by omega)).1
         rw [e,restAt_cons (show i < s.size by omega)] at h5
         simp only [List.getElem?_cons_zero,Option.some.injEq] at h5
         have h6:byteAt s i = 10:=h5
         rw [h6] at h3
         revert h3
         decide
        exact ih n' _ (by omega) (by omega) hlt h92 (by omega)
       ·omega
      ·rename_i h3
       rw [if_neg h3,if_neg h3]
end Lx
end Go.Proofs.YtoafdgfofgkenaaGreat
namespace Go.Proofs.YtoafdgfofgkenaaGreat
open Go.RowKit Go.Sort
namespace Lx
open Cls Pt
theorem sign_ext (l m:List UInt8) (hl:l ≠ []):signLen (l ++ 10 :: m) = signLen l:=by
 unfold signLen
 cases l with
 | nil=>exact absurd rfl hl
 | cons c l =>
  cases l with
  | nil =>
   have h1:min 2 ([c] ++ 10 :: m).length = 2:=by simp
   have h2:signIs [c,10] = false:=by simp [signIs]
   rw [h1]
   show (if signIs [c,10] = true then 2 else signDown ([c] ++ 10 :: m) 1) = signDown [c] 1
   rw [h2,if_neg (by decide)]
   rfl
  | cons c2 l =>
   have h1:min 2 ((c :: c2 :: l) ++ 10 :: m).length = 2:=by simp
   have h2:min 2 (c :: c2 :: l).length = 2:=by simp
   rw [h1,h2]
   rfl
theorem bytes_ext {x y:ByteArray} (h:x.data.toList = y.data.toList):x = y:=by
 cases x;cases y
 simp only [ByteArray.mk.injEq]
 exact Array.ext' h
theorem tokF_ext {s s':ByteArray} {m:List UInt8} (hx:Ext s s' m) {i:Nat} (hi:i < s.size) (h5:(tokF s i).k ≠ 5):tokF s' i = tokF s i:=by
 have hsz:=hx.size
 unfold tokF at h5 ⊢
 rw [if_neg (show ¬ s.size≤i by omega)] at h5
 rw [if_neg (show ¬ s.size≤i by omega),if_neg (show ¬ s'.size≤i by omega),hx.byte hi]
 split
 ·rfl
 ·rename_i h1
  rw [if_neg h1] at h5
  have hne:restAt s i ≠ []:=by rw [restAt_cons hi];exact List.cons_ne_nil _ _
  split
  ·rename_i h2
   rw [if_pos h2] at h5
   rw [hx.rest (show i≤s.size by omega),sign_ext _ _ hne]
   split
   ·rename_i h3
    rw [if_pos h3] at h5
   ·have hle:i + signLen (restAt s i)≤s.size:=by
     have:=signDown_le (restAt s i) (min 2 (restAt s i).length)
     unfold signLen
     have hl:=restAt_len s i
     omega
    have e:(s'.extract i s'.size).extract 0 (signLen (restAt s i)) = (s.extract i s.size).extract 0 (signLen (restAt s i)):=by
     have e1:∀ (x:ByteArray) (k:Nat),i + k≤x.size→(x.extract i x.size).extract 0 k = x.extract i (i + k):=fun x k hk=>by
      apply bytes_ext
      rw [Lib.extract_data,Lib.extract_data,Lib.extract_data,List.drop_zero,List.take_take]
      congr 1
      omega
     rw [e1 s' _ (by omega),e1 s _ hle,hx.extract hle]
    rw [e]
  ·rename_i h2
   rw [if_neg h2] at h5
   have hr:=(read_ext hx (s.size + 1) (s'.size + 1) (by omega)).2.1 0 A0 i
   cases hb:bareF (s.size + 1) s 0 A0 i with
   | ok l j=>rw [hr j l hb (by omega) (.inl rfl)]
   | bad j e =>
    rw [hb] at h5
    exact absurd rfl h5
theorem last_bad {s:ByteArray} {i:Nat} (hi:i + 1 = s.size) (h:byteAt s i = 92):(tokF s i).k = 5:=by
 unfold tokF
 rw [if_neg (by omega),h,if_neg (by decide),if_neg (by decide),bareF,if_neg (by omega),h,if_neg (by decide),if_neg (by decide),if_pos (by decide),if_pos (by omega)]
theorem tok_ext {s s':ByteArray} {m:List UInt8} (hx:Ext s s' m) {i:Nat} (hi:i≤s.size) (h4:(tokAt s i).k ≠ 4) (h5:(tokAt s i).k ≠ 5):tokAt s' i = tokAt s i:=by
 have hsz:=hx.size
 have ha:aheadF (s.size + 1) s i < s.size:=by
  refine Classical.byContradiction fun hn=>h4 ?_
  unfold tokAt tokF
  rw [if_pos (by omega)]
 have hb:byteAt s (aheadF (s.size + 1) s i) ≠ 92∨aheadF (s.size + 1) s i + 1 < s.size:=by
  by_cases hc:byteAt s (aheadF (s.size + 1) s i) = 92
  ·right
   refine Classical.byContradiction fun hn=>h5 ?_
   exact last_bad (by omega) hc
  ·exact .inl hc
 unfold tokAt
 rw [ahead_ext hx _ (s'.size + 1) i (by omega) hi ha hb (by omega)]
 exact tokF_ext hx ha h5
end Lx
end Go.Proofs.YtoafdgfofgkenaaGreat
namespace Go.Proofs.YtoafdgfofgkenaaGreat
open Go.RowKit Go.Sort
namespace Lx
open Cls Pt
theorem stops_at {s s':ByteArray} {m:List UInt8} (hx:Ext s s' m) (n:Nat):aheadF (n + 1) s' s.size = s.size:=by
 have hsz:=hx.size
 rw [aheadF,if_neg (by omega),hx.last,if_neg (by decide),if_neg,if_neg (by decide)]
 rw [hx.rest (Nat.le_refl _),show restAt s s.size = [] from restAt_nil (Nat.le_refl _)]
 simp [Lib.hasPrefix,List.isPrefixOf]
theorem index_new (m:List UInt8):∀ l:List UInt8,¬ 0≤Lib.indexByte l 10→Lib.indexByte (l ++ 10 :: m) 10 = l.length
 | [],_=>by simp [Lib.indexByte]
 | c :: l,h=>by
  have ih:=index_new m l
  simp only [Lib.indexByte,List.cons_append,List.length_cons] at h ⊢
  split at h
  ·omega
  ·rename_i hc
   rw [if_neg hc]
   split at h
   ·rename_i h1
    have h2:Lib.indexByte l 10 = -1:=by simpa using h1
    rw [ih (by omega),if_neg (by simp)]
    simp
   ·rename_i h1
    have h2:Lib.indexByte l 10 ≠ -1:=by simpa using h1
    have:=Lib.indexByte_ge l 10
    omega
theorem ahead_last {s s':ByteArray} {m:List UInt8} (hx:Ext s s' m):∀ n n' i,n≤n'→i≤s.size→s.size < i + n→aheadF n s i = s.size→aheadF n' s' i = s.size
 | 0,_,_,_,_,h,_=>by omega
 | n + 1,0,_,h,_,_,_=>absurd h (by omega)
 | n + 1,n' + 1,i,hn,hi,hfu,he=>by
  have hsz:=hx.size
  by_cases h0:s.size≤i
  ·obtain rfl:i = s.size:=by omega
   exact stops_at hx n'
  ·rw [aheadF,if_neg h0] at he
   rw [aheadF,if_neg (by omega),hx.byte (show i < s.size by omega)]
   split at he
   ·rename_i h1
    rw [if_pos h1]
    exact ahead_last hx n n' _ (by omega) (by omega) (by omega) he
   ·rename_i h1
    rw [if_neg h1]
    split at he
    ·rename_i h2
     have h2l:=prefix_le h2
     have hl:restAt s i ≠ [92]:=fun e=>by
      have:=congrArg List.length e
      rw [restAt_len] at this
      simp only [List.length_singleton] at this
      omega
     rw [hx.rest hi,prefix_ext _ _ hl,if_pos h2]
     exact ahead_last hx n n' _ (by omega) h2l (by omega) he
    ·rename_i h2
     split at he
     ·rename_i h3
      have hl:restAt s i ≠ [92]:=fun e=>by
       have:=restAt_cons (show i < s.size by omega)
       rw [e] at this
       simp only [List.cons.injEq] at this
       rw [show byteAt s i = 92 from this.1.symm] at h3
       revert h3
       decide
      rw [hx.rest hi,prefix_ext _ _ hl,if_neg h2,if_pos h3]
      split at he
      ·rename_i h4
       have hlt:=index_lt h4
       have hpos:=index_pos (show i < s.size by omega) h3 h4
       rw [index_ext _ _ _ h4,if_pos h4]
       exact ahead_last hx n n' _ (by omega) (by omega) (by omega) he
      ·rename_i h4
       rw [index_new _ _ h4,if_pos (by omega),restAt_len,show i + ((s.size - i:Nat):Int).toNat = s.size by omega]
       obtain ⟨k,rfl⟩:∃ k,n' = k + 1:=⟨n' - 1,by omega⟩
       exact stops_at hx k
     ·omega
theorem end_ext {s s':ByteArray} {m:List UInt8} (hx:Ext s s' m) {i:Nat} (hi:i≤s.size) (h4:(tokAt s i).k = 4):tokAt s' i = ⟨3,s.size,⟨#[]⟩,.nil,0,s.size + 1⟩:=by
 have hsz:=hx.size
 have hle:=(ahead_le s (s.size + 1) i hi).2
 have he:aheadF (s.size + 1) s i = s.size:=by
  refine Classical.byContradiction fun hn=>?_
  unfold tokAt at h4
  generalize aheadF (s.size + 1) s i = x at h4 hle hn
  unfold tokF at h4
  rw [if_neg (by omega)] at h4
  split at h4
  ·cases h4
  ·split at h4
   ·split at h4 <;> cases h4
   ·split at h4 <;> cases h4
 unfold tokAt
 rw [ahead_last hx _ (s'.size + 1) i (by omega) hi (by omega) he]
 unfold tokF
 rw [if_neg (by omega),hx.last,if_pos rfl]
end Lx
end Go.Proofs.YtoafdgfofgkenaaGreat
