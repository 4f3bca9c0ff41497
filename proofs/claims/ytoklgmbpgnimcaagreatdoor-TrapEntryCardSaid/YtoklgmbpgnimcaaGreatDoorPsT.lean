/- How much there is in a word that was read, all in all. -/
import Derived.Test.YtoklgmbpgnimcaaGreatDoorLxVT
namespace Go.Proofs.YtoklgmbpgnimcaaGreatDoor
open Go.RowKit Go.Sort
namespace Lx
open Cls Pt
def ftot:PL→Nat
 | .nil=>0
 | .cons _ _ t o f r=>1 + t.size + o.size + ftot f + ftot r
theorem ftot_app:∀ l m:PL,ftot (l.app m) = ftot l + ftot m
 | .nil,m=>by simp [ftot,PL.app]
 | .cons _ _ _ _ _ r,m=>by simp only [ftot,PL.app,ftot_app r m];omega
theorem size_ftot:∀ l:PL,l.size≤ftot l
 | .nil=>Nat.le_refl _
 | .cons _ _ _ _ f r=>by have:=size_ftot f;have:=size_ftot r;simp only [PL.size,ftot];omega
def A.ft (a:A):Nat:=Lx.ftot a.l + match a.cur with | none=>0 | some x=>1 + x.2.length
theorem A.flush_ft (a:A):Lx.ftot a.flush = a.ft:=by
 obtain ⟨l,cur⟩:=a
 match cur with
 | none=>simp [A.flush,A.ft]
 | some x =>
  simp only [A.flush,A.ft,ftot_app,A.lit,Lx.ftot]
  show Lx.ftot l + (1 + (List.toArray _).size + 0 + 0 + 0) = _
  rw [List.size_toArray];omega
theorem A.begins_ft (a:A) (q:Bool):(a.begins q).ft≤a.ft + 1:=by
 obtain ⟨l,cur⟩:=a
 match cur with
 | none=>simp [A.begins,A.ft]
 | some x =>
  simp only [A.begins]
  split
  ·omega
  ·have:=A.flush_ft ⟨l,some x⟩
   simp only [A.ft,List.length_nil] at this ⊢
   omega
theorem A.text_ft (a:A) (s:List UInt8) (q:Bool):(a.text s q).ft≤a.ft + 1 + s.length:=by
 have h:=A.begins_ft a q
 have hc:=begins_cur a q
 simp only [A.ft,hc] at h
 simp only [A.text,A.ft,List.length_append]
 omega
theorem A.add_ft (a:A) (p:PL):(a.add p).ft = a.ft + Lx.ftot p:=by
 have:=A.flush_ft a
 simp only [A.add,A.ft,ftot_app]
 simp only [A.ft] at this
 omega
theorem A.join_ft:∀ (m:PL) (a:A),(a.join m).ft≤a.ft + Lx.ftot m
 | .nil,a=>by simp [A.join,Lx.ftot]
 | .cons k q t o f r,a=>by
  simp only [A.join]
  split
  ·have h1:=A.join_ft r (a.text t.data.toList q)
   have h2:=A.text_ft a t.data.toList q
   rw [lenB] at h2
   simp only [Lx.ftot];omega
  ·have h1:=A.join_ft r (a.add (.cons k q t o f .nil))
   have h2:=A.add_ft a (.cons k q t o f .nil)
   simp only [Lx.ftot] at h2 ⊢;omega
theorem slash_ft {s:ByteArray} {i ec:Nat} {a:A} (hi:i < s.size):1≤(slashR ec (restAt s (i + 1)) a).2∧i + (slashR ec (restAt s (i + 1)) a).2≤s.size∧(slashR ec (restAt s (i + 1)) a).1.ft≤a.ft + 2 * (slashR ec (restAt s (i + 1)) a).2:=by
 have hx:∀ c,seesB (restAt s (i + 1)) c = true→i + 1 < s.size:=fun c h=>sees_lt h
 unfold slashR
 split
 ·rename_i h;have:=hx _ h;simp only [];omega
 ·split
  ·rename_i h
   have hl:i + 1 < s.size:=by
    simp only [Bool.or_eq_true] at h
    rcases h with (((h | h) | h) | h) | h <;> exact hx _ h
   have:=A.text_ft a [(restAt s (i + 1)).headD 0] true
   simp only [List.length_cons,List.length_nil] at this ⊢
   omega
  ·have:=A.text_ft a [92] true
   simp only [List.length_cons,List.length_nil] at this ⊢
   omega
theorem esc_ft (a:A) (c:UInt8):(escA a c).ft≤a.ft + 2:=by
 unfold escA
 split
 ·omega
 ·have:=A.text_ft a [c] true;simp only [List.length_cons,List.length_nil] at this;omega
theorem nz_ft (m:PL):ftot (nz m)≤ftot m + 1:=by
 cases m with
 | nil=>simp [nz,A.lit,ftot];exact Nat.le_refl _
 | cons=>simp [nz]
theorem ends_ft (s:ByteArray):∀ n,(∀ (ec d:Nat) (a:A) (i j:Nat) (l:PL),markedF n s ec d a i = .ok l j→i≤s.size→i≤j∧j≤s.size∧ftot l≤a.ft + 2 * (j - i)) ∧
  (∀ (d:Nat) (a:A) (i j:Nat) (l:PL),bareF n s d a i = .ok l j→i≤s.size→i≤j∧j≤s.size∧ftot l≤a.ft + 2 * (j - i)) ∧
  (∀ (q:Bool) (d i j:Nat) (p:PL),paramF n s q d i = .ok p j→i < s.size→i < j∧j≤s.size∧ftot p≤2 * (j - i)):=by
 have hA0:A0.ft = 0:=rfl
 intro n
 induction n with
 | zero=>exact ⟨fun _ _ _ _ _ _ h=>by simp [markedF] at h,fun _ _ _ _ _ h=>by simp [bareF] at h,fun _ _ _ _ _ h=>by simp [paramF] at h⟩
 | succ n ih =>
  obtain ⟨ihm,ihb,ihp⟩:=ih
  refine ⟨?_,?_,?_⟩
  ·intro ec d a i j l h hi
   rw [markedF] at h
   split at h
   ·cases h
    have:=A.flush_ft a;omega
   ·split at h
    ·cases h;have:=A.flush_ft a;omega
    ·split at h
     ·cases h
     ·split at h
      ·split at h
       ·cases h
       ·rename_i p j' hp
        obtain ⟨h1,h2,h3⟩:=ihp _ _ _ _ _ hp (by omega)
        obtain ⟨h4,h5,h6⟩:=ihm _ _ _ _ _ _ h h2
        rw [A.add_ft] at h6
        exact ⟨by omega,h5,by omega⟩
      ·split at h
       ·obtain ⟨k1,k2,k3⟩:=slash_ft (ec:=ec) (a:=a) (show i < s.size by omega)
        obtain ⟨h4,h5,h6⟩:=ihm _ _ _ _ _ _ h k2
        exact ⟨by omega,h5,by omega⟩
       ·obtain ⟨h4,h5,h6⟩:=ihm _ _ _ _ _ _ h (by omega)
        have:=A.text_ft a [byteAt s i] true
        simp only [List.length_cons,List.length_nil] at this
        exact ⟨by omega,h5,by omega⟩
  ·intro d a i j l h hi
   rw [bareF] at h
   split at h
   ·cases h;have:=A.flush_ft a;exact ⟨by omega,by omega,by omega⟩
   ·split at h
    ·split at h
     ·rename_i h0
      have hn:(Lib.indexByte (restAt s (i + 1)) 39).toNat < (restAt s (i + 1)).length:=by
       have:=(Lib.indexByte_some (l:=restAt s (i + 1)) (c:=39) (o:=(Lib.indexByte (restAt s (i + 1)) 39).toNat) (by omega)).1
       exact (List.getElem?_eq_some_iff.1 this).1
      rw [restAt_len] at hn
      have h2:=ihb _ _ _ _ _ h (by omega)
      have h3:=A.text_ft a ((restAt s (i + 1)).take (Lib.indexByte (restAt s (i + 1)) 39).toNat) true
      rw [List.length_take,restAt_len] at h3
      exact ⟨by omega,h2.2.1,by omega⟩
     ·cases h
    ·split at h
     ·split at h
      ·cases h
      ·rename_i m j' hm
       split at h
       ·cases h
       ·have h1:=ihm _ _ _ _ _ _ hm (by omega)
        have h2:=ihb _ _ _ _ _ h (by omega)
        have h3:=A.join_ft (nz m) a
        have h4:=nz_ft m
        exact ⟨by omega,h2.2.1,by omega⟩
     ·split at h
      ·split at h
       ·cases h
       ·have h2:=ihb _ _ _ _ _ h (by omega)
        have h3:=esc_ft a (byteAt s (i + 1))
        exact ⟨by omega,h2.2.1,by omega⟩
      ·split at h
       ·cases h
       ·split at h
        ·split at h
         ·cases h
         ·rename_i p j' hp
          have h1:=ihp _ _ _ _ _ hp (by omega)
          have h2:=ihb _ _ _ _ _ h h1.2.1
          rw [A.add_ft] at h2
          exact ⟨by omega,h2.2.1,by omega⟩
        ·split at h
         ·cases h;have:=A.flush_ft a;exact ⟨by omega,by omega,by omega⟩
         ·have h2:=ihb _ _ _ _ _ h (by omega)
          have h3:=A.text_ft a [byteAt s i] false
          simp only [List.length_cons,List.length_nil] at h3
          exact ⟨by omega,h2.2.1,by omega⟩
  ·intro q d i j p h hi
   rw [paramF] at h
   split at h
   ·cases h
   ·split at h
    ·rename_i hsee
     have h1:=sees_lt hsee
     have hn:=nameLen_le (restAt s (i + 2)) s.size
     rw [restAt_len] at hn
     have ho:=opLen_le (restAt s (i + 2 + nameLen (restAt s (i + 2)) s.size))
     rw [restAt_len] at ho
     split at h
     ·cases h
     ·split at h
      ·split at h
       ·rename_i hs2
        have h2:=sees_lt hs2
        cases h
        refine ⟨by omega,by omega,?_⟩
        simp only [one,ftot,ByteArray.size_extract]
        have:(⟨#[]⟩:ByteArray).size = 0:=rfl
        omega
       ·cases h
      ·split at h
       ·cases h
       ·rename_i f j' hm
        split at h
        ·rename_i hs2
         have h2:=sees_lt hs2
         have hj:i + 2 + nameLen (restAt s (i + 2)) s.size + opLen (restAt s (i + 2 + nameLen (restAt s (i + 2)) s.size))≤j'∧ftot f≤2 * (j' - (i + 2 + nameLen (restAt s (i + 2)) s.size + opLen (restAt s (i + 2 + nameLen (restAt s (i + 2)) s.size)))):=by
          cases q with
          | true=>have:=ihm _ _ _ _ _ _ hm (by omega);omega
          | false=>have:=ihb _ _ _ _ _ hm (by omega);omega
         cases h
         refine ⟨by omega,by omega,?_⟩
         simp only [one,ftot,ByteArray.size_extract]
         omega
        ·cases h
    ·split at h
     ·cases h
     ·rename_i h0
      have hn:=nameLen_le (restAt s (i + 1)) 1
      rw [restAt_len] at hn
      cases h
      refine ⟨by omega,by omega,?_⟩
      simp only [one,ftot,ByteArray.size_extract]
      have:(⟨#[]⟩:ByteArray).size = 0:=rfl
      omega
theorem tok_ft (s:ByteArray) (i:Nat) (hi:i≤s.size):ftot (tokAt s i).l≤2 * ((tokAt s i).j - i)∧(tokAt s i).t.size≤s.size:=by
 have h1:=ahead_le s (s.size + 1) i hi
 unfold tokAt
 generalize aheadF (s.size + 1) s i = m at h1 ⊢
 unfold tokF
 split
 ·exact ⟨Nat.zero_le _,Nat.zero_le _⟩
 ·split
  ·exact ⟨Nat.zero_le _,Nat.zero_le _⟩
  ·split
   ·split
    ·exact ⟨Nat.zero_le _,Nat.zero_le _⟩
    ·refine ⟨Nat.zero_le _,?_⟩
     simp only [ByteArray.size_extract];omega
   ·split
    ·rename_i l j hw
     have:=(ends_ft s (s.size + 1)).2.1 _ _ _ _ _ hw h1.2
     have hA0:A0.ft = 0:=rfl
     exact ⟨by simp only [];omega,Nat.zero_le _⟩
    ·exact ⟨Nat.zero_le _,Nat.zero_le _⟩
end Lx
end Go.Proofs.YtoklgmbpgnimcaaGreatDoor
