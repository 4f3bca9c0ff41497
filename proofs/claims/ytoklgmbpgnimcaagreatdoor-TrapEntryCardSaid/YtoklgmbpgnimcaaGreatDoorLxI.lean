/- What is read, as plain functions: a word's parts, what stands in double marks, a parameter; or where it is wrong. -/
import Derived.Test.YtoklgmbpgnimcaaGreatDoorLxG
namespace Go.Proofs.YtoklgmbpgnimcaaGreatDoor
open Go.RowKit Go.Sort
namespace Lx
open Cls Pt
inductive Out where
 | ok (l:PL) (at':Nat)
 | bad (at' err:Nat)
def A0:A:=⟨.nil,none⟩
def stopB (d c:Nat):Bool:=(((d:Int) == 0) && !bareB c) || (decide (0 < d) && ((c:Int) == 125))
def byteAt (s:ByteArray) (i:Nat):UInt8:=s.data.toList.getD i 0
def nz (m:PL):PL:=match m with | .nil=>A.lit true [] | m=>m
def sufEq (o:List UInt8):Bool:=Lib.hasSuffix o [61]
mutual
def bareF:Nat→ByteArray→Nat→A→Nat→Out
 | 0,_,_,_,i=>.bad i 9
 | n + 1,s,d,a,i =>
  if s.size≤i then .ok a.flush i
  else if ((byteAt s i).toNat:Int) == 39 then
   if 0≤Lib.indexByte (restAt s (i + 1)) 39 then bareF n s d (a.text ((restAt s (i + 1)).take (Lib.indexByte (restAt s (i + 1)) 39).toNat) true) (i + (Lib.indexByte (restAt s (i + 1)) 39).toNat + 2) else .bad i 1
  else if ((byteAt s i).toNat:Int) == 34 then
   match markedF n s 34 d A0 (i + 1) with
   | .bad j e=>.bad j e
   | .ok m j=>if s.size≤j then .bad i 1 else bareF n s d (a.join (nz m)) (j + 1)
  else if ((byteAt s i).toNat:Int) == 92 then
   if s.size≤i + 1 then .bad i 1 else bareF n s d (escA a (byteAt s (i + 1))) (i + 2)
  else if ((byteAt s i).toNat:Int) == 96 then .bad i 1
  else if ((byteAt s i).toNat:Int) == 36 then
   match paramF n s false (d + 1) i with
   | .bad j e=>.bad j e
   | .ok p j=>bareF n s d (a.add p) j
  else if stopB d (byteAt s i).toNat then .ok a.flush i
  else bareF n s d (a.text [byteAt s i] false) (i + 1)
def markedF:Nat→ByteArray→Nat→Nat→A→Nat→Out
 | 0,_,_,_,_,i=>.bad i 9
 | n + 1,s,ec,d,a,i =>
  if s.size≤i then .ok a.flush i
  else if ((byteAt s i).toNat:Int) == (ec:Int) then .ok a.flush i
  else if ((byteAt s i).toNat:Int) == 34 || ((byteAt s i).toNat:Int) == 96 then .bad i 1
  else if ((byteAt s i).toNat:Int) == 36 then
   match paramF n s true (d + 1) i with
   | .bad j e=>.bad j e
   | .ok p j=>markedF n s ec d (a.add p) j
  else if ((byteAt s i).toNat:Int) == 92 then markedF n s ec d (slashR ec (restAt s (i + 1)) a).1 (i + (slashR ec (restAt s (i + 1)) a).2)
  else markedF n s ec d (a.text [byteAt s i] true) (i + 1)
def paramF:Nat→ByteArray→Bool→Nat→Nat→Out
 | 0,_,_,_,i=>.bad i 9
 | n + 1,s,q,d,i =>
  if 200 < d then .bad i 2
  else if seesB (restAt s (i + 1)) 123 then
   if !paramL ((restAt s (i + 2)).take (nameLen (restAt s (i + 2)) s.size)) || (sufEq ((restAt s (i + 2 + nameLen (restAt s (i + 2)) s.size)).take (opLen (restAt s (i + 2 + nameLen (restAt s (i + 2)) s.size)))) && !nameL ((restAt s (i + 2)).take (nameLen (restAt s (i + 2)) s.size))) then .bad i 1
   else if opLen (restAt s (i + 2 + nameLen (restAt s (i + 2)) s.size)) = 0 then
    if seesB (restAt s (i + 2 + nameLen (restAt s (i + 2)) s.size)) 125 then .ok (one 2 q (s.extract (i + 2) (i + 2 + nameLen (restAt s (i + 2)) s.size)) ⟨#[]⟩ .nil) (i + 2 + nameLen (restAt s (i + 2)) s.size + 1) else .bad i 1
   else match (if q then markedF n s 125 d A0 (i + 2 + nameLen (restAt s (i + 2)) s.size + opLen (restAt s (i + 2 + nameLen (restAt s (i + 2)) s.size))) else bareF n s d A0 (i + 2 + nameLen (restAt s (i + 2)) s.size + opLen (restAt s (i + 2 + nameLen (restAt s (i + 2)) s.size)))) with
    | .bad j e=>.bad j e
    | .ok f j=>if seesB (restAt s j) 125 then .ok (one 2 q (s.extract (i + 2) (i + 2 + nameLen (restAt s (i + 2)) s.size)) (s.extract (i + 2 + nameLen (restAt s (i + 2)) s.size) (i + 2 + nameLen (restAt s (i + 2)) s.size + opLen (restAt s (i + 2 + nameLen (restAt s (i + 2)) s.size)))) f) (j + 1) else .bad i 1
  else if nameLen (restAt s (i + 1)) 1 = 0 then .bad i 1
  else .ok (one 2 q (s.extract (i + 1) (i + 1 + nameLen (restAt s (i + 1)) 1)) ⟨#[]⟩ .nil) (i + 1 + nameLen (restAt s (i + 1)) 1)
end
theorem nameLen_le (l:List UInt8) (d:Nat):nameLen l d≤l.length:=by
 unfold nameLen
 split
 ·exact Nat.zero_le _
 ·rename_i c t
  split
  ·exact runLen_le _ _
  ·split
   ·have:=runLen_le digitB (c :: t);omega
   ·split
    ·simp
    ·exact Nat.zero_le _
theorem opLen_le (l:List UInt8):opLen l≤l.length:=by
 unfold opLen
 split
 ·exact Nat.zero_le _
 ·split
  ·split
   ·exact Nat.zero_le _
   ·split <;> simp
  ·split <;> simp
theorem slash_len {s:ByteArray} {i ec:Nat} {a:A} (hi:i < s.size):1≤(slashR ec (restAt s (i + 1)) a).2∧i + (slashR ec (restAt s (i + 1)) a).2≤s.size∧(slashR ec (restAt s (i + 1)) a).1.tot≤a.tot + 2 * (slashR ec (restAt s (i + 1)) a).2:=by
 have hx:∀ c,seesB (restAt s (i + 1)) c = true→i + 1 < s.size:=fun c h=>sees_lt h
 unfold slashR
 split
 ·rename_i h;have:=hx _ h;simp only [];omega
 ·split
  ·rename_i h
   have hl:i + 1 < s.size:=by
    simp only [Bool.or_eq_true] at h
    rcases h with (((h | h) | h) | h) | h <;> exact hx _ h
   have:=A.text_tot a [(restAt s (i + 1)).headD 0] true
   simp only [List.length_cons,List.length_nil] at this ⊢
   omega
  ·have:=A.text_tot a [92] true
   simp only [List.length_cons,List.length_nil] at this ⊢
   omega
theorem esc_tot (a:A) (c:UInt8):(escA a c).tot≤a.tot + 2:=by
 unfold escA
 split
 ·omega
 ·have:=A.text_tot a [c] true;simp only [List.length_cons,List.length_nil] at this;omega
theorem nz_tot (m:PL):tot (nz m)≤tot m + 1:=by
 cases m with
 | nil=>simp [nz,A.lit,tot];exact Nat.le_refl _
 | cons=>simp [nz]
theorem paramF_one {n:Nat} {s:ByteArray} {q:Bool} {d i j:Nat} {p:PL} (h:paramF n s q d i = .ok p j) (hi:i < s.size) (hs:∀ (m ec d:Nat) (a:A) (i j:Nat) (l:PL),(∃ n',n = n' + 1∧m = n')→markedF m s ec d a i = .ok l j→i≤s.size→i≤j∧j≤s.size)
  (hb:∀ (m d:Nat) (a:A) (i j:Nat) (l:PL),(∃ n',n = n' + 1∧m = n')→bareF m s d a i = .ok l j→i≤s.size→i≤j∧j≤s.size) :
  i < j∧j≤s.size∧∃ t o f,p = one 2 q t o f∧t.size≤j - i∧t.size≤s.size∧o.size≤s.size:=by
 cases n with
 | zero=>simp [paramF] at h
 | succ n =>
  rw [paramF] at h
  split at h
  ·cases h
  ·split at h
   ·rename_i hsee
    have h1:=sees_lt hsee
    have hn:=nameLen_le (restAt s (i + 2)) s.size
    rw [restAt_len] at hn
    have ho:=opLen_le (restAt s (i + 2 + nameLen (restAt s (i + 2)) s.size))
    rw [restAt_len] at ho
    split at h
    ·cases h
    ·split at h
     ·split at h
      ·rename_i hs2
       have h2:=sees_lt hs2
       cases h
       exact ⟨by omega,by omega,_,_,_,rfl,by simp [ByteArray.size_extract];omega,by simp [ByteArray.size_extract];omega,Nat.zero_le _⟩
      ·cases h
     ·split at h
      ·cases h
      ·rename_i f j' hm
       split at h
       ·rename_i hs2
        have h2:=sees_lt hs2
        have hj:i + 2 + nameLen (restAt s (i + 2)) s.size + opLen (restAt s (i + 2 + nameLen (restAt s (i + 2)) s.size))≤j':=by
         cases q with
         | true=>exact (hs n _ _ _ _ _ _ ⟨n,rfl,rfl⟩ hm (by omega)).1
         | false=>exact (hb n _ _ _ _ _ ⟨n,rfl,rfl⟩ hm (by omega)).1
        cases h
        exact ⟨by omega,by omega,_,_,_,rfl,by simp [ByteArray.size_extract];omega,by simp [ByteArray.size_extract];omega,by simp [ByteArray.size_extract];omega⟩
       ·cases h
   ·split at h
    ·cases h
    ·rename_i h0
     have hn:=nameLen_le (restAt s (i + 1)) 1
     rw [restAt_len] at hn
     cases h
     exact ⟨by omega,by omega,_,_,_,rfl,by simp [ByteArray.size_extract];omega,by simp [ByteArray.size_extract];omega,Nat.zero_le _⟩
theorem ends_all (s:ByteArray):∀ n,(∀ (ec d:Nat) (a:A) (i j:Nat) (l:PL),markedF n s ec d a i = .ok l j→i≤s.size→i≤j∧j≤s.size∧tot l≤a.tot + 2 * (j - i)) ∧
  (∀ (d:Nat) (a:A) (i j:Nat) (l:PL),bareF n s d a i = .ok l j→i≤s.size→i≤j∧j≤s.size) ∧
  (∀ (q:Bool) (d i j:Nat) (p:PL),paramF n s q d i = .ok p j→i < s.size→i < j∧j≤s.size∧∃ t o f,p = one 2 q t o f∧t.size≤j - i∧t.size≤s.size∧o.size≤s.size):=by
 intro n
 induction n with
 | zero=>exact ⟨fun _ _ _ _ _ _ h=>by simp [markedF] at h,fun _ _ _ _ _ h=>by simp [bareF] at h,fun _ _ _ _ _ h=>by simp [paramF] at h⟩
 | succ n ih =>
  obtain ⟨ihm,ihb,ihp⟩:=ih
  refine ⟨?_,?_,?_⟩
  ·intro ec d a i j l h hi
   rw [markedF] at h
   split at h
   ·cases h
    have:=A.flush_tot a;omega
   ·split at h
    ·cases h;have:=A.flush_tot a;omega
    ·split at h
     ·cases h
     ·split at h
      ·split at h
       ·cases h
       ·rename_i p j' hp
        obtain ⟨h1,h2,t,o,f,rfl,h3,_⟩:=ihp _ _ _ _ _ hp (by omega)
        obtain ⟨h4,h5,h6⟩:=ihm _ _ _ _ _ _ h h2
        rw [A.add_tot] at h6
        simp only [one,tot] at h6
        exact ⟨by omega,h5,by omega⟩
      ·split at h
       ·obtain ⟨k1,k2,k3⟩:=slash_len (ec:=ec) (a:=a) (show i < s.size by omega)
        obtain ⟨h4,h5,h6⟩:=ihm _ _ _ _ _ _ h k2
        exact ⟨by omega,h5,by omega⟩
       ·obtain ⟨h4,h5,h6⟩:=ihm _ _ _ _ _ _ h (by omega)
        have:=A.text_tot a [byteAt s i] true
        simp only [List.length_cons,List.length_nil] at this
        exact ⟨by omega,h5,by omega⟩
  ·intro d a i j l h hi
   rw [bareF] at h
   split at h
   ·cases h;exact ⟨by omega,by omega⟩
   ·split at h
    ·split at h
     ·rename_i h0
      have hn:(Lib.indexByte (restAt s (i + 1)) 39).toNat < (restAt s (i + 1)).length:=by
       have:=(Lib.indexByte_some (l:=restAt s (i + 1)) (c:=39) (o:=(Lib.indexByte (restAt s (i + 1)) 39).toNat) (by omega)).1
       exact (List.getElem?_eq_some_iff.1 this).1
      rw [restAt_len] at hn
      have:=ihb _ _ _ _ _ h (by omega)
      exact ⟨by omega,this.2⟩
     ·cases h
    ·split at h
     ·split at h
      ·cases h
      ·rename_i m j' hm
       split at h
       ·cases h
       ·have h1:=ihm _ _ _ _ _ _ hm (by omega)
        have h2:=ihb _ _ _ _ _ h (by omega)
        exact ⟨by omega,h2.2⟩
     ·split at h
      ·split at h
       ·cases h
       ·have h2:=ihb _ _ _ _ _ h (by omega)
        exact ⟨by omega,h2.2⟩
      ·split at h
       ·cases h
       ·split at h
        ·split at h
         ·cases h
         ·rename_i p j' hp
          have h1:=ihp _ _ _ _ _ hp (by omega)
          have h2:=ihb _ _ _ _ _ h h1.2.1
          exact ⟨by omega,h2.2⟩
        ·split at h
         ·cases h;exact ⟨by omega,by omega⟩
         ·have h2:=ihb _ _ _ _ _ h (by omega)
          exact ⟨by omega,h2.2⟩
  ·intro q d i j p h hi
   exact paramF_one h hi (fun m ec d a i j l ⟨n',h1,h2⟩ hm hi=>by
    obtain rfl:n = n':=by omega
    subst h2
    have:=ihm _ _ _ _ _ _ hm hi
    exact ⟨this.1,this.2.1⟩) (fun m d a i j l ⟨n',h1,h2⟩ hm hi=>by
    obtain rfl:n = n':=by omega
    subst h2
    exact ihb _ _ _ _ _ hm hi)
end Lx
end Go.Proofs.YtoklgmbpgnimcaaGreatDoor
