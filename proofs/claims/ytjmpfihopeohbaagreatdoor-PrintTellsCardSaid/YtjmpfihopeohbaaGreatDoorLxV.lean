/- What is read is right: the parts of any text; where it is broken off. -/
import Derived.Test.YtjmpfihopeohbaaGreatDoorLxI
import Derived.Test.YtjmpfihopeohbaaGreatDoorPtY
namespace Go.Proofs.YtjmpfihopeohbaaGreatDoor
open Go.RowKit Go.Sort
namespace Lx
open Cls Pt
def lastP:Option (Int × Bool)→PL→Option (Int × Bool)
 | p,.nil=>p
 | _,.cons k q _ _ _ r=>lastP (some (k,q)) r
structure Rt (a:A) (at' d:Nat):Prop where
 l:rightL none a.l at' d = true
 h0:a.cur = none→((lastP none a.l).any fun x=>x.1 == 1) = false
 h1:∀ q bs,a.cur = some (q,bs)→((lastP none a.l).any fun x=>x.1 == 1 && x.2 == q) = false∧textOK q bs at' = true∧(at' == 2 && !q) = false
end Lx
end Go.Proofs.YtjmpfihopeohbaaGreatDoor
namespace Go.Proofs.YtjmpfihopeohbaaGreatDoor
open Go.RowKit Go.Sort
namespace Lx
open Cls Pt
def aheadF:Nat→ByteArray→Nat→Nat
 | 0,_,i=>i
 | n + 1,s,i =>
  if s.size≤i then i
  else if blankB (byteAt s i).toNat then aheadF n s (i + 1)
  else if Lib.hasPrefix (restAt s i) [92,10] then aheadF n s (i + 2)
  else if ((byteAt s i).toNat:Int) == 35 then
   if 0≤Lib.indexByte (restAt s i) 10 then aheadF n s (i + (Lib.indexByte (restAt s i) 10).toNat) else s.size
  else i
theorem prefix_le {s:ByteArray} {i:Nat} (h:Lib.hasPrefix (restAt s i) [92,10] = true):i + 2≤s.size:=by
 have:=(List.isPrefixOf_iff_prefix.1 h).length_le;rw [restAt_len] at this;simp at this;omega
theorem index_lt {s:ByteArray} {i:Nat} {c:UInt8} (h0:0≤Lib.indexByte (restAt s i) c):i + (Lib.indexByte (restAt s i) c).toNat < s.size:=by
 have hn:(Lib.indexByte (restAt s i) c).toNat < (restAt s i).length:=by
  have:=(Lib.indexByte_some (l:=restAt s i) (c:=c) (o:=(Lib.indexByte (restAt s i) c).toNat) (by omega)).1;exact (List.getElem?_eq_some_iff.1 this).1
 rw [restAt_len] at hn;omega
theorem index_pos {s:ByteArray} {i:Nat} (hi:i < s.size) (h:((byteAt s i).toNat:Int) == 35) (h0:0≤Lib.indexByte (restAt s i) 10):0 < (Lib.indexByte (restAt s i) 10).toNat:=by
 refine Classical.byContradiction fun hn=>?_;have:=(Lib.indexByte_some (l:=restAt s i) (c:=10) (o:=0) (by omega)).1;rw [restAt_cons hi] at this;simp only [List.getElem?_cons_zero,Option.some.injEq] at this;unfold byteAt at h;rw [this] at h;cases h
theorem ahead_le (s:ByteArray):∀ n i,i≤s.size→i≤aheadF n s i∧aheadF n s i≤s.size:=by
 intro n
 induction n with
 | zero=>exact fun i h=>⟨Nat.le_refl _,h⟩
 | succ n ih =>
  intro i hi;rw [aheadF];split
  ·exact ⟨Nat.le_refl _,hi⟩
  ·split
   ·have:=ih (i + 1) (by omega);omega
   ·split
    ·rename_i hp;have:=ih (i + 2) (prefix_le hp);omega
    ·split
     ·split
      ·rename_i h0;have h1:=index_lt h0;have:=ih _ (Nat.le_of_lt h1);omega
      ·omega
     ·omega
end Lx
end Go.Proofs.YtjmpfihopeohbaaGreatDoor
