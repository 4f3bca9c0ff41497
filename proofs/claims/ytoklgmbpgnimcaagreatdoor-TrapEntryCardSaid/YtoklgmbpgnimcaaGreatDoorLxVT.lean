/- All tokens of a text, as plain functions; that they are as they should be. -/
import Derived.Test.YtoklgmbpgnimcaaGreatDoorLxS
import Derived.Test.YtoklgmbpgnimcaaGreatDoorLxV
namespace Go.Proofs.YtoklgmbpgnimcaaGreatDoor
open Go.RowKit Go.Sort
namespace Lx
open Cls Pt
def tokAt (s:ByteArray) (i:Nat):Tok:=tokF s (aheadF (s.size + 1) s i)
def stopT (t:Tok):Bool:=t.k == 4 || t.k == 5
theorem tok_good (s:ByteArray) (i:Nat) (hi:i≤s.size) :
  i≤(tokAt s i).i∧(tokAt s i).i≤s.size∧((tokAt s i).k = 1→rightW (tokAt s i).l = true)∧((tokAt s i).k = 5 ↔ (tokAt s i).err ≠ 0)∧(stopT (tokAt s i) = false→i < (tokAt s i).j∧(tokAt s i).i≤(tokAt s i).j∧(tokAt s i).j≤s.size):=by
 have h1:=ahead_le s (s.size + 1) i hi
 have h2:=ahead_end s (s.size + 1) i hi (by omega)
 unfold tokAt
 generalize aheadF (s.size + 1) s i = m at h1 h2 ⊢
 unfold tokF
 split
 ·exact ⟨h1.1,h1.2,by simp,by simp,fun h=>by simp [stopT] at h⟩
 ·rename_i hm
  have hm:m < s.size:=by omega
  obtain ⟨hb,hp,h35⟩:=h2 hm
  split
  ·exact ⟨h1.1,h1.2,by simp,by simp,fun _=>by simp only [];omega⟩
  ·rename_i h10
   split
   ·split
    ·exact ⟨h1.1,h1.2,by simp,by simp,fun h=>by simp [stopT] at h⟩
    ·rename_i h0
     have hs:signLen (restAt s m)≤s.size - m:=by
      have h3:=signDown_le (restAt s m) (min 2 (restAt s m).length)
      rw [restAt_len] at h3
      unfold signLen
      rw [restAt_len]
      omega
     exact ⟨h1.1,h1.2,by simp,by simp,fun _=>by simp only [];omega⟩
   ·rename_i hsg
    split
    ·rename_i l j hw
     have:=word_good hm hw hb hp h35 h10 (by simpa using hsg)
     exact ⟨h1.1,h1.2,fun _=>this.1,by simp,fun _=>by simp only [];omega⟩
    ·rename_i j e hw
     have:=(bad_all s (s.size + 1)).2.1 _ _ _ _ _ hw h1.2
     exact ⟨by simp only [];omega,this.2.1,by simp,by simpa using this.2.2,fun h=>by simp [stopT] at h⟩
end Lx
end Go.Proofs.YtoklgmbpgnimcaaGreatDoor
