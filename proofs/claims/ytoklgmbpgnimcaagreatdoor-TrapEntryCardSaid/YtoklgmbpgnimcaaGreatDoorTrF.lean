/- Plain; the reference's Split: for all parts. -/
/- Which fields a node may have (onlyItsOwn); words that are right; a command's first word. -/
import Derived.Test.YtoklgmbpgnimcaaGreatDoorPtY
import Derived.Test.YtoklgmbpgnimcaaGreatDoorClsN
import Derived.Test.YtoklgmbpgnimcaaGreatDoorTrE
import Derived.Test.YtoklgmbpgnimcaaGreatDoorSpC
namespace Go.Proofs.YtoklgmbpgnimcaaGreatDoor
open Go.RowKit Go.Sort
namespace Sp
open Cls Pt
def plainB:PL→Bool
 | .cons k q _ _ _ .nil=>k == 1 && !q
 | _=>false
def plainT:PL→ByteArray
 | .cons k q t _ _ .nil=>if k == 1 && !q then t else ⟨#[]⟩
 | _=>⟨#[]⟩
set_option maxHeartbeats 800000 in
theorem plain_any (l:PL) (a:Option Addr) (cap:Nat) (w:World) (hl:Lies w a cap l) :
  Calls Tryz.prog 51 #[.slice a l.len cap] w fun e w'=>e = .returned (.tuple #[.string (plainT l),.bool (plainB l)])∧w = w':=by
 have HL:=Lib.hid hl;clear hl
 have hle:=HL.out.le
 cases l with
 | nil =>
  go_enter Tryz.func51,Tryz.ntmps51
  go_wp2
  go_ret2
  exact ⟨rfl,rfl⟩
 | cons k q t o f r =>
  cases r with
  | cons k2 q2 t2 o2 f2 r2 =>
   have hlen:(PL.cons k q t o f (PL.cons k2 q2 t2 o2 f2 r2)).len = r2.len + 2:=rfl
   have hne:(((r2.len + 2:Nat):Int) != 1) = true:=by simp;omega
   rw [hlen]
   clear hlen hle
   go_enter Tryz.func51,Tryz.ntmps51
   go_wp2
   go_ret2
   exact ⟨rfl,rfl⟩
  | nil =>
   obtain ⟨b1,p1,rfl,hb1,c10,c11,c12,c13,ht,ho,a1,ca1,c14,hl1⟩:=HL.out.get (i:=0) rfl
   rw [Nat.zero_mul,Nat.add_zero] at c10 c11 c12 c13 c14
   have hlen:(PL.cons k q t o f PL.nil).len = 1:=rfl
   rw [hlen]
   clear hlen hle hl1
   cases hk:(k == 1) <;> cases q
   all_goals
    have hk2:(k != 1) = !(k == 1):=rfl
    rw [hk] at hk2
    have HK:=Lib.hid hk
    clear hk
    go_enter Tryz.func51,Tryz.ntmps51
    go_wp2
    go_ret2
    exact ⟨by simp [plainT,plainB,HK.out],rfl⟩
end Sp
end Go.Proofs.YtoklgmbpgnimcaaGreatDoor
namespace Go.Proofs.YtoklgmbpgnimcaaGreatDoor
open Go.RowKit Go.Sort
namespace Tr
open Cls Pt
end Tr
end Go.Proofs.YtoklgmbpgnimcaaGreatDoor
