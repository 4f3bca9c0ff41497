/- The program's small functions on parts: which bytes stand for themselves, names with operators, texts. -/
import Derived.Test.YtfjfgaefbldgbaaGreatPtB
import Derived.Test.YtfjfgaefbldgbaaGreatClsN
import Derived.Test.YtfjfgaefbldgbaaGreatQTail
namespace Go.Proofs.YtfjfgaefbldgbaaGreat
open Go.RowKit Go.Sort
namespace Pt
open Cls
def escB (n:Nat):Bool:=(n:Int) == 34 || (n:Int) == 36 || (n:Int) == 92 || (n:Int) == 96 || (n:Int) == 125
def standsB (n:Nat) (at':Nat):Bool:=if at' = 0 then bareB n else !((n:Int) == 39) && !escB n
def textOK (q:Bool) (t:List UInt8) (at':Nat):Bool:=if q then (!(at' == 2) || !(t == [])) else (t.all fun c=>standsB c.toNat at') && !(t == [])
def isSet (o:List UInt8):Bool:=o == [61] || o == [58,61]
def isOp (o:List UInt8):Bool:=o == [] || o == [45] || o == [58,45] || o == [43] || o == [58,43] || o == [63] || o == [58,63]
def nameOK (t o:List UInt8):Bool:=if isSet o then nameL t else if isOp o then paramL t else false
def wth (q:Bool):Nat:=if q then 2 else 1
set_option maxHeartbeats 400000 in
theorem escaped_any (n:Nat) (w:World) :
  Calls Tryz.prog 142 #[.int .u8 n] w fun e w'=>e = .returned (.bool (escB n))∧w = w':=by
 go_enter Tryz.func142,Tryz.ntmps142
 go_wp2_with fail
 all_goals (go_ret;exact ⟨ret_bool (by first | rfl | (simp only [escB, *];done) | (simp only [escB, *];rfl)),rfl⟩)
set_option maxHeartbeats 400000 in
theorem stands_any (n at':Nat) (w:World) :
  Calls Tryz.prog 138 #[.int .u8 n,.int .i64 at'] w fun e w'=>e = .returned (.bool (standsB n at'))∧w = w':=by
 by_cases h0:at' = 0
 ·subst h0
  go_enter Tryz.func138,Tryz.ntmps138
  go_wp2_with (go_at_call 83;refine (bare_any _ _).mono ?_;rintro e w' ⟨rfl,rfl⟩)
  go_ret
  exact ⟨rfl,rfl⟩
 ·have h1:((at':Int) == 0) = false:=by simp;omega
  have H0:=Lib.hid h0;clear h0
  cases hq:(n:Int) == 39
  all_goals
   have hq2:((n:Int) != 39) = !((n:Int) == 39):=rfl
   rw [hq] at hq2
   have HQ:=Lib.hid hq
   clear hq
   go_enter Tryz.func138,Tryz.ntmps138
   go_wp2_with (go_at_call 142;refine (escaped_any _ _).mono ?_;rintro e w' ⟨rfl,rfl⟩)
   go_ret
   exact ⟨ret_bool (by simp [standsB,H0.out,HQ.out]),rfl⟩
set_option maxHeartbeats 400000 in
theorem within_any (k:Int) (q:Bool) (t o:ByteArray) (a:Option Addr) (n cap:Nat) (w:World) :
  Calls Tryz.prog 128 #[pv k q t o a n cap] w fun e w'=>e = .returned (.int .i64 (wth q))∧Below w.heap.size w w':=by
 have HB:=Lib.hid (bel1 w)
 unfold pv
 cases q
 all_goals
  go_enter Tryz.func128,Tryz.ntmps128
  go_wp2_with fail
  go_ret
  exact ⟨rfl,bel1 _ _⟩
set_option maxHeartbeats 400000 in
theorem oneText_any (k k':Int) (q q':Bool) (t t' o o':ByteArray) (a a':Option Addr) (n n' cap cap':Nat) (w:World) :
  Calls Tryz.prog 104 #[pv k q t o a n cap,pv k' q' t' o' a' n' cap'] w fun e w'=>e = .returned (.bool ((k == 1) && (k' == 1) && (q == q')))∧Below w.heap.size w w':=by
 unfold pv
 go_enter Tryz.func104,Tryz.ntmps104
 go_wp2_with fail
 all_goals go_ret
 all_goals exact ⟨ret_bool (by first | rfl | simp [*]),bel2 _ _ _⟩
set_option maxHeartbeats 400000 in
theorem comment_any (k:Int) (q:Bool) (t o:ByteArray) (a:Option Addr) (n cap:Nat) (w:World) :
  Calls Tryz.prog 90 #[pv k q t o a n cap] w fun e w'=>e = .returned (.bool ((k == 1) && !q && Lib.hasPrefix t.data.toList [35]))∧Below w.heap.size w w':=by
 unfold pv
 go_enter Tryz.func90,Tryz.ntmps90
 go_wp2_with (go_at_call 60;refine (Tryz.strings_HasPrefix _ _ _).mono ?_;rintro e w' ⟨rfl,rfl⟩)
 all_goals go_ret
 all_goals exact ⟨ret_bool (by first | rfl | simp [*]),bel1 _ _⟩
set_option maxHeartbeats 800000 in
theorem rightName_any (t o:ByteArray) (w:World) (ht:t.size≤9223372036854775807) :
  Calls Tryz.prog 127 #[.string t,.string o] w fun e w'=>e = .returned (.bool (nameOK t.data.toList o.data.toList))∧Below w.heap.size w w':=by
 rw [← Lib.toList_data o]
 go_enter Tryz.func127,Tryz.ntmps127
 go_wp2_with (first
  | (go_at_call 56;refine (name_any _ _ ht).mono ?_;rintro e w' ⟨rfl,rfl⟩)
  | (go_at_call 110;refine (param_any _ _ ht).mono ?_;rintro e w' ⟨rfl,hb⟩))
 all_goals go_ret
 all_goals refine ⟨ret_bool ?_,by first | exact Below.refl _ _ | assumption⟩
 all_goals first
  | (exfalso;simp_all;done)
  | (simp_all [nameOK,isSet,isOp];done)
  | trace_state
end Pt
end Go.Proofs.YtfjfgaefbldgbaaGreat
