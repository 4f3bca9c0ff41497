/- What bytes and texts are in a program (package class), as plain functions, and what the reference's lists of bytes say of them. -/
/- What the small functions of package class answer (Blank, Break, Sign, Bare, Letter, Digit), in the program and in the reference, for every byte. -/
import Derived.Test.YtoklgmbpgnimcaaGreatDoorRows
import Derived.WalkKit
import Derived.Lib.Hide
import Derived.WalkSpells
import Derived.WalkLawsBesides
import Derived.Lib.Strings
namespace Go.Proofs.YtoklgmbpgnimcaaGreatDoor
open Go.RowKit
namespace Cls
def blankB (n:Nat):Bool:=(n:Int) == 32 || (n:Int) == 9
def breakB (n:Nat):Bool:=(n:Int) == 32 || (n:Int) == 9 || (n:Int) == 10
def signB (n:Nat):Bool:=(n:Int) == 59 || (n:Int) == 38 || (n:Int) == 124 || (n:Int) == 40 || (n:Int) == 41 || (n:Int) == 60 || (n:Int) == 62
def quoteB (n:Nat):Bool:=(n:Int) == 34 || (n:Int) == 36 || (n:Int) == 39 || (n:Int) == 92 || (n:Int) == 96
def bareB (n:Nat):Bool:=!breakB n && !signB n && !quoteB n
def letterB (n:Nat):Bool:=decide (97≤n∧n≤122∨65≤n∧n≤90∨n = 95)
def digitB (n:Nat):Bool:=decide (48≤n∧n≤57)
def okB (j n:Nat):Bool:=letterB n || (decide (j ≠ 0) && digitB n)
def nameL (l:List UInt8):Bool:=decide (0 < l.length∧∀ j,j < l.length→okB j (l.getD j 0).toNat = true)
def specialL (l:List UInt8):Bool:=l == [64] || l == [42] || l == [35] || l == [63] || l == [36] || l == [33]
def digitsL (l:List UInt8):Bool:=l.all fun x=>digitB x.toNat
def numberL (l:List UInt8):Bool:=decide (0 < l.length∧l.length≤3) && (!(l.getD 0 0).toNat == 48 || l == [48]) && digitsL l
def paramL (l:List UInt8):Bool:=nameL l || specialL l || numberL l
def words:List (List UInt8):=[[33],[123],[125],[105,102],[116,104,101,110],[101,108,115,101],[101,108,105,102],[102,105],[119,104,105,108,101],[117,110,116,105,108],[100,111],[100,111,110,101],[102,111,114],[105,110],[99,97,115,101],[101,115,97,99]]
def reservedL (l:List UInt8):Bool:=words.any fun x=>l == x
theorem ret_bool {a b:Bool} (h:a = b):Ending.returned (.bool a) = .returned (.bool b):=by rw [h]
theorem bytes_inj {a b:ByteArray} (h:a.toList = b.toList):a = b:=by
 rw [Lib.toList_data,Lib.toList_data] at h
 cases a;cases b
 simpa using h
end Cls
end Go.Proofs.YtoklgmbpgnimcaaGreatDoor
namespace Go.Proofs.YtoklgmbpgnimcaaGreatDoor
open Go.RowKit
namespace Cls
set_option maxHeartbeats 400000 in
theorem blank_any (n:Nat) (w:World) :
  Calls Tryz.prog 62 #[.int .u8 n] w fun e w'=>e = .returned (.bool (blankB n))∧w = w':=by
 go_enter Tryz.func62,Tryz.ntmps62
 go_wp2_with fail
 all_goals (go_ret;exact ⟨ret_bool (by first | rfl | (simp only [blankB, *];done) | (simp only [blankB, *];rfl)),rfl⟩)
set_option maxHeartbeats 400000 in
theorem sign_any (n:Nat) (w:World) :
  Calls Tryz.prog 67 #[.int .u8 n] w fun e w'=>e = .returned (.bool (signB n))∧w = w':=by
 go_enter Tryz.func67,Tryz.ntmps67
 go_wp2_with fail
 all_goals (go_ret;exact ⟨ret_bool (by first | rfl | (simp only [signB, *];done) | (simp only [signB, *];rfl)),rfl⟩)
set_option maxHeartbeats 400000 in
theorem quoting_any (n:Nat) (w:World) :
  Calls Tryz.prog 105 #[.int .u8 n] w fun e w'=>e = .returned (.bool (quoteB n))∧w = w':=by
 go_enter Tryz.func105,Tryz.ntmps105
 go_wp2_with fail
 all_goals (go_ret;exact ⟨ret_bool (by first | rfl | (simp only [quoteB, *];done) | (simp only [quoteB, *];rfl)),rfl⟩)
set_option maxHeartbeats 400000 in
theorem letter_any (n:Nat) (w:World) :
  Calls Tryz.prog 116 #[.int .u8 n] w fun e w'=>e = .returned (.bool (letterB n))∧w = w':=by
 go_enter Tryz.func116,Tryz.ntmps116
 go_wp2_with fail
 all_goals (go_ret;exact ⟨ret_bool (by rw [Bool.eq_iff_iff];simp [letterB];omega),rfl⟩)
set_option maxHeartbeats 400000 in
theorem digit_any (n:Nat) (w:World) :
  Calls Tryz.prog 119 #[.int .u8 n] w fun e w'=>e = .returned (.bool (digitB n))∧w = w':=by
 go_enter Tryz.func119,Tryz.ntmps119
 go_wp2_with fail
 all_goals (go_ret;exact ⟨ret_bool (by rw [Bool.eq_iff_iff];simp [digitB];omega),rfl⟩)
set_option maxHeartbeats 400000 in
theorem break_any (n:Nat) (w:World) :
  Calls Tryz.prog 104 #[.int .u8 n] w fun e w'=>e = .returned (.bool (breakB n))∧w = w':=by
 cases hb:blankB n
 all_goals
  have HB:=Lib.hid hb
  go_enter Tryz.func104,Tryz.ntmps104
  go_wp2_with (go_at_call 62;refine (blank_any _ _).mono ?_;rintro e w' ⟨rfl,rfl⟩)
  all_goals (go_ret;exact ⟨ret_bool (by have:=HB.out;unfold blankB at this;simp [breakB,this]),rfl⟩)
set_option maxHeartbeats 400000 in
theorem bare_any (n:Nat) (w:World) :
  Calls Tryz.prog 87 #[.int .u8 n] w fun e w'=>e = .returned (.bool (bareB n))∧w = w':=by
 unfold bareB
 cases hb:breakB n <;> cases hs:signB n
 all_goals
  go_enter Tryz.func87,Tryz.ntmps87
  go_wp2_with (first
   | (go_at_call 104;refine (break_any _ _).mono ?_;rintro e w' ⟨rfl,rfl⟩)
   | (go_at_call 67;refine (sign_any _ _).mono ?_;rintro e w' ⟨rfl,rfl⟩)
   | (go_at_call 105;refine (quoting_any _ _).mono ?_;rintro e w' ⟨rfl,rfl⟩))
  all_goals (go_ret;exact ⟨rfl,rfl⟩)
theorem getB {s:ByteArray} {k:Nat} (h:k < s.size):s[k] = s.data.toList.getD k 0:=by
 have:k < s.data.toList.length:=by simpa using h
 simp only [List.getD,List.getElem?_eq_getElem this,Option.getD_some]
 rfl
end Cls
end Go.Proofs.YtoklgmbpgnimcaaGreatDoor
