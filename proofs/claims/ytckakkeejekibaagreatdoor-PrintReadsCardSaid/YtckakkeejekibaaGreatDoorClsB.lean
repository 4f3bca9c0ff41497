/- What bytes and texts are in a program (package class), as plain functions, and what the reference's lists of bytes say of them. -/
import Derived.Test.YtckakkeejekibaaGreatDoorRows
import Derived.Lib.Hide
import Derived.WalkSpells
import Derived.WalkLawsBesides
import Derived.Lib.Strings
set_option maxHeartbeats 400000
namespace Go.Proofs.YtckakkeejekibaaGreatDoor
open Go.RowKit
namespace j6
def jE (n:Nat):Bool:=(n:Int) == 32 || (n:Int) == 9
def yX (n:Nat):Bool:=(n:Int) == 32 || (n:Int) == 9 || (n:Int) == 10
def lL (n:Nat):Bool:=(n:Int) == 59 || (n:Int) == 38 || (n:Int) == 124 || (n:Int) == 40 || (n:Int) == 41 || (n:Int) == 60 || (n:Int) == 62
def yY (n:Nat):Bool:=(n:Int) == 34 || (n:Int) == 36 || (n:Int) == 39 || (n:Int) == 92 || (n:Int) == 96
def nO (n:Nat):Bool:=!yX n && !lL n && !yY n
def iX (n:Nat):Bool:=decide (97≤n∧n≤122∨65≤n∧n≤90∨n = 95)
def eZ (n:Nat):Bool:=decide (48≤n∧n≤57)
def okB (j n:Nat):Bool:=iX n || (decide (j ≠ 0) && eZ n)
def bV (l:List UInt8):Bool:=decide (0 < l.length∧∀ j,j < l.length→okB j (l.getD j 0).toNat = true)
def jI (l:List UInt8):Bool:=l == [64] || l == [42] || l == [35] || l == [63] || l == [36] || l == [33]
def nu (l:List UInt8):Bool:=l.all fun x=>eZ x.toNat
def iA (l:List UInt8):Bool:=decide (0 < l.length∧l.length≤3) && (!(l.getD 0 0).toNat == 48 || l == [48]) && nu l
def iZ (l:List UInt8):Bool:=bV l || jI l || iA l
def words:List (List UInt8):=[[33],[123],[125],[105,102],[116,104,101,110],[101,108,115,101],[101,108,105,102],[102,105],[119,104,105,108,101],[117,110,116,105,108],[100,111],[100,111,110,101],[102,111,114],[105,110],[99,97,115,101],[101,115,97,99]]
def bF (l:List UInt8):Bool:=words.any fun x=>l == x
theorem ai {a b:Bool} (h:a = b):Ending.returned (.bool a) = .returned (.bool b):=by rw [h]
theorem bytes_inj {a b:ByteArray} (h:a.toList = b.toList):a = b:=by
 rw [Lib.toList_data,Lib.toList_data] at h;cases a;cases b;simpa using h
theorem BK (n:Nat) (w:World) :
  Calls Tryz.prog 117 #[.int .u8 n] w fun e w'=>e = .returned (.bool (jE n))∧w = w':=by
 go_enter Tryz.func117,Tryz.ntmps117;go_wp2_with fail
 all_goals (go_ret;exact ⟨ai (by first | rfl | (simp only [jE, *];done) | (simp only [jE, *];rfl)),rfl⟩)
theorem rR (n:Nat) (w:World) :
  Calls Tryz.prog 122 #[.int .u8 n] w fun e w'=>e = .returned (.bool (lL n))∧w = w':=by
 go_enter Tryz.func122,Tryz.ntmps122;go_wp2_with fail
 all_goals (go_ret;exact ⟨ai (by first | rfl | (simp only [lL, *];done) | (simp only [lL, *];rfl)),rfl⟩)
theorem EX (n:Nat) (w:World) :
  Calls Tryz.prog 170 #[.int .u8 n] w fun e w'=>e = .returned (.bool (yY n))∧w = w':=by
 go_enter Tryz.func170,Tryz.ntmps170;go_wp2_with fail
 all_goals (go_ret;exact ⟨ai (by first | rfl | (simp only [yY, *];done) | (simp only [yY, *];rfl)),rfl⟩)
theorem lS (n:Nat) (w:World) :
  Calls Tryz.prog 109 #[.int .u8 n] w fun e w'=>e = .returned (.bool (iX n))∧w = w':=by
 go_enter Tryz.func109,Tryz.ntmps109;go_wp2_with fail
 all_goals (go_ret;exact ⟨ai (by rw [Bool.eq_iff_iff];simp [iX];omega),rfl⟩)
theorem nK (n:Nat) (w:World) :
  Calls Tryz.prog 110 #[.int .u8 n] w fun e w'=>e = .returned (.bool (eZ n))∧w = w':=by
 go_enter Tryz.func110,Tryz.ntmps110;go_wp2_with fail
 all_goals (go_ret;exact ⟨ai (by rw [Bool.eq_iff_iff];simp [eZ];omega),rfl⟩)
theorem LJ (n:Nat) (w:World) :
  Calls Tryz.prog 169 #[.int .u8 n] w fun e w'=>e = .returned (.bool (yX n))∧w = w':=by
 cases hb:jE n
 all_goals
  have HB:=Lib.hid hb;go_enter Tryz.func169,Tryz.ntmps169;go_wp2_with (go_at_call 117;refine (BK _ _).mono ?_;rintro e w' ⟨rfl,rfl⟩)
  all_goals (go_ret;exact ⟨ai (by have:=HB.out;unfold jE at this;simp [yX,this]),rfl⟩)
theorem vw (n:Nat) (w:World) :
  Calls Tryz.prog 148 #[.int .u8 n] w fun e w'=>e = .returned (.bool (nO n))∧w = w':=by
 unfold nO;cases hb:yX n <;> cases hs:lL n
 all_goals
  go_enter Tryz.func148,Tryz.ntmps148
  go_wp2_with (first
   | (go_at_call 169;refine (LJ _ _).mono ?_;rintro e w' ⟨rfl,rfl⟩)
   | (go_at_call 122;refine (rR _ _).mono ?_;rintro e w' ⟨rfl,rfl⟩)
   | (go_at_call 170;refine (EX _ _).mono ?_;rintro e w' ⟨rfl,rfl⟩))
  all_goals (go_ret;exact ⟨rfl,rfl⟩)
theorem uq {s:ByteArray} {k:Nat} (h:k < s.size):s[k] = s.data.toList.getD k 0:=by
 have:k < s.data.toList.length:=by simpa using h
 simp only [List.getD,List.getElem?_eq_getElem this,Option.getD_some];rfl
end j6
end Go.Proofs.YtckakkeejekibaaGreatDoor
