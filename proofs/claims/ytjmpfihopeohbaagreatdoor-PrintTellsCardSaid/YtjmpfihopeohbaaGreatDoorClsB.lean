/- What bytes and texts are in a program (package class), as plain functions, and what the reference's lists of bytes say of them. -/
import Derived.Test.YtjmpfihopeohbaaGreatDoorRows
import Derived.Lib.Hide
import Derived.WalkSpells
import Derived.WalkLawsBesides
import Derived.Lib.Strings
set_option maxHeartbeats 800000
namespace Go.Proofs.YtjmpfihopeohbaaGreatDoor
open Go.RowKit
namespace Cls
def blankB (n:Nat):Bool:=(n:Int) == 32 || (n:Int) == 9
def breakB (n:Nat):Bool:=(n:Int) == 32 || (n:Int) == 9 || (n:Int) == 10
def signB (n:Nat):Bool:=(n:Int) == 59 || (n:Int) == 38 || (n:Int) == 124 || (n:Int) == 40 || (n:Int) == 41 || (n:Int) == 60 || (n:Int) == 62
def quoteB (n:Nat):Bool:=(n:Int) == 34 || (n:Int) == 36 || (n:Int) == 39 || (n:Int) == 92 || (n:Int) == 96
def bareB (n:Nat):Bool:=!breakB n && !signB n && !quoteB n
def letterB (n:Nat):Bool:=decide (97≤n∧n≤122∨65≤n∧n≤90∨n = 95)
def digitB (n:Nat):Bool:=decide (48≤n∧n≤57)
def amongB (n:Nat) (l:List UInt8):Bool:=l.any fun x=>x.toNat == n
def signs:List UInt8:=[59,38,124,40,41,60,62]
def letters:List UInt8:=[97,98,99,100,101,102,103,104,105,106,107,108,109,110,111,112,113,114,115,116,117,118,119,120,121,122,65,66,67,68,69,70,71,72,73,74,75,76,77,78,79,80,81,82,83,84,85,86,87,88,89,90,95]
def digits:List UInt8:=[48,49,50,51,52,53,54,55,56,57]
def specials:List UInt8:=[64,42,35,63,36,33,48]
theorem among_signs0:∀ n:Fin 256,amongB n signs = signB n:=by decide +kernel
theorem among_letters0:∀ n:Fin 256,amongB n letters = letterB n:=by decide +kernel
theorem among_digits0:∀ n:Fin 256,amongB n digits = digitB n:=by decide +kernel
theorem among_signs (n:Nat) (h:n < 256):amongB n signs = signB n:=among_signs0 ⟨n,h⟩
theorem among_letters (n:Nat) (h:n < 256):amongB n letters = letterB n:=among_letters0 ⟨n,h⟩
theorem among_digits (n:Nat) (h:n < 256):amongB n digits = digitB n:=among_digits0 ⟨n,h⟩
def okB (j n:Nat):Bool:=letterB n || (decide (j ≠ 0) && digitB n)
def nameL (l:List UInt8):Bool:=decide (0 < l.length∧∀ j,j < l.length→okB j (l.getD j 0).toNat = true)
def specialL (l:List UInt8):Bool:=l == [64] || l == [42] || l == [35] || l == [63] || l == [36] || l == [33]
def digitsL (l:List UInt8):Bool:=l.all fun x=>digitB x.toNat
def numberL (l:List UInt8):Bool:=decide (0 < l.length∧l.length≤3) && (!(l.getD 0 0).toNat == 48 || l == [48]) && digitsL l
def paramL (l:List UInt8):Bool:=nameL l || specialL l || numberL l
def words:List (List UInt8):=[[33],[123],[125],[105,102],[116,104,101,110],[101,108,115,101],[101,108,105,102],[102,105],[119,104,105,108,101],[117,110,116,105,108],[100,111],[100,111,110,101],[102,111,114],[105,110],[99,97,115,101],[101,115,97,99]]
def reservedL (l:List UInt8):Bool:=words.any fun x=>l == x
theorem ret_bool {a b:Bool} (h:a = b):Ending.returned (.bool a) = .returned (.bool b):=by rw [h]
theorem bytes_inj {a b:ByteArray} (h:a.toList = b.toList):a = b:=by
 rw [Lib.toList_data,Lib.toList_data] at h;cases a;cases b;simpa using h
end Cls
end Go.Proofs.YtjmpfihopeohbaaGreatDoor
namespace Go.Proofs.YtjmpfihopeohbaaGreatDoor
open Go.RowKit
namespace Cls
theorem blank_any (n:Nat) (w:World) :
  Calls Tryz.prog 117 #[.int .u8 n] w fun e w'=>e = .returned (.bool (blankB n))∧w = w':=by
 go_enter Tryz.func117,Tryz.ntmps117;go_wp2_with fail
 all_goals (go_ret;exact ⟨ret_bool (by first | rfl | (simp only [blankB, *];done) | (simp only [blankB, *];rfl)),rfl⟩)
theorem rbreak_any (n:Nat) (w:World) :
  Calls Tryz.prog 207 #[.int .u8 n] w fun e w'=>e = .returned (.bool (breakB n))∧w = w':=by
 go_enter Tryz.func207,Tryz.ntmps207;go_wp2_with fail
 all_goals (go_ret;exact ⟨ret_bool (by first | rfl | (simp only [breakB, *];done) | (simp only [breakB, *];rfl)),rfl⟩)
theorem sign_any (n:Nat) (w:World) :
  Calls Tryz.prog 122 #[.int .u8 n] w fun e w'=>e = .returned (.bool (signB n))∧w = w':=by
 go_enter Tryz.func122,Tryz.ntmps122;go_wp2_with fail
 all_goals (go_ret;exact ⟨ret_bool (by first | rfl | (simp only [signB, *];done) | (simp only [signB, *];rfl)),rfl⟩)
theorem quoting_any (n:Nat) (w:World) :
  Calls Tryz.prog 170 #[.int .u8 n] w fun e w'=>e = .returned (.bool (quoteB n))∧w = w':=by
 go_enter Tryz.func170,Tryz.ntmps170;go_wp2_with fail
 all_goals (go_ret;exact ⟨ret_bool (by first | rfl | (simp only [quoteB, *];done) | (simp only [quoteB, *];rfl)),rfl⟩)
theorem letter_any (n:Nat) (w:World) :
  Calls Tryz.prog 109 #[.int .u8 n] w fun e w'=>e = .returned (.bool (letterB n))∧w = w':=by
 go_enter Tryz.func109,Tryz.ntmps109;go_wp2_with fail
 all_goals (go_ret;exact ⟨ret_bool (by rw [Bool.eq_iff_iff];simp [letterB];omega),rfl⟩)
theorem digit_any (n:Nat) (w:World) :
  Calls Tryz.prog 110 #[.int .u8 n] w fun e w'=>e = .returned (.bool (digitB n))∧w = w':=by
 go_enter Tryz.func110,Tryz.ntmps110;go_wp2_with fail
 all_goals (go_ret;exact ⟨ret_bool (by rw [Bool.eq_iff_iff];simp [digitB];omega),rfl⟩)
theorem break_any (n:Nat) (w:World) :
  Calls Tryz.prog 169 #[.int .u8 n] w fun e w'=>e = .returned (.bool (breakB n))∧w = w':=by
 cases hb:blankB n
 all_goals
  have HB:=Lib.hid hb;go_enter Tryz.func169,Tryz.ntmps169;go_wp2_with (go_at_call 117;refine (blank_any _ _).mono ?_;rintro e w' ⟨rfl,rfl⟩)
  all_goals (go_ret;exact ⟨ret_bool (by have:=HB.out;unfold blankB at this;simp [breakB,this]),rfl⟩)
theorem bare_any (n:Nat) (w:World) :
  Calls Tryz.prog 148 #[.int .u8 n] w fun e w'=>e = .returned (.bool (bareB n))∧w = w':=by
 unfold bareB;cases hb:breakB n <;> cases hs:signB n
 all_goals
  go_enter Tryz.func148,Tryz.ntmps148
  go_wp2_with (first
   | (go_at_call 169;refine (break_any _ _).mono ?_;rintro e w' ⟨rfl,rfl⟩)
   | (go_at_call 122;refine (sign_any _ _).mono ?_;rintro e w' ⟨rfl,rfl⟩)
   | (go_at_call 170;refine (quoting_any _ _).mono ?_;rintro e w' ⟨rfl,rfl⟩))
  all_goals (go_ret;exact ⟨rfl,rfl⟩)
theorem among_snoc {n k:Nat} {l:List UInt8} (h:amongB n (l.take k) = false) (hk:k < l.length) (hn:(l.getD k 0).toNat ≠ n):amongB n (l.take (k + 1)) = false:=by
 rw [List.take_succ_eq_append_getElem hk];unfold amongB at h ⊢
 rw [List.any_append,h];simp only [List.getD,List.getElem?_eq_getElem hk,Option.getD_some] at hn;simp [hn]
theorem among_hit {n k:Nat} {l:List UInt8} (hk:k < l.length) (hn:(l.getD k 0).toNat = n):amongB n l = true:=by
 unfold amongB;simp only [List.getD,List.getElem?_eq_getElem hk,Option.getD_some] at hn;rw [List.any_eq_true];exact ⟨l[k],List.getElem_mem hk,by simp [hn]⟩
theorem getB {s:ByteArray} {k:Nat} (h:k < s.size):s[k] = s.data.toList.getD k 0:=by
 have:k < s.data.toList.length:=by simpa using h
 simp only [List.getD,List.getElem?_eq_getElem this,Option.getD_some];rfl
theorem ramong_any (n:Nat) (s:ByteArray) (w:World) (hs:s.size≤9223372036854775807) :
  Calls Tryz.prog 139 #[.int .u8 n,.string s] w fun e w'=>e = .returned (.bool (amongB n s.data.toList))∧w = w':=by
 go_enter Tryz.func139,Tryz.ntmps139;go_wp2
 go_loop [5] (fun i=>∃ k:Nat,k≤s.size∧i = .int .i64 k∧amongB n (s.data.toList.take k) = false) (fun i=>s.size - (intOf i).toNat)
 case atStart=>exact ⟨0,Nat.zero_le _,rfl,rfl⟩
 case round =>
  obtain ⟨k,hk,rfl,hr⟩:=hrel;have HR:=Lib.hid hr;clear hr
  by_cases hlt:k < s.size
  ·have hlt':k < s.data.toList.length:=by simpa using hlt
   by_cases hn:s[k].toNat = n
   ·have hb:((s[k].toNat:Int) == (n:Int)) = true:=by simp [hn]
    have HN:=Lib.hid hn;clear hn;go_wp2;go_ret;exact ⟨ret_bool (among_hit hlt' (by rw [← getB hlt];exact HN.out)).symm,rfl⟩
   ·have hb:((s[k].toNat:Int) == (n:Int)) = false:=by simp;omega
    have HN:=Lib.hid hn;clear hn;go_wp2;go_round
    case rel=>exact ⟨k + 1,by omega,by go_num,among_snoc HR.out hlt' (by rw [← getB hlt];exact HN.out)⟩
    case measure=>simp [intOf];omega
  ·go_wp2;go_ret;exact ⟨ret_bool (by rw [← HR.out,List.take_of_length_le (by simp;omega)]),rfl⟩
theorem rsign_any (n:Nat) (hn:n < 256) (w:World) :
  Calls Tryz.prog 208 #[.int .u8 n] w fun e w'=>e = .returned (.bool (signB n))∧w = w':=by
 rw [← among_signs n hn];go_enter Tryz.func208,Tryz.ntmps208;go_wp2_with (go_at_call 139;refine (ramong_any _ _ _ (by decide)).mono ?_;rintro e w' ⟨rfl,rfl⟩);go_ret;exact ⟨rfl,rfl⟩
theorem rletter_any (n:Nat) (hn:n < 256) (w:World) :
  Calls Tryz.prog 114 #[.int .u8 n] w fun e w'=>e = .returned (.bool (letterB n))∧w = w':=by
 rw [← among_letters n hn];go_enter Tryz.func114,Tryz.ntmps114;go_wp2_with (go_at_call 139;refine (ramong_any _ _ _ (by decide)).mono ?_;rintro e w' ⟨rfl,rfl⟩);go_ret;exact ⟨rfl,rfl⟩
theorem rdigit_any (n:Nat) (hn:n < 256) (w:World) :
  Calls Tryz.prog 115 #[.int .u8 n] w fun e w'=>e = .returned (.bool (digitB n))∧w = w':=by
 rw [← among_digits n hn];go_enter Tryz.func115,Tryz.ntmps115;go_wp2_with (go_at_call 139;refine (ramong_any _ _ _ (by decide)).mono ?_;rintro e w' ⟨rfl,rfl⟩);go_ret;exact ⟨rfl,rfl⟩
theorem rbare_any (n:Nat) (hn:n < 256) (w:World) :
  Calls Tryz.prog 180 #[.int .u8 n] w fun e w'=>e = .returned (.bool (bareB n))∧w = w':=by
 unfold bareB;cases hb:breakB n <;> cases hs:signB n
 all_goals
  go_enter Tryz.func180,Tryz.ntmps180
  go_wp2_with (first
   | (go_at_call 207;refine (rbreak_any _ _).mono ?_;rintro e w' ⟨rfl,rfl⟩)
   | (go_at_call 208;refine (rsign_any _ hn _).mono ?_;rintro e w' ⟨rfl,rfl⟩))
  all_goals (go_ret;exact ⟨ret_bool (by first | rfl | (simp [quoteB, *];done) | (simp [quoteB,bne, *];done)),rfl⟩)
end Cls
end Go.Proofs.YtjmpfihopeohbaaGreatDoor
