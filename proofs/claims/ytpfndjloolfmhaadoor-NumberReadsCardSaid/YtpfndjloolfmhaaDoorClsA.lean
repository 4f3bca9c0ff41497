/- What bytes and texts are in a program (package class), as plain functions, and what the reference's lists of bytes say of them. -/
import Derived.Test.YtpfndjloolfmhaaDoorRows
import Derived.WalkKit
import Derived.Lib.Hide
import Derived.WalkSpells
import Derived.WalkLawsBesides
import Derived.Lib.Strings
namespace Go.Proofs.YtpfndjloolfmhaaDoor
open Go.RowKit
namespace Cls

def blankB (n : Nat) : Bool := (n : Int) == 32 || (n : Int) == 9
def breakB (n : Nat) : Bool := (n : Int) == 32 || (n : Int) == 9 || (n : Int) == 10
def signB (n : Nat) : Bool := (n : Int) == 59 || (n : Int) == 38 || (n : Int) == 124 || (n : Int) == 40 || (n : Int) == 41 || (n : Int) == 60 || (n : Int) == 62
def quoteB (n : Nat) : Bool := (n : Int) == 34 || (n : Int) == 36 || (n : Int) == 39 || (n : Int) == 92 || (n : Int) == 96
def bareB (n : Nat) : Bool := !breakB n && !signB n && !quoteB n
def letterB (n : Nat) : Bool := decide (97 ≤ n ∧ n ≤ 122 ∨ 65 ≤ n ∧ n ≤ 90 ∨ n = 95)
def digitB (n : Nat) : Bool := decide (48 ≤ n ∧ n ≤ 57)
/-- Is a byte one of these? -/
def amongB (n : Nat) (l : List UInt8) : Bool := l.any fun x => x.toNat == n

def signs : List UInt8 := [59, 38, 124, 40, 41, 60, 62]
def letters : List UInt8 := [97, 98, 99, 100, 101, 102, 103, 104, 105, 106, 107, 108, 109, 110, 111, 112, 113, 114, 115, 116, 117, 118, 119, 120, 121, 122, 65, 66, 67, 68, 69, 70, 71, 72, 73, 74, 75, 76, 77, 78, 79, 80, 81, 82, 83, 84, 85, 86, 87, 88, 89, 90, 95]
def digits : List UInt8 := [48, 49, 50, 51, 52, 53, 54, 55, 56, 57]
def specials : List UInt8 := [64, 42, 35, 63, 36, 33, 48]
theorem among_signs0 : ∀ n : Fin 256, amongB n signs = signB n := by decide +kernel
theorem among_letters0 : ∀ n : Fin 256, amongB n letters = letterB n := by decide +kernel
theorem among_digits0 : ∀ n : Fin 256, amongB n digits = digitB n := by decide +kernel
theorem among_signs (n : Nat) (h : n < 256) : amongB n signs = signB n := among_signs0 ⟨n, h⟩
theorem among_letters (n : Nat) (h : n < 256) : amongB n letters = letterB n := among_letters0 ⟨n, h⟩
theorem among_digits (n : Nat) (h : n < 256) : amongB n digits = digitB n := among_digits0 ⟨n, h⟩

/-- May this byte stand at place j of a name? -/
def okB (j n : Nat) : Bool := letterB n || (decide (j ≠ 0) && digitB n)
/-- Is it a name? -/
def nameL (l : List UInt8) : Bool := decide (0 < l.length ∧ ∀ j, j < l.length → okB j (l.getD j 0).toNat = true)
def specialL (l : List UInt8) : Bool := l == [64] || l == [42] || l == [35] || l == [63] || l == [36] || l == [33]
/-- Are all bytes digits? -/
def digitsL (l : List UInt8) : Bool := l.all fun x => digitB x.toNat
def numberL (l : List UInt8) : Bool := decide (0 < l.length ∧ l.length ≤ 3) && (!(l.getD 0 0).toNat == 48 || l == [48]) && digitsL l
def paramL (l : List UInt8) : Bool := nameL l || specialL l || numberL l
def words : List (List UInt8) := [[33], [123], [125], [105, 102], [116, 104, 101, 110], [101, 108, 115, 101], [101, 108, 105, 102], [102, 105], [119, 104, 105, 108, 101], [117, 110, 116, 105, 108], [100, 111], [100, 111, 110, 101], [102, 111, 114], [105, 110], [99, 97, 115, 101], [101, 115, 97, 99]]
def reservedL (l : List UInt8) : Bool := words.any fun x => l == x

theorem ret_bool {a b : Bool} (h : a = b) : Ending.returned (.bool a) = .returned (.bool b) := by rw [h]
theorem bytes_inj {a b : ByteArray} (h : a.toList = b.toList) : a = b := by
  rw [Lib.toList_data, Lib.toList_data] at h
  cases a; cases b
  simpa using h
end Cls
end Go.Proofs.YtpfndjloolfmhaaDoor
