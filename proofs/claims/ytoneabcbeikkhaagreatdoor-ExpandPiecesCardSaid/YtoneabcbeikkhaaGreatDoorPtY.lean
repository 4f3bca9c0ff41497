/- Which parts are right, as the program has it: for all parts. -/
/- rightParts, Value, Right: for all parts. -/
/- Value and Right, for all parts. -/
import Derived.Test.YtoneabcbeikkhaaGreatDoorPtV
namespace Go.Proofs.YtoneabcbeikkhaaGreatDoor
open Go.RowKit Go.Sort
namespace Pt
open Cls

theorem neqE (t : ByteArray) : (t.toList != []) = !(t.data.toList == []) := by rw [Lib.toList_data]; rfl
theorem lenI (n : Nat) : ((n : Int) == 0) = (n == 0) := by rw [Bool.eq_iff_iff]; simp
theorem emptyO (o : ByteArray) : (o.data.toList == []) = o.toList.isEmpty := by rw [Lib.toList_data]; cases o.data.toList <;> rfl
theorem all_no {l : List UInt8} {k : Nat} {p : UInt8 → Bool} (hk : k < l.length) (hd : p (l.getD k 0) = false) : l.all p = false := by
  rw [List.all_eq_false]
  simp only [List.getD, List.getElem?_eq_getElem hk, Option.getD_some] at hd
  exact ⟨l[k], List.getElem_mem hk, by simp [hd]⟩
theorem all_snoc {l : List UInt8} {k : Nat} {p : UInt8 → Bool} (h : (l.take k).all p = true) (hk : k < l.length) (hd : p (l.getD k 0) = true) : (l.take (k + 1)).all p = true := by
  rw [List.take_succ_eq_append_getElem hk, List.all_append, h]
  simp only [List.getD, List.getElem?_eq_getElem hk, Option.getD_some] at hd
  simp [hd]


/-- Parts are right in a place, at a depth; what stood ahead: its kind, whether quoted. -/
def rightL : Option (Int × Bool) → PL → Nat → Nat → Bool
  | _, .nil, _, _ => true
  | p, .cons k q t o f r, at', d =>
    !(at' == 2 && !q) && !(p.any fun x => x.1 == 1 && k == 1 && x.2 == q) &&
      (if k == 1 then (o.data.toList == [] && f.len == 0 && textOK q t.data.toList at')
       else if k == 2 then (decide (d ≤ 200) && nameOK t.data.toList o.data.toList && (!(o.data.toList == []) || f.len == 0) && rightL none f (wth q) (d + 1)) else false) &&
      rightL (some (k, q)) r at' d
def partOK (k : Int) (q : Bool) (t o : ByteArray) (f : PL) (at' d : Nat) : Bool :=
  if k == 1 then (o.data.toList == [] && f.len == 0 && textOK q t.data.toList at')
  else if k == 2 then (decide (d ≤ 200) && nameOK t.data.toList o.data.toList && (!(o.data.toList == []) || f.len == 0) && rightL none f (wth q) (d + 1)) else false

theorem wrapEq (x : Int) : IntKind.i64.wrap x = wrap64 x := by rw [IntKind.wrap_i64, wrap64]
theorem wrapEq_in (d : Nat) (hd : d ≤ 1000) : IntKind.i64.wrap ((d : Int) + 1) = (d : Int) + 1 :=
  (wrapEq _).trans (IntWalk.wrap64_in _ ⟨by omega, by omega⟩)

end Pt
end Go.Proofs.YtoneabcbeikkhaaGreatDoor

namespace Go.Proofs.YtoneabcbeikkhaaGreatDoor
open Go.RowKit Go.Sort
namespace Pt
open Cls

theorem natI2 (n : Nat) : ((n : Int) == 2) = (n == 2) := by rw [Bool.eq_iff_iff]; simp; omega
theorem cell_re {w : World} {b o : Nat} {v : Value} (h : w.cell? ⟨b, o, none⟩ = some v) (x : Obj) (d : Nat) (os : Array Obj) : (grow (redrawn (w.alloc x) d) os).cell? ⟨b, o, none⟩ = some v :=
  cell_regrown (((bel1 w x).cell (p := ⟨b, o, none⟩) (World.block_lt_of_cell? _ _ h)).trans h) d os
/-- What stood ahead of index n. -/
def prevAt (l : PL) : Nat → Option (Int × Bool)
  | 0 => none
  | n + 1 => match l.drop n with
    | .nil => none
    | .cons k q _ _ _ _ => some (k, q)
theorem right_step {l f r : PL} {n at' d : Nat} {k : Int} {q : Bool} {t o : ByteArray} (hd : l.drop n = .cons k q t o f r) :
    rightL (prevAt l n) (l.drop n) at' d = (!(at' == 2 && !q) && !((prevAt l n).any fun x => x.1 == 1 && k == 1 && x.2 == q) && partOK k q t o f at' d && rightL (prevAt l (n + 1)) (l.drop (n + 1)) at' d) := by
  rw [PL.drop_succ hd]
  conv => lhs; rw [hd]
  simp only [rightL, prevAt, hd, partOK]

end Pt
end Go.Proofs.YtoneabcbeikkhaaGreatDoor

namespace Go.Proofs.YtoneabcbeikkhaaGreatDoor
open Go.RowKit Go.Sort
namespace Pt
open Cls



/-- A right word. -/
def rightW : PL → Bool
  | .nil => false
  | .cons k q t o f r => !(k == 1 && !q && Lib.hasPrefix t.data.toList [35]) && rightL none (.cons k q t o f r) 0 1

end Pt
end Go.Proofs.YtoneabcbeikkhaaGreatDoor
