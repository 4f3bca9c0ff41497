/- The reference's Shift. -/
import Derived.Test.YtoneabcbeikkhaaGreatDoorVrO
import Derived.Test.YtoneabcbeikkhaaGreatDoorClsN
import Derived.Test.YtoneabcbeikkhaaGreatDoorVrQ
namespace Go.Proofs.YtoneabcbeikkhaaGreatDoor
open Go.RowKit Go.Maps Cls
namespace Vr

theorem results_row_tmp {P : Program} {fn : Func} {p u : Tmp} {ty : TypeId} (h : fn.results = #[.cell p ty, .tmp u]) (tmps : Array Value) (w : World) (g : Nat) (t : TypeId) (cs : Array Value) (fr : Nat × Nat) (d : TypeDesc)
    (hp : tmps.getD p undef = .pointer (some ⟨g, 0, none⟩)) (hg : w.heap[g]? = some (.cells cs t fr))
    (hu : P.underlying ty = some d) (hd : (match d with | .struct _ | .array _ _ => true | _ => false) = true) (hi : (P.info? ty).map (·.size) = some cs.size) :
    (results fn tmps).run P w = .ok (.tuple #[.agg cs, tmps.getD u undef]) w := by
  rw [results_cell_tmp h, hp]
  simp [asAddr, run_loadVar_row w g t ty cs fr d hg hu hd hi, Result.andThen]
theorem new2 (w : World) (x y : Obj) : ((w.alloc x).alloc y).heap[w.heap.size + 1]? = some y := by
  show ((w.heap.push x).push y)[w.heap.size + 1]? = some y
  rw [Array.getElem?_push, if_pos (by simp)]
theorem Txt.drop {w : World} {a : Option Addr} {cap : Nat} {xs : List ByteArray} (h : Txt w (.slice a xs.length cap) xs) {m : Nat} (hm : m ≤ xs.length) : Txt w (.slice (a.map fun x => x.add m) (xs.length - m) (cap - m)) (xs.drop m) := by
  rcases Nat.eq_or_lt_of_le hm with he | hlt
  · exact .inl ⟨List.drop_eq_nil_of_le (by omega), a.map fun x => x.add m, cap - m, by rw [he, Nat.sub_self]⟩
  · rcases h with ⟨h0, _⟩ | ⟨b, off, cap', hs, h1, h2, h3⟩
    · rw [h0] at hlt; simp at hlt
    · injection hs with e1 e2 e3
      subst e1; subst e3
      refine .inr ⟨b, off + m, cap - m, by rw [List.length_drop, Option.map_some, Go.WideShapes.add_plain], by rw [List.length_drop]; omega, h2, fun j x hj => ?_⟩
      rw [List.getElem?_drop] at hj
      rw [Nat.add_assoc]; exact h3 _ x hj
theorem own_slice (a : Option Addr) (n c : Nat) : (Value.slice a n c).ownBlock = a.map (·.block) := by cases a <;> rfl
theorem own_add (a : Option Addr) (m n c n' c' : Nat) : (Value.slice (a.map fun x => x.add m) n c).ownBlock = (Value.slice a n' c').ownBlock := by
  rw [own_slice, own_slice]
  cases a with
  | none => rfl
  | some x =>
    obtain ⟨b, o, s⟩ := x
    simp only [Option.map_some, Addr.add]
    split <;> rfl
theorem Txt.cap {w : World} {a : Option Addr} {cap : Nat} {xs : List ByteArray} (h : Txt w (.slice a xs.length cap) xs) : xs.length ≤ cap := by
  rcases h with ⟨h0, _⟩ | ⟨b, off, cap', hs, h1, h2, h3⟩
  · rw [h0]; simp
  · injection hs with e1 e2 e3; omega
end Vr
end Go.Proofs.YtoneabcbeikkhaaGreatDoor
