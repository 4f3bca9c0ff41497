/- The chapter's example, and the walk of WordApart. -/
import Derived.Test.YtpjdpmlneefafaaDoorUqB
import Derived.Test.YtpjdpmlneefafaaDoorPtK
namespace Go.Proofs.YtpjdpmlneefafaaDoor
open Go.RowKit Go.Sort
namespace Wd
open Cls Pt Bd Uq

/-- The word of one quoted text. -/
def oneP (s : ByteArray) : PL := .cons 1 true s ⟨#[]⟩ .nil .nil
def oneO (s : ByteArray) : Obj := .cells #[.int .i64 1, .bool true, .string s, .string ⟨#[]⟩, .slice none 0 0] 29

set_option maxHeartbeats 400000 in
theorem of_any (s : ByteArray) (w : World) :
    Calls Tryd.prog 10 #[.string s] w fun e w' => e = .returned (.slice (some ⟨w.heap.size, 0, none⟩) 1 1) ∧ w' = w.alloc (oneO s) := by
  go_enter Tryd.func10, Tryd.ntmps10
  go_wp2
  go_ret
  exact ⟨rfl, rfl⟩
theorem one_lies (s : ByteArray) (w : World) (hs : s.size ≤ R) : Lies (w.alloc (oneO s)) (some ⟨w.heap.size, 0, none⟩) 1 (oneP s) := by
  have hc : ∀ j v, #[Value.int .i64 1, .bool true, .string s, .string ⟨#[]⟩, .slice none 0 0][j]? = some v → (w.alloc (oneO s)).cell? ⟨w.heap.size, j, none⟩ = some v := fun j v h =>
    (Lib.cell_of_heap (heap_alloc_new w _) j).trans h
  refine ⟨Nat.le_refl _, (show 1 ≤ R by decide), .inr ⟨w.heap.size, 0, rfl, ⟨hc 0 _ rfl, hc 1 _ rfl, hc 2 _ rfl, hc 3 _ rfl, hs, by decide⟩, ⟨none, 0, hc 4 _ rfl, Nat.le_refl _, Nat.zero_le _, .inl rfl⟩, trivial⟩⟩

def ab : ByteArray := ⟨#[97, 32, 98]⟩
theorem ab_text : valueText (oneP ab) = [39, 97, 32, 98, 39] := by decide +kernel
theorem ab_right : rightW (oneP ab) = true := by decide +kernel

set_option maxHeartbeats 800000 in
theorem alive_any (m : Int) (w : World) (hm : w.cell? ⟨0, 0, none⟩ = some (.int .i64 m)) :
    Calls Tryd.prog 4 #[] w fun e w' => e = .returned (.bool true) ∧ Below w.heap.size w w' := by
  have hm0 : 0 < w.heap.size := World.block_lt_of_cell? _ _ hm
  have hT := text_any (oneP ab) _ 1 m _ (one_lies ab w (by decide)) (((bel1 w _).cell (p := ⟨0, 0, none⟩) hm0).trans hm) (by decide +kernel)
  rw [ab_text] at hT
  have HT := Lib.hid hT
  have HO := Lib.hid (of_any ab)
  have hR := fun w1 => right_any (oneP ab) _ 1 _ (one_lies ab w1 (by decide))
  rw [ab_right] at hR
  have HR := Lib.hid hR
  clear hT hR hm
  go_enter Tryd.func4, Tryd.ntmps4
  go_wp2_with (first
    | (go_at_call 10; refine (HO.out _).mono ?_; rintro e w' ⟨rfl, rfl⟩)
    | (go_at_call 14; refine (HT.out).mono ?_; rintro e w1 ⟨rfl, hb1⟩; have HB1 := Lib.hid hb1; clear hb1)
    | (go_at_call 15; refine (HR.out _).mono ?_; rintro e w2 ⟨rfl, hb2⟩))
  go_ret
  exact ⟨rfl, thru (bel1 w _) (thru HB1.out (thru (bel1 w1 _) hb2))⟩

end Wd
end Go.Proofs.YtpjdpmlneefafaaDoor
