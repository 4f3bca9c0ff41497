/- treeAlive, Program. -/
import Derived.Test.YtmpongcambbihaaTrO
namespace Go.Proofs.Ytmpongcambbihaa
open Go.RowKit Go.Sort
namespace Tr
open Cls Pt

def wIf : PL := .cons 1 false ⟨#[105, 102]⟩ ⟨#[]⟩ .nil .nil
theorem alive_no : nodeR 1 ⟨#[]⟩ false [] [wIf] .nil [] .nil 1 = false := by kernel_rfl
theorem alive_yes : nodeR 1 ⟨#[]⟩ false [(⟨#[120]⟩, .nil)] [wIf] .nil [] .nil 1 = true := by kernel_rfl
theorem wIf_ok : ∀ l ∈ [wIf], wOK l := by
  intro l hl
  rw [List.mem_singleton] at hl
  subst hl
  refine ⟨by decide, fun k q t o f r h => ?_⟩
  cases h
  decide

set_option maxHeartbeats 1600000 in
set_option maxRecDepth 100000 in
theorem treeAlive_any (m : Int) (w : World) (hm : w.cell? ⟨0, 0, none⟩ = some (.int .i64 m)) :
    Calls Try.prog 4 #[] w fun e w' => e = .returned (.bool true) ∧ Below w.heap.size w w' := by
  have hb0 := bel2 w (.cells #[.int .i64 1, .bool false, .string ⟨#[105, 102]⟩, .string ⟨#[]⟩, .slice none 0 0] 38) (.cells #[.slice (some ⟨w.heap.size, 0, none⟩) 1 1] 39)
  have r1 : ((w.alloc (.cells #[.int .i64 1, .bool false, .string ⟨#[105, 102]⟩, .string ⟨#[]⟩, .slice none 0 0] 38)).alloc (.cells #[.slice (some ⟨w.heap.size, 0, none⟩) 1 1] 39)).heap[w.heap.size]? = some (.cells #[.int .i64 1, .bool false, .string ⟨#[105, 102]⟩, .string ⟨#[]⟩, .slice none 0 0] 38 (0, 0)) := (Below.heap_alloc _ _ _ (by simp only [World.size_alloc]; omega)).trans (heap_new' _ _)
  have r2 : ((w.alloc (.cells #[.int .i64 1, .bool false, .string ⟨#[105, 102]⟩, .string ⟨#[]⟩, .slice none 0 0] 38)).alloc (.cells #[.slice (some ⟨w.heap.size, 0, none⟩) 1 1] 39)).heap[w.heap.size + 1]? = some (.cells #[.slice (some ⟨w.heap.size, 0, none⟩) 1 1] 39 (0, 0)) := by
    have h := heap_new' (w.alloc (.cells #[.int .i64 1, .bool false, .string ⟨#[105, 102]⟩, .string ⟨#[]⟩, .slice none 0 0] 38)) (.cells #[.slice (some ⟨w.heap.size, 0, none⟩) 1 1] 39)
    simp only [World.size_alloc] at h
    exact h
  generalize hW : (w.alloc (.cells #[.int .i64 1, .bool false, .string ⟨#[105, 102]⟩, .string ⟨#[]⟩, .slice none 0 0] 38)).alloc (.cells #[.slice (some ⟨w.heap.size, 0, none⟩) 1 1] 39) = W at hb0 r1 r2
  have hlie : Lies W (some ⟨w.heap.size, 0, none⟩) 1 wIf := ⟨Nat.le_refl _, by decide, .inr ⟨_, _, rfl, ⟨Lib.cell_of_heap r1 0, Lib.cell_of_heap r1 1, Lib.cell_of_heap r1 2, Lib.cell_of_heap r1 3, by decide, by decide⟩, ⟨none, 0, Lib.cell_of_heap r1 4, Nat.le_refl _, Nat.zero_le _, .inl rfl⟩, trivial⟩⟩
  have hws : Sl 1 (PW W) (some ⟨w.heap.size + 1, 0, none⟩) 1 [wIf] := ⟨Nat.le_refl _, by decide, .inr ⟨_, _, rfl, ⟨_, _, Lib.cell_of_heap r2 0, hlie⟩, trivial⟩⟩
  have h1 : Holds W ⟨#[]⟩ [] [wIf] .nil [] .nil none 0 (some ⟨w.heap.size + 1, 0, none⟩) 1 none 0 none 0 none 0 := ⟨by decide, sl_nil _ _, hws, nl_nil _, sl_nil _ _, nl_nil _, rfl, rfl⟩
  have hR1 := right_top 1 ⟨#[]⟩ false [] [wIf] .nil [] .nil none 0 (some ⟨w.heap.size + 1, 0, none⟩) 1 none 0 none 0 none 0 m W h1 wIf_ok trivial trivial (cell_below hb0 hm)
  rw [alive_no] at hR1
  have hR2 := fun w' (hb : Below W.heap.size W w') => right_top 1 ⟨#[]⟩ false [(⟨#[120]⟩, .nil)] [wIf] .nil [] .nil (some ⟨w'.heap.size, 0, none⟩) 1 (some ⟨w.heap.size + 1, 0, none⟩) 1 none 0 none 0 none 0 m (w'.alloc (.cells #[.string ⟨#[120]⟩, .slice none 0 0] 41))
    ⟨by decide, ⟨Nat.le_refl _, (by decide : 1 ≤ R), .inr ⟨_, _, rfl, ⟨Lib.cell_of_heap (heap_new' _ _) 0, by decide, none, 0, Lib.cell_of_heap (heap_new' _ _) 1, Nat.le_refl _, Nat.zero_le _, .inl rfl⟩, trivial⟩⟩, sl_below (P := PW) (fun h => h.below (thru hb (bel1 w' _))) hws, nl_nil _, sl_nil _ _, nl_nil _, rfl, rfl⟩ wIf_ok trivial trivial (cell_below (thru hb0 (thru hb (bel1 w' _))) hm)
  rw [alive_yes] at hR2
  unfold nodeV at hR1 hR2
  simp only [List.length_nil, List.length_singleton, NL.len] at hR1 hR2
  subst hW
  have HR1 := Lib.hid hR1; have HR2 := Lib.hid hR2; have HB0 := Lib.hid hb0
  clear hR1 hR2 hb0 r1 r2 hlie hws h1 hm
  go_enter Try.func4, Try.ntmps4
  go_wp2_with fail
  refine (HR1.out).mono ?_
  rintro e w1 ⟨rfl, hb1⟩
  have HB1 := Lib.hid hb1
  clear hb1
  go_wp2_with fail
  refine (HR2.out _ HB1.out).mono ?_
  rintro e w2 ⟨rfl, hb2⟩
  have HB2 := Lib.hid hb2
  clear hb2
  go_wp2_with fail
  go_ret
  exact ⟨rfl, thru HB0.out (thru HB1.out (thru (bel1 _ _) HB2.out))⟩
end Tr
end Go.Proofs.Ytmpongcambbihaa
