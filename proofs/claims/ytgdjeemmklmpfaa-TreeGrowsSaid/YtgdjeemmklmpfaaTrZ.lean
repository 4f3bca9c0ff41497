/- simple. -/
import Derived.Test.YtgdjeemmklmpfaaTrX
import Derived.Test.YtgdjeemmklmpfaaTrY
namespace Go.Proofs.Ytgdjeemmklmpfaa
open Go.RowKit Go.Sort
namespace Tr
open Cls Pt

/-- The word that word.Of makes of "a"; a simple command of it. -/
def wA : PL := .cons 1 true ⟨#[97]⟩ ⟨#[]⟩ .nil .nil
def sA : NL := .node 1 ⟨#[]⟩ false [] [wA] .nil [] .nil .nil
theorem sA_size : sizeN sA = 1 := rfl
theorem sA_command : allS commandS sA = true := rfl
theorem sA_right : ∀ d, rt sA d = true := fun d => by
  have h : nodeR 1 ⟨#[]⟩ false [] [wA] .nil [] .nil 1 = true := by kernel_rfl
  exact (show rt sA d = rt sA 1 from rfl).trans (by unfold sA; rw [rt_node, h]; rfl)
theorem wA_ok : wOK wA := by
  refine ⟨by decide, fun k q t o f r h => ?_⟩
  cases h
  decide
/-- What simple answers: a node in new memory. -/
def Simple1 (w : World) (e : Ending) (w' : World) : Prop := (∃ x d, e = .returned (.agg (nodeV 1 ⟨#[]⟩ false none 0 0 x 1 d none 0 0 none 0 0 none 0 0)) ∧
  ∀ w2 : World, w'.heap.size ≤ w2.heap.size → (∀ b, w.heap.size < b → b < w'.heap.size → w2.heap[b]? = w'.heap[b]?) → Holds w2 ⟨#[]⟩ [] [wA] .nil [] .nil none 0 x d none 0 none 0 none 0) ∧ Below w.heap.size w w'

theorem ofA_any (w : World) : Calls Try.prog 34 #[.string ⟨#[97]⟩] w fun e w' => (∃ a cap, e = .returned (.slice a 1 cap) ∧ Sp.LiesNew w.heap.size w' a cap wA) ∧ Below w.heap.size w w' := by
  go_enter Try.func34, Try.ntmps34
  go_wp2
  go_ret
  refine ⟨⟨_, _, rfl, fun w2 hs hk => ?_⟩, bel1 _ _⟩
  have r1 := (hk w.heap.size (Nat.le_refl _) (by simp only [World.size_alloc]; omega)).trans (heap_new' w (.cells #[.int .i64 1, .bool true, .string ⟨#[97]⟩, .string ⟨#[]⟩, .slice none 0 0] 42))
  exact ⟨Nat.le_refl _, by decide, .inr ⟨_, _, rfl, ⟨Lib.cell_of_heap r1 0, Lib.cell_of_heap r1 1, Lib.cell_of_heap r1 2, Lib.cell_of_heap r1 3, by decide, by decide⟩, ⟨none, 0, Lib.cell_of_heap r1 4, Nat.le_refl _, Nat.zero_le _, .inl rfl⟩, trivial⟩⟩

set_option maxHeartbeats 800000 in
set_option maxRecDepth 100000 in
theorem simple_any (w : World) : Calls Try.prog 12 #[] w (Simple1 w) := by
  have HO := Lib.hid (fun w => ofA_any w)
  go_enter Try.func12, Try.ntmps12
  go_wp2_with (go_at_call 34; refine (HO.out _).mono ?_)
  rintro e w1 ⟨⟨a, cap, rfl, hl⟩, hb⟩
  have hr0 : w1.heap[w.heap.size]? = some (.cells #[.int .i64 0, .string ⟨#[]⟩, .bool false, .slice none 0 0, .slice none 0 0, .slice none 0 0, .slice none 0 0, .slice none 0 0] 28 (0, 0)) := (hb.block _ (by simp)).trans (heap_new' w _)
  have hlt : w.heap.size < w1.heap.size := (Array.getElem?_eq_some_iff.1 hr0).1
  have hr1 := (Below.heap_alloc w1 (.cells #[.slice a 1 cap] 43) _ hlt).trans hr0
  have hr2 := heap_new' w1 (.cells #[.slice a 1 cap] 43)
  have hk0 : ∀ b, b < w1.heap.size → (w1.alloc (.cells #[.slice a 1 cap] 43)).heap[b]? = w1.heap[b]? := fun b hb => Below.heap_alloc w1 (.cells #[.slice a 1 cap] 43) _ hb
  have hs0 : (w1.alloc (.cells #[.slice a 1 cap] 43)).heap.size = w1.heap.size + 1 := World.size_alloc _ _
  have hb2 := thru (bel1 w (.cells #[.int .i64 0, .string ⟨#[]⟩, .bool false, .slice none 0 0, .slice none 0 0, .slice none 0 0, .slice none 0 0, .slice none 0 0] 28)) (thru hb (bel1 w1 (.cells #[.slice a 1 cap] 43)))
  rw [World.size_alloc] at hl
  generalize hw2 : w1.alloc (.cells #[.slice a 1 cap] 43) = w2 at hr1 hr2 hk0 hs0 hb2
  have f : ∀ j, w2.frozen? ⟨w.heap.size, j, none⟩ = false := fun j => frozen_of_row _ _ _ _ _ hr1
  have f0 := f 0
  have c0 : w2.cell? ⟨w.heap.size, 0, none⟩ = some (.int .i64 0) := Lib.cell_of_heap hr1 0
  have f1 := f 1
  have c1 : w2.cell? ⟨w.heap.size, 1, none⟩ = some (.string ⟨#[]⟩) := Lib.cell_of_heap hr1 1
  have f2 := f 2
  have c2 : w2.cell? ⟨w.heap.size, 2, none⟩ = some (.bool false) := Lib.cell_of_heap hr1 2
  have f3 := f 3
  have c3 : w2.cell? ⟨w.heap.size, 3, none⟩ = some (.slice none 0 0) := Lib.cell_of_heap hr1 3
  have f4 := f 4
  have c4 : w2.cell? ⟨w.heap.size, 4, none⟩ = some (.slice none 0 0) := Lib.cell_of_heap hr1 4
  have f5 := f 5
  have c5 : w2.cell? ⟨w.heap.size, 5, none⟩ = some (.slice none 0 0) := Lib.cell_of_heap hr1 5
  have f6 := f 6
  have c6 : w2.cell? ⟨w.heap.size, 6, none⟩ = some (.slice none 0 0) := Lib.cell_of_heap hr1 6
  have f7 := f 7
  have c7 : w2.cell? ⟨w.heap.size, 7, none⟩ = some (.slice none 0 0) := Lib.cell_of_heap hr1 7
  have HL := Lib.hid hl; have HB := Lib.hid hb2; have HR1 := Lib.hid hr1; have HR2 := Lib.hid hr2; have HLT := Lib.hid hlt; have HK := Lib.hid hk0; have HS := Lib.hid hs0; have HW2 := Lib.hid hw2
  clear hl hb2 hr1 hr2 hr0 hb f hlt hk0 hs0 hw2
  have hend : ∀ W, ((((((((w2.setCell ⟨w.heap.size, 0, none⟩ (.int .i64 1)).setCell ⟨w.heap.size, 1, none⟩ (.string ⟨#[]⟩)).setCell ⟨w.heap.size, 2, none⟩ (.bool false)).setCell ⟨w.heap.size, 3, none⟩ (.slice none 0 0)).setCell ⟨w.heap.size, 4, none⟩ (.slice (some ⟨w1.heap.size, 0, none⟩) 1 1)).setCell ⟨w.heap.size, 5, none⟩ (.slice none 0 0)).setCell ⟨w.heap.size, 6, none⟩ (.slice none 0 0)).setCell ⟨w.heap.size, 7, none⟩ (.slice none 0 0)) = W → W.heap[w.heap.size]? = some (.cells #[.int .i64 1, .string ⟨#[]⟩, .bool false, .slice none 0 0, .slice (some ⟨w1.heap.size, 0, none⟩) 1 1, .slice none 0 0, .slice none 0 0, .slice none 0 0] 28 (0, 0)) ∧ Below w.heap.size w W ∧ w2.heap.size = W.heap.size ∧ ∀ b, b ≠ w.heap.size → W.heap[b]? = w2.heap[b]? := by
    rintro W rfl
    refine ⟨?_, ?_, by simp, fun b hb => ?_⟩
    · have g0 := heap_setCell_same _ _ 0 _ _ (.int .i64 1) HR1.out
      have g1 := heap_setCell_same _ _ 1 _ _ (.string ⟨#[]⟩) g0
      have g2 := heap_setCell_same _ _ 2 _ _ (.bool false) g1
      have g3 := heap_setCell_same _ _ 3 _ _ (.slice none 0 0) g2
      have g4 := heap_setCell_same _ _ 4 _ _ (.slice (some ⟨w1.heap.size, 0, none⟩) 1 1) g3
      have g5 := heap_setCell_same _ _ 5 _ _ (.slice none 0 0) g4
      have g6 := heap_setCell_same _ _ 6 _ _ (.slice none 0 0) g5
      have g7 := heap_setCell_same _ _ 7 _ _ (.slice none 0 0) g6
      exact g7
    · exact ((((((((HB.out.setCell (Nat.le_refl _) _).setCell (Nat.le_refl _) _).setCell (Nat.le_refl _) _).setCell (Nat.le_refl _) _).setCell (Nat.le_refl _) _).setCell (Nat.le_refl _) _).setCell (Nat.le_refl _) _).setCell (Nat.le_refl _) _)
    · rw [heap_setCell_other _ _ _ _ hb, heap_setCell_other _ _ _ _ hb, heap_setCell_other _ _ _ _ hb, heap_setCell_other _ _ _ _ hb, heap_setCell_other _ _ _ _ hb, heap_setCell_other _ _ _ _ hb, heap_setCell_other _ _ _ _ hb, heap_setCell_other _ _ _ _ hb]
  have HE := Lib.hid hend
  clear hend
  have hw := HW2.out
  clear HW2
  subst hw
  go_wp2_with fail
  obtain ⟨hrw, hbw, hsw, hkw⟩ := HE.out _ rfl
  refine bodyPost_ret (results_cell_row rfl _ _ w.heap.size _ _ _ _ rfl hrw Try.underlying28 rfl (by kernel_rfl)) rfl ?_
  have h2 := (hkw w1.heap.size (by have := HLT.out; omega)).trans HR2.out
  refine ⟨⟨_, _, rfl, fun w3 hs3 hk3 => ?_⟩, hbw⟩
  have hlt1 := HLT.out
  have hs1 := HS.out
  have h3 := (hk3 w1.heap.size hlt1 (by omega)).trans h2
  refine ⟨by decide, sl_nil _ _, ⟨Nat.le_refl _, by decide, .inr ⟨_, _, rfl, ⟨a, cap, Lib.cell_of_heap h3 0, ?_⟩, trivial⟩⟩, nl_nil _, sl_nil _ _, nl_nil _, rfl, rfl⟩
  refine HL.out _ (by omega) fun b h4 h5 => ?_
  rw [hk3 b (by omega) (by omega), hkw b (by omega), HK.out b h5]
end Tr
end Go.Proofs.Ytgdjeemmklmpfaa
