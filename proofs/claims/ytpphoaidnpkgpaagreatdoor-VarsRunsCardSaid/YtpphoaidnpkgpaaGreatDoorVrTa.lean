/- The reference's Get: all arguments. -/
import Derived.Test.YtpphoaidnpkgpaaGreatDoorVrT
import Derived.Test.YtpphoaidnpkgpaaGreatDoorRegN
namespace Go.Proofs.YtpphoaidnpkgpaaGreatDoor
open Go.RowKit Go.Maps Cls
namespace Vr

set_option maxRecDepth 4000 in
set_option maxHeartbeats 1000000 in
theorem rget_all (s : St) (n : ByteArray) (vv av : Value) (w : World) (hv : ∃ a n c, vv = .slice a n c) (ha : Txt w av s.args) (hl : s.args.length ≤ 1000000) (hj : (joinB s.args).length ≤ 4194304) (hbs : bs n = [64] ∨ bs n = [42]) :
    Calls Tryz.prog 8 #[.agg #[vv, av, .int .i64 s.st, .int .i64 s.la], .string n] w fun e w' => e = .returned (out (if s.args = [] then none else some (tx (joinB s.args)))) ∧ Below w.heap.size w w' := by
  have hn : n.size ≤ 9223372036854775807 := by rcases hbs with h | h <;> (have := congrArg List.length h; rw [lenB] at this; simp at this; omega)
  have hnm : nameL n.data.toList = false := by rw [show n.data.toList = bs n from rfl]; rcases hbs with h | h <;> (rw [h]; decide)
  have hpm : paramL n.data.toList = true := by rw [show n.data.toList = bs n from rfl]; rcases hbs with h | h <;> (rw [h]; decide)
  have t1 : (n.toList == [48]) = false := by rw [tests]; rcases hbs with h | h <;> (rw [h]; decide)
  have t2 : (n.toList == [35]) = false := by rw [tests]; rcases hbs with h | h <;> (rw [h]; decide)
  have t3 : (n.toList == [63]) = false := by rw [tests]; rcases hbs with h | h <;> (rw [h]; decide)
  have t4 : (n.toList == [36]) = false := by rw [tests]; rcases hbs with h | h <;> (rw [h]; decide)
  have t5 : (n.toList == [33]) = false := by rw [tests]; rcases hbs with h | h <;> (rw [h]; decide)
  have t67 : ((n.toList == [64]) || (n.toList == [42])) = true := by rw [tests, tests]; rcases hbs with h | h <;> (rw [h]; decide)
  obtain ⟨a1, n1, c1, rfl⟩ := hv
  have hj2 := Lib.hid (fun w' (h : Txt w' av s.args) => rjoin_any s.args av w' h hl hj)
  have HA := Lib.hid ha
  obtain ⟨a2, c2, rfl, _⟩ := ha.cell
  have hres : out (if s.args = [] then none else some (tx (joinB s.args))) = .tuple #[.string (tx (joinB s.args)), .bool (decide (0 < s.args.length))] := by
    by_cases he : s.args = []
    · rw [if_pos he, he]; rfl
    · have hp : 0 < s.args.length := List.length_pos_iff.2 he
      rw [if_neg he, decide_eq_true (by omega)]; rfl
  rw [hres]
  clear hres ha hj
  generalize tx (joinB s.args) = J at hj2 ⊢
  cases t6 : (n.toList == [64])
  · have t7 : (n.toList == [42]) = true := by rw [t6] at t67; simpa using t67
    clear t67
    go_enter Tryz.func8, Tryz.ntmps8
    go_wp2_with (first
      | (go_at_call 18; refine (rname_any n _ hn).mono ?_; rintro e w' ⟨rfl, rfl⟩; rw [hnm])
      | (go_at_call 19; refine (rparam_any n _ hn).mono ?_; rintro e w' ⟨rfl, rfl⟩; rw [hpm]))
    have hS : (w.alloc (.cells #[.slice a1 n1 c1, .slice a2 s.args.length c2, .int .i64 s.st, .int .i64 s.la] 31)).drew.heap[w.heap.size]? = some (.cells #[.slice a1 n1 c1, .slice a2 s.args.length c2, .int .i64 s.st, .int .i64 s.la] 31 (0, 0)) := heap_alloc_new w _
    have hlt : w.heap.size < (w.alloc (.cells #[.slice a1 n1 c1, .slice a2 s.args.length c2, .int .i64 s.st, .int .i64 s.la] 31)).heap.size := by simp [World.size_alloc]
    refine RN.begins (fun w' => w'.heap[w.heap.size]? = some (.cells #[.slice a1 n1 c1, .slice a2 s.args.length c2, .int .i64 s.st, .int .i64 s.la] 31 (0, 0))) [] (by kernel_rfl) ?_
    refine RN.take (i := 0) (v := ?_) rfl (by decide) (by kernel_rfl) (by kernel_rfl) (by kernel_rfl) (by kernel_rfl) (by kernel_rfl) (by first | exact fun _ _ _ h => h | exact fun _ _ _ h => (by cases h.1) | exact fun _ _ _ h => door_put (by decide) h) (.inl ⟨by rfl, ?_⟩) hS ?_
    rotate_left 1
    · (intro wq hq; have s1 : wq.cell? ⟨w.heap.size, 1, none⟩ = some (.slice a2 s.args.length c2) := Lib.cell_of_heap hq 1; go_simp; try with_reducible rfl)
    refine RN.take (i := 1) (v := ?_) rfl (by decide) (by kernel_rfl) (by kernel_rfl) (by kernel_rfl) (by kernel_rfl) (by kernel_rfl) (by first | exact fun _ _ _ h => h | exact fun _ _ _ h => (by cases h.1) | exact fun _ _ _ h => door_put (by decide) h) (.inl ⟨by rfl, ?_⟩) hS ?_
    rotate_left 1
    · (intro wq hq; have s1 : wq.cell? ⟨w.heap.size, 1, none⟩ = some (.slice a2 s.args.length c2) := Lib.cell_of_heap hq 1; go_simp; try with_reducible rfl)
    refine RN.take (i := 3) (v := ?_) rfl (by decide) (by kernel_rfl) (by kernel_rfl) (by kernel_rfl) (by kernel_rfl) (by kernel_rfl) (by first | exact fun _ _ _ h => h | exact fun _ _ _ h => (by cases h.1) | exact fun _ _ _ h => door_put (by decide) h) (.inl ⟨by rfl, ?_⟩) hS ?_
    rotate_left 1
    · (intro wq hq; have s1 : wq.cell? ⟨w.heap.size, 1, none⟩ = some (.slice a2 s.args.length c2) := Lib.cell_of_heap hq 1; go_simp; try with_reducible rfl)
    refine RN.take (i := 4) (v := ?_) rfl (by decide) (by kernel_rfl) (by kernel_rfl) (by kernel_rfl) (by kernel_rfl) (by kernel_rfl) (by first | exact fun _ _ _ h => h | exact fun _ _ _ h => (by cases h.1) | exact fun _ _ _ h => door_put (by decide) h) (.inl ⟨by rfl, ?_⟩) hS ?_
    rotate_left 1
    · (intro wq hq; have s1 : wq.cell? ⟨w.heap.size, 1, none⟩ = some (.slice a2 s.args.length c2) := Lib.cell_of_heap hq 1; go_simp; try with_reducible rfl)
    refine RN.take (i := 5) (v := ?_) rfl (by decide) (by kernel_rfl) (by kernel_rfl) (by kernel_rfl) (by kernel_rfl) (by kernel_rfl) (by first | exact fun _ _ _ h => h | exact fun _ _ _ h => (by cases h.1) | exact fun _ _ _ h => door_put (by decide) h) (.inl ⟨by rfl, ?_⟩) hS ?_
    rotate_left 1
    · (intro wq hq; have s1 : wq.cell? ⟨w.heap.size, 1, none⟩ = some (.slice a2 s.args.length c2) := Lib.cell_of_heap hq 1; go_simp; try with_reducible rfl)
    refine RN.take (i := 6) (v := ?_) rfl (by decide) (by kernel_rfl) (by kernel_rfl) (by kernel_rfl) (by kernel_rfl) (by kernel_rfl) (by first | exact fun _ _ _ h => h | exact fun _ _ _ h => (by cases h.1) | exact fun _ _ _ h => door_put (by decide) h) (.inl ⟨by rfl, ?_⟩) hS ?_
    rotate_left 1
    · (intro wq hq; have s1 : wq.cell? ⟨w.heap.size, 1, none⟩ = some (.slice a2 s.args.length c2) := Lib.cell_of_heap hq 1; go_simp; try with_reducible rfl)
    refine RN.all (rs := [2]) (by kernel_rfl) (by simp) ?_
    refine RN.All.cons rfl (fun K hK => ?_) RN.All.nil
    go_simp
    refine (hj2.out _ (HA.out.stay (w' := (w.alloc (.cells #[.slice a1 n1 c1, .slice a2 s.args.length c2, .int .i64 s.st, .int .i64 s.la] 31)).drew) ⟨rfl, rfl, rfl, (below_alloc w _).size, (below_alloc w _).block⟩)).mono ?_
    rintro e w2 ⟨rfl, hw2⟩
    subst hw2
    refine hK _ _ (fun _ => hS) ?_
    clear hK K
    refine RN.all (rs := [7]) (by kernel_rfl) (by simp) ?_
    refine RN.All.cons rfl (fun K hK => ?_) RN.All.nil
    go_simp
    refine hK _ _ (fun _ => hS) ?_
    clear hK K
    refine RN.all (rs := [8]) (by kernel_rfl) (by simp) ?_
    refine RN.All.cons rfl (fun K hK => ?_) RN.All.nil
    go_simp
    refine hK _ _ (fun _ => hS) ?_
    clear hK K
    refine RN.done (by kernel_rfl) ?_ _
    go_wp2_with fail
    go_ret2
    exact ⟨rfl, (below_alloc w _).drew⟩
  · clear t67
    go_enter Tryz.func8, Tryz.ntmps8
    go_wp2_with (first
      | (go_at_call 18; refine (rname_any n _ hn).mono ?_; rintro e w' ⟨rfl, rfl⟩; rw [hnm])
      | (go_at_call 19; refine (rparam_any n _ hn).mono ?_; rintro e w' ⟨rfl, rfl⟩; rw [hpm]))
    have hS : (w.alloc (.cells #[.slice a1 n1 c1, .slice a2 s.args.length c2, .int .i64 s.st, .int .i64 s.la] 31)).drew.heap[w.heap.size]? = some (.cells #[.slice a1 n1 c1, .slice a2 s.args.length c2, .int .i64 s.st, .int .i64 s.la] 31 (0, 0)) := heap_alloc_new w _
    have hlt : w.heap.size < (w.alloc (.cells #[.slice a1 n1 c1, .slice a2 s.args.length c2, .int .i64 s.st, .int .i64 s.la] 31)).heap.size := by simp [World.size_alloc]
    refine RN.begins (fun w' => w'.heap[w.heap.size]? = some (.cells #[.slice a1 n1 c1, .slice a2 s.args.length c2, .int .i64 s.st, .int .i64 s.la] 31 (0, 0))) [] (by kernel_rfl) ?_
    refine RN.take (i := 0) (v := ?_) rfl (by decide) (by kernel_rfl) (by kernel_rfl) (by kernel_rfl) (by kernel_rfl) (by kernel_rfl) (by first | exact fun _ _ _ h => h | exact fun _ _ _ h => (by cases h.1) | exact fun _ _ _ h => door_put (by decide) h) (.inl ⟨by rfl, ?_⟩) hS ?_
    rotate_left 1
    · (intro wq hq; have s1 : wq.cell? ⟨w.heap.size, 1, none⟩ = some (.slice a2 s.args.length c2) := Lib.cell_of_heap hq 1; go_simp; try with_reducible rfl)
    refine RN.take (i := 1) (v := ?_) rfl (by decide) (by kernel_rfl) (by kernel_rfl) (by kernel_rfl) (by kernel_rfl) (by kernel_rfl) (by first | exact fun _ _ _ h => h | exact fun _ _ _ h => (by cases h.1) | exact fun _ _ _ h => door_put (by decide) h) (.inl ⟨by rfl, ?_⟩) hS ?_
    rotate_left 1
    · (intro wq hq; have s1 : wq.cell? ⟨w.heap.size, 1, none⟩ = some (.slice a2 s.args.length c2) := Lib.cell_of_heap hq 1; go_simp; try with_reducible rfl)
    refine RN.take (i := 3) (v := ?_) rfl (by decide) (by kernel_rfl) (by kernel_rfl) (by kernel_rfl) (by kernel_rfl) (by kernel_rfl) (by first | exact fun _ _ _ h => h | exact fun _ _ _ h => (by cases h.1) | exact fun _ _ _ h => door_put (by decide) h) (.inl ⟨by rfl, ?_⟩) hS ?_
    rotate_left 1
    · (intro wq hq; have s1 : wq.cell? ⟨w.heap.size, 1, none⟩ = some (.slice a2 s.args.length c2) := Lib.cell_of_heap hq 1; go_simp; try with_reducible rfl)
    refine RN.take (i := 4) (v := ?_) rfl (by decide) (by kernel_rfl) (by kernel_rfl) (by kernel_rfl) (by kernel_rfl) (by kernel_rfl) (by first | exact fun _ _ _ h => h | exact fun _ _ _ h => (by cases h.1) | exact fun _ _ _ h => door_put (by decide) h) (.inl ⟨by rfl, ?_⟩) hS ?_
    rotate_left 1
    · (intro wq hq; have s1 : wq.cell? ⟨w.heap.size, 1, none⟩ = some (.slice a2 s.args.length c2) := Lib.cell_of_heap hq 1; go_simp; try with_reducible rfl)
    refine RN.take (i := 5) (v := ?_) rfl (by decide) (by kernel_rfl) (by kernel_rfl) (by kernel_rfl) (by kernel_rfl) (by kernel_rfl) (by first | exact fun _ _ _ h => h | exact fun _ _ _ h => (by cases h.1) | exact fun _ _ _ h => door_put (by decide) h) (.inl ⟨by rfl, ?_⟩) hS ?_
    rotate_left 1
    · (intro wq hq; have s1 : wq.cell? ⟨w.heap.size, 1, none⟩ = some (.slice a2 s.args.length c2) := Lib.cell_of_heap hq 1; go_simp; try with_reducible rfl)
    refine RN.take (i := 6) (v := ?_) rfl (by decide) (by kernel_rfl) (by kernel_rfl) (by kernel_rfl) (by kernel_rfl) (by kernel_rfl) (by first | exact fun _ _ _ h => h | exact fun _ _ _ h => (by cases h.1) | exact fun _ _ _ h => door_put (by decide) h) (.inl ⟨by rfl, ?_⟩) hS ?_
    rotate_left 1
    · (intro wq hq; have s1 : wq.cell? ⟨w.heap.size, 1, none⟩ = some (.slice a2 s.args.length c2) := Lib.cell_of_heap hq 1; go_simp; try with_reducible rfl)
    refine RN.all (rs := [2]) (by kernel_rfl) (by simp) ?_
    refine RN.All.cons rfl (fun K hK => ?_) RN.All.nil
    go_simp
    refine (hj2.out _ (HA.out.stay (w' := (w.alloc (.cells #[.slice a1 n1 c1, .slice a2 s.args.length c2, .int .i64 s.st, .int .i64 s.la] 31)).drew) ⟨rfl, rfl, rfl, (below_alloc w _).size, (below_alloc w _).block⟩)).mono ?_
    rintro e w2 ⟨rfl, hw2⟩
    subst hw2
    refine hK _ _ (fun _ => hS) ?_
    clear hK K
    refine RN.all (rs := [7]) (by kernel_rfl) (by simp) ?_
    refine RN.All.cons rfl (fun K hK => ?_) RN.All.nil
    go_simp
    refine hK _ _ (fun _ => hS) ?_
    clear hK K
    refine RN.all (rs := [8]) (by kernel_rfl) (by simp) ?_
    refine RN.All.cons rfl (fun K hK => ?_) RN.All.nil
    go_simp
    refine hK _ _ (fun _ => hS) ?_
    clear hK K
    refine RN.done (by kernel_rfl) ?_ _
    go_wp2_with fail
    go_ret2
    exact ⟨rfl, (below_alloc w _).drew⟩
end Vr
end Go.Proofs.YtpphoaidnpkgpaaGreatDoor
