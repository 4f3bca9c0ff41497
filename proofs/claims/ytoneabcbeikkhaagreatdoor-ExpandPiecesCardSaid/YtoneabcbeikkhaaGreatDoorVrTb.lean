/- The reference's Get: what has a sign of its own. -/
/- The reference's Get: all arguments. -/
/- The reference's Get: an argument; whatever is asked. -/
import Derived.Test.YtoneabcbeikkhaaGreatDoorVrS
import Derived.Test.YtoneabcbeikkhaaGreatDoorReg
namespace Go.Proofs.YtoneabcbeikkhaaGreatDoor
open Go.RowKit Go.Maps Cls
namespace Vr

set_option maxRecDepth 4000 in
set_option maxHeartbeats 1000000 in
theorem rget_sh (s : St) (n : ByteArray) (vv av : Value) (w : World) (hv : ∃ a n c, vv = .slice a n c) (ha : ∃ a n c, av = .slice a n c) (hbs : bs n = [48]) :
    Calls Tryz.prog 50 #[.agg #[vv, av, .int .i64 s.st, .int .i64 s.la], .string n] w fun e w' => e = .returned (out (some (tx [115, 104]))) ∧ Below w.heap.size w w' := by
  have hn : n.size ≤ 9223372036854775807 := by have := congrArg List.length hbs; rw [lenB] at this; simp at this; omega
  have hnm : nameL n.data.toList = false := by rw [show n.data.toList = bs n from rfl, hbs]; decide
  have hpm : paramL n.data.toList = true := by rw [show n.data.toList = bs n from rfl, hbs]; decide
  have t1 : (n.toList == [48]) = true := by rw [tests, hbs]; decide
  have t2 : (n.toList == [35]) = false := by rw [tests, hbs]; decide
  have t3 : (n.toList == [63]) = false := by rw [tests, hbs]; decide
  have t4 : (n.toList == [36]) = false := by rw [tests, hbs]; decide
  have t5 : (n.toList == [33]) = false := by rw [tests, hbs]; decide
  have t6 : (n.toList == [64]) = false := by rw [tests, hbs]; decide
  have t7 : (n.toList == [42]) = false := by rw [tests, hbs]; decide
  obtain ⟨a1, n1, c1, rfl⟩ := hv
  obtain ⟨a2, n2, c2, rfl⟩ := ha
  go_enter Tryz.func50, Tryz.ntmps50
  go_wp2_with (first
    | (go_at_call 22; refine (rname_any n _ hn).mono ?_; rintro e w' ⟨rfl, rfl⟩; rw [hnm])
    | (go_at_call 41; refine (rparam_any n _ hn).mono ?_; rintro e w' ⟨rfl, rfl⟩; rw [hpm]))
  go_ret2
  exact ⟨rfl, below_alloc w _⟩

set_option maxRecDepth 4000 in
set_option maxHeartbeats 1000000 in
theorem rget_pid (s : St) (n : ByteArray) (vv av : Value) (w : World) (hv : ∃ a n c, vv = .slice a n c) (ha : ∃ a n c, av = .slice a n c) (hbs : bs n = [36]) :
    Calls Tryz.prog 50 #[.agg #[vv, av, .int .i64 s.st, .int .i64 s.la], .string n] w fun e w' => e = .returned (out (some (tx [49]))) ∧ Below w.heap.size w w' := by
  have hn : n.size ≤ 9223372036854775807 := by have := congrArg List.length hbs; rw [lenB] at this; simp at this; omega
  have hnm : nameL n.data.toList = false := by rw [show n.data.toList = bs n from rfl, hbs]; decide
  have hpm : paramL n.data.toList = true := by rw [show n.data.toList = bs n from rfl, hbs]; decide
  have t1 : (n.toList == [48]) = false := by rw [tests, hbs]; decide
  have t2 : (n.toList == [35]) = false := by rw [tests, hbs]; decide
  have t3 : (n.toList == [63]) = false := by rw [tests, hbs]; decide
  have t4 : (n.toList == [36]) = true := by rw [tests, hbs]; decide
  have t5 : (n.toList == [33]) = false := by rw [tests, hbs]; decide
  have t6 : (n.toList == [64]) = false := by rw [tests, hbs]; decide
  have t7 : (n.toList == [42]) = false := by rw [tests, hbs]; decide
  obtain ⟨a1, n1, c1, rfl⟩ := hv
  obtain ⟨a2, n2, c2, rfl⟩ := ha
  go_enter Tryz.func50, Tryz.ntmps50
  go_wp2_with (first
    | (go_at_call 22; refine (rname_any n _ hn).mono ?_; rintro e w' ⟨rfl, rfl⟩; rw [hnm])
    | (go_at_call 41; refine (rparam_any n _ hn).mono ?_; rintro e w' ⟨rfl, rfl⟩; rw [hpm]))
  go_ret2
  exact ⟨rfl, below_alloc w _⟩

set_option maxRecDepth 4000 in
set_option maxHeartbeats 1000000 in
theorem rget_status (s : St) (n : ByteArray) (vv av : Value) (w : World) (hv : ∃ a n c, vv = .slice a n c) (ha : ∃ a n c, av = .slice a n c) (h0 : -9223372036854775808 ≤ s.st) (h1 : s.st ≤ 9223372036854775807) (hbs : bs n = [63]) :
    Calls Tryz.prog 50 #[.agg #[vv, av, .int .i64 s.st, .int .i64 s.la], .string n] w fun e w' => e = .returned (out (some (tx (Lib.itoa s.st)))) ∧ Below w.heap.size w w' := by
  have hn : n.size ≤ 9223372036854775807 := by have := congrArg List.length hbs; rw [lenB] at this; simp at this; omega
  have hnm : nameL n.data.toList = false := by rw [show n.data.toList = bs n from rfl, hbs]; decide
  have hpm : paramL n.data.toList = true := by rw [show n.data.toList = bs n from rfl, hbs]; decide
  have t1 : (n.toList == [48]) = false := by rw [tests, hbs]; decide
  have t2 : (n.toList == [35]) = false := by rw [tests, hbs]; decide
  have t3 : (n.toList == [63]) = true := by rw [tests, hbs]; decide
  have t4 : (n.toList == [36]) = false := by rw [tests, hbs]; decide
  have t5 : (n.toList == [33]) = false := by rw [tests, hbs]; decide
  have t6 : (n.toList == [64]) = false := by rw [tests, hbs]; decide
  have t7 : (n.toList == [42]) = false := by rw [tests, hbs]; decide
  obtain ⟨a1, n1, c1, rfl⟩ := hv
  obtain ⟨a2, n2, c2, rfl⟩ := ha
  go_enter Tryz.func50, Tryz.ntmps50
  go_wp2_with (first
    | (go_at_call 22; refine (rname_any n _ hn).mono ?_; rintro e w' ⟨rfl, rfl⟩; rw [hnm])
    | (go_at_call 41; refine (rparam_any n _ hn).mono ?_; rintro e w' ⟨rfl, rfl⟩; rw [hpm])
    | (go_at_call 77; refine (rdig_any s.st _ h0 h1).mono ?_; rintro e w2 ⟨rfl, hb2⟩))
  go_ret2
  exact ⟨rfl, (below_alloc w _).trans (hb2.mono (by simp [World.size_alloc]))⟩

set_option maxRecDepth 4000 in
set_option maxHeartbeats 1000000 in
theorem rget_count (s : St) (n : ByteArray) (vv av : Value) (w : World) (hv : ∃ a n c, vv = .slice a n c) (ha : Txt w av s.args) (hl : s.args.length ≤ 1000000) (hbs : bs n = [35]) :
    Calls Tryz.prog 50 #[.agg #[vv, av, .int .i64 s.st, .int .i64 s.la], .string n] w fun e w' => e = .returned (out (some (tx (Lib.itoa s.args.length)))) ∧ Below w.heap.size w w' := by
  have hn : n.size ≤ 9223372036854775807 := by have := congrArg List.length hbs; rw [lenB] at this; simp at this; omega
  have hnm : nameL n.data.toList = false := by rw [show n.data.toList = bs n from rfl, hbs]; decide
  have hpm : paramL n.data.toList = true := by rw [show n.data.toList = bs n from rfl, hbs]; decide
  have t1 : (n.toList == [48]) = false := by rw [tests, hbs]; decide
  have t2 : (n.toList == [35]) = true := by rw [tests, hbs]; decide
  have t3 : (n.toList == [63]) = false := by rw [tests, hbs]; decide
  have t4 : (n.toList == [36]) = false := by rw [tests, hbs]; decide
  have t5 : (n.toList == [33]) = false := by rw [tests, hbs]; decide
  have t6 : (n.toList == [64]) = false := by rw [tests, hbs]; decide
  have t7 : (n.toList == [42]) = false := by rw [tests, hbs]; decide
  obtain ⟨a1, n1, c1, rfl⟩ := hv
  obtain ⟨a2, c2, rfl, _⟩ := ha.cell
  go_enter Tryz.func50, Tryz.ntmps50
  go_wp2_with (first
    | (go_at_call 22; refine (rname_any n _ hn).mono ?_; rintro e w' ⟨rfl, rfl⟩; rw [hnm])
    | (go_at_call 41; refine (rparam_any n _ hn).mono ?_; rintro e w' ⟨rfl, rfl⟩; rw [hpm])
    | (go_at_call 77; refine (rdig_any s.args.length _ (by omega) (by omega)).mono ?_; rintro e w2 ⟨rfl, hb2⟩))
  go_ret2
  exact ⟨rfl, (below_alloc w _).trans (hb2.mono (by simp [World.size_alloc]))⟩

set_option maxRecDepth 4000 in
set_option maxHeartbeats 1000000 in
theorem rget_last (s : St) (n : ByteArray) (vv av : Value) (w : World) (hv : ∃ a n c, vv = .slice a n c) (ha : ∃ a n c, av = .slice a n c) (h0 : -9223372036854775808 ≤ s.la) (h1 : s.la ≤ 9223372036854775807) (hbs : bs n = [33]) :
    Calls Tryz.prog 50 #[.agg #[vv, av, .int .i64 s.st, .int .i64 s.la], .string n] w fun e w' => e = .returned (out (if s.la = 0 then none else some (tx (Lib.itoa s.la)))) ∧ Below w.heap.size w w' := by
  have hn : n.size ≤ 9223372036854775807 := by have := congrArg List.length hbs; rw [lenB] at this; simp at this; omega
  have hnm : nameL n.data.toList = false := by rw [show n.data.toList = bs n from rfl, hbs]; decide
  have hpm : paramL n.data.toList = true := by rw [show n.data.toList = bs n from rfl, hbs]; decide
  have t1 : (n.toList == [48]) = false := by rw [tests, hbs]; decide
  have t2 : (n.toList == [35]) = false := by rw [tests, hbs]; decide
  have t3 : (n.toList == [63]) = false := by rw [tests, hbs]; decide
  have t4 : (n.toList == [36]) = false := by rw [tests, hbs]; decide
  have t5 : (n.toList == [33]) = true := by rw [tests, hbs]; decide
  have t6 : (n.toList == [64]) = false := by rw [tests, hbs]; decide
  have t7 : (n.toList == [42]) = false := by rw [tests, hbs]; decide
  obtain ⟨a1, n1, c1, rfl⟩ := hv
  obtain ⟨a2, n2, c2, rfl⟩ := ha
  by_cases hz : s.la = 0
  · rw [if_pos hz, hz]
    go_enter Tryz.func50, Tryz.ntmps50
    go_wp2_with (first
      | (go_at_call 22; refine (rname_any n _ hn).mono ?_; rintro e w' ⟨rfl, rfl⟩; rw [hnm])
      | (go_at_call 41; refine (rparam_any n _ hn).mono ?_; rintro e w' ⟨rfl, rfl⟩; rw [hpm])
      | (go_at_call 77; refine (rdig_any s.la _ h0 h1).mono ?_; rintro e w2 ⟨rfl, hb2⟩))
    go_ret2
    exact ⟨rfl, below_alloc w _⟩
  · rw [if_neg hz]
    go_enter Tryz.func50, Tryz.ntmps50
    go_wp2_with (first
      | (go_at_call 22; refine (rname_any n _ hn).mono ?_; rintro e w' ⟨rfl, rfl⟩; rw [hnm])
      | (go_at_call 41; refine (rparam_any n _ hn).mono ?_; rintro e w' ⟨rfl, rfl⟩; rw [hpm])
      | (go_at_call 77; refine (rdig_any s.la _ h0 h1).mono ?_; rintro e w2 ⟨rfl, hb2⟩))
    go_ret2
    exact ⟨rfl, (below_alloc w _).trans (hb2.mono (by simp [World.size_alloc]))⟩

end Vr
end Go.Proofs.YtoneabcbeikkhaaGreatDoor

namespace Go.Proofs.YtoneabcbeikkhaaGreatDoor
open Go.RowKit Go.Maps Cls
namespace Vr

set_option maxRecDepth 4000 in
set_option maxHeartbeats 1000000 in
theorem rget_all (s : St) (n : ByteArray) (vv av : Value) (w : World) (hv : ∃ a n c, vv = .slice a n c) (ha : Txt w av s.args) (hl : s.args.length ≤ 1000000) (hj : (joinB s.args).length ≤ 4194304) (hbs : bs n = [64] ∨ bs n = [42]) :
    Calls Tryz.prog 50 #[.agg #[vv, av, .int .i64 s.st, .int .i64 s.la], .string n] w fun e w' => e = .returned (out (if s.args = [] then none else some (tx (joinB s.args)))) ∧ Below w.heap.size w w' := by
  have hn : n.size ≤ 9223372036854775807 := by rcases hbs with h | h <;> (have := congrArg List.length h; rw [lenB] at this; simp at this; omega)
  have hnm : nameL n.data.toList = false := by rw [show n.data.toList = bs n from rfl]; rcases hbs with h | h <;> (rw [h]; decide)
  have hpm : paramL n.data.toList = true := by rw [show n.data.toList = bs n from rfl]; rcases hbs with h | h <;> (rw [h]; decide)
  have t1 : (n.toList == [48]) = false := by rw [tests]; rcases hbs with h | h <;> (rw [h]; decide)
  have t2 : (n.toList == [35]) = false := by rw [tests]; rcases hbs with h | h <;> (rw [h]; decide)
  have t3 : (n.toList == [63]) = false := by rw [tests]; rcases hbs with h | h <;> (rw [h]; decide)
  have t4 : (n.toList == [36]) = false := by rw [tests]; rcases hbs with h | h <;> (rw [h]; decide)
  have t5 : (n.toList == [33]) = false := by rw [tests]; rcases hbs with h | h <;> (rw [h]; decide)
  have t67 : ((n.toList == [64]) || (n.toList == [42])) = true := by rw [tests, tests]; rcases hbs with h | h <;> (rw [h]; decide)
  obtain ⟨a1, n1, c1, rfl⟩ := hv
  have hj2 := Lib.hid (fun w' (h : Txt w' av s.args) => rjoin_any s.args av w' h hl hj)
  have HA := Lib.hid ha
  obtain ⟨a2, c2, rfl, _⟩ := ha.cell
  have hres : out (if s.args = [] then none else some (tx (joinB s.args))) = .tuple #[.string (tx (joinB s.args)), .bool (decide (0 < s.args.length))] := by
    by_cases he : s.args = []
    · rw [if_pos he, he]; rfl
    · have hp : 0 < s.args.length := List.length_pos_iff.2 he
      rw [if_neg he, decide_eq_true (by omega)]; rfl
  rw [hres]
  clear hres ha hj
  generalize tx (joinB s.args) = J at hj2 ⊢
  cases t6 : (n.toList == [64])
  · have t7 : (n.toList == [42]) = true := by rw [t6] at t67; simpa using t67
    clear t67
    go_enter Tryz.func50, Tryz.ntmps50
    go_wp2_with (first
      | (go_at_call 22; refine (rname_any n _ hn).mono ?_; rintro e w' ⟨rfl, rfl⟩; rw [hnm])
      | (go_at_call 41; refine (rparam_any n _ hn).mono ?_; rintro e w' ⟨rfl, rfl⟩; rw [hpm]))
    have hS : (w.alloc (.cells #[.slice a1 n1 c1, .slice a2 s.args.length c2, .int .i64 s.st, .int .i64 s.la] 25)).drew.heap[w.heap.size]? = some (.cells #[.slice a1 n1 c1, .slice a2 s.args.length c2, .int .i64 s.st, .int .i64 s.la] 25 (0, 0)) := heap_alloc_new w _
    have hlt : w.heap.size < (w.alloc (.cells #[.slice a1 n1 c1, .slice a2 s.args.length c2, .int .i64 s.st, .int .i64 s.la] 25)).heap.size := by simp [World.size_alloc]
    refine RN.begins (fun w' => w'.heap[w.heap.size]? = some (.cells #[.slice a1 n1 c1, .slice a2 s.args.length c2, .int .i64 s.st, .int .i64 s.la] 25 (0, 0))) [] (by kernel_rfl) ?_
    refine RN.take (i := 0) (v := ?_) rfl (by decide) (by kernel_rfl) (by kernel_rfl) (by kernel_rfl) (by kernel_rfl) (by kernel_rfl) (by first | exact fun _ _ _ h => h | exact fun _ _ _ h => (by cases h.1) | exact fun _ _ _ h => door_put (by decide) h) (.inl ⟨by rfl, ?_⟩) hS ?_
    rotate_left 1
    · (intro wq hq; have s1 : wq.cell? ⟨w.heap.size, 1, none⟩ = some (.slice a2 s.args.length c2) := Lib.cell_of_heap hq 1; go_simp; try with_reducible rfl)
    refine RN.take (i := 1) (v := ?_) rfl (by decide) (by kernel_rfl) (by kernel_rfl) (by kernel_rfl) (by kernel_rfl) (by kernel_rfl) (by first | exact fun _ _ _ h => h | exact fun _ _ _ h => (by cases h.1) | exact fun _ _ _ h => door_put (by decide) h) (.inl ⟨by rfl, ?_⟩) hS ?_
    rotate_left 1
    · (intro wq hq; have s1 : wq.cell? ⟨w.heap.size, 1, none⟩ = some (.slice a2 s.args.length c2) := Lib.cell_of_heap hq 1; go_simp; try with_reducible rfl)
    refine RN.take (i := 3) (v := ?_) rfl (by decide) (by kernel_rfl) (by kernel_rfl) (by kernel_rfl) (by kernel_rfl) (by kernel_rfl) (by first | exact fun _ _ _ h => h | exact fun _ _ _ h => (by cases h.1) | exact fun _ _ _ h => door_put (by decide) h) (.inl ⟨by rfl, ?_⟩) hS ?_
    rotate_left 1
    · (intro wq hq; have s1 : wq.cell? ⟨w.heap.size, 1, none⟩ = some (.slice a2 s.args.length c2) := Lib.cell_of_heap hq 1; go_simp; try with_reducible rfl)
    refine RN.take (i := 4) (v := ?_) rfl (by decide) (by kernel_rfl) (by kernel_rfl) (by kernel_rfl) (by kernel_rfl) (by kernel_rfl) (by first | exact fun _ _ _ h => h | exact fun _ _ _ h => (by cases h.1) | exact fun _ _ _ h => door_put (by decide) h) (.inl ⟨by rfl, ?_⟩) hS ?_
    rotate_left 1
    · (intro wq hq; have s1 : wq.cell? ⟨w.heap.size, 1, none⟩ = some (.slice a2 s.args.length c2) := Lib.cell_of_heap hq 1; go_simp; try with_reducible rfl)
    refine RN.take (i := 5) (v := ?_) rfl (by decide) (by kernel_rfl) (by kernel_rfl) (by kernel_rfl) (by kernel_rfl) (by kernel_rfl) (by first | exact fun _ _ _ h => h | exact fun _ _ _ h => (by cases h.1) | exact fun _ _ _ h => door_put (by decide) h) (.inl ⟨by rfl, ?_⟩) hS ?_
    rotate_left 1
    · (intro wq hq; have s1 : wq.cell? ⟨w.heap.size, 1, none⟩ = some (.slice a2 s.args.length c2) := Lib.cell_of_heap hq 1; go_simp; try with_reducible rfl)
    refine RN.take (i := 6) (v := ?_) rfl (by decide) (by kernel_rfl) (by kernel_rfl) (by kernel_rfl) (by kernel_rfl) (by kernel_rfl) (by first | exact fun _ _ _ h => h | exact fun _ _ _ h => (by cases h.1) | exact fun _ _ _ h => door_put (by decide) h) (.inl ⟨by rfl, ?_⟩) hS ?_
    rotate_left 1
    · (intro wq hq; have s1 : wq.cell? ⟨w.heap.size, 1, none⟩ = some (.slice a2 s.args.length c2) := Lib.cell_of_heap hq 1; go_simp; try with_reducible rfl)
    refine RN.all (rs := [2]) (by kernel_rfl) (by simp) ?_
    refine RN.All.cons rfl (fun K hK => ?_) RN.All.nil
    go_simp
    refine (hj2.out _ (HA.out.stay (w' := (w.alloc (.cells #[.slice a1 n1 c1, .slice a2 s.args.length c2, .int .i64 s.st, .int .i64 s.la] 25)).drew) ⟨rfl, rfl, rfl, (below_alloc w _).size, (below_alloc w _).block⟩)).mono ?_
    rintro e w2 ⟨rfl, hw2⟩
    subst hw2
    refine hK _ _ (fun _ => hS) ?_
    clear hK K
    refine RN.all (rs := [7]) (by kernel_rfl) (by simp) ?_
    refine RN.All.cons rfl (fun K hK => ?_) RN.All.nil
    go_simp
    refine hK _ _ (fun _ => hS) ?_
    clear hK K
    refine RN.all (rs := [8]) (by kernel_rfl) (by simp) ?_
    refine RN.All.cons rfl (fun K hK => ?_) RN.All.nil
    go_simp
    refine hK _ _ (fun _ => hS) ?_
    clear hK K
    refine RN.done (by kernel_rfl) ?_ _
    go_wp2_with fail
    go_ret2
    exact ⟨rfl, (below_alloc w _).drew⟩
  · clear t67
    go_enter Tryz.func50, Tryz.ntmps50
    go_wp2_with (first
      | (go_at_call 22; refine (rname_any n _ hn).mono ?_; rintro e w' ⟨rfl, rfl⟩; rw [hnm])
      | (go_at_call 41; refine (rparam_any n _ hn).mono ?_; rintro e w' ⟨rfl, rfl⟩; rw [hpm]))
    have hS : (w.alloc (.cells #[.slice a1 n1 c1, .slice a2 s.args.length c2, .int .i64 s.st, .int .i64 s.la] 25)).drew.heap[w.heap.size]? = some (.cells #[.slice a1 n1 c1, .slice a2 s.args.length c2, .int .i64 s.st, .int .i64 s.la] 25 (0, 0)) := heap_alloc_new w _
    have hlt : w.heap.size < (w.alloc (.cells #[.slice a1 n1 c1, .slice a2 s.args.length c2, .int .i64 s.st, .int .i64 s.la] 25)).heap.size := by simp [World.size_alloc]
    refine RN.begins (fun w' => w'.heap[w.heap.size]? = some (.cells #[.slice a1 n1 c1, .slice a2 s.args.length c2, .int .i64 s.st, .int .i64 s.la] 25 (0, 0))) [] (by kernel_rfl) ?_
    refine RN.take (i := 0) (v := ?_) rfl (by decide) (by kernel_rfl) (by kernel_rfl) (by kernel_rfl) (by kernel_rfl) (by kernel_rfl) (by first | exact fun _ _ _ h => h | exact fun _ _ _ h => (by cases h.1) | exact fun _ _ _ h => door_put (by decide) h) (.inl ⟨by rfl, ?_⟩) hS ?_
    rotate_left 1
    · (intro wq hq; have s1 : wq.cell? ⟨w.heap.size, 1, none⟩ = some (.slice a2 s.args.length c2) := Lib.cell_of_heap hq 1; go_simp; try with_reducible rfl)
    refine RN.take (i := 1) (v := ?_) rfl (by decide) (by kernel_rfl) (by kernel_rfl) (by kernel_rfl) (by kernel_rfl) (by kernel_rfl) (by first | exact fun _ _ _ h => h | exact fun _ _ _ h => (by cases h.1) | exact fun _ _ _ h => door_put (by decide) h) (.inl ⟨by rfl, ?_⟩) hS ?_
    rotate_left 1
    · (intro wq hq; have s1 : wq.cell? ⟨w.heap.size, 1, none⟩ = some (.slice a2 s.args.length c2) := Lib.cell_of_heap hq 1; go_simp; try with_reducible rfl)
    refine RN.take (i := 3) (v := ?_) rfl (by decide) (by kernel_rfl) (by kernel_rfl) (by kernel_rfl) (by kernel_rfl) (by kernel_rfl) (by first | exact fun _ _ _ h => h | exact fun _ _ _ h => (by cases h.1) | exact fun _ _ _ h => door_put (by decide) h) (.inl ⟨by rfl, ?_⟩) hS ?_
    rotate_left 1
    · (intro wq hq; have s1 : wq.cell? ⟨w.heap.size, 1, none⟩ = some (.slice a2 s.args.length c2) := Lib.cell_of_heap hq 1; go_simp; try with_reducible rfl)
    refine RN.take (i := 4) (v := ?_) rfl (by decide) (by kernel_rfl) (by kernel_rfl) (by kernel_rfl) (by kernel_rfl) (by kernel_rfl) (by first | exact fun _ _ _ h => h | exact fun _ _ _ h => (by cases h.1) | exact fun _ _ _ h => door_put (by decide) h) (.inl ⟨by rfl, ?_⟩) hS ?_
    rotate_left 1
    · (intro wq hq; have s1 : wq.cell? ⟨w.heap.size, 1, none⟩ = some (.slice a2 s.args.length c2) := Lib.cell_of_heap hq 1; go_simp; try with_reducible rfl)
    refine RN.take (i := 5) (v := ?_) rfl (by decide) (by kernel_rfl) (by kernel_rfl) (by kernel_rfl) (by kernel_rfl) (by kernel_rfl) (by first | exact fun _ _ _ h => h | exact fun _ _ _ h => (by cases h.1) | exact fun _ _ _ h => door_put (by decide) h) (.inl ⟨by rfl, ?_⟩) hS ?_
    rotate_left 1
    · (intro wq hq; have s1 : wq.cell? ⟨w.heap.size, 1, none⟩ = some (.slice a2 s.args.length c2) := Lib.cell_of_heap hq 1; go_simp; try with_reducible rfl)
    refine RN.take (i := 6) (v := ?_) rfl (by decide) (by kernel_rfl) (by kernel_rfl) (by kernel_rfl) (by kernel_rfl) (by kernel_rfl) (by first | exact fun _ _ _ h => h | exact fun _ _ _ h => (by cases h.1) | exact fun _ _ _ h => door_put (by decide) h) (.inl ⟨by rfl, ?_⟩) hS ?_
    rotate_left 1
    · (intro wq hq; have s1 : wq.cell? ⟨w.heap.size, 1, none⟩ = some (.slice a2 s.args.length c2) := Lib.cell_of_heap hq 1; go_simp; try with_reducible rfl)
    refine RN.all (rs := [2]) (by kernel_rfl) (by simp) ?_
    refine RN.All.cons rfl (fun K hK => ?_) RN.All.nil
    go_simp
    refine (hj2.out _ (HA.out.stay (w' := (w.alloc (.cells #[.slice a1 n1 c1, .slice a2 s.args.length c2, .int .i64 s.st, .int .i64 s.la] 25)).drew) ⟨rfl, rfl, rfl, (below_alloc w _).size, (below_alloc w _).block⟩)).mono ?_
    rintro e w2 ⟨rfl, hw2⟩
    subst hw2
    refine hK _ _ (fun _ => hS) ?_
    clear hK K
    refine RN.all (rs := [7]) (by kernel_rfl) (by simp) ?_
    refine RN.All.cons rfl (fun K hK => ?_) RN.All.nil
    go_simp
    refine hK _ _ (fun _ => hS) ?_
    clear hK K
    refine RN.all (rs := [8]) (by kernel_rfl) (by simp) ?_
    refine RN.All.cons rfl (fun K hK => ?_) RN.All.nil
    go_simp
    refine hK _ _ (fun _ => hS) ?_
    clear hK K
    refine RN.done (by kernel_rfl) ?_ _
    go_wp2_with fail
    go_ret2
    exact ⟨rfl, (below_alloc w _).drew⟩
end Vr
end Go.Proofs.YtoneabcbeikkhaaGreatDoor

namespace Go.Proofs.YtoneabcbeikkhaaGreatDoor
open Go.RowKit Go.Maps Cls
namespace Vr

set_option maxRecDepth 4000 in
set_option maxHeartbeats 2000000 in
theorem rget_arg (s : St) (n : ByteArray) (vv av : Value) (w : World) (hv : ∃ a n c, vv = .slice a n c) (ha : Txt w av s.args) (hl : s.args.length ≤ 1000000) (hn : n.size ≤ 9223372036854775807) (hnm : nameL (bs n) = false) (hpm : paramL (bs n) = true)
    (h1 : bs n ≠ [48]) (h2 : bs n ≠ [35]) (h3 : bs n ≠ [63]) (h4 : bs n ≠ [36]) (h5 : bs n ≠ [33]) (h6 : bs n ≠ [64]) (h7 : bs n ≠ [42]) :
    Calls Tryz.prog 50 #[.agg #[vv, av, .int .i64 s.st, .int .i64 s.la], .string n] w fun e w' => e = .returned (out (argV s.args (bs n))) ∧ Below w.heap.size w w' := by
  have t1 : (n.toList == [48]) = false := by rw [tests]; exact beq_eq_false_iff_ne.2 h1
  have t2 : (n.toList == [35]) = false := by rw [tests]; exact beq_eq_false_iff_ne.2 h2
  have t3 : (n.toList == [63]) = false := by rw [tests]; exact beq_eq_false_iff_ne.2 h3
  have t4 : (n.toList == [36]) = false := by rw [tests]; exact beq_eq_false_iff_ne.2 h4
  have t5 : (n.toList == [33]) = false := by rw [tests]; exact beq_eq_false_iff_ne.2 h5
  have t6 : (n.toList == [64]) = false := by rw [tests]; exact beq_eq_false_iff_ne.2 h6
  have t7 : (n.toList == [42]) = false := by rw [tests]; exact beq_eq_false_iff_ne.2 h7
  have hsp : specialL (bs n) = false := by simp only [specialL, Bool.or_eq_false_iff, beq_eq_false_iff_ne]; exact ⟨⟨⟨⟨⟨h6, h7⟩, h2⟩, h3⟩, h4⟩, h5⟩
  have hnu : numberL (bs n) = true := by rw [paramL, hnm, hsp] at hpm; simpa using hpm
  obtain ⟨m, hm1, hm2, hm⟩ := number_of hnu h1
  have hval : argV s.args (bs n) = s.args[m - 1]? := by rw [hm]; exact argV_digits _ _ hm1
  rw [hval]
  clear hval hsp hnu
  have hnm2 : nameL n.data.toList = false := hnm
  have hpm2 : paramL n.data.toList = true := hpm
  obtain ⟨a1, n1, c1, rfl⟩ := hv
  obtain ⟨a2, c2, rfl, hcell⟩ := ha.cell
  have HC := Lib.hid hcell; have HM := Lib.hid hm
  clear ha hcell h1 h2 h3 h4 h5 h6 h7 hm
  go_enter Tryz.func50, Tryz.ntmps50
  go_wp2_with (first
    | (go_at_call 22; refine (rname_any n _ hn).mono ?_; rintro e w' ⟨rfl, rfl⟩; rw [hnm2])
    | (go_at_call 41; refine (rparam_any n _ hn).mono ?_; rintro e w' ⟨rfl, rfl⟩; rw [hpm2]))
  go_loopw [68] (fun i wr => ∃ k : Nat, k ≤ s.args.length ∧ k ≤ m - 1 ∧ i = .int .i64 k ∧ Below w.heap.size w wr) (fun i _ => s.args.length - (intOf i).toNat)
  case atStart => exact ⟨0, Nat.zero_le _, Nat.zero_le _, rfl, below_alloc w _⟩
  case round =>
    obtain ⟨k, hk, hkm, rfl, hbw⟩ := hrel
    have HB := Lib.hid hbw
    rcases Nat.lt_or_ge k s.args.length with hlt | hge
    · have hx : s.args[k]? = some (s.args[k]'hlt) := List.getElem?_eq_getElem hlt
      obtain ⟨b, off, rfl, hbl, hc1⟩ := HC.out k _ hx
      generalize s.args[k] = x at hc1 hx
      have q1 : wr.cell? ⟨b, off + k, none⟩ = some (.string x) := (World.cell?_of_block (hbw.block b hbl)).trans hc1
      have HX := Lib.hid hx
      clear hc1 hbw hx
      have hdd : Lib.itoa ((k : Int) + 1) = Lib.decDigits (k + 1) := Lib.itoa_nonneg (k + 1)
      by_cases he : k + 1 = m
      · have t8 : ((tx (Lib.itoa ((k : Int) + 1))).toList == n.toList) = true := by
          rw [Lib.toList_data, Lib.toList_data, show (tx (Lib.itoa ((k : Int) + 1))).data.toList = Lib.itoa ((k : Int) + 1) from bs_tx _, hdd, show n.data.toList = bs n from rfl, HM.out, he]; simp
        have HE := Lib.hid he
        clear he hdd
        go_wp2_with (go_at_call 77; refine (rdig_any ((k : Int) + 1) _ (by omega) (by omega)).mono ?_; rintro e w2 ⟨rfl, hb2⟩)
        go_ret2
        refine ⟨?_, HB.out.trans (hb2.mono HB.out.size)⟩
        rw [show m - 1 = k by have := HE.out; omega, HX.out]; rfl
      · have t8 : ((tx (Lib.itoa ((k : Int) + 1))).toList == n.toList) = false := by
          rw [beq_eq_false_iff_ne, Lib.toList_data, Lib.toList_data, show (tx (Lib.itoa ((k : Int) + 1))).data.toList = Lib.itoa ((k : Int) + 1) from bs_tx _, hdd, show n.data.toList = bs n from rfl, HM.out]
          exact fun e => he (digits_inj e)
        clear hdd
        go_wp2_with (go_at_call 77; refine (rdig_any ((k : Int) + 1) _ (by omega) (by omega)).mono ?_; rintro e w2 ⟨rfl, hb2⟩)
        go_roundw
        case rel => exact ⟨k + 1, by omega, by omega, by go_num, HB.out.trans (hb2.mono HB.out.size)⟩
        case measure => simp [intOf]; omega
    · obtain rfl : k = s.args.length := by omega
      have hx : s.args[m - 1]? = none := List.getElem?_eq_none (by omega)
      clear hbw
      go_wp2_with fail
      go_ret2
      exact ⟨by rw [hx]; rfl, HB.out⟩
theorem Prs.shape {w : World} {v : Value} {vs : Vs} (h : Prs w v vs) : ∃ a n c, v = .slice a n c := by
  obtain ⟨a, c, h, _⟩ := h.cell; exact ⟨_, _, _, h⟩
theorem Txt.shape {w : World} {v : Value} {xs : List ByteArray} (h : Txt w v xs) : ∃ a n c, v = .slice a n c := by
  obtain ⟨a, c, h, _⟩ := h.cell; exact ⟨_, _, _, h⟩
theorem rget_any (s : St) (n : ByteArray) (vv av : Value) (w : World) (hp : Prs w vv s.vs) (ha : Txt w av s.args) (hf : Fit s) (hj : (joinB s.args).length ≤ 4194304) (hn : n.size ≤ 9223372036854775807) :
    Calls Tryz.prog 50 #[.agg #[vv, av, .int .i64 s.st, .int .i64 s.la], .string n] w fun e w' => e = .returned (out (val s n)) ∧ Below w.heap.size w w' := by
  have hv := hp.shape
  have ha' := ha.shape
  unfold val
  by_cases hnm : nameL (bs n) = true
  · rw [if_pos hnm]; exact rget_name s n vv av w hp ha' (by have := hf.nvs; omega) hn hnm
  · have hnm' : nameL (bs n) = false := by simpa using hnm
    rw [if_neg hnm]
    by_cases hpm : paramL (bs n) = false
    · rw [if_pos hpm]; exact rget_nothing s n vv av w hv ha' hn hnm' hpm
    · rw [if_neg hpm]
      have hpm' : paramL (bs n) = true := by simpa using hpm
      by_cases h1 : bs n = [48]
      · rw [if_pos h1]; exact rget_sh s n vv av w hv ha' h1
      rw [if_neg h1]
      by_cases h2 : bs n = [35]
      · rw [if_pos h2]; exact rget_count s n vv av w hv ha hf.nargs h2
      rw [if_neg h2]
      by_cases h3 : bs n = [63]
      · rw [if_pos h3]; exact rget_status s n vv av w hv ha' hf.st0 hf.st1 h3
      rw [if_neg h3]
      by_cases h4 : bs n = [36]
      · rw [if_pos h4]; exact rget_pid s n vv av w hv ha' h4
      rw [if_neg h4]
      by_cases h5 : bs n = [33]
      · rw [if_pos h5]; exact rget_last s n vv av w hv ha' hf.la0 hf.la1 h5
      rw [if_neg h5]
      by_cases h6 : bs n = [64] ∨ bs n = [42]
      · rw [if_pos h6]; exact rget_all s n vv av w hv ha hf.nargs hj h6
      rw [if_neg h6]
      exact rget_arg s n vv av w hv ha hf.nargs hn hnm' hpm' h1 h2 h3 h4 h5 (fun e => h6 (.inl e)) (fun e => h6 (.inr e))
end Vr
end Go.Proofs.YtoneabcbeikkhaaGreatDoor
