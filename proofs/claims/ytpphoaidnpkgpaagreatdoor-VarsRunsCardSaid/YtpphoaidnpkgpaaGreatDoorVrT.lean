/- The reference's Get: what has a sign of its own. -/
import Derived.Test.YtpphoaidnpkgpaaGreatDoorVrS
namespace Go.Proofs.YtpphoaidnpkgpaaGreatDoor
open Go.RowKit Go.Maps Cls
namespace Vr

set_option maxRecDepth 4000 in
set_option maxHeartbeats 1000000 in
theorem rget_sh (s : St) (n : ByteArray) (vv av : Value) (w : World) (hv : ∃ a n c, vv = .slice a n c) (ha : ∃ a n c, av = .slice a n c) (hbs : bs n = [48]) :
    Calls Tryz.prog 8 #[.agg #[vv, av, .int .i64 s.st, .int .i64 s.la], .string n] w fun e w' => e = .returned (out (some (tx [115, 104]))) ∧ Below w.heap.size w w' := by
  have hn : n.size ≤ 9223372036854775807 := by have := congrArg List.length hbs; rw [lenB] at this; simp at this; omega
  have hnm : nameL n.data.toList = false := by rw [show n.data.toList = bs n from rfl, hbs]; decide
  have hpm : paramL n.data.toList = true := by rw [show n.data.toList = bs n from rfl, hbs]; decide
  have t1 : (n.toList == [48]) = true := by rw [tests, hbs]; decide
  have t2 : (n.toList == [35]) = false := by rw [tests, hbs]; decide
  have t3 : (n.toList == [63]) = false := by rw [tests, hbs]; decide
  have t4 : (n.toList == [36]) = false := by rw [tests, hbs]; decide
  have t5 : (n.toList == [33]) = false := by rw [tests, hbs]; decide
  have t6 : (n.toList == [64]) = false := by rw [tests, hbs]; decide
  have t7 : (n.toList == [42]) = false := by rw [tests, hbs]; decide
  obtain ⟨a1, n1, c1, rfl⟩ := hv
  obtain ⟨a2, n2, c2, rfl⟩ := ha
  go_enter Tryz.func8, Tryz.ntmps8
  go_wp2_with (first
    | (go_at_call 18; refine (rname_any n _ hn).mono ?_; rintro e w' ⟨rfl, rfl⟩; rw [hnm])
    | (go_at_call 19; refine (rparam_any n _ hn).mono ?_; rintro e w' ⟨rfl, rfl⟩; rw [hpm]))
  go_ret2
  exact ⟨rfl, below_alloc w _⟩

set_option maxRecDepth 4000 in
set_option maxHeartbeats 1000000 in
theorem rget_pid (s : St) (n : ByteArray) (vv av : Value) (w : World) (hv : ∃ a n c, vv = .slice a n c) (ha : ∃ a n c, av = .slice a n c) (hbs : bs n = [36]) :
    Calls Tryz.prog 8 #[.agg #[vv, av, .int .i64 s.st, .int .i64 s.la], .string n] w fun e w' => e = .returned (out (some (tx [49]))) ∧ Below w.heap.size w w' := by
  have hn : n.size ≤ 9223372036854775807 := by have := congrArg List.length hbs; rw [lenB] at this; simp at this; omega
  have hnm : nameL n.data.toList = false := by rw [show n.data.toList = bs n from rfl, hbs]; decide
  have hpm : paramL n.data.toList = true := by rw [show n.data.toList = bs n from rfl, hbs]; decide
  have t1 : (n.toList == [48]) = false := by rw [tests, hbs]; decide
  have t2 : (n.toList == [35]) = false := by rw [tests, hbs]; decide
  have t3 : (n.toList == [63]) = false := by rw [tests, hbs]; decide
  have t4 : (n.toList == [36]) = true := by rw [tests, hbs]; decide
  have t5 : (n.toList == [33]) = false := by rw [tests, hbs]; decide
  have t6 : (n.toList == [64]) = false := by rw [tests, hbs]; decide
  have t7 : (n.toList == [42]) = false := by rw [tests, hbs]; decide
  obtain ⟨a1, n1, c1, rfl⟩ := hv
  obtain ⟨a2, n2, c2, rfl⟩ := ha
  go_enter Tryz.func8, Tryz.ntmps8
  go_wp2_with (first
    | (go_at_call 18; refine (rname_any n _ hn).mono ?_; rintro e w' ⟨rfl, rfl⟩; rw [hnm])
    | (go_at_call 19; refine (rparam_any n _ hn).mono ?_; rintro e w' ⟨rfl, rfl⟩; rw [hpm]))
  go_ret2
  exact ⟨rfl, below_alloc w _⟩

set_option maxRecDepth 4000 in
set_option maxHeartbeats 1000000 in
theorem rget_status (s : St) (n : ByteArray) (vv av : Value) (w : World) (hv : ∃ a n c, vv = .slice a n c) (ha : ∃ a n c, av = .slice a n c) (h0 : -9223372036854775808 ≤ s.st) (h1 : s.st ≤ 9223372036854775807) (hbs : bs n = [63]) :
    Calls Tryz.prog 8 #[.agg #[vv, av, .int .i64 s.st, .int .i64 s.la], .string n] w fun e w' => e = .returned (out (some (tx (Lib.itoa s.st)))) ∧ Below w.heap.size w w' := by
  have hn : n.size ≤ 9223372036854775807 := by have := congrArg List.length hbs; rw [lenB] at this; simp at this; omega
  have hnm : nameL n.data.toList = false := by rw [show n.data.toList = bs n from rfl, hbs]; decide
  have hpm : paramL n.data.toList = true := by rw [show n.data.toList = bs n from rfl, hbs]; decide
  have t1 : (n.toList == [48]) = false := by rw [tests, hbs]; decide
  have t2 : (n.toList == [35]) = false := by rw [tests, hbs]; decide
  have t3 : (n.toList == [63]) = true := by rw [tests, hbs]; decide
  have t4 : (n.toList == [36]) = false := by rw [tests, hbs]; decide
  have t5 : (n.toList == [33]) = false := by rw [tests, hbs]; decide
  have t6 : (n.toList == [64]) = false := by rw [tests, hbs]; decide
  have t7 : (n.toList == [42]) = false := by rw [tests, hbs]; decide
  obtain ⟨a1, n1, c1, rfl⟩ := hv
  obtain ⟨a2, n2, c2, rfl⟩ := ha
  go_enter Tryz.func8, Tryz.ntmps8
  go_wp2_with (first
    | (go_at_call 18; refine (rname_any n _ hn).mono ?_; rintro e w' ⟨rfl, rfl⟩; rw [hnm])
    | (go_at_call 19; refine (rparam_any n _ hn).mono ?_; rintro e w' ⟨rfl, rfl⟩; rw [hpm])
    | (go_at_call 20; refine (rdig_any s.st _ h0 h1).mono ?_; rintro e w2 ⟨rfl, hb2⟩))
  go_ret2
  exact ⟨rfl, (below_alloc w _).trans (hb2.mono (by simp [World.size_alloc]))⟩

set_option maxRecDepth 4000 in
set_option maxHeartbeats 1000000 in
theorem rget_count (s : St) (n : ByteArray) (vv av : Value) (w : World) (hv : ∃ a n c, vv = .slice a n c) (ha : Txt w av s.args) (hl : s.args.length ≤ 1000000) (hbs : bs n = [35]) :
    Calls Tryz.prog 8 #[.agg #[vv, av, .int .i64 s.st, .int .i64 s.la], .string n] w fun e w' => e = .returned (out (some (tx (Lib.itoa s.args.length)))) ∧ Below w.heap.size w w' := by
  have hn : n.size ≤ 9223372036854775807 := by have := congrArg List.length hbs; rw [lenB] at this; simp at this; omega
  have hnm : nameL n.data.toList = false := by rw [show n.data.toList = bs n from rfl, hbs]; decide
  have hpm : paramL n.data.toList = true := by rw [show n.data.toList = bs n from rfl, hbs]; decide
  have t1 : (n.toList == [48]) = false := by rw [tests, hbs]; decide
  have t2 : (n.toList == [35]) = true := by rw [tests, hbs]; decide
  have t3 : (n.toList == [63]) = false := by rw [tests, hbs]; decide
  have t4 : (n.toList == [36]) = false := by rw [tests, hbs]; decide
  have t5 : (n.toList == [33]) = false := by rw [tests, hbs]; decide
  have t6 : (n.toList == [64]) = false := by rw [tests, hbs]; decide
  have t7 : (n.toList == [42]) = false := by rw [tests, hbs]; decide
  obtain ⟨a1, n1, c1, rfl⟩ := hv
  obtain ⟨a2, c2, rfl, _⟩ := ha.cell
  go_enter Tryz.func8, Tryz.ntmps8
  go_wp2_with (first
    | (go_at_call 18; refine (rname_any n _ hn).mono ?_; rintro e w' ⟨rfl, rfl⟩; rw [hnm])
    | (go_at_call 19; refine (rparam_any n _ hn).mono ?_; rintro e w' ⟨rfl, rfl⟩; rw [hpm])
    | (go_at_call 20; refine (rdig_any s.args.length _ (by omega) (by omega)).mono ?_; rintro e w2 ⟨rfl, hb2⟩))
  go_ret2
  exact ⟨rfl, (below_alloc w _).trans (hb2.mono (by simp [World.size_alloc]))⟩

set_option maxRecDepth 4000 in
set_option maxHeartbeats 1000000 in
theorem rget_last (s : St) (n : ByteArray) (vv av : Value) (w : World) (hv : ∃ a n c, vv = .slice a n c) (ha : ∃ a n c, av = .slice a n c) (h0 : -9223372036854775808 ≤ s.la) (h1 : s.la ≤ 9223372036854775807) (hbs : bs n = [33]) :
    Calls Tryz.prog 8 #[.agg #[vv, av, .int .i64 s.st, .int .i64 s.la], .string n] w fun e w' => e = .returned (out (if s.la = 0 then none else some (tx (Lib.itoa s.la)))) ∧ Below w.heap.size w w' := by
  have hn : n.size ≤ 9223372036854775807 := by have := congrArg List.length hbs; rw [lenB] at this; simp at this; omega
  have hnm : nameL n.data.toList = false := by rw [show n.data.toList = bs n from rfl, hbs]; decide
  have hpm : paramL n.data.toList = true := by rw [show n.data.toList = bs n from rfl, hbs]; decide
  have t1 : (n.toList == [48]) = false := by rw [tests, hbs]; decide
  have t2 : (n.toList == [35]) = false := by rw [tests, hbs]; decide
  have t3 : (n.toList == [63]) = false := by rw [tests, hbs]; decide
  have t4 : (n.toList == [36]) = false := by rw [tests, hbs]; decide
  have t5 : (n.toList == [33]) = true := by rw [tests, hbs]; decide
  have t6 : (n.toList == [64]) = false := by rw [tests, hbs]; decide
  have t7 : (n.toList == [42]) = false := by rw [tests, hbs]; decide
  obtain ⟨a1, n1, c1, rfl⟩ := hv
  obtain ⟨a2, n2, c2, rfl⟩ := ha
  by_cases hz : s.la = 0
  · rw [if_pos hz, hz]
    go_enter Tryz.func8, Tryz.ntmps8
    go_wp2_with (first
      | (go_at_call 18; refine (rname_any n _ hn).mono ?_; rintro e w' ⟨rfl, rfl⟩; rw [hnm])
      | (go_at_call 19; refine (rparam_any n _ hn).mono ?_; rintro e w' ⟨rfl, rfl⟩; rw [hpm])
      | (go_at_call 20; refine (rdig_any s.la _ h0 h1).mono ?_; rintro e w2 ⟨rfl, hb2⟩))
    go_ret2
    exact ⟨rfl, below_alloc w _⟩
  · rw [if_neg hz]
    go_enter Tryz.func8, Tryz.ntmps8
    go_wp2_with (first
      | (go_at_call 18; refine (rname_any n _ hn).mono ?_; rintro e w' ⟨rfl, rfl⟩; rw [hnm])
      | (go_at_call 19; refine (rparam_any n _ hn).mono ?_; rintro e w' ⟨rfl, rfl⟩; rw [hpm])
      | (go_at_call 20; refine (rdig_any s.la _ h0 h1).mono ?_; rintro e w2 ⟨rfl, hb2⟩))
    go_ret2
    exact ⟨rfl, (below_alloc w _).trans (hb2.mono (by simp [World.size_alloc]))⟩

end Vr
end Go.Proofs.YtpphoaidnpkgpaaGreatDoor
