/- Args, Status, Last, Shift, Clone. -/
import Derived.Test.YtpphoaidnpkgpaaGreatDoorVrF
import Derived.Test.YtpphoaidnpkgpaaGreatDoorRegN
namespace Go.Proofs.YtpphoaidnpkgpaaGreatDoor
open Go.RowKit Go.Maps Cls
namespace Vr

set_option maxHeartbeats 1000000 in
theorem args_any (s : St) (B q : Nat) (w : World) (mv av : Value) (hsc : Sc w B q s mv av) (hl : s.args.length ≤ 1000000) :
    Calls Tryz.prog 26 #[.pointer (some ⟨q, 0, none⟩)] w fun e w' => ∃ a n c, e = .returned (.slice a n c) ∧ RowAt w' w.heap.size (.slice a n c) s.args ∧ Below w.heap.size w w' := by
  have c1 : w.cell? ⟨q, 1, none⟩ = some av := cell_of_row _ _ _ _ _ _ hsc.cells
  have hcl := clone_any hsc.args.txt hl
  obtain ⟨a0, n0, k0, rfl⟩ := hsc.args.shape
  clear hsc
  go_enter Tryz.func26, Tryz.ntmps26
  go_wp2_with (go_at_call 22; refine hcl.mono ?_; rintro e w1 ⟨a1, n1, c1, rfl, hr, hb⟩)
  go_ret
  exact ⟨a1, n1, c1, rfl, hr, hb⟩
set_option maxHeartbeats 1000000 in
theorem status_any (s : St) (B q : Nat) (w : World) (mv av : Value) (hsc : Sc w B q s mv av) :
    Calls Tryz.prog 27 #[.pointer (some ⟨q, 0, none⟩)] w fun e w' => e = .returned (.int .i64 s.st) ∧ w' = w := by
  have c1 : w.cell? ⟨q, 2, none⟩ = some (.int .i64 s.st) := cell_of_row _ _ _ _ _ _ hsc.cells
  clear hsc
  go_enter Tryz.func27, Tryz.ntmps27
  go_wp2_with fail
  go_ret
  exact ⟨rfl, rfl⟩
set_option maxHeartbeats 1000000 in
theorem last_any (s : St) (B q : Nat) (w : World) (mv av : Value) (hsc : Sc w B q s mv av) :
    Calls Tryz.prog 28 #[.pointer (some ⟨q, 0, none⟩)] w fun e w' => e = .returned (.int .i64 s.la) ∧ w' = w := by
  have c1 : w.cell? ⟨q, 3, none⟩ = some (.int .i64 s.la) := cell_of_row _ _ _ _ _ _ hsc.cells
  clear hsc
  go_enter Tryz.func28, Tryz.ntmps28
  go_wp2_with fail
  go_ret
  exact ⟨rfl, rfl⟩
theorem cloneMap_any {w : World} {B : Nat} {mv : Value} {vs : Vs} (h : MapAt w B mv vs) :
    Calls Tryz.prog 23 #[mv] w fun e w' => ∃ o, e = .returned (.map o) ∧ MapAt w' w.heap.size (.map o) vs ∧ Below w.heap.size w w' := by
  rcases h with ⟨rfl, hnil⟩ | ⟨b, rfl, hb, hown⟩
  · refine (AnyW.maps_Clone_nil Tryz.cloneM w).mono ?_
    rintro e w' ⟨rfl, rfl⟩
    exact ⟨none, rfl, .inl ⟨rfl, hnil⟩, Below.refl _ _⟩
  · refine (AnyW.maps_Clone_owns Tryz.cloneM 9 _ b _ _ w hown).mono ?_
    rintro e w' ⟨rfl, h1, _, hB⟩
    exact ⟨_, rfl, .inr ⟨_, rfl, Nat.le_refl _, h1⟩, hB⟩
set_option maxHeartbeats 1000000 in
theorem clone_scope (s : St) (B q : Nat) (w : World) (mv av : Value) (hsc : Sc w B q s mv av) (hl : s.args.length ≤ 1000000) :
    Calls Tryz.prog 14 #[.pointer (some ⟨q, 0, none⟩)] w fun e w' => ∃ q' mv' av', e = .returned (.pointer (some ⟨q', 0, none⟩)) ∧ Sc w' w.heap.size q' s mv' av' ∧ Below w.heap.size w w' := by
  have hc := Lib.hid hsc
  have hcm := cloneMap_any hsc.vars
  obtain ⟨a0, n0, k0, rfl⟩ := hsc.args.shape
  have hmv : ∃ o, mv = .map o := by
    rcases hsc.vars with ⟨h, _⟩ | ⟨b, h, _⟩
    · exact ⟨_, h⟩
    · exact ⟨_, h⟩
  obtain ⟨o0, rfl⟩ := hmv
  have hrow := hsc.cells
  have hlt := hsc.lt
  clear hsc hcm
  go_enter Tryz.func14, Tryz.ntmps14
  go_wp2_with fail
  refine RN.begins (fun w' => w'.heap[q]? = some (.cells #[.map o0, .slice a0 n0 k0, .int .i64 s.st, .int .i64 s.la] 28 (0, 0))) [] (by kernel_rfl) ?_
  have hS : w.drew.heap[q]? = some (.cells #[.map o0, .slice a0 n0 k0, .int .i64 s.st, .int .i64 s.la] 28 (0, 0)) := hrow
  refine RN.take (i := 0) (v := ?_) rfl (by decide) (by kernel_rfl) (by kernel_rfl) (by kernel_rfl) (by kernel_rfl) (by kernel_rfl) (by first | exact fun _ _ _ h => h | exact fun _ _ _ h => (by cases h.1) | exact fun _ _ _ h => door_put (by decide) h) (.inl ⟨by rfl, ?_⟩) hS ?_
  rotate_left 1
  · (intro wq hq; have s0 : wq.cell? ⟨q, 0, none⟩ = some (.map o0) := Lib.cell_of_heap hq 0; have s1 : wq.cell? ⟨q, 1, none⟩ = some (.slice a0 n0 k0) := Lib.cell_of_heap hq 1; have s2 : wq.cell? ⟨q, 2, none⟩ = some (.int .i64 s.st) := Lib.cell_of_heap hq 2; have s3 : wq.cell? ⟨q, 3, none⟩ = some (.int .i64 s.la) := Lib.cell_of_heap hq 3; go_simp; try with_reducible rfl)
  refine RN.take (i := 1) (v := ?_) rfl (by decide) (by kernel_rfl) (by kernel_rfl) (by kernel_rfl) (by kernel_rfl) (by kernel_rfl) (by first | exact fun _ _ _ h => h | exact fun _ _ _ h => (by cases h.1) | exact fun _ _ _ h => door_put (by decide) h) (.inl ⟨by rfl, ?_⟩) hS ?_
  rotate_left 1
  · (intro wq hq; have s0 : wq.cell? ⟨q, 0, none⟩ = some (.map o0) := Lib.cell_of_heap hq 0; have s1 : wq.cell? ⟨q, 1, none⟩ = some (.slice a0 n0 k0) := Lib.cell_of_heap hq 1; have s2 : wq.cell? ⟨q, 2, none⟩ = some (.int .i64 s.st) := Lib.cell_of_heap hq 2; have s3 : wq.cell? ⟨q, 3, none⟩ = some (.int .i64 s.la) := Lib.cell_of_heap hq 3; go_simp; try with_reducible rfl)
  refine RN.take (i := 2) (v := ?_) rfl (by decide) (by kernel_rfl) (by kernel_rfl) (by kernel_rfl) (by kernel_rfl) (by kernel_rfl) (by first | exact fun _ _ _ h => h | exact fun _ _ _ h => (by cases h.1) | exact fun _ _ _ h => door_put (by decide) h) (.inl ⟨by rfl, ?_⟩) hS ?_
  rotate_left 1
  · (intro wq hq; have s0 : wq.cell? ⟨q, 0, none⟩ = some (.map o0) := Lib.cell_of_heap hq 0; have s1 : wq.cell? ⟨q, 1, none⟩ = some (.slice a0 n0 k0) := Lib.cell_of_heap hq 1; have s2 : wq.cell? ⟨q, 2, none⟩ = some (.int .i64 s.st) := Lib.cell_of_heap hq 2; have s3 : wq.cell? ⟨q, 3, none⟩ = some (.int .i64 s.la) := Lib.cell_of_heap hq 3; go_simp; try with_reducible rfl)
  refine RN.take (i := 3) (v := ?_) rfl (by decide) (by kernel_rfl) (by kernel_rfl) (by kernel_rfl) (by kernel_rfl) (by kernel_rfl) (by first | exact fun _ _ _ h => h | exact fun _ _ _ h => (by cases h.1) | exact fun _ _ _ h => door_put (by decide) h) (.inl ⟨by rfl, ?_⟩) hS ?_
  rotate_left 1
  · (intro wq hq; have s0 : wq.cell? ⟨q, 0, none⟩ = some (.map o0) := Lib.cell_of_heap hq 0; have s1 : wq.cell? ⟨q, 1, none⟩ = some (.slice a0 n0 k0) := Lib.cell_of_heap hq 1; have s2 : wq.cell? ⟨q, 2, none⟩ = some (.int .i64 s.st) := Lib.cell_of_heap hq 2; have s3 : wq.cell? ⟨q, 3, none⟩ = some (.int .i64 s.la) := Lib.cell_of_heap hq 3; go_simp; try with_reducible rfl)
  refine RN.take (i := 5) (v := ?_) rfl (by decide) (by kernel_rfl) (by kernel_rfl) (by kernel_rfl) (by kernel_rfl) (by kernel_rfl) (by first | exact fun _ _ _ h => h | exact fun _ _ _ h => (by cases h.1) | exact fun _ _ _ h => door_put (by decide) h) (.inl ⟨by rfl, ?_⟩) hS ?_
  rotate_left 1
  · (intro wq hq; have s0 : wq.cell? ⟨q, 0, none⟩ = some (.map o0) := Lib.cell_of_heap hq 0; have s1 : wq.cell? ⟨q, 1, none⟩ = some (.slice a0 n0 k0) := Lib.cell_of_heap hq 1; have s2 : wq.cell? ⟨q, 2, none⟩ = some (.int .i64 s.st) := Lib.cell_of_heap hq 2; have s3 : wq.cell? ⟨q, 3, none⟩ = some (.int .i64 s.la) := Lib.cell_of_heap hq 3; go_simp; try with_reducible rfl)
  refine RN.take (i := 6) (v := ?_) rfl (by decide) (by kernel_rfl) (by kernel_rfl) (by kernel_rfl) (by kernel_rfl) (by kernel_rfl) (by first | exact fun _ _ _ h => h | exact fun _ _ _ h => (by cases h.1) | exact fun _ _ _ h => door_put (by decide) h) (.inl ⟨by rfl, ?_⟩) hS ?_
  rotate_left 1
  · (intro wq hq; have s0 : wq.cell? ⟨q, 0, none⟩ = some (.map o0) := Lib.cell_of_heap hq 0; have s1 : wq.cell? ⟨q, 1, none⟩ = some (.slice a0 n0 k0) := Lib.cell_of_heap hq 1; have s2 : wq.cell? ⟨q, 2, none⟩ = some (.int .i64 s.st) := Lib.cell_of_heap hq 2; have s3 : wq.cell? ⟨q, 3, none⟩ = some (.int .i64 s.la) := Lib.cell_of_heap hq 3; go_simp; try with_reducible rfl)
  refine RN.take (i := 7) (v := ?_) rfl (by decide) (by kernel_rfl) (by kernel_rfl) (by kernel_rfl) (by kernel_rfl) (by kernel_rfl) (by first | exact fun _ _ _ h => h | exact fun _ _ _ h => (by cases h.1) | exact fun _ _ _ h => door_put (by decide) h) (.inl ⟨by rfl, ?_⟩) hS ?_
  rotate_left 1
  · (intro wq hq; have s0 : wq.cell? ⟨q, 0, none⟩ = some (.map o0) := Lib.cell_of_heap hq 0; have s1 : wq.cell? ⟨q, 1, none⟩ = some (.slice a0 n0 k0) := Lib.cell_of_heap hq 1; have s2 : wq.cell? ⟨q, 2, none⟩ = some (.int .i64 s.st) := Lib.cell_of_heap hq 2; have s3 : wq.cell? ⟨q, 3, none⟩ = some (.int .i64 s.la) := Lib.cell_of_heap hq 3; go_simp; try with_reducible rfl)
  refine RN.take (i := 8) (v := ?_) rfl (by decide) (by kernel_rfl) (by kernel_rfl) (by kernel_rfl) (by kernel_rfl) (by kernel_rfl) (by first | exact fun _ _ _ h => h | exact fun _ _ _ h => (by cases h.1) | exact fun _ _ _ h => door_put (by decide) h) (.inl ⟨by rfl, ?_⟩) hS ?_
  rotate_left 1
  · (intro wq hq; have s0 : wq.cell? ⟨q, 0, none⟩ = some (.map o0) := Lib.cell_of_heap hq 0; have s1 : wq.cell? ⟨q, 1, none⟩ = some (.slice a0 n0 k0) := Lib.cell_of_heap hq 1; have s2 : wq.cell? ⟨q, 2, none⟩ = some (.int .i64 s.st) := Lib.cell_of_heap hq 2; have s3 : wq.cell? ⟨q, 3, none⟩ = some (.int .i64 s.la) := Lib.cell_of_heap hq 3; go_simp; try with_reducible rfl)
  refine RN.take (i := 10) (v := ?_) rfl (by decide) (by kernel_rfl) (by kernel_rfl) (by kernel_rfl) (by kernel_rfl) (by kernel_rfl) (by first | exact fun _ _ _ h => h | exact fun _ _ _ h => (by cases h.1) | exact fun _ _ _ h => door_put (by decide) h) (.inl ⟨by rfl, ?_⟩) hS ?_
  rotate_left 1
  · (intro wq hq; have s0 : wq.cell? ⟨q, 0, none⟩ = some (.map o0) := Lib.cell_of_heap hq 0; have s1 : wq.cell? ⟨q, 1, none⟩ = some (.slice a0 n0 k0) := Lib.cell_of_heap hq 1; have s2 : wq.cell? ⟨q, 2, none⟩ = some (.int .i64 s.st) := Lib.cell_of_heap hq 2; have s3 : wq.cell? ⟨q, 3, none⟩ = some (.int .i64 s.la) := Lib.cell_of_heap hq 3; go_simp; try with_reducible rfl)
  refine RN.take (i := 11) (v := ?_) rfl (by decide) (by kernel_rfl) (by kernel_rfl) (by kernel_rfl) (by kernel_rfl) (by kernel_rfl) (by first | exact fun _ _ _ h => h | exact fun _ _ _ h => (by cases h.1) | exact fun _ _ _ h => door_put (by decide) h) (.inl ⟨by rfl, ?_⟩) hS ?_
  rotate_left 1
  · (intro wq hq; have s0 : wq.cell? ⟨q, 0, none⟩ = some (.map o0) := Lib.cell_of_heap hq 0; have s1 : wq.cell? ⟨q, 1, none⟩ = some (.slice a0 n0 k0) := Lib.cell_of_heap hq 1; have s2 : wq.cell? ⟨q, 2, none⟩ = some (.int .i64 s.st) := Lib.cell_of_heap hq 2; have s3 : wq.cell? ⟨q, 3, none⟩ = some (.int .i64 s.la) := Lib.cell_of_heap hq 3; go_simp; try with_reducible rfl)
  refine RN.take (i := 12) (v := ?_) rfl (by decide) (by kernel_rfl) (by kernel_rfl) (by kernel_rfl) (by kernel_rfl) (by kernel_rfl) (by first | exact fun _ _ _ h => h | exact fun _ _ _ h => (by cases h.1) | exact fun _ _ _ h => door_put (by decide) h) (.inl ⟨by rfl, ?_⟩) hS ?_
  rotate_left 1
  · (intro wq hq; have s0 : wq.cell? ⟨q, 0, none⟩ = some (.map o0) := Lib.cell_of_heap hq 0; have s1 : wq.cell? ⟨q, 1, none⟩ = some (.slice a0 n0 k0) := Lib.cell_of_heap hq 1; have s2 : wq.cell? ⟨q, 2, none⟩ = some (.int .i64 s.st) := Lib.cell_of_heap hq 2; have s3 : wq.cell? ⟨q, 3, none⟩ = some (.int .i64 s.la) := Lib.cell_of_heap hq 3; go_simp; try with_reducible rfl)
  refine RN.take (i := 13) (v := ?_) rfl (by decide) (by kernel_rfl) (by kernel_rfl) (by kernel_rfl) (by kernel_rfl) (by kernel_rfl) (by first | exact fun _ _ _ h => h | exact fun _ _ _ h => (by cases h.1) | exact fun _ _ _ h => door_put (by decide) h) (.inl ⟨by rfl, ?_⟩) hS ?_
  rotate_left 1
  · (intro wq hq; have s0 : wq.cell? ⟨q, 0, none⟩ = some (.map o0) := Lib.cell_of_heap hq 0; have s1 : wq.cell? ⟨q, 1, none⟩ = some (.slice a0 n0 k0) := Lib.cell_of_heap hq 1; have s2 : wq.cell? ⟨q, 2, none⟩ = some (.int .i64 s.st) := Lib.cell_of_heap hq 2; have s3 : wq.cell? ⟨q, 3, none⟩ = some (.int .i64 s.la) := Lib.cell_of_heap hq 3; go_simp; try with_reducible rfl)
  refine RN.take (i := 14) (v := ?_) rfl (by decide) (by kernel_rfl) (by kernel_rfl) (by kernel_rfl) (by kernel_rfl) (by kernel_rfl) (by first | exact fun _ _ _ h => h | exact fun _ _ _ h => (by cases h.1) | exact fun _ _ _ h => door_put (by decide) h) (.inl ⟨by rfl, ?_⟩) hS ?_
  rotate_left 1
  · (intro wq hq; have s0 : wq.cell? ⟨q, 0, none⟩ = some (.map o0) := Lib.cell_of_heap hq 0; have s1 : wq.cell? ⟨q, 1, none⟩ = some (.slice a0 n0 k0) := Lib.cell_of_heap hq 1; have s2 : wq.cell? ⟨q, 2, none⟩ = some (.int .i64 s.st) := Lib.cell_of_heap hq 2; have s3 : wq.cell? ⟨q, 3, none⟩ = some (.int .i64 s.la) := Lib.cell_of_heap hq 3; go_simp; try with_reducible rfl)
  refine RN.take (i := 15) (v := ?_) rfl (by decide) (by kernel_rfl) (by kernel_rfl) (by kernel_rfl) (by kernel_rfl) (by kernel_rfl) (by first | exact fun _ _ _ h => h | exact fun _ _ _ h => (by cases h.1) | exact fun _ _ _ h => door_put (by decide) h) (.inl ⟨by rfl, ?_⟩) hS ?_
  rotate_left 1
  · (intro wq hq; have s0 : wq.cell? ⟨q, 0, none⟩ = some (.map o0) := Lib.cell_of_heap hq 0; have s1 : wq.cell? ⟨q, 1, none⟩ = some (.slice a0 n0 k0) := Lib.cell_of_heap hq 1; have s2 : wq.cell? ⟨q, 2, none⟩ = some (.int .i64 s.st) := Lib.cell_of_heap hq 2; have s3 : wq.cell? ⟨q, 3, none⟩ = some (.int .i64 s.la) := Lib.cell_of_heap hq 3; go_simp; try with_reducible rfl)
  refine RN.take (i := 16) (v := ?_) rfl (by decide) (by kernel_rfl) (by kernel_rfl) (by kernel_rfl) (by kernel_rfl) (by kernel_rfl) (by first | exact fun _ _ _ h => h | exact fun _ _ _ h => (by cases h.1) | exact fun _ _ _ h => door_put (by decide) h) (.inl ⟨by rfl, ?_⟩) hS ?_
  rotate_left 1
  · (intro wq hq; have s0 : wq.cell? ⟨q, 0, none⟩ = some (.map o0) := Lib.cell_of_heap hq 0; have s1 : wq.cell? ⟨q, 1, none⟩ = some (.slice a0 n0 k0) := Lib.cell_of_heap hq 1; have s2 : wq.cell? ⟨q, 2, none⟩ = some (.int .i64 s.st) := Lib.cell_of_heap hq 2; have s3 : wq.cell? ⟨q, 3, none⟩ = some (.int .i64 s.la) := Lib.cell_of_heap hq 3; go_simp; try with_reducible rfl)
  refine RN.take (i := 17) (v := ?_) rfl (by decide) (by kernel_rfl) (by kernel_rfl) (by kernel_rfl) (by kernel_rfl) (by kernel_rfl) (by first | exact fun _ _ _ h => h | exact fun _ _ _ h => (by cases h.1) | exact fun _ _ _ h => door_put (by decide) h) (.inl ⟨by rfl, ?_⟩) hS ?_
  rotate_left 1
  · (intro wq hq; have s0 : wq.cell? ⟨q, 0, none⟩ = some (.map o0) := Lib.cell_of_heap hq 0; have s1 : wq.cell? ⟨q, 1, none⟩ = some (.slice a0 n0 k0) := Lib.cell_of_heap hq 1; have s2 : wq.cell? ⟨q, 2, none⟩ = some (.int .i64 s.st) := Lib.cell_of_heap hq 2; have s3 : wq.cell? ⟨q, 3, none⟩ = some (.int .i64 s.la) := Lib.cell_of_heap hq 3; go_simp; try with_reducible rfl)
  refine RN.all (rs := [4]) (by kernel_rfl) (by simp) ?_
  refine RN.All.cons rfl (fun K hK => ?_) RN.All.nil
  go_simp
  refine (cloneMap_any (w := w.drew) (hc.out.vars.stay fun _ _ => rfl)).mono ?_
  rintro e w1 ⟨o1, rfl, hm1, hb1⟩
  have hS1 : w1.heap[q]? = some (.cells #[.map o0, .slice a0 n0 k0, .int .i64 s.st, .int .i64 s.la] 28 (0, 0)) := (hb1.block q hlt).trans hrow
  refine hK _ _ (fun _ => hS1) ?_
  clear hK K hS
  refine RN.all (rs := [9]) (by kernel_rfl) (by simp) ?_
  refine RN.All.cons rfl (fun K hK => ?_) RN.All.nil
  go_simp
  have ht1 : Txt w1 (.slice a0 n0 k0) s.args := hc.out.args.txt.stay (w' := w1) ⟨hb1.os, hb1.tape, hb1.output, hb1.size, hb1.block⟩
  refine (clone_any ht1 hl).mono ?_
  rintro e w2 ⟨a2, n2, c2, rfl, hr2, hb2⟩
  have hS2 : w2.heap[q]? = some (.cells #[.map o0, .slice a0 n0 k0, .int .i64 s.st, .int .i64 s.la] 28 (0, 0)) := (hb2.block q (Nat.lt_of_lt_of_le hlt hb1.size)).trans hS1
  refine hK _ _ (fun _ => hS2) ?_
  clear hK K
  refine RN.all (rs := [18]) (by kernel_rfl) (by simp) ?_
  refine RN.All.cons rfl (fun K hK => ?_) RN.All.nil
  go_simp
  refine hK _ _ (fun _ => hS2) ?_
  clear hK K
  refine RN.all (rs := [19]) (by kernel_rfl) (by simp) ?_
  refine RN.All.cons rfl (fun K hK => ?_) RN.All.nil
  go_simp
  have hS3 : (w2.alloc (.cells #[.map o1, .slice a2 n2 c2, .int .i64 s.st, .int .i64 s.la] 28)).heap[q]? = some (.cells #[.map o0, .slice a0 n0 k0, .int .i64 s.st, .int .i64 s.la] 28 (0, 0)) := (Below.heap_alloc _ _ _ (Nat.lt_of_lt_of_le (Nat.lt_of_lt_of_le hlt hb1.size) hb2.size)).trans hS2
  refine hK _ _ (fun _ => hS3) ?_
  clear hK K
  refine RN.all (rs := [20]) (by kernel_rfl) (by simp) ?_
  refine RN.All.cons rfl (fun K hK => ?_) RN.All.nil
  go_simp
  refine hK _ _ (fun _ => hS3) ?_
  clear hK K
  refine RN.done (by kernel_rfl) ?_ _
  go_wp2_with fail
  go_ret
  have hb02 : Below w.heap.size w w2 := ⟨hb2.os.trans hb1.os, hb2.tape.trans hb1.tape, hb2.output.trans hb1.output, Nat.le_trans hb1.size hb2.size, fun k hk => (hb2.block k (Nat.lt_of_lt_of_le hk hb1.size)).trans (hb1.block k hk)⟩
  have hbe : ∀ o : Obj, Below w2.heap.size w2 (w2.alloc o) := fun o => ⟨rfl, rfl, rfl, by simp [World.size_alloc], fun k hk => Below.heap_alloc _ _ _ hk⟩
  refine ⟨w2.heap.size, .map o1, .slice a2 n2 c2, rfl, ⟨heap_alloc_new w2 _, Nat.le_trans hb1.size hb2.size, ?_, ?_⟩, ?_⟩
  · refine (hm1.stay (w' := w2) fun j e => hb2.block j (hm1.own j e).2).stay fun j e => Below.heap_alloc _ _ _ ?_
    exact Nat.lt_of_lt_of_le (hm1.own j e).2 hb2.size
  · have h3 := hr2.stay (w' := w2.alloc (.cells #[.map o1, .slice a2 n2 c2, .int .i64 s.st, .int .i64 s.la] 28)) fun j e => Below.heap_alloc _ _ _ (hr2.own j e).2
    rcases h3 with k | ⟨g, off, cap, cur, h1, h2, h3⟩
    · exact .inl k
    · exact .inr ⟨g, off, cap, cur, h1, Nat.le_trans hb1.size h2, h3⟩
  · exact hb02.trans ((hbe _).mono (Nat.le_trans hb1.size hb2.size))
end Vr
end Go.Proofs.YtpphoaidnpkgpaaGreatDoor
