/- Get: all arguments. -/
import Derived.Test.YtoneabcbeikkhaaGreatDoorVrK
import Derived.Test.YtoneabcbeikkhaaGreatDoorReg
namespace Go.Proofs.YtoneabcbeikkhaaGreatDoor
open Go.RowKit Go.Maps Cls
namespace Vr

set_option maxRecDepth 4000 in
set_option maxHeartbeats 2000000 in
theorem get_all (s : St) (B q : Nat) (n : ByteArray) (w : World) (mv av : Value) (hsc : Sc w B q s mv av) (hl : s.args.length ≤ 1000000) (hj : (Lib.join (s.args.map bs) [32]).length ≤ 140737488355328) (hbs : bs n = [64] ∨ bs n = [42]) :
    Calls Tryz.prog 31 #[.pointer (some ⟨q, 0, none⟩), .string n] w fun e w' => e = .returned (out (if s.args = [] then none else some (tx (Lib.join (s.args.map bs) [32])))) ∧ Below w.heap.size w w' := by
  have hNS : n.size ≤ 9223372036854775807 := by rcases hbs with h | h <;> (have := congrArg List.length h; rw [lenB] at this; simp at this; omega)
  have hnm : nameL n.data.toList = false := by rw [show n.data.toList = bs n from rfl]; rcases hbs with h | h <;> (rw [h]; decide)
  have hpm : paramL n.data.toList = true := by rw [show n.data.toList = bs n from rfl]; rcases hbs with h | h <;> (rw [h]; decide)
  have t1 : (n.toList == [48]) = false := by rw [tests]; rcases hbs with h | h <;> (rw [h]; decide)
  have t2 : (n.toList == [35]) = false := by rw [tests]; rcases hbs with h | h <;> (rw [h]; decide)
  have t3 : (n.toList == [63]) = false := by rw [tests]; rcases hbs with h | h <;> (rw [h]; decide)
  have t4 : (n.toList == [36]) = false := by rw [tests]; rcases hbs with h | h <;> (rw [h]; decide)
  have t5 : (n.toList == [33]) = false := by rw [tests]; rcases hbs with h | h <;> (rw [h]; decide)
  have t67 : ((n.toList == [64]) || (n.toList == [42])) = true := by rw [tests, tests]; rcases hbs with h | h <;> (rw [h]; decide)
  obtain ⟨a0, n0, k0, hav, hlen⟩ := hsc.args.len
  subst hlen
  subst hav
  have H := Lib.hid hsc; clear hsc
  have hres : out (if s.args = [] then none else some (tx (Lib.join (s.args.map bs) [32]))) = .tuple #[.string (tx (Lib.join (s.args.map bs) [32])), .bool (decide (0 < s.args.length))] := by
    by_cases he : s.args = []
    · rw [if_pos he, he]; rfl
    · have hp : 0 < s.args.length := List.length_pos_iff.2 he
      rw [if_neg he, decide_eq_true (by omega)]; rfl
  rw [hres]
  have HJ := Lib.hid (fun (w' : World) (h : RowAt w' B (.slice a0 s.args.length k0) s.args) => join_any h hl hj)
  clear hres hj hl
  generalize tx (Lib.join (s.args.map bs) [32]) = J at HJ ⊢
  cases t6 : (n.toList == [64])
  · have t7 : (n.toList == [42]) = true := by rw [t6] at t67; simpa using t67
    clear t67
    go_enter Tryz.func31, Tryz.ntmps31
    go_wp2_with (first
      | (go_at_call 43; refine (name_any n _ hNS).mono ?_; rintro e w' ⟨rfl, rfl⟩; rw [hnm])
      | (go_at_call 55; refine (param_any n _ hNS).mono ?_; rintro e w1 ⟨rfl, hb1⟩; rw [hpm]))
    have hS : w1.drew.heap[q]? = some (.cells #[mv, .slice a0 s.args.length k0, .int .i64 s.st, .int .i64 s.la] 58 (0, 0)) := (H.out.stay hb1).cells
    have hlt : q < w1.heap.size := (H.out.stay hb1).lt
    refine RN.begins (fun w' => w'.heap[q]? = some (.cells #[mv, .slice a0 s.args.length k0, .int .i64 s.st, .int .i64 s.la] 58 (0, 0))) [] (by kernel_rfl) ?_
    refine RN.take (i := 0) (v := ?_) rfl (by decide) (by kernel_rfl) (by kernel_rfl) (by kernel_rfl) (by kernel_rfl) (by kernel_rfl) (by first | exact fun _ _ _ h => h | exact fun _ _ _ h => (by cases h.1) | exact fun _ _ _ h => door_put (by decide) h) (.inl ⟨by rfl, ?_⟩) hS ?_
    rotate_left 1
    · (intro wq hq; have s1 : wq.cell? ⟨q, 1, none⟩ = some (.slice a0 s.args.length k0) := Lib.cell_of_heap hq 1; go_simp; try with_reducible rfl)
    refine RN.take (i := 1) (v := ?_) rfl (by decide) (by kernel_rfl) (by kernel_rfl) (by kernel_rfl) (by kernel_rfl) (by kernel_rfl) (by first | exact fun _ _ _ h => h | exact fun _ _ _ h => (by cases h.1) | exact fun _ _ _ h => door_put (by decide) h) (.inl ⟨by rfl, ?_⟩) hS ?_
    rotate_left 1
    · (intro wq hq; have s1 : wq.cell? ⟨q, 1, none⟩ = some (.slice a0 s.args.length k0) := Lib.cell_of_heap hq 1; go_simp; try with_reducible rfl)
    refine RN.take (i := 2) (v := ?_) rfl (by decide) (by kernel_rfl) (by kernel_rfl) (by kernel_rfl) (by kernel_rfl) (by kernel_rfl) (by first | exact fun _ _ _ h => h | exact fun _ _ _ h => (by cases h.1) | exact fun _ _ _ h => door_put (by decide) h) (.inl ⟨by rfl, ?_⟩) hS ?_
    rotate_left 1
    · (intro wq hq; have s1 : wq.cell? ⟨q, 1, none⟩ = some (.slice a0 s.args.length k0) := Lib.cell_of_heap hq 1; go_simp; try with_reducible rfl)
    refine RN.take (i := 3) (v := ?_) rfl (by decide) (by kernel_rfl) (by kernel_rfl) (by kernel_rfl) (by kernel_rfl) (by kernel_rfl) (by first | exact fun _ _ _ h => h | exact fun _ _ _ h => (by cases h.1) | exact fun _ _ _ h => door_put (by decide) h) (.inl ⟨by rfl, ?_⟩) hS ?_
    rotate_left 1
    · (intro wq hq; have s1 : wq.cell? ⟨q, 1, none⟩ = some (.slice a0 s.args.length k0) := Lib.cell_of_heap hq 1; go_simp; try with_reducible rfl)
    refine RN.take (i := 5) (v := ?_) rfl (by decide) (by kernel_rfl) (by kernel_rfl) (by kernel_rfl) (by kernel_rfl) (by kernel_rfl) (by first | exact fun _ _ _ h => h | exact fun _ _ _ h => (by cases h.1) | exact fun _ _ _ h => door_put (by decide) h) (.inl ⟨by rfl, ?_⟩) hS ?_
    rotate_left 1
    · (intro wq hq; have s1 : wq.cell? ⟨q, 1, none⟩ = some (.slice a0 s.args.length k0) := Lib.cell_of_heap hq 1; go_simp; try with_reducible rfl)
    refine RN.take (i := 6) (v := ?_) rfl (by decide) (by kernel_rfl) (by kernel_rfl) (by kernel_rfl) (by kernel_rfl) (by kernel_rfl) (by first | exact fun _ _ _ h => h | exact fun _ _ _ h => (by cases h.1) | exact fun _ _ _ h => door_put (by decide) h) (.inl ⟨by rfl, ?_⟩) hS ?_
    rotate_left 1
    · (intro wq hq; have s1 : wq.cell? ⟨q, 1, none⟩ = some (.slice a0 s.args.length k0) := Lib.cell_of_heap hq 1; go_simp; try with_reducible rfl)
    refine RN.take (i := 7) (v := ?_) rfl (by decide) (by kernel_rfl) (by kernel_rfl) (by kernel_rfl) (by kernel_rfl) (by kernel_rfl) (by first | exact fun _ _ _ h => h | exact fun _ _ _ h => (by cases h.1) | exact fun _ _ _ h => door_put (by decide) h) (.inl ⟨by rfl, ?_⟩) hS ?_
    rotate_left 1
    · (intro wq hq; have s1 : wq.cell? ⟨q, 1, none⟩ = some (.slice a0 s.args.length k0) := Lib.cell_of_heap hq 1; go_simp; try with_reducible rfl)
    refine RN.take (i := 8) (v := ?_) rfl (by decide) (by kernel_rfl) (by kernel_rfl) (by kernel_rfl) (by kernel_rfl) (by kernel_rfl) (by first | exact fun _ _ _ h => h | exact fun _ _ _ h => (by cases h.1) | exact fun _ _ _ h => door_put (by decide) h) (.inl ⟨by rfl, ?_⟩) hS ?_
    rotate_left 1
    · (intro wq hq; have s1 : wq.cell? ⟨q, 1, none⟩ = some (.slice a0 s.args.length k0) := Lib.cell_of_heap hq 1; go_simp; try with_reducible rfl)
    refine RN.take (i := 9) (v := ?_) rfl (by decide) (by kernel_rfl) (by kernel_rfl) (by kernel_rfl) (by kernel_rfl) (by kernel_rfl) (by first | exact fun _ _ _ h => h | exact fun _ _ _ h => (by cases h.1) | exact fun _ _ _ h => door_put (by decide) h) (.inl ⟨by rfl, ?_⟩) hS ?_
    rotate_left 1
    · (intro wq hq; have s1 : wq.cell? ⟨q, 1, none⟩ = some (.slice a0 s.args.length k0) := Lib.cell_of_heap hq 1; go_simp; try with_reducible rfl)
    refine RN.take (i := 10) (v := ?_) rfl (by decide) (by kernel_rfl) (by kernel_rfl) (by kernel_rfl) (by kernel_rfl) (by kernel_rfl) (by first | exact fun _ _ _ h => h | exact fun _ _ _ h => (by cases h.1) | exact fun _ _ _ h => door_put (by decide) h) (.inl ⟨by rfl, ?_⟩) hS ?_
    rotate_left 1
    · (intro wq hq; have s1 : wq.cell? ⟨q, 1, none⟩ = some (.slice a0 s.args.length k0) := Lib.cell_of_heap hq 1; go_simp; try with_reducible rfl)
    refine RN.all (rs := [4]) (by kernel_rfl) (by simp) ?_
    refine RN.All.cons rfl (fun K hK => ?_) RN.All.nil
    go_simp
    refine (HJ.out w1.drew ((H.out.stay hb1).args.stay (w' := w1.drew) fun _ _ => rfl)).mono ?_
    rintro e w2 ⟨rfl, hb2⟩
    have hS2 := (hb2.block q hlt).trans hS
    refine hK _ _ (fun _ => hS2) ?_
    clear hK K hS
    refine RN.all (rs := [11]) (by kernel_rfl) (by simp) ?_
    refine RN.All.cons rfl (fun K hK => ?_) RN.All.nil
    go_simp
    refine hK _ _ (fun _ => hS2) ?_
    clear hK K
    refine RN.all (rs := [12]) (by kernel_rfl) (by simp) ?_
    refine RN.All.cons rfl (fun K hK => ?_) RN.All.nil
    go_simp
    refine hK _ _ (fun _ => hS2) ?_
    clear hK K
    refine RN.done (by kernel_rfl) ?_ _
    go_wp2_with fail
    go_ret2
    exact ⟨rfl, hb1.trans ⟨hb2.os, hb2.tape, hb2.output, hb2.size, fun k hk => hb2.block k (Nat.lt_of_lt_of_le hk hb1.size)⟩⟩
  · clear t67
    go_enter Tryz.func31, Tryz.ntmps31
    go_wp2_with (first
      | (go_at_call 43; refine (name_any n _ hNS).mono ?_; rintro e w' ⟨rfl, rfl⟩; rw [hnm])
      | (go_at_call 55; refine (param_any n _ hNS).mono ?_; rintro e w1 ⟨rfl, hb1⟩; rw [hpm]))
    have hS : w1.drew.heap[q]? = some (.cells #[mv, .slice a0 s.args.length k0, .int .i64 s.st, .int .i64 s.la] 58 (0, 0)) := (H.out.stay hb1).cells
    have hlt : q < w1.heap.size := (H.out.stay hb1).lt
    refine RN.begins (fun w' => w'.heap[q]? = some (.cells #[mv, .slice a0 s.args.length k0, .int .i64 s.st, .int .i64 s.la] 58 (0, 0))) [] (by kernel_rfl) ?_
    refine RN.take (i := 0) (v := ?_) rfl (by decide) (by kernel_rfl) (by kernel_rfl) (by kernel_rfl) (by kernel_rfl) (by kernel_rfl) (by first | exact fun _ _ _ h => h | exact fun _ _ _ h => (by cases h.1) | exact fun _ _ _ h => door_put (by decide) h) (.inl ⟨by rfl, ?_⟩) hS ?_
    rotate_left 1
    · (intro wq hq; have s1 : wq.cell? ⟨q, 1, none⟩ = some (.slice a0 s.args.length k0) := Lib.cell_of_heap hq 1; go_simp; try with_reducible rfl)
    refine RN.take (i := 1) (v := ?_) rfl (by decide) (by kernel_rfl) (by kernel_rfl) (by kernel_rfl) (by kernel_rfl) (by kernel_rfl) (by first | exact fun _ _ _ h => h | exact fun _ _ _ h => (by cases h.1) | exact fun _ _ _ h => door_put (by decide) h) (.inl ⟨by rfl, ?_⟩) hS ?_
    rotate_left 1
    · (intro wq hq; have s1 : wq.cell? ⟨q, 1, none⟩ = some (.slice a0 s.args.length k0) := Lib.cell_of_heap hq 1; go_simp; try with_reducible rfl)
    refine RN.take (i := 2) (v := ?_) rfl (by decide) (by kernel_rfl) (by kernel_rfl) (by kernel_rfl) (by kernel_rfl) (by kernel_rfl) (by first | exact fun _ _ _ h => h | exact fun _ _ _ h => (by cases h.1) | exact fun _ _ _ h => door_put (by decide) h) (.inl ⟨by rfl, ?_⟩) hS ?_
    rotate_left 1
    · (intro wq hq; have s1 : wq.cell? ⟨q, 1, none⟩ = some (.slice a0 s.args.length k0) := Lib.cell_of_heap hq 1; go_simp; try with_reducible rfl)
    refine RN.take (i := 3) (v := ?_) rfl (by decide) (by kernel_rfl) (by kernel_rfl) (by kernel_rfl) (by kernel_rfl) (by kernel_rfl) (by first | exact fun _ _ _ h => h | exact fun _ _ _ h => (by cases h.1) | exact fun _ _ _ h => door_put (by decide) h) (.inl ⟨by rfl, ?_⟩) hS ?_
    rotate_left 1
    · (intro wq hq; have s1 : wq.cell? ⟨q, 1, none⟩ = some (.slice a0 s.args.length k0) := Lib.cell_of_heap hq 1; go_simp; try with_reducible rfl)
    refine RN.take (i := 5) (v := ?_) rfl (by decide) (by kernel_rfl) (by kernel_rfl) (by kernel_rfl) (by kernel_rfl) (by kernel_rfl) (by first | exact fun _ _ _ h => h | exact fun _ _ _ h => (by cases h.1) | exact fun _ _ _ h => door_put (by decide) h) (.inl ⟨by rfl, ?_⟩) hS ?_
    rotate_left 1
    · (intro wq hq; have s1 : wq.cell? ⟨q, 1, none⟩ = some (.slice a0 s.args.length k0) := Lib.cell_of_heap hq 1; go_simp; try with_reducible rfl)
    refine RN.take (i := 6) (v := ?_) rfl (by decide) (by kernel_rfl) (by kernel_rfl) (by kernel_rfl) (by kernel_rfl) (by kernel_rfl) (by first | exact fun _ _ _ h => h | exact fun _ _ _ h => (by cases h.1) | exact fun _ _ _ h => door_put (by decide) h) (.inl ⟨by rfl, ?_⟩) hS ?_
    rotate_left 1
    · (intro wq hq; have s1 : wq.cell? ⟨q, 1, none⟩ = some (.slice a0 s.args.length k0) := Lib.cell_of_heap hq 1; go_simp; try with_reducible rfl)
    refine RN.take (i := 7) (v := ?_) rfl (by decide) (by kernel_rfl) (by kernel_rfl) (by kernel_rfl) (by kernel_rfl) (by kernel_rfl) (by first | exact fun _ _ _ h => h | exact fun _ _ _ h => (by cases h.1) | exact fun _ _ _ h => door_put (by decide) h) (.inl ⟨by rfl, ?_⟩) hS ?_
    rotate_left 1
    · (intro wq hq; have s1 : wq.cell? ⟨q, 1, none⟩ = some (.slice a0 s.args.length k0) := Lib.cell_of_heap hq 1; go_simp; try with_reducible rfl)
    refine RN.take (i := 8) (v := ?_) rfl (by decide) (by kernel_rfl) (by kernel_rfl) (by kernel_rfl) (by kernel_rfl) (by kernel_rfl) (by first | exact fun _ _ _ h => h | exact fun _ _ _ h => (by cases h.1) | exact fun _ _ _ h => door_put (by decide) h) (.inl ⟨by rfl, ?_⟩) hS ?_
    rotate_left 1
    · (intro wq hq; have s1 : wq.cell? ⟨q, 1, none⟩ = some (.slice a0 s.args.length k0) := Lib.cell_of_heap hq 1; go_simp; try with_reducible rfl)
    refine RN.take (i := 9) (v := ?_) rfl (by decide) (by kernel_rfl) (by kernel_rfl) (by kernel_rfl) (by kernel_rfl) (by kernel_rfl) (by first | exact fun _ _ _ h => h | exact fun _ _ _ h => (by cases h.1) | exact fun _ _ _ h => door_put (by decide) h) (.inl ⟨by rfl, ?_⟩) hS ?_
    rotate_left 1
    · (intro wq hq; have s1 : wq.cell? ⟨q, 1, none⟩ = some (.slice a0 s.args.length k0) := Lib.cell_of_heap hq 1; go_simp; try with_reducible rfl)
    refine RN.take (i := 10) (v := ?_) rfl (by decide) (by kernel_rfl) (by kernel_rfl) (by kernel_rfl) (by kernel_rfl) (by kernel_rfl) (by first | exact fun _ _ _ h => h | exact fun _ _ _ h => (by cases h.1) | exact fun _ _ _ h => door_put (by decide) h) (.inl ⟨by rfl, ?_⟩) hS ?_
    rotate_left 1
    · (intro wq hq; have s1 : wq.cell? ⟨q, 1, none⟩ = some (.slice a0 s.args.length k0) := Lib.cell_of_heap hq 1; go_simp; try with_reducible rfl)
    refine RN.all (rs := [4]) (by kernel_rfl) (by simp) ?_
    refine RN.All.cons rfl (fun K hK => ?_) RN.All.nil
    go_simp
    refine (HJ.out w1.drew ((H.out.stay hb1).args.stay (w' := w1.drew) fun _ _ => rfl)).mono ?_
    rintro e w2 ⟨rfl, hb2⟩
    have hS2 := (hb2.block q hlt).trans hS
    refine hK _ _ (fun _ => hS2) ?_
    clear hK K hS
    refine RN.all (rs := [11]) (by kernel_rfl) (by simp) ?_
    refine RN.All.cons rfl (fun K hK => ?_) RN.All.nil
    go_simp
    refine hK _ _ (fun _ => hS2) ?_
    clear hK K
    refine RN.all (rs := [12]) (by kernel_rfl) (by simp) ?_
    refine RN.All.cons rfl (fun K hK => ?_) RN.All.nil
    go_simp
    refine hK _ _ (fun _ => hS2) ?_
    clear hK K
    refine RN.done (by kernel_rfl) ?_ _
    go_wp2_with fail
    go_ret2
    exact ⟨rfl, hb1.trans ⟨hb2.os, hb2.tape, hb2.output, hb2.size, fun k hk => hb2.block k (Nat.lt_of_lt_of_le hk hb1.size)⟩⟩

end Vr
end Go.Proofs.YtoneabcbeikkhaaGreatDoor
