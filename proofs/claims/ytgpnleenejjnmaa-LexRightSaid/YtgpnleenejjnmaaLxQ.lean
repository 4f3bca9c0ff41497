/- (*lex.reader).token: what is broken off becomes a token. -/
import Derived.Test.YtgpnleenejjnmaaLxP
import Derived.Tactics2
import Derived.Defers
import Derived.Recover
import Derived.Laws.Pointers
namespace Go.Proofs.Ytgpnleenejjnmaa
open Go.RowKit Go.Sort
namespace Lx
open Cls Pt

/-- A token in memory. -/
def TokAt (w : World) (tb k i : Nat) (t : ByteArray) (v : Value) (err : Nat) : Prop := w.heap[tb]? = some (.cells #[.int .i64 k, .int .i64 i, .string t, v, .int .i64 err] 29 (0, 0))
/-- All but two places stays. -/
structure FrT (rb tb : Nat) (w w' : World) : Prop where
  os : w'.os = w.os
  tape : w'.tape = w.tape
  output : w'.output = w.output
  size : w.heap.size ≤ w'.heap.size
  block : ∀ b, b < w.heap.size → b ≠ rb → b ≠ tb → w'.heap[b]? = w.heap[b]?

theorem assert_fault (v : Value) (xT : TypeId) (w : World) : (Instr.typeAssert (.iface 100 v) xT 100 true).run Try.prog w = .ok (.tuple #[v, .bool true]) w := by
  kernel_rfl
theorem assert_nil (xT : TypeId) (w : World) : (Instr.typeAssert .nilIface xT 100 true).run Try.prog w = .ok (.tuple #[.agg #[.int .i64 0, .int .i64 0], .bool false]) w := by
  kernel_rfl

set_option maxHeartbeats 800000 in
set_option maxRecDepth 100000 in
theorem token_idle (tb rv : Nat) (w : World) :
    CallsD Try.prog 70 #[.pointer (some ⟨tb, 0, none⟩), .pointer (some ⟨rv, 0, none⟩)] .returning w fun e u' w' => e = .returned (.tuple #[]) ∧ u' = .returning ∧ Below w.heap.size w w' := by
  refine callsD_of_wpS Try.func70 rfl fun c₀ cs hu => ?_
  simp only [Try.ntmps70, List.size_toArray, List.length_cons, List.length_nil, Nat.reduceAdd, Nat.reduceSub, Array.replicate_succ, Array.replicate_zero, List.push_toArray, List.append_toArray, List.nil_append, List.cons_append]
  apply wpS_seq
  apply wpS_region
  simp [wpOpsS, go_sem, recoverD, hu, Exit.thenS]
  refine wpS_of_wp ?_
  have ha := assert_nil
  go_wp2_with fail
  refine ⟨rfl, .returning, ?_, .tuple #[], results_none rfl _ _ _, rfl, rfl, (Below.refl _ _).alloc (Nat.le_refl _) _⟩
  cases c₀
  simp_all

theorem FrT.drew {rb tb : Nat} {w w' : World} (h : FrT rb tb w w') : FrT rb tb w w'.drew := ⟨h.os, h.tape, h.output, h.size, h.block⟩
theorem so (W : World) (a : Addr) (v : Value) : (W.setCell a v).os = W.os := rfl
theorem st (W : World) (a : Addr) (v : Value) : (W.setCell a v).tape = W.tape := rfl
theorem su (W : World) (a : Addr) (v : Value) : (W.setCell a v).output = W.output := rfl
theorem cell_drew' {W : World} {a : Addr} {v : Option Value} (h : W.cell? a = v) : W.drew.cell? a = v := h

theorem tok_set {W : World} {tb k i0 : Nat} {t : ByteArray} {v : Value} {err0 : Nat} (hT : TokAt W tb k i0 t v err0) (j err : Nat) :
    TokAt (((((W.setCell ⟨tb, 0, none⟩ (.int .i64 5)).setCell ⟨tb, 1, none⟩ (.int .i64 j)).setCell ⟨tb, 2, none⟩ (.string ⟨#[]⟩)).setCell ⟨tb, 3, none⟩ (.slice none 0 0)).setCell ⟨tb, 4, none⟩ (.int .i64 err)) tb 5 j ⟨#[]⟩ (.slice none 0 0) err ∧ (∀ b, b ≠ tb → (((((W.setCell ⟨tb, 0, none⟩ (.int .i64 5)).setCell ⟨tb, 1, none⟩ (.int .i64 j)).setCell ⟨tb, 2, none⟩ (.string ⟨#[]⟩)).setCell ⟨tb, 3, none⟩ (.slice none 0 0)).setCell ⟨tb, 4, none⟩ (.int .i64 err)).heap[b]? = W.heap[b]?) ∧ (((((W.setCell ⟨tb, 0, none⟩ (.int .i64 5)).setCell ⟨tb, 1, none⟩ (.int .i64 j)).setCell ⟨tb, 2, none⟩ (.string ⟨#[]⟩)).setCell ⟨tb, 3, none⟩ (.slice none 0 0)).setCell ⟨tb, 4, none⟩ (.int .i64 err)).heap.size = W.heap.size ∧ (((((W.setCell ⟨tb, 0, none⟩ (.int .i64 5)).setCell ⟨tb, 1, none⟩ (.int .i64 j)).setCell ⟨tb, 2, none⟩ (.string ⟨#[]⟩)).setCell ⟨tb, 3, none⟩ (.slice none 0 0)).setCell ⟨tb, 4, none⟩ (.int .i64 err)).os = W.os ∧ (((((W.setCell ⟨tb, 0, none⟩ (.int .i64 5)).setCell ⟨tb, 1, none⟩ (.int .i64 j)).setCell ⟨tb, 2, none⟩ (.string ⟨#[]⟩)).setCell ⟨tb, 3, none⟩ (.slice none 0 0)).setCell ⟨tb, 4, none⟩ (.int .i64 err)).tape = W.tape ∧ (((((W.setCell ⟨tb, 0, none⟩ (.int .i64 5)).setCell ⟨tb, 1, none⟩ (.int .i64 j)).setCell ⟨tb, 2, none⟩ (.string ⟨#[]⟩)).setCell ⟨tb, 3, none⟩ (.slice none 0 0)).setCell ⟨tb, 4, none⟩ (.int .i64 err)).output = W.output :=
  ⟨heap_setCell_same _ _ 4 _ _ (.int .i64 err) (heap_setCell_same _ _ 3 _ _ (.slice none 0 0) (heap_setCell_same _ _ 2 _ _ (.string ⟨#[]⟩) (heap_setCell_same _ _ 1 _ _ (.int .i64 j) (heap_setCell_same _ _ 0 _ _ (.int .i64 5) hT)))),
   fun b hb => (Below.heap_setCell _ _ _ _ hb).trans <| (Below.heap_setCell _ _ _ _ hb).trans <| (Below.heap_setCell _ _ _ _ hb).trans <| (Below.heap_setCell _ _ _ _ hb).trans <| Below.heap_setCell _ _ _ _ hb, by simp, (so _ _ _).trans <| (so _ _ _).trans <| (so _ _ _).trans <| (so _ _ _).trans <| so _ _ _, (st _ _ _).trans <| (st _ _ _).trans <| (st _ _ _).trans <| (st _ _ _).trans <| st _ _ _, (su _ _ _).trans <| (su _ _ _).trans <| (su _ _ _).trans <| (su _ _ _).trans <| su _ _ _⟩

set_option maxHeartbeats 800000 in
set_option maxRecDepth 100000 in
theorem token_caught (tb rv rb i j err : Nat) (s : ByteArray) (w : World) (ty : TypeId) (hB : w.heap[rv]? = some (.cells #[.pointer (some ⟨rb, 0, none⟩)] ty (0, 0))) (k : Nat) (i0 : Nat) (t : ByteArray) (v : Value) (err0 : Nat) (hT : TokAt w tb k i0 t v err0) (hR : RAt w rb s i) (hrt : rb ≠ tb) (hvt : rv ≠ tb) :
    CallsD Try.prog 70 #[.pointer (some ⟨tb, 0, none⟩), .pointer (some ⟨rv, 0, none⟩)] (.panicking [{ v := faultV j err, recovered := false }]) w fun e u' w' =>
      e = .returned (.tuple #[]) ∧ u' = .panicking [{ v := faultV j err, recovered := true }] ∧ RAt w' rb s j ∧ TokAt w' tb 5 j ⟨#[]⟩ (.slice none 0 0) err ∧ FrT rb tb w w' := by
  have hbx : ∀ o, (w.alloc o).cell? ⟨rv, 0, none⟩ = some (.pointer (some ⟨rb, 0, none⟩)) := fun o => Lib.cell_of_heap (((Below.refl w.heap.size w).alloc (Nat.le_refl _) o).block rv (Array.getElem?_eq_some_iff.1 hB).1 |>.trans hB) 0
  refine callsD_of_wpS Try.func70 rfl fun c₀ cs hu => ?_
  simp only [Try.ntmps70, List.size_toArray, List.length_cons, List.length_nil, Nat.reduceAdd, Nat.reduceSub, Array.replicate_succ, Array.replicate_zero, List.push_toArray, List.append_toArray, List.nil_append, List.cons_append]
  apply wpS_seq
  apply wpS_region
  simp [wpOpsS, go_sem, recoverD, hu, Exit.thenS, faultV]
  refine wpS_of_wp ?_
  have ha := assert_fault
  have hlr := hR.lt
  have hlt := (Array.getElem?_eq_some_iff.1 hT).1
  have hlv := (Array.getElem?_eq_some_iff.1 hB).1
  have hbl := (Below.refl w.heap.size w).alloc (Nat.le_refl _) (.cells #[.int .i64 j, .int .i64 err] 100)
  have hF : (w.alloc (.cells #[.int .i64 j, .int .i64 err] 100)).heap[w.heap.size]? = some (.cells #[.int .i64 j, .int .i64 err] 100 (0, 0)) := by
    show (w.heap.push _)[w.heap.size]? = _
    exact Array.getElem?_push_size
  have hB1 := (hbl.block rv hlv).trans hB
  have hT1 : TokAt (w.alloc (.cells #[.int .i64 j, .int .i64 err] 100)) tb k i0 t v err0 := (hbl.block tb hlt).trans hT
  have hR1 : RAt (w.alloc (.cells #[.int .i64 j, .int .i64 err] 100)) rb s i := (hbl.block rb hlr).trans hR
  have HALL := Lib.hid (And.intro hF (And.intro hB1 (And.intro hT1 (And.intro hR1 hbl)))); have HLR := Lib.hid hlr; have HLT := Lib.hid hlt; have HLV := Lib.hid hlv
  clear hbx hB hT hR hF hB1 hT1 hR1 hbl hlr hlt hlv
  go_wp2_with fail
  have hall := HALL.out
  generalize hW1 : (w.alloc (.cells #[.int .i64 j, .int .i64 err] 100)) = W1 at hall ⊢
  have HW1 := Lib.hid hW1
  obtain ⟨hF, hB1, hT1, hR1, hbl⟩ := hall
  clear HALL hW1
  have f0 : W1.cell? ⟨w.heap.size, 0, none⟩ = some (.int .i64 j) := Lib.cell_of_heap hF 0
  have f1 : W1.cell? ⟨w.heap.size, 1, none⟩ = some (.int .i64 err) := Lib.cell_of_heap hF 1
  have b0 : W1.cell? ⟨rv, 0, none⟩ = some (.pointer (some ⟨rb, 0, none⟩)) := Lib.cell_of_heap hB1 0
  have z0 : W1.cell? ⟨tb, 0, none⟩ = some (.int .i64 k) := Lib.cell_of_heap hT1 0
  have z1 : W1.cell? ⟨tb, 1, none⟩ = some (.int .i64 i0) := Lib.cell_of_heap hT1 1
  have z2 : W1.cell? ⟨tb, 2, none⟩ = some (.string t) := Lib.cell_of_heap hT1 2
  have z3 : W1.cell? ⟨tb, 3, none⟩ = some v := Lib.cell_of_heap hT1 3
  have z4 : W1.cell? ⟨tb, 4, none⟩ = some (.int .i64 err0) := Lib.cell_of_heap hT1 4
  have y0 : W1.frozen? ⟨tb, 0, none⟩ = false := frozen_of_row _ _ _ _ _ hT1
  have y1 : W1.frozen? ⟨tb, 1, none⟩ = false := frozen_of_row _ _ _ _ _ hT1
  have y2 : W1.frozen? ⟨tb, 2, none⟩ = false := frozen_of_row _ _ _ _ _ hT1
  have y3 : W1.frozen? ⟨tb, 3, none⟩ = false := frozen_of_row _ _ _ _ _ hT1
  have y4 : W1.frozen? ⟨tb, 4, none⟩ = false := frozen_of_row _ _ _ _ _ hT1
  have hx2 : TokAt (((((W1.setCell ⟨tb, 0, none⟩ (.int .i64 5)).setCell ⟨tb, 1, none⟩ (.int .i64 j)).setCell ⟨tb, 2, none⟩ (.string ⟨#[]⟩)).setCell ⟨tb, 3, none⟩ (.slice none 0 0)).setCell ⟨tb, 4, none⟩ (.int .i64 err)) tb 5 j ⟨#[]⟩ (.slice none 0 0) err ∧ (∀ b, b ≠ tb → (((((W1.setCell ⟨tb, 0, none⟩ (.int .i64 5)).setCell ⟨tb, 1, none⟩ (.int .i64 j)).setCell ⟨tb, 2, none⟩ (.string ⟨#[]⟩)).setCell ⟨tb, 3, none⟩ (.slice none 0 0)).setCell ⟨tb, 4, none⟩ (.int .i64 err)).heap[b]? = W1.heap[b]?) ∧ (((((W1.setCell ⟨tb, 0, none⟩ (.int .i64 5)).setCell ⟨tb, 1, none⟩ (.int .i64 j)).setCell ⟨tb, 2, none⟩ (.string ⟨#[]⟩)).setCell ⟨tb, 3, none⟩ (.slice none 0 0)).setCell ⟨tb, 4, none⟩ (.int .i64 err)).heap.size = W1.heap.size ∧ (((((W1.setCell ⟨tb, 0, none⟩ (.int .i64 5)).setCell ⟨tb, 1, none⟩ (.int .i64 j)).setCell ⟨tb, 2, none⟩ (.string ⟨#[]⟩)).setCell ⟨tb, 3, none⟩ (.slice none 0 0)).setCell ⟨tb, 4, none⟩ (.int .i64 err)).os = W1.os ∧ (((((W1.setCell ⟨tb, 0, none⟩ (.int .i64 5)).setCell ⟨tb, 1, none⟩ (.int .i64 j)).setCell ⟨tb, 2, none⟩ (.string ⟨#[]⟩)).setCell ⟨tb, 3, none⟩ (.slice none 0 0)).setCell ⟨tb, 4, none⟩ (.int .i64 err)).tape = W1.tape ∧ (((((W1.setCell ⟨tb, 0, none⟩ (.int .i64 5)).setCell ⟨tb, 1, none⟩ (.int .i64 j)).setCell ⟨tb, 2, none⟩ (.string ⟨#[]⟩)).setCell ⟨tb, 3, none⟩ (.slice none 0 0)).setCell ⟨tb, 4, none⟩ (.int .i64 err)).output = W1.output := tok_set (W := W1) hT1 j err
  have HS2 : Hid ((((((W1.setCell ⟨tb, 0, none⟩ (.int .i64 5)).setCell ⟨tb, 1, none⟩ (.int .i64 j)).setCell ⟨tb, 2, none⟩ (.string ⟨#[]⟩)).setCell ⟨tb, 3, none⟩ (.slice none 0 0)).setCell ⟨tb, 4, none⟩ (.int .i64 err)).cell? ⟨w.heap.size, 0, none⟩ = some (.int .i64 j) ∧ (((((W1.setCell ⟨tb, 0, none⟩ (.int .i64 5)).setCell ⟨tb, 1, none⟩ (.int .i64 j)).setCell ⟨tb, 2, none⟩ (.string ⟨#[]⟩)).setCell ⟨tb, 3, none⟩ (.slice none 0 0)).setCell ⟨tb, 4, none⟩ (.int .i64 err)).cell? ⟨w.heap.size, 1, none⟩ = some (.int .i64 err) ∧ (((((W1.setCell ⟨tb, 0, none⟩ (.int .i64 5)).setCell ⟨tb, 1, none⟩ (.int .i64 j)).setCell ⟨tb, 2, none⟩ (.string ⟨#[]⟩)).setCell ⟨tb, 3, none⟩ (.slice none 0 0)).setCell ⟨tb, 4, none⟩ (.int .i64 err)).cell? ⟨rv, 0, none⟩ = some (.pointer (some ⟨rb, 0, none⟩))) :=
    Lib.hid ⟨Lib.cell_of_heap ((hx2.2.1 _ (by have := HLT.out; omega)).trans hF) 0, Lib.cell_of_heap ((hx2.2.1 _ (by have := HLT.out; omega)).trans hF) 1, Lib.cell_of_heap ((hx2.2.1 _ hvt).trans hB1) 0⟩
  have HX2 := Lib.hid hx2; have HF := Lib.hid hF; have HB1 := Lib.hid hB1; have HR1 := Lib.hid hR1; have HBL := Lib.hid hbl
  clear hx2 hF hB1 hT1 hR1 hbl
  refine RN.begins (fun w' => w'.cell? ⟨w.heap.size, 0, none⟩ = some (.int .i64 j) ∧ w'.cell? ⟨w.heap.size, 1, none⟩ = some (.int .i64 err) ∧ w'.cell? ⟨rv, 0, none⟩ = some (.pointer (some ⟨rb, 0, none⟩))) [11] (by kernel_rfl) ?_
  have hS : W1.drew.cell? ⟨w.heap.size, 0, none⟩ = some (.int .i64 j) ∧ W1.drew.cell? ⟨w.heap.size, 1, none⟩ = some (.int .i64 err) ∧ W1.drew.cell? ⟨rv, 0, none⟩ = some (.pointer (some ⟨rb, 0, none⟩)) := ⟨f0, f1, b0⟩
  refine RN.take (i := 0) (v := ?_) rfl (by decide) (by kernel_rfl) (by kernel_rfl) (by kernel_rfl) (by kernel_rfl) (by kernel_rfl) (by first | exact fun _ _ _ h => h | exact fun _ _ _ h => door_put (by decide) h) (.inl ⟨by rfl, ?_⟩) hS ?_
  rotate_left 1
  · (intro wq hq; obtain ⟨s0, s1, s2⟩ := hq; go_simp; try with_reducible rfl)
  refine RN.take (i := 1) (v := ?_) rfl (by decide) (by kernel_rfl) (by kernel_rfl) (by kernel_rfl) (by kernel_rfl) (by kernel_rfl) (by first | exact fun _ _ _ h => h | exact fun _ _ _ h => door_put (by decide) h) (.inl ⟨by rfl, ?_⟩) hS ?_
  rotate_left 1
  · (intro wq hq; obtain ⟨s0, s1, s2⟩ := hq; go_simp; try with_reducible rfl)
  refine RN.take (i := 2) (v := ?_) rfl (by decide) (by kernel_rfl) (by kernel_rfl) (by kernel_rfl) (by kernel_rfl) (by kernel_rfl) (by first | exact fun _ _ _ h => h | exact fun _ _ _ h => door_put (by decide) h) (.inl ⟨by rfl, ?_⟩) hS ?_
  rotate_left 1
  · (intro wq hq; obtain ⟨s0, s1, s2⟩ := hq; go_simp; try with_reducible rfl)
  refine RN.take (i := 3) (v := ?_) rfl (by decide) (by kernel_rfl) (by kernel_rfl) (by kernel_rfl) (by kernel_rfl) (by kernel_rfl) (by first | exact fun _ _ _ h => h | exact fun _ _ _ h => door_put (by decide) h) (.inl ⟨by rfl, ?_⟩) hS ?_
  rotate_left 1
  · (intro wq hq; obtain ⟨s0, s1, s2⟩ := hq; go_simp; try with_reducible rfl)
  refine RN.take (i := 4) (v := ?_) rfl (by decide) (by kernel_rfl) (by kernel_rfl) (by kernel_rfl) (by kernel_rfl) (by kernel_rfl) (by first | exact fun _ _ _ h => h | exact fun _ _ _ h => door_put (by decide) h) (.inl ⟨by rfl, ?_⟩) hS ?_
  rotate_left 1
  · (intro wq hq; obtain ⟨s0, s1, s2⟩ := hq; go_simp; try with_reducible rfl)
  refine RN.take (i := 5) (v := ?_) rfl (by decide) (by kernel_rfl) (by kernel_rfl) (by kernel_rfl) (by kernel_rfl) (by kernel_rfl) (by first | exact fun _ _ _ h => h | exact fun _ _ _ h => door_put (by decide) h) (.inl ⟨by rfl, ?_⟩) hS ?_
  rotate_left 1
  · (intro wq hq; obtain ⟨s0, s1, s2⟩ := hq; go_simp; try with_reducible rfl)
  refine RN.take (i := 6) (v := ?_) rfl (by decide) (by kernel_rfl) (by kernel_rfl) (by kernel_rfl) (by kernel_rfl) (by kernel_rfl) (by first | exact fun _ _ _ h => h | exact fun _ _ _ h => door_put (by decide) h) (.inl ⟨by rfl, ?_⟩) hS ?_
  rotate_left 1
  · (intro wq hq; obtain ⟨s0, s1, s2⟩ := hq; go_simp; try with_reducible rfl)
  refine RN.all (rs := [7, 8]) (by kernel_rfl) (by simp) ?_
  refine RN.All.cons rfl (fun K hK => ?_) (RN.All.cons rfl (fun K hK => ?_) RN.All.nil)
  · go_simp
    refine hK _ _ (fun _ => hS) ?_
    clear hK K
    refine RN.all (rs := [8]) (by kernel_rfl) (by simp) ?_
    refine RN.All.cons rfl (fun K hK => ?_) RN.All.nil
    go_simp
    refine hK _ _ (fun _ => ⟨cell_drew' HS2.out.1, cell_drew' HS2.out.2.1, cell_drew' HS2.out.2.2⟩) ?_
    clear hK K hS z0 z1 z2 z3 z4 y0 y1 y2 y3 y4 f0 f1 b0
    have hx2 := HX2.out
    have hS2 := HS2.out
    generalize (((((W1.setCell ⟨tb, 0, none⟩ (.int .i64 5)).setCell ⟨tb, 1, none⟩ (.int .i64 j)).setCell ⟨tb, 2, none⟩ (.string ⟨#[]⟩)).setCell ⟨tb, 3, none⟩ (.slice none 0 0)).setCell ⟨tb, 4, none⟩ (.int .i64 err)) = W2 at hx2 hS2 ⊢
    obtain ⟨hT2, hk2, hz2, ho2, ht2, hu2⟩ := hx2
    have hR2 : RAt W2 rb s i := (hk2 rb hrt).trans HR1.out
    have hS : W2.drew.cell? ⟨w.heap.size, 0, none⟩ = some (.int .i64 j) ∧ W2.drew.cell? ⟨w.heap.size, 1, none⟩ = some (.int .i64 err) ∧ W2.drew.cell? ⟨rv, 0, none⟩ = some (.pointer (some ⟨rb, 0, none⟩)) := hS2
    refine RN.take (i := 9) (v := ?_) rfl (by decide) (by kernel_rfl) (by kernel_rfl) (by kernel_rfl) (by kernel_rfl) (by kernel_rfl) (by first | exact fun _ _ _ h => h | exact fun _ _ _ h => door_put (by decide) h) (.inl ⟨by rfl, ?_⟩) hS ?_
    rotate_left 1
    · (intro wq hq; obtain ⟨s0, s1, s2⟩ := hq; go_simp; try with_reducible rfl)
    refine RN.take (i := 10) (v := ?_) rfl (by decide) (by kernel_rfl) (by kernel_rfl) (by kernel_rfl) (by kernel_rfl) (by kernel_rfl) (by first | exact fun _ _ _ h => h | exact fun _ _ _ h => door_put (by decide) h) (.inl ⟨by rfl, ?_⟩) hS ?_
    rotate_left 1
    · (intro wq hq; obtain ⟨s0, s1, s2⟩ := hq; go_simp; try with_reducible rfl)
    have c1 := hR2.c1
    have c1f := hR2.f1
    have hR3 := hR2.set j
    have hT3 : TokAt (W2.setCell ⟨rb, 1, none⟩ (.int .i64 (j : Int))) tb 5 j ⟨#[]⟩ (.slice none 0 0) err := (Below.heap_setCell _ _ _ _ (by show tb ≠ rb; exact fun h => hrt h.symm)).trans hT2
    have hF3 : FrT rb tb w (W2.setCell ⟨rb, 1, none⟩ (.int .i64 (j : Int))) :=
      ⟨ho2.trans HBL.out.os, ht2.trans HBL.out.tape, hu2.trans HBL.out.output, by have := HBL.out.size; simp; omega, fun b hb hr ht => (Below.heap_setCell _ _ _ _ hr).trans ((hk2 b ht).trans (HBL.out.block b hb))⟩
    have HE := Lib.hid (And.intro hR3 (And.intro hT3 hF3))
    refine RN.all (rs := [11]) (by kernel_rfl) (by simp) ?_
    refine RN.All.cons rfl (fun K hK => ?_) RN.All.nil
    go_simp
    refine hK _ _ (fun h => absurd h (by decide)) ?_
    clear hK K
    refine RN.done (by kernel_rfl) ?_ _
    refine ⟨rfl, .panicking [{ v := faultV j err, recovered := true }], ?_, .tuple #[], results_none rfl _ _ _, rfl, rfl, HE.out.1, HE.out.2.1, HE.out.2.2.drew⟩
    cases c₀
    simp_all [faultV]
  · go_simp
    refine hK _ _ (fun _ => ⟨cell_drew' HS2.out.1, cell_drew' HS2.out.2.1, cell_drew' HS2.out.2.2⟩) ?_
    clear hK K hS z0 z1 z2 z3 z4 y0 y1 y2 y3 y4 f0 f1 b0
    have hx2 := HX2.out
    have hS2 := HS2.out
    generalize (((((W1.setCell ⟨tb, 0, none⟩ (.int .i64 5)).setCell ⟨tb, 1, none⟩ (.int .i64 j)).setCell ⟨tb, 2, none⟩ (.string ⟨#[]⟩)).setCell ⟨tb, 3, none⟩ (.slice none 0 0)).setCell ⟨tb, 4, none⟩ (.int .i64 err)) = W2 at hx2 hS2 ⊢
    obtain ⟨hT2, hk2, hz2, ho2, ht2, hu2⟩ := hx2
    have hR2 : RAt W2 rb s i := (hk2 rb hrt).trans HR1.out
    have hS : W2.drew.cell? ⟨w.heap.size, 0, none⟩ = some (.int .i64 j) ∧ W2.drew.cell? ⟨w.heap.size, 1, none⟩ = some (.int .i64 err) ∧ W2.drew.cell? ⟨rv, 0, none⟩ = some (.pointer (some ⟨rb, 0, none⟩)) := hS2
    refine RN.take (i := 7) (v := ?_) rfl (by decide) (by kernel_rfl) (by kernel_rfl) (by kernel_rfl) (by kernel_rfl) (by kernel_rfl) (by first | exact fun _ _ _ h => h | exact fun _ _ _ h => door_put (by decide) h) (.inl ⟨by rfl, ?_⟩) hS ?_
    rotate_left 1
    · (intro wq hq; obtain ⟨s0, s1, s2⟩ := hq; go_simp; try with_reducible rfl)
    refine RN.take (i := 9) (v := ?_) rfl (by decide) (by kernel_rfl) (by kernel_rfl) (by kernel_rfl) (by kernel_rfl) (by kernel_rfl) (by first | exact fun _ _ _ h => h | exact fun _ _ _ h => door_put (by decide) h) (.inl ⟨by rfl, ?_⟩) hS ?_
    rotate_left 1
    · (intro wq hq; obtain ⟨s0, s1, s2⟩ := hq; go_simp; try with_reducible rfl)
    refine RN.take (i := 10) (v := ?_) rfl (by decide) (by kernel_rfl) (by kernel_rfl) (by kernel_rfl) (by kernel_rfl) (by kernel_rfl) (by first | exact fun _ _ _ h => h | exact fun _ _ _ h => door_put (by decide) h) (.inl ⟨by rfl, ?_⟩) hS ?_
    rotate_left 1
    · (intro wq hq; obtain ⟨s0, s1, s2⟩ := hq; go_simp; try with_reducible rfl)
    have c1 := hR2.c1
    have c1f := hR2.f1
    have hR3 := hR2.set j
    have hT3 : TokAt (W2.setCell ⟨rb, 1, none⟩ (.int .i64 (j : Int))) tb 5 j ⟨#[]⟩ (.slice none 0 0) err := (Below.heap_setCell _ _ _ _ (by show tb ≠ rb; exact fun h => hrt h.symm)).trans hT2
    have hF3 : FrT rb tb w (W2.setCell ⟨rb, 1, none⟩ (.int .i64 (j : Int))) :=
      ⟨ho2.trans HBL.out.os, ht2.trans HBL.out.tape, hu2.trans HBL.out.output, by have := HBL.out.size; simp; omega, fun b hb hr ht => (Below.heap_setCell _ _ _ _ hr).trans ((hk2 b ht).trans (HBL.out.block b hb))⟩
    have HE := Lib.hid (And.intro hR3 (And.intro hT3 hF3))
    refine RN.all (rs := [11]) (by kernel_rfl) (by simp) ?_
    refine RN.All.cons rfl (fun K hK => ?_) RN.All.nil
    go_simp
    refine hK _ _ (fun h => absurd h (by decide)) ?_
    clear hK K
    refine RN.done (by kernel_rfl) ?_ _
    refine ⟨rfl, .panicking [{ v := faultV j err, recovered := true }], ?_, .tuple #[], results_none rfl _ _ _, rfl, rfl, HE.out.1, HE.out.2.1, HE.out.2.2.drew⟩
    cases c₀
    simp_all [faultV]
end Lx
end Go.Proofs.Ytgpnleenejjnmaa
