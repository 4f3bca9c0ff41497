/- What the stack's readers answer. -/
import Derived.Test.YtbcldfaphnnmlaaFrL
namespace Go.Proofs.Ytbcldfaphnnmlaa
open Go.RowKit Go.Sort
namespace Fra
open Cls Pt Tr
set_option maxHeartbeats 400000 in
theorem len_any {w : World} {B b : Nat} {v : Value} {l : List IV} (h : Stk w B b v l) :
    Calls Try.prog 18 #[.pointer (some ⟨b, 0, none⟩)] w fun e w' => e = .returned (.int .i64 l.length) ∧ Below w.heap.size w w' := by
  have hc := h.cell
  obtain ⟨a, cap, rfl, hle, hcell⟩ := LAt.own h.own
  clear h hcell
  go_enter Try.func18, Try.ntmps18
  go_wp2_with fail
  go_ret
  exact ⟨rfl, Below.refl _ _⟩
set_option maxHeartbeats 800000 in
theorem saved_any {w : World} {B b : Nat} {v : Value} {l : List IV} (hl : l.length ≤ 100000) (h : Stk w B b v l) :
    Calls Try.prog 21 #[.pointer (some ⟨b, 0, none⟩)] w fun e w' => e = .returned (outS (svd l l.length)) ∧ Below w.heap.size w w' := by
  have H := Lib.hid (upper_saves hl h)
  have HS := Lib.hid h
  obtain ⟨a, cap, rfl, hle, hcell⟩ := LAt.own h.own
  have HC := Lib.hid hcell
  rw [svd_up]
  clear h hcell
  cases hu : upF savesB l l.length with
  | none =>
    rw [hu] at H
    simp only [upV] at H
    go_enter Try.func21, Try.ntmps21
    go_wp2_with (go_at_call 29; refine H.out.mono ?_; rintro e w2 ⟨rfl, hb2⟩)
    go_ret2
    exact ⟨rfl, hb2⟩
  | some i =>
    rw [hu] at H
    simp only [upV] at H
    obtain ⟨hi, y, hy, _⟩ := upF_lt _ _ hu
    simp only [hy]
    obtain ⟨g, o, rfl, hbl, hcell⟩ := HC.out i y hy
    have q10 : w.cell? ⟨g, o + i * 14 + 10, none⟩ = some (.int .i64 y.st) := hcell 10 _ rfl
    clear hcell hy hu
    go_enter Try.func21, Try.ntmps21
    go_wp2_with fail
    refine H.out.mono ?_
    rintro e w2 ⟨rfl, hb2⟩
    have hc := (HS.out.stay hb2).cell
    have q := cell_below hb2 q10
    have HB := Lib.hid hb2
    clear hb2 q10
    go_wp2_with fail
    go_ret2
    exact ⟨rfl, HB.out⟩
set_option maxHeartbeats 1600000 in
theorem top_any {w : World} {B b : Nat} {v : Value} {l : List IV} (hl : l.length ≤ 100000) (h : Stk w B b v l) :
    Calls Try.prog 22 #[.pointer (some ⟨b, 0, none⟩)] w fun e w' => e = .returned (topV l) ∧ Below w.heap.size w w' := by
  have hc := h.cell
  obtain ⟨a, cap, rfl, hle, hcell⟩ := LAt.own h.own
  have HC := Lib.hid hcell
  clear h hcell
  have hz := heap_alloc_new w (.cells #[.int .i64 0, .int .i64 0, .string ⟨#[]⟩, .bool false, .slice none 0 0, .slice none 0 0, .slice none 0 0, .slice none 0 0, .slice none 0 0, .int .i64 0, .int .i64 0, .bool false, .slice none 0 0, .slice none 0 0] 43)
  have hb0 := bel1 w (.cells #[.int .i64 0, .int .i64 0, .string ⟨#[]⟩, .bool false, .slice none 0 0, .slice none 0 0, .slice none 0 0, .slice none 0 0, .slice none 0 0, .int .i64 0, .int .i64 0, .bool false, .slice none 0 0, .slice none 0 0] 43)
  have r0 : (w.alloc (.cells #[.int .i64 0, .int .i64 0, .string ⟨#[]⟩, .bool false, .slice none 0 0, .slice none 0 0, .slice none 0 0, .slice none 0 0, .slice none 0 0, .int .i64 0, .int .i64 0, .bool false, .slice none 0 0, .slice none 0 0] 43)).cell? ⟨b, 0, none⟩ = some (.slice a l.length cap) := cell_below hb0 hc
  have HZ := Lib.hid hz; have HB0 := Lib.hid hb0
  clear hz hb0 hc
  by_cases h0 : l.length = 0
  · have ht : topV l = .tuple #[.agg (icells zero).toArray, .bool false] := by rw [List.length_eq_zero_iff.1 h0]; rfl
    rw [ht]
    have h1 : (l.length : Int) = 0 := by omega
    go_enter Try.func22, Try.ntmps22
    go_wp2_with fail
    have y0 : (w.alloc (.cells #[.int .i64 0, .int .i64 0, .string ⟨#[]⟩, .bool false, .slice none 0 0, .slice none 0 0, .slice none 0 0, .slice none 0 0, .slice none 0 0, .int .i64 0, .int .i64 0, .bool false, .slice none 0 0, .slice none 0 0] 43)).cell? ⟨w.heap.size, 0, none⟩ = some (.int .i64 0) := Lib.cell_of_heap HZ.out 0
    have y1 : (w.alloc (.cells #[.int .i64 0, .int .i64 0, .string ⟨#[]⟩, .bool false, .slice none 0 0, .slice none 0 0, .slice none 0 0, .slice none 0 0, .slice none 0 0, .int .i64 0, .int .i64 0, .bool false, .slice none 0 0, .slice none 0 0] 43)).cell? ⟨w.heap.size, 1, none⟩ = some (.int .i64 0) := Lib.cell_of_heap HZ.out 1
    have y2 : (w.alloc (.cells #[.int .i64 0, .int .i64 0, .string ⟨#[]⟩, .bool false, .slice none 0 0, .slice none 0 0, .slice none 0 0, .slice none 0 0, .slice none 0 0, .int .i64 0, .int .i64 0, .bool false, .slice none 0 0, .slice none 0 0] 43)).cell? ⟨w.heap.size, 2, none⟩ = some (.string ⟨#[]⟩) := Lib.cell_of_heap HZ.out 2
    have y3 : (w.alloc (.cells #[.int .i64 0, .int .i64 0, .string ⟨#[]⟩, .bool false, .slice none 0 0, .slice none 0 0, .slice none 0 0, .slice none 0 0, .slice none 0 0, .int .i64 0, .int .i64 0, .bool false, .slice none 0 0, .slice none 0 0] 43)).cell? ⟨w.heap.size, 3, none⟩ = some (.bool false) := Lib.cell_of_heap HZ.out 3
    have y4 : (w.alloc (.cells #[.int .i64 0, .int .i64 0, .string ⟨#[]⟩, .bool false, .slice none 0 0, .slice none 0 0, .slice none 0 0, .slice none 0 0, .slice none 0 0, .int .i64 0, .int .i64 0, .bool false, .slice none 0 0, .slice none 0 0] 43)).cell? ⟨w.heap.size, 4, none⟩ = some (.slice none 0 0) := Lib.cell_of_heap HZ.out 4
    have y5 : (w.alloc (.cells #[.int .i64 0, .int .i64 0, .string ⟨#[]⟩, .bool false, .slice none 0 0, .slice none 0 0, .slice none 0 0, .slice none 0 0, .slice none 0 0, .int .i64 0, .int .i64 0, .bool false, .slice none 0 0, .slice none 0 0] 43)).cell? ⟨w.heap.size, 5, none⟩ = some (.slice none 0 0) := Lib.cell_of_heap HZ.out 5
    have y6 : (w.alloc (.cells #[.int .i64 0, .int .i64 0, .string ⟨#[]⟩, .bool false, .slice none 0 0, .slice none 0 0, .slice none 0 0, .slice none 0 0, .slice none 0 0, .int .i64 0, .int .i64 0, .bool false, .slice none 0 0, .slice none 0 0] 43)).cell? ⟨w.heap.size, 6, none⟩ = some (.slice none 0 0) := Lib.cell_of_heap HZ.out 6
    have y7 : (w.alloc (.cells #[.int .i64 0, .int .i64 0, .string ⟨#[]⟩, .bool false, .slice none 0 0, .slice none 0 0, .slice none 0 0, .slice none 0 0, .slice none 0 0, .int .i64 0, .int .i64 0, .bool false, .slice none 0 0, .slice none 0 0] 43)).cell? ⟨w.heap.size, 7, none⟩ = some (.slice none 0 0) := Lib.cell_of_heap HZ.out 7
    have y8 : (w.alloc (.cells #[.int .i64 0, .int .i64 0, .string ⟨#[]⟩, .bool false, .slice none 0 0, .slice none 0 0, .slice none 0 0, .slice none 0 0, .slice none 0 0, .int .i64 0, .int .i64 0, .bool false, .slice none 0 0, .slice none 0 0] 43)).cell? ⟨w.heap.size, 8, none⟩ = some (.slice none 0 0) := Lib.cell_of_heap HZ.out 8
    have y9 : (w.alloc (.cells #[.int .i64 0, .int .i64 0, .string ⟨#[]⟩, .bool false, .slice none 0 0, .slice none 0 0, .slice none 0 0, .slice none 0 0, .slice none 0 0, .int .i64 0, .int .i64 0, .bool false, .slice none 0 0, .slice none 0 0] 43)).cell? ⟨w.heap.size, 9, none⟩ = some (.int .i64 0) := Lib.cell_of_heap HZ.out 9
    have y10 : (w.alloc (.cells #[.int .i64 0, .int .i64 0, .string ⟨#[]⟩, .bool false, .slice none 0 0, .slice none 0 0, .slice none 0 0, .slice none 0 0, .slice none 0 0, .int .i64 0, .int .i64 0, .bool false, .slice none 0 0, .slice none 0 0] 43)).cell? ⟨w.heap.size, 10, none⟩ = some (.int .i64 0) := Lib.cell_of_heap HZ.out 10
    have y11 : (w.alloc (.cells #[.int .i64 0, .int .i64 0, .string ⟨#[]⟩, .bool false, .slice none 0 0, .slice none 0 0, .slice none 0 0, .slice none 0 0, .slice none 0 0, .int .i64 0, .int .i64 0, .bool false, .slice none 0 0, .slice none 0 0] 43)).cell? ⟨w.heap.size, 11, none⟩ = some (.bool false) := Lib.cell_of_heap HZ.out 11
    have y12 : (w.alloc (.cells #[.int .i64 0, .int .i64 0, .string ⟨#[]⟩, .bool false, .slice none 0 0, .slice none 0 0, .slice none 0 0, .slice none 0 0, .slice none 0 0, .int .i64 0, .int .i64 0, .bool false, .slice none 0 0, .slice none 0 0] 43)).cell? ⟨w.heap.size, 12, none⟩ = some (.slice none 0 0) := Lib.cell_of_heap HZ.out 12
    have y13 : (w.alloc (.cells #[.int .i64 0, .int .i64 0, .string ⟨#[]⟩, .bool false, .slice none 0 0, .slice none 0 0, .slice none 0 0, .slice none 0 0, .slice none 0 0, .int .i64 0, .int .i64 0, .bool false, .slice none 0 0, .slice none 0 0] 43)).cell? ⟨w.heap.size, 13, none⟩ = some (.slice none 0 0) := Lib.cell_of_heap HZ.out 13
    refine bodyPost_ret (v := .tuple #[.agg (icells zero).toArray, .bool false]) (by simp [results, Try.results22, go_sem, y0, y1, y2, y3, y4, y5, y6, y7, y8, y9, y10, y11, y12, y13, icells, zero, NL.len]) rfl ?_
    exact ⟨rfl, HB0.out⟩
  · obtain ⟨y, hy⟩ : ∃ y, l[l.length - 1]? = some y := ⟨_, List.getElem?_eq_getElem (by omega)⟩
    have ht : topV l = .tuple #[.agg (icells y).toArray, .bool true] := by unfold topV; rw [List.getLast?_eq_getElem?, hy]
    rw [ht]
    have h1 : ((l.length : Int) == 0) = false := by rw [beq_eq_false_iff_ne]; omega
    have hx : (l.length : Int) - 1 = ((l.length - 1 : Nat) : Int) := by omega
    have hw : IntKind.i64.wrap ((l.length - 1 : Nat) : Int) = ((l.length - 1 : Nat) : Int) := (wrapEq _).trans (IntWalk.wrap64_in _ ⟨by omega, by omega⟩)
    have hlt1 : (l.length - 1 < l.length) = True := eq_true (by omega)
    obtain ⟨g, o, rfl, hbl, hcell⟩ := HC.out _ y hy
    have HCL := Lib.hid hcell
    obtain ⟨W0, hW0⟩ : ∃ W, W = w.alloc (.cells #[.int .i64 0, .int .i64 0, .string ⟨#[]⟩, .bool false, .slice none 0 0, .slice none 0 0, .slice none 0 0, .slice none 0 0, .slice none 0 0, .int .i64 0, .int .i64 0, .bool false, .slice none 0 0, .slice none 0 0] 43) := ⟨_, rfl⟩
    rw [← hW0] at r0 HZ HB0
    have R0 := Lib.hid r0
    have r0' := r0
    rw [hW0] at r0'
    clear hcell hy ht r0
    go_enter Try.func22, Try.ntmps22
    go_wp2_with fail
    rw [← hW0]
    clear r0'
    refine RN.begins (fun w' => Below W0.heap.size W0 w') [12, 13] (by kernel_rfl) ?_
    have hS : Below W0.heap.size W0 W0.drew := ⟨rfl, rfl, rfl, Nat.le_refl _, fun _ _ => rfl⟩
    refine RN.tk (i := 0) rfl hS (by intro wq hq; skip; go_simp; try with_reducible rfl) ?_
    refine RN.tk (i := 1) rfl hS (by intro wq hq; skip; go_simp; try with_reducible rfl) ?_
    refine RN.tk (i := 2) rfl hS (by intro wq hq; skip; go_simp; try with_reducible rfl) ?_
    refine RN.tk (i := 3) rfl hS (by intro wq hq; have c := cell_below hq R0.out; go_simp; try with_reducible rfl) ?_
    refine RN.tk (i := 4) rfl hS (by intro wq hq; skip; go_simp; try with_reducible rfl) ?_
    refine RN.tk (i := 5) rfl hS (by intro wq hq; skip; go_simp; try with_reducible rfl) ?_
    refine RN.tk (i := 6) rfl hS (by intro wq hq; skip; go_simp; try with_reducible rfl) ?_
    refine RN.tk (i := 7) rfl hS (by intro wq hq; have c := cell_below hq R0.out; go_simp; try with_reducible rfl) ?_
    refine RN.tk (i := 8) rfl hS (by intro wq hq; skip; go_simp; try with_reducible rfl) ?_
    refine RN.tk (i := 9) (v := .int .i64 ((l.length - 1 : Nat) : Int)) rfl hS (by intro wq hq; go_simp; try with_reducible rfl) ?_
    refine RN.tk (i := 10) rfl hS (by intro wq hq; skip; go_simp; try with_reducible rfl) ?_
    refine RN.tk (i := 11) rfl hS (by intro wq hq; have s0 : wq.cell? ⟨g, o + (l.length - 1) * 14, none⟩ = some (.int .i64 y.k) := cell_below hq (cell_below HB0.out (HCL.out 0 _ rfl)); have s1 : wq.cell? ⟨g, o + (l.length - 1) * 14 + 1, none⟩ = some (.int .i64 y.nk) := cell_below hq (cell_below HB0.out (HCL.out 1 _ rfl)); have s2 : wq.cell? ⟨g, o + (l.length - 1) * 14 + 2, none⟩ = some (.string y.nm) := cell_below hq (cell_below HB0.out (HCL.out 2 _ rfl)); have s3 : wq.cell? ⟨g, o + (l.length - 1) * 14 + 3, none⟩ = some (.bool y.g) := cell_below hq (cell_below HB0.out (HCL.out 3 _ rfl)); have s4 : wq.cell? ⟨g, o + (l.length - 1) * 14 + 4, none⟩ = some (.slice y.a1 y.az.length y.c1) := cell_below hq (cell_below HB0.out (HCL.out 4 _ rfl)); have s5 : wq.cell? ⟨g, o + (l.length - 1) * 14 + 5, none⟩ = some (.slice y.a2 y.nw.length y.c2) := cell_below hq (cell_below HB0.out (HCL.out 5 _ rfl)); have s6 : wq.cell? ⟨g, o + (l.length - 1) * 14 + 6, none⟩ = some (.slice y.a3 y.ks.len y.c3) := cell_below hq (cell_below HB0.out (HCL.out 6 _ rfl)); have s7 : wq.cell? ⟨g, o + (l.length - 1) * 14 + 7, none⟩ = some (.slice y.a4 y.bs.length y.c4) := cell_below hq (cell_below HB0.out (HCL.out 7 _ rfl)); have s8 : wq.cell? ⟨g, o + (l.length - 1) * 14 + 8, none⟩ = some (.slice y.a5 y.cz.len y.c5) := cell_below hq (cell_below HB0.out (HCL.out 8 _ rfl)); have s9 : wq.cell? ⟨g, o + (l.length - 1) * 14 + 9, none⟩ = some (.int .i64 y.pl) := cell_below hq (cell_below HB0.out (HCL.out 9 _ rfl)); have s10 : wq.cell? ⟨g, o + (l.length - 1) * 14 + 10, none⟩ = some (.int .i64 y.st) := cell_below hq (cell_below HB0.out (HCL.out 10 _ rfl)); have s11 : wq.cell? ⟨g, o + (l.length - 1) * 14 + 11, none⟩ = some (.bool y.fr) := cell_below hq (cell_below HB0.out (HCL.out 11 _ rfl)); have s12 : wq.cell? ⟨g, o + (l.length - 1) * 14 + 12, none⟩ = some (.slice y.wa y.ws.length y.wc) := cell_below hq (cell_below HB0.out (HCL.out 12 _ rfl)); have s13 : wq.cell? ⟨g, o + (l.length - 1) * 14 + 13, none⟩ = some (.slice y.pa y.ps.length y.pc) := cell_below hq (cell_below HB0.out (HCL.out 13 _ rfl)); go_simp; try with_reducible rfl) ?_
    have hrow2 := (hS.block w.heap.size (Array.getElem?_eq_some_iff.1 HZ.out).1).trans HZ.out
    have hb2 := thru HB0.out hS
    generalize W0.drew = W2 at hS hrow2 hb2 ⊢
    refine RN.all (rs := [12]) (by kernel_rfl) (by simp) ?_
    refine RN.All.cons rfl (fun K hK => ?_) RN.All.nil
    have r0 : W2.cell? ⟨w.heap.size, 0, none⟩ = some (.int .i64 0) := Lib.cell_of_heap hrow2 0; have f0 := Lib.frozen_of_heap hrow2 0; have r1 : W2.cell? ⟨w.heap.size, 1, none⟩ = some (.int .i64 0) := Lib.cell_of_heap hrow2 1; have f1 := Lib.frozen_of_heap hrow2 1; have r2 : W2.cell? ⟨w.heap.size, 2, none⟩ = some (.string ⟨#[]⟩) := Lib.cell_of_heap hrow2 2; have f2 := Lib.frozen_of_heap hrow2 2; have r3 : W2.cell? ⟨w.heap.size, 3, none⟩ = some (.bool false) := Lib.cell_of_heap hrow2 3; have f3 := Lib.frozen_of_heap hrow2 3; have r4 : W2.cell? ⟨w.heap.size, 4, none⟩ = some (.slice none 0 0) := Lib.cell_of_heap hrow2 4; have f4 := Lib.frozen_of_heap hrow2 4; have r5 : W2.cell? ⟨w.heap.size, 5, none⟩ = some (.slice none 0 0) := Lib.cell_of_heap hrow2 5; have f5 := Lib.frozen_of_heap hrow2 5; have r6 : W2.cell? ⟨w.heap.size, 6, none⟩ = some (.slice none 0 0) := Lib.cell_of_heap hrow2 6; have f6 := Lib.frozen_of_heap hrow2 6; have r7 : W2.cell? ⟨w.heap.size, 7, none⟩ = some (.slice none 0 0) := Lib.cell_of_heap hrow2 7; have f7 := Lib.frozen_of_heap hrow2 7; have r8 : W2.cell? ⟨w.heap.size, 8, none⟩ = some (.slice none 0 0) := Lib.cell_of_heap hrow2 8; have f8 := Lib.frozen_of_heap hrow2 8; have r9 : W2.cell? ⟨w.heap.size, 9, none⟩ = some (.int .i64 0) := Lib.cell_of_heap hrow2 9; have f9 := Lib.frozen_of_heap hrow2 9; have r10 : W2.cell? ⟨w.heap.size, 10, none⟩ = some (.int .i64 0) := Lib.cell_of_heap hrow2 10; have f10 := Lib.frozen_of_heap hrow2 10; have r11 : W2.cell? ⟨w.heap.size, 11, none⟩ = some (.bool false) := Lib.cell_of_heap hrow2 11; have f11 := Lib.frozen_of_heap hrow2 11; have r12 : W2.cell? ⟨w.heap.size, 12, none⟩ = some (.slice none 0 0) := Lib.cell_of_heap hrow2 12; have f12 := Lib.frozen_of_heap hrow2 12; have r13 : W2.cell? ⟨w.heap.size, 13, none⟩ = some (.slice none 0 0) := Lib.cell_of_heap hrow2 13; have f13 := Lib.frozen_of_heap hrow2 13
    go_simp
    have hrow3 := store_item (z := zero) (x := y) hrow2
    have hb3 := storeL_below (Nat.le_refl w.heap.size) (icells y) W2 0 hb2
    show K _ (storeL W2 w.heap.size 0 (icells y))
    generalize storeL W2 w.heap.size 0 (icells y) = W3 at hrow3 hb3 ⊢
    refine hK _ _ (fun h => absurd h (by decide)) ?_
    clear hK K r0 f0 r1 f1 r2 f2 r3 f3 r4 f4 r5 f5 r6 f6 r7 f7 r8 f8 r9 f9 r10 f10 r11 f11 r12 f12 r13 f13 hrow2 hb2 hS
    refine RN.all (rs := [13]) (by kernel_rfl) (by simp) ?_
    refine RN.All.cons rfl (fun K hK => ?_) RN.All.nil
    go_simp
    refine hK _ _ (fun h => absurd h (by decide)) ?_
    clear hK K
    refine RN.done (by kernel_rfl) ?_ _
    have y0 : W3.cell? ⟨w.heap.size, 0, none⟩ = some (.int .i64 y.k) := icell hrow3 0 rfl
    have y1 : W3.cell? ⟨w.heap.size, 1, none⟩ = some (.int .i64 y.nk) := icell hrow3 1 rfl
    have y2 : W3.cell? ⟨w.heap.size, 2, none⟩ = some (.string y.nm) := icell hrow3 2 rfl
    have y3 : W3.cell? ⟨w.heap.size, 3, none⟩ = some (.bool y.g) := icell hrow3 3 rfl
    have y4 : W3.cell? ⟨w.heap.size, 4, none⟩ = some (.slice y.a1 y.az.length y.c1) := icell hrow3 4 rfl
    have y5 : W3.cell? ⟨w.heap.size, 5, none⟩ = some (.slice y.a2 y.nw.length y.c2) := icell hrow3 5 rfl
    have y6 : W3.cell? ⟨w.heap.size, 6, none⟩ = some (.slice y.a3 y.ks.len y.c3) := icell hrow3 6 rfl
    have y7 : W3.cell? ⟨w.heap.size, 7, none⟩ = some (.slice y.a4 y.bs.length y.c4) := icell hrow3 7 rfl
    have y8 : W3.cell? ⟨w.heap.size, 8, none⟩ = some (.slice y.a5 y.cz.len y.c5) := icell hrow3 8 rfl
    have y9 : W3.cell? ⟨w.heap.size, 9, none⟩ = some (.int .i64 y.pl) := icell hrow3 9 rfl
    have y10 : W3.cell? ⟨w.heap.size, 10, none⟩ = some (.int .i64 y.st) := icell hrow3 10 rfl
    have y11 : W3.cell? ⟨w.heap.size, 11, none⟩ = some (.bool y.fr) := icell hrow3 11 rfl
    have y12 : W3.cell? ⟨w.heap.size, 12, none⟩ = some (.slice y.wa y.ws.length y.wc) := icell hrow3 12 rfl
    have y13 : W3.cell? ⟨w.heap.size, 13, none⟩ = some (.slice y.pa y.ps.length y.pc) := icell hrow3 13 rfl
    go_wp2_with fail
    refine bodyPost_ret (v := .tuple #[.agg (icells y).toArray, .bool true]) (by simp [results, Try.results22, go_sem, y0, y1, y2, y3, y4, y5, y6, y7, y8, y9, y10, y11, y12, y13, icells]) rfl ?_
    exact ⟨rfl, hb3⟩
set_option maxHeartbeats 1600000 in
theorem kinds_any {w : World} {B b : Nat} {v : Value} {l : List IV} (hl : l.length ≤ 100000) (h : Stk w B b v l) :
    Calls Try.prog 33 #[.pointer (some ⟨b, 0, none⟩)] w fun e w' => ∃ u, e = .returned u ∧ w'.ownsRow w.heap.size 3 1 u l.length (kI l) ∧ Below w.heap.size w w' := by
  obtain ⟨i0, hi, hz0, hz1, hz2⟩ := info_parts infoInt
  have HS := Lib.hid h
  have hc := h.cell
  obtain ⟨a, cap, rfl, hle, hcell⟩ := LAt.own h.own
  have HC := Lib.hid hcell
  have HI := Lib.hid hi; have HZ0 := Lib.hid hz0; have HZ1 := Lib.hid hz1; have HZ2 := Lib.hid hz2
  clear h hcell hi hz0 hz1 hz2
  go_enter Try.func33, Try.ntmps33
  go_wp2_with (at_make; refine wpList_make_full _ rfl _ _ 39 rfl w.heap.size 3 i0 (.int .i64 0) 1 Try.underlying39 HI.out HZ0.out HZ1.out .i64 .i64 _ _ l.length rfl rfl rfl rfl ?d1 ?d2 ?d3 ?_)
  case d1 => rw [HZ2.out]; omega
  case d2 => unfold maxLen; omega
  case d3 => exact Nat.le_refl _
  intro w1 hown1 hgrow1
  rw [toList_madeCells_one] at hown1
  have hb1 : Below w.heap.size w w1 := (Below.refl w.heap.size w).grown hgrow1 (Nat.le_refl _) (fun g e => by cases e)
  have HO1 := Lib.hid hown1; have HB1 := Lib.hid hb1
  have hc1 := (HS.out.stay hb1).cell
  clear hown1 hgrow1 hb1 hc
  go_wp2_with fail
  go_loopw [17] (fun i wr => ∃ k : Nat, k ≤ l.length ∧ i = .int .i64 k ∧ wr.ownsRow w.heap.size 3 1 (.slice (some ⟨w.heap.size, 0, none⟩) l.length l.length) l.length (kI (l.take k) ++ List.replicate (l.length - k) (Value.int .i64 0)) ∧ Below w.heap.size w wr) (fun i _ => l.length - (intOf i).toNat)
  case atStart => exact ⟨0, Nat.zero_le _, rfl, HO1.out, HB1.out⟩
  case round =>
    obtain ⟨k, hk, rfl, hown, hb⟩ := hrel
    have HO := Lib.hid hown; have HB := Lib.hid hb
    clear hown hb
    by_cases hlt : k < l.length
    · obtain ⟨y, hy⟩ : ∃ y, l[k]? = some y := ⟨_, List.getElem?_eq_getElem hlt⟩
      obtain ⟨g, o, rfl, hbl, hcell⟩ := HC.out k y hy
      have s0 : wr.cell? ⟨g, o + k * 14, none⟩ = some (.int .i64 y.k) := cell_below HB.out (hcell 0 _ rfl)
      have s1 : wr.cell? ⟨g, o + k * 14 + 1, none⟩ = some (.int .i64 y.nk) := cell_below HB.out (hcell 1 _ rfl)
      have s2 : wr.cell? ⟨g, o + k * 14 + 2, none⟩ = some (.string y.nm) := cell_below HB.out (hcell 2 _ rfl)
      have s3 : wr.cell? ⟨g, o + k * 14 + 3, none⟩ = some (.bool y.g) := cell_below HB.out (hcell 3 _ rfl)
      have s4 : wr.cell? ⟨g, o + k * 14 + 4, none⟩ = some (.slice y.a1 y.az.length y.c1) := cell_below HB.out (hcell 4 _ rfl)
      have s5 : wr.cell? ⟨g, o + k * 14 + 5, none⟩ = some (.slice y.a2 y.nw.length y.c2) := cell_below HB.out (hcell 5 _ rfl)
      have s6 : wr.cell? ⟨g, o + k * 14 + 6, none⟩ = some (.slice y.a3 y.ks.len y.c3) := cell_below HB.out (hcell 6 _ rfl)
      have s7 : wr.cell? ⟨g, o + k * 14 + 7, none⟩ = some (.slice y.a4 y.bs.length y.c4) := cell_below HB.out (hcell 7 _ rfl)
      have s8 : wr.cell? ⟨g, o + k * 14 + 8, none⟩ = some (.slice y.a5 y.cz.len y.c5) := cell_below HB.out (hcell 8 _ rfl)
      have s9 : wr.cell? ⟨g, o + k * 14 + 9, none⟩ = some (.int .i64 y.pl) := cell_below HB.out (hcell 9 _ rfl)
      have s10 : wr.cell? ⟨g, o + k * 14 + 10, none⟩ = some (.int .i64 y.st) := cell_below HB.out (hcell 10 _ rfl)
      have s11 : wr.cell? ⟨g, o + k * 14 + 11, none⟩ = some (.bool y.fr) := cell_below HB.out (hcell 11 _ rfl)
      have s12 : wr.cell? ⟨g, o + k * 14 + 12, none⟩ = some (.slice y.wa y.ws.length y.wc) := cell_below HB.out (hcell 12 _ rfl)
      have s13 : wr.cell? ⟨g, o + k * 14 + 13, none⟩ = some (.slice y.pa y.ps.length y.pc) := cell_below HB.out (hcell 13 _ rfl)
      have hset : (kI (l.take k) ++ List.replicate (l.length - k) (Value.int .i64 0)).set k (.int .i64 y.k) = kI (l.take (k + 1)) ++ List.replicate (l.length - (k + 1)) (Value.int .i64 0) := by
        have hkl : (kI (l.take k)).length = k := by unfold kI; rw [List.length_map, List.length_take]; omega
        rw [show l.length - k = (l.length - (k + 1)) + 1 by omega, List.replicate_succ, List.set_append_right _ _ (by omega), hkl, Nat.sub_self, List.set_cons_zero, List.take_add_one, hy]
        unfold kI
        simp
      have ho2 := HO.out.alloc (.cells #[.int .i64 y.k, .int .i64 y.nk, .string y.nm, .bool y.g, .slice y.a1 y.az.length y.c1, .slice y.a2 y.nw.length y.c2, .slice y.a3 y.ks.len y.c3, .slice y.a4 y.bs.length y.c4, .slice y.a5 y.cz.len y.c5, .int .i64 y.pl, .int .i64 y.st, .bool y.fr, .slice y.wa y.ws.length y.wc, .slice y.pa y.ps.length y.pc] 43)
      have hb2 := HB.out.trans ((bel1 wr (.cells #[.int .i64 y.k, .int .i64 y.nk, .string y.nm, .bool y.g, .slice y.a1 y.az.length y.c1, .slice y.a2 y.nw.length y.c2, .slice y.a3 y.ks.len y.c3, .slice y.a4 y.bs.length y.c4, .slice y.a5 y.cz.len y.c5, .int .i64 y.pl, .int .i64 y.st, .bool y.fr, .slice y.wa y.ws.length y.wc, .slice y.pa y.ps.length y.pc] 43)).mono HB.out.size)
      have hkl : (kI (l.take k)).length = k := by unfold kI; rw [List.length_map, List.length_take]; omega
      have c1 : (wr.alloc (.cells #[.int .i64 y.k, .int .i64 y.nk, .string y.nm, .bool y.g, .slice y.a1 y.az.length y.c1, .slice y.a2 y.nw.length y.c2, .slice y.a3 y.ks.len y.c3, .slice y.a4 y.bs.length y.c4, .slice y.a5 y.cz.len y.c5, .int .i64 y.pl, .int .i64 y.st, .bool y.fr, .slice y.wa y.ws.length y.wc, .slice y.pa y.ps.length y.pc] 43)).cell? ⟨w.heap.size, k, none⟩ = some (.int .i64 0) := by
        rw [ho2.cellAt k (by omega), List.getElem?_append_right (by omega), hkl, Nat.sub_self, List.getElem?_replicate, if_pos (by omega)]
      have c2 := ho2.frozenAt k
      have hst := ho2.stored k (.int .i64 y.k)
      rw [hset] at hst
      have HST := Lib.hid hst; have HB2 := Lib.hid hb2
      clear ho2 hb2 hst hset hkl hcell hy
      go_wp2_with fail
      go_roundw
      case rel => exact ⟨k + 1, by omega, by go_num, HST.out.1, HB2.out.grown HST.out.2 HB2.out.size (fun g e => by cases e; exact Nat.le_refl _)⟩
      case measure => simp [intOf]; omega
    · obtain rfl : k = l.length := by omega
      go_wp2_with fail
      go_ret
      have ho := HO.out
      rw [List.take_length, Nat.sub_self, List.replicate_zero, List.append_nil] at ho
      exact ⟨_, rfl, ho, HB.out⟩
set_option maxHeartbeats 1600000 in
theorem loops_any {w : World} {B b : Nat} {v : Value} {l : List IV} (hl : l.length ≤ 100000) (h : Stk w B b v l) :
    Calls Try.prog 20 #[.pointer (some ⟨b, 0, none⟩)] w fun e w' => e = .returned (.int .i64 (lps l l.length).length) ∧ Below w.heap.size w w' := by
  rw [lps_count l l.length (Nat.le_refl _), List.take_length]
  have hU : (upV (upF wallB l l.length) + 1).toNat ≤ l.length := upV_le
  have hU2 : -1 ≤ upV (upF wallB l l.length) := by cases upF wallB l l.length <;> simp only [upV] <;> omega
  obtain ⟨k, hk, hkl⟩ : ∃ k : Nat, upV (upF wallB l l.length) = (k : Int) - 1 ∧ k ≤ l.length := ⟨_, (by omega : _ = (((upV (upF wallB l l.length) + 1).toNat : Nat) : Int) - 1), hU⟩
  have hc := cell_regrown h.cell
  have hcs := fun dd os => Calls.regrown_of (upper_wall hl (h.stay (below_regrown w dd os)))
  have HL := Lib.hid (LAt.own h.own)
  obtain ⟨a, cap, rfl, hle, hcell⟩ := LAt.own h.own
  have HC := Lib.hid hcell
  rw [hk] at hcs ⊢
  rw [show ((k : Int) - 1 + 1).toNat = k by omega]
  have hw : IntKind.i64.wrap (k : Int) = (k : Int) := (wrapEq _).trans (IntWalk.wrap64_in _ ⟨by omega, by omega⟩)
  clear hU hU2 hk
  have HCS := Lib.hid hcs
  clear h hcell hcs
  go_enter Try.func20, Try.ntmps20
  go_wp2_with fail
  refine Qu.region (by kernel_rfl) (by kernel_rfl) ?_
  repeat (first
    | (first | refine Qu.carry0 rfl (fun K hK => ?_) | refine Qu.carryG rfl rfl rfl (fun K hK => ?_)
       go_simp
       first
       | (refine hK _ ?_; clear hK K)
       | (apply Exists.intro; refine ⟨fun _ => ?_, hK _ ?_⟩; (go_at_call 29; exact HCS.out _ _); clear hK K))
    | (refine Qu.passG rfl rfl rfl (fun K hK => ?_); go_simp; refine hK _ ?_; clear hK K))
  refine Qu.fin ?_
  rintro ⟨dq, osq⟩
  have hbq := below_regrown w dq osq
  have HBQ := Lib.hid hbq
  generalize grow (redrawn w dq) osq = w1 at HBQ ⊢
  clear hbq hc HCS
  by_cases hck : cap = k
  · have hkk : l.length - k = 0 := by omega
    have hdr : l.drop k = [] := List.drop_of_length_le (by omega)
    have HDR := Lib.hid hdr
    clear hdr
    go_wp2_with fail
    go_loopw [3, 15] (fun c i wr => i = .int .i64 0 ∧ c = .int .i64 0 ∧ Below w.heap.size w wr) (fun _ i _ => 0)
    case atStart => exact ⟨rfl, rfl, HBQ.out⟩
    case round =>
      obtain ⟨rfl, rfl, hb⟩ := hrel
      have HB := Lib.hid hb
      clear hb
      go_wp2_with fail
      go_ret
      exact ⟨by rw [HDR.out]; rfl, HB.out⟩
  · have hLA : LAt w (.slice (Option.map (fun x => x.add (k * 14)) a) (l.length - k) (cap - k)) (l.drop k) := by
      refine ⟨_, cap - k, by rw [List.length_drop], by rw [List.length_drop]; omega, fun j p hj => ?_⟩
      rw [List.getElem?_drop] at hj
      obtain ⟨g, o, rfl, hg, hcc⟩ := HC.out _ p hj
      refine ⟨g, o + k * 14, by simp only [Option.map, addr_add], hg, fun i u hu => ?_⟩
      rw [show o + k * 14 + j * 14 + i = o + (k + j) * 14 + i by omega]
      exact hcc i u hu
    have hdl : (l.drop k).length = l.length - k := List.length_drop
    have hDL := Lib.hid hdl
    have hlk : l.length - k ≤ 100000 := by omega
    go_wp2_with fail
    generalize Option.map (fun x => x.add (k * 14)) a = A at hLA ⊢
    generalize cap - k = C at hLA ⊢
    generalize hD : l.drop k = D at hLA hDL ⊢
    have HD := Lib.hid hD
    clear hD
    generalize l.length - k = N at hLA hDL hlk ⊢
    obtain ⟨A', C', e, hle2, hcell⟩ := hLA
    injection e with e1 e2 e3
    subst e1
    have HC2 := Lib.hid hcell
    have HN := Lib.hid hDL.out
    clear hcell hdl hDL e2 e3
    go_loopw [3, 15] (fun c i wr => ∃ j : Nat, j ≤ N ∧ i = .int .i64 j ∧ c = .int .i64 (cntL (D.take j)) ∧ Below w.heap.size w wr) (fun _ i _ => N - (intOf i).toNat)
    case atStart => exact ⟨0, Nat.zero_le _, rfl, rfl, HBQ.out⟩
    case round =>
      obtain ⟨j, hj, rfl, rfl, hb⟩ := hrel
      have HB := Lib.hid hb
      clear hb
      by_cases hlt : j < N
      · obtain ⟨y, hy⟩ : ∃ y, D[j]? = some y := ⟨_, List.getElem?_eq_getElem (by rw [HN.out]; exact hlt)⟩
        obtain ⟨g, o, rfl, hbl, hcell⟩ := HC2.out j y hy
        have s0 : wr.cell? ⟨g, o + j * 14, none⟩ = some (.int .i64 y.k) := cell_below HB.out (hcell 0 _ rfl)
        have s1 : wr.cell? ⟨g, o + j * 14 + 1, none⟩ = some (.int .i64 y.nk) := cell_below HB.out (hcell 1 _ rfl)
        have s2 : wr.cell? ⟨g, o + j * 14 + 2, none⟩ = some (.string y.nm) := cell_below HB.out (hcell 2 _ rfl)
        have s3 : wr.cell? ⟨g, o + j * 14 + 3, none⟩ = some (.bool y.g) := cell_below HB.out (hcell 3 _ rfl)
        have s4 : wr.cell? ⟨g, o + j * 14 + 4, none⟩ = some (.slice y.a1 y.az.length y.c1) := cell_below HB.out (hcell 4 _ rfl)
        have s5 : wr.cell? ⟨g, o + j * 14 + 5, none⟩ = some (.slice y.a2 y.nw.length y.c2) := cell_below HB.out (hcell 5 _ rfl)
        have s6 : wr.cell? ⟨g, o + j * 14 + 6, none⟩ = some (.slice y.a3 y.ks.len y.c3) := cell_below HB.out (hcell 6 _ rfl)
        have s7 : wr.cell? ⟨g, o + j * 14 + 7, none⟩ = some (.slice y.a4 y.bs.length y.c4) := cell_below HB.out (hcell 7 _ rfl)
        have s8 : wr.cell? ⟨g, o + j * 14 + 8, none⟩ = some (.slice y.a5 y.cz.len y.c5) := cell_below HB.out (hcell 8 _ rfl)
        have s9 : wr.cell? ⟨g, o + j * 14 + 9, none⟩ = some (.int .i64 y.pl) := cell_below HB.out (hcell 9 _ rfl)
        have s10 : wr.cell? ⟨g, o + j * 14 + 10, none⟩ = some (.int .i64 y.st) := cell_below HB.out (hcell 10 _ rfl)
        have s11 : wr.cell? ⟨g, o + j * 14 + 11, none⟩ = some (.bool y.fr) := cell_below HB.out (hcell 11 _ rfl)
        have s12 : wr.cell? ⟨g, o + j * 14 + 12, none⟩ = some (.slice y.wa y.ws.length y.wc) := cell_below HB.out (hcell 12 _ rfl)
        have s13 : wr.cell? ⟨g, o + j * 14 + 13, none⟩ = some (.slice y.pa y.ps.length y.pc) := cell_below HB.out (hcell 13 _ rfl)
        have hb2 := HB.out.trans ((bel1 wr (.cells #[.int .i64 y.k, .int .i64 y.nk, .string y.nm, .bool y.g, .slice y.a1 y.az.length y.c1, .slice y.a2 y.nw.length y.c2, .slice y.a3 y.ks.len y.c3, .slice y.a4 y.bs.length y.c4, .slice y.a5 y.cz.len y.c5, .int .i64 y.pl, .int .i64 y.st, .bool y.fr, .slice y.wa y.ws.length y.wc, .slice y.pa y.ps.length y.pc] 43)).mono HB.out.size)
        have hT := loop_any y (wr.alloc (.cells #[.int .i64 y.k, .int .i64 y.nk, .string y.nm, .bool y.g, .slice y.a1 y.az.length y.c1, .slice y.a2 y.nw.length y.c2, .slice y.a3 y.ks.len y.c3, .slice y.a4 y.bs.length y.c4, .slice y.a5 y.cz.len y.c5, .int .i64 y.pl, .int .i64 y.st, .bool y.fr, .slice y.wa y.ws.length y.wc, .slice y.pa y.ps.length y.pc] 43))
        unfold icells at hT
        have hcn : cntL (D.take (j + 1)) = cntL (D.take j) + if loopB y.k then 1 else 0 := by rw [List.take_add_one, hy]; exact cntL_snoc _ _
        have hcl : cntL (D.take j) ≤ 100000 := Nat.le_trans (cntL_le _) (by rw [List.length_take]; omega)
        generalize cntL (D.take j) = c0 at hcn hcl ⊢
        have HCN := Lib.hid hcn; have HT := Lib.hid hT; have HB2 := Lib.hid hb2
        clear hcn hT hb2 hcell hy
        cases hp : loopB y.k
        · rw [hp] at HT HCN
          go_wp2_with (go_at_call 37; refine HT.out.mono ?_; rintro e w2 ⟨rfl, hb3⟩; have HB3 := Lib.hid (HB2.out.trans (hb3.mono HB2.out.size)); clear hb3)
          go_roundw
          case rel => exact ⟨j + 1, by omega, by go_num, by rw [HCN.out]; rfl, HB3.out⟩
          case measure => simp [intOf]; omega
        · rw [hp] at HT HCN
          go_wp2_with (go_at_call 37; refine HT.out.mono ?_; rintro e w2 ⟨rfl, hb3⟩; have HB3 := Lib.hid (HB2.out.trans (hb3.mono HB2.out.size)); clear hb3)
          go_roundw
          case rel => exact ⟨j + 1, by omega, by go_num, by rw [HCN.out]; go_num, HB3.out⟩
          case measure => simp [intOf]; omega
      · obtain rfl : j = N := by omega
        go_wp2_with fail
        go_ret
        exact ⟨by rw [HD.out, List.take_of_length_le (by rw [HN.out]; exact Nat.le_refl _)]; rfl, HB.out⟩
theorem reads_any {w : World} {B b : Nat} {v : Value} {l : List IV} (hl : l.length ≤ 100000) (h : Stk w B b v l) : Reads w (.pointer (some ⟨b, 0, none⟩)) l where
  len := fun w1 hb => len_any (h.stay hb)
  saved := fun w1 hb => saved_any hl (h.stay hb)
  kinds := fun w1 hb => (kinds_any hl (h.stay hb)).mono fun e w2 ⟨u, he, ho, hb2⟩ => ⟨u, _, he, ho, hb2⟩
  loops := fun w1 hb => loops_any hl (h.stay hb)
  top := fun w1 hb => top_any hl (h.stay hb)
end Fra
end Go.Proofs.Ytbcldfaphnnmlaa
