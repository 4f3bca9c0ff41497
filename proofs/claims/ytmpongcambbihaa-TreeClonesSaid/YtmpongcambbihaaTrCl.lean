/- The walk of TreeClones. -/
import Derived.Test.YtmpongcambbihaaTrOk
import Derived.Test.YtmpongcambbihaaRegN
namespace Go.Proofs.Ytmpongcambbihaa
open Go.RowKit Go.Sort
namespace Tr
open Cls Pt Ow

set_option maxHeartbeats 20000000 in
set_option maxRecDepth 100000 in
theorem clones_walk (k : Int) (nm : ByteArray) (g : Bool) (az : List (ByteArray × PL)) (ws : List PL) (ks : NL) (bs : List Bool) (cz : NL) (x1 : Option Addr) (d1 : Nat) (x2 : Option Addr) (d2 : Nat) (x3 : Option Addr) (d3 : Nat) (x4 : Option Addr) (d4 : Nat) (x5 : Option Addr) (d5 : Nat) (m : Int) (w : World) (h : Holds w nm az ws ks bs cz x1 d1 x2 d2 x3 d3 x4 d4 x5 d5) (hm : w.cell? ⟨0, 0, none⟩ = some (.int .i64 m)) :
    Calls Try.prog 3 #[.agg (nodeV k nm g x1 az.length d1 x2 ws.length d2 x3 ks.len d3 x4 bs.length d4 x5 cz.len d5)] w fun e w' => e = .returned (.bool true) ∧ Below w.heap.size w w' := by
  have hlk := h.hks.le
  have hb0 := bel1 w (.cells #[.int .i64 k, .string nm, .bool g, .slice x1 az.length d1, .slice x2 ws.length d2, .slice x3 ks.len d3, .slice x4 bs.length d4, .slice x5 cz.len d5] 28)
  have hrow : (w.alloc (.cells #[.int .i64 k, .string nm, .bool g, .slice x1 az.length d1, .slice x2 ws.length d2, .slice x3 ks.len d3, .slice x4 bs.length d4, .slice x5 cz.len d5] 28)).heap[w.heap.size]? = some (.cells #[.int .i64 k, .string nm, .bool g, .slice x1 az.length d1, .slice x2 ws.length d2, .slice x3 ks.len d3, .slice x4 bs.length d4, .slice x5 cz.len d5] 28 (0, 0)) := heap_new' _ _
  have ha := fun w' (hb : Below w.heap.size w w') => treeAlive_any m w' (cell_below hb hm)
  have hw := fun w' (hb : Below w.heap.size w w') => weight_at (ks.size + cz.size + 1) k nm g az ws ks bs cz x1 d1 x2 d2 x3 d3 x4 d4 x5 d5 0 w' (Nat.lt_succ_self _) (by omega) (h.below hb)
  unfold nodeV at hw ⊢
  have HA := Lib.hid ha; have HW := Lib.hid hw; have HH := Lib.hid h; have HM := Lib.hid hm
  clear ha hw h hm
  go_enter Try.func3, Try.ntmps3
  go_wp2_with fail
  have HB0 := Lib.hid hb0; have HROW := Lib.hid hrow
  clear hb0 hrow
  generalize w.alloc (.cells #[.int .i64 k, .string nm, .bool g, .slice x1 az.length d1, .slice x2 ws.length d2, .slice x3 ks.len d3, .slice x4 bs.length d4, .slice x5 cz.len d5] 28) = W0 at HB0 HROW ⊢
  refine (HA.out _ HB0.out).mono ?_
  rintro e w1 ⟨rfl, hb1⟩
  have HB1 := Lib.hid hb1
  clear hb1
  have q0 : w1.cell? ⟨w.heap.size, 0, none⟩ = some (.int .i64 k) := cell_below (HB1.out) (Lib.cell_of_heap HROW.out 0)
  have q1 : w1.cell? ⟨w.heap.size, 1, none⟩ = some (.string nm) := cell_below (HB1.out) (Lib.cell_of_heap HROW.out 1)
  have q2 : w1.cell? ⟨w.heap.size, 2, none⟩ = some (.bool g) := cell_below (HB1.out) (Lib.cell_of_heap HROW.out 2)
  have q3 : w1.cell? ⟨w.heap.size, 3, none⟩ = some (.slice x1 az.length d1) := cell_below (HB1.out) (Lib.cell_of_heap HROW.out 3)
  have q4 : w1.cell? ⟨w.heap.size, 4, none⟩ = some (.slice x2 ws.length d2) := cell_below (HB1.out) (Lib.cell_of_heap HROW.out 4)
  have q5 : w1.cell? ⟨w.heap.size, 5, none⟩ = some (.slice x3 ks.len d3) := cell_below (HB1.out) (Lib.cell_of_heap HROW.out 5)
  have q6 : w1.cell? ⟨w.heap.size, 6, none⟩ = some (.slice x4 bs.length d4) := cell_below (HB1.out) (Lib.cell_of_heap HROW.out 6)
  have q7 : w1.cell? ⟨w.heap.size, 7, none⟩ = some (.slice x5 cz.len d5) := cell_below (HB1.out) (Lib.cell_of_heap HROW.out 7)
  go_wp2_with fail
  refine (HW.out _ (thru HB0.out HB1.out)).mono ?_
  rintro e w2 ⟨⟨v, rfl, hv, hvt⟩, hb2⟩
  clear q0 q1 q2 q3 q4 q5 q6 q7
  have HB2 := Lib.hid (thru HB1.out hb2)
  clear hb2
  by_cases hbig : 10000 < v
  · have hbI : ((v : Int) > 10000) = True := by simp; omega
    have hbJ : (10000 < (v : Int)) = True := by simp; omega
    clear hbig
    go_wp2_with fail
    go_ret
    exact ⟨rfl, thru HB0.out HB2.out⟩
  have hbI : ((v : Int) > 10000) = False := by simp; omega
  have hbJ : (10000 < (v : Int)) = False := by simp; omega
  have ht : totX nm az ws ks bs cz ≤ 10000 := by rw [← hvt (by omega)]; omega
  have HT := Lib.hid ht
  clear hvt hbig ht
  have hcl := fun w' (hb : Below w.heap.size w w') => clone_all (ks.size + cz.size + 1) k nm g az ws ks bs cz x1 d1 x2 d2 x3 d3 x4 d4 x5 d5 w' (Nat.lt_succ_self _) (by have := HT.out; omega) (HH.out.below hb)
  have HC := Lib.hid hcl
  clear hcl HA HW
  have q0 : w2.cell? ⟨w.heap.size, 0, none⟩ = some (.int .i64 k) := cell_below (HB2.out) (Lib.cell_of_heap HROW.out 0)
  have q1 : w2.cell? ⟨w.heap.size, 1, none⟩ = some (.string nm) := cell_below (HB2.out) (Lib.cell_of_heap HROW.out 1)
  have q2 : w2.cell? ⟨w.heap.size, 2, none⟩ = some (.bool g) := cell_below (HB2.out) (Lib.cell_of_heap HROW.out 2)
  have q3 : w2.cell? ⟨w.heap.size, 3, none⟩ = some (.slice x1 az.length d1) := cell_below (HB2.out) (Lib.cell_of_heap HROW.out 3)
  have q4 : w2.cell? ⟨w.heap.size, 4, none⟩ = some (.slice x2 ws.length d2) := cell_below (HB2.out) (Lib.cell_of_heap HROW.out 4)
  have q5 : w2.cell? ⟨w.heap.size, 5, none⟩ = some (.slice x3 ks.len d3) := cell_below (HB2.out) (Lib.cell_of_heap HROW.out 5)
  have q6 : w2.cell? ⟨w.heap.size, 6, none⟩ = some (.slice x4 bs.length d4) := cell_below (HB2.out) (Lib.cell_of_heap HROW.out 6)
  have q7 : w2.cell? ⟨w.heap.size, 7, none⟩ = some (.slice x5 cz.len d5) := cell_below (HB2.out) (Lib.cell_of_heap HROW.out 7)
  go_wp2_with fail
  refine wp_mono (Q := fun e a V => e = Exit.normal ∧ ∃ (y1 : Option Addr) (i1 : Nat) (y2 : Option Addr) (i2 : Nat) (y3 : Option Addr) (i3 : Nat) (y4 : Option Addr) (i4 : Nat) (y5 : Option Addr) (i5 : Nat) (z1 : Option Addr) (j1 : Nat) (z2 : Option Addr) (j2 : Nat) (z3 : Option Addr) (j3 : Nat) (z4 : Option Addr) (j4 : Nat) (z5 : Option Addr) (j5 : Nat) (bx bz lo1 hi1 lo2 hi2 : Nat), a = { tmps := #[.agg #[.int .i64 k, .string nm, .bool g, .slice x1 az.length d1, .slice x2 ws.length d2, .slice x3 ks.len d3, .slice x4 bs.length d4, .slice x5 cz.len d5], .pointer (some ⟨w.heap.size, 0, none⟩), .bool false, .pointer (some ⟨bx, 0, none⟩), .pointer (some ⟨bz, 0, none⟩), .bool true, .bool false, .agg #[.int .i64 k, .string nm, .bool g, .slice x1 az.length d1, .slice x2 ws.length d2, .slice x3 ks.len d3, .slice x4 bs.length d4, .slice x5 cz.len d5], .int .i64 v, .bool false, .agg #[.int .i64 k, .string nm, .bool g, .slice x1 az.length d1, .slice x2 ws.length d2, .slice x3 ks.len d3, .slice x4 bs.length d4, .slice x5 cz.len d5], .agg #[.int .i64 k, .string nm, .bool g, .slice y1 az.length i1, .slice y2 ws.length i2, .slice y3 ks.len i3, .slice y4 bs.length i4, .slice y5 cz.len i5], .agg #[.int .i64 k, .string nm, .bool g, .slice x1 az.length d1, .slice x2 ws.length d2, .slice x3 ks.len d3, .slice x4 bs.length d4, .slice x5 cz.len d5], .agg #[.int .i64 k, .string nm, .bool g, .slice z1 az.length j1, .slice z2 ws.length j2, .slice z3 ks.len j3, .slice z4 bs.length j4, .slice z5 cz.len j5], undef, undef, undef, undef, undef, undef, undef, undef], defers := [] } ∧ Both W0 V 28 (ks.size + cz.size + 1 + 1) ⟨k, nm, g, az, ws, ks, bs, cz⟩ bx bz lo1 hi1 lo2 hi2 [.int .i64 k, .string nm, .bool g, .slice y1 az.length i1, .slice y2 ws.length i2, .slice y3 ks.len i3, .slice y4 bs.length i4, .slice y5 cz.len i5] [.int .i64 k, .string nm, .bool g, .slice z1 az.length j1, .slice z2 ws.length j2, .slice z3 ks.len j3, .slice z4 bs.length j4, .slice z5 cz.len j5]) ?_ ?_
  · clear q0 q1 q2 q3 q4 q5 q6 q7
    have hS : w2.drew.heap[w.heap.size]? = some (.cells #[.int .i64 k, .string nm, .bool g, .slice x1 az.length d1, .slice x2 ws.length d2, .slice x3 ks.len d3, .slice x4 bs.length d4, .slice x5 cz.len d5] 28 (0, 0)) := (HB2.out.block _ (Array.getElem?_eq_some_iff.1 HROW.out).1).trans HROW.out
    have HB := Lib.hid ((⟨HB2.out.os, HB2.out.tape, HB2.out.output, HB2.out.size, HB2.out.block⟩ : Below W0.heap.size W0 w2.drew))
    refine RN.begins (fun w' => w'.heap[w.heap.size]? = some (.cells #[.int .i64 k, .string nm, .bool g, .slice x1 az.length d1, .slice x2 ws.length d2, .slice x3 ks.len d3, .slice x4 bs.length d4, .slice x5 cz.len d5] 28 (0, 0))) [] (by kernel_rfl) ?_
    clear HB2
    generalize w2.drew = V0 at HB hS ⊢
    refine RN.take (i := 0) (v := ?_) rfl (by decide) (by kernel_rfl) (by kernel_rfl) (by kernel_rfl) (by kernel_rfl) (by kernel_rfl) (by first | exact fun _ _ _ h => h | exact fun _ _ _ h => (by cases h.1) | exact fun _ _ _ h => door_put (by decide) h) (.inl ⟨by rfl, ?_⟩) hS ?_
    rotate_left 1
    · (intro wq hq; have s0 : wq.cell? ⟨w.heap.size, 0, none⟩ = some (.int .i64 k) := Lib.cell_of_heap hq 0; have s1 : wq.cell? ⟨w.heap.size, 1, none⟩ = some (.string nm) := Lib.cell_of_heap hq 1; have s2 : wq.cell? ⟨w.heap.size, 2, none⟩ = some (.bool g) := Lib.cell_of_heap hq 2; have s3 : wq.cell? ⟨w.heap.size, 3, none⟩ = some (.slice x1 az.length d1) := Lib.cell_of_heap hq 3; have s4 : wq.cell? ⟨w.heap.size, 4, none⟩ = some (.slice x2 ws.length d2) := Lib.cell_of_heap hq 4; have s5 : wq.cell? ⟨w.heap.size, 5, none⟩ = some (.slice x3 ks.len d3) := Lib.cell_of_heap hq 5; have s6 : wq.cell? ⟨w.heap.size, 6, none⟩ = some (.slice x4 bs.length d4) := Lib.cell_of_heap hq 6; have s7 : wq.cell? ⟨w.heap.size, 7, none⟩ = some (.slice x5 cz.len d5) := Lib.cell_of_heap hq 7; go_simp; try with_reducible rfl)
    refine RN.take (i := 2) (v := ?_) rfl (by decide) (by kernel_rfl) (by kernel_rfl) (by kernel_rfl) (by kernel_rfl) (by kernel_rfl) (by first | exact fun _ _ _ h => h | exact fun _ _ _ h => (by cases h.1) | exact fun _ _ _ h => door_put (by decide) h) (.inl ⟨by rfl, ?_⟩) hS ?_
    rotate_left 1
    · (intro wq hq; have s0 : wq.cell? ⟨w.heap.size, 0, none⟩ = some (.int .i64 k) := Lib.cell_of_heap hq 0; have s1 : wq.cell? ⟨w.heap.size, 1, none⟩ = some (.string nm) := Lib.cell_of_heap hq 1; have s2 : wq.cell? ⟨w.heap.size, 2, none⟩ = some (.bool g) := Lib.cell_of_heap hq 2; have s3 : wq.cell? ⟨w.heap.size, 3, none⟩ = some (.slice x1 az.length d1) := Lib.cell_of_heap hq 3; have s4 : wq.cell? ⟨w.heap.size, 4, none⟩ = some (.slice x2 ws.length d2) := Lib.cell_of_heap hq 4; have s5 : wq.cell? ⟨w.heap.size, 5, none⟩ = some (.slice x3 ks.len d3) := Lib.cell_of_heap hq 5; have s6 : wq.cell? ⟨w.heap.size, 6, none⟩ = some (.slice x4 bs.length d4) := Lib.cell_of_heap hq 6; have s7 : wq.cell? ⟨w.heap.size, 7, none⟩ = some (.slice x5 cz.len d5) := Lib.cell_of_heap hq 7; go_simp; try with_reducible rfl)
    refine RN.all (rs := [1, 4, 5]) (by kernel_rfl) (by simp) ?_
    refine RN.All.cons rfl (fun K hK => ?_) (RN.All.cons rfl (fun K hK => ?_) (RN.All.cons rfl (fun K hK => ?_) RN.All.nil))
    · go_simp
      refine (HC.out V0 (thru HB0.out HB.out)).mono ?_
      rintro e V1 ⟨y1, i1, y2, i2, y3, i3, y4, i4, y5, i5, rfl, hb, hg⟩
      have G1' := Lib.hid (Got.of HB.out.size hb hg)
      have HB' := Lib.hid (thru HB.out hb)
      have hS' := (hb.block _ (Array.getElem?_eq_some_iff.1 hS).1).trans hS
      clear hb hg HB hS
      have G1 := G1'; clear G1'
      have HB := HB'; clear HB'
      have hS := hS'; clear hS'
      generalize V0.heap.size = lo1 at G1
      obtain ⟨hi1, hhi⟩ : ∃ hi1, hi1 = V1.heap.size := ⟨_, rfl⟩
      rw [← hhi] at G1
      clear hhi
      refine hK _ _ (fun _ => hS) ?_
      clear hK K
      refine RN.all (rs := [3, 4, 5]) (by kernel_rfl) (by simp) ?_
      refine RN.All.cons rfl (fun K hK => ?_) (RN.All.cons rfl (fun K hK => ?_) (RN.All.cons rfl (fun K hK => ?_) RN.All.nil))
      · go_simp
        refine (HC.out V1 (thru HB0.out HB.out)).mono ?_
        rintro e V2 ⟨z1, j1, z2, j2, z3, j3, z4, j4, z5, j5, rfl, hb, hg⟩
        have G2' := Lib.hid (Got.of HB.out.size hb hg)
        have HB' := Lib.hid (thru HB.out hb)
        have hS' := (hb.block _ (Array.getElem?_eq_some_iff.1 hS).1).trans hS
        have LE := Lib.hid G1.out.2.2.1
        have G1' := Lib.hid (G1.out.below hb)
        clear hb hg HB hS G1
        have G2 := G2'; clear G2'
        have HB := HB'; clear HB'
        have G1 := G1'; clear G1'
        have hS := hS'; clear hS'
        generalize V1.heap.size = lo2 at G2 LE
        obtain ⟨hi2, hhi⟩ : ∃ hi2, hi2 = V2.heap.size := ⟨_, rfl⟩
        rw [← hhi] at G2
        clear hhi
        refine hK _ _ (fun _ => hS) ?_
        clear hK K
        refine RN.all (rs := [4, 5]) (by kernel_rfl) (by simp) ?_
        refine RN.All.cons rfl (fun K hK => ?_) (RN.All.cons rfl (fun K hK => ?_) RN.All.nil)
        · go_simp
          have hb := bel1 V2 (.cells #[.int .i64 0, .string ⟨#[]⟩, .bool false, .slice none 0 0, .slice none 0 0, .slice none 0 0, .slice none 0 0, .slice none 0 0] 28)
          have HX := Lib.hid (heap_new' V2 (.cells #[.int .i64 0, .string ⟨#[]⟩, .bool false, .slice none 0 0, .slice none 0 0, .slice none 0 0, .slice none 0 0, .slice none 0 0] 28))
          have HB' := Lib.hid (thru HB.out hb)
          have hS' := (hb.block _ (Array.getElem?_eq_some_iff.1 hS).1).trans hS
          have NX := Lib.hid HB.out.size
          have X1 : Hid (Out V2.heap.size lo1 hi1) := Lib.hid (.inr G1.out.2.2.1)
          have G1' := Lib.hid (G1.out.below hb)
          have X2 : Hid (Out V2.heap.size lo2 hi2) := Lib.hid (.inr G2.out.2.2.1)
          have G2' := Lib.hid (G2.out.below hb)
          refine hK _ _ (fun _ => hS') ?_
          clear hK K
          clear hb HB hS G1 G2
          have HB := HB'; clear HB'
          have G1 := G1'; clear G1'
          have G2 := G2'; clear G2'
          have hS := hS'; clear hS'
          generalize V2.heap.size = bx at HX NX X1 X2 ⊢
          generalize V2.alloc (.cells #[.int .i64 0, .string ⟨#[]⟩, .bool false, .slice none 0 0, .slice none 0 0, .slice none 0 0, .slice none 0 0, .slice none 0 0] 28) = V3 at HB hS HX G1 G2 ⊢
          refine RN.all (rs := [5]) (by kernel_rfl) (by simp) ?_
          refine RN.All.cons rfl (fun K hK => ?_) RN.All.nil
          go_simp
          have hb := bel1 V3 (.cells #[.int .i64 0, .string ⟨#[]⟩, .bool false, .slice none 0 0, .slice none 0 0, .slice none 0 0, .slice none 0 0, .slice none 0 0] 28)
          have HZ := Lib.hid (heap_new' V3 (.cells #[.int .i64 0, .string ⟨#[]⟩, .bool false, .slice none 0 0, .slice none 0 0, .slice none 0 0, .slice none 0 0, .slice none 0 0] 28))
          have HB' := Lib.hid (thru HB.out hb)
          have hS' := (hb.block _ (Array.getElem?_eq_some_iff.1 hS).1).trans hS
          have NZ := Lib.hid HB.out.size
          have Z1 : Hid (Out V3.heap.size lo1 hi1) := Lib.hid (.inr G1.out.2.2.1)
          have G1' := Lib.hid (G1.out.below hb)
          have Z2 : Hid (Out V3.heap.size lo2 hi2) := Lib.hid (.inr G2.out.2.2.1)
          have G2' := Lib.hid (G2.out.below hb)
          have HX' := Lib.hid ((hb.block _ (Array.getElem?_eq_some_iff.1 HX.out).1).trans HX.out)
          have NE : Hid (bx ≠ V3.heap.size) := Lib.hid (Nat.ne_of_lt (Array.getElem?_eq_some_iff.1 HX.out).1)
          refine hK _ _ (fun _ => hS') ?_
          clear hK K
          clear hb HB hS G1 G2 HX
          have HB := HB'; clear HB'
          have G1 := G1'; clear G1'
          have G2 := G2'; clear G2'
          have HX := HX'; clear HX'
          have hS := hS'; clear hS'
          generalize V3.heap.size = bz at HZ NZ Z1 Z2 NE ⊢
          generalize V3.alloc (.cells #[.int .i64 0, .string ⟨#[]⟩, .bool false, .slice none 0 0, .slice none 0 0, .slice none 0 0, .slice none 0 0, .slice none 0 0] 28) = V4 at HB hS HZ G1 G2 HX ⊢
          refine RN.all (rs := [6]) (by kernel_rfl) (by simp) ?_
          refine RN.All.cons rfl (fun K hK => ?_) RN.All.nil
          have fx : ∀ i, V4.frozen? ⟨bx, i, none⟩ = false := fun i => frozen_of_row _ _ _ _ _ HX.out
          have f0 := fx 0; have c0 : V4.cell? ⟨bx, 0, none⟩ = some (.int .i64 0) := Lib.cell_of_heap HX.out 0
          have f1 := fx 1; have c1 : V4.cell? ⟨bx, 1, none⟩ = some (.string ⟨#[]⟩) := Lib.cell_of_heap HX.out 1
          have f2 := fx 2; have c2 : V4.cell? ⟨bx, 2, none⟩ = some (.bool false) := Lib.cell_of_heap HX.out 2
          have f3 := fx 3; have c3 : V4.cell? ⟨bx, 3, none⟩ = some (.slice none 0 0) := Lib.cell_of_heap HX.out 3
          have f4 := fx 4; have c4 : V4.cell? ⟨bx, 4, none⟩ = some (.slice none 0 0) := Lib.cell_of_heap HX.out 4
          have f5 := fx 5; have c5 : V4.cell? ⟨bx, 5, none⟩ = some (.slice none 0 0) := Lib.cell_of_heap HX.out 5
          have f6 := fx 6; have c6 : V4.cell? ⟨bx, 6, none⟩ = some (.slice none 0 0) := Lib.cell_of_heap HX.out 6
          have f7 := fx 7; have c7 : V4.cell? ⟨bx, 7, none⟩ = some (.slice none 0 0) := Lib.cell_of_heap HX.out 7
          clear fx
          go_simp
          have hst := stored9 V4 bx (.int .i64 k) (.string nm) (.bool g) (.slice y1 az.length i1) (.slice y2 ws.length i2) (.slice y3 ks.len i3) (.slice y4 bs.length i4) (.slice y5 cz.len i5) _ _ _ _ _ _ _ _ _ HX.out
          have hab : bx ≠ w.heap.size := by have h1 := NX.out; have h2 := (Array.getElem?_eq_some_iff.1 HROW.out).1; omega
          have hS' := (hst.2.block _ (Array.getElem?_eq_some_iff.1 hS).1 (Ne.symm hab)).trans hS
          refine hK _ _ (fun _ => hS') ?_
          generalize ((((((((V4.setCell ⟨bx, 0, none⟩ (.int .i64 k)).setCell ⟨bx, 1, none⟩ (.string nm)).setCell ⟨bx, 2, none⟩ (.bool g)).setCell ⟨bx, 3, none⟩ (.slice y1 az.length i1)).setCell ⟨bx, 4, none⟩ (.slice y2 ws.length i2)).setCell ⟨bx, 5, none⟩ (.slice y3 ks.len i3)).setCell ⟨bx, 6, none⟩ (.slice y4 bs.length i4)).setCell ⟨bx, 7, none⟩ (.slice y5 cz.len i5)) = V5 at hst hS' ⊢
          clear hK K hS hab c0 c1 c2 c3 c4 c5 c6 c7 f0 f1 f2 f3 f4 f5 f6 f7
          have HB' := Lib.hid (hst.2.below HB.out NX.out)
          have G1' := Lib.hid (G1.out.frP hst.2 X1.out)
          have G2' := Lib.hid (G2.out.frP hst.2 X2.out)
          have HZ' := Lib.hid ((hst.2.block _ (Array.getElem?_eq_some_iff.1 HZ.out).1 (Ne.symm NE.out)).trans HZ.out)
          have HX' := Lib.hid hst.1
          clear hst HB G1 G2 HX HZ
          have HB := HB'; clear HB'
          have G1 := G1'; clear G1'
          have G2 := G2'; clear G2'
          have HX := HX'; clear HX'
          have HZ := HZ'; clear HZ'
          have hS := hS'; clear hS'
          refine RN.all (rs := [7]) (by kernel_rfl) (by simp) ?_
          refine RN.All.cons rfl (fun K hK => ?_) RN.All.nil
          have fx : ∀ i, V5.frozen? ⟨bz, i, none⟩ = false := fun i => frozen_of_row _ _ _ _ _ HZ.out
          have f0 := fx 0; have c0 : V5.cell? ⟨bz, 0, none⟩ = some (.int .i64 0) := Lib.cell_of_heap HZ.out 0
          have f1 := fx 1; have c1 : V5.cell? ⟨bz, 1, none⟩ = some (.string ⟨#[]⟩) := Lib.cell_of_heap HZ.out 1
          have f2 := fx 2; have c2 : V5.cell? ⟨bz, 2, none⟩ = some (.bool false) := Lib.cell_of_heap HZ.out 2
          have f3 := fx 3; have c3 : V5.cell? ⟨bz, 3, none⟩ = some (.slice none 0 0) := Lib.cell_of_heap HZ.out 3
          have f4 := fx 4; have c4 : V5.cell? ⟨bz, 4, none⟩ = some (.slice none 0 0) := Lib.cell_of_heap HZ.out 4
          have f5 := fx 5; have c5 : V5.cell? ⟨bz, 5, none⟩ = some (.slice none 0 0) := Lib.cell_of_heap HZ.out 5
          have f6 := fx 6; have c6 : V5.cell? ⟨bz, 6, none⟩ = some (.slice none 0 0) := Lib.cell_of_heap HZ.out 6
          have f7 := fx 7; have c7 : V5.cell? ⟨bz, 7, none⟩ = some (.slice none 0 0) := Lib.cell_of_heap HZ.out 7
          clear fx
          go_simp
          have hst := stored9 V5 bz (.int .i64 k) (.string nm) (.bool g) (.slice z1 az.length j1) (.slice z2 ws.length j2) (.slice z3 ks.len j3) (.slice z4 bs.length j4) (.slice z5 cz.len j5) _ _ _ _ _ _ _ _ _ HZ.out
          have hab : bz ≠ w.heap.size := by have h1 := NZ.out; have h2 := (Array.getElem?_eq_some_iff.1 HROW.out).1; omega
          have hS' := (hst.2.block _ (Array.getElem?_eq_some_iff.1 hS).1 (Ne.symm hab)).trans hS
          refine hK _ _ (fun _ => hS') ?_
          generalize ((((((((V5.setCell ⟨bz, 0, none⟩ (.int .i64 k)).setCell ⟨bz, 1, none⟩ (.string nm)).setCell ⟨bz, 2, none⟩ (.bool g)).setCell ⟨bz, 3, none⟩ (.slice z1 az.length j1)).setCell ⟨bz, 4, none⟩ (.slice z2 ws.length j2)).setCell ⟨bz, 5, none⟩ (.slice z3 ks.len j3)).setCell ⟨bz, 6, none⟩ (.slice z4 bs.length j4)).setCell ⟨bz, 7, none⟩ (.slice z5 cz.len j5)) = V6 at hst hS' ⊢
          clear hK K hS hab c0 c1 c2 c3 c4 c5 c6 c7 f0 f1 f2 f3 f4 f5 f6 f7
          have HB' := Lib.hid (hst.2.below HB.out NZ.out)
          have G1' := Lib.hid (G1.out.frP hst.2 Z1.out)
          have G2' := Lib.hid (G2.out.frP hst.2 Z2.out)
          have HX' := Lib.hid ((hst.2.block _ (Array.getElem?_eq_some_iff.1 HX.out).1 NE.out).trans HX.out)
          have HZ' := Lib.hid hst.1
          clear hst HB G1 G2 HX HZ
          have HB := HB'; clear HB'
          have G1 := G1'; clear G1'
          have G2 := G2'; clear G2'
          have HX := HX'; clear HX'
          have HZ := HZ'; clear HZ'
          have hS := hS'; clear hS'
          refine RN.done (by kernel_rfl) ?_ _
          exact ⟨rfl, y1, i1, y2, i2, y3, i3, y4, i4, y5, i5, z1, j1, z2, j2, z3, j3, z4, j4, z5, j5, bx, bz, lo1, hi1, lo2, hi2, rfl, ⟨HB.out, HX.out, HZ.out, NX.out, NZ.out, NE.out, G1.out, G2.out, X1.out, X2.out, Z1.out, Z2.out, LE.out⟩⟩
        · go_simp
          have hb := bel1 V2 (.cells #[.int .i64 0, .string ⟨#[]⟩, .bool false, .slice none 0 0, .slice none 0 0, .slice none 0 0, .slice none 0 0, .slice none 0 0] 28)
          have HZ := Lib.hid (heap_new' V2 (.cells #[.int .i64 0, .string ⟨#[]⟩, .bool false, .slice none 0 0, .slice none 0 0, .slice none 0 0, .slice none 0 0, .slice none 0 0] 28))
          have HB' := Lib.hid (thru HB.out hb)
          have hS' := (hb.block _ (Array.getElem?_eq_some_iff.1 hS).1).trans hS
          have NZ := Lib.hid HB.out.size
          have Z1 : Hid (Out V2.heap.size lo1 hi1) := Lib.hid (.inr G1.out.2.2.1)
          have G1' := Lib.hid (G1.out.below hb)
          have Z2 : Hid (Out V2.heap.size lo2 hi2) := Lib.hid (.inr G2.out.2.2.1)
          have G2' := Lib.hid (G2.out.below hb)
          refine hK _ _ (fun _ => hS') ?_
          clear hK K
          clear hb HB hS G1 G2
          have HB := HB'; clear HB'
          have G1 := G1'; clear G1'
          have G2 := G2'; clear G2'
          have hS := hS'; clear hS'
          generalize V2.heap.size = bz at HZ NZ Z1 Z2 ⊢
          generalize V2.alloc (.cells #[.int .i64 0, .string ⟨#[]⟩, .bool false, .slice none 0 0, .slice none 0 0, .slice none 0 0, .slice none 0 0, .slice none 0 0] 28) = V7 at HB hS HZ G1 G2 ⊢
          refine RN.all (rs := [4]) (by kernel_rfl) (by simp) ?_
          refine RN.All.cons rfl (fun K hK => ?_) RN.All.nil
          go_simp
          have hb := bel1 V7 (.cells #[.int .i64 0, .string ⟨#[]⟩, .bool false, .slice none 0 0, .slice none 0 0, .slice none 0 0, .slice none 0 0, .slice none 0 0] 28)
          have HX := Lib.hid (heap_new' V7 (.cells #[.int .i64 0, .string ⟨#[]⟩, .bool false, .slice none 0 0, .slice none 0 0, .slice none 0 0, .slice none 0 0, .slice none 0 0] 28))
          have HB' := Lib.hid (thru HB.out hb)
          have hS' := (hb.block _ (Array.getElem?_eq_some_iff.1 hS).1).trans hS
          have NX := Lib.hid HB.out.size
          have X1 : Hid (Out V7.heap.size lo1 hi1) := Lib.hid (.inr G1.out.2.2.1)
          have G1' := Lib.hid (G1.out.below hb)
          have X2 : Hid (Out V7.heap.size lo2 hi2) := Lib.hid (.inr G2.out.2.2.1)
          have G2' := Lib.hid (G2.out.below hb)
          have HZ' := Lib.hid ((hb.block _ (Array.getElem?_eq_some_iff.1 HZ.out).1).trans HZ.out)
          have NE : Hid (V7.heap.size ≠ bz) := Lib.hid (Nat.ne_of_gt (Array.getElem?_eq_some_iff.1 HZ.out).1)
          refine hK _ _ (fun _ => hS') ?_
          clear hK K
          clear hb HB hS G1 G2 HZ
          have HB := HB'; clear HB'
          have G1 := G1'; clear G1'
          have G2 := G2'; clear G2'
          have HZ := HZ'; clear HZ'
          have hS := hS'; clear hS'
          generalize V7.heap.size = bx at HX NX X1 X2 NE ⊢
          generalize V7.alloc (.cells #[.int .i64 0, .string ⟨#[]⟩, .bool false, .slice none 0 0, .slice none 0 0, .slice none 0 0, .slice none 0 0, .slice none 0 0] 28) = V8 at HB hS HX G1 G2 HZ ⊢
          refine RN.all (rs := [6]) (by kernel_rfl) (by simp) ?_
          refine RN.All.cons rfl (fun K hK => ?_) RN.All.nil
          have fx : ∀ i, V8.frozen? ⟨bx, i, none⟩ = false := fun i => frozen_of_row _ _ _ _ _ HX.out
          have f0 := fx 0; have c0 : V8.cell? ⟨bx, 0, none⟩ = some (.int .i64 0) := Lib.cell_of_heap HX.out 0
          have f1 := fx 1; have c1 : V8.cell? ⟨bx, 1, none⟩ = some (.string ⟨#[]⟩) := Lib.cell_of_heap HX.out 1
          have f2 := fx 2; have c2 : V8.cell? ⟨bx, 2, none⟩ = some (.bool false) := Lib.cell_of_heap HX.out 2
          have f3 := fx 3; have c3 : V8.cell? ⟨bx, 3, none⟩ = some (.slice none 0 0) := Lib.cell_of_heap HX.out 3
          have f4 := fx 4; have c4 : V8.cell? ⟨bx, 4, none⟩ = some (.slice none 0 0) := Lib.cell_of_heap HX.out 4
          have f5 := fx 5; have c5 : V8.cell? ⟨bx, 5, none⟩ = some (.slice none 0 0) := Lib.cell_of_heap HX.out 5
          have f6 := fx 6; have c6 : V8.cell? ⟨bx, 6, none⟩ = some (.slice none 0 0) := Lib.cell_of_heap HX.out 6
          have f7 := fx 7; have c7 : V8.cell? ⟨bx, 7, none⟩ = some (.slice none 0 0) := Lib.cell_of_heap HX.out 7
          clear fx
          go_simp
          have hst := stored9 V8 bx (.int .i64 k) (.string nm) (.bool g) (.slice y1 az.length i1) (.slice y2 ws.length i2) (.slice y3 ks.len i3) (.slice y4 bs.length i4) (.slice y5 cz.len i5) _ _ _ _ _ _ _ _ _ HX.out
          have hab : bx ≠ w.heap.size := by have h1 := NX.out; have h2 := (Array.getElem?_eq_some_iff.1 HROW.out).1; omega
          have hS' := (hst.2.block _ (Array.getElem?_eq_some_iff.1 hS).1 (Ne.symm hab)).trans hS
          refine hK _ _ (fun _ => hS') ?_
          generalize ((((((((V8.setCell ⟨bx, 0, none⟩ (.int .i64 k)).setCell ⟨bx, 1, none⟩ (.string nm)).setCell ⟨bx, 2, none⟩ (.bool g)).setCell ⟨bx, 3, none⟩ (.slice y1 az.length i1)).setCell ⟨bx, 4, none⟩ (.slice y2 ws.length i2)).setCell ⟨bx, 5, none⟩ (.slice y3 ks.len i3)).setCell ⟨bx, 6, none⟩ (.slice y4 bs.length i4)).setCell ⟨bx, 7, none⟩ (.slice y5 cz.len i5)) = V9 at hst hS' ⊢
          clear hK K hS hab c0 c1 c2 c3 c4 c5 c6 c7 f0 f1 f2 f3 f4 f5 f6 f7
          have HB' := Lib.hid (hst.2.below HB.out NX.out)
          have G1' := Lib.hid (G1.out.frP hst.2 X1.out)
          have G2' := Lib.hid (G2.out.frP hst.2 X2.out)
          have HZ' := Lib.hid ((hst.2.block _ (Array.getElem?_eq_some_iff.1 HZ.out).1 (Ne.symm NE.out)).trans HZ.out)
          have HX' := Lib.hid hst.1
          clear hst HB G1 G2 HX HZ
          have HB := HB'; clear HB'
          have G1 := G1'; clear G1'
          have G2 := G2'; clear G2'
          have HX := HX'; clear HX'
          have HZ := HZ'; clear HZ'
          have hS := hS'; clear hS'
          refine RN.all (rs := [7]) (by kernel_rfl) (by simp) ?_
          refine RN.All.cons rfl (fun K hK => ?_) RN.All.nil
          have fx : ∀ i, V9.frozen? ⟨bz, i, none⟩ = false := fun i => frozen_of_row _ _ _ _ _ HZ.out
          have f0 := fx 0; have c0 : V9.cell? ⟨bz, 0, none⟩ = some (.int .i64 0) := Lib.cell_of_heap HZ.out 0
          have f1 := fx 1; have c1 : V9.cell? ⟨bz, 1, none⟩ = some (.string ⟨#[]⟩) := Lib.cell_of_heap HZ.out 1
          have f2 := fx 2; have c2 : V9.cell? ⟨bz, 2, none⟩ = some (.bool false) := Lib.cell_of_heap HZ.out 2
          have f3 := fx 3; have c3 : V9.cell? ⟨bz, 3, none⟩ = some (.slice none 0 0) := Lib.cell_of_heap HZ.out 3
          have f4 := fx 4; have c4 : V9.cell? ⟨bz, 4, none⟩ = some (.slice none 0 0) := Lib.cell_of_heap HZ.out 4
          have f5 := fx 5; have c5 : V9.cell? ⟨bz, 5, none⟩ = some (.slice none 0 0) := Lib.cell_of_heap HZ.out 5
          have f6 := fx 6; have c6 : V9.cell? ⟨bz, 6, none⟩ = some (.slice none 0 0) := Lib.cell_of_heap HZ.out 6
          have f7 := fx 7; have c7 : V9.cell? ⟨bz, 7, none⟩ = some (.slice none 0 0) := Lib.cell_of_heap HZ.out 7
          clear fx
          go_simp
          have hst := stored9 V9 bz (.int .i64 k) (.string nm) (.bool g) (.slice z1 az.length j1) (.slice z2 ws.length j2) (.slice z3 ks.len j3) (.slice z4 bs.length j4) (.slice z5 cz.len j5) _ _ _ _ _ _ _ _ _ HZ.out
          have hab : bz ≠ w.heap.size := by have h1 := NZ.out; have h2 := (Array.getElem?_eq_some_iff.1 HROW.out).1; omega
          have hS' := (hst.2.block _ (Array.getElem?_eq_some_iff.1 hS).1 (Ne.symm hab)).trans hS
          refine hK _ _ (fun _ => hS') ?_
          generalize ((((((((V9.setCell ⟨bz, 0, none⟩ (.int .i64 k)).setCell ⟨bz, 1, none⟩ (.string nm)).setCell ⟨bz, 2, none⟩ (.bool g)).setCell ⟨bz, 3, none⟩ (.slice z1 az.length j1)).setCell ⟨bz, 4, none⟩ (.slice z2 ws.length j2)).setCell ⟨bz, 5, none⟩ (.slice z3 ks.len j3)).setCell ⟨bz, 6, none⟩ (.slice z4 bs.length j4)).setCell ⟨bz, 7, none⟩ (.slice z5 cz.len j5)) = V10 at hst hS' ⊢
          clear hK K hS hab c0 c1 c2 c3 c4 c5 c6 c7 f0 f1 f2 f3 f4 f5 f6 f7
          have HB' := Lib.hid (hst.2.below HB.out NZ.out)
          have G1' := Lib.hid (G1.out.frP hst.2 Z1.out)
          have G2' := Lib.hid (G2.out.frP hst.2 Z2.out)
          have HX' := Lib.hid ((hst.2.block _ (Array.getElem?_eq_some_iff.1 HX.out).1 NE.out).trans HX.out)
          have HZ' := Lib.hid hst.1
          clear hst HB G1 G2 HX HZ
          have HB := HB'; clear HB'
          have G1 := G1'; clear G1'
          have G2 := G2'; clear G2'
          have HX := HX'; clear HX'
          have HZ := HZ'; clear HZ'
          have hS := hS'; clear hS'
          refine RN.done (by kernel_rfl) ?_ _
          exact ⟨rfl, y1, i1, y2, i2, y3, i3, y4, i4, y5, i5, z1, j1, z2, j2, z3, j3, z4, j4, z5, j5, bx, bz, lo1, hi1, lo2, hi2, rfl, ⟨HB.out, HX.out, HZ.out, NX.out, NZ.out, NE.out, G1.out, G2.out, X1.out, X2.out, Z1.out, Z2.out, LE.out⟩⟩
      · go_simp
        have hb := bel1 V1 (.cells #[.int .i64 0, .string ⟨#[]⟩, .bool false, .slice none 0 0, .slice none 0 0, .slice none 0 0, .slice none 0 0, .slice none 0 0] 28)
        have HX := Lib.hid (heap_new' V1 (.cells #[.int .i64 0, .string ⟨#[]⟩, .bool false, .slice none 0 0, .slice none 0 0, .slice none 0 0, .slice none 0 0, .slice none 0 0] 28))
        have HB' := Lib.hid (thru HB.out hb)
        have hS' := (hb.block _ (Array.getElem?_eq_some_iff.1 hS).1).trans hS
        have NX := Lib.hid HB.out.size
        have X1 : Hid (Out V1.heap.size lo1 hi1) := Lib.hid (.inr G1.out.2.2.1)
        have G1' := Lib.hid (G1.out.below hb)
        refine hK _ _ (fun _ => hS') ?_
        clear hK K
        clear hb HB hS G1
        have HB := HB'; clear HB'
        have G1 := G1'; clear G1'
        have hS := hS'; clear hS'
        generalize V1.heap.size = bx at HX NX X1 ⊢
        generalize V1.alloc (.cells #[.int .i64 0, .string ⟨#[]⟩, .bool false, .slice none 0 0, .slice none 0 0, .slice none 0 0, .slice none 0 0, .slice none 0 0] 28) = V11 at HB hS HX G1 ⊢
        refine RN.all (rs := [3, 5]) (by kernel_rfl) (by simp) ?_
        refine RN.All.cons rfl (fun K hK => ?_) (RN.All.cons rfl (fun K hK => ?_) RN.All.nil)
        · go_simp
          refine (HC.out V11 (thru HB0.out HB.out)).mono ?_
          rintro e V12 ⟨z1, j1, z2, j2, z3, j3, z4, j4, z5, j5, rfl, hb, hg⟩
          have G2' := Lib.hid (Got.of HB.out.size hb hg)
          have HB' := Lib.hid (thru HB.out hb)
          have hS' := (hb.block _ (Array.getElem?_eq_some_iff.1 hS).1).trans hS
          have LE := Lib.hid G1.out.2.2.1
          have G1' := Lib.hid (G1.out.below hb)
          have HX' := Lib.hid ((hb.block _ (Array.getElem?_eq_some_iff.1 HX.out).1).trans HX.out)
          have X2 : Hid (Out bx V11.heap.size V12.heap.size) := Lib.hid (.inl (Array.getElem?_eq_some_iff.1 HX.out).1)
          clear hb hg HB hS G1 HX
          have G2 := G2'; clear G2'
          have HB := HB'; clear HB'
          have G1 := G1'; clear G1'
          have HX := HX'; clear HX'
          have hS := hS'; clear hS'
          generalize V11.heap.size = lo2 at G2 LE X2
          obtain ⟨hi2, hhi⟩ : ∃ hi2, hi2 = V12.heap.size := ⟨_, rfl⟩
          rw [← hhi] at G2 X2
          clear hhi
          refine hK _ _ (fun _ => hS) ?_
          clear hK K
          refine RN.all (rs := [5]) (by kernel_rfl) (by simp) ?_
          refine RN.All.cons rfl (fun K hK => ?_) RN.All.nil
          go_simp
          have hb := bel1 V12 (.cells #[.int .i64 0, .string ⟨#[]⟩, .bool false, .slice none 0 0, .slice none 0 0, .slice none 0 0, .slice none 0 0, .slice none 0 0] 28)
          have HZ := Lib.hid (heap_new' V12 (.cells #[.int .i64 0, .string ⟨#[]⟩, .bool false, .slice none 0 0, .slice none 0 0, .slice none 0 0, .slice none 0 0, .slice none 0 0] 28))
          have HB' := Lib.hid (thru HB.out hb)
          have hS' := (hb.block _ (Array.getElem?_eq_some_iff.1 hS).1).trans hS
          have NZ := Lib.hid HB.out.size
          have Z1 : Hid (Out V12.heap.size lo1 hi1) := Lib.hid (.inr G1.out.2.2.1)
          have G1' := Lib.hid (G1.out.below hb)
          have Z2 : Hid (Out V12.heap.size lo2 hi2) := Lib.hid (.inr G2.out.2.2.1)
          have G2' := Lib.hid (G2.out.below hb)
          have HX' := Lib.hid ((hb.block _ (Array.getElem?_eq_some_iff.1 HX.out).1).trans HX.out)
          have NE : Hid (bx ≠ V12.heap.size) := Lib.hid (Nat.ne_of_lt (Array.getElem?_eq_some_iff.1 HX.out).1)
          refine hK _ _ (fun _ => hS') ?_
          clear hK K
          clear hb HB hS G1 G2 HX
          have HB := HB'; clear HB'
          have G1 := G1'; clear G1'
          have G2 := G2'; clear G2'
          have HX := HX'; clear HX'
          have hS := hS'; clear hS'
          generalize V12.heap.size = bz at HZ NZ Z1 Z2 NE ⊢
          generalize V12.alloc (.cells #[.int .i64 0, .string ⟨#[]⟩, .bool false, .slice none 0 0, .slice none 0 0, .slice none 0 0, .slice none 0 0, .slice none 0 0] 28) = V13 at HB hS HZ G1 G2 HX ⊢
          refine RN.all (rs := [6]) (by kernel_rfl) (by simp) ?_
          refine RN.All.cons rfl (fun K hK => ?_) RN.All.nil
          have fx : ∀ i, V13.frozen? ⟨bx, i, none⟩ = false := fun i => frozen_of_row _ _ _ _ _ HX.out
          have f0 := fx 0; have c0 : V13.cell? ⟨bx, 0, none⟩ = some (.int .i64 0) := Lib.cell_of_heap HX.out 0
          have f1 := fx 1; have c1 : V13.cell? ⟨bx, 1, none⟩ = some (.string ⟨#[]⟩) := Lib.cell_of_heap HX.out 1
          have f2 := fx 2; have c2 : V13.cell? ⟨bx, 2, none⟩ = some (.bool false) := Lib.cell_of_heap HX.out 2
          have f3 := fx 3; have c3 : V13.cell? ⟨bx, 3, none⟩ = some (.slice none 0 0) := Lib.cell_of_heap HX.out 3
          have f4 := fx 4; have c4 : V13.cell? ⟨bx, 4, none⟩ = some (.slice none 0 0) := Lib.cell_of_heap HX.out 4
          have f5 := fx 5; have c5 : V13.cell? ⟨bx, 5, none⟩ = some (.slice none 0 0) := Lib.cell_of_heap HX.out 5
          have f6 := fx 6; have c6 : V13.cell? ⟨bx, 6, none⟩ = some (.slice none 0 0) := Lib.cell_of_heap HX.out 6
          have f7 := fx 7; have c7 : V13.cell? ⟨bx, 7, none⟩ = some (.slice none 0 0) := Lib.cell_of_heap HX.out 7
          clear fx
          go_simp
          have hst := stored9 V13 bx (.int .i64 k) (.string nm) (.bool g) (.slice y1 az.length i1) (.slice y2 ws.length i2) (.slice y3 ks.len i3) (.slice y4 bs.length i4) (.slice y5 cz.len i5) _ _ _ _ _ _ _ _ _ HX.out
          have hab : bx ≠ w.heap.size := by have h1 := NX.out; have h2 := (Array.getElem?_eq_some_iff.1 HROW.out).1; omega
          have hS' := (hst.2.block _ (Array.getElem?_eq_some_iff.1 hS).1 (Ne.symm hab)).trans hS
          refine hK _ _ (fun _ => hS') ?_
          generalize ((((((((V13.setCell ⟨bx, 0, none⟩ (.int .i64 k)).setCell ⟨bx, 1, none⟩ (.string nm)).setCell ⟨bx, 2, none⟩ (.bool g)).setCell ⟨bx, 3, none⟩ (.slice y1 az.length i1)).setCell ⟨bx, 4, none⟩ (.slice y2 ws.length i2)).setCell ⟨bx, 5, none⟩ (.slice y3 ks.len i3)).setCell ⟨bx, 6, none⟩ (.slice y4 bs.length i4)).setCell ⟨bx, 7, none⟩ (.slice y5 cz.len i5)) = V14 at hst hS' ⊢
          clear hK K hS hab c0 c1 c2 c3 c4 c5 c6 c7 f0 f1 f2 f3 f4 f5 f6 f7
          have HB' := Lib.hid (hst.2.below HB.out NX.out)
          have G1' := Lib.hid (G1.out.frP hst.2 X1.out)
          have G2' := Lib.hid (G2.out.frP hst.2 X2.out)
          have HZ' := Lib.hid ((hst.2.block _ (Array.getElem?_eq_some_iff.1 HZ.out).1 (Ne.symm NE.out)).trans HZ.out)
          have HX' := Lib.hid hst.1
          clear hst HB G1 G2 HX HZ
          have HB := HB'; clear HB'
          have G1 := G1'; clear G1'
          have G2 := G2'; clear G2'
          have HX := HX'; clear HX'
          have HZ := HZ'; clear HZ'
          have hS := hS'; clear hS'
          refine RN.all (rs := [7]) (by kernel_rfl) (by simp) ?_
          refine RN.All.cons rfl (fun K hK => ?_) RN.All.nil
          have fx : ∀ i, V14.frozen? ⟨bz, i, none⟩ = false := fun i => frozen_of_row _ _ _ _ _ HZ.out
          have f0 := fx 0; have c0 : V14.cell? ⟨bz, 0, none⟩ = some (.int .i64 0) := Lib.cell_of_heap HZ.out 0
          have f1 := fx 1; have c1 : V14.cell? ⟨bz, 1, none⟩ = some (.string ⟨#[]⟩) := Lib.cell_of_heap HZ.out 1
          have f2 := fx 2; have c2 : V14.cell? ⟨bz, 2, none⟩ = some (.bool false) := Lib.cell_of_heap HZ.out 2
          have f3 := fx 3; have c3 : V14.cell? ⟨bz, 3, none⟩ = some (.slice none 0 0) := Lib.cell_of_heap HZ.out 3
          have f4 := fx 4; have c4 : V14.cell? ⟨bz, 4, none⟩ = some (.slice none 0 0) := Lib.cell_of_heap HZ.out 4
          have f5 := fx 5; have c5 : V14.cell? ⟨bz, 5, none⟩ = some (.slice none 0 0) := Lib.cell_of_heap HZ.out 5
          have f6 := fx 6; have c6 : V14.cell? ⟨bz, 6, none⟩ = some (.slice none 0 0) := Lib.cell_of_heap HZ.out 6
          have f7 := fx 7; have c7 : V14.cell? ⟨bz, 7, none⟩ = some (.slice none 0 0) := Lib.cell_of_heap HZ.out 7
          clear fx
          go_simp
          have hst := stored9 V14 bz (.int .i64 k) (.string nm) (.bool g) (.slice z1 az.length j1) (.slice z2 ws.length j2) (.slice z3 ks.len j3) (.slice z4 bs.length j4) (.slice z5 cz.len j5) _ _ _ _ _ _ _ _ _ HZ.out
          have hab : bz ≠ w.heap.size := by have h1 := NZ.out; have h2 := (Array.getElem?_eq_some_iff.1 HROW.out).1; omega
          have hS' := (hst.2.block _ (Array.getElem?_eq_some_iff.1 hS).1 (Ne.symm hab)).trans hS
          refine hK _ _ (fun _ => hS') ?_
          generalize ((((((((V14.setCell ⟨bz, 0, none⟩ (.int .i64 k)).setCell ⟨bz, 1, none⟩ (.string nm)).setCell ⟨bz, 2, none⟩ (.bool g)).setCell ⟨bz, 3, none⟩ (.slice z1 az.length j1)).setCell ⟨bz, 4, none⟩ (.slice z2 ws.length j2)).setCell ⟨bz, 5, none⟩ (.slice z3 ks.len j3)).setCell ⟨bz, 6, none⟩ (.slice z4 bs.length j4)).setCell ⟨bz, 7, none⟩ (.slice z5 cz.len j5)) = V15 at hst hS' ⊢
          clear hK K hS hab c0 c1 c2 c3 c4 c5 c6 c7 f0 f1 f2 f3 f4 f5 f6 f7
          have HB' := Lib.hid (hst.2.below HB.out NZ.out)
          have G1' := Lib.hid (G1.out.frP hst.2 Z1.out)
          have G2' := Lib.hid (G2.out.frP hst.2 Z2.out)
          have HX' := Lib.hid ((hst.2.block _ (Array.getElem?_eq_some_iff.1 HX.out).1 NE.out).trans HX.out)
          have HZ' := Lib.hid hst.1
          clear hst HB G1 G2 HX HZ
          have HB := HB'; clear HB'
          have G1 := G1'; clear G1'
          have G2 := G2'; clear G2'
          have HX := HX'; clear HX'
          have HZ := HZ'; clear HZ'
          have hS := hS'; clear hS'
          refine RN.done (by kernel_rfl) ?_ _
          exact ⟨rfl, y1, i1, y2, i2, y3, i3, y4, i4, y5, i5, z1, j1, z2, j2, z3, j3, z4, j4, z5, j5, bx, bz, lo1, hi1, lo2, hi2, rfl, ⟨HB.out, HX.out, HZ.out, NX.out, NZ.out, NE.out, G1.out, G2.out, X1.out, X2.out, Z1.out, Z2.out, LE.out⟩⟩
        · go_simp
          have hb := bel1 V11 (.cells #[.int .i64 0, .string ⟨#[]⟩, .bool false, .slice none 0 0, .slice none 0 0, .slice none 0 0, .slice none 0 0, .slice none 0 0] 28)
          have HZ := Lib.hid (heap_new' V11 (.cells #[.int .i64 0, .string ⟨#[]⟩, .bool false, .slice none 0 0, .slice none 0 0, .slice none 0 0, .slice none 0 0, .slice none 0 0] 28))
          have HB' := Lib.hid (thru HB.out hb)
          have hS' := (hb.block _ (Array.getElem?_eq_some_iff.1 hS).1).trans hS
          have NZ := Lib.hid HB.out.size
          have Z1 : Hid (Out V11.heap.size lo1 hi1) := Lib.hid (.inr G1.out.2.2.1)
          have G1' := Lib.hid (G1.out.below hb)
          have HX' := Lib.hid ((hb.block _ (Array.getElem?_eq_some_iff.1 HX.out).1).trans HX.out)
          have NE : Hid (bx ≠ V11.heap.size) := Lib.hid (Nat.ne_of_lt (Array.getElem?_eq_some_iff.1 HX.out).1)
          refine hK _ _ (fun _ => hS') ?_
          clear hK K
          clear hb HB hS G1 HX
          have HB := HB'; clear HB'
          have G1 := G1'; clear G1'
          have HX := HX'; clear HX'
          have hS := hS'; clear hS'
          generalize V11.heap.size = bz at HZ NZ Z1 NE ⊢
          generalize V11.alloc (.cells #[.int .i64 0, .string ⟨#[]⟩, .bool false, .slice none 0 0, .slice none 0 0, .slice none 0 0, .slice none 0 0, .slice none 0 0] 28) = V16 at HB hS HZ G1 HX ⊢
          refine RN.all (rs := [3]) (by kernel_rfl) (by simp) ?_
          refine RN.All.cons rfl (fun K hK => ?_) RN.All.nil
          go_simp
          refine (HC.out V16 (thru HB0.out HB.out)).mono ?_
          rintro e V17 ⟨z1, j1, z2, j2, z3, j3, z4, j4, z5, j5, rfl, hb, hg⟩
          have G2' := Lib.hid (Got.of HB.out.size hb hg)
          have HB' := Lib.hid (thru HB.out hb)
          have hS' := (hb.block _ (Array.getElem?_eq_some_iff.1 hS).1).trans hS
          have LE := Lib.hid G1.out.2.2.1
          have G1' := Lib.hid (G1.out.below hb)
          have HX' := Lib.hid ((hb.block _ (Array.getElem?_eq_some_iff.1 HX.out).1).trans HX.out)
          have X2 : Hid (Out bx V16.heap.size V17.heap.size) := Lib.hid (.inl (Array.getElem?_eq_some_iff.1 HX.out).1)
          have HZ' := Lib.hid ((hb.block _ (Array.getElem?_eq_some_iff.1 HZ.out).1).trans HZ.out)
          have Z2 : Hid (Out bz V16.heap.size V17.heap.size) := Lib.hid (.inl (Array.getElem?_eq_some_iff.1 HZ.out).1)
          clear hb hg HB hS G1 HX HZ
          have G2 := G2'; clear G2'
          have HB := HB'; clear HB'
          have G1 := G1'; clear G1'
          have HX := HX'; clear HX'
          have HZ := HZ'; clear HZ'
          have hS := hS'; clear hS'
          generalize V16.heap.size = lo2 at G2 LE X2 Z2
          obtain ⟨hi2, hhi⟩ : ∃ hi2, hi2 = V17.heap.size := ⟨_, rfl⟩
          rw [← hhi] at G2 X2 Z2
          clear hhi
          refine hK _ _ (fun _ => hS) ?_
          clear hK K
          refine RN.all (rs := [6]) (by kernel_rfl) (by simp) ?_
          refine RN.All.cons rfl (fun K hK => ?_) RN.All.nil
          have fx : ∀ i, V17.frozen? ⟨bx, i, none⟩ = false := fun i => frozen_of_row _ _ _ _ _ HX.out
          have f0 := fx 0; have c0 : V17.cell? ⟨bx, 0, none⟩ = some (.int .i64 0) := Lib.cell_of_heap HX.out 0
          have f1 := fx 1; have c1 : V17.cell? ⟨bx, 1, none⟩ = some (.string ⟨#[]⟩) := Lib.cell_of_heap HX.out 1
          have f2 := fx 2; have c2 : V17.cell? ⟨bx, 2, none⟩ = some (.bool false) := Lib.cell_of_heap HX.out 2
          have f3 := fx 3; have c3 : V17.cell? ⟨bx, 3, none⟩ = some (.slice none 0 0) := Lib.cell_of_heap HX.out 3
          have f4 := fx 4; have c4 : V17.cell? ⟨bx, 4, none⟩ = some (.slice none 0 0) := Lib.cell_of_heap HX.out 4
          have f5 := fx 5; have c5 : V17.cell? ⟨bx, 5, none⟩ = some (.slice none 0 0) := Lib.cell_of_heap HX.out 5
          have f6 := fx 6; have c6 : V17.cell? ⟨bx, 6, none⟩ = some (.slice none 0 0) := Lib.cell_of_heap HX.out 6
          have f7 := fx 7; have c7 : V17.cell? ⟨bx, 7, none⟩ = some (.slice none 0 0) := Lib.cell_of_heap HX.out 7
          clear fx
          go_simp
          have hst := stored9 V17 bx (.int .i64 k) (.string nm) (.bool g) (.slice y1 az.length i1) (.slice y2 ws.length i2) (.slice y3 ks.len i3) (.slice y4 bs.length i4) (.slice y5 cz.len i5) _ _ _ _ _ _ _ _ _ HX.out
          have hab : bx ≠ w.heap.size := by have h1 := NX.out; have h2 := (Array.getElem?_eq_some_iff.1 HROW.out).1; omega
          have hS' := (hst.2.block _ (Array.getElem?_eq_some_iff.1 hS).1 (Ne.symm hab)).trans hS
          refine hK _ _ (fun _ => hS') ?_
          generalize ((((((((V17.setCell ⟨bx, 0, none⟩ (.int .i64 k)).setCell ⟨bx, 1, none⟩ (.string nm)).setCell ⟨bx, 2, none⟩ (.bool g)).setCell ⟨bx, 3, none⟩ (.slice y1 az.length i1)).setCell ⟨bx, 4, none⟩ (.slice y2 ws.length i2)).setCell ⟨bx, 5, none⟩ (.slice y3 ks.len i3)).setCell ⟨bx, 6, none⟩ (.slice y4 bs.length i4)).setCell ⟨bx, 7, none⟩ (.slice y5 cz.len i5)) = V18 at hst hS' ⊢
          clear hK K hS hab c0 c1 c2 c3 c4 c5 c6 c7 f0 f1 f2 f3 f4 f5 f6 f7
          have HB' := Lib.hid (hst.2.below HB.out NX.out)
          have G1' := Lib.hid (G1.out.frP hst.2 X1.out)
          have G2' := Lib.hid (G2.out.frP hst.2 X2.out)
          have HZ' := Lib.hid ((hst.2.block _ (Array.getElem?_eq_some_iff.1 HZ.out).1 (Ne.symm NE.out)).trans HZ.out)
          have HX' := Lib.hid hst.1
          clear hst HB G1 G2 HX HZ
          have HB := HB'; clear HB'
          have G1 := G1'; clear G1'
          have G2 := G2'; clear G2'
          have HX := HX'; clear HX'
          have HZ := HZ'; clear HZ'
          have hS := hS'; clear hS'
          refine RN.all (rs := [7]) (by kernel_rfl) (by simp) ?_
          refine RN.All.cons rfl (fun K hK => ?_) RN.All.nil
          have fx : ∀ i, V18.frozen? ⟨bz, i, none⟩ = false := fun i => frozen_of_row _ _ _ _ _ HZ.out
          have f0 := fx 0; have c0 : V18.cell? ⟨bz, 0, none⟩ = some (.int .i64 0) := Lib.cell_of_heap HZ.out 0
          have f1 := fx 1; have c1 : V18.cell? ⟨bz, 1, none⟩ = some (.string ⟨#[]⟩) := Lib.cell_of_heap HZ.out 1
          have f2 := fx 2; have c2 : V18.cell? ⟨bz, 2, none⟩ = some (.bool false) := Lib.cell_of_heap HZ.out 2
          have f3 := fx 3; have c3 : V18.cell? ⟨bz, 3, none⟩ = some (.slice none 0 0) := Lib.cell_of_heap HZ.out 3
          have f4 := fx 4; have c4 : V18.cell? ⟨bz, 4, none⟩ = some (.slice none 0 0) := Lib.cell_of_heap HZ.out 4
          have f5 := fx 5; have c5 : V18.cell? ⟨bz, 5, none⟩ = some (.slice none 0 0) := Lib.cell_of_heap HZ.out 5
          have f6 := fx 6; have c6 : V18.cell? ⟨bz, 6, none⟩ = some (.slice none 0 0) := Lib.cell_of_heap HZ.out 6
          have f7 := fx 7; have c7 : V18.cell? ⟨bz, 7, none⟩ = some (.slice none 0 0) := Lib.cell_of_heap HZ.out 7
          clear fx
          go_simp
          have hst := stored9 V18 bz (.int .i64 k) (.string nm) (.bool g) (.slice z1 az.length j1) (.slice z2 ws.length j2) (.slice z3 ks.len j3) (.slice z4 bs.length j4) (.slice z5 cz.len j5) _ _ _ _ _ _ _ _ _ HZ.out
          have hab : bz ≠ w.heap.size := by have h1 := NZ.out; have h2 := (Array.getElem?_eq_some_iff.1 HROW.out).1; omega
          have hS' := (hst.2.block _ (Array.getElem?_eq_some_iff.1 hS).1 (Ne.symm hab)).trans hS
          refine hK _ _ (fun _ => hS') ?_
          generalize ((((((((V18.setCell ⟨bz, 0, none⟩ (.int .i64 k)).setCell ⟨bz, 1, none⟩ (.string nm)).setCell ⟨bz, 2, none⟩ (.bool g)).setCell ⟨bz, 3, none⟩ (.slice z1 az.length j1)).setCell ⟨bz, 4, none⟩ (.slice z2 ws.length j2)).setCell ⟨bz, 5, none⟩ (.slice z3 ks.len j3)).setCell ⟨bz, 6, none⟩ (.slice z4 bs.length j4)).setCell ⟨bz, 7, none⟩ (.slice z5 cz.len j5)) = V19 at hst hS' ⊢
          clear hK K hS hab c0 c1 c2 c3 c4 c5 c6 c7 f0 f1 f2 f3 f4 f5 f6 f7
          have HB' := Lib.hid (hst.2.below HB.out NZ.out)
          have G1' := Lib.hid (G1.out.frP hst.2 Z1.out)
          have G2' := Lib.hid (G2.out.frP hst.2 Z2.out)
          have HX' := Lib.hid ((hst.2.block _ (Array.getElem?_eq_some_iff.1 HX.out).1 NE.out).trans HX.out)
          have HZ' := Lib.hid hst.1
          clear hst HB G1 G2 HX HZ
          have HB := HB'; clear HB'
          have G1 := G1'; clear G1'
          have G2 := G2'; clear G2'
          have HX := HX'; clear HX'
          have HZ := HZ'; clear HZ'
          have hS := hS'; clear hS'
          refine RN.done (by kernel_rfl) ?_ _
          exact ⟨rfl, y1, i1, y2, i2, y3, i3, y4, i4, y5, i5, z1, j1, z2, j2, z3, j3, z4, j4, z5, j5, bx, bz, lo1, hi1, lo2, hi2, rfl, ⟨HB.out, HX.out, HZ.out, NX.out, NZ.out, NE.out, G1.out, G2.out, X1.out, X2.out, Z1.out, Z2.out, LE.out⟩⟩
      · go_simp
        have hb := bel1 V1 (.cells #[.int .i64 0, .string ⟨#[]⟩, .bool false, .slice none 0 0, .slice none 0 0, .slice none 0 0, .slice none 0 0, .slice none 0 0] 28)
        have HZ := Lib.hid (heap_new' V1 (.cells #[.int .i64 0, .string ⟨#[]⟩, .bool false, .slice none 0 0, .slice none 0 0, .slice none 0 0, .slice none 0 0, .slice none 0 0] 28))
        have HB' := Lib.hid (thru HB.out hb)
        have hS' := (hb.block _ (Array.getElem?_eq_some_iff.1 hS).1).trans hS
        have NZ := Lib.hid HB.out.size
        have Z1 : Hid (Out V1.heap.size lo1 hi1) := Lib.hid (.inr G1.out.2.2.1)
        have G1' := Lib.hid (G1.out.below hb)
        refine hK _ _ (fun _ => hS') ?_
        clear hK K
        clear hb HB hS G1
        have HB := HB'; clear HB'
        have G1 := G1'; clear G1'
        have hS := hS'; clear hS'
        generalize V1.heap.size = bz at HZ NZ Z1 ⊢
        generalize V1.alloc (.cells #[.int .i64 0, .string ⟨#[]⟩, .bool false, .slice none 0 0, .slice none 0 0, .slice none 0 0, .slice none 0 0, .slice none 0 0] 28) = V20 at HB hS HZ G1 ⊢
        refine RN.all (rs := [3, 4]) (by kernel_rfl) (by simp) ?_
        refine RN.All.cons rfl (fun K hK => ?_) (RN.All.cons rfl (fun K hK => ?_) RN.All.nil)
        · go_simp
          refine (HC.out V20 (thru HB0.out HB.out)).mono ?_
          rintro e V21 ⟨z1, j1, z2, j2, z3, j3, z4, j4, z5, j5, rfl, hb, hg⟩
          have G2' := Lib.hid (Got.of HB.out.size hb hg)
          have HB' := Lib.hid (thru HB.out hb)
          have hS' := (hb.block _ (Array.getElem?_eq_some_iff.1 hS).1).trans hS
          have LE := Lib.hid G1.out.2.2.1
          have G1' := Lib.hid (G1.out.below hb)
          have HZ' := Lib.hid ((hb.block _ (Array.getElem?_eq_some_iff.1 HZ.out).1).trans HZ.out)
          have Z2 : Hid (Out bz V20.heap.size V21.heap.size) := Lib.hid (.inl (Array.getElem?_eq_some_iff.1 HZ.out).1)
          clear hb hg HB hS G1 HZ
          have G2 := G2'; clear G2'
          have HB := HB'; clear HB'
          have G1 := G1'; clear G1'
          have HZ := HZ'; clear HZ'
          have hS := hS'; clear hS'
          generalize V20.heap.size = lo2 at G2 LE Z2
          obtain ⟨hi2, hhi⟩ : ∃ hi2, hi2 = V21.heap.size := ⟨_, rfl⟩
          rw [← hhi] at G2 Z2
          clear hhi
          refine hK _ _ (fun _ => hS) ?_
          clear hK K
          refine RN.all (rs := [4]) (by kernel_rfl) (by simp) ?_
          refine RN.All.cons rfl (fun K hK => ?_) RN.All.nil
          go_simp
          have hb := bel1 V21 (.cells #[.int .i64 0, .string ⟨#[]⟩, .bool false, .slice none 0 0, .slice none 0 0, .slice none 0 0, .slice none 0 0, .slice none 0 0] 28)
          have HX := Lib.hid (heap_new' V21 (.cells #[.int .i64 0, .string ⟨#[]⟩, .bool false, .slice none 0 0, .slice none 0 0, .slice none 0 0, .slice none 0 0, .slice none 0 0] 28))
          have HB' := Lib.hid (thru HB.out hb)
          have hS' := (hb.block _ (Array.getElem?_eq_some_iff.1 hS).1).trans hS
          have NX := Lib.hid HB.out.size
          have X1 : Hid (Out V21.heap.size lo1 hi1) := Lib.hid (.inr G1.out.2.2.1)
          have G1' := Lib.hid (G1.out.below hb)
          have X2 : Hid (Out V21.heap.size lo2 hi2) := Lib.hid (.inr G2.out.2.2.1)
          have G2' := Lib.hid (G2.out.below hb)
          have HZ' := Lib.hid ((hb.block _ (Array.getElem?_eq_some_iff.1 HZ.out).1).trans HZ.out)
          have NE : Hid (V21.heap.size ≠ bz) := Lib.hid (Nat.ne_of_gt (Array.getElem?_eq_some_iff.1 HZ.out).1)
          refine hK _ _ (fun _ => hS') ?_
          clear hK K
          clear hb HB hS G1 G2 HZ
          have HB := HB'; clear HB'
          have G1 := G1'; clear G1'
          have G2 := G2'; clear G2'
          have HZ := HZ'; clear HZ'
          have hS := hS'; clear hS'
          generalize V21.heap.size = bx at HX NX X1 X2 NE ⊢
          generalize V21.alloc (.cells #[.int .i64 0, .string ⟨#[]⟩, .bool false, .slice none 0 0, .slice none 0 0, .slice none 0 0, .slice none 0 0, .slice none 0 0] 28) = V22 at HB hS HX G1 G2 HZ ⊢
          refine RN.all (rs := [6]) (by kernel_rfl) (by simp) ?_
          refine RN.All.cons rfl (fun K hK => ?_) RN.All.nil
          have fx : ∀ i, V22.frozen? ⟨bx, i, none⟩ = false := fun i => frozen_of_row _ _ _ _ _ HX.out
          have f0 := fx 0; have c0 : V22.cell? ⟨bx, 0, none⟩ = some (.int .i64 0) := Lib.cell_of_heap HX.out 0
          have f1 := fx 1; have c1 : V22.cell? ⟨bx, 1, none⟩ = some (.string ⟨#[]⟩) := Lib.cell_of_heap HX.out 1
          have f2 := fx 2; have c2 : V22.cell? ⟨bx, 2, none⟩ = some (.bool false) := Lib.cell_of_heap HX.out 2
          have f3 := fx 3; have c3 : V22.cell? ⟨bx, 3, none⟩ = some (.slice none 0 0) := Lib.cell_of_heap HX.out 3
          have f4 := fx 4; have c4 : V22.cell? ⟨bx, 4, none⟩ = some (.slice none 0 0) := Lib.cell_of_heap HX.out 4
          have f5 := fx 5; have c5 : V22.cell? ⟨bx, 5, none⟩ = some (.slice none 0 0) := Lib.cell_of_heap HX.out 5
          have f6 := fx 6; have c6 : V22.cell? ⟨bx, 6, none⟩ = some (.slice none 0 0) := Lib.cell_of_heap HX.out 6
          have f7 := fx 7; have c7 : V22.cell? ⟨bx, 7, none⟩ = some (.slice none 0 0) := Lib.cell_of_heap HX.out 7
          clear fx
          go_simp
          have hst := stored9 V22 bx (.int .i64 k) (.string nm) (.bool g) (.slice y1 az.length i1) (.slice y2 ws.length i2) (.slice y3 ks.len i3) (.slice y4 bs.length i4) (.slice y5 cz.len i5) _ _ _ _ _ _ _ _ _ HX.out
          have hab : bx ≠ w.heap.size := by have h1 := NX.out; have h2 := (Array.getElem?_eq_some_iff.1 HROW.out).1; omega
          have hS' := (hst.2.block _ (Array.getElem?_eq_some_iff.1 hS).1 (Ne.symm hab)).trans hS
          refine hK _ _ (fun _ => hS') ?_
          generalize ((((((((V22.setCell ⟨bx, 0, none⟩ (.int .i64 k)).setCell ⟨bx, 1, none⟩ (.string nm)).setCell ⟨bx, 2, none⟩ (.bool g)).setCell ⟨bx, 3, none⟩ (.slice y1 az.length i1)).setCell ⟨bx, 4, none⟩ (.slice y2 ws.length i2)).setCell ⟨bx, 5, none⟩ (.slice y3 ks.len i3)).setCell ⟨bx, 6, none⟩ (.slice y4 bs.length i4)).setCell ⟨bx, 7, none⟩ (.slice y5 cz.len i5)) = V23 at hst hS' ⊢
          clear hK K hS hab c0 c1 c2 c3 c4 c5 c6 c7 f0 f1 f2 f3 f4 f5 f6 f7
          have HB' := Lib.hid (hst.2.below HB.out NX.out)
          have G1' := Lib.hid (G1.out.frP hst.2 X1.out)
          have G2' := Lib.hid (G2.out.frP hst.2 X2.out)
          have HZ' := Lib.hid ((hst.2.block _ (Array.getElem?_eq_some_iff.1 HZ.out).1 (Ne.symm NE.out)).trans HZ.out)
          have HX' := Lib.hid hst.1
          clear hst HB G1 G2 HX HZ
          have HB := HB'; clear HB'
          have G1 := G1'; clear G1'
          have G2 := G2'; clear G2'
          have HX := HX'; clear HX'
          have HZ := HZ'; clear HZ'
          have hS := hS'; clear hS'
          refine RN.all (rs := [7]) (by kernel_rfl) (by simp) ?_
          refine RN.All.cons rfl (fun K hK => ?_) RN.All.nil
          have fx : ∀ i, V23.frozen? ⟨bz, i, none⟩ = false := fun i => frozen_of_row _ _ _ _ _ HZ.out
          have f0 := fx 0; have c0 : V23.cell? ⟨bz, 0, none⟩ = some (.int .i64 0) := Lib.cell_of_heap HZ.out 0
          have f1 := fx 1; have c1 : V23.cell? ⟨bz, 1, none⟩ = some (.string ⟨#[]⟩) := Lib.cell_of_heap HZ.out 1
          have f2 := fx 2; have c2 : V23.cell? ⟨bz, 2, none⟩ = some (.bool false) := Lib.cell_of_heap HZ.out 2
          have f3 := fx 3; have c3 : V23.cell? ⟨bz, 3, none⟩ = some (.slice none 0 0) := Lib.cell_of_heap HZ.out 3
          have f4 := fx 4; have c4 : V23.cell? ⟨bz, 4, none⟩ = some (.slice none 0 0) := Lib.cell_of_heap HZ.out 4
          have f5 := fx 5; have c5 : V23.cell? ⟨bz, 5, none⟩ = some (.slice none 0 0) := Lib.cell_of_heap HZ.out 5
          have f6 := fx 6; have c6 : V23.cell? ⟨bz, 6, none⟩ = some (.slice none 0 0) := Lib.cell_of_heap HZ.out 6
          have f7 := fx 7; have c7 : V23.cell? ⟨bz, 7, none⟩ = some (.slice none 0 0) := Lib.cell_of_heap HZ.out 7
          clear fx
          go_simp
          have hst := stored9 V23 bz (.int .i64 k) (.string nm) (.bool g) (.slice z1 az.length j1) (.slice z2 ws.length j2) (.slice z3 ks.len j3) (.slice z4 bs.length j4) (.slice z5 cz.len j5) _ _ _ _ _ _ _ _ _ HZ.out
          have hab : bz ≠ w.heap.size := by have h1 := NZ.out; have h2 := (Array.getElem?_eq_some_iff.1 HROW.out).1; omega
          have hS' := (hst.2.block _ (Array.getElem?_eq_some_iff.1 hS).1 (Ne.symm hab)).trans hS
          refine hK _ _ (fun _ => hS') ?_
          generalize ((((((((V23.setCell ⟨bz, 0, none⟩ (.int .i64 k)).setCell ⟨bz, 1, none⟩ (.string nm)).setCell ⟨bz, 2, none⟩ (.bool g)).setCell ⟨bz, 3, none⟩ (.slice z1 az.length j1)).setCell ⟨bz, 4, none⟩ (.slice z2 ws.length j2)).setCell ⟨bz, 5, none⟩ (.slice z3 ks.len j3)).setCell ⟨bz, 6, none⟩ (.slice z4 bs.length j4)).setCell ⟨bz, 7, none⟩ (.slice z5 cz.len j5)) = V24 at hst hS' ⊢
          clear hK K hS hab c0 c1 c2 c3 c4 c5 c6 c7 f0 f1 f2 f3 f4 f5 f6 f7
          have HB' := Lib.hid (hst.2.below HB.out NZ.out)
          have G1' := Lib.hid (G1.out.frP hst.2 Z1.out)
          have G2' := Lib.hid (G2.out.frP hst.2 Z2.out)
          have HX' := Lib.hid ((hst.2.block _ (Array.getElem?_eq_some_iff.1 HX.out).1 NE.out).trans HX.out)
          have HZ' := Lib.hid hst.1
          clear hst HB G1 G2 HX HZ
          have HB := HB'; clear HB'
          have G1 := G1'; clear G1'
          have G2 := G2'; clear G2'
          have HX := HX'; clear HX'
          have HZ := HZ'; clear HZ'
          have hS := hS'; clear hS'
          refine RN.done (by kernel_rfl) ?_ _
          exact ⟨rfl, y1, i1, y2, i2, y3, i3, y4, i4, y5, i5, z1, j1, z2, j2, z3, j3, z4, j4, z5, j5, bx, bz, lo1, hi1, lo2, hi2, rfl, ⟨HB.out, HX.out, HZ.out, NX.out, NZ.out, NE.out, G1.out, G2.out, X1.out, X2.out, Z1.out, Z2.out, LE.out⟩⟩
        · go_simp
          have hb := bel1 V20 (.cells #[.int .i64 0, .string ⟨#[]⟩, .bool false, .slice none 0 0, .slice none 0 0, .slice none 0 0, .slice none 0 0, .slice none 0 0] 28)
          have HX := Lib.hid (heap_new' V20 (.cells #[.int .i64 0, .string ⟨#[]⟩, .bool false, .slice none 0 0, .slice none 0 0, .slice none 0 0, .slice none 0 0, .slice none 0 0] 28))
          have HB' := Lib.hid (thru HB.out hb)
          have hS' := (hb.block _ (Array.getElem?_eq_some_iff.1 hS).1).trans hS
          have NX := Lib.hid HB.out.size
          have X1 : Hid (Out V20.heap.size lo1 hi1) := Lib.hid (.inr G1.out.2.2.1)
          have G1' := Lib.hid (G1.out.below hb)
          have HZ' := Lib.hid ((hb.block _ (Array.getElem?_eq_some_iff.1 HZ.out).1).trans HZ.out)
          have NE : Hid (V20.heap.size ≠ bz) := Lib.hid (Nat.ne_of_gt (Array.getElem?_eq_some_iff.1 HZ.out).1)
          refine hK _ _ (fun _ => hS') ?_
          clear hK K
          clear hb HB hS G1 HZ
          have HB := HB'; clear HB'
          have G1 := G1'; clear G1'
          have HZ := HZ'; clear HZ'
          have hS := hS'; clear hS'
          generalize V20.heap.size = bx at HX NX X1 NE ⊢
          generalize V20.alloc (.cells #[.int .i64 0, .string ⟨#[]⟩, .bool false, .slice none 0 0, .slice none 0 0, .slice none 0 0, .slice none 0 0, .slice none 0 0] 28) = V25 at HB hS HX G1 HZ ⊢
          refine RN.all (rs := [3]) (by kernel_rfl) (by simp) ?_
          refine RN.All.cons rfl (fun K hK => ?_) RN.All.nil
          go_simp
          refine (HC.out V25 (thru HB0.out HB.out)).mono ?_
          rintro e V26 ⟨z1, j1, z2, j2, z3, j3, z4, j4, z5, j5, rfl, hb, hg⟩
          have G2' := Lib.hid (Got.of HB.out.size hb hg)
          have HB' := Lib.hid (thru HB.out hb)
          have hS' := (hb.block _ (Array.getElem?_eq_some_iff.1 hS).1).trans hS
          have LE := Lib.hid G1.out.2.2.1
          have G1' := Lib.hid (G1.out.below hb)
          have HX' := Lib.hid ((hb.block _ (Array.getElem?_eq_some_iff.1 HX.out).1).trans HX.out)
          have X2 : Hid (Out bx V25.heap.size V26.heap.size) := Lib.hid (.inl (Array.getElem?_eq_some_iff.1 HX.out).1)
          have HZ' := Lib.hid ((hb.block _ (Array.getElem?_eq_some_iff.1 HZ.out).1).trans HZ.out)
          have Z2 : Hid (Out bz V25.heap.size V26.heap.size) := Lib.hid (.inl (Array.getElem?_eq_some_iff.1 HZ.out).1)
          clear hb hg HB hS G1 HX HZ
          have G2 := G2'; clear G2'
          have HB := HB'; clear HB'
          have G1 := G1'; clear G1'
          have HX := HX'; clear HX'
          have HZ := HZ'; clear HZ'
          have hS := hS'; clear hS'
          generalize V25.heap.size = lo2 at G2 LE X2 Z2
          obtain ⟨hi2, hhi⟩ : ∃ hi2, hi2 = V26.heap.size := ⟨_, rfl⟩
          rw [← hhi] at G2 X2 Z2
          clear hhi
          refine hK _ _ (fun _ => hS) ?_
          clear hK K
          refine RN.all (rs := [6]) (by kernel_rfl) (by simp) ?_
          refine RN.All.cons rfl (fun K hK => ?_) RN.All.nil
          have fx : ∀ i, V26.frozen? ⟨bx, i, none⟩ = false := fun i => frozen_of_row _ _ _ _ _ HX.out
          have f0 := fx 0; have c0 : V26.cell? ⟨bx, 0, none⟩ = some (.int .i64 0) := Lib.cell_of_heap HX.out 0
          have f1 := fx 1; have c1 : V26.cell? ⟨bx, 1, none⟩ = some (.string ⟨#[]⟩) := Lib.cell_of_heap HX.out 1
          have f2 := fx 2; have c2 : V26.cell? ⟨bx, 2, none⟩ = some (.bool false) := Lib.cell_of_heap HX.out 2
          have f3 := fx 3; have c3 : V26.cell? ⟨bx, 3, none⟩ = some (.slice none 0 0) := Lib.cell_of_heap HX.out 3
          have f4 := fx 4; have c4 : V26.cell? ⟨bx, 4, none⟩ = some (.slice none 0 0) := Lib.cell_of_heap HX.out 4
          have f5 := fx 5; have c5 : V26.cell? ⟨bx, 5, none⟩ = some (.slice none 0 0) := Lib.cell_of_heap HX.out 5
          have f6 := fx 6; have c6 : V26.cell? ⟨bx, 6, none⟩ = some (.slice none 0 0) := Lib.cell_of_heap HX.out 6
          have f7 := fx 7; have c7 : V26.cell? ⟨bx, 7, none⟩ = some (.slice none 0 0) := Lib.cell_of_heap HX.out 7
          clear fx
          go_simp
          have hst := stored9 V26 bx (.int .i64 k) (.string nm) (.bool g) (.slice y1 az.length i1) (.slice y2 ws.length i2) (.slice y3 ks.len i3) (.slice y4 bs.length i4) (.slice y5 cz.len i5) _ _ _ _ _ _ _ _ _ HX.out
          have hab : bx ≠ w.heap.size := by have h1 := NX.out; have h2 := (Array.getElem?_eq_some_iff.1 HROW.out).1; omega
          have hS' := (hst.2.block _ (Array.getElem?_eq_some_iff.1 hS).1 (Ne.symm hab)).trans hS
          refine hK _ _ (fun _ => hS') ?_
          generalize ((((((((V26.setCell ⟨bx, 0, none⟩ (.int .i64 k)).setCell ⟨bx, 1, none⟩ (.string nm)).setCell ⟨bx, 2, none⟩ (.bool g)).setCell ⟨bx, 3, none⟩ (.slice y1 az.length i1)).setCell ⟨bx, 4, none⟩ (.slice y2 ws.length i2)).setCell ⟨bx, 5, none⟩ (.slice y3 ks.len i3)).setCell ⟨bx, 6, none⟩ (.slice y4 bs.length i4)).setCell ⟨bx, 7, none⟩ (.slice y5 cz.len i5)) = V27 at hst hS' ⊢
          clear hK K hS hab c0 c1 c2 c3 c4 c5 c6 c7 f0 f1 f2 f3 f4 f5 f6 f7
          have HB' := Lib.hid (hst.2.below HB.out NX.out)
          have G1' := Lib.hid (G1.out.frP hst.2 X1.out)
          have G2' := Lib.hid (G2.out.frP hst.2 X2.out)
          have HZ' := Lib.hid ((hst.2.block _ (Array.getElem?_eq_some_iff.1 HZ.out).1 (Ne.symm NE.out)).trans HZ.out)
          have HX' := Lib.hid hst.1
          clear hst HB G1 G2 HX HZ
          have HB := HB'; clear HB'
          have G1 := G1'; clear G1'
          have G2 := G2'; clear G2'
          have HX := HX'; clear HX'
          have HZ := HZ'; clear HZ'
          have hS := hS'; clear hS'
          refine RN.all (rs := [7]) (by kernel_rfl) (by simp) ?_
          refine RN.All.cons rfl (fun K hK => ?_) RN.All.nil
          have fx : ∀ i, V27.frozen? ⟨bz, i, none⟩ = false := fun i => frozen_of_row _ _ _ _ _ HZ.out
          have f0 := fx 0; have c0 : V27.cell? ⟨bz, 0, none⟩ = some (.int .i64 0) := Lib.cell_of_heap HZ.out 0
          have f1 := fx 1; have c1 : V27.cell? ⟨bz, 1, none⟩ = some (.string ⟨#[]⟩) := Lib.cell_of_heap HZ.out 1
          have f2 := fx 2; have c2 : V27.cell? ⟨bz, 2, none⟩ = some (.bool false) := Lib.cell_of_heap HZ.out 2
          have f3 := fx 3; have c3 : V27.cell? ⟨bz, 3, none⟩ = some (.slice none 0 0) := Lib.cell_of_heap HZ.out 3
          have f4 := fx 4; have c4 : V27.cell? ⟨bz, 4, none⟩ = some (.slice none 0 0) := Lib.cell_of_heap HZ.out 4
          have f5 := fx 5; have c5 : V27.cell? ⟨bz, 5, none⟩ = some (.slice none 0 0) := Lib.cell_of_heap HZ.out 5
          have f6 := fx 6; have c6 : V27.cell? ⟨bz, 6, none⟩ = some (.slice none 0 0) := Lib.cell_of_heap HZ.out 6
          have f7 := fx 7; have c7 : V27.cell? ⟨bz, 7, none⟩ = some (.slice none 0 0) := Lib.cell_of_heap HZ.out 7
          clear fx
          go_simp
          have hst := stored9 V27 bz (.int .i64 k) (.string nm) (.bool g) (.slice z1 az.length j1) (.slice z2 ws.length j2) (.slice z3 ks.len j3) (.slice z4 bs.length j4) (.slice z5 cz.len j5) _ _ _ _ _ _ _ _ _ HZ.out
          have hab : bz ≠ w.heap.size := by have h1 := NZ.out; have h2 := (Array.getElem?_eq_some_iff.1 HROW.out).1; omega
          have hS' := (hst.2.block _ (Array.getElem?_eq_some_iff.1 hS).1 (Ne.symm hab)).trans hS
          refine hK _ _ (fun _ => hS') ?_
          generalize ((((((((V27.setCell ⟨bz, 0, none⟩ (.int .i64 k)).setCell ⟨bz, 1, none⟩ (.string nm)).setCell ⟨bz, 2, none⟩ (.bool g)).setCell ⟨bz, 3, none⟩ (.slice z1 az.length j1)).setCell ⟨bz, 4, none⟩ (.slice z2 ws.length j2)).setCell ⟨bz, 5, none⟩ (.slice z3 ks.len j3)).setCell ⟨bz, 6, none⟩ (.slice z4 bs.length j4)).setCell ⟨bz, 7, none⟩ (.slice z5 cz.len j5)) = V28 at hst hS' ⊢
          clear hK K hS hab c0 c1 c2 c3 c4 c5 c6 c7 f0 f1 f2 f3 f4 f5 f6 f7
          have HB' := Lib.hid (hst.2.below HB.out NZ.out)
          have G1' := Lib.hid (G1.out.frP hst.2 Z1.out)
          have G2' := Lib.hid (G2.out.frP hst.2 Z2.out)
          have HX' := Lib.hid ((hst.2.block _ (Array.getElem?_eq_some_iff.1 HX.out).1 NE.out).trans HX.out)
          have HZ' := Lib.hid hst.1
          clear hst HB G1 G2 HX HZ
          have HB := HB'; clear HB'
          have G1 := G1'; clear G1'
          have G2 := G2'; clear G2'
          have HX := HX'; clear HX'
          have HZ := HZ'; clear HZ'
          have hS := hS'; clear hS'
          refine RN.done (by kernel_rfl) ?_ _
          exact ⟨rfl, y1, i1, y2, i2, y3, i3, y4, i4, y5, i5, z1, j1, z2, j2, z3, j3, z4, j4, z5, j5, bx, bz, lo1, hi1, lo2, hi2, rfl, ⟨HB.out, HX.out, HZ.out, NX.out, NZ.out, NE.out, G1.out, G2.out, X1.out, X2.out, Z1.out, Z2.out, LE.out⟩⟩
    · go_simp
      have hb := bel1 V0 (.cells #[.int .i64 0, .string ⟨#[]⟩, .bool false, .slice none 0 0, .slice none 0 0, .slice none 0 0, .slice none 0 0, .slice none 0 0] 28)
      have HX := Lib.hid (heap_new' V0 (.cells #[.int .i64 0, .string ⟨#[]⟩, .bool false, .slice none 0 0, .slice none 0 0, .slice none 0 0, .slice none 0 0, .slice none 0 0] 28))
      have HB' := Lib.hid (thru HB.out hb)
      have hS' := (hb.block _ (Array.getElem?_eq_some_iff.1 hS).1).trans hS
      have NX := Lib.hid HB.out.size
      refine hK _ _ (fun _ => hS') ?_
      clear hK K
      clear hb HB hS
      have HB := HB'; clear HB'
      have hS := hS'; clear hS'
      generalize V0.heap.size = bx at HX NX ⊢
      generalize V0.alloc (.cells #[.int .i64 0, .string ⟨#[]⟩, .bool false, .slice none 0 0, .slice none 0 0, .slice none 0 0, .slice none 0 0, .slice none 0 0] 28) = V29 at HB hS HX ⊢
      refine RN.all (rs := [1, 5]) (by kernel_rfl) (by simp) ?_
      refine RN.All.cons rfl (fun K hK => ?_) (RN.All.cons rfl (fun K hK => ?_) RN.All.nil)
      · go_simp
        refine (HC.out V29 (thru HB0.out HB.out)).mono ?_
        rintro e V30 ⟨y1, i1, y2, i2, y3, i3, y4, i4, y5, i5, rfl, hb, hg⟩
        have G1' := Lib.hid (Got.of HB.out.size hb hg)
        have HB' := Lib.hid (thru HB.out hb)
        have hS' := (hb.block _ (Array.getElem?_eq_some_iff.1 hS).1).trans hS
        have HX' := Lib.hid ((hb.block _ (Array.getElem?_eq_some_iff.1 HX.out).1).trans HX.out)
        have X1 : Hid (Out bx V29.heap.size V30.heap.size) := Lib.hid (.inl (Array.getElem?_eq_some_iff.1 HX.out).1)
        clear hb hg HB hS HX
        have G1 := G1'; clear G1'
        have HB := HB'; clear HB'
        have HX := HX'; clear HX'
        have hS := hS'; clear hS'
        generalize V29.heap.size = lo1 at G1 X1
        obtain ⟨hi1, hhi⟩ : ∃ hi1, hi1 = V30.heap.size := ⟨_, rfl⟩
        rw [← hhi] at G1 X1
        clear hhi
        refine hK _ _ (fun _ => hS) ?_
        clear hK K
        refine RN.all (rs := [3, 5]) (by kernel_rfl) (by simp) ?_
        refine RN.All.cons rfl (fun K hK => ?_) (RN.All.cons rfl (fun K hK => ?_) RN.All.nil)
        · go_simp
          refine (HC.out V30 (thru HB0.out HB.out)).mono ?_
          rintro e V31 ⟨z1, j1, z2, j2, z3, j3, z4, j4, z5, j5, rfl, hb, hg⟩
          have G2' := Lib.hid (Got.of HB.out.size hb hg)
          have HB' := Lib.hid (thru HB.out hb)
          have hS' := (hb.block _ (Array.getElem?_eq_some_iff.1 hS).1).trans hS
          have LE := Lib.hid G1.out.2.2.1
          have G1' := Lib.hid (G1.out.below hb)
          have HX' := Lib.hid ((hb.block _ (Array.getElem?_eq_some_iff.1 HX.out).1).trans HX.out)
          have X2 : Hid (Out bx V30.heap.size V31.heap.size) := Lib.hid (.inl (Array.getElem?_eq_some_iff.1 HX.out).1)
          clear hb hg HB hS G1 HX
          have G2 := G2'; clear G2'
          have HB := HB'; clear HB'
          have G1 := G1'; clear G1'
          have HX := HX'; clear HX'
          have hS := hS'; clear hS'
          generalize V30.heap.size = lo2 at G2 LE X2
          obtain ⟨hi2, hhi⟩ : ∃ hi2, hi2 = V31.heap.size := ⟨_, rfl⟩
          rw [← hhi] at G2 X2
          clear hhi
          refine hK _ _ (fun _ => hS) ?_
          clear hK K
          refine RN.all (rs := [5]) (by kernel_rfl) (by simp) ?_
          refine RN.All.cons rfl (fun K hK => ?_) RN.All.nil
          go_simp
          have hb := bel1 V31 (.cells #[.int .i64 0, .string ⟨#[]⟩, .bool false, .slice none 0 0, .slice none 0 0, .slice none 0 0, .slice none 0 0, .slice none 0 0] 28)
          have HZ := Lib.hid (heap_new' V31 (.cells #[.int .i64 0, .string ⟨#[]⟩, .bool false, .slice none 0 0, .slice none 0 0, .slice none 0 0, .slice none 0 0, .slice none 0 0] 28))
          have HB' := Lib.hid (thru HB.out hb)
          have hS' := (hb.block _ (Array.getElem?_eq_some_iff.1 hS).1).trans hS
          have NZ := Lib.hid HB.out.size
          have Z1 : Hid (Out V31.heap.size lo1 hi1) := Lib.hid (.inr G1.out.2.2.1)
          have G1' := Lib.hid (G1.out.below hb)
          have Z2 : Hid (Out V31.heap.size lo2 hi2) := Lib.hid (.inr G2.out.2.2.1)
          have G2' := Lib.hid (G2.out.below hb)
          have HX' := Lib.hid ((hb.block _ (Array.getElem?_eq_some_iff.1 HX.out).1).trans HX.out)
          have NE : Hid (bx ≠ V31.heap.size) := Lib.hid (Nat.ne_of_lt (Array.getElem?_eq_some_iff.1 HX.out).1)
          refine hK _ _ (fun _ => hS') ?_
          clear hK K
          clear hb HB hS G1 G2 HX
          have HB := HB'; clear HB'
          have G1 := G1'; clear G1'
          have G2 := G2'; clear G2'
          have HX := HX'; clear HX'
          have hS := hS'; clear hS'
          generalize V31.heap.size = bz at HZ NZ Z1 Z2 NE ⊢
          generalize V31.alloc (.cells #[.int .i64 0, .string ⟨#[]⟩, .bool false, .slice none 0 0, .slice none 0 0, .slice none 0 0, .slice none 0 0, .slice none 0 0] 28) = V32 at HB hS HZ G1 G2 HX ⊢
          refine RN.all (rs := [6]) (by kernel_rfl) (by simp) ?_
          refine RN.All.cons rfl (fun K hK => ?_) RN.All.nil
          have fx : ∀ i, V32.frozen? ⟨bx, i, none⟩ = false := fun i => frozen_of_row _ _ _ _ _ HX.out
          have f0 := fx 0; have c0 : V32.cell? ⟨bx, 0, none⟩ = some (.int .i64 0) := Lib.cell_of_heap HX.out 0
          have f1 := fx 1; have c1 : V32.cell? ⟨bx, 1, none⟩ = some (.string ⟨#[]⟩) := Lib.cell_of_heap HX.out 1
          have f2 := fx 2; have c2 : V32.cell? ⟨bx, 2, none⟩ = some (.bool false) := Lib.cell_of_heap HX.out 2
          have f3 := fx 3; have c3 : V32.cell? ⟨bx, 3, none⟩ = some (.slice none 0 0) := Lib.cell_of_heap HX.out 3
          have f4 := fx 4; have c4 : V32.cell? ⟨bx, 4, none⟩ = some (.slice none 0 0) := Lib.cell_of_heap HX.out 4
          have f5 := fx 5; have c5 : V32.cell? ⟨bx, 5, none⟩ = some (.slice none 0 0) := Lib.cell_of_heap HX.out 5
          have f6 := fx 6; have c6 : V32.cell? ⟨bx, 6, none⟩ = some (.slice none 0 0) := Lib.cell_of_heap HX.out 6
          have f7 := fx 7; have c7 : V32.cell? ⟨bx, 7, none⟩ = some (.slice none 0 0) := Lib.cell_of_heap HX.out 7
          clear fx
          go_simp
          have hst := stored9 V32 bx (.int .i64 k) (.string nm) (.bool g) (.slice y1 az.length i1) (.slice y2 ws.length i2) (.slice y3 ks.len i3) (.slice y4 bs.length i4) (.slice y5 cz.len i5) _ _ _ _ _ _ _ _ _ HX.out
          have hab : bx ≠ w.heap.size := by have h1 := NX.out; have h2 := (Array.getElem?_eq_some_iff.1 HROW.out).1; omega
          have hS' := (hst.2.block _ (Array.getElem?_eq_some_iff.1 hS).1 (Ne.symm hab)).trans hS
          refine hK _ _ (fun _ => hS') ?_
          generalize ((((((((V32.setCell ⟨bx, 0, none⟩ (.int .i64 k)).setCell ⟨bx, 1, none⟩ (.string nm)).setCell ⟨bx, 2, none⟩ (.bool g)).setCell ⟨bx, 3, none⟩ (.slice y1 az.length i1)).setCell ⟨bx, 4, none⟩ (.slice y2 ws.length i2)).setCell ⟨bx, 5, none⟩ (.slice y3 ks.len i3)).setCell ⟨bx, 6, none⟩ (.slice y4 bs.length i4)).setCell ⟨bx, 7, none⟩ (.slice y5 cz.len i5)) = V33 at hst hS' ⊢
          clear hK K hS hab c0 c1 c2 c3 c4 c5 c6 c7 f0 f1 f2 f3 f4 f5 f6 f7
          have HB' := Lib.hid (hst.2.below HB.out NX.out)
          have G1' := Lib.hid (G1.out.frP hst.2 X1.out)
          have G2' := Lib.hid (G2.out.frP hst.2 X2.out)
          have HZ' := Lib.hid ((hst.2.block _ (Array.getElem?_eq_some_iff.1 HZ.out).1 (Ne.symm NE.out)).trans HZ.out)
          have HX' := Lib.hid hst.1
          clear hst HB G1 G2 HX HZ
          have HB := HB'; clear HB'
          have G1 := G1'; clear G1'
          have G2 := G2'; clear G2'
          have HX := HX'; clear HX'
          have HZ := HZ'; clear HZ'
          have hS := hS'; clear hS'
          refine RN.all (rs := [7]) (by kernel_rfl) (by simp) ?_
          refine RN.All.cons rfl (fun K hK => ?_) RN.All.nil
          have fx : ∀ i, V33.frozen? ⟨bz, i, none⟩ = false := fun i => frozen_of_row _ _ _ _ _ HZ.out
          have f0 := fx 0; have c0 : V33.cell? ⟨bz, 0, none⟩ = some (.int .i64 0) := Lib.cell_of_heap HZ.out 0
          have f1 := fx 1; have c1 : V33.cell? ⟨bz, 1, none⟩ = some (.string ⟨#[]⟩) := Lib.cell_of_heap HZ.out 1
          have f2 := fx 2; have c2 : V33.cell? ⟨bz, 2, none⟩ = some (.bool false) := Lib.cell_of_heap HZ.out 2
          have f3 := fx 3; have c3 : V33.cell? ⟨bz, 3, none⟩ = some (.slice none 0 0) := Lib.cell_of_heap HZ.out 3
          have f4 := fx 4; have c4 : V33.cell? ⟨bz, 4, none⟩ = some (.slice none 0 0) := Lib.cell_of_heap HZ.out 4
          have f5 := fx 5; have c5 : V33.cell? ⟨bz, 5, none⟩ = some (.slice none 0 0) := Lib.cell_of_heap HZ.out 5
          have f6 := fx 6; have c6 : V33.cell? ⟨bz, 6, none⟩ = some (.slice none 0 0) := Lib.cell_of_heap HZ.out 6
          have f7 := fx 7; have c7 : V33.cell? ⟨bz, 7, none⟩ = some (.slice none 0 0) := Lib.cell_of_heap HZ.out 7
          clear fx
          go_simp
          have hst := stored9 V33 bz (.int .i64 k) (.string nm) (.bool g) (.slice z1 az.length j1) (.slice z2 ws.length j2) (.slice z3 ks.len j3) (.slice z4 bs.length j4) (.slice z5 cz.len j5) _ _ _ _ _ _ _ _ _ HZ.out
          have hab : bz ≠ w.heap.size := by have h1 := NZ.out; have h2 := (Array.getElem?_eq_some_iff.1 HROW.out).1; omega
          have hS' := (hst.2.block _ (Array.getElem?_eq_some_iff.1 hS).1 (Ne.symm hab)).trans hS
          refine hK _ _ (fun _ => hS') ?_
          generalize ((((((((V33.setCell ⟨bz, 0, none⟩ (.int .i64 k)).setCell ⟨bz, 1, none⟩ (.string nm)).setCell ⟨bz, 2, none⟩ (.bool g)).setCell ⟨bz, 3, none⟩ (.slice z1 az.length j1)).setCell ⟨bz, 4, none⟩ (.slice z2 ws.length j2)).setCell ⟨bz, 5, none⟩ (.slice z3 ks.len j3)).setCell ⟨bz, 6, none⟩ (.slice z4 bs.length j4)).setCell ⟨bz, 7, none⟩ (.slice z5 cz.len j5)) = V34 at hst hS' ⊢
          clear hK K hS hab c0 c1 c2 c3 c4 c5 c6 c7 f0 f1 f2 f3 f4 f5 f6 f7
          have HB' := Lib.hid (hst.2.below HB.out NZ.out)
          have G1' := Lib.hid (G1.out.frP hst.2 Z1.out)
          have G2' := Lib.hid (G2.out.frP hst.2 Z2.out)
          have HX' := Lib.hid ((hst.2.block _ (Array.getElem?_eq_some_iff.1 HX.out).1 NE.out).trans HX.out)
          have HZ' := Lib.hid hst.1
          clear hst HB G1 G2 HX HZ
          have HB := HB'; clear HB'
          have G1 := G1'; clear G1'
          have G2 := G2'; clear G2'
          have HX := HX'; clear HX'
          have HZ := HZ'; clear HZ'
          have hS := hS'; clear hS'
          refine RN.done (by kernel_rfl) ?_ _
          exact ⟨rfl, y1, i1, y2, i2, y3, i3, y4, i4, y5, i5, z1, j1, z2, j2, z3, j3, z4, j4, z5, j5, bx, bz, lo1, hi1, lo2, hi2, rfl, ⟨HB.out, HX.out, HZ.out, NX.out, NZ.out, NE.out, G1.out, G2.out, X1.out, X2.out, Z1.out, Z2.out, LE.out⟩⟩
        · go_simp
          have hb := bel1 V30 (.cells #[.int .i64 0, .string ⟨#[]⟩, .bool false, .slice none 0 0, .slice none 0 0, .slice none 0 0, .slice none 0 0, .slice none 0 0] 28)
          have HZ := Lib.hid (heap_new' V30 (.cells #[.int .i64 0, .string ⟨#[]⟩, .bool false, .slice none 0 0, .slice none 0 0, .slice none 0 0, .slice none 0 0, .slice none 0 0] 28))
          have HB' := Lib.hid (thru HB.out hb)
          have hS' := (hb.block _ (Array.getElem?_eq_some_iff.1 hS).1).trans hS
          have NZ := Lib.hid HB.out.size
          have Z1 : Hid (Out V30.heap.size lo1 hi1) := Lib.hid (.inr G1.out.2.2.1)
          have G1' := Lib.hid (G1.out.below hb)
          have HX' := Lib.hid ((hb.block _ (Array.getElem?_eq_some_iff.1 HX.out).1).trans HX.out)
          have NE : Hid (bx ≠ V30.heap.size) := Lib.hid (Nat.ne_of_lt (Array.getElem?_eq_some_iff.1 HX.out).1)
          refine hK _ _ (fun _ => hS') ?_
          clear hK K
          clear hb HB hS G1 HX
          have HB := HB'; clear HB'
          have G1 := G1'; clear G1'
          have HX := HX'; clear HX'
          have hS := hS'; clear hS'
          generalize V30.heap.size = bz at HZ NZ Z1 NE ⊢
          generalize V30.alloc (.cells #[.int .i64 0, .string ⟨#[]⟩, .bool false, .slice none 0 0, .slice none 0 0, .slice none 0 0, .slice none 0 0, .slice none 0 0] 28) = V35 at HB hS HZ G1 HX ⊢
          refine RN.all (rs := [3]) (by kernel_rfl) (by simp) ?_
          refine RN.All.cons rfl (fun K hK => ?_) RN.All.nil
          go_simp
          refine (HC.out V35 (thru HB0.out HB.out)).mono ?_
          rintro e V36 ⟨z1, j1, z2, j2, z3, j3, z4, j4, z5, j5, rfl, hb, hg⟩
          have G2' := Lib.hid (Got.of HB.out.size hb hg)
          have HB' := Lib.hid (thru HB.out hb)
          have hS' := (hb.block _ (Array.getElem?_eq_some_iff.1 hS).1).trans hS
          have LE := Lib.hid G1.out.2.2.1
          have G1' := Lib.hid (G1.out.below hb)
          have HX' := Lib.hid ((hb.block _ (Array.getElem?_eq_some_iff.1 HX.out).1).trans HX.out)
          have X2 : Hid (Out bx V35.heap.size V36.heap.size) := Lib.hid (.inl (Array.getElem?_eq_some_iff.1 HX.out).1)
          have HZ' := Lib.hid ((hb.block _ (Array.getElem?_eq_some_iff.1 HZ.out).1).trans HZ.out)
          have Z2 : Hid (Out bz V35.heap.size V36.heap.size) := Lib.hid (.inl (Array.getElem?_eq_some_iff.1 HZ.out).1)
          clear hb hg HB hS G1 HX HZ
          have G2 := G2'; clear G2'
          have HB := HB'; clear HB'
          have G1 := G1'; clear G1'
          have HX := HX'; clear HX'
          have HZ := HZ'; clear HZ'
          have hS := hS'; clear hS'
          generalize V35.heap.size = lo2 at G2 LE X2 Z2
          obtain ⟨hi2, hhi⟩ : ∃ hi2, hi2 = V36.heap.size := ⟨_, rfl⟩
          rw [← hhi] at G2 X2 Z2
          clear hhi
          refine hK _ _ (fun _ => hS) ?_
          clear hK K
          refine RN.all (rs := [6]) (by kernel_rfl) (by simp) ?_
          refine RN.All.cons rfl (fun K hK => ?_) RN.All.nil
          have fx : ∀ i, V36.frozen? ⟨bx, i, none⟩ = false := fun i => frozen_of_row _ _ _ _ _ HX.out
          have f0 := fx 0; have c0 : V36.cell? ⟨bx, 0, none⟩ = some (.int .i64 0) := Lib.cell_of_heap HX.out 0
          have f1 := fx 1; have c1 : V36.cell? ⟨bx, 1, none⟩ = some (.string ⟨#[]⟩) := Lib.cell_of_heap HX.out 1
          have f2 := fx 2; have c2 : V36.cell? ⟨bx, 2, none⟩ = some (.bool false) := Lib.cell_of_heap HX.out 2
          have f3 := fx 3; have c3 : V36.cell? ⟨bx, 3, none⟩ = some (.slice none 0 0) := Lib.cell_of_heap HX.out 3
          have f4 := fx 4; have c4 : V36.cell? ⟨bx, 4, none⟩ = some (.slice none 0 0) := Lib.cell_of_heap HX.out 4
          have f5 := fx 5; have c5 : V36.cell? ⟨bx, 5, none⟩ = some (.slice none 0 0) := Lib.cell_of_heap HX.out 5
          have f6 := fx 6; have c6 : V36.cell? ⟨bx, 6, none⟩ = some (.slice none 0 0) := Lib.cell_of_heap HX.out 6
          have f7 := fx 7; have c7 : V36.cell? ⟨bx, 7, none⟩ = some (.slice none 0 0) := Lib.cell_of_heap HX.out 7
          clear fx
          go_simp
          have hst := stored9 V36 bx (.int .i64 k) (.string nm) (.bool g) (.slice y1 az.length i1) (.slice y2 ws.length i2) (.slice y3 ks.len i3) (.slice y4 bs.length i4) (.slice y5 cz.len i5) _ _ _ _ _ _ _ _ _ HX.out
          have hab : bx ≠ w.heap.size := by have h1 := NX.out; have h2 := (Array.getElem?_eq_some_iff.1 HROW.out).1; omega
          have hS' := (hst.2.block _ (Array.getElem?_eq_some_iff.1 hS).1 (Ne.symm hab)).trans hS
          refine hK _ _ (fun _ => hS') ?_
          generalize ((((((((V36.setCell ⟨bx, 0, none⟩ (.int .i64 k)).setCell ⟨bx, 1, none⟩ (.string nm)).setCell ⟨bx, 2, none⟩ (.bool g)).setCell ⟨bx, 3, none⟩ (.slice y1 az.length i1)).setCell ⟨bx, 4, none⟩ (.slice y2 ws.length i2)).setCell ⟨bx, 5, none⟩ (.slice y3 ks.len i3)).setCell ⟨bx, 6, none⟩ (.slice y4 bs.length i4)).setCell ⟨bx, 7, none⟩ (.slice y5 cz.len i5)) = V37 at hst hS' ⊢
          clear hK K hS hab c0 c1 c2 c3 c4 c5 c6 c7 f0 f1 f2 f3 f4 f5 f6 f7
          have HB' := Lib.hid (hst.2.below HB.out NX.out)
          have G1' := Lib.hid (G1.out.frP hst.2 X1.out)
          have G2' := Lib.hid (G2.out.frP hst.2 X2.out)
          have HZ' := Lib.hid ((hst.2.block _ (Array.getElem?_eq_some_iff.1 HZ.out).1 (Ne.symm NE.out)).trans HZ.out)
          have HX' := Lib.hid hst.1
          clear hst HB G1 G2 HX HZ
          have HB := HB'; clear HB'
          have G1 := G1'; clear G1'
          have G2 := G2'; clear G2'
          have HX := HX'; clear HX'
          have HZ := HZ'; clear HZ'
          have hS := hS'; clear hS'
          refine RN.all (rs := [7]) (by kernel_rfl) (by simp) ?_
          refine RN.All.cons rfl (fun K hK => ?_) RN.All.nil
          have fx : ∀ i, V37.frozen? ⟨bz, i, none⟩ = false := fun i => frozen_of_row _ _ _ _ _ HZ.out
          have f0 := fx 0; have c0 : V37.cell? ⟨bz, 0, none⟩ = some (.int .i64 0) := Lib.cell_of_heap HZ.out 0
          have f1 := fx 1; have c1 : V37.cell? ⟨bz, 1, none⟩ = some (.string ⟨#[]⟩) := Lib.cell_of_heap HZ.out 1
          have f2 := fx 2; have c2 : V37.cell? ⟨bz, 2, none⟩ = some (.bool false) := Lib.cell_of_heap HZ.out 2
          have f3 := fx 3; have c3 : V37.cell? ⟨bz, 3, none⟩ = some (.slice none 0 0) := Lib.cell_of_heap HZ.out 3
          have f4 := fx 4; have c4 : V37.cell? ⟨bz, 4, none⟩ = some (.slice none 0 0) := Lib.cell_of_heap HZ.out 4
          have f5 := fx 5; have c5 : V37.cell? ⟨bz, 5, none⟩ = some (.slice none 0 0) := Lib.cell_of_heap HZ.out 5
          have f6 := fx 6; have c6 : V37.cell? ⟨bz, 6, none⟩ = some (.slice none 0 0) := Lib.cell_of_heap HZ.out 6
          have f7 := fx 7; have c7 : V37.cell? ⟨bz, 7, none⟩ = some (.slice none 0 0) := Lib.cell_of_heap HZ.out 7
          clear fx
          go_simp
          have hst := stored9 V37 bz (.int .i64 k) (.string nm) (.bool g) (.slice z1 az.length j1) (.slice z2 ws.length j2) (.slice z3 ks.len j3) (.slice z4 bs.length j4) (.slice z5 cz.len j5) _ _ _ _ _ _ _ _ _ HZ.out
          have hab : bz ≠ w.heap.size := by have h1 := NZ.out; have h2 := (Array.getElem?_eq_some_iff.1 HROW.out).1; omega
          have hS' := (hst.2.block _ (Array.getElem?_eq_some_iff.1 hS).1 (Ne.symm hab)).trans hS
          refine hK _ _ (fun _ => hS') ?_
          generalize ((((((((V37.setCell ⟨bz, 0, none⟩ (.int .i64 k)).setCell ⟨bz, 1, none⟩ (.string nm)).setCell ⟨bz, 2, none⟩ (.bool g)).setCell ⟨bz, 3, none⟩ (.slice z1 az.length j1)).setCell ⟨bz, 4, none⟩ (.slice z2 ws.length j2)).setCell ⟨bz, 5, none⟩ (.slice z3 ks.len j3)).setCell ⟨bz, 6, none⟩ (.slice z4 bs.length j4)).setCell ⟨bz, 7, none⟩ (.slice z5 cz.len j5)) = V38 at hst hS' ⊢
          clear hK K hS hab c0 c1 c2 c3 c4 c5 c6 c7 f0 f1 f2 f3 f4 f5 f6 f7
          have HB' := Lib.hid (hst.2.below HB.out NZ.out)
          have G1' := Lib.hid (G1.out.frP hst.2 Z1.out)
          have G2' := Lib.hid (G2.out.frP hst.2 Z2.out)
          have HX' := Lib.hid ((hst.2.block _ (Array.getElem?_eq_some_iff.1 HX.out).1 NE.out).trans HX.out)
          have HZ' := Lib.hid hst.1
          clear hst HB G1 G2 HX HZ
          have HB := HB'; clear HB'
          have G1 := G1'; clear G1'
          have G2 := G2'; clear G2'
          have HX := HX'; clear HX'
          have HZ := HZ'; clear HZ'
          have hS := hS'; clear hS'
          refine RN.done (by kernel_rfl) ?_ _
          exact ⟨rfl, y1, i1, y2, i2, y3, i3, y4, i4, y5, i5, z1, j1, z2, j2, z3, j3, z4, j4, z5, j5, bx, bz, lo1, hi1, lo2, hi2, rfl, ⟨HB.out, HX.out, HZ.out, NX.out, NZ.out, NE.out, G1.out, G2.out, X1.out, X2.out, Z1.out, Z2.out, LE.out⟩⟩
      · go_simp
        have hb := bel1 V29 (.cells #[.int .i64 0, .string ⟨#[]⟩, .bool false, .slice none 0 0, .slice none 0 0, .slice none 0 0, .slice none 0 0, .slice none 0 0] 28)
        have HZ := Lib.hid (heap_new' V29 (.cells #[.int .i64 0, .string ⟨#[]⟩, .bool false, .slice none 0 0, .slice none 0 0, .slice none 0 0, .slice none 0 0, .slice none 0 0] 28))
        have HB' := Lib.hid (thru HB.out hb)
        have hS' := (hb.block _ (Array.getElem?_eq_some_iff.1 hS).1).trans hS
        have NZ := Lib.hid HB.out.size
        have HX' := Lib.hid ((hb.block _ (Array.getElem?_eq_some_iff.1 HX.out).1).trans HX.out)
        have NE : Hid (bx ≠ V29.heap.size) := Lib.hid (Nat.ne_of_lt (Array.getElem?_eq_some_iff.1 HX.out).1)
        refine hK _ _ (fun _ => hS') ?_
        clear hK K
        clear hb HB hS HX
        have HB := HB'; clear HB'
        have HX := HX'; clear HX'
        have hS := hS'; clear hS'
        generalize V29.heap.size = bz at HZ NZ NE ⊢
        generalize V29.alloc (.cells #[.int .i64 0, .string ⟨#[]⟩, .bool false, .slice none 0 0, .slice none 0 0, .slice none 0 0, .slice none 0 0, .slice none 0 0] 28) = V39 at HB hS HZ HX ⊢
        refine RN.all (rs := [1]) (by kernel_rfl) (by simp) ?_
        refine RN.All.cons rfl (fun K hK => ?_) RN.All.nil
        go_simp
        refine (HC.out V39 (thru HB0.out HB.out)).mono ?_
        rintro e V40 ⟨y1, i1, y2, i2, y3, i3, y4, i4, y5, i5, rfl, hb, hg⟩
        have G1' := Lib.hid (Got.of HB.out.size hb hg)
        have HB' := Lib.hid (thru HB.out hb)
        have hS' := (hb.block _ (Array.getElem?_eq_some_iff.1 hS).1).trans hS
        have HX' := Lib.hid ((hb.block _ (Array.getElem?_eq_some_iff.1 HX.out).1).trans HX.out)
        have X1 : Hid (Out bx V39.heap.size V40.heap.size) := Lib.hid (.inl (Array.getElem?_eq_some_iff.1 HX.out).1)
        have HZ' := Lib.hid ((hb.block _ (Array.getElem?_eq_some_iff.1 HZ.out).1).trans HZ.out)
        have Z1 : Hid (Out bz V39.heap.size V40.heap.size) := Lib.hid (.inl (Array.getElem?_eq_some_iff.1 HZ.out).1)
        clear hb hg HB hS HX HZ
        have G1 := G1'; clear G1'
        have HB := HB'; clear HB'
        have HX := HX'; clear HX'
        have HZ := HZ'; clear HZ'
        have hS := hS'; clear hS'
        generalize V39.heap.size = lo1 at G1 X1 Z1
        obtain ⟨hi1, hhi⟩ : ∃ hi1, hi1 = V40.heap.size := ⟨_, rfl⟩
        rw [← hhi] at G1 X1 Z1
        clear hhi
        refine hK _ _ (fun _ => hS) ?_
        clear hK K
        refine RN.all (rs := [3]) (by kernel_rfl) (by simp) ?_
        refine RN.All.cons rfl (fun K hK => ?_) RN.All.nil
        go_simp
        refine (HC.out V40 (thru HB0.out HB.out)).mono ?_
        rintro e V41 ⟨z1, j1, z2, j2, z3, j3, z4, j4, z5, j5, rfl, hb, hg⟩
        have G2' := Lib.hid (Got.of HB.out.size hb hg)
        have HB' := Lib.hid (thru HB.out hb)
        have hS' := (hb.block _ (Array.getElem?_eq_some_iff.1 hS).1).trans hS
        have LE := Lib.hid G1.out.2.2.1
        have G1' := Lib.hid (G1.out.below hb)
        have HX' := Lib.hid ((hb.block _ (Array.getElem?_eq_some_iff.1 HX.out).1).trans HX.out)
        have X2 : Hid (Out bx V40.heap.size V41.heap.size) := Lib.hid (.inl (Array.getElem?_eq_some_iff.1 HX.out).1)
        have HZ' := Lib.hid ((hb.block _ (Array.getElem?_eq_some_iff.1 HZ.out).1).trans HZ.out)
        have Z2 : Hid (Out bz V40.heap.size V41.heap.size) := Lib.hid (.inl (Array.getElem?_eq_some_iff.1 HZ.out).1)
        clear hb hg HB hS G1 HX HZ
        have G2 := G2'; clear G2'
        have HB := HB'; clear HB'
        have G1 := G1'; clear G1'
        have HX := HX'; clear HX'
        have HZ := HZ'; clear HZ'
        have hS := hS'; clear hS'
        generalize V40.heap.size = lo2 at G2 LE X2 Z2
        obtain ⟨hi2, hhi⟩ : ∃ hi2, hi2 = V41.heap.size := ⟨_, rfl⟩
        rw [← hhi] at G2 X2 Z2
        clear hhi
        refine hK _ _ (fun _ => hS) ?_
        clear hK K
        refine RN.all (rs := [6]) (by kernel_rfl) (by simp) ?_
        refine RN.All.cons rfl (fun K hK => ?_) RN.All.nil
        have fx : ∀ i, V41.frozen? ⟨bx, i, none⟩ = false := fun i => frozen_of_row _ _ _ _ _ HX.out
        have f0 := fx 0; have c0 : V41.cell? ⟨bx, 0, none⟩ = some (.int .i64 0) := Lib.cell_of_heap HX.out 0
        have f1 := fx 1; have c1 : V41.cell? ⟨bx, 1, none⟩ = some (.string ⟨#[]⟩) := Lib.cell_of_heap HX.out 1
        have f2 := fx 2; have c2 : V41.cell? ⟨bx, 2, none⟩ = some (.bool false) := Lib.cell_of_heap HX.out 2
        have f3 := fx 3; have c3 : V41.cell? ⟨bx, 3, none⟩ = some (.slice none 0 0) := Lib.cell_of_heap HX.out 3
        have f4 := fx 4; have c4 : V41.cell? ⟨bx, 4, none⟩ = some (.slice none 0 0) := Lib.cell_of_heap HX.out 4
        have f5 := fx 5; have c5 : V41.cell? ⟨bx, 5, none⟩ = some (.slice none 0 0) := Lib.cell_of_heap HX.out 5
        have f6 := fx 6; have c6 : V41.cell? ⟨bx, 6, none⟩ = some (.slice none 0 0) := Lib.cell_of_heap HX.out 6
        have f7 := fx 7; have c7 : V41.cell? ⟨bx, 7, none⟩ = some (.slice none 0 0) := Lib.cell_of_heap HX.out 7
        clear fx
        go_simp
        have hst := stored9 V41 bx (.int .i64 k) (.string nm) (.bool g) (.slice y1 az.length i1) (.slice y2 ws.length i2) (.slice y3 ks.len i3) (.slice y4 bs.length i4) (.slice y5 cz.len i5) _ _ _ _ _ _ _ _ _ HX.out
        have hab : bx ≠ w.heap.size := by have h1 := NX.out; have h2 := (Array.getElem?_eq_some_iff.1 HROW.out).1; omega
        have hS' := (hst.2.block _ (Array.getElem?_eq_some_iff.1 hS).1 (Ne.symm hab)).trans hS
        refine hK _ _ (fun _ => hS') ?_
        generalize ((((((((V41.setCell ⟨bx, 0, none⟩ (.int .i64 k)).setCell ⟨bx, 1, none⟩ (.string nm)).setCell ⟨bx, 2, none⟩ (.bool g)).setCell ⟨bx, 3, none⟩ (.slice y1 az.length i1)).setCell ⟨bx, 4, none⟩ (.slice y2 ws.length i2)).setCell ⟨bx, 5, none⟩ (.slice y3 ks.len i3)).setCell ⟨bx, 6, none⟩ (.slice y4 bs.length i4)).setCell ⟨bx, 7, none⟩ (.slice y5 cz.len i5)) = V42 at hst hS' ⊢
        clear hK K hS hab c0 c1 c2 c3 c4 c5 c6 c7 f0 f1 f2 f3 f4 f5 f6 f7
        have HB' := Lib.hid (hst.2.below HB.out NX.out)
        have G1' := Lib.hid (G1.out.frP hst.2 X1.out)
        have G2' := Lib.hid (G2.out.frP hst.2 X2.out)
        have HZ' := Lib.hid ((hst.2.block _ (Array.getElem?_eq_some_iff.1 HZ.out).1 (Ne.symm NE.out)).trans HZ.out)
        have HX' := Lib.hid hst.1
        clear hst HB G1 G2 HX HZ
        have HB := HB'; clear HB'
        have G1 := G1'; clear G1'
        have G2 := G2'; clear G2'
        have HX := HX'; clear HX'
        have HZ := HZ'; clear HZ'
        have hS := hS'; clear hS'
        refine RN.all (rs := [7]) (by kernel_rfl) (by simp) ?_
        refine RN.All.cons rfl (fun K hK => ?_) RN.All.nil
        have fx : ∀ i, V42.frozen? ⟨bz, i, none⟩ = false := fun i => frozen_of_row _ _ _ _ _ HZ.out
        have f0 := fx 0; have c0 : V42.cell? ⟨bz, 0, none⟩ = some (.int .i64 0) := Lib.cell_of_heap HZ.out 0
        have f1 := fx 1; have c1 : V42.cell? ⟨bz, 1, none⟩ = some (.string ⟨#[]⟩) := Lib.cell_of_heap HZ.out 1
        have f2 := fx 2; have c2 : V42.cell? ⟨bz, 2, none⟩ = some (.bool false) := Lib.cell_of_heap HZ.out 2
        have f3 := fx 3; have c3 : V42.cell? ⟨bz, 3, none⟩ = some (.slice none 0 0) := Lib.cell_of_heap HZ.out 3
        have f4 := fx 4; have c4 : V42.cell? ⟨bz, 4, none⟩ = some (.slice none 0 0) := Lib.cell_of_heap HZ.out 4
        have f5 := fx 5; have c5 : V42.cell? ⟨bz, 5, none⟩ = some (.slice none 0 0) := Lib.cell_of_heap HZ.out 5
        have f6 := fx 6; have c6 : V42.cell? ⟨bz, 6, none⟩ = some (.slice none 0 0) := Lib.cell_of_heap HZ.out 6
        have f7 := fx 7; have c7 : V42.cell? ⟨bz, 7, none⟩ = some (.slice none 0 0) := Lib.cell_of_heap HZ.out 7
        clear fx
        go_simp
        have hst := stored9 V42 bz (.int .i64 k) (.string nm) (.bool g) (.slice z1 az.length j1) (.slice z2 ws.length j2) (.slice z3 ks.len j3) (.slice z4 bs.length j4) (.slice z5 cz.len j5) _ _ _ _ _ _ _ _ _ HZ.out
        have hab : bz ≠ w.heap.size := by have h1 := NZ.out; have h2 := (Array.getElem?_eq_some_iff.1 HROW.out).1; omega
        have hS' := (hst.2.block _ (Array.getElem?_eq_some_iff.1 hS).1 (Ne.symm hab)).trans hS
        refine hK _ _ (fun _ => hS') ?_
        generalize ((((((((V42.setCell ⟨bz, 0, none⟩ (.int .i64 k)).setCell ⟨bz, 1, none⟩ (.string nm)).setCell ⟨bz, 2, none⟩ (.bool g)).setCell ⟨bz, 3, none⟩ (.slice z1 az.length j1)).setCell ⟨bz, 4, none⟩ (.slice z2 ws.length j2)).setCell ⟨bz, 5, none⟩ (.slice z3 ks.len j3)).setCell ⟨bz, 6, none⟩ (.slice z4 bs.length j4)).setCell ⟨bz, 7, none⟩ (.slice z5 cz.len j5)) = V43 at hst hS' ⊢
        clear hK K hS hab c0 c1 c2 c3 c4 c5 c6 c7 f0 f1 f2 f3 f4 f5 f6 f7
        have HB' := Lib.hid (hst.2.below HB.out NZ.out)
        have G1' := Lib.hid (G1.out.frP hst.2 Z1.out)
        have G2' := Lib.hid (G2.out.frP hst.2 Z2.out)
        have HX' := Lib.hid ((hst.2.block _ (Array.getElem?_eq_some_iff.1 HX.out).1 NE.out).trans HX.out)
        have HZ' := Lib.hid hst.1
        clear hst HB G1 G2 HX HZ
        have HB := HB'; clear HB'
        have G1 := G1'; clear G1'
        have G2 := G2'; clear G2'
        have HX := HX'; clear HX'
        have HZ := HZ'; clear HZ'
        have hS := hS'; clear hS'
        refine RN.done (by kernel_rfl) ?_ _
        exact ⟨rfl, y1, i1, y2, i2, y3, i3, y4, i4, y5, i5, z1, j1, z2, j2, z3, j3, z4, j4, z5, j5, bx, bz, lo1, hi1, lo2, hi2, rfl, ⟨HB.out, HX.out, HZ.out, NX.out, NZ.out, NE.out, G1.out, G2.out, X1.out, X2.out, Z1.out, Z2.out, LE.out⟩⟩
    · go_simp
      have hb := bel1 V0 (.cells #[.int .i64 0, .string ⟨#[]⟩, .bool false, .slice none 0 0, .slice none 0 0, .slice none 0 0, .slice none 0 0, .slice none 0 0] 28)
      have HZ := Lib.hid (heap_new' V0 (.cells #[.int .i64 0, .string ⟨#[]⟩, .bool false, .slice none 0 0, .slice none 0 0, .slice none 0 0, .slice none 0 0, .slice none 0 0] 28))
      have HB' := Lib.hid (thru HB.out hb)
      have hS' := (hb.block _ (Array.getElem?_eq_some_iff.1 hS).1).trans hS
      have NZ := Lib.hid HB.out.size
      refine hK _ _ (fun _ => hS') ?_
      clear hK K
      clear hb HB hS
      have HB := HB'; clear HB'
      have hS := hS'; clear hS'
      generalize V0.heap.size = bz at HZ NZ ⊢
      generalize V0.alloc (.cells #[.int .i64 0, .string ⟨#[]⟩, .bool false, .slice none 0 0, .slice none 0 0, .slice none 0 0, .slice none 0 0, .slice none 0 0] 28) = V44 at HB hS HZ ⊢
      refine RN.all (rs := [1, 4]) (by kernel_rfl) (by simp) ?_
      refine RN.All.cons rfl (fun K hK => ?_) (RN.All.cons rfl (fun K hK => ?_) RN.All.nil)
      · go_simp
        refine (HC.out V44 (thru HB0.out HB.out)).mono ?_
        rintro e V45 ⟨y1, i1, y2, i2, y3, i3, y4, i4, y5, i5, rfl, hb, hg⟩
        have G1' := Lib.hid (Got.of HB.out.size hb hg)
        have HB' := Lib.hid (thru HB.out hb)
        have hS' := (hb.block _ (Array.getElem?_eq_some_iff.1 hS).1).trans hS
        have HZ' := Lib.hid ((hb.block _ (Array.getElem?_eq_some_iff.1 HZ.out).1).trans HZ.out)
        have Z1 : Hid (Out bz V44.heap.size V45.heap.size) := Lib.hid (.inl (Array.getElem?_eq_some_iff.1 HZ.out).1)
        clear hb hg HB hS HZ
        have G1 := G1'; clear G1'
        have HB := HB'; clear HB'
        have HZ := HZ'; clear HZ'
        have hS := hS'; clear hS'
        generalize V44.heap.size = lo1 at G1 Z1
        obtain ⟨hi1, hhi⟩ : ∃ hi1, hi1 = V45.heap.size := ⟨_, rfl⟩
        rw [← hhi] at G1 Z1
        clear hhi
        refine hK _ _ (fun _ => hS) ?_
        clear hK K
        refine RN.all (rs := [3, 4]) (by kernel_rfl) (by simp) ?_
        refine RN.All.cons rfl (fun K hK => ?_) (RN.All.cons rfl (fun K hK => ?_) RN.All.nil)
        · go_simp
          refine (HC.out V45 (thru HB0.out HB.out)).mono ?_
          rintro e V46 ⟨z1, j1, z2, j2, z3, j3, z4, j4, z5, j5, rfl, hb, hg⟩
          have G2' := Lib.hid (Got.of HB.out.size hb hg)
          have HB' := Lib.hid (thru HB.out hb)
          have hS' := (hb.block _ (Array.getElem?_eq_some_iff.1 hS).1).trans hS
          have LE := Lib.hid G1.out.2.2.1
          have G1' := Lib.hid (G1.out.below hb)
          have HZ' := Lib.hid ((hb.block _ (Array.getElem?_eq_some_iff.1 HZ.out).1).trans HZ.out)
          have Z2 : Hid (Out bz V45.heap.size V46.heap.size) := Lib.hid (.inl (Array.getElem?_eq_some_iff.1 HZ.out).1)
          clear hb hg HB hS G1 HZ
          have G2 := G2'; clear G2'
          have HB := HB'; clear HB'
          have G1 := G1'; clear G1'
          have HZ := HZ'; clear HZ'
          have hS := hS'; clear hS'
          generalize V45.heap.size = lo2 at G2 LE Z2
          obtain ⟨hi2, hhi⟩ : ∃ hi2, hi2 = V46.heap.size := ⟨_, rfl⟩
          rw [← hhi] at G2 Z2
          clear hhi
          refine hK _ _ (fun _ => hS) ?_
          clear hK K
          refine RN.all (rs := [4]) (by kernel_rfl) (by simp) ?_
          refine RN.All.cons rfl (fun K hK => ?_) RN.All.nil
          go_simp
          have hb := bel1 V46 (.cells #[.int .i64 0, .string ⟨#[]⟩, .bool false, .slice none 0 0, .slice none 0 0, .slice none 0 0, .slice none 0 0, .slice none 0 0] 28)
          have HX := Lib.hid (heap_new' V46 (.cells #[.int .i64 0, .string ⟨#[]⟩, .bool false, .slice none 0 0, .slice none 0 0, .slice none 0 0, .slice none 0 0, .slice none 0 0] 28))
          have HB' := Lib.hid (thru HB.out hb)
          have hS' := (hb.block _ (Array.getElem?_eq_some_iff.1 hS).1).trans hS
          have NX := Lib.hid HB.out.size
          have X1 : Hid (Out V46.heap.size lo1 hi1) := Lib.hid (.inr G1.out.2.2.1)
          have G1' := Lib.hid (G1.out.below hb)
          have X2 : Hid (Out V46.heap.size lo2 hi2) := Lib.hid (.inr G2.out.2.2.1)
          have G2' := Lib.hid (G2.out.below hb)
          have HZ' := Lib.hid ((hb.block _ (Array.getElem?_eq_some_iff.1 HZ.out).1).trans HZ.out)
          have NE : Hid (V46.heap.size ≠ bz) := Lib.hid (Nat.ne_of_gt (Array.getElem?_eq_some_iff.1 HZ.out).1)
          refine hK _ _ (fun _ => hS') ?_
          clear hK K
          clear hb HB hS G1 G2 HZ
          have HB := HB'; clear HB'
          have G1 := G1'; clear G1'
          have G2 := G2'; clear G2'
          have HZ := HZ'; clear HZ'
          have hS := hS'; clear hS'
          generalize V46.heap.size = bx at HX NX X1 X2 NE ⊢
          generalize V46.alloc (.cells #[.int .i64 0, .string ⟨#[]⟩, .bool false, .slice none 0 0, .slice none 0 0, .slice none 0 0, .slice none 0 0, .slice none 0 0] 28) = V47 at HB hS HX G1 G2 HZ ⊢
          refine RN.all (rs := [6]) (by kernel_rfl) (by simp) ?_
          refine RN.All.cons rfl (fun K hK => ?_) RN.All.nil
          have fx : ∀ i, V47.frozen? ⟨bx, i, none⟩ = false := fun i => frozen_of_row _ _ _ _ _ HX.out
          have f0 := fx 0; have c0 : V47.cell? ⟨bx, 0, none⟩ = some (.int .i64 0) := Lib.cell_of_heap HX.out 0
          have f1 := fx 1; have c1 : V47.cell? ⟨bx, 1, none⟩ = some (.string ⟨#[]⟩) := Lib.cell_of_heap HX.out 1
          have f2 := fx 2; have c2 : V47.cell? ⟨bx, 2, none⟩ = some (.bool false) := Lib.cell_of_heap HX.out 2
          have f3 := fx 3; have c3 : V47.cell? ⟨bx, 3, none⟩ = some (.slice none 0 0) := Lib.cell_of_heap HX.out 3
          have f4 := fx 4; have c4 : V47.cell? ⟨bx, 4, none⟩ = some (.slice none 0 0) := Lib.cell_of_heap HX.out 4
          have f5 := fx 5; have c5 : V47.cell? ⟨bx, 5, none⟩ = some (.slice none 0 0) := Lib.cell_of_heap HX.out 5
          have f6 := fx 6; have c6 : V47.cell? ⟨bx, 6, none⟩ = some (.slice none 0 0) := Lib.cell_of_heap HX.out 6
          have f7 := fx 7; have c7 : V47.cell? ⟨bx, 7, none⟩ = some (.slice none 0 0) := Lib.cell_of_heap HX.out 7
          clear fx
          go_simp
          have hst := stored9 V47 bx (.int .i64 k) (.string nm) (.bool g) (.slice y1 az.length i1) (.slice y2 ws.length i2) (.slice y3 ks.len i3) (.slice y4 bs.length i4) (.slice y5 cz.len i5) _ _ _ _ _ _ _ _ _ HX.out
          have hab : bx ≠ w.heap.size := by have h1 := NX.out; have h2 := (Array.getElem?_eq_some_iff.1 HROW.out).1; omega
          have hS' := (hst.2.block _ (Array.getElem?_eq_some_iff.1 hS).1 (Ne.symm hab)).trans hS
          refine hK _ _ (fun _ => hS') ?_
          generalize ((((((((V47.setCell ⟨bx, 0, none⟩ (.int .i64 k)).setCell ⟨bx, 1, none⟩ (.string nm)).setCell ⟨bx, 2, none⟩ (.bool g)).setCell ⟨bx, 3, none⟩ (.slice y1 az.length i1)).setCell ⟨bx, 4, none⟩ (.slice y2 ws.length i2)).setCell ⟨bx, 5, none⟩ (.slice y3 ks.len i3)).setCell ⟨bx, 6, none⟩ (.slice y4 bs.length i4)).setCell ⟨bx, 7, none⟩ (.slice y5 cz.len i5)) = V48 at hst hS' ⊢
          clear hK K hS hab c0 c1 c2 c3 c4 c5 c6 c7 f0 f1 f2 f3 f4 f5 f6 f7
          have HB' := Lib.hid (hst.2.below HB.out NX.out)
          have G1' := Lib.hid (G1.out.frP hst.2 X1.out)
          have G2' := Lib.hid (G2.out.frP hst.2 X2.out)
          have HZ' := Lib.hid ((hst.2.block _ (Array.getElem?_eq_some_iff.1 HZ.out).1 (Ne.symm NE.out)).trans HZ.out)
          have HX' := Lib.hid hst.1
          clear hst HB G1 G2 HX HZ
          have HB := HB'; clear HB'
          have G1 := G1'; clear G1'
          have G2 := G2'; clear G2'
          have HX := HX'; clear HX'
          have HZ := HZ'; clear HZ'
          have hS := hS'; clear hS'
          refine RN.all (rs := [7]) (by kernel_rfl) (by simp) ?_
          refine RN.All.cons rfl (fun K hK => ?_) RN.All.nil
          have fx : ∀ i, V48.frozen? ⟨bz, i, none⟩ = false := fun i => frozen_of_row _ _ _ _ _ HZ.out
          have f0 := fx 0; have c0 : V48.cell? ⟨bz, 0, none⟩ = some (.int .i64 0) := Lib.cell_of_heap HZ.out 0
          have f1 := fx 1; have c1 : V48.cell? ⟨bz, 1, none⟩ = some (.string ⟨#[]⟩) := Lib.cell_of_heap HZ.out 1
          have f2 := fx 2; have c2 : V48.cell? ⟨bz, 2, none⟩ = some (.bool false) := Lib.cell_of_heap HZ.out 2
          have f3 := fx 3; have c3 : V48.cell? ⟨bz, 3, none⟩ = some (.slice none 0 0) := Lib.cell_of_heap HZ.out 3
          have f4 := fx 4; have c4 : V48.cell? ⟨bz, 4, none⟩ = some (.slice none 0 0) := Lib.cell_of_heap HZ.out 4
          have f5 := fx 5; have c5 : V48.cell? ⟨bz, 5, none⟩ = some (.slice none 0 0) := Lib.cell_of_heap HZ.out 5
          have f6 := fx 6; have c6 : V48.cell? ⟨bz, 6, none⟩ = some (.slice none 0 0) := Lib.cell_of_heap HZ.out 6
          have f7 := fx 7; have c7 : V48.cell? ⟨bz, 7, none⟩ = some (.slice none 0 0) := Lib.cell_of_heap HZ.out 7
          clear fx
          go_simp
          have hst := stored9 V48 bz (.int .i64 k) (.string nm) (.bool g) (.slice z1 az.length j1) (.slice z2 ws.length j2) (.slice z3 ks.len j3) (.slice z4 bs.length j4) (.slice z5 cz.len j5) _ _ _ _ _ _ _ _ _ HZ.out
          have hab : bz ≠ w.heap.size := by have h1 := NZ.out; have h2 := (Array.getElem?_eq_some_iff.1 HROW.out).1; omega
          have hS' := (hst.2.block _ (Array.getElem?_eq_some_iff.1 hS).1 (Ne.symm hab)).trans hS
          refine hK _ _ (fun _ => hS') ?_
          generalize ((((((((V48.setCell ⟨bz, 0, none⟩ (.int .i64 k)).setCell ⟨bz, 1, none⟩ (.string nm)).setCell ⟨bz, 2, none⟩ (.bool g)).setCell ⟨bz, 3, none⟩ (.slice z1 az.length j1)).setCell ⟨bz, 4, none⟩ (.slice z2 ws.length j2)).setCell ⟨bz, 5, none⟩ (.slice z3 ks.len j3)).setCell ⟨bz, 6, none⟩ (.slice z4 bs.length j4)).setCell ⟨bz, 7, none⟩ (.slice z5 cz.len j5)) = V49 at hst hS' ⊢
          clear hK K hS hab c0 c1 c2 c3 c4 c5 c6 c7 f0 f1 f2 f3 f4 f5 f6 f7
          have HB' := Lib.hid (hst.2.below HB.out NZ.out)
          have G1' := Lib.hid (G1.out.frP hst.2 Z1.out)
          have G2' := Lib.hid (G2.out.frP hst.2 Z2.out)
          have HX' := Lib.hid ((hst.2.block _ (Array.getElem?_eq_some_iff.1 HX.out).1 NE.out).trans HX.out)
          have HZ' := Lib.hid hst.1
          clear hst HB G1 G2 HX HZ
          have HB := HB'; clear HB'
          have G1 := G1'; clear G1'
          have G2 := G2'; clear G2'
          have HX := HX'; clear HX'
          have HZ := HZ'; clear HZ'
          have hS := hS'; clear hS'
          refine RN.done (by kernel_rfl) ?_ _
          exact ⟨rfl, y1, i1, y2, i2, y3, i3, y4, i4, y5, i5, z1, j1, z2, j2, z3, j3, z4, j4, z5, j5, bx, bz, lo1, hi1, lo2, hi2, rfl, ⟨HB.out, HX.out, HZ.out, NX.out, NZ.out, NE.out, G1.out, G2.out, X1.out, X2.out, Z1.out, Z2.out, LE.out⟩⟩
        · go_simp
          have hb := bel1 V45 (.cells #[.int .i64 0, .string ⟨#[]⟩, .bool false, .slice none 0 0, .slice none 0 0, .slice none 0 0, .slice none 0 0, .slice none 0 0] 28)
          have HX := Lib.hid (heap_new' V45 (.cells #[.int .i64 0, .string ⟨#[]⟩, .bool false, .slice none 0 0, .slice none 0 0, .slice none 0 0, .slice none 0 0, .slice none 0 0] 28))
          have HB' := Lib.hid (thru HB.out hb)
          have hS' := (hb.block _ (Array.getElem?_eq_some_iff.1 hS).1).trans hS
          have NX := Lib.hid HB.out.size
          have X1 : Hid (Out V45.heap.size lo1 hi1) := Lib.hid (.inr G1.out.2.2.1)
          have G1' := Lib.hid (G1.out.below hb)
          have HZ' := Lib.hid ((hb.block _ (Array.getElem?_eq_some_iff.1 HZ.out).1).trans HZ.out)
          have NE : Hid (V45.heap.size ≠ bz) := Lib.hid (Nat.ne_of_gt (Array.getElem?_eq_some_iff.1 HZ.out).1)
          refine hK _ _ (fun _ => hS') ?_
          clear hK K
          clear hb HB hS G1 HZ
          have HB := HB'; clear HB'
          have G1 := G1'; clear G1'
          have HZ := HZ'; clear HZ'
          have hS := hS'; clear hS'
          generalize V45.heap.size = bx at HX NX X1 NE ⊢
          generalize V45.alloc (.cells #[.int .i64 0, .string ⟨#[]⟩, .bool false, .slice none 0 0, .slice none 0 0, .slice none 0 0, .slice none 0 0, .slice none 0 0] 28) = V50 at HB hS HX G1 HZ ⊢
          refine RN.all (rs := [3]) (by kernel_rfl) (by simp) ?_
          refine RN.All.cons rfl (fun K hK => ?_) RN.All.nil
          go_simp
          refine (HC.out V50 (thru HB0.out HB.out)).mono ?_
          rintro e V51 ⟨z1, j1, z2, j2, z3, j3, z4, j4, z5, j5, rfl, hb, hg⟩
          have G2' := Lib.hid (Got.of HB.out.size hb hg)
          have HB' := Lib.hid (thru HB.out hb)
          have hS' := (hb.block _ (Array.getElem?_eq_some_iff.1 hS).1).trans hS
          have LE := Lib.hid G1.out.2.2.1
          have G1' := Lib.hid (G1.out.below hb)
          have HX' := Lib.hid ((hb.block _ (Array.getElem?_eq_some_iff.1 HX.out).1).trans HX.out)
          have X2 : Hid (Out bx V50.heap.size V51.heap.size) := Lib.hid (.inl (Array.getElem?_eq_some_iff.1 HX.out).1)
          have HZ' := Lib.hid ((hb.block _ (Array.getElem?_eq_some_iff.1 HZ.out).1).trans HZ.out)
          have Z2 : Hid (Out bz V50.heap.size V51.heap.size) := Lib.hid (.inl (Array.getElem?_eq_some_iff.1 HZ.out).1)
          clear hb hg HB hS G1 HX HZ
          have G2 := G2'; clear G2'
          have HB := HB'; clear HB'
          have G1 := G1'; clear G1'
          have HX := HX'; clear HX'
          have HZ := HZ'; clear HZ'
          have hS := hS'; clear hS'
          generalize V50.heap.size = lo2 at G2 LE X2 Z2
          obtain ⟨hi2, hhi⟩ : ∃ hi2, hi2 = V51.heap.size := ⟨_, rfl⟩
          rw [← hhi] at G2 X2 Z2
          clear hhi
          refine hK _ _ (fun _ => hS) ?_
          clear hK K
          refine RN.all (rs := [6]) (by kernel_rfl) (by simp) ?_
          refine RN.All.cons rfl (fun K hK => ?_) RN.All.nil
          have fx : ∀ i, V51.frozen? ⟨bx, i, none⟩ = false := fun i => frozen_of_row _ _ _ _ _ HX.out
          have f0 := fx 0; have c0 : V51.cell? ⟨bx, 0, none⟩ = some (.int .i64 0) := Lib.cell_of_heap HX.out 0
          have f1 := fx 1; have c1 : V51.cell? ⟨bx, 1, none⟩ = some (.string ⟨#[]⟩) := Lib.cell_of_heap HX.out 1
          have f2 := fx 2; have c2 : V51.cell? ⟨bx, 2, none⟩ = some (.bool false) := Lib.cell_of_heap HX.out 2
          have f3 := fx 3; have c3 : V51.cell? ⟨bx, 3, none⟩ = some (.slice none 0 0) := Lib.cell_of_heap HX.out 3
          have f4 := fx 4; have c4 : V51.cell? ⟨bx, 4, none⟩ = some (.slice none 0 0) := Lib.cell_of_heap HX.out 4
          have f5 := fx 5; have c5 : V51.cell? ⟨bx, 5, none⟩ = some (.slice none 0 0) := Lib.cell_of_heap HX.out 5
          have f6 := fx 6; have c6 : V51.cell? ⟨bx, 6, none⟩ = some (.slice none 0 0) := Lib.cell_of_heap HX.out 6
          have f7 := fx 7; have c7 : V51.cell? ⟨bx, 7, none⟩ = some (.slice none 0 0) := Lib.cell_of_heap HX.out 7
          clear fx
          go_simp
          have hst := stored9 V51 bx (.int .i64 k) (.string nm) (.bool g) (.slice y1 az.length i1) (.slice y2 ws.length i2) (.slice y3 ks.len i3) (.slice y4 bs.length i4) (.slice y5 cz.len i5) _ _ _ _ _ _ _ _ _ HX.out
          have hab : bx ≠ w.heap.size := by have h1 := NX.out; have h2 := (Array.getElem?_eq_some_iff.1 HROW.out).1; omega
          have hS' := (hst.2.block _ (Array.getElem?_eq_some_iff.1 hS).1 (Ne.symm hab)).trans hS
          refine hK _ _ (fun _ => hS') ?_
          generalize ((((((((V51.setCell ⟨bx, 0, none⟩ (.int .i64 k)).setCell ⟨bx, 1, none⟩ (.string nm)).setCell ⟨bx, 2, none⟩ (.bool g)).setCell ⟨bx, 3, none⟩ (.slice y1 az.length i1)).setCell ⟨bx, 4, none⟩ (.slice y2 ws.length i2)).setCell ⟨bx, 5, none⟩ (.slice y3 ks.len i3)).setCell ⟨bx, 6, none⟩ (.slice y4 bs.length i4)).setCell ⟨bx, 7, none⟩ (.slice y5 cz.len i5)) = V52 at hst hS' ⊢
          clear hK K hS hab c0 c1 c2 c3 c4 c5 c6 c7 f0 f1 f2 f3 f4 f5 f6 f7
          have HB' := Lib.hid (hst.2.below HB.out NX.out)
          have G1' := Lib.hid (G1.out.frP hst.2 X1.out)
          have G2' := Lib.hid (G2.out.frP hst.2 X2.out)
          have HZ' := Lib.hid ((hst.2.block _ (Array.getElem?_eq_some_iff.1 HZ.out).1 (Ne.symm NE.out)).trans HZ.out)
          have HX' := Lib.hid hst.1
          clear hst HB G1 G2 HX HZ
          have HB := HB'; clear HB'
          have G1 := G1'; clear G1'
          have G2 := G2'; clear G2'
          have HX := HX'; clear HX'
          have HZ := HZ'; clear HZ'
          have hS := hS'; clear hS'
          refine RN.all (rs := [7]) (by kernel_rfl) (by simp) ?_
          refine RN.All.cons rfl (fun K hK => ?_) RN.All.nil
          have fx : ∀ i, V52.frozen? ⟨bz, i, none⟩ = false := fun i => frozen_of_row _ _ _ _ _ HZ.out
          have f0 := fx 0; have c0 : V52.cell? ⟨bz, 0, none⟩ = some (.int .i64 0) := Lib.cell_of_heap HZ.out 0
          have f1 := fx 1; have c1 : V52.cell? ⟨bz, 1, none⟩ = some (.string ⟨#[]⟩) := Lib.cell_of_heap HZ.out 1
          have f2 := fx 2; have c2 : V52.cell? ⟨bz, 2, none⟩ = some (.bool false) := Lib.cell_of_heap HZ.out 2
          have f3 := fx 3; have c3 : V52.cell? ⟨bz, 3, none⟩ = some (.slice none 0 0) := Lib.cell_of_heap HZ.out 3
          have f4 := fx 4; have c4 : V52.cell? ⟨bz, 4, none⟩ = some (.slice none 0 0) := Lib.cell_of_heap HZ.out 4
          have f5 := fx 5; have c5 : V52.cell? ⟨bz, 5, none⟩ = some (.slice none 0 0) := Lib.cell_of_heap HZ.out 5
          have f6 := fx 6; have c6 : V52.cell? ⟨bz, 6, none⟩ = some (.slice none 0 0) := Lib.cell_of_heap HZ.out 6
          have f7 := fx 7; have c7 : V52.cell? ⟨bz, 7, none⟩ = some (.slice none 0 0) := Lib.cell_of_heap HZ.out 7
          clear fx
          go_simp
          have hst := stored9 V52 bz (.int .i64 k) (.string nm) (.bool g) (.slice z1 az.length j1) (.slice z2 ws.length j2) (.slice z3 ks.len j3) (.slice z4 bs.length j4) (.slice z5 cz.len j5) _ _ _ _ _ _ _ _ _ HZ.out
          have hab : bz ≠ w.heap.size := by have h1 := NZ.out; have h2 := (Array.getElem?_eq_some_iff.1 HROW.out).1; omega
          have hS' := (hst.2.block _ (Array.getElem?_eq_some_iff.1 hS).1 (Ne.symm hab)).trans hS
          refine hK _ _ (fun _ => hS') ?_
          generalize ((((((((V52.setCell ⟨bz, 0, none⟩ (.int .i64 k)).setCell ⟨bz, 1, none⟩ (.string nm)).setCell ⟨bz, 2, none⟩ (.bool g)).setCell ⟨bz, 3, none⟩ (.slice z1 az.length j1)).setCell ⟨bz, 4, none⟩ (.slice z2 ws.length j2)).setCell ⟨bz, 5, none⟩ (.slice z3 ks.len j3)).setCell ⟨bz, 6, none⟩ (.slice z4 bs.length j4)).setCell ⟨bz, 7, none⟩ (.slice z5 cz.len j5)) = V53 at hst hS' ⊢
          clear hK K hS hab c0 c1 c2 c3 c4 c5 c6 c7 f0 f1 f2 f3 f4 f5 f6 f7
          have HB' := Lib.hid (hst.2.below HB.out NZ.out)
          have G1' := Lib.hid (G1.out.frP hst.2 Z1.out)
          have G2' := Lib.hid (G2.out.frP hst.2 Z2.out)
          have HX' := Lib.hid ((hst.2.block _ (Array.getElem?_eq_some_iff.1 HX.out).1 NE.out).trans HX.out)
          have HZ' := Lib.hid hst.1
          clear hst HB G1 G2 HX HZ
          have HB := HB'; clear HB'
          have G1 := G1'; clear G1'
          have G2 := G2'; clear G2'
          have HX := HX'; clear HX'
          have HZ := HZ'; clear HZ'
          have hS := hS'; clear hS'
          refine RN.done (by kernel_rfl) ?_ _
          exact ⟨rfl, y1, i1, y2, i2, y3, i3, y4, i4, y5, i5, z1, j1, z2, j2, z3, j3, z4, j4, z5, j5, bx, bz, lo1, hi1, lo2, hi2, rfl, ⟨HB.out, HX.out, HZ.out, NX.out, NZ.out, NE.out, G1.out, G2.out, X1.out, X2.out, Z1.out, Z2.out, LE.out⟩⟩
      · go_simp
        have hb := bel1 V44 (.cells #[.int .i64 0, .string ⟨#[]⟩, .bool false, .slice none 0 0, .slice none 0 0, .slice none 0 0, .slice none 0 0, .slice none 0 0] 28)
        have HX := Lib.hid (heap_new' V44 (.cells #[.int .i64 0, .string ⟨#[]⟩, .bool false, .slice none 0 0, .slice none 0 0, .slice none 0 0, .slice none 0 0, .slice none 0 0] 28))
        have HB' := Lib.hid (thru HB.out hb)
        have hS' := (hb.block _ (Array.getElem?_eq_some_iff.1 hS).1).trans hS
        have NX := Lib.hid HB.out.size
        have HZ' := Lib.hid ((hb.block _ (Array.getElem?_eq_some_iff.1 HZ.out).1).trans HZ.out)
        have NE : Hid (V44.heap.size ≠ bz) := Lib.hid (Nat.ne_of_gt (Array.getElem?_eq_some_iff.1 HZ.out).1)
        refine hK _ _ (fun _ => hS') ?_
        clear hK K
        clear hb HB hS HZ
        have HB := HB'; clear HB'
        have HZ := HZ'; clear HZ'
        have hS := hS'; clear hS'
        generalize V44.heap.size = bx at HX NX NE ⊢
        generalize V44.alloc (.cells #[.int .i64 0, .string ⟨#[]⟩, .bool false, .slice none 0 0, .slice none 0 0, .slice none 0 0, .slice none 0 0, .slice none 0 0] 28) = V54 at HB hS HX HZ ⊢
        refine RN.all (rs := [1]) (by kernel_rfl) (by simp) ?_
        refine RN.All.cons rfl (fun K hK => ?_) RN.All.nil
        go_simp
        refine (HC.out V54 (thru HB0.out HB.out)).mono ?_
        rintro e V55 ⟨y1, i1, y2, i2, y3, i3, y4, i4, y5, i5, rfl, hb, hg⟩
        have G1' := Lib.hid (Got.of HB.out.size hb hg)
        have HB' := Lib.hid (thru HB.out hb)
        have hS' := (hb.block _ (Array.getElem?_eq_some_iff.1 hS).1).trans hS
        have HX' := Lib.hid ((hb.block _ (Array.getElem?_eq_some_iff.1 HX.out).1).trans HX.out)
        have X1 : Hid (Out bx V54.heap.size V55.heap.size) := Lib.hid (.inl (Array.getElem?_eq_some_iff.1 HX.out).1)
        have HZ' := Lib.hid ((hb.block _ (Array.getElem?_eq_some_iff.1 HZ.out).1).trans HZ.out)
        have Z1 : Hid (Out bz V54.heap.size V55.heap.size) := Lib.hid (.inl (Array.getElem?_eq_some_iff.1 HZ.out).1)
        clear hb hg HB hS HX HZ
        have G1 := G1'; clear G1'
        have HB := HB'; clear HB'
        have HX := HX'; clear HX'
        have HZ := HZ'; clear HZ'
        have hS := hS'; clear hS'
        generalize V54.heap.size = lo1 at G1 X1 Z1
        obtain ⟨hi1, hhi⟩ : ∃ hi1, hi1 = V55.heap.size := ⟨_, rfl⟩
        rw [← hhi] at G1 X1 Z1
        clear hhi
        refine hK _ _ (fun _ => hS) ?_
        clear hK K
        refine RN.all (rs := [3]) (by kernel_rfl) (by simp) ?_
        refine RN.All.cons rfl (fun K hK => ?_) RN.All.nil
        go_simp
        refine (HC.out V55 (thru HB0.out HB.out)).mono ?_
        rintro e V56 ⟨z1, j1, z2, j2, z3, j3, z4, j4, z5, j5, rfl, hb, hg⟩
        have G2' := Lib.hid (Got.of HB.out.size hb hg)
        have HB' := Lib.hid (thru HB.out hb)
        have hS' := (hb.block _ (Array.getElem?_eq_some_iff.1 hS).1).trans hS
        have LE := Lib.hid G1.out.2.2.1
        have G1' := Lib.hid (G1.out.below hb)
        have HX' := Lib.hid ((hb.block _ (Array.getElem?_eq_some_iff.1 HX.out).1).trans HX.out)
        have X2 : Hid (Out bx V55.heap.size V56.heap.size) := Lib.hid (.inl (Array.getElem?_eq_some_iff.1 HX.out).1)
        have HZ' := Lib.hid ((hb.block _ (Array.getElem?_eq_some_iff.1 HZ.out).1).trans HZ.out)
        have Z2 : Hid (Out bz V55.heap.size V56.heap.size) := Lib.hid (.inl (Array.getElem?_eq_some_iff.1 HZ.out).1)
        clear hb hg HB hS G1 HX HZ
        have G2 := G2'; clear G2'
        have HB := HB'; clear HB'
        have G1 := G1'; clear G1'
        have HX := HX'; clear HX'
        have HZ := HZ'; clear HZ'
        have hS := hS'; clear hS'
        generalize V55.heap.size = lo2 at G2 LE X2 Z2
        obtain ⟨hi2, hhi⟩ : ∃ hi2, hi2 = V56.heap.size := ⟨_, rfl⟩
        rw [← hhi] at G2 X2 Z2
        clear hhi
        refine hK _ _ (fun _ => hS) ?_
        clear hK K
        refine RN.all (rs := [6]) (by kernel_rfl) (by simp) ?_
        refine RN.All.cons rfl (fun K hK => ?_) RN.All.nil
        have fx : ∀ i, V56.frozen? ⟨bx, i, none⟩ = false := fun i => frozen_of_row _ _ _ _ _ HX.out
        have f0 := fx 0; have c0 : V56.cell? ⟨bx, 0, none⟩ = some (.int .i64 0) := Lib.cell_of_heap HX.out 0
        have f1 := fx 1; have c1 : V56.cell? ⟨bx, 1, none⟩ = some (.string ⟨#[]⟩) := Lib.cell_of_heap HX.out 1
        have f2 := fx 2; have c2 : V56.cell? ⟨bx, 2, none⟩ = some (.bool false) := Lib.cell_of_heap HX.out 2
        have f3 := fx 3; have c3 : V56.cell? ⟨bx, 3, none⟩ = some (.slice none 0 0) := Lib.cell_of_heap HX.out 3
        have f4 := fx 4; have c4 : V56.cell? ⟨bx, 4, none⟩ = some (.slice none 0 0) := Lib.cell_of_heap HX.out 4
        have f5 := fx 5; have c5 : V56.cell? ⟨bx, 5, none⟩ = some (.slice none 0 0) := Lib.cell_of_heap HX.out 5
        have f6 := fx 6; have c6 : V56.cell? ⟨bx, 6, none⟩ = some (.slice none 0 0) := Lib.cell_of_heap HX.out 6
        have f7 := fx 7; have c7 : V56.cell? ⟨bx, 7, none⟩ = some (.slice none 0 0) := Lib.cell_of_heap HX.out 7
        clear fx
        go_simp
        have hst := stored9 V56 bx (.int .i64 k) (.string nm) (.bool g) (.slice y1 az.length i1) (.slice y2 ws.length i2) (.slice y3 ks.len i3) (.slice y4 bs.length i4) (.slice y5 cz.len i5) _ _ _ _ _ _ _ _ _ HX.out
        have hab : bx ≠ w.heap.size := by have h1 := NX.out; have h2 := (Array.getElem?_eq_some_iff.1 HROW.out).1; omega
        have hS' := (hst.2.block _ (Array.getElem?_eq_some_iff.1 hS).1 (Ne.symm hab)).trans hS
        refine hK _ _ (fun _ => hS') ?_
        generalize ((((((((V56.setCell ⟨bx, 0, none⟩ (.int .i64 k)).setCell ⟨bx, 1, none⟩ (.string nm)).setCell ⟨bx, 2, none⟩ (.bool g)).setCell ⟨bx, 3, none⟩ (.slice y1 az.length i1)).setCell ⟨bx, 4, none⟩ (.slice y2 ws.length i2)).setCell ⟨bx, 5, none⟩ (.slice y3 ks.len i3)).setCell ⟨bx, 6, none⟩ (.slice y4 bs.length i4)).setCell ⟨bx, 7, none⟩ (.slice y5 cz.len i5)) = V57 at hst hS' ⊢
        clear hK K hS hab c0 c1 c2 c3 c4 c5 c6 c7 f0 f1 f2 f3 f4 f5 f6 f7
        have HB' := Lib.hid (hst.2.below HB.out NX.out)
        have G1' := Lib.hid (G1.out.frP hst.2 X1.out)
        have G2' := Lib.hid (G2.out.frP hst.2 X2.out)
        have HZ' := Lib.hid ((hst.2.block _ (Array.getElem?_eq_some_iff.1 HZ.out).1 (Ne.symm NE.out)).trans HZ.out)
        have HX' := Lib.hid hst.1
        clear hst HB G1 G2 HX HZ
        have HB := HB'; clear HB'
        have G1 := G1'; clear G1'
        have G2 := G2'; clear G2'
        have HX := HX'; clear HX'
        have HZ := HZ'; clear HZ'
        have hS := hS'; clear hS'
        refine RN.all (rs := [7]) (by kernel_rfl) (by simp) ?_
        refine RN.All.cons rfl (fun K hK => ?_) RN.All.nil
        have fx : ∀ i, V57.frozen? ⟨bz, i, none⟩ = false := fun i => frozen_of_row _ _ _ _ _ HZ.out
        have f0 := fx 0; have c0 : V57.cell? ⟨bz, 0, none⟩ = some (.int .i64 0) := Lib.cell_of_heap HZ.out 0
        have f1 := fx 1; have c1 : V57.cell? ⟨bz, 1, none⟩ = some (.string ⟨#[]⟩) := Lib.cell_of_heap HZ.out 1
        have f2 := fx 2; have c2 : V57.cell? ⟨bz, 2, none⟩ = some (.bool false) := Lib.cell_of_heap HZ.out 2
        have f3 := fx 3; have c3 : V57.cell? ⟨bz, 3, none⟩ = some (.slice none 0 0) := Lib.cell_of_heap HZ.out 3
        have f4 := fx 4; have c4 : V57.cell? ⟨bz, 4, none⟩ = some (.slice none 0 0) := Lib.cell_of_heap HZ.out 4
        have f5 := fx 5; have c5 : V57.cell? ⟨bz, 5, none⟩ = some (.slice none 0 0) := Lib.cell_of_heap HZ.out 5
        have f6 := fx 6; have c6 : V57.cell? ⟨bz, 6, none⟩ = some (.slice none 0 0) := Lib.cell_of_heap HZ.out 6
        have f7 := fx 7; have c7 : V57.cell? ⟨bz, 7, none⟩ = some (.slice none 0 0) := Lib.cell_of_heap HZ.out 7
        clear fx
        go_simp
        have hst := stored9 V57 bz (.int .i64 k) (.string nm) (.bool g) (.slice z1 az.length j1) (.slice z2 ws.length j2) (.slice z3 ks.len j3) (.slice z4 bs.length j4) (.slice z5 cz.len j5) _ _ _ _ _ _ _ _ _ HZ.out
        have hab : bz ≠ w.heap.size := by have h1 := NZ.out; have h2 := (Array.getElem?_eq_some_iff.1 HROW.out).1; omega
        have hS' := (hst.2.block _ (Array.getElem?_eq_some_iff.1 hS).1 (Ne.symm hab)).trans hS
        refine hK _ _ (fun _ => hS') ?_
        generalize ((((((((V57.setCell ⟨bz, 0, none⟩ (.int .i64 k)).setCell ⟨bz, 1, none⟩ (.string nm)).setCell ⟨bz, 2, none⟩ (.bool g)).setCell ⟨bz, 3, none⟩ (.slice z1 az.length j1)).setCell ⟨bz, 4, none⟩ (.slice z2 ws.length j2)).setCell ⟨bz, 5, none⟩ (.slice z3 ks.len j3)).setCell ⟨bz, 6, none⟩ (.slice z4 bs.length j4)).setCell ⟨bz, 7, none⟩ (.slice z5 cz.len j5)) = V58 at hst hS' ⊢
        clear hK K hS hab c0 c1 c2 c3 c4 c5 c6 c7 f0 f1 f2 f3 f4 f5 f6 f7
        have HB' := Lib.hid (hst.2.below HB.out NZ.out)
        have G1' := Lib.hid (G1.out.frP hst.2 Z1.out)
        have G2' := Lib.hid (G2.out.frP hst.2 Z2.out)
        have HX' := Lib.hid ((hst.2.block _ (Array.getElem?_eq_some_iff.1 HX.out).1 NE.out).trans HX.out)
        have HZ' := Lib.hid hst.1
        clear hst HB G1 G2 HX HZ
        have HB := HB'; clear HB'
        have G1 := G1'; clear G1'
        have G2 := G2'; clear G2'
        have HX := HX'; clear HX'
        have HZ := HZ'; clear HZ'
        have hS := hS'; clear hS'
        refine RN.done (by kernel_rfl) ?_ _
        exact ⟨rfl, y1, i1, y2, i2, y3, i3, y4, i4, y5, i5, z1, j1, z2, j2, z3, j3, z4, j4, z5, j5, bx, bz, lo1, hi1, lo2, hi2, rfl, ⟨HB.out, HX.out, HZ.out, NX.out, NZ.out, NE.out, G1.out, G2.out, X1.out, X2.out, Z1.out, Z2.out, LE.out⟩⟩
  clear q0 q1 q2 q3 q4 q5 q6 q7
  rintro e a V ⟨rfl, y1, i1, y2, i2, y3, i3, y4, i4, y5, i5, z1, j1, z2, j2, z3, j3, z4, j4, z5, j5, bx, bz, lo1, hi1, lo2, hi2, rfl, hV⟩
  have HV := Lib.hid hV
  clear hV HB2
  have hy := en_holds HV.out.en1 HH.out.okk HH.out.okc HV.out.hx
  have hsm := same_all (ks.size + cz.size) k nm g az ws ks bs cz k nm g az ws ks bs cz y1 i1 y2 i2 y3 i3 y4 i4 y5 i5 x1 d1 x2 d2 x3 d3 x4 d4 x5 d5 V (Nat.lt_succ_self _) hy (HH.out.below (thru HB0.out HV.out.hb))
  rw [nodeEq_rfl] at hsm
  unfold nodeV at hsm
  have HSM := Lib.hid hsm
  clear hsm hy
  have q0 : V.cell? ⟨w.heap.size, 0, none⟩ = some (.int .i64 k) := cell_below (HV.out.hb) (Lib.cell_of_heap HROW.out 0)
  have q1 : V.cell? ⟨w.heap.size, 1, none⟩ = some (.string nm) := cell_below (HV.out.hb) (Lib.cell_of_heap HROW.out 1)
  have q2 : V.cell? ⟨w.heap.size, 2, none⟩ = some (.bool g) := cell_below (HV.out.hb) (Lib.cell_of_heap HROW.out 2)
  have q3 : V.cell? ⟨w.heap.size, 3, none⟩ = some (.slice x1 az.length d1) := cell_below (HV.out.hb) (Lib.cell_of_heap HROW.out 3)
  have q4 : V.cell? ⟨w.heap.size, 4, none⟩ = some (.slice x2 ws.length d2) := cell_below (HV.out.hb) (Lib.cell_of_heap HROW.out 4)
  have q5 : V.cell? ⟨w.heap.size, 5, none⟩ = some (.slice x3 ks.len d3) := cell_below (HV.out.hb) (Lib.cell_of_heap HROW.out 5)
  have q6 : V.cell? ⟨w.heap.size, 6, none⟩ = some (.slice x4 bs.length d4) := cell_below (HV.out.hb) (Lib.cell_of_heap HROW.out 6)
  have q7 : V.cell? ⟨w.heap.size, 7, none⟩ = some (.slice x5 cz.len d5) := cell_below (HV.out.hb) (Lib.cell_of_heap HROW.out 7)
  have p0 : V.cell? ⟨bx, 0, none⟩ = some (.int .i64 k) := Lib.cell_of_heap HV.out.hx 0
  have p1 : V.cell? ⟨bx, 1, none⟩ = some (.string nm) := Lib.cell_of_heap HV.out.hx 1
  have p2 : V.cell? ⟨bx, 2, none⟩ = some (.bool g) := Lib.cell_of_heap HV.out.hx 2
  have p3 : V.cell? ⟨bx, 3, none⟩ = some (.slice y1 az.length i1) := Lib.cell_of_heap HV.out.hx 3
  have p4 : V.cell? ⟨bx, 4, none⟩ = some (.slice y2 ws.length i2) := Lib.cell_of_heap HV.out.hx 4
  have p5 : V.cell? ⟨bx, 5, none⟩ = some (.slice y3 ks.len i3) := Lib.cell_of_heap HV.out.hx 5
  have p6 : V.cell? ⟨bx, 6, none⟩ = some (.slice y4 bs.length i4) := Lib.cell_of_heap HV.out.hx 6
  have p7 : V.cell? ⟨bx, 7, none⟩ = some (.slice y5 cz.len i5) := Lib.cell_of_heap HV.out.hx 7
  go_wp2_with fail
  refine HSM.out.mono ?_
  rintro e V3 ⟨rfl, hb3⟩
  have HV3 := Lib.hid (HV.out.below hb3)
  clear q0 q1 q2 q3 q4 q5 q6 q7
  clear hb3 HSM HV p0 p1 p2 p3 p4 p5 p6 p7
  have hsp := spoil_all (ks.size + cz.size + 1 + 1) ⟨k, nm, g, az, ws, ks, bs, cz⟩ bx 0 lo1 hi1 V3 HV3.out.en1 HH.out.okk HH.out.okc HV3.out.x1 HV3.out.g1.2.2.1 ⟨_, _, HV3.out.hx⟩
  have HSP := Lib.hid hsp
  clear hsp
  go_wp2_with fail
  refine HSP.out.mono ?_
  rintro e V4 ⟨rfl, hs4⟩
  have hv4 := HV3.out.sp hs4
  clear hs4 HSP
  have hz := en_holds hv4.2.1 HH.out.okk HH.out.okc hv4.2.2
  have hsm := same_all (ks.size + cz.size) k nm g az ws ks bs cz k nm g az ws ks bs cz z1 j1 z2 j2 z3 j3 z4 j4 z5 j5 x1 d1 x2 d2 x3 d3 x4 d4 x5 d5 V4 (Nat.lt_succ_self _) hz (HH.out.below (thru HB0.out hv4.1))
  rw [nodeEq_rfl] at hsm
  unfold nodeV at hsm
  have HSM := Lib.hid hsm; have HV4 := Lib.hid hv4
  clear hsm hz HV3 hv4
  have q0 : V4.cell? ⟨w.heap.size, 0, none⟩ = some (.int .i64 k) := cell_below (HV4.out.1) (Lib.cell_of_heap HROW.out 0)
  have q1 : V4.cell? ⟨w.heap.size, 1, none⟩ = some (.string nm) := cell_below (HV4.out.1) (Lib.cell_of_heap HROW.out 1)
  have q2 : V4.cell? ⟨w.heap.size, 2, none⟩ = some (.bool g) := cell_below (HV4.out.1) (Lib.cell_of_heap HROW.out 2)
  have q3 : V4.cell? ⟨w.heap.size, 3, none⟩ = some (.slice x1 az.length d1) := cell_below (HV4.out.1) (Lib.cell_of_heap HROW.out 3)
  have q4 : V4.cell? ⟨w.heap.size, 4, none⟩ = some (.slice x2 ws.length d2) := cell_below (HV4.out.1) (Lib.cell_of_heap HROW.out 4)
  have q5 : V4.cell? ⟨w.heap.size, 5, none⟩ = some (.slice x3 ks.len d3) := cell_below (HV4.out.1) (Lib.cell_of_heap HROW.out 5)
  have q6 : V4.cell? ⟨w.heap.size, 6, none⟩ = some (.slice x4 bs.length d4) := cell_below (HV4.out.1) (Lib.cell_of_heap HROW.out 6)
  have q7 : V4.cell? ⟨w.heap.size, 7, none⟩ = some (.slice x5 cz.len d5) := cell_below (HV4.out.1) (Lib.cell_of_heap HROW.out 7)
  have p0 : V4.cell? ⟨bz, 0, none⟩ = some (.int .i64 k) := Lib.cell_of_heap HV4.out.2.2 0
  have p1 : V4.cell? ⟨bz, 1, none⟩ = some (.string nm) := Lib.cell_of_heap HV4.out.2.2 1
  have p2 : V4.cell? ⟨bz, 2, none⟩ = some (.bool g) := Lib.cell_of_heap HV4.out.2.2 2
  have p3 : V4.cell? ⟨bz, 3, none⟩ = some (.slice z1 az.length j1) := Lib.cell_of_heap HV4.out.2.2 3
  have p4 : V4.cell? ⟨bz, 4, none⟩ = some (.slice z2 ws.length j2) := Lib.cell_of_heap HV4.out.2.2 4
  have p5 : V4.cell? ⟨bz, 5, none⟩ = some (.slice z3 ks.len j3) := Lib.cell_of_heap HV4.out.2.2 5
  have p6 : V4.cell? ⟨bz, 6, none⟩ = some (.slice z4 bs.length j4) := Lib.cell_of_heap HV4.out.2.2 6
  have p7 : V4.cell? ⟨bz, 7, none⟩ = some (.slice z5 cz.len j5) := Lib.cell_of_heap HV4.out.2.2 7
  go_wp2_with fail
  refine HSM.out.mono ?_
  rintro e V5 ⟨rfl, hb5⟩
  go_wp2_with fail
  go_ret
  exact ⟨rfl, thru HB0.out (thru HV4.out.1 hb5)⟩
end Tr
end Go.Proofs.Ytmpongcambbihaa
