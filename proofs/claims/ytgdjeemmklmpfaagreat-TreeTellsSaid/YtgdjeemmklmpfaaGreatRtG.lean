/- The reference: what is asked of a node by its kind: kids one by one. -/
import Derived.Test.YtgdjeemmklmpfaaGreatRtF
import Derived.Test.YtgdjeemmklmpfaaGreatTrN
namespace Go.Proofs.YtgdjeemmklmpfaaGreat
open Go.RowKit Go.Sort
namespace Tr
open Cls Pt

set_option maxHeartbeats 1600000 in
set_option maxRecDepth 100000 in
theorem own_r2 : OwnAt 2 := by
  intro nm g az ws ks bs cz x1 d1 x2 d2 x3 d3 x4 d4 x5 d5 w h
  have hlk := h.hks.le
  have hlw := h.hws.le
  have hlb := h.hbs.le
  have hb0 := bel1 w (.cells #[.int .i64 2, .string nm, .bool g, .slice x1 az.length d1, .slice x2 ws.length d2, .slice x3 ks.len d3, .slice x4 bs.length d4, .slice x5 cz.len d5] 28)
  have hrow : (w.alloc (.cells #[.int .i64 2, .string nm, .bool g, .slice x1 az.length d1, .slice x2 ws.length d2, .slice x3 ks.len d3, .slice x4 bs.length d4, .slice x5 cz.len d5] 28)).heap[w.heap.size]? = some (.cells #[.int .i64 2, .string nm, .bool g, .slice x1 az.length d1, .slice x2 ws.length d2, .slice x3 ks.len d3, .slice x4 bs.length d4, .slice x5 cz.len d5] 28 (0, 0)) := heap_new' _ _
  have hn := fun W (hb : Below (w.alloc (.cells #[.int .i64 2, .string nm, .bool g, .slice x1 az.length d1, .slice x2 ws.length d2, .slice x3 ks.len d3, .slice x4 bs.length d4, .slice x5 cz.len d5] 28)).heap.size (w.alloc (.cells #[.int .i64 2, .string nm, .bool g, .slice x1 az.length d1, .slice x2 ws.length d2, .slice x3 ks.len d3, .slice x4 bs.length d4, .slice x5 cz.len d5] 28)) W) => later (none_any 2 nm g az ws ks bs cz x1 d1 x2 d2 x3 d3 x4 d4 x5 d5 ⟨#[107]⟩ (by decide) W (h.below (thru hb0 hb))) hb
  unfold nodeV at *
  generalize hNE : noneL (hasN nm g az ws ks bs cz) [107] = N at hn
  have HN := Lib.hid hn; have HNE := Lib.hid hNE; clear hn hNE
  have HK := Lib.hid h.hks; have HOK := Lib.hid h.okk
  clear h
  go_enter Tryz.func38, Tryz.ntmps38
  go_wp2_with fail
  generalize w.alloc (.cells #[.int .i64 2, .string nm, .bool g, .slice x1 az.length d1, .slice x2 ws.length d2, .slice x3 ks.len d3, .slice x4 bs.length d4, .slice x5 cz.len d5] 28) = W0 at *
  have hq0 : ∀ W, Below W0.heap.size W0 W → W.cell? ⟨w.heap.size, 0, none⟩ = some (.int .i64 2) := fun W hb => cell_below hb (Lib.cell_of_heap hrow 0)
  have hq1 : ∀ W, Below W0.heap.size W0 W → W.cell? ⟨w.heap.size, 1, none⟩ = some (.string nm) := fun W hb => cell_below hb (Lib.cell_of_heap hrow 1)
  have hq2 : ∀ W, Below W0.heap.size W0 W → W.cell? ⟨w.heap.size, 2, none⟩ = some (.bool g) := fun W hb => cell_below hb (Lib.cell_of_heap hrow 2)
  have hq3 : ∀ W, Below W0.heap.size W0 W → W.cell? ⟨w.heap.size, 3, none⟩ = some (.slice x1 az.length d1) := fun W hb => cell_below hb (Lib.cell_of_heap hrow 3)
  have hq4 : ∀ W, Below W0.heap.size W0 W → W.cell? ⟨w.heap.size, 4, none⟩ = some (.slice x2 ws.length d2) := fun W hb => cell_below hb (Lib.cell_of_heap hrow 4)
  have hq5 : ∀ W, Below W0.heap.size W0 W → W.cell? ⟨w.heap.size, 5, none⟩ = some (.slice x3 ks.len d3) := fun W hb => cell_below hb (Lib.cell_of_heap hrow 5)
  have hq6 : ∀ W, Below W0.heap.size W0 W → W.cell? ⟨w.heap.size, 6, none⟩ = some (.slice x4 bs.length d4) := fun W hb => cell_below hb (Lib.cell_of_heap hrow 6)
  have hq7 : ∀ W, Below W0.heap.size W0 W → W.cell? ⟨w.heap.size, 7, none⟩ = some (.slice x5 cz.len d5) := fun W hb => cell_below hb (Lib.cell_of_heap hrow 7)
  have HQ0 := Lib.hid hq0; clear hq0
  have HQ1 := Lib.hid hq1; clear hq1
  have HQ2 := Lib.hid hq2; clear hq2
  have HQ3 := Lib.hid hq3; clear hq3
  have HQ4 := Lib.hid hq4; clear hq4
  have HQ5 := Lib.hid hq5; clear hq5
  have HQ6 := Lib.hid hq6; clear hq6
  have HQ7 := Lib.hid hq7; clear hq7
  have HB0 := Lib.hid hb0; clear hb0 hrow
  have q0 := HQ0.out _ (Below.refl _ _); have q1 := HQ1.out _ (Below.refl _ _); have q2 := HQ2.out _ (Below.refl _ _); have q3 := HQ3.out _ (Below.refl _ _); have q4 := HQ4.out _ (Below.refl _ _); have q5 := HQ5.out _ (Below.refl _ _); have q6 := HQ6.out _ (Below.refl _ _); have q7 := HQ7.out _ (Below.refl _ _)
  have hbr := Below.refl W0.heap.size W0
  have HX := Lib.hid (show ownR 2 nm g az ws ks bs cz = (NB nm g az ws ks bs cz [107] && (decide (ks.len = 2) && twoB ks)) from rfl)
  by_cases h2 : ks.len = 2
  · obtain ⟨k1, nm1, g1, az1, ws1, ks1, bs1, cz1, k2, nm2, g2, az2, ws2, ks2, bs2, cz2, hks⟩ := two_nodes h2 HOK.out
    obtain ⟨b1, o1, rfl, hb1, x11, d11, x12, d12, x13, d13, x14, d14, x15, d15, hc1, hh1⟩ := HK.out.getN (i := 0) HOK.out hks
    obtain ⟨b1', o1', hxe, _, x21, d21, x22, d22, x23, d23, x24, d24, x25, d25, hc2, hh2⟩ := HK.out.getN (i := 1) HOK.out (show ks.drop 1 = _ by rw [hks]; rfl)
    cases hxe
    have m0 : ∀ W, Below W0.heap.size W0 W → W.cell? ⟨b1, o1, none⟩ = some (.int .i64 k1) := fun W hb => cell_below (thru HB0.out hb) (by have := hc1 0 (.int .i64 k1) rfl; simpa using this)
    have Hm0 := Lib.hid m0; clear m0
    have m1 : ∀ W, Below W0.heap.size W0 W → W.cell? ⟨b1, o1 + 1, none⟩ = some (.string nm1) := fun W hb => cell_below (thru HB0.out hb) (by have := hc1 1 (.string nm1) rfl; simpa using this)
    have Hm1 := Lib.hid m1; clear m1
    have m2 : ∀ W, Below W0.heap.size W0 W → W.cell? ⟨b1, o1 + 2, none⟩ = some (.bool g1) := fun W hb => cell_below (thru HB0.out hb) (by have := hc1 2 (.bool g1) rfl; simpa using this)
    have Hm2 := Lib.hid m2; clear m2
    have m3 : ∀ W, Below W0.heap.size W0 W → W.cell? ⟨b1, o1 + 3, none⟩ = some (.slice x11 az1.length d11) := fun W hb => cell_below (thru HB0.out hb) (by have := hc1 3 (.slice x11 az1.length d11) rfl; simpa using this)
    have Hm3 := Lib.hid m3; clear m3
    have m4 : ∀ W, Below W0.heap.size W0 W → W.cell? ⟨b1, o1 + 4, none⟩ = some (.slice x12 ws1.length d12) := fun W hb => cell_below (thru HB0.out hb) (by have := hc1 4 (.slice x12 ws1.length d12) rfl; simpa using this)
    have Hm4 := Lib.hid m4; clear m4
    have m5 : ∀ W, Below W0.heap.size W0 W → W.cell? ⟨b1, o1 + 5, none⟩ = some (.slice x13 ks1.len d13) := fun W hb => cell_below (thru HB0.out hb) (by have := hc1 5 (.slice x13 ks1.len d13) rfl; simpa using this)
    have Hm5 := Lib.hid m5; clear m5
    have m6 : ∀ W, Below W0.heap.size W0 W → W.cell? ⟨b1, o1 + 6, none⟩ = some (.slice x14 bs1.length d14) := fun W hb => cell_below (thru HB0.out hb) (by have := hc1 6 (.slice x14 bs1.length d14) rfl; simpa using this)
    have Hm6 := Lib.hid m6; clear m6
    have m7 : ∀ W, Below W0.heap.size W0 W → W.cell? ⟨b1, o1 + 7, none⟩ = some (.slice x15 cz1.len d15) := fun W hb => cell_below (thru HB0.out hb) (by have := hc1 7 (.slice x15 cz1.len d15) rfl; simpa using this)
    have Hm7 := Lib.hid m7; clear m7
    have n0 : ∀ W, Below W0.heap.size W0 W → W.cell? ⟨b1, o1 + 8, none⟩ = some (.int .i64 k2) := fun W hb => cell_below (thru HB0.out hb) (by have := hc2 0 (.int .i64 k2) rfl; simpa using this)
    have Hn0 := Lib.hid n0; clear n0
    have n1 : ∀ W, Below W0.heap.size W0 W → W.cell? ⟨b1, o1 + 9, none⟩ = some (.string nm2) := fun W hb => cell_below (thru HB0.out hb) (by have := hc2 1 (.string nm2) rfl; simpa using this)
    have Hn1 := Lib.hid n1; clear n1
    have n2 : ∀ W, Below W0.heap.size W0 W → W.cell? ⟨b1, o1 + 10, none⟩ = some (.bool g2) := fun W hb => cell_below (thru HB0.out hb) (by have := hc2 2 (.bool g2) rfl; simpa using this)
    have Hn2 := Lib.hid n2; clear n2
    have n3 : ∀ W, Below W0.heap.size W0 W → W.cell? ⟨b1, o1 + 11, none⟩ = some (.slice x21 az2.length d21) := fun W hb => cell_below (thru HB0.out hb) (by have := hc2 3 (.slice x21 az2.length d21) rfl; simpa using this)
    have Hn3 := Lib.hid n3; clear n3
    have n4 : ∀ W, Below W0.heap.size W0 W → W.cell? ⟨b1, o1 + 12, none⟩ = some (.slice x22 ws2.length d22) := fun W hb => cell_below (thru HB0.out hb) (by have := hc2 4 (.slice x22 ws2.length d22) rfl; simpa using this)
    have Hn4 := Lib.hid n4; clear n4
    have n5 : ∀ W, Below W0.heap.size W0 W → W.cell? ⟨b1, o1 + 13, none⟩ = some (.slice x23 ks2.len d23) := fun W hb => cell_below (thru HB0.out hb) (by have := hc2 5 (.slice x23 ks2.len d23) rfl; simpa using this)
    have Hn5 := Lib.hid n5; clear n5
    have n6 : ∀ W, Below W0.heap.size W0 W → W.cell? ⟨b1, o1 + 14, none⟩ = some (.slice x24 bs2.length d24) := fun W hb => cell_below (thru HB0.out hb) (by have := hc2 6 (.slice x24 bs2.length d24) rfl; simpa using this)
    have Hn6 := Lib.hid n6; clear n6
    have n7 : ∀ W, Below W0.heap.size W0 W → W.cell? ⟨b1, o1 + 15, none⟩ = some (.slice x25 cz2.len d25) := fun W hb => cell_below (thru HB0.out hb) (by have := hc2 7 (.slice x25 cz2.len d25) rfl; simpa using this)
    have Hn7 := Lib.hid n7; clear n7
    have hi := fun W (hb : Below W0.heap.size W0 W) => later (ritem_any k1 nm1 g1 az1 ws1 ks1 bs1 cz1 x11 d11 x12 d12 x13 d13 x14 d14 x15 d15 W) hb
    have hu := fun W (hb : Below W0.heap.size W0 W) => later (runit_any k2 nm2 g2 az2 ws2 ks2 bs2 cz2 x21 d21 x22 d22 x23 d23 x24 d24 x25 d25 W) hb
    unfold nodeV at hi hu
    have HY := Lib.hid (show twoB ks = (itemB k1 && unitB k2) by rw [hks]; rfl)
    generalize itemB k1 = IB at hi HY
    generalize unitB k2 = UB at hu HY
    have HI := Lib.hid hi; have HU := Lib.hid hu; have H2 := Lib.hid h2
    clear hi hu hc1 hc2 hh1 hh2 hks h2
    have h2' : ((ks.len : Int) == 2) = true := by rw [beq_iff_eq]; have := H2.out; omega
    have h2a : 0 < ks.len := by have := H2.out; omega
    have h2b : 1 < ks.len := by have := H2.out; omega
    cases N
    · go_wp2_with (first | (go_at_call 66; refine (HN.out _ (by assumption)).mono ?_; rintro e w1 ⟨rfl, hb⟩; have q0 := HQ0.out _ hb; have q1 := HQ1.out _ hb; have q2 := HQ2.out _ hb; have q3 := HQ3.out _ hb; have q4 := HQ4.out _ hb; have q5 := HQ5.out _ hb; have q6 := HQ6.out _ hb; have q7 := HQ7.out _ hb; have m0q := Hm0.out _ hb; have m1q := Hm1.out _ hb; have m2q := Hm2.out _ hb; have m3q := Hm3.out _ hb; have m4q := Hm4.out _ hb; have m5q := Hm5.out _ hb; have m6q := Hm6.out _ hb; have m7q := Hm7.out _ hb; have n0q := Hn0.out _ hb; have n1q := Hn1.out _ hb; have n2q := Hn2.out _ hb; have n3q := Hn3.out _ hb; have n4q := Hn4.out _ hb; have n5q := Hn5.out _ hb; have n6q := Hn6.out _ hb; have n7q := Hn7.out _ hb))
      go_ret
      exact ⟨ret_bool (by rw [HX.out]; simp only [NB, HNE.out]; rfl), thru HB0.out (by assumption)⟩
    cases IB
    · go_wp2_with (first | (go_at_call 66; refine (HN.out _ (by assumption)).mono ?_; rintro e w1 ⟨rfl, hb⟩; have q0 := HQ0.out _ hb; have q1 := HQ1.out _ hb; have q2 := HQ2.out _ hb; have q3 := HQ3.out _ hb; have q4 := HQ4.out _ hb; have q5 := HQ5.out _ hb; have q6 := HQ6.out _ hb; have q7 := HQ7.out _ hb; have m0q := Hm0.out _ hb; have m1q := Hm1.out _ hb; have m2q := Hm2.out _ hb; have m3q := Hm3.out _ hb; have m4q := Hm4.out _ hb; have m5q := Hm5.out _ hb; have m6q := Hm6.out _ hb; have m7q := Hm7.out _ hb; have n0q := Hn0.out _ hb; have n1q := Hn1.out _ hb; have n2q := Hn2.out _ hb; have n3q := Hn3.out _ hb; have n4q := Hn4.out _ hb; have n5q := Hn5.out _ hb; have n6q := Hn6.out _ hb; have n7q := Hn7.out _ hb) | (go_at_call 67; refine (HI.out _ (by assumption)).mono ?_; rintro e w2 ⟨rfl, hb⟩; have n0q := Hn0.out _ hb; have n1q := Hn1.out _ hb; have n2q := Hn2.out _ hb; have n3q := Hn3.out _ hb; have n4q := Hn4.out _ hb; have n5q := Hn5.out _ hb; have n6q := Hn6.out _ hb; have n7q := Hn7.out _ hb))
      go_ret
      exact ⟨ret_bool (by rw [HX.out]; simp only [NB, HNE.out]; rw [HY.out, H2.out]; rfl), thru HB0.out (by assumption)⟩
    cases UB
    all_goals
      go_wp2_with (first | (go_at_call 66; refine (HN.out _ (by assumption)).mono ?_; rintro e w1 ⟨rfl, hb⟩; have q0 := HQ0.out _ hb; have q1 := HQ1.out _ hb; have q2 := HQ2.out _ hb; have q3 := HQ3.out _ hb; have q4 := HQ4.out _ hb; have q5 := HQ5.out _ hb; have q6 := HQ6.out _ hb; have q7 := HQ7.out _ hb; have m0q := Hm0.out _ hb; have m1q := Hm1.out _ hb; have m2q := Hm2.out _ hb; have m3q := Hm3.out _ hb; have m4q := Hm4.out _ hb; have m5q := Hm5.out _ hb; have m6q := Hm6.out _ hb; have m7q := Hm7.out _ hb; have n0q := Hn0.out _ hb; have n1q := Hn1.out _ hb; have n2q := Hn2.out _ hb; have n3q := Hn3.out _ hb; have n4q := Hn4.out _ hb; have n5q := Hn5.out _ hb; have n6q := Hn6.out _ hb; have n7q := Hn7.out _ hb) | (go_at_call 67; refine (HI.out _ (by assumption)).mono ?_; rintro e w2 ⟨rfl, hb⟩; have n0q := Hn0.out _ hb; have n1q := Hn1.out _ hb; have n2q := Hn2.out _ hb; have n3q := Hn3.out _ hb; have n4q := Hn4.out _ hb; have n5q := Hn5.out _ hb; have n6q := Hn6.out _ hb; have n7q := Hn7.out _ hb) | (go_at_call 68; refine (HU.out _ (by assumption)).mono ?_; rintro e w3 ⟨rfl, hb⟩))
      go_ret
      exact ⟨ret_bool (by rw [HX.out]; simp only [NB, HNE.out]; rw [HY.out, H2.out]; rfl), thru HB0.out (by assumption)⟩
  · have h2' : ((ks.len : Int) == 2) = false := by rw [beq_eq_false_iff_ne]; omega
    have H2 := Lib.hid (decide_eq_false h2)
    clear h2
    cases N
    all_goals
      go_wp2_with (first | (go_at_call 66; refine (HN.out _ (by assumption)).mono ?_; rintro e w1 ⟨rfl, hb⟩; have q0 := HQ0.out _ hb; have q1 := HQ1.out _ hb; have q2 := HQ2.out _ hb; have q3 := HQ3.out _ hb; have q4 := HQ4.out _ hb; have q5 := HQ5.out _ hb; have q6 := HQ6.out _ hb; have q7 := HQ7.out _ hb))
      go_ret
      exact ⟨ret_bool (by rw [HX.out]; simp only [NB, HNE.out]; first | rfl | (rw [H2.out]; rfl)), thru HB0.out (by assumption)⟩

set_option maxHeartbeats 1600000 in
set_option maxRecDepth 100000 in
theorem own_r3 : OwnAt 3 := by
  intro nm g az ws ks bs cz x1 d1 x2 d2 x3 d3 x4 d4 x5 d5 w h
  have hlk := h.hks.le
  have hlw := h.hws.le
  have hlb := h.hbs.le
  have hb0 := bel1 w (.cells #[.int .i64 3, .string nm, .bool g, .slice x1 az.length d1, .slice x2 ws.length d2, .slice x3 ks.len d3, .slice x4 bs.length d4, .slice x5 cz.len d5] 28)
  have hrow : (w.alloc (.cells #[.int .i64 3, .string nm, .bool g, .slice x1 az.length d1, .slice x2 ws.length d2, .slice x3 ks.len d3, .slice x4 bs.length d4, .slice x5 cz.len d5] 28)).heap[w.heap.size]? = some (.cells #[.int .i64 3, .string nm, .bool g, .slice x1 az.length d1, .slice x2 ws.length d2, .slice x3 ks.len d3, .slice x4 bs.length d4, .slice x5 cz.len d5] 28 (0, 0)) := heap_new' _ _
  have hn := fun W (hb : Below (w.alloc (.cells #[.int .i64 3, .string nm, .bool g, .slice x1 az.length d1, .slice x2 ws.length d2, .slice x3 ks.len d3, .slice x4 bs.length d4, .slice x5 cz.len d5] 28)).heap.size (w.alloc (.cells #[.int .i64 3, .string nm, .bool g, .slice x1 az.length d1, .slice x2 ws.length d2, .slice x3 ks.len d3, .slice x4 bs.length d4, .slice x5 cz.len d5] 28)) W) => later (none_any 3 nm g az ws ks bs cz x1 d1 x2 d2 x3 d3 x4 d4 x5 d5 ⟨#[107]⟩ (by decide) W (h.below (thru hb0 hb))) hb
  unfold nodeV at *
  generalize hNE : noneL (hasN nm g az ws ks bs cz) [107] = N at hn
  have HN := Lib.hid hn; have HNE := Lib.hid hNE; clear hn hNE
  have HK := Lib.hid h.hks; have HOK := Lib.hid h.okk
  clear h
  go_enter Tryz.func38, Tryz.ntmps38
  go_wp2_with fail
  generalize w.alloc (.cells #[.int .i64 3, .string nm, .bool g, .slice x1 az.length d1, .slice x2 ws.length d2, .slice x3 ks.len d3, .slice x4 bs.length d4, .slice x5 cz.len d5] 28) = W0 at *
  have hq0 : ∀ W, Below W0.heap.size W0 W → W.cell? ⟨w.heap.size, 0, none⟩ = some (.int .i64 3) := fun W hb => cell_below hb (Lib.cell_of_heap hrow 0)
  have hq1 : ∀ W, Below W0.heap.size W0 W → W.cell? ⟨w.heap.size, 1, none⟩ = some (.string nm) := fun W hb => cell_below hb (Lib.cell_of_heap hrow 1)
  have hq2 : ∀ W, Below W0.heap.size W0 W → W.cell? ⟨w.heap.size, 2, none⟩ = some (.bool g) := fun W hb => cell_below hb (Lib.cell_of_heap hrow 2)
  have hq3 : ∀ W, Below W0.heap.size W0 W → W.cell? ⟨w.heap.size, 3, none⟩ = some (.slice x1 az.length d1) := fun W hb => cell_below hb (Lib.cell_of_heap hrow 3)
  have hq4 : ∀ W, Below W0.heap.size W0 W → W.cell? ⟨w.heap.size, 4, none⟩ = some (.slice x2 ws.length d2) := fun W hb => cell_below hb (Lib.cell_of_heap hrow 4)
  have hq5 : ∀ W, Below W0.heap.size W0 W → W.cell? ⟨w.heap.size, 5, none⟩ = some (.slice x3 ks.len d3) := fun W hb => cell_below hb (Lib.cell_of_heap hrow 5)
  have hq6 : ∀ W, Below W0.heap.size W0 W → W.cell? ⟨w.heap.size, 6, none⟩ = some (.slice x4 bs.length d4) := fun W hb => cell_below hb (Lib.cell_of_heap hrow 6)
  have hq7 : ∀ W, Below W0.heap.size W0 W → W.cell? ⟨w.heap.size, 7, none⟩ = some (.slice x5 cz.len d5) := fun W hb => cell_below hb (Lib.cell_of_heap hrow 7)
  have HQ0 := Lib.hid hq0; clear hq0
  have HQ1 := Lib.hid hq1; clear hq1
  have HQ2 := Lib.hid hq2; clear hq2
  have HQ3 := Lib.hid hq3; clear hq3
  have HQ4 := Lib.hid hq4; clear hq4
  have HQ5 := Lib.hid hq5; clear hq5
  have HQ6 := Lib.hid hq6; clear hq6
  have HQ7 := Lib.hid hq7; clear hq7
  have HB0 := Lib.hid hb0; clear hb0 hrow
  have q0 := HQ0.out _ (Below.refl _ _); have q1 := HQ1.out _ (Below.refl _ _); have q2 := HQ2.out _ (Below.refl _ _); have q3 := HQ3.out _ (Below.refl _ _); have q4 := HQ4.out _ (Below.refl _ _); have q5 := HQ5.out _ (Below.refl _ _); have q6 := HQ6.out _ (Below.refl _ _); have q7 := HQ7.out _ (Below.refl _ _)
  have hbr := Below.refl W0.heap.size W0
  have HX := Lib.hid (show ownR 3 nm g az ws ks bs cz = (NB nm g az ws ks bs cz [107] && (decide (ks.len = 2) && twoB ks)) from rfl)
  by_cases h2 : ks.len = 2
  · obtain ⟨k1, nm1, g1, az1, ws1, ks1, bs1, cz1, k2, nm2, g2, az2, ws2, ks2, bs2, cz2, hks⟩ := two_nodes h2 HOK.out
    obtain ⟨b1, o1, rfl, hb1, x11, d11, x12, d12, x13, d13, x14, d14, x15, d15, hc1, hh1⟩ := HK.out.getN (i := 0) HOK.out hks
    obtain ⟨b1', o1', hxe, _, x21, d21, x22, d22, x23, d23, x24, d24, x25, d25, hc2, hh2⟩ := HK.out.getN (i := 1) HOK.out (show ks.drop 1 = _ by rw [hks]; rfl)
    cases hxe
    have m0 : ∀ W, Below W0.heap.size W0 W → W.cell? ⟨b1, o1, none⟩ = some (.int .i64 k1) := fun W hb => cell_below (thru HB0.out hb) (by have := hc1 0 (.int .i64 k1) rfl; simpa using this)
    have Hm0 := Lib.hid m0; clear m0
    have m1 : ∀ W, Below W0.heap.size W0 W → W.cell? ⟨b1, o1 + 1, none⟩ = some (.string nm1) := fun W hb => cell_below (thru HB0.out hb) (by have := hc1 1 (.string nm1) rfl; simpa using this)
    have Hm1 := Lib.hid m1; clear m1
    have m2 : ∀ W, Below W0.heap.size W0 W → W.cell? ⟨b1, o1 + 2, none⟩ = some (.bool g1) := fun W hb => cell_below (thru HB0.out hb) (by have := hc1 2 (.bool g1) rfl; simpa using this)
    have Hm2 := Lib.hid m2; clear m2
    have m3 : ∀ W, Below W0.heap.size W0 W → W.cell? ⟨b1, o1 + 3, none⟩ = some (.slice x11 az1.length d11) := fun W hb => cell_below (thru HB0.out hb) (by have := hc1 3 (.slice x11 az1.length d11) rfl; simpa using this)
    have Hm3 := Lib.hid m3; clear m3
    have m4 : ∀ W, Below W0.heap.size W0 W → W.cell? ⟨b1, o1 + 4, none⟩ = some (.slice x12 ws1.length d12) := fun W hb => cell_below (thru HB0.out hb) (by have := hc1 4 (.slice x12 ws1.length d12) rfl; simpa using this)
    have Hm4 := Lib.hid m4; clear m4
    have m5 : ∀ W, Below W0.heap.size W0 W → W.cell? ⟨b1, o1 + 5, none⟩ = some (.slice x13 ks1.len d13) := fun W hb => cell_below (thru HB0.out hb) (by have := hc1 5 (.slice x13 ks1.len d13) rfl; simpa using this)
    have Hm5 := Lib.hid m5; clear m5
    have m6 : ∀ W, Below W0.heap.size W0 W → W.cell? ⟨b1, o1 + 6, none⟩ = some (.slice x14 bs1.length d14) := fun W hb => cell_below (thru HB0.out hb) (by have := hc1 6 (.slice x14 bs1.length d14) rfl; simpa using this)
    have Hm6 := Lib.hid m6; clear m6
    have m7 : ∀ W, Below W0.heap.size W0 W → W.cell? ⟨b1, o1 + 7, none⟩ = some (.slice x15 cz1.len d15) := fun W hb => cell_below (thru HB0.out hb) (by have := hc1 7 (.slice x15 cz1.len d15) rfl; simpa using this)
    have Hm7 := Lib.hid m7; clear m7
    have n0 : ∀ W, Below W0.heap.size W0 W → W.cell? ⟨b1, o1 + 8, none⟩ = some (.int .i64 k2) := fun W hb => cell_below (thru HB0.out hb) (by have := hc2 0 (.int .i64 k2) rfl; simpa using this)
    have Hn0 := Lib.hid n0; clear n0
    have n1 : ∀ W, Below W0.heap.size W0 W → W.cell? ⟨b1, o1 + 9, none⟩ = some (.string nm2) := fun W hb => cell_below (thru HB0.out hb) (by have := hc2 1 (.string nm2) rfl; simpa using this)
    have Hn1 := Lib.hid n1; clear n1
    have n2 : ∀ W, Below W0.heap.size W0 W → W.cell? ⟨b1, o1 + 10, none⟩ = some (.bool g2) := fun W hb => cell_below (thru HB0.out hb) (by have := hc2 2 (.bool g2) rfl; simpa using this)
    have Hn2 := Lib.hid n2; clear n2
    have n3 : ∀ W, Below W0.heap.size W0 W → W.cell? ⟨b1, o1 + 11, none⟩ = some (.slice x21 az2.length d21) := fun W hb => cell_below (thru HB0.out hb) (by have := hc2 3 (.slice x21 az2.length d21) rfl; simpa using this)
    have Hn3 := Lib.hid n3; clear n3
    have n4 : ∀ W, Below W0.heap.size W0 W → W.cell? ⟨b1, o1 + 12, none⟩ = some (.slice x22 ws2.length d22) := fun W hb => cell_below (thru HB0.out hb) (by have := hc2 4 (.slice x22 ws2.length d22) rfl; simpa using this)
    have Hn4 := Lib.hid n4; clear n4
    have n5 : ∀ W, Below W0.heap.size W0 W → W.cell? ⟨b1, o1 + 13, none⟩ = some (.slice x23 ks2.len d23) := fun W hb => cell_below (thru HB0.out hb) (by have := hc2 5 (.slice x23 ks2.len d23) rfl; simpa using this)
    have Hn5 := Lib.hid n5; clear n5
    have n6 : ∀ W, Below W0.heap.size W0 W → W.cell? ⟨b1, o1 + 14, none⟩ = some (.slice x24 bs2.length d24) := fun W hb => cell_below (thru HB0.out hb) (by have := hc2 6 (.slice x24 bs2.length d24) rfl; simpa using this)
    have Hn6 := Lib.hid n6; clear n6
    have n7 : ∀ W, Below W0.heap.size W0 W → W.cell? ⟨b1, o1 + 15, none⟩ = some (.slice x25 cz2.len d25) := fun W hb => cell_below (thru HB0.out hb) (by have := hc2 7 (.slice x25 cz2.len d25) rfl; simpa using this)
    have Hn7 := Lib.hid n7; clear n7
    have hi := fun W (hb : Below W0.heap.size W0 W) => later (ritem_any k1 nm1 g1 az1 ws1 ks1 bs1 cz1 x11 d11 x12 d12 x13 d13 x14 d14 x15 d15 W) hb
    have hu := fun W (hb : Below W0.heap.size W0 W) => later (runit_any k2 nm2 g2 az2 ws2 ks2 bs2 cz2 x21 d21 x22 d22 x23 d23 x24 d24 x25 d25 W) hb
    unfold nodeV at hi hu
    have HY := Lib.hid (show twoB ks = (itemB k1 && unitB k2) by rw [hks]; rfl)
    generalize itemB k1 = IB at hi HY
    generalize unitB k2 = UB at hu HY
    have HI := Lib.hid hi; have HU := Lib.hid hu; have H2 := Lib.hid h2
    clear hi hu hc1 hc2 hh1 hh2 hks h2
    have h2' : ((ks.len : Int) == 2) = true := by rw [beq_iff_eq]; have := H2.out; omega
    have h2a : 0 < ks.len := by have := H2.out; omega
    have h2b : 1 < ks.len := by have := H2.out; omega
    cases N
    · go_wp2_with (first | (go_at_call 66; refine (HN.out _ (by assumption)).mono ?_; rintro e w1 ⟨rfl, hb⟩; have q0 := HQ0.out _ hb; have q1 := HQ1.out _ hb; have q2 := HQ2.out _ hb; have q3 := HQ3.out _ hb; have q4 := HQ4.out _ hb; have q5 := HQ5.out _ hb; have q6 := HQ6.out _ hb; have q7 := HQ7.out _ hb; have m0q := Hm0.out _ hb; have m1q := Hm1.out _ hb; have m2q := Hm2.out _ hb; have m3q := Hm3.out _ hb; have m4q := Hm4.out _ hb; have m5q := Hm5.out _ hb; have m6q := Hm6.out _ hb; have m7q := Hm7.out _ hb; have n0q := Hn0.out _ hb; have n1q := Hn1.out _ hb; have n2q := Hn2.out _ hb; have n3q := Hn3.out _ hb; have n4q := Hn4.out _ hb; have n5q := Hn5.out _ hb; have n6q := Hn6.out _ hb; have n7q := Hn7.out _ hb))
      go_ret
      exact ⟨ret_bool (by rw [HX.out]; simp only [NB, HNE.out]; rfl), thru HB0.out (by assumption)⟩
    cases IB
    · go_wp2_with (first | (go_at_call 66; refine (HN.out _ (by assumption)).mono ?_; rintro e w1 ⟨rfl, hb⟩; have q0 := HQ0.out _ hb; have q1 := HQ1.out _ hb; have q2 := HQ2.out _ hb; have q3 := HQ3.out _ hb; have q4 := HQ4.out _ hb; have q5 := HQ5.out _ hb; have q6 := HQ6.out _ hb; have q7 := HQ7.out _ hb; have m0q := Hm0.out _ hb; have m1q := Hm1.out _ hb; have m2q := Hm2.out _ hb; have m3q := Hm3.out _ hb; have m4q := Hm4.out _ hb; have m5q := Hm5.out _ hb; have m6q := Hm6.out _ hb; have m7q := Hm7.out _ hb; have n0q := Hn0.out _ hb; have n1q := Hn1.out _ hb; have n2q := Hn2.out _ hb; have n3q := Hn3.out _ hb; have n4q := Hn4.out _ hb; have n5q := Hn5.out _ hb; have n6q := Hn6.out _ hb; have n7q := Hn7.out _ hb) | (go_at_call 67; refine (HI.out _ (by assumption)).mono ?_; rintro e w2 ⟨rfl, hb⟩; have n0q := Hn0.out _ hb; have n1q := Hn1.out _ hb; have n2q := Hn2.out _ hb; have n3q := Hn3.out _ hb; have n4q := Hn4.out _ hb; have n5q := Hn5.out _ hb; have n6q := Hn6.out _ hb; have n7q := Hn7.out _ hb))
      go_ret
      exact ⟨ret_bool (by rw [HX.out]; simp only [NB, HNE.out]; rw [HY.out, H2.out]; rfl), thru HB0.out (by assumption)⟩
    cases UB
    all_goals
      go_wp2_with (first | (go_at_call 66; refine (HN.out _ (by assumption)).mono ?_; rintro e w1 ⟨rfl, hb⟩; have q0 := HQ0.out _ hb; have q1 := HQ1.out _ hb; have q2 := HQ2.out _ hb; have q3 := HQ3.out _ hb; have q4 := HQ4.out _ hb; have q5 := HQ5.out _ hb; have q6 := HQ6.out _ hb; have q7 := HQ7.out _ hb; have m0q := Hm0.out _ hb; have m1q := Hm1.out _ hb; have m2q := Hm2.out _ hb; have m3q := Hm3.out _ hb; have m4q := Hm4.out _ hb; have m5q := Hm5.out _ hb; have m6q := Hm6.out _ hb; have m7q := Hm7.out _ hb; have n0q := Hn0.out _ hb; have n1q := Hn1.out _ hb; have n2q := Hn2.out _ hb; have n3q := Hn3.out _ hb; have n4q := Hn4.out _ hb; have n5q := Hn5.out _ hb; have n6q := Hn6.out _ hb; have n7q := Hn7.out _ hb) | (go_at_call 67; refine (HI.out _ (by assumption)).mono ?_; rintro e w2 ⟨rfl, hb⟩; have n0q := Hn0.out _ hb; have n1q := Hn1.out _ hb; have n2q := Hn2.out _ hb; have n3q := Hn3.out _ hb; have n4q := Hn4.out _ hb; have n5q := Hn5.out _ hb; have n6q := Hn6.out _ hb; have n7q := Hn7.out _ hb) | (go_at_call 68; refine (HU.out _ (by assumption)).mono ?_; rintro e w3 ⟨rfl, hb⟩))
      go_ret
      exact ⟨ret_bool (by rw [HX.out]; simp only [NB, HNE.out]; rw [HY.out, H2.out]; rfl), thru HB0.out (by assumption)⟩
  · have h2' : ((ks.len : Int) == 2) = false := by rw [beq_eq_false_iff_ne]; omega
    have H2 := Lib.hid (decide_eq_false h2)
    clear h2
    cases N
    all_goals
      go_wp2_with (first | (go_at_call 66; refine (HN.out _ (by assumption)).mono ?_; rintro e w1 ⟨rfl, hb⟩; have q0 := HQ0.out _ hb; have q1 := HQ1.out _ hb; have q2 := HQ2.out _ hb; have q3 := HQ3.out _ hb; have q4 := HQ4.out _ hb; have q5 := HQ5.out _ hb; have q6 := HQ6.out _ hb; have q7 := HQ7.out _ hb))
      go_ret
      exact ⟨ret_bool (by rw [HX.out]; simp only [NB, HNE.out]; first | rfl | (rw [H2.out]; rfl)), thru HB0.out (by assumption)⟩

set_option maxHeartbeats 1600000 in
set_option maxRecDepth 100000 in
theorem own_r4 : OwnAt 4 := by
  intro nm g az ws ks bs cz x1 d1 x2 d2 x3 d3 x4 d4 x5 d5 w h
  have hlk := h.hks.le
  have hlw := h.hws.le
  have hlb := h.hbs.le
  have hb0 := bel1 w (.cells #[.int .i64 4, .string nm, .bool g, .slice x1 az.length d1, .slice x2 ws.length d2, .slice x3 ks.len d3, .slice x4 bs.length d4, .slice x5 cz.len d5] 28)
  have hrow : (w.alloc (.cells #[.int .i64 4, .string nm, .bool g, .slice x1 az.length d1, .slice x2 ws.length d2, .slice x3 ks.len d3, .slice x4 bs.length d4, .slice x5 cz.len d5] 28)).heap[w.heap.size]? = some (.cells #[.int .i64 4, .string nm, .bool g, .slice x1 az.length d1, .slice x2 ws.length d2, .slice x3 ks.len d3, .slice x4 bs.length d4, .slice x5 cz.len d5] 28 (0, 0)) := heap_new' _ _
  have hn := fun W (hb : Below (w.alloc (.cells #[.int .i64 4, .string nm, .bool g, .slice x1 az.length d1, .slice x2 ws.length d2, .slice x3 ks.len d3, .slice x4 bs.length d4, .slice x5 cz.len d5] 28)).heap.size (w.alloc (.cells #[.int .i64 4, .string nm, .bool g, .slice x1 az.length d1, .slice x2 ws.length d2, .slice x3 ks.len d3, .slice x4 bs.length d4, .slice x5 cz.len d5] 28)) W) => later (none_any 4 nm g az ws ks bs cz x1 d1 x2 d2 x3 d3 x4 d4 x5 d5 ⟨#[107]⟩ (by decide) W (h.below (thru hb0 hb))) hb
  unfold nodeV at *
  generalize hNE : noneL (hasN nm g az ws ks bs cz) [107] = N at hn
  have HN := Lib.hid hn; have HNE := Lib.hid hNE; clear hn hNE
  have HK := Lib.hid h.hks; have HOK := Lib.hid h.okk
  clear h
  go_enter Tryz.func38, Tryz.ntmps38
  go_wp2_with fail
  generalize w.alloc (.cells #[.int .i64 4, .string nm, .bool g, .slice x1 az.length d1, .slice x2 ws.length d2, .slice x3 ks.len d3, .slice x4 bs.length d4, .slice x5 cz.len d5] 28) = W0 at *
  have hq0 : ∀ W, Below W0.heap.size W0 W → W.cell? ⟨w.heap.size, 0, none⟩ = some (.int .i64 4) := fun W hb => cell_below hb (Lib.cell_of_heap hrow 0)
  have hq1 : ∀ W, Below W0.heap.size W0 W → W.cell? ⟨w.heap.size, 1, none⟩ = some (.string nm) := fun W hb => cell_below hb (Lib.cell_of_heap hrow 1)
  have hq2 : ∀ W, Below W0.heap.size W0 W → W.cell? ⟨w.heap.size, 2, none⟩ = some (.bool g) := fun W hb => cell_below hb (Lib.cell_of_heap hrow 2)
  have hq3 : ∀ W, Below W0.heap.size W0 W → W.cell? ⟨w.heap.size, 3, none⟩ = some (.slice x1 az.length d1) := fun W hb => cell_below hb (Lib.cell_of_heap hrow 3)
  have hq4 : ∀ W, Below W0.heap.size W0 W → W.cell? ⟨w.heap.size, 4, none⟩ = some (.slice x2 ws.length d2) := fun W hb => cell_below hb (Lib.cell_of_heap hrow 4)
  have hq5 : ∀ W, Below W0.heap.size W0 W → W.cell? ⟨w.heap.size, 5, none⟩ = some (.slice x3 ks.len d3) := fun W hb => cell_below hb (Lib.cell_of_heap hrow 5)
  have hq6 : ∀ W, Below W0.heap.size W0 W → W.cell? ⟨w.heap.size, 6, none⟩ = some (.slice x4 bs.length d4) := fun W hb => cell_below hb (Lib.cell_of_heap hrow 6)
  have hq7 : ∀ W, Below W0.heap.size W0 W → W.cell? ⟨w.heap.size, 7, none⟩ = some (.slice x5 cz.len d5) := fun W hb => cell_below hb (Lib.cell_of_heap hrow 7)
  have HQ0 := Lib.hid hq0; clear hq0
  have HQ1 := Lib.hid hq1; clear hq1
  have HQ2 := Lib.hid hq2; clear hq2
  have HQ3 := Lib.hid hq3; clear hq3
  have HQ4 := Lib.hid hq4; clear hq4
  have HQ5 := Lib.hid hq5; clear hq5
  have HQ6 := Lib.hid hq6; clear hq6
  have HQ7 := Lib.hid hq7; clear hq7
  have HB0 := Lib.hid hb0; clear hb0 hrow
  have q0 := HQ0.out _ (Below.refl _ _); have q1 := HQ1.out _ (Below.refl _ _); have q2 := HQ2.out _ (Below.refl _ _); have q3 := HQ3.out _ (Below.refl _ _); have q4 := HQ4.out _ (Below.refl _ _); have q5 := HQ5.out _ (Below.refl _ _); have q6 := HQ6.out _ (Below.refl _ _); have q7 := HQ7.out _ (Below.refl _ _)
  have hbr := Below.refl W0.heap.size W0
  have HX := Lib.hid (show ownR 4 nm g az ws ks bs cz = (NB nm g az ws ks bs cz [107] && (decide (ks.len = 1) && allS commandS ks)) from rfl)
  by_cases h2 : ks.len = 1
  · obtain ⟨k1, nm1, g1, az1, ws1, ks1, bs1, cz1, hks⟩ := one_node h2 HOK.out
    obtain ⟨b1, o1, rfl, hb1, x11, d11, x12, d12, x13, d13, x14, d14, x15, d15, hc1, hh1⟩ := HK.out.getN (i := 0) HOK.out hks
    have m0 : ∀ W, Below W0.heap.size W0 W → W.cell? ⟨b1, o1, none⟩ = some (.int .i64 k1) := fun W hb => cell_below (thru HB0.out hb) (by have := hc1 0 (.int .i64 k1) rfl; simpa using this)
    have Hm0 := Lib.hid m0; clear m0
    have m1 : ∀ W, Below W0.heap.size W0 W → W.cell? ⟨b1, o1 + 1, none⟩ = some (.string nm1) := fun W hb => cell_below (thru HB0.out hb) (by have := hc1 1 (.string nm1) rfl; simpa using this)
    have Hm1 := Lib.hid m1; clear m1
    have m2 : ∀ W, Below W0.heap.size W0 W → W.cell? ⟨b1, o1 + 2, none⟩ = some (.bool g1) := fun W hb => cell_below (thru HB0.out hb) (by have := hc1 2 (.bool g1) rfl; simpa using this)
    have Hm2 := Lib.hid m2; clear m2
    have m3 : ∀ W, Below W0.heap.size W0 W → W.cell? ⟨b1, o1 + 3, none⟩ = some (.slice x11 az1.length d11) := fun W hb => cell_below (thru HB0.out hb) (by have := hc1 3 (.slice x11 az1.length d11) rfl; simpa using this)
    have Hm3 := Lib.hid m3; clear m3
    have m4 : ∀ W, Below W0.heap.size W0 W → W.cell? ⟨b1, o1 + 4, none⟩ = some (.slice x12 ws1.length d12) := fun W hb => cell_below (thru HB0.out hb) (by have := hc1 4 (.slice x12 ws1.length d12) rfl; simpa using this)
    have Hm4 := Lib.hid m4; clear m4
    have m5 : ∀ W, Below W0.heap.size W0 W → W.cell? ⟨b1, o1 + 5, none⟩ = some (.slice x13 ks1.len d13) := fun W hb => cell_below (thru HB0.out hb) (by have := hc1 5 (.slice x13 ks1.len d13) rfl; simpa using this)
    have Hm5 := Lib.hid m5; clear m5
    have m6 : ∀ W, Below W0.heap.size W0 W → W.cell? ⟨b1, o1 + 6, none⟩ = some (.slice x14 bs1.length d14) := fun W hb => cell_below (thru HB0.out hb) (by have := hc1 6 (.slice x14 bs1.length d14) rfl; simpa using this)
    have Hm6 := Lib.hid m6; clear m6
    have m7 : ∀ W, Below W0.heap.size W0 W → W.cell? ⟨b1, o1 + 7, none⟩ = some (.slice x15 cz1.len d15) := fun W hb => cell_below (thru HB0.out hb) (by have := hc1 7 (.slice x15 cz1.len d15) rfl; simpa using this)
    have Hm7 := Lib.hid m7; clear m7
    have hp := fun W (hb : Below W0.heap.size W0 W) => later (rplain_any k1 nm1 g1 az1 ws1 ks1 bs1 cz1 x11 d11 x12 d12 x13 d13 x14 d14 x15 d15 W) hb
    unfold nodeV at hp
    have hy : allS commandS ks = (commandB k1 && true) := by rw [hks]; rfl
    generalize commandB k1 = PB at hp hy
    have HY := Lib.hid hy
    have HP := Lib.hid hp; have H2 := Lib.hid h2
    clear hp hc1 hh1 hks h2 hy
    have h2' : ((ks.len : Int) == 1) = true := by rw [beq_iff_eq]; have := H2.out; omega
    have h2a : 0 < ks.len := by have := H2.out; omega
    cases N
    · go_wp2_with (first | (go_at_call 66; refine (HN.out _ (by assumption)).mono ?_; rintro e w1 ⟨rfl, hb⟩; have q0 := HQ0.out _ hb; have q1 := HQ1.out _ hb; have q2 := HQ2.out _ hb; have q3 := HQ3.out _ hb; have q4 := HQ4.out _ hb; have q5 := HQ5.out _ hb; have q6 := HQ6.out _ hb; have q7 := HQ7.out _ hb; have m0q := Hm0.out _ hb; have m1q := Hm1.out _ hb; have m2q := Hm2.out _ hb; have m3q := Hm3.out _ hb; have m4q := Hm4.out _ hb; have m5q := Hm5.out _ hb; have m6q := Hm6.out _ hb; have m7q := Hm7.out _ hb))
      go_ret
      exact ⟨ret_bool (by rw [HX.out]; simp only [NB, HNE.out]; rfl), thru HB0.out (by assumption)⟩
    cases PB
    all_goals
      go_wp2_with (first | (go_at_call 66; refine (HN.out _ (by assumption)).mono ?_; rintro e w1 ⟨rfl, hb⟩; have q0 := HQ0.out _ hb; have q1 := HQ1.out _ hb; have q2 := HQ2.out _ hb; have q3 := HQ3.out _ hb; have q4 := HQ4.out _ hb; have q5 := HQ5.out _ hb; have q6 := HQ6.out _ hb; have q7 := HQ7.out _ hb; have m0q := Hm0.out _ hb; have m1q := Hm1.out _ hb; have m2q := Hm2.out _ hb; have m3q := Hm3.out _ hb; have m4q := Hm4.out _ hb; have m5q := Hm5.out _ hb; have m6q := Hm6.out _ hb; have m7q := Hm7.out _ hb) | (go_at_call 69; refine (HP.out _ (by assumption)).mono ?_; rintro e w2 ⟨rfl, hb⟩))
      go_ret
      exact ⟨ret_bool (by rw [HX.out]; simp only [NB, HNE.out]; rw [HY.out, H2.out]; rfl), thru HB0.out (by assumption)⟩
  · have h2' : ((ks.len : Int) == 1) = false := by rw [beq_eq_false_iff_ne]; omega
    have H2 := Lib.hid (decide_eq_false h2)
    clear h2
    cases N
    all_goals
      go_wp2_with (first | (go_at_call 66; refine (HN.out _ (by assumption)).mono ?_; rintro e w1 ⟨rfl, hb⟩; have q0 := HQ0.out _ hb; have q1 := HQ1.out _ hb; have q2 := HQ2.out _ hb; have q3 := HQ3.out _ hb; have q4 := HQ4.out _ hb; have q5 := HQ5.out _ hb; have q6 := HQ6.out _ hb; have q7 := HQ7.out _ hb))
      go_ret
      exact ⟨ret_bool (by rw [HX.out]; simp only [NB, HNE.out]; first | rfl | (rw [H2.out]; rfl)), thru HB0.out (by assumption)⟩

set_option maxHeartbeats 1600000 in
set_option maxRecDepth 100000 in
theorem own_r13 : OwnAt 13 := by
  intro nm g az ws ks bs cz x1 d1 x2 d2 x3 d3 x4 d4 x5 d5 w h
  have hlk := h.hks.le
  have hlw := h.hws.le
  have hlb := h.hbs.le
  have hb0 := bel1 w (.cells #[.int .i64 13, .string nm, .bool g, .slice x1 az.length d1, .slice x2 ws.length d2, .slice x3 ks.len d3, .slice x4 bs.length d4, .slice x5 cz.len d5] 28)
  have hrow : (w.alloc (.cells #[.int .i64 13, .string nm, .bool g, .slice x1 az.length d1, .slice x2 ws.length d2, .slice x3 ks.len d3, .slice x4 bs.length d4, .slice x5 cz.len d5] 28)).heap[w.heap.size]? = some (.cells #[.int .i64 13, .string nm, .bool g, .slice x1 az.length d1, .slice x2 ws.length d2, .slice x3 ks.len d3, .slice x4 bs.length d4, .slice x5 cz.len d5] 28 (0, 0)) := heap_new' _ _
  have hn := fun W (hb : Below (w.alloc (.cells #[.int .i64 13, .string nm, .bool g, .slice x1 az.length d1, .slice x2 ws.length d2, .slice x3 ks.len d3, .slice x4 bs.length d4, .slice x5 cz.len d5] 28)).heap.size (w.alloc (.cells #[.int .i64 13, .string nm, .bool g, .slice x1 az.length d1, .slice x2 ws.length d2, .slice x3 ks.len d3, .slice x4 bs.length d4, .slice x5 cz.len d5] 28)) W) => later (none_any 13 nm g az ws ks bs cz x1 d1 x2 d2 x3 d3 x4 d4 x5 d5 ⟨#[110, 107]⟩ (by decide) W (h.below (thru hb0 hb))) hb
  have hnmz : nm.size ≤ 9223372036854775807 := by have := h.hnm; unfold R at this; omega
  have hnm := fun w => rname_any nm w hnmz
  have hrs := fun W (hb : Below (w.alloc (.cells #[.int .i64 13, .string nm, .bool g, .slice x1 az.length d1, .slice x2 ws.length d2, .slice x3 ks.len d3, .slice x4 bs.length d4, .slice x5 cz.len d5] 28)).heap.size (w.alloc (.cells #[.int .i64 13, .string nm, .bool g, .slice x1 az.length d1, .slice x2 ws.length d2, .slice x3 ks.len d3, .slice x4 bs.length d4, .slice x5 cz.len d5] 28)) W) => later (rreserved_any nm W) hb
  unfold nodeV at *
  generalize hNE : noneL (hasN nm g az ws ks bs cz) [110, 107] = N at hn
  generalize hNMB : nameL nm.data.toList = NMB at hnm
  generalize hRSV : reservedL nm.data.toList = RSV at hrs
  have HN := Lib.hid hn; have HNE := Lib.hid hNE; clear hn hNE
  have Hhnm := Lib.hid hnm; have HNMB := Lib.hid hNMB; clear hnm hNMB
  have Hhrs := Lib.hid hrs; have HRSV := Lib.hid hRSV; clear hrs hRSV
  have HK := Lib.hid h.hks; have HOK := Lib.hid h.okk
  clear h
  go_enter Tryz.func38, Tryz.ntmps38
  go_wp2_with fail
  generalize w.alloc (.cells #[.int .i64 13, .string nm, .bool g, .slice x1 az.length d1, .slice x2 ws.length d2, .slice x3 ks.len d3, .slice x4 bs.length d4, .slice x5 cz.len d5] 28) = W0 at *
  have hq0 : ∀ W, Below W0.heap.size W0 W → W.cell? ⟨w.heap.size, 0, none⟩ = some (.int .i64 13) := fun W hb => cell_below hb (Lib.cell_of_heap hrow 0)
  have hq1 : ∀ W, Below W0.heap.size W0 W → W.cell? ⟨w.heap.size, 1, none⟩ = some (.string nm) := fun W hb => cell_below hb (Lib.cell_of_heap hrow 1)
  have hq2 : ∀ W, Below W0.heap.size W0 W → W.cell? ⟨w.heap.size, 2, none⟩ = some (.bool g) := fun W hb => cell_below hb (Lib.cell_of_heap hrow 2)
  have hq3 : ∀ W, Below W0.heap.size W0 W → W.cell? ⟨w.heap.size, 3, none⟩ = some (.slice x1 az.length d1) := fun W hb => cell_below hb (Lib.cell_of_heap hrow 3)
  have hq4 : ∀ W, Below W0.heap.size W0 W → W.cell? ⟨w.heap.size, 4, none⟩ = some (.slice x2 ws.length d2) := fun W hb => cell_below hb (Lib.cell_of_heap hrow 4)
  have hq5 : ∀ W, Below W0.heap.size W0 W → W.cell? ⟨w.heap.size, 5, none⟩ = some (.slice x3 ks.len d3) := fun W hb => cell_below hb (Lib.cell_of_heap hrow 5)
  have hq6 : ∀ W, Below W0.heap.size W0 W → W.cell? ⟨w.heap.size, 6, none⟩ = some (.slice x4 bs.length d4) := fun W hb => cell_below hb (Lib.cell_of_heap hrow 6)
  have hq7 : ∀ W, Below W0.heap.size W0 W → W.cell? ⟨w.heap.size, 7, none⟩ = some (.slice x5 cz.len d5) := fun W hb => cell_below hb (Lib.cell_of_heap hrow 7)
  have HQ0 := Lib.hid hq0; clear hq0
  have HQ1 := Lib.hid hq1; clear hq1
  have HQ2 := Lib.hid hq2; clear hq2
  have HQ3 := Lib.hid hq3; clear hq3
  have HQ4 := Lib.hid hq4; clear hq4
  have HQ5 := Lib.hid hq5; clear hq5
  have HQ6 := Lib.hid hq6; clear hq6
  have HQ7 := Lib.hid hq7; clear hq7
  have HB0 := Lib.hid hb0; clear hb0 hrow
  have q0 := HQ0.out _ (Below.refl _ _); have q1 := HQ1.out _ (Below.refl _ _); have q2 := HQ2.out _ (Below.refl _ _); have q3 := HQ3.out _ (Below.refl _ _); have q4 := HQ4.out _ (Below.refl _ _); have q5 := HQ5.out _ (Below.refl _ _); have q6 := HQ6.out _ (Below.refl _ _); have q7 := HQ7.out _ (Below.refl _ _)
  have hbr := Below.refl W0.heap.size W0
  have HX := Lib.hid (show ownR 13 nm g az ws ks bs cz = (NB nm g az ws ks bs cz [110, 107] && (nameL nm.data.toList && (!reservedL nm.data.toList && (decide (ks.len = 1) && allS compoundS ks)))) from rfl)
  by_cases h2 : ks.len = 1
  · obtain ⟨k1, nm1, g1, az1, ws1, ks1, bs1, cz1, hks⟩ := one_node h2 HOK.out
    obtain ⟨b1, o1, rfl, hb1, x11, d11, x12, d12, x13, d13, x14, d14, x15, d15, hc1, hh1⟩ := HK.out.getN (i := 0) HOK.out hks
    have m0 : ∀ W, Below W0.heap.size W0 W → W.cell? ⟨b1, o1, none⟩ = some (.int .i64 k1) := fun W hb => cell_below (thru HB0.out hb) (by have := hc1 0 (.int .i64 k1) rfl; simpa using this)
    have Hm0 := Lib.hid m0; clear m0
    have m1 : ∀ W, Below W0.heap.size W0 W → W.cell? ⟨b1, o1 + 1, none⟩ = some (.string nm1) := fun W hb => cell_below (thru HB0.out hb) (by have := hc1 1 (.string nm1) rfl; simpa using this)
    have Hm1 := Lib.hid m1; clear m1
    have m2 : ∀ W, Below W0.heap.size W0 W → W.cell? ⟨b1, o1 + 2, none⟩ = some (.bool g1) := fun W hb => cell_below (thru HB0.out hb) (by have := hc1 2 (.bool g1) rfl; simpa using this)
    have Hm2 := Lib.hid m2; clear m2
    have m3 : ∀ W, Below W0.heap.size W0 W → W.cell? ⟨b1, o1 + 3, none⟩ = some (.slice x11 az1.length d11) := fun W hb => cell_below (thru HB0.out hb) (by have := hc1 3 (.slice x11 az1.length d11) rfl; simpa using this)
    have Hm3 := Lib.hid m3; clear m3
    have m4 : ∀ W, Below W0.heap.size W0 W → W.cell? ⟨b1, o1 + 4, none⟩ = some (.slice x12 ws1.length d12) := fun W hb => cell_below (thru HB0.out hb) (by have := hc1 4 (.slice x12 ws1.length d12) rfl; simpa using this)
    have Hm4 := Lib.hid m4; clear m4
    have m5 : ∀ W, Below W0.heap.size W0 W → W.cell? ⟨b1, o1 + 5, none⟩ = some (.slice x13 ks1.len d13) := fun W hb => cell_below (thru HB0.out hb) (by have := hc1 5 (.slice x13 ks1.len d13) rfl; simpa using this)
    have Hm5 := Lib.hid m5; clear m5
    have m6 : ∀ W, Below W0.heap.size W0 W → W.cell? ⟨b1, o1 + 6, none⟩ = some (.slice x14 bs1.length d14) := fun W hb => cell_below (thru HB0.out hb) (by have := hc1 6 (.slice x14 bs1.length d14) rfl; simpa using this)
    have Hm6 := Lib.hid m6; clear m6
    have m7 : ∀ W, Below W0.heap.size W0 W → W.cell? ⟨b1, o1 + 7, none⟩ = some (.slice x15 cz1.len d15) := fun W hb => cell_below (thru HB0.out hb) (by have := hc1 7 (.slice x15 cz1.len d15) rfl; simpa using this)
    have Hm7 := Lib.hid m7; clear m7
    have hy : allS compoundS ks = (compoundB k1 && true) := by rw [hks]; rfl
    have HY := Lib.hid hy; have H2 := Lib.hid h2
    clear hc1 hh1 hks h2 hy
    have h2' : ((ks.len : Int) == 1) = true := by rw [beq_iff_eq]; have := H2.out; omega
    have h2a : 0 < ks.len := by have := H2.out; omega
    cases N
    · go_wp2_with (first | (go_at_call 66; refine (HN.out _ (by assumption)).mono ?_; rintro e w1 ⟨rfl, hb⟩; have q0 := HQ0.out _ hb; have q1 := HQ1.out _ hb; have q2 := HQ2.out _ hb; have q3 := HQ3.out _ hb; have q4 := HQ4.out _ hb; have q5 := HQ5.out _ hb; have q6 := HQ6.out _ hb; have q7 := HQ7.out _ hb; have m0q := Hm0.out _ hb; have m1q := Hm1.out _ hb; have m2q := Hm2.out _ hb; have m3q := Hm3.out _ hb; have m4q := Hm4.out _ hb; have m5q := Hm5.out _ hb; have m6q := Hm6.out _ hb; have m7q := Hm7.out _ hb))
      go_ret
      exact ⟨ret_bool (by rw [HX.out]; simp only [NB, HNE.out, HNMB.out, HRSV.out]; rfl), thru HB0.out (by assumption)⟩
    cases NMB
    · go_wp2_with (first | (go_at_call 66; refine (HN.out _ (by assumption)).mono ?_; rintro e w1 ⟨rfl, hb⟩; have q0 := HQ0.out _ hb; have q1 := HQ1.out _ hb; have q2 := HQ2.out _ hb; have q3 := HQ3.out _ hb; have q4 := HQ4.out _ hb; have q5 := HQ5.out _ hb; have q6 := HQ6.out _ hb; have q7 := HQ7.out _ hb; have m0q := Hm0.out _ hb; have m1q := Hm1.out _ hb; have m2q := Hm2.out _ hb; have m3q := Hm3.out _ hb; have m4q := Hm4.out _ hb; have m5q := Hm5.out _ hb; have m6q := Hm6.out _ hb; have m7q := Hm7.out _ hb) | (go_at_call 71; refine (Hhnm.out _).mono ?_; rintro e w2 ⟨rfl, rfl⟩))
      go_ret
      exact ⟨ret_bool (by rw [HX.out]; simp only [NB, HNE.out, HNMB.out, HRSV.out]; rfl), thru HB0.out (by assumption)⟩
    cases RSV
    rotate_left 1
    · go_wp2_with (first | (go_at_call 66; refine (HN.out _ (by assumption)).mono ?_; rintro e w1 ⟨rfl, hb⟩; have q0 := HQ0.out _ hb; have q1 := HQ1.out _ hb; have q2 := HQ2.out _ hb; have q3 := HQ3.out _ hb; have q4 := HQ4.out _ hb; have q5 := HQ5.out _ hb; have q6 := HQ6.out _ hb; have q7 := HQ7.out _ hb; have m0q := Hm0.out _ hb; have m1q := Hm1.out _ hb; have m2q := Hm2.out _ hb; have m3q := Hm3.out _ hb; have m4q := Hm4.out _ hb; have m5q := Hm5.out _ hb; have m6q := Hm6.out _ hb; have m7q := Hm7.out _ hb) | (go_at_call 71; refine (Hhnm.out _).mono ?_; rintro e w2 ⟨rfl, rfl⟩) | (go_at_call 74; refine (Hhrs.out _ (by assumption)).mono ?_; rintro e w3 ⟨rfl, hb⟩; have q5 := HQ5.out _ hb; have m0q := Hm0.out _ hb; have m1q := Hm1.out _ hb; have m2q := Hm2.out _ hb; have m3q := Hm3.out _ hb; have m4q := Hm4.out _ hb; have m5q := Hm5.out _ hb; have m6q := Hm6.out _ hb; have m7q := Hm7.out _ hb))
      go_ret
      exact ⟨ret_bool (by rw [HX.out]; simp only [NB, HNE.out, HNMB.out, HRSV.out]; rfl), thru HB0.out (by assumption)⟩
    by_cases h6 : 6 ≤ k1 <;> by_cases h12 : k1 ≤ 12
    all_goals try (exfalso; omega)
    all_goals
      have H6 := Lib.hid h6; have H12 := Lib.hid h12
      go_wp2_with (first | (go_at_call 66; refine (HN.out _ (by assumption)).mono ?_; rintro e w1 ⟨rfl, hb⟩; have q0 := HQ0.out _ hb; have q1 := HQ1.out _ hb; have q2 := HQ2.out _ hb; have q3 := HQ3.out _ hb; have q4 := HQ4.out _ hb; have q5 := HQ5.out _ hb; have q6 := HQ6.out _ hb; have q7 := HQ7.out _ hb; have m0q := Hm0.out _ hb; have m1q := Hm1.out _ hb; have m2q := Hm2.out _ hb; have m3q := Hm3.out _ hb; have m4q := Hm4.out _ hb; have m5q := Hm5.out _ hb; have m6q := Hm6.out _ hb; have m7q := Hm7.out _ hb) | (go_at_call 71; refine (Hhnm.out _).mono ?_; rintro e w2 ⟨rfl, rfl⟩) | (go_at_call 74; refine (Hhrs.out _ (by assumption)).mono ?_; rintro e w3 ⟨rfl, hb⟩; have q5 := HQ5.out _ hb; have m0q := Hm0.out _ hb; have m1q := Hm1.out _ hb; have m2q := Hm2.out _ hb; have m3q := Hm3.out _ hb; have m4q := Hm4.out _ hb; have m5q := Hm5.out _ hb; have m6q := Hm6.out _ hb; have m7q := Hm7.out _ hb))
      go_ret
      exact ⟨ret_bool (by rw [HX.out]; simp only [NB, HNE.out, HNMB.out, HRSV.out]; rw [HY.out, H2.out]; simp [compoundB, H6.out, H12.out]), thru HB0.out (by assumption)⟩
  · have h2' : ((ks.len : Int) == 1) = false := by rw [beq_eq_false_iff_ne]; omega
    have H2 := Lib.hid (decide_eq_false h2)
    clear h2
    cases N
    · go_wp2_with (first | (go_at_call 66; refine (HN.out _ (by assumption)).mono ?_; rintro e w1 ⟨rfl, hb⟩; have q0 := HQ0.out _ hb; have q1 := HQ1.out _ hb; have q2 := HQ2.out _ hb; have q3 := HQ3.out _ hb; have q4 := HQ4.out _ hb; have q5 := HQ5.out _ hb; have q6 := HQ6.out _ hb; have q7 := HQ7.out _ hb))
      go_ret
      exact ⟨ret_bool (by rw [HX.out]; simp only [NB, HNE.out, HNMB.out, HRSV.out]; rfl), thru HB0.out (by assumption)⟩
    cases NMB
    · go_wp2_with (first | (go_at_call 66; refine (HN.out _ (by assumption)).mono ?_; rintro e w1 ⟨rfl, hb⟩; have q0 := HQ0.out _ hb; have q1 := HQ1.out _ hb; have q2 := HQ2.out _ hb; have q3 := HQ3.out _ hb; have q4 := HQ4.out _ hb; have q5 := HQ5.out _ hb; have q6 := HQ6.out _ hb; have q7 := HQ7.out _ hb) | (go_at_call 71; refine (Hhnm.out _).mono ?_; rintro e w2 ⟨rfl, rfl⟩))
      go_ret
      exact ⟨ret_bool (by rw [HX.out]; simp only [NB, HNE.out, HNMB.out, HRSV.out]; rfl), thru HB0.out (by assumption)⟩
    cases RSV
    all_goals
      go_wp2_with (first | (go_at_call 66; refine (HN.out _ (by assumption)).mono ?_; rintro e w1 ⟨rfl, hb⟩; have q0 := HQ0.out _ hb; have q1 := HQ1.out _ hb; have q2 := HQ2.out _ hb; have q3 := HQ3.out _ hb; have q4 := HQ4.out _ hb; have q5 := HQ5.out _ hb; have q6 := HQ6.out _ hb; have q7 := HQ7.out _ hb) | (go_at_call 71; refine (Hhnm.out _).mono ?_; rintro e w2 ⟨rfl, rfl⟩) | (go_at_call 74; refine (Hhrs.out _ (by assumption)).mono ?_; rintro e w3 ⟨rfl, hb⟩; have q5 := HQ5.out _ hb))
      go_ret
      exact ⟨ret_bool (by rw [HX.out]; simp only [NB, HNE.out, HNMB.out, HRSV.out]; rw [H2.out]; rfl), thru HB0.out (by assumption)⟩

end Tr
end Go.Proofs.YtgdjeemmklmpfaaGreat
