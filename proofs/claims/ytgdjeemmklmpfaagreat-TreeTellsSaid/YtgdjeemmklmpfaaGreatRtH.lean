/- The reference: own, for all nodes. -/
import Derived.Test.YtgdjeemmklmpfaaGreatRtG
namespace Go.Proofs.YtgdjeemmklmpfaaGreat
open Go.RowKit Go.Sort
namespace Tr
open Cls Pt

set_option maxHeartbeats 1600000 in
set_option maxRecDepth 100000 in
theorem own_r5 : OwnAt 5 := by
  intro nm g az ws ks bs cz x1 d1 x2 d2 x3 d3 x4 d4 x5 d5 w h
  have hlk := h.hks.le
  have hlw := h.hws.le
  have hlb := h.hbs.le
  have hb0 := bel1 w (.cells #[.int .i64 5, .string nm, .bool g, .slice x1 az.length d1, .slice x2 ws.length d2, .slice x3 ks.len d3, .slice x4 bs.length d4, .slice x5 cz.len d5] 28)
  have hrow : (w.alloc (.cells #[.int .i64 5, .string nm, .bool g, .slice x1 az.length d1, .slice x2 ws.length d2, .slice x3 ks.len d3, .slice x4 bs.length d4, .slice x5 cz.len d5] 28)).heap[w.heap.size]? = some (.cells #[.int .i64 5, .string nm, .bool g, .slice x1 az.length d1, .slice x2 ws.length d2, .slice x3 ks.len d3, .slice x4 bs.length d4, .slice x5 cz.len d5] 28 (0, 0)) := heap_new' _ _
  have hn := fun W (hb : Below (w.alloc (.cells #[.int .i64 5, .string nm, .bool g, .slice x1 az.length d1, .slice x2 ws.length d2, .slice x3 ks.len d3, .slice x4 bs.length d4, .slice x5 cz.len d5] 28)).heap.size (w.alloc (.cells #[.int .i64 5, .string nm, .bool g, .slice x1 az.length d1, .slice x2 ws.length d2, .slice x3 ks.len d3, .slice x4 bs.length d4, .slice x5 cz.len d5] 28)) W) => later (none_any 5 nm g az ws ks bs cz x1 d1 x2 d2 x3 d3 x4 d4 x5 d5 ⟨#[107, 98]⟩ (by decide) W (h.below (thru hb0 hb))) hb
  unfold nodeV at *
  generalize hNE : noneL (hasN nm g az ws ks bs cz) [107, 98] = N at hn
  have HN := Lib.hid hn; have HNE := Lib.hid hNE; clear hn hNE
  have HK := Lib.hid h.hks; have HOK := Lib.hid h.okk
  clear h
  go_enter Tryz.func38, Tryz.ntmps38
  go_wp2_with fail
  generalize w.alloc (.cells #[.int .i64 5, .string nm, .bool g, .slice x1 az.length d1, .slice x2 ws.length d2, .slice x3 ks.len d3, .slice x4 bs.length d4, .slice x5 cz.len d5] 28) = W0 at *
  have hq0 : ∀ W, Below W0.heap.size W0 W → W.cell? ⟨w.heap.size, 0, none⟩ = some (.int .i64 5) := fun W hb => cell_below hb (Lib.cell_of_heap hrow 0)
  have hq1 : ∀ W, Below W0.heap.size W0 W → W.cell? ⟨w.heap.size, 1, none⟩ = some (.string nm) := fun W hb => cell_below hb (Lib.cell_of_heap hrow 1)
  have hq2 : ∀ W, Below W0.heap.size W0 W → W.cell? ⟨w.heap.size, 2, none⟩ = some (.bool g) := fun W hb => cell_below hb (Lib.cell_of_heap hrow 2)
  have hq3 : ∀ W, Below W0.heap.size W0 W → W.cell? ⟨w.heap.size, 3, none⟩ = some (.slice x1 az.length d1) := fun W hb => cell_below hb (Lib.cell_of_heap hrow 3)
  have hq4 : ∀ W, Below W0.heap.size W0 W → W.cell? ⟨w.heap.size, 4, none⟩ = some (.slice x2 ws.length d2) := fun W hb => cell_below hb (Lib.cell_of_heap hrow 4)
  have hq5 : ∀ W, Below W0.heap.size W0 W → W.cell? ⟨w.heap.size, 5, none⟩ = some (.slice x3 ks.len d3) := fun W hb => cell_below hb (Lib.cell_of_heap hrow 5)
  have hq6 : ∀ W, Below W0.heap.size W0 W → W.cell? ⟨w.heap.size, 6, none⟩ = some (.slice x4 bs.length d4) := fun W hb => cell_below hb (Lib.cell_of_heap hrow 6)
  have hq7 : ∀ W, Below W0.heap.size W0 W → W.cell? ⟨w.heap.size, 7, none⟩ = some (.slice x5 cz.len d5) := fun W hb => cell_below hb (Lib.cell_of_heap hrow 7)
  have HQ0 := Lib.hid hq0; clear hq0
  have HQ1 := Lib.hid hq1; clear hq1
  have HQ2 := Lib.hid hq2; clear hq2
  have HQ3 := Lib.hid hq3; clear hq3
  have HQ4 := Lib.hid hq4; clear hq4
  have HQ5 := Lib.hid hq5; clear hq5
  have HQ6 := Lib.hid hq6; clear hq6
  have HQ7 := Lib.hid hq7; clear hq7
  have HB0 := Lib.hid hb0; clear hb0 hrow
  have q0 := HQ0.out _ (Below.refl _ _); have q1 := HQ1.out _ (Below.refl _ _); have q2 := HQ2.out _ (Below.refl _ _); have q3 := HQ3.out _ (Below.refl _ _); have q4 := HQ4.out _ (Below.refl _ _); have q5 := HQ5.out _ (Below.refl _ _); have q6 := HQ6.out _ (Below.refl _ _); have q7 := HQ7.out _ (Below.refl _ _)
  have hbr := Below.refl W0.heap.size W0
  have HX := Lib.hid (show ownR 5 nm g az ws ks bs cz = (allS itemS ks && (NB nm g az ws ks bs cz [107, 98] && decide (bs.length = ks.len))) from rfl)
  go_loopw [55] (fun x wr => ∃ j : Nat, j ≤ ks.len ∧ x = .int .i64 j ∧ allS itemS ks = allS itemS (ks.drop j) ∧ Below W0.heap.size W0 wr) (fun x wr => ks.len - (intOf x).toNat)
  case atStart => exact ⟨0, Nat.zero_le _, rfl, rfl, by assumption⟩
  case round =>
    obtain ⟨j, hj, rfl, hi, hbw⟩ := hrel
    have HI := Lib.hid hi; have HWR := Lib.hid hbw
    clear hi hbw
    by_cases hlt : j < ks.len
    · obtain ⟨k1, nm1, g1, az1, ws1, ks1, bs1, cz1, r1, hd1⟩ := NL.drop_node hlt HOK.out
      obtain ⟨b1, o1, rfl, hb1, x11, d11, x12, d12, x13, d13, x14, d14, x15, d15, hc1, hh1⟩ := (HK.out.below (thru HB0.out HWR.out)).getN HOK.out hd1
      have c10 : wr.cell? ⟨b1, o1 + j * 8, none⟩ = some (.int .i64 k1) := hc1 0 _ rfl
      have c11 : wr.cell? ⟨b1, o1 + j * 8 + 1, none⟩ = some (.string nm1) := hc1 1 _ rfl
      have c12 : wr.cell? ⟨b1, o1 + j * 8 + 2, none⟩ = some (.bool g1) := hc1 2 _ rfl
      have c13 : wr.cell? ⟨b1, o1 + j * 8 + 3, none⟩ = some (.slice x11 az1.length d11) := hc1 3 _ rfl
      have c14 : wr.cell? ⟨b1, o1 + j * 8 + 4, none⟩ = some (.slice x12 ws1.length d12) := hc1 4 _ rfl
      have c15 : wr.cell? ⟨b1, o1 + j * 8 + 5, none⟩ = some (.slice x13 ks1.len d13) := hc1 5 _ rfl
      have c16 : wr.cell? ⟨b1, o1 + j * 8 + 6, none⟩ = some (.slice x14 bs1.length d14) := hc1 6 _ rfl
      have c17 : wr.cell? ⟨b1, o1 + j * 8 + 7, none⟩ = some (.slice x15 cz1.len d15) := hc1 7 _ rfl
      have hnx := NL.drop_succN hd1
      have hi3 : allS itemS ks = (itemS k1 ks1.len && allS itemS r1) := by rw [HI.out, hd1]; rfl
      have hrw : (wr.alloc (.cells #[.int .i64 k1, .string nm1, .bool g1, .slice x11 az1.length d11, .slice x12 ws1.length d12, .slice x13 ks1.len d13, .slice x14 bs1.length d14, .slice x15 cz1.len d15] 28)).heap[wr.heap.size]? = some (.cells #[.int .i64 k1, .string nm1, .bool g1, .slice x11 az1.length d11, .slice x12 ws1.length d12, .slice x13 ks1.len d13, .slice x14 bs1.length d14, .slice x15 cz1.len d15] 28 (0, 0)) := heap_new' _ _
      have hbv := bel1 wr (.cells #[.int .i64 k1, .string nm1, .bool g1, .slice x11 az1.length d11, .slice x12 ws1.length d12, .slice x13 ks1.len d13, .slice x14 bs1.length d14, .slice x15 cz1.len d15] 28)
      have hC := later (ritem_any k1 nm1 g1 az1 ws1 ks1 bs1 cz1 x11 d11 x12 d12 x13 d13 x14 d14 x15 d15 (wr.alloc (.cells #[.int .i64 k1, .string nm1, .bool g1, .slice x11 az1.length d11, .slice x12 ws1.length d12, .slice x13 ks1.len d13, .slice x14 bs1.length d14, .slice x15 cz1.len d15] 28))) (Below.refl _ _)
      unfold nodeV at hC
      have hs0 : itemS k1 ks1.len = itemB k1 := rfl
      rw [hs0] at hi3
      generalize itemB k1 = B at hC hi3
      have HNX := Lib.hid hnx; have HBV := Lib.hid (thru HWR.out hbv); have HRW := Lib.hid hrw
      clear hnx hbv hrw hh1 hc1 hd1 HI hs0
      cases B
      all_goals
        have HC := Lib.hid hC
        have HI3 := Lib.hid hi3
        clear hC hi3
        go_wp2_with fail
        generalize wr.alloc (.cells #[.int .i64 k1, .string nm1, .bool g1, .slice x11 az1.length d11, .slice x12 ws1.length d12, .slice x13 ks1.len d13, .slice x14 bs1.length d14, .slice x15 cz1.len d15] 28) = V at HC HBV HRW ⊢
        have m0 : V.cell? ⟨wr.heap.size, 0, none⟩ = some (.int .i64 k1) := Lib.cell_of_heap HRW.out 0
        have m1 : V.cell? ⟨wr.heap.size, 1, none⟩ = some (.string nm1) := Lib.cell_of_heap HRW.out 1
        have m2 : V.cell? ⟨wr.heap.size, 2, none⟩ = some (.bool g1) := Lib.cell_of_heap HRW.out 2
        have m3 : V.cell? ⟨wr.heap.size, 3, none⟩ = some (.slice x11 az1.length d11) := Lib.cell_of_heap HRW.out 3
        have m4 : V.cell? ⟨wr.heap.size, 4, none⟩ = some (.slice x12 ws1.length d12) := Lib.cell_of_heap HRW.out 4
        have m5 : V.cell? ⟨wr.heap.size, 5, none⟩ = some (.slice x13 ks1.len d13) := Lib.cell_of_heap HRW.out 5
        have m6 : V.cell? ⟨wr.heap.size, 6, none⟩ = some (.slice x14 bs1.length d14) := Lib.cell_of_heap HRW.out 6
        have m7 : V.cell? ⟨wr.heap.size, 7, none⟩ = some (.slice x15 cz1.len d15) := Lib.cell_of_heap HRW.out 7
      · go_wp2_with (go_at_call 67; refine (HC.out).mono ?_; rintro e w4 ⟨rfl, hb4⟩)
        go_ret
        exact ⟨ret_bool (by rw [HX.out, HI3.out]; rfl), thru HB0.out (thru HBV.out (by assumption))⟩
      · go_wp2_with (go_at_call 67; refine (HC.out).mono ?_; rintro e w4 ⟨rfl, hb4⟩)
        go_roundw
        case rel => exact ⟨j + 1, by omega, by go_num, by rw [HI3.out, HNX.out]; rfl, thru HBV.out (by assumption)⟩
        case measure => simp [intOf]; omega
    · obtain rfl : j = ks.len := by omega
      have hfin : allS itemS ks = true := by rw [HI.out, NL.drop_end (Nat.le_refl _)]; rfl
      have hbw := HWR.out
      have q0 := HQ0.out _ hbw; have q1 := HQ1.out _ hbw; have q2 := HQ2.out _ hbw; have q3 := HQ3.out _ hbw; have q4 := HQ4.out _ hbw; have q5 := HQ5.out _ hbw; have q6 := HQ6.out _ hbw; have q7 := HQ7.out _ hbw
      have HF := Lib.hid hfin
      clear hfin HI hlt
      have hbl : ((bs.length : Int) == (ks.len : Int)) = decide (bs.length = ks.len) := by rw [Bool.eq_iff_iff, beq_iff_eq, decide_eq_true_iff]; omega
      generalize hBL : decide (bs.length = ks.len) = BL at hbl
      have HBL := Lib.hid hBL
      clear hBL
      cases N <;> cases BL
      all_goals
        go_wp2_with (first | (go_at_call 66; refine (HN.out _ (by assumption)).mono ?_; rintro e w1 ⟨rfl, hb⟩; have q0 := HQ0.out _ hb; have q1 := HQ1.out _ hb; have q2 := HQ2.out _ hb; have q3 := HQ3.out _ hb; have q4 := HQ4.out _ hb; have q5 := HQ5.out _ hb; have q6 := HQ6.out _ hb; have q7 := HQ7.out _ hb))
        go_ret
        exact ⟨ret_bool (by rw [HX.out, HF.out]; simp only [NB, HNE.out, HBL.out]; rfl), thru HB0.out (by assumption)⟩

set_option maxHeartbeats 1600000 in
set_option maxRecDepth 100000 in
theorem rown_other (k : Int) (hk : ∀ j : Int, 1 ≤ j → j ≤ 13 → (k == j) = false) : OwnAt k := by
  intro nm g az ws ks bs cz x1 d1 x2 d2 x3 d3 x4 d4 x5 d5 w h
  have e1 := hk 1 (by decide) (by decide)
  have e2 := hk 2 (by decide) (by decide)
  have e3 := hk 3 (by decide) (by decide)
  have e4 := hk 4 (by decide) (by decide)
  have e5 := hk 5 (by decide) (by decide)
  have e6 := hk 6 (by decide) (by decide)
  have e7 := hk 7 (by decide) (by decide)
  have e8 := hk 8 (by decide) (by decide)
  have e9 := hk 9 (by decide) (by decide)
  have e10 := hk 10 (by decide) (by decide)
  have e11 := hk 11 (by decide) (by decide)
  have e12 := hk 12 (by decide) (by decide)
  have e13 := hk 13 (by decide) (by decide)
  have hlk := h.hks.le
  have HX := Lib.hid (show ownR k nm g az ws ks bs cz = false by simp only [ownR, e1, e2, e3, e4, e5, e6, e7, e8, e9, e10, e11, e12, e13]; rfl)
  clear h hk
  unfold nodeV
  go_enter Tryz.func38, Tryz.ntmps38
  go_wp2_with fail
  go_ret
  exact ⟨ret_bool HX.out.symm, bel1 _ _⟩
theorem rown_any (k : Int) : OwnAt k := by
  by_cases e1 : k = 1
  · subst e1; exact own_r1
  by_cases e2 : k = 2
  · subst e2; exact own_r2
  by_cases e3 : k = 3
  · subst e3; exact own_r3
  by_cases e4 : k = 4
  · subst e4; exact own_r4
  by_cases e5 : k = 5
  · subst e5; exact own_r5
  by_cases e6 : k = 6
  · subst e6; exact own_r6
  by_cases e7 : k = 7
  · subst e7; exact own_r7
  by_cases e8 : k = 8
  · subst e8; exact own_r8
  by_cases e9 : k = 9
  · subst e9; exact own_r9
  by_cases e10 : k = 10
  · subst e10; exact own_r10
  by_cases e11 : k = 11
  · subst e11; exact own_r11
  by_cases e12 : k = 12
  · subst e12; exact own_r12
  by_cases e13 : k = 13
  · subst e13; exact own_r13
  exact rown_other k fun j h1 h2 => by rw [beq_eq_false_iff_ne]; omega
end Tr
end Go.Proofs.YtgdjeemmklmpfaaGreat
