/- The reference: right, for all nodes; it answers as the program. -/
import Derived.Test.YtgdjeemmklmpfaaGreatRtH
import Derived.Test.YtgdjeemmklmpfaaGreatTrW
namespace Go.Proofs.YtgdjeemmklmpfaaGreat
open Go.RowKit Go.Sort
namespace Tr
open Cls Pt

/-- What the reference's right asks of all nodes (cases) of a row, so many being around them. -/
def rr : NL → Nat → Bool
  | .nil, _ => true
  | .node k nm g az ws ks bs cz r, d => (ownR k nm g az ws ks bs cz && !(countsB k && decide (200 ≤ d)) && (rr ks (withinD k d) && rr cz (withinD k d))) && rr r d
  | .cse _ b r, d => rr b d && rr r d
def rrX (k : Int) (nm : ByteArray) (g : Bool) (az : List (ByteArray × PL)) (ws : List PL) (ks : NL) (bs : List Bool) (cz : NL) (d : Nat) : Bool := ownR k nm g az ws ks bs cz && !(countsB k && decide (200 ≤ d)) && (rr ks (withinD k d) && rr cz (withinD k d))
theorem rr_node (k : Int) (nm : ByteArray) (g : Bool) (az : List (ByteArray × PL)) (ws : List PL) (ks : NL) (bs : List Bool) (cz r : NL) (d : Nat) : rr (.node k nm g az ws ks bs cz r) d = (rrX k nm g az ws ks bs cz d && rr r d) := rfl
theorem rr_app : ∀ (l m : NL) (d : Nat), NL.okN l true = true → rr (l.app m) d = (rr l d && rr m d)
  | .nil, m, d, _ => by simp [NL.app, rr]
  | .node k nm g az ws ks bs cz r, m, d, h => by
    simp only [NL.okN, Bool.and_eq_true] at h
    simp only [NL.app, rr, rr_app r m d h.2, Bool.and_assoc]
  | .cse _ _ _, _, _, h => by simp [NL.okN] at h
theorem rr_bodies : ∀ (cz : NL) (d : Nat), NL.okN cz false = true → rr (bodies cz) d = rr cz d
  | .nil, _, _ => rfl
  | .cse ps b r, d, h => by
    simp only [NL.okN, Bool.and_eq_true] at h
    simp only [bodies, rr, rr_app b _ d h.1.2, rr_bodies r d h.2]
  | .node _ _ _ _ _ _ _ _ _, _, h => by simp [NL.okN] at h
def RRAt (n : Nat) : Prop := ∀ (k : Int) (nm : ByteArray) (g : Bool) (az : List (ByteArray × PL)) (ws : List PL) (ks : NL) (bs : List Bool) (cz : NL) (x1 : Option Addr) (d1 : Nat) (x2 : Option Addr) (d2 : Nat) (x3 : Option Addr) (d3 : Nat) (x4 : Option Addr) (d4 : Nat) (x5 : Option Addr) (d5 : Nat) (d : Nat) (w : World), ks.size + cz.size < n → d ≤ 200 → totN ks + totN cz ≤ 1000000 → Holds w nm az ws ks bs cz x1 d1 x2 d2 x3 d3 x4 d4 x5 d5 →
  Calls Tryz.prog 20 #[.agg (nodeV k nm g x1 az.length d1 x2 ws.length d2 x3 ks.len d3 x4 bs.length d4 x5 cz.len d5), .int .i64 d] w fun e w' => e = .returned (.bool (rrX k nm g az ws ks bs cz d)) ∧ Below w.heap.size w w'

set_option maxHeartbeats 1600000 in
set_option maxRecDepth 100000 in
theorem rr_step (n : Nat) (hW : RRAt n) : RRAt (n + 1) := by
  intro k nm g az ws ks bs cz x1 d1 x2 d2 x3 d3 x4 d4 x5 d5 d w hsz hd htt h
  have hlb := len_bodies h.okc
  have htb := totN_bodies h.okc
  have hlk := len_tot ks
  have hb0 := bel1 w (.cells #[.int .i64 k, .string nm, .bool g, .slice x1 az.length d1, .slice x2 ws.length d2, .slice x3 ks.len d3, .slice x4 bs.length d4, .slice x5 cz.len d5] 28)
  have hrow : (w.alloc (.cells #[.int .i64 k, .string nm, .bool g, .slice x1 az.length d1, .slice x2 ws.length d2, .slice x3 ks.len d3, .slice x4 bs.length d4, .slice x5 cz.len d5] 28)).heap[w.heap.size]? = some (.cells #[.int .i64 k, .string nm, .bool g, .slice x1 az.length d1, .slice x2 ws.length d2, .slice x3 ks.len d3, .slice x4 bs.length d4, .slice x5 cz.len d5] 28 (0, 0)) := heap_new' _ _
  have hwn := fun W (hb : Below (w.alloc (.cells #[.int .i64 k, .string nm, .bool g, .slice x1 az.length d1, .slice x2 ws.length d2, .slice x3 ks.len d3, .slice x4 bs.length d4, .slice x5 cz.len d5] 28)).heap.size (w.alloc (.cells #[.int .i64 k, .string nm, .bool g, .slice x1 az.length d1, .slice x2 ws.length d2, .slice x3 ks.len d3, .slice x4 bs.length d4, .slice x5 cz.len d5] 28)) W) => within_ref k nm g az ws ks bs cz x1 d1 x2 d2 x3 d3 x4 d4 x5 d5 W (h.below (thru hb0 hb)) (by rw [NL.app_len]; omega)
  have hown := fun W (hb : Below (w.alloc (.cells #[.int .i64 k, .string nm, .bool g, .slice x1 az.length d1, .slice x2 ws.length d2, .slice x3 ks.len d3, .slice x4 bs.length d4, .slice x5 cz.len d5] 28)).heap.size (w.alloc (.cells #[.int .i64 k, .string nm, .bool g, .slice x1 az.length d1, .slice x2 ws.length d2, .slice x3 ks.len d3, .slice x4 bs.length d4, .slice x5 cz.len d5] 28)) W) => later (rown_any k nm g az ws ks bs cz x1 d1 x2 d2 x3 d3 x4 d4 x5 d5 W (h.below (thru hb0 hb))) hb
  have hcmp := fun W (hb : Below (w.alloc (.cells #[.int .i64 k, .string nm, .bool g, .slice x1 az.length d1, .slice x2 ws.length d2, .slice x3 ks.len d3, .slice x4 bs.length d4, .slice x5 cz.len d5] 28)).heap.size (w.alloc (.cells #[.int .i64 k, .string nm, .bool g, .slice x1 az.length d1, .slice x2 ws.length d2, .slice x3 ks.len d3, .slice x4 bs.length d4, .slice x5 cz.len d5] 28)) W) => later (rcompound_any k nm g az ws ks bs cz x1 d1 x2 d2 x3 d3 x4 d4 x5 d5 W) hb
  unfold nodeV at hwn hown hcmp ⊢
  have hLok : NL.okN (ks.app (bodies cz)) true = true := NL.app_ok h.okk (bodies_okN h.okc)
  have hLs : (ks.app (bodies cz)).size ≤ n := by have h1 := NL.app_size ks (bodies cz); have h2 := bodies_size cz; omega
  have hLt : totN (ks.app (bodies cz)) ≤ 1000000 := by have h1 := totN_app (bodies cz) h.okk; omega
  have hLr : ∀ D, (rr ks D && rr cz D) = rr (ks.app (bodies cz)) D := fun D => by rw [rr_app _ _ _ h.okk, rr_bodies _ _ h.okc]
  generalize ks.app (bodies cz) = L at hwn hLok hLs hLt hLr
  have hX : rrX k nm g az ws ks bs cz d = (ownR k nm g az ws ks bs cz && !(countsB k && decide (200 ≤ d)) && rr L (withinD k d)) := by unfold rrX; rw [hLr]
  rw [hX]
  generalize hO : ownR k nm g az ws ks bs cz = O at hown hX ⊢
  generalize hC : countsB k = C at hcmp hX ⊢
  generalize hDD : withinD k d = D at hX ⊢
  have HDD := Lib.hid hDD
  clear hDD
  have HWN := Lib.hid hwn; have HLO := Lib.hid hLok; have HLS := Lib.hid hLs; have HLT := Lib.hid hLt; have HOWN := Lib.hid hown; have HCMP := Lib.hid hcmp; have HWT := Lib.hid hW; have HCC := Lib.hid hC
  clear hwn hLok hLs hLt hlb htb hlk h hW hown hcmp hX hLr hO hC
  go_enter Tryz.func20, Tryz.ntmps20
  go_wp2_with fail
  generalize w.alloc (.cells #[.int .i64 k, .string nm, .bool g, .slice x1 az.length d1, .slice x2 ws.length d2, .slice x3 ks.len d3, .slice x4 bs.length d4, .slice x5 cz.len d5] 28) = W0 at *
  have hq0 : ∀ W, Below W0.heap.size W0 W → W.cell? ⟨w.heap.size, 0, none⟩ = some (.int .i64 k) := fun W hb => cell_below hb (Lib.cell_of_heap hrow 0)
  have hq1 : ∀ W, Below W0.heap.size W0 W → W.cell? ⟨w.heap.size, 1, none⟩ = some (.string nm) := fun W hb => cell_below hb (Lib.cell_of_heap hrow 1)
  have hq2 : ∀ W, Below W0.heap.size W0 W → W.cell? ⟨w.heap.size, 2, none⟩ = some (.bool g) := fun W hb => cell_below hb (Lib.cell_of_heap hrow 2)
  have hq3 : ∀ W, Below W0.heap.size W0 W → W.cell? ⟨w.heap.size, 3, none⟩ = some (.slice x1 az.length d1) := fun W hb => cell_below hb (Lib.cell_of_heap hrow 3)
  have hq4 : ∀ W, Below W0.heap.size W0 W → W.cell? ⟨w.heap.size, 4, none⟩ = some (.slice x2 ws.length d2) := fun W hb => cell_below hb (Lib.cell_of_heap hrow 4)
  have hq5 : ∀ W, Below W0.heap.size W0 W → W.cell? ⟨w.heap.size, 5, none⟩ = some (.slice x3 ks.len d3) := fun W hb => cell_below hb (Lib.cell_of_heap hrow 5)
  have hq6 : ∀ W, Below W0.heap.size W0 W → W.cell? ⟨w.heap.size, 6, none⟩ = some (.slice x4 bs.length d4) := fun W hb => cell_below hb (Lib.cell_of_heap hrow 6)
  have hq7 : ∀ W, Below W0.heap.size W0 W → W.cell? ⟨w.heap.size, 7, none⟩ = some (.slice x5 cz.len d5) := fun W hb => cell_below hb (Lib.cell_of_heap hrow 7)
  have HQ0 := Lib.hid hq0; clear hq0
  have HQ1 := Lib.hid hq1; clear hq1
  have HQ2 := Lib.hid hq2; clear hq2
  have HQ3 := Lib.hid hq3; clear hq3
  have HQ4 := Lib.hid hq4; clear hq4
  have HQ5 := Lib.hid hq5; clear hq5
  have HQ6 := Lib.hid hq6; clear hq6
  have HQ7 := Lib.hid hq7; clear hq7
  have HB0 := Lib.hid hb0; clear hb0 hrow
  have q0 := HQ0.out _ (Below.refl _ _); have q1 := HQ1.out _ (Below.refl _ _); have q2 := HQ2.out _ (Below.refl _ _); have q3 := HQ3.out _ (Below.refl _ _); have q4 := HQ4.out _ (Below.refl _ _); have q5 := HQ5.out _ (Below.refl _ _); have q6 := HQ6.out _ (Below.refl _ _); have q7 := HQ7.out _ (Below.refl _ _)
  have hbr := Below.refl W0.heap.size W0
  cases O
  · go_wp2_with (first | (go_at_call 38; refine (HOWN.out _ (by assumption)).mono ?_; rintro e w1 ⟨rfl, hb⟩; have q0 := HQ0.out _ hb; have q1 := HQ1.out _ hb; have q2 := HQ2.out _ hb; have q3 := HQ3.out _ hb; have q4 := HQ4.out _ hb; have q5 := HQ5.out _ hb; have q6 := HQ6.out _ hb; have q7 := HQ7.out _ hb))
    go_ret
    exact ⟨rfl, thru HB0.out (by assumption)⟩
  cases C
  · have hD : d = D := by rw [← HDD.out]; unfold withinD; rw [HCC.out]; rfl
    subst hD
    go_wp2_with (first | (go_at_call 38; refine (HOWN.out _ (by assumption)).mono ?_; rintro e w1 ⟨rfl, hb⟩; have q0 := HQ0.out _ hb; have q1 := HQ1.out _ hb; have q2 := HQ2.out _ hb; have q3 := HQ3.out _ hb; have q4 := HQ4.out _ hb; have q5 := HQ5.out _ hb; have q6 := HQ6.out _ hb; have q7 := HQ7.out _ hb) | (go_at_call 39; refine (HCMP.out _ (by assumption)).mono ?_; rintro e w2 ⟨rfl, hb⟩; have q0 := HQ0.out _ hb; have q1 := HQ1.out _ hb; have q2 := HQ2.out _ hb; have q3 := HQ3.out _ hb; have q4 := HQ4.out _ hb; have q5 := HQ5.out _ hb; have q6 := HQ6.out _ hb; have q7 := HQ7.out _ hb) | (go_at_call 19; refine (HWN.out _ (by assumption)).mono ?_; rintro e w3 ⟨⟨aw, cw, rfl, hnl⟩, hb3⟩; have hb3t := thru (show Below W0.heap.size W0 _ by assumption) hb3))
    have HNL := Lib.hid hnl; have HB3 := Lib.hid (thru HB0.out hb3t)
    have hlL := hnl.le
    clear hnl hb3 hb3t
    go_loopw [30] (fun x wr => ∃ j : Nat, j ≤ L.len ∧ x = .int .i64 j ∧ rr L (d) = rr (L.drop j) (d) ∧ Below w3.heap.size w3 wr) (fun x wr => L.len - (intOf x).toNat)
    case atStart => exact ⟨0, Nat.zero_le _, rfl, rfl, Below.refl _ _⟩
    case round =>
      obtain ⟨j, hj, rfl, hi, hbw⟩ := hrel
      have HI := Lib.hid hi; have HWR := Lib.hid hbw
      clear hi hbw
      by_cases hlt : j < L.len
      · obtain ⟨k1, nm1, g1', az1, ws1, ks1, bs1, cz1, r1, hd1⟩ := NL.drop_node hlt HLO.out
        obtain ⟨b1, o1, rfl, hb1, x11, d11, x12, d12, x13, d13, x14, d14, x15, d15, hc1, hh1⟩ := (HNL.out.below HWR.out).getN HLO.out hd1
        have c10 : wr.cell? ⟨b1, o1 + j * 8, none⟩ = some (.int .i64 k1) := hc1 0 _ rfl
        have c11 : wr.cell? ⟨b1, o1 + j * 8 + 1, none⟩ = some (.string nm1) := hc1 1 _ rfl
        have c12 : wr.cell? ⟨b1, o1 + j * 8 + 2, none⟩ = some (.bool g1') := hc1 2 _ rfl
        have c13 : wr.cell? ⟨b1, o1 + j * 8 + 3, none⟩ = some (.slice x11 az1.length d11) := hc1 3 _ rfl
        have c14 : wr.cell? ⟨b1, o1 + j * 8 + 4, none⟩ = some (.slice x12 ws1.length d12) := hc1 4 _ rfl
        have c15 : wr.cell? ⟨b1, o1 + j * 8 + 5, none⟩ = some (.slice x13 ks1.len d13) := hc1 5 _ rfl
        have c16 : wr.cell? ⟨b1, o1 + j * 8 + 6, none⟩ = some (.slice x14 bs1.length d14) := hc1 6 _ rfl
        have c17 : wr.cell? ⟨b1, o1 + j * 8 + 7, none⟩ = some (.slice x15 cz1.len d15) := hc1 7 _ rfl
        have hsz1 : ks1.size + cz1.size < n := by
          have := NL.drop_size j L
          rw [hd1] at this
          simp only [NL.size] at this
          have := HLS.out
          omega
        have htt1 : totN ks1 + totN cz1 ≤ 1000000 := by
          have := tot_drop j L
          rw [hd1] at this
          simp only [totN] at this
          have := HLT.out
          omega
        have hnx := NL.drop_succN hd1
        have hi3 : rr L (d) = (rrX k1 nm1 g1' az1 ws1 ks1 bs1 cz1 (d) && rr r1 (d)) := by rw [HI.out, hd1]; rfl
        have hrw : (wr.alloc (.cells #[.int .i64 k1, .string nm1, .bool g1', .slice x11 az1.length d11, .slice x12 ws1.length d12, .slice x13 ks1.len d13, .slice x14 bs1.length d14, .slice x15 cz1.len d15] 28)).heap[wr.heap.size]? = some (.cells #[.int .i64 k1, .string nm1, .bool g1', .slice x11 az1.length d11, .slice x12 ws1.length d12, .slice x13 ks1.len d13, .slice x14 bs1.length d14, .slice x15 cz1.len d15] 28 (0, 0)) := heap_new' _ _
        have hbv := bel1 wr (.cells #[.int .i64 k1, .string nm1, .bool g1', .slice x11 az1.length d11, .slice x12 ws1.length d12, .slice x13 ks1.len d13, .slice x14 bs1.length d14, .slice x15 cz1.len d15] 28)
        have hC := HWT.out k1 nm1 g1' az1 ws1 ks1 bs1 cz1 x11 d11 x12 d12 x13 d13 x14 d14 x15 d15 (d) (wr.alloc (.cells #[.int .i64 k1, .string nm1, .bool g1', .slice x11 az1.length d11, .slice x12 ws1.length d12, .slice x13 ks1.len d13, .slice x14 bs1.length d14, .slice x15 cz1.len d15] 28)) hsz1 (by omega) htt1 (hh1.below hbv)
        unfold nodeV at hC
        generalize rrX k1 nm1 g1' az1 ws1 ks1 bs1 cz1 (d) = B at hC hi3
        have HNX := Lib.hid hnx; have HBV := Lib.hid (thru HWR.out hbv); have HRW := Lib.hid hrw
        clear hnx hbv hrw hh1 hc1 hd1 HI hsz1 HWR htt1
        cases B
        all_goals
          have HC := Lib.hid hC
          have HI3 := Lib.hid hi3
          clear hC hi3
          go_wp2_with fail
          generalize wr.alloc (.cells #[.int .i64 k1, .string nm1, .bool g1', .slice x11 az1.length d11, .slice x12 ws1.length d12, .slice x13 ks1.len d13, .slice x14 bs1.length d14, .slice x15 cz1.len d15] 28) = V at HC HBV HRW ⊢
          have m0 : V.cell? ⟨wr.heap.size, 0, none⟩ = some (.int .i64 k1) := Lib.cell_of_heap HRW.out 0
          have m1 : V.cell? ⟨wr.heap.size, 1, none⟩ = some (.string nm1) := Lib.cell_of_heap HRW.out 1
          have m2 : V.cell? ⟨wr.heap.size, 2, none⟩ = some (.bool g1') := Lib.cell_of_heap HRW.out 2
          have m3 : V.cell? ⟨wr.heap.size, 3, none⟩ = some (.slice x11 az1.length d11) := Lib.cell_of_heap HRW.out 3
          have m4 : V.cell? ⟨wr.heap.size, 4, none⟩ = some (.slice x12 ws1.length d12) := Lib.cell_of_heap HRW.out 4
          have m5 : V.cell? ⟨wr.heap.size, 5, none⟩ = some (.slice x13 ks1.len d13) := Lib.cell_of_heap HRW.out 5
          have m6 : V.cell? ⟨wr.heap.size, 6, none⟩ = some (.slice x14 bs1.length d14) := Lib.cell_of_heap HRW.out 6
          have m7 : V.cell? ⟨wr.heap.size, 7, none⟩ = some (.slice x15 cz1.len d15) := Lib.cell_of_heap HRW.out 7
        · go_wp2_with (go_at_call 20; refine (HC.out).mono ?_; rintro e w4 ⟨rfl, hb4⟩)
          go_ret
          exact ⟨ret_bool (by simp [HI3.out]), thru HB3.out (thru HBV.out (by assumption))⟩
        · go_wp2_with (go_at_call 20; refine (HC.out).mono ?_; rintro e w4 ⟨rfl, hb4⟩)
          go_roundw
          case rel => exact ⟨j + 1, by omega, by go_num, by rw [HI3.out, HNX.out]; rfl, thru HBV.out (by assumption)⟩
          case measure => simp [intOf]; omega
      · obtain rfl : j = L.len := by omega
        have hfin : rr L (d) = true := by rw [HI.out, NL.drop_end (Nat.le_refl _)]; rfl
        have HF := Lib.hid hfin
        clear hfin HI hlt
        go_wp2_with fail
        go_ret
        exact ⟨ret_bool (by simp [HF.out]), thru HB3.out HWR.out⟩
  by_cases h200 : 200 ≤ d
  · have g1 : ((d : Int) ≥ 200) = True := by simp; omega
    have g2 : (200 ≤ (d : Int)) = True := by simp; omega
    have HD2 := Lib.hid (decide_eq_true h200)
    clear h200
    go_wp2_with (first | (go_at_call 38; refine (HOWN.out _ (by assumption)).mono ?_; rintro e w1 ⟨rfl, hb⟩; have q0 := HQ0.out _ hb; have q1 := HQ1.out _ hb; have q2 := HQ2.out _ hb; have q3 := HQ3.out _ hb; have q4 := HQ4.out _ hb; have q5 := HQ5.out _ hb; have q6 := HQ6.out _ hb; have q7 := HQ7.out _ hb) | (go_at_call 39; refine (HCMP.out _ (by assumption)).mono ?_; rintro e w2 ⟨rfl, hb⟩; have q0 := HQ0.out _ hb; have q1 := HQ1.out _ hb; have q2 := HQ2.out _ hb; have q3 := HQ3.out _ hb; have q4 := HQ4.out _ hb; have q5 := HQ5.out _ hb; have q6 := HQ6.out _ hb; have q7 := HQ7.out _ hb))
    go_ret
    exact ⟨ret_bool (by rw [HD2.out]; rfl), thru HB0.out (by assumption)⟩
  have g1 : ((d : Int) ≥ 200) = False := by simp; omega
  have g2 : (200 ≤ (d : Int)) = False := by simp; omega
  have hd9 : d < 200 := by omega
  have HD2 := Lib.hid (decide_eq_false h200)
  clear h200
  cases h13 : (k == 13)
  · have h13' : (k != 13) = true := by simp [bne, h13]
    have hD : D = d + 1 := by rw [← HDD.out]; unfold withinD; rw [HCC.out, h13]; rfl
    subst hD
    have hx : IntKind.i64.wrap ((d : Int) + 1) = (d : Int) + 1 := wrapEq_in d (by omega)
    go_wp2_with (first | (go_at_call 38; refine (HOWN.out _ (by assumption)).mono ?_; rintro e w1 ⟨rfl, hb⟩; have q0 := HQ0.out _ hb; have q1 := HQ1.out _ hb; have q2 := HQ2.out _ hb; have q3 := HQ3.out _ hb; have q4 := HQ4.out _ hb; have q5 := HQ5.out _ hb; have q6 := HQ6.out _ hb; have q7 := HQ7.out _ hb) | (go_at_call 39; refine (HCMP.out _ (by assumption)).mono ?_; rintro e w2 ⟨rfl, hb⟩; have q0 := HQ0.out _ hb; have q1 := HQ1.out _ hb; have q2 := HQ2.out _ hb; have q3 := HQ3.out _ hb; have q4 := HQ4.out _ hb; have q5 := HQ5.out _ hb; have q6 := HQ6.out _ hb; have q7 := HQ7.out _ hb) | (go_at_call 19; refine (HWN.out _ (by assumption)).mono ?_; rintro e w3 ⟨⟨aw, cw, rfl, hnl⟩, hb3⟩; have hb3t := thru (show Below W0.heap.size W0 _ by assumption) hb3))
    have HNL := Lib.hid hnl; have HB3 := Lib.hid (thru HB0.out hb3t)
    have hlL := hnl.le
    clear hnl hb3 hb3t
    go_loopw [30] (fun x wr => ∃ j : Nat, j ≤ L.len ∧ x = .int .i64 j ∧ rr L (d + 1) = rr (L.drop j) (d + 1) ∧ Below w3.heap.size w3 wr) (fun x wr => L.len - (intOf x).toNat)
    case atStart => exact ⟨0, Nat.zero_le _, rfl, rfl, Below.refl _ _⟩
    case round =>
      obtain ⟨j, hj, rfl, hi, hbw⟩ := hrel
      have HI := Lib.hid hi; have HWR := Lib.hid hbw
      clear hi hbw
      by_cases hlt : j < L.len
      · obtain ⟨k1, nm1, g1', az1, ws1, ks1, bs1, cz1, r1, hd1⟩ := NL.drop_node hlt HLO.out
        obtain ⟨b1, o1, rfl, hb1, x11, d11, x12, d12, x13, d13, x14, d14, x15, d15, hc1, hh1⟩ := (HNL.out.below HWR.out).getN HLO.out hd1
        have c10 : wr.cell? ⟨b1, o1 + j * 8, none⟩ = some (.int .i64 k1) := hc1 0 _ rfl
        have c11 : wr.cell? ⟨b1, o1 + j * 8 + 1, none⟩ = some (.string nm1) := hc1 1 _ rfl
        have c12 : wr.cell? ⟨b1, o1 + j * 8 + 2, none⟩ = some (.bool g1') := hc1 2 _ rfl
        have c13 : wr.cell? ⟨b1, o1 + j * 8 + 3, none⟩ = some (.slice x11 az1.length d11) := hc1 3 _ rfl
        have c14 : wr.cell? ⟨b1, o1 + j * 8 + 4, none⟩ = some (.slice x12 ws1.length d12) := hc1 4 _ rfl
        have c15 : wr.cell? ⟨b1, o1 + j * 8 + 5, none⟩ = some (.slice x13 ks1.len d13) := hc1 5 _ rfl
        have c16 : wr.cell? ⟨b1, o1 + j * 8 + 6, none⟩ = some (.slice x14 bs1.length d14) := hc1 6 _ rfl
        have c17 : wr.cell? ⟨b1, o1 + j * 8 + 7, none⟩ = some (.slice x15 cz1.len d15) := hc1 7 _ rfl
        have hsz1 : ks1.size + cz1.size < n := by
          have := NL.drop_size j L
          rw [hd1] at this
          simp only [NL.size] at this
          have := HLS.out
          omega
        have htt1 : totN ks1 + totN cz1 ≤ 1000000 := by
          have := tot_drop j L
          rw [hd1] at this
          simp only [totN] at this
          have := HLT.out
          omega
        have hnx := NL.drop_succN hd1
        have hi3 : rr L (d + 1) = (rrX k1 nm1 g1' az1 ws1 ks1 bs1 cz1 (d + 1) && rr r1 (d + 1)) := by rw [HI.out, hd1]; rfl
        have hrw : (wr.alloc (.cells #[.int .i64 k1, .string nm1, .bool g1', .slice x11 az1.length d11, .slice x12 ws1.length d12, .slice x13 ks1.len d13, .slice x14 bs1.length d14, .slice x15 cz1.len d15] 28)).heap[wr.heap.size]? = some (.cells #[.int .i64 k1, .string nm1, .bool g1', .slice x11 az1.length d11, .slice x12 ws1.length d12, .slice x13 ks1.len d13, .slice x14 bs1.length d14, .slice x15 cz1.len d15] 28 (0, 0)) := heap_new' _ _
        have hbv := bel1 wr (.cells #[.int .i64 k1, .string nm1, .bool g1', .slice x11 az1.length d11, .slice x12 ws1.length d12, .slice x13 ks1.len d13, .slice x14 bs1.length d14, .slice x15 cz1.len d15] 28)
        have hC := HWT.out k1 nm1 g1' az1 ws1 ks1 bs1 cz1 x11 d11 x12 d12 x13 d13 x14 d14 x15 d15 (d + 1) (wr.alloc (.cells #[.int .i64 k1, .string nm1, .bool g1', .slice x11 az1.length d11, .slice x12 ws1.length d12, .slice x13 ks1.len d13, .slice x14 bs1.length d14, .slice x15 cz1.len d15] 28)) hsz1 (by omega) htt1 (hh1.below hbv)
        unfold nodeV at hC
        have hcast : ((d + 1 : Nat) : Int) = (d : Int) + 1 := by omega
        rw [hcast] at hC
        generalize rrX k1 nm1 g1' az1 ws1 ks1 bs1 cz1 (d + 1) = B at hC hi3
        have HNX := Lib.hid hnx; have HBV := Lib.hid (thru HWR.out hbv); have HRW := Lib.hid hrw
        clear hnx hbv hrw hh1 hc1 hd1 HI hsz1 HWR htt1
        cases B
        all_goals
          have HC := Lib.hid hC
          have HI3 := Lib.hid hi3
          clear hC hi3
          go_wp2_with fail
          generalize wr.alloc (.cells #[.int .i64 k1, .string nm1, .bool g1', .slice x11 az1.length d11, .slice x12 ws1.length d12, .slice x13 ks1.len d13, .slice x14 bs1.length d14, .slice x15 cz1.len d15] 28) = V at HC HBV HRW ⊢
          have m0 : V.cell? ⟨wr.heap.size, 0, none⟩ = some (.int .i64 k1) := Lib.cell_of_heap HRW.out 0
          have m1 : V.cell? ⟨wr.heap.size, 1, none⟩ = some (.string nm1) := Lib.cell_of_heap HRW.out 1
          have m2 : V.cell? ⟨wr.heap.size, 2, none⟩ = some (.bool g1') := Lib.cell_of_heap HRW.out 2
          have m3 : V.cell? ⟨wr.heap.size, 3, none⟩ = some (.slice x11 az1.length d11) := Lib.cell_of_heap HRW.out 3
          have m4 : V.cell? ⟨wr.heap.size, 4, none⟩ = some (.slice x12 ws1.length d12) := Lib.cell_of_heap HRW.out 4
          have m5 : V.cell? ⟨wr.heap.size, 5, none⟩ = some (.slice x13 ks1.len d13) := Lib.cell_of_heap HRW.out 5
          have m6 : V.cell? ⟨wr.heap.size, 6, none⟩ = some (.slice x14 bs1.length d14) := Lib.cell_of_heap HRW.out 6
          have m7 : V.cell? ⟨wr.heap.size, 7, none⟩ = some (.slice x15 cz1.len d15) := Lib.cell_of_heap HRW.out 7
        · go_wp2_with (go_at_call 20; refine (HC.out).mono ?_; rintro e w4 ⟨rfl, hb4⟩)
          go_ret
          exact ⟨ret_bool (by simp [HI3.out, HD2.out]), thru HB3.out (thru HBV.out (by assumption))⟩
        · go_wp2_with (go_at_call 20; refine (HC.out).mono ?_; rintro e w4 ⟨rfl, hb4⟩)
          go_roundw
          case rel => exact ⟨j + 1, by omega, by go_num, by rw [HI3.out, HNX.out]; rfl, thru HBV.out (by assumption)⟩
          case measure => simp [intOf]; omega
      · obtain rfl : j = L.len := by omega
        have hfin : rr L (d + 1) = true := by rw [HI.out, NL.drop_end (Nat.le_refl _)]; rfl
        have HF := Lib.hid hfin
        clear hfin HI hlt
        go_wp2_with fail
        go_ret
        exact ⟨ret_bool (by simp [HF.out, HD2.out]), thru HB3.out HWR.out⟩
  · have h13' : (k != 13) = false := by simp [bne, h13]
    have hD : d = D := by rw [← HDD.out]; unfold withinD; rw [HCC.out, h13]; rfl
    subst hD
    go_wp2_with (first | (go_at_call 38; refine (HOWN.out _ (by assumption)).mono ?_; rintro e w1 ⟨rfl, hb⟩; have q0 := HQ0.out _ hb; have q1 := HQ1.out _ hb; have q2 := HQ2.out _ hb; have q3 := HQ3.out _ hb; have q4 := HQ4.out _ hb; have q5 := HQ5.out _ hb; have q6 := HQ6.out _ hb; have q7 := HQ7.out _ hb) | (go_at_call 39; refine (HCMP.out _ (by assumption)).mono ?_; rintro e w2 ⟨rfl, hb⟩; have q0 := HQ0.out _ hb; have q1 := HQ1.out _ hb; have q2 := HQ2.out _ hb; have q3 := HQ3.out _ hb; have q4 := HQ4.out _ hb; have q5 := HQ5.out _ hb; have q6 := HQ6.out _ hb; have q7 := HQ7.out _ hb) | (go_at_call 19; refine (HWN.out _ (by assumption)).mono ?_; rintro e w3 ⟨⟨aw, cw, rfl, hnl⟩, hb3⟩; have hb3t := thru (show Below W0.heap.size W0 _ by assumption) hb3))
    have HNL := Lib.hid hnl; have HB3 := Lib.hid (thru HB0.out hb3t)
    have hlL := hnl.le
    clear hnl hb3 hb3t
    go_loopw [30] (fun x wr => ∃ j : Nat, j ≤ L.len ∧ x = .int .i64 j ∧ rr L (d) = rr (L.drop j) (d) ∧ Below w3.heap.size w3 wr) (fun x wr => L.len - (intOf x).toNat)
    case atStart => exact ⟨0, Nat.zero_le _, rfl, rfl, Below.refl _ _⟩
    case round =>
      obtain ⟨j, hj, rfl, hi, hbw⟩ := hrel
      have HI := Lib.hid hi; have HWR := Lib.hid hbw
      clear hi hbw
      by_cases hlt : j < L.len
      · obtain ⟨k1, nm1, g1', az1, ws1, ks1, bs1, cz1, r1, hd1⟩ := NL.drop_node hlt HLO.out
        obtain ⟨b1, o1, rfl, hb1, x11, d11, x12, d12, x13, d13, x14, d14, x15, d15, hc1, hh1⟩ := (HNL.out.below HWR.out).getN HLO.out hd1
        have c10 : wr.cell? ⟨b1, o1 + j * 8, none⟩ = some (.int .i64 k1) := hc1 0 _ rfl
        have c11 : wr.cell? ⟨b1, o1 + j * 8 + 1, none⟩ = some (.string nm1) := hc1 1 _ rfl
        have c12 : wr.cell? ⟨b1, o1 + j * 8 + 2, none⟩ = some (.bool g1') := hc1 2 _ rfl
        have c13 : wr.cell? ⟨b1, o1 + j * 8 + 3, none⟩ = some (.slice x11 az1.length d11) := hc1 3 _ rfl
        have c14 : wr.cell? ⟨b1, o1 + j * 8 + 4, none⟩ = some (.slice x12 ws1.length d12) := hc1 4 _ rfl
        have c15 : wr.cell? ⟨b1, o1 + j * 8 + 5, none⟩ = some (.slice x13 ks1.len d13) := hc1 5 _ rfl
        have c16 : wr.cell? ⟨b1, o1 + j * 8 + 6, none⟩ = some (.slice x14 bs1.length d14) := hc1 6 _ rfl
        have c17 : wr.cell? ⟨b1, o1 + j * 8 + 7, none⟩ = some (.slice x15 cz1.len d15) := hc1 7 _ rfl
        have hsz1 : ks1.size + cz1.size < n := by
          have := NL.drop_size j L
          rw [hd1] at this
          simp only [NL.size] at this
          have := HLS.out
          omega
        have htt1 : totN ks1 + totN cz1 ≤ 1000000 := by
          have := tot_drop j L
          rw [hd1] at this
          simp only [totN] at this
          have := HLT.out
          omega
        have hnx := NL.drop_succN hd1
        have hi3 : rr L (d) = (rrX k1 nm1 g1' az1 ws1 ks1 bs1 cz1 (d) && rr r1 (d)) := by rw [HI.out, hd1]; rfl
        have hrw : (wr.alloc (.cells #[.int .i64 k1, .string nm1, .bool g1', .slice x11 az1.length d11, .slice x12 ws1.length d12, .slice x13 ks1.len d13, .slice x14 bs1.length d14, .slice x15 cz1.len d15] 28)).heap[wr.heap.size]? = some (.cells #[.int .i64 k1, .string nm1, .bool g1', .slice x11 az1.length d11, .slice x12 ws1.length d12, .slice x13 ks1.len d13, .slice x14 bs1.length d14, .slice x15 cz1.len d15] 28 (0, 0)) := heap_new' _ _
        have hbv := bel1 wr (.cells #[.int .i64 k1, .string nm1, .bool g1', .slice x11 az1.length d11, .slice x12 ws1.length d12, .slice x13 ks1.len d13, .slice x14 bs1.length d14, .slice x15 cz1.len d15] 28)
        have hC := HWT.out k1 nm1 g1' az1 ws1 ks1 bs1 cz1 x11 d11 x12 d12 x13 d13 x14 d14 x15 d15 (d) (wr.alloc (.cells #[.int .i64 k1, .string nm1, .bool g1', .slice x11 az1.length d11, .slice x12 ws1.length d12, .slice x13 ks1.len d13, .slice x14 bs1.length d14, .slice x15 cz1.len d15] 28)) hsz1 (by omega) htt1 (hh1.below hbv)
        unfold nodeV at hC
        generalize rrX k1 nm1 g1' az1 ws1 ks1 bs1 cz1 (d) = B at hC hi3
        have HNX := Lib.hid hnx; have HBV := Lib.hid (thru HWR.out hbv); have HRW := Lib.hid hrw
        clear hnx hbv hrw hh1 hc1 hd1 HI hsz1 HWR htt1
        cases B
        all_goals
          have HC := Lib.hid hC
          have HI3 := Lib.hid hi3
          clear hC hi3
          go_wp2_with fail
          generalize wr.alloc (.cells #[.int .i64 k1, .string nm1, .bool g1', .slice x11 az1.length d11, .slice x12 ws1.length d12, .slice x13 ks1.len d13, .slice x14 bs1.length d14, .slice x15 cz1.len d15] 28) = V at HC HBV HRW ⊢
          have m0 : V.cell? ⟨wr.heap.size, 0, none⟩ = some (.int .i64 k1) := Lib.cell_of_heap HRW.out 0
          have m1 : V.cell? ⟨wr.heap.size, 1, none⟩ = some (.string nm1) := Lib.cell_of_heap HRW.out 1
          have m2 : V.cell? ⟨wr.heap.size, 2, none⟩ = some (.bool g1') := Lib.cell_of_heap HRW.out 2
          have m3 : V.cell? ⟨wr.heap.size, 3, none⟩ = some (.slice x11 az1.length d11) := Lib.cell_of_heap HRW.out 3
          have m4 : V.cell? ⟨wr.heap.size, 4, none⟩ = some (.slice x12 ws1.length d12) := Lib.cell_of_heap HRW.out 4
          have m5 : V.cell? ⟨wr.heap.size, 5, none⟩ = some (.slice x13 ks1.len d13) := Lib.cell_of_heap HRW.out 5
          have m6 : V.cell? ⟨wr.heap.size, 6, none⟩ = some (.slice x14 bs1.length d14) := Lib.cell_of_heap HRW.out 6
          have m7 : V.cell? ⟨wr.heap.size, 7, none⟩ = some (.slice x15 cz1.len d15) := Lib.cell_of_heap HRW.out 7
        · go_wp2_with (go_at_call 20; refine (HC.out).mono ?_; rintro e w4 ⟨rfl, hb4⟩)
          go_ret
          exact ⟨ret_bool (by simp [HI3.out, HD2.out]), thru HB3.out (thru HBV.out (by assumption))⟩
        · go_wp2_with (go_at_call 20; refine (HC.out).mono ?_; rintro e w4 ⟨rfl, hb4⟩)
          go_roundw
          case rel => exact ⟨j + 1, by omega, by go_num, by rw [HI3.out, HNX.out]; rfl, thru HBV.out (by assumption)⟩
          case measure => simp [intOf]; omega
      · obtain rfl : j = L.len := by omega
        have hfin : rr L (d) = true := by rw [HI.out, NL.drop_end (Nat.le_refl _)]; rfl
        have HF := Lib.hid hfin
        clear hfin HI hlt
        go_wp2_with fail
        go_ret
        exact ⟨ret_bool (by simp [HF.out, HD2.out]), thru HB3.out HWR.out⟩
theorem rr_all : ∀ n, RRAt n
  | 0 => fun _ _ _ _ _ _ _ _ _ _ _ _ _ _ _ _ _ _ _ _ h => absurd h (Nat.not_lt_zero _)
  | n + 1 => rr_step n (rr_all n)
end Tr
end Go.Proofs.YtgdjeemmklmpfaaGreat
