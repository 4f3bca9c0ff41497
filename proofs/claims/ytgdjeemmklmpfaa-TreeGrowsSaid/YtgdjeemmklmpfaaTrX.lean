/- shallow. -/
import Derived.Test.YtgdjeemmklmpfaaTrW
namespace Go.Proofs.Ytgdjeemmklmpfaa
open Go.RowKit Go.Sort
namespace Tr
open Cls Pt

theorem dep_le (m c : Nat) (d : Int) : ((max (1 + m) c : Nat) : Int) ≤ d ↔ (m : Int) ≤ d - 1 ∧ (c : Int) ≤ d := by
  rw [Nat.max_def]
  split
  · constructor
    · intro h
      exact ⟨by omega, by omega⟩
    · intro h
      omega
  · constructor
    · intro h
      exact ⟨by omega, by omega⟩
    · intro h
      omega
def ShAt (n : Nat) : Prop := ∀ (k : Int) (nm : ByteArray) (g : Bool) (az : List (ByteArray × PL)) (ws : List PL) (ks : NL) (bs : List Bool) (cz : NL) (x1 : Option Addr) (d1 : Nat) (x2 : Option Addr) (d2 : Nat) (x3 : Option Addr) (d3 : Nat) (x4 : Option Addr) (d4 : Nat) (x5 : Option Addr) (d5 : Nat) (d : Int) (w : World), ks.size + cz.size < n → -1 ≤ d → d ≤ 1000 → totN ks + totN cz ≤ 1000000 → Holds w nm az ws ks bs cz x1 d1 x2 d2 x3 d3 x4 d4 x5 d5 →
  Calls Try.prog 11 #[.agg (nodeV k nm g x1 az.length d1 x2 ws.length d2 x3 ks.len d3 x4 bs.length d4 x5 cz.len d5), .int .i64 d] w fun e w' => e = .returned (.bool (decide ((max (depN ks) (depN cz) : Nat) ≤ d))) ∧ Below w.heap.size w w'

set_option maxHeartbeats 1600000 in
set_option maxRecDepth 100000 in
theorem shallow_step (n : Nat) (hW : ShAt n) : ShAt (n + 1) := by
  intro k nm g az ws ks bs cz x1 d1 x2 d2 x3 d3 x4 d4 x5 d5 d w hsz hd hd1 htt h
  by_cases hneg : d < 0
  · have hdI : (d < 0) = True := by simp; omega
    have hdJ : (0 > d) = True := by simp; omega
    have hans : decide ((max (depN ks) (depN cz) : Nat) ≤ d) = false := by rw [decide_eq_false_iff_not]; omega
    rw [hans]
    unfold nodeV
    clear hneg hans
    go_enter Try.func11, Try.ntmps11
    go_wp2
    go_ret
    exact ⟨rfl, by first | exact bel1 _ _ | exact Below.refl _ _⟩
  · have hdI : (d < 0) = False := by simp; omega
    have hdJ : (0 > d) = False := by simp; omega
    have hlb := len_bodies h.okc
    have htb := totN_bodies h.okc
    have hlk := len_tot ks
    have hb0 := bel1 w (.cells #[.int .i64 k, .string nm, .bool g, .slice x1 az.length d1, .slice x2 ws.length d2, .slice x3 ks.len d3, .slice x4 bs.length d4, .slice x5 cz.len d5] 28)
    have hwn := fun w' (hb : Below w.heap.size w w') => within_ref k nm g az ws ks bs cz x1 d1 x2 d2 x3 d3 x4 d4 x5 d5 w' (h.below hb) (by rw [NL.app_len]; omega)
    unfold nodeV at hwn ⊢
    have hLok : NL.okN (ks.app (bodies cz)) true = true := NL.app_ok h.okk (bodies_okN h.okc)
    have hLs : (ks.app (bodies cz)).size ≤ n := by have h1 := NL.app_size ks (bodies cz); have h2 := bodies_size cz; omega
    have hLt : totN (ks.app (bodies cz)) ≤ 1000000 := by have h1 := totN_app (bodies cz) h.okk; omega
    have hLd : depN (ks.app (bodies cz)) = max (depN ks) (depN cz) := by rw [dep_app, dep_bodies h.okc]
    rw [← hLd]
    generalize ks.app (bodies cz) = L at hwn hLok hLs hLt hLd
    have HWN := Lib.hid hwn; have HLO := Lib.hid hLok; have HLS := Lib.hid hLs; have HLT := Lib.hid hLt; have HB0 := Lib.hid hb0; have HD := Lib.hid (show 0 ≤ d by omega); have HWT := Lib.hid hW
    clear hwn hLok hLs hLt hLd hlb htb hlk hb0 hneg h hW
    go_enter Try.func11, Try.ntmps11
    go_wp2_with (go_at_call 16; refine (HWN.out _ (by first | exact Below.refl _ _ | exact HB0.out)).mono ?_; rintro e w3 ⟨⟨aw, cw, rfl, hnl⟩, hb3⟩)
    have HNL := Lib.hid hnl; have HB3 := Lib.hid (show Below w.heap.size w w3 from by first | exact thru HB0.out hb3 | exact hb3)
    have hlL := hnl.le
    clear hnl hb3
    go_loopw [12] (fun x wr => ∃ j : Nat, j ≤ L.len ∧ x = .int .i64 j ∧ decide ((depN L : Int) ≤ d) = decide ((depN (L.drop j) : Int) ≤ d) ∧ Below w3.heap.size w3 wr) (fun x wr => L.len - (intOf x).toNat)
    case atStart => exact ⟨0, Nat.zero_le _, rfl, rfl, Below.refl _ _⟩
    case round =>
      obtain ⟨j, hj, rfl, hi, hbw⟩ := hrel
      have HI := Lib.hid hi; have HWR := Lib.hid hbw
      clear hi hbw
      by_cases hlt : j < L.len
      · obtain ⟨k1, nm1, g1, az1, ws1, ks1, bs1, cz1, r1, hd1⟩ := NL.drop_node hlt HLO.out
        obtain ⟨b1, o1, rfl, hb1, x11, d11, x12, d12, x13, d13, x14, d14, x15, d15, hc1, hh1⟩ := (HNL.out.below HWR.out).getN HLO.out hd1
        have c10 : wr.cell? ⟨b1, o1 + j * 8, none⟩ = some (.int .i64 k1) := hc1 0 _ rfl
        have c11 : wr.cell? ⟨b1, o1 + j * 8 + 1, none⟩ = some (.string nm1) := hc1 1 _ rfl
        have c12 : wr.cell? ⟨b1, o1 + j * 8 + 2, none⟩ = some (.bool g1) := hc1 2 _ rfl
        have c13 : wr.cell? ⟨b1, o1 + j * 8 + 3, none⟩ = some (.slice x11 az1.length d11) := hc1 3 _ rfl
        have c14 : wr.cell? ⟨b1, o1 + j * 8 + 4, none⟩ = some (.slice x12 ws1.length d12) := hc1 4 _ rfl
        have c15 : wr.cell? ⟨b1, o1 + j * 8 + 5, none⟩ = some (.slice x13 ks1.len d13) := hc1 5 _ rfl
        have c16 : wr.cell? ⟨b1, o1 + j * 8 + 6, none⟩ = some (.slice x14 bs1.length d14) := hc1 6 _ rfl
        have c17 : wr.cell? ⟨b1, o1 + j * 8 + 7, none⟩ = some (.slice x15 cz1.len d15) := hc1 7 _ rfl
        have hsz1 : ks1.size + cz1.size < n := by
          have := NL.drop_size j L
          rw [hd1] at this
          simp only [NL.size] at this
          have := HLS.out
          omega
        have htt1 : totN ks1 + totN cz1 ≤ 1000000 := by
          have := tot_drop j L
          rw [hd1] at this
          simp only [totN] at this
          have := HLT.out
          omega
        have hnx := NL.drop_succN hd1
        have hi2 := HI.out
        rw [hd1] at hi2
        have hdd := HD.out
        have hi3 : decide ((depN L : Int) ≤ d) = (decide ((max (depN ks1) (depN cz1) : Nat) ≤ d - 1) && decide ((depN r1 : Int) ≤ d)) := by
          rw [hi2, Bool.eq_iff_iff, Bool.and_eq_true, decide_eq_true_iff, decide_eq_true_iff, decide_eq_true_iff]
          exact dep_le _ _ _
        have hrw : (wr.alloc (.cells #[.int .i64 k1, .string nm1, .bool g1, .slice x11 az1.length d11, .slice x12 ws1.length d12, .slice x13 ks1.len d13, .slice x14 bs1.length d14, .slice x15 cz1.len d15] 28)).heap[wr.heap.size]? = some (.cells #[.int .i64 k1, .string nm1, .bool g1, .slice x11 az1.length d11, .slice x12 ws1.length d12, .slice x13 ks1.len d13, .slice x14 bs1.length d14, .slice x15 cz1.len d15] 28 (0, 0)) := heap_new' _ _
        have hbv := bel1 wr (.cells #[.int .i64 k1, .string nm1, .bool g1, .slice x11 az1.length d11, .slice x12 ws1.length d12, .slice x13 ks1.len d13, .slice x14 bs1.length d14, .slice x15 cz1.len d15] 28)
        have hC := HWT.out k1 nm1 g1 az1 ws1 ks1 bs1 cz1 x11 d11 x12 d12 x13 d13 x14 d14 x15 d15 (d - 1) (wr.alloc (.cells #[.int .i64 k1, .string nm1, .bool g1, .slice x11 az1.length d11, .slice x12 ws1.length d12, .slice x13 ks1.len d13, .slice x14 bs1.length d14, .slice x15 cz1.len d15] 28)) hsz1 (by omega) (by omega) htt1 (hh1.below hbv)
        unfold nodeV at hC
        have u1 : IntKind.i64.wrap (d - 1) = d - 1 := (wrapEq _).trans (IntWalk.wrap64_in _ ⟨by omega, by omega⟩)
        generalize decide ((max (depN ks1) (depN cz1) : Nat) ≤ d - 1) = B at hC hi3
        have HNX := Lib.hid hnx; have HBV := Lib.hid (thru HWR.out hbv); have HRW := Lib.hid hrw
        clear hnx hi2 hbv hrw hdd hh1 hc1 hd1 HI hsz1 HWR htt1
        cases B
        all_goals
          have HC := Lib.hid hC
          have HI3 := Lib.hid hi3
          clear hC hi3
          go_wp2_with fail
          generalize wr.alloc (.cells #[.int .i64 k1, .string nm1, .bool g1, .slice x11 az1.length d11, .slice x12 ws1.length d12, .slice x13 ks1.len d13, .slice x14 bs1.length d14, .slice x15 cz1.len d15] 28) = V at HC HBV HRW ⊢
          have m0 : V.cell? ⟨wr.heap.size, 0, none⟩ = some (.int .i64 k1) := Lib.cell_of_heap HRW.out 0
          have m1 : V.cell? ⟨wr.heap.size, 1, none⟩ = some (.string nm1) := Lib.cell_of_heap HRW.out 1
          have m2 : V.cell? ⟨wr.heap.size, 2, none⟩ = some (.bool g1) := Lib.cell_of_heap HRW.out 2
          have m3 : V.cell? ⟨wr.heap.size, 3, none⟩ = some (.slice x11 az1.length d11) := Lib.cell_of_heap HRW.out 3
          have m4 : V.cell? ⟨wr.heap.size, 4, none⟩ = some (.slice x12 ws1.length d12) := Lib.cell_of_heap HRW.out 4
          have m5 : V.cell? ⟨wr.heap.size, 5, none⟩ = some (.slice x13 ks1.len d13) := Lib.cell_of_heap HRW.out 5
          have m6 : V.cell? ⟨wr.heap.size, 6, none⟩ = some (.slice x14 bs1.length d14) := Lib.cell_of_heap HRW.out 6
          have m7 : V.cell? ⟨wr.heap.size, 7, none⟩ = some (.slice x15 cz1.len d15) := Lib.cell_of_heap HRW.out 7
        · go_wp2_with (go_at_call 11; refine (HC.out).mono ?_; rintro e w4 ⟨rfl, hb4⟩)
          go_ret
          exact ⟨ret_bool (by rw [HI3.out]; rfl), thru HB3.out (thru HBV.out (by assumption))⟩
        · go_wp2_with (go_at_call 11; refine (HC.out).mono ?_; rintro e w4 ⟨rfl, hb4⟩)
          go_roundw
          case rel => exact ⟨j + 1, by omega, by go_num, by rw [HI3.out, HNX.out]; rfl, thru HBV.out (by assumption)⟩
          case measure => simp [intOf]; omega
      · obtain rfl : j = L.len := by omega
        have hfin : decide ((depN L : Int) ≤ d) = true := by
          rw [HI.out, NL.drop_end (Nat.le_refl _), decide_eq_true_eq]
          exact HD.out
        have HF := Lib.hid hfin
        clear hfin HI hlt
        go_wp2
        go_ret
        exact ⟨ret_bool (by rw [HF.out]), thru HB3.out HWR.out⟩
theorem shallow_all : ∀ n, ShAt n
  | 0 => fun _ _ _ _ _ _ _ _ _ _ _ _ _ _ _ _ _ _ _ _ h => absurd h (Nat.not_lt_zero _)
  | n + 1 => shallow_step n (shallow_all n)
end Tr
end Go.Proofs.Ytgdjeemmklmpfaa
