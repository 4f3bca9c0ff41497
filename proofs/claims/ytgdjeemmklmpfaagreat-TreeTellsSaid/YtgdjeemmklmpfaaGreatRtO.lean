/- The walk of TreeTells. -/
import Derived.Test.YtgdjeemmklmpfaaGreatRtN
import Derived.Test.YtgdjeemmklmpfaaGreatTrQ
import Derived.Test.YtgdjeemmklmpfaaGreatTrW
namespace Go.Proofs.YtgdjeemmklmpfaaGreat
open Go.RowKit Go.Sort
namespace Tr
open Cls Pt

theorem eqL_refl {T : Type} {p : T → T → Bool} (h : ∀ x, p x x = true) : ∀ l : List T, eqL p l l = true
  | [] => rfl
  | x :: r => by simp only [eqL, h x, eqL_refl h r, Bool.and_true]
theorem same_refl : ∀ l : PL, same l l = true
  | .nil => rfl
  | .cons k q t o f r => by simp [same, same_refl f, same_refl r]
theorem sameN_refl : ∀ l : NL, sameN l l = true
  | .nil => rfl
  | .node k nm g az ws ks bs cz r => by
    simp [sameN, sameN_refl ks, sameN_refl cz, sameN_refl r, eqL_refl same_refl, eqL_refl (p := sameA) (fun x => by simp [sameA, same_refl]), eqL_refl (p := ((· == ·) : Bool → Bool → Bool)) (fun x => by simp)]
  | .cse ps b r => by simp [sameN, sameN_refl b, sameN_refl r, eqL_refl same_refl]
theorem nodeEq_refl (k : Int) (nm : ByteArray) (g : Bool) (az : List (ByteArray × PL)) (ws : List PL) (ks : NL) (bs : List Bool) (cz : NL) : nodeEq k nm g az ws ks bs cz k nm g az ws ks bs cz = true := by
  simp [nodeEq, sameN_refl, eqL_refl same_refl, eqL_refl (p := sameA) (fun x => by simp [sameA, same_refl]), eqL_refl (p := ((· == ·) : Bool → Bool → Bool)) (fun x => by simp)]

set_option maxHeartbeats 4000000 in
set_option maxRecDepth 100000 in
theorem tells_walk (k1 : Int) (nm1 : ByteArray) (g1 : Bool) (az1 : List (ByteArray × PL)) (ws1 : List PL) (ks1 : NL) (bs1 : List Bool) (cz1 : NL) (k2 : Int) (nm2 : ByteArray) (g2 : Bool) (az2 : List (ByteArray × PL)) (ws2 : List PL) (ks2 : NL) (bs2 : List Bool) (cz2 : NL) (x11 : Option Addr) (d11 : Nat) (x12 : Option Addr) (d12 : Nat) (x13 : Option Addr) (d13 : Nat) (x14 : Option Addr) (d14 : Nat) (x15 : Option Addr) (d15 : Nat) (x21 : Option Addr) (d21 : Nat) (x22 : Option Addr) (d22 : Nat) (x23 : Option Addr) (d23 : Nat) (x24 : Option Addr) (d24 : Nat) (x25 : Option Addr) (d25 : Nat) (m : Int) (w : World) (h1 : Holds w nm1 az1 ws1 ks1 bs1 cz1 x11 d11 x12 d12 x13 d13 x14 d14 x15 d15) (h2 : Holds w nm2 az2 ws2 ks2 bs2 cz2 x21 d21 x22 d22 x23 d23 x24 d24 x25 d25) (hm : w.cell? ⟨0, 0, none⟩ = some (.int .i64 m)) :
    Calls Tryz.prog 3 #[.agg #[.int .i64 k1, .string nm1, .bool g1, .slice x11 az1.length d11, .slice x12 ws1.length d12, .slice x13 ks1.len d13, .slice x14 bs1.length d14, .slice x15 cz1.len d15], .agg #[.int .i64 k2, .string nm2, .bool g2, .slice x21 az2.length d21, .slice x22 ws2.length d22, .slice x23 ks2.len d23, .slice x24 bs2.length d24, .slice x25 cz2.len d25]] w fun e w' => e = .returned (.bool true) ∧ Below w.heap.size w w' := by
  have hb0 := bel2 w (.cells #[.int .i64 k1, .string nm1, .bool g1, .slice x11 az1.length d11, .slice x12 ws1.length d12, .slice x13 ks1.len d13, .slice x14 bs1.length d14, .slice x15 cz1.len d15] 28) (.cells #[.int .i64 k2, .string nm2, .bool g2, .slice x21 az2.length d21, .slice x22 ws2.length d22, .slice x23 ks2.len d23, .slice x24 bs2.length d24, .slice x25 cz2.len d25] 28)
  have hra : ((w.alloc (.cells #[.int .i64 k1, .string nm1, .bool g1, .slice x11 az1.length d11, .slice x12 ws1.length d12, .slice x13 ks1.len d13, .slice x14 bs1.length d14, .slice x15 cz1.len d15] 28)).alloc (.cells #[.int .i64 k2, .string nm2, .bool g2, .slice x21 az2.length d21, .slice x22 ws2.length d22, .slice x23 ks2.len d23, .slice x24 bs2.length d24, .slice x25 cz2.len d25] 28)).heap[w.heap.size]? = some (.cells #[.int .i64 k1, .string nm1, .bool g1, .slice x11 az1.length d11, .slice x12 ws1.length d12, .slice x13 ks1.len d13, .slice x14 bs1.length d14, .slice x15 cz1.len d15] 28 (0, 0)) := (Below.heap_alloc _ _ _ (by simp)).trans (heap_new' _ _)
  have hrb : ((w.alloc (.cells #[.int .i64 k1, .string nm1, .bool g1, .slice x11 az1.length d11, .slice x12 ws1.length d12, .slice x13 ks1.len d13, .slice x14 bs1.length d14, .slice x15 cz1.len d15] 28)).alloc (.cells #[.int .i64 k2, .string nm2, .bool g2, .slice x21 az2.length d21, .slice x22 ws2.length d22, .slice x23 ks2.len d23, .slice x24 bs2.length d24, .slice x25 cz2.len d25] 28)).heap[w.heap.size + 1]? = some (.cells #[.int .i64 k2, .string nm2, .bool g2, .slice x21 az2.length d21, .slice x22 ws2.length d22, .slice x23 ks2.len d23, .slice x24 bs2.length d24, .slice x25 cz2.len d25] 28 (0, 0)) := by
    have := heap_new' (w.alloc (.cells #[.int .i64 k1, .string nm1, .bool g1, .slice x11 az1.length d11, .slice x12 ws1.length d12, .slice x13 ks1.len d13, .slice x14 bs1.length d14, .slice x15 cz1.len d15] 28)) (.cells #[.int .i64 k2, .string nm2, .bool g2, .slice x21 az2.length d21, .slice x22 ws2.length d22, .slice x23 ks2.len d23, .slice x24 bs2.length d24, .slice x25 cz2.len d25] 28)
    rwa [World.size_alloc] at this
  have HH1 := Lib.hid h1; have HH2 := Lib.hid h2; have HM := Lib.hid hm
  clear h1 h2 hm
  go_enter Tryz.func3, Tryz.ntmps3
  go_wp2_with fail
  generalize ((w.alloc (.cells #[.int .i64 k1, .string nm1, .bool g1, .slice x11 az1.length d11, .slice x12 ws1.length d12, .slice x13 ks1.len d13, .slice x14 bs1.length d14, .slice x15 cz1.len d15] 28)).alloc (.cells #[.int .i64 k2, .string nm2, .bool g2, .slice x21 az2.length d21, .slice x22 ws2.length d22, .slice x23 ks2.len d23, .slice x24 bs2.length d24, .slice x25 cz2.len d25] 28)) = W0 at *
  have HA0 := Lib.hid (fun W (hb : Below W0.heap.size W0 W) => (cell_below hb (Lib.cell_of_heap hra 0) : W.cell? ⟨w.heap.size, 0, none⟩ = some (.int .i64 k1)))
  have HA1 := Lib.hid (fun W (hb : Below W0.heap.size W0 W) => (cell_below hb (Lib.cell_of_heap hra 1) : W.cell? ⟨w.heap.size, 1, none⟩ = some (.string nm1)))
  have HA2 := Lib.hid (fun W (hb : Below W0.heap.size W0 W) => (cell_below hb (Lib.cell_of_heap hra 2) : W.cell? ⟨w.heap.size, 2, none⟩ = some (.bool g1)))
  have HA3 := Lib.hid (fun W (hb : Below W0.heap.size W0 W) => (cell_below hb (Lib.cell_of_heap hra 3) : W.cell? ⟨w.heap.size, 3, none⟩ = some (.slice x11 az1.length d11)))
  have HA4 := Lib.hid (fun W (hb : Below W0.heap.size W0 W) => (cell_below hb (Lib.cell_of_heap hra 4) : W.cell? ⟨w.heap.size, 4, none⟩ = some (.slice x12 ws1.length d12)))
  have HA5 := Lib.hid (fun W (hb : Below W0.heap.size W0 W) => (cell_below hb (Lib.cell_of_heap hra 5) : W.cell? ⟨w.heap.size, 5, none⟩ = some (.slice x13 ks1.len d13)))
  have HA6 := Lib.hid (fun W (hb : Below W0.heap.size W0 W) => (cell_below hb (Lib.cell_of_heap hra 6) : W.cell? ⟨w.heap.size, 6, none⟩ = some (.slice x14 bs1.length d14)))
  have HA7 := Lib.hid (fun W (hb : Below W0.heap.size W0 W) => (cell_below hb (Lib.cell_of_heap hra 7) : W.cell? ⟨w.heap.size, 7, none⟩ = some (.slice x15 cz1.len d15)))
  have HB0 := Lib.hid (fun W (hb : Below W0.heap.size W0 W) => (cell_below hb (Lib.cell_of_heap hrb 0) : W.cell? ⟨w.heap.size + 1, 0, none⟩ = some (.int .i64 k2)))
  have HB1 := Lib.hid (fun W (hb : Below W0.heap.size W0 W) => (cell_below hb (Lib.cell_of_heap hrb 1) : W.cell? ⟨w.heap.size + 1, 1, none⟩ = some (.string nm2)))
  have HB2 := Lib.hid (fun W (hb : Below W0.heap.size W0 W) => (cell_below hb (Lib.cell_of_heap hrb 2) : W.cell? ⟨w.heap.size + 1, 2, none⟩ = some (.bool g2)))
  have HB3 := Lib.hid (fun W (hb : Below W0.heap.size W0 W) => (cell_below hb (Lib.cell_of_heap hrb 3) : W.cell? ⟨w.heap.size + 1, 3, none⟩ = some (.slice x21 az2.length d21)))
  have HB4 := Lib.hid (fun W (hb : Below W0.heap.size W0 W) => (cell_below hb (Lib.cell_of_heap hrb 4) : W.cell? ⟨w.heap.size + 1, 4, none⟩ = some (.slice x22 ws2.length d22)))
  have HB5 := Lib.hid (fun W (hb : Below W0.heap.size W0 W) => (cell_below hb (Lib.cell_of_heap hrb 5) : W.cell? ⟨w.heap.size + 1, 5, none⟩ = some (.slice x23 ks2.len d23)))
  have HB6 := Lib.hid (fun W (hb : Below W0.heap.size W0 W) => (cell_below hb (Lib.cell_of_heap hrb 6) : W.cell? ⟨w.heap.size + 1, 6, none⟩ = some (.slice x24 bs2.length d24)))
  have HB7 := Lib.hid (fun W (hb : Below W0.heap.size W0 W) => (cell_below hb (Lib.cell_of_heap hrb 7) : W.cell? ⟨w.heap.size + 1, 7, none⟩ = some (.slice x25 cz2.len d25)))
  have HB0x := Lib.hid hb0
  clear hra hrb hb0
  have ha := treeAlive_any m W0 (cell_below HB0x.out HM.out)
  refine ha.mono ?_
  rintro e wa ⟨rfl, hba⟩
  have HBA := Lib.hid hba
  clear ha hba
  have a0 := HA0.out _ HBA.out; have b0 := HB0.out _ HBA.out; have a1 := HA1.out _ HBA.out; have b1 := HB1.out _ HBA.out; have a2 := HA2.out _ HBA.out; have b2 := HB2.out _ HBA.out; have a3 := HA3.out _ HBA.out; have b3 := HB3.out _ HBA.out; have a4 := HA4.out _ HBA.out; have b4 := HB4.out _ HBA.out; have a5 := HA5.out _ HBA.out; have b5 := HB5.out _ HBA.out; have a6 := HA6.out _ HBA.out; have b6 := HB6.out _ HBA.out; have a7 := HA7.out _ HBA.out; have b7 := HB7.out _ HBA.out
  go_wp2_with fail
  have hw1 := weight_at (ks1.size + cz1.size + 1) k1 nm1 g1 az1 ws1 ks1 bs1 cz1 x11 d11 x12 d12 x13 d13 x14 d14 x15 d15 0 wa (Nat.lt_succ_self _) (by omega) (HH1.out.below (thru HB0x.out HBA.out))
  unfold nodeV at hw1
  refine hw1.mono ?_
  clear hw1
  rintro e wb ⟨⟨v1, rfl, hv1, ht1⟩, hbb⟩
  have HBB := Lib.hid (thru HBA.out hbb)
  clear hbb a0 b0 a1 b1 a2 b2 a3 b3 a4 b4 a5 b5 a6 b6 a7 b7
  have a0 := HA0.out _ HBB.out; have b0 := HB0.out _ HBB.out; have a1 := HA1.out _ HBB.out; have b1 := HB1.out _ HBB.out; have a2 := HA2.out _ HBB.out; have b2 := HB2.out _ HBB.out; have a3 := HA3.out _ HBB.out; have b3 := HB3.out _ HBB.out; have a4 := HA4.out _ HBB.out; have b4 := HB4.out _ HBB.out; have a5 := HA5.out _ HBB.out; have b5 := HB5.out _ HBB.out; have a6 := HA6.out _ HBB.out; have b6 := HB6.out _ HBB.out; have a7 := HA7.out _ HBB.out; have b7 := HB7.out _ HBB.out
  by_cases hbig : 10000 < v1
  · have hbI : ((v1 : Int) > 10000) = True := by simp; omega
    have hbJ : (10000 < (v1 : Int)) = True := by simp; omega
    clear hbig
    go_wp2_with fail
    go_ret
    exact ⟨rfl, thru HB0x.out HBB.out⟩
  have hbI : ((v1 : Int) > 10000) = False := by simp; omega
  have hbJ : (10000 < (v1 : Int)) = False := by simp; omega
  have htt1 : totX nm1 az1 ws1 ks1 bs1 cz1 ≤ 10000 := by rw [← ht1 (by omega)]; omega
  have HT1 := Lib.hid htt1
  clear ht1 hbig htt1
  go_wp2_with fail
  have hw2 := weight_at (ks2.size + cz2.size + 1) k2 nm2 g2 az2 ws2 ks2 bs2 cz2 x21 d21 x22 d22 x23 d23 x24 d24 x25 d25 0 wb (Nat.lt_succ_self _) (by omega) (HH2.out.below (thru HB0x.out HBB.out))
  unfold nodeV at hw2
  refine hw2.mono ?_
  clear hw2
  rintro e wc ⟨⟨v2, rfl, hv2, ht2⟩, hbc⟩
  have HBC := Lib.hid (thru HBB.out hbc)
  clear hbc a0 b0 a1 b1 a2 b2 a3 b3 a4 b4 a5 b5 a6 b6 a7 b7
  have a0 := HA0.out _ HBC.out; have b0 := HB0.out _ HBC.out; have a1 := HA1.out _ HBC.out; have b1 := HB1.out _ HBC.out; have a2 := HA2.out _ HBC.out; have b2 := HB2.out _ HBC.out; have a3 := HA3.out _ HBC.out; have b3 := HB3.out _ HBC.out; have a4 := HA4.out _ HBC.out; have b4 := HB4.out _ HBC.out; have a5 := HA5.out _ HBC.out; have b5 := HB5.out _ HBC.out; have a6 := HA6.out _ HBC.out; have b6 := HB6.out _ HBC.out; have a7 := HA7.out _ HBC.out; have b7 := HB7.out _ HBC.out
  by_cases hbig : 10000 < v2
  · have hbI2 : ((v2 : Int) > 10000) = True := by simp; omega
    have hbJ2 : (10000 < (v2 : Int)) = True := by simp; omega
    clear hbig
    go_wp2_with fail
    go_ret
    exact ⟨rfl, thru HB0x.out HBC.out⟩
  have hbI2 : ((v2 : Int) > 10000) = False := by simp; omega
  have hbJ2 : (10000 < (v2 : Int)) = False := by simp; omega
  clear ht2 hbig
  go_wp2_with fail
  have htt := HT1.out
  unfold totX at htt
  have hR := rright_top k1 nm1 g1 az1 ws1 ks1 bs1 cz1 x11 d11 x12 d12 x13 d13 x14 d14 x15 d15 wc (by omega) (HH1.out.below (thru HB0x.out HBC.out))
  unfold nodeV at hR
  generalize hNR : nodeR k1 nm1 g1 az1 ws1 ks1 bs1 cz1 1 = RB at hR
  have HNR := Lib.hid hNR
  clear hNR
  refine hR.mono ?_
  clear hR
  rintro e wd ⟨rfl, hbd⟩
  have HBD := Lib.hid (thru HBC.out hbd)
  clear hbd a0 b0 a1 b1 a2 b2 a3 b3 a4 b4 a5 b5 a6 b6 a7 b7
  have bw := fun dd os => thru HBD.out (below_regrown wd dd os)
  have bww := fun dd os => thru HB0x.out (bw dd os)
  have hw := wsB_ok (ws := ws1) (by omega)
  have hf1 := fit_tot (l := ks1) (by omega)
  have hf2 := fit_tot (l := cz1) (by omega)
  have hsk := size_tot ks1
  have hsc := size_tot cz1
  have cR := fun dd os => Calls.regrown_of (right_top k1 nm1 g1 az1 ws1 ks1 bs1 cz1 x11 d11 x12 d12 x13 d13 x14 d14 x15 d15 m (grow (redrawn wd dd) os) (HH1.out.below (bww dd os)) hw hf1 hf2 (cell_below (bww dd os) HM.out))
  have cP := fun dd os => Calls.regrown_of (program_any k1 nm1 g1 az1 ws1 ks1 bs1 cz1 x11 d11 x12 d12 x13 d13 x14 d14 x15 d15 m (grow (redrawn wd dd) os) (HH1.out.below (bww dd os)) hw hf1 hf2 (cell_below (bww dd os) HM.out))
  have cS := fun dd os => Calls.regrown_of (same_all (ks1.size + cz1.size) k1 nm1 g1 az1 ws1 ks1 bs1 cz1 k2 nm2 g2 az2 ws2 ks2 bs2 cz2 x11 d11 x12 d12 x13 d13 x14 d14 x15 d15 x21 d21 x22 d22 x23 d23 x24 d24 x25 d25 (grow (redrawn wd dd) os) (Nat.lt_succ_self _) (HH1.out.below (bww dd os)) (HH2.out.below (bww dd os)))
  have cT := fun dd os => Calls.regrown_of (rsame_all (ks1.size + cz1.size + 1) k1 nm1 g1 az1 ws1 ks1 bs1 cz1 k2 nm2 g2 az2 ws2 ks2 bs2 cz2 x11 d11 x12 d12 x13 d13 x14 d14 x15 d15 x21 d21 x22 d22 x23 d23 x24 d24 x25 d25 (grow (redrawn wd dd) os) (Nat.lt_succ_self _) (HH1.out.below (bww dd os)) (HH2.out.below (bww dd os)))
  have cU := fun dd os => Calls.regrown_of (same_all (ks1.size + cz1.size) k1 nm1 g1 az1 ws1 ks1 bs1 cz1 k1 nm1 g1 az1 ws1 ks1 bs1 cz1 x11 d11 x12 d12 x13 d13 x14 d14 x15 d15 x11 d11 x12 d12 x13 d13 x14 d14 x15 d15 (grow (redrawn wd dd) os) (Nat.lt_succ_self _) (HH1.out.below (bww dd os)) (HH1.out.below (bww dd os)))
  have cV := fun dd os => Calls.regrown_of (size_all (ks1.size + cz1.size + 1) k1 nm1 g1 az1 ws1 ks1 bs1 cz1 x11 d11 x12 d12 x13 d13 x14 d14 x15 d15 (grow (redrawn wd dd) os) (Nat.lt_succ_self _) (by omega) (HH1.out.below (bww dd os)))
  have cW := fun dd os => Calls.regrown_of (rsize_all (ks1.size + cz1.size + 1) k1 nm1 g1 az1 ws1 ks1 bs1 cz1 x11 d11 x12 d12 x13 d13 x14 d14 x15 d15 (grow (redrawn wd dd) os) (Nat.lt_succ_self _) (by omega) (HH1.out.below (bww dd os)))
  rw [HNR.out] at cR cP
  rw [nodeEq_refl] at cU
  unfold nodeV at cR cP cS cT cU cV cW
  generalize nodeEq k1 nm1 g1 az1 ws1 ks1 bs1 cz1 k2 nm2 g2 az2 ws2 ks2 bs2 cz2 = SB at cS cT
  generalize 1 + sizeN ks1 + sizeN cz1 = Z at cV cW
  have CR := Lib.hid cR; have CP := Lib.hid cP; have CS := Lib.hid cS; have CT := Lib.hid cT; have CU := Lib.hid cU; have CV := Lib.hid cV; have CW := Lib.hid cW
  clear cR cP cS cT cU cV cW bw bww hw hf1 hf2 hsk hsc htt
  have a0 := cell_regrown (HA0.out _ HBD.out)
  have a1 := cell_regrown (HA1.out _ HBD.out)
  have a2 := cell_regrown (HA2.out _ HBD.out)
  have a3 := cell_regrown (HA3.out _ HBD.out)
  have a4 := cell_regrown (HA4.out _ HBD.out)
  have a5 := cell_regrown (HA5.out _ HBD.out)
  have a6 := cell_regrown (HA6.out _ HBD.out)
  have a7 := cell_regrown (HA7.out _ HBD.out)
  have b0 := cell_regrown (HB0.out _ HBD.out)
  have b1 := cell_regrown (HB1.out _ HBD.out)
  have b2 := cell_regrown (HB2.out _ HBD.out)
  have b3 := cell_regrown (HB3.out _ HBD.out)
  have b4 := cell_regrown (HB4.out _ HBD.out)
  have b5 := cell_regrown (HB5.out _ HBD.out)
  have b6 := cell_regrown (HB6.out _ HBD.out)
  have b7 := cell_regrown (HB7.out _ HBD.out)
  cases h5 : (k1 == 5) <;> cases RB <;> cases SB
  all_goals
    rw [h5] at CP
    go_wp2_with fail
    refine Qu.region (by kernel_rfl) (by kernel_rfl) ?_
    repeat (first
      | (first | refine Qu.carry0 rfl (fun K hK => ?_) | refine Qu.carryG rfl rfl rfl (fun K hK => ?_)
         go_simp
         first
         | (refine hK _ ?_; clear hK K)
         | (apply Exists.intro; refine ⟨fun _ => ?_, hK _ ?_⟩; (first | (go_at_call 9; exact CR.out _ _) | (go_at_call 10; exact CP.out _ _) | (go_at_call_of 11 (Value.agg #[.int .i64 k2, .string nm2, .bool g2, .slice x21 az2.length d21, .slice x22 ws2.length d22, .slice x23 ks2.len d23, .slice x24 bs2.length d24, .slice x25 cz2.len d25]); exact CS.out _ _) | (go_at_call 12; exact CT.out _ _) | (go_at_call 11; exact CU.out _ _) | (go_at_call 13; exact CV.out _ _) | (go_at_call 14; exact CW.out _ _)); clear hK K))
      | (refine Qu.passG rfl rfl rfl (fun K hK => ?_); go_simp; refine hK _ ?_; clear hK K))
    refine Qu.fin ?_
    rintro ⟨dq, osq⟩
    go_wp2_with fail
    go_ret
    exact ⟨by first | rfl | simp, thru HB0x.out (thru HBD.out (below_regrown wd dq osq))⟩
end Tr
end Go.Proofs.YtgdjeemmklmpfaaGreat
