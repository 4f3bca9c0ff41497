/- Program; Size. -/
import Derived.Test.YtgdjeemmklmpfaaGreatTrP
import Derived.Test.YtgdjeemmklmpfaaGreatQTail
namespace Go.Proofs.YtgdjeemmklmpfaaGreat
open Go.RowKit Go.Sort
namespace Tr
open Cls Pt

def sizeN : NL → Nat
  | .nil => 0
  | .node _ _ _ _ _ ks _ cz r => 1 + sizeN ks + sizeN cz + sizeN r
  | .cse _ b r => sizeN b + sizeN r
/-- All stays but one block. -/
structure FrP (pb : Nat) (w w' : World) : Prop where
  os : w'.os = w.os
  tape : w'.tape = w.tape
  output : w'.output = w.output
  size : w.heap.size ≤ w'.heap.size
  block : ∀ b, b < w.heap.size → b ≠ pb → w'.heap[b]? = w.heap[b]?
theorem FrP.refl (pb : Nat) (w : World) : FrP pb w w := ⟨rfl, rfl, rfl, Nat.le_refl _, fun _ _ _ => rfl⟩
theorem FrP.trans {pb : Nat} {w w' w'' : World} (h : FrP pb w w') (k : FrP pb w' w'') : FrP pb w w'' :=
  ⟨k.os.trans h.os, k.tape.trans h.tape, k.output.trans h.output, Nat.le_trans h.size k.size, fun b hb hn => (k.block b (Nat.lt_of_lt_of_le hb h.size) hn).trans (h.block b hb hn)⟩
theorem FrP.of_below {pb : Nat} {w w' : World} (h : Below w.heap.size w w') : FrP pb w w' := ⟨h.os, h.tape, h.output, h.size, fun b hb _ => h.block b hb⟩
theorem FrP.set {pb : Nat} (w : World) (i : Nat) (v : Value) : FrP pb w (w.setCell ⟨pb, i, none⟩ v) := ⟨rfl, rfl, rfl, by simp, fun b _ hn => Below.heap_setCell _ _ _ _ hn⟩
theorem FrP.below {pb : Nat} {w0 w w' : World} (h : FrP pb w w') (hb : Below w0.heap.size w0 w) (hp : w0.heap.size ≤ pb) : Below w0.heap.size w0 w' :=
  ⟨h.os.trans hb.os, h.tape.trans hb.tape, h.output.trans hb.output, Nat.le_trans hb.size h.size, fun b hlt => (h.block b (Nat.lt_of_lt_of_le hlt hb.size) (by omega)).trans (hb.block b hlt)⟩

/-- Size answers as it should where kids and cases are smaller than n. -/
def SizeAt (n : Nat) : Prop := ∀ (k : Int) (nm : ByteArray) (g : Bool) (az : List (ByteArray × PL)) (ws : List PL) (ks : NL) (bs : List Bool) (cz : NL) (x1 : Option Addr) (d1 : Nat) (x2 : Option Addr) (d2 : Nat) (x3 : Option Addr) (d3 : Nat) (x4 : Option Addr) (d4 : Nat) (x5 : Option Addr) (d5 : Nat) (w : World), ks.size + cz.size < n → 1 + sizeN ks + sizeN cz ≤ 1000000 → Holds w nm az ws ks bs cz x1 d1 x2 d2 x3 d3 x4 d4 x5 d5 →
  Calls Tryz.prog 13 #[.agg (nodeV k nm g x1 az.length d1 x2 ws.length d2 x3 ks.len d3 x4 bs.length d4 x5 cz.len d5)] w fun e w' => e = .returned (.int .i64 ((1 + sizeN ks + sizeN cz : Nat) : Int)) ∧ Below w.heap.size w w'

set_option maxHeartbeats 1600000 in
set_option maxRecDepth 100000 in
theorem add_any (n : Nat) (hS : SizeAt n) (la : NL) (hn : la.size ≤ n) (hok : NL.okN la true = true) (pb s : Nat) (hsz : s + sizeN la ≤ 1000000) (a : Option Addr) (ca : Nat) (w0 w : World) (hla : NLies w0 a ca la) (hb : Below w0.heap.size w0 w) (hpb : w0.heap.size ≤ pb) (hp : w.heap[pb]? = some (.cells #[.int .i64 s] 3 (0, 0))) :
    Calls Tryz.prog 33 #[.slice a la.len ca, .pointer (some ⟨pb, 0, none⟩)] w fun e w' => e = .returned (.tuple #[]) ∧ w'.heap[pb]? = some (.cells #[.int .i64 ((s + sizeN la : Nat) : Int)] 3 (0, 0)) ∧ FrP pb w w' := by
  have hle := hla.le
  have HS := Lib.hid hS; have HOK := Lib.hid hok; have HA := Lib.hid hla; have HB := Lib.hid hb; have HP := Lib.hid hp
  clear hS hok hla hb hp
  go_enter Tryz.func33, Tryz.ntmps33
  go_wp2
  go_loopw [7] (fun x wr => ∃ k s' : Nat, k ≤ la.len ∧ x = .int .i64 k ∧ s' + sizeN (la.drop k) = s + sizeN la ∧ wr.heap[pb]? = some (.cells #[.int .i64 s'] 3 (0, 0)) ∧ FrP pb w wr) (fun x wr => la.len - (intOf x).toNat)
  case atStart => exact ⟨0, s, Nat.zero_le _, rfl, rfl, HP.out, FrP.refl _ _⟩
  case round =>
    obtain ⟨k, s', hk, rfl, hs, hpr, hfr⟩ := hrel
    have HW := Lib.hid (hfr.below HB.out hpb)
    by_cases hlt : k < la.len
    · obtain ⟨k1, nm1, g1, az1, ws1, ks1, bs1, cz1, r1, hd1⟩ := NL.drop_node hlt HOK.out
      obtain ⟨b1, o1, rfl, hb1, x11, d11, x12, d12, x13, d13, x14, d14, x15, d15, hc1, hh1⟩ := (HA.out.below HW.out).getN HOK.out hd1
      have c10 : wr.cell? ⟨b1, o1 + k * 8, none⟩ = some (.int .i64 k1) := hc1 0 _ rfl
      have c11 : wr.cell? ⟨b1, o1 + k * 8 + 1, none⟩ = some (.string nm1) := hc1 1 _ rfl
      have c12 : wr.cell? ⟨b1, o1 + k * 8 + 2, none⟩ = some (.bool g1) := hc1 2 _ rfl
      have c13 : wr.cell? ⟨b1, o1 + k * 8 + 3, none⟩ = some (.slice x11 az1.length d11) := hc1 3 _ rfl
      have c14 : wr.cell? ⟨b1, o1 + k * 8 + 4, none⟩ = some (.slice x12 ws1.length d12) := hc1 4 _ rfl
      have c15 : wr.cell? ⟨b1, o1 + k * 8 + 5, none⟩ = some (.slice x13 ks1.len d13) := hc1 5 _ rfl
      have c16 : wr.cell? ⟨b1, o1 + k * 8 + 6, none⟩ = some (.slice x14 bs1.length d14) := hc1 6 _ rfl
      have c17 : wr.cell? ⟨b1, o1 + k * 8 + 7, none⟩ = some (.slice x15 cz1.len d15) := hc1 7 _ rfl
      have hsz1 : ks1.size + cz1.size < n := by
        have := NL.drop_size k la
        rw [hd1] at this
        simp only [NL.size] at this
        omega
      rw [hd1] at hs
      simp only [sizeN] at hs
      have hnx := NL.drop_succN hd1
      have hplt : pb < wr.heap.size := (Array.getElem?_eq_some_iff.1 hpr).1
      have hrow : (wr.alloc (.cells #[.int .i64 k1, .string nm1, .bool g1, .slice x11 az1.length d11, .slice x12 ws1.length d12, .slice x13 ks1.len d13, .slice x14 bs1.length d14, .slice x15 cz1.len d15] 28)).heap[wr.heap.size]? = some (.cells #[.int .i64 k1, .string nm1, .bool g1, .slice x11 az1.length d11, .slice x12 ws1.length d12, .slice x13 ks1.len d13, .slice x14 bs1.length d14, .slice x15 cz1.len d15] 28 (0, 0)) := heap_new' _ _
      have hbl := bel1 wr (.cells #[.int .i64 k1, .string nm1, .bool g1, .slice x11 az1.length d11, .slice x12 ws1.length d12, .slice x13 ks1.len d13, .slice x14 bs1.length d14, .slice x15 cz1.len d15] 28)
      have hprb := (hbl.block _ hplt).trans hpr
      have HNX := Lib.hid hnx; have HF := Lib.hid hfr; have HH1 := Lib.hid hh1; have HSS := Lib.hid hs
      clear hnx hfr hh1 hc1 hd1 hs
      go_wp2_with fail
      generalize wr.alloc (.cells #[.int .i64 k1, .string nm1, .bool g1, .slice x11 az1.length d11, .slice x12 ws1.length d12, .slice x13 ks1.len d13, .slice x14 bs1.length d14, .slice x15 cz1.len d15] 28) = V at hrow hbl hprb ⊢
      have hT : ∃ T : Nat, 1 + sizeN ks1 + sizeN cz1 = T := ⟨_, rfl⟩
      obtain ⟨T, hT⟩ := hT
      have hTs : s' + T + sizeN r1 = s + sizeN la := by have := HSS.out; omega
      have hC := fun dd os => Calls.regrown_of (HS.out k1 nm1 g1 az1 ws1 ks1 bs1 cz1 x11 d11 x12 d12 x13 d13 x14 d14 x15 d15 (grow (redrawn V dd) os) hsz1 (by omega) (HH1.out.below (thru hbl (below_regrown V dd os))))
      unfold nodeV at hC
      rw [hT] at hC
      have hx : IntKind.i64.wrap ((s' : Int) + (T : Int)) = ((s' + T : Nat) : Int) := (wrapEq _).trans ((IntWalk.wrap64_in _ ⟨by omega, by omega⟩).trans (by omega))
      have m0 : V.cell? ⟨wr.heap.size, 0, none⟩ = some (.int .i64 k1) := Lib.cell_of_heap hrow 0
      have m1 : V.cell? ⟨wr.heap.size, 1, none⟩ = some (.string nm1) := Lib.cell_of_heap hrow 1
      have m2 : V.cell? ⟨wr.heap.size, 2, none⟩ = some (.bool g1) := Lib.cell_of_heap hrow 2
      have m3 : V.cell? ⟨wr.heap.size, 3, none⟩ = some (.slice x11 az1.length d11) := Lib.cell_of_heap hrow 3
      have m4 : V.cell? ⟨wr.heap.size, 4, none⟩ = some (.slice x12 ws1.length d12) := Lib.cell_of_heap hrow 4
      have m5 : V.cell? ⟨wr.heap.size, 5, none⟩ = some (.slice x13 ks1.len d13) := Lib.cell_of_heap hrow 5
      have m6 : V.cell? ⟨wr.heap.size, 6, none⟩ = some (.slice x14 bs1.length d14) := Lib.cell_of_heap hrow 6
      have m7 : V.cell? ⟨wr.heap.size, 7, none⟩ = some (.slice x15 cz1.len d15) := Lib.cell_of_heap hrow 7
      have mp : V.cell? ⟨pb, 0, none⟩ = some (.int .i64 s') := Lib.cell_of_heap hprb 0
      have n0 := cell_regrown m0
      have n1 := cell_regrown m1
      have n2 := cell_regrown m2
      have n3 := cell_regrown m3
      have n4 := cell_regrown m4
      have n5 := cell_regrown m5
      have n6 := cell_regrown m6
      have n7 := cell_regrown m7
      have np := cell_regrown mp
      have hplt2 : pb < V.heap.size := (Array.getElem?_eq_some_iff.1 hprb).1
      have HC := Lib.hid hC; have HBL := Lib.hid hbl; have HPRB := Lib.hid hprb; have HX := Lib.hid hx; have HTS := Lib.hid hTs; have HPL := Lib.hid hplt2
      clear hC hbl hprb hrow hT hTs hplt2 hx
      refine Qu.region_tail 4 (by kernel_rfl) (by kernel_rfl) ?_
      simp only [List.take_succ_cons, List.take_zero, List.drop_succ_cons, List.drop_zero]
      repeat (first
        | (first | refine Qu.carry0 rfl (fun K hK => ?_) | refine Qu.carryG rfl rfl rfl (fun K hK => ?_)
           go_simp
           first
           | (refine hK _ ?_; clear hK K)
           | (apply Exists.intro; refine ⟨fun _ => ?_, hK _ ?_⟩; (go_at_call 13; exact HC.out _ _); clear hK K))
        | (refine Qu.passG rfl rfl rfl (fun K hK => ?_); go_simp; refine hK _ ?_; clear hK K))
      refine Qu.fin ?_
      rintro ⟨dq, osq⟩
      have hbq := below_regrown V dq osq
      have hpq := (hbq.block _ HPL.out).trans HPRB.out
      have hFq : FrP pb w (grow (redrawn V dq) osq) := HF.out.trans ((FrP.of_below HBL.out).trans (FrP.of_below hbq))
      generalize grow (redrawn V dq) osq = G at hpq hFq ⊢
      clear n0 n1 n2 n3 n4 n5 n6 n7 np m0 m1 m2 m3 m4 m5 m6 m7 mp hbq
      have gp : G.cell? ⟨pb, 0, none⟩ = some (.int .i64 s') := Lib.cell_of_heap hpq 0
      have gf : G.frozen? ⟨pb, 0, none⟩ = false := frozen_of_row _ _ _ _ _ hpq
      have hset : (G.setCell ⟨pb, 0, none⟩ (.int .i64 ((s' + T : Nat) : Int))).heap[pb]? = some (.cells #[.int .i64 ((s' + T : Nat) : Int)] 3 (0, 0)) := heap_setCell_same _ _ 0 _ _ _ hpq
      have HSET := Lib.hid hset; have HFQ := Lib.hid (hFq.trans (FrP.set G 0 (.int .i64 ((s' + T : Nat) : Int))))
      clear hset hFq hpq
      rw [HX.out]
      go_wp2_with fail
      go_roundw
      case rel => exact ⟨k + 1, s' + T, by omega, by go_num, by rw [HNX.out]; exact HTS.out, HSET.out, HFQ.out⟩
      case measure => simp [intOf]; omega
    · obtain rfl : k = la.len := by omega
      rw [NL.drop_end (Nat.le_refl _)] at hs
      simp only [sizeN, Nat.add_zero] at hs
      have HF := Lib.hid hfr; have HPR := Lib.hid hpr; have HSS := Lib.hid hs
      clear hfr hpr hs
      go_wp2
      go_end0
      exact ⟨rfl, by rw [← HSS.out]; exact HPR.out, HF.out⟩

set_option maxHeartbeats 1600000 in
set_option maxRecDepth 100000 in
theorem size_step (n : Nat) (hS : SizeAt n) : SizeAt (n + 1) := by
  intro k nm g az ws ks bs cz x1 d1 x2 d2 x3 d3 x4 d4 x5 d5 w hsz hbd h
  have hb0 := bel2 w (.cells #[.int .i64 k, .string nm, .bool g, .slice x1 az.length d1, .slice x2 ws.length d2, .slice x3 ks.len d3, .slice x4 bs.length d4, .slice x5 cz.len d5] 28) (.cells #[.int .i64 1] 3)
  have hrow : ((w.alloc (.cells #[.int .i64 k, .string nm, .bool g, .slice x1 az.length d1, .slice x2 ws.length d2, .slice x3 ks.len d3, .slice x4 bs.length d4, .slice x5 cz.len d5] 28)).alloc (.cells #[.int .i64 1] 3)).heap[w.heap.size]? = some (.cells #[.int .i64 k, .string nm, .bool g, .slice x1 az.length d1, .slice x2 ws.length d2, .slice x3 ks.len d3, .slice x4 bs.length d4, .slice x5 cz.len d5] 28 (0, 0)) := (Below.heap_alloc _ _ _ (by simp only [World.size_alloc]; omega)).trans (heap_new' _ _)
  have hpr : ((w.alloc (.cells #[.int .i64 k, .string nm, .bool g, .slice x1 az.length d1, .slice x2 ws.length d2, .slice x3 ks.len d3, .slice x4 bs.length d4, .slice x5 cz.len d5] 28)).alloc (.cells #[.int .i64 1] 3)).heap[w.heap.size + 1]? = some (.cells #[.int .i64 ((1 : Nat) : Int)] 3 (0, 0)) := by
    have h := heap_new' (w.alloc (.cells #[.int .i64 k, .string nm, .bool g, .slice x1 az.length d1, .slice x2 ws.length d2, .slice x3 ks.len d3, .slice x4 bs.length d4, .slice x5 cz.len d5] 28)) (.cells #[.int .i64 1] 3)
    simp only [World.size_alloc] at h
    exact h
  have hlt0 : w.heap.size < ((w.alloc (.cells #[.int .i64 k, .string nm, .bool g, .slice x1 az.length d1, .slice x2 ws.length d2, .slice x3 ks.len d3, .slice x4 bs.length d4, .slice x5 cz.len d5] 28)).alloc (.cells #[.int .i64 1] 3)).heap.size := by simp only [World.size_alloc]; omega
  have hK := add_any n hS ks (by omega) h.okk (w.heap.size + 1) 1 (by omega) x3 d3 w _ h.hks hb0 (by omega) hpr
  have hlk := h.hks.le
  have hlc := h.hcs.le
  have HK := Lib.hid hK; have HS := Lib.hid hS; have HC := Lib.hid h.hcs; have HOC := Lib.hid h.okc; have HB0 := Lib.hid hb0; have HROW := Lib.hid hrow; have HLT := Lib.hid hlt0; have HSZ := Lib.hid hsz; have HBD := Lib.hid hbd
  clear hK hS h hb0 hrow hpr hlt0 hsz hbd
  unfold nodeV
  go_enter Tryz.func13, Tryz.ntmps13
  go_wp2_with fail
  refine (HK.out).mono ?_
  rintro e w1 ⟨rfl, hp1, hf1⟩
  have hrw1 := (hf1.block _ HLT.out (by omega)).trans HROW.out
  have q5 : w1.cell? ⟨w.heap.size, 7, none⟩ = some (.slice x5 cz.len d5) := Lib.cell_of_heap hrw1 7
  have HP1 := Lib.hid hp1; have HF1 := Lib.hid hf1
  clear hp1 hf1 hrw1
  go_wp2
  go_loopw [15] (fun x wr => ∃ j s' : Nat, j ≤ cz.len ∧ x = .int .i64 j ∧ s' + sizeN (cz.drop j) = 1 + sizeN ks + sizeN cz ∧ wr.heap[w.heap.size + 1]? = some (.cells #[.int .i64 s'] 3 (0, 0)) ∧ FrP (w.heap.size + 1) ((w.alloc (.cells #[.int .i64 k, .string nm, .bool g, .slice x1 az.length d1, .slice x2 ws.length d2, .slice x3 ks.len d3, .slice x4 bs.length d4, .slice x5 cz.len d5] 28)).alloc (.cells #[.int .i64 1] 3)) wr) (fun x wr => cz.len - (intOf x).toNat)
  case atStart => exact ⟨0, 1 + sizeN ks, Nat.zero_le _, rfl, rfl, HP1.out, HF1.out⟩
  case round =>
    obtain ⟨j, s', hj, rfl, hs, hpr, hfr⟩ := hrel
    have HW := Lib.hid (hfr.below HB0.out (by omega))
    by_cases hlt : j < cz.len
    · obtain ⟨ps, bd, r1, hd1⟩ := NL.drop_case hlt HOC.out
      obtain ⟨b1, o1, rfl, _, y1, f1, y2, f2, w10, w11, _, n1, k1⟩ := HC.out.getC HOC.out hd1
      have c10 := cell_below HW.out w10
      have c11 := cell_below HW.out w11
      have hb1 := World.block_lt_of_cell? _ _ c10
      clear w10 w11
      have hsz1 : bd.size ≤ n := by
        have := NL.drop_size j cz
        rw [hd1] at this
        simp only [NL.size] at this
        have := HSZ.out
        omega
      rw [hd1] at hs
      simp only [sizeN] at hs
      have hnx := NL.drop_succC hd1
      have hplt : w.heap.size + 1 < wr.heap.size := (Array.getElem?_eq_some_iff.1 hpr).1
      have hbl := bel1 wr (.cells #[.slice y1 ps.length f1, .slice y2 bd.len f2] 50)
      have hA := add_any n HS.out bd hsz1 k1 (w.heap.size + 1) s' (by have := HBD.out; omega) y2 f2 w (wr.alloc (.cells #[.slice y1 ps.length f1, .slice y2 bd.len f2] 50)) n1 (thru HW.out hbl) (by omega) ((hbl.block _ hplt).trans hpr)
      have HA := Lib.hid hA; have HNX := Lib.hid hnx; have HF := Lib.hid hfr; have HBL := Lib.hid hbl; have HSS := Lib.hid hs
      clear hA hnx hfr hbl hs hpr hd1 n1
      go_wp2_with fail
      refine (HA.out).mono ?_
      rintro e w2 ⟨rfl, hp2, hf2⟩
      have HP2 := Lib.hid hp2; have HF2 := Lib.hid (HF.out.trans ((FrP.of_below HBL.out).trans hf2))
      clear hp2 hf2
      go_wp2_with fail
      go_roundw
      case rel => exact ⟨j + 1, s' + sizeN bd, by omega, by go_num, by rw [HNX.out]; have := HSS.out; omega, HP2.out, HF2.out⟩
      case measure => simp [intOf]; omega
    · obtain rfl : j = cz.len := by omega
      rw [NL.drop_end (Nat.le_refl _)] at hs
      simp only [sizeN, Nat.add_zero] at hs
      have c0 : wr.cell? ⟨w.heap.size + 1, 0, none⟩ = some (.int .i64 s') := Lib.cell_of_heap hpr 0
      have HSS := Lib.hid hs
      clear hs hpr hfr
      go_wp2_with fail
      go_ret
      exact ⟨by rw [← HSS.out]; rfl, HW.out⟩
theorem size_all : ∀ n, SizeAt n
  | 0 => fun _ _ _ _ _ _ _ _ _ _ _ _ _ _ _ _ _ _ _ h => absurd h (Nat.not_lt_zero _)
  | n + 1 => size_step n (size_all n)

set_option maxHeartbeats 800000 in
set_option maxRecDepth 100000 in
theorem program_any (k : Int) (nm : ByteArray) (g : Bool) (az : List (ByteArray × PL)) (ws : List PL) (ks : NL) (bs : List Bool) (cz : NL) (x1 : Option Addr) (d1 : Nat) (x2 : Option Addr) (d2 : Nat) (x3 : Option Addr) (d3 : Nat) (x4 : Option Addr) (d4 : Nat) (x5 : Option Addr) (d5 : Nat) (m : Int) (w : World) (h : Holds w nm az ws ks bs cz x1 d1 x2 d2 x3 d3 x4 d4 x5 d5) (hok : ∀ l ∈ ws, wOK l) (hfk : fitN ks) (hfc : fitN cz) (hm : w.cell? ⟨0, 0, none⟩ = some (.int .i64 m)) :
    Calls Tryz.prog 10 #[.agg (nodeV k nm g x1 az.length d1 x2 ws.length d2 x3 ks.len d3 x4 bs.length d4 x5 cz.len d5)] w fun e w' => e = .returned (.bool (k == 5 && nodeR k nm g az ws ks bs cz 1)) ∧ Below w.heap.size w w' := by
  have hR := fun X => right_top k nm g az ws ks bs cz x1 d1 x2 d2 x3 d3 x4 d4 x5 d5 m (w.alloc X) (h.below (bel1 _ _)) hok hfk hfc (cell_below (bel1 _ _) hm)
  unfold nodeV at hR ⊢
  have HR := Lib.hid hR
  clear hR h hok hfk hfc hm
  cases h5 : (k == 5)
  · go_enter Tryz.func10, Tryz.ntmps10
    go_wp2_with fail
    go_ret
    exact ⟨rfl, bel1 _ _⟩
  · go_enter Tryz.func10, Tryz.ntmps10
    go_wp2_with (go_at_call 9; refine (HR.out _).mono ?_; rintro e w1 ⟨rfl, hb⟩)
    go_ret
    exact ⟨ret_bool rfl, thru (bel1 _ _) (by assumption)⟩
end Tr
end Go.Proofs.YtgdjeemmklmpfaaGreat
