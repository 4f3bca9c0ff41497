/- The reference: Size, for all nodes. -/
/- The reference: rows of words, rows of nodes, held against each other. -/
/- The reference: Same, for all nodes. -/
import Derived.Test.YtgdjeemmklmpfaaGreatRtJ
import Derived.Test.YtgdjeemmklmpfaaGreatPtC
namespace Go.Proofs.YtgdjeemmklmpfaaGreat
open Go.RowKit Go.Sort
namespace Tr
open Cls Pt

theorem size_app : ∀ (l m : NL), sizeN (l.app m) = sizeN l + sizeN m
  | .nil, m => by simp [NL.app, sizeN]
  | .node _ _ _ _ _ _ _ _ r, m => by have := size_app r m; simp only [NL.app, sizeN, this]; omega
  | .cse _ _ r, m => by have := size_app r m; simp only [NL.app, sizeN, this]; omega
theorem size_bodies : ∀ (cz : NL), NL.okN cz false = true → sizeN (bodies cz) = sizeN cz
  | .nil, _ => rfl
  | .cse ps b r, h => by
    simp only [NL.okN, Bool.and_eq_true] at h
    simp only [bodies, size_app, sizeN, size_bodies r h.2]
  | .node _ _ _ _ _ _ _ _ _, h => by simp [NL.okN] at h
def RSizeAt (n : Nat) : Prop := ∀ (k : Int) (nm : ByteArray) (g : Bool) (az : List (ByteArray × PL)) (ws : List PL) (ks : NL) (bs : List Bool) (cz : NL) (x1 : Option Addr) (d1 : Nat) (x2 : Option Addr) (d2 : Nat) (x3 : Option Addr) (d3 : Nat) (x4 : Option Addr) (d4 : Nat) (x5 : Option Addr) (d5 : Nat) (w : World), ks.size + cz.size < n → totN ks + totN cz ≤ 1000000 → Holds w nm az ws ks bs cz x1 d1 x2 d2 x3 d3 x4 d4 x5 d5 →
  Calls Tryz.prog 14 #[.agg (nodeV k nm g x1 az.length d1 x2 ws.length d2 x3 ks.len d3 x4 bs.length d4 x5 cz.len d5)] w fun e w' => e = .returned (.int .i64 ((1 + sizeN ks + sizeN cz : Nat) : Int)) ∧ Below w.heap.size w w'

set_option maxHeartbeats 1600000 in
set_option maxRecDepth 100000 in
theorem rsize_step (n : Nat) (hW : RSizeAt n) : RSizeAt (n + 1) := by
  intro k nm g az ws ks bs cz x1 d1 x2 d2 x3 d3 x4 d4 x5 d5 w hsz htt h
  have hlb := len_bodies h.okc
  have htb := totN_bodies h.okc
  have hlk := len_tot ks
  have hb0 := bel1 w (.cells #[.int .i64 k, .string nm, .bool g, .slice x1 az.length d1, .slice x2 ws.length d2, .slice x3 ks.len d3, .slice x4 bs.length d4, .slice x5 cz.len d5] 28)
  have hwn := fun w' (hb : Below w.heap.size w w') => within_ref k nm g az ws ks bs cz x1 d1 x2 d2 x3 d3 x4 d4 x5 d5 w' (h.below hb) (by rw [NL.app_len]; omega)
  unfold nodeV at hwn ⊢
  have hLok : NL.okN (ks.app (bodies cz)) true = true := NL.app_ok h.okk (bodies_okN h.okc)
  have hLs : (ks.app (bodies cz)).size ≤ n := by have h1 := NL.app_size ks (bodies cz); have h2 := bodies_size cz; omega
  have hLt : totN (ks.app (bodies cz)) ≤ 1000000 := by have h1 := totN_app (bodies cz) h.okk; omega
  have hLz : 1 + sizeN ks + sizeN cz = 1 + sizeN (ks.app (bodies cz)) := by rw [size_app, size_bodies _ h.okc]; omega
  rw [hLz]
  generalize ks.app (bodies cz) = L at hwn hLok hLs hLt hLz
  have hLm := size_tot L
  have hLb : 1 + sizeN L ≤ 1000001 := by omega
  have HWN := Lib.hid hwn; have HLO := Lib.hid hLok; have HLS := Lib.hid hLs; have HLT := Lib.hid hLt; have HB0 := Lib.hid hb0; have HWT := Lib.hid hW
  clear hwn hLok hLs hLt hLz hlb htb hlk hb0 h hW hLm
  go_enter Tryz.func14, Tryz.ntmps14
  go_wp2_with (go_at_call 19; refine (HWN.out _ (by first | exact Below.refl _ _ | exact HB0.out)).mono ?_; rintro e w3 ⟨⟨aw, cw, rfl, hnl⟩, hb3⟩)
  have HNL := Lib.hid hnl; have HB3 := Lib.hid (show Below w.heap.size w w3 from by first | exact thru HB0.out hb3 | exact hb3)
  have hlL := hnl.le
  clear hnl hb3
  go_loopw [3, 9] (fun y x wr => ∃ j s : Nat, j ≤ L.len ∧ x = .int .i64 j ∧ y = .int .i64 s ∧ s + sizeN (L.drop j) = 1 + sizeN L ∧ Below w3.heap.size w3 wr) (fun y x wr => L.len - (intOf x).toNat)
  case atStart => exact ⟨0, 1, Nat.zero_le _, rfl, rfl, rfl, Below.refl _ _⟩
  case round =>
    obtain ⟨j, s, hj, rfl, rfl, hi, hbw⟩ := hrel
    have HI := Lib.hid hi; have HWR := Lib.hid hbw
    clear hi hbw
    by_cases hlt : j < L.len
    · obtain ⟨k1, nm1, g1, az1, ws1, ks1, bs1, cz1, r1, hd1⟩ := NL.drop_node hlt HLO.out
      obtain ⟨b1, o1, rfl, hb1, x11, d11, x12, d12, x13, d13, x14, d14, x15, d15, hc1, hh1⟩ := (HNL.out.below HWR.out).getN HLO.out hd1
      have c10 : wr.cell? ⟨b1, o1 + j * 8, none⟩ = some (.int .i64 k1) := hc1 0 _ rfl
      have c11 : wr.cell? ⟨b1, o1 + j * 8 + 1, none⟩ = some (.string nm1) := hc1 1 _ rfl
      have c12 : wr.cell? ⟨b1, o1 + j * 8 + 2, none⟩ = some (.bool g1) := hc1 2 _ rfl
      have c13 : wr.cell? ⟨b1, o1 + j * 8 + 3, none⟩ = some (.slice x11 az1.length d11) := hc1 3 _ rfl
      have c14 : wr.cell? ⟨b1, o1 + j * 8 + 4, none⟩ = some (.slice x12 ws1.length d12) := hc1 4 _ rfl
      have c15 : wr.cell? ⟨b1, o1 + j * 8 + 5, none⟩ = some (.slice x13 ks1.len d13) := hc1 5 _ rfl
      have c16 : wr.cell? ⟨b1, o1 + j * 8 + 6, none⟩ = some (.slice x14 bs1.length d14) := hc1 6 _ rfl
      have c17 : wr.cell? ⟨b1, o1 + j * 8 + 7, none⟩ = some (.slice x15 cz1.len d15) := hc1 7 _ rfl
      have hsz1 : ks1.size + cz1.size < n := by
        have := NL.drop_size j L
        rw [hd1] at this
        simp only [NL.size] at this
        have := HLS.out
        omega
      have htt1 : totN ks1 + totN cz1 ≤ 1000000 := by
        have := tot_drop j L
        rw [hd1] at this
        simp only [totN] at this
        have := HLT.out
        omega
      have hnx := NL.drop_succN hd1
      have hi2 := HI.out
      rw [hd1] at hi2
      simp only [sizeN] at hi2
      have hi3 : (s + (1 + sizeN ks1 + sizeN cz1)) + sizeN r1 = 1 + sizeN L := by omega
      have hrw : (wr.alloc (.cells #[.int .i64 k1, .string nm1, .bool g1, .slice x11 az1.length d11, .slice x12 ws1.length d12, .slice x13 ks1.len d13, .slice x14 bs1.length d14, .slice x15 cz1.len d15] 28)).heap[wr.heap.size]? = some (.cells #[.int .i64 k1, .string nm1, .bool g1, .slice x11 az1.length d11, .slice x12 ws1.length d12, .slice x13 ks1.len d13, .slice x14 bs1.length d14, .slice x15 cz1.len d15] 28 (0, 0)) := heap_new' _ _
      have hbv := bel1 wr (.cells #[.int .i64 k1, .string nm1, .bool g1, .slice x11 az1.length d11, .slice x12 ws1.length d12, .slice x13 ks1.len d13, .slice x14 bs1.length d14, .slice x15 cz1.len d15] 28)
      have hC := HWT.out k1 nm1 g1 az1 ws1 ks1 bs1 cz1 x11 d11 x12 d12 x13 d13 x14 d14 x15 d15 (wr.alloc (.cells #[.int .i64 k1, .string nm1, .bool g1, .slice x11 az1.length d11, .slice x12 ws1.length d12, .slice x13 ks1.len d13, .slice x14 bs1.length d14, .slice x15 cz1.len d15] 28)) hsz1 htt1 (hh1.below hbv)
      unfold nodeV at hC
      have hv : s + (1 + sizeN ks1 + sizeN cz1) ≤ 1000001 := by omega
      generalize 1 + sizeN ks1 + sizeN cz1 = v at hC hi3 hv
      have u1 : IntKind.i64.wrap ((s : Int) + (v : Int)) = (s : Int) + (v : Int) := (wrapEq _).trans (IntWalk.wrap64_in _ ⟨by omega, by omega⟩)
      have HNX := Lib.hid hnx; have HBV := Lib.hid (thru HWR.out hbv); have HRW := Lib.hid hrw; have HC := Lib.hid hC; have HI3 := Lib.hid hi3
      clear hnx hbv hrw hh1 hc1 hd1 HI hsz1 HWR htt1 hi2 hi3 hC
      go_wp2_with fail
      generalize wr.alloc (.cells #[.int .i64 k1, .string nm1, .bool g1, .slice x11 az1.length d11, .slice x12 ws1.length d12, .slice x13 ks1.len d13, .slice x14 bs1.length d14, .slice x15 cz1.len d15] 28) = V at HC HBV HRW ⊢
      have m0 : V.cell? ⟨wr.heap.size, 0, none⟩ = some (.int .i64 k1) := Lib.cell_of_heap HRW.out 0
      have m1 : V.cell? ⟨wr.heap.size, 1, none⟩ = some (.string nm1) := Lib.cell_of_heap HRW.out 1
      have m2 : V.cell? ⟨wr.heap.size, 2, none⟩ = some (.bool g1) := Lib.cell_of_heap HRW.out 2
      have m3 : V.cell? ⟨wr.heap.size, 3, none⟩ = some (.slice x11 az1.length d11) := Lib.cell_of_heap HRW.out 3
      have m4 : V.cell? ⟨wr.heap.size, 4, none⟩ = some (.slice x12 ws1.length d12) := Lib.cell_of_heap HRW.out 4
      have m5 : V.cell? ⟨wr.heap.size, 5, none⟩ = some (.slice x13 ks1.len d13) := Lib.cell_of_heap HRW.out 5
      have m6 : V.cell? ⟨wr.heap.size, 6, none⟩ = some (.slice x14 bs1.length d14) := Lib.cell_of_heap HRW.out 6
      have m7 : V.cell? ⟨wr.heap.size, 7, none⟩ = some (.slice x15 cz1.len d15) := Lib.cell_of_heap HRW.out 7
      go_wp2_with (go_at_call 14; refine (HC.out).mono ?_; rintro e w4 ⟨rfl, hb4⟩)
      go_roundw
      case rel => exact ⟨j + 1, s + v, by omega, by go_num, by go_num, by rw [HNX.out]; exact HI3.out, thru HBV.out (by assumption)⟩
      case measure => simp [intOf]; omega
    · obtain rfl : j = L.len := by omega
      have hfin : s = 1 + sizeN L := by have := HI.out; rw [NL.drop_end (Nat.le_refl _)] at this; simpa [sizeN] using this
      subst hfin
      clear HI hlt
      go_wp2_with fail
      go_ret
      exact ⟨rfl, thru HB3.out HWR.out⟩
theorem rsize_all : ∀ n, RSizeAt n
  | 0 => fun _ _ _ _ _ _ _ _ _ _ _ _ _ _ _ _ _ _ _ h => absurd h (Nat.not_lt_zero _)
  | n + 1 => rsize_step n (rsize_all n)
theorem rright_top (k : Int) (nm : ByteArray) (g : Bool) (az : List (ByteArray × PL)) (ws : List PL) (ks : NL) (bs : List Bool) (cz : NL) (x1 : Option Addr) (d1 : Nat) (x2 : Option Addr) (d2 : Nat) (x3 : Option Addr) (d3 : Nat) (x4 : Option Addr) (d4 : Nat) (x5 : Option Addr) (d5 : Nat) (w : World) (htt : totN ks + totN cz ≤ 1000000) (h : Holds w nm az ws ks bs cz x1 d1 x2 d2 x3 d3 x4 d4 x5 d5) : Calls Tryz.prog 8 #[.agg (nodeV k nm g x1 az.length d1 x2 ws.length d2 x3 ks.len d3 x4 bs.length d4 x5 cz.len d5)] w fun e w' => e = .returned (.bool (nodeR k nm g az ws ks bs cz 1)) ∧ Below w.heap.size w w' := by
  have hR := fun X => rr_all (ks.size + cz.size + 1) k nm g az ws ks bs cz x1 d1 x2 d2 x3 d3 x4 d4 x5 d5 0 (w.alloc X) (Nat.lt_succ_self _) (by decide) htt (h.below (bel1 w X))
  rw [right_eq _ _ _ _ _ _ _ _ h.okk h.okc]
  unfold nodeV at hR ⊢
  have HR := Lib.hid hR
  clear hR h htt
  go_enter Tryz.func8, Tryz.ntmps8
  go_wp2_with (go_at_call 20; first | refine (HR.out _).mono ?_ ; rintro e w1 ⟨rfl, hb⟩)
  go_ret
  exact ⟨rfl, thru (bel1 _ _) (by assumption)⟩
end Tr
end Go.Proofs.YtgdjeemmklmpfaaGreat

namespace Go.Proofs.YtgdjeemmklmpfaaGreat
open Go.RowKit Go.Sort
namespace Tr
open Cls Pt

def RSameAt (n : Nat) : Prop := ∀ (k1 : Int) (nm1 : ByteArray) (g1 : Bool) (az1 : List (ByteArray × PL)) (ws1 : List PL) (ks1 : NL) (bs1 : List Bool) (cz1 : NL) (k2 : Int) (nm2 : ByteArray) (g2 : Bool) (az2 : List (ByteArray × PL)) (ws2 : List PL) (ks2 : NL) (bs2 : List Bool) (cz2 : NL) (x11 : Option Addr) (d11 : Nat) (x12 : Option Addr) (d12 : Nat) (x13 : Option Addr) (d13 : Nat) (x14 : Option Addr) (d14 : Nat) (x15 : Option Addr) (d15 : Nat) (x21 : Option Addr) (d21 : Nat) (x22 : Option Addr) (d22 : Nat) (x23 : Option Addr) (d23 : Nat) (x24 : Option Addr) (d24 : Nat) (x25 : Option Addr) (d25 : Nat) (w : World), ks1.size + cz1.size < n → Holds w nm1 az1 ws1 ks1 bs1 cz1 x11 d11 x12 d12 x13 d13 x14 d14 x15 d15 → Holds w nm2 az2 ws2 ks2 bs2 cz2 x21 d21 x22 d22 x23 d23 x24 d24 x25 d25 →
  Calls Tryz.prog 12 #[.agg (nodeV k1 nm1 g1 x11 az1.length d11 x12 ws1.length d12 x13 ks1.len d13 x14 bs1.length d14 x15 cz1.len d15), .agg (nodeV k2 nm2 g2 x21 az2.length d21 x22 ws2.length d22 x23 ks2.len d23 x24 bs2.length d24 x25 cz2.len d25)] w fun e w' => e = .returned (.bool (nodeEq k1 nm1 g1 az1 ws1 ks1 bs1 cz1 k2 nm2 g2 az2 ws2 ks2 bs2 cz2)) ∧ Below w.heap.size w w'

set_option maxHeartbeats 1600000 in
set_option maxRecDepth 100000 in
theorem rsameWords_any (la lb : List PL) (a b : Option Addr) (ca cb : Nat) (w : World) (hla : Sl 1 (PW w) a ca la) (hlb : Sl 1 (PW w) b cb lb) :
    Calls Tryz.prog 31 #[.slice a la.length ca, .slice b lb.length cb] w fun e w' => e = .returned (.bool (eqL same la lb)) ∧ Below w.heap.size w w' := by
  have hle := hla.le
  have hle2 := hlb.le
  have HA := Lib.hid hla; have HB := Lib.hid hlb
  clear hla hlb
  by_cases hl : la.length = lb.length
  · have hl' : ((la.length : Int) != (lb.length : Int)) = false := by simp [hl]
    have HL := Lib.hid hl
    clear hl
    go_enter Tryz.func31, Tryz.ntmps31
    go_wp2_with fail
    go_loopw [13] (fun x wr => ∃ n : Nat, n ≤ la.length ∧ x = .int .i64 n ∧ eqL same la lb = eqL same (la.drop n) (lb.drop n) ∧ Below w.heap.size w wr) (fun x wr => la.length - (intOf x).toNat)
    case atStart => exact ⟨0, Nat.zero_le _, rfl, rfl, Below.refl _ _⟩
    case round =>
      obtain ⟨n, hn, rfl, hr, hbw⟩ := hrel
      have HR := Lib.hid hr; have HW := Lib.hid hbw
      clear hr hbw
      by_cases hlt : n < la.length
      · have hlt2 : n < lb.length := by have := HL.out; omega
        obtain ⟨b1, o1, rfl, a1, c1, e1, hl1⟩ := (sl_below (P := PW) (fun h => h.below HW.out) HA.out).get (List.getElem?_eq_getElem hlt)
        obtain ⟨b2, o2, rfl, a2, c2, e2, hl2⟩ := (sl_below (P := PW) (fun h => h.below HW.out) HB.out).get (List.getElem?_eq_getElem hlt2)
        rw [Nat.mul_one] at e1 e2
        have hstep : eqL same la lb = (same la[n] lb[n] && eqL same (la.drop (n + 1)) (lb.drop (n + 1))) := by rw [HR.out, eqL_at hlt hlt2]
        have hC := fun dd os => Calls.regrown_of (rsame_any (la[n].size + 1) la[n] lb[n] a1 a2 c1 c2 (grow (redrawn wr dd) os) (Nat.lt_succ_self _) (hl1.below (below_regrown wr dd os)) (hl2.below (below_regrown wr dd os)))
        have q1 := cell_regrown e1
        have q2 := cell_regrown e2
        generalize la[n] = x1 at *
        generalize lb[n] = x2 at *
        generalize same x1 x2 = B at hC hstep
        have HT := Lib.hid hstep
        clear hl1 hl2 hstep e1 e2
        cases B
        all_goals
          have HC := Lib.hid hC
          clear hC
          go_wp2_with fail
          refine Qu.region (by kernel_rfl) (by kernel_rfl) ?_
          repeat (first
            | (first | refine Qu.carry0 rfl (fun K hK => ?_) | refine Qu.carryG rfl rfl rfl (fun K hK => ?_)
               go_simp
               first
               | (refine hK _ ?_; clear hK K)
               | (apply Exists.intro; refine ⟨fun _ => ?_, hK _ ?_⟩; (go_at_call 30; exact HC.out _ _); clear hK K))
            | (refine Qu.passG rfl rfl rfl (fun K hK => ?_); go_simp; refine hK _ ?_; clear hK K))
          refine Qu.fin ?_
          rintro ⟨dq, osq⟩
          go_wp2_with fail
        · go_ret
          exact ⟨ret_bool (by rw [HT.out]; rfl), thru HW.out (below_regrown wr dq osq)⟩
        · go_roundw
          case rel => exact ⟨n + 1, by omega, by go_num, by rw [HT.out]; rfl, thru HW.out (below_regrown wr dq osq)⟩
          case measure => simp [intOf]; omega
      · obtain rfl : n = la.length := by omega
        have hfin := HR.out.trans (eqL_end HL.out)
        have HF := Lib.hid hfin
        clear hfin hlt
        go_wp2_with fail
        go_ret
        exact ⟨ret_bool HF.out.symm, HW.out⟩
  · have hl' : ((la.length : Int) != (lb.length : Int)) = true := by rw [bne_iff_ne]; omega
    have HL := Lib.hid hl
    clear hl
    go_enter Tryz.func31, Tryz.ntmps31
    go_wp2_with fail
    go_ret
    exact ⟨ret_bool (eqL_len HL.out).symm, Below.refl _ _⟩
end Tr
end Go.Proofs.YtgdjeemmklmpfaaGreat

namespace Go.Proofs.YtgdjeemmklmpfaaGreat
open Go.RowKit Go.Sort
namespace Tr
open Cls Pt

set_option maxHeartbeats 1600000 in
set_option maxRecDepth 100000 in
theorem rsameNodes_any (n : Nat) (hS : RSameAt n) (la lb : NL) (hn : la.size ≤ n) (hoka : NL.okN la true = true) (hokb : NL.okN lb true = true) (a b : Option Addr) (ca cb : Nat) (w : World) (hla : NLies w a ca la) (hlb : NLies w b cb lb) :
    Calls Tryz.prog 32 #[.slice a la.len ca, .slice b lb.len cb] w fun e w' => e = .returned (.bool (sameN la lb)) ∧ Below w.heap.size w w' := by
  have hle := hla.le
  have hle2 := hlb.le
  have HA := Lib.hid hla; have HB := Lib.hid hlb; have HOA := Lib.hid hoka; have HOB := Lib.hid hokb; have HN := Lib.hid hn; have HSS := Lib.hid hS
  clear hla hlb hoka hokb hn hS
  by_cases hl : la.len = lb.len
  · have hl' : ((la.len : Int) != (lb.len : Int)) = false := by simp [hl]
    have HL := Lib.hid hl
    clear hl
    go_enter Tryz.func32, Tryz.ntmps32
    go_wp2_with fail
    go_loopw [13] (fun x wr => ∃ j : Nat, j ≤ la.len ∧ x = .int .i64 j ∧ sameN la lb = sameN (la.drop j) (lb.drop j) ∧ Below w.heap.size w wr) (fun x wr => la.len - (intOf x).toNat)
    case atStart => exact ⟨0, Nat.zero_le _, rfl, rfl, Below.refl _ _⟩
    case round =>
      obtain ⟨j, hj, rfl, hr, hbw⟩ := hrel
      have HR := Lib.hid hr; have HW := Lib.hid hbw
      clear hr hbw
      by_cases hlt : j < la.len
      · have hlt2 : j < lb.len := by have := HL.out; omega
        obtain ⟨k1, nm1, g1, az1, ws1, ks1, bs1, cz1, r1, hd1⟩ := NL.drop_node hlt HOA.out
        obtain ⟨k2, nm2, g2, az2, ws2, ks2, bs2, cz2, r2, hd2⟩ := NL.drop_node hlt2 HOB.out
        obtain ⟨b1, o1, rfl, hb1, x11, d11, x12, d12, x13, d13, x14, d14, x15, d15, hc1, hh1⟩ := (HA.out.below HW.out).getN HOA.out hd1
        obtain ⟨b2, o2, rfl, hb2, x21, d21, x22, d22, x23, d23, x24, d24, x25, d25, hc2, hh2⟩ := (HB.out.below HW.out).getN HOB.out hd2
        have p0 := cell_regrown (show wr.cell? ⟨b1, o1 + j * 8, none⟩ = some (.int .i64 k1) from hc1 0 _ rfl)
        have p1 := cell_regrown (show wr.cell? ⟨b1, o1 + j * 8 + 1, none⟩ = some (.string nm1) from hc1 1 _ rfl)
        have p2 := cell_regrown (show wr.cell? ⟨b1, o1 + j * 8 + 2, none⟩ = some (.bool g1) from hc1 2 _ rfl)
        have p3 := cell_regrown (show wr.cell? ⟨b1, o1 + j * 8 + 3, none⟩ = some (.slice x11 az1.length d11) from hc1 3 _ rfl)
        have p4 := cell_regrown (show wr.cell? ⟨b1, o1 + j * 8 + 4, none⟩ = some (.slice x12 ws1.length d12) from hc1 4 _ rfl)
        have p5 := cell_regrown (show wr.cell? ⟨b1, o1 + j * 8 + 5, none⟩ = some (.slice x13 ks1.len d13) from hc1 5 _ rfl)
        have p6 := cell_regrown (show wr.cell? ⟨b1, o1 + j * 8 + 6, none⟩ = some (.slice x14 bs1.length d14) from hc1 6 _ rfl)
        have p7 := cell_regrown (show wr.cell? ⟨b1, o1 + j * 8 + 7, none⟩ = some (.slice x15 cz1.len d15) from hc1 7 _ rfl)
        have q0 := cell_regrown (show wr.cell? ⟨b2, o2 + j * 8, none⟩ = some (.int .i64 k2) from hc2 0 _ rfl)
        have q1 := cell_regrown (show wr.cell? ⟨b2, o2 + j * 8 + 1, none⟩ = some (.string nm2) from hc2 1 _ rfl)
        have q2 := cell_regrown (show wr.cell? ⟨b2, o2 + j * 8 + 2, none⟩ = some (.bool g2) from hc2 2 _ rfl)
        have q3 := cell_regrown (show wr.cell? ⟨b2, o2 + j * 8 + 3, none⟩ = some (.slice x21 az2.length d21) from hc2 3 _ rfl)
        have q4 := cell_regrown (show wr.cell? ⟨b2, o2 + j * 8 + 4, none⟩ = some (.slice x22 ws2.length d22) from hc2 4 _ rfl)
        have q5 := cell_regrown (show wr.cell? ⟨b2, o2 + j * 8 + 5, none⟩ = some (.slice x23 ks2.len d23) from hc2 5 _ rfl)
        have q6 := cell_regrown (show wr.cell? ⟨b2, o2 + j * 8 + 6, none⟩ = some (.slice x24 bs2.length d24) from hc2 6 _ rfl)
        have q7 := cell_regrown (show wr.cell? ⟨b2, o2 + j * 8 + 7, none⟩ = some (.slice x25 cz2.len d25) from hc2 7 _ rfl)
        have hsz1 : ks1.size + cz1.size < n := by
          have := NL.drop_size j la
          rw [hd1] at this
          simp only [NL.size] at this
          have := HN.out
          omega
        have hstep : sameN la lb = (nodeEq k1 nm1 g1 az1 ws1 ks1 bs1 cz1 k2 nm2 g2 az2 ws2 ks2 bs2 cz2 && sameN r1 r2) := by rw [HR.out, hd1, hd2]; rfl
        have hC := fun dd os => Calls.regrown_of (HSS.out k1 nm1 g1 az1 ws1 ks1 bs1 cz1 k2 nm2 g2 az2 ws2 ks2 bs2 cz2 x11 d11 x12 d12 x13 d13 x14 d14 x15 d15 x21 d21 x22 d22 x23 d23 x24 d24 x25 d25 (grow (redrawn wr dd) os) hsz1 (hh1.below (below_regrown wr dd os)) (hh2.below (below_regrown wr dd os)))
        have hnx1 := NL.drop_succN hd1
        have hnx2 := NL.drop_succN hd2
        unfold nodeV at hC
        generalize nodeEq k1 nm1 g1 az1 ws1 ks1 bs1 cz1 k2 nm2 g2 az2 ws2 ks2 bs2 cz2 = B at hC hstep
        have HT := Lib.hid hstep; have HN1 := Lib.hid hnx1; have HN2 := Lib.hid hnx2
        clear hh1 hh2 hc1 hc2 hstep hd1 hd2 hnx1 hnx2 hsz1
        cases B
        all_goals
          have HC := Lib.hid hC
          clear hC
          go_wp2_with fail
          refine Qu.region (by kernel_rfl) (by kernel_rfl) ?_
          repeat (first
            | (first | refine Qu.carry0 rfl (fun K hK => ?_) | refine Qu.carryG rfl rfl rfl (fun K hK => ?_)
               go_simp
               first
               | (refine hK _ ?_; clear hK K)
               | (apply Exists.intro; refine ⟨fun _ => ?_, hK _ ?_⟩; (go_at_call 12; exact HC.out _ _); clear hK K))
            | (refine Qu.passG rfl rfl rfl (fun K hK => ?_); go_simp; refine hK _ ?_; clear hK K))
          refine Qu.fin ?_
          rintro ⟨dq, osq⟩
          go_wp2_with fail
        · go_ret
          exact ⟨ret_bool (by rw [HT.out]; rfl), thru HW.out (below_regrown wr dq osq)⟩
        · go_roundw
          case rel => exact ⟨j + 1, by omega, by go_num, by rw [HT.out, HN1.out, HN2.out]; rfl, thru HW.out (below_regrown wr dq osq)⟩
          case measure => simp [intOf]; omega
      · obtain rfl : j = la.len := by omega
        have hfin : sameN la lb = true := by rw [HR.out, NL.drop_end (Nat.le_refl _), NL.drop_end (by have := HL.out; omega)]; rfl
        have HF := Lib.hid hfin
        clear hfin hlt
        go_wp2_with fail
        go_ret
        exact ⟨ret_bool HF.out.symm, HW.out⟩
  · have hl' : ((la.len : Int) != (lb.len : Int)) = true := by rw [bne_iff_ne]; omega
    have HL := Lib.hid hl
    clear hl
    go_enter Tryz.func32, Tryz.ntmps32
    go_wp2_with fail
    go_ret
    exact ⟨ret_bool (sameN_len HL.out).symm, Below.refl _ _⟩
end Tr
end Go.Proofs.YtgdjeemmklmpfaaGreat
