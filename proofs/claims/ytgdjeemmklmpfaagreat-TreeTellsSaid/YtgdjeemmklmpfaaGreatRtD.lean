/- The reference: a simple command. -/
/- The reference: kids that are lists with commands; cases. -/
import Derived.Test.YtgdjeemmklmpfaaGreatRtB
namespace Go.Proofs.YtgdjeemmklmpfaaGreat
open Go.RowKit Go.Sort
namespace Tr
open Cls Pt

/-- A contract, from a later world on. -/
theorem later {f : FuncId} {args : Array Value} {W0 W : World} {v : Value} (h : Calls Tryz.prog f args W fun e w' => e = .returned v ∧ Below W.heap.size W w') (hb : Below W0.heap.size W0 W) : Calls Tryz.prog f args W fun e w' => e = .returned v ∧ Below W0.heap.size W0 w' :=
  h.mono fun _ _ x => ⟨x.1, thru hb x.2⟩
theorem first_res (l : PL) (B : Bool) : firstB l B = (!(Sp.splitP l).isSome && (B || !resW l)) := by
  unfold firstB resW
  cases (Sp.splitP l).isSome <;> cases B <;> cases Sp.plainB l <;> simp
theorem simple_empty {az : List (ByteArray × PL)} {ws : List PL} (h : az.length + ws.length = 0) : simpleB az ws = false := by
  have h1 : az = [] := List.length_eq_zero_iff.1 (by omega)
  have h2 : ws = [] := List.length_eq_zero_iff.1 (by omega)
  subst h1 h2
  rfl
theorem simple_words {az : List (ByteArray × PL)} {ws : List PL} (h : ws.all rightW = false) : simpleB az ws = false := by
  cases ws with
  | nil => simp at h
  | cons l r =>
    show (az.all assignB && (firstB l _ && (l :: r).all rightW)) = false
    rw [h]; simp
theorem simple_assigns {az : List (ByteArray × PL)} {ws : List PL} (h : az.all assignB = false) : simpleB az ws = false := by
  unfold simpleB; rw [h]; rfl

set_option maxHeartbeats 1600000 in
set_option maxRecDepth 100000 in
theorem rsimple_any (k : Int) (nm : ByteArray) (g : Bool) (az : List (ByteArray × PL)) (ws : List PL) (ks : NL) (bs : List Bool) (cz : NL) (x1 : Option Addr) (d1 : Nat) (x2 : Option Addr) (d2 : Nat) (x3 : Option Addr) (d3 : Nat) (x4 : Option Addr) (d4 : Nat) (x5 : Option Addr) (d5 : Nat) (w : World) (h : Holds w nm az ws ks bs cz x1 d1 x2 d2 x3 d3 x4 d4 x5 d5) : Calls Tryz.prog 65 #[.agg (nodeV k nm g x1 az.length d1 x2 ws.length d2 x3 ks.len d3 x4 bs.length d4 x5 cz.len d5)] w fun e w' => e = .returned (.bool (noneL (hasN nm g az ws ks bs cz) [97, 119] && simpleB az ws)) ∧ Below w.heap.size w w' := by
  have hla := h.haz.le
  have hlw := h.hws.le
  have hb0 := bel1 w (.cells #[.int .i64 k, .string nm, .bool g, .slice x1 az.length d1, .slice x2 ws.length d2, .slice x3 ks.len d3, .slice x4 bs.length d4, .slice x5 cz.len d5] 28)
  have hrow : (w.alloc (.cells #[.int .i64 k, .string nm, .bool g, .slice x1 az.length d1, .slice x2 ws.length d2, .slice x3 ks.len d3, .slice x4 bs.length d4, .slice x5 cz.len d5] 28)).heap[w.heap.size]? = some (.cells #[.int .i64 k, .string nm, .bool g, .slice x1 az.length d1, .slice x2 ws.length d2, .slice x3 ks.len d3, .slice x4 bs.length d4, .slice x5 cz.len d5] 28 (0, 0)) := heap_new' _ _
  have hn := fun W (hb : Below (w.alloc (.cells #[.int .i64 k, .string nm, .bool g, .slice x1 az.length d1, .slice x2 ws.length d2, .slice x3 ks.len d3, .slice x4 bs.length d4, .slice x5 cz.len d5] 28)).heap.size (w.alloc (.cells #[.int .i64 k, .string nm, .bool g, .slice x1 az.length d1, .slice x2 ws.length d2, .slice x3 ks.len d3, .slice x4 bs.length d4, .slice x5 cz.len d5] 28)) W) => later (none_any k nm g az ws ks bs cz x1 d1 x2 d2 x3 d3 x4 d4 x5 d5 ⟨#[97, 119]⟩ (by decide) W (h.below (thru hb0 hb))) hb
  have hws := fun W (hb : Below (w.alloc (.cells #[.int .i64 k, .string nm, .bool g, .slice x1 az.length d1, .slice x2 ws.length d2, .slice x3 ks.len d3, .slice x4 bs.length d4, .slice x5 cz.len d5] 28)).heap.size (w.alloc (.cells #[.int .i64 k, .string nm, .bool g, .slice x1 az.length d1, .slice x2 ws.length d2, .slice x3 ks.len d3, .slice x4 bs.length d4, .slice x5 cz.len d5] 28)) W) => later (rwords_any ws x2 d2 W (sl_below (P := PW) (fun h => h.below (thru hb0 hb)) h.hws)) hb
  have hlt0 : w.heap.size < (w.alloc (.cells #[.int .i64 k, .string nm, .bool g, .slice x1 az.length d1, .slice x2 ws.length d2, .slice x3 ks.len d3, .slice x4 bs.length d4, .slice x5 cz.len d5] 28)).heap.size := by simp only [World.size_alloc]; omega
  unfold nodeV at hn ⊢
  generalize hNE : noneL (hasN nm g az ws ks bs cz) [97, 119] = N at hn ⊢
  have HN := Lib.hid hn; have HWS := Lib.hid hws; have HA := Lib.hid h.haz; have HW1 := Lib.hid h.hws
  clear hn hws h hNE
  go_enter Tryz.func65, Tryz.ntmps65
  go_wp2_with fail
  generalize w.alloc (.cells #[.int .i64 k, .string nm, .bool g, .slice x1 az.length d1, .slice x2 ws.length d2, .slice x3 ks.len d3, .slice x4 bs.length d4, .slice x5 cz.len d5] 28) = W0 at *
  have hq0 : ∀ W, Below W0.heap.size W0 W → W.cell? ⟨w.heap.size, 0, none⟩ = some (.int .i64 k) := fun W hb => cell_below hb (Lib.cell_of_heap hrow 0)
  have hq1 : ∀ W, Below W0.heap.size W0 W → W.cell? ⟨w.heap.size, 1, none⟩ = some (.string nm) := fun W hb => cell_below hb (Lib.cell_of_heap hrow 1)
  have hq2 : ∀ W, Below W0.heap.size W0 W → W.cell? ⟨w.heap.size, 2, none⟩ = some (.bool g) := fun W hb => cell_below hb (Lib.cell_of_heap hrow 2)
  have hq3 : ∀ W, Below W0.heap.size W0 W → W.cell? ⟨w.heap.size, 3, none⟩ = some (.slice x1 az.length d1) := fun W hb => cell_below hb (Lib.cell_of_heap hrow 3)
  have hq4 : ∀ W, Below W0.heap.size W0 W → W.cell? ⟨w.heap.size, 4, none⟩ = some (.slice x2 ws.length d2) := fun W hb => cell_below hb (Lib.cell_of_heap hrow 4)
  have hq5 : ∀ W, Below W0.heap.size W0 W → W.cell? ⟨w.heap.size, 5, none⟩ = some (.slice x3 ks.len d3) := fun W hb => cell_below hb (Lib.cell_of_heap hrow 5)
  have hq6 : ∀ W, Below W0.heap.size W0 W → W.cell? ⟨w.heap.size, 6, none⟩ = some (.slice x4 bs.length d4) := fun W hb => cell_below hb (Lib.cell_of_heap hrow 6)
  have hq7 : ∀ W, Below W0.heap.size W0 W → W.cell? ⟨w.heap.size, 7, none⟩ = some (.slice x5 cz.len d5) := fun W hb => cell_below hb (Lib.cell_of_heap hrow 7)
  have HQ0 := Lib.hid hq0; clear hq0
  have HQ1 := Lib.hid hq1; clear hq1
  have HQ2 := Lib.hid hq2; clear hq2
  have HQ3 := Lib.hid hq3; clear hq3
  have HQ4 := Lib.hid hq4; clear hq4
  have HQ5 := Lib.hid hq5; clear hq5
  have HQ6 := Lib.hid hq6; clear hq6
  have HQ7 := Lib.hid hq7; clear hq7
  have HB0 := Lib.hid hb0; clear hb0 hrow
  have q0 := HQ0.out _ (Below.refl _ _); have q1 := HQ1.out _ (Below.refl _ _); have q2 := HQ2.out _ (Below.refl _ _); have q3 := HQ3.out _ (Below.refl _ _); have q4 := HQ4.out _ (Below.refl _ _); have q5 := HQ5.out _ (Below.refl _ _); have q6 := HQ6.out _ (Below.refl _ _); have q7 := HQ7.out _ (Below.refl _ _)
  have hbr := Below.refl W0.heap.size W0
  cases N
  · go_wp2_with (go_at_call 66; refine (HN.out _ (by assumption)).mono ?_; rintro e w1 ⟨rfl, hb⟩)
    go_ret
    exact ⟨rfl, thru HB0.out (by assumption)⟩
  have hu : IntKind.i64.wrap ((az.length : Int) + (ws.length : Int)) = (az.length : Int) + (ws.length : Int) := (wrapEq _).trans (IntWalk.wrap64_in _ ⟨by omega, by omega⟩)
  by_cases h0 : az.length + ws.length = 0
  · have h0' : ((az.length : Int) + (ws.length : Int) == 0) = true := by simp; omega
    have HS := Lib.hid (simple_empty h0)
    clear h0
    go_wp2_with (go_at_call 66; refine (HN.out _ (by assumption)).mono ?_; rintro e w1 ⟨rfl, hb⟩; have q3 := HQ3.out _ hb; have q4 := HQ4.out _ hb)
    go_ret
    exact ⟨ret_bool (by rw [HS.out]; rfl), thru HB0.out (by assumption)⟩
  have h0' : ((az.length : Int) + (ws.length : Int) == 0) = false := by rw [beq_eq_false_iff_ne]; omega
  have H0 := Lib.hid h0
  clear h0
  cases hww : ws.all rightW
  · rw [hww] at HWS
    have HS := Lib.hid (simple_words (az := az) hww)
    clear hww
    go_wp2_with (first | (go_at_call 66; refine (HN.out _ (by assumption)).mono ?_; rintro e w1 ⟨rfl, hb⟩; have q3 := HQ3.out _ hb; have q4 := HQ4.out _ hb) | (go_at_call 72; refine (HWS.out _ (by assumption)).mono ?_; rintro e w2 ⟨rfl, hb⟩))
    go_ret
    exact ⟨ret_bool (by rw [HS.out]; rfl), thru HB0.out (by assumption)⟩
  rw [hww] at HWS
  have HWW0 := Lib.hid hww
  clear hww
  go_wp2_with (first | (go_at_call 66; refine (HN.out _ (by assumption)).mono ?_; rintro e w1 ⟨rfl, hb⟩; have q3 := HQ3.out _ hb; have q4 := HQ4.out _ hb) | (go_at_call 72; refine (HWS.out _ (by assumption)).mono ?_; rintro e w2 ⟨rfl, hb⟩; have q3 := HQ3.out _ hb; have q4 := HQ4.out _ hb))
  clear q0 q1 q2 q5 q6 q7 hu
  go_loopw [27] (fun x wr => ∃ n : Nat, n ≤ az.length ∧ x = .int .i64 n ∧ az.all assignB = (az.drop n).all assignB ∧ Below W0.heap.size W0 wr) (fun x wr => az.length - (intOf x).toNat)
  case atStart => exact ⟨0, Nat.zero_le _, rfl, rfl, by assumption⟩
  case round =>
    obtain ⟨n, hn, rfl, hr, hbw⟩ := hrel
    have hbww := thru HB0.out hbw
    have HR := Lib.hid hr; have HW := Lib.hid hbw; have HWW := Lib.hid hbww
    clear hr hbw hbww
    by_cases hlt : n < az.length
    · obtain ⟨b1, o1, rfl, e1, hsz, a1, c1, e2, hl1⟩ := (sl_below (P := PA) (fun h => h.below HWW.out) HA.out).get (List.getElem?_eq_getElem hlt)
      have hb1 := World.block_lt_of_cell? _ _ e1
      have hN := fun w => rname_any az[n].1 w (by unfold R at hsz; omega)
      have hV := fun X => Rf.rvalue_any az[n].2 a1 c1 (wr.alloc X) (hl1.below (bel1 wr X))
      have hstep : az.all assignB = (assignB az[n] && (az.drop (n + 1)).all assignB) := by rw [HR.out, List.drop_eq_getElem_cons hlt]; rfl
      have hAB : assignB az[n] = (nameL az[n].1.data.toList && rightL none az[n].2 0 1) := rfl
      rw [hAB] at hstep
      generalize az[n].1 = t1 at *
      generalize az[n].2 = l1 at *
      have HT := Lib.hid hstep
      clear hl1 hstep hAB
      cases hx : nameL t1.data.toList
      · rw [hx] at hN HT
        have HN2 := Lib.hid hN; have HV := Lib.hid hV
        have HS := Lib.hid (simple_assigns (ws := ws) (HT.out.trans rfl))
        clear hN hV hx
        go_wp2_with (go_at_call 71; refine (HN2.out _).mono ?_; rintro e w' ⟨rfl, rfl⟩)
        go_ret
        exact ⟨ret_bool (by rw [HS.out]; rfl), thru HWW.out (bel1 _ _)⟩
      · rw [hx] at hN HT
        cases hy : rightL none l1 0 1
        all_goals
          rw [hy] at hV HT
          have HN2 := Lib.hid hN; have HV := Lib.hid hV
          clear hN hV hx hy
          go_wp2_with (first
            | (go_at_call 71; refine (HN2.out _).mono ?_; rintro e w' ⟨rfl, rfl⟩)
            | (go_at_call 95; refine (HV.out _).mono ?_; rintro e w2 ⟨rfl, hb⟩))
        · have HS := Lib.hid (simple_assigns (ws := ws) (HT.out.trans rfl))
          go_ret
          exact ⟨ret_bool (by rw [HS.out]; rfl), thru HWW.out (thru (bel1 _ _) (by assumption))⟩
        · go_roundw
          case rel => exact ⟨n + 1, by omega, by go_num, by rw [HT.out]; rfl, thru HW.out (thru (bel1 _ _) (by assumption))⟩
          case measure => simp [intOf]; omega
    · obtain rfl : n = az.length := by omega
      have hall : az.all assignB = true := by rw [HR.out, List.drop_eq_nil_of_le (Nat.le_refl _)]; rfl
      have q3 := HQ3.out _ HW.out
      have q4 := HQ4.out _ HW.out
      have HALL := Lib.hid hall
      clear hall
      cases ws with
      | nil =>
        have hp : 0 < az.length := by have := H0.out; simp only [List.length_nil] at this; omega
        have HS := Lib.hid (show simpleB az [] = true by show (az.all assignB && decide (0 < az.length)) = true; rw [HALL.out]; simp [hp])
        clear h0' hlw hlt
        simp only [List.length_nil] at q4
        go_wp2_with fail
        go_ret
        exact ⟨ret_bool (by rw [HS.out]; rfl), HWW.out⟩
      | cons l r =>
        obtain ⟨bw, ow, rfl, aw, cw, ew, hlw1⟩ := (sl_below (P := PW) (fun h => h.below HWW.out) HW1.out).get (n := 0) (t := l) rfl
        rw [Nat.zero_mul, Nat.add_zero] at ew
        have hbw := World.block_lt_of_cell? _ _ ew
        have hz : (((l :: r).length : Int) == 0) = false := by rw [beq_eq_false_iff_ne]; simp; omega
        have hlen1 : 0 < (l :: r).length := by simp
        have hans : simpleB az (l :: r) = firstB l (decide (0 < az.length)) := by
          show (az.all assignB && (firstB l _ && (l :: r).all rightW)) = _
          rw [HALL.out, HWW0.out]; simp
        rw [first_res] at hans
        have hB : ∃ B : Bool, decide (0 < az.length) = B ∧ ((0 < az.length) = (B = true)) := ⟨_, rfl, by simp⟩
        obtain ⟨B, hB, hB2⟩ := hB
        rw [hB] at hans
        have HANS := Lib.hid hans
        have hS := Sp.rsplit_any l aw cw wr hlw1
        have hR := rresw_any l aw cw wr hlw1
        generalize (l :: r).length = L at *
        generalize az.length = LA at *
        generalize hres : resW l = RS at hR HANS
        clear hans hB h0' hlt hres HALL HR hlw1
        cases hsp : Sp.splitP l with
        | some n0 =>
          rw [show Sp.splitI l = ((n0 : Nat) : Int) by unfold Sp.splitI; rw [hsp]] at hS
          have HSP := Lib.hid (show (Sp.splitP l).isSome = true by rw [hsp]; rfl)
          have HS := Lib.hid hS
          clear hS hR hsp
          go_wp2_with (go_at_call 96; refine HS.out.mono ?_; rintro e w1 ⟨rfl, rfl⟩)
          go_ret
          exact ⟨ret_bool (by rw [HANS.out, HSP.out]; rfl), HWW.out⟩
        | none =>
          rw [show Sp.splitI l = -1 by unfold Sp.splitI; rw [hsp]] at hS
          have HSP := Lib.hid (show (Sp.splitP l).isSome = false by rw [hsp]; rfl)
          have HS := Lib.hid hS; have HRS := Lib.hid hR
          clear hS hR hsp
          cases B
          all_goals
            simp only [Bool.false_eq_true, eq_self_iff_true] at hB2
            cases RS
            all_goals
              go_wp2_with (first | (go_at_call 96; refine HS.out.mono ?_; rintro e w1 ⟨rfl, rfl⟩) | (go_at_call 97; refine HRS.out.mono ?_; rintro e w2 ⟨rfl, hb⟩))
              go_ret
              exact ⟨ret_bool (by rw [HANS.out, HSP.out]; rfl), by first | exact HWW.out | exact thru HWW.out (by assumption)⟩
end Tr
end Go.Proofs.YtgdjeemmklmpfaaGreat

namespace Go.Proofs.YtgdjeemmklmpfaaGreat
open Go.RowKit Go.Sort
namespace Tr
open Cls Pt

def bodiesB (ks : NL) (a b : Nat) : Bool := allS bodyB ks && (decide (a ≤ ks.len) && decide (ks.len ≤ b))
set_option maxHeartbeats 1600000 in
set_option maxRecDepth 100000 in
theorem rbodies_any (k : Int) (nm : ByteArray) (g : Bool) (az : List (ByteArray × PL)) (ws : List PL) (ks : NL) (bs : List Bool) (cz : NL) (x1 : Option Addr) (d1 : Nat) (x2 : Option Addr) (d2 : Nat) (x3 : Option Addr) (d3 : Nat) (x4 : Option Addr) (d4 : Nat) (x5 : Option Addr) (d5 : Nat) (fr to : Nat) (w : World) (h : Holds w nm az ws ks bs cz x1 d1 x2 d2 x3 d3 x4 d4 x5 d5) : Calls Tryz.prog 70 #[.agg (nodeV k nm g x1 az.length d1 x2 ws.length d2 x3 ks.len d3 x4 bs.length d4 x5 cz.len d5), .int .i64 fr, .int .i64 to] w fun e w' => e = .returned (.bool (bodiesB ks fr to)) ∧ Below w.heap.size w w' := by
  have hlk := h.hks.le
  have hb0 := bel1 w (.cells #[.int .i64 k, .string nm, .bool g, .slice x1 az.length d1, .slice x2 ws.length d2, .slice x3 ks.len d3, .slice x4 bs.length d4, .slice x5 cz.len d5] 28)
  have hrow : (w.alloc (.cells #[.int .i64 k, .string nm, .bool g, .slice x1 az.length d1, .slice x2 ws.length d2, .slice x3 ks.len d3, .slice x4 bs.length d4, .slice x5 cz.len d5] 28)).heap[w.heap.size]? = some (.cells #[.int .i64 k, .string nm, .bool g, .slice x1 az.length d1, .slice x2 ws.length d2, .slice x3 ks.len d3, .slice x4 bs.length d4, .slice x5 cz.len d5] 28 (0, 0)) := heap_new' _ _
  unfold nodeV
  have HK := Lib.hid h.hks; have HOK := Lib.hid h.okk
  clear h
  go_enter Tryz.func70, Tryz.ntmps70
  go_wp2_with fail
  generalize w.alloc (.cells #[.int .i64 k, .string nm, .bool g, .slice x1 az.length d1, .slice x2 ws.length d2, .slice x3 ks.len d3, .slice x4 bs.length d4, .slice x5 cz.len d5] 28) = W0 at *
  have hq5 : ∀ W, Below W0.heap.size W0 W → W.cell? ⟨w.heap.size, 5, none⟩ = some (.slice x3 ks.len d3) := fun W hb => cell_below hb (Lib.cell_of_heap hrow 5)
  have HQ5 := Lib.hid hq5; clear hq5
  have HB0 := Lib.hid hb0; clear hb0 hrow
  have hbr := Below.refl W0.heap.size W0
  go_loopw [12] (fun x wr => ∃ j : Nat, j ≤ ks.len ∧ x = .int .i64 j ∧ allS bodyB ks = allS bodyB (ks.drop j) ∧ Below W0.heap.size W0 wr) (fun x wr => ks.len - (intOf x).toNat)
  case atStart => exact ⟨0, Nat.zero_le _, rfl, rfl, by assumption⟩
  case round =>
    obtain ⟨j, hj, rfl, hi, hbw⟩ := hrel
    have HI := Lib.hid hi; have HWR := Lib.hid hbw
    clear hi hbw
    by_cases hlt : j < ks.len
    · obtain ⟨k1, nm1, g1, az1, ws1, ks1, bs1, cz1, r1, hd1⟩ := NL.drop_node hlt HOK.out
      obtain ⟨b1, o1, rfl, hb1, x11, d11, x12, d12, x13, d13, x14, d14, x15, d15, hc1, hh1⟩ := (HK.out.below (thru HB0.out HWR.out)).getN HOK.out hd1
      have c10 : wr.cell? ⟨b1, o1 + j * 8, none⟩ = some (.int .i64 k1) := hc1 0 _ rfl
      have c11 : wr.cell? ⟨b1, o1 + j * 8 + 1, none⟩ = some (.string nm1) := hc1 1 _ rfl
      have c12 : wr.cell? ⟨b1, o1 + j * 8 + 2, none⟩ = some (.bool g1) := hc1 2 _ rfl
      have c13 : wr.cell? ⟨b1, o1 + j * 8 + 3, none⟩ = some (.slice x11 az1.length d11) := hc1 3 _ rfl
      have c14 : wr.cell? ⟨b1, o1 + j * 8 + 4, none⟩ = some (.slice x12 ws1.length d12) := hc1 4 _ rfl
      have c15 : wr.cell? ⟨b1, o1 + j * 8 + 5, none⟩ = some (.slice x13 ks1.len d13) := hc1 5 _ rfl
      have c16 : wr.cell? ⟨b1, o1 + j * 8 + 6, none⟩ = some (.slice x14 bs1.length d14) := hc1 6 _ rfl
      have c17 : wr.cell? ⟨b1, o1 + j * 8 + 7, none⟩ = some (.slice x15 cz1.len d15) := hc1 7 _ rfl
      have hnx := NL.drop_succN hd1
      have hi3 : allS bodyB ks = (bodyB k1 ks1.len && allS bodyB r1) := by rw [HI.out, hd1]; rfl
      have hrw : (wr.alloc (.cells #[.int .i64 k1, .string nm1, .bool g1, .slice x11 az1.length d11, .slice x12 ws1.length d12, .slice x13 ks1.len d13, .slice x14 bs1.length d14, .slice x15 cz1.len d15] 28)).heap[wr.heap.size]? = some (.cells #[.int .i64 k1, .string nm1, .bool g1, .slice x11 az1.length d11, .slice x12 ws1.length d12, .slice x13 ks1.len d13, .slice x14 bs1.length d14, .slice x15 cz1.len d15] 28 (0, 0)) := heap_new' _ _
      have hbv := bel1 wr (.cells #[.int .i64 k1, .string nm1, .bool g1, .slice x11 az1.length d11, .slice x12 ws1.length d12, .slice x13 ks1.len d13, .slice x14 bs1.length d14, .slice x15 cz1.len d15] 28)
      have hC := later (rbody_any k1 nm1 g1 az1 ws1 ks1 bs1 cz1 x11 d11 x12 d12 x13 d13 x14 d14 x15 d15 (wr.alloc (.cells #[.int .i64 k1, .string nm1, .bool g1, .slice x11 az1.length d11, .slice x12 ws1.length d12, .slice x13 ks1.len d13, .slice x14 bs1.length d14, .slice x15 cz1.len d15] 28))) (Below.refl _ _)
      unfold nodeV at hC
      have hs0 : bodyB k1 ks1.len = bodyB k1 ks1.len := rfl
      rw [hs0] at hi3
      generalize bodyB k1 ks1.len = B at hC hi3
      have HNX := Lib.hid hnx; have HBV := Lib.hid (thru HWR.out hbv); have HRW := Lib.hid hrw
      clear hnx hbv hrw hh1 hc1 hd1 HI hs0
      cases B
      all_goals
        have HC := Lib.hid hC
        have HI3 := Lib.hid hi3
        clear hC hi3
        go_wp2_with fail
        generalize wr.alloc (.cells #[.int .i64 k1, .string nm1, .bool g1, .slice x11 az1.length d11, .slice x12 ws1.length d12, .slice x13 ks1.len d13, .slice x14 bs1.length d14, .slice x15 cz1.len d15] 28) = V at HC HBV HRW ⊢
        have m0 : V.cell? ⟨wr.heap.size, 0, none⟩ = some (.int .i64 k1) := Lib.cell_of_heap HRW.out 0
        have m1 : V.cell? ⟨wr.heap.size, 1, none⟩ = some (.string nm1) := Lib.cell_of_heap HRW.out 1
        have m2 : V.cell? ⟨wr.heap.size, 2, none⟩ = some (.bool g1) := Lib.cell_of_heap HRW.out 2
        have m3 : V.cell? ⟨wr.heap.size, 3, none⟩ = some (.slice x11 az1.length d11) := Lib.cell_of_heap HRW.out 3
        have m4 : V.cell? ⟨wr.heap.size, 4, none⟩ = some (.slice x12 ws1.length d12) := Lib.cell_of_heap HRW.out 4
        have m5 : V.cell? ⟨wr.heap.size, 5, none⟩ = some (.slice x13 ks1.len d13) := Lib.cell_of_heap HRW.out 5
        have m6 : V.cell? ⟨wr.heap.size, 6, none⟩ = some (.slice x14 bs1.length d14) := Lib.cell_of_heap HRW.out 6
        have m7 : V.cell? ⟨wr.heap.size, 7, none⟩ = some (.slice x15 cz1.len d15) := Lib.cell_of_heap HRW.out 7
      · go_wp2_with (go_at_call 98; refine (HC.out).mono ?_; rintro e w4 ⟨rfl, hb4⟩)
        go_ret
        exact ⟨ret_bool (by unfold bodiesB; rw [HI3.out]; rfl), thru HB0.out (thru HBV.out (by assumption))⟩
      · go_wp2_with (go_at_call 98; refine (HC.out).mono ?_; rintro e w4 ⟨rfl, hb4⟩)
        go_roundw
        case rel => exact ⟨j + 1, by omega, by go_num, by rw [HI3.out, HNX.out]; rfl, thru HBV.out (by assumption)⟩
        case measure => simp [intOf]; omega
    · obtain rfl : j = ks.len := by omega
      have hfin : allS bodyB ks = true := by rw [HI.out, NL.drop_end (Nat.le_refl _)]; rfl
      have hbw := HWR.out
      have q5 := HQ5.out _ hbw
      have HF := Lib.hid hfin
      clear hfin HI
      by_cases ha : fr ≤ ks.len <;> by_cases hb : ks.len ≤ to
      all_goals
        have ha' : ((fr : Int) ≤ (ks.len : Int)) = (fr ≤ ks.len) := by simp
        have hb' : ((ks.len : Int) ≤ (to : Int)) = (ks.len ≤ to) := by simp
        simp only [ha, hb] at ha' hb'
        have HA1 := Lib.hid ha; have HB1 := Lib.hid hb
        clear ha hb
        go_wp2_with fail
        go_ret
        exact ⟨ret_bool (by unfold bodiesB; rw [HF.out]; simp [HA1.out, HB1.out]), thru HB0.out HWR.out⟩

/-- Are all cases right, but for what is in the nodes in them? -/
def casesB : NL → Bool
  | .cse ps b r => (!ps.isEmpty && ps.all rightW && decide (b.len ≤ 1) && allS bodyB b) && casesB r
  | _ => true
theorem one_node {b : NL} (h : b.len = 1) (hok : NL.okN b true = true) : ∃ k0 nm0 g0 az0 ws0 ks0 bs0 cz0, b = .node k0 nm0 g0 az0 ws0 ks0 bs0 cz0 .nil := by
  cases b with
  | nil => simp [NL.len] at h
  | cse => simp [NL.okN] at hok
  | node k nm g az ws ks bs cz r =>
    have : r.len = 0 := by simp only [NL.len] at h; omega
    have hr : r = .nil := by
      cases r with
      | nil => rfl
      | node => simp [NL.len] at this
      | cse => simp [NL.len] at this
    subst hr
    exact ⟨_, _, _, _, _, _, _, _, rfl⟩
theorem no_node {b : NL} (h : b.len = 0) : b = .nil := by
  cases b with
  | nil => rfl
  | node => simp [NL.len] at h
  | cse => simp [NL.len] at h

set_option maxHeartbeats 1600000 in
set_option maxRecDepth 100000 in
theorem rcases_any (cz : NL) (x : Option Addr) (d : Nat) (w : World) (h : NLies w x d cz) (hok : NL.okN cz false = true) : Calls Tryz.prog 73 #[.slice x cz.len d] w fun e w' => e = .returned (.bool (casesB cz)) ∧ Below w.heap.size w w' := by
  have hle := h.le
  have HL := Lib.hid h; have HOK := Lib.hid hok
  clear h hok
  go_enter Tryz.func73, Tryz.ntmps73
  go_wp2_with fail
  go_loopw [7] (fun x wr => ∃ j : Nat, j ≤ cz.len ∧ x = .int .i64 j ∧ casesB cz = casesB (cz.drop j) ∧ Below w.heap.size w wr) (fun x wr => cz.len - (intOf x).toNat)
  case atStart => exact ⟨0, Nat.zero_le _, rfl, rfl, Below.refl _ _⟩
  case round =>
    obtain ⟨j, hj, rfl, hi, hbw⟩ := hrel
    have HI := Lib.hid hi; have HWR := Lib.hid hbw
    clear hi hbw
    by_cases hlt : j < cz.len
    · obtain ⟨ps, bd, r1, hd1⟩ := NL.drop_case hlt HOK.out
      obtain ⟨b1, o1, rfl, _, y1, f1, y2, f2, c10, c11, s1, n1, k1⟩ := (HL.out.below HWR.out).getC HOK.out hd1
      have hb1 := World.block_lt_of_cell? _ _ c10
      have hnx := NL.drop_succC hd1
      have hi3 : casesB cz = ((!ps.isEmpty && ps.all rightW && decide (bd.len ≤ 1) && allS bodyB bd) && casesB r1) := by rw [HI.out, hd1]; rfl
      have hlp := s1.le
      have hlb := n1.le
      have hrw : (wr.alloc (.cells #[.slice y1 ps.length f1, .slice y2 bd.len f2] 50)).heap[wr.heap.size]? = some (.cells #[.slice y1 ps.length f1, .slice y2 bd.len f2] 50 (0, 0)) := heap_new' _ _
      have hbv := bel1 wr (.cells #[.slice y1 ps.length f1, .slice y2 bd.len f2] 50)
      have hW := rwords_any ps y1 f1 (wr.alloc (.cells #[.slice y1 ps.length f1, .slice y2 bd.len f2] 50)) (sl_below (P := PW) (fun h => h.below hbv) s1)
      have HN1 := Lib.hid (n1.below hbv); have HK1 := Lib.hid k1
      have HNX := Lib.hid hnx; have HBV := Lib.hid (thru HWR.out hbv); have HRW := Lib.hid hrw
      clear hnx hbv hrw hd1 HI n1 k1 s1
      by_cases hp : ps.length = 0
      · have hz : ((ps.length : Int) == 0) = true := by simp [hp]
        have HP := Lib.hid (show casesB cz = false by rw [hi3, List.length_eq_zero_iff.1 hp]; rfl)
        clear hp hi3 hW
        go_wp2_with fail
        go_ret
        exact ⟨ret_bool HP.out.symm, HBV.out⟩
      have hz : ((ps.length : Int) == 0) = false := by rw [beq_eq_false_iff_ne]; omega
      have hpe : ps.isEmpty = false := by cases ps with | nil => exact absurd rfl hp | cons => rfl
      rw [hpe] at hi3
      clear hp hpe
      cases hw : ps.all rightW
      · rw [hw] at hW hi3
        have HW := Lib.hid hW
        have HP := Lib.hid (show casesB cz = false by rw [hi3]; rfl)
        clear hW hw hi3
        go_wp2_with fail
        generalize wr.alloc (.cells #[.slice y1 ps.length f1, .slice y2 bd.len f2] 50) = V at HW HBV HRW HN1 ⊢
        have m0 : V.cell? ⟨wr.heap.size, 0, none⟩ = some (.slice y1 ps.length f1) := Lib.cell_of_heap HRW.out 0
        go_wp2_with (go_at_call 72; refine (HW.out).mono ?_; rintro e w4 ⟨rfl, hb4⟩)
        go_ret
        exact ⟨ret_bool HP.out.symm, thru HBV.out (by assumption)⟩
      rw [hw] at hW hi3
      have HW := Lib.hid hW
      clear hW hw
      have hVs : wr.heap.size < (wr.alloc (.cells #[.slice y1 ps.length f1, .slice y2 bd.len f2] 50)).heap.size := by simp
      by_cases hl1 : bd.len ≤ 1
      · have hl2 : ((bd.len : Int) > 1) = False := by simp; omega
        have hl3 : (1 < (bd.len : Int)) = False := by simp; omega
        by_cases hl0 : bd.len = 1
        · obtain ⟨k1, nm1, g1, az1, ws1, ks1, bs1, cz1, hbd⟩ := one_node hl0 HK1.out
          obtain ⟨b2, o2, rfl, hb2, x11, d11, x12, d12, x13, d13, x14, d14, x15, d15, hc1, hh1⟩ := HN1.out.getN (i := 0) HK1.out hbd
          have hB := fun W => rbody_any k1 nm1 g1 az1 ws1 ks1 bs1 cz1 x11 d11 x12 d12 x13 d13 x14 d14 x15 d15 W
          have hi4 : casesB cz = (bodyB k1 ks1.len && casesB r1) := by rw [hi3, hbd]; simp [allS, NL.len]
          have hl4 : ((bd.len : Int) == 1) = true := by simp [hl0]
          have hl5 : 0 < bd.len := by omega
          have hc2 : (wr.alloc (.cells #[.slice y1 ps.length f1, .slice (some ⟨b2, o2, none⟩) bd.len f2] 50)).heap.size = wr.heap.size + 1 := by simp
          unfold nodeV at hB
          generalize bodyB k1 ks1.len = B at hB hi4
          have e0 : (wr.alloc (.cells #[.slice y1 ps.length f1, .slice (some ⟨b2, o2, none⟩) bd.len f2] 50)).cell? ⟨b2, o2, none⟩ = some (.int .i64 k1) := by have := hc1 0 (.int .i64 k1) rfl; simpa using this
          have e1 : (wr.alloc (.cells #[.slice y1 ps.length f1, .slice (some ⟨b2, o2, none⟩) bd.len f2] 50)).cell? ⟨b2, o2 + 1, none⟩ = some (.string nm1) := by have := hc1 1 (.string nm1) rfl; simpa using this
          have e2 : (wr.alloc (.cells #[.slice y1 ps.length f1, .slice (some ⟨b2, o2, none⟩) bd.len f2] 50)).cell? ⟨b2, o2 + 2, none⟩ = some (.bool g1) := by have := hc1 2 (.bool g1) rfl; simpa using this
          have e3 : (wr.alloc (.cells #[.slice y1 ps.length f1, .slice (some ⟨b2, o2, none⟩) bd.len f2] 50)).cell? ⟨b2, o2 + 3, none⟩ = some (.slice x11 az1.length d11) := by have := hc1 3 (.slice x11 az1.length d11) rfl; simpa using this
          have e4 : (wr.alloc (.cells #[.slice y1 ps.length f1, .slice (some ⟨b2, o2, none⟩) bd.len f2] 50)).cell? ⟨b2, o2 + 4, none⟩ = some (.slice x12 ws1.length d12) := by have := hc1 4 (.slice x12 ws1.length d12) rfl; simpa using this
          have e5 : (wr.alloc (.cells #[.slice y1 ps.length f1, .slice (some ⟨b2, o2, none⟩) bd.len f2] 50)).cell? ⟨b2, o2 + 5, none⟩ = some (.slice x13 ks1.len d13) := by have := hc1 5 (.slice x13 ks1.len d13) rfl; simpa using this
          have e6 : (wr.alloc (.cells #[.slice y1 ps.length f1, .slice (some ⟨b2, o2, none⟩) bd.len f2] 50)).cell? ⟨b2, o2 + 6, none⟩ = some (.slice x14 bs1.length d14) := by have := hc1 6 (.slice x14 bs1.length d14) rfl; simpa using this
          have e7 : (wr.alloc (.cells #[.slice y1 ps.length f1, .slice (some ⟨b2, o2, none⟩) bd.len f2] 50)).cell? ⟨b2, o2 + 7, none⟩ = some (.slice x15 cz1.len d15) := by have := hc1 7 (.slice x15 cz1.len d15) rfl; simpa using this
          have HBB := Lib.hid hB; have HI4 := Lib.hid hi4
          clear hB hi3 hi4 hh1 hc1 hl1 hl0 hc2 hbd
          cases B
          all_goals
            go_wp2_with fail
            generalize (wr.alloc (.cells #[.slice y1 ps.length f1, .slice (some ⟨b2, o2, none⟩) bd.len f2] 50)) = V at HW HBV HRW HN1 hVs e0 e1 e2 e3 e4 e5 e6 e7 ⊢
            have m0 : V.cell? ⟨wr.heap.size, 0, none⟩ = some (.slice y1 ps.length f1) := Lib.cell_of_heap HRW.out 0
            have m1 : V.cell? ⟨wr.heap.size, 1, none⟩ = some (.slice (some ⟨b2, o2, none⟩) bd.len f2) := Lib.cell_of_heap HRW.out 1
            have HM1 := Lib.hid m1
            have HE0 := Lib.hid e0
            have HE1 := Lib.hid e1
            have HE2 := Lib.hid e2
            have HE3 := Lib.hid e3
            have HE4 := Lib.hid e4
            have HE5 := Lib.hid e5
            have HE6 := Lib.hid e6
            have HE7 := Lib.hid e7
            go_wp2_with (first | (go_at_call 72; refine (HW.out).mono ?_; rintro e w4 ⟨rfl, hb4⟩; have m2 := cell_below hb4 HM1.out; have n0 := cell_below hb4 HE0.out; have n1 := cell_below hb4 HE1.out; have n2 := cell_below hb4 HE2.out; have n3 := cell_below hb4 HE3.out; have n4 := cell_below hb4 HE4.out; have n5 := cell_below hb4 HE5.out; have n6 := cell_below hb4 HE6.out; have n7 := cell_below hb4 HE7.out) | (go_at_call 98; refine (HBB.out _).mono ?_; rintro e w5 ⟨rfl, hb5⟩))
          · go_ret
            exact ⟨ret_bool (by rw [HI4.out]; rfl), thru HBV.out (thru (by assumption) (by assumption))⟩
          · go_roundw
            case rel => exact ⟨j + 1, by omega, by go_num, by rw [HI4.out, HNX.out]; rfl, thru HBV.out (thru (by assumption) (by assumption))⟩
            case measure => simp [intOf]; omega
        · have hl4 : ((bd.len : Int) == 1) = false := by rw [beq_eq_false_iff_ne]; omega
          have hi4 : casesB cz = casesB r1 := by rw [hi3, no_node (b := bd) (by omega)]; simp [allS, NL.len]
          have HI4 := Lib.hid hi4
          clear hi3 hi4 hl1 hl0
          go_wp2_with fail
          generalize (wr.alloc (.cells #[.slice y1 ps.length f1, .slice y2 bd.len f2] 50)) = V at HW HBV HRW HN1 hVs ⊢
          have m0 : V.cell? ⟨wr.heap.size, 0, none⟩ = some (.slice y1 ps.length f1) := Lib.cell_of_heap HRW.out 0
          have m1 : V.cell? ⟨wr.heap.size, 1, none⟩ = some (.slice y2 bd.len f2) := Lib.cell_of_heap HRW.out 1
          have HM1 := Lib.hid m1
          go_wp2_with (go_at_call 72; refine (HW.out).mono ?_; rintro e w4 ⟨rfl, hb4⟩; have m2 := cell_below hb4 HM1.out)
          go_roundw
          case rel => exact ⟨j + 1, by omega, by go_num, by rw [HI4.out, HNX.out], thru HBV.out (by assumption)⟩
          case measure => simp [intOf]; omega
      · have hl2 : ((bd.len : Int) > 1) = True := by simp; omega
        have hl3 : (1 < (bd.len : Int)) = True := by simp; omega
        have hi4 : casesB cz = false := by rw [hi3]; simp [hl1]
        have HI4 := Lib.hid hi4
        clear hi3 hi4 hl1
        go_wp2_with fail
        generalize (wr.alloc (.cells #[.slice y1 ps.length f1, .slice y2 bd.len f2] 50)) = V at HW HBV HRW HN1 hVs ⊢
        have m0 : V.cell? ⟨wr.heap.size, 0, none⟩ = some (.slice y1 ps.length f1) := Lib.cell_of_heap HRW.out 0
        have m1 : V.cell? ⟨wr.heap.size, 1, none⟩ = some (.slice y2 bd.len f2) := Lib.cell_of_heap HRW.out 1
        have HM1 := Lib.hid m1
        go_wp2_with (go_at_call 72; refine (HW.out).mono ?_; rintro e w4 ⟨rfl, hb4⟩; have m2 := cell_below hb4 HM1.out)
        go_ret
        exact ⟨ret_bool HI4.out.symm, thru HBV.out (by assumption)⟩
    · obtain rfl : j = cz.len := by omega
      have hfin : casesB cz = true := by rw [HI.out, NL.drop_end (Nat.le_refl _)]; rfl
      have HF := Lib.hid hfin
      clear hfin HI hlt
      go_wp2_with fail
      go_ret
      exact ⟨ret_bool HF.out.symm, HWR.out⟩
end Tr
end Go.Proofs.YtgdjeemmklmpfaaGreat
