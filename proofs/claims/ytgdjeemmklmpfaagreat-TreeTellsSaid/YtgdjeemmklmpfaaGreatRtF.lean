/- The reference: what is asked of a node by its kind. -/
/- The reference: what is asked of a node by its kind, further kinds. -/
import Derived.Test.YtgdjeemmklmpfaaGreatRtD
namespace Go.Proofs.YtgdjeemmklmpfaaGreat
open Go.RowKit Go.Sort
namespace Tr
open Cls Pt

abbrev NB (nm : ByteArray) (g : Bool) (az : List (ByteArray × PL)) (ws : List PL) (ks : NL) (bs : List Bool) (cz : NL) (but : List UInt8) : Bool := noneL (hasN nm g az ws ks bs cz) but
/-- An item, and a unit. -/
def twoB : NL → Bool
  | .node k0 _ _ _ _ _ _ _ (.node k1 _ _ _ _ _ _ _ _) => itemB k0 && unitB k1
  | _ => false
def ownR (k : Int) (nm : ByteArray) (g : Bool) (az : List (ByteArray × PL)) (ws : List PL) (ks : NL) (bs : List Bool) (cz : NL) : Bool :=
  if k == 1 then NB nm g az ws ks bs cz [97, 119] && simpleB az ws
  else if k == 2 || k == 3 then NB nm g az ws ks bs cz [107] && (decide (ks.len = 2) && twoB ks)
  else if k == 4 then NB nm g az ws ks bs cz [107] && (decide (ks.len = 1) && allS commandS ks)
  else if k == 5 then allS itemS ks && (NB nm g az ws ks bs cz [107, 98] && decide (bs.length = ks.len))
  else if k == 6 then NB nm g az ws ks bs cz [107] && bodiesB ks 2 3
  else if k == 7 || k == 8 then NB nm g az ws ks bs cz [107] && bodiesB ks 2 2
  else if k == 9 then NB nm g az ws ks bs cz [110, 103, 119, 107] && (nameL nm.data.toList && (ws.all rightW && ((g || decide (ws.length = 0)) && bodiesB ks 1 1)))
  else if k == 10 then NB nm g az ws ks bs cz [119, 99] && (decide (ws.length = 1) && (ws.all rightW && casesB cz))
  else if k == 11 || k == 12 then NB nm g az ws ks bs cz [107] && bodiesB ks 1 1
  else if k == 13 then NB nm g az ws ks bs cz [110, 107] && (nameL nm.data.toList && (!reservedL nm.data.toList && (decide (ks.len = 1) && allS compoundS ks)))
  else false
def OwnAt (k : Int) : Prop := ∀ (nm : ByteArray) (g : Bool) (az : List (ByteArray × PL)) (ws : List PL) (ks : NL) (bs : List Bool) (cz : NL) (x1 : Option Addr) (d1 : Nat) (x2 : Option Addr) (d2 : Nat) (x3 : Option Addr) (d3 : Nat) (x4 : Option Addr) (d4 : Nat) (x5 : Option Addr) (d5 : Nat) (w : World), Holds w nm az ws ks bs cz x1 d1 x2 d2 x3 d3 x4 d4 x5 d5 → Calls Tryz.prog 38 #[.agg (nodeV k nm g x1 az.length d1 x2 ws.length d2 x3 ks.len d3 x4 bs.length d4 x5 cz.len d5)] w fun e w' => e = .returned (.bool (ownR k nm g az ws ks bs cz)) ∧ Below w.heap.size w w'

set_option maxHeartbeats 1600000 in
set_option maxRecDepth 100000 in
theorem own_r6 : OwnAt 6 := by
  intro nm g az ws ks bs cz x1 d1 x2 d2 x3 d3 x4 d4 x5 d5 w h
  have hlk := h.hks.le
  have hlw := h.hws.le
  have hlb := h.hbs.le
  have hb0 := bel1 w (.cells #[.int .i64 6, .string nm, .bool g, .slice x1 az.length d1, .slice x2 ws.length d2, .slice x3 ks.len d3, .slice x4 bs.length d4, .slice x5 cz.len d5] 28)
  have hrow : (w.alloc (.cells #[.int .i64 6, .string nm, .bool g, .slice x1 az.length d1, .slice x2 ws.length d2, .slice x3 ks.len d3, .slice x4 bs.length d4, .slice x5 cz.len d5] 28)).heap[w.heap.size]? = some (.cells #[.int .i64 6, .string nm, .bool g, .slice x1 az.length d1, .slice x2 ws.length d2, .slice x3 ks.len d3, .slice x4 bs.length d4, .slice x5 cz.len d5] 28 (0, 0)) := heap_new' _ _
  have hn := fun W (hb : Below (w.alloc (.cells #[.int .i64 6, .string nm, .bool g, .slice x1 az.length d1, .slice x2 ws.length d2, .slice x3 ks.len d3, .slice x4 bs.length d4, .slice x5 cz.len d5] 28)).heap.size (w.alloc (.cells #[.int .i64 6, .string nm, .bool g, .slice x1 az.length d1, .slice x2 ws.length d2, .slice x3 ks.len d3, .slice x4 bs.length d4, .slice x5 cz.len d5] 28)) W) => later (none_any 6 nm g az ws ks bs cz x1 d1 x2 d2 x3 d3 x4 d4 x5 d5 ⟨#[107]⟩ (by decide) W (h.below (thru hb0 hb))) hb
  have hbd := fun W (hb : Below (w.alloc (.cells #[.int .i64 6, .string nm, .bool g, .slice x1 az.length d1, .slice x2 ws.length d2, .slice x3 ks.len d3, .slice x4 bs.length d4, .slice x5 cz.len d5] 28)).heap.size (w.alloc (.cells #[.int .i64 6, .string nm, .bool g, .slice x1 az.length d1, .slice x2 ws.length d2, .slice x3 ks.len d3, .slice x4 bs.length d4, .slice x5 cz.len d5] 28)) W) => later (rbodies_any 6 nm g az ws ks bs cz x1 d1 x2 d2 x3 d3 x4 d4 x5 d5 2 3 W (h.below (thru hb0 hb))) hb
  unfold nodeV at *
  generalize hNE : noneL (hasN nm g az ws ks bs cz) [107] = N at hn
  generalize hBD : bodiesB ks 2 3 = BD at hbd
  have HN := Lib.hid hn; have HNE := Lib.hid hNE; clear hn hNE
  have Hhbd := Lib.hid hbd; have HBD := Lib.hid hBD; clear hbd hBD
  have HK := Lib.hid h.hks; have HOK := Lib.hid h.okk
  clear h
  go_enter Tryz.func38, Tryz.ntmps38
  go_wp2_with fail
  generalize w.alloc (.cells #[.int .i64 6, .string nm, .bool g, .slice x1 az.length d1, .slice x2 ws.length d2, .slice x3 ks.len d3, .slice x4 bs.length d4, .slice x5 cz.len d5] 28) = W0 at *
  have hq0 : ∀ W, Below W0.heap.size W0 W → W.cell? ⟨w.heap.size, 0, none⟩ = some (.int .i64 6) := fun W hb => cell_below hb (Lib.cell_of_heap hrow 0)
  have hq1 : ∀ W, Below W0.heap.size W0 W → W.cell? ⟨w.heap.size, 1, none⟩ = some (.string nm) := fun W hb => cell_below hb (Lib.cell_of_heap hrow 1)
  have hq2 : ∀ W, Below W0.heap.size W0 W → W.cell? ⟨w.heap.size, 2, none⟩ = some (.bool g) := fun W hb => cell_below hb (Lib.cell_of_heap hrow 2)
  have hq3 : ∀ W, Below W0.heap.size W0 W → W.cell? ⟨w.heap.size, 3, none⟩ = some (.slice x1 az.length d1) := fun W hb => cell_below hb (Lib.cell_of_heap hrow 3)
  have hq4 : ∀ W, Below W0.heap.size W0 W → W.cell? ⟨w.heap.size, 4, none⟩ = some (.slice x2 ws.length d2) := fun W hb => cell_below hb (Lib.cell_of_heap hrow 4)
  have hq5 : ∀ W, Below W0.heap.size W0 W → W.cell? ⟨w.heap.size, 5, none⟩ = some (.slice x3 ks.len d3) := fun W hb => cell_below hb (Lib.cell_of_heap hrow 5)
  have hq6 : ∀ W, Below W0.heap.size W0 W → W.cell? ⟨w.heap.size, 6, none⟩ = some (.slice x4 bs.length d4) := fun W hb => cell_below hb (Lib.cell_of_heap hrow 6)
  have hq7 : ∀ W, Below W0.heap.size W0 W → W.cell? ⟨w.heap.size, 7, none⟩ = some (.slice x5 cz.len d5) := fun W hb => cell_below hb (Lib.cell_of_heap hrow 7)
  have HQ0 := Lib.hid hq0; clear hq0
  have HQ1 := Lib.hid hq1; clear hq1
  have HQ2 := Lib.hid hq2; clear hq2
  have HQ3 := Lib.hid hq3; clear hq3
  have HQ4 := Lib.hid hq4; clear hq4
  have HQ5 := Lib.hid hq5; clear hq5
  have HQ6 := Lib.hid hq6; clear hq6
  have HQ7 := Lib.hid hq7; clear hq7
  have HB0 := Lib.hid hb0; clear hb0 hrow
  have q0 := HQ0.out _ (Below.refl _ _); have q1 := HQ1.out _ (Below.refl _ _); have q2 := HQ2.out _ (Below.refl _ _); have q3 := HQ3.out _ (Below.refl _ _); have q4 := HQ4.out _ (Below.refl _ _); have q5 := HQ5.out _ (Below.refl _ _); have q6 := HQ6.out _ (Below.refl _ _); have q7 := HQ7.out _ (Below.refl _ _)
  have hbr := Below.refl W0.heap.size W0
  go_wp2_with (first | (go_at_call 66; refine (HN.out _ (by assumption)).mono ?_; rintro e w1 ⟨rfl, hb⟩; have q0 := HQ0.out _ hb; have q1 := HQ1.out _ hb; have q2 := HQ2.out _ hb; have q3 := HQ3.out _ hb; have q4 := HQ4.out _ hb; have q5 := HQ5.out _ hb; have q6 := HQ6.out _ hb; have q7 := HQ7.out _ hb) | (go_at_call 70; refine (Hhbd.out _ (by assumption)).mono ?_; rintro e w1 ⟨rfl, hb⟩; have q0 := HQ0.out _ hb; have q1 := HQ1.out _ hb; have q2 := HQ2.out _ hb; have q3 := HQ3.out _ hb; have q4 := HQ4.out _ hb; have q5 := HQ5.out _ hb; have q6 := HQ6.out _ hb; have q7 := HQ7.out _ hb))
  all_goals
    go_ret
    refine ⟨ret_bool ?_, thru HB0.out (by assumption)⟩
    have hx : ownR 6 nm g az ws ks bs cz = (NB nm g az ws ks bs cz [107] && bodiesB ks 2 3) := rfl
    rw [hx]
    first
      | (simp only [NB, HNE.out, HBD.out]; done)
      | (simp only [NB, HNE.out, HBD.out]; simp_all [])

set_option maxHeartbeats 1600000 in
set_option maxRecDepth 100000 in
theorem own_r7 : OwnAt 7 := by
  intro nm g az ws ks bs cz x1 d1 x2 d2 x3 d3 x4 d4 x5 d5 w h
  have hlk := h.hks.le
  have hlw := h.hws.le
  have hlb := h.hbs.le
  have hb0 := bel1 w (.cells #[.int .i64 7, .string nm, .bool g, .slice x1 az.length d1, .slice x2 ws.length d2, .slice x3 ks.len d3, .slice x4 bs.length d4, .slice x5 cz.len d5] 28)
  have hrow : (w.alloc (.cells #[.int .i64 7, .string nm, .bool g, .slice x1 az.length d1, .slice x2 ws.length d2, .slice x3 ks.len d3, .slice x4 bs.length d4, .slice x5 cz.len d5] 28)).heap[w.heap.size]? = some (.cells #[.int .i64 7, .string nm, .bool g, .slice x1 az.length d1, .slice x2 ws.length d2, .slice x3 ks.len d3, .slice x4 bs.length d4, .slice x5 cz.len d5] 28 (0, 0)) := heap_new' _ _
  have hn := fun W (hb : Below (w.alloc (.cells #[.int .i64 7, .string nm, .bool g, .slice x1 az.length d1, .slice x2 ws.length d2, .slice x3 ks.len d3, .slice x4 bs.length d4, .slice x5 cz.len d5] 28)).heap.size (w.alloc (.cells #[.int .i64 7, .string nm, .bool g, .slice x1 az.length d1, .slice x2 ws.length d2, .slice x3 ks.len d3, .slice x4 bs.length d4, .slice x5 cz.len d5] 28)) W) => later (none_any 7 nm g az ws ks bs cz x1 d1 x2 d2 x3 d3 x4 d4 x5 d5 ⟨#[107]⟩ (by decide) W (h.below (thru hb0 hb))) hb
  have hbd := fun W (hb : Below (w.alloc (.cells #[.int .i64 7, .string nm, .bool g, .slice x1 az.length d1, .slice x2 ws.length d2, .slice x3 ks.len d3, .slice x4 bs.length d4, .slice x5 cz.len d5] 28)).heap.size (w.alloc (.cells #[.int .i64 7, .string nm, .bool g, .slice x1 az.length d1, .slice x2 ws.length d2, .slice x3 ks.len d3, .slice x4 bs.length d4, .slice x5 cz.len d5] 28)) W) => later (rbodies_any 7 nm g az ws ks bs cz x1 d1 x2 d2 x3 d3 x4 d4 x5 d5 2 2 W (h.below (thru hb0 hb))) hb
  unfold nodeV at *
  generalize hNE : noneL (hasN nm g az ws ks bs cz) [107] = N at hn
  generalize hBD : bodiesB ks 2 2 = BD at hbd
  have HN := Lib.hid hn; have HNE := Lib.hid hNE; clear hn hNE
  have Hhbd := Lib.hid hbd; have HBD := Lib.hid hBD; clear hbd hBD
  have HK := Lib.hid h.hks; have HOK := Lib.hid h.okk
  clear h
  go_enter Tryz.func38, Tryz.ntmps38
  go_wp2_with fail
  generalize w.alloc (.cells #[.int .i64 7, .string nm, .bool g, .slice x1 az.length d1, .slice x2 ws.length d2, .slice x3 ks.len d3, .slice x4 bs.length d4, .slice x5 cz.len d5] 28) = W0 at *
  have hq0 : ∀ W, Below W0.heap.size W0 W → W.cell? ⟨w.heap.size, 0, none⟩ = some (.int .i64 7) := fun W hb => cell_below hb (Lib.cell_of_heap hrow 0)
  have hq1 : ∀ W, Below W0.heap.size W0 W → W.cell? ⟨w.heap.size, 1, none⟩ = some (.string nm) := fun W hb => cell_below hb (Lib.cell_of_heap hrow 1)
  have hq2 : ∀ W, Below W0.heap.size W0 W → W.cell? ⟨w.heap.size, 2, none⟩ = some (.bool g) := fun W hb => cell_below hb (Lib.cell_of_heap hrow 2)
  have hq3 : ∀ W, Below W0.heap.size W0 W → W.cell? ⟨w.heap.size, 3, none⟩ = some (.slice x1 az.length d1) := fun W hb => cell_below hb (Lib.cell_of_heap hrow 3)
  have hq4 : ∀ W, Below W0.heap.size W0 W → W.cell? ⟨w.heap.size, 4, none⟩ = some (.slice x2 ws.length d2) := fun W hb => cell_below hb (Lib.cell_of_heap hrow 4)
  have hq5 : ∀ W, Below W0.heap.size W0 W → W.cell? ⟨w.heap.size, 5, none⟩ = some (.slice x3 ks.len d3) := fun W hb => cell_below hb (Lib.cell_of_heap hrow 5)
  have hq6 : ∀ W, Below W0.heap.size W0 W → W.cell? ⟨w.heap.size, 6, none⟩ = some (.slice x4 bs.length d4) := fun W hb => cell_below hb (Lib.cell_of_heap hrow 6)
  have hq7 : ∀ W, Below W0.heap.size W0 W → W.cell? ⟨w.heap.size, 7, none⟩ = some (.slice x5 cz.len d5) := fun W hb => cell_below hb (Lib.cell_of_heap hrow 7)
  have HQ0 := Lib.hid hq0; clear hq0
  have HQ1 := Lib.hid hq1; clear hq1
  have HQ2 := Lib.hid hq2; clear hq2
  have HQ3 := Lib.hid hq3; clear hq3
  have HQ4 := Lib.hid hq4; clear hq4
  have HQ5 := Lib.hid hq5; clear hq5
  have HQ6 := Lib.hid hq6; clear hq6
  have HQ7 := Lib.hid hq7; clear hq7
  have HB0 := Lib.hid hb0; clear hb0 hrow
  have q0 := HQ0.out _ (Below.refl _ _); have q1 := HQ1.out _ (Below.refl _ _); have q2 := HQ2.out _ (Below.refl _ _); have q3 := HQ3.out _ (Below.refl _ _); have q4 := HQ4.out _ (Below.refl _ _); have q5 := HQ5.out _ (Below.refl _ _); have q6 := HQ6.out _ (Below.refl _ _); have q7 := HQ7.out _ (Below.refl _ _)
  have hbr := Below.refl W0.heap.size W0
  go_wp2_with (first | (go_at_call 66; refine (HN.out _ (by assumption)).mono ?_; rintro e w1 ⟨rfl, hb⟩; have q0 := HQ0.out _ hb; have q1 := HQ1.out _ hb; have q2 := HQ2.out _ hb; have q3 := HQ3.out _ hb; have q4 := HQ4.out _ hb; have q5 := HQ5.out _ hb; have q6 := HQ6.out _ hb; have q7 := HQ7.out _ hb) | (go_at_call 70; refine (Hhbd.out _ (by assumption)).mono ?_; rintro e w1 ⟨rfl, hb⟩; have q0 := HQ0.out _ hb; have q1 := HQ1.out _ hb; have q2 := HQ2.out _ hb; have q3 := HQ3.out _ hb; have q4 := HQ4.out _ hb; have q5 := HQ5.out _ hb; have q6 := HQ6.out _ hb; have q7 := HQ7.out _ hb))
  all_goals
    go_ret
    refine ⟨ret_bool ?_, thru HB0.out (by assumption)⟩
    have hx : ownR 7 nm g az ws ks bs cz = (NB nm g az ws ks bs cz [107] && bodiesB ks 2 2) := rfl
    rw [hx]
    first
      | (simp only [NB, HNE.out, HBD.out]; done)
      | (simp only [NB, HNE.out, HBD.out]; simp_all [])

set_option maxHeartbeats 1600000 in
set_option maxRecDepth 100000 in
theorem own_r8 : OwnAt 8 := by
  intro nm g az ws ks bs cz x1 d1 x2 d2 x3 d3 x4 d4 x5 d5 w h
  have hlk := h.hks.le
  have hlw := h.hws.le
  have hlb := h.hbs.le
  have hb0 := bel1 w (.cells #[.int .i64 8, .string nm, .bool g, .slice x1 az.length d1, .slice x2 ws.length d2, .slice x3 ks.len d3, .slice x4 bs.length d4, .slice x5 cz.len d5] 28)
  have hrow : (w.alloc (.cells #[.int .i64 8, .string nm, .bool g, .slice x1 az.length d1, .slice x2 ws.length d2, .slice x3 ks.len d3, .slice x4 bs.length d4, .slice x5 cz.len d5] 28)).heap[w.heap.size]? = some (.cells #[.int .i64 8, .string nm, .bool g, .slice x1 az.length d1, .slice x2 ws.length d2, .slice x3 ks.len d3, .slice x4 bs.length d4, .slice x5 cz.len d5] 28 (0, 0)) := heap_new' _ _
  have hn := fun W (hb : Below (w.alloc (.cells #[.int .i64 8, .string nm, .bool g, .slice x1 az.length d1, .slice x2 ws.length d2, .slice x3 ks.len d3, .slice x4 bs.length d4, .slice x5 cz.len d5] 28)).heap.size (w.alloc (.cells #[.int .i64 8, .string nm, .bool g, .slice x1 az.length d1, .slice x2 ws.length d2, .slice x3 ks.len d3, .slice x4 bs.length d4, .slice x5 cz.len d5] 28)) W) => later (none_any 8 nm g az ws ks bs cz x1 d1 x2 d2 x3 d3 x4 d4 x5 d5 ⟨#[107]⟩ (by decide) W (h.below (thru hb0 hb))) hb
  have hbd := fun W (hb : Below (w.alloc (.cells #[.int .i64 8, .string nm, .bool g, .slice x1 az.length d1, .slice x2 ws.length d2, .slice x3 ks.len d3, .slice x4 bs.length d4, .slice x5 cz.len d5] 28)).heap.size (w.alloc (.cells #[.int .i64 8, .string nm, .bool g, .slice x1 az.length d1, .slice x2 ws.length d2, .slice x3 ks.len d3, .slice x4 bs.length d4, .slice x5 cz.len d5] 28)) W) => later (rbodies_any 8 nm g az ws ks bs cz x1 d1 x2 d2 x3 d3 x4 d4 x5 d5 2 2 W (h.below (thru hb0 hb))) hb
  unfold nodeV at *
  generalize hNE : noneL (hasN nm g az ws ks bs cz) [107] = N at hn
  generalize hBD : bodiesB ks 2 2 = BD at hbd
  have HN := Lib.hid hn; have HNE := Lib.hid hNE; clear hn hNE
  have Hhbd := Lib.hid hbd; have HBD := Lib.hid hBD; clear hbd hBD
  have HK := Lib.hid h.hks; have HOK := Lib.hid h.okk
  clear h
  go_enter Tryz.func38, Tryz.ntmps38
  go_wp2_with fail
  generalize w.alloc (.cells #[.int .i64 8, .string nm, .bool g, .slice x1 az.length d1, .slice x2 ws.length d2, .slice x3 ks.len d3, .slice x4 bs.length d4, .slice x5 cz.len d5] 28) = W0 at *
  have hq0 : ∀ W, Below W0.heap.size W0 W → W.cell? ⟨w.heap.size, 0, none⟩ = some (.int .i64 8) := fun W hb => cell_below hb (Lib.cell_of_heap hrow 0)
  have hq1 : ∀ W, Below W0.heap.size W0 W → W.cell? ⟨w.heap.size, 1, none⟩ = some (.string nm) := fun W hb => cell_below hb (Lib.cell_of_heap hrow 1)
  have hq2 : ∀ W, Below W0.heap.size W0 W → W.cell? ⟨w.heap.size, 2, none⟩ = some (.bool g) := fun W hb => cell_below hb (Lib.cell_of_heap hrow 2)
  have hq3 : ∀ W, Below W0.heap.size W0 W → W.cell? ⟨w.heap.size, 3, none⟩ = some (.slice x1 az.length d1) := fun W hb => cell_below hb (Lib.cell_of_heap hrow 3)
  have hq4 : ∀ W, Below W0.heap.size W0 W → W.cell? ⟨w.heap.size, 4, none⟩ = some (.slice x2 ws.length d2) := fun W hb => cell_below hb (Lib.cell_of_heap hrow 4)
  have hq5 : ∀ W, Below W0.heap.size W0 W → W.cell? ⟨w.heap.size, 5, none⟩ = some (.slice x3 ks.len d3) := fun W hb => cell_below hb (Lib.cell_of_heap hrow 5)
  have hq6 : ∀ W, Below W0.heap.size W0 W → W.cell? ⟨w.heap.size, 6, none⟩ = some (.slice x4 bs.length d4) := fun W hb => cell_below hb (Lib.cell_of_heap hrow 6)
  have hq7 : ∀ W, Below W0.heap.size W0 W → W.cell? ⟨w.heap.size, 7, none⟩ = some (.slice x5 cz.len d5) := fun W hb => cell_below hb (Lib.cell_of_heap hrow 7)
  have HQ0 := Lib.hid hq0; clear hq0
  have HQ1 := Lib.hid hq1; clear hq1
  have HQ2 := Lib.hid hq2; clear hq2
  have HQ3 := Lib.hid hq3; clear hq3
  have HQ4 := Lib.hid hq4; clear hq4
  have HQ5 := Lib.hid hq5; clear hq5
  have HQ6 := Lib.hid hq6; clear hq6
  have HQ7 := Lib.hid hq7; clear hq7
  have HB0 := Lib.hid hb0; clear hb0 hrow
  have q0 := HQ0.out _ (Below.refl _ _); have q1 := HQ1.out _ (Below.refl _ _); have q2 := HQ2.out _ (Below.refl _ _); have q3 := HQ3.out _ (Below.refl _ _); have q4 := HQ4.out _ (Below.refl _ _); have q5 := HQ5.out _ (Below.refl _ _); have q6 := HQ6.out _ (Below.refl _ _); have q7 := HQ7.out _ (Below.refl _ _)
  have hbr := Below.refl W0.heap.size W0
  go_wp2_with (first | (go_at_call 66; refine (HN.out _ (by assumption)).mono ?_; rintro e w1 ⟨rfl, hb⟩; have q0 := HQ0.out _ hb; have q1 := HQ1.out _ hb; have q2 := HQ2.out _ hb; have q3 := HQ3.out _ hb; have q4 := HQ4.out _ hb; have q5 := HQ5.out _ hb; have q6 := HQ6.out _ hb; have q7 := HQ7.out _ hb) | (go_at_call 70; refine (Hhbd.out _ (by assumption)).mono ?_; rintro e w1 ⟨rfl, hb⟩; have q0 := HQ0.out _ hb; have q1 := HQ1.out _ hb; have q2 := HQ2.out _ hb; have q3 := HQ3.out _ hb; have q4 := HQ4.out _ hb; have q5 := HQ5.out _ hb; have q6 := HQ6.out _ hb; have q7 := HQ7.out _ hb))
  all_goals
    go_ret
    refine ⟨ret_bool ?_, thru HB0.out (by assumption)⟩
    have hx : ownR 8 nm g az ws ks bs cz = (NB nm g az ws ks bs cz [107] && bodiesB ks 2 2) := rfl
    rw [hx]
    first
      | (simp only [NB, HNE.out, HBD.out]; done)
      | (simp only [NB, HNE.out, HBD.out]; simp_all [])

set_option maxHeartbeats 1600000 in
set_option maxRecDepth 100000 in
theorem own_r11 : OwnAt 11 := by
  intro nm g az ws ks bs cz x1 d1 x2 d2 x3 d3 x4 d4 x5 d5 w h
  have hlk := h.hks.le
  have hlw := h.hws.le
  have hlb := h.hbs.le
  have hb0 := bel1 w (.cells #[.int .i64 11, .string nm, .bool g, .slice x1 az.length d1, .slice x2 ws.length d2, .slice x3 ks.len d3, .slice x4 bs.length d4, .slice x5 cz.len d5] 28)
  have hrow : (w.alloc (.cells #[.int .i64 11, .string nm, .bool g, .slice x1 az.length d1, .slice x2 ws.length d2, .slice x3 ks.len d3, .slice x4 bs.length d4, .slice x5 cz.len d5] 28)).heap[w.heap.size]? = some (.cells #[.int .i64 11, .string nm, .bool g, .slice x1 az.length d1, .slice x2 ws.length d2, .slice x3 ks.len d3, .slice x4 bs.length d4, .slice x5 cz.len d5] 28 (0, 0)) := heap_new' _ _
  have hn := fun W (hb : Below (w.alloc (.cells #[.int .i64 11, .string nm, .bool g, .slice x1 az.length d1, .slice x2 ws.length d2, .slice x3 ks.len d3, .slice x4 bs.length d4, .slice x5 cz.len d5] 28)).heap.size (w.alloc (.cells #[.int .i64 11, .string nm, .bool g, .slice x1 az.length d1, .slice x2 ws.length d2, .slice x3 ks.len d3, .slice x4 bs.length d4, .slice x5 cz.len d5] 28)) W) => later (none_any 11 nm g az ws ks bs cz x1 d1 x2 d2 x3 d3 x4 d4 x5 d5 ⟨#[107]⟩ (by decide) W (h.below (thru hb0 hb))) hb
  have hbd := fun W (hb : Below (w.alloc (.cells #[.int .i64 11, .string nm, .bool g, .slice x1 az.length d1, .slice x2 ws.length d2, .slice x3 ks.len d3, .slice x4 bs.length d4, .slice x5 cz.len d5] 28)).heap.size (w.alloc (.cells #[.int .i64 11, .string nm, .bool g, .slice x1 az.length d1, .slice x2 ws.length d2, .slice x3 ks.len d3, .slice x4 bs.length d4, .slice x5 cz.len d5] 28)) W) => later (rbodies_any 11 nm g az ws ks bs cz x1 d1 x2 d2 x3 d3 x4 d4 x5 d5 1 1 W (h.below (thru hb0 hb))) hb
  unfold nodeV at *
  generalize hNE : noneL (hasN nm g az ws ks bs cz) [107] = N at hn
  generalize hBD : bodiesB ks 1 1 = BD at hbd
  have HN := Lib.hid hn; have HNE := Lib.hid hNE; clear hn hNE
  have Hhbd := Lib.hid hbd; have HBD := Lib.hid hBD; clear hbd hBD
  have HK := Lib.hid h.hks; have HOK := Lib.hid h.okk
  clear h
  go_enter Tryz.func38, Tryz.ntmps38
  go_wp2_with fail
  generalize w.alloc (.cells #[.int .i64 11, .string nm, .bool g, .slice x1 az.length d1, .slice x2 ws.length d2, .slice x3 ks.len d3, .slice x4 bs.length d4, .slice x5 cz.len d5] 28) = W0 at *
  have hq0 : ∀ W, Below W0.heap.size W0 W → W.cell? ⟨w.heap.size, 0, none⟩ = some (.int .i64 11) := fun W hb => cell_below hb (Lib.cell_of_heap hrow 0)
  have hq1 : ∀ W, Below W0.heap.size W0 W → W.cell? ⟨w.heap.size, 1, none⟩ = some (.string nm) := fun W hb => cell_below hb (Lib.cell_of_heap hrow 1)
  have hq2 : ∀ W, Below W0.heap.size W0 W → W.cell? ⟨w.heap.size, 2, none⟩ = some (.bool g) := fun W hb => cell_below hb (Lib.cell_of_heap hrow 2)
  have hq3 : ∀ W, Below W0.heap.size W0 W → W.cell? ⟨w.heap.size, 3, none⟩ = some (.slice x1 az.length d1) := fun W hb => cell_below hb (Lib.cell_of_heap hrow 3)
  have hq4 : ∀ W, Below W0.heap.size W0 W → W.cell? ⟨w.heap.size, 4, none⟩ = some (.slice x2 ws.length d2) := fun W hb => cell_below hb (Lib.cell_of_heap hrow 4)
  have hq5 : ∀ W, Below W0.heap.size W0 W → W.cell? ⟨w.heap.size, 5, none⟩ = some (.slice x3 ks.len d3) := fun W hb => cell_below hb (Lib.cell_of_heap hrow 5)
  have hq6 : ∀ W, Below W0.heap.size W0 W → W.cell? ⟨w.heap.size, 6, none⟩ = some (.slice x4 bs.length d4) := fun W hb => cell_below hb (Lib.cell_of_heap hrow 6)
  have hq7 : ∀ W, Below W0.heap.size W0 W → W.cell? ⟨w.heap.size, 7, none⟩ = some (.slice x5 cz.len d5) := fun W hb => cell_below hb (Lib.cell_of_heap hrow 7)
  have HQ0 := Lib.hid hq0; clear hq0
  have HQ1 := Lib.hid hq1; clear hq1
  have HQ2 := Lib.hid hq2; clear hq2
  have HQ3 := Lib.hid hq3; clear hq3
  have HQ4 := Lib.hid hq4; clear hq4
  have HQ5 := Lib.hid hq5; clear hq5
  have HQ6 := Lib.hid hq6; clear hq6
  have HQ7 := Lib.hid hq7; clear hq7
  have HB0 := Lib.hid hb0; clear hb0 hrow
  have q0 := HQ0.out _ (Below.refl _ _); have q1 := HQ1.out _ (Below.refl _ _); have q2 := HQ2.out _ (Below.refl _ _); have q3 := HQ3.out _ (Below.refl _ _); have q4 := HQ4.out _ (Below.refl _ _); have q5 := HQ5.out _ (Below.refl _ _); have q6 := HQ6.out _ (Below.refl _ _); have q7 := HQ7.out _ (Below.refl _ _)
  have hbr := Below.refl W0.heap.size W0
  go_wp2_with (first | (go_at_call 66; refine (HN.out _ (by assumption)).mono ?_; rintro e w1 ⟨rfl, hb⟩; have q0 := HQ0.out _ hb; have q1 := HQ1.out _ hb; have q2 := HQ2.out _ hb; have q3 := HQ3.out _ hb; have q4 := HQ4.out _ hb; have q5 := HQ5.out _ hb; have q6 := HQ6.out _ hb; have q7 := HQ7.out _ hb) | (go_at_call 70; refine (Hhbd.out _ (by assumption)).mono ?_; rintro e w1 ⟨rfl, hb⟩; have q0 := HQ0.out _ hb; have q1 := HQ1.out _ hb; have q2 := HQ2.out _ hb; have q3 := HQ3.out _ hb; have q4 := HQ4.out _ hb; have q5 := HQ5.out _ hb; have q6 := HQ6.out _ hb; have q7 := HQ7.out _ hb))
  all_goals
    go_ret
    refine ⟨ret_bool ?_, thru HB0.out (by assumption)⟩
    have hx : ownR 11 nm g az ws ks bs cz = (NB nm g az ws ks bs cz [107] && bodiesB ks 1 1) := rfl
    rw [hx]
    first
      | (simp only [NB, HNE.out, HBD.out]; done)
      | (simp only [NB, HNE.out, HBD.out]; simp_all [])

set_option maxHeartbeats 1600000 in
set_option maxRecDepth 100000 in
theorem own_r12 : OwnAt 12 := by
  intro nm g az ws ks bs cz x1 d1 x2 d2 x3 d3 x4 d4 x5 d5 w h
  have hlk := h.hks.le
  have hlw := h.hws.le
  have hlb := h.hbs.le
  have hb0 := bel1 w (.cells #[.int .i64 12, .string nm, .bool g, .slice x1 az.length d1, .slice x2 ws.length d2, .slice x3 ks.len d3, .slice x4 bs.length d4, .slice x5 cz.len d5] 28)
  have hrow : (w.alloc (.cells #[.int .i64 12, .string nm, .bool g, .slice x1 az.length d1, .slice x2 ws.length d2, .slice x3 ks.len d3, .slice x4 bs.length d4, .slice x5 cz.len d5] 28)).heap[w.heap.size]? = some (.cells #[.int .i64 12, .string nm, .bool g, .slice x1 az.length d1, .slice x2 ws.length d2, .slice x3 ks.len d3, .slice x4 bs.length d4, .slice x5 cz.len d5] 28 (0, 0)) := heap_new' _ _
  have hn := fun W (hb : Below (w.alloc (.cells #[.int .i64 12, .string nm, .bool g, .slice x1 az.length d1, .slice x2 ws.length d2, .slice x3 ks.len d3, .slice x4 bs.length d4, .slice x5 cz.len d5] 28)).heap.size (w.alloc (.cells #[.int .i64 12, .string nm, .bool g, .slice x1 az.length d1, .slice x2 ws.length d2, .slice x3 ks.len d3, .slice x4 bs.length d4, .slice x5 cz.len d5] 28)) W) => later (none_any 12 nm g az ws ks bs cz x1 d1 x2 d2 x3 d3 x4 d4 x5 d5 ⟨#[107]⟩ (by decide) W (h.below (thru hb0 hb))) hb
  have hbd := fun W (hb : Below (w.alloc (.cells #[.int .i64 12, .string nm, .bool g, .slice x1 az.length d1, .slice x2 ws.length d2, .slice x3 ks.len d3, .slice x4 bs.length d4, .slice x5 cz.len d5] 28)).heap.size (w.alloc (.cells #[.int .i64 12, .string nm, .bool g, .slice x1 az.length d1, .slice x2 ws.length d2, .slice x3 ks.len d3, .slice x4 bs.length d4, .slice x5 cz.len d5] 28)) W) => later (rbodies_any 12 nm g az ws ks bs cz x1 d1 x2 d2 x3 d3 x4 d4 x5 d5 1 1 W (h.below (thru hb0 hb))) hb
  unfold nodeV at *
  generalize hNE : noneL (hasN nm g az ws ks bs cz) [107] = N at hn
  generalize hBD : bodiesB ks 1 1 = BD at hbd
  have HN := Lib.hid hn; have HNE := Lib.hid hNE; clear hn hNE
  have Hhbd := Lib.hid hbd; have HBD := Lib.hid hBD; clear hbd hBD
  have HK := Lib.hid h.hks; have HOK := Lib.hid h.okk
  clear h
  go_enter Tryz.func38, Tryz.ntmps38
  go_wp2_with fail
  generalize w.alloc (.cells #[.int .i64 12, .string nm, .bool g, .slice x1 az.length d1, .slice x2 ws.length d2, .slice x3 ks.len d3, .slice x4 bs.length d4, .slice x5 cz.len d5] 28) = W0 at *
  have hq0 : ∀ W, Below W0.heap.size W0 W → W.cell? ⟨w.heap.size, 0, none⟩ = some (.int .i64 12) := fun W hb => cell_below hb (Lib.cell_of_heap hrow 0)
  have hq1 : ∀ W, Below W0.heap.size W0 W → W.cell? ⟨w.heap.size, 1, none⟩ = some (.string nm) := fun W hb => cell_below hb (Lib.cell_of_heap hrow 1)
  have hq2 : ∀ W, Below W0.heap.size W0 W → W.cell? ⟨w.heap.size, 2, none⟩ = some (.bool g) := fun W hb => cell_below hb (Lib.cell_of_heap hrow 2)
  have hq3 : ∀ W, Below W0.heap.size W0 W → W.cell? ⟨w.heap.size, 3, none⟩ = some (.slice x1 az.length d1) := fun W hb => cell_below hb (Lib.cell_of_heap hrow 3)
  have hq4 : ∀ W, Below W0.heap.size W0 W → W.cell? ⟨w.heap.size, 4, none⟩ = some (.slice x2 ws.length d2) := fun W hb => cell_below hb (Lib.cell_of_heap hrow 4)
  have hq5 : ∀ W, Below W0.heap.size W0 W → W.cell? ⟨w.heap.size, 5, none⟩ = some (.slice x3 ks.len d3) := fun W hb => cell_below hb (Lib.cell_of_heap hrow 5)
  have hq6 : ∀ W, Below W0.heap.size W0 W → W.cell? ⟨w.heap.size, 6, none⟩ = some (.slice x4 bs.length d4) := fun W hb => cell_below hb (Lib.cell_of_heap hrow 6)
  have hq7 : ∀ W, Below W0.heap.size W0 W → W.cell? ⟨w.heap.size, 7, none⟩ = some (.slice x5 cz.len d5) := fun W hb => cell_below hb (Lib.cell_of_heap hrow 7)
  have HQ0 := Lib.hid hq0; clear hq0
  have HQ1 := Lib.hid hq1; clear hq1
  have HQ2 := Lib.hid hq2; clear hq2
  have HQ3 := Lib.hid hq3; clear hq3
  have HQ4 := Lib.hid hq4; clear hq4
  have HQ5 := Lib.hid hq5; clear hq5
  have HQ6 := Lib.hid hq6; clear hq6
  have HQ7 := Lib.hid hq7; clear hq7
  have HB0 := Lib.hid hb0; clear hb0 hrow
  have q0 := HQ0.out _ (Below.refl _ _); have q1 := HQ1.out _ (Below.refl _ _); have q2 := HQ2.out _ (Below.refl _ _); have q3 := HQ3.out _ (Below.refl _ _); have q4 := HQ4.out _ (Below.refl _ _); have q5 := HQ5.out _ (Below.refl _ _); have q6 := HQ6.out _ (Below.refl _ _); have q7 := HQ7.out _ (Below.refl _ _)
  have hbr := Below.refl W0.heap.size W0
  go_wp2_with (first | (go_at_call 66; refine (HN.out _ (by assumption)).mono ?_; rintro e w1 ⟨rfl, hb⟩; have q0 := HQ0.out _ hb; have q1 := HQ1.out _ hb; have q2 := HQ2.out _ hb; have q3 := HQ3.out _ hb; have q4 := HQ4.out _ hb; have q5 := HQ5.out _ hb; have q6 := HQ6.out _ hb; have q7 := HQ7.out _ hb) | (go_at_call 70; refine (Hhbd.out _ (by assumption)).mono ?_; rintro e w1 ⟨rfl, hb⟩; have q0 := HQ0.out _ hb; have q1 := HQ1.out _ hb; have q2 := HQ2.out _ hb; have q3 := HQ3.out _ hb; have q4 := HQ4.out _ hb; have q5 := HQ5.out _ hb; have q6 := HQ6.out _ hb; have q7 := HQ7.out _ hb))
  all_goals
    go_ret
    refine ⟨ret_bool ?_, thru HB0.out (by assumption)⟩
    have hx : ownR 12 nm g az ws ks bs cz = (NB nm g az ws ks bs cz [107] && bodiesB ks 1 1) := rfl
    rw [hx]
    first
      | (simp only [NB, HNE.out, HBD.out]; done)
      | (simp only [NB, HNE.out, HBD.out]; simp_all [])

end Tr
end Go.Proofs.YtgdjeemmklmpfaaGreat

namespace Go.Proofs.YtgdjeemmklmpfaaGreat
open Go.RowKit Go.Sort
namespace Tr
open Cls Pt

set_option maxHeartbeats 1600000 in
set_option maxRecDepth 100000 in
theorem own_r1 : OwnAt 1 := by
  intro nm g az ws ks bs cz x1 d1 x2 d2 x3 d3 x4 d4 x5 d5 w h
  have hlk := h.hks.le
  have hlw := h.hws.le
  have hlb := h.hbs.le
  have hb0 := bel1 w (.cells #[.int .i64 1, .string nm, .bool g, .slice x1 az.length d1, .slice x2 ws.length d2, .slice x3 ks.len d3, .slice x4 bs.length d4, .slice x5 cz.len d5] 28)
  have hrow : (w.alloc (.cells #[.int .i64 1, .string nm, .bool g, .slice x1 az.length d1, .slice x2 ws.length d2, .slice x3 ks.len d3, .slice x4 bs.length d4, .slice x5 cz.len d5] 28)).heap[w.heap.size]? = some (.cells #[.int .i64 1, .string nm, .bool g, .slice x1 az.length d1, .slice x2 ws.length d2, .slice x3 ks.len d3, .slice x4 bs.length d4, .slice x5 cz.len d5] 28 (0, 0)) := heap_new' _ _
  have hsi := fun W (hb : Below (w.alloc (.cells #[.int .i64 1, .string nm, .bool g, .slice x1 az.length d1, .slice x2 ws.length d2, .slice x3 ks.len d3, .slice x4 bs.length d4, .slice x5 cz.len d5] 28)).heap.size (w.alloc (.cells #[.int .i64 1, .string nm, .bool g, .slice x1 az.length d1, .slice x2 ws.length d2, .slice x3 ks.len d3, .slice x4 bs.length d4, .slice x5 cz.len d5] 28)) W) => later (rsimple_any 1 nm g az ws ks bs cz x1 d1 x2 d2 x3 d3 x4 d4 x5 d5 W (h.below (thru hb0 hb))) hb
  unfold nodeV at *
  generalize hSI : (noneL (hasN nm g az ws ks bs cz) [97, 119] && simpleB az ws) = SI at hsi
  have Hhsi := Lib.hid hsi; have HSI := Lib.hid hSI; clear hsi hSI
  have HK := Lib.hid h.hks; have HOK := Lib.hid h.okk
  clear h
  go_enter Tryz.func38, Tryz.ntmps38
  go_wp2_with fail
  generalize w.alloc (.cells #[.int .i64 1, .string nm, .bool g, .slice x1 az.length d1, .slice x2 ws.length d2, .slice x3 ks.len d3, .slice x4 bs.length d4, .slice x5 cz.len d5] 28) = W0 at *
  have hq0 : ∀ W, Below W0.heap.size W0 W → W.cell? ⟨w.heap.size, 0, none⟩ = some (.int .i64 1) := fun W hb => cell_below hb (Lib.cell_of_heap hrow 0)
  have hq1 : ∀ W, Below W0.heap.size W0 W → W.cell? ⟨w.heap.size, 1, none⟩ = some (.string nm) := fun W hb => cell_below hb (Lib.cell_of_heap hrow 1)
  have hq2 : ∀ W, Below W0.heap.size W0 W → W.cell? ⟨w.heap.size, 2, none⟩ = some (.bool g) := fun W hb => cell_below hb (Lib.cell_of_heap hrow 2)
  have hq3 : ∀ W, Below W0.heap.size W0 W → W.cell? ⟨w.heap.size, 3, none⟩ = some (.slice x1 az.length d1) := fun W hb => cell_below hb (Lib.cell_of_heap hrow 3)
  have hq4 : ∀ W, Below W0.heap.size W0 W → W.cell? ⟨w.heap.size, 4, none⟩ = some (.slice x2 ws.length d2) := fun W hb => cell_below hb (Lib.cell_of_heap hrow 4)
  have hq5 : ∀ W, Below W0.heap.size W0 W → W.cell? ⟨w.heap.size, 5, none⟩ = some (.slice x3 ks.len d3) := fun W hb => cell_below hb (Lib.cell_of_heap hrow 5)
  have hq6 : ∀ W, Below W0.heap.size W0 W → W.cell? ⟨w.heap.size, 6, none⟩ = some (.slice x4 bs.length d4) := fun W hb => cell_below hb (Lib.cell_of_heap hrow 6)
  have hq7 : ∀ W, Below W0.heap.size W0 W → W.cell? ⟨w.heap.size, 7, none⟩ = some (.slice x5 cz.len d5) := fun W hb => cell_below hb (Lib.cell_of_heap hrow 7)
  have HQ0 := Lib.hid hq0; clear hq0
  have HQ1 := Lib.hid hq1; clear hq1
  have HQ2 := Lib.hid hq2; clear hq2
  have HQ3 := Lib.hid hq3; clear hq3
  have HQ4 := Lib.hid hq4; clear hq4
  have HQ5 := Lib.hid hq5; clear hq5
  have HQ6 := Lib.hid hq6; clear hq6
  have HQ7 := Lib.hid hq7; clear hq7
  have HB0 := Lib.hid hb0; clear hb0 hrow
  have q0 := HQ0.out _ (Below.refl _ _); have q1 := HQ1.out _ (Below.refl _ _); have q2 := HQ2.out _ (Below.refl _ _); have q3 := HQ3.out _ (Below.refl _ _); have q4 := HQ4.out _ (Below.refl _ _); have q5 := HQ5.out _ (Below.refl _ _); have q6 := HQ6.out _ (Below.refl _ _); have q7 := HQ7.out _ (Below.refl _ _)
  have hbr := Below.refl W0.heap.size W0
  go_wp2_with (first | (go_at_call 65; refine (Hhsi.out _ (by assumption)).mono ?_; rintro e w1 ⟨rfl, hb⟩; ))
  all_goals
    go_ret
    refine ⟨ret_bool ?_, thru HB0.out (by assumption)⟩
    have hx : ownR 1 nm g az ws ks bs cz = (noneL (hasN nm g az ws ks bs cz) [97, 119] && simpleB az ws) := rfl
    rw [hx]
    first
      | (simp only [NB, HSI.out]; done)
      | (simp only [NB, HSI.out]; simp_all [])

set_option maxHeartbeats 1600000 in
set_option maxRecDepth 100000 in
theorem own_r9 : OwnAt 9 := by
  intro nm g az ws ks bs cz x1 d1 x2 d2 x3 d3 x4 d4 x5 d5 w h
  have hlk := h.hks.le
  have hlw := h.hws.le
  have hlb := h.hbs.le
  have hb0 := bel1 w (.cells #[.int .i64 9, .string nm, .bool g, .slice x1 az.length d1, .slice x2 ws.length d2, .slice x3 ks.len d3, .slice x4 bs.length d4, .slice x5 cz.len d5] 28)
  have hrow : (w.alloc (.cells #[.int .i64 9, .string nm, .bool g, .slice x1 az.length d1, .slice x2 ws.length d2, .slice x3 ks.len d3, .slice x4 bs.length d4, .slice x5 cz.len d5] 28)).heap[w.heap.size]? = some (.cells #[.int .i64 9, .string nm, .bool g, .slice x1 az.length d1, .slice x2 ws.length d2, .slice x3 ks.len d3, .slice x4 bs.length d4, .slice x5 cz.len d5] 28 (0, 0)) := heap_new' _ _
  have hn := fun W (hb : Below (w.alloc (.cells #[.int .i64 9, .string nm, .bool g, .slice x1 az.length d1, .slice x2 ws.length d2, .slice x3 ks.len d3, .slice x4 bs.length d4, .slice x5 cz.len d5] 28)).heap.size (w.alloc (.cells #[.int .i64 9, .string nm, .bool g, .slice x1 az.length d1, .slice x2 ws.length d2, .slice x3 ks.len d3, .slice x4 bs.length d4, .slice x5 cz.len d5] 28)) W) => later (none_any 9 nm g az ws ks bs cz x1 d1 x2 d2 x3 d3 x4 d4 x5 d5 ⟨#[110, 103, 119, 107]⟩ (by decide) W (h.below (thru hb0 hb))) hb
  have hbd := fun W (hb : Below (w.alloc (.cells #[.int .i64 9, .string nm, .bool g, .slice x1 az.length d1, .slice x2 ws.length d2, .slice x3 ks.len d3, .slice x4 bs.length d4, .slice x5 cz.len d5] 28)).heap.size (w.alloc (.cells #[.int .i64 9, .string nm, .bool g, .slice x1 az.length d1, .slice x2 ws.length d2, .slice x3 ks.len d3, .slice x4 bs.length d4, .slice x5 cz.len d5] 28)) W) => later (rbodies_any 9 nm g az ws ks bs cz x1 d1 x2 d2 x3 d3 x4 d4 x5 d5 1 1 W (h.below (thru hb0 hb))) hb
  have hwd := fun W (hb : Below (w.alloc (.cells #[.int .i64 9, .string nm, .bool g, .slice x1 az.length d1, .slice x2 ws.length d2, .slice x3 ks.len d3, .slice x4 bs.length d4, .slice x5 cz.len d5] 28)).heap.size (w.alloc (.cells #[.int .i64 9, .string nm, .bool g, .slice x1 az.length d1, .slice x2 ws.length d2, .slice x3 ks.len d3, .slice x4 bs.length d4, .slice x5 cz.len d5] 28)) W) => later (rwords_any ws x2 d2 W (sl_below (P := PW) (fun h => h.below (thru hb0 hb)) h.hws)) hb
  have hnmz : nm.size ≤ 9223372036854775807 := by have := h.hnm; unfold R at this; omega
  have hnm := fun w => rname_any nm w hnmz
  unfold nodeV at *
  generalize hNE : noneL (hasN nm g az ws ks bs cz) [110, 103, 119, 107] = N at hn
  generalize hBD : bodiesB ks 1 1 = BD at hbd
  generalize hWD : ws.all rightW = WD at hwd
  generalize hNMB : nameL nm.data.toList = NMB at hnm
  have HN := Lib.hid hn; have HNE := Lib.hid hNE; clear hn hNE
  have Hhbd := Lib.hid hbd; have HBD := Lib.hid hBD; clear hbd hBD
  have Hhwd := Lib.hid hwd; have HWD := Lib.hid hWD; clear hwd hWD
  have Hhnm := Lib.hid hnm; have HNMB := Lib.hid hNMB; clear hnm hNMB
  have HK := Lib.hid h.hks; have HOK := Lib.hid h.okk
  clear h
  go_enter Tryz.func38, Tryz.ntmps38
  go_wp2_with fail
  generalize w.alloc (.cells #[.int .i64 9, .string nm, .bool g, .slice x1 az.length d1, .slice x2 ws.length d2, .slice x3 ks.len d3, .slice x4 bs.length d4, .slice x5 cz.len d5] 28) = W0 at *
  have hq0 : ∀ W, Below W0.heap.size W0 W → W.cell? ⟨w.heap.size, 0, none⟩ = some (.int .i64 9) := fun W hb => cell_below hb (Lib.cell_of_heap hrow 0)
  have hq1 : ∀ W, Below W0.heap.size W0 W → W.cell? ⟨w.heap.size, 1, none⟩ = some (.string nm) := fun W hb => cell_below hb (Lib.cell_of_heap hrow 1)
  have hq2 : ∀ W, Below W0.heap.size W0 W → W.cell? ⟨w.heap.size, 2, none⟩ = some (.bool g) := fun W hb => cell_below hb (Lib.cell_of_heap hrow 2)
  have hq3 : ∀ W, Below W0.heap.size W0 W → W.cell? ⟨w.heap.size, 3, none⟩ = some (.slice x1 az.length d1) := fun W hb => cell_below hb (Lib.cell_of_heap hrow 3)
  have hq4 : ∀ W, Below W0.heap.size W0 W → W.cell? ⟨w.heap.size, 4, none⟩ = some (.slice x2 ws.length d2) := fun W hb => cell_below hb (Lib.cell_of_heap hrow 4)
  have hq5 : ∀ W, Below W0.heap.size W0 W → W.cell? ⟨w.heap.size, 5, none⟩ = some (.slice x3 ks.len d3) := fun W hb => cell_below hb (Lib.cell_of_heap hrow 5)
  have hq6 : ∀ W, Below W0.heap.size W0 W → W.cell? ⟨w.heap.size, 6, none⟩ = some (.slice x4 bs.length d4) := fun W hb => cell_below hb (Lib.cell_of_heap hrow 6)
  have hq7 : ∀ W, Below W0.heap.size W0 W → W.cell? ⟨w.heap.size, 7, none⟩ = some (.slice x5 cz.len d5) := fun W hb => cell_below hb (Lib.cell_of_heap hrow 7)
  have HQ0 := Lib.hid hq0; clear hq0
  have HQ1 := Lib.hid hq1; clear hq1
  have HQ2 := Lib.hid hq2; clear hq2
  have HQ3 := Lib.hid hq3; clear hq3
  have HQ4 := Lib.hid hq4; clear hq4
  have HQ5 := Lib.hid hq5; clear hq5
  have HQ6 := Lib.hid hq6; clear hq6
  have HQ7 := Lib.hid hq7; clear hq7
  have HB0 := Lib.hid hb0; clear hb0 hrow
  have q0 := HQ0.out _ (Below.refl _ _); have q1 := HQ1.out _ (Below.refl _ _); have q2 := HQ2.out _ (Below.refl _ _); have q3 := HQ3.out _ (Below.refl _ _); have q4 := HQ4.out _ (Below.refl _ _); have q5 := HQ5.out _ (Below.refl _ _); have q6 := HQ6.out _ (Below.refl _ _); have q7 := HQ7.out _ (Below.refl _ _)
  have hbr := Below.refl W0.heap.size W0
  have hwl : ((ws.length : Int) == 0) = decide (ws.length = 0) := by rw [Bool.eq_iff_iff, beq_iff_eq, decide_eq_true_iff]; omega
  generalize hWL : decide (ws.length = 0) = WL at hwl
  have HWL := Lib.hid hWL; clear hWL
  have HX := Lib.hid (show ownR 9 nm g az ws ks bs cz = (NB nm g az ws ks bs cz [110, 103, 119, 107] && (nameL nm.data.toList && (ws.all rightW && ((g || decide (ws.length = 0)) && bodiesB ks 1 1)))) from rfl)
  cases N
  · go_wp2_with (first | (go_at_call 66; refine (HN.out _ (by assumption)).mono ?_; rintro e w1 ⟨rfl, hb⟩; have q0 := HQ0.out _ hb; have q1 := HQ1.out _ hb; have q2 := HQ2.out _ hb; have q3 := HQ3.out _ hb; have q4 := HQ4.out _ hb; have q5 := HQ5.out _ hb; have q6 := HQ6.out _ hb; have q7 := HQ7.out _ hb) | (go_at_call 70; refine (Hhbd.out _ (by assumption)).mono ?_; rintro e w1 ⟨rfl, hb⟩; have q0 := HQ0.out _ hb; have q1 := HQ1.out _ hb; have q2 := HQ2.out _ hb; have q3 := HQ3.out _ hb; have q4 := HQ4.out _ hb; have q5 := HQ5.out _ hb; have q6 := HQ6.out _ hb; have q7 := HQ7.out _ hb) | (go_at_call 72; refine (Hhwd.out _ (by assumption)).mono ?_; rintro e w1 ⟨rfl, hb⟩; have q0 := HQ0.out _ hb; have q1 := HQ1.out _ hb; have q2 := HQ2.out _ hb; have q3 := HQ3.out _ hb; have q4 := HQ4.out _ hb; have q5 := HQ5.out _ hb; have q6 := HQ6.out _ hb; have q7 := HQ7.out _ hb) | (go_at_call 71; refine (Hhnm.out _).mono ?_; rintro e w1 ⟨rfl, rfl⟩))
    go_ret
    refine ⟨ret_bool ?_, thru HB0.out (by assumption)⟩
    rw [HX.out]
    first
      | (simp only [NB, HNE.out, HBD.out, HWD.out, HNMB.out, HWL.out]; done)
      | (simp only [NB, HNE.out, HBD.out, HWD.out, HNMB.out, HWL.out]; rfl)
  cases NMB
  · go_wp2_with (first | (go_at_call 66; refine (HN.out _ (by assumption)).mono ?_; rintro e w1 ⟨rfl, hb⟩; have q0 := HQ0.out _ hb; have q1 := HQ1.out _ hb; have q2 := HQ2.out _ hb; have q3 := HQ3.out _ hb; have q4 := HQ4.out _ hb; have q5 := HQ5.out _ hb; have q6 := HQ6.out _ hb; have q7 := HQ7.out _ hb) | (go_at_call 70; refine (Hhbd.out _ (by assumption)).mono ?_; rintro e w1 ⟨rfl, hb⟩; have q0 := HQ0.out _ hb; have q1 := HQ1.out _ hb; have q2 := HQ2.out _ hb; have q3 := HQ3.out _ hb; have q4 := HQ4.out _ hb; have q5 := HQ5.out _ hb; have q6 := HQ6.out _ hb; have q7 := HQ7.out _ hb) | (go_at_call 72; refine (Hhwd.out _ (by assumption)).mono ?_; rintro e w1 ⟨rfl, hb⟩; have q0 := HQ0.out _ hb; have q1 := HQ1.out _ hb; have q2 := HQ2.out _ hb; have q3 := HQ3.out _ hb; have q4 := HQ4.out _ hb; have q5 := HQ5.out _ hb; have q6 := HQ6.out _ hb; have q7 := HQ7.out _ hb) | (go_at_call 71; refine (Hhnm.out _).mono ?_; rintro e w1 ⟨rfl, rfl⟩))
    go_ret
    refine ⟨ret_bool ?_, thru HB0.out (by assumption)⟩
    rw [HX.out]
    first
      | (simp only [NB, HNE.out, HBD.out, HWD.out, HNMB.out, HWL.out]; done)
      | (simp only [NB, HNE.out, HBD.out, HWD.out, HNMB.out, HWL.out]; rfl)
  cases WD
  · go_wp2_with (first | (go_at_call 66; refine (HN.out _ (by assumption)).mono ?_; rintro e w1 ⟨rfl, hb⟩; have q0 := HQ0.out _ hb; have q1 := HQ1.out _ hb; have q2 := HQ2.out _ hb; have q3 := HQ3.out _ hb; have q4 := HQ4.out _ hb; have q5 := HQ5.out _ hb; have q6 := HQ6.out _ hb; have q7 := HQ7.out _ hb) | (go_at_call 70; refine (Hhbd.out _ (by assumption)).mono ?_; rintro e w1 ⟨rfl, hb⟩; have q0 := HQ0.out _ hb; have q1 := HQ1.out _ hb; have q2 := HQ2.out _ hb; have q3 := HQ3.out _ hb; have q4 := HQ4.out _ hb; have q5 := HQ5.out _ hb; have q6 := HQ6.out _ hb; have q7 := HQ7.out _ hb) | (go_at_call 72; refine (Hhwd.out _ (by assumption)).mono ?_; rintro e w1 ⟨rfl, hb⟩; have q0 := HQ0.out _ hb; have q1 := HQ1.out _ hb; have q2 := HQ2.out _ hb; have q3 := HQ3.out _ hb; have q4 := HQ4.out _ hb; have q5 := HQ5.out _ hb; have q6 := HQ6.out _ hb; have q7 := HQ7.out _ hb) | (go_at_call 71; refine (Hhnm.out _).mono ?_; rintro e w1 ⟨rfl, rfl⟩))
    go_ret
    refine ⟨ret_bool ?_, thru HB0.out (by assumption)⟩
    rw [HX.out]
    first
      | (simp only [NB, HNE.out, HBD.out, HWD.out, HNMB.out, HWL.out]; done)
      | (simp only [NB, HNE.out, HBD.out, HWD.out, HNMB.out, HWL.out]; rfl)
  cases g <;> cases WL <;> cases BD
  all_goals
    go_wp2_with (first | (go_at_call 66; refine (HN.out _ (by assumption)).mono ?_; rintro e w1 ⟨rfl, hb⟩; have q0 := HQ0.out _ hb; have q1 := HQ1.out _ hb; have q2 := HQ2.out _ hb; have q3 := HQ3.out _ hb; have q4 := HQ4.out _ hb; have q5 := HQ5.out _ hb; have q6 := HQ6.out _ hb; have q7 := HQ7.out _ hb) | (go_at_call 70; refine (Hhbd.out _ (by assumption)).mono ?_; rintro e w1 ⟨rfl, hb⟩; have q0 := HQ0.out _ hb; have q1 := HQ1.out _ hb; have q2 := HQ2.out _ hb; have q3 := HQ3.out _ hb; have q4 := HQ4.out _ hb; have q5 := HQ5.out _ hb; have q6 := HQ6.out _ hb; have q7 := HQ7.out _ hb) | (go_at_call 72; refine (Hhwd.out _ (by assumption)).mono ?_; rintro e w1 ⟨rfl, hb⟩; have q0 := HQ0.out _ hb; have q1 := HQ1.out _ hb; have q2 := HQ2.out _ hb; have q3 := HQ3.out _ hb; have q4 := HQ4.out _ hb; have q5 := HQ5.out _ hb; have q6 := HQ6.out _ hb; have q7 := HQ7.out _ hb) | (go_at_call 71; refine (Hhnm.out _).mono ?_; rintro e w1 ⟨rfl, rfl⟩))
    go_ret
    refine ⟨ret_bool ?_, thru HB0.out (by assumption)⟩
    rw [HX.out]
    first
      | (simp only [NB, HNE.out, HBD.out, HWD.out, HNMB.out, HWL.out]; done)
      | (simp only [NB, HNE.out, HBD.out, HWD.out, HNMB.out, HWL.out]; rfl)

set_option maxHeartbeats 1600000 in
set_option maxRecDepth 100000 in
theorem own_r10 : OwnAt 10 := by
  intro nm g az ws ks bs cz x1 d1 x2 d2 x3 d3 x4 d4 x5 d5 w h
  have hlk := h.hks.le
  have hlw := h.hws.le
  have hlb := h.hbs.le
  have hb0 := bel1 w (.cells #[.int .i64 10, .string nm, .bool g, .slice x1 az.length d1, .slice x2 ws.length d2, .slice x3 ks.len d3, .slice x4 bs.length d4, .slice x5 cz.len d5] 28)
  have hrow : (w.alloc (.cells #[.int .i64 10, .string nm, .bool g, .slice x1 az.length d1, .slice x2 ws.length d2, .slice x3 ks.len d3, .slice x4 bs.length d4, .slice x5 cz.len d5] 28)).heap[w.heap.size]? = some (.cells #[.int .i64 10, .string nm, .bool g, .slice x1 az.length d1, .slice x2 ws.length d2, .slice x3 ks.len d3, .slice x4 bs.length d4, .slice x5 cz.len d5] 28 (0, 0)) := heap_new' _ _
  have hn := fun W (hb : Below (w.alloc (.cells #[.int .i64 10, .string nm, .bool g, .slice x1 az.length d1, .slice x2 ws.length d2, .slice x3 ks.len d3, .slice x4 bs.length d4, .slice x5 cz.len d5] 28)).heap.size (w.alloc (.cells #[.int .i64 10, .string nm, .bool g, .slice x1 az.length d1, .slice x2 ws.length d2, .slice x3 ks.len d3, .slice x4 bs.length d4, .slice x5 cz.len d5] 28)) W) => later (none_any 10 nm g az ws ks bs cz x1 d1 x2 d2 x3 d3 x4 d4 x5 d5 ⟨#[119, 99]⟩ (by decide) W (h.below (thru hb0 hb))) hb
  have hcs := fun W (hb : Below (w.alloc (.cells #[.int .i64 10, .string nm, .bool g, .slice x1 az.length d1, .slice x2 ws.length d2, .slice x3 ks.len d3, .slice x4 bs.length d4, .slice x5 cz.len d5] 28)).heap.size (w.alloc (.cells #[.int .i64 10, .string nm, .bool g, .slice x1 az.length d1, .slice x2 ws.length d2, .slice x3 ks.len d3, .slice x4 bs.length d4, .slice x5 cz.len d5] 28)) W) => later (rcases_any cz x5 d5 W (h.hcs.below (thru hb0 hb)) h.okc) hb
  have hwd := fun W (hb : Below (w.alloc (.cells #[.int .i64 10, .string nm, .bool g, .slice x1 az.length d1, .slice x2 ws.length d2, .slice x3 ks.len d3, .slice x4 bs.length d4, .slice x5 cz.len d5] 28)).heap.size (w.alloc (.cells #[.int .i64 10, .string nm, .bool g, .slice x1 az.length d1, .slice x2 ws.length d2, .slice x3 ks.len d3, .slice x4 bs.length d4, .slice x5 cz.len d5] 28)) W) => later (rwords_any ws x2 d2 W (sl_below (P := PW) (fun h => h.below (thru hb0 hb)) h.hws)) hb
  unfold nodeV at *
  generalize hNE : noneL (hasN nm g az ws ks bs cz) [119, 99] = N at hn
  generalize hWD : ws.all rightW = WD at hwd
  generalize hCS : casesB cz = CS at hcs
  have HN := Lib.hid hn; have HNE := Lib.hid hNE; clear hn hNE
  have Hhwd := Lib.hid hwd; have HWD := Lib.hid hWD; clear hwd hWD
  have Hhcs := Lib.hid hcs; have HCS := Lib.hid hCS; clear hcs hCS
  have HK := Lib.hid h.hks; have HOK := Lib.hid h.okk
  clear h
  go_enter Tryz.func38, Tryz.ntmps38
  go_wp2_with fail
  generalize w.alloc (.cells #[.int .i64 10, .string nm, .bool g, .slice x1 az.length d1, .slice x2 ws.length d2, .slice x3 ks.len d3, .slice x4 bs.length d4, .slice x5 cz.len d5] 28) = W0 at *
  have hq0 : ∀ W, Below W0.heap.size W0 W → W.cell? ⟨w.heap.size, 0, none⟩ = some (.int .i64 10) := fun W hb => cell_below hb (Lib.cell_of_heap hrow 0)
  have hq1 : ∀ W, Below W0.heap.size W0 W → W.cell? ⟨w.heap.size, 1, none⟩ = some (.string nm) := fun W hb => cell_below hb (Lib.cell_of_heap hrow 1)
  have hq2 : ∀ W, Below W0.heap.size W0 W → W.cell? ⟨w.heap.size, 2, none⟩ = some (.bool g) := fun W hb => cell_below hb (Lib.cell_of_heap hrow 2)
  have hq3 : ∀ W, Below W0.heap.size W0 W → W.cell? ⟨w.heap.size, 3, none⟩ = some (.slice x1 az.length d1) := fun W hb => cell_below hb (Lib.cell_of_heap hrow 3)
  have hq4 : ∀ W, Below W0.heap.size W0 W → W.cell? ⟨w.heap.size, 4, none⟩ = some (.slice x2 ws.length d2) := fun W hb => cell_below hb (Lib.cell_of_heap hrow 4)
  have hq5 : ∀ W, Below W0.heap.size W0 W → W.cell? ⟨w.heap.size, 5, none⟩ = some (.slice x3 ks.len d3) := fun W hb => cell_below hb (Lib.cell_of_heap hrow 5)
  have hq6 : ∀ W, Below W0.heap.size W0 W → W.cell? ⟨w.heap.size, 6, none⟩ = some (.slice x4 bs.length d4) := fun W hb => cell_below hb (Lib.cell_of_heap hrow 6)
  have hq7 : ∀ W, Below W0.heap.size W0 W → W.cell? ⟨w.heap.size, 7, none⟩ = some (.slice x5 cz.len d5) := fun W hb => cell_below hb (Lib.cell_of_heap hrow 7)
  have HQ0 := Lib.hid hq0; clear hq0
  have HQ1 := Lib.hid hq1; clear hq1
  have HQ2 := Lib.hid hq2; clear hq2
  have HQ3 := Lib.hid hq3; clear hq3
  have HQ4 := Lib.hid hq4; clear hq4
  have HQ5 := Lib.hid hq5; clear hq5
  have HQ6 := Lib.hid hq6; clear hq6
  have HQ7 := Lib.hid hq7; clear hq7
  have HB0 := Lib.hid hb0; clear hb0 hrow
  have q0 := HQ0.out _ (Below.refl _ _); have q1 := HQ1.out _ (Below.refl _ _); have q2 := HQ2.out _ (Below.refl _ _); have q3 := HQ3.out _ (Below.refl _ _); have q4 := HQ4.out _ (Below.refl _ _); have q5 := HQ5.out _ (Below.refl _ _); have q6 := HQ6.out _ (Below.refl _ _); have q7 := HQ7.out _ (Below.refl _ _)
  have hbr := Below.refl W0.heap.size W0
  have hwl : ((ws.length : Int) == 1) = decide (ws.length = 1) := by rw [Bool.eq_iff_iff, beq_iff_eq, decide_eq_true_iff]; omega
  generalize hWL : decide (ws.length = 1) = WL at hwl
  have HWL := Lib.hid hWL; clear hWL
  have HX := Lib.hid (show ownR 10 nm g az ws ks bs cz = (NB nm g az ws ks bs cz [119, 99] && (decide (ws.length = 1) && (ws.all rightW && casesB cz))) from rfl)
  cases N
  · go_wp2_with (first | (go_at_call 66; refine (HN.out _ (by assumption)).mono ?_; rintro e w1 ⟨rfl, hb⟩; have q0 := HQ0.out _ hb; have q1 := HQ1.out _ hb; have q2 := HQ2.out _ hb; have q3 := HQ3.out _ hb; have q4 := HQ4.out _ hb; have q5 := HQ5.out _ hb; have q6 := HQ6.out _ hb; have q7 := HQ7.out _ hb) | (go_at_call 72; refine (Hhwd.out _ (by assumption)).mono ?_; rintro e w1 ⟨rfl, hb⟩; have q0 := HQ0.out _ hb; have q1 := HQ1.out _ hb; have q2 := HQ2.out _ hb; have q3 := HQ3.out _ hb; have q4 := HQ4.out _ hb; have q5 := HQ5.out _ hb; have q6 := HQ6.out _ hb; have q7 := HQ7.out _ hb) | (go_at_call 73; refine (Hhcs.out _ (by assumption)).mono ?_; rintro e w1 ⟨rfl, hb⟩; ))
    go_ret
    refine ⟨ret_bool ?_, thru HB0.out (by assumption)⟩
    rw [HX.out]
    first
      | (simp only [NB, HNE.out, HWD.out, HCS.out, HWL.out]; done)
      | (simp only [NB, HNE.out, HWD.out, HCS.out, HWL.out]; rfl)
  cases WL
  · go_wp2_with (first | (go_at_call 66; refine (HN.out _ (by assumption)).mono ?_; rintro e w1 ⟨rfl, hb⟩; have q0 := HQ0.out _ hb; have q1 := HQ1.out _ hb; have q2 := HQ2.out _ hb; have q3 := HQ3.out _ hb; have q4 := HQ4.out _ hb; have q5 := HQ5.out _ hb; have q6 := HQ6.out _ hb; have q7 := HQ7.out _ hb) | (go_at_call 72; refine (Hhwd.out _ (by assumption)).mono ?_; rintro e w1 ⟨rfl, hb⟩; have q0 := HQ0.out _ hb; have q1 := HQ1.out _ hb; have q2 := HQ2.out _ hb; have q3 := HQ3.out _ hb; have q4 := HQ4.out _ hb; have q5 := HQ5.out _ hb; have q6 := HQ6.out _ hb; have q7 := HQ7.out _ hb) | (go_at_call 73; refine (Hhcs.out _ (by assumption)).mono ?_; rintro e w1 ⟨rfl, hb⟩; ))
    go_ret
    refine ⟨ret_bool ?_, thru HB0.out (by assumption)⟩
    rw [HX.out]
    first
      | (simp only [NB, HNE.out, HWD.out, HCS.out, HWL.out]; done)
      | (simp only [NB, HNE.out, HWD.out, HCS.out, HWL.out]; rfl)
  cases WD
  · go_wp2_with (first | (go_at_call 66; refine (HN.out _ (by assumption)).mono ?_; rintro e w1 ⟨rfl, hb⟩; have q0 := HQ0.out _ hb; have q1 := HQ1.out _ hb; have q2 := HQ2.out _ hb; have q3 := HQ3.out _ hb; have q4 := HQ4.out _ hb; have q5 := HQ5.out _ hb; have q6 := HQ6.out _ hb; have q7 := HQ7.out _ hb) | (go_at_call 72; refine (Hhwd.out _ (by assumption)).mono ?_; rintro e w1 ⟨rfl, hb⟩; have q0 := HQ0.out _ hb; have q1 := HQ1.out _ hb; have q2 := HQ2.out _ hb; have q3 := HQ3.out _ hb; have q4 := HQ4.out _ hb; have q5 := HQ5.out _ hb; have q6 := HQ6.out _ hb; have q7 := HQ7.out _ hb) | (go_at_call 73; refine (Hhcs.out _ (by assumption)).mono ?_; rintro e w1 ⟨rfl, hb⟩; ))
    go_ret
    refine ⟨ret_bool ?_, thru HB0.out (by assumption)⟩
    rw [HX.out]
    first
      | (simp only [NB, HNE.out, HWD.out, HCS.out, HWL.out]; done)
      | (simp only [NB, HNE.out, HWD.out, HCS.out, HWL.out]; rfl)
  cases CS
  · go_wp2_with (first | (go_at_call 66; refine (HN.out _ (by assumption)).mono ?_; rintro e w1 ⟨rfl, hb⟩; have q0 := HQ0.out _ hb; have q1 := HQ1.out _ hb; have q2 := HQ2.out _ hb; have q3 := HQ3.out _ hb; have q4 := HQ4.out _ hb; have q5 := HQ5.out _ hb; have q6 := HQ6.out _ hb; have q7 := HQ7.out _ hb) | (go_at_call 72; refine (Hhwd.out _ (by assumption)).mono ?_; rintro e w1 ⟨rfl, hb⟩; have q0 := HQ0.out _ hb; have q1 := HQ1.out _ hb; have q2 := HQ2.out _ hb; have q3 := HQ3.out _ hb; have q4 := HQ4.out _ hb; have q5 := HQ5.out _ hb; have q6 := HQ6.out _ hb; have q7 := HQ7.out _ hb) | (go_at_call 73; refine (Hhcs.out _ (by assumption)).mono ?_; rintro e w1 ⟨rfl, hb⟩; ))
    go_ret
    refine ⟨ret_bool ?_, thru HB0.out (by assumption)⟩
    rw [HX.out]
    first
      | (simp only [NB, HNE.out, HWD.out, HCS.out, HWL.out]; done)
      | (simp only [NB, HNE.out, HWD.out, HCS.out, HWL.out]; rfl)
  go_wp2_with (first | (go_at_call 66; refine (HN.out _ (by assumption)).mono ?_; rintro e w1 ⟨rfl, hb⟩; have q0 := HQ0.out _ hb; have q1 := HQ1.out _ hb; have q2 := HQ2.out _ hb; have q3 := HQ3.out _ hb; have q4 := HQ4.out _ hb; have q5 := HQ5.out _ hb; have q6 := HQ6.out _ hb; have q7 := HQ7.out _ hb) | (go_at_call 72; refine (Hhwd.out _ (by assumption)).mono ?_; rintro e w1 ⟨rfl, hb⟩; have q0 := HQ0.out _ hb; have q1 := HQ1.out _ hb; have q2 := HQ2.out _ hb; have q3 := HQ3.out _ hb; have q4 := HQ4.out _ hb; have q5 := HQ5.out _ hb; have q6 := HQ6.out _ hb; have q7 := HQ7.out _ hb) | (go_at_call 73; refine (Hhcs.out _ (by assumption)).mono ?_; rintro e w1 ⟨rfl, hb⟩; ))
  go_ret
  refine ⟨ret_bool ?_, thru HB0.out (by assumption)⟩
  rw [HX.out]
  first
    | (simp only [NB, HNE.out, HWD.out, HCS.out, HWL.out]; done)
    | (simp only [NB, HNE.out, HWD.out, HCS.out, HWL.out]; rfl)

end Tr
end Go.Proofs.YtgdjeemmklmpfaaGreat
