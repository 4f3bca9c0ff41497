/- rightAt for a simple command, a loop over words, cases, a function, and what is no kind. -/
import Derived.Test.YtmpongcambbihaaTrL
namespace Go.Proofs.Ytmpongcambbihaa
open Go.RowKit Go.Sort
namespace Tr
open Cls Pt

set_option maxHeartbeats 1600000 in
set_option maxRecDepth 100000 in
theorem right_1 (n : Nat) (hR : RightAt n) (nm : ByteArray) (g : Bool) (az : List (ByteArray × PL)) (ws : List PL) (ks : NL) (bs : List Bool) (cz : NL) (x1 : Option Addr) (d1 : Nat) (x2 : Option Addr) (d2 : Nat) (x3 : Option Addr) (d3 : Nat) (x4 : Option Addr) (d4 : Nat) (x5 : Option Addr) (d5 : Nat) (d : Nat) (m : Int) (w : World) (hks : ks.size ≤ n) (hcs : cz.size ≤ n) (hd : d ≤ 201) (h : Holds w nm az ws ks bs cz x1 d1 x2 d2 x3 d3 x4 d4 x5 d5) (hok : ∀ l ∈ ws, wOK l) (hfk : fitN ks) (hfc : fitN cz) (hm : w.cell? ⟨0, 0, none⟩ = some (.int .i64 m)) (ho : ownB 1 nm g az ws ks bs cz = true) :
    Calls Try.prog 30 #[.agg (nodeV 1 nm g x1 az.length d1 x2 ws.length d2 x3 ks.len d3 x4 bs.length d4 x5 cz.len d5), .int .i64 d] w fun e w' => e = .returned (.bool (nodeR 1 nm g az ws ks bs cz d)) ∧ Below w.heap.size w w' := by
  have hkind : nodeR 1 nm g az ws ks bs cz d = kindB 1 nm g az ws ks bs (rt ks (d)) (rt cz (d)) := by
    unfold nodeR
    rw [show deepB 1 d = false from rfl, ho]
    rfl
  have hrow : (w.alloc (.cells #[.int .i64 1, .string nm, .bool g, .slice x1 az.length d1, .slice x2 ws.length d2, .slice x3 ks.len d3, .slice x4 bs.length d4, .slice x5 cz.len d5] 28)).heap[w.heap.size]? = some (.cells #[.int .i64 1, .string nm, .bool g, .slice x1 az.length d1, .slice x2 ws.length d2, .slice x3 ks.len d3, .slice x4 bs.length d4, .slice x5 cz.len d5] 28 (0, 0)) := heap_new' _ _
  have hlt0 : w.heap.size < (w.alloc (.cells #[.int .i64 1, .string nm, .bool g, .slice x1 az.length d1, .slice x2 ws.length d2, .slice x3 ks.len d3, .slice x4 bs.length d4, .slice x5 cz.len d5] 28)).heap.size := by simp only [World.size_alloc]; omega
  have hOWN := own_any 1 nm g az ws ks bs cz x1 d1 x2 d2 x3 d3 x4 d4 x5 d5 (w.alloc (.cells #[.int .i64 1, .string nm, .bool g, .slice x1 az.length d1, .slice x2 ws.length d2, .slice x3 ks.len d3, .slice x4 bs.length d4, .slice x5 cz.len d5] 28)) (h.below (bel1 w _))
  unfold nodeV at hOWN
  rw [ho] at hOWN
  have hCN := fun w => counts_any 1 w
  rw [show countsB 1 = false from rfl] at hCN
  have HROW := Lib.hid hrow; have HLT := Lib.hid hlt0; have HB0 := Lib.hid (bel1 w (.cells #[.int .i64 1, .string nm, .bool g, .slice x1 az.length d1, .slice x2 ws.length d2, .slice x3 ks.len d3, .slice x4 bs.length d4, .slice x5 cz.len d5] 28)); have HOWN := Lib.hid hOWN; have HCN := Lib.hid hCN
  clear hrow hlt0 hOWN hCN
  have hWI := fun w => within_any 1 d (by omega) w
  rw [show withinD 1 d = d from rfl] at hWI
  have HWI := Lib.hid hWI
  clear hWI
  have hSM := fun W (hb : Below w.heap.size w W) => rightSimple_any 1 nm g az ws ks bs cz x1 d1 x2 d2 x3 d3 x4 d4 x5 d5 m W (h.below hb) hok (cell_below hb hm)
  rw [hkind, show kindB 1 nm g az ws ks bs (rt ks (d)) (rt cz (d)) = simpleB az ws from rfl]
  unfold nodeV at hSM
  have hle3 := h.hks.le
  have HSM := Lib.hid hSM
  clear hSM
  clear hkind h hok hfk hfc hm hR ho
  unfold nodeV
  go_enter Try.func30, Try.ntmps30
  go_wp2_with (first
      | (go_at_call 35; refine (HCN.out _).mono ?_; rintro e w' ⟨rfl, rfl⟩)
      | (go_at_call 36; refine (HOWN.out).mono ?_; rintro e w1 ⟨rfl, hb1⟩; have hrw := (hb1.block _ HLT.out).trans HROW.out; have q0 : w1.cell? ⟨w.heap.size, 0, none⟩ = some (.int .i64 1) := Lib.cell_of_heap hrw 0; have q1 : w1.cell? ⟨w.heap.size, 1, none⟩ = some (.string nm) := Lib.cell_of_heap hrw 1; have q2 : w1.cell? ⟨w.heap.size, 2, none⟩ = some (.bool g) := Lib.cell_of_heap hrw 2; have q3 : w1.cell? ⟨w.heap.size, 3, none⟩ = some (.slice x1 az.length d1) := Lib.cell_of_heap hrw 3; have q4 : w1.cell? ⟨w.heap.size, 4, none⟩ = some (.slice x2 ws.length d2) := Lib.cell_of_heap hrw 4; have q5 : w1.cell? ⟨w.heap.size, 5, none⟩ = some (.slice x3 ks.len d3) := Lib.cell_of_heap hrw 5; have q6 : w1.cell? ⟨w.heap.size, 6, none⟩ = some (.slice x4 bs.length d4) := Lib.cell_of_heap hrw 6; have q7 : w1.cell? ⟨w.heap.size, 7, none⟩ = some (.slice x5 cz.len d5) := Lib.cell_of_heap hrw 7; have hlt1 : w.heap.size < w1.heap.size := Nat.lt_of_lt_of_le HLT.out hb1.size; have HBW1 := Lib.hid (thru HB0.out hb1); clear hrw hb1)
      | (go_at_call 37; refine (HWI.out _).mono ?_; rintro e w' ⟨rfl, rfl⟩)
      | (go_at_call 39; refine (HSM.out _ (thru HBW1.out (bel2 _ _ _))).mono ?_; rintro e w2 ⟨rfl, hb2⟩))
  go_ret
  exact ⟨rfl, thru (thru HBW1.out (bel2 _ _ _)) (by assumption)⟩

set_option maxHeartbeats 1600000 in
set_option maxRecDepth 100000 in
theorem right_9 (n : Nat) (hR : RightAt n) (nm : ByteArray) (g : Bool) (az : List (ByteArray × PL)) (ws : List PL) (ks : NL) (bs : List Bool) (cz : NL) (x1 : Option Addr) (d1 : Nat) (x2 : Option Addr) (d2 : Nat) (x3 : Option Addr) (d3 : Nat) (x4 : Option Addr) (d4 : Nat) (x5 : Option Addr) (d5 : Nat) (d : Nat) (m : Int) (w : World) (hks : ks.size ≤ n) (hcs : cz.size ≤ n) (hd : d ≤ 201) (h : Holds w nm az ws ks bs cz x1 d1 x2 d2 x3 d3 x4 d4 x5 d5) (hok : ∀ l ∈ ws, wOK l) (hfk : fitN ks) (hfc : fitN cz) (hm : w.cell? ⟨0, 0, none⟩ = some (.int .i64 m)) (hd2 : d ≤ 200) (ho : ownB 9 nm g az ws ks bs cz = true) :
    Calls Try.prog 30 #[.agg (nodeV 9 nm g x1 az.length d1 x2 ws.length d2 x3 ks.len d3 x4 bs.length d4 x5 cz.len d5), .int .i64 d] w fun e w' => e = .returned (.bool (nodeR 9 nm g az ws ks bs cz d)) ∧ Below w.heap.size w w' := by
  have hkind : nodeR 9 nm g az ws ks bs cz d = kindB 9 nm g az ws ks bs (rt ks (d + 1)) (rt cz (d + 1)) := by
    unfold nodeR
    rw [show deepB 9 d = false from by unfold deepB; rw [decide_eq_false (by omega)]; simp, ho]
    rfl
  have hgt : ((200 : Int) < (d : Int)) = False := by rw [eq_iff_iff, iff_false]; omega
  have hrow : (w.alloc (.cells #[.int .i64 9, .string nm, .bool g, .slice x1 az.length d1, .slice x2 ws.length d2, .slice x3 ks.len d3, .slice x4 bs.length d4, .slice x5 cz.len d5] 28)).heap[w.heap.size]? = some (.cells #[.int .i64 9, .string nm, .bool g, .slice x1 az.length d1, .slice x2 ws.length d2, .slice x3 ks.len d3, .slice x4 bs.length d4, .slice x5 cz.len d5] 28 (0, 0)) := heap_new' _ _
  have hlt0 : w.heap.size < (w.alloc (.cells #[.int .i64 9, .string nm, .bool g, .slice x1 az.length d1, .slice x2 ws.length d2, .slice x3 ks.len d3, .slice x4 bs.length d4, .slice x5 cz.len d5] 28)).heap.size := by simp only [World.size_alloc]; omega
  have hOWN := own_any 9 nm g az ws ks bs cz x1 d1 x2 d2 x3 d3 x4 d4 x5 d5 (w.alloc (.cells #[.int .i64 9, .string nm, .bool g, .slice x1 az.length d1, .slice x2 ws.length d2, .slice x3 ks.len d3, .slice x4 bs.length d4, .slice x5 cz.len d5] 28)) (h.below (bel1 w _))
  unfold nodeV at hOWN
  rw [ho] at hOWN
  have hCN := fun w => counts_any 9 w
  rw [show countsB 9 = true from rfl] at hCN
  have HROW := Lib.hid hrow; have HLT := Lib.hid hlt0; have HB0 := Lib.hid (bel1 w (.cells #[.int .i64 9, .string nm, .bool g, .slice x1 az.length d1, .slice x2 ws.length d2, .slice x3 ks.len d3, .slice x4 bs.length d4, .slice x5 cz.len d5] 28)); have HOWN := Lib.hid hOWN; have HCN := Lib.hid hCN
  clear hrow hlt0 hOWN hCN
  have hWI := fun w => within_any 9 d (by omega) w
  rw [show withinD 9 d = d + 1 from rfl] at hWI
  have HWI := Lib.hid hWI
  clear hWI
  have hALL := fun W pb (hb : Below w.heap.size w W) hp => all_body n hR ks hks h.okk hfk (d + 1) pb (by omega) x3 d3 m W (h.hks.below hb) (cell_below hb hm) hp
  have hFR := fun W (hb : Below w.heap.size w W) => rightFor_any 9 nm g az ws ks bs cz x1 d1 x2 d2 x3 d3 x4 d4 x5 d5 W (h.below hb)
  unfold nodeV at hFR
  rw [hkind]
  have hle3 := h.hks.le
  have HALL := Lib.hid hALL
  clear hALL
  clear hkind h hok hfk hfc hm hR ho
  unfold nodeV
  by_cases hq : ks.len = 1
  · have hq1 : ((ks.len : Int) == 1) = true := by rw [hq]; rfl
    cases hf : forB nm g ws
    all_goals
      rw [hf] at hFR
      have HFR := Lib.hid hFR
      clear hFR
    · have hans : kindB 9 nm g az ws ks bs (rt ks (d + 1)) (rt cz (d + 1)) = false := by unfold kindB; simp [hq, hf]
      rw [hans]
      clear hans hq hf
      go_enter Try.func30, Try.ntmps30
      go_wp2_with (first
      | (go_at_call 35; refine (HCN.out _).mono ?_; rintro e w' ⟨rfl, rfl⟩)
      | (go_at_call 36; refine (HOWN.out).mono ?_; rintro e w1 ⟨rfl, hb1⟩; have hrw := (hb1.block _ HLT.out).trans HROW.out; have q0 : w1.cell? ⟨w.heap.size, 0, none⟩ = some (.int .i64 9) := Lib.cell_of_heap hrw 0; have q1 : w1.cell? ⟨w.heap.size, 1, none⟩ = some (.string nm) := Lib.cell_of_heap hrw 1; have q2 : w1.cell? ⟨w.heap.size, 2, none⟩ = some (.bool g) := Lib.cell_of_heap hrw 2; have q3 : w1.cell? ⟨w.heap.size, 3, none⟩ = some (.slice x1 az.length d1) := Lib.cell_of_heap hrw 3; have q4 : w1.cell? ⟨w.heap.size, 4, none⟩ = some (.slice x2 ws.length d2) := Lib.cell_of_heap hrw 4; have q5 : w1.cell? ⟨w.heap.size, 5, none⟩ = some (.slice x3 ks.len d3) := Lib.cell_of_heap hrw 5; have q6 : w1.cell? ⟨w.heap.size, 6, none⟩ = some (.slice x4 bs.length d4) := Lib.cell_of_heap hrw 6; have q7 : w1.cell? ⟨w.heap.size, 7, none⟩ = some (.slice x5 cz.len d5) := Lib.cell_of_heap hrw 7; have hlt1 : w.heap.size < w1.heap.size := Nat.lt_of_lt_of_le HLT.out hb1.size; have HBW1 := Lib.hid (thru HB0.out hb1); clear hrw hb1)
      | (go_at_call 37; refine (HWI.out _).mono ?_; rintro e w' ⟨rfl, rfl⟩)
      | (go_at_call 44; refine (HFR.out _ (thru HBW1.out (bel2 _ _ _))).mono ?_; rintro e w2 ⟨rfl, hb2⟩; have hc2 := (clo_mk _ _).below hb2; have p2 := hc2.2; have qq : w2.cell? ⟨w.heap.size, 5, none⟩ = some (.slice x3 ks.len d3) := cell_below (thru (bel2 _ _ _) hb2) q5; have HB2 := Lib.hid (thru HBW1.out (thru (bel2 _ _ _) hb2)); have HC2 := Lib.hid hc2; clear hc2))
      go_ret
      exact ⟨rfl, HB2.out⟩
    · have hans : kindB 9 nm g az ws ks bs (rt ks (d + 1)) (rt cz (d + 1)) = (allS bodyB ks && rt ks (d + 1)) := by unfold kindB; simp [hq, hf]
      rw [hans]
      clear hans hq hf
      go_enter Try.func30, Try.ntmps30
      go_wp2_with (first
      | (go_at_call 35; refine (HCN.out _).mono ?_; rintro e w' ⟨rfl, rfl⟩)
      | (go_at_call 36; refine (HOWN.out).mono ?_; rintro e w1 ⟨rfl, hb1⟩; have hrw := (hb1.block _ HLT.out).trans HROW.out; have q0 : w1.cell? ⟨w.heap.size, 0, none⟩ = some (.int .i64 9) := Lib.cell_of_heap hrw 0; have q1 : w1.cell? ⟨w.heap.size, 1, none⟩ = some (.string nm) := Lib.cell_of_heap hrw 1; have q2 : w1.cell? ⟨w.heap.size, 2, none⟩ = some (.bool g) := Lib.cell_of_heap hrw 2; have q3 : w1.cell? ⟨w.heap.size, 3, none⟩ = some (.slice x1 az.length d1) := Lib.cell_of_heap hrw 3; have q4 : w1.cell? ⟨w.heap.size, 4, none⟩ = some (.slice x2 ws.length d2) := Lib.cell_of_heap hrw 4; have q5 : w1.cell? ⟨w.heap.size, 5, none⟩ = some (.slice x3 ks.len d3) := Lib.cell_of_heap hrw 5; have q6 : w1.cell? ⟨w.heap.size, 6, none⟩ = some (.slice x4 bs.length d4) := Lib.cell_of_heap hrw 6; have q7 : w1.cell? ⟨w.heap.size, 7, none⟩ = some (.slice x5 cz.len d5) := Lib.cell_of_heap hrw 7; have hlt1 : w.heap.size < w1.heap.size := Nat.lt_of_lt_of_le HLT.out hb1.size; have HBW1 := Lib.hid (thru HB0.out hb1); clear hrw hb1)
      | (go_at_call 37; refine (HWI.out _).mono ?_; rintro e w' ⟨rfl, rfl⟩)
      | (go_at_call 44; refine (HFR.out _ (thru HBW1.out (bel2 _ _ _))).mono ?_; rintro e w2 ⟨rfl, hb2⟩; have hc2 := (clo_mk _ _).below hb2; have p2 := hc2.2; have qq : w2.cell? ⟨w.heap.size, 5, none⟩ = some (.slice x3 ks.len d3) := cell_below (thru (bel2 _ _ _) hb2) q5; have HB2 := Lib.hid (thru HBW1.out (thru (bel2 _ _ _) hb2)); have HC2 := Lib.hid hc2; clear hc2)
      | (go_at_call 38; refine (HALL.out _ _ HB2.out HC2.out.1).mono ?_; rintro e w3 ⟨rfl, hb3⟩))
      go_ret
      exact ⟨rfl, thru HB2.out (by assumption)⟩
  · have hq1 : ((ks.len : Int) == 1) = false := by rw [beq_eq_false_iff_ne]; omega
    have hans : kindB 9 nm g az ws ks bs (rt ks (d + 1)) (rt cz (d + 1)) = false := by unfold kindB; simp [hq]
    rw [hans]
    clear hans hq hFR
    go_enter Try.func30, Try.ntmps30
    go_wp2_with (first
      | (go_at_call 35; refine (HCN.out _).mono ?_; rintro e w' ⟨rfl, rfl⟩)
      | (go_at_call 36; refine (HOWN.out).mono ?_; rintro e w1 ⟨rfl, hb1⟩; have hrw := (hb1.block _ HLT.out).trans HROW.out; have q0 : w1.cell? ⟨w.heap.size, 0, none⟩ = some (.int .i64 9) := Lib.cell_of_heap hrw 0; have q1 : w1.cell? ⟨w.heap.size, 1, none⟩ = some (.string nm) := Lib.cell_of_heap hrw 1; have q2 : w1.cell? ⟨w.heap.size, 2, none⟩ = some (.bool g) := Lib.cell_of_heap hrw 2; have q3 : w1.cell? ⟨w.heap.size, 3, none⟩ = some (.slice x1 az.length d1) := Lib.cell_of_heap hrw 3; have q4 : w1.cell? ⟨w.heap.size, 4, none⟩ = some (.slice x2 ws.length d2) := Lib.cell_of_heap hrw 4; have q5 : w1.cell? ⟨w.heap.size, 5, none⟩ = some (.slice x3 ks.len d3) := Lib.cell_of_heap hrw 5; have q6 : w1.cell? ⟨w.heap.size, 6, none⟩ = some (.slice x4 bs.length d4) := Lib.cell_of_heap hrw 6; have q7 : w1.cell? ⟨w.heap.size, 7, none⟩ = some (.slice x5 cz.len d5) := Lib.cell_of_heap hrw 7; have hlt1 : w.heap.size < w1.heap.size := Nat.lt_of_lt_of_le HLT.out hb1.size; have HBW1 := Lib.hid (thru HB0.out hb1); clear hrw hb1)
      | (go_at_call 37; refine (HWI.out _).mono ?_; rintro e w' ⟨rfl, rfl⟩))
    go_ret
    exact ⟨rfl, (thru HBW1.out (bel2 _ _ _))⟩

set_option maxHeartbeats 1600000 in
set_option maxRecDepth 100000 in
theorem right_10 (n : Nat) (hR : RightAt n) (nm : ByteArray) (g : Bool) (az : List (ByteArray × PL)) (ws : List PL) (ks : NL) (bs : List Bool) (cz : NL) (x1 : Option Addr) (d1 : Nat) (x2 : Option Addr) (d2 : Nat) (x3 : Option Addr) (d3 : Nat) (x4 : Option Addr) (d4 : Nat) (x5 : Option Addr) (d5 : Nat) (d : Nat) (m : Int) (w : World) (hks : ks.size ≤ n) (hcs : cz.size ≤ n) (hd : d ≤ 201) (h : Holds w nm az ws ks bs cz x1 d1 x2 d2 x3 d3 x4 d4 x5 d5) (hok : ∀ l ∈ ws, wOK l) (hfk : fitN ks) (hfc : fitN cz) (hm : w.cell? ⟨0, 0, none⟩ = some (.int .i64 m)) (hd2 : d ≤ 200) (ho : ownB 10 nm g az ws ks bs cz = true) :
    Calls Try.prog 30 #[.agg (nodeV 10 nm g x1 az.length d1 x2 ws.length d2 x3 ks.len d3 x4 bs.length d4 x5 cz.len d5), .int .i64 d] w fun e w' => e = .returned (.bool (nodeR 10 nm g az ws ks bs cz d)) ∧ Below w.heap.size w w' := by
  have hkind : nodeR 10 nm g az ws ks bs cz d = kindB 10 nm g az ws ks bs (rt ks (d + 1)) (rt cz (d + 1)) := by
    unfold nodeR
    rw [show deepB 10 d = false from by unfold deepB; rw [decide_eq_false (by omega)]; simp, ho]
    rfl
  have hgt : ((200 : Int) < (d : Int)) = False := by rw [eq_iff_iff, iff_false]; omega
  have hrow : (w.alloc (.cells #[.int .i64 10, .string nm, .bool g, .slice x1 az.length d1, .slice x2 ws.length d2, .slice x3 ks.len d3, .slice x4 bs.length d4, .slice x5 cz.len d5] 28)).heap[w.heap.size]? = some (.cells #[.int .i64 10, .string nm, .bool g, .slice x1 az.length d1, .slice x2 ws.length d2, .slice x3 ks.len d3, .slice x4 bs.length d4, .slice x5 cz.len d5] 28 (0, 0)) := heap_new' _ _
  have hlt0 : w.heap.size < (w.alloc (.cells #[.int .i64 10, .string nm, .bool g, .slice x1 az.length d1, .slice x2 ws.length d2, .slice x3 ks.len d3, .slice x4 bs.length d4, .slice x5 cz.len d5] 28)).heap.size := by simp only [World.size_alloc]; omega
  have hOWN := own_any 10 nm g az ws ks bs cz x1 d1 x2 d2 x3 d3 x4 d4 x5 d5 (w.alloc (.cells #[.int .i64 10, .string nm, .bool g, .slice x1 az.length d1, .slice x2 ws.length d2, .slice x3 ks.len d3, .slice x4 bs.length d4, .slice x5 cz.len d5] 28)) (h.below (bel1 w _))
  unfold nodeV at hOWN
  rw [ho] at hOWN
  have hCN := fun w => counts_any 10 w
  rw [show countsB 10 = true from rfl] at hCN
  have HROW := Lib.hid hrow; have HLT := Lib.hid hlt0; have HB0 := Lib.hid (bel1 w (.cells #[.int .i64 10, .string nm, .bool g, .slice x1 az.length d1, .slice x2 ws.length d2, .slice x3 ks.len d3, .slice x4 bs.length d4, .slice x5 cz.len d5] 28)); have HOWN := Lib.hid hOWN; have HCN := Lib.hid hCN
  clear hrow hlt0 hOWN hCN
  have hWI := fun w => within_any 10 d (by omega) w
  rw [show withinD 10 d = d + 1 from rfl] at hWI
  have HWI := Lib.hid hWI
  clear hWI
  have hCS := fun W pb pf (hb : Below w.heap.size w W) (hc : Clo W pb pf (d + 1)) => rightCases_any n hR cz hcs h.okc hfc (d + 1) pb pf (by omega) x5 d5 m W (h.hcs.below hb) (cell_below hb hm) hc
  have hWD := fun W (hb : Below w.heap.size w W) => rightWords_any ws x2 d2 W (sl_below (P := PW) (fun h => h.below hb) h.hws)
  rw [hkind]
  have hle3 := h.hks.le
  have hle2 := h.hws.le
  have HCS := Lib.hid hCS
  clear hCS
  clear hkind h hok hfk hfc hm hR ho
  unfold nodeV
  by_cases hq : ws.length = 1
  · have hq1 : ((ws.length : Int) == 1) = true := by rw [hq]; rfl
    cases hf : ws.all rightW
    all_goals
      rw [hf] at hWD
      have HWD := Lib.hid hWD
      clear hWD
    · have hans : kindB 10 nm g az ws ks bs (rt ks (d + 1)) (rt cz (d + 1)) = false := by
        unfold kindB
        rw [hf]
        simp
      rw [hans]
      clear hans hq hf
      go_enter Try.func30, Try.ntmps30
      go_wp2_with (first
      | (go_at_call 35; refine (HCN.out _).mono ?_; rintro e w' ⟨rfl, rfl⟩)
      | (go_at_call 36; refine (HOWN.out).mono ?_; rintro e w1 ⟨rfl, hb1⟩; have hrw := (hb1.block _ HLT.out).trans HROW.out; have q0 : w1.cell? ⟨w.heap.size, 0, none⟩ = some (.int .i64 10) := Lib.cell_of_heap hrw 0; have q1 : w1.cell? ⟨w.heap.size, 1, none⟩ = some (.string nm) := Lib.cell_of_heap hrw 1; have q2 : w1.cell? ⟨w.heap.size, 2, none⟩ = some (.bool g) := Lib.cell_of_heap hrw 2; have q3 : w1.cell? ⟨w.heap.size, 3, none⟩ = some (.slice x1 az.length d1) := Lib.cell_of_heap hrw 3; have q4 : w1.cell? ⟨w.heap.size, 4, none⟩ = some (.slice x2 ws.length d2) := Lib.cell_of_heap hrw 4; have q5 : w1.cell? ⟨w.heap.size, 5, none⟩ = some (.slice x3 ks.len d3) := Lib.cell_of_heap hrw 5; have q6 : w1.cell? ⟨w.heap.size, 6, none⟩ = some (.slice x4 bs.length d4) := Lib.cell_of_heap hrw 6; have q7 : w1.cell? ⟨w.heap.size, 7, none⟩ = some (.slice x5 cz.len d5) := Lib.cell_of_heap hrw 7; have hlt1 : w.heap.size < w1.heap.size := Nat.lt_of_lt_of_le HLT.out hb1.size; have HBW1 := Lib.hid (thru HB0.out hb1); clear hrw hb1)
      | (go_at_call 37; refine (HWI.out _).mono ?_; rintro e w' ⟨rfl, rfl⟩)
      | (go_at_call 45; refine (HWD.out _ (thru HBW1.out (bel2 _ _ _))).mono ?_; rintro e w2 ⟨rfl, hb2⟩; have hc2 := (clo_mk _ _).below hb2; have p2 := hc2.2; have qq : w2.cell? ⟨w.heap.size, 7, none⟩ = some (.slice x5 cz.len d5) := cell_below (thru (bel2 _ _ _) hb2) q7; have HB2 := Lib.hid (thru HBW1.out (thru (bel2 _ _ _) hb2)); have HC2 := Lib.hid hc2; clear hc2))
      go_ret
      exact ⟨rfl, HB2.out⟩
    · have hans : kindB 10 nm g az ws ks bs (rt ks (d + 1)) (rt cz (d + 1)) = rt cz (d + 1) := by
        unfold kindB
        rw [hf]
        simp [hq]
      rw [hans]
      clear hans hq hf
      go_enter Try.func30, Try.ntmps30
      go_wp2_with (first
      | (go_at_call 35; refine (HCN.out _).mono ?_; rintro e w' ⟨rfl, rfl⟩)
      | (go_at_call 36; refine (HOWN.out).mono ?_; rintro e w1 ⟨rfl, hb1⟩; have hrw := (hb1.block _ HLT.out).trans HROW.out; have q0 : w1.cell? ⟨w.heap.size, 0, none⟩ = some (.int .i64 10) := Lib.cell_of_heap hrw 0; have q1 : w1.cell? ⟨w.heap.size, 1, none⟩ = some (.string nm) := Lib.cell_of_heap hrw 1; have q2 : w1.cell? ⟨w.heap.size, 2, none⟩ = some (.bool g) := Lib.cell_of_heap hrw 2; have q3 : w1.cell? ⟨w.heap.size, 3, none⟩ = some (.slice x1 az.length d1) := Lib.cell_of_heap hrw 3; have q4 : w1.cell? ⟨w.heap.size, 4, none⟩ = some (.slice x2 ws.length d2) := Lib.cell_of_heap hrw 4; have q5 : w1.cell? ⟨w.heap.size, 5, none⟩ = some (.slice x3 ks.len d3) := Lib.cell_of_heap hrw 5; have q6 : w1.cell? ⟨w.heap.size, 6, none⟩ = some (.slice x4 bs.length d4) := Lib.cell_of_heap hrw 6; have q7 : w1.cell? ⟨w.heap.size, 7, none⟩ = some (.slice x5 cz.len d5) := Lib.cell_of_heap hrw 7; have hlt1 : w.heap.size < w1.heap.size := Nat.lt_of_lt_of_le HLT.out hb1.size; have HBW1 := Lib.hid (thru HB0.out hb1); clear hrw hb1)
      | (go_at_call 37; refine (HWI.out _).mono ?_; rintro e w' ⟨rfl, rfl⟩)
      | (go_at_call 45; refine (HWD.out _ (thru HBW1.out (bel2 _ _ _))).mono ?_; rintro e w2 ⟨rfl, hb2⟩; have hc2 := (clo_mk _ _).below hb2; have p2 := hc2.2; have qq : w2.cell? ⟨w.heap.size, 7, none⟩ = some (.slice x5 cz.len d5) := cell_below (thru (bel2 _ _ _) hb2) q7; have HB2 := Lib.hid (thru HBW1.out (thru (bel2 _ _ _) hb2)); have HC2 := Lib.hid hc2; clear hc2)
      | (go_at_call 46; refine (HCS.out _ _ _ HB2.out HC2.out).mono ?_; rintro e w3 ⟨rfl, hb3⟩))
      go_ret
      exact ⟨rfl, thru HB2.out (by assumption)⟩
  · have hq1 : ((ws.length : Int) == 1) = false := by rw [beq_eq_false_iff_ne]; omega
    have hans : kindB 10 nm g az ws ks bs (rt ks (d + 1)) (rt cz (d + 1)) = false := by unfold kindB; simp [hq]
    rw [hans]
    clear hans hq hWD
    go_enter Try.func30, Try.ntmps30
    go_wp2_with (first
      | (go_at_call 35; refine (HCN.out _).mono ?_; rintro e w' ⟨rfl, rfl⟩)
      | (go_at_call 36; refine (HOWN.out).mono ?_; rintro e w1 ⟨rfl, hb1⟩; have hrw := (hb1.block _ HLT.out).trans HROW.out; have q0 : w1.cell? ⟨w.heap.size, 0, none⟩ = some (.int .i64 10) := Lib.cell_of_heap hrw 0; have q1 : w1.cell? ⟨w.heap.size, 1, none⟩ = some (.string nm) := Lib.cell_of_heap hrw 1; have q2 : w1.cell? ⟨w.heap.size, 2, none⟩ = some (.bool g) := Lib.cell_of_heap hrw 2; have q3 : w1.cell? ⟨w.heap.size, 3, none⟩ = some (.slice x1 az.length d1) := Lib.cell_of_heap hrw 3; have q4 : w1.cell? ⟨w.heap.size, 4, none⟩ = some (.slice x2 ws.length d2) := Lib.cell_of_heap hrw 4; have q5 : w1.cell? ⟨w.heap.size, 5, none⟩ = some (.slice x3 ks.len d3) := Lib.cell_of_heap hrw 5; have q6 : w1.cell? ⟨w.heap.size, 6, none⟩ = some (.slice x4 bs.length d4) := Lib.cell_of_heap hrw 6; have q7 : w1.cell? ⟨w.heap.size, 7, none⟩ = some (.slice x5 cz.len d5) := Lib.cell_of_heap hrw 7; have hlt1 : w.heap.size < w1.heap.size := Nat.lt_of_lt_of_le HLT.out hb1.size; have HBW1 := Lib.hid (thru HB0.out hb1); clear hrw hb1)
      | (go_at_call 37; refine (HWI.out _).mono ?_; rintro e w' ⟨rfl, rfl⟩))
    go_ret
    exact ⟨rfl, (thru HBW1.out (bel2 _ _ _))⟩

set_option maxHeartbeats 1600000 in
set_option maxRecDepth 100000 in
theorem right_13 (n : Nat) (hR : RightAt n) (nm : ByteArray) (g : Bool) (az : List (ByteArray × PL)) (ws : List PL) (ks : NL) (bs : List Bool) (cz : NL) (x1 : Option Addr) (d1 : Nat) (x2 : Option Addr) (d2 : Nat) (x3 : Option Addr) (d3 : Nat) (x4 : Option Addr) (d4 : Nat) (x5 : Option Addr) (d5 : Nat) (d : Nat) (m : Int) (w : World) (hks : ks.size ≤ n) (hcs : cz.size ≤ n) (hd : d ≤ 201) (h : Holds w nm az ws ks bs cz x1 d1 x2 d2 x3 d3 x4 d4 x5 d5) (hok : ∀ l ∈ ws, wOK l) (hfk : fitN ks) (hfc : fitN cz) (hm : w.cell? ⟨0, 0, none⟩ = some (.int .i64 m)) (hd2 : d ≤ 200) (ho : ownB 13 nm g az ws ks bs cz = true) :
    Calls Try.prog 30 #[.agg (nodeV 13 nm g x1 az.length d1 x2 ws.length d2 x3 ks.len d3 x4 bs.length d4 x5 cz.len d5), .int .i64 d] w fun e w' => e = .returned (.bool (nodeR 13 nm g az ws ks bs cz d)) ∧ Below w.heap.size w w' := by
  have hkind : nodeR 13 nm g az ws ks bs cz d = kindB 13 nm g az ws ks bs (rt ks (d)) (rt cz (d)) := by
    unfold nodeR
    rw [show deepB 13 d = false from by unfold deepB; rw [decide_eq_false (by omega)]; simp, ho]
    rfl
  have hgt : ((200 : Int) < (d : Int)) = False := by rw [eq_iff_iff, iff_false]; omega
  have hrow : (w.alloc (.cells #[.int .i64 13, .string nm, .bool g, .slice x1 az.length d1, .slice x2 ws.length d2, .slice x3 ks.len d3, .slice x4 bs.length d4, .slice x5 cz.len d5] 28)).heap[w.heap.size]? = some (.cells #[.int .i64 13, .string nm, .bool g, .slice x1 az.length d1, .slice x2 ws.length d2, .slice x3 ks.len d3, .slice x4 bs.length d4, .slice x5 cz.len d5] 28 (0, 0)) := heap_new' _ _
  have hlt0 : w.heap.size < (w.alloc (.cells #[.int .i64 13, .string nm, .bool g, .slice x1 az.length d1, .slice x2 ws.length d2, .slice x3 ks.len d3, .slice x4 bs.length d4, .slice x5 cz.len d5] 28)).heap.size := by simp only [World.size_alloc]; omega
  have hOWN := own_any 13 nm g az ws ks bs cz x1 d1 x2 d2 x3 d3 x4 d4 x5 d5 (w.alloc (.cells #[.int .i64 13, .string nm, .bool g, .slice x1 az.length d1, .slice x2 ws.length d2, .slice x3 ks.len d3, .slice x4 bs.length d4, .slice x5 cz.len d5] 28)) (h.below (bel1 w _))
  unfold nodeV at hOWN
  rw [ho] at hOWN
  have hCN := fun w => counts_any 13 w
  rw [show countsB 13 = true from rfl] at hCN
  have HROW := Lib.hid hrow; have HLT := Lib.hid hlt0; have HB0 := Lib.hid (bel1 w (.cells #[.int .i64 13, .string nm, .bool g, .slice x1 az.length d1, .slice x2 ws.length d2, .slice x3 ks.len d3, .slice x4 bs.length d4, .slice x5 cz.len d5] 28)); have HOWN := Lib.hid hOWN; have HCN := Lib.hid hCN
  clear hrow hlt0 hOWN hCN
  have hWI := fun w => within_any 13 d (by omega) w
  rw [show withinD 13 d = d from rfl] at hWI
  have HWI := Lib.hid hWI
  clear hWI
  have hALL := fun W pb (hb : Below w.heap.size w W) hp => all_compound n hR ks hks h.okk hfk (d) pb (by omega) x3 d3 m W (h.hks.below hb) (cell_below hb hm) hp
  have hNM := fun W => name_any nm W (by have := h.hnm; unfold R at this; omega)
  have hRS := fun W => reserved_any nm W
  rw [hkind]
  have hle3 := h.hks.le
  have HALL := Lib.hid hALL
  clear hALL
  clear hkind h hok hfk hfc hm hR ho
  unfold nodeV
  by_cases hq : ks.len = 1
  · have hq1 : ((ks.len : Int) == 1) = true := by rw [hq]; rfl
    cases hf : nameL nm.data.toList
    all_goals
      rw [hf] at hNM
      have HNM := Lib.hid hNM
      clear hNM
    · have hans : kindB 13 nm g az ws ks bs (rt ks (d)) (rt cz (d)) = false := by unfold kindB; simp [hq, hf]
      rw [hans]
      clear hans hq hf hRS
      go_enter Try.func30, Try.ntmps30
      go_wp2_with (first
      | (go_at_call 35; refine (HCN.out _).mono ?_; rintro e w' ⟨rfl, rfl⟩)
      | (go_at_call 36; refine (HOWN.out).mono ?_; rintro e w1 ⟨rfl, hb1⟩; have hrw := (hb1.block _ HLT.out).trans HROW.out; have q0 : w1.cell? ⟨w.heap.size, 0, none⟩ = some (.int .i64 13) := Lib.cell_of_heap hrw 0; have q1 : w1.cell? ⟨w.heap.size, 1, none⟩ = some (.string nm) := Lib.cell_of_heap hrw 1; have q2 : w1.cell? ⟨w.heap.size, 2, none⟩ = some (.bool g) := Lib.cell_of_heap hrw 2; have q3 : w1.cell? ⟨w.heap.size, 3, none⟩ = some (.slice x1 az.length d1) := Lib.cell_of_heap hrw 3; have q4 : w1.cell? ⟨w.heap.size, 4, none⟩ = some (.slice x2 ws.length d2) := Lib.cell_of_heap hrw 4; have q5 : w1.cell? ⟨w.heap.size, 5, none⟩ = some (.slice x3 ks.len d3) := Lib.cell_of_heap hrw 5; have q6 : w1.cell? ⟨w.heap.size, 6, none⟩ = some (.slice x4 bs.length d4) := Lib.cell_of_heap hrw 6; have q7 : w1.cell? ⟨w.heap.size, 7, none⟩ = some (.slice x5 cz.len d5) := Lib.cell_of_heap hrw 7; have hlt1 : w.heap.size < w1.heap.size := Nat.lt_of_lt_of_le HLT.out hb1.size; have HBW1 := Lib.hid (thru HB0.out hb1); clear hrw hb1)
      | (go_at_call 37; refine (HWI.out _).mono ?_; rintro e w' ⟨rfl, rfl⟩)
      | (go_at_call 48; refine (HNM.out _).mono ?_; rintro e w' ⟨rfl, rfl⟩))
      go_ret
      exact ⟨rfl, (thru HBW1.out (bel2 _ _ _))⟩
    · cases hv : reservedL nm.data.toList
      all_goals
        rw [hv] at hRS
        have HRS := Lib.hid hRS
        clear hRS
      · have hans : kindB 13 nm g az ws ks bs (rt ks (d)) (rt cz (d)) = (allS compoundS ks && rt ks (d)) := by unfold kindB; simp [hq, hf, hv]
        rw [hans]
        clear hans hq hf hv
        go_enter Try.func30, Try.ntmps30
        go_wp2_with (first
      | (go_at_call 35; refine (HCN.out _).mono ?_; rintro e w' ⟨rfl, rfl⟩)
      | (go_at_call 36; refine (HOWN.out).mono ?_; rintro e w1 ⟨rfl, hb1⟩; have hrw := (hb1.block _ HLT.out).trans HROW.out; have q0 : w1.cell? ⟨w.heap.size, 0, none⟩ = some (.int .i64 13) := Lib.cell_of_heap hrw 0; have q1 : w1.cell? ⟨w.heap.size, 1, none⟩ = some (.string nm) := Lib.cell_of_heap hrw 1; have q2 : w1.cell? ⟨w.heap.size, 2, none⟩ = some (.bool g) := Lib.cell_of_heap hrw 2; have q3 : w1.cell? ⟨w.heap.size, 3, none⟩ = some (.slice x1 az.length d1) := Lib.cell_of_heap hrw 3; have q4 : w1.cell? ⟨w.heap.size, 4, none⟩ = some (.slice x2 ws.length d2) := Lib.cell_of_heap hrw 4; have q5 : w1.cell? ⟨w.heap.size, 5, none⟩ = some (.slice x3 ks.len d3) := Lib.cell_of_heap hrw 5; have q6 : w1.cell? ⟨w.heap.size, 6, none⟩ = some (.slice x4 bs.length d4) := Lib.cell_of_heap hrw 6; have q7 : w1.cell? ⟨w.heap.size, 7, none⟩ = some (.slice x5 cz.len d5) := Lib.cell_of_heap hrw 7; have hlt1 : w.heap.size < w1.heap.size := Nat.lt_of_lt_of_le HLT.out hb1.size; have HBW1 := Lib.hid (thru HB0.out hb1); clear hrw hb1)
      | (go_at_call 37; refine (HWI.out _).mono ?_; rintro e w' ⟨rfl, rfl⟩)
      | (go_at_call 48; refine (HNM.out _).mono ?_; rintro e w' ⟨rfl, rfl⟩)
      | (go_at_call 49; refine (HRS.out _).mono ?_; rintro e w' ⟨rfl, rfl⟩)
      | (go_at_call 38; refine (HALL.out _ _ (thru HBW1.out (bel2 _ _ _)) (clo_mk _ _).1).mono ?_; rintro e w2 ⟨rfl, hb2⟩))
        go_ret
        exact ⟨rfl, thru (thru HBW1.out (bel2 _ _ _)) (by assumption)⟩
      · have hans : kindB 13 nm g az ws ks bs (rt ks (d)) (rt cz (d)) = false := by unfold kindB; simp [hq, hf, hv]
        rw [hans]
        clear hans hq hf hv
        go_enter Try.func30, Try.ntmps30
        go_wp2_with (first
      | (go_at_call 35; refine (HCN.out _).mono ?_; rintro e w' ⟨rfl, rfl⟩)
      | (go_at_call 36; refine (HOWN.out).mono ?_; rintro e w1 ⟨rfl, hb1⟩; have hrw := (hb1.block _ HLT.out).trans HROW.out; have q0 : w1.cell? ⟨w.heap.size, 0, none⟩ = some (.int .i64 13) := Lib.cell_of_heap hrw 0; have q1 : w1.cell? ⟨w.heap.size, 1, none⟩ = some (.string nm) := Lib.cell_of_heap hrw 1; have q2 : w1.cell? ⟨w.heap.size, 2, none⟩ = some (.bool g) := Lib.cell_of_heap hrw 2; have q3 : w1.cell? ⟨w.heap.size, 3, none⟩ = some (.slice x1 az.length d1) := Lib.cell_of_heap hrw 3; have q4 : w1.cell? ⟨w.heap.size, 4, none⟩ = some (.slice x2 ws.length d2) := Lib.cell_of_heap hrw 4; have q5 : w1.cell? ⟨w.heap.size, 5, none⟩ = some (.slice x3 ks.len d3) := Lib.cell_of_heap hrw 5; have q6 : w1.cell? ⟨w.heap.size, 6, none⟩ = some (.slice x4 bs.length d4) := Lib.cell_of_heap hrw 6; have q7 : w1.cell? ⟨w.heap.size, 7, none⟩ = some (.slice x5 cz.len d5) := Lib.cell_of_heap hrw 7; have hlt1 : w.heap.size < w1.heap.size := Nat.lt_of_lt_of_le HLT.out hb1.size; have HBW1 := Lib.hid (thru HB0.out hb1); clear hrw hb1)
      | (go_at_call 37; refine (HWI.out _).mono ?_; rintro e w' ⟨rfl, rfl⟩)
      | (go_at_call 48; refine (HNM.out _).mono ?_; rintro e w' ⟨rfl, rfl⟩)
      | (go_at_call 49; refine (HRS.out _).mono ?_; rintro e w' ⟨rfl, rfl⟩))
        go_ret
        exact ⟨rfl, (thru HBW1.out (bel2 _ _ _))⟩
  · have hq1 : ((ks.len : Int) == 1) = false := by rw [beq_eq_false_iff_ne]; omega
    have hans : kindB 13 nm g az ws ks bs (rt ks (d)) (rt cz (d)) = false := by unfold kindB; simp [hq]
    rw [hans]
    clear hans hq hNM hRS
    go_enter Try.func30, Try.ntmps30
    go_wp2_with (first
      | (go_at_call 35; refine (HCN.out _).mono ?_; rintro e w' ⟨rfl, rfl⟩)
      | (go_at_call 36; refine (HOWN.out).mono ?_; rintro e w1 ⟨rfl, hb1⟩; have hrw := (hb1.block _ HLT.out).trans HROW.out; have q0 : w1.cell? ⟨w.heap.size, 0, none⟩ = some (.int .i64 13) := Lib.cell_of_heap hrw 0; have q1 : w1.cell? ⟨w.heap.size, 1, none⟩ = some (.string nm) := Lib.cell_of_heap hrw 1; have q2 : w1.cell? ⟨w.heap.size, 2, none⟩ = some (.bool g) := Lib.cell_of_heap hrw 2; have q3 : w1.cell? ⟨w.heap.size, 3, none⟩ = some (.slice x1 az.length d1) := Lib.cell_of_heap hrw 3; have q4 : w1.cell? ⟨w.heap.size, 4, none⟩ = some (.slice x2 ws.length d2) := Lib.cell_of_heap hrw 4; have q5 : w1.cell? ⟨w.heap.size, 5, none⟩ = some (.slice x3 ks.len d3) := Lib.cell_of_heap hrw 5; have q6 : w1.cell? ⟨w.heap.size, 6, none⟩ = some (.slice x4 bs.length d4) := Lib.cell_of_heap hrw 6; have q7 : w1.cell? ⟨w.heap.size, 7, none⟩ = some (.slice x5 cz.len d5) := Lib.cell_of_heap hrw 7; have hlt1 : w.heap.size < w1.heap.size := Nat.lt_of_lt_of_le HLT.out hb1.size; have HBW1 := Lib.hid (thru HB0.out hb1); clear hrw hb1)
      | (go_at_call 37; refine (HWI.out _).mono ?_; rintro e w' ⟨rfl, rfl⟩))
    go_ret
    exact ⟨rfl, (thru HBW1.out (bel2 _ _ _))⟩

set_option maxHeartbeats 1600000 in
set_option maxRecDepth 100000 in
theorem right_no (n : Nat) (hR : RightAt n) (k : Int) (nm : ByteArray) (g : Bool) (az : List (ByteArray × PL)) (ws : List PL) (ks : NL) (bs : List Bool) (cz : NL) (x1 : Option Addr) (d1 : Nat) (x2 : Option Addr) (d2 : Nat) (x3 : Option Addr) (d3 : Nat) (x4 : Option Addr) (d4 : Nat) (x5 : Option Addr) (d5 : Nat) (d : Nat) (m : Int) (w : World) (hks : ks.size ≤ n) (hcs : cz.size ≤ n) (hd : d ≤ 201) (h : Holds w nm az ws ks bs cz x1 d1 x2 d2 x3 d3 x4 d4 x5 d5) (hok : ∀ l ∈ ws, wOK l) (hfk : fitN ks) (hfc : fitN cz) (hm : w.cell? ⟨0, 0, none⟩ = some (.int .i64 m)) (hc : countsB k = false) (g1 : (k == 1) = false) (g2 : (k == 2) = false) (g3 : (k == 3) = false) (g4 : (k == 4) = false) (g5 : (k == 5) = false) (g6 : (k == 6) = false) (g7 : (k == 7) = false) (g8 : (k == 8) = false) (g9 : (k == 9) = false) (g10 : (k == 10) = false) (g11 : (k == 11) = false) (g12 : (k == 12) = false) (g13 : (k == 13) = false) (ho : ownB k nm g az ws ks bs cz = true) :
    Calls Try.prog 30 #[.agg (nodeV k nm g x1 az.length d1 x2 ws.length d2 x3 ks.len d3 x4 bs.length d4 x5 cz.len d5), .int .i64 d] w fun e w' => e = .returned (.bool (nodeR k nm g az ws ks bs cz d)) ∧ Below w.heap.size w w' := by
  have hans : nodeR k nm g az ws ks bs cz d = false := by
    unfold nodeR kindB
    simp [g1, g2, g3, g4, g5, g6, g7, g8, g9, g10, g11, g12, g13]
  have HANS := Lib.hid hans
  clear hans
  have hle3 := h.hks.le
  have hrow : (w.alloc (.cells #[.int .i64 k, .string nm, .bool g, .slice x1 az.length d1, .slice x2 ws.length d2, .slice x3 ks.len d3, .slice x4 bs.length d4, .slice x5 cz.len d5] 28)).heap[w.heap.size]? = some (.cells #[.int .i64 k, .string nm, .bool g, .slice x1 az.length d1, .slice x2 ws.length d2, .slice x3 ks.len d3, .slice x4 bs.length d4, .slice x5 cz.len d5] 28 (0, 0)) := heap_new' _ _
  have hlt0 : w.heap.size < (w.alloc (.cells #[.int .i64 k, .string nm, .bool g, .slice x1 az.length d1, .slice x2 ws.length d2, .slice x3 ks.len d3, .slice x4 bs.length d4, .slice x5 cz.len d5] 28)).heap.size := by simp only [World.size_alloc]; omega
  have hOWN := own_any k nm g az ws ks bs cz x1 d1 x2 d2 x3 d3 x4 d4 x5 d5 (w.alloc (.cells #[.int .i64 k, .string nm, .bool g, .slice x1 az.length d1, .slice x2 ws.length d2, .slice x3 ks.len d3, .slice x4 bs.length d4, .slice x5 cz.len d5] 28)) (h.below (bel1 w _))
  unfold nodeV at hOWN
  rw [ho] at hOWN
  have hCN := fun w => counts_any k w
  rw [hc] at hCN
  have HROW := Lib.hid hrow; have HLT := Lib.hid hlt0; have HB0 := Lib.hid (bel1 w (.cells #[.int .i64 k, .string nm, .bool g, .slice x1 az.length d1, .slice x2 ws.length d2, .slice x3 ks.len d3, .slice x4 bs.length d4, .slice x5 cz.len d5] 28)); have HOWN := Lib.hid hOWN; have HCN := Lib.hid hCN
  clear hrow hlt0 hOWN hCN
  have hWI := fun w => within_any k d (by omega) w
  rw [show withinD k d = d by unfold withinD; rw [hc]; rfl] at hWI
  have HWI := Lib.hid hWI
  clear hWI h hok hfk hfc hm hR hks hcs hc ho
  unfold nodeV
  go_enter Try.func30, Try.ntmps30
  go_wp2_with (first
      | (go_at_call 35; refine (HCN.out _).mono ?_; rintro e w' ⟨rfl, rfl⟩)
      | (go_at_call 36; refine (HOWN.out).mono ?_; rintro e w1 ⟨rfl, hb1⟩; have hrw := (hb1.block _ HLT.out).trans HROW.out; have q0 : w1.cell? ⟨w.heap.size, 0, none⟩ = some (.int .i64 k) := Lib.cell_of_heap hrw 0; have q1 : w1.cell? ⟨w.heap.size, 1, none⟩ = some (.string nm) := Lib.cell_of_heap hrw 1; have q2 : w1.cell? ⟨w.heap.size, 2, none⟩ = some (.bool g) := Lib.cell_of_heap hrw 2; have q3 : w1.cell? ⟨w.heap.size, 3, none⟩ = some (.slice x1 az.length d1) := Lib.cell_of_heap hrw 3; have q4 : w1.cell? ⟨w.heap.size, 4, none⟩ = some (.slice x2 ws.length d2) := Lib.cell_of_heap hrw 4; have q5 : w1.cell? ⟨w.heap.size, 5, none⟩ = some (.slice x3 ks.len d3) := Lib.cell_of_heap hrw 5; have q6 : w1.cell? ⟨w.heap.size, 6, none⟩ = some (.slice x4 bs.length d4) := Lib.cell_of_heap hrw 6; have q7 : w1.cell? ⟨w.heap.size, 7, none⟩ = some (.slice x5 cz.len d5) := Lib.cell_of_heap hrw 7; have hlt1 : w.heap.size < w1.heap.size := Nat.lt_of_lt_of_le HLT.out hb1.size; have HBW1 := Lib.hid (thru HB0.out hb1); clear hrw hb1)
      | (go_at_call 37; refine (HWI.out _).mono ?_; rintro e w' ⟨rfl, rfl⟩))
  go_ret
  exact ⟨ret_bool HANS.out.symm, (thru HBW1.out (bel2 _ _ _))⟩
end Tr
end Go.Proofs.Ytmpongcambbihaa
