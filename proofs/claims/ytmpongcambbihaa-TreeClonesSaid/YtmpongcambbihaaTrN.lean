/- rightAt for And and Or. -/
import Derived.Test.YtmpongcambbihaaTrM
import Derived.Test.YtmpongcambbihaaQTail
namespace Go.Proofs.Ytmpongcambbihaa
open Go.RowKit Go.Sort
namespace Tr
open Cls Pt

theorem two_nodes {ks : NL} (h : ks.len = 2) (hok : NL.okN ks true = true) : ∃ k0 nm0 g0 az0 ws0 ks0 bs0 cz0 k1 nm1 g1 az1 ws1 ks1 bs1 cz1, ks = .node k0 nm0 g0 az0 ws0 ks0 bs0 cz0 (.node k1 nm1 g1 az1 ws1 ks1 bs1 cz1 .nil) := by
  obtain ⟨k0, nm0, g0, az0, ws0, ks0, bs0, cz0, r, h0⟩ := NL.drop_node (n := 0) (l := ks) (by omega) hok
  simp only [NL.drop] at h0
  subst h0
  simp only [NL.okN, Bool.and_eq_true] at hok
  simp only [NL.len] at h
  obtain ⟨k1, nm1, g1, az1, ws1, ks1, bs1, cz1, r1, h1⟩ := NL.drop_node (n := 0) (l := r) (by omega) hok.2
  simp only [NL.drop] at h1
  subst h1
  simp only [NL.len] at h
  have : r1.len = 0 := by omega
  have hr : r1 = .nil := by
    cases r1 with
    | nil => rfl
    | node => simp [NL.len] at this
    | cse => simp [NL.len] at this
  subst hr
  exact ⟨_, _, _, _, _, _, _, _, _, _, _, _, _, _, _, _, rfl⟩
/-- The first of two alone; the second alone. -/
theorem lies_two {w : World} {a : Option Addr} {c : Nat} {k0 k1 : Int} {nm0 nm1 : ByteArray} {g0 g1 : Bool} {az0 az1 : List (ByteArray × PL)} {ws0 ws1 : List PL} {ks0 ks1 cz0 cz1 : NL} {bs0 bs1 : List Bool} (h : NLies w a c (.node k0 nm0 g0 az0 ws0 ks0 bs0 cz0 (.node k1 nm1 g1 az1 ws1 ks1 bs1 cz1 .nil))) :
    ∃ b o, a = some ⟨b, o, none⟩ ∧ NLies w (some ⟨b, o, none⟩) c (.node k0 nm0 g0 az0 ws0 ks0 bs0 cz0 .nil) ∧ NLies w (some ⟨b, o + 8, none⟩) (c - 1) (.node k1 nm1 g1 az1 ws1 ks1 bs1 cz1 .nil) := by
  obtain ⟨h1, h2, h3⟩ := h
  simp only [NL.len] at h1
  rcases h3 with h3 | ⟨b, o, ha, h3⟩
  · cases h3
  · obtain ⟨e0, e1, e2, e3, e4, e5, f0, f1, f2, f3, f4, f5, _⟩ := h3
    refine ⟨b, o, ha, ⟨by simp only [NL.len]; omega, by simp only [NL.len]; unfold R; omega, .inr ⟨b, o, rfl, e0, e1, e2, e3, e4, e5, trivial⟩⟩, ⟨by simp only [NL.len]; omega, by simp only [NL.len]; unfold R; omega, .inr ⟨b, o + 8, rfl, f0, f1, f2, f3, f4, f5, trivial⟩⟩⟩

set_option maxHeartbeats 1600000 in
set_option maxRecDepth 100000 in
theorem right_2 (n : Nat) (hR : RightAt n) (nm : ByteArray) (g : Bool) (az : List (ByteArray × PL)) (ws : List PL) (ks : NL) (bs : List Bool) (cz : NL) (x1 : Option Addr) (d1 : Nat) (x2 : Option Addr) (d2 : Nat) (x3 : Option Addr) (d3 : Nat) (x4 : Option Addr) (d4 : Nat) (x5 : Option Addr) (d5 : Nat) (d : Nat) (m : Int) (w : World) (hks : ks.size ≤ n) (hcs : cz.size ≤ n) (hd : d ≤ 201) (h : Holds w nm az ws ks bs cz x1 d1 x2 d2 x3 d3 x4 d4 x5 d5) (hok : ∀ l ∈ ws, wOK l) (hfk : fitN ks) (hfc : fitN cz) (hm : w.cell? ⟨0, 0, none⟩ = some (.int .i64 m)) (ho : ownB 2 nm g az ws ks bs cz = true) :
    Calls Try.prog 30 #[.agg (nodeV 2 nm g x1 az.length d1 x2 ws.length d2 x3 ks.len d3 x4 bs.length d4 x5 cz.len d5), .int .i64 d] w fun e w' => e = .returned (.bool (nodeR 2 nm g az ws ks bs cz d)) ∧ Below w.heap.size w w' := by
  have hkind : nodeR 2 nm g az ws ks bs cz d = kindB 2 nm g az ws ks bs (rt ks (d)) (rt cz (d)) := by
    unfold nodeR
    rw [show deepB 2 d = false from rfl, ho]
    rfl
  have hrow : (w.alloc (.cells #[.int .i64 2, .string nm, .bool g, .slice x1 az.length d1, .slice x2 ws.length d2, .slice x3 ks.len d3, .slice x4 bs.length d4, .slice x5 cz.len d5] 28)).heap[w.heap.size]? = some (.cells #[.int .i64 2, .string nm, .bool g, .slice x1 az.length d1, .slice x2 ws.length d2, .slice x3 ks.len d3, .slice x4 bs.length d4, .slice x5 cz.len d5] 28 (0, 0)) := heap_new' _ _
  have hlt0 : w.heap.size < (w.alloc (.cells #[.int .i64 2, .string nm, .bool g, .slice x1 az.length d1, .slice x2 ws.length d2, .slice x3 ks.len d3, .slice x4 bs.length d4, .slice x5 cz.len d5] 28)).heap.size := by simp only [World.size_alloc]; omega
  have hOWN := own_any 2 nm g az ws ks bs cz x1 d1 x2 d2 x3 d3 x4 d4 x5 d5 (w.alloc (.cells #[.int .i64 2, .string nm, .bool g, .slice x1 az.length d1, .slice x2 ws.length d2, .slice x3 ks.len d3, .slice x4 bs.length d4, .slice x5 cz.len d5] 28)) (h.below (bel1 w _))
  unfold nodeV at hOWN
  rw [ho] at hOWN
  have hCN := fun w => counts_any 2 w
  rw [show countsB 2 = false from rfl] at hCN
  have HROW := Lib.hid hrow; have HLT := Lib.hid hlt0; have HB0 := Lib.hid (bel1 w (.cells #[.int .i64 2, .string nm, .bool g, .slice x1 az.length d1, .slice x2 ws.length d2, .slice x3 ks.len d3, .slice x4 bs.length d4, .slice x5 cz.len d5] 28)); have HOWN := Lib.hid hOWN; have HCN := Lib.hid hCN
  clear hrow hlt0 hOWN hCN
  have hWI := fun w => within_any 2 d (by omega) w
  rw [show withinD 2 d = d from rfl] at hWI
  have HWI := Lib.hid hWI
  clear hWI
  rw [hkind]
  have hle3 := h.hks.le
  unfold nodeV
  by_cases hq : ks.len = 2
  · obtain ⟨k0, nm0, g0, az0, ws0, ks0, bs0, cz0, k1, nm1, g1, az1, ws1, ks1, bs1, cz1, rfl⟩ := two_nodes hq h.okk
    obtain ⟨b, o, rfl, hN0, hN1⟩ := lies_two h.hks
    have hcap := h.hks.1
    have hlen2 : NL.len (.node k0 nm0 g0 az0 ws0 ks0 bs0 cz0 (.node k1 nm1 g1 az1 ws1 ks1 bs1 cz1 .nil)) = 2 := rfl
    have hok0 : NL.okN (.node k0 nm0 g0 az0 ws0 ks0 bs0 cz0 .nil) true = true := by
      have := h.okk
      simp only [NL.okN, Bool.and_eq_true] at this ⊢
      exact ⟨⟨⟨this.1.1.1, this.1.1.2⟩, this.1.2⟩, trivial⟩
    have hok1 : NL.okN (.node k1 nm1 g1 az1 ws1 ks1 bs1 cz1 .nil) true = true := by
      have := h.okk
      simp only [NL.okN, Bool.and_eq_true] at this ⊢
      exact ⟨⟨⟨this.2.1.1.1, this.2.1.1.2⟩, this.2.1.2⟩, trivial⟩
    have hsz0 : NL.size (.node k0 nm0 g0 az0 ws0 ks0 bs0 cz0 .nil) ≤ n := by simp only [NL.size] at hks ⊢; omega
    have hsz1 : NL.size (.node k1 nm1 g1 az1 ws1 ks1 bs1 cz1 .nil) ≤ n := by simp only [NL.size] at hks ⊢; omega
    have hf0 : fitN (.node k0 nm0 g0 az0 ws0 ks0 bs0 cz0 .nil) := ⟨hfk.1, hfk.2.1, hfk.2.2.1, trivial⟩
    have hf1 : fitN (.node k1 nm1 g1 az1 ws1 ks1 bs1 cz1 .nil) := ⟨hfk.2.2.2.1, hfk.2.2.2.2.1, hfk.2.2.2.2.2.1, trivial⟩
    have hI := fun W pb (hb : Below w.heap.size w W) hp => all_item n hR (.node k0 nm0 g0 az0 ws0 ks0 bs0 cz0 .nil) hsz0 hok0 hf0 d pb hd (some ⟨b, o, none⟩) d3 m W (hN0.below hb) (cell_below hb hm) hp
    have hU := fun W pb (hb : Below w.heap.size w W) hp => all_unit n hR (.node k1 nm1 g1 az1 ws1 ks1 bs1 cz1 .nil) hsz1 hok1 hf1 d pb hd (some ⟨b, o + 8, none⟩) (d3 - 1) m W (hN1.below hb) (cell_below hb hm) hp
    rw [show NL.len (.node k0 nm0 g0 az0 ws0 ks0 bs0 cz0 .nil) = 1 from rfl] at hI
    rw [show NL.len (.node k1 nm1 g1 az1 ws1 ks1 bs1 cz1 .nil) = 1 from rfl] at hU
    have hans : kindB 2 nm g az ws (.node k0 nm0 g0 az0 ws0 ks0 bs0 cz0 (.node k1 nm1 g1 az1 ws1 ks1 bs1 cz1 .nil)) bs (rt (.node k0 nm0 g0 az0 ws0 ks0 bs0 cz0 (.node k1 nm1 g1 az1 ws1 ks1 bs1 cz1 .nil)) (d)) (rt cz (d)) = ((allS itemS (.node k0 nm0 g0 az0 ws0 ks0 bs0 cz0 .nil) && rt (.node k0 nm0 g0 az0 ws0 ks0 bs0 cz0 .nil) d) && (allS unitS (.node k1 nm1 g1 az1 ws1 ks1 bs1 cz1 .nil) && rt (.node k1 nm1 g1 az1 ws1 ks1 bs1 cz1 .nil) d)) := by
      have e1 : ∀ RK RC, kindB 2 nm g az ws (.node k0 nm0 g0 az0 ws0 ks0 bs0 cz0 (.node k1 nm1 g1 az1 ws1 ks1 bs1 cz1 .nil)) bs RK RC = ((itemB k0 && unitB k1) && RK) := fun RK RC => by simp [kindB, NL.len]
      have e2 : rt (.node k0 nm0 g0 az0 ws0 ks0 bs0 cz0 (.node k1 nm1 g1 az1 ws1 ks1 bs1 cz1 .nil)) d = (nodeR k0 nm0 g0 az0 ws0 ks0 bs0 cz0 d && (nodeR k1 nm1 g1 az1 ws1 ks1 bs1 cz1 d && true)) := rfl
      rw [e1, e2]
      show _ = (((itemB k0 && true) && (nodeR k0 nm0 g0 az0 ws0 ks0 bs0 cz0 d && true)) && ((unitB k1 && true) && (nodeR k1 nm1 g1 az1 ws1 ks1 bs1 cz1 d && true)))
      generalize nodeR k0 nm0 g0 az0 ws0 ks0 bs0 cz0 d = r0
      generalize nodeR k1 nm1 g1 az1 ws1 ks1 bs1 cz1 d = r1
      cases itemB k0 <;> cases unitB k1 <;> cases r0 <;> cases r1 <;> rfl
    rw [hans]
    rw [hlen2] at hcap hle3 HROW HOWN HLT HB0 ⊢
    generalize (allS itemS (.node k0 nm0 g0 az0 ws0 ks0 bs0 cz0 .nil) && rt (.node k0 nm0 g0 az0 ws0 ks0 bs0 cz0 .nil) d) = A0 at hI ⊢
    generalize (allS unitS (.node k1 nm1 g1 az1 ws1 ks1 bs1 cz1 .nil) && rt (.node k1 nm1 g1 az1 ws1 ks1 bs1 cz1 .nil) d) = A1 at hU ⊢
    have hcap1 : 1 ≤ d3 := by omega
    have hcapn : ¬ (d3 = 1) := by omega
    have hcapz : ¬ (d3 = 0) := by omega
    have hcapi : ((1 : Int) ≤ (d3 : Int)) = True := by rw [eq_iff_iff, iff_true]; omega
    have hcapi2 : ((2 : Int) ≤ (d3 : Int)) = True := by rw [eq_iff_iff, iff_true]; omega
    have hI2 := Lib.hid hI; have hU2 := Lib.hid hU
    clear hI hU hans hkind h hok hfk hfc hm hR ho hN0 hN1 hok0 hok1 hsz0 hsz1 hf0 hf1 hq hlen2 hks
    go_enter Try.func30, Try.ntmps30
    go_wp2_with (first
      | (go_at_call 35; refine (HCN.out _).mono ?_; rintro e w' ⟨rfl, rfl⟩)
      | (go_at_call 36; refine (HOWN.out).mono ?_; rintro e w1 ⟨rfl, hb1⟩; have hrw := (hb1.block _ HLT.out).trans HROW.out; have q0 : w1.cell? ⟨w.heap.size, 0, none⟩ = some (.int .i64 2) := Lib.cell_of_heap hrw 0; have q1 : w1.cell? ⟨w.heap.size, 1, none⟩ = some (.string nm) := Lib.cell_of_heap hrw 1; have q2 : w1.cell? ⟨w.heap.size, 2, none⟩ = some (.bool g) := Lib.cell_of_heap hrw 2; have q3 : w1.cell? ⟨w.heap.size, 3, none⟩ = some (.slice x1 az.length d1) := Lib.cell_of_heap hrw 3; have q4 : w1.cell? ⟨w.heap.size, 4, none⟩ = some (.slice x2 ws.length d2) := Lib.cell_of_heap hrw 4; have q5 : w1.cell? ⟨w.heap.size, 5, none⟩ = some (.slice (some ⟨b, o, none⟩) 2 d3) := Lib.cell_of_heap hrw 5; have q6 : w1.cell? ⟨w.heap.size, 6, none⟩ = some (.slice x4 bs.length d4) := Lib.cell_of_heap hrw 6; have q7 : w1.cell? ⟨w.heap.size, 7, none⟩ = some (.slice x5 cz.len d5) := Lib.cell_of_heap hrw 7; have hlt1 : w.heap.size < w1.heap.size := Nat.lt_of_lt_of_le HLT.out hb1.size; have HBW1 := Lib.hid (thru HB0.out hb1); clear hrw hb1)
      | (go_at_call 37; refine (HWI.out _).mono ?_; rintro e w' ⟨rfl, rfl⟩))
    have hclo := clo_mk w1 (d)
    have hb2 := thru HBW1.out (bel2 w1 (.cells #[.int .i64 d] 3) (.cells #[.func (.func 38) #[] #[.pointer (some ⟨w1.heap.size, 0, none⟩)]] 71))
    have k5 := cell_below (bel2 w1 (.cells #[.int .i64 d] 3) (.cells #[.func (.func 38) #[] #[.pointer (some ⟨w1.heap.size, 0, none⟩)]] 71)) q5
    generalize ((w1.alloc (.cells #[.int .i64 d] 3)).alloc (.cells #[.func (.func 38) #[] #[.pointer (some ⟨w1.heap.size, 0, none⟩)]] 71)) = W2 at hclo hb2 k5 ⊢
    have k6 := cell_regrown hclo.2
    have k7 := cell_regrown k5
    have hi := fun dd os => Calls.regrown_of (hI2.out (grow (redrawn W2 dd) os) w1.heap.size (thru hb2 (below_regrown W2 dd os)) (cell_regrown hclo.1 dd os))
    have hu := fun dd os => Calls.regrown_of (hU2.out (grow (redrawn W2 dd) os) w1.heap.size (thru hb2 (below_regrown W2 dd os)) (cell_regrown hclo.1 dd os))
    have HI := Lib.hid hi; have HU := Lib.hid hu
    clear hi hu
    have HBB2 := Lib.hid hb2
    clear hb2 hclo k5
    cases A0
    · refine Qu.region (by kernel_rfl) (by kernel_rfl) ?_
      repeat (first
        | (first | refine Qu.carry0 rfl (fun K hK => ?_) | refine Qu.carryG rfl rfl rfl (fun K hK => ?_)
           go_simp
           first
           | (refine hK _ ?_; clear hK K)
           | (apply Exists.intro; refine ⟨fun _ => ?_, hK _ ?_⟩; (go_at_call 38; exact HI.out _ _); clear hK K))
        | (refine Qu.passG rfl rfl rfl (fun K hK => ?_); go_simp; refine hK _ ?_; clear hK K))
      refine Qu.fin ?_
      rintro ⟨dq, osq⟩
      go_wp2_with fail
      go_ret
      exact ⟨rfl, thru HBB2.out (below_regrown W2 dq osq)⟩
    · cases A1
      all_goals
        refine Qu.region (by kernel_rfl) (by kernel_rfl) ?_
        repeat (first
          | (first | refine Qu.carry0 rfl (fun K hK => ?_) | refine Qu.carryG rfl rfl rfl (fun K hK => ?_)
             go_simp
             first
             | (refine hK _ ?_; clear hK K)
             | (apply Exists.intro; refine ⟨fun _ => ?_, hK _ ?_⟩; (first | (go_at_call_of 38 (Value.slice (some ⟨b, o, none⟩) 1 d3); exact HI.out _ _) | (go_at_call 38; exact HU.out _ _)); clear hK K))
          | (refine Qu.passG rfl rfl rfl (fun K hK => ?_); go_simp; refine hK _ ?_; clear hK K))
        refine Qu.fin ?_
        rintro ⟨dq, osq⟩
        go_wp2_with fail
        go_ret
        exact ⟨rfl, thru HBB2.out (below_regrown W2 dq osq)⟩
  · have hq1 : ((ks.len : Int) == 2) = false := by rw [beq_eq_false_iff_ne]; omega
    have hans : kindB 2 nm g az ws ks bs (rt ks (d)) (rt cz (d)) = false := by unfold kindB; simp [hq]
    rw [hans]
    clear hans hkind h hok hfk hfc hm hR ho hq
    go_enter Try.func30, Try.ntmps30
    go_wp2_with (first
      | (go_at_call 35; refine (HCN.out _).mono ?_; rintro e w' ⟨rfl, rfl⟩)
      | (go_at_call 36; refine (HOWN.out).mono ?_; rintro e w1 ⟨rfl, hb1⟩; have hrw := (hb1.block _ HLT.out).trans HROW.out; have q0 : w1.cell? ⟨w.heap.size, 0, none⟩ = some (.int .i64 2) := Lib.cell_of_heap hrw 0; have q1 : w1.cell? ⟨w.heap.size, 1, none⟩ = some (.string nm) := Lib.cell_of_heap hrw 1; have q2 : w1.cell? ⟨w.heap.size, 2, none⟩ = some (.bool g) := Lib.cell_of_heap hrw 2; have q3 : w1.cell? ⟨w.heap.size, 3, none⟩ = some (.slice x1 az.length d1) := Lib.cell_of_heap hrw 3; have q4 : w1.cell? ⟨w.heap.size, 4, none⟩ = some (.slice x2 ws.length d2) := Lib.cell_of_heap hrw 4; have q5 : w1.cell? ⟨w.heap.size, 5, none⟩ = some (.slice x3 ks.len d3) := Lib.cell_of_heap hrw 5; have q6 : w1.cell? ⟨w.heap.size, 6, none⟩ = some (.slice x4 bs.length d4) := Lib.cell_of_heap hrw 6; have q7 : w1.cell? ⟨w.heap.size, 7, none⟩ = some (.slice x5 cz.len d5) := Lib.cell_of_heap hrw 7; have hlt1 : w.heap.size < w1.heap.size := Nat.lt_of_lt_of_le HLT.out hb1.size; have HBW1 := Lib.hid (thru HB0.out hb1); clear hrw hb1)
      | (go_at_call 37; refine (HWI.out _).mono ?_; rintro e w' ⟨rfl, rfl⟩))
    have hclo := clo_mk w1 (d)
    have hb2 := thru HBW1.out (bel2 w1 (.cells #[.int .i64 d] 3) (.cells #[.func (.func 38) #[] #[.pointer (some ⟨w1.heap.size, 0, none⟩)]] 71))
    have k5 := cell_below (bel2 w1 (.cells #[.int .i64 d] 3) (.cells #[.func (.func 38) #[] #[.pointer (some ⟨w1.heap.size, 0, none⟩)]] 71)) q5
    generalize ((w1.alloc (.cells #[.int .i64 d] 3)).alloc (.cells #[.func (.func 38) #[] #[.pointer (some ⟨w1.heap.size, 0, none⟩)]] 71)) = W2 at hclo hb2 k5 ⊢
    have k6 := cell_regrown hclo.2
    have k7 := cell_regrown k5
    have HBB2 := Lib.hid hb2
    clear hb2 hclo k5
    refine Qu.region (by kernel_rfl) (by kernel_rfl) ?_
    repeat (first
      | (first | refine Qu.carry0 rfl (fun K hK => ?_) | refine Qu.carryG rfl rfl rfl (fun K hK => ?_)
         go_simp
         first
         | (refine hK _ ?_; clear hK K)
         | (apply Exists.intro; refine ⟨fun _ => ?_, hK _ ?_⟩; (fail); clear hK K))
      | (refine Qu.passG rfl rfl rfl (fun K hK => ?_); go_simp; refine hK _ ?_; clear hK K))
    refine Qu.fin ?_
    rintro ⟨dq, osq⟩
    go_wp2_with fail
    go_ret
    exact ⟨rfl, thru HBB2.out (below_regrown W2 dq osq)⟩

set_option maxHeartbeats 1600000 in
set_option maxRecDepth 100000 in
theorem right_3 (n : Nat) (hR : RightAt n) (nm : ByteArray) (g : Bool) (az : List (ByteArray × PL)) (ws : List PL) (ks : NL) (bs : List Bool) (cz : NL) (x1 : Option Addr) (d1 : Nat) (x2 : Option Addr) (d2 : Nat) (x3 : Option Addr) (d3 : Nat) (x4 : Option Addr) (d4 : Nat) (x5 : Option Addr) (d5 : Nat) (d : Nat) (m : Int) (w : World) (hks : ks.size ≤ n) (hcs : cz.size ≤ n) (hd : d ≤ 201) (h : Holds w nm az ws ks bs cz x1 d1 x2 d2 x3 d3 x4 d4 x5 d5) (hok : ∀ l ∈ ws, wOK l) (hfk : fitN ks) (hfc : fitN cz) (hm : w.cell? ⟨0, 0, none⟩ = some (.int .i64 m)) (ho : ownB 3 nm g az ws ks bs cz = true) :
    Calls Try.prog 30 #[.agg (nodeV 3 nm g x1 az.length d1 x2 ws.length d2 x3 ks.len d3 x4 bs.length d4 x5 cz.len d5), .int .i64 d] w fun e w' => e = .returned (.bool (nodeR 3 nm g az ws ks bs cz d)) ∧ Below w.heap.size w w' := by
  have hkind : nodeR 3 nm g az ws ks bs cz d = kindB 3 nm g az ws ks bs (rt ks (d)) (rt cz (d)) := by
    unfold nodeR
    rw [show deepB 3 d = false from rfl, ho]
    rfl
  have hrow : (w.alloc (.cells #[.int .i64 3, .string nm, .bool g, .slice x1 az.length d1, .slice x2 ws.length d2, .slice x3 ks.len d3, .slice x4 bs.length d4, .slice x5 cz.len d5] 28)).heap[w.heap.size]? = some (.cells #[.int .i64 3, .string nm, .bool g, .slice x1 az.length d1, .slice x2 ws.length d2, .slice x3 ks.len d3, .slice x4 bs.length d4, .slice x5 cz.len d5] 28 (0, 0)) := heap_new' _ _
  have hlt0 : w.heap.size < (w.alloc (.cells #[.int .i64 3, .string nm, .bool g, .slice x1 az.length d1, .slice x2 ws.length d2, .slice x3 ks.len d3, .slice x4 bs.length d4, .slice x5 cz.len d5] 28)).heap.size := by simp only [World.size_alloc]; omega
  have hOWN := own_any 3 nm g az ws ks bs cz x1 d1 x2 d2 x3 d3 x4 d4 x5 d5 (w.alloc (.cells #[.int .i64 3, .string nm, .bool g, .slice x1 az.length d1, .slice x2 ws.length d2, .slice x3 ks.len d3, .slice x4 bs.length d4, .slice x5 cz.len d5] 28)) (h.below (bel1 w _))
  unfold nodeV at hOWN
  rw [ho] at hOWN
  have hCN := fun w => counts_any 3 w
  rw [show countsB 3 = false from rfl] at hCN
  have HROW := Lib.hid hrow; have HLT := Lib.hid hlt0; have HB0 := Lib.hid (bel1 w (.cells #[.int .i64 3, .string nm, .bool g, .slice x1 az.length d1, .slice x2 ws.length d2, .slice x3 ks.len d3, .slice x4 bs.length d4, .slice x5 cz.len d5] 28)); have HOWN := Lib.hid hOWN; have HCN := Lib.hid hCN
  clear hrow hlt0 hOWN hCN
  have hWI := fun w => within_any 3 d (by omega) w
  rw [show withinD 3 d = d from rfl] at hWI
  have HWI := Lib.hid hWI
  clear hWI
  rw [hkind]
  have hle3 := h.hks.le
  unfold nodeV
  by_cases hq : ks.len = 2
  · obtain ⟨k0, nm0, g0, az0, ws0, ks0, bs0, cz0, k1, nm1, g1, az1, ws1, ks1, bs1, cz1, rfl⟩ := two_nodes hq h.okk
    obtain ⟨b, o, rfl, hN0, hN1⟩ := lies_two h.hks
    have hcap := h.hks.1
    have hlen2 : NL.len (.node k0 nm0 g0 az0 ws0 ks0 bs0 cz0 (.node k1 nm1 g1 az1 ws1 ks1 bs1 cz1 .nil)) = 2 := rfl
    have hok0 : NL.okN (.node k0 nm0 g0 az0 ws0 ks0 bs0 cz0 .nil) true = true := by
      have := h.okk
      simp only [NL.okN, Bool.and_eq_true] at this ⊢
      exact ⟨⟨⟨this.1.1.1, this.1.1.2⟩, this.1.2⟩, trivial⟩
    have hok1 : NL.okN (.node k1 nm1 g1 az1 ws1 ks1 bs1 cz1 .nil) true = true := by
      have := h.okk
      simp only [NL.okN, Bool.and_eq_true] at this ⊢
      exact ⟨⟨⟨this.2.1.1.1, this.2.1.1.2⟩, this.2.1.2⟩, trivial⟩
    have hsz0 : NL.size (.node k0 nm0 g0 az0 ws0 ks0 bs0 cz0 .nil) ≤ n := by simp only [NL.size] at hks ⊢; omega
    have hsz1 : NL.size (.node k1 nm1 g1 az1 ws1 ks1 bs1 cz1 .nil) ≤ n := by simp only [NL.size] at hks ⊢; omega
    have hf0 : fitN (.node k0 nm0 g0 az0 ws0 ks0 bs0 cz0 .nil) := ⟨hfk.1, hfk.2.1, hfk.2.2.1, trivial⟩
    have hf1 : fitN (.node k1 nm1 g1 az1 ws1 ks1 bs1 cz1 .nil) := ⟨hfk.2.2.2.1, hfk.2.2.2.2.1, hfk.2.2.2.2.2.1, trivial⟩
    have hI := fun W pb (hb : Below w.heap.size w W) hp => all_item n hR (.node k0 nm0 g0 az0 ws0 ks0 bs0 cz0 .nil) hsz0 hok0 hf0 d pb hd (some ⟨b, o, none⟩) d3 m W (hN0.below hb) (cell_below hb hm) hp
    have hU := fun W pb (hb : Below w.heap.size w W) hp => all_unit n hR (.node k1 nm1 g1 az1 ws1 ks1 bs1 cz1 .nil) hsz1 hok1 hf1 d pb hd (some ⟨b, o + 8, none⟩) (d3 - 1) m W (hN1.below hb) (cell_below hb hm) hp
    rw [show NL.len (.node k0 nm0 g0 az0 ws0 ks0 bs0 cz0 .nil) = 1 from rfl] at hI
    rw [show NL.len (.node k1 nm1 g1 az1 ws1 ks1 bs1 cz1 .nil) = 1 from rfl] at hU
    have hans : kindB 3 nm g az ws (.node k0 nm0 g0 az0 ws0 ks0 bs0 cz0 (.node k1 nm1 g1 az1 ws1 ks1 bs1 cz1 .nil)) bs (rt (.node k0 nm0 g0 az0 ws0 ks0 bs0 cz0 (.node k1 nm1 g1 az1 ws1 ks1 bs1 cz1 .nil)) (d)) (rt cz (d)) = ((allS itemS (.node k0 nm0 g0 az0 ws0 ks0 bs0 cz0 .nil) && rt (.node k0 nm0 g0 az0 ws0 ks0 bs0 cz0 .nil) d) && (allS unitS (.node k1 nm1 g1 az1 ws1 ks1 bs1 cz1 .nil) && rt (.node k1 nm1 g1 az1 ws1 ks1 bs1 cz1 .nil) d)) := by
      have e1 : ∀ RK RC, kindB 3 nm g az ws (.node k0 nm0 g0 az0 ws0 ks0 bs0 cz0 (.node k1 nm1 g1 az1 ws1 ks1 bs1 cz1 .nil)) bs RK RC = ((itemB k0 && unitB k1) && RK) := fun RK RC => by simp [kindB, NL.len]
      have e2 : rt (.node k0 nm0 g0 az0 ws0 ks0 bs0 cz0 (.node k1 nm1 g1 az1 ws1 ks1 bs1 cz1 .nil)) d = (nodeR k0 nm0 g0 az0 ws0 ks0 bs0 cz0 d && (nodeR k1 nm1 g1 az1 ws1 ks1 bs1 cz1 d && true)) := rfl
      rw [e1, e2]
      show _ = (((itemB k0 && true) && (nodeR k0 nm0 g0 az0 ws0 ks0 bs0 cz0 d && true)) && ((unitB k1 && true) && (nodeR k1 nm1 g1 az1 ws1 ks1 bs1 cz1 d && true)))
      generalize nodeR k0 nm0 g0 az0 ws0 ks0 bs0 cz0 d = r0
      generalize nodeR k1 nm1 g1 az1 ws1 ks1 bs1 cz1 d = r1
      cases itemB k0 <;> cases unitB k1 <;> cases r0 <;> cases r1 <;> rfl
    rw [hans]
    rw [hlen2] at hcap hle3 HROW HOWN HLT HB0 ⊢
    generalize (allS itemS (.node k0 nm0 g0 az0 ws0 ks0 bs0 cz0 .nil) && rt (.node k0 nm0 g0 az0 ws0 ks0 bs0 cz0 .nil) d) = A0 at hI ⊢
    generalize (allS unitS (.node k1 nm1 g1 az1 ws1 ks1 bs1 cz1 .nil) && rt (.node k1 nm1 g1 az1 ws1 ks1 bs1 cz1 .nil) d) = A1 at hU ⊢
    have hcap1 : 1 ≤ d3 := by omega
    have hcapn : ¬ (d3 = 1) := by omega
    have hcapz : ¬ (d3 = 0) := by omega
    have hcapi : ((1 : Int) ≤ (d3 : Int)) = True := by rw [eq_iff_iff, iff_true]; omega
    have hcapi2 : ((2 : Int) ≤ (d3 : Int)) = True := by rw [eq_iff_iff, iff_true]; omega
    have hI2 := Lib.hid hI; have hU2 := Lib.hid hU
    clear hI hU hans hkind h hok hfk hfc hm hR ho hN0 hN1 hok0 hok1 hsz0 hsz1 hf0 hf1 hq hlen2 hks
    go_enter Try.func30, Try.ntmps30
    go_wp2_with (first
      | (go_at_call 35; refine (HCN.out _).mono ?_; rintro e w' ⟨rfl, rfl⟩)
      | (go_at_call 36; refine (HOWN.out).mono ?_; rintro e w1 ⟨rfl, hb1⟩; have hrw := (hb1.block _ HLT.out).trans HROW.out; have q0 : w1.cell? ⟨w.heap.size, 0, none⟩ = some (.int .i64 3) := Lib.cell_of_heap hrw 0; have q1 : w1.cell? ⟨w.heap.size, 1, none⟩ = some (.string nm) := Lib.cell_of_heap hrw 1; have q2 : w1.cell? ⟨w.heap.size, 2, none⟩ = some (.bool g) := Lib.cell_of_heap hrw 2; have q3 : w1.cell? ⟨w.heap.size, 3, none⟩ = some (.slice x1 az.length d1) := Lib.cell_of_heap hrw 3; have q4 : w1.cell? ⟨w.heap.size, 4, none⟩ = some (.slice x2 ws.length d2) := Lib.cell_of_heap hrw 4; have q5 : w1.cell? ⟨w.heap.size, 5, none⟩ = some (.slice (some ⟨b, o, none⟩) 2 d3) := Lib.cell_of_heap hrw 5; have q6 : w1.cell? ⟨w.heap.size, 6, none⟩ = some (.slice x4 bs.length d4) := Lib.cell_of_heap hrw 6; have q7 : w1.cell? ⟨w.heap.size, 7, none⟩ = some (.slice x5 cz.len d5) := Lib.cell_of_heap hrw 7; have hlt1 : w.heap.size < w1.heap.size := Nat.lt_of_lt_of_le HLT.out hb1.size; have HBW1 := Lib.hid (thru HB0.out hb1); clear hrw hb1)
      | (go_at_call 37; refine (HWI.out _).mono ?_; rintro e w' ⟨rfl, rfl⟩))
    have hclo := clo_mk w1 (d)
    have hb2 := thru HBW1.out (bel2 w1 (.cells #[.int .i64 d] 3) (.cells #[.func (.func 38) #[] #[.pointer (some ⟨w1.heap.size, 0, none⟩)]] 71))
    have k5 := cell_below (bel2 w1 (.cells #[.int .i64 d] 3) (.cells #[.func (.func 38) #[] #[.pointer (some ⟨w1.heap.size, 0, none⟩)]] 71)) q5
    generalize ((w1.alloc (.cells #[.int .i64 d] 3)).alloc (.cells #[.func (.func 38) #[] #[.pointer (some ⟨w1.heap.size, 0, none⟩)]] 71)) = W2 at hclo hb2 k5 ⊢
    have k6 := cell_regrown hclo.2
    have k7 := cell_regrown k5
    have hi := fun dd os => Calls.regrown_of (hI2.out (grow (redrawn W2 dd) os) w1.heap.size (thru hb2 (below_regrown W2 dd os)) (cell_regrown hclo.1 dd os))
    have hu := fun dd os => Calls.regrown_of (hU2.out (grow (redrawn W2 dd) os) w1.heap.size (thru hb2 (below_regrown W2 dd os)) (cell_regrown hclo.1 dd os))
    have HI := Lib.hid hi; have HU := Lib.hid hu
    clear hi hu
    have HBB2 := Lib.hid hb2
    clear hb2 hclo k5
    cases A0
    · refine Qu.region (by kernel_rfl) (by kernel_rfl) ?_
      repeat (first
        | (first | refine Qu.carry0 rfl (fun K hK => ?_) | refine Qu.carryG rfl rfl rfl (fun K hK => ?_)
           go_simp
           first
           | (refine hK _ ?_; clear hK K)
           | (apply Exists.intro; refine ⟨fun _ => ?_, hK _ ?_⟩; (go_at_call 38; exact HI.out _ _); clear hK K))
        | (refine Qu.passG rfl rfl rfl (fun K hK => ?_); go_simp; refine hK _ ?_; clear hK K))
      refine Qu.fin ?_
      rintro ⟨dq, osq⟩
      go_wp2_with fail
      go_ret
      exact ⟨rfl, thru HBB2.out (below_regrown W2 dq osq)⟩
    · cases A1
      all_goals
        refine Qu.region (by kernel_rfl) (by kernel_rfl) ?_
        repeat (first
          | (first | refine Qu.carry0 rfl (fun K hK => ?_) | refine Qu.carryG rfl rfl rfl (fun K hK => ?_)
             go_simp
             first
             | (refine hK _ ?_; clear hK K)
             | (apply Exists.intro; refine ⟨fun _ => ?_, hK _ ?_⟩; (first | (go_at_call_of 38 (Value.slice (some ⟨b, o, none⟩) 1 d3); exact HI.out _ _) | (go_at_call 38; exact HU.out _ _)); clear hK K))
          | (refine Qu.passG rfl rfl rfl (fun K hK => ?_); go_simp; refine hK _ ?_; clear hK K))
        refine Qu.fin ?_
        rintro ⟨dq, osq⟩
        go_wp2_with fail
        go_ret
        exact ⟨rfl, thru HBB2.out (below_regrown W2 dq osq)⟩
  · have hq1 : ((ks.len : Int) == 2) = false := by rw [beq_eq_false_iff_ne]; omega
    have hans : kindB 3 nm g az ws ks bs (rt ks (d)) (rt cz (d)) = false := by unfold kindB; simp [hq]
    rw [hans]
    clear hans hkind h hok hfk hfc hm hR ho hq
    go_enter Try.func30, Try.ntmps30
    go_wp2_with (first
      | (go_at_call 35; refine (HCN.out _).mono ?_; rintro e w' ⟨rfl, rfl⟩)
      | (go_at_call 36; refine (HOWN.out).mono ?_; rintro e w1 ⟨rfl, hb1⟩; have hrw := (hb1.block _ HLT.out).trans HROW.out; have q0 : w1.cell? ⟨w.heap.size, 0, none⟩ = some (.int .i64 3) := Lib.cell_of_heap hrw 0; have q1 : w1.cell? ⟨w.heap.size, 1, none⟩ = some (.string nm) := Lib.cell_of_heap hrw 1; have q2 : w1.cell? ⟨w.heap.size, 2, none⟩ = some (.bool g) := Lib.cell_of_heap hrw 2; have q3 : w1.cell? ⟨w.heap.size, 3, none⟩ = some (.slice x1 az.length d1) := Lib.cell_of_heap hrw 3; have q4 : w1.cell? ⟨w.heap.size, 4, none⟩ = some (.slice x2 ws.length d2) := Lib.cell_of_heap hrw 4; have q5 : w1.cell? ⟨w.heap.size, 5, none⟩ = some (.slice x3 ks.len d3) := Lib.cell_of_heap hrw 5; have q6 : w1.cell? ⟨w.heap.size, 6, none⟩ = some (.slice x4 bs.length d4) := Lib.cell_of_heap hrw 6; have q7 : w1.cell? ⟨w.heap.size, 7, none⟩ = some (.slice x5 cz.len d5) := Lib.cell_of_heap hrw 7; have hlt1 : w.heap.size < w1.heap.size := Nat.lt_of_lt_of_le HLT.out hb1.size; have HBW1 := Lib.hid (thru HB0.out hb1); clear hrw hb1)
      | (go_at_call 37; refine (HWI.out _).mono ?_; rintro e w' ⟨rfl, rfl⟩))
    have hclo := clo_mk w1 (d)
    have hb2 := thru HBW1.out (bel2 w1 (.cells #[.int .i64 d] 3) (.cells #[.func (.func 38) #[] #[.pointer (some ⟨w1.heap.size, 0, none⟩)]] 71))
    have k5 := cell_below (bel2 w1 (.cells #[.int .i64 d] 3) (.cells #[.func (.func 38) #[] #[.pointer (some ⟨w1.heap.size, 0, none⟩)]] 71)) q5
    generalize ((w1.alloc (.cells #[.int .i64 d] 3)).alloc (.cells #[.func (.func 38) #[] #[.pointer (some ⟨w1.heap.size, 0, none⟩)]] 71)) = W2 at hclo hb2 k5 ⊢
    have k6 := cell_regrown hclo.2
    have k7 := cell_regrown k5
    have HBB2 := Lib.hid hb2
    clear hb2 hclo k5
    refine Qu.region (by kernel_rfl) (by kernel_rfl) ?_
    repeat (first
      | (first | refine Qu.carry0 rfl (fun K hK => ?_) | refine Qu.carryG rfl rfl rfl (fun K hK => ?_)
         go_simp
         first
         | (refine hK _ ?_; clear hK K)
         | (apply Exists.intro; refine ⟨fun _ => ?_, hK _ ?_⟩; (fail); clear hK K))
      | (refine Qu.passG rfl rfl rfl (fun K hK => ?_); go_simp; refine hK _ ?_; clear hK K))
    refine Qu.fin ?_
    rintro ⟨dq, osq⟩
    go_wp2_with fail
    go_ret
    exact ⟨rfl, thru HBB2.out (below_regrown W2 dq osq)⟩
end Tr
end Go.Proofs.Ytmpongcambbihaa
