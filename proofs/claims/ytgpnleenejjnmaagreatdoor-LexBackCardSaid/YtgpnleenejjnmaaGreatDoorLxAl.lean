/- lexAlive answers true. -/
import Derived.Test.YtgpnleenejjnmaaGreatDoorLxY
namespace Go.Proofs.YtgpnleenejjnmaaGreatDoor
open Go.RowKit Go.Sort
namespace Lx
open Cls Pt

def aliveS : ByteArray := ⟨#[97, 32, 36, 98, 59]⟩
theorem alive_scan : (scanF (aliveS.size + 1) aliveS 0).map (fun t => (t.k, t.i)) = [(1, 0), (1, 2), (2, 4), (4, 5)] := by kernel_rfl
theorem alive_list : ∃ t0 t1 t2 t3 : Tok, scanF (aliveS.size + 1) aliveS 0 = [t0, t1, t2, t3] ∧ t0.i = 0 ∧ t1.i = 2 ∧ t1.k = 1 ∧ t2.i = 4 ∧ t2.k = 2 ∧ t3.i = 5 ∧ t3.k = 4 := by
  have h := alive_scan
  generalize scanF (aliveS.size + 1) aliveS 0 = L at h ⊢
  obtain ⟨t0, L1, rfl, h0, h⟩ := List.map_eq_cons_iff.1 h
  obtain ⟨t1, L2, rfl, h1, h⟩ := List.map_eq_cons_iff.1 h
  obtain ⟨t2, L3, rfl, h2, h⟩ := List.map_eq_cons_iff.1 h
  obtain ⟨t3, L4, rfl, h3, h⟩ := List.map_eq_cons_iff.1 h
  obtain rfl := List.map_eq_nil_iff.1 h
  simp only [Prod.mk.injEq] at h0 h1 h2 h3
  exact ⟨t0, t1, t2, t3, rfl, h0.2, h1.2, h1.1, h2.2, h2.1, h3.2, h3.1⟩

set_option maxHeartbeats 1600000 in
set_option maxRecDepth 100000 in
theorem lexAlive_any (w : World) :
    Calls Tryz.prog 4 #[] w fun e w' => e = .returned (.bool true) ∧ Below w.heap.size w w' := by
  obtain ⟨t0, t1, t2, t3, hL, h0, h1, h1k, h2, h2k, h3, h3k⟩ := alive_list
  have hS := scan_any aliveS (by decide) w
  rw [hL] at hS
  have HS := Lib.hid hS
  clear hS hL
  go_enter Tryz.func4, Tryz.ntmps4
  go_wp2_with fail
  refine (HS.out).mono ?_
  rintro e w1 ⟨g, cap, rfl, hI, hb⟩
  obtain ⟨⟨a0, a1, _, _⟩, _, ⟨b0, b1, _, _⟩, _, ⟨c0, c1, _, _⟩, _, ⟨d0, d1, _, _⟩, _, _⟩ := hI
  rw [h0] at a1
  rw [h1] at b1
  rw [h1k] at b0
  rw [h2] at c1
  rw [h2k] at c0
  rw [h3] at d1
  rw [h3k] at d0
  have HB := Lib.hid hb
  clear hb
  simp only [Nat.zero_add, Nat.reduceAdd] at a0 a1 b0 b1 c0 c1 d0 d1
  simp only [List.length_cons, List.length_nil, Nat.zero_add, Nat.reduceAdd]
  go_wp2_with fail
  go_ret
  exact ⟨rfl, HB.out⟩
end Lx
end Go.Proofs.YtgpnleenejjnmaaGreatDoor
