/- Small functions of tree; which fields a node may have. -/
import Derived.Test.YtmpongcambbihaaTrD
import Derived.Test.YtmpongcambbihaaClsN
import Derived.Test.YtmpongcambbihaaPtY
namespace Go.Proofs.Ytmpongcambbihaa
open Go.RowKit Go.Sort
namespace Tr
open Cls Pt

def countsB (k : Int) : Bool := decide (6 ≤ k) && decide (k ≤ 13)
def compoundB (k : Int) : Bool := decide (6 ≤ k) && decide (k ≤ 12)
def commandB (k : Int) : Bool := k == 1 || countsB k
def unitB (k : Int) : Bool := k == 4 || commandB k
def itemB (k : Int) : Bool := k == 2 || k == 3 || unitB k
def bodyB (k : Int) (n : Nat) : Bool := k == 5 && decide (0 < n)
theorem counts_any (k : Int) (w : World) : Calls Try.prog 35 #[.int .i64 k] w fun e w' => e = .returned (.bool (countsB k)) ∧ w = w' := by
  unfold countsB
  by_cases h1 : 6 ≤ k <;> by_cases h2 : k ≤ 13
  all_goals
    go_enter Try.func35, Try.ntmps35
    go_wp2_with fail
    go_ret
    exact ⟨by simp [h1, h2], rfl⟩
def withinD (k : Int) (d : Nat) : Nat := if countsB k && !(k == 13) then d + 1 else d
theorem within_any (k : Int) (d : Nat) (hd : d ≤ 1000) (w : World) : Calls Try.prog 37 #[.int .i64 k, .int .i64 d] w fun e w' => e = .returned (.int .i64 (withinD k d)) ∧ w = w' := by
  have hC := fun w => counts_any k w
  unfold withinD
  cases hc : countsB k
  · rw [hc] at hC
    have HC := Lib.hid hC
    clear hC
    go_enter Try.func37, Try.ntmps37
    go_wp2_with (go_at_call 35; refine (HC.out _).mono ?_; rintro e w' ⟨rfl, rfl⟩)
    go_ret
    exact ⟨rfl, rfl⟩
  · rw [hc] at hC
    have HC := Lib.hid hC
    clear hC
    have hx : IntKind.i64.wrap ((d : Int) + 1) = (d : Int) + 1 := wrapEq_in d hd
    cases h13 : (k == 13)
    · have h13' : (k != 13) = true := by simp [bne, h13]
      go_enter Try.func37, Try.ntmps37
      go_wp2_with (go_at_call 35; refine (HC.out _).mono ?_; rintro e w' ⟨rfl, rfl⟩)
      go_ret
      exact ⟨by simp, rfl⟩
    · have h13' : (k != 13) = false := by simp [bne, h13]
      go_enter Try.func37, Try.ntmps37
      go_wp2_with (go_at_call 35; refine (HC.out _).mono ?_; rintro e w' ⟨rfl, rfl⟩)
      go_ret
      exact ⟨rfl, rfl⟩

set_option maxHeartbeats 400000 in
theorem compound_any (k : Int) (nm : ByteArray) (g : Bool) (az : List (ByteArray × PL)) (ws : List PL) (ks : NL) (bs : List Bool) (cz : NL) (x1 : Option Addr) (d1 : Nat) (x2 : Option Addr) (d2 : Nat) (x3 : Option Addr) (d3 : Nat) (x4 : Option Addr) (d4 : Nat) (x5 : Option Addr) (d5 : Nat) (w : World) : Calls Try.prog 50 #[.agg (nodeV k nm g x1 az.length d1 x2 ws.length d2 x3 ks.len d3 x4 bs.length d4 x5 cz.len d5)] w fun e w' => e = .returned (.bool (compoundB k)) ∧ Below w.heap.size w w' := by
  unfold nodeV
  by_cases h1 : 6 ≤ k <;> by_cases h2 : k ≤ 12
  all_goals try (exfalso; omega)
  all_goals
    go_enter Try.func50, Try.ntmps50
    go_wp2_with fail
    all_goals
      go_ret
      exact ⟨ret_bool (by simp [*, compoundB]), by first | exact bel1 _ _ | exact thru (bel1 _ _) (by assumption)⟩

set_option maxHeartbeats 400000 in
theorem command_any (k : Int) (nm : ByteArray) (g : Bool) (az : List (ByteArray × PL)) (ws : List PL) (ks : NL) (bs : List Bool) (cz : NL) (x1 : Option Addr) (d1 : Nat) (x2 : Option Addr) (d2 : Nat) (x3 : Option Addr) (d3 : Nat) (x4 : Option Addr) (d4 : Nat) (x5 : Option Addr) (d5 : Nat) (w : World) : Calls Try.prog 42 #[.agg (nodeV k nm g x1 az.length d1 x2 ws.length d2 x3 ks.len d3 x4 bs.length d4 x5 cz.len d5)] w fun e w' => e = .returned (.bool (commandB k)) ∧ Below w.heap.size w w' := by
  unfold nodeV
  cases h1 : (k == 1)
  all_goals
    go_enter Try.func42, Try.ntmps42
    go_wp2_with (go_at_call 35; refine (counts_any _ _).mono ?_; rintro e w1 ⟨rfl, rfl⟩)
    all_goals
      go_ret
      exact ⟨ret_bool (by simp [*, commandB]), by first | exact bel1 _ _ | exact thru (bel1 _ _) (by assumption)⟩

set_option maxHeartbeats 400000 in
theorem unit_any (k : Int) (nm : ByteArray) (g : Bool) (az : List (ByteArray × PL)) (ws : List PL) (ks : NL) (bs : List Bool) (cz : NL) (x1 : Option Addr) (d1 : Nat) (x2 : Option Addr) (d2 : Nat) (x3 : Option Addr) (d3 : Nat) (x4 : Option Addr) (d4 : Nat) (x5 : Option Addr) (d5 : Nat) (w : World) : Calls Try.prog 41 #[.agg (nodeV k nm g x1 az.length d1 x2 ws.length d2 x3 ks.len d3 x4 bs.length d4 x5 cz.len d5)] w fun e w' => e = .returned (.bool (unitB k)) ∧ Below w.heap.size w w' := by
  unfold nodeV
  cases h1 : (k == 4)
  all_goals
    go_enter Try.func41, Try.ntmps41
    go_wp2_with (go_at_call 42; refine (command_any k nm g az ws ks bs cz x1 d1 x2 d2 x3 d3 x4 d4 x5 d5 _).mono ?_; rintro e w1 ⟨rfl, hb⟩)
    all_goals
      go_ret
      exact ⟨ret_bool (by simp [*, unitB]), by first | exact bel1 _ _ | exact thru (bel1 _ _) (by assumption)⟩

set_option maxHeartbeats 400000 in
theorem item_any (k : Int) (nm : ByteArray) (g : Bool) (az : List (ByteArray × PL)) (ws : List PL) (ks : NL) (bs : List Bool) (cz : NL) (x1 : Option Addr) (d1 : Nat) (x2 : Option Addr) (d2 : Nat) (x3 : Option Addr) (d3 : Nat) (x4 : Option Addr) (d4 : Nat) (x5 : Option Addr) (d5 : Nat) (w : World) : Calls Try.prog 40 #[.agg (nodeV k nm g x1 az.length d1 x2 ws.length d2 x3 ks.len d3 x4 bs.length d4 x5 cz.len d5)] w fun e w' => e = .returned (.bool (itemB k)) ∧ Below w.heap.size w w' := by
  unfold nodeV
  cases h1 : (k == 2) <;> cases h2 : (k == 3)
  all_goals
    go_enter Try.func40, Try.ntmps40
    go_wp2_with (go_at_call 41; refine (unit_any k nm g az ws ks bs cz x1 d1 x2 d2 x3 d3 x4 d4 x5 d5 _).mono ?_; rintro e w1 ⟨rfl, hb⟩)
    all_goals
      go_ret
      exact ⟨ret_bool (by simp [*, itemB]), by first | exact bel1 _ _ | exact thru (bel1 _ _) (by assumption)⟩

set_option maxHeartbeats 400000 in
theorem body_any (k : Int) (nm : ByteArray) (g : Bool) (az : List (ByteArray × PL)) (ws : List PL) (ks : NL) (bs : List Bool) (cz : NL) (x1 : Option Addr) (d1 : Nat) (x2 : Option Addr) (d2 : Nat) (x3 : Option Addr) (d3 : Nat) (x4 : Option Addr) (d4 : Nat) (x5 : Option Addr) (d5 : Nat) (w : World) : Calls Try.prog 43 #[.agg (nodeV k nm g x1 az.length d1 x2 ws.length d2 x3 ks.len d3 x4 bs.length d4 x5 cz.len d5)] w fun e w' => e = .returned (.bool (bodyB k ks.len)) ∧ Below w.heap.size w w' := by
  unfold nodeV
  cases h1 : (k == 5) <;> by_cases h2 : 0 < ks.len
  all_goals
    go_enter Try.func43, Try.ntmps43
    go_wp2_with fail
    all_goals
      go_ret
      exact ⟨ret_bool (by simp [*, bodyB]), by first | exact bel1 _ _ | exact thru (bel1 _ _) (by assumption)⟩
end Tr
end Go.Proofs.Ytmpongcambbihaa
