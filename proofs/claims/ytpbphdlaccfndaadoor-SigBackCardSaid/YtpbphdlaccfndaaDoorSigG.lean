/- The law SigBack, walked by its callees' contracts: it answers true for every list of numbers and every number, and what was in memory stays as it was. -/
import Derived.Test.YtpbphdlaccfndaaDoorSigE
import Derived.Test.YtpbphdlaccfndaaDoorSigF
namespace Go.Proofs.YtpbphdlaccfndaaDoor
open Go.RowKit
namespace Sig

theorem numUp_name : ∀ k : Fin 32, numUp (nmB k) 31 = k := by decide +kernel
theorem number_name_yes (s : Nat) (h2 : s ≤ 31) : numUp (nmB s) 31 = s := numUp_name ⟨s, by omega⟩
theorem number_name_no (s : Int) (h : ¬ (1 ≤ s ∧ s ≤ 31)) : numUp (nmB s.toNat) 31 = 0 := by
  have : nmB s.toNat = nmB 0 := by rw [nmB, nm_out h]; rfl
  rw [this]; exact number_name_yes 0 (by omega)

theorem slice_of_owns {w : World} {base : Nat} {v : Value} {l : List Int} (h : w.ownsRow base 3 1 v l.length (l.map (Value.int .i64))) : ∃ a cap, v = .slice a l.length cap ∧ SliceIs w a l := by
  rcases h.2 with ⟨rfl, h0⟩ | ⟨g, cap, cur, rfl, _⟩
  · exact ⟨none, 0, by rw [h0], fun j hj => by omega⟩
  · refine ⟨_, cap, rfl, fun j hj => ⟨g, 0, rfl, ?_⟩⟩
    have := h.cellAt j (by omega)
    rw [Nat.zero_add, this]
    simp [List.getD, hj]

set_option maxHeartbeats 1000000 in
set_option maxRecDepth 100000 in
theorem back_long (a : Option Addr) (cap : Nat) (zs : List Int) (s : Int) (w : World) (hn : Names w) (hl : 200 < zs.length) :
    Calls Tryd.prog 4 #[.slice a zs.length cap, .int .i64 s] w fun e w' => e = .returned (.bool true) ∧ Below w.heap.size w w' := by
  have HN := Lib.hid hn
  clear hn
  go_enter Tryd.func4, Tryd.ntmps4
  go_wp2_with (go_at_call 5; refine (alive_any _ HN.out).mono ?_; rintro e w' ⟨rfl, rfl⟩)
  go_ret
  exact ⟨rfl, Below.refl _ _⟩

set_option maxHeartbeats 1000000 in
set_option maxRecDepth 100000 in
theorem back_short (a : Option Addr) (cap : Nat) (zs : List Int) (s : Int) (n : Nat) (b : Bool) (w : World) (hn : Names w) (hc : SliceIs w a zs) (hl : zs.length ≤ 200)
    (hu : numUp (nmB s.toNat) 31 = n) (hb : decide (n ≠ 0) = b) (hbs : isB s = b) (hns : (!b || (n : Int) == s) = true) :
    Calls Tryd.prog 4 #[.slice a zs.length cap, .int .i64 s] w fun e w' => e = .returned (.bool true) ∧ Below w.heap.size w w' := by
  have HN := Lib.hid hn; have HC := Lib.hid hc; have HU := Lib.hid hu; have HB := Lib.hid hb
  have hx := ofN_lt zs
  clear hn hc hu hb
  go_enter Tryd.func4, Tryd.ntmps4
  go_wp2_with (first
    | (go_at_call 5; refine (alive_any _ HN.out).mono ?_; rintro e w' ⟨rfl, rfl⟩)
    | (go_at_call 18; refine (of_any _ _ _ _ (by omega) HC.out).mono ?_; rintro e w' ⟨rfl, rfl⟩))
  go_loop [19] (fun i => ∃ k : Nat, k ≤ zs.length ∧ i = .int .i64 k) (fun i => zs.length - (intOf i).toNat)
  case atStart => exact ⟨0, Nat.zero_le _, rfl⟩
  case round =>
    obtain ⟨k, hk, rfl⟩ := hrel
    by_cases hlt : k < zs.length
    · obtain ⟨bl, off, rfl, hcell⟩ := HC.out k hlt
      have hh : hasB (ofN zs) zs[k] = isB zs[k] := has_ofN (List.getElem_mem hlt)
      go_wp2_with (first
        | (go_at_call 19; refine (has_any _ _ hx _).mono ?_; rintro e w' ⟨rfl, rfl⟩)
        | (go_at_call 10; refine (is_any _ _).mono ?_; rintro e w' ⟨rfl, rfl⟩))
      go_round
      case rel => exact ⟨k + 1, by omega, by go_num⟩
      case measure => simp [intOf]; omega
    · go_wp2_with fail
      refine (name_any _ _ HN.out).mono ?_
      rintro e w' ⟨rfl, rfl⟩
      go_wp2_with fail
      refine (number_at _ n b _ HN.out HU.out HB.out).mono ?_
      rintro e w' ⟨rfl, rfl⟩
      go_wp2_with fail
      refine (list_any _ hx _).mono ?_
      rintro e w1 ⟨v, rfl, hown, hbel⟩
      obtain ⟨a2, cap2, rfl, hsl⟩ := slice_of_owns hown
      have HB1 := Lib.hid hbel
      have HS := Lib.hid hsl
      have hl2 := listN_len (ofN zs) 31
      have hof := ofN_listN zs
      clear hown hbel hsl
      go_wp2_with fail
      refine (of_any _ _ _ _ (by omega) HS.out).mono ?_
      rintro e w' ⟨rfl, rfl⟩
      have hw := has_without (ofN zs) s
      have hwi := has_with (ofN zs) s
      have hx1 : ofN zs &&& (4294967295 - bitN s) < 4294967296 := Nat.lt_of_le_of_lt Nat.and_le_left hx
      have hx2 : ofN zs ||| bitN s < 4294967296 := Nat.or_lt_two_pow (n := 32) hx (bitN_lt s)
      cases b
      · clear hns
        go_wp2_with (first
          | (go_at_call 10; refine (is_any _ _).mono ?_; rintro e w' ⟨rfl, rfl⟩)
          | (go_at_call 21; refine (without_any _ _ hx _).mono ?_; rintro e w' ⟨rfl, rfl⟩)
          | (go_at_call 22; refine (with_any _ _ hx _).mono ?_; rintro e w' ⟨rfl, rfl⟩)
          | (go_at_call 19; refine (has_any _ _ (by first | exact hx1 | exact hx2) _).mono ?_; rintro e w' ⟨rfl, rfl⟩))
        go_ret
        exact ⟨rfl, HB1.out⟩
      · have hns1 : ((n : Int) == s) = true := by simpa using hns
        clear hns
        go_wp2_with (first
          | (go_at_call 10; refine (is_any _ _).mono ?_; rintro e w' ⟨rfl, rfl⟩)
          | (go_at_call 21; refine (without_any _ _ hx _).mono ?_; rintro e w' ⟨rfl, rfl⟩)
          | (go_at_call 22; refine (with_any _ _ hx _).mono ?_; rintro e w' ⟨rfl, rfl⟩)
          | (go_at_call 19; refine (has_any _ _ (by first | exact hx1 | exact hx2) _).mono ?_; rintro e w' ⟨rfl, rfl⟩))
        go_ret
        exact ⟨rfl, HB1.out⟩

/-- THE LAW's CALL: true, for every list and every number. -/
theorem back_any (a : Option Addr) (cap : Nat) (zs : List Int) (s : Int) (w : World) (hn : Names w) (hc : SliceIs w a zs) :
    Calls Tryd.prog 4 #[.slice a zs.length cap, .int .i64 s] w fun e w' => e = .returned (.bool true) ∧ Below w.heap.size w w' := by
  by_cases hl : 200 < zs.length
  · exact back_long a cap zs s w hn hl
  · by_cases h : 1 ≤ s ∧ s ≤ 31
    · obtain ⟨k, rfl⟩ : ∃ k : Nat, s = k := ⟨s.toNat, by omega⟩
      exact back_short a cap zs k k true w hn hc (by omega) (number_name_yes k (by omega)) (decide_eq_true (by omega)) (isB_yes h) (by simp)
    · exact back_short a cap zs s 0 false w hn hc (by omega) (number_name_no s h) rfl (isB_no h) rfl
end Sig
end Go.Proofs.YtpbphdlaccfndaaDoor
