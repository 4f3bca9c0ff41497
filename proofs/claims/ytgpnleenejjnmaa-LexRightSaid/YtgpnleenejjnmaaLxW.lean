/- ahead, for every text and place. -/
import Derived.Test.YtgpnleenejjnmaaLxV
namespace Go.Proofs.Ytgpnleenejjnmaa
open Go.RowKit Go.Sort
namespace Lx
open Cls Pt

set_option maxHeartbeats 1600000 in
set_option maxRecDepth 100000 in
theorem ahead_any (s : ByteArray) (hs : s.size ≤ 1000000) (i : Nat) (hi : i ≤ s.size) (w : World) :
    Calls Try.prog 44 #[.string s, .int .i64 i] w fun e w' => e = .returned (.int .i64 (aheadF (s.size + 1) s i)) ∧ w = w' := by
  generalize hOUT : aheadF (s.size + 1) s i = OUT
  have HOUT := Lib.hid hOUT
  clear hOUT
  go_enter Try.func44, Try.ntmps44
  go_wp2
  go_loop [1] (fun v => ∃ j n : Nat, j ≤ s.size ∧ v = .int .i64 j ∧ s.size < j + n ∧ OUT = aheadF n s j) (fun v => s.size - (intOf v).toNat)
  case atStart => exact ⟨i, s.size + 1, hi, rfl, by omega, HOUT.out.symm⟩
  case round =>
    obtain ⟨j, n, hj, rfl, hn, hq⟩ := hrel
    by_cases hlt : j < s.size
    · obtain ⟨m, rfl⟩ : ∃ m, n = m + 1 := ⟨n - 1, by omega⟩
      rw [aheadF, if_neg (by omega)] at hq
      have hg : byteAt s j = s[j] := (getB hlt).symm
      have hB := fun w => blank_any s[j].toNat w
      have hP := fun w => (Try.strings_HasPrefix (s.extract j s.size) ⟨#[92, 10]⟩ w).mono fun e w' h => And.intro h.1 h.2.symm
      rw [extract_end, show (⟨#[92, 10]⟩ : ByteArray).data.toList = [92, 10] from rfl] at hP
      have hI := fun w => (Try.strings_IndexByte (s.extract j s.size) 10 w).mono fun e w' h => And.intro h.1 h.2.symm
      rw [extract_end, show (10 : Int).toNat.toUInt8 = 10 from rfl] at hI
      cases hb : blankB s[j].toNat
      · rw [hb] at hB
        rw [hg, hb] at hq
        cases hp : Lib.hasPrefix (restAt s j) [92, 10]
        · rw [hp] at hP hq
          cases h35 : ((s[j].toNat : Int) == 35)
          · rw [h35] at hq
            have HB := Lib.hid hB; have HP := Lib.hid hP; have HQ := Lib.hid hq
            clear hB hP hI hq hb hp hg
            go_wp2_with (first
              | (go_at_call 68; refine (HB.out _).mono ?_; rintro e w' ⟨rfl, rfl⟩)
              | (go_at_call 46; refine (HP.out _).mono ?_; rintro e w' ⟨rfl, rfl⟩))
            go_ret
            exact ⟨by rw [HQ.out]; rfl, rfl⟩
          · rw [h35] at hq
            by_cases h0 : 0 ≤ Lib.indexByte (restAt s j) 10
            · have h1 := index_lt h0
              have h2 := index_pos hlt (by rw [hg]; exact h35) h0
              rw [if_pos h0] at hq
              obtain ⟨d, hd⟩ : ∃ d : Nat, Lib.indexByte (restAt s j) 10 = (d : Int) := ⟨_, (Int.toNat_of_nonneg h0).symm⟩
              rw [hd] at hI hq h1 h2
              simp only [Int.toNat_natCast] at h1 h2 hq
              have hneg : ((d : Int) < 0) = False := by simp
              have hx : IntKind.i64.wrap ((j : Int) + (d : Int)) = (j : Int) + (d : Int) := wrapI _ (by omega) (by omega)
              have HB := Lib.hid hB; have HP := Lib.hid hP; have HQ := Lib.hid hq; have HI := Lib.hid hI
              clear hB hP hI hq hb hp hg hd h0
              go_wp2_with (first
                | (go_at_call 68; refine (HB.out _).mono ?_; rintro e w' ⟨rfl, rfl⟩)
                | (go_at_call 46; refine (HP.out _).mono ?_; rintro e w' ⟨rfl, rfl⟩)
                | (go_at_call 69; refine (HI.out _).mono ?_; rintro e w' ⟨rfl, rfl⟩))
              go_round
              case rel => exact ⟨j + d, m, by omega, by go_num, by omega, HQ.out⟩
              case measure => simp [intOf]; omega
            · rw [if_neg h0] at hq
              have hm1 : Lib.indexByte (restAt s j) 10 = -1 := by have := Lib.indexByte_ge (restAt s j) 10; omega
              rw [hm1] at hI
              have HB := Lib.hid hB; have HP := Lib.hid hP; have HQ := Lib.hid hq; have HI := Lib.hid hI
              clear hB hP hI hq hb hp hg hm1 h0
              go_wp2_with (first
                | (go_at_call 68; refine (HB.out _).mono ?_; rintro e w' ⟨rfl, rfl⟩)
                | (go_at_call 46; refine (HP.out _).mono ?_; rintro e w' ⟨rfl, rfl⟩)
                | (go_at_call 69; refine (HI.out _).mono ?_; rintro e w' ⟨rfl, rfl⟩))
              go_ret
              exact ⟨by rw [HQ.out]; rfl, rfl⟩
        · have h2 := prefix_le hp
          rw [hp] at hP hq
          have HB := Lib.hid hB; have HP := Lib.hid hP; have HQ := Lib.hid hq
          clear hB hP hI hq hb hp hg
          go_wp2_with (first
            | (go_at_call 68; refine (HB.out _).mono ?_; rintro e w' ⟨rfl, rfl⟩)
            | (go_at_call 46; refine (HP.out _).mono ?_; rintro e w' ⟨rfl, rfl⟩))
          go_round
          case rel => exact ⟨j + 2, m, by omega, by go_num, by omega, HQ.out⟩
          case measure => simp [intOf]; omega
      · rw [hb] at hB
        rw [hg, hb] at hq
        have HB := Lib.hid hB; have HQ := Lib.hid hq
        clear hB hP hI hq hb hg
        go_wp2_with (go_at_call 68; refine (HB.out _).mono ?_; rintro e w' ⟨rfl, rfl⟩)
        go_round
        case rel => exact ⟨j + 1, m, by omega, by go_num, by omega, HQ.out⟩
        case measure => simp [intOf]; omega
    · obtain rfl : j = s.size := by omega
      have hq2 : OUT = s.size := by
        rw [hq]
        cases n with
        | zero => rfl
        | succ n => rw [aheadF, if_pos (Nat.le_refl _)]
      have HQ := Lib.hid hq2
      clear hq hq2
      go_wp2_with fail
      go_ret
      exact ⟨by rw [HQ.out]; rfl, rfl⟩
end Lx
end Go.Proofs.Ytgpnleenejjnmaa
