/- Patterns: where a set ends, and what it has: the reference's loops. -/
import Derived.Test.YtfjfgaefbldgbaaPnB
namespace Go.Proofs.Ytfjfgaefbldgbaa
open Go.RowKit
namespace Pn
theorem firstAt_two (l : List Sg) (i : Nat) : firstAt l i = i + 1 ∨ firstAt l i = i + 2 := by unfold firstAt; split <;> simp
theorem memAt_two (l : List Sg) (i : Nat) : memAt l i = 1 ∨ (memAt l i = 3 ∧ isAt l (i + 1) 45 = true ∧ isAt l (i + 2) 93 = false) := by
  unfold memAt
  split
  · rename_i h
    simp only [Bool.and_eq_true, Bool.not_eq_true'] at h
    exact .inr ⟨rfl, h.1.2, h.2⟩
  · exact .inl rfl
/-- Behind a member: still no end of a set. -/
theorem no_end {l : List Sg} {F k : Nat} (h : ∀ j, F < j → j < k → isAt l j 93 = false) (hk : k = F ∨ isAt l k 93 = false) : ∀ j, F < j → j < k + memAt l k → isAt l j 93 = false := by
  intro j h1 h2
  by_cases e : j < k
  · exact h j h1 e
  · by_cases e2 : j = k
    · subst e2
      rcases hk with hk | hk
      · omega
      · exact hk
    · rcases memAt_two l k with hm | ⟨hm, ha, hb⟩
      · omega
      · rw [hm] at h2
        by_cases e3 : j = k + 1
        · subst e3; exact isAt_ne ha (by decide)
        · obtain rfl : j = k + 2 := by omega
          exact hb
theorem setEnd_some {l : List Sg} {i k : Nat} (h0 : isAt l i 91 = true) (h1 : firstAt l i < k) (h2 : isAt l k 93 = true) (h3 : ∀ j, firstAt l i < j → j < k → isAt l j 93 = false) : setEnd l i = some k := by
  rw [setEnd, if_pos h0]
  exact closeAt_some h1 h2 fun j hj => h3 j (by omega)
theorem setEnd_none {l : List Sg} {i : Nat} (h3 : ∀ j, firstAt l i < j → j < l.length → isAt l j 93 = false) : setEnd l i = none := by
  unfold setEnd
  split
  · refine closeAt_none fun j hj => ?_
    by_cases hl : j < l.length
    · exact h3 j (by omega) hl
    · exact isAt_out hl
  · rfl
set_option maxHeartbeats 800000 in
theorem rend_any (l : List Sg) (a : Option Addr) (cap i : Nat) (w : World) (h : Sgs w a l) (hl : l.length ≤ 1000) (hi : i ≤ 1000) :
    Calls Try.prog 20 #[.slice a l.length cap, .int .i64 i] w fun e w' => e = .returned (.int .i64 (endI (setEnd l i))) ∧ w = w' := by
  have H := Lib.hid h; clear h
  cases hs : isAt l i 91
  · have HS := Lib.hid hs; clear hs
    go_enter Try.func20, Try.ntmps20
    go_wp2_with fail
    refine (ris_any l a cap i 91 _ H.out hl (by omega)).mono ?_
    rintro e w' ⟨rfl, rfl⟩
    rw [HS.out]
    go_wp2
    go_ret
    exact ⟨by simp [setEnd, HS.out, endI], rfl⟩
  · have HS := Lib.hid hs; clear hs
    have hF := firstAt_two l i
    have HF := Lib.hid (rfl : firstAt l i = firstAt l i)
    revert hF HF
    generalize hF0 : firstAt l i = F
    have HF0 := Lib.hid hF0; clear hF0
    intro hF _
    have hFi : i < F := by omega
    have hFj : F ≤ i + 2 := by omega
    clear hF
    go_enter Try.func20, Try.ntmps20
    go_wp2_with fail
    refine (ris_any l a cap i 91 _ H.out hl (by omega)).mono ?_
    rintro e w' ⟨rfl, rfl⟩
    rw [HS.out]
    go_wp2_with fail
    refine (rfirst_any l a cap i _ H.out hl (by omega)).mono ?_
    rintro e w' ⟨rfl, rfl⟩
    rw [HF0.out]
    go_wp2_with fail
    go_loop [6] (fun v => ∃ k : Nat, F ≤ k ∧ k ≤ l.length + 5 + F ∧ v = .int .i64 k ∧ ∀ j, F < j → j < k → isAt l j 93 = false) (fun v => l.length + 10 + F - (intOf v).toNat)
    case atStart => exact ⟨F, Nat.le_refl _, by omega, rfl, fun j h1 h2 => by omega⟩
    case round =>
      obtain ⟨k, hk1, hk2, rfl, hno⟩ := hrel
      have HN := Lib.hid hno; clear hno
      by_cases hlt : k < l.length
      · have hm := memAt_two l k
        have hm1 : 1 ≤ memAt l k ∧ memAt l k ≤ 3 := memAt_pos l k
        have HM := Lib.hid hm; clear hm
        by_cases hgt : F < k
        · cases hc : isAt l k 93
          · have HC := Lib.hid hc; clear hc
            go_wp2_with fail
            refine (ris_any l a cap k 93 _ H.out hl (by omega)).mono ?_
            rintro e w' ⟨rfl, rfl⟩
            rw [HC.out]
            go_wp2_with fail
            refine (rmember_any l a cap k _ H.out hl (by omega)).mono ?_
            rintro e w' ⟨rfl, rfl⟩
            go_wp2_with fail
            go_round
            case rel => exact ⟨k + memAt l k, by omega, by omega, by go_num, no_end HN.out (.inr HC.out)⟩
            case measure => simp [intOf]; omega
          · have HC := Lib.hid hc; clear hc
            go_wp2_with fail
            refine (ris_any l a cap k 93 _ H.out hl (by omega)).mono ?_
            rintro e w' ⟨rfl, rfl⟩
            rw [HC.out]
            go_wp2_with fail
            go_ret
            exact ⟨by rw [setEnd_some HS.out (by rw [HF0.out]; exact hgt) HC.out (by rw [HF0.out]; exact HN.out)]; rfl, rfl⟩
        · obtain rfl : k = F := by omega
          go_wp2_with fail
          refine (rmember_any l a cap k _ H.out hl (by omega)).mono ?_
          rintro e w' ⟨rfl, rfl⟩
          go_wp2_with fail
          go_round
          case rel => exact ⟨k + memAt l k, by omega, by omega, by go_num, no_end HN.out (.inl rfl)⟩
          case measure => simp [intOf]; omega
      · go_wp2
        go_ret
        exact ⟨by rw [setEnd_none (by rw [HF0.out]; exact fun j h1 h2 => HN.out j h1 (by omega))]; rfl, rfl⟩
set_option maxHeartbeats 800000 in
theorem rhas_any (l : List Sg) (a : Option Addr) (cap i n c : Nat) (w : World) (h : Sgs w a l) (hl : l.length ≤ 1000) (hi : i ≤ 1000) (hn : n ≤ l.length) :
    Calls Try.prog 27 #[.slice a l.length cap, .int .i64 i, .int .i64 n, .int .u8 c] w fun e w' => e = .returned (.bool (hasB l i n c)) ∧ w = w' := by
  have H := Lib.hid h; clear h
  have hF := firstAt_two l i
  have HF1 := Lib.hid (show (firstAt l i == i + 2) = ((firstAt l i : Int) == (i + 2 : Int)) by rw [← int_beq]; simp)
  have HB := Lib.hid (show hasB l i n c = (hasF l n c (l.length + 1) (firstAt l i) != (firstAt l i == i + 2)) from rfl)
  revert hF HF1 HB
  generalize hF0 : firstAt l i = F
  have HF0 := Lib.hid hF0; clear hF0
  intro hF HF1 HB
  have hFi : i < F := by omega
  have hFj : F ≤ i + 2 := by omega
  clear hF
  go_enter Try.func27, Try.ntmps27
  go_wp2_with fail
  refine (rfirst_any l a cap i _ H.out hl (by omega)).mono ?_
  rintro e w' ⟨rfl, rfl⟩
  rw [HF0.out]
  go_wp2_with fail
  go_loop [9, 10] (fun v u => ∃ (k : Nat) (f : Bool), F ≤ k ∧ k ≤ l.length + 5 + F ∧ v = .int .i64 k ∧ u = .bool f ∧ (f || hasF l n c (l.length + 1) k) = hasF l n c (l.length + 1) F) (fun v _ => l.length + 10 + F - (intOf v).toNat)
  case atStart => exact ⟨F, false, Nat.le_refl _, by omega, rfl, rfl, by simp⟩
  case round =>
    obtain ⟨k, f, hk1, hk2, rfl, rfl, hf⟩ := hrel
    have HFF := Lib.hid hf; clear hf
    by_cases hlt : k < n
    · have HST := Lib.hid (hasF_step (c := c) hlt hn)
      obtain ⟨b, o, rfl, hb, c0, c1⟩ := H.out.get (i := k) (by omega)
      have hml := memAt_lt (l := l) (i := k) (by omega)
      rcases memAt_two l k with hm | ⟨hm, _, _⟩
      · have HM := Lib.hid hm
        rw [hm] at hml
        revert c0 HST
        rw [hm, Nat.add_sub_cancel]
        generalize hx : (at' l k).1 = x
        intro HST c0
        clear hx hm c1
        rcases (show (x ≤ c ∧ c ≤ x) ∨ (x ≤ c ∧ ¬ c ≤ x) ∨ (¬ x ≤ c ∧ c ≤ x) by omega) with ⟨h1, h2⟩ | ⟨h1, h2⟩ | ⟨h1, h2⟩
        all_goals
          go_wp2_with fail
          refine (rmember_any l _ cap k _ H.out hl (by omega)).mono ?_
          rintro e w' ⟨rfl, rfl⟩
          rw [HM.out]
          go_wp2_with fail
          go_round
          case rel => first
            | exact ⟨k + 1, true, by omega, by omega, by go_num, rfl, by have := HFF.out; rw [HST.out, decide_eq_true ⟨h1, h2⟩] at this; rw [← this]; simp⟩
            | exact ⟨k + 1, f, by omega, by omega, by go_num, rfl, by have := HFF.out; rw [HST.out, decide_eq_false (by omega)] at this; rw [← this]; simp⟩
          case measure => simp [intOf]; omega
      · have HM := Lib.hid hm
        rw [hm] at hml
        obtain ⟨b2, o2, he2, _, d0, d1⟩ := H.out.get (i := k + 2) (by omega)
        cases he2
        revert c0 d0 HST
        rw [hm, show k + 3 - 1 = k + 2 by omega]
        generalize hx : (at' l k).1 = x
        generalize hy : (at' l (k + 2)).1 = y
        intro HST c0 d0
        clear hx hy hm c1 d1
        by_cases h1 : x ≤ c <;> by_cases h2 : c ≤ y
        all_goals
          go_wp2_with fail
          refine (rmember_any l _ cap k _ H.out hl (by omega)).mono ?_
          rintro e w' ⟨rfl, rfl⟩
          rw [HM.out]
          go_wp2_with fail
          go_round
          case rel => first
            | exact ⟨k + 3, true, by omega, by omega, by go_num, rfl, by have := HFF.out; rw [HST.out, decide_eq_true ⟨h1, h2⟩] at this; rw [← this]; simp⟩
            | exact ⟨k + 3, f, by omega, by omega, by go_num, rfl, by have := HFF.out; rw [HST.out, decide_eq_false (by omega)] at this; rw [← this]; simp⟩
          case measure => simp [intOf]; omega
    · cases f
      all_goals
        go_wp2_with fail
        refine (rfirst_any l a cap i _ H.out hl (by omega)).mono ?_
        rintro e w' ⟨rfl, rfl⟩
        rw [HF0.out]
        cases hq : ((F : Int) == (i + 2 : Int))
        all_goals
          have HQ := Lib.hid hq
          go_wp2_with fail
          go_ret
          refine ⟨?_, rfl⟩
          have := HFF.out
          rw [hasF_end (by omega)] at this
          rw [HB.out, HF1.out, HQ.out, ← this]
          rfl
end Pn
end Go.Proofs.Ytfjfgaefbldgbaa
