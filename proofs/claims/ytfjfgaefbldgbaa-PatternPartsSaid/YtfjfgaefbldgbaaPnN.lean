/- The law PatternMatches, walked by its callees' contracts. -/
import Derived.Test.YtfjfgaefbldgbaaPnM
import Derived.KernelRfl
namespace Go.Proofs.Ytfjfgaefbldgbaa
open Go.RowKit
namespace Pn
set_option maxHeartbeats 800000 in
theorem great_any (a : Option Addr) (cap : Nat) (ps : List Pc) (w : World) (h : Pcs w a ps) (hl : ps.length ≤ R) (hR : ∀ p ∈ ps, p.1.size ≤ R) :
    Calls Try.prog 6 #[.slice a ps.length cap] w fun e w' => e = .returned (.bool (decide (200 < weight ps))) ∧ Below w.heap.size w w' := by
  have H := Lib.hid h; have HR := Lib.hid hR; clear h hR
  unfold R at hl
  go_enter Try.func6, Try.ntmps6
  go_wp2_with fail
  go_loopw [3, 8] (fun v x wr => ∃ k : Nat, k ≤ ps.length ∧ x = .int .i64 k ∧ v = .int .i64 (weight (ps.take k) : Nat) ∧ weight (ps.take k) ≤ 200 ∧ Below w.heap.size w wr) (fun _ x _ => ps.length - (intOf x).toNat)
  case atStart => exact ⟨0, Nat.zero_le _, rfl, rfl, by simp [weight], Below.refl _ _⟩
  case round =>
    obtain ⟨k, hk, rfl, rfl, hw2, hbw⟩ := hrel
    have HW := Lib.hid hbw
    have hws := hbw.size
    clear hbw
    by_cases hlt : k < ps.length
    · obtain ⟨b, o, rfl, hb, c0, c1, c2⟩ := (H.out.below HW.out).get hlt
      have hT : weight (ps.take (k + 1)) = weight (ps.take k) + ((pc ps k).1.size + 1) := by rw [take_snoc hlt, weight_snoc]
      have hsz : (pc ps k).1.size ≤ R := HR.out _ (by rw [pc, List.getD, List.getElem?_eq_getElem hlt]; exact List.getElem_mem hlt)
      have hle := weight_take ps (k + 1)
      unfold R at hsz
      have HT := Lib.hid hT; have HLE := Lib.hid hle
      clear hT hle
      revert c0 c1 c2 HT hsz
      generalize pc ps k = p
      obtain ⟨t, q, u⟩ := p
      intro c0 c1 c2 hsz HT
      have HT2 := Lib.hid (show weight (ps.take (k + 1)) = weight (ps.take k) + (t.size + 1) from HT.out)
      have hsz2 : t.size ≤ 140737488351232 := hsz
      clear hsz HT
      by_cases hbig : 200 < weight (ps.take k) + (t.size + 1)
      · have HBG := Lib.hid hbig
        have hbI : (((weight (ps.take k) : Nat) : Int) + ((t.size : Int) + 1) > 200) = True := eq_true (by omega)
        have hbJ : (200 < ((weight (ps.take k) : Nat) : Int) + ((t.size : Int) + 1)) = True := eq_true (by omega)
        go_wp2_with fail
        go_ret
        refine ⟨?_, HW.out.alloc hws _⟩
        show Ending.returned (.bool true) = _
        rw [decide_eq_true]
        have h1 := HLE.out; have h2 := HT2.out; have h3 := HBG.out
        omega
      · have HBG := Lib.hid hbig
        have hbI : (((weight (ps.take k) : Nat) : Int) + ((t.size : Int) + 1) > 200) = False := eq_false (by omega)
        have hbJ : (200 < ((weight (ps.take k) : Nat) : Int) + ((t.size : Int) + 1)) = False := eq_false (by omega)
        go_wp2_with fail
        go_roundw
        case rel => exact ⟨k + 1, by omega, by go_num, by rw [HT2.out]; push_cast; rfl, by rw [HT2.out]; have := HBG.out; omega, HW.out.alloc hws _⟩
        case measure => simp [intOf]; omega
    · obtain rfl : k = ps.length := by omega
      rw [List.take_length] at hw2
      go_wp2_with fail
      go_ret
      exact ⟨ret_bool (decide_eq_false (by omega)).symm, HW.out⟩
theorem alive1 : mt (U (sg [(⟨#[91, 97, 45, 99, 93, 42]⟩, false, false)]) 0) (tx ⟨#[98]⟩) = true := by
  rw [show U (sg [(⟨#[91, 97, 45, 99, 93, 42]⟩, false, false)]) 0 = [.byte (hasB (sg [(⟨#[91, 97, 45, 99, 93, 42]⟩, false, false)]) 0 4), .star] by kernel_rfl, show tx ⟨#[98]⟩ = [98] by kernel_rfl]
  simp only [mt, Bool.and_true]
  kernel_rfl
theorem alive2 : mt (U (sg [(⟨#[91, 97, 45, 99, 93, 42]⟩, false, false)]) 0) (tx ⟨#[98, 120]⟩) = true := by
  rw [show U (sg [(⟨#[91, 97, 45, 99, 93, 42]⟩, false, false)]) 0 = [.byte (hasB (sg [(⟨#[91, 97, 45, 99, 93, 42]⟩, false, false)]) 0 4), .star] by kernel_rfl, show tx ⟨#[98, 120]⟩ = [98, 120] by kernel_rfl]
  simp only [mt, Bool.and_true, Bool.or_true]
  kernel_rfl
theorem alive3 : mt (U (sg [(⟨#[91, 97, 45, 99, 93, 42]⟩, false, false)]) 0) (tx ⟨#[100]⟩) = false := by
  rw [show U (sg [(⟨#[91, 97, 45, 99, 93, 42]⟩, false, false)]) 0 = [.byte (hasB (sg [(⟨#[91, 97, 45, 99, 93, 42]⟩, false, false)]) 0 4), .star] by kernel_rfl, show tx ⟨#[100]⟩ = [100] by kernel_rfl]
  simp only [mt, Bool.and_true]
  kernel_rfl
theorem alive4 : mt (U (sg [(⟨#[91, 93]⟩, false, false)]) 0) (tx ⟨#[91, 93]⟩) = true := by
  rw [show U (sg [(⟨#[91, 93]⟩, false, false)]) 0 = [one (91, false), one (93, false)] by kernel_rfl, show tx ⟨#[91, 93]⟩ = [91, 93] by kernel_rfl]
  simp [mt, one]
theorem one_piece (w : World) (t : ByteArray) (q c : Bool) : Pcs (w.alloc (.cells #[.string t, .bool q, .bool c] 27)) (some ⟨w.heap.size, 0, none⟩) [(t, q, c)] := by
  refine .inr ⟨_, 0, rfl, by simp, fun i hi => ?_⟩
  obtain rfl : i = 0 := by simp at hi; omega
  exact ⟨World.cell?_alloc_at _ _ _ _ rfl, World.cell?_alloc_at _ _ _ _ rfl, World.cell?_alloc_at _ _ _ _ rfl⟩
set_option maxHeartbeats 800000 in
theorem alive_any (w : World) : Calls Try.prog 5 #[] w fun e w' => e = .returned (.bool true) ∧ Below w.heap.size w w' := by
  go_enter Try.func5, Try.ntmps5
  have hp := one_piece w ⟨#[91, 97, 45, 99, 93, 42]⟩ false false
  have hb0 := (Below.refl _ w).alloc (Nat.le_refl _) (.cells #[.string ⟨#[91, 97, 45, 99, 93, 42]⟩, .bool false, .bool false] 27)
  have HP := Lib.hid hp; have HB0 := Lib.hid hb0
  clear hp hb0
  go_wp2_with fail
  refine (match_any _ _ [(⟨#[91, 97, 45, 99, 93, 42]⟩, false, false)] ⟨#[98]⟩ _ HP.out (by decide) (by decide)).mono ?_
  rintro e w1 ⟨rfl, hb1⟩
  rw [alive1]
  have HB1 := Lib.hid (HB0.out.trans (hb1.mono HB0.out.size)); have HP1 := Lib.hid ((HP.out).below hb1)
  clear hb1
  go_wp2_with fail
  refine (match_any _ _ [(⟨#[91, 97, 45, 99, 93, 42]⟩, false, false)] ⟨#[98, 120]⟩ _ HP1.out (by decide) (by decide)).mono ?_
  rintro e w2 ⟨rfl, hb2⟩
  rw [alive2]
  have HB2 := Lib.hid (HB1.out.trans (hb2.mono HB1.out.size)); have HP2 := Lib.hid ((HP1.out).below hb2)
  clear hb2
  go_wp2_with fail
  refine (match_any _ _ [(⟨#[91, 97, 45, 99, 93, 42]⟩, false, false)] ⟨#[100]⟩ _ HP2.out (by decide) (by decide)).mono ?_
  rintro e w3 ⟨rfl, hb3⟩
  rw [alive3]
  have HB3 := Lib.hid (HB2.out.trans (hb3.mono HB2.out.size)); have HP3 := Lib.hid ((HP2.out).below hb3)
  clear hb3
  go_wp2_with fail
  refine (match_any _ _ [(⟨#[91, 93]⟩, false, false)] ⟨#[91, 93]⟩ _ (one_piece w3 ⟨#[91, 93]⟩ false false) (by decide) (by decide)).mono ?_
  rintro e w4 ⟨rfl, hb4⟩
  rw [alive4]
  have HB4 := Lib.hid ((HB3.out.alloc HB3.out.size _).trans (hb4.mono (Nat.le_trans HB3.out.size (by simp))))
  clear hb4
  go_wp2_with fail
  go_ret
  exact ⟨rfl, HB4.out⟩
set_option maxHeartbeats 1600000 in
theorem matches_law (a : Option Addr) (cap : Nat) (ps : List Pc) (s : ByteArray) (w : World) (h : Pcs w a ps) (hl : ps.length ≤ R) (hR : ∀ p ∈ ps, p.1.size ≤ R) (hs : s.size ≤ 9223372036854775807) :
    Calls Try.prog 3 #[.slice a ps.length cap, .string s] w fun e w' => e = .returned (.bool true) ∧ Below w.heap.size w w' := by
  have H := Lib.hid h; clear h
  by_cases hg : 200 < weight ps
  · go_enter Try.func3, Try.ntmps3
    go_wp2_with fail
    refine (alive_any _).mono ?_
    rintro e w1 ⟨rfl, hb1⟩
    have HB1 := Lib.hid hb1
    clear hb1
    go_wp2_with fail
    refine (great_any a cap ps _ (H.out.below HB1.out) hl hR).mono ?_
    rintro e w2 ⟨rfl, hb2⟩
    rw [decide_eq_true hg]
    have HB2 := Lib.hid (HB1.out.trans (hb2.mono HB1.out.size))
    clear hb2
    go_wp2_with fail
    go_ret
    exact ⟨rfl, HB2.out⟩
  · by_cases hs2 : 200 < s.size
    · go_enter Try.func3, Try.ntmps3
      go_wp2_with fail
      refine (alive_any _).mono ?_
      rintro e w1 ⟨rfl, hb1⟩
      have HB1 := Lib.hid hb1
      clear hb1
      go_wp2_with fail
      refine (great_any a cap ps _ (H.out.below HB1.out) hl hR).mono ?_
      rintro e w2 ⟨rfl, hb2⟩
      rw [decide_eq_false hg]
      have HB2 := Lib.hid (HB1.out.trans (hb2.mono HB1.out.size))
      clear hb2
      go_wp2_with fail
      go_ret
      exact ⟨rfl, HB2.out⟩
    · have hw : weight ps ≤ 1000 := by omega
      go_enter Try.func3, Try.ntmps3
      go_wp2_with fail
      refine (alive_any _).mono ?_
      rintro e w1 ⟨rfl, hb1⟩
      have HB1 := Lib.hid hb1
      clear hb1
      go_wp2_with fail
      refine (great_any a cap ps _ (H.out.below HB1.out) hl hR).mono ?_
      rintro e w2 ⟨rfl, hb2⟩
      rw [decide_eq_false hg]
      have HB2 := Lib.hid (HB1.out.trans (hb2.mono HB1.out.size))
      clear hb2
      go_wp2_with fail
      refine (match_any a cap ps s _ (H.out.below HB2.out) hw (by omega)).mono ?_
      rintro e w3 ⟨rfl, hb3⟩
      have HB3 := Lib.hid (HB2.out.trans (hb3.mono HB2.out.size))
      clear hb3
      go_wp2_with fail
      refine (rmatch_any a cap ps s _ (H.out.below HB3.out) hw (by omega)).mono ?_
      rintro e w4 ⟨rfl, hb4⟩
      have HB4 := Lib.hid (HB3.out.trans (hb4.mono HB3.out.size))
      clear hb4
      generalize mt (U (sg ps) 0) (tx s) = r
      have HPE := Lib.hid (plain_eq (sg ps))
      cases r
      all_goals
        go_wp2_with fail
        refine (plain_any a cap ps _ (H.out.below HB4.out) hw).mono ?_
        rintro e w5 ⟨rfl, hb5⟩
        have HB5 := Lib.hid (HB4.out.trans (hb5.mono HB4.out.size))
        clear hb5
        go_wp2_with fail
        refine (rplain_any a cap ps _ (H.out.below HB5.out) hw).mono ?_
        rintro e w6 ⟨rfl, hb6⟩
        have HB6 := Lib.hid (HB5.out.trans (hb6.mono HB5.out.size))
        clear hb6
        rw [HPE.out]
        generalize plainTo (sg ps) (sg ps).length = q
        cases q
        all_goals
          go_wp2_with fail
          go_ret
          exact ⟨rfl, HB6.out⟩
end Pn
end Go.Proofs.Ytfjfgaefbldgbaa
