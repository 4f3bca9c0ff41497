/- FieldSplits's walk. -/
import Derived.Test.YtbhfdjmnnailnaaFdM
namespace Go.Proofs.Ytbhfdjmnnailnaa
open Go.RowKit Cls
namespace Fld
theorem hvy_big {ps : List Pc} (h : 5000 < weight ps) : hvy ps = 1 := if_pos h
theorem hvy_small {ps : List Pc} (h : ¬ 5000 < weight ps) : hvy ps = 0 := if_neg h
theorem nlen (ps : List Pc) (h : weight ps ≤ 200000) : (splitS ps).length ≤ 1000000 := by have := nS_split ps; omega
set_option maxHeartbeats 1600000 in
theorem splits_law (a : Option Addr) (cap : Nat) (ps : List Pc) (w : World) (h : Pcs w a ps) (hl : ps.length ≤ R) (hR : ∀ p ∈ ps, p.1.size ≤ R) :
    Calls Try.prog 3 #[.slice a ps.length cap] w fun e w' => e = .returned (.bool true) ∧ Below w.heap.size w w' := by
  have H := Lib.hid h; clear h
  by_cases hg : 5000 < weight ps
  · go_enter Try.func3, Try.ntmps3
    go_wp2_with fail
    refine (alive_any _).mono ?_
    rintro e w1 ⟨rfl, hb1⟩
    have HB1 := Lib.hid hb1
    clear hb1
    go_wp2_with fail
    refine (heavy_any a cap ps _ (H.out.below HB1.out) hl hR).mono ?_
    rintro e w2 ⟨rfl, hb2⟩
    rw [hvy_big hg]
    have HB2 := Lib.hid (HB1.out.trans (hb2.mono HB1.out.size))
    clear hb2
    go_wp2_with fail
    go_ret
    exact ⟨rfl, HB2.out⟩
  · have hw : weight ps ≤ 200000 := by omega
    have hnl := nlen ps hw
    go_enter Try.func3, Try.ntmps3
    go_wp2_with fail
    refine (alive_any _).mono ?_
    rintro e w1 ⟨rfl, hb1⟩
    have HB1 := Lib.hid hb1
    clear hb1
    go_wp2_with fail
    refine (heavy_any a cap ps _ (H.out.below HB1.out) hl hR).mono ?_
    rintro e w2 ⟨rfl, hb2⟩
    rw [hvy_small hg]
    have HB2 := Lib.hid (HB1.out.trans (hb2.mono HB1.out.size))
    clear hb2
    go_wp2_with fail
    refine (join_any a cap ps _ (H.out.below HB2.out) hw).mono ?_
    rintro e w3 ⟨rfl, hb3⟩
    have HB3 := Lib.hid (HB2.out.trans (hb3.mono HB2.out.size))
    clear hb3
    go_wp2_with fail
    refine (split_any a cap ps _ (H.out.below HB3.out) hw).mono ?_
    rintro e w4 ⟨v4, rfl, ho4, hb4⟩
    have HB4 := Lib.hid (HB3.out.trans (hb4.mono HB3.out.size))
    have HT4 := Lib.hid (Txt.ofOwn ho4 rfl rfl)
    clear hb4 ho4
    go_wp2_with fail
    refine (rsplit_any a cap ps _ (H.out.below HB4.out) hw).mono ?_
    rintro e w5 ⟨v5, rfl, ho5, hb5⟩
    have HB5 := Lib.hid (HB4.out.trans (hb5.mono HB4.out.size))
    have HT5 := Lib.hid (Txt.ofOwn ho5 rfl rfl)
    have HT45 := Lib.hid (HT4.out.stay hb5)
    clear hb5 ho5 HT4
    go_wp2_with fail
    refine (same_yes (splitS ps) v4 v5 _ HT45.out HT5.out hnl).mono ?_
    rintro e w6 ⟨rfl, hb6⟩
    have HB6 := Lib.hid (HB5.out.trans (hb6.mono HB5.out.size))
    clear hb6
    go_wp2_with fail
    refine (rjoin_any a cap ps _ (H.out.below HB6.out) hw).mono ?_
    rintro e w7 ⟨rfl, hb7⟩
    have HB7 := Lib.hid (HB6.out.trans (hb7.mono HB6.out.size))
    clear hb7
    have HBY := Lib.hid (bytes_any a cap ps w7 (H.out.below HB7.out) hw)
    have hjs : (tx (joinS ps)).size = (joinS ps).length := tx_size _
    have hjl := joinS_len ps
    generalize tx (joinS ps) = J at hjs ⊢
    generalize (joinS ps).length = N at hjs hjl HBY
    subst hjs
    have e1 : (J.toList == J.toList) = true := by simp
    go_wp2_with fail
    refine (HBY.out).mono ?_
    rintro e w8 ⟨rfl, hb8⟩
    have HB8 := Lib.hid (HB7.out.trans (hb8.mono HB7.out.size))
    clear hb8
    go_wp2_with fail
    go_ret
    exact ⟨rfl, HB8.out⟩
end Fld
end Go.Proofs.Ytbhfdjmnnailnaa
