/- KernSafe's walk. -/
import Derived.Test.YtlebglnlkkoakaaKnP
import Derived.Test.YtlebglnlkkoakaaKsB
namespace Go.Proofs.Ytlebglnlkkoakaa
open Go.RowKit Go.Maps
namespace Kn
set_option maxRecDepth 8000 in
set_option maxHeartbeats 3200000 in
theorem safe_any (x : Nat) (hx : x < 4294967296) (s : Int) (f : Nat) (hf : f < 256) (w : World) : Calls Try.prog 5 #[.int .u32 x, .int .i64 s, .int .u8 f] w fun e w' => e = .returned (.bool true) ∧ Below w.heap.size w w' := by
  have HX := Lib.hid hx
  go_enter Try.func5, Try.ntmps5
  go_wp2_with fail
  refine (alive_law w).mono ?_
  rintro e w1 ⟨rfl, hb1⟩
  have HB1 := Lib.hid hb1
  clear hb1
  go_wp2_with fail
  refine (now_new x HX.out w w1 HB1.out).mono ?_
  rintro e w2 ⟨tb, rfl, N2⟩
  rw [new_chain] at N2
  have HN2 := Lib.hid N2
  have HC := Lib.hid (has_looseN HX.out s)
  have HXX := Lib.hid (looseN_lt HX.out)
  clear N2 HB1
  obtain ⟨X, hX⟩ : ∃ X, X = looseN x := ⟨_, rfl⟩
  rw [← hX] at HN2 HC HXX
  clear hX
  go_wp2_with fail
  have hm : (f : Int) % 10 = ((f % 10 : Nat) : Int) := by omega
  rw [hm]
  obtain ⟨m, hm2⟩ : ∃ m, m = f % 10 := ⟨_, rfl⟩
  have hm9 : m ≤ 9 := by omega
  rw [← hm2]
  clear hm hm2
  go_loopw [8, 22] (fun l i wr => ∃ k : Nat, k ≤ m ∧ i = .int .i64 k ∧ l = .int .i64 ((k : Int) + 1) ∧ Now w w1.heap.size tb k (chain X k) wr) (fun _ i _ => m - (intOf i).toNat)
  case atStart => exact ⟨0, Nat.zero_le _, rfl, rfl, HN2.out⟩
  case round =>
    obtain ⟨k, hk, rfl, rfl, N3⟩ := hrel
    by_cases hlt : k < m
    · have HF := Lib.hid (N3.fork (by omega) ((k : Int) + 1) (by unfold I64; omega))
      rw [chain_fork X k (by omega)] at HF
      clear N3
      go_wp2_with fail
      refine HF.out.mono ?_
      rintro e w4 ⟨rfl, N4⟩
      have HN := Lib.hid N4
      clear N4
      go_wp2_with fail
      go_roundw
      case rel => exact ⟨k + 1, by omega, by go_num, by go_num, HN.out⟩
      case measure => simp [intOf]; omega
    · obtain rfl : k = m := by omega
      have hfd := find_q0 X k
      have iL : I64 ((k : Int) + 1) := by unfold I64; omega
      have i3 : I64 3 := by unfold I64; omega
      obtain ⟨L, hL⟩ : ∃ L, L = (k : Int) + 1 := ⟨_, rfl⟩
      have hLb : 1 ≤ L ∧ L ≤ 10 := by omega
      rw [← hL] at hfd iL ⊢
      generalize chain X k = t0 at N3 hfd
      have hq : (q0 X k).live = true := rfl
      have hqi : (q0 X k).ig = X := rfl
      have hqc : (q0 X k).ca = 0 := rfl
      have hqe : (q0 X k).pe = 0 := rfl
      generalize q0 X k = q at hfd hq hqi hqc hqe
      have hl : live t0 L = true := (live_at hfd).trans hq
      have HFD := Lib.hid hfd; have HQ := Lib.hid hq; have HQI := Lib.hid hqi; have HQC := Lib.hid hqc; have HQE := Lib.hid hqe
      clear hL hfd hq hqi hqc hqe
      have HHAS := fun w => Sig.has_any x s HX.out w
      have HFIX := fun w => Sig.fixed_any s w
      have HIS := fun w => Sig.ris_any s w
      have HCs := HC.out
      have hhx : Sig.hasB x s = has x s := rfl
      rw [hhx] at HHAS
      clear hhx
      cases hs : Sig.isB s
      · have hh : has x s = false := by unfold has Sig.hasB; rw [hs]; rfl
        have hxx : Sig.fixedB s = false := by cases hx2 : Sig.fixedB s; rfl; exact absurd (fixed_is hx2).1 (by rw [show isS s = Sig.isB s from rfl, hs]; simp)
        rw [hh] at HHAS
        rw [hxx] at HFIX
        rw [hs] at HIS
        have HHAS := Lib.hid HHAS; have HFIX := Lib.hid HFIX; have HIS := Lib.hid HIS
        clear hh hxx HCs hs
        go_wp2_with (first | (go_at_call 33; refine (HHAS.out _).mono ?_; rintro e w' ⟨rfl, rfl⟩) | (go_at_call 34; refine (HFIX.out _).mono ?_; rintro e w' ⟨rfl, rfl⟩) | (go_at_call 35; refine (HIS.out _).mono ?_; rintro e w' ⟨rfl, rfl⟩))
        have HLa := Lib.hid (N3.live L iL)
        clear HLa
        have hl0 : live t0 L = true := hl
        have HL := Lib.hid (N3.live L iL)
        rw [hl0] at HL
        have HE := Lib.hid (N3.exit (by omega) L 3 iL i3)
        rw [show (exit t0 L 3).2 = true by rw [exit_ok, hl0]] at HE
        have hd := exit_dead N3.inv.ok L 3
        clear N3 hl hl0
        generalize (exit t0 L 3).1 = t9 at HE hd
        go_wp2_with (go_at_call 22; refine HL.out.mono ?_; rintro e w' ⟨rfl, rfl⟩)
        refine HE.out.mono ?_
        rintro e w9 ⟨rfl, N9⟩
        have HL9 := Lib.hid (N9.live L iL)
        rw [hd] at HL9
        have HS9 := Lib.hid (N9.send (by omega) L s iL)
        rw [send_no Sig.mildB (.inl hd)] at HS9
        have HD := Lib.hid hd
        clear N9 hd HL HE
        go_wp2_with (go_at_call 22; refine HL9.out.mono ?_; rintro e w' ⟨rfl, rfl⟩)
        refine HS9.out.mono ?_
        rintro e w10 ⟨rfl, N10⟩
        have HP := Lib.hid (N10.pending L iL)
        rw [dead_pending HD.out] at HP
        have HB := Lib.hid N10.below
        clear N10 HS9 HL9
        go_wp2_with (go_at_call 28; refine HP.out.mono ?_; rintro e w' ⟨rfl, rfl⟩)
        go_ret
        exact ⟨rfl, HB.out⟩
      · cases hfx : Sig.fixedB s
        · cases hh : has x s
          · rw [hh] at HHAS
            rw [hs] at HIS
            rw [hfx] at HFIX
            have hC := caught HFD.out HQ.out hs hfx (by rw [HQI.out]; exact HXX.out) HQC.out HQE.out
            obtain ⟨t1, t2, t3, e1, e2, e3, e4, e5, e6⟩ := hC
            have HHAS := Lib.hid HHAS; have HFIX := Lib.hid HFIX; have HIS := Lib.hid HIS; have HS := Lib.hid hs
            clear hh hfx HCs hl
            go_wp2_with (first | (go_at_call 33; refine (HHAS.out _).mono ?_; rintro e w' ⟨rfl, rfl⟩) | (go_at_call 34; refine (HFIX.out _).mono ?_; rintro e w' ⟨rfl, rfl⟩) | (go_at_call 35; refine (HIS.out _).mono ?_; rintro e w' ⟨rfl, rfl⟩))
            have HF := Lib.hid (N3.put L s 2 iL)
            rw [e1] at HF
            clear N3
            go_wp2_with fail
            refine HF.out.mono ?_
            rintro e w5 ⟨rfl, N5⟩
            have HF := Lib.hid (N5.send (by omega) L s iL)
            rw [e2] at HF
            clear N5
            go_wp2_with fail
            refine HF.out.mono ?_
            rintro e w6 ⟨rfl, N6⟩
            have HP := Lib.hid (N6.pending L iL)
            rw [e3] at HP
            have hadd : Sig.hasB (add 0 s) s = true := by have := has_add 0 s s; rw [has_zero] at this; simpa [hs, has] using this
            have HA := fun w => Sig.has_any (add 0 s) s (add_lt (by decide) s) w
            rw [hadd] at HA
            have HA := Lib.hid HA
            have HF := Lib.hid (N6.put L s 0 iL)
            rw [e4] at HF
            clear N6 hadd
            go_wp2_with (first | (go_at_call 28; refine HP.out.mono ?_; rintro e w' ⟨rfl, rfl⟩) | (go_at_call 33; refine (HA.out _).mono ?_; rintro e w' ⟨rfl, rfl⟩))
            refine HF.out.mono ?_
            rintro e w7 ⟨rfl, N7⟩
            have HP := Lib.hid (N7.pending L iL)
            rw [e5] at HP
            have hl := e6
            have HL := Lib.hid (N7.live L iL)
            rw [e6] at HL
            have HE1 := Lib.hid e1; have HE2 := Lib.hid e2; have HE3 := Lib.hid e3; have HE4 := Lib.hid e4; have HE5 := Lib.hid e5; have HE6 := Lib.hid e6
            clear e1 e2 e3 e4 e5 e6 HL
            go_wp2_with (go_at_call 28; refine HP.out.mono ?_; rintro e w' ⟨rfl, rfl⟩)
            have hl0 : live t3 L = true := hl
            have HL := Lib.hid (N7.live L iL)
            rw [hl0] at HL
            have HE := Lib.hid (N7.exit (by omega) L 3 iL i3)
            rw [show (exit t3 L 3).2 = true by rw [exit_ok, hl0]] at HE
            have hd := exit_dead N7.inv.ok L 3
            clear N7 hl hl0
            generalize (exit t3 L 3).1 = t9 at HE hd
            go_wp2_with (go_at_call 22; refine HL.out.mono ?_; rintro e w' ⟨rfl, rfl⟩)
            refine HE.out.mono ?_
            rintro e w9 ⟨rfl, N9⟩
            have HL9 := Lib.hid (N9.live L iL)
            rw [hd] at HL9
            have HS9 := Lib.hid (N9.send (by omega) L s iL)
            rw [send_no Sig.mildB (.inl hd)] at HS9
            have HD := Lib.hid hd
            clear N9 hd HL HE
            go_wp2_with (go_at_call 22; refine HL9.out.mono ?_; rintro e w' ⟨rfl, rfl⟩)
            refine HS9.out.mono ?_
            rintro e w10 ⟨rfl, N10⟩
            have HP := Lib.hid (N10.pending L iL)
            rw [dead_pending HD.out] at HP
            have HB := Lib.hid N10.below
            clear N10 HS9 HL9
            go_wp2_with (go_at_call 28; refine HP.out.mono ?_; rintro e w' ⟨rfl, rfl⟩)
            go_ret
            exact ⟨rfl, HB.out⟩
          · rw [hh] at HHAS
            have hX1 : has q.ig s = true := by rw [HQI.out, HCs, hh, hfx]; rfl
            have hw1 : how t0 L s = 1 := by rw [how_live s HFD.out HQ.out]; unfold howP; rw [if_pos hX1]
            have esend := send_same (mild := Sig.mildB) hl hs (.inl hw1)
            have epend : pending t0 L = 0 := by rw [pending_live HFD.out HQ.out]; exact HQE.out
            rw [hs] at HIS
            rw [hfx] at HFIX
            have hC := caught HFD.out HQ.out hs hfx (by rw [HQI.out]; exact HXX.out) HQC.out HQE.out
            obtain ⟨t1, t2, t3, e1, e2, e3, e4, e5, e6⟩ := hC
            have HHAS := Lib.hid HHAS; have HFIX := Lib.hid HFIX; have HIS := Lib.hid HIS; have HS := Lib.hid hs
            have HF := Lib.hid (N3.send (by omega) L s iL)
            rw [esend] at HF
            have HLV := Lib.hid hl; have HW1 := Lib.hid hw1; have HEP := Lib.hid epend
            clear hh hfx HCs hl hX1 hw1 epend esend N3
            go_wp2_with (first | (go_at_call 33; refine (HHAS.out _).mono ?_; rintro e w' ⟨rfl, rfl⟩) | (go_at_call 34; refine (HFIX.out _).mono ?_; rintro e w' ⟨rfl, rfl⟩) | (go_at_call 35; refine (HIS.out _).mono ?_; rintro e w' ⟨rfl, rfl⟩))
            refine HF.out.mono ?_
            rintro e w4 ⟨rfl, N4⟩
            have HL := Lib.hid (N4.live L iL)
            rw [HLV.out] at HL
            have HW := Lib.hid (N4.how L s iL)
            rw [HW1.out] at HW
            have HP := Lib.hid (N4.pending L iL)
            rw [HEP.out] at HP
            go_wp2_with (first | (go_at_call 33; refine (HHAS.out _).mono ?_; rintro e w' ⟨rfl, rfl⟩) | (go_at_call 34; refine (HFIX.out _).mono ?_; rintro e w' ⟨rfl, rfl⟩) | (go_at_call 35; refine (HIS.out _).mono ?_; rintro e w' ⟨rfl, rfl⟩) | (go_at_call 22; refine HL.out.mono ?_; rintro e w' ⟨rfl, rfl⟩) | (go_at_call 24; refine HW.out.mono ?_; rintro e w' ⟨rfl, rfl⟩) | (go_at_call 28; refine HP.out.mono ?_; rintro e w' ⟨rfl, rfl⟩))
            clear HL HW HP
            have HF := Lib.hid (N4.put L s 2 iL)
            rw [e1] at HF
            clear N4
            go_wp2_with fail
            refine HF.out.mono ?_
            rintro e w5 ⟨rfl, N5⟩
            have HF := Lib.hid (N5.send (by omega) L s iL)
            rw [e2] at HF
            clear N5
            go_wp2_with fail
            refine HF.out.mono ?_
            rintro e w6 ⟨rfl, N6⟩
            have HP := Lib.hid (N6.pending L iL)
            rw [e3] at HP
            have hadd : Sig.hasB (add 0 s) s = true := by have := has_add 0 s s; rw [has_zero] at this; simpa [hs, has] using this
            have HA := fun w => Sig.has_any (add 0 s) s (add_lt (by decide) s) w
            rw [hadd] at HA
            have HA := Lib.hid HA
            have HF := Lib.hid (N6.put L s 0 iL)
            rw [e4] at HF
            clear N6 hadd
            go_wp2_with (first | (go_at_call 28; refine HP.out.mono ?_; rintro e w' ⟨rfl, rfl⟩) | (go_at_call 33; refine (HA.out _).mono ?_; rintro e w' ⟨rfl, rfl⟩))
            refine HF.out.mono ?_
            rintro e w7 ⟨rfl, N7⟩
            have HP := Lib.hid (N7.pending L iL)
            rw [e5] at HP
            have hl := e6
            have HL := Lib.hid (N7.live L iL)
            rw [e6] at HL
            have HE1 := Lib.hid e1; have HE2 := Lib.hid e2; have HE3 := Lib.hid e3; have HE4 := Lib.hid e4; have HE5 := Lib.hid e5; have HE6 := Lib.hid e6
            clear e1 e2 e3 e4 e5 e6 HL
            go_wp2_with (go_at_call 28; refine HP.out.mono ?_; rintro e w' ⟨rfl, rfl⟩)
            have hl0 : live t3 L = true := hl
            have HL := Lib.hid (N7.live L iL)
            rw [hl0] at HL
            have HE := Lib.hid (N7.exit (by omega) L 3 iL i3)
            rw [show (exit t3 L 3).2 = true by rw [exit_ok, hl0]] at HE
            have hd := exit_dead N7.inv.ok L 3
            clear N7 hl hl0
            generalize (exit t3 L 3).1 = t9 at HE hd
            go_wp2_with (go_at_call 22; refine HL.out.mono ?_; rintro e w' ⟨rfl, rfl⟩)
            refine HE.out.mono ?_
            rintro e w9 ⟨rfl, N9⟩
            have HL9 := Lib.hid (N9.live L iL)
            rw [hd] at HL9
            have HS9 := Lib.hid (N9.send (by omega) L s iL)
            rw [send_no Sig.mildB (.inl hd)] at HS9
            have HD := Lib.hid hd
            clear N9 hd HL HE
            go_wp2_with (go_at_call 22; refine HL9.out.mono ?_; rintro e w' ⟨rfl, rfl⟩)
            refine HS9.out.mono ?_
            rintro e w10 ⟨rfl, N10⟩
            have HP := Lib.hid (N10.pending L iL)
            rw [dead_pending HD.out] at HP
            have HB := Lib.hid N10.below
            clear N10 HS9 HL9
            go_wp2_with (go_at_call 28; refine HP.out.mono ?_; rintro e w' ⟨rfl, rfl⟩)
            go_ret
            exact ⟨rfl, HB.out⟩
        · obtain ⟨_, hmild⟩ := fixed_is hfx
          have hX0 : has q.ig s = false := by rw [HQI.out, HCs, hfx]; simp
          have hw0 : how t0 L s = 0 := by
            rw [how_live s HFD.out HQ.out]
            unfold howP
            rw [if_neg (by simp [hX0]), if_neg (by rw [HQC.out, has_zero]; simp)]
          have esend := send_dies hl hs hw0 hmild
          have hok : (exit t0 L (128 + s)).2 = true := by rw [exit_ok, hl]
          have hdead := exit_dead N3.inv.ok L (128 + s)
          rw [hs] at HIS
          rw [hfx] at HFIX
          have HFIX := Lib.hid HFIX; have HIS := Lib.hid HIS
          have HP1 := Lib.hid (N3.put L s 1 iL)
          rw [put_fixed hfx] at HP1
          have HFX := Lib.hid hfx
          have HES := Lib.hid esend; have HOK := Lib.hid hok; have HDD := Lib.hid hdead
          clear hfx HCs hl hX0 hw0 hmild esend hok hdead hs N3
          cases hh : has x s
          all_goals
            rw [hh] at HHAS
            have HHAS := Lib.hid HHAS
            clear hh
            go_wp2_with (first | (go_at_call 33; refine (HHAS.out _).mono ?_; rintro e w' ⟨rfl, rfl⟩) | (go_at_call 34; refine (HFIX.out _).mono ?_; rintro e w' ⟨rfl, rfl⟩) | (go_at_call 35; refine (HIS.out _).mono ?_; rintro e w' ⟨rfl, rfl⟩))
            refine HP1.out.mono ?_
            rintro e w4 ⟨rfl, N4⟩
            have HP2 := Lib.hid (N4.put L s 2 iL)
            rw [put_fixed HFX.out] at HP2
            clear N4
            go_wp2_with fail
            refine HP2.out.mono ?_
            rintro e w5 ⟨rfl, N5⟩
            have HF := Lib.hid (N5.send (by omega) L s iL)
            rw [HES.out, HOK.out] at HF
            clear N5
            go_wp2_with fail
            refine HF.out.mono ?_
            rintro e w6 ⟨rfl, N6⟩
            have hl := HDD.out
            have HLD := Lib.hid (N6.live L iL)
            rw [HDD.out] at HLD
            have HG := Lib.hid HDD.out
            go_wp2_with (first | (go_at_call 34; refine (HFIX.out _).mono ?_; rintro e w' ⟨rfl, rfl⟩) | (go_at_call 35; refine (HIS.out _).mono ?_; rintro e w' ⟨rfl, rfl⟩) | (go_at_call 22; refine HLD.out.mono ?_; rintro e w' ⟨rfl, rfl⟩))
            have HE := Lib.hid (N6.exit (by omega) L 3 iL i3)
            rw [show (exit (exit t0 L (128 + s)).1 L 3).2 = false by rw [exit_ok, HG.out]] at HE
            have hd := exit_dead N6.inv.ok L 3
            clear N6 hl
            generalize (exit (exit t0 L (128 + s)).1 L 3).1 = t9 at HE hd
            refine HE.out.mono ?_
            rintro e w9 ⟨rfl, N9⟩
            have HL9 := Lib.hid (N9.live L iL)
            rw [hd] at HL9
            have HS9 := Lib.hid (N9.send (by omega) L s iL)
            rw [send_no Sig.mildB (.inl hd)] at HS9
            have HD := Lib.hid hd
            clear N9 hd HE
            go_wp2_with (go_at_call 22; refine HL9.out.mono ?_; rintro e w' ⟨rfl, rfl⟩)
            refine HS9.out.mono ?_
            rintro e w10 ⟨rfl, N10⟩
            have HP := Lib.hid (N10.pending L iL)
            rw [dead_pending HD.out] at HP
            have HB := Lib.hid N10.below
            clear N10 HS9 HL9
            go_wp2_with (go_at_call 28; refine HP.out.mono ?_; rintro e w' ⟨rfl, rfl⟩)
            go_ret
            exact ⟨rfl, HB.out⟩
end Kn
end Go.Proofs.Ytlebglnlkkoakaa
