/- The reference's Put. -/
import Derived.Test.YtlebglnlkkoakaaKrF
namespace Go.Proofs.Ytlebglnlkkoakaa
open Go.RowKit Go.Maps
namespace Kn
set_option maxRecDepth 4000 in
set_option maxHeartbeats 3200000 in
theorem rput_any {w : World} {B : Nat} {t : T} {lv ev : Value} (hR : RT w B lv ev t) (O : Ok t) (S : Sets t) (hB : B ≤ w.heap.size) (pid s h : Int) :
    Calls Try.prog 19 #[tv t lv ev, .int .i64 pid, .int .i64 s, .int .i64 h] w fun e w' => ∃ lv' ev', e = .returned (.tuple #[tv (putS Sig.fixedB t pid s h).1 lv' ev', .bool (putS Sig.fixedB t pid s h).2]) ∧ RCh w B lv ev (putS Sig.fixedB t pid s h).1 lv' ev' w' := by
  have hn := O.len
  have hen := En.start w lv ev t.last
  have HV := Lib.hid (fun w' (hb : Below w.heap.size w w') => rlive_any (ev := ev) (hR.at.stay hb) hn pid)
  have HR := Lib.hid hR; have HEN0 := Lib.hid hen
  obtain ⟨ea, en, ec, rfl⟩ := ends_shape hR.e
  obtain ⟨la, ln, lc, rfl⟩ := ends_shape hR.l
  clear hen hR
  cases hl : live t pid
  · have hno : putS Sig.fixedB t pid s h = (t, false) := by unfold putS; exact if_pos (.inl hl)
    rw [hno]
    clear hno O S
    have HL := Lib.hid hl
    clear hl
    unfold tv at HV ⊢
    go_enter Try.func19, Try.ntmps19
    go_wp2_with fail
    refine (HV.out _ HEN0.out.b).mono ?_
    rw [HL.out]
    rintro e w1 ⟨rfl, hbs⟩
    have HEN1 := Lib.hid (HEN0.out.more hbs)
    clear hbs HEN0 
    have ex0 : w1.cell? ⟨w.heap.size, 0, none⟩ = some (.slice la ln lc) := HEN1.out.x0
    have ex1 : w1.cell? ⟨w.heap.size, 1, none⟩ = some (.int .i64 t.last) := HEN1.out.x1
    have ex2 : w1.cell? ⟨w.heap.size, 2, none⟩ = some (.slice ea en ec) := HEN1.out.x2
    have ez0 : w1.cell? ⟨w.heap.size + 1, 0, none⟩ = some (.slice none 0 0) := HEN1.out.z0
    have ef0 : w1.frozen? ⟨w.heap.size + 1, 0, none⟩ = false := HEN1.out.zf 0
    have ez1 : w1.cell? ⟨w.heap.size + 1, 1, none⟩ = some (.int .i64 0) := HEN1.out.z1
    have ef1 : w1.frozen? ⟨w.heap.size + 1, 1, none⟩ = false := HEN1.out.zf 1
    have ez2 : w1.cell? ⟨w.heap.size + 1, 2, none⟩ = some (.slice none 0 0) := HEN1.out.z2
    have ef2 : w1.frozen? ⟨w.heap.size + 1, 2, none⟩ = false := HEN1.out.zf 2
    go_wp2_with fail
    have hfin := fin_row HEN1.out.b HEN1.out.z (HR.out.stay HEN1.out.b) (fun _ e => .inl e) (fun _ e => .inl e)
    exact bodyPost_ret (results_row_tmp rfl _ _ (w.heap.size + 1) _ _ _ _ rfl hfin.1 Try.underlying31 rfl (by kernel_rfl)) rfl ⟨_, _, rfl, hfin.2⟩
  · cases his : isS s
    · have hno : putS Sig.fixedB t pid s h = (t, false) := by unfold putS; exact if_pos (.inr (.inl his))
      rw [hno]
      clear hno O S
      have HL := Lib.hid hl; have HIS := Lib.hid (show Sig.isB s = false from his)
      clear hl his
      unfold tv at HV ⊢
      go_enter Try.func19, Try.ntmps19
      go_wp2_with fail
      refine (HV.out _ HEN0.out.b).mono ?_
      rw [HL.out]
      rintro e w1 ⟨rfl, hbs⟩
      have HEN1 := Lib.hid (HEN0.out.more hbs)
      clear hbs HEN0 
      have ex0 : w1.cell? ⟨w.heap.size, 0, none⟩ = some (.slice la ln lc) := HEN1.out.x0
      have ex1 : w1.cell? ⟨w.heap.size, 1, none⟩ = some (.int .i64 t.last) := HEN1.out.x1
      have ex2 : w1.cell? ⟨w.heap.size, 2, none⟩ = some (.slice ea en ec) := HEN1.out.x2
      have ez0 : w1.cell? ⟨w.heap.size + 1, 0, none⟩ = some (.slice none 0 0) := HEN1.out.z0
      have ef0 : w1.frozen? ⟨w.heap.size + 1, 0, none⟩ = false := HEN1.out.zf 0
      have ez1 : w1.cell? ⟨w.heap.size + 1, 1, none⟩ = some (.int .i64 0) := HEN1.out.z1
      have ef1 : w1.frozen? ⟨w.heap.size + 1, 1, none⟩ = false := HEN1.out.zf 1
      have ez2 : w1.cell? ⟨w.heap.size + 1, 2, none⟩ = some (.slice none 0 0) := HEN1.out.z2
      have ef2 : w1.frozen? ⟨w.heap.size + 1, 2, none⟩ = false := HEN1.out.zf 2
      go_wp2_with (go_at_call 35; refine (Sig.ris_any s _).mono ?_; rw [HIS.out]; rintro e w' ⟨rfl, rfl⟩)
      have hfin := fin_row HEN1.out.b HEN1.out.z (HR.out.stay HEN1.out.b) (fun _ e => .inl e) (fun _ e => .inl e)
      exact bodyPost_ret (results_row_tmp rfl _ _ (w.heap.size + 1) _ _ _ _ rfl hfin.1 Try.underlying31 rfl (by kernel_rfl)) rfl ⟨_, _, rfl, hfin.2⟩
    · cases hfx : Sig.fixedB s
      · by_cases h0 : h < 0
        · have hno : putS Sig.fixedB t pid s h = (t, false) := by unfold putS; exact if_pos (.inr (.inr (.inr (.inl h0))))
          rw [hno]
          clear hno O S
          have HL := Lib.hid hl; have HIS := Lib.hid (show Sig.isB s = true from his); have HFX := Lib.hid hfx
          clear hl his hfx
          unfold tv at HV ⊢
          go_enter Try.func19, Try.ntmps19
          go_wp2_with fail
          refine (HV.out _ HEN0.out.b).mono ?_
          rw [HL.out]
          rintro e w1 ⟨rfl, hbs⟩
          have HEN1 := Lib.hid (HEN0.out.more hbs)
          clear hbs HEN0 
          have ex0 : w1.cell? ⟨w.heap.size, 0, none⟩ = some (.slice la ln lc) := HEN1.out.x0
          have ex1 : w1.cell? ⟨w.heap.size, 1, none⟩ = some (.int .i64 t.last) := HEN1.out.x1
          have ex2 : w1.cell? ⟨w.heap.size, 2, none⟩ = some (.slice ea en ec) := HEN1.out.x2
          have ez0 : w1.cell? ⟨w.heap.size + 1, 0, none⟩ = some (.slice none 0 0) := HEN1.out.z0
          have ef0 : w1.frozen? ⟨w.heap.size + 1, 0, none⟩ = false := HEN1.out.zf 0
          have ez1 : w1.cell? ⟨w.heap.size + 1, 1, none⟩ = some (.int .i64 0) := HEN1.out.z1
          have ef1 : w1.frozen? ⟨w.heap.size + 1, 1, none⟩ = false := HEN1.out.zf 1
          have ez2 : w1.cell? ⟨w.heap.size + 1, 2, none⟩ = some (.slice none 0 0) := HEN1.out.z2
          have ef2 : w1.frozen? ⟨w.heap.size + 1, 2, none⟩ = false := HEN1.out.zf 2
          go_wp2_with (first | (go_at_call 35; refine (Sig.ris_any s _).mono ?_; rw [HIS.out]; rintro e w' ⟨rfl, rfl⟩) | (go_at_call 39; refine hold ?_))
          refine Hold.out ?_
          refine (Sig.rfixed_any s _).mono ?_
          rw [HFX.out]
          rintro e w2 ⟨rfl, hbs⟩
          have HEN2 := Lib.hid (HEN1.out.more hbs)
          clear hbs HEN1 ex0 ex1 ex2 ez0 ez1 ez2 ef0 ef1 ef2
          have ex0 : w2.cell? ⟨w.heap.size, 0, none⟩ = some (.slice la ln lc) := HEN2.out.x0
          have ex1 : w2.cell? ⟨w.heap.size, 1, none⟩ = some (.int .i64 t.last) := HEN2.out.x1
          have ex2 : w2.cell? ⟨w.heap.size, 2, none⟩ = some (.slice ea en ec) := HEN2.out.x2
          have ez0 : w2.cell? ⟨w.heap.size + 1, 0, none⟩ = some (.slice none 0 0) := HEN2.out.z0
          have ef0 : w2.frozen? ⟨w.heap.size + 1, 0, none⟩ = false := HEN2.out.zf 0
          have ez1 : w2.cell? ⟨w.heap.size + 1, 1, none⟩ = some (.int .i64 0) := HEN2.out.z1
          have ef1 : w2.frozen? ⟨w.heap.size + 1, 1, none⟩ = false := HEN2.out.zf 1
          have ez2 : w2.cell? ⟨w.heap.size + 1, 2, none⟩ = some (.slice none 0 0) := HEN2.out.z2
          have ef2 : w2.frozen? ⟨w.heap.size + 1, 2, none⟩ = false := HEN2.out.zf 2
          go_wp2_with fail
          have hfin := fin_row HEN2.out.b HEN2.out.z (HR.out.stay HEN2.out.b) (fun _ e => .inl e) (fun _ e => .inl e)
          exact bodyPost_ret (results_row_tmp rfl _ _ (w.heap.size + 1) _ _ _ _ rfl hfin.1 Try.underlying31 rfl (by kernel_rfl)) rfl ⟨_, _, rfl, hfin.2⟩
        · by_cases h2 : 2 < h
          · have hno : putS Sig.fixedB t pid s h = (t, false) := by unfold putS; exact if_pos (.inr (.inr (.inr (.inr h2))))
            rw [hno]
            clear hno O S
            have HL := Lib.hid hl; have HIS := Lib.hid (show Sig.isB s = true from his); have HFX := Lib.hid hfx
            clear hl his hfx
            unfold tv at HV ⊢
            go_enter Try.func19, Try.ntmps19
            go_wp2_with fail
            refine (HV.out _ HEN0.out.b).mono ?_
            rw [HL.out]
            rintro e w1 ⟨rfl, hbs⟩
            have HEN1 := Lib.hid (HEN0.out.more hbs)
            clear hbs HEN0 
            have ex0 : w1.cell? ⟨w.heap.size, 0, none⟩ = some (.slice la ln lc) := HEN1.out.x0
            have ex1 : w1.cell? ⟨w.heap.size, 1, none⟩ = some (.int .i64 t.last) := HEN1.out.x1
            have ex2 : w1.cell? ⟨w.heap.size, 2, none⟩ = some (.slice ea en ec) := HEN1.out.x2
            have ez0 : w1.cell? ⟨w.heap.size + 1, 0, none⟩ = some (.slice none 0 0) := HEN1.out.z0
            have ef0 : w1.frozen? ⟨w.heap.size + 1, 0, none⟩ = false := HEN1.out.zf 0
            have ez1 : w1.cell? ⟨w.heap.size + 1, 1, none⟩ = some (.int .i64 0) := HEN1.out.z1
            have ef1 : w1.frozen? ⟨w.heap.size + 1, 1, none⟩ = false := HEN1.out.zf 1
            have ez2 : w1.cell? ⟨w.heap.size + 1, 2, none⟩ = some (.slice none 0 0) := HEN1.out.z2
            have ef2 : w1.frozen? ⟨w.heap.size + 1, 2, none⟩ = false := HEN1.out.zf 2
            go_wp2_with (first | (go_at_call 35; refine (Sig.ris_any s _).mono ?_; rw [HIS.out]; rintro e w' ⟨rfl, rfl⟩) | (go_at_call 39; refine hold ?_))
            refine Hold.out ?_
            refine (Sig.rfixed_any s _).mono ?_
            rw [HFX.out]
            rintro e w2 ⟨rfl, hbs⟩
            have HEN2 := Lib.hid (HEN1.out.more hbs)
            clear hbs HEN1 ex0 ex1 ex2 ez0 ez1 ez2 ef0 ef1 ef2
            have ex0 : w2.cell? ⟨w.heap.size, 0, none⟩ = some (.slice la ln lc) := HEN2.out.x0
            have ex1 : w2.cell? ⟨w.heap.size, 1, none⟩ = some (.int .i64 t.last) := HEN2.out.x1
            have ex2 : w2.cell? ⟨w.heap.size, 2, none⟩ = some (.slice ea en ec) := HEN2.out.x2
            have ez0 : w2.cell? ⟨w.heap.size + 1, 0, none⟩ = some (.slice none 0 0) := HEN2.out.z0
            have ef0 : w2.frozen? ⟨w.heap.size + 1, 0, none⟩ = false := HEN2.out.zf 0
            have ez1 : w2.cell? ⟨w.heap.size + 1, 1, none⟩ = some (.int .i64 0) := HEN2.out.z1
            have ef1 : w2.frozen? ⟨w.heap.size + 1, 1, none⟩ = false := HEN2.out.zf 1
            have ez2 : w2.cell? ⟨w.heap.size + 1, 2, none⟩ = some (.slice none 0 0) := HEN2.out.z2
            have ef2 : w2.frozen? ⟨w.heap.size + 1, 2, none⟩ = false := HEN2.out.zf 2
            go_wp2_with fail
            have hfin := fin_row HEN2.out.b HEN2.out.z (HR.out.stay HEN2.out.b) (fun _ e => .inl e) (fun _ e => .inl e)
            exact bodyPost_ret (results_row_tmp rfl _ _ (w.heap.size + 1) _ _ _ _ rfl hfin.1 Try.underlying31 rfl (by kernel_rfl)) rfl ⟨_, _, rfl, hfin.2⟩
          · obtain ⟨p, hf, hpl⟩ := live_iff hl
            obtain ⟨k, hat, hk, hlt⟩ := find_atN hf
            obtain ⟨hp1, hp2, hp3⟩ := S.at hf
            have HA := fun w' (hb : Below w.heap.size w w') => rat_any (ev := .slice ea en ec) (HR.out.at.stay hb) hn pid
            rw [hat] at HA
            obtain ⟨b, cap, e2, hbl, rd⟩ := HR.out.at.reads hk
            obtain ⟨rfl, rfl, rfl⟩ : la = some ⟨b, 0, none⟩ ∧ ln = t.l.length ∧ lc = cap := by cases e2; exact ⟨rfl, rfl, rfl⟩
            rcases (by omega : h = 0 ∨ h = 1 ∨ h = 2) with rfl | rfl | rfl
            · have hset : putS Sig.fixedB t pid s 0 = ({ t with l := t.l.set k { p with ig := del p.ig s, ca := del p.ca s, pe := del p.pe s } }, true) := by
                rw [← put_set O hf hk (fun p => { p with ig := del p.ig s, ca := del p.ca s, pe := del p.pe s })]
                unfold putS
                rw [if_neg (by rw [hl, his, hfx]; decide)]; rfl
              rw [hset]
              have HW := fun w' (hb : Below w.heap.size w w') => rwith_any (HR.out.stay hb) hn (Nat.le_trans hB hb.size) k hlt { p with ig := del p.ig s, ca := del p.ca s, pe := del p.pe s }
              have HRD := Lib.hid rd; have HP1 := Lib.hid hp1; have HP2 := Lib.hid hp2; have HP3 := Lib.hid hp3
              have HIS := Lib.hid (show Sig.isB s = true from his); have HFX := Lib.hid hfx; have HL := Lib.hid hl
              unfold tv at HA HV HW ⊢
              have HA := Lib.hid HA; have HW := Lib.hid HW
              clear hl his hfx hf hpl hat hk hp1 hp2 hp3 hset e2 rd O S
              go_enter Try.func19, Try.ntmps19
              go_wp2_with fail
              refine (HV.out _ HEN0.out.b).mono ?_
              rw [HL.out]
              rintro e w1 ⟨rfl, hbs⟩
              have HEN1 := Lib.hid (HEN0.out.more hbs)
              clear hbs HEN0 
              have ex0 : w1.cell? ⟨w.heap.size, 0, none⟩ = some (.slice (some ⟨b, 0, none⟩) t.l.length lc) := HEN1.out.x0
              have ex1 : w1.cell? ⟨w.heap.size, 1, none⟩ = some (.int .i64 t.last) := HEN1.out.x1
              have ex2 : w1.cell? ⟨w.heap.size, 2, none⟩ = some (.slice ea en ec) := HEN1.out.x2
              have ez0 : w1.cell? ⟨w.heap.size + 1, 0, none⟩ = some (.slice none 0 0) := HEN1.out.z0
              have ef0 : w1.frozen? ⟨w.heap.size + 1, 0, none⟩ = false := HEN1.out.zf 0
              have ez1 : w1.cell? ⟨w.heap.size + 1, 1, none⟩ = some (.int .i64 0) := HEN1.out.z1
              have ef1 : w1.frozen? ⟨w.heap.size + 1, 1, none⟩ = false := HEN1.out.zf 1
              have ez2 : w1.cell? ⟨w.heap.size + 1, 2, none⟩ = some (.slice none 0 0) := HEN1.out.z2
              have ef2 : w1.frozen? ⟨w.heap.size + 1, 2, none⟩ = false := HEN1.out.zf 2
              go_wp2_with (first | (go_at_call 35; refine (Sig.ris_any s _).mono ?_; rw [HIS.out]; rintro e w' ⟨rfl, rfl⟩) | (go_at_call 39; refine hold ?_))
              refine Hold.out ?_
              refine (Sig.rfixed_any s _).mono ?_
              rw [HFX.out]
              rintro e w2 ⟨rfl, hbs⟩
              have HEN2 := Lib.hid (HEN1.out.more hbs)
              clear hbs HEN1 ex0 ex1 ex2 ez0 ez1 ez2 ef0 ef1 ef2
              have ex0 : w2.cell? ⟨w.heap.size, 0, none⟩ = some (.slice (some ⟨b, 0, none⟩) t.l.length lc) := HEN2.out.x0
              have ex1 : w2.cell? ⟨w.heap.size, 1, none⟩ = some (.int .i64 t.last) := HEN2.out.x1
              have ex2 : w2.cell? ⟨w.heap.size, 2, none⟩ = some (.slice ea en ec) := HEN2.out.x2
              have ez0 : w2.cell? ⟨w.heap.size + 1, 0, none⟩ = some (.slice none 0 0) := HEN2.out.z0
              have ef0 : w2.frozen? ⟨w.heap.size + 1, 0, none⟩ = false := HEN2.out.zf 0
              have ez1 : w2.cell? ⟨w.heap.size + 1, 1, none⟩ = some (.int .i64 0) := HEN2.out.z1
              have ef1 : w2.frozen? ⟨w.heap.size + 1, 1, none⟩ = false := HEN2.out.zf 1
              have ez2 : w2.cell? ⟨w.heap.size + 1, 2, none⟩ = some (.slice none 0 0) := HEN2.out.z2
              have ef2 : w2.frozen? ⟨w.heap.size + 1, 2, none⟩ = false := HEN2.out.zf 2
              go_wp2_with fail
              refine (HA.out _ HEN2.out.b).mono ?_

              rintro e w3 ⟨rfl, hbs⟩
              have HEN3 := Lib.hid (HEN2.out.more hbs)
              clear hbs HEN2 ex0 ex1 ex2 ez0 ez1 ez2 ef0 ef1 ef2
              have ex0 : w3.cell? ⟨w.heap.size, 0, none⟩ = some (.slice (some ⟨b, 0, none⟩) t.l.length lc) := HEN3.out.x0
              have ex1 : w3.cell? ⟨w.heap.size, 1, none⟩ = some (.int .i64 t.last) := HEN3.out.x1
              have ex2 : w3.cell? ⟨w.heap.size, 2, none⟩ = some (.slice ea en ec) := HEN3.out.x2
              have r0 : w3.cell? ⟨b, k * 7, none⟩ = some (.int .i64 p.pid) := HRD.out w3 HEN3.out.b 0 _ rfl
              have r1 : w3.cell? ⟨b, k * 7 + 1, none⟩ = some (.int .i64 p.par) := HRD.out w3 HEN3.out.b 1 _ rfl
              have r2 : w3.cell? ⟨b, k * 7 + 2, none⟩ = some (.int .i64 p.st) := HRD.out w3 HEN3.out.b 2 _ rfl
              have r3 : w3.cell? ⟨b, k * 7 + 3, none⟩ = some (.bool p.live) := HRD.out w3 HEN3.out.b 3 _ rfl
              have r4 : w3.cell? ⟨b, k * 7 + 4, none⟩ = some (.int .u32 p.ig) := HRD.out w3 HEN3.out.b 4 _ rfl
              have r5 : w3.cell? ⟨b, k * 7 + 5, none⟩ = some (.int .u32 p.ca) := HRD.out w3 HEN3.out.b 5 _ rfl
              have r6 : w3.cell? ⟨b, k * 7 + 6, none⟩ = some (.int .u32 p.pe) := HRD.out w3 HEN3.out.b 6 _ rfl
              go_wp2_with fail
              have hb3 := below_alloc w3 (.cells #[.int .i64 p.pid, .int .i64 p.par, .int .i64 p.st, .bool p.live, .int .u32 p.ig, .int .u32 p.ca, .int .u32 p.pe] 73)
              have hbx := heap_alloc_new w3 (.cells #[.int .i64 p.pid, .int .i64 p.par, .int .i64 p.st, .bool p.live, .int .u32 p.ig, .int .u32 p.ca, .int .u32 p.pe] 73)
              have hen4 := HEN3.out.more hb3
              have HLT := Lib.hid (Array.getElem?_eq_some_iff.1 HEN3.out.x).1
              have hpx : ∀ i, (w3.alloc (.cells #[.int .i64 p.pid, .int .i64 p.par, .int .i64 p.st, .bool p.live, .int .u32 p.ig, .int .u32 p.ca, .int .u32 p.pe] 73)).frozen? ⟨w3.heap.size, i, none⟩ = false := fun i => frozen_of_row _ _ _ _ _ hbx
              clear r0 r1 r2 r3 r4 r5 r6 ex0 ex1 ex2
              generalize (w3.alloc (.cells #[.int .i64 p.pid, .int .i64 p.par, .int .i64 p.st, .bool p.live, .int .u32 p.ig, .int .u32 p.ca, .int .u32 p.pe] 73)) = w4 at hb3 hbx hen4 hpx ⊢
              have HEN4 := Lib.hid hen4; have HBX := Lib.hid hbx
              clear hb3 hbx hen4 hpx
              have px0 : w4.cell? ⟨w3.heap.size, 0, none⟩ = some (.int .i64 p.pid) := Lib.cell_of_heap HBX.out 0
              have px1 : w4.cell? ⟨w3.heap.size, 1, none⟩ = some (.int .i64 p.par) := Lib.cell_of_heap HBX.out 1
              have px2 : w4.cell? ⟨w3.heap.size, 2, none⟩ = some (.int .i64 p.st) := Lib.cell_of_heap HBX.out 2
              have px3 : w4.cell? ⟨w3.heap.size, 3, none⟩ = some (.bool p.live) := Lib.cell_of_heap HBX.out 3
              have px4 : w4.cell? ⟨w3.heap.size, 4, none⟩ = some (.int .u32 (p.ig : Nat)) := Lib.cell_of_heap HBX.out 4
              have px5 : w4.cell? ⟨w3.heap.size, 5, none⟩ = some (.int .u32 (p.ca : Nat)) := Lib.cell_of_heap HBX.out 5
              have px6 : w4.cell? ⟨w3.heap.size, 6, none⟩ = some (.int .u32 (p.pe : Nat)) := Lib.cell_of_heap HBX.out 6
              have pf4 : w4.frozen? ⟨w3.heap.size, 4, none⟩ = false := frozen_of_row _ _ _ _ _ HBX.out
              have pf5 : w4.frozen? ⟨w3.heap.size, 5, none⟩ = false := frozen_of_row _ _ _ _ _ HBX.out
              have pf6 : w4.frozen? ⟨w3.heap.size, 6, none⟩ = false := frozen_of_row _ _ _ _ _ HBX.out
              go_wp2_with (go_at_call 57; refine hold ?_)
              refine Hold.out ?_
              refine (Sig.rwithout_any p.ig s HP1.out w4).mono ?_
              rintro e w' ⟨rfl, rfl⟩
              go_wp2_with (go_at_call 57; refine hold ?_)
              refine Hold.out ?_
              have hen' := HEN4.out.set (a := ⟨w3.heap.size, 4, none⟩) HEN3.out.far (.int .u32 (p.ig &&& (4294967295 - Sig.bitN s) : Nat))
              have hbx' : (w4.setCell ⟨w3.heap.size, 4, none⟩ (.int .u32 (p.ig &&& (4294967295 - Sig.bitN s) : Nat))).heap[w3.heap.size]? = some (.cells #[.int .i64 p.pid, .int .i64 p.par, .int .i64 p.st, .bool p.live, .int .u32 (p.ig &&& (4294967295 - Sig.bitN s) : Nat), .int .u32 (p.ca : Nat), .int .u32 (p.pe : Nat)] 73 (0, 0)) := heap_setCell_same _ _ 4 _ _ _ HBX.out
              clear px0 px1 px2 px3 px4 px5 px6 pf4 pf5 pf6
              generalize w4.setCell ⟨w3.heap.size, 4, none⟩ (.int .u32 (p.ig &&& (4294967295 - Sig.bitN s) : Nat)) = w5 at hen' hbx' ⊢
              have HEN4x := Lib.hid hen'; have HBXx := Lib.hid hbx'
              clear hen' hbx' HEN4 HBX
              have px0 : w5.cell? ⟨w3.heap.size, 0, none⟩ = some (.int .i64 p.pid) := Lib.cell_of_heap HBXx.out 0
              have px1 : w5.cell? ⟨w3.heap.size, 1, none⟩ = some (.int .i64 p.par) := Lib.cell_of_heap HBXx.out 1
              have px2 : w5.cell? ⟨w3.heap.size, 2, none⟩ = some (.int .i64 p.st) := Lib.cell_of_heap HBXx.out 2
              have px3 : w5.cell? ⟨w3.heap.size, 3, none⟩ = some (.bool p.live) := Lib.cell_of_heap HBXx.out 3
              have px4 : w5.cell? ⟨w3.heap.size, 4, none⟩ = some (.int .u32 (p.ig &&& (4294967295 - Sig.bitN s) : Nat)) := Lib.cell_of_heap HBXx.out 4
              have px5 : w5.cell? ⟨w3.heap.size, 5, none⟩ = some (.int .u32 (p.ca : Nat)) := Lib.cell_of_heap HBXx.out 5
              have px6 : w5.cell? ⟨w3.heap.size, 6, none⟩ = some (.int .u32 (p.pe : Nat)) := Lib.cell_of_heap HBXx.out 6
              have pf4 : w5.frozen? ⟨w3.heap.size, 4, none⟩ = false := frozen_of_row _ _ _ _ _ HBXx.out
              have pf5 : w5.frozen? ⟨w3.heap.size, 5, none⟩ = false := frozen_of_row _ _ _ _ _ HBXx.out
              have pf6 : w5.frozen? ⟨w3.heap.size, 6, none⟩ = false := frozen_of_row _ _ _ _ _ HBXx.out
              refine (Sig.rwithout_any p.ca s HP2.out w5).mono ?_
              rintro e w' ⟨rfl, rfl⟩
              go_wp2_with (go_at_call 57; refine hold ?_)
              refine Hold.out ?_
              have hen' := HEN4x.out.set (a := ⟨w3.heap.size, 5, none⟩) HEN3.out.far (.int .u32 (p.ca &&& (4294967295 - Sig.bitN s) : Nat))
              have hbx' : (w5.setCell ⟨w3.heap.size, 5, none⟩ (.int .u32 (p.ca &&& (4294967295 - Sig.bitN s) : Nat))).heap[w3.heap.size]? = some (.cells #[.int .i64 p.pid, .int .i64 p.par, .int .i64 p.st, .bool p.live, .int .u32 (p.ig &&& (4294967295 - Sig.bitN s) : Nat), .int .u32 (p.ca &&& (4294967295 - Sig.bitN s) : Nat), .int .u32 (p.pe : Nat)] 73 (0, 0)) := heap_setCell_same _ _ 5 _ _ _ HBXx.out
              clear px0 px1 px2 px3 px4 px5 px6 pf4 pf5 pf6
              generalize w5.setCell ⟨w3.heap.size, 5, none⟩ (.int .u32 (p.ca &&& (4294967295 - Sig.bitN s) : Nat)) = w6 at hen' hbx' ⊢
              have HEN4xx := Lib.hid hen'; have HBXxx := Lib.hid hbx'
              clear hen' hbx' HEN4x HBXx
              have px0 : w6.cell? ⟨w3.heap.size, 0, none⟩ = some (.int .i64 p.pid) := Lib.cell_of_heap HBXxx.out 0
              have px1 : w6.cell? ⟨w3.heap.size, 1, none⟩ = some (.int .i64 p.par) := Lib.cell_of_heap HBXxx.out 1
              have px2 : w6.cell? ⟨w3.heap.size, 2, none⟩ = some (.int .i64 p.st) := Lib.cell_of_heap HBXxx.out 2
              have px3 : w6.cell? ⟨w3.heap.size, 3, none⟩ = some (.bool p.live) := Lib.cell_of_heap HBXxx.out 3
              have px4 : w6.cell? ⟨w3.heap.size, 4, none⟩ = some (.int .u32 (p.ig &&& (4294967295 - Sig.bitN s) : Nat)) := Lib.cell_of_heap HBXxx.out 4
              have px5 : w6.cell? ⟨w3.heap.size, 5, none⟩ = some (.int .u32 (p.ca &&& (4294967295 - Sig.bitN s) : Nat)) := Lib.cell_of_heap HBXxx.out 5
              have px6 : w6.cell? ⟨w3.heap.size, 6, none⟩ = some (.int .u32 (p.pe : Nat)) := Lib.cell_of_heap HBXxx.out 6
              have pf4 : w6.frozen? ⟨w3.heap.size, 4, none⟩ = false := frozen_of_row _ _ _ _ _ HBXxx.out
              have pf5 : w6.frozen? ⟨w3.heap.size, 5, none⟩ = false := frozen_of_row _ _ _ _ _ HBXxx.out
              have pf6 : w6.frozen? ⟨w3.heap.size, 6, none⟩ = false := frozen_of_row _ _ _ _ _ HBXxx.out
              refine (Sig.rwithout_any p.pe s HP3.out w6).mono ?_
              rintro e w' ⟨rfl, rfl⟩
              have ex0 : w6.cell? ⟨w.heap.size, 0, none⟩ = some (.slice (some ⟨b, 0, none⟩) t.l.length lc) := HEN4xx.out.x0
              have ex1 : w6.cell? ⟨w.heap.size, 1, none⟩ = some (.int .i64 t.last) := HEN4xx.out.x1
              have ex2 : w6.cell? ⟨w.heap.size, 2, none⟩ = some (.slice ea en ec) := HEN4xx.out.x2
              have hne : w.heap.size ≠ w3.heap.size := Nat.ne_of_lt HLT.out
              have hne' : w3.heap.size ≠ w.heap.size := fun e => hne e.symm
              go_wp2_with (go_at_call 52; refine hold ?_)
              have hen9 := HEN4xx.out.set (a := ⟨w3.heap.size, 6, none⟩) HEN3.out.far (.int .u32 (p.pe &&& (4294967295 - Sig.bitN s) : Nat))
              clear ex0 ex1 ex2 px0 px1 px2 px3 px4 px5 px6 pf4 pf5 pf6 hne hne'
              refine Hold.out ((HW.out _ hen9.b).mono ?_)
              rintro e w5 ⟨lv', rfl, hch⟩
              have HEN5 := Lib.hid (hen9.more hch.below)
              have HSZ5 := Lib.hid hen9.b.size
              obtain ⟨la', ln', lc', rfl⟩ := ends_shape hch.rt.l
              have HCH := Lib.hid hch
              clear hch hen9
              have ez0 : w5.cell? ⟨w.heap.size + 1, 0, none⟩ = some (.slice none 0 0) := HEN5.out.z0
              have ef0 : w5.frozen? ⟨w.heap.size + 1, 0, none⟩ = false := HEN5.out.zf 0
              have ez1 : w5.cell? ⟨w.heap.size + 1, 1, none⟩ = some (.int .i64 0) := HEN5.out.z1
              have ef1 : w5.frozen? ⟨w.heap.size + 1, 1, none⟩ = false := HEN5.out.zf 1
              have ez2 : w5.cell? ⟨w.heap.size + 1, 2, none⟩ = some (.slice none 0 0) := HEN5.out.z2
              have ef2 : w5.frozen? ⟨w.heap.size + 1, 2, none⟩ = false := HEN5.out.zf 2
              go_wp2_with fail
              have hfin := fin_row HEN5.out.b HEN5.out.z HCH.out.rt (fun j e => (HCH.out.l j e).imp id (Nat.le_trans HSZ5.out)) (fun j e => (HCH.out.e j e).imp id (Nat.le_trans HSZ5.out))
              exact bodyPost_ret (results_row_tmp rfl _ _ (w.heap.size + 1) _ _ _ _ rfl hfin.1 Try.underlying31 rfl (by kernel_rfl)) rfl ⟨_, _, rfl, hfin.2⟩
            · have hset : putS Sig.fixedB t pid s 1 = ({ t with l := t.l.set k { p with ig := add (del p.ig s) s, ca := del p.ca s, pe := del p.pe s } }, true) := by
                rw [← put_set O hf hk (fun p => { p with ig := add (del p.ig s) s, ca := del p.ca s, pe := del p.pe s })]
                unfold putS
                rw [if_neg (by rw [hl, his, hfx]; decide)]; rfl
              rw [hset]
              have HW := fun w' (hb : Below w.heap.size w w') => rwith_any (HR.out.stay hb) hn (Nat.le_trans hB hb.size) k hlt { p with ig := add (del p.ig s) s, ca := del p.ca s, pe := del p.pe s }
              have HRD := Lib.hid rd; have HP1 := Lib.hid hp1; have HP2 := Lib.hid hp2; have HP3 := Lib.hid hp3
              have HIS := Lib.hid (show Sig.isB s = true from his); have HFX := Lib.hid hfx; have HL := Lib.hid hl
              unfold tv at HA HV HW ⊢
              have HA := Lib.hid HA; have HW := Lib.hid HW
              clear hl his hfx hf hpl hat hk hp1 hp2 hp3 hset e2 rd O S
              go_enter Try.func19, Try.ntmps19
              go_wp2_with fail
              refine (HV.out _ HEN0.out.b).mono ?_
              rw [HL.out]
              rintro e w1 ⟨rfl, hbs⟩
              have HEN1 := Lib.hid (HEN0.out.more hbs)
              clear hbs HEN0 
              have ex0 : w1.cell? ⟨w.heap.size, 0, none⟩ = some (.slice (some ⟨b, 0, none⟩) t.l.length lc) := HEN1.out.x0
              have ex1 : w1.cell? ⟨w.heap.size, 1, none⟩ = some (.int .i64 t.last) := HEN1.out.x1
              have ex2 : w1.cell? ⟨w.heap.size, 2, none⟩ = some (.slice ea en ec) := HEN1.out.x2
              have ez0 : w1.cell? ⟨w.heap.size + 1, 0, none⟩ = some (.slice none 0 0) := HEN1.out.z0
              have ef0 : w1.frozen? ⟨w.heap.size + 1, 0, none⟩ = false := HEN1.out.zf 0
              have ez1 : w1.cell? ⟨w.heap.size + 1, 1, none⟩ = some (.int .i64 0) := HEN1.out.z1
              have ef1 : w1.frozen? ⟨w.heap.size + 1, 1, none⟩ = false := HEN1.out.zf 1
              have ez2 : w1.cell? ⟨w.heap.size + 1, 2, none⟩ = some (.slice none 0 0) := HEN1.out.z2
              have ef2 : w1.frozen? ⟨w.heap.size + 1, 2, none⟩ = false := HEN1.out.zf 2
              go_wp2_with (first | (go_at_call 35; refine (Sig.ris_any s _).mono ?_; rw [HIS.out]; rintro e w' ⟨rfl, rfl⟩) | (go_at_call 39; refine hold ?_))
              refine Hold.out ?_
              refine (Sig.rfixed_any s _).mono ?_
              rw [HFX.out]
              rintro e w2 ⟨rfl, hbs⟩
              have HEN2 := Lib.hid (HEN1.out.more hbs)
              clear hbs HEN1 ex0 ex1 ex2 ez0 ez1 ez2 ef0 ef1 ef2
              have ex0 : w2.cell? ⟨w.heap.size, 0, none⟩ = some (.slice (some ⟨b, 0, none⟩) t.l.length lc) := HEN2.out.x0
              have ex1 : w2.cell? ⟨w.heap.size, 1, none⟩ = some (.int .i64 t.last) := HEN2.out.x1
              have ex2 : w2.cell? ⟨w.heap.size, 2, none⟩ = some (.slice ea en ec) := HEN2.out.x2
              have ez0 : w2.cell? ⟨w.heap.size + 1, 0, none⟩ = some (.slice none 0 0) := HEN2.out.z0
              have ef0 : w2.frozen? ⟨w.heap.size + 1, 0, none⟩ = false := HEN2.out.zf 0
              have ez1 : w2.cell? ⟨w.heap.size + 1, 1, none⟩ = some (.int .i64 0) := HEN2.out.z1
              have ef1 : w2.frozen? ⟨w.heap.size + 1, 1, none⟩ = false := HEN2.out.zf 1
              have ez2 : w2.cell? ⟨w.heap.size + 1, 2, none⟩ = some (.slice none 0 0) := HEN2.out.z2
              have ef2 : w2.frozen? ⟨w.heap.size + 1, 2, none⟩ = false := HEN2.out.zf 2
              go_wp2_with fail
              refine (HA.out _ HEN2.out.b).mono ?_

              rintro e w3 ⟨rfl, hbs⟩
              have HEN3 := Lib.hid (HEN2.out.more hbs)
              clear hbs HEN2 ex0 ex1 ex2 ez0 ez1 ez2 ef0 ef1 ef2
              have ex0 : w3.cell? ⟨w.heap.size, 0, none⟩ = some (.slice (some ⟨b, 0, none⟩) t.l.length lc) := HEN3.out.x0
              have ex1 : w3.cell? ⟨w.heap.size, 1, none⟩ = some (.int .i64 t.last) := HEN3.out.x1
              have ex2 : w3.cell? ⟨w.heap.size, 2, none⟩ = some (.slice ea en ec) := HEN3.out.x2
              have r0 : w3.cell? ⟨b, k * 7, none⟩ = some (.int .i64 p.pid) := HRD.out w3 HEN3.out.b 0 _ rfl
              have r1 : w3.cell? ⟨b, k * 7 + 1, none⟩ = some (.int .i64 p.par) := HRD.out w3 HEN3.out.b 1 _ rfl
              have r2 : w3.cell? ⟨b, k * 7 + 2, none⟩ = some (.int .i64 p.st) := HRD.out w3 HEN3.out.b 2 _ rfl
              have r3 : w3.cell? ⟨b, k * 7 + 3, none⟩ = some (.bool p.live) := HRD.out w3 HEN3.out.b 3 _ rfl
              have r4 : w3.cell? ⟨b, k * 7 + 4, none⟩ = some (.int .u32 p.ig) := HRD.out w3 HEN3.out.b 4 _ rfl
              have r5 : w3.cell? ⟨b, k * 7 + 5, none⟩ = some (.int .u32 p.ca) := HRD.out w3 HEN3.out.b 5 _ rfl
              have r6 : w3.cell? ⟨b, k * 7 + 6, none⟩ = some (.int .u32 p.pe) := HRD.out w3 HEN3.out.b 6 _ rfl
              go_wp2_with fail
              have hb3 := below_alloc w3 (.cells #[.int .i64 p.pid, .int .i64 p.par, .int .i64 p.st, .bool p.live, .int .u32 p.ig, .int .u32 p.ca, .int .u32 p.pe] 73)
              have hbx := heap_alloc_new w3 (.cells #[.int .i64 p.pid, .int .i64 p.par, .int .i64 p.st, .bool p.live, .int .u32 p.ig, .int .u32 p.ca, .int .u32 p.pe] 73)
              have hen4 := HEN3.out.more hb3
              have HLT := Lib.hid (Array.getElem?_eq_some_iff.1 HEN3.out.x).1
              have hpx : ∀ i, (w3.alloc (.cells #[.int .i64 p.pid, .int .i64 p.par, .int .i64 p.st, .bool p.live, .int .u32 p.ig, .int .u32 p.ca, .int .u32 p.pe] 73)).frozen? ⟨w3.heap.size, i, none⟩ = false := fun i => frozen_of_row _ _ _ _ _ hbx
              clear r0 r1 r2 r3 r4 r5 r6 ex0 ex1 ex2
              generalize (w3.alloc (.cells #[.int .i64 p.pid, .int .i64 p.par, .int .i64 p.st, .bool p.live, .int .u32 p.ig, .int .u32 p.ca, .int .u32 p.pe] 73)) = w4 at hb3 hbx hen4 hpx ⊢
              have HEN4 := Lib.hid hen4; have HBX := Lib.hid hbx
              clear hb3 hbx hen4 hpx
              have px0 : w4.cell? ⟨w3.heap.size, 0, none⟩ = some (.int .i64 p.pid) := Lib.cell_of_heap HBX.out 0
              have px1 : w4.cell? ⟨w3.heap.size, 1, none⟩ = some (.int .i64 p.par) := Lib.cell_of_heap HBX.out 1
              have px2 : w4.cell? ⟨w3.heap.size, 2, none⟩ = some (.int .i64 p.st) := Lib.cell_of_heap HBX.out 2
              have px3 : w4.cell? ⟨w3.heap.size, 3, none⟩ = some (.bool p.live) := Lib.cell_of_heap HBX.out 3
              have px4 : w4.cell? ⟨w3.heap.size, 4, none⟩ = some (.int .u32 (p.ig : Nat)) := Lib.cell_of_heap HBX.out 4
              have px5 : w4.cell? ⟨w3.heap.size, 5, none⟩ = some (.int .u32 (p.ca : Nat)) := Lib.cell_of_heap HBX.out 5
              have px6 : w4.cell? ⟨w3.heap.size, 6, none⟩ = some (.int .u32 (p.pe : Nat)) := Lib.cell_of_heap HBX.out 6
              have pf4 : w4.frozen? ⟨w3.heap.size, 4, none⟩ = false := frozen_of_row _ _ _ _ _ HBX.out
              have pf5 : w4.frozen? ⟨w3.heap.size, 5, none⟩ = false := frozen_of_row _ _ _ _ _ HBX.out
              have pf6 : w4.frozen? ⟨w3.heap.size, 6, none⟩ = false := frozen_of_row _ _ _ _ _ HBX.out
              go_wp2_with (go_at_call 57; refine hold ?_)
              refine Hold.out ?_
              refine (Sig.rwithout_any p.ig s HP1.out w4).mono ?_
              rintro e w' ⟨rfl, rfl⟩
              go_wp2_with (go_at_call 57; refine hold ?_)
              refine Hold.out ?_
              have hen' := HEN4.out.set (a := ⟨w3.heap.size, 4, none⟩) HEN3.out.far (.int .u32 (p.ig &&& (4294967295 - Sig.bitN s) : Nat))
              have hbx' : (w4.setCell ⟨w3.heap.size, 4, none⟩ (.int .u32 (p.ig &&& (4294967295 - Sig.bitN s) : Nat))).heap[w3.heap.size]? = some (.cells #[.int .i64 p.pid, .int .i64 p.par, .int .i64 p.st, .bool p.live, .int .u32 (p.ig &&& (4294967295 - Sig.bitN s) : Nat), .int .u32 (p.ca : Nat), .int .u32 (p.pe : Nat)] 73 (0, 0)) := heap_setCell_same _ _ 4 _ _ _ HBX.out
              clear px0 px1 px2 px3 px4 px5 px6 pf4 pf5 pf6
              generalize w4.setCell ⟨w3.heap.size, 4, none⟩ (.int .u32 (p.ig &&& (4294967295 - Sig.bitN s) : Nat)) = w5 at hen' hbx' ⊢
              have HEN4x := Lib.hid hen'; have HBXx := Lib.hid hbx'
              clear hen' hbx' HEN4 HBX
              have px0 : w5.cell? ⟨w3.heap.size, 0, none⟩ = some (.int .i64 p.pid) := Lib.cell_of_heap HBXx.out 0
              have px1 : w5.cell? ⟨w3.heap.size, 1, none⟩ = some (.int .i64 p.par) := Lib.cell_of_heap HBXx.out 1
              have px2 : w5.cell? ⟨w3.heap.size, 2, none⟩ = some (.int .i64 p.st) := Lib.cell_of_heap HBXx.out 2
              have px3 : w5.cell? ⟨w3.heap.size, 3, none⟩ = some (.bool p.live) := Lib.cell_of_heap HBXx.out 3
              have px4 : w5.cell? ⟨w3.heap.size, 4, none⟩ = some (.int .u32 (p.ig &&& (4294967295 - Sig.bitN s) : Nat)) := Lib.cell_of_heap HBXx.out 4
              have px5 : w5.cell? ⟨w3.heap.size, 5, none⟩ = some (.int .u32 (p.ca : Nat)) := Lib.cell_of_heap HBXx.out 5
              have px6 : w5.cell? ⟨w3.heap.size, 6, none⟩ = some (.int .u32 (p.pe : Nat)) := Lib.cell_of_heap HBXx.out 6
              have pf4 : w5.frozen? ⟨w3.heap.size, 4, none⟩ = false := frozen_of_row _ _ _ _ _ HBXx.out
              have pf5 : w5.frozen? ⟨w3.heap.size, 5, none⟩ = false := frozen_of_row _ _ _ _ _ HBXx.out
              have pf6 : w5.frozen? ⟨w3.heap.size, 6, none⟩ = false := frozen_of_row _ _ _ _ _ HBXx.out
              refine (Sig.rwithout_any p.ca s HP2.out w5).mono ?_
              rintro e w' ⟨rfl, rfl⟩
              go_wp2_with (go_at_call 57; refine hold ?_)
              refine Hold.out ?_
              have hen' := HEN4x.out.set (a := ⟨w3.heap.size, 5, none⟩) HEN3.out.far (.int .u32 (p.ca &&& (4294967295 - Sig.bitN s) : Nat))
              have hbx' : (w5.setCell ⟨w3.heap.size, 5, none⟩ (.int .u32 (p.ca &&& (4294967295 - Sig.bitN s) : Nat))).heap[w3.heap.size]? = some (.cells #[.int .i64 p.pid, .int .i64 p.par, .int .i64 p.st, .bool p.live, .int .u32 (p.ig &&& (4294967295 - Sig.bitN s) : Nat), .int .u32 (p.ca &&& (4294967295 - Sig.bitN s) : Nat), .int .u32 (p.pe : Nat)] 73 (0, 0)) := heap_setCell_same _ _ 5 _ _ _ HBXx.out
              clear px0 px1 px2 px3 px4 px5 px6 pf4 pf5 pf6
              generalize w5.setCell ⟨w3.heap.size, 5, none⟩ (.int .u32 (p.ca &&& (4294967295 - Sig.bitN s) : Nat)) = w6 at hen' hbx' ⊢
              have HEN4xx := Lib.hid hen'; have HBXxx := Lib.hid hbx'
              clear hen' hbx' HEN4x HBXx
              have px0 : w6.cell? ⟨w3.heap.size, 0, none⟩ = some (.int .i64 p.pid) := Lib.cell_of_heap HBXxx.out 0
              have px1 : w6.cell? ⟨w3.heap.size, 1, none⟩ = some (.int .i64 p.par) := Lib.cell_of_heap HBXxx.out 1
              have px2 : w6.cell? ⟨w3.heap.size, 2, none⟩ = some (.int .i64 p.st) := Lib.cell_of_heap HBXxx.out 2
              have px3 : w6.cell? ⟨w3.heap.size, 3, none⟩ = some (.bool p.live) := Lib.cell_of_heap HBXxx.out 3
              have px4 : w6.cell? ⟨w3.heap.size, 4, none⟩ = some (.int .u32 (p.ig &&& (4294967295 - Sig.bitN s) : Nat)) := Lib.cell_of_heap HBXxx.out 4
              have px5 : w6.cell? ⟨w3.heap.size, 5, none⟩ = some (.int .u32 (p.ca &&& (4294967295 - Sig.bitN s) : Nat)) := Lib.cell_of_heap HBXxx.out 5
              have px6 : w6.cell? ⟨w3.heap.size, 6, none⟩ = some (.int .u32 (p.pe : Nat)) := Lib.cell_of_heap HBXxx.out 6
              have pf4 : w6.frozen? ⟨w3.heap.size, 4, none⟩ = false := frozen_of_row _ _ _ _ _ HBXxx.out
              have pf5 : w6.frozen? ⟨w3.heap.size, 5, none⟩ = false := frozen_of_row _ _ _ _ _ HBXxx.out
              have pf6 : w6.frozen? ⟨w3.heap.size, 6, none⟩ = false := frozen_of_row _ _ _ _ _ HBXxx.out
              refine (Sig.rwithout_any p.pe s HP3.out w6).mono ?_
              rintro e w' ⟨rfl, rfl⟩
              go_wp2_with (go_at_call 40; refine hold ?_)
              refine Hold.out ?_
              have hen' := HEN4xx.out.set (a := ⟨w3.heap.size, 6, none⟩) HEN3.out.far (.int .u32 (p.pe &&& (4294967295 - Sig.bitN s) : Nat))
              have hbx' : (w6.setCell ⟨w3.heap.size, 6, none⟩ (.int .u32 (p.pe &&& (4294967295 - Sig.bitN s) : Nat))).heap[w3.heap.size]? = some (.cells #[.int .i64 p.pid, .int .i64 p.par, .int .i64 p.st, .bool p.live, .int .u32 (p.ig &&& (4294967295 - Sig.bitN s) : Nat), .int .u32 (p.ca &&& (4294967295 - Sig.bitN s) : Nat), .int .u32 (p.pe &&& (4294967295 - Sig.bitN s) : Nat)] 73 (0, 0)) := heap_setCell_same _ _ 6 _ _ _ HBXxx.out
              clear px0 px1 px2 px3 px4 px5 px6 pf4 pf5 pf6
              generalize w6.setCell ⟨w3.heap.size, 6, none⟩ (.int .u32 (p.pe &&& (4294967295 - Sig.bitN s) : Nat)) = w7 at hen' hbx' ⊢
              have HEN4xxx := Lib.hid hen'; have HBXxxx := Lib.hid hbx'
              clear hen' hbx' HEN4xx HBXxx
              have px0 : w7.cell? ⟨w3.heap.size, 0, none⟩ = some (.int .i64 p.pid) := Lib.cell_of_heap HBXxxx.out 0
              have px1 : w7.cell? ⟨w3.heap.size, 1, none⟩ = some (.int .i64 p.par) := Lib.cell_of_heap HBXxxx.out 1
              have px2 : w7.cell? ⟨w3.heap.size, 2, none⟩ = some (.int .i64 p.st) := Lib.cell_of_heap HBXxxx.out 2
              have px3 : w7.cell? ⟨w3.heap.size, 3, none⟩ = some (.bool p.live) := Lib.cell_of_heap HBXxxx.out 3
              have px4 : w7.cell? ⟨w3.heap.size, 4, none⟩ = some (.int .u32 (p.ig &&& (4294967295 - Sig.bitN s) : Nat)) := Lib.cell_of_heap HBXxxx.out 4
              have px5 : w7.cell? ⟨w3.heap.size, 5, none⟩ = some (.int .u32 (p.ca &&& (4294967295 - Sig.bitN s) : Nat)) := Lib.cell_of_heap HBXxxx.out 5
              have px6 : w7.cell? ⟨w3.heap.size, 6, none⟩ = some (.int .u32 (p.pe &&& (4294967295 - Sig.bitN s) : Nat)) := Lib.cell_of_heap HBXxxx.out 6
              have pf4 : w7.frozen? ⟨w3.heap.size, 4, none⟩ = false := frozen_of_row _ _ _ _ _ HBXxxx.out
              have pf5 : w7.frozen? ⟨w3.heap.size, 5, none⟩ = false := frozen_of_row _ _ _ _ _ HBXxxx.out
              have pf6 : w7.frozen? ⟨w3.heap.size, 6, none⟩ = false := frozen_of_row _ _ _ _ _ HBXxxx.out
              refine (Sig.rwith_any (p.ig &&& (4294967295 - Sig.bitN s)) s (del_lt HP1.out s) w7).mono ?_
              rintro e w' ⟨rfl, rfl⟩
              have ex0 : w7.cell? ⟨w.heap.size, 0, none⟩ = some (.slice (some ⟨b, 0, none⟩) t.l.length lc) := HEN4xxx.out.x0
              have ex1 : w7.cell? ⟨w.heap.size, 1, none⟩ = some (.int .i64 t.last) := HEN4xxx.out.x1
              have ex2 : w7.cell? ⟨w.heap.size, 2, none⟩ = some (.slice ea en ec) := HEN4xxx.out.x2
              have hne : w.heap.size ≠ w3.heap.size := Nat.ne_of_lt HLT.out
              have hne' : w3.heap.size ≠ w.heap.size := fun e => hne e.symm
              go_wp2_with (go_at_call 52; refine hold ?_)
              have hen9 := HEN4xxx.out.set (a := ⟨w3.heap.size, 4, none⟩) HEN3.out.far (.int .u32 ((p.ig &&& (4294967295 - Sig.bitN s)) ||| Sig.bitN s : Nat))
              clear ex0 ex1 ex2 px0 px1 px2 px3 px4 px5 px6 pf4 pf5 pf6 hne hne'
              refine Hold.out ((HW.out _ hen9.b).mono ?_)
              rintro e w5 ⟨lv', rfl, hch⟩
              have HEN5 := Lib.hid (hen9.more hch.below)
              have HSZ5 := Lib.hid hen9.b.size
              obtain ⟨la', ln', lc', rfl⟩ := ends_shape hch.rt.l
              have HCH := Lib.hid hch
              clear hch hen9
              have ez0 : w5.cell? ⟨w.heap.size + 1, 0, none⟩ = some (.slice none 0 0) := HEN5.out.z0
              have ef0 : w5.frozen? ⟨w.heap.size + 1, 0, none⟩ = false := HEN5.out.zf 0
              have ez1 : w5.cell? ⟨w.heap.size + 1, 1, none⟩ = some (.int .i64 0) := HEN5.out.z1
              have ef1 : w5.frozen? ⟨w.heap.size + 1, 1, none⟩ = false := HEN5.out.zf 1
              have ez2 : w5.cell? ⟨w.heap.size + 1, 2, none⟩ = some (.slice none 0 0) := HEN5.out.z2
              have ef2 : w5.frozen? ⟨w.heap.size + 1, 2, none⟩ = false := HEN5.out.zf 2
              go_wp2_with fail
              have hfin := fin_row HEN5.out.b HEN5.out.z HCH.out.rt (fun j e => (HCH.out.l j e).imp id (Nat.le_trans HSZ5.out)) (fun j e => (HCH.out.e j e).imp id (Nat.le_trans HSZ5.out))
              exact bodyPost_ret (results_row_tmp rfl _ _ (w.heap.size + 1) _ _ _ _ rfl hfin.1 Try.underlying31 rfl (by kernel_rfl)) rfl ⟨_, _, rfl, hfin.2⟩
            · have hset : putS Sig.fixedB t pid s 2 = ({ t with l := t.l.set k { p with ig := del p.ig s, ca := add (del p.ca s) s, pe := p.pe } }, true) := by
                rw [← put_set O hf hk (fun p => { p with ig := del p.ig s, ca := add (del p.ca s) s, pe := p.pe })]
                unfold putS
                rw [if_neg (by rw [hl, his, hfx]; decide)]; rfl
              rw [hset]
              have HW := fun w' (hb : Below w.heap.size w w') => rwith_any (HR.out.stay hb) hn (Nat.le_trans hB hb.size) k hlt { p with ig := del p.ig s, ca := add (del p.ca s) s, pe := p.pe }
              have HRD := Lib.hid rd; have HP1 := Lib.hid hp1; have HP2 := Lib.hid hp2; have HP3 := Lib.hid hp3
              have HIS := Lib.hid (show Sig.isB s = true from his); have HFX := Lib.hid hfx; have HL := Lib.hid hl
              unfold tv at HA HV HW ⊢
              have HA := Lib.hid HA; have HW := Lib.hid HW
              clear hl his hfx hf hpl hat hk hp1 hp2 hp3 hset e2 rd O S
              go_enter Try.func19, Try.ntmps19
              go_wp2_with fail
              refine (HV.out _ HEN0.out.b).mono ?_
              rw [HL.out]
              rintro e w1 ⟨rfl, hbs⟩
              have HEN1 := Lib.hid (HEN0.out.more hbs)
              clear hbs HEN0 
              have ex0 : w1.cell? ⟨w.heap.size, 0, none⟩ = some (.slice (some ⟨b, 0, none⟩) t.l.length lc) := HEN1.out.x0
              have ex1 : w1.cell? ⟨w.heap.size, 1, none⟩ = some (.int .i64 t.last) := HEN1.out.x1
              have ex2 : w1.cell? ⟨w.heap.size, 2, none⟩ = some (.slice ea en ec) := HEN1.out.x2
              have ez0 : w1.cell? ⟨w.heap.size + 1, 0, none⟩ = some (.slice none 0 0) := HEN1.out.z0
              have ef0 : w1.frozen? ⟨w.heap.size + 1, 0, none⟩ = false := HEN1.out.zf 0
              have ez1 : w1.cell? ⟨w.heap.size + 1, 1, none⟩ = some (.int .i64 0) := HEN1.out.z1
              have ef1 : w1.frozen? ⟨w.heap.size + 1, 1, none⟩ = false := HEN1.out.zf 1
              have ez2 : w1.cell? ⟨w.heap.size + 1, 2, none⟩ = some (.slice none 0 0) := HEN1.out.z2
              have ef2 : w1.frozen? ⟨w.heap.size + 1, 2, none⟩ = false := HEN1.out.zf 2
              go_wp2_with (first | (go_at_call 35; refine (Sig.ris_any s _).mono ?_; rw [HIS.out]; rintro e w' ⟨rfl, rfl⟩) | (go_at_call 39; refine hold ?_))
              refine Hold.out ?_
              refine (Sig.rfixed_any s _).mono ?_
              rw [HFX.out]
              rintro e w2 ⟨rfl, hbs⟩
              have HEN2 := Lib.hid (HEN1.out.more hbs)
              clear hbs HEN1 ex0 ex1 ex2 ez0 ez1 ez2 ef0 ef1 ef2
              have ex0 : w2.cell? ⟨w.heap.size, 0, none⟩ = some (.slice (some ⟨b, 0, none⟩) t.l.length lc) := HEN2.out.x0
              have ex1 : w2.cell? ⟨w.heap.size, 1, none⟩ = some (.int .i64 t.last) := HEN2.out.x1
              have ex2 : w2.cell? ⟨w.heap.size, 2, none⟩ = some (.slice ea en ec) := HEN2.out.x2
              have ez0 : w2.cell? ⟨w.heap.size + 1, 0, none⟩ = some (.slice none 0 0) := HEN2.out.z0
              have ef0 : w2.frozen? ⟨w.heap.size + 1, 0, none⟩ = false := HEN2.out.zf 0
              have ez1 : w2.cell? ⟨w.heap.size + 1, 1, none⟩ = some (.int .i64 0) := HEN2.out.z1
              have ef1 : w2.frozen? ⟨w.heap.size + 1, 1, none⟩ = false := HEN2.out.zf 1
              have ez2 : w2.cell? ⟨w.heap.size + 1, 2, none⟩ = some (.slice none 0 0) := HEN2.out.z2
              have ef2 : w2.frozen? ⟨w.heap.size + 1, 2, none⟩ = false := HEN2.out.zf 2
              go_wp2_with fail
              refine (HA.out _ HEN2.out.b).mono ?_

              rintro e w3 ⟨rfl, hbs⟩
              have HEN3 := Lib.hid (HEN2.out.more hbs)
              clear hbs HEN2 ex0 ex1 ex2 ez0 ez1 ez2 ef0 ef1 ef2
              have ex0 : w3.cell? ⟨w.heap.size, 0, none⟩ = some (.slice (some ⟨b, 0, none⟩) t.l.length lc) := HEN3.out.x0
              have ex1 : w3.cell? ⟨w.heap.size, 1, none⟩ = some (.int .i64 t.last) := HEN3.out.x1
              have ex2 : w3.cell? ⟨w.heap.size, 2, none⟩ = some (.slice ea en ec) := HEN3.out.x2
              have r0 : w3.cell? ⟨b, k * 7, none⟩ = some (.int .i64 p.pid) := HRD.out w3 HEN3.out.b 0 _ rfl
              have r1 : w3.cell? ⟨b, k * 7 + 1, none⟩ = some (.int .i64 p.par) := HRD.out w3 HEN3.out.b 1 _ rfl
              have r2 : w3.cell? ⟨b, k * 7 + 2, none⟩ = some (.int .i64 p.st) := HRD.out w3 HEN3.out.b 2 _ rfl
              have r3 : w3.cell? ⟨b, k * 7 + 3, none⟩ = some (.bool p.live) := HRD.out w3 HEN3.out.b 3 _ rfl
              have r4 : w3.cell? ⟨b, k * 7 + 4, none⟩ = some (.int .u32 p.ig) := HRD.out w3 HEN3.out.b 4 _ rfl
              have r5 : w3.cell? ⟨b, k * 7 + 5, none⟩ = some (.int .u32 p.ca) := HRD.out w3 HEN3.out.b 5 _ rfl
              have r6 : w3.cell? ⟨b, k * 7 + 6, none⟩ = some (.int .u32 p.pe) := HRD.out w3 HEN3.out.b 6 _ rfl
              go_wp2_with fail
              have hb3 := below_alloc w3 (.cells #[.int .i64 p.pid, .int .i64 p.par, .int .i64 p.st, .bool p.live, .int .u32 p.ig, .int .u32 p.ca, .int .u32 p.pe] 73)
              have hbx := heap_alloc_new w3 (.cells #[.int .i64 p.pid, .int .i64 p.par, .int .i64 p.st, .bool p.live, .int .u32 p.ig, .int .u32 p.ca, .int .u32 p.pe] 73)
              have hen4 := HEN3.out.more hb3
              have HLT := Lib.hid (Array.getElem?_eq_some_iff.1 HEN3.out.x).1
              have hpx : ∀ i, (w3.alloc (.cells #[.int .i64 p.pid, .int .i64 p.par, .int .i64 p.st, .bool p.live, .int .u32 p.ig, .int .u32 p.ca, .int .u32 p.pe] 73)).frozen? ⟨w3.heap.size, i, none⟩ = false := fun i => frozen_of_row _ _ _ _ _ hbx
              clear r0 r1 r2 r3 r4 r5 r6 ex0 ex1 ex2
              generalize (w3.alloc (.cells #[.int .i64 p.pid, .int .i64 p.par, .int .i64 p.st, .bool p.live, .int .u32 p.ig, .int .u32 p.ca, .int .u32 p.pe] 73)) = w4 at hb3 hbx hen4 hpx ⊢
              have HEN4 := Lib.hid hen4; have HBX := Lib.hid hbx
              clear hb3 hbx hen4 hpx
              have px0 : w4.cell? ⟨w3.heap.size, 0, none⟩ = some (.int .i64 p.pid) := Lib.cell_of_heap HBX.out 0
              have px1 : w4.cell? ⟨w3.heap.size, 1, none⟩ = some (.int .i64 p.par) := Lib.cell_of_heap HBX.out 1
              have px2 : w4.cell? ⟨w3.heap.size, 2, none⟩ = some (.int .i64 p.st) := Lib.cell_of_heap HBX.out 2
              have px3 : w4.cell? ⟨w3.heap.size, 3, none⟩ = some (.bool p.live) := Lib.cell_of_heap HBX.out 3
              have px4 : w4.cell? ⟨w3.heap.size, 4, none⟩ = some (.int .u32 (p.ig : Nat)) := Lib.cell_of_heap HBX.out 4
              have px5 : w4.cell? ⟨w3.heap.size, 5, none⟩ = some (.int .u32 (p.ca : Nat)) := Lib.cell_of_heap HBX.out 5
              have px6 : w4.cell? ⟨w3.heap.size, 6, none⟩ = some (.int .u32 (p.pe : Nat)) := Lib.cell_of_heap HBX.out 6
              have pf4 : w4.frozen? ⟨w3.heap.size, 4, none⟩ = false := frozen_of_row _ _ _ _ _ HBX.out
              have pf5 : w4.frozen? ⟨w3.heap.size, 5, none⟩ = false := frozen_of_row _ _ _ _ _ HBX.out
              have pf6 : w4.frozen? ⟨w3.heap.size, 6, none⟩ = false := frozen_of_row _ _ _ _ _ HBX.out
              go_wp2_with (go_at_call 57; refine hold ?_)
              refine Hold.out ?_
              refine (Sig.rwithout_any p.ig s HP1.out w4).mono ?_
              rintro e w' ⟨rfl, rfl⟩
              go_wp2_with (go_at_call 57; refine hold ?_)
              refine Hold.out ?_
              have hen' := HEN4.out.set (a := ⟨w3.heap.size, 4, none⟩) HEN3.out.far (.int .u32 (p.ig &&& (4294967295 - Sig.bitN s) : Nat))
              have hbx' : (w4.setCell ⟨w3.heap.size, 4, none⟩ (.int .u32 (p.ig &&& (4294967295 - Sig.bitN s) : Nat))).heap[w3.heap.size]? = some (.cells #[.int .i64 p.pid, .int .i64 p.par, .int .i64 p.st, .bool p.live, .int .u32 (p.ig &&& (4294967295 - Sig.bitN s) : Nat), .int .u32 (p.ca : Nat), .int .u32 (p.pe : Nat)] 73 (0, 0)) := heap_setCell_same _ _ 4 _ _ _ HBX.out
              clear px0 px1 px2 px3 px4 px5 px6 pf4 pf5 pf6
              generalize w4.setCell ⟨w3.heap.size, 4, none⟩ (.int .u32 (p.ig &&& (4294967295 - Sig.bitN s) : Nat)) = w5 at hen' hbx' ⊢
              have HEN4x := Lib.hid hen'; have HBXx := Lib.hid hbx'
              clear hen' hbx' HEN4 HBX
              have px0 : w5.cell? ⟨w3.heap.size, 0, none⟩ = some (.int .i64 p.pid) := Lib.cell_of_heap HBXx.out 0
              have px1 : w5.cell? ⟨w3.heap.size, 1, none⟩ = some (.int .i64 p.par) := Lib.cell_of_heap HBXx.out 1
              have px2 : w5.cell? ⟨w3.heap.size, 2, none⟩ = some (.int .i64 p.st) := Lib.cell_of_heap HBXx.out 2
              have px3 : w5.cell? ⟨w3.heap.size, 3, none⟩ = some (.bool p.live) := Lib.cell_of_heap HBXx.out 3
              have px4 : w5.cell? ⟨w3.heap.size, 4, none⟩ = some (.int .u32 (p.ig &&& (4294967295 - Sig.bitN s) : Nat)) := Lib.cell_of_heap HBXx.out 4
              have px5 : w5.cell? ⟨w3.heap.size, 5, none⟩ = some (.int .u32 (p.ca : Nat)) := Lib.cell_of_heap HBXx.out 5
              have px6 : w5.cell? ⟨w3.heap.size, 6, none⟩ = some (.int .u32 (p.pe : Nat)) := Lib.cell_of_heap HBXx.out 6
              have pf4 : w5.frozen? ⟨w3.heap.size, 4, none⟩ = false := frozen_of_row _ _ _ _ _ HBXx.out
              have pf5 : w5.frozen? ⟨w3.heap.size, 5, none⟩ = false := frozen_of_row _ _ _ _ _ HBXx.out
              have pf6 : w5.frozen? ⟨w3.heap.size, 6, none⟩ = false := frozen_of_row _ _ _ _ _ HBXx.out
              refine (Sig.rwithout_any p.ca s HP2.out w5).mono ?_
              rintro e w' ⟨rfl, rfl⟩
              go_wp2_with (go_at_call 40; refine hold ?_)
              refine Hold.out ?_
              have hen' := HEN4x.out.set (a := ⟨w3.heap.size, 5, none⟩) HEN3.out.far (.int .u32 (p.ca &&& (4294967295 - Sig.bitN s) : Nat))
              have hbx' : (w5.setCell ⟨w3.heap.size, 5, none⟩ (.int .u32 (p.ca &&& (4294967295 - Sig.bitN s) : Nat))).heap[w3.heap.size]? = some (.cells #[.int .i64 p.pid, .int .i64 p.par, .int .i64 p.st, .bool p.live, .int .u32 (p.ig &&& (4294967295 - Sig.bitN s) : Nat), .int .u32 (p.ca &&& (4294967295 - Sig.bitN s) : Nat), .int .u32 (p.pe : Nat)] 73 (0, 0)) := heap_setCell_same _ _ 5 _ _ _ HBXx.out
              clear px0 px1 px2 px3 px4 px5 px6 pf4 pf5 pf6
              generalize w5.setCell ⟨w3.heap.size, 5, none⟩ (.int .u32 (p.ca &&& (4294967295 - Sig.bitN s) : Nat)) = w6 at hen' hbx' ⊢
              have HEN4xx := Lib.hid hen'; have HBXxx := Lib.hid hbx'
              clear hen' hbx' HEN4x HBXx
              have px0 : w6.cell? ⟨w3.heap.size, 0, none⟩ = some (.int .i64 p.pid) := Lib.cell_of_heap HBXxx.out 0
              have px1 : w6.cell? ⟨w3.heap.size, 1, none⟩ = some (.int .i64 p.par) := Lib.cell_of_heap HBXxx.out 1
              have px2 : w6.cell? ⟨w3.heap.size, 2, none⟩ = some (.int .i64 p.st) := Lib.cell_of_heap HBXxx.out 2
              have px3 : w6.cell? ⟨w3.heap.size, 3, none⟩ = some (.bool p.live) := Lib.cell_of_heap HBXxx.out 3
              have px4 : w6.cell? ⟨w3.heap.size, 4, none⟩ = some (.int .u32 (p.ig &&& (4294967295 - Sig.bitN s) : Nat)) := Lib.cell_of_heap HBXxx.out 4
              have px5 : w6.cell? ⟨w3.heap.size, 5, none⟩ = some (.int .u32 (p.ca &&& (4294967295 - Sig.bitN s) : Nat)) := Lib.cell_of_heap HBXxx.out 5
              have px6 : w6.cell? ⟨w3.heap.size, 6, none⟩ = some (.int .u32 (p.pe : Nat)) := Lib.cell_of_heap HBXxx.out 6
              have pf4 : w6.frozen? ⟨w3.heap.size, 4, none⟩ = false := frozen_of_row _ _ _ _ _ HBXxx.out
              have pf5 : w6.frozen? ⟨w3.heap.size, 5, none⟩ = false := frozen_of_row _ _ _ _ _ HBXxx.out
              have pf6 : w6.frozen? ⟨w3.heap.size, 6, none⟩ = false := frozen_of_row _ _ _ _ _ HBXxx.out
              refine (Sig.rwith_any (p.ca &&& (4294967295 - Sig.bitN s)) s (del_lt HP2.out s) w6).mono ?_
              rintro e w' ⟨rfl, rfl⟩
              have ex0 : w6.cell? ⟨w.heap.size, 0, none⟩ = some (.slice (some ⟨b, 0, none⟩) t.l.length lc) := HEN4xx.out.x0
              have ex1 : w6.cell? ⟨w.heap.size, 1, none⟩ = some (.int .i64 t.last) := HEN4xx.out.x1
              have ex2 : w6.cell? ⟨w.heap.size, 2, none⟩ = some (.slice ea en ec) := HEN4xx.out.x2
              have hne : w.heap.size ≠ w3.heap.size := Nat.ne_of_lt HLT.out
              have hne' : w3.heap.size ≠ w.heap.size := fun e => hne e.symm
              go_wp2_with (go_at_call 52; refine hold ?_)
              have hen9 := HEN4xx.out.set (a := ⟨w3.heap.size, 5, none⟩) HEN3.out.far (.int .u32 ((p.ca &&& (4294967295 - Sig.bitN s)) ||| Sig.bitN s : Nat))
              clear ex0 ex1 ex2 px0 px1 px2 px3 px4 px5 px6 pf4 pf5 pf6 hne hne'
              refine Hold.out ((HW.out _ hen9.b).mono ?_)
              rintro e w5 ⟨lv', rfl, hch⟩
              have HEN5 := Lib.hid (hen9.more hch.below)
              have HSZ5 := Lib.hid hen9.b.size
              obtain ⟨la', ln', lc', rfl⟩ := ends_shape hch.rt.l
              have HCH := Lib.hid hch
              clear hch hen9
              have ez0 : w5.cell? ⟨w.heap.size + 1, 0, none⟩ = some (.slice none 0 0) := HEN5.out.z0
              have ef0 : w5.frozen? ⟨w.heap.size + 1, 0, none⟩ = false := HEN5.out.zf 0
              have ez1 : w5.cell? ⟨w.heap.size + 1, 1, none⟩ = some (.int .i64 0) := HEN5.out.z1
              have ef1 : w5.frozen? ⟨w.heap.size + 1, 1, none⟩ = false := HEN5.out.zf 1
              have ez2 : w5.cell? ⟨w.heap.size + 1, 2, none⟩ = some (.slice none 0 0) := HEN5.out.z2
              have ef2 : w5.frozen? ⟨w.heap.size + 1, 2, none⟩ = false := HEN5.out.zf 2
              go_wp2_with fail
              have hfin := fin_row HEN5.out.b HEN5.out.z HCH.out.rt (fun j e => (HCH.out.l j e).imp id (Nat.le_trans HSZ5.out)) (fun j e => (HCH.out.e j e).imp id (Nat.le_trans HSZ5.out))
              exact bodyPost_ret (results_row_tmp rfl _ _ (w.heap.size + 1) _ _ _ _ rfl hfin.1 Try.underlying31 rfl (by kernel_rfl)) rfl ⟨_, _, rfl, hfin.2⟩
      · have hno : putS Sig.fixedB t pid s h = (t, false) := by unfold putS; exact if_pos (.inr (.inr (.inl hfx)))
        rw [hno]
        clear hno O S
        have HL := Lib.hid hl; have HIS := Lib.hid (show Sig.isB s = true from his); have HFX := Lib.hid hfx
        clear hl his hfx
        unfold tv at HV ⊢
        go_enter Try.func19, Try.ntmps19
        go_wp2_with fail
        refine (HV.out _ HEN0.out.b).mono ?_
        rw [HL.out]
        rintro e w1 ⟨rfl, hbs⟩
        have HEN1 := Lib.hid (HEN0.out.more hbs)
        clear hbs HEN0 
        have ex0 : w1.cell? ⟨w.heap.size, 0, none⟩ = some (.slice la ln lc) := HEN1.out.x0
        have ex1 : w1.cell? ⟨w.heap.size, 1, none⟩ = some (.int .i64 t.last) := HEN1.out.x1
        have ex2 : w1.cell? ⟨w.heap.size, 2, none⟩ = some (.slice ea en ec) := HEN1.out.x2
        have ez0 : w1.cell? ⟨w.heap.size + 1, 0, none⟩ = some (.slice none 0 0) := HEN1.out.z0
        have ef0 : w1.frozen? ⟨w.heap.size + 1, 0, none⟩ = false := HEN1.out.zf 0
        have ez1 : w1.cell? ⟨w.heap.size + 1, 1, none⟩ = some (.int .i64 0) := HEN1.out.z1
        have ef1 : w1.frozen? ⟨w.heap.size + 1, 1, none⟩ = false := HEN1.out.zf 1
        have ez2 : w1.cell? ⟨w.heap.size + 1, 2, none⟩ = some (.slice none 0 0) := HEN1.out.z2
        have ef2 : w1.frozen? ⟨w.heap.size + 1, 2, none⟩ = false := HEN1.out.zf 2
        go_wp2_with (first | (go_at_call 35; refine (Sig.ris_any s _).mono ?_; rw [HIS.out]; rintro e w' ⟨rfl, rfl⟩) | (go_at_call 39; refine hold ?_))
        refine Hold.out ?_
        refine (Sig.rfixed_any s _).mono ?_
        rw [HFX.out]
        rintro e w2 ⟨rfl, hbs⟩
        have HEN2 := Lib.hid (HEN1.out.more hbs)
        clear hbs HEN1 ex0 ex1 ex2 ez0 ez1 ez2 ef0 ef1 ef2
        have ex0 : w2.cell? ⟨w.heap.size, 0, none⟩ = some (.slice la ln lc) := HEN2.out.x0
        have ex1 : w2.cell? ⟨w.heap.size, 1, none⟩ = some (.int .i64 t.last) := HEN2.out.x1
        have ex2 : w2.cell? ⟨w.heap.size, 2, none⟩ = some (.slice ea en ec) := HEN2.out.x2
        have ez0 : w2.cell? ⟨w.heap.size + 1, 0, none⟩ = some (.slice none 0 0) := HEN2.out.z0
        have ef0 : w2.frozen? ⟨w.heap.size + 1, 0, none⟩ = false := HEN2.out.zf 0
        have ez1 : w2.cell? ⟨w.heap.size + 1, 1, none⟩ = some (.int .i64 0) := HEN2.out.z1
        have ef1 : w2.frozen? ⟨w.heap.size + 1, 1, none⟩ = false := HEN2.out.zf 1
        have ez2 : w2.cell? ⟨w.heap.size + 1, 2, none⟩ = some (.slice none 0 0) := HEN2.out.z2
        have ef2 : w2.frozen? ⟨w.heap.size + 1, 2, none⟩ = false := HEN2.out.zf 2
        go_wp2_with fail
        have hfin := fin_row HEN2.out.b HEN2.out.z (HR.out.stay HEN2.out.b) (fun _ e => .inl e) (fun _ e => .inl e)
        exact bodyPost_ret (results_row_tmp rfl _ _ (w.heap.size + 1) _ _ _ _ rfl hfin.1 Try.underlying31 rfl (by kernel_rfl)) rfl ⟨_, _, rfl, hfin.2⟩
end Kn
end Go.Proofs.Ytlebglnlkkoakaa
