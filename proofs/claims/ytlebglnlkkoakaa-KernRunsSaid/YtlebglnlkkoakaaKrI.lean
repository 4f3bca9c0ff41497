/- The reference's Send. -/
import Derived.Test.YtlebglnlkkoakaaKrH
namespace Go.Proofs.Ytlebglnlkkoakaa
open Go.RowKit Go.Maps
namespace Kn
theorem how_of (t : T) (pid s : Int) : how t pid s = 0 ∨ how t pid s = 1 ∨ how t pid s = 2 := by
  unfold how
  split
  · exact .inl rfl
  · split
    · exact .inl rfl
    · split
      · exact .inr (.inl rfl)
      · split
        · exact .inr (.inr rfl)
        · exact .inl rfl
set_option maxRecDepth 4000 in
set_option maxHeartbeats 3200000 in
theorem rsend_any {w : World} {B : Nat} {t : T} {lv ev : Value} (hR : RT w B lv ev t) (O : Ok t) (S : Sets t) (hB : B ≤ w.heap.size) (hE : t.ends.length ≤ 100) (pid s : Int) :
    Calls Try.prog 13 #[tv t lv ev, .int .i64 pid, .int .i64 s] w fun e w' => ∃ lv' ev', e = .returned (.tuple #[tv (sendR t pid s).1 lv' ev', .bool (sendR t pid s).2]) ∧ RCh w B lv ev (sendR t pid s).1 lv' ev' w' := by
  have hn := O.len
  have hen := En.start w lv ev t.last
  have HV := Lib.hid (fun w' (hb : Below w.heap.size w w') => rlive_any (ev := ev) (hR.at.stay hb) hn pid)
  have HR := Lib.hid hR; have HEN0 := Lib.hid hen
  obtain ⟨ea, en, ec, rfl⟩ := ends_shape hR.e
  obtain ⟨la, ln, lc, rfl⟩ := ends_shape hR.l
  clear hen hR
  cases hl : live t pid
  · have hno : sendR t pid s = (t, false) := by unfold sendR; exact if_pos (.inl hl)
    rw [hno]
    clear hno O S
    have HL := Lib.hid hl
    clear hl
    unfold tv at HV ⊢
    go_enter Try.func13, Try.ntmps13
    go_wp2_with fail
    refine (HV.out _ HEN0.out.b).mono ?_
    rw [HL.out]
    rintro e w1 ⟨rfl, hbs⟩
    have HEN1 := Lib.hid (HEN0.out.more hbs)
    clear hbs HEN0 
    have ex0 : w1.cell? ⟨w.heap.size, 0, none⟩ = some (.slice la ln lc) := HEN1.out.x0
    have ex1 : w1.cell? ⟨w.heap.size, 1, none⟩ = some (.int .i64 t.last) := HEN1.out.x1
    have ex2 : w1.cell? ⟨w.heap.size, 2, none⟩ = some (.slice ea en ec) := HEN1.out.x2
    have ez0 : w1.cell? ⟨w.heap.size + 1, 0, none⟩ = some (.slice none 0 0) := HEN1.out.z0
    have ef0 : w1.frozen? ⟨w.heap.size + 1, 0, none⟩ = false := HEN1.out.zf 0
    have ez1 : w1.cell? ⟨w.heap.size + 1, 1, none⟩ = some (.int .i64 0) := HEN1.out.z1
    have ef1 : w1.frozen? ⟨w.heap.size + 1, 1, none⟩ = false := HEN1.out.zf 1
    have ez2 : w1.cell? ⟨w.heap.size + 1, 2, none⟩ = some (.slice none 0 0) := HEN1.out.z2
    have ef2 : w1.frozen? ⟨w.heap.size + 1, 2, none⟩ = false := HEN1.out.zf 2
    go_wp2_with fail
    have hfin := fin_row HEN1.out.b HEN1.out.z (HR.out.stay HEN1.out.b) (fun _ e => .inl e) (fun _ e => .inl e)
    exact bodyPost_ret (results_row_tmp rfl _ _ (w.heap.size + 1) _ _ _ _ rfl hfin.1 Try.underlying31 rfl (by kernel_rfl)) rfl ⟨_, _, rfl, hfin.2⟩
  · cases his : isS s
    · have hno : sendR t pid s = (t, false) := by unfold sendR; exact if_pos (.inr his)
      rw [hno]
      clear hno O S
      have HL := Lib.hid hl; have HIS := Lib.hid (show Sig.isB s = false from his)
      clear hl his
      unfold tv at HV ⊢
      go_enter Try.func13, Try.ntmps13
      go_wp2_with fail
      refine (HV.out _ HEN0.out.b).mono ?_
      rw [HL.out]
      rintro e w1 ⟨rfl, hbs⟩
      have HEN1 := Lib.hid (HEN0.out.more hbs)
      clear hbs HEN0 
      have ex0 : w1.cell? ⟨w.heap.size, 0, none⟩ = some (.slice la ln lc) := HEN1.out.x0
      have ex1 : w1.cell? ⟨w.heap.size, 1, none⟩ = some (.int .i64 t.last) := HEN1.out.x1
      have ex2 : w1.cell? ⟨w.heap.size, 2, none⟩ = some (.slice ea en ec) := HEN1.out.x2
      have ez0 : w1.cell? ⟨w.heap.size + 1, 0, none⟩ = some (.slice none 0 0) := HEN1.out.z0
      have ef0 : w1.frozen? ⟨w.heap.size + 1, 0, none⟩ = false := HEN1.out.zf 0
      have ez1 : w1.cell? ⟨w.heap.size + 1, 1, none⟩ = some (.int .i64 0) := HEN1.out.z1
      have ef1 : w1.frozen? ⟨w.heap.size + 1, 1, none⟩ = false := HEN1.out.zf 1
      have ez2 : w1.cell? ⟨w.heap.size + 1, 2, none⟩ = some (.slice none 0 0) := HEN1.out.z2
      have ef2 : w1.frozen? ⟨w.heap.size + 1, 2, none⟩ = false := HEN1.out.zf 2
      go_wp2_with (go_at_call 35; refine (Sig.ris_any s _).mono ?_; rw [HIS.out]; rintro e w' ⟨rfl, rfl⟩)
      have hfin := fin_row HEN1.out.b HEN1.out.z (HR.out.stay HEN1.out.b) (fun _ e => .inl e) (fun _ e => .inl e)
      exact bodyPost_ret (results_row_tmp rfl _ _ (w.heap.size + 1) _ _ _ _ rfl hfin.1 Try.underlying31 rfl (by kernel_rfl)) rfl ⟨_, _, rfl, hfin.2⟩
    obtain ⟨p, hf, hpl⟩ := live_iff hl
    obtain ⟨k, hat, hk, hlt⟩ := find_atN hf
    obtain ⟨hp1, hp2, hp3⟩ := S.at hf
    have HA := fun w' (hb : Below w.heap.size w w') => rat_any (ev := .slice ea en ec) (HR.out.at.stay hb) hn pid
    rw [hat] at HA
    obtain ⟨b, cap, e2, hbl, rd⟩ := HR.out.at.reads hk
    obtain ⟨rfl, rfl, rfl⟩ : la = some ⟨b, 0, none⟩ ∧ ln = t.l.length ∧ lc = cap := by cases e2; exact ⟨rfl, rfl, rfl⟩
    rcases how_of t pid s with hw | hw | hw
    · cases hm : Sig.mildB s
      · have hset : sendR t pid s = exitR t pid (128 + s) := by
          unfold sendR
          rw [if_neg (by rw [hl, his]; decide), if_neg (by rw [hw]; decide), if_pos ⟨hw, hm⟩]
        rw [hset]
        have HX := Lib.hid (fun w' (hb : Below w.heap.size w w') => rexit_any (HR.out.stay hb) O S (Nat.le_trans hB hb.size) hE pid (128 + s))
        have hs31 : 1 ≤ s ∧ s ≤ 31 := of_decide_eq_true his
        unfold tv at HX
        generalize hxx : exitR t pid (128 + s) = xx at HX
        clear hxx
        have HM := Lib.hid hm
        have HRD := Lib.hid rd; have HP3 := Lib.hid hp3
        have HIS := Lib.hid (show Sig.isB s = true from his); have HL := Lib.hid hl
        have HH := fun w' (hb : Below w.heap.size w w') => rhow_any (ev := .slice ea en ec) (HR.out.at.stay hb) hn S pid s
        rw [hw] at HH
        unfold tv at HA HV HH ⊢
        have HA := Lib.hid HA; have HH := Lib.hid HH
        clear hl his hf hpl hat hk hp1 hp2 hp3 hset e2 rd O S hw hm
        go_enter Try.func13, Try.ntmps13
        go_wp2_with fail
        refine (HV.out _ HEN0.out.b).mono ?_
        rw [HL.out]
        rintro e w1 ⟨rfl, hbs⟩
        have HEN1 := Lib.hid (HEN0.out.more hbs)
        clear hbs HEN0 
        have ex0 : w1.cell? ⟨w.heap.size, 0, none⟩ = some (.slice (some ⟨b, 0, none⟩) t.l.length lc) := HEN1.out.x0
        have ex1 : w1.cell? ⟨w.heap.size, 1, none⟩ = some (.int .i64 t.last) := HEN1.out.x1
        have ex2 : w1.cell? ⟨w.heap.size, 2, none⟩ = some (.slice ea en ec) := HEN1.out.x2
        have ez0 : w1.cell? ⟨w.heap.size + 1, 0, none⟩ = some (.slice none 0 0) := HEN1.out.z0
        have ef0 : w1.frozen? ⟨w.heap.size + 1, 0, none⟩ = false := HEN1.out.zf 0
        have ez1 : w1.cell? ⟨w.heap.size + 1, 1, none⟩ = some (.int .i64 0) := HEN1.out.z1
        have ef1 : w1.frozen? ⟨w.heap.size + 1, 1, none⟩ = false := HEN1.out.zf 1
        have ez2 : w1.cell? ⟨w.heap.size + 1, 2, none⟩ = some (.slice none 0 0) := HEN1.out.z2
        have ef2 : w1.frozen? ⟨w.heap.size + 1, 2, none⟩ = false := HEN1.out.zf 2
        go_wp2_with (go_at_call 35; refine (Sig.ris_any s _).mono ?_; rw [HIS.out]; rintro e w' ⟨rfl, rfl⟩)
        refine (HA.out _ HEN1.out.b).mono ?_

        rintro e w2 ⟨rfl, hbs⟩
        have HEN2 := Lib.hid (HEN1.out.more hbs)
        clear hbs HEN1 ex0 ex1 ex2 ez0 ez1 ez2 ef0 ef1 ef2
        have ex0 : w2.cell? ⟨w.heap.size, 0, none⟩ = some (.slice (some ⟨b, 0, none⟩) t.l.length lc) := HEN2.out.x0
        have ex1 : w2.cell? ⟨w.heap.size, 1, none⟩ = some (.int .i64 t.last) := HEN2.out.x1
        have ex2 : w2.cell? ⟨w.heap.size, 2, none⟩ = some (.slice ea en ec) := HEN2.out.x2
        have r0 : w2.cell? ⟨b, k * 7, none⟩ = some (.int .i64 p.pid) := HRD.out w2 HEN2.out.b 0 _ rfl
        have r1 : w2.cell? ⟨b, k * 7 + 1, none⟩ = some (.int .i64 p.par) := HRD.out w2 HEN2.out.b 1 _ rfl
        have r2 : w2.cell? ⟨b, k * 7 + 2, none⟩ = some (.int .i64 p.st) := HRD.out w2 HEN2.out.b 2 _ rfl
        have r3 : w2.cell? ⟨b, k * 7 + 3, none⟩ = some (.bool p.live) := HRD.out w2 HEN2.out.b 3 _ rfl
        have r4 : w2.cell? ⟨b, k * 7 + 4, none⟩ = some (.int .u32 p.ig) := HRD.out w2 HEN2.out.b 4 _ rfl
        have r5 : w2.cell? ⟨b, k * 7 + 5, none⟩ = some (.int .u32 p.ca) := HRD.out w2 HEN2.out.b 5 _ rfl
        have r6 : w2.cell? ⟨b, k * 7 + 6, none⟩ = some (.int .u32 p.pe) := HRD.out w2 HEN2.out.b 6 _ rfl
        have hb3 := below_alloc w2 (.cells #[.int .i64 p.pid, .int .i64 p.par, .int .i64 p.st, .bool p.live, .int .u32 p.ig, .int .u32 p.ca, .int .u32 p.pe] 73)
        have hen3 := HEN2.out.more hb3
        have y0 := hen3.x0; have y1 := hen3.x1; have y2 := hen3.x2
        go_wp2_with fail
        have hbx := heap_alloc_new w2 (.cells #[.int .i64 p.pid, .int .i64 p.par, .int .i64 p.st, .bool p.live, .int .u32 p.ig, .int .u32 p.ca, .int .u32 p.pe] 73)
        have hfar := HEN2.out.far
        clear r0 r1 r2 r3 r4 r5 r6 ex0 ex1 ex2 y0 y1 y2
        generalize (w2.alloc (.cells #[.int .i64 p.pid, .int .i64 p.par, .int .i64 p.st, .bool p.live, .int .u32 p.ig, .int .u32 p.ca, .int .u32 p.pe] 73)) = w3 at hb3 hbx hen3 ⊢
        refine (HH.out _ hen3.b).mono ?_
        rintro e w4 ⟨rfl, hb4⟩
        have HBX := Lib.hid ((hb4.block _ (Array.getElem?_eq_some_iff.1 hbx).1).trans hbx)
        have HEN4 := Lib.hid (hen3.more hb4)
        have HFAR := Lib.hid hfar
        clear hb3 hb4 hbx hen3 hfar
        have ex0 : w4.cell? ⟨w.heap.size, 0, none⟩ = some (.slice (some ⟨b, 0, none⟩) t.l.length lc) := HEN4.out.x0
        have ex1 : w4.cell? ⟨w.heap.size, 1, none⟩ = some (.int .i64 t.last) := HEN4.out.x1
        have ex2 : w4.cell? ⟨w.heap.size, 2, none⟩ = some (.slice ea en ec) := HEN4.out.x2
        go_wp2_with fail
        refine (HH.out _ HEN4.out.b).mono ?_

        rintro e w5 ⟨rfl, hbs⟩
        have HEN5 := Lib.hid (HEN4.out.more hbs)
        clear hbs HEN4 ex0 ex1 ex2
        have ex0 : w5.cell? ⟨w.heap.size, 0, none⟩ = some (.slice (some ⟨b, 0, none⟩) t.l.length lc) := HEN5.out.x0
        have ex1 : w5.cell? ⟨w.heap.size, 1, none⟩ = some (.int .i64 t.last) := HEN5.out.x1
        have ex2 : w5.cell? ⟨w.heap.size, 2, none⟩ = some (.slice ea en ec) := HEN5.out.x2
        go_wp2_with fail
        refine (Sig.rmild_any s _).mono ?_
        rw [HM.out]
        rintro e w6 ⟨rfl, hbs⟩
        have HEN6 := Lib.hid (HEN5.out.more hbs)
        clear hbs HEN5 ex0 ex1 ex2
        have ex0 : w6.cell? ⟨w.heap.size, 0, none⟩ = some (.slice (some ⟨b, 0, none⟩) t.l.length lc) := HEN6.out.x0
        have ex1 : w6.cell? ⟨w.heap.size, 1, none⟩ = some (.int .i64 t.last) := HEN6.out.x1
        have ex2 : w6.cell? ⟨w.heap.size, 2, none⟩ = some (.slice ea en ec) := HEN6.out.x2
        have ez0 : w6.cell? ⟨w.heap.size + 1, 0, none⟩ = some (.slice none 0 0) := HEN6.out.z0
        have ef0 : w6.frozen? ⟨w.heap.size + 1, 0, none⟩ = false := HEN6.out.zf 0
        have ez1 : w6.cell? ⟨w.heap.size + 1, 1, none⟩ = some (.int .i64 0) := HEN6.out.z1
        have ef1 : w6.frozen? ⟨w.heap.size + 1, 1, none⟩ = false := HEN6.out.zf 1
        have ez2 : w6.cell? ⟨w.heap.size + 1, 2, none⟩ = some (.slice none 0 0) := HEN6.out.z2
        have ef2 : w6.frozen? ⟨w.heap.size + 1, 2, none⟩ = false := HEN6.out.zf 2
        go_wp2_with fail
        refine (HX.out _ HEN6.out.b).mono ?_
        rintro e w7 ⟨lv', ev', rfl, hch⟩
        have HEN7 := Lib.hid (HEN6.out.more hch.below)
        have HSZ7 := Lib.hid HEN6.out.b.size
        obtain ⟨la', ln', lc', rfl⟩ := ends_shape hch.rt.l
        obtain ⟨ea', en', ec', rfl⟩ := ends_shape hch.rt.e
        have HCH := Lib.hid hch
        clear hch HEN6 ex0 ex1 ex2 ez0 ez1 ez2 ef0 ef1 ef2
        have ez0 : w7.cell? ⟨w.heap.size + 1, 0, none⟩ = some (.slice none 0 0) := HEN7.out.z0
        have ef0 : w7.frozen? ⟨w.heap.size + 1, 0, none⟩ = false := HEN7.out.zf 0
        have ez1 : w7.cell? ⟨w.heap.size + 1, 1, none⟩ = some (.int .i64 0) := HEN7.out.z1
        have ef1 : w7.frozen? ⟨w.heap.size + 1, 1, none⟩ = false := HEN7.out.zf 1
        have ez2 : w7.cell? ⟨w.heap.size + 1, 2, none⟩ = some (.slice none 0 0) := HEN7.out.z2
        have ef2 : w7.frozen? ⟨w.heap.size + 1, 2, none⟩ = false := HEN7.out.zf 2
        go_wp2_with fail
        have hfin := fin_row (lv := (.slice (some ⟨b, 0, none⟩) t.l.length lc)) (ev := .slice ea en ec) HEN7.out.b HEN7.out.z HCH.out.rt (fun j e => (HCH.out.l j e).imp id (Nat.le_trans HSZ7.out)) (fun j e => (HCH.out.e j e).imp id (Nat.le_trans HSZ7.out))
        exact bodyPost_ret (results_row_tmp rfl _ _ (w.heap.size + 1) _ _ _ _ rfl hfin.1 Try.underlying31 rfl (by kernel_rfl)) rfl ⟨_, _, rfl, hfin.2⟩
      · have hset : sendR t pid s = (t, true) := by
          unfold sendR
          rw [if_neg (by rw [hl, his]; decide), if_neg (by rw [hw]; decide), if_neg (by rw [hm]; exact fun h => absurd h.2 (by decide))]
        rw [hset]
        have HM := Lib.hid hm
        have HRD := Lib.hid rd; have HP3 := Lib.hid hp3
        have HIS := Lib.hid (show Sig.isB s = true from his); have HL := Lib.hid hl
        have HH := fun w' (hb : Below w.heap.size w w') => rhow_any (ev := .slice ea en ec) (HR.out.at.stay hb) hn S pid s
        rw [hw] at HH
        unfold tv at HA HV HH ⊢
        have HA := Lib.hid HA; have HH := Lib.hid HH
        clear hl his hf hpl hat hk hp1 hp2 hp3 hset e2 rd O S hw hm
        go_enter Try.func13, Try.ntmps13
        go_wp2_with fail
        refine (HV.out _ HEN0.out.b).mono ?_
        rw [HL.out]
        rintro e w1 ⟨rfl, hbs⟩
        have HEN1 := Lib.hid (HEN0.out.more hbs)
        clear hbs HEN0 
        have ex0 : w1.cell? ⟨w.heap.size, 0, none⟩ = some (.slice (some ⟨b, 0, none⟩) t.l.length lc) := HEN1.out.x0
        have ex1 : w1.cell? ⟨w.heap.size, 1, none⟩ = some (.int .i64 t.last) := HEN1.out.x1
        have ex2 : w1.cell? ⟨w.heap.size, 2, none⟩ = some (.slice ea en ec) := HEN1.out.x2
        have ez0 : w1.cell? ⟨w.heap.size + 1, 0, none⟩ = some (.slice none 0 0) := HEN1.out.z0
        have ef0 : w1.frozen? ⟨w.heap.size + 1, 0, none⟩ = false := HEN1.out.zf 0
        have ez1 : w1.cell? ⟨w.heap.size + 1, 1, none⟩ = some (.int .i64 0) := HEN1.out.z1
        have ef1 : w1.frozen? ⟨w.heap.size + 1, 1, none⟩ = false := HEN1.out.zf 1
        have ez2 : w1.cell? ⟨w.heap.size + 1, 2, none⟩ = some (.slice none 0 0) := HEN1.out.z2
        have ef2 : w1.frozen? ⟨w.heap.size + 1, 2, none⟩ = false := HEN1.out.zf 2
        go_wp2_with (go_at_call 35; refine (Sig.ris_any s _).mono ?_; rw [HIS.out]; rintro e w' ⟨rfl, rfl⟩)
        refine (HA.out _ HEN1.out.b).mono ?_

        rintro e w2 ⟨rfl, hbs⟩
        have HEN2 := Lib.hid (HEN1.out.more hbs)
        clear hbs HEN1 ex0 ex1 ex2 ez0 ez1 ez2 ef0 ef1 ef2
        have ex0 : w2.cell? ⟨w.heap.size, 0, none⟩ = some (.slice (some ⟨b, 0, none⟩) t.l.length lc) := HEN2.out.x0
        have ex1 : w2.cell? ⟨w.heap.size, 1, none⟩ = some (.int .i64 t.last) := HEN2.out.x1
        have ex2 : w2.cell? ⟨w.heap.size, 2, none⟩ = some (.slice ea en ec) := HEN2.out.x2
        have r0 : w2.cell? ⟨b, k * 7, none⟩ = some (.int .i64 p.pid) := HRD.out w2 HEN2.out.b 0 _ rfl
        have r1 : w2.cell? ⟨b, k * 7 + 1, none⟩ = some (.int .i64 p.par) := HRD.out w2 HEN2.out.b 1 _ rfl
        have r2 : w2.cell? ⟨b, k * 7 + 2, none⟩ = some (.int .i64 p.st) := HRD.out w2 HEN2.out.b 2 _ rfl
        have r3 : w2.cell? ⟨b, k * 7 + 3, none⟩ = some (.bool p.live) := HRD.out w2 HEN2.out.b 3 _ rfl
        have r4 : w2.cell? ⟨b, k * 7 + 4, none⟩ = some (.int .u32 p.ig) := HRD.out w2 HEN2.out.b 4 _ rfl
        have r5 : w2.cell? ⟨b, k * 7 + 5, none⟩ = some (.int .u32 p.ca) := HRD.out w2 HEN2.out.b 5 _ rfl
        have r6 : w2.cell? ⟨b, k * 7 + 6, none⟩ = some (.int .u32 p.pe) := HRD.out w2 HEN2.out.b 6 _ rfl
        have hb3 := below_alloc w2 (.cells #[.int .i64 p.pid, .int .i64 p.par, .int .i64 p.st, .bool p.live, .int .u32 p.ig, .int .u32 p.ca, .int .u32 p.pe] 73)
        have hen3 := HEN2.out.more hb3
        have y0 := hen3.x0; have y1 := hen3.x1; have y2 := hen3.x2
        go_wp2_with fail
        have hbx := heap_alloc_new w2 (.cells #[.int .i64 p.pid, .int .i64 p.par, .int .i64 p.st, .bool p.live, .int .u32 p.ig, .int .u32 p.ca, .int .u32 p.pe] 73)
        have hfar := HEN2.out.far
        clear r0 r1 r2 r3 r4 r5 r6 ex0 ex1 ex2 y0 y1 y2
        generalize (w2.alloc (.cells #[.int .i64 p.pid, .int .i64 p.par, .int .i64 p.st, .bool p.live, .int .u32 p.ig, .int .u32 p.ca, .int .u32 p.pe] 73)) = w3 at hb3 hbx hen3 ⊢
        refine (HH.out _ hen3.b).mono ?_
        rintro e w4 ⟨rfl, hb4⟩
        have HBX := Lib.hid ((hb4.block _ (Array.getElem?_eq_some_iff.1 hbx).1).trans hbx)
        have HEN4 := Lib.hid (hen3.more hb4)
        have HFAR := Lib.hid hfar
        clear hb3 hb4 hbx hen3 hfar
        have ex0 : w4.cell? ⟨w.heap.size, 0, none⟩ = some (.slice (some ⟨b, 0, none⟩) t.l.length lc) := HEN4.out.x0
        have ex1 : w4.cell? ⟨w.heap.size, 1, none⟩ = some (.int .i64 t.last) := HEN4.out.x1
        have ex2 : w4.cell? ⟨w.heap.size, 2, none⟩ = some (.slice ea en ec) := HEN4.out.x2
        go_wp2_with fail
        refine (HH.out _ HEN4.out.b).mono ?_

        rintro e w5 ⟨rfl, hbs⟩
        have HEN5 := Lib.hid (HEN4.out.more hbs)
        clear hbs HEN4 ex0 ex1 ex2
        have ex0 : w5.cell? ⟨w.heap.size, 0, none⟩ = some (.slice (some ⟨b, 0, none⟩) t.l.length lc) := HEN5.out.x0
        have ex1 : w5.cell? ⟨w.heap.size, 1, none⟩ = some (.int .i64 t.last) := HEN5.out.x1
        have ex2 : w5.cell? ⟨w.heap.size, 2, none⟩ = some (.slice ea en ec) := HEN5.out.x2
        go_wp2_with fail
        refine (Sig.rmild_any s _).mono ?_
        rw [HM.out]
        rintro e w6 ⟨rfl, hbs⟩
        have HEN6 := Lib.hid (HEN5.out.more hbs)
        clear hbs HEN5 ex0 ex1 ex2
        have ex0 : w6.cell? ⟨w.heap.size, 0, none⟩ = some (.slice (some ⟨b, 0, none⟩) t.l.length lc) := HEN6.out.x0
        have ex1 : w6.cell? ⟨w.heap.size, 1, none⟩ = some (.int .i64 t.last) := HEN6.out.x1
        have ex2 : w6.cell? ⟨w.heap.size, 2, none⟩ = some (.slice ea en ec) := HEN6.out.x2
        have ez0 : w6.cell? ⟨w.heap.size + 1, 0, none⟩ = some (.slice none 0 0) := HEN6.out.z0
        have ef0 : w6.frozen? ⟨w.heap.size + 1, 0, none⟩ = false := HEN6.out.zf 0
        have ez1 : w6.cell? ⟨w.heap.size + 1, 1, none⟩ = some (.int .i64 0) := HEN6.out.z1
        have ef1 : w6.frozen? ⟨w.heap.size + 1, 1, none⟩ = false := HEN6.out.zf 1
        have ez2 : w6.cell? ⟨w.heap.size + 1, 2, none⟩ = some (.slice none 0 0) := HEN6.out.z2
        have ef2 : w6.frozen? ⟨w.heap.size + 1, 2, none⟩ = false := HEN6.out.zf 2
        go_wp2_with fail
        have hfin := fin_row HEN6.out.b HEN6.out.z (HR.out.stay HEN6.out.b) (fun _ e => .inl e) (fun _ e => .inl e)
        exact bodyPost_ret (results_row_tmp rfl _ _ (w.heap.size + 1) _ _ _ _ rfl hfin.1 Try.underlying31 rfl (by kernel_rfl)) rfl ⟨_, _, rfl, hfin.2⟩
    · have hset : sendR t pid s = (t, true) := by
        unfold sendR
        rw [if_neg (by rw [hl, his]; decide), if_neg (by rw [hw]; decide), if_neg (by rw [hw]; exact fun h => absurd h.1 (by decide))]
      rw [hset]
      have HRD := Lib.hid rd; have HP3 := Lib.hid hp3
      have HIS := Lib.hid (show Sig.isB s = true from his); have HL := Lib.hid hl
      have HH := fun w' (hb : Below w.heap.size w w') => rhow_any (ev := .slice ea en ec) (HR.out.at.stay hb) hn S pid s
      rw [hw] at HH
      unfold tv at HA HV HH ⊢
      have HA := Lib.hid HA; have HH := Lib.hid HH
      clear hl his hf hpl hat hk hp1 hp2 hp3 hset e2 rd O S hw
      go_enter Try.func13, Try.ntmps13
      go_wp2_with fail
      refine (HV.out _ HEN0.out.b).mono ?_
      rw [HL.out]
      rintro e w1 ⟨rfl, hbs⟩
      have HEN1 := Lib.hid (HEN0.out.more hbs)
      clear hbs HEN0 
      have ex0 : w1.cell? ⟨w.heap.size, 0, none⟩ = some (.slice (some ⟨b, 0, none⟩) t.l.length lc) := HEN1.out.x0
      have ex1 : w1.cell? ⟨w.heap.size, 1, none⟩ = some (.int .i64 t.last) := HEN1.out.x1
      have ex2 : w1.cell? ⟨w.heap.size, 2, none⟩ = some (.slice ea en ec) := HEN1.out.x2
      have ez0 : w1.cell? ⟨w.heap.size + 1, 0, none⟩ = some (.slice none 0 0) := HEN1.out.z0
      have ef0 : w1.frozen? ⟨w.heap.size + 1, 0, none⟩ = false := HEN1.out.zf 0
      have ez1 : w1.cell? ⟨w.heap.size + 1, 1, none⟩ = some (.int .i64 0) := HEN1.out.z1
      have ef1 : w1.frozen? ⟨w.heap.size + 1, 1, none⟩ = false := HEN1.out.zf 1
      have ez2 : w1.cell? ⟨w.heap.size + 1, 2, none⟩ = some (.slice none 0 0) := HEN1.out.z2
      have ef2 : w1.frozen? ⟨w.heap.size + 1, 2, none⟩ = false := HEN1.out.zf 2
      go_wp2_with (go_at_call 35; refine (Sig.ris_any s _).mono ?_; rw [HIS.out]; rintro e w' ⟨rfl, rfl⟩)
      refine (HA.out _ HEN1.out.b).mono ?_

      rintro e w2 ⟨rfl, hbs⟩
      have HEN2 := Lib.hid (HEN1.out.more hbs)
      clear hbs HEN1 ex0 ex1 ex2 ez0 ez1 ez2 ef0 ef1 ef2
      have ex0 : w2.cell? ⟨w.heap.size, 0, none⟩ = some (.slice (some ⟨b, 0, none⟩) t.l.length lc) := HEN2.out.x0
      have ex1 : w2.cell? ⟨w.heap.size, 1, none⟩ = some (.int .i64 t.last) := HEN2.out.x1
      have ex2 : w2.cell? ⟨w.heap.size, 2, none⟩ = some (.slice ea en ec) := HEN2.out.x2
      have r0 : w2.cell? ⟨b, k * 7, none⟩ = some (.int .i64 p.pid) := HRD.out w2 HEN2.out.b 0 _ rfl
      have r1 : w2.cell? ⟨b, k * 7 + 1, none⟩ = some (.int .i64 p.par) := HRD.out w2 HEN2.out.b 1 _ rfl
      have r2 : w2.cell? ⟨b, k * 7 + 2, none⟩ = some (.int .i64 p.st) := HRD.out w2 HEN2.out.b 2 _ rfl
      have r3 : w2.cell? ⟨b, k * 7 + 3, none⟩ = some (.bool p.live) := HRD.out w2 HEN2.out.b 3 _ rfl
      have r4 : w2.cell? ⟨b, k * 7 + 4, none⟩ = some (.int .u32 p.ig) := HRD.out w2 HEN2.out.b 4 _ rfl
      have r5 : w2.cell? ⟨b, k * 7 + 5, none⟩ = some (.int .u32 p.ca) := HRD.out w2 HEN2.out.b 5 _ rfl
      have r6 : w2.cell? ⟨b, k * 7 + 6, none⟩ = some (.int .u32 p.pe) := HRD.out w2 HEN2.out.b 6 _ rfl
      have hb3 := below_alloc w2 (.cells #[.int .i64 p.pid, .int .i64 p.par, .int .i64 p.st, .bool p.live, .int .u32 p.ig, .int .u32 p.ca, .int .u32 p.pe] 73)
      have hen3 := HEN2.out.more hb3
      have y0 := hen3.x0; have y1 := hen3.x1; have y2 := hen3.x2
      go_wp2_with fail
      have hbx := heap_alloc_new w2 (.cells #[.int .i64 p.pid, .int .i64 p.par, .int .i64 p.st, .bool p.live, .int .u32 p.ig, .int .u32 p.ca, .int .u32 p.pe] 73)
      have hfar := HEN2.out.far
      clear r0 r1 r2 r3 r4 r5 r6 ex0 ex1 ex2 y0 y1 y2
      generalize (w2.alloc (.cells #[.int .i64 p.pid, .int .i64 p.par, .int .i64 p.st, .bool p.live, .int .u32 p.ig, .int .u32 p.ca, .int .u32 p.pe] 73)) = w3 at hb3 hbx hen3 ⊢
      refine (HH.out _ hen3.b).mono ?_
      rintro e w4 ⟨rfl, hb4⟩
      have HBX := Lib.hid ((hb4.block _ (Array.getElem?_eq_some_iff.1 hbx).1).trans hbx)
      have HEN4 := Lib.hid (hen3.more hb4)
      have HFAR := Lib.hid hfar
      clear hb3 hb4 hbx hen3 hfar
      have ex0 : w4.cell? ⟨w.heap.size, 0, none⟩ = some (.slice (some ⟨b, 0, none⟩) t.l.length lc) := HEN4.out.x0
      have ex1 : w4.cell? ⟨w.heap.size, 1, none⟩ = some (.int .i64 t.last) := HEN4.out.x1
      have ex2 : w4.cell? ⟨w.heap.size, 2, none⟩ = some (.slice ea en ec) := HEN4.out.x2
      go_wp2_with fail
      refine (HH.out _ HEN4.out.b).mono ?_

      rintro e w5 ⟨rfl, hbs⟩
      have HEN5 := Lib.hid (HEN4.out.more hbs)
      clear hbs HEN4 ex0 ex1 ex2
      have ex0 : w5.cell? ⟨w.heap.size, 0, none⟩ = some (.slice (some ⟨b, 0, none⟩) t.l.length lc) := HEN5.out.x0
      have ex1 : w5.cell? ⟨w.heap.size, 1, none⟩ = some (.int .i64 t.last) := HEN5.out.x1
      have ex2 : w5.cell? ⟨w.heap.size, 2, none⟩ = some (.slice ea en ec) := HEN5.out.x2
      have ez0 : w5.cell? ⟨w.heap.size + 1, 0, none⟩ = some (.slice none 0 0) := HEN5.out.z0
      have ef0 : w5.frozen? ⟨w.heap.size + 1, 0, none⟩ = false := HEN5.out.zf 0
      have ez1 : w5.cell? ⟨w.heap.size + 1, 1, none⟩ = some (.int .i64 0) := HEN5.out.z1
      have ef1 : w5.frozen? ⟨w.heap.size + 1, 1, none⟩ = false := HEN5.out.zf 1
      have ez2 : w5.cell? ⟨w.heap.size + 1, 2, none⟩ = some (.slice none 0 0) := HEN5.out.z2
      have ef2 : w5.frozen? ⟨w.heap.size + 1, 2, none⟩ = false := HEN5.out.zf 2
      go_wp2_with fail
      have hfin := fin_row HEN5.out.b HEN5.out.z (HR.out.stay HEN5.out.b) (fun _ e => .inl e) (fun _ e => .inl e)
      exact bodyPost_ret (results_row_tmp rfl _ _ (w.heap.size + 1) _ _ _ _ rfl hfin.1 Try.underlying31 rfl (by kernel_rfl)) rfl ⟨_, _, rfl, hfin.2⟩
    · have hset : sendR t pid s = ({ t with l := t.l.set k { p with pe := add p.pe s } }, true) := by
        rw [← put_set O hf hk (fun p => { p with pe := add p.pe s })]
        unfold sendR
        rw [if_neg (by rw [hl, his]; decide), if_pos hw]
      rw [hset]
      have HWX := fun w' (hb : Below w.heap.size w w') => rwith_any (HR.out.stay hb) hn (Nat.le_trans hB hb.size) k hlt { p with pe := add p.pe s }
      have HRD := Lib.hid rd; have HP3 := Lib.hid hp3
      have HIS := Lib.hid (show Sig.isB s = true from his); have HL := Lib.hid hl
      have HH := fun w' (hb : Below w.heap.size w w') => rhow_any (ev := .slice ea en ec) (HR.out.at.stay hb) hn S pid s
      rw [hw] at HH
      unfold tv at HA HV HH HWX ⊢
      have HA := Lib.hid HA; have HH := Lib.hid HH; have HWX := Lib.hid HWX
      clear hl his hf hpl hat hk hp1 hp2 hp3 hset e2 rd O S hw
      go_enter Try.func13, Try.ntmps13
      go_wp2_with fail
      refine (HV.out _ HEN0.out.b).mono ?_
      rw [HL.out]
      rintro e w1 ⟨rfl, hbs⟩
      have HEN1 := Lib.hid (HEN0.out.more hbs)
      clear hbs HEN0 
      have ex0 : w1.cell? ⟨w.heap.size, 0, none⟩ = some (.slice (some ⟨b, 0, none⟩) t.l.length lc) := HEN1.out.x0
      have ex1 : w1.cell? ⟨w.heap.size, 1, none⟩ = some (.int .i64 t.last) := HEN1.out.x1
      have ex2 : w1.cell? ⟨w.heap.size, 2, none⟩ = some (.slice ea en ec) := HEN1.out.x2
      have ez0 : w1.cell? ⟨w.heap.size + 1, 0, none⟩ = some (.slice none 0 0) := HEN1.out.z0
      have ef0 : w1.frozen? ⟨w.heap.size + 1, 0, none⟩ = false := HEN1.out.zf 0
      have ez1 : w1.cell? ⟨w.heap.size + 1, 1, none⟩ = some (.int .i64 0) := HEN1.out.z1
      have ef1 : w1.frozen? ⟨w.heap.size + 1, 1, none⟩ = false := HEN1.out.zf 1
      have ez2 : w1.cell? ⟨w.heap.size + 1, 2, none⟩ = some (.slice none 0 0) := HEN1.out.z2
      have ef2 : w1.frozen? ⟨w.heap.size + 1, 2, none⟩ = false := HEN1.out.zf 2
      go_wp2_with (go_at_call 35; refine (Sig.ris_any s _).mono ?_; rw [HIS.out]; rintro e w' ⟨rfl, rfl⟩)
      refine (HA.out _ HEN1.out.b).mono ?_

      rintro e w2 ⟨rfl, hbs⟩
      have HEN2 := Lib.hid (HEN1.out.more hbs)
      clear hbs HEN1 ex0 ex1 ex2 ez0 ez1 ez2 ef0 ef1 ef2
      have ex0 : w2.cell? ⟨w.heap.size, 0, none⟩ = some (.slice (some ⟨b, 0, none⟩) t.l.length lc) := HEN2.out.x0
      have ex1 : w2.cell? ⟨w.heap.size, 1, none⟩ = some (.int .i64 t.last) := HEN2.out.x1
      have ex2 : w2.cell? ⟨w.heap.size, 2, none⟩ = some (.slice ea en ec) := HEN2.out.x2
      have r0 : w2.cell? ⟨b, k * 7, none⟩ = some (.int .i64 p.pid) := HRD.out w2 HEN2.out.b 0 _ rfl
      have r1 : w2.cell? ⟨b, k * 7 + 1, none⟩ = some (.int .i64 p.par) := HRD.out w2 HEN2.out.b 1 _ rfl
      have r2 : w2.cell? ⟨b, k * 7 + 2, none⟩ = some (.int .i64 p.st) := HRD.out w2 HEN2.out.b 2 _ rfl
      have r3 : w2.cell? ⟨b, k * 7 + 3, none⟩ = some (.bool p.live) := HRD.out w2 HEN2.out.b 3 _ rfl
      have r4 : w2.cell? ⟨b, k * 7 + 4, none⟩ = some (.int .u32 p.ig) := HRD.out w2 HEN2.out.b 4 _ rfl
      have r5 : w2.cell? ⟨b, k * 7 + 5, none⟩ = some (.int .u32 p.ca) := HRD.out w2 HEN2.out.b 5 _ rfl
      have r6 : w2.cell? ⟨b, k * 7 + 6, none⟩ = some (.int .u32 p.pe) := HRD.out w2 HEN2.out.b 6 _ rfl
      have hb3 := below_alloc w2 (.cells #[.int .i64 p.pid, .int .i64 p.par, .int .i64 p.st, .bool p.live, .int .u32 p.ig, .int .u32 p.ca, .int .u32 p.pe] 73)
      have hen3 := HEN2.out.more hb3
      have y0 := hen3.x0; have y1 := hen3.x1; have y2 := hen3.x2
      go_wp2_with fail
      have hbx := heap_alloc_new w2 (.cells #[.int .i64 p.pid, .int .i64 p.par, .int .i64 p.st, .bool p.live, .int .u32 p.ig, .int .u32 p.ca, .int .u32 p.pe] 73)
      have hfar := HEN2.out.far
      clear r0 r1 r2 r3 r4 r5 r6 ex0 ex1 ex2 y0 y1 y2
      generalize (w2.alloc (.cells #[.int .i64 p.pid, .int .i64 p.par, .int .i64 p.st, .bool p.live, .int .u32 p.ig, .int .u32 p.ca, .int .u32 p.pe] 73)) = w3 at hb3 hbx hen3 ⊢
      refine (HH.out _ hen3.b).mono ?_
      rintro e w4 ⟨rfl, hb4⟩
      have HBX := Lib.hid ((hb4.block _ (Array.getElem?_eq_some_iff.1 hbx).1).trans hbx)
      have HEN4 := Lib.hid (hen3.more hb4)
      have HFAR := Lib.hid hfar
      clear hb3 hb4 hbx hen3 hfar
      have px0 : w4.cell? ⟨w2.heap.size, 0, none⟩ = some (.int .i64 p.pid) := Lib.cell_of_heap (HBX.out) 0
      have px1 : w4.cell? ⟨w2.heap.size, 1, none⟩ = some (.int .i64 p.par) := Lib.cell_of_heap (HBX.out) 1
      have px2 : w4.cell? ⟨w2.heap.size, 2, none⟩ = some (.int .i64 p.st) := Lib.cell_of_heap (HBX.out) 2
      have px3 : w4.cell? ⟨w2.heap.size, 3, none⟩ = some (.bool p.live) := Lib.cell_of_heap (HBX.out) 3
      have px4 : w4.cell? ⟨w2.heap.size, 4, none⟩ = some (.int .u32 p.ig) := Lib.cell_of_heap (HBX.out) 4
      have px5 : w4.cell? ⟨w2.heap.size, 5, none⟩ = some (.int .u32 p.ca) := Lib.cell_of_heap (HBX.out) 5
      have px6 : w4.cell? ⟨w2.heap.size, 6, none⟩ = some (.int .u32 p.pe) := Lib.cell_of_heap (HBX.out) 6
      have pf6 : w4.frozen? ⟨w2.heap.size, 6, none⟩ = false := frozen_of_row _ _ _ _ _ HBX.out
      have ex0 : w4.cell? ⟨w.heap.size, 0, none⟩ = some (.slice (some ⟨b, 0, none⟩) t.l.length lc) := HEN4.out.x0
      have ex1 : w4.cell? ⟨w.heap.size, 1, none⟩ = some (.int .i64 t.last) := HEN4.out.x1
      have ex2 : w4.cell? ⟨w.heap.size, 2, none⟩ = some (.slice ea en ec) := HEN4.out.x2
      have hne : w.heap.size ≠ w2.heap.size := by have := HFAR.out; omega
      have hne' : w2.heap.size ≠ w.heap.size := fun e => hne e.symm
      go_wp2_with (first
        | (go_at_call 40; refine (Sig.rwith_any p.pe s HP3.out _).mono ?_; rintro e w' ⟨rfl, rfl⟩)
        | (go_at_call 52; refine hold ?_))
      have hen9 := HEN4.out.set (a := ⟨w2.heap.size, 6, none⟩) HFAR.out (.int .u32 (p.pe ||| Sig.bitN s : Nat))
      clear ex0 ex1 ex2 px0 px1 px2 px3 px4 px5 px6 pf6 hne hne'
      refine Hold.out ((HWX.out _ hen9.b).mono ?_)
      rintro e w5 ⟨lv', rfl, hch⟩
      have HEN5 := Lib.hid (hen9.more hch.below)
      have HSZ5 := Lib.hid hen9.b.size
      obtain ⟨la', ln', lc', rfl⟩ := ends_shape hch.rt.l
      have HCH := Lib.hid hch
      clear hch hen9
      have ez0 : w5.cell? ⟨w.heap.size + 1, 0, none⟩ = some (.slice none 0 0) := HEN5.out.z0
      have ef0 : w5.frozen? ⟨w.heap.size + 1, 0, none⟩ = false := HEN5.out.zf 0
      have ez1 : w5.cell? ⟨w.heap.size + 1, 1, none⟩ = some (.int .i64 0) := HEN5.out.z1
      have ef1 : w5.frozen? ⟨w.heap.size + 1, 1, none⟩ = false := HEN5.out.zf 1
      have ez2 : w5.cell? ⟨w.heap.size + 1, 2, none⟩ = some (.slice none 0 0) := HEN5.out.z2
      have ef2 : w5.frozen? ⟨w.heap.size + 1, 2, none⟩ = false := HEN5.out.zf 2
      go_wp2_with fail
      have hfin := fin_row HEN5.out.b HEN5.out.z HCH.out.rt (fun j e => (HCH.out.l j e).imp id (Nat.le_trans HSZ5.out)) (fun j e => (HCH.out.e j e).imp id (Nat.le_trans HSZ5.out))
      exact bodyPost_ret (results_row_tmp rfl _ _ (w.heap.size + 1) _ _ _ _ rfl hfin.1 Try.underlying31 rfl (by kernel_rfl)) rfl ⟨_, _, rfl, hfin.2⟩
end Kn
end Go.Proofs.Ytlebglnlkkoakaa
