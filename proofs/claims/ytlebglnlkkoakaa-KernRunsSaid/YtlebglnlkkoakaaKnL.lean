/- Reap, Send; what stays true of a table. -/
import Derived.Test.YtlebglnlkkoakaaKnK
namespace Go.Proofs.Ytlebglnlkkoakaa
open Go.RowKit Go.Maps
namespace Kn
theorem reap_no {t : T} {par pid : Int} (h : child t par pid = false ∨ live t pid = true) : reap t par pid = (t, 0, false) := by unfold reap; rw [if_pos h]
theorem reap_yes {t : T} {par pid : Int} {p : P} (h1 : child t par pid = true) (h2 : live t pid = false) (hf : find t pid = some p) : reap t par pid = (drop t pid, p.st, true) := by
  unfold reap; rw [if_neg (by simp [h1, h2]), hf]; rfl
set_option maxHeartbeats 800000 in
theorem reap_any {w : World} {B : Nat} {h : H} {t : T} (T : Tb w B h t) (O : Ok t) (par pid : Int) (hpar : I64 par) (hpid : I64 pid) :
    Calls Try.prog 16 #[.pointer (some ⟨h.tb, 0, none⟩), .int .i64 par, .int .i64 pid] w fun e w' => e = .returned (.tuple #[.int .i64 (reap t par pid).2.1, .bool (reap t par pid).2.2]) ∧ Chg w B h t (reap t par pid).1 w' := by
  have HC := Lib.hid (child_any T par pid hpar hpid)
  have HL := Lib.hid (live_any T pid hpid)
  have HT := Lib.hid T
  cases hc : child t par pid
  · rw [reap_no (.inl hc)]
    rw [hc] at HC
    clear T
    go_enter Try.func16, Try.ntmps16
    go_wp2_with (go_at_call 26; refine HC.out.mono ?_; rintro e w' ⟨rfl, rfl⟩)
    go_ret2
    exact ⟨rfl, Chg.refl HT.out⟩
  cases hl : live t pid
  case true =>
    rw [reap_no (.inr hl)]
    rw [hc] at HC
    rw [hl] at HL
    clear T
    go_enter Try.func16, Try.ntmps16
    go_wp2_with (first
      | (go_at_call 26; refine HC.out.mono ?_; rintro e w' ⟨rfl, rfl⟩)
      | (go_at_call 22; refine HL.out.mono ?_; rintro e w' ⟨rfl, rfl⟩))
    go_ret2
    exact ⟨rfl, Chg.refl HT.out⟩
  obtain ⟨p, hf⟩ : ∃ p, find t pid = some p := by
    unfold child at hc
    cases hf : find t pid with
    | none => rw [hf] at hc; cases hc
    | some p => exact ⟨p, rfl⟩
  rw [reap_yes hc hl hf]
  rw [hc] at HC
  rw [hl] at HL
  have c0 := T.c0
  have HM := Lib.hid T.map
  have hk := T.keys pid
  rw [hf] at hk
  have HK := Lib.hid hk
  have q2 : w.cell? ⟨h.ad pid, 2, none⟩ = some (.int .i64 p.st) := Lib.cell_of_heap (T.found hf) 2
  have hkey : keyOf Try.prog 3 (.int .i64 pid) = some (.int .i64 pid) := keyOf_int_mk Try.underlying3 hpid.wf
  have HW := Lib.hid hpid.wf; have HI := Lib.hid hpid; have HO := Lib.hid O
  clear T hk hc hl hf hpid O
  go_enter Try.func16, Try.ntmps16
  go_wp2_with (first
    | (go_at_call 26; refine HC.out.mono ?_; rintro e w' ⟨rfl, rfl⟩)
    | (go_at_call 22; refine HL.out.mono ?_; rintro e w' ⟨rfl, rfl⟩)
    | (at_lookup; refine wpList_lookup_ptr rfl _ _ rfl _ _ _ rfl HM.out _ pid rfl rfl HW.out _ HK.out ?_; rw [ptr])
    | (at_delete; refine wpList_delete_own _ rfl _ _ 65 3 rfl 79 keyed Try.underlying65 _ h.mb _ h.D rfl HM.out _ _ rfl hkey ?_; intro w6 hown6 hturn6))
  have hch := HT.out.dropped HO.out pid HI.out (fr_turned hturn6) hown6
  go_ret2
  exact ⟨rfl, hch⟩
theorem send_no (mild : Int → Bool) {t : T} {pid s : Int} (h : live t pid = false ∨ isS s = false) : send mild t pid s = (t, false) := by unfold send; rw [if_pos h]
theorem send_caught (mild : Int → Bool) {t : T} {pid s : Int} (h1 : live t pid = true) (h2 : isS s = true) (h3 : how t pid s = 2) : send mild t pid s = (put t pid fun p => { p with pe := add p.pe s }, true) := by
  unfold send; rw [if_neg (by simp [h1, h2]), if_pos h3]
theorem send_dies {mild : Int → Bool} {t : T} {pid s : Int} (h1 : live t pid = true) (h2 : isS s = true) (h3 : how t pid s = 0) (h4 : mild s = false) : send mild t pid s = exit t pid (128 + s) := by
  unfold send; rw [if_neg (by simp [h1, h2]), if_neg (by omega), if_pos ⟨h3, h4⟩]
theorem send_same {mild : Int → Bool} {t : T} {pid s : Int} (h1 : live t pid = true) (h2 : isS s = true) (h3 : how t pid s = 1 ∨ (how t pid s = 0 ∧ mild s = true)) : send mild t pid s = (t, true) := by
  unfold send
  rw [if_neg (by simp [h1, h2]), if_neg (by omega), if_neg]
  rintro ⟨e1, e2⟩
  rcases h3 with h3 | ⟨_, h3⟩
  · omega
  · rw [h3] at e2; cases e2
theorem howP_cases (p : P) (s : Int) : howP p s = 0 ∨ howP p s = 1 ∨ howP p s = 2 := by
  unfold howP
  cases has p.ig s <;> cases has p.ca s <;> simp
set_option maxHeartbeats 1600000 in
theorem send_any {w : World} {B : Nat} {h : H} {t : T} (T : Tb w B h t) (O : Ok t) (R : Par t) (S : Sets t) (h1 : t.last < 1000000) (hB : B ≤ w.heap.size) (hends : t.ends.length ≤ 100000) (pid s : Int) (hpid : I64 pid) :
    Calls Try.prog 12 #[.pointer (some ⟨h.tb, 0, none⟩), .int .i64 pid, .int .i64 s] w fun e w' => e = .returned (.bool (send Sig.mildB t pid s).2) ∧ Chg w B h t (send Sig.mildB t pid s).1 w' := by
  have HA := Lib.hid (alive_any T pid hpid)
  have HT := Lib.hid T
  cases hl : live t pid
  · rw [lad_no hl] at HA
    rw [send_no _ (.inl hl)]
    clear T
    go_enter Try.func12, Try.ntmps12
    go_wp2_with (go_at_call 46; refine HA.out.mono ?_; rintro e w' ⟨rfl, rfl⟩; rw [ptr])
    go_ret
    exact ⟨rfl, Chg.refl HT.out⟩
  rw [lad_yes hl] at HA
  have HS := fun w => Sig.is_any s w
  cases hs : isS s
  · rw [send_no _ (.inr hs)]
    rw [show Sig.isB s = false from hs] at HS
    have HS := Lib.hid HS
    clear T hl
    go_enter Try.func12, Try.ntmps12
    go_wp2_with (first
      | (go_at_call 46; refine HA.out.mono ?_; rintro e w' ⟨rfl, rfl⟩; rw [ptr])
      | (go_at_call 48; refine (HS.out _).mono ?_; rintro e w' ⟨rfl, rfl⟩))
    go_ret
    exact ⟨rfl, Chg.refl HT.out⟩
  rw [show Sig.isB s = true from hs] at HS
  have HS := Lib.hid HS
  obtain ⟨p, hf, hp⟩ := live_iff hl
  have hr := T.found hf
  have hhow := how_live s hf hp
  have HH := Lib.hid (phow_any hr (S.at hf).1 (S.at hf).2.1 s)
  have hsb : 1 ≤ s ∧ s ≤ 31 := of_decide_eq_true hs
  rcases howP_cases p s with h3 | h3 | h3
  · rw [h3] at HH hhow
    cases hm : Sig.mildB s
    · rw [send_dies hl hs hhow hm]
      have HM := fun w => Sig.mild_any s w
      rw [hm] at HM
      have HM := Lib.hid HM
      have HE := Lib.hid (exit_any T O R h1 hB hends pid (128 + s) hpid (by unfold I64; omega))
      have hyes : (exit t pid (128 + s)).2 = true := by rw [exit_ok, hl]
      have HY := Lib.hid hyes
      clear T hl hs hf hp hr hhow h3 hm hyes O R S
      go_enter Try.func12, Try.ntmps12
      go_wp2_with (first
        | (go_at_call 46; refine HA.out.mono ?_; rintro e w' ⟨rfl, rfl⟩; rw [ptr])
        | (go_at_call 48; refine (HS.out _).mono ?_; rintro e w' ⟨rfl, rfl⟩)
        | (go_at_call 49; refine HH.out.mono ?_; rintro e w' ⟨rfl, rfl⟩)
        | (go_at_call 51; refine (HM.out _).mono ?_; rintro e w' ⟨rfl, rfl⟩)
        | (go_at_call 14; refine HE.out.mono ?_; rintro e w' ⟨rfl, hc⟩))
      go_ret
      exact ⟨by rw [HY.out]; rfl, hc⟩
    · rw [send_same hl hs (.inr ⟨hhow, hm⟩)]
      have HM := fun w => Sig.mild_any s w
      rw [hm] at HM
      have HM := Lib.hid HM
      clear T hl hs hf hp hr hhow h3 hm O R S
      go_enter Try.func12, Try.ntmps12
      go_wp2_with (first
        | (go_at_call 46; refine HA.out.mono ?_; rintro e w' ⟨rfl, rfl⟩; rw [ptr])
        | (go_at_call 48; refine (HS.out _).mono ?_; rintro e w' ⟨rfl, rfl⟩)
        | (go_at_call 49; refine HH.out.mono ?_; rintro e w' ⟨rfl, rfl⟩)
        | (go_at_call 51; refine (HM.out _).mono ?_; rintro e w' ⟨rfl, rfl⟩))
      go_ret
      exact ⟨rfl, Chg.refl HT.out⟩
  · rw [h3] at HH hhow
    rw [send_same hl hs (.inl hhow)]
    clear T hl hs hf hp hr hhow h3 O R S
    go_enter Try.func12, Try.ntmps12
    go_wp2_with (first
      | (go_at_call 46; refine HA.out.mono ?_; rintro e w' ⟨rfl, rfl⟩; rw [ptr])
      | (go_at_call 48; refine (HS.out _).mono ?_; rintro e w' ⟨rfl, rfl⟩)
      | (go_at_call 49; refine HH.out.mono ?_; rintro e w' ⟨rfl, rfl⟩))
    go_ret
    exact ⟨rfl, Chg.refl HT.out⟩
  · rw [h3] at HH hhow
    rw [send_caught _ hl hs hhow]
    have q5 : w.cell? ⟨h.ad pid, 5, none⟩ = some (.int .u32 p.pe) := Lib.cell_of_heap hr 5
    have f5 : w.frozen? ⟨h.ad pid, 5, none⟩ = false := frozen_of_row _ _ _ _ _ hr
    have HO := Lib.hid O; have HR := Lib.hid hr; have HF := Lib.hid hf; have HP := Lib.hid (S.at hf).2.2
    clear T hl hs hf hp hr hhow h3 O R S
    go_enter Try.func12, Try.ntmps12
    go_wp2_with (first
      | (go_at_call 46; refine HA.out.mono ?_; rintro e w' ⟨rfl, rfl⟩; rw [ptr])
      | (go_at_call 48; refine (HS.out _).mono ?_; rintro e w' ⟨rfl, rfl⟩)
      | (go_at_call 49; refine HH.out.mono ?_; rintro e w' ⟨rfl, rfl⟩)
      | (go_at_call 50; refine (Sig.with_any p.pe s HP.out _).mono ?_; rintro e w' ⟨rfl, rfl⟩))
    go_ret
    have := HT.out.wrote HO.out HF.out (f := fun p => { p with pe := add p.pe s }) (fun _ => rfl) (Fr.set _ _ 5 _) (heap_setCell_same _ _ 5 _ _ _ HR.out)
    exact ⟨rfl, h, rfl, this.1, this.2⟩
end Kn
end Go.Proofs.Ytlebglnlkkoakaa
