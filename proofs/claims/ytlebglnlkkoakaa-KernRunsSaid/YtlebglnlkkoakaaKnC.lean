/- What a table is asked: alive, Live, Child, How, Pending, Len. -/
import Derived.Test.YtlebglnlkkoakaaKnB
namespace Go.Proofs.Ytlebglnlkkoakaa
open Go.RowKit Go.Maps
namespace Kn
/-- A number that an int holds. -/
def I64 (x : Int) : Prop := -9223372036854775808 ≤ x ∧ x ≤ 9223372036854775807
theorem I64.wf {x : Int} (h : I64 x) : (Lit.int .i64 x).wf = true := WalkArith.wf_i64 h
theorem Tb.c0 {w : World} {B : Nat} {h : H} {t : T} (T : Tb w B h t) : w.cell? ⟨h.tb, 0, none⟩ = some (.map (some h.mb)) := Lib.cell_of_heap T.cells 0
theorem Tb.c1 {w : World} {B : Nat} {h : H} {t : T} (T : Tb w B h t) : w.cell? ⟨h.tb, 1, none⟩ = some (.int .i64 t.last) := Lib.cell_of_heap T.cells 1
theorem Tb.c2 {w : World} {B : Nat} {h : H} {t : T} (T : Tb w B h t) : w.cell? ⟨h.tb, 2, none⟩ = some h.ev := Lib.cell_of_heap T.cells 2
theorem Tb.found {w : World} {B : Nat} {h : H} {t : T} (T : Tb w B h t) {pid : Int} {p : P} (hp : find t pid = some p) : w.heap[h.ad pid]? = some (.cells (pcells p) 82 (0, 0)) := by
  obtain ⟨e, hm⟩ := find_pid hp
  rw [← e]; exact T.proc p hm
theorem lad_none {h : H} {t : T} {pid : Int} (hf : find t pid = none) : lad h t pid = none := by unfold lad live; rw [hf]; rfl
theorem lad_dead {h : H} {t : T} {pid : Int} {p : P} (hf : find t pid = some p) (hl : p.live = false) : lad h t pid = none := by unfold lad live; rw [hf]; simp [hl]
theorem lad_live {h : H} {t : T} {pid : Int} {p : P} (hf : find t pid = some p) (hl : p.live = true) : lad h t pid = some (h.ad pid) := by unfold lad live; rw [hf]; simp [hl]
set_option maxHeartbeats 800000 in
theorem alive_any {w : World} {B : Nat} {h : H} {t : T} (T : Tb w B h t) (pid : Int) (hpid : I64 pid) :
    Calls Try.prog 46 #[.pointer (some ⟨h.tb, 0, none⟩), .int .i64 pid] w fun e w' => e = .returned (ptr (lad h t pid)) ∧ w' = w := by
  have c0 := T.c0
  have HM := Lib.hid T.map
  have HK := Lib.hid (T.keys pid)
  have HW := Lib.hid hpid.wf
  cases hf : find t pid with
  | none =>
    rw [hf] at HK
    rw [lad_none hf]
    clear T
    go_enter Try.func46, Try.ntmps46
    go_wp2_with (at_lookup; refine wpList_lookup_ptr rfl _ _ rfl _ _ _ rfl HM.out _ pid rfl rfl HW.out _ HK.out ?_; rw [ptr])
    go_ret
    exact ⟨rfl, rfl⟩
  | some p =>
    rw [hf] at HK
    have hr := T.found hf
    have q1 : w.cell? ⟨h.ad pid, 1, none⟩ = some (.bool p.live) := Lib.cell_of_heap hr 1
    clear T hr
    cases hl : p.live
    · rw [lad_dead hf hl]
      rw [hl] at q1
      go_enter Try.func46, Try.ntmps46
      go_wp2_with (at_lookup; refine wpList_lookup_ptr rfl _ _ rfl _ _ _ rfl HM.out _ pid rfl rfl HW.out _ HK.out ?_; rw [ptr])
      go_ret
      exact ⟨rfl, rfl⟩
    · rw [lad_live hf hl]
      rw [hl] at q1
      go_enter Try.func46, Try.ntmps46
      go_wp2_with (at_lookup; refine wpList_lookup_ptr rfl _ _ rfl _ _ _ rfl HM.out _ pid rfl rfl HW.out _ HK.out ?_; rw [ptr])
      go_ret
      exact ⟨rfl, rfl⟩
theorem live_iff {t : T} {pid : Int} (hl : live t pid = true) : ∃ p, find t pid = some p ∧ p.live = true := by
  unfold live at hl
  cases hf : find t pid with
  | none => rw [hf] at hl; cases hl
  | some p => rw [hf] at hl; exact ⟨p, rfl, by simpa using hl⟩
theorem lad_no {h : H} {t : T} {pid : Int} (hl : live t pid = false) : lad h t pid = none := by unfold lad; rw [hl]; rfl
theorem lad_yes {h : H} {t : T} {pid : Int} (hl : live t pid = true) : lad h t pid = some (h.ad pid) := by unfold lad; rw [hl]; rfl
set_option maxHeartbeats 800000 in
theorem live_any {w : World} {B : Nat} {h : H} {t : T} (T : Tb w B h t) (pid : Int) (hpid : I64 pid) :
    Calls Try.prog 22 #[.pointer (some ⟨h.tb, 0, none⟩), .int .i64 pid] w fun e w' => e = .returned (.bool (live t pid)) ∧ w' = w := by
  have HA := Lib.hid (alive_any T pid hpid)
  clear T
  cases hl : live t pid
  · rw [lad_no hl] at HA
    go_enter Try.func22, Try.ntmps22
    go_wp2_with (go_at_call 46; refine HA.out.mono ?_; rintro e w' ⟨rfl, rfl⟩; rw [ptr])
    go_ret
    exact ⟨rfl, rfl⟩
  · rw [lad_yes hl] at HA
    go_enter Try.func22, Try.ntmps22
    go_wp2_with (go_at_call 46; refine HA.out.mono ?_; rintro e w' ⟨rfl, rfl⟩; rw [ptr])
    go_ret
    exact ⟨rfl, rfl⟩
set_option maxHeartbeats 800000 in
theorem child_any {w : World} {B : Nat} {h : H} {t : T} (T : Tb w B h t) (par pid : Int) (hpar : I64 par) (hpid : I64 pid) :
    Calls Try.prog 26 #[.pointer (some ⟨h.tb, 0, none⟩), .int .i64 par, .int .i64 pid] w fun e w' => e = .returned (.bool (child t par pid)) ∧ w' = w := by
  have c0 := T.c0
  have HM := Lib.hid T.map
  have HK := Lib.hid (T.keys pid)
  have HW := Lib.hid hpid.wf
  have HA := Lib.hid (live_any T par hpar)
  cases hf : find t pid with
  | none =>
    rw [hf] at HK
    rw [show child t par pid = false by unfold child; rw [hf]; rfl]
    clear T
    go_enter Try.func26, Try.ntmps26
    go_wp2_with (at_lookup; refine wpList_lookup_ptr rfl _ _ rfl _ _ _ rfl HM.out _ pid rfl rfl HW.out _ HK.out ?_; rw [ptr])
    go_ret
    exact ⟨rfl, rfl⟩
  | some p =>
    rw [hf] at HK
    rw [show child t par pid = (p.par == par && live t par) by unfold child; rw [hf]; rfl]
    have hr := T.found hf
    have q1 : w.cell? ⟨h.ad pid, 0, none⟩ = some (.int .i64 p.par) := Lib.cell_of_heap hr 0
    clear T hr
    cases he : p.par == par
    · go_enter Try.func26, Try.ntmps26
      go_wp2_with (at_lookup; refine wpList_lookup_ptr rfl _ _ rfl _ _ _ rfl HM.out _ pid rfl rfl HW.out _ HK.out ?_; rw [ptr])
      go_ret
      exact ⟨rfl, rfl⟩
    · go_enter Try.func26, Try.ntmps26
      go_wp2_with (first
        | (at_lookup; refine wpList_lookup_ptr rfl _ _ rfl _ _ _ rfl HM.out _ pid rfl rfl HW.out _ HK.out ?_; rw [ptr])
        | (go_at_call 22; refine HA.out.mono ?_; rintro e w' ⟨rfl, rfl⟩))
      go_ret
      exact ⟨rfl, rfl⟩
set_option maxHeartbeats 800000 in
theorem len_any {w : World} {B : Nat} {h : H} {t : T} (T : Tb w B h t) :
    Calls Try.prog 30 #[.pointer (some ⟨h.tb, 0, none⟩)] w fun e w' => e = .returned (.int .i64 t.l.length) ∧ w' = w := by
  have c0 := T.c0
  have HM := Lib.hid T.map
  have HS := Lib.hid T.size
  clear T
  go_enter Try.func30, Try.ntmps30
  go_wp2_with (at_len; refine wpList_len_own _ rfl _ 65 rfl 3 79 Try.underlying65 _ h.mb _ h.D rfl HM.out ?_; rw [HS.out])
  go_ret
  exact ⟨rfl, rfl⟩
def howP (p : P) (s : Int) : Int := if has p.ig s then 1 else if has p.ca s then 2 else 0
set_option maxHeartbeats 800000 in
theorem phow_any {w : World} {b : Nat} {p : P} (hr : w.heap[b]? = some (.cells (pcells p) 82 (0, 0))) (hi : p.ig < 4294967296) (hc : p.ca < 4294967296) (s : Int) :
    Calls Try.prog 49 #[.pointer (some ⟨b, 0, none⟩), .int .i64 s] w fun e w' => e = .returned (.int .i64 (howP p s)) ∧ w' = w := by
  have q3 : w.cell? ⟨b, 3, none⟩ = some (.int .u32 p.ig) := Lib.cell_of_heap hr 3
  have q4 : w.cell? ⟨b, 4, none⟩ = some (.int .u32 p.ca) := Lib.cell_of_heap hr 4
  have HI := Lib.hid hi; have HC := Lib.hid hc
  clear hr hi hc
  cases h1 : Sig.hasB p.ig s
  · cases h2 : Sig.hasB p.ca s
    · rw [show howP p s = 0 by simp [howP, has, h1, h2]]
      have H1 := Lib.hid h1; have H2 := Lib.hid h2
      clear h1 h2
      go_enter Try.func49, Try.ntmps49
      go_wp2_with fail
      refine (Sig.has_any p.ig s HI.out _).mono ?_
      rw [H1.out]; rintro e w' ⟨rfl, rfl⟩
      go_wp2_with fail
      refine (Sig.has_any p.ca s HC.out _).mono ?_
      rw [H2.out]; rintro e w' ⟨rfl, rfl⟩
      go_wp2_with fail
      go_ret
      exact ⟨rfl, rfl⟩
    · rw [show howP p s = 2 by simp [howP, has, h1, h2]]
      have H1 := Lib.hid h1; have H2 := Lib.hid h2
      clear h1 h2
      go_enter Try.func49, Try.ntmps49
      go_wp2_with fail
      refine (Sig.has_any p.ig s HI.out _).mono ?_
      rw [H1.out]; rintro e w' ⟨rfl, rfl⟩
      go_wp2_with fail
      refine (Sig.has_any p.ca s HC.out _).mono ?_
      rw [H2.out]; rintro e w' ⟨rfl, rfl⟩
      go_wp2_with fail
      go_ret
      exact ⟨rfl, rfl⟩
  · rw [show howP p s = 1 by simp [howP, has, h1]]
    have H1 := Lib.hid h1
    clear h1
    go_enter Try.func49, Try.ntmps49
    go_wp2_with (go_at_call 33; refine (Sig.has_any p.ig s HI.out _).mono ?_; rw [H1.out]; rintro e w' ⟨rfl, rfl⟩)
    go_ret
    exact ⟨rfl, rfl⟩
/-- All sets are sets. -/
def Sets (t : T) : Prop := ∀ p ∈ t.l, p.ig < 4294967296 ∧ p.ca < 4294967296 ∧ p.pe < 4294967296
theorem Sets.at {t : T} (h : Sets t) {pid : Int} {p : P} (hp : find t pid = some p) : p.ig < 4294967296 ∧ p.ca < 4294967296 ∧ p.pe < 4294967296 := h p (find_pid hp).2
theorem how_dead {t : T} {pid : Int} (s : Int) (hl : live t pid = false) : how t pid s = 0 := by
  unfold how
  unfold live at hl
  cases hf : find t pid with
  | none => rfl
  | some p => rw [hf] at hl; simp at hl; simp [hl]
theorem how_live {t : T} {pid : Int} {p : P} (s : Int) (hf : find t pid = some p) (hl : p.live = true) : how t pid s = howP p s := by
  unfold how howP; rw [hf]; simp [hl]
set_option maxHeartbeats 800000 in
theorem how_any {w : World} {B : Nat} {h : H} {t : T} (T : Tb w B h t) (S : Sets t) (pid s : Int) (hpid : I64 pid) :
    Calls Try.prog 24 #[.pointer (some ⟨h.tb, 0, none⟩), .int .i64 pid, .int .i64 s] w fun e w' => e = .returned (.int .i64 (how t pid s)) ∧ w' = w := by
  have HA := Lib.hid (alive_any T pid hpid)
  cases hl : live t pid
  · rw [lad_no hl] at HA
    rw [how_dead s hl]
    clear T
    go_enter Try.func24, Try.ntmps24
    go_wp2_with (go_at_call 46; refine HA.out.mono ?_; rintro e w' ⟨rfl, rfl⟩; rw [ptr])
    go_ret
    exact ⟨rfl, rfl⟩
  · rw [lad_yes hl] at HA
    obtain ⟨p, hf, hpl⟩ := live_iff hl
    rw [how_live s hf hpl]
    have HP := Lib.hid (phow_any (T.found hf) (S.at hf).1 (S.at hf).2.1 s)
    clear T S
    go_enter Try.func24, Try.ntmps24
    go_wp2_with (first
      | (go_at_call 46; refine HA.out.mono ?_; rintro e w' ⟨rfl, rfl⟩; rw [ptr])
      | (go_at_call 49; refine HP.out.mono ?_; rintro e w' ⟨rfl, rfl⟩))
    go_ret
    exact ⟨rfl, rfl⟩
theorem pending_live {t : T} {pid : Int} {p : P} (hf : find t pid = some p) (hl : p.live = true) : pending t pid = p.pe := by
  unfold pending; rw [hf]; simp [hl]
set_option maxHeartbeats 800000 in
theorem pending_any {w : World} {B : Nat} {h : H} {t : T} (T : Tb w B h t) (pid : Int) (hpid : I64 pid) :
    Calls Try.prog 28 #[.pointer (some ⟨h.tb, 0, none⟩), .int .i64 pid] w fun e w' => e = .returned (.int .u32 (pending t pid : Nat)) ∧ w' = w := by
  have HA := Lib.hid (alive_any T pid hpid)
  cases hl : live t pid
  · rw [lad_no hl] at HA
    rw [dead_pending hl]
    clear T
    go_enter Try.func28, Try.ntmps28
    go_wp2_with (go_at_call 46; refine HA.out.mono ?_; rintro e w' ⟨rfl, rfl⟩; rw [ptr])
    go_ret
    exact ⟨rfl, rfl⟩
  · rw [lad_yes hl] at HA
    obtain ⟨p, hf, hpl⟩ := live_iff hl
    rw [pending_live hf hpl]
    have q5 : w.cell? ⟨h.ad pid, 5, none⟩ = some (.int .u32 p.pe) := Lib.cell_of_heap (T.found hf) 5
    clear T
    go_enter Try.func28, Try.ntmps28
    go_wp2_with (go_at_call 46; refine HA.out.mono ?_; rintro e w' ⟨rfl, rfl⟩; rw [ptr])
    go_ret
    exact ⟨rfl, rfl⟩
end Kn
end Go.Proofs.Ytlebglnlkkoakaa
