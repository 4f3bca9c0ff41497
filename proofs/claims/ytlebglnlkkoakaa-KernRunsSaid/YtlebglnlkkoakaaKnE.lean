/- Put; what is drawn from a set; another process. -/
import Derived.Test.YtlebglnlkkoakaaKnD
import Derived.Deep.RegionWith
namespace Go.Proofs.Ytlebglnlkkoakaa
open Go.RowKit Go.Maps
namespace Kn
theorem bit_bitN (s : Int) (k : Nat) : (Sig.bitN s).testBit k = (Sig.isB s && decide (s.toNat = k)) := by
  unfold Sig.bitN
  cases h : Sig.isB s <;> simp [Nat.testBit_two_pow]
theorem bit_mask (s : Int) (i : Nat) : (4294967295 - Sig.bitN s).testBit i = (decide (i < 32) && !(Sig.bitN s).testBit i) := by
  have := Sig.bitN_lt s
  rw [show 4294967295 - Sig.bitN s = 2 ^ 32 - (Sig.bitN s + 1) by omega, Nat.testBit_two_pow_sub_succ (show Sig.bitN s < 2 ^ 32 from this)]
theorem bit_high {x : Nat} (hx : x < 4294967296) {i : Nat} (hi : ¬ i < 32) : x.testBit i = false :=
  Nat.testBit_lt_two_pow (Nat.lt_of_lt_of_le hx (Nat.le_trans (show 4294967296 ≤ 2 ^ 32 by decide) (Nat.pow_le_pow_right (show 0 < 2 by decide) (show 32 ≤ i by omega))))
theorem and_del {a c : Nat} (h : a &&& c = a) (s : Int) : a &&& del c s = del a s := by
  unfold del; rw [← Nat.and_assoc, h]
theorem and_add {a c : Nat} (h : a &&& c = a) (ha : a < 4294967296) (s : Int) : a &&& add (del c s) s = a := by
  apply Nat.eq_of_testBit_eq
  intro i
  have hi := congrArg (Nat.testBit · i) h
  simp only [Nat.testBit_and] at hi
  unfold add del
  rw [Nat.testBit_and, Nat.testBit_or, Nat.testBit_and, bit_mask]
  by_cases h32 : i < 32
  · revert hi
    cases a.testBit i <;> cases c.testBit i <;> cases (Sig.bitN s).testBit i <;> simp [h32]
  · rw [bit_high ha h32]; rfl
theorem add_lt {x : Nat} (hx : x < 4294967296) (s : Int) : add x s < 4294967296 := Nat.or_lt_two_pow (n := 32) hx (Sig.bitN_lt s)
theorem del_lt {x : Nat} (hx : x < 4294967296) (s : Int) : del x s < 4294967296 := Nat.lt_of_le_of_lt Nat.and_le_left hx
/-- What is pending is caught. -/
def Sub (t : T) : Prop := ∀ p ∈ t.l, p.pe &&& p.ca = p.pe
theorem setP_pe {p : P} (h : p.pe &&& p.ca = p.pe) (hp : p.pe < 4294967296) (s k : Int) : p.pe &&& (setP p s k).ca = (setP p s k).pe := by
  unfold setP
  simp only
  by_cases hk : k = 2
  · rw [if_pos hk, if_pos hk]; exact and_add h hp s
  · rw [if_neg hk, if_neg hk]; exact and_del h s
theorem Chg.drew {w w' : World} {B : Nat} {h : H} {t t' : T} (c : Chg w B h t t' w') : Chg w B h t t' w'.drew := by
  obtain ⟨h', e, T, G⟩ := c
  exact ⟨h', e, T.stays fun _ _ => rfl, ⟨G.fr.os, G.fr.tape, G.fr.output, G.fr.size, G.fr.block⟩, G.grew, G.ad, G.last⟩
set_option maxHeartbeats 1600000 in
theorem put_any {w : World} {B : Nat} {h : H} {t : T} (T : Tb w B h t) (O : Ok t) (S : Sets t) (U : Sub t) (pid s k : Int) (hpid : I64 pid) :
    Calls Try.prog 18 #[.pointer (some ⟨h.tb, 0, none⟩), .int .i64 pid, .int .i64 s, .int .i64 k] w fun e w' => e = .returned (.bool (putS Sig.fixedB t pid s k).2) ∧ Chg w B h t (putS Sig.fixedB t pid s k).1 w' := by
  have HA := Lib.hid (alive_any T pid hpid)
  have no : (live t pid = false ∨ isS s = false ∨ Sig.fixedB s = true ∨ k < 0 ∨ 2 < k) → putS Sig.fixedB t pid s k = (t, false) := fun e => by unfold putS; rw [if_pos e]
  cases hl : live t pid
  · rw [lad_no hl] at HA
    rw [no (.inl hl)]
    have HT := Lib.hid T
    clear T no
    go_enter Try.func18, Try.ntmps18
    go_wp2_with (go_at_call 46; refine HA.out.mono ?_; rintro e w' ⟨rfl, rfl⟩; rw [ptr])
    go_ret
    exact ⟨rfl, Chg.refl HT.out⟩
  rw [lad_yes hl] at HA
  cases hs : isS s
  · rw [no (.inr (.inl hs))]
    have HT := Lib.hid T
    have HS := fun w => Sig.is_any s w
    rw [show Sig.isB s = false from hs] at HS
    have HS := Lib.hid HS
    clear T no hl
    go_enter Try.func18, Try.ntmps18
    go_wp2_with (first
      | (go_at_call 46; refine HA.out.mono ?_; rintro e w' ⟨rfl, rfl⟩; rw [ptr])
      | (go_at_call 48; refine (HS.out _).mono ?_; rintro e w' ⟨rfl, rfl⟩))
    go_ret
    exact ⟨rfl, Chg.refl HT.out⟩
  have HS := fun w => Sig.is_any s w
  rw [show Sig.isB s = true from hs] at HS
  have HS := Lib.hid HS
  have HX := fun w => Sig.fixed_any s w
  cases hx : Sig.fixedB s
  case true =>
    rw [no (.inr (.inr (.inl hx)))]
    rw [hx] at HX
    have HT := Lib.hid T
    have HX := Lib.hid HX
    clear T no hl hs
    go_enter Try.func18, Try.ntmps18
    go_wp2_with (first
      | (go_at_call 46; refine HA.out.mono ?_; rintro e w' ⟨rfl, rfl⟩; rw [ptr])
      | (go_at_call 48; refine (HS.out _).mono ?_; rintro e w' ⟨rfl, rfl⟩)
      | (go_at_call 34; refine (HX.out _).mono ?_; rintro e w' ⟨rfl, rfl⟩))
    go_ret
    exact ⟨rfl, Chg.refl HT.out⟩
  rw [hx] at HX
  have HX := Lib.hid HX
  obtain ⟨p, hf, hpl⟩ := live_iff hl
  have hr := T.found hf
  have q3 : w.cell? ⟨h.ad pid, 3, none⟩ = some (.int .u32 p.ig) := Lib.cell_of_heap hr 3
  have q4 : w.cell? ⟨h.ad pid, 4, none⟩ = some (.int .u32 p.ca) := Lib.cell_of_heap hr 4
  have q5 : w.cell? ⟨h.ad pid, 5, none⟩ = some (.int .u32 p.pe) := Lib.cell_of_heap hr 5
  have f3 : w.frozen? ⟨h.ad pid, 3, none⟩ = false := frozen_of_row _ _ _ _ _ hr
  have f4 : w.frozen? ⟨h.ad pid, 4, none⟩ = false := frozen_of_row _ _ _ _ _ hr
  have f5 : w.frozen? ⟨h.ad pid, 5, none⟩ = false := frozen_of_row _ _ _ _ _ hr
  have HT := Lib.hid T; have HO := Lib.hid O; have HR := Lib.hid hr; have HF := Lib.hid hf
  have HI := Lib.hid (S.at hf).1; have HC := Lib.hid (S.at hf).2.1; have HE := Lib.hid (S.at hf).2.2
  have HU := Lib.hid (setP_pe (U p (find_pid hf).2) (S.at hf).2.2 s k)
  have HI2 := Lib.hid (del_lt HI.out s); have HC2 := Lib.hid (del_lt HC.out s)
  have yes : 0 ≤ k → k ≤ 2 → putS Sig.fixedB t pid s k = (put t pid fun p => setP p s k, true) := fun h1 h2 => by
    unfold putS
    rw [if_neg]
    rintro (e | e | e | e | e)
    · rw [hl] at e; cases e
    · rw [hs] at e; cases e
    · rw [hx] at e; cases e
    · omega
    · omega
  have lastly : ∀ x c e, (setP p s k).ig = x → (setP p s k).ca = c → (setP p s k).pe = e →
      Chg w B h t (put t pid fun p => setP p s k) (((w.setCell ⟨h.ad pid, 3, none⟩ (.int .u32 (x : Nat))).setCell ⟨h.ad pid, 4, none⟩ (.int .u32 (c : Nat))).setCell ⟨h.ad pid, 5, none⟩ (.int .u32 (e : Nat))) := fun x c e e1 e2 e3 => by
    have := HT.out.wrote HO.out HF.out (f := fun p => setP p s k) (fun _ => rfl) (((Fr.set w _ 3 (.int .u32 (x : Nat))).and (Fr.set _ _ 4 (.int .u32 (c : Nat)))).and (Fr.set _ _ 5 (.int .u32 (e : Nat)))) (by
      have := heap_setCell_same _ _ 5 _ _ (.int .u32 (e : Nat)) (heap_setCell_same _ _ 4 _ _ (.int .u32 (c : Nat)) (heap_setCell_same w _ 3 _ _ (.int .u32 (x : Nat)) HR.out))
      rw [this, ← e1, ← e2, ← e3]; rfl)
    exact ⟨h, rfl, this.1, this.2⟩
  have HL := Lib.hid lastly; have HY := Lib.hid yes; have HN := Lib.hid no
  clear T O S U hr hf hl hpl hs hx lastly yes no
  by_cases k0 : k = 0
  · subst k0
    rw [HY.out (by omega) (by omega)]
    all_goals
      go_enter Try.func18, Try.ntmps18
      go_wp2_with (first
        | (go_at_call 46; refine HA.out.mono ?_; rintro e w' ⟨rfl, rfl⟩; rw [ptr])
        | (go_at_call 48; refine (HS.out _).mono ?_; rintro e w' ⟨rfl, rfl⟩)
        | (go_at_call 34; refine (HX.out _).mono ?_; rintro e w' ⟨rfl, rfl⟩))
      go_region_with (go_at_call 56; refine (Sig.without_any _ s (by first | exact HI.out | exact HC.out) _).mono ?_; rintro e w' ⟨rfl, rfl⟩)
      all_goals
        go_wp2_with fail
        go_ret
        rw [u32_and_nat p.pe (p.ca &&& (4294967295 - Sig.bitN s)) HE.out HC2.out]
        exact ⟨rfl, (HL.out _ _ _ rfl rfl HU.out.symm).drew⟩
  by_cases k1 : k = 1
  · subst k1
    rw [HY.out (by omega) (by omega)]
    all_goals
      go_enter Try.func18, Try.ntmps18
      go_wp2_with (first
        | (go_at_call 46; refine HA.out.mono ?_; rintro e w' ⟨rfl, rfl⟩; rw [ptr])
        | (go_at_call 48; refine (HS.out _).mono ?_; rintro e w' ⟨rfl, rfl⟩)
        | (go_at_call 34; refine (HX.out _).mono ?_; rintro e w' ⟨rfl, rfl⟩))
      go_region_with (go_at_call 56; refine (Sig.without_any _ s (by first | exact HI.out | exact HC.out) _).mono ?_; rintro e w' ⟨rfl, rfl⟩)
      all_goals
        go_wp2_with (go_at_call 50; refine (Sig.with_any _ s (by exact HI2.out) _).mono ?_; rintro e w' ⟨rfl, rfl⟩)
        go_ret
        rw [u32_and_nat p.pe (p.ca &&& (4294967295 - Sig.bitN s)) HE.out HC2.out]
        exact ⟨rfl, (HL.out _ _ _ rfl rfl HU.out.symm).drew⟩
  by_cases k2 : k = 2
  · subst k2
    rw [HY.out (by omega) (by omega)]
    all_goals
      go_enter Try.func18, Try.ntmps18
      go_wp2_with (first
        | (go_at_call 46; refine HA.out.mono ?_; rintro e w' ⟨rfl, rfl⟩; rw [ptr])
        | (go_at_call 48; refine (HS.out _).mono ?_; rintro e w' ⟨rfl, rfl⟩)
        | (go_at_call 34; refine (HX.out _).mono ?_; rintro e w' ⟨rfl, rfl⟩))
      go_region_with (go_at_call 56; refine (Sig.without_any _ s (by first | exact HI.out | exact HC.out) _).mono ?_; rintro e w' ⟨rfl, rfl⟩)
      all_goals
        go_wp2_with (go_at_call 50; refine (Sig.with_any _ s (by exact HC2.out) _).mono ?_; rintro e w' ⟨rfl, rfl⟩)
        go_ret
        rw [u32_and_nat p.pe ((p.ca &&& (4294967295 - Sig.bitN s)) ||| Sig.bitN s) HE.out (add_lt HC2.out s)]
        exact ⟨rfl, (HL.out _ _ _ rfl rfl HU.out.symm).drew⟩
  rw [HN.out (.inr (.inr (.inr (by omega))))]
  have e0 : (k == 0) = false := beq_eq_false_iff_ne.2 k0
  have e1 : (k == 1) = false := beq_eq_false_iff_ne.2 k1
  have e2 : (k == 2) = false := beq_eq_false_iff_ne.2 k2
  clear k0 k1 k2
  all_goals
      go_enter Try.func18, Try.ntmps18
      go_wp2_with (first
        | (go_at_call 46; refine HA.out.mono ?_; rintro e w' ⟨rfl, rfl⟩; rw [ptr])
        | (go_at_call 48; refine (HS.out _).mono ?_; rintro e w' ⟨rfl, rfl⟩)
        | (go_at_call 34; refine (HX.out _).mono ?_; rintro e w' ⟨rfl, rfl⟩))
      go_region_with (go_at_call 56; refine (Sig.without_any _ s (by first | exact HI.out | exact HC.out) _).mono ?_; rintro e w' ⟨rfl, rfl⟩)
      all_goals
        go_wp2_with fail
        go_ret
        exact ⟨rfl, (Chg.refl HT.out).drew⟩
end Kn
end Go.Proofs.Ytlebglnlkkoakaa
