/- Patterns: the reference's Match and Plain. -/
import Derived.Test.YtfjfgaefbldgbaaPnE
namespace Go.Proofs.Ytfjfgaefbldgbaa
open Go.RowKit
namespace Pn
theorem scells_at : ∀ {l : List Sg} {i : Nat}, i < l.length → (scells l)[i * 2]? = some (.int .u8 ((at' l i).1 : Int)) ∧ (scells l)[i * 2 + 1]? = some (.bool (at' l i).2)
  | x :: r, 0, _ => ⟨rfl, rfl⟩
  | x :: r, i + 1, h => by
    have := scells_at (l := r) (i := i) (by simpa using h)
    rw [show (i + 1) * 2 = i * 2 + 2 by omega]
    exact this
/-- A slice that a call has built is signs. -/
theorem sgs_own {w : World} {base : Nat} {T : TypeId} {v : Value} {l : List Sg} (h : w.ownsRow base T 2 v l.length (scells l)) : ∃ a cap, v = .slice a l.length cap ∧ Sgs w a l := by
  rcases h.2 with ⟨rfl, hn⟩ | ⟨g, cap, cur, rfl, hb, hg, hcap, _⟩
  · exact ⟨none, 0, by rw [hn], .inl (List.length_eq_zero_iff.1 hn)⟩
  · refine ⟨_, cap, rfl, .inr ⟨g, 0, rfl, (Array.getElem?_eq_some_iff.1 hg).1, fun i hi => ?_⟩⟩
    obtain ⟨h0, h1⟩ := scells_at hi
    have c0 := h.cells (g := g) rfl _ _ h0
    have c1 := h.cells (g := g) rfl _ _ h1
    rw [Go.WideShapes.add_plain] at c0 c1
    exact ⟨c0, by rw [Nat.add_assoc]; exact c1⟩
def tx (s : ByteArray) : List Nat := s.data.toList.map (·.toNat)
theorem tx_drop (s : ByteArray) {i : Nat} (h : i < s.size) : (tx s).drop i = s[i].toNat :: (tx s).drop (i + 1) := by
  have hl : i < (tx s).length := by simpa [tx] using h
  rw [List.drop_eq_getElem_cons hl]
  congr 1
  simp [tx]
  rfl
/-- Does each byte mean itself? -/
def plainAt (l : List Sg) (i : Nat) : Bool := !(isAt l i 42 || isAt l i 63 || decide (0 ≤ endI (setEnd l i)))
def plainTo (l : List Sg) (k : Nat) : Bool := (List.range k).all (plainAt l)
theorem plainTo_succ (l : List Sg) (k : Nat) : plainTo l (k + 1) = (plainTo l k && plainAt l k) := by simp [plainTo, List.range_succ]
theorem plainTo_no {l : List Sg} {k n : Nat} (h : plainAt l k = false) (hk : k < n) : plainTo l n = false := by
  cases hc : plainTo l n
  · rfl
  · have := List.all_eq_true.1 hc k (by simp [hk])
    rw [h] at this; cases this
theorem endI_cases (o : Option Nat) : (∃ n : Nat, endI o = n) ∨ endI o = -1 := by
  cases o with
  | none => exact .inr rfl
  | some n => exact .inl ⟨n, rfl⟩
set_option maxHeartbeats 800000 in
theorem rplain_any (a : Option Addr) (cap : Nat) (ps : List Pc) (w : World) (h : Pcs w a ps) (hw : weight ps ≤ 1000) :
    Calls Try.prog 10 #[.slice a ps.length cap] w fun e w' => e = .returned (.bool (plainTo (sg ps) (sg ps).length)) ∧ Below w.heap.size w w' := by
  have H := Lib.hid h; clear h
  have hl : (sg ps).length ≤ 1000 := Nat.le_trans (sg_len ps) hw
  go_enter Try.func10, Try.ntmps10
  go_wp2_with fail
  refine (rchars_any a cap ps w H.out hw).mono ?_
  rintro e w1 ⟨⟨v, rfl, hown⟩, hb1⟩
  obtain ⟨a1, c1, rfl, hs⟩ := sgs_own hown
  have HS := Lib.hid hs; have HB := Lib.hid hb1
  clear hown hs hb1
  generalize hl0 : sg ps = l at *
  have HL0 := Lib.hid hl0; clear hl0
  go_wp2_with fail
  go_loopw [9] (fun x wr => ∃ k : Nat, k ≤ l.length ∧ x = .int .i64 k ∧ plainTo l k = true ∧ wr = w1) (fun x _ => l.length - (intOf x).toNat)
  case atStart => exact ⟨0, Nat.zero_le _, rfl, rfl, rfl⟩
  case round =>
    obtain ⟨k, hk, rfl, hp, rfl⟩ := hrel
    have HP := Lib.hid hp
    clear hp
    by_cases hlt : k < l.length
    · have HPS := Lib.hid (plainTo_succ l k)
      cases h1 : isAt l k 42
      · have H1 := Lib.hid h1; clear h1
        cases h2 : isAt l k 63
        · have H2 := Lib.hid h2; clear h2
          rcases endI_cases (setEnd l k) with ⟨n, he⟩ | he
          · have HE := Lib.hid he; clear he
            go_wp2_with fail
            refine (ris_any l a1 c1 k 42 _ HS.out hl (by omega)).mono ?_
            rintro e w' ⟨rfl, rfl⟩
            rw [H1.out]
            go_wp2_with fail
            refine (ris_any l a1 c1 k 63 _ HS.out hl (by omega)).mono ?_
            rintro e w' ⟨rfl, rfl⟩
            rw [H2.out]
            go_wp2_with fail
            refine (rend_any l a1 c1 k _ HS.out hl (by omega)).mono ?_
            rintro e w' ⟨rfl, rfl⟩
            rw [HE.out]
            go_wp2_with fail
            go_ret
            exact ⟨show Ending.returned (.bool false) = _ by rw [HL0.out, plainTo_no (k := k) (by simp [plainAt, HE.out]) hlt], HB.out⟩
          · have HE := Lib.hid he; clear he
            go_wp2_with fail
            refine (ris_any l a1 c1 k 42 _ HS.out hl (by omega)).mono ?_
            rintro e w' ⟨rfl, rfl⟩
            rw [H1.out]
            go_wp2_with fail
            refine (ris_any l a1 c1 k 63 _ HS.out hl (by omega)).mono ?_
            rintro e w' ⟨rfl, rfl⟩
            rw [H2.out]
            go_wp2_with fail
            refine (rend_any l a1 c1 k _ HS.out hl (by omega)).mono ?_
            rintro e w' ⟨rfl, rfl⟩
            rw [HE.out]
            go_wp2_with fail
            go_roundw
            case rel => exact ⟨k + 1, by omega, by go_num, by rw [HPS.out, HP.out]; simp [plainAt, H1.out, H2.out, HE.out], by trivial⟩
            case measure => simp [intOf]; omega
        · have H2 := Lib.hid h2; clear h2
          go_wp2_with fail
          refine (ris_any l a1 c1 k 42 _ HS.out hl (by omega)).mono ?_
          rintro e w' ⟨rfl, rfl⟩
          rw [H1.out]
          go_wp2_with fail
          refine (ris_any l a1 c1 k 63 _ HS.out hl (by omega)).mono ?_
          rintro e w' ⟨rfl, rfl⟩
          rw [H2.out]
          go_wp2_with fail
          go_ret
          exact ⟨show Ending.returned (.bool false) = _ by rw [HL0.out, plainTo_no (k := k) (by simp [plainAt, H2.out]) hlt], HB.out⟩
      · have H1 := Lib.hid h1; clear h1
        go_wp2_with fail
        refine (ris_any l a1 c1 k 42 _ HS.out hl (by omega)).mono ?_
        rintro e w' ⟨rfl, rfl⟩
        rw [H1.out]
        go_wp2_with fail
        go_ret
        exact ⟨show Ending.returned (.bool false) = _ by rw [HL0.out, plainTo_no (k := k) (by simp [plainAt, H1.out]) hlt], HB.out⟩
    · obtain rfl : k = l.length := by omega
      go_wp2_with fail
      go_ret
      exact ⟨show Ending.returned (.bool true) = _ by rw [HL0.out, HP.out], HB.out⟩
set_option maxHeartbeats 800000 in
theorem rmatch_any (a : Option Addr) (cap : Nat) (ps : List Pc) (s : ByteArray) (w : World) (h : Pcs w a ps) (hw : weight ps ≤ 1000) (hss : s.size ≤ 1000) :
    Calls Try.prog 8 #[.slice a ps.length cap, .string s] w fun e w' => e = .returned (.bool (mt (U (sg ps) 0) (tx s))) ∧ Below w.heap.size w w' := by
  have H := Lib.hid h; clear h
  have hl : (sg ps).length ≤ 1000 := Nat.le_trans (sg_len ps) hw
  go_enter Try.func8, Try.ntmps8
  go_wp2_with fail
  refine (rchars_any a cap ps w H.out hw).mono ?_
  rintro e w1 ⟨⟨v, rfl, hown⟩, hb1⟩
  obtain ⟨a1, c1, rfl, hs⟩ := sgs_own hown
  have HS := Lib.hid hs; have HB := Lib.hid hb1
  clear hown hs hb1
  generalize hl0 : sg ps = l at *
  have HL0 := Lib.hid hl0; clear hl0
  have hmk := make_bools l.length (by omega)
  have hm0 := made_at (l.length + 1) 0 (by omega)
  have hr0 : BAt (w1.alloc (.cells ((madeCells #[Value.bool false] (l.length + 1)).setIfInBounds 0 (.bool true)) 4)) w1.heap.size 0 (l.length + 1) (upd (fun _ => false) 0 true) := ⟨by simp, fun i hi => by
    rw [Nat.zero_add, World.cell?_alloc_at _ _ _ _ rfl, Array.getElem?_setIfInBounds]
    by_cases e : i = 0
    · subst e; rw [if_pos rfl, if_pos (by rw [size_madeCells]; omega)]; rfl
    · rw [if_neg (Ne.symm e), made_at _ _ hi, upd, if_neg e]⟩
  have HR0 := Lib.hid hr0
  clear hr0
  go_wp2_with fail
  refine (rreach_any l a1 c1 _ 0 (l.length + 1) _ _ (HS.out.below ((Below.refl _ w1).alloc (Nat.le_refl _) _)) HR0.out hl).mono ?_
  rintro e w2 ⟨g, c', rfl, hr, hb2⟩
  have hb2' : Below w1.heap.size w1 w2 := ((Below.refl _ w1).alloc (Nat.le_refl _) _).trans (hb2.mono (by simp))
  have HR := Lib.hid hr; have HB2 := Lib.hid (HB.out.trans (hb2'.mono HB.out.size)); have HS2 := Lib.hid (HS.out.below hb2')
  clear hr hb2 hb2' HR0
  go_wp2_with fail
  go_loopw [6, 7] (fun v x wr => ∃ (i g c' : Nat) (A : Nat → Bool), i ≤ s.size ∧ x = .int .i64 i ∧ v = .slice (some ⟨g, 0, none⟩) (l.length + 1) c' ∧ BAt wr g 0 (l.length + 1) A ∧ Shut l A l.length ∧ (can l A ((tx s).drop i) ↔ mt (U l 0) (tx s) = true) ∧ Below w2.heap.size w2 wr) (fun _ x _ => s.size - (intOf x).toNat)
  case atStart => exact ⟨0, g, c', _, Nat.zero_le _, rfl, rfl, HR.out, reachK_shut l _ _, (reachK_can l _ _ _ (Nat.le_refl _)).trans start_can, Below.refl _ _⟩
  case round =>
    obtain ⟨i, g, c', A, hi, rfl, rfl, hrow, hshut, hcan, hbw⟩ := hrel
    have HRW := Lib.hid hrow; have HSH := Lib.hid hshut; have HC := Lib.hid hcan; have HW := Lib.hid hbw
    have hgl := hrow.1
    clear hrow hshut hcan hbw
    by_cases hlt : i < s.size
    · have HT := Lib.hid (tx_drop s hlt)
      have hc : s[i].toNat < 256 := s[i].toNat_lt
      go_wp2_with fail
      refine (rstep_any l a1 c1 g 0 c' s[i].toNat A _ (HS2.out.below HW.out) HRW.out hl hc).mono ?_
      rintro e w3 ⟨g3, c3, rfl, hr3, hb3⟩
      have HR3 := Lib.hid hr3; have HB3 := Lib.hid (HW.out.trans (hb3.mono HW.out.size))
      clear hr3 hb3
      go_wp2_with fail
      go_roundw
      case rel => exact ⟨i + 1, g3, c3, _, by omega, by go_num, rfl, HR3.out, reachK_shut l _ _, (step_can HSH.out).trans (by rw [← HT.out]; exact HC.out), HB3.out⟩
      case measure => simp [intOf]; omega
    · obtain rfl : i = s.size := by omega
      have ck := HRW.out.2 l.length (by omega)
      rw [Nat.zero_add] at ck
      go_wp2_with fail
      go_ret
      refine ⟨?_, HB2.out.trans (HW.out.mono HB2.out.size)⟩
      have h1 := HC.out
      rw [List.drop_eq_nil_of_le (by simp [tx]), end_can HSH.out] at h1
      show Ending.returned (.bool (A l.length)) = _
      rw [HL0.out, ← Bool.eq_iff_iff.2 h1]
end Pn
end Go.Proofs.Ytfjfgaefbldgbaa
