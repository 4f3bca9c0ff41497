/- Patterns: the places that may be reached: the reference's Reach and Step. -/
import Derived.Test.YtfjfgaefbldgbaaPnC
import Derived.Laws.OwnMore
namespace Go.Proofs.Ytfjfgaefbldgbaa
open Go.RowKit
namespace Pn
/-- n truths lie in block b from cell o on. -/
def BAt (w : World) (b o n : Nat) (A : Nat → Bool) : Prop := b < w.heap.size ∧ ∀ i, i < n → w.cell? ⟨b, o + i, none⟩ = some (.bool (A i))
theorem BAt.below {w w' : World} {b o n : Nat} {A : Nat → Bool} (h : BAt w b o n A) (hb : Below w.heap.size w w') : BAt w' b o n A :=
  ⟨Nat.lt_of_lt_of_le h.1 hb.size, fun i hi => (hb.cell (p := ⟨b, _, none⟩) h.1).trans (h.2 i hi)⟩
theorem made_at (n i : Nat) (h : i < n) : (madeCells #[Value.bool false] n)[i]? = some (.bool false) := by
  have := toList_madeCells_one (.bool false) n
  rw [← Array.getElem?_toList, this]
  simp [h]
theorem infoBool : (Try.prog.info? 4).map (fun i => (i.zero, i.size, i.bytes)) = some (some (.bool false), 1, 1) := by kernel_rfl
/-- The cells of truths. -/
def bcells (n : Nat) (A : Nat → Bool) : List Value := (List.range n).map fun i => .bool (A i)
theorem bcells_at {n : Nat} {A : Nat → Bool} {i : Nat} (h : i < n) : (bcells n A)[i]? = some (.bool (A i)) := by simp [bcells, h]
theorem bcells_len (n : Nat) (A : Nat → Bool) : (bcells n A).length = n := by simp [bcells]
/-- .. in a block that may be written. -/
def BOwn (w : World) (b n : Nat) (A : Nat → Bool) : Prop := BAt w b 0 n A ∧ ∀ j, w.frozen? ⟨b, j, none⟩ = false
theorem bools_own {w : World} {base : Nat} {v : Value} {n : Nat} {A : Nat → Bool} (h : w.ownsRow base 4 1 v (n + 1) (bcells (n + 1) A)) : ∃ g cap, v = .slice (some ⟨g, 0, none⟩) (n + 1) cap ∧ base ≤ g ∧ BOwn w g (n + 1) A := by
  rcases h.2 with ⟨rfl, hn⟩ | ⟨g, cap, cur, rfl, hb, hg, hcap, _⟩
  · omega
  · refine ⟨g, cap, rfl, hb, ?_⟩
    have hc := h.cells (g := g) rfl
    refine ⟨⟨?_, fun i hi => ?_⟩, fun j => h.frozenAt j⟩
    · have := hc 0 _ (bcells_at (by omega))
      exact World.block_lt_of_cell? _ _ this
    · have := hc i _ (bcells_at hi)
      rwa [Go.WideShapes.add_plain] at this
theorem BAt.set {w : World} {b n : Nat} {A : Nat → Bool} (h : BAt w b 0 n A) {j : Nat} (hj : j < n) (v : Bool) : BAt (w.setCell ⟨b, j, none⟩ (.bool v)) b 0 n (upd A j v) := by
  refine ⟨by simpa using h.1, fun i hi => ?_⟩
  by_cases e : i = j
  · subst e
    have := h.2 i hi
    rw [Nat.zero_add] at this ⊢
    rw [World.cell?_setCell_same _ _ _ this, upd, if_pos rfl]
  · rw [Nat.zero_add, World.cell?_setCell_other _ _ _ _ (by intro h; injection h with _ h2; exact e h2.symm), upd, if_neg e]
    have := h.2 i hi
    rwa [Nat.zero_add] at this
theorem BOwn.set {w : World} {b n : Nat} {A : Nat → Bool} (h : BOwn w b n A) {j : Nat} (hj : j < n) (v : Bool) : BOwn (w.setCell ⟨b, j, none⟩ (.bool v)) b n (upd A j v) :=
  ⟨h.1.set hj v, fun i => (World.frozen?_setCell _ _ _ _).trans (h.2 i)⟩
theorem make_bools (n : Nat) (hn : n ≤ 1000000) : ∀ w : World, (Instr.makeSlice 41 (.int .i64 ((n : Int) + 1)) (.int .i64 ((n : Int) + 1))).run Try.prog w = .ok (.slice (some ⟨w.heap.size, 0, none⟩) (n + 1) (n + 1)) (w.alloc (.cells (madeCells #[Value.bool false] (n + 1)) 4)) := by
  obtain ⟨i, hi, hz, hs, hb⟩ := info_parts infoBool
  intro w
  have hr := run_make (P := Try.prog) w 41 4 i _ Try.underlying41 hi hz .i64 .i64 ((n + 1 : Nat) : Int) ((n + 1 : Nat) : Int) (by omega) (Int.le_refl _) (by rw [hb]; omega) (by omega)
  simp only [Int.toNat_natCast, hs, Nat.mul_one] at hr
  rw [show ((n : Int) + 1) = ((n + 1 : Nat) : Int) by omega]
  exact hr
set_option maxHeartbeats 800000 in
theorem rreach_any (l : List Sg) (a : Option Addr) (cap b2 o2 cap2 : Nat) (A : Nat → Bool) (w : World) (h : Sgs w a l) (hA : BAt w b2 o2 (l.length + 1) A) (hl : l.length ≤ 1000) :
    Calls Try.prog 17 #[.slice a l.length cap, .slice (some ⟨b2, o2, none⟩) (l.length + 1) cap2] w fun e w' => ∃ g c, e = .returned (.slice (some ⟨g, 0, none⟩) (l.length + 1) c) ∧ BAt w' g 0 (l.length + 1) (reachK l A l.length) ∧ Below w.heap.size w w' := by
  obtain ⟨i0, hi, hz0, hz1, hz2⟩ := info_parts infoBool
  have H := Lib.hid h; have HA := Lib.hid hA; clear h hA
  have hown := World.ownsRow_made (e := 4) (size := 1) w #[] 0 (Nat.le_refl _) (Nat.zero_le _) rfl
  have HO := Lib.hid hown; clear hown
  go_enter Try.func17, Try.ntmps17
  go_wp2_with (at_builtin; refine wpList_append_own _ rfl (.tmp 7) (.tmp 8) 41 rfl w.heap.size 4 i0 (.bool false) 1 1 Try.underlying41 hi hz0 hz1 hz2 rfl (by decide) _ _ _ rfl HO.out _ (l.length + 1) _ (bcells (l.length + 1) A) rfl ?c0 ?c1 ?c2 ?c3 ?c4 ?c5 ?_)
  case c0 => simp [bcells_len]
  case c1 =>
    intro j u hu
    have hj : j < l.length + 1 := by have := (List.getElem?_eq_some_iff.1 hu).1; rwa [bcells_len] at this
    rw [bcells_at hj] at hu
    cases hu
    rw [Go.WideShapes.add_plain]
    exact (((Below.refl _ w).alloc (Nat.le_refl _) _).cell (p := ⟨b2, o2 + j, none⟩) HA.out.1).trans (HA.out.2 j hj)
  case c2 =>
    intro u hu
    simp only [bcells, List.mem_map] at hu
    obtain ⟨_, _, rfl⟩ := hu
    rfl
  case c3 => unfold maxLen; omega
  case c4 => omega
  case c5 => simp
  intro v' w1 hown' hgrow _
  have hb := ((Below.refl _ w).alloc (Nat.le_refl _) (.cells #[] 4)).grown hgrow (by simp) (fun k hk => (HO.out.lt k hk).1)
  replace hown' : w1.ownsRow w.heap.size 4 1 v' (l.length + 1) (bcells (l.length + 1) A) := by simpa using hown'
  obtain ⟨g, c2, rfl, hg, hrow⟩ := bools_own hown'
  have HR := Lib.hid hrow; have HB := Lib.hid hb
  clear hown' hgrow hrow hb
  go_wp2_with fail
  go_loopw [12] (fun v wr => ∃ k : Nat, k ≤ l.length ∧ v = .int .i64 k ∧ BOwn wr g (l.length + 1) (reachK l A k) ∧ Below w.heap.size w wr) (fun v _ => l.length - (intOf v).toNat)
  case atStart => exact ⟨0, Nat.zero_le _, rfl, HR.out, HB.out⟩
  case round =>
    obtain ⟨k, hk, rfl, hrow, hbw⟩ := hrel
    have HRW := Lib.hid hrow; have HW := Lib.hid hbw
    have hgr := hrow.1.1
    have hfz := hrow.2
    clear hrow hbw
    by_cases hlt : k < l.length
    · have ck := HRW.out.1.2 k (by omega)
      have ck1 := HRW.out.1.2 (k + 1) (by omega)
      rw [Nat.zero_add] at ck ck1
      revert ck
      cases hx : reachK l A k k
      · have HX := Lib.hid hx
        clear hx
        intro ck
        go_wp2_with fail
        go_roundw
        case rel => exact ⟨k + 1, by omega, by go_num, by rw [reachK, HX.out]; exact HRW.out, HW.out⟩
        case measure => simp [intOf]; omega
      · have HX := Lib.hid hx
        clear hx
        intro ck
        cases hc : isAt l k 42
        · have HC := Lib.hid hc; clear hc
          go_wp2_with fail
          refine (ris_any l a cap k 42 _ (H.out.below HW.out) hl (by omega)).mono ?_
          rintro e w' ⟨rfl, rfl⟩
          rw [HC.out]
          go_wp2_with fail
          go_roundw
          case rel => exact ⟨k + 1, by omega, by go_num, by rw [reachK, HX.out, HC.out]; exact HRW.out, HW.out⟩
          case measure => simp [intOf]; omega
        · have HC := Lib.hid hc; clear hc
          go_wp2_with fail
          refine (ris_any l a cap k 42 _ (H.out.below HW.out) hl (by omega)).mono ?_
          rintro e w' ⟨rfl, rfl⟩
          rw [HC.out]
          go_wp2_with fail
          go_roundw
          case rel => exact ⟨k + 1, by omega, by go_num, by rw [reachK, HX.out, HC.out]; exact HRW.out.set (by omega) true, HW.out.setCell (p := ⟨g, k + 1, none⟩) hg _⟩
          case measure => simp [intOf]; omega
    · obtain rfl : k = l.length := by omega
      go_wp2_with fail
      go_ret
      exact ⟨g, c2, rfl, HRW.out.1, HW.out⟩
theorem stepK_succ (l : List Sg) (A : Nat → Bool) (c k : Nat) : stepK l A c (k + 1) = if A k then (if isAt l k 42 then upd (stepK l A c k) k true else match setEnd l k with
      | some e => upd (stepK l A c k) (e + 1) (stepK l A c k (e + 1) || hasB l k e c)
      | none => if isAt l k 63 || (at' l k).1 == c then upd (stepK l A c k) (k + 1) true else stepK l A c k) else stepK l A c k := rfl
section
variable {l : List Sg} {A : Nat → Bool} {c k : Nat} (hA : A k = true) (hs : isAt l k 42 = false)
include hA hs
theorem stepK_set {n : Nat} (he : setEnd l k = some n) {v : Bool} (hv : (stepK l A c k (n + 1) || hasB l k n c) = v) : stepK l A c (k + 1) = upd (stepK l A c k) (n + 1) v := by
  subst hv
  rw [stepK_succ, hA, hs, he]
  rfl
theorem stepK_one (he : setEnd l k = none) (h : (isAt l k 63 || (((at' l k).1 : Int) == (c : Int))) = true) : stepK l A c (k + 1) = upd (stepK l A c k) (k + 1) true := by
  rw [int_beq] at h
  rw [stepK_succ, hA, hs, he]
  simp only [h, Bool.false_eq_true, if_false, if_true]
theorem stepK_no (he : setEnd l k = none) (h : (isAt l k 63 || (((at' l k).1 : Int) == (c : Int))) = false) : stepK l A c (k + 1) = stepK l A c k := by
  rw [int_beq] at h
  rw [stepK_succ, hA, hs, he]
  simp only [h, Bool.false_eq_true, if_false, if_true]
end
set_option maxHeartbeats 800000 in
theorem rstep_any (l : List Sg) (a : Option Addr) (cap b2 o2 cap2 c : Nat) (A : Nat → Bool) (w : World) (h : Sgs w a l) (hA : BAt w b2 o2 (l.length + 1) A) (hl : l.length ≤ 1000) (hc : c < 256) :
    Calls Try.prog 18 #[.slice a l.length cap, .slice (some ⟨b2, o2, none⟩) (l.length + 1) cap2, .int .u8 c] w fun e w' => ∃ g c', e = .returned (.slice (some ⟨g, 0, none⟩) (l.length + 1) c') ∧ BAt w' g 0 (l.length + 1) (reachK l (stepK l A c l.length) l.length) ∧ Below w.heap.size w w' := by
  have H := Lib.hid h; have HA := Lib.hid hA; clear h hA
  have hmk := make_bools l.length (by omega)
  have hb0 : Below w.heap.size w (w.alloc (.cells (madeCells #[Value.bool false] (l.length + 1)) 4)) := (Below.refl _ w).alloc (Nat.le_refl _) _
  have hr0 : BOwn (w.alloc (.cells (madeCells #[Value.bool false] (l.length + 1)) 4)) w.heap.size (l.length + 1) (stepK l A c 0) := ⟨⟨by simp, fun i hi => by
    rw [Nat.zero_add, World.cell?_alloc_at _ _ _ _ rfl, made_at _ _ hi]; rfl⟩, fun j => frozen_of_row _ _ j (madeCells #[Value.bool false] (l.length + 1)) 4 (by show (w.heap.push _)[w.heap.size]? = _; simp)⟩
  have HB0 := Lib.hid hb0; have HR0 := Lib.hid hr0
  clear hb0 hr0
  go_enter Try.func18, Try.ntmps18
  go_wp2_with fail
  go_loopw [16] (fun v wr => ∃ k : Nat, k ≤ l.length ∧ v = .int .i64 k ∧ BOwn wr w.heap.size (l.length + 1) (stepK l A c k) ∧ Below w.heap.size w wr) (fun v _ => l.length - (intOf v).toNat)
  case atStart => exact ⟨0, Nat.zero_le _, rfl, HR0.out, HB0.out⟩
  case round =>
    obtain ⟨k, hk, rfl, hrow, hbw⟩ := hrel
    have HRW := Lib.hid hrow; have HW := Lib.hid hbw
    have hgr := hrow.1.1
    have hfz := hrow.2
    clear hrow hbw
    have HSK := Lib.hid (stepK_succ l A c k)
    by_cases hlt : k < l.length
    · have dk := (HA.out.below HW.out).2 k (by omega)
      have hgd := (HA.out.below HW.out).1
      revert dk
      cases hx : A k
      · have HX := Lib.hid hx
        clear hx
        intro dk
        go_wp2_with fail
        go_roundw
        case rel => exact ⟨k + 1, by omega, by go_num, by rw [HSK.out, HX.out]; exact HRW.out, HW.out⟩
        case measure => simp [intOf]; omega
      · have HX := Lib.hid hx
        clear hx
        intro dk
        cases hc : isAt l k 42
        · have HC := Lib.hid hc; clear hc
          cases he : setEnd l k with
          | some n =>
            have HE := Lib.hid he
            have hnl := isAt_lt (setEnd_is he).2.2.1
            clear he
            have ck1 := HRW.out.1.2 (n + 1) (by omega)
            rw [Nat.zero_add] at ck1
            revert ck1
            cases hy : stepK l A c k (n + 1)
            · have HY := Lib.hid hy
              clear hy
              intro ck1
              go_wp2_with fail
              refine (rend_any l a cap k _ (H.out.below HW.out) hl (by omega)).mono ?_
              rintro e w' ⟨rfl, rfl⟩
              rw [HE.out]
              go_wp2_with fail
              refine (ris_any l a cap k 42 _ (H.out.below HW.out) hl (by omega)).mono ?_
              rintro e w' ⟨rfl, rfl⟩
              rw [HC.out]
              unfold endI
              go_wp2_with fail
              refine (rhas_any l a cap k n c _ (H.out.below HW.out) hl (by omega) (by omega)).mono ?_
              rintro e w' ⟨rfl, rfl⟩
              go_wp2_with fail
              go_roundw
              case rel => exact ⟨k + 1, by omega, by go_num, by rw [stepK_set HX.out HC.out HE.out (v := hasB l k n c) (by rw [HY.out]; rfl)]; exact HRW.out.set (by omega) _, HW.out.setCell (p := ⟨w.heap.size, n + 1, none⟩) (Nat.le_refl _) _⟩
              case measure => simp [intOf]; omega
            · have HY := Lib.hid hy
              clear hy
              intro ck1
              go_wp2_with fail
              refine (rend_any l a cap k _ (H.out.below HW.out) hl (by omega)).mono ?_
              rintro e w' ⟨rfl, rfl⟩
              rw [HE.out]
              go_wp2_with fail
              refine (ris_any l a cap k 42 _ (H.out.below HW.out) hl (by omega)).mono ?_
              rintro e w' ⟨rfl, rfl⟩
              rw [HC.out]
              unfold endI
              go_wp2_with fail
              go_roundw
              case rel => exact ⟨k + 1, by omega, by go_num, by rw [stepK_set HX.out HC.out HE.out (v := true) (by rw [HY.out]; rfl)]; exact HRW.out.set (by omega) _, HW.out.setCell (p := ⟨w.heap.size, n + 1, none⟩) (Nat.le_refl _) _⟩
              case measure => simp [intOf]; omega
          | none =>
            have HE := Lib.hid he
            clear he
            have ck1 := HRW.out.1.2 (k + 1) (by omega)
            rw [Nat.zero_add] at ck1
            cases hq : isAt l k 63
            · have HQ := Lib.hid hq
              clear hq
              obtain ⟨b, o, rfl, hb, c0, c1⟩ := (H.out.below HW.out).get hlt
              cases hz : (((at' l k).1 : Int) == (c : Int))
              all_goals
                have HZ := Lib.hid hz
                go_wp2_with fail
                refine (rend_any l _ cap k _ (H.out.below HW.out) hl (by omega)).mono ?_
                rintro e w' ⟨rfl, rfl⟩
                rw [HE.out]
                go_wp2_with fail
                refine (ris_any l _ cap k 42 _ (H.out.below HW.out) hl (by omega)).mono ?_
                rintro e w' ⟨rfl, rfl⟩
                rw [HC.out]
                unfold endI
                go_wp2_with fail
                refine (ris_any l _ cap k 63 _ (H.out.below HW.out) hl (by omega)).mono ?_
                rintro e w' ⟨rfl, rfl⟩
                rw [HQ.out]
                go_wp2_with fail
                go_roundw
                case rel => first
                  | exact ⟨k + 1, by omega, by go_num, by rw [stepK_no HX.out HC.out HE.out (by rw [HQ.out, HZ.out]; rfl)]; exact HRW.out, HW.out⟩
                  | exact ⟨k + 1, by omega, by go_num, by rw [stepK_one HX.out HC.out HE.out (by rw [HQ.out, HZ.out]; rfl)]; exact HRW.out.set (by omega) _, HW.out.setCell (p := ⟨w.heap.size, k + 1, none⟩) (Nat.le_refl _) _⟩
                case measure => simp [intOf]; omega
            · have HQ := Lib.hid hq
              clear hq
              go_wp2_with fail
              refine (rend_any l _ cap k _ (H.out.below HW.out) hl (by omega)).mono ?_
              rintro e w' ⟨rfl, rfl⟩
              rw [HE.out]
              go_wp2_with fail
              refine (ris_any l _ cap k 42 _ (H.out.below HW.out) hl (by omega)).mono ?_
              rintro e w' ⟨rfl, rfl⟩
              rw [HC.out]
              unfold endI
              go_wp2_with fail
              refine (ris_any l _ cap k 63 _ (H.out.below HW.out) hl (by omega)).mono ?_
              rintro e w' ⟨rfl, rfl⟩
              rw [HQ.out]
              go_wp2_with fail
              go_roundw
              case rel => exact ⟨k + 1, by omega, by go_num, by rw [stepK_one HX.out HC.out HE.out (by rw [HQ.out]; rfl)]; exact HRW.out.set (by omega) _, HW.out.setCell (p := ⟨w.heap.size, k + 1, none⟩) (Nat.le_refl _) _⟩
              case measure => simp [intOf]; omega
        · have HC := Lib.hid hc; clear hc
          have ck := HRW.out.1.2 k (by omega)
          rw [Nat.zero_add] at ck
          go_wp2_with fail
          refine (rend_any l a cap k _ (H.out.below HW.out) hl (by omega)).mono ?_
          rintro e w' ⟨rfl, rfl⟩
          generalize endI (setEnd l k) = ee
          go_wp2_with fail
          refine (ris_any l a cap k 42 _ (H.out.below HW.out) hl (by omega)).mono ?_
          rintro e w' ⟨rfl, rfl⟩
          rw [HC.out]
          go_wp2_with fail
          go_roundw
          case rel => exact ⟨k + 1, by omega, by go_num, by rw [HSK.out, HX.out, HC.out]; exact HRW.out.set (by omega) true, HW.out.setCell (p := ⟨w.heap.size, k, none⟩) (Nat.le_refl _) _⟩
          case measure => simp [intOf]; omega
    · obtain rfl : k = l.length := by omega
      go_wp2_with fail
      refine (rreach_any l a cap w.heap.size 0 (l.length + 1) _ _ (H.out.below HW.out) HRW.out.1 hl).mono ?_
      rintro e w2 ⟨g, c', rfl, hr, hb⟩
      have HR := Lib.hid hr; have HB2 := Lib.hid (HW.out.trans (hb.mono HW.out.size))
      clear hr hb
      go_wp2_with fail
      go_ret
      exact ⟨g, c', rfl, HR.out, HB2.out⟩
end Pn
end Go.Proofs.Ytfjfgaefbldgbaa
