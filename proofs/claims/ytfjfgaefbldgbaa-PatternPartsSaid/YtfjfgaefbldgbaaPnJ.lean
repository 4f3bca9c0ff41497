/- Patterns: which bytes a meaning has; whether each byte of a pattern means itself. -/
import Derived.Test.YtfjfgaefbldgbaaPnI
namespace Go.Proofs.Ytfjfgaefbldgbaa
open Go.RowKit
namespace Pn
/-- Does what begins at place i mean this byte? -/
def eatB (l : List Sg) (i c : Nat) : Bool := match mn l i with | .byte p => p c | .star => false
theorem eatB_set {l : List Sg} {i e c : Nat} (h : setEnd l i = some e) : eatB l i c = hasB l i e c := by simp [eatB, mn, h]
theorem eatB_one {l : List Sg} {i c : Nat} (h : setEnd l i = none) : eatB l i c = (if kindOne (at' l i) = 1 then true else if kindOne (at' l i) = 2 then false else (at' l i).1 == c) := by
  have hm : mn l i = one (at' l i) := by simp [mn, h]
  rw [eatB, hm]
  by_cases h1 : ((at' l i).1 == 63 && !(at' l i).2) = true
  · rw [one, if_pos h1, kindOne, if_pos h1]; rfl
  · by_cases h2 : ((at' l i).1 == 42 && !(at' l i).2) = true
    · rw [one, if_neg h1, if_pos h2, kindOne, if_neg h1, if_pos h2]; rfl
    · rw [one, if_neg h1, if_neg h2, kindOne, if_neg h1, if_neg h2]; rfl
theorem kindOne_cases (x : Sg) : kindOne x = 0 ∧ byteOne x = x.1 ∨ kindOne x = 1 ∧ byteOne x = 0 ∨ kindOne x = 2 ∧ byteOne x = 0 := by
  unfold byteOne kindOne
  split
  · simp
  · split <;> simp
set_option maxHeartbeats 800000 in
theorem means_any (l : List Sg) (i c : Nat) (p : Option Addr) (N : Nat → Prop) (w : World) (h : SetP w N l i p) (hc : c < 256) :
    Calls Try.prog 15 #[.agg #[.int .i64 (kindAt l i : Nat), .int .u8 (byteAt l i : Nat), .pointer p], .int .u8 c] w fun r w' => r = .returned (.bool (eatB l i c)) ∧ Below w.heap.size w w' := by
  cases hse : setEnd l i with
  | some e =>
    obtain ⟨hk, hb, _⟩ := kindAt_set hse
    obtain ⟨sb, rfl, _, hset⟩ := h e hse
    have hcell : w.cell? ⟨sb, c, none⟩ = some (.bool (hasF l e c (l.length + 1) (firstAt l i))) := by have := hset.2 c hc; rwa [Nat.zero_add] at this
    have hsl := hset.1
    rw [hk, hb, eatB_set hse, kindSet, hasB]
    have HSET := Lib.hid hset
    clear h hset hse hk hb
    revert hcell
    generalize hasF l e c (l.length + 1) (firstAt l i) = t
    intro hcell
    by_cases hf : firstAt l i = i + 2
    · rw [if_pos hf, hf, beq_self_eq_true]
      cases t
      all_goals
        go_enter Try.func15, Try.ntmps15
        go_wp2_with fail
        go_ret
        exact ⟨rfl, (Below.refl _ _).alloc (Nat.le_refl _) _⟩
    · rw [if_neg hf, beq_eq_false_iff_ne.2 hf]
      cases t
      all_goals
        go_enter Try.func15, Try.ntmps15
        go_wp2_with fail
        go_ret
        exact ⟨rfl, (Below.refl _ _).alloc (Nat.le_refl _) _⟩
  | none =>
    obtain ⟨hk, hb, _⟩ := kindAt_one hse
    rw [hk, hb, eatB_one hse]
    clear h hse hk hb
    rcases kindOne_cases (at' l i) with ⟨h1, h2⟩ | ⟨h1, h2⟩ | ⟨h1, h2⟩
    · rw [h1, h2]
      generalize (at' l i).1 = x
      rw [← int_beq x c]
      cases hx : ((x : Int) == (c : Int))
      all_goals
        go_enter Try.func15, Try.ntmps15
        go_wp2_with fail
        go_ret
        exact ⟨rfl, (Below.refl _ _).alloc (Nat.le_refl _) _⟩
    · rw [h1, h2]
      go_enter Try.func15, Try.ntmps15
      go_wp2_with fail
      go_ret
      exact ⟨rfl, (Below.refl _ _).alloc (Nat.le_refl _) _⟩
    · rw [h1, h2]
      go_enter Try.func15, Try.ntmps15
      go_wp2_with fail
      go_ret
      exact ⟨rfl, (Below.refl _ _).alloc (Nat.le_refl _) _⟩
/-- Do all meanings mean one byte each, itself? -/
def selfAt (l : List Sg) (i : Nat) : Bool := kindAt l i == 0
/-- What lies at index j of a row of meanings. -/
theorem CM.get {w : World} {N : Nat → Prop} {l : List Sg} : ∀ {us : List Nat} {xs : List Value} {j : Nat}, CM w N l us xs → j < us.length →
    ∃ p, xs[j * 3]? = some (.int .i64 (kindAt l (us.getD j 0) : Nat)) ∧ xs[j * 3 + 1]? = some (.int .u8 (byteAt l (us.getD j 0) : Nat)) ∧ xs[j * 3 + 2]? = some (.pointer p) ∧ SetP w N l (us.getD j 0) p
  | i :: r, _, 0, ⟨p, ys, hx, hs, h⟩, _ => by subst hx; exact ⟨p, rfl, rfl, rfl, hs⟩
  | i :: r, _, j + 1, ⟨p, ys, hx, hs, h⟩, hj => by
    subst hx
    obtain ⟨q, h1, h2, h3, h4⟩ := CM.get (j := j) h (by simpa using hj)
    refine ⟨q, ?_, ?_, ?_, h4⟩
    · rw [show (j + 1) * 3 = j * 3 + 3 by omega]; exact h1
    · rw [show (j + 1) * 3 + 1 = j * 3 + 1 + 3 by omega]; exact h2
    · rw [show (j + 1) * 3 + 2 = j * 3 + 2 + 3 by omega]; exact h3
/-- Meanings in memory. -/
def MAt (w : World) (l : List Sg) (g : Nat) (us : List Nat) : Prop := g < w.heap.size ∧ ∀ j, j < us.length →
    ∃ p, w.cell? ⟨g, j * 3, none⟩ = some (.int .i64 (kindAt l (us.getD j 0) : Nat)) ∧ w.cell? ⟨g, j * 3 + 1, none⟩ = some (.int .u8 (byteAt l (us.getD j 0) : Nat)) ∧ w.cell? ⟨g, j * 3 + 2, none⟩ = some (.pointer p) ∧ SetP w (fun _ => True) l (us.getD j 0) p
theorem mat_own {w : World} {base g n cap : Nat} {T : TypeId} {l : List Sg} {us : List Nat} {xs : List Value} (h : w.ownsRow base T 3 (.slice (some ⟨g, 0, none⟩) n cap) n xs) (hc : CM w (fun _ => True) l us xs) : MAt w l g us := by
  refine ⟨(h.lt _ rfl).2, fun j hj => ?_⟩
  obtain ⟨p, h1, h2, h3, h4⟩ := hc.get hj
  have c0 := h.cells (g := g) rfl _ _ h1
  have c1 := h.cells (g := g) rfl _ _ h2
  have c2 := h.cells (g := g) rfl _ _ h3
  rw [Go.WideShapes.add_plain, Nat.zero_add] at c0 c1 c2
  exact ⟨p, c0, c1, c2, h4⟩
theorem MAt.keep {w w' : World} {l : List Sg} {g : Nat} {us : List Nat} (h : MAt w l g us) (hb : Below w.heap.size w w') : MAt w' l g us := by
  refine ⟨Nat.lt_of_lt_of_le h.1 hb.size, fun j hj => ?_⟩
  obtain ⟨p, h1, h2, h3, h4⟩ := h.2 j hj
  refine ⟨p, (hb.cell (p := ⟨g, _, none⟩) h.1).trans h1, (hb.cell (p := ⟨g, _, none⟩) h.1).trans h2, (hb.cell (p := ⟨g, _, none⟩) h.1).trans h3, fun e he => ?_⟩
  obtain ⟨sb, q1, q2, q3⟩ := h4 e he
  exact ⟨sb, q1, q2, q3.below hb⟩
set_option maxHeartbeats 800000 in
theorem plain_any (a : Option Addr) (cap : Nat) (ps : List Pc) (w : World) (h : Pcs w a ps) (hw : weight ps ≤ 1000) :
    Calls Try.prog 9 #[.slice a ps.length cap] w fun e w' => e = .returned (.bool ((S0 (sg ps) 0).all (selfAt (sg ps)))) ∧ Below w.heap.size w w' := by
  have H := Lib.hid h; clear h
  have hl : (sg ps).length ≤ 1000 := Nat.le_trans (sg_len ps) hw
  have hul : (S0 (sg ps) 0).length ≤ 1000 := Nat.le_trans (S0_len _ 0 rfl) (by omega)
  go_enter Try.func9, Try.ntmps9
  go_wp2_with fail
  refine (read_any a cap ps w H.out hw).mono ?_
  rintro e w1 ⟨⟨g, c, xs, rfl, hown, hcm⟩, hb1⟩
  have HM := Lib.hid (mat_own hown hcm); have HB := Lib.hid hb1
  have hgl := (hown.lt _ rfl).2
  clear hown hcm hb1
  generalize hl0 : sg ps = l at *
  have HL0 := Lib.hid hl0; clear hl0
  generalize hus : S0 l 0 = us at *
  have HUS := Lib.hid hus; clear hus
  go_wp2_with fail
  go_loopw [8] (fun x wr => ∃ k : Nat, k ≤ us.length ∧ x = .int .i64 k ∧ (us.take k).all (selfAt l) = true ∧ Below w1.heap.size w1 wr) (fun x _ => us.length - (intOf x).toNat)
  case atStart => exact ⟨0, Nat.zero_le _, rfl, rfl, Below.refl _ _⟩
  case round =>
    obtain ⟨k, hk, rfl, hall, hbw⟩ := hrel
    have HA := Lib.hid hall; have HW := Lib.hid hbw
    have hgw : g < wr.heap.size := Nat.lt_of_lt_of_le hgl hbw.size
    have hws := hbw.size
    clear hall hbw
    by_cases hlt : k < us.length
    · obtain ⟨p, m0, m1, m2, _⟩ := (HM.out.keep HW.out).2 k hlt
      have HT := Lib.hid (show us.take (k + 1) = us.take k ++ [us.getD k 0] by rw [List.take_succ_eq_append_getElem hlt, List.getD, List.getElem?_eq_getElem hlt]; rfl)
      have HIN := Lib.hid (show us.getD k 0 ∈ us by rw [List.getD, List.getElem?_eq_getElem hlt]; exact List.getElem_mem hlt)
      revert m0 m1 HT HIN
      generalize us.getD k 0 = u
      intro m0 m1 HT HIN
      by_cases hz : kindAt l u = 0
      · have HZ := Lib.hid hz
        rw [hz] at m0
        clear hz
        go_wp2_with fail
        go_roundw
        case rel => exact ⟨k + 1, by omega, by go_num, by
          have h0 : selfAt l u = true := beq_iff_eq.2 HZ.out
          rw [HT.out, List.all_append, HA.out, List.all_cons, h0]; rfl, HW.out.alloc hws _⟩
        case measure => simp [intOf]; omega
      · have HZ := Lib.hid hz
        have hkz : (((kindAt l u : Nat) : Int) != 0) = true := by rw [bne_iff_ne]; omega
        clear hz
        go_wp2_with fail
        go_ret
        refine ⟨?_, HB.out.trans ((HW.out.alloc hws _).mono HB.out.size)⟩
        show Ending.returned (.bool false) = _
        rw [HL0.out, HUS.out]
        congr 2
        symm
        rw [List.all_eq_false]
        exact ⟨u, HIN.out, by rw [selfAt, beq_eq_false_iff_ne.2 HZ.out]; exact Bool.false_ne_true⟩
    · obtain rfl : k = us.length := by omega
      go_wp2_with fail
      go_ret
      refine ⟨?_, HB.out.trans (HW.out.mono HB.out.size)⟩
      show Ending.returned (.bool true) = _
      have := HA.out
      rw [List.take_length] at this
      rw [HL0.out, HUS.out, this]
end Pn
end Go.Proofs.Ytfjfgaefbldgbaa
