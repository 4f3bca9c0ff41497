/- Text and Quote, for all parts and texts (not too long). -/
import Derived.Test.YtgpnleenejjnmaaGreatDoorWrC
namespace Go.Proofs.YtgpnleenejjnmaaGreatDoor
open Go.RowKit Go.Sort
namespace Bd
open Cls Pt

set_option maxHeartbeats 1000000 in
set_option maxRecDepth 100000 in
/-- String, at a fresh builder. -/
theorem string_nil (b : Nat) (p : Value) (w : World) (hbk : w.heap[b]? = some (.cells #[p, .slice none 0 0] 43 (0, 0))) :
    Calls Tryz.prog 13 #[.pointer (some ⟨b, 0, none⟩)] w fun e w' => e = .returned (.string ⟨#[]⟩) ∧ Below w.heap.size w w' := by
  have c1 : w.drew.cell? ⟨b, 1, none⟩ = some (.slice none 0 0) := by
    have : w.drew.heap[b]? = some (.cells #[p, .slice none 0 0] 43 (0, 0)) := hbk
    rw [Lib.cell_of_heap this]; rfl
  have hSD : (Builtin.unsafeSliceData_ #[39] 58 #[.slice none 0 0]).run Tryz.prog w.drew = .ok (.pointer none) w.drew := rfl
  have hUS : ∀ w : World, (Builtin.unsafeString_ #[58, 3] 9 #[.pointer none, .int .i64 0]).run Tryz.prog w = .ok (.string ⟨#[]⟩) w := fun w => Lib.run_unsafeString_none w _ _ _ none
  go_enter Tryz.func13, Tryz.ntmps13
  go_wp2
  go_region
  all_goals (go_wp2; go_ret; exact ⟨rfl, Below.drew (Below.refl _ w)⟩)

set_option maxHeartbeats 400000 in
theorem parts_nil (b : Addr) (a : Option Addr) (cap at' : Nat) (w : World) :
    Calls Tryz.prog 12 #[.pointer (some b), .slice a 0 cap, .int .i64 at'] w fun e w' => e = .returned (.tuple #[]) ∧ w' = w := by
  go_enter Tryz.func12, Tryz.ntmps12
  go_wp2
  go_loop [10] (fun i => i = .int .i64 0) (fun _ => 0)
  case atStart => rfl
  case round =>
    subst hrel
    go_wp2
    go_end0
    exact ⟨rfl, rfl⟩

theorem text_ne {k : Int} {q : Bool} {t o : ByteArray} {f r : PL} {d : Nat} (h : rightL none (.cons k q t o f r) 0 d = true) : textL (.cons k q t o f r) 0 ≠ [] := by
  rw [textL_cons]
  intro h0
  have h1 := List.append_eq_nil_iff.1 h0 |>.1
  simp only [partT, paramT] at h1
  cases hk : (k == 2)
  · rw [hk] at h1
    cases q
    · simp at h1
      simp only [rightL, Bool.and_eq_true] at h
      have h2 := h.1.2
      cases hk1 : (k == 1)
      · rw [hk1, hk] at h2; simp at h2
      · rw [hk1] at h2
        simp [textOK, h1] at h2
    · simp [quoteL] at h1
  · rw [hk] at h1
    cases q <;> simp at h1

/-- A value's text; empty of what isn't right. -/
def valueText (l : PL) : List UInt8 := if rightL none l 0 1 then textL l 0 else []

set_option maxHeartbeats 1000000 in
set_option maxRecDepth 100000 in
theorem text_any (l : PL) (a : Option Addr) (cap : Nat) (m : Int) (w : World) (hl : Lies w a cap l) (hm : w.cell? ⟨0, 0, none⟩ = some (.int .i64 m)) (hsz : bytes l ≤ 100000) :
    Calls Tryz.prog 7 #[.slice a l.len cap] w fun e w' => e = .returned (.string ⟨(valueText l).toArray⟩) ∧ Below w.heap.size w w' := by
  have hV := value_any l a cap w hl
  have hm0 : 0 < w.heap.size := World.block_lt_of_cell? _ _ hm
  cases hr : rightL none l 0 1
  · rw [hr] at hV
    have HV := Lib.hid hV
    have HR := Lib.hid (show valueText l = [] by simp [valueText, hr])
    clear hV hl hm hr
    go_enter Tryz.func7, Tryz.ntmps7
    go_wp2_with (go_at_call 11; refine (HV.out).mono ?_; rintro e w1 ⟨rfl, hb⟩)
    go_ret
    exact ⟨by rw [HR.out]; rfl, by assumption⟩
  · rw [hr] at hV
    have HV := Lib.hid hV
    have HR := Lib.hid (show valueText l = textL l 0 by simp [valueText, hr])
    have HL := Lib.hid hl; have HM := Lib.hid hm; have HRR := Lib.hid hr
    clear hV hl hm hr
    go_enter Tryz.func7, Tryz.ntmps7
    cases l with
    | nil =>
      have hlen : PL.nil.len = 0 := rfl
      rw [hlen]
      go_wp2_with (first
        | (go_at_call 11; refine (HV.out).mono ?_; rintro e w1 ⟨rfl, hb⟩; have HB := Lib.hid hb; clear hb)
        | (go_at_call 12; refine (parts_nil _ _ _ 0 _).mono ?_; rintro e w2 ⟨rfl, rfl⟩)
        | (go_at_call 13; refine (string_nil _ (.pointer none) _ (heap_alloc_new _ _)).mono ?_; rintro e w3 ⟨rfl, hb3⟩))
      go_ret
      exact ⟨rfl, thru HB.out (thru (bel1 _ _) hb3)⟩
    | cons k q t o f r =>
      have HNE := Lib.hid (text_ne HRR.out)
      go_wp2_with (go_at_call 11; refine (HV.out).mono ?_; rintro e w1 ⟨rfl, hb⟩; have HB := Lib.hid hb; clear hb)
      have hP := parts_any w1 m ((HB.out.cell (p := ⟨0, 0, none⟩) hm0).trans HM.out) ((PL.cons k q t o f r).size + 1) (.cons k q t o f r) a cap 0 [] (w1.alloc (.cells #[.pointer none, .slice none 0 0] 43)) (by omega) (by omega) (HL.out.below HB.out) (Lib.IsBuilderF.of (Lib.fresh_isBuilder 43 5 w1)) (bel1 _ _) hsz (by simp only [List.length_nil]; omega)
      rw [List.nil_append] at hP
      have HP := Lib.hid hP
      clear hP
      go_wp2_with (go_at_call 12; refine (HP.out).mono ?_; rintro e w2 ⟨rfl, h1, h2⟩)
      have HS := Lib.hid (string_any _ _ _ h1 HNE.out)
      have H2 := Lib.hid h2
      clear h1 h2
      go_wp2_with (go_at_call 13; refine (HS.out).mono ?_; rintro e w3 ⟨rfl, hb3⟩)
      go_ret
      exact ⟨by rw [HR.out]; rfl, thru HB.out ((bel1 w1 _).trans (H2.out.1.trans hb3))⟩

end Bd
end Go.Proofs.YtgpnleenejjnmaaGreatDoor
