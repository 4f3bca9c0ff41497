/- The walk of WordTells. -/
import Derived.Test.YtekmaigackkpfaaDoorRfE
import Derived.Test.YtekmaigackkpfaaDoorWdA
import Derived.Test.YtekmaigackkpfaaDoorPtC
namespace Go.Proofs.YtekmaigackkpfaaDoor
open Go.RowKit Go.Sort
namespace Wd
open Cls Pt Bd Uq

theorem same_refl : ∀ a : PL, same a a = true
  | .nil => rfl
  | .cons k q t o f r => by simp [same, same_refl f, same_refl r]

set_option maxHeartbeats 1000000 in
set_option maxRecDepth 100000 in
theorem tells_law (la lb : PL) (a b : Option Addr) (ca cb : Nat) (m : Int) (w : World) (hla : Lies w a ca la) (hlb : Lies w b cb lb) (hm : w.cell? ⟨0, 0, none⟩ = some (.int .i64 m)) :
    Calls Tryd.prog 3 #[.slice a la.len ca, .slice b lb.len cb] w fun e w' => e = .returned (.bool true) ∧ Below w.heap.size w w' := by
  have hm0 : 0 < w.heap.size := World.block_lt_of_cell? _ _ hm
  have HAL := Lib.hid (alive_any m w hm)
  have hW1 := fun w1 (hb : Below w.heap.size w w1) => (weight_any (la.size + 1) la a ca 0 w1 (by omega) (by omega) (hla.below hb)).mono fun e w' h => And.intro h.1 (thru hb h.2)
  have hW2 := fun w1 (hb : Below w.heap.size w w1) => (weight_any (lb.size + 1) lb b cb 0 w1 (by omega) (by omega) (hlb.below hb)).mono fun e w' h => And.intro h.1 (thru hb h.2)
  have HR1 := Lib.hid (fun w1 (hb : Below w.heap.size w w1) => (right_any la a ca w1 (hla.below hb)).mono fun e w' h => And.intro h.1 (thru hb h.2))
  have HR2 := Lib.hid (fun w1 (hb : Below w.heap.size w w1) => (Rf.rright_any la a ca w1 (hla.below hb)).mono fun e w' h => And.intro h.1 (thru hb h.2))
  have HV1 := Lib.hid (fun w1 (hb : Below w.heap.size w w1) => (value_any la a ca w1 (hla.below hb)).mono fun e w' h => And.intro h.1 (thru hb h.2))
  have HV2 := Lib.hid (fun w1 (hb : Below w.heap.size w w1) => (Rf.rvalue_any la a ca w1 (hla.below hb)).mono fun e w' h => And.intro h.1 (thru hb h.2))
  have hT1 := fun (hs : Bd.bytes la ≤ 100000) w1 (hb : Below w.heap.size w w1) => (text_any la a ca m w1 (hla.below hb) ((hb.cell (p := ⟨0, 0, none⟩) hm0).trans hm) hs).mono fun e w' h => And.intro h.1 (thru hb h.2)
  have hT2 := fun (hs : Bd.bytes la ≤ 100000) w1 (hb : Below w.heap.size w w1) => (Rf.rTextTop_any la a ca w1 (hla.below hb) hs).mono fun e w' h => And.intro h.1 (thru hb h.2)
  have HS1 := Lib.hid (fun w1 (hb : Below w.heap.size w w1) => (same_any (la.size + 1) la lb a b ca cb w1 (by omega) (hla.below hb) (hlb.below hb)).mono fun e w' h => And.intro h.1 (thru hb h.2))
  have HS2 := Lib.hid (fun w1 (hb : Below w.heap.size w w1) => (rsame_any (la.size + 1) la lb a b ca cb w1 (by omega) (hla.below hb) (hlb.below hb)).mono fun e w' h => And.intro h.1 (thru hb h.2))
  have hS3 := fun w1 (hb : Below w.heap.size w w1) => (same_any (la.size + 1) la la a a ca ca w1 (by omega) (hla.below hb) (hla.below hb)).mono fun e w' h => And.intro h.1 (thru hb h.2)
  rw [same_refl la] at hS3
  have HS3 := Lib.hid hS3
  have hY1 := fun (h : weight la 0 ≤ 10000) => (weight_bytes h)
  have hle := hla.le
  clear hm hla hlb hS3
  generalize weight la 0 = W1 at hW1 hY1
  generalize weight lb 0 = W2 at hW2
  have HW1 := Lib.hid hW1; have HW2 := Lib.hid hW2; have HY1 := Lib.hid hY1; have HT1 := Lib.hid hT1; have HT2 := Lib.hid hT2
  clear hW1 hW2 hY1 hT1 hT2
  by_cases g1 : 5000 < W1
  · have gI : ((W1 : Int) > 5000) = True := by simp; omega
    have gJ : (5000 < (W1 : Int)) = True := by simp; omega
    clear g1
    go_enter Tryd.func3, Tryd.ntmps3
    go_wp2_with (first
      | (go_at_call 6; refine (HAL.out).mono ?_; rintro e w1 ⟨rfl, hb⟩)
      | (go_at_call_of 7 (Value.slice a la.len ca); refine (HW1.out _ (by assumption)).mono ?_; rintro e w' ⟨rfl, hb⟩))
    go_ret
    exact ⟨rfl, by assumption⟩
  · have gI : ((W1 : Int) > 5000) = False := by simp; omega
    have gJ : (5000 < (W1 : Int)) = False := by simp; omega
    have hs1 : Bd.bytes la ≤ 100000 := by have := HY1.out (by omega); omega
    have HTA := Lib.hid (HT1.out hs1)
    have HTB := Lib.hid (HT2.out hs1)
    clear g1 HT1 HT2 HY1 hs1
    by_cases g2 : 5000 < W2
    · have gI2 : ((W2 : Int) > 5000) = True := by simp; omega
      have gJ2 : (5000 < (W2 : Int)) = True := by simp; omega
      clear g2
      go_enter Tryd.func3, Tryd.ntmps3
      go_wp2_with (first
        | (go_at_call 6; refine (HAL.out).mono ?_; rintro e w1 ⟨rfl, hb⟩)
        | (go_at_call_of 7 (Value.slice a la.len ca); refine (HW1.out _ (by assumption)).mono ?_; rintro e w' ⟨rfl, hb⟩)
        | (go_at_call_of 7 (Value.slice b lb.len cb); refine (HW2.out _ (by assumption)).mono ?_; rintro e w' ⟨rfl, hb⟩))
      go_ret
      exact ⟨rfl, by assumption⟩
    · have gI2 : ((W2 : Int) > 5000) = False := by simp; omega
      have gJ2 : (5000 < (W2 : Int)) = False := by simp; omega
      clear g2
      generalize valueText la = TV at HTA HTB
      go_enter Tryd.func3, Tryd.ntmps3
      go_wp2_with (first
        | (go_at_call 6; refine (HAL.out).mono ?_; rintro e w1 ⟨rfl, hb⟩)
        | (go_at_call_of 7 (Value.slice a la.len ca); refine (HW1.out _ (by assumption)).mono ?_; rintro e w' ⟨rfl, hb⟩)
        | (go_at_call_of 7 (Value.slice b lb.len cb); refine (HW2.out _ (by assumption)).mono ?_; rintro e w' ⟨rfl, hb⟩)
        | (go_at_call 8; refine (HR1.out _ (by assumption)).mono ?_; rintro e w' ⟨rfl, hb⟩)
        | (go_at_call 9; refine (HR2.out _ (by assumption)).mono ?_; rintro e w' ⟨rfl, hb⟩)
        | (go_at_call 10; refine (HV1.out _ (by assumption)).mono ?_; rintro e w' ⟨rfl, hb⟩)
        | (go_at_call 11; refine (HV2.out _ (by assumption)).mono ?_; rintro e w' ⟨rfl, hb⟩)
        | (go_at_call 12; refine (HTA.out _ (by assumption)).mono ?_; rintro e w' ⟨rfl, hb⟩)
        | (go_at_call 13; refine (HTB.out _ (by assumption)).mono ?_; rintro e w' ⟨rfl, hb⟩)
        | (go_at_call_of 14 (Value.slice b lb.len cb); refine (HS1.out _ (by assumption)).mono ?_; rintro e w' ⟨rfl, hb⟩)
        | (go_at_call 15; refine (HS2.out _ (by assumption)).mono ?_; rintro e w' ⟨rfl, hb⟩)
        | (go_at_call 14; refine (HS3.out _ (by assumption)).mono ?_; rintro e w' ⟨rfl, hb⟩))
      all_goals go_ret
      all_goals first
        | exact ⟨rfl, by assumption⟩
        | exact ⟨ret_bool (by simp), by assumption⟩
end Wd
end Go.Proofs.YtekmaigackkpfaaDoor
