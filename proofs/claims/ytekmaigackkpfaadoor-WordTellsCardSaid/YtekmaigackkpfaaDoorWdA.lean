/- The chapter's example, and the walk of WordApart. -/
import Derived.Test.YtekmaigackkpfaaDoorUqB
import Derived.Test.YtekmaigackkpfaaDoorPtK
namespace Go.Proofs.YtekmaigackkpfaaDoor
open Go.RowKit Go.Sort
namespace Wd
open Cls Pt Bd Uq

/-- The word of one quoted text. -/
def oneP (s : ByteArray) : PL := .cons 1 true s ⟨#[]⟩ .nil .nil
def oneO (s : ByteArray) : Obj := .cells #[.int .i64 1, .bool true, .string s, .string ⟨#[]⟩, .slice none 0 0] 33

set_option maxHeartbeats 400000 in
theorem of_any (s : ByteArray) (w : World) :
    Calls Tryd.prog 19 #[.string s] w fun e w' => e = .returned (.slice (some ⟨w.heap.size, 0, none⟩) 1 1) ∧ w' = w.alloc (oneO s) := by
  go_enter Tryd.func19, Tryd.ntmps19
  go_wp2
  go_ret
  exact ⟨rfl, rfl⟩
theorem one_lies (s : ByteArray) (w : World) (hs : s.size ≤ R) : Lies (w.alloc (oneO s)) (some ⟨w.heap.size, 0, none⟩) 1 (oneP s) := by
  have hc : ∀ j v, #[Value.int .i64 1, .bool true, .string s, .string ⟨#[]⟩, .slice none 0 0][j]? = some v → (w.alloc (oneO s)).cell? ⟨w.heap.size, j, none⟩ = some v := fun j v h =>
    (Lib.cell_of_heap (heap_alloc_new w _) j).trans h
  refine ⟨Nat.le_refl _, by decide, .inr ⟨w.heap.size, 0, rfl, ⟨hc 0 _ rfl, hc 1 _ rfl, hc 2 _ rfl, hc 3 _ rfl, hs, by decide⟩, ⟨none, 0, hc 4 _ rfl, Nat.le_refl _, Nat.zero_le _, .inl rfl⟩, trivial⟩⟩

def ab : ByteArray := ⟨#[97, 32, 98]⟩
theorem ab_text : valueText (oneP ab) = [39, 97, 32, 98, 39] := by decide +kernel
theorem ab_right : rightW (oneP ab) = true := by decide +kernel

set_option maxHeartbeats 800000 in
theorem alive_any (m : Int) (w : World) (hm : w.cell? ⟨0, 0, none⟩ = some (.int .i64 m)) :
    Calls Tryd.prog 6 #[] w fun e w' => e = .returned (.bool true) ∧ Below w.heap.size w w' := by
  have hm0 : 0 < w.heap.size := World.block_lt_of_cell? _ _ hm
  have hT := text_any (oneP ab) _ 1 m _ (one_lies ab w (by decide)) (((bel1 w _).cell (p := ⟨0, 0, none⟩) hm0).trans hm) (by decide +kernel)
  rw [ab_text] at hT
  have HT := Lib.hid hT
  have HO := Lib.hid (of_any ab)
  have hR := fun w1 => right_any (oneP ab) _ 1 _ (one_lies ab w1 (by decide))
  rw [ab_right] at hR
  have HR := Lib.hid hR
  clear hT hR hm
  go_enter Tryd.func6, Tryd.ntmps6
  go_wp2_with (first
    | (go_at_call 19; refine (HO.out _).mono ?_; rintro e w' ⟨rfl, rfl⟩)
    | (go_at_call 12; refine (HT.out).mono ?_; rintro e w1 ⟨rfl, hb1⟩; have HB1 := Lib.hid hb1; clear hb1)
    | (go_at_call 8; refine (HR.out _).mono ?_; rintro e w2 ⟨rfl, hb2⟩))
  go_ret
  exact ⟨rfl, thru (bel1 w _) (thru HB1.out (thru (bel1 w1 _) hb2))⟩

set_option maxHeartbeats 1000000 in
set_option maxRecDepth 100000 in
theorem apart_law (la lb : PL) (a b : Option Addr) (ca cb : Nat) (m : Int) (w : World) (hla : Lies w a ca la) (hlb : Lies w b cb lb) (hm : w.cell? ⟨0, 0, none⟩ = some (.int .i64 m)) :
    Calls Tryd.prog 5 #[.slice a la.len ca, .slice b lb.len cb] w fun e w' => e = .returned (.bool true) ∧ Below w.heap.size w w' := by
  have hm0 : 0 < w.heap.size := World.block_lt_of_cell? _ _ hm
  have HAL := Lib.hid (alive_any m w hm)
  have hW1 := fun w1 (hb : Below w.heap.size w w1) => (weight_any (la.size + 1) la a ca 0 w1 (by omega) (by omega) (hla.below hb)).mono fun e w' h => And.intro h.1 (thru hb h.2)
  have hW2 := fun w1 (hb : Below w.heap.size w w1) => (weight_any (lb.size + 1) lb b cb 0 w1 (by omega) (by omega) (hlb.below hb)).mono fun e w' h => And.intro h.1 (thru hb h.2)
  have hV1 := fun w1 (hb : Below w.heap.size w w1) => (value_any la a ca w1 (hla.below hb)).mono fun e w' h => And.intro h.1 (thru hb h.2)
  have hV2 := fun w1 (hb : Below w.heap.size w w1) => (value_any lb b cb w1 (hlb.below hb)).mono fun e w' h => And.intro h.1 (thru hb h.2)
  have hT1 := fun (hs : Bd.bytes la ≤ 100000) w1 (hb : Below w.heap.size w w1) => (text_any la a ca m w1 (hla.below hb) ((hb.cell (p := ⟨0, 0, none⟩) hm0).trans hm) hs).mono fun e w' h => And.intro h.1 (thru hb h.2)
  have hT2 := fun (hs : Bd.bytes lb ≤ 100000) w1 (hb : Below w.heap.size w w1) => (text_any lb b cb m w1 (hlb.below hb) ((hb.cell (p := ⟨0, 0, none⟩) hm0).trans hm) hs).mono fun e w' h => And.intro h.1 (thru hb h.2)
  have hS := fun w1 (hb : Below w.heap.size w w1) => (same_any (la.size + 1) la lb a b ca cb w1 (by omega) (hla.below hb) (hlb.below hb)).mono fun e w' h => And.intro h.1 (thru hb h.2)
  have hY1 := fun (h : weight la 0 ≤ 10000) => (weight_bytes h)
  have hY2 := fun (h : weight lb 0 ≤ 10000) => (weight_bytes h)
  have hle := hla.le
  clear hm hla hlb
  generalize weight la 0 = W1 at hW1 hY1
  generalize weight lb 0 = W2 at hW2 hY2
  have HW1 := Lib.hid hW1; have HW2 := Lib.hid hW2; have HS := Lib.hid hS; have HY1 := Lib.hid hY1; have HY2 := Lib.hid hY2; have HT1 := Lib.hid hT1; have HT2 := Lib.hid hT2
  clear hW1 hW2 hS hY1 hY2 hT1 hT2
  by_cases g1 : 5000 < W1
  · have gI : ((W1 : Int) > 5000) = True := by simp; omega
    have gJ : (5000 < (W1 : Int)) = True := by simp; omega
    clear g1
    go_enter Tryd.func5, Tryd.ntmps5
    go_wp2_with (first
      | (go_at_call 6; refine (HAL.out).mono ?_; rintro e w1 ⟨rfl, hb⟩)
      | (go_at_call_of 7 (Value.slice a la.len ca); refine (HW1.out _ (by assumption)).mono ?_; rintro e w' ⟨rfl, hb⟩))
    go_ret
    exact ⟨rfl, by assumption⟩
  · have gI : ((W1 : Int) > 5000) = False := by simp; omega
    have gJ : (5000 < (W1 : Int)) = False := by simp; omega
    have hs1 : Bd.bytes la ≤ 100000 := by have := HY1.out (by omega); omega
    have HTA := Lib.hid (HT1.out hs1)
    clear g1 HT1 HY1 hs1
    by_cases g2 : 5000 < W2
    · have gI2 : ((W2 : Int) > 5000) = True := by simp; omega
      have gJ2 : (5000 < (W2 : Int)) = True := by simp; omega
      clear g2
      go_enter Tryd.func5, Tryd.ntmps5
      go_wp2_with (first
        | (go_at_call 6; refine (HAL.out).mono ?_; rintro e w1 ⟨rfl, hb⟩)
        | (go_at_call_of 7 (Value.slice a la.len ca); refine (HW1.out _ (by assumption)).mono ?_; rintro e w' ⟨rfl, hb⟩)
        | (go_at_call_of 7 (Value.slice b lb.len cb); refine (HW2.out _ (by assumption)).mono ?_; rintro e w' ⟨rfl, hb⟩))
      go_ret
      exact ⟨rfl, by assumption⟩
    · have gI2 : ((W2 : Int) > 5000) = False := by simp; omega
      have gJ2 : (5000 < (W2 : Int)) = False := by simp; omega
      have hs2 : Bd.bytes lb ≤ 100000 := by have := HY2.out (by omega); omega
      have HTB := Lib.hid (HT2.out hs2)
      clear g2 HT2 HY2 hs2
      cases hv1 : rightL none la 0 1
      · rw [hv1] at hV1
        have HV1 := Lib.hid hV1
        clear hV1 hV2
        go_enter Tryd.func5, Tryd.ntmps5
        go_wp2_with (first
          | (go_at_call 6; refine (HAL.out).mono ?_; rintro e w1 ⟨rfl, hb⟩)
          | (go_at_call_of 7 (Value.slice a la.len ca); refine (HW1.out _ (by assumption)).mono ?_; rintro e w' ⟨rfl, hb⟩)
          | (go_at_call_of 7 (Value.slice b lb.len cb); refine (HW2.out _ (by assumption)).mono ?_; rintro e w' ⟨rfl, hb⟩)
          | (go_at_call_of 10 (Value.slice a la.len ca); refine (HV1.out _ (by assumption)).mono ?_; rintro e w' ⟨rfl, hb⟩))
        go_ret
        exact ⟨rfl, by assumption⟩
      · cases hv2 : rightL none lb 0 1
        · rw [hv1] at hV1
          rw [hv2] at hV2
          have HV1 := Lib.hid hV1; have HV2 := Lib.hid hV2
          clear hV1 hV2
          go_enter Tryd.func5, Tryd.ntmps5
          go_wp2_with (first
            | (go_at_call 6; refine (HAL.out).mono ?_; rintro e w1 ⟨rfl, hb⟩)
            | (go_at_call_of 7 (Value.slice a la.len ca); refine (HW1.out _ (by assumption)).mono ?_; rintro e w' ⟨rfl, hb⟩)
            | (go_at_call_of 7 (Value.slice b lb.len cb); refine (HW2.out _ (by assumption)).mono ?_; rintro e w' ⟨rfl, hb⟩)
            | (go_at_call_of 10 (Value.slice a la.len ca); refine (HV1.out _ (by assumption)).mono ?_; rintro e w' ⟨rfl, hb⟩)
            | (go_at_call_of 10 (Value.slice b lb.len cb); refine (HV2.out _ (by assumption)).mono ?_; rintro e w' ⟨rfl, hb⟩))
          go_ret
          exact ⟨rfl, by assumption⟩
        · rw [hv1] at hV1
          rw [hv2] at hV2
          have HV1 := Lib.hid hV1; have HV2 := Lib.hid hV2
          have e1 : valueText la = textL la 0 := by simp [valueText, hv1]
          have e2 : valueText lb = textL lb 0 := by simp [valueText, hv2]
          rw [e1] at HTA
          rw [e2] at HTB
          have hX := text_same hv1 hv2
          have hZ := text_empty hv1
          generalize textL la 0 = TA at HTA hX hZ
          generalize textL lb 0 = TB at HTB hX
          have x1 : (ByteArray.toList ⟨TA.toArray⟩ == ByteArray.toList ⟨TB.toArray⟩) = same la lb := by rw [Lib.toList_data, Lib.toList_data]; simpa using hX
          have x2 : (ByteArray.toList ⟨TA.toArray⟩).isEmpty = (la.len == 0) := by rw [Lib.toList_data]; simpa using hZ
          have x3 := lenI la.len
          have HXX := Lib.hid hX; have HZZ := Lib.hid hZ
          clear hV1 hV2 hv1 hv2 e1 e2 hX hZ
          go_enter Tryd.func5, Tryd.ntmps5
          go_wp2_with (first
            | (go_at_call 6; refine (HAL.out).mono ?_; rintro e w1 ⟨rfl, hb⟩)
            | (go_at_call_of 7 (Value.slice a la.len ca); refine (HW1.out _ (by assumption)).mono ?_; rintro e w' ⟨rfl, hb⟩)
            | (go_at_call_of 7 (Value.slice b lb.len cb); refine (HW2.out _ (by assumption)).mono ?_; rintro e w' ⟨rfl, hb⟩)
            | (go_at_call_of 10 (Value.slice a la.len ca); refine (HV1.out _ (by assumption)).mono ?_; rintro e w' ⟨rfl, hb⟩)
            | (go_at_call_of 10 (Value.slice b lb.len cb); refine (HV2.out _ (by assumption)).mono ?_; rintro e w' ⟨rfl, hb⟩)
            | (go_at_call_of 12 (Value.slice a la.len ca); refine (HTA.out _ (by assumption)).mono ?_; rintro e w' ⟨rfl, hb⟩)
            | (go_at_call_of 12 (Value.slice b lb.len cb); refine (HTB.out _ (by assumption)).mono ?_; rintro e w' ⟨rfl, hb⟩)
            | (go_at_call 14; refine (HS.out _ (by assumption)).mono ?_; rintro e w' ⟨rfl, hb⟩))
          all_goals go_ret
          all_goals first
            | exact absurd HXX.out (by assumption)
            | exact ⟨ret_bool (by rw [HZZ.out]; simp), by assumption⟩
end Wd
end Go.Proofs.YtekmaigackkpfaaDoor
