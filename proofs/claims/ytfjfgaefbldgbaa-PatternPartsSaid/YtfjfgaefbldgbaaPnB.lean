/- Signs of patterns and pieces, as they lie in memory; the small functions on both sides. -/
import Derived.Test.YtfjfgaefbldgbaaPnA
import Derived.WalkSpells
import Derived.WalkLawsBesides
import Derived.Below
namespace Go.Proofs.Ytfjfgaefbldgbaa
open Go.RowKit
namespace Pn

theorem ret_bool {a b : Bool} (h : a = b) : Ending.returned (.bool a) = .returned (.bool b) := by rw [h]
/-- The signs lie in block b from cell o on. -/
def SAt (w : World) (b o : Nat) (l : List Sg) : Prop := ∀ i, i < l.length → w.cell? ⟨b, o + i * 2, none⟩ = some (.int .u8 ((at' l i).1 : Int)) ∧ w.cell? ⟨b, o + i * 2 + 1, none⟩ = some (.bool (at' l i).2)
/-- A slice value whose signs lie in memory. -/
def Sgs (w : World) (a : Option Addr) (l : List Sg) : Prop := l = [] ∨ ∃ b o, a = some ⟨b, o, none⟩ ∧ b < w.heap.size ∧ SAt w b o l
theorem SAt.below {w w' : World} {b o : Nat} {l : List Sg} (h : SAt w b o l) (hlt : b < w.heap.size) (hb : Below w.heap.size w w') : SAt w' b o l := fun i hi =>
  ⟨(hb.cell (p := ⟨b, _, none⟩) hlt).trans (h i hi).1, (hb.cell (p := ⟨b, _, none⟩) hlt).trans (h i hi).2⟩
theorem Sgs.below {w w' : World} {a : Option Addr} {l : List Sg} (h : Sgs w a l) (hb : Below w.heap.size w w') : Sgs w' a l := by
  rcases h with h | ⟨b, o, ha, hlt, h⟩
  · exact .inl h
  · exact .inr ⟨b, o, ha, Nat.lt_of_lt_of_le hlt hb.size, h.below hlt hb⟩
theorem Sgs.get {w : World} {a : Option Addr} {l : List Sg} {i : Nat} (h : Sgs w a l) (hi : i < l.length) :
    ∃ b o, a = some ⟨b, o, none⟩ ∧ b < w.heap.size ∧ w.cell? ⟨b, o + i * 2, none⟩ = some (.int .u8 ((at' l i).1 : Int)) ∧ w.cell? ⟨b, o + i * 2 + 1, none⟩ = some (.bool (at' l i).2) := by
  rcases h with rfl | ⟨b, o, ha, hlt, h⟩
  · exact absurd hi (Nat.not_lt_zero i)
  · exact ⟨b, o, ha, hlt, h i hi⟩
theorem int_beq (x c : Nat) : ((x : Int) == (c : Int)) = (x == c) := by
  by_cases h : x = c
  · subst h; rw [beq_self_eq_true, beq_self_eq_true]
  · have : ¬ (x : Int) = c := by omega
    rw [beq_eq_false_iff_ne.2 h, beq_eq_false_iff_ne.2 this]
theorem isAt_int (l : List Sg) (i c : Nat) : isAt l i c = (((at' l i).1 : Int) == (c : Int) && !(at' l i).2) := by rw [int_beq]; rfl
theorem isAt_out {l : List Sg} {i c : Nat} (h : ¬ i < l.length) : isAt l i c = false := by
  cases hc : isAt l i c
  · rfl
  · exact absurd (isAt_lt hc) h

set_option maxHeartbeats 400000 in
theorem ris_any (l : List Sg) (a : Option Addr) (cap i c : Nat) (w : World) (h : Sgs w a l) (hl : l.length ≤ 1000) (hi : i ≤ 2000) :
    Calls Try.prog 19 #[.slice a l.length cap, .int .i64 i, .int .u8 c] w fun e w' => e = .returned (.bool (isAt l i c)) ∧ w = w' := by
  by_cases hlt : i < l.length
  · obtain ⟨b, o, rfl, hb, c0, c1⟩ := h.get hlt
    have he := isAt_int l i c
    have HE := Lib.hid he
    clear he
    revert c0 c1 HE
    generalize isAt l i c = r
    generalize (at' l i).1 = x
    generalize (at' l i).2 = q
    intro c0 c1 HE
    cases hx : ((x : Int) == (c : Int)) <;> cases q
    all_goals
      have HX := Lib.hid hx
      go_enter Try.func19, Try.ntmps19
      go_wp2
      go_ret
      exact ⟨ret_bool (by rw [HE.out, HX.out]; rfl), rfl⟩
  · rw [isAt_out hlt]
    go_enter Try.func19, Try.ntmps19
    go_wp2
    go_ret
    exact ⟨rfl, rfl⟩

set_option maxHeartbeats 400000 in
theorem is_any (x : Nat) (q : Bool) (c : Nat) (w : World) :
    Calls Try.prog 24 #[.agg #[.int .u8 x, .bool q], .int .u8 c] w fun e w' => e = .returned (.bool (x == c && !q)) ∧ Below w.heap.size w w' := by
  rw [← int_beq]
  cases hx : ((x : Int) == (c : Int)) <;> cases q
  all_goals
    go_enter Try.func24, Try.ntmps24
    go_wp2
    go_ret
    exact ⟨rfl, (Below.refl _ _).alloc (Nat.le_refl _) _⟩

set_option maxHeartbeats 400000 in
theorem rfirst_any (l : List Sg) (a : Option Addr) (cap i : Nat) (w : World) (h : Sgs w a l) (hl : l.length ≤ 1000) (hi : i ≤ 1500) :
    Calls Try.prog 28 #[.slice a l.length cap, .int .i64 i] w fun e w' => e = .returned (.int .i64 (firstAt l i)) ∧ w = w' := by
  have H := Lib.hid h; clear h
  cases hs : isAt l (i + 1) 33
  all_goals
    have HS := Lib.hid hs; clear hs
    go_enter Try.func28, Try.ntmps28
    go_wp2_with fail
    refine (ris_any l a cap (i + 1) 33 _ H.out hl (by omega)).mono ?_
    rintro e w' ⟨rfl, rfl⟩
    rw [HS.out]
    go_wp2
    go_ret
    exact ⟨by simp [firstAt, HS.out], rfl⟩

set_option maxHeartbeats 400000 in
theorem rmember_any (l : List Sg) (a : Option Addr) (cap i : Nat) (w : World) (h : Sgs w a l) (hl : l.length ≤ 1000) (hi : i ≤ 1500) :
    Calls Try.prog 29 #[.slice a l.length cap, .int .i64 i] w fun e w' => e = .returned (.int .i64 (memAt l i)) ∧ w = w' := by
  have H := Lib.hid h; clear h
  by_cases hlt : i + 2 < l.length
  · have HL := Lib.hid hlt
    cases hs : isAt l (i + 1) 45
    · have HS := Lib.hid hs; clear hs
      go_enter Try.func29, Try.ntmps29
      go_wp2_with fail
      refine (ris_any l a cap (i + 1) 45 _ H.out hl (by omega)).mono ?_
      rintro e w' ⟨rfl, rfl⟩
      rw [HS.out]
      go_wp2
      go_ret
      exact ⟨by simp [memAt, HS.out], rfl⟩
    · have HS := Lib.hid hs; clear hs
      cases ht : isAt l (i + 2) 93
      all_goals
        have HT := Lib.hid ht; clear ht
        go_enter Try.func29, Try.ntmps29
        go_wp2_with fail
        refine (ris_any l a cap (i + 1) 45 _ H.out hl (by omega)).mono ?_
        rintro e w' ⟨rfl, rfl⟩
        rw [HS.out]
        go_wp2_with fail
        refine (ris_any l a cap (i + 2) 93 _ H.out hl (by omega)).mono ?_
        rintro e w' ⟨rfl, rfl⟩
        rw [HT.out]
        go_wp2
        go_ret
        exact ⟨by simp [memAt, HS.out, HT.out, HL.out], rfl⟩
  · have HL := Lib.hid hlt
    go_enter Try.func29, Try.ntmps29
    go_wp2
    go_ret
    exact ⟨by simp [memAt, HL.out], rfl⟩
def endI : Option Nat → Int
  | some e => e
  | none => -1
end Pn
end Go.Proofs.Ytfjfgaefbldgbaa
