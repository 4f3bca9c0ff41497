/- What right parts say of their first one. -/
/- The reference's Value, Right, Text: for all parts they answer as the program's. -/
import Derived.Test.YtoneabcbeikkhaaGreatDoorPtY
import Derived.Test.YtoneabcbeikkhaaGreatDoorRfB
namespace Go.Proofs.YtoneabcbeikkhaaGreatDoor
open Go.RowKit Go.Sort
namespace Uq
open Cls Pt

theorem len_nil {f : PL} (h : (f.len == 0) = true) : f = .nil := by
  cases f with
  | nil => rfl
  | cons => simp [PL.len] at h
theorem right_parts {p : Option (Int × Bool)} {k : Int} {q : Bool} {t o : ByteArray} {f r : PL} {at' d : Nat} (h : rightL p (.cons k q t o f r) at' d = true) :
    (at' = 2 → q = true) ∧ (p = some (1, q) → k ≠ 1) ∧ rightL (some (k, q)) r at' d = true ∧
      ((k = 1 ∧ o.data.toList = [] ∧ f = .nil ∧ textOK q t.data.toList at' = true) ∨ (k = 2 ∧ nameOK t.data.toList o.data.toList = true ∧ (o.data.toList = [] → f = .nil) ∧ rightL none f (wth q) (d + 1) = true)) := by
  simp only [rightL, Bool.and_eq_true] at h
  obtain ⟨⟨⟨h1, h2⟩, h3⟩, h4⟩ := h
  refine ⟨fun e => ?_, fun e hk => ?_, h4, ?_⟩
  · subst e
    cases q
    · simp at h1
    · rfl
  · subst e hk
    simp at h2
  · split at h3
    · rename_i hk
      simp only [Bool.and_eq_true, beq_iff_eq] at h3
      exact .inl ⟨by simpa using hk, h3.1.1, len_nil (by simpa using h3.1.2), h3.2⟩
    · split at h3
      · rename_i hk
        simp only [Bool.and_eq_true, Bool.or_eq_true] at h3
        refine .inr ⟨by simpa using hk, h3.1.1.2, fun e => ?_, h3.2⟩
        rcases h3.1.2 with h5 | h5
        · simp [e] at h5
        · exact len_nil h5
      · cases h3
end Uq
end Go.Proofs.YtoneabcbeikkhaaGreatDoor

namespace Go.Proofs.YtoneabcbeikkhaaGreatDoor
open Go.RowKit Go.Sort
namespace Rf
open Cls Pt Bd


theorem rvalue_any (l : PL) (a : Option Addr) (cap : Nat) (w : World) (hl : Lies w a cap l) :
    Calls Tryz.prog 8 #[.slice a l.len cap] w fun e w' => e = .returned (.bool (rightL none l 0 1)) ∧ Below w.heap.size w w' := by
  have HV := Lib.hid (rparts_any (l.size + 1) l a cap 0 1 w (by omega) (by omega) (by omega) hl)
  clear hl
  go_enter Tryz.func8, Tryz.ntmps8
  go_wp2_with (go_at_call 23; refine (HV.out).mono ?_; rintro e w' ⟨rfl, hb⟩)
  go_ret
  exact ⟨rfl, by assumption⟩


theorem prefix35 {t : ByteArray} (h : 0 < t.size) : Lib.hasPrefix t.data.toList [35] = ((t[0].toNat : Int) == 35) := by
  have h1 := getB h
  rw [h1]
  have hl := lenB t
  cases hc : t.data.toList with
  | nil => rw [hc] at hl; simp at hl; omega
  | cons c l =>
    have h2 : ((c.toNat : Int) == 35) = (c == 35) := by
      rw [Bool.eq_iff_iff, beq_iff_eq, beq_iff_eq]
      constructor
      · intro e
        have : c.toNat = 35 := by omega
        exact UInt8.toNat_inj.1 this
      · intro e
        rw [e]; rfl
    have h3 : ((35 : UInt8) == c) = (c == 35) := by
      rw [Bool.eq_iff_iff, beq_iff_eq, beq_iff_eq]
      exact ⟨fun e => e.symm, fun e => e.symm⟩
    simp [Lib.hasPrefix, List.isPrefixOf, h2, h3]

set_option maxHeartbeats 1000000 in
theorem rright_any (l : PL) (a : Option Addr) (cap : Nat) (w : World) (hl : Lies w a cap l) :
    Calls Tryz.prog 16 #[.slice a l.len cap] w fun e w' => e = .returned (.bool (rightW l)) ∧ Below w.heap.size w w' := by
  have hV := rvalue_any l a cap w hl
  have HL := Lib.hid hl; clear hl
  have hle := HL.out.le
  cases l with
  | nil =>
    go_enter Tryz.func16, Tryz.ntmps16
    go_wp2_with fail
    go_ret
    exact ⟨rfl, Below.refl _ _⟩
  | cons k q t o f r =>
    have hlen : (PL.cons k q t o f r).len = r.len + 1 := rfl
    have hne : (((r.len + 1 : Nat) : Int) == 0) = false := by simp; omega
    rw [hlen] at hV ⊢
    cases hr : rightL none (.cons k q t o f r) 0 1
    · rw [hr] at hV
      have HV := Lib.hid hV
      have HR := Lib.hid (show rightW (.cons k q t o f r) = false by simp only [rightW, hr, Bool.and_false])
      clear hV hr hlen hle
      go_enter Tryz.func16, Tryz.ntmps16
      go_wp2_with (go_at_call 8; refine (HV.out).mono ?_; rintro e w1 ⟨rfl, hb⟩)
      go_ret
      exact ⟨ret_bool HR.out.symm, by assumption⟩
    · rw [hr] at hV
      have HV := Lib.hid hV
      obtain ⟨_, _, _, hp⟩ := Uq.right_parts hr
      have hRW : rightW (.cons k q t o f r) = !(k == 1 && !q && Lib.hasPrefix t.data.toList [35]) := by simp only [rightW, hr, Bool.and_true]
      clear hV hlen hle
      rcases hp with ⟨rfl, _, _, ht⟩ | ⟨rfl, _⟩
      · cases q
        · have h0 : 0 < t.size := by
            rcases Nat.eq_zero_or_pos t.size with h | h
            · exfalso
              have := lenB t
              rw [h] at this
              have : t.data.toList = [] := List.length_eq_zero_iff.1 this
              simp [textOK, this] at ht
            · exact h
          have HR := Lib.hid (hRW.trans (by rw [prefix35 h0]; rfl : _ = !((t[0].toNat : Int) == 35)))
          clear hRW ht hr
          go_enter Tryz.func16, Tryz.ntmps16
          go_wp2_with (go_at_call 8; refine (HV.out).mono ?_; rintro e w1 ⟨rfl, hb⟩; obtain ⟨b1, p1, rfl, hb1, c10, c11, c12, c13, hta, hoa, a1, ca1, c14, hl1⟩ := (HL.out.below hb).get (i := 0) rfl; rw [Nat.zero_mul, Nat.add_zero] at c10 c11 c12 c13 c14; clear hl1)
          go_ret
          exact ⟨ret_bool (by rw [HR.out]; rfl), by assumption⟩
        · have HR := Lib.hid (hRW.trans (by simp : _ = true))
          clear hRW ht hr
          go_enter Tryz.func16, Tryz.ntmps16
          go_wp2_with (go_at_call 8; refine (HV.out).mono ?_; rintro e w1 ⟨rfl, hb⟩; obtain ⟨b1, p1, rfl, hb1, c10, c11, c12, c13, hta, hoa, a1, ca1, c14, hl1⟩ := (HL.out.below hb).get (i := 0) rfl; rw [Nat.zero_mul, Nat.add_zero] at c10 c11 c12 c13 c14; clear hl1)
          go_ret
          exact ⟨ret_bool HR.out.symm, by assumption⟩
      · have HR := Lib.hid (hRW.trans (by simp : _ = true))
        clear hRW hr
        go_enter Tryz.func16, Tryz.ntmps16
        go_wp2_with (go_at_call 8; refine (HV.out).mono ?_; rintro e w1 ⟨rfl, hb⟩; obtain ⟨b1, p1, rfl, hb1, c10, c11, c12, c13, hta, hoa, a1, ca1, c14, hl1⟩ := (HL.out.below hb).get (i := 0) rfl; rw [Nat.zero_mul, Nat.add_zero] at c10 c11 c12 c13 c14; clear hl1)
        go_ret
        exact ⟨ret_bool HR.out.symm, by assumption⟩
end Rf
end Go.Proofs.YtoneabcbeikkhaaGreatDoor
