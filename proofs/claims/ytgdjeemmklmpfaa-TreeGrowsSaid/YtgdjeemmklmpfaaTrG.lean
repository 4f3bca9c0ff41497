/- Words that are right, a command's first word, a simple command, a loop's head. -/
import Derived.Test.YtgdjeemmklmpfaaTrF
namespace Go.Proofs.Ytgdjeemmklmpfaa
open Go.RowKit Go.Sort
namespace Tr
open Cls Pt

set_option maxHeartbeats 800000 in
set_option maxRecDepth 100000 in
theorem rightWords_any (l : List PL) (a : Option Addr) (cap : Nat) (w : World) (hl : Sl 1 (PW w) a cap l) :
    Calls Try.prog 51 #[.slice a l.length cap] w fun e w' => e = .returned (.bool (l.all rightW)) ∧ Below w.heap.size w w' := by
  have hle := hl.le
  have HL := Lib.hid hl
  clear hl
  go_enter Try.func51, Try.ntmps51
  go_wp2
  go_loopw [7] (fun x wr => ∃ n : Nat, n ≤ l.length ∧ x = .int .i64 n ∧ l.all rightW = (l.drop n).all rightW ∧ Below w.heap.size w wr) (fun x wr => l.length - (intOf x).toNat)
  case atStart => exact ⟨0, Nat.zero_le _, rfl, rfl, Below.refl _ _⟩
  case round =>
    obtain ⟨n, hn, rfl, hr, hbw⟩ := hrel
    have HR := Lib.hid hr; have HW := Lib.hid hbw
    clear hr hbw
    by_cases hlt : n < l.length
    · obtain ⟨b1, o1, rfl, a1, c1, e1, hl1⟩ := (sl_below (P := PW) (fun h => h.below HW.out) HL.out).get (List.getElem?_eq_getElem hlt)
      rw [Nat.mul_one] at e1
      have hC := right_any l[n] a1 c1 wr hl1
      have hstep : l.all rightW = (rightW l[n] && (l.drop (n + 1)).all rightW) := by rw [HR.out, List.drop_eq_getElem_cons hlt]; rfl
      generalize l[n] = x at *
      have HT := Lib.hid hstep
      clear hl1 hstep
      cases hx : rightW x
      all_goals
        rw [hx] at hC HT
        have HC := Lib.hid hC
        clear hC hx
      · go_wp2_with (go_at_call 60; refine (HC.out).mono ?_; rintro e w' ⟨rfl, hb⟩)
        go_ret
        exact ⟨ret_bool (by rw [HT.out]; rfl), thru HW.out (by assumption)⟩
      · go_wp2_with (go_at_call 60; refine (HC.out).mono ?_; rintro e w' ⟨rfl, hb⟩)
        go_roundw
        case rel => exact ⟨n + 1, by omega, by go_num, by rw [HT.out]; rfl, thru HW.out (by assumption)⟩
        case measure => simp [intOf]; omega
    · obtain rfl : n = l.length := by omega
      go_wp2
      go_ret
      exact ⟨ret_bool (by rw [HR.out, List.drop_eq_nil_of_le (Nat.le_refl _)]; rfl), HW.out⟩

/-- A word that is no larger than anything that is held. -/
def wOK (l : PL) : Prop := l.size ≤ 1000000 ∧ ∀ k q t o f r, l = .cons k q t o f r → t.size ≤ 1000000
def firstB (l : PL) (behind : Bool) : Bool := !(Sp.splitP l).isSome && (behind || !Sp.plainB l || !reservedL (Sp.plainT l).data.toList)
set_option maxHeartbeats 800000 in
set_option maxRecDepth 100000 in
theorem rightFirst_any (l : PL) (behind : Bool) (a : Option Addr) (cap : Nat) (m : Int) (w : World) (hl : Lies w a cap l) (hok : wOK l) (hm : w.cell? ⟨0, 0, none⟩ = some (.int .i64 m)) :
    Calls Try.prog 59 #[.slice a l.len cap, .bool behind] w fun e w' => e = .returned (.bool (firstB l behind)) ∧ Below w.heap.size w w' := by
  cases hs : Sp.splitP l with
  | some n =>
    cases l with
    | nil => cases hs
    | cons k q t o f r =>
      have hS := Sp.split_yes k q t o f r n a cap m w hl hok.1 (hok.2 _ _ _ _ _ _ rfl) hm hs
      have hF : firstB (.cons k q t o f r) behind = false := by simp [firstB, hs]
      have HS := Lib.hid hS; have HF := Lib.hid hF
      have hlen : (PL.cons k q t o f r).len = r.len + 1 := rfl
      rw [hlen]
      clear hS hF hl hm hs hok hlen
      go_enter Try.func59, Try.ntmps59
      go_wp2_with (go_at_call 64; refine (HS.out).mono ?_; rintro e w1 ⟨⟨a', cap', rfl, _⟩, hb⟩)
      go_ret
      exact ⟨ret_bool HF.out.symm, by assumption⟩
  | none =>
    have hS := Sp.split_no l a cap m w hl hok.1 hok.2 hm hs
    have hP := fun w' (hb : Below w.heap.size w w') => Sp.plain_any l a cap w' (hl.below hb)
    have HS := Lib.hid hS; have HP := Lib.hid hP
    clear hS hP hl hm
    unfold firstB
    rw [hs]
    generalize Sp.plainT l = T at *
    have HRV := Lib.hid (fun w => reserved_any T w)
    cases behind
    · cases hp : Sp.plainB l
      · rw [hp] at HP
        clear hp hs hok
        go_enter Try.func59, Try.ntmps59
        go_wp2_with (first
          | (go_at_call 64; refine (HS.out).mono ?_; rintro e w1 ⟨rfl, hb⟩)
          | (go_at_call 65; refine (HP.out _ (by assumption)).mono ?_; rintro e w2 ⟨rfl, rfl⟩))
        go_ret
        exact ⟨ret_bool rfl, by assumption⟩
      · rw [hp] at HP
        cases hv : reservedL T.data.toList
        all_goals
          rw [hv] at HRV
          clear hp hs hok hv
          go_enter Try.func59, Try.ntmps59
          go_wp2_with (first
            | (go_at_call 64; refine (HS.out).mono ?_; rintro e w1 ⟨rfl, hb⟩)
            | (go_at_call 65; refine (HP.out _ (by assumption)).mono ?_; rintro e w2 ⟨rfl, rfl⟩)
            | (go_at_call 55; refine (HRV.out _).mono ?_; rintro e w3 ⟨rfl, rfl⟩))
          go_ret
          exact ⟨ret_bool rfl, by assumption⟩
    · clear hs hok
      cases hp : Sp.plainB l
      all_goals
        rw [hp] at HP
        clear hp
        go_enter Try.func59, Try.ntmps59
        go_wp2_with (first
          | (go_at_call 64; refine (HS.out).mono ?_; rintro e w1 ⟨rfl, hb⟩)
          | (go_at_call 65; refine (HP.out _ (by assumption)).mono ?_; rintro e w2 ⟨rfl, rfl⟩))
        go_ret
        exact ⟨ret_bool rfl, by assumption⟩
end Tr
end Go.Proofs.Ytgdjeemmklmpfaa
