/- Value and Right, for all parts. -/
import Derived.Test.YtgdjeemmklmpfaaPtX
namespace Go.Proofs.Ytgdjeemmklmpfaa
open Go.RowKit Go.Sort
namespace Pt
open Cls

theorem rightParts_any (n : Nat) : ∀ (l : PL) (a : Option Addr) (cap at' d : Nat) (w : World), l.size < n → at' ≤ 2 → d ≤ 1000 → Lies w a cap l →
    Calls Try.prog 63 #[.slice a l.len cap, .int .i64 at', .int .i64 d] w fun e w' => e = .returned (.bool (rightL none l at' d)) ∧ Below w.heap.size w w' := by
  induction n with
  | zero => intro _ _ _ _ _ _ h; omega
  | succ n ih =>
    intro l a cap at' d w hn ha hd hl
    refine rightParts_step l a cap at' d w ha hd hl (fun f a cap q w hf hd h => ?_)
    have := ih f a cap (wth q) (d + 1) w (by omega) (by cases q <;> simp [wth]) (by omega) h
    simpa only [Int.natCast_add, Int.natCast_one] using this

theorem value_any (l : PL) (a : Option Addr) (cap : Nat) (w : World) (hl : Lies w a cap l) :
    Calls Try.prog 58 #[.slice a l.len cap] w fun e w' => e = .returned (.bool (rightL none l 0 1)) ∧ Below w.heap.size w w' := by
  have HV := Lib.hid (rightParts_any (l.size + 1) l a cap 0 1 w (by omega) (by omega) (by omega) hl)
  clear hl
  go_enter Try.func58, Try.ntmps58
  go_wp2_with (go_at_call 63; refine (HV.out).mono ?_; rintro e w' ⟨rfl, hb⟩)
  go_ret
  exact ⟨rfl, by assumption⟩

/-- A right word. -/
def rightW : PL → Bool
  | .nil => false
  | .cons k q t o f r => !(k == 1 && !q && Lib.hasPrefix t.data.toList [35]) && rightL none (.cons k q t o f r) 0 1

set_option maxHeartbeats 800000 in
theorem right_any (l : PL) (a : Option Addr) (cap : Nat) (w : World) (hl : Lies w a cap l) :
    Calls Try.prog 60 #[.slice a l.len cap] w fun e w' => e = .returned (.bool (rightW l)) ∧ Below w.heap.size w w' := by
  have HL := Lib.hid hl; clear hl
  have hle := HL.out.le
  cases l with
  | nil =>
    go_enter Try.func60, Try.ntmps60
    go_wp2_with fail
    go_ret
    exact ⟨rfl, Below.refl _ _⟩
  | cons k q t o f r =>
    obtain ⟨b1, p1, rfl, hb1, c10, c11, c12, c13, ht, ho, a1, ca1, c14, hl1⟩ := HL.out.get (i := 0) rfl
    have hlen : (PL.cons k q t o f r).len = r.len + 1 := rfl
    rw [Nat.zero_mul, Nat.add_zero] at c10 c11 c12 c13 c14
    have hC := comment_any k q t o a1 f.len ca1 w
    have hgt : (((r.len + 1 : Nat) : Int) > 0) = True := by simp
    cases hc : (k == 1 && !q && Lib.hasPrefix t.data.toList [35])
    all_goals
      have HH := Lib.hid hc
      rw [hc] at hC
      have HC := Lib.hid hC
      rw [hlen]
      clear hc hC hl1
    · have hV := fun w' (hb : Below w.heap.size w w') => value_any (.cons k q t o f r) (some ⟨b1, p1, none⟩) cap w' (HL.out.below hb)
      rw [hlen] at hV
      have HV := Lib.hid hV; clear hV hlen hle
      go_enter Try.func60, Try.ntmps60
      go_wp2_with (first
        | (go_at_call 66; refine (HC.out).mono ?_; rintro e w1 ⟨rfl, hb⟩)
        | (go_at_call 58; refine (HV.out _ (by assumption)).mono ?_; rintro e w' ⟨rfl, hb2⟩))
      go_ret
      exact ⟨ret_bool (by simp only [rightW, HH.out]; rfl), thru (by assumption) (by assumption)⟩
    · go_enter Try.func60, Try.ntmps60
      go_wp2_with (go_at_call 66; refine (HC.out).mono ?_; rintro e w1 ⟨rfl, hb⟩)
      go_ret
      exact ⟨ret_bool (by simp only [rightW, HH.out]; rfl), by assumption⟩
end Pt
end Go.Proofs.Ytgdjeemmklmpfaa
