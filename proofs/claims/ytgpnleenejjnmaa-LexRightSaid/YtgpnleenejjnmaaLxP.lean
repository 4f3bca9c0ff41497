/- param, marked, double, bare: all four, by how much is left. -/
import Derived.Test.YtgpnleenejjnmaaLxO
namespace Go.Proofs.Ytgpnleenejjnmaa
open Go.RowKit Go.Sort
namespace Lx
open Cls Pt

theorem paramF_succ (n : Nat) (s : ByteArray) (q : Bool) (d i : Nat) :
    paramF (n + 1) s q d i = if 200 < d then .bad i 2 else if seesB (restAt s (i + 1)) 123 then bracketF n s q d i else plainF s q i := by
  rw [paramF]
  rfl

theorem param_step (s : ByteArray) (hs : s.size ≤ 1000000) (n : Nat) (IHO : OfAt s n) : ParamAt s (n + 1) := by
  intro q d i rb w hR hi hf hd
  rw [paramF_succ]
  by_cases hd2 : 200 < d
  · rw [if_pos hd2]
    exact param_deep s hs q d i rb w hR hd2 hd
  · rw [if_neg hd2]
    cases h : seesB (restAt s (i + 1)) 123 with
    | true =>
      rw [if_pos rfl]
      exact param_bracket s hs n IHO q d i rb w hR hi (by omega) (by omega) h
    | false =>
      rw [if_neg (by decide)]
      exact param_plain s hs q d i rb w hR hi (by omega) h

/-- All four, whatever is left. -/
theorem all_at (s : ByteArray) (hs : s.size ≤ 1000000) : ∀ n, ParamAt s n ∧ MarkedAt s n ∧ BareAt s n ∧ DoubleAt s n := by
  intro n
  induction n using Nat.strongRecOn with
  | ind n ih =>
    have hM : MarkedAt s n := marked_step s hs n fun m hm => (ih m hm).1
    have hD : DoubleAt s n := double_step s hs n hM
    have hB : BareAt s n := bare_step s hs n (fun m hm => (ih m hm).1) fun m hm => (ih m hm).2.2.2
    refine ⟨?_, hM, hB, hD⟩
    cases n with
    | zero => exact param_zero s
    | succ k => exact param_step s hs k (of_step s k (ih k (Nat.lt_succ_self k)).2.1 (ih k (Nat.lt_succ_self k)).2.2.1)

/-- What stands in no marks, from the beginning of a word. -/
theorem bare_any (s : ByteArray) (hs : s.size ≤ 1000000) : BareAt s (s.size + 1) := (all_at s hs (s.size + 1)).2.2.1
end Lx
end Go.Proofs.Ytgpnleenejjnmaa
