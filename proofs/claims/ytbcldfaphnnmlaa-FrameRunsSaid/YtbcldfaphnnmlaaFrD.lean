/- The reference's Saved, Return, Continue. -/
import Derived.Test.YtbcldfaphnnmlaaFrC
namespace Go.Proofs.Ytbcldfaphnnmlaa
open Go.RowKit Go.Sort
namespace Fra
open Cls Pt Tr
def outS : Option Int → Value
  | none => .tuple #[.int .i64 0, .bool false]
  | some n => .tuple #[.int .i64 n, .bool true]
set_option maxHeartbeats 800000 in
theorem rsaved_any {w : World} {v : Value} {l : List IV} (hL : LAt w v l) (hn : l.length ≤ 100000) :
    Calls Try.prog 32 #[v] w fun e w' => e = .returned (outS (svd l l.length)) ∧ w = w' := by
  obtain ⟨a, cap, rfl, _, hc⟩ := hL
  have HC := Lib.hid hc
  clear hc
  go_enter Try.func32, Try.ntmps32
  go_wp2_with fail
  go_loop [4] (fun i => ∃ n : Nat, n ≤ l.length ∧ i = .int .i64 ((n : Int) - 1) ∧ svd l n = svd l l.length) (fun i => (intOf i + 1).toNat)
  case atStart => exact ⟨l.length, Nat.le_refl _, rfl, rfl⟩
  case round =>
    obtain ⟨n, hk, rfl, hA⟩ := hrel
    have HA := Lib.hid hA
    clear hA
    cases n with
    | zero =>
      go_wp2_with fail
      go_ret2
      exact ⟨by rw [← HA.out]; rfl, rfl⟩
    | succ n =>
      have hlt : n < l.length := by omega
      obtain ⟨p, hp⟩ : ∃ p, l[n]? = some p := ⟨_, List.getElem?_eq_getElem hlt⟩
      obtain ⟨b, o, rfl, hbl, hcell⟩ := HC.out n p hp
      have r0 : w.cell? ⟨b, o + n * 14, none⟩ = some (.int .i64 p.k) := hcell 0 _ rfl
      have r1 : w.cell? ⟨b, o + n * 14 + 10, none⟩ = some (.int .i64 p.st) := hcell 10 _ rfl
      have hst : svd l (n + 1) = if p.k == 12 || p.k == 13 then some p.st else svd l n := by rw [svd, hp]
      have HST := Lib.hid hst
      have hcast : ((n + 1 : Nat) : Int) - 1 = (n : Int) := by omega
      rw [hcast]
      clear hcell hst hp hcast
      cases h12 : (p.k == 12)
      · cases h13 : (p.k == 13)
        · rw [h12, h13] at HST
          go_wp2_with fail
          go_round
          case rel => exact ⟨n, by omega, rfl, by rw [← HA.out, HST.out]; rfl⟩
          case measure => simp [intOf]
        · rw [h12, h13] at HST
          go_wp2_with fail
          go_ret2
          exact ⟨by rw [← HA.out, HST.out]; rfl, rfl⟩
      · rw [h12] at HST
        go_wp2_with fail
        go_ret2
        exact ⟨by rw [← HA.out, HST.out]; rfl, rfl⟩
end Fra
end Go.Proofs.Ytbcldfaphnnmlaa
