/- lex.sign, for every text. -/
import Derived.Test.YtgpnleenejjnmaaLxQ
namespace Go.Proofs.Ytgpnleenejjnmaa
open Go.RowKit Go.Sort
namespace Lx
open Cls Pt

def signIs (t : List UInt8) : Bool := t == [38, 38] || t == [124, 124] || t == [59, 59] || t == [38] || t == [124] || t == [59] || t == [40] || t == [41]
def signDown (l : List UInt8) : Nat → Nat
  | 0 => 0
  | n + 1 => if signIs (l.take (n + 1)) then n + 1 else signDown l n
/-- How long the sign is that stands first. -/
def signLen (l : List UInt8) : Nat := signDown l (min 2 l.length)
theorem signDown_le (l : List UInt8) : ∀ n, signDown l n ≤ n
  | 0 => Nat.le_refl _
  | n + 1 => by
    simp only [signDown]
    split
    · exact Nat.le_refl _
    · have := signDown_le l n; omega

theorem ret_str {a b : ByteArray} (h : a = b) : Ending.returned (.string a) = .returned (.string b) := by rw [h]

set_option maxHeartbeats 1600000 in
set_option maxRecDepth 100000 in
theorem sign_any (s : ByteArray) (w : World) (hs : s.size ≤ 1000000) :
    Calls Try.prog 73 #[.string s] w fun e w' => e = .returned (.string (s.extract 0 (signLen s.data.toList))) ∧ w = w' := by
  have hq0 : signLen s.data.toList = signDown s.data.toList (min 2 s.size) := by unfold signLen; rw [lenB]
  have HQ0 := Lib.hid hq0
  clear hq0
  go_enter Try.func73, Try.ntmps73
  go_wp2
  go_loop [3] (fun i => ∃ n : Nat, n ≤ min 2 s.size ∧ i = .int .i64 n ∧ signLen s.data.toList = signDown s.data.toList n) (fun i => (intOf i).toNat)
  case atStart => exact ⟨min 2 s.size, Nat.le_refl _, by rw [show (min 2 (s.size : Int)) = ((min 2 s.size : Nat) : Int) by omega], HQ0.out⟩
  case round =>
    obtain ⟨n, hn, rfl, hq⟩ := hrel
    have HQ := Lib.hid hq
    clear hq
    cases n with
    | zero =>
      go_wp2_with fail
      go_ret
      exact ⟨ret_str (by rw [HQ.out]; simp [signDown]; rfl), rfl⟩
    | succ k =>
      have hk2 : ((k : Int) + 1) ≤ (s.size : Int) := by omega
      have hT : (s.extract 0 (k + 1)).toList = s.data.toList.take (k + 1) := by rw [Lib.toList_data, Lib.extract_data]; simp
      cases hsg : signIs (s.data.toList.take (k + 1))
      all_goals
        rw [← hT] at hsg
        have HSG := Lib.hid hsg; have HT := Lib.hid hT
        clear hsg hT
        go_wp2_with fail
        all_goals (first
          | (go_ret
             first
             | exact ⟨ret_str (by rw [HQ.out, signDown, if_pos (by rw [← HT.out]; exact HSG.out)]), rfl⟩
             | (exfalso; have hsg := HSG.out; simp_all [signIs]; done))
          | (go_round
             case rel => first
               | exact ⟨k, by omega, by go_num, by rw [HQ.out, signDown, if_neg (by rw [← HT.out, HSG.out]; decide)]⟩
               | (exfalso; have hsg := HSG.out; simp_all [signIs]; done)
             case measure => simp [intOf]))
end Lx
end Go.Proofs.Ytgpnleenejjnmaa
