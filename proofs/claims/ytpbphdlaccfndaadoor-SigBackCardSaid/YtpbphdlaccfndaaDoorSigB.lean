/- What sig.Number and sig.Of answer, for every text and every list. -/
import Derived.Test.YtpbphdlaccfndaaDoorSigA
namespace Go.Proofs.YtpbphdlaccfndaaDoor
open Go.RowKit
namespace Sig

/-- The names, from 1 on. -/
def nm : Nat → List UInt8
  | 1 => [72, 85, 80] | 2 => [73, 78, 84] | 3 => [81, 85, 73, 84] | 4 => [73, 76, 76] | 5 => [84, 82, 65, 80] | 6 => [65, 66, 82, 84] | 7 => [66, 85, 83] | 8 => [70, 80, 69]
  | 9 => [75, 73, 76, 76] | 10 => [85, 83, 82, 49] | 11 => [83, 69, 71, 86] | 12 => [85, 83, 82, 50] | 13 => [80, 73, 80, 69] | 14 => [65, 76, 82, 77] | 15 => [84, 69, 82, 77] | 16 => [83, 84, 75, 70, 76, 84]
  | 17 => [67, 72, 76, 68] | 18 => [67, 79, 78, 84] | 19 => [83, 84, 79, 80] | 20 => [84, 83, 84, 80] | 21 => [84, 84, 73, 78] | 22 => [84, 84, 79, 85] | 23 => [85, 82, 71] | 24 => [88, 67, 80, 85]
  | 25 => [88, 70, 83, 90] | 26 => [86, 84, 65, 76, 82, 77] | 27 => [80, 82, 79, 70] | 28 => [87, 73, 78, 67, 72] | 29 => [73, 79] | 30 => [80, 87, 82] | 31 => [83, 89, 83] | _ => []
def nmB (s : Nat) : ByteArray := ⟨(nm s).toArray⟩
/-- The table holds the names. -/
def Names (w : World) : Prop := ∀ s : Nat, s < 32 → w.cell? ⟨0, s, none⟩ = some (.string (nmB s))
/-- A text's signal among the last k; 0: there is none. -/
def numUp (t : ByteArray) : Nat → Nat
  | 0 => 0
  | k + 1 => if t = nmB (31 - k) ∨ t = ⟨(Lib.decDigits (31 - k)).toArray⟩ then 31 - k else numUp t k

theorem bytes_inj {a b : ByteArray} (h : a.toList = b.toList) : a = b := by
  rw [Lib.toList_data, Lib.toList_data] at h
  cases a; cases b
  simpa using h
/-- What Number answers, as a value. -/
def numV (k : Nat) : Value := .tuple #[.int .i64 k, .bool (decide (k ≠ 0))]
theorem numV_mk {k : Nat} {r : Nat} (h : r = k) (h0 : 1 ≤ k) : Ending.returned (.tuple #[.int .i64 (k : Int), .bool true]) = .returned (numV r) := by
  subst h; simp [numV]; omega
theorem numUp_hit {t : ByteArray} {m s : Nat} (hs : 31 - m = s) (h : t = nmB s ∨ t = ⟨(Lib.decDigits s).toArray⟩) : numUp t (m + 1) = s := by
  subst hs; rw [numUp, if_pos h]
theorem numUp_miss {t : ByteArray} {m s : Nat} (hs : 31 - m = s) (h1 : t ≠ nmB s) (h2 : t ≠ ⟨(Lib.decDigits s).toArray⟩) : numUp t (m + 1) = numUp t m := by
  subst hs; rw [numUp, if_neg (by simp [h1, h2])]

set_option maxHeartbeats 400000 in
theorem number_any (t : ByteArray) (w : World) (hn : Names w) :
    Calls Tryd.prog 6 #[.string t] w fun e w' => e = .returned (numV (numUp t 31)) ∧ w = w' := by
  have HN := Lib.hid hn; clear hn
  go_enter Tryd.func6, Tryd.ntmps6
  go_wp2
  go_loop [4] (fun s => ∃ k : Nat, k ≤ 31 ∧ s = .int .i64 ((32 - k : Nat) : Int) ∧ numUp t 31 = numUp t k) (fun s => 32 - (intOf s).toNat)
  case atStart => exact ⟨31, by omega, rfl, rfl⟩
  case round =>
    obtain ⟨k, hk, rfl, hr⟩ := hrel
    have HR := Lib.hid hr; clear hr
    by_cases h0 : k = 0
    · subst h0
      go_wp2
      go_ret2
      exact ⟨by rw [HR.out]; rfl, rfl⟩
    · obtain ⟨m, rfl⟩ : ∃ m, k = m + 1 := ⟨k - 1, by omega⟩
      have hc := HN.out (31 - m) (by omega)
      rw [show (32 - (m + 1)) = 31 - m by omega]
      obtain ⟨s, hs⟩ : ∃ s, s = 31 - m := ⟨_, rfl⟩
      rw [← hs] at hc ⊢
      have hs1 : 1 ≤ s := by omega
      have hs2 : s ≤ 31 := by omega
      have hm : m + s = 31 := by omega
      have HS := Lib.hid hs; clear hs h0 hk
      by_cases h1 : t = nmB s
      · have hb : (t.toList == (nmB s).toList) = true := by rw [h1]; exact beq_self_eq_true _
        have H1 := Lib.hid h1; clear h1
        go_wp2_with fail
        go_ret2
        exact ⟨numV_mk (by rw [HR.out]; exact numUp_hit HS.out.symm (.inl H1.out)) hs1, rfl⟩
      · have hb : (t.toList == (nmB s).toList) = false := beq_eq_false_iff_ne.2 fun e => h1 (bytes_inj e)
        have H1 := Lib.hid h1; clear h1
        by_cases h2 : t = ⟨(Lib.decDigits s).toArray⟩
        · have hb2 : (t.toList == Lib.decDigits s) = true := by rw [h2, Lib.toList_data]; exact beq_self_eq_true _
          have H2 := Lib.hid h2; clear h2
          go_wp2_with (go_at_call 23; refine (Tryd.strconv_Itoa_small _ (by omega) _).mono ?_; rintro e w' ⟨rfl, rfl⟩)
          go_ret2
          exact ⟨numV_mk (by rw [HR.out]; exact numUp_hit HS.out.symm (.inr H2.out)) hs1, rfl⟩
        · have hb2 : (t.toList == Lib.decDigits s) = false := beq_eq_false_iff_ne.2 fun e => h2 (bytes_inj (by rw [e, Lib.toList_data]))
          have H2 := Lib.hid h2; clear h2
          go_wp2_with (go_at_call 23; refine (Tryd.strconv_Itoa_small _ (by omega) _).mono ?_; rintro e w' ⟨rfl, rfl⟩)
          go_round
          case rel => exact ⟨m, by omega, by rw [show 32 - m = s + 1 by omega]; go_num, by rw [HR.out]; exact numUp_miss HS.out.symm H1.out H2.out⟩
          case measure => simp [intOf]; omega
end Sig
end Go.Proofs.YtpbphdlaccfndaaDoor
