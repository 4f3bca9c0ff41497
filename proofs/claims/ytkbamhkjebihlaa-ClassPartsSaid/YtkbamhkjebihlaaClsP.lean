/- The law ClassParts, walked by its callees' contracts: it answers true for every text and every byte, and what was in memory stays as it was. -/
import Derived.Test.YtkbamhkjebihlaaClsL
namespace Go.Proofs.Ytkbamhkjebihlaa
open Go.RowKit
namespace Cls

/-- Each byte is of one kind. -/
theorem kinds0 : ∀ n : Fin 256, (breakB n, signB n, bareB n, quoteB n) = (true, false, false, false) ∨ (breakB n, signB n, bareB n, quoteB n) = (false, true, false, false) ∨ (breakB n, signB n, bareB n, quoteB n) = (false, false, true, false) ∨ (breakB n, signB n, bareB n, quoteB n) = (false, false, false, true) := by decide +kernel
theorem kinds (n : Nat) (hn : n < 256) : ∃ a b c d, breakB n = a ∧ signB n = b ∧ bareB n = c ∧ quoteB n = d ∧ [a, b, c, d].count true = 1 := by
  rcases kinds0 ⟨n, hn⟩ with h | h | h | h <;> (simp only [Prod.mk.injEq] at h; obtain ⟨h1, h2, h3, h4⟩ := h; exact ⟨_, _, _, _, h1, h2, h3, h4, rfl⟩)
theorem blank_break {n : Nat} (h : blankB n = true) : breakB n = true := by unfold blankB at h; unfold breakB; simp [h]
theorem name_more (l : List UInt8) (x : UInt8) (h : nameL l = true) : nameL (l ++ [x]) = (letterB x.toNat || digitB x.toNat) := by
  obtain ⟨h0, h1⟩ := of_decide_eq_true h
  have hx : (l ++ [x]).getD l.length 0 = x := by simp [List.getD]
  have hok : okB l.length x.toNat = (letterB x.toNat || digitB x.toNat) := by
    have : decide (l.length ≠ 0) = true := decide_eq_true (by omega)
    rw [okB, this]; rfl
  rw [← hok]
  cases hk : okB l.length x.toNat
  · exact nameL_no (k := l.length) (by simp) (by rw [hx]; exact hk)
  · refine nameL_yes (by simp) fun j hj => ?_
    by_cases e : j = l.length
    · subst e; rw [hx]; exact hk
    · have hj' : j < l.length := by simp at hj; omega
      have : (l ++ [x]).getD j 0 = l.getD j 0 := by simp [List.getD, List.getElem?_append_left hj']
      rw [this]; exact h1 j hj'
theorem count_snoc (l : List Bool) (k : Nat) (hk : k < l.length) : (l.take (k + 1)).count true = (l.take k).count true + if l.getD k false = true then 1 else 0 := by
  rw [List.take_succ_eq_append_getElem hk, List.count_append]
  simp only [List.getD, List.getElem?_eq_getElem hk, Option.getD_some]
  cases l[k] <;> simp
theorem cell_four (w : World) (a b c d : Bool) (T : Nat) (j : Nat) (hj : j < 4) : (w.alloc (.cells #[.bool a, .bool b, .bool c, .bool d] T)).cell? ⟨w.heap.size, j, none⟩ = some (.bool ([a, b, c, d].getD j false)) := by
  rw [World.cell?_alloc_at _ _ _ _ rfl]
  match j, hj with
  | 0, _ => rfl | 1, _ => rfl | 2, _ => rfl | 3, _ => rfl | n + 4, h => omega
theorem one_byte (n : Nat) (h : n < 256) (w : World) : Lib.Bytes (w.alloc (.cells #[.int .u8 (n : Int)] 5)) w.heap.size 0 ⟨#[UInt8.ofNat n]⟩ := by
  intro i hi
  have hi0 : i = 0 := by have : i < 1 := hi; omega
  subst hi0
  rw [World.cell?_alloc_at _ _ _ _ rfl]
  have e : (UInt8.ofNat n).toNat = n := by rw [UInt8.toNat_ofNat']; omega
  show some (Value.int .u8 (n : Int)) = some (Value.int .u8 ((UInt8.ofNat n).toNat : Int))
  rw [e]

theorem name_join (s : ByteArray) (n : Nat) (hn : n < 256) (h : nameL s.data.toList = true) (b : Bool) (hb : (letterB n || digitB n) = b) : nameL (s ++ (⟨#[UInt8.ofNat n]⟩ : ByteArray)).data.toList = b := by
  have e : (UInt8.ofNat n).toNat = n := by rw [UInt8.toNat_ofNat']; omega
  rw [← hb, ByteArray.data_append, Array.toList_append, name_more _ _ h, e]
theorem size_join (s : ByteArray) (x : UInt8) (h : ¬ 2000 < s.size) : (s ++ (⟨#[x]⟩ : ByteArray)).size ≤ 9223372036854775807 := by
  rw [ByteArray.size_append]
  show s.size + 1 ≤ _
  omega

/-- The five, one behind the other, as the law asks. -/
def Quotes (n : Nat) (d : Bool) : Prop :=
  ((n : Int) == 34) = true ∧ d = true ∨ ((n : Int) == 34) = false ∧ ((n : Int) == 36) = true ∧ d = true ∨ ((n : Int) == 34) = false ∧ ((n : Int) == 36) = false ∧ ((n : Int) == 39) = true ∧ d = true ∨
  ((n : Int) == 34) = false ∧ ((n : Int) == 36) = false ∧ ((n : Int) == 39) = false ∧ ((n : Int) == 92) = true ∧ d = true ∨ ((n : Int) == 34) = false ∧ ((n : Int) == 36) = false ∧ ((n : Int) == 39) = false ∧ ((n : Int) == 92) = false ∧ ((n : Int) == 96) = d
theorem quotes (n : Nat) : Quotes n (quoteB n) := by
  unfold Quotes quoteB
  cases ((n : Int) == 34) <;> cases ((n : Int) == 36) <;> cases ((n : Int) == 39) <;> cases ((n : Int) == 92) <;> simp

set_option maxHeartbeats 1000000 in
theorem parts_law (s : ByteArray) (n : Nat) (hs : s.size ≤ 9223372036854775807) (hn : n < 256) (w : World) :
    Calls Try.prog 5 #[.string s, .int .u8 n] w fun e w' => e = .returned (.bool true) ∧ Below w.heap.size w w' := by
  by_cases hl : 2000 < s.size
  · go_enter Try.func5, Try.ntmps5
    go_wp2_with (go_at_call 6; refine (alive_any _).mono ?_; rintro e w1 ⟨rfl, hb1⟩)
    go_ret
    exact ⟨rfl, hb1⟩
  · obtain ⟨a, b, c, d, ha, hb, hc, hd, hcount⟩ := kinds n hn
    have hq := quotes n
    rw [hd] at hq
    have HC := Lib.hid hcount; have HA := Lib.hid ha
    clear hcount hd
    rcases hq with ⟨q1, hD⟩ | ⟨q1, q2, hD⟩ | ⟨q1, q2, q3, hD⟩ | ⟨q1, q2, q3, q4, hD⟩ | ⟨q1, q2, q3, q4, q5⟩
    all_goals
      first | (have HD := Lib.hid hD; clear hD) | have HD := Lib.hid (show d = d from rfl)
      go_enter Try.func5, Try.ntmps5
      go_wp2_with (first
        | (go_at_call 6; refine (alive_any _).mono ?_; rintro e w1 ⟨rfl, hb1⟩; have HB1 := Lib.hid hb1; clear hb1)
        | (go_at_call 9; refine (break_any _ _).mono ?_; rintro e w' ⟨rfl, rfl⟩)
        | (go_at_call 11; refine (sign_any _ _).mono ?_; rintro e w' ⟨rfl, rfl⟩)
        | (go_at_call 13; refine (bare_any _ _).mono ?_; rintro e w' ⟨rfl, rfl⟩))
      go_loopw [5, 39] (fun c5 i wr => ∃ k : Nat, k ≤ 4 ∧ i = .int .i64 k ∧ c5 = .int .i64 ((([a, b, c, d].take k).count true : Nat) : Int) ∧ Below w.heap.size w wr ∧ ∀ j : Nat, j < 4 → wr.cell? ⟨w1.heap.size, j, none⟩ = some (.bool ([a, b, c, d].getD j false))) (fun _ i _ => 4 - (intOf i).toNat)
      case atStart =>
        refine ⟨0, by omega, rfl, rfl, HB1.out.alloc HB1.out.size _, fun j hj => ?_⟩
        first | exact cell_four _ _ _ _ _ _ _ hj | (rw [HD.out]; exact cell_four _ _ _ _ _ _ _ hj)
      case round =>
        obtain ⟨k, hk, rfl, rfl, hbel, hcs⟩ := hrel
        have HB := Lib.hid hbel; have HCS := Lib.hid hcs
        clear hbel hcs
        by_cases hlt : k < 4
        · have hc1 := HCS.out k hlt
          have HS := Lib.hid (count_snoc [a, b, c, d] k hlt)
          have hcl : ([a, b, c, d].take k).count true ≤ 4 := Nat.le_trans List.count_le_length (by simp; omega)
          cases hx : [a, b, c, d].getD k false
          · have HXX := Lib.hid hx
            rw [hx] at hc1
            clear hx
            go_wp2
            go_roundw
            case rel => exact ⟨k + 1, by omega, by go_num, by rw [HS.out, HXX.out]; rfl, HB.out, HCS.out⟩
            case measure => simp [intOf]; omega
          · have HXX := Lib.hid hx
            rw [hx] at hc1
            clear hx
            go_wp2
            go_roundw
            case rel => exact ⟨k + 1, by omega, by go_num, by rw [HS.out, HXX.out]; rfl, HB.out, HCS.out⟩
            case measure => simp [intOf]; omega
        · obtain rfl : k = 4 := by omega
          rw [show (([a, b, c, d].take 4).count true) = 1 from HC.out]
          cases hnm : nameL s.data.toList
          · have HM := Lib.hid hnm
            cases hbl : blankB n
            · go_wp2_with (first
                | (go_at_call 19; refine (name_at _ false _ hs HM.out).mono ?_; rintro e w' ⟨rfl, rfl⟩)
                | (go_at_call 7; refine (blank_any _ _).mono ?_; rintro e w' ⟨rfl, rfl⟩))
              go_ret
              exact ⟨rfl, HB.out⟩
            · have hbr := blank_break hbl
              rw [ha] at hbr
              go_wp2_with (first
                | (go_at_call 19; refine (name_at _ false _ hs HM.out).mono ?_; rintro e w' ⟨rfl, rfl⟩)
                | (go_at_call 7; refine (blank_any _ _).mono ?_; rintro e w' ⟨rfl, rfl⟩)
                | (go_at_call 9; refine (break_any _ _).mono ?_; rintro e w' ⟨rfl, rfl⟩))
              go_ret
              exact ⟨rfl, HB.out⟩
          · have HM := Lib.hid hnm
            have hp : paramL s.data.toList = true := by rw [paramL, hnm]; rfl
            have HP := Lib.hid hp; clear hp
            have hconv := Lib.run_convert_whole (P := Try.prog) _ 26 5 9 Try.underlying26 Try.underlying5 Try.underlying9 wr.heap.size 0 _ (one_byte n hn wr) 1
            rw [show (⟨#[UInt8.ofNat n]⟩ : ByteArray).size = 1 from rfl] at hconv
            cases hlt2 : letterB n <;> cases hdg : digitB n <;> cases hbl : blankB n
            all_goals
              have HJ := Lib.hid (fun b hb => name_join s n hn HM.out b hb)
              have HJ2 := Lib.hid (fun (b : Bool) (hb : (letterB n || digitB n) = b) => hb)
              have HLT := Lib.hid hlt2; have HDG := Lib.hid hdg; have HBL := Lib.hid hbl
              go_wp2_with fail
              refine (name_at _ true _ hs HM.out).mono ?_
              rintro e w' ⟨rfl, rfl⟩
              go_wp2_with fail
              refine (name_at _ (letterB n || digitB n) _ (size_join s _ hl) (name_join s n hn HM.out _ rfl)).mono ?_
              rintro e w' ⟨rfl, rfl⟩
              have hsz : wr.heap.size < (wr.alloc (.cells #[.int .u8 (n : Int)] 5)).heap.size := by simp
              clear HJ HJ2
              try (have hbr := blank_break HBL.out; rw [ha] at hbr)
              go_wp2_with (first
                | (go_at_call 15; refine (letter_any _ _).mono ?_; rintro e w' ⟨rfl, rfl⟩)
                | (go_at_call 17; refine (digit_any _ _).mono ?_; rintro e w' ⟨rfl, rfl⟩)
                | (go_at_call 21; refine (param_at _ true _ hs HP.out).mono ?_; rintro e w3 ⟨rfl, hb3⟩)
                | (go_at_call 7; refine (blank_any _ _).mono ?_; rintro e w' ⟨rfl, rfl⟩)
                | (go_at_call 9; refine (break_any _ _).mono ?_; rintro e w' ⟨rfl, rfl⟩))
              go_ret
              have k2 := HB.out.alloc HB.out.size (.cells #[.int .u8 (n : Int)] 5)
              exact ⟨rfl, k2.trans (hb3.mono k2.size)⟩
end Cls
end Go.Proofs.Ytkbamhkjebihlaa
