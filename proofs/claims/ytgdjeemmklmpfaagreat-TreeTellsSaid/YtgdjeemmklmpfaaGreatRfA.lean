/- The reference's small functions on parts: among, Operator, text. -/
import Derived.Test.YtgdjeemmklmpfaaGreatPtY
import Derived.Test.YtgdjeemmklmpfaaGreatClsN
import Derived.Test.YtgdjeemmklmpfaaGreatByt
namespace Go.Proofs.YtgdjeemmklmpfaaGreat
open Go.RowKit Go.Sort
namespace Rf
open Cls Pt

set_option maxHeartbeats 400000 in
theorem among3_any (n : Nat) (s : ByteArray) (w : World) (hs : s.size ≤ 9223372036854775807) :
    Calls Tryz.prog 154 #[.int .u8 n, .string s] w fun e w' => e = .returned (.bool (amongB n s.data.toList)) ∧ w = w' := by
  go_enter Tryz.func154, Tryz.ntmps154
  go_wp2
  go_loop [5] (fun i => ∃ k : Nat, k ≤ s.size ∧ i = .int .i64 k ∧ amongB n (s.data.toList.take k) = false) (fun i => s.size - (intOf i).toNat)
  case atStart => exact ⟨0, Nat.zero_le _, rfl, rfl⟩
  case round =>
    obtain ⟨k, hk, rfl, hr⟩ := hrel
    have HR := Lib.hid hr; clear hr
    by_cases hlt : k < s.size
    · have hlt' : k < s.data.toList.length := by simpa using hlt
      by_cases hn : s[k].toNat = n
      · have hb : ((s[k].toNat : Int) == (n : Int)) = true := by simp [hn]
        have HN := Lib.hid hn; clear hn
        go_wp2
        go_ret
        exact ⟨ret_bool (among_hit hlt' (by rw [← getB hlt]; exact HN.out)).symm, rfl⟩
      · have hb : ((s[k].toNat : Int) == (n : Int)) = false := by simp; omega
        have HN := Lib.hid hn; clear hn
        go_wp2
        go_round
        case rel => exact ⟨k + 1, by omega, by go_num, among_snoc HR.out hlt' (by rw [← getB hlt]; exact HN.out)⟩
        case measure => simp [intOf]; omega
    · go_wp2
      go_ret
      exact ⟨ret_bool (by rw [← HR.out, List.take_of_length_le (by simp; omega)]), rfl⟩

def isOper (o : List UInt8) : Bool := o == [45] || o == [58, 45] || o == [61] || o == [58, 61] || o == [43] || o == [58, 43] || o == [63] || o == [58, 63]
set_option maxHeartbeats 400000 in
theorem oper_any (o : ByteArray) (w : World) :
    Calls Tryz.prog 139 #[.string o] w fun e w' => e = .returned (.bool (isOper o.data.toList)) ∧ w = w' := by
  rw [← Lib.toList_data o]
  go_enter Tryz.func139, Tryz.ntmps139
  go_wp2_with fail
  all_goals (go_ret; exact ⟨ret_bool (by first | rfl | (exfalso; simp_all; done) | (simp_all [isOper]; done)), rfl⟩)

theorem nameOK_ref (t o : List UInt8) : nameOK t o = (paramL t && (o.isEmpty || isOper o) && (!isSet o || nameL t)) := by
  unfold nameOK
  cases hs : isSet o
  · have h1 : isOp o = (o.isEmpty || isOper o) := by
      simp only [isSet, Bool.or_eq_false_iff] at hs
      have he : (o == []) = o.isEmpty := by cases o <;> rfl
      simp only [isOp, isOper, hs.1, hs.2, he, Bool.or_false, Bool.or_assoc]
    rw [← h1]
    cases isOp o <;> simp
  · have h1 : (o.isEmpty || isOper o) = true := by
      simp only [isSet, Bool.or_eq_true, beq_iff_eq] at hs
      rcases hs with rfl | rfl <;> rfl
    rw [h1]
    cases hn : nameL t
    · simp
    · simp [paramL, hn]

def stops : List UInt8 := [34, 36, 39, 92, 96, 125]
theorem stops0 : ∀ n : Fin 256, amongB n stops = !standsB n 1 := by decide +kernel
theorem stops_any (n : Nat) (h : n < 256) : amongB n stops = !standsB n 1 := stops0 ⟨n, h⟩

theorem posB (t : ByteArray) : decide (0 < t.size) = !(t.data.toList == []) := by
  rw [← lenB t]
  cases t.data.toList with
  | nil => rfl
  | cons c l => simp
/-- A text, as the reference looks at it. -/
def rtextB (q : Bool) (t o : List UInt8) (n at' : Nat) : Bool := (o.isEmpty && n == 0) && (if at' == 2 then q && !(t == []) else textOK q t at')

set_option maxHeartbeats 1000000 in
set_option maxRecDepth 100000 in
theorem rtext_any (k : Int) (q : Bool) (t o : ByteArray) (a : Option Addr) (n cap at' : Nat) (w : World) (ht : t.size ≤ R) (ha : at' ≤ 2) :
    Calls Tryz.prog 137 #[pv k q t o a n cap, .int .i64 at'] w fun e w' => e = .returned (.bool (rtextB q t.data.toList o.data.toList n at')) ∧ Below w.heap.size w w' := by
  have ht' : t.size ≤ 140737488351232 := ht
  have HOE := Lib.hid (emptyO o)
  have hOE : o.data.toList.isEmpty = o.toList.isEmpty := by rw [Lib.toList_data]
  have HOO := Lib.hid hOE
  clear ht hOE
  unfold pv
  cases he : o.toList.isEmpty
  · have HE := Lib.hid (show rtextB q t.data.toList o.data.toList n at' = false by simp [rtextB, HOO.out, he])
    go_enter Tryz.func137, Tryz.ntmps137
    go_wp2
    go_ret
    exact ⟨ret_bool HE.out.symm, bel1 _ _⟩
  · by_cases hn : n = 0
    · subst hn
      by_cases h2 : at' = 2
      · subst h2
        have HE := Lib.hid (show rtextB q t.data.toList o.data.toList 0 2 = (q && !(t.data.toList == [])) by simp [rtextB, HOO.out, he])
        have hx := posB t
        have HX := Lib.hid hx
        clear hx
        cases q
        · go_enter Tryz.func137, Tryz.ntmps137
          go_wp2
          go_ret
          exact ⟨ret_bool (by rw [HE.out]; rfl), bel1 _ _⟩
        · go_enter Tryz.func137, Tryz.ntmps137
          go_wp2
          go_ret
          exact ⟨ret_bool (by rw [HE.out, ← HX.out]; simp), bel1 _ _⟩
      · have h2' : ((at' : Int) == 2) = false := by simp; omega
        have HE := Lib.hid (show rtextB q t.data.toList o.data.toList 0 at' = textOK q t.data.toList at' by simp [rtextB, HOO.out, he, h2])
        have H01 := Lib.hid (show at' = 0 ∨ at' = 1 by omega)
        clear h2
        cases q
        · go_enter Tryz.func137, Tryz.ntmps137
          go_wp2
          go_loopw [5] (fun i wr => ∃ j : Nat, j ≤ t.size ∧ i = .int .i64 j ∧ (t.data.toList.take j).all (fun c => standsB c.toNat at') = true ∧ wr = w.alloc (.cells #[.int .i64 k, .bool false, .string t, .string o, .slice a 0 cap] 45)) (fun i wr => t.size - (intOf i).toNat)
          case atStart => exact ⟨0, Nat.zero_le _, rfl, rfl, rfl⟩
          case round =>
            obtain ⟨j, hj, rfl, hr, rfl⟩ := hrel
            have HR := Lib.hid hr; clear hr
            by_cases hlt : j < t.size
            · have hlt' : j < t.data.toList.length := by simpa using hlt
              have HG := Lib.hid (congrArg UInt8.toNat (getB hlt))
              have hb := byte_lt t[j]
              rcases H01.out with h0 | h0
              · have hS : standsB t[j].toNat at' = bareB t[j].toNat := by rw [h0]; rfl
                have hz : ((at' : Int) == 0) = true := by simp [h0]
                have hz1 : ((at' : Int) == 1) = false := by simp [h0]
                clear h0
                cases hs : bareB t[j].toNat
                · have HS := Lib.hid (hS.trans hs)
                  clear hS
                  go_wp2_with (go_at_call 153; refine (rbare_any _ hb _).mono ?_; rintro e w' ⟨rfl, rfl⟩)
                  go_ret
                  exact ⟨ret_bool (by rw [HE.out]; simp [textOK, all_no (p := fun c => standsB c.toNat at') hlt' (by rw [← HG.out]; exact HS.out)]), bel1 _ _⟩
                · have HS := Lib.hid (hS.trans hs)
                  clear hS
                  go_wp2_with (go_at_call 153; refine (rbare_any _ hb _).mono ?_; rintro e w' ⟨rfl, rfl⟩)
                  go_roundw
                  case rel => exact ⟨j + 1, by omega, by go_num, all_snoc HR.out hlt' (by rw [← HG.out]; exact HS.out), trivial⟩
                  case measure => simp [intOf]; omega
              · have hz : ((at' : Int) == 0) = false := by simp [h0]
                have hz1 : ((at' : Int) == 1) = true := by simp [h0]
                have hA := fun w1 => among3_any t[j].toNat ⟨#[34, 36, 39, 92, 96, 125]⟩ w1 (by decide)
                rw [show (ByteArray.data ⟨#[34, 36, 39, 92, 96, 125]⟩).toList = stops from rfl, stops_any _ hb, ← h0] at hA
                clear h0
                cases hs : standsB t[j].toNat at'
                · rw [hs] at hA
                  have HA := Lib.hid hA
                  have HS := Lib.hid hs
                  clear hA
                  go_wp2_with (go_at_call 154; refine (HA.out _).mono ?_; rintro e w' ⟨rfl, rfl⟩)
                  go_ret
                  exact ⟨ret_bool (by rw [HE.out]; simp [textOK, all_no (p := fun c => standsB c.toNat at') hlt' (by rw [← HG.out]; exact HS.out)]), bel1 _ _⟩
                · rw [hs] at hA
                  have HA := Lib.hid hA
                  have HS := Lib.hid hs
                  clear hA
                  go_wp2_with (go_at_call 154; refine (HA.out _).mono ?_; rintro e w' ⟨rfl, rfl⟩)
                  go_roundw
                  case rel => exact ⟨j + 1, by omega, by go_num, all_snoc HR.out hlt' (by rw [← HG.out]; exact HS.out), trivial⟩
                  case measure => simp [intOf]; omega
            · obtain rfl : j = t.size := by omega
              have HN := Lib.hid (lenB t)
              have hx := posB t
              have HX := Lib.hid hx
              clear hx
              go_wp2
              go_ret
              exact ⟨ret_bool (by have := HR.out; rw [List.take_of_length_le (by rw [HN.out]; exact Nat.le_refl _)] at this; rw [HE.out]; simp only [textOK, this, ← HX.out]; simp), bel1 _ _⟩
        · go_enter Tryz.func137, Tryz.ntmps137
          go_wp2
          go_ret
          exact ⟨ret_bool (by rw [HE.out]; rcases H01.out with h | h <;> subst h <;> rfl), bel1 _ _⟩
    · have hg : (((n : Nat) : Int) > 0) = True := by simp; omega
      have hg2 : (0 < (n : Int)) = True := by simp; omega
      have hg3 : (0 < n) = True := by simp; omega
      have HE := Lib.hid (show rtextB q t.data.toList o.data.toList n at' = false by simp [rtextB, hn])
      clear hn
      go_enter Tryz.func137, Tryz.ntmps137
      go_wp2
      go_ret
      exact ⟨ret_bool HE.out.symm, bel1 _ _⟩
end Rf
end Go.Proofs.YtgdjeemmklmpfaaGreat
