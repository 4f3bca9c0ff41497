/- The n-th loop; Break. -/
import Derived.Test.YtbcldfaphnnmlaaFrO
namespace Go.Proofs.Ytbcldfaphnnmlaa
open Go.RowKit Go.Sort
namespace Fra
open Cls Pt Tr
def outB (r : Option Nat) : Bool := r.isSome
/-- What is there behind Break, and behind Continue. -/
def brkL (l : List IV) (n : Int) : List IV := match brk l n with
  | none => l
  | some i => l.take i
def goL (l : List IV) (n : Int) : List IV := match brk l n with
  | none => l
  | some i => match l[i]? with
    | none => l
    | some x => l.take i ++ [goes x]
set_option maxHeartbeats 1600000 in
theorem nth_any {w : World} {B b : Nat} {v : Value} {l : List IV} (hl : l.length ≤ 100000) (h : Stk w B b v l) (n : Int) (h0 : -9223372036854775808 ≤ n) :
    Calls Try.prog 27 #[.pointer (some ⟨b, 0, none⟩), .int .i64 n] w fun e w' => e = .returned (.int .i64 (upV (brk l n))) ∧ Below w.heap.size w w' := by
  have hL := loops_any hl h
  have HL := Lib.hid hL
  clear hL
  by_cases h1 : n < 1
  · rw [brk_low h1]
    simp only [upV]
    clear h
    go_enter Try.func27, Try.ntmps27
    go_wp2_with fail
    go_ret
    exact ⟨rfl, Below.refl _ _⟩
  by_cases h2 : ((lps l l.length).length : Int) < n
  · rw [brk_high h1 h2]
    simp only [upV]
    clear h
    go_enter Try.func27, Try.ntmps27
    go_wp2_with (go_at_call 20; refine HL.out.mono ?_; rintro e w1 ⟨rfl, hb⟩)
    go_ret
    exact ⟨rfl, hb⟩
  obtain ⟨i, m, rfl, hm, hb, hil⟩ := brk_some h1 h2
  rw [hb]
  simp only [upV]
  have HM := Lib.hid hm
  have hll := lps_len l l.length
  have hml := (List.getElem?_eq_some_iff.1 hm).1
  have HLL := Lib.hid hll; have HML := Lib.hid hml
  have HS := Lib.hid h
  have hcs := fun w1 (hb : Below w.heap.size w w1) => (h.stay hb).cell
  obtain ⟨a, cap, rfl⟩ := own_slice h.own
  have HCS := Lib.hid hcs
  clear hm hb hll hml h hcs
  go_enter Try.func27, Try.ntmps27
  go_wp2_with fail
  refine HL.out.mono ?_
  rintro e w1 ⟨rfl, hb1⟩
  have hc := HCS.out w1 hb1
  have HB1 := Lib.hid hb1
  have hlm : ¬ ((lps l l.length).length : Int) < (m : Int) + 1 := by have := HML.out; omega
  clear hb1
  go_wp2_with fail
  go_loopw [5, 20] (fun at' i wr => ∃ (j q : Nat), j ≤ m + 1 ∧ i = .int .i64 j ∧ at' = .int .i64 q ∧ q ≤ l.length ∧ lps l q = (lps l l.length).drop j ∧ (∀ j', j = j' + 1 → (lps l l.length)[j']? = some q) ∧ Below w.heap.size w wr) (fun _ i _ => m + 1 - (intOf i).toNat)
  case atStart => exact ⟨0, l.length, Nat.zero_le _, rfl, rfl, Nat.le_refl _, rfl, fun j' e => by omega, HB1.out⟩
  case round =>
    obtain ⟨j, q, hj, rfl, rfl, hq, hd, hat, hb⟩ := hrel
    have HD := Lib.hid hd; have HA := Lib.hid hat; have HB := Lib.hid hb
    clear hd hat hb
    by_cases hlt : j < m + 1
    · obtain ⟨q', hq'⟩ : ∃ q', (lps l l.length)[j]? = some q' := ⟨_, List.getElem?_eq_getElem (by have := HML.out; omega)⟩
      have hcons : lps l q = q' :: (lps l l.length).drop (j + 1) := by
        rw [HD.out]
        obtain ⟨hjl, hje⟩ := List.getElem?_eq_some_iff.1 hq'
        rw [← hje]
        exact List.drop_eq_getElem_cons hjl
      obtain ⟨hup, hrest⟩ := lps_up l q q' _ hcons
      have hjb : j ≤ 100000 := by have := HML.out; have := HLL.out; omega
      have hql := lps_lt l _ _ (List.mem_of_getElem? hq')
      have hcall := below_loop hl (HS.out.stay HB.out) q hq
      rw [hup] at hcall
      simp only [upV] at hcall
      have HC := Lib.hid hcall; have HR := Lib.hid hrest; have HQ := Lib.hid hq'
      have hc2 := HCS.out wr HB.out
      have hlt2 : ((j : Int) < (m : Int) + 1) = True := eq_true (by omega)
      clear hcall hrest hq' hcons hup hc
      go_wp2_with (go_at_call 42; refine HC.out.mono ?_; rintro e w2 ⟨rfl, hb2⟩; have HB2 := Lib.hid (HB.out.trans (hb2.mono HB.out.size)); clear hb2)
      go_roundw
      case rel => exact ⟨j + 1, q', by omega, by go_num, rfl, Nat.le_of_lt hql.2, HR.out, fun j' e => (by cases e; exact HQ.out), HB2.out⟩
      case measure => simp [intOf]; omega
    · obtain rfl : j = m + 1 := by omega
      have he : q = i := by
        have := (HA.out m rfl).symm.trans HM.out
        injection this
      subst he
      go_wp2_with fail
      go_ret
      exact ⟨rfl, HB.out⟩
set_option maxHeartbeats 1600000 in
theorem break_any {w : World} {B b : Nat} {v : Value} {l : List IV} (hl : l.length ≤ 100000) (h : Stk w B b v l) (n : Int) (h0 : -9223372036854775808 ≤ n) :
    Calls Try.prog 10 #[.pointer (some ⟨b, 0, none⟩), .int .i64 n] w fun e w' => e = .returned (.bool (outB (brk l n))) ∧ ∃ v', Stk w' B b v' (brkL l n) ∧ Chg w w' b v v' := by
  have H := Lib.hid (nth_any hl h n h0)
  have HS := Lib.hid h
  clear h
  cases hb : brk l n with
  | none =>
    have hr : brkL l n = l := by unfold brkL; rw [hb]
    rw [hr]
    rw [hb] at H
    simp only [upV] at H
    clear hr hb
    go_enter Try.func10, Try.ntmps10
    go_wp2_with (go_at_call 27; refine H.out.mono ?_; rintro e w1 ⟨rfl, hb1⟩; have HB1 := Lib.hid hb1; clear hb1)
    go_ret
    exact ⟨rfl, _, HS.out.stay HB1.out, Chg.of_below HB1.out⟩
  | some i =>
    have hr : brkL l n = l.take i := by unfold brkL; rw [hb]
    rw [hr]
    rw [hb] at H
    simp only [upV] at H
    have hil : i ≤ l.length := by
      unfold brk at hb
      split at hb
      · cases hb
      · exact Nat.le_of_lt (lps_lt l _ _ (List.mem_of_getElem? hb)).2
    clear hr hb
    go_enter Try.func10, Try.ntmps10
    go_wp2_with (first
      | (go_at_call 27; refine H.out.mono ?_; rintro e w1 ⟨rfl, hb1⟩; have HB1 := Lib.hid hb1; clear hb1)
      | (go_at_call 23; refine (cut_any hl (HS.out.stay HB1.out) i hil).mono ?_; rintro e w2 ⟨rfl, v', hs2, hc2⟩; have H2 := Lib.hid hs2; have C2 := Lib.hid hc2; clear hs2 hc2))
    go_ret
    exact ⟨rfl, v', H2.out, (Chg.of_below HB1.out).trans C2.out⟩
end Fra
end Go.Proofs.Ytbcldfaphnnmlaa
