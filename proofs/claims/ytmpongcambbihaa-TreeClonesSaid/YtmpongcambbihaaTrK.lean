/- rightAt's second closure; cases that are right. -/
import Derived.Test.YtmpongcambbihaaTrJ
namespace Go.Proofs.Ytmpongcambbihaa
open Go.RowKit Go.Sort
namespace Tr
open Cls Pt

/-- The closures' memory: where the depth lies, and where the first closure. -/
def Clo (w : World) (pb pf d : Nat) : Prop := w.cell? ⟨pb, 0, none⟩ = some (.int .i64 d) ∧ w.cell? ⟨pf, 0, none⟩ = some (.func (.func 38) #[] #[.pointer (some ⟨pb, 0, none⟩)])
theorem Clo.below {w w' : World} {pb pf d : Nat} (h : Clo w pb pf d) (hb : Below w.heap.size w w') : Clo w' pb pf d := ⟨cell_below hb h.1, cell_below hb h.2⟩

set_option maxHeartbeats 800000 in
set_option maxRecDepth 100000 in
theorem close2_any (n : Nat) (hR : RightAt n) (la : NL) (hn : la.size ≤ n) (hok : NL.okN la true = true) (hfit : fitN la) (d pb pf : Nat) (hd : d ≤ 201) (a : Option Addr) (ca : Nat) (m : Int) (w : World) (hla : NLies w a ca la) (hm : w.cell? ⟨0, 0, none⟩ = some (.int .i64 m)) (hc : Clo w pb pf d) :
    Calls Try.prog 47 #[.slice a la.len ca, .pointer (some ⟨pf, 0, none⟩)] w fun e w' => e = .returned (.bool (allS bodyB la && rt la d)) ∧ Below w.heap.size w w' := by
  have hA := all_body n hR la hn hok hfit d pb hd a ca m w hla hm hc.1
  have c2 := hc.2
  have HA := Lib.hid hA
  clear hA hR hla hm hc hok hfit
  go_enter Try.func47, Try.ntmps47
  go_wp2_with (go_at_call 38; refine (HA.out).mono ?_; rintro e w1 ⟨rfl, hb⟩)
  go_ret
  exact ⟨rfl, by assumption⟩

set_option maxHeartbeats 1600000 in
set_option maxRecDepth 100000 in
theorem rightCases_any (n : Nat) (hR : RightAt n) (la : NL) (hn : la.size ≤ n) (hok : NL.okN la false = true) (hfit : fitN la) (d pb pf : Nat) (hd : d ≤ 201) (a : Option Addr) (ca : Nat) (m : Int) (w : World) (hla : NLies w a ca la) (hm : w.cell? ⟨0, 0, none⟩ = some (.int .i64 m)) (hc : Clo w pb pf d) :
    Calls Try.prog 46 #[.slice a la.len ca, .func (.func 47) #[] #[.pointer (some ⟨pf, 0, none⟩)]] w fun e w' => e = .returned (.bool (rt la d)) ∧ Below w.heap.size w w' := by
  have hle := hla.le
  have HR := Lib.hid hR; have HOK := Lib.hid hok; have HFIT := Lib.hid hfit; have HA := Lib.hid hla; have HM := Lib.hid hm; have HC := Lib.hid hc
  clear hR hok hfit hla hm hc
  go_enter Try.func46, Try.ntmps46
  go_wp2
  go_loopw [9] (fun x wr => ∃ k : Nat, k ≤ la.len ∧ x = .int .i64 k ∧ rt la d = rt (la.drop k) d ∧ Below w.heap.size w wr) (fun x wr => la.len - (intOf x).toNat)
  case atStart => exact ⟨0, Nat.zero_le _, rfl, rfl, Below.refl _ _⟩
  case round =>
    obtain ⟨k, hk, rfl, hr, hbw⟩ := hrel
    have HRL := Lib.hid hr; have HW := Lib.hid hbw
    clear hr hbw
    by_cases hlt : k < la.len
    · obtain ⟨ps, bd, r1, hd1⟩ := NL.drop_case hlt HOK.out
      obtain ⟨b1, o1, rfl, hb1, x1, d1, y1, f1, c10, c11, s1, n1, k1⟩ := (HA.out.below HW.out).getC HOK.out hd1
      have hsz : bd.size ≤ n := by
        have := NL.drop_size k la
        rw [hd1] at this
        simp only [NL.size] at this
        omega
      have hf1 := fit_drop k la HFIT.out
      rw [hd1] at hf1
      have hb0 := bel1 wr (.cells #[.slice x1 ps.length d1, .slice y1 bd.len f1] 44)
      have hrow : (wr.alloc (.cells #[.slice x1 ps.length d1, .slice y1 bd.len f1] 44)).heap[wr.heap.size]? = some (.cells #[.slice x1 ps.length d1, .slice y1 bd.len f1] 44 (0, 0)) := heap_new' _ _
      have hlt0 : wr.heap.size < (wr.alloc (.cells #[.slice x1 ps.length d1, .slice y1 bd.len f1] 44)).heap.size := by simp only [World.size_alloc]; omega
      have hC1 := rightWords_any ps x1 d1 (wr.alloc (.cells #[.slice x1 ps.length d1, .slice y1 bd.len f1] 44)) (sl_below (P := PW) (fun h => h.below hb0) s1)
      have hC2 := fun w' (hb : Below wr.heap.size wr w') => close2_any n HR.out bd hsz k1 hf1.1 d pb pf hd y1 f1 m w' (n1.below hb) (cell_below (thru HW.out hb) HM.out) (HC.out.below (thru HW.out hb))
      have hstep : rt la d = ((!ps.isEmpty && ps.all rightW && decide (bd.len ≤ 1) && (allS bodyB bd && rt bd d)) && rt r1 d) := by rw [HRL.out, hd1]; rfl
      have hnx := NL.drop_succC hd1
      generalize (allS bodyB bd && rt bd d) = B2 at hC2 hstep
      have hHB := fun w1 (h : Below (wr.alloc (.cells #[.slice x1 ps.length d1, .slice y1 bd.len f1] 44)).heap.size (wr.alloc (.cells #[.slice x1 ps.length d1, .slice y1 bd.len f1] 44)) w1) => (show w1.cell? ⟨wr.heap.size, 1, none⟩ = some (.slice y1 bd.len f1) from Lib.cell_of_heap ((h.block _ hlt0).trans hrow) 1)
      have HT := Lib.hid hstep; have HNX := Lib.hid hnx; have HC1 := Lib.hid hC1; have HC2 := Lib.hid hC2; have HB0 := Lib.hid hb0; have HCELL := Lib.hid hHB
      have hnle := n1.le
      clear hstep hnx hC1 hC2 hb0 hrow hlt0 n1 hd1 hf1 hHB
      by_cases he : ps.length = 0
      · have hz : ((ps.length : Int) == 0) = true := by simp [he]
        have hpe : ps.isEmpty = true := by
          rw [List.isEmpty_iff]; exact List.length_eq_zero_iff.1 he
        have HPE := Lib.hid hpe
        clear he hpe s1 HC1 HC2
        go_wp2_with fail
        go_ret
        exact ⟨ret_bool (by rw [HT.out, HPE.out]; rfl), thru HW.out HB0.out⟩
      · have hz : ((ps.length : Int) == 0) = false := by rw [beq_eq_false_iff_ne]; omega
        have hpe : ps.isEmpty = false := by
          cases ps with
          | nil => exact absurd rfl he
          | cons => rfl
        have HPE := Lib.hid hpe
        clear he hpe s1
        cases hw : ps.all rightW
        · rw [hw] at HC1 HT
          clear hw
          go_wp2_with (go_at_call 45; refine (HC1.out).mono ?_; rintro e w1 ⟨rfl, hb⟩)
          go_ret
          exact ⟨ret_bool (by rw [HT.out, HPE.out]; rfl), thru HW.out (thru HB0.out (by assumption))⟩
        · rw [hw] at HC1 HT
          clear hw
          by_cases h1 : 1 < bd.len
          · have hgt : (1 < bd.len) = True := by simp [h1]
            have hdl : decide (bd.len ≤ 1) = false := decide_eq_false (by omega)
            have HDL := Lib.hid hdl
            clear hdl
            go_wp2_with (go_at_call 45; refine (HC1.out).mono ?_; rintro e w1 ⟨rfl, hb⟩; have q1 := HCELL.out _ hb)
            go_ret
            exact ⟨ret_bool (by rw [HT.out, HPE.out, HDL.out]; rfl), thru HW.out (thru HB0.out (by assumption))⟩
          · have hgt : (1 < bd.len) = False := by simp; omega
            have hdl : decide (bd.len ≤ 1) = true := decide_eq_true (by omega)
            have HDL := Lib.hid hdl
            clear hdl
            cases B2
            all_goals
              go_wp2_with (first
                | (go_at_call 45; refine (HC1.out).mono ?_; rintro e w1 ⟨rfl, hb⟩; have q1 := HCELL.out _ hb; have hbb := thru HB0.out hb)
                | (go_at_call 47; refine (HC2.out _ (by assumption)).mono ?_; rintro e w2 ⟨rfl, hb2⟩))
            · go_ret
              exact ⟨ret_bool (by rw [HT.out, HPE.out, HDL.out]; rfl), thru HW.out (thru (by assumption) (by assumption))⟩
            · go_roundw
              case rel => exact ⟨k + 1, by omega, by go_num, by rw [HT.out, HPE.out, HDL.out, HNX.out]; rfl, thru HW.out (thru (by assumption) (by assumption))⟩
              case measure => simp [intOf]; omega
    · obtain rfl : k = la.len := by omega
      go_wp2
      go_ret
      exact ⟨ret_bool (by rw [HRL.out, NL.drop_end (Nat.le_refl _)]; rfl), HW.out⟩
end Tr
end Go.Proofs.Ytmpongcambbihaa
