/- The law SigNames, walked by its callees' contracts: it answers true for every number and every text, and what was in memory stays as it was. -/
import Derived.Test.YtpbphdlaccfndaaDoorSigD
import Derived.KernelRfl
namespace Go.Proofs.YtpbphdlaccfndaaDoor
open Go.RowKit
namespace Sig

theorem numUp_int : numUp ⟨#[73, 78, 84]⟩ 31 = 2 := by kernel_rfl
theorem numUp_sigint : numUp ⟨#[83, 73, 71, 73, 78, 84]⟩ 31 = 0 := by kernel_rfl
set_option maxHeartbeats 400000 in
theorem alive_any (w : World) (hn : Names w) :
    Calls Tryd.prog 5 #[] w fun e w' => e = .returned (.bool true) ∧ w = w' := by
  have HN := Lib.hid hn; clear hn
  have hs : (nmB 2).toList = [73, 78, 84] := by rw [nmB, Lib.toList_data]; rfl
  go_enter Tryd.func5, Tryd.ntmps5
  go_wp2_with fail
  refine (number_at _ 2 true _ HN.out numUp_int rfl).mono ?_
  rintro e w' ⟨rfl, rfl⟩
  go_wp2_with fail
  refine (number_at _ 0 false _ HN.out numUp_sigint rfl).mono ?_
  rintro e w' ⟨rfl, rfl⟩
  go_wp2_with fail
  refine (name_any _ _ HN.out).mono ?_
  rintro e w' ⟨rfl, rfl⟩
  go_wp2_with fail
  go_ret
  exact ⟨rfl, rfl⟩
theorem Names.below {w w' : World} (hn : Names w) (hb : Below w.heap.size w w') : Names w' := fun s hs => by
  rw [hb.cell (World.block_lt_of_cell? _ _ (hn s hs))]; exact hn s hs

set_option maxHeartbeats 1000000 in
set_option maxRecDepth 100000 in
theorem names_end0 (s : Int) (t : ByteArray) (w : World) (hn : Names w) (hu : numUp t 31 = 0) (h : endB t = true) :
    Calls Tryd.prog 3 #[.int .i64 s, .string t] w fun e w' => e = .returned (.bool true) ∧ Below w.heap.size w w' := by
  have HN := Lib.hid hn; have HU := Lib.hid hu; have HE := Lib.hid h
  clear hn hu h
  go_enter Tryd.func3, Tryd.ntmps3
  go_wp2_with fail
  refine (alive_any _ HN.out).mono ?_
  rintro e w' ⟨rfl, rfl⟩
  go_wp2_with fail
  refine (number_at _ 0 false _ HN.out HU.out rfl).mono ?_
  rintro e w' ⟨rfl, rfl⟩
  go_wp2_with fail
  refine (cond_end _ _ HE.out).mono ?_
  rintro e w' ⟨rfl, rfl⟩
  go_wp2_with fail
  refine (rnumber_at _ 0 _ HU.out).mono ?_
  rintro e w1 ⟨rfl, hb1⟩
  go_wp2_with fail
  refine (rcond_end _ _ HE.out).mono ?_
  rintro e w2 ⟨rfl, hb2⟩
  have hb12 := hb1.trans (hb2.mono hb1.size)
  have HN2 := Lib.hid (HN.out.below hb12)
  have H12 := Lib.hid hb12
  clear hb1 hb2 hb12
  go_wp2_with (first
    | (go_at_call 10; refine (is_any _ _).mono ?_; rintro e w' ⟨rfl, rfl⟩)
    | (go_at_call 11; refine (ris_any _ _).mono ?_; rintro e w' ⟨rfl, rfl⟩)
    | (go_at_call 12; refine (name_any _ _ HN2.out).mono ?_; rintro e w' ⟨rfl, rfl⟩)
    | (go_at_call 13; refine (rname_any _ _).mono ?_; rintro e w3 ⟨rfl, hb3⟩; have H3 := Lib.hid hb3; clear hb3)
    | (go_at_call 14; refine (mild_any _ _).mono ?_; rintro e w' ⟨rfl, rfl⟩)
    | (go_at_call 15; refine (rmild_any _ _).mono ?_; rintro e w4 ⟨rfl, hb4⟩; have H4 := Lib.hid hb4; clear hb4)
    | (go_at_call 16; refine (fixed_any _ _).mono ?_; rintro e w' ⟨rfl, rfl⟩)
    | (go_at_call 17; refine (rfixed_any _ _).mono ?_; rintro e w5 ⟨rfl, hb5⟩; have H5 := Lib.hid hb5; clear hb5))
  go_ret
  refine ⟨rfl, ?_⟩
  have k3 := H12.out.trans (H3.out.mono H12.out.size)
  have k4 := k3.trans (H4.out.mono k3.size)
  exact k4.trans (H5.out.mono k4.size)
set_option maxHeartbeats 1000000 in
set_option maxRecDepth 100000 in
theorem names_end1 (s : Int) (t : ByteArray) (w : World) (hn : Names w) (n : Nat) (hu : numUp t 31 = n) (h0 : 1 ≤ n) (h : endB t = true) :
    Calls Tryd.prog 3 #[.int .i64 s, .string t] w fun e w' => e = .returned (.bool true) ∧ Below w.heap.size w w' := by
  have HN := Lib.hid hn; have HU := Lib.hid hu; have HE := Lib.hid h
  clear hn hu h
  go_enter Tryd.func3, Tryd.ntmps3
  go_wp2_with fail
  refine (alive_any _ HN.out).mono ?_
  rintro e w' ⟨rfl, rfl⟩
  go_wp2_with fail
  refine (number_at _ n true _ HN.out HU.out (decide_eq_true (by omega))).mono ?_
  rintro e w' ⟨rfl, rfl⟩
  go_wp2_with fail
  refine (cond_end _ _ HE.out).mono ?_
  rintro e w' ⟨rfl, rfl⟩
  go_wp2_with fail
  refine (rnumber_at _ n _ HU.out).mono ?_
  rintro e w1 ⟨rfl, hb1⟩
  go_wp2_with fail
  refine (rcond_end _ _ HE.out).mono ?_
  rintro e w2 ⟨rfl, hb2⟩
  have hb12 := hb1.trans (hb2.mono hb1.size)
  have HN2 := Lib.hid (HN.out.below hb12)
  have H12 := Lib.hid hb12
  clear hb1 hb2 hb12
  go_wp2_with (first
    | (go_at_call 10; refine (is_any _ _).mono ?_; rintro e w' ⟨rfl, rfl⟩)
    | (go_at_call 11; refine (ris_any _ _).mono ?_; rintro e w' ⟨rfl, rfl⟩)
    | (go_at_call 12; refine (name_any _ _ HN2.out).mono ?_; rintro e w' ⟨rfl, rfl⟩)
    | (go_at_call 13; refine (rname_any _ _).mono ?_; rintro e w3 ⟨rfl, hb3⟩; have H3 := Lib.hid hb3; clear hb3)
    | (go_at_call 14; refine (mild_any _ _).mono ?_; rintro e w' ⟨rfl, rfl⟩)
    | (go_at_call 15; refine (rmild_any _ _).mono ?_; rintro e w4 ⟨rfl, hb4⟩; have H4 := Lib.hid hb4; clear hb4)
    | (go_at_call 16; refine (fixed_any _ _).mono ?_; rintro e w' ⟨rfl, rfl⟩)
    | (go_at_call 17; refine (rfixed_any _ _).mono ?_; rintro e w5 ⟨rfl, hb5⟩; have H5 := Lib.hid hb5; clear hb5))
  go_ret
  refine ⟨rfl, ?_⟩
  have k3 := H12.out.trans (H3.out.mono H12.out.size)
  have k4 := k3.trans (H4.out.mono k3.size)
  exact k4.trans (H5.out.mono k4.size)
set_option maxHeartbeats 1000000 in
set_option maxRecDepth 100000 in
theorem names_else0 (s : Int) (t : ByteArray) (w : World) (hn : Names w) (hu : numUp t 31 = 0) (h : endB t = false) :
    Calls Tryd.prog 3 #[.int .i64 s, .string t] w fun e w' => e = .returned (.bool true) ∧ Below w.heap.size w w' := by
  have HN := Lib.hid hn; have HU := Lib.hid hu; have HE := Lib.hid h
  clear hn hu h
  go_enter Tryd.func3, Tryd.ntmps3
  go_wp2_with fail
  refine (alive_any _ HN.out).mono ?_
  rintro e w' ⟨rfl, rfl⟩
  go_wp2_with fail
  refine (number_at _ 0 false _ HN.out HU.out rfl).mono ?_
  rintro e w' ⟨rfl, rfl⟩
  go_wp2_with fail
  refine (cond_else _ 0 false _ HN.out HU.out rfl HE.out).mono ?_
  rintro e w' ⟨rfl, rfl⟩
  go_wp2_with fail
  refine (rnumber_at _ 0 _ HU.out).mono ?_
  rintro e w1 ⟨rfl, hb1⟩
  go_wp2_with fail
  refine (rcond_none _ _ HU.out HE.out).mono ?_
  rintro e w2 ⟨rfl, hb2⟩
  obtain ⟨c, hc⟩ : ∃ c : Int, c = -1 := ⟨_, rfl⟩
  rw [← hc]
  have hmax : ∀ ts t w, (Builtin.max_ ts t #[.int .i64 c, .int .i64 0]).run Tryd.prog w = .ok (.int .i64 0) w := fun ts t w => by rw [run_max_int2, if_pos (by omega)]
  have hc1 : decide (0 ≤ c) = false := decide_eq_false (by omega)
  clear hc
  have hb12 := hb1.trans (hb2.mono hb1.size)
  have HN2 := Lib.hid (HN.out.below hb12)
  have H12 := Lib.hid hb12
  clear hb1 hb2 hb12
  go_wp2_with (first
    | (go_at_call 10; refine (is_any _ _).mono ?_; rintro e w' ⟨rfl, rfl⟩)
    | (go_at_call 11; refine (ris_any _ _).mono ?_; rintro e w' ⟨rfl, rfl⟩)
    | (go_at_call 12; refine (name_any _ _ HN2.out).mono ?_; rintro e w' ⟨rfl, rfl⟩)
    | (go_at_call 13; refine (rname_any _ _).mono ?_; rintro e w3 ⟨rfl, hb3⟩; have H3 := Lib.hid hb3; clear hb3)
    | (go_at_call 14; refine (mild_any _ _).mono ?_; rintro e w' ⟨rfl, rfl⟩)
    | (go_at_call 15; refine (rmild_any _ _).mono ?_; rintro e w4 ⟨rfl, hb4⟩; have H4 := Lib.hid hb4; clear hb4)
    | (go_at_call 16; refine (fixed_any _ _).mono ?_; rintro e w' ⟨rfl, rfl⟩)
    | (go_at_call 17; refine (rfixed_any _ _).mono ?_; rintro e w5 ⟨rfl, hb5⟩; have H5 := Lib.hid hb5; clear hb5))
  go_ret
  refine ⟨rfl, ?_⟩
  have k3 := H12.out.trans (H3.out.mono H12.out.size)
  have k4 := k3.trans (H4.out.mono k3.size)
  exact k4.trans (H5.out.mono k4.size)
set_option maxHeartbeats 1000000 in
set_option maxRecDepth 100000 in
theorem names_else1 (s : Int) (t : ByteArray) (w : World) (hn : Names w) (n : Nat) (hu : numUp t 31 = n) (h0 : 1 ≤ n) (h : endB t = false) :
    Calls Tryd.prog 3 #[.int .i64 s, .string t] w fun e w' => e = .returned (.bool true) ∧ Below w.heap.size w w' := by
  have HN := Lib.hid hn; have HU := Lib.hid hu; have HE := Lib.hid h
  clear hn hu h
  go_enter Tryd.func3, Tryd.ntmps3
  go_wp2_with fail
  refine (alive_any _ HN.out).mono ?_
  rintro e w' ⟨rfl, rfl⟩
  go_wp2_with fail
  refine (number_at _ n true _ HN.out HU.out (decide_eq_true (by omega))).mono ?_
  rintro e w' ⟨rfl, rfl⟩
  go_wp2_with fail
  refine (cond_else _ n true _ HN.out HU.out (decide_eq_true (by omega)) HE.out).mono ?_
  rintro e w' ⟨rfl, rfl⟩
  go_wp2_with fail
  refine (rnumber_at _ n _ HU.out).mono ?_
  rintro e w1 ⟨rfl, hb1⟩
  go_wp2_with fail
  refine (rcond_some _ n _ HU.out h0 HE.out).mono ?_
  rintro e w2 ⟨rfl, hb2⟩
  have hb12 := hb1.trans (hb2.mono hb1.size)
  have HN2 := Lib.hid (HN.out.below hb12)
  have H12 := Lib.hid hb12
  clear hb1 hb2 hb12
  go_wp2_with (first
    | (go_at_call 10; refine (is_any _ _).mono ?_; rintro e w' ⟨rfl, rfl⟩)
    | (go_at_call 11; refine (ris_any _ _).mono ?_; rintro e w' ⟨rfl, rfl⟩)
    | (go_at_call 12; refine (name_any _ _ HN2.out).mono ?_; rintro e w' ⟨rfl, rfl⟩)
    | (go_at_call 13; refine (rname_any _ _).mono ?_; rintro e w3 ⟨rfl, hb3⟩; have H3 := Lib.hid hb3; clear hb3)
    | (go_at_call 14; refine (mild_any _ _).mono ?_; rintro e w' ⟨rfl, rfl⟩)
    | (go_at_call 15; refine (rmild_any _ _).mono ?_; rintro e w4 ⟨rfl, hb4⟩; have H4 := Lib.hid hb4; clear hb4)
    | (go_at_call 16; refine (fixed_any _ _).mono ?_; rintro e w' ⟨rfl, rfl⟩)
    | (go_at_call 17; refine (rfixed_any _ _).mono ?_; rintro e w5 ⟨rfl, hb5⟩; have H5 := Lib.hid hb5; clear hb5))
  go_ret
  refine ⟨rfl, ?_⟩
  have k3 := H12.out.trans (H3.out.mono H12.out.size)
  have k4 := k3.trans (H4.out.mono k3.size)
  exact k4.trans (H5.out.mono k4.size)

/-- THE LAW's CALL: true, for every number and every text. -/
theorem names_any (s : Int) (t : ByteArray) (w : World) (hn : Names w) :
    Calls Tryd.prog 3 #[.int .i64 s, .string t] w fun e w' => e = .returned (.bool true) ∧ Below w.heap.size w w' := by
  by_cases h0 : numUp t 31 = 0
  · cases h : endB t
    · exact names_else0 s t w hn h0 h
    · exact names_end0 s t w hn h0 h
  · cases h : endB t
    · exact names_else1 s t w hn _ rfl (by omega) h
    · exact names_end1 s t w hn _ rfl (by omega) h
end Sig
end Go.Proofs.YtpbphdlaccfndaaDoor
