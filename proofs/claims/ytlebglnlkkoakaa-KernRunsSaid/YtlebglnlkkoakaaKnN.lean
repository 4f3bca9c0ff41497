/- The alive check of kern's laws. -/
import Derived.Test.YtlebglnlkkoakaaKnM
import Derived.KernelRfl
namespace Go.Proofs.Ytlebglnlkkoakaa
open Go.RowKit Go.Maps
namespace Kn
def tA : T := (fork (newT 0) 1).1
def tB : T := (send Sig.mildB tA 2 15).1
def tC : T := (reap tB 1 2).1
theorem eA : (fork (newT 0) 1).2 = (2, 0) := by kernel_rfl
theorem eB : (send Sig.mildB tA 2 15).2 = true := by kernel_rfl
theorem eC : (reap tB 1 2).2 = (143, true) := by kernel_rfl
theorem eD : tC.l.length = 1 := by kernel_rfl
set_option maxRecDepth 8000 in
set_option maxHeartbeats 1600000 in
theorem alive_law (w : World) : Calls Try.prog 6 #[] w fun e w' => e = .returned (.bool true) ∧ Below w.heap.size w w' := by
  have i1 : I64 1 := by unfold I64; omega
  have i2 : I64 2 := by unfold I64; omega
  have HN := Lib.hid (new_any 0 (by decide) w)
  have I0 := Lib.hid (inv_new (x := 0) (by decide))
  go_enter Try.func6, Try.ntmps6
  go_wp2_with fail
  refine HN.out.mono ?_
  rintro e w1 ⟨h, rfl, T1, hb1⟩
  have HF := Lib.hid (fork_any T1 I0.out.ok I0.out.sets (by decide) (by decide) hb1.size 1 i1)
  have HT1 := Lib.hid T1; have HB1 := Lib.hid hb1
  rw [eA] at HF
  clear T1 hb1 HN
  go_wp2_with fail
  refine HF.out.mono ?_
  rintro e w2 ⟨rfl, h2, e2, T2, G2⟩
  have hb2 : Below w.heap.size w w2 := HB1.out.trans (G2.below HT1.out HB1.out.size)
  have I2 := I0.out.fork 1
  have HF := Lib.hid (send_any T2 I2.ok I2.par I2.sets (by decide +kernel) hb2.size (by decide +kernel) 2 15 i2)
  have HS := Lib.hid eB
  rw [show send Sig.mildB (fork (newT 0) 1).1 2 15 = send Sig.mildB tA 2 15 from rfl, eB, e2] at HF
  have HT2 := Lib.hid T2; have HB2 := Lib.hid hb2; have HE2 := Lib.hid e2; have HI2 := Lib.hid I2
  clear T2 hb2 G2 e2 I2
  go_wp2_with fail
  refine HF.out.mono ?_
  rintro e w3 ⟨rfl, h3, e3, T3, G3⟩
  have hb3 : Below w.heap.size w w3 := HB2.out.trans (G3.below HT2.out HB2.out.size)
  have I3 : Inv 2 tB := HI2.out.send 2 15
  have T3 : Tb w3 w.heap.size h3 tB := T3
  have HF := Lib.hid (reap_any T3 I3.ok 1 2 i1 i2)
  rw [eC, e3, HE2.out] at HF
  have HT3 := Lib.hid T3; have HB3 := Lib.hid hb3; have HE3 := Lib.hid (e3.trans HE2.out); have HI3 := Lib.hid I3
  clear T3 hb3 G3 e3 I3
  go_wp2_with fail
  refine HF.out.mono ?_
  rintro e w4 ⟨rfl, h4, e4, T4, G4⟩
  have hb4 : Below w.heap.size w w4 := HB3.out.trans (G4.below HT3.out HB3.out.size)
  have HF := Lib.hid (len_any T4)
  rw [show (reap tB 1 2).1.l.length = 1 from eD, e4, HE3.out] at HF
  have HB4 := Lib.hid hb4
  clear T4 hb4 G4 e4
  go_wp2_with (go_at_call 30; refine HF.out.mono ?_; rintro e w' ⟨rfl, rfl⟩)
  go_ret
  exact ⟨rfl, HB4.out⟩
end Kn
end Go.Proofs.Ytlebglnlkkoakaa
