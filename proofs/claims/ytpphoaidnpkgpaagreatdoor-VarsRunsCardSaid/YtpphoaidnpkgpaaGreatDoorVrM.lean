/- varsAlive: the chapter's example. -/
import Derived.Test.YtpphoaidnpkgpaaGreatDoorVrL
namespace Go.Proofs.YtpphoaidnpkgpaaGreatDoor
open Go.RowKit Go.Maps Cls
namespace Vr

def s0 : St := ⟨[], [], 0, 0⟩
theorem fit0 : Fit s0 := ⟨Srt.nil, by simp [s0], by simp [s0], by simp [s0, Lib.join], by simp [s0], by simp [s0], by simp [s0], by simp [s0]⟩
def sAB : St := ⟨[], [tx [97], tx [98]], 0, 0⟩
theorem fitAB : Fit sAB := ⟨Srt.nil, by simp [sAB], by simp [sAB], by decide, by simp [sAB], by simp [sAB], by simp [sAB], by simp [sAB]⟩
theorem valAB2 : val sAB ⟨#[50]⟩ = some (tx [98]) := by decide
theorem valABs : val sAB ⟨#[42]⟩ = some (tx [97, 32, 98]) := by decide
theorem valAB3 : val sAB ⟨#[51]⟩ = none := by decide
theorem sc_new (w : World) : Sc (w.alloc (.cells #[.map none, .slice none 0 0, .int .i64 0, .int .i64 0] 28)) w.heap.size w.heap.size s0 (.map none) (.slice none 0 0) :=
  ⟨heap_alloc_new w _, Nat.le_refl _, .inl ⟨rfl, rfl⟩, .inl ⟨rfl, rfl⟩⟩
theorem below_alloc (w : World) (o : Obj) : Below w.heap.size w (w.alloc o) := (Below.refl _ w).alloc (Nat.le_refl _) o
set_option maxRecDepth 4000 in
set_option maxHeartbeats 1000000 in
theorem alive_any (w : World) (ht : Tab w) : Calls Tryz.prog 4 #[] w fun e w' => e = .returned (.bool true) ∧ Below w.heap.size w w' := by
  have hsc := (sc_new w).stay (below_alloc _ (.cells #[.string ⟨#[97]⟩, .string ⟨#[98]⟩] 9))
  have htx : Txt ((w.alloc (.cells #[.map none, .slice none 0 0, .int .i64 0, .int .i64 0] 28)).alloc (.cells #[.string ⟨#[97]⟩, .string ⟨#[98]⟩] 9)) (.slice (some ⟨w.heap.size + 1, 0, none⟩) 2 2) [tx [97], tx [98]] := by
    have hn := heap_alloc_new (w.alloc (.cells #[.map none, .slice none 0 0, .int .i64 0, .int .i64 0] 28)) (.cells #[.string ⟨#[97]⟩, .string ⟨#[98]⟩] 9)
    rw [World.size_alloc] at hn
    refine .inr ⟨_, 0, 2, rfl, by decide, by simp [World.size_alloc], fun j x hj => ?_⟩
    rw [cell_of_row _ _ _ _ _ _ hn]
    match j, hj with
    | 0, hj => cases hj; rfl
    | 1, hj => cases hj; rfl
  have hlow : Below w.heap.size w ((w.alloc (.cells #[.map none, .slice none 0 0, .int .i64 0, .int .i64 0] 28)).alloc (.cells #[.string ⟨#[97]⟩, .string ⟨#[98]⟩] 9)) := (below_alloc w _).trans ((below_alloc _ _).mono (by simp [World.size_alloc]))
  have HSC := Lib.hid hsc; have HTX := Lib.hid htx; have HLOW := Lib.hid hlow; have HT := Lib.hid ht
  clear hsc htx hlow ht
  have q1 : ((tx [98]).toList == [98]) = true := by rw [tests, bs_tx]; rfl
  have q2 : ((tx [97, 32, 98]).toList == [97, 32, 98]) = true := by rw [tests, bs_tx]; rfl
  have tok1 : True := trivial
  have tok2 : True := trivial
  have tok3 : True := trivial
  go_enter Tryz.func4, Tryz.ntmps4
  go_wp2_with (first
    | (go_at_call 9; refine (setArgs_any s0 w.heap.size w.heap.size [tx [97], tx [98]] _ _ _ _ HSC.out (by simp [World.size_alloc]; omega) HTX.out (by decide)).mono ?_; rintro e w1 ⟨rfl, av1, hsc1, hkp1, hown1⟩
       have hb1 := Lib.hid (HLOW.out.trans (hkp1.below (B := w.heap.size) (by simp [World.size_alloc]; omega) (Nat.le_refl _) (fun _ h => by cases h) (fun _ h => by cases h)))
       have HSC1 := Lib.hid hsc1
       clear hsc1 hkp1 hown1)
    | (go_at_call 16; have _t := tok1; refine (get_any sAB w.heap.size w.heap.size ⟨#[50]⟩ _ _ _ HSC1.out (HT.out.stay hb1.out) fitAB (by decide)).mono ?_; rintro e w2 ⟨rfl, hb2⟩; rw [valAB2]; have HB2 := Lib.hid hb2; clear tok1 hb2)
    | (go_at_call 16; have _t := tok2; refine (get_any sAB w.heap.size w.heap.size ⟨#[42]⟩ _ _ _ (HSC1.out.stay HB2.out) ((HT.out.stay hb1.out).stay HB2.out) fitAB (by decide)).mono ?_; rintro e w3 ⟨rfl, hb3⟩; rw [valABs]; have HB3 := Lib.hid hb3; clear tok2 hb3)
    | (go_at_call 16; have _t := tok3; refine (get_any sAB w.heap.size w.heap.size ⟨#[51]⟩ _ _ _ ((HSC1.out.stay HB2.out).stay HB3.out) (((HT.out.stay hb1.out).stay HB2.out).stay HB3.out) fitAB (by decide)).mono ?_; rintro e w4 ⟨rfl, hb4⟩; rw [valAB3]; have HB4 := Lib.hid hb4; clear tok3 hb4))
  go_ret
  refine ⟨rfl, ?_⟩
  have a1 := hb1.out; have a2 := HB2.out; have a3 := HB3.out; have a4 := HB4.out
  exact ((a1.trans (a2.mono a1.size)).trans (a3.mono (Nat.le_trans a1.size a2.size))).trans (a4.mono (Nat.le_trans (Nat.le_trans a1.size a2.size) a3.size))
end Vr
end Go.Proofs.YtpphoaidnpkgpaaGreatDoor
