/- FrameLoops holds: for every row of bytes, every number and every node the call returns true and leaves its input as it was. No condition. -/
import Derived.Test.YtbcldfaphnnmlaaLawP
import Derived.Test.YtbcldfaphnnmlaaFrJ
import Derived.Test.YtbcldfaphnnmlaaFrV
namespace Go.Proofs.Ytbcldfaphnnmlaa
open Go.RowKit Go.WideShapes Go.ChangeShapes Go.ChangeAt
open Go.ChangeMaps (open_string shut_string)
namespace FrameLoops
open Cls Pt Tr Fra
theorem own : ownKnob Try.prog.godebug = none := by kernel_rfl
theorem laidOut : laidOutB Try.prog = true := by kernel_rfl
theorem ncU8 : Try.prog.cellsOf 5 = 1 := by kernel_rfl
theorem ncUs : Try.prog.cellsOf 56 = 1 := by kernel_rfl
theorem nbU8 : Try.prog.bytesOf 5 = 1 := by kernel_rfl
def PB (w : World) (b o : Nat) (n : Nat) : Prop := n < 256 ∧ w.cell? ⟨b, o, none⟩ = some (.int .u8 (n : Int))
section
variable {H : Type} {enc : TypeId × Value → H} {w : World} {base : Nat} {held : Bool}
theorem open_bytes (fuel : Nat) (cs : List Value) (x : DataW H × List MemPlace) (h : DataW.trod enc Try.prog w base (fun _ => true) held fuel 56 cs = some x) (hR : ∀ n ∈ x.1.weights Try.prog 56, n ≤ R) :
    ∃ a cap, ∃ l : List Nat, cs = [.slice a l.length cap] ∧ Sl 1 (PB w) a cap l := by
  refine open_sl 1 1 Try.underlying56 ncU8 (by decide) nbU8 (by decide) (PB w) fuel (fun n _ cs y _ hy _ => ?_) cs x h hR
  obtain ⟨z, e, _, wz⟩ := DataW.trod_int Try.underlying5 hy
  subst e
  obtain ⟨n0, rfl, hn0⟩ : ∃ n : Nat, z = n ∧ n < 256 := ⟨z.toNat, by have := bounds_u8 wz; omega, by have := bounds_u8 wz; omega⟩
  exact ⟨n0, fun b o hc => ⟨hn0, hc 0 _ rfl⟩⟩
end
set_option maxRecDepth 100000 in
theorem lifted (os : Os) (started : os.Started) (H : Type) (enc : TypeId × Value → H) :
    ReturnsInHanded {} Try.checked os 4 .any (Rows.frameLoopsSpec.pre6 enc Try.prog Try.f4 Rows.frameLoopsRow.domain false) (Rows.frameLoopsSpec.post enc Try.prog Try.f4 false true false false) := by
  refine Law.handed_shaped6 (C := Try.checked) own started (by kernel_rfl) Try.func4
    (ChangeSpec.witness_shaped (enc := enc) (C := Try.checked) (os := os) (X := fun _ _ => True) false (World.laidAll Try.prog os []) #[.slice none 0 0, .int .u8 0, .agg #[.int .i64 0, .string ⟨#[]⟩, .bool false, .slice none 0 0, .slice none 0 0, .slice none 0 0, .slice none 0 0, .slice none 0 0]] 8 (World.laidAll_os _ _ _)
      (World.shaped_of_ZipB (by kernel_rfl) (by kernel_rfl)) (by kernel_rfl) (by kernel_rfl) (by kernel_rfl) trivial) ?_
  intro W base args ds gs before hval0 hW hz hsh
  have hval : ∀ (j : Nat) t v, Try.f4.params[j]? = some t → args[j]? = some v → Value.okWide Try.prog W .any base t v := hval0
  have hW' := hW
  obtain ⟨p, q, hA0, hV, rfl, hfz, hnd⟩ := hW
  have hA : DataW.TrodAll enc Try.prog W 0 (fun _ => true) true Try.f4.params.toList args.toList ds p := hA0
  rw [Try.params4] at hA hval hz
  obtain ⟨v0, vs0, d0, ds0, p0, q0, hargs, rfl, rfl, h0, r0⟩ := trodAll_cons hA
  obtain ⟨v1, vs1, d1, ds1, p1, q1, hargs1, rfl, rfl, h1, r1⟩ := trodAll_cons r0
  obtain ⟨v2, vs2, d2, ds2, p2, q2, hargs2, rfl, rfl, h2, r2⟩ := trodAll_cons r1
  obtain ⟨rfl, rfl, rfl⟩ := trodAll_nil r2
  obtain rfl : args = #[v0, v1, v2] := by cases args; simp_all
  obtain ⟨rfl, rfl⟩ := trodVars_none hV
  have hw0 : ∀ n ∈ d0.weights Try.prog 56, n ≤ Pt.R := fun n hn => by
    have := List.all_eq_true.1 hz n (DataW.weights_mem_each (j := 0) rfl rfl n hn)
    rw [show Pt.R = reachBytes from rfl]
    simpa using this
  have hw2 : ∀ n ∈ d2.weights Try.prog 37, n ≤ Pt.R := fun n hn => by
    have := List.all_eq_true.1 hz n (DataW.weights_mem_each (j := 2) rfl rfl n hn)
    rw [show Pt.R = reachBytes from rfl]
    simpa using this
  obtain ⟨a0, len, c0, rfl⟩ := okWide_slice Try.underlying56 (hval 0 56 v0 rfl rfl)
  obtain ⟨fuel, hf⟩ := h0
  obtain ⟨a, cap, ns, e, hs⟩ := open_bytes fuel _ _ hf hw0
  have e' : (Value.slice a0 len c0) = .slice a ns.length cap := by simpa [Value.cells] using e
  injection e' with e1 e2 e3
  subst e1 e2 e3
  obtain ⟨x1, rfl, rfl, rfl, wx1⟩ := open_int Try.underlying5 (hval 1 5 v1 rfl rfl) h1
  obtain ⟨n1, rfl, hn1⟩ : ∃ n : Nat, x1 = n ∧ n < 256 := ⟨x1.toNat, by have := bounds_u8 wx1; omega, by have := bounds_u8 wx1; omega⟩
  obtain ⟨cs, k, nm, g, az, ws, ks, bs, cz, rfl, hi⟩ := node_arg (hval 2 37 v2 rfl rfl) h2 hw2
  obtain ⟨a1, c1, a2, c2, a3, c3, a4, c4, a5, c5, hcs, hh⟩ := hi
  obtain rfl : cs = nodeV k nm g a1 az.length c1 a2 ws.length c2 a3 ks.len c3 a4 bs.length c4 a5 cz.len c5 := Array.ext' hcs
  refine (loops_law W a0 c0 ns (fun j x hx => ?_) hs.2.1 n1 hn1 k nm g az ws ks bs cz a1 c1 a2 c2 a3 c3 a4 c4 a5 c5 hh).mono fun e W' ⟨he, hb⟩ => ?_
  · obtain ⟨b, o, e, hp⟩ := hs.get hx
    have hc := hp.2
    rw [Nat.mul_one] at hc
    exact ⟨hp.1, b, o, e, hc⟩
  subst he
  exact ⟨_, rfl, Law.post (tb := 4) laidOut (by kernel_rfl) (by kernel_rfl) Try.underlying4 rfl hW' rfl hb⟩

theorem said : Rows.FrameLoopsSaid :=
  OpenClaim.holds_of_wide 4 Try.f4 rfl rfl rfl rfl rfl rfl rfl ⟨rfl, rfl, rfl, rfl, rfl⟩ rfl rfl rfl rfl rfl (by kernel_rfl) Try.func4 (by kernel_rfl)
    (of_decide_eq_true (by kernel_rfl)) (by unfold Func.isWrapper; first | (rw [if_pos (by decide +kernel)]; kernel_rfl) | (rw [if_neg (by decide +kernel)]; exact ⟨rfl, rfl⟩))
    (fun os started H enc _ => lifted os started H enc)
end FrameLoops
end Go.Proofs.Ytbcldfaphnnmlaa
