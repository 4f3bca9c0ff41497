/- TreeTells holds: for any two nodes the call returns true and leaves its input as it was. No condition. -/
import Derived.Test.YtgdjeemmklmpfaaGreatLawP
import Derived.Test.YtgdjeemmklmpfaaGreatRtO
namespace Go.Proofs.YtgdjeemmklmpfaaGreat
open Go.RowKit Go.WideShapes Go.ChangeShapes Go.ChangeAt
open Go.ChangeMaps (open_string shut_string)
namespace TreeTells
open Tr
theorem own : ownKnob Tryz.prog.godebug = none := by kernel_rfl
theorem laidOut : laidOutB Tryz.prog = true := by kernel_rfl
set_option maxRecDepth 100000 in
theorem lifted (os : Os) (started : os.Started) (H : Type) (enc : TypeId × Value → H) :
    ReturnsInHanded {} Tryz.checked os 3 .any (Rows.treeTellsSpec.pre6 enc Tryz.prog Tryz.f3 Rows.treeTellsRow.domain false) (Rows.treeTellsSpec.post enc Tryz.prog Tryz.f3 false true false false) := by
  refine Law.handed_shaped6 (C := Tryz.checked) own started (by kernel_rfl) Tryz.func3
    (ChangeSpec.witness_shaped (enc := enc) (C := Tryz.checked) (os := os) (X := fun _ _ => True) false (World.laidAll Tryz.prog os []) #[.agg #[.int .i64 0, .string ⟨#[]⟩, .bool false, .slice none 0 0, .slice none 0 0, .slice none 0 0, .slice none 0 0, .slice none 0 0], .agg #[.int .i64 0, .string ⟨#[]⟩, .bool false, .slice none 0 0, .slice none 0 0, .slice none 0 0, .slice none 0 0, .slice none 0 0]] 8 (World.laidAll_os _ _ _)
      (World.shaped_of_ZipB (by kernel_rfl) (by kernel_rfl)) (by kernel_rfl) (by kernel_rfl) (by kernel_rfl) trivial) ?_
  intro W base args ds gs before hval0 hW hz hsh
  obtain ⟨m, hm⟩ := Law.maxLen_some hsh
  have hval : ∀ (j : Nat) t v, Tryz.f3.params[j]? = some t → args[j]? = some v → Value.okWide Tryz.prog W .any base t v := hval0
  have hW' := hW
  obtain ⟨p, q, hA0, hV, rfl, hfz, hnd⟩ := hW
  have hA : DataW.TrodAll enc Tryz.prog W 0 (fun _ => true) true Tryz.f3.params.toList args.toList ds p := hA0
  rw [Tryz.params3] at hA hval hz
  obtain ⟨v0, vs0, d0, ds0, p0, q0, hargs, rfl, rfl, h0, r0⟩ := trodAll_cons hA
  obtain ⟨v1, vs1, d1, ds1, p1, q1, hargs1, rfl, rfl, h1, r1⟩ := trodAll_cons r0
  obtain ⟨rfl, rfl, rfl⟩ := trodAll_nil r1
  obtain rfl : args = #[v0, v1] := by cases args; simp_all
  obtain ⟨rfl, rfl⟩ := trodVars_none hV
  have hw0 : ∀ n ∈ d0.weights Tryz.prog 28, n ≤ Pt.R := fun n hn => by
    have := List.all_eq_true.1 hz n (DataW.weights_mem_each (j := 0) rfl rfl n hn)
    rw [show Pt.R = reachBytes from rfl]
    simpa using this
  have hw1 : ∀ n ∈ d1.weights Tryz.prog 28, n ≤ Pt.R := fun n hn => by
    have := List.all_eq_true.1 hz n (DataW.weights_mem_each (j := 1) rfl rfl n hn)
    rw [show Pt.R = reachBytes from rfl]
    simpa using this
  obtain ⟨cs, k, nm, g, az, ws, ks, bs, cz, rfl, hi⟩ := node_arg (hval 0 28 v0 rfl rfl) h0 hw0
  obtain ⟨cs', k', nm', g', az', ws', ks', bs', cz', rfl, hi'⟩ := node_arg (hval 1 28 v1 rfl rfl) h1 hw1
  obtain ⟨a1, c1, a2, c2, a3, c3, a4, c4, a5, c5, hcs, hh⟩ := hi
  obtain ⟨b1, e1, b2, e2, b3, e3, b4, e4, b5, e5, hcs', hh'⟩ := hi'
  obtain rfl : cs = nodeV k nm g a1 az.length c1 a2 ws.length c2 a3 ks.len c3 a4 bs.length c4 a5 cz.len c5 := Array.ext' hcs
  obtain rfl : cs' = nodeV k' nm' g' b1 az'.length e1 b2 ws'.length e2 b3 ks'.len e3 b4 bs'.length e4 b5 cz'.len e5 := Array.ext' hcs'
  refine (tells_walk k nm g az ws ks bs cz k' nm' g' az' ws' ks' bs' cz' a1 c1 a2 c2 a3 c3 a4 c4 a5 c5 b1 e1 b2 e2 b3 e3 b4 e4 b5 e5 m W hh hh' hm).mono fun e W' ⟨he, hb⟩ => ?_
  subst he
  exact ⟨_, rfl, Law.post (tb := 4) laidOut (by kernel_rfl) (by kernel_rfl) Tryz.underlying4 rfl hW' rfl hb⟩

theorem said : Rows.TreeTellsSaid :=
  OpenClaim.holds_of_wide 3 Tryz.f3 rfl rfl rfl rfl rfl rfl rfl ⟨rfl, rfl, rfl, rfl, rfl⟩ rfl rfl rfl rfl rfl (by kernel_rfl) Tryz.func3 (by kernel_rfl)
    (of_decide_eq_true (by kernel_rfl)) (by unfold Func.isWrapper; first | (rw [if_pos (by decide +kernel)]; kernel_rfl) | (rw [if_neg (by decide +kernel)]; exact ⟨rfl, rfl⟩))
    (fun os started H enc _ => lifted os started H enc)
end TreeTells
end Go.Proofs.YtgdjeemmklmpfaaGreat
