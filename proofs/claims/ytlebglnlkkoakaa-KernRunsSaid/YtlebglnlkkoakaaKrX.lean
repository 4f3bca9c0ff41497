/- KernRuns's arguments, out of what they read as. -/
import Derived.Test.YtlebglnlkkoakaaKrW
import Derived.SliceStrings
import Derived.ProofKit
import Derived.OpenShut
namespace Go.Proofs.Ytlebglnlkkoakaa
open Go.RowKit Go.Maps Go.WideShapes
namespace Kn
theorem cellsI : Try.prog.cellsOf 3 = 1 := by kernel_rfl
theorem cellsAct : Try.prog.cellsOf 35 = 6 := by kernel_rfl
theorem i64_wf {x : Int} (h : (Lit.int .i64 x).wf = true) : I64 x := bounds_i64 h
section
variable {H : Type} {enc : TypeId × Value → H} {w : World} {base : Nat} {held : Bool}
set_option maxHeartbeats 1000000 in
set_option maxRecDepth 100000 in
/-- A slice of acts. -/
theorem open_acts {ty : TypeId} (hty : Try.prog.underlying ty = some (.slice 35)) {fuel : Nat} {v : Value} {x : DataW H × List MemPlace} (h : DataW.trod enc Try.prog w base (fun _ => true) held fuel ty [v] = some x) :
    ∃ a cap l, v = .slice a (List.length l) cap ∧ Acts w a l := by
  rcases DataW.trod_slice hty h with ⟨hv, rfl⟩ | ⟨a, len, cap, elems, rest, n, rfl, hv, rfl, hb, hl, hm, hlen, hel, hsp, hns⟩
  · cases hv
    exact ⟨none, 0, [], rfl, fun j x hj => by simp at hj⟩
  · cases hv
    obtain ⟨b, off, spot⟩ := a
    have hlen' : len ≤ elems.length := by omega
    have hsp0 : len = 0 ∨ spot = none := by
      rcases Nat.eq_zero_or_pos len with h0 | h0
      · exact .inl h0
      · right
        have he := hel 0 h0
        rw [List.getElem?_eq_getElem (by omega)] at he
        obtain ⟨cs', hcs, _⟩ := Option.bind_eq_some_iff.1 he
        rw [cellsAct] at hcs
        obtain ⟨_, hl5, hcell⟩ := World.cells?_some hcs
        have h1 := hcell 0 (by omega)
        rw [List.getElem?_eq_getElem (by omega)] at h1
        simpa [Addr.add] using World.cell?_spot h1
    have each : ∀ i, ∃ p : Ac, i < len → spot = none ∧ b < w.heap.size ∧ w.cell? ⟨b, off + 6 * i, none⟩ = some (.int .i64 p.kind) ∧ w.cell? ⟨b, off + 6 * i + 1, none⟩ = some (.int .i64 p.pid) ∧ w.cell? ⟨b, off + 6 * i + 2, none⟩ = some (.int .i64 p.ot) ∧
        w.cell? ⟨b, off + 6 * i + 3, none⟩ = some (.int .i64 p.s) ∧ w.cell? ⟨b, off + 6 * i + 4, none⟩ = some (.int .i64 p.st) ∧ w.cell? ⟨b, off + 6 * i + 5, none⟩ = some (.int .i64 p.how) ∧ I64 p.pid ∧ I64 p.ot ∧ I64 p.st := by
      intro i
      by_cases hi : i < len
      · have he := hel i hi
        have hie : i < elems.length := by omega
        rw [List.getElem?_eq_getElem hie] at he
        obtain ⟨cs', hcs, hy⟩ := Option.bind_eq_some_iff.1 he
        rw [cellsAct] at hcs
        obtain ⟨_, hl2, hcell⟩ := World.cells?_some hcs
        obtain ⟨ys, m, rfl, hy2, _, hys, hf⟩ := DataW.trod_struct Try.underlying35 hy
        obtain ⟨v0, v1, v2, v3, v4, v5, rfl⟩ : ∃ v0 v1 v2 v3 v4 v5, cs' = [v0, v1, v2, v3, v4, v5] := by
          match cs', hl2 with
          | [v0, v1, v2, v3, v4, v5], _ => exact ⟨v0, v1, v2, v3, v4, v5, rfl⟩
        obtain ⟨y0, y1, y2, y3, y4, y5, rfl⟩ : ∃ y0 y1 y2 y3 y4 y5, ys = [y0, y1, y2, y3, y4, y5] := by
          match ys, hys with
          | [y0, y1, y2, y3, y4, y5], _ => exact ⟨y0, y1, y2, y3, y4, y5, rfl⟩
        have g0 : DataW.trod enc Try.prog w base (fun _ => true) held m 3 (List.take (Try.prog.cellsOf 3) (List.drop 0 [v0, v1, v2, v3, v4, v5])) = some y0 := hf 0 _ rfl
        rw [cellsI] at g0
        have g1 : DataW.trod enc Try.prog w base (fun _ => true) held m 3 (List.take (Try.prog.cellsOf 3) (List.drop 1 [v0, v1, v2, v3, v4, v5])) = some y1 := hf 1 _ rfl
        rw [cellsI] at g1
        have g2 : DataW.trod enc Try.prog w base (fun _ => true) held m 3 (List.take (Try.prog.cellsOf 3) (List.drop 2 [v0, v1, v2, v3, v4, v5])) = some y2 := hf 2 _ rfl
        rw [cellsI] at g2
        have g3 : DataW.trod enc Try.prog w base (fun _ => true) held m 3 (List.take (Try.prog.cellsOf 3) (List.drop 3 [v0, v1, v2, v3, v4, v5])) = some y3 := hf 3 _ rfl
        rw [cellsI] at g3
        have g4 : DataW.trod enc Try.prog w base (fun _ => true) held m 3 (List.take (Try.prog.cellsOf 3) (List.drop 4 [v0, v1, v2, v3, v4, v5])) = some y4 := hf 4 _ rfl
        rw [cellsI] at g4
        have g5 : DataW.trod enc Try.prog w base (fun _ => true) held m 3 (List.take (Try.prog.cellsOf 3) (List.drop 5 [v0, v1, v2, v3, v4, v5])) = some y5 := hf 5 _ rfl
        rw [cellsI] at g5
        simp only [List.drop, List.take] at g0 g1 g2 g3 g4 g5
        obtain ⟨z0, e0, _, wz0⟩ := DataW.trod_int Try.underlying3 g0
        obtain ⟨z1, e1, _, wz1⟩ := DataW.trod_int Try.underlying3 g1
        obtain ⟨z2, e2, _, wz2⟩ := DataW.trod_int Try.underlying3 g2
        obtain ⟨z3, e3, _, wz3⟩ := DataW.trod_int Try.underlying3 g3
        obtain ⟨z4, e4, _, wz4⟩ := DataW.trod_int Try.underlying3 g4
        obtain ⟨z5, e5, _, wz5⟩ := DataW.trod_int Try.underlying3 g5
        simp only [List.cons.injEq, and_true] at e0 e1 e2 e3 e4 e5
        subst e0; subst e1; subst e2; subst e3; subst e4; subst e5
        obtain rfl : spot = none := hsp0.resolve_left (by omega)
        have hcell' : ∀ j u, [Value.int .i64 z0, Value.int .i64 z1, Value.int .i64 z2, Value.int .i64 z3, Value.int .i64 z4, Value.int .i64 z5][j]? = some u → w.cell? ⟨b, off + i * 6 + j, none⟩ = some u := fun j u hu => by
          have hi3 : j < 6 := by have := (List.getElem?_eq_some_iff.1 hu).1; simpa using this
          have := (hcell j hi3).trans hu
          rwa [add_plain, add_plain] at this
        have h0 := hcell' 0 _ rfl
        refine ⟨⟨z0, z1, z2, z3, z4, z5⟩, fun _ => ⟨rfl, World.block_lt_of_cell? w _ h0, ?_, ?_, ?_, ?_, ?_, ?_, i64_wf wz1, i64_wf wz2, i64_wf wz4⟩⟩
        · rw [Nat.mul_comm]; exact h0
        · rw [Nat.mul_comm]; exact hcell' 1 _ rfl
        · rw [Nat.mul_comm]; exact hcell' 2 _ rfl
        · rw [Nat.mul_comm]; exact hcell' 3 _ rfl
        · rw [Nat.mul_comm]; exact hcell' 4 _ rfl
        · rw [Nat.mul_comm]; exact hcell' 5 _ rfl
      · exact ⟨⟨0, 0, 0, 0, 0, 0⟩, fun h => absurd h hi⟩
    obtain ⟨f, hf⟩ := Classical.axiomOfChoice each
    refine ⟨some ⟨b, off, spot⟩, cap, (List.range len).map f, by simp, ?_⟩
    intro j p hj
    rw [List.getElem?_map] at hj
    obtain ⟨i, hi, rfl⟩ := Option.map_eq_some_iff.1 hj
    have hjl : j < len := by have := (List.getElem?_eq_some_iff.1 hi).1; simpa using this
    rw [List.getElem?_range hjl] at hi; cases hi
    obtain ⟨rfl, r⟩ := hf j hjl
    exact ⟨b, off, rfl, r⟩
set_option maxRecDepth 100000 in
/-- An argument that is acts. -/
theorem acts_arg {W : World} {v : Value} {d : DataW H} {p : List MemPlace} (hv : Value.okWide Try.prog W .any base 24 v) (h : DataW.Trod enc Try.prog W 0 (fun _ => true) true 24 v d p) :
    ∃ a cap l, v = .slice a (List.length l) cap ∧ Acts W a l := by
  obtain ⟨a0, len, cap, rfl⟩ := okWide_slice Try.underlying24 hv
  obtain ⟨fuel, hf⟩ := h
  exact open_acts Try.underlying24 (v := .slice a0 len cap) (by simpa [Value.cells] using hf)
end
end Kn
end Go.Proofs.Ytlebglnlkkoakaa
