/- VarsRuns's arguments, out of what they read as. -/
import Derived.Test.YtpphoaidnpkgpaaGreatDoorVrXa
import Derived.Test.YtpphoaidnpkgpaaGreatDoorRows
import Derived.SliceStrings
import Derived.ProofKit
import Derived.OpenShut
import Derived.SizedLaws
namespace Go.Proofs.YtpphoaidnpkgpaaGreatDoor
open Go.RowKit Go.Maps Go.WideShapes Cls
open Go.ChangeShapes (strs open_strings)
namespace Vr

theorem cellsAct : Tryz.prog.cellsOf 33 = 5 := by kernel_rfl
theorem cellsS : Tryz.prog.cellsOf 9 = 1 := by kernel_rfl
theorem cellsI : Tryz.prog.cellsOf 3 = 1 := by kernel_rfl
theorem cellsSl : Tryz.prog.cellsOf 23 = 1 := by kernel_rfl
theorem bytesS : Tryz.prog.bytesOf 9 = 16 := by kernel_rfl
theorem bytesAct : Tryz.prog.bytesOf 33 = 72 := by kernel_rfl
abbrev R : Nat := reachBytes
theorem of_int_wf' {x : Int} (h : (Lit.int .i64 x).wf = true) : -9223372036854775808 ≤ x ∧ x ≤ 9223372036854775807 := by
  simp only [Lit.wf, IntKind.min, IntKind.max, IntKind.signed, IntKind.bits, Bool.and_eq_true, decide_eq_true_eq, if_true] at h
  omega
section
variable {H : Type} {enc : TypeId × Value → H} {w : World} {base : Nat} {held : Bool}
theorem weights_all {e : TypeId} : ∀ {l : List (DataW H)} {d : DataW H}, d ∈ l → ∀ n ∈ d.weights Tryz.prog e, n ∈ DataW.weightsAll Tryz.prog e l
  | x :: l, d, h, n, hn => by
    rw [DataW.weightsAll, List.mem_append]
    rcases List.mem_cons.1 h with rfl | h
    · exact .inl hn
    · exact .inr (weights_all h n hn)
/-- A slice of texts. -/
theorem txt_sized {fuel : Nat} {v : Value} {x : DataW H × List MemPlace} (h : DataW.trod enc Tryz.prog w base (fun _ => true) held fuel 23 [v] = some x)
    (hR : ∀ n ∈ x.1.weights Tryz.prog 23, n ≤ R) :
    ∃ a cap xs, v = .slice a (List.length xs) cap ∧ Txt w v xs ∧ (a = none → cap = 0) ∧ xs.length ≤ R ∧ ∀ y ∈ xs, y.size ≤ R := by
  rcases open_strings Tryz.underlying23 Tryz.underlying9 cellsS h with ⟨hv, rfl⟩ | ⟨a, len, cap, ss, hv, hb, hl, hm, hlen, rfl, hc, hs⟩
  · cases hv
    exact ⟨none, 0, [], rfl, .inl ⟨rfl, none, 0, rfl⟩, fun _ => rfl, Nat.zero_le _, by simp⟩
  · cases hv
    obtain ⟨b, off, spot⟩ := a
    simp only [if_true] at hlen
    have hlx : (ss.take len).length = len := by rw [List.length_take]; omega
    refine ⟨some ⟨b, off, spot⟩, cap, ss.take len, by rw [hlx], ?_, (fun e => by cases e), ?_, fun y hy => ?_⟩
    · rcases Nat.eq_zero_or_pos len with h0 | h0
      · subst h0; exact .inl ⟨by simp, _, _, rfl⟩
      · have hc0 := hc 0 (by omega)
        have hsp0 : spot = none := by simpa [Addr.add] using World.cell?_spot hc0
        subst hsp0
        refine .inr ⟨b, off, cap, by rw [hlx], by rw [hlx]; exact hl, ?_, fun j y hj => ?_⟩
        · have := World.block_lt_of_cell? w _ hc0
          simpa [Addr.add] using this
        · have hj2 : j < len := by have := (List.getElem?_eq_some_iff.1 hj).1; rwa [hlx] at this
          have := hc j (by omega)
          rw [add_plain] at this
          rw [this]
          rw [List.getElem?_take, if_pos hj2] at hj
          rw [List.getD_eq_getElem?_getD, hj]; rfl
    · have h1 := hR (((strs (H := H) (ss.take len)).length + (strs (H := H) (ss.drop len)).length) * Tryz.prog.bytesOf 9) (by simp only [DataW.weights, Tryz.underlying23]; exact List.mem_cons_self)
      rw [bytesS] at h1
      simp only [strs, List.length_map] at h1
      omega
    · have hmem : (DataW.lit (.string y.data.toList) : DataW H) ∈ strs (H := H) (ss.take len) := List.mem_map.2 ⟨y, hy, rfl⟩
      have h1 := hR y.data.toList.length (by
        simp only [DataW.weights, Tryz.underlying23]
        exact List.mem_cons_of_mem _ (List.mem_append_left _ (weights_all hmem _ (by simp [DataW.weights]))))
      simpa using h1
set_option maxHeartbeats 1000000 in
set_option maxRecDepth 100000 in
/-- A slice of acts. -/
theorem open_acs {ty : TypeId} (hty : Tryz.prog.underlying ty = some (.slice 33)) {fuel : Nat} {v : Value} {x : DataW H × List MemPlace} (h : DataW.trod enc Tryz.prog w base (fun _ => true) held fuel ty [v] = some x)
    (hR : ∀ n ∈ x.1.weights Tryz.prog ty, n ≤ R) : ∃ a cap l, v = .slice a (List.length l) cap ∧ Acs w a l := by
  rcases DataW.trod_slice hty h with ⟨hv, rfl⟩ | ⟨a, len, cap, elems, rest, n, rfl, hv, rfl, hb, hl, hm, hlen, hel, hsp, hns⟩
  · cases hv
    exact ⟨none, 0, [], rfl, fun j x hj => by simp at hj⟩
  · cases hv
    obtain ⟨b, off, spot⟩ := a
    have hlen' : len ≤ elems.length := by omega
    have hsp0 : len = 0 ∨ spot = none := by
      rcases Nat.eq_zero_or_pos len with h0 | h0
      · exact .inl h0
      · right
        have he := hel 0 h0
        rw [List.getElem?_eq_getElem (by omega)] at he
        obtain ⟨cs', hcs, _⟩ := Option.bind_eq_some_iff.1 he
        rw [cellsAct] at hcs
        obtain ⟨_, hl5, hcell⟩ := World.cells?_some hcs
        have h1 := hcell 0 (by omega)
        rw [List.getElem?_eq_getElem (by omega)] at h1
        simpa [Addr.add] using World.cell?_spot h1
    have each : ∀ i, ∃ p : Ac, i < len → spot = none ∧ b < w.heap.size ∧ ∃ av, w.cell? ⟨b, off + 5 * i, none⟩ = some (.int .i64 p.kind) ∧ w.cell? ⟨b, off + 5 * i + 1, none⟩ = some (.int .i64 p.n) ∧ w.cell? ⟨b, off + 5 * i + 2, none⟩ = some (.string p.name) ∧
        w.cell? ⟨b, off + 5 * i + 3, none⟩ = some (.string p.value) ∧ w.cell? ⟨b, off + 5 * i + 4, none⟩ = some av ∧ Txt w av p.args ∧ (∀ n c, av = .slice none n c → c = 0) ∧ p.args.length ≤ R ∧ (∀ y ∈ p.args, y.size ≤ R) ∧ p.name.size ≤ R ∧ p.value.size ≤ R ∧ (-9223372036854775808 ≤ p.n ∧ p.n ≤ 9223372036854775807) ∧ (-9223372036854775808 ≤ p.kind ∧ p.kind ≤ 9223372036854775807) := by
      intro i
      by_cases hi : i < len
      · have he := hel i hi
        have hie : i < elems.length := by omega
        rw [List.getElem?_eq_getElem hie] at he
        obtain ⟨cs', hcs, hy⟩ := Option.bind_eq_some_iff.1 he
        rw [cellsAct] at hcs
        obtain ⟨_, hl2, hcell⟩ := World.cells?_some hcs
        obtain ⟨ys, m, rfl, hy2, _, hys, hf⟩ := DataW.trod_struct Tryz.underlying33 hy
        have hRi : ∀ n ∈ (elems[i]).1.weights Tryz.prog 33, n ≤ R := fun n hn => hR n (by
          simp only [DataW.weights, hty]
          exact List.mem_cons_of_mem _ (List.mem_append_left _ (weights_all (List.mem_map_of_mem (List.getElem_mem hie)) n hn)))
        rw [hy2] at hRi
        obtain ⟨v0, v1, v2, v3, v4, rfl⟩ : ∃ v0 v1 v2 v3 v4, cs' = [v0, v1, v2, v3, v4] := by
          match cs', hl2 with
          | [v0, v1, v2, v3, v4], _ => exact ⟨v0, v1, v2, v3, v4, rfl⟩
        obtain ⟨y0, y1, y2, y3, y4, rfl⟩ : ∃ y0 y1 y2 y3 y4, ys = [y0, y1, y2, y3, y4] := by
          match ys, hys with
          | [y0, y1, y2, y3, y4], _ => exact ⟨y0, y1, y2, y3, y4, rfl⟩
        have g0 : DataW.trod enc Tryz.prog w base (fun _ => true) held m 3 (List.take (Tryz.prog.cellsOf 3) (List.drop 0 [v0, v1, v2, v3, v4])) = some y0 := hf 0 _ rfl
        rw [cellsI] at g0
        have g1 : DataW.trod enc Tryz.prog w base (fun _ => true) held m 3 (List.take (Tryz.prog.cellsOf 3) (List.drop 1 [v0, v1, v2, v3, v4])) = some y1 := hf 1 _ rfl
        rw [cellsI] at g1
        have g2 : DataW.trod enc Tryz.prog w base (fun _ => true) held m 9 (List.take (Tryz.prog.cellsOf 9) (List.drop 2 [v0, v1, v2, v3, v4])) = some y2 := hf 2 _ rfl
        rw [cellsS] at g2
        have g3 : DataW.trod enc Tryz.prog w base (fun _ => true) held m 9 (List.take (Tryz.prog.cellsOf 9) (List.drop 3 [v0, v1, v2, v3, v4])) = some y3 := hf 3 _ rfl
        rw [cellsS] at g3
        have g4 : DataW.trod enc Tryz.prog w base (fun _ => true) held m 23 (List.take (Tryz.prog.cellsOf 23) (List.drop 4 [v0, v1, v2, v3, v4])) = some y4 := hf 4 _ rfl
        rw [cellsSl] at g4
        simp only [List.drop, List.take] at g0 g1 g2 g3 g4
        obtain ⟨k, e0, _, wk⟩ := DataW.trod_int Tryz.underlying3 g0
        obtain ⟨nn, e1, _, wn⟩ := DataW.trod_int Tryz.underlying3 g1
        obtain ⟨z2, e2, d2, _⟩ := DataW.trod_string Tryz.underlying9 g2
        obtain ⟨z3, e3, d3, _⟩ := DataW.trod_string Tryz.underlying9 g3
        simp only [List.cons.injEq, and_true] at e0 e1 e2 e3
        subst e0; subst e1; subst e2; subst e3; subst d2; subst d3
        simp only [DataW.weights, Tryz.underlying33, List.map, DataW.weightsEach, List.mem_append] at hRi
        obtain ⟨a4, c4, xs, rfl, ht, hn0, hxl, hxs⟩ := txt_sized g4 (fun n hn => hRi n (by simp [hn]))
        have r2 : z2.size ≤ R := hRi z2.data.toList.length (by simp) |> fun h => by simpa using h
        have r3 : z3.size ≤ R := hRi z3.data.toList.length (by simp) |> fun h => by simpa using h
        obtain rfl : spot = none := hsp0.resolve_left (by omega)
        have hcell' : ∀ j u, [Value.int .i64 k, Value.int .i64 nn, Value.string z2, Value.string z3, .slice a4 xs.length c4][j]? = some u → w.cell? ⟨b, off + i * 5 + j, none⟩ = some u := fun j u hu => by
          have hi3 : j < 5 := by have := (List.getElem?_eq_some_iff.1 hu).1; simpa using this
          have := (hcell j hi3).trans hu
          rwa [add_plain, add_plain] at this
        have h0 := hcell' 0 _ rfl
        refine ⟨⟨k, nn, z2, z3, xs⟩, fun _ => ⟨rfl, World.block_lt_of_cell? w _ h0, _, ?_, ?_, ?_, ?_, ?_, ht, fun n c e => by cases e; exact hn0 rfl, hxl, hxs, r2, r3, of_int_wf' wn, of_int_wf' wk⟩⟩
        · rw [Nat.mul_comm]; exact h0
        · rw [Nat.mul_comm]; exact hcell' 1 _ rfl
        · rw [Nat.mul_comm]; exact hcell' 2 _ rfl
        · rw [Nat.mul_comm]; exact hcell' 3 _ rfl
        · rw [Nat.mul_comm]; exact hcell' 4 _ rfl
      · exact ⟨⟨0, 0, tx [], tx [], []⟩, fun h => absurd h hi⟩
    obtain ⟨f, hf⟩ := Classical.axiomOfChoice each
    refine ⟨some ⟨b, off, spot⟩, cap, (List.range len).map f, by simp, ?_⟩
    intro j p hj
    rw [List.getElem?_map] at hj
    obtain ⟨i, hi, rfl⟩ := Option.map_eq_some_iff.1 hj
    have hjl : j < len := by have := (List.getElem?_eq_some_iff.1 hi).1; simpa using this
    rw [List.getElem?_range hjl] at hi; cases hi
    obtain ⟨rfl, hbl, av, h0, h1, h2, h3, h4, ht, hn, hl1, hl2, hl3, hl4, hl5, hl6⟩ := hf j hjl
    have hRR : R ≤ 140737488355328 := by decide
    exact ⟨b, off, av, rfl, hbl, h0, h1, h2, h3, h4, ht, hn, Nat.le_trans hl1 hRR, fun y hy => Nat.le_trans (hl2 y hy) hRR, Nat.le_trans hl3 hRR, Nat.le_trans hl4 hRR, hl5, hl6⟩
end
end Vr
end Go.Proofs.YtpphoaidnpkgpaaGreatDoor
