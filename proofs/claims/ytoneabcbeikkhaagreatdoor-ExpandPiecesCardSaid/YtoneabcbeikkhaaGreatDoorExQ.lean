/- Arguments that are texts, out of what they read as. -/
/- An argument that is a scope by value. -/
import Derived.Test.YtoneabcbeikkhaaGreatDoorVrQ
import Derived.Test.YtoneabcbeikkhaaGreatDoorRows
import Derived.SliceStrings
import Derived.ProofKit
import Derived.OpenShut
import Derived.SizedLaws
namespace Go.Proofs.YtoneabcbeikkhaaGreatDoor
open Go.RowKit Go.Maps Go.WideShapes Cls
open Go.ChangeShapes (strs open_strings)
namespace Vr

theorem cellsS : Tryz.prog.cellsOf 9 = 1 := by kernel_rfl
theorem cellsI : Tryz.prog.cellsOf 3 = 1 := by kernel_rfl
theorem cellsSl : Tryz.prog.cellsOf 23 = 1 := by kernel_rfl
theorem bytesS : Tryz.prog.bytesOf 9 = 16 := by kernel_rfl
abbrev R : Nat := reachBytes
theorem of_int_wf' {x : Int} (h : (Lit.int .i64 x).wf = true) : -9223372036854775808 ≤ x ∧ x ≤ 9223372036854775807 := by
  simp only [Lit.wf, IntKind.min, IntKind.max, IntKind.signed, IntKind.bits, Bool.and_eq_true, decide_eq_true_eq, if_true] at h
  omega
section
variable {H : Type} {enc : TypeId × Value → H} {w : World} {base : Nat} {held : Bool}
theorem weights_all {e : TypeId} : ∀ {l : List (DataW H)} {d : DataW H}, d ∈ l → ∀ n ∈ d.weights Tryz.prog e, n ∈ DataW.weightsAll Tryz.prog e l
  | x :: l, d, h, n, hn => by
    rw [DataW.weightsAll, List.mem_append]
    rcases List.mem_cons.1 h with rfl | h
    · exact .inl hn
    · exact .inr (weights_all h n hn)
/-- A slice of texts. -/
theorem txt_sized {fuel : Nat} {v : Value} {x : DataW H × List MemPlace} (h : DataW.trod enc Tryz.prog w base (fun _ => true) held fuel 23 [v] = some x)
    (hR : ∀ n ∈ x.1.weights Tryz.prog 23, n ≤ R) :
    ∃ a cap xs, v = .slice a (List.length xs) cap ∧ Txt w v xs ∧ (a = none → cap = 0) ∧ xs.length ≤ R ∧ ∀ y ∈ xs, y.size ≤ R := by
  rcases open_strings Tryz.underlying23 Tryz.underlying9 cellsS h with ⟨hv, rfl⟩ | ⟨a, len, cap, ss, hv, hb, hl, hm, hlen, rfl, hc, hs⟩
  · cases hv
    exact ⟨none, 0, [], rfl, .inl ⟨rfl, none, 0, rfl⟩, fun _ => rfl, Nat.zero_le _, by simp⟩
  · cases hv
    obtain ⟨b, off, spot⟩ := a
    simp only [if_true] at hlen
    have hlx : (ss.take len).length = len := by rw [List.length_take]; omega
    refine ⟨some ⟨b, off, spot⟩, cap, ss.take len, by rw [hlx], ?_, (fun e => by cases e), ?_, fun y hy => ?_⟩
    · rcases Nat.eq_zero_or_pos len with h0 | h0
      · subst h0; exact .inl ⟨by simp, _, _, rfl⟩
      · have hc0 := hc 0 (by omega)
        have hsp0 : spot = none := by simpa [Addr.add] using World.cell?_spot hc0
        subst hsp0
        refine .inr ⟨b, off, cap, by rw [hlx], by rw [hlx]; exact hl, ?_, fun j y hj => ?_⟩
        · have := World.block_lt_of_cell? w _ hc0
          simpa [Addr.add] using this
        · have hj2 : j < len := by have := (List.getElem?_eq_some_iff.1 hj).1; rwa [hlx] at this
          have := hc j (by omega)
          rw [add_plain] at this
          rw [this]
          rw [List.getElem?_take, if_pos hj2] at hj
          rw [List.getD_eq_getElem?_getD, hj]; rfl
    · have h1 := hR (((strs (H := H) (ss.take len)).length + (strs (H := H) (ss.drop len)).length) * Tryz.prog.bytesOf 9) (by simp only [DataW.weights, Tryz.underlying23]; exact List.mem_cons_self)
      rw [bytesS] at h1
      simp only [strs, List.length_map] at h1
      omega
    · have hmem : (DataW.lit (.string y.data.toList) : DataW H) ∈ strs (H := H) (ss.take len) := List.mem_map.2 ⟨y, hy, rfl⟩
      have h1 := hR y.data.toList.length (by
        simp only [DataW.weights, Tryz.underlying23]
        exact List.mem_cons_of_mem _ (List.mem_append_left _ (weights_all hmem _ (by simp [DataW.weights]))))
      simpa using h1
end
end Vr
end Go.Proofs.YtoneabcbeikkhaaGreatDoor

namespace Go.Proofs.YtoneabcbeikkhaaGreatDoor
open Go.RowKit Go.Maps Go.WideShapes Cls
namespace Ex
open Vr (St Prs R txt_sized weights_all of_int_wf' tx cellsS cellsSl cellsI)
theorem cellsVar : Tryz.prog.cellsOf 61 = 2 := by kernel_rfl
theorem cellsVars : Tryz.prog.cellsOf 22 = 1 := by kernel_rfl
theorem cellsScope : Tryz.prog.cellsOf 25 = 4 := by kernel_rfl
theorem bytesVar : Tryz.prog.bytesOf 61 = 32 := by kernel_rfl
section
variable {H : Type} {enc : TypeId × Value → H} {w : World} {base : Nat} {held : Bool}
set_option maxHeartbeats 1000000 in
set_option maxRecDepth 100000 in
/-- A slice of variables. -/
theorem open_vars {fuel : Nat} {v : Value} {x : DataW H × List MemPlace} (h : DataW.trod enc Tryz.prog w base (fun _ => true) held fuel 22 [v] = some x)
    (hR : ∀ n ∈ x.1.weights Tryz.prog 22, n ≤ R) : ∃ vs : Vr.Vs, Prs w v vs ∧ vs.length ≤ R ∧ ∀ p ∈ vs, p.1.size ≤ R ∧ p.2.size ≤ R := by
  have hty := Tryz.underlying22
  rcases DataW.trod_slice hty h with ⟨hv, rfl⟩ | ⟨a, len, cap, elems, rest, n, rfl, hv, rfl, hb, hl, hm, hlen, hel, hsp, hns⟩
  · cases hv
    exact ⟨[], .inl ⟨rfl, none, 0, rfl⟩, Nat.zero_le _, fun p hp => by cases hp⟩
  · cases hv
    obtain ⟨b, off, spot⟩ := a
    have hlen' : len ≤ elems.length := by omega
    have hlR : len ≤ R := by
      have h1 := hR ((elems.length + rest.length) * Tryz.prog.bytesOf 61) (by simp [DataW.weights, hty])
      rw [bytesVar] at h1
      omega
    have hsp0 : len = 0 ∨ spot = none := by
      rcases Nat.eq_zero_or_pos len with h0 | h0
      · exact .inl h0
      · right
        have he := hel 0 h0
        rw [List.getElem?_eq_getElem (by omega)] at he
        obtain ⟨cs', hcs, _⟩ := Option.bind_eq_some_iff.1 he
        rw [cellsVar] at hcs
        obtain ⟨_, hl5, hcell⟩ := World.cells?_some hcs
        have h1 := hcell 0 (by omega)
        rw [List.getElem?_eq_getElem (by omega)] at h1
        simpa [Addr.add] using World.cell?_spot h1
    have each : ∀ i, ∃ p : ByteArray × ByteArray, i < len → spot = none ∧ b < w.heap.size ∧ w.cell? ⟨b, off + 2 * i, none⟩ = some (.string p.1) ∧ w.cell? ⟨b, off + 2 * i + 1, none⟩ = some (.string p.2) ∧ p.1.size ≤ R ∧ p.2.size ≤ R := by
      intro i
      by_cases hi : i < len
      · have he := hel i hi
        have hie : i < elems.length := by omega
        rw [List.getElem?_eq_getElem hie] at he
        obtain ⟨cs', hcs, hy⟩ := Option.bind_eq_some_iff.1 he
        rw [cellsVar] at hcs
        obtain ⟨_, hl2, hcell⟩ := World.cells?_some hcs
        obtain ⟨ys, m, rfl, hy2, _, hys, hf⟩ := DataW.trod_struct Tryz.underlying61 hy
        have hRi : ∀ n ∈ (elems[i]).1.weights Tryz.prog 61, n ≤ R := fun n hn => hR n (by
          simp only [DataW.weights, hty]
          exact List.mem_cons_of_mem _ (List.mem_append_left _ (weights_all (List.mem_map_of_mem (List.getElem_mem hie)) n hn)))
        rw [hy2] at hRi
        obtain ⟨v0, v1, rfl⟩ : ∃ v0 v1, cs' = [v0, v1] := by
          match cs', hl2 with
          | [v0, v1], _ => exact ⟨v0, v1, rfl⟩
        obtain ⟨y0, y1, rfl⟩ : ∃ y0 y1, ys = [y0, y1] := by
          match ys, hys with
          | [y0, y1], _ => exact ⟨y0, y1, rfl⟩
        have g0 : DataW.trod enc Tryz.prog w base (fun _ => true) held m 9 (List.take (Tryz.prog.cellsOf 9) (List.drop 0 [v0, v1])) = some y0 := hf 0 _ rfl
        rw [cellsS] at g0
        have g1 : DataW.trod enc Tryz.prog w base (fun _ => true) held m 9 (List.take (Tryz.prog.cellsOf 9) (List.drop 1 [v0, v1])) = some y1 := hf 1 _ rfl
        rw [cellsS] at g1
        simp only [List.drop, List.take] at g0 g1
        obtain ⟨z0, e0, d0, _⟩ := DataW.trod_string Tryz.underlying9 g0
        obtain ⟨z1, e1, d1, _⟩ := DataW.trod_string Tryz.underlying9 g1
        simp only [List.cons.injEq, and_true] at e0 e1
        subst e0; subst e1; subst d0; subst d1
        simp only [DataW.weights, Tryz.underlying61, List.map, DataW.weightsEach, List.mem_append] at hRi
        have r0 : z0.size ≤ R := hRi z0.data.toList.length (by simp) |> fun h => by simpa using h
        have r1 : z1.size ≤ R := hRi z1.data.toList.length (by simp) |> fun h => by simpa using h
        obtain rfl : spot = none := hsp0.resolve_left (by omega)
        have hcell' : ∀ j u, [Value.string z0, Value.string z1][j]? = some u → w.cell? ⟨b, off + i * 2 + j, none⟩ = some u := fun j u hu => by
          have hi3 : j < 2 := by have := (List.getElem?_eq_some_iff.1 hu).1; simpa using this
          have := (hcell j hi3).trans hu
          rwa [add_plain, add_plain] at this
        have h0 := hcell' 0 _ rfl
        refine ⟨(z0, z1), fun _ => ⟨rfl, World.block_lt_of_cell? w _ h0, ?_, ?_, r0, r1⟩⟩
        · rw [Nat.mul_comm]; exact h0
        · rw [Nat.mul_comm]; exact hcell' 1 _ rfl
      · exact ⟨(tx [], tx []), fun h => absurd h hi⟩
    obtain ⟨f, hf⟩ := Classical.axiomOfChoice each
    refine ⟨(List.range len).map f, ?_, by simpa using hlR, fun p hp => ?_⟩
    · rcases Nat.eq_zero_or_pos len with h0 | h0
      · subst h0; exact .inl ⟨rfl, _, _, rfl⟩
      · obtain ⟨rfl, hbl, _⟩ := hf 0 h0
        refine .inr ⟨b, off, cap, by simp, by simpa using hl, hbl, fun j p hj => ?_⟩
        rw [List.getElem?_map] at hj
        obtain ⟨i, hi, rfl⟩ := Option.map_eq_some_iff.1 hj
        have hjl : j < len := by have := (List.getElem?_eq_some_iff.1 hi).1; simpa using this
        rw [List.getElem?_range hjl] at hi; cases hi
        obtain ⟨_, _, h0, h1, _, _⟩ := hf j hjl
        exact ⟨h0, h1⟩
    · obtain ⟨i, hi, rfl⟩ := List.mem_map.1 hp
      obtain ⟨_, _, _, _, r0, r1⟩ := hf i (List.mem_range.1 hi)
      exact ⟨r0, r1⟩
set_option maxRecDepth 100000 in
/-- A scope by value. -/
theorem scope_arg {base : Nat} {v : Value} {d : DataW H} {p : List MemPlace} (hv : Value.okWide Tryz.prog w .any base 25 v) (h : DataW.Trod enc Tryz.prog w 0 (fun _ => true) true 25 v d p) (hw : ∀ n ∈ d.weights Tryz.prog 25, n ≤ R) :
    ∃ (s : St) (vv av : Value), v = .agg #[vv, av, .int .i64 s.st, .int .i64 s.la] ∧ Prs w vv s.vs ∧ Vr.Txt w av s.args ∧ (∀ n c, av = .slice none n c → c = 0) ∧ s.vs.length ≤ R ∧ s.args.length ≤ R ∧ (∀ p ∈ s.vs, p.1.size ≤ R ∧ p.2.size ≤ R) ∧ (∀ a ∈ s.args, a.size ≤ R) ∧ (-9223372036854775808 ≤ s.st ∧ s.st ≤ 9223372036854775807) ∧ (-9223372036854775808 ≤ s.la ∧ s.la ≤ 9223372036854775807) := by
  obtain ⟨cs, rfl, hsz⟩ := okWide_struct Tryz.underlying25 hv
  obtain ⟨fuel, hf⟩ := h
  rw [cellsScope] at hsz
  obtain ⟨ys, m, rfl, hy2, _, hys, hf⟩ := DataW.trod_struct Tryz.underlying25 hf
  obtain ⟨v0, v1, v2, v3, rfl⟩ : ∃ v0 v1 v2 v3, cs = #[v0, v1, v2, v3] := by
    obtain ⟨l⟩ := cs
    match l, hsz with
    | [v0, v1, v2, v3], _ => exact ⟨v0, v1, v2, v3, rfl⟩
  obtain ⟨y0, y1, y2, y3, rfl⟩ : ∃ y0 y1 y2 y3, ys = [y0, y1, y2, y3] := by
    match ys, hys with
    | [y0, y1, y2, y3], _ => exact ⟨y0, y1, y2, y3, rfl⟩
  have g0 : DataW.trod enc Tryz.prog w 0 (fun _ => true) true m 22 (List.take (Tryz.prog.cellsOf 22) (List.drop 0 [v0, v1, v2, v3])) = some y0 := hf 0 _ rfl
  rw [cellsVars] at g0
  have g1 : DataW.trod enc Tryz.prog w 0 (fun _ => true) true m 23 (List.take (Tryz.prog.cellsOf 23) (List.drop 1 [v0, v1, v2, v3])) = some y1 := hf 1 _ rfl
  rw [cellsSl] at g1
  have g2 : DataW.trod enc Tryz.prog w 0 (fun _ => true) true m 3 (List.take (Tryz.prog.cellsOf 3) (List.drop 2 [v0, v1, v2, v3])) = some y2 := hf 2 _ rfl
  rw [cellsI] at g2
  have g3 : DataW.trod enc Tryz.prog w 0 (fun _ => true) true m 3 (List.take (Tryz.prog.cellsOf 3) (List.drop 3 [v0, v1, v2, v3])) = some y3 := hf 3 _ rfl
  rw [cellsI] at g3
  simp only [List.drop, List.take] at g0 g1 g2 g3
  injection hy2 with hd1 hd2
  rw [hd1] at hw
  simp only [DataW.weights, Tryz.underlying25, List.map, DataW.weightsEach, List.mem_append] at hw
  obtain ⟨vs, hp, hl0, hp0⟩ := open_vars g0 (fun n hn => hw n (by simp [hn]))
  obtain ⟨a1, c1, xs, rfl, hx, hn1, hl1, hx1⟩ := txt_sized g1 (fun n hn => hw n (by simp [hn]))
  obtain ⟨st, e2, _, w2⟩ := DataW.trod_int Tryz.underlying3 g2
  obtain ⟨la, e3, _, w3⟩ := DataW.trod_int Tryz.underlying3 g3
  simp only [List.cons.injEq, and_true] at e2 e3
  subst e2; subst e3
  exact ⟨⟨vs, xs, st, la⟩, v0, _, rfl, hp, hx, fun n c e => by cases e; exact hn1 rfl, hl0, hl1, hp0, hx1, of_int_wf' w2, of_int_wf' w3⟩
end
end Ex
end Go.Proofs.YtoneabcbeikkhaaGreatDoor
