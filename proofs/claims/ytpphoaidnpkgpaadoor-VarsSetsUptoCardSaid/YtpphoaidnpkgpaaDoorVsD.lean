/- The law's arguments, out of what they read as; how much they hold. -/
import Derived.Test.YtpphoaidnpkgpaaDoorVsC
import Derived.Test.YtpphoaidnpkgpaaDoorRows
import Derived.SliceStrings
import Derived.Lib.SmallJoins
import Derived.ProofKit
import Derived.OpenShut
namespace Go.Proofs.YtpphoaidnpkgpaaDoor
open Go.RowKit Go.Maps Go.WideShapes Cls
open Go.ChangeShapes (strs open_strings)
namespace Vr

section
variable {H : Type}
theorem bulk_one (d : DataW H) : 1 ≤ Rows.uptoBulk d := by
  cases d with
  | lit l => cases l <;> simp [Rows.uptoBulk]
  | nil => simp [Rows.uptoBulk]
  | ptr d => simp [Rows.uptoBulk]
  | slice a b => simp [Rows.uptoBulk]
  | agg a => simp [Rows.uptoBulk]
  | iface n d => simp [Rows.uptoBulk]
  | map es => simp [Rows.uptoBulk]
  | held h => simp [Rows.uptoBulk]
theorem bulk_part {d : DataW H} {l : List (DataW H)} (h : d ∈ l) : Rows.uptoBulk d ≤ Rows.uptoBulkAll l := by
  induction l with
  | nil => cases h
  | cons x r ih =>
    rw [Rows.uptoBulkAll]
    rcases List.mem_cons.1 h with rfl | h
    · omega
    · have := ih h; omega
theorem bulk_len (l : List (DataW H)) : l.length ≤ Rows.uptoBulkAll l := by
  induction l with
  | nil => simp
  | cons x r ih => have := bulk_one x; rw [List.length_cons, Rows.uptoBulkAll]; omega
theorem bulk_join (xs : List ByteArray) : (Lib.join (xs.map bs) [32]).length ≤ Rows.uptoBulkAll (strs (H := H) xs) := by
  have hl : ∀ xs : List ByteArray, Lib.lens (xs.map bs) + xs.length = Rows.uptoBulkAll (strs (H := H) xs) := by
    intro xs
    induction xs with
    | nil => rfl
    | cons x r ih =>
      simp only [strs, List.map_cons, Rows.uptoBulkAll, Rows.uptoBulk, Lib.lens, List.length_cons] at ih ⊢
      simp at ih ⊢; omega
  cases xs with
  | nil => simp [Lib.join]
  | cons x r =>
    have := hl (x :: r)
    rw [List.map_cons, Lib.join_length, ← List.map_cons]
    simp at this ⊢; omega
theorem cellsVar : Tryd.prog.cellsOf 39 = 2 := by kernel_rfl
theorem cellsStr : Tryd.prog.cellsOf 9 = 1 := by kernel_rfl
variable {enc : TypeId × Value → H} {w : World} {base : Nat} {held : Bool}
set_option maxRecDepth 100000 in
/-- A slice of pairs, out of what it reads as. -/
theorem open_prs {fuel : Nat} {v : Value} {x : DataW H × List MemPlace} (h : DataW.trod enc Tryd.prog w base (fun _ => true) held fuel 22 [v] = some x) :
    ∃ a cap vs, v = .slice a (List.length vs) cap ∧ Prs w v vs ∧ vs.length ≤ Rows.uptoBulk x.1 ∧ ∀ p ∈ vs, p.1.size ≤ Rows.uptoBulk x.1 ∧ p.2.size ≤ Rows.uptoBulk x.1 := by
  rcases DataW.trod_slice Tryd.underlying22 h with ⟨hv, rfl⟩ | ⟨a, len, cap, elems, rest, n, rfl, hv, rfl, hb, hl, hm, hlen, hel, hsp, hns⟩
  · cases hv
    exact ⟨none, 0, [], rfl, .inl ⟨rfl, none, 0, rfl⟩, Nat.zero_le _, by simp⟩
  · cases hv
    obtain ⟨b, off, spot⟩ := a
    have hsp0 : len = 0 ∨ spot = none := by
      rcases Nat.eq_zero_or_pos len with h0 | h0
      · exact .inl h0
      · right
        have he := hel 0 h0
        rw [List.getElem?_eq_getElem (by omega)] at he
        obtain ⟨cs', hcs, _⟩ := Option.bind_eq_some_iff.1 he
        rw [cellsVar] at hcs
        obtain ⟨_, hl5, hcell⟩ := World.cells?_some hcs
        have h1 := hcell 0 (by omega)
        rw [List.getElem?_eq_getElem (by omega)] at h1
        simpa [Addr.add] using World.cell?_spot h1
    have each : ∀ i, ∃ p : ByteArray × ByteArray, i < len → spot = none ∧ w.cell? ⟨b, off + 2 * i, none⟩ = some (.string p.1) ∧ w.cell? ⟨b, off + 2 * i + 1, none⟩ = some (.string p.2) ∧ p.1.size + p.2.size ≤ Rows.uptoBulkAll (elems.map (·.1)) := by
      intro i
      by_cases hi : i < len
      · have he := hel i hi
        rw [List.getElem?_eq_getElem (by omega)] at he
        obtain ⟨cs', hcs, hy⟩ := Option.bind_eq_some_iff.1 he
        rw [cellsVar] at hcs
        obtain ⟨_, hl2, hcell⟩ := World.cells?_some hcs
        obtain ⟨ys, m, rfl, hy2, _, hys, hf⟩ := DataW.trod_struct Tryd.underlying39 hy
        obtain rfl : spot = none := hsp0.resolve_left (by omega)
        have hmem : (elems[i]'(by omega)).1 ∈ elems.map (·.1) := List.mem_map_of_mem (List.getElem_mem _)
        obtain ⟨v0, v1, rfl⟩ : ∃ v0 v1, cs' = [v0, v1] := by
          match cs', hl2 with
          | [v0, v1], _ => exact ⟨v0, v1, rfl⟩
        obtain ⟨y0, y1, rfl⟩ : ∃ y0 y1, ys = [y0, y1] := by
          match ys, hys with
          | [y0, y1], _ => exact ⟨y0, y1, rfl⟩
        · skip
          · skip
            have g0 : DataW.trod enc Tryd.prog w base (fun _ => true) held m 9 (List.take (Tryd.prog.cellsOf 9) (List.drop 0 [v0, v1])) = some y0 := hf 0 _ rfl
            rw [cellsStr] at g0
            have g1 : DataW.trod enc Tryd.prog w base (fun _ => true) held m 9 (List.take (Tryd.prog.cellsOf 9) (List.drop 1 [v0, v1])) = some y1 := hf 1 _ rfl
            rw [cellsStr] at g1
            simp only [List.drop, List.take] at g0 g1
            obtain ⟨z0, e0, d0, _⟩ := DataW.trod_string Tryd.underlying9 g0
            obtain ⟨z1, e1, d1, _⟩ := DataW.trod_string Tryd.underlying9 g1
            simp only [List.cons.injEq, and_true] at e0 e1
            subst e0; subst e1
            refine ⟨(z0, z1), fun _ => ⟨rfl, ?_, ?_, ?_⟩⟩
            · have := hcell 0 (by omega)
              rw [add_plain, add_plain] at this
              rw [Nat.mul_comm]; simpa using this
            · have := hcell 1 (by omega)
              rw [add_plain, add_plain] at this
              rw [Nat.mul_comm]; simpa using this
            · have h1 := bulk_part hmem
              have h2 : Rows.uptoBulk (elems[i]'(by omega)).1 = z0.size + z1.size + 3 := by
                rw [hy2]; subst d0; subst d1
                simp [Rows.uptoBulk, Rows.uptoBulkAll]; omega
              show z0.size + z1.size ≤ _
              omega
      · exact ⟨(tx [], tx []), fun h => absurd h hi⟩
    obtain ⟨f, hf⟩ := Classical.axiomOfChoice each
    have hbulk : Rows.uptoBulk (DataW.slice (elems.map (·.1)) (rest.map (·.1))) = Rows.uptoBulkAll (elems.map (·.1)) + Rows.uptoBulkAll (rest.map (·.1)) + 1 := by rw [Rows.uptoBulk]
    refine ⟨some ⟨b, off, spot⟩, cap, (List.range len).map f, by simp, ?_, ?_, ?_⟩
    · rcases Nat.eq_zero_or_pos len with h0 | h0
      · subst h0; exact .inl ⟨rfl, _, _, rfl⟩
      · obtain ⟨rfl, hc, _⟩ := hf 0 h0
        refine .inr ⟨b, off, cap, by simp, by simpa using hl, ?_, fun j p hj => ?_⟩
        · exact World.block_lt_of_cell? w _ hc
        · rw [List.getElem?_map] at hj
          obtain ⟨i, hi, rfl⟩ := Option.map_eq_some_iff.1 hj
          have hi2 := List.getElem?_range (by have := (List.getElem?_eq_some_iff.1 hi).1; simpa using this : j < len)
          rw [hi2] at hi; cases hi
          have := hf j (by have := (List.getElem?_eq_some_iff.1 hi2).1; simpa using this)
          exact ⟨this.2.1, this.2.2.1⟩
    · show _ ≤ Rows.uptoBulk (DataW.slice (elems.map (·.1)) (rest.map (·.1)))
      have := bulk_len (elems.map (·.1))
      rw [hbulk]; simp at this ⊢; omega
    · intro p hp
      obtain ⟨i, hi, rfl⟩ := List.mem_map.1 hp
      have := (hf i (by simpa using hi)).2.2.2
      show _ ≤ Rows.uptoBulk (DataW.slice (elems.map (·.1)) (rest.map (·.1))) ∧ _ ≤ Rows.uptoBulk (DataW.slice (elems.map (·.1)) (rest.map (·.1)))
      rw [hbulk]; omega
/-- A slice of texts, out of what it reads as. -/
theorem open_txt {fuel : Nat} {v : Value} {x : DataW H × List MemPlace} (h : DataW.trod enc Tryd.prog w base (fun _ => true) held fuel 23 [v] = some x) :
    ∃ a cap xs, v = .slice a (List.length xs) cap ∧ Txt w v xs ∧ xs.length ≤ Rows.uptoBulk x.1 ∧ (Lib.join (xs.map bs) [32]).length ≤ Rows.uptoBulk x.1 := by
  rcases open_strings Tryd.underlying23 Tryd.underlying9 cellsStr h with ⟨hv, rfl⟩ | ⟨a, len, cap, ss, hv, hb, hl, hm, hlen, rfl, hc, hs⟩
  · cases hv
    exact ⟨none, 0, [], rfl, .inl ⟨rfl, none, 0, rfl⟩, Nat.zero_le _, by simp [Lib.join]⟩
  · cases hv
    obtain ⟨b, off, spot⟩ := a
    simp only [if_true] at hlen
    have hlx : (ss.take len).length = len := by rw [List.length_take]; omega
    refine ⟨some ⟨b, off, spot⟩, cap, ss.take len, by rw [hlx], ?_, ?_, ?_⟩
    · rcases Nat.eq_zero_or_pos len with h0 | h0
      · subst h0; exact .inl ⟨by simp, _, _, rfl⟩
      · have hc0 := hc 0 (by omega)
        have hsp0 : spot = none := by simpa [Addr.add] using World.cell?_spot hc0
        subst hsp0
        refine .inr ⟨b, off, cap, by rw [hlx], by rw [hlx]; exact hl, ?_, fun j y hj => ?_⟩
        · have := World.block_lt_of_cell? w _ hc0
          simpa [Addr.add] using this
        · have hj2 : j < len := by have := (List.getElem?_eq_some_iff.1 hj).1; rwa [hlx] at this
          have := hc j (by omega)
          rw [add_plain] at this
          rw [this]
          rw [List.getElem?_take, if_pos hj2] at hj
          rw [List.getD_eq_getElem?_getD, hj]; rfl
    · show _ ≤ Rows.uptoBulk (DataW.slice (strs (ss.take len)) (strs (ss.drop len)))
      have := bulk_len (strs (H := H) (ss.take len))
      rw [Rows.uptoBulk]; simp [strs] at this ⊢; omega
    · show _ ≤ Rows.uptoBulk (DataW.slice (strs (ss.take len)) (strs (ss.drop len)))
      have := bulk_join (H := H) (ss.take len)
      rw [Rows.uptoBulk]; omega
end
end Vr
end Go.Proofs.YtpphoaidnpkgpaaDoor
