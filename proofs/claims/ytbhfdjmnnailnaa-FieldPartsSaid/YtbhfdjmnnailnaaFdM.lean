/- Arguments: pieces, and texts, out of what they read as. -/
import Derived.Test.YtbhfdjmnnailnaaFdK
import Derived.OpenShut
import Derived.ChangeArms
import Derived.SliceStrings
import Derived.ProofKit
import Derived.SizedLaws
namespace Go.Proofs.Ytbhfdjmnnailnaa
open Go.RowKit Go.WideShapes Go.ChangeShapes
open Go.ChangeShapes (strs open_strings)
namespace Fld
theorem hbytesP : Try.prog.bytesOf 31 = 24 := by kernel_rfl
theorem hcellsP : Try.prog.cellsOf 31 = 3 := by kernel_rfl
theorem hcB : Try.prog.cellsOf 4 = 1 := by kernel_rfl
theorem hcS : Try.prog.cellsOf 9 = 1 := by kernel_rfl
def PAtR (w : World) (b : Nat) : Nat → List Pc → Prop
  | _, [] => True
  | o, p :: r => (w.cell? ⟨b, o, none⟩ = some (.string p.1) ∧ w.cell? ⟨b, o + 1, none⟩ = some (.bool p.2.1) ∧ w.cell? ⟨b, o + 2, none⟩ = some (.bool p.2.2)) ∧ PAtR w b (o + 3) r
theorem PAtR.at {w : World} {b : Nat} : ∀ {ps : List Pc} {o i : Nat}, PAtR w b o ps → i < ps.length → w.cell? ⟨b, o + i * 3, none⟩ = some (.string (pc ps i).1) ∧ w.cell? ⟨b, o + i * 3 + 1, none⟩ = some (.bool (pc ps i).2.1) ∧ w.cell? ⟨b, o + i * 3 + 2, none⟩ = some (.bool (pc ps i).2.2)
  | p :: r, o, 0, h, _ => by simpa [pc] using h.1
  | p :: r, o, i + 1, h, hi => by
    have := PAtR.at (i := i) h.2 (by simpa using hi)
    rw [show o + (i + 1) * 3 = o + 3 + i * 3 by omega]
    exact this
theorem PAtR.pcs {w : World} {b o : Nat} {ps : List Pc} (h : PAtR w b o ps) : Pcs w (some ⟨b, o, none⟩) ps := by
  cases ps with
  | nil => exact .inl rfl
  | cons p r => exact .inr ⟨b, o, rfl, World.block_lt_of_cell? _ _ h.1.1, fun i hi => h.at hi⟩
section
variable {H : Type} {enc : TypeId × Value → H} {w : World} {base : Nat} {held : Bool}
theorem weights_all {e : TypeId} : ∀ {l : List (DataW H)} {d : DataW H}, d ∈ l → ∀ n ∈ d.weights Try.prog e, n ∈ DataW.weightsAll Try.prog e l
  | x :: l, d, h, n, hn => by
    rw [DataW.weightsAll, List.mem_append]
    rcases List.mem_cons.1 h with rfl | h
    · exact .inl hn
    · exact .inr (weights_all h n hn)
set_option maxHeartbeats 1000000 in
set_option maxRecDepth 100000 in
theorem open_pcs {ty : TypeId} (hty : Try.prog.underlying ty = some (.slice 31)) (fuel : Nat) (cs : List Value) (x : DataW H × List MemPlace) (h : DataW.trod enc Try.prog w base (fun _ => true) held fuel ty cs = some x)
    (hR : ∀ n ∈ x.1.weights Try.prog ty, n ≤ R) : ∃ a cap ps, cs = [.slice a (List.length ps) cap] ∧ Pcs w a ps ∧ (a = none → cap = 0) ∧ (List.length ps) ≤ R ∧ ∀ p ∈ ps, p.1.size ≤ R := by
  rcases DataW.trod_slice hty h with ⟨rfl, rfl⟩ | ⟨a, len, cap, elems, rest, n, rfl, rfl, rfl, hb, hl, hm, hlen, hel, hsp, hns⟩
  · exact ⟨none, 0, [], rfl, .inl rfl, fun _ => rfl, Nat.zero_le _, by simp⟩
  · obtain ⟨b, off, spot⟩ := a
    have hcap : cap ≤ R := by
      have h1 := hR ((elems.length + rest.length) * Try.prog.bytesOf 31) (by simp [DataW.weights, hty])
      rw [hbytesP] at h1
      have := (hsp rfl).1
      omega
    have hsp0 : len = 0 ∨ spot = none := by
      rcases Nat.eq_zero_or_pos len with h0 | h0
      · exact .inl h0
      · right
        have he := hel 0 h0
        rw [List.getElem?_eq_getElem (by omega)] at he
        obtain ⟨cs', hcs, _⟩ := Option.bind_eq_some_iff.1 he
        rw [hcellsP] at hcs
        obtain ⟨_, hl5, hcell⟩ := World.cells?_some hcs
        have h1 := hcell 0 (by omega)
        rw [List.getElem?_eq_getElem (by omega)] at h1
        simpa [Addr.add] using World.cell?_spot h1
    have build : ∀ j, j ≤ len → ∃ ps : List Pc, ps.length = j ∧ (∀ p ∈ ps, p.1.size ≤ R) ∧ (j = 0 ∨ spot = none ∧ PAtR w b (off + (len - j) * 3) ps) := by
      intro j
      induction j with
      | zero => exact fun _ => ⟨[], rfl, by simp, .inl rfl⟩
      | succ j ihj =>
        intro hj
        have hoff : off + (len - (j + 1)) * 3 + 3 = off + (len - j) * 3 := by clear ihj hel hsp hns hR; omega
        obtain ⟨r, hr, hrs, har⟩ := ihj (by omega)
        have hi : len - (j + 1) < elems.length := by omega
        have he := hel (len - (j + 1)) (by omega)
        rw [List.getElem?_eq_getElem hi] at he
        obtain ⟨cs', hcs, hy⟩ := Option.bind_eq_some_iff.1 he
        rw [hcellsP] at hcs
        obtain ⟨_, hl3, hcell⟩ := World.cells?_some hcs
        obtain ⟨ys, m, rfl, hy2, _, hys, hf⟩ := DataW.trod_struct Try.underlying31 hy
        have hRi : ∀ n ∈ (elems[len - (j + 1)]).1.weights Try.prog 31, n ≤ R := fun n hn => hR n (by
          simp only [DataW.weights, hty]
          exact List.mem_cons_of_mem _ (List.mem_append_left _ (weights_all (List.mem_map_of_mem (List.getElem_mem hi)) n hn)))
        rw [hy2] at hRi
        match cs', hl3 with
        | [v0, v1, v2], _ =>
          match ys, hys with
          | [y0, y1, y2], _ =>
          have g0 : DataW.trod enc Try.prog w base (fun _ => true) held m 9 (List.take (Try.prog.cellsOf 9) (List.drop 0 [v0, v1, v2])) = some y0 := hf 0 _ rfl
          rw [hcS] at g0
          have g1 : DataW.trod enc Try.prog w base (fun _ => true) held m 4 (List.take (Try.prog.cellsOf 4) (List.drop 1 [v0, v1, v2])) = some y1 := hf 1 _ rfl
          rw [hcB] at g1
          have g2 : DataW.trod enc Try.prog w base (fun _ => true) held m 4 (List.take (Try.prog.cellsOf 4) (List.drop 2 [v0, v1, v2])) = some y2 := hf 2 _ rfl
          rw [hcB] at g2
          simp only [List.drop, List.take] at g0 g1 g2
          obtain ⟨z0, e0, d0, _⟩ := DataW.trod_string Try.underlying9 g0
          obtain ⟨z1, e1, _⟩ := DataW.trod_bool Try.underlying4 g1
          obtain ⟨z2, e2, _⟩ := DataW.trod_bool Try.underlying4 g2
          subst d0
          simp only [DataW.weights, Try.underlying31, List.map, DataW.weightsEach, List.mem_append] at hRi
          have r0 : z0.size ≤ R := hRi z0.data.toList.length (by simp) |> fun h => by simpa using h
          simp only [List.cons.injEq, and_true] at e0 e1 e2
          subst e0 e1 e2
          obtain rfl : spot = none := hsp0.resolve_left (by omega)
          have hcell' : ∀ i v, [Value.string z0, Value.bool z1, Value.bool z2][i]? = some v → w.cell? ⟨b, off + (len - (j + 1)) * 3 + i, none⟩ = some v := fun i v hv => by
            have hi3 : i < 3 := by have := (List.getElem?_eq_some_iff.1 hv).1; simpa using this
            have := (hcell i hi3).trans hv
            rwa [add_plain, add_plain] at this
          refine ⟨(z0, z1, z2) :: r, by rw [List.length_cons, hr], ?_, .inr ⟨rfl, ⟨hcell' 0 _ rfl, hcell' 1 _ rfl, hcell' 2 _ rfl⟩, ?_⟩⟩
          · intro p hp
            rcases List.mem_cons.1 hp with rfl | hp
            · exact r0
            · exact hrs p hp
          · rcases har with rfl | ⟨_, har⟩
            · cases r with
              | nil => trivial
              | cons => simp at hr
            · rwa [hoff]
    obtain ⟨ps, hll, hps, hat⟩ := build len (Nat.le_refl _)
    refine ⟨some ⟨b, off, spot⟩, cap, ps, by rw [hll], ?_, (fun e => by cases e), by omega, hps⟩
    rcases hat with h0 | ⟨rfl, hat⟩
    · left
      cases ps with
      | nil => rfl
      | cons => simp only [List.length_cons] at hll; omega
    · exact PAtR.pcs (by simpa using hat)
set_option maxRecDepth 100000 in
/-- An argument that is pieces. -/
theorem pieces_arg {W : World} {base : Nat} {v : Value} {d : DataW H} {p : List MemPlace} (hv : Value.okWide Try.prog W .any base 22 v) (h : DataW.Trod enc Try.prog W 0 (fun _ => true) true 22 v d p) (hw : ∀ n ∈ d.weights Try.prog 22, n ≤ R) :
    ∃ a cap ps, v = .slice a (List.length ps) cap ∧ Pcs W a ps ∧ (a = none → cap = 0) ∧ (List.length ps) ≤ R ∧ ∀ p ∈ ps, p.1.size ≤ R := by
  obtain ⟨a0, len, cap, rfl⟩ := okWide_slice Try.underlying22 hv
  obtain ⟨fuel, hf⟩ := h
  obtain ⟨a, cap', ps, hc, hl⟩ := open_pcs Try.underlying22 fuel _ _ hf hw
  exact ⟨a, cap', ps, by simpa [Value.cells] using hc, hl⟩
end
theorem cellsS : Try.prog.cellsOf 9 = 1 := by kernel_rfl
theorem bytesTx : Try.prog.bytesOf 9 = 16 := by kernel_rfl
section
variable {H : Type} {enc : TypeId × Value → H} {w : World} {base : Nat} {held : Bool}
/-- A slice of texts. -/
theorem txt_sized {fuel : Nat} {v : Value} {x : DataW H × List MemPlace} (h : DataW.trod enc Try.prog w base (fun _ => true) held fuel 27 [v] = some x)
    (hR : ∀ n ∈ x.1.weights Try.prog 27, n ≤ R) :
    ∃ a cap xs, v = .slice a (List.length xs) cap ∧ Txt w v xs ∧ (a = none → cap = 0) ∧ xs.length ≤ R ∧ ∀ y ∈ xs, y.size ≤ R := by
  rcases open_strings Try.underlying27 Try.underlying9 cellsS h with ⟨hv, rfl⟩ | ⟨a, len, cap, ss, hv, hb, hl, hm, hlen, rfl, hc, hs⟩
  · cases hv
    exact ⟨none, 0, [], rfl, .inl ⟨rfl, none, 0, rfl⟩, fun _ => rfl, Nat.zero_le _, by simp⟩
  · cases hv
    obtain ⟨b, off, spot⟩ := a
    simp only [if_true] at hlen
    have hlx : (ss.take len).length = len := by rw [List.length_take]; omega
    refine ⟨some ⟨b, off, spot⟩, cap, ss.take len, by rw [hlx], ?_, (fun e => by cases e), ?_, fun y hy => ?_⟩
    · rcases Nat.eq_zero_or_pos len with h0 | h0
      · subst h0; exact .inl ⟨by simp, _, _, rfl⟩
      · have hc0 := hc 0 (by omega)
        have hsp0 : spot = none := by simpa [Addr.add] using World.cell?_spot hc0
        subst hsp0
        refine .inr ⟨b, off, cap, by rw [hlx], by rw [hlx]; exact hl, ?_, fun j y hj => ?_⟩
        · have := World.block_lt_of_cell? w _ hc0
          simpa [Addr.add] using this
        · have hj2 : j < len := by have := (List.getElem?_eq_some_iff.1 hj).1; rwa [hlx] at this
          have := hc j (by omega)
          rw [add_plain] at this
          rw [this]
          rw [List.getElem?_take, if_pos hj2] at hj
          rw [List.getD_eq_getElem?_getD, hj]; rfl
    · have h1 := hR (((strs (H := H) (ss.take len)).length + (strs (H := H) (ss.drop len)).length) * Try.prog.bytesOf 9) (by simp only [DataW.weights, Try.underlying27]; exact List.mem_cons_self)
      rw [bytesTx] at h1
      simp only [strs, List.length_map] at h1
      unfold R at h1 ⊢
      omega
    · have hmem : (DataW.lit (.string y.data.toList) : DataW H) ∈ strs (H := H) (ss.take len) := List.mem_map.2 ⟨y, hy, rfl⟩
      have h1 := hR y.data.toList.length (by
        simp only [DataW.weights, Try.underlying27]
        exact List.mem_cons_of_mem _ (List.mem_append_left _ (weights_all hmem _ (by simp [DataW.weights]))))
      simpa using h1
set_option maxRecDepth 100000 in
/-- An argument that is texts. -/
theorem texts_arg {W : World} {base : Nat} {v : Value} {d : DataW H} {p : List MemPlace} (hv : Value.okWide Try.prog W .any base 27 v) (h : DataW.Trod enc Try.prog W 0 (fun _ => true) true 27 v d p) (hw : ∀ n ∈ d.weights Try.prog 27, n ≤ R) :
    ∃ a cap xs, v = .slice a (List.length xs) cap ∧ Txt W v xs ∧ (a = none → cap = 0) ∧ xs.length ≤ R ∧ ∀ y ∈ xs, y.size ≤ R := by
  obtain ⟨a0, len, cap, rfl⟩ := okWide_slice Try.underlying27 hv
  obtain ⟨fuel, hf⟩ := h
  exact txt_sized (fuel := fuel) (by simpa [Value.cells] using hf) hw
end
end Fld
end Go.Proofs.Ytbhfdjmnnailnaa
