/- Arguments of layer 15: items, rows of items, acts. -/
import Derived.Test.YtbcldfaphnnmlaaFrA
import Derived.Test.YtbcldfaphnnmlaaTrC
namespace Go.Proofs.Ytbcldfaphnnmlaa
open Go.RowKit Go.WideShapes Go.ChangeShapes
namespace Fra
open Cls Pt Tr
/-- A text, a number, an item, an act where it lies. -/
def PS (w : World) (b o : Nat) (t : ByteArray) : Prop := w.cell? ⟨b, o, none⟩ = some (.string t) ∧ t.size ≤ R
def PI (w : World) (b o : Nat) (n : Int) : Prop := w.cell? ⟨b, o, none⟩ = some (.int .i64 n)
/-- What is in memory of an argument that is an item. -/
structure Big (w : World) (y : IV) : Prop where
  ok : Good w y
  kw : -9223372036854775808 ≤ y.k ∧ y.k ≤ 9223372036854775807
  sw : ∀ t ∈ y.ws, t.size ≤ R
def P15 (w : World) (b o : Nat) (y : IV) : Prop := Big w y ∧ ∀ i u, (icells y)[i]? = some u → w.cell? ⟨b, o + i, none⟩ = some u
/-- An act. -/
structure Ac where
  kind : Int
  n : Int
  l : List IV
  a : Option Addr
  c : Nat
def acells (y : Ac) : List Value := [.int .i64 y.kind, .int .i64 y.n, .slice y.a y.l.length y.c]
def PAc (w : World) (b o : Nat) (y : Ac) : Prop := Sl 14 (P15 w) y.a y.c y.l ∧ (-9223372036854775808 ≤ y.n ∧ y.n ≤ 9223372036854775807) ∧ ∀ i u, (acells y)[i]? = some u → w.cell? ⟨b, o + i, none⟩ = some u
theorem Big.stay {w w' : World} {y : IV} (h : Big w y) (hb : Below w.heap.size w w') : Big w' y := ⟨h.ok.stay hb, h.kw, h.sw⟩
theorem P15.stay {w w' : World} {b o : Nat} {y : IV} (h : P15 w b o y) (hb : Below w.heap.size w w') : P15 w' b o y := ⟨h.1.stay hb, fun i u e => cell_below hb (h.2 i u e)⟩
/-- Items that lie side by side are a row. -/
theorem LAt.of_sl {w : World} {a : Option Addr} {cap : Nat} {l : List IV} (h : Sl 14 (P15 w) a cap l) : LAt w (.slice a l.length cap) l := by
  refine ⟨a, cap, rfl, h.1, fun j p hj => ?_⟩
  obtain ⟨b, o, e, hp⟩ := h.get hj
  exact ⟨b, o, e, World.block_lt_of_cell? w _ (hp.2 0 _ rfl), hp.2⟩
theorem good_of_sl {w : World} {a : Option Addr} {cap : Nat} {l : List IV} (h : Sl 14 (P15 w) a cap l) : ∀ y ∈ l, Big w y := fun y hy => by
  obtain ⟨j, hj⟩ := List.mem_iff_getElem?.1 hy
  obtain ⟨b, o, _, hp⟩ := h.get hj
  exact hp.1

theorem ncItem : Try.prog.cellsOf 41 = 14 := by kernel_rfl
theorem nbItem : Try.prog.bytesOf 41 = 232 := by kernel_rfl
theorem ncAct : Try.prog.cellsOf 29 = 3 := by kernel_rfl
theorem nbAct : Try.prog.bytesOf 29 = 40 := by kernel_rfl
theorem ncTx : Try.prog.cellsOf 38 = 1 := by kernel_rfl
theorem ncIs : Try.prog.cellsOf 39 = 1 := by kernel_rfl
theorem ncIt : Try.prog.cellsOf 27 = 1 := by kernel_rfl
theorem nbTx : Try.prog.bytesOf 9 = 16 := by kernel_rfl
theorem nbIs : Try.prog.bytesOf 3 = 8 := by kernel_rfl
theorem of_i64 {x : Int} (h : (Lit.int .i64 x).wf = true) : -9223372036854775808 ≤ x ∧ x ≤ 9223372036854775807 := by
  simp only [Lit.wf, IntKind.min, IntKind.max, IntKind.signed, IntKind.bits, Bool.and_eq_true, decide_eq_true_eq, if_true] at h
  omega
section
variable {H : Type} {enc : TypeId × Value → H} {w : World} {base : Nat} {held : Bool}
theorem open_texts (fuel : Nat) (cs : List Value) (x : DataW H × List MemPlace) (h : DataW.trod enc Try.prog w base (fun _ => true) held fuel 38 cs = some x) (hR : ∀ n ∈ x.1.weights Try.prog 38, n ≤ R) :
    ∃ a cap, ∃ l : List ByteArray, cs = [.slice a l.length cap] ∧ Sl 1 (PS w) a cap l := by
  refine open_sl 1 16 Try.underlying38 ncS (by decide) nbTx (by decide) (PS w) fuel (fun n _ cs y _ hy hRy => ?_) cs x h hR
  obtain ⟨z, e, d, _⟩ := DataW.trod_string Try.underlying9 hy
  subst e d
  exact ⟨z, fun b o hc => ⟨hc 0 _ rfl, hRy z.data.toList.length (by simp [DataW.weights, Try.underlying9]) |> fun h => by simpa using h⟩⟩
theorem open_ints (fuel : Nat) (cs : List Value) (x : DataW H × List MemPlace) (h : DataW.trod enc Try.prog w base (fun _ => true) held fuel 39 cs = some x) (hR : ∀ n ∈ x.1.weights Try.prog 39, n ≤ R) :
    ∃ a cap, ∃ l : List Int, cs = [.slice a l.length cap] ∧ Sl 1 (PI w) a cap l := by
  refine open_sl 1 8 Try.underlying39 ncI (by decide) nbIs (by decide) (PI w) fuel (fun n _ cs y _ hy _ => ?_) cs x h hR
  obtain ⟨z, e, _⟩ := DataW.trod_int Try.underlying3 hy
  subst e
  exact ⟨z, fun b o hc => hc 0 _ rfl⟩
set_option maxHeartbeats 1000000 in
set_option maxRecDepth 100000 in
theorem open_item (fuel : Nat) (cs : List Value) (x : DataW H × List MemPlace) (hl : cs.length = 14) (h : DataW.trod enc Try.prog w base (fun _ => true) held fuel 41 cs = some x) (hR : ∀ n ∈ x.1.weights Try.prog 41, n ≤ R) :
    ∃ y : IV, cs = icells y ∧ Big w y := by
  obtain ⟨ys, m, rfl, hy2, _, hys, hf⟩ := DataW.trod_struct Try.underlying41 h
  rw [hy2] at hR
  match cs, hl with
  | [v0, v1, v2, v3, v4, v5, v6, v7, v8, v9, v10, v11, v12, v13], _ =>
    match ys, hys with
    | [y0, y1, y2, y3, y4, y5, y6], _ =>
      have g0 : DataW.trod enc Try.prog w base (fun _ => true) held m 3 (List.take (Try.prog.cellsOf 3) (List.drop 0 [v0, v1, v2, v3, v4, v5, v6, v7, v8, v9, v10, v11, v12, v13])) = some y0 := hf 0 _ rfl
      rw [ncI] at g0
      have g1 : DataW.trod enc Try.prog w base (fun _ => true) held m 37 (List.take (Try.prog.cellsOf 37) (List.drop 1 [v0, v1, v2, v3, v4, v5, v6, v7, v8, v9, v10, v11, v12, v13])) = some y1 := hf 1 _ rfl
      rw [ncN] at g1
      have g2 : DataW.trod enc Try.prog w base (fun _ => true) held m 3 (List.take (Try.prog.cellsOf 3) (List.drop 9 [v0, v1, v2, v3, v4, v5, v6, v7, v8, v9, v10, v11, v12, v13])) = some y2 := hf 2 _ rfl
      rw [ncI] at g2
      have g3 : DataW.trod enc Try.prog w base (fun _ => true) held m 3 (List.take (Try.prog.cellsOf 3) (List.drop 10 [v0, v1, v2, v3, v4, v5, v6, v7, v8, v9, v10, v11, v12, v13])) = some y3 := hf 3 _ rfl
      rw [ncI] at g3
      have g4 : DataW.trod enc Try.prog w base (fun _ => true) held m 4 (List.take (Try.prog.cellsOf 4) (List.drop 11 [v0, v1, v2, v3, v4, v5, v6, v7, v8, v9, v10, v11, v12, v13])) = some y4 := hf 4 _ rfl
      rw [ncB] at g4
      have g5 : DataW.trod enc Try.prog w base (fun _ => true) held m 38 (List.take (Try.prog.cellsOf 38) (List.drop 12 [v0, v1, v2, v3, v4, v5, v6, v7, v8, v9, v10, v11, v12, v13])) = some y5 := hf 5 _ rfl
      rw [ncTx] at g5
      have g6 : DataW.trod enc Try.prog w base (fun _ => true) held m 39 (List.take (Try.prog.cellsOf 39) (List.drop 13 [v0, v1, v2, v3, v4, v5, v6, v7, v8, v9, v10, v11, v12, v13])) = some y6 := hf 6 _ rfl
      rw [ncIs] at g6
      simp only [List.drop, List.take] at g0 g1 g2 g3 g4 g5 g6
      obtain ⟨z0, e0, _, b0⟩ := DataW.trod_int Try.underlying3 g0
      obtain ⟨z2, e2, _, _⟩ := DataW.trod_int Try.underlying3 g2
      obtain ⟨z3, e3, _, _⟩ := DataW.trod_int Try.underlying3 g3
      obtain ⟨z4, e4, _⟩ := DataW.trod_bool Try.underlying4 g4
      simp only [DataW.weights, Try.underlying41, List.map, DataW.weightsEach, List.mem_append] at hR
      obtain ⟨k, nm, g, az, ws, ks, bs, cz, a1, c1, a2, c2, a3, c3, a4, c4, a5, c5, e1, hh⟩ := (open_nl m).2.2 _ _ rfl g1 (fun n hn => hR n (by simp [hn]))
      obtain ⟨a6, c6, l6, e5, s6⟩ := open_texts _ _ _ g5 (fun n hn => hR n (by simp [hn]))
      obtain ⟨a7, c7, l7, e6, s7⟩ := open_ints _ _ _ g6 (fun n hn => hR n (by simp [hn]))
      simp only [nodeV, List.cons.injEq, and_true] at e0 e1 e2 e3 e4 e5 e6
      obtain ⟨f1, f2, f3, f4, f5, f6, f7, f8⟩ := e1
      subst e0 e2 e3 e4 e5 e6 f1 f2 f3 f4 f5 f6 f7 f8
      refine ⟨⟨z0, k, nm, g, az, ws, ks, bs, cz, a1, c1, a2, c2, a3, c3, a4, c4, a5, c5, z2, z3, z4, l6, a6, c6, l7, a7, c7⟩, rfl, ⟨hh, s6.2.1, fun j t hj => ?_, s7.2.1, fun j t hj => ?_⟩, of_i64 b0, fun t ht => ?_⟩
      · obtain ⟨b, o, e, hp⟩ := s6.get hj
        have hc := hp.1
        rw [Nat.mul_one] at hc
        exact ⟨b, o, e, hc⟩
      · obtain ⟨b, o, e, hp⟩ := s7.get hj
        have hc : w.cell? ⟨b, o + j * 1, none⟩ = some (.int .i64 t) := hp
        rw [Nat.mul_one] at hc
        exact ⟨b, o, e, hc⟩
      · obtain ⟨j, hj⟩ := List.mem_iff_getElem?.1 ht
        obtain ⟨b, o, _, hp⟩ := s6.get hj
        exact hp.2
theorem open_items (fuel : Nat) (cs : List Value) (x : DataW H × List MemPlace) (h : DataW.trod enc Try.prog w base (fun _ => true) held fuel 27 cs = some x) (hR : ∀ n ∈ x.1.weights Try.prog 27, n ≤ R) :
    ∃ a cap, ∃ l : List IV, cs = [.slice a l.length cap] ∧ Sl 14 (P15 w) a cap l := by
  refine open_sl 14 232 Try.underlying27 ncItem (by decide) nbItem (by decide) (P15 w) fuel (fun n _ cs y hl hy hRy => ?_) cs x h hR
  obtain ⟨z, e, hz⟩ := open_item n cs y hl hy hRy
  subst e
  exact ⟨z, fun b o hc => ⟨hz, hc⟩⟩
set_option maxRecDepth 100000 in
theorem open_acts (fuel : Nat) (cs : List Value) (x : DataW H × List MemPlace) (h : DataW.trod enc Try.prog w base (fun _ => true) held fuel 22 cs = some x) (hR : ∀ n ∈ x.1.weights Try.prog 22, n ≤ R) :
    ∃ a cap, ∃ l : List Ac, cs = [.slice a l.length cap] ∧ Sl 3 (PAc w) a cap l := by
  refine open_sl 3 40 Try.underlying22 ncAct (by decide) nbAct (by decide) (PAc w) fuel (fun n _ cs y hl hy hRy => ?_) cs x h hR
  obtain ⟨ys, m, rfl, hy2, _, hys, hf⟩ := DataW.trod_struct Try.underlying29 hy
  rw [hy2] at hRy
  match cs, hl with
  | [v0, v1, v2], _ =>
    match ys, hys with
    | [y0, y1, y2], _ =>
      have g0 : DataW.trod enc Try.prog w base (fun _ => true) held m 3 (List.take (Try.prog.cellsOf 3) (List.drop 0 [v0, v1, v2])) = some y0 := hf 0 _ rfl
      rw [ncI] at g0
      have g1 : DataW.trod enc Try.prog w base (fun _ => true) held m 3 (List.take (Try.prog.cellsOf 3) (List.drop 1 [v0, v1, v2])) = some y1 := hf 1 _ rfl
      rw [ncI] at g1
      have g2 : DataW.trod enc Try.prog w base (fun _ => true) held m 27 (List.take (Try.prog.cellsOf 27) (List.drop 2 [v0, v1, v2])) = some y2 := hf 2 _ rfl
      rw [ncIt] at g2
      simp only [List.drop, List.take] at g0 g1 g2
      obtain ⟨z0, e0, _, _⟩ := DataW.trod_int Try.underlying3 g0
      obtain ⟨z1, e1, _, b1⟩ := DataW.trod_int Try.underlying3 g1
      simp only [DataW.weights, Try.underlying29, List.map, DataW.weightsEach, List.mem_append] at hRy
      obtain ⟨a2, c2, l2, e2, s2⟩ := open_items _ _ _ g2 (fun n hn => hRy n (by simp [hn]))
      simp only [List.cons.injEq, and_true] at e0 e1 e2
      subst e0 e1 e2
      exact ⟨⟨z0, z1, l2, a2, c2⟩, fun b o hc => ⟨s2, of_i64 b1, hc⟩⟩
/-- An argument that is acts. -/
theorem acts_arg {W : World} {base : Nat} {v : Value} {d : DataW H} {p : List MemPlace} (hv : Value.okWide Try.prog W .any base 22 v) (h : DataW.Trod enc Try.prog W 0 (fun _ => true) true 22 v d p) (hw : ∀ n ∈ d.weights Try.prog 22, n ≤ R) :
    ∃ a cap, ∃ l : List Ac, v = .slice a l.length cap ∧ Sl 3 (PAc W) a cap l := by
  obtain ⟨a0, len, c0, rfl⟩ := okWide_slice Try.underlying22 hv
  obtain ⟨fuel, hf⟩ := h
  obtain ⟨a, cap, l, e, hs⟩ := open_acts fuel _ _ hf hw
  have e' : (Value.slice a0 len c0) = .slice a l.length cap := by simpa [Value.cells] using e
  exact ⟨a, cap, l, e', hs⟩
end
end Fra
end Go.Proofs.Ytbcldfaphnnmlaa
