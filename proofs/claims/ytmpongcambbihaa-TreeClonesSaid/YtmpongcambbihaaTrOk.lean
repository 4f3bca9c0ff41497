/- A clone that is held till its block is there. -/
import Derived.Test.YtmpongcambbihaaTrOj
import Derived.Test.YtmpongcambbihaaTrD
namespace Go.Proofs.Ytmpongcambbihaa
open Go.RowKit Go.Sort
namespace Ow
open Cls Pt Tr

theorem eqL_rfl {T : Type} {p : T → T → Bool} (h : ∀ x, p x x = true) : ∀ l : List T, eqL p l l = true
  | [] => rfl
  | x :: r => by simp only [eqL, h x, eqL_rfl h r, Bool.and_true]
theorem same_rfl : ∀ l : PL, same l l = true
  | .nil => rfl
  | .cons k q t o f r => by simp [same, same_rfl f, same_rfl r]
theorem sameN_rfl : ∀ l : NL, sameN l l = true
  | .nil => rfl
  | .node k nm g az ws ks bs cz r => by
    simp [sameN, sameN_rfl ks, sameN_rfl cz, sameN_rfl r, eqL_rfl same_rfl, eqL_rfl (p := sameA) (fun x => by simp [sameA, same_rfl]), eqL_rfl (p := ((· == ·) : Bool → Bool → Bool)) (fun x => by simp)]
  | .cse ps b r => by simp [sameN, sameN_rfl b, sameN_rfl r, eqL_rfl same_rfl]
theorem nodeEq_rfl (k : Int) (nm : ByteArray) (g : Bool) (az : List (ByteArray × PL)) (ws : List PL) (ks : NL) (bs : List Bool) (cz : NL) : nodeEq k nm g az ws ks bs cz k nm g az ws ks bs cz = true := by
  simp [nodeEq, sameN_rfl, eqL_rfl same_rfl, eqL_rfl (p := sameA) (fun x => by simp [sameA, same_rfl]), eqL_rfl (p := ((· == ·) : Bool → Bool → Bool)) (fun x => by simp)]

/-- What a clone has given, in blocks lo to hi, is there still. -/
def Got (N : Nat) (n : Nat) (d : NodeD) (vs : List Value) (lo hi : Nat) (W : World) : Prop :=
  N ≤ lo ∧ lo ≤ hi ∧ hi ≤ W.heap.size ∧ ∃ w1 w2 : World, w1.heap.size = lo ∧ w2.heap.size = hi ∧ Gives (EN n) w1 w2 vs d ∧ ∀ c, lo ≤ c → c < hi → W.heap[c]? = w2.heap[c]?
theorem Got.of {N n : Nat} {d : NodeD} {vs : List Value} {w1 w2 : World} (hN : N ≤ w1.heap.size) (hb : Below w1.heap.size w1 w2) (h : Gives (EN n) w1 w2 vs d) : Got N n d vs w1.heap.size w2.heap.size w2 :=
  ⟨hN, hb.size, Nat.le_refl _, w1, w2, rfl, rfl, h, fun _ _ _ => rfl⟩
theorem Got.keep {N n : Nat} {d : NodeD} {vs : List Value} {lo hi : Nat} {W W' : World} (h : Got N n d vs lo hi W) (hs : W.heap.size ≤ W'.heap.size) (hk : ∀ c, lo ≤ c → c < hi → W'.heap[c]? = W.heap[c]?) : Got N n d vs lo hi W' := by
  obtain ⟨h1, h2, h3, w1, w2, h4, h5, h6, h7⟩ := h
  exact ⟨h1, h2, Nat.le_trans h3 hs, w1, w2, h4, h5, h6, fun c hc1 hc2 => (hk c hc1 hc2).trans (h7 c hc1 hc2)⟩
theorem Got.below {N n : Nat} {d : NodeD} {vs : List Value} {lo hi : Nat} {W W' : World} (h : Got N n d vs lo hi W) (hb : Below W.heap.size W W') : Got N n d vs lo hi W' :=
  h.keep hb.size fun c _ hc => hb.block c (Nat.lt_of_lt_of_le hc h.2.2.1)
theorem Got.fr {N n : Nat} {d : NodeD} {vs : List Value} {lo hi b : Nat} {W W' : World} (h : Got N n d vs lo hi W) (hs : W.heap.size ≤ W'.heap.size) (hb : b < lo ∨ hi ≤ b) (hk : ∀ c, c ≠ b → W'.heap[c]? = W.heap[c]?) : Got N n d vs lo hi W' :=
  h.keep hs fun c h1 h2 => hk c (by omega)
theorem Got.en {N n : Nat} {d : NodeD} {vs : List Value} {lo hi b : Nat} {W : World} (h : Got N n d vs lo hi W) (hc : ∀ i v, vs[i]? = some v → W.cell? ⟨b, i, none⟩ = some v) : EN n W b 0 lo hi d := by
  obtain ⟨h1, h2, h3, w1, w2, rfl, rfl, h6, h7⟩ := h
  exact h6 W b 0 (fun i v hv => by rw [Nat.zero_add]; exact hc i v hv) h7
theorem stored9 (Wd : World) (bx : Nat) (v0 v1 v2 v3 v4 v5 v6 v7 u0 u1 u2 u3 u4 u5 u6 u7 : Value) (t : TypeId) (h : Wd.heap[bx]? = some (.cells #[u0, u1, u2, u3, u4, u5, u6, u7] t (0, 0))) :
    ((((((((Wd.setCell ⟨bx, 0, none⟩ v0).setCell ⟨bx, 1, none⟩ v1).setCell ⟨bx, 2, none⟩ v2).setCell ⟨bx, 3, none⟩ v3).setCell ⟨bx, 4, none⟩ v4).setCell ⟨bx, 5, none⟩ v5).setCell ⟨bx, 6, none⟩ v6).setCell ⟨bx, 7, none⟩ v7).heap[bx]? = some (.cells #[v0, v1, v2, v3, v4, v5, v6, v7] t (0, 0)) ∧
    FrP bx Wd ((((((((Wd.setCell ⟨bx, 0, none⟩ v0).setCell ⟨bx, 1, none⟩ v1).setCell ⟨bx, 2, none⟩ v2).setCell ⟨bx, 3, none⟩ v3).setCell ⟨bx, 4, none⟩ v4).setCell ⟨bx, 5, none⟩ v5).setCell ⟨bx, 6, none⟩ v6).setCell ⟨bx, 7, none⟩ v7) := by
  have g0 : (Wd.setCell ⟨bx, 0, none⟩ v0).heap[bx]? = some (.cells #[v0, u1, u2, u3, u4, u5, u6, u7] t (0, 0)) := heap_setCell_same _ _ 0 _ _ v0 h
  have g1 : ((Wd.setCell ⟨bx, 0, none⟩ v0).setCell ⟨bx, 1, none⟩ v1).heap[bx]? = some (.cells #[v0, v1, u2, u3, u4, u5, u6, u7] t (0, 0)) := heap_setCell_same _ _ 1 _ _ v1 g0
  have g2 : (((Wd.setCell ⟨bx, 0, none⟩ v0).setCell ⟨bx, 1, none⟩ v1).setCell ⟨bx, 2, none⟩ v2).heap[bx]? = some (.cells #[v0, v1, v2, u3, u4, u5, u6, u7] t (0, 0)) := heap_setCell_same _ _ 2 _ _ v2 g1
  have g3 : ((((Wd.setCell ⟨bx, 0, none⟩ v0).setCell ⟨bx, 1, none⟩ v1).setCell ⟨bx, 2, none⟩ v2).setCell ⟨bx, 3, none⟩ v3).heap[bx]? = some (.cells #[v0, v1, v2, v3, u4, u5, u6, u7] t (0, 0)) := heap_setCell_same _ _ 3 _ _ v3 g2
  have g4 : (((((Wd.setCell ⟨bx, 0, none⟩ v0).setCell ⟨bx, 1, none⟩ v1).setCell ⟨bx, 2, none⟩ v2).setCell ⟨bx, 3, none⟩ v3).setCell ⟨bx, 4, none⟩ v4).heap[bx]? = some (.cells #[v0, v1, v2, v3, v4, u5, u6, u7] t (0, 0)) := heap_setCell_same _ _ 4 _ _ v4 g3
  have g5 : ((((((Wd.setCell ⟨bx, 0, none⟩ v0).setCell ⟨bx, 1, none⟩ v1).setCell ⟨bx, 2, none⟩ v2).setCell ⟨bx, 3, none⟩ v3).setCell ⟨bx, 4, none⟩ v4).setCell ⟨bx, 5, none⟩ v5).heap[bx]? = some (.cells #[v0, v1, v2, v3, v4, v5, u6, u7] t (0, 0)) := heap_setCell_same _ _ 5 _ _ v5 g4
  have g6 : (((((((Wd.setCell ⟨bx, 0, none⟩ v0).setCell ⟨bx, 1, none⟩ v1).setCell ⟨bx, 2, none⟩ v2).setCell ⟨bx, 3, none⟩ v3).setCell ⟨bx, 4, none⟩ v4).setCell ⟨bx, 5, none⟩ v5).setCell ⟨bx, 6, none⟩ v6).heap[bx]? = some (.cells #[v0, v1, v2, v3, v4, v5, v6, u7] t (0, 0)) := heap_setCell_same _ _ 6 _ _ v6 g5
  have g7 : ((((((((Wd.setCell ⟨bx, 0, none⟩ v0).setCell ⟨bx, 1, none⟩ v1).setCell ⟨bx, 2, none⟩ v2).setCell ⟨bx, 3, none⟩ v3).setCell ⟨bx, 4, none⟩ v4).setCell ⟨bx, 5, none⟩ v5).setCell ⟨bx, 6, none⟩ v6).setCell ⟨bx, 7, none⟩ v7).heap[bx]? = some (.cells #[v0, v1, v2, v3, v4, v5, v6, v7] t (0, 0)) := heap_setCell_same _ _ 7 _ _ v7 g6
  exact ⟨g7, (((((((FrP.set Wd 0 v0).trans (FrP.set _ 1 v1)).trans (FrP.set _ 2 v2)).trans (FrP.set _ 3 v3)).trans (FrP.set _ 4 v4)).trans (FrP.set _ 5 v5)).trans (FrP.set _ 6 v6)).trans (FrP.set _ 7 v7)⟩
/-- A block lies out of an interval. -/
def Out (b lo hi : Nat) : Prop := b < lo ∨ hi ≤ b
/-- Both clones are there, each in a block of its own. -/
structure Both (W0 V : World) (T : TypeId) (n : Nat) (d : NodeD) (bx bz lo1 hi1 lo2 hi2 : Nat) (vs1 vs2 : List Value) : Prop where
  hb : Below W0.heap.size W0 V
  hx : V.heap[bx]? = some (.cells vs1.toArray T (0, 0))
  hz : V.heap[bz]? = some (.cells vs2.toArray T (0, 0))
  nx : W0.heap.size ≤ bx
  nz : W0.heap.size ≤ bz
  ne : bx ≠ bz
  g1 : Got W0.heap.size n d vs1 lo1 hi1 V
  g2 : Got W0.heap.size n d vs2 lo2 hi2 V
  x1 : Out bx lo1 hi1
  x2 : Out bx lo2 hi2
  z1 : Out bz lo1 hi1
  z2 : Out bz lo2 hi2
  le : hi1 ≤ lo2
theorem Got.frP {N n : Nat} {d : NodeD} {vs : List Value} {lo hi b : Nat} {W W' : World} (h : Got N n d vs lo hi W) (hf : FrP b W W') (hb : Out b lo hi) : Got N n d vs lo hi W' :=
  h.keep hf.size fun c h1 h2 => hf.block c (Nat.lt_of_lt_of_le h2 h.2.2.1) (by rcases hb with hb | hb <;> omega)
theorem Both.en1 {W0 V : World} {T : TypeId} {n : Nat} {d : NodeD} {bx bz lo1 hi1 lo2 hi2 : Nat} {vs1 vs2 : List Value} (h : Both W0 V T n d bx bz lo1 hi1 lo2 hi2 vs1 vs2) : EN n V bx 0 lo1 hi1 d :=
  h.g1.en fun i v hv => by rw [Lib.cell_of_heap h.hx i]; simpa using hv
theorem Both.en2 {W0 V : World} {T : TypeId} {n : Nat} {d : NodeD} {bx bz lo1 hi1 lo2 hi2 : Nat} {vs1 vs2 : List Value} (h : Both W0 V T n d bx bz lo1 hi1 lo2 hi2 vs1 vs2) : EN n V bz 0 lo2 hi2 d :=
  h.g2.en fun i v hv => by rw [Lib.cell_of_heap h.hz i]; simpa using hv
theorem Both.below {W0 V V' : World} {T : TypeId} {n : Nat} {d : NodeD} {bx bz lo1 hi1 lo2 hi2 : Nat} {vs1 vs2 : List Value} (h : Both W0 V T n d bx bz lo1 hi1 lo2 hi2 vs1 vs2) (hb : Below V.heap.size V V') : Both W0 V' T n d bx bz lo1 hi1 lo2 hi2 vs1 vs2 :=
  ⟨thru h.hb hb, (hb.block _ (Array.getElem?_eq_some_iff.1 h.hx).1).trans h.hx, (hb.block _ (Array.getElem?_eq_some_iff.1 h.hz).1).trans h.hz, h.nx, h.nz, h.ne, h.g1.below hb, h.g2.below hb, h.x1, h.x2, h.z1, h.z2, h.le⟩
theorem Both.sp {W0 V V2 : World} {T : TypeId} {n : Nat} {d : NodeD} {bx bz lo1 hi1 lo2 hi2 : Nat} {vs1 vs2 : List Value} (h : Both W0 V T n d bx bz lo1 hi1 lo2 hi2 vs1 vs2) (hs : Sp lo1 hi1 bx 0 V V2) :
    Below W0.heap.size W0 V2 ∧ EN n V2 bz 0 lo2 hi2 d ∧ V2.heap[bz]? = some (.cells vs2.toArray T (0, 0)) := by
  have n1 := h.nx
  have n2 := h.g1.1
  have hz := (hs.block bz (Array.getElem?_eq_some_iff.1 h.hz).1 h.z1 (Ne.symm h.ne))
  refine ⟨⟨hs.os.trans h.hb.os, hs.tape.trans h.hb.tape, hs.output.trans h.hb.output, Nat.le_trans h.hb.size hs.size, fun c hc => (hs.block c (Nat.lt_of_lt_of_le hc h.hb.size) (.inl (by omega)) (by omega)).trans (h.hb.block c hc)⟩, ?_, hz.trans h.hz⟩
  refine (stable_EN n).keep h.en2 (fun j _ => World.cell?_of_block (w := V) (a := ⟨bz, _, none⟩) hz) fun c h1 h2 => hs.block c (Nat.lt_of_lt_of_le h2 h.g2.2.2.1) (.inr (Nat.le_trans h.le h1)) ?_
  rcases h.x2 with hx | hx <;> omega
/-- A node that is owned holds. -/
theorem en_holds {n : Nat} {w : World} {b lo hi : Nat} {k : Int} {nm : ByteArray} {g : Bool} {az : List (ByteArray × PL)} {ws : List PL} {ks : NL} {bs : List Bool} {cz : NL} {y1 y2 y3 y4 y5 : Option Addr} {i1 i2 i3 i4 i5 : Nat} {T : TypeId}
    (h : EN (n + 1) w b 0 lo hi ⟨k, nm, g, az, ws, ks, bs, cz⟩) (hk : NL.okN ks true = true) (hc : NL.okN cz false = true)
    (hr : w.heap[b]? = some (.cells [.int .i64 k, .string nm, .bool g, .slice y1 az.length i1, .slice y2 ws.length i2, .slice y3 ks.len i3, .slice y4 bs.length i4, .slice y5 cz.len i5].toArray T (0, 0))) :
    Holds w nm az ws ks bs cz y1 i1 y2 i2 y3 i3 y4 i4 y5 i5 := by
  obtain ⟨a1, c1, a2, c2, a3, c3, a4, c4, a5, c5, h1, h2⟩ := own_node (own_nodes n) hk hc h
  have e : ∀ (j : Nat) (v v' : Value), (nodeV k nm g a1 az.length c1 a2 ws.length c2 a3 ks.len c3 a4 bs.length c4 a5 cz.len c5)[j]? = some v → w.cell? ⟨b, j, none⟩ = some v' → v = v' := fun j v v' hv hv' => by
    have := h1 j v hv
    rw [Nat.zero_add, hv'] at this
    exact (Option.some.inj this).symm
  have e3 := e 3 _ _ rfl (Lib.cell_of_heap hr 3)
  have e4 := e 4 _ _ rfl (Lib.cell_of_heap hr 4)
  have e5 := e 5 _ _ rfl (Lib.cell_of_heap hr 5)
  have e6 := e 6 _ _ rfl (Lib.cell_of_heap hr 6)
  have e7 := e 7 _ _ rfl (Lib.cell_of_heap hr 7)
  cases e3; cases e4; cases e5; cases e6; cases e7
  exact h2
end Ow
end Go.Proofs.Ytmpongcambbihaa
