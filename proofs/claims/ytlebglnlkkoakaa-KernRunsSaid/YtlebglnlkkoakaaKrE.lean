/- The reference's tables that are changed: with, Put, Take. -/
import Derived.Test.YtlebglnlkkoakaaKrD
import Derived.Deep.CutRange
namespace Go.Proofs.Ytlebglnlkkoakaa
open Go.RowKit Go.Maps
namespace Kn
theorem infoProc : (Try.prog.info? 73).map (fun i => (i.zero, i.size, i.bytes)) = some (some (.agg #[.int .i64 0, .int .i64 0, .int .i64 0, .bool false, .int .u32 0, .int .u32 0, .int .u32 0]), 7, 40) := by kernel_rfl
/-- The reference's table: its rows. -/
structure RT (w : World) (B : Nat) (lv ev : Value) (t : T) : Prop where
  l : w.ownsRow B 73 7 lv t.l.length (lcells t.l)
  e : w.ownsRow B 87 2 ev t.ends.length (ecells t.ends)
theorem RT.at {w : World} {B : Nat} {lv ev : Value} {t : T} (h : RT w B lv ev t) : LAt w lv t.l := LAt.own (B := B) h.l
theorem RT.stay {w w' : World} {B : Nat} {lv ev : Value} {t : T} (h : RT w B lv ev t) (hb : Below w.heap.size w w') : RT w' B lv ev t := ⟨own_stays h.l hb, own_stays h.e hb⟩
/-- A call on it that gives another one. -/
structure RCh (w : World) (B : Nat) (lv ev : Value) (t' : T) (lv' ev' : Value) (w' : World) : Prop where
  rt : RT w' B lv' ev' t'
  below : Below w.heap.size w w'
  l : ∀ k, lv'.ownBlock = some k → lv.ownBlock = some k ∨ w.heap.size ≤ k
  e : ∀ k, ev'.ownBlock = some k → ev.ownBlock = some k ∨ w.heap.size ≤ k
theorem RCh.refl {w w' : World} {B : Nat} {lv ev : Value} {t : T} (h : RT w B lv ev t) (hb : Below w.heap.size w w') : RCh w B lv ev t lv ev w' := ⟨h.stay hb, hb, fun _ e => .inl e, fun _ e => .inl e⟩
theorem lcells_one {l : List P} : ∀ u ∈ lcells l, u.oneCell' = true := by
  intro u hu
  unfold lcells at hu
  obtain ⟨e, _, hu⟩ := List.mem_flatMap.1 hu
  simp [qcells] at hu
  rcases hu with rfl | rfl | rfl | rfl | rfl | rfl | rfl <;> rfl
theorem LAt.news {w w' : World} {v : Value} {l : List P} {g cap : Nat} (h : LAt w v l) (hv : v = .slice (some ⟨g, 0, none⟩) l.length cap) (hb : Below w.heap.size w w') : ∀ j u, (lcells l)[j]? = some u → w'.cell? ((⟨g, 0, none⟩ : Addr).add j) = some u := by
  intro j u hj
  have hjl := (List.getElem?_eq_some_iff.1 hj).1
  rw [lcells_len] at hjl
  have hk : j / 7 < l.length := by omega
  obtain ⟨a, c, e, hc⟩ := h
  obtain ⟨b, e2, hbl, hcell⟩ := hc (j / 7) _ (List.getElem?_eq_getElem hk)
  rw [e, e2] at hv
  have eb : b = g := by cases hv; rfl
  subst eb
  have hat := lcells_at (List.getElem?_eq_getElem hk) (j % 7) (Nat.mod_lt _ (by omega))
  rw [show j / 7 * 7 + j % 7 = j by omega, hj] at hat
  have := hcell (j % 7) u hat.symm
  rw [show j / 7 * 7 + j % 7 = j by omega] at this
  rw [Addr.add_lit, Nat.zero_add]
  exact (World.cell?_of_block (hb.block b hbl)).trans this
theorem row7 {w : World} {g k : Nat} {T : TypeId} {cur : Array Value} (h : w.heap[g]? = some (.cells cur T (0, 0))) (u0 u1 u2 u3 u4 u5 u6 : Value) :
    (((((((w.setCell ⟨g, k * 7, none⟩ u0).setCell ⟨g, k * 7 + 1, none⟩ u1).setCell ⟨g, k * 7 + 2, none⟩ u2).setCell ⟨g, k * 7 + 3, none⟩ u3).setCell ⟨g, k * 7 + 4, none⟩ u4).setCell ⟨g, k * 7 + 5, none⟩ u5).setCell ⟨g, k * 7 + 6, none⟩ u6).heap[g]? = some (.cells (((((((cur.setIfInBounds (k * 7) u0).setIfInBounds (k * 7 + 1) u1).setIfInBounds (k * 7 + 2) u2).setIfInBounds (k * 7 + 3) u3).setIfInBounds (k * 7 + 4) u4).setIfInBounds (k * 7 + 5) u5).setIfInBounds (k * 7 + 6) u6) T (0, 0)) := by
  have e : (w.setCell ⟨g, k * 7, none⟩ u0).heap[g]? = some (.cells (cur.setIfInBounds (k * 7) u0) T (0, 0)) := heap_setCell_same _ _ _ _ _ u0 h
  generalize w.setCell ⟨g, k * 7, none⟩ u0 = w at e ⊢
  have h := e
  clear e
  have e : (w.setCell ⟨g, k * 7 + 1, none⟩ u1).heap[g]? = some (.cells ((cur.setIfInBounds (k * 7) u0).setIfInBounds (k * 7 + 1) u1) T (0, 0)) := heap_setCell_same _ _ _ _ _ u1 h
  generalize w.setCell ⟨g, k * 7 + 1, none⟩ u1 = w at e ⊢
  have h := e
  clear e
  have e : (w.setCell ⟨g, k * 7 + 2, none⟩ u2).heap[g]? = some (.cells (((cur.setIfInBounds (k * 7) u0).setIfInBounds (k * 7 + 1) u1).setIfInBounds (k * 7 + 2) u2) T (0, 0)) := heap_setCell_same _ _ _ _ _ u2 h
  generalize w.setCell ⟨g, k * 7 + 2, none⟩ u2 = w at e ⊢
  have h := e
  clear e
  have e : (w.setCell ⟨g, k * 7 + 3, none⟩ u3).heap[g]? = some (.cells ((((cur.setIfInBounds (k * 7) u0).setIfInBounds (k * 7 + 1) u1).setIfInBounds (k * 7 + 2) u2).setIfInBounds (k * 7 + 3) u3) T (0, 0)) := heap_setCell_same _ _ _ _ _ u3 h
  generalize w.setCell ⟨g, k * 7 + 3, none⟩ u3 = w at e ⊢
  have h := e
  clear e
  have e : (w.setCell ⟨g, k * 7 + 4, none⟩ u4).heap[g]? = some (.cells (((((cur.setIfInBounds (k * 7) u0).setIfInBounds (k * 7 + 1) u1).setIfInBounds (k * 7 + 2) u2).setIfInBounds (k * 7 + 3) u3).setIfInBounds (k * 7 + 4) u4) T (0, 0)) := heap_setCell_same _ _ _ _ _ u4 h
  generalize w.setCell ⟨g, k * 7 + 4, none⟩ u4 = w at e ⊢
  have h := e
  clear e
  have e : (w.setCell ⟨g, k * 7 + 5, none⟩ u5).heap[g]? = some (.cells ((((((cur.setIfInBounds (k * 7) u0).setIfInBounds (k * 7 + 1) u1).setIfInBounds (k * 7 + 2) u2).setIfInBounds (k * 7 + 3) u3).setIfInBounds (k * 7 + 4) u4).setIfInBounds (k * 7 + 5) u5) T (0, 0)) := heap_setCell_same _ _ _ _ _ u5 h
  generalize w.setCell ⟨g, k * 7 + 5, none⟩ u5 = w at e ⊢
  have h := e
  clear e
  have e : (w.setCell ⟨g, k * 7 + 6, none⟩ u6).heap[g]? = some (.cells (((((((cur.setIfInBounds (k * 7) u0).setIfInBounds (k * 7 + 1) u1).setIfInBounds (k * 7 + 2) u2).setIfInBounds (k * 7 + 3) u3).setIfInBounds (k * 7 + 4) u4).setIfInBounds (k * 7 + 5) u5).setIfInBounds (k * 7 + 6) u6) T (0, 0)) := heap_setCell_same _ _ _ _ _ u6 h
  exact e
theorem other7 (w : World) (g k : Nat) (u0 u1 u2 u3 u4 u5 u6 : Value) {j : Nat} (hj : j ≠ g) : (((((((w.setCell ⟨g, k * 7, none⟩ u0).setCell ⟨g, k * 7 + 1, none⟩ u1).setCell ⟨g, k * 7 + 2, none⟩ u2).setCell ⟨g, k * 7 + 3, none⟩ u3).setCell ⟨g, k * 7 + 4, none⟩ u4).setCell ⟨g, k * 7 + 5, none⟩ u5).setCell ⟨g, k * 7 + 6, none⟩ u6).heap[j]? = w.heap[j]? := by
  rw [Below.heap_setCell _ _ _ _ hj, Below.heap_setCell _ _ _ _ hj, Below.heap_setCell _ _ _ _ hj, Below.heap_setCell _ _ _ _ hj, Below.heap_setCell _ _ _ _ hj, Below.heap_setCell _ _ _ _ hj, Below.heap_setCell _ _ _ _ hj]
theorem set7_at (cur : Array Value) (k : Nat) (u0 u1 u2 u3 u4 u5 u6 : Value) (hk : k * 7 + 7 ≤ cur.size) (j : Nat) :
    (((((((cur.setIfInBounds (k * 7) u0).setIfInBounds (k * 7 + 1) u1).setIfInBounds (k * 7 + 2) u2).setIfInBounds (k * 7 + 3) u3).setIfInBounds (k * 7 + 4) u4).setIfInBounds (k * 7 + 5) u5).setIfInBounds (k * 7 + 6) u6)[j]? = if k * 7 ≤ j ∧ j < k * 7 + 7 then [u0, u1, u2, u3, u4, u5, u6][j - k * 7]? else cur[j]? := by
  by_cases h : k * 7 ≤ j ∧ j < k * 7 + 7
  · rw [if_pos h]
    obtain ⟨i, rfl⟩ : ∃ i, j = k * 7 + i := ⟨j - k * 7, by omega⟩
    have hi : i < 7 := by omega
    rw [show k * 7 + i - k * 7 = i by omega]
    have e : ∀ a, k * 7 + a = k * 7 + i ↔ a = i := fun a => by omega
    obtain rfl | rfl | rfl | rfl | rfl | rfl | rfl : i = 0 ∨ i = 1 ∨ i = 2 ∨ i = 3 ∨ i = 4 ∨ i = 5 ∨ i = 6 := by omega
    all_goals
      simp only [Array.getElem?_setIfInBounds, Array.size_setIfInBounds]
      repeat (first | rw [if_neg (by omega)] | rw [if_pos trivial] | rw [if_pos (by omega)])
    all_goals rfl
  · rw [if_neg h]
    simp only [Array.getElem?_setIfInBounds]
    rw [if_neg (by omega), if_neg (by omega), if_neg (by omega), if_neg (by omega), if_neg (by omega), if_neg (by omega), if_neg (by omega)]
theorem own_set7 {w : World} {base g cap k : Nat} {l : List P} (h : w.ownsRow base 73 7 (.slice (some ⟨g, 0, none⟩) l.length cap) l.length (lcells l)) (hk : k < l.length) (p : P) :
    (((((((w.setCell ⟨g, k * 7, none⟩ (.int .i64 p.pid)).setCell ⟨g, k * 7 + 1, none⟩ (.int .i64 p.par)).setCell ⟨g, k * 7 + 2, none⟩ (.int .i64 p.st)).setCell ⟨g, k * 7 + 3, none⟩ (.bool p.live)).setCell ⟨g, k * 7 + 4, none⟩ (.int .u32 p.ig)).setCell ⟨g, k * 7 + 5, none⟩ (.int .u32 p.ca)).setCell ⟨g, k * 7 + 6, none⟩ (.int .u32 p.pe)).ownsRow base 73 7 (.slice (some ⟨g, 0, none⟩) l.length cap) (l.set k p).length (lcells (l.set k p)) := by
  obtain ⟨_, ⟨e, _⟩ | ⟨g', cap', cur, e, hg, hh, h1, h2, h3, h4⟩⟩ := h
  · cases e
  · cases e
    have hk7 : k * 7 + 7 ≤ cur.size := by omega
    refine ⟨lcells_len _, .inr ⟨g, cap, _, by rw [List.length_set], hg, row7 hh _ _ _ _ _ _ _, by rw [List.length_set]; exact h1, h2, by simp [h3], ?_⟩⟩
    rw [List.length_set]
    apply List.ext_getElem?
    intro j
    by_cases hj : j < l.length * 7
    · rw [List.getElem?_take_of_lt hj, Array.getElem?_toList, set7_at cur k _ _ _ _ _ _ _ hk7]
      have hjr : j / 7 < l.length := by omega
      have hat := lcells_at (l := l.set k p) (j := j / 7) (p := (l.set k p)[j / 7]'(by rw [List.length_set]; exact hjr)) (List.getElem?_eq_getElem _) (j % 7) (Nat.mod_lt _ (by omega))
      have hal := lcells_at (l := l) (j := j / 7) (p := l[j / 7]) (List.getElem?_eq_getElem _) (j % 7) (Nat.mod_lt _ (by omega))
      rw [show j / 7 * 7 + j % 7 = j by omega] at hat hal
      rw [hat, List.getElem_set]
      by_cases hjk : k = j / 7
      · rw [if_pos (by omega), if_pos hjk, show j - k * 7 = j % 7 by omega]; rfl
      · rw [if_neg (by omega), if_neg hjk, ← hal]
        have := congrArg (fun z => z[j]?) h4
        rw [List.getElem?_take_of_lt hj, Array.getElem?_toList] at this
        exact this
    · rw [List.getElem?_take_eq_none (by omega), List.getElem?_eq_none (by rw [lcells_len, List.length_set]; omega)]
/-- A goal that the walk leaves alone. -/
def Hold (p : Prop) : Prop := p
theorem hold {p : Prop} (h : Hold p) : p := h
theorem Hold.out {p : Prop} (h : p) : Hold p := h
theorem ends_shape {w : World} {B : Nat} {v : Value} {n : Nat} {xs : List Value} {e : TypeId} {size : Nat} (h : w.ownsRow B e size v n xs) : ∃ a n cap, v = .slice a n cap := by
  rcases h.2 with ⟨rfl, rfl⟩ | ⟨g, cap, cur, rfl, _⟩
  · exact ⟨_, _, _, rfl⟩
  · exact ⟨_, _, _, rfl⟩
theorem put3 {w : World} {g : Nat} {T : TypeId} {a b c : Value} (h : w.heap[g]? = some (.cells #[a, b, c] T (0, 0))) (x y z : Value) :
    (((w.setCell ⟨g, 0, none⟩ x).setCell ⟨g, 1, none⟩ y).setCell ⟨g, 2, none⟩ z).heap[g]? = some (.cells #[x, y, z] T (0, 0)) :=
  heap_setCell_same _ _ 2 _ _ z (heap_setCell_same _ _ 1 _ _ y (heap_setCell_same _ _ 0 _ _ x h))
/-- The row that was made. -/
theorem row_new {w : World} {base n : Nat} {v : Value} {xs : List Value} {e : TypeId} {size : Nat} (h : w.ownsRow base e size v n xs) (hn : 0 < n) : ∃ g cap cur, v = .slice (some ⟨g, 0, none⟩) n cap ∧ base ≤ g ∧ w.heap[g]? = some (.cells cur e (0, 0)) ∧ n ≤ cap ∧ cap ≤ maxLen ∧ cur.size = cap * size ∧ cur.toList.take (n * size) = xs := by
  rcases h.2 with ⟨_, h0⟩ | ⟨g, cap, cur, rfl, hg, hb, h1, h2, h3, h4⟩
  · omega
  · exact ⟨g, cap, cur, rfl, hg, hb, h1, h2, h3, h4⟩
theorem with_facts {w W w5 : World} {A B C : Obj} {n : Nat} (hg : W.grownBy w5 (Value.ownBlock (.slice (some ⟨w.heap.size + 1 + 1 + 1, 0, none⟩) 0 n))) (h0 : W.heap[w.heap.size]? = some A) (h1 : W.heap[w.heap.size + 1]? = some B) (h2 : W.heap[w.heap.size + 1 + 1]? = some C) :
    w5.heap[w.heap.size]? = some A ∧ w5.heap[w.heap.size + 1]? = some B ∧ w5.heap[w.heap.size + 1 + 1]? = some C := by
  have ne : ∀ k, k < w.heap.size + 1 + 1 + 1 → some k ≠ Value.ownBlock (.slice (some ⟨w.heap.size + 1 + 1 + 1, 0, none⟩) 0 n) := fun k hk e => by
    have e : k = w.heap.size + 1 + 1 + 1 := Option.some.inj e
    omega
  exact ⟨(hg.block _ (Array.getElem?_eq_some_iff.1 h0).1 (ne _ (by omega))).trans h0, (hg.block _ (Array.getElem?_eq_some_iff.1 h1).1 (ne _ (by omega))).trans h1, (hg.block _ (Array.getElem?_eq_some_iff.1 h2).1 (ne _ (by omega))).trans h2⟩
set_option maxRecDepth 4000 in
set_option maxHeartbeats 1600000 in
theorem rwith_any {w : World} {B : Nat} {t : T} {lv ev : Value} (hR : RT w B lv ev t) (hn : t.l.length ≤ 64) (hB : B ≤ w.heap.size) (k : Nat) (hk : k < t.l.length) (p : P) :
    Calls Try.prog 52 #[tv t lv ev, .int .i64 k, .agg #[.int .i64 p.pid, .int .i64 p.par, .int .i64 p.st, .bool p.live, .int .u32 p.ig, .int .u32 p.ca, .int .u32 p.pe]] w fun e w' => ∃ lv', e = .returned (tv { t with l := t.l.set k p } lv' ev) ∧ RCh w B lv ev { t with l := t.l.set k p } lv' ev w' := by
  obtain ⟨i0, hi, hz0, hz1, hz2⟩ := info_parts infoProc
  have HR := Lib.hid hR
  have HL := Lib.hid hR.at
  obtain ⟨b, cap, e, _⟩ := hR.at.reads (List.getElem?_eq_getElem hk)
  subst e
  clear hR
  unfold tv
  have hs1 : (w.alloc (.cells #[.slice (some ⟨b, 0, none⟩) t.l.length cap, .int .i64 t.last, ev] 31)).heap.size = w.heap.size + 1 := World.size_alloc _ _
  have hs2 : ((w.alloc (.cells #[.slice (some ⟨b, 0, none⟩) t.l.length cap, .int .i64 t.last, ev] 31)).alloc (.cells #[.int .i64 p.pid, .int .i64 p.par, .int .i64 p.st, .bool p.live, .int .u32 p.ig, .int .u32 p.ca, .int .u32 p.pe] 73)).heap.size = w.heap.size + 1 + 1 := by rw [World.size_alloc, hs1]
  have hs3 : (((w.alloc (.cells #[.slice (some ⟨b, 0, none⟩) t.l.length cap, .int .i64 t.last, ev] 31)).alloc (.cells #[.int .i64 p.pid, .int .i64 p.par, .int .i64 p.st, .bool p.live, .int .u32 p.ig, .int .u32 p.ca, .int .u32 p.pe] 73)).alloc (.cells #[.slice none 0 0, .int .i64 0, .slice none 0 0] 31)).heap.size = w.heap.size + 1 + 1 + 1 := by rw [World.size_alloc, hs2]
  have hs4 : ((((w.alloc (.cells #[.slice (some ⟨b, 0, none⟩) t.l.length cap, .int .i64 t.last, ev] 31)).alloc (.cells #[.int .i64 p.pid, .int .i64 p.par, .int .i64 p.st, .bool p.live, .int .u32 p.ig, .int .u32 p.ca, .int .u32 p.pe] 73)).alloc (.cells #[.slice none 0 0, .int .i64 0, .slice none 0 0] 31)).alloc (.cells #[] 73)).heap.size = w.heap.size + 1 + 1 + 1 + 1 := by rw [World.size_alloc, hs3]
  have ho : ((((w.alloc (.cells #[.slice (some ⟨b, 0, none⟩) t.l.length cap, .int .i64 t.last, ev] 31)).alloc (.cells #[.int .i64 p.pid, .int .i64 p.par, .int .i64 p.st, .bool p.live, .int .u32 p.ig, .int .u32 p.ca, .int .u32 p.pe] 73)).alloc (.cells #[.slice none 0 0, .int .i64 0, .slice none 0 0] 31)).alloc (.cells #[] 73)).ownsRow w.heap.size 73 7 (.slice (some ⟨w.heap.size + 1 + 1 + 1, 0, none⟩) 0 0) 0 [] := by
    have := World.ownsRow_made (base := w.heap.size) (e := 73) (size := 7) (((w.alloc (.cells #[.slice (some ⟨b, 0, none⟩) t.l.length cap, .int .i64 t.last, ev] 31)).alloc (.cells #[.int .i64 p.pid, .int .i64 p.par, .int .i64 p.st, .bool p.live, .int .u32 p.ig, .int .u32 p.ca, .int .u32 p.pe] 73)).alloc (.cells #[.slice none 0 0, .int .i64 0, .slice none 0 0] 31)) #[] 0 (by rw [hs3]; omega) (Nat.zero_le _) (by simp)
    rw [hs3] at this; exact this
  have hb1 := below_alloc w (.cells #[.slice (some ⟨b, 0, none⟩) t.l.length cap, .int .i64 t.last, ev] 31)
  have hb2 := below_alloc (w.alloc (.cells #[.slice (some ⟨b, 0, none⟩) t.l.length cap, .int .i64 t.last, ev] 31)) (.cells #[.int .i64 p.pid, .int .i64 p.par, .int .i64 p.st, .bool p.live, .int .u32 p.ig, .int .u32 p.ca, .int .u32 p.pe] 73)
  have hb3 := below_alloc ((w.alloc (.cells #[.slice (some ⟨b, 0, none⟩) t.l.length cap, .int .i64 t.last, ev] 31)).alloc (.cells #[.int .i64 p.pid, .int .i64 p.par, .int .i64 p.st, .bool p.live, .int .u32 p.ig, .int .u32 p.ca, .int .u32 p.pe] 73)) (.cells #[.slice none 0 0, .int .i64 0, .slice none 0 0] 31)
  have hb4 := below_alloc (((w.alloc (.cells #[.slice (some ⟨b, 0, none⟩) t.l.length cap, .int .i64 t.last, ev] 31)).alloc (.cells #[.int .i64 p.pid, .int .i64 p.par, .int .i64 p.st, .bool p.live, .int .u32 p.ig, .int .u32 p.ca, .int .u32 p.pe] 73)).alloc (.cells #[.slice none 0 0, .int .i64 0, .slice none 0 0] 31)) (.cells #[] 73)
  have hb34 : Below (w.heap.size + 1) (w.alloc (.cells #[.slice (some ⟨b, 0, none⟩) t.l.length cap, .int .i64 t.last, ev] 31)) ((((w.alloc (.cells #[.slice (some ⟨b, 0, none⟩) t.l.length cap, .int .i64 t.last, ev] 31)).alloc (.cells #[.int .i64 p.pid, .int .i64 p.par, .int .i64 p.st, .bool p.live, .int .u32 p.ig, .int .u32 p.ca, .int .u32 p.pe] 73)).alloc (.cells #[.slice none 0 0, .int .i64 0, .slice none 0 0] 31)).alloc (.cells #[] 73)) := (by rw [hs1] at hb2; exact hb2 : Below (w.heap.size + 1) (w.alloc (.cells #[.slice (some ⟨b, 0, none⟩) t.l.length cap, .int .i64 t.last, ev] 31)) ((w.alloc (.cells #[.slice (some ⟨b, 0, none⟩) t.l.length cap, .int .i64 t.last, ev] 31)).alloc (.cells #[.int .i64 p.pid, .int .i64 p.par, .int .i64 p.st, .bool p.live, .int .u32 p.ig, .int .u32 p.ca, .int .u32 p.pe] 73))).trans (((hb3.trans (hb4.mono hb3.size))).mono (by rw [hs2]; omega))
  have hbw : Below w.heap.size w ((((w.alloc (.cells #[.slice (some ⟨b, 0, none⟩) t.l.length cap, .int .i64 t.last, ev] 31)).alloc (.cells #[.int .i64 p.pid, .int .i64 p.par, .int .i64 p.st, .bool p.live, .int .u32 p.ig, .int .u32 p.ca, .int .u32 p.pe] 73)).alloc (.cells #[.slice none 0 0, .int .i64 0, .slice none 0 0] 31)).alloc (.cells #[] 73)) := hb1.trans (hb34.mono (by omega))
  have hx0 := (hb34.block w.heap.size (by omega)).trans (heap_alloc_new w (.cells #[.slice (some ⟨b, 0, none⟩) t.l.length cap, .int .i64 t.last, ev] 31))
  have hx1 : ((((w.alloc (.cells #[.slice (some ⟨b, 0, none⟩) t.l.length cap, .int .i64 t.last, ev] 31)).alloc (.cells #[.int .i64 p.pid, .int .i64 p.par, .int .i64 p.st, .bool p.live, .int .u32 p.ig, .int .u32 p.ca, .int .u32 p.pe] 73)).alloc (.cells #[.slice none 0 0, .int .i64 0, .slice none 0 0] 31)).alloc (.cells #[] 73)).heap[w.heap.size + 1]? = some ((.cells #[.int .i64 p.pid, .int .i64 p.par, .int .i64 p.st, .bool p.live, .int .u32 p.ig, .int .u32 p.ca, .int .u32 p.pe] 73) : Obj) := by
    have h1 := heap_alloc_new (w.alloc (.cells #[.slice (some ⟨b, 0, none⟩) t.l.length cap, .int .i64 t.last, ev] 31)) (.cells #[.int .i64 p.pid, .int .i64 p.par, .int .i64 p.st, .bool p.live, .int .u32 p.ig, .int .u32 p.ca, .int .u32 p.pe] 73)
    rw [hs1] at h1
    exact ((hb3.trans (hb4.mono hb3.size)).block (w.heap.size + 1) (by rw [hs2]; omega)).trans h1
  have hx2 : ((((w.alloc (.cells #[.slice (some ⟨b, 0, none⟩) t.l.length cap, .int .i64 t.last, ev] 31)).alloc (.cells #[.int .i64 p.pid, .int .i64 p.par, .int .i64 p.st, .bool p.live, .int .u32 p.ig, .int .u32 p.ca, .int .u32 p.pe] 73)).alloc (.cells #[.slice none 0 0, .int .i64 0, .slice none 0 0] 31)).alloc (.cells #[] 73)).heap[w.heap.size + 1 + 1]? = some ((.cells #[.slice none 0 0, .int .i64 0, .slice none 0 0] 31) : Obj) := by
    have h1 := heap_alloc_new ((w.alloc (.cells #[.slice (some ⟨b, 0, none⟩) t.l.length cap, .int .i64 t.last, ev] 31)).alloc (.cells #[.int .i64 p.pid, .int .i64 p.par, .int .i64 p.st, .bool p.live, .int .u32 p.ig, .int .u32 p.ca, .int .u32 p.pe] 73)) (.cells #[.slice none 0 0, .int .i64 0, .slice none 0 0] 31)
    rw [hs2] at h1
    exact (hb4.block (w.heap.size + 1 + 1) (by rw [hs3]; omega)).trans h1
  have HO := Lib.hid ho; have HBW := Lib.hid hbw; have HX0 := Lib.hid hx0; have HX1 := Lib.hid hx1; have HX2 := Lib.hid hx2
  have HNW := Lib.hid (HL.out.news (w' := ((((w.alloc (.cells #[.slice (some ⟨b, 0, none⟩) t.l.length cap, .int .i64 t.last, ev] 31)).alloc (.cells #[.int .i64 p.pid, .int .i64 p.par, .int .i64 p.st, .bool p.live, .int .u32 p.ig, .int .u32 p.ca, .int .u32 p.pe] 73)).alloc (.cells #[.slice none 0 0, .int .i64 0, .slice none 0 0] 31)).alloc (.cells #[] 73))) rfl hbw)
  have HLL := Lib.hid (lcells_len t.l)
  have HSZ := Lib.hid (show w.heap.size ≤ ((((w.alloc (.cells #[.slice (some ⟨b, 0, none⟩) t.l.length cap, .int .i64 t.last, ev] 31)).alloc (.cells #[.int .i64 p.pid, .int .i64 p.par, .int .i64 p.st, .bool p.live, .int .u32 p.ig, .int .u32 p.ca, .int .u32 p.pe] 73)).alloc (.cells #[.slice none 0 0, .int .i64 0, .slice none 0 0] 31)).alloc (.cells #[] 73)).heap.size by rw [hs4]; omega)
  clear hs1 hs2 hs3 hs4 ho hb1 hb2 hb3 hb4 hb34 hbw hx0 hx1 hx2
  go_enter Try.func52, Try.ntmps52
  go_wp2_with (at_builtin; refine wpList_append_own_at _ rfl _ _ 28 rfl w.heap.size 73 i0 (.agg #[.int .i64 0, .int .i64 0, .int .i64 0, .bool false, .int .u32 0, .int .u32 0, .int .u32 0]) 7 40 Try.underlying28 hi hz0 hz1 hz2 rfl (by decide) _ _ _ rfl HO.out ⟨b, 0, none⟩ t.l.length cap (lcells t.l) rfl HLL.out HNW.out lcells_one (by unfold maxLen; omega) (by omega) HSZ.out ?_; intro v' w5 hown5 hgrow5 hnil5 hloc5; refine hold ?_)
  refine Hold.out ?_
  rw [Nat.zero_add, List.nil_append] at hown5
  obtain ⟨g, cp, cur, rfl, hg0, hgr, hcur⟩ := row_new hown5 (by omega)
  obtain ⟨r0, r1, r2⟩ := with_facts hgrow5 HX0.out HX1.out HX2.out
  have HR0 := Lib.hid r0; have HR1 := Lib.hid r1; have HR2 := Lib.hid r2; have HGR := Lib.hid hgr; have HCUR := Lib.hid hcur; have HO5 := Lib.hid hown5; have HG5 := Lib.hid hgrow5; have HLC := Lib.hid hloc5
  have bq0 : w5.cell? ⟨w.heap.size + 1, 0, none⟩ = some (.int .i64 p.pid) := Lib.cell_of_heap r1 0
  have bq1 : w5.cell? ⟨w.heap.size + 1, 1, none⟩ = some (.int .i64 p.par) := Lib.cell_of_heap r1 1
  have bq2 : w5.cell? ⟨w.heap.size + 1, 2, none⟩ = some (.int .i64 p.st) := Lib.cell_of_heap r1 2
  have bq3 : w5.cell? ⟨w.heap.size + 1, 3, none⟩ = some (.bool p.live) := Lib.cell_of_heap r1 3
  have bq4 : w5.cell? ⟨w.heap.size + 1, 4, none⟩ = some (.int .u32 p.ig) := Lib.cell_of_heap r1 4
  have bq5 : w5.cell? ⟨w.heap.size + 1, 5, none⟩ = some (.int .u32 p.ca) := Lib.cell_of_heap r1 5
  have bq6 : w5.cell? ⟨w.heap.size + 1, 6, none⟩ = some (.int .u32 p.pe) := Lib.cell_of_heap r1 6
  have hq := List.getElem?_eq_getElem hk
  have HQ := Lib.hid hq
  generalize t.l[k] = q at hq HQ
  have hlat := LAt.own (B := w.heap.size) hown5
  obtain ⟨g', cp', eg, _, rd5⟩ := hlat.reads hq
  obtain rfl : g = g' := by cases eg; rfl
  have gq0 : w5.cell? ⟨g, k * 7, none⟩ = some (.int .i64 q.pid) := rd5 w5 (Below.refl _ _) 0 _ rfl
  have gf0 : w5.frozen? ⟨g, k * 7, none⟩ = false := frozen_of_row _ _ _ _ _ hgr
  have gq1 : w5.cell? ⟨g, k * 7 + 1, none⟩ = some (.int .i64 q.par) := rd5 w5 (Below.refl _ _) 1 _ rfl
  have gf1 : w5.frozen? ⟨g, k * 7 + 1, none⟩ = false := frozen_of_row _ _ _ _ _ hgr
  have gq2 : w5.cell? ⟨g, k * 7 + 2, none⟩ = some (.int .i64 q.st) := rd5 w5 (Below.refl _ _) 2 _ rfl
  have gf2 : w5.frozen? ⟨g, k * 7 + 2, none⟩ = false := frozen_of_row _ _ _ _ _ hgr
  have gq3 : w5.cell? ⟨g, k * 7 + 3, none⟩ = some (.bool q.live) := rd5 w5 (Below.refl _ _) 3 _ rfl
  have gf3 : w5.frozen? ⟨g, k * 7 + 3, none⟩ = false := frozen_of_row _ _ _ _ _ hgr
  have gq4 : w5.cell? ⟨g, k * 7 + 4, none⟩ = some (.int .u32 q.ig) := rd5 w5 (Below.refl _ _) 4 _ rfl
  have gf4 : w5.frozen? ⟨g, k * 7 + 4, none⟩ = false := frozen_of_row _ _ _ _ _ hgr
  have gq5 : w5.cell? ⟨g, k * 7 + 5, none⟩ = some (.int .u32 q.ca) := rd5 w5 (Below.refl _ _) 5 _ rfl
  have gf5 : w5.frozen? ⟨g, k * 7 + 5, none⟩ = false := frozen_of_row _ _ _ _ _ hgr
  have gq6 : w5.cell? ⟨g, k * 7 + 6, none⟩ = some (.int .u32 q.pe) := rd5 w5 (Below.refl _ _) 6 _ rfl
  have gf6 : w5.frozen? ⟨g, k * 7 + 6, none⟩ = false := frozen_of_row _ _ _ _ _ hgr
  have hg3 : w.heap.size + 1 + 1 + 1 ≤ g := by
    rcases hloc5 with e | e
    · have e : g = w.heap.size + 1 + 1 + 1 := Option.some.inj e
      omega
    · have e : g = _ := Option.some.inj e
      have := (Array.getElem?_eq_some_iff.1 HX2.out).1
      rw [World.size_alloc] at e this; rw [e]; omega
  have tq0 : w5.cell? ⟨w.heap.size, 0, none⟩ = some (.slice (some ⟨b, 0, none⟩) t.l.length cap) := Lib.cell_of_heap r0 0
  have tq1 : w5.cell? ⟨w.heap.size, 1, none⟩ = some (.int .i64 t.last) := Lib.cell_of_heap r0 1
  have tq2 : w5.cell? ⟨w.heap.size, 2, none⟩ = some ev := Lib.cell_of_heap r0 2
  have tf0 : w5.frozen? ⟨w.heap.size, 0, none⟩ = false := frozen_of_row _ _ _ _ _ r0
  have n0 : w.heap.size ≠ g := by omega
  have n1 : w.heap.size + 1 ≠ g := by omega
  have n2 : w.heap.size + 1 + 1 ≠ g := by omega
  have HB5 := Lib.hid (HBW.out.grown hgrow5 HSZ.out (fun j e => by have e : w.heap.size + 1 + 1 + 1 = j := Option.some.inj e; omega))
  clear r0 r1 r2 hgr hcur hown5 hgrow5 hloc5 hnil5 hq rd5 hlat eg
  go_upto_region 4 with fail
  have hown6 := own_set7 HO5.out hk p
  have hb6 : Below w.heap.size w (((((((w5.setCell ⟨g, k * 7, none⟩ (.int .i64 p.pid)).setCell ⟨g, k * 7 + 1, none⟩ (.int .i64 p.par)).setCell ⟨g, k * 7 + 2, none⟩ (.int .i64 p.st)).setCell ⟨g, k * 7 + 3, none⟩ (.bool p.live)).setCell ⟨g, k * 7 + 4, none⟩ (.int .u32 p.ig)).setCell ⟨g, k * 7 + 5, none⟩ (.int .u32 p.ca)).setCell ⟨g, k * 7 + 6, none⟩ (.int .u32 p.pe)) := below_set (below_set (below_set (below_set (below_set (below_set (below_set HB5.out hg0 _) hg0 _) hg0 _) hg0 _) hg0 _) hg0 _) hg0 _
  have hx6 := (other7 w5 g k (.int .i64 p.pid) (.int .i64 p.par) (.int .i64 p.st) (.bool p.live) (.int .u32 p.ig) (.int .u32 p.ca) (.int .u32 p.pe) n0).trans HR0.out
  have hz6 := (other7 w5 g k (.int .i64 p.pid) (.int .i64 p.par) (.int .i64 p.st) (.bool p.live) (.int .u32 p.ig) (.int .u32 p.ca) (.int .u32 p.pe) n2).trans HR2.out
  clear gq0 gq1 gq2 gq3 gq4 gq5 gq6 gf0 gf1 gf2 gf3 gf4 gf5 gf6 tq0 tq1 tq2 tf0 bq0 bq1 bq2 bq3 bq4 bq5 bq6 HR0 HR1 HR2 HO5 HB5
  generalize (((((((w5.setCell ⟨g, k * 7, none⟩ (.int .i64 p.pid)).setCell ⟨g, k * 7 + 1, none⟩ (.int .i64 p.par)).setCell ⟨g, k * 7 + 2, none⟩ (.int .i64 p.st)).setCell ⟨g, k * 7 + 3, none⟩ (.bool p.live)).setCell ⟨g, k * 7 + 4, none⟩ (.int .u32 p.ig)).setCell ⟨g, k * 7 + 5, none⟩ (.int .u32 p.ca)).setCell ⟨g, k * 7 + 6, none⟩ (.int .u32 p.pe)) = w6 at hown6 hb6 hx6 hz6 ⊢
  have hown7 := own_other hown6 (a := ⟨w.heap.size, 0, none⟩) (fun j e1 e2 => by have e1 : g = j := Option.some.inj e1; have e2 : j = w.heap.size := e2; omega) (.slice (some ⟨g, 0, none⟩) t.l.length cp)
  have hb7 := below_set hb6 (a := ⟨w.heap.size, 0, none⟩) (Nat.le_refl _) (.slice (some ⟨g, 0, none⟩) t.l.length cp)
  have hx7 : (w6.setCell ⟨w.heap.size, 0, none⟩ (.slice (some ⟨g, 0, none⟩) t.l.length cp)).heap[w.heap.size]? = some (.cells #[.slice (some ⟨g, 0, none⟩) t.l.length cp, .int .i64 t.last, ev] 31 (0, 0)) := heap_setCell_same _ _ 0 _ _ _ hx6
  have hz7 := (Below.heap_setCell w6 ⟨w.heap.size, 0, none⟩ (.slice (some ⟨g, 0, none⟩) t.l.length cp) (w.heap.size + 1 + 1) (fun e => by have e : w.heap.size + 1 + 1 = w.heap.size := e; omega)).trans hz6
  clear hown6 hb6 hx6 hz6
  generalize w6.setCell ⟨w.heap.size, 0, none⟩ (.slice (some ⟨g, 0, none⟩) t.l.length cp) = w7 at hown7 hb7 hx7 hz7 ⊢
  have a0 : w7.cell? ⟨w.heap.size, 0, none⟩ = some (.slice (some ⟨g, 0, none⟩) t.l.length cp) := Lib.cell_of_heap hx7 0
  have a1 : w7.cell? ⟨w.heap.size, 1, none⟩ = some (.int .i64 t.last) := Lib.cell_of_heap hx7 1
  have a2 : w7.cell? ⟨w.heap.size, 2, none⟩ = some ev := Lib.cell_of_heap hx7 2
  have z0 : w7.cell? ⟨w.heap.size + 1 + 1, 0, none⟩ = some (.slice none 0 0) := Lib.cell_of_heap hz7 0
  have z1 : w7.cell? ⟨w.heap.size + 1 + 1, 1, none⟩ = some (.int .i64 0) := Lib.cell_of_heap hz7 1
  have z2 : w7.cell? ⟨w.heap.size + 1 + 1, 2, none⟩ = some (.slice none 0 0) := Lib.cell_of_heap hz7 2
  have f0 : w7.frozen? ⟨w.heap.size + 1 + 1, 0, none⟩ = false := frozen_of_row _ _ _ _ _ hz7
  have f1 : w7.frozen? ⟨w.heap.size + 1 + 1, 1, none⟩ = false := frozen_of_row _ _ _ _ _ hz7
  have f2 : w7.frozen? ⟨w.heap.size + 1 + 1, 2, none⟩ = false := frozen_of_row _ _ _ _ _ hz7
  have HO7 := Lib.hid hown7; have HB7 := Lib.hid hb7; have HZ7 := Lib.hid hz7
  clear hown7 hb7 hx7 hz7
  obtain ⟨ea, en, ec, rfl⟩ := ends_shape HR.out.e
  go_wp2_with fail
  refine bodyPost_ret (results_cell_row rfl _ _ (w.heap.size + 1 + 1) _ _ _ _ rfl (put3 HZ7.out _ _ _) Try.underlying31 rfl (by kernel_rfl)) rfl ⟨_, rfl, ?_⟩
  have hb8 := below_set (below_set (below_set HB7.out (a := ⟨w.heap.size + 1 + 1, 0, none⟩) (by show w.heap.size ≤ w.heap.size + 1 + 1; omega) (.slice (some ⟨g, 0, none⟩) t.l.length cp)) (a := ⟨w.heap.size + 1 + 1, 1, none⟩) (by show w.heap.size ≤ w.heap.size + 1 + 1; omega) (.int .i64 t.last)) (a := ⟨w.heap.size + 1 + 1, 2, none⟩) (by show w.heap.size ≤ w.heap.size + 1 + 1; omega) (.slice ea en ec)
  refine ⟨⟨?_, own_stays HR.out.e hb8⟩, hb8, fun j e => .inr ?_, fun _ e => .inl e⟩
  · have h1 := own_other HO7.out (a := ⟨w.heap.size + 1 + 1, 0, none⟩) (fun j e1 e2 => by have e1 : g = j := Option.some.inj e1; have e2 : j = w.heap.size + 1 + 1 := e2; omega) (.slice (some ⟨g, 0, none⟩) t.l.length cp)
    have h2 := own_other h1 (a := ⟨w.heap.size + 1 + 1, 1, none⟩) (fun j e1 e2 => by have e1 : g = j := Option.some.inj e1; have e2 : j = w.heap.size + 1 + 1 := e2; omega) (.int .i64 t.last)
    have h3 := own_other h2 (a := ⟨w.heap.size + 1 + 1, 2, none⟩) (fun j e1 e2 => by have e1 : g = j := Option.some.inj e1; have e2 : j = w.heap.size + 1 + 1 := e2; omega) (.slice ea en ec)
    exact own_low h3 hB
  · have e : g = j := Option.some.inj e
    omega
end Kn
end Go.Proofs.Ytlebglnlkkoakaa
