/- The reference's Pieces, for all words. -/
/- Two rows of pieces, held against one another by the reference. -/
/- ExpandPieces: the law's walk. -/
import Derived.Test.YtoneabcbeikkhaaGreatDoorExL
import Derived.Maps.AppendAt
import Derived.Test.YtoneabcbeikkhaaGreatDoorFdKa
import Derived.Test.YtoneabcbeikkhaaGreatDoorExT
namespace Go.Proofs.YtoneabcbeikkhaaGreatDoor
open Go.RowKit Cls
namespace Ex
open Vr (St val Prs)
open Fld (Pc bs tx joinS cutP joinP weight Pcs pcells)
open Pt (PL Lies)
/-- All operators of a word are short. -/
def okSL : PL → Prop
  | .nil => True
  | .cons _ _ _ o f r => o.size ≤ 100000 ∧ okSL f ∧ okSL r
theorem okSL.drop : ∀ {n : Nat} {l : PL}, okSL l → okSL (l.drop n)
  | 0, _, h => h
  | n + 1, .nil, _ => trivial
  | n + 1, .cons _ _ _ _ _ r, h => okSL.drop (n := n) h.2.2
abbrev W3p (w : World) (vv av : Value) (s : St) : World := ((w.alloc (SBj vv av s)).alloc GB).alloc (.cells #[] 69)
theorem w3p_bel (w : World) (vv av : Value) (s : St) : Below w.heap.size w (W3p w vv av s) := by
  have h1 := Fld.below_alloc w (SBj vv av s)
  have h2 := h1.trans ((Fld.below_alloc (w.alloc (SBj vv av s)) GB).mono h1.size)
  exact h2.trans ((Fld.below_alloc _ _).mono h2.size)
theorem w3p_scope (w : World) (vv av : Value) (s : St) : (W3p w vv av s).heap[w.heap.size]? = some (.cells #[vv, av, .int .i64 s.st, .int .i64 s.la] 25 (0, 0)) :=
  bel_block (Fld.below_alloc _ _) (bel_block (Fld.below_alloc _ _) (heap_alloc_new w _))
theorem w3p_got (w : World) (vv av : Value) (s : St) : (W3p w vv av s).heap[w.heap.size + 1]? = some (.cells #[.slice none 0 0, .slice none 0 0, .slice none 0 0, .int .i64 0, .int .i64 0, .int .i64 0, .string ⟨#[]⟩] 42 (0, 0)) :=
  bel_block (Fld.below_alloc _ _) (Vr.new2 w _ _)
theorem w3p_row (w : World) (vv av : Value) (s : St) : (W3p w vv av s).ownsRow (w.heap.size + 1 + 1) 69 3 (.slice (some ⟨w.heap.size + 1 + 1, 0, none⟩) 0 0) 0 [] := by
  have hsz : ((w.alloc (SBj vv av s)).alloc GB).heap.size = w.heap.size + 1 + 1 := by simp [World.size_alloc]
  have h := World.ownsRow_made (e := 69) (size := 3) ((w.alloc (SBj vv av s)).alloc GB) #[] 0 (Nat.le_refl _) (Nat.zero_le _) rfl
  rw [hsz] at h
  exact h
/-- A row of pieces is no block of a Got, whatever that holds. -/
theorem Pv.neGot7 {w : World} {v : Value} {L : List Pc} {g : Nat} {x0 x1 x2 : Option Addr} {n0 n1 n2 c0 c1 c2 : Nat} {i3 i4 i5 : Int} {t : ByteArray} (h : Pv w v L) (hx : w.heap[g]? = some (.cells #[.slice x0 n0 c0, .slice x1 n1 c1, .slice x2 n2 c2, .int .i64 i3, .int .i64 i4, .int .i64 i5, .string t] 42 (0, 0))) : L ≠ [] → ∀ k, v.ownBlock = some k → k ≠ g := by
  intro hne k hk e
  subst e
  obtain ⟨a, c, rfl, hp, hn⟩ := h
  rcases hp with hp | ⟨b, o, rfl, hlt, hp⟩
  · exact absurd hp hne
  · cases hk
    have h0 := hp 0 (List.length_pos_iff.2 hne)
    have c0 := h0.1
    have c1 := h0.2.1
    rw [cell_of_row _ _ _ _ _ _ hx] at c0 c1
    simp only [Nat.zero_mul, Nat.add_zero] at c0 c1
    match o, c0, c1 with
    | 0, c0, _ => simp at c0
    | 1, c0, _ => simp at c0
    | 2, c0, _ => simp at c0
    | 3, c0, _ => simp at c0
    | 4, c0, _ => simp at c0
    | 5, c0, _ => simp at c0
    | 6, _, c1 => simp at c1
    | o + 7, c0, _ => simp at c0
theorem Prs_neGot7 {w : World} {v : Value} {vs : Vr.Vs} {g : Nat} {x0 x1 x2 : Option Addr} {n0 n1 n2 c0 c1 c2 : Nat} {i3 i4 i5 : Int} {t : ByteArray} (h : Prs w v vs) (hx : w.heap[g]? = some (.cells #[.slice x0 n0 c0, .slice x1 n1 c1, .slice x2 n2 c2, .int .i64 i3, .int .i64 i4, .int .i64 i5, .string t] 42 (0, 0))) : vs ≠ [] → ∀ k, v.ownBlock = some k → k ≠ g := by
  intro hne k hk e
  subst e
  rcases h with ⟨h, _⟩ | ⟨b, o, cap, rfl, h1, h2, h3⟩
  · exact absurd h hne
  · cases hk
    cases vs with
    | nil => exact absurd rfl hne
    | cons p r =>
      have h0 := h3 0 p rfl
      have c0 := h0.1
      have c1 := h0.2
      rw [cell_of_row _ _ _ _ _ _ hx] at c0 c1
      simp only [Nat.mul_zero, Nat.add_zero] at c0 c1
      match o, c0, c1 with
      | 0, c0, _ => simp at c0
      | 1, c0, _ => simp at c0
      | 2, c0, _ => simp at c0
      | 3, c0, _ => simp at c0
      | 4, c0, _ => simp at c0
      | 5, c0, _ => simp at c0
      | 6, _, c1 => simp at c1
      | o + 7, c0, _ => simp at c0
theorem Pv.neS {w : World} {v : Value} {L : List Pc} {g : Nat} {x0 x1 : Option Addr} {n0 n1 c0 c1 : Nat} {i3 i4 : Int} {T : TypeId} (h : Pv w v L) (hx : w.heap[g]? = some (.cells #[.slice x0 n0 c0, .slice x1 n1 c1, .int .i64 i3, .int .i64 i4] T (0, 0))) : L ≠ [] → ∀ k, v.ownBlock = some k → k ≠ g := by
  intro hne k hk e
  subst e
  obtain ⟨a, c, rfl, hp, hn⟩ := h
  rcases hp with hp | ⟨b, o, rfl, hlt, hp⟩
  · exact absurd hp hne
  · cases hk
    have h0 := hp 0 (List.length_pos_iff.2 hne)
    have c0 := h0.1
    rw [cell_of_row _ _ _ _ _ _ hx] at c0
    simp only [Nat.zero_mul, Nat.add_zero] at c0
    match o, c0 with
    | 0, c0 => simp at c0
    | 1, c0 => simp at c0
    | 2, c0 => simp at c0
    | 3, c0 => simp at c0
    | o + 4, c0 => simp at c0
theorem Prs_neS {w : World} {v : Value} {vs : Vr.Vs} {g : Nat} {x0 x1 : Option Addr} {n0 n1 c0 c1 : Nat} {i3 i4 : Int} {T : TypeId} (h : Prs w v vs) (hx : w.heap[g]? = some (.cells #[.slice x0 n0 c0, .slice x1 n1 c1, .int .i64 i3, .int .i64 i4] T (0, 0))) : vs ≠ [] → ∀ k, v.ownBlock = some k → k ≠ g := by
  intro hne k hk e
  subst e
  rcases h with ⟨h, _⟩ | ⟨b, o, cap, rfl, h1, h2, h3⟩
  · exact absurd h hne
  · cases hk
    cases vs with
    | nil => exact absurd rfl hne
    | cons p r =>
      have c0 := (h3 0 p rfl).1
      rw [cell_of_row _ _ _ _ _ _ hx] at c0
      simp only [Nat.mul_zero, Nat.add_zero] at c0
      match o, c0 with
      | 0, c0 => simp at c0
      | 1, c0 => simp at c0
      | 2, c0 => simp at c0
      | 3, c0 => simp at c0
      | o + 4, c0 => simp at c0
/-- Pieces are appended to a row of its own: where it lies then. -/
theorem append_pcs_at {w : World} {ops : Array Oper} {rest : List Oper} {o : Oper} {a : Act} {Q : Exit → Act → World → Prop} (hgd : o.guard = none) (s x : Operand)
    (ho : o.op = .call { callee := .builtin .append, args := #[s, x], argTypes := #[34, 34] })
    (base : Nat) (v : Value) (n : Nat) (xs : List Value) (hs : a.eval s = v) (hown : w.ownsRow base 69 3 v n xs)
    (sa : Option Addr) (c : Nat) (ps : List Pc) (hx : a.eval x = .slice sa ps.length c) (ht : Pcs w sa ps) (hnil : sa = none → c = 0)
    (h63 : n + ps.length ≤ maxLen) (hbytes : (n + ps.length) * 24 ≤ 140737488355328) (hbase : base ≤ w.heap.size)
    (h : ∀ v' w', w'.ownsRow base 69 3 v' (n + ps.length) (xs ++ pcells ps) → w.grownBy w' v.ownBlock → (v'.ownBlock = v.ownBlock ∨ v'.ownBlock = some w.heap.size) → wpList Tryz.prog ops Q rest (a.put o.dst v') w') : wpList Tryz.prog ops Q (o :: rest) a w := by
  obtain ⟨i0, hi0, hz0, hz1, hz2⟩ := info_parts Fld.infoPc
  cases sa with
  | none =>
    obtain rfl : ps = [] := by
      rcases ht with h | ⟨b, o, h, _⟩
      · exact h
      · cases h
    obtain rfl := hnil rfl
    refine wpList_append_own_none hgd s x 34 ho base 69 i0 3 Tryz.underlying34 hi0 v n xs hs hown hx (h v w ?_ (World.grownBy.refl _ _) (.inl rfl))
    simpa [pcells] using hown
  | some ad =>
    refine wpList_append_own_at (w := w) hgd s x 34 ho base 69 i0 (.agg #[.string ⟨#[]⟩, .bool false, .bool false]) 3 24 Tryz.underlying34 hi0 hz0 hz1 hz2 rfl (by decide) v n xs hs hown ad ps.length c (pcells ps) hx (Fld.pcells_len ps) ?_ (Fld.pcells_one ps) h63 hbytes hbase (fun v' w' h1 h2 _ h4 => h v' w' h1 h2 h4)
    intro j u hj
    by_cases hne : ps = []
    · subst hne; simp [pcells] at hj
    · obtain ⟨b, o, h, hc⟩ := ht.cells hne
      cases h
      rw [Go.WideShapes.add_plain]
      exact hc j u hj
theorem Prs_lt {w : World} {v : Value} {vs : Vr.Vs} (h : Prs w v vs) (hne : vs ≠ []) : ∀ j, v.ownBlock = some j → j < w.heap.size := by
  rcases h with ⟨h, _⟩ | ⟨b, off, cap, rfl, h1, h2, h3⟩
  · exact absurd h hne
  · intro j e; cases e; exact h2
theorem put4 {w : World} {g : Nat} {T : TypeId} {a0 a1 a2 a3 : Value} (h : w.heap[g]? = some (.cells #[a0, a1, a2, a3] T (0, 0))) (x0 x1 x2 x3 : Value) :
    ((((w.setCell ⟨g, 0, none⟩ x0).setCell ⟨g, 1, none⟩ x1).setCell ⟨g, 2, none⟩ x2).setCell ⟨g, 3, none⟩ x3).heap[g]? = some (.cells #[x0, x1, x2, x3] T (0, 0)) := by
  have h : (w.setCell ⟨g, 0, none⟩ x0).heap[g]? = some (.cells #[x0, a1, a2, a3] T (0, 0)) := heap_setCell_same _ _ 0 _ _ x0 h
  generalize w.setCell ⟨g, 0, none⟩ x0 = w at h ⊢
  have h : (w.setCell ⟨g, 1, none⟩ x1).heap[g]? = some (.cells #[x0, x1, a2, a3] T (0, 0)) := heap_setCell_same _ _ 1 _ _ x1 h
  generalize w.setCell ⟨g, 1, none⟩ x1 = w at h ⊢
  have h : (w.setCell ⟨g, 2, none⟩ x2).heap[g]? = some (.cells #[x0, x1, x2, a3] T (0, 0)) := heap_setCell_same _ _ 2 _ _ x2 h
  generalize w.setCell ⟨g, 2, none⟩ x2 = w at h ⊢
  exact heap_setCell_same _ _ 3 _ _ x3 h
theorem put4_other {w : World} {g k : Nat} (hk : k ≠ g) (x0 x1 x2 x3 : Value) :
    ((((w.setCell ⟨g, 0, none⟩ x0).setCell ⟨g, 1, none⟩ x1).setCell ⟨g, 2, none⟩ x2).setCell ⟨g, 3, none⟩ x3).heap[k]? = w.heap[k]? :=
  (other1 _ g 3 x3 hk).trans ((other1 _ g 2 x2 hk).trans ((other1 _ g 1 x1 hk).trans (other1 _ g 0 x0 hk)))
set_option maxRecDepth 4000 in
set_option maxHeartbeats 30000000 in
theorem rpieces_step (W0 : World) (z : St) (l : PL) (a : Option Addr) (c : Nat) (hL : Lies W0 a c l) (hs : l.size ≤ 1000) (hT : okT l) (hO : okSL l)
    (ih : ∀ (f : PL) (a : Option Addr) (c : Nat), f.size < l.size → Lies W0 a c f → okT f → okSL f → RW W0 z f a c) : RW W0 z l a c := by
  intro w m s vv av hb0 E hm
  obtain ⟨⟨a1, n1, c1, rfl⟩, ⟨a2, n2, c2, rfl⟩⟩ := E.env.shape
  have HE := Lib.hid E; have HL := Lib.hid hL; have HT := Lib.hid hT; have HO := Lib.hid hO; have IH := Lib.hid ih; have HBW0 := Lib.hid hb0
  have HB0 := Lib.hid (w3p_bel w (.slice a1 n1 c1) (.slice a2 n2 c2) s)
  have HS0 := Lib.hid (w3p_scope w (.slice a1 n1 c1) (.slice a2 n2 c2) s)
  have HG0 := Lib.hid (w3p_got w (.slice a1 n1 c1) (.slice a2 n2 c2) s)
  have HR0 := Lib.hid (w3p_row w (.slice a1 n1 c1) (.slice a2 n2 c2) s)
  have hle := hL.le
  have hElt := Lib.hid (Prs_lt E.p)
  clear hL hT hO ih E hb0
  go_enter Tryz.func12, Tryz.ntmps12
  go_wp2_with fail
  go_loopw [5, 12] (fun v x wr => ∃ (i mi : Nat) (si : St) (acc : List Pc) (ai : Option Addr) (ni ci : Nat), i ≤ l.len ∧ x = .int .i64 i ∧ ex l s [] = ex (l.drop i) si acc ∧ wr.ownsRow (w.heap.size + 1 + 1) 69 3 v acc.length (pcells acc) ∧ (joinS acc).length ≤ 65536 ∧ W acc (2 * l.size - 2 * (l.drop i).size) ∧ OKs z mi si ∧ mi + (l.drop i).size ≤ m + l.size ∧ wr.heap[w.heap.size]? = some (.cells #[.slice ai ni ci, .slice a2 n2 c2, .int .i64 si.st, .int .i64 si.la] 25 (0, 0)) ∧ wr.heap[w.heap.size + 1]? = some (.cells #[.slice none 0 0, .slice none 0 0, .slice none 0 0, .int .i64 0, .int .i64 0, .int .i64 0, .string ⟨#[]⟩] 42 (0, 0)) ∧ Prs wr (.slice ai ni ci) si.vs ∧ (si.vs ≠ [] → ∀ k, (Value.slice ai ni ci).ownBlock = some k → (s.vs ≠ [] ∧ (Value.slice a1 n1 c1).ownBlock = some k) ∨ w.heap.size ≤ k) ∧ (si.vs ≠ [] → ∀ k, (Value.slice ai ni ci).ownBlock = some k → k ≠ w.heap.size ∧ v.ownBlock ≠ some k) ∧ Below w.heap.size w wr) (fun _ x _ => l.len - (intOf x).toNat)
  case atStart =>
    refine ⟨0, m, s, [], a1, n1, c1, Nat.zero_le _, rfl, rfl, HR0.out, by simp [joinS], W.nil.up (Nat.zero_le _), HE.out.ok, Nat.le_refl _, HS0.out, HG0.out, HE.out.p.stay HB0.out, fun h k e => .inl ⟨h, e⟩, fun h k e => ?_, HB0.out⟩
    have := hElt.out h k e
    exact ⟨by omega, fun e2 => by have e3 : w.heap.size + 1 + 1 = k := by simpa [Value.ownBlock] using e2
                                  omega⟩
  case round =>
    obtain ⟨i, mi, si, acc, ai, ni, ci, hi, rfl, hex, hown, hj, hwt, hok, hmi, hscr, hgr, hprs, hfr, hne, hbw⟩ := hrel
    have HEX := Lib.hid hex; have HOWN := Lib.hid hown; have HWT := Lib.hid hwt; have HOK := Lib.hid hok
    have HSCR := Lib.hid hscr; have HGR := Lib.hid hgr; have HPRS := Lib.hid hprs; have HFR := Lib.hid hfr; have HNE := Lib.hid hne; have HBW := Lib.hid hbw
    have hws := hbw.size
    have hds := PL.drop_size i l
    clear hex hown hwt hok hscr hgr hprs hfr hne hbw
    have q0 : wr.cell? ⟨w.heap.size, 0, none⟩ = some (.slice ai ni ci) := Lib.cell_of_heap HSCR.out 0
    have q1 : wr.cell? ⟨w.heap.size, 1, none⟩ = some (.slice a2 n2 c2) := Lib.cell_of_heap HSCR.out 1
    have q2 : wr.cell? ⟨w.heap.size, 2, none⟩ = some (.int .i64 si.st) := Lib.cell_of_heap HSCR.out 2
    have q3 : wr.cell? ⟨w.heap.size, 3, none⟩ = some (.int .i64 si.la) := Lib.cell_of_heap HSCR.out 3
    by_cases hlt : i < l.len
    · obtain ⟨k, qq, t, o, f, r, hd⟩ := PL.drop_at hlt
      have hBW0 := HBW0.out.trans (HBW.out.mono HBW0.out.size)
      obtain ⟨b1, p1, rfl, hb1, c10, c11, c12, c13, htt, hto, a3, c3, c14, hl1⟩ := HL.out.get hd
      have r0 := (hBW0.cell (p := ⟨b1, _, none⟩) hb1).trans c10
      have r1 := (hBW0.cell (p := ⟨b1, _, none⟩) hb1).trans c11
      have r2 := (hBW0.cell (p := ⟨b1, _, none⟩) hb1).trans c12
      have r3 := (hBW0.cell (p := ⟨b1, _, none⟩) hb1).trans c13
      have r4 := (hBW0.cell (p := ⟨b1, _, none⟩) hb1).trans c14
      have HBWr := Lib.hid hBW0
      clear c10 c11 c12 c13 c14 hBW0
      have hTd := HT.out.drop (n := i)
      have hOd := HO.out.drop (n := i)
      rw [hd] at hTd hOd hds
      have hex2 := HEX.out
      rw [hd] at hex2
      have hdn := PL.drop_succ hd
      have hsz : f.size + r.size + 1 ≤ l.size := by simp only [PL.size] at hds; omega
      have hdi : (l.drop i).size = f.size + r.size + 1 := by rw [hd]; simp only [PL.size]
      have hpm : mi + f.size ≤ 900000 := by rw [hdi] at hmi; omega
      have HIHf := Lib.hid (IH.out f a3 c3 (by omega) hl1 (okT_cons hTd).2.1 hOd.2.1)
      have htf := Lib.hid (okT_cons hTd).2.1
      have ht0 := (okT_cons hTd).1
      have ho0 := hOd.1
      have hpok := part_ok k qq t o f si HOK.out (okT_cons hTd).1 (ex_ok f si [] mi HOK.out (okT_cons hTd).2.1)
      have hpj := part_join (HOK.out.small HE.out.sm) k qq t o f (okT_cons hTd).1
      have hpw := W.part k qq t o f si (W.ex f si [] 0 W.nil)
      have HEX2 := Lib.hid hex2; have HDN := Lib.hid hdn; have HPOK := Lib.hid hpok; have HPW := Lib.hid hpw; have HDI := Lib.hid hdi
      clear hex2 hdn hTd hOd hds hl1 hpok hpw hdi
      obtain ⟨g, hg⟩ : ∃ g, g = partG k qq t o f si := ⟨_, rfl⟩
      rw [← hg] at hpj
      have HG := Lib.hid hg
      clear hg
      have hscx : ((wr.alloc (.cells #[.int .i64 k, .bool qq, .string t, .string o, .slice a3 f.len c3] 52)).alloc (.cells #[.string t, .bool qq, .bool false] 69)).heap[w.heap.size]? = some (.cells #[.slice ai ni ci, .slice a2 n2 c2, .int .i64 si.st, .int .i64 si.la] 25 (0, 0)) := bel_block (Fld.below_alloc _ _) (bel_block (Fld.below_alloc _ _) HSCR.out)
      have qx0 : ((wr.alloc (.cells #[.int .i64 k, .bool qq, .string t, .string o, .slice a3 f.len c3] 52)).alloc (.cells #[.string t, .bool qq, .bool false] 69)).cell? ⟨w.heap.size, 0, none⟩ = some (.slice ai ni ci) := Lib.cell_of_heap hscx 0
      have qx1 : ((wr.alloc (.cells #[.int .i64 k, .bool qq, .string t, .string o, .slice a3 f.len c3] 52)).alloc (.cells #[.string t, .bool qq, .bool false] 69)).cell? ⟨w.heap.size, 1, none⟩ = some (.slice a2 n2 c2) := Lib.cell_of_heap hscx 1
      have qx2 : ((wr.alloc (.cells #[.int .i64 k, .bool qq, .string t, .string o, .slice a3 f.len c3] 52)).alloc (.cells #[.string t, .bool qq, .bool false] 69)).cell? ⟨w.heap.size, 2, none⟩ = some (.int .i64 si.st) := Lib.cell_of_heap hscx 2
      have qx3 : ((wr.alloc (.cells #[.int .i64 k, .bool qq, .string t, .string o, .slice a3 f.len c3] 52)).alloc (.cells #[.string t, .bool qq, .bool false] 69)).cell? ⟨w.heap.size, 3, none⟩ = some (.int .i64 si.la) := Lib.cell_of_heap hscx 3
      clear hscx
      go_upto_if 26 with fail
      go_cut [26] from 27 to 29 (fun x26 V => x26 = .bool (k == 2) ∧ ∃ pL nL cL aN nN cN, V.heap[wr.heap.size + 1 + 1]? = some (.cells #[.slice pL nL cL, .slice aN nN cN, .slice a2 n2 c2, .int .i64 g.S.st, .int .i64 g.S.la, .int .i64 g.k, .string g.t] 42 (0, 0)) ∧ Pv V (.slice pL nL cL) g.L ∧ Prs V (.slice aN nN cN) g.S.vs ∧ (g.S.vs ≠ [] → ∀ k, (Value.slice aN nN cN).ownBlock = some k → (si.vs ≠ [] ∧ (Value.slice ai ni ci).ownBlock = some k) ∨ wr.heap.size ≤ k) ∧ Below wr.heap.size wr V)
      case first =>
        have hb1 := Fld.below_alloc wr (.cells #[.int .i64 k, .bool qq, .string t, .string o, .slice a3 f.len c3] 52)
        have hb2 := hb1.trans ((Fld.below_alloc (wr.alloc (.cells #[.int .i64 k, .bool qq, .string t, .string o, .slice a3 f.len c3] 52)) (.cells #[.string t, .bool qq, .bool false] 69)).mono hb1.size)
        have hb3 := hb2.trans ((Fld.below_alloc ((wr.alloc (.cells #[.int .i64 k, .bool qq, .string t, .string o, .slice a3 f.len c3] 52)).alloc (.cells #[.string t, .bool qq, .bool false] 69)) (.cells #[.slice (some ⟨wr.heap.size + 1, 0, none⟩) 1 1, .slice ai ni ci, .slice a2 n2 c2, .int .i64 si.st, .int .i64 si.la, .int .i64 0, .string ⟨#[]⟩] 42)).mono hb2.size)
        have hgo : (((wr.alloc (.cells #[.int .i64 k, .bool qq, .string t, .string o, .slice a3 f.len c3] 52)).alloc (.cells #[.string t, .bool qq, .bool false] 69)).alloc (.cells #[.slice (some ⟨wr.heap.size + 1, 0, none⟩) 1 1, .slice ai ni ci, .slice a2 n2 c2, .int .i64 si.st, .int .i64 si.la, .int .i64 0, .string ⟨#[]⟩] 42)).heap[wr.heap.size + 1 + 1]? = some (.cells #[.slice (some ⟨wr.heap.size + 1, 0, none⟩) 1 1, .slice ai ni ci, .slice a2 n2 c2, .int .i64 si.st, .int .i64 si.la, .int .i64 0, .string ⟨#[]⟩] 42 (0, 0)) := by
          have h := heap_alloc_new ((wr.alloc (.cells #[.int .i64 k, .bool qq, .string t, .string o, .slice a3 f.len c3] 52)).alloc (.cells #[.string t, .bool qq, .bool false] 69)) (.cells #[.slice (some ⟨wr.heap.size + 1, 0, none⟩) 1 1, .slice ai ni ci, .slice a2 n2 c2, .int .i64 si.st, .int .i64 si.la, .int .i64 0, .string ⟨#[]⟩] 42)
          rw [show ((wr.alloc (.cells #[.int .i64 k, .bool qq, .string t, .string o, .slice a3 f.len c3] 52)).alloc (.cells #[.string t, .bool qq, .bool false] 69)).heap.size = wr.heap.size + 1 + 1 by simp [World.size_alloc]] at h
          exact h
        have HB3 := Lib.hid hb3; have HGO := Lib.hid hgo
        clear hgo
        cases hk : k == 2
        · have HKK := Lib.hid hk
          have hpv : Pv (((wr.alloc (.cells #[.int .i64 k, .bool qq, .string t, .string o, .slice a3 f.len c3] 52)).alloc (.cells #[.string t, .bool qq, .bool false] 69)).alloc (.cells #[.slice (some ⟨wr.heap.size + 1, 0, none⟩) 1 1, .slice ai ni ci, .slice a2 n2 c2, .int .i64 si.st, .int .i64 si.la, .int .i64 0, .string ⟨#[]⟩] 42)) (.slice (some ⟨wr.heap.size + 1, 0, none⟩) 1 1) [(t, qq, false)] :=
            ⟨_, _, rfl, ((one_pieceH (by simp [World.size_alloc]) t qq false : Pcs ((wr.alloc (.cells #[.int .i64 k, .bool qq, .string t, .string o, .slice a3 f.len c3] 52)).alloc (.cells #[.string t, .bool qq, .bool false] 69)) (some ⟨wr.heap.size + 1, 0, none⟩) [(t, qq, false)])).below (Fld.below_alloc _ _), fun h => by cases h⟩
          have HPV := Lib.hid hpv
          have hgq : g = ⟨[(t, qq, false)], si, 0, tx []⟩ := by rw [HG.out]; unfold partG; rw [hk]; rfl
          have HGQ := Lib.hid hgq
          clear hpv hb1 hb2 hb3 hgq
          go_wp2_with fail
          go_meet
          case rel =>
            rw [HGQ.out]
            exact ⟨congrArg Value.bool HKK.out.symm, _, _, _, _, _, _, HGO.out, HPV.out, HPRS.out.stay HB3.out, fun h k e => .inl ⟨h, e⟩, HB3.out⟩
        · have hgq : g = paramG si qq t o f.len (fun s => ex f s []) := by rw [HG.out]; unfold partG; rw [hk]; rfl
          have HGQ := Lib.hid hgq
          have hcall := rparam_any HIHf.out (HBWr.out.trans (hb3.mono HBWr.out.size)) (m := mi) (z := z) (s := si) (vv := .slice ai ni ci) (av := .slice a2 n2 c2) (w := ((wr.alloc (.cells #[.int .i64 k, .bool qq, .string t, .string o, .slice a3 f.len c3] 52)).alloc (.cells #[.string t, .bool qq, .bool false] 69)).alloc (.cells #[.slice (some ⟨wr.heap.size + 1, 0, none⟩) 1 1, .slice ai ni ci, .slice a2 n2 c2, .int .i64 si.st, .int .i64 si.la, .int .i64 0, .string ⟨#[]⟩] 42)) ⟨HPRS.out.stay hb3, by
            have h := HE.out.a.stay (HBW.out.trans (hb3.mono HBW.out.size))
            rw [HE.out.ok.args] at h
            rw [HOK.out.args]
            exact h, HOK.out, HE.out.sm, by omega⟩ hpm (by omega) htf.out k qq t o ht0 ho0
          have hscy : (((wr.alloc (.cells #[.int .i64 k, .bool qq, .string t, .string o, .slice a3 f.len c3] 52)).alloc (.cells #[.string t, .bool qq, .bool false] 69)).alloc (.cells #[.slice (some ⟨wr.heap.size + 1, 0, none⟩) 1 1, .slice ai ni ci, .slice a2 n2 c2, .int .i64 si.st, .int .i64 si.la, .int .i64 0, .string ⟨#[]⟩] 42)).heap[w.heap.size]? = some (.cells #[.slice ai ni ci, .slice a2 n2 c2, .int .i64 si.st, .int .i64 si.la] 25 (0, 0)) := bel_block hb3 HSCR.out
          have qy0 : (((wr.alloc (.cells #[.int .i64 k, .bool qq, .string t, .string o, .slice a3 f.len c3] 52)).alloc (.cells #[.string t, .bool qq, .bool false] 69)).alloc (.cells #[.slice (some ⟨wr.heap.size + 1, 0, none⟩) 1 1, .slice ai ni ci, .slice a2 n2 c2, .int .i64 si.st, .int .i64 si.la, .int .i64 0, .string ⟨#[]⟩] 42)).cell? ⟨w.heap.size, 0, none⟩ = some (.slice ai ni ci) := Lib.cell_of_heap hscy 0
          have qy1 : (((wr.alloc (.cells #[.int .i64 k, .bool qq, .string t, .string o, .slice a3 f.len c3] 52)).alloc (.cells #[.string t, .bool qq, .bool false] 69)).alloc (.cells #[.slice (some ⟨wr.heap.size + 1, 0, none⟩) 1 1, .slice ai ni ci, .slice a2 n2 c2, .int .i64 si.st, .int .i64 si.la, .int .i64 0, .string ⟨#[]⟩] 42)).cell? ⟨w.heap.size, 1, none⟩ = some (.slice a2 n2 c2) := Lib.cell_of_heap hscy 1
          have qy2 : (((wr.alloc (.cells #[.int .i64 k, .bool qq, .string t, .string o, .slice a3 f.len c3] 52)).alloc (.cells #[.string t, .bool qq, .bool false] 69)).alloc (.cells #[.slice (some ⟨wr.heap.size + 1, 0, none⟩) 1 1, .slice ai ni ci, .slice a2 n2 c2, .int .i64 si.st, .int .i64 si.la, .int .i64 0, .string ⟨#[]⟩] 42)).cell? ⟨w.heap.size, 2, none⟩ = some (.int .i64 si.st) := Lib.cell_of_heap hscy 2
          have qy3 : (((wr.alloc (.cells #[.int .i64 k, .bool qq, .string t, .string o, .slice a3 f.len c3] 52)).alloc (.cells #[.string t, .bool qq, .bool false] 69)).alloc (.cells #[.slice (some ⟨wr.heap.size + 1, 0, none⟩) 1 1, .slice ai ni ci, .slice a2 n2 c2, .int .i64 si.st, .int .i64 si.la, .int .i64 0, .string ⟨#[]⟩] 42)).cell? ⟨w.heap.size, 3, none⟩ = some (.int .i64 si.la) := Lib.cell_of_heap hscy 3
          have hpay : (((wr.alloc (.cells #[.int .i64 k, .bool qq, .string t, .string o, .slice a3 f.len c3] 52)).alloc (.cells #[.string t, .bool qq, .bool false] 69)).alloc (.cells #[.slice (some ⟨wr.heap.size + 1, 0, none⟩) 1 1, .slice ai ni ci, .slice a2 n2 c2, .int .i64 si.st, .int .i64 si.la, .int .i64 0, .string ⟨#[]⟩] 42)).heap[wr.heap.size]? = some (.cells #[.int .i64 k, .bool qq, .string t, .string o, .slice a3 f.len c3] 52 (0, 0)) := bel_block (Fld.below_alloc _ _) (bel_block (Fld.below_alloc _ _) (heap_alloc_new wr _))
          have py0 : (((wr.alloc (.cells #[.int .i64 k, .bool qq, .string t, .string o, .slice a3 f.len c3] 52)).alloc (.cells #[.string t, .bool qq, .bool false] 69)).alloc (.cells #[.slice (some ⟨wr.heap.size + 1, 0, none⟩) 1 1, .slice ai ni ci, .slice a2 n2 c2, .int .i64 si.st, .int .i64 si.la, .int .i64 0, .string ⟨#[]⟩] 42)).cell? ⟨wr.heap.size, 0, none⟩ = some (.int .i64 k) := Lib.cell_of_heap hpay 0
          have py1 : (((wr.alloc (.cells #[.int .i64 k, .bool qq, .string t, .string o, .slice a3 f.len c3] 52)).alloc (.cells #[.string t, .bool qq, .bool false] 69)).alloc (.cells #[.slice (some ⟨wr.heap.size + 1, 0, none⟩) 1 1, .slice ai ni ci, .slice a2 n2 c2, .int .i64 si.st, .int .i64 si.la, .int .i64 0, .string ⟨#[]⟩] 42)).cell? ⟨wr.heap.size, 1, none⟩ = some (.bool qq) := Lib.cell_of_heap hpay 1
          have py2 : (((wr.alloc (.cells #[.int .i64 k, .bool qq, .string t, .string o, .slice a3 f.len c3] 52)).alloc (.cells #[.string t, .bool qq, .bool false] 69)).alloc (.cells #[.slice (some ⟨wr.heap.size + 1, 0, none⟩) 1 1, .slice ai ni ci, .slice a2 n2 c2, .int .i64 si.st, .int .i64 si.la, .int .i64 0, .string ⟨#[]⟩] 42)).cell? ⟨wr.heap.size, 2, none⟩ = some (.string t) := Lib.cell_of_heap hpay 2
          have py3 : (((wr.alloc (.cells #[.int .i64 k, .bool qq, .string t, .string o, .slice a3 f.len c3] 52)).alloc (.cells #[.string t, .bool qq, .bool false] 69)).alloc (.cells #[.slice (some ⟨wr.heap.size + 1, 0, none⟩) 1 1, .slice ai ni ci, .slice a2 n2 c2, .int .i64 si.st, .int .i64 si.la, .int .i64 0, .string ⟨#[]⟩] 42)).cell? ⟨wr.heap.size, 3, none⟩ = some (.string o) := Lib.cell_of_heap hpay 3
          have py4 : (((wr.alloc (.cells #[.int .i64 k, .bool qq, .string t, .string o, .slice a3 f.len c3] 52)).alloc (.cells #[.string t, .bool qq, .bool false] 69)).alloc (.cells #[.slice (some ⟨wr.heap.size + 1, 0, none⟩) 1 1, .slice ai ni ci, .slice a2 n2 c2, .int .i64 si.st, .int .i64 si.la, .int .i64 0, .string ⟨#[]⟩] 42)).cell? ⟨wr.heap.size, 4, none⟩ = some (.slice a3 f.len c3) := Lib.cell_of_heap hpay 4
          clear hscy hpay
          have HCALL := Lib.hid hcall
          have HKK := Lib.hid hk
          unfold Pt.pv at HCALL
          clear hcall hb1 hb2 hgq
          go_wp2_with fail
          refine HCALL.out.mono ?_
          rintro e w2 ⟨v2, rfl, ⟨lv, vv2, rfl, hpl, hpv, hfr2⟩, hb2⟩
          rw [← HGQ.out] at hpl hpv hfr2 ⊢
          obtain ⟨pL, nL, cL, rfl⟩ := hpl.shape
          obtain ⟨aN, nN, cN, rfl⟩ := hpv.shape
          have HG2 := Lib.hid (bel_block hb2 HGO.out)
          have HPL := Lib.hid hpl; have HPV := Lib.hid hpv; have HFR2 := Lib.hid hfr2
          have HB4 := Lib.hid (HB3.out.trans (hb2.mono HB3.out.size))
          clear hpl hpv hfr2 hb2
          have hg4 := HG2.out
          have y0 : w2.cell? ⟨wr.heap.size + 1 + 1, 0, none⟩ = some (.slice (some ⟨wr.heap.size + 1, 0, none⟩) 1 1) := Lib.cell_of_heap hg4 0
          have z0 : w2.frozen? ⟨wr.heap.size + 1 + 1, 0, none⟩ = false := frozen_of_row _ _ _ _ _ hg4
          have y1 : w2.cell? ⟨wr.heap.size + 1 + 1, 1, none⟩ = some (.slice ai ni ci) := Lib.cell_of_heap hg4 1
          have z1 : w2.frozen? ⟨wr.heap.size + 1 + 1, 1, none⟩ = false := frozen_of_row _ _ _ _ _ hg4
          have y2 : w2.cell? ⟨wr.heap.size + 1 + 1, 2, none⟩ = some (.slice a2 n2 c2) := Lib.cell_of_heap hg4 2
          have z2 : w2.frozen? ⟨wr.heap.size + 1 + 1, 2, none⟩ = false := frozen_of_row _ _ _ _ _ hg4
          have y3 : w2.cell? ⟨wr.heap.size + 1 + 1, 3, none⟩ = some (.int .i64 si.st) := Lib.cell_of_heap hg4 3
          have z3 : w2.frozen? ⟨wr.heap.size + 1 + 1, 3, none⟩ = false := frozen_of_row _ _ _ _ _ hg4
          have y4 : w2.cell? ⟨wr.heap.size + 1 + 1, 4, none⟩ = some (.int .i64 si.la) := Lib.cell_of_heap hg4 4
          have z4 : w2.frozen? ⟨wr.heap.size + 1 + 1, 4, none⟩ = false := frozen_of_row _ _ _ _ _ hg4
          have y5 : w2.cell? ⟨wr.heap.size + 1 + 1, 5, none⟩ = some (.int .i64 0) := Lib.cell_of_heap hg4 5
          have z5 : w2.frozen? ⟨wr.heap.size + 1 + 1, 5, none⟩ = false := frozen_of_row _ _ _ _ _ hg4
          have y6 : w2.cell? ⟨wr.heap.size + 1 + 1, 6, none⟩ = some (.string ⟨#[]⟩) := Lib.cell_of_heap hg4 6
          have z6 : w2.frozen? ⟨wr.heap.size + 1 + 1, 6, none⟩ = false := frozen_of_row _ _ _ _ _ hg4
          clear hg4
          go_wp2_with fail
          go_meet
          case rel =>
            exact ⟨congrArg Value.bool HKK.out.symm, pL, nL, cL, aN, nN, cN, put7 HG2.out _ _ _ _ _ _ _, HPL.out.other (fun h k e => put7_other (HPL.out.neGot7 HG2.out h k e) _ _ _ _ _ _ _), Prs_other HPV.out (fun h k e => put7_other (Prs_neGot7 HPV.out HG2.out h k e) _ _ _ _ _ _ _), fun hs k e => (HFR2.out hs k e).imp id (fun h => Nat.le_trans HB3.out.size h), set7_below HB4.out (by omega) _ _ _ _ _ _ _⟩
      case rest =>
        obtain ⟨rfl, pL, nL, cL, aN, nN, cN, hg7, hpl, hpv, hfr2, hbc⟩ := hcut
        obtain ⟨p8, d8, hsl, hpc, hnil⟩ := id hpl
        injection hsl with hs1 hs2 hs3
        subst hs1; subst hs2; subst hs3
        have hz := part_zero k qq t o f si
        rw [← HG.out] at hz
        obtain ⟨L, S, k1, t1⟩ := g
        simp only at hg7 hpl hpv hpc hfr2 hz hpj
        have HG7 := Lib.hid hg7; have HPL := Lib.hid hpl; have HPV := Lib.hid hpv; have HFR2 := Lib.hid hfr2; have HBC := Lib.hid hbc; have HPC := Lib.hid hpc; have HNIL := Lib.hid hnil
        have HSCc := Lib.hid (bel_block hbc HSCR.out)
        have HGRc := Lib.hid (bel_block hbc HGR.out)
        have HOWc := Lib.hid (Fld.ownsRow_below HOWN.out hbc)
        have HBWc := Lib.hid (HBW.out.trans (hbc.mono hws))
        have hwc := hbc.size
        clear hg7 hpl hpv hpc hfr2 hbc hnil
        have v0 : wc.cell? ⟨wr.heap.size + 1 + 1, 0, none⟩ = some (.slice pL L.length cL) := Lib.cell_of_heap HG7.out 0
        have v1 : wc.cell? ⟨wr.heap.size + 1 + 1, 1, none⟩ = some (.slice aN nN cN) := Lib.cell_of_heap HG7.out 1
        have v2 : wc.cell? ⟨wr.heap.size + 1 + 1, 2, none⟩ = some (.slice a2 n2 c2) := Lib.cell_of_heap HG7.out 2
        have v3 : wc.cell? ⟨wr.heap.size + 1 + 1, 3, none⟩ = some (.int .i64 S.st) := Lib.cell_of_heap HG7.out 3
        have v4 : wc.cell? ⟨wr.heap.size + 1 + 1, 4, none⟩ = some (.int .i64 S.la) := Lib.cell_of_heap HG7.out 4
        have v5 : wc.cell? ⟨wr.heap.size + 1 + 1, 5, none⟩ = some (.int .i64 k1) := Lib.cell_of_heap HG7.out 5
        have v6 : wc.cell? ⟨wr.heap.size + 1 + 1, 6, none⟩ = some (.string t1) := Lib.cell_of_heap HG7.out 6
        have qs0 : wc.cell? ⟨w.heap.size, 0, none⟩ = some (.slice ai ni ci) := Lib.cell_of_heap HSCc.out 0
        have fs0 : wc.frozen? ⟨w.heap.size, 0, none⟩ = false := frozen_of_row _ _ _ _ _ HSCc.out
        have qs1 : wc.cell? ⟨w.heap.size, 1, none⟩ = some (.slice a2 n2 c2) := Lib.cell_of_heap HSCc.out 1
        have fs1 : wc.frozen? ⟨w.heap.size, 1, none⟩ = false := frozen_of_row _ _ _ _ _ HSCc.out
        have qs2 : wc.cell? ⟨w.heap.size, 2, none⟩ = some (.int .i64 si.st) := Lib.cell_of_heap HSCc.out 2
        have fs2 : wc.frozen? ⟨w.heap.size, 2, none⟩ = false := frozen_of_row _ _ _ _ _ HSCc.out
        have qs3 : wc.cell? ⟨w.heap.size, 3, none⟩ = some (.int .i64 si.la) := Lib.cell_of_heap HSCc.out 3
        have fs3 : wc.frozen? ⟨w.heap.size, 3, none⟩ = false := frozen_of_row _ _ _ _ _ HSCc.out
        have y0 : wc.cell? ⟨w.heap.size + 1, 0, none⟩ = some (.slice none 0 0) := Lib.cell_of_heap HGRc.out 0
        have z0 : wc.frozen? ⟨w.heap.size + 1, 0, none⟩ = false := frozen_of_row _ _ _ _ _ HGRc.out
        have y1 : wc.cell? ⟨w.heap.size + 1, 1, none⟩ = some (.slice none 0 0) := Lib.cell_of_heap HGRc.out 1
        have z1 : wc.frozen? ⟨w.heap.size + 1, 1, none⟩ = false := frozen_of_row _ _ _ _ _ HGRc.out
        have y2 : wc.cell? ⟨w.heap.size + 1, 2, none⟩ = some (.slice none 0 0) := Lib.cell_of_heap HGRc.out 2
        have z2 : wc.frozen? ⟨w.heap.size + 1, 2, none⟩ = false := frozen_of_row _ _ _ _ _ HGRc.out
        have y3 : wc.cell? ⟨w.heap.size + 1, 3, none⟩ = some (.int .i64 0) := Lib.cell_of_heap HGRc.out 3
        have z3 : wc.frozen? ⟨w.heap.size + 1, 3, none⟩ = false := frozen_of_row _ _ _ _ _ HGRc.out
        have y4 : wc.cell? ⟨w.heap.size + 1, 4, none⟩ = some (.int .i64 0) := Lib.cell_of_heap HGRc.out 4
        have z4 : wc.frozen? ⟨w.heap.size + 1, 4, none⟩ = false := frozen_of_row _ _ _ _ _ HGRc.out
        have y5 : wc.cell? ⟨w.heap.size + 1, 5, none⟩ = some (.int .i64 0) := Lib.cell_of_heap HGRc.out 5
        have z5 : wc.frozen? ⟨w.heap.size + 1, 5, none⟩ = false := frozen_of_row _ _ _ _ _ HGRc.out
        have y6 : wc.cell? ⟨w.heap.size + 1, 6, none⟩ = some (.string ⟨#[]⟩) := Lib.cell_of_heap HGRc.out 6
        have z6 : wc.frozen? ⟨w.heap.size + 1, 6, none⟩ = false := frozen_of_row _ _ _ _ _ HGRc.out
        by_cases hk : k1 = 0
        · subst hk
          obtain rfl : t1 = ⟨#[]⟩ := hz rfl
          clear hz
          have hgL : (partG k qq t o f si).L = L := by rw [← HG.out]
          have hgS : (partG k qq t o f si).S = S := by rw [← HG.out]
          have hgk : (partG k qq t o f si).k = 0 := by rw [← HG.out]
          have hex3 : ex l s [] = bif decide (65536 < (joinS (acc ++ L)).length) then ⟨[], S, 2, tx []⟩ else ex r S (acc ++ L) := by
            rw [HEX2.out, ex_cons, hgk, hgL, hgS]; rfl
          have HEX3 := Lib.hid hex3
          clear hgL hgS hgk hex3
          go_upto_region 11 with fail
          have HSd := Lib.hid (put4 HSCc.out (.slice aN nN cN) (.slice a2 n2 c2) (.int .i64 S.st) (.int .i64 S.la))
          have hod : ∀ k, k ≠ w.heap.size → ((((wc.setCell ⟨w.heap.size, 0, none⟩ (.slice aN nN cN)).setCell ⟨w.heap.size, 1, none⟩ (.slice a2 n2 c2)).setCell ⟨w.heap.size, 2, none⟩ (.int .i64 S.st)).setCell ⟨w.heap.size, 3, none⟩ (.int .i64 S.la)).heap[k]? = wc.heap[k]? := fun k hk => put4_other hk _ _ _ _
          have HGRd := Lib.hid ((hod (w.heap.size + 1) (by omega)).trans HGRc.out)
          have HG7d := Lib.hid ((hod (wr.heap.size + 1 + 1) (by omega)).trans HG7.out)
          have HOWd := Lib.hid (Fld.ownsRow_keep HOWc.out fun g hg => hod g (by have := (HOWc.out.lt g hg).1; omega))
          have HPLd := Lib.hid (HPL.out.other fun h k e => hod k (HPL.out.neS HSCc.out h k e))
          have HPVd := Lib.hid (Prs_other HPV.out fun h k e => hod k (Prs_neS HPV.out HSCc.out h k e))
          have HBd := Lib.hid (below_set (below_set (below_set (below_set HBWc.out (Nat.le_refl _) 0 (.slice aN nN cN)) (Nat.le_refl _) 1 (.slice a2 n2 c2)) (Nat.le_refl _) 2 (.int .i64 S.st)) (Nat.le_refl _) 3 (.int .i64 S.la))
          have HSZ : ((((wc.setCell ⟨w.heap.size, 0, none⟩ (.slice aN nN cN)).setCell ⟨w.heap.size, 1, none⟩ (.slice a2 n2 c2)).setCell ⟨w.heap.size, 2, none⟩ (.int .i64 S.st)).setCell ⟨w.heap.size, 3, none⟩ (.int .i64 S.la)).heap.size = wc.heap.size := by simp
          clear hod v0 v1 v2 v3 v4 v5 v6 qs0 fs0 qs1 fs1 qs2 fs2 qs3 fs3 y0 z0 y1 z1 y2 z2 y3 z3 y4 z4 y5 z5 y6 z6
          generalize ((((wc.setCell ⟨w.heap.size, 0, none⟩ (.slice aN nN cN)).setCell ⟨w.heap.size, 1, none⟩ (.slice a2 n2 c2)).setCell ⟨w.heap.size, 2, none⟩ (.int .i64 S.st)).setCell ⟨w.heap.size, 3, none⟩ (.int .i64 S.la)) = wd at HSd HGRd HG7d HOWd HPLd HPVd HBd HSZ ⊢
          have v0 : wd.cell? ⟨wr.heap.size + 1 + 1, 0, none⟩ = some (.slice pL L.length cL) := Lib.cell_of_heap HG7d.out 0
          have v1 : wd.cell? ⟨wr.heap.size + 1 + 1, 1, none⟩ = some (.slice aN nN cN) := Lib.cell_of_heap HG7d.out 1
          have v2 : wd.cell? ⟨wr.heap.size + 1 + 1, 2, none⟩ = some (.slice a2 n2 c2) := Lib.cell_of_heap HG7d.out 2
          have v3 : wd.cell? ⟨wr.heap.size + 1 + 1, 3, none⟩ = some (.int .i64 S.st) := Lib.cell_of_heap HG7d.out 3
          have v4 : wd.cell? ⟨wr.heap.size + 1 + 1, 4, none⟩ = some (.int .i64 S.la) := Lib.cell_of_heap HG7d.out 4
          have v5 : wd.cell? ⟨wr.heap.size + 1 + 1, 5, none⟩ = some (.int .i64 0) := Lib.cell_of_heap HG7d.out 5
          have v6 : wd.cell? ⟨wr.heap.size + 1 + 1, 6, none⟩ = some (.string ⟨#[]⟩) := Lib.cell_of_heap HG7d.out 6
          obtain ⟨p9, d9, hsl9, hpc9, hnil9⟩ := id HPLd.out
          injection hsl9 with e91 e92 e93
          subst e91; subst e93
          have HPC9 := Lib.hid hpc9; have HNIL9 := Lib.hid hnil9
          have hwa := HWT.out
          have hal := Fld.len_le acc
          have hLl := Fld.len_le L
          have hLw := HPW.out
          rw [← HG.out] at hLw
          unfold W at hwa hLw
          simp only at hLw
          have hna : acc.length + L.length ≤ 1000000 := by omega
          have hwt5 : weight (acc ++ L) ≤ 1000000 := by rw [Fld.weight_app]; omega
          clear hwa hal hLl hLw hpc9 hnil9
          go_wp2_with (at_builtin; refine append_pcs_at rfl _ _ rfl (w.heap.size + 1 + 1) _ _ _ rfl HOWd.out pL cL L rfl HPC9.out HNIL9.out ?c1 ?c2 ?c3 ?_)
          case c1 => unfold maxLen; omega
          case c2 => omega
          case c3 => have := HBd.out.size; have := (Array.getElem?_eq_some_iff.1 HGRd.out).1; omega
          intro v4 w4 hown4 hg4 hat4
          have HS4 := Lib.hid (grown_block HOWd.out hg4 HSd.out (by decide))
          have HGR4 := Lib.hid (grown_block HOWd.out hg4 HGRd.out (by decide))
          have HB4 := Lib.hid (Fld.grown_below HBd.out HOWd.out (Nat.le_trans (Nat.le_succ _) (Nat.le_succ _)) hg4)
          obtain ⟨AL, hAL⟩ : ∃ AL, AL = acc ++ L := ⟨_, rfl⟩
          have HAL := Lib.hid hAL
          have hown5 : w4.ownsRow (w.heap.size + 1 + 1) 69 3 v4 AL.length (pcells AL) := by
            rw [hAL, List.length_append, Fld.pcells_app]; exact hown4
          rw [← hAL] at hwt5
          clear hAL
          have hPV4 : Prs w4 (.slice aN nN cN) S.vs := Prs_other HPVd.out fun h k e => hg4.block k (by have := Prs_lt HPVd.out h k e; exact this) fun e2 => by
            rcases HFR2.out h k e with ⟨h1, h2⟩ | h1
            · exact (HNE.out h1 k h2).2 e2.symm
            · have := (HOWN.out.lt k e2.symm).2; omega
          have hap : S.vs ≠ [] → ∀ k, (Value.slice aN nN cN).ownBlock = some k → v4.ownBlock ≠ some k := fun h k e e2 => by
            rcases hat4 with h4 | h4
            · rw [h4] at e2
              rcases HFR2.out h k e with ⟨h1, h2⟩ | h1
              · exact (HNE.out h1 k h2).2 e2
              · have := (HOWN.out.lt k e2).2; omega
            · rw [h4] at e2
              injection e2 with e2
              have := Prs_lt HPVd.out h k e
              omega
          have HAP := Lib.hid hap
          clear hap hat4
          obtain ⟨p4, c4, hv4, hp4⟩ := Fld.pcs_own hown5 rfl rfl
          subst hv4
          have HPV4 := Lib.hid hPV4; have HO4 := Lib.hid hown5; have HP4 := Lib.hid hp4
          clear hown4 hown5 hg4 hPV4 hp4
          go_wp2_with fail
          refine (Fld.rjoin_wide p4 c4 AL _ HP4.out hwt5).mono ?_
          rintro e w5 ⟨rfl, hb5⟩
          have HB5 := Lib.hid (HB4.out.trans (hb5.mono HB4.out.size))
          have HS5 := Lib.hid (bel_block hb5 HS4.out)
          have HGR5 := Lib.hid (bel_block hb5 HGR4.out)
          have HPV5 := Lib.hid (HPV4.out.stay hb5)
          have HO5 := Lib.hid (Fld.ownsRow_below HO4.out hb5)
          clear hb5
          have qt0 : w5.cell? ⟨w.heap.size, 0, none⟩ = some (.slice aN nN cN) := Lib.cell_of_heap HS5.out 0
          have qt1 : w5.cell? ⟨w.heap.size, 1, none⟩ = some (.slice a2 n2 c2) := Lib.cell_of_heap HS5.out 1
          have qt2 : w5.cell? ⟨w.heap.size, 2, none⟩ = some (.int .i64 S.st) := Lib.cell_of_heap HS5.out 2
          have qt3 : w5.cell? ⟨w.heap.size, 3, none⟩ = some (.int .i64 S.la) := Lib.cell_of_heap HS5.out 3
          have y0 : w5.cell? ⟨w.heap.size + 1, 0, none⟩ = some (.slice none 0 0) := Lib.cell_of_heap HGR5.out 0
          have z0 : w5.frozen? ⟨w.heap.size + 1, 0, none⟩ = false := frozen_of_row _ _ _ _ _ HGR5.out
          have y1 : w5.cell? ⟨w.heap.size + 1, 1, none⟩ = some (.slice none 0 0) := Lib.cell_of_heap HGR5.out 1
          have z1 : w5.frozen? ⟨w.heap.size + 1, 1, none⟩ = false := frozen_of_row _ _ _ _ _ HGR5.out
          have y2 : w5.cell? ⟨w.heap.size + 1, 2, none⟩ = some (.slice none 0 0) := Lib.cell_of_heap HGR5.out 2
          have z2 : w5.frozen? ⟨w.heap.size + 1, 2, none⟩ = false := frozen_of_row _ _ _ _ _ HGR5.out
          have y3 : w5.cell? ⟨w.heap.size + 1, 3, none⟩ = some (.int .i64 0) := Lib.cell_of_heap HGR5.out 3
          have z3 : w5.frozen? ⟨w.heap.size + 1, 3, none⟩ = false := frozen_of_row _ _ _ _ _ HGR5.out
          have y4 : w5.cell? ⟨w.heap.size + 1, 4, none⟩ = some (.int .i64 0) := Lib.cell_of_heap HGR5.out 4
          have z4 : w5.frozen? ⟨w.heap.size + 1, 4, none⟩ = false := frozen_of_row _ _ _ _ _ HGR5.out
          have y5 : w5.cell? ⟨w.heap.size + 1, 5, none⟩ = some (.int .i64 0) := Lib.cell_of_heap HGR5.out 5
          have z5 : w5.frozen? ⟨w.heap.size + 1, 5, none⟩ = false := frozen_of_row _ _ _ _ _ HGR5.out
          have y6 : w5.cell? ⟨w.heap.size + 1, 6, none⟩ = some (.string ⟨#[]⟩) := Lib.cell_of_heap HGR5.out 6
          have z6 : w5.frozen? ⟨w.heap.size + 1, 6, none⟩ = false := frozen_of_row _ _ _ _ _ HGR5.out
          have hjs : (tx (joinS AL)).size = (joinS AL).length := Fld.tx_size _
          generalize hJ : tx (joinS AL) = J at hjs ⊢
          have HJS := Lib.hid hjs; have HJ := Lib.hid hJ
          have hFRn : S.vs ≠ [] → ∀ k, (Value.slice aN nN cN).ownBlock = some k → (s.vs ≠ [] ∧ (Value.slice a1 n1 c1).ownBlock = some k) ∨ w.heap.size ≤ k := fun h k e => (HFR2.out h k e).elim (fun x => HFR.out x.1 k x.2) (fun x => .inr (Nat.le_trans hws x))
          have HFRn := Lib.hid hFRn
          clear hJ hFRn
          by_cases hbig : 65536 < (joinS AL).length
          · have hex4 : ex l s [] = ⟨[], S, 2, tx []⟩ := by rw [HEX3.out, ← HAL.out, decide_eq_true hbig]; rfl
            have HEX4 := Lib.hid hex4
            have hb65 : 65536 < J.size := by omega
            clear hjs hbig hex4
            go_wp2_with fail
            rw [HEX4.out]
            exact bodyPost_ret (results_cell_row rfl _ _ (w.heap.size + 1) _ _ _ _ rfl (put7 HGR5.out _ _ _ _ _ _ _) Tryz.underlying42 rfl (by kernel_rfl)) rfl ⟨_, rfl, ⟨_, _, rfl, ⟨_, _, rfl, .inl rfl, fun _ => rfl⟩, Prs_other HPV5.out (fun h k e => put7_other (Prs_neGot HPV5.out HGR5.out h k e) _ _ _ _ _ _ _), HFRn.out⟩, set7_below HB5.out (by omega) _ _ _ _ _ _ _⟩
          · have hex4 : ex l s [] = ex r S AL := by rw [HEX3.out, ← HAL.out, decide_eq_false hbig]; rfl
            have HEX4 := Lib.hid hex4
            have hb65 : ¬ 65536 < J.size := by omega
            clear hjs hex4
            go_wp2_with fail
            go_roundw
            case rel =>
              refine ⟨i + 1, mi + f.size + 1, S, AL, aN, nN, cN, by omega, by go_num, ?_, HO5.out, by omega, ?_, ?_, ?_, HS5.out, HGR5.out, HPV5.out, HFRn.out, ?_, HB5.out⟩
              · rw [HEX4.out, HDN.out]
              · have h1 := HWT.out.app (by have h := HPW.out; rw [← HG.out] at h; exact h : W L _)
                rw [HAL.out]; exact h1.up (by rw [HDN.out, HDI.out]; omega)
              · have h := HPOK.out; rw [← HG.out] at h; exact h
              · rw [HDN.out]; rw [HDI.out] at hmi; omega
              · intro h k e
                refine ⟨?_, ?_⟩
                · rcases HFR2.out h k e with ⟨h1, h2⟩ | h1
                  · exact (HNE.out h1 k h2).1
                  · have := (Array.getElem?_eq_some_iff.1 HSCR.out).1; omega
                · exact HAP.out h k e
            case measure => simp [intOf]; omega
        · have HK := Lib.hid hk
          have hexf : ex l s [] = ⟨[], S, k1, t1⟩ := by
            have h0 : ((partG k qq t o f si).k == 0) = false := by rw [← HG.out]; simpa using hk
            rw [HEX2.out, ex_cons, h0, ← HG.out]; rfl
          have HEXF := Lib.hid hexf
          clear hexf hz
          go_wp2_with fail
          rw [HEXF.out]
          exact bodyPost_ret (results_cell_row rfl _ _ (w.heap.size + 1) _ _ _ _ rfl (put7 HGRc.out _ _ _ _ _ _ _) Tryz.underlying42 rfl (by kernel_rfl)) rfl ⟨_, rfl, ⟨_, _, rfl, ⟨_, _, rfl, .inl rfl, fun _ => rfl⟩, Prs_other HPV.out (fun h k e => put7_other (Prs_neGot HPV.out HGRc.out h k e) _ _ _ _ _ _ _), fun h k e => (HFR2.out h k e).elim (fun x => HFR.out x.1 k x.2) (fun x => .inr (Nat.le_trans hws x))⟩, set7_below HBWc.out (by omega) _ _ _ _ _ _ _⟩
    · obtain rfl : i = l.len := by omega
      have hfin : ex l s [] = ⟨acc, si, 0, tx []⟩ := by
        have := HEX.out
        rw [PL.drop_end (Nat.le_refl _)] at this
        exact this
      have HFIN := Lib.hid hfin
      have y0 : wr.cell? ⟨w.heap.size + 1, 0, none⟩ = some (.slice none 0 0) := Lib.cell_of_heap HGR.out 0
      have z0 : wr.frozen? ⟨w.heap.size + 1, 0, none⟩ = false := frozen_of_row _ _ _ _ _ HGR.out
      have y1 : wr.cell? ⟨w.heap.size + 1, 1, none⟩ = some (.slice none 0 0) := Lib.cell_of_heap HGR.out 1
      have z1 : wr.frozen? ⟨w.heap.size + 1, 1, none⟩ = false := frozen_of_row _ _ _ _ _ HGR.out
      have y2 : wr.cell? ⟨w.heap.size + 1, 2, none⟩ = some (.slice none 0 0) := Lib.cell_of_heap HGR.out 2
      have z2 : wr.frozen? ⟨w.heap.size + 1, 2, none⟩ = false := frozen_of_row _ _ _ _ _ HGR.out
      have y3 : wr.cell? ⟨w.heap.size + 1, 3, none⟩ = some (.int .i64 0) := Lib.cell_of_heap HGR.out 3
      have z3 : wr.frozen? ⟨w.heap.size + 1, 3, none⟩ = false := frozen_of_row _ _ _ _ _ HGR.out
      have y4 : wr.cell? ⟨w.heap.size + 1, 4, none⟩ = some (.int .i64 0) := Lib.cell_of_heap HGR.out 4
      have z4 : wr.frozen? ⟨w.heap.size + 1, 4, none⟩ = false := frozen_of_row _ _ _ _ _ HGR.out
      have y5 : wr.cell? ⟨w.heap.size + 1, 5, none⟩ = some (.int .i64 0) := Lib.cell_of_heap HGR.out 5
      have z5 : wr.frozen? ⟨w.heap.size + 1, 5, none⟩ = false := frozen_of_row _ _ _ _ _ HGR.out
      have y6 : wr.cell? ⟨w.heap.size + 1, 6, none⟩ = some (.string ⟨#[]⟩) := Lib.cell_of_heap HGR.out 6
      have z6 : wr.frozen? ⟨w.heap.size + 1, 6, none⟩ = false := frozen_of_row _ _ _ _ _ HGR.out
      obtain ⟨p4, c4, hv4, hp4⟩ := Fld.pcs_own HOWN.out rfl rfl
      clear hfin
      have hpv4 := Pv.ofOwn HOWN.out rfl rfl
      subst hv4
      have HPV4 := Lib.hid hpv4
      clear hp4 hpv4
      go_wp2_with fail
      rw [HFIN.out]
      exact bodyPost_ret (results_cell_row rfl _ _ (w.heap.size + 1) _ _ _ _ rfl (put7 HGR.out _ _ _ _ _ _ _) Tryz.underlying42 rfl (by kernel_rfl)) rfl ⟨_, rfl, ⟨_, _, rfl, HPV4.out.other (fun h k e => put7_other (HPV4.out.neGot HGR.out h k e) _ _ _ _ _ _ _), Prs_other HPRS.out (fun h k e => put7_other (Prs_neGot HPRS.out HGR.out h k e) _ _ _ _ _ _ _), HFR.out⟩, set7_below HBW.out (by omega) _ _ _ _ _ _ _⟩
theorem rpieces_all (W0 : World) (z : St) : ∀ (n : Nat) (l : PL) (a : Option Addr) (c : Nat), l.size < n → Lies W0 a c l → l.size ≤ 1000 → okT l → okSL l → RW W0 z l a c
  | 0, _, _, _, h, _, _, _, _ => by omega
  | n + 1, l, a, c, h, hL, hs, hT, hO => rpieces_step W0 z l a c hL hs hT hO fun f a c hf hLf hTf hOf => rpieces_all W0 z n f a c (by omega) hLf (by omega) hTf hOf
end Ex
end Go.Proofs.YtoneabcbeikkhaaGreatDoor

namespace Go.Proofs.YtoneabcbeikkhaaGreatDoor
open Go.RowKit Cls
namespace Ex
open Fld (Pc bs tx pc Pcs take_snoc)
set_option maxRecDepth 4000 in
set_option maxHeartbeats 2000000 in
/-- The same pieces are the same. -/
theorem psame_any (ps : List Pc) (a b : Option Addr) (c d : Nat) (w : World) (h : Pcs w a ps) (h2 : Pcs w b ps) (hl : ps.length ≤ 1000000) :
    Calls Tryz.prog 13 #[.slice a ps.length c, .slice b ps.length d] w fun e w' => e = .returned (.bool true) ∧ Below w.heap.size w w' := by
  have HC := Lib.hid h; have HC2 := Lib.hid h2
  clear h h2
  go_enter Tryz.func13, Tryz.ntmps13
  go_wp2_with fail
  go_loopw [13] (fun i wr => ∃ k : Nat, k ≤ ps.length ∧ i = .int .i64 k ∧ Below w.heap.size w wr) (fun i _ => ps.length - (intOf i).toNat)
  case atStart => exact ⟨0, Nat.zero_le _, rfl, Below.refl _ _⟩
  case round =>
    obtain ⟨k, hk, rfl, hbw⟩ := hrel
    have HB := Lib.hid hbw
    clear hbw
    rcases Nat.lt_or_ge k ps.length with hlt | hge
    · obtain ⟨b1, o1, rfl, hb1, x0, x1, x2⟩ := HC.out.get hlt
      obtain ⟨b2, o2, rfl, hb2, y0, y1, y2⟩ := HC2.out.get hlt
      have hq0 := cell_regrown ((HB.out.cell (p := ⟨b1, o1 + k * 3, none⟩) hb1).trans x0)
      have hq1 := cell_regrown ((HB.out.cell (p := ⟨b1, o1 + k * 3 + 1, none⟩) hb1).trans x1)
      have hq2 := cell_regrown ((HB.out.cell (p := ⟨b1, o1 + k * 3 + 2, none⟩) hb1).trans x2)
      have hr0 := cell_regrown ((HB.out.cell (p := ⟨b2, o2 + k * 3, none⟩) hb2).trans y0)
      have hr1 := cell_regrown ((HB.out.cell (p := ⟨b2, o2 + k * 3 + 1, none⟩) hb2).trans y1)
      have hr2 := cell_regrown ((HB.out.cell (p := ⟨b2, o2 + k * 3 + 2, none⟩) hb2).trans y2)
      clear x0 x1 x2 y0 y1 y2
      generalize pc ps k = p at hq0 hq1 hq2 hr0 hr1 hr2
      obtain ⟨t, q, u⟩ := p
      simp only at hq0 hq1 hq2 hr0 hr1 hr2
      go_wp2_with fail
      refine Qu.region (by kernel_rfl) (by kernel_rfl) ?_
      repeat (first
        | (first | refine Qu.carry0 rfl (fun K hK => ?_) | refine Qu.carryG rfl rfl rfl (fun K hK => ?_)
           go_simp
           first
           | (refine hK _ ?_; clear hK K)
           | (apply Exists.intro; refine ⟨fun _ => ?_, hK _ ?_⟩; fail; clear hK K))
        | (refine Qu.passG rfl rfl rfl (fun K hK => ?_); go_simp; refine hK _ ?_; clear hK K))
      refine Qu.fin ?_
      rintro ⟨dq, osq⟩
      go_wp2_with fail
      go_roundw
      case rel => exact ⟨k + 1, by omega, by go_num, HB.out.trans ((below_regrown _ dq osq).mono HB.out.size)⟩
      case measure => simp [intOf]; omega
    · have hkk : k = ps.length := by omega
      subst hkk
      go_wp2_with fail
      go_ret
      exact ⟨rfl, HB.out⟩
end Ex
end Go.Proofs.YtoneabcbeikkhaaGreatDoor

namespace Go.Proofs.YtoneabcbeikkhaaGreatDoor
open Go.RowKit Cls
namespace Ex
open Vr (St val Sc Kp Tab Prs Vs MapAt RowAt)
open Fld (Pc bs tx joinS cutP joinP Pcs pcells splitS)
open Pt (PL Lies)
/-- A scope stays as another is written. -/
theorem Sc.apart {w w' : World} {B q q2 : Nat} {s : St} {mv av mv2 av2 : Value} (h : Sc w B q s mv av) (k : Kp w w' q2 mv2 av2) (h0 : q ≠ q2 ∧ mv2 ≠ .map (some q) ∧ av2.ownBlock ≠ some q)
    (h1 : ∀ j, mv = .map (some j) → j ≠ q2 ∧ mv2 ≠ .map (some j) ∧ av2.ownBlock ≠ some j) (h2 : ∀ j, av.ownBlock = some j → j ≠ q2 ∧ mv2 ≠ .map (some j) ∧ av2.ownBlock ≠ some j) : Sc w' B q s mv av :=
  ⟨(k.block _ h.lt h0.1 h0.2.1 h0.2.2).trans h.cells, h.base, h.vars.stay (fun j e => k.block _ (h.vars.own j e).2 (h1 j e).1 (h1 j e).2.1 (h1 j e).2.2), h.args.stay (fun j e => k.block _ (h.args.own j e).2 (h2 j e).1 (h2 j e).2.1 (h2 j e).2.2)⟩
/-- The upper of two scopes stays as the lower is written. -/
theorem Sc.upper {w w' : World} {B q q2 : Nat} {s : St} {mv av mv2 av2 : Value} (h : Sc w B q s mv av) (k : Kp w w' q2 mv2 av2) (hq : q2 < B) (hm : ∀ j, mv2 = .map (some j) → j < B) (ha : ∀ j, av2.ownBlock = some j → j < B) : Sc w' B q s mv av := by
  have hall : ∀ j, B ≤ j → j ≠ q2 ∧ mv2 ≠ .map (some j) ∧ av2.ownBlock ≠ some j := fun j hj => ⟨by omega, fun e => by have := hm j e; omega, fun e => by have := ha j e; omega⟩
  exact Sc.apart h k (hall _ h.base) (fun j e => hall j (h.vars.own j e).1) (fun j e => hall j (h.args.own j e).1)
/-- The lower stays as the upper is written. -/
theorem Sc.lower {w w' : World} {B B2 C q q2 : Nat} {s s2 : St} {mv av mv2 av2 : Value} (h : Sc w B q s mv av) (k : Kp w w' q2 mv2 av2) (h2 : Sc w B2 q2 s2 mv2 av2) (hq : q < B2) (hm : ∀ j, mv = .map (some j) → j < B2 ∨ C ≤ j) (ha : ∀ j, av.ownBlock = some j → j < B2) (hq2 : q2 < C) (hm2 : ∀ j, mv2 = .map (some j) → j < C) (ha2 : ∀ j, av2.ownBlock = some j → j < C) : Sc w' B q s mv av := by
  have hall : ∀ j, j < B2 ∨ C ≤ j → j ≠ q2 ∧ mv2 ≠ .map (some j) ∧ av2.ownBlock ≠ some j := fun j hj =>
    ⟨by have := h2.base; omega, fun e => by have := (h2.vars.own j e).1; have := hm2 j e; omega, fun e => by have := (h2.args.own j e).1; have := ha2 j e; omega⟩
  exact Sc.apart h k (hall _ (.inl hq)) (fun j e => hall j (hm j e)) (fun j e => hall j (.inl (ha j e)))
theorem okGood {z s : St} {m : Nat} (hz : Small z) (h : OKs z m s) (hm : m ≤ 900000) : Vr.Good s := by
  have h1 := h.small hz
  exact ⟨⟨h.srt, by have := h.nvs; omega, by have := h1.nargs; omega, Nat.le_trans h1.join (by omega), h1.st0, h1.st1, h1.la0, h1.la1⟩, fun p hp => ⟨(h.vs p hp).1, Nat.le_trans (h.vs p hp).2.1 (by decide), Nat.le_trans (h.vs p hp).2.2 (by decide)⟩, Nat.le_trans h1.join (by omega)⟩
set_option maxHeartbeats 8000000 in
set_option maxRecDepth 10000 in
theorem pieces_law (W : World) (s : St) (vv av : Value) (l : PL) (a : Option Addr) (c : Nat) (I : QIn W s vv av l a c) (hRW : Bd.bytes l ≤ 1000 → RW W s l a c) :
    Calls Tryz.prog 3 #[.agg #[vv, av, .int .i64 s.st, .int .i64 s.la], .slice a l.len c] W fun e w' => e = .returned (.bool true) ∧ Below W.heap.size W w' := by
  have HRW0 := Lib.hid hRW
  clear hRW
  have HI := Lib.hid I
  obtain ⟨a1, c1, rfl, hcell1⟩ := I.p.cell
  obtain ⟨a2, c2, rfl, hcell2⟩ := I.x.cell
  have hle := I.l.le
  clear I hcell1 hcell2
  have HS0 := Lib.hid (heap_alloc_new W (.cells #[.slice a1 s.vs.length c1, .slice a2 s.args.length c2, .int .i64 s.st, .int .i64 s.la] 25))
  have HB0 := Lib.hid (Fld.below_alloc W (.cells #[.slice a1 s.vs.length c1, .slice a2 s.args.length c2, .int .i64 s.st, .int .i64 s.la] 25))
  go_enter Tryz.func3, Tryz.ntmps3
  go_wp2_with fail
  refine (alive_any _ (HI.out.tab.stay HB0.out)).mono ?_
  rintro e w1 ⟨rfl, hb1⟩
  have HB1 := Lib.hid (HB0.out.trans (hb1.mono HB0.out.size))
  have HS1 := Lib.hid (bel_block hb1 HS0.out)
  clear hb1
  have q0 : w1.cell? ⟨W.heap.size, 0, none⟩ = some (.slice a1 s.vs.length c1) := Lib.cell_of_heap HS1.out 0
  have q1 : w1.cell? ⟨W.heap.size, 1, none⟩ = some (.slice a2 s.args.length c2) := Lib.cell_of_heap HS1.out 1
  have q2 : w1.cell? ⟨W.heap.size, 2, none⟩ = some (.int .i64 s.st) := Lib.cell_of_heap HS1.out 2
  have q3 : w1.cell? ⟨W.heap.size, 3, none⟩ = some (.int .i64 s.la) := Lib.cell_of_heap HS1.out 3
  go_wp2_with fail
  refine (fine_any s _ _ _ (HI.out.p.stay HB1.out) (HI.out.x.stay HB1.out) HI.out.n0 HI.out.n1 HI.out.z0 HI.out.z1).mono ?_
  rintro e w2 ⟨rfl, hb2⟩
  have HB2 := Lib.hid (HB1.out.trans (hb2.mono HB1.out.size))
  have HS2 := Lib.hid (bel_block hb2 HS1.out)
  clear hb2 q0 q1 q2 q3
  cases hfin : finB s
  · go_wp2_with fail
    go_ret
    exact ⟨rfl, HB2.out⟩
  · have HFI := Lib.hid hfin
    clear hfin
    go_wp2_with fail
    refine (Pt.weight_any (l.size + 1) l a c 0 w2 (Nat.lt_succ_self _) (Nat.zero_le _) (HI.out.l.below HB2.out)).mono ?_
    rintro e w3 ⟨rfl, hb3⟩
    have HB3 := Lib.hid (HB2.out.trans (hb3.mono HB2.out.size))
    have HS3 := Lib.hid (bel_block hb3 HS2.out)
    clear hb3
    generalize hwt : Pt.weight l 0 = wt
    have HWT := Lib.hid hwt
    clear hwt
    by_cases hw : 1000 < wt
    · have hwI : ((wt : Int) > 1000) = True := eq_true (by omega)
      have hwJ : (1000 < (wt : Int)) = True := eq_true (by omega)
      go_wp2_with fail
      go_ret
      exact ⟨rfl, HB3.out⟩
    have hwI : ((wt : Int) > 1000) = False := eq_false (by omega)
    have hwJ : (1000 < (wt : Int)) = False := eq_false (by omega)
    have hby : Bd.bytes l ≤ 1000 := by
      have h1 := HWT.out
      have := Pt.weight_bytes (l := l) (d := 0) (by omega)
      omega
    have HBY := Lib.hid hby
    clear hby
    go_wp2_with fail
    refine (Rf.rvalue_any l a c w3 (HI.out.l.below HB3.out)).mono ?_
    rintro e w4 ⟨rfl, hb4⟩
    have HB4 := Lib.hid (HB3.out.trans (hb4.mono HB3.out.size))
    have HS4 := Lib.hid (bel_block hb4 HS3.out)
    clear hb4
    cases hright : Pt.rightL none l 0 1
    · go_wp2_with fail
      go_ret
      exact ⟨rfl, HB4.out⟩
    have HRW := Lib.hid hright
    clear hright
    have HLS := Lib.hid (show l.size ≤ 1000 from Nat.le_trans (bytes_size l) HBY.out)
    have HTT := Lib.hid (show okT l from okT_of (Nat.le_trans HBY.out (by decide)))
    have HOO := Lib.hid (show okOL l from okOL_of l _ _ _ HRW.out)
    have HRR := Lib.hid (HRW0.out HBY.out)
    obtain ⟨hok, hsm, hsum⟩ := fine_ok HFI.out HI.out.i0 HI.out.i1 HI.out.i2 HI.out.i3
    have HOK := Lib.hid hok; have HSM := Lib.hid hsm
    have hargs : s.args.length ≤ 1000000 := by have := hsm.nargs; omega
    clear hok hsm hsum
    go_wp2_with fail
    refine RN.begins (fun w' => w'.heap[W.heap.size]? = some (.cells #[.slice a1 s.vs.length c1, .slice a2 s.args.length c2, .int .i64 s.st, .int .i64 s.la] 25 (0, 0))) [] (by kernel_rfl) ?_
    have hS : w4.drew.heap[W.heap.size]? = some (.cells #[.slice a1 s.vs.length c1, .slice a2 s.args.length c2, .int .i64 s.st, .int .i64 s.la] 25 (0, 0)) := HS4.out
    have HBV := Lib.hid (Fld.drewn HB4.out)
    generalize w4.drew = V0 at hS HBV ⊢
    refine RN.take (i := 0) (v := ?_) rfl (by decide) (by kernel_rfl) (by kernel_rfl) (by kernel_rfl) (by kernel_rfl) (by kernel_rfl) (by first | exact fun _ _ _ h => h | exact fun _ _ _ h => (by cases h.1) | exact fun _ _ _ h => door_put (by decide) h) (.inl ⟨by rfl, ?_⟩) hS ?_
    rotate_left 1
    · (intro wq hq; have s0 : wq.cell? ⟨W.heap.size, 0, none⟩ = some (.slice a1 s.vs.length c1) := Lib.cell_of_heap hq 0; have s1 : wq.cell? ⟨W.heap.size, 1, none⟩ = some (.slice a2 s.args.length c2) := Lib.cell_of_heap hq 1; have s2 : wq.cell? ⟨W.heap.size, 2, none⟩ = some (.int .i64 s.st) := Lib.cell_of_heap hq 2; have s3 : wq.cell? ⟨W.heap.size, 3, none⟩ = some (.int .i64 s.la) := Lib.cell_of_heap hq 3; go_simp; try with_reducible rfl)
    refine RN.take (i := 2) (v := ?_) rfl (by decide) (by kernel_rfl) (by kernel_rfl) (by kernel_rfl) (by kernel_rfl) (by kernel_rfl) (by first | exact fun _ _ _ h => h | exact fun _ _ _ h => (by cases h.1) | exact fun _ _ _ h => door_put (by decide) h) (.inl ⟨by rfl, ?_⟩) hS ?_
    rotate_left 1
    · (intro wq hq; have s0 : wq.cell? ⟨W.heap.size, 0, none⟩ = some (.slice a1 s.vs.length c1) := Lib.cell_of_heap hq 0; have s1 : wq.cell? ⟨W.heap.size, 1, none⟩ = some (.slice a2 s.args.length c2) := Lib.cell_of_heap hq 1; have s2 : wq.cell? ⟨W.heap.size, 2, none⟩ = some (.int .i64 s.st) := Lib.cell_of_heap hq 2; have s3 : wq.cell? ⟨W.heap.size, 3, none⟩ = some (.int .i64 s.la) := Lib.cell_of_heap hq 3; go_simp; try with_reducible rfl)
    refine RN.all (rs := [1]) (by kernel_rfl) (by simp) ?_
    refine RN.All.cons rfl (fun K hK => ?_) RN.All.nil
    go_simp
    refine (of_any s _ _ V0 (HI.out.p.stay HBV.out) (HI.out.x.stay HBV.out) HOK.out.srt (by have := HOK.out.nvs; omega) hargs HOK.out.vs).mono ?_
    rintro e w5 ⟨qx, mx, ax, rfl, hsc5, hb5⟩
    have hS1 := bel_block hb5 hS
    have HB5 := Lib.hid (HBV.out.trans (hb5.mono HBV.out.size))
    have HX5 := Lib.hid hsc5
    have HSZ5 := Lib.hid hb5.size
    clear hsc5 hb5
    refine hK _ _ (fun _ => hS1) ?_
    clear hK K hS
    refine RN.all (rs := [3]) (by kernel_rfl) (by simp) ?_
    refine RN.All.cons rfl (fun K hK => ?_) RN.All.nil
    go_simp
    refine (of_any s _ _ w5 (HI.out.p.stay HB5.out) (HI.out.x.stay HB5.out) HOK.out.srt (by have := HOK.out.nvs; omega) hargs HOK.out.vs).mono ?_
    rintro e w6 ⟨qy, my, ay, rfl, hsc6, hb6⟩
    have hS2 := bel_block hb6 hS1
    have HB6 := Lib.hid (HB5.out.trans (hb6.mono HB5.out.size))
    have HX6 := Lib.hid (HX5.out.stay hb6)
    have HY6 := Lib.hid hsc6
    have HSZ6 := Lib.hid hb6.size
    clear hsc6 hb6 hS1
    refine hK _ _ (fun _ => hS2) ?_
    clear hK K
    refine RN.all (rs := [4]) (by kernel_rfl) (by simp) ?_
    refine RN.All.cons rfl (fun K hK => ?_) RN.All.nil
    go_simp
    refine hK _ _ (fun _ => hS2) ?_
    clear hK K
    refine RN.all (rs := [5]) (by kernel_rfl) (by simp) ?_
    refine RN.All.cons rfl (fun K hK => ?_) RN.All.nil
    go_simp
    refine hK _ _ (fun _ => hS2) ?_
    clear hK K
    refine RN.done (by kernel_rfl) ?_ _
    have HS6 := Lib.hid hS2
    clear hS2
    have HE6 := Lib.hid (Env.mk' (W0 := W) (B := V0.heap.size) (m := 100000) HB6.out HBV.out.size (Nat.le_trans HSZ5.out HSZ6.out) HX6.out HI.out.tab HOK.out HSM.out (by decide))
    have HF6 := Lib.hid (pieces_any HI.out.l HLS.out HTT.out HOO.out V0.heap.size qx s ax w6 100000 s mx HE6.out (by have := HLS.out; omega))
    have HOKS := Lib.hid (ex_ok l s [] 100000 HOK.out HTT.out)
    have HLK := Lib.hid (ex_fault l s [])
    have HLJ := Lib.hid (weight_ex l s HLS.out)
    go_wp2_with fail
    refine HF6.out.mono ?_
    rintro e w7 ⟨mx7, v7, rfl, ho7, hw7⟩
    have HB7 := Lib.hid (hw7.frame HX6.out HE6.out.hw HB6.out HBV.out.size)
    have HS7 := Lib.hid (hw7.block HX6.out (by decide) (by decide) HS6.out)
    have HY7 := Lib.hid (Sc.upper HY6.out hw7.kp HX5.out.lt (fun j e => (HX5.out.vars.own j e).2) (fun j e => (HX5.out.args.own j e).2))
    have HX7 := Lib.hid hw7.sc
    have HFR := Lib.hid hw7.fresh
    have HSZ7 := Lib.hid hw7.kp.size
    have HO7 := Lib.hid ho7
    have HFO := Lib.hid (fun w7 => one_all (pieces_any HI.out.l HLS.out HTT.out HOO.out w5.heap.size qy s ay) (W0 := W) (m := 100000) (s := s) (mv := my) (w := w7))
    have HR7 := Lib.hid (fun w7 vv av => HRR.out w7 100000 s vv av)
    clear HF6 hw7 ho7 HRR
    generalize hg : ex l s [] = g at HX7 HO7 HOKS HLK HLJ HFO HR7 ⊢
    clear hg
    obtain ⟨L, S, k1, t1⟩ := g
    obtain ⟨p7, c7, hv7, hp7⟩ := Fld.pcs_own HO7.out rfl rfl
    subst hv7
    have HBf := Lib.hid (Fld.below_alloc w7 (.cells #[.int .i64 k1, .string t1] 36))
    have HX7a := Lib.hid (HX7.out.stay HBf.out)
    have HY7a := Lib.hid (HY7.out.stay HBf.out)
    have HB7a := Lib.hid (HB7.out.trans (HBf.out.mono HB7.out.size))
    have HS7a := Lib.hid (bel_block HBf.out HS7.out)
    have HO7a := Lib.hid (Fld.ownsRow_below HO7.out HBf.out)
    have HF7a := Lib.hid (heap_alloc_new w7 (.cells #[.int .i64 k1, .string t1] 36))
    have HE7 := Lib.hid (Env.mk' (W0 := W) (B := w5.heap.size) (m := 100000) HB7a.out HB5.out.size (Nat.le_trans HSZ6.out (Nat.le_trans HSZ7.out HBf.out.size)) HY7a.out HI.out.tab HOK.out HSM.out (by decide))
    clear hp7
    go_wp2_with fail
    refine (HFO.out _ HE7.out (by have := HLS.out; omega) HLS.out).mono ?_
    rintro e w8 ⟨my8, he, hw8⟩
    have htx : (bif k1 == 0 then tx (joinS L) else tx []) = tx (joinS L) := by
      cases hk : k1 == 0
      · have h0 := HLK.out (by simpa using hk)
        rw [h0]; rfl
      · rfl
    simp only at he
    rw [htx] at he
    subst he
    clear htx
    have HB8 := Lib.hid (hw8.frame HY7a.out HE7.out.hw HB7a.out HB5.out.size)
    have HS8 := Lib.hid (hw8.block HY7a.out (by decide) (by decide) HS7a.out)
    have HF8 := Lib.hid (hw8.block HY7a.out (by decide) (by decide) HF7a.out)
    have HO8 := Lib.hid (hw8.row HY7a.out (by decide) (by decide) HO7a.out)
    have HY8 := Lib.hid hw8.sc
    have HX8 := Lib.hid (Sc.lower (C := w6.heap.size) HX7a.out hw8.kp HY7a.out HX5.out.lt (fun j e => by
      rcases HFR.out with h | h
      · rw [h] at e; exact .inl (HX5.out.vars.own j e).2
      · exact .inr (h j e)) (fun j e => (HX5.out.args.own j e).2) HY6.out.lt (fun j e => (HY6.out.vars.own j e).2) (fun j e => (HY6.out.args.own j e).2))
    clear hw8 HFO
    have HBg := Lib.hid (Fld.below_alloc w8 (.cells #[.int .i64 k1, .string t1] 36))
    have HB8a := Lib.hid (HB8.out.trans (HBg.out.mono HB8.out.size))
    have HS8a := Lib.hid (bel_block HBg.out HS8.out)
    have q0 : (w8.alloc (.cells #[.int .i64 k1, .string t1] 36)).cell? ⟨W.heap.size, 0, none⟩ = some (.slice a1 s.vs.length c1) := Lib.cell_of_heap HS8a.out 0
    have q1 : (w8.alloc (.cells #[.int .i64 k1, .string t1] 36)).cell? ⟨W.heap.size, 1, none⟩ = some (.slice a2 s.args.length c2) := Lib.cell_of_heap HS8a.out 1
    have q2 : (w8.alloc (.cells #[.int .i64 k1, .string t1] 36)).cell? ⟨W.heap.size, 2, none⟩ = some (.int .i64 s.st) := Lib.cell_of_heap HS8a.out 2
    have q3 : (w8.alloc (.cells #[.int .i64 k1, .string t1] 36)).cell? ⟨W.heap.size, 3, none⟩ = some (.int .i64 s.la) := Lib.cell_of_heap HS8a.out 3
    go_wp2_with fail
    refine (HR7.out _ _ _ HB8a.out ⟨HI.out.p.stay HB8a.out, HI.out.x.stay HB8a.out, HOK.out, HSM.out, by decide⟩ (by have := HLS.out; omega)).mono ?_
    rintro e w9 ⟨v9, rfl, ⟨lv, vz, rfl, hlv, hpz, _⟩, hb9⟩
    obtain ⟨pw, cw, rfl, hpw, _⟩ := hlv
    obtain ⟨az, nz, cz, rfl⟩ := hpz.shape
    have HBh := Lib.hid (Fld.below_alloc w9 (.cells #[.slice pw L.length cw, .slice az nz cz, .slice a2 s.args.length c2, .int .i64 S.st, .int .i64 S.la, .int .i64 k1, .string t1] 42))
    have HWTA := Lib.hid (heap_alloc_new w9 (.cells #[.slice pw L.length cw, .slice az nz cz, .slice a2 s.args.length c2, .int .i64 S.st, .int .i64 S.la, .int .i64 k1, .string t1] 42))
    have hbgh := HBg.out.trans ((hb9.trans (HBh.out.mono hb9.size)).mono HBg.out.size)
    have hb9h := hb9.trans (HBh.out.mono hb9.size)
    have HBWA := Lib.hid (HB8.out.trans (hbgh.mono HB8.out.size))
    have HFXA := Lib.hid (bel_block hbgh HF8.out)
    have HGXA := Lib.hid (bel_block hb9h (heap_alloc_new w8 (.cells #[.int .i64 k1, .string t1] 36)))
    have HXXA := Lib.hid (HX8.out.stay hbgh)
    have HYYA := Lib.hid (HY8.out.stay hbgh)
    have HPZA := Lib.hid (hpz.stay HBh.out)
    have HPWA := Lib.hid (hpw.below HBh.out)
    have HOOA := Lib.hid (Fld.ownsRow_below HO8.out hbgh)
    clear hbgh hb9h hb9 hpz hpw q0 q1 q2 q3
    have r0 : (w9.alloc (.cells #[.slice pw L.length cw, .slice az nz cz, .slice a2 s.args.length c2, .int .i64 S.st, .int .i64 S.la, .int .i64 k1, .string t1] 42)).cell? ⟨w9.heap.size, 0, none⟩ = some (.slice pw L.length cw) := Lib.cell_of_heap HWTA.out 0
    have r1 : (w9.alloc (.cells #[.slice pw L.length cw, .slice az nz cz, .slice a2 s.args.length c2, .int .i64 S.st, .int .i64 S.la, .int .i64 k1, .string t1] 42)).cell? ⟨w9.heap.size, 1, none⟩ = some (.slice az nz cz) := Lib.cell_of_heap HWTA.out 1
    have r2 : (w9.alloc (.cells #[.slice pw L.length cw, .slice az nz cz, .slice a2 s.args.length c2, .int .i64 S.st, .int .i64 S.la, .int .i64 k1, .string t1] 42)).cell? ⟨w9.heap.size, 2, none⟩ = some (.slice a2 s.args.length c2) := Lib.cell_of_heap HWTA.out 2
    have r3 : (w9.alloc (.cells #[.slice pw L.length cw, .slice az nz cz, .slice a2 s.args.length c2, .int .i64 S.st, .int .i64 S.la, .int .i64 k1, .string t1] 42)).cell? ⟨w9.heap.size, 3, none⟩ = some (.int .i64 S.st) := Lib.cell_of_heap HWTA.out 3
    have r4 : (w9.alloc (.cells #[.slice pw L.length cw, .slice az nz cz, .slice a2 s.args.length c2, .int .i64 S.st, .int .i64 S.la, .int .i64 k1, .string t1] 42)).cell? ⟨w9.heap.size, 4, none⟩ = some (.int .i64 S.la) := Lib.cell_of_heap HWTA.out 4
    have r5 : (w9.alloc (.cells #[.slice pw L.length cw, .slice az nz cz, .slice a2 s.args.length c2, .int .i64 S.st, .int .i64 S.la, .int .i64 k1, .string t1] 42)).cell? ⟨w9.heap.size, 5, none⟩ = some (.int .i64 k1) := Lib.cell_of_heap HWTA.out 5
    have r6 : (w9.alloc (.cells #[.slice pw L.length cw, .slice az nz cz, .slice a2 s.args.length c2, .int .i64 S.st, .int .i64 S.la, .int .i64 k1, .string t1] 42)).cell? ⟨w9.heap.size, 6, none⟩ = some (.string t1) := Lib.cell_of_heap HWTA.out 6
    have f0 : (w9.alloc (.cells #[.slice pw L.length cw, .slice az nz cz, .slice a2 s.args.length c2, .int .i64 S.st, .int .i64 S.la, .int .i64 k1, .string t1] 42)).cell? ⟨w7.heap.size, 0, none⟩ = some (.int .i64 k1) := Lib.cell_of_heap HFXA.out 0
    have f1 : (w9.alloc (.cells #[.slice pw L.length cw, .slice az nz cz, .slice a2 s.args.length c2, .int .i64 S.st, .int .i64 S.la, .int .i64 k1, .string t1] 42)).cell? ⟨w7.heap.size, 1, none⟩ = some (.string t1) := Lib.cell_of_heap HFXA.out 1
    have g0 : (w9.alloc (.cells #[.slice pw L.length cw, .slice az nz cz, .slice a2 s.args.length c2, .int .i64 S.st, .int .i64 S.la, .int .i64 k1, .string t1] 42)).cell? ⟨w8.heap.size, 0, none⟩ = some (.int .i64 k1) := Lib.cell_of_heap HGXA.out 0
    have g1 : (w9.alloc (.cells #[.slice pw L.length cw, .slice az nz cz, .slice a2 s.args.length c2, .int .i64 S.st, .int .i64 S.la, .int .i64 k1, .string t1] 42)).cell? ⟨w8.heap.size, 1, none⟩ = some (.string t1) := Lib.cell_of_heap HGXA.out 1
    have hL2 : L.length ≤ 1000000 := by
      have h1 := HLJ.out
      have h2 := Fld.len_le L
      omega
    have hgood := okGood HSM.out HOKS.out (by have := HLS.out; omega)
    have HGD := Lib.hid hgood
    have HLW := Lib.hid (show Fld.weight L ≤ 1000000 by have h1 := HLJ.out; omega)
    have HARG := Lib.hid (show S.args = s.args from HOKS.out.args)
    obtain ⟨p7', c7', hv7', hp7'⟩ := Fld.pcs_own HOOA.out rfl rfl
    injection hv7' with e1 e2 e3
    subst e1; subst e3
    have HP7 := Lib.hid hp7'
    clear hgood hp7' e2
    go_wp2_with fail
    refine (psame_any L _ _ _ _ _ HP7.out HPWA.out hL2).mono ?_
    rintro e wC ⟨rfl, hbC⟩
    have HBWC := Lib.hid (HBWA.out.trans (hbC.mono HBWA.out.size))
    have HWTC := Lib.hid (bel_block hbC HWTA.out)
    have HFXC := Lib.hid (bel_block hbC HFXA.out)
    have HGXC := Lib.hid (bel_block hbC HGXA.out)
    have HXXC := Lib.hid (HXXA.out.stay hbC)
    have HYYC := Lib.hid (HYYA.out.stay hbC)
    have HPZC := Lib.hid (HPZA.out.stay hbC)
    have HPWC := Lib.hid (HPWA.out.below hbC)
    clear hbC r0 r1 r2 r3 r4 r5 r6 f0 f1 g0 g1
    have r0 : wC.cell? ⟨w9.heap.size, 0, none⟩ = some (.slice pw L.length cw) := Lib.cell_of_heap HWTC.out 0
    have r1 : wC.cell? ⟨w9.heap.size, 1, none⟩ = some (.slice az nz cz) := Lib.cell_of_heap HWTC.out 1
    have r2 : wC.cell? ⟨w9.heap.size, 2, none⟩ = some (.slice a2 s.args.length c2) := Lib.cell_of_heap HWTC.out 2
    have r3 : wC.cell? ⟨w9.heap.size, 3, none⟩ = some (.int .i64 S.st) := Lib.cell_of_heap HWTC.out 3
    have r4 : wC.cell? ⟨w9.heap.size, 4, none⟩ = some (.int .i64 S.la) := Lib.cell_of_heap HWTC.out 4
    have r5 : wC.cell? ⟨w9.heap.size, 5, none⟩ = some (.int .i64 k1) := Lib.cell_of_heap HWTC.out 5
    have r6 : wC.cell? ⟨w9.heap.size, 6, none⟩ = some (.string t1) := Lib.cell_of_heap HWTC.out 6
    have f0 : wC.cell? ⟨w7.heap.size, 0, none⟩ = some (.int .i64 k1) := Lib.cell_of_heap HFXC.out 0
    have f1 : wC.cell? ⟨w7.heap.size, 1, none⟩ = some (.string t1) := Lib.cell_of_heap HFXC.out 1
    have g0 : wC.cell? ⟨w8.heap.size, 0, none⟩ = some (.int .i64 k1) := Lib.cell_of_heap HGXC.out 0
    have g1 : wC.cell? ⟨w8.heap.size, 1, none⟩ = some (.string t1) := Lib.cell_of_heap HGXC.out 1
    go_wp2_with fail
    refine (Vr.same_scope S V0.heap.size qx _ ax _ _ wC HXXC.out HPZC.out (by rw [HARG.out]; exact HI.out.x.stay HBWC.out) HGD.out (HI.out.tab.stay HBWC.out)).mono ?_
    rintro e wD ⟨rfl, hbD⟩
    have HBWD := Lib.hid (HBWC.out.trans (hbD.mono HBWC.out.size))
    have HWTD := Lib.hid (bel_block hbD HWTC.out)
    have HFXD := Lib.hid (bel_block hbD HFXC.out)
    have HGXD := Lib.hid (bel_block hbD HGXC.out)
    have HXXD := Lib.hid (HXXC.out.stay hbD)
    have HYYD := Lib.hid (HYYC.out.stay hbD)
    have HPZD := Lib.hid (HPZC.out.stay hbD)
    have HPWD := Lib.hid (HPWC.out.below hbD)
    clear hbD r0 r1 r2 r3 r4 r5 r6 f0 f1 g0 g1
    have r0 : wD.cell? ⟨w9.heap.size, 0, none⟩ = some (.slice pw L.length cw) := Lib.cell_of_heap HWTD.out 0
    have r1 : wD.cell? ⟨w9.heap.size, 1, none⟩ = some (.slice az nz cz) := Lib.cell_of_heap HWTD.out 1
    have r2 : wD.cell? ⟨w9.heap.size, 2, none⟩ = some (.slice a2 s.args.length c2) := Lib.cell_of_heap HWTD.out 2
    have r3 : wD.cell? ⟨w9.heap.size, 3, none⟩ = some (.int .i64 S.st) := Lib.cell_of_heap HWTD.out 3
    have r4 : wD.cell? ⟨w9.heap.size, 4, none⟩ = some (.int .i64 S.la) := Lib.cell_of_heap HWTD.out 4
    have r5 : wD.cell? ⟨w9.heap.size, 5, none⟩ = some (.int .i64 k1) := Lib.cell_of_heap HWTD.out 5
    have r6 : wD.cell? ⟨w9.heap.size, 6, none⟩ = some (.string t1) := Lib.cell_of_heap HWTD.out 6
    have f0 : wD.cell? ⟨w7.heap.size, 0, none⟩ = some (.int .i64 k1) := Lib.cell_of_heap HFXD.out 0
    have f1 : wD.cell? ⟨w7.heap.size, 1, none⟩ = some (.string t1) := Lib.cell_of_heap HFXD.out 1
    have g0 : wD.cell? ⟨w8.heap.size, 0, none⟩ = some (.int .i64 k1) := Lib.cell_of_heap HGXD.out 0
    have g1 : wD.cell? ⟨w8.heap.size, 1, none⟩ = some (.string t1) := Lib.cell_of_heap HGXD.out 1
    go_wp2_with fail
    refine (Fld.rjoin_wide _ _ L wD HPWD.out HLW.out).mono ?_
    rintro e wE ⟨rfl, hbE⟩
    have HBWE := Lib.hid (HBWD.out.trans (hbE.mono HBWD.out.size))
    have HWTE := Lib.hid (bel_block hbE HWTD.out)
    have HFXE := Lib.hid (bel_block hbE HFXD.out)
    have HGXE := Lib.hid (bel_block hbE HGXD.out)
    have HXXE := Lib.hid (HXXD.out.stay hbE)
    have HYYE := Lib.hid (HYYD.out.stay hbE)
    have HPZE := Lib.hid (HPZD.out.stay hbE)
    have HPWE := Lib.hid (HPWD.out.below hbE)
    clear hbE r0 r1 r2 r3 r4 r5 r6 f0 f1 g0 g1
    have r0 : wE.cell? ⟨w9.heap.size, 0, none⟩ = some (.slice pw L.length cw) := Lib.cell_of_heap HWTE.out 0
    have r1 : wE.cell? ⟨w9.heap.size, 1, none⟩ = some (.slice az nz cz) := Lib.cell_of_heap HWTE.out 1
    have r2 : wE.cell? ⟨w9.heap.size, 2, none⟩ = some (.slice a2 s.args.length c2) := Lib.cell_of_heap HWTE.out 2
    have r3 : wE.cell? ⟨w9.heap.size, 3, none⟩ = some (.int .i64 S.st) := Lib.cell_of_heap HWTE.out 3
    have r4 : wE.cell? ⟨w9.heap.size, 4, none⟩ = some (.int .i64 S.la) := Lib.cell_of_heap HWTE.out 4
    have r5 : wE.cell? ⟨w9.heap.size, 5, none⟩ = some (.int .i64 k1) := Lib.cell_of_heap HWTE.out 5
    have r6 : wE.cell? ⟨w9.heap.size, 6, none⟩ = some (.string t1) := Lib.cell_of_heap HWTE.out 6
    have f0 : wE.cell? ⟨w7.heap.size, 0, none⟩ = some (.int .i64 k1) := Lib.cell_of_heap HFXE.out 0
    have f1 : wE.cell? ⟨w7.heap.size, 1, none⟩ = some (.string t1) := Lib.cell_of_heap HFXE.out 1
    have g0 : wE.cell? ⟨w8.heap.size, 0, none⟩ = some (.int .i64 k1) := Lib.cell_of_heap HGXE.out 0
    have g1 : wE.cell? ⟨w8.heap.size, 1, none⟩ = some (.string t1) := Lib.cell_of_heap HGXE.out 1
    have et : ((tx (joinS L)).toList == (tx (joinS L)).toList) = true := by simp
    go_wp2_with fail
    refine (Vr.same_scope S w5.heap.size qy _ ay _ _ wE HYYE.out HPZE.out (by rw [HARG.out]; exact HI.out.x.stay HBWE.out) HGD.out (HI.out.tab.stay HBWE.out)).mono ?_
    rintro e wF ⟨rfl, hbF⟩
    go_wp2_with fail
    go_ret
    exact ⟨rfl, HBWE.out.trans (hbF.mono HBWE.out.size)⟩
end Ex
end Go.Proofs.YtoneabcbeikkhaaGreatDoor
