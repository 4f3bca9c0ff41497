/- The reference's param. -/
import Derived.Test.YtoneabcbeikkhaaGreatDoorExK
import Derived.Test.YtoneabcbeikkhaaGreatDoorClsN
import Derived.Deep.CutRange
namespace Go.Proofs.YtoneabcbeikkhaaGreatDoor
open Go.RowKit Cls
namespace Ex
open Vr (St val Prs)
open Fld (Pc bs tx joinS cutP joinP weight Pcs pcells)
open Pt (PL Lies)
/-- A Got by value. -/
def Rg (w : World) (B : Nat) (s0 : St) (v0 : Value) (g : Got) (av v : Value) : Prop := ∃ lv vv, v = .agg #[lv, vv, av, .int .i64 g.S.st, .int .i64 g.S.la, .int .i64 g.k, .string g.t] ∧ Pv w lv g.L ∧ Prs w vv g.S.vs ∧ (g.S.vs ≠ [] → ∀ k, vv.ownBlock = some k → (s0.vs ≠ [] ∧ v0.ownBlock = some k) ∨ B ≤ k)
def GB : Obj := .cells #[.slice none 0 0, .slice none 0 0, .slice none 0 0, .int .i64 0, .int .i64 0, .int .i64 0, .string ⟨#[]⟩] 42
abbrev W3r (w : World) (vv av : Value) (s : St) (k : Int) (qq : Bool) (t o : ByteArray) (a : Option Addr) (n c : Nat) : World := (W2r w vv av s k qq t o a n c).alloc GB
theorem three_bel (w : World) (vv av : Value) (s : St) (k : Int) (qq : Bool) (t o : ByteArray) (a : Option Addr) (n c : Nat) : Below w.heap.size w (W3r w vv av s k qq t o a n c) := (twor_bel w vv av s k qq t o a n c).trans ((Fld.below_alloc _ _).mono (twor_bel w vv av s k qq t o a n c).size)
theorem three_scope (w : World) (vv av : Value) (s : St) (k : Int) (qq : Bool) (t o : ByteArray) (a : Option Addr) (n c : Nat) : (W3r w vv av s k qq t o a n c).heap[w.heap.size]? = some (.cells #[vv, av, .int .i64 s.st, .int .i64 s.la] 25 (0, 0)) := bel_block (Fld.below_alloc _ _) (twor_scope w vv av s k qq t o a n c)
theorem three_part (w : World) (vv av : Value) (s : St) (k : Int) (qq : Bool) (t o : ByteArray) (a : Option Addr) (n c : Nat) : (W3r w vv av s k qq t o a n c).heap[w.heap.size + 1]? = some (.cells #[.int .i64 k, .bool qq, .string t, .string o, .slice a n c] 52 (0, 0)) := bel_block (Fld.below_alloc _ _) (twor_part w vv av s k qq t o a n c)
theorem three_got (w : World) (vv av : Value) (s : St) (k : Int) (qq : Bool) (t o : ByteArray) (a : Option Addr) (n c : Nat) : (W3r w vv av s k qq t o a n c).heap[w.heap.size + 2]? = some (.cells #[.slice none 0 0, .slice none 0 0, .slice none 0 0, .int .i64 0, .int .i64 0, .int .i64 0, .string ⟨#[]⟩] 42 (0, 0)) := by
  have h := heap_alloc_new (W2r w vv av s k qq t o a n c) GB
  rw [show (W2r w vv av s k qq t o a n c).heap.size = w.heap.size + 2 by simp [World.size_alloc]] at h
  exact h
/-- A scope that is looked at, by value. -/
structure REn (w : World) (z : St) (m : Nat) (s : St) (vv av : Value) : Prop where
  p : Prs w vv s.vs
  a : Vr.Txt w av s.args
  ok : OKs z m s
  sm : Small z
  hm : m ≤ 900000
theorem REn.env {w : World} {z s : St} {m : Nat} {vv av : Value} (h : REn w z m s vv av) : REnv w s vv av := by
  have h1 := h.ok.small h.sm
  exact ⟨h.p, h.a, ⟨h.ok.srt, by have := h.ok.nvs; have := h.hm; omega, by have := h1.nargs; omega, Nat.le_trans h1.join (by omega), h1.st0, h1.st1, h1.la0, h1.la1⟩, Nat.le_trans h1.join (by omega)⟩
theorem REn.stay {w w' : World} {z s : St} {m : Nat} {vv av : Value} (h : REn w z m s vv av) (hb : Below w.heap.size w w') : REn w' z m s vv av := ⟨h.p.stay hb, h.a.stay hb, h.ok, h.sm, h.hm⟩
/-- What the reference's Pieces answers of a word, in whatever world. -/
def RW (W0 : World) (z : St) (f : PL) (a : Option Addr) (c : Nat) : Prop := ∀ (w : World) (m : Nat) (s : St) (vv av : Value), Below W0.heap.size W0 w → REn w z m s vv av → m + f.size ≤ 900000 → Calls Tryz.prog 12 #[sv vv av s, .slice a f.len c] w fun e w' => ∃ v, e = .returned v ∧ Rg w' w.heap.size s vv (ex f s []) av v ∧ Below w.heap.size w w'
theorem cut5 {P : Program} {c : Code} {Q : Exit → Act → World → Prop} {a : Act} {w : World} {A : Value → Option Addr → Nat → Nat → Nat → Act} (R : Option Addr → Nat → Nat → Nat → World → Prop)
    (h1 : c.wp P (fun e a' V => e = .normal ∧ ∃ x p n d g, a' = A x p n d g ∧ R p n d g V) a w) (h2 : ∀ x p n d g V, R p n d g V → Q .normal (A x p n d g) V) : c.wp P Q a w :=
  wp_mono h1 (fun e a' V ⟨he, x, p, n, d, g, ha, hr⟩ => by subst he; subst ha; exact h2 x p n d g V hr)
abbrev set7 (w : World) (g : Nat) (x0 x1 x2 x3 x4 x5 x6 : Value) : World := ((((((w.setCell ⟨g, 0, none⟩ x0).setCell ⟨g, 1, none⟩ x1).setCell ⟨g, 2, none⟩ x2).setCell ⟨g, 3, none⟩ x3).setCell ⟨g, 4, none⟩ x4).setCell ⟨g, 5, none⟩ x5).setCell ⟨g, 6, none⟩ x6
set_option maxHeartbeats 800000 in
theorem put7 {w : World} {g : Nat} {T : TypeId} {a0 a1 a2 a3 a4 a5 a6 : Value} (h : w.heap[g]? = some (.cells #[a0, a1, a2, a3, a4, a5, a6] T (0, 0))) (x0 x1 x2 x3 x4 x5 x6 : Value) :
    (set7 w g x0 x1 x2 x3 x4 x5 x6).heap[g]? = some (.cells #[x0, x1, x2, x3, x4, x5, x6] T (0, 0)) := by
  unfold set7
  have h : (w.setCell ⟨g, 0, none⟩ x0).heap[g]? = some (.cells #[x0, a1, a2, a3, a4, a5, a6] T (0, 0)) := heap_setCell_same _ _ 0 _ _ x0 h
  generalize w.setCell ⟨g, 0, none⟩ x0 = w at h ⊢
  have h : (w.setCell ⟨g, 1, none⟩ x1).heap[g]? = some (.cells #[x0, x1, a2, a3, a4, a5, a6] T (0, 0)) := heap_setCell_same _ _ 1 _ _ x1 h
  generalize w.setCell ⟨g, 1, none⟩ x1 = w at h ⊢
  have h : (w.setCell ⟨g, 2, none⟩ x2).heap[g]? = some (.cells #[x0, x1, x2, a3, a4, a5, a6] T (0, 0)) := heap_setCell_same _ _ 2 _ _ x2 h
  generalize w.setCell ⟨g, 2, none⟩ x2 = w at h ⊢
  have h : (w.setCell ⟨g, 3, none⟩ x3).heap[g]? = some (.cells #[x0, x1, x2, x3, a4, a5, a6] T (0, 0)) := heap_setCell_same _ _ 3 _ _ x3 h
  generalize w.setCell ⟨g, 3, none⟩ x3 = w at h ⊢
  have h : (w.setCell ⟨g, 4, none⟩ x4).heap[g]? = some (.cells #[x0, x1, x2, x3, x4, a5, a6] T (0, 0)) := heap_setCell_same _ _ 4 _ _ x4 h
  generalize w.setCell ⟨g, 4, none⟩ x4 = w at h ⊢
  have h : (w.setCell ⟨g, 5, none⟩ x5).heap[g]? = some (.cells #[x0, x1, x2, x3, x4, x5, a6] T (0, 0)) := heap_setCell_same _ _ 5 _ _ x5 h
  generalize w.setCell ⟨g, 5, none⟩ x5 = w at h ⊢
  have h : (w.setCell ⟨g, 6, none⟩ x6).heap[g]? = some (.cells #[x0, x1, x2, x3, x4, x5, x6] T (0, 0)) := heap_setCell_same _ _ 6 _ _ x6 h
  generalize w.setCell ⟨g, 6, none⟩ x6 = w at h ⊢
  exact h
theorem other1 (w : World) (g j : Nat) (x : Value) {k : Nat} (hk : k ≠ g) : (w.setCell ⟨g, j, none⟩ x).heap[k]? = w.heap[k]? := heap_setCell_other _ _ _ _ hk
theorem put7_other {w : World} {g k : Nat} (hk : k ≠ g) (x0 x1 x2 x3 x4 x5 x6 : Value) : (set7 w g x0 x1 x2 x3 x4 x5 x6).heap[k]? = w.heap[k]? :=
  (other1 _ g 6 x6 hk).trans ((other1 _ g 5 x5 hk).trans ((other1 _ g 4 x4 hk).trans ((other1 _ g 3 x3 hk).trans ((other1 _ g 2 x2 hk).trans ((other1 _ g 1 x1 hk).trans (other1 _ g 0 x0 hk))))))
theorem below_set {w0 w : World} {g B : Nat} (hb : Below B w0 w) (hg : B ≤ g) (j : Nat) (x : Value) : Below B w0 (w.setCell ⟨g, j, none⟩ x) :=
  ⟨hb.os, hb.tape, hb.output, by simpa using hb.size, fun k hk => (other1 w g j x (by omega)).trans (hb.block k hk)⟩
theorem set7_below {w0 w : World} {g B : Nat} (hb : Below B w0 w) (hg : B ≤ g) (x0 x1 x2 x3 x4 x5 x6 : Value) : Below B w0 (set7 w g x0 x1 x2 x3 x4 x5 x6) :=
  below_set (below_set (below_set (below_set (below_set (below_set (below_set hb hg 0 x0) hg 1 x1) hg 2 x2) hg 3 x3) hg 4 x4) hg 5 x5) hg 6 x6
theorem Pv.shape {w : World} {v : Value} {L : List Pc} (h : Pv w v L) : ∃ a n c, v = .slice a n c := by
  obtain ⟨a, c, h, _⟩ := h; exact ⟨a, _, c, h⟩
theorem Pv.lt {w : World} {v : Value} {L : List Pc} (h : Pv w v L) : L ≠ [] → ∀ k, v.ownBlock = some k → k < w.heap.size := by
  intro hne k hk
  obtain ⟨a, c, rfl, hp, hn⟩ := h
  rcases hp with hp | ⟨b, o, rfl, hlt, hp⟩
  · exact absurd hp hne
  · cases hk; exact hlt
theorem Pv.other {w w' : World} {v : Value} {L : List Pc} (h : Pv w v L) (hk : L ≠ [] → ∀ k, v.ownBlock = some k → w'.heap[k]? = w.heap[k]?) : Pv w' v L := by
  obtain ⟨a, c, rfl, hp, hn⟩ := h
  refine ⟨a, c, rfl, ?_, hn⟩
  by_cases hne : L = []
  · exact .inl hne
  rcases hp with hp | ⟨b, o, rfl, hlt, hp⟩
  · exact .inl hp
  · have hbk : w'.heap[b]? = w.heap[b]? := hk hne b rfl
    refine .inr ⟨b, o, rfl, ?_, fun i hi => ?_⟩
    · have h1 : w.heap[b]? = some w.heap[b] := Array.getElem?_eq_getElem hlt
      rw [← hbk] at h1
      exact (Array.getElem?_eq_some_iff.1 h1).1
    · have := hp i hi
      exact ⟨(World.cell?_of_block hbk).trans this.1, (World.cell?_of_block hbk).trans this.2.1, (World.cell?_of_block hbk).trans this.2.2⟩
/-- A row of pieces is no block of a Got. -/
theorem Pv.neGot {w : World} {v : Value} {L : List Pc} {g : Nat} (h : Pv w v L) (hx : w.heap[g]? = some (.cells #[.slice none 0 0, .slice none 0 0, .slice none 0 0, .int .i64 0, .int .i64 0, .int .i64 0, .string ⟨#[]⟩] 42 (0, 0))) : L ≠ [] → ∀ k, v.ownBlock = some k → k ≠ g := by
  intro hne k hk e
  subst e
  obtain ⟨a, c, rfl, hp, hn⟩ := h
  rcases hp with hp | ⟨b, o, rfl, hlt, hp⟩
  · exact absurd hp hne
  · cases hk
    have h0 := hp 0 (List.length_pos_iff.2 hne)
    have c0 := h0.1
    have c1 := h0.2.1
    rw [cell_of_row _ _ _ _ _ _ hx] at c0 c1
    simp only [Nat.zero_mul, Nat.add_zero] at c0 c1
    match o, c0, c1 with
    | 0, c0, _ => simp at c0
    | 1, c0, _ => simp at c0
    | 2, c0, _ => simp at c0
    | 3, c0, _ => simp at c0
    | 4, c0, _ => simp at c0
    | 5, c0, _ => simp at c0
    | 6, _, c1 => simp at c1
    | o + 7, c0, _ => simp at c0
theorem paramG_own {s : St} {q : Bool} {t o : ByteArray} {n : Nat} {F : St → Got} (h : ((bs o).isEmpty || (usable s t o && !hasC o 43)) = true) : paramG s q t o n F = ownG s q t := by unfold paramG; rw [h]; rfl
theorem paramG_plus {s : St} {q : Bool} {t o : ByteArray} {n : Nat} {F : St → Got} (h : (bs o).isEmpty = false) (hu : usable s t o = false) (h43 : hasC o 43 = true) : paramG s q t o n F = ⟨emptyP [] q, s, 0, tx []⟩ := by unfold paramG; rw [h, hu, h43]; rfl
theorem paramG_after {s : St} {q : Bool} {t o : ByteArray} {n : Nat} {F : St → Got} (h : (bs o).isEmpty = false) (hu : usable s t o = hasC o 43) : paramG s q t o n F = afterP q t o n (F s) := by
  unfold paramG; rw [h, hu]; cases hasC o 43 <;> rfl
theorem Prs_other {w w' : World} {v : Value} {vs : Vr.Vs} (h : Prs w v vs) (hk : vs ≠ [] → ∀ k, v.ownBlock = some k → w'.heap[k]? = w.heap[k]?) : Prs w' v vs := by
  rcases h with h | ⟨b, off, cap, rfl, h1, h2, h3⟩
  · exact .inl h
  · by_cases hne : vs = []
    · exact .inl ⟨hne, _, cap, by rw [hne]; rfl⟩
    · have hbk : w'.heap[b]? = w.heap[b]? := hk hne b rfl
      refine .inr ⟨b, off, cap, rfl, h1, ?_, fun j p hj => ?_⟩
      · have h4 : w.heap[b]? = some w.heap[b] := Array.getElem?_eq_getElem h2
        rw [← hbk] at h4
        exact (Array.getElem?_eq_some_iff.1 h4).1
      · have := h3 j p hj
        exact ⟨(World.cell?_of_block hbk).trans this.1, (World.cell?_of_block hbk).trans this.2⟩
theorem Prs_neGot {w : World} {v : Value} {vs : Vr.Vs} {g : Nat} (h : Prs w v vs) (hx : w.heap[g]? = some (.cells #[.slice none 0 0, .slice none 0 0, .slice none 0 0, .int .i64 0, .int .i64 0, .int .i64 0, .string ⟨#[]⟩] 42 (0, 0))) : vs ≠ [] → ∀ k, v.ownBlock = some k → k ≠ g := by
  intro hne k hk e
  subst e
  rcases h with ⟨h, _⟩ | ⟨b, o, cap, rfl, h1, h2, h3⟩
  · exact absurd h hne
  · cases hk
    cases vs with
    | nil => exact absurd rfl hne
    | cons p r =>
      have h0 := h3 0 p rfl
      have c0 := h0.1
      have c1 := h0.2
      rw [cell_of_row _ _ _ _ _ _ hx] at c0 c1
      simp only [Nat.mul_zero, Nat.add_zero] at c0 c1
      match o, c0, c1 with
      | 0, c0, _ => simp at c0
      | 1, c0, _ => simp at c0
      | 2, c0, _ => simp at c0
      | 3, c0, _ => simp at c0
      | 4, c0, _ => simp at c0
      | 5, c0, _ => simp at c0
      | 6, _, c1 => simp at c1
      | o + 7, c0, _ => simp at c0
theorem afterP_fault {q : Bool} {t o : ByteArray} {n : Nat} {g : Got} (h : ¬ g.k = 0) : afterP q t o n g = g := by
  have : (g.k == 0) = false := by simpa using h
  unfold afterP; rw [this]; rfl
theorem afterP_set {q : Bool} {t o t1 : ByteArray} {n : Nat} {L : List Pc} {S : St} (h : hasC o 61 = true) : afterP q t o n ⟨L, S, 0, t1⟩ = ⟨[(tx (joinS L), q, false)], setE S t (tx (joinS L)), 0, tx []⟩ := by
  unfold afterP; rw [h]; rfl
theorem afterP_unset {q : Bool} {t o t1 : ByteArray} {n : Nat} {L : List Pc} {S : St} (h : hasC o 61 = false) (h2 : hasC o 63 = true) : afterP q t o n ⟨L, S, 0, t1⟩ = ⟨[], S, 1, unsetT t (bif n == 0 then notSet else tx (joinS L))⟩ := by
  unfold afterP; rw [h, h2]; rfl
theorem afterP_else {q : Bool} {t o t1 : ByteArray} {n : Nat} {L : List Pc} {S : St} (h : hasC o 61 = false) (h2 : hasC o 63 = false) : afterP q t o n ⟨L, S, 0, t1⟩ = ⟨emptyP L q, S, 0, tx []⟩ := by
  unfold afterP; rw [h, h2]; rfl
theorem rset_any (s : St) (n v : ByteArray) (vv av : Value) (w : World) (hp : Prs w vv s.vs) (ha : ∃ a n c, av = .slice a n c) (hl : s.vs.length ≤ 1000000) (hn : n.size ≤ 9223372036854775807) :
    Calls Tryz.prog 54 #[sv vv av s, .string n, .string v] w fun e w' => Below w.heap.size w w' ∧ ∃ a n' c, Prs w' (.slice a n' c) (setE s n v).vs ∧ ((setE s n v).vs ≠ [] → ∀ k, (Value.slice a n' c).ownBlock = some k → (s.vs ≠ [] ∧ vv.ownBlock = some k) ∨ w.heap.size ≤ k) ∧ e = .returned (.agg #[.slice a n' c, av, .int .i64 s.st, .int .i64 s.la]) := by
  cases hname : nameL (bs n)
  · refine (Vr.rset_no s n v vv av w hp.shape ha hn hname).mono ?_
    rintro e w' ⟨hb, rfl⟩
    obtain ⟨a, n', c, rfl⟩ := hp.shape
    have : setE s n v = s := by unfold setE; rw [show nameL (Fld.bs n) = false from hname]; rfl
    rw [this]
    exact ⟨hb, a, n', c, hp.stay hb, fun h _ e => .inl ⟨h, e⟩, rfl⟩
  · refine (Vr.rset_yes s n v vv av w hp ha hl hn hname).mono ?_
    rintro e w' ⟨hb, a, n', c, hp', hfr, rfl⟩
    have : (setE s n v).vs = Vr.setV s.vs n v := by unfold setE; rw [show nameL (Fld.bs n) = true from hname]; rfl
    rw [this]
    exact ⟨hb, a, n', c, hp', fun _ k e => .inr (hfr k e), rfl⟩
set_option maxRecDepth 4000 in
set_option maxHeartbeats 4000000 in
theorem rparam_any {W0 w : World} {m : Nat} {z s : St} {vv av : Value} {f : PL} {a : Option Addr} {c : Nat} (h : RW W0 z f a c) (hb0 : Below W0.heap.size W0 w) (E : REn w z m s vv av) (hm : m + f.size ≤ 900000) (hs : f.size ≤ 1000) (hf : okT f) (k : Int) (qq : Bool) (t o : ByteArray) (ht : t.size ≤ 100000) (ho : o.size ≤ 100000) :
    Calls Tryz.prog 30 #[sv vv av s, Pt.pv k qq t o a f.len c] w fun e w' => ∃ v, e = .returned v ∧ Rg w' w.heap.size s vv (paramG s qq t o f.len (fun s => ex f s [])) av v ∧ Below w.heap.size w w' := by
  obtain ⟨⟨a1, n1, c1, rfl⟩, ⟨a2, n2, c2, rfl⟩⟩ := E.env.shape
  have HB0 := Lib.hid (three_bel w (.slice a1 n1 c1) (.slice a2 n2 c2) s k qq t o a f.len c)
  have HE := Lib.hid (E.stay HB0.out)
  have HS0 := Lib.hid (three_scope w (.slice a1 n1 c1) (.slice a2 n2 c2) s k qq t o a f.len c)
  have HP0 := Lib.hid (three_part w (.slice a1 n1 c1) (.slice a2 n2 c2) s k qq t o a f.len c)
  have HG0 := Lib.hid (three_got w (.slice a1 n1 c1) (.slice a2 n2 c2) s k qq t o a f.len c)
  have HV := Lib.hid (Vr.rget_any s t _ _ _ HE.out.env.p HE.out.env.a HE.out.env.f HE.out.env.j (by omega))
  have HAM := Lib.hid (fun (n : Nat) (w : World) => ramong_any n o w (by omega))
  have HVA := Lib.hid (fun (w' : World) (hb : Below (W3r w (.slice a1 n1 c1) (.slice a2 n2 c2) s k qq t o a f.len c).heap.size (W3r w (.slice a1 n1 c1) (.slice a2 n2 c2) s k qq t o a f.len c) w') => rvalues_any s _ _ k qq t o a f.len c w' (HE.out.stay hb).env (by omega))
  have HEM := Lib.hid (fun (L : List Pc) (v : Value) (q : Bool) (w : World) (h : Pv w v L) => rempty_any L v q w h)
  have H := Lib.hid h
  have HEW := Lib.hid E
  have HBW0 := Lib.hid hb0
  have h64 : (t.toList != [64]) = !(bs t == [64]) := by rw [bne, Vr.tests]
  clear h E hb0
  unfold Pt.pv at HVA ⊢
  obtain ⟨ov, hov⟩ : ∃ ov, ov = val s t := ⟨_, rfl⟩
  rw [← hov] at HV
  have HOV := Lib.hid hov
  clear hov
  go_enter Tryz.func30, Tryz.ntmps30
  go_wp2_with fail
  refine HV.out.mono ?_
  rintro e w1 ⟨rfl, hb1⟩
  have HP1 := Lib.hid (bel_block hb1 HP0.out)
  have HS1 := Lib.hid (bel_block hb1 HS0.out)
  have HG1 := Lib.hid (bel_block hb1 HG0.out)
  have HB1 := Lib.hid hb1
  clear hb1
  have x3 : w1.cell? ⟨w.heap.size + 1, 3, none⟩ = some (.string o) := Lib.cell_of_heap HP1.out 3
  go_upto_region 2 with fail
  go_cut [7] from 16 to 28 (fun u wz => u = .bool (usable s t o) ∧ w1 = wz)
  case first =>
    cases ov with
    | none =>
      go_wp2_with fail
      go_meet
      case rel => exact ⟨congrArg Value.bool (usable_none HOV.out.symm o).symm, rfl⟩
    | some v =>
      have hvb : (v.toList == []) = (bs v).isEmpty := by rw [Vr.tests]; show (bs v == []) = _; cases bs v <;> rfl
      have hvn : (v.toList != []) = !(bs v).isEmpty := by rw [bne, hvb]
      have hus := usable_some HOV.out.symm o
      have HUS := Lib.hid hus
      clear hus
      have hE : (bs v).isEmpty = true ∨ (bs v).isEmpty = false := by cases (bs v).isEmpty <;> simp
      cases h58 : hasC o 58
      · have HAM58 := HAM.out 58
        rw [h58] at HAM58 HUS
        have HAX := Lib.hid HAM58
        clear hvb hvn hE HAM58
        go_wp2_with (go_at_call 51; refine (HAX.out _).mono ?_; rintro e w3 ⟨rfl, rfl⟩)
        go_meet
        case rel => exact ⟨congrArg Value.bool (by rw [HUS.out]; rfl), rfl⟩
      · have HAM58 := HAM.out 58
        rw [h58] at HAM58 HUS
        have HAX := Lib.hid HAM58
        clear HAM58
        rcases hE with hE | hE
        all_goals
          rw [hE] at hvb hvn HUS
          clear hE
          go_wp2_with (go_at_call 51; refine (HAX.out _).mono ?_; rintro e w3 ⟨rfl, rfl⟩)
          go_meet
          case rel => exact ⟨congrArg Value.bool (by rw [HUS.out]; rfl), rfl⟩
  case rest =>
    obtain ⟨rfl, rfl⟩ := hcut
    clear x3
    generalize hu : usable s t o = u
    have HU := Lib.hid hu
    clear hu
    go_upto_region 3 with fail
    go_cut [8] from 29 to 41 (fun g V => ∃ gb p6 n6 c6, g = .pointer (some ⟨gb, 0, none⟩) ∧ Pv V (.slice p6 n6 c6) (emptyP (valuesP s qq t) (qq && !(bs t == [64]))) ∧ V.heap[gb]? = some (.cells #[.slice p6 n6 c6, .slice a1 n1 c1, .slice a2 n2 c2, .int .i64 s.st, .int .i64 s.la, .int .i64 0, .string ⟨#[]⟩] 42 (0, 0)) ∧ Below w1.heap.size w1 V ∧ w1.heap.size ≤ gb)
    case first =>
      cases qq with
      | false =>
        refine RN.begins (fun w' => w'.heap[w.heap.size]? = some (.cells #[.slice a1 n1 c1, .slice a2 n2 c2, .int .i64 s.st, .int .i64 s.la] 25 (0, 0)) ∧ w'.heap[w.heap.size + 1]? = some (.cells #[.int .i64 k, .bool false, .string t, .string o, .slice a f.len c] 52 (0, 0))) [] (by kernel_rfl) ?_
        have hS : w1.drew.heap[w.heap.size]? = some (.cells #[.slice a1 n1 c1, .slice a2 n2 c2, .int .i64 s.st, .int .i64 s.la] 25 (0, 0)) ∧ w1.drew.heap[w.heap.size + 1]? = some (.cells #[.int .i64 k, .bool false, .string t, .string o, .slice a f.len c] 52 (0, 0)) := ⟨HS1.out, HP1.out⟩
        have HB := Lib.hid (Fld.drewn (Below.refl w1.heap.size w1))
        have hsc : w.heap.size < w1.heap.size := (Array.getElem?_eq_some_iff.1 HS1.out).1
        have hpa : w.heap.size + 1 < w1.heap.size := (Array.getElem?_eq_some_iff.1 HP1.out).1
        generalize w1.drew = V0 at HB hS ⊢
        refine RN.take (i := 0) (v := ?_) rfl (by decide) (by kernel_rfl) (by kernel_rfl) (by kernel_rfl) (by kernel_rfl) (by kernel_rfl) (by first | exact fun _ _ _ h => h | exact fun _ _ _ h => (by cases h.1) | exact fun _ _ _ h => door_put (by decide) h) (.inl ⟨by rfl, ?_⟩) hS ?_
        rotate_left 1
        · (intro wq hq; have s0 : wq.cell? ⟨w.heap.size, 0, none⟩ = some (.slice a1 n1 c1) := Lib.cell_of_heap hq.1 0; have s1 : wq.cell? ⟨w.heap.size, 1, none⟩ = some (.slice a2 n2 c2) := Lib.cell_of_heap hq.1 1; have s2 : wq.cell? ⟨w.heap.size, 2, none⟩ = some (.int .i64 s.st) := Lib.cell_of_heap hq.1 2; have s3 : wq.cell? ⟨w.heap.size, 3, none⟩ = some (.int .i64 s.la) := Lib.cell_of_heap hq.1 3; have s4 : wq.cell? ⟨w.heap.size + 1, 0, none⟩ = some (.int .i64 k) := Lib.cell_of_heap hq.2 0; have s5 : wq.cell? ⟨w.heap.size + 1, 1, none⟩ = some (.bool false) := Lib.cell_of_heap hq.2 1; have s6 : wq.cell? ⟨w.heap.size + 1, 2, none⟩ = some (.string t) := Lib.cell_of_heap hq.2 2; have s7 : wq.cell? ⟨w.heap.size + 1, 3, none⟩ = some (.string o) := Lib.cell_of_heap hq.2 3; have s8 : wq.cell? ⟨w.heap.size + 1, 4, none⟩ = some (.slice a f.len c) := Lib.cell_of_heap hq.2 4; go_simp; try with_reducible rfl)
        refine RN.take (i := 1) (v := ?_) rfl (by decide) (by kernel_rfl) (by kernel_rfl) (by kernel_rfl) (by kernel_rfl) (by kernel_rfl) (by first | exact fun _ _ _ h => h | exact fun _ _ _ h => (by cases h.1) | exact fun _ _ _ h => door_put (by decide) h) (.inl ⟨by rfl, ?_⟩) hS ?_
        rotate_left 1
        · (intro wq hq; have s0 : wq.cell? ⟨w.heap.size, 0, none⟩ = some (.slice a1 n1 c1) := Lib.cell_of_heap hq.1 0; have s1 : wq.cell? ⟨w.heap.size, 1, none⟩ = some (.slice a2 n2 c2) := Lib.cell_of_heap hq.1 1; have s2 : wq.cell? ⟨w.heap.size, 2, none⟩ = some (.int .i64 s.st) := Lib.cell_of_heap hq.1 2; have s3 : wq.cell? ⟨w.heap.size, 3, none⟩ = some (.int .i64 s.la) := Lib.cell_of_heap hq.1 3; have s4 : wq.cell? ⟨w.heap.size + 1, 0, none⟩ = some (.int .i64 k) := Lib.cell_of_heap hq.2 0; have s5 : wq.cell? ⟨w.heap.size + 1, 1, none⟩ = some (.bool false) := Lib.cell_of_heap hq.2 1; have s6 : wq.cell? ⟨w.heap.size + 1, 2, none⟩ = some (.string t) := Lib.cell_of_heap hq.2 2; have s7 : wq.cell? ⟨w.heap.size + 1, 3, none⟩ = some (.string o) := Lib.cell_of_heap hq.2 3; have s8 : wq.cell? ⟨w.heap.size + 1, 4, none⟩ = some (.slice a f.len c) := Lib.cell_of_heap hq.2 4; go_simp; try with_reducible rfl)
        refine RN.take (i := 3) (v := ?_) rfl (by decide) (by kernel_rfl) (by kernel_rfl) (by kernel_rfl) (by kernel_rfl) (by kernel_rfl) (by first | exact fun _ _ _ h => h | exact fun _ _ _ h => (by cases h.1) | exact fun _ _ _ h => door_put (by decide) h) (.inl ⟨by rfl, ?_⟩) hS ?_
        rotate_left 1
        · (intro wq hq; have s0 : wq.cell? ⟨w.heap.size, 0, none⟩ = some (.slice a1 n1 c1) := Lib.cell_of_heap hq.1 0; have s1 : wq.cell? ⟨w.heap.size, 1, none⟩ = some (.slice a2 n2 c2) := Lib.cell_of_heap hq.1 1; have s2 : wq.cell? ⟨w.heap.size, 2, none⟩ = some (.int .i64 s.st) := Lib.cell_of_heap hq.1 2; have s3 : wq.cell? ⟨w.heap.size, 3, none⟩ = some (.int .i64 s.la) := Lib.cell_of_heap hq.1 3; have s4 : wq.cell? ⟨w.heap.size + 1, 0, none⟩ = some (.int .i64 k) := Lib.cell_of_heap hq.2 0; have s5 : wq.cell? ⟨w.heap.size + 1, 1, none⟩ = some (.bool false) := Lib.cell_of_heap hq.2 1; have s6 : wq.cell? ⟨w.heap.size + 1, 2, none⟩ = some (.string t) := Lib.cell_of_heap hq.2 2; have s7 : wq.cell? ⟨w.heap.size + 1, 3, none⟩ = some (.string o) := Lib.cell_of_heap hq.2 3; have s8 : wq.cell? ⟨w.heap.size + 1, 4, none⟩ = some (.slice a f.len c) := Lib.cell_of_heap hq.2 4; go_simp; try with_reducible rfl)
        refine RN.take (i := 4) (v := ?_) rfl (by decide) (by kernel_rfl) (by kernel_rfl) (by kernel_rfl) (by kernel_rfl) (by kernel_rfl) (by first | exact fun _ _ _ h => h | exact fun _ _ _ h => (by cases h.1) | exact fun _ _ _ h => door_put (by decide) h) (.inl ⟨by rfl, ?_⟩) hS ?_
        rotate_left 1
        · (intro wq hq; have s0 : wq.cell? ⟨w.heap.size, 0, none⟩ = some (.slice a1 n1 c1) := Lib.cell_of_heap hq.1 0; have s1 : wq.cell? ⟨w.heap.size, 1, none⟩ = some (.slice a2 n2 c2) := Lib.cell_of_heap hq.1 1; have s2 : wq.cell? ⟨w.heap.size, 2, none⟩ = some (.int .i64 s.st) := Lib.cell_of_heap hq.1 2; have s3 : wq.cell? ⟨w.heap.size, 3, none⟩ = some (.int .i64 s.la) := Lib.cell_of_heap hq.1 3; have s4 : wq.cell? ⟨w.heap.size + 1, 0, none⟩ = some (.int .i64 k) := Lib.cell_of_heap hq.2 0; have s5 : wq.cell? ⟨w.heap.size + 1, 1, none⟩ = some (.bool false) := Lib.cell_of_heap hq.2 1; have s6 : wq.cell? ⟨w.heap.size + 1, 2, none⟩ = some (.string t) := Lib.cell_of_heap hq.2 2; have s7 : wq.cell? ⟨w.heap.size + 1, 3, none⟩ = some (.string o) := Lib.cell_of_heap hq.2 3; have s8 : wq.cell? ⟨w.heap.size + 1, 4, none⟩ = some (.slice a f.len c) := Lib.cell_of_heap hq.2 4; go_simp; try with_reducible rfl)
        refine RN.take (i := 11) (v := ?_) rfl (by decide) (by kernel_rfl) (by kernel_rfl) (by kernel_rfl) (by kernel_rfl) (by kernel_rfl) (by first | exact fun _ _ _ h => h | exact fun _ _ _ h => (by cases h.1) | exact fun _ _ _ h => door_put (by decide) h) (.inl ⟨by rfl, ?_⟩) hS ?_
        rotate_left 1
        · (intro wq hq; have s0 : wq.cell? ⟨w.heap.size, 0, none⟩ = some (.slice a1 n1 c1) := Lib.cell_of_heap hq.1 0; have s1 : wq.cell? ⟨w.heap.size, 1, none⟩ = some (.slice a2 n2 c2) := Lib.cell_of_heap hq.1 1; have s2 : wq.cell? ⟨w.heap.size, 2, none⟩ = some (.int .i64 s.st) := Lib.cell_of_heap hq.1 2; have s3 : wq.cell? ⟨w.heap.size, 3, none⟩ = some (.int .i64 s.la) := Lib.cell_of_heap hq.1 3; have s4 : wq.cell? ⟨w.heap.size + 1, 0, none⟩ = some (.int .i64 k) := Lib.cell_of_heap hq.2 0; have s5 : wq.cell? ⟨w.heap.size + 1, 1, none⟩ = some (.bool false) := Lib.cell_of_heap hq.2 1; have s6 : wq.cell? ⟨w.heap.size + 1, 2, none⟩ = some (.string t) := Lib.cell_of_heap hq.2 2; have s7 : wq.cell? ⟨w.heap.size + 1, 3, none⟩ = some (.string o) := Lib.cell_of_heap hq.2 3; have s8 : wq.cell? ⟨w.heap.size + 1, 4, none⟩ = some (.slice a f.len c) := Lib.cell_of_heap hq.2 4; go_simp; try with_reducible rfl)
        refine RN.all (rs := [2, 13]) (by kernel_rfl) (by simp) ?_
        refine RN.All.cons rfl (fun K hK => ?_) (RN.All.cons rfl (fun K hK => ?_) RN.All.nil)
        · go_simp
          refine (HVA.out V0 (HB1.out.trans (HB.out.mono HB1.out.size))).mono ?_
          rintro e V1 ⟨lv1, rfl, hp1, hb⟩
          have hS1 := And.intro (bel_block hb hS.1) (bel_block hb hS.2)
          have HB' := Lib.hid (HB.out.trans (hb.mono HB.out.size))
          have HPV1 := Lib.hid hp1
          refine hK _ _ (fun _ => hS1) ?_
          clear hK K hb hp1 hS HB
          have hS := hS1
          have HB := HB'
          clear hS1 HB'
          refine RN.take (i := 5) (v := ?_) rfl (by decide) (by kernel_rfl) (by kernel_rfl) (by kernel_rfl) (by kernel_rfl) (by kernel_rfl) (by first | exact fun _ _ _ h => h | exact fun _ _ _ h => (by cases h.1) | exact fun _ _ _ h => door_put (by decide) h) (.inl ⟨by rfl, ?_⟩) hS ?_
          rotate_left 1
          · (intro wq hq; have s0 : wq.cell? ⟨w.heap.size, 0, none⟩ = some (.slice a1 n1 c1) := Lib.cell_of_heap hq.1 0; have s1 : wq.cell? ⟨w.heap.size, 1, none⟩ = some (.slice a2 n2 c2) := Lib.cell_of_heap hq.1 1; have s2 : wq.cell? ⟨w.heap.size, 2, none⟩ = some (.int .i64 s.st) := Lib.cell_of_heap hq.1 2; have s3 : wq.cell? ⟨w.heap.size, 3, none⟩ = some (.int .i64 s.la) := Lib.cell_of_heap hq.1 3; have s4 : wq.cell? ⟨w.heap.size + 1, 0, none⟩ = some (.int .i64 k) := Lib.cell_of_heap hq.2 0; have s5 : wq.cell? ⟨w.heap.size + 1, 1, none⟩ = some (.bool false) := Lib.cell_of_heap hq.2 1; have s6 : wq.cell? ⟨w.heap.size + 1, 2, none⟩ = some (.string t) := Lib.cell_of_heap hq.2 2; have s7 : wq.cell? ⟨w.heap.size + 1, 3, none⟩ = some (.string o) := Lib.cell_of_heap hq.2 3; have s8 : wq.cell? ⟨w.heap.size + 1, 4, none⟩ = some (.slice a f.len c) := Lib.cell_of_heap hq.2 4; go_simp; try with_reducible rfl)
          refine RN.take (i := 6) (v := undef) rfl (by decide) (by kernel_rfl) (by kernel_rfl) (by kernel_rfl) (by kernel_rfl) (by kernel_rfl) (by first | exact fun _ _ _ h => h | exact fun _ _ _ h => (by cases h.1)) (.inr ⟨by rfl, rfl⟩) hS ?_
          refine RN.take (i := 7) (v := undef) rfl (by decide) (by kernel_rfl) (by kernel_rfl) (by kernel_rfl) (by kernel_rfl) (by kernel_rfl) (by first | exact fun _ _ _ h => h | exact fun _ _ _ h => (by cases h.1)) (.inr ⟨by rfl, rfl⟩) hS ?_
          refine RN.take (i := 8) (v := undef) rfl (by decide) (by kernel_rfl) (by kernel_rfl) (by kernel_rfl) (by kernel_rfl) (by kernel_rfl) (by first | exact fun _ _ _ h => h | exact fun _ _ _ h => (by cases h.1)) (.inr ⟨by rfl, rfl⟩) hS ?_
          refine RN.take (i := 9) (v := ?_) rfl (by decide) (by kernel_rfl) (by kernel_rfl) (by kernel_rfl) (by kernel_rfl) (by kernel_rfl) (by first | exact fun _ _ _ h => h | exact fun _ _ _ h => (by cases h.1) | exact fun _ _ _ h => door_put (by decide) h) (.inl ⟨by rfl, ?_⟩) hS ?_
          rotate_left 1
          · (intro wq hq; have s0 : wq.cell? ⟨w.heap.size, 0, none⟩ = some (.slice a1 n1 c1) := Lib.cell_of_heap hq.1 0; have s1 : wq.cell? ⟨w.heap.size, 1, none⟩ = some (.slice a2 n2 c2) := Lib.cell_of_heap hq.1 1; have s2 : wq.cell? ⟨w.heap.size, 2, none⟩ = some (.int .i64 s.st) := Lib.cell_of_heap hq.1 2; have s3 : wq.cell? ⟨w.heap.size, 3, none⟩ = some (.int .i64 s.la) := Lib.cell_of_heap hq.1 3; have s4 : wq.cell? ⟨w.heap.size + 1, 0, none⟩ = some (.int .i64 k) := Lib.cell_of_heap hq.2 0; have s5 : wq.cell? ⟨w.heap.size + 1, 1, none⟩ = some (.bool false) := Lib.cell_of_heap hq.2 1; have s6 : wq.cell? ⟨w.heap.size + 1, 2, none⟩ = some (.string t) := Lib.cell_of_heap hq.2 2; have s7 : wq.cell? ⟨w.heap.size + 1, 3, none⟩ = some (.string o) := Lib.cell_of_heap hq.2 3; have s8 : wq.cell? ⟨w.heap.size + 1, 4, none⟩ = some (.slice a f.len c) := Lib.cell_of_heap hq.2 4; go_simp; try with_reducible rfl)
          refine RN.all (rs := [10, 13]) (by kernel_rfl) (by simp) ?_
          refine RN.All.cons rfl (fun K hK => ?_) (RN.All.cons rfl (fun K hK => ?_) RN.All.nil)
          · go_simp
            refine (HEM.out _ lv1 _ V1 HPV1.out).mono ?_
            rintro e V2 ⟨lv2, rfl, hp2, hb⟩
            have hS1 := And.intro (bel_block hb hS.1) (bel_block hb hS.2)
            have HB' := Lib.hid (HB.out.trans (hb.mono HB.out.size))
            obtain ⟨p6, n6, c6, rfl⟩ := hp2.shape
            have HPV2 := Lib.hid hp2
            refine hK _ _ (fun _ => hS1) ?_
            clear hK K hb hp2 hS HB
            have hS := hS1
            have HB := HB'
            clear hS1 HB'
            refine RN.take (i := 12) (v := ?_) rfl (by decide) (by kernel_rfl) (by kernel_rfl) (by kernel_rfl) (by kernel_rfl) (by kernel_rfl) (by first | exact fun _ _ _ h => h | exact fun _ _ _ h => (by cases h.1) | exact fun _ _ _ h => door_put (by decide) h) (.inl ⟨by rfl, ?_⟩) hS ?_
            rotate_left 1
            · (intro wq hq; have s0 : wq.cell? ⟨w.heap.size, 0, none⟩ = some (.slice a1 n1 c1) := Lib.cell_of_heap hq.1 0; have s1 : wq.cell? ⟨w.heap.size, 1, none⟩ = some (.slice a2 n2 c2) := Lib.cell_of_heap hq.1 1; have s2 : wq.cell? ⟨w.heap.size, 2, none⟩ = some (.int .i64 s.st) := Lib.cell_of_heap hq.1 2; have s3 : wq.cell? ⟨w.heap.size, 3, none⟩ = some (.int .i64 s.la) := Lib.cell_of_heap hq.1 3; have s4 : wq.cell? ⟨w.heap.size + 1, 0, none⟩ = some (.int .i64 k) := Lib.cell_of_heap hq.2 0; have s5 : wq.cell? ⟨w.heap.size + 1, 1, none⟩ = some (.bool false) := Lib.cell_of_heap hq.2 1; have s6 : wq.cell? ⟨w.heap.size + 1, 2, none⟩ = some (.string t) := Lib.cell_of_heap hq.2 2; have s7 : wq.cell? ⟨w.heap.size + 1, 3, none⟩ = some (.string o) := Lib.cell_of_heap hq.2 3; have s8 : wq.cell? ⟨w.heap.size + 1, 4, none⟩ = some (.slice a f.len c) := Lib.cell_of_heap hq.2 4; go_simp; try with_reducible rfl)
            refine RN.all (rs := [13]) (by kernel_rfl) (by simp) ?_
            refine RN.All.cons rfl (fun K hK => ?_) RN.All.nil
            go_simp
            have hb := Fld.below_alloc V2 (.cells #[.slice none 0 0, .slice none 0 0, .slice none 0 0, .int .i64 0, .int .i64 0, .int .i64 0, .string ⟨#[]⟩] 42)
            have hS1 := And.intro (bel_block hb hS.1) (bel_block hb hS.2)
            have HX := Lib.hid (heap_alloc_new V2 (.cells #[.slice none 0 0, .slice none 0 0, .slice none 0 0, .int .i64 0, .int .i64 0, .int .i64 0, .string ⟨#[]⟩] 42))
            have HB' := Lib.hid (HB.out.trans (hb.mono HB.out.size))
            have hgb : w1.heap.size ≤ V2.heap.size := HB.out.size
            have hgl : V2.heap.size < (V2.alloc (.cells #[.slice none 0 0, .slice none 0 0, .slice none 0 0, .int .i64 0, .int .i64 0, .int .i64 0, .string ⟨#[]⟩] 42)).heap.size := by simp [World.size_alloc]
            have HPV' := Lib.hid (HPV2.out.stay hb)
            have hne : ∀ (_ : _ ≠ []) k, (Value.slice p6 n6 c6).ownBlock = some k → k ≠ V2.heap.size := fun h k e => Nat.ne_of_lt (HPV2.out.lt h k e)
            have HNE := Lib.hid hne
            clear hne
            refine hK _ _ (fun _ => hS1) ?_
            clear hK K hb hS HB HPV2
            have HPV2 := HPV'
            clear HPV'
            have hS := hS1
            have HB := HB'
            clear hS1 HB'
            generalize V2.alloc (.cells #[.slice none 0 0, .slice none 0 0, .slice none 0 0, .int .i64 0, .int .i64 0, .int .i64 0, .string ⟨#[]⟩] 42) = V3 at HX HB hS hgl HPV2 ⊢
            generalize V2.heap.size = gb at HX hgb hgl HNE ⊢
            refine RN.all (rs := [14]) (by kernel_rfl) (by simp) ?_
            refine RN.All.cons rfl (fun K hK => ?_) RN.All.nil
            have y0 : V3.cell? ⟨gb, 0, none⟩ = some (.slice none 0 0) := Lib.cell_of_heap HX.out 0
            have z0 : V3.frozen? ⟨gb, 0, none⟩ = false := frozen_of_row _ _ _ _ _ HX.out
            have y1 : V3.cell? ⟨gb, 1, none⟩ = some (.slice none 0 0) := Lib.cell_of_heap HX.out 1
            have z1 : V3.frozen? ⟨gb, 1, none⟩ = false := frozen_of_row _ _ _ _ _ HX.out
            have y2 : V3.cell? ⟨gb, 2, none⟩ = some (.slice none 0 0) := Lib.cell_of_heap HX.out 2
            have z2 : V3.frozen? ⟨gb, 2, none⟩ = false := frozen_of_row _ _ _ _ _ HX.out
            have y3 : V3.cell? ⟨gb, 3, none⟩ = some (.int .i64 0) := Lib.cell_of_heap HX.out 3
            have z3 : V3.frozen? ⟨gb, 3, none⟩ = false := frozen_of_row _ _ _ _ _ HX.out
            have y4 : V3.cell? ⟨gb, 4, none⟩ = some (.int .i64 0) := Lib.cell_of_heap HX.out 4
            have z4 : V3.frozen? ⟨gb, 4, none⟩ = false := frozen_of_row _ _ _ _ _ HX.out
            have y5 : V3.cell? ⟨gb, 5, none⟩ = some (.int .i64 0) := Lib.cell_of_heap HX.out 5
            have z5 : V3.frozen? ⟨gb, 5, none⟩ = false := frozen_of_row _ _ _ _ _ HX.out
            have y6 : V3.cell? ⟨gb, 6, none⟩ = some (.string ⟨#[]⟩) := Lib.cell_of_heap HX.out 6
            have z6 : V3.frozen? ⟨gb, 6, none⟩ = false := frozen_of_row _ _ _ _ _ HX.out
            go_simp
            refine hK _ _ (fun _ => ⟨(put7_other (by omega) _ _ _ _ _ _ _).trans hS.1, (put7_other (by omega) _ _ _ _ _ _ _).trans hS.2⟩) ?_
            clear hK K y0 z0 y1 z1 y2 z2 y3 z3 y4 z4 y5 z5 y6 z6
            refine RN.done (by kernel_rfl) ?_ _
            go_wp2_with fail
            go_meet
            case rel => exact ⟨gb, p6, n6, c6, rfl, HPV2.out.other (fun h k e => put7_other (HNE.out h k e) _ _ _ _ _ _ _), put7 HX.out _ _ _ _ _ _ _, set7_below HB.out hgb _ _ _ _ _ _ _, hgb⟩
          · go_simp
            have hb := Fld.below_alloc V1 (.cells #[.slice none 0 0, .slice none 0 0, .slice none 0 0, .int .i64 0, .int .i64 0, .int .i64 0, .string ⟨#[]⟩] 42)
            have hS1 := And.intro (bel_block hb hS.1) (bel_block hb hS.2)
            have HX := Lib.hid (heap_alloc_new V1 (.cells #[.slice none 0 0, .slice none 0 0, .slice none 0 0, .int .i64 0, .int .i64 0, .int .i64 0, .string ⟨#[]⟩] 42))
            have HB' := Lib.hid (HB.out.trans (hb.mono HB.out.size))
            have hgb : w1.heap.size ≤ V1.heap.size := HB.out.size
            have hgl : V1.heap.size < (V1.alloc (.cells #[.slice none 0 0, .slice none 0 0, .slice none 0 0, .int .i64 0, .int .i64 0, .int .i64 0, .string ⟨#[]⟩] 42)).heap.size := by simp [World.size_alloc]
            have HPV' := Lib.hid (HPV1.out.stay hb)
            refine hK _ _ (fun _ => hS1) ?_
            clear hK K hb hS HB HPV1
            have HPV1 := HPV'
            clear HPV'
            have hS := hS1
            have HB := HB'
            clear hS1 HB'
            generalize V1.alloc (.cells #[.slice none 0 0, .slice none 0 0, .slice none 0 0, .int .i64 0, .int .i64 0, .int .i64 0, .string ⟨#[]⟩] 42) = V4 at HX HB hS hgl HPV1 ⊢
            generalize V1.heap.size = gb at HX hgb hgl ⊢
            refine RN.all (rs := [10]) (by kernel_rfl) (by simp) ?_
            refine RN.All.cons rfl (fun K hK => ?_) RN.All.nil
            go_simp
            refine (HEM.out _ lv1 _ V4 HPV1.out).mono ?_
            rintro e V5 ⟨lv2, rfl, hp2, hb⟩
            have hS1 := And.intro (bel_block hb hS.1) (bel_block hb hS.2)
            have HB' := Lib.hid (HB.out.trans (hb.mono HB.out.size))
            obtain ⟨p6, n6, c6, rfl⟩ := hp2.shape
            have HPV2 := Lib.hid hp2
            have HX' := Lib.hid (bel_block hb HX.out)
            have HNE := Lib.hid (HPV2.out.neGot HX'.out)
            refine hK _ _ (fun _ => hS1) ?_
            clear hK K hb hp2 hS HB HX
            have HX := HX'
            clear HX'
            have hS := hS1
            have HB := HB'
            clear hS1 HB'
            refine RN.take (i := 12) (v := ?_) rfl (by decide) (by kernel_rfl) (by kernel_rfl) (by kernel_rfl) (by kernel_rfl) (by kernel_rfl) (by first | exact fun _ _ _ h => h | exact fun _ _ _ h => (by cases h.1) | exact fun _ _ _ h => door_put (by decide) h) (.inl ⟨by rfl, ?_⟩) hS ?_
            rotate_left 1
            · (intro wq hq; have s0 : wq.cell? ⟨w.heap.size, 0, none⟩ = some (.slice a1 n1 c1) := Lib.cell_of_heap hq.1 0; have s1 : wq.cell? ⟨w.heap.size, 1, none⟩ = some (.slice a2 n2 c2) := Lib.cell_of_heap hq.1 1; have s2 : wq.cell? ⟨w.heap.size, 2, none⟩ = some (.int .i64 s.st) := Lib.cell_of_heap hq.1 2; have s3 : wq.cell? ⟨w.heap.size, 3, none⟩ = some (.int .i64 s.la) := Lib.cell_of_heap hq.1 3; have s4 : wq.cell? ⟨w.heap.size + 1, 0, none⟩ = some (.int .i64 k) := Lib.cell_of_heap hq.2 0; have s5 : wq.cell? ⟨w.heap.size + 1, 1, none⟩ = some (.bool false) := Lib.cell_of_heap hq.2 1; have s6 : wq.cell? ⟨w.heap.size + 1, 2, none⟩ = some (.string t) := Lib.cell_of_heap hq.2 2; have s7 : wq.cell? ⟨w.heap.size + 1, 3, none⟩ = some (.string o) := Lib.cell_of_heap hq.2 3; have s8 : wq.cell? ⟨w.heap.size + 1, 4, none⟩ = some (.slice a f.len c) := Lib.cell_of_heap hq.2 4; go_simp; try with_reducible rfl)
            refine RN.all (rs := [14]) (by kernel_rfl) (by simp) ?_
            refine RN.All.cons rfl (fun K hK => ?_) RN.All.nil
            have y0 : V5.cell? ⟨gb, 0, none⟩ = some (.slice none 0 0) := Lib.cell_of_heap HX.out 0
            have z0 : V5.frozen? ⟨gb, 0, none⟩ = false := frozen_of_row _ _ _ _ _ HX.out
            have y1 : V5.cell? ⟨gb, 1, none⟩ = some (.slice none 0 0) := Lib.cell_of_heap HX.out 1
            have z1 : V5.frozen? ⟨gb, 1, none⟩ = false := frozen_of_row _ _ _ _ _ HX.out
            have y2 : V5.cell? ⟨gb, 2, none⟩ = some (.slice none 0 0) := Lib.cell_of_heap HX.out 2
            have z2 : V5.frozen? ⟨gb, 2, none⟩ = false := frozen_of_row _ _ _ _ _ HX.out
            have y3 : V5.cell? ⟨gb, 3, none⟩ = some (.int .i64 0) := Lib.cell_of_heap HX.out 3
            have z3 : V5.frozen? ⟨gb, 3, none⟩ = false := frozen_of_row _ _ _ _ _ HX.out
            have y4 : V5.cell? ⟨gb, 4, none⟩ = some (.int .i64 0) := Lib.cell_of_heap HX.out 4
            have z4 : V5.frozen? ⟨gb, 4, none⟩ = false := frozen_of_row _ _ _ _ _ HX.out
            have y5 : V5.cell? ⟨gb, 5, none⟩ = some (.int .i64 0) := Lib.cell_of_heap HX.out 5
            have z5 : V5.frozen? ⟨gb, 5, none⟩ = false := frozen_of_row _ _ _ _ _ HX.out
            have y6 : V5.cell? ⟨gb, 6, none⟩ = some (.string ⟨#[]⟩) := Lib.cell_of_heap HX.out 6
            have z6 : V5.frozen? ⟨gb, 6, none⟩ = false := frozen_of_row _ _ _ _ _ HX.out
            go_simp
            refine hK _ _ (fun _ => ⟨(put7_other (by omega) _ _ _ _ _ _ _).trans hS.1, (put7_other (by omega) _ _ _ _ _ _ _).trans hS.2⟩) ?_
            clear hK K y0 z0 y1 z1 y2 z2 y3 z3 y4 z4 y5 z5 y6 z6
            refine RN.done (by kernel_rfl) ?_ _
            go_wp2_with fail
            go_meet
            case rel => exact ⟨gb, p6, n6, c6, rfl, HPV2.out.other (fun h k e => put7_other (HNE.out h k e) _ _ _ _ _ _ _), put7 HX.out _ _ _ _ _ _ _, set7_below HB.out hgb _ _ _ _ _ _ _, hgb⟩
        · go_simp
          have hb := Fld.below_alloc V0 (.cells #[.slice none 0 0, .slice none 0 0, .slice none 0 0, .int .i64 0, .int .i64 0, .int .i64 0, .string ⟨#[]⟩] 42)
          have hS1 := And.intro (bel_block hb hS.1) (bel_block hb hS.2)
          have HX := Lib.hid (heap_alloc_new V0 (.cells #[.slice none 0 0, .slice none 0 0, .slice none 0 0, .int .i64 0, .int .i64 0, .int .i64 0, .string ⟨#[]⟩] 42))
          have HB' := Lib.hid (HB.out.trans (hb.mono HB.out.size))
          have hgb : w1.heap.size ≤ V0.heap.size := HB.out.size
          have hgl : V0.heap.size < (V0.alloc (.cells #[.slice none 0 0, .slice none 0 0, .slice none 0 0, .int .i64 0, .int .i64 0, .int .i64 0, .string ⟨#[]⟩] 42)).heap.size := by simp [World.size_alloc]
          refine hK _ _ (fun _ => hS1) ?_
          clear hK K hb hS HB
          have hS := hS1
          have HB := HB'
          clear hS1 HB'
          generalize V0.alloc (.cells #[.slice none 0 0, .slice none 0 0, .slice none 0 0, .int .i64 0, .int .i64 0, .int .i64 0, .string ⟨#[]⟩] 42) = V6 at HX HB hS hgl ⊢
          generalize V0.heap.size = gb at HX hgb hgl ⊢
          refine RN.all (rs := [2]) (by kernel_rfl) (by simp) ?_
          refine RN.All.cons rfl (fun K hK => ?_) RN.All.nil
          go_simp
          refine (HVA.out V6 (HB1.out.trans (HB.out.mono HB1.out.size))).mono ?_
          rintro e V7 ⟨lv1, rfl, hp1, hb⟩
          have hS1 := And.intro (bel_block hb hS.1) (bel_block hb hS.2)
          have HB' := Lib.hid (HB.out.trans (hb.mono HB.out.size))
          have HPV1 := Lib.hid hp1
          have HX' := Lib.hid (bel_block hb HX.out)
          have hgl' : gb < V7.heap.size := (Array.getElem?_eq_some_iff.1 HX'.out).1
          refine hK _ _ (fun _ => hS1) ?_
          clear hK K hb hp1 hS HB HX hgl
          have HX := HX'
          have hgl := hgl'
          clear HX' hgl'
          have hS := hS1
          have HB := HB'
          clear hS1 HB'
          refine RN.take (i := 5) (v := ?_) rfl (by decide) (by kernel_rfl) (by kernel_rfl) (by kernel_rfl) (by kernel_rfl) (by kernel_rfl) (by first | exact fun _ _ _ h => h | exact fun _ _ _ h => (by cases h.1) | exact fun _ _ _ h => door_put (by decide) h) (.inl ⟨by rfl, ?_⟩) hS ?_
          rotate_left 1
          · (intro wq hq; have s0 : wq.cell? ⟨w.heap.size, 0, none⟩ = some (.slice a1 n1 c1) := Lib.cell_of_heap hq.1 0; have s1 : wq.cell? ⟨w.heap.size, 1, none⟩ = some (.slice a2 n2 c2) := Lib.cell_of_heap hq.1 1; have s2 : wq.cell? ⟨w.heap.size, 2, none⟩ = some (.int .i64 s.st) := Lib.cell_of_heap hq.1 2; have s3 : wq.cell? ⟨w.heap.size, 3, none⟩ = some (.int .i64 s.la) := Lib.cell_of_heap hq.1 3; have s4 : wq.cell? ⟨w.heap.size + 1, 0, none⟩ = some (.int .i64 k) := Lib.cell_of_heap hq.2 0; have s5 : wq.cell? ⟨w.heap.size + 1, 1, none⟩ = some (.bool false) := Lib.cell_of_heap hq.2 1; have s6 : wq.cell? ⟨w.heap.size + 1, 2, none⟩ = some (.string t) := Lib.cell_of_heap hq.2 2; have s7 : wq.cell? ⟨w.heap.size + 1, 3, none⟩ = some (.string o) := Lib.cell_of_heap hq.2 3; have s8 : wq.cell? ⟨w.heap.size + 1, 4, none⟩ = some (.slice a f.len c) := Lib.cell_of_heap hq.2 4; go_simp; try with_reducible rfl)
          refine RN.take (i := 6) (v := undef) rfl (by decide) (by kernel_rfl) (by kernel_rfl) (by kernel_rfl) (by kernel_rfl) (by kernel_rfl) (by first | exact fun _ _ _ h => h | exact fun _ _ _ h => (by cases h.1)) (.inr ⟨by rfl, rfl⟩) hS ?_
          refine RN.take (i := 7) (v := undef) rfl (by decide) (by kernel_rfl) (by kernel_rfl) (by kernel_rfl) (by kernel_rfl) (by kernel_rfl) (by first | exact fun _ _ _ h => h | exact fun _ _ _ h => (by cases h.1)) (.inr ⟨by rfl, rfl⟩) hS ?_
          refine RN.take (i := 8) (v := undef) rfl (by decide) (by kernel_rfl) (by kernel_rfl) (by kernel_rfl) (by kernel_rfl) (by kernel_rfl) (by first | exact fun _ _ _ h => h | exact fun _ _ _ h => (by cases h.1)) (.inr ⟨by rfl, rfl⟩) hS ?_
          refine RN.take (i := 9) (v := ?_) rfl (by decide) (by kernel_rfl) (by kernel_rfl) (by kernel_rfl) (by kernel_rfl) (by kernel_rfl) (by first | exact fun _ _ _ h => h | exact fun _ _ _ h => (by cases h.1) | exact fun _ _ _ h => door_put (by decide) h) (.inl ⟨by rfl, ?_⟩) hS ?_
          rotate_left 1
          · (intro wq hq; have s0 : wq.cell? ⟨w.heap.size, 0, none⟩ = some (.slice a1 n1 c1) := Lib.cell_of_heap hq.1 0; have s1 : wq.cell? ⟨w.heap.size, 1, none⟩ = some (.slice a2 n2 c2) := Lib.cell_of_heap hq.1 1; have s2 : wq.cell? ⟨w.heap.size, 2, none⟩ = some (.int .i64 s.st) := Lib.cell_of_heap hq.1 2; have s3 : wq.cell? ⟨w.heap.size, 3, none⟩ = some (.int .i64 s.la) := Lib.cell_of_heap hq.1 3; have s4 : wq.cell? ⟨w.heap.size + 1, 0, none⟩ = some (.int .i64 k) := Lib.cell_of_heap hq.2 0; have s5 : wq.cell? ⟨w.heap.size + 1, 1, none⟩ = some (.bool false) := Lib.cell_of_heap hq.2 1; have s6 : wq.cell? ⟨w.heap.size + 1, 2, none⟩ = some (.string t) := Lib.cell_of_heap hq.2 2; have s7 : wq.cell? ⟨w.heap.size + 1, 3, none⟩ = some (.string o) := Lib.cell_of_heap hq.2 3; have s8 : wq.cell? ⟨w.heap.size + 1, 4, none⟩ = some (.slice a f.len c) := Lib.cell_of_heap hq.2 4; go_simp; try with_reducible rfl)
          refine RN.all (rs := [10]) (by kernel_rfl) (by simp) ?_
          refine RN.All.cons rfl (fun K hK => ?_) RN.All.nil
          go_simp
          refine (HEM.out _ lv1 _ V7 HPV1.out).mono ?_
          rintro e V8 ⟨lv2, rfl, hp2, hb⟩
          have hS1 := And.intro (bel_block hb hS.1) (bel_block hb hS.2)
          have HB' := Lib.hid (HB.out.trans (hb.mono HB.out.size))
          obtain ⟨p6, n6, c6, rfl⟩ := hp2.shape
          have HPV2 := Lib.hid hp2
          have HX' := Lib.hid (bel_block hb HX.out)
          have HNE := Lib.hid (HPV2.out.neGot HX'.out)
          refine hK _ _ (fun _ => hS1) ?_
          clear hK K hb hp2 hS HB HX
          have HX := HX'
          clear HX'
          have hS := hS1
          have HB := HB'
          clear hS1 HB'
          refine RN.take (i := 12) (v := ?_) rfl (by decide) (by kernel_rfl) (by kernel_rfl) (by kernel_rfl) (by kernel_rfl) (by kernel_rfl) (by first | exact fun _ _ _ h => h | exact fun _ _ _ h => (by cases h.1) | exact fun _ _ _ h => door_put (by decide) h) (.inl ⟨by rfl, ?_⟩) hS ?_
          rotate_left 1
          · (intro wq hq; have s0 : wq.cell? ⟨w.heap.size, 0, none⟩ = some (.slice a1 n1 c1) := Lib.cell_of_heap hq.1 0; have s1 : wq.cell? ⟨w.heap.size, 1, none⟩ = some (.slice a2 n2 c2) := Lib.cell_of_heap hq.1 1; have s2 : wq.cell? ⟨w.heap.size, 2, none⟩ = some (.int .i64 s.st) := Lib.cell_of_heap hq.1 2; have s3 : wq.cell? ⟨w.heap.size, 3, none⟩ = some (.int .i64 s.la) := Lib.cell_of_heap hq.1 3; have s4 : wq.cell? ⟨w.heap.size + 1, 0, none⟩ = some (.int .i64 k) := Lib.cell_of_heap hq.2 0; have s5 : wq.cell? ⟨w.heap.size + 1, 1, none⟩ = some (.bool false) := Lib.cell_of_heap hq.2 1; have s6 : wq.cell? ⟨w.heap.size + 1, 2, none⟩ = some (.string t) := Lib.cell_of_heap hq.2 2; have s7 : wq.cell? ⟨w.heap.size + 1, 3, none⟩ = some (.string o) := Lib.cell_of_heap hq.2 3; have s8 : wq.cell? ⟨w.heap.size + 1, 4, none⟩ = some (.slice a f.len c) := Lib.cell_of_heap hq.2 4; go_simp; try with_reducible rfl)
          refine RN.all (rs := [14]) (by kernel_rfl) (by simp) ?_
          refine RN.All.cons rfl (fun K hK => ?_) RN.All.nil
          have y0 : V8.cell? ⟨gb, 0, none⟩ = some (.slice none 0 0) := Lib.cell_of_heap HX.out 0
          have z0 : V8.frozen? ⟨gb, 0, none⟩ = false := frozen_of_row _ _ _ _ _ HX.out
          have y1 : V8.cell? ⟨gb, 1, none⟩ = some (.slice none 0 0) := Lib.cell_of_heap HX.out 1
          have z1 : V8.frozen? ⟨gb, 1, none⟩ = false := frozen_of_row _ _ _ _ _ HX.out
          have y2 : V8.cell? ⟨gb, 2, none⟩ = some (.slice none 0 0) := Lib.cell_of_heap HX.out 2
          have z2 : V8.frozen? ⟨gb, 2, none⟩ = false := frozen_of_row _ _ _ _ _ HX.out
          have y3 : V8.cell? ⟨gb, 3, none⟩ = some (.int .i64 0) := Lib.cell_of_heap HX.out 3
          have z3 : V8.frozen? ⟨gb, 3, none⟩ = false := frozen_of_row _ _ _ _ _ HX.out
          have y4 : V8.cell? ⟨gb, 4, none⟩ = some (.int .i64 0) := Lib.cell_of_heap HX.out 4
          have z4 : V8.frozen? ⟨gb, 4, none⟩ = false := frozen_of_row _ _ _ _ _ HX.out
          have y5 : V8.cell? ⟨gb, 5, none⟩ = some (.int .i64 0) := Lib.cell_of_heap HX.out 5
          have z5 : V8.frozen? ⟨gb, 5, none⟩ = false := frozen_of_row _ _ _ _ _ HX.out
          have y6 : V8.cell? ⟨gb, 6, none⟩ = some (.string ⟨#[]⟩) := Lib.cell_of_heap HX.out 6
          have z6 : V8.frozen? ⟨gb, 6, none⟩ = false := frozen_of_row _ _ _ _ _ HX.out
          go_simp
          refine hK _ _ (fun _ => ⟨(put7_other (by omega) _ _ _ _ _ _ _).trans hS.1, (put7_other (by omega) _ _ _ _ _ _ _).trans hS.2⟩) ?_
          clear hK K y0 z0 y1 z1 y2 z2 y3 z3 y4 z4 y5 z5 y6 z6
          refine RN.done (by kernel_rfl) ?_ _
          go_wp2_with fail
          go_meet
          case rel => exact ⟨gb, p6, n6, c6, rfl, HPV2.out.other (fun h k e => put7_other (HNE.out h k e) _ _ _ _ _ _ _), put7 HX.out _ _ _ _ _ _ _, set7_below HB.out hgb _ _ _ _ _ _ _, hgb⟩
      | true =>
        refine RN.begins (fun w' => w'.heap[w.heap.size]? = some (.cells #[.slice a1 n1 c1, .slice a2 n2 c2, .int .i64 s.st, .int .i64 s.la] 25 (0, 0)) ∧ w'.heap[w.heap.size + 1]? = some (.cells #[.int .i64 k, .bool true, .string t, .string o, .slice a f.len c] 52 (0, 0))) [] (by kernel_rfl) ?_
        have hS : w1.drew.heap[w.heap.size]? = some (.cells #[.slice a1 n1 c1, .slice a2 n2 c2, .int .i64 s.st, .int .i64 s.la] 25 (0, 0)) ∧ w1.drew.heap[w.heap.size + 1]? = some (.cells #[.int .i64 k, .bool true, .string t, .string o, .slice a f.len c] 52 (0, 0)) := ⟨HS1.out, HP1.out⟩
        have HB := Lib.hid (Fld.drewn (Below.refl w1.heap.size w1))
        have hsc : w.heap.size < w1.heap.size := (Array.getElem?_eq_some_iff.1 HS1.out).1
        have hpa : w.heap.size + 1 < w1.heap.size := (Array.getElem?_eq_some_iff.1 HP1.out).1
        generalize w1.drew = V0 at HB hS ⊢
        refine RN.take (i := 0) (v := ?_) rfl (by decide) (by kernel_rfl) (by kernel_rfl) (by kernel_rfl) (by kernel_rfl) (by kernel_rfl) (by first | exact fun _ _ _ h => h | exact fun _ _ _ h => (by cases h.1) | exact fun _ _ _ h => door_put (by decide) h) (.inl ⟨by rfl, ?_⟩) hS ?_
        rotate_left 1
        · (intro wq hq; have s0 : wq.cell? ⟨w.heap.size, 0, none⟩ = some (.slice a1 n1 c1) := Lib.cell_of_heap hq.1 0; have s1 : wq.cell? ⟨w.heap.size, 1, none⟩ = some (.slice a2 n2 c2) := Lib.cell_of_heap hq.1 1; have s2 : wq.cell? ⟨w.heap.size, 2, none⟩ = some (.int .i64 s.st) := Lib.cell_of_heap hq.1 2; have s3 : wq.cell? ⟨w.heap.size, 3, none⟩ = some (.int .i64 s.la) := Lib.cell_of_heap hq.1 3; have s4 : wq.cell? ⟨w.heap.size + 1, 0, none⟩ = some (.int .i64 k) := Lib.cell_of_heap hq.2 0; have s5 : wq.cell? ⟨w.heap.size + 1, 1, none⟩ = some (.bool true) := Lib.cell_of_heap hq.2 1; have s6 : wq.cell? ⟨w.heap.size + 1, 2, none⟩ = some (.string t) := Lib.cell_of_heap hq.2 2; have s7 : wq.cell? ⟨w.heap.size + 1, 3, none⟩ = some (.string o) := Lib.cell_of_heap hq.2 3; have s8 : wq.cell? ⟨w.heap.size + 1, 4, none⟩ = some (.slice a f.len c) := Lib.cell_of_heap hq.2 4; go_simp; try with_reducible rfl)
        refine RN.take (i := 1) (v := ?_) rfl (by decide) (by kernel_rfl) (by kernel_rfl) (by kernel_rfl) (by kernel_rfl) (by kernel_rfl) (by first | exact fun _ _ _ h => h | exact fun _ _ _ h => (by cases h.1) | exact fun _ _ _ h => door_put (by decide) h) (.inl ⟨by rfl, ?_⟩) hS ?_
        rotate_left 1
        · (intro wq hq; have s0 : wq.cell? ⟨w.heap.size, 0, none⟩ = some (.slice a1 n1 c1) := Lib.cell_of_heap hq.1 0; have s1 : wq.cell? ⟨w.heap.size, 1, none⟩ = some (.slice a2 n2 c2) := Lib.cell_of_heap hq.1 1; have s2 : wq.cell? ⟨w.heap.size, 2, none⟩ = some (.int .i64 s.st) := Lib.cell_of_heap hq.1 2; have s3 : wq.cell? ⟨w.heap.size, 3, none⟩ = some (.int .i64 s.la) := Lib.cell_of_heap hq.1 3; have s4 : wq.cell? ⟨w.heap.size + 1, 0, none⟩ = some (.int .i64 k) := Lib.cell_of_heap hq.2 0; have s5 : wq.cell? ⟨w.heap.size + 1, 1, none⟩ = some (.bool true) := Lib.cell_of_heap hq.2 1; have s6 : wq.cell? ⟨w.heap.size + 1, 2, none⟩ = some (.string t) := Lib.cell_of_heap hq.2 2; have s7 : wq.cell? ⟨w.heap.size + 1, 3, none⟩ = some (.string o) := Lib.cell_of_heap hq.2 3; have s8 : wq.cell? ⟨w.heap.size + 1, 4, none⟩ = some (.slice a f.len c) := Lib.cell_of_heap hq.2 4; go_simp; try with_reducible rfl)
        refine RN.take (i := 3) (v := ?_) rfl (by decide) (by kernel_rfl) (by kernel_rfl) (by kernel_rfl) (by kernel_rfl) (by kernel_rfl) (by first | exact fun _ _ _ h => h | exact fun _ _ _ h => (by cases h.1) | exact fun _ _ _ h => door_put (by decide) h) (.inl ⟨by rfl, ?_⟩) hS ?_
        rotate_left 1
        · (intro wq hq; have s0 : wq.cell? ⟨w.heap.size, 0, none⟩ = some (.slice a1 n1 c1) := Lib.cell_of_heap hq.1 0; have s1 : wq.cell? ⟨w.heap.size, 1, none⟩ = some (.slice a2 n2 c2) := Lib.cell_of_heap hq.1 1; have s2 : wq.cell? ⟨w.heap.size, 2, none⟩ = some (.int .i64 s.st) := Lib.cell_of_heap hq.1 2; have s3 : wq.cell? ⟨w.heap.size, 3, none⟩ = some (.int .i64 s.la) := Lib.cell_of_heap hq.1 3; have s4 : wq.cell? ⟨w.heap.size + 1, 0, none⟩ = some (.int .i64 k) := Lib.cell_of_heap hq.2 0; have s5 : wq.cell? ⟨w.heap.size + 1, 1, none⟩ = some (.bool true) := Lib.cell_of_heap hq.2 1; have s6 : wq.cell? ⟨w.heap.size + 1, 2, none⟩ = some (.string t) := Lib.cell_of_heap hq.2 2; have s7 : wq.cell? ⟨w.heap.size + 1, 3, none⟩ = some (.string o) := Lib.cell_of_heap hq.2 3; have s8 : wq.cell? ⟨w.heap.size + 1, 4, none⟩ = some (.slice a f.len c) := Lib.cell_of_heap hq.2 4; go_simp; try with_reducible rfl)
        refine RN.take (i := 4) (v := ?_) rfl (by decide) (by kernel_rfl) (by kernel_rfl) (by kernel_rfl) (by kernel_rfl) (by kernel_rfl) (by first | exact fun _ _ _ h => h | exact fun _ _ _ h => (by cases h.1) | exact fun _ _ _ h => door_put (by decide) h) (.inl ⟨by rfl, ?_⟩) hS ?_
        rotate_left 1
        · (intro wq hq; have s0 : wq.cell? ⟨w.heap.size, 0, none⟩ = some (.slice a1 n1 c1) := Lib.cell_of_heap hq.1 0; have s1 : wq.cell? ⟨w.heap.size, 1, none⟩ = some (.slice a2 n2 c2) := Lib.cell_of_heap hq.1 1; have s2 : wq.cell? ⟨w.heap.size, 2, none⟩ = some (.int .i64 s.st) := Lib.cell_of_heap hq.1 2; have s3 : wq.cell? ⟨w.heap.size, 3, none⟩ = some (.int .i64 s.la) := Lib.cell_of_heap hq.1 3; have s4 : wq.cell? ⟨w.heap.size + 1, 0, none⟩ = some (.int .i64 k) := Lib.cell_of_heap hq.2 0; have s5 : wq.cell? ⟨w.heap.size + 1, 1, none⟩ = some (.bool true) := Lib.cell_of_heap hq.2 1; have s6 : wq.cell? ⟨w.heap.size + 1, 2, none⟩ = some (.string t) := Lib.cell_of_heap hq.2 2; have s7 : wq.cell? ⟨w.heap.size + 1, 3, none⟩ = some (.string o) := Lib.cell_of_heap hq.2 3; have s8 : wq.cell? ⟨w.heap.size + 1, 4, none⟩ = some (.slice a f.len c) := Lib.cell_of_heap hq.2 4; go_simp; try with_reducible rfl)
        refine RN.take (i := 11) (v := ?_) rfl (by decide) (by kernel_rfl) (by kernel_rfl) (by kernel_rfl) (by kernel_rfl) (by kernel_rfl) (by first | exact fun _ _ _ h => h | exact fun _ _ _ h => (by cases h.1) | exact fun _ _ _ h => door_put (by decide) h) (.inl ⟨by rfl, ?_⟩) hS ?_
        rotate_left 1
        · (intro wq hq; have s0 : wq.cell? ⟨w.heap.size, 0, none⟩ = some (.slice a1 n1 c1) := Lib.cell_of_heap hq.1 0; have s1 : wq.cell? ⟨w.heap.size, 1, none⟩ = some (.slice a2 n2 c2) := Lib.cell_of_heap hq.1 1; have s2 : wq.cell? ⟨w.heap.size, 2, none⟩ = some (.int .i64 s.st) := Lib.cell_of_heap hq.1 2; have s3 : wq.cell? ⟨w.heap.size, 3, none⟩ = some (.int .i64 s.la) := Lib.cell_of_heap hq.1 3; have s4 : wq.cell? ⟨w.heap.size + 1, 0, none⟩ = some (.int .i64 k) := Lib.cell_of_heap hq.2 0; have s5 : wq.cell? ⟨w.heap.size + 1, 1, none⟩ = some (.bool true) := Lib.cell_of_heap hq.2 1; have s6 : wq.cell? ⟨w.heap.size + 1, 2, none⟩ = some (.string t) := Lib.cell_of_heap hq.2 2; have s7 : wq.cell? ⟨w.heap.size + 1, 3, none⟩ = some (.string o) := Lib.cell_of_heap hq.2 3; have s8 : wq.cell? ⟨w.heap.size + 1, 4, none⟩ = some (.slice a f.len c) := Lib.cell_of_heap hq.2 4; go_simp; try with_reducible rfl)
        refine RN.all (rs := [2, 13]) (by kernel_rfl) (by simp) ?_
        refine RN.All.cons rfl (fun K hK => ?_) (RN.All.cons rfl (fun K hK => ?_) RN.All.nil)
        · go_simp
          refine (HVA.out V0 (HB1.out.trans (HB.out.mono HB1.out.size))).mono ?_
          rintro e V1 ⟨lv1, rfl, hp1, hb⟩
          have hS1 := And.intro (bel_block hb hS.1) (bel_block hb hS.2)
          have HB' := Lib.hid (HB.out.trans (hb.mono HB.out.size))
          have HPV1 := Lib.hid hp1
          refine hK _ _ (fun _ => hS1) ?_
          clear hK K hb hp1 hS HB
          have hS := hS1
          have HB := HB'
          clear hS1 HB'
          refine RN.take (i := 5) (v := ?_) rfl (by decide) (by kernel_rfl) (by kernel_rfl) (by kernel_rfl) (by kernel_rfl) (by kernel_rfl) (by first | exact fun _ _ _ h => h | exact fun _ _ _ h => (by cases h.1) | exact fun _ _ _ h => door_put (by decide) h) (.inl ⟨by rfl, ?_⟩) hS ?_
          rotate_left 1
          · (intro wq hq; have s0 : wq.cell? ⟨w.heap.size, 0, none⟩ = some (.slice a1 n1 c1) := Lib.cell_of_heap hq.1 0; have s1 : wq.cell? ⟨w.heap.size, 1, none⟩ = some (.slice a2 n2 c2) := Lib.cell_of_heap hq.1 1; have s2 : wq.cell? ⟨w.heap.size, 2, none⟩ = some (.int .i64 s.st) := Lib.cell_of_heap hq.1 2; have s3 : wq.cell? ⟨w.heap.size, 3, none⟩ = some (.int .i64 s.la) := Lib.cell_of_heap hq.1 3; have s4 : wq.cell? ⟨w.heap.size + 1, 0, none⟩ = some (.int .i64 k) := Lib.cell_of_heap hq.2 0; have s5 : wq.cell? ⟨w.heap.size + 1, 1, none⟩ = some (.bool true) := Lib.cell_of_heap hq.2 1; have s6 : wq.cell? ⟨w.heap.size + 1, 2, none⟩ = some (.string t) := Lib.cell_of_heap hq.2 2; have s7 : wq.cell? ⟨w.heap.size + 1, 3, none⟩ = some (.string o) := Lib.cell_of_heap hq.2 3; have s8 : wq.cell? ⟨w.heap.size + 1, 4, none⟩ = some (.slice a f.len c) := Lib.cell_of_heap hq.2 4; go_simp; try with_reducible rfl)
          refine RN.take (i := 6) (v := ?_) rfl (by decide) (by kernel_rfl) (by kernel_rfl) (by kernel_rfl) (by kernel_rfl) (by kernel_rfl) (by first | exact fun _ _ _ h => h | exact fun _ _ _ h => (by cases h.1) | exact fun _ _ _ h => door_put (by decide) h) (.inl ⟨by rfl, ?_⟩) hS ?_
          rotate_left 1
          · (intro wq hq; have s0 : wq.cell? ⟨w.heap.size, 0, none⟩ = some (.slice a1 n1 c1) := Lib.cell_of_heap hq.1 0; have s1 : wq.cell? ⟨w.heap.size, 1, none⟩ = some (.slice a2 n2 c2) := Lib.cell_of_heap hq.1 1; have s2 : wq.cell? ⟨w.heap.size, 2, none⟩ = some (.int .i64 s.st) := Lib.cell_of_heap hq.1 2; have s3 : wq.cell? ⟨w.heap.size, 3, none⟩ = some (.int .i64 s.la) := Lib.cell_of_heap hq.1 3; have s4 : wq.cell? ⟨w.heap.size + 1, 0, none⟩ = some (.int .i64 k) := Lib.cell_of_heap hq.2 0; have s5 : wq.cell? ⟨w.heap.size + 1, 1, none⟩ = some (.bool true) := Lib.cell_of_heap hq.2 1; have s6 : wq.cell? ⟨w.heap.size + 1, 2, none⟩ = some (.string t) := Lib.cell_of_heap hq.2 2; have s7 : wq.cell? ⟨w.heap.size + 1, 3, none⟩ = some (.string o) := Lib.cell_of_heap hq.2 3; have s8 : wq.cell? ⟨w.heap.size + 1, 4, none⟩ = some (.slice a f.len c) := Lib.cell_of_heap hq.2 4; go_simp; try with_reducible rfl)
          refine RN.take (i := 7) (v := ?_) rfl (by decide) (by kernel_rfl) (by kernel_rfl) (by kernel_rfl) (by kernel_rfl) (by kernel_rfl) (by first | exact fun _ _ _ h => h | exact fun _ _ _ h => (by cases h.1) | exact fun _ _ _ h => door_put (by decide) h) (.inl ⟨by rfl, ?_⟩) hS ?_
          rotate_left 1
          · (intro wq hq; have s0 : wq.cell? ⟨w.heap.size, 0, none⟩ = some (.slice a1 n1 c1) := Lib.cell_of_heap hq.1 0; have s1 : wq.cell? ⟨w.heap.size, 1, none⟩ = some (.slice a2 n2 c2) := Lib.cell_of_heap hq.1 1; have s2 : wq.cell? ⟨w.heap.size, 2, none⟩ = some (.int .i64 s.st) := Lib.cell_of_heap hq.1 2; have s3 : wq.cell? ⟨w.heap.size, 3, none⟩ = some (.int .i64 s.la) := Lib.cell_of_heap hq.1 3; have s4 : wq.cell? ⟨w.heap.size + 1, 0, none⟩ = some (.int .i64 k) := Lib.cell_of_heap hq.2 0; have s5 : wq.cell? ⟨w.heap.size + 1, 1, none⟩ = some (.bool true) := Lib.cell_of_heap hq.2 1; have s6 : wq.cell? ⟨w.heap.size + 1, 2, none⟩ = some (.string t) := Lib.cell_of_heap hq.2 2; have s7 : wq.cell? ⟨w.heap.size + 1, 3, none⟩ = some (.string o) := Lib.cell_of_heap hq.2 3; have s8 : wq.cell? ⟨w.heap.size + 1, 4, none⟩ = some (.slice a f.len c) := Lib.cell_of_heap hq.2 4; go_simp; try with_reducible rfl)
          refine RN.take (i := 8) (v := ?_) rfl (by decide) (by kernel_rfl) (by kernel_rfl) (by kernel_rfl) (by kernel_rfl) (by kernel_rfl) (by first | exact fun _ _ _ h => h | exact fun _ _ _ h => (by cases h.1) | exact fun _ _ _ h => door_put (by decide) h) (.inl ⟨by rfl, ?_⟩) hS ?_
          rotate_left 1
          · (intro wq hq; have s0 : wq.cell? ⟨w.heap.size, 0, none⟩ = some (.slice a1 n1 c1) := Lib.cell_of_heap hq.1 0; have s1 : wq.cell? ⟨w.heap.size, 1, none⟩ = some (.slice a2 n2 c2) := Lib.cell_of_heap hq.1 1; have s2 : wq.cell? ⟨w.heap.size, 2, none⟩ = some (.int .i64 s.st) := Lib.cell_of_heap hq.1 2; have s3 : wq.cell? ⟨w.heap.size, 3, none⟩ = some (.int .i64 s.la) := Lib.cell_of_heap hq.1 3; have s4 : wq.cell? ⟨w.heap.size + 1, 0, none⟩ = some (.int .i64 k) := Lib.cell_of_heap hq.2 0; have s5 : wq.cell? ⟨w.heap.size + 1, 1, none⟩ = some (.bool true) := Lib.cell_of_heap hq.2 1; have s6 : wq.cell? ⟨w.heap.size + 1, 2, none⟩ = some (.string t) := Lib.cell_of_heap hq.2 2; have s7 : wq.cell? ⟨w.heap.size + 1, 3, none⟩ = some (.string o) := Lib.cell_of_heap hq.2 3; have s8 : wq.cell? ⟨w.heap.size + 1, 4, none⟩ = some (.slice a f.len c) := Lib.cell_of_heap hq.2 4; go_simp; try with_reducible rfl)
          refine RN.take (i := 9) (v := ?_) rfl (by decide) (by kernel_rfl) (by kernel_rfl) (by kernel_rfl) (by kernel_rfl) (by kernel_rfl) (by first | exact fun _ _ _ h => h | exact fun _ _ _ h => (by cases h.1) | exact fun _ _ _ h => door_put (by decide) h) (.inl ⟨by rfl, ?_⟩) hS ?_
          rotate_left 1
          · (intro wq hq; have s0 : wq.cell? ⟨w.heap.size, 0, none⟩ = some (.slice a1 n1 c1) := Lib.cell_of_heap hq.1 0; have s1 : wq.cell? ⟨w.heap.size, 1, none⟩ = some (.slice a2 n2 c2) := Lib.cell_of_heap hq.1 1; have s2 : wq.cell? ⟨w.heap.size, 2, none⟩ = some (.int .i64 s.st) := Lib.cell_of_heap hq.1 2; have s3 : wq.cell? ⟨w.heap.size, 3, none⟩ = some (.int .i64 s.la) := Lib.cell_of_heap hq.1 3; have s4 : wq.cell? ⟨w.heap.size + 1, 0, none⟩ = some (.int .i64 k) := Lib.cell_of_heap hq.2 0; have s5 : wq.cell? ⟨w.heap.size + 1, 1, none⟩ = some (.bool true) := Lib.cell_of_heap hq.2 1; have s6 : wq.cell? ⟨w.heap.size + 1, 2, none⟩ = some (.string t) := Lib.cell_of_heap hq.2 2; have s7 : wq.cell? ⟨w.heap.size + 1, 3, none⟩ = some (.string o) := Lib.cell_of_heap hq.2 3; have s8 : wq.cell? ⟨w.heap.size + 1, 4, none⟩ = some (.slice a f.len c) := Lib.cell_of_heap hq.2 4; go_simp; try with_reducible rfl)
          refine RN.all (rs := [10, 13]) (by kernel_rfl) (by simp) ?_
          refine RN.All.cons rfl (fun K hK => ?_) (RN.All.cons rfl (fun K hK => ?_) RN.All.nil)
          · go_simp
            refine (HEM.out _ lv1 _ V1 HPV1.out).mono ?_
            rintro e V2 ⟨lv2, rfl, hp2, hb⟩
            have hS1 := And.intro (bel_block hb hS.1) (bel_block hb hS.2)
            have HB' := Lib.hid (HB.out.trans (hb.mono HB.out.size))
            obtain ⟨p6, n6, c6, rfl⟩ := hp2.shape
            have hp3 : Pv V2 (.slice p6 n6 c6) (emptyP (valuesP s true t) (true && !(bs t == [64]))) := by
              have h := hp2
              rw [Vr.tests] at h
              exact h
            have HPV2 := Lib.hid hp3
            clear hp3
            refine hK _ _ (fun _ => hS1) ?_
            clear hK K hb hp2 hS HB
            have hS := hS1
            have HB := HB'
            clear hS1 HB'
            refine RN.take (i := 12) (v := ?_) rfl (by decide) (by kernel_rfl) (by kernel_rfl) (by kernel_rfl) (by kernel_rfl) (by kernel_rfl) (by first | exact fun _ _ _ h => h | exact fun _ _ _ h => (by cases h.1) | exact fun _ _ _ h => door_put (by decide) h) (.inl ⟨by rfl, ?_⟩) hS ?_
            rotate_left 1
            · (intro wq hq; have s0 : wq.cell? ⟨w.heap.size, 0, none⟩ = some (.slice a1 n1 c1) := Lib.cell_of_heap hq.1 0; have s1 : wq.cell? ⟨w.heap.size, 1, none⟩ = some (.slice a2 n2 c2) := Lib.cell_of_heap hq.1 1; have s2 : wq.cell? ⟨w.heap.size, 2, none⟩ = some (.int .i64 s.st) := Lib.cell_of_heap hq.1 2; have s3 : wq.cell? ⟨w.heap.size, 3, none⟩ = some (.int .i64 s.la) := Lib.cell_of_heap hq.1 3; have s4 : wq.cell? ⟨w.heap.size + 1, 0, none⟩ = some (.int .i64 k) := Lib.cell_of_heap hq.2 0; have s5 : wq.cell? ⟨w.heap.size + 1, 1, none⟩ = some (.bool true) := Lib.cell_of_heap hq.2 1; have s6 : wq.cell? ⟨w.heap.size + 1, 2, none⟩ = some (.string t) := Lib.cell_of_heap hq.2 2; have s7 : wq.cell? ⟨w.heap.size + 1, 3, none⟩ = some (.string o) := Lib.cell_of_heap hq.2 3; have s8 : wq.cell? ⟨w.heap.size + 1, 4, none⟩ = some (.slice a f.len c) := Lib.cell_of_heap hq.2 4; go_simp; try with_reducible rfl)
            refine RN.all (rs := [13]) (by kernel_rfl) (by simp) ?_
            refine RN.All.cons rfl (fun K hK => ?_) RN.All.nil
            go_simp
            have hb := Fld.below_alloc V2 (.cells #[.slice none 0 0, .slice none 0 0, .slice none 0 0, .int .i64 0, .int .i64 0, .int .i64 0, .string ⟨#[]⟩] 42)
            have hS1 := And.intro (bel_block hb hS.1) (bel_block hb hS.2)
            have HX := Lib.hid (heap_alloc_new V2 (.cells #[.slice none 0 0, .slice none 0 0, .slice none 0 0, .int .i64 0, .int .i64 0, .int .i64 0, .string ⟨#[]⟩] 42))
            have HB' := Lib.hid (HB.out.trans (hb.mono HB.out.size))
            have hgb : w1.heap.size ≤ V2.heap.size := HB.out.size
            have hgl : V2.heap.size < (V2.alloc (.cells #[.slice none 0 0, .slice none 0 0, .slice none 0 0, .int .i64 0, .int .i64 0, .int .i64 0, .string ⟨#[]⟩] 42)).heap.size := by simp [World.size_alloc]
            have HPV' := Lib.hid (HPV2.out.stay hb)
            have hne : ∀ (_ : _ ≠ []) k, (Value.slice p6 n6 c6).ownBlock = some k → k ≠ V2.heap.size := fun h k e => Nat.ne_of_lt (HPV2.out.lt h k e)
            have HNE := Lib.hid hne
            clear hne
            refine hK _ _ (fun _ => hS1) ?_
            clear hK K hb hS HB HPV2
            have HPV2 := HPV'
            clear HPV'
            have hS := hS1
            have HB := HB'
            clear hS1 HB'
            generalize V2.alloc (.cells #[.slice none 0 0, .slice none 0 0, .slice none 0 0, .int .i64 0, .int .i64 0, .int .i64 0, .string ⟨#[]⟩] 42) = V3 at HX HB hS hgl HPV2 ⊢
            generalize V2.heap.size = gb at HX hgb hgl HNE ⊢
            refine RN.all (rs := [14]) (by kernel_rfl) (by simp) ?_
            refine RN.All.cons rfl (fun K hK => ?_) RN.All.nil
            have y0 : V3.cell? ⟨gb, 0, none⟩ = some (.slice none 0 0) := Lib.cell_of_heap HX.out 0
            have z0 : V3.frozen? ⟨gb, 0, none⟩ = false := frozen_of_row _ _ _ _ _ HX.out
            have y1 : V3.cell? ⟨gb, 1, none⟩ = some (.slice none 0 0) := Lib.cell_of_heap HX.out 1
            have z1 : V3.frozen? ⟨gb, 1, none⟩ = false := frozen_of_row _ _ _ _ _ HX.out
            have y2 : V3.cell? ⟨gb, 2, none⟩ = some (.slice none 0 0) := Lib.cell_of_heap HX.out 2
            have z2 : V3.frozen? ⟨gb, 2, none⟩ = false := frozen_of_row _ _ _ _ _ HX.out
            have y3 : V3.cell? ⟨gb, 3, none⟩ = some (.int .i64 0) := Lib.cell_of_heap HX.out 3
            have z3 : V3.frozen? ⟨gb, 3, none⟩ = false := frozen_of_row _ _ _ _ _ HX.out
            have y4 : V3.cell? ⟨gb, 4, none⟩ = some (.int .i64 0) := Lib.cell_of_heap HX.out 4
            have z4 : V3.frozen? ⟨gb, 4, none⟩ = false := frozen_of_row _ _ _ _ _ HX.out
            have y5 : V3.cell? ⟨gb, 5, none⟩ = some (.int .i64 0) := Lib.cell_of_heap HX.out 5
            have z5 : V3.frozen? ⟨gb, 5, none⟩ = false := frozen_of_row _ _ _ _ _ HX.out
            have y6 : V3.cell? ⟨gb, 6, none⟩ = some (.string ⟨#[]⟩) := Lib.cell_of_heap HX.out 6
            have z6 : V3.frozen? ⟨gb, 6, none⟩ = false := frozen_of_row _ _ _ _ _ HX.out
            go_simp
            refine hK _ _ (fun _ => ⟨(put7_other (by omega) _ _ _ _ _ _ _).trans hS.1, (put7_other (by omega) _ _ _ _ _ _ _).trans hS.2⟩) ?_
            clear hK K y0 z0 y1 z1 y2 z2 y3 z3 y4 z4 y5 z5 y6 z6
            refine RN.done (by kernel_rfl) ?_ _
            go_wp2_with fail
            go_meet
            case rel => exact ⟨gb, p6, n6, c6, rfl, HPV2.out.other (fun h k e => put7_other (HNE.out h k e) _ _ _ _ _ _ _), put7 HX.out _ _ _ _ _ _ _, set7_below HB.out hgb _ _ _ _ _ _ _, hgb⟩
          · go_simp
            have hb := Fld.below_alloc V1 (.cells #[.slice none 0 0, .slice none 0 0, .slice none 0 0, .int .i64 0, .int .i64 0, .int .i64 0, .string ⟨#[]⟩] 42)
            have hS1 := And.intro (bel_block hb hS.1) (bel_block hb hS.2)
            have HX := Lib.hid (heap_alloc_new V1 (.cells #[.slice none 0 0, .slice none 0 0, .slice none 0 0, .int .i64 0, .int .i64 0, .int .i64 0, .string ⟨#[]⟩] 42))
            have HB' := Lib.hid (HB.out.trans (hb.mono HB.out.size))
            have hgb : w1.heap.size ≤ V1.heap.size := HB.out.size
            have hgl : V1.heap.size < (V1.alloc (.cells #[.slice none 0 0, .slice none 0 0, .slice none 0 0, .int .i64 0, .int .i64 0, .int .i64 0, .string ⟨#[]⟩] 42)).heap.size := by simp [World.size_alloc]
            have HPV' := Lib.hid (HPV1.out.stay hb)
            refine hK _ _ (fun _ => hS1) ?_
            clear hK K hb hS HB HPV1
            have HPV1 := HPV'
            clear HPV'
            have hS := hS1
            have HB := HB'
            clear hS1 HB'
            generalize V1.alloc (.cells #[.slice none 0 0, .slice none 0 0, .slice none 0 0, .int .i64 0, .int .i64 0, .int .i64 0, .string ⟨#[]⟩] 42) = V4 at HX HB hS hgl HPV1 ⊢
            generalize V1.heap.size = gb at HX hgb hgl ⊢
            refine RN.all (rs := [10]) (by kernel_rfl) (by simp) ?_
            refine RN.All.cons rfl (fun K hK => ?_) RN.All.nil
            go_simp
            refine (HEM.out _ lv1 _ V4 HPV1.out).mono ?_
            rintro e V5 ⟨lv2, rfl, hp2, hb⟩
            have hS1 := And.intro (bel_block hb hS.1) (bel_block hb hS.2)
            have HB' := Lib.hid (HB.out.trans (hb.mono HB.out.size))
            obtain ⟨p6, n6, c6, rfl⟩ := hp2.shape
            have hp3 : Pv V5 (.slice p6 n6 c6) (emptyP (valuesP s true t) (true && !(bs t == [64]))) := by
              have h := hp2
              rw [Vr.tests] at h
              exact h
            have HPV2 := Lib.hid hp3
            clear hp3
            have HX' := Lib.hid (bel_block hb HX.out)
            have HNE := Lib.hid (HPV2.out.neGot HX'.out)
            refine hK _ _ (fun _ => hS1) ?_
            clear hK K hb hp2 hS HB HX
            have HX := HX'
            clear HX'
            have hS := hS1
            have HB := HB'
            clear hS1 HB'
            refine RN.take (i := 12) (v := ?_) rfl (by decide) (by kernel_rfl) (by kernel_rfl) (by kernel_rfl) (by kernel_rfl) (by kernel_rfl) (by first | exact fun _ _ _ h => h | exact fun _ _ _ h => (by cases h.1) | exact fun _ _ _ h => door_put (by decide) h) (.inl ⟨by rfl, ?_⟩) hS ?_
            rotate_left 1
            · (intro wq hq; have s0 : wq.cell? ⟨w.heap.size, 0, none⟩ = some (.slice a1 n1 c1) := Lib.cell_of_heap hq.1 0; have s1 : wq.cell? ⟨w.heap.size, 1, none⟩ = some (.slice a2 n2 c2) := Lib.cell_of_heap hq.1 1; have s2 : wq.cell? ⟨w.heap.size, 2, none⟩ = some (.int .i64 s.st) := Lib.cell_of_heap hq.1 2; have s3 : wq.cell? ⟨w.heap.size, 3, none⟩ = some (.int .i64 s.la) := Lib.cell_of_heap hq.1 3; have s4 : wq.cell? ⟨w.heap.size + 1, 0, none⟩ = some (.int .i64 k) := Lib.cell_of_heap hq.2 0; have s5 : wq.cell? ⟨w.heap.size + 1, 1, none⟩ = some (.bool true) := Lib.cell_of_heap hq.2 1; have s6 : wq.cell? ⟨w.heap.size + 1, 2, none⟩ = some (.string t) := Lib.cell_of_heap hq.2 2; have s7 : wq.cell? ⟨w.heap.size + 1, 3, none⟩ = some (.string o) := Lib.cell_of_heap hq.2 3; have s8 : wq.cell? ⟨w.heap.size + 1, 4, none⟩ = some (.slice a f.len c) := Lib.cell_of_heap hq.2 4; go_simp; try with_reducible rfl)
            refine RN.all (rs := [14]) (by kernel_rfl) (by simp) ?_
            refine RN.All.cons rfl (fun K hK => ?_) RN.All.nil
            have y0 : V5.cell? ⟨gb, 0, none⟩ = some (.slice none 0 0) := Lib.cell_of_heap HX.out 0
            have z0 : V5.frozen? ⟨gb, 0, none⟩ = false := frozen_of_row _ _ _ _ _ HX.out
            have y1 : V5.cell? ⟨gb, 1, none⟩ = some (.slice none 0 0) := Lib.cell_of_heap HX.out 1
            have z1 : V5.frozen? ⟨gb, 1, none⟩ = false := frozen_of_row _ _ _ _ _ HX.out
            have y2 : V5.cell? ⟨gb, 2, none⟩ = some (.slice none 0 0) := Lib.cell_of_heap HX.out 2
            have z2 : V5.frozen? ⟨gb, 2, none⟩ = false := frozen_of_row _ _ _ _ _ HX.out
            have y3 : V5.cell? ⟨gb, 3, none⟩ = some (.int .i64 0) := Lib.cell_of_heap HX.out 3
            have z3 : V5.frozen? ⟨gb, 3, none⟩ = false := frozen_of_row _ _ _ _ _ HX.out
            have y4 : V5.cell? ⟨gb, 4, none⟩ = some (.int .i64 0) := Lib.cell_of_heap HX.out 4
            have z4 : V5.frozen? ⟨gb, 4, none⟩ = false := frozen_of_row _ _ _ _ _ HX.out
            have y5 : V5.cell? ⟨gb, 5, none⟩ = some (.int .i64 0) := Lib.cell_of_heap HX.out 5
            have z5 : V5.frozen? ⟨gb, 5, none⟩ = false := frozen_of_row _ _ _ _ _ HX.out
            have y6 : V5.cell? ⟨gb, 6, none⟩ = some (.string ⟨#[]⟩) := Lib.cell_of_heap HX.out 6
            have z6 : V5.frozen? ⟨gb, 6, none⟩ = false := frozen_of_row _ _ _ _ _ HX.out
            go_simp
            refine hK _ _ (fun _ => ⟨(put7_other (by omega) _ _ _ _ _ _ _).trans hS.1, (put7_other (by omega) _ _ _ _ _ _ _).trans hS.2⟩) ?_
            clear hK K y0 z0 y1 z1 y2 z2 y3 z3 y4 z4 y5 z5 y6 z6
            refine RN.done (by kernel_rfl) ?_ _
            go_wp2_with fail
            go_meet
            case rel => exact ⟨gb, p6, n6, c6, rfl, HPV2.out.other (fun h k e => put7_other (HNE.out h k e) _ _ _ _ _ _ _), put7 HX.out _ _ _ _ _ _ _, set7_below HB.out hgb _ _ _ _ _ _ _, hgb⟩
        · go_simp
          have hb := Fld.below_alloc V0 (.cells #[.slice none 0 0, .slice none 0 0, .slice none 0 0, .int .i64 0, .int .i64 0, .int .i64 0, .string ⟨#[]⟩] 42)
          have hS1 := And.intro (bel_block hb hS.1) (bel_block hb hS.2)
          have HX := Lib.hid (heap_alloc_new V0 (.cells #[.slice none 0 0, .slice none 0 0, .slice none 0 0, .int .i64 0, .int .i64 0, .int .i64 0, .string ⟨#[]⟩] 42))
          have HB' := Lib.hid (HB.out.trans (hb.mono HB.out.size))
          have hgb : w1.heap.size ≤ V0.heap.size := HB.out.size
          have hgl : V0.heap.size < (V0.alloc (.cells #[.slice none 0 0, .slice none 0 0, .slice none 0 0, .int .i64 0, .int .i64 0, .int .i64 0, .string ⟨#[]⟩] 42)).heap.size := by simp [World.size_alloc]
          refine hK _ _ (fun _ => hS1) ?_
          clear hK K hb hS HB
          have hS := hS1
          have HB := HB'
          clear hS1 HB'
          generalize V0.alloc (.cells #[.slice none 0 0, .slice none 0 0, .slice none 0 0, .int .i64 0, .int .i64 0, .int .i64 0, .string ⟨#[]⟩] 42) = V6 at HX HB hS hgl ⊢
          generalize V0.heap.size = gb at HX hgb hgl ⊢
          refine RN.all (rs := [2]) (by kernel_rfl) (by simp) ?_
          refine RN.All.cons rfl (fun K hK => ?_) RN.All.nil
          go_simp
          refine (HVA.out V6 (HB1.out.trans (HB.out.mono HB1.out.size))).mono ?_
          rintro e V7 ⟨lv1, rfl, hp1, hb⟩
          have hS1 := And.intro (bel_block hb hS.1) (bel_block hb hS.2)
          have HB' := Lib.hid (HB.out.trans (hb.mono HB.out.size))
          have HPV1 := Lib.hid hp1
          have HX' := Lib.hid (bel_block hb HX.out)
          have hgl' : gb < V7.heap.size := (Array.getElem?_eq_some_iff.1 HX'.out).1
          refine hK _ _ (fun _ => hS1) ?_
          clear hK K hb hp1 hS HB HX hgl
          have HX := HX'
          have hgl := hgl'
          clear HX' hgl'
          have hS := hS1
          have HB := HB'
          clear hS1 HB'
          refine RN.take (i := 5) (v := ?_) rfl (by decide) (by kernel_rfl) (by kernel_rfl) (by kernel_rfl) (by kernel_rfl) (by kernel_rfl) (by first | exact fun _ _ _ h => h | exact fun _ _ _ h => (by cases h.1) | exact fun _ _ _ h => door_put (by decide) h) (.inl ⟨by rfl, ?_⟩) hS ?_
          rotate_left 1
          · (intro wq hq; have s0 : wq.cell? ⟨w.heap.size, 0, none⟩ = some (.slice a1 n1 c1) := Lib.cell_of_heap hq.1 0; have s1 : wq.cell? ⟨w.heap.size, 1, none⟩ = some (.slice a2 n2 c2) := Lib.cell_of_heap hq.1 1; have s2 : wq.cell? ⟨w.heap.size, 2, none⟩ = some (.int .i64 s.st) := Lib.cell_of_heap hq.1 2; have s3 : wq.cell? ⟨w.heap.size, 3, none⟩ = some (.int .i64 s.la) := Lib.cell_of_heap hq.1 3; have s4 : wq.cell? ⟨w.heap.size + 1, 0, none⟩ = some (.int .i64 k) := Lib.cell_of_heap hq.2 0; have s5 : wq.cell? ⟨w.heap.size + 1, 1, none⟩ = some (.bool true) := Lib.cell_of_heap hq.2 1; have s6 : wq.cell? ⟨w.heap.size + 1, 2, none⟩ = some (.string t) := Lib.cell_of_heap hq.2 2; have s7 : wq.cell? ⟨w.heap.size + 1, 3, none⟩ = some (.string o) := Lib.cell_of_heap hq.2 3; have s8 : wq.cell? ⟨w.heap.size + 1, 4, none⟩ = some (.slice a f.len c) := Lib.cell_of_heap hq.2 4; go_simp; try with_reducible rfl)
          refine RN.take (i := 6) (v := ?_) rfl (by decide) (by kernel_rfl) (by kernel_rfl) (by kernel_rfl) (by kernel_rfl) (by kernel_rfl) (by first | exact fun _ _ _ h => h | exact fun _ _ _ h => (by cases h.1) | exact fun _ _ _ h => door_put (by decide) h) (.inl ⟨by rfl, ?_⟩) hS ?_
          rotate_left 1
          · (intro wq hq; have s0 : wq.cell? ⟨w.heap.size, 0, none⟩ = some (.slice a1 n1 c1) := Lib.cell_of_heap hq.1 0; have s1 : wq.cell? ⟨w.heap.size, 1, none⟩ = some (.slice a2 n2 c2) := Lib.cell_of_heap hq.1 1; have s2 : wq.cell? ⟨w.heap.size, 2, none⟩ = some (.int .i64 s.st) := Lib.cell_of_heap hq.1 2; have s3 : wq.cell? ⟨w.heap.size, 3, none⟩ = some (.int .i64 s.la) := Lib.cell_of_heap hq.1 3; have s4 : wq.cell? ⟨w.heap.size + 1, 0, none⟩ = some (.int .i64 k) := Lib.cell_of_heap hq.2 0; have s5 : wq.cell? ⟨w.heap.size + 1, 1, none⟩ = some (.bool true) := Lib.cell_of_heap hq.2 1; have s6 : wq.cell? ⟨w.heap.size + 1, 2, none⟩ = some (.string t) := Lib.cell_of_heap hq.2 2; have s7 : wq.cell? ⟨w.heap.size + 1, 3, none⟩ = some (.string o) := Lib.cell_of_heap hq.2 3; have s8 : wq.cell? ⟨w.heap.size + 1, 4, none⟩ = some (.slice a f.len c) := Lib.cell_of_heap hq.2 4; go_simp; try with_reducible rfl)
          refine RN.take (i := 7) (v := ?_) rfl (by decide) (by kernel_rfl) (by kernel_rfl) (by kernel_rfl) (by kernel_rfl) (by kernel_rfl) (by first | exact fun _ _ _ h => h | exact fun _ _ _ h => (by cases h.1) | exact fun _ _ _ h => door_put (by decide) h) (.inl ⟨by rfl, ?_⟩) hS ?_
          rotate_left 1
          · (intro wq hq; have s0 : wq.cell? ⟨w.heap.size, 0, none⟩ = some (.slice a1 n1 c1) := Lib.cell_of_heap hq.1 0; have s1 : wq.cell? ⟨w.heap.size, 1, none⟩ = some (.slice a2 n2 c2) := Lib.cell_of_heap hq.1 1; have s2 : wq.cell? ⟨w.heap.size, 2, none⟩ = some (.int .i64 s.st) := Lib.cell_of_heap hq.1 2; have s3 : wq.cell? ⟨w.heap.size, 3, none⟩ = some (.int .i64 s.la) := Lib.cell_of_heap hq.1 3; have s4 : wq.cell? ⟨w.heap.size + 1, 0, none⟩ = some (.int .i64 k) := Lib.cell_of_heap hq.2 0; have s5 : wq.cell? ⟨w.heap.size + 1, 1, none⟩ = some (.bool true) := Lib.cell_of_heap hq.2 1; have s6 : wq.cell? ⟨w.heap.size + 1, 2, none⟩ = some (.string t) := Lib.cell_of_heap hq.2 2; have s7 : wq.cell? ⟨w.heap.size + 1, 3, none⟩ = some (.string o) := Lib.cell_of_heap hq.2 3; have s8 : wq.cell? ⟨w.heap.size + 1, 4, none⟩ = some (.slice a f.len c) := Lib.cell_of_heap hq.2 4; go_simp; try with_reducible rfl)
          refine RN.take (i := 8) (v := ?_) rfl (by decide) (by kernel_rfl) (by kernel_rfl) (by kernel_rfl) (by kernel_rfl) (by kernel_rfl) (by first | exact fun _ _ _ h => h | exact fun _ _ _ h => (by cases h.1) | exact fun _ _ _ h => door_put (by decide) h) (.inl ⟨by rfl, ?_⟩) hS ?_
          rotate_left 1
          · (intro wq hq; have s0 : wq.cell? ⟨w.heap.size, 0, none⟩ = some (.slice a1 n1 c1) := Lib.cell_of_heap hq.1 0; have s1 : wq.cell? ⟨w.heap.size, 1, none⟩ = some (.slice a2 n2 c2) := Lib.cell_of_heap hq.1 1; have s2 : wq.cell? ⟨w.heap.size, 2, none⟩ = some (.int .i64 s.st) := Lib.cell_of_heap hq.1 2; have s3 : wq.cell? ⟨w.heap.size, 3, none⟩ = some (.int .i64 s.la) := Lib.cell_of_heap hq.1 3; have s4 : wq.cell? ⟨w.heap.size + 1, 0, none⟩ = some (.int .i64 k) := Lib.cell_of_heap hq.2 0; have s5 : wq.cell? ⟨w.heap.size + 1, 1, none⟩ = some (.bool true) := Lib.cell_of_heap hq.2 1; have s6 : wq.cell? ⟨w.heap.size + 1, 2, none⟩ = some (.string t) := Lib.cell_of_heap hq.2 2; have s7 : wq.cell? ⟨w.heap.size + 1, 3, none⟩ = some (.string o) := Lib.cell_of_heap hq.2 3; have s8 : wq.cell? ⟨w.heap.size + 1, 4, none⟩ = some (.slice a f.len c) := Lib.cell_of_heap hq.2 4; go_simp; try with_reducible rfl)
          refine RN.take (i := 9) (v := ?_) rfl (by decide) (by kernel_rfl) (by kernel_rfl) (by kernel_rfl) (by kernel_rfl) (by kernel_rfl) (by first | exact fun _ _ _ h => h | exact fun _ _ _ h => (by cases h.1) | exact fun _ _ _ h => door_put (by decide) h) (.inl ⟨by rfl, ?_⟩) hS ?_
          rotate_left 1
          · (intro wq hq; have s0 : wq.cell? ⟨w.heap.size, 0, none⟩ = some (.slice a1 n1 c1) := Lib.cell_of_heap hq.1 0; have s1 : wq.cell? ⟨w.heap.size, 1, none⟩ = some (.slice a2 n2 c2) := Lib.cell_of_heap hq.1 1; have s2 : wq.cell? ⟨w.heap.size, 2, none⟩ = some (.int .i64 s.st) := Lib.cell_of_heap hq.1 2; have s3 : wq.cell? ⟨w.heap.size, 3, none⟩ = some (.int .i64 s.la) := Lib.cell_of_heap hq.1 3; have s4 : wq.cell? ⟨w.heap.size + 1, 0, none⟩ = some (.int .i64 k) := Lib.cell_of_heap hq.2 0; have s5 : wq.cell? ⟨w.heap.size + 1, 1, none⟩ = some (.bool true) := Lib.cell_of_heap hq.2 1; have s6 : wq.cell? ⟨w.heap.size + 1, 2, none⟩ = some (.string t) := Lib.cell_of_heap hq.2 2; have s7 : wq.cell? ⟨w.heap.size + 1, 3, none⟩ = some (.string o) := Lib.cell_of_heap hq.2 3; have s8 : wq.cell? ⟨w.heap.size + 1, 4, none⟩ = some (.slice a f.len c) := Lib.cell_of_heap hq.2 4; go_simp; try with_reducible rfl)
          refine RN.all (rs := [10]) (by kernel_rfl) (by simp) ?_
          refine RN.All.cons rfl (fun K hK => ?_) RN.All.nil
          go_simp
          refine (HEM.out _ lv1 _ V7 HPV1.out).mono ?_
          rintro e V8 ⟨lv2, rfl, hp2, hb⟩
          have hS1 := And.intro (bel_block hb hS.1) (bel_block hb hS.2)
          have HB' := Lib.hid (HB.out.trans (hb.mono HB.out.size))
          obtain ⟨p6, n6, c6, rfl⟩ := hp2.shape
          have hp3 : Pv V8 (.slice p6 n6 c6) (emptyP (valuesP s true t) (true && !(bs t == [64]))) := by
            have h := hp2
            rw [Vr.tests] at h
            exact h
          have HPV2 := Lib.hid hp3
          clear hp3
          have HX' := Lib.hid (bel_block hb HX.out)
          have HNE := Lib.hid (HPV2.out.neGot HX'.out)
          refine hK _ _ (fun _ => hS1) ?_
          clear hK K hb hp2 hS HB HX
          have HX := HX'
          clear HX'
          have hS := hS1
          have HB := HB'
          clear hS1 HB'
          refine RN.take (i := 12) (v := ?_) rfl (by decide) (by kernel_rfl) (by kernel_rfl) (by kernel_rfl) (by kernel_rfl) (by kernel_rfl) (by first | exact fun _ _ _ h => h | exact fun _ _ _ h => (by cases h.1) | exact fun _ _ _ h => door_put (by decide) h) (.inl ⟨by rfl, ?_⟩) hS ?_
          rotate_left 1
          · (intro wq hq; have s0 : wq.cell? ⟨w.heap.size, 0, none⟩ = some (.slice a1 n1 c1) := Lib.cell_of_heap hq.1 0; have s1 : wq.cell? ⟨w.heap.size, 1, none⟩ = some (.slice a2 n2 c2) := Lib.cell_of_heap hq.1 1; have s2 : wq.cell? ⟨w.heap.size, 2, none⟩ = some (.int .i64 s.st) := Lib.cell_of_heap hq.1 2; have s3 : wq.cell? ⟨w.heap.size, 3, none⟩ = some (.int .i64 s.la) := Lib.cell_of_heap hq.1 3; have s4 : wq.cell? ⟨w.heap.size + 1, 0, none⟩ = some (.int .i64 k) := Lib.cell_of_heap hq.2 0; have s5 : wq.cell? ⟨w.heap.size + 1, 1, none⟩ = some (.bool true) := Lib.cell_of_heap hq.2 1; have s6 : wq.cell? ⟨w.heap.size + 1, 2, none⟩ = some (.string t) := Lib.cell_of_heap hq.2 2; have s7 : wq.cell? ⟨w.heap.size + 1, 3, none⟩ = some (.string o) := Lib.cell_of_heap hq.2 3; have s8 : wq.cell? ⟨w.heap.size + 1, 4, none⟩ = some (.slice a f.len c) := Lib.cell_of_heap hq.2 4; go_simp; try with_reducible rfl)
          refine RN.all (rs := [14]) (by kernel_rfl) (by simp) ?_
          refine RN.All.cons rfl (fun K hK => ?_) RN.All.nil
          have y0 : V8.cell? ⟨gb, 0, none⟩ = some (.slice none 0 0) := Lib.cell_of_heap HX.out 0
          have z0 : V8.frozen? ⟨gb, 0, none⟩ = false := frozen_of_row _ _ _ _ _ HX.out
          have y1 : V8.cell? ⟨gb, 1, none⟩ = some (.slice none 0 0) := Lib.cell_of_heap HX.out 1
          have z1 : V8.frozen? ⟨gb, 1, none⟩ = false := frozen_of_row _ _ _ _ _ HX.out
          have y2 : V8.cell? ⟨gb, 2, none⟩ = some (.slice none 0 0) := Lib.cell_of_heap HX.out 2
          have z2 : V8.frozen? ⟨gb, 2, none⟩ = false := frozen_of_row _ _ _ _ _ HX.out
          have y3 : V8.cell? ⟨gb, 3, none⟩ = some (.int .i64 0) := Lib.cell_of_heap HX.out 3
          have z3 : V8.frozen? ⟨gb, 3, none⟩ = false := frozen_of_row _ _ _ _ _ HX.out
          have y4 : V8.cell? ⟨gb, 4, none⟩ = some (.int .i64 0) := Lib.cell_of_heap HX.out 4
          have z4 : V8.frozen? ⟨gb, 4, none⟩ = false := frozen_of_row _ _ _ _ _ HX.out
          have y5 : V8.cell? ⟨gb, 5, none⟩ = some (.int .i64 0) := Lib.cell_of_heap HX.out 5
          have z5 : V8.frozen? ⟨gb, 5, none⟩ = false := frozen_of_row _ _ _ _ _ HX.out
          have y6 : V8.cell? ⟨gb, 6, none⟩ = some (.string ⟨#[]⟩) := Lib.cell_of_heap HX.out 6
          have z6 : V8.frozen? ⟨gb, 6, none⟩ = false := frozen_of_row _ _ _ _ _ HX.out
          go_simp
          refine hK _ _ (fun _ => ⟨(put7_other (by omega) _ _ _ _ _ _ _).trans hS.1, (put7_other (by omega) _ _ _ _ _ _ _).trans hS.2⟩) ?_
          clear hK K y0 z0 y1 z1 y2 z2 y3 z3 y4 z4 y5 z5 y6 z6
          refine RN.done (by kernel_rfl) ?_ _
          go_wp2_with fail
          go_meet
          case rel => exact ⟨gb, p6, n6, c6, rfl, HPV2.out.other (fun h k e => put7_other (HNE.out h k e) _ _ _ _ _ _ _), put7 HX.out _ _ _ _ _ _ _, set7_below HB.out hgb _ _ _ _ _ _ _, hgb⟩
    case rest =>
      obtain ⟨gb, p6, n6, c6, rfl, hp6, hg6, hb6, hgb6⟩ := hcut
      have HPV := Lib.hid hp6
      have hS1 := And.intro (bel_block hb6 HS1.out) (bel_block hb6 HP1.out)
      have HSV := Lib.hid hS1
      have s0 : wc.cell? ⟨w.heap.size, 0, none⟩ = some (.slice a1 n1 c1) := Lib.cell_of_heap HSV.out.1 0
      have s1 : wc.cell? ⟨w.heap.size, 1, none⟩ = some (.slice a2 n2 c2) := Lib.cell_of_heap HSV.out.1 1
      have s2 : wc.cell? ⟨w.heap.size, 2, none⟩ = some (.int .i64 s.st) := Lib.cell_of_heap HSV.out.1 2
      have s3 : wc.cell? ⟨w.heap.size, 3, none⟩ = some (.int .i64 s.la) := Lib.cell_of_heap HSV.out.1 3
      have s4 : wc.cell? ⟨w.heap.size + 1, 0, none⟩ = some (.int .i64 k) := Lib.cell_of_heap HSV.out.2 0
      have s5 : wc.cell? ⟨w.heap.size + 1, 1, none⟩ = some (.bool qq) := Lib.cell_of_heap HSV.out.2 1
      have s6 : wc.cell? ⟨w.heap.size + 1, 2, none⟩ = some (.string t) := Lib.cell_of_heap HSV.out.2 2
      have s7 : wc.cell? ⟨w.heap.size + 1, 3, none⟩ = some (.string o) := Lib.cell_of_heap HSV.out.2 3
      have s8 : wc.cell? ⟨w.heap.size + 1, 4, none⟩ = some (.slice a f.len c) := Lib.cell_of_heap HSV.out.2 4
      have g0 : wc.cell? ⟨gb, 0, none⟩ = some (.slice p6 n6 c6) := Lib.cell_of_heap hg6 0
      have g1 : wc.cell? ⟨gb, 1, none⟩ = some (.slice a1 n1 c1) := Lib.cell_of_heap hg6 1
      have g2 : wc.cell? ⟨gb, 2, none⟩ = some (.slice a2 n2 c2) := Lib.cell_of_heap hg6 2
      have g3 : wc.cell? ⟨gb, 3, none⟩ = some (.int .i64 s.st) := Lib.cell_of_heap hg6 3
      have g4 : wc.cell? ⟨gb, 4, none⟩ = some (.int .i64 s.la) := Lib.cell_of_heap hg6 4
      have g5 : wc.cell? ⟨gb, 5, none⟩ = some (.int .i64 0) := Lib.cell_of_heap hg6 5
      have g6 : wc.cell? ⟨gb, 6, none⟩ = some (.string ⟨#[]⟩) := Lib.cell_of_heap hg6 6
      have HGV := Lib.hid hg6
      have HRV := Lib.hid (show wc.heap[w.heap.size + 1 + 1]? = _ from bel_block hb6 HG1.out)
      have r0 : wc.cell? ⟨w.heap.size + 1 + 1, 0, none⟩ = some (.slice none 0 0) := Lib.cell_of_heap HRV.out 0
      have e0 : wc.frozen? ⟨w.heap.size + 1 + 1, 0, none⟩ = false := frozen_of_row _ _ _ _ _ HRV.out
      have r1 : wc.cell? ⟨w.heap.size + 1 + 1, 1, none⟩ = some (.slice none 0 0) := Lib.cell_of_heap HRV.out 1
      have e1 : wc.frozen? ⟨w.heap.size + 1 + 1, 1, none⟩ = false := frozen_of_row _ _ _ _ _ HRV.out
      have r2 : wc.cell? ⟨w.heap.size + 1 + 1, 2, none⟩ = some (.slice none 0 0) := Lib.cell_of_heap HRV.out 2
      have e2 : wc.frozen? ⟨w.heap.size + 1 + 1, 2, none⟩ = false := frozen_of_row _ _ _ _ _ HRV.out
      have r3 : wc.cell? ⟨w.heap.size + 1 + 1, 3, none⟩ = some (.int .i64 0) := Lib.cell_of_heap HRV.out 3
      have e3 : wc.frozen? ⟨w.heap.size + 1 + 1, 3, none⟩ = false := frozen_of_row _ _ _ _ _ HRV.out
      have r4 : wc.cell? ⟨w.heap.size + 1 + 1, 4, none⟩ = some (.int .i64 0) := Lib.cell_of_heap HRV.out 4
      have e4 : wc.frozen? ⟨w.heap.size + 1 + 1, 4, none⟩ = false := frozen_of_row _ _ _ _ _ HRV.out
      have r5 : wc.cell? ⟨w.heap.size + 1 + 1, 5, none⟩ = some (.int .i64 0) := Lib.cell_of_heap HRV.out 5
      have e5 : wc.frozen? ⟨w.heap.size + 1 + 1, 5, none⟩ = false := frozen_of_row _ _ _ _ _ HRV.out
      have r6 : wc.cell? ⟨w.heap.size + 1 + 1, 6, none⟩ = some (.string ⟨#[]⟩) := Lib.cell_of_heap HRV.out 6
      have e6 : wc.frozen? ⟨w.heap.size + 1 + 1, 6, none⟩ = false := frozen_of_row _ _ _ _ _ HRV.out
      have HBV := Lib.hid (HB1.out.trans (hb6.mono HB1.out.size))
      clear hp6 hb6 hg6 hS1
      by_cases he : bs o = []
      · have e0 : (o.toList == []) = true := by rw [Vr.tests]; exact beq_iff_eq.2 he
        go_wp2_with fail
        rw [paramG_own (by rw [he]; rfl)]
        have hB7 := set7_below (w0 := w) (g := w.heap.size + 1 + 1) (HB0.out.trans (HBV.out.mono HB0.out.size)) (by omega) (.slice p6 n6 c6) (.slice a1 n1 c1) (.slice a2 n2 c2) (.int .i64 s.st) (.int .i64 s.la) (.int .i64 0) (.string ⟨#[]⟩)
        exact bodyPost_ret (results_cell_row rfl _ _ (w.heap.size + 1 + 1) _ _ _ _ rfl (put7 HRV.out _ _ _ _ _ _ _) Tryz.underlying42 rfl (by kernel_rfl)) rfl ⟨_, rfl, ⟨_, _, rfl, HPV.out.other (fun h k e => put7_other (HPV.out.neGot HRV.out h k e) _ _ _ _ _ _ _), HEW.out.p.stay hB7, fun h _ e => .inl ⟨h, e⟩⟩, hB7⟩
      · have e0 : (o.toList == []) = false := by rw [Vr.tests]; exact beq_eq_false_iff_ne.2 he
        have hie : (bs o).isEmpty = false := by
          cases hb : bs o with
          | nil => exact absurd hb he
          | cons => rfl
        have HIE := Lib.hid hie
        clear he hie
        have HAM43 := HAM.out 43
        cases h43 : hasC o 43
        · rw [h43] at HAM43
          have HX43 := Lib.hid HAM43
          clear HAM43
          have H43 := Lib.hid h43
          clear h43
          cases u with
          | true =>
            go_wp2_with (go_at_call 51; refine (HX43.out _).mono ?_; rintro e w3 ⟨rfl, rfl⟩)
            rw [paramG_own (by rw [HU.out, H43.out, HIE.out]; rfl)]
            have hB7 := set7_below (w0 := w) (g := w.heap.size + 1 + 1) (HB0.out.trans (HBV.out.mono HB0.out.size)) (by omega) (.slice p6 n6 c6) (.slice a1 n1 c1) (.slice a2 n2 c2) (.int .i64 s.st) (.int .i64 s.la) (.int .i64 0) (.string ⟨#[]⟩)
            exact bodyPost_ret (results_cell_row rfl _ _ (w.heap.size + 1 + 1) _ _ _ _ rfl (put7 HRV.out _ _ _ _ _ _ _) Tryz.underlying42 rfl (by kernel_rfl)) rfl ⟨_, rfl, ⟨_, _, rfl, HPV.out.other (fun h k e => put7_other (HPV.out.neGot HRV.out h k e) _ _ _ _ _ _ _), HEW.out.p.stay hB7, fun h _ e => .inl ⟨h, e⟩⟩, hB7⟩
          | false =>
            go_wp2_with (go_at_call 51; refine (HX43.out _).mono ?_; rintro e w3 ⟨rfl, rfl⟩)
            refine (H.out wc m s _ _ (HBW0.out.trans ((HB0.out.trans (HBV.out.mono HB0.out.size)).mono HBW0.out.size)) (HE.out.stay HBV.out) hm).mono ?_
            rintro e w2 ⟨v2, rfl, hg2, hb2⟩
            have hz := ex_zero f s []
            have hwt := weight_ex f s hs
            have hjl := ex_join f s [] (by simp [joinS])
            have hok := ex_ok f s [] m HEW.out.ok hf
            obtain ⟨g, hg⟩ : ∃ g, g = ex f s [] := ⟨_, rfl⟩
            rw [← hg] at hg2 hz hwt hjl hok
            have HG := Lib.hid hg
            clear hg
            obtain ⟨L, S, k1, t1⟩ := g
            obtain ⟨lv, vv2, rfl, hpl, hpv, hfr⟩ := hg2
            obtain ⟨p7, n7, c7, rfl⟩ := hpl.shape
            obtain ⟨a8, n8, c8, rfl⟩ := hpv.shape
            simp only at hpl hpv hz hwt hjl hok
            have HFR := Lib.hid (fun (h : S.vs ≠ []) (k : Nat) (e : (Value.slice a8 n8 c8).ownBlock = some k) => (hfr h k e).imp id (Nat.le_trans (HB0.out.trans (HBV.out.mono HB0.out.size)).size))
            clear hfr
            have HPL := Lib.hid hpl; have HPP := Lib.hid hpv
            have HB2 := Lib.hid hb2
            have HR2 := Lib.hid (bel_block hb2 HRV.out)
            have HP2 := Lib.hid (bel_block hb2 HSV.out.2)
            clear hpl hpv hb2
            obtain ⟨p8, d8, hsl, hpc, hnil⟩ := HPL.out
            injection hsl with hs1 hs2 hs3
            subst hs1; subst hs2; subst hs3
            have HPC := Lib.hid hpc; have HNIL := Lib.hid hnil
            clear hpc hnil
            have hBg := Fld.below_alloc w2 (.cells #[.slice p7 L.length c7, .slice a8 n8 c8, .slice a2 n2 c2, .int .i64 S.st, .int .i64 S.la, .int .i64 k1, .string t1] 42)
            have HBg := Lib.hid hBg
            have HRg := Lib.hid (bel_block hBg HR2.out)
            have HPg := Lib.hid (bel_block hBg HP2.out)
            have HGg := Lib.hid (heap_alloc_new w2 (.cells #[.slice p7 L.length c7, .slice a8 n8 c8, .slice a2 n2 c2, .int .i64 S.st, .int .i64 S.la, .int .i64 k1, .string t1] 42))
            have HPCg := Lib.hid (HPC.out.below hBg)
            have HBW := Lib.hid ((HB0.out.trans (HBV.out.mono HB0.out.size)).trans (HB2.out.mono (HB0.out.trans (HBV.out.mono HB0.out.size)).size))
            have HBWg := Lib.hid (HBW.out.trans (hBg.mono HBW.out.size))
            clear hBg
            by_cases hk : k1 = 0
            · subst hk
              obtain rfl : t1 = ⟨#[]⟩ := hz rfl
              clear hz
              go_wp2_with fail
              refine (Fld.rjoin_wide p7 c7 L _ HPCg.out (by omega)).mono ?_
              rintro e w3 ⟨rfl, hb3⟩
              have HB3 := Lib.hid hb3
              have HRx := Lib.hid (bel_block hb3 HRg.out)
              have HPx := Lib.hid (bel_block hb3 HPg.out)
              have HGx := Lib.hid (bel_block hb3 HGg.out)
              clear hb3
              have y0 : w3.cell? ⟨w.heap.size + 1 + 1, 0, none⟩ = some (.slice none 0 0) := Lib.cell_of_heap HRx.out 0
              have z0 : w3.frozen? ⟨w.heap.size + 1 + 1, 0, none⟩ = false := frozen_of_row _ _ _ _ _ HRx.out
              have y1 : w3.cell? ⟨w.heap.size + 1 + 1, 1, none⟩ = some (.slice none 0 0) := Lib.cell_of_heap HRx.out 1
              have z1 : w3.frozen? ⟨w.heap.size + 1 + 1, 1, none⟩ = false := frozen_of_row _ _ _ _ _ HRx.out
              have y2 : w3.cell? ⟨w.heap.size + 1 + 1, 2, none⟩ = some (.slice none 0 0) := Lib.cell_of_heap HRx.out 2
              have z2 : w3.frozen? ⟨w.heap.size + 1 + 1, 2, none⟩ = false := frozen_of_row _ _ _ _ _ HRx.out
              have y3 : w3.cell? ⟨w.heap.size + 1 + 1, 3, none⟩ = some (.int .i64 0) := Lib.cell_of_heap HRx.out 3
              have z3 : w3.frozen? ⟨w.heap.size + 1 + 1, 3, none⟩ = false := frozen_of_row _ _ _ _ _ HRx.out
              have y4 : w3.cell? ⟨w.heap.size + 1 + 1, 4, none⟩ = some (.int .i64 0) := Lib.cell_of_heap HRx.out 4
              have z4 : w3.frozen? ⟨w.heap.size + 1 + 1, 4, none⟩ = false := frozen_of_row _ _ _ _ _ HRx.out
              have y5 : w3.cell? ⟨w.heap.size + 1 + 1, 5, none⟩ = some (.int .i64 0) := Lib.cell_of_heap HRx.out 5
              have z5 : w3.frozen? ⟨w.heap.size + 1 + 1, 5, none⟩ = false := frozen_of_row _ _ _ _ _ HRx.out
              have y6 : w3.cell? ⟨w.heap.size + 1 + 1, 6, none⟩ = some (.string ⟨#[]⟩) := Lib.cell_of_heap HRx.out 6
              have z6 : w3.frozen? ⟨w.heap.size + 1 + 1, 6, none⟩ = false := frozen_of_row _ _ _ _ _ HRx.out
              have v0 : w3.cell? ⟨w2.heap.size, 0, none⟩ = some (.slice p7 L.length c7) := Lib.cell_of_heap HGx.out 0
              have v1 : w3.cell? ⟨w2.heap.size, 1, none⟩ = some (.slice a8 n8 c8) := Lib.cell_of_heap HGx.out 1
              have v2 : w3.cell? ⟨w2.heap.size, 2, none⟩ = some (.slice a2 n2 c2) := Lib.cell_of_heap HGx.out 2
              have v3 : w3.cell? ⟨w2.heap.size, 3, none⟩ = some (.int .i64 S.st) := Lib.cell_of_heap HGx.out 3
              have v4 : w3.cell? ⟨w2.heap.size, 4, none⟩ = some (.int .i64 S.la) := Lib.cell_of_heap HGx.out 4
              have v5 : w3.cell? ⟨w2.heap.size, 5, none⟩ = some (.int .i64 0) := Lib.cell_of_heap HGx.out 5
              have v6 : w3.cell? ⟨w2.heap.size, 6, none⟩ = some (.string ⟨#[]⟩) := Lib.cell_of_heap HGx.out 6
              have x0 : w3.cell? ⟨w.heap.size + 1, 0, none⟩ = some (.int .i64 k) := Lib.cell_of_heap HPx.out 0
              have x1 : w3.cell? ⟨w.heap.size + 1, 1, none⟩ = some (.bool qq) := Lib.cell_of_heap HPx.out 1
              have x2 : w3.cell? ⟨w.heap.size + 1, 2, none⟩ = some (.string t) := Lib.cell_of_heap HPx.out 2
              have x3 : w3.cell? ⟨w.heap.size + 1, 3, none⟩ = some (.string o) := Lib.cell_of_heap HPx.out 3
              have x4 : w3.cell? ⟨w.heap.size + 1, 4, none⟩ = some (.slice a f.len c) := Lib.cell_of_heap HPx.out 4
              have HPV3 := Lib.hid (show Pv w3 (.slice p7 L.length c7) L from ⟨_, _, rfl, HPCg.out.below HB3.out, HNIL.out⟩)
              have HPP3 := Lib.hid (HPP.out.stay (HBg.out.trans (HB3.out.mono HBg.out.size)))
              have HBW3 := Lib.hid (HBWg.out.trans (HB3.out.mono HBWg.out.size))
              have hJs : (tx (joinS L)).size ≤ 65536 := by rw [Fld.tx_size]; exact hjl
              have HAM61 := HAM.out 61
              cases h61 : hasC o 61
              · rw [h61] at HAM61
                have HX61 := Lib.hid HAM61
                have H61 := Lib.hid h61
                clear HAM61 h61
                have HAM63 := HAM.out 63
                cases h63 : hasC o 63
                · rw [h63] at HAM63
                  have HX63 := Lib.hid HAM63
                  have H63 := Lib.hid h63
                  clear HAM63 h63
                  go_wp2_with fail
                  refine (HX61.out _).mono ?_
                  rintro e w4 ⟨rfl, rfl⟩
                  go_wp2_with fail
                  refine (HX63.out _).mono ?_
                  rintro e w4 ⟨rfl, rfl⟩
                  go_wp2_with fail
                  refine RN.begins (fun w' => w'.heap[w.heap.size + 1]? = some (.cells #[.int .i64 k, .bool qq, .string t, .string o, .slice a f.len c] 52 (0, 0)) ∧ w'.heap[w2.heap.size]? = some (.cells #[.slice p7 L.length c7, .slice a8 n8 c8, .slice a2 n2 c2, .int .i64 S.st, .int .i64 S.la, .int .i64 0, .string ⟨#[]⟩] 42 (0, 0))) [] (by kernel_rfl) ?_
                  have hS := And.intro (show w3.drew.heap[w.heap.size + 1]? = _ from HPx.out) (show w3.drew.heap[w2.heap.size]? = _ from HGx.out)
                  have hn2 : w.heap.size + 1 + 1 < w2.heap.size := (Array.getElem?_eq_some_iff.1 HR2.out).1
                  refine RN.take (i := 0) (v := ?_) rfl (by decide) (by kernel_rfl) (by kernel_rfl) (by kernel_rfl) (by kernel_rfl) (by kernel_rfl) (by first | exact fun _ _ _ h => h | exact fun _ _ _ h => (by cases h.1) | exact fun _ _ _ h => door_put (by decide) h) (.inl ⟨by rfl, ?_⟩) hS ?_
                  rotate_left 1
                  · (intro wq hq; have s4 : wq.cell? ⟨w.heap.size + 1, 0, none⟩ = some (.int .i64 k) := Lib.cell_of_heap hq.1 0; have s5 : wq.cell? ⟨w.heap.size + 1, 1, none⟩ = some (.bool qq) := Lib.cell_of_heap hq.1 1; have s6 : wq.cell? ⟨w.heap.size + 1, 2, none⟩ = some (.string t) := Lib.cell_of_heap hq.1 2; have s7 : wq.cell? ⟨w.heap.size + 1, 3, none⟩ = some (.string o) := Lib.cell_of_heap hq.1 3; have s8 : wq.cell? ⟨w.heap.size + 1, 4, none⟩ = some (.slice a f.len c) := Lib.cell_of_heap hq.1 4; have t0 : wq.cell? ⟨w2.heap.size, 0, none⟩ = some (.slice p7 L.length c7) := Lib.cell_of_heap hq.2 0; have t1 : wq.cell? ⟨w2.heap.size, 1, none⟩ = some (.slice a8 n8 c8) := Lib.cell_of_heap hq.2 1; have t2 : wq.cell? ⟨w2.heap.size, 2, none⟩ = some (.slice a2 n2 c2) := Lib.cell_of_heap hq.2 2; have t3 : wq.cell? ⟨w2.heap.size, 3, none⟩ = some (.int .i64 S.st) := Lib.cell_of_heap hq.2 3; have t4 : wq.cell? ⟨w2.heap.size, 4, none⟩ = some (.int .i64 S.la) := Lib.cell_of_heap hq.2 4; have t5 : wq.cell? ⟨w2.heap.size, 5, none⟩ = some (.int .i64 0) := Lib.cell_of_heap hq.2 5; have t6 : wq.cell? ⟨w2.heap.size, 6, none⟩ = some (.string ⟨#[]⟩) := Lib.cell_of_heap hq.2 6; go_simp; try with_reducible rfl)
                  refine RN.take (i := 1) (v := ?_) rfl (by decide) (by kernel_rfl) (by kernel_rfl) (by kernel_rfl) (by kernel_rfl) (by kernel_rfl) (by first | exact fun _ _ _ h => h | exact fun _ _ _ h => (by cases h.1) | exact fun _ _ _ h => door_put (by decide) h) (.inl ⟨by rfl, ?_⟩) hS ?_
                  rotate_left 1
                  · (intro wq hq; have s4 : wq.cell? ⟨w.heap.size + 1, 0, none⟩ = some (.int .i64 k) := Lib.cell_of_heap hq.1 0; have s5 : wq.cell? ⟨w.heap.size + 1, 1, none⟩ = some (.bool qq) := Lib.cell_of_heap hq.1 1; have s6 : wq.cell? ⟨w.heap.size + 1, 2, none⟩ = some (.string t) := Lib.cell_of_heap hq.1 2; have s7 : wq.cell? ⟨w.heap.size + 1, 3, none⟩ = some (.string o) := Lib.cell_of_heap hq.1 3; have s8 : wq.cell? ⟨w.heap.size + 1, 4, none⟩ = some (.slice a f.len c) := Lib.cell_of_heap hq.1 4; have t0 : wq.cell? ⟨w2.heap.size, 0, none⟩ = some (.slice p7 L.length c7) := Lib.cell_of_heap hq.2 0; have t1 : wq.cell? ⟨w2.heap.size, 1, none⟩ = some (.slice a8 n8 c8) := Lib.cell_of_heap hq.2 1; have t2 : wq.cell? ⟨w2.heap.size, 2, none⟩ = some (.slice a2 n2 c2) := Lib.cell_of_heap hq.2 2; have t3 : wq.cell? ⟨w2.heap.size, 3, none⟩ = some (.int .i64 S.st) := Lib.cell_of_heap hq.2 3; have t4 : wq.cell? ⟨w2.heap.size, 4, none⟩ = some (.int .i64 S.la) := Lib.cell_of_heap hq.2 4; have t5 : wq.cell? ⟨w2.heap.size, 5, none⟩ = some (.int .i64 0) := Lib.cell_of_heap hq.2 5; have t6 : wq.cell? ⟨w2.heap.size, 6, none⟩ = some (.string ⟨#[]⟩) := Lib.cell_of_heap hq.2 6; go_simp; try with_reducible rfl)
                  refine RN.take (i := 2) (v := ?_) rfl (by decide) (by kernel_rfl) (by kernel_rfl) (by kernel_rfl) (by kernel_rfl) (by kernel_rfl) (by first | exact fun _ _ _ h => h | exact fun _ _ _ h => (by cases h.1) | exact fun _ _ _ h => door_put (by decide) h) (.inl ⟨by rfl, ?_⟩) hS ?_
                  rotate_left 1
                  · (intro wq hq; have s4 : wq.cell? ⟨w.heap.size + 1, 0, none⟩ = some (.int .i64 k) := Lib.cell_of_heap hq.1 0; have s5 : wq.cell? ⟨w.heap.size + 1, 1, none⟩ = some (.bool qq) := Lib.cell_of_heap hq.1 1; have s6 : wq.cell? ⟨w.heap.size + 1, 2, none⟩ = some (.string t) := Lib.cell_of_heap hq.1 2; have s7 : wq.cell? ⟨w.heap.size + 1, 3, none⟩ = some (.string o) := Lib.cell_of_heap hq.1 3; have s8 : wq.cell? ⟨w.heap.size + 1, 4, none⟩ = some (.slice a f.len c) := Lib.cell_of_heap hq.1 4; have t0 : wq.cell? ⟨w2.heap.size, 0, none⟩ = some (.slice p7 L.length c7) := Lib.cell_of_heap hq.2 0; have t1 : wq.cell? ⟨w2.heap.size, 1, none⟩ = some (.slice a8 n8 c8) := Lib.cell_of_heap hq.2 1; have t2 : wq.cell? ⟨w2.heap.size, 2, none⟩ = some (.slice a2 n2 c2) := Lib.cell_of_heap hq.2 2; have t3 : wq.cell? ⟨w2.heap.size, 3, none⟩ = some (.int .i64 S.st) := Lib.cell_of_heap hq.2 3; have t4 : wq.cell? ⟨w2.heap.size, 4, none⟩ = some (.int .i64 S.la) := Lib.cell_of_heap hq.2 4; have t5 : wq.cell? ⟨w2.heap.size, 5, none⟩ = some (.int .i64 0) := Lib.cell_of_heap hq.2 5; have t6 : wq.cell? ⟨w2.heap.size, 6, none⟩ = some (.string ⟨#[]⟩) := Lib.cell_of_heap hq.2 6; go_simp; try with_reducible rfl)
                  refine RN.take (i := 3) (v := ?_) rfl (by decide) (by kernel_rfl) (by kernel_rfl) (by kernel_rfl) (by kernel_rfl) (by kernel_rfl) (by first | exact fun _ _ _ h => h | exact fun _ _ _ h => (by cases h.1) | exact fun _ _ _ h => door_put (by decide) h) (.inl ⟨by rfl, ?_⟩) hS ?_
                  rotate_left 1
                  · (intro wq hq; have s4 : wq.cell? ⟨w.heap.size + 1, 0, none⟩ = some (.int .i64 k) := Lib.cell_of_heap hq.1 0; have s5 : wq.cell? ⟨w.heap.size + 1, 1, none⟩ = some (.bool qq) := Lib.cell_of_heap hq.1 1; have s6 : wq.cell? ⟨w.heap.size + 1, 2, none⟩ = some (.string t) := Lib.cell_of_heap hq.1 2; have s7 : wq.cell? ⟨w.heap.size + 1, 3, none⟩ = some (.string o) := Lib.cell_of_heap hq.1 3; have s8 : wq.cell? ⟨w.heap.size + 1, 4, none⟩ = some (.slice a f.len c) := Lib.cell_of_heap hq.1 4; have t0 : wq.cell? ⟨w2.heap.size, 0, none⟩ = some (.slice p7 L.length c7) := Lib.cell_of_heap hq.2 0; have t1 : wq.cell? ⟨w2.heap.size, 1, none⟩ = some (.slice a8 n8 c8) := Lib.cell_of_heap hq.2 1; have t2 : wq.cell? ⟨w2.heap.size, 2, none⟩ = some (.slice a2 n2 c2) := Lib.cell_of_heap hq.2 2; have t3 : wq.cell? ⟨w2.heap.size, 3, none⟩ = some (.int .i64 S.st) := Lib.cell_of_heap hq.2 3; have t4 : wq.cell? ⟨w2.heap.size, 4, none⟩ = some (.int .i64 S.la) := Lib.cell_of_heap hq.2 4; have t5 : wq.cell? ⟨w2.heap.size, 5, none⟩ = some (.int .i64 0) := Lib.cell_of_heap hq.2 5; have t6 : wq.cell? ⟨w2.heap.size, 6, none⟩ = some (.string ⟨#[]⟩) := Lib.cell_of_heap hq.2 6; go_simp; try with_reducible rfl)
                  refine RN.take (i := 5) (v := ?_) rfl (by decide) (by kernel_rfl) (by kernel_rfl) (by kernel_rfl) (by kernel_rfl) (by kernel_rfl) (by first | exact fun _ _ _ h => h | exact fun _ _ _ h => (by cases h.1) | exact fun _ _ _ h => door_put (by decide) h) (.inl ⟨by rfl, ?_⟩) hS ?_
                  rotate_left 1
                  · (intro wq hq; have s4 : wq.cell? ⟨w.heap.size + 1, 0, none⟩ = some (.int .i64 k) := Lib.cell_of_heap hq.1 0; have s5 : wq.cell? ⟨w.heap.size + 1, 1, none⟩ = some (.bool qq) := Lib.cell_of_heap hq.1 1; have s6 : wq.cell? ⟨w.heap.size + 1, 2, none⟩ = some (.string t) := Lib.cell_of_heap hq.1 2; have s7 : wq.cell? ⟨w.heap.size + 1, 3, none⟩ = some (.string o) := Lib.cell_of_heap hq.1 3; have s8 : wq.cell? ⟨w.heap.size + 1, 4, none⟩ = some (.slice a f.len c) := Lib.cell_of_heap hq.1 4; have t0 : wq.cell? ⟨w2.heap.size, 0, none⟩ = some (.slice p7 L.length c7) := Lib.cell_of_heap hq.2 0; have t1 : wq.cell? ⟨w2.heap.size, 1, none⟩ = some (.slice a8 n8 c8) := Lib.cell_of_heap hq.2 1; have t2 : wq.cell? ⟨w2.heap.size, 2, none⟩ = some (.slice a2 n2 c2) := Lib.cell_of_heap hq.2 2; have t3 : wq.cell? ⟨w2.heap.size, 3, none⟩ = some (.int .i64 S.st) := Lib.cell_of_heap hq.2 3; have t4 : wq.cell? ⟨w2.heap.size, 4, none⟩ = some (.int .i64 S.la) := Lib.cell_of_heap hq.2 4; have t5 : wq.cell? ⟨w2.heap.size, 5, none⟩ = some (.int .i64 0) := Lib.cell_of_heap hq.2 5; have t6 : wq.cell? ⟨w2.heap.size, 6, none⟩ = some (.string ⟨#[]⟩) := Lib.cell_of_heap hq.2 6; go_simp; try with_reducible rfl)
                  refine RN.take (i := 6) (v := ?_) rfl (by decide) (by kernel_rfl) (by kernel_rfl) (by kernel_rfl) (by kernel_rfl) (by kernel_rfl) (by first | exact fun _ _ _ h => h | exact fun _ _ _ h => (by cases h.1) | exact fun _ _ _ h => door_put (by decide) h) (.inl ⟨by rfl, ?_⟩) hS ?_
                  rotate_left 1
                  · (intro wq hq; have s4 : wq.cell? ⟨w.heap.size + 1, 0, none⟩ = some (.int .i64 k) := Lib.cell_of_heap hq.1 0; have s5 : wq.cell? ⟨w.heap.size + 1, 1, none⟩ = some (.bool qq) := Lib.cell_of_heap hq.1 1; have s6 : wq.cell? ⟨w.heap.size + 1, 2, none⟩ = some (.string t) := Lib.cell_of_heap hq.1 2; have s7 : wq.cell? ⟨w.heap.size + 1, 3, none⟩ = some (.string o) := Lib.cell_of_heap hq.1 3; have s8 : wq.cell? ⟨w.heap.size + 1, 4, none⟩ = some (.slice a f.len c) := Lib.cell_of_heap hq.1 4; have t0 : wq.cell? ⟨w2.heap.size, 0, none⟩ = some (.slice p7 L.length c7) := Lib.cell_of_heap hq.2 0; have t1 : wq.cell? ⟨w2.heap.size, 1, none⟩ = some (.slice a8 n8 c8) := Lib.cell_of_heap hq.2 1; have t2 : wq.cell? ⟨w2.heap.size, 2, none⟩ = some (.slice a2 n2 c2) := Lib.cell_of_heap hq.2 2; have t3 : wq.cell? ⟨w2.heap.size, 3, none⟩ = some (.int .i64 S.st) := Lib.cell_of_heap hq.2 3; have t4 : wq.cell? ⟨w2.heap.size, 4, none⟩ = some (.int .i64 S.la) := Lib.cell_of_heap hq.2 4; have t5 : wq.cell? ⟨w2.heap.size, 5, none⟩ = some (.int .i64 0) := Lib.cell_of_heap hq.2 5; have t6 : wq.cell? ⟨w2.heap.size, 6, none⟩ = some (.string ⟨#[]⟩) := Lib.cell_of_heap hq.2 6; go_simp; try with_reducible rfl)
                  refine RN.all (rs := [4]) (by kernel_rfl) (by simp) ?_
                  refine RN.All.cons rfl (fun K hK => ?_) RN.All.nil
                  go_simp
                  refine (HEM.out L (.slice p7 L.length c7) qq w3.drew HPV3.out).mono ?_
                  rintro e V2 ⟨lv2, rfl, hp2, hb⟩
                  have hS1 := And.intro (bel_block hb hS.1) (bel_block hb hS.2)
                  obtain ⟨p8, n8', c8', rfl⟩ := hp2.shape
                  have HPV4 := Lib.hid hp2
                  have HRX := Lib.hid (bel_block hb (show w3.drew.heap[w.heap.size + 1 + 1]? = _ from HRx.out))
                  have HB4 := Lib.hid ((Fld.drewn (Below.refl w3.heap.size w3)).trans (hb.mono (Nat.le_refl _)))
                  refine hK _ _ (fun _ => hS1) ?_
                  clear hK K hb hp2 hS
                  have hS := hS1
                  clear hS1
                  refine RN.take (i := 7) (v := ?_) rfl (by decide) (by kernel_rfl) (by kernel_rfl) (by kernel_rfl) (by kernel_rfl) (by kernel_rfl) (by first | exact fun _ _ _ h => h | exact fun _ _ _ h => (by cases h.1) | exact fun _ _ _ h => door_put (by decide) h) (.inl ⟨by rfl, ?_⟩) hS ?_
                  rotate_left 1
                  · (intro wq hq; skip; go_simp; try with_reducible rfl)
                  refine RN.all (rs := [8]) (by kernel_rfl) (by simp) ?_
                  refine RN.All.cons rfl (fun K hK => ?_) RN.All.nil
                  have y0 : V2.cell? ⟨w.heap.size + 1 + 1, 0, none⟩ = some (.slice none 0 0) := Lib.cell_of_heap HRX.out 0
                  have z0 : V2.frozen? ⟨w.heap.size + 1 + 1, 0, none⟩ = false := frozen_of_row _ _ _ _ _ HRX.out
                  have y1 : V2.cell? ⟨w.heap.size + 1 + 1, 1, none⟩ = some (.slice none 0 0) := Lib.cell_of_heap HRX.out 1
                  have z1 : V2.frozen? ⟨w.heap.size + 1 + 1, 1, none⟩ = false := frozen_of_row _ _ _ _ _ HRX.out
                  have y2 : V2.cell? ⟨w.heap.size + 1 + 1, 2, none⟩ = some (.slice none 0 0) := Lib.cell_of_heap HRX.out 2
                  have z2 : V2.frozen? ⟨w.heap.size + 1 + 1, 2, none⟩ = false := frozen_of_row _ _ _ _ _ HRX.out
                  have y3 : V2.cell? ⟨w.heap.size + 1 + 1, 3, none⟩ = some (.int .i64 0) := Lib.cell_of_heap HRX.out 3
                  have z3 : V2.frozen? ⟨w.heap.size + 1 + 1, 3, none⟩ = false := frozen_of_row _ _ _ _ _ HRX.out
                  have y4 : V2.cell? ⟨w.heap.size + 1 + 1, 4, none⟩ = some (.int .i64 0) := Lib.cell_of_heap HRX.out 4
                  have z4 : V2.frozen? ⟨w.heap.size + 1 + 1, 4, none⟩ = false := frozen_of_row _ _ _ _ _ HRX.out
                  have y5 : V2.cell? ⟨w.heap.size + 1 + 1, 5, none⟩ = some (.int .i64 0) := Lib.cell_of_heap HRX.out 5
                  have z5 : V2.frozen? ⟨w.heap.size + 1 + 1, 5, none⟩ = false := frozen_of_row _ _ _ _ _ HRX.out
                  have y6 : V2.cell? ⟨w.heap.size + 1 + 1, 6, none⟩ = some (.string ⟨#[]⟩) := Lib.cell_of_heap HRX.out 6
                  have z6 : V2.frozen? ⟨w.heap.size + 1 + 1, 6, none⟩ = false := frozen_of_row _ _ _ _ _ HRX.out
                  go_simp
                  refine hK _ _ (fun _ => ⟨(put7_other (by omega) _ _ _ _ _ _ _).trans hS.1, (put7_other (by omega) _ _ _ _ _ _ _).trans hS.2⟩) ?_
                  clear hK K y0 z0 y1 z1 y2 z2 y3 z3 y4 z4 y5 z5 y6 z6
                  refine RN.done (by kernel_rfl) ?_ _
                  go_wp2_with fail
                  rw [paramG_after HIE.out (by rw [HU.out, H43.out]), ← HG.out, afterP_else H61.out H63.out]
                  have HPP4 := Lib.hid (HPP3.out.stay HB4.out)
                  have hB7 := set7_below (w0 := w) (w := V2) (g := w.heap.size + 1 + 1) (HBW3.out.trans (HB4.out.mono HBW3.out.size)) (by omega) (.slice p8 n8' c8') (.slice a8 n8 c8) (.slice a2 n2 c2) (.int .i64 S.st) (.int .i64 S.la) (.int .i64 0) (.string ⟨#[]⟩)
                  exact bodyPost_ret (results_cell_row rfl _ _ (w.heap.size + 1 + 1) _ _ _ _ rfl (put7 HRX.out _ _ _ _ _ _ _) Tryz.underlying42 rfl (by kernel_rfl)) rfl ⟨_, rfl, ⟨_, _, rfl, HPV4.out.other (fun h k e => put7_other (HPV4.out.neGot HRX.out h k e) _ _ _ _ _ _ _), Prs_other HPP4.out (fun h k e => put7_other (Prs_neGot HPP4.out HRX.out h k e) _ _ _ _ _ _ _), HFR.out⟩, hB7⟩
                · rw [h63] at HAM63
                  have HX63 := Lib.hid HAM63
                  have H63 := Lib.hid h63
                  clear HAM63 h63
                  by_cases hf0 : f.len = 0
                  · have hfb : ((f.len : Int) == 0) = true := by simp [hf0]
                    have hfl : (f.len == 0) = true := by simp [hf0]
                    have HFL := Lib.hid hfl
                    clear hf0 hfl
                    go_wp2_with fail
                    refine (HX61.out _).mono ?_
                    rintro e w4 ⟨rfl, rfl⟩
                    go_wp2_with fail
                    refine (HX63.out _).mono ?_
                    rintro e w4 ⟨rfl, rfl⟩
                    go_wp2_with fail
                    rw [unset_cat, paramG_after HIE.out (by rw [HU.out, H43.out]), ← HG.out, afterP_unset H61.out H63.out, HFL.out]
                    have hB7 := set7_below (w0 := w) (w := w3) (g := w.heap.size + 1 + 1) HBW3.out (by omega) (.slice none 0 0) (.slice a8 n8 c8) (.slice a2 n2 c2) (.int .i64 S.st) (.int .i64 S.la) (.int .i64 1) (.string (unsetT t notSet))
                    exact bodyPost_ret (results_cell_row rfl _ _ (w.heap.size + 1 + 1) _ _ _ _ rfl (put7 HRx.out _ _ _ _ _ _ _) Tryz.underlying42 rfl (by kernel_rfl)) rfl ⟨_, rfl, ⟨_, _, rfl, ⟨_, _, rfl, .inl rfl, fun _ => rfl⟩, Prs_other HPP3.out (fun h k e => put7_other (Prs_neGot HPP3.out HRx.out h k e) _ _ _ _ _ _ _), HFR.out⟩, hB7⟩
                  · have hfb : ((f.len : Int) == 0) = false := by simp [hf0]
                    have hfl : (f.len == 0) = false := by simp [hf0]
                    have HFL := Lib.hid hfl
                    clear hf0 hfl
                    go_wp2_with fail
                    refine (HX61.out _).mono ?_
                    rintro e w4 ⟨rfl, rfl⟩
                    go_wp2_with fail
                    refine (HX63.out _).mono ?_
                    rintro e w4 ⟨rfl, rfl⟩
                    go_wp2_with fail
                    rw [unset_cat, paramG_after HIE.out (by rw [HU.out, H43.out]), ← HG.out, afterP_unset H61.out H63.out, HFL.out]
                    have hB7 := set7_below (w0 := w) (w := w3) (g := w.heap.size + 1 + 1) HBW3.out (by omega) (.slice none 0 0) (.slice a8 n8 c8) (.slice a2 n2 c2) (.int .i64 S.st) (.int .i64 S.la) (.int .i64 1) (.string (unsetT t (tx (joinS L))))
                    exact bodyPost_ret (results_cell_row rfl _ _ (w.heap.size + 1 + 1) _ _ _ _ rfl (put7 HRx.out _ _ _ _ _ _ _) Tryz.underlying42 rfl (by kernel_rfl)) rfl ⟨_, rfl, ⟨_, _, rfl, ⟨_, _, rfl, .inl rfl, fun _ => rfl⟩, Prs_other HPP3.out (fun h k e => put7_other (Prs_neGot HPP3.out HRx.out h k e) _ _ _ _ _ _ _), HFR.out⟩, hB7⟩
              · rw [h61] at HAM61
                have HX61 := Lib.hid HAM61
                have H61 := Lib.hid h61
                clear HAM61 h61
                go_wp2_with fail
                refine (HX61.out _).mono ?_
                rintro e w4 ⟨rfl, rfl⟩
                go_wp2_with fail
                refine RN.begins (fun w' => w'.heap[w.heap.size + 1]? = some (.cells #[.int .i64 k, .bool qq, .string t, .string o, .slice a f.len c] 52 (0, 0)) ∧ w'.heap[w2.heap.size]? = some (.cells #[.slice p7 L.length c7, .slice a8 n8 c8, .slice a2 n2 c2, .int .i64 S.st, .int .i64 S.la, .int .i64 0, .string ⟨#[]⟩] 42 (0, 0))) [] (by kernel_rfl) ?_
                have hS := And.intro (show w3.drew.heap[w.heap.size + 1]? = _ from HPx.out) (show w3.drew.heap[w2.heap.size]? = _ from HGx.out)
                have hn2 : w.heap.size + 1 + 1 < w2.heap.size := (Array.getElem?_eq_some_iff.1 HR2.out).1
                have HOK := Lib.hid hok
                have HRZ := Lib.hid (show w3.drew.heap[w.heap.size + 1 + 1]? = _ from HRx.out)
                have HB4 := Lib.hid (Fld.drewn (Below.refl w3.heap.size w3))
                have HPP4 := Lib.hid (HPP3.out.stay HB4.out)
                generalize w3.drew = V0 at hS HRZ HB4 HPP4 ⊢
                refine RN.take (i := 0) (v := ?_) rfl (by decide) (by kernel_rfl) (by kernel_rfl) (by kernel_rfl) (by kernel_rfl) (by kernel_rfl) (by first | exact fun _ _ _ h => h | exact fun _ _ _ h => (by cases h.1) | exact fun _ _ _ h => door_put (by decide) h) (.inl ⟨by rfl, ?_⟩) hS ?_
                rotate_left 1
                · (intro wq hq; have s4 : wq.cell? ⟨w.heap.size + 1, 0, none⟩ = some (.int .i64 k) := Lib.cell_of_heap hq.1 0; have s5 : wq.cell? ⟨w.heap.size + 1, 1, none⟩ = some (.bool qq) := Lib.cell_of_heap hq.1 1; have s6 : wq.cell? ⟨w.heap.size + 1, 2, none⟩ = some (.string t) := Lib.cell_of_heap hq.1 2; have s7 : wq.cell? ⟨w.heap.size + 1, 3, none⟩ = some (.string o) := Lib.cell_of_heap hq.1 3; have s8 : wq.cell? ⟨w.heap.size + 1, 4, none⟩ = some (.slice a f.len c) := Lib.cell_of_heap hq.1 4; have t0 : wq.cell? ⟨w2.heap.size, 0, none⟩ = some (.slice p7 L.length c7) := Lib.cell_of_heap hq.2 0; have t1 : wq.cell? ⟨w2.heap.size, 1, none⟩ = some (.slice a8 n8 c8) := Lib.cell_of_heap hq.2 1; have t2 : wq.cell? ⟨w2.heap.size, 2, none⟩ = some (.slice a2 n2 c2) := Lib.cell_of_heap hq.2 2; have t3 : wq.cell? ⟨w2.heap.size, 3, none⟩ = some (.int .i64 S.st) := Lib.cell_of_heap hq.2 3; have t4 : wq.cell? ⟨w2.heap.size, 4, none⟩ = some (.int .i64 S.la) := Lib.cell_of_heap hq.2 4; have t5 : wq.cell? ⟨w2.heap.size, 5, none⟩ = some (.int .i64 0) := Lib.cell_of_heap hq.2 5; have t6 : wq.cell? ⟨w2.heap.size, 6, none⟩ = some (.string ⟨#[]⟩) := Lib.cell_of_heap hq.2 6; go_simp; try with_reducible rfl)
                refine RN.take (i := 1) (v := ?_) rfl (by decide) (by kernel_rfl) (by kernel_rfl) (by kernel_rfl) (by kernel_rfl) (by kernel_rfl) (by first | exact fun _ _ _ h => h | exact fun _ _ _ h => (by cases h.1) | exact fun _ _ _ h => door_put (by decide) h) (.inl ⟨by rfl, ?_⟩) hS ?_
                rotate_left 1
                · (intro wq hq; have s4 : wq.cell? ⟨w.heap.size + 1, 0, none⟩ = some (.int .i64 k) := Lib.cell_of_heap hq.1 0; have s5 : wq.cell? ⟨w.heap.size + 1, 1, none⟩ = some (.bool qq) := Lib.cell_of_heap hq.1 1; have s6 : wq.cell? ⟨w.heap.size + 1, 2, none⟩ = some (.string t) := Lib.cell_of_heap hq.1 2; have s7 : wq.cell? ⟨w.heap.size + 1, 3, none⟩ = some (.string o) := Lib.cell_of_heap hq.1 3; have s8 : wq.cell? ⟨w.heap.size + 1, 4, none⟩ = some (.slice a f.len c) := Lib.cell_of_heap hq.1 4; have t0 : wq.cell? ⟨w2.heap.size, 0, none⟩ = some (.slice p7 L.length c7) := Lib.cell_of_heap hq.2 0; have t1 : wq.cell? ⟨w2.heap.size, 1, none⟩ = some (.slice a8 n8 c8) := Lib.cell_of_heap hq.2 1; have t2 : wq.cell? ⟨w2.heap.size, 2, none⟩ = some (.slice a2 n2 c2) := Lib.cell_of_heap hq.2 2; have t3 : wq.cell? ⟨w2.heap.size, 3, none⟩ = some (.int .i64 S.st) := Lib.cell_of_heap hq.2 3; have t4 : wq.cell? ⟨w2.heap.size, 4, none⟩ = some (.int .i64 S.la) := Lib.cell_of_heap hq.2 4; have t5 : wq.cell? ⟨w2.heap.size, 5, none⟩ = some (.int .i64 0) := Lib.cell_of_heap hq.2 5; have t6 : wq.cell? ⟨w2.heap.size, 6, none⟩ = some (.string ⟨#[]⟩) := Lib.cell_of_heap hq.2 6; go_simp; try with_reducible rfl)
                refine RN.take (i := 2) (v := ?_) rfl (by decide) (by kernel_rfl) (by kernel_rfl) (by kernel_rfl) (by kernel_rfl) (by kernel_rfl) (by first | exact fun _ _ _ h => h | exact fun _ _ _ h => (by cases h.1) | exact fun _ _ _ h => door_put (by decide) h) (.inl ⟨by rfl, ?_⟩) hS ?_
                rotate_left 1
                · (intro wq hq; have s4 : wq.cell? ⟨w.heap.size + 1, 0, none⟩ = some (.int .i64 k) := Lib.cell_of_heap hq.1 0; have s5 : wq.cell? ⟨w.heap.size + 1, 1, none⟩ = some (.bool qq) := Lib.cell_of_heap hq.1 1; have s6 : wq.cell? ⟨w.heap.size + 1, 2, none⟩ = some (.string t) := Lib.cell_of_heap hq.1 2; have s7 : wq.cell? ⟨w.heap.size + 1, 3, none⟩ = some (.string o) := Lib.cell_of_heap hq.1 3; have s8 : wq.cell? ⟨w.heap.size + 1, 4, none⟩ = some (.slice a f.len c) := Lib.cell_of_heap hq.1 4; have t0 : wq.cell? ⟨w2.heap.size, 0, none⟩ = some (.slice p7 L.length c7) := Lib.cell_of_heap hq.2 0; have t1 : wq.cell? ⟨w2.heap.size, 1, none⟩ = some (.slice a8 n8 c8) := Lib.cell_of_heap hq.2 1; have t2 : wq.cell? ⟨w2.heap.size, 2, none⟩ = some (.slice a2 n2 c2) := Lib.cell_of_heap hq.2 2; have t3 : wq.cell? ⟨w2.heap.size, 3, none⟩ = some (.int .i64 S.st) := Lib.cell_of_heap hq.2 3; have t4 : wq.cell? ⟨w2.heap.size, 4, none⟩ = some (.int .i64 S.la) := Lib.cell_of_heap hq.2 4; have t5 : wq.cell? ⟨w2.heap.size, 5, none⟩ = some (.int .i64 0) := Lib.cell_of_heap hq.2 5; have t6 : wq.cell? ⟨w2.heap.size, 6, none⟩ = some (.string ⟨#[]⟩) := Lib.cell_of_heap hq.2 6; go_simp; try with_reducible rfl)
                refine RN.take (i := 3) (v := ?_) rfl (by decide) (by kernel_rfl) (by kernel_rfl) (by kernel_rfl) (by kernel_rfl) (by kernel_rfl) (by first | exact fun _ _ _ h => h | exact fun _ _ _ h => (by cases h.1) | exact fun _ _ _ h => door_put (by decide) h) (.inl ⟨by rfl, ?_⟩) hS ?_
                rotate_left 1
                · (intro wq hq; have s4 : wq.cell? ⟨w.heap.size + 1, 0, none⟩ = some (.int .i64 k) := Lib.cell_of_heap hq.1 0; have s5 : wq.cell? ⟨w.heap.size + 1, 1, none⟩ = some (.bool qq) := Lib.cell_of_heap hq.1 1; have s6 : wq.cell? ⟨w.heap.size + 1, 2, none⟩ = some (.string t) := Lib.cell_of_heap hq.1 2; have s7 : wq.cell? ⟨w.heap.size + 1, 3, none⟩ = some (.string o) := Lib.cell_of_heap hq.1 3; have s8 : wq.cell? ⟨w.heap.size + 1, 4, none⟩ = some (.slice a f.len c) := Lib.cell_of_heap hq.1 4; have t0 : wq.cell? ⟨w2.heap.size, 0, none⟩ = some (.slice p7 L.length c7) := Lib.cell_of_heap hq.2 0; have t1 : wq.cell? ⟨w2.heap.size, 1, none⟩ = some (.slice a8 n8 c8) := Lib.cell_of_heap hq.2 1; have t2 : wq.cell? ⟨w2.heap.size, 2, none⟩ = some (.slice a2 n2 c2) := Lib.cell_of_heap hq.2 2; have t3 : wq.cell? ⟨w2.heap.size, 3, none⟩ = some (.int .i64 S.st) := Lib.cell_of_heap hq.2 3; have t4 : wq.cell? ⟨w2.heap.size, 4, none⟩ = some (.int .i64 S.la) := Lib.cell_of_heap hq.2 4; have t5 : wq.cell? ⟨w2.heap.size, 5, none⟩ = some (.int .i64 0) := Lib.cell_of_heap hq.2 5; have t6 : wq.cell? ⟨w2.heap.size, 6, none⟩ = some (.string ⟨#[]⟩) := Lib.cell_of_heap hq.2 6; go_simp; try with_reducible rfl)
                refine RN.take (i := 5) (v := ?_) rfl (by decide) (by kernel_rfl) (by kernel_rfl) (by kernel_rfl) (by kernel_rfl) (by kernel_rfl) (by first | exact fun _ _ _ h => h | exact fun _ _ _ h => (by cases h.1) | exact fun _ _ _ h => door_put (by decide) h) (.inl ⟨by rfl, ?_⟩) hS ?_
                rotate_left 1
                · (intro wq hq; have s4 : wq.cell? ⟨w.heap.size + 1, 0, none⟩ = some (.int .i64 k) := Lib.cell_of_heap hq.1 0; have s5 : wq.cell? ⟨w.heap.size + 1, 1, none⟩ = some (.bool qq) := Lib.cell_of_heap hq.1 1; have s6 : wq.cell? ⟨w.heap.size + 1, 2, none⟩ = some (.string t) := Lib.cell_of_heap hq.1 2; have s7 : wq.cell? ⟨w.heap.size + 1, 3, none⟩ = some (.string o) := Lib.cell_of_heap hq.1 3; have s8 : wq.cell? ⟨w.heap.size + 1, 4, none⟩ = some (.slice a f.len c) := Lib.cell_of_heap hq.1 4; have t0 : wq.cell? ⟨w2.heap.size, 0, none⟩ = some (.slice p7 L.length c7) := Lib.cell_of_heap hq.2 0; have t1 : wq.cell? ⟨w2.heap.size, 1, none⟩ = some (.slice a8 n8 c8) := Lib.cell_of_heap hq.2 1; have t2 : wq.cell? ⟨w2.heap.size, 2, none⟩ = some (.slice a2 n2 c2) := Lib.cell_of_heap hq.2 2; have t3 : wq.cell? ⟨w2.heap.size, 3, none⟩ = some (.int .i64 S.st) := Lib.cell_of_heap hq.2 3; have t4 : wq.cell? ⟨w2.heap.size, 4, none⟩ = some (.int .i64 S.la) := Lib.cell_of_heap hq.2 4; have t5 : wq.cell? ⟨w2.heap.size, 5, none⟩ = some (.int .i64 0) := Lib.cell_of_heap hq.2 5; have t6 : wq.cell? ⟨w2.heap.size, 6, none⟩ = some (.string ⟨#[]⟩) := Lib.cell_of_heap hq.2 6; go_simp; try with_reducible rfl)
                refine RN.take (i := 6) (v := ?_) rfl (by decide) (by kernel_rfl) (by kernel_rfl) (by kernel_rfl) (by kernel_rfl) (by kernel_rfl) (by first | exact fun _ _ _ h => h | exact fun _ _ _ h => (by cases h.1) | exact fun _ _ _ h => door_put (by decide) h) (.inl ⟨by rfl, ?_⟩) hS ?_
                rotate_left 1
                · (intro wq hq; have s4 : wq.cell? ⟨w.heap.size + 1, 0, none⟩ = some (.int .i64 k) := Lib.cell_of_heap hq.1 0; have s5 : wq.cell? ⟨w.heap.size + 1, 1, none⟩ = some (.bool qq) := Lib.cell_of_heap hq.1 1; have s6 : wq.cell? ⟨w.heap.size + 1, 2, none⟩ = some (.string t) := Lib.cell_of_heap hq.1 2; have s7 : wq.cell? ⟨w.heap.size + 1, 3, none⟩ = some (.string o) := Lib.cell_of_heap hq.1 3; have s8 : wq.cell? ⟨w.heap.size + 1, 4, none⟩ = some (.slice a f.len c) := Lib.cell_of_heap hq.1 4; have t0 : wq.cell? ⟨w2.heap.size, 0, none⟩ = some (.slice p7 L.length c7) := Lib.cell_of_heap hq.2 0; have t1 : wq.cell? ⟨w2.heap.size, 1, none⟩ = some (.slice a8 n8 c8) := Lib.cell_of_heap hq.2 1; have t2 : wq.cell? ⟨w2.heap.size, 2, none⟩ = some (.slice a2 n2 c2) := Lib.cell_of_heap hq.2 2; have t3 : wq.cell? ⟨w2.heap.size, 3, none⟩ = some (.int .i64 S.st) := Lib.cell_of_heap hq.2 3; have t4 : wq.cell? ⟨w2.heap.size, 4, none⟩ = some (.int .i64 S.la) := Lib.cell_of_heap hq.2 4; have t5 : wq.cell? ⟨w2.heap.size, 5, none⟩ = some (.int .i64 0) := Lib.cell_of_heap hq.2 5; have t6 : wq.cell? ⟨w2.heap.size, 6, none⟩ = some (.string ⟨#[]⟩) := Lib.cell_of_heap hq.2 6; go_simp; try with_reducible rfl)
                refine RN.take (i := 7) (v := ?_) rfl (by decide) (by kernel_rfl) (by kernel_rfl) (by kernel_rfl) (by kernel_rfl) (by kernel_rfl) (by first | exact fun _ _ _ h => h | exact fun _ _ _ h => (by cases h.1) | exact fun _ _ _ h => door_put (by decide) h) (.inl ⟨by rfl, ?_⟩) hS ?_
                rotate_left 1
                · (intro wq hq; have s4 : wq.cell? ⟨w.heap.size + 1, 0, none⟩ = some (.int .i64 k) := Lib.cell_of_heap hq.1 0; have s5 : wq.cell? ⟨w.heap.size + 1, 1, none⟩ = some (.bool qq) := Lib.cell_of_heap hq.1 1; have s6 : wq.cell? ⟨w.heap.size + 1, 2, none⟩ = some (.string t) := Lib.cell_of_heap hq.1 2; have s7 : wq.cell? ⟨w.heap.size + 1, 3, none⟩ = some (.string o) := Lib.cell_of_heap hq.1 3; have s8 : wq.cell? ⟨w.heap.size + 1, 4, none⟩ = some (.slice a f.len c) := Lib.cell_of_heap hq.1 4; have t0 : wq.cell? ⟨w2.heap.size, 0, none⟩ = some (.slice p7 L.length c7) := Lib.cell_of_heap hq.2 0; have t1 : wq.cell? ⟨w2.heap.size, 1, none⟩ = some (.slice a8 n8 c8) := Lib.cell_of_heap hq.2 1; have t2 : wq.cell? ⟨w2.heap.size, 2, none⟩ = some (.slice a2 n2 c2) := Lib.cell_of_heap hq.2 2; have t3 : wq.cell? ⟨w2.heap.size, 3, none⟩ = some (.int .i64 S.st) := Lib.cell_of_heap hq.2 3; have t4 : wq.cell? ⟨w2.heap.size, 4, none⟩ = some (.int .i64 S.la) := Lib.cell_of_heap hq.2 4; have t5 : wq.cell? ⟨w2.heap.size, 5, none⟩ = some (.int .i64 0) := Lib.cell_of_heap hq.2 5; have t6 : wq.cell? ⟨w2.heap.size, 6, none⟩ = some (.string ⟨#[]⟩) := Lib.cell_of_heap hq.2 6; go_simp; try with_reducible rfl)
                refine RN.take (i := 8) (v := ?_) rfl (by decide) (by kernel_rfl) (by kernel_rfl) (by kernel_rfl) (by kernel_rfl) (by kernel_rfl) (by first | exact fun _ _ _ h => h | exact fun _ _ _ h => (by cases h.1) | exact fun _ _ _ h => door_put (by decide) h) (.inl ⟨by rfl, ?_⟩) hS ?_
                rotate_left 1
                · (intro wq hq; have s4 : wq.cell? ⟨w.heap.size + 1, 0, none⟩ = some (.int .i64 k) := Lib.cell_of_heap hq.1 0; have s5 : wq.cell? ⟨w.heap.size + 1, 1, none⟩ = some (.bool qq) := Lib.cell_of_heap hq.1 1; have s6 : wq.cell? ⟨w.heap.size + 1, 2, none⟩ = some (.string t) := Lib.cell_of_heap hq.1 2; have s7 : wq.cell? ⟨w.heap.size + 1, 3, none⟩ = some (.string o) := Lib.cell_of_heap hq.1 3; have s8 : wq.cell? ⟨w.heap.size + 1, 4, none⟩ = some (.slice a f.len c) := Lib.cell_of_heap hq.1 4; have t0 : wq.cell? ⟨w2.heap.size, 0, none⟩ = some (.slice p7 L.length c7) := Lib.cell_of_heap hq.2 0; have t1 : wq.cell? ⟨w2.heap.size, 1, none⟩ = some (.slice a8 n8 c8) := Lib.cell_of_heap hq.2 1; have t2 : wq.cell? ⟨w2.heap.size, 2, none⟩ = some (.slice a2 n2 c2) := Lib.cell_of_heap hq.2 2; have t3 : wq.cell? ⟨w2.heap.size, 3, none⟩ = some (.int .i64 S.st) := Lib.cell_of_heap hq.2 3; have t4 : wq.cell? ⟨w2.heap.size, 4, none⟩ = some (.int .i64 S.la) := Lib.cell_of_heap hq.2 4; have t5 : wq.cell? ⟨w2.heap.size, 5, none⟩ = some (.int .i64 0) := Lib.cell_of_heap hq.2 5; have t6 : wq.cell? ⟨w2.heap.size, 6, none⟩ = some (.string ⟨#[]⟩) := Lib.cell_of_heap hq.2 6; go_simp; try with_reducible rfl)
                refine RN.take (i := 9) (v := ?_) rfl (by decide) (by kernel_rfl) (by kernel_rfl) (by kernel_rfl) (by kernel_rfl) (by kernel_rfl) (by first | exact fun _ _ _ h => h | exact fun _ _ _ h => (by cases h.1) | exact fun _ _ _ h => door_put (by decide) h) (.inl ⟨by rfl, ?_⟩) hS ?_
                rotate_left 1
                · (intro wq hq; have s4 : wq.cell? ⟨w.heap.size + 1, 0, none⟩ = some (.int .i64 k) := Lib.cell_of_heap hq.1 0; have s5 : wq.cell? ⟨w.heap.size + 1, 1, none⟩ = some (.bool qq) := Lib.cell_of_heap hq.1 1; have s6 : wq.cell? ⟨w.heap.size + 1, 2, none⟩ = some (.string t) := Lib.cell_of_heap hq.1 2; have s7 : wq.cell? ⟨w.heap.size + 1, 3, none⟩ = some (.string o) := Lib.cell_of_heap hq.1 3; have s8 : wq.cell? ⟨w.heap.size + 1, 4, none⟩ = some (.slice a f.len c) := Lib.cell_of_heap hq.1 4; have t0 : wq.cell? ⟨w2.heap.size, 0, none⟩ = some (.slice p7 L.length c7) := Lib.cell_of_heap hq.2 0; have t1 : wq.cell? ⟨w2.heap.size, 1, none⟩ = some (.slice a8 n8 c8) := Lib.cell_of_heap hq.2 1; have t2 : wq.cell? ⟨w2.heap.size, 2, none⟩ = some (.slice a2 n2 c2) := Lib.cell_of_heap hq.2 2; have t3 : wq.cell? ⟨w2.heap.size, 3, none⟩ = some (.int .i64 S.st) := Lib.cell_of_heap hq.2 3; have t4 : wq.cell? ⟨w2.heap.size, 4, none⟩ = some (.int .i64 S.la) := Lib.cell_of_heap hq.2 4; have t5 : wq.cell? ⟨w2.heap.size, 5, none⟩ = some (.int .i64 0) := Lib.cell_of_heap hq.2 5; have t6 : wq.cell? ⟨w2.heap.size, 6, none⟩ = some (.string ⟨#[]⟩) := Lib.cell_of_heap hq.2 6; go_simp; try with_reducible rfl)
                refine RN.all (rs := [4, 10]) (by kernel_rfl) (by simp) ?_
                refine RN.All.cons rfl (fun K hK => ?_) (RN.All.cons rfl (fun K hK => ?_) RN.All.nil)
                · go_simp
                  have hb := Fld.below_alloc V0 (.cells #[.string (tx (joinS L)), .bool qq, .bool false] 69)
                  have hS1 := And.intro (bel_block hb hS.1) (bel_block hb hS.2)
                  have HPC5 := Lib.hid (Fld.one_piece V0 (tx (joinS L)) qq false)
                  have HRY := Lib.hid (bel_block hb HRZ.out)
                  have HB' := Lib.hid (HB4.out.trans (hb.mono HB4.out.size))
                  have HPQ := Lib.hid (HPP4.out.stay hb)
                  refine hK _ _ (fun _ => hS1) ?_
                  clear hK K hb hS HB4 HRZ HPP4
                  have hS := hS1
                  have HB4 := HB'
                  have HRZ := HRY
                  have HPP4 := HPQ
                  clear hS1 HB' HRY HPQ
                  generalize V0.alloc (.cells #[.string (tx (joinS L)), .bool qq, .bool false] 69) = V1 at hS HB4 HRZ HPP4 HPC5 ⊢
                  generalize V0.heap.size = pb at HPC5 ⊢
                  refine RN.all (rs := [10]) (by kernel_rfl) (by simp) ?_
                  refine RN.All.cons rfl (fun K hK => ?_) RN.All.nil
                  go_simp
                  refine (rset_any S t (tx (joinS L)) (.slice a8 n8 c8) (.slice a2 n2 c2) V1 HPP4.out ⟨_, _, _, rfl⟩ (by have := HOK.out.nvs; omega) (by omega)).mono ?_
                  rintro e V2 ⟨hb, a5, n5, c5, hp5, hfr5, rfl⟩
                  have HFR5 := Lib.hid (fun (hs : (setE S t (tx (joinS L))).vs ≠ []) (k : Nat) (e : (Value.slice a5 n5 c5).ownBlock = some k) => (hfr5 hs k e).elim (fun x => HFR.out x.1 k x.2) fun h => Or.inr (Nat.le_trans (Nat.le_trans HBW3.out.size HB4.out.size) h))
                  clear hfr5
                  have hS1 := And.intro (bel_block hb hS.1) (bel_block hb hS.2)
                  have HRY := Lib.hid (bel_block hb HRZ.out)
                  have HB' := Lib.hid (HB4.out.trans (hb.mono HB4.out.size))
                  have HPQ := Lib.hid hp5
                  have HPC6 := Lib.hid (HPC5.out.below hb)
                  refine hK _ _ (fun _ => hS1) ?_
                  clear hK K hb hS hp5 HB4 HRZ HPP4 HPC5
                  have hS := hS1
                  have HB4 := HB'
                  have HRZ := HRY
                  have HPP4 := HPQ
                  have HPC5 := HPC6
                  clear HPC6
                  clear hS1 HB' HRY HPQ
                  refine RN.take (i := 11) (v := ?_) rfl (by decide) (by kernel_rfl) (by kernel_rfl) (by kernel_rfl) (by kernel_rfl) (by kernel_rfl) (by first | exact fun _ _ _ h => h | exact fun _ _ _ h => (by cases h.1) | exact fun _ _ _ h => door_put (by decide) h) (.inl ⟨by rfl, ?_⟩) hS ?_
                  rotate_left 1
                  · (intro wq hq; skip; go_simp; try with_reducible rfl)
                  refine RN.all (rs := [12]) (by kernel_rfl) (by simp) ?_
                  refine RN.All.cons rfl (fun K hK => ?_) RN.All.nil
                  have HRX := HRZ
                  have y0 : V2.cell? ⟨w.heap.size + 1 + 1, 0, none⟩ = some (.slice none 0 0) := Lib.cell_of_heap HRX.out 0
                  have z0 : V2.frozen? ⟨w.heap.size + 1 + 1, 0, none⟩ = false := frozen_of_row _ _ _ _ _ HRX.out
                  have y1 : V2.cell? ⟨w.heap.size + 1 + 1, 1, none⟩ = some (.slice none 0 0) := Lib.cell_of_heap HRX.out 1
                  have z1 : V2.frozen? ⟨w.heap.size + 1 + 1, 1, none⟩ = false := frozen_of_row _ _ _ _ _ HRX.out
                  have y2 : V2.cell? ⟨w.heap.size + 1 + 1, 2, none⟩ = some (.slice none 0 0) := Lib.cell_of_heap HRX.out 2
                  have z2 : V2.frozen? ⟨w.heap.size + 1 + 1, 2, none⟩ = false := frozen_of_row _ _ _ _ _ HRX.out
                  have y3 : V2.cell? ⟨w.heap.size + 1 + 1, 3, none⟩ = some (.int .i64 0) := Lib.cell_of_heap HRX.out 3
                  have z3 : V2.frozen? ⟨w.heap.size + 1 + 1, 3, none⟩ = false := frozen_of_row _ _ _ _ _ HRX.out
                  have y4 : V2.cell? ⟨w.heap.size + 1 + 1, 4, none⟩ = some (.int .i64 0) := Lib.cell_of_heap HRX.out 4
                  have z4 : V2.frozen? ⟨w.heap.size + 1 + 1, 4, none⟩ = false := frozen_of_row _ _ _ _ _ HRX.out
                  have y5 : V2.cell? ⟨w.heap.size + 1 + 1, 5, none⟩ = some (.int .i64 0) := Lib.cell_of_heap HRX.out 5
                  have z5 : V2.frozen? ⟨w.heap.size + 1 + 1, 5, none⟩ = false := frozen_of_row _ _ _ _ _ HRX.out
                  have y6 : V2.cell? ⟨w.heap.size + 1 + 1, 6, none⟩ = some (.string ⟨#[]⟩) := Lib.cell_of_heap HRX.out 6
                  have z6 : V2.frozen? ⟨w.heap.size + 1 + 1, 6, none⟩ = false := frozen_of_row _ _ _ _ _ HRX.out
                  go_simp
                  refine hK _ _ (fun _ => ⟨(put7_other (by omega) _ _ _ _ _ _ _).trans hS.1, (put7_other (by omega) _ _ _ _ _ _ _).trans hS.2⟩) ?_
                  clear hK K y0 z0 y1 z1 y2 z2 y3 z3 y4 z4 y5 z5 y6 z6
                  refine RN.done (by kernel_rfl) ?_ _
                  go_wp2_with fail
                  rw [paramG_after HIE.out (by rw [HU.out, H43.out]), ← HG.out, afterP_set H61.out]
                  have HPV5 := Lib.hid (show Pv V2 (.slice (some ⟨pb, 0, none⟩) 1 1) [(tx (joinS L), qq, false)] from ⟨_, _, rfl, HPC5.out, fun h => by cases h⟩)
                  have hstS : (setE S t (tx (joinS L))).st = S.st := by unfold setE; split <;> rfl
                  have hlaS : (setE S t (tx (joinS L))).la = S.la := by unfold setE; split <;> rfl
                  have hB7 := set7_below (w0 := w) (w := V2) (g := w.heap.size + 1 + 1) (HBW3.out.trans (HB4.out.mono HBW3.out.size)) (by omega) (.slice (some ⟨pb, 0, none⟩) 1 1) (.slice a5 n5 c5) (.slice a2 n2 c2) (.int .i64 S.st) (.int .i64 S.la) (.int .i64 0) (.string ⟨#[]⟩)
                  refine bodyPost_ret (results_cell_row rfl _ _ (w.heap.size + 1 + 1) _ _ _ _ rfl (put7 HRX.out _ _ _ _ _ _ _) Tryz.underlying42 rfl (by kernel_rfl)) rfl ⟨_, rfl, ⟨_, _, ?_, HPV5.out.other (fun h k e => put7_other (HPV5.out.neGot HRX.out h k e) _ _ _ _ _ _ _), Prs_other HPP4.out (fun h k e => put7_other (Prs_neGot HPP4.out HRX.out h k e) _ _ _ _ _ _ _), HFR5.out⟩, hB7⟩
                  rw [hstS, hlaS]
                  rfl
                · go_simp
                  refine (rset_any S t (tx (joinS L)) (.slice a8 n8 c8) (.slice a2 n2 c2) V0 HPP4.out ⟨_, _, _, rfl⟩ (by have := HOK.out.nvs; omega) (by omega)).mono ?_
                  rintro e V1 ⟨hb, a5, n5, c5, hp5, hfr5, rfl⟩
                  have HFR5 := Lib.hid (fun (hs : (setE S t (tx (joinS L))).vs ≠ []) (k : Nat) (e : (Value.slice a5 n5 c5).ownBlock = some k) => (hfr5 hs k e).elim (fun x => HFR.out x.1 k x.2) fun h => Or.inr (Nat.le_trans (Nat.le_trans HBW3.out.size HB4.out.size) h))
                  clear hfr5
                  have hS1 := And.intro (bel_block hb hS.1) (bel_block hb hS.2)
                  have HRY := Lib.hid (bel_block hb HRZ.out)
                  have HB' := Lib.hid (HB4.out.trans (hb.mono HB4.out.size))
                  have HPQ := Lib.hid hp5
                  refine hK _ _ (fun _ => hS1) ?_
                  clear hK K hb hS hp5 HB4 HRZ HPP4
                  have hS := hS1
                  have HB4 := HB'
                  have HRZ := HRY
                  have HPP4 := HPQ
                  clear hS1 HB' HRY HPQ
                  refine RN.all (rs := [4]) (by kernel_rfl) (by simp) ?_
                  refine RN.All.cons rfl (fun K hK => ?_) RN.All.nil
                  go_simp
                  have hb := Fld.below_alloc V1 (.cells #[.string (tx (joinS L)), .bool qq, .bool false] 69)
                  have hS1 := And.intro (bel_block hb hS.1) (bel_block hb hS.2)
                  have HPC5 := Lib.hid (Fld.one_piece V1 (tx (joinS L)) qq false)
                  have HRY := Lib.hid (bel_block hb HRZ.out)
                  have HB' := Lib.hid (HB4.out.trans (hb.mono HB4.out.size))
                  have HPQ := Lib.hid (HPP4.out.stay hb)
                  refine hK _ _ (fun _ => hS1) ?_
                  clear hK K hb hS HB4 HRZ HPP4
                  have hS := hS1
                  have HB4 := HB'
                  have HRZ := HRY
                  have HPP4 := HPQ
                  clear hS1 HB' HRY HPQ
                  generalize V1.alloc (.cells #[.string (tx (joinS L)), .bool qq, .bool false] 69) = V2 at hS HB4 HRZ HPP4 HPC5 ⊢
                  generalize V1.heap.size = pb at HPC5 ⊢
                  refine RN.take (i := 11) (v := ?_) rfl (by decide) (by kernel_rfl) (by kernel_rfl) (by kernel_rfl) (by kernel_rfl) (by kernel_rfl) (by first | exact fun _ _ _ h => h | exact fun _ _ _ h => (by cases h.1) | exact fun _ _ _ h => door_put (by decide) h) (.inl ⟨by rfl, ?_⟩) hS ?_
                  rotate_left 1
                  · (intro wq hq; skip; go_simp; try with_reducible rfl)
                  refine RN.all (rs := [12]) (by kernel_rfl) (by simp) ?_
                  refine RN.All.cons rfl (fun K hK => ?_) RN.All.nil
                  have HRX := HRZ
                  have y0 : V2.cell? ⟨w.heap.size + 1 + 1, 0, none⟩ = some (.slice none 0 0) := Lib.cell_of_heap HRX.out 0
                  have z0 : V2.frozen? ⟨w.heap.size + 1 + 1, 0, none⟩ = false := frozen_of_row _ _ _ _ _ HRX.out
                  have y1 : V2.cell? ⟨w.heap.size + 1 + 1, 1, none⟩ = some (.slice none 0 0) := Lib.cell_of_heap HRX.out 1
                  have z1 : V2.frozen? ⟨w.heap.size + 1 + 1, 1, none⟩ = false := frozen_of_row _ _ _ _ _ HRX.out
                  have y2 : V2.cell? ⟨w.heap.size + 1 + 1, 2, none⟩ = some (.slice none 0 0) := Lib.cell_of_heap HRX.out 2
                  have z2 : V2.frozen? ⟨w.heap.size + 1 + 1, 2, none⟩ = false := frozen_of_row _ _ _ _ _ HRX.out
                  have y3 : V2.cell? ⟨w.heap.size + 1 + 1, 3, none⟩ = some (.int .i64 0) := Lib.cell_of_heap HRX.out 3
                  have z3 : V2.frozen? ⟨w.heap.size + 1 + 1, 3, none⟩ = false := frozen_of_row _ _ _ _ _ HRX.out
                  have y4 : V2.cell? ⟨w.heap.size + 1 + 1, 4, none⟩ = some (.int .i64 0) := Lib.cell_of_heap HRX.out 4
                  have z4 : V2.frozen? ⟨w.heap.size + 1 + 1, 4, none⟩ = false := frozen_of_row _ _ _ _ _ HRX.out
                  have y5 : V2.cell? ⟨w.heap.size + 1 + 1, 5, none⟩ = some (.int .i64 0) := Lib.cell_of_heap HRX.out 5
                  have z5 : V2.frozen? ⟨w.heap.size + 1 + 1, 5, none⟩ = false := frozen_of_row _ _ _ _ _ HRX.out
                  have y6 : V2.cell? ⟨w.heap.size + 1 + 1, 6, none⟩ = some (.string ⟨#[]⟩) := Lib.cell_of_heap HRX.out 6
                  have z6 : V2.frozen? ⟨w.heap.size + 1 + 1, 6, none⟩ = false := frozen_of_row _ _ _ _ _ HRX.out
                  go_simp
                  refine hK _ _ (fun _ => ⟨(put7_other (by omega) _ _ _ _ _ _ _).trans hS.1, (put7_other (by omega) _ _ _ _ _ _ _).trans hS.2⟩) ?_
                  clear hK K y0 z0 y1 z1 y2 z2 y3 z3 y4 z4 y5 z5 y6 z6
                  refine RN.done (by kernel_rfl) ?_ _
                  go_wp2_with fail
                  rw [paramG_after HIE.out (by rw [HU.out, H43.out]), ← HG.out, afterP_set H61.out]
                  have HPV5 := Lib.hid (show Pv V2 (.slice (some ⟨pb, 0, none⟩) 1 1) [(tx (joinS L), qq, false)] from ⟨_, _, rfl, HPC5.out, fun h => by cases h⟩)
                  have hstS : (setE S t (tx (joinS L))).st = S.st := by unfold setE; split <;> rfl
                  have hlaS : (setE S t (tx (joinS L))).la = S.la := by unfold setE; split <;> rfl
                  have hB7 := set7_below (w0 := w) (w := V2) (g := w.heap.size + 1 + 1) (HBW3.out.trans (HB4.out.mono HBW3.out.size)) (by omega) (.slice (some ⟨pb, 0, none⟩) 1 1) (.slice a5 n5 c5) (.slice a2 n2 c2) (.int .i64 S.st) (.int .i64 S.la) (.int .i64 0) (.string ⟨#[]⟩)
                  refine bodyPost_ret (results_cell_row rfl _ _ (w.heap.size + 1 + 1) _ _ _ _ rfl (put7 HRX.out _ _ _ _ _ _ _) Tryz.underlying42 rfl (by kernel_rfl)) rfl ⟨_, rfl, ⟨_, _, ?_, HPV5.out.other (fun h k e => put7_other (HPV5.out.neGot HRX.out h k e) _ _ _ _ _ _ _), Prs_other HPP4.out (fun h k e => put7_other (Prs_neGot HPP4.out HRX.out h k e) _ _ _ _ _ _ _), HFR5.out⟩, hB7⟩
                  rw [hstS, hlaS]
                  rfl
            · have HK := Lib.hid hk
              have HPVg := Lib.hid (show Pv (w2.alloc (.cells #[.slice p7 L.length c7, .slice a8 n8 c8, .slice a2 n2 c2, .int .i64 S.st, .int .i64 S.la, .int .i64 k1, .string t1] 42)) (.slice p7 L.length c7) L from ⟨_, _, rfl, HPCg.out, HNIL.out⟩)
              have HPPg := Lib.hid (HPP.out.stay HBg.out)
              have y0 : (w2.alloc (.cells #[.slice p7 L.length c7, .slice a8 n8 c8, .slice a2 n2 c2, .int .i64 S.st, .int .i64 S.la, .int .i64 k1, .string t1] 42)).cell? ⟨w.heap.size + 1 + 1, 0, none⟩ = some (.slice none 0 0) := Lib.cell_of_heap HRg.out 0
              have z0 : (w2.alloc (.cells #[.slice p7 L.length c7, .slice a8 n8 c8, .slice a2 n2 c2, .int .i64 S.st, .int .i64 S.la, .int .i64 k1, .string t1] 42)).frozen? ⟨w.heap.size + 1 + 1, 0, none⟩ = false := frozen_of_row _ _ _ _ _ HRg.out
              have y1 : (w2.alloc (.cells #[.slice p7 L.length c7, .slice a8 n8 c8, .slice a2 n2 c2, .int .i64 S.st, .int .i64 S.la, .int .i64 k1, .string t1] 42)).cell? ⟨w.heap.size + 1 + 1, 1, none⟩ = some (.slice none 0 0) := Lib.cell_of_heap HRg.out 1
              have z1 : (w2.alloc (.cells #[.slice p7 L.length c7, .slice a8 n8 c8, .slice a2 n2 c2, .int .i64 S.st, .int .i64 S.la, .int .i64 k1, .string t1] 42)).frozen? ⟨w.heap.size + 1 + 1, 1, none⟩ = false := frozen_of_row _ _ _ _ _ HRg.out
              have y2 : (w2.alloc (.cells #[.slice p7 L.length c7, .slice a8 n8 c8, .slice a2 n2 c2, .int .i64 S.st, .int .i64 S.la, .int .i64 k1, .string t1] 42)).cell? ⟨w.heap.size + 1 + 1, 2, none⟩ = some (.slice none 0 0) := Lib.cell_of_heap HRg.out 2
              have z2 : (w2.alloc (.cells #[.slice p7 L.length c7, .slice a8 n8 c8, .slice a2 n2 c2, .int .i64 S.st, .int .i64 S.la, .int .i64 k1, .string t1] 42)).frozen? ⟨w.heap.size + 1 + 1, 2, none⟩ = false := frozen_of_row _ _ _ _ _ HRg.out
              have y3 : (w2.alloc (.cells #[.slice p7 L.length c7, .slice a8 n8 c8, .slice a2 n2 c2, .int .i64 S.st, .int .i64 S.la, .int .i64 k1, .string t1] 42)).cell? ⟨w.heap.size + 1 + 1, 3, none⟩ = some (.int .i64 0) := Lib.cell_of_heap HRg.out 3
              have z3 : (w2.alloc (.cells #[.slice p7 L.length c7, .slice a8 n8 c8, .slice a2 n2 c2, .int .i64 S.st, .int .i64 S.la, .int .i64 k1, .string t1] 42)).frozen? ⟨w.heap.size + 1 + 1, 3, none⟩ = false := frozen_of_row _ _ _ _ _ HRg.out
              have y4 : (w2.alloc (.cells #[.slice p7 L.length c7, .slice a8 n8 c8, .slice a2 n2 c2, .int .i64 S.st, .int .i64 S.la, .int .i64 k1, .string t1] 42)).cell? ⟨w.heap.size + 1 + 1, 4, none⟩ = some (.int .i64 0) := Lib.cell_of_heap HRg.out 4
              have z4 : (w2.alloc (.cells #[.slice p7 L.length c7, .slice a8 n8 c8, .slice a2 n2 c2, .int .i64 S.st, .int .i64 S.la, .int .i64 k1, .string t1] 42)).frozen? ⟨w.heap.size + 1 + 1, 4, none⟩ = false := frozen_of_row _ _ _ _ _ HRg.out
              have y5 : (w2.alloc (.cells #[.slice p7 L.length c7, .slice a8 n8 c8, .slice a2 n2 c2, .int .i64 S.st, .int .i64 S.la, .int .i64 k1, .string t1] 42)).cell? ⟨w.heap.size + 1 + 1, 5, none⟩ = some (.int .i64 0) := Lib.cell_of_heap HRg.out 5
              have z5 : (w2.alloc (.cells #[.slice p7 L.length c7, .slice a8 n8 c8, .slice a2 n2 c2, .int .i64 S.st, .int .i64 S.la, .int .i64 k1, .string t1] 42)).frozen? ⟨w.heap.size + 1 + 1, 5, none⟩ = false := frozen_of_row _ _ _ _ _ HRg.out
              have y6 : (w2.alloc (.cells #[.slice p7 L.length c7, .slice a8 n8 c8, .slice a2 n2 c2, .int .i64 S.st, .int .i64 S.la, .int .i64 k1, .string t1] 42)).cell? ⟨w.heap.size + 1 + 1, 6, none⟩ = some (.string ⟨#[]⟩) := Lib.cell_of_heap HRg.out 6
              have z6 : (w2.alloc (.cells #[.slice p7 L.length c7, .slice a8 n8 c8, .slice a2 n2 c2, .int .i64 S.st, .int .i64 S.la, .int .i64 k1, .string t1] 42)).frozen? ⟨w.heap.size + 1 + 1, 6, none⟩ = false := frozen_of_row _ _ _ _ _ HRg.out
              go_wp2_with fail
              rw [paramG_after HIE.out (by rw [HU.out, H43.out]), ← HG.out, afterP_fault HK.out]
              have hB7 := set7_below (w0 := w) (w := (w2.alloc (.cells #[.slice p7 L.length c7, .slice a8 n8 c8, .slice a2 n2 c2, .int .i64 S.st, .int .i64 S.la, .int .i64 k1, .string t1] 42))) (g := w.heap.size + 1 + 1) HBWg.out (by omega) (.slice p7 L.length c7) (.slice a8 n8 c8) (.slice a2 n2 c2) (.int .i64 S.st) (.int .i64 S.la) (.int .i64 k1) (.string t1)
              exact bodyPost_ret (results_cell_row rfl _ _ (w.heap.size + 1 + 1) _ _ _ _ rfl (put7 HRg.out _ _ _ _ _ _ _) Tryz.underlying42 rfl (by kernel_rfl)) rfl ⟨_, rfl, ⟨_, _, rfl, HPVg.out.other (fun h k e => put7_other (HPVg.out.neGot HRg.out h k e) _ _ _ _ _ _ _), Prs_other HPPg.out (fun h k e => put7_other (Prs_neGot HPPg.out HRg.out h k e) _ _ _ _ _ _ _), HFR.out⟩, hB7⟩
        · rw [h43] at HAM43
          have HX43 := Lib.hid HAM43
          clear HAM43
          have H43 := Lib.hid h43
          clear h43
          cases u with
          | true =>
            go_wp2_with (go_at_call 51; refine (HX43.out _).mono ?_; rintro e w3 ⟨rfl, rfl⟩)
            refine (H.out wc m s _ _ (HBW0.out.trans ((HB0.out.trans (HBV.out.mono HB0.out.size)).mono HBW0.out.size)) (HE.out.stay HBV.out) hm).mono ?_
            rintro e w2 ⟨v2, rfl, hg2, hb2⟩
            have hz := ex_zero f s []
            have hwt := weight_ex f s hs
            have hjl := ex_join f s [] (by simp [joinS])
            have hok := ex_ok f s [] m HEW.out.ok hf
            obtain ⟨g, hg⟩ : ∃ g, g = ex f s [] := ⟨_, rfl⟩
            rw [← hg] at hg2 hz hwt hjl hok
            have HG := Lib.hid hg
            clear hg
            obtain ⟨L, S, k1, t1⟩ := g
            obtain ⟨lv, vv2, rfl, hpl, hpv, hfr⟩ := hg2
            obtain ⟨p7, n7, c7, rfl⟩ := hpl.shape
            obtain ⟨a8, n8, c8, rfl⟩ := hpv.shape
            simp only at hpl hpv hz hwt hjl hok
            have HFR := Lib.hid (fun (h : S.vs ≠ []) (k : Nat) (e : (Value.slice a8 n8 c8).ownBlock = some k) => (hfr h k e).imp id (Nat.le_trans (HB0.out.trans (HBV.out.mono HB0.out.size)).size))
            clear hfr
            have HPL := Lib.hid hpl; have HPP := Lib.hid hpv
            have HB2 := Lib.hid hb2
            have HR2 := Lib.hid (bel_block hb2 HRV.out)
            have HP2 := Lib.hid (bel_block hb2 HSV.out.2)
            clear hpl hpv hb2
            obtain ⟨p8, d8, hsl, hpc, hnil⟩ := HPL.out
            injection hsl with hs1 hs2 hs3
            subst hs1; subst hs2; subst hs3
            have HPC := Lib.hid hpc; have HNIL := Lib.hid hnil
            clear hpc hnil
            have hBg := Fld.below_alloc w2 (.cells #[.slice p7 L.length c7, .slice a8 n8 c8, .slice a2 n2 c2, .int .i64 S.st, .int .i64 S.la, .int .i64 k1, .string t1] 42)
            have HBg := Lib.hid hBg
            have HRg := Lib.hid (bel_block hBg HR2.out)
            have HPg := Lib.hid (bel_block hBg HP2.out)
            have HGg := Lib.hid (heap_alloc_new w2 (.cells #[.slice p7 L.length c7, .slice a8 n8 c8, .slice a2 n2 c2, .int .i64 S.st, .int .i64 S.la, .int .i64 k1, .string t1] 42))
            have HPCg := Lib.hid (HPC.out.below hBg)
            have HBW := Lib.hid ((HB0.out.trans (HBV.out.mono HB0.out.size)).trans (HB2.out.mono (HB0.out.trans (HBV.out.mono HB0.out.size)).size))
            have HBWg := Lib.hid (HBW.out.trans (hBg.mono HBW.out.size))
            clear hBg
            by_cases hk : k1 = 0
            · subst hk
              obtain rfl : t1 = ⟨#[]⟩ := hz rfl
              clear hz
              go_wp2_with fail
              refine (Fld.rjoin_wide p7 c7 L _ HPCg.out (by omega)).mono ?_
              rintro e w3 ⟨rfl, hb3⟩
              have HB3 := Lib.hid hb3
              have HRx := Lib.hid (bel_block hb3 HRg.out)
              have HPx := Lib.hid (bel_block hb3 HPg.out)
              have HGx := Lib.hid (bel_block hb3 HGg.out)
              clear hb3
              have y0 : w3.cell? ⟨w.heap.size + 1 + 1, 0, none⟩ = some (.slice none 0 0) := Lib.cell_of_heap HRx.out 0
              have z0 : w3.frozen? ⟨w.heap.size + 1 + 1, 0, none⟩ = false := frozen_of_row _ _ _ _ _ HRx.out
              have y1 : w3.cell? ⟨w.heap.size + 1 + 1, 1, none⟩ = some (.slice none 0 0) := Lib.cell_of_heap HRx.out 1
              have z1 : w3.frozen? ⟨w.heap.size + 1 + 1, 1, none⟩ = false := frozen_of_row _ _ _ _ _ HRx.out
              have y2 : w3.cell? ⟨w.heap.size + 1 + 1, 2, none⟩ = some (.slice none 0 0) := Lib.cell_of_heap HRx.out 2
              have z2 : w3.frozen? ⟨w.heap.size + 1 + 1, 2, none⟩ = false := frozen_of_row _ _ _ _ _ HRx.out
              have y3 : w3.cell? ⟨w.heap.size + 1 + 1, 3, none⟩ = some (.int .i64 0) := Lib.cell_of_heap HRx.out 3
              have z3 : w3.frozen? ⟨w.heap.size + 1 + 1, 3, none⟩ = false := frozen_of_row _ _ _ _ _ HRx.out
              have y4 : w3.cell? ⟨w.heap.size + 1 + 1, 4, none⟩ = some (.int .i64 0) := Lib.cell_of_heap HRx.out 4
              have z4 : w3.frozen? ⟨w.heap.size + 1 + 1, 4, none⟩ = false := frozen_of_row _ _ _ _ _ HRx.out
              have y5 : w3.cell? ⟨w.heap.size + 1 + 1, 5, none⟩ = some (.int .i64 0) := Lib.cell_of_heap HRx.out 5
              have z5 : w3.frozen? ⟨w.heap.size + 1 + 1, 5, none⟩ = false := frozen_of_row _ _ _ _ _ HRx.out
              have y6 : w3.cell? ⟨w.heap.size + 1 + 1, 6, none⟩ = some (.string ⟨#[]⟩) := Lib.cell_of_heap HRx.out 6
              have z6 : w3.frozen? ⟨w.heap.size + 1 + 1, 6, none⟩ = false := frozen_of_row _ _ _ _ _ HRx.out
              have v0 : w3.cell? ⟨w2.heap.size, 0, none⟩ = some (.slice p7 L.length c7) := Lib.cell_of_heap HGx.out 0
              have v1 : w3.cell? ⟨w2.heap.size, 1, none⟩ = some (.slice a8 n8 c8) := Lib.cell_of_heap HGx.out 1
              have v2 : w3.cell? ⟨w2.heap.size, 2, none⟩ = some (.slice a2 n2 c2) := Lib.cell_of_heap HGx.out 2
              have v3 : w3.cell? ⟨w2.heap.size, 3, none⟩ = some (.int .i64 S.st) := Lib.cell_of_heap HGx.out 3
              have v4 : w3.cell? ⟨w2.heap.size, 4, none⟩ = some (.int .i64 S.la) := Lib.cell_of_heap HGx.out 4
              have v5 : w3.cell? ⟨w2.heap.size, 5, none⟩ = some (.int .i64 0) := Lib.cell_of_heap HGx.out 5
              have v6 : w3.cell? ⟨w2.heap.size, 6, none⟩ = some (.string ⟨#[]⟩) := Lib.cell_of_heap HGx.out 6
              have x0 : w3.cell? ⟨w.heap.size + 1, 0, none⟩ = some (.int .i64 k) := Lib.cell_of_heap HPx.out 0
              have x1 : w3.cell? ⟨w.heap.size + 1, 1, none⟩ = some (.bool qq) := Lib.cell_of_heap HPx.out 1
              have x2 : w3.cell? ⟨w.heap.size + 1, 2, none⟩ = some (.string t) := Lib.cell_of_heap HPx.out 2
              have x3 : w3.cell? ⟨w.heap.size + 1, 3, none⟩ = some (.string o) := Lib.cell_of_heap HPx.out 3
              have x4 : w3.cell? ⟨w.heap.size + 1, 4, none⟩ = some (.slice a f.len c) := Lib.cell_of_heap HPx.out 4
              have HPV3 := Lib.hid (show Pv w3 (.slice p7 L.length c7) L from ⟨_, _, rfl, HPCg.out.below HB3.out, HNIL.out⟩)
              have HPP3 := Lib.hid (HPP.out.stay (HBg.out.trans (HB3.out.mono HBg.out.size)))
              have HBW3 := Lib.hid (HBWg.out.trans (HB3.out.mono HBWg.out.size))
              have hJs : (tx (joinS L)).size ≤ 65536 := by rw [Fld.tx_size]; exact hjl
              have HAM61 := HAM.out 61
              cases h61 : hasC o 61
              · rw [h61] at HAM61
                have HX61 := Lib.hid HAM61
                have H61 := Lib.hid h61
                clear HAM61 h61
                have HAM63 := HAM.out 63
                cases h63 : hasC o 63
                · rw [h63] at HAM63
                  have HX63 := Lib.hid HAM63
                  have H63 := Lib.hid h63
                  clear HAM63 h63
                  go_wp2_with fail
                  refine (HX61.out _).mono ?_
                  rintro e w4 ⟨rfl, rfl⟩
                  go_wp2_with fail
                  refine (HX63.out _).mono ?_
                  rintro e w4 ⟨rfl, rfl⟩
                  go_wp2_with fail
                  refine RN.begins (fun w' => w'.heap[w.heap.size + 1]? = some (.cells #[.int .i64 k, .bool qq, .string t, .string o, .slice a f.len c] 52 (0, 0)) ∧ w'.heap[w2.heap.size]? = some (.cells #[.slice p7 L.length c7, .slice a8 n8 c8, .slice a2 n2 c2, .int .i64 S.st, .int .i64 S.la, .int .i64 0, .string ⟨#[]⟩] 42 (0, 0))) [] (by kernel_rfl) ?_
                  have hS := And.intro (show w3.drew.heap[w.heap.size + 1]? = _ from HPx.out) (show w3.drew.heap[w2.heap.size]? = _ from HGx.out)
                  have hn2 : w.heap.size + 1 + 1 < w2.heap.size := (Array.getElem?_eq_some_iff.1 HR2.out).1
                  refine RN.take (i := 0) (v := ?_) rfl (by decide) (by kernel_rfl) (by kernel_rfl) (by kernel_rfl) (by kernel_rfl) (by kernel_rfl) (by first | exact fun _ _ _ h => h | exact fun _ _ _ h => (by cases h.1) | exact fun _ _ _ h => door_put (by decide) h) (.inl ⟨by rfl, ?_⟩) hS ?_
                  rotate_left 1
                  · (intro wq hq; have s4 : wq.cell? ⟨w.heap.size + 1, 0, none⟩ = some (.int .i64 k) := Lib.cell_of_heap hq.1 0; have s5 : wq.cell? ⟨w.heap.size + 1, 1, none⟩ = some (.bool qq) := Lib.cell_of_heap hq.1 1; have s6 : wq.cell? ⟨w.heap.size + 1, 2, none⟩ = some (.string t) := Lib.cell_of_heap hq.1 2; have s7 : wq.cell? ⟨w.heap.size + 1, 3, none⟩ = some (.string o) := Lib.cell_of_heap hq.1 3; have s8 : wq.cell? ⟨w.heap.size + 1, 4, none⟩ = some (.slice a f.len c) := Lib.cell_of_heap hq.1 4; have t0 : wq.cell? ⟨w2.heap.size, 0, none⟩ = some (.slice p7 L.length c7) := Lib.cell_of_heap hq.2 0; have t1 : wq.cell? ⟨w2.heap.size, 1, none⟩ = some (.slice a8 n8 c8) := Lib.cell_of_heap hq.2 1; have t2 : wq.cell? ⟨w2.heap.size, 2, none⟩ = some (.slice a2 n2 c2) := Lib.cell_of_heap hq.2 2; have t3 : wq.cell? ⟨w2.heap.size, 3, none⟩ = some (.int .i64 S.st) := Lib.cell_of_heap hq.2 3; have t4 : wq.cell? ⟨w2.heap.size, 4, none⟩ = some (.int .i64 S.la) := Lib.cell_of_heap hq.2 4; have t5 : wq.cell? ⟨w2.heap.size, 5, none⟩ = some (.int .i64 0) := Lib.cell_of_heap hq.2 5; have t6 : wq.cell? ⟨w2.heap.size, 6, none⟩ = some (.string ⟨#[]⟩) := Lib.cell_of_heap hq.2 6; go_simp; try with_reducible rfl)
                  refine RN.take (i := 1) (v := ?_) rfl (by decide) (by kernel_rfl) (by kernel_rfl) (by kernel_rfl) (by kernel_rfl) (by kernel_rfl) (by first | exact fun _ _ _ h => h | exact fun _ _ _ h => (by cases h.1) | exact fun _ _ _ h => door_put (by decide) h) (.inl ⟨by rfl, ?_⟩) hS ?_
                  rotate_left 1
                  · (intro wq hq; have s4 : wq.cell? ⟨w.heap.size + 1, 0, none⟩ = some (.int .i64 k) := Lib.cell_of_heap hq.1 0; have s5 : wq.cell? ⟨w.heap.size + 1, 1, none⟩ = some (.bool qq) := Lib.cell_of_heap hq.1 1; have s6 : wq.cell? ⟨w.heap.size + 1, 2, none⟩ = some (.string t) := Lib.cell_of_heap hq.1 2; have s7 : wq.cell? ⟨w.heap.size + 1, 3, none⟩ = some (.string o) := Lib.cell_of_heap hq.1 3; have s8 : wq.cell? ⟨w.heap.size + 1, 4, none⟩ = some (.slice a f.len c) := Lib.cell_of_heap hq.1 4; have t0 : wq.cell? ⟨w2.heap.size, 0, none⟩ = some (.slice p7 L.length c7) := Lib.cell_of_heap hq.2 0; have t1 : wq.cell? ⟨w2.heap.size, 1, none⟩ = some (.slice a8 n8 c8) := Lib.cell_of_heap hq.2 1; have t2 : wq.cell? ⟨w2.heap.size, 2, none⟩ = some (.slice a2 n2 c2) := Lib.cell_of_heap hq.2 2; have t3 : wq.cell? ⟨w2.heap.size, 3, none⟩ = some (.int .i64 S.st) := Lib.cell_of_heap hq.2 3; have t4 : wq.cell? ⟨w2.heap.size, 4, none⟩ = some (.int .i64 S.la) := Lib.cell_of_heap hq.2 4; have t5 : wq.cell? ⟨w2.heap.size, 5, none⟩ = some (.int .i64 0) := Lib.cell_of_heap hq.2 5; have t6 : wq.cell? ⟨w2.heap.size, 6, none⟩ = some (.string ⟨#[]⟩) := Lib.cell_of_heap hq.2 6; go_simp; try with_reducible rfl)
                  refine RN.take (i := 2) (v := ?_) rfl (by decide) (by kernel_rfl) (by kernel_rfl) (by kernel_rfl) (by kernel_rfl) (by kernel_rfl) (by first | exact fun _ _ _ h => h | exact fun _ _ _ h => (by cases h.1) | exact fun _ _ _ h => door_put (by decide) h) (.inl ⟨by rfl, ?_⟩) hS ?_
                  rotate_left 1
                  · (intro wq hq; have s4 : wq.cell? ⟨w.heap.size + 1, 0, none⟩ = some (.int .i64 k) := Lib.cell_of_heap hq.1 0; have s5 : wq.cell? ⟨w.heap.size + 1, 1, none⟩ = some (.bool qq) := Lib.cell_of_heap hq.1 1; have s6 : wq.cell? ⟨w.heap.size + 1, 2, none⟩ = some (.string t) := Lib.cell_of_heap hq.1 2; have s7 : wq.cell? ⟨w.heap.size + 1, 3, none⟩ = some (.string o) := Lib.cell_of_heap hq.1 3; have s8 : wq.cell? ⟨w.heap.size + 1, 4, none⟩ = some (.slice a f.len c) := Lib.cell_of_heap hq.1 4; have t0 : wq.cell? ⟨w2.heap.size, 0, none⟩ = some (.slice p7 L.length c7) := Lib.cell_of_heap hq.2 0; have t1 : wq.cell? ⟨w2.heap.size, 1, none⟩ = some (.slice a8 n8 c8) := Lib.cell_of_heap hq.2 1; have t2 : wq.cell? ⟨w2.heap.size, 2, none⟩ = some (.slice a2 n2 c2) := Lib.cell_of_heap hq.2 2; have t3 : wq.cell? ⟨w2.heap.size, 3, none⟩ = some (.int .i64 S.st) := Lib.cell_of_heap hq.2 3; have t4 : wq.cell? ⟨w2.heap.size, 4, none⟩ = some (.int .i64 S.la) := Lib.cell_of_heap hq.2 4; have t5 : wq.cell? ⟨w2.heap.size, 5, none⟩ = some (.int .i64 0) := Lib.cell_of_heap hq.2 5; have t6 : wq.cell? ⟨w2.heap.size, 6, none⟩ = some (.string ⟨#[]⟩) := Lib.cell_of_heap hq.2 6; go_simp; try with_reducible rfl)
                  refine RN.take (i := 3) (v := ?_) rfl (by decide) (by kernel_rfl) (by kernel_rfl) (by kernel_rfl) (by kernel_rfl) (by kernel_rfl) (by first | exact fun _ _ _ h => h | exact fun _ _ _ h => (by cases h.1) | exact fun _ _ _ h => door_put (by decide) h) (.inl ⟨by rfl, ?_⟩) hS ?_
                  rotate_left 1
                  · (intro wq hq; have s4 : wq.cell? ⟨w.heap.size + 1, 0, none⟩ = some (.int .i64 k) := Lib.cell_of_heap hq.1 0; have s5 : wq.cell? ⟨w.heap.size + 1, 1, none⟩ = some (.bool qq) := Lib.cell_of_heap hq.1 1; have s6 : wq.cell? ⟨w.heap.size + 1, 2, none⟩ = some (.string t) := Lib.cell_of_heap hq.1 2; have s7 : wq.cell? ⟨w.heap.size + 1, 3, none⟩ = some (.string o) := Lib.cell_of_heap hq.1 3; have s8 : wq.cell? ⟨w.heap.size + 1, 4, none⟩ = some (.slice a f.len c) := Lib.cell_of_heap hq.1 4; have t0 : wq.cell? ⟨w2.heap.size, 0, none⟩ = some (.slice p7 L.length c7) := Lib.cell_of_heap hq.2 0; have t1 : wq.cell? ⟨w2.heap.size, 1, none⟩ = some (.slice a8 n8 c8) := Lib.cell_of_heap hq.2 1; have t2 : wq.cell? ⟨w2.heap.size, 2, none⟩ = some (.slice a2 n2 c2) := Lib.cell_of_heap hq.2 2; have t3 : wq.cell? ⟨w2.heap.size, 3, none⟩ = some (.int .i64 S.st) := Lib.cell_of_heap hq.2 3; have t4 : wq.cell? ⟨w2.heap.size, 4, none⟩ = some (.int .i64 S.la) := Lib.cell_of_heap hq.2 4; have t5 : wq.cell? ⟨w2.heap.size, 5, none⟩ = some (.int .i64 0) := Lib.cell_of_heap hq.2 5; have t6 : wq.cell? ⟨w2.heap.size, 6, none⟩ = some (.string ⟨#[]⟩) := Lib.cell_of_heap hq.2 6; go_simp; try with_reducible rfl)
                  refine RN.take (i := 5) (v := ?_) rfl (by decide) (by kernel_rfl) (by kernel_rfl) (by kernel_rfl) (by kernel_rfl) (by kernel_rfl) (by first | exact fun _ _ _ h => h | exact fun _ _ _ h => (by cases h.1) | exact fun _ _ _ h => door_put (by decide) h) (.inl ⟨by rfl, ?_⟩) hS ?_
                  rotate_left 1
                  · (intro wq hq; have s4 : wq.cell? ⟨w.heap.size + 1, 0, none⟩ = some (.int .i64 k) := Lib.cell_of_heap hq.1 0; have s5 : wq.cell? ⟨w.heap.size + 1, 1, none⟩ = some (.bool qq) := Lib.cell_of_heap hq.1 1; have s6 : wq.cell? ⟨w.heap.size + 1, 2, none⟩ = some (.string t) := Lib.cell_of_heap hq.1 2; have s7 : wq.cell? ⟨w.heap.size + 1, 3, none⟩ = some (.string o) := Lib.cell_of_heap hq.1 3; have s8 : wq.cell? ⟨w.heap.size + 1, 4, none⟩ = some (.slice a f.len c) := Lib.cell_of_heap hq.1 4; have t0 : wq.cell? ⟨w2.heap.size, 0, none⟩ = some (.slice p7 L.length c7) := Lib.cell_of_heap hq.2 0; have t1 : wq.cell? ⟨w2.heap.size, 1, none⟩ = some (.slice a8 n8 c8) := Lib.cell_of_heap hq.2 1; have t2 : wq.cell? ⟨w2.heap.size, 2, none⟩ = some (.slice a2 n2 c2) := Lib.cell_of_heap hq.2 2; have t3 : wq.cell? ⟨w2.heap.size, 3, none⟩ = some (.int .i64 S.st) := Lib.cell_of_heap hq.2 3; have t4 : wq.cell? ⟨w2.heap.size, 4, none⟩ = some (.int .i64 S.la) := Lib.cell_of_heap hq.2 4; have t5 : wq.cell? ⟨w2.heap.size, 5, none⟩ = some (.int .i64 0) := Lib.cell_of_heap hq.2 5; have t6 : wq.cell? ⟨w2.heap.size, 6, none⟩ = some (.string ⟨#[]⟩) := Lib.cell_of_heap hq.2 6; go_simp; try with_reducible rfl)
                  refine RN.take (i := 6) (v := ?_) rfl (by decide) (by kernel_rfl) (by kernel_rfl) (by kernel_rfl) (by kernel_rfl) (by kernel_rfl) (by first | exact fun _ _ _ h => h | exact fun _ _ _ h => (by cases h.1) | exact fun _ _ _ h => door_put (by decide) h) (.inl ⟨by rfl, ?_⟩) hS ?_
                  rotate_left 1
                  · (intro wq hq; have s4 : wq.cell? ⟨w.heap.size + 1, 0, none⟩ = some (.int .i64 k) := Lib.cell_of_heap hq.1 0; have s5 : wq.cell? ⟨w.heap.size + 1, 1, none⟩ = some (.bool qq) := Lib.cell_of_heap hq.1 1; have s6 : wq.cell? ⟨w.heap.size + 1, 2, none⟩ = some (.string t) := Lib.cell_of_heap hq.1 2; have s7 : wq.cell? ⟨w.heap.size + 1, 3, none⟩ = some (.string o) := Lib.cell_of_heap hq.1 3; have s8 : wq.cell? ⟨w.heap.size + 1, 4, none⟩ = some (.slice a f.len c) := Lib.cell_of_heap hq.1 4; have t0 : wq.cell? ⟨w2.heap.size, 0, none⟩ = some (.slice p7 L.length c7) := Lib.cell_of_heap hq.2 0; have t1 : wq.cell? ⟨w2.heap.size, 1, none⟩ = some (.slice a8 n8 c8) := Lib.cell_of_heap hq.2 1; have t2 : wq.cell? ⟨w2.heap.size, 2, none⟩ = some (.slice a2 n2 c2) := Lib.cell_of_heap hq.2 2; have t3 : wq.cell? ⟨w2.heap.size, 3, none⟩ = some (.int .i64 S.st) := Lib.cell_of_heap hq.2 3; have t4 : wq.cell? ⟨w2.heap.size, 4, none⟩ = some (.int .i64 S.la) := Lib.cell_of_heap hq.2 4; have t5 : wq.cell? ⟨w2.heap.size, 5, none⟩ = some (.int .i64 0) := Lib.cell_of_heap hq.2 5; have t6 : wq.cell? ⟨w2.heap.size, 6, none⟩ = some (.string ⟨#[]⟩) := Lib.cell_of_heap hq.2 6; go_simp; try with_reducible rfl)
                  refine RN.all (rs := [4]) (by kernel_rfl) (by simp) ?_
                  refine RN.All.cons rfl (fun K hK => ?_) RN.All.nil
                  go_simp
                  refine (HEM.out L (.slice p7 L.length c7) qq w3.drew HPV3.out).mono ?_
                  rintro e V2 ⟨lv2, rfl, hp2, hb⟩
                  have hS1 := And.intro (bel_block hb hS.1) (bel_block hb hS.2)
                  obtain ⟨p8, n8', c8', rfl⟩ := hp2.shape
                  have HPV4 := Lib.hid hp2
                  have HRX := Lib.hid (bel_block hb (show w3.drew.heap[w.heap.size + 1 + 1]? = _ from HRx.out))
                  have HB4 := Lib.hid ((Fld.drewn (Below.refl w3.heap.size w3)).trans (hb.mono (Nat.le_refl _)))
                  refine hK _ _ (fun _ => hS1) ?_
                  clear hK K hb hp2 hS
                  have hS := hS1
                  clear hS1
                  refine RN.take (i := 7) (v := ?_) rfl (by decide) (by kernel_rfl) (by kernel_rfl) (by kernel_rfl) (by kernel_rfl) (by kernel_rfl) (by first | exact fun _ _ _ h => h | exact fun _ _ _ h => (by cases h.1) | exact fun _ _ _ h => door_put (by decide) h) (.inl ⟨by rfl, ?_⟩) hS ?_
                  rotate_left 1
                  · (intro wq hq; skip; go_simp; try with_reducible rfl)
                  refine RN.all (rs := [8]) (by kernel_rfl) (by simp) ?_
                  refine RN.All.cons rfl (fun K hK => ?_) RN.All.nil
                  have y0 : V2.cell? ⟨w.heap.size + 1 + 1, 0, none⟩ = some (.slice none 0 0) := Lib.cell_of_heap HRX.out 0
                  have z0 : V2.frozen? ⟨w.heap.size + 1 + 1, 0, none⟩ = false := frozen_of_row _ _ _ _ _ HRX.out
                  have y1 : V2.cell? ⟨w.heap.size + 1 + 1, 1, none⟩ = some (.slice none 0 0) := Lib.cell_of_heap HRX.out 1
                  have z1 : V2.frozen? ⟨w.heap.size + 1 + 1, 1, none⟩ = false := frozen_of_row _ _ _ _ _ HRX.out
                  have y2 : V2.cell? ⟨w.heap.size + 1 + 1, 2, none⟩ = some (.slice none 0 0) := Lib.cell_of_heap HRX.out 2
                  have z2 : V2.frozen? ⟨w.heap.size + 1 + 1, 2, none⟩ = false := frozen_of_row _ _ _ _ _ HRX.out
                  have y3 : V2.cell? ⟨w.heap.size + 1 + 1, 3, none⟩ = some (.int .i64 0) := Lib.cell_of_heap HRX.out 3
                  have z3 : V2.frozen? ⟨w.heap.size + 1 + 1, 3, none⟩ = false := frozen_of_row _ _ _ _ _ HRX.out
                  have y4 : V2.cell? ⟨w.heap.size + 1 + 1, 4, none⟩ = some (.int .i64 0) := Lib.cell_of_heap HRX.out 4
                  have z4 : V2.frozen? ⟨w.heap.size + 1 + 1, 4, none⟩ = false := frozen_of_row _ _ _ _ _ HRX.out
                  have y5 : V2.cell? ⟨w.heap.size + 1 + 1, 5, none⟩ = some (.int .i64 0) := Lib.cell_of_heap HRX.out 5
                  have z5 : V2.frozen? ⟨w.heap.size + 1 + 1, 5, none⟩ = false := frozen_of_row _ _ _ _ _ HRX.out
                  have y6 : V2.cell? ⟨w.heap.size + 1 + 1, 6, none⟩ = some (.string ⟨#[]⟩) := Lib.cell_of_heap HRX.out 6
                  have z6 : V2.frozen? ⟨w.heap.size + 1 + 1, 6, none⟩ = false := frozen_of_row _ _ _ _ _ HRX.out
                  go_simp
                  refine hK _ _ (fun _ => ⟨(put7_other (by omega) _ _ _ _ _ _ _).trans hS.1, (put7_other (by omega) _ _ _ _ _ _ _).trans hS.2⟩) ?_
                  clear hK K y0 z0 y1 z1 y2 z2 y3 z3 y4 z4 y5 z5 y6 z6
                  refine RN.done (by kernel_rfl) ?_ _
                  go_wp2_with fail
                  rw [paramG_after HIE.out (by rw [HU.out, H43.out]), ← HG.out, afterP_else H61.out H63.out]
                  have HPP4 := Lib.hid (HPP3.out.stay HB4.out)
                  have hB7 := set7_below (w0 := w) (w := V2) (g := w.heap.size + 1 + 1) (HBW3.out.trans (HB4.out.mono HBW3.out.size)) (by omega) (.slice p8 n8' c8') (.slice a8 n8 c8) (.slice a2 n2 c2) (.int .i64 S.st) (.int .i64 S.la) (.int .i64 0) (.string ⟨#[]⟩)
                  exact bodyPost_ret (results_cell_row rfl _ _ (w.heap.size + 1 + 1) _ _ _ _ rfl (put7 HRX.out _ _ _ _ _ _ _) Tryz.underlying42 rfl (by kernel_rfl)) rfl ⟨_, rfl, ⟨_, _, rfl, HPV4.out.other (fun h k e => put7_other (HPV4.out.neGot HRX.out h k e) _ _ _ _ _ _ _), Prs_other HPP4.out (fun h k e => put7_other (Prs_neGot HPP4.out HRX.out h k e) _ _ _ _ _ _ _), HFR.out⟩, hB7⟩
                · rw [h63] at HAM63
                  have HX63 := Lib.hid HAM63
                  have H63 := Lib.hid h63
                  clear HAM63 h63
                  by_cases hf0 : f.len = 0
                  · have hfb : ((f.len : Int) == 0) = true := by simp [hf0]
                    have hfl : (f.len == 0) = true := by simp [hf0]
                    have HFL := Lib.hid hfl
                    clear hf0 hfl
                    go_wp2_with fail
                    refine (HX61.out _).mono ?_
                    rintro e w4 ⟨rfl, rfl⟩
                    go_wp2_with fail
                    refine (HX63.out _).mono ?_
                    rintro e w4 ⟨rfl, rfl⟩
                    go_wp2_with fail
                    rw [unset_cat, paramG_after HIE.out (by rw [HU.out, H43.out]), ← HG.out, afterP_unset H61.out H63.out, HFL.out]
                    have hB7 := set7_below (w0 := w) (w := w3) (g := w.heap.size + 1 + 1) HBW3.out (by omega) (.slice none 0 0) (.slice a8 n8 c8) (.slice a2 n2 c2) (.int .i64 S.st) (.int .i64 S.la) (.int .i64 1) (.string (unsetT t notSet))
                    exact bodyPost_ret (results_cell_row rfl _ _ (w.heap.size + 1 + 1) _ _ _ _ rfl (put7 HRx.out _ _ _ _ _ _ _) Tryz.underlying42 rfl (by kernel_rfl)) rfl ⟨_, rfl, ⟨_, _, rfl, ⟨_, _, rfl, .inl rfl, fun _ => rfl⟩, Prs_other HPP3.out (fun h k e => put7_other (Prs_neGot HPP3.out HRx.out h k e) _ _ _ _ _ _ _), HFR.out⟩, hB7⟩
                  · have hfb : ((f.len : Int) == 0) = false := by simp [hf0]
                    have hfl : (f.len == 0) = false := by simp [hf0]
                    have HFL := Lib.hid hfl
                    clear hf0 hfl
                    go_wp2_with fail
                    refine (HX61.out _).mono ?_
                    rintro e w4 ⟨rfl, rfl⟩
                    go_wp2_with fail
                    refine (HX63.out _).mono ?_
                    rintro e w4 ⟨rfl, rfl⟩
                    go_wp2_with fail
                    rw [unset_cat, paramG_after HIE.out (by rw [HU.out, H43.out]), ← HG.out, afterP_unset H61.out H63.out, HFL.out]
                    have hB7 := set7_below (w0 := w) (w := w3) (g := w.heap.size + 1 + 1) HBW3.out (by omega) (.slice none 0 0) (.slice a8 n8 c8) (.slice a2 n2 c2) (.int .i64 S.st) (.int .i64 S.la) (.int .i64 1) (.string (unsetT t (tx (joinS L))))
                    exact bodyPost_ret (results_cell_row rfl _ _ (w.heap.size + 1 + 1) _ _ _ _ rfl (put7 HRx.out _ _ _ _ _ _ _) Tryz.underlying42 rfl (by kernel_rfl)) rfl ⟨_, rfl, ⟨_, _, rfl, ⟨_, _, rfl, .inl rfl, fun _ => rfl⟩, Prs_other HPP3.out (fun h k e => put7_other (Prs_neGot HPP3.out HRx.out h k e) _ _ _ _ _ _ _), HFR.out⟩, hB7⟩
              · rw [h61] at HAM61
                have HX61 := Lib.hid HAM61
                have H61 := Lib.hid h61
                clear HAM61 h61
                go_wp2_with fail
                refine (HX61.out _).mono ?_
                rintro e w4 ⟨rfl, rfl⟩
                go_wp2_with fail
                refine RN.begins (fun w' => w'.heap[w.heap.size + 1]? = some (.cells #[.int .i64 k, .bool qq, .string t, .string o, .slice a f.len c] 52 (0, 0)) ∧ w'.heap[w2.heap.size]? = some (.cells #[.slice p7 L.length c7, .slice a8 n8 c8, .slice a2 n2 c2, .int .i64 S.st, .int .i64 S.la, .int .i64 0, .string ⟨#[]⟩] 42 (0, 0))) [] (by kernel_rfl) ?_
                have hS := And.intro (show w3.drew.heap[w.heap.size + 1]? = _ from HPx.out) (show w3.drew.heap[w2.heap.size]? = _ from HGx.out)
                have hn2 : w.heap.size + 1 + 1 < w2.heap.size := (Array.getElem?_eq_some_iff.1 HR2.out).1
                have HOK := Lib.hid hok
                have HRZ := Lib.hid (show w3.drew.heap[w.heap.size + 1 + 1]? = _ from HRx.out)
                have HB4 := Lib.hid (Fld.drewn (Below.refl w3.heap.size w3))
                have HPP4 := Lib.hid (HPP3.out.stay HB4.out)
                generalize w3.drew = V0 at hS HRZ HB4 HPP4 ⊢
                refine RN.take (i := 0) (v := ?_) rfl (by decide) (by kernel_rfl) (by kernel_rfl) (by kernel_rfl) (by kernel_rfl) (by kernel_rfl) (by first | exact fun _ _ _ h => h | exact fun _ _ _ h => (by cases h.1) | exact fun _ _ _ h => door_put (by decide) h) (.inl ⟨by rfl, ?_⟩) hS ?_
                rotate_left 1
                · (intro wq hq; have s4 : wq.cell? ⟨w.heap.size + 1, 0, none⟩ = some (.int .i64 k) := Lib.cell_of_heap hq.1 0; have s5 : wq.cell? ⟨w.heap.size + 1, 1, none⟩ = some (.bool qq) := Lib.cell_of_heap hq.1 1; have s6 : wq.cell? ⟨w.heap.size + 1, 2, none⟩ = some (.string t) := Lib.cell_of_heap hq.1 2; have s7 : wq.cell? ⟨w.heap.size + 1, 3, none⟩ = some (.string o) := Lib.cell_of_heap hq.1 3; have s8 : wq.cell? ⟨w.heap.size + 1, 4, none⟩ = some (.slice a f.len c) := Lib.cell_of_heap hq.1 4; have t0 : wq.cell? ⟨w2.heap.size, 0, none⟩ = some (.slice p7 L.length c7) := Lib.cell_of_heap hq.2 0; have t1 : wq.cell? ⟨w2.heap.size, 1, none⟩ = some (.slice a8 n8 c8) := Lib.cell_of_heap hq.2 1; have t2 : wq.cell? ⟨w2.heap.size, 2, none⟩ = some (.slice a2 n2 c2) := Lib.cell_of_heap hq.2 2; have t3 : wq.cell? ⟨w2.heap.size, 3, none⟩ = some (.int .i64 S.st) := Lib.cell_of_heap hq.2 3; have t4 : wq.cell? ⟨w2.heap.size, 4, none⟩ = some (.int .i64 S.la) := Lib.cell_of_heap hq.2 4; have t5 : wq.cell? ⟨w2.heap.size, 5, none⟩ = some (.int .i64 0) := Lib.cell_of_heap hq.2 5; have t6 : wq.cell? ⟨w2.heap.size, 6, none⟩ = some (.string ⟨#[]⟩) := Lib.cell_of_heap hq.2 6; go_simp; try with_reducible rfl)
                refine RN.take (i := 1) (v := ?_) rfl (by decide) (by kernel_rfl) (by kernel_rfl) (by kernel_rfl) (by kernel_rfl) (by kernel_rfl) (by first | exact fun _ _ _ h => h | exact fun _ _ _ h => (by cases h.1) | exact fun _ _ _ h => door_put (by decide) h) (.inl ⟨by rfl, ?_⟩) hS ?_
                rotate_left 1
                · (intro wq hq; have s4 : wq.cell? ⟨w.heap.size + 1, 0, none⟩ = some (.int .i64 k) := Lib.cell_of_heap hq.1 0; have s5 : wq.cell? ⟨w.heap.size + 1, 1, none⟩ = some (.bool qq) := Lib.cell_of_heap hq.1 1; have s6 : wq.cell? ⟨w.heap.size + 1, 2, none⟩ = some (.string t) := Lib.cell_of_heap hq.1 2; have s7 : wq.cell? ⟨w.heap.size + 1, 3, none⟩ = some (.string o) := Lib.cell_of_heap hq.1 3; have s8 : wq.cell? ⟨w.heap.size + 1, 4, none⟩ = some (.slice a f.len c) := Lib.cell_of_heap hq.1 4; have t0 : wq.cell? ⟨w2.heap.size, 0, none⟩ = some (.slice p7 L.length c7) := Lib.cell_of_heap hq.2 0; have t1 : wq.cell? ⟨w2.heap.size, 1, none⟩ = some (.slice a8 n8 c8) := Lib.cell_of_heap hq.2 1; have t2 : wq.cell? ⟨w2.heap.size, 2, none⟩ = some (.slice a2 n2 c2) := Lib.cell_of_heap hq.2 2; have t3 : wq.cell? ⟨w2.heap.size, 3, none⟩ = some (.int .i64 S.st) := Lib.cell_of_heap hq.2 3; have t4 : wq.cell? ⟨w2.heap.size, 4, none⟩ = some (.int .i64 S.la) := Lib.cell_of_heap hq.2 4; have t5 : wq.cell? ⟨w2.heap.size, 5, none⟩ = some (.int .i64 0) := Lib.cell_of_heap hq.2 5; have t6 : wq.cell? ⟨w2.heap.size, 6, none⟩ = some (.string ⟨#[]⟩) := Lib.cell_of_heap hq.2 6; go_simp; try with_reducible rfl)
                refine RN.take (i := 2) (v := ?_) rfl (by decide) (by kernel_rfl) (by kernel_rfl) (by kernel_rfl) (by kernel_rfl) (by kernel_rfl) (by first | exact fun _ _ _ h => h | exact fun _ _ _ h => (by cases h.1) | exact fun _ _ _ h => door_put (by decide) h) (.inl ⟨by rfl, ?_⟩) hS ?_
                rotate_left 1
                · (intro wq hq; have s4 : wq.cell? ⟨w.heap.size + 1, 0, none⟩ = some (.int .i64 k) := Lib.cell_of_heap hq.1 0; have s5 : wq.cell? ⟨w.heap.size + 1, 1, none⟩ = some (.bool qq) := Lib.cell_of_heap hq.1 1; have s6 : wq.cell? ⟨w.heap.size + 1, 2, none⟩ = some (.string t) := Lib.cell_of_heap hq.1 2; have s7 : wq.cell? ⟨w.heap.size + 1, 3, none⟩ = some (.string o) := Lib.cell_of_heap hq.1 3; have s8 : wq.cell? ⟨w.heap.size + 1, 4, none⟩ = some (.slice a f.len c) := Lib.cell_of_heap hq.1 4; have t0 : wq.cell? ⟨w2.heap.size, 0, none⟩ = some (.slice p7 L.length c7) := Lib.cell_of_heap hq.2 0; have t1 : wq.cell? ⟨w2.heap.size, 1, none⟩ = some (.slice a8 n8 c8) := Lib.cell_of_heap hq.2 1; have t2 : wq.cell? ⟨w2.heap.size, 2, none⟩ = some (.slice a2 n2 c2) := Lib.cell_of_heap hq.2 2; have t3 : wq.cell? ⟨w2.heap.size, 3, none⟩ = some (.int .i64 S.st) := Lib.cell_of_heap hq.2 3; have t4 : wq.cell? ⟨w2.heap.size, 4, none⟩ = some (.int .i64 S.la) := Lib.cell_of_heap hq.2 4; have t5 : wq.cell? ⟨w2.heap.size, 5, none⟩ = some (.int .i64 0) := Lib.cell_of_heap hq.2 5; have t6 : wq.cell? ⟨w2.heap.size, 6, none⟩ = some (.string ⟨#[]⟩) := Lib.cell_of_heap hq.2 6; go_simp; try with_reducible rfl)
                refine RN.take (i := 3) (v := ?_) rfl (by decide) (by kernel_rfl) (by kernel_rfl) (by kernel_rfl) (by kernel_rfl) (by kernel_rfl) (by first | exact fun _ _ _ h => h | exact fun _ _ _ h => (by cases h.1) | exact fun _ _ _ h => door_put (by decide) h) (.inl ⟨by rfl, ?_⟩) hS ?_
                rotate_left 1
                · (intro wq hq; have s4 : wq.cell? ⟨w.heap.size + 1, 0, none⟩ = some (.int .i64 k) := Lib.cell_of_heap hq.1 0; have s5 : wq.cell? ⟨w.heap.size + 1, 1, none⟩ = some (.bool qq) := Lib.cell_of_heap hq.1 1; have s6 : wq.cell? ⟨w.heap.size + 1, 2, none⟩ = some (.string t) := Lib.cell_of_heap hq.1 2; have s7 : wq.cell? ⟨w.heap.size + 1, 3, none⟩ = some (.string o) := Lib.cell_of_heap hq.1 3; have s8 : wq.cell? ⟨w.heap.size + 1, 4, none⟩ = some (.slice a f.len c) := Lib.cell_of_heap hq.1 4; have t0 : wq.cell? ⟨w2.heap.size, 0, none⟩ = some (.slice p7 L.length c7) := Lib.cell_of_heap hq.2 0; have t1 : wq.cell? ⟨w2.heap.size, 1, none⟩ = some (.slice a8 n8 c8) := Lib.cell_of_heap hq.2 1; have t2 : wq.cell? ⟨w2.heap.size, 2, none⟩ = some (.slice a2 n2 c2) := Lib.cell_of_heap hq.2 2; have t3 : wq.cell? ⟨w2.heap.size, 3, none⟩ = some (.int .i64 S.st) := Lib.cell_of_heap hq.2 3; have t4 : wq.cell? ⟨w2.heap.size, 4, none⟩ = some (.int .i64 S.la) := Lib.cell_of_heap hq.2 4; have t5 : wq.cell? ⟨w2.heap.size, 5, none⟩ = some (.int .i64 0) := Lib.cell_of_heap hq.2 5; have t6 : wq.cell? ⟨w2.heap.size, 6, none⟩ = some (.string ⟨#[]⟩) := Lib.cell_of_heap hq.2 6; go_simp; try with_reducible rfl)
                refine RN.take (i := 5) (v := ?_) rfl (by decide) (by kernel_rfl) (by kernel_rfl) (by kernel_rfl) (by kernel_rfl) (by kernel_rfl) (by first | exact fun _ _ _ h => h | exact fun _ _ _ h => (by cases h.1) | exact fun _ _ _ h => door_put (by decide) h) (.inl ⟨by rfl, ?_⟩) hS ?_
                rotate_left 1
                · (intro wq hq; have s4 : wq.cell? ⟨w.heap.size + 1, 0, none⟩ = some (.int .i64 k) := Lib.cell_of_heap hq.1 0; have s5 : wq.cell? ⟨w.heap.size + 1, 1, none⟩ = some (.bool qq) := Lib.cell_of_heap hq.1 1; have s6 : wq.cell? ⟨w.heap.size + 1, 2, none⟩ = some (.string t) := Lib.cell_of_heap hq.1 2; have s7 : wq.cell? ⟨w.heap.size + 1, 3, none⟩ = some (.string o) := Lib.cell_of_heap hq.1 3; have s8 : wq.cell? ⟨w.heap.size + 1, 4, none⟩ = some (.slice a f.len c) := Lib.cell_of_heap hq.1 4; have t0 : wq.cell? ⟨w2.heap.size, 0, none⟩ = some (.slice p7 L.length c7) := Lib.cell_of_heap hq.2 0; have t1 : wq.cell? ⟨w2.heap.size, 1, none⟩ = some (.slice a8 n8 c8) := Lib.cell_of_heap hq.2 1; have t2 : wq.cell? ⟨w2.heap.size, 2, none⟩ = some (.slice a2 n2 c2) := Lib.cell_of_heap hq.2 2; have t3 : wq.cell? ⟨w2.heap.size, 3, none⟩ = some (.int .i64 S.st) := Lib.cell_of_heap hq.2 3; have t4 : wq.cell? ⟨w2.heap.size, 4, none⟩ = some (.int .i64 S.la) := Lib.cell_of_heap hq.2 4; have t5 : wq.cell? ⟨w2.heap.size, 5, none⟩ = some (.int .i64 0) := Lib.cell_of_heap hq.2 5; have t6 : wq.cell? ⟨w2.heap.size, 6, none⟩ = some (.string ⟨#[]⟩) := Lib.cell_of_heap hq.2 6; go_simp; try with_reducible rfl)
                refine RN.take (i := 6) (v := ?_) rfl (by decide) (by kernel_rfl) (by kernel_rfl) (by kernel_rfl) (by kernel_rfl) (by kernel_rfl) (by first | exact fun _ _ _ h => h | exact fun _ _ _ h => (by cases h.1) | exact fun _ _ _ h => door_put (by decide) h) (.inl ⟨by rfl, ?_⟩) hS ?_
                rotate_left 1
                · (intro wq hq; have s4 : wq.cell? ⟨w.heap.size + 1, 0, none⟩ = some (.int .i64 k) := Lib.cell_of_heap hq.1 0; have s5 : wq.cell? ⟨w.heap.size + 1, 1, none⟩ = some (.bool qq) := Lib.cell_of_heap hq.1 1; have s6 : wq.cell? ⟨w.heap.size + 1, 2, none⟩ = some (.string t) := Lib.cell_of_heap hq.1 2; have s7 : wq.cell? ⟨w.heap.size + 1, 3, none⟩ = some (.string o) := Lib.cell_of_heap hq.1 3; have s8 : wq.cell? ⟨w.heap.size + 1, 4, none⟩ = some (.slice a f.len c) := Lib.cell_of_heap hq.1 4; have t0 : wq.cell? ⟨w2.heap.size, 0, none⟩ = some (.slice p7 L.length c7) := Lib.cell_of_heap hq.2 0; have t1 : wq.cell? ⟨w2.heap.size, 1, none⟩ = some (.slice a8 n8 c8) := Lib.cell_of_heap hq.2 1; have t2 : wq.cell? ⟨w2.heap.size, 2, none⟩ = some (.slice a2 n2 c2) := Lib.cell_of_heap hq.2 2; have t3 : wq.cell? ⟨w2.heap.size, 3, none⟩ = some (.int .i64 S.st) := Lib.cell_of_heap hq.2 3; have t4 : wq.cell? ⟨w2.heap.size, 4, none⟩ = some (.int .i64 S.la) := Lib.cell_of_heap hq.2 4; have t5 : wq.cell? ⟨w2.heap.size, 5, none⟩ = some (.int .i64 0) := Lib.cell_of_heap hq.2 5; have t6 : wq.cell? ⟨w2.heap.size, 6, none⟩ = some (.string ⟨#[]⟩) := Lib.cell_of_heap hq.2 6; go_simp; try with_reducible rfl)
                refine RN.take (i := 7) (v := ?_) rfl (by decide) (by kernel_rfl) (by kernel_rfl) (by kernel_rfl) (by kernel_rfl) (by kernel_rfl) (by first | exact fun _ _ _ h => h | exact fun _ _ _ h => (by cases h.1) | exact fun _ _ _ h => door_put (by decide) h) (.inl ⟨by rfl, ?_⟩) hS ?_
                rotate_left 1
                · (intro wq hq; have s4 : wq.cell? ⟨w.heap.size + 1, 0, none⟩ = some (.int .i64 k) := Lib.cell_of_heap hq.1 0; have s5 : wq.cell? ⟨w.heap.size + 1, 1, none⟩ = some (.bool qq) := Lib.cell_of_heap hq.1 1; have s6 : wq.cell? ⟨w.heap.size + 1, 2, none⟩ = some (.string t) := Lib.cell_of_heap hq.1 2; have s7 : wq.cell? ⟨w.heap.size + 1, 3, none⟩ = some (.string o) := Lib.cell_of_heap hq.1 3; have s8 : wq.cell? ⟨w.heap.size + 1, 4, none⟩ = some (.slice a f.len c) := Lib.cell_of_heap hq.1 4; have t0 : wq.cell? ⟨w2.heap.size, 0, none⟩ = some (.slice p7 L.length c7) := Lib.cell_of_heap hq.2 0; have t1 : wq.cell? ⟨w2.heap.size, 1, none⟩ = some (.slice a8 n8 c8) := Lib.cell_of_heap hq.2 1; have t2 : wq.cell? ⟨w2.heap.size, 2, none⟩ = some (.slice a2 n2 c2) := Lib.cell_of_heap hq.2 2; have t3 : wq.cell? ⟨w2.heap.size, 3, none⟩ = some (.int .i64 S.st) := Lib.cell_of_heap hq.2 3; have t4 : wq.cell? ⟨w2.heap.size, 4, none⟩ = some (.int .i64 S.la) := Lib.cell_of_heap hq.2 4; have t5 : wq.cell? ⟨w2.heap.size, 5, none⟩ = some (.int .i64 0) := Lib.cell_of_heap hq.2 5; have t6 : wq.cell? ⟨w2.heap.size, 6, none⟩ = some (.string ⟨#[]⟩) := Lib.cell_of_heap hq.2 6; go_simp; try with_reducible rfl)
                refine RN.take (i := 8) (v := ?_) rfl (by decide) (by kernel_rfl) (by kernel_rfl) (by kernel_rfl) (by kernel_rfl) (by kernel_rfl) (by first | exact fun _ _ _ h => h | exact fun _ _ _ h => (by cases h.1) | exact fun _ _ _ h => door_put (by decide) h) (.inl ⟨by rfl, ?_⟩) hS ?_
                rotate_left 1
                · (intro wq hq; have s4 : wq.cell? ⟨w.heap.size + 1, 0, none⟩ = some (.int .i64 k) := Lib.cell_of_heap hq.1 0; have s5 : wq.cell? ⟨w.heap.size + 1, 1, none⟩ = some (.bool qq) := Lib.cell_of_heap hq.1 1; have s6 : wq.cell? ⟨w.heap.size + 1, 2, none⟩ = some (.string t) := Lib.cell_of_heap hq.1 2; have s7 : wq.cell? ⟨w.heap.size + 1, 3, none⟩ = some (.string o) := Lib.cell_of_heap hq.1 3; have s8 : wq.cell? ⟨w.heap.size + 1, 4, none⟩ = some (.slice a f.len c) := Lib.cell_of_heap hq.1 4; have t0 : wq.cell? ⟨w2.heap.size, 0, none⟩ = some (.slice p7 L.length c7) := Lib.cell_of_heap hq.2 0; have t1 : wq.cell? ⟨w2.heap.size, 1, none⟩ = some (.slice a8 n8 c8) := Lib.cell_of_heap hq.2 1; have t2 : wq.cell? ⟨w2.heap.size, 2, none⟩ = some (.slice a2 n2 c2) := Lib.cell_of_heap hq.2 2; have t3 : wq.cell? ⟨w2.heap.size, 3, none⟩ = some (.int .i64 S.st) := Lib.cell_of_heap hq.2 3; have t4 : wq.cell? ⟨w2.heap.size, 4, none⟩ = some (.int .i64 S.la) := Lib.cell_of_heap hq.2 4; have t5 : wq.cell? ⟨w2.heap.size, 5, none⟩ = some (.int .i64 0) := Lib.cell_of_heap hq.2 5; have t6 : wq.cell? ⟨w2.heap.size, 6, none⟩ = some (.string ⟨#[]⟩) := Lib.cell_of_heap hq.2 6; go_simp; try with_reducible rfl)
                refine RN.take (i := 9) (v := ?_) rfl (by decide) (by kernel_rfl) (by kernel_rfl) (by kernel_rfl) (by kernel_rfl) (by kernel_rfl) (by first | exact fun _ _ _ h => h | exact fun _ _ _ h => (by cases h.1) | exact fun _ _ _ h => door_put (by decide) h) (.inl ⟨by rfl, ?_⟩) hS ?_
                rotate_left 1
                · (intro wq hq; have s4 : wq.cell? ⟨w.heap.size + 1, 0, none⟩ = some (.int .i64 k) := Lib.cell_of_heap hq.1 0; have s5 : wq.cell? ⟨w.heap.size + 1, 1, none⟩ = some (.bool qq) := Lib.cell_of_heap hq.1 1; have s6 : wq.cell? ⟨w.heap.size + 1, 2, none⟩ = some (.string t) := Lib.cell_of_heap hq.1 2; have s7 : wq.cell? ⟨w.heap.size + 1, 3, none⟩ = some (.string o) := Lib.cell_of_heap hq.1 3; have s8 : wq.cell? ⟨w.heap.size + 1, 4, none⟩ = some (.slice a f.len c) := Lib.cell_of_heap hq.1 4; have t0 : wq.cell? ⟨w2.heap.size, 0, none⟩ = some (.slice p7 L.length c7) := Lib.cell_of_heap hq.2 0; have t1 : wq.cell? ⟨w2.heap.size, 1, none⟩ = some (.slice a8 n8 c8) := Lib.cell_of_heap hq.2 1; have t2 : wq.cell? ⟨w2.heap.size, 2, none⟩ = some (.slice a2 n2 c2) := Lib.cell_of_heap hq.2 2; have t3 : wq.cell? ⟨w2.heap.size, 3, none⟩ = some (.int .i64 S.st) := Lib.cell_of_heap hq.2 3; have t4 : wq.cell? ⟨w2.heap.size, 4, none⟩ = some (.int .i64 S.la) := Lib.cell_of_heap hq.2 4; have t5 : wq.cell? ⟨w2.heap.size, 5, none⟩ = some (.int .i64 0) := Lib.cell_of_heap hq.2 5; have t6 : wq.cell? ⟨w2.heap.size, 6, none⟩ = some (.string ⟨#[]⟩) := Lib.cell_of_heap hq.2 6; go_simp; try with_reducible rfl)
                refine RN.all (rs := [4, 10]) (by kernel_rfl) (by simp) ?_
                refine RN.All.cons rfl (fun K hK => ?_) (RN.All.cons rfl (fun K hK => ?_) RN.All.nil)
                · go_simp
                  have hb := Fld.below_alloc V0 (.cells #[.string (tx (joinS L)), .bool qq, .bool false] 69)
                  have hS1 := And.intro (bel_block hb hS.1) (bel_block hb hS.2)
                  have HPC5 := Lib.hid (Fld.one_piece V0 (tx (joinS L)) qq false)
                  have HRY := Lib.hid (bel_block hb HRZ.out)
                  have HB' := Lib.hid (HB4.out.trans (hb.mono HB4.out.size))
                  have HPQ := Lib.hid (HPP4.out.stay hb)
                  refine hK _ _ (fun _ => hS1) ?_
                  clear hK K hb hS HB4 HRZ HPP4
                  have hS := hS1
                  have HB4 := HB'
                  have HRZ := HRY
                  have HPP4 := HPQ
                  clear hS1 HB' HRY HPQ
                  generalize V0.alloc (.cells #[.string (tx (joinS L)), .bool qq, .bool false] 69) = V1 at hS HB4 HRZ HPP4 HPC5 ⊢
                  generalize V0.heap.size = pb at HPC5 ⊢
                  refine RN.all (rs := [10]) (by kernel_rfl) (by simp) ?_
                  refine RN.All.cons rfl (fun K hK => ?_) RN.All.nil
                  go_simp
                  refine (rset_any S t (tx (joinS L)) (.slice a8 n8 c8) (.slice a2 n2 c2) V1 HPP4.out ⟨_, _, _, rfl⟩ (by have := HOK.out.nvs; omega) (by omega)).mono ?_
                  rintro e V2 ⟨hb, a5, n5, c5, hp5, hfr5, rfl⟩
                  have HFR5 := Lib.hid (fun (hs : (setE S t (tx (joinS L))).vs ≠ []) (k : Nat) (e : (Value.slice a5 n5 c5).ownBlock = some k) => (hfr5 hs k e).elim (fun x => HFR.out x.1 k x.2) fun h => Or.inr (Nat.le_trans (Nat.le_trans HBW3.out.size HB4.out.size) h))
                  clear hfr5
                  have hS1 := And.intro (bel_block hb hS.1) (bel_block hb hS.2)
                  have HRY := Lib.hid (bel_block hb HRZ.out)
                  have HB' := Lib.hid (HB4.out.trans (hb.mono HB4.out.size))
                  have HPQ := Lib.hid hp5
                  have HPC6 := Lib.hid (HPC5.out.below hb)
                  refine hK _ _ (fun _ => hS1) ?_
                  clear hK K hb hS hp5 HB4 HRZ HPP4 HPC5
                  have hS := hS1
                  have HB4 := HB'
                  have HRZ := HRY
                  have HPP4 := HPQ
                  have HPC5 := HPC6
                  clear HPC6
                  clear hS1 HB' HRY HPQ
                  refine RN.take (i := 11) (v := ?_) rfl (by decide) (by kernel_rfl) (by kernel_rfl) (by kernel_rfl) (by kernel_rfl) (by kernel_rfl) (by first | exact fun _ _ _ h => h | exact fun _ _ _ h => (by cases h.1) | exact fun _ _ _ h => door_put (by decide) h) (.inl ⟨by rfl, ?_⟩) hS ?_
                  rotate_left 1
                  · (intro wq hq; skip; go_simp; try with_reducible rfl)
                  refine RN.all (rs := [12]) (by kernel_rfl) (by simp) ?_
                  refine RN.All.cons rfl (fun K hK => ?_) RN.All.nil
                  have HRX := HRZ
                  have y0 : V2.cell? ⟨w.heap.size + 1 + 1, 0, none⟩ = some (.slice none 0 0) := Lib.cell_of_heap HRX.out 0
                  have z0 : V2.frozen? ⟨w.heap.size + 1 + 1, 0, none⟩ = false := frozen_of_row _ _ _ _ _ HRX.out
                  have y1 : V2.cell? ⟨w.heap.size + 1 + 1, 1, none⟩ = some (.slice none 0 0) := Lib.cell_of_heap HRX.out 1
                  have z1 : V2.frozen? ⟨w.heap.size + 1 + 1, 1, none⟩ = false := frozen_of_row _ _ _ _ _ HRX.out
                  have y2 : V2.cell? ⟨w.heap.size + 1 + 1, 2, none⟩ = some (.slice none 0 0) := Lib.cell_of_heap HRX.out 2
                  have z2 : V2.frozen? ⟨w.heap.size + 1 + 1, 2, none⟩ = false := frozen_of_row _ _ _ _ _ HRX.out
                  have y3 : V2.cell? ⟨w.heap.size + 1 + 1, 3, none⟩ = some (.int .i64 0) := Lib.cell_of_heap HRX.out 3
                  have z3 : V2.frozen? ⟨w.heap.size + 1 + 1, 3, none⟩ = false := frozen_of_row _ _ _ _ _ HRX.out
                  have y4 : V2.cell? ⟨w.heap.size + 1 + 1, 4, none⟩ = some (.int .i64 0) := Lib.cell_of_heap HRX.out 4
                  have z4 : V2.frozen? ⟨w.heap.size + 1 + 1, 4, none⟩ = false := frozen_of_row _ _ _ _ _ HRX.out
                  have y5 : V2.cell? ⟨w.heap.size + 1 + 1, 5, none⟩ = some (.int .i64 0) := Lib.cell_of_heap HRX.out 5
                  have z5 : V2.frozen? ⟨w.heap.size + 1 + 1, 5, none⟩ = false := frozen_of_row _ _ _ _ _ HRX.out
                  have y6 : V2.cell? ⟨w.heap.size + 1 + 1, 6, none⟩ = some (.string ⟨#[]⟩) := Lib.cell_of_heap HRX.out 6
                  have z6 : V2.frozen? ⟨w.heap.size + 1 + 1, 6, none⟩ = false := frozen_of_row _ _ _ _ _ HRX.out
                  go_simp
                  refine hK _ _ (fun _ => ⟨(put7_other (by omega) _ _ _ _ _ _ _).trans hS.1, (put7_other (by omega) _ _ _ _ _ _ _).trans hS.2⟩) ?_
                  clear hK K y0 z0 y1 z1 y2 z2 y3 z3 y4 z4 y5 z5 y6 z6
                  refine RN.done (by kernel_rfl) ?_ _
                  go_wp2_with fail
                  rw [paramG_after HIE.out (by rw [HU.out, H43.out]), ← HG.out, afterP_set H61.out]
                  have HPV5 := Lib.hid (show Pv V2 (.slice (some ⟨pb, 0, none⟩) 1 1) [(tx (joinS L), qq, false)] from ⟨_, _, rfl, HPC5.out, fun h => by cases h⟩)
                  have hstS : (setE S t (tx (joinS L))).st = S.st := by unfold setE; split <;> rfl
                  have hlaS : (setE S t (tx (joinS L))).la = S.la := by unfold setE; split <;> rfl
                  have hB7 := set7_below (w0 := w) (w := V2) (g := w.heap.size + 1 + 1) (HBW3.out.trans (HB4.out.mono HBW3.out.size)) (by omega) (.slice (some ⟨pb, 0, none⟩) 1 1) (.slice a5 n5 c5) (.slice a2 n2 c2) (.int .i64 S.st) (.int .i64 S.la) (.int .i64 0) (.string ⟨#[]⟩)
                  refine bodyPost_ret (results_cell_row rfl _ _ (w.heap.size + 1 + 1) _ _ _ _ rfl (put7 HRX.out _ _ _ _ _ _ _) Tryz.underlying42 rfl (by kernel_rfl)) rfl ⟨_, rfl, ⟨_, _, ?_, HPV5.out.other (fun h k e => put7_other (HPV5.out.neGot HRX.out h k e) _ _ _ _ _ _ _), Prs_other HPP4.out (fun h k e => put7_other (Prs_neGot HPP4.out HRX.out h k e) _ _ _ _ _ _ _), HFR5.out⟩, hB7⟩
                  rw [hstS, hlaS]
                  rfl
                · go_simp
                  refine (rset_any S t (tx (joinS L)) (.slice a8 n8 c8) (.slice a2 n2 c2) V0 HPP4.out ⟨_, _, _, rfl⟩ (by have := HOK.out.nvs; omega) (by omega)).mono ?_
                  rintro e V1 ⟨hb, a5, n5, c5, hp5, hfr5, rfl⟩
                  have HFR5 := Lib.hid (fun (hs : (setE S t (tx (joinS L))).vs ≠ []) (k : Nat) (e : (Value.slice a5 n5 c5).ownBlock = some k) => (hfr5 hs k e).elim (fun x => HFR.out x.1 k x.2) fun h => Or.inr (Nat.le_trans (Nat.le_trans HBW3.out.size HB4.out.size) h))
                  clear hfr5
                  have hS1 := And.intro (bel_block hb hS.1) (bel_block hb hS.2)
                  have HRY := Lib.hid (bel_block hb HRZ.out)
                  have HB' := Lib.hid (HB4.out.trans (hb.mono HB4.out.size))
                  have HPQ := Lib.hid hp5
                  refine hK _ _ (fun _ => hS1) ?_
                  clear hK K hb hS hp5 HB4 HRZ HPP4
                  have hS := hS1
                  have HB4 := HB'
                  have HRZ := HRY
                  have HPP4 := HPQ
                  clear hS1 HB' HRY HPQ
                  refine RN.all (rs := [4]) (by kernel_rfl) (by simp) ?_
                  refine RN.All.cons rfl (fun K hK => ?_) RN.All.nil
                  go_simp
                  have hb := Fld.below_alloc V1 (.cells #[.string (tx (joinS L)), .bool qq, .bool false] 69)
                  have hS1 := And.intro (bel_block hb hS.1) (bel_block hb hS.2)
                  have HPC5 := Lib.hid (Fld.one_piece V1 (tx (joinS L)) qq false)
                  have HRY := Lib.hid (bel_block hb HRZ.out)
                  have HB' := Lib.hid (HB4.out.trans (hb.mono HB4.out.size))
                  have HPQ := Lib.hid (HPP4.out.stay hb)
                  refine hK _ _ (fun _ => hS1) ?_
                  clear hK K hb hS HB4 HRZ HPP4
                  have hS := hS1
                  have HB4 := HB'
                  have HRZ := HRY
                  have HPP4 := HPQ
                  clear hS1 HB' HRY HPQ
                  generalize V1.alloc (.cells #[.string (tx (joinS L)), .bool qq, .bool false] 69) = V2 at hS HB4 HRZ HPP4 HPC5 ⊢
                  generalize V1.heap.size = pb at HPC5 ⊢
                  refine RN.take (i := 11) (v := ?_) rfl (by decide) (by kernel_rfl) (by kernel_rfl) (by kernel_rfl) (by kernel_rfl) (by kernel_rfl) (by first | exact fun _ _ _ h => h | exact fun _ _ _ h => (by cases h.1) | exact fun _ _ _ h => door_put (by decide) h) (.inl ⟨by rfl, ?_⟩) hS ?_
                  rotate_left 1
                  · (intro wq hq; skip; go_simp; try with_reducible rfl)
                  refine RN.all (rs := [12]) (by kernel_rfl) (by simp) ?_
                  refine RN.All.cons rfl (fun K hK => ?_) RN.All.nil
                  have HRX := HRZ
                  have y0 : V2.cell? ⟨w.heap.size + 1 + 1, 0, none⟩ = some (.slice none 0 0) := Lib.cell_of_heap HRX.out 0
                  have z0 : V2.frozen? ⟨w.heap.size + 1 + 1, 0, none⟩ = false := frozen_of_row _ _ _ _ _ HRX.out
                  have y1 : V2.cell? ⟨w.heap.size + 1 + 1, 1, none⟩ = some (.slice none 0 0) := Lib.cell_of_heap HRX.out 1
                  have z1 : V2.frozen? ⟨w.heap.size + 1 + 1, 1, none⟩ = false := frozen_of_row _ _ _ _ _ HRX.out
                  have y2 : V2.cell? ⟨w.heap.size + 1 + 1, 2, none⟩ = some (.slice none 0 0) := Lib.cell_of_heap HRX.out 2
                  have z2 : V2.frozen? ⟨w.heap.size + 1 + 1, 2, none⟩ = false := frozen_of_row _ _ _ _ _ HRX.out
                  have y3 : V2.cell? ⟨w.heap.size + 1 + 1, 3, none⟩ = some (.int .i64 0) := Lib.cell_of_heap HRX.out 3
                  have z3 : V2.frozen? ⟨w.heap.size + 1 + 1, 3, none⟩ = false := frozen_of_row _ _ _ _ _ HRX.out
                  have y4 : V2.cell? ⟨w.heap.size + 1 + 1, 4, none⟩ = some (.int .i64 0) := Lib.cell_of_heap HRX.out 4
                  have z4 : V2.frozen? ⟨w.heap.size + 1 + 1, 4, none⟩ = false := frozen_of_row _ _ _ _ _ HRX.out
                  have y5 : V2.cell? ⟨w.heap.size + 1 + 1, 5, none⟩ = some (.int .i64 0) := Lib.cell_of_heap HRX.out 5
                  have z5 : V2.frozen? ⟨w.heap.size + 1 + 1, 5, none⟩ = false := frozen_of_row _ _ _ _ _ HRX.out
                  have y6 : V2.cell? ⟨w.heap.size + 1 + 1, 6, none⟩ = some (.string ⟨#[]⟩) := Lib.cell_of_heap HRX.out 6
                  have z6 : V2.frozen? ⟨w.heap.size + 1 + 1, 6, none⟩ = false := frozen_of_row _ _ _ _ _ HRX.out
                  go_simp
                  refine hK _ _ (fun _ => ⟨(put7_other (by omega) _ _ _ _ _ _ _).trans hS.1, (put7_other (by omega) _ _ _ _ _ _ _).trans hS.2⟩) ?_
                  clear hK K y0 z0 y1 z1 y2 z2 y3 z3 y4 z4 y5 z5 y6 z6
                  refine RN.done (by kernel_rfl) ?_ _
                  go_wp2_with fail
                  rw [paramG_after HIE.out (by rw [HU.out, H43.out]), ← HG.out, afterP_set H61.out]
                  have HPV5 := Lib.hid (show Pv V2 (.slice (some ⟨pb, 0, none⟩) 1 1) [(tx (joinS L), qq, false)] from ⟨_, _, rfl, HPC5.out, fun h => by cases h⟩)
                  have hstS : (setE S t (tx (joinS L))).st = S.st := by unfold setE; split <;> rfl
                  have hlaS : (setE S t (tx (joinS L))).la = S.la := by unfold setE; split <;> rfl
                  have hB7 := set7_below (w0 := w) (w := V2) (g := w.heap.size + 1 + 1) (HBW3.out.trans (HB4.out.mono HBW3.out.size)) (by omega) (.slice (some ⟨pb, 0, none⟩) 1 1) (.slice a5 n5 c5) (.slice a2 n2 c2) (.int .i64 S.st) (.int .i64 S.la) (.int .i64 0) (.string ⟨#[]⟩)
                  refine bodyPost_ret (results_cell_row rfl _ _ (w.heap.size + 1 + 1) _ _ _ _ rfl (put7 HRX.out _ _ _ _ _ _ _) Tryz.underlying42 rfl (by kernel_rfl)) rfl ⟨_, rfl, ⟨_, _, ?_, HPV5.out.other (fun h k e => put7_other (HPV5.out.neGot HRX.out h k e) _ _ _ _ _ _ _), Prs_other HPP4.out (fun h k e => put7_other (Prs_neGot HPP4.out HRX.out h k e) _ _ _ _ _ _ _), HFR5.out⟩, hB7⟩
                  rw [hstS, hlaS]
                  rfl
            · have HK := Lib.hid hk
              have HPVg := Lib.hid (show Pv (w2.alloc (.cells #[.slice p7 L.length c7, .slice a8 n8 c8, .slice a2 n2 c2, .int .i64 S.st, .int .i64 S.la, .int .i64 k1, .string t1] 42)) (.slice p7 L.length c7) L from ⟨_, _, rfl, HPCg.out, HNIL.out⟩)
              have HPPg := Lib.hid (HPP.out.stay HBg.out)
              have y0 : (w2.alloc (.cells #[.slice p7 L.length c7, .slice a8 n8 c8, .slice a2 n2 c2, .int .i64 S.st, .int .i64 S.la, .int .i64 k1, .string t1] 42)).cell? ⟨w.heap.size + 1 + 1, 0, none⟩ = some (.slice none 0 0) := Lib.cell_of_heap HRg.out 0
              have z0 : (w2.alloc (.cells #[.slice p7 L.length c7, .slice a8 n8 c8, .slice a2 n2 c2, .int .i64 S.st, .int .i64 S.la, .int .i64 k1, .string t1] 42)).frozen? ⟨w.heap.size + 1 + 1, 0, none⟩ = false := frozen_of_row _ _ _ _ _ HRg.out
              have y1 : (w2.alloc (.cells #[.slice p7 L.length c7, .slice a8 n8 c8, .slice a2 n2 c2, .int .i64 S.st, .int .i64 S.la, .int .i64 k1, .string t1] 42)).cell? ⟨w.heap.size + 1 + 1, 1, none⟩ = some (.slice none 0 0) := Lib.cell_of_heap HRg.out 1
              have z1 : (w2.alloc (.cells #[.slice p7 L.length c7, .slice a8 n8 c8, .slice a2 n2 c2, .int .i64 S.st, .int .i64 S.la, .int .i64 k1, .string t1] 42)).frozen? ⟨w.heap.size + 1 + 1, 1, none⟩ = false := frozen_of_row _ _ _ _ _ HRg.out
              have y2 : (w2.alloc (.cells #[.slice p7 L.length c7, .slice a8 n8 c8, .slice a2 n2 c2, .int .i64 S.st, .int .i64 S.la, .int .i64 k1, .string t1] 42)).cell? ⟨w.heap.size + 1 + 1, 2, none⟩ = some (.slice none 0 0) := Lib.cell_of_heap HRg.out 2
              have z2 : (w2.alloc (.cells #[.slice p7 L.length c7, .slice a8 n8 c8, .slice a2 n2 c2, .int .i64 S.st, .int .i64 S.la, .int .i64 k1, .string t1] 42)).frozen? ⟨w.heap.size + 1 + 1, 2, none⟩ = false := frozen_of_row _ _ _ _ _ HRg.out
              have y3 : (w2.alloc (.cells #[.slice p7 L.length c7, .slice a8 n8 c8, .slice a2 n2 c2, .int .i64 S.st, .int .i64 S.la, .int .i64 k1, .string t1] 42)).cell? ⟨w.heap.size + 1 + 1, 3, none⟩ = some (.int .i64 0) := Lib.cell_of_heap HRg.out 3
              have z3 : (w2.alloc (.cells #[.slice p7 L.length c7, .slice a8 n8 c8, .slice a2 n2 c2, .int .i64 S.st, .int .i64 S.la, .int .i64 k1, .string t1] 42)).frozen? ⟨w.heap.size + 1 + 1, 3, none⟩ = false := frozen_of_row _ _ _ _ _ HRg.out
              have y4 : (w2.alloc (.cells #[.slice p7 L.length c7, .slice a8 n8 c8, .slice a2 n2 c2, .int .i64 S.st, .int .i64 S.la, .int .i64 k1, .string t1] 42)).cell? ⟨w.heap.size + 1 + 1, 4, none⟩ = some (.int .i64 0) := Lib.cell_of_heap HRg.out 4
              have z4 : (w2.alloc (.cells #[.slice p7 L.length c7, .slice a8 n8 c8, .slice a2 n2 c2, .int .i64 S.st, .int .i64 S.la, .int .i64 k1, .string t1] 42)).frozen? ⟨w.heap.size + 1 + 1, 4, none⟩ = false := frozen_of_row _ _ _ _ _ HRg.out
              have y5 : (w2.alloc (.cells #[.slice p7 L.length c7, .slice a8 n8 c8, .slice a2 n2 c2, .int .i64 S.st, .int .i64 S.la, .int .i64 k1, .string t1] 42)).cell? ⟨w.heap.size + 1 + 1, 5, none⟩ = some (.int .i64 0) := Lib.cell_of_heap HRg.out 5
              have z5 : (w2.alloc (.cells #[.slice p7 L.length c7, .slice a8 n8 c8, .slice a2 n2 c2, .int .i64 S.st, .int .i64 S.la, .int .i64 k1, .string t1] 42)).frozen? ⟨w.heap.size + 1 + 1, 5, none⟩ = false := frozen_of_row _ _ _ _ _ HRg.out
              have y6 : (w2.alloc (.cells #[.slice p7 L.length c7, .slice a8 n8 c8, .slice a2 n2 c2, .int .i64 S.st, .int .i64 S.la, .int .i64 k1, .string t1] 42)).cell? ⟨w.heap.size + 1 + 1, 6, none⟩ = some (.string ⟨#[]⟩) := Lib.cell_of_heap HRg.out 6
              have z6 : (w2.alloc (.cells #[.slice p7 L.length c7, .slice a8 n8 c8, .slice a2 n2 c2, .int .i64 S.st, .int .i64 S.la, .int .i64 k1, .string t1] 42)).frozen? ⟨w.heap.size + 1 + 1, 6, none⟩ = false := frozen_of_row _ _ _ _ _ HRg.out
              go_wp2_with fail
              rw [paramG_after HIE.out (by rw [HU.out, H43.out]), ← HG.out, afterP_fault HK.out]
              have hB7 := set7_below (w0 := w) (w := (w2.alloc (.cells #[.slice p7 L.length c7, .slice a8 n8 c8, .slice a2 n2 c2, .int .i64 S.st, .int .i64 S.la, .int .i64 k1, .string t1] 42))) (g := w.heap.size + 1 + 1) HBWg.out (by omega) (.slice p7 L.length c7) (.slice a8 n8 c8) (.slice a2 n2 c2) (.int .i64 S.st) (.int .i64 S.la) (.int .i64 k1) (.string t1)
              exact bodyPost_ret (results_cell_row rfl _ _ (w.heap.size + 1 + 1) _ _ _ _ rfl (put7 HRg.out _ _ _ _ _ _ _) Tryz.underlying42 rfl (by kernel_rfl)) rfl ⟨_, rfl, ⟨_, _, rfl, HPVg.out.other (fun h k e => put7_other (HPVg.out.neGot HRg.out h k e) _ _ _ _ _ _ _), Prs_other HPPg.out (fun h k e => put7_other (Prs_neGot HPPg.out HRg.out h k e) _ _ _ _ _ _ _), HFR.out⟩, hB7⟩
          | false =>
            go_wp2_with (go_at_call 51; refine (HX43.out _).mono ?_; rintro e w3 ⟨rfl, rfl⟩)
            have hS2 : wc.drew.heap[w.heap.size]? = some (.cells #[.slice a1 n1 c1, .slice a2 n2 c2, .int .i64 s.st, .int .i64 s.la] 25 (0, 0)) ∧ wc.drew.heap[w.heap.size + 1]? = some (.cells #[.int .i64 k, .bool qq, .string t, .string o, .slice a f.len c] 52 (0, 0)) := HSV.out
            refine RN.begins (fun w' => w'.heap[w.heap.size]? = some (.cells #[.slice a1 n1 c1, .slice a2 n2 c2, .int .i64 s.st, .int .i64 s.la] 25 (0, 0)) ∧ w'.heap[w.heap.size + 1]? = some (.cells #[.int .i64 k, .bool qq, .string t, .string o, .slice a f.len c] 52 (0, 0))) [] (by kernel_rfl) ?_
            have hS := hS2
            refine RN.take (i := 0) (v := ?_) rfl (by decide) (by kernel_rfl) (by kernel_rfl) (by kernel_rfl) (by kernel_rfl) (by kernel_rfl) (by first | exact fun _ _ _ h => h | exact fun _ _ _ h => (by cases h.1) | exact fun _ _ _ h => door_put (by decide) h) (.inl ⟨by rfl, ?_⟩) hS ?_
            rotate_left 1
            · (intro wq hq; have s0 : wq.cell? ⟨w.heap.size, 0, none⟩ = some (.slice a1 n1 c1) := Lib.cell_of_heap hq.1 0; have s1 : wq.cell? ⟨w.heap.size, 1, none⟩ = some (.slice a2 n2 c2) := Lib.cell_of_heap hq.1 1; have s2 : wq.cell? ⟨w.heap.size, 2, none⟩ = some (.int .i64 s.st) := Lib.cell_of_heap hq.1 2; have s3 : wq.cell? ⟨w.heap.size, 3, none⟩ = some (.int .i64 s.la) := Lib.cell_of_heap hq.1 3; have s4 : wq.cell? ⟨w.heap.size + 1, 0, none⟩ = some (.int .i64 k) := Lib.cell_of_heap hq.2 0; have s5 : wq.cell? ⟨w.heap.size + 1, 1, none⟩ = some (.bool qq) := Lib.cell_of_heap hq.2 1; have s6 : wq.cell? ⟨w.heap.size + 1, 2, none⟩ = some (.string t) := Lib.cell_of_heap hq.2 2; have s7 : wq.cell? ⟨w.heap.size + 1, 3, none⟩ = some (.string o) := Lib.cell_of_heap hq.2 3; have s8 : wq.cell? ⟨w.heap.size + 1, 4, none⟩ = some (.slice a f.len c) := Lib.cell_of_heap hq.2 4; go_simp; try with_reducible rfl)
            refine RN.take (i := 1) (v := ?_) rfl (by decide) (by kernel_rfl) (by kernel_rfl) (by kernel_rfl) (by kernel_rfl) (by kernel_rfl) (by first | exact fun _ _ _ h => h | exact fun _ _ _ h => (by cases h.1) | exact fun _ _ _ h => door_put (by decide) h) (.inl ⟨by rfl, ?_⟩) hS ?_
            rotate_left 1
            · (intro wq hq; have s0 : wq.cell? ⟨w.heap.size, 0, none⟩ = some (.slice a1 n1 c1) := Lib.cell_of_heap hq.1 0; have s1 : wq.cell? ⟨w.heap.size, 1, none⟩ = some (.slice a2 n2 c2) := Lib.cell_of_heap hq.1 1; have s2 : wq.cell? ⟨w.heap.size, 2, none⟩ = some (.int .i64 s.st) := Lib.cell_of_heap hq.1 2; have s3 : wq.cell? ⟨w.heap.size, 3, none⟩ = some (.int .i64 s.la) := Lib.cell_of_heap hq.1 3; have s4 : wq.cell? ⟨w.heap.size + 1, 0, none⟩ = some (.int .i64 k) := Lib.cell_of_heap hq.2 0; have s5 : wq.cell? ⟨w.heap.size + 1, 1, none⟩ = some (.bool qq) := Lib.cell_of_heap hq.2 1; have s6 : wq.cell? ⟨w.heap.size + 1, 2, none⟩ = some (.string t) := Lib.cell_of_heap hq.2 2; have s7 : wq.cell? ⟨w.heap.size + 1, 3, none⟩ = some (.string o) := Lib.cell_of_heap hq.2 3; have s8 : wq.cell? ⟨w.heap.size + 1, 4, none⟩ = some (.slice a f.len c) := Lib.cell_of_heap hq.2 4; go_simp; try with_reducible rfl)
            refine RN.take (i := 3) (v := ?_) rfl (by decide) (by kernel_rfl) (by kernel_rfl) (by kernel_rfl) (by kernel_rfl) (by kernel_rfl) (by first | exact fun _ _ _ h => h | exact fun _ _ _ h => (by cases h.1) | exact fun _ _ _ h => door_put (by decide) h) (.inl ⟨by rfl, ?_⟩) hS ?_
            rotate_left 1
            · (intro wq hq; have s0 : wq.cell? ⟨w.heap.size, 0, none⟩ = some (.slice a1 n1 c1) := Lib.cell_of_heap hq.1 0; have s1 : wq.cell? ⟨w.heap.size, 1, none⟩ = some (.slice a2 n2 c2) := Lib.cell_of_heap hq.1 1; have s2 : wq.cell? ⟨w.heap.size, 2, none⟩ = some (.int .i64 s.st) := Lib.cell_of_heap hq.1 2; have s3 : wq.cell? ⟨w.heap.size, 3, none⟩ = some (.int .i64 s.la) := Lib.cell_of_heap hq.1 3; have s4 : wq.cell? ⟨w.heap.size + 1, 0, none⟩ = some (.int .i64 k) := Lib.cell_of_heap hq.2 0; have s5 : wq.cell? ⟨w.heap.size + 1, 1, none⟩ = some (.bool qq) := Lib.cell_of_heap hq.2 1; have s6 : wq.cell? ⟨w.heap.size + 1, 2, none⟩ = some (.string t) := Lib.cell_of_heap hq.2 2; have s7 : wq.cell? ⟨w.heap.size + 1, 3, none⟩ = some (.string o) := Lib.cell_of_heap hq.2 3; have s8 : wq.cell? ⟨w.heap.size + 1, 4, none⟩ = some (.slice a f.len c) := Lib.cell_of_heap hq.2 4; go_simp; try with_reducible rfl)
            refine RN.all (rs := [2]) (by kernel_rfl) (by simp) ?_
            refine RN.All.cons rfl (fun K hK => ?_) RN.All.nil
            go_simp
            refine (HEM.out [] (.slice none 0 0) qq wc.drew ⟨none, 0, rfl, .inl rfl, fun _ => rfl⟩).mono ?_
            rintro e V2 ⟨lv2, rfl, hp2, hb⟩
            have hS1 := And.intro (bel_block hb hS.1) (bel_block hb hS.2)
            obtain ⟨p7, n7, c7, rfl⟩ := hp2.shape
            have HPV2 := Lib.hid hp2
            have HRX := Lib.hid (bel_block hb (show wc.drew.heap[w.heap.size + 1 + 1]? = _ from HRV.out))
            have HB2 := Lib.hid ((Fld.drewn (Below.refl wc.heap.size wc)).trans (hb.mono (Nat.le_refl _)))
            refine hK _ _ (fun _ => hS1) ?_
            clear hK K hb hp2 hS hS2
            have hS := hS1
            refine RN.take (i := 4) (v := ?_) rfl (by decide) (by kernel_rfl) (by kernel_rfl) (by kernel_rfl) (by kernel_rfl) (by kernel_rfl) (by first | exact fun _ _ _ h => h | exact fun _ _ _ h => (by cases h.1) | exact fun _ _ _ h => door_put (by decide) h) (.inl ⟨by rfl, ?_⟩) hS ?_
            rotate_left 1
            · (intro wq hq; skip; go_simp; try with_reducible rfl)
            refine RN.all (rs := [5]) (by kernel_rfl) (by simp) ?_
            refine RN.All.cons rfl (fun K hK => ?_) RN.All.nil
            have y0 : V2.cell? ⟨w.heap.size + 1 + 1, 0, none⟩ = some (.slice none 0 0) := Lib.cell_of_heap HRX.out 0
            have z0 : V2.frozen? ⟨w.heap.size + 1 + 1, 0, none⟩ = false := frozen_of_row _ _ _ _ _ HRX.out
            have y1 : V2.cell? ⟨w.heap.size + 1 + 1, 1, none⟩ = some (.slice none 0 0) := Lib.cell_of_heap HRX.out 1
            have z1 : V2.frozen? ⟨w.heap.size + 1 + 1, 1, none⟩ = false := frozen_of_row _ _ _ _ _ HRX.out
            have y2 : V2.cell? ⟨w.heap.size + 1 + 1, 2, none⟩ = some (.slice none 0 0) := Lib.cell_of_heap HRX.out 2
            have z2 : V2.frozen? ⟨w.heap.size + 1 + 1, 2, none⟩ = false := frozen_of_row _ _ _ _ _ HRX.out
            have y3 : V2.cell? ⟨w.heap.size + 1 + 1, 3, none⟩ = some (.int .i64 0) := Lib.cell_of_heap HRX.out 3
            have z3 : V2.frozen? ⟨w.heap.size + 1 + 1, 3, none⟩ = false := frozen_of_row _ _ _ _ _ HRX.out
            have y4 : V2.cell? ⟨w.heap.size + 1 + 1, 4, none⟩ = some (.int .i64 0) := Lib.cell_of_heap HRX.out 4
            have z4 : V2.frozen? ⟨w.heap.size + 1 + 1, 4, none⟩ = false := frozen_of_row _ _ _ _ _ HRX.out
            have y5 : V2.cell? ⟨w.heap.size + 1 + 1, 5, none⟩ = some (.int .i64 0) := Lib.cell_of_heap HRX.out 5
            have z5 : V2.frozen? ⟨w.heap.size + 1 + 1, 5, none⟩ = false := frozen_of_row _ _ _ _ _ HRX.out
            have y6 : V2.cell? ⟨w.heap.size + 1 + 1, 6, none⟩ = some (.string ⟨#[]⟩) := Lib.cell_of_heap HRX.out 6
            have z6 : V2.frozen? ⟨w.heap.size + 1 + 1, 6, none⟩ = false := frozen_of_row _ _ _ _ _ HRX.out
            go_simp
            refine hK _ _ (fun _ => ⟨(put7_other (by omega) _ _ _ _ _ _ _).trans hS.1, (put7_other (by omega) _ _ _ _ _ _ _).trans hS.2⟩) ?_
            clear hK K y0 z0 y1 z1 y2 z2 y3 z3 y4 z4 y5 z5 y6 z6
            refine RN.done (by kernel_rfl) ?_ _
            go_wp2_with fail
            rw [paramG_plus HIE.out HU.out H43.out]
            have hB7 := set7_below (w0 := w) (w := V2) (g := w.heap.size + 1 + 1) ((HB0.out.trans (HBV.out.mono HB0.out.size)).trans (HB2.out.mono (HB0.out.trans (HBV.out.mono HB0.out.size)).size)) (by omega) (.slice p7 n7 c7) (.slice a1 n1 c1) (.slice a2 n2 c2) (.int .i64 s.st) (.int .i64 s.la) (.int .i64 0) (.string ⟨#[]⟩)
            exact bodyPost_ret (results_cell_row rfl _ _ (w.heap.size + 1 + 1) _ _ _ _ rfl (put7 HRX.out _ _ _ _ _ _ _) Tryz.underlying42 rfl (by kernel_rfl)) rfl ⟨_, rfl, ⟨_, _, rfl, HPV2.out.other (fun h k e => put7_other (HPV2.out.neGot HRX.out h k e) _ _ _ _ _ _ _), HEW.out.p.stay hB7, fun h _ e => .inl ⟨h, e⟩⟩, hB7⟩
end Ex
end Go.Proofs.YtoneabcbeikkhaaGreatDoor
