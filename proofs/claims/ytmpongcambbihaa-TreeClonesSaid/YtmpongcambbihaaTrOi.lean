/- One node, from its eight values. -/
/- What a copy owns lies there as it should. -/
/- What spoil changes: frames by intervals of blocks; what is left of a row. -/
import Derived.Test.YtmpongcambbihaaTrW
import Derived.Test.YtmpongcambbihaaTrOg
namespace Go.Proofs.Ytmpongcambbihaa
open Go.RowKit Go.Sort
namespace Tr
open Cls Pt

/-- A node ahead of others, from its eight values. -/
theorem nat_cons {w : World} {b o : Nat} {k : Int} {nm : ByteArray} {g : Bool} {az : List (ByteArray × PL)} {ws : List PL} {ks cz r : NL} {bs : List Bool} {x1 x2 x3 x4 x5 : Option Addr} {d1 d2 d3 d4 d5 : Nat}
    (h : Holds w nm az ws ks bs cz x1 d1 x2 d2 x3 d3 x4 d4 x5 d5) (hc : ∀ j v, (nodeV k nm g x1 az.length d1 x2 ws.length d2 x3 ks.len d3 x4 bs.length d4 x5 cz.len d5)[j]? = some v → w.cell? ⟨b, o + j, none⟩ = some v) (hr : NAt w r b (o + 8)) :
    NAt w (.node k nm g az ws ks bs cz r) b o :=
  ⟨⟨hc 0 _ rfl, hc 1 _ rfl, hc 2 _ rfl, h.hnm⟩, ⟨x1, d1, hc 3 _ rfl, h.haz⟩, ⟨x2, d2, hc 4 _ rfl, h.hws⟩, ⟨x3, d3, hc 5 _ rfl, h.hks.1, h.hks.2.1, h.hks.2.2⟩, ⟨x4, d4, hc 6 _ rfl, h.hbs⟩, ⟨x5, d5, hc 7 _ rfl, h.hcs.1, h.hcs.2.1, h.hcs.2.2⟩, hr⟩
/-- One node in a block of its own. -/
theorem nlies_one {w : World} {b : Nat} {k : Int} {nm : ByteArray} {g : Bool} {az : List (ByteArray × PL)} {ws : List PL} {ks cz : NL} {bs : List Bool} {x1 x2 x3 x4 x5 : Option Addr} {d1 d2 d3 d4 d5 : Nat} {t : TypeId}
    (h : Holds w nm az ws ks bs cz x1 d1 x2 d2 x3 d3 x4 d4 x5 d5) (hr : w.heap[b]? = some (.cells (nodeV k nm g x1 az.length d1 x2 ws.length d2 x3 ks.len d3 x4 bs.length d4 x5 cz.len d5) t (0, 0))) :
    NLies w (some ⟨b, 0, none⟩) 1 (.node k nm g az ws ks bs cz .nil) :=
  ⟨Nat.le_refl _, (by decide : 1 ≤ R), .inr ⟨b, 0, rfl, nat_cons h (fun j v hv => by rw [Nat.zero_add]; exact (Lib.cell_of_heap hr j).trans hv) trivial⟩⟩
end Tr
end Go.Proofs.Ytmpongcambbihaa

namespace Go.Proofs.Ytmpongcambbihaa
open Go.RowKit Go.Sort
namespace Ow
open Cls Pt Tr

theorem no_node0 {b : NL} (h : b.len = 0) : b = .nil := by
  cases b with
  | nil => rfl
  | node => simp [NL.len] at h
  | cse => simp [NL.len] at h
theorem chain_of {T : Type} {k b : Nat} {P : Nat → Nat → T → Prop} : ∀ (l : List T) (o : Nat), (∀ j t, l[j]? = some t → P b (o + j * k) t) → Chain k P b o l
  | [], _, _ => trivial
  | t :: r, o, h => ⟨by simpa using h 0 t rfl, chain_of r (o + k) fun j u hu => by
      have := h (j + 1) u (by simpa using hu)
      rwa [show o + (j + 1) * k = o + k + j * k by rw [Nat.succ_mul]; omega] at this⟩
theorem own_sl {T : Type} {k : Nat} {E : Elem T} {P : World → Nat → Nat → T → Prop} (hP : ∀ {w b o lo hi t}, E w b o lo hi t → P w b o t) {l : List T} {w : World} {lo hi cap : Nat} {a : Option Addr} (h : OwnR k E (fun i => l[i]?) w lo hi a cap l.length) : Sl k (P w) a cap l := by
  obtain ⟨h1, h2, _, h4⟩ := h
  refine ⟨h1, h2, ?_⟩
  rcases h4 with h4 | ⟨b, ms, ha, _, _, _, _, _, _, hd⟩
  · exact .inl (List.length_eq_zero_iff.1 h4)
  · refine .inr ⟨b, 0, ha, chain_of l 0 fun j t ht => ?_⟩
    have := hP (hd j t (List.getElem?_eq_some_iff.1 ht).1 ht)
    rwa [Nat.zero_add]
theorem own_words {l : List PL} {w : World} {lo hi cap : Nat} {a : Option Addr} (h : OwnR 1 EW (fun i => l[i]?) w lo hi a cap l.length) : Sl 1 (PW w) a cap l :=
  own_sl (P := PW) (fun ⟨a, cap, h, h7⟩ => ⟨a, cap, h, own_lies _ _ h7⟩) h
theorem own_assigns {l : List (ByteArray × PL)} {w : World} {lo hi cap : Nat} {a : Option Addr} (h : OwnR 2 EA (fun i => l[i]?) w lo hi a cap l.length) : Sl 2 (PA w) a cap l :=
  own_sl (P := PA) (fun ⟨h0, a, cap, h, h7⟩ => ⟨h0.1, h0.2, a, cap, h, own_lies _ _ h7⟩) h
theorem own_bools {l : List Bool} {w : World} {lo hi cap : Nat} {a : Option Addr} (h : OwnR 1 EB (fun i => l[i]?) w lo hi a cap l.length) : Sl 1 (PB w) a cap l :=
  own_sl (P := PB) (fun h => h.2) h
/-- What rows of nodes lie, given what a node is. -/
def NodesLie (E : Elem NodeD) : Prop := ∀ (l : NL) {w : World} {lo hi cap : Nat} {a : Option Addr}, NL.okN l true = true → OwnR 8 E (nodeAt l) w lo hi a cap l.len → NLies w a cap l
theorem own_cases {E : Elem NodeD} (hE : NodesLie E) (l : NL) {w : World} {lo hi cap : Nat} {a : Option Addr} (hok : NL.okN l false = true) (h : OwnR 2 (ECof E) (caseAt l) w lo hi a cap l.len) : NLies w a cap l := by
  obtain ⟨h1, h2, _, h4⟩ := h
  refine ⟨h1, h2, ?_⟩
  rcases h4 with h4 | ⟨b, ms, ha, _, _, _, _, _, _, hd⟩
  · exact .inl (no_node0 h4)
  · refine .inr ⟨b, 0, ha, ?_⟩
    have tail : ∀ m, m ≤ l.len → NAt w (l.drop (l.len - m)) b ((l.len - m) * 2) := by
      intro m
      induction m with
      | zero => intro _; rw [Nat.sub_zero, NL.drop_end (Nat.le_refl _)]; trivial
      | succ m ihm =>
        intro hm
        obtain ⟨ps, bd, r, hdr⟩ := NL.drop_case (n := l.len - (m + 1)) (l := l) (by omega) hok
        obtain ⟨mm, a1, c1, a2, c2, g0, g1, o1, o2⟩ := hd _ _ (by omega) (caseAt_drop hdr)
        have hko := NL.drop_ok (l.len - (m + 1)) l false hok
        rw [hdr] at hko ⊢
        simp only [NL.okN, Bool.and_eq_true] at hko
        have hl := hE bd hko.1.2 o2
        refine ⟨⟨a1, c1, g0, own_words o1⟩, ⟨a2, c2, g1, hl.1, hl.2.1, hl.2.2⟩, ?_⟩
        have := ihm (by omega)
        rw [← NL.drop_succC hdr, show (l.len - (m + 1)) * 2 + 2 = (l.len - m) * 2 by omega, show l.len - (m + 1) + 1 = l.len - m by omega]
        exact this
    have := tail l.len (Nat.le_refl _)
    simpa [NL.drop] using this
theorem own_node {n : Nat} (hE : NodesLie (EN n)) {w : World} {b o lo hi : Nat} {d : NodeD} (hk : NL.okN d.ks true = true) (hc : NL.okN d.cz false = true) (h : EN (n + 1) w b o lo hi d) :
    ∃ a1 c1 a2 c2 a3 c3 a4 c4 a5 c5, (∀ j v, (nodeV d.k d.nm d.g a1 d.az.length c1 a2 d.ws.length c2 a3 d.ks.len c3 a4 d.bs.length c4 a5 d.cz.len c5)[j]? = some v → w.cell? ⟨b, o + j, none⟩ = some v) ∧ Holds w d.nm d.az d.ws d.ks d.bs d.cz a1 c1 a2 c2 a3 c3 a4 c4 a5 c5 := by
  obtain ⟨⟨h0, h1, h2, h3⟩, m1, m2, m3, m4, a1, c1, a2, c2, a3, c3, a4, c4, a5, c5, ⟨g1, g2, g3, g4, g5⟩, o1, o2, o3, o4, o5⟩ := h
  refine ⟨a1, c1, a2, c2, a3, c3, a4, c4, a5, c5, fun j v hv => ?_, h3, own_assigns o1, own_words o2, hE d.ks hk o3, own_bools o4, own_cases hE d.cz hc o5, hk, hc⟩
  match j, hv with
  | 0, hv => cases hv; exact h0
  | 1, hv => cases hv; exact h1
  | 2, hv => cases hv; exact h2
  | 3, hv => cases hv; exact g1
  | 4, hv => cases hv; exact g2
  | 5, hv => cases hv; exact g3
  | 6, hv => cases hv; exact g4
  | 7, hv => cases hv; exact g5
  | j + 8, hv => simp [nodeV] at hv
theorem own_nodes : ∀ n, NodesLie (EN n) := by
  intro n
  induction n with
  | zero =>
    rintro l w lo hi cap a hok ⟨h1, h2, _, h4⟩
    refine ⟨h1, h2, .inl ?_⟩
    rcases h4 with h4 | ⟨b, ms, _, _, _, _, _, _, _, hd⟩
    · exact no_node0 h4
    · rcases Nat.eq_zero_or_pos l.len with h0 | h0
      · exact no_node0 h0
      · obtain ⟨k, nm, g, az, ws, ks, bs, cs, r, hdr⟩ := NL.drop_node (n := 0) (l := l) h0 hok
        exact (hd 0 _ h0 (nodeAt_drop hdr)).elim
  | succ n ih =>
    rintro l w lo hi cap a hok ⟨h1, h2, _, h4⟩
    refine ⟨h1, h2, ?_⟩
    rcases h4 with h4 | ⟨b, ms, ha, _, _, _, _, _, _, hd⟩
    · exact .inl (no_node0 h4)
    · refine .inr ⟨b, 0, ha, ?_⟩
      have tail : ∀ m, m ≤ l.len → NAt w (l.drop (l.len - m)) b ((l.len - m) * 8) := by
        intro m
        induction m with
        | zero => intro _; rw [Nat.sub_zero, NL.drop_end (Nat.le_refl _)]; trivial
        | succ m ihm =>
          intro hm
          obtain ⟨k, nm, g, az, ws, ks, bs, cs, r, hdr⟩ := NL.drop_node (n := l.len - (m + 1)) (l := l) (by omega) hok
          have hko := NL.drop_ok (l.len - (m + 1)) l true hok
          rw [hdr] at hko ⊢
          simp only [NL.okN, Bool.and_eq_true] at hko
          obtain ⟨a1, c1, a2, c2, a3, c3, a4, c4, a5, c5, hcell, hh⟩ := own_node ih (d := ⟨k, nm, g, az, ws, ks, bs, cs⟩) hko.1.1.2 hko.1.2 (hd _ _ (by omega) (nodeAt_drop hdr))
          refine nat_cons hh hcell ?_
          have := ihm (by omega)
          rw [← NL.drop_succN hdr, show (l.len - (m + 1)) * 8 + 8 = (l.len - m) * 8 by omega, show l.len - (m + 1) + 1 = l.len - m by omega]
          exact this
      have := tail l.len (Nat.le_refl _)
      simpa [NL.drop] using this
end Ow
end Go.Proofs.Ytmpongcambbihaa

namespace Go.Proofs.Ytmpongcambbihaa
open Go.RowKit Go.Sort
namespace Ow
open Cls Pt Tr

/-- Nothing changes but blocks from lo on, below hi, and new ones. -/
structure Fr2 (lo hi : Nat) (w w' : World) : Prop where
  os : w'.os = w.os
  tape : w'.tape = w.tape
  output : w'.output = w.output
  size : w.heap.size ≤ w'.heap.size
  block : ∀ c, c < w.heap.size → (c < lo ∨ hi ≤ c) → w'.heap[c]? = w.heap[c]?
theorem Fr2.refl (lo hi : Nat) (w : World) : Fr2 lo hi w w := ⟨rfl, rfl, rfl, Nat.le_refl _, fun _ _ _ => rfl⟩
theorem Fr2.trans {lo hi : Nat} {w w' w'' : World} (h : Fr2 lo hi w w') (k : Fr2 lo hi w' w'') : Fr2 lo hi w w'' :=
  ⟨k.os.trans h.os, k.tape.trans h.tape, k.output.trans h.output, Nat.le_trans h.size k.size, fun c hc ho => (k.block c (Nat.lt_of_lt_of_le hc h.size) ho).trans (h.block c hc ho)⟩
theorem Fr2.of_below {lo hi : Nat} {w w' : World} (h : Below w.heap.size w w') : Fr2 lo hi w w' := ⟨h.os, h.tape, h.output, h.size, fun c hc _ => h.block c hc⟩
theorem Fr2.set {lo hi c : Nat} (w : World) (i : Nat) (v : Value) (h1 : lo ≤ c) (h2 : c < hi) : Fr2 lo hi w (w.setCell ⟨c, i, none⟩ v) :=
  ⟨rfl, rfl, rfl, by simp, fun d _ ho => Below.heap_setCell _ _ _ _ (by show d ≠ c; omega)⟩
theorem Fr2.mono {lo hi lo' hi' : Nat} {w w' : World} (h : Fr2 lo hi w w') (h1 : lo' ≤ lo) (h2 : hi ≤ hi') : Fr2 lo' hi' w w' :=
  ⟨h.os, h.tape, h.output, h.size, fun c hc ho => h.block c hc (by omega)⟩
theorem Fr2.drew {lo hi : Nat} {w w' : World} (h : Fr2 lo hi w.drew w') : Fr2 lo hi w w' := ⟨h.os, h.tape, h.output, h.size, h.block⟩
/-- Nothing changes but that, and one cell of a block. -/
structure Sp (lo hi b p : Nat) (w w' : World) : Prop where
  os : w'.os = w.os
  tape : w'.tape = w.tape
  output : w'.output = w.output
  size : w.heap.size ≤ w'.heap.size
  block : ∀ c, c < w.heap.size → (c < lo ∨ hi ≤ c) → c ≠ b → w'.heap[c]? = w.heap[c]?
  cell : ∀ i, i ≠ p + 1 → w'.cell? ⟨b, i, none⟩ = w.cell? ⟨b, i, none⟩
  row : ∃ row ty, w'.heap[b]? = some (.cells row ty (0, 0))
theorem Sp.fr2 {lo hi b p lo' hi' : Nat} {w w' : World} (h : Sp lo hi b p w w') (h1 : lo' ≤ lo) (h2 : hi ≤ hi') (h3 : lo' ≤ b) (h4 : b < hi') : Fr2 lo' hi' w w' :=
  ⟨h.os, h.tape, h.output, h.size, fun c hc ho => h.block c hc (by omega) (by omega)⟩
theorem Sp.then {lo hi b p : Nat} {w w' w'' : World} (h : Sp lo hi b p w w') (k : Fr2 lo hi w' w'') (hb : b < w'.heap.size) (hbl : b < lo ∨ hi ≤ b) : Sp lo hi b p w w'' := by
  have e := k.block b hb hbl
  obtain ⟨row, ty, hr⟩ := h.row
  exact ⟨k.os.trans h.os, k.tape.trans h.tape, k.output.trans h.output, Nat.le_trans h.size k.size, fun c hc ho hn => (k.block c (Nat.lt_of_lt_of_le hc h.size) ho).trans (h.block c hc ho hn),
    fun i hi => (World.cell?_of_block (w := w') (a := ⟨b, i, none⟩) e).trans (h.cell i hi), ⟨row, ty, e.trans hr⟩⟩
/-- The name alone. -/
theorem Sp.name {lo hi b p : Nat} {w : World} {row : Array Value} {ty : TypeId} (hr : w.heap[b]? = some (.cells row ty (0, 0))) (v : Value) : Sp lo hi b p w (w.setCell ⟨b, p + 1, none⟩ v) := by
  have g := heap_setCell_same _ _ (p + 1) _ _ v hr
  refine ⟨rfl, rfl, rfl, by simp, fun c _ _ hn => heap_setCell_other _ _ _ _ hn, fun i hi => ?_, _, ty, g⟩
  rw [Lib.cell_of_heap g, Lib.cell_of_heap hr, Array.getElem?_setIfInBounds, if_neg (by omega)]

/-- What is left of a row, from number j on. -/
def Rest {T : Type} (k : Nat) (E : Elem T) (get : Nat → Option T) (w : World) (b n : Nat) (ms : Nat → Nat) (j : Nat) : Prop :=
  ms 0 = b + 1 ∧ (∀ i, i < n → ms i ≤ ms (i + 1)) ∧ (∃ row ty, w.heap[b]? = some (.cells row ty (0, 0))) ∧ ∀ i t, j ≤ i → i < n → get i = some t → E w b (i * k) (ms i) (ms (i + 1)) t
theorem Rest.of {T : Type} {k : Nat} {E : Elem T} {get : Nat → Option T} {w : World} {b n : Nat} {ms : Nat → Nat} (hr : ∃ row ty, w.heap[b]? = some (.cells row ty (0, 0))) (h : Done k E get w b n ms) : Rest k E get w b n ms 0 :=
  ⟨h.1, h.2.1, hr, fun i t _ hi ht => h.2.2 i t hi ht⟩
theorem Rest.lo {T : Type} {k : Nat} {E : Elem T} {get : Nat → Option T} {w : World} {b n j : Nat} {ms : Nat → Nat} (h : Rest k E get w b n ms j) (i : Nat) (hi : i ≤ n) : b < ms i := by
  have := ms_le h.2.1 0 i (Nat.zero_le _) hi
  rw [h.1] at this
  omega
theorem Rest.hi {T : Type} {k : Nat} {E : Elem T} {get : Nat → Option T} {w : World} {b n j : Nat} {ms : Nat → Nat} (h : Rest k E get w b n ms j) (i : Nat) (hi : i ≤ n) : ms i ≤ ms n := ms_le h.2.1 i n hi (Nat.le_refl _)
/-- Behind a change of what number j has, and of its own cells. -/
theorem Rest.next {T : Type} {k : Nat} {E : Elem T} {get : Nat → Option T} (hE : Stable k E) {w w' : World} {b n j : Nat} {ms : Nat → Nat} (h : Rest k E get w b n ms j) (hs : ms n ≤ w.heap.size)
    (hr : ∃ row ty, w'.heap[b]? = some (.cells row ty (0, 0))) (hcell : ∀ i, (j + 1) * k ≤ i → w'.cell? ⟨b, i, none⟩ = w.cell? ⟨b, i, none⟩) (hblk : ∀ c, c < w.heap.size → ms (j + 1) ≤ c → w'.heap[c]? = w.heap[c]?) : Rest k E get w' b n ms (j + 1) := by
  refine ⟨h.1, h.2.1, hr, fun i t hj hi ht => ?_⟩
  have i1 := ms_le h.2.1 (j + 1) i hj (by omega)
  have i2 := h.hi (i + 1) (by omega)
  refine hE.keep (h.2.2.2 i t (by omega) hi ht) (fun q _ => hcell _ ?_) fun c h1 h2 => hblk c (by omega) (by omega)
  have : (j + 1) * k ≤ i * k := Nat.mul_le_mul_right _ hj
  omega
/-- Behind a change elsewhere. -/
theorem Rest.keep {T : Type} {k : Nat} {E : Elem T} {get : Nat → Option T} (hE : Stable k E) {w w' : World} {b n j : Nat} {ms : Nat → Nat} (h : Rest k E get w b n ms j)
    (hk : ∀ c, b ≤ c → c < ms n → w'.heap[c]? = w.heap[c]?) (hb : w'.heap[b]? = w.heap[b]?) : Rest k E get w' b n ms j := by
  obtain ⟨row, ty, hr⟩ := h.2.2.1
  refine ⟨h.1, h.2.1, ⟨row, ty, hb.trans hr⟩, fun i t hj hi ht => ?_⟩
  have i0 := h.lo i (by omega)
  have i2 := h.hi (i + 1) (by omega)
  exact hE.keep (h.2.2.2 i t hj hi ht) (fun q _ => World.cell?_of_block (w := w) (a := ⟨b, _, none⟩) hb) fun c h1 h2 => hk c (by omega) (by omega)
end Ow
end Go.Proofs.Ytmpongcambbihaa
