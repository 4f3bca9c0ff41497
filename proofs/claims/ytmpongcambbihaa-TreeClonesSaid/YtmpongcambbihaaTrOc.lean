/- Parts, cloned into memory of their own. -/
import Derived.Test.YtmpongcambbihaaTrOb
import Derived.Test.YtmpongcambbihaaSpB
import Derived.Lib.SliceRun
namespace Go.Proofs.Ytmpongcambbihaa
open Go.RowKit Go.Sort
namespace Ow
open Cls Pt Tr

abbrev PartT := Int × Bool × ByteArray × ByteArray × PL
def partAt : PL → Nat → Option PartT
  | .nil, _ => none
  | .cons k q t o f _, 0 => some (k, q, t, o, f)
  | .cons _ _ _ _ _ r, j + 1 => partAt r j
theorem partAt_drop : ∀ {j : Nat} {l r f : PL} {k : Int} {q : Bool} {t o : ByteArray}, l.drop j = .cons k q t o f r → partAt l j = some (k, q, t, o, f)
  | 0, .nil, _, _, _, _, _, _, h => by simp [PL.drop] at h
  | 0, .cons _ _ _ _ _ _, _, _, _, _, _, _, h => by simp only [PL.drop] at h; cases h; rfl
  | j + 1, .nil, _, _, _, _, _, _, h => by simp [PL.drop] at h
  | j + 1, .cons _ _ _ _ _ r, _, _, _, _, _, _, h => by simp only [PL.drop] at h; exact partAt_drop (j := j) (l := r) h
/-- A part with memory of its own; so deep at the most. -/
def EP : Nat → Elem PartT
  | 0 => fun _ _ _ _ _ _ => False
  | n + 1 => fun w b o lo hi x => (w.cell? ⟨b, o, none⟩ = some (.int .i64 x.1) ∧ w.cell? ⟨b, o + 1, none⟩ = some (.bool x.2.1) ∧ w.cell? ⟨b, o + 2, none⟩ = some (.string x.2.2.1) ∧ w.cell? ⟨b, o + 3, none⟩ = some (.string x.2.2.2.1) ∧ x.2.2.1.size ≤ R ∧ x.2.2.2.1.size ≤ R) ∧
    ∃ a cap, w.cell? ⟨b, o + 4, none⟩ = some (.slice a x.2.2.2.2.len cap) ∧ OwnR 5 (EP n) (partAt x.2.2.2.2) w lo hi a cap x.2.2.2.2.len
theorem stable_EP : ∀ n, Stable 5 (EP n)
  | 0 => ⟨fun h => h.elim, fun h => h.elim, fun h => h.elim⟩
  | n + 1 => by
    have ih := stable_EP n
    refine ⟨?_, ?_, ?_⟩
    · rintro w w' b o lo hi ⟨k, q, t, op, f⟩ ⟨⟨h0, h1, h2, h3, h4, h5⟩, a, cap, h6, h7⟩ hc hb
      refine ⟨⟨(hc 0 (by decide)).trans h0, (hc 1 (by decide)).trans h1, (hc 2 (by decide)).trans h2, (hc 3 (by decide)).trans h3, h4, h5⟩, a, cap, (hc 4 (by decide)).trans h6, h7.keep ih hb⟩
    · rintro w b o lo hi ⟨k, q, t, op, f⟩ ⟨_, a, cap, _, h7⟩
      exact h7.2.2.1
    · rintro w b o lo lo' hi ⟨k, q, t, op, f⟩ ⟨h, a, cap, h6, h7⟩ hl
      exact ⟨h, a, cap, h6, h7.low hl⟩
theorem own_lies : ∀ (n : Nat) (l : PL) {w : World} {lo hi cap : Nat} {a : Option Addr}, OwnR 5 (EP n) (partAt l) w lo hi a cap l.len → Lies w a cap l := by
  intro n
  induction n with
  | zero =>
    rintro l w lo hi cap a ⟨h1, h2, _, h4⟩
    refine ⟨h1, h2, .inl ?_⟩
    cases l with
    | nil => rfl
    | cons k q t o f r =>
      rcases h4 with h4 | ⟨b, ms, _, _, _, _, _, _, _, hd⟩
      · simp [PL.len] at h4
      · exact (hd 0 _ (by simp [PL.len]) rfl).elim
  | succ n ih =>
    rintro l w lo hi cap a ⟨h1, h2, _, h4⟩
    refine ⟨h1, h2, ?_⟩
    rcases h4 with h4 | ⟨b, ms, ha, _, _, _, _, _, _, hd⟩
    · left
      cases l with
      | nil => rfl
      | cons => simp [PL.len] at h4
    · refine .inr ⟨b, 0, ha, ?_⟩
      have tail : ∀ m, m ≤ l.len → At w b ((l.len - m) * 5) (l.drop (l.len - m)) := by
        intro m
        induction m with
        | zero => intro _; rw [Nat.sub_zero, PL.drop_end (Nat.le_refl _)]; trivial
        | succ m ihm =>
          intro hm
          obtain ⟨kk, q, t, o, f, r, hdr⟩ := PL.drop_at (n := l.len - (m + 1)) (l := l) (by omega)
          obtain ⟨⟨g0, g1, g2, g3, g4, g5⟩, a', cap', g6, g7⟩ := hd _ _ (by omega) (partAt_drop hdr)
          have hl := ih f g7
          rw [hdr]
          refine ⟨⟨g0, g1, g2, g3, g4, g5⟩, ⟨a', cap', g6, hl.1, hl.2.1, hl.2.2⟩, ?_⟩
          have := ihm (by omega)
          rw [← PL.drop_succ hdr, show (l.len - (m + 1)) * 5 + 5 = (l.len - m) * 5 by omega, show l.len - (m + 1) + 1 = l.len - m by omega]
          exact this
      have := tail l.len (Nat.le_refl _)
      simpa [PL.drop] using this
theorem stored5 (N : Nat) (w0 Wd : World) (bx : Nat) (v0 v1 v2 v3 v4 u0 u1 u2 u3 u4 : Value) (t : TypeId) (h : Wd.heap[bx]? = some (.cells #[u0, u1, u2, u3, u4] t (0, 0))) (hb : Below N w0 Wd) (hN : N ≤ bx) :
    (((((Wd.setCell ⟨bx, 0, none⟩ v0).setCell ⟨bx, 1, none⟩ v1).setCell ⟨bx, 2, none⟩ v2).setCell ⟨bx, 3, none⟩ v3).setCell ⟨bx, 4, none⟩ v4).heap[bx]? = some (.cells #[v0, v1, v2, v3, v4] t (0, 0)) ∧ Below N w0 (((((Wd.setCell ⟨bx, 0, none⟩ v0).setCell ⟨bx, 1, none⟩ v1).setCell ⟨bx, 2, none⟩ v2).setCell ⟨bx, 3, none⟩ v3).setCell ⟨bx, 4, none⟩ v4) ∧ (∀ c, c ≠ bx → (((((Wd.setCell ⟨bx, 0, none⟩ v0).setCell ⟨bx, 1, none⟩ v1).setCell ⟨bx, 2, none⟩ v2).setCell ⟨bx, 3, none⟩ v3).setCell ⟨bx, 4, none⟩ v4).heap[c]? = Wd.heap[c]?) ∧ (((((Wd.setCell ⟨bx, 0, none⟩ v0).setCell ⟨bx, 1, none⟩ v1).setCell ⟨bx, 2, none⟩ v2).setCell ⟨bx, 3, none⟩ v3).setCell ⟨bx, 4, none⟩ v4).heap.size = Wd.heap.size := by
  have g0 : (Wd.setCell ⟨bx, 0, none⟩ v0).heap[bx]? = some (.cells #[v0, u1, u2, u3, u4] t (0, 0)) := heap_setCell_same _ _ 0 _ _ v0 h
  have g1 : ((Wd.setCell ⟨bx, 0, none⟩ v0).setCell ⟨bx, 1, none⟩ v1).heap[bx]? = some (.cells #[v0, v1, u2, u3, u4] t (0, 0)) := heap_setCell_same _ _ 1 _ _ v1 g0
  have g2 : (((Wd.setCell ⟨bx, 0, none⟩ v0).setCell ⟨bx, 1, none⟩ v1).setCell ⟨bx, 2, none⟩ v2).heap[bx]? = some (.cells #[v0, v1, v2, u3, u4] t (0, 0)) := heap_setCell_same _ _ 2 _ _ v2 g1
  have g3 : ((((Wd.setCell ⟨bx, 0, none⟩ v0).setCell ⟨bx, 1, none⟩ v1).setCell ⟨bx, 2, none⟩ v2).setCell ⟨bx, 3, none⟩ v3).heap[bx]? = some (.cells #[v0, v1, v2, v3, u4] t (0, 0)) := heap_setCell_same _ _ 3 _ _ v3 g2
  have g4 : (((((Wd.setCell ⟨bx, 0, none⟩ v0).setCell ⟨bx, 1, none⟩ v1).setCell ⟨bx, 2, none⟩ v2).setCell ⟨bx, 3, none⟩ v3).setCell ⟨bx, 4, none⟩ v4).heap[bx]? = some (.cells #[v0, v1, v2, v3, v4] t (0, 0)) := heap_setCell_same _ _ 4 _ _ v4 g3
  refine ⟨g4, ((((hb.setCell hN _).setCell hN _).setCell hN _).setCell hN _).setCell hN _, fun c hc => ?_, by simp⟩
  rw [heap_setCell_other _ _ _ _ hc, heap_setCell_other _ _ _ _ hc, heap_setCell_other _ _ _ _ hc, heap_setCell_other _ _ _ _ hc, heap_setCell_other _ _ _ _ hc]
theorem stored2 (N : Nat) (w0 Wd : World) (bx : Nat) (v0 v1 u0 u1 : Value) (t : TypeId) (h : Wd.heap[bx]? = some (.cells #[u0, u1] t (0, 0))) (hb : Below N w0 Wd) (hN : N ≤ bx) :
    ((Wd.setCell ⟨bx, 0, none⟩ v0).setCell ⟨bx, 1, none⟩ v1).heap[bx]? = some (.cells #[v0, v1] t (0, 0)) ∧ Below N w0 ((Wd.setCell ⟨bx, 0, none⟩ v0).setCell ⟨bx, 1, none⟩ v1) ∧ (∀ c, c ≠ bx → ((Wd.setCell ⟨bx, 0, none⟩ v0).setCell ⟨bx, 1, none⟩ v1).heap[c]? = Wd.heap[c]?) ∧ ((Wd.setCell ⟨bx, 0, none⟩ v0).setCell ⟨bx, 1, none⟩ v1).heap.size = Wd.heap.size := by
  have g0 : (Wd.setCell ⟨bx, 0, none⟩ v0).heap[bx]? = some (.cells #[v0, u1] t (0, 0)) := heap_setCell_same _ _ 0 _ _ v0 h
  have g1 : ((Wd.setCell ⟨bx, 0, none⟩ v0).setCell ⟨bx, 1, none⟩ v1).heap[bx]? = some (.cells #[v0, v1] t (0, 0)) := heap_setCell_same _ _ 1 _ _ v1 g0
  refine ⟨g1, (hb.setCell hN _).setCell hN _, fun c hc => ?_, by simp⟩
  rw [heap_setCell_other _ _ _ _ hc, heap_setCell_other _ _ _ _ hc]
theorem stored8 (N : Nat) (w0 Wd : World) (bx : Nat) (v0 v1 v2 v3 v4 v5 v6 v7 u0 u1 u2 u3 u4 u5 u6 u7 : Value) (t : TypeId) (h : Wd.heap[bx]? = some (.cells #[u0, u1, u2, u3, u4, u5, u6, u7] t (0, 0))) (hb : Below N w0 Wd) (hN : N ≤ bx) :
    ((((((((Wd.setCell ⟨bx, 0, none⟩ v0).setCell ⟨bx, 1, none⟩ v1).setCell ⟨bx, 2, none⟩ v2).setCell ⟨bx, 3, none⟩ v3).setCell ⟨bx, 4, none⟩ v4).setCell ⟨bx, 5, none⟩ v5).setCell ⟨bx, 6, none⟩ v6).setCell ⟨bx, 7, none⟩ v7).heap[bx]? = some (.cells #[v0, v1, v2, v3, v4, v5, v6, v7] t (0, 0)) ∧ Below N w0 ((((((((Wd.setCell ⟨bx, 0, none⟩ v0).setCell ⟨bx, 1, none⟩ v1).setCell ⟨bx, 2, none⟩ v2).setCell ⟨bx, 3, none⟩ v3).setCell ⟨bx, 4, none⟩ v4).setCell ⟨bx, 5, none⟩ v5).setCell ⟨bx, 6, none⟩ v6).setCell ⟨bx, 7, none⟩ v7) ∧ (∀ c, c ≠ bx → ((((((((Wd.setCell ⟨bx, 0, none⟩ v0).setCell ⟨bx, 1, none⟩ v1).setCell ⟨bx, 2, none⟩ v2).setCell ⟨bx, 3, none⟩ v3).setCell ⟨bx, 4, none⟩ v4).setCell ⟨bx, 5, none⟩ v5).setCell ⟨bx, 6, none⟩ v6).setCell ⟨bx, 7, none⟩ v7).heap[c]? = Wd.heap[c]?) ∧ ((((((((Wd.setCell ⟨bx, 0, none⟩ v0).setCell ⟨bx, 1, none⟩ v1).setCell ⟨bx, 2, none⟩ v2).setCell ⟨bx, 3, none⟩ v3).setCell ⟨bx, 4, none⟩ v4).setCell ⟨bx, 5, none⟩ v5).setCell ⟨bx, 6, none⟩ v6).setCell ⟨bx, 7, none⟩ v7).heap.size = Wd.heap.size := by
  have g0 : (Wd.setCell ⟨bx, 0, none⟩ v0).heap[bx]? = some (.cells #[v0, u1, u2, u3, u4, u5, u6, u7] t (0, 0)) := heap_setCell_same _ _ 0 _ _ v0 h
  have g1 : ((Wd.setCell ⟨bx, 0, none⟩ v0).setCell ⟨bx, 1, none⟩ v1).heap[bx]? = some (.cells #[v0, v1, u2, u3, u4, u5, u6, u7] t (0, 0)) := heap_setCell_same _ _ 1 _ _ v1 g0
  have g2 : (((Wd.setCell ⟨bx, 0, none⟩ v0).setCell ⟨bx, 1, none⟩ v1).setCell ⟨bx, 2, none⟩ v2).heap[bx]? = some (.cells #[v0, v1, v2, u3, u4, u5, u6, u7] t (0, 0)) := heap_setCell_same _ _ 2 _ _ v2 g1
  have g3 : ((((Wd.setCell ⟨bx, 0, none⟩ v0).setCell ⟨bx, 1, none⟩ v1).setCell ⟨bx, 2, none⟩ v2).setCell ⟨bx, 3, none⟩ v3).heap[bx]? = some (.cells #[v0, v1, v2, v3, u4, u5, u6, u7] t (0, 0)) := heap_setCell_same _ _ 3 _ _ v3 g2
  have g4 : (((((Wd.setCell ⟨bx, 0, none⟩ v0).setCell ⟨bx, 1, none⟩ v1).setCell ⟨bx, 2, none⟩ v2).setCell ⟨bx, 3, none⟩ v3).setCell ⟨bx, 4, none⟩ v4).heap[bx]? = some (.cells #[v0, v1, v2, v3, v4, u5, u6, u7] t (0, 0)) := heap_setCell_same _ _ 4 _ _ v4 g3
  have g5 : ((((((Wd.setCell ⟨bx, 0, none⟩ v0).setCell ⟨bx, 1, none⟩ v1).setCell ⟨bx, 2, none⟩ v2).setCell ⟨bx, 3, none⟩ v3).setCell ⟨bx, 4, none⟩ v4).setCell ⟨bx, 5, none⟩ v5).heap[bx]? = some (.cells #[v0, v1, v2, v3, v4, v5, u6, u7] t (0, 0)) := heap_setCell_same _ _ 5 _ _ v5 g4
  have g6 : (((((((Wd.setCell ⟨bx, 0, none⟩ v0).setCell ⟨bx, 1, none⟩ v1).setCell ⟨bx, 2, none⟩ v2).setCell ⟨bx, 3, none⟩ v3).setCell ⟨bx, 4, none⟩ v4).setCell ⟨bx, 5, none⟩ v5).setCell ⟨bx, 6, none⟩ v6).heap[bx]? = some (.cells #[v0, v1, v2, v3, v4, v5, v6, u7] t (0, 0)) := heap_setCell_same _ _ 6 _ _ v6 g5
  have g7 : ((((((((Wd.setCell ⟨bx, 0, none⟩ v0).setCell ⟨bx, 1, none⟩ v1).setCell ⟨bx, 2, none⟩ v2).setCell ⟨bx, 3, none⟩ v3).setCell ⟨bx, 4, none⟩ v4).setCell ⟨bx, 5, none⟩ v5).setCell ⟨bx, 6, none⟩ v6).setCell ⟨bx, 7, none⟩ v7).heap[bx]? = some (.cells #[v0, v1, v2, v3, v4, v5, v6, v7] t (0, 0)) := heap_setCell_same _ _ 7 _ _ v7 g6
  refine ⟨g7, (((((((hb.setCell hN _).setCell hN _).setCell hN _).setCell hN _).setCell hN _).setCell hN _).setCell hN _).setCell hN _, fun c hc => ?_, by simp⟩
  rw [heap_setCell_other _ _ _ _ hc, heap_setCell_other _ _ _ _ hc, heap_setCell_other _ _ _ _ hc, heap_setCell_other _ _ _ _ hc, heap_setCell_other _ _ _ _ hc, heap_setCell_other _ _ _ _ hc, heap_setCell_other _ _ _ _ hc, heap_setCell_other _ _ _ _ hc]

/-- copied answers as it should for parts smaller than n. -/
def CopyAt (n : Nat) (F : FuncId) : Prop := ∀ (l : PL) (a : Option Addr) (cap : Nat) (w : World), l.size < n → l.size ≤ 1000000 → Lies w a cap l →
  Calls Try.prog F #[.slice a l.len cap, .func (.func 32) #[] #[]] w (fun e w' => ∃ a' cap', e = .returned (.slice a' l.len cap') ∧ Below w.heap.size w w' ∧ OwnR 5 (EP n) (partAt l) w' w.heap.size w'.heap.size a' cap' l.len)
def CloneAt (n : Nat) : Prop := ∀ (k : Int) (q : Bool) (t o : ByteArray) (f : PL) (a : Option Addr) (cap : Nat) (w : World), f.size < n → f.size ≤ 1000000 → t.size ≤ R → o.size ≤ R → Lies w a cap f →
  Calls Try.prog 32 #[.agg #[.int .i64 k, .bool q, .string t, .string o, .slice a f.len cap]] w fun e w' => ∃ a' cap', e = .returned (.agg #[.int .i64 k, .bool q, .string t, .string o, .slice a' f.len cap']) ∧ Below w.heap.size w w' ∧ Gives (EP (n + 1)) w w' [.int .i64 k, .bool q, .string t, .string o, .slice a' f.len cap'] (k, q, t, o, f)

set_option maxHeartbeats 1600000 in
set_option maxRecDepth 100000 in
theorem clonePart_any (n : Nat) (hC : CopyAt n 51) : CloneAt n := by
  intro k q t o f a cap w hn hsz ht ho hl
  have hb0 := bel2 w (.cells #[.int .i64 k, .bool q, .string t, .string o, .slice a f.len cap] 38) (.cells #[.int .i64 0, .bool false, .string ⟨#[]⟩, .string ⟨#[]⟩, .slice none 0 0] 38)
  have HC := Lib.hid (fun W (hb : Below w.heap.size w W) => hC f a cap W hn hsz (hl.below hb))
  have HB0 := Lib.hid hb0
  clear hC hl hb0 hn hsz
  go_enter Try.func32, Try.ntmps32
  go_wp2_with fail
  refine (HC.out _ HB0.out).mono ?_
  rintro e w1 ⟨a', cap', rfl, hb1, how⟩
  have hsz0 : ((w.alloc (.cells #[.int .i64 k, .bool q, .string t, .string o, .slice a f.len cap] 38)).alloc (.cells #[.int .i64 0, .bool false, .string ⟨#[]⟩, .string ⟨#[]⟩, .slice none 0 0] 38)).heap.size = w.heap.size + 2 := by simp
  have hr1 : w1.heap[w.heap.size]? = some (.cells #[.int .i64 k, .bool q, .string t, .string o, .slice a f.len cap] 38 (0, 0)) := (hb1.block _ (by omega)).trans ((Below.heap_alloc _ _ _ (by simp)).trans (heap_new' _ _))
  have hr2 : w1.heap[w.heap.size + 1]? = some (.cells #[.int .i64 0, .bool false, .string ⟨#[]⟩, .string ⟨#[]⟩, .slice none 0 0] 38 (0, 0)) := (hb1.block _ (by omega)).trans (by
    have := heap_new' (w.alloc (.cells #[.int .i64 k, .bool q, .string t, .string o, .slice a f.len cap] 38)) (.cells #[.int .i64 0, .bool false, .string ⟨#[]⟩, .string ⟨#[]⟩, .slice none 0 0] 38)
    rwa [World.size_alloc] at this)
  rw [hsz0] at how
  have hw1s : w.heap.size + 2 ≤ w1.heap.size := by have := hb1.size; omega
  have hbb := thru HB0.out hb1
  have p0 : w1.cell? ⟨w.heap.size, 0, none⟩ = some (.int .i64 k) := Lib.cell_of_heap hr1 0
  have c0 : w1.cell? ⟨w.heap.size + 1, 0, none⟩ = some (.int .i64 0) := Lib.cell_of_heap hr2 0
  have f0 : w1.frozen? ⟨w.heap.size + 1, 0, none⟩ = false := frozen_of_row _ _ _ _ _ hr2
  have p1 : w1.cell? ⟨w.heap.size, 1, none⟩ = some (.bool q) := Lib.cell_of_heap hr1 1
  have c1 : w1.cell? ⟨w.heap.size + 1, 1, none⟩ = some (.bool false) := Lib.cell_of_heap hr2 1
  have f1 : w1.frozen? ⟨w.heap.size + 1, 1, none⟩ = false := frozen_of_row _ _ _ _ _ hr2
  have p2 : w1.cell? ⟨w.heap.size, 2, none⟩ = some (.string t) := Lib.cell_of_heap hr1 2
  have c2 : w1.cell? ⟨w.heap.size + 1, 2, none⟩ = some (.string ⟨#[]⟩) := Lib.cell_of_heap hr2 2
  have f2 : w1.frozen? ⟨w.heap.size + 1, 2, none⟩ = false := frozen_of_row _ _ _ _ _ hr2
  have p3 : w1.cell? ⟨w.heap.size, 3, none⟩ = some (.string o) := Lib.cell_of_heap hr1 3
  have c3 : w1.cell? ⟨w.heap.size + 1, 3, none⟩ = some (.string ⟨#[]⟩) := Lib.cell_of_heap hr2 3
  have f3 : w1.frozen? ⟨w.heap.size + 1, 3, none⟩ = false := frozen_of_row _ _ _ _ _ hr2
  have p4 : w1.cell? ⟨w.heap.size, 4, none⟩ = some (.slice a f.len cap) := Lib.cell_of_heap hr1 4
  have c4 : w1.cell? ⟨w.heap.size + 1, 4, none⟩ = some (.slice none 0 0) := Lib.cell_of_heap hr2 4
  have f4 : w1.frozen? ⟨w.heap.size + 1, 4, none⟩ = false := frozen_of_row _ _ _ _ _ hr2
  have pf : w1.frozen? ⟨w.heap.size, 4, none⟩ = false := frozen_of_row _ _ _ _ _ hr1
  have hst : ∃ Wm, w1.setCell ⟨w.heap.size, 4, none⟩ (.slice a' f.len cap') = Wm ∧ Wm.heap[w.heap.size + 1]? = some (.cells #[.int .i64 0, .bool false, .string ⟨#[]⟩, .string ⟨#[]⟩, .slice none 0 0] 38 (0, 0)) ∧ Below w.heap.size w Wm ∧ (∀ c, c ≠ w.heap.size → Wm.heap[c]? = w1.heap[c]?) ∧ Wm.heap.size = w1.heap.size :=
    ⟨_, rfl, (heap_setCell_other _ _ _ _ (by show w.heap.size + 1 ≠ w.heap.size; omega)).trans hr2, hbb.setCell (Nat.le_refl _) _, fun c hc => heap_setCell_other _ _ _ _ hc, by simp⟩
  obtain ⟨Wm, hWm, hm1, hm2, hm3, hm4⟩ := hst
  have hs5 := stored5 w.heap.size w Wm (w.heap.size + 1) (.int .i64 k) (.bool q) (.string t) (.string o) (.slice a' f.len cap') _ _ _ _ _ _ hm1 hm2 (by omega)
  rw [← hWm] at hs5
  have HS5 := Lib.hid hs5; have HOW := Lib.hid how; have HM3 := Lib.hid hm3; have HM4 := Lib.hid hm4; have HW1 := Lib.hid hw1s; have HWM := Lib.hid hWm
  clear hs5 how hm1 hm2 hm3 hm4 hWm hw1s hr1 hr2 hb1 hbb hsz0
  go_wp2_with fail
  obtain ⟨g1, g2, g3, g4⟩ := HS5.out
  refine bodyPost_ret (results_cell_row rfl _ _ (w.heap.size + 1) _ _ _ _ rfl g1 Try.underlying38 rfl (by kernel_rfl)) rfl ?_
  refine ⟨a', cap', rfl, g2, ?_⟩
  intro w2 b p hc hk
  have g4' := g4.trans (show (w1.setCell ⟨w.heap.size, 4, none⟩ (.slice a' f.len cap')).heap.size = w1.heap.size by simp)
  refine ⟨⟨hc 0 _ rfl, hc 1 _ rfl, hc 2 _ rfl, hc 3 _ rfl, ht, ho⟩, a', cap', hc 4 _ rfl, ?_⟩
  have h1 := HW1.out
  rw [g4'] at hk ⊢
  exact OwnR.low (HOW.out.keep (stable_EP n) (w' := w2) fun c h1 h2 => by
    rw [hk c (by omega) h2, g3 c (by omega)]
    exact heap_setCell_other _ _ _ _ (by show c ≠ w.heap.size; omega)) (by omega)

theorem info_partsW : (Try.prog.info? 38).map (fun i => (i.zero, i.size, i.bytes)) = some (some (.agg #[.int .i64 0, .bool false, .string ⟨#[]⟩, .string ⟨#[]⟩, .slice none 0 0]), 5, 72) := by kernel_rfl
theorem make_partsW (n : Nat) (hn : n ≤ 1000000) : ∃ row : Array Value, row.size = n * 5 ∧ ∀ w : World, (Instr.makeSlice 39 (.int .i64 (n : Int)) (.int .i64 (n : Int))).run Try.prog w = .ok (.slice (some ⟨w.heap.size, 0, none⟩) n n) (w.alloc (.cells row 38)) := by
  obtain ⟨i, hi, hzz⟩ := Option.map_eq_some_iff.1 info_partsW
  simp only [Prod.mk.injEq] at hzz
  obtain ⟨hz, hs, hb⟩ := hzz
  refine ⟨madeCells (Value.agg #[.int .i64 0, .bool false, .string ⟨#[]⟩, .string ⟨#[]⟩, .slice none 0 0]).cells (n * 5), size_madeCells _ _, fun w => ?_⟩
  have hr := run_make (P := Try.prog) w 39 38 i _ Try.underlying39 hi hz .i64 .i64 n n (by omega) (Int.le_refl _) (by rw [hb]; omega) (by omega)
  simp only [Int.toNat_natCast, hs] at hr
  exact hr

theorem info_partsL : (Try.prog.info? 38).map (fun i => (i.zero, i.size, i.bytes)) = some (some (.agg #[.int .i64 0, .bool false, .string ⟨#[]⟩, .string ⟨#[]⟩, .slice none 0 0]), 5, 72) := by kernel_rfl
theorem make_partsL (n : Nat) (hn : n ≤ 1000000) : ∃ row : Array Value, row.size = n * 5 ∧ ∀ w : World, (Instr.makeSlice 36 (.int .i64 (n : Int)) (.int .i64 (n : Int))).run Try.prog w = .ok (.slice (some ⟨w.heap.size, 0, none⟩) n n) (w.alloc (.cells row 38)) := by
  obtain ⟨i, hi, hzz⟩ := Option.map_eq_some_iff.1 info_partsL
  simp only [Prod.mk.injEq] at hzz
  obtain ⟨hz, hs, hb⟩ := hzz
  refine ⟨madeCells (Value.agg #[.int .i64 0, .bool false, .string ⟨#[]⟩, .string ⟨#[]⟩, .slice none 0 0]).cells (n * 5), size_madeCells _ _, fun w => ?_⟩
  have hr := run_make (P := Try.prog) w 36 38 i _ Try.underlying36 hi hz .i64 .i64 n n (by omega) (Int.le_refl _) (by rw [hb]; omega) (by omega)
  simp only [Int.toNat_natCast, hs] at hr
  exact hr

theorem none_nil {w : World} {cap : Nat} {l : PL} (h : Lies w none cap l) : l = .nil := by
  rcases h.2.2 with h | ⟨b, o, h, _⟩
  · exact h
  · cases h

set_option maxHeartbeats 1600000 in
set_option maxRecDepth 100000 in
theorem copied_partsL (n : Nat) (hC : CloneAt n) : CopyAt (n + 1) 51 := by
  intro l a cap w hn hsz hl
  have hle := hl.le
  have hln : l.len ≤ 1000000 := by have := Sp.len_size l; omega
  cases a with
  | none =>
    obtain rfl := none_nil hl
    have hnil := fun w => Lib.run_eql_slice_nil (P := Try.prog) w 36 38 none 0 cap 0 0 Try.underlying36
    clear hl hC hn
    change Calls Try.prog 51 #[.slice none 0 cap, .func (.func 32) #[] #[]] w _
    go_enter Try.func51, Try.ntmps51
    go_wp2_with fail
    go_ret
    exact ⟨none, 0, rfl, Below.refl _ _, Nat.le_refl _, Nat.zero_le _, Nat.le_refl _, .inl rfl⟩
  | some ad =>
    have hnil := fun w => Lib.run_eql_slice_nil (P := Try.prog) w 36 38 (some ad) l.len cap 0 0 Try.underlying36
    simp only [Option.isNone_some] at hnil
    obtain ⟨row, hrow, hmk⟩ := make_partsL l.len hln
    have HL := Lib.hid hl; have HC := Lib.hid hC; have HR := Lib.hid hrow
    clear hl hC hrow
    go_enter Try.func51, Try.ntmps51
    go_wp2_with fail
    go_loopw [15] (fun x wr => ∃ (j : Nat) (ms : Nat → Nat), j ≤ l.len ∧ x = .int .i64 j ∧ Below w.heap.size w wr ∧ Done 5 (EP (n + 1)) (partAt l) wr w.heap.size j ms ∧ ms j ≤ wr.heap.size ∧ ∃ row' : Array Value, row'.size = l.len * 5 ∧ wr.heap[w.heap.size]? = some (.cells row' 38 (0, 0))) (fun x wr => l.len - (intOf x).toNat)
    case atStart => exact ⟨0, fun _ => w.heap.size + 1, Nat.zero_le _, rfl, bel1 _ _, Done.zero _ _, by simp, row, HR.out, heap_new' _ _⟩
    case round =>
      obtain ⟨j, ms, hj, rfl, hb, hdn, hms, row', hrow', hrb⟩ := hrel
      have HW := Lib.hid hb; have HD := Lib.hid hdn; have HMS := Lib.hid hms; have HRS := Lib.hid hrow'; have HRB := Lib.hid hrb
      clear hb hdn hms hrow' hrb hmk
      by_cases hlt : j < l.len
      · obtain ⟨kk, q, t, o, f, r, hd⟩ := PL.drop_at hlt
        obtain ⟨b1, p1, hae, hb1, c10, c11, c12, c13, ht, ho, a1, ca1, c14, hl1⟩ := (HL.out.below HW.out).get hd
        cases hae
        have hsf : f.size < n ∧ f.size ≤ 1000000 := by
          have := PL.drop_size j l
          rw [hd] at this
          simp only [PL.size] at this
          omega
        have HGET := Lib.hid (partAt_drop hd); have HL1 := Lib.hid hl1
        clear hd hl1
        go_wp2_with fail
        refine (HC.out kk q t o f a1 ca1 _ hsf.1 hsf.2 ht ho (HL1.out.below (bel1 wr _))).mono ?_
        rintro e w2 ⟨a2, ca2, rfl, hb2, hgv⟩
        have hBl : w.heap.size < wr.heap.size := (Array.getElem?_eq_some_iff.1 HRB.out).1
        have hRw : w2.heap[w.heap.size]? = some (.cells row' 38 (0, 0)) := ((hb2.block _ (by simp; omega)).trans (Below.heap_alloc _ _ _ hBl)).trans HRB.out
        have row5 : ∀ i, i < 5 → ∃ x, w2.cell? ⟨w.heap.size, j * 5 + i, none⟩ = some x := fun i hi => ⟨row'[j * 5 + i]'(by rw [HRS.out]; omega), (Lib.cell_of_heap hRw _).trans (by simp)⟩
        obtain ⟨z0, e0⟩ := row5 0 (by omega)
        obtain ⟨z1, e1⟩ := row5 1 (by omega)
        obtain ⟨z2, e2⟩ := row5 2 (by omega)
        obtain ⟨z3, e3⟩ := row5 3 (by omega)
        obtain ⟨z4, e4⟩ := row5 4 (by omega)
        rw [Nat.add_zero] at e0
        have rf : ∀ i, w2.frozen? ⟨w.heap.size, i, none⟩ = false := fun i => frozen_of_row _ _ _ _ _ hRw
        have f0 := rf (j * 5)
        have f1 := rf (j * 5 + 1)
        have f2 := rf (j * 5 + 2)
        have f3 := rf (j * 5 + 3)
        have f4 := rf (j * 5 + 4)
        have hrd := round (stable_EP (n + 1)) HD.out HMS.out HW.out HRB.out HRS.out hlt (bel1 wr (.cells #[.int .i64 kk, .bool q, .string t, .string o, .slice a1 f.len ca1] 38)) hb2 (vs := [.int .i64 kk, .bool q, .string t, .string o, .slice a2 f.len ca2]) rfl HGET.out hgv
        have HRD := Lib.hid hrd
        clear hb2 hgv hRw row5 rf hrd
        go_wp2_with fail
        obtain ⟨W, hW, hWb, hWr, ms', hm', hWd⟩ := HRD.out
        have hW' : (((((w2.setCell ⟨w.heap.size, j * 5, none⟩ (.int .i64 kk)).setCell ⟨w.heap.size, j * 5 + 1, none⟩ (.bool q)).setCell ⟨w.heap.size, j * 5 + 2, none⟩ (.string t)).setCell ⟨w.heap.size, j * 5 + 3, none⟩ (.string o)).setCell ⟨w.heap.size, j * 5 + 4, none⟩ (.slice a2 f.len ca2)) = W := by rw [← hW]; rfl
        go_roundw
        case rel => exact ⟨j + 1, ms', by omega, by go_num, by rw [hW']; exact hWb, by rw [hW']; exact hWd, by rw [hW']; exact hm', by rw [hW']; exact hWr⟩
        case measure => simp [intOf]; omega
      · obtain rfl : j = l.len := by omega
        go_wp2_with fail
        go_ret
        have hs := HW.out.size
        have hBl := (Array.getElem?_eq_some_iff.1 HRB.out).1
        exact ⟨some ⟨w.heap.size, 0, none⟩, l.len, rfl, HW.out, Nat.le_refl _, by unfold R; omega, hs, .inr ⟨w.heap.size, ms, rfl, Nat.le_refl _, hBl, HMS.out, ⟨row', _, HRB.out⟩, HD.out⟩⟩

set_option maxHeartbeats 1600000 in
set_option maxRecDepth 100000 in
theorem copied_partsW (n : Nat) (hC : CloneAt n) : CopyAt (n + 1) 31 := by
  intro l a cap w hn hsz hl
  have hle := hl.le
  have hln : l.len ≤ 1000000 := by have := Sp.len_size l; omega
  cases a with
  | none =>
    obtain rfl := none_nil hl
    have hnil := fun w => Lib.run_eql_slice_nil (P := Try.prog) w 39 38 none 0 cap 0 0 Try.underlying39
    clear hl hC hn
    change Calls Try.prog 31 #[.slice none 0 cap, .func (.func 32) #[] #[]] w _
    go_enter Try.func31, Try.ntmps31
    go_wp2_with fail
    go_ret
    exact ⟨none, 0, rfl, Below.refl _ _, Nat.le_refl _, Nat.zero_le _, Nat.le_refl _, .inl rfl⟩
  | some ad =>
    have hnil := fun w => Lib.run_eql_slice_nil (P := Try.prog) w 39 38 (some ad) l.len cap 0 0 Try.underlying39
    simp only [Option.isNone_some] at hnil
    obtain ⟨row, hrow, hmk⟩ := make_partsW l.len hln
    have HL := Lib.hid hl; have HC := Lib.hid hC; have HR := Lib.hid hrow
    clear hl hC hrow
    go_enter Try.func31, Try.ntmps31
    go_wp2_with fail
    go_loopw [15] (fun x wr => ∃ (j : Nat) (ms : Nat → Nat), j ≤ l.len ∧ x = .int .i64 j ∧ Below w.heap.size w wr ∧ Done 5 (EP (n + 1)) (partAt l) wr w.heap.size j ms ∧ ms j ≤ wr.heap.size ∧ ∃ row' : Array Value, row'.size = l.len * 5 ∧ wr.heap[w.heap.size]? = some (.cells row' 38 (0, 0))) (fun x wr => l.len - (intOf x).toNat)
    case atStart => exact ⟨0, fun _ => w.heap.size + 1, Nat.zero_le _, rfl, bel1 _ _, Done.zero _ _, by simp, row, HR.out, heap_new' _ _⟩
    case round =>
      obtain ⟨j, ms, hj, rfl, hb, hdn, hms, row', hrow', hrb⟩ := hrel
      have HW := Lib.hid hb; have HD := Lib.hid hdn; have HMS := Lib.hid hms; have HRS := Lib.hid hrow'; have HRB := Lib.hid hrb
      clear hb hdn hms hrow' hrb hmk
      by_cases hlt : j < l.len
      · obtain ⟨kk, q, t, o, f, r, hd⟩ := PL.drop_at hlt
        obtain ⟨b1, p1, hae, hb1, c10, c11, c12, c13, ht, ho, a1, ca1, c14, hl1⟩ := (HL.out.below HW.out).get hd
        cases hae
        have hsf : f.size < n ∧ f.size ≤ 1000000 := by
          have := PL.drop_size j l
          rw [hd] at this
          simp only [PL.size] at this
          omega
        have HGET := Lib.hid (partAt_drop hd); have HL1 := Lib.hid hl1
        clear hd hl1
        go_wp2_with fail
        refine (HC.out kk q t o f a1 ca1 _ hsf.1 hsf.2 ht ho (HL1.out.below (bel1 wr _))).mono ?_
        rintro e w2 ⟨a2, ca2, rfl, hb2, hgv⟩
        have hBl : w.heap.size < wr.heap.size := (Array.getElem?_eq_some_iff.1 HRB.out).1
        have hRw : w2.heap[w.heap.size]? = some (.cells row' 38 (0, 0)) := ((hb2.block _ (by simp; omega)).trans (Below.heap_alloc _ _ _ hBl)).trans HRB.out
        have row5 : ∀ i, i < 5 → ∃ x, w2.cell? ⟨w.heap.size, j * 5 + i, none⟩ = some x := fun i hi => ⟨row'[j * 5 + i]'(by rw [HRS.out]; omega), (Lib.cell_of_heap hRw _).trans (by simp)⟩
        obtain ⟨z0, e0⟩ := row5 0 (by omega)
        obtain ⟨z1, e1⟩ := row5 1 (by omega)
        obtain ⟨z2, e2⟩ := row5 2 (by omega)
        obtain ⟨z3, e3⟩ := row5 3 (by omega)
        obtain ⟨z4, e4⟩ := row5 4 (by omega)
        rw [Nat.add_zero] at e0
        have rf : ∀ i, w2.frozen? ⟨w.heap.size, i, none⟩ = false := fun i => frozen_of_row _ _ _ _ _ hRw
        have f0 := rf (j * 5)
        have f1 := rf (j * 5 + 1)
        have f2 := rf (j * 5 + 2)
        have f3 := rf (j * 5 + 3)
        have f4 := rf (j * 5 + 4)
        have hrd := round (stable_EP (n + 1)) HD.out HMS.out HW.out HRB.out HRS.out hlt (bel1 wr (.cells #[.int .i64 kk, .bool q, .string t, .string o, .slice a1 f.len ca1] 38)) hb2 (vs := [.int .i64 kk, .bool q, .string t, .string o, .slice a2 f.len ca2]) rfl HGET.out hgv
        have HRD := Lib.hid hrd
        clear hb2 hgv hRw row5 rf hrd
        go_wp2_with fail
        obtain ⟨W, hW, hWb, hWr, ms', hm', hWd⟩ := HRD.out
        have hW' : (((((w2.setCell ⟨w.heap.size, j * 5, none⟩ (.int .i64 kk)).setCell ⟨w.heap.size, j * 5 + 1, none⟩ (.bool q)).setCell ⟨w.heap.size, j * 5 + 2, none⟩ (.string t)).setCell ⟨w.heap.size, j * 5 + 3, none⟩ (.string o)).setCell ⟨w.heap.size, j * 5 + 4, none⟩ (.slice a2 f.len ca2)) = W := by rw [← hW]; rfl
        go_roundw
        case rel => exact ⟨j + 1, ms', by omega, by go_num, by rw [hW']; exact hWb, by rw [hW']; exact hWd, by rw [hW']; exact hm', by rw [hW']; exact hWr⟩
        case measure => simp [intOf]; omega
      · obtain rfl : j = l.len := by omega
        go_wp2_with fail
        go_ret
        have hs := HW.out.size
        have hBl := (Array.getElem?_eq_some_iff.1 HRB.out).1
        exact ⟨some ⟨w.heap.size, 0, none⟩, l.len, rfl, HW.out, Nat.le_refl _, by unfold R; omega, hs, .inr ⟨w.heap.size, ms, rfl, Nat.le_refl _, hBl, HMS.out, ⟨row', _, HRB.out⟩, HD.out⟩⟩

theorem copyL_at : ∀ n, CopyAt n 51
  | 0 => fun _ _ _ _ h => absurd h (Nat.not_lt_zero _)
  | n + 1 => copied_partsL n (clonePart_any n (copyL_at n))
/-- cloneWord. -/
theorem copyW_at (n : Nat) : CopyAt (n + 1) 31 := copied_partsW n (clonePart_any n (copyL_at n))
end Ow
end Go.Proofs.Ytmpongcambbihaa
