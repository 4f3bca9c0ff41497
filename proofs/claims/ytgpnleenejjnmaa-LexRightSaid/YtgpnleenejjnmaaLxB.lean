/- Parts on their way (lex.parts) and a reader (lex.reader), as they lie in memory. -/
import Derived.Test.YtgpnleenejjnmaaOwn
import Derived.Test.YtgpnleenejjnmaaLxA
import Derived.Lib.BufferWrite
import Derived.Lib.UnsafeStr
namespace Go.Proofs.Ytgpnleenejjnmaa
open Go.RowKit Go.Sort
namespace Lx
open Cls Pt

/-- The parts lie there, in sealed blocks alone. -/
def LiesS (S : Nat → Prop) (w : World) (a : Option Addr) (cap : Nat) (l : PL) : Prop :=
  ∀ w2 : World, w.heap.size ≤ w2.heap.size → (∀ b, S b → b < w.heap.size → w2.heap[b]? = w.heap[b]?) → Lies w2 a cap l
theorem LiesS.lies {S : Nat → Prop} {w : World} {a : Option Addr} {cap : Nat} {l : PL} (h : LiesS S w a cap l) : Lies w a cap l := h w (Nat.le_refl _) fun _ _ _ => rfl
theorem LiesS.keep {S : Nat → Prop} {w w' : World} {a : Option Addr} {cap : Nat} {l : PL} (h : LiesS S w a cap l) (hs : w.heap.size ≤ w'.heap.size) (hk : ∀ b, S b → b < w.heap.size → w'.heap[b]? = w.heap[b]?) : LiesS S w' a cap l :=
  fun w2 h2 hk2 => h w2 (by omega) fun b hb hlt => (hk2 b hb (by omega)).trans (hk b hb hlt)
theorem LiesS.mono {S S' : Nat → Prop} {w : World} {a : Option Addr} {cap : Nat} {l : PL} (h : LiesS S w a cap l) (hS : ∀ b, S b → b < w.heap.size → S' b) : LiesS S' w a cap l :=
  fun w2 h2 hk2 => h w2 h2 fun b hb hlt => hk2 b (hS b hb hlt) hlt

def CellsS (S : Nat → Prop) (w : World) : PL → List Value → Prop
  | .nil, xs => xs = []
  | .cons k q t o f r, xs => ∃ a cap ys, xs = .int .i64 k :: .bool q :: .string t :: .string o :: .slice a f.len cap :: ys ∧ t.size ≤ R ∧ o.size ≤ R ∧ LiesS S w a cap f ∧ CellsS S w r ys
theorem CellsS.cells {S : Nat → Prop} {w : World} : ∀ {l : PL} {xs : List Value}, CellsS S w l xs → CellsP w l xs
  | .nil, _, h => h
  | .cons _ _ _ _ _ _, _, ⟨a, cap, ys, hx, h1, h2, h3, h⟩ => ⟨a, cap, ys, hx, h1, h2, h3.lies, CellsS.cells h⟩
theorem CellsS.keep {S : Nat → Prop} {w w' : World} (hs : w.heap.size ≤ w'.heap.size) (hk : ∀ b, S b → b < w.heap.size → w'.heap[b]? = w.heap[b]?) : ∀ {l : PL} {xs : List Value}, CellsS S w l xs → CellsS S w' l xs
  | .nil, _, h => h
  | .cons _ _ _ _ _ _, _, ⟨a, cap, ys, hx, h1, h2, h3, h⟩ => ⟨a, cap, ys, hx, h1, h2, h3.keep hs hk, CellsS.keep hs hk h⟩
theorem CellsS.mono {S S' : Nat → Prop} {w : World} (hS : ∀ b, S b → b < w.heap.size → S' b) : ∀ {l : PL} {xs : List Value}, CellsS S w l xs → CellsS S' w l xs
  | .nil, _, h => h
  | .cons _ _ _ _ _ _, _, ⟨a, cap, ys, hx, h1, h2, h3, h⟩ => ⟨a, cap, ys, hx, h1, h2, h3.mono hS, CellsS.mono hS h⟩
theorem CellsS.app {S : Nat → Prop} {w : World} : ∀ {l m : PL} {xs ys : List Value}, CellsS S w l xs → CellsS S w m ys → CellsS S w (l.app m) (xs ++ ys)
  | .nil, m, xs, ys, h, k => by cases h; exact k
  | .cons _ _ _ _ _ r, m, xs, ys, ⟨a, cap, zs, hx, h1, h2, h3, h⟩, k => ⟨a, cap, zs ++ ys, by subst hx; rfl, h1, h2, h3, CellsS.app h k⟩

/-- Parts, and the text that has begun. -/
structure A where
  l : PL
  cur : Option (Bool × List UInt8)
namespace A
def lit (q : Bool) (bs : List UInt8) : PL := .cons 1 q ⟨bs.toArray⟩ ⟨#[]⟩ .nil .nil
def flush (a : A) : PL := match a.cur with | none => a.l | some x => a.l.app (lit x.1 x.2)
def begins (a : A) (q : Bool) : A := match a.cur with | some x => if x.1 == q then a else ⟨a.flush, some (q, [])⟩ | none => ⟨a.l, some (q, [])⟩
def bytes (a : A) : List UInt8 := match a.cur with | none => [] | some x => x.2
def text (a : A) (s : List UInt8) (q : Bool) : A := ⟨(a.begins q).l, some (q, (a.begins q).bytes ++ s)⟩
def add (a : A) (p : PL) : A := ⟨a.flush.app p, none⟩
def join (a : A) : PL → A
  | .nil => a
  | .cons k q t o f r => if k == 1 then join (a.text t.data.toList q) r else join (a.add (.cons k q t o f .nil)) r
end A

/-- What parts on their way hold, but for their own cells. -/
def Body (w : World) (B : Nat) (S : Nat → Prop) (vl vb : Value) (l : PL) (bs : List UInt8) : Prop :=
  ∃ xs, w.ownsRow B 53 5 vl l.len xs ∧ CellsS S w l xs ∧ (∀ g, vl.ownBlock = some g → ¬ S g) ∧
    w.ownsRow B 5 1 vb bs.length (Lib.byteCells bs) ∧ (∀ g, vb.ownBlock = some g → ¬ S g)
/-- Where parts on their way lie. -/
def AccAt (w : World) (B : Nat) (S : Nat → Prop) (p : Nat) (a : A) : Prop :=
  ∃ vl vb q, w.heap[p]? = some (.cells #[vl, vb, .bool a.cur.isSome, .bool q] 110 (0, 0)) ∧ B ≤ p ∧ ¬ S p ∧ (∀ x, a.cur = some x → q = x.1) ∧ Body w B S vl vb a.l a.bytes

/-- What has turned: neither what was there when the owner began, nor what is sealed. -/
structure Fr (B : Nat) (S : Nat → Prop) (w w' : World) : Prop where
  os : w'.os = w.os
  tape : w'.tape = w.tape
  output : w'.output = w.output
  size : w.heap.size ≤ w'.heap.size
  block : ∀ b, b < w.heap.size → (b < B ∨ S b) → w'.heap[b]? = w.heap[b]?
namespace Fr
variable {B : Nat} {S : Nat → Prop} {w w' w'' : World}
theorem refl (B : Nat) (S : Nat → Prop) (w : World) : Fr B S w w := ⟨rfl, rfl, rfl, Nat.le_refl _, fun _ _ _ => rfl⟩
theorem trans (h : Fr B S w w') (k : Fr B S w' w'') : Fr B S w w'' :=
  ⟨k.os.trans h.os, k.tape.trans h.tape, k.output.trans h.output, Nat.le_trans h.size k.size, fun b hb ho => (k.block b (Nat.lt_of_lt_of_le hb h.size) ho).trans (h.block b hb ho)⟩
theorem drew (h : Fr B S w w') : Fr B S w w'.drew := ⟨h.os, h.tape, h.output, h.size, h.block⟩
theorem of_below (h : Below w.heap.size w w') : Fr B S w w' := ⟨h.os, h.tape, h.output, h.size, fun b hb _ => h.block b hb⟩
theorem alloc (h : Fr B S w w') (o : Obj) : Fr B S w (w'.alloc o) := h.trans (of_below (bel1 w' o))
theorem setCell (h : Fr B S w w') {a : Addr} (ha : B ≤ a.block) (hS : ¬ S a.block) (v : Value) : Fr B S w (w'.setCell a v) :=
  h.trans ⟨rfl, rfl, rfl, by simp [World.setCell], fun b _ ho => Below.heap_setCell _ _ _ _ (by
    rintro rfl
    rcases ho with ho | ho
    · omega
    · exact hS ho)⟩
theorem grown {row : Option Nat} (h : Fr B S w w') (hg : w'.grownBy w'' row) (hr : ∀ k, row = some k → B ≤ k ∧ ¬ S k) : Fr B S w w'' :=
  h.trans ⟨hg.os, hg.tape, hg.output, hg.size, fun b hb ho => hg.block b hb (by
    intro e
    obtain ⟨h1, h2⟩ := hr b e.symm
    rcases ho with ho | ho
    · omega
    · exact h2 ho)⟩
theorem below (h : Fr B S w w') (hB : B ≤ w.heap.size) : Below B w w' := ⟨h.os, h.tape, h.output, h.size, fun k hk => h.block k (by omega) (.inl hk)⟩
theorem cell (h : Fr B S w w') {a : Addr} (ha : a.block < w.heap.size) (ho : a.block < B ∨ S a.block) : w'.cell? a = w.cell? a := World.cell?_of_block (w := w) (h.block _ ha ho)
end Fr

/-- A row of the call's own, behind a store elsewhere. -/
theorem own_other {w : World} {base : Nat} {e : TypeId} {size : Nat} {v : Value} {n : Nat} {xs : List Value} (h : w.ownsRow base e size v n xs) {a : Addr} (ha : ∀ g, v.ownBlock = some g → g ≠ a.block) (u : Value) : (w.setCell a u).ownsRow base e size v n xs := by
  obtain ⟨h1, h2⟩ := h
  refine ⟨h1, ?_⟩
  rcases h2 with h2 | ⟨g, cap, cur, rfl, hb, hg, hr⟩
  · exact .inl h2
  · exact .inr ⟨g, cap, cur, rfl, hb, (Below.heap_setCell _ _ _ _ (ha g rfl)).trans hg, hr⟩
/-- .. behind whatever left its block alone. -/
theorem own_keep {w w' : World} {base : Nat} {e : TypeId} {size : Nat} {v : Value} {n : Nat} {xs : List Value} (h : w.ownsRow base e size v n xs) (hk : ∀ g, v.ownBlock = some g → g < w.heap.size → w'.heap[g]? = w.heap[g]?) : w'.ownsRow base e size v n xs := by
  obtain ⟨h1, h2⟩ := h
  refine ⟨h1, ?_⟩
  rcases h2 with h2 | ⟨g, cap, cur, rfl, hb, hg, hr⟩
  · exact .inl h2
  · exact .inr ⟨g, cap, cur, rfl, hb, (hk g rfl (Array.getElem?_eq_some_iff.1 hg).1).trans hg, hr⟩
/-- A row's block is of the row's type. -/
theorem own_type {w : World} {base : Nat} {e : TypeId} {size : Nat} {v : Value} {n : Nat} {xs : List Value} (h : w.ownsRow base e size v n xs) {g : Nat} (hg : v.ownBlock = some g) : ∃ cur, w.heap[g]? = some (.cells cur e (0, 0)) := by
  rcases h.2 with ⟨rfl, _⟩ | ⟨g', cap, cur, rfl, _, hgg, _⟩
  · simp [Value.ownBlock] at hg
  · simp [Value.ownBlock] at hg
    subst hg
    exact ⟨cur, hgg⟩
theorem type_ne {w : World} {g p : Nat} {c c' : Array Value} {e e' : TypeId} (h : w.heap[g]? = some (.cells c e (0, 0))) (h' : w.heap[p]? = some (.cells c' e' (0, 0))) (he : e ≠ e') : g ≠ p := by
  rintro rfl
  rw [h] at h'
  simp only [Option.some.injEq, Obj.cells.injEq] at h'
  exact he h'.2.1
/-- The first none of a row. -/
theorem own_none {w : World} {base : Nat} {e : TypeId} {v : Value} {n : Nat} {xs : List Value} (h : w.ownsRow base e 1 v n xs) : ∃ a cap, v = .slice a n cap ∧ w.ownsRow base e 1 (.slice a 0 cap) 0 [] ∧ (Value.slice a 0 cap).ownBlock = v.ownBlock := by
  rcases h.2 with ⟨rfl, rfl⟩ | ⟨g, cap, cur, rfl, hb, hg, h1, h2, h3, _⟩
  · exact ⟨none, 0, rfl, ⟨rfl, .inl ⟨rfl, rfl⟩⟩, rfl⟩
  · exact ⟨_, cap, rfl, ⟨rfl, .inr ⟨g, cap, cur, rfl, hb, hg, Nat.zero_le _, h2, h3, by simp⟩⟩, rfl⟩

theorem Body.keep {w w' : World} {B : Nat} {S : Nat → Prop} {vl vb : Value} {l : PL} {bs : List UInt8} (h : Body w B S vl vb l bs) (hs : w.heap.size ≤ w'.heap.size)
    (hk : ∀ b, b < w.heap.size → (S b ∨ vl.ownBlock = some b ∨ vb.ownBlock = some b) → w'.heap[b]? = w.heap[b]?) : Body w' B S vl vb l bs := by
  obtain ⟨xs, h1, h2, h3, h4, h5⟩ := h
  exact ⟨xs, own_keep h1 fun g hg hlt => hk g hlt (.inr (.inl hg)), h2.keep hs fun b hb hlt => hk b hlt (.inl hb), h3, own_keep h4 fun g hg hlt => hk g hlt (.inr (.inr hg)), h5⟩
theorem Body.ne {w : World} {B p : Nat} {S : Nat → Prop} {vl vb : Value} {l : PL} {bs : List UInt8} {c : Array Value} (h : Body w B S vl vb l bs) (hp : w.heap[p]? = some (.cells c 110 (0, 0))) (hS : ¬ S p) :
    ∀ b, (S b ∨ vl.ownBlock = some b ∨ vb.ownBlock = some b) → b ≠ p := by
  obtain ⟨xs, h1, h2, h3, h4, h5⟩ := h
  rintro b (hb | hb | hb)
  · rintro rfl; exact hS hb
  · obtain ⟨cur, hc⟩ := own_type h1 hb
    exact type_ne hc hp (by decide)
  · obtain ⟨cur, hc⟩ := own_type h4 hb
    exact type_ne hc hp (by decide)
/-- A store into the parts' own cells. -/
theorem Body.setP {w : World} {B p : Nat} {S : Nat → Prop} {vl vb : Value} {l : PL} {bs : List UInt8} {c : Array Value} (h : Body w B S vl vb l bs) (hp : w.heap[p]? = some (.cells c 110 (0, 0))) (hS : ¬ S p) (i : Nat) (v : Value) :
    Body (w.setCell ⟨p, i, none⟩ v) B S vl vb l bs :=
  h.keep (by simp) fun b _ ho => Below.heap_setCell _ _ _ _ (h.ne hp hS b ho)
theorem Body.heap {w w' : World} {B : Nat} {S : Nat → Prop} {vl vb : Value} {l : PL} {bs : List UInt8} (h : Body w B S vl vb l bs) (hh : w'.heap = w.heap) : Body w' B S vl vb l bs :=
  h.keep (by rw [hh]; exact Nat.le_refl _) fun b _ _ => by rw [hh]
theorem Body.none {w : World} {B : Nat} {S : Nat → Prop} {vl vb : Value} {l : PL} {bs : List UInt8} (h : Body w B S vl vb l bs) : ∃ a cap, vb = .slice a bs.length cap ∧ Body w B S vl (.slice a 0 cap) l [] := by
  obtain ⟨xs, h1, h2, h3, h4, h5⟩ := h
  obtain ⟨a, cap, hv, hn, ho⟩ := own_none h4
  exact ⟨a, cap, hv, xs, h1, h2, h3, hn, fun g hg => h5 g (ho ▸ hg)⟩

/-- A reader, as it lies. -/
def RAt (w : World) (rb : Nat) (s : ByteArray) (i : Nat) : Prop := w.heap[rb]? = some (.cells #[.string s, .int .i64 i] 81 (0, 0))
theorem RAt.c0 {w : World} {rb i : Nat} {s : ByteArray} (h : RAt w rb s i) : w.cell? ⟨rb, 0, none⟩ = some (.string s) := Lib.cell_of_heap h 0
theorem RAt.c1 {w : World} {rb i : Nat} {s : ByteArray} (h : RAt w rb s i) : w.cell? ⟨rb, 1, none⟩ = some (.int .i64 i) := Lib.cell_of_heap h 1
theorem RAt.f1 {w : World} {rb i : Nat} {s : ByteArray} (h : RAt w rb s i) : w.frozen? ⟨rb, 1, none⟩ = false := frozen_of_row _ _ _ _ _ h
theorem RAt.lt {w : World} {rb i : Nat} {s : ByteArray} (h : RAt w rb s i) : rb < w.heap.size := (Array.getElem?_eq_some_iff.1 h).1
theorem RAt.set {w : World} {rb i : Nat} {s : ByteArray} (h : RAt w rb s i) (j : Nat) : RAt (w.setCell ⟨rb, 1, none⟩ (.int .i64 j)) rb s j := heap_setCell_same _ _ 1 _ _ _ h
end Lx
end Go.Proofs.Ytgpnleenejjnmaa
