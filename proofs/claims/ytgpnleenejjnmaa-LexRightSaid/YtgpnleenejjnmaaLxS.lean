/- (*lex.reader).token, for every text and place. -/
import Derived.Test.YtgpnleenejjnmaaLxR
namespace Go.Proofs.Ytgpnleenejjnmaa
open Go.RowKit Go.Sort
namespace Lx
open Cls Pt

/-- What token begins here: its kind, its place, its text, its parts, what is wrong; and where it ends. -/
structure Tok where
  k : Nat
  i : Nat
  t : ByteArray
  l : PL
  err : Nat
  j : Nat
def tokF (s : ByteArray) (i : Nat) : Tok :=
  if s.size ≤ i then ⟨4, i, ⟨#[]⟩, .nil, 0, i⟩
  else if byteAt s i = 10 then ⟨3, i, ⟨#[]⟩, .nil, 0, i + 1⟩
  else if signB (byteAt s i).toNat then
    if signLen (restAt s i) = 0 then ⟨5, i, ⟨#[]⟩, .nil, 1, i⟩ else ⟨2, i, (s.extract i s.size).extract 0 (signLen (restAt s i)), .nil, 0, i + signLen (restAt s i)⟩
  else match bareF (s.size + 1) s 0 A0 i with
    | .ok l j => ⟨1, i, ⟨#[]⟩, l, 0, j⟩
    | .bad j err => ⟨5, j, ⟨#[]⟩, .nil, err, j⟩

theorem start_r (w : World) (rb i : Nat) (s : ByteArray) (hR : RAt w rb s i) (o1 o2 : Obj) : RAt ((w.alloc o1).alloc o2) rb s i :=
  ((((Below.refl w.heap.size w).alloc (Nat.le_refl _) o1).alloc (by simp) o2).block _ hR.lt).trans hR
theorem start_t (w : World) (rb i : Nat) (s : ByteArray) (hR : RAt w rb s i) :
    RAt ((w.alloc (.cells #[.pointer (some ⟨rb, 0, none⟩)] 98)).alloc (.cells #[.int .i64 0, .int .i64 i, .string ⟨#[]⟩, .slice none 0 0, .int .i64 0] 29)) rb s i ∧
    ((w.alloc (.cells #[.pointer (some ⟨rb, 0, none⟩)] 98)).alloc (.cells #[.int .i64 0, .int .i64 i, .string ⟨#[]⟩, .slice none 0 0, .int .i64 0] 29)).heap[w.heap.size]? = some (.cells #[.pointer (some ⟨rb, 0, none⟩)] 98 (0, 0)) ∧
    TokAt ((w.alloc (.cells #[.pointer (some ⟨rb, 0, none⟩)] 98)).alloc (.cells #[.int .i64 0, .int .i64 i, .string ⟨#[]⟩, .slice none 0 0, .int .i64 0] 29)) (w.heap.size + 1) 0 i ⟨#[]⟩ (.slice none 0 0) 0 ∧
    FrR rb w.heap.size (fun _ => False) w ((w.alloc (.cells #[.pointer (some ⟨rb, 0, none⟩)] 98)).alloc (.cells #[.int .i64 0, .int .i64 i, .string ⟨#[]⟩, .slice none 0 0, .int .i64 0] 29)) := by
  have hb := ((Below.refl w.heap.size w).alloc (Nat.le_refl _) (.cells #[.pointer (some ⟨rb, 0, none⟩)] 98)).alloc (by simp) (.cells #[.int .i64 0, .int .i64 i, .string ⟨#[]⟩, .slice none 0 0, .int .i64 0] 29)
  have h : ∀ (W : World) (o : Obj), (W.alloc o).heap[W.heap.size]? = some o := fun W o => by
    show (W.heap.push o)[W.heap.size]? = some o
    exact Array.getElem?_push_size
  have hsz : (w.alloc (.cells #[.pointer (some ⟨rb, 0, none⟩)] 98)).heap.size = w.heap.size + 1 := by simp
  refine ⟨(hb.block _ hR.lt).trans hR, ?_, ?_, FrR.of_fr (Fr.of_below hb)⟩
  · exact (Below.heap_alloc _ _ _ (by rw [hsz]; omega)).trans (h w _)
  · have h2 := h (w.alloc (.cells #[.pointer (some ⟨rb, 0, none⟩)] 98)) (.cells #[.int .i64 0, .int .i64 i, .string ⟨#[]⟩, .slice none 0 0, .int .i64 0] 29)
    rw [hsz] at h2
    exact h2

/-- What a token's reading answers. -/
def GotT (rb : Nat) (s : ByteArray) (w : World) (o : Tok) (e : Ending) (w' : World) : Prop :=
  (∃ a cap, e = .returned (.agg #[.int .i64 o.k, .int .i64 o.i, .string o.t, .slice a o.l.len cap, .int .i64 o.err]) ∧ LiesS (fun b => w.heap.size ≤ b) w' a cap o.l) ∧ RAt w' rb s o.j ∧ FrR rb w.heap.size (fun _ => False) w w'

set_option maxHeartbeats 800000 in
set_option maxRecDepth 100000 in
/-- Behind the door, where it came back: the token that was laid. -/
theorem door_ret {s : ByteArray} {rb tb rv : Nat} {w w1 : World} {o : Tok} {tmps : Array Value} {a : Option Addr} {cap : Nat} (h2 : tmps[2]?.getD undef = .pointer (some ⟨tb, 0, none⟩)) (hT : TokAt w1 tb o.k o.i o.t (.slice a o.l.len cap) o.err) (hR : RAt w1 rb s o.j) (hF : FrR rb w.heap.size (fun _ => False) w w1) (hL : LiesS (fun b => w.heap.size ≤ b) w1 a cap o.l) :
    bodyPostD Try.prog Try.f45 (GotT rb s w o) Exit.ret { tmps := tmps, defers := [{ target := Target.fn (Fn.func 70) #[.pointer (some ⟨tb, 0, none⟩), .pointer (some ⟨rv, 0, none⟩)], args := #[] }] } w1 := by
  refine leaves_cons (f := 70) (args := #[.pointer (some ⟨tb, 0, none⟩), .pointer (some ⟨rv, 0, none⟩)]) (by simp) (by simp [go_sem]) ?_
  refine (token_idle tb rv _).mono ?_
  rintro e u' w2 ⟨rfl, rfl, hb⟩
  have hT2 : TokAt w2 tb o.k o.i o.t (.slice a o.l.len cap) o.err := (hb.block _ (Array.getElem?_eq_some_iff.1 hT).1).trans hT
  have hR2 : RAt w2 rb s o.j := (hb.block _ hR.lt).trans hR
  have hF2 : FrR rb w.heap.size (fun _ => False) w w2 := hF.trans ⟨hb.os, hb.tape, hb.output, hb.size, fun b hlt _ => hb.block b hlt⟩
  have hL2 : LiesS (fun b => w.heap.size ≤ b) w2 a cap o.l := hL.keep hb.size fun b _ hlt => hb.block b hlt
  have x0 : w2.cell? ⟨tb, 0, none⟩ = some (.int .i64 o.k) := Lib.cell_of_heap hT2 0
  have x1 : w2.cell? ⟨tb, 1, none⟩ = some (.int .i64 o.i) := Lib.cell_of_heap hT2 1
  have x2 : w2.cell? ⟨tb, 2, none⟩ = some (.string o.t) := Lib.cell_of_heap hT2 2
  have x3 : w2.cell? ⟨tb, 3, none⟩ = some (.slice a o.l.len cap) := Lib.cell_of_heap hT2 3
  have x4 : w2.cell? ⟨tb, 4, none⟩ = some (.int .i64 o.err) := Lib.cell_of_heap hT2 4
  have hg : GotT rb s w o (.returned (.agg #[.int .i64 o.k, .int .i64 o.i, .string o.t, .slice a o.l.len cap, .int .i64 o.err])) w2 := ⟨⟨a, cap, rfl, hL2⟩, hR2, hF2⟩
  simp [Leaves, settle, results, Try.results45, go_sem, h2, x0, x1, x2, x3, x4]
  exact hg

set_option maxHeartbeats 800000 in
set_option maxRecDepth 100000 in
/-- Behind the door, where it was broken off: a token that is bad. -/
theorem door_thrown {s : ByteArray} {rb tb rv x j err : Nat} {w w1 : World} {tmps : Array Value} {k0 i0 : Nat} {t0 : ByteArray} {v0 : Value} {e0 : Nat} (ty : TypeId) (h2 : tmps[2]?.getD undef = .pointer (some ⟨tb, 0, none⟩)) (hB : w1.heap[rv]? = some (.cells #[.pointer (some ⟨rb, 0, none⟩)] ty (0, 0))) (hT : TokAt w1 tb k0 i0 t0 v0 e0) (hR : RAt w1 rb s x) (hF : FrR rb w.heap.size (fun _ => False) w w1) (hrt : rb ≠ tb) (hvt : rv ≠ tb) (htb : w.heap.size ≤ tb) :
    bodyPostD Try.prog Try.f45 (GotT rb s w ⟨5, j, ⟨#[]⟩, .nil, err, j⟩) (Exit.panic [{ v := faultV j err, recovered := false }]) { tmps := tmps, defers := [{ target := Target.fn (Fn.func 70) #[.pointer (some ⟨tb, 0, none⟩), .pointer (some ⟨rv, 0, none⟩)], args := #[] }] } w1 := by
  refine leaves_cons (f := 70) (args := #[.pointer (some ⟨tb, 0, none⟩), .pointer (some ⟨rv, 0, none⟩)]) (by simp) (by simp [go_sem]) ?_
  refine (token_caught tb rv rb x j err s w1 ty hB k0 i0 t0 v0 e0 hT hR hrt hvt).mono ?_
  rintro e u' w2 ⟨rfl, rfl, hR2, hT2, hfr⟩
  have hF2 : FrR rb w.heap.size (fun _ => False) w w2 := hF.trans ⟨hfr.os, hfr.tape, hfr.output, hfr.size, fun b hb ho => by
    rcases ho with ho | ho
    · exact hfr.block b hb ho.2 (by omega)
    · exact ho.elim⟩
  have x0 : w2.cell? ⟨tb, 0, none⟩ = some (.int .i64 5) := Lib.cell_of_heap hT2 0
  have x1 : w2.cell? ⟨tb, 1, none⟩ = some (.int .i64 j) := Lib.cell_of_heap hT2 1
  have x2 : w2.cell? ⟨tb, 2, none⟩ = some (.string ⟨#[]⟩) := Lib.cell_of_heap hT2 2
  have x3 : w2.cell? ⟨tb, 3, none⟩ = some (.slice none 0 0) := Lib.cell_of_heap hT2 3
  have x4 : w2.cell? ⟨tb, 4, none⟩ = some (.int .i64 err) := Lib.cell_of_heap hT2 4
  have hg : GotT rb s w ⟨5, j, ⟨#[]⟩, .nil, err, j⟩ (.returned (.agg #[.int .i64 5, .int .i64 j, .string ⟨#[]⟩, .slice none 0 0, .int .i64 err])) w2 := ⟨⟨none, 0, rfl, fun _ _ _ => ⟨Nat.le_refl _, Nat.zero_le _, .inl rfl⟩⟩, hR2, hF2⟩
  simp [Leaves, settle, results, Try.results45, go_sem, h2, x0, x1, x2, x3, x4]
  exact hg
theorem tok_back {W : World} {tb k i : Nat} {t : ByteArray} {v : Value} {err : Nat} (hT : TokAt W tb k i t v err) :
    TokAt (((((W.setCell ⟨tb, 0, none⟩ (.int .i64 k)).setCell ⟨tb, 1, none⟩ (.int .i64 i)).setCell ⟨tb, 2, none⟩ (.string t)).setCell ⟨tb, 3, none⟩ v).setCell ⟨tb, 4, none⟩ (.int .i64 err)) tb k i t v err ∧ (∀ b, b ≠ tb → (((((W.setCell ⟨tb, 0, none⟩ (.int .i64 k)).setCell ⟨tb, 1, none⟩ (.int .i64 i)).setCell ⟨tb, 2, none⟩ (.string t)).setCell ⟨tb, 3, none⟩ v).setCell ⟨tb, 4, none⟩ (.int .i64 err)).heap[b]? = W.heap[b]?) ∧ (((((W.setCell ⟨tb, 0, none⟩ (.int .i64 k)).setCell ⟨tb, 1, none⟩ (.int .i64 i)).setCell ⟨tb, 2, none⟩ (.string t)).setCell ⟨tb, 3, none⟩ v).setCell ⟨tb, 4, none⟩ (.int .i64 err)).heap.size = W.heap.size ∧ (((((W.setCell ⟨tb, 0, none⟩ (.int .i64 k)).setCell ⟨tb, 1, none⟩ (.int .i64 i)).setCell ⟨tb, 2, none⟩ (.string t)).setCell ⟨tb, 3, none⟩ v).setCell ⟨tb, 4, none⟩ (.int .i64 err)).os = W.os ∧ (((((W.setCell ⟨tb, 0, none⟩ (.int .i64 k)).setCell ⟨tb, 1, none⟩ (.int .i64 i)).setCell ⟨tb, 2, none⟩ (.string t)).setCell ⟨tb, 3, none⟩ v).setCell ⟨tb, 4, none⟩ (.int .i64 err)).tape = W.tape ∧ (((((W.setCell ⟨tb, 0, none⟩ (.int .i64 k)).setCell ⟨tb, 1, none⟩ (.int .i64 i)).setCell ⟨tb, 2, none⟩ (.string t)).setCell ⟨tb, 3, none⟩ v).setCell ⟨tb, 4, none⟩ (.int .i64 err)).output = W.output :=
  ⟨heap_setCell_same _ _ 4 _ _ (.int .i64 err) (heap_setCell_same _ _ 3 _ _ v (heap_setCell_same _ _ 2 _ _ (.string t) (heap_setCell_same _ _ 1 _ _ (.int .i64 i) (heap_setCell_same _ _ 0 _ _ (.int .i64 k) hT)))),
   fun b hb => (Below.heap_setCell _ _ _ _ hb).trans <| (Below.heap_setCell _ _ _ _ hb).trans <| (Below.heap_setCell _ _ _ _ hb).trans <| (Below.heap_setCell _ _ _ _ hb).trans <| Below.heap_setCell _ _ _ _ hb, by simp, (so _ _ _).trans <| (so _ _ _).trans <| (so _ _ _).trans <| (so _ _ _).trans <| so _ _ _, (st _ _ _).trans <| (st _ _ _).trans <| (st _ _ _).trans <| (st _ _ _).trans <| st _ _ _, (su _ _ _).trans <| (su _ _ _).trans <| (su _ _ _).trans <| (su _ _ _).trans <| su _ _ _⟩

/-- As door_ret, behind 'return t', which lays the token once more where it lies. -/
theorem door_back {s : ByteArray} {rb tb rv : Nat} {w W : World} (o : Tok) {tmps : Array Value} {a : Option Addr} {cap : Nat} (h2 : tmps[2]?.getD undef = .pointer (some ⟨tb, 0, none⟩)) (hT : TokAt W tb o.k o.i o.t (.slice a o.l.len cap) o.err) (hR : RAt W rb s o.j) (hF : FrR rb w.heap.size (fun _ => False) w W) (hL : LiesS (fun b => w.heap.size ≤ b ∧ b ≠ tb) W a cap o.l) (htb : w.heap.size ≤ tb) (hrt : rb ≠ tb) :
    bodyPostD Try.prog Try.f45 (GotT rb s w o) Exit.ret { tmps := tmps, defers := [{ target := Target.fn (Fn.func 70) #[.pointer (some ⟨tb, 0, none⟩), .pointer (some ⟨rv, 0, none⟩)], args := #[] }] } (((((W.setCell ⟨tb, 0, none⟩ (.int .i64 o.k)).setCell ⟨tb, 1, none⟩ (.int .i64 o.i)).setCell ⟨tb, 2, none⟩ (.string o.t)).setCell ⟨tb, 3, none⟩ (.slice a o.l.len cap)).setCell ⟨tb, 4, none⟩ (.int .i64 o.err)) := by
  obtain ⟨h1, hk, hz, h3, h4, h5⟩ := tok_back hT
  exact door_ret h2 h1 ((hk rb hrt).trans hR) (hF.trans ⟨h3, h4, h5, by rw [hz]; exact Nat.le_refl _, fun b _ ho => hk b (by
    rcases ho with ho | ho
    · omega
    · exact ho.elim)⟩) ((hL.keep (by rw [hz]; exact Nat.le_refl _) fun b hb _ => hk b hb.2).mono fun b hb _ => hb.1)
end Lx
end Go.Proofs.Ytgpnleenejjnmaa
