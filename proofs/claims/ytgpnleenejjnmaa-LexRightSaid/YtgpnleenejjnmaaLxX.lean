/- Next, for every text and every place of it. -/
import Derived.Test.YtgpnleenejjnmaaLxVT
import Derived.Test.YtgpnleenejjnmaaLxT
import Derived.Test.YtgpnleenejjnmaaLxW
namespace Go.Proofs.Ytgpnleenejjnmaa
open Go.RowKit Go.Sort
namespace Lx
open Cls Pt

/-- What Next answers. -/
def GotN (w : World) (o : Tok) (e : Ending) (w' : World) : Prop :=
  ∃ a cap, e = .returned (.tuple #[.agg #[.int .i64 o.k, .int .i64 o.i, .string o.t, .slice a o.l.len cap, .int .i64 o.err], .int .i64 o.j]) ∧ LiesS (fun b => w.heap.size ≤ b) w' a cap o.l ∧ Below w.heap.size w w'

theorem tok_put {W : World} {tb k i k0 i0 : Nat} {t t0 : ByteArray} {v v0 : Value} {err e0 : Nat} (hT : TokAt W tb k0 i0 t0 v0 e0) :
    TokAt (((((W.setCell ⟨tb, 0, none⟩ (.int .i64 k)).setCell ⟨tb, 1, none⟩ (.int .i64 i)).setCell ⟨tb, 2, none⟩ (.string t)).setCell ⟨tb, 3, none⟩ v).setCell ⟨tb, 4, none⟩ (.int .i64 err)) tb k i t v err ∧ (∀ b, b ≠ tb → (((((W.setCell ⟨tb, 0, none⟩ (.int .i64 k)).setCell ⟨tb, 1, none⟩ (.int .i64 i)).setCell ⟨tb, 2, none⟩ (.string t)).setCell ⟨tb, 3, none⟩ v).setCell ⟨tb, 4, none⟩ (.int .i64 err)).heap[b]? = W.heap[b]?) ∧ (((((W.setCell ⟨tb, 0, none⟩ (.int .i64 k)).setCell ⟨tb, 1, none⟩ (.int .i64 i)).setCell ⟨tb, 2, none⟩ (.string t)).setCell ⟨tb, 3, none⟩ v).setCell ⟨tb, 4, none⟩ (.int .i64 err)).heap.size = W.heap.size ∧ (((((W.setCell ⟨tb, 0, none⟩ (.int .i64 k)).setCell ⟨tb, 1, none⟩ (.int .i64 i)).setCell ⟨tb, 2, none⟩ (.string t)).setCell ⟨tb, 3, none⟩ v).setCell ⟨tb, 4, none⟩ (.int .i64 err)).os = W.os ∧ (((((W.setCell ⟨tb, 0, none⟩ (.int .i64 k)).setCell ⟨tb, 1, none⟩ (.int .i64 i)).setCell ⟨tb, 2, none⟩ (.string t)).setCell ⟨tb, 3, none⟩ v).setCell ⟨tb, 4, none⟩ (.int .i64 err)).tape = W.tape ∧ (((((W.setCell ⟨tb, 0, none⟩ (.int .i64 k)).setCell ⟨tb, 1, none⟩ (.int .i64 i)).setCell ⟨tb, 2, none⟩ (.string t)).setCell ⟨tb, 3, none⟩ v).setCell ⟨tb, 4, none⟩ (.int .i64 err)).output = W.output :=
  ⟨heap_setCell_same _ _ 4 _ _ (.int .i64 err) (heap_setCell_same _ _ 3 _ _ v (heap_setCell_same _ _ 2 _ _ (.string t) (heap_setCell_same _ _ 1 _ _ (.int .i64 i) (heap_setCell_same _ _ 0 _ _ (.int .i64 k) hT)))),
   fun b hb => (Below.heap_setCell _ _ _ _ hb).trans <| (Below.heap_setCell _ _ _ _ hb).trans <| (Below.heap_setCell _ _ _ _ hb).trans <| (Below.heap_setCell _ _ _ _ hb).trans <| Below.heap_setCell _ _ _ _ hb, by simp, (so _ _ _).trans <| (so _ _ _).trans <| (so _ _ _).trans <| (so _ _ _).trans <| so _ _ _, (st _ _ _).trans <| (st _ _ _).trans <| (st _ _ _).trans <| (st _ _ _).trans <| st _ _ _, (su _ _ _).trans <| (su _ _ _).trans <| (su _ _ _).trans <| (su _ _ _).trans <| su _ _ _⟩
set_option maxHeartbeats 800000 in
set_option maxRecDepth 100000 in
/-- Behind 'return t, r.at'. -/
theorem next_end {w W U : World} {o : Tok} {a : Option Addr} {cap tb : Nat} {tmps : Array Value} (h4 : tmps[4]?.getD undef = .pointer (some ⟨tb, 0, none⟩)) (h5 : tmps[5]?.getD undef = .int .i64 o.j)
    (hP : TokAt U tb o.k o.i o.t (.slice a o.l.len cap) o.err ∧ (∀ b, b ≠ tb → U.heap[b]? = W.heap[b]?) ∧ U.heap.size = W.heap.size ∧ U.os = W.os ∧ U.tape = W.tape ∧ U.output = W.output)
    (hb : Below w.heap.size w W) (htb : w.heap.size ≤ tb) (hL : LiesS (fun b => w.heap.size ≤ b ∧ b ≠ tb) W a cap o.l) :
    bodyPost Try.prog Try.f19 (GotN w o) Exit.ret { tmps := tmps, defers := [] } U := by
  obtain ⟨h1, hk, hz, h3, h6, h7⟩ := hP
  have x0 : U.cell? ⟨tb, 0, none⟩ = some (.int .i64 o.k) := Lib.cell_of_heap h1 0
  have x1 : U.cell? ⟨tb, 1, none⟩ = some (.int .i64 o.i) := Lib.cell_of_heap h1 1
  have x2 : U.cell? ⟨tb, 2, none⟩ = some (.string o.t) := Lib.cell_of_heap h1 2
  have x3 : U.cell? ⟨tb, 3, none⟩ = some (.slice a o.l.len cap) := Lib.cell_of_heap h1 3
  have x4 : U.cell? ⟨tb, 4, none⟩ = some (.int .i64 o.err) := Lib.cell_of_heap h1 4
  refine bodyPost_ret (v := .tuple #[.agg #[.int .i64 o.k, .int .i64 o.i, .string o.t, .slice a o.l.len cap, .int .i64 o.err], .int .i64 o.j]) (by simp [results, Try.results19, go_sem, h4, h5, x0, x1, x2, x3, x4]) rfl ?_
  exact ⟨a, cap, rfl, (hL.keep (by rw [hz]; exact Nat.le_refl _) fun b hb _ => hk b hb.2).mono fun b hb _ => hb.1, ⟨h3.trans hb.os, h6.trans hb.tape, h7.trans hb.output, by rw [hz]; exact hb.size, fun b hlt => (hk b (by omega)).trans (hb.block b hlt)⟩⟩

set_option maxHeartbeats 1600000 in
set_option maxRecDepth 100000 in
theorem next_any (s : ByteArray) (hs : s.size ≤ 1000000) (i : Nat) (hi : i ≤ s.size) (w : World) :
    Calls Try.prog 19 #[.string s, .int .i64 i] w (GotN w (tokAt s i)) := by
  have hmax : ∀ ts t w, (Builtin.max_ ts t #[.int .i64 (i : Int), .int .i64 0]).run Try.prog w = .ok (.int .i64 (i : Int)) w := fun ts t w => by rw [run_max_int2, if_neg (by omega)]
  have hmin : ∀ ts t w, (Builtin.min_ ts t #[.int .i64 (i : Int), .int .i64 (s.size : Int)]).run Try.prog w = .ok (.int .i64 (i : Int)) w := fun ts t w => by rw [run_min_int2, if_neg (by omega)]
  have hA := fun w => ahead_any s hs i hi w
  have hal := ahead_le s (s.size + 1) i hi
  have hT := fun rb w (hR : RAt w rb s (aheadF (s.size + 1) s i)) => token_any s hs (aheadF (s.size + 1) s i) rb w hR hal.2
  have hO : tokF s (aheadF (s.size + 1) s i) = tokAt s i := rfl
  rw [hO] at hT
  generalize tokAt s i = o at hT ⊢
  generalize aheadF (s.size + 1) s i = m at hA hal hT hO
  have HA := Lib.hid hA; have HT := Lib.hid hT
  clear hA hT hO
  go_enter Try.func19, Try.ntmps19
  go_wp2_with (first
    | (go_at_call 44; refine (HA.out _).mono ?_; rintro e w' ⟨rfl, rfl⟩))
  have hz0 : ((w.alloc (.cells #[.int .i64 0, .int .i64 0, .string ⟨#[]⟩, .slice none 0 0, .int .i64 0] 29)).alloc (.cells #[.string s, .int .i64 m] 81)).heap[w.heap.size]? = some (.cells #[.int .i64 0, .int .i64 0, .string ⟨#[]⟩, .slice none 0 0, .int .i64 0] 29 (0, 0)) := (Below.heap_alloc _ _ _ (by simp)).trans (heap_alloc_new _ _)
  have hr0 : RAt ((w.alloc (.cells #[.int .i64 0, .int .i64 0, .string ⟨#[]⟩, .slice none 0 0, .int .i64 0] 29)).alloc (.cells #[.string s, .int .i64 m] 81)) (w.heap.size + 1) s m := by
    have h := heap_alloc_new (w.alloc (.cells #[.int .i64 0, .int .i64 0, .string ⟨#[]⟩, .slice none 0 0, .int .i64 0] 29)) (.cells #[.string s, .int .i64 m] 81)
    simp only [World.size_alloc] at h
    exact h
  have hb0 : Below w.heap.size w ((w.alloc (.cells #[.int .i64 0, .int .i64 0, .string ⟨#[]⟩, .slice none 0 0, .int .i64 0] 29)).alloc (.cells #[.string s, .int .i64 m] 81)) := ((Below.refl w.heap.size w).alloc (Nat.le_refl _) _).alloc (by simp) _
  have hs0 : ((w.alloc (.cells #[.int .i64 0, .int .i64 0, .string ⟨#[]⟩, .slice none 0 0, .int .i64 0] 29)).alloc (.cells #[.string s, .int .i64 m] 81)).heap.size = w.heap.size + 2 := by simp
  have HT2 := Lib.hid (HT.out _ _ hr0)
  generalize ((w.alloc (.cells #[.int .i64 0, .int .i64 0, .string ⟨#[]⟩, .slice none 0 0, .int .i64 0] 29)).alloc (.cells #[.string s, .int .i64 m] 81)) = W2 at hz0 hr0 hb0 hs0 HT2 ⊢
  have HZ0 := Lib.hid hz0; have HB0 := Lib.hid hb0; have HS0 := Lib.hid hs0
  clear hz0 hr0 hb0 hs0
  refine (HT2.out).mono ?_
  rintro e w1 ⟨⟨a, cap, rfl, hl⟩, hr, hf⟩
  have hs1 : w.heap.size + 2 ≤ w1.heap.size := by have := hf.size; have := HS0.out; omega
  have hz1 : TokAt w1 w.heap.size 0 0 ⟨#[]⟩ (.slice none 0 0) 0 := (hf.block _ (by have := HS0.out; omega) (.inl ⟨by have := HS0.out; omega, by omega⟩)).trans HZ0.out
  have hb1 : Below w.heap.size w w1 := ⟨hf.os.trans HB0.out.os, hf.tape.trans HB0.out.tape, hf.output.trans HB0.out.output, by omega, fun b hb => (hf.block b (by have := HS0.out; omega) (.inl ⟨by have := HS0.out; omega, by omega⟩)).trans (HB0.out.block b hb)⟩
  have hl1 : LiesS (fun b => w.heap.size + 2 ≤ b) w1 a cap o.l := hl.mono fun b hb _ => by have := HS0.out; omega
  clear hl hf HZ0 HB0 HS0 HT2 HT HA hal hmin hmax
  have hb2 := hb1.alloc (by omega) (.cells #[.int .i64 o.k, .int .i64 o.i, .string o.t, .slice a o.l.len cap, .int .i64 o.err] 29)
  have hz2 : TokAt (w1.alloc (.cells #[.int .i64 o.k, .int .i64 o.i, .string o.t, .slice a o.l.len cap, .int .i64 o.err] 29)) w.heap.size 0 0 ⟨#[]⟩ (.slice none 0 0) 0 := (Below.heap_alloc _ _ _ (by omega)).trans hz1
  have hy2 : TokAt (w1.alloc (.cells #[.int .i64 o.k, .int .i64 o.i, .string o.t, .slice a o.l.len cap, .int .i64 o.err] 29)) w1.heap.size o.k o.i o.t (.slice a o.l.len cap) o.err := heap_alloc_new _ _
  have hr2 : RAt (w1.alloc (.cells #[.int .i64 o.k, .int .i64 o.i, .string o.t, .slice a o.l.len cap, .int .i64 o.err] 29)) (w.heap.size + 1) s o.j := (Below.heap_alloc _ _ _ (by omega)).trans hr
  have hl2 : LiesS (fun b => w.heap.size ≤ b ∧ b ≠ w.heap.size) (w1.alloc (.cells #[.int .i64 o.k, .int .i64 o.i, .string o.t, .slice a o.l.len cap, .int .i64 o.err] 29)) a cap o.l := (hl1.keep (by simp) fun b _ hlt => Below.heap_alloc _ _ _ hlt).mono fun b hb _ => by omega
  have HZ2 := Lib.hid hz2; have HY2 := Lib.hid hy2; have HR2 := Lib.hid hr2; have HL2 := Lib.hid hl2; have HB2 := Lib.hid hb2
  clear hb1 hz1 hr hl1 hz2 hy2 hr2 hl2 hb2
  go_wp2_with fail
  generalize (w1.alloc (.cells #[.int .i64 o.k, .int .i64 o.i, .string o.t, .slice a o.l.len cap, .int .i64 o.err] 29)) = V at HZ2 HY2 HR2 HL2 HB2 ⊢
  have x0 : V.cell? ⟨w1.heap.size, 0, none⟩ = some (.int .i64 o.k) := Lib.cell_of_heap HY2.out 0
  have x1 : V.cell? ⟨w1.heap.size, 1, none⟩ = some (.int .i64 o.i) := Lib.cell_of_heap HY2.out 1
  have x2 : V.cell? ⟨w1.heap.size, 2, none⟩ = some (.string o.t) := Lib.cell_of_heap HY2.out 2
  have x3 : V.cell? ⟨w1.heap.size, 3, none⟩ = some (.slice a o.l.len cap) := Lib.cell_of_heap HY2.out 3
  have x4 : V.cell? ⟨w1.heap.size, 4, none⟩ = some (.int .i64 o.err) := Lib.cell_of_heap HY2.out 4
  have xj : V.cell? ⟨w.heap.size + 1, 1, none⟩ = some (.int .i64 o.j) := HR2.out.c1
  have y0 : V.frozen? ⟨w.heap.size, 0, none⟩ = false := frozen_of_row _ _ _ _ _ HZ2.out
  have y1 : V.frozen? ⟨w.heap.size, 1, none⟩ = false := frozen_of_row _ _ _ _ _ HZ2.out
  have y2 : V.frozen? ⟨w.heap.size, 2, none⟩ = false := frozen_of_row _ _ _ _ _ HZ2.out
  have y3 : V.frozen? ⟨w.heap.size, 3, none⟩ = false := frozen_of_row _ _ _ _ _ HZ2.out
  have y4 : V.frozen? ⟨w.heap.size, 4, none⟩ = false := frozen_of_row _ _ _ _ _ HZ2.out
  have z0 : V.cell? ⟨w.heap.size, 0, none⟩ = some (.int .i64 0) := Lib.cell_of_heap HZ2.out 0
  have z1 : V.cell? ⟨w.heap.size, 1, none⟩ = some (.int .i64 0) := Lib.cell_of_heap HZ2.out 1
  have z2 : V.cell? ⟨w.heap.size, 2, none⟩ = some (.string ⟨#[]⟩) := Lib.cell_of_heap HZ2.out 2
  have z3 : V.cell? ⟨w.heap.size, 3, none⟩ = some (.slice none 0 0) := Lib.cell_of_heap HZ2.out 3
  have z4 : V.cell? ⟨w.heap.size, 4, none⟩ = some (.int .i64 0) := Lib.cell_of_heap HZ2.out 4
  have n1 : ¬ (w1.heap.size = w.heap.size) := by omega
  have n2 : ¬ (w.heap.size = w1.heap.size) := by omega
  have n3 : ¬ (w.heap.size + 1 = w.heap.size) := by omega
  have n4 : ¬ (w.heap.size = w.heap.size + 1) := by omega
  have HPU := Lib.hid (tok_put (k := o.k) (i := o.i) (t := o.t) (v := .slice a o.l.len cap) (err := o.err) HZ2.out)
  go_region_held3 (fun w' => w'.cell? ⟨w1.heap.size, 0, none⟩ = some (.int .i64 o.k) ∧ w'.cell? ⟨w1.heap.size, 1, none⟩ = some (.int .i64 o.i) ∧ w'.cell? ⟨w1.heap.size, 2, none⟩ = some (.string o.t) ∧ w'.cell? ⟨w1.heap.size, 3, none⟩ = some (.slice a o.l.len cap) ∧ w'.cell? ⟨w1.heap.size, 4, none⟩ = some (.int .i64 o.err) ∧ w'.cell? ⟨w.heap.size + 1, 1, none⟩ = some (.int .i64 o.j)) (go_keep) (fail)
  all_goals
    clear x0 x1 x2 x3 x4 xj y0 y1 y2 y3 y4 z0 z1 z2 z3 z4
    have hPd := HPU.out
    rename_i hHeld
    clear hHeld
    generalize ((((V.setCell ⟨w.heap.size, 0, none⟩ (.int .i64 o.k)).setCell ⟨w.heap.size, 1, none⟩ (.int .i64 o.i)).setCell ⟨w.heap.size, 2, none⟩ (.string o.t)).setCell ⟨w.heap.size, 3, none⟩ (.slice a o.l.len cap)).setCell ⟨w.heap.size, 4, none⟩ (.int .i64 o.err) = U at hPd ⊢
    have HPd := Lib.hid hPd
    clear hPd
    go_wp2_with fail
    refine next_end (U := U.drew) (W := V) (tb := w.heap.size) ?_ ?_ HPd.out HB2.out (Nat.le_refl _) HL2.out
    · rfl
    · rfl
end Lx
end Go.Proofs.Ytgpnleenejjnmaa
