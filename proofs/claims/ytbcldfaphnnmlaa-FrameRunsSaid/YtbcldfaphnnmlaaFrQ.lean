/- Pop, Return. -/
import Derived.Test.YtbcldfaphnnmlaaFrP
namespace Go.Proofs.Ytbcldfaphnnmlaa
open Go.RowKit Go.Sort
namespace Fra
open Cls Pt Tr
/-- A block that is new stays where the row is an older one. -/
theorem Chg.new {w1 w2 : World} {b : Nat} {v v' : Value} (h : Chg w1 w2 b v v') {g : Nat} {o : Obj} (hg : w1.heap[g]? = some o) (hb : g ≠ b) (hv : v.ownBlock ≠ some g) : w2.heap[g]? = some o := (h.block g (Array.getElem?_eq_some_iff.1 hg).1 hb hv).trans hg
/-- Behind a result that is written into a block of the call's own. -/
theorem Chg.result {w w1 : World} {b g : Nat} {v v' : Value} (h : Chg w w1 b v v') (hg : w.heap.size ≤ g) (vs : List Value) (k : Nat) : Chg w (storeL w1 g k vs) b v v' :=
  have hb := storeL_below (B := w.heap.size) hg vs w1 k (Below.refl _ _)
  ⟨hb.os.trans h.os, hb.tape.trans h.tape, hb.output.trans h.output, Nat.le_trans h.size hb.size, fun c hc h1 h2 => (hb.block c hc).trans (h.block c hc h1 h2), h.row⟩
theorem Stk.result {w : World} {B b g : Nat} {v : Value} {l : List IV} (h : Stk w B b v l) (hb : g ≠ b) (hv : v.ownBlock ≠ some g) (vs : List Value) (k : Nat) : Stk (storeL w g k vs) B b v l :=
  ⟨(storeL_other (fun e => hb e.symm) vs w k).trans h.blk, own_store h.own hv k⟩
theorem Chg.ownNe {w1 w2 : World} {b g : Nat} {v v' : Value} (h : Chg w1 w2 b v v') (hg : g < w1.heap.size) (hv : v.ownBlock ≠ some g) : v'.ownBlock ≠ some g := fun e => by
  rcases h.row with h1 | h1
  · exact hv (h1.symm.trans e)
  · have := h1 g e; omega
theorem Chg.wide {w w0 w1 : World} {b : Nat} {v v' : Value} (hb : Below w.heap.size w w0) (h : Chg w0 w1 b v v') : Chg w w1 b v v' := (Chg.of_below hb).trans h
set_option maxHeartbeats 3200000 in
theorem pop_any {w : World} {B b : Nat} {v : Value} {l : List IV} (hl : l.length ≤ 100000) (h : Stk w B b v l) :
    Calls Try.prog 8 #[.pointer (some ⟨b, 0, none⟩)] w fun e w' => e = .returned (topV l) ∧ ∃ v', Stk w' B b v' (l.take (l.length - 1)) ∧ Chg w w' b v v' := by
  have hz := heap_alloc_new w (.cells #[.int .i64 0, .int .i64 0, .string ⟨#[]⟩, .bool false, .slice none 0 0, .slice none 0 0, .slice none 0 0, .slice none 0 0, .slice none 0 0, .int .i64 0, .int .i64 0, .bool false, .slice none 0 0, .slice none 0 0] 43)
  have hb0 := bel1 w (.cells #[.int .i64 0, .int .i64 0, .string ⟨#[]⟩, .bool false, .slice none 0 0, .slice none 0 0, .slice none 0 0, .slice none 0 0, .slice none 0 0, .int .i64 0, .int .i64 0, .bool false, .slice none 0 0, .slice none 0 0] 43)
  have hs0 : (w.alloc (.cells #[.int .i64 0, .int .i64 0, .string ⟨#[]⟩, .bool false, .slice none 0 0, .slice none 0 0, .slice none 0 0, .slice none 0 0, .slice none 0 0, .int .i64 0, .int .i64 0, .bool false, .slice none 0 0, .slice none 0 0] 43)).heap.size = w.heap.size + 1 := World.size_alloc _ _
  have hT := top_any hl (h.stay hb0)
  have hbw := h.lt
  have hown := h.own.lt
  obtain ⟨a, cap, rfl⟩ := own_slice h.own
  have HS := Lib.hid h; have HZ := Lib.hid hz; have HB0 := Lib.hid hb0; have HT := Lib.hid hT; have HSZ := Lib.hid hs0; have HOW := Lib.hid hown
  clear h hz hb0 hT hs0 hown
  by_cases h0 : l.length = 0
  · have ht : topV l = .tuple #[.agg #[.int .i64 0, .int .i64 0, .string ⟨#[]⟩, .bool false, .slice none 0 0, .slice none 0 0, .slice none 0 0, .slice none 0 0, .slice none 0 0, .int .i64 0, .int .i64 0, .bool false, .slice none 0 0, .slice none 0 0], .bool false] := by rw [List.length_eq_zero_iff.1 h0]; rfl
    have htk : l.take (l.length - 1) = l := List.take_of_length_le (by omega)
    rw [ht] at HT ⊢
    rw [htk]
    clear ht htk
    go_enter Try.func8, Try.ntmps8
    go_wp2_with fail
    refine HT.out.mono ?_
    rintro e w1 ⟨rfl, hb1⟩
    have hb2 := thru hb1 (bel1 w1 (.cells #[.int .i64 0, .int .i64 0, .string ⟨#[]⟩, .bool false, .slice none 0 0, .slice none 0 0, .slice none 0 0, .slice none 0 0, .slice none 0 0, .int .i64 0, .int .i64 0, .bool false, .slice none 0 0, .slice none 0 0] 43))
    have hrow2 := (hb2.block w.heap.size (by rw [HSZ.out]; omega)).trans HZ.out
    have hst2 := HS.out.stay (thru HB0.out hb2)
    have hc2 := hst2.cell
    have HB2 := Lib.hid hb2; have HR2 := Lib.hid hrow2; have HS2 := Lib.hid hst2
    clear hb1 hb2 hst2 hrow2
    have r0 : (w1.alloc (.cells #[.int .i64 0, .int .i64 0, .string ⟨#[]⟩, .bool false, .slice none 0 0, .slice none 0 0, .slice none 0 0, .slice none 0 0, .slice none 0 0, .int .i64 0, .int .i64 0, .bool false, .slice none 0 0, .slice none 0 0] 43)).cell? ⟨w.heap.size, 0, none⟩ = some (.int .i64 0) := Lib.cell_of_heap HR2.out 0; have f0 := Lib.frozen_of_heap HR2.out 0
    have r1 : (w1.alloc (.cells #[.int .i64 0, .int .i64 0, .string ⟨#[]⟩, .bool false, .slice none 0 0, .slice none 0 0, .slice none 0 0, .slice none 0 0, .slice none 0 0, .int .i64 0, .int .i64 0, .bool false, .slice none 0 0, .slice none 0 0] 43)).cell? ⟨w.heap.size, 1, none⟩ = some (.int .i64 0) := Lib.cell_of_heap HR2.out 1; have f1 := Lib.frozen_of_heap HR2.out 1
    have r2 : (w1.alloc (.cells #[.int .i64 0, .int .i64 0, .string ⟨#[]⟩, .bool false, .slice none 0 0, .slice none 0 0, .slice none 0 0, .slice none 0 0, .slice none 0 0, .int .i64 0, .int .i64 0, .bool false, .slice none 0 0, .slice none 0 0] 43)).cell? ⟨w.heap.size, 2, none⟩ = some (.string ⟨#[]⟩) := Lib.cell_of_heap HR2.out 2; have f2 := Lib.frozen_of_heap HR2.out 2
    have r3 : (w1.alloc (.cells #[.int .i64 0, .int .i64 0, .string ⟨#[]⟩, .bool false, .slice none 0 0, .slice none 0 0, .slice none 0 0, .slice none 0 0, .slice none 0 0, .int .i64 0, .int .i64 0, .bool false, .slice none 0 0, .slice none 0 0] 43)).cell? ⟨w.heap.size, 3, none⟩ = some (.bool false) := Lib.cell_of_heap HR2.out 3; have f3 := Lib.frozen_of_heap HR2.out 3
    have r4 : (w1.alloc (.cells #[.int .i64 0, .int .i64 0, .string ⟨#[]⟩, .bool false, .slice none 0 0, .slice none 0 0, .slice none 0 0, .slice none 0 0, .slice none 0 0, .int .i64 0, .int .i64 0, .bool false, .slice none 0 0, .slice none 0 0] 43)).cell? ⟨w.heap.size, 4, none⟩ = some (.slice none 0 0) := Lib.cell_of_heap HR2.out 4; have f4 := Lib.frozen_of_heap HR2.out 4
    have r5 : (w1.alloc (.cells #[.int .i64 0, .int .i64 0, .string ⟨#[]⟩, .bool false, .slice none 0 0, .slice none 0 0, .slice none 0 0, .slice none 0 0, .slice none 0 0, .int .i64 0, .int .i64 0, .bool false, .slice none 0 0, .slice none 0 0] 43)).cell? ⟨w.heap.size, 5, none⟩ = some (.slice none 0 0) := Lib.cell_of_heap HR2.out 5; have f5 := Lib.frozen_of_heap HR2.out 5
    have r6 : (w1.alloc (.cells #[.int .i64 0, .int .i64 0, .string ⟨#[]⟩, .bool false, .slice none 0 0, .slice none 0 0, .slice none 0 0, .slice none 0 0, .slice none 0 0, .int .i64 0, .int .i64 0, .bool false, .slice none 0 0, .slice none 0 0] 43)).cell? ⟨w.heap.size, 6, none⟩ = some (.slice none 0 0) := Lib.cell_of_heap HR2.out 6; have f6 := Lib.frozen_of_heap HR2.out 6
    have r7 : (w1.alloc (.cells #[.int .i64 0, .int .i64 0, .string ⟨#[]⟩, .bool false, .slice none 0 0, .slice none 0 0, .slice none 0 0, .slice none 0 0, .slice none 0 0, .int .i64 0, .int .i64 0, .bool false, .slice none 0 0, .slice none 0 0] 43)).cell? ⟨w.heap.size, 7, none⟩ = some (.slice none 0 0) := Lib.cell_of_heap HR2.out 7; have f7 := Lib.frozen_of_heap HR2.out 7
    have r8 : (w1.alloc (.cells #[.int .i64 0, .int .i64 0, .string ⟨#[]⟩, .bool false, .slice none 0 0, .slice none 0 0, .slice none 0 0, .slice none 0 0, .slice none 0 0, .int .i64 0, .int .i64 0, .bool false, .slice none 0 0, .slice none 0 0] 43)).cell? ⟨w.heap.size, 8, none⟩ = some (.slice none 0 0) := Lib.cell_of_heap HR2.out 8; have f8 := Lib.frozen_of_heap HR2.out 8
    have r9 : (w1.alloc (.cells #[.int .i64 0, .int .i64 0, .string ⟨#[]⟩, .bool false, .slice none 0 0, .slice none 0 0, .slice none 0 0, .slice none 0 0, .slice none 0 0, .int .i64 0, .int .i64 0, .bool false, .slice none 0 0, .slice none 0 0] 43)).cell? ⟨w.heap.size, 9, none⟩ = some (.int .i64 0) := Lib.cell_of_heap HR2.out 9; have f9 := Lib.frozen_of_heap HR2.out 9
    have r10 : (w1.alloc (.cells #[.int .i64 0, .int .i64 0, .string ⟨#[]⟩, .bool false, .slice none 0 0, .slice none 0 0, .slice none 0 0, .slice none 0 0, .slice none 0 0, .int .i64 0, .int .i64 0, .bool false, .slice none 0 0, .slice none 0 0] 43)).cell? ⟨w.heap.size, 10, none⟩ = some (.int .i64 0) := Lib.cell_of_heap HR2.out 10; have f10 := Lib.frozen_of_heap HR2.out 10
    have r11 : (w1.alloc (.cells #[.int .i64 0, .int .i64 0, .string ⟨#[]⟩, .bool false, .slice none 0 0, .slice none 0 0, .slice none 0 0, .slice none 0 0, .slice none 0 0, .int .i64 0, .int .i64 0, .bool false, .slice none 0 0, .slice none 0 0] 43)).cell? ⟨w.heap.size, 11, none⟩ = some (.bool false) := Lib.cell_of_heap HR2.out 11; have f11 := Lib.frozen_of_heap HR2.out 11
    have r12 : (w1.alloc (.cells #[.int .i64 0, .int .i64 0, .string ⟨#[]⟩, .bool false, .slice none 0 0, .slice none 0 0, .slice none 0 0, .slice none 0 0, .slice none 0 0, .int .i64 0, .int .i64 0, .bool false, .slice none 0 0, .slice none 0 0] 43)).cell? ⟨w.heap.size, 12, none⟩ = some (.slice none 0 0) := Lib.cell_of_heap HR2.out 12; have f12 := Lib.frozen_of_heap HR2.out 12
    have r13 : (w1.alloc (.cells #[.int .i64 0, .int .i64 0, .string ⟨#[]⟩, .bool false, .slice none 0 0, .slice none 0 0, .slice none 0 0, .slice none 0 0, .slice none 0 0, .int .i64 0, .int .i64 0, .bool false, .slice none 0 0, .slice none 0 0] 43)).cell? ⟨w.heap.size, 13, none⟩ = some (.slice none 0 0) := Lib.cell_of_heap HR2.out 13; have f13 := Lib.frozen_of_heap HR2.out 13
    go_wp2_with fail
    clear r0 f0 r1 f1 r2 f2 r3 f3 r4 f4 r5 f5 r6 f6 r7 f7 r8 f8 r9 f9 r10 f10 r11 f11 r12 f12 r13 f13 hc2
    generalize w1.alloc (.cells #[.int .i64 0, .int .i64 0, .string ⟨#[]⟩, .bool false, .slice none 0 0, .slice none 0 0, .slice none 0 0, .slice none 0 0, .slice none 0 0, .int .i64 0, .int .i64 0, .bool false, .slice none 0 0, .slice none 0 0] 43) = W2 at HB2 HR2 HS2 ⊢
    rw [show ((((((((((((((W2.setCell ⟨w.heap.size, 0, none⟩ (.int .i64 0)).setCell ⟨w.heap.size, 1, none⟩ (.int .i64 0)).setCell ⟨w.heap.size, 2, none⟩ (.string ⟨#[]⟩)).setCell ⟨w.heap.size, 3, none⟩ (.bool false)).setCell ⟨w.heap.size, 4, none⟩ (.slice none 0 0)).setCell ⟨w.heap.size, 5, none⟩ (.slice none 0 0)).setCell ⟨w.heap.size, 6, none⟩ (.slice none 0 0)).setCell ⟨w.heap.size, 7, none⟩ (.slice none 0 0)).setCell ⟨w.heap.size, 8, none⟩ (.slice none 0 0)).setCell ⟨w.heap.size, 9, none⟩ (.int .i64 0)).setCell ⟨w.heap.size, 10, none⟩ (.int .i64 0)).setCell ⟨w.heap.size, 11, none⟩ (.bool false)).setCell ⟨w.heap.size, 12, none⟩ (.slice none 0 0)).setCell ⟨w.heap.size, 13, none⟩ (.slice none 0 0)) = storeL W2 w.heap.size 0 (icells zero) from rfl]
    have HR3 := Lib.hid (store_item (z := zero) (x := zero) HR2.out)
    have hne : w.heap.size ≠ b := by omega
    have hvn : Value.ownBlock (.slice a l.length cap) ≠ some w.heap.size := fun e => by have := (HOW.out _ e).2; omega
    have HF := Lib.hid (HS2.out.result hne hvn (icells zero) 0)
    have HG := Lib.hid ((Chg.of_below (b := b) (v := .slice a l.length cap) (thru HB0.out HB2.out)).result (Nat.le_refl _) (icells zero) 0)
    generalize storeL W2 w.heap.size 0 (icells zero) = W3 at HR3 HF HG ⊢
    have y0 : W3.cell? ⟨w.heap.size, 0, none⟩ = some (.int .i64 0) := Lib.cell_of_heap HR3.out 0
    have y1 : W3.cell? ⟨w.heap.size, 1, none⟩ = some (.int .i64 0) := Lib.cell_of_heap HR3.out 1
    have y2 : W3.cell? ⟨w.heap.size, 2, none⟩ = some (.string ⟨#[]⟩) := Lib.cell_of_heap HR3.out 2
    have y3 : W3.cell? ⟨w.heap.size, 3, none⟩ = some (.bool false) := Lib.cell_of_heap HR3.out 3
    have y4 : W3.cell? ⟨w.heap.size, 4, none⟩ = some (.slice none 0 0) := Lib.cell_of_heap HR3.out 4
    have y5 : W3.cell? ⟨w.heap.size, 5, none⟩ = some (.slice none 0 0) := Lib.cell_of_heap HR3.out 5
    have y6 : W3.cell? ⟨w.heap.size, 6, none⟩ = some (.slice none 0 0) := Lib.cell_of_heap HR3.out 6
    have y7 : W3.cell? ⟨w.heap.size, 7, none⟩ = some (.slice none 0 0) := Lib.cell_of_heap HR3.out 7
    have y8 : W3.cell? ⟨w.heap.size, 8, none⟩ = some (.slice none 0 0) := Lib.cell_of_heap HR3.out 8
    have y9 : W3.cell? ⟨w.heap.size, 9, none⟩ = some (.int .i64 0) := Lib.cell_of_heap HR3.out 9
    have y10 : W3.cell? ⟨w.heap.size, 10, none⟩ = some (.int .i64 0) := Lib.cell_of_heap HR3.out 10
    have y11 : W3.cell? ⟨w.heap.size, 11, none⟩ = some (.bool false) := Lib.cell_of_heap HR3.out 11
    have y12 : W3.cell? ⟨w.heap.size, 12, none⟩ = some (.slice none 0 0) := Lib.cell_of_heap HR3.out 12
    have y13 : W3.cell? ⟨w.heap.size, 13, none⟩ = some (.slice none 0 0) := Lib.cell_of_heap HR3.out 13
    refine bodyPost_ret (v := .tuple #[.agg #[.int .i64 0, .int .i64 0, .string ⟨#[]⟩, .bool false, .slice none 0 0, .slice none 0 0, .slice none 0 0, .slice none 0 0, .slice none 0 0, .int .i64 0, .int .i64 0, .bool false, .slice none 0 0, .slice none 0 0], .bool false]) (by simp [results, Try.results8, go_sem, y0, y1, y2, y3, y4, y5, y6, y7, y8, y9, y10, y11, y12, y13]) rfl ?_
    exact ⟨rfl, _, HF.out, HG.out⟩
  · obtain ⟨y, hy⟩ : ∃ y, l[l.length - 1]? = some y := ⟨_, List.getElem?_eq_getElem (by omega)⟩
    have ht : topV l = .tuple #[.agg #[.int .i64 y.k, .int .i64 y.nk, .string y.nm, .bool y.g, .slice y.a1 y.az.length y.c1, .slice y.a2 y.nw.length y.c2, .slice y.a3 y.ks.len y.c3, .slice y.a4 y.bs.length y.c4, .slice y.a5 y.cz.len y.c5, .int .i64 y.pl, .int .i64 y.st, .bool y.fr, .slice y.wa y.ws.length y.wc, .slice y.pa y.ps.length y.pc], .bool true] := by unfold topV; rw [List.getLast?_eq_getElem?, hy]; rfl
    rw [ht] at HT ⊢
    have hx : (l.length : Int) - 1 = ((l.length - 1 : Nat) : Int) := by omega
    have hw : IntKind.i64.wrap ((l.length - 1 : Nat) : Int) = ((l.length - 1 : Nat) : Int) := (wrapEq _).trans (IntWalk.wrap64_in _ ⟨by omega, by omega⟩)
    clear ht hy
    go_enter Try.func8, Try.ntmps8
    go_wp2_with fail
    refine HT.out.mono ?_
    rintro e w1 ⟨rfl, hb1⟩
    have hb2 := thru hb1 (bel1 w1 (.cells #[.int .i64 y.k, .int .i64 y.nk, .string y.nm, .bool y.g, .slice y.a1 y.az.length y.c1, .slice y.a2 y.nw.length y.c2, .slice y.a3 y.ks.len y.c3, .slice y.a4 y.bs.length y.c4, .slice y.a5 y.cz.len y.c5, .int .i64 y.pl, .int .i64 y.st, .bool y.fr, .slice y.wa y.ws.length y.wc, .slice y.pa y.ps.length y.pc] 43))
    have hrow2 := (hb2.block w.heap.size (by rw [HSZ.out]; omega)).trans HZ.out
    have hx2 := heap_alloc_new w1 (.cells #[.int .i64 y.k, .int .i64 y.nk, .string y.nm, .bool y.g, .slice y.a1 y.az.length y.c1, .slice y.a2 y.nw.length y.c2, .slice y.a3 y.ks.len y.c3, .slice y.a4 y.bs.length y.c4, .slice y.a5 y.cz.len y.c5, .int .i64 y.pl, .int .i64 y.st, .bool y.fr, .slice y.wa y.ws.length y.wc, .slice y.pa y.ps.length y.pc] 43)
    have hst2 := HS.out.stay (thru HB0.out hb2)
    have hc2 := hst2.cell
    have hs1 : w.heap.size < w1.heap.size := by have := hb1.size; rw [HSZ.out] at this; omega
    have hsx : (w1.alloc (.cells #[.int .i64 y.k, .int .i64 y.nk, .string y.nm, .bool y.g, .slice y.a1 y.az.length y.c1, .slice y.a2 y.nw.length y.c2, .slice y.a3 y.ks.len y.c3, .slice y.a4 y.bs.length y.c4, .slice y.a5 y.cz.len y.c5, .int .i64 y.pl, .int .i64 y.st, .bool y.fr, .slice y.wa y.ws.length y.wc, .slice y.pa y.ps.length y.pc] 43)).heap.size = w1.heap.size + 1 := World.size_alloc _ _
    have hcut := cut_any hl hst2 (l.length - 1) (by omega)
    have HB2 := Lib.hid hb2; have HR2 := Lib.hid hrow2; have HS2 := Lib.hid hst2; have HX2 := Lib.hid hx2; have HC := Lib.hid hcut
    clear hb1 hb2 hst2 hrow2 hx2 hcut
    go_wp2_with fail
    refine HC.out.mono ?_
    rintro e w3 ⟨rfl, v', hs3, hc3⟩
    have hvn : Value.ownBlock (.slice a l.length cap) ≠ some w.heap.size := fun e => by have := (HOW.out _ e).2; omega
    have hvx : Value.ownBlock (.slice a l.length cap) ≠ some w1.heap.size := fun e => by have := (HOW.out _ e).2; omega
    have hne : w.heap.size ≠ b := by omega
    have hrow3 := hc3.new HR2.out hne hvn
    have hx3 := hc3.new HX2.out (by omega) hvx
    have hvn' : v'.ownBlock ≠ some w.heap.size := hc3.ownNe (by rw [hsx]; omega) hvn
    have HG2 := Lib.hid (Chg.wide (thru HB0.out HB2.out) hc3)
    have HS3 := Lib.hid hs3; have HR2 := Lib.hid hrow3; have HX := Lib.hid hx3
    clear hs3 hrow3 hx3 hc3
    have r0 : w3.cell? ⟨w.heap.size, 0, none⟩ = some (.int .i64 0) := Lib.cell_of_heap HR2.out 0; have f0 := Lib.frozen_of_heap HR2.out 0
    have r1 : w3.cell? ⟨w.heap.size, 1, none⟩ = some (.int .i64 0) := Lib.cell_of_heap HR2.out 1; have f1 := Lib.frozen_of_heap HR2.out 1
    have r2 : w3.cell? ⟨w.heap.size, 2, none⟩ = some (.string ⟨#[]⟩) := Lib.cell_of_heap HR2.out 2; have f2 := Lib.frozen_of_heap HR2.out 2
    have r3 : w3.cell? ⟨w.heap.size, 3, none⟩ = some (.bool false) := Lib.cell_of_heap HR2.out 3; have f3 := Lib.frozen_of_heap HR2.out 3
    have r4 : w3.cell? ⟨w.heap.size, 4, none⟩ = some (.slice none 0 0) := Lib.cell_of_heap HR2.out 4; have f4 := Lib.frozen_of_heap HR2.out 4
    have r5 : w3.cell? ⟨w.heap.size, 5, none⟩ = some (.slice none 0 0) := Lib.cell_of_heap HR2.out 5; have f5 := Lib.frozen_of_heap HR2.out 5
    have r6 : w3.cell? ⟨w.heap.size, 6, none⟩ = some (.slice none 0 0) := Lib.cell_of_heap HR2.out 6; have f6 := Lib.frozen_of_heap HR2.out 6
    have r7 : w3.cell? ⟨w.heap.size, 7, none⟩ = some (.slice none 0 0) := Lib.cell_of_heap HR2.out 7; have f7 := Lib.frozen_of_heap HR2.out 7
    have r8 : w3.cell? ⟨w.heap.size, 8, none⟩ = some (.slice none 0 0) := Lib.cell_of_heap HR2.out 8; have f8 := Lib.frozen_of_heap HR2.out 8
    have r9 : w3.cell? ⟨w.heap.size, 9, none⟩ = some (.int .i64 0) := Lib.cell_of_heap HR2.out 9; have f9 := Lib.frozen_of_heap HR2.out 9
    have r10 : w3.cell? ⟨w.heap.size, 10, none⟩ = some (.int .i64 0) := Lib.cell_of_heap HR2.out 10; have f10 := Lib.frozen_of_heap HR2.out 10
    have r11 : w3.cell? ⟨w.heap.size, 11, none⟩ = some (.bool false) := Lib.cell_of_heap HR2.out 11; have f11 := Lib.frozen_of_heap HR2.out 11
    have r12 : w3.cell? ⟨w.heap.size, 12, none⟩ = some (.slice none 0 0) := Lib.cell_of_heap HR2.out 12; have f12 := Lib.frozen_of_heap HR2.out 12
    have r13 : w3.cell? ⟨w.heap.size, 13, none⟩ = some (.slice none 0 0) := Lib.cell_of_heap HR2.out 13; have f13 := Lib.frozen_of_heap HR2.out 13
    have s0 : w3.cell? ⟨w1.heap.size, 0, none⟩ = some (.int .i64 y.k) := Lib.cell_of_heap HX.out 0
    have s1 : w3.cell? ⟨w1.heap.size, 1, none⟩ = some (.int .i64 y.nk) := Lib.cell_of_heap HX.out 1
    have s2 : w3.cell? ⟨w1.heap.size, 2, none⟩ = some (.string y.nm) := Lib.cell_of_heap HX.out 2
    have s3 : w3.cell? ⟨w1.heap.size, 3, none⟩ = some (.bool y.g) := Lib.cell_of_heap HX.out 3
    have s4 : w3.cell? ⟨w1.heap.size, 4, none⟩ = some (.slice y.a1 y.az.length y.c1) := Lib.cell_of_heap HX.out 4
    have s5 : w3.cell? ⟨w1.heap.size, 5, none⟩ = some (.slice y.a2 y.nw.length y.c2) := Lib.cell_of_heap HX.out 5
    have s6 : w3.cell? ⟨w1.heap.size, 6, none⟩ = some (.slice y.a3 y.ks.len y.c3) := Lib.cell_of_heap HX.out 6
    have s7 : w3.cell? ⟨w1.heap.size, 7, none⟩ = some (.slice y.a4 y.bs.length y.c4) := Lib.cell_of_heap HX.out 7
    have s8 : w3.cell? ⟨w1.heap.size, 8, none⟩ = some (.slice y.a5 y.cz.len y.c5) := Lib.cell_of_heap HX.out 8
    have s9 : w3.cell? ⟨w1.heap.size, 9, none⟩ = some (.int .i64 y.pl) := Lib.cell_of_heap HX.out 9
    have s10 : w3.cell? ⟨w1.heap.size, 10, none⟩ = some (.int .i64 y.st) := Lib.cell_of_heap HX.out 10
    have s11 : w3.cell? ⟨w1.heap.size, 11, none⟩ = some (.bool y.fr) := Lib.cell_of_heap HX.out 11
    have s12 : w3.cell? ⟨w1.heap.size, 12, none⟩ = some (.slice y.wa y.ws.length y.wc) := Lib.cell_of_heap HX.out 12
    have s13 : w3.cell? ⟨w1.heap.size, 13, none⟩ = some (.slice y.pa y.ps.length y.pc) := Lib.cell_of_heap HX.out 13
    go_wp2_with fail
    clear r0 f0 s0 r1 f1 s1 r2 f2 s2 r3 f3 s3 r4 f4 s4 r5 f5 s5 r6 f6 s6 r7 f7 s7 r8 f8 s8 r9 f9 s9 r10 f10 s10 r11 f11 s11 r12 f12 s12 r13 f13 s13
    rw [show ((((((((((((((w3.setCell ⟨w.heap.size, 0, none⟩ (.int .i64 y.k)).setCell ⟨w.heap.size, 1, none⟩ (.int .i64 y.nk)).setCell ⟨w.heap.size, 2, none⟩ (.string y.nm)).setCell ⟨w.heap.size, 3, none⟩ (.bool y.g)).setCell ⟨w.heap.size, 4, none⟩ (.slice y.a1 y.az.length y.c1)).setCell ⟨w.heap.size, 5, none⟩ (.slice y.a2 y.nw.length y.c2)).setCell ⟨w.heap.size, 6, none⟩ (.slice y.a3 y.ks.len y.c3)).setCell ⟨w.heap.size, 7, none⟩ (.slice y.a4 y.bs.length y.c4)).setCell ⟨w.heap.size, 8, none⟩ (.slice y.a5 y.cz.len y.c5)).setCell ⟨w.heap.size, 9, none⟩ (.int .i64 y.pl)).setCell ⟨w.heap.size, 10, none⟩ (.int .i64 y.st)).setCell ⟨w.heap.size, 11, none⟩ (.bool y.fr)).setCell ⟨w.heap.size, 12, none⟩ (.slice y.wa y.ws.length y.wc)).setCell ⟨w.heap.size, 13, none⟩ (.slice y.pa y.ps.length y.pc)) = storeL w3 w.heap.size 0 (icells y) from rfl]
    have HR3 := Lib.hid (store_item (z := zero) (x := y) HR2.out)
    have HF := Lib.hid (HS3.out.result hne hvn' (icells y) 0)
    have HG := Lib.hid (HG2.out.result (Nat.le_refl _) (icells y) 0)
    generalize storeL w3 w.heap.size 0 (icells y) = W3 at HR3 HF HG ⊢
    have y0 : W3.cell? ⟨w.heap.size, 0, none⟩ = some (.int .i64 y.k) := Lib.cell_of_heap HR3.out 0
    have y1 : W3.cell? ⟨w.heap.size, 1, none⟩ = some (.int .i64 y.nk) := Lib.cell_of_heap HR3.out 1
    have y2 : W3.cell? ⟨w.heap.size, 2, none⟩ = some (.string y.nm) := Lib.cell_of_heap HR3.out 2
    have y3 : W3.cell? ⟨w.heap.size, 3, none⟩ = some (.bool y.g) := Lib.cell_of_heap HR3.out 3
    have y4 : W3.cell? ⟨w.heap.size, 4, none⟩ = some (.slice y.a1 y.az.length y.c1) := Lib.cell_of_heap HR3.out 4
    have y5 : W3.cell? ⟨w.heap.size, 5, none⟩ = some (.slice y.a2 y.nw.length y.c2) := Lib.cell_of_heap HR3.out 5
    have y6 : W3.cell? ⟨w.heap.size, 6, none⟩ = some (.slice y.a3 y.ks.len y.c3) := Lib.cell_of_heap HR3.out 6
    have y7 : W3.cell? ⟨w.heap.size, 7, none⟩ = some (.slice y.a4 y.bs.length y.c4) := Lib.cell_of_heap HR3.out 7
    have y8 : W3.cell? ⟨w.heap.size, 8, none⟩ = some (.slice y.a5 y.cz.len y.c5) := Lib.cell_of_heap HR3.out 8
    have y9 : W3.cell? ⟨w.heap.size, 9, none⟩ = some (.int .i64 y.pl) := Lib.cell_of_heap HR3.out 9
    have y10 : W3.cell? ⟨w.heap.size, 10, none⟩ = some (.int .i64 y.st) := Lib.cell_of_heap HR3.out 10
    have y11 : W3.cell? ⟨w.heap.size, 11, none⟩ = some (.bool y.fr) := Lib.cell_of_heap HR3.out 11
    have y12 : W3.cell? ⟨w.heap.size, 12, none⟩ = some (.slice y.wa y.ws.length y.wc) := Lib.cell_of_heap HR3.out 12
    have y13 : W3.cell? ⟨w.heap.size, 13, none⟩ = some (.slice y.pa y.ps.length y.pc) := Lib.cell_of_heap HR3.out 13
    refine bodyPost_ret (v := .tuple #[.agg #[.int .i64 y.k, .int .i64 y.nk, .string y.nm, .bool y.g, .slice y.a1 y.az.length y.c1, .slice y.a2 y.nw.length y.c2, .slice y.a3 y.ks.len y.c3, .slice y.a4 y.bs.length y.c4, .slice y.a5 y.cz.len y.c5, .int .i64 y.pl, .int .i64 y.st, .bool y.fr, .slice y.wa y.ws.length y.wc, .slice y.pa y.ps.length y.pc], .bool true]) (by simp [results, Try.results8, go_sem, y0, y1, y2, y3, y4, y5, y6, y7, y8, y9, y10, y11, y12, y13]) rfl ?_
    exact ⟨rfl, _, HF.out, HG.out⟩
/-- What Return answers, and what is there behind it. -/
def retV (l : List IV) : Value := match ret l l.length with
  | none => .tuple #[.agg (icells zero).toArray, .bool false]
  | some (_, x) => .tuple #[.agg (icells x).toArray, .bool true]
def retL (l : List IV) : List IV := match ret l l.length with
  | none => l
  | some (i, _) => l.take i
set_option maxHeartbeats 3200000 in
theorem return_any {w : World} {B b : Nat} {v : Value} {l : List IV} (hl : l.length ≤ 100000) (h : Stk w B b v l) :
    Calls Try.prog 14 #[.pointer (some ⟨b, 0, none⟩)] w fun e w' => e = .returned (retV l) ∧ ∃ v', Stk w' B b v' (retL l) ∧ Chg w w' b v v' := by
  have hz := heap_alloc_new w (.cells #[.int .i64 0, .int .i64 0, .string ⟨#[]⟩, .bool false, .slice none 0 0, .slice none 0 0, .slice none 0 0, .slice none 0 0, .slice none 0 0, .int .i64 0, .int .i64 0, .bool false, .slice none 0 0, .slice none 0 0] 43)
  have hb0 := bel1 w (.cells #[.int .i64 0, .int .i64 0, .string ⟨#[]⟩, .bool false, .slice none 0 0, .slice none 0 0, .slice none 0 0, .slice none 0 0, .slice none 0 0, .int .i64 0, .int .i64 0, .bool false, .slice none 0 0, .slice none 0 0] 43)
  have hs0 : (w.alloc (.cells #[.int .i64 0, .int .i64 0, .string ⟨#[]⟩, .bool false, .slice none 0 0, .slice none 0 0, .slice none 0 0, .slice none 0 0, .slice none 0 0, .int .i64 0, .int .i64 0, .bool false, .slice none 0 0, .slice none 0 0] 43)).heap.size = w.heap.size + 1 := World.size_alloc _ _
  have hT := upper_wall hl (h.stay hb0)
  have hbw := h.lt
  have hown := h.own.lt
  obtain ⟨a, cap, rfl, hle, hcell⟩ := LAt.own h.own
  have HS := Lib.hid h; have HZ := Lib.hid hz; have HB0 := Lib.hid hb0; have HSZ := Lib.hid hs0; have HOW := Lib.hid hown; have HCL := Lib.hid hcell
  have hru := ret_up l l.length
  clear h hz hb0 hs0 hown hcell
  cases hu : upF wallB l l.length with
  | none =>
    rw [hu] at hru hT
    simp only [upV] at hT
    have hv : retV l = .tuple #[.agg #[.int .i64 0, .int .i64 0, .string ⟨#[]⟩, .bool false, .slice none 0 0, .slice none 0 0, .slice none 0 0, .slice none 0 0, .slice none 0 0, .int .i64 0, .int .i64 0, .bool false, .slice none 0 0, .slice none 0 0], .bool false] := by unfold retV; rw [hru]; rfl
    have hw : retL l = l := by unfold retL; rw [hru]
    rw [hv, hw]
    have HT := Lib.hid hT
    clear hT hru hu hv hw
    go_enter Try.func14, Try.ntmps14
    go_wp2_with fail
    refine HT.out.mono ?_
    rintro e w1 ⟨rfl, hb1⟩
    have hrow2 := (hb1.block w.heap.size (by rw [HSZ.out]; omega)).trans HZ.out
    have HB1 := Lib.hid hb1; have HR2 := Lib.hid hrow2; have HS2 := Lib.hid (HS.out.stay (thru HB0.out hb1))
    clear hb1 hrow2
    have r0 : w1.cell? ⟨w.heap.size, 0, none⟩ = some (.int .i64 0) := Lib.cell_of_heap HR2.out 0; have f0 := Lib.frozen_of_heap HR2.out 0
    have r1 : w1.cell? ⟨w.heap.size, 1, none⟩ = some (.int .i64 0) := Lib.cell_of_heap HR2.out 1; have f1 := Lib.frozen_of_heap HR2.out 1
    have r2 : w1.cell? ⟨w.heap.size, 2, none⟩ = some (.string ⟨#[]⟩) := Lib.cell_of_heap HR2.out 2; have f2 := Lib.frozen_of_heap HR2.out 2
    have r3 : w1.cell? ⟨w.heap.size, 3, none⟩ = some (.bool false) := Lib.cell_of_heap HR2.out 3; have f3 := Lib.frozen_of_heap HR2.out 3
    have r4 : w1.cell? ⟨w.heap.size, 4, none⟩ = some (.slice none 0 0) := Lib.cell_of_heap HR2.out 4; have f4 := Lib.frozen_of_heap HR2.out 4
    have r5 : w1.cell? ⟨w.heap.size, 5, none⟩ = some (.slice none 0 0) := Lib.cell_of_heap HR2.out 5; have f5 := Lib.frozen_of_heap HR2.out 5
    have r6 : w1.cell? ⟨w.heap.size, 6, none⟩ = some (.slice none 0 0) := Lib.cell_of_heap HR2.out 6; have f6 := Lib.frozen_of_heap HR2.out 6
    have r7 : w1.cell? ⟨w.heap.size, 7, none⟩ = some (.slice none 0 0) := Lib.cell_of_heap HR2.out 7; have f7 := Lib.frozen_of_heap HR2.out 7
    have r8 : w1.cell? ⟨w.heap.size, 8, none⟩ = some (.slice none 0 0) := Lib.cell_of_heap HR2.out 8; have f8 := Lib.frozen_of_heap HR2.out 8
    have r9 : w1.cell? ⟨w.heap.size, 9, none⟩ = some (.int .i64 0) := Lib.cell_of_heap HR2.out 9; have f9 := Lib.frozen_of_heap HR2.out 9
    have r10 : w1.cell? ⟨w.heap.size, 10, none⟩ = some (.int .i64 0) := Lib.cell_of_heap HR2.out 10; have f10 := Lib.frozen_of_heap HR2.out 10
    have r11 : w1.cell? ⟨w.heap.size, 11, none⟩ = some (.bool false) := Lib.cell_of_heap HR2.out 11; have f11 := Lib.frozen_of_heap HR2.out 11
    have r12 : w1.cell? ⟨w.heap.size, 12, none⟩ = some (.slice none 0 0) := Lib.cell_of_heap HR2.out 12; have f12 := Lib.frozen_of_heap HR2.out 12
    have r13 : w1.cell? ⟨w.heap.size, 13, none⟩ = some (.slice none 0 0) := Lib.cell_of_heap HR2.out 13; have f13 := Lib.frozen_of_heap HR2.out 13
    go_wp2_with fail
    clear r0 f0 r1 f1 r2 f2 r3 f3 r4 f4 r5 f5 r6 f6 r7 f7 r8 f8 r9 f9 r10 f10 r11 f11 r12 f12 r13 f13
    rw [show ((((((((((((((w1.setCell ⟨w.heap.size, 0, none⟩ (.int .i64 0)).setCell ⟨w.heap.size, 1, none⟩ (.int .i64 0)).setCell ⟨w.heap.size, 2, none⟩ (.string ⟨#[]⟩)).setCell ⟨w.heap.size, 3, none⟩ (.bool false)).setCell ⟨w.heap.size, 4, none⟩ (.slice none 0 0)).setCell ⟨w.heap.size, 5, none⟩ (.slice none 0 0)).setCell ⟨w.heap.size, 6, none⟩ (.slice none 0 0)).setCell ⟨w.heap.size, 7, none⟩ (.slice none 0 0)).setCell ⟨w.heap.size, 8, none⟩ (.slice none 0 0)).setCell ⟨w.heap.size, 9, none⟩ (.int .i64 0)).setCell ⟨w.heap.size, 10, none⟩ (.int .i64 0)).setCell ⟨w.heap.size, 11, none⟩ (.bool false)).setCell ⟨w.heap.size, 12, none⟩ (.slice none 0 0)).setCell ⟨w.heap.size, 13, none⟩ (.slice none 0 0)) = storeL w1 w.heap.size 0 (icells zero) from rfl]
    have HR3 := Lib.hid (store_item (z := zero) (x := zero) HR2.out)
    have hne : w.heap.size ≠ b := by omega
    have hvn : Value.ownBlock (.slice a l.length cap) ≠ some w.heap.size := fun e => by have := (HOW.out _ e).2; omega
    have HF := Lib.hid (HS2.out.result hne hvn (icells zero) 0)
    have HG := Lib.hid ((Chg.of_below (b := b) (v := .slice a l.length cap) (thru HB0.out HB1.out)).result (Nat.le_refl _) (icells zero) 0)
    generalize storeL w1 w.heap.size 0 (icells zero) = W3 at HR3 HF HG ⊢
    have y0 : W3.cell? ⟨w.heap.size, 0, none⟩ = some (.int .i64 0) := Lib.cell_of_heap HR3.out 0
    have y1 : W3.cell? ⟨w.heap.size, 1, none⟩ = some (.int .i64 0) := Lib.cell_of_heap HR3.out 1
    have y2 : W3.cell? ⟨w.heap.size, 2, none⟩ = some (.string ⟨#[]⟩) := Lib.cell_of_heap HR3.out 2
    have y3 : W3.cell? ⟨w.heap.size, 3, none⟩ = some (.bool false) := Lib.cell_of_heap HR3.out 3
    have y4 : W3.cell? ⟨w.heap.size, 4, none⟩ = some (.slice none 0 0) := Lib.cell_of_heap HR3.out 4
    have y5 : W3.cell? ⟨w.heap.size, 5, none⟩ = some (.slice none 0 0) := Lib.cell_of_heap HR3.out 5
    have y6 : W3.cell? ⟨w.heap.size, 6, none⟩ = some (.slice none 0 0) := Lib.cell_of_heap HR3.out 6
    have y7 : W3.cell? ⟨w.heap.size, 7, none⟩ = some (.slice none 0 0) := Lib.cell_of_heap HR3.out 7
    have y8 : W3.cell? ⟨w.heap.size, 8, none⟩ = some (.slice none 0 0) := Lib.cell_of_heap HR3.out 8
    have y9 : W3.cell? ⟨w.heap.size, 9, none⟩ = some (.int .i64 0) := Lib.cell_of_heap HR3.out 9
    have y10 : W3.cell? ⟨w.heap.size, 10, none⟩ = some (.int .i64 0) := Lib.cell_of_heap HR3.out 10
    have y11 : W3.cell? ⟨w.heap.size, 11, none⟩ = some (.bool false) := Lib.cell_of_heap HR3.out 11
    have y12 : W3.cell? ⟨w.heap.size, 12, none⟩ = some (.slice none 0 0) := Lib.cell_of_heap HR3.out 12
    have y13 : W3.cell? ⟨w.heap.size, 13, none⟩ = some (.slice none 0 0) := Lib.cell_of_heap HR3.out 13
    refine bodyPost_ret (v := .tuple #[.agg #[.int .i64 0, .int .i64 0, .string ⟨#[]⟩, .bool false, .slice none 0 0, .slice none 0 0, .slice none 0 0, .slice none 0 0, .slice none 0 0, .int .i64 0, .int .i64 0, .bool false, .slice none 0 0, .slice none 0 0], .bool false]) (by simp [results, Try.results14, go_sem, y0, y1, y2, y3, y4, y5, y6, y7, y8, y9, y10, y11, y12, y13]) rfl ?_
    exact ⟨rfl, _, HF.out, HG.out⟩
  | some i =>
    obtain ⟨hil, y, hy, _⟩ := upF_lt _ _ hu
    rw [hu] at hru hT
    simp only [hy] at hru
    simp only [upV] at hT
    obtain ⟨g, o, rfl, hbl, hcell⟩ := HCL.out i y hy
    have HCE := Lib.hid hcell
    have HT := Lib.hid hT
    clear hT hu hy hcell
    cases h9 : (y.k == 9)
    · have h9' : (y.k != 9) = true := by rw [bne, h9]; rfl
      rw [h9] at hru
      have hv : retV l = .tuple #[.agg #[.int .i64 0, .int .i64 0, .string ⟨#[]⟩, .bool false, .slice none 0 0, .slice none 0 0, .slice none 0 0, .slice none 0 0, .slice none 0 0, .int .i64 0, .int .i64 0, .bool false, .slice none 0 0, .slice none 0 0], .bool false] := by unfold retV; rw [hru]; rfl
      have hw : retL l = l := by unfold retL; rw [hru]; rfl
      rw [hv, hw]
      clear hru hv hw
      go_enter Try.func14, Try.ntmps14
      go_wp2_with fail
      refine HT.out.mono ?_
      rintro e w1 ⟨rfl, hb1⟩
      have hrow2 := (hb1.block w.heap.size (by rw [HSZ.out]; omega)).trans HZ.out
      have hst2 := HS.out.stay (thru HB0.out hb1)
      have hc2 := hst2.cell
      have q0 : w1.cell? ⟨g, o + i * 14, none⟩ = some (.int .i64 y.k) := cell_below (thru HB0.out hb1) (HCE.out 0 _ rfl)
      have HB1 := Lib.hid hb1; have HR2 := Lib.hid hrow2; have HS2 := Lib.hid hst2
      clear hb1 hrow2 hst2
      have r0 : w1.cell? ⟨w.heap.size, 0, none⟩ = some (.int .i64 0) := Lib.cell_of_heap HR2.out 0; have f0 := Lib.frozen_of_heap HR2.out 0
      have r1 : w1.cell? ⟨w.heap.size, 1, none⟩ = some (.int .i64 0) := Lib.cell_of_heap HR2.out 1; have f1 := Lib.frozen_of_heap HR2.out 1
      have r2 : w1.cell? ⟨w.heap.size, 2, none⟩ = some (.string ⟨#[]⟩) := Lib.cell_of_heap HR2.out 2; have f2 := Lib.frozen_of_heap HR2.out 2
      have r3 : w1.cell? ⟨w.heap.size, 3, none⟩ = some (.bool false) := Lib.cell_of_heap HR2.out 3; have f3 := Lib.frozen_of_heap HR2.out 3
      have r4 : w1.cell? ⟨w.heap.size, 4, none⟩ = some (.slice none 0 0) := Lib.cell_of_heap HR2.out 4; have f4 := Lib.frozen_of_heap HR2.out 4
      have r5 : w1.cell? ⟨w.heap.size, 5, none⟩ = some (.slice none 0 0) := Lib.cell_of_heap HR2.out 5; have f5 := Lib.frozen_of_heap HR2.out 5
      have r6 : w1.cell? ⟨w.heap.size, 6, none⟩ = some (.slice none 0 0) := Lib.cell_of_heap HR2.out 6; have f6 := Lib.frozen_of_heap HR2.out 6
      have r7 : w1.cell? ⟨w.heap.size, 7, none⟩ = some (.slice none 0 0) := Lib.cell_of_heap HR2.out 7; have f7 := Lib.frozen_of_heap HR2.out 7
      have r8 : w1.cell? ⟨w.heap.size, 8, none⟩ = some (.slice none 0 0) := Lib.cell_of_heap HR2.out 8; have f8 := Lib.frozen_of_heap HR2.out 8
      have r9 : w1.cell? ⟨w.heap.size, 9, none⟩ = some (.int .i64 0) := Lib.cell_of_heap HR2.out 9; have f9 := Lib.frozen_of_heap HR2.out 9
      have r10 : w1.cell? ⟨w.heap.size, 10, none⟩ = some (.int .i64 0) := Lib.cell_of_heap HR2.out 10; have f10 := Lib.frozen_of_heap HR2.out 10
      have r11 : w1.cell? ⟨w.heap.size, 11, none⟩ = some (.bool false) := Lib.cell_of_heap HR2.out 11; have f11 := Lib.frozen_of_heap HR2.out 11
      have r12 : w1.cell? ⟨w.heap.size, 12, none⟩ = some (.slice none 0 0) := Lib.cell_of_heap HR2.out 12; have f12 := Lib.frozen_of_heap HR2.out 12
      have r13 : w1.cell? ⟨w.heap.size, 13, none⟩ = some (.slice none 0 0) := Lib.cell_of_heap HR2.out 13; have f13 := Lib.frozen_of_heap HR2.out 13
      go_wp2_with fail
      clear r0 f0 r1 f1 r2 f2 r3 f3 r4 f4 r5 f5 r6 f6 r7 f7 r8 f8 r9 f9 r10 f10 r11 f11 r12 f12 r13 f13
      rw [show ((((((((((((((w1.setCell ⟨w.heap.size, 0, none⟩ (.int .i64 0)).setCell ⟨w.heap.size, 1, none⟩ (.int .i64 0)).setCell ⟨w.heap.size, 2, none⟩ (.string ⟨#[]⟩)).setCell ⟨w.heap.size, 3, none⟩ (.bool false)).setCell ⟨w.heap.size, 4, none⟩ (.slice none 0 0)).setCell ⟨w.heap.size, 5, none⟩ (.slice none 0 0)).setCell ⟨w.heap.size, 6, none⟩ (.slice none 0 0)).setCell ⟨w.heap.size, 7, none⟩ (.slice none 0 0)).setCell ⟨w.heap.size, 8, none⟩ (.slice none 0 0)).setCell ⟨w.heap.size, 9, none⟩ (.int .i64 0)).setCell ⟨w.heap.size, 10, none⟩ (.int .i64 0)).setCell ⟨w.heap.size, 11, none⟩ (.bool false)).setCell ⟨w.heap.size, 12, none⟩ (.slice none 0 0)).setCell ⟨w.heap.size, 13, none⟩ (.slice none 0 0)) = storeL w1 w.heap.size 0 (icells zero) from rfl]
      have HR3 := Lib.hid (store_item (z := zero) (x := zero) HR2.out)
      have hne : w.heap.size ≠ b := by omega
      have hvn : Value.ownBlock (.slice (some ⟨g, o, none⟩) l.length cap) ≠ some w.heap.size := fun e => by have := (HOW.out _ e).2; omega
      have HF := Lib.hid (HS2.out.result hne hvn (icells zero) 0)
      have HG := Lib.hid ((Chg.of_below (b := b) (v := .slice (some ⟨g, o, none⟩) l.length cap) (thru HB0.out HB1.out)).result (Nat.le_refl _) (icells zero) 0)
      generalize storeL w1 w.heap.size 0 (icells zero) = W3 at HR3 HF HG ⊢
      have y0 : W3.cell? ⟨w.heap.size, 0, none⟩ = some (.int .i64 0) := Lib.cell_of_heap HR3.out 0
      have y1 : W3.cell? ⟨w.heap.size, 1, none⟩ = some (.int .i64 0) := Lib.cell_of_heap HR3.out 1
      have y2 : W3.cell? ⟨w.heap.size, 2, none⟩ = some (.string ⟨#[]⟩) := Lib.cell_of_heap HR3.out 2
      have y3 : W3.cell? ⟨w.heap.size, 3, none⟩ = some (.bool false) := Lib.cell_of_heap HR3.out 3
      have y4 : W3.cell? ⟨w.heap.size, 4, none⟩ = some (.slice none 0 0) := Lib.cell_of_heap HR3.out 4
      have y5 : W3.cell? ⟨w.heap.size, 5, none⟩ = some (.slice none 0 0) := Lib.cell_of_heap HR3.out 5
      have y6 : W3.cell? ⟨w.heap.size, 6, none⟩ = some (.slice none 0 0) := Lib.cell_of_heap HR3.out 6
      have y7 : W3.cell? ⟨w.heap.size, 7, none⟩ = some (.slice none 0 0) := Lib.cell_of_heap HR3.out 7
      have y8 : W3.cell? ⟨w.heap.size, 8, none⟩ = some (.slice none 0 0) := Lib.cell_of_heap HR3.out 8
      have y9 : W3.cell? ⟨w.heap.size, 9, none⟩ = some (.int .i64 0) := Lib.cell_of_heap HR3.out 9
      have y10 : W3.cell? ⟨w.heap.size, 10, none⟩ = some (.int .i64 0) := Lib.cell_of_heap HR3.out 10
      have y11 : W3.cell? ⟨w.heap.size, 11, none⟩ = some (.bool false) := Lib.cell_of_heap HR3.out 11
      have y12 : W3.cell? ⟨w.heap.size, 12, none⟩ = some (.slice none 0 0) := Lib.cell_of_heap HR3.out 12
      have y13 : W3.cell? ⟨w.heap.size, 13, none⟩ = some (.slice none 0 0) := Lib.cell_of_heap HR3.out 13
      refine bodyPost_ret (v := .tuple #[.agg #[.int .i64 0, .int .i64 0, .string ⟨#[]⟩, .bool false, .slice none 0 0, .slice none 0 0, .slice none 0 0, .slice none 0 0, .slice none 0 0, .int .i64 0, .int .i64 0, .bool false, .slice none 0 0, .slice none 0 0], .bool false]) (by simp [results, Try.results14, go_sem, y0, y1, y2, y3, y4, y5, y6, y7, y8, y9, y10, y11, y12, y13]) rfl ?_
      exact ⟨rfl, _, HF.out, HG.out⟩
    · have h9' : (y.k != 9) = false := by rw [bne, h9]; rfl
      rw [h9] at hru
      have hv : retV l = .tuple #[.agg #[.int .i64 y.k, .int .i64 y.nk, .string y.nm, .bool y.g, .slice y.a1 y.az.length y.c1, .slice y.a2 y.nw.length y.c2, .slice y.a3 y.ks.len y.c3, .slice y.a4 y.bs.length y.c4, .slice y.a5 y.cz.len y.c5, .int .i64 y.pl, .int .i64 y.st, .bool y.fr, .slice y.wa y.ws.length y.wc, .slice y.pa y.ps.length y.pc], .bool true] := by unfold retV; rw [hru]; rfl
      have hw : retL l = l.take i := by unfold retL; rw [hru]; rfl
      rw [hv, hw]
      clear hru hv hw
      go_enter Try.func14, Try.ntmps14
      go_wp2_with fail
      refine HT.out.mono ?_
      rintro e w1 ⟨rfl, hb1⟩
      have hb2 := thru hb1 (bel1 w1 (.cells #[.int .i64 y.k, .int .i64 y.nk, .string y.nm, .bool y.g, .slice y.a1 y.az.length y.c1, .slice y.a2 y.nw.length y.c2, .slice y.a3 y.ks.len y.c3, .slice y.a4 y.bs.length y.c4, .slice y.a5 y.cz.len y.c5, .int .i64 y.pl, .int .i64 y.st, .bool y.fr, .slice y.wa y.ws.length y.wc, .slice y.pa y.ps.length y.pc] 43))
      have hrow2 := (hb2.block w.heap.size (by rw [HSZ.out]; omega)).trans HZ.out
      have hx2 := heap_alloc_new w1 (.cells #[.int .i64 y.k, .int .i64 y.nk, .string y.nm, .bool y.g, .slice y.a1 y.az.length y.c1, .slice y.a2 y.nw.length y.c2, .slice y.a3 y.ks.len y.c3, .slice y.a4 y.bs.length y.c4, .slice y.a5 y.cz.len y.c5, .int .i64 y.pl, .int .i64 y.st, .bool y.fr, .slice y.wa y.ws.length y.wc, .slice y.pa y.ps.length y.pc] 43)
      have hst2 := HS.out.stay (thru HB0.out hb2)
      have hc2 := hst2.cell
      have hc1 := (HS.out.stay (thru HB0.out hb1)).cell
      have q0 : w1.cell? ⟨g, o + i * 14, none⟩ = some (.int .i64 y.k) := cell_below (thru HB0.out hb1) (HCE.out 0 _ rfl)
      have q1 : w1.cell? ⟨g, o + i * 14 + 1, none⟩ = some (.int .i64 y.nk) := cell_below (thru HB0.out hb1) (HCE.out 1 _ rfl)
      have q2 : w1.cell? ⟨g, o + i * 14 + 2, none⟩ = some (.string y.nm) := cell_below (thru HB0.out hb1) (HCE.out 2 _ rfl)
      have q3 : w1.cell? ⟨g, o + i * 14 + 3, none⟩ = some (.bool y.g) := cell_below (thru HB0.out hb1) (HCE.out 3 _ rfl)
      have q4 : w1.cell? ⟨g, o + i * 14 + 4, none⟩ = some (.slice y.a1 y.az.length y.c1) := cell_below (thru HB0.out hb1) (HCE.out 4 _ rfl)
      have q5 : w1.cell? ⟨g, o + i * 14 + 5, none⟩ = some (.slice y.a2 y.nw.length y.c2) := cell_below (thru HB0.out hb1) (HCE.out 5 _ rfl)
      have q6 : w1.cell? ⟨g, o + i * 14 + 6, none⟩ = some (.slice y.a3 y.ks.len y.c3) := cell_below (thru HB0.out hb1) (HCE.out 6 _ rfl)
      have q7 : w1.cell? ⟨g, o + i * 14 + 7, none⟩ = some (.slice y.a4 y.bs.length y.c4) := cell_below (thru HB0.out hb1) (HCE.out 7 _ rfl)
      have q8 : w1.cell? ⟨g, o + i * 14 + 8, none⟩ = some (.slice y.a5 y.cz.len y.c5) := cell_below (thru HB0.out hb1) (HCE.out 8 _ rfl)
      have q9 : w1.cell? ⟨g, o + i * 14 + 9, none⟩ = some (.int .i64 y.pl) := cell_below (thru HB0.out hb1) (HCE.out 9 _ rfl)
      have q10 : w1.cell? ⟨g, o + i * 14 + 10, none⟩ = some (.int .i64 y.st) := cell_below (thru HB0.out hb1) (HCE.out 10 _ rfl)
      have q11 : w1.cell? ⟨g, o + i * 14 + 11, none⟩ = some (.bool y.fr) := cell_below (thru HB0.out hb1) (HCE.out 11 _ rfl)
      have q12 : w1.cell? ⟨g, o + i * 14 + 12, none⟩ = some (.slice y.wa y.ws.length y.wc) := cell_below (thru HB0.out hb1) (HCE.out 12 _ rfl)
      have q13 : w1.cell? ⟨g, o + i * 14 + 13, none⟩ = some (.slice y.pa y.ps.length y.pc) := cell_below (thru HB0.out hb1) (HCE.out 13 _ rfl)
      have hs1 : w.heap.size < w1.heap.size := by have := hb1.size; rw [HSZ.out] at this; omega
      have hsx : (w1.alloc (.cells #[.int .i64 y.k, .int .i64 y.nk, .string y.nm, .bool y.g, .slice y.a1 y.az.length y.c1, .slice y.a2 y.nw.length y.c2, .slice y.a3 y.ks.len y.c3, .slice y.a4 y.bs.length y.c4, .slice y.a5 y.cz.len y.c5, .int .i64 y.pl, .int .i64 y.st, .bool y.fr, .slice y.wa y.ws.length y.wc, .slice y.pa y.ps.length y.pc] 43)).heap.size = w1.heap.size + 1 := World.size_alloc _ _
      have hcut := cut_any hl hst2 i (Nat.le_of_lt hil)
      have HB2 := Lib.hid hb2; have HR2 := Lib.hid hrow2; have HS2 := Lib.hid hst2; have HX2 := Lib.hid hx2; have HC := Lib.hid hcut
      clear hb1 hb2 hst2 hrow2 hx2 hcut
      go_wp2_with fail
      refine HC.out.mono ?_
      rintro e w3 ⟨rfl, v', hs3, hc3⟩
      have hvn : Value.ownBlock (.slice (some ⟨g, o, none⟩) l.length cap) ≠ some w.heap.size := fun e => by have := (HOW.out _ e).2; omega
      have hvx : Value.ownBlock (.slice (some ⟨g, o, none⟩) l.length cap) ≠ some w1.heap.size := fun e => by have := (HOW.out _ e).2; omega
      have hne : w.heap.size ≠ b := by omega
      have hrow3 := hc3.new HR2.out hne hvn
      have hx3 := hc3.new HX2.out (by omega) hvx
      have hvn' : v'.ownBlock ≠ some w.heap.size := hc3.ownNe (by rw [hsx]; omega) hvn
      have HG2 := Lib.hid (Chg.wide (thru HB0.out HB2.out) hc3)
      have HS3 := Lib.hid hs3; have HR2 := Lib.hid hrow3; have HX := Lib.hid hx3
      clear hs3 hrow3 hx3 hc3 q0 q1 q2 q3 q4 q5 q6 q7 q8 q9 q10 q11 q12 q13
      have r0 : w3.cell? ⟨w.heap.size, 0, none⟩ = some (.int .i64 0) := Lib.cell_of_heap HR2.out 0; have f0 := Lib.frozen_of_heap HR2.out 0
      have r1 : w3.cell? ⟨w.heap.size, 1, none⟩ = some (.int .i64 0) := Lib.cell_of_heap HR2.out 1; have f1 := Lib.frozen_of_heap HR2.out 1
      have r2 : w3.cell? ⟨w.heap.size, 2, none⟩ = some (.string ⟨#[]⟩) := Lib.cell_of_heap HR2.out 2; have f2 := Lib.frozen_of_heap HR2.out 2
      have r3 : w3.cell? ⟨w.heap.size, 3, none⟩ = some (.bool false) := Lib.cell_of_heap HR2.out 3; have f3 := Lib.frozen_of_heap HR2.out 3
      have r4 : w3.cell? ⟨w.heap.size, 4, none⟩ = some (.slice none 0 0) := Lib.cell_of_heap HR2.out 4; have f4 := Lib.frozen_of_heap HR2.out 4
      have r5 : w3.cell? ⟨w.heap.size, 5, none⟩ = some (.slice none 0 0) := Lib.cell_of_heap HR2.out 5; have f5 := Lib.frozen_of_heap HR2.out 5
      have r6 : w3.cell? ⟨w.heap.size, 6, none⟩ = some (.slice none 0 0) := Lib.cell_of_heap HR2.out 6; have f6 := Lib.frozen_of_heap HR2.out 6
      have r7 : w3.cell? ⟨w.heap.size, 7, none⟩ = some (.slice none 0 0) := Lib.cell_of_heap HR2.out 7; have f7 := Lib.frozen_of_heap HR2.out 7
      have r8 : w3.cell? ⟨w.heap.size, 8, none⟩ = some (.slice none 0 0) := Lib.cell_of_heap HR2.out 8; have f8 := Lib.frozen_of_heap HR2.out 8
      have r9 : w3.cell? ⟨w.heap.size, 9, none⟩ = some (.int .i64 0) := Lib.cell_of_heap HR2.out 9; have f9 := Lib.frozen_of_heap HR2.out 9
      have r10 : w3.cell? ⟨w.heap.size, 10, none⟩ = some (.int .i64 0) := Lib.cell_of_heap HR2.out 10; have f10 := Lib.frozen_of_heap HR2.out 10
      have r11 : w3.cell? ⟨w.heap.size, 11, none⟩ = some (.bool false) := Lib.cell_of_heap HR2.out 11; have f11 := Lib.frozen_of_heap HR2.out 11
      have r12 : w3.cell? ⟨w.heap.size, 12, none⟩ = some (.slice none 0 0) := Lib.cell_of_heap HR2.out 12; have f12 := Lib.frozen_of_heap HR2.out 12
      have r13 : w3.cell? ⟨w.heap.size, 13, none⟩ = some (.slice none 0 0) := Lib.cell_of_heap HR2.out 13; have f13 := Lib.frozen_of_heap HR2.out 13
      have s0 : w3.cell? ⟨w1.heap.size, 0, none⟩ = some (.int .i64 y.k) := Lib.cell_of_heap HX.out 0
      have s1 : w3.cell? ⟨w1.heap.size, 1, none⟩ = some (.int .i64 y.nk) := Lib.cell_of_heap HX.out 1
      have s2 : w3.cell? ⟨w1.heap.size, 2, none⟩ = some (.string y.nm) := Lib.cell_of_heap HX.out 2
      have s3 : w3.cell? ⟨w1.heap.size, 3, none⟩ = some (.bool y.g) := Lib.cell_of_heap HX.out 3
      have s4 : w3.cell? ⟨w1.heap.size, 4, none⟩ = some (.slice y.a1 y.az.length y.c1) := Lib.cell_of_heap HX.out 4
      have s5 : w3.cell? ⟨w1.heap.size, 5, none⟩ = some (.slice y.a2 y.nw.length y.c2) := Lib.cell_of_heap HX.out 5
      have s6 : w3.cell? ⟨w1.heap.size, 6, none⟩ = some (.slice y.a3 y.ks.len y.c3) := Lib.cell_of_heap HX.out 6
      have s7 : w3.cell? ⟨w1.heap.size, 7, none⟩ = some (.slice y.a4 y.bs.length y.c4) := Lib.cell_of_heap HX.out 7
      have s8 : w3.cell? ⟨w1.heap.size, 8, none⟩ = some (.slice y.a5 y.cz.len y.c5) := Lib.cell_of_heap HX.out 8
      have s9 : w3.cell? ⟨w1.heap.size, 9, none⟩ = some (.int .i64 y.pl) := Lib.cell_of_heap HX.out 9
      have s10 : w3.cell? ⟨w1.heap.size, 10, none⟩ = some (.int .i64 y.st) := Lib.cell_of_heap HX.out 10
      have s11 : w3.cell? ⟨w1.heap.size, 11, none⟩ = some (.bool y.fr) := Lib.cell_of_heap HX.out 11
      have s12 : w3.cell? ⟨w1.heap.size, 12, none⟩ = some (.slice y.wa y.ws.length y.wc) := Lib.cell_of_heap HX.out 12
      have s13 : w3.cell? ⟨w1.heap.size, 13, none⟩ = some (.slice y.pa y.ps.length y.pc) := Lib.cell_of_heap HX.out 13
      go_wp2_with fail
      clear r0 f0 s0 r1 f1 s1 r2 f2 s2 r3 f3 s3 r4 f4 s4 r5 f5 s5 r6 f6 s6 r7 f7 s7 r8 f8 s8 r9 f9 s9 r10 f10 s10 r11 f11 s11 r12 f12 s12 r13 f13 s13
      rw [show ((((((((((((((w3.setCell ⟨w.heap.size, 0, none⟩ (.int .i64 y.k)).setCell ⟨w.heap.size, 1, none⟩ (.int .i64 y.nk)).setCell ⟨w.heap.size, 2, none⟩ (.string y.nm)).setCell ⟨w.heap.size, 3, none⟩ (.bool y.g)).setCell ⟨w.heap.size, 4, none⟩ (.slice y.a1 y.az.length y.c1)).setCell ⟨w.heap.size, 5, none⟩ (.slice y.a2 y.nw.length y.c2)).setCell ⟨w.heap.size, 6, none⟩ (.slice y.a3 y.ks.len y.c3)).setCell ⟨w.heap.size, 7, none⟩ (.slice y.a4 y.bs.length y.c4)).setCell ⟨w.heap.size, 8, none⟩ (.slice y.a5 y.cz.len y.c5)).setCell ⟨w.heap.size, 9, none⟩ (.int .i64 y.pl)).setCell ⟨w.heap.size, 10, none⟩ (.int .i64 y.st)).setCell ⟨w.heap.size, 11, none⟩ (.bool y.fr)).setCell ⟨w.heap.size, 12, none⟩ (.slice y.wa y.ws.length y.wc)).setCell ⟨w.heap.size, 13, none⟩ (.slice y.pa y.ps.length y.pc)) = storeL w3 w.heap.size 0 (icells y) from rfl]
      have HR3 := Lib.hid (store_item (z := zero) (x := y) HR2.out)
      have HF := Lib.hid (HS3.out.result hne hvn' (icells y) 0)
      have HG := Lib.hid (HG2.out.result (Nat.le_refl _) (icells y) 0)
      generalize storeL w3 w.heap.size 0 (icells y) = W3 at HR3 HF HG ⊢
      have y0 : W3.cell? ⟨w.heap.size, 0, none⟩ = some (.int .i64 y.k) := Lib.cell_of_heap HR3.out 0
      have y1 : W3.cell? ⟨w.heap.size, 1, none⟩ = some (.int .i64 y.nk) := Lib.cell_of_heap HR3.out 1
      have y2 : W3.cell? ⟨w.heap.size, 2, none⟩ = some (.string y.nm) := Lib.cell_of_heap HR3.out 2
      have y3 : W3.cell? ⟨w.heap.size, 3, none⟩ = some (.bool y.g) := Lib.cell_of_heap HR3.out 3
      have y4 : W3.cell? ⟨w.heap.size, 4, none⟩ = some (.slice y.a1 y.az.length y.c1) := Lib.cell_of_heap HR3.out 4
      have y5 : W3.cell? ⟨w.heap.size, 5, none⟩ = some (.slice y.a2 y.nw.length y.c2) := Lib.cell_of_heap HR3.out 5
      have y6 : W3.cell? ⟨w.heap.size, 6, none⟩ = some (.slice y.a3 y.ks.len y.c3) := Lib.cell_of_heap HR3.out 6
      have y7 : W3.cell? ⟨w.heap.size, 7, none⟩ = some (.slice y.a4 y.bs.length y.c4) := Lib.cell_of_heap HR3.out 7
      have y8 : W3.cell? ⟨w.heap.size, 8, none⟩ = some (.slice y.a5 y.cz.len y.c5) := Lib.cell_of_heap HR3.out 8
      have y9 : W3.cell? ⟨w.heap.size, 9, none⟩ = some (.int .i64 y.pl) := Lib.cell_of_heap HR3.out 9
      have y10 : W3.cell? ⟨w.heap.size, 10, none⟩ = some (.int .i64 y.st) := Lib.cell_of_heap HR3.out 10
      have y11 : W3.cell? ⟨w.heap.size, 11, none⟩ = some (.bool y.fr) := Lib.cell_of_heap HR3.out 11
      have y12 : W3.cell? ⟨w.heap.size, 12, none⟩ = some (.slice y.wa y.ws.length y.wc) := Lib.cell_of_heap HR3.out 12
      have y13 : W3.cell? ⟨w.heap.size, 13, none⟩ = some (.slice y.pa y.ps.length y.pc) := Lib.cell_of_heap HR3.out 13
      refine bodyPost_ret (v := .tuple #[.agg #[.int .i64 y.k, .int .i64 y.nk, .string y.nm, .bool y.g, .slice y.a1 y.az.length y.c1, .slice y.a2 y.nw.length y.c2, .slice y.a3 y.ks.len y.c3, .slice y.a4 y.bs.length y.c4, .slice y.a5 y.cz.len y.c5, .int .i64 y.pl, .int .i64 y.st, .bool y.fr, .slice y.wa y.ws.length y.wc, .slice y.pa y.ps.length y.pc], .bool true]) (by simp [results, Try.results14, go_sem, y0, y1, y2, y3, y4, y5, y6, y7, y8, y9, y10, y11, y12, y13]) rfl ?_
      exact ⟨rfl, _, HF.out, HG.out⟩
end Fra
end Go.Proofs.Ytbcldfaphnnmlaa
