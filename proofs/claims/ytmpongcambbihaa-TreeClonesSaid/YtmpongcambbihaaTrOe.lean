/- Assignments, cloned into memory of their own. -/
import Derived.Test.YtmpongcambbihaaTrOd
namespace Go.Proofs.Ytmpongcambbihaa
open Go.RowKit Go.Sort
namespace Ow
open Cls Pt Tr

set_option maxHeartbeats 1600000 in
set_option maxRecDepth 100000 in
theorem cloneAssign_any (t : ByteArray) (l : PL) (a : Option Addr) (cap : Nat) (w : World) (ht : t.size ≤ R) (hsz : l.size ≤ M) (hl : Lies w a cap l) :
    Calls Try.prog 13 #[.agg #[.string t, .slice a l.len cap]] w fun e w' => ∃ a' cap', e = .returned (.agg #[.string t, .slice a' l.len cap']) ∧ Below w.heap.size w w' ∧ Gives EA w w' [.string t, .slice a' l.len cap'] (t, l) := by
  have hb0 := bel2 w (.cells #[.string t, .slice a l.len cap] 41) (.cells #[.string ⟨#[]⟩, .slice none 0 0] 41)
  have HC := Lib.hid (fun W (hb : Below w.heap.size w W) => cloneWord_any l a cap W hsz (hl.below hb))
  have HB0 := Lib.hid hb0
  clear hl hb0 hsz
  go_enter Try.func13, Try.ntmps13
  go_wp2_with fail
  refine (HC.out _ HB0.out).mono ?_
  rintro e w1 ⟨a', cap', rfl, hb1, how⟩
  have hsz0 : ((w.alloc (.cells #[.string t, .slice a l.len cap] 41)).alloc (.cells #[.string ⟨#[]⟩, .slice none 0 0] 41)).heap.size = w.heap.size + 2 := by simp
  have hr1 : w1.heap[w.heap.size]? = some (.cells #[.string t, .slice a l.len cap] 41 (0, 0)) := (hb1.block _ (by omega)).trans ((Below.heap_alloc _ _ _ (by simp)).trans (heap_new' _ _))
  have hr2 : w1.heap[w.heap.size + 1]? = some (.cells #[.string ⟨#[]⟩, .slice none 0 0] 41 (0, 0)) := (hb1.block _ (by omega)).trans (by
    have := heap_new' (w.alloc (.cells #[.string t, .slice a l.len cap] 41)) (.cells #[.string ⟨#[]⟩, .slice none 0 0] 41)
    rwa [World.size_alloc] at this)
  rw [hsz0] at how
  have hw1s : w.heap.size + 2 ≤ w1.heap.size := by have := hb1.size; omega
  have hbb := thru HB0.out hb1
  have p0 : w1.cell? ⟨w.heap.size, 0, none⟩ = some (.string t) := Lib.cell_of_heap hr1 0
  have p1 : w1.cell? ⟨w.heap.size, 1, none⟩ = some (.slice a l.len cap) := Lib.cell_of_heap hr1 1
  have c0 : w1.cell? ⟨w.heap.size + 1, 0, none⟩ = some (.string ⟨#[]⟩) := Lib.cell_of_heap hr2 0
  have c1 : w1.cell? ⟨w.heap.size + 1, 1, none⟩ = some (.slice none 0 0) := Lib.cell_of_heap hr2 1
  have f0 : w1.frozen? ⟨w.heap.size + 1, 0, none⟩ = false := frozen_of_row _ _ _ _ _ hr2
  have f1 : w1.frozen? ⟨w.heap.size + 1, 1, none⟩ = false := frozen_of_row _ _ _ _ _ hr2
  have pf : w1.frozen? ⟨w.heap.size, 1, none⟩ = false := frozen_of_row _ _ _ _ _ hr1
  have hst : ∃ Wm, w1.setCell ⟨w.heap.size, 1, none⟩ (.slice a' l.len cap') = Wm ∧ Wm.heap[w.heap.size + 1]? = some (.cells #[.string ⟨#[]⟩, .slice none 0 0] 41 (0, 0)) ∧ Below w.heap.size w Wm ∧ (∀ c, c ≠ w.heap.size → Wm.heap[c]? = w1.heap[c]?) ∧ Wm.heap.size = w1.heap.size :=
    ⟨_, rfl, (heap_setCell_other _ _ _ _ (by show w.heap.size + 1 ≠ w.heap.size; omega)).trans hr2, hbb.setCell (Nat.le_refl _) _, fun c hc => heap_setCell_other _ _ _ _ hc, by simp⟩
  obtain ⟨Wm, hWm, hm1, hm2, hm3, hm4⟩ := hst
  have hs5 := stored2 w.heap.size w Wm (w.heap.size + 1) (.string t) (.slice a' l.len cap') _ _ _ hm1 hm2 (by omega)
  rw [← hWm] at hs5
  have HS5 := Lib.hid hs5; have HOW := Lib.hid how; have HW1 := Lib.hid hw1s
  clear hs5 how hm1 hm2 hm3 hm4 hWm hw1s hr1 hr2 hb1 hbb hsz0
  go_wp2_with fail
  obtain ⟨g1, g2, g3, g4⟩ := HS5.out
  refine bodyPost_ret (results_cell_row rfl _ _ (w.heap.size + 1) _ _ _ _ rfl g1 Try.underlying41 rfl (by kernel_rfl)) rfl ?_
  refine ⟨a', cap', rfl, g2, ?_⟩
  intro w2 b p hc hk
  have g4' := g4.trans (show (w1.setCell ⟨w.heap.size, 1, none⟩ (.slice a' l.len cap')).heap.size = w1.heap.size by simp)
  refine ⟨⟨hc 0 _ rfl, ht⟩, a', cap', hc 1 _ rfl, ?_⟩
  have h1 := HW1.out
  rw [g4'] at hk ⊢
  exact OwnR.low (HOW.out.keep (stable_EP _) (w' := w2) fun c h1 h2 => by
    rw [hk c (by omega) h2, g3 c (by omega)]
    exact heap_setCell_other _ _ _ _ (by show c ≠ w.heap.size; omega)) (by omega)

set_option maxHeartbeats 1600000 in
set_option maxRecDepth 100000 in
theorem copied_assigns (l : List (ByteArray × PL)) (a : Option Addr) (cap : Nat) (w : World) (hl : Sl 2 (PA w) a cap l) (hln : l.length ≤ 1000000) (hcd : ∀ x ∈ l, x.2.size ≤ M) :
    Calls Try.prog 12 #[.slice a l.length cap, .func (.func 13) #[] #[]] w (fun e w' => ∃ a' cap', e = .returned (.slice a' l.length cap') ∧ Below w.heap.size w w' ∧ OwnR 2 EA (fun i => l[i]?) w' w.heap.size w'.heap.size a' cap' l.length) := by
  have hle := hl.le
  cases a with
  | none =>
    have hnz : l.length = 0 := by rcases hl.2.2 with h | ⟨b, o, h, _⟩; (rw [h]; rfl); cases h
    have hnil := fun w => Lib.run_eql_slice_nil (P := Try.prog) w 22 41 none 0 cap 0 0 Try.underlying22
    have HZ := Lib.hid hnz
    rw [hnz]
    clear hl hnz hle hln hcd
    go_enter Try.func12, Try.ntmps12
    go_wp2_with fail
    go_ret
    exact ⟨none, 0, rfl, Below.refl _ _, Nat.le_refl _, Nat.zero_le _, Nat.le_refl _, .inl rfl⟩
  | some ad =>
    have hnil := fun w => Lib.run_eql_slice_nil (P := Try.prog) w 22 41 (some ad) l.length cap 0 0 Try.underlying22
    simp only [Option.isNone_some] at hnil
    obtain ⟨row, hrow, hmk⟩ := make_assigns l.length hln
    have HL := Lib.hid hl; have HR := Lib.hid hrow; have HLN := Lib.hid hln
    have HCD := Lib.hid hcd
    clear hcd
    clear hl hrow
    go_enter Try.func12, Try.ntmps12
    go_wp2_with fail
    go_loopw [15] (fun x wr => ∃ (j : Nat) (ms : Nat → Nat), j ≤ l.length ∧ x = .int .i64 j ∧ Below w.heap.size w wr ∧ Done 2 EA (fun i => l[i]?) wr w.heap.size j ms ∧ ms j ≤ wr.heap.size ∧ ∃ row' : Array Value, row'.size = l.length * 2 ∧ wr.heap[w.heap.size]? = some (.cells row' 41 (0, 0))) (fun x wr => l.length - (intOf x).toNat)
    case atStart => exact ⟨0, fun _ => w.heap.size + 1, Nat.zero_le _, rfl, bel1 _ _, Done.zero _ _, by simp, row, HR.out, heap_new' _ _⟩
    case round =>
      obtain ⟨j, ms, hj, rfl, hb, hdn, hms, row', hrow', hrb⟩ := hrel
      have HW := Lib.hid hb; have HD := Lib.hid hdn; have HMS := Lib.hid hms; have HRS := Lib.hid hrow'; have HRB := Lib.hid hrb
      clear hb hdn hms hrow' hrb hmk
      by_cases hlt : j < l.length
      · obtain ⟨b1, o1, hae, e1, hs1, a1, c1, e2, hl1⟩ := (sl_below (P := PA) (fun h => h.below HW.out) HL.out).get (List.getElem?_eq_getElem hlt)
        cases hae
        have hxs := HCD.out _ (List.getElem_mem hlt)
        have HGET := Lib.hid (show l[j]? = some (l[j].1, l[j].2) from List.getElem?_eq_getElem hlt)
        generalize l[j].1 = t at *
        generalize l[j].2 = x at *
        have HX := Lib.hid hxs; have HL1 := Lib.hid hl1; have HS1 := Lib.hid hs1
        clear hxs hl1 hs1
        go_wp2_with fail
        refine (cloneAssign_any t x a1 c1 (wr.alloc (.cells #[.string t, .slice a1 x.len c1] 41)) HS1.out HX.out (HL1.out.below (bel1 wr (.cells #[.string t, .slice a1 x.len c1] 41)))).mono ?_
        rintro e w2 ⟨a2, ca2, rfl, hb2, hgv⟩
        have hBl : w.heap.size < wr.heap.size := (Array.getElem?_eq_some_iff.1 HRB.out).1
        have hRw : w2.heap[w.heap.size]? = some (.cells row' 41 (0, 0)) := (hb2.block _ (Nat.lt_of_lt_of_le hBl (bel1 wr (.cells #[.string t, .slice a1 x.len c1] 41)).size)).trans (((bel1 wr (.cells #[.string t, .slice a1 x.len c1] 41)).block _ hBl).trans HRB.out)
        have rowk : ∀ i, i < 2 → ∃ x, w2.cell? ⟨w.heap.size, j * 2 + i, none⟩ = some x := fun i hi => ⟨row'[j * 2 + i]'(by rw [HRS.out]; omega), (Lib.cell_of_heap hRw _).trans (by simp)⟩
        have rf : ∀ i, w2.frozen? ⟨w.heap.size, i, none⟩ = false := fun i => frozen_of_row _ _ _ _ _ hRw
        obtain ⟨z0, e0⟩ := rowk 0 (by omega)
        obtain ⟨z1, e1⟩ := rowk 1 (by omega)
        have f0 := rf (j * 2)
        have f1 := rf (j * 2 + 1)
        rw [Nat.add_zero] at e0
        have hrd := round stable_EA HD.out HMS.out HW.out HRB.out HRS.out hlt (bel1 wr (.cells #[.string t, .slice a1 x.len c1] 41)) hb2 (vs := [.string t, .slice a2 x.len ca2]) rfl HGET.out hgv
        have HRD := Lib.hid hrd
        clear hb2 hgv hRw rowk rf hrd
        go_wp2_with fail
        obtain ⟨W, hW, hWb, hWr, ms', hm', hWd⟩ := HRD.out
        have hW' : ((w2.setCell ⟨w.heap.size, j * 2, none⟩ (.string t)).setCell ⟨w.heap.size, j * 2 + 1, none⟩ (.slice a2 x.len ca2)) = W := by rw [← hW]; rfl
        go_roundw
        case rel => exact ⟨j + 1, ms', by omega, by go_num, by rw [hW']; exact hWb, by rw [hW']; exact hWd, by rw [hW']; exact hm', by rw [hW']; exact hWr⟩
        case measure => simp [intOf]; omega
      · obtain rfl : j = l.length := by omega
        go_wp2_with fail
        go_ret
        have hs := HW.out.size
        have hBl := (Array.getElem?_eq_some_iff.1 HRB.out).1
        exact ⟨some ⟨w.heap.size, 0, none⟩, l.length, rfl, HW.out, Nat.le_refl _, by unfold R; omega, hs, .inr ⟨w.heap.size, ms, rfl, Nat.le_refl _, hBl, HMS.out, ⟨row', _, HRB.out⟩, HD.out⟩⟩
end Ow
end Go.Proofs.Ytmpongcambbihaa
