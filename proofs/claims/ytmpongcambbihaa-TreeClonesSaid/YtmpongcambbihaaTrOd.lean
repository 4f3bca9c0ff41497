/- Words, bools, assignments, cloned into memory of their own. -/
import Derived.Test.YtmpongcambbihaaTrOc
namespace Go.Proofs.Ytmpongcambbihaa
open Go.RowKit Go.Sort
namespace Ow
open Cls Pt Tr

/-- How deep parts may be. -/
abbrev M : Nat := 1000000
def EB : Elem Bool := fun w b o lo hi t => lo ≤ hi ∧ w.cell? ⟨b, o, none⟩ = some (.bool t)
theorem stable_EB : Stable 1 EB := stable_flat 1 (fun w b o t => w.cell? ⟨b, o, none⟩ = some (.bool t)) fun h hc => (hc 0 (by decide)).trans h
def EW : Elem PL := fun w b o lo hi l => ∃ a cap, w.cell? ⟨b, o, none⟩ = some (.slice a l.len cap) ∧ OwnR 5 (EP (M + 1)) (partAt l) w lo hi a cap l.len
theorem stable_EW : Stable 1 EW := ⟨fun ⟨a, cap, h, h7⟩ hc hb => ⟨a, cap, (hc 0 (by decide)).trans h, h7.keep (stable_EP _) hb⟩, fun ⟨_, _, _, h7⟩ => h7.2.2.1, fun ⟨a, cap, h, h7⟩ hl => ⟨a, cap, h, h7.low hl⟩⟩
def EA : Elem (ByteArray × PL) := fun w b o lo hi x => (w.cell? ⟨b, o, none⟩ = some (.string x.1) ∧ x.1.size ≤ R) ∧ ∃ a cap, w.cell? ⟨b, o + 1, none⟩ = some (.slice a x.2.len cap) ∧ OwnR 5 (EP (M + 1)) (partAt x.2) w lo hi a cap x.2.len
theorem stable_EA : Stable 2 EA := ⟨fun ⟨⟨h0, h1⟩, a, cap, h, h7⟩ hc hb => ⟨⟨(hc 0 (by decide)).trans h0, h1⟩, a, cap, (hc 1 (by decide)).trans h, h7.keep (stable_EP _) hb⟩, fun ⟨_, _, _, _, h7⟩ => h7.2.2.1, fun ⟨h0, a, cap, h, h7⟩ hl => ⟨h0, a, cap, h, h7.low hl⟩⟩

theorem info_words : (Try.prog.info? 39).map (fun i => (i.zero, i.size, i.bytes)) = some (some (.slice none 0 0), 1, 24) := by kernel_rfl
theorem make_words (n : Nat) (hn : n ≤ 1000000) : ∃ row : Array Value, row.size = n * 1 ∧ ∀ w : World, (Instr.makeSlice 23 (.int .i64 (n : Int)) (.int .i64 (n : Int))).run Try.prog w = .ok (.slice (some ⟨w.heap.size, 0, none⟩) n n) (w.alloc (.cells row 39)) := by
  obtain ⟨i, hi, hzz⟩ := Option.map_eq_some_iff.1 info_words
  simp only [Prod.mk.injEq] at hzz
  obtain ⟨hz, hs, hb⟩ := hzz
  refine ⟨madeCells (Value.slice none 0 0).cells (n * 1), size_madeCells _ _, fun w => ?_⟩
  have hr := run_make (P := Try.prog) w 23 39 i _ Try.underlying23 hi hz .i64 .i64 n n (by omega) (Int.le_refl _) (by rw [hb]; omega) (by omega)
  simp only [Int.toNat_natCast, hs] at hr
  exact hr

theorem info_bools : (Try.prog.info? 4).map (fun i => (i.zero, i.size, i.bytes)) = some (some (.bool false), 1, 1) := by kernel_rfl
theorem make_bools (n : Nat) (hn : n ≤ 1000000) : ∃ row : Array Value, row.size = n * 1 ∧ ∀ w : World, (Instr.makeSlice 25 (.int .i64 (n : Int)) (.int .i64 (n : Int))).run Try.prog w = .ok (.slice (some ⟨w.heap.size, 0, none⟩) n n) (w.alloc (.cells row 4)) := by
  obtain ⟨i, hi, hzz⟩ := Option.map_eq_some_iff.1 info_bools
  simp only [Prod.mk.injEq] at hzz
  obtain ⟨hz, hs, hb⟩ := hzz
  refine ⟨madeCells (Value.bool false).cells (n * 1), size_madeCells _ _, fun w => ?_⟩
  have hr := run_make (P := Try.prog) w 25 4 i _ Try.underlying25 hi hz .i64 .i64 n n (by omega) (Int.le_refl _) (by rw [hb]; omega) (by omega)
  simp only [Int.toNat_natCast, hs] at hr
  exact hr

theorem info_assigns : (Try.prog.info? 41).map (fun i => (i.zero, i.size, i.bytes)) = some (some (.agg #[.string ⟨#[]⟩, .slice none 0 0]), 2, 40) := by kernel_rfl
theorem make_assigns (n : Nat) (hn : n ≤ 1000000) : ∃ row : Array Value, row.size = n * 2 ∧ ∀ w : World, (Instr.makeSlice 22 (.int .i64 (n : Int)) (.int .i64 (n : Int))).run Try.prog w = .ok (.slice (some ⟨w.heap.size, 0, none⟩) n n) (w.alloc (.cells row 41)) := by
  obtain ⟨i, hi, hzz⟩ := Option.map_eq_some_iff.1 info_assigns
  simp only [Prod.mk.injEq] at hzz
  obtain ⟨hz, hs, hb⟩ := hzz
  refine ⟨madeCells (Value.agg #[.string ⟨#[]⟩, .slice none 0 0]).cells (n * 2), size_madeCells _ _, fun w => ?_⟩
  have hr := run_make (P := Try.prog) w 22 41 i _ Try.underlying22 hi hz .i64 .i64 n n (by omega) (Int.le_refl _) (by rw [hb]; omega) (by omega)
  simp only [Int.toNat_natCast, hs] at hr
  exact hr

theorem cloneWord_any (l : PL) (a : Option Addr) (cap : Nat) (w : World) (hsz : l.size ≤ M) (hl : Lies w a cap l) : Calls Try.prog 15 #[.slice a l.len cap] w fun e w' => ∃ a' cap', e = .returned (.slice a' l.len cap') ∧ Below w.heap.size w w' ∧ OwnR 5 (EP (M + 1)) (partAt l) w' w.heap.size w'.heap.size a' cap' l.len := by
  have HC := Lib.hid (copyW_at M l a cap w (by unfold M at hsz ⊢; omega) hsz hl)
  clear hl hsz
  go_enter Try.func15, Try.ntmps15
  go_wp2_with (go_at_call 31; refine (HC.out).mono ?_; rintro e w1 ⟨a', cap', rfl, hb1, how⟩)
  go_ret
  exact ⟨a', cap', rfl, by assumption, by assumption⟩
theorem gives_word {w w' : World} {l : PL} {a' : Option Addr} {cap' : Nat} (h : OwnR 5 (EP (M + 1)) (partAt l) w' w.heap.size w'.heap.size a' cap' l.len) : Gives EW w w' [.slice a' l.len cap'] l :=
  fun _ _ _ hc hk => ⟨a', cap', hc 0 _ rfl, h.keep (stable_EP _) hk⟩
theorem cloneBool_any (b : Bool) (w : World) : Calls Try.prog 18 #[.bool b] w fun e w' => e = .returned (.bool b) ∧ w = w' := by
  go_enter Try.func18, Try.ntmps18
  go_wp2
  go_ret
  exact ⟨rfl, rfl⟩

set_option maxHeartbeats 1600000 in
set_option maxRecDepth 100000 in
theorem copied_words (l : List PL) (a : Option Addr) (cap : Nat) (w : World) (hl : Sl 1 (PW w) a cap l) (hln : l.length ≤ 1000000) (hcd : ∀ x ∈ l, x.size ≤ M) :
    Calls Try.prog 14 #[.slice a l.length cap, .func (.func 15) #[] #[]] w (fun e w' => ∃ a' cap', e = .returned (.slice a' l.length cap') ∧ Below w.heap.size w w' ∧ OwnR 1 EW (fun i => l[i]?) w' w.heap.size w'.heap.size a' cap' l.length) := by
  have hle := hl.le
  cases a with
  | none =>
    have hnz : l.length = 0 := by rcases hl.2.2 with h | ⟨b, o, h, _⟩; (rw [h]; rfl); cases h
    have hnil := fun w => Lib.run_eql_slice_nil (P := Try.prog) w 23 39 none 0 cap 0 0 Try.underlying23
    have HZ := Lib.hid hnz
    rw [hnz]
    clear hl hnz hle hln hcd
    go_enter Try.func14, Try.ntmps14
    go_wp2_with fail
    go_ret
    exact ⟨none, 0, rfl, Below.refl _ _, Nat.le_refl _, Nat.zero_le _, Nat.le_refl _, .inl rfl⟩
  | some ad =>
    have hnil := fun w => Lib.run_eql_slice_nil (P := Try.prog) w 23 39 (some ad) l.length cap 0 0 Try.underlying23
    simp only [Option.isNone_some] at hnil
    obtain ⟨row, hrow, hmk⟩ := make_words l.length hln
    have HL := Lib.hid hl; have HR := Lib.hid hrow; have HLN := Lib.hid hln
    have HCD := Lib.hid hcd
    clear hcd
    clear hl hrow
    go_enter Try.func14, Try.ntmps14
    go_wp2_with fail
    go_loopw [15] (fun x wr => ∃ (j : Nat) (ms : Nat → Nat), j ≤ l.length ∧ x = .int .i64 j ∧ Below w.heap.size w wr ∧ Done 1 EW (fun i => l[i]?) wr w.heap.size j ms ∧ ms j ≤ wr.heap.size ∧ ∃ row' : Array Value, row'.size = l.length * 1 ∧ wr.heap[w.heap.size]? = some (.cells row' 39 (0, 0))) (fun x wr => l.length - (intOf x).toNat)
    case atStart => exact ⟨0, fun _ => w.heap.size + 1, Nat.zero_le _, rfl, bel1 _ _, Done.zero _ _, by simp, row, HR.out, heap_new' _ _⟩
    case round =>
      obtain ⟨j, ms, hj, rfl, hb, hdn, hms, row', hrow', hrb⟩ := hrel
      have HW := Lib.hid hb; have HD := Lib.hid hdn; have HMS := Lib.hid hms; have HRS := Lib.hid hrow'; have HRB := Lib.hid hrb
      clear hb hdn hms hrow' hrb hmk
      by_cases hlt : j < l.length
      · obtain ⟨b1, o1, hae, a1, c1, e1, hl1⟩ := (sl_below (P := PW) (fun h => h.below HW.out) HL.out).get (List.getElem?_eq_getElem hlt)
        cases hae
        rw [Nat.mul_one] at e1
        have hxs := HCD.out _ (List.getElem_mem hlt)
        have HGET := Lib.hid (show l[j]? = some l[j] from List.getElem?_eq_getElem hlt)
        generalize l[j] = x at *
        have HX := Lib.hid hxs; have HL1 := Lib.hid hl1
        clear hxs hl1
        go_wp2_with fail
        refine (cloneWord_any x a1 c1 wr HX.out HL1.out).mono ?_
        rintro e w2 ⟨a2, ca2, rfl, hb2, how⟩
        have hgv := gives_word how
        clear how
        have hBl : w.heap.size < wr.heap.size := (Array.getElem?_eq_some_iff.1 HRB.out).1
        have hRw : w2.heap[w.heap.size]? = some (.cells row' 39 (0, 0)) := (hb2.block _ (Nat.lt_of_lt_of_le hBl (Below.refl wr.heap.size wr).size)).trans (((Below.refl wr.heap.size wr).block _ hBl).trans HRB.out)
        have rowk : ∀ i, i < 1 → ∃ x, w2.cell? ⟨w.heap.size, j * 1 + i, none⟩ = some x := fun i hi => ⟨row'[j * 1 + i]'(by rw [HRS.out]; omega), (Lib.cell_of_heap hRw _).trans (by simp)⟩
        have rf : ∀ i, w2.frozen? ⟨w.heap.size, i, none⟩ = false := fun i => frozen_of_row _ _ _ _ _ hRw
        obtain ⟨z0, e0⟩ := rowk 0 (by omega)
        have f0 := rf (j)
        rw [Nat.mul_one, Nat.add_zero] at e0
        have hrd := round stable_EW HD.out HMS.out HW.out HRB.out HRS.out hlt (Below.refl wr.heap.size wr) hb2 (vs := [.slice a2 x.len ca2]) rfl HGET.out hgv
        have HRD := Lib.hid hrd
        clear hb2 hgv hRw rowk rf hrd
        go_wp2_with fail
        obtain ⟨W, hW, hWb, hWr, ms', hm', hWd⟩ := HRD.out
        have hW' : (w2.setCell ⟨w.heap.size, j, none⟩ (.slice a2 x.len ca2)) = W := by rw [← hW]; rw [Nat.mul_one]; rfl
        go_roundw
        case rel => exact ⟨j + 1, ms', by omega, by go_num, by rw [hW']; exact hWb, by rw [hW']; exact hWd, by rw [hW']; exact hm', by rw [hW']; exact hWr⟩
        case measure => simp [intOf]; omega
      · obtain rfl : j = l.length := by omega
        go_wp2_with fail
        go_ret
        have hs := HW.out.size
        have hBl := (Array.getElem?_eq_some_iff.1 HRB.out).1
        exact ⟨some ⟨w.heap.size, 0, none⟩, l.length, rfl, HW.out, Nat.le_refl _, by unfold R; omega, hs, .inr ⟨w.heap.size, ms, rfl, Nat.le_refl _, hBl, HMS.out, ⟨row', _, HRB.out⟩, HD.out⟩⟩

set_option maxHeartbeats 1600000 in
set_option maxRecDepth 100000 in
theorem copied_bools (l : List Bool) (a : Option Addr) (cap : Nat) (w : World) (hl : Sl 1 (PB w) a cap l) (hln : l.length ≤ 1000000) :
    Calls Try.prog 17 #[.slice a l.length cap, .func (.func 18) #[] #[]] w (fun e w' => ∃ a' cap', e = .returned (.slice a' l.length cap') ∧ Below w.heap.size w w' ∧ OwnR 1 EB (fun i => l[i]?) w' w.heap.size w'.heap.size a' cap' l.length) := by
  have hle := hl.le
  cases a with
  | none =>
    have hnz : l.length = 0 := by rcases hl.2.2 with h | ⟨b, o, h, _⟩; (rw [h]; rfl); cases h
    have hnil := fun w => Lib.run_eql_slice_nil (P := Try.prog) w 25 4 none 0 cap 0 0 Try.underlying25
    have HZ := Lib.hid hnz
    rw [hnz]
    clear hl hnz hle hln
    go_enter Try.func17, Try.ntmps17
    go_wp2_with fail
    go_ret
    exact ⟨none, 0, rfl, Below.refl _ _, Nat.le_refl _, Nat.zero_le _, Nat.le_refl _, .inl rfl⟩
  | some ad =>
    have hnil := fun w => Lib.run_eql_slice_nil (P := Try.prog) w 25 4 (some ad) l.length cap 0 0 Try.underlying25
    simp only [Option.isNone_some] at hnil
    obtain ⟨row, hrow, hmk⟩ := make_bools l.length hln
    have HL := Lib.hid hl; have HR := Lib.hid hrow; have HLN := Lib.hid hln
    clear hl hrow
    go_enter Try.func17, Try.ntmps17
    go_wp2_with fail
    go_loopw [15] (fun x wr => ∃ (j : Nat) (ms : Nat → Nat), j ≤ l.length ∧ x = .int .i64 j ∧ Below w.heap.size w wr ∧ Done 1 EB (fun i => l[i]?) wr w.heap.size j ms ∧ ms j ≤ wr.heap.size ∧ ∃ row' : Array Value, row'.size = l.length * 1 ∧ wr.heap[w.heap.size]? = some (.cells row' 4 (0, 0))) (fun x wr => l.length - (intOf x).toNat)
    case atStart => exact ⟨0, fun _ => w.heap.size + 1, Nat.zero_le _, rfl, bel1 _ _, Done.zero _ _, by simp, row, HR.out, heap_new' _ _⟩
    case round =>
      obtain ⟨j, ms, hj, rfl, hb, hdn, hms, row', hrow', hrb⟩ := hrel
      have HW := Lib.hid hb; have HD := Lib.hid hdn; have HMS := Lib.hid hms; have HRS := Lib.hid hrow'; have HRB := Lib.hid hrb
      clear hb hdn hms hrow' hrb hmk
      by_cases hlt : j < l.length
      · obtain ⟨b1, o1, hae, e1⟩ := (sl_below (P := PB) (fun h => h.below HW.out) HL.out).get (List.getElem?_eq_getElem hlt)
        cases hae
        unfold PB at e1
        rw [Nat.mul_one] at e1
        have HGET := Lib.hid (show l[j]? = some l[j] from List.getElem?_eq_getElem hlt)
        generalize l[j] = x at *
        go_wp2_with fail
        refine (cloneBool_any x wr).mono ?_
        rintro e w2 ⟨rfl, hw2⟩
        have hb2 : Below wr.heap.size wr w2 := by rw [← hw2]; exact Below.refl _ _
        have hgv : Gives EB wr w2 [.bool x] x := fun _ _ _ hc _ => ⟨by rw [← hw2]; exact Nat.le_refl _, hc 0 _ rfl⟩
        clear hw2
        have hBl : w.heap.size < wr.heap.size := (Array.getElem?_eq_some_iff.1 HRB.out).1
        have hRw : w2.heap[w.heap.size]? = some (.cells row' 4 (0, 0)) := (hb2.block _ (Nat.lt_of_lt_of_le hBl (Below.refl wr.heap.size wr).size)).trans (((Below.refl wr.heap.size wr).block _ hBl).trans HRB.out)
        have rowk : ∀ i, i < 1 → ∃ x, w2.cell? ⟨w.heap.size, j * 1 + i, none⟩ = some x := fun i hi => ⟨row'[j * 1 + i]'(by rw [HRS.out]; omega), (Lib.cell_of_heap hRw _).trans (by simp)⟩
        have rf : ∀ i, w2.frozen? ⟨w.heap.size, i, none⟩ = false := fun i => frozen_of_row _ _ _ _ _ hRw
        obtain ⟨z0, e0⟩ := rowk 0 (by omega)
        have f0 := rf (j)
        rw [Nat.mul_one, Nat.add_zero] at e0
        have hrd := round stable_EB HD.out HMS.out HW.out HRB.out HRS.out hlt (Below.refl wr.heap.size wr) hb2 (vs := [.bool x]) rfl HGET.out hgv
        have HRD := Lib.hid hrd
        clear hb2 hgv hRw rowk rf hrd
        go_wp2_with fail
        obtain ⟨W, hW, hWb, hWr, ms', hm', hWd⟩ := HRD.out
        have hW' : (w2.setCell ⟨w.heap.size, j, none⟩ (.bool x)) = W := by rw [← hW]; rw [Nat.mul_one]; rfl
        go_roundw
        case rel => exact ⟨j + 1, ms', by omega, by go_num, by rw [hW']; exact hWb, by rw [hW']; exact hWd, by rw [hW']; exact hm', by rw [hW']; exact hWr⟩
        case measure => simp [intOf]; omega
      · obtain rfl : j = l.length := by omega
        go_wp2_with fail
        go_ret
        have hs := HW.out.size
        have hBl := (Array.getElem?_eq_some_iff.1 HRB.out).1
        exact ⟨some ⟨w.heap.size, 0, none⟩, l.length, rfl, HW.out, Nat.le_refl _, by unfold R; omega, hs, .inr ⟨w.heap.size, ms, rfl, Nat.le_refl _, hBl, HMS.out, ⟨row', _, HRB.out⟩, HD.out⟩⟩
end Ow
end Go.Proofs.Ytmpongcambbihaa
