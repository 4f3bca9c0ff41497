/- The reference's How. -/
import Derived.Test.YtlebglnlkkoakaaKrB
namespace Go.Proofs.Ytlebglnlkkoakaa
open Go.RowKit Go.Maps
namespace Kn
theorem put7 {w : World} {g : Nat} {T : TypeId} {a0 a1 a2 a3 a4 a5 a6 : Value} (h : w.heap[g]? = some (.cells #[a0, a1, a2, a3, a4, a5, a6] T (0, 0))) (b0 b1 b2 b3 b4 b5 b6 : Value) :
    (((((((w.setCell ⟨g, 0, none⟩ b0).setCell ⟨g, 1, none⟩ b1).setCell ⟨g, 2, none⟩ b2).setCell ⟨g, 3, none⟩ b3).setCell ⟨g, 4, none⟩ b4).setCell ⟨g, 5, none⟩ b5).setCell ⟨g, 6, none⟩ b6).heap[g]? = some (.cells #[b0, b1, b2, b3, b4, b5, b6] T (0, 0)) := by
  have e : (w.setCell ⟨g, 0, none⟩ b0).heap[g]? = some (.cells #[b0, a1, a2, a3, a4, a5, a6] T (0, 0)) := heap_setCell_same _ _ 0 _ _ b0 h
  generalize w.setCell ⟨g, 0, none⟩ b0 = w at e ⊢
  have h := e
  clear e
  have e : (w.setCell ⟨g, 1, none⟩ b1).heap[g]? = some (.cells #[b0, b1, a2, a3, a4, a5, a6] T (0, 0)) := heap_setCell_same _ _ 1 _ _ b1 h
  generalize w.setCell ⟨g, 1, none⟩ b1 = w at e ⊢
  have h := e
  clear e
  have e : (w.setCell ⟨g, 2, none⟩ b2).heap[g]? = some (.cells #[b0, b1, b2, a3, a4, a5, a6] T (0, 0)) := heap_setCell_same _ _ 2 _ _ b2 h
  generalize w.setCell ⟨g, 2, none⟩ b2 = w at e ⊢
  have h := e
  clear e
  have e : (w.setCell ⟨g, 3, none⟩ b3).heap[g]? = some (.cells #[b0, b1, b2, b3, a4, a5, a6] T (0, 0)) := heap_setCell_same _ _ 3 _ _ b3 h
  generalize w.setCell ⟨g, 3, none⟩ b3 = w at e ⊢
  have h := e
  clear e
  have e : (w.setCell ⟨g, 4, none⟩ b4).heap[g]? = some (.cells #[b0, b1, b2, b3, b4, a5, a6] T (0, 0)) := heap_setCell_same _ _ 4 _ _ b4 h
  generalize w.setCell ⟨g, 4, none⟩ b4 = w at e ⊢
  have h := e
  clear e
  have e : (w.setCell ⟨g, 5, none⟩ b5).heap[g]? = some (.cells #[b0, b1, b2, b3, b4, b5, a6] T (0, 0)) := heap_setCell_same _ _ 5 _ _ b5 h
  generalize w.setCell ⟨g, 5, none⟩ b5 = w at e ⊢
  have h := e
  clear e
  have e : (w.setCell ⟨g, 6, none⟩ b6).heap[g]? = some (.cells #[b0, b1, b2, b3, b4, b5, b6] T (0, 0)) := heap_setCell_same _ _ 6 _ _ b6 h
  exact e
theorem below_set {w w' : World} {B : Nat} (h : Below B w w') {a : Addr} (ha : B ≤ a.block) (u : Value) : Below B w (w'.setCell a u) :=
  ⟨h.os, h.tape, h.output, by simpa using h.size, fun k hk => (Below.heap_setCell _ _ _ _ (by omega)).trans (h.block k hk)⟩
theorem below_set7 {w w' : World} {B g : Nat} (h : Below B w w') (hg : B ≤ g) (b0 b1 b2 b3 b4 b5 b6 : Value) : Below B w (((((((w'.setCell ⟨g, 0, none⟩ b0).setCell ⟨g, 1, none⟩ b1).setCell ⟨g, 2, none⟩ b2).setCell ⟨g, 3, none⟩ b3).setCell ⟨g, 4, none⟩ b4).setCell ⟨g, 5, none⟩ b5).setCell ⟨g, 6, none⟩ b6) :=
  below_set (below_set (below_set (below_set (below_set (below_set (below_set h hg b0) hg b1) hg b2) hg b3) hg b4) hg b5) hg b6
set_option maxRecDepth 4000 in
set_option maxHeartbeats 1600000 in
theorem rhow_any {w : World} {t : T} {lv ev : Value} (hL : LAt w lv t.l) (hn : t.l.length ≤ 64) (S : Sets t) (pid s : Int) :
    Calls Try.prog 25 #[tv t lv ev, .int .i64 pid, .int .i64 s] w fun e w' => e = .returned (.int .i64 (how t pid s)) ∧ Below w.heap.size w w' := by
  have hb0 := below_alloc w (.cells #[lv, .int .i64 t.last, ev] 31)
  have hrow := heap_alloc_new w (.cells #[lv, .int .i64 t.last, ev] 31)
  have hlt0 := (Array.getElem?_eq_some_iff.1 hrow).1
  have HLV := Lib.hid (rlive_any (ev := ev) (hL.stay hb0) hn pid)
  cases hl : live t pid
  · rw [hl] at HLV
    rw [how_dead s hl]
    have HB0 := Lib.hid hb0
    clear hL hb0 hrow
    unfold tv at HLV ⊢
    go_enter Try.func25, Try.ntmps25
    go_wp2_with fail
    refine HLV.out.mono ?_
    rintro e w1 ⟨rfl, hb1⟩
    have HB1 := Lib.hid (HB0.out.trans (hb1.mono HB0.out.size))
    clear hb1
    go_wp2_with fail
    go_ret
    exact ⟨rfl, HB1.out⟩
  · obtain ⟨p, hf, hpl⟩ := live_iff hl
    obtain ⟨k, hat, hk, hlt⟩ := find_atN hf
    rw [hl] at HLV
    rw [how_live s hf hpl]
    have HB0 := Lib.hid hb0; have HL := Lib.hid hL; have HK := Lib.hid hk; have HR := Lib.hid hrow; have HS := Lib.hid (S.at hf)
    have HA := fun w' (hb : Below w.heap.size w w') => rat_any (ev := ev) (HL.out.stay hb) hn pid
    rw [hat] at HA
    have HA := Lib.hid HA
    clear hL hf hat hb0 hk hrow hl hpl S
    obtain ⟨b, cap, e2, hbl, rd⟩ := HL.out.reads HK.out
    subst e2
    have RD := Lib.hid rd
    clear rd
    unfold tv at HA HLV ⊢
    go_enter Try.func25, Try.ntmps25
    go_wp2_with fail
    refine HLV.out.mono ?_
    rintro e w1 ⟨rfl, hb1⟩
    have hb1' := HB0.out.trans (hb1.mono HB0.out.size)
    have hrow1 := (hb1.block w.heap.size (Array.getElem?_eq_some_iff.1 HR.out).1).trans HR.out
    have HB1 := Lib.hid hb1'; have HR1 := Lib.hid hrow1
    clear hb1 hb1' hrow1
    go_wp2_with fail
    refine RN.begins (fun wq => Below w.heap.size w wq ∧ wq.heap[w.heap.size]? = some (.cells #[.slice (some ⟨b, 0, none⟩) t.l.length cap, .int .i64 t.last, ev] 31 (0, 0))) [8] (by kernel_rfl) ?_
    have hS : (fun wq => Below w.heap.size w wq ∧ wq.heap[w.heap.size]? = some (.cells #[.slice (some ⟨b, 0, none⟩) t.l.length cap, .int .i64 t.last, ev] 31 (0, 0))) w1.drew := ⟨⟨HB1.out.os, HB1.out.tape, HB1.out.output, HB1.out.size, HB1.out.block⟩, HR1.out⟩
    clear HR1 HB1 HLV HB0
    refine RN.take (i := 0) (v := ?_) rfl (by decide) (by kernel_rfl) (by kernel_rfl) (by kernel_rfl) (by kernel_rfl) (by kernel_rfl) (by first | exact fun _ _ _ h => h | exact fun _ _ _ h => (by cases h.1) | exact fun _ _ _ h => door_put (by decide) h) (.inl ⟨by rfl, ?_⟩) hS ?_
    rotate_left 1
    · (intro wq hq; have s0 : wq.cell? ⟨w.heap.size, 0, none⟩ = some (.slice (some ⟨b, 0, none⟩) t.l.length cap) := Lib.cell_of_heap hq.2 0; have s1 : wq.cell? ⟨w.heap.size, 1, none⟩ = some (.int .i64 t.last) := Lib.cell_of_heap hq.2 1; have s2 : wq.cell? ⟨w.heap.size, 2, none⟩ = some ev := Lib.cell_of_heap hq.2 2; go_simp; try with_reducible rfl)
    refine RN.take (i := 1) (v := ?_) rfl (by decide) (by kernel_rfl) (by kernel_rfl) (by kernel_rfl) (by kernel_rfl) (by kernel_rfl) (by first | exact fun _ _ _ h => h | exact fun _ _ _ h => (by cases h.1) | exact fun _ _ _ h => door_put (by decide) h) (.inl ⟨by rfl, ?_⟩) hS ?_
    rotate_left 1
    · (intro wq hq; have s0 : wq.cell? ⟨w.heap.size, 0, none⟩ = some (.slice (some ⟨b, 0, none⟩) t.l.length cap) := Lib.cell_of_heap hq.2 0; have s1 : wq.cell? ⟨w.heap.size, 1, none⟩ = some (.int .i64 t.last) := Lib.cell_of_heap hq.2 1; have s2 : wq.cell? ⟨w.heap.size, 2, none⟩ = some ev := Lib.cell_of_heap hq.2 2; go_simp; try with_reducible rfl)
    refine RN.take (i := 2) (v := ?_) rfl (by decide) (by kernel_rfl) (by kernel_rfl) (by kernel_rfl) (by kernel_rfl) (by kernel_rfl) (by first | exact fun _ _ _ h => h | exact fun _ _ _ h => (by cases h.1) | exact fun _ _ _ h => door_put (by decide) h) (.inl ⟨by rfl, ?_⟩) hS ?_
    rotate_left 1
    · (intro wq hq; have s0 : wq.cell? ⟨w.heap.size, 0, none⟩ = some (.slice (some ⟨b, 0, none⟩) t.l.length cap) := Lib.cell_of_heap hq.2 0; have s1 : wq.cell? ⟨w.heap.size, 1, none⟩ = some (.int .i64 t.last) := Lib.cell_of_heap hq.2 1; have s2 : wq.cell? ⟨w.heap.size, 2, none⟩ = some ev := Lib.cell_of_heap hq.2 2; go_simp; try with_reducible rfl)
    refine RN.take (i := 3) (v := ?_) rfl (by decide) (by kernel_rfl) (by kernel_rfl) (by kernel_rfl) (by kernel_rfl) (by kernel_rfl) (by first | exact fun _ _ _ h => h | exact fun _ _ _ h => (by cases h.1) | exact fun _ _ _ h => door_put (by decide) h) (.inl ⟨by rfl, ?_⟩) hS ?_
    rotate_left 1
    · (intro wq hq; have s0 : wq.cell? ⟨w.heap.size, 0, none⟩ = some (.slice (some ⟨b, 0, none⟩) t.l.length cap) := Lib.cell_of_heap hq.2 0; have s1 : wq.cell? ⟨w.heap.size, 1, none⟩ = some (.int .i64 t.last) := Lib.cell_of_heap hq.2 1; have s2 : wq.cell? ⟨w.heap.size, 2, none⟩ = some ev := Lib.cell_of_heap hq.2 2; go_simp; try with_reducible rfl)
    generalize w1.drew = w1 at hS ⊢
    refine RN.all (rs := [4, 7]) (by kernel_rfl) (by simp) ?_
    refine RN.All.cons rfl (fun K hK => ?_) (RN.All.cons rfl (fun K hK => ?_) RN.All.nil)
    · go_simp
      refine (HA.out _ hS.1).mono ?_
      rintro e w2 ⟨rfl, hb2⟩
      have hS2 : (fun wq => Below w.heap.size w wq ∧ wq.heap[w.heap.size]? = some (.cells #[.slice (some ⟨b, 0, none⟩) t.l.length cap, .int .i64 t.last, ev] 31 (0, 0))) w2 := ⟨hS.1.trans (hb2.mono hS.1.size), (hb2.block _ (Array.getElem?_eq_some_iff.1 hS.2).1).trans hS.2⟩
      refine hK _ _ (fun _ => hS2) ?_
      clear hK K hS hb2
      have hS := hS2
      refine RN.take (i := 5) (v := ?_) rfl (by decide) (by kernel_rfl) (by kernel_rfl) (by kernel_rfl) (by kernel_rfl) (by kernel_rfl) (by first | exact fun _ _ _ h => h | exact fun _ _ _ h => (by cases h.1) | exact fun _ _ _ h => door_put (by decide) h) (.inl ⟨by rfl, ?_⟩) hS ?_
      rotate_left 1
      · (intro wq hq; skip; go_simp; try with_reducible rfl)
      refine RN.take (i := 6) (v := ?_) rfl (by decide) (by kernel_rfl) (by kernel_rfl) (by kernel_rfl) (by kernel_rfl) (by kernel_rfl) (by first | exact fun _ _ _ h => h | exact fun _ _ _ h => (by cases h.1) | exact fun _ _ _ h => door_put (by decide) h) (.inl ⟨by rfl, ?_⟩) hS ?_
      rotate_left 1
      · (intro wq hq; have r0 : wq.cell? ⟨b, k * 7, none⟩ = some (.int .i64 p.pid) := RD.out _ hq.1 0 _ rfl; have r1 : wq.cell? ⟨b, k * 7 + 1, none⟩ = some (.int .i64 p.par) := RD.out _ hq.1 1 _ rfl; have r2 : wq.cell? ⟨b, k * 7 + 2, none⟩ = some (.int .i64 p.st) := RD.out _ hq.1 2 _ rfl; have r3 : wq.cell? ⟨b, k * 7 + 3, none⟩ = some (.bool p.live) := RD.out _ hq.1 3 _ rfl; have r4 : wq.cell? ⟨b, k * 7 + 4, none⟩ = some (.int .u32 p.ig) := RD.out _ hq.1 4 _ rfl; have r5 : wq.cell? ⟨b, k * 7 + 5, none⟩ = some (.int .u32 p.ca) := RD.out _ hq.1 5 _ rfl; have r6 : wq.cell? ⟨b, k * 7 + 6, none⟩ = some (.int .u32 p.pe) := RD.out _ hq.1 6 _ rfl; go_simp; try with_reducible rfl)
      refine RN.all (rs := [7]) (by kernel_rfl) (by simp) ?_
      refine RN.All.cons rfl (fun K hK => ?_) RN.All.nil
      go_simp
      have hS3 : (fun wq => Below w.heap.size w wq ∧ wq.heap[w.heap.size]? = some (.cells #[.slice (some ⟨b, 0, none⟩) t.l.length cap, .int .i64 t.last, ev] 31 (0, 0))) (w2.alloc (.cells #[.int .i64 0, .int .i64 0, .int .i64 0, .bool false, .int .u32 0, .int .u32 0, .int .u32 0] 73)) := ⟨hS.1.trans ((below_alloc w2 _).mono hS.1.size), ((below_alloc w2 _).block _ (Array.getElem?_eq_some_iff.1 hS.2).1).trans hS.2⟩
      refine hK _ _ (fun _ => hS3) ?_
      clear hK K
      have hn3 := heap_alloc_new w2 (.cells #[.int .i64 0, .int .i64 0, .int .i64 0, .bool false, .int .u32 0, .int .u32 0, .int .u32 0] 73)
      have hge : w.heap.size ≤ w2.heap.size := hS.1.size
      generalize hw3 : w2.alloc (.cells #[.int .i64 0, .int .i64 0, .int .i64 0, .bool false, .int .u32 0, .int .u32 0, .int .u32 0] 73) = w3 at hS3 hn3 ⊢
      generalize w2.heap.size = g at hn3 hge ⊢
      clear hw3 hS hS2
      have z0 : w3.cell? ⟨g, 0, none⟩ = some (.int .i64 0) := Lib.cell_of_heap hn3 0
      have f0 : w3.frozen? ⟨g, 0, none⟩ = false := frozen_of_row _ _ _ _ _ hn3
      have z1 : w3.cell? ⟨g, 1, none⟩ = some (.int .i64 0) := Lib.cell_of_heap hn3 1
      have f1 : w3.frozen? ⟨g, 1, none⟩ = false := frozen_of_row _ _ _ _ _ hn3
      have z2 : w3.cell? ⟨g, 2, none⟩ = some (.int .i64 0) := Lib.cell_of_heap hn3 2
      have f2 : w3.frozen? ⟨g, 2, none⟩ = false := frozen_of_row _ _ _ _ _ hn3
      have z3 : w3.cell? ⟨g, 3, none⟩ = some (.bool false) := Lib.cell_of_heap hn3 3
      have f3 : w3.frozen? ⟨g, 3, none⟩ = false := frozen_of_row _ _ _ _ _ hn3
      have z4 : w3.cell? ⟨g, 4, none⟩ = some (.int .u32 0) := Lib.cell_of_heap hn3 4
      have f4 : w3.frozen? ⟨g, 4, none⟩ = false := frozen_of_row _ _ _ _ _ hn3
      have z5 : w3.cell? ⟨g, 5, none⟩ = some (.int .u32 0) := Lib.cell_of_heap hn3 5
      have f5 : w3.frozen? ⟨g, 5, none⟩ = false := frozen_of_row _ _ _ _ _ hn3
      have z6 : w3.cell? ⟨g, 6, none⟩ = some (.int .u32 0) := Lib.cell_of_heap hn3 6
      have f6 : w3.frozen? ⟨g, 6, none⟩ = false := frozen_of_row _ _ _ _ _ hn3
      refine RN.all (rs := [8]) (by kernel_rfl) (by simp) ?_
      refine RN.All.cons rfl (fun K hK => ?_) RN.All.nil
      have HP7 := Lib.hid (put7 hn3 (.int .i64 p.pid) (.int .i64 p.par) (.int .i64 p.st) (.bool p.live) (.int .u32 p.ig) (.int .u32 p.ca) (.int .u32 p.pe))
      have HBZ := Lib.hid (below_set7 hS3.1 hge (.int .i64 p.pid) (.int .i64 p.par) (.int .i64 p.st) (.bool p.live) (.int .u32 p.ig) (.int .u32 p.ca) (.int .u32 p.pe))
      clear hn3 hS3
      go_simp
      refine hK _ _ (fun e => by cases e) ?_
      clear hK K
      refine RN.done (by kernel_rfl) ?_ _
      generalize (((((((w3.setCell ⟨g, 0, none⟩ (.int .i64 p.pid)).setCell ⟨g, 1, none⟩ (.int .i64 p.par)).setCell ⟨g, 2, none⟩ (.int .i64 p.st)).setCell ⟨g, 3, none⟩ (.bool p.live)).setCell ⟨g, 4, none⟩ (.int .u32 p.ig)).setCell ⟨g, 5, none⟩ (.int .u32 p.ca)).setCell ⟨g, 6, none⟩ (.int .u32 p.pe)) = wz at HP7 HBZ ⊢
      clear z0 z1 z2 z3 z4 z5 z6 f0 f1 f2 f3 f4 f5 f6
      have c4 : wz.cell? ⟨g, 4, none⟩ = some (.int .u32 p.ig) := Lib.cell_of_heap HP7.out 4
      have c5 : wz.cell? ⟨g, 5, none⟩ = some (.int .u32 p.ca) := Lib.cell_of_heap HP7.out 5
      cases h1 : Sig.hasB p.ig s
      · cases h2 : Sig.hasB p.ca s
        · have hw : howP p s = 0 := by simp [howP, has, h1, h2]
          have HW := Lib.hid hw; have H1 := Lib.hid h1; have H2 := Lib.hid h2
          clear hw h1 h2
          go_wp2_with fail
          refine (Sig.rhas_any p.ig s HS.out.1 _).mono ?_
          rw [H1.out]; rintro e w' ⟨rfl, rfl⟩
          go_wp2_with fail
          refine (Sig.rhas_any p.ca s HS.out.2.1 _).mono ?_
          rw [H2.out]; rintro e w' ⟨rfl, rfl⟩
          go_wp2_with fail
          go_ret
          exact ⟨congrArg (fun z => Ending.returned (.int .i64 z)) HW.out.symm, HBZ.out⟩
        · have hw : howP p s = 2 := by simp [howP, has, h1, h2]
          have HW := Lib.hid hw; have H1 := Lib.hid h1; have H2 := Lib.hid h2
          clear hw h1 h2
          go_wp2_with fail
          refine (Sig.rhas_any p.ig s HS.out.1 _).mono ?_
          rw [H1.out]; rintro e w' ⟨rfl, rfl⟩
          go_wp2_with fail
          refine (Sig.rhas_any p.ca s HS.out.2.1 _).mono ?_
          rw [H2.out]; rintro e w' ⟨rfl, rfl⟩
          go_wp2_with fail
          go_ret
          exact ⟨congrArg (fun z => Ending.returned (.int .i64 z)) HW.out.symm, HBZ.out⟩
      · have hw : howP p s = 1 := by simp [howP, has, h1]
        have HW := Lib.hid hw; have H1 := Lib.hid h1
        clear hw h1
        go_wp2_with fail
        refine (Sig.rhas_any p.ig s HS.out.1 _).mono ?_
        rw [H1.out]; rintro e w' ⟨rfl, rfl⟩
        go_wp2_with fail
        go_ret
        exact ⟨congrArg (fun z => Ending.returned (.int .i64 z)) HW.out.symm, HBZ.out⟩
    · go_simp
      have hS3 : (fun wq => Below w.heap.size w wq ∧ wq.heap[w.heap.size]? = some (.cells #[.slice (some ⟨b, 0, none⟩) t.l.length cap, .int .i64 t.last, ev] 31 (0, 0))) (w1.alloc (.cells #[.int .i64 0, .int .i64 0, .int .i64 0, .bool false, .int .u32 0, .int .u32 0, .int .u32 0] 73)) := ⟨hS.1.trans ((below_alloc w1 _).mono hS.1.size), ((below_alloc w1 _).block _ (Array.getElem?_eq_some_iff.1 hS.2).1).trans hS.2⟩
      refine hK _ _ (fun _ => hS3) ?_
      clear hK K
      have hn3 := heap_alloc_new w1 (.cells #[.int .i64 0, .int .i64 0, .int .i64 0, .bool false, .int .u32 0, .int .u32 0, .int .u32 0] 73)
      have hge : w.heap.size ≤ w1.heap.size := hS.1.size
      generalize hw3 : w1.alloc (.cells #[.int .i64 0, .int .i64 0, .int .i64 0, .bool false, .int .u32 0, .int .u32 0, .int .u32 0] 73) = w3 at hS3 hn3 ⊢
      generalize w1.heap.size = g at hn3 hge ⊢
      clear hw3 hS
      refine RN.all (rs := [4]) (by kernel_rfl) (by simp) ?_
      refine RN.All.cons rfl (fun K hK => ?_) RN.All.nil
      go_simp
      refine (HA.out _ hS3.1).mono ?_
      rintro e w2 ⟨rfl, hb2⟩
      have hS2 : (fun wq => Below w.heap.size w wq ∧ wq.heap[w.heap.size]? = some (.cells #[.slice (some ⟨b, 0, none⟩) t.l.length cap, .int .i64 t.last, ev] 31 (0, 0))) w2 := ⟨hS3.1.trans (hb2.mono hS3.1.size), (hb2.block _ (Array.getElem?_eq_some_iff.1 hS3.2).1).trans hS3.2⟩
      have hn2 := (hb2.block _ (Array.getElem?_eq_some_iff.1 hn3).1).trans hn3
      refine hK _ _ (fun _ => hS2) ?_
      clear hK K hS3 hb2 hn3
      have hS := hS2
      refine RN.take (i := 5) (v := ?_) rfl (by decide) (by kernel_rfl) (by kernel_rfl) (by kernel_rfl) (by kernel_rfl) (by kernel_rfl) (by first | exact fun _ _ _ h => h | exact fun _ _ _ h => (by cases h.1) | exact fun _ _ _ h => door_put (by decide) h) (.inl ⟨by rfl, ?_⟩) hS ?_
      rotate_left 1
      · (intro wq hq; skip; go_simp; try with_reducible rfl)
      refine RN.take (i := 6) (v := ?_) rfl (by decide) (by kernel_rfl) (by kernel_rfl) (by kernel_rfl) (by kernel_rfl) (by kernel_rfl) (by first | exact fun _ _ _ h => h | exact fun _ _ _ h => (by cases h.1) | exact fun _ _ _ h => door_put (by decide) h) (.inl ⟨by rfl, ?_⟩) hS ?_
      rotate_left 1
      · (intro wq hq; have r0 : wq.cell? ⟨b, k * 7, none⟩ = some (.int .i64 p.pid) := RD.out _ hq.1 0 _ rfl; have r1 : wq.cell? ⟨b, k * 7 + 1, none⟩ = some (.int .i64 p.par) := RD.out _ hq.1 1 _ rfl; have r2 : wq.cell? ⟨b, k * 7 + 2, none⟩ = some (.int .i64 p.st) := RD.out _ hq.1 2 _ rfl; have r3 : wq.cell? ⟨b, k * 7 + 3, none⟩ = some (.bool p.live) := RD.out _ hq.1 3 _ rfl; have r4 : wq.cell? ⟨b, k * 7 + 4, none⟩ = some (.int .u32 p.ig) := RD.out _ hq.1 4 _ rfl; have r5 : wq.cell? ⟨b, k * 7 + 5, none⟩ = some (.int .u32 p.ca) := RD.out _ hq.1 5 _ rfl; have r6 : wq.cell? ⟨b, k * 7 + 6, none⟩ = some (.int .u32 p.pe) := RD.out _ hq.1 6 _ rfl; go_simp; try with_reducible rfl)
      clear hS
      have z0 : w2.cell? ⟨g, 0, none⟩ = some (.int .i64 0) := Lib.cell_of_heap hn2 0
      have f0 : w2.frozen? ⟨g, 0, none⟩ = false := frozen_of_row _ _ _ _ _ hn2
      have z1 : w2.cell? ⟨g, 1, none⟩ = some (.int .i64 0) := Lib.cell_of_heap hn2 1
      have f1 : w2.frozen? ⟨g, 1, none⟩ = false := frozen_of_row _ _ _ _ _ hn2
      have z2 : w2.cell? ⟨g, 2, none⟩ = some (.int .i64 0) := Lib.cell_of_heap hn2 2
      have f2 : w2.frozen? ⟨g, 2, none⟩ = false := frozen_of_row _ _ _ _ _ hn2
      have z3 : w2.cell? ⟨g, 3, none⟩ = some (.bool false) := Lib.cell_of_heap hn2 3
      have f3 : w2.frozen? ⟨g, 3, none⟩ = false := frozen_of_row _ _ _ _ _ hn2
      have z4 : w2.cell? ⟨g, 4, none⟩ = some (.int .u32 0) := Lib.cell_of_heap hn2 4
      have f4 : w2.frozen? ⟨g, 4, none⟩ = false := frozen_of_row _ _ _ _ _ hn2
      have z5 : w2.cell? ⟨g, 5, none⟩ = some (.int .u32 0) := Lib.cell_of_heap hn2 5
      have f5 : w2.frozen? ⟨g, 5, none⟩ = false := frozen_of_row _ _ _ _ _ hn2
      have z6 : w2.cell? ⟨g, 6, none⟩ = some (.int .u32 0) := Lib.cell_of_heap hn2 6
      have f6 : w2.frozen? ⟨g, 6, none⟩ = false := frozen_of_row _ _ _ _ _ hn2
      refine RN.all (rs := [8]) (by kernel_rfl) (by simp) ?_
      refine RN.All.cons rfl (fun K hK => ?_) RN.All.nil
      have HP7 := Lib.hid (put7 hn2 (.int .i64 p.pid) (.int .i64 p.par) (.int .i64 p.st) (.bool p.live) (.int .u32 p.ig) (.int .u32 p.ca) (.int .u32 p.pe))
      have HBZ := Lib.hid (below_set7 hS2.1 hge (.int .i64 p.pid) (.int .i64 p.par) (.int .i64 p.st) (.bool p.live) (.int .u32 p.ig) (.int .u32 p.ca) (.int .u32 p.pe))
      clear hn2 hS2
      go_simp
      refine hK _ _ (fun e => by cases e) ?_
      clear hK K
      refine RN.done (by kernel_rfl) ?_ _
      generalize (((((((w2.setCell ⟨g, 0, none⟩ (.int .i64 p.pid)).setCell ⟨g, 1, none⟩ (.int .i64 p.par)).setCell ⟨g, 2, none⟩ (.int .i64 p.st)).setCell ⟨g, 3, none⟩ (.bool p.live)).setCell ⟨g, 4, none⟩ (.int .u32 p.ig)).setCell ⟨g, 5, none⟩ (.int .u32 p.ca)).setCell ⟨g, 6, none⟩ (.int .u32 p.pe)) = wz at HP7 HBZ ⊢
      clear z0 z1 z2 z3 z4 z5 z6 f0 f1 f2 f3 f4 f5 f6
      have c4 : wz.cell? ⟨g, 4, none⟩ = some (.int .u32 p.ig) := Lib.cell_of_heap HP7.out 4
      have c5 : wz.cell? ⟨g, 5, none⟩ = some (.int .u32 p.ca) := Lib.cell_of_heap HP7.out 5
      cases h1 : Sig.hasB p.ig s
      · cases h2 : Sig.hasB p.ca s
        · have hw : howP p s = 0 := by simp [howP, has, h1, h2]
          have HW := Lib.hid hw; have H1 := Lib.hid h1; have H2 := Lib.hid h2
          clear hw h1 h2
          go_wp2_with fail
          refine (Sig.rhas_any p.ig s HS.out.1 _).mono ?_
          rw [H1.out]; rintro e w' ⟨rfl, rfl⟩
          go_wp2_with fail
          refine (Sig.rhas_any p.ca s HS.out.2.1 _).mono ?_
          rw [H2.out]; rintro e w' ⟨rfl, rfl⟩
          go_wp2_with fail
          go_ret
          exact ⟨congrArg (fun z => Ending.returned (.int .i64 z)) HW.out.symm, HBZ.out⟩
        · have hw : howP p s = 2 := by simp [howP, has, h1, h2]
          have HW := Lib.hid hw; have H1 := Lib.hid h1; have H2 := Lib.hid h2
          clear hw h1 h2
          go_wp2_with fail
          refine (Sig.rhas_any p.ig s HS.out.1 _).mono ?_
          rw [H1.out]; rintro e w' ⟨rfl, rfl⟩
          go_wp2_with fail
          refine (Sig.rhas_any p.ca s HS.out.2.1 _).mono ?_
          rw [H2.out]; rintro e w' ⟨rfl, rfl⟩
          go_wp2_with fail
          go_ret
          exact ⟨congrArg (fun z => Ending.returned (.int .i64 z)) HW.out.symm, HBZ.out⟩
      · have hw : howP p s = 1 := by simp [howP, has, h1]
        have HW := Lib.hid hw; have H1 := Lib.hid h1
        clear hw h1
        go_wp2_with fail
        refine (Sig.rhas_any p.ig s HS.out.1 _).mono ?_
        rw [H1.out]; rintro e w' ⟨rfl, rfl⟩
        go_wp2_with fail
        go_ret
        exact ⟨congrArg (fun z => Ending.returned (.int .i64 z)) HW.out.symm, HBZ.out⟩
end Kn
end Go.Proofs.Ytlebglnlkkoakaa
