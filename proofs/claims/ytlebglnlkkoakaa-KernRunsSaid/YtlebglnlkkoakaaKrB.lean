/- The reference's table: Live, Child, How, Pending. -/
import Derived.Test.YtlebglnlkkoakaaKrA
import Derived.Test.YtlebglnlkkoakaaRegN
namespace Go.Proofs.Ytlebglnlkkoakaa
open Go.RowKit Go.Maps
namespace Kn
/-- The cells of the process at a place. -/
theorem LAt.read {w w' : World} {v : Value} {l : List P} (h : LAt w v l) (hb : Below w.heap.size w w') {k : Nat} {p : P} (hk : l[k]? = some p) : ∃ b cap, v = .slice (some ⟨b, 0, none⟩) l.length cap ∧ ∀ i u, (qcells p)[i]? = some u → w'.cell? ⟨b, k * 7 + i, none⟩ = some u := by
  obtain ⟨a, cap, rfl, hc⟩ := h
  obtain ⟨b, rfl, hbl, hcell⟩ := hc k p hk
  exact ⟨b, cap, rfl, fun i u hu => (World.cell?_of_block (hb.block b hbl)).trans (hcell i u hu)⟩
theorem LAt.reads {w : World} {v : Value} {l : List P} (h : LAt w v l) {k : Nat} {p : P} (hk : l[k]? = some p) : ∃ b cap, v = .slice (some ⟨b, 0, none⟩) l.length cap ∧ b < w.heap.size ∧ ∀ w', Below w.heap.size w w' → ∀ i u, (qcells p)[i]? = some u → w'.cell? ⟨b, k * 7 + i, none⟩ = some u := by
  obtain ⟨a, cap, rfl, hc⟩ := h
  obtain ⟨b, rfl, hbl, hcell⟩ := hc k p hk
  exact ⟨b, cap, rfl, hbl, fun w' hb i u hu => (World.cell?_of_block (hb.block b hbl)).trans (hcell i u hu)⟩
theorem LAt.shape {w : World} {v : Value} {l : List P} (h : LAt w v l) : ∃ a cap, v = .slice a l.length cap := by
  obtain ⟨a, cap, e, _⟩ := h; exact ⟨a, cap, e⟩
set_option maxHeartbeats 800000 in
theorem rlive_any {w : World} {t : T} {lv ev : Value} (hL : LAt w lv t.l) (hn : t.l.length ≤ 64) (pid : Int) :
    Calls Try.prog 23 #[tv t lv ev, .int .i64 pid] w fun e w' => e = .returned (.bool (live t pid)) ∧ Below w.heap.size w w' := by
  have hb0 := below_alloc w (.cells #[lv, .int .i64 t.last, ev] 31)
  have hrow := heap_alloc_new w (.cells #[lv, .int .i64 t.last, ev] 31)
  have HA := Lib.hid (rat_any (ev := ev) (hL.stay hb0) hn pid)
  cases hf : find t pid with
  | none =>
    have hat : atN t.l pid = -1 := atN_find hf
    rw [hat] at HA
    rw [show live t pid = false by unfold live; rw [hf]; rfl]
    have HB0 := Lib.hid hb0
    clear hL hf hat hb0 hrow
    unfold tv at HA ⊢
    go_enter Try.func23, Try.ntmps23
    go_wp2_with fail
    refine HA.out.mono ?_
    rintro e w1 ⟨rfl, hb1⟩
    have HB1 := Lib.hid (HB0.out.trans (hb1.mono HB0.out.size))
    clear hb1
    go_wp2_with fail
    go_ret
    exact ⟨rfl, HB1.out⟩
  | some p =>
    obtain ⟨k, hat, hk, hlt⟩ := find_atN hf
    rw [hat] at HA
    rw [show live t pid = p.live by unfold live; rw [hf]; rfl]
    have HB0 := Lib.hid hb0; have HL := Lib.hid hL; have HK := Lib.hid hk; have HR := Lib.hid hrow
    clear hL hf hat hb0 hk hrow
    unfold tv at HA ⊢
    obtain ⟨a, cap, rfl⟩ := HL.out.shape
    go_enter Try.func23, Try.ntmps23
    go_wp2_with fail
    refine HA.out.mono ?_
    rintro e w1 ⟨rfl, hb1⟩
    have hb1' := HB0.out.trans (hb1.mono HB0.out.size)
    obtain ⟨b, cap', e2, rd⟩ := HL.out.read hb1' HK.out
    cases e2
    have hrow1 := (hb1.block w.heap.size (Array.getElem?_eq_some_iff.1 HR.out).1).trans HR.out
    have c0 : w1.cell? ⟨w.heap.size, 0, none⟩ = some (.slice (some ⟨b, 0, none⟩) t.l.length cap) := Lib.cell_of_heap hrow1 0
    have r0 : w1.cell? ⟨b, k * 7, none⟩ = some (.int .i64 p.pid) := rd 0 _ rfl
    have r1 : w1.cell? ⟨b, k * 7 + 1, none⟩ = some (.int .i64 p.par) := rd 1 _ rfl
    have r2 : w1.cell? ⟨b, k * 7 + 2, none⟩ = some (.int .i64 p.st) := rd 2 _ rfl
    have r3 : w1.cell? ⟨b, k * 7 + 3, none⟩ = some (.bool p.live) := rd 3 _ rfl
    have r4 : w1.cell? ⟨b, k * 7 + 4, none⟩ = some (.int .u32 p.ig) := rd 4 _ rfl
    have r5 : w1.cell? ⟨b, k * 7 + 5, none⟩ = some (.int .u32 p.ca) := rd 5 _ rfl
    have r6 : w1.cell? ⟨b, k * 7 + 6, none⟩ = some (.int .u32 p.pe) := rd 6 _ rfl
    have HB1 := Lib.hid hb1'
    clear hb1 hb1' rd hrow1
    go_wp2_with fail
    go_ret
    exact ⟨rfl, HB1.out⟩
set_option maxHeartbeats 800000 in
theorem rchild_any {w : World} {t : T} {lv ev : Value} (hL : LAt w lv t.l) (hn : t.l.length ≤ 64) (par pid : Int) :
    Calls Try.prog 27 #[tv t lv ev, .int .i64 par, .int .i64 pid] w fun e w' => e = .returned (.bool (child t par pid)) ∧ Below w.heap.size w w' := by
  have hb0 := below_alloc w (.cells #[lv, .int .i64 t.last, ev] 31)
  have hrow := heap_alloc_new w (.cells #[lv, .int .i64 t.last, ev] 31)
  have hlt0 := (Array.getElem?_eq_some_iff.1 hrow).1
  have HA := Lib.hid (rat_any (ev := ev) (hL.stay hb0) hn pid)
  cases hf : find t pid with
  | none =>
    have hat : atN t.l pid = -1 := atN_find hf
    rw [hat] at HA
    rw [show child t par pid = false by unfold child; rw [hf]; rfl]
    have HB0 := Lib.hid hb0
    clear hL hf hat hb0 hrow
    unfold tv at HA ⊢
    go_enter Try.func27, Try.ntmps27
    go_wp2_with fail
    refine HA.out.mono ?_
    rintro e w1 ⟨rfl, hb1⟩
    have HB1 := Lib.hid (HB0.out.trans (hb1.mono HB0.out.size))
    clear hb1
    go_wp2_with fail
    go_ret
    exact ⟨rfl, HB1.out⟩
  | some p =>
    obtain ⟨k, hat, hk, hlt⟩ := find_atN hf
    rw [hat] at HA
    rw [show child t par pid = (p.par == par && live t par) by unfold child; rw [hf]; rfl]
    have HB0 := Lib.hid hb0; have HL := Lib.hid hL; have HK := Lib.hid hk; have HR := Lib.hid hrow
    clear hL hf hat hb0 hk hrow
    obtain ⟨a, cap, rfl⟩ := HL.out.shape
    have HLV := fun w' (hb : Below w.heap.size w w') => rlive_any (ev := ev) (HL.out.stay hb) hn par
    have HLV := Lib.hid HLV
    unfold tv at HA HLV ⊢
    go_enter Try.func27, Try.ntmps27
    go_wp2_with fail
    refine HA.out.mono ?_
    rintro e w1 ⟨rfl, hb1⟩
    have hb1' := HB0.out.trans (hb1.mono HB0.out.size)
    obtain ⟨b, cap', e2, rd⟩ := HL.out.read hb1' HK.out
    cases e2
    have hrow1 := (hb1.block w.heap.size (Array.getElem?_eq_some_iff.1 HR.out).1).trans HR.out
    have c0 : w1.cell? ⟨w.heap.size, 0, none⟩ = some (.slice (some ⟨b, 0, none⟩) t.l.length cap) := Lib.cell_of_heap hrow1 0
    have c1 : w1.cell? ⟨w.heap.size, 1, none⟩ = some (.int .i64 t.last) := Lib.cell_of_heap hrow1 1
    have c2 : w1.cell? ⟨w.heap.size, 2, none⟩ = some ev := Lib.cell_of_heap hrow1 2
    have r0 : w1.cell? ⟨b, k * 7, none⟩ = some (.int .i64 p.pid) := rd 0 _ rfl
    have r1 : w1.cell? ⟨b, k * 7 + 1, none⟩ = some (.int .i64 p.par) := rd 1 _ rfl
    have HB1 := Lib.hid hb1'
    clear hb1 hb1' rd hrow1
    cases he : p.par == par
    · have HE := Lib.hid he
      go_wp2_with fail
      go_ret
      exact ⟨congrArg (fun z => Ending.returned (.bool z)) (by rw [HE.out]; rfl), HB1.out⟩
    · have HE := Lib.hid he
      go_wp2_with fail
      refine (HLV.out _ HB1.out).mono ?_
      rintro e w2 ⟨rfl, hb2⟩
      have HB2 := Lib.hid (HB1.out.trans (hb2.mono HB1.out.size))
      clear hb2
      go_wp2_with fail
      go_ret
      exact ⟨congrArg (fun z => Ending.returned (.bool z)) (by rw [HE.out]; rfl), HB2.out⟩
set_option maxHeartbeats 800000 in
theorem rpending_any {w : World} {t : T} {lv ev : Value} (hL : LAt w lv t.l) (hn : t.l.length ≤ 64) (pid : Int) :
    Calls Try.prog 29 #[tv t lv ev, .int .i64 pid] w fun e w' => e = .returned (.int .u32 (pending t pid : Nat)) ∧ Below w.heap.size w w' := by
  have hb0 := below_alloc w (.cells #[lv, .int .i64 t.last, ev] 31)
  have hrow := heap_alloc_new w (.cells #[lv, .int .i64 t.last, ev] 31)
  have hlt0 := (Array.getElem?_eq_some_iff.1 hrow).1
  have HLV := Lib.hid (rlive_any (ev := ev) (hL.stay hb0) hn pid)
  cases hl : live t pid
  · rw [hl] at HLV
    rw [dead_pending hl]
    have HB0 := Lib.hid hb0
    clear hL hb0 hrow
    unfold tv at HLV ⊢
    go_enter Try.func29, Try.ntmps29
    go_wp2_with fail
    refine HLV.out.mono ?_
    rintro e w1 ⟨rfl, hb1⟩
    have HB1 := Lib.hid (HB0.out.trans (hb1.mono HB0.out.size))
    clear hb1
    go_wp2_with fail
    go_ret
    exact ⟨rfl, HB1.out⟩
  · obtain ⟨p, hf, hpl⟩ := live_iff hl
    obtain ⟨k, hat, hk, hlt⟩ := find_atN hf
    rw [hl] at HLV
    rw [pending_live hf hpl]
    have HB0 := Lib.hid hb0; have HL := Lib.hid hL; have HK := Lib.hid hk; have HR := Lib.hid hrow
    have HA := fun w' (hb : Below w.heap.size w w') => rat_any (ev := ev) (HL.out.stay hb) hn pid
    rw [hat] at HA
    have HA := Lib.hid HA
    clear hL hf hat hb0 hk hrow hl hpl
    obtain ⟨a, cap, rfl⟩ := HL.out.shape
    unfold tv at HA HLV ⊢
    go_enter Try.func29, Try.ntmps29
    go_wp2_with fail
    refine HLV.out.mono ?_
    rintro e w1 ⟨rfl, hb1⟩
    have hb1' := HB0.out.trans (hb1.mono HB0.out.size)
    have hrow1 := (hb1.block w.heap.size (Array.getElem?_eq_some_iff.1 HR.out).1).trans HR.out
    have c0 : w1.cell? ⟨w.heap.size, 0, none⟩ = some (.slice a t.l.length cap) := Lib.cell_of_heap hrow1 0
    have c1 : w1.cell? ⟨w.heap.size, 1, none⟩ = some (.int .i64 t.last) := Lib.cell_of_heap hrow1 1
    have c2 : w1.cell? ⟨w.heap.size, 2, none⟩ = some ev := Lib.cell_of_heap hrow1 2
    obtain ⟨b, cap', e2, hbl, rd⟩ := HL.out.reads HK.out
    cases e2
    have RD := Lib.hid rd
    clear rd
    have HB1 := Lib.hid hb1'; have HR1 := Lib.hid hrow1
    clear hb1 hb1' hrow1 c0 c1 c2
    go_wp2_with fail
    refine RN.begins (fun wq => Below w.heap.size w wq ∧ wq.heap[w.heap.size]? = some (.cells #[.slice (some ⟨b, 0, none⟩) t.l.length cap, .int .i64 t.last, ev] 31 (0, 0))) [] (by kernel_rfl) ?_
    have hS : (fun wq => Below w.heap.size w wq ∧ wq.heap[w.heap.size]? = some (.cells #[.slice (some ⟨b, 0, none⟩) t.l.length cap, .int .i64 t.last, ev] 31 (0, 0))) w1.drew := ⟨⟨HB1.out.os, HB1.out.tape, HB1.out.output, HB1.out.size, HB1.out.block⟩, HR1.out⟩
    refine RN.take (i := 0) (v := ?_) rfl (by decide) (by kernel_rfl) (by kernel_rfl) (by kernel_rfl) (by kernel_rfl) (by kernel_rfl) (by first | exact fun _ _ _ h => h | exact fun _ _ _ h => (by cases h.1) | exact fun _ _ _ h => door_put (by decide) h) (.inl ⟨by rfl, ?_⟩) hS ?_
    rotate_left 1
    · (intro wq hq; have s0 : wq.cell? ⟨w.heap.size, 0, none⟩ = some (.slice (some ⟨b, 0, none⟩) t.l.length cap) := Lib.cell_of_heap hq.2 0; have s1 : wq.cell? ⟨w.heap.size, 1, none⟩ = some (.int .i64 t.last) := Lib.cell_of_heap hq.2 1; have s2 : wq.cell? ⟨w.heap.size, 2, none⟩ = some ev := Lib.cell_of_heap hq.2 2; go_simp; try with_reducible rfl)
    refine RN.take (i := 1) (v := ?_) rfl (by decide) (by kernel_rfl) (by kernel_rfl) (by kernel_rfl) (by kernel_rfl) (by kernel_rfl) (by first | exact fun _ _ _ h => h | exact fun _ _ _ h => (by cases h.1) | exact fun _ _ _ h => door_put (by decide) h) (.inl ⟨by rfl, ?_⟩) hS ?_
    rotate_left 1
    · (intro wq hq; have s0 : wq.cell? ⟨w.heap.size, 0, none⟩ = some (.slice (some ⟨b, 0, none⟩) t.l.length cap) := Lib.cell_of_heap hq.2 0; have s1 : wq.cell? ⟨w.heap.size, 1, none⟩ = some (.int .i64 t.last) := Lib.cell_of_heap hq.2 1; have s2 : wq.cell? ⟨w.heap.size, 2, none⟩ = some ev := Lib.cell_of_heap hq.2 2; go_simp; try with_reducible rfl)
    refine RN.take (i := 2) (v := ?_) rfl (by decide) (by kernel_rfl) (by kernel_rfl) (by kernel_rfl) (by kernel_rfl) (by kernel_rfl) (by first | exact fun _ _ _ h => h | exact fun _ _ _ h => (by cases h.1) | exact fun _ _ _ h => door_put (by decide) h) (.inl ⟨by rfl, ?_⟩) hS ?_
    rotate_left 1
    · (intro wq hq; have s0 : wq.cell? ⟨w.heap.size, 0, none⟩ = some (.slice (some ⟨b, 0, none⟩) t.l.length cap) := Lib.cell_of_heap hq.2 0; have s1 : wq.cell? ⟨w.heap.size, 1, none⟩ = some (.int .i64 t.last) := Lib.cell_of_heap hq.2 1; have s2 : wq.cell? ⟨w.heap.size, 2, none⟩ = some ev := Lib.cell_of_heap hq.2 2; go_simp; try with_reducible rfl)
    refine RN.take (i := 3) (v := ?_) rfl (by decide) (by kernel_rfl) (by kernel_rfl) (by kernel_rfl) (by kernel_rfl) (by kernel_rfl) (by first | exact fun _ _ _ h => h | exact fun _ _ _ h => (by cases h.1) | exact fun _ _ _ h => door_put (by decide) h) (.inl ⟨by rfl, ?_⟩) hS ?_
    rotate_left 1
    · (intro wq hq; have s0 : wq.cell? ⟨w.heap.size, 0, none⟩ = some (.slice (some ⟨b, 0, none⟩) t.l.length cap) := Lib.cell_of_heap hq.2 0; have s1 : wq.cell? ⟨w.heap.size, 1, none⟩ = some (.int .i64 t.last) := Lib.cell_of_heap hq.2 1; have s2 : wq.cell? ⟨w.heap.size, 2, none⟩ = some ev := Lib.cell_of_heap hq.2 2; go_simp; try with_reducible rfl)
    refine RN.all (rs := [4]) (by kernel_rfl) (by simp) ?_
    refine RN.All.cons rfl (fun K hK => ?_) RN.All.nil
    go_simp
    refine (HA.out _ hS.1).mono ?_
    rintro e w2 ⟨rfl, hb2⟩
    have hS2 : (fun wq => Below w.heap.size w wq ∧ wq.heap[w.heap.size]? = some (.cells #[.slice (some ⟨b, 0, none⟩) t.l.length cap, .int .i64 t.last, ev] 31 (0, 0))) w2 := ⟨hS.1.trans (hb2.mono hS.1.size), (hb2.block _ (Array.getElem?_eq_some_iff.1 hS.2).1).trans hS.2⟩
    refine hK _ _ (fun _ => hS2) ?_
    clear hK K hS hb2
    have hS := hS2
    refine RN.take (i := 5) (v := ?_) rfl (by decide) (by kernel_rfl) (by kernel_rfl) (by kernel_rfl) (by kernel_rfl) (by kernel_rfl) (by first | exact fun _ _ _ h => h | exact fun _ _ _ h => (by cases h.1) | exact fun _ _ _ h => door_put (by decide) h) (.inl ⟨by rfl, ?_⟩) hS ?_
    rotate_left 1
    · (intro wq hq; skip; go_simp; try with_reducible rfl)
    refine RN.take (i := 6) (v := ?_) rfl (by decide) (by kernel_rfl) (by kernel_rfl) (by kernel_rfl) (by kernel_rfl) (by kernel_rfl) (by first | exact fun _ _ _ h => h | exact fun _ _ _ h => (by cases h.1) | exact fun _ _ _ h => door_put (by decide) h) (.inl ⟨by rfl, ?_⟩) hS ?_
    rotate_left 1
    · (intro wq hq; skip; go_simp; try with_reducible rfl)
    refine RN.take (i := 7) (v := ?_) rfl (by decide) (by kernel_rfl) (by kernel_rfl) (by kernel_rfl) (by kernel_rfl) (by kernel_rfl) (by first | exact fun _ _ _ h => h | exact fun _ _ _ h => (by cases h.1) | exact fun _ _ _ h => door_put (by decide) h) (.inl ⟨by rfl, ?_⟩) hS ?_
    rotate_left 1
    · (intro wq hq; have s3 : wq.cell? ⟨b, k * 7 + 6, none⟩ = some (.int .u32 p.pe) := RD.out _ hq.1 6 _ rfl; go_simp; try with_reducible rfl)
    refine RN.take (i := 8) (v := ?_) rfl (by decide) (by kernel_rfl) (by kernel_rfl) (by kernel_rfl) (by kernel_rfl) (by kernel_rfl) (by first | exact fun _ _ _ h => h | exact fun _ _ _ h => (by cases h.1) | exact fun _ _ _ h => door_put (by decide) h) (.inl ⟨by rfl, ?_⟩) hS ?_
    rotate_left 1
    · (intro wq hq; skip; go_simp; try with_reducible rfl)
    refine RN.done (by kernel_rfl) ?_ _
    go_wp2_with fail
    go_ret
    exact ⟨rfl, hS2.1⟩
end Kn
end Go.Proofs.Ytlebglnlkkoakaa
