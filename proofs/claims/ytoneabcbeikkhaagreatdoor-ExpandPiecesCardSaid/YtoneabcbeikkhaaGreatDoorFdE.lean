/- Where a field ends; what fields get. -/
import Derived.Test.YtoneabcbeikkhaaGreatDoorFdD
namespace Go.Proofs.YtoneabcbeikkhaaGreatDoor
open Go.RowKit Cls
namespace Fld
theorem infoStr : (Tryz.prog.info? 9).map (fun i => (i.zero, i.size, i.bytes)) = some (some (.string ⟨#[]⟩), 1, 16) := by kernel_rfl
theorem Row.rest {w : World} {B b : Nat} {s : S} {av pv tv : Value} (hp : pv = .pointer none ∨ pv = .pointer (some ⟨b, 2, none⟩)) (h : Rw w B b s av pv tv) : Row w B b s := ⟨_, _, _, hp, h⟩
/-- A text is appended to what has ended. -/
theorem Rw.put {w w2 : World} {B b : Nat} {s : S} {av pv tv v' : Value} {x : ByteArray} (h : Rw w B b s av pv tv) (hown : w2.ownsRow B 9 1 v' (s.E.length + 1) (s.E.map Value.string ++ [Value.string x])) (hgrow : w.grownBy w2 av.ownBlock) :
    Rw (w2.setCell ⟨b, 0, none⟩ v') B b { s with E := s.E ++ [x] } v' pv tv := by
  have hb2 : w2.heap[b]? = some (.cells #[av, .bool s.g, pv, tv] 104 (0, 0)) := (hgrow.block b h.lt (fun e => h.neA e.symm)).trans h.row
  have hne := ownsRow_ne hown hb2 (by decide)
  refine ⟨h.base, heap_setCell_same _ _ 0 _ _ _ hb2, ?_, ?_⟩
  · show World.ownsRow _ _ _ _ _ (s.E ++ [x]).length ((s.E ++ [x]).map Value.string)
    rw [List.length_append, List.map_append]
    exact ownsRow_keep hown fun g hg => heap_setCell_other _ _ _ _ (fun e => hne (by rw [hg]; exact congrArg some e))
  · refine ownF_keep (w := w) h.buf fun g hg => ?_
    rw [heap_setCell_other _ _ _ _ (fun e => h.neT (by rw [hg]; exact congrArg some e))]
    exact hgrow.block g (h.buf.lt g hg).2 (fun e => h.neAT hg e.symm)
set_option maxHeartbeats 2000000 in
theorem end_any (B b : Nat) (s : S) (w : World) (h : Row w B b s) (hf : Fits s) :
    Calls Tryz.prog 62 #[.pointer (some ⟨b, 0, none⟩)] w fun e w' => e = .returned (.tuple #[]) ∧ Row w' B b (endS s) ∧ Below B w w' := by
  obtain ⟨av, pv, tv, hp, hr⟩ := h
  have hn : s.E.length + 1 ≤ 1000001 := by unfold Fits nS at hf; omega
  have c1 : w.cell? ⟨b, 1, none⟩ = some (.bool s.g) := hr.cell 1
  cases hg : s.g
  · have he : endS s = s := by rw [endS, hg]; rfl
    rw [he]
    rw [hg] at c1
    have HR := Lib.hid hr; have HP := Lib.hid hp
    clear he hg hr hp
    go_enter Tryz.func62, Tryz.ntmps62
    go_wp2_with fail
    refine bodyPost_ret (results_none (by kernel_rfl) _ _ _) rfl ?_
    exact ⟨rfl, Row.rest HP.out HR.out, Below.refl _ _⟩
  · have he : endS s = ⟨s.E ++ [tx s.t], false, []⟩ := by rw [endS, hg]; rfl
    rw [he]
    rw [hg] at c1
    obtain ⟨i0, hi, hz0, hz1, hz2⟩ := info_parts infoStr
    have c0 : w.drew.cell? ⟨b, 0, none⟩ = some av := hr.cell 0
    have HR := Lib.hid hr; have HP := Lib.hid hp
    have HI := Lib.hid hi; have HZ0 := Lib.hid hz0; have HZ1 := Lib.hid hz1; have HZ2 := Lib.hid hz2
    clear he hg hr hp hi hz0 hz1 hz2 hf
    go_enter Tryz.func62, Tryz.ntmps62
    go_wp2_with fail
    refine RN.begins (fun w' => w'.cell? ⟨b, 0, none⟩ = some av) [13] (by kernel_rfl) ?_
    have hS : w.drew.cell? ⟨b, 0, none⟩ = some av := c0
    refine RN.take (i := 0) (v := ?_) rfl (by decide) (by kernel_rfl) (by kernel_rfl) (by kernel_rfl) (by kernel_rfl) (by kernel_rfl) (by first | exact fun _ _ _ h => h | exact fun _ _ _ h => (by cases h.1) | exact fun _ _ _ h => door_put (by decide) h) (.inl ⟨by rfl, ?_⟩) hS ?_
    rotate_left 1
    · (intro wq hq; skip; go_simp; try with_reducible rfl)
    refine RN.take (i := 1) (v := ?_) rfl (by decide) (by kernel_rfl) (by kernel_rfl) (by kernel_rfl) (by kernel_rfl) (by kernel_rfl) (by first | exact fun _ _ _ h => h | exact fun _ _ _ h => (by cases h.1) | exact fun _ _ _ h => door_put (by decide) h) (.inl ⟨by rfl, ?_⟩) hS ?_
    rotate_left 1
    · (intro wq hq; skip; go_simp; try with_reducible rfl)
    refine RN.take (i := 2) (v := ?_) rfl (by decide) (by kernel_rfl) (by kernel_rfl) (by kernel_rfl) (by kernel_rfl) (by kernel_rfl) (by first | exact fun _ _ _ h => h | exact fun _ _ _ h => (by cases h.1) | exact fun _ _ _ h => door_put (by decide) h) (.inl ⟨by rfl, ?_⟩) hS ?_
    rotate_left 1
    · (intro wq hq; skip; go_simp; try with_reducible rfl)
    refine RN.take (i := 3) (v := ?_) rfl (by decide) (by kernel_rfl) (by kernel_rfl) (by kernel_rfl) (by kernel_rfl) (by kernel_rfl) (by first | exact fun _ _ _ h => h | exact fun _ _ _ h => (by cases h.1) | exact fun _ _ _ h => door_put (by decide) h) (.inl ⟨by rfl, ?_⟩) hS ?_
    rotate_left 1
    · (intro wq hq; skip; go_simp; try with_reducible rfl)
    refine RN.take (i := 4) (v := ?_) rfl (by decide) (by kernel_rfl) (by kernel_rfl) (by kernel_rfl) (by kernel_rfl) (by kernel_rfl) (by first | exact fun _ _ _ h => h | exact fun _ _ _ h => (by cases h.1) | exact fun _ _ _ h => door_put (by decide) h) (.inl ⟨by rfl, ?_⟩) hS ?_
    rotate_left 1
    · (intro wq hq; skip; go_simp; try with_reducible rfl)
    refine RN.take (i := 5) (v := ?_) rfl (by decide) (by kernel_rfl) (by kernel_rfl) (by kernel_rfl) (by kernel_rfl) (by kernel_rfl) (by first | exact fun _ _ _ h => h | exact fun _ _ _ h => (by cases h.1) | exact fun _ _ _ h => door_put (by decide) h) (.inl ⟨by rfl, ?_⟩) hS ?_
    rotate_left 1
    · (intro wq hq; skip; go_simp; try with_reducible rfl)
    refine RN.take (i := 6) (v := ?_) rfl (by decide) (by kernel_rfl) (by kernel_rfl) (by kernel_rfl) (by kernel_rfl) (by kernel_rfl) (by first | exact fun _ _ _ h => h | exact fun _ _ _ h => (by cases h.1) | exact fun _ _ _ h => door_put (by decide) h) (.inl ⟨by rfl, ?_⟩) hS ?_
    rotate_left 1
    · (intro wq hq; skip; go_simp; try with_reducible rfl)
    refine RN.take (i := 7) (v := ?_) rfl (by decide) (by kernel_rfl) (by kernel_rfl) (by kernel_rfl) (by kernel_rfl) (by kernel_rfl) (by first | exact fun _ _ _ h => h | exact fun _ _ _ h => (by cases h.1) | exact fun _ _ _ h => door_put (by decide) h) (.inl ⟨by rfl, ?_⟩) hS ?_
    rotate_left 1
    · (intro wq hq; skip; go_simp; try with_reducible rfl)
    refine RN.all (rs := [8]) (by kernel_rfl) (by simp) ?_
    refine RN.All.cons rfl (fun K hK => ?_) RN.All.nil
    go_simp
    refine (string_any B b s av pv tv _ HR.out.drew).mono ?_
    rintro e w1 ⟨rfl, h1, hb1⟩
    have HR1 := Lib.hid h1; have HB1 := Lib.hid (show Below B w w1 from ⟨hb1.os, hb1.tape, hb1.output, hb1.size, hb1.block⟩)
    have hlt1 := h1.lt
    have hBs : B ≤ w1.heap.size := by have := h1.base; omega
    have hS1 : w1.cell? ⟨b, 0, none⟩ = some av := h1.cell 0
    clear h1 hb1 hS c0 c1
    refine hK _ _ (fun _ => hS1) ?_
    clear hK K
    refine RN.all (rs := [9]) (by kernel_rfl) (by simp) ?_
    refine RN.All.cons rfl (fun K hK => ?_) RN.All.nil
    go_simp
    refine hK _ _ (fun _ => (World.cell?_alloc_lt _ _ _ hlt1).trans hS1) ?_
    clear hK K
    refine RN.all (rs := [10]) (by kernel_rfl) (by simp) ?_
    refine RN.All.cons rfl (fun K hK => ?_) RN.All.nil
    refine step_append_lies _ (by rfl) _ _ _ (by rfl) B 9 i0 _ 1 16 Tryz.underlying23 HI.out HZ0.out HZ1.out HZ2.out rfl (by omega) av s.E.length _ (by rfl) (HR1.out.own.alloc _)
      ⟨w1.heap.size, 0, none⟩ 1 1 [.string (tx s.t)] (by rfl) (by rfl) (World.news_of_block (cs := #[.string (tx s.t)]) (t := 9) (fr := (0, 0)) (heap_alloc_new w1 _)) (by simp [Value.oneCell'])
      (by omega) (by unfold maxLen; omega) (by omega) (by simp; omega) (w1.heap.size + 1) (by simp) ?_
    intro g capn w2 hown1 hgrow hat hlt2
    have hra := HR1.out.below (below_alloc w1 (.cells #[.string (tx s.t)] 9))
    have hrow := hra.put hown1 hgrow
    have hb2 : Below B w w2 := (HB1.out.alloc hBs (.cells #[.string (tx s.t)] 9)).grown hgrow (by simp; omega) (fun k hk => (HR1.out.own.lt k hk).1)
    have hc2 : w2.heap[b]? = some (.cells #[av, .bool s.g, pv, tv] 104 (0, 0)) := (hgrow.block b hra.lt (fun e => hra.neA e.symm)).trans hra.row
    have hS : w2.cell? ⟨b, 0, none⟩ = some av := by rw [cell_of_row _ _ _ _ _ _ hc2]; rfl
    have f2 : w2.frozen? ⟨b, 0, none⟩ = false := Lib.frozen_of_heap hc2 0
    have HR2 := Lib.hid hrow; have HB2 := Lib.hid hb2
    clear hown1 hgrow hat hra hrow hb2 hc2 hS1
    refine hK _ _ (fun _ => hS) ?_
    clear hK K
    refine RN.take (i := 11) (v := ?_) rfl (by decide) (by kernel_rfl) (by kernel_rfl) (by kernel_rfl) (by kernel_rfl) (by kernel_rfl) (by first | exact fun _ _ _ h => h | exact fun _ _ _ h => (by cases h.1) | exact fun _ _ _ h => door_put (by decide) h) (.inl ⟨by rfl, ?_⟩) hS ?_
    rotate_left 1
    · (intro wq hq; skip; go_simp; try with_reducible rfl)
    refine RN.take (i := 12) (v := ?_) rfl (by decide) (by kernel_rfl) (by kernel_rfl) (by kernel_rfl) (by kernel_rfl) (by kernel_rfl) (by first | exact fun _ _ _ h => h | exact fun _ _ _ h => (by cases h.1) | exact fun _ _ _ h => door_put (by decide) h) (.inl ⟨by rfl, ?_⟩) hS ?_
    rotate_left 1
    · (intro wq hq; skip; go_simp; try with_reducible rfl)
    refine RN.all (rs := [13]) (by kernel_rfl) (by simp) ?_
    refine RN.All.cons rfl (fun K hK => ?_) RN.All.nil
    go_simp
    refine hK _ _ (fun h => absurd h (by decide)) ?_
    clear hK K
    refine RN.done (by kernel_rfl) ?_ _
    have hbs := bset HR2.out (HB2.out.setCell (p := ⟨b, 0, none⟩) HR2.out.base (.slice (some ⟨g, 0, none⟩) (s.E.length + 1) capn)) 1 (.bool false)
    have fb := HR2.out.frozen 1
    have cb := HR2.out.cell 1
    simp only [List.getElem?_toArray, List.getElem?_cons_succ, List.getElem?_cons_zero] at cb
    have HR3 := Lib.hid (Row.rest HP.out (HR2.out.begun false))
    have HB3 := Lib.hid hbs
    clear hbs HR2 HB2
    go_wp2_with fail
    refine (reset_any B b _ _ HR3.out).mono ?_
    rintro e w3 ⟨rfl, h3, hb3⟩
    have HR4 := Lib.hid h3; have HB4 := Lib.hid (HB3.out.trans hb3)
    clear h3 hb3
    go_wp2_with fail
    go_end0
    exact ⟨rfl, HR4.out, HB4.out⟩
theorem Fits.of {s u : S} (h : Fits s) (hn : nS u ≤ nS s) : Fits u := Nat.le_trans hn h
set_option maxHeartbeats 1000000 in
theorem some_any (B b : Nat) (s : S) (x : ByteArray) (w : World) (h : Row w B b s) (hf : Fits s) (hx : x.size ≤ 1000000) :
    Calls Tryz.prog 88 #[.pointer (some ⟨b, 0, none⟩), .string x] w fun e w' => e = .returned (.tuple #[]) ∧ Row w' B b (someS s (bs x)) ∧ Below B w w' := by
  have H := Lib.hid h; have HF := Lib.hid hf
  clear h hf
  by_cases h0 : x.toList = []
  · have h1 : bs x = [] := by rw [Lib.toList_data] at h0; exact h0
    have h2 : x.toList.isEmpty = true := by rw [h0]; rfl
    rw [h1]
    clear h1 h0
    go_enter Tryz.func88, Tryz.ntmps88
    go_wp2_with fail
    go_end0
    exact ⟨rfl, H.out, Below.refl _ _⟩
  · have h1 : someS s (bs x) = growS s (bs x) := by
      rw [Lib.toList_data] at h0
      unfold someS
      cases hb : bs x with
      | nil => exact absurd hb h0
      | cons c r => rfl
    have h2 : x.toList.isEmpty = false := by cases hx : x.toList with
      | nil => exact absurd hx h0
      | cons c r => rfl
    rw [h1]
    clear h1 h0
    go_enter Tryz.func88, Tryz.ntmps88
    go_wp2_with fail
    refine (grow_any B b s x _ H.out HF.out hx).mono ?_
    rintro e w1 ⟨rfl, h1, hb1⟩
    have H1 := Lib.hid h1; have HB1 := Lib.hid hb1
    clear h1 hb1
    go_wp2_with fail
    go_end0
    exact ⟨rfl, H1.out, HB1.out⟩
theorem extract_bs (x : ByteArray) (i j : Nat) : bs (x.extract i j) = ((bs x).take j).drop i := by
  unfold bs
  rw [Lib.extract_data, List.drop_take]
theorem take_snocB (x : ByteArray) (k : Nat) (h : k < x.size) : (bs x).take (k + 1) = (bs x).take k ++ [x[k]] := by
  rw [List.take_succ_eq_append_getElem (by rw [bs_len]; exact h)]; rfl
set_option maxHeartbeats 2000000 in
theorem part_any (B b : Nat) (s : S) (x : ByteArray) (w : World) (h : Row w B b s) (hf : nS s + 2 * x.size ≤ 900000) :
    Calls Tryz.prog 64 #[.pointer (some ⟨b, 0, none⟩), .string x] w fun e w' => e = .returned (.tuple #[]) ∧ Row w' B b (bytesS s (bs x)) ∧ Below B w w' := by
  have H := Lib.hid h; have HF := Lib.hid hf
  have hx : x.size ≤ 450000 := by omega
  clear h hf
  go_enter Tryz.func64, Tryz.ntmps64
  go_wp2_with fail
  go_loopw [4, 8] (fun f i wr => ∃ (k m : Nat) (s1 : S), m ≤ k ∧ k ≤ x.size ∧ f = .int .i64 m ∧ i = .int .i64 k ∧ Row wr B b s1 ∧ Below B w wr ∧ nS s1 ≤ nS s + 2 * m ∧ bytesS s ((bs x).take k) = someS s1 (((bs x).take k).drop m)) (fun _ i _ => x.size - (intOf i).toNat)
  case atStart => exact ⟨0, 0, s, Nat.le_refl _, Nat.zero_le _, rfl, rfl, H.out, Below.refl _ _, by omega, rfl⟩
  case round =>
    obtain ⟨k, m, s1, hmk, hk, rfl, rfl, hr, hbw, hn, heq⟩ := hrel
    have HR := Lib.hid hr; have HB := Lib.hid hbw; have HQ := Lib.hid heq
    clear hr hbw heq
    have hn0 : nS s + 2 * x.size ≤ 900000 := HF.out
    by_cases hlt : k < x.size
    · have HS := Lib.hid (take_snocB x k hlt)
      cases hc : breakB x[k].toNat
      · have HC := Lib.hid hc
        clear hc
        go_wp2_with fail
        refine (break_any _ _).mono ?_
        rintro e w1 ⟨rfl, rfl⟩
        rw [HC.out]
        go_wp2_with fail
        go_roundw
        case rel => exact ⟨k + 1, m, s1, by omega, by omega, rfl, by go_num, HR.out, HB.out, hn, by
          rw [HS.out, bytes_on HQ.out HC.out, List.drop_append_of_le_length (by rw [List.length_take, bs_len]; omega)]⟩
        case measure => simp [intOf]; omega
      · have HC := Lib.hid hc
        clear hc
        have hsz : (x.extract m k).size ≤ 1000000 := by rw [ByteArray.size_extract]; omega
        have hfit : Fits s1 := by unfold Fits; omega
        have hn1 : nS (someS s1 (bs (x.extract m k))) ≤ nS s1 + 2 * (k - m) := by
          have := nS_some s1 (bs (x.extract m k))
          rw [bs_len, ByteArray.size_extract] at this
          omega
        have hfit1 : Fits (someS s1 (bs (x.extract m k))) := by unfold Fits; omega
        have hn2 := nS_end (someS s1 (bs (x.extract m k)))
        have HSZ := Lib.hid hsz; have HF1 := Lib.hid hfit; have HF2 := Lib.hid hfit1; have HN1 := Lib.hid hn1; have HN2 := Lib.hid hn2
        clear hsz hfit hfit1 hn1 hn2
        go_wp2_with fail
        refine (break_any _ _).mono ?_
        rintro e w1 ⟨rfl, rfl⟩
        rw [HC.out]
        go_wp2_with fail
        refine (some_any B b s1 (x.extract m k) _ HR.out HF1.out HSZ.out).mono ?_
        rintro e w1 ⟨rfl, h1, hb1⟩
        have H1 := Lib.hid h1; have HB1 := Lib.hid (HB.out.trans hb1)
        clear h1 hb1
        go_wp2_with fail
        refine (end_any B b _ _ H1.out HF2.out).mono ?_
        rintro e w2 ⟨rfl, h2, hb2⟩
        have H2 := Lib.hid h2; have HB2 := Lib.hid (HB1.out.trans hb2)
        clear h2 hb2
        go_wp2_with fail
        go_roundw
        case rel => exact ⟨k + 1, k + 1, _, Nat.le_refl _, by omega, by go_num, by go_num, H2.out, HB2.out, by have := HN1.out; have := HN2.out; omega, by
          rw [HS.out, bytes_break HQ.out HC.out, ← extract_bs, List.drop_eq_nil_of_le (by simp; omega)]⟩
        case measure => simp [intOf]; omega
    · obtain rfl : k = x.size := by omega
      have hsz : (x.extract m x.size).size ≤ 1000000 := by rw [ByteArray.size_extract]; omega
      have hfit : Fits s1 := by unfold Fits; omega
      have HSZ := Lib.hid hsz; have HF1 := Lib.hid hfit
      clear hsz hfit
      go_wp2_with fail
      refine (some_any B b s1 (x.extract m x.size) _ HR.out HF1.out HSZ.out).mono ?_
      rintro e w1 ⟨rfl, h1, hb1⟩
      have H1 := Lib.hid h1; have HB1 := Lib.hid (HB.out.trans hb1)
      clear h1 hb1
      go_wp2_with fail
      go_end0
      refine ⟨rfl, ?_, HB1.out⟩
      have h1 := H1.out
      have h2 := HQ.out
      rw [List.take_of_length_le (by rw [bs_len]; exact Nat.le_refl _)] at h2
      rw [h2]
      rw [extract_bs, List.take_of_length_le (by rw [bs_len]; exact Nat.le_refl _)] at h1
      exact h1
end Fld
end Go.Proofs.YtoneabcbeikkhaaGreatDoor
