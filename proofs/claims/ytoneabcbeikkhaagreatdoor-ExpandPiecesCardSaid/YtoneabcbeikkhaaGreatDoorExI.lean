/- param, part, Pieces. -/
import Derived.Test.YtoneabcbeikkhaaGreatDoorExH
namespace Go.Proofs.YtoneabcbeikkhaaGreatDoor
open Go.RowKit Cls
namespace Ex
open Vr (St val Sc Kp Tab Fit RowAt MapAt)
open Fld (Pc bs tx joinS cutP joinP weight Pcs pcells)
open Pt (PL)
theorem instead_zero (s : St) (q r : Bool) (t o : ByteArray) (n : Nat) (g : Got) (h : g.k = 0 → g.t = tx []) : (insteadG s q t o n r g).k = 0 → (insteadG s q t o n r g).t = tx [] := by
  unfold insteadG giveG unsetG
  cases hk : g.k == 0
  · have hn : ¬ g.k = 0 := by simpa using hk
    cases hasC o 61 <;> cases hasC o 63 <;> cases (hasC o 43 && !r) <;> simp [hn]
  · have h0 : g.k = 0 := by simpa using hk
    cases hasC o 61 <;> cases hasC o 63 <;> cases (hasC o 43 && !r) <;> simp [h h0]
theorem pre58 {o : ByteArray} (h : okO o) : Lib.hasPrefix o.data.toList [58] = hasC o 58 := by
  have : ∀ l : List UInt8, bs o = l → Lib.hasPrefix o.data.toList [58] = Lib.hasPrefix l [58] ∧ hasC o 58 = l.any (fun x => x.toNat == 58) := fun l e => by subst e; exact ⟨rfl, rfl⟩
  rcases h with h | h | h | h | h | h | h | h | h <;> (rw [(this _ h).1, (this _ h).2]; decide)
theorem suf43 {o : ByteArray} (h : okO o) : Lib.hasSuffix o.data.toList [43] = hasC o 43 := by
  have : ∀ l : List UInt8, bs o = l → Lib.hasSuffix o.data.toList [43] = Lib.hasSuffix l [43] ∧ hasC o 43 = l.any (fun x => x.toNat == 43) := fun l e => by subst e; exact ⟨rfl, rfl⟩
  rcases h with h | h | h | h | h | h | h | h | h <;> (rw [(this _ h).1, (this _ h).2]; decide)
theorem Env.block {W0 w w' : World} {B q m : Nat} {z s : St} {mv av : Value} (_ : Env W0 w B q z m s mv av) (hb : Below w.heap.size w w') {k : Nat} {o : Obj} (h : w.heap[k]? = some o) : w'.heap[k]? = some o := (hb.block _ (Array.getElem?_eq_some_iff.1 h).1).trans h
theorem bel_block {w w' : World} (hb : Below w.heap.size w w') {k : Nat} {o : Obj} (h : w.heap[k]? = some o) : w'.heap[k]? = some o := (hb.block _ (Array.getElem?_eq_some_iff.1 h).1).trans h
set_option maxHeartbeats 2000000 in
theorem param_any {W0 w : World} {B q m : Nat} {z s : St} {mv av : Value} {f : PL} {a : Option Addr} {c : Nat} (h : PW W0 B q z av f a c) (E : Env W0 w B q z m s mv av) (hm : m + f.size ≤ 900000) (hs : f.size ≤ 1000) (hf : okT f) (k : Int) (qq : Bool) (t o : ByteArray) (ht : t.size ≤ 100000) (ho : okO o) :
    Calls Tryz.prog 44 #[.pointer (some ⟨q, 0, none⟩), Pt.pv k qq t o a f.len c] w (Ans w B q mv av (paramG s qq t o f.len (fun s => ex f s []))) := by
  rw [param_eq ho]
  have HB0 := Lib.hid (two_bel w k qq t o a f.len c)
  have HE := Lib.hid (E.more HB0.out)
  have HR0 := Lib.hid (two_fault w k qq t o a f.len c)
  have HP0 := Lib.hid (two_part w k qq t o a f.len c)
  have HUS := Lib.hid (usable_any HE.out k qq t o a f.len c (by unfold maxLen; omega) (pre58 ho))
  have HSF : ∀ w, Calls Tryz.prog 72 #[.string o, .string ⟨#[43]⟩] w fun e w' => e = .returned (.bool (hasC o 43)) ∧ w' = w := fun w => by
    have hos : o.size ≤ 9223372036854775807 := by
      have : (bs o).length ≤ 2 := by rcases ho with h | h | h | h | h | h | h | h | h <;> (rw [h]; decide)
      rw [Fld.bs_len] at this; omega
    have := Tryz.strings_HasSuffix o ⟨#[43]⟩ w hos
    rw [show (⟨#[43]⟩ : ByteArray).data.toList = [43] from rfl, suf43 ho] at this
    exact this
  have HVA := fun (w' : World) (E' : Env W0 w' B q z m s mv av) => value_any s B q k qq t o a f.len c w' mv av E'.sc E'.tabs E'.fit (by unfold maxLen; omega)
  have HIN := fun (w' : World) (E' : Env W0 w' B q z m s mv av) (r : Bool) => instead_any h E' hm hs hf k qq r t o ht ho
  have HSF := Lib.hid HSF; have HVA := Lib.hid HVA; have HIN := Lib.hid HIN
  clear h E
  unfold Pt.pv at HUS HVA HIN ⊢
  by_cases he : bs o = []
  · have e0 : (o.toList == []) = true := by rw [Vr.tests]; exact beq_iff_eq.2 he
    have hplus : hasC o 43 = false := by simp [hasC, he]
    have hr : readyB s t o = true := by simp [readyB, he]
    rw [hr, hplus] 
    rw [hplus] at HSF
    clear hr hplus ho
    go_enter Tryz.func44, Tryz.ntmps44
    go_wp2_with (go_at_call 72; refine (HSF.out _).mono ?_; rintro e w3 ⟨rfl, rfl⟩)
    refine (HVA.out _ HE.out).mono ?_
    rintro e w1 ⟨v1, rfl, ho1, hb1⟩
    have HR1 := Lib.hid (bel_block hb1 HR0.out)
    have q0w1 : w1.cell? ⟨w.heap.size + 1, 0, none⟩ = some (.int .i64 0) := Lib.cell_of_heap HR1.out 0
    have q1w1 : w1.cell? ⟨w.heap.size + 1, 1, none⟩ = some (.string ⟨#[]⟩) := Lib.cell_of_heap HR1.out 1
    have f0w1 : w1.frozen? ⟨w.heap.size + 1, 0, none⟩ = false := frozen_of_row _ _ _ _ _ HR1.out
    have f1w1 : w1.frozen? ⟨w.heap.size + 1, 1, none⟩ = false := frozen_of_row _ _ _ _ _ HR1.out
    have HW1 := Lib.hid ((Went.refl HE.out.sc).more hb1)
    have HO1 := Lib.hid (Joins.ownsRow_le ho1 HB0.out.size)
    clear ho1 hb1
    go_wp2_with fail
    exact bodyPost_ret (results_tmp_row rfl _ _ (w.heap.size + 1) _ _ _ _ rfl (put2 HR1.out _ _) Tryz.underlying36 rfl (by kernel_rfl)) rfl ⟨mv, v1, rfl, own_set (own_set HO1.out HR1.out (by decide) 0 _) (heap_setCell_same _ _ 0 _ _ _ HR1.out) (by decide) 1 _, (Went.start HB0.out HW1.out).fault HR1.out (Nat.le_succ _) _ _⟩
  · have e0 : (o.toList == []) = false := by rw [Vr.tests]; exact beq_eq_false_iff_ne.2 he
    have hr : readyB s t o = usable s t o := by
      unfold readyB
      cases hb : bs o with
      | nil => exact absurd hb he
      | cons => rfl
    rw [hr]
    clear hr he
    generalize usable s t o = u at HUS ⊢
    cases u
    · simp only [Bool.false_and, cond_false]
      go_enter Tryz.func44, Tryz.ntmps44
      go_wp2_with fail
      refine HUS.out.mono ?_
      rintro e w1 ⟨rfl, hb1⟩
      have HP1 := Lib.hid (bel_block hb1 HP0.out)
      have HR1 := Lib.hid (bel_block hb1 HR0.out)
      have HE1 := Lib.hid (HE.out.more hb1)
      have HB1 := Lib.hid (HB0.out.trans (hb1.mono HB0.out.size))
      have pcw1 := Lib.hid (HP1.out)
      have c0w1 : w1.cell? ⟨w.heap.size, 0, none⟩ = some (.int .i64 k) := Lib.cell_of_heap pcw1.out 0
      have c1w1 : w1.cell? ⟨w.heap.size, 1, none⟩ = some (.bool qq) := Lib.cell_of_heap pcw1.out 1
      have c2w1 : w1.cell? ⟨w.heap.size, 2, none⟩ = some (.string t) := Lib.cell_of_heap pcw1.out 2
      have c3w1 : w1.cell? ⟨w.heap.size, 3, none⟩ = some (.string o) := Lib.cell_of_heap pcw1.out 3
      have c4w1 : w1.cell? ⟨w.heap.size, 4, none⟩ = some (.slice a f.len c) := Lib.cell_of_heap pcw1.out 4
      have q0w1 : w1.cell? ⟨w.heap.size + 1, 0, none⟩ = some (.int .i64 0) := Lib.cell_of_heap HR1.out 0
      have q1w1 : w1.cell? ⟨w.heap.size + 1, 1, none⟩ = some (.string ⟨#[]⟩) := Lib.cell_of_heap HR1.out 1
      have f0w1 : w1.frozen? ⟨w.heap.size + 1, 0, none⟩ = false := frozen_of_row _ _ _ _ _ HR1.out
      have f1w1 : w1.frozen? ⟨w.heap.size + 1, 1, none⟩ = false := frozen_of_row _ _ _ _ _ HR1.out
      clear hb1 HUS
      have HI := Lib.hid (HIN.out w1 HE1.out false)
      clear HIN HSF HVA
      go_wp2_with fail
      obtain ⟨g, hg⟩ : ∃ g, g = insteadG s qq t o f.len false (ex f s []) := ⟨_, rfl⟩
      rw [← hg] at HI
      have HG := Lib.hid hg
      clear hg
      refine HI.out.mono ?_
      rintro e w2 ⟨mv2, v2, rfl, ho2, hw2⟩
      have HR2 := Lib.hid (hw2.block HE1.out.sc (by decide) (by decide) HR1.out)
      have HP2 := Lib.hid (hw2.block HE1.out.sc (by decide) (by decide) HP1.out)
      have HW2 := Lib.hid (Went.start HB1.out hw2)
      have HO2 := Lib.hid (Joins.ownsRow_le ho2 HB1.out.size)
      clear ho2 hw2 HI
      obtain ⟨L, S, k1, t1⟩ := g
      have HBa := Lib.hid (Fld.below_alloc w2 (.cells #[.int .i64 k1, .string t1] 36))
      have HRa := Lib.hid (bel_block HBa.out HR2.out)
      have HPa := Lib.hid (bel_block HBa.out HP2.out)
      have HWa := Lib.hid (HW2.out.more HBa.out)
      have HOa := Lib.hid (HO2.out.alloc (.cells #[.int .i64 k1, .string t1] 36))
      obtain ⟨a2, c2, hv2, _⟩ := Fld.pcs_own HO2.out rfl rfl
      subst hv2
      have d1 : (w2.alloc (.cells #[.int .i64 k1, .string t1] 36)).cell? ⟨w.heap.size, 1, none⟩ = some (.bool qq) := Lib.cell_of_heap HPa.out 1
      have q0wa : ((w2.alloc (.cells #[.int .i64 k1, .string t1] 36))).cell? ⟨w.heap.size + 1, 0, none⟩ = some (.int .i64 0) := Lib.cell_of_heap HRa.out 0
      have q1wa : ((w2.alloc (.cells #[.int .i64 k1, .string t1] 36))).cell? ⟨w.heap.size + 1, 1, none⟩ = some (.string ⟨#[]⟩) := Lib.cell_of_heap HRa.out 1
      have f0wa : ((w2.alloc (.cells #[.int .i64 k1, .string t1] 36))).frozen? ⟨w.heap.size + 1, 0, none⟩ = false := frozen_of_row _ _ _ _ _ HRa.out
      have f1wa : ((w2.alloc (.cells #[.int .i64 k1, .string t1] 36))).frozen? ⟨w.heap.size + 1, 1, none⟩ = false := frozen_of_row _ _ _ _ _ HRa.out
      by_cases hfix : L = [] ∧ qq = true ∧ k1 = 0
      · obtain ⟨rfl, rfl, rfl⟩ := hfix
        obtain rfl : t1 = ⟨#[]⟩ := by
          have h0 := instead_zero s true false t o f.len (ex f s []) (ex_zero f s [])
          rw [← HG.out] at h0
          exact h0 rfl
        simp only [List.length_nil]
        go_wp2_with fail
        refine (piece_any ⟨#[]⟩ true _).mono ?_
        rintro e w3 ⟨v3, rfl, ho3, hb3⟩
        have HR3 := Lib.hid (bel_block hb3 HRa.out)
        have hl3 : w3.heap[w2.heap.size]? = some (.cells #[.int .i64 0, .string ⟨#[]⟩] 36 (0, 0)) := bel_block hb3 (heap_alloc_new w2 _)
        have l03 : w3.cell? ⟨w2.heap.size, 0, none⟩ = some (.int .i64 0) := Lib.cell_of_heap hl3 0
        have l13 : w3.cell? ⟨w2.heap.size, 1, none⟩ = some (.string ⟨#[]⟩) := Lib.cell_of_heap hl3 1
        have q0w3 : w3.cell? ⟨w.heap.size + 1, 0, none⟩ = some (.int .i64 0) := Lib.cell_of_heap HR3.out 0
        have q1w3 : w3.cell? ⟨w.heap.size + 1, 1, none⟩ = some (.string ⟨#[]⟩) := Lib.cell_of_heap HR3.out 1
        have f0w3 : w3.frozen? ⟨w.heap.size + 1, 0, none⟩ = false := frozen_of_row _ _ _ _ _ HR3.out
        have f1w3 : w3.frozen? ⟨w.heap.size + 1, 1, none⟩ = false := frozen_of_row _ _ _ _ _ HR3.out
        have HW3 := Lib.hid (HWa.out.more hb3)
        have HO3 := Lib.hid (Joins.ownsRow_le ho3 HWa.out.kp.size)
        clear ho3 hb3 hl3
        go_wp2_with fail
        go_region
        go_wp2_with fail
        rw [← HG.out]
        exact bodyPost_ret (results_tmp_row rfl _ _ (w.heap.size + 1) _ _ _ _ rfl (put2d HR3.out _ _) Tryz.underlying36 rfl (by kernel_rfl)) rfl ⟨mv2, v3, rfl, own_set (own_set HO3.out HR3.out (by decide) 0 _) (heap_setCell_same _ _ 0 _ _ _ HR3.out) (by decide) 1 _, (HW3.out.fault HR3.out (Nat.le_succ _) _ _).drew⟩
      · have hfg : fixG qq ⟨L, S, k1, t1⟩ = ⟨L, S, k1, t1⟩ := by
          unfold fixG emptyP
          cases L with
          | cons x r => simp
          | nil =>
            cases qq with
            | false => simp
            | true =>
              have : (k1 == 0) = false := by simpa using fun e => hfix ⟨rfl, rfl, e⟩
              simp [this]
        have HFG := Lib.hid hfg
        clear hfg
        by_cases hL : L.length = 0
        · have hoz : (w2.alloc (.cells #[.int .i64 k1, .string t1] 36)).ownsRow w.heap.size 69 3 (.slice a2 0 c2) L.length (pcells L) := by
            have h := HOa.out
            rwa [show Value.slice a2 L.length c2 = Value.slice a2 0 c2 by rw [hL]] at h
          have HOz := Lib.hid hoz
          clear hoz
          simp only [hL]
          cases qq with
          | false =>
            go_wp2_with fail
            go_region
            go_wp2_with fail
            rw [← HG.out, HFG.out]
            exact bodyPost_ret (results_tmp_row rfl _ _ (w.heap.size + 1) _ _ _ _ rfl (put2d HRa.out _ _) Tryz.underlying36 rfl (by kernel_rfl)) rfl ⟨mv2, _, rfl, World.ownsRow.drew (own_set (own_set HOz.out HRa.out (by decide) 0 _) (heap_setCell_same _ _ 0 _ _ _ HRa.out) (by decide) 1 _), (HWa.out.fault HRa.out (Nat.le_succ _) _ _).drew⟩
          | true =>
            have hk : ¬ k1 = 0 := fun e => hfix ⟨List.length_eq_zero_iff.1 hL, rfl, e⟩
            clear hfix
            go_wp2_with fail
            go_region
            go_wp2_with fail
            rw [← HG.out, HFG.out]
            exact bodyPost_ret (results_tmp_row rfl _ _ (w.heap.size + 1) _ _ _ _ rfl (put2d HRa.out _ _) Tryz.underlying36 rfl (by kernel_rfl)) rfl ⟨mv2, _, rfl, World.ownsRow.drew (own_set (own_set HOz.out HRa.out (by decide) 0 _) (heap_setCell_same _ _ 0 _ _ _ HRa.out) (by decide) 1 _), (HWa.out.fault HRa.out (Nat.le_succ _) _ _).drew⟩
        · clear hfix
          have hpos : 0 < L.length := by omega
          go_wp2_with fail
          go_region
          go_wp2_with fail
          rw [← HG.out, HFG.out]
          exact bodyPost_ret (results_tmp_row rfl _ _ (w.heap.size + 1) _ _ _ _ rfl (put2d HRa.out _ _) Tryz.underlying36 rfl (by kernel_rfl)) rfl ⟨mv2, _, rfl, World.ownsRow.drew (own_set (own_set HOa.out HRa.out (by decide) 0 _) (heap_setCell_same _ _ 0 _ _ _ HRa.out) (by decide) 1 _), (HWa.out.fault HRa.out (Nat.le_succ _) _ _).drew⟩
    · cases hp : hasC o 43
      · rw [hp] at HSF
        simp only [Bool.true_and, Bool.not_false, cond_true]
        go_enter Tryz.func44, Tryz.ntmps44
        go_wp2_with fail
        refine HUS.out.mono ?_
        rintro e w1 ⟨rfl, hb1⟩
        have HP1 := Lib.hid (bel_block hb1 HP0.out)
        have HR1 := Lib.hid (bel_block hb1 HR0.out)
        have HE1 := Lib.hid (HE.out.more hb1)
        have HB1 := Lib.hid (HB0.out.trans (hb1.mono HB0.out.size))
        have pcw1 := Lib.hid (HP1.out)
        have c0w1 : w1.cell? ⟨w.heap.size, 0, none⟩ = some (.int .i64 k) := Lib.cell_of_heap pcw1.out 0
        have c1w1 : w1.cell? ⟨w.heap.size, 1, none⟩ = some (.bool qq) := Lib.cell_of_heap pcw1.out 1
        have c2w1 : w1.cell? ⟨w.heap.size, 2, none⟩ = some (.string t) := Lib.cell_of_heap pcw1.out 2
        have c3w1 : w1.cell? ⟨w.heap.size, 3, none⟩ = some (.string o) := Lib.cell_of_heap pcw1.out 3
        have c4w1 : w1.cell? ⟨w.heap.size, 4, none⟩ = some (.slice a f.len c) := Lib.cell_of_heap pcw1.out 4
        have q0w1 : w1.cell? ⟨w.heap.size + 1, 0, none⟩ = some (.int .i64 0) := Lib.cell_of_heap HR1.out 0
        have q1w1 : w1.cell? ⟨w.heap.size + 1, 1, none⟩ = some (.string ⟨#[]⟩) := Lib.cell_of_heap HR1.out 1
        have f0w1 : w1.frozen? ⟨w.heap.size + 1, 0, none⟩ = false := frozen_of_row _ _ _ _ _ HR1.out
        have f1w1 : w1.frozen? ⟨w.heap.size + 1, 1, none⟩ = false := frozen_of_row _ _ _ _ _ HR1.out
        clear hb1 HUS
        go_wp2_with (go_at_call 72; refine (HSF.out _).mono ?_; rintro e w3 ⟨rfl, rfl⟩)
        refine (HVA.out _ HE1.out).mono ?_
        rintro e w4 ⟨v4, rfl, ho4, hb4⟩
        have HR4 := Lib.hid (bel_block hb4 HR1.out)
        have q0w4 : w4.cell? ⟨w.heap.size + 1, 0, none⟩ = some (.int .i64 0) := Lib.cell_of_heap HR4.out 0
        have q1w4 : w4.cell? ⟨w.heap.size + 1, 1, none⟩ = some (.string ⟨#[]⟩) := Lib.cell_of_heap HR4.out 1
        have f0w4 : w4.frozen? ⟨w.heap.size + 1, 0, none⟩ = false := frozen_of_row _ _ _ _ _ HR4.out
        have f1w4 : w4.frozen? ⟨w.heap.size + 1, 1, none⟩ = false := frozen_of_row _ _ _ _ _ HR4.out
        have HW4 := Lib.hid (((Went.refl HE1.out.sc).more hb4).start HB1.out)
        have HO4 := Lib.hid (Joins.ownsRow_le ho4 HB1.out.size)
        clear ho4 hb4
        go_wp2_with fail
        exact bodyPost_ret (results_tmp_row rfl _ _ (w.heap.size + 1) _ _ _ _ rfl (put2 HR4.out _ _) Tryz.underlying36 rfl (by kernel_rfl)) rfl ⟨mv, v4, rfl, own_set (own_set HO4.out HR4.out (by decide) 0 _) (heap_setCell_same _ _ 0 _ _ _ HR4.out) (by decide) 1 _, HW4.out.fault HR4.out (Nat.le_succ _) _ _⟩
      · rw [hp] at HSF
        simp only [Bool.true_and, Bool.not_true, cond_false]
        go_enter Tryz.func44, Tryz.ntmps44
        go_wp2_with fail
        refine HUS.out.mono ?_
        rintro e w1 ⟨rfl, hb1⟩
        have HP1 := Lib.hid (bel_block hb1 HP0.out)
        have HR1 := Lib.hid (bel_block hb1 HR0.out)
        have HE1 := Lib.hid (HE.out.more hb1)
        have HB1 := Lib.hid (HB0.out.trans (hb1.mono HB0.out.size))
        have pcw1 := Lib.hid (HP1.out)
        have c0w1 : w1.cell? ⟨w.heap.size, 0, none⟩ = some (.int .i64 k) := Lib.cell_of_heap pcw1.out 0
        have c1w1 : w1.cell? ⟨w.heap.size, 1, none⟩ = some (.bool qq) := Lib.cell_of_heap pcw1.out 1
        have c2w1 : w1.cell? ⟨w.heap.size, 2, none⟩ = some (.string t) := Lib.cell_of_heap pcw1.out 2
        have c3w1 : w1.cell? ⟨w.heap.size, 3, none⟩ = some (.string o) := Lib.cell_of_heap pcw1.out 3
        have c4w1 : w1.cell? ⟨w.heap.size, 4, none⟩ = some (.slice a f.len c) := Lib.cell_of_heap pcw1.out 4
        have q0w1 : w1.cell? ⟨w.heap.size + 1, 0, none⟩ = some (.int .i64 0) := Lib.cell_of_heap HR1.out 0
        have q1w1 : w1.cell? ⟨w.heap.size + 1, 1, none⟩ = some (.string ⟨#[]⟩) := Lib.cell_of_heap HR1.out 1
        have f0w1 : w1.frozen? ⟨w.heap.size + 1, 0, none⟩ = false := frozen_of_row _ _ _ _ _ HR1.out
        have f1w1 : w1.frozen? ⟨w.heap.size + 1, 1, none⟩ = false := frozen_of_row _ _ _ _ _ HR1.out
        clear hb1 HUS
        have HI := Lib.hid (HIN.out _ HE1.out true)
        clear HIN HVA
        go_wp2_with (go_at_call 72; refine (HSF.out _).mono ?_; rintro e w3 ⟨rfl, rfl⟩)
        clear HSF
        obtain ⟨g, hg⟩ : ∃ g, g = insteadG s qq t o f.len true (ex f s []) := ⟨_, rfl⟩
        rw [← hg] at HI
        have HG := Lib.hid hg
        clear hg
        refine HI.out.mono ?_
        rintro e w2 ⟨mv2, v2, rfl, ho2, hw2⟩
        have HR2 := Lib.hid (hw2.block HE1.out.sc (by decide) (by decide) HR1.out)
        have HP2 := Lib.hid (hw2.block HE1.out.sc (by decide) (by decide) HP1.out)
        have HW2 := Lib.hid (Went.start HB1.out hw2)
        have HO2 := Lib.hid (Joins.ownsRow_le ho2 HB1.out.size)
        clear ho2 hw2 HI
        obtain ⟨L, S, k1, t1⟩ := g
        have HBa := Lib.hid (Fld.below_alloc w2 (.cells #[.int .i64 k1, .string t1] 36))
        have HRa := Lib.hid (bel_block HBa.out HR2.out)
        have HPa := Lib.hid (bel_block HBa.out HP2.out)
        have HWa := Lib.hid (HW2.out.more HBa.out)
        have HOa := Lib.hid (HO2.out.alloc (.cells #[.int .i64 k1, .string t1] 36))
        obtain ⟨a2, c2, hv2, _⟩ := Fld.pcs_own HO2.out rfl rfl
        subst hv2
        have d1 : (w2.alloc (.cells #[.int .i64 k1, .string t1] 36)).cell? ⟨w.heap.size, 1, none⟩ = some (.bool qq) := Lib.cell_of_heap HPa.out 1
        have q0wa : ((w2.alloc (.cells #[.int .i64 k1, .string t1] 36))).cell? ⟨w.heap.size + 1, 0, none⟩ = some (.int .i64 0) := Lib.cell_of_heap HRa.out 0
        have q1wa : ((w2.alloc (.cells #[.int .i64 k1, .string t1] 36))).cell? ⟨w.heap.size + 1, 1, none⟩ = some (.string ⟨#[]⟩) := Lib.cell_of_heap HRa.out 1
        have f0wa : ((w2.alloc (.cells #[.int .i64 k1, .string t1] 36))).frozen? ⟨w.heap.size + 1, 0, none⟩ = false := frozen_of_row _ _ _ _ _ HRa.out
        have f1wa : ((w2.alloc (.cells #[.int .i64 k1, .string t1] 36))).frozen? ⟨w.heap.size + 1, 1, none⟩ = false := frozen_of_row _ _ _ _ _ HRa.out
        by_cases hfix : L = [] ∧ qq = true ∧ k1 = 0
        · obtain ⟨rfl, rfl, rfl⟩ := hfix
          obtain rfl : t1 = ⟨#[]⟩ := by
            have h0 := instead_zero s true true t o f.len (ex f s []) (ex_zero f s [])
            rw [← HG.out] at h0
            exact h0 rfl
          simp only [List.length_nil]
          go_wp2_with fail
          refine (piece_any ⟨#[]⟩ true _).mono ?_
          rintro e w3 ⟨v3, rfl, ho3, hb3⟩
          have HR3 := Lib.hid (bel_block hb3 HRa.out)
          have hl3 : w3.heap[w2.heap.size]? = some (.cells #[.int .i64 0, .string ⟨#[]⟩] 36 (0, 0)) := bel_block hb3 (heap_alloc_new w2 _)
          have l03 : w3.cell? ⟨w2.heap.size, 0, none⟩ = some (.int .i64 0) := Lib.cell_of_heap hl3 0
          have l13 : w3.cell? ⟨w2.heap.size, 1, none⟩ = some (.string ⟨#[]⟩) := Lib.cell_of_heap hl3 1
          have q0w3 : w3.cell? ⟨w.heap.size + 1, 0, none⟩ = some (.int .i64 0) := Lib.cell_of_heap HR3.out 0
          have q1w3 : w3.cell? ⟨w.heap.size + 1, 1, none⟩ = some (.string ⟨#[]⟩) := Lib.cell_of_heap HR3.out 1
          have f0w3 : w3.frozen? ⟨w.heap.size + 1, 0, none⟩ = false := frozen_of_row _ _ _ _ _ HR3.out
          have f1w3 : w3.frozen? ⟨w.heap.size + 1, 1, none⟩ = false := frozen_of_row _ _ _ _ _ HR3.out
          have HW3 := Lib.hid (HWa.out.more hb3)
          have HO3 := Lib.hid (Joins.ownsRow_le ho3 HWa.out.kp.size)
          clear ho3 hb3 hl3
          go_wp2_with fail
          go_region
          go_wp2_with fail
          rw [← HG.out]
          exact bodyPost_ret (results_tmp_row rfl _ _ (w.heap.size + 1) _ _ _ _ rfl (put2d HR3.out _ _) Tryz.underlying36 rfl (by kernel_rfl)) rfl ⟨mv2, v3, rfl, own_set (own_set HO3.out HR3.out (by decide) 0 _) (heap_setCell_same _ _ 0 _ _ _ HR3.out) (by decide) 1 _, (HW3.out.fault HR3.out (Nat.le_succ _) _ _).drew⟩
        · have hfg : fixG qq ⟨L, S, k1, t1⟩ = ⟨L, S, k1, t1⟩ := by
            unfold fixG emptyP
            cases L with
            | cons x r => simp
            | nil =>
              cases qq with
              | false => simp
              | true =>
                have : (k1 == 0) = false := by simpa using fun e => hfix ⟨rfl, rfl, e⟩
                simp [this]
          have HFG := Lib.hid hfg
          clear hfg
          by_cases hL : L.length = 0
          · have hoz : (w2.alloc (.cells #[.int .i64 k1, .string t1] 36)).ownsRow w.heap.size 69 3 (.slice a2 0 c2) L.length (pcells L) := by
              have h := HOa.out
              rwa [show Value.slice a2 L.length c2 = Value.slice a2 0 c2 by rw [hL]] at h
            have HOz := Lib.hid hoz
            clear hoz
            simp only [hL]
            cases qq with
            | false =>
              go_wp2_with fail
              go_region
              go_wp2_with fail
              rw [← HG.out, HFG.out]
              exact bodyPost_ret (results_tmp_row rfl _ _ (w.heap.size + 1) _ _ _ _ rfl (put2d HRa.out _ _) Tryz.underlying36 rfl (by kernel_rfl)) rfl ⟨mv2, _, rfl, World.ownsRow.drew (own_set (own_set HOz.out HRa.out (by decide) 0 _) (heap_setCell_same _ _ 0 _ _ _ HRa.out) (by decide) 1 _), (HWa.out.fault HRa.out (Nat.le_succ _) _ _).drew⟩
            | true =>
              have hk : ¬ k1 = 0 := fun e => hfix ⟨List.length_eq_zero_iff.1 hL, rfl, e⟩
              clear hfix
              go_wp2_with fail
              go_region
              go_wp2_with fail
              rw [← HG.out, HFG.out]
              exact bodyPost_ret (results_tmp_row rfl _ _ (w.heap.size + 1) _ _ _ _ rfl (put2d HRa.out _ _) Tryz.underlying36 rfl (by kernel_rfl)) rfl ⟨mv2, _, rfl, World.ownsRow.drew (own_set (own_set HOz.out HRa.out (by decide) 0 _) (heap_setCell_same _ _ 0 _ _ _ HRa.out) (by decide) 1 _), (HWa.out.fault HRa.out (Nat.le_succ _) _ _).drew⟩
          · clear hfix
            have hpos : 0 < L.length := by omega
            go_wp2_with fail
            go_region
            go_wp2_with fail
            rw [← HG.out, HFG.out]
            exact bodyPost_ret (results_tmp_row rfl _ _ (w.heap.size + 1) _ _ _ _ rfl (put2d HRa.out _ _) Tryz.underlying36 rfl (by kernel_rfl)) rfl ⟨mv2, _, rfl, World.ownsRow.drew (own_set (own_set HOa.out HRa.out (by decide) 0 _) (heap_setCell_same _ _ 0 _ _ _ HRa.out) (by decide) 1 _), (HWa.out.fault HRa.out (Nat.le_succ _) _ _).drew⟩
end Ex
end Go.Proofs.YtoneabcbeikkhaaGreatDoor
