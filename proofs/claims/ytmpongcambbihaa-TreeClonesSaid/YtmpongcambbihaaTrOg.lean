/- Clone, for all nodes. -/
import Derived.Test.YtmpongcambbihaaTrOf
namespace Go.Proofs.Ytmpongcambbihaa
open Go.RowKit Go.Sort
namespace Ow
open Cls Pt Tr

set_option maxHeartbeats 4000000 in
set_option maxRecDepth 100000 in
theorem cloneCase_any (n : Nat) (hC : CloneN n) (ps : List PL) (bd : NL) (x1 : Option Addr) (d1 : Nat) (x2 : Option Addr) (d2 : Nat) (w : World) (h1 : Sl 1 (PW w) x1 d1 ps) (h2 : NLies w x2 d2 bd) (hok : NL.okN bd true = true) (hsz : bd.size ≤ n) (hps : ∀ x ∈ ps, x.size ≤ M) (hpl : ps.length ≤ 1000000) (htt : totN bd ≤ 1000000) :
    Calls Try.prog 20 #[.agg #[.slice x1 ps.length d1, .slice x2 bd.len d2]] w fun e w' => ∃ y1 i1 y2 i2, e = .returned (.agg #[.slice y1 ps.length i1, .slice y2 bd.len i2]) ∧ Below w.heap.size w w' ∧ Gives (ECof (EN (n + 1))) w w' [.slice y1 ps.length i1, .slice y2 bd.len i2] (ps, bd) := by
  have hbl := Nat.le_trans (len_tot bd) htt
  have HP := Lib.hid (fun W (hb : Below w.heap.size w W) => copied_words ps x1 d1 W (sl_below (P := PW) (fun h => h.below hb) h1) hpl hps)
  have HQ := Lib.hid (fun W (hb : Below w.heap.size w W) => copied_nodes n hC bd x2 d2 W (h2.below hb) hbl hok hsz htt)
  clear h1 h2 hok hsz hps hpl htt hC hbl
  have hb0 := bel2 w (.cells #[.slice x1 ps.length d1, .slice x2 bd.len d2] 44) (.cells #[.slice none 0 0, .slice none 0 0] 44)
  have hr1 : ((w.alloc (.cells #[.slice x1 ps.length d1, .slice x2 bd.len d2] 44)).alloc (.cells #[.slice none 0 0, .slice none 0 0] 44)).heap[w.heap.size]? = some (.cells #[.slice x1 ps.length d1, .slice x2 bd.len d2] 44 (0, 0)) := (Below.heap_alloc _ _ _ (by simp)).trans (heap_new' _ _)
  have hr2 : ((w.alloc (.cells #[.slice x1 ps.length d1, .slice x2 bd.len d2] 44)).alloc (.cells #[.slice none 0 0, .slice none 0 0] 44)).heap[w.heap.size + 1]? = some (.cells #[.slice none 0 0, .slice none 0 0] 44 (0, 0)) := by
    have := heap_new' (w.alloc (.cells #[.slice x1 ps.length d1, .slice x2 bd.len d2] 44)) (.cells #[.slice none 0 0, .slice none 0 0] 44)
    rwa [World.size_alloc] at this
  have hz0 : ((w.alloc (.cells #[.slice x1 ps.length d1, .slice x2 bd.len d2] 44)).alloc (.cells #[.slice none 0 0, .slice none 0 0] 44)).heap.size = w.heap.size + 2 := by simp
  go_enter Try.func20, Try.ntmps20
  go_wp2_with fail
  generalize ((w.alloc (.cells #[.slice x1 ps.length d1, .slice x2 bd.len d2] 44)).alloc (.cells #[.slice none 0 0, .slice none 0 0] 44)) = W0 at hb0 hr1 hr2 hz0 ⊢
  have HB0 := Lib.hid hb0; have HR0 := Lib.hid hr1; have HZ0 := Lib.hid hr2; have S0 := Lib.hid (show w.heap.size + 2 ≤ W0.heap.size by omega)
  clear hb0 hr1 hr2 hz0
  refine (HP.out _ HB0.out).mono ?_
  rintro e w0 ⟨y1, i1, rfl, hb0, how⟩
  have hs : w.heap.size + 2 ≤ w0.heap.size := Nat.le_trans S0.out hb0.size
  have hr1 : w0.heap[w.heap.size]? = some (.cells #[.slice x1 ps.length d1, .slice x2 bd.len d2] 44 (0, 0)) := (hb0.block _ (by have := S0.out; omega)).trans HR0.out
  have hr2 : w0.heap[w.heap.size + 1]? = some (.cells #[.slice none 0 0, .slice none 0 0] 44 (0, 0)) := (hb0.block _ (by have := S0.out; omega)).trans HZ0.out
  have p0 : w0.cell? ⟨w.heap.size, 0, none⟩ = some (.slice x1 ps.length d1) := Lib.cell_of_heap hr1 0
  have p1 : w0.cell? ⟨w.heap.size, 1, none⟩ = some (.slice x2 bd.len d2) := Lib.cell_of_heap hr1 1
  have pf : w0.frozen? ⟨w.heap.size, 0, none⟩ = false := frozen_of_row _ _ _ _ _ hr1
  have hst : ∃ Wm, w0.setCell ⟨w.heap.size, 0, none⟩ (.slice y1 ps.length i1) = Wm ∧ Wm.heap[w.heap.size]? = some (.cells #[.slice y1 ps.length i1, .slice x2 bd.len d2] 44 (0, 0)) ∧ Wm.heap[w.heap.size + 1]? = some (.cells #[.slice none 0 0, .slice none 0 0] 44 (0, 0)) ∧ Below w.heap.size w Wm ∧ (∀ c, c ≠ w.heap.size → Wm.heap[c]? = w0.heap[c]?) ∧ Wm.heap.size = w0.heap.size :=
    ⟨_, rfl, heap_setCell_same _ _ 0 _ _ (.slice y1 ps.length i1) hr1, (heap_setCell_other _ _ _ _ (by show w.heap.size + 1 ≠ w.heap.size; omega)).trans hr2, (thru HB0.out hb0).setCell (Nat.le_refl _) _, fun c hc => heap_setCell_other _ _ _ _ hc, by simp⟩
  obtain ⟨W1, hW1, hm0, hm1, hm2, hm3, hm4⟩ := hst
  have hsz := S0.out
  have o0 := how.keep stable_EW (w' := W1) fun c h1 h2 => hm3 c (by omega)
  rw [← hm4] at o0
  have HW1 := Lib.hid hW1; have HB1 := Lib.hid hm2; have HR1 := Lib.hid hm0; have HZ1 := Lib.hid hm1; have S1 := Lib.hid (show w.heap.size + 2 ≤ W1.heap.size by omega)
  have L0 := Lib.hid hsz; have hbs0 := hb0.size
  have U0 := Lib.hid (show W1.heap.size ≤ W1.heap.size from Nat.le_refl _)
  have OR0 := Lib.hid o0; clear o0
  clear hm0 hm1 hm2 hm3 hm4 hW1 hr1 hr2 hs hsz hbs0 how
  go_wp2_with fail
  rw [HW1.out]
  clear p0 p1 pf hb0 HW1
  refine (HQ.out _ HB1.out).mono ?_
  rintro e w1 ⟨y2, i2, rfl, hb1, how⟩
  have hs : w.heap.size + 2 ≤ w1.heap.size := Nat.le_trans S1.out hb1.size
  have hr1 : w1.heap[w.heap.size]? = some (.cells #[.slice y1 ps.length i1, .slice x2 bd.len d2] 44 (0, 0)) := (hb1.block _ (by have := S1.out; omega)).trans HR1.out
  have hr2 : w1.heap[w.heap.size + 1]? = some (.cells #[.slice none 0 0, .slice none 0 0] 44 (0, 0)) := (hb1.block _ (by have := S1.out; omega)).trans HZ1.out
  have p0 : w1.cell? ⟨w.heap.size, 0, none⟩ = some (.slice y1 ps.length i1) := Lib.cell_of_heap hr1 0
  have p1 : w1.cell? ⟨w.heap.size, 1, none⟩ = some (.slice x2 bd.len d2) := Lib.cell_of_heap hr1 1
  have pf : w1.frozen? ⟨w.heap.size, 1, none⟩ = false := frozen_of_row _ _ _ _ _ hr1
  have c0 : w1.cell? ⟨w.heap.size + 1, 0, none⟩ = some (.slice none 0 0) := Lib.cell_of_heap hr2 0
  have f0 : w1.frozen? ⟨w.heap.size + 1, 0, none⟩ = false := frozen_of_row _ _ _ _ _ hr2
  have c1 : w1.cell? ⟨w.heap.size + 1, 1, none⟩ = some (.slice none 0 0) := Lib.cell_of_heap hr2 1
  have f1 : w1.frozen? ⟨w.heap.size + 1, 1, none⟩ = false := frozen_of_row _ _ _ _ _ hr2
  have hst : ∃ Wm, w1.setCell ⟨w.heap.size, 1, none⟩ (.slice y2 bd.len i2) = Wm ∧ Wm.heap[w.heap.size]? = some (.cells #[.slice y1 ps.length i1, .slice y2 bd.len i2] 44 (0, 0)) ∧ Wm.heap[w.heap.size + 1]? = some (.cells #[.slice none 0 0, .slice none 0 0] 44 (0, 0)) ∧ Below w.heap.size w Wm ∧ (∀ c, c ≠ w.heap.size → Wm.heap[c]? = w1.heap[c]?) ∧ Wm.heap.size = w1.heap.size :=
    ⟨_, rfl, heap_setCell_same _ _ 1 _ _ (.slice y2 bd.len i2) hr1, (heap_setCell_other _ _ _ _ (by show w.heap.size + 1 ≠ w.heap.size; omega)).trans hr2, (thru HB1.out hb1).setCell (Nat.le_refl _) _, fun c hc => heap_setCell_other _ _ _ _ hc, by simp⟩
  obtain ⟨W2, hW2, hm0, hm1, hm2, hm3, hm4⟩ := hst
  have hsz := S1.out
  have o1 := how.keep (stable_EN (n + 1)) (w' := W2) fun c h1 h2 => hm3 c (by omega)
  rw [← hm4] at o1
  have o0 := OR0.out.keep stable_EW (w' := W2) fun c h1 h2 => by
    have i1 := L0.out; have i2 := U0.out
    rw [hm3 c (by omega)]; exact hb1.block c (by omega)
  have HW2 := Lib.hid hW2; have HB2 := Lib.hid hm2; have HR2 := Lib.hid hm0; have HZ2 := Lib.hid hm1; have S2 := Lib.hid (show w.heap.size + 2 ≤ W2.heap.size by omega)
  have L1 := Lib.hid hsz; have hbs1 := hb1.size
  have U0' := Lib.hid (show W1.heap.size ≤ W2.heap.size by have := U0.out; omega)
  clear U0; have U0 := U0'; clear U0'
  have U1 := Lib.hid (show W2.heap.size ≤ W2.heap.size from Nat.le_refl _)
  clear OR0; have OR0 := Lib.hid o0; clear o0
  have OR1 := Lib.hid o1; clear o1
  have hs5 := stored2 w.heap.size w W2 (w.heap.size + 1) (.slice y1 ps.length i1) (.slice y2 bd.len i2) _ _ _ hm1 hm2 (by omega)
  rw [← hW2] at hs5
  have HS5 := Lib.hid hs5; have HM4 := Lib.hid hm4
  clear hs5 hm0 hm1 hm2 hm3 hm4 hW2 hr1 hr2 hs hsz hbs1 hb1 how
  go_wp2_with fail
  obtain ⟨g1, g2, g3, g4⟩ := HS5.out
  have g4' := g4.trans (congrArg (fun W : World => W.heap.size) HW2.out)
  have g3' := fun c h => (g3 c h).trans (congrArg (fun W : World => W.heap[c]?) HW2.out)
  refine bodyPost_ret (results_cell_row rfl _ _ (w.heap.size + 1) _ _ _ _ rfl g1 Try.underlying44 rfl (by kernel_rfl)) rfl ?_
  refine ⟨y1, i1, y2, i2, rfl, g2, ?_⟩
  intro z2 b p hc hk
  rw [g4'] at hk ⊢
  have e0 := OR0.out.keep stable_EW (w' := z2) fun c h1 h2 => by
    have i1 := L0.out; have i2 := U0.out; have i3 := S2.out; have i0 := S0.out
    rw [hk c (by omega) (by omega), g3' c (by omega)]
  have e1 := OR1.out.keep (stable_EN (n + 1)) (w' := z2) fun c h1 h2 => by
    have i1 := L1.out; have i2 := U1.out; have i3 := S2.out; have i0 := S0.out
    rw [hk c (by omega) (by omega), g3' c (by omega)]
  have i0 := S0.out
  exact ⟨W1.heap.size, y1, i1, y2, i2, hc 0 _ rfl, hc 1 _ rfl, e0.low (by omega), e1⟩

set_option maxHeartbeats 1600000 in
set_option maxRecDepth 100000 in
theorem copied_cases (n : Nat) (hC : CloneN n) (l : NL) (a : Option Addr) (cap : Nat) (w : World) (hl : NLies w a cap l) (hln : l.len ≤ 1000000) (hok : NL.okN l false = true) (hsz : l.size ≤ n) (htt : totN l ≤ 1000000) :
    Calls Try.prog 19 #[.slice a l.len cap, .func (.func 20) #[] #[]] w (fun e w' => ∃ a' cap', e = .returned (.slice a' l.len cap') ∧ Below w.heap.size w w' ∧ OwnR 2 (ECof (EN (n + 1))) (caseAt l) w' w.heap.size w'.heap.size a' cap' l.len) := by
  have hle := hl.le
  cases a with
  | none =>
    have hnz : l.len = 0 := by rw [nil_of_none hl]; rfl
    have hnil := fun w => Lib.run_eql_slice_nil (P := Try.prog) w 26 44 none 0 cap 0 0 Try.underlying26
    have HZ := Lib.hid hnz
    rw [hnz]
    clear hl hnz hle hln hok hsz htt hC
    go_enter Try.func19, Try.ntmps19
    go_wp2_with fail
    go_ret
    exact ⟨none, 0, rfl, Below.refl _ _, Nat.le_refl _, Nat.zero_le _, Nat.le_refl _, .inl rfl⟩
  | some ad =>
    have hnil := fun w => Lib.run_eql_slice_nil (P := Try.prog) w 26 44 (some ad) l.len cap 0 0 Try.underlying26
    simp only [Option.isNone_some] at hnil
    obtain ⟨row, hrow, hmk⟩ := make_cases l.len hln
    have HL := Lib.hid hl; have HR := Lib.hid hrow; have HLN := Lib.hid hln
    have HOK := Lib.hid hok; have HSZ := Lib.hid hsz; have HTT := Lib.hid htt; have HC := Lib.hid hC
    clear hok hsz htt hC
    clear hl hrow
    go_enter Try.func19, Try.ntmps19
    go_wp2_with fail
    go_loopw [15] (fun x wr => ∃ (j : Nat) (ms : Nat → Nat), j ≤ l.len ∧ x = .int .i64 j ∧ Below w.heap.size w wr ∧ Done 2 (ECof (EN (n + 1))) (caseAt l) wr w.heap.size j ms ∧ ms j ≤ wr.heap.size ∧ ∃ row' : Array Value, row'.size = l.len * 2 ∧ wr.heap[w.heap.size]? = some (.cells row' 44 (0, 0))) (fun x wr => l.len - (intOf x).toNat)
    case atStart => exact ⟨0, fun _ => w.heap.size + 1, Nat.zero_le _, rfl, bel1 _ _, Done.zero _ _, by simp, row, HR.out, heap_new' _ _⟩
    case round =>
      obtain ⟨j, ms, hj, rfl, hb, hdn, hms, row', hrow', hrb⟩ := hrel
      have HW := Lib.hid hb; have HD := Lib.hid hdn; have HMS := Lib.hid hms; have HRS := Lib.hid hrow'; have HRB := Lib.hid hrb
      clear hb hdn hms hrow' hrb hmk
      by_cases hlt : j < l.len
      · obtain ⟨ps, bd, r1, hd1⟩ := NL.drop_case hlt HOK.out
        obtain ⟨b1, o1, hae, _, x1, q1, x2, q2, c10, c11, s1, n1, k1⟩ := (HL.out.below HW.out).getC HOK.out hd1
        cases hae
        have hsz1 : bd.size ≤ n := by
          have := NL.drop_size j l
          rw [hd1] at this
          simp only [NL.size] at this
          have := HSZ.out
          omega
        have htt1 : wsB ps + totN bd ≤ 1000000 := by
          have := tot_drop j l
          rw [hd1] at this
          simp only [totN] at this
          have := HTT.out
          omega
        have hps : ∀ x ∈ ps, x.size ≤ M := fun x hx => by have h1 := wsB_mem hx; have h2 := size_bytes x; unfold M; omega
        have hpl : ps.length ≤ 1000000 := by have := wsB_len ps; omega
        have HGET := Lib.hid (caseAt_drop hd1); have HS1 := Lib.hid hsz1; have HT1 := Lib.hid (show totN bd ≤ 1000000 by omega); have HPS := Lib.hid hps; have HPL := Lib.hid hpl; have HN1 := Lib.hid n1; have HK1 := Lib.hid k1; have HS := Lib.hid s1
        clear s1 n1 k1 hd1 hsz1 htt1 hps hpl
        go_wp2_with fail
        refine (cloneCase_any n HC.out ps bd x1 q1 x2 q2 (wr.alloc (.cells #[.slice x1 ps.length q1, .slice x2 bd.len q2] 44)) (sl_below (P := PW) (fun h => h.below (bel1 wr (.cells #[.slice x1 ps.length q1, .slice x2 bd.len q2] 44))) HS.out) (HN1.out.below (bel1 wr (.cells #[.slice x1 ps.length q1, .slice x2 bd.len q2] 44))) HK1.out HS1.out HPS.out HPL.out HT1.out).mono ?_
        rintro e w2 ⟨y1, i1, y2, i2, rfl, hb2, hgv⟩
        have hBl : w.heap.size < wr.heap.size := (Array.getElem?_eq_some_iff.1 HRB.out).1
        have hRw : w2.heap[w.heap.size]? = some (.cells row' 44 (0, 0)) := (hb2.block _ (Nat.lt_of_lt_of_le hBl (bel1 wr (.cells #[.slice x1 ps.length q1, .slice x2 bd.len q2] 44)).size)).trans (((bel1 wr (.cells #[.slice x1 ps.length q1, .slice x2 bd.len q2] 44)).block _ hBl).trans HRB.out)
        have rowk : ∀ i, i < 2 → ∃ x, w2.cell? ⟨w.heap.size, j * 2 + i, none⟩ = some x := fun i hi => ⟨row'[j * 2 + i]'(by rw [HRS.out]; omega), (Lib.cell_of_heap hRw _).trans (by simp)⟩
        have rf : ∀ i, w2.frozen? ⟨w.heap.size, i, none⟩ = false := fun i => frozen_of_row _ _ _ _ _ hRw
        obtain ⟨z0, e0⟩ := rowk 0 (by omega)
        obtain ⟨z1, e1⟩ := rowk 1 (by omega)
        have f0 := rf (j * 2)
        have f1 := rf (j * 2 + 1)
        rw [Nat.add_zero] at e0
        have hrd := round (stable_EC (stable_EN (n + 1))) HD.out HMS.out HW.out HRB.out HRS.out hlt (bel1 wr (.cells #[.slice x1 ps.length q1, .slice x2 bd.len q2] 44)) hb2 (vs := [.slice y1 ps.length i1, .slice y2 bd.len i2]) rfl HGET.out hgv
        have HRD := Lib.hid hrd
        clear hb2 hgv hRw rowk rf hrd
        go_wp2_with fail
        obtain ⟨W, hW, hWb, hWr, ms', hm', hWd⟩ := HRD.out
        have hW' : ((w2.setCell ⟨w.heap.size, j * 2, none⟩ (.slice y1 ps.length i1)).setCell ⟨w.heap.size, j * 2 + 1, none⟩ (.slice y2 bd.len i2)) = W := by rw [← hW]; rfl
        go_roundw
        case rel => exact ⟨j + 1, ms', by omega, by go_num, by rw [hW']; exact hWb, by rw [hW']; exact hWd, by rw [hW']; exact hm', by rw [hW']; exact hWr⟩
        case measure => simp [intOf]; omega
      · obtain rfl : j = l.len := by omega
        go_wp2_with fail
        go_ret
        have hs := HW.out.size
        have hBl := (Array.getElem?_eq_some_iff.1 HRB.out).1
        exact ⟨some ⟨w.heap.size, 0, none⟩, l.len, rfl, HW.out, Nat.le_refl _, by unfold R; omega, hs, .inr ⟨w.heap.size, ms, rfl, Nat.le_refl _, hBl, HMS.out, ⟨row', _, HRB.out⟩, HD.out⟩⟩

set_option maxHeartbeats 4000000 in
set_option maxRecDepth 100000 in
theorem clone_step (n : Nat) (hC : CloneN n) (k : Int) (nm : ByteArray) (g : Bool) (az : List (ByteArray × PL)) (ws : List PL) (ks : NL) (bs : List Bool) (cz : NL) (x1 : Option Addr) (d1 : Nat) (x2 : Option Addr) (d2 : Nat) (x3 : Option Addr) (d3 : Nat) (x4 : Option Addr) (d4 : Nat) (x5 : Option Addr) (d5 : Nat) (w : World) (hsz : ks.size + cz.size < n + 1) (htt : totX nm az ws ks bs cz ≤ 1000000) (h : Holds w nm az ws ks bs cz x1 d1 x2 d2 x3 d3 x4 d4 x5 d5) :
    Calls Try.prog 6 #[.agg #[.int .i64 k, .string nm, .bool g, .slice x1 az.length d1, .slice x2 ws.length d2, .slice x3 ks.len d3, .slice x4 bs.length d4, .slice x5 cz.len d5]] w fun e w' => ∃ y1 i1 y2 i2 y3 i3 y4 i4 y5 i5, e = .returned (.agg #[.int .i64 k, .string nm, .bool g, .slice y1 az.length i1, .slice y2 ws.length i2, .slice y3 ks.len i3, .slice y4 bs.length i4, .slice y5 cz.len i5]) ∧ Below w.heap.size w w' ∧ Gives (EN (n + 1 + 1)) w w' [.int .i64 k, .string nm, .bool g, .slice y1 az.length i1, .slice y2 ws.length i2, .slice y3 ks.len i3, .slice y4 bs.length i4, .slice y5 cz.len i5] ⟨k, nm, g, az, ws, ks, bs, cz⟩ := by
  unfold totX at htt
  have haz : ∀ x ∈ az, x.2.size ≤ M := fun x hx => by have h1 := azB_mem hx; have h2 := size_bytes x.2; unfold M; omega
  have hws : ∀ x ∈ ws, x.size ≤ M := fun x hx => by have h1 := wsB_mem hx; have h2 := size_bytes x; unfold M; omega
  have l1 := azB_len az; have l2 := wsB_len ws; have l3 := len_tot ks; have l5 := len_tot cz
  have hnm := h.hnm
  have H1 := Lib.hid (fun W (hb : Below w.heap.size w W) => copied_assigns az x1 d1 W (sl_below (P := PA) (fun h => h.below hb) h.haz) (by omega) haz)
  have H2 := Lib.hid (fun W (hb : Below w.heap.size w W) => copied_words ws x2 d2 W (sl_below (P := PW) (fun h => h.below hb) h.hws) (by omega) hws)
  have H3 := Lib.hid (fun W (hb : Below w.heap.size w W) => copied_nodes n hC ks x3 d3 W (h.hks.below hb) (by omega) h.okk (by omega) (by omega))
  have H4 := Lib.hid (fun W (hb : Below w.heap.size w W) => copied_bools bs x4 d4 W (sl_below (P := PB) (fun h => h.below hb) h.hbs) (by omega))
  have H5 := Lib.hid (fun W (hb : Below w.heap.size w W) => copied_cases n hC cz x5 d5 W (h.hcs.below hb) (by omega) h.okc (by omega) (by omega))
  clear hsz htt h haz hws l1 l2 l3 l5 hC
  have hb0 := bel2 w (.cells #[.int .i64 k, .string nm, .bool g, .slice x1 az.length d1, .slice x2 ws.length d2, .slice x3 ks.len d3, .slice x4 bs.length d4, .slice x5 cz.len d5] 28) (.cells #[.int .i64 0, .string ⟨#[]⟩, .bool false, .slice none 0 0, .slice none 0 0, .slice none 0 0, .slice none 0 0, .slice none 0 0] 28)
  have hr1 : ((w.alloc (.cells #[.int .i64 k, .string nm, .bool g, .slice x1 az.length d1, .slice x2 ws.length d2, .slice x3 ks.len d3, .slice x4 bs.length d4, .slice x5 cz.len d5] 28)).alloc (.cells #[.int .i64 0, .string ⟨#[]⟩, .bool false, .slice none 0 0, .slice none 0 0, .slice none 0 0, .slice none 0 0, .slice none 0 0] 28)).heap[w.heap.size]? = some (.cells #[.int .i64 k, .string nm, .bool g, .slice x1 az.length d1, .slice x2 ws.length d2, .slice x3 ks.len d3, .slice x4 bs.length d4, .slice x5 cz.len d5] 28 (0, 0)) := (Below.heap_alloc _ _ _ (by simp)).trans (heap_new' _ _)
  have hr2 : ((w.alloc (.cells #[.int .i64 k, .string nm, .bool g, .slice x1 az.length d1, .slice x2 ws.length d2, .slice x3 ks.len d3, .slice x4 bs.length d4, .slice x5 cz.len d5] 28)).alloc (.cells #[.int .i64 0, .string ⟨#[]⟩, .bool false, .slice none 0 0, .slice none 0 0, .slice none 0 0, .slice none 0 0, .slice none 0 0] 28)).heap[w.heap.size + 1]? = some (.cells #[.int .i64 0, .string ⟨#[]⟩, .bool false, .slice none 0 0, .slice none 0 0, .slice none 0 0, .slice none 0 0, .slice none 0 0] 28 (0, 0)) := by
    have := heap_new' (w.alloc (.cells #[.int .i64 k, .string nm, .bool g, .slice x1 az.length d1, .slice x2 ws.length d2, .slice x3 ks.len d3, .slice x4 bs.length d4, .slice x5 cz.len d5] 28)) (.cells #[.int .i64 0, .string ⟨#[]⟩, .bool false, .slice none 0 0, .slice none 0 0, .slice none 0 0, .slice none 0 0, .slice none 0 0] 28)
    rwa [World.size_alloc] at this
  have hz0 : ((w.alloc (.cells #[.int .i64 k, .string nm, .bool g, .slice x1 az.length d1, .slice x2 ws.length d2, .slice x3 ks.len d3, .slice x4 bs.length d4, .slice x5 cz.len d5] 28)).alloc (.cells #[.int .i64 0, .string ⟨#[]⟩, .bool false, .slice none 0 0, .slice none 0 0, .slice none 0 0, .slice none 0 0, .slice none 0 0] 28)).heap.size = w.heap.size + 2 := by simp
  go_enter Try.func6, Try.ntmps6
  go_wp2_with fail
  generalize ((w.alloc (.cells #[.int .i64 k, .string nm, .bool g, .slice x1 az.length d1, .slice x2 ws.length d2, .slice x3 ks.len d3, .slice x4 bs.length d4, .slice x5 cz.len d5] 28)).alloc (.cells #[.int .i64 0, .string ⟨#[]⟩, .bool false, .slice none 0 0, .slice none 0 0, .slice none 0 0, .slice none 0 0, .slice none 0 0] 28)) = W0 at hb0 hr1 hr2 hz0 ⊢
  have HB0 := Lib.hid hb0; have HR0 := Lib.hid hr1; have HZ0 := Lib.hid hr2; have S0 := Lib.hid (show w.heap.size + 2 ≤ W0.heap.size by omega)
  clear hb0 hr1 hr2 hz0
  refine (H1.out _ HB0.out).mono ?_
  rintro e w0 ⟨y1, i1, rfl, hb0, how⟩
  have hs : w.heap.size + 2 ≤ w0.heap.size := Nat.le_trans S0.out hb0.size
  have hr1 : w0.heap[w.heap.size]? = some (.cells #[.int .i64 k, .string nm, .bool g, .slice x1 az.length d1, .slice x2 ws.length d2, .slice x3 ks.len d3, .slice x4 bs.length d4, .slice x5 cz.len d5] 28 (0, 0)) := (hb0.block _ (by have := S0.out; omega)).trans HR0.out
  have hr2 : w0.heap[w.heap.size + 1]? = some (.cells #[.int .i64 0, .string ⟨#[]⟩, .bool false, .slice none 0 0, .slice none 0 0, .slice none 0 0, .slice none 0 0, .slice none 0 0] 28 (0, 0)) := (hb0.block _ (by have := S0.out; omega)).trans HZ0.out
  have p0 : w0.cell? ⟨w.heap.size, 0, none⟩ = some (.int .i64 k) := Lib.cell_of_heap hr1 0
  have p1 : w0.cell? ⟨w.heap.size, 1, none⟩ = some (.string nm) := Lib.cell_of_heap hr1 1
  have p2 : w0.cell? ⟨w.heap.size, 2, none⟩ = some (.bool g) := Lib.cell_of_heap hr1 2
  have p3 : w0.cell? ⟨w.heap.size, 3, none⟩ = some (.slice x1 az.length d1) := Lib.cell_of_heap hr1 3
  have p4 : w0.cell? ⟨w.heap.size, 4, none⟩ = some (.slice x2 ws.length d2) := Lib.cell_of_heap hr1 4
  have p5 : w0.cell? ⟨w.heap.size, 5, none⟩ = some (.slice x3 ks.len d3) := Lib.cell_of_heap hr1 5
  have p6 : w0.cell? ⟨w.heap.size, 6, none⟩ = some (.slice x4 bs.length d4) := Lib.cell_of_heap hr1 6
  have p7 : w0.cell? ⟨w.heap.size, 7, none⟩ = some (.slice x5 cz.len d5) := Lib.cell_of_heap hr1 7
  have pf : w0.frozen? ⟨w.heap.size, 3, none⟩ = false := frozen_of_row _ _ _ _ _ hr1
  have hst : ∃ Wm, w0.setCell ⟨w.heap.size, 3, none⟩ (.slice y1 az.length i1) = Wm ∧ Wm.heap[w.heap.size]? = some (.cells #[.int .i64 k, .string nm, .bool g, .slice y1 az.length i1, .slice x2 ws.length d2, .slice x3 ks.len d3, .slice x4 bs.length d4, .slice x5 cz.len d5] 28 (0, 0)) ∧ Wm.heap[w.heap.size + 1]? = some (.cells #[.int .i64 0, .string ⟨#[]⟩, .bool false, .slice none 0 0, .slice none 0 0, .slice none 0 0, .slice none 0 0, .slice none 0 0] 28 (0, 0)) ∧ Below w.heap.size w Wm ∧ (∀ c, c ≠ w.heap.size → Wm.heap[c]? = w0.heap[c]?) ∧ Wm.heap.size = w0.heap.size :=
    ⟨_, rfl, heap_setCell_same _ _ 3 _ _ (.slice y1 az.length i1) hr1, (heap_setCell_other _ _ _ _ (by show w.heap.size + 1 ≠ w.heap.size; omega)).trans hr2, (thru HB0.out hb0).setCell (Nat.le_refl _) _, fun c hc => heap_setCell_other _ _ _ _ hc, by simp⟩
  obtain ⟨W1, hW1, hm0, hm1, hm2, hm3, hm4⟩ := hst
  have hsz := S0.out
  have o0 := how.keep stable_EA (w' := W1) fun c h1 h2 => hm3 c (by omega)
  rw [← hm4] at o0
  have HW1 := Lib.hid hW1; have HB1 := Lib.hid hm2; have HR1 := Lib.hid hm0; have HZ1 := Lib.hid hm1; have S1 := Lib.hid (show w.heap.size + 2 ≤ W1.heap.size by omega)
  have L0 := Lib.hid hsz; have hbs0 := hb0.size
  have U0 := Lib.hid (show W1.heap.size ≤ W1.heap.size from Nat.le_refl _)
  have OR0 := Lib.hid o0; clear o0
  clear hm0 hm1 hm2 hm3 hm4 hW1 hr1 hr2 hs hsz hbs0 how
  go_wp2_with fail
  rw [HW1.out]
  clear p0 p1 p2 p3 p4 p5 p6 p7 pf hb0 HW1
  refine (H2.out _ HB1.out).mono ?_
  rintro e w1 ⟨y2, i2, rfl, hb1, how⟩
  have hs : w.heap.size + 2 ≤ w1.heap.size := Nat.le_trans S1.out hb1.size
  have hr1 : w1.heap[w.heap.size]? = some (.cells #[.int .i64 k, .string nm, .bool g, .slice y1 az.length i1, .slice x2 ws.length d2, .slice x3 ks.len d3, .slice x4 bs.length d4, .slice x5 cz.len d5] 28 (0, 0)) := (hb1.block _ (by have := S1.out; omega)).trans HR1.out
  have hr2 : w1.heap[w.heap.size + 1]? = some (.cells #[.int .i64 0, .string ⟨#[]⟩, .bool false, .slice none 0 0, .slice none 0 0, .slice none 0 0, .slice none 0 0, .slice none 0 0] 28 (0, 0)) := (hb1.block _ (by have := S1.out; omega)).trans HZ1.out
  have p0 : w1.cell? ⟨w.heap.size, 0, none⟩ = some (.int .i64 k) := Lib.cell_of_heap hr1 0
  have p1 : w1.cell? ⟨w.heap.size, 1, none⟩ = some (.string nm) := Lib.cell_of_heap hr1 1
  have p2 : w1.cell? ⟨w.heap.size, 2, none⟩ = some (.bool g) := Lib.cell_of_heap hr1 2
  have p3 : w1.cell? ⟨w.heap.size, 3, none⟩ = some (.slice y1 az.length i1) := Lib.cell_of_heap hr1 3
  have p4 : w1.cell? ⟨w.heap.size, 4, none⟩ = some (.slice x2 ws.length d2) := Lib.cell_of_heap hr1 4
  have p5 : w1.cell? ⟨w.heap.size, 5, none⟩ = some (.slice x3 ks.len d3) := Lib.cell_of_heap hr1 5
  have p6 : w1.cell? ⟨w.heap.size, 6, none⟩ = some (.slice x4 bs.length d4) := Lib.cell_of_heap hr1 6
  have p7 : w1.cell? ⟨w.heap.size, 7, none⟩ = some (.slice x5 cz.len d5) := Lib.cell_of_heap hr1 7
  have pf : w1.frozen? ⟨w.heap.size, 4, none⟩ = false := frozen_of_row _ _ _ _ _ hr1
  have hst : ∃ Wm, w1.setCell ⟨w.heap.size, 4, none⟩ (.slice y2 ws.length i2) = Wm ∧ Wm.heap[w.heap.size]? = some (.cells #[.int .i64 k, .string nm, .bool g, .slice y1 az.length i1, .slice y2 ws.length i2, .slice x3 ks.len d3, .slice x4 bs.length d4, .slice x5 cz.len d5] 28 (0, 0)) ∧ Wm.heap[w.heap.size + 1]? = some (.cells #[.int .i64 0, .string ⟨#[]⟩, .bool false, .slice none 0 0, .slice none 0 0, .slice none 0 0, .slice none 0 0, .slice none 0 0] 28 (0, 0)) ∧ Below w.heap.size w Wm ∧ (∀ c, c ≠ w.heap.size → Wm.heap[c]? = w1.heap[c]?) ∧ Wm.heap.size = w1.heap.size :=
    ⟨_, rfl, heap_setCell_same _ _ 4 _ _ (.slice y2 ws.length i2) hr1, (heap_setCell_other _ _ _ _ (by show w.heap.size + 1 ≠ w.heap.size; omega)).trans hr2, (thru HB1.out hb1).setCell (Nat.le_refl _) _, fun c hc => heap_setCell_other _ _ _ _ hc, by simp⟩
  obtain ⟨W2, hW2, hm0, hm1, hm2, hm3, hm4⟩ := hst
  have hsz := S1.out
  have o1 := how.keep stable_EW (w' := W2) fun c h1 h2 => hm3 c (by omega)
  rw [← hm4] at o1
  have o0 := OR0.out.keep stable_EA (w' := W2) fun c h1 h2 => by
    have i1 := L0.out; have i2 := U0.out
    rw [hm3 c (by omega)]; exact hb1.block c (by omega)
  have HW2 := Lib.hid hW2; have HB2 := Lib.hid hm2; have HR2 := Lib.hid hm0; have HZ2 := Lib.hid hm1; have S2 := Lib.hid (show w.heap.size + 2 ≤ W2.heap.size by omega)
  have L1 := Lib.hid hsz; have hbs1 := hb1.size
  have U0' := Lib.hid (show W1.heap.size ≤ W2.heap.size by have := U0.out; omega)
  clear U0; have U0 := U0'; clear U0'
  have U1 := Lib.hid (show W2.heap.size ≤ W2.heap.size from Nat.le_refl _)
  clear OR0; have OR0 := Lib.hid o0; clear o0
  have OR1 := Lib.hid o1; clear o1
  clear hm0 hm1 hm2 hm3 hm4 hW2 hr1 hr2 hs hsz hbs1 how
  go_wp2_with fail
  rw [HW2.out]
  clear p0 p1 p2 p3 p4 p5 p6 p7 pf hb1 HW2
  refine (H3.out _ HB2.out).mono ?_
  rintro e w2 ⟨y3, i3, rfl, hb2, how⟩
  have hs : w.heap.size + 2 ≤ w2.heap.size := Nat.le_trans S2.out hb2.size
  have hr1 : w2.heap[w.heap.size]? = some (.cells #[.int .i64 k, .string nm, .bool g, .slice y1 az.length i1, .slice y2 ws.length i2, .slice x3 ks.len d3, .slice x4 bs.length d4, .slice x5 cz.len d5] 28 (0, 0)) := (hb2.block _ (by have := S2.out; omega)).trans HR2.out
  have hr2 : w2.heap[w.heap.size + 1]? = some (.cells #[.int .i64 0, .string ⟨#[]⟩, .bool false, .slice none 0 0, .slice none 0 0, .slice none 0 0, .slice none 0 0, .slice none 0 0] 28 (0, 0)) := (hb2.block _ (by have := S2.out; omega)).trans HZ2.out
  have p0 : w2.cell? ⟨w.heap.size, 0, none⟩ = some (.int .i64 k) := Lib.cell_of_heap hr1 0
  have p1 : w2.cell? ⟨w.heap.size, 1, none⟩ = some (.string nm) := Lib.cell_of_heap hr1 1
  have p2 : w2.cell? ⟨w.heap.size, 2, none⟩ = some (.bool g) := Lib.cell_of_heap hr1 2
  have p3 : w2.cell? ⟨w.heap.size, 3, none⟩ = some (.slice y1 az.length i1) := Lib.cell_of_heap hr1 3
  have p4 : w2.cell? ⟨w.heap.size, 4, none⟩ = some (.slice y2 ws.length i2) := Lib.cell_of_heap hr1 4
  have p5 : w2.cell? ⟨w.heap.size, 5, none⟩ = some (.slice x3 ks.len d3) := Lib.cell_of_heap hr1 5
  have p6 : w2.cell? ⟨w.heap.size, 6, none⟩ = some (.slice x4 bs.length d4) := Lib.cell_of_heap hr1 6
  have p7 : w2.cell? ⟨w.heap.size, 7, none⟩ = some (.slice x5 cz.len d5) := Lib.cell_of_heap hr1 7
  have pf : w2.frozen? ⟨w.heap.size, 5, none⟩ = false := frozen_of_row _ _ _ _ _ hr1
  have hst : ∃ Wm, w2.setCell ⟨w.heap.size, 5, none⟩ (.slice y3 ks.len i3) = Wm ∧ Wm.heap[w.heap.size]? = some (.cells #[.int .i64 k, .string nm, .bool g, .slice y1 az.length i1, .slice y2 ws.length i2, .slice y3 ks.len i3, .slice x4 bs.length d4, .slice x5 cz.len d5] 28 (0, 0)) ∧ Wm.heap[w.heap.size + 1]? = some (.cells #[.int .i64 0, .string ⟨#[]⟩, .bool false, .slice none 0 0, .slice none 0 0, .slice none 0 0, .slice none 0 0, .slice none 0 0] 28 (0, 0)) ∧ Below w.heap.size w Wm ∧ (∀ c, c ≠ w.heap.size → Wm.heap[c]? = w2.heap[c]?) ∧ Wm.heap.size = w2.heap.size :=
    ⟨_, rfl, heap_setCell_same _ _ 5 _ _ (.slice y3 ks.len i3) hr1, (heap_setCell_other _ _ _ _ (by show w.heap.size + 1 ≠ w.heap.size; omega)).trans hr2, (thru HB2.out hb2).setCell (Nat.le_refl _) _, fun c hc => heap_setCell_other _ _ _ _ hc, by simp⟩
  obtain ⟨W3, hW3, hm0, hm1, hm2, hm3, hm4⟩ := hst
  have hsz := S2.out
  have o2 := how.keep (stable_EN (n + 1)) (w' := W3) fun c h1 h2 => hm3 c (by omega)
  rw [← hm4] at o2
  have o0 := OR0.out.keep stable_EA (w' := W3) fun c h1 h2 => by
    have i1 := L0.out; have i2 := U0.out
    rw [hm3 c (by omega)]; exact hb2.block c (by omega)
  have o1 := OR1.out.keep stable_EW (w' := W3) fun c h1 h2 => by
    have i1 := L1.out; have i2 := U1.out
    rw [hm3 c (by omega)]; exact hb2.block c (by omega)
  have HW3 := Lib.hid hW3; have HB3 := Lib.hid hm2; have HR3 := Lib.hid hm0; have HZ3 := Lib.hid hm1; have S3 := Lib.hid (show w.heap.size + 2 ≤ W3.heap.size by omega)
  have L2 := Lib.hid hsz; have hbs2 := hb2.size
  have U0' := Lib.hid (show W1.heap.size ≤ W3.heap.size by have := U0.out; omega)
  have U1' := Lib.hid (show W2.heap.size ≤ W3.heap.size by have := U1.out; omega)
  clear U0; have U0 := U0'; clear U0'
  clear U1; have U1 := U1'; clear U1'
  have U2 := Lib.hid (show W3.heap.size ≤ W3.heap.size from Nat.le_refl _)
  clear OR0; have OR0 := Lib.hid o0; clear o0
  clear OR1; have OR1 := Lib.hid o1; clear o1
  have OR2 := Lib.hid o2; clear o2
  clear hm0 hm1 hm2 hm3 hm4 hW3 hr1 hr2 hs hsz hbs2 how
  go_wp2_with fail
  rw [HW3.out]
  clear p0 p1 p2 p3 p4 p5 p6 p7 pf hb2 HW3
  refine (H4.out _ HB3.out).mono ?_
  rintro e w3 ⟨y4, i4, rfl, hb3, how⟩
  have hs : w.heap.size + 2 ≤ w3.heap.size := Nat.le_trans S3.out hb3.size
  have hr1 : w3.heap[w.heap.size]? = some (.cells #[.int .i64 k, .string nm, .bool g, .slice y1 az.length i1, .slice y2 ws.length i2, .slice y3 ks.len i3, .slice x4 bs.length d4, .slice x5 cz.len d5] 28 (0, 0)) := (hb3.block _ (by have := S3.out; omega)).trans HR3.out
  have hr2 : w3.heap[w.heap.size + 1]? = some (.cells #[.int .i64 0, .string ⟨#[]⟩, .bool false, .slice none 0 0, .slice none 0 0, .slice none 0 0, .slice none 0 0, .slice none 0 0] 28 (0, 0)) := (hb3.block _ (by have := S3.out; omega)).trans HZ3.out
  have p0 : w3.cell? ⟨w.heap.size, 0, none⟩ = some (.int .i64 k) := Lib.cell_of_heap hr1 0
  have p1 : w3.cell? ⟨w.heap.size, 1, none⟩ = some (.string nm) := Lib.cell_of_heap hr1 1
  have p2 : w3.cell? ⟨w.heap.size, 2, none⟩ = some (.bool g) := Lib.cell_of_heap hr1 2
  have p3 : w3.cell? ⟨w.heap.size, 3, none⟩ = some (.slice y1 az.length i1) := Lib.cell_of_heap hr1 3
  have p4 : w3.cell? ⟨w.heap.size, 4, none⟩ = some (.slice y2 ws.length i2) := Lib.cell_of_heap hr1 4
  have p5 : w3.cell? ⟨w.heap.size, 5, none⟩ = some (.slice y3 ks.len i3) := Lib.cell_of_heap hr1 5
  have p6 : w3.cell? ⟨w.heap.size, 6, none⟩ = some (.slice x4 bs.length d4) := Lib.cell_of_heap hr1 6
  have p7 : w3.cell? ⟨w.heap.size, 7, none⟩ = some (.slice x5 cz.len d5) := Lib.cell_of_heap hr1 7
  have pf : w3.frozen? ⟨w.heap.size, 6, none⟩ = false := frozen_of_row _ _ _ _ _ hr1
  have hst : ∃ Wm, w3.setCell ⟨w.heap.size, 6, none⟩ (.slice y4 bs.length i4) = Wm ∧ Wm.heap[w.heap.size]? = some (.cells #[.int .i64 k, .string nm, .bool g, .slice y1 az.length i1, .slice y2 ws.length i2, .slice y3 ks.len i3, .slice y4 bs.length i4, .slice x5 cz.len d5] 28 (0, 0)) ∧ Wm.heap[w.heap.size + 1]? = some (.cells #[.int .i64 0, .string ⟨#[]⟩, .bool false, .slice none 0 0, .slice none 0 0, .slice none 0 0, .slice none 0 0, .slice none 0 0] 28 (0, 0)) ∧ Below w.heap.size w Wm ∧ (∀ c, c ≠ w.heap.size → Wm.heap[c]? = w3.heap[c]?) ∧ Wm.heap.size = w3.heap.size :=
    ⟨_, rfl, heap_setCell_same _ _ 6 _ _ (.slice y4 bs.length i4) hr1, (heap_setCell_other _ _ _ _ (by show w.heap.size + 1 ≠ w.heap.size; omega)).trans hr2, (thru HB3.out hb3).setCell (Nat.le_refl _) _, fun c hc => heap_setCell_other _ _ _ _ hc, by simp⟩
  obtain ⟨W4, hW4, hm0, hm1, hm2, hm3, hm4⟩ := hst
  have hsz := S3.out
  have o3 := how.keep stable_EB (w' := W4) fun c h1 h2 => hm3 c (by omega)
  rw [← hm4] at o3
  have o0 := OR0.out.keep stable_EA (w' := W4) fun c h1 h2 => by
    have i1 := L0.out; have i2 := U0.out
    rw [hm3 c (by omega)]; exact hb3.block c (by omega)
  have o1 := OR1.out.keep stable_EW (w' := W4) fun c h1 h2 => by
    have i1 := L1.out; have i2 := U1.out
    rw [hm3 c (by omega)]; exact hb3.block c (by omega)
  have o2 := OR2.out.keep (stable_EN (n + 1)) (w' := W4) fun c h1 h2 => by
    have i1 := L2.out; have i2 := U2.out
    rw [hm3 c (by omega)]; exact hb3.block c (by omega)
  have HW4 := Lib.hid hW4; have HB4 := Lib.hid hm2; have HR4 := Lib.hid hm0; have HZ4 := Lib.hid hm1; have S4 := Lib.hid (show w.heap.size + 2 ≤ W4.heap.size by omega)
  have L3 := Lib.hid hsz; have hbs3 := hb3.size
  have U0' := Lib.hid (show W1.heap.size ≤ W4.heap.size by have := U0.out; omega)
  have U1' := Lib.hid (show W2.heap.size ≤ W4.heap.size by have := U1.out; omega)
  have U2' := Lib.hid (show W3.heap.size ≤ W4.heap.size by have := U2.out; omega)
  clear U0; have U0 := U0'; clear U0'
  clear U1; have U1 := U1'; clear U1'
  clear U2; have U2 := U2'; clear U2'
  have U3 := Lib.hid (show W4.heap.size ≤ W4.heap.size from Nat.le_refl _)
  clear OR0; have OR0 := Lib.hid o0; clear o0
  clear OR1; have OR1 := Lib.hid o1; clear o1
  clear OR2; have OR2 := Lib.hid o2; clear o2
  have OR3 := Lib.hid o3; clear o3
  clear hm0 hm1 hm2 hm3 hm4 hW4 hr1 hr2 hs hsz hbs3 how
  go_wp2_with fail
  rw [HW4.out]
  clear p0 p1 p2 p3 p4 p5 p6 p7 pf hb3 HW4
  refine (H5.out _ HB4.out).mono ?_
  rintro e w4 ⟨y5, i5, rfl, hb4, how⟩
  have hs : w.heap.size + 2 ≤ w4.heap.size := Nat.le_trans S4.out hb4.size
  have hr1 : w4.heap[w.heap.size]? = some (.cells #[.int .i64 k, .string nm, .bool g, .slice y1 az.length i1, .slice y2 ws.length i2, .slice y3 ks.len i3, .slice y4 bs.length i4, .slice x5 cz.len d5] 28 (0, 0)) := (hb4.block _ (by have := S4.out; omega)).trans HR4.out
  have hr2 : w4.heap[w.heap.size + 1]? = some (.cells #[.int .i64 0, .string ⟨#[]⟩, .bool false, .slice none 0 0, .slice none 0 0, .slice none 0 0, .slice none 0 0, .slice none 0 0] 28 (0, 0)) := (hb4.block _ (by have := S4.out; omega)).trans HZ4.out
  have p0 : w4.cell? ⟨w.heap.size, 0, none⟩ = some (.int .i64 k) := Lib.cell_of_heap hr1 0
  have p1 : w4.cell? ⟨w.heap.size, 1, none⟩ = some (.string nm) := Lib.cell_of_heap hr1 1
  have p2 : w4.cell? ⟨w.heap.size, 2, none⟩ = some (.bool g) := Lib.cell_of_heap hr1 2
  have p3 : w4.cell? ⟨w.heap.size, 3, none⟩ = some (.slice y1 az.length i1) := Lib.cell_of_heap hr1 3
  have p4 : w4.cell? ⟨w.heap.size, 4, none⟩ = some (.slice y2 ws.length i2) := Lib.cell_of_heap hr1 4
  have p5 : w4.cell? ⟨w.heap.size, 5, none⟩ = some (.slice y3 ks.len i3) := Lib.cell_of_heap hr1 5
  have p6 : w4.cell? ⟨w.heap.size, 6, none⟩ = some (.slice y4 bs.length i4) := Lib.cell_of_heap hr1 6
  have p7 : w4.cell? ⟨w.heap.size, 7, none⟩ = some (.slice x5 cz.len d5) := Lib.cell_of_heap hr1 7
  have pf : w4.frozen? ⟨w.heap.size, 7, none⟩ = false := frozen_of_row _ _ _ _ _ hr1
  have c0 : w4.cell? ⟨w.heap.size + 1, 0, none⟩ = some (.int .i64 0) := Lib.cell_of_heap hr2 0
  have f0 : w4.frozen? ⟨w.heap.size + 1, 0, none⟩ = false := frozen_of_row _ _ _ _ _ hr2
  have c1 : w4.cell? ⟨w.heap.size + 1, 1, none⟩ = some (.string ⟨#[]⟩) := Lib.cell_of_heap hr2 1
  have f1 : w4.frozen? ⟨w.heap.size + 1, 1, none⟩ = false := frozen_of_row _ _ _ _ _ hr2
  have c2 : w4.cell? ⟨w.heap.size + 1, 2, none⟩ = some (.bool false) := Lib.cell_of_heap hr2 2
  have f2 : w4.frozen? ⟨w.heap.size + 1, 2, none⟩ = false := frozen_of_row _ _ _ _ _ hr2
  have c3 : w4.cell? ⟨w.heap.size + 1, 3, none⟩ = some (.slice none 0 0) := Lib.cell_of_heap hr2 3
  have f3 : w4.frozen? ⟨w.heap.size + 1, 3, none⟩ = false := frozen_of_row _ _ _ _ _ hr2
  have c4 : w4.cell? ⟨w.heap.size + 1, 4, none⟩ = some (.slice none 0 0) := Lib.cell_of_heap hr2 4
  have f4 : w4.frozen? ⟨w.heap.size + 1, 4, none⟩ = false := frozen_of_row _ _ _ _ _ hr2
  have c5 : w4.cell? ⟨w.heap.size + 1, 5, none⟩ = some (.slice none 0 0) := Lib.cell_of_heap hr2 5
  have f5 : w4.frozen? ⟨w.heap.size + 1, 5, none⟩ = false := frozen_of_row _ _ _ _ _ hr2
  have c6 : w4.cell? ⟨w.heap.size + 1, 6, none⟩ = some (.slice none 0 0) := Lib.cell_of_heap hr2 6
  have f6 : w4.frozen? ⟨w.heap.size + 1, 6, none⟩ = false := frozen_of_row _ _ _ _ _ hr2
  have c7 : w4.cell? ⟨w.heap.size + 1, 7, none⟩ = some (.slice none 0 0) := Lib.cell_of_heap hr2 7
  have f7 : w4.frozen? ⟨w.heap.size + 1, 7, none⟩ = false := frozen_of_row _ _ _ _ _ hr2
  have hst : ∃ Wm, w4.setCell ⟨w.heap.size, 7, none⟩ (.slice y5 cz.len i5) = Wm ∧ Wm.heap[w.heap.size]? = some (.cells #[.int .i64 k, .string nm, .bool g, .slice y1 az.length i1, .slice y2 ws.length i2, .slice y3 ks.len i3, .slice y4 bs.length i4, .slice y5 cz.len i5] 28 (0, 0)) ∧ Wm.heap[w.heap.size + 1]? = some (.cells #[.int .i64 0, .string ⟨#[]⟩, .bool false, .slice none 0 0, .slice none 0 0, .slice none 0 0, .slice none 0 0, .slice none 0 0] 28 (0, 0)) ∧ Below w.heap.size w Wm ∧ (∀ c, c ≠ w.heap.size → Wm.heap[c]? = w4.heap[c]?) ∧ Wm.heap.size = w4.heap.size :=
    ⟨_, rfl, heap_setCell_same _ _ 7 _ _ (.slice y5 cz.len i5) hr1, (heap_setCell_other _ _ _ _ (by show w.heap.size + 1 ≠ w.heap.size; omega)).trans hr2, (thru HB4.out hb4).setCell (Nat.le_refl _) _, fun c hc => heap_setCell_other _ _ _ _ hc, by simp⟩
  obtain ⟨W5, hW5, hm0, hm1, hm2, hm3, hm4⟩ := hst
  have hsz := S4.out
  have o4 := how.keep (stable_EC (stable_EN (n + 1))) (w' := W5) fun c h1 h2 => hm3 c (by omega)
  rw [← hm4] at o4
  have o0 := OR0.out.keep stable_EA (w' := W5) fun c h1 h2 => by
    have i1 := L0.out; have i2 := U0.out
    rw [hm3 c (by omega)]; exact hb4.block c (by omega)
  have o1 := OR1.out.keep stable_EW (w' := W5) fun c h1 h2 => by
    have i1 := L1.out; have i2 := U1.out
    rw [hm3 c (by omega)]; exact hb4.block c (by omega)
  have o2 := OR2.out.keep (stable_EN (n + 1)) (w' := W5) fun c h1 h2 => by
    have i1 := L2.out; have i2 := U2.out
    rw [hm3 c (by omega)]; exact hb4.block c (by omega)
  have o3 := OR3.out.keep stable_EB (w' := W5) fun c h1 h2 => by
    have i1 := L3.out; have i2 := U3.out
    rw [hm3 c (by omega)]; exact hb4.block c (by omega)
  have HW5 := Lib.hid hW5; have HB5 := Lib.hid hm2; have HR5 := Lib.hid hm0; have HZ5 := Lib.hid hm1; have S5 := Lib.hid (show w.heap.size + 2 ≤ W5.heap.size by omega)
  have L4 := Lib.hid hsz; have hbs4 := hb4.size
  have U0' := Lib.hid (show W1.heap.size ≤ W5.heap.size by have := U0.out; omega)
  have U1' := Lib.hid (show W2.heap.size ≤ W5.heap.size by have := U1.out; omega)
  have U2' := Lib.hid (show W3.heap.size ≤ W5.heap.size by have := U2.out; omega)
  have U3' := Lib.hid (show W4.heap.size ≤ W5.heap.size by have := U3.out; omega)
  clear U0; have U0 := U0'; clear U0'
  clear U1; have U1 := U1'; clear U1'
  clear U2; have U2 := U2'; clear U2'
  clear U3; have U3 := U3'; clear U3'
  have U4 := Lib.hid (show W5.heap.size ≤ W5.heap.size from Nat.le_refl _)
  clear OR0; have OR0 := Lib.hid o0; clear o0
  clear OR1; have OR1 := Lib.hid o1; clear o1
  clear OR2; have OR2 := Lib.hid o2; clear o2
  clear OR3; have OR3 := Lib.hid o3; clear o3
  have OR4 := Lib.hid o4; clear o4
  have hs5 := stored8 w.heap.size w W5 (w.heap.size + 1) (.int .i64 k) (.string nm) (.bool g) (.slice y1 az.length i1) (.slice y2 ws.length i2) (.slice y3 ks.len i3) (.slice y4 bs.length i4) (.slice y5 cz.len i5) _ _ _ _ _ _ _ _ _ hm1 hm2 (by omega)
  rw [← hW5] at hs5
  have HS5 := Lib.hid hs5; have HM4 := Lib.hid hm4
  clear hs5 hm0 hm1 hm2 hm3 hm4 hW5 hr1 hr2 hs hsz hbs4 hb4 how
  go_wp2_with fail
  obtain ⟨g1, g2, g3, g4⟩ := HS5.out
  have g4' := g4.trans (congrArg (fun W : World => W.heap.size) HW5.out)
  have g3' := fun c h => (g3 c h).trans (congrArg (fun W : World => W.heap[c]?) HW5.out)
  refine bodyPost_ret (results_cell_row rfl _ _ (w.heap.size + 1) _ _ _ _ rfl g1 Try.underlying28 rfl (by kernel_rfl)) rfl ?_
  refine ⟨y1, i1, y2, i2, y3, i3, y4, i4, y5, i5, rfl, g2, ?_⟩
  intro z2 b p hc hk
  rw [g4'] at hk ⊢
  have e0 := OR0.out.keep stable_EA (w' := z2) fun c h1 h2 => by
    have i1 := L0.out; have i2 := U0.out; have i3 := S5.out; have i0 := S0.out
    rw [hk c (by omega) (by omega), g3' c (by omega)]
  have e1 := OR1.out.keep stable_EW (w' := z2) fun c h1 h2 => by
    have i1 := L1.out; have i2 := U1.out; have i3 := S5.out; have i0 := S0.out
    rw [hk c (by omega) (by omega), g3' c (by omega)]
  have e2 := OR2.out.keep (stable_EN (n + 1)) (w' := z2) fun c h1 h2 => by
    have i1 := L2.out; have i2 := U2.out; have i3 := S5.out; have i0 := S0.out
    rw [hk c (by omega) (by omega), g3' c (by omega)]
  have e3 := OR3.out.keep stable_EB (w' := z2) fun c h1 h2 => by
    have i1 := L3.out; have i2 := U3.out; have i3 := S5.out; have i0 := S0.out
    rw [hk c (by omega) (by omega), g3' c (by omega)]
  have e4 := OR4.out.keep (stable_EC (stable_EN (n + 1))) (w' := z2) fun c h1 h2 => by
    have i1 := L4.out; have i2 := U4.out; have i3 := S5.out; have i0 := S0.out
    rw [hk c (by omega) (by omega), g3' c (by omega)]
  have i0 := S0.out
  exact ⟨⟨hc 0 _ rfl, hc 1 _ rfl, hc 2 _ rfl, hnm⟩, W1.heap.size, W2.heap.size, W3.heap.size, W4.heap.size, y1, i1, y2, i2, y3, i3, y4, i4, y5, i5, ⟨hc 3 _ rfl, hc 4 _ rfl, hc 5 _ rfl, hc 6 _ rfl, hc 7 _ rfl⟩, e0.low (by omega), e1, e2, e3, e4⟩

theorem clone_all : ∀ n, CloneN n
  | 0 => fun _ _ _ _ _ _ _ _ _ _ _ _ _ _ _ _ _ _ _ h => absurd h (Nat.not_lt_zero _)
  | n + 1 => fun k nm g az ws ks bs cz x1 d1 x2 d2 x3 d3 x4 d4 x5 d5 w h1 h2 h3 => clone_step n (clone_all n) k nm g az ws ks bs cz x1 d1 x2 d2 x3 d3 x4 d4 x5 d5 w h1 h2 h3
end Ow
end Go.Proofs.Ytmpongcambbihaa
