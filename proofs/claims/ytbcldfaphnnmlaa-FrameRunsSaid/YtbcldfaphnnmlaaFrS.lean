/- Continue. -/
import Derived.Test.YtbcldfaphnnmlaaFrQ
namespace Go.Proofs.Ytbcldfaphnnmlaa
open Go.RowKit Go.Sort
namespace Fra
open Cls Pt Tr
def setL : List Value → Nat → List Value → List Value
  | xs, _, [] => xs
  | xs, k, v :: r => setL (xs.set k v) (k + 1) r
theorem setL_app : ∀ (vs C A : List Value), C.length = vs.length → setL (A ++ C) A.length vs = A ++ vs
  | [], C, A, h => by
    obtain rfl : C = [] := List.length_eq_zero_iff.1 h
    rfl
  | v :: r, C, A, h => by
    cases C with
    | nil => simp at h
    | cons c C =>
      rw [setL, List.set_append_right _ _ (Nat.le_refl _), Nat.sub_self, List.set_cons_zero]
      have := setL_app r C (A ++ [v]) (by simpa using h)
      rw [List.length_append, List.length_singleton, List.append_assoc, List.append_assoc] at this
      exact this
theorem storeL_own {B g cap n sz : Nat} {e : TypeId} : ∀ (vs : List Value) (W : World) (k : Nat) (xs : List Value), W.ownsRow B e sz (.slice (some ⟨g, 0, none⟩) n cap) n xs → (storeL W g k vs).ownsRow B e sz (.slice (some ⟨g, 0, none⟩) n cap) n (setL xs k vs)
  | [], _, _, _, h => h
  | v :: r, W, k, xs, h => storeL_own r _ (k + 1) _ (h.stored k v).1
/-- The last item is written anew. -/
theorem own_last {W : World} {B g cap n : Nat} {e : TypeId} {l : List IV} {y : IV} (h : W.ownsRow B e 14 (.slice (some ⟨g, 0, none⟩) n cap) n (lcells (l ++ [y]))) (x : IV) : (storeL W g (l.length * 14) (icells x)).ownsRow B e 14 (.slice (some ⟨g, 0, none⟩) n cap) n (lcells (l ++ [x])) := by
  have e2 : lcells [x] = icells x := by unfold lcells; simp
  have e1 : setL (lcells (l ++ [y])) (l.length * 14) (icells x) = lcells (l ++ [x]) := by
    rw [lcells_app, lcells_app, ← lcells_len l, setL_app (icells x) (lcells [y]) (lcells l) (by rw [lcells_len, icells_len, List.length_singleton]), e2]
  have := storeL_own (icells x) W (l.length * 14) _ h
  rw [e1] at this
  exact this
theorem Chg.rowStore {w w1 : World} {b g : Nat} {v v' : Value} (h : Chg w w1 b v v') (hg : v'.ownBlock = some g) (vs : List Value) (k : Nat) : Chg w (storeL w1 g k vs) b v v' :=
  have hb := storeL_below (B := 0) (Nat.zero_le g) vs w1 k (Below.refl _ _)
  ⟨hb.os.trans h.os, hb.tape.trans h.tape, hb.output.trans h.output, Nat.le_trans h.size hb.size, fun c hc h1 h2 => (storeL_other (fun e => by
    subst e
    rcases h.row with h3 | h3
    · exact h2 (h3.symm.trans hg)
    · have := h3 c hg; omega) vs w1 k).trans (h.block c hc h1 h2), h.row⟩
theorem own_pos {w : World} {B k n : Nat} {e : TypeId} {v : Value} {xs : List Value} (h : w.ownsRow B e k v n xs) (hn : 0 < n) : ∃ g cap, v = .slice (some ⟨g, 0, none⟩) n cap ∧ n ≤ cap := by
  rcases h.2 with ⟨rfl, h0⟩ | ⟨g, cap, cur, rfl, _, _, h1, _⟩
  · omega
  · exact ⟨g, cap, rfl, h1⟩
theorem own_where {w : World} {B k n : Nat} {e : TypeId} {v : Value} {xs : List Value} (h : w.ownsRow B e k v n xs) (hn : 0 < n) : ∃ g cap, v = .slice (some ⟨g, 0, none⟩) n cap ∧ n ≤ cap ∧ g < w.heap.size := by
  rcases h.2 with ⟨rfl, h0⟩ | ⟨g, cap, cur, rfl, _, hg, h1, _⟩
  · omega
  · exact ⟨g, cap, rfl, h1, (Array.getElem?_eq_some_iff.1 hg).1⟩
set_option maxHeartbeats 3200000 in
theorem continue_any {w : World} {B b : Nat} {v : Value} {l : List IV} (hl : l.length ≤ 100000) (h : Stk w B b v l) (n : Int) (h0 : -9223372036854775808 ≤ n) :
    Calls Try.prog 12 #[.pointer (some ⟨b, 0, none⟩), .int .i64 n] w fun e w' => e = .returned (.bool (outB (brk l n))) ∧ ∃ v', Stk w' B b v' (goL l n) ∧ Chg w w' b v v' := by
  have H := Lib.hid (nth_any hl h n h0)
  have HS := Lib.hid h
  clear h
  cases hb : brk l n with
  | none =>
    have hr : goL l n = l := by unfold goL; rw [hb]
    rw [hr]
    rw [hb] at H
    simp only [upV] at H
    clear hr hb
    go_enter Try.func12, Try.ntmps12
    go_wp2_with (go_at_call 27; refine H.out.mono ?_; rintro e w1 ⟨rfl, hb1⟩; have HB1 := Lib.hid hb1; clear hb1)
    go_ret
    exact ⟨rfl, _, HS.out.stay HB1.out, Chg.of_below HB1.out⟩
  | some i =>
    have hil : i < l.length := by
      unfold brk at hb
      split at hb
      · cases hb
      · exact (lps_lt l _ _ (List.mem_of_getElem? hb)).2
    obtain ⟨y, hy⟩ : ∃ y, l[i]? = some y := ⟨_, List.getElem?_eq_getElem hil⟩
    have hr : goL l n = l.take i ++ [goes y] := by unfold goL; rw [hb]; simp only [hy]
    have htk : l.take (i + 1) = l.take i ++ [y] := by rw [List.take_add_one, hy]; rfl
    have hkl : (l.take i).length = i := by rw [List.length_take]; omega
    rw [hr]
    rw [hb] at H
    simp only [upV] at H
    have HCUT := fun w1 (hb1 : Below w.heap.size w w1) => cut_any hl (HS.out.stay hb1) (i + 1) hil
    rw [htk] at HCUT
    generalize l.take i = L at HCUT hkl ⊢
    generalize hgo : goes y = gy
    have HGO := Lib.hid hgo
    clear hgo
    rw [Int.natCast_succ] at HCUT
    have HCT := Lib.hid HCUT
    have hwi : IntKind.i64.wrap ((i : Int) + 1) = (i : Int) + 1 := (wrapEq _).trans (IntWalk.wrap64_in _ ⟨by omega, by omega⟩)
    clear HCUT hr hb htk hy
    go_enter Try.func12, Try.ntmps12
    go_wp2_with (go_at_call 27; refine H.out.mono ?_; rintro e w1 ⟨rfl, hb1⟩; have HB1 := Lib.hid hb1; clear hb1)
    refine (HCT.out _ HB1.out).mono ?_
    rintro e w2 ⟨rfl, v', hs2, hc2⟩
    have hLn : (L ++ [y]).length = i + 1 := by rw [List.length_append, hkl]; rfl
    obtain ⟨g, cap, rfl, hcap⟩ := own_pos hs2.own (by omega)
    have HG := Lib.hid ((Chg.of_below HB1.out).trans hc2)
    have HS2 := Lib.hid hs2
    have hlc : (lcells L).length = i * 14 := by rw [lcells_len, hkl]
    have hcell : ∀ j u, (icells y)[j]? = some u → w2.cell? ⟨g, i * 14 + j, none⟩ = some u := fun j u hu => by
      have hj := (List.getElem?_eq_some_iff.1 hu).1
      rw [icells_len] at hj
      rw [hs2.own.cellAt (i * 14 + j) (by rw [hLn]; omega), lcells_app, List.getElem?_append_right (by omega), hlc, show i * 14 + j - i * 14 = j by omega, show lcells [y] = icells y by unfold lcells; simp]
      exact hu
    have hstA := hs2.stay (bel1 w2 (.cells #[.int .i64 y.k, .int .i64 y.nk, .string y.nm, .bool y.g, .slice y.a1 y.az.length y.c1, .slice y.a2 y.nw.length y.c2, .slice y.a3 y.ks.len y.c3, .slice y.a4 y.bs.length y.c4, .slice y.a5 y.cz.len y.c5, .int .i64 y.pl, .int .i64 y.st, .bool y.fr, .slice y.wa y.ws.length y.wc, .slice y.pa y.ps.length y.pc] 43))
    have hc0 := hs2.cell
    have hc1 := hstA.cell
    rw [hLn] at hc0 hc1
    have q0 : w2.cell? ⟨g, i * 14, none⟩ = some (.int .i64 y.k) := hcell 0 _ rfl
    have q1 : w2.cell? ⟨g, i * 14 + 1, none⟩ = some (.int .i64 y.nk) := hcell 1 _ rfl
    have q2 : w2.cell? ⟨g, i * 14 + 2, none⟩ = some (.string y.nm) := hcell 2 _ rfl
    have q3 : w2.cell? ⟨g, i * 14 + 3, none⟩ = some (.bool y.g) := hcell 3 _ rfl
    have q4 : w2.cell? ⟨g, i * 14 + 4, none⟩ = some (.slice y.a1 y.az.length y.c1) := hcell 4 _ rfl
    have q5 : w2.cell? ⟨g, i * 14 + 5, none⟩ = some (.slice y.a2 y.nw.length y.c2) := hcell 5 _ rfl
    have q6 : w2.cell? ⟨g, i * 14 + 6, none⟩ = some (.slice y.a3 y.ks.len y.c3) := hcell 6 _ rfl
    have q7 : w2.cell? ⟨g, i * 14 + 7, none⟩ = some (.slice y.a4 y.bs.length y.c4) := hcell 7 _ rfl
    have q8 : w2.cell? ⟨g, i * 14 + 8, none⟩ = some (.slice y.a5 y.cz.len y.c5) := hcell 8 _ rfl
    have q9 : w2.cell? ⟨g, i * 14 + 9, none⟩ = some (.int .i64 y.pl) := hcell 9 _ rfl
    have q10 : w2.cell? ⟨g, i * 14 + 10, none⟩ = some (.int .i64 y.st) := hcell 10 _ rfl
    have q11 : w2.cell? ⟨g, i * 14 + 11, none⟩ = some (.bool y.fr) := hcell 11 _ rfl
    have q12 : w2.cell? ⟨g, i * 14 + 12, none⟩ = some (.slice y.wa y.ws.length y.wc) := hcell 12 _ rfl
    have q13 : w2.cell? ⟨g, i * 14 + 13, none⟩ = some (.slice y.pa y.ps.length y.pc) := hcell 13 _ rfl
    have HCE := Lib.hid hcell; have HSA := Lib.hid hstA
    have HLN := Lib.hid hLn
    clear hs2 hc2 hcell hstA
    cases h8 : (y.k == 8)
    · have h8' : (y.k != 8) = true := by rw [bne, h8]; rfl
      obtain rfl : gy = again y := by rw [← HGO.out]; unfold goes; rw [h8]; rfl
      go_wp2_with fail
      have hx := heap_alloc_new w2 (.cells #[.int .i64 y.k, .int .i64 y.nk, .string y.nm, .bool y.g, .slice y.a1 y.az.length y.c1, .slice y.a2 y.nw.length y.c2, .slice y.a3 y.ks.len y.c3, .slice y.a4 y.bs.length y.c4, .slice y.a5 y.cz.len y.c5, .int .i64 y.pl, .int .i64 y.st, .bool y.fr, .slice y.wa y.ws.length y.wc, .slice y.pa y.ps.length y.pc] 43)
      have hb3 := bel1 w2 (.cells #[.int .i64 y.k, .int .i64 y.nk, .string y.nm, .bool y.g, .slice y.a1 y.az.length y.c1, .slice y.a2 y.nw.length y.c2, .slice y.a3 y.ks.len y.c3, .slice y.a4 y.bs.length y.c4, .slice y.a5 y.cz.len y.c5, .int .i64 y.pl, .int .i64 y.st, .bool y.fr, .slice y.wa y.ws.length y.wc, .slice y.pa y.ps.length y.pc] 43)
      have hg3 : Chg w _ b v _ := HG.out.trans (Chg.of_below hb3)
      have hs3 := HSA.out
      have hcell3 := fun j u hu => cell_below hb3 (HCE.out j u hu)
      clear q0 q1 q2 q3 q4 q5 q6 q7 q8 q9 q10 q11 q12 q13 hc0 hc1
      generalize w2.alloc (.cells #[.int .i64 y.k, .int .i64 y.nk, .string y.nm, .bool y.g, .slice y.a1 y.az.length y.c1, .slice y.a2 y.nw.length y.c2, .slice y.a3 y.ks.len y.c3, .slice y.a4 y.bs.length y.c4, .slice y.a5 y.cz.len y.c5, .int .i64 y.pl, .int .i64 y.st, .bool y.fr, .slice y.wa y.ws.length y.wc, .slice y.pa y.ps.length y.pc] 43) = W0 at hx hb3 hg3 hs3 hcell3 ⊢
      have HX := Lib.hid hx; have HG3 := Lib.hid hg3; have HS3 := Lib.hid hs3; have HC3 := Lib.hid hcell3
      clear hx hg3 hs3 hcell3 hb3
      refine RN.begins (fun w' => Below W0.heap.size W0 w') [11] (by kernel_rfl) ?_
      have hS : Below W0.heap.size W0 W0.drew := ⟨rfl, rfl, rfl, Nat.le_refl _, fun _ _ => rfl⟩
      refine RN.tk (i := 0) rfl hS (by intro wq hq; skip; go_simp; try with_reducible rfl) ?_
      refine RN.tk (i := 1) rfl hS (by intro wq hq; skip; go_simp; try with_reducible rfl) ?_
      refine RN.tk (i := 2) rfl hS (by intro wq hq; skip; go_simp; try with_reducible rfl) ?_
      refine RN.tk (i := 3) rfl hS (by intro wq hq; have c := cell_below hq HS3.out.cell; rw [HLN.out] at c; go_simp; try with_reducible rfl) ?_
      refine RN.tk (i := 4) rfl hS (by intro wq hq; skip; go_simp; try with_reducible rfl) ?_
      refine RN.tk (i := 5) rfl hS (by intro wq hq; skip; go_simp; try with_reducible rfl) ?_
      refine RN.tk (i := 6) rfl hS (by intro wq hq; have x1 : wq.cell? ⟨w2.heap.size, 1, none⟩ = some (.int .i64 y.nk) := cell_below hq (Lib.cell_of_heap HX.out 1); have x2 : wq.cell? ⟨w2.heap.size, 2, none⟩ = some (.string y.nm) := cell_below hq (Lib.cell_of_heap HX.out 2); have x3 : wq.cell? ⟨w2.heap.size, 3, none⟩ = some (.bool y.g) := cell_below hq (Lib.cell_of_heap HX.out 3); have x4 : wq.cell? ⟨w2.heap.size, 4, none⟩ = some (.slice y.a1 y.az.length y.c1) := cell_below hq (Lib.cell_of_heap HX.out 4); have x5 : wq.cell? ⟨w2.heap.size, 5, none⟩ = some (.slice y.a2 y.nw.length y.c2) := cell_below hq (Lib.cell_of_heap HX.out 5); have x6 : wq.cell? ⟨w2.heap.size, 6, none⟩ = some (.slice y.a3 y.ks.len y.c3) := cell_below hq (Lib.cell_of_heap HX.out 6); have x7 : wq.cell? ⟨w2.heap.size, 7, none⟩ = some (.slice y.a4 y.bs.length y.c4) := cell_below hq (Lib.cell_of_heap HX.out 7); have x8 : wq.cell? ⟨w2.heap.size, 8, none⟩ = some (.slice y.a5 y.cz.len y.c5) := cell_below hq (Lib.cell_of_heap HX.out 8); go_simp; try with_reducible rfl) ?_
      refine RN.tk (i := 7) rfl hS (by intro wq hq; skip; go_simp; try with_reducible rfl) ?_
      refine RN.tk (i := 8) rfl hS (by intro wq hq; have x11 : wq.cell? ⟨w2.heap.size, 11, none⟩ = some (.bool y.fr) := cell_below hq (Lib.cell_of_heap HX.out 11); go_simp; try with_reducible rfl) ?_
      refine RN.tk (i := 9) rfl hS (by intro wq hq; skip; go_simp; try with_reducible rfl) ?_
      refine RN.tk (i := 10) rfl hS (by intro wq hq; go_simp; rw [if_pos (show (i : Int) < (i : Int) + 1 by omega)]) ?_
      have hrow2 := hS.block g (by obtain ⟨g', cap', e, _, h2⟩ := own_where HS3.out.own (by rw [HLN.out]; omega); cases e; exact h2)
      have hs4 := HS3.out.stay hS
      have hg4 := HG3.out.trans (Chg.of_below hS)
      generalize W0.drew = W2 at hS hs4 hg4 ⊢
      have HS4 := Lib.hid hs4; have HG4 := Lib.hid hg4
      have hcell4 := fun j u hu => cell_below hS (HC3.out j u hu)
      have HC4 := Lib.hid hcell4
      clear hs4 hg4 hcell4 hrow2
      refine RN.all (rs := [11]) (by kernel_rfl) (by simp) ?_
      refine RN.All.cons rfl (fun K hK => ?_) RN.All.nil
      have r0 : W2.cell? ⟨g, i * 14, none⟩ = some (.int .i64 y.k) := HC4.out 0 _ rfl; have f0 : W2.frozen? ⟨g, i * 14, none⟩ = false := HS4.out.own.frozenAt _
      have r1 : W2.cell? ⟨g, i * 14 + 1, none⟩ = some (.int .i64 y.nk) := HC4.out 1 _ rfl; have f1 : W2.frozen? ⟨g, i * 14 + 1, none⟩ = false := HS4.out.own.frozenAt _
      have r2 : W2.cell? ⟨g, i * 14 + 2, none⟩ = some (.string y.nm) := HC4.out 2 _ rfl; have f2 : W2.frozen? ⟨g, i * 14 + 2, none⟩ = false := HS4.out.own.frozenAt _
      have r3 : W2.cell? ⟨g, i * 14 + 3, none⟩ = some (.bool y.g) := HC4.out 3 _ rfl; have f3 : W2.frozen? ⟨g, i * 14 + 3, none⟩ = false := HS4.out.own.frozenAt _
      have r4 : W2.cell? ⟨g, i * 14 + 4, none⟩ = some (.slice y.a1 y.az.length y.c1) := HC4.out 4 _ rfl; have f4 : W2.frozen? ⟨g, i * 14 + 4, none⟩ = false := HS4.out.own.frozenAt _
      have r5 : W2.cell? ⟨g, i * 14 + 5, none⟩ = some (.slice y.a2 y.nw.length y.c2) := HC4.out 5 _ rfl; have f5 : W2.frozen? ⟨g, i * 14 + 5, none⟩ = false := HS4.out.own.frozenAt _
      have r6 : W2.cell? ⟨g, i * 14 + 6, none⟩ = some (.slice y.a3 y.ks.len y.c3) := HC4.out 6 _ rfl; have f6 : W2.frozen? ⟨g, i * 14 + 6, none⟩ = false := HS4.out.own.frozenAt _
      have r7 : W2.cell? ⟨g, i * 14 + 7, none⟩ = some (.slice y.a4 y.bs.length y.c4) := HC4.out 7 _ rfl; have f7 : W2.frozen? ⟨g, i * 14 + 7, none⟩ = false := HS4.out.own.frozenAt _
      have r8 : W2.cell? ⟨g, i * 14 + 8, none⟩ = some (.slice y.a5 y.cz.len y.c5) := HC4.out 8 _ rfl; have f8 : W2.frozen? ⟨g, i * 14 + 8, none⟩ = false := HS4.out.own.frozenAt _
      have r9 : W2.cell? ⟨g, i * 14 + 9, none⟩ = some (.int .i64 y.pl) := HC4.out 9 _ rfl; have f9 : W2.frozen? ⟨g, i * 14 + 9, none⟩ = false := HS4.out.own.frozenAt _
      have r10 : W2.cell? ⟨g, i * 14 + 10, none⟩ = some (.int .i64 y.st) := HC4.out 10 _ rfl; have f10 : W2.frozen? ⟨g, i * 14 + 10, none⟩ = false := HS4.out.own.frozenAt _
      have r11 : W2.cell? ⟨g, i * 14 + 11, none⟩ = some (.bool y.fr) := HC4.out 11 _ rfl; have f11 : W2.frozen? ⟨g, i * 14 + 11, none⟩ = false := HS4.out.own.frozenAt _
      have r12 : W2.cell? ⟨g, i * 14 + 12, none⟩ = some (.slice y.wa y.ws.length y.wc) := HC4.out 12 _ rfl; have f12 : W2.frozen? ⟨g, i * 14 + 12, none⟩ = false := HS4.out.own.frozenAt _
      have r13 : W2.cell? ⟨g, i * 14 + 13, none⟩ = some (.slice y.pa y.ps.length y.pc) := HC4.out 13 _ rfl; have f13 : W2.frozen? ⟨g, i * 14 + 13, none⟩ = false := HS4.out.own.frozenAt _
      go_simp
      show K _ (storeL W2 g (i * 14) (icells (again y)))
      have hown := HS4.out.own
      have hb4 := HS4.out.blk
      have hgb := HS4.out.ne
      have hg4 := HG4.out
      rw [HLN.out] at hown hb4 hgb hg4
      have hown5 := own_last hown (again y)
      rw [hkl] at hown5
      have hs5 : Stk (storeL W2 g (i * 14) (icells (again y))) B b (.slice (some ⟨g, 0, none⟩) (i + 1) cap) (L ++ [again y]) := ⟨(storeL_other (fun e => hgb (by rw [e]; rfl)) _ _ _).trans hb4, by rw [List.length_append, hkl]; exact hown5⟩
      have hg5 := hg4.rowStore rfl (icells (again y)) (i * 14)
      generalize storeL W2 g (i * 14) (icells (again y)) = W5 at hs5 hg5 ⊢
      refine hK _ _ (fun h => absurd h (by decide)) ?_
      clear hK K r0 f0 r1 f1 r2 f2 r3 f3 r4 f4 r5 f5 r6 f6 r7 f7 r8 f8 r9 f9 r10 f10 r11 f11 r12 f12 r13 f13 hown hb4 hgb hg4 hown5 hS
      refine RN.done (by kernel_rfl) ?_ _
      go_wp2_with fail
      go_ret
      exact ⟨rfl, _, hs5, hg5⟩
    · have h8' : (y.k != 8) = false := by rw [bne, h8]; rfl
      obtain rfl : gy = y := by rw [← HGO.out]; unfold goes; rw [h8]; rfl
      go_wp2_with fail
      go_ret
      exact ⟨rfl, _, HSA.out, HG.out.trans (Chg.of_below (bel1 _ _))⟩
end Fra
end Go.Proofs.Ytbcldfaphnnmlaa
