/- The walk of TreeGrows, up to what is built. -/
import Derived.Test.YtgdjeemmklmpfaaTrHy
import Derived.Test.YtgdjeemmklmpfaaRegN
namespace Go.Proofs.Ytgdjeemmklmpfaa
open Go.RowKit Go.Sort
namespace Tr
open Cls Pt


theorem three_new (w : World) (A B C : Obj) : (((w.alloc A).alloc B).alloc C).heap[w.heap.size]? = some A ∧ (((w.alloc A).alloc B).alloc C).heap[w.heap.size + 1]? = some B ∧ (((w.alloc A).alloc B).alloc C).heap[w.heap.size + 2]? = some C ∧ Below w.heap.size w (((w.alloc A).alloc B).alloc C) := by
  have s1 : (w.alloc A).heap.size = w.heap.size + 1 := World.size_alloc _ _
  have s2 : ((w.alloc A).alloc B).heap.size = w.heap.size + 2 := by rw [World.size_alloc, s1]
  refine ⟨?_, ?_, ?_, thru (bel2 w A B) (bel1 _ C)⟩
  · exact (Below.heap_alloc _ _ _ (by omega)).trans ((Below.heap_alloc _ _ _ (by omega)).trans (heap_new' w A))
  · have := heap_new' (w.alloc A) B
    rw [s1] at this
    exact (Below.heap_alloc _ _ _ (by omega)).trans this
  · have := heap_new' ((w.alloc A).alloc B) C
    rwa [s2] at this
theorem two_new (w : World) (A B : Obj) : ((w.alloc A).alloc B).heap[w.heap.size]? = some A ∧ ((w.alloc A).alloc B).heap[w.heap.size + 1]? = some B ∧ Below w.heap.size w ((w.alloc A).alloc B) := by
  have s1 : (w.alloc A).heap.size = w.heap.size + 1 := World.size_alloc _ _
  refine ⟨?_, ?_, bel2 w A B⟩
  · exact (Below.heap_alloc _ _ _ (by omega)).trans (heap_new' w A)
  · have := heap_new' (w.alloc A) B
    rwa [s1] at this
theorem stored (Wd : World) (bx : Nat) (v0 v1 v2 v3 v4 v5 v6 v7 u0 u1 u2 u3 u4 u5 u6 u7 : Value) (t : TypeId) (h : Wd.heap[bx]? = some (.cells #[u0, u1, u2, u3, u4, u5, u6, u7] t (0, 0))) :
    ((((((((Wd.setCell ⟨bx, 0, none⟩ v0).setCell ⟨bx, 1, none⟩ v1).setCell ⟨bx, 2, none⟩ v2).setCell ⟨bx, 3, none⟩ v3).setCell ⟨bx, 4, none⟩ v4).setCell ⟨bx, 5, none⟩ v5).setCell ⟨bx, 6, none⟩ v6).setCell ⟨bx, 7, none⟩ v7).heap[bx]? = some (.cells #[v0, v1, v2, v3, v4, v5, v6, v7] t (0, 0)) ∧
    FrP bx Wd ((((((((Wd.setCell ⟨bx, 0, none⟩ v0).setCell ⟨bx, 1, none⟩ v1).setCell ⟨bx, 2, none⟩ v2).setCell ⟨bx, 3, none⟩ v3).setCell ⟨bx, 4, none⟩ v4).setCell ⟨bx, 5, none⟩ v5).setCell ⟨bx, 6, none⟩ v6).setCell ⟨bx, 7, none⟩ v7) := by
  have g0 : (Wd.setCell ⟨bx, 0, none⟩ v0).heap[bx]? = some (.cells #[v0, u1, u2, u3, u4, u5, u6, u7] t (0, 0)) := heap_setCell_same _ _ 0 _ _ v0 h
  have g1 : ((Wd.setCell ⟨bx, 0, none⟩ v0).setCell ⟨bx, 1, none⟩ v1).heap[bx]? = some (.cells #[v0, v1, u2, u3, u4, u5, u6, u7] t (0, 0)) := heap_setCell_same _ _ 1 _ _ v1 g0
  have g2 : (((Wd.setCell ⟨bx, 0, none⟩ v0).setCell ⟨bx, 1, none⟩ v1).setCell ⟨bx, 2, none⟩ v2).heap[bx]? = some (.cells #[v0, v1, v2, u3, u4, u5, u6, u7] t (0, 0)) := heap_setCell_same _ _ 2 _ _ v2 g1
  have g3 : ((((Wd.setCell ⟨bx, 0, none⟩ v0).setCell ⟨bx, 1, none⟩ v1).setCell ⟨bx, 2, none⟩ v2).setCell ⟨bx, 3, none⟩ v3).heap[bx]? = some (.cells #[v0, v1, v2, v3, u4, u5, u6, u7] t (0, 0)) := heap_setCell_same _ _ 3 _ _ v3 g2
  have g4 : (((((Wd.setCell ⟨bx, 0, none⟩ v0).setCell ⟨bx, 1, none⟩ v1).setCell ⟨bx, 2, none⟩ v2).setCell ⟨bx, 3, none⟩ v3).setCell ⟨bx, 4, none⟩ v4).heap[bx]? = some (.cells #[v0, v1, v2, v3, v4, u5, u6, u7] t (0, 0)) := heap_setCell_same _ _ 4 _ _ v4 g3
  have g5 : ((((((Wd.setCell ⟨bx, 0, none⟩ v0).setCell ⟨bx, 1, none⟩ v1).setCell ⟨bx, 2, none⟩ v2).setCell ⟨bx, 3, none⟩ v3).setCell ⟨bx, 4, none⟩ v4).setCell ⟨bx, 5, none⟩ v5).heap[bx]? = some (.cells #[v0, v1, v2, v3, v4, v5, u6, u7] t (0, 0)) := heap_setCell_same _ _ 5 _ _ v5 g4
  have g6 : (((((((Wd.setCell ⟨bx, 0, none⟩ v0).setCell ⟨bx, 1, none⟩ v1).setCell ⟨bx, 2, none⟩ v2).setCell ⟨bx, 3, none⟩ v3).setCell ⟨bx, 4, none⟩ v4).setCell ⟨bx, 5, none⟩ v5).setCell ⟨bx, 6, none⟩ v6).heap[bx]? = some (.cells #[v0, v1, v2, v3, v4, v5, v6, u7] t (0, 0)) := heap_setCell_same _ _ 6 _ _ v6 g5
  have g7 : ((((((((Wd.setCell ⟨bx, 0, none⟩ v0).setCell ⟨bx, 1, none⟩ v1).setCell ⟨bx, 2, none⟩ v2).setCell ⟨bx, 3, none⟩ v3).setCell ⟨bx, 4, none⟩ v4).setCell ⟨bx, 5, none⟩ v5).setCell ⟨bx, 6, none⟩ v6).setCell ⟨bx, 7, none⟩ v7).heap[bx]? = some (.cells #[v0, v1, v2, v3, v4, v5, v6, v7] t (0, 0)) := heap_setCell_same _ _ 7 _ _ v7 g6
  exact ⟨g7, (((((((FrP.set Wd 0 v0).trans (FrP.set _ 1 v1)).trans (FrP.set _ 2 v2)).trans (FrP.set _ 3 v3)).trans (FrP.set _ 4 v4)).trans (FrP.set _ 5 v5)).trans (FrP.set _ 6 v6)).trans (FrP.set _ 7 v7)⟩
theorem grown {bx b2 b3 b4 : Nat} {wr Wg wc w1 Wd : World} {k K : Int} {nm : ByteArray} {g q : Bool} {az : List (ByteArray × PL)} {ws : List PL} {ks cz : NL} {bs : List Bool} {x1 x2 x3 x4 x5 xs : Option Addr} {d1 d2 d3 d4 d5 ds : Nat} {t1 t2 t3 t4 : TypeId}
    (hH : HoldsX bx wr nm az ws ks bs cz x1 d1 x2 d2 x3 d3 x4 d4 x5 d5) (hbg : Below wr.heap.size wr Wg) (hg1 : Wg.heap[wr.heap.size]? = some (.cells (nodeV k nm g x1 az.length d1 x2 ws.length d2 x3 ks.len d3 x4 bs.length d4 x5 cz.len d5) t1 (0, 0)))
    (hlt : bx < wr.heap.size) (hgs : Below Wg.heap.size Wg wc)
    (hs : ∀ w2 : World, w1.heap.size ≤ w2.heap.size → (∀ b, wc.heap.size < b → b < w1.heap.size → w2.heap[b]? = w1.heap[b]?) → Holds w2 ⟨#[]⟩ [] [wA] .nil [] .nil none 0 xs ds none 0 none 0 none 0) (hsw : Below wc.heap.size wc w1) (hd : Below w1.heap.size w1 Wd)
    (h2 : Wd.heap[b2]? = some (.cells (nodeV 1 ⟨#[]⟩ false none 0 0 xs 1 ds none 0 0 none 0 0 none 0 0) t2 (0, 0))) (n2 : b2 ≠ bx)
    (h3 : Wd.heap[b3]? = some (.cells #[.int .i64 K, .string ⟨#[]⟩, .bool false, .slice none 0 0, .slice none 0 0, .slice (some ⟨wr.heap.size, 0, none⟩) 1 1, .slice none 0 0, .slice none 0 0, .int .i64 4, .string ⟨#[]⟩, .bool false, .slice none 0 0, .slice none 0 0, .slice (some ⟨b2, 0, none⟩) 1 1, .slice none 0 0, .slice none 0 0] t3 (0, 0))) (n3 : b3 ≠ bx)
    (h4 : Wd.heap[b4]? = some (.cells #[.bool q, .bool false] t4 (0, 0))) (n4 : b4 ≠ bx) :
    HoldsX bx Wd ⟨#[]⟩ [] [] (.node K ⟨#[]⟩ false [] [] (.node k nm g az ws ks bs cz .nil) [] .nil (.node 4 ⟨#[]⟩ false [] [] sA [] .nil .nil)) [q, false] .nil none 0 none 0 (some ⟨b3, 0, none⟩) 2 (some ⟨b4, 0, none⟩) 2 none 0 := by
  have h0 := hH wr (FrP.refl _ _)
  have hwd : Below Wg.heap.size Wg Wd := thru hgs (thru hsw hd)
  have hsz : wr.heap.size < Wg.heap.size := (Array.getElem?_eq_some_iff.1 hg1).1
  have h1 := (hwd.block _ hsz).trans hg1
  refine built_holds (hH.fr (FrP.of_below (thru hbg hwd))) ?_ h1 (by omega) h2 n2 h3 n3 h4 n4 h0.okk h0.okc
  intro w2 hf
  refine hs w2 (Nat.le_trans hd.size hf.size) fun b hb1 hb2 => ?_
  have hb3 := hgs.size
  have hb4 := hd.size
  rw [hf.block b (by omega) (by omega)]
  exact hd.block b hb2

set_option maxHeartbeats 20000000 in
set_option maxRecDepth 100000 in
theorem grows_walk (k : Int) (nm : ByteArray) (g : Bool) (az : List (ByteArray × PL)) (ws : List PL) (ks : NL) (bs : List Bool) (cz : NL) (x1 : Option Addr) (d1 : Nat) (x2 : Option Addr) (d2 : Nat) (x3 : Option Addr) (d3 : Nat) (x4 : Option Addr) (d4 : Nat) (x5 : Option Addr) (d5 : Nat) (deep : Nat) (hdeep : deep < 256) (m : Int) (w : World) (h : Holds w nm az ws ks bs cz x1 d1 x2 d2 x3 d3 x4 d4 x5 d5) (hm : w.cell? ⟨0, 0, none⟩ = some (.int .i64 m)) :
    Calls Try.prog 4 #[.agg (nodeV k nm g x1 az.length d1 x2 ws.length d2 x3 ks.len d3 x4 bs.length d4 x5 cz.len d5), .int .u8 deep] w fun e w' => e = .returned (.bool true) ∧ Below w.heap.size w w' := by
  have hlk := h.hks.le
  have hb0 := bel1 w (.cells #[.int .i64 k, .string nm, .bool g, .slice x1 az.length d1, .slice x2 ws.length d2, .slice x3 ks.len d3, .slice x4 bs.length d4, .slice x5 cz.len d5] 28)
  have hrow : (w.alloc (.cells #[.int .i64 k, .string nm, .bool g, .slice x1 az.length d1, .slice x2 ws.length d2, .slice x3 ks.len d3, .slice x4 bs.length d4, .slice x5 cz.len d5] 28)).heap[w.heap.size]? = some (.cells #[.int .i64 k, .string nm, .bool g, .slice x1 az.length d1, .slice x2 ws.length d2, .slice x3 ks.len d3, .slice x4 bs.length d4, .slice x5 cz.len d5] 28 (0, 0)) := heap_new' _ _
  have ha := fun w' (hb : Below w.heap.size w w') => treeAlive_any m w' (cell_below hb hm)
  have hw := fun w' (hb : Below w.heap.size w w') => weight_at (ks.size + cz.size + 1) k nm g az ws ks bs cz x1 d1 x2 d2 x3 d3 x4 d4 x5 d5 0 w' (Nat.lt_succ_self _) (by omega) (h.below hb)
  unfold nodeV at hw ⊢
  have HA := Lib.hid ha; have HW := Lib.hid hw; have HH := Lib.hid h; have HM := Lib.hid hm
  clear ha hw h hm
  go_enter Try.func4, Try.ntmps4
  go_wp2_with fail
  have HB0 := Lib.hid hb0; have HROW := Lib.hid hrow
  clear hb0 hrow
  generalize w.alloc (.cells #[.int .i64 k, .string nm, .bool g, .slice x1 az.length d1, .slice x2 ws.length d2, .slice x3 ks.len d3, .slice x4 bs.length d4, .slice x5 cz.len d5] 28) = W0 at HB0 HROW ⊢
  refine (HA.out _ HB0.out).mono ?_
  rintro e w1 ⟨rfl, hb1⟩
  have HB1 := Lib.hid hb1
  clear hb1
  have q0 : w1.cell? ⟨w.heap.size, 0, none⟩ = some (.int .i64 k) := cell_below (HB1.out) (Lib.cell_of_heap HROW.out 0)
  have q1 : w1.cell? ⟨w.heap.size, 1, none⟩ = some (.string nm) := cell_below (HB1.out) (Lib.cell_of_heap HROW.out 1)
  have q2 : w1.cell? ⟨w.heap.size, 2, none⟩ = some (.bool g) := cell_below (HB1.out) (Lib.cell_of_heap HROW.out 2)
  have q3 : w1.cell? ⟨w.heap.size, 3, none⟩ = some (.slice x1 az.length d1) := cell_below (HB1.out) (Lib.cell_of_heap HROW.out 3)
  have q4 : w1.cell? ⟨w.heap.size, 4, none⟩ = some (.slice x2 ws.length d2) := cell_below (HB1.out) (Lib.cell_of_heap HROW.out 4)
  have q5 : w1.cell? ⟨w.heap.size, 5, none⟩ = some (.slice x3 ks.len d3) := cell_below (HB1.out) (Lib.cell_of_heap HROW.out 5)
  have q6 : w1.cell? ⟨w.heap.size, 6, none⟩ = some (.slice x4 bs.length d4) := cell_below (HB1.out) (Lib.cell_of_heap HROW.out 6)
  have q7 : w1.cell? ⟨w.heap.size, 7, none⟩ = some (.slice x5 cz.len d5) := cell_below (HB1.out) (Lib.cell_of_heap HROW.out 7)
  go_wp2_with fail
  refine (HW.out _ (thru HB0.out HB1.out)).mono ?_
  rintro e w2 ⟨⟨v, rfl, hv, hvt⟩, hb2⟩
  clear q0 q1 q2 q3 q4 q5 q6 q7
  have HB2 := Lib.hid (thru HB1.out hb2)
  clear hb2
  by_cases hbig : 4000 < v
  · have hbI : ((v : Int) > 4000) = True := by simp; omega
    have hbJ : (4000 < (v : Int)) = True := by simp; omega
    clear hbig
    go_wp2_with fail
    go_ret
    exact ⟨rfl, thru HB0.out HB2.out⟩
  have hbI : ((v : Int) > 4000) = False := by simp; omega
  have hbJ : (4000 < (v : Int)) = False := by simp; omega
  have ht : totX nm az ws ks bs cz ≤ 4000 := by rw [← hvt (by omega)]; omega
  have HT := Lib.hid ht
  clear hvt hbig ht
  have hp := program_any k nm g az ws ks bs cz x1 d1 x2 d2 x3 d3 x4 d4 x5 d5 m w2 (HH.out.below (thru HB0.out HB2.out)) (wsB_ok (by have := HT.out; unfold totX at this; omega)) (fit_tot (by have := HT.out; unfold totX at this; omega)) (fit_tot (by have := HT.out; unfold totX at this; omega)) (cell_below (thru HB0.out HB2.out) HM.out)
  unfold nodeV at hp
  generalize hB : (k == 5 && nodeR k nm g az ws ks bs cz 1) = B at hp
  have q0 : w2.cell? ⟨w.heap.size, 0, none⟩ = some (.int .i64 k) := cell_below (HB2.out) (Lib.cell_of_heap HROW.out 0)
  have q1 : w2.cell? ⟨w.heap.size, 1, none⟩ = some (.string nm) := cell_below (HB2.out) (Lib.cell_of_heap HROW.out 1)
  have q2 : w2.cell? ⟨w.heap.size, 2, none⟩ = some (.bool g) := cell_below (HB2.out) (Lib.cell_of_heap HROW.out 2)
  have q3 : w2.cell? ⟨w.heap.size, 3, none⟩ = some (.slice x1 az.length d1) := cell_below (HB2.out) (Lib.cell_of_heap HROW.out 3)
  have q4 : w2.cell? ⟨w.heap.size, 4, none⟩ = some (.slice x2 ws.length d2) := cell_below (HB2.out) (Lib.cell_of_heap HROW.out 4)
  have q5 : w2.cell? ⟨w.heap.size, 5, none⟩ = some (.slice x3 ks.len d3) := cell_below (HB2.out) (Lib.cell_of_heap HROW.out 5)
  have q6 : w2.cell? ⟨w.heap.size, 6, none⟩ = some (.slice x4 bs.length d4) := cell_below (HB2.out) (Lib.cell_of_heap HROW.out 6)
  have q7 : w2.cell? ⟨w.heap.size, 7, none⟩ = some (.slice x5 cz.len d5) := cell_below (HB2.out) (Lib.cell_of_heap HROW.out 7)
  have HP := Lib.hid hp; have HBE := Lib.hid hB
  clear hp hB
  cases B
  · go_wp2_with fail
    refine (HP.out).mono ?_
    rintro e w3 ⟨rfl, hb3⟩
    go_wp2_with fail
    go_ret
    exact ⟨rfl, thru HB0.out (thru HB2.out hb3)⟩
  go_wp2_with fail
  refine (HP.out).mono ?_
  rintro e w3 ⟨rfl, hb3⟩
  clear q0 q1 q2 q3 q4 q5 q6 q7
  have HB3 := Lib.hid (thru HB2.out hb3)
  clear hb3
  have q0 : w3.cell? ⟨w.heap.size, 0, none⟩ = some (.int .i64 k) := cell_below (HB3.out) (Lib.cell_of_heap HROW.out 0)
  have q1 : w3.cell? ⟨w.heap.size, 1, none⟩ = some (.string nm) := cell_below (HB3.out) (Lib.cell_of_heap HROW.out 1)
  have q2 : w3.cell? ⟨w.heap.size, 2, none⟩ = some (.bool g) := cell_below (HB3.out) (Lib.cell_of_heap HROW.out 2)
  have q3 : w3.cell? ⟨w.heap.size, 3, none⟩ = some (.slice x1 az.length d1) := cell_below (HB3.out) (Lib.cell_of_heap HROW.out 3)
  have q4 : w3.cell? ⟨w.heap.size, 4, none⟩ = some (.slice x2 ws.length d2) := cell_below (HB3.out) (Lib.cell_of_heap HROW.out 4)
  have q5 : w3.cell? ⟨w.heap.size, 5, none⟩ = some (.slice x3 ks.len d3) := cell_below (HB3.out) (Lib.cell_of_heap HROW.out 5)
  have q6 : w3.cell? ⟨w.heap.size, 6, none⟩ = some (.slice x4 bs.length d4) := cell_below (HB3.out) (Lib.cell_of_heap HROW.out 6)
  have q7 : w3.cell? ⟨w.heap.size, 7, none⟩ = some (.slice x5 cz.len d5) := cell_below (HB3.out) (Lib.cell_of_heap HROW.out 7)
  by_cases hz : ks.len = 0
  · have hz' : ((ks.len : Int) == 0) = true := by simp [hz]
    clear hz
    go_wp2_with fail
    go_ret
    exact ⟨rfl, thru HB0.out HB3.out⟩
  have hz' : ((ks.len : Int) == 0) = false := by rw [beq_eq_false_iff_ne]; omega
  have hsh := shallow_all (ks.size + cz.size + 1) k nm g az ws ks bs cz x1 d1 x2 d2 x3 d3 x4 d4 x5 d5 20 w3 (Nat.lt_succ_self _) (by omega) (by omega) (by have := HT.out; unfold totX at this; omega) (HH.out.below (thru HB0.out HB3.out))
  unfold nodeV at hsh
  generalize hD : decide ((max (depN ks) (depN cz) : Nat) ≤ (20 : Int)) = D at hsh
  have HSH := Lib.hid hsh; have HD := Lib.hid hD; have HZ := Lib.hid hz
  clear hsh hD hz
  cases D
  · go_wp2_with fail
    refine (HSH.out).mono ?_
    rintro e w4 ⟨rfl, hb4⟩
    go_wp2_with fail
    go_ret
    exact ⟨rfl, thru HB0.out (thru HB3.out hb4)⟩
  go_wp2_with fail
  refine (HSH.out).mono ?_
  rintro e w4 ⟨rfl, hb4⟩
  clear q0 q1 q2 q3 q4 q5 q6 q7
  have HB4 := Lib.hid (thru HB3.out hb4)
  clear hb4
  have hfair : Fair k nm g az ws ks bs cz := by
    have h1 := HBE.out
    have h2 := HD.out
    simp only [Bool.and_eq_true, beq_iff_eq, decide_eq_true_eq] at h1 h2
    exact ⟨h1.1, h1.2, by have := HZ.out; omega, by omega, HT.out⟩
  have HF := Lib.hid hfair
  clear hfair HBE HD HZ HB1 HB2 HB3 HSH HP HW HA
  have q0 : w4.cell? ⟨w.heap.size, 0, none⟩ = some (.int .i64 k) := cell_below (HB4.out) (Lib.cell_of_heap HROW.out 0)
  have q1 : w4.cell? ⟨w.heap.size, 1, none⟩ = some (.string nm) := cell_below (HB4.out) (Lib.cell_of_heap HROW.out 1)
  have q2 : w4.cell? ⟨w.heap.size, 2, none⟩ = some (.bool g) := cell_below (HB4.out) (Lib.cell_of_heap HROW.out 2)
  have q3 : w4.cell? ⟨w.heap.size, 3, none⟩ = some (.slice x1 az.length d1) := cell_below (HB4.out) (Lib.cell_of_heap HROW.out 3)
  have q4 : w4.cell? ⟨w.heap.size, 4, none⟩ = some (.slice x2 ws.length d2) := cell_below (HB4.out) (Lib.cell_of_heap HROW.out 4)
  have q5 : w4.cell? ⟨w.heap.size, 5, none⟩ = some (.slice x3 ks.len d3) := cell_below (HB4.out) (Lib.cell_of_heap HROW.out 5)
  have q6 : w4.cell? ⟨w.heap.size, 6, none⟩ = some (.slice x4 bs.length d4) := cell_below (HB4.out) (Lib.cell_of_heap HROW.out 6)
  have q7 : w4.cell? ⟨w.heap.size, 7, none⟩ = some (.slice x5 cz.len d5) := cell_below (HB4.out) (Lib.cell_of_heap HROW.out 7)
  go_wp2_with fail
  have hrx := heap_new' w4 (.cells #[.int .i64 k, .string nm, .bool g, .slice x1 az.length d1, .slice x2 ws.length d2, .slice x3 ks.len d3, .slice x4 bs.length d4, .slice x5 cz.len d5] 28)
  have hbx := bel1 w4 (.cells #[.int .i64 k, .string nm, .bool g, .slice x1 az.length d1, .slice x2 ws.length d2, .slice x3 ks.len d3, .slice x4 bs.length d4, .slice x5 cz.len d5] 28)
  have hbp : W0.heap.size ≤ w4.heap.size := HB4.out.size
  have HRX := Lib.hid hrx; have HBX := Lib.hid (thru HB4.out hbx); have HBP := Lib.hid hbp
  clear q0 q1 q2 q3 q4 q5 q6 q7
  clear hrx hbx hbp
  generalize hbx : w4.heap.size = bx at HRX HBP ⊢
  generalize w4.alloc (.cells #[.int .i64 k, .string nm, .bool g, .slice x1 az.length d1, .slice x2 ws.length d2, .slice x3 ks.len d3, .slice x4 bs.length d4, .slice x5 cz.len d5] 28) = W5 at HRX HBX ⊢
  clear hbx HB4
  go_loopw [35] (fun x wr => ∃ (j : Nat) (k' : Int) (nm' : ByteArray) (g' : Bool) (az' : List (ByteArray × PL)) (ws' : List PL) (ks' : NL) (bs' : List Bool) (cz' : NL) (y1 : Option Addr) (e1 : Nat) (y2 : Option Addr) (e2 : Nat) (y3 : Option Addr) (e3 : Nat) (y4 : Option Addr) (e4 : Nat) (y5 : Option Addr) (e5 : Nat), j ≤ deep ∧ x = .int .i64 j ∧ built sA j (.node k nm g az ws ks bs cz .nil) = .node k' nm' g' az' ws' ks' bs' cz' .nil ∧
    wr.heap[bx]? = some (.cells #[.int .i64 k', .string nm', .bool g', .slice y1 az'.length e1, .slice y2 ws'.length e2, .slice y3 ks'.len e3, .slice y4 bs'.length e4, .slice y5 cz'.len e5] 28 (0, 0)) ∧ HoldsX bx wr nm' az' ws' ks' bs' cz' y1 e1 y2 e2 y3 e3 y4 e4 y5 e5 ∧ Below W0.heap.size W0 wr) (fun x wr => deep - (intOf x).toNat)
  case atStart => exact ⟨0, k, nm, g, az, ws, ks, bs, cz, x1, d1, x2, d2, x3, d3, x4, d4, x5, d5, Nat.zero_le _, rfl, rfl, HRX.out, HoldsX.of_below HH.out (thru HB0.out HBX.out) (Nat.le_trans HB0.out.size HBP.out), HBX.out⟩
  case round =>
    obtain ⟨j, k', nm', g', az', ws', ks', bs', cz', y1, e1, y2, e2, y3, e3, y4, e4, y5, e5, hj, rfl, hbu, hrx, hhx, hbw⟩ := hrel
    have HBU := Lib.hid hbu; have HRW := Lib.hid hrx; have HHX := Lib.hid hhx; have HWR := Lib.hid hbw
    clear hbu hrx hhx hbw HRX HBX
    by_cases hlt : j < deep
    · have p0 : wr.cell? ⟨bx, 0, none⟩ = some (.int .i64 k') := Lib.cell_of_heap HRW.out 0
      have p1 : wr.cell? ⟨bx, 1, none⟩ = some (.string nm') := Lib.cell_of_heap HRW.out 1
      have p2 : wr.cell? ⟨bx, 2, none⟩ = some (.bool g') := Lib.cell_of_heap HRW.out 2
      have p3 : wr.cell? ⟨bx, 3, none⟩ = some (.slice y1 az'.length e1) := Lib.cell_of_heap HRW.out 3
      have p4 : wr.cell? ⟨bx, 4, none⟩ = some (.slice y2 ws'.length e2) := Lib.cell_of_heap HRW.out 4
      have p5 : wr.cell? ⟨bx, 5, none⟩ = some (.slice y3 ks'.len e3) := Lib.cell_of_heap HRW.out 5
      have p6 : wr.cell? ⟨bx, 6, none⟩ = some (.slice y4 bs'.length e4) := Lib.cell_of_heap HRW.out 6
      have p7 : wr.cell? ⟨bx, 7, none⟩ = some (.slice y5 cz'.len e5) := Lib.cell_of_heap HRW.out 7
      rcases Nat.mod_two_eq_zero_or_one j with hpar | hpar
      · have hp2 : ((j : Int) % 2 == 1) = false := by rw [beq_eq_false_iff_ne]; omega
        have hkn : kn j = 11 := by unfold kn; rw [hpar]; rfl
        have HKN := Lib.hid hkn
        clear hkn
        go_wp2_with fail
        have hbg := bel2 wr (.cells #[.int .i64 k', .string nm', .bool g', .slice y1 az'.length e1, .slice y2 ws'.length e2, .slice y3 ks'.len e3, .slice y4 bs'.length e4, .slice y5 cz'.len e5] 28) (.cells #[.int .i64 11, .string ⟨#[]⟩, .bool false, .slice none 0 0, .slice none 0 0, .slice (some ⟨wr.heap.size, 0, none⟩) 1 1, .slice none 0 0, .slice none 0 0] 28)
        have hg1 : ((wr.alloc (.cells #[.int .i64 k', .string nm', .bool g', .slice y1 az'.length e1, .slice y2 ws'.length e2, .slice y3 ks'.len e3, .slice y4 bs'.length e4, .slice y5 cz'.len e5] 28)).alloc (.cells #[.int .i64 11, .string ⟨#[]⟩, .bool false, .slice none 0 0, .slice none 0 0, .slice (some ⟨wr.heap.size, 0, none⟩) 1 1, .slice none 0 0, .slice none 0 0] 28)).heap[wr.heap.size]? = some (.cells #[.int .i64 k', .string nm', .bool g', .slice y1 az'.length e1, .slice y2 ws'.length e2, .slice y3 ks'.len e3, .slice y4 bs'.length e4, .slice y5 cz'.len e5] 28 (0, 0)) := (Below.heap_alloc _ _ _ (by simp)).trans (heap_new' _ _)
        have hg2 : ((wr.alloc (.cells #[.int .i64 k', .string nm', .bool g', .slice y1 az'.length e1, .slice y2 ws'.length e2, .slice y3 ks'.len e3, .slice y4 bs'.length e4, .slice y5 cz'.len e5] 28)).alloc (.cells #[.int .i64 11, .string ⟨#[]⟩, .bool false, .slice none 0 0, .slice none 0 0, .slice (some ⟨wr.heap.size, 0, none⟩) 1 1, .slice none 0 0, .slice none 0 0] 28)).heap[wr.heap.size + 1]? = some (.cells #[.int .i64 11, .string ⟨#[]⟩, .bool false, .slice none 0 0, .slice none 0 0, .slice (some ⟨wr.heap.size, 0, none⟩) 1 1, .slice none 0 0, .slice none 0 0] 28 (0, 0)) := by
          have := heap_new' (wr.alloc (.cells #[.int .i64 k', .string nm', .bool g', .slice y1 az'.length e1, .slice y2 ws'.length e2, .slice y3 ks'.len e3, .slice y4 bs'.length e4, .slice y5 cz'.len e5] 28)) (.cells #[.int .i64 11, .string ⟨#[]⟩, .bool false, .slice none 0 0, .slice none 0 0, .slice (some ⟨wr.heap.size, 0, none⟩) 1 1, .slice none 0 0, .slice none 0 0] 28)
          rwa [World.size_alloc] at this
        have hsz : ((wr.alloc (.cells #[.int .i64 k', .string nm', .bool g', .slice y1 az'.length e1, .slice y2 ws'.length e2, .slice y3 ks'.len e3, .slice y4 bs'.length e4, .slice y5 cz'.len e5] 28)).alloc (.cells #[.int .i64 11, .string ⟨#[]⟩, .bool false, .slice none 0 0, .slice none 0 0, .slice (some ⟨wr.heap.size, 0, none⟩) 1 1, .slice none 0 0, .slice none 0 0] 28)).heap.size = wr.heap.size + 2 := by simp
        have hq3 : ((j : Int).tmod 3 == 0) = decide (j % 3 = 0) := by
          rw [Int.tmod_eq_emod_of_nonneg (by omega), Bool.eq_iff_iff, beq_iff_eq, decide_eq_true_iff]; omega
        have BXLT := Lib.hid (Array.getElem?_eq_some_iff.1 HRW.out).1
        have HBG := Lib.hid hbg; have HG1 := Lib.hid hg1; have HG2 := Lib.hid hg2; have HSZ := Lib.hid hsz
        clear hbg hg1 hg2 hsz p0 p1 p2 p3 p4 p5 p6 p7
        generalize ((wr.alloc (.cells #[.int .i64 k', .string nm', .bool g', .slice y1 az'.length e1, .slice y2 ws'.length e2, .slice y3 ks'.len e3, .slice y4 bs'.length e4, .slice y5 cz'.len e5] 28)).alloc (.cells #[.int .i64 11, .string ⟨#[]⟩, .bool false, .slice none 0 0, .slice none 0 0, .slice (some ⟨wr.heap.size, 0, none⟩) 1 1, .slice none 0 0, .slice none 0 0] 28)) = Wg at HBG HG1 HG2 HSZ ⊢
        refine RN.begins (fun w' => w'.heap[wr.heap.size + 1]? = some (.cells #[.int .i64 11, .string ⟨#[]⟩, .bool false, .slice none 0 0, .slice none 0 0, .slice (some ⟨wr.heap.size, 0, none⟩) 1 1, .slice none 0 0, .slice none 0 0] 28 (0, 0))) [10] (by kernel_rfl) ?_
        have hS : Wg.drew.heap[wr.heap.size + 1]? = some (.cells #[.int .i64 11, .string ⟨#[]⟩, .bool false, .slice none 0 0, .slice none 0 0, .slice (some ⟨wr.heap.size, 0, none⟩) 1 1, .slice none 0 0, .slice none 0 0] 28 (0, 0)) := HG2.out
        refine RN.take (i := 0) (v := ?_) rfl (by decide) (by kernel_rfl) (by kernel_rfl) (by kernel_rfl) (by kernel_rfl) (by kernel_rfl) (by first | exact fun _ _ _ h => h | exact fun _ _ _ h => door_put (by decide) h) (.inl ⟨by rfl, ?_⟩) hS ?_
        rotate_left 1
        · (intro wq hq; have s0 : wq.cell? ⟨wr.heap.size + 1, 0, none⟩ = some (.int .i64 11) := Lib.cell_of_heap hq 0; have s1 : wq.cell? ⟨wr.heap.size + 1, 1, none⟩ = some (.string ⟨#[]⟩) := Lib.cell_of_heap hq 1; have s2 : wq.cell? ⟨wr.heap.size + 1, 2, none⟩ = some (.bool false) := Lib.cell_of_heap hq 2; have s3 : wq.cell? ⟨wr.heap.size + 1, 3, none⟩ = some (.slice none 0 0) := Lib.cell_of_heap hq 3; have s4 : wq.cell? ⟨wr.heap.size + 1, 4, none⟩ = some (.slice none 0 0) := Lib.cell_of_heap hq 4; have s5 : wq.cell? ⟨wr.heap.size + 1, 5, none⟩ = some (.slice (some ⟨wr.heap.size, 0, none⟩) 1 1) := Lib.cell_of_heap hq 5; have s6 : wq.cell? ⟨wr.heap.size + 1, 6, none⟩ = some (.slice none 0 0) := Lib.cell_of_heap hq 6; have s7 : wq.cell? ⟨wr.heap.size + 1, 7, none⟩ = some (.slice none 0 0) := Lib.cell_of_heap hq 7; go_simp; try with_reducible rfl)
        refine RN.take (i := 5) (v := ?_) rfl (by decide) (by kernel_rfl) (by kernel_rfl) (by kernel_rfl) (by kernel_rfl) (by kernel_rfl) (by first | exact fun _ _ _ h => h | exact fun _ _ _ h => door_put (by decide) h) (.inl ⟨by rfl, ?_⟩) hS ?_
        rotate_left 1
        · (intro wq hq; have s0 : wq.cell? ⟨wr.heap.size + 1, 0, none⟩ = some (.int .i64 11) := Lib.cell_of_heap hq 0; have s1 : wq.cell? ⟨wr.heap.size + 1, 1, none⟩ = some (.string ⟨#[]⟩) := Lib.cell_of_heap hq 1; have s2 : wq.cell? ⟨wr.heap.size + 1, 2, none⟩ = some (.bool false) := Lib.cell_of_heap hq 2; have s3 : wq.cell? ⟨wr.heap.size + 1, 3, none⟩ = some (.slice none 0 0) := Lib.cell_of_heap hq 3; have s4 : wq.cell? ⟨wr.heap.size + 1, 4, none⟩ = some (.slice none 0 0) := Lib.cell_of_heap hq 4; have s5 : wq.cell? ⟨wr.heap.size + 1, 5, none⟩ = some (.slice (some ⟨wr.heap.size, 0, none⟩) 1 1) := Lib.cell_of_heap hq 5; have s6 : wq.cell? ⟨wr.heap.size + 1, 6, none⟩ = some (.slice none 0 0) := Lib.cell_of_heap hq 6; have s7 : wq.cell? ⟨wr.heap.size + 1, 7, none⟩ = some (.slice none 0 0) := Lib.cell_of_heap hq 7; go_simp; try with_reducible rfl)
        refine RN.take (i := 6) (v := ?_) rfl (by decide) (by kernel_rfl) (by kernel_rfl) (by kernel_rfl) (by kernel_rfl) (by kernel_rfl) (by first | exact fun _ _ _ h => h | exact fun _ _ _ h => door_put (by decide) h) (.inl ⟨by rfl, ?_⟩) hS ?_
        rotate_left 1
        · (intro wq hq; have s0 : wq.cell? ⟨wr.heap.size + 1, 0, none⟩ = some (.int .i64 11) := Lib.cell_of_heap hq 0; have s1 : wq.cell? ⟨wr.heap.size + 1, 1, none⟩ = some (.string ⟨#[]⟩) := Lib.cell_of_heap hq 1; have s2 : wq.cell? ⟨wr.heap.size + 1, 2, none⟩ = some (.bool false) := Lib.cell_of_heap hq 2; have s3 : wq.cell? ⟨wr.heap.size + 1, 3, none⟩ = some (.slice none 0 0) := Lib.cell_of_heap hq 3; have s4 : wq.cell? ⟨wr.heap.size + 1, 4, none⟩ = some (.slice none 0 0) := Lib.cell_of_heap hq 4; have s5 : wq.cell? ⟨wr.heap.size + 1, 5, none⟩ = some (.slice (some ⟨wr.heap.size, 0, none⟩) 1 1) := Lib.cell_of_heap hq 5; have s6 : wq.cell? ⟨wr.heap.size + 1, 6, none⟩ = some (.slice none 0 0) := Lib.cell_of_heap hq 6; have s7 : wq.cell? ⟨wr.heap.size + 1, 7, none⟩ = some (.slice none 0 0) := Lib.cell_of_heap hq 7; go_simp; try with_reducible rfl)
        refine RN.take (i := 7) (v := ?_) rfl (by decide) (by kernel_rfl) (by kernel_rfl) (by kernel_rfl) (by kernel_rfl) (by kernel_rfl) (by first | exact fun _ _ _ h => h | exact fun _ _ _ h => door_put (by decide) h) (.inl ⟨by rfl, ?_⟩) hS ?_
        rotate_left 1
        · (intro wq hq; have s0 : wq.cell? ⟨wr.heap.size + 1, 0, none⟩ = some (.int .i64 11) := Lib.cell_of_heap hq 0; have s1 : wq.cell? ⟨wr.heap.size + 1, 1, none⟩ = some (.string ⟨#[]⟩) := Lib.cell_of_heap hq 1; have s2 : wq.cell? ⟨wr.heap.size + 1, 2, none⟩ = some (.bool false) := Lib.cell_of_heap hq 2; have s3 : wq.cell? ⟨wr.heap.size + 1, 3, none⟩ = some (.slice none 0 0) := Lib.cell_of_heap hq 3; have s4 : wq.cell? ⟨wr.heap.size + 1, 4, none⟩ = some (.slice none 0 0) := Lib.cell_of_heap hq 4; have s5 : wq.cell? ⟨wr.heap.size + 1, 5, none⟩ = some (.slice (some ⟨wr.heap.size, 0, none⟩) 1 1) := Lib.cell_of_heap hq 5; have s6 : wq.cell? ⟨wr.heap.size + 1, 6, none⟩ = some (.slice none 0 0) := Lib.cell_of_heap hq 6; have s7 : wq.cell? ⟨wr.heap.size + 1, 7, none⟩ = some (.slice none 0 0) := Lib.cell_of_heap hq 7; go_simp; try with_reducible rfl)
        refine RN.all (rs := [1, 8]) (by kernel_rfl) (by simp) ?_
        refine RN.All.cons rfl (fun K hK => ?_) (RN.All.cons rfl (fun K hK => ?_) RN.All.nil)
        · go_simp
          have hsim := simple_any Wg.drew
          unfold Simple1 nodeV at hsim
          refine hsim.mono ?_
          clear hsim
          rintro e w1 ⟨⟨xs, ds, rfl, hs⟩, hsb⟩
          have HWC := Lib.hid (⟨rfl, rfl, rfl, Nat.le_refl _, fun _ _ => rfl⟩ : Below Wg.heap.size Wg Wg.drew)
          have hSg : w1.heap[wr.heap.size + 1]? = some (.cells #[.int .i64 11, .string ⟨#[]⟩, .bool false, .slice none 0 0, .slice none 0 0, .slice (some ⟨wr.heap.size, 0, none⟩) 1 1, .slice none 0 0, .slice none 0 0] 28 (0, 0)) := (hsb.block _ (Array.getElem?_eq_some_iff.1 hS).1).trans hS
          have hbx1 := Nat.lt_of_lt_of_le BXLT.out (Nat.le_trans HBG.out.size (Nat.le_trans HWC.out.size hsb.size))
          have HRX1 := Lib.hid ((hsb.block bx (Nat.lt_of_lt_of_le BXLT.out (Nat.le_trans HBG.out.size HWC.out.size))).trans ((HWC.out.block bx (Nat.lt_of_lt_of_le BXLT.out HBG.out.size)).trans ((HBG.out.block bx BXLT.out).trans HRW.out)))
          have HBX1 := Lib.hid hbx1; have HSB := Lib.hid hsb; have HSM := Lib.hid hs
          clear hs hbx1 hsb hS
          have hS := hSg
          refine hK _ _ (fun _ => hS) ?_
          clear hK K
          refine RN.all (rs := [2, 8]) (by kernel_rfl) (by simp) ?_
          refine RN.All.cons rfl (fun K hK => ?_) (RN.All.cons rfl (fun K hK => ?_) RN.All.nil)
          · have hS2 : (w1.alloc (.cells #[.int .i64 1, .string ⟨#[]⟩, .bool false, .slice none 0 0, .slice xs 1 ds, .slice none 0 0, .slice none 0 0, .slice none 0 0] 28)).heap[wr.heap.size + 1]? = some (.cells #[.int .i64 11, .string ⟨#[]⟩, .bool false, .slice none 0 0, .slice none 0 0, .slice (some ⟨wr.heap.size, 0, none⟩) 1 1, .slice none 0 0, .slice none 0 0] 28 (0, 0)) := (Below.heap_alloc w1 (.cells #[.int .i64 1, .string ⟨#[]⟩, .bool false, .slice none 0 0, .slice xs 1 ds, .slice none 0 0, .slice none 0 0, .slice none 0 0] 28) _ (Array.getElem?_eq_some_iff.1 hS).1).trans hS
            clear hS
            have hS := hS2
            clear hS2
            go_simp
            refine hK _ _ (fun _ => hS) ?_
            clear hK K
            refine RN.take (i := 3) (v := ?_) rfl (by decide) (by kernel_rfl) (by kernel_rfl) (by kernel_rfl) (by kernel_rfl) (by kernel_rfl) (by first | exact fun _ _ _ h => h | exact fun _ _ _ h => door_put (by decide) h) (.inl ⟨by rfl, ?_⟩) hS ?_
            rotate_left 1
            · (intro wq hq; skip; go_simp; try with_reducible rfl)
            refine RN.all (rs := [4, 8]) (by kernel_rfl) (by simp) ?_
            refine RN.All.cons rfl (fun K hK => ?_) (RN.All.cons rfl (fun K hK => ?_) RN.All.nil)
            · have hS2 : ((w1.alloc (.cells #[.int .i64 1, .string ⟨#[]⟩, .bool false, .slice none 0 0, .slice xs 1 ds, .slice none 0 0, .slice none 0 0, .slice none 0 0] 28)).alloc (.cells #[.int .i64 11, .string ⟨#[]⟩, .bool false, .slice none 0 0, .slice none 0 0, .slice (some ⟨wr.heap.size, 0, none⟩) 1 1, .slice none 0 0, .slice none 0 0, .int .i64 4, .string ⟨#[]⟩, .bool false, .slice none 0 0, .slice none 0 0, .slice (some ⟨w1.heap.size, 0, none⟩) 1 1, .slice none 0 0, .slice none 0 0] 28)).heap[wr.heap.size + 1]? = some (.cells #[.int .i64 11, .string ⟨#[]⟩, .bool false, .slice none 0 0, .slice none 0 0, .slice (some ⟨wr.heap.size, 0, none⟩) 1 1, .slice none 0 0, .slice none 0 0] 28 (0, 0)) := (Below.heap_alloc (w1.alloc (.cells #[.int .i64 1, .string ⟨#[]⟩, .bool false, .slice none 0 0, .slice xs 1 ds, .slice none 0 0, .slice none 0 0, .slice none 0 0] 28)) (.cells #[.int .i64 11, .string ⟨#[]⟩, .bool false, .slice none 0 0, .slice none 0 0, .slice (some ⟨wr.heap.size, 0, none⟩) 1 1, .slice none 0 0, .slice none 0 0, .int .i64 4, .string ⟨#[]⟩, .bool false, .slice none 0 0, .slice none 0 0, .slice (some ⟨w1.heap.size, 0, none⟩) 1 1, .slice none 0 0, .slice none 0 0] 28) _ (Array.getElem?_eq_some_iff.1 hS).1).trans hS
              clear hS
              have hS := hS2
              clear hS2
              go_simp
              refine hK _ _ (fun _ => hS) ?_
              clear hK K
              refine RN.all (rs := [8]) (by kernel_rfl) (by simp) ?_
              refine RN.All.cons rfl (fun K hK => ?_) RN.All.nil
              have hS2 : (((w1.alloc (.cells #[.int .i64 1, .string ⟨#[]⟩, .bool false, .slice none 0 0, .slice xs 1 ds, .slice none 0 0, .slice none 0 0, .slice none 0 0] 28)).alloc (.cells #[.int .i64 11, .string ⟨#[]⟩, .bool false, .slice none 0 0, .slice none 0 0, .slice (some ⟨wr.heap.size, 0, none⟩) 1 1, .slice none 0 0, .slice none 0 0, .int .i64 4, .string ⟨#[]⟩, .bool false, .slice none 0 0, .slice none 0 0, .slice (some ⟨w1.heap.size, 0, none⟩) 1 1, .slice none 0 0, .slice none 0 0] 28)).alloc (.cells #[.bool (decide (j % 3 = 0)), .bool false] 4)).heap[wr.heap.size + 1]? = some (.cells #[.int .i64 11, .string ⟨#[]⟩, .bool false, .slice none 0 0, .slice none 0 0, .slice (some ⟨wr.heap.size, 0, none⟩) 1 1, .slice none 0 0, .slice none 0 0] 28 (0, 0)) := (Below.heap_alloc ((w1.alloc (.cells #[.int .i64 1, .string ⟨#[]⟩, .bool false, .slice none 0 0, .slice xs 1 ds, .slice none 0 0, .slice none 0 0, .slice none 0 0] 28)).alloc (.cells #[.int .i64 11, .string ⟨#[]⟩, .bool false, .slice none 0 0, .slice none 0 0, .slice (some ⟨wr.heap.size, 0, none⟩) 1 1, .slice none 0 0, .slice none 0 0, .int .i64 4, .string ⟨#[]⟩, .bool false, .slice none 0 0, .slice none 0 0, .slice (some ⟨w1.heap.size, 0, none⟩) 1 1, .slice none 0 0, .slice none 0 0] 28)) (.cells #[.bool (decide (j % 3 = 0)), .bool false] 4) _ (Array.getElem?_eq_some_iff.1 hS).1).trans hS
              clear hS
              have hS := hS2
              clear hS2
              go_simp
              refine hK _ _ (fun _ => hS) ?_
              clear hK K
              have hnew := three_new w1 (.cells #[.int .i64 1, .string ⟨#[]⟩, .bool false, .slice none 0 0, .slice xs 1 ds, .slice none 0 0, .slice none 0 0, .slice none 0 0] 28) (.cells #[.int .i64 11, .string ⟨#[]⟩, .bool false, .slice none 0 0, .slice none 0 0, .slice (some ⟨wr.heap.size, 0, none⟩) 1 1, .slice none 0 0, .slice none 0 0, .int .i64 4, .string ⟨#[]⟩, .bool false, .slice none 0 0, .slice none 0 0, .slice (some ⟨w1.heap.size, 0, none⟩) 1 1, .slice none 0 0, .slice none 0 0] 28) (.cells #[.bool (decide (j % 3 = 0)), .bool false] 4)
              have hxr : (((w1.alloc (.cells #[.int .i64 1, .string ⟨#[]⟩, .bool false, .slice none 0 0, .slice xs 1 ds, .slice none 0 0, .slice none 0 0, .slice none 0 0] 28)).alloc (.cells #[.int .i64 11, .string ⟨#[]⟩, .bool false, .slice none 0 0, .slice none 0 0, .slice (some ⟨wr.heap.size, 0, none⟩) 1 1, .slice none 0 0, .slice none 0 0, .int .i64 4, .string ⟨#[]⟩, .bool false, .slice none 0 0, .slice none 0 0, .slice (some ⟨w1.heap.size, 0, none⟩) 1 1, .slice none 0 0, .slice none 0 0] 28)).alloc (.cells #[.bool (decide (j % 3 = 0)), .bool false] 4)).heap[bx]? = some (.cells #[.int .i64 k', .string nm', .bool g', .slice y1 az'.length e1, .slice y2 ws'.length e2, .slice y3 ks'.len e3, .slice y4 bs'.length e4, .slice y5 cz'.len e5] 28 (0, 0)) := (hnew.2.2.2.block _ HBX1.out).trans HRX1.out
              have hS9 : (((w1.alloc (.cells #[.int .i64 1, .string ⟨#[]⟩, .bool false, .slice none 0 0, .slice xs 1 ds, .slice none 0 0, .slice none 0 0, .slice none 0 0] 28)).alloc (.cells #[.int .i64 11, .string ⟨#[]⟩, .bool false, .slice none 0 0, .slice none 0 0, .slice (some ⟨wr.heap.size, 0, none⟩) 1 1, .slice none 0 0, .slice none 0 0, .int .i64 4, .string ⟨#[]⟩, .bool false, .slice none 0 0, .slice none 0 0, .slice (some ⟨w1.heap.size, 0, none⟩) 1 1, .slice none 0 0, .slice none 0 0] 28)).alloc (.cells #[.bool (decide (j % 3 = 0)), .bool false] 4)).heap[wr.heap.size + 1]? = some (.cells #[.int .i64 11, .string ⟨#[]⟩, .bool false, .slice none 0 0, .slice none 0 0, .slice (some ⟨wr.heap.size, 0, none⟩) 1 1, .slice none 0 0, .slice none 0 0] 28 (0, 0)) := (hnew.2.2.2.block _ (Array.getElem?_eq_some_iff.1 hSg).1).trans hSg
              generalize (((w1.alloc (.cells #[.int .i64 1, .string ⟨#[]⟩, .bool false, .slice none 0 0, .slice xs 1 ds, .slice none 0 0, .slice none 0 0, .slice none 0 0] 28)).alloc (.cells #[.int .i64 11, .string ⟨#[]⟩, .bool false, .slice none 0 0, .slice none 0 0, .slice (some ⟨wr.heap.size, 0, none⟩) 1 1, .slice none 0 0, .slice none 0 0, .int .i64 4, .string ⟨#[]⟩, .bool false, .slice none 0 0, .slice none 0 0, .slice (some ⟨w1.heap.size, 0, none⟩) 1 1, .slice none 0 0, .slice none 0 0] 28)).alloc (.cells #[.bool (decide (j % 3 = 0)), .bool false] 4)) = Wd at hnew hxr hS9 ⊢
              have fx : ∀ i, Wd.frozen? ⟨bx, i, none⟩ = false := fun i => frozen_of_row _ _ _ _ _ hxr
              have f0 := fx 0
              have c0 : Wd.cell? ⟨bx, 0, none⟩ = some (.int .i64 k') := Lib.cell_of_heap hxr 0
              have f1 := fx 1
              have c1 : Wd.cell? ⟨bx, 1, none⟩ = some (.string nm') := Lib.cell_of_heap hxr 1
              have f2 := fx 2
              have c2 : Wd.cell? ⟨bx, 2, none⟩ = some (.bool g') := Lib.cell_of_heap hxr 2
              have f3 := fx 3
              have c3 : Wd.cell? ⟨bx, 3, none⟩ = some (.slice y1 az'.length e1) := Lib.cell_of_heap hxr 3
              have f4 := fx 4
              have c4 : Wd.cell? ⟨bx, 4, none⟩ = some (.slice y2 ws'.length e2) := Lib.cell_of_heap hxr 4
              have f5 := fx 5
              have c5 : Wd.cell? ⟨bx, 5, none⟩ = some (.slice y3 ks'.len e3) := Lib.cell_of_heap hxr 5
              have f6 := fx 6
              have c6 : Wd.cell? ⟨bx, 6, none⟩ = some (.slice y4 bs'.length e4) := Lib.cell_of_heap hxr 6
              have f7 := fx 7
              have c7 : Wd.cell? ⟨bx, 7, none⟩ = some (.slice y5 cz'.len e5) := Lib.cell_of_heap hxr 7
              have HNEW := Lib.hid hnew; have HXR := Lib.hid hxr
              clear hnew hxr fx hS
              have hS := hS9
              refine RN.take (i := 9) (v := ?_) rfl (by decide) (by kernel_rfl) (by kernel_rfl) (by kernel_rfl) (by kernel_rfl) (by kernel_rfl) (by first | exact fun _ _ _ h => h | exact fun _ _ _ h => door_put (by decide) h) (.inl ⟨by rfl, ?_⟩) hS ?_
              rotate_left 1
              · (intro wq hq; skip; go_simp; try with_reducible rfl)
              refine RN.all (rs := [10]) (by kernel_rfl) (by simp) ?_
              refine RN.All.cons rfl (fun K hK => ?_) RN.All.nil
              go_simp
              refine hK _ _ (fun h => absurd h (by decide)) ?_
              clear hK K
              refine RN.done (by kernel_rfl) ?_ _
              have hst := stored Wd bx (.int .i64 5) (.string ⟨#[]⟩) (.bool false) (.slice none 0 0) (.slice none 0 0) (.slice (some ⟨w1.heap.size + 1, 0, none⟩) 2 2) (.slice (some ⟨w1.heap.size + 1 + 1, 0, none⟩) 2 2) (.slice none 0 0) _ _ _ _ _ _ _ _ _ HXR.out
              generalize ((((((((Wd.setCell ⟨bx, 0, none⟩ (.int .i64 5)).setCell ⟨bx, 1, none⟩ (.string ⟨#[]⟩)).setCell ⟨bx, 2, none⟩ (.bool false)).setCell ⟨bx, 3, none⟩ (.slice none 0 0)).setCell ⟨bx, 4, none⟩ (.slice none 0 0)).setCell ⟨bx, 5, none⟩ (.slice (some ⟨w1.heap.size + 1, 0, none⟩) 2 2)).setCell ⟨bx, 6, none⟩ (.slice (some ⟨w1.heap.size + 1 + 1, 0, none⟩) 2 2)).setCell ⟨bx, 7, none⟩ (.slice none 0 0)) = W6 at hst ⊢
              have r4 : Wd.heap[w1.heap.size + 1 + 1]? = some (.cells #[.bool (decide (j % 3 = 0)), .bool false] 4 (0, 0)) := HNEW.out.2.2.1
              have hbx1 := HBX1.out
              have hbxg := Nat.lt_of_lt_of_le BXLT.out HBG.out.size
              have hgr := grown HHX.out HBG.out HG1.out BXLT.out HWC.out HSM.out HSB.out HNEW.out.2.2.2 HNEW.out.1 (by omega) HNEW.out.2.1 (by omega) r4 (by omega)
              have hrl := hgr.fr hst.2
              have hbl : Below W0.heap.size W0 W6 := hst.2.below (thru HWR.out (thru HBG.out (thru HWC.out (thru HSB.out HNEW.out.2.2.2)))) HBP.out
              have hbt : built sA (j + 1) (.node k nm g az ws ks bs cz .nil) = .node 5 ⟨#[]⟩ false [] [] (.node 11 ⟨#[]⟩ false [] [] (.node k' nm' g' az' ws' ks' bs' cz' .nil) [] .nil (.node 4 ⟨#[]⟩ false [] [] sA [] .nil .nil)) [decide (j % 3 = 0), false] .nil .nil := by simp only [built, HKN.out, HBU.out]
              have HST := Lib.hid hst; have HRL := Lib.hid hrl; have HBL := Lib.hid hbl; have HBT := Lib.hid hbt
              clear hst hrl hbl hbt hgr r4 hS hS9 hSg c0 c1 c2 c3 c4 c5 c6 c7 f0 f1 f2 f3 f4 f5 f6 f7 hbx1 hbxg
              go_wp2_with fail
              go_roundw
              case rel => exact ⟨j + 1, 5, ⟨#[]⟩, false, [], [], _, [decide (j % 3 = 0), false], .nil, none, 0, none, 0, some ⟨w1.heap.size + 1, 0, none⟩, 2, some ⟨w1.heap.size + 1 + 1, 0, none⟩, 2, none, 0, by omega, by go_num, HBT.out, HST.out.1, HRL.out, HBL.out⟩
              case measure => simp [intOf]; omega
            · have hS2 : ((w1.alloc (.cells #[.int .i64 1, .string ⟨#[]⟩, .bool false, .slice none 0 0, .slice xs 1 ds, .slice none 0 0, .slice none 0 0, .slice none 0 0] 28)).alloc (.cells #[.bool (decide (j % 3 = 0)), .bool false] 4)).heap[wr.heap.size + 1]? = some (.cells #[.int .i64 11, .string ⟨#[]⟩, .bool false, .slice none 0 0, .slice none 0 0, .slice (some ⟨wr.heap.size, 0, none⟩) 1 1, .slice none 0 0, .slice none 0 0] 28 (0, 0)) := (Below.heap_alloc (w1.alloc (.cells #[.int .i64 1, .string ⟨#[]⟩, .bool false, .slice none 0 0, .slice xs 1 ds, .slice none 0 0, .slice none 0 0, .slice none 0 0] 28)) (.cells #[.bool (decide (j % 3 = 0)), .bool false] 4) _ (Array.getElem?_eq_some_iff.1 hS).1).trans hS
              clear hS
              have hS := hS2
              clear hS2
              go_simp
              refine hK _ _ (fun _ => hS) ?_
              clear hK K
              refine RN.all (rs := [4]) (by kernel_rfl) (by simp) ?_
              refine RN.All.cons rfl (fun K hK => ?_) RN.All.nil
              have hS2 : (((w1.alloc (.cells #[.int .i64 1, .string ⟨#[]⟩, .bool false, .slice none 0 0, .slice xs 1 ds, .slice none 0 0, .slice none 0 0, .slice none 0 0] 28)).alloc (.cells #[.bool (decide (j % 3 = 0)), .bool false] 4)).alloc (.cells #[.int .i64 11, .string ⟨#[]⟩, .bool false, .slice none 0 0, .slice none 0 0, .slice (some ⟨wr.heap.size, 0, none⟩) 1 1, .slice none 0 0, .slice none 0 0, .int .i64 4, .string ⟨#[]⟩, .bool false, .slice none 0 0, .slice none 0 0, .slice (some ⟨w1.heap.size, 0, none⟩) 1 1, .slice none 0 0, .slice none 0 0] 28)).heap[wr.heap.size + 1]? = some (.cells #[.int .i64 11, .string ⟨#[]⟩, .bool false, .slice none 0 0, .slice none 0 0, .slice (some ⟨wr.heap.size, 0, none⟩) 1 1, .slice none 0 0, .slice none 0 0] 28 (0, 0)) := (Below.heap_alloc ((w1.alloc (.cells #[.int .i64 1, .string ⟨#[]⟩, .bool false, .slice none 0 0, .slice xs 1 ds, .slice none 0 0, .slice none 0 0, .slice none 0 0] 28)).alloc (.cells #[.bool (decide (j % 3 = 0)), .bool false] 4)) (.cells #[.int .i64 11, .string ⟨#[]⟩, .bool false, .slice none 0 0, .slice none 0 0, .slice (some ⟨wr.heap.size, 0, none⟩) 1 1, .slice none 0 0, .slice none 0 0, .int .i64 4, .string ⟨#[]⟩, .bool false, .slice none 0 0, .slice none 0 0, .slice (some ⟨w1.heap.size, 0, none⟩) 1 1, .slice none 0 0, .slice none 0 0] 28) _ (Array.getElem?_eq_some_iff.1 hS).1).trans hS
              clear hS
              have hS := hS2
              clear hS2
              go_simp
              refine hK _ _ (fun _ => hS) ?_
              clear hK K
              have hnew := three_new w1 (.cells #[.int .i64 1, .string ⟨#[]⟩, .bool false, .slice none 0 0, .slice xs 1 ds, .slice none 0 0, .slice none 0 0, .slice none 0 0] 28) (.cells #[.bool (decide (j % 3 = 0)), .bool false] 4) (.cells #[.int .i64 11, .string ⟨#[]⟩, .bool false, .slice none 0 0, .slice none 0 0, .slice (some ⟨wr.heap.size, 0, none⟩) 1 1, .slice none 0 0, .slice none 0 0, .int .i64 4, .string ⟨#[]⟩, .bool false, .slice none 0 0, .slice none 0 0, .slice (some ⟨w1.heap.size, 0, none⟩) 1 1, .slice none 0 0, .slice none 0 0] 28)
              have hxr : (((w1.alloc (.cells #[.int .i64 1, .string ⟨#[]⟩, .bool false, .slice none 0 0, .slice xs 1 ds, .slice none 0 0, .slice none 0 0, .slice none 0 0] 28)).alloc (.cells #[.bool (decide (j % 3 = 0)), .bool false] 4)).alloc (.cells #[.int .i64 11, .string ⟨#[]⟩, .bool false, .slice none 0 0, .slice none 0 0, .slice (some ⟨wr.heap.size, 0, none⟩) 1 1, .slice none 0 0, .slice none 0 0, .int .i64 4, .string ⟨#[]⟩, .bool false, .slice none 0 0, .slice none 0 0, .slice (some ⟨w1.heap.size, 0, none⟩) 1 1, .slice none 0 0, .slice none 0 0] 28)).heap[bx]? = some (.cells #[.int .i64 k', .string nm', .bool g', .slice y1 az'.length e1, .slice y2 ws'.length e2, .slice y3 ks'.len e3, .slice y4 bs'.length e4, .slice y5 cz'.len e5] 28 (0, 0)) := (hnew.2.2.2.block _ HBX1.out).trans HRX1.out
              have hS9 : (((w1.alloc (.cells #[.int .i64 1, .string ⟨#[]⟩, .bool false, .slice none 0 0, .slice xs 1 ds, .slice none 0 0, .slice none 0 0, .slice none 0 0] 28)).alloc (.cells #[.bool (decide (j % 3 = 0)), .bool false] 4)).alloc (.cells #[.int .i64 11, .string ⟨#[]⟩, .bool false, .slice none 0 0, .slice none 0 0, .slice (some ⟨wr.heap.size, 0, none⟩) 1 1, .slice none 0 0, .slice none 0 0, .int .i64 4, .string ⟨#[]⟩, .bool false, .slice none 0 0, .slice none 0 0, .slice (some ⟨w1.heap.size, 0, none⟩) 1 1, .slice none 0 0, .slice none 0 0] 28)).heap[wr.heap.size + 1]? = some (.cells #[.int .i64 11, .string ⟨#[]⟩, .bool false, .slice none 0 0, .slice none 0 0, .slice (some ⟨wr.heap.size, 0, none⟩) 1 1, .slice none 0 0, .slice none 0 0] 28 (0, 0)) := (hnew.2.2.2.block _ (Array.getElem?_eq_some_iff.1 hSg).1).trans hSg
              generalize (((w1.alloc (.cells #[.int .i64 1, .string ⟨#[]⟩, .bool false, .slice none 0 0, .slice xs 1 ds, .slice none 0 0, .slice none 0 0, .slice none 0 0] 28)).alloc (.cells #[.bool (decide (j % 3 = 0)), .bool false] 4)).alloc (.cells #[.int .i64 11, .string ⟨#[]⟩, .bool false, .slice none 0 0, .slice none 0 0, .slice (some ⟨wr.heap.size, 0, none⟩) 1 1, .slice none 0 0, .slice none 0 0, .int .i64 4, .string ⟨#[]⟩, .bool false, .slice none 0 0, .slice none 0 0, .slice (some ⟨w1.heap.size, 0, none⟩) 1 1, .slice none 0 0, .slice none 0 0] 28)) = Wd at hnew hxr hS9 ⊢
              have fx : ∀ i, Wd.frozen? ⟨bx, i, none⟩ = false := fun i => frozen_of_row _ _ _ _ _ hxr
              have f0 := fx 0
              have c0 : Wd.cell? ⟨bx, 0, none⟩ = some (.int .i64 k') := Lib.cell_of_heap hxr 0
              have f1 := fx 1
              have c1 : Wd.cell? ⟨bx, 1, none⟩ = some (.string nm') := Lib.cell_of_heap hxr 1
              have f2 := fx 2
              have c2 : Wd.cell? ⟨bx, 2, none⟩ = some (.bool g') := Lib.cell_of_heap hxr 2
              have f3 := fx 3
              have c3 : Wd.cell? ⟨bx, 3, none⟩ = some (.slice y1 az'.length e1) := Lib.cell_of_heap hxr 3
              have f4 := fx 4
              have c4 : Wd.cell? ⟨bx, 4, none⟩ = some (.slice y2 ws'.length e2) := Lib.cell_of_heap hxr 4
              have f5 := fx 5
              have c5 : Wd.cell? ⟨bx, 5, none⟩ = some (.slice y3 ks'.len e3) := Lib.cell_of_heap hxr 5
              have f6 := fx 6
              have c6 : Wd.cell? ⟨bx, 6, none⟩ = some (.slice y4 bs'.length e4) := Lib.cell_of_heap hxr 6
              have f7 := fx 7
              have c7 : Wd.cell? ⟨bx, 7, none⟩ = some (.slice y5 cz'.len e5) := Lib.cell_of_heap hxr 7
              have HNEW := Lib.hid hnew; have HXR := Lib.hid hxr
              clear hnew hxr fx hS
              have hS := hS9
              refine RN.take (i := 9) (v := ?_) rfl (by decide) (by kernel_rfl) (by kernel_rfl) (by kernel_rfl) (by kernel_rfl) (by kernel_rfl) (by first | exact fun _ _ _ h => h | exact fun _ _ _ h => door_put (by decide) h) (.inl ⟨by rfl, ?_⟩) hS ?_
              rotate_left 1
              · (intro wq hq; skip; go_simp; try with_reducible rfl)
              refine RN.all (rs := [10]) (by kernel_rfl) (by simp) ?_
              refine RN.All.cons rfl (fun K hK => ?_) RN.All.nil
              go_simp
              refine hK _ _ (fun h => absurd h (by decide)) ?_
              clear hK K
              refine RN.done (by kernel_rfl) ?_ _
              have hst := stored Wd bx (.int .i64 5) (.string ⟨#[]⟩) (.bool false) (.slice none 0 0) (.slice none 0 0) (.slice (some ⟨w1.heap.size + 1 + 1, 0, none⟩) 2 2) (.slice (some ⟨w1.heap.size + 1, 0, none⟩) 2 2) (.slice none 0 0) _ _ _ _ _ _ _ _ _ HXR.out
              generalize ((((((((Wd.setCell ⟨bx, 0, none⟩ (.int .i64 5)).setCell ⟨bx, 1, none⟩ (.string ⟨#[]⟩)).setCell ⟨bx, 2, none⟩ (.bool false)).setCell ⟨bx, 3, none⟩ (.slice none 0 0)).setCell ⟨bx, 4, none⟩ (.slice none 0 0)).setCell ⟨bx, 5, none⟩ (.slice (some ⟨w1.heap.size + 1 + 1, 0, none⟩) 2 2)).setCell ⟨bx, 6, none⟩ (.slice (some ⟨w1.heap.size + 1, 0, none⟩) 2 2)).setCell ⟨bx, 7, none⟩ (.slice none 0 0)) = W6 at hst ⊢
              have r4 : Wd.heap[w1.heap.size + 1]? = some (.cells #[.bool (decide (j % 3 = 0)), .bool false] 4 (0, 0)) := HNEW.out.2.1
              have hbx1 := HBX1.out
              have hbxg := Nat.lt_of_lt_of_le BXLT.out HBG.out.size
              have hgr := grown HHX.out HBG.out HG1.out BXLT.out HWC.out HSM.out HSB.out HNEW.out.2.2.2 HNEW.out.1 (by omega) HNEW.out.2.2.1 (by omega) r4 (by omega)
              have hrl := hgr.fr hst.2
              have hbl : Below W0.heap.size W0 W6 := hst.2.below (thru HWR.out (thru HBG.out (thru HWC.out (thru HSB.out HNEW.out.2.2.2)))) HBP.out
              have hbt : built sA (j + 1) (.node k nm g az ws ks bs cz .nil) = .node 5 ⟨#[]⟩ false [] [] (.node 11 ⟨#[]⟩ false [] [] (.node k' nm' g' az' ws' ks' bs' cz' .nil) [] .nil (.node 4 ⟨#[]⟩ false [] [] sA [] .nil .nil)) [decide (j % 3 = 0), false] .nil .nil := by simp only [built, HKN.out, HBU.out]
              have HST := Lib.hid hst; have HRL := Lib.hid hrl; have HBL := Lib.hid hbl; have HBT := Lib.hid hbt
              clear hst hrl hbl hbt hgr r4 hS hS9 hSg c0 c1 c2 c3 c4 c5 c6 c7 f0 f1 f2 f3 f4 f5 f6 f7 hbx1 hbxg
              go_wp2_with fail
              go_roundw
              case rel => exact ⟨j + 1, 5, ⟨#[]⟩, false, [], [], _, [decide (j % 3 = 0), false], .nil, none, 0, none, 0, some ⟨w1.heap.size + 1 + 1, 0, none⟩, 2, some ⟨w1.heap.size + 1, 0, none⟩, 2, none, 0, by omega, by go_num, HBT.out, HST.out.1, HRL.out, HBL.out⟩
              case measure => simp [intOf]; omega
          · have hS2 : (w1.alloc (.cells #[.bool (decide (j % 3 = 0)), .bool false] 4)).heap[wr.heap.size + 1]? = some (.cells #[.int .i64 11, .string ⟨#[]⟩, .bool false, .slice none 0 0, .slice none 0 0, .slice (some ⟨wr.heap.size, 0, none⟩) 1 1, .slice none 0 0, .slice none 0 0] 28 (0, 0)) := (Below.heap_alloc w1 (.cells #[.bool (decide (j % 3 = 0)), .bool false] 4) _ (Array.getElem?_eq_some_iff.1 hS).1).trans hS
            clear hS
            have hS := hS2
            clear hS2
            go_simp
            refine hK _ _ (fun _ => hS) ?_
            clear hK K
            refine RN.all (rs := [2]) (by kernel_rfl) (by simp) ?_
            refine RN.All.cons rfl (fun K hK => ?_) RN.All.nil
            have hS2 : ((w1.alloc (.cells #[.bool (decide (j % 3 = 0)), .bool false] 4)).alloc (.cells #[.int .i64 1, .string ⟨#[]⟩, .bool false, .slice none 0 0, .slice xs 1 ds, .slice none 0 0, .slice none 0 0, .slice none 0 0] 28)).heap[wr.heap.size + 1]? = some (.cells #[.int .i64 11, .string ⟨#[]⟩, .bool false, .slice none 0 0, .slice none 0 0, .slice (some ⟨wr.heap.size, 0, none⟩) 1 1, .slice none 0 0, .slice none 0 0] 28 (0, 0)) := (Below.heap_alloc (w1.alloc (.cells #[.bool (decide (j % 3 = 0)), .bool false] 4)) (.cells #[.int .i64 1, .string ⟨#[]⟩, .bool false, .slice none 0 0, .slice xs 1 ds, .slice none 0 0, .slice none 0 0, .slice none 0 0] 28) _ (Array.getElem?_eq_some_iff.1 hS).1).trans hS
            clear hS
            have hS := hS2
            clear hS2
            go_simp
            refine hK _ _ (fun _ => hS) ?_
            clear hK K
            refine RN.take (i := 3) (v := ?_) rfl (by decide) (by kernel_rfl) (by kernel_rfl) (by kernel_rfl) (by kernel_rfl) (by kernel_rfl) (by first | exact fun _ _ _ h => h | exact fun _ _ _ h => door_put (by decide) h) (.inl ⟨by rfl, ?_⟩) hS ?_
            rotate_left 1
            · (intro wq hq; skip; go_simp; try with_reducible rfl)
            refine RN.all (rs := [4]) (by kernel_rfl) (by simp) ?_
            refine RN.All.cons rfl (fun K hK => ?_) RN.All.nil
            have hS2 : (((w1.alloc (.cells #[.bool (decide (j % 3 = 0)), .bool false] 4)).alloc (.cells #[.int .i64 1, .string ⟨#[]⟩, .bool false, .slice none 0 0, .slice xs 1 ds, .slice none 0 0, .slice none 0 0, .slice none 0 0] 28)).alloc (.cells #[.int .i64 11, .string ⟨#[]⟩, .bool false, .slice none 0 0, .slice none 0 0, .slice (some ⟨wr.heap.size, 0, none⟩) 1 1, .slice none 0 0, .slice none 0 0, .int .i64 4, .string ⟨#[]⟩, .bool false, .slice none 0 0, .slice none 0 0, .slice (some ⟨w1.heap.size + 1, 0, none⟩) 1 1, .slice none 0 0, .slice none 0 0] 28)).heap[wr.heap.size + 1]? = some (.cells #[.int .i64 11, .string ⟨#[]⟩, .bool false, .slice none 0 0, .slice none 0 0, .slice (some ⟨wr.heap.size, 0, none⟩) 1 1, .slice none 0 0, .slice none 0 0] 28 (0, 0)) := (Below.heap_alloc ((w1.alloc (.cells #[.bool (decide (j % 3 = 0)), .bool false] 4)).alloc (.cells #[.int .i64 1, .string ⟨#[]⟩, .bool false, .slice none 0 0, .slice xs 1 ds, .slice none 0 0, .slice none 0 0, .slice none 0 0] 28)) (.cells #[.int .i64 11, .string ⟨#[]⟩, .bool false, .slice none 0 0, .slice none 0 0, .slice (some ⟨wr.heap.size, 0, none⟩) 1 1, .slice none 0 0, .slice none 0 0, .int .i64 4, .string ⟨#[]⟩, .bool false, .slice none 0 0, .slice none 0 0, .slice (some ⟨w1.heap.size + 1, 0, none⟩) 1 1, .slice none 0 0, .slice none 0 0] 28) _ (Array.getElem?_eq_some_iff.1 hS).1).trans hS
            clear hS
            have hS := hS2
            clear hS2
            go_simp
            refine hK _ _ (fun _ => hS) ?_
            clear hK K
            have hnew := three_new w1 (.cells #[.bool (decide (j % 3 = 0)), .bool false] 4) (.cells #[.int .i64 1, .string ⟨#[]⟩, .bool false, .slice none 0 0, .slice xs 1 ds, .slice none 0 0, .slice none 0 0, .slice none 0 0] 28) (.cells #[.int .i64 11, .string ⟨#[]⟩, .bool false, .slice none 0 0, .slice none 0 0, .slice (some ⟨wr.heap.size, 0, none⟩) 1 1, .slice none 0 0, .slice none 0 0, .int .i64 4, .string ⟨#[]⟩, .bool false, .slice none 0 0, .slice none 0 0, .slice (some ⟨w1.heap.size + 1, 0, none⟩) 1 1, .slice none 0 0, .slice none 0 0] 28)
            have hxr : (((w1.alloc (.cells #[.bool (decide (j % 3 = 0)), .bool false] 4)).alloc (.cells #[.int .i64 1, .string ⟨#[]⟩, .bool false, .slice none 0 0, .slice xs 1 ds, .slice none 0 0, .slice none 0 0, .slice none 0 0] 28)).alloc (.cells #[.int .i64 11, .string ⟨#[]⟩, .bool false, .slice none 0 0, .slice none 0 0, .slice (some ⟨wr.heap.size, 0, none⟩) 1 1, .slice none 0 0, .slice none 0 0, .int .i64 4, .string ⟨#[]⟩, .bool false, .slice none 0 0, .slice none 0 0, .slice (some ⟨w1.heap.size + 1, 0, none⟩) 1 1, .slice none 0 0, .slice none 0 0] 28)).heap[bx]? = some (.cells #[.int .i64 k', .string nm', .bool g', .slice y1 az'.length e1, .slice y2 ws'.length e2, .slice y3 ks'.len e3, .slice y4 bs'.length e4, .slice y5 cz'.len e5] 28 (0, 0)) := (hnew.2.2.2.block _ HBX1.out).trans HRX1.out
            have hS9 : (((w1.alloc (.cells #[.bool (decide (j % 3 = 0)), .bool false] 4)).alloc (.cells #[.int .i64 1, .string ⟨#[]⟩, .bool false, .slice none 0 0, .slice xs 1 ds, .slice none 0 0, .slice none 0 0, .slice none 0 0] 28)).alloc (.cells #[.int .i64 11, .string ⟨#[]⟩, .bool false, .slice none 0 0, .slice none 0 0, .slice (some ⟨wr.heap.size, 0, none⟩) 1 1, .slice none 0 0, .slice none 0 0, .int .i64 4, .string ⟨#[]⟩, .bool false, .slice none 0 0, .slice none 0 0, .slice (some ⟨w1.heap.size + 1, 0, none⟩) 1 1, .slice none 0 0, .slice none 0 0] 28)).heap[wr.heap.size + 1]? = some (.cells #[.int .i64 11, .string ⟨#[]⟩, .bool false, .slice none 0 0, .slice none 0 0, .slice (some ⟨wr.heap.size, 0, none⟩) 1 1, .slice none 0 0, .slice none 0 0] 28 (0, 0)) := (hnew.2.2.2.block _ (Array.getElem?_eq_some_iff.1 hSg).1).trans hSg
            generalize (((w1.alloc (.cells #[.bool (decide (j % 3 = 0)), .bool false] 4)).alloc (.cells #[.int .i64 1, .string ⟨#[]⟩, .bool false, .slice none 0 0, .slice xs 1 ds, .slice none 0 0, .slice none 0 0, .slice none 0 0] 28)).alloc (.cells #[.int .i64 11, .string ⟨#[]⟩, .bool false, .slice none 0 0, .slice none 0 0, .slice (some ⟨wr.heap.size, 0, none⟩) 1 1, .slice none 0 0, .slice none 0 0, .int .i64 4, .string ⟨#[]⟩, .bool false, .slice none 0 0, .slice none 0 0, .slice (some ⟨w1.heap.size + 1, 0, none⟩) 1 1, .slice none 0 0, .slice none 0 0] 28)) = Wd at hnew hxr hS9 ⊢
            have fx : ∀ i, Wd.frozen? ⟨bx, i, none⟩ = false := fun i => frozen_of_row _ _ _ _ _ hxr
            have f0 := fx 0
            have c0 : Wd.cell? ⟨bx, 0, none⟩ = some (.int .i64 k') := Lib.cell_of_heap hxr 0
            have f1 := fx 1
            have c1 : Wd.cell? ⟨bx, 1, none⟩ = some (.string nm') := Lib.cell_of_heap hxr 1
            have f2 := fx 2
            have c2 : Wd.cell? ⟨bx, 2, none⟩ = some (.bool g') := Lib.cell_of_heap hxr 2
            have f3 := fx 3
            have c3 : Wd.cell? ⟨bx, 3, none⟩ = some (.slice y1 az'.length e1) := Lib.cell_of_heap hxr 3
            have f4 := fx 4
            have c4 : Wd.cell? ⟨bx, 4, none⟩ = some (.slice y2 ws'.length e2) := Lib.cell_of_heap hxr 4
            have f5 := fx 5
            have c5 : Wd.cell? ⟨bx, 5, none⟩ = some (.slice y3 ks'.len e3) := Lib.cell_of_heap hxr 5
            have f6 := fx 6
            have c6 : Wd.cell? ⟨bx, 6, none⟩ = some (.slice y4 bs'.length e4) := Lib.cell_of_heap hxr 6
            have f7 := fx 7
            have c7 : Wd.cell? ⟨bx, 7, none⟩ = some (.slice y5 cz'.len e5) := Lib.cell_of_heap hxr 7
            have HNEW := Lib.hid hnew; have HXR := Lib.hid hxr
            clear hnew hxr fx hS
            have hS := hS9
            refine RN.take (i := 9) (v := ?_) rfl (by decide) (by kernel_rfl) (by kernel_rfl) (by kernel_rfl) (by kernel_rfl) (by kernel_rfl) (by first | exact fun _ _ _ h => h | exact fun _ _ _ h => door_put (by decide) h) (.inl ⟨by rfl, ?_⟩) hS ?_
            rotate_left 1
            · (intro wq hq; skip; go_simp; try with_reducible rfl)
            refine RN.all (rs := [10]) (by kernel_rfl) (by simp) ?_
            refine RN.All.cons rfl (fun K hK => ?_) RN.All.nil
            go_simp
            refine hK _ _ (fun h => absurd h (by decide)) ?_
            clear hK K
            refine RN.done (by kernel_rfl) ?_ _
            have hst := stored Wd bx (.int .i64 5) (.string ⟨#[]⟩) (.bool false) (.slice none 0 0) (.slice none 0 0) (.slice (some ⟨w1.heap.size + 1 + 1, 0, none⟩) 2 2) (.slice (some ⟨w1.heap.size, 0, none⟩) 2 2) (.slice none 0 0) _ _ _ _ _ _ _ _ _ HXR.out
            generalize ((((((((Wd.setCell ⟨bx, 0, none⟩ (.int .i64 5)).setCell ⟨bx, 1, none⟩ (.string ⟨#[]⟩)).setCell ⟨bx, 2, none⟩ (.bool false)).setCell ⟨bx, 3, none⟩ (.slice none 0 0)).setCell ⟨bx, 4, none⟩ (.slice none 0 0)).setCell ⟨bx, 5, none⟩ (.slice (some ⟨w1.heap.size + 1 + 1, 0, none⟩) 2 2)).setCell ⟨bx, 6, none⟩ (.slice (some ⟨w1.heap.size, 0, none⟩) 2 2)).setCell ⟨bx, 7, none⟩ (.slice none 0 0)) = W6 at hst ⊢
            have r4 : Wd.heap[w1.heap.size]? = some (.cells #[.bool (decide (j % 3 = 0)), .bool false] 4 (0, 0)) := HNEW.out.1
            have hbx1 := HBX1.out
            have hbxg := Nat.lt_of_lt_of_le BXLT.out HBG.out.size
            have hgr := grown HHX.out HBG.out HG1.out BXLT.out HWC.out HSM.out HSB.out HNEW.out.2.2.2 HNEW.out.2.1 (by omega) HNEW.out.2.2.1 (by omega) r4 (by omega)
            have hrl := hgr.fr hst.2
            have hbl : Below W0.heap.size W0 W6 := hst.2.below (thru HWR.out (thru HBG.out (thru HWC.out (thru HSB.out HNEW.out.2.2.2)))) HBP.out
            have hbt : built sA (j + 1) (.node k nm g az ws ks bs cz .nil) = .node 5 ⟨#[]⟩ false [] [] (.node 11 ⟨#[]⟩ false [] [] (.node k' nm' g' az' ws' ks' bs' cz' .nil) [] .nil (.node 4 ⟨#[]⟩ false [] [] sA [] .nil .nil)) [decide (j % 3 = 0), false] .nil .nil := by simp only [built, HKN.out, HBU.out]
            have HST := Lib.hid hst; have HRL := Lib.hid hrl; have HBL := Lib.hid hbl; have HBT := Lib.hid hbt
            clear hst hrl hbl hbt hgr r4 hS hS9 hSg c0 c1 c2 c3 c4 c5 c6 c7 f0 f1 f2 f3 f4 f5 f6 f7 hbx1 hbxg
            go_wp2_with fail
            go_roundw
            case rel => exact ⟨j + 1, 5, ⟨#[]⟩, false, [], [], _, [decide (j % 3 = 0), false], .nil, none, 0, none, 0, some ⟨w1.heap.size + 1 + 1, 0, none⟩, 2, some ⟨w1.heap.size, 0, none⟩, 2, none, 0, by omega, by go_num, HBT.out, HST.out.1, HRL.out, HBL.out⟩
            case measure => simp [intOf]; omega
        · have hS2 : (Wg.alloc (.cells #[.bool (decide (j % 3 = 0)), .bool false] 4)).drew.heap[wr.heap.size + 1]? = some (.cells #[.int .i64 11, .string ⟨#[]⟩, .bool false, .slice none 0 0, .slice none 0 0, .slice (some ⟨wr.heap.size, 0, none⟩) 1 1, .slice none 0 0, .slice none 0 0] 28 (0, 0)) := (Below.heap_alloc Wg (.cells #[.bool (decide (j % 3 = 0)), .bool false] 4) _ (Array.getElem?_eq_some_iff.1 hS).1).trans hS
          clear hS
          have hS := hS2
          clear hS2
          go_simp
          refine hK _ _ (fun _ => hS) ?_
          clear hK K
          refine RN.all (rs := [1]) (by kernel_rfl) (by simp) ?_
          refine RN.All.cons rfl (fun K hK => ?_) RN.All.nil
          go_simp
          have hsim := simple_any (Wg.alloc (.cells #[.bool (decide (j % 3 = 0)), .bool false] 4)).drew
          unfold Simple1 nodeV at hsim
          refine hsim.mono ?_
          clear hsim
          rintro e w1 ⟨⟨xs, ds, rfl, hs⟩, hsb⟩
          have HWC := Lib.hid (let h := bel1 Wg (.cells #[.bool (decide (j % 3 = 0)), .bool false] 4); ⟨h.os, h.tape, h.output, h.size, h.block⟩ : Below Wg.heap.size Wg (Wg.alloc (.cells #[.bool (decide (j % 3 = 0)), .bool false] 4)).drew)
          have hSg : w1.heap[wr.heap.size + 1]? = some (.cells #[.int .i64 11, .string ⟨#[]⟩, .bool false, .slice none 0 0, .slice none 0 0, .slice (some ⟨wr.heap.size, 0, none⟩) 1 1, .slice none 0 0, .slice none 0 0] 28 (0, 0)) := (hsb.block _ (Array.getElem?_eq_some_iff.1 hS).1).trans hS
          have hbx1 := Nat.lt_of_lt_of_le BXLT.out (Nat.le_trans HBG.out.size (Nat.le_trans HWC.out.size hsb.size))
          have HRX1 := Lib.hid ((hsb.block bx (Nat.lt_of_lt_of_le BXLT.out (Nat.le_trans HBG.out.size HWC.out.size))).trans ((HWC.out.block bx (Nat.lt_of_lt_of_le BXLT.out HBG.out.size)).trans ((HBG.out.block bx BXLT.out).trans HRW.out)))
          have HBX1 := Lib.hid hbx1; have HSB := Lib.hid hsb; have HSM := Lib.hid hs
          clear hs hbx1 hsb hS
          have hS := hSg
          refine hK _ _ (fun _ => hS) ?_
          clear hK K
          refine RN.all (rs := [2]) (by kernel_rfl) (by simp) ?_
          refine RN.All.cons rfl (fun K hK => ?_) RN.All.nil
          have hS2 : (w1.alloc (.cells #[.int .i64 1, .string ⟨#[]⟩, .bool false, .slice none 0 0, .slice xs 1 ds, .slice none 0 0, .slice none 0 0, .slice none 0 0] 28)).heap[wr.heap.size + 1]? = some (.cells #[.int .i64 11, .string ⟨#[]⟩, .bool false, .slice none 0 0, .slice none 0 0, .slice (some ⟨wr.heap.size, 0, none⟩) 1 1, .slice none 0 0, .slice none 0 0] 28 (0, 0)) := (Below.heap_alloc w1 (.cells #[.int .i64 1, .string ⟨#[]⟩, .bool false, .slice none 0 0, .slice xs 1 ds, .slice none 0 0, .slice none 0 0, .slice none 0 0] 28) _ (Array.getElem?_eq_some_iff.1 hS).1).trans hS
          clear hS
          have hS := hS2
          clear hS2
          go_simp
          refine hK _ _ (fun _ => hS) ?_
          clear hK K
          refine RN.take (i := 3) (v := ?_) rfl (by decide) (by kernel_rfl) (by kernel_rfl) (by kernel_rfl) (by kernel_rfl) (by kernel_rfl) (by first | exact fun _ _ _ h => h | exact fun _ _ _ h => door_put (by decide) h) (.inl ⟨by rfl, ?_⟩) hS ?_
          rotate_left 1
          · (intro wq hq; skip; go_simp; try with_reducible rfl)
          refine RN.all (rs := [4]) (by kernel_rfl) (by simp) ?_
          refine RN.All.cons rfl (fun K hK => ?_) RN.All.nil
          have hS2 : ((w1.alloc (.cells #[.int .i64 1, .string ⟨#[]⟩, .bool false, .slice none 0 0, .slice xs 1 ds, .slice none 0 0, .slice none 0 0, .slice none 0 0] 28)).alloc (.cells #[.int .i64 11, .string ⟨#[]⟩, .bool false, .slice none 0 0, .slice none 0 0, .slice (some ⟨wr.heap.size, 0, none⟩) 1 1, .slice none 0 0, .slice none 0 0, .int .i64 4, .string ⟨#[]⟩, .bool false, .slice none 0 0, .slice none 0 0, .slice (some ⟨w1.heap.size, 0, none⟩) 1 1, .slice none 0 0, .slice none 0 0] 28)).heap[wr.heap.size + 1]? = some (.cells #[.int .i64 11, .string ⟨#[]⟩, .bool false, .slice none 0 0, .slice none 0 0, .slice (some ⟨wr.heap.size, 0, none⟩) 1 1, .slice none 0 0, .slice none 0 0] 28 (0, 0)) := (Below.heap_alloc (w1.alloc (.cells #[.int .i64 1, .string ⟨#[]⟩, .bool false, .slice none 0 0, .slice xs 1 ds, .slice none 0 0, .slice none 0 0, .slice none 0 0] 28)) (.cells #[.int .i64 11, .string ⟨#[]⟩, .bool false, .slice none 0 0, .slice none 0 0, .slice (some ⟨wr.heap.size, 0, none⟩) 1 1, .slice none 0 0, .slice none 0 0, .int .i64 4, .string ⟨#[]⟩, .bool false, .slice none 0 0, .slice none 0 0, .slice (some ⟨w1.heap.size, 0, none⟩) 1 1, .slice none 0 0, .slice none 0 0] 28) _ (Array.getElem?_eq_some_iff.1 hS).1).trans hS
          clear hS
          have hS := hS2
          clear hS2
          go_simp
          refine hK _ _ (fun _ => hS) ?_
          clear hK K
          have hnew := two_new w1 (.cells #[.int .i64 1, .string ⟨#[]⟩, .bool false, .slice none 0 0, .slice xs 1 ds, .slice none 0 0, .slice none 0 0, .slice none 0 0] 28) (.cells #[.int .i64 11, .string ⟨#[]⟩, .bool false, .slice none 0 0, .slice none 0 0, .slice (some ⟨wr.heap.size, 0, none⟩) 1 1, .slice none 0 0, .slice none 0 0, .int .i64 4, .string ⟨#[]⟩, .bool false, .slice none 0 0, .slice none 0 0, .slice (some ⟨w1.heap.size, 0, none⟩) 1 1, .slice none 0 0, .slice none 0 0] 28)
          have hxr : ((w1.alloc (.cells #[.int .i64 1, .string ⟨#[]⟩, .bool false, .slice none 0 0, .slice xs 1 ds, .slice none 0 0, .slice none 0 0, .slice none 0 0] 28)).alloc (.cells #[.int .i64 11, .string ⟨#[]⟩, .bool false, .slice none 0 0, .slice none 0 0, .slice (some ⟨wr.heap.size, 0, none⟩) 1 1, .slice none 0 0, .slice none 0 0, .int .i64 4, .string ⟨#[]⟩, .bool false, .slice none 0 0, .slice none 0 0, .slice (some ⟨w1.heap.size, 0, none⟩) 1 1, .slice none 0 0, .slice none 0 0] 28)).heap[bx]? = some (.cells #[.int .i64 k', .string nm', .bool g', .slice y1 az'.length e1, .slice y2 ws'.length e2, .slice y3 ks'.len e3, .slice y4 bs'.length e4, .slice y5 cz'.len e5] 28 (0, 0)) := (hnew.2.2.block _ HBX1.out).trans HRX1.out
          have hS9 : ((w1.alloc (.cells #[.int .i64 1, .string ⟨#[]⟩, .bool false, .slice none 0 0, .slice xs 1 ds, .slice none 0 0, .slice none 0 0, .slice none 0 0] 28)).alloc (.cells #[.int .i64 11, .string ⟨#[]⟩, .bool false, .slice none 0 0, .slice none 0 0, .slice (some ⟨wr.heap.size, 0, none⟩) 1 1, .slice none 0 0, .slice none 0 0, .int .i64 4, .string ⟨#[]⟩, .bool false, .slice none 0 0, .slice none 0 0, .slice (some ⟨w1.heap.size, 0, none⟩) 1 1, .slice none 0 0, .slice none 0 0] 28)).heap[wr.heap.size + 1]? = some (.cells #[.int .i64 11, .string ⟨#[]⟩, .bool false, .slice none 0 0, .slice none 0 0, .slice (some ⟨wr.heap.size, 0, none⟩) 1 1, .slice none 0 0, .slice none 0 0] 28 (0, 0)) := (hnew.2.2.block _ (Array.getElem?_eq_some_iff.1 hSg).1).trans hSg
          generalize ((w1.alloc (.cells #[.int .i64 1, .string ⟨#[]⟩, .bool false, .slice none 0 0, .slice xs 1 ds, .slice none 0 0, .slice none 0 0, .slice none 0 0] 28)).alloc (.cells #[.int .i64 11, .string ⟨#[]⟩, .bool false, .slice none 0 0, .slice none 0 0, .slice (some ⟨wr.heap.size, 0, none⟩) 1 1, .slice none 0 0, .slice none 0 0, .int .i64 4, .string ⟨#[]⟩, .bool false, .slice none 0 0, .slice none 0 0, .slice (some ⟨w1.heap.size, 0, none⟩) 1 1, .slice none 0 0, .slice none 0 0] 28)) = Wd at hnew hxr hS9 ⊢
          have fx : ∀ i, Wd.frozen? ⟨bx, i, none⟩ = false := fun i => frozen_of_row _ _ _ _ _ hxr
          have f0 := fx 0
          have c0 : Wd.cell? ⟨bx, 0, none⟩ = some (.int .i64 k') := Lib.cell_of_heap hxr 0
          have f1 := fx 1
          have c1 : Wd.cell? ⟨bx, 1, none⟩ = some (.string nm') := Lib.cell_of_heap hxr 1
          have f2 := fx 2
          have c2 : Wd.cell? ⟨bx, 2, none⟩ = some (.bool g') := Lib.cell_of_heap hxr 2
          have f3 := fx 3
          have c3 : Wd.cell? ⟨bx, 3, none⟩ = some (.slice y1 az'.length e1) := Lib.cell_of_heap hxr 3
          have f4 := fx 4
          have c4 : Wd.cell? ⟨bx, 4, none⟩ = some (.slice y2 ws'.length e2) := Lib.cell_of_heap hxr 4
          have f5 := fx 5
          have c5 : Wd.cell? ⟨bx, 5, none⟩ = some (.slice y3 ks'.len e3) := Lib.cell_of_heap hxr 5
          have f6 := fx 6
          have c6 : Wd.cell? ⟨bx, 6, none⟩ = some (.slice y4 bs'.length e4) := Lib.cell_of_heap hxr 6
          have f7 := fx 7
          have c7 : Wd.cell? ⟨bx, 7, none⟩ = some (.slice y5 cz'.len e5) := Lib.cell_of_heap hxr 7
          have HNEW := Lib.hid hnew; have HXR := Lib.hid hxr
          clear hnew hxr fx hS
          have hS := hS9
          refine RN.take (i := 9) (v := ?_) rfl (by decide) (by kernel_rfl) (by kernel_rfl) (by kernel_rfl) (by kernel_rfl) (by kernel_rfl) (by first | exact fun _ _ _ h => h | exact fun _ _ _ h => door_put (by decide) h) (.inl ⟨by rfl, ?_⟩) hS ?_
          rotate_left 1
          · (intro wq hq; skip; go_simp; try with_reducible rfl)
          refine RN.all (rs := [10]) (by kernel_rfl) (by simp) ?_
          refine RN.All.cons rfl (fun K hK => ?_) RN.All.nil
          go_simp
          refine hK _ _ (fun h => absurd h (by decide)) ?_
          clear hK K
          refine RN.done (by kernel_rfl) ?_ _
          have hst := stored Wd bx (.int .i64 5) (.string ⟨#[]⟩) (.bool false) (.slice none 0 0) (.slice none 0 0) (.slice (some ⟨w1.heap.size + 1, 0, none⟩) 2 2) (.slice (some ⟨Wg.heap.size, 0, none⟩) 2 2) (.slice none 0 0) _ _ _ _ _ _ _ _ _ HXR.out
          generalize ((((((((Wd.setCell ⟨bx, 0, none⟩ (.int .i64 5)).setCell ⟨bx, 1, none⟩ (.string ⟨#[]⟩)).setCell ⟨bx, 2, none⟩ (.bool false)).setCell ⟨bx, 3, none⟩ (.slice none 0 0)).setCell ⟨bx, 4, none⟩ (.slice none 0 0)).setCell ⟨bx, 5, none⟩ (.slice (some ⟨w1.heap.size + 1, 0, none⟩) 2 2)).setCell ⟨bx, 6, none⟩ (.slice (some ⟨Wg.heap.size, 0, none⟩) 2 2)).setCell ⟨bx, 7, none⟩ (.slice none 0 0)) = W6 at hst ⊢
          have r4 : Wd.heap[Wg.heap.size]? = some (.cells #[.bool (decide (j % 3 = 0)), .bool false] 4 (0, 0)) := ((HNEW.out.2.2.block _ (Nat.lt_of_lt_of_le (by rw [World.size_drew, World.size_alloc]; exact Nat.lt_succ_self _) HSB.out.size)).trans ((HSB.out.block _ (by rw [World.size_drew, World.size_alloc]; exact Nat.lt_succ_self _)).trans (heap_new' Wg (.cells #[.bool (decide (j % 3 = 0)), .bool false] 4))))
          have hbx1 := HBX1.out
          have hbxg := Nat.lt_of_lt_of_le BXLT.out HBG.out.size
          have hgr := grown HHX.out HBG.out HG1.out BXLT.out HWC.out HSM.out HSB.out HNEW.out.2.2 HNEW.out.1 (by omega) HNEW.out.2.1 (by omega) r4 (by omega)
          have hrl := hgr.fr hst.2
          have hbl : Below W0.heap.size W0 W6 := hst.2.below (thru HWR.out (thru HBG.out (thru HWC.out (thru HSB.out HNEW.out.2.2)))) HBP.out
          have hbt : built sA (j + 1) (.node k nm g az ws ks bs cz .nil) = .node 5 ⟨#[]⟩ false [] [] (.node 11 ⟨#[]⟩ false [] [] (.node k' nm' g' az' ws' ks' bs' cz' .nil) [] .nil (.node 4 ⟨#[]⟩ false [] [] sA [] .nil .nil)) [decide (j % 3 = 0), false] .nil .nil := by simp only [built, HKN.out, HBU.out]
          have HST := Lib.hid hst; have HRL := Lib.hid hrl; have HBL := Lib.hid hbl; have HBT := Lib.hid hbt
          clear hst hrl hbl hbt hgr r4 hS hS9 hSg c0 c1 c2 c3 c4 c5 c6 c7 f0 f1 f2 f3 f4 f5 f6 f7 hbx1 hbxg
          go_wp2_with fail
          go_roundw
          case rel => exact ⟨j + 1, 5, ⟨#[]⟩, false, [], [], _, [decide (j % 3 = 0), false], .nil, none, 0, none, 0, some ⟨w1.heap.size + 1, 0, none⟩, 2, some ⟨Wg.heap.size, 0, none⟩, 2, none, 0, by omega, by go_num, HBT.out, HST.out.1, HRL.out, HBL.out⟩
          case measure => simp [intOf]; omega
      · have hp2 : ((j : Int) % 2 == 1) = true := by rw [beq_iff_eq]; omega
        have hkn : kn j = 12 := by unfold kn; rw [hpar]; rfl
        have HKN := Lib.hid hkn
        clear hkn
        go_wp2_with fail
        have hbg := bel2 wr (.cells #[.int .i64 k', .string nm', .bool g', .slice y1 az'.length e1, .slice y2 ws'.length e2, .slice y3 ks'.len e3, .slice y4 bs'.length e4, .slice y5 cz'.len e5] 28) (.cells #[.int .i64 12, .string ⟨#[]⟩, .bool false, .slice none 0 0, .slice none 0 0, .slice (some ⟨wr.heap.size, 0, none⟩) 1 1, .slice none 0 0, .slice none 0 0] 28)
        have hg1 : ((wr.alloc (.cells #[.int .i64 k', .string nm', .bool g', .slice y1 az'.length e1, .slice y2 ws'.length e2, .slice y3 ks'.len e3, .slice y4 bs'.length e4, .slice y5 cz'.len e5] 28)).alloc (.cells #[.int .i64 12, .string ⟨#[]⟩, .bool false, .slice none 0 0, .slice none 0 0, .slice (some ⟨wr.heap.size, 0, none⟩) 1 1, .slice none 0 0, .slice none 0 0] 28)).heap[wr.heap.size]? = some (.cells #[.int .i64 k', .string nm', .bool g', .slice y1 az'.length e1, .slice y2 ws'.length e2, .slice y3 ks'.len e3, .slice y4 bs'.length e4, .slice y5 cz'.len e5] 28 (0, 0)) := (Below.heap_alloc _ _ _ (by simp)).trans (heap_new' _ _)
        have hg2 : ((wr.alloc (.cells #[.int .i64 k', .string nm', .bool g', .slice y1 az'.length e1, .slice y2 ws'.length e2, .slice y3 ks'.len e3, .slice y4 bs'.length e4, .slice y5 cz'.len e5] 28)).alloc (.cells #[.int .i64 12, .string ⟨#[]⟩, .bool false, .slice none 0 0, .slice none 0 0, .slice (some ⟨wr.heap.size, 0, none⟩) 1 1, .slice none 0 0, .slice none 0 0] 28)).heap[wr.heap.size + 1]? = some (.cells #[.int .i64 12, .string ⟨#[]⟩, .bool false, .slice none 0 0, .slice none 0 0, .slice (some ⟨wr.heap.size, 0, none⟩) 1 1, .slice none 0 0, .slice none 0 0] 28 (0, 0)) := by
          have := heap_new' (wr.alloc (.cells #[.int .i64 k', .string nm', .bool g', .slice y1 az'.length e1, .slice y2 ws'.length e2, .slice y3 ks'.len e3, .slice y4 bs'.length e4, .slice y5 cz'.len e5] 28)) (.cells #[.int .i64 12, .string ⟨#[]⟩, .bool false, .slice none 0 0, .slice none 0 0, .slice (some ⟨wr.heap.size, 0, none⟩) 1 1, .slice none 0 0, .slice none 0 0] 28)
          rwa [World.size_alloc] at this
        have hsz : ((wr.alloc (.cells #[.int .i64 k', .string nm', .bool g', .slice y1 az'.length e1, .slice y2 ws'.length e2, .slice y3 ks'.len e3, .slice y4 bs'.length e4, .slice y5 cz'.len e5] 28)).alloc (.cells #[.int .i64 12, .string ⟨#[]⟩, .bool false, .slice none 0 0, .slice none 0 0, .slice (some ⟨wr.heap.size, 0, none⟩) 1 1, .slice none 0 0, .slice none 0 0] 28)).heap.size = wr.heap.size + 2 := by simp
        have hq3 : ((j : Int).tmod 3 == 0) = decide (j % 3 = 0) := by
          rw [Int.tmod_eq_emod_of_nonneg (by omega), Bool.eq_iff_iff, beq_iff_eq, decide_eq_true_iff]; omega
        have BXLT := Lib.hid (Array.getElem?_eq_some_iff.1 HRW.out).1
        have HBG := Lib.hid hbg; have HG1 := Lib.hid hg1; have HG2 := Lib.hid hg2; have HSZ := Lib.hid hsz
        clear hbg hg1 hg2 hsz p0 p1 p2 p3 p4 p5 p6 p7
        generalize ((wr.alloc (.cells #[.int .i64 k', .string nm', .bool g', .slice y1 az'.length e1, .slice y2 ws'.length e2, .slice y3 ks'.len e3, .slice y4 bs'.length e4, .slice y5 cz'.len e5] 28)).alloc (.cells #[.int .i64 12, .string ⟨#[]⟩, .bool false, .slice none 0 0, .slice none 0 0, .slice (some ⟨wr.heap.size, 0, none⟩) 1 1, .slice none 0 0, .slice none 0 0] 28)) = Wg at HBG HG1 HG2 HSZ ⊢
        refine RN.begins (fun w' => w'.heap[wr.heap.size + 1]? = some (.cells #[.int .i64 12, .string ⟨#[]⟩, .bool false, .slice none 0 0, .slice none 0 0, .slice (some ⟨wr.heap.size, 0, none⟩) 1 1, .slice none 0 0, .slice none 0 0] 28 (0, 0))) [10] (by kernel_rfl) ?_
        have hS : Wg.drew.heap[wr.heap.size + 1]? = some (.cells #[.int .i64 12, .string ⟨#[]⟩, .bool false, .slice none 0 0, .slice none 0 0, .slice (some ⟨wr.heap.size, 0, none⟩) 1 1, .slice none 0 0, .slice none 0 0] 28 (0, 0)) := HG2.out
        refine RN.take (i := 0) (v := ?_) rfl (by decide) (by kernel_rfl) (by kernel_rfl) (by kernel_rfl) (by kernel_rfl) (by kernel_rfl) (by first | exact fun _ _ _ h => h | exact fun _ _ _ h => door_put (by decide) h) (.inl ⟨by rfl, ?_⟩) hS ?_
        rotate_left 1
        · (intro wq hq; have s0 : wq.cell? ⟨wr.heap.size + 1, 0, none⟩ = some (.int .i64 12) := Lib.cell_of_heap hq 0; have s1 : wq.cell? ⟨wr.heap.size + 1, 1, none⟩ = some (.string ⟨#[]⟩) := Lib.cell_of_heap hq 1; have s2 : wq.cell? ⟨wr.heap.size + 1, 2, none⟩ = some (.bool false) := Lib.cell_of_heap hq 2; have s3 : wq.cell? ⟨wr.heap.size + 1, 3, none⟩ = some (.slice none 0 0) := Lib.cell_of_heap hq 3; have s4 : wq.cell? ⟨wr.heap.size + 1, 4, none⟩ = some (.slice none 0 0) := Lib.cell_of_heap hq 4; have s5 : wq.cell? ⟨wr.heap.size + 1, 5, none⟩ = some (.slice (some ⟨wr.heap.size, 0, none⟩) 1 1) := Lib.cell_of_heap hq 5; have s6 : wq.cell? ⟨wr.heap.size + 1, 6, none⟩ = some (.slice none 0 0) := Lib.cell_of_heap hq 6; have s7 : wq.cell? ⟨wr.heap.size + 1, 7, none⟩ = some (.slice none 0 0) := Lib.cell_of_heap hq 7; go_simp; try with_reducible rfl)
        refine RN.take (i := 5) (v := ?_) rfl (by decide) (by kernel_rfl) (by kernel_rfl) (by kernel_rfl) (by kernel_rfl) (by kernel_rfl) (by first | exact fun _ _ _ h => h | exact fun _ _ _ h => door_put (by decide) h) (.inl ⟨by rfl, ?_⟩) hS ?_
        rotate_left 1
        · (intro wq hq; have s0 : wq.cell? ⟨wr.heap.size + 1, 0, none⟩ = some (.int .i64 12) := Lib.cell_of_heap hq 0; have s1 : wq.cell? ⟨wr.heap.size + 1, 1, none⟩ = some (.string ⟨#[]⟩) := Lib.cell_of_heap hq 1; have s2 : wq.cell? ⟨wr.heap.size + 1, 2, none⟩ = some (.bool false) := Lib.cell_of_heap hq 2; have s3 : wq.cell? ⟨wr.heap.size + 1, 3, none⟩ = some (.slice none 0 0) := Lib.cell_of_heap hq 3; have s4 : wq.cell? ⟨wr.heap.size + 1, 4, none⟩ = some (.slice none 0 0) := Lib.cell_of_heap hq 4; have s5 : wq.cell? ⟨wr.heap.size + 1, 5, none⟩ = some (.slice (some ⟨wr.heap.size, 0, none⟩) 1 1) := Lib.cell_of_heap hq 5; have s6 : wq.cell? ⟨wr.heap.size + 1, 6, none⟩ = some (.slice none 0 0) := Lib.cell_of_heap hq 6; have s7 : wq.cell? ⟨wr.heap.size + 1, 7, none⟩ = some (.slice none 0 0) := Lib.cell_of_heap hq 7; go_simp; try with_reducible rfl)
        refine RN.take (i := 6) (v := ?_) rfl (by decide) (by kernel_rfl) (by kernel_rfl) (by kernel_rfl) (by kernel_rfl) (by kernel_rfl) (by first | exact fun _ _ _ h => h | exact fun _ _ _ h => door_put (by decide) h) (.inl ⟨by rfl, ?_⟩) hS ?_
        rotate_left 1
        · (intro wq hq; have s0 : wq.cell? ⟨wr.heap.size + 1, 0, none⟩ = some (.int .i64 12) := Lib.cell_of_heap hq 0; have s1 : wq.cell? ⟨wr.heap.size + 1, 1, none⟩ = some (.string ⟨#[]⟩) := Lib.cell_of_heap hq 1; have s2 : wq.cell? ⟨wr.heap.size + 1, 2, none⟩ = some (.bool false) := Lib.cell_of_heap hq 2; have s3 : wq.cell? ⟨wr.heap.size + 1, 3, none⟩ = some (.slice none 0 0) := Lib.cell_of_heap hq 3; have s4 : wq.cell? ⟨wr.heap.size + 1, 4, none⟩ = some (.slice none 0 0) := Lib.cell_of_heap hq 4; have s5 : wq.cell? ⟨wr.heap.size + 1, 5, none⟩ = some (.slice (some ⟨wr.heap.size, 0, none⟩) 1 1) := Lib.cell_of_heap hq 5; have s6 : wq.cell? ⟨wr.heap.size + 1, 6, none⟩ = some (.slice none 0 0) := Lib.cell_of_heap hq 6; have s7 : wq.cell? ⟨wr.heap.size + 1, 7, none⟩ = some (.slice none 0 0) := Lib.cell_of_heap hq 7; go_simp; try with_reducible rfl)
        refine RN.take (i := 7) (v := ?_) rfl (by decide) (by kernel_rfl) (by kernel_rfl) (by kernel_rfl) (by kernel_rfl) (by kernel_rfl) (by first | exact fun _ _ _ h => h | exact fun _ _ _ h => door_put (by decide) h) (.inl ⟨by rfl, ?_⟩) hS ?_
        rotate_left 1
        · (intro wq hq; have s0 : wq.cell? ⟨wr.heap.size + 1, 0, none⟩ = some (.int .i64 12) := Lib.cell_of_heap hq 0; have s1 : wq.cell? ⟨wr.heap.size + 1, 1, none⟩ = some (.string ⟨#[]⟩) := Lib.cell_of_heap hq 1; have s2 : wq.cell? ⟨wr.heap.size + 1, 2, none⟩ = some (.bool false) := Lib.cell_of_heap hq 2; have s3 : wq.cell? ⟨wr.heap.size + 1, 3, none⟩ = some (.slice none 0 0) := Lib.cell_of_heap hq 3; have s4 : wq.cell? ⟨wr.heap.size + 1, 4, none⟩ = some (.slice none 0 0) := Lib.cell_of_heap hq 4; have s5 : wq.cell? ⟨wr.heap.size + 1, 5, none⟩ = some (.slice (some ⟨wr.heap.size, 0, none⟩) 1 1) := Lib.cell_of_heap hq 5; have s6 : wq.cell? ⟨wr.heap.size + 1, 6, none⟩ = some (.slice none 0 0) := Lib.cell_of_heap hq 6; have s7 : wq.cell? ⟨wr.heap.size + 1, 7, none⟩ = some (.slice none 0 0) := Lib.cell_of_heap hq 7; go_simp; try with_reducible rfl)
        refine RN.all (rs := [1, 8]) (by kernel_rfl) (by simp) ?_
        refine RN.All.cons rfl (fun K hK => ?_) (RN.All.cons rfl (fun K hK => ?_) RN.All.nil)
        · go_simp
          have hsim := simple_any Wg.drew
          unfold Simple1 nodeV at hsim
          refine hsim.mono ?_
          clear hsim
          rintro e w1 ⟨⟨xs, ds, rfl, hs⟩, hsb⟩
          have HWC := Lib.hid (⟨rfl, rfl, rfl, Nat.le_refl _, fun _ _ => rfl⟩ : Below Wg.heap.size Wg Wg.drew)
          have hSg : w1.heap[wr.heap.size + 1]? = some (.cells #[.int .i64 12, .string ⟨#[]⟩, .bool false, .slice none 0 0, .slice none 0 0, .slice (some ⟨wr.heap.size, 0, none⟩) 1 1, .slice none 0 0, .slice none 0 0] 28 (0, 0)) := (hsb.block _ (Array.getElem?_eq_some_iff.1 hS).1).trans hS
          have hbx1 := Nat.lt_of_lt_of_le BXLT.out (Nat.le_trans HBG.out.size (Nat.le_trans HWC.out.size hsb.size))
          have HRX1 := Lib.hid ((hsb.block bx (Nat.lt_of_lt_of_le BXLT.out (Nat.le_trans HBG.out.size HWC.out.size))).trans ((HWC.out.block bx (Nat.lt_of_lt_of_le BXLT.out HBG.out.size)).trans ((HBG.out.block bx BXLT.out).trans HRW.out)))
          have HBX1 := Lib.hid hbx1; have HSB := Lib.hid hsb; have HSM := Lib.hid hs
          clear hs hbx1 hsb hS
          have hS := hSg
          refine hK _ _ (fun _ => hS) ?_
          clear hK K
          refine RN.all (rs := [2, 8]) (by kernel_rfl) (by simp) ?_
          refine RN.All.cons rfl (fun K hK => ?_) (RN.All.cons rfl (fun K hK => ?_) RN.All.nil)
          · have hS2 : (w1.alloc (.cells #[.int .i64 1, .string ⟨#[]⟩, .bool false, .slice none 0 0, .slice xs 1 ds, .slice none 0 0, .slice none 0 0, .slice none 0 0] 28)).heap[wr.heap.size + 1]? = some (.cells #[.int .i64 12, .string ⟨#[]⟩, .bool false, .slice none 0 0, .slice none 0 0, .slice (some ⟨wr.heap.size, 0, none⟩) 1 1, .slice none 0 0, .slice none 0 0] 28 (0, 0)) := (Below.heap_alloc w1 (.cells #[.int .i64 1, .string ⟨#[]⟩, .bool false, .slice none 0 0, .slice xs 1 ds, .slice none 0 0, .slice none 0 0, .slice none 0 0] 28) _ (Array.getElem?_eq_some_iff.1 hS).1).trans hS
            clear hS
            have hS := hS2
            clear hS2
            go_simp
            refine hK _ _ (fun _ => hS) ?_
            clear hK K
            refine RN.take (i := 3) (v := ?_) rfl (by decide) (by kernel_rfl) (by kernel_rfl) (by kernel_rfl) (by kernel_rfl) (by kernel_rfl) (by first | exact fun _ _ _ h => h | exact fun _ _ _ h => door_put (by decide) h) (.inl ⟨by rfl, ?_⟩) hS ?_
            rotate_left 1
            · (intro wq hq; skip; go_simp; try with_reducible rfl)
            refine RN.all (rs := [4, 8]) (by kernel_rfl) (by simp) ?_
            refine RN.All.cons rfl (fun K hK => ?_) (RN.All.cons rfl (fun K hK => ?_) RN.All.nil)
            · have hS2 : ((w1.alloc (.cells #[.int .i64 1, .string ⟨#[]⟩, .bool false, .slice none 0 0, .slice xs 1 ds, .slice none 0 0, .slice none 0 0, .slice none 0 0] 28)).alloc (.cells #[.int .i64 12, .string ⟨#[]⟩, .bool false, .slice none 0 0, .slice none 0 0, .slice (some ⟨wr.heap.size, 0, none⟩) 1 1, .slice none 0 0, .slice none 0 0, .int .i64 4, .string ⟨#[]⟩, .bool false, .slice none 0 0, .slice none 0 0, .slice (some ⟨w1.heap.size, 0, none⟩) 1 1, .slice none 0 0, .slice none 0 0] 28)).heap[wr.heap.size + 1]? = some (.cells #[.int .i64 12, .string ⟨#[]⟩, .bool false, .slice none 0 0, .slice none 0 0, .slice (some ⟨wr.heap.size, 0, none⟩) 1 1, .slice none 0 0, .slice none 0 0] 28 (0, 0)) := (Below.heap_alloc (w1.alloc (.cells #[.int .i64 1, .string ⟨#[]⟩, .bool false, .slice none 0 0, .slice xs 1 ds, .slice none 0 0, .slice none 0 0, .slice none 0 0] 28)) (.cells #[.int .i64 12, .string ⟨#[]⟩, .bool false, .slice none 0 0, .slice none 0 0, .slice (some ⟨wr.heap.size, 0, none⟩) 1 1, .slice none 0 0, .slice none 0 0, .int .i64 4, .string ⟨#[]⟩, .bool false, .slice none 0 0, .slice none 0 0, .slice (some ⟨w1.heap.size, 0, none⟩) 1 1, .slice none 0 0, .slice none 0 0] 28) _ (Array.getElem?_eq_some_iff.1 hS).1).trans hS
              clear hS
              have hS := hS2
              clear hS2
              go_simp
              refine hK _ _ (fun _ => hS) ?_
              clear hK K
              refine RN.all (rs := [8]) (by kernel_rfl) (by simp) ?_
              refine RN.All.cons rfl (fun K hK => ?_) RN.All.nil
              have hS2 : (((w1.alloc (.cells #[.int .i64 1, .string ⟨#[]⟩, .bool false, .slice none 0 0, .slice xs 1 ds, .slice none 0 0, .slice none 0 0, .slice none 0 0] 28)).alloc (.cells #[.int .i64 12, .string ⟨#[]⟩, .bool false, .slice none 0 0, .slice none 0 0, .slice (some ⟨wr.heap.size, 0, none⟩) 1 1, .slice none 0 0, .slice none 0 0, .int .i64 4, .string ⟨#[]⟩, .bool false, .slice none 0 0, .slice none 0 0, .slice (some ⟨w1.heap.size, 0, none⟩) 1 1, .slice none 0 0, .slice none 0 0] 28)).alloc (.cells #[.bool (decide (j % 3 = 0)), .bool false] 4)).heap[wr.heap.size + 1]? = some (.cells #[.int .i64 12, .string ⟨#[]⟩, .bool false, .slice none 0 0, .slice none 0 0, .slice (some ⟨wr.heap.size, 0, none⟩) 1 1, .slice none 0 0, .slice none 0 0] 28 (0, 0)) := (Below.heap_alloc ((w1.alloc (.cells #[.int .i64 1, .string ⟨#[]⟩, .bool false, .slice none 0 0, .slice xs 1 ds, .slice none 0 0, .slice none 0 0, .slice none 0 0] 28)).alloc (.cells #[.int .i64 12, .string ⟨#[]⟩, .bool false, .slice none 0 0, .slice none 0 0, .slice (some ⟨wr.heap.size, 0, none⟩) 1 1, .slice none 0 0, .slice none 0 0, .int .i64 4, .string ⟨#[]⟩, .bool false, .slice none 0 0, .slice none 0 0, .slice (some ⟨w1.heap.size, 0, none⟩) 1 1, .slice none 0 0, .slice none 0 0] 28)) (.cells #[.bool (decide (j % 3 = 0)), .bool false] 4) _ (Array.getElem?_eq_some_iff.1 hS).1).trans hS
              clear hS
              have hS := hS2
              clear hS2
              go_simp
              refine hK _ _ (fun _ => hS) ?_
              clear hK K
              have hnew := three_new w1 (.cells #[.int .i64 1, .string ⟨#[]⟩, .bool false, .slice none 0 0, .slice xs 1 ds, .slice none 0 0, .slice none 0 0, .slice none 0 0] 28) (.cells #[.int .i64 12, .string ⟨#[]⟩, .bool false, .slice none 0 0, .slice none 0 0, .slice (some ⟨wr.heap.size, 0, none⟩) 1 1, .slice none 0 0, .slice none 0 0, .int .i64 4, .string ⟨#[]⟩, .bool false, .slice none 0 0, .slice none 0 0, .slice (some ⟨w1.heap.size, 0, none⟩) 1 1, .slice none 0 0, .slice none 0 0] 28) (.cells #[.bool (decide (j % 3 = 0)), .bool false] 4)
              have hxr : (((w1.alloc (.cells #[.int .i64 1, .string ⟨#[]⟩, .bool false, .slice none 0 0, .slice xs 1 ds, .slice none 0 0, .slice none 0 0, .slice none 0 0] 28)).alloc (.cells #[.int .i64 12, .string ⟨#[]⟩, .bool false, .slice none 0 0, .slice none 0 0, .slice (some ⟨wr.heap.size, 0, none⟩) 1 1, .slice none 0 0, .slice none 0 0, .int .i64 4, .string ⟨#[]⟩, .bool false, .slice none 0 0, .slice none 0 0, .slice (some ⟨w1.heap.size, 0, none⟩) 1 1, .slice none 0 0, .slice none 0 0] 28)).alloc (.cells #[.bool (decide (j % 3 = 0)), .bool false] 4)).heap[bx]? = some (.cells #[.int .i64 k', .string nm', .bool g', .slice y1 az'.length e1, .slice y2 ws'.length e2, .slice y3 ks'.len e3, .slice y4 bs'.length e4, .slice y5 cz'.len e5] 28 (0, 0)) := (hnew.2.2.2.block _ HBX1.out).trans HRX1.out
              have hS9 : (((w1.alloc (.cells #[.int .i64 1, .string ⟨#[]⟩, .bool false, .slice none 0 0, .slice xs 1 ds, .slice none 0 0, .slice none 0 0, .slice none 0 0] 28)).alloc (.cells #[.int .i64 12, .string ⟨#[]⟩, .bool false, .slice none 0 0, .slice none 0 0, .slice (some ⟨wr.heap.size, 0, none⟩) 1 1, .slice none 0 0, .slice none 0 0, .int .i64 4, .string ⟨#[]⟩, .bool false, .slice none 0 0, .slice none 0 0, .slice (some ⟨w1.heap.size, 0, none⟩) 1 1, .slice none 0 0, .slice none 0 0] 28)).alloc (.cells #[.bool (decide (j % 3 = 0)), .bool false] 4)).heap[wr.heap.size + 1]? = some (.cells #[.int .i64 12, .string ⟨#[]⟩, .bool false, .slice none 0 0, .slice none 0 0, .slice (some ⟨wr.heap.size, 0, none⟩) 1 1, .slice none 0 0, .slice none 0 0] 28 (0, 0)) := (hnew.2.2.2.block _ (Array.getElem?_eq_some_iff.1 hSg).1).trans hSg
              generalize (((w1.alloc (.cells #[.int .i64 1, .string ⟨#[]⟩, .bool false, .slice none 0 0, .slice xs 1 ds, .slice none 0 0, .slice none 0 0, .slice none 0 0] 28)).alloc (.cells #[.int .i64 12, .string ⟨#[]⟩, .bool false, .slice none 0 0, .slice none 0 0, .slice (some ⟨wr.heap.size, 0, none⟩) 1 1, .slice none 0 0, .slice none 0 0, .int .i64 4, .string ⟨#[]⟩, .bool false, .slice none 0 0, .slice none 0 0, .slice (some ⟨w1.heap.size, 0, none⟩) 1 1, .slice none 0 0, .slice none 0 0] 28)).alloc (.cells #[.bool (decide (j % 3 = 0)), .bool false] 4)) = Wd at hnew hxr hS9 ⊢
              have fx : ∀ i, Wd.frozen? ⟨bx, i, none⟩ = false := fun i => frozen_of_row _ _ _ _ _ hxr
              have f0 := fx 0
              have c0 : Wd.cell? ⟨bx, 0, none⟩ = some (.int .i64 k') := Lib.cell_of_heap hxr 0
              have f1 := fx 1
              have c1 : Wd.cell? ⟨bx, 1, none⟩ = some (.string nm') := Lib.cell_of_heap hxr 1
              have f2 := fx 2
              have c2 : Wd.cell? ⟨bx, 2, none⟩ = some (.bool g') := Lib.cell_of_heap hxr 2
              have f3 := fx 3
              have c3 : Wd.cell? ⟨bx, 3, none⟩ = some (.slice y1 az'.length e1) := Lib.cell_of_heap hxr 3
              have f4 := fx 4
              have c4 : Wd.cell? ⟨bx, 4, none⟩ = some (.slice y2 ws'.length e2) := Lib.cell_of_heap hxr 4
              have f5 := fx 5
              have c5 : Wd.cell? ⟨bx, 5, none⟩ = some (.slice y3 ks'.len e3) := Lib.cell_of_heap hxr 5
              have f6 := fx 6
              have c6 : Wd.cell? ⟨bx, 6, none⟩ = some (.slice y4 bs'.length e4) := Lib.cell_of_heap hxr 6
              have f7 := fx 7
              have c7 : Wd.cell? ⟨bx, 7, none⟩ = some (.slice y5 cz'.len e5) := Lib.cell_of_heap hxr 7
              have HNEW := Lib.hid hnew; have HXR := Lib.hid hxr
              clear hnew hxr fx hS
              have hS := hS9
              refine RN.take (i := 9) (v := ?_) rfl (by decide) (by kernel_rfl) (by kernel_rfl) (by kernel_rfl) (by kernel_rfl) (by kernel_rfl) (by first | exact fun _ _ _ h => h | exact fun _ _ _ h => door_put (by decide) h) (.inl ⟨by rfl, ?_⟩) hS ?_
              rotate_left 1
              · (intro wq hq; skip; go_simp; try with_reducible rfl)
              refine RN.all (rs := [10]) (by kernel_rfl) (by simp) ?_
              refine RN.All.cons rfl (fun K hK => ?_) RN.All.nil
              go_simp
              refine hK _ _ (fun h => absurd h (by decide)) ?_
              clear hK K
              refine RN.done (by kernel_rfl) ?_ _
              have hst := stored Wd bx (.int .i64 5) (.string ⟨#[]⟩) (.bool false) (.slice none 0 0) (.slice none 0 0) (.slice (some ⟨w1.heap.size + 1, 0, none⟩) 2 2) (.slice (some ⟨w1.heap.size + 1 + 1, 0, none⟩) 2 2) (.slice none 0 0) _ _ _ _ _ _ _ _ _ HXR.out
              generalize ((((((((Wd.setCell ⟨bx, 0, none⟩ (.int .i64 5)).setCell ⟨bx, 1, none⟩ (.string ⟨#[]⟩)).setCell ⟨bx, 2, none⟩ (.bool false)).setCell ⟨bx, 3, none⟩ (.slice none 0 0)).setCell ⟨bx, 4, none⟩ (.slice none 0 0)).setCell ⟨bx, 5, none⟩ (.slice (some ⟨w1.heap.size + 1, 0, none⟩) 2 2)).setCell ⟨bx, 6, none⟩ (.slice (some ⟨w1.heap.size + 1 + 1, 0, none⟩) 2 2)).setCell ⟨bx, 7, none⟩ (.slice none 0 0)) = W6 at hst ⊢
              have r4 : Wd.heap[w1.heap.size + 1 + 1]? = some (.cells #[.bool (decide (j % 3 = 0)), .bool false] 4 (0, 0)) := HNEW.out.2.2.1
              have hbx1 := HBX1.out
              have hbxg := Nat.lt_of_lt_of_le BXLT.out HBG.out.size
              have hgr := grown HHX.out HBG.out HG1.out BXLT.out HWC.out HSM.out HSB.out HNEW.out.2.2.2 HNEW.out.1 (by omega) HNEW.out.2.1 (by omega) r4 (by omega)
              have hrl := hgr.fr hst.2
              have hbl : Below W0.heap.size W0 W6 := hst.2.below (thru HWR.out (thru HBG.out (thru HWC.out (thru HSB.out HNEW.out.2.2.2)))) HBP.out
              have hbt : built sA (j + 1) (.node k nm g az ws ks bs cz .nil) = .node 5 ⟨#[]⟩ false [] [] (.node 12 ⟨#[]⟩ false [] [] (.node k' nm' g' az' ws' ks' bs' cz' .nil) [] .nil (.node 4 ⟨#[]⟩ false [] [] sA [] .nil .nil)) [decide (j % 3 = 0), false] .nil .nil := by simp only [built, HKN.out, HBU.out]
              have HST := Lib.hid hst; have HRL := Lib.hid hrl; have HBL := Lib.hid hbl; have HBT := Lib.hid hbt
              clear hst hrl hbl hbt hgr r4 hS hS9 hSg c0 c1 c2 c3 c4 c5 c6 c7 f0 f1 f2 f3 f4 f5 f6 f7 hbx1 hbxg
              go_wp2_with fail
              go_roundw
              case rel => exact ⟨j + 1, 5, ⟨#[]⟩, false, [], [], _, [decide (j % 3 = 0), false], .nil, none, 0, none, 0, some ⟨w1.heap.size + 1, 0, none⟩, 2, some ⟨w1.heap.size + 1 + 1, 0, none⟩, 2, none, 0, by omega, by go_num, HBT.out, HST.out.1, HRL.out, HBL.out⟩
              case measure => simp [intOf]; omega
            · have hS2 : ((w1.alloc (.cells #[.int .i64 1, .string ⟨#[]⟩, .bool false, .slice none 0 0, .slice xs 1 ds, .slice none 0 0, .slice none 0 0, .slice none 0 0] 28)).alloc (.cells #[.bool (decide (j % 3 = 0)), .bool false] 4)).heap[wr.heap.size + 1]? = some (.cells #[.int .i64 12, .string ⟨#[]⟩, .bool false, .slice none 0 0, .slice none 0 0, .slice (some ⟨wr.heap.size, 0, none⟩) 1 1, .slice none 0 0, .slice none 0 0] 28 (0, 0)) := (Below.heap_alloc (w1.alloc (.cells #[.int .i64 1, .string ⟨#[]⟩, .bool false, .slice none 0 0, .slice xs 1 ds, .slice none 0 0, .slice none 0 0, .slice none 0 0] 28)) (.cells #[.bool (decide (j % 3 = 0)), .bool false] 4) _ (Array.getElem?_eq_some_iff.1 hS).1).trans hS
              clear hS
              have hS := hS2
              clear hS2
              go_simp
              refine hK _ _ (fun _ => hS) ?_
              clear hK K
              refine RN.all (rs := [4]) (by kernel_rfl) (by simp) ?_
              refine RN.All.cons rfl (fun K hK => ?_) RN.All.nil
              have hS2 : (((w1.alloc (.cells #[.int .i64 1, .string ⟨#[]⟩, .bool false, .slice none 0 0, .slice xs 1 ds, .slice none 0 0, .slice none 0 0, .slice none 0 0] 28)).alloc (.cells #[.bool (decide (j % 3 = 0)), .bool false] 4)).alloc (.cells #[.int .i64 12, .string ⟨#[]⟩, .bool false, .slice none 0 0, .slice none 0 0, .slice (some ⟨wr.heap.size, 0, none⟩) 1 1, .slice none 0 0, .slice none 0 0, .int .i64 4, .string ⟨#[]⟩, .bool false, .slice none 0 0, .slice none 0 0, .slice (some ⟨w1.heap.size, 0, none⟩) 1 1, .slice none 0 0, .slice none 0 0] 28)).heap[wr.heap.size + 1]? = some (.cells #[.int .i64 12, .string ⟨#[]⟩, .bool false, .slice none 0 0, .slice none 0 0, .slice (some ⟨wr.heap.size, 0, none⟩) 1 1, .slice none 0 0, .slice none 0 0] 28 (0, 0)) := (Below.heap_alloc ((w1.alloc (.cells #[.int .i64 1, .string ⟨#[]⟩, .bool false, .slice none 0 0, .slice xs 1 ds, .slice none 0 0, .slice none 0 0, .slice none 0 0] 28)).alloc (.cells #[.bool (decide (j % 3 = 0)), .bool false] 4)) (.cells #[.int .i64 12, .string ⟨#[]⟩, .bool false, .slice none 0 0, .slice none 0 0, .slice (some ⟨wr.heap.size, 0, none⟩) 1 1, .slice none 0 0, .slice none 0 0, .int .i64 4, .string ⟨#[]⟩, .bool false, .slice none 0 0, .slice none 0 0, .slice (some ⟨w1.heap.size, 0, none⟩) 1 1, .slice none 0 0, .slice none 0 0] 28) _ (Array.getElem?_eq_some_iff.1 hS).1).trans hS
              clear hS
              have hS := hS2
              clear hS2
              go_simp
              refine hK _ _ (fun _ => hS) ?_
              clear hK K
              have hnew := three_new w1 (.cells #[.int .i64 1, .string ⟨#[]⟩, .bool false, .slice none 0 0, .slice xs 1 ds, .slice none 0 0, .slice none 0 0, .slice none 0 0] 28) (.cells #[.bool (decide (j % 3 = 0)), .bool false] 4) (.cells #[.int .i64 12, .string ⟨#[]⟩, .bool false, .slice none 0 0, .slice none 0 0, .slice (some ⟨wr.heap.size, 0, none⟩) 1 1, .slice none 0 0, .slice none 0 0, .int .i64 4, .string ⟨#[]⟩, .bool false, .slice none 0 0, .slice none 0 0, .slice (some ⟨w1.heap.size, 0, none⟩) 1 1, .slice none 0 0, .slice none 0 0] 28)
              have hxr : (((w1.alloc (.cells #[.int .i64 1, .string ⟨#[]⟩, .bool false, .slice none 0 0, .slice xs 1 ds, .slice none 0 0, .slice none 0 0, .slice none 0 0] 28)).alloc (.cells #[.bool (decide (j % 3 = 0)), .bool false] 4)).alloc (.cells #[.int .i64 12, .string ⟨#[]⟩, .bool false, .slice none 0 0, .slice none 0 0, .slice (some ⟨wr.heap.size, 0, none⟩) 1 1, .slice none 0 0, .slice none 0 0, .int .i64 4, .string ⟨#[]⟩, .bool false, .slice none 0 0, .slice none 0 0, .slice (some ⟨w1.heap.size, 0, none⟩) 1 1, .slice none 0 0, .slice none 0 0] 28)).heap[bx]? = some (.cells #[.int .i64 k', .string nm', .bool g', .slice y1 az'.length e1, .slice y2 ws'.length e2, .slice y3 ks'.len e3, .slice y4 bs'.length e4, .slice y5 cz'.len e5] 28 (0, 0)) := (hnew.2.2.2.block _ HBX1.out).trans HRX1.out
              have hS9 : (((w1.alloc (.cells #[.int .i64 1, .string ⟨#[]⟩, .bool false, .slice none 0 0, .slice xs 1 ds, .slice none 0 0, .slice none 0 0, .slice none 0 0] 28)).alloc (.cells #[.bool (decide (j % 3 = 0)), .bool false] 4)).alloc (.cells #[.int .i64 12, .string ⟨#[]⟩, .bool false, .slice none 0 0, .slice none 0 0, .slice (some ⟨wr.heap.size, 0, none⟩) 1 1, .slice none 0 0, .slice none 0 0, .int .i64 4, .string ⟨#[]⟩, .bool false, .slice none 0 0, .slice none 0 0, .slice (some ⟨w1.heap.size, 0, none⟩) 1 1, .slice none 0 0, .slice none 0 0] 28)).heap[wr.heap.size + 1]? = some (.cells #[.int .i64 12, .string ⟨#[]⟩, .bool false, .slice none 0 0, .slice none 0 0, .slice (some ⟨wr.heap.size, 0, none⟩) 1 1, .slice none 0 0, .slice none 0 0] 28 (0, 0)) := (hnew.2.2.2.block _ (Array.getElem?_eq_some_iff.1 hSg).1).trans hSg
              generalize (((w1.alloc (.cells #[.int .i64 1, .string ⟨#[]⟩, .bool false, .slice none 0 0, .slice xs 1 ds, .slice none 0 0, .slice none 0 0, .slice none 0 0] 28)).alloc (.cells #[.bool (decide (j % 3 = 0)), .bool false] 4)).alloc (.cells #[.int .i64 12, .string ⟨#[]⟩, .bool false, .slice none 0 0, .slice none 0 0, .slice (some ⟨wr.heap.size, 0, none⟩) 1 1, .slice none 0 0, .slice none 0 0, .int .i64 4, .string ⟨#[]⟩, .bool false, .slice none 0 0, .slice none 0 0, .slice (some ⟨w1.heap.size, 0, none⟩) 1 1, .slice none 0 0, .slice none 0 0] 28)) = Wd at hnew hxr hS9 ⊢
              have fx : ∀ i, Wd.frozen? ⟨bx, i, none⟩ = false := fun i => frozen_of_row _ _ _ _ _ hxr
              have f0 := fx 0
              have c0 : Wd.cell? ⟨bx, 0, none⟩ = some (.int .i64 k') := Lib.cell_of_heap hxr 0
              have f1 := fx 1
              have c1 : Wd.cell? ⟨bx, 1, none⟩ = some (.string nm') := Lib.cell_of_heap hxr 1
              have f2 := fx 2
              have c2 : Wd.cell? ⟨bx, 2, none⟩ = some (.bool g') := Lib.cell_of_heap hxr 2
              have f3 := fx 3
              have c3 : Wd.cell? ⟨bx, 3, none⟩ = some (.slice y1 az'.length e1) := Lib.cell_of_heap hxr 3
              have f4 := fx 4
              have c4 : Wd.cell? ⟨bx, 4, none⟩ = some (.slice y2 ws'.length e2) := Lib.cell_of_heap hxr 4
              have f5 := fx 5
              have c5 : Wd.cell? ⟨bx, 5, none⟩ = some (.slice y3 ks'.len e3) := Lib.cell_of_heap hxr 5
              have f6 := fx 6
              have c6 : Wd.cell? ⟨bx, 6, none⟩ = some (.slice y4 bs'.length e4) := Lib.cell_of_heap hxr 6
              have f7 := fx 7
              have c7 : Wd.cell? ⟨bx, 7, none⟩ = some (.slice y5 cz'.len e5) := Lib.cell_of_heap hxr 7
              have HNEW := Lib.hid hnew; have HXR := Lib.hid hxr
              clear hnew hxr fx hS
              have hS := hS9
              refine RN.take (i := 9) (v := ?_) rfl (by decide) (by kernel_rfl) (by kernel_rfl) (by kernel_rfl) (by kernel_rfl) (by kernel_rfl) (by first | exact fun _ _ _ h => h | exact fun _ _ _ h => door_put (by decide) h) (.inl ⟨by rfl, ?_⟩) hS ?_
              rotate_left 1
              · (intro wq hq; skip; go_simp; try with_reducible rfl)
              refine RN.all (rs := [10]) (by kernel_rfl) (by simp) ?_
              refine RN.All.cons rfl (fun K hK => ?_) RN.All.nil
              go_simp
              refine hK _ _ (fun h => absurd h (by decide)) ?_
              clear hK K
              refine RN.done (by kernel_rfl) ?_ _
              have hst := stored Wd bx (.int .i64 5) (.string ⟨#[]⟩) (.bool false) (.slice none 0 0) (.slice none 0 0) (.slice (some ⟨w1.heap.size + 1 + 1, 0, none⟩) 2 2) (.slice (some ⟨w1.heap.size + 1, 0, none⟩) 2 2) (.slice none 0 0) _ _ _ _ _ _ _ _ _ HXR.out
              generalize ((((((((Wd.setCell ⟨bx, 0, none⟩ (.int .i64 5)).setCell ⟨bx, 1, none⟩ (.string ⟨#[]⟩)).setCell ⟨bx, 2, none⟩ (.bool false)).setCell ⟨bx, 3, none⟩ (.slice none 0 0)).setCell ⟨bx, 4, none⟩ (.slice none 0 0)).setCell ⟨bx, 5, none⟩ (.slice (some ⟨w1.heap.size + 1 + 1, 0, none⟩) 2 2)).setCell ⟨bx, 6, none⟩ (.slice (some ⟨w1.heap.size + 1, 0, none⟩) 2 2)).setCell ⟨bx, 7, none⟩ (.slice none 0 0)) = W6 at hst ⊢
              have r4 : Wd.heap[w1.heap.size + 1]? = some (.cells #[.bool (decide (j % 3 = 0)), .bool false] 4 (0, 0)) := HNEW.out.2.1
              have hbx1 := HBX1.out
              have hbxg := Nat.lt_of_lt_of_le BXLT.out HBG.out.size
              have hgr := grown HHX.out HBG.out HG1.out BXLT.out HWC.out HSM.out HSB.out HNEW.out.2.2.2 HNEW.out.1 (by omega) HNEW.out.2.2.1 (by omega) r4 (by omega)
              have hrl := hgr.fr hst.2
              have hbl : Below W0.heap.size W0 W6 := hst.2.below (thru HWR.out (thru HBG.out (thru HWC.out (thru HSB.out HNEW.out.2.2.2)))) HBP.out
              have hbt : built sA (j + 1) (.node k nm g az ws ks bs cz .nil) = .node 5 ⟨#[]⟩ false [] [] (.node 12 ⟨#[]⟩ false [] [] (.node k' nm' g' az' ws' ks' bs' cz' .nil) [] .nil (.node 4 ⟨#[]⟩ false [] [] sA [] .nil .nil)) [decide (j % 3 = 0), false] .nil .nil := by simp only [built, HKN.out, HBU.out]
              have HST := Lib.hid hst; have HRL := Lib.hid hrl; have HBL := Lib.hid hbl; have HBT := Lib.hid hbt
              clear hst hrl hbl hbt hgr r4 hS hS9 hSg c0 c1 c2 c3 c4 c5 c6 c7 f0 f1 f2 f3 f4 f5 f6 f7 hbx1 hbxg
              go_wp2_with fail
              go_roundw
              case rel => exact ⟨j + 1, 5, ⟨#[]⟩, false, [], [], _, [decide (j % 3 = 0), false], .nil, none, 0, none, 0, some ⟨w1.heap.size + 1 + 1, 0, none⟩, 2, some ⟨w1.heap.size + 1, 0, none⟩, 2, none, 0, by omega, by go_num, HBT.out, HST.out.1, HRL.out, HBL.out⟩
              case measure => simp [intOf]; omega
          · have hS2 : (w1.alloc (.cells #[.bool (decide (j % 3 = 0)), .bool false] 4)).heap[wr.heap.size + 1]? = some (.cells #[.int .i64 12, .string ⟨#[]⟩, .bool false, .slice none 0 0, .slice none 0 0, .slice (some ⟨wr.heap.size, 0, none⟩) 1 1, .slice none 0 0, .slice none 0 0] 28 (0, 0)) := (Below.heap_alloc w1 (.cells #[.bool (decide (j % 3 = 0)), .bool false] 4) _ (Array.getElem?_eq_some_iff.1 hS).1).trans hS
            clear hS
            have hS := hS2
            clear hS2
            go_simp
            refine hK _ _ (fun _ => hS) ?_
            clear hK K
            refine RN.all (rs := [2]) (by kernel_rfl) (by simp) ?_
            refine RN.All.cons rfl (fun K hK => ?_) RN.All.nil
            have hS2 : ((w1.alloc (.cells #[.bool (decide (j % 3 = 0)), .bool false] 4)).alloc (.cells #[.int .i64 1, .string ⟨#[]⟩, .bool false, .slice none 0 0, .slice xs 1 ds, .slice none 0 0, .slice none 0 0, .slice none 0 0] 28)).heap[wr.heap.size + 1]? = some (.cells #[.int .i64 12, .string ⟨#[]⟩, .bool false, .slice none 0 0, .slice none 0 0, .slice (some ⟨wr.heap.size, 0, none⟩) 1 1, .slice none 0 0, .slice none 0 0] 28 (0, 0)) := (Below.heap_alloc (w1.alloc (.cells #[.bool (decide (j % 3 = 0)), .bool false] 4)) (.cells #[.int .i64 1, .string ⟨#[]⟩, .bool false, .slice none 0 0, .slice xs 1 ds, .slice none 0 0, .slice none 0 0, .slice none 0 0] 28) _ (Array.getElem?_eq_some_iff.1 hS).1).trans hS
            clear hS
            have hS := hS2
            clear hS2
            go_simp
            refine hK _ _ (fun _ => hS) ?_
            clear hK K
            refine RN.take (i := 3) (v := ?_) rfl (by decide) (by kernel_rfl) (by kernel_rfl) (by kernel_rfl) (by kernel_rfl) (by kernel_rfl) (by first | exact fun _ _ _ h => h | exact fun _ _ _ h => door_put (by decide) h) (.inl ⟨by rfl, ?_⟩) hS ?_
            rotate_left 1
            · (intro wq hq; skip; go_simp; try with_reducible rfl)
            refine RN.all (rs := [4]) (by kernel_rfl) (by simp) ?_
            refine RN.All.cons rfl (fun K hK => ?_) RN.All.nil
            have hS2 : (((w1.alloc (.cells #[.bool (decide (j % 3 = 0)), .bool false] 4)).alloc (.cells #[.int .i64 1, .string ⟨#[]⟩, .bool false, .slice none 0 0, .slice xs 1 ds, .slice none 0 0, .slice none 0 0, .slice none 0 0] 28)).alloc (.cells #[.int .i64 12, .string ⟨#[]⟩, .bool false, .slice none 0 0, .slice none 0 0, .slice (some ⟨wr.heap.size, 0, none⟩) 1 1, .slice none 0 0, .slice none 0 0, .int .i64 4, .string ⟨#[]⟩, .bool false, .slice none 0 0, .slice none 0 0, .slice (some ⟨w1.heap.size + 1, 0, none⟩) 1 1, .slice none 0 0, .slice none 0 0] 28)).heap[wr.heap.size + 1]? = some (.cells #[.int .i64 12, .string ⟨#[]⟩, .bool false, .slice none 0 0, .slice none 0 0, .slice (some ⟨wr.heap.size, 0, none⟩) 1 1, .slice none 0 0, .slice none 0 0] 28 (0, 0)) := (Below.heap_alloc ((w1.alloc (.cells #[.bool (decide (j % 3 = 0)), .bool false] 4)).alloc (.cells #[.int .i64 1, .string ⟨#[]⟩, .bool false, .slice none 0 0, .slice xs 1 ds, .slice none 0 0, .slice none 0 0, .slice none 0 0] 28)) (.cells #[.int .i64 12, .string ⟨#[]⟩, .bool false, .slice none 0 0, .slice none 0 0, .slice (some ⟨wr.heap.size, 0, none⟩) 1 1, .slice none 0 0, .slice none 0 0, .int .i64 4, .string ⟨#[]⟩, .bool false, .slice none 0 0, .slice none 0 0, .slice (some ⟨w1.heap.size + 1, 0, none⟩) 1 1, .slice none 0 0, .slice none 0 0] 28) _ (Array.getElem?_eq_some_iff.1 hS).1).trans hS
            clear hS
            have hS := hS2
            clear hS2
            go_simp
            refine hK _ _ (fun _ => hS) ?_
            clear hK K
            have hnew := three_new w1 (.cells #[.bool (decide (j % 3 = 0)), .bool false] 4) (.cells #[.int .i64 1, .string ⟨#[]⟩, .bool false, .slice none 0 0, .slice xs 1 ds, .slice none 0 0, .slice none 0 0, .slice none 0 0] 28) (.cells #[.int .i64 12, .string ⟨#[]⟩, .bool false, .slice none 0 0, .slice none 0 0, .slice (some ⟨wr.heap.size, 0, none⟩) 1 1, .slice none 0 0, .slice none 0 0, .int .i64 4, .string ⟨#[]⟩, .bool false, .slice none 0 0, .slice none 0 0, .slice (some ⟨w1.heap.size + 1, 0, none⟩) 1 1, .slice none 0 0, .slice none 0 0] 28)
            have hxr : (((w1.alloc (.cells #[.bool (decide (j % 3 = 0)), .bool false] 4)).alloc (.cells #[.int .i64 1, .string ⟨#[]⟩, .bool false, .slice none 0 0, .slice xs 1 ds, .slice none 0 0, .slice none 0 0, .slice none 0 0] 28)).alloc (.cells #[.int .i64 12, .string ⟨#[]⟩, .bool false, .slice none 0 0, .slice none 0 0, .slice (some ⟨wr.heap.size, 0, none⟩) 1 1, .slice none 0 0, .slice none 0 0, .int .i64 4, .string ⟨#[]⟩, .bool false, .slice none 0 0, .slice none 0 0, .slice (some ⟨w1.heap.size + 1, 0, none⟩) 1 1, .slice none 0 0, .slice none 0 0] 28)).heap[bx]? = some (.cells #[.int .i64 k', .string nm', .bool g', .slice y1 az'.length e1, .slice y2 ws'.length e2, .slice y3 ks'.len e3, .slice y4 bs'.length e4, .slice y5 cz'.len e5] 28 (0, 0)) := (hnew.2.2.2.block _ HBX1.out).trans HRX1.out
            have hS9 : (((w1.alloc (.cells #[.bool (decide (j % 3 = 0)), .bool false] 4)).alloc (.cells #[.int .i64 1, .string ⟨#[]⟩, .bool false, .slice none 0 0, .slice xs 1 ds, .slice none 0 0, .slice none 0 0, .slice none 0 0] 28)).alloc (.cells #[.int .i64 12, .string ⟨#[]⟩, .bool false, .slice none 0 0, .slice none 0 0, .slice (some ⟨wr.heap.size, 0, none⟩) 1 1, .slice none 0 0, .slice none 0 0, .int .i64 4, .string ⟨#[]⟩, .bool false, .slice none 0 0, .slice none 0 0, .slice (some ⟨w1.heap.size + 1, 0, none⟩) 1 1, .slice none 0 0, .slice none 0 0] 28)).heap[wr.heap.size + 1]? = some (.cells #[.int .i64 12, .string ⟨#[]⟩, .bool false, .slice none 0 0, .slice none 0 0, .slice (some ⟨wr.heap.size, 0, none⟩) 1 1, .slice none 0 0, .slice none 0 0] 28 (0, 0)) := (hnew.2.2.2.block _ (Array.getElem?_eq_some_iff.1 hSg).1).trans hSg
            generalize (((w1.alloc (.cells #[.bool (decide (j % 3 = 0)), .bool false] 4)).alloc (.cells #[.int .i64 1, .string ⟨#[]⟩, .bool false, .slice none 0 0, .slice xs 1 ds, .slice none 0 0, .slice none 0 0, .slice none 0 0] 28)).alloc (.cells #[.int .i64 12, .string ⟨#[]⟩, .bool false, .slice none 0 0, .slice none 0 0, .slice (some ⟨wr.heap.size, 0, none⟩) 1 1, .slice none 0 0, .slice none 0 0, .int .i64 4, .string ⟨#[]⟩, .bool false, .slice none 0 0, .slice none 0 0, .slice (some ⟨w1.heap.size + 1, 0, none⟩) 1 1, .slice none 0 0, .slice none 0 0] 28)) = Wd at hnew hxr hS9 ⊢
            have fx : ∀ i, Wd.frozen? ⟨bx, i, none⟩ = false := fun i => frozen_of_row _ _ _ _ _ hxr
            have f0 := fx 0
            have c0 : Wd.cell? ⟨bx, 0, none⟩ = some (.int .i64 k') := Lib.cell_of_heap hxr 0
            have f1 := fx 1
            have c1 : Wd.cell? ⟨bx, 1, none⟩ = some (.string nm') := Lib.cell_of_heap hxr 1
            have f2 := fx 2
            have c2 : Wd.cell? ⟨bx, 2, none⟩ = some (.bool g') := Lib.cell_of_heap hxr 2
            have f3 := fx 3
            have c3 : Wd.cell? ⟨bx, 3, none⟩ = some (.slice y1 az'.length e1) := Lib.cell_of_heap hxr 3
            have f4 := fx 4
            have c4 : Wd.cell? ⟨bx, 4, none⟩ = some (.slice y2 ws'.length e2) := Lib.cell_of_heap hxr 4
            have f5 := fx 5
            have c5 : Wd.cell? ⟨bx, 5, none⟩ = some (.slice y3 ks'.len e3) := Lib.cell_of_heap hxr 5
            have f6 := fx 6
            have c6 : Wd.cell? ⟨bx, 6, none⟩ = some (.slice y4 bs'.length e4) := Lib.cell_of_heap hxr 6
            have f7 := fx 7
            have c7 : Wd.cell? ⟨bx, 7, none⟩ = some (.slice y5 cz'.len e5) := Lib.cell_of_heap hxr 7
            have HNEW := Lib.hid hnew; have HXR := Lib.hid hxr
            clear hnew hxr fx hS
            have hS := hS9
            refine RN.take (i := 9) (v := ?_) rfl (by decide) (by kernel_rfl) (by kernel_rfl) (by kernel_rfl) (by kernel_rfl) (by kernel_rfl) (by first | exact fun _ _ _ h => h | exact fun _ _ _ h => door_put (by decide) h) (.inl ⟨by rfl, ?_⟩) hS ?_
            rotate_left 1
            · (intro wq hq; skip; go_simp; try with_reducible rfl)
            refine RN.all (rs := [10]) (by kernel_rfl) (by simp) ?_
            refine RN.All.cons rfl (fun K hK => ?_) RN.All.nil
            go_simp
            refine hK _ _ (fun h => absurd h (by decide)) ?_
            clear hK K
            refine RN.done (by kernel_rfl) ?_ _
            have hst := stored Wd bx (.int .i64 5) (.string ⟨#[]⟩) (.bool false) (.slice none 0 0) (.slice none 0 0) (.slice (some ⟨w1.heap.size + 1 + 1, 0, none⟩) 2 2) (.slice (some ⟨w1.heap.size, 0, none⟩) 2 2) (.slice none 0 0) _ _ _ _ _ _ _ _ _ HXR.out
            generalize ((((((((Wd.setCell ⟨bx, 0, none⟩ (.int .i64 5)).setCell ⟨bx, 1, none⟩ (.string ⟨#[]⟩)).setCell ⟨bx, 2, none⟩ (.bool false)).setCell ⟨bx, 3, none⟩ (.slice none 0 0)).setCell ⟨bx, 4, none⟩ (.slice none 0 0)).setCell ⟨bx, 5, none⟩ (.slice (some ⟨w1.heap.size + 1 + 1, 0, none⟩) 2 2)).setCell ⟨bx, 6, none⟩ (.slice (some ⟨w1.heap.size, 0, none⟩) 2 2)).setCell ⟨bx, 7, none⟩ (.slice none 0 0)) = W6 at hst ⊢
            have r4 : Wd.heap[w1.heap.size]? = some (.cells #[.bool (decide (j % 3 = 0)), .bool false] 4 (0, 0)) := HNEW.out.1
            have hbx1 := HBX1.out
            have hbxg := Nat.lt_of_lt_of_le BXLT.out HBG.out.size
            have hgr := grown HHX.out HBG.out HG1.out BXLT.out HWC.out HSM.out HSB.out HNEW.out.2.2.2 HNEW.out.2.1 (by omega) HNEW.out.2.2.1 (by omega) r4 (by omega)
            have hrl := hgr.fr hst.2
            have hbl : Below W0.heap.size W0 W6 := hst.2.below (thru HWR.out (thru HBG.out (thru HWC.out (thru HSB.out HNEW.out.2.2.2)))) HBP.out
            have hbt : built sA (j + 1) (.node k nm g az ws ks bs cz .nil) = .node 5 ⟨#[]⟩ false [] [] (.node 12 ⟨#[]⟩ false [] [] (.node k' nm' g' az' ws' ks' bs' cz' .nil) [] .nil (.node 4 ⟨#[]⟩ false [] [] sA [] .nil .nil)) [decide (j % 3 = 0), false] .nil .nil := by simp only [built, HKN.out, HBU.out]
            have HST := Lib.hid hst; have HRL := Lib.hid hrl; have HBL := Lib.hid hbl; have HBT := Lib.hid hbt
            clear hst hrl hbl hbt hgr r4 hS hS9 hSg c0 c1 c2 c3 c4 c5 c6 c7 f0 f1 f2 f3 f4 f5 f6 f7 hbx1 hbxg
            go_wp2_with fail
            go_roundw
            case rel => exact ⟨j + 1, 5, ⟨#[]⟩, false, [], [], _, [decide (j % 3 = 0), false], .nil, none, 0, none, 0, some ⟨w1.heap.size + 1 + 1, 0, none⟩, 2, some ⟨w1.heap.size, 0, none⟩, 2, none, 0, by omega, by go_num, HBT.out, HST.out.1, HRL.out, HBL.out⟩
            case measure => simp [intOf]; omega
        · have hS2 : (Wg.alloc (.cells #[.bool (decide (j % 3 = 0)), .bool false] 4)).drew.heap[wr.heap.size + 1]? = some (.cells #[.int .i64 12, .string ⟨#[]⟩, .bool false, .slice none 0 0, .slice none 0 0, .slice (some ⟨wr.heap.size, 0, none⟩) 1 1, .slice none 0 0, .slice none 0 0] 28 (0, 0)) := (Below.heap_alloc Wg (.cells #[.bool (decide (j % 3 = 0)), .bool false] 4) _ (Array.getElem?_eq_some_iff.1 hS).1).trans hS
          clear hS
          have hS := hS2
          clear hS2
          go_simp
          refine hK _ _ (fun _ => hS) ?_
          clear hK K
          refine RN.all (rs := [1]) (by kernel_rfl) (by simp) ?_
          refine RN.All.cons rfl (fun K hK => ?_) RN.All.nil
          go_simp
          have hsim := simple_any (Wg.alloc (.cells #[.bool (decide (j % 3 = 0)), .bool false] 4)).drew
          unfold Simple1 nodeV at hsim
          refine hsim.mono ?_
          clear hsim
          rintro e w1 ⟨⟨xs, ds, rfl, hs⟩, hsb⟩
          have HWC := Lib.hid (let h := bel1 Wg (.cells #[.bool (decide (j % 3 = 0)), .bool false] 4); ⟨h.os, h.tape, h.output, h.size, h.block⟩ : Below Wg.heap.size Wg (Wg.alloc (.cells #[.bool (decide (j % 3 = 0)), .bool false] 4)).drew)
          have hSg : w1.heap[wr.heap.size + 1]? = some (.cells #[.int .i64 12, .string ⟨#[]⟩, .bool false, .slice none 0 0, .slice none 0 0, .slice (some ⟨wr.heap.size, 0, none⟩) 1 1, .slice none 0 0, .slice none 0 0] 28 (0, 0)) := (hsb.block _ (Array.getElem?_eq_some_iff.1 hS).1).trans hS
          have hbx1 := Nat.lt_of_lt_of_le BXLT.out (Nat.le_trans HBG.out.size (Nat.le_trans HWC.out.size hsb.size))
          have HRX1 := Lib.hid ((hsb.block bx (Nat.lt_of_lt_of_le BXLT.out (Nat.le_trans HBG.out.size HWC.out.size))).trans ((HWC.out.block bx (Nat.lt_of_lt_of_le BXLT.out HBG.out.size)).trans ((HBG.out.block bx BXLT.out).trans HRW.out)))
          have HBX1 := Lib.hid hbx1; have HSB := Lib.hid hsb; have HSM := Lib.hid hs
          clear hs hbx1 hsb hS
          have hS := hSg
          refine hK _ _ (fun _ => hS) ?_
          clear hK K
          refine RN.all (rs := [2]) (by kernel_rfl) (by simp) ?_
          refine RN.All.cons rfl (fun K hK => ?_) RN.All.nil
          have hS2 : (w1.alloc (.cells #[.int .i64 1, .string ⟨#[]⟩, .bool false, .slice none 0 0, .slice xs 1 ds, .slice none 0 0, .slice none 0 0, .slice none 0 0] 28)).heap[wr.heap.size + 1]? = some (.cells #[.int .i64 12, .string ⟨#[]⟩, .bool false, .slice none 0 0, .slice none 0 0, .slice (some ⟨wr.heap.size, 0, none⟩) 1 1, .slice none 0 0, .slice none 0 0] 28 (0, 0)) := (Below.heap_alloc w1 (.cells #[.int .i64 1, .string ⟨#[]⟩, .bool false, .slice none 0 0, .slice xs 1 ds, .slice none 0 0, .slice none 0 0, .slice none 0 0] 28) _ (Array.getElem?_eq_some_iff.1 hS).1).trans hS
          clear hS
          have hS := hS2
          clear hS2
          go_simp
          refine hK _ _ (fun _ => hS) ?_
          clear hK K
          refine RN.take (i := 3) (v := ?_) rfl (by decide) (by kernel_rfl) (by kernel_rfl) (by kernel_rfl) (by kernel_rfl) (by kernel_rfl) (by first | exact fun _ _ _ h => h | exact fun _ _ _ h => door_put (by decide) h) (.inl ⟨by rfl, ?_⟩) hS ?_
          rotate_left 1
          · (intro wq hq; skip; go_simp; try with_reducible rfl)
          refine RN.all (rs := [4]) (by kernel_rfl) (by simp) ?_
          refine RN.All.cons rfl (fun K hK => ?_) RN.All.nil
          have hS2 : ((w1.alloc (.cells #[.int .i64 1, .string ⟨#[]⟩, .bool false, .slice none 0 0, .slice xs 1 ds, .slice none 0 0, .slice none 0 0, .slice none 0 0] 28)).alloc (.cells #[.int .i64 12, .string ⟨#[]⟩, .bool false, .slice none 0 0, .slice none 0 0, .slice (some ⟨wr.heap.size, 0, none⟩) 1 1, .slice none 0 0, .slice none 0 0, .int .i64 4, .string ⟨#[]⟩, .bool false, .slice none 0 0, .slice none 0 0, .slice (some ⟨w1.heap.size, 0, none⟩) 1 1, .slice none 0 0, .slice none 0 0] 28)).heap[wr.heap.size + 1]? = some (.cells #[.int .i64 12, .string ⟨#[]⟩, .bool false, .slice none 0 0, .slice none 0 0, .slice (some ⟨wr.heap.size, 0, none⟩) 1 1, .slice none 0 0, .slice none 0 0] 28 (0, 0)) := (Below.heap_alloc (w1.alloc (.cells #[.int .i64 1, .string ⟨#[]⟩, .bool false, .slice none 0 0, .slice xs 1 ds, .slice none 0 0, .slice none 0 0, .slice none 0 0] 28)) (.cells #[.int .i64 12, .string ⟨#[]⟩, .bool false, .slice none 0 0, .slice none 0 0, .slice (some ⟨wr.heap.size, 0, none⟩) 1 1, .slice none 0 0, .slice none 0 0, .int .i64 4, .string ⟨#[]⟩, .bool false, .slice none 0 0, .slice none 0 0, .slice (some ⟨w1.heap.size, 0, none⟩) 1 1, .slice none 0 0, .slice none 0 0] 28) _ (Array.getElem?_eq_some_iff.1 hS).1).trans hS
          clear hS
          have hS := hS2
          clear hS2
          go_simp
          refine hK _ _ (fun _ => hS) ?_
          clear hK K
          have hnew := two_new w1 (.cells #[.int .i64 1, .string ⟨#[]⟩, .bool false, .slice none 0 0, .slice xs 1 ds, .slice none 0 0, .slice none 0 0, .slice none 0 0] 28) (.cells #[.int .i64 12, .string ⟨#[]⟩, .bool false, .slice none 0 0, .slice none 0 0, .slice (some ⟨wr.heap.size, 0, none⟩) 1 1, .slice none 0 0, .slice none 0 0, .int .i64 4, .string ⟨#[]⟩, .bool false, .slice none 0 0, .slice none 0 0, .slice (some ⟨w1.heap.size, 0, none⟩) 1 1, .slice none 0 0, .slice none 0 0] 28)
          have hxr : ((w1.alloc (.cells #[.int .i64 1, .string ⟨#[]⟩, .bool false, .slice none 0 0, .slice xs 1 ds, .slice none 0 0, .slice none 0 0, .slice none 0 0] 28)).alloc (.cells #[.int .i64 12, .string ⟨#[]⟩, .bool false, .slice none 0 0, .slice none 0 0, .slice (some ⟨wr.heap.size, 0, none⟩) 1 1, .slice none 0 0, .slice none 0 0, .int .i64 4, .string ⟨#[]⟩, .bool false, .slice none 0 0, .slice none 0 0, .slice (some ⟨w1.heap.size, 0, none⟩) 1 1, .slice none 0 0, .slice none 0 0] 28)).heap[bx]? = some (.cells #[.int .i64 k', .string nm', .bool g', .slice y1 az'.length e1, .slice y2 ws'.length e2, .slice y3 ks'.len e3, .slice y4 bs'.length e4, .slice y5 cz'.len e5] 28 (0, 0)) := (hnew.2.2.block _ HBX1.out).trans HRX1.out
          have hS9 : ((w1.alloc (.cells #[.int .i64 1, .string ⟨#[]⟩, .bool false, .slice none 0 0, .slice xs 1 ds, .slice none 0 0, .slice none 0 0, .slice none 0 0] 28)).alloc (.cells #[.int .i64 12, .string ⟨#[]⟩, .bool false, .slice none 0 0, .slice none 0 0, .slice (some ⟨wr.heap.size, 0, none⟩) 1 1, .slice none 0 0, .slice none 0 0, .int .i64 4, .string ⟨#[]⟩, .bool false, .slice none 0 0, .slice none 0 0, .slice (some ⟨w1.heap.size, 0, none⟩) 1 1, .slice none 0 0, .slice none 0 0] 28)).heap[wr.heap.size + 1]? = some (.cells #[.int .i64 12, .string ⟨#[]⟩, .bool false, .slice none 0 0, .slice none 0 0, .slice (some ⟨wr.heap.size, 0, none⟩) 1 1, .slice none 0 0, .slice none 0 0] 28 (0, 0)) := (hnew.2.2.block _ (Array.getElem?_eq_some_iff.1 hSg).1).trans hSg
          generalize ((w1.alloc (.cells #[.int .i64 1, .string ⟨#[]⟩, .bool false, .slice none 0 0, .slice xs 1 ds, .slice none 0 0, .slice none 0 0, .slice none 0 0] 28)).alloc (.cells #[.int .i64 12, .string ⟨#[]⟩, .bool false, .slice none 0 0, .slice none 0 0, .slice (some ⟨wr.heap.size, 0, none⟩) 1 1, .slice none 0 0, .slice none 0 0, .int .i64 4, .string ⟨#[]⟩, .bool false, .slice none 0 0, .slice none 0 0, .slice (some ⟨w1.heap.size, 0, none⟩) 1 1, .slice none 0 0, .slice none 0 0] 28)) = Wd at hnew hxr hS9 ⊢
          have fx : ∀ i, Wd.frozen? ⟨bx, i, none⟩ = false := fun i => frozen_of_row _ _ _ _ _ hxr
          have f0 := fx 0
          have c0 : Wd.cell? ⟨bx, 0, none⟩ = some (.int .i64 k') := Lib.cell_of_heap hxr 0
          have f1 := fx 1
          have c1 : Wd.cell? ⟨bx, 1, none⟩ = some (.string nm') := Lib.cell_of_heap hxr 1
          have f2 := fx 2
          have c2 : Wd.cell? ⟨bx, 2, none⟩ = some (.bool g') := Lib.cell_of_heap hxr 2
          have f3 := fx 3
          have c3 : Wd.cell? ⟨bx, 3, none⟩ = some (.slice y1 az'.length e1) := Lib.cell_of_heap hxr 3
          have f4 := fx 4
          have c4 : Wd.cell? ⟨bx, 4, none⟩ = some (.slice y2 ws'.length e2) := Lib.cell_of_heap hxr 4
          have f5 := fx 5
          have c5 : Wd.cell? ⟨bx, 5, none⟩ = some (.slice y3 ks'.len e3) := Lib.cell_of_heap hxr 5
          have f6 := fx 6
          have c6 : Wd.cell? ⟨bx, 6, none⟩ = some (.slice y4 bs'.length e4) := Lib.cell_of_heap hxr 6
          have f7 := fx 7
          have c7 : Wd.cell? ⟨bx, 7, none⟩ = some (.slice y5 cz'.len e5) := Lib.cell_of_heap hxr 7
          have HNEW := Lib.hid hnew; have HXR := Lib.hid hxr
          clear hnew hxr fx hS
          have hS := hS9
          refine RN.take (i := 9) (v := ?_) rfl (by decide) (by kernel_rfl) (by kernel_rfl) (by kernel_rfl) (by kernel_rfl) (by kernel_rfl) (by first | exact fun _ _ _ h => h | exact fun _ _ _ h => door_put (by decide) h) (.inl ⟨by rfl, ?_⟩) hS ?_
          rotate_left 1
          · (intro wq hq; skip; go_simp; try with_reducible rfl)
          refine RN.all (rs := [10]) (by kernel_rfl) (by simp) ?_
          refine RN.All.cons rfl (fun K hK => ?_) RN.All.nil
          go_simp
          refine hK _ _ (fun h => absurd h (by decide)) ?_
          clear hK K
          refine RN.done (by kernel_rfl) ?_ _
          have hst := stored Wd bx (.int .i64 5) (.string ⟨#[]⟩) (.bool false) (.slice none 0 0) (.slice none 0 0) (.slice (some ⟨w1.heap.size + 1, 0, none⟩) 2 2) (.slice (some ⟨Wg.heap.size, 0, none⟩) 2 2) (.slice none 0 0) _ _ _ _ _ _ _ _ _ HXR.out
          generalize ((((((((Wd.setCell ⟨bx, 0, none⟩ (.int .i64 5)).setCell ⟨bx, 1, none⟩ (.string ⟨#[]⟩)).setCell ⟨bx, 2, none⟩ (.bool false)).setCell ⟨bx, 3, none⟩ (.slice none 0 0)).setCell ⟨bx, 4, none⟩ (.slice none 0 0)).setCell ⟨bx, 5, none⟩ (.slice (some ⟨w1.heap.size + 1, 0, none⟩) 2 2)).setCell ⟨bx, 6, none⟩ (.slice (some ⟨Wg.heap.size, 0, none⟩) 2 2)).setCell ⟨bx, 7, none⟩ (.slice none 0 0)) = W6 at hst ⊢
          have r4 : Wd.heap[Wg.heap.size]? = some (.cells #[.bool (decide (j % 3 = 0)), .bool false] 4 (0, 0)) := ((HNEW.out.2.2.block _ (Nat.lt_of_lt_of_le (by rw [World.size_drew, World.size_alloc]; exact Nat.lt_succ_self _) HSB.out.size)).trans ((HSB.out.block _ (by rw [World.size_drew, World.size_alloc]; exact Nat.lt_succ_self _)).trans (heap_new' Wg (.cells #[.bool (decide (j % 3 = 0)), .bool false] 4))))
          have hbx1 := HBX1.out
          have hbxg := Nat.lt_of_lt_of_le BXLT.out HBG.out.size
          have hgr := grown HHX.out HBG.out HG1.out BXLT.out HWC.out HSM.out HSB.out HNEW.out.2.2 HNEW.out.1 (by omega) HNEW.out.2.1 (by omega) r4 (by omega)
          have hrl := hgr.fr hst.2
          have hbl : Below W0.heap.size W0 W6 := hst.2.below (thru HWR.out (thru HBG.out (thru HWC.out (thru HSB.out HNEW.out.2.2)))) HBP.out
          have hbt : built sA (j + 1) (.node k nm g az ws ks bs cz .nil) = .node 5 ⟨#[]⟩ false [] [] (.node 12 ⟨#[]⟩ false [] [] (.node k' nm' g' az' ws' ks' bs' cz' .nil) [] .nil (.node 4 ⟨#[]⟩ false [] [] sA [] .nil .nil)) [decide (j % 3 = 0), false] .nil .nil := by simp only [built, HKN.out, HBU.out]
          have HST := Lib.hid hst; have HRL := Lib.hid hrl; have HBL := Lib.hid hbl; have HBT := Lib.hid hbt
          clear hst hrl hbl hbt hgr r4 hS hS9 hSg c0 c1 c2 c3 c4 c5 c6 c7 f0 f1 f2 f3 f4 f5 f6 f7 hbx1 hbxg
          go_wp2_with fail
          go_roundw
          case rel => exact ⟨j + 1, 5, ⟨#[]⟩, false, [], [], _, [decide (j % 3 = 0), false], .nil, none, 0, none, 0, some ⟨w1.heap.size + 1, 0, none⟩, 2, some ⟨Wg.heap.size, 0, none⟩, 2, none, 0, by omega, by go_num, HBT.out, HST.out.1, HRL.out, HBL.out⟩
          case measure => simp [intOf]; omega
    · obtain rfl : j = deep := by omega
      have hbw0 := HWR.out
      have hxr := HRW.out
      have hlx := (Array.getElem?_eq_some_iff.1 hxr).1
      have har : wr.heap[w.heap.size]? = some (.cells #[.int .i64 k, .string nm, .bool g, .slice x1 az.length d1, .slice x2 ws.length d2, .slice x3 ks.len d3, .slice x4 bs.length d4, .slice x5 cz.len d5] 28 (0, 0)) := (hbw0.block _ (Array.getElem?_eq_some_iff.1 HROW.out).1).trans HROW.out
      have hla := (Array.getElem?_eq_some_iff.1 har).1
      have q0 : wr.cell? ⟨w.heap.size, 0, none⟩ = some (.int .i64 k) := Lib.cell_of_heap har 0
      have q1 : wr.cell? ⟨w.heap.size, 1, none⟩ = some (.string nm) := Lib.cell_of_heap har 1
      have q2 : wr.cell? ⟨w.heap.size, 2, none⟩ = some (.bool g) := Lib.cell_of_heap har 2
      have q3 : wr.cell? ⟨w.heap.size, 3, none⟩ = some (.slice x1 az.length d1) := Lib.cell_of_heap har 3
      have q4 : wr.cell? ⟨w.heap.size, 4, none⟩ = some (.slice x2 ws.length d2) := Lib.cell_of_heap har 4
      have q5 : wr.cell? ⟨w.heap.size, 5, none⟩ = some (.slice x3 ks.len d3) := Lib.cell_of_heap har 5
      have q6 : wr.cell? ⟨w.heap.size, 6, none⟩ = some (.slice x4 bs.length d4) := Lib.cell_of_heap har 6
      have q7 : wr.cell? ⟨w.heap.size, 7, none⟩ = some (.slice x5 cz.len d5) := Lib.cell_of_heap har 7
      have xc0 : wr.cell? ⟨bx, 0, none⟩ = some (.int .i64 k') := Lib.cell_of_heap hxr 0
      have xc1 : wr.cell? ⟨bx, 1, none⟩ = some (.string nm') := Lib.cell_of_heap hxr 1
      have xc2 : wr.cell? ⟨bx, 2, none⟩ = some (.bool g') := Lib.cell_of_heap hxr 2
      have xc3 : wr.cell? ⟨bx, 3, none⟩ = some (.slice y1 az'.length e1) := Lib.cell_of_heap hxr 3
      have xc4 : wr.cell? ⟨bx, 4, none⟩ = some (.slice y2 ws'.length e2) := Lib.cell_of_heap hxr 4
      have xc5 : wr.cell? ⟨bx, 5, none⟩ = some (.slice y3 ks'.len e3) := Lib.cell_of_heap hxr 5
      have xc6 : wr.cell? ⟨bx, 6, none⟩ = some (.slice y4 bs'.length e4) := Lib.cell_of_heap hxr 6
      have xc7 : wr.cell? ⟨bx, 7, none⟩ = some (.slice y5 cz'.len e5) := Lib.cell_of_heap hxr 7
      have HAR := Lib.hid har; have HXR := Lib.hid hxr; have HBW := Lib.hid hbw0
      clear har hxr hbw0 hlt
      go_wp2_with fail
      have hbv := bel2 wr (.cells #[.int .i64 k, .string nm, .bool g, .slice x1 az.length d1, .slice x2 ws.length d2, .slice x3 ks.len d3, .slice x4 bs.length d4, .slice x5 cz.len d5, .int .i64 k, .string nm, .bool g, .slice x1 az.length d1, .slice x2 ws.length d2, .slice x3 ks.len d3, .slice x4 bs.length d4, .slice x5 cz.len d5] 28) (.cells #[.int .i64 7, .string ⟨#[]⟩, .bool false, .slice none 0 0, .slice none 0 0, .slice (some ⟨wr.heap.size, 0, none⟩) 2 2, .slice none 0 0, .slice none 0 0] 28)
      have hvl0 : ((wr.alloc (.cells #[.int .i64 k, .string nm, .bool g, .slice x1 az.length d1, .slice x2 ws.length d2, .slice x3 ks.len d3, .slice x4 bs.length d4, .slice x5 cz.len d5, .int .i64 k, .string nm, .bool g, .slice x1 az.length d1, .slice x2 ws.length d2, .slice x3 ks.len d3, .slice x4 bs.length d4, .slice x5 cz.len d5] 28)).alloc (.cells #[.int .i64 7, .string ⟨#[]⟩, .bool false, .slice none 0 0, .slice none 0 0, .slice (some ⟨wr.heap.size, 0, none⟩) 2 2, .slice none 0 0, .slice none 0 0] 28)).heap[wr.heap.size]? = some (.cells #[.int .i64 k, .string nm, .bool g, .slice x1 az.length d1, .slice x2 ws.length d2, .slice x3 ks.len d3, .slice x4 bs.length d4, .slice x5 cz.len d5, .int .i64 k, .string nm, .bool g, .slice x1 az.length d1, .slice x2 ws.length d2, .slice x3 ks.len d3, .slice x4 bs.length d4, .slice x5 cz.len d5] 28 (0, 0)) := (Below.heap_alloc _ _ _ (by simp)).trans (heap_new' _ _)
      have hvl1 : ((wr.alloc (.cells #[.int .i64 k, .string nm, .bool g, .slice x1 az.length d1, .slice x2 ws.length d2, .slice x3 ks.len d3, .slice x4 bs.length d4, .slice x5 cz.len d5, .int .i64 k, .string nm, .bool g, .slice x1 az.length d1, .slice x2 ws.length d2, .slice x3 ks.len d3, .slice x4 bs.length d4, .slice x5 cz.len d5] 28)).alloc (.cells #[.int .i64 7, .string ⟨#[]⟩, .bool false, .slice none 0 0, .slice none 0 0, .slice (some ⟨wr.heap.size, 0, none⟩) 2 2, .slice none 0 0, .slice none 0 0] 28)).heap[wr.heap.size + 1]? = some (.cells #[.int .i64 7, .string ⟨#[]⟩, .bool false, .slice none 0 0, .slice none 0 0, .slice (some ⟨wr.heap.size, 0, none⟩) 2 2, .slice none 0 0, .slice none 0 0] 28 (0, 0)) := by
        have := heap_new' (wr.alloc (.cells #[.int .i64 k, .string nm, .bool g, .slice x1 az.length d1, .slice x2 ws.length d2, .slice x3 ks.len d3, .slice x4 bs.length d4, .slice x5 cz.len d5, .int .i64 k, .string nm, .bool g, .slice x1 az.length d1, .slice x2 ws.length d2, .slice x3 ks.len d3, .slice x4 bs.length d4, .slice x5 cz.len d5] 28)) (.cells #[.int .i64 7, .string ⟨#[]⟩, .bool false, .slice none 0 0, .slice none 0 0, .slice (some ⟨wr.heap.size, 0, none⟩) 2 2, .slice none 0 0, .slice none 0 0] 28)
        rwa [World.size_alloc] at this
      generalize ((wr.alloc (.cells #[.int .i64 k, .string nm, .bool g, .slice x1 az.length d1, .slice x2 ws.length d2, .slice x3 ks.len d3, .slice x4 bs.length d4, .slice x5 cz.len d5, .int .i64 k, .string nm, .bool g, .slice x1 az.length d1, .slice x2 ws.length d2, .slice x3 ks.len d3, .slice x4 bs.length d4, .slice x5 cz.len d5] 28)).alloc (.cells #[.int .i64 7, .string ⟨#[]⟩, .bool false, .slice none 0 0, .slice none 0 0, .slice (some ⟨wr.heap.size, 0, none⟩) 2 2, .slice none 0 0, .slice none 0 0] 28)) = V at hbv hvl0 hvl1 ⊢
      have hvx := (hbv.block _ hlx).trans HXR.out
      have hva := (hbv.block _ hla).trans HAR.out
      have hha : Holds V nm az ws ks bs cz x1 d1 x2 d2 x3 d3 x4 d4 x5 d5 := HH.out.below (thru HB0.out (thru HBW.out hbv))
      have hhx : Holds V nm' az' ws' ks' bs' cz' y1 e1 y2 e2 y3 e3 y4 e4 y5 e5 := HHX.out V (FrP.of_below hbv)
      have hhl := pair_holds hha hvl0
      have hmv := cell_below (thru HB0.out (thru HBW.out hbv)) HM.out
      have hsum := built_sum HBU.out
      have htt := HT.out
      unfold totX at htt
      have hsk := size_tot ks
      have hsc := size_tot cz
      have hft : fitN (.node k nm g az ws ks bs cz .nil) := ⟨wsB_ok (by omega), fit_tot (by omega), fit_tot (by omega), trivial⟩
      have hfb := built_fit _ hft j
      rw [HBU.out] at hfb
      have hS1 : Calls Try.prog 13 #[.agg #[.int .i64 k', .string nm', .bool g', .slice y1 az'.length e1, .slice y2 ws'.length e2, .slice y3 ks'.len e3, .slice y4 bs'.length e4, .slice y5 cz'.len e5]] V fun e w' => e = .returned (.int .i64 (((1 + sizeN ks + sizeN cz : Nat) : Int) + 4 * (j : Int))) ∧ Below V.heap.size V w' := by
        have := size_all (ks'.size + cz'.size + 1) k' nm' g' az' ws' ks' bs' cz' y1 e1 y2 e2 y3 e3 y4 e4 y5 e5 V (Nat.lt_succ_self _) (by omega) hhx
        rw [hsum] at this
        refine this.mono fun e w' h => ⟨h.1.trans ?_, h.2⟩
        congr 2
      have hS2 := fun W (hb : Below V.heap.size V W) => size_all (ks.size + cz.size + 1) k nm g az ws ks bs cz x1 d1 x2 d2 x3 d3 x4 d4 x5 d5 W (Nat.lt_succ_self _) (by omega) (hha.below hb)
      have hR1 := fun W (hb : Below V.heap.size V W) => right_top 7 ⟨#[]⟩ false [] [] (.node k nm g az ws ks bs cz (.node k nm g az ws ks bs cz .nil)) [] .nil none 0 none 0 (some ⟨wr.heap.size, 0, none⟩) 2 none 0 none 0 m W (hhl.below hb) (by simp) ⟨hft.1, hft.2.1, hft.2.2.1, hft⟩ trivial (cell_below hb hmv)
      rw [HF.out.loop] at hR1
      have hR2 := fun W (hb : Below V.heap.size V W) b2 (hr2 : W.heap[b2]? = some (.cells #[.int .i64 7, .string ⟨#[]⟩, .bool false, .slice none 0 0, .slice none 0 0, .slice (some ⟨wr.heap.size, 0, none⟩) 2 2, .slice none 0 0, .slice none 0 0] 28 (0, 0)) ) => right_top 13 ⟨#[102]⟩ false [] [] (.node 7 ⟨#[]⟩ false [] [] (.node k nm g az ws ks bs cz (.node k nm g az ws ks bs cz .nil)) [] .nil .nil) [] .nil none 0 none 0 (some ⟨b2, 0, none⟩) 1 none 0 none 0 m W ⟨by decide, sl_nil _ _, sl_nil _ _, nlies_one (hhl.below hb) hr2, sl_nil _ _, nl_nil _, by simp [NL.okN, hha.okk, hha.okc], rfl⟩ (by simp) ⟨by simp, ⟨hft.1, hft.2.1, hft.2.2.1, hft⟩, trivial, trivial⟩ trivial (cell_below hb hmv)
      rw [HF.out.func] at hR2
      have hP := fun (h180 : j ≤ 180) W (hb : Below V.heap.size V W) => program_any k' nm' g' az' ws' ks' bs' cz' y1 e1 y2 e2 y3 e3 y4 e4 y5 e5 m W (hhx.below hb) hfb.1 hfb.2.1 hfb.2.2.1 (cell_below hb hmv)
      have hP' := fun (h180 : j ≤ 180) W (hb : Below V.heap.size V W) => (hP h180 W hb).mono fun e w' h => And.intro (h.1.trans (by rw [HF.out.program h180 HBU.out])) h.2
      unfold nodeV at hS1 hS2 hR1 hR2 hP'
      have HS1 := Lib.hid hS1; have HS2 := Lib.hid hS2; have HR1 := Lib.hid hR1; have HR2 := Lib.hid hR2; have HPP := Lib.hid hP'
      have HVX := Lib.hid hvx; have HVA := Lib.hid hva; have HVL := Lib.hid hvl1; have HBV := Lib.hid hbv
      have hsl : 1 + sizeN ks + sizeN cz ≤ 5000 := by omega
      clear hS1 hS2 hR1 hR2 hP hP' hvx hva hvl0 hvl1 hbv hha hhx hhl hmv hsum htt hsk hsc hft hfb q0 q1 q2 q3 q4 q5 q6 q7
      generalize hSN : 1 + sizeN ks + sizeN cz = S at HS1 HS2 hsl
      clear hSN xc0 xc1 xc2 xc3 xc4 xc5 xc6 xc7
      have u0 : IntKind.i64.wrap (4 * (j : Int)) = 4 * (j : Int) := (wrapEq _).trans (IntWalk.wrap64_in _ ⟨by omega, by omega⟩)
      have u1 : IntKind.i64.wrap ((S : Int) + 4 * (j : Int)) = (S : Int) + 4 * (j : Int) := (wrapEq _).trans (IntWalk.wrap64_in _ ⟨by omega, by omega⟩)
      refine HS1.out.mono ?_
      rintro e wa ⟨rfl, ha⟩
      have q0 : wa.cell? ⟨w.heap.size, 0, none⟩ = some (.int .i64 k) := cell_below ha (Lib.cell_of_heap HVA.out 0)
      have q1 : wa.cell? ⟨w.heap.size, 1, none⟩ = some (.string nm) := cell_below ha (Lib.cell_of_heap HVA.out 1)
      have q2 : wa.cell? ⟨w.heap.size, 2, none⟩ = some (.bool g) := cell_below ha (Lib.cell_of_heap HVA.out 2)
      have q3 : wa.cell? ⟨w.heap.size, 3, none⟩ = some (.slice x1 az.length d1) := cell_below ha (Lib.cell_of_heap HVA.out 3)
      have q4 : wa.cell? ⟨w.heap.size, 4, none⟩ = some (.slice x2 ws.length d2) := cell_below ha (Lib.cell_of_heap HVA.out 4)
      have q5 : wa.cell? ⟨w.heap.size, 5, none⟩ = some (.slice x3 ks.len d3) := cell_below ha (Lib.cell_of_heap HVA.out 5)
      have q6 : wa.cell? ⟨w.heap.size, 6, none⟩ = some (.slice x4 bs.length d4) := cell_below ha (Lib.cell_of_heap HVA.out 6)
      have q7 : wa.cell? ⟨w.heap.size, 7, none⟩ = some (.slice x5 cz.len d5) := cell_below ha (Lib.cell_of_heap HVA.out 7)
      go_wp2_with fail
      refine (HS2.out _ ha).mono ?_
      rintro e wb ⟨rfl, hb0⟩
      clear q0 q1 q2 q3 q4 q5 q6 q7
      have hb := thru ha hb0
      have HB := Lib.hid hb
      clear ha hb0 hb
      have lc0 : wb.cell? ⟨wr.heap.size + 1, 0, none⟩ = some (.int .i64 7) := cell_below HB.out (Lib.cell_of_heap HVL.out 0)
      have lc1 : wb.cell? ⟨wr.heap.size + 1, 1, none⟩ = some (.string ⟨#[]⟩) := cell_below HB.out (Lib.cell_of_heap HVL.out 1)
      have lc2 : wb.cell? ⟨wr.heap.size + 1, 2, none⟩ = some (.bool false) := cell_below HB.out (Lib.cell_of_heap HVL.out 2)
      have lc3 : wb.cell? ⟨wr.heap.size + 1, 3, none⟩ = some (.slice none 0 0) := cell_below HB.out (Lib.cell_of_heap HVL.out 3)
      have lc4 : wb.cell? ⟨wr.heap.size + 1, 4, none⟩ = some (.slice none 0 0) := cell_below HB.out (Lib.cell_of_heap HVL.out 4)
      have lc5 : wb.cell? ⟨wr.heap.size + 1, 5, none⟩ = some (.slice (some ⟨wr.heap.size, 0, none⟩) 2 2) := cell_below HB.out (Lib.cell_of_heap HVL.out 5)
      have lc6 : wb.cell? ⟨wr.heap.size + 1, 6, none⟩ = some (.slice none 0 0) := cell_below HB.out (Lib.cell_of_heap HVL.out 6)
      have lc7 : wb.cell? ⟨wr.heap.size + 1, 7, none⟩ = some (.slice none 0 0) := cell_below HB.out (Lib.cell_of_heap HVL.out 7)
      go_wp2_with fail
      refine (HR1.out _ HB.out).mono ?_
      rintro e wc ⟨rfl, hc0⟩
      clear lc0 lc1 lc2 lc3 lc4 lc5 lc6 lc7
      have HC := Lib.hid (thru HB.out hc0)
      clear hc0
      have lc0 : wc.cell? ⟨wr.heap.size + 1, 0, none⟩ = some (.int .i64 7) := cell_below HC.out (Lib.cell_of_heap HVL.out 0)
      have lc1 : wc.cell? ⟨wr.heap.size + 1, 1, none⟩ = some (.string ⟨#[]⟩) := cell_below HC.out (Lib.cell_of_heap HVL.out 1)
      have lc2 : wc.cell? ⟨wr.heap.size + 1, 2, none⟩ = some (.bool false) := cell_below HC.out (Lib.cell_of_heap HVL.out 2)
      have lc3 : wc.cell? ⟨wr.heap.size + 1, 3, none⟩ = some (.slice none 0 0) := cell_below HC.out (Lib.cell_of_heap HVL.out 3)
      have lc4 : wc.cell? ⟨wr.heap.size + 1, 4, none⟩ = some (.slice none 0 0) := cell_below HC.out (Lib.cell_of_heap HVL.out 4)
      have lc5 : wc.cell? ⟨wr.heap.size + 1, 5, none⟩ = some (.slice (some ⟨wr.heap.size, 0, none⟩) 2 2) := cell_below HC.out (Lib.cell_of_heap HVL.out 5)
      have lc6 : wc.cell? ⟨wr.heap.size + 1, 6, none⟩ = some (.slice none 0 0) := cell_below HC.out (Lib.cell_of_heap HVL.out 6)
      have lc7 : wc.cell? ⟨wr.heap.size + 1, 7, none⟩ = some (.slice none 0 0) := cell_below HC.out (Lib.cell_of_heap HVL.out 7)
      go_wp2_with fail
      have hrn := heap_new' wc (.cells #[.int .i64 7, .string ⟨#[]⟩, .bool false, .slice none 0 0, .slice none 0 0, .slice (some ⟨wr.heap.size, 0, none⟩) 2 2, .slice none 0 0, .slice none 0 0] 28)
      have hcn := thru HC.out (bel1 wc (.cells #[.int .i64 7, .string ⟨#[]⟩, .bool false, .slice none 0 0, .slice none 0 0, .slice (some ⟨wr.heap.size, 0, none⟩) 2 2, .slice none 0 0, .slice none 0 0] 28))
      refine (HR2.out _ hcn wc.heap.size hrn).mono ?_
      rintro e wd ⟨rfl, hd0⟩
      have HD := Lib.hid (thru hcn hd0)
      clear hd0 hcn hrn lc0 lc1 lc2 lc3 lc4 lc5 lc6 lc7
      have xc0 : wd.cell? ⟨bx, 0, none⟩ = some (.int .i64 k') := cell_below HD.out (Lib.cell_of_heap HVX.out 0)
      have xc1 : wd.cell? ⟨bx, 1, none⟩ = some (.string nm') := cell_below HD.out (Lib.cell_of_heap HVX.out 1)
      have xc2 : wd.cell? ⟨bx, 2, none⟩ = some (.bool g') := cell_below HD.out (Lib.cell_of_heap HVX.out 2)
      have xc3 : wd.cell? ⟨bx, 3, none⟩ = some (.slice y1 az'.length e1) := cell_below HD.out (Lib.cell_of_heap HVX.out 3)
      have xc4 : wd.cell? ⟨bx, 4, none⟩ = some (.slice y2 ws'.length e2) := cell_below HD.out (Lib.cell_of_heap HVX.out 4)
      have xc5 : wd.cell? ⟨bx, 5, none⟩ = some (.slice y3 ks'.len e3) := cell_below HD.out (Lib.cell_of_heap HVX.out 5)
      have xc6 : wd.cell? ⟨bx, 6, none⟩ = some (.slice y4 bs'.length e4) := cell_below HD.out (Lib.cell_of_heap HVX.out 6)
      have xc7 : wd.cell? ⟨bx, 7, none⟩ = some (.slice y5 cz'.len e5) := cell_below HD.out (Lib.cell_of_heap HVX.out 7)
      by_cases h180 : j ≤ 180
      · have g1 : ((j : Int) > 180) = False := by simp; omega
        have g2 : (180 < (j : Int)) = False := by simp; omega
        have HP := Lib.hid (HPP.out h180 wd HD.out)
        clear h180
        go_wp2_with (go_at_call 10; refine HP.out.mono ?_; rintro e we ⟨rfl, he⟩)
        go_ret
        exact ⟨rfl, thru HB0.out (thru HBW.out (thru HBV.out (thru HD.out (by assumption))))⟩
      · have g1 : ((j : Int) > 180) = True := by simp; omega
        have g2 : (180 < (j : Int)) = True := by simp; omega
        clear h180
        go_wp2_with fail
        go_ret
        exact ⟨rfl, thru HB0.out (thru HBW.out (thru HBV.out HD.out))⟩
end Tr
end Go.Proofs.Ytgdjeemmklmpfaa
