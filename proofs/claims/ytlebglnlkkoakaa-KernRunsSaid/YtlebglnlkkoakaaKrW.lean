/- KernRuns' walk. -/
import Derived.Test.YtlebglnlkkoakaaKrV
import Derived.Deep.CutBlock
import Derived.Test.YtlebglnlkkoakaaQuiet
namespace Go.Proofs.Ytlebglnlkkoakaa
open Go.RowKit Go.Maps
namespace Kn
theorem stays_below {w : World} {v : Value} : ∀ (e : Ending) (w' : World), (e = .returned v ∧ w' = w) → e = .returned v ∧ Below w.heap.size w w' := by
  rintro e w' ⟨rfl, rfl⟩
  exact ⟨rfl, Below.refl _ _⟩
set_option maxRecDepth 8000 in
set_option maxHeartbeats 16000000 in
theorem runs_any (x : Nat) (hx : x < 4294967296) (a : Option Addr) (cap : Nat) (l : List Ac) (w : World) (hA : Acts w a l) :
    Calls Try.prog 3 #[.int .u32 x, .slice a l.length cap] w fun e w' => e = .returned (.bool true) ∧ Below w.heap.size w w' := by
  have HAC := Lib.hid hA
  clear hA
  have HAL := fun w => alive_law w
  by_cases h80 : 80 < l.length
  · go_enter Try.func3, Try.ntmps3
    go_wp2_with fail
    refine (HAL _).mono ?_
    rintro e w1 ⟨rfl, hb1⟩
    have HB1 := Lib.hid hb1
    clear hb1
    go_wp2_with fail
    go_ret
    exact ⟨rfl, HB1.out⟩
  · have HN := fun w w1 hb => now_new x hx w w1 hb
    have HRN := fun w => rnew_any x hx w
    have HSN := Lib.hid (sim_new hx)
    unfold tv at HRN
    go_enter Try.func3, Try.ntmps3
    go_wp2_with fail
    refine (HAL _).mono ?_
    rintro e w1 ⟨rfl, hb1⟩
    have HB1 := Lib.hid hb1
    clear hb1
    go_wp2_with fail
    refine (HN w w1 HB1.out).mono ?_
    rintro e w2 ⟨tb, rfl, hnow⟩
    have HNOW := Lib.hid hnow
    clear hnow
    go_wp2_with fail
    refine (HRN _).mono ?_
    rintro e w3 ⟨lv, rfl, hrt, hb3⟩
    have HTWO := Lib.hid (Two.new HNOW.out hrt hb3)
    obtain ⟨la, ln, lc, rfl⟩ := ends_shape hrt.l
    clear hrt hb3 HNOW
    go_wp2_with fail
    have HTRI := Lib.hid (HTWO.out.tri (below_alloc w3 (.cells #[.slice la ln lc, .int .i64 (newR x).last, .slice none 0 0] 31)) (Nat.le_refl _) (heap_alloc_new w3 _))
    clear HTWO
    generalize newT x = t0 at HSN HTRI
    generalize newR x = u0 at HSN HTRI ⊢
    generalize w3.alloc (.cells #[.slice la ln lc, .int .i64 u0.last, .slice none 0 0] 31) = w4 at HTRI ⊢
    generalize w3.heap.size = g at HTRI ⊢
    have HSM := same_any HTRI.out.two HSN.out (by omega)
    unfold tv at HSM
    refine HSM.mono ?_
    rintro e w5 ⟨rfl, hb5⟩
    have HTRJ := Lib.hid (HTRI.out.more hb5)
    have HB5 := Lib.hid HTRJ.out.two.below
    clear HSM hb5 HTRI
    go_wp2_with fail
    clear HAL HN HRN HB1
    go_loopw [51] (fun i wr => ∃ (k : Nat) (t u : T) (lv ev : Value), k ≤ l.length ∧ i = .int .i64 k ∧ Tri w w1.heap.size tb k t u lv ev (One g (.cells #[lv, .int .i64 u.last, ev] 31 (0, 0))) wr ∧ Sim t u) (fun i _ => l.length - (intOf i).toNat)
    case atStart => exact ⟨0, t0, u0, _, _, Nat.zero_le _, rfl, HTRJ.out, HSN.out⟩
    case round =>
      obtain ⟨k, t, u, lv, ev, hk, rfl, htri, hsim⟩ := hrel
      have HT := Lib.hid htri; have HS := Lib.hid hsim
      clear htri hsim HTRJ HSN
      by_cases hlt : k < l.length
      · have hy := List.getElem?_eq_getElem hlt
        obtain ⟨b, off, rfl, hbl, c0, c1, c2, c3, c4, c5, i1, i2, i3⟩ := HAC.out k _ hy
        generalize l[k] = y at hy c0 c1 c2 c3 c4 c5 i1 i2 i3
        have low : ∀ c, wr.cell? ⟨b, c, none⟩ = w.cell? ⟨b, c, none⟩ := fun c => World.cell?_of_block (HT.out.two.below.block b hbl)
        have q0 : wr.cell? ⟨b, off + k * 6, none⟩ = some (.int .i64 y.kind) := by rw [low, Nat.mul_comm]; exact c0
        have q1 : wr.cell? ⟨b, off + k * 6 + 1, none⟩ = some (.int .i64 y.pid) := by rw [low, Nat.mul_comm]; exact c1
        have q2 : wr.cell? ⟨b, off + k * 6 + 2, none⟩ = some (.int .i64 y.ot) := by rw [low, Nat.mul_comm]; exact c2
        have q3 : wr.cell? ⟨b, off + k * 6 + 3, none⟩ = some (.int .i64 y.s) := by rw [low, Nat.mul_comm]; exact c3
        have q4 : wr.cell? ⟨b, off + k * 6 + 4, none⟩ = some (.int .i64 y.st) := by rw [low, Nat.mul_comm]; exact c4
        have q5 : wr.cell? ⟨b, off + k * 6 + 5, none⟩ = some (.int .i64 y.how) := by rw [low, Nat.mul_comm]; exact c5
        have hta := HT.out.act (.cells #[.int .i64 y.kind, .int .i64 y.pid, .int .i64 y.ot, .int .i64 y.s, .int .i64 y.st, .int .i64 y.how] 35)
        have hra := heap_alloc_new wr (.cells #[.int .i64 y.kind, .int .i64 y.pid, .int .i64 y.ot, .int .i64 y.s, .int .i64 y.st, .int .i64 y.how] 35)
        have hgne : wr.heap.size ≠ g := fun e => by have := (Array.getElem?_eq_some_iff.1 (HT.out.box ⟨rfl, rfl⟩)).1; omega
        have HTA := Lib.hid hta; have HRA := Lib.hid hra; have HNE := Lib.hid hgne
        have HI1 := Lib.hid i1; have HI2 := Lib.hid i2; have HI3 := Lib.hid i3
        clear c0 c1 c2 c3 c4 c5 i1 i2 i3 low hy hta hra hbl hgne
        go_upto_block 2 with fail
        clear q0 q1 q2 q3 q4 q5 HT
        generalize wr.alloc (.cells #[.int .i64 y.kind, .int .i64 y.pid, .int .i64 y.ot, .int .i64 y.s, .int .i64 y.st, .int .i64 y.how] 35) = wa at HTA HRA ⊢
        generalize wr.heap.size = ga at HTA HRA HNE ⊢
        obtain ⟨yk, yp, yo, ys, yt, yh⟩ := y
        dsimp only at HTA HRA HI1 HI2 HI3 ⊢
        go_cut [9, 10, 11, 12, 13, 14, 15, 16, 17, 18, 19, 20, 21, 22, 23, 24, 25, 26, 27, 28, 29, 30, 31] from 52 to 207 (fun x9 x10 x11 x12 x13 x14 x15 x16 x17 x18 x19 x20 x21 x22 x23 x24 x25 x26 x27 x28 x29 x30 x31 wx => x9 = .bool true ∧ ∃ (t' u' : T) (lv' ev' : Value), Tri w w1.heap.size tb (k + 1) t' u' lv' ev' (Duo g (.cells #[lv', .int .i64 u'.last, ev'] 31 (0, 0)) ga (.cells #[.int .i64 yk, .int .i64 yp, .int .i64 yo, .int .i64 ys, .int .i64 yt, .int .i64 yh] 35 (0, 0))) wx ∧ Sim t' u')
        case first =>
          have d0 : wa.cell? ⟨ga, 0, none⟩ = some (.int .i64 yk) := Lib.cell_of_heap HRA.out 0
          have d1 : wa.cell? ⟨ga, 1, none⟩ = some (.int .i64 yp) := Lib.cell_of_heap HRA.out 1
          have d2 : wa.cell? ⟨ga, 2, none⟩ = some (.int .i64 yo) := Lib.cell_of_heap HRA.out 2
          have d3 : wa.cell? ⟨ga, 3, none⟩ = some (.int .i64 ys) := Lib.cell_of_heap HRA.out 3
          have d4 : wa.cell? ⟨ga, 4, none⟩ = some (.int .i64 yt) := Lib.cell_of_heap HRA.out 4
          have d5 : wa.cell? ⟨ga, 5, none⟩ = some (.int .i64 yh) := Lib.cell_of_heap HRA.out 5
          obtain ⟨l1, l2, l3, rfl⟩ := ends_shape HTA.out.two.rt.l
          obtain ⟨e1, e2, e3, rfl⟩ := ends_shape HTA.out.two.rt.e
          have O := HS.out.ok HTA.out.two.inv.ok
          have hla : -1000000 ≤ u.last ∧ u.last ≤ 1000000 := by have h1 := HTA.out.two.inv.pos; have h2 := HTA.out.two.inv.last; have h3 := HS.out.last; omega
          have hea : u.ends.length ≤ 100 := by have h1 := HTA.out.two.inv.ends; rw [HS.out.ends] at h1; omega
          by_cases k0 : yk = 0
          · subst k0
            as_aux_lemma =>
              have hf := HS.out.fork yp
              have P1 := Lib.hid (HTA.out.fork (by omega) yp HI1.out)
              have P2 := Lib.hid (fun (wq : World) (hr : RT wq w1.heap.size (.slice l1 l2 l3) (.slice e1 e2 e3) u) (hB : w1.heap.size ≤ wq.heap.size) => rfork_any hr O HS.out.sets hla hB yp)
              unfold tv at P2
              rw [hf.2] at P1
              have hs1 := hf.1
              clear hf
              generalize (fork t yp).1 = t' at P1 hs1
              generalize fork u yp = r at P1 P2 hs1
              obtain ⟨u', r1, r2⟩ := r
              dsimp only at P1 P2 hs1
              have HS1 := Lib.hid hs1
              clear hs1 O hla hea
              go_wp2_with fail
              refine P1.out.mono ?_
              rintro e w6 ⟨rfl, ht6⟩
              have HT6 := Lib.hid ht6
              clear d0 d1 d2 d3 d4 d5 ht6 P1 HTA
              have b0 : w6.cell? ⟨g, 0, none⟩ = some (.slice l1 l2 l3) := Lib.cell_of_heap (HT6.out.box (.inl ⟨rfl, rfl⟩)) 0
              have b1 : w6.cell? ⟨g, 1, none⟩ = some (.int .i64 u.last) := Lib.cell_of_heap (HT6.out.box (.inl ⟨rfl, rfl⟩)) 1
              have b2 : w6.cell? ⟨g, 2, none⟩ = some (.slice e1 e2 e3) := Lib.cell_of_heap (HT6.out.box (.inl ⟨rfl, rfl⟩)) 2
              have d0 : w6.cell? ⟨ga, 0, none⟩ = some (.int .i64 0) := Lib.cell_of_heap (HT6.out.box (.inr ⟨rfl, rfl⟩)) 0
              have d1 : w6.cell? ⟨ga, 1, none⟩ = some (.int .i64 yp) := Lib.cell_of_heap (HT6.out.box (.inr ⟨rfl, rfl⟩)) 1
              have d2 : w6.cell? ⟨ga, 2, none⟩ = some (.int .i64 yo) := Lib.cell_of_heap (HT6.out.box (.inr ⟨rfl, rfl⟩)) 2
              have d3 : w6.cell? ⟨ga, 3, none⟩ = some (.int .i64 ys) := Lib.cell_of_heap (HT6.out.box (.inr ⟨rfl, rfl⟩)) 3
              have d4 : w6.cell? ⟨ga, 4, none⟩ = some (.int .i64 yt) := Lib.cell_of_heap (HT6.out.box (.inr ⟨rfl, rfl⟩)) 4
              have d5 : w6.cell? ⟨ga, 5, none⟩ = some (.int .i64 yh) := Lib.cell_of_heap (HT6.out.box (.inr ⟨rfl, rfl⟩)) 5
              go_wp2_with fail
              refine (P2.out _ HT6.out.two.rt HT6.out.two.size).mono ?_
              rintro e w7 ⟨lv', ev', rfl, hch⟩
              have HT7 := Lib.hid (HT6.out.ref hch)
              obtain ⟨m1, m2, m3, rfl⟩ := ends_shape hch.rt.l
              obtain ⟨n1, n2, n3, rfl⟩ := ends_shape hch.rt.e
              clear hch P2 HT6 d0 d1 d2 d3 d4 d5 b0 b1 b2
              have HT8 := Lib.hid (HT7.out.more (below_alloc w7 (.cells #[(.slice m1 m2 m3), .int .i64 u'.last, (.slice n1 n2 n3)] 31)))
              have hn8 := heap_alloc_new w7 (.cells #[(.slice m1 m2 m3), .int .i64 u'.last, (.slice n1 n2 n3)] 31)
              have nb0 : (w7.alloc (.cells #[(.slice m1 m2 m3), .int .i64 u'.last, (.slice n1 n2 n3)] 31)).cell? ⟨w7.heap.size, 0, none⟩ = some (.slice m1 m2 m3) := Lib.cell_of_heap hn8 0
              have nb1 : (w7.alloc (.cells #[(.slice m1 m2 m3), .int .i64 u'.last, (.slice n1 n2 n3)] 31)).cell? ⟨w7.heap.size, 1, none⟩ = some (.int .i64 u'.last) := Lib.cell_of_heap hn8 1
              have nb2 : (w7.alloc (.cells #[(.slice m1 m2 m3), .int .i64 u'.last, (.slice n1 n2 n3)] 31)).cell? ⟨w7.heap.size, 2, none⟩ = some (.slice n1 n2 n3) := Lib.cell_of_heap hn8 2
              clear hn8 HT7
              have b0 : (w7.alloc (.cells #[(.slice m1 m2 m3), .int .i64 u'.last, (.slice n1 n2 n3)] 31)).cell? ⟨g, 0, none⟩ = some (.slice l1 l2 l3) := Lib.cell_of_heap (HT8.out.box (.inl ⟨rfl, rfl⟩)) 0
              have bf0 : (w7.alloc (.cells #[(.slice m1 m2 m3), .int .i64 u'.last, (.slice n1 n2 n3)] 31)).frozen? ⟨g, 0, none⟩ = false := frozen_of_row _ _ _ _ _ (HT8.out.box (.inl ⟨rfl, rfl⟩))
              have b1 : (w7.alloc (.cells #[(.slice m1 m2 m3), .int .i64 u'.last, (.slice n1 n2 n3)] 31)).cell? ⟨g, 1, none⟩ = some (.int .i64 u.last) := Lib.cell_of_heap (HT8.out.box (.inl ⟨rfl, rfl⟩)) 1
              have bf1 : (w7.alloc (.cells #[(.slice m1 m2 m3), .int .i64 u'.last, (.slice n1 n2 n3)] 31)).frozen? ⟨g, 1, none⟩ = false := frozen_of_row _ _ _ _ _ (HT8.out.box (.inl ⟨rfl, rfl⟩))
              have b2 : (w7.alloc (.cells #[(.slice m1 m2 m3), .int .i64 u'.last, (.slice n1 n2 n3)] 31)).cell? ⟨g, 2, none⟩ = some (.slice e1 e2 e3) := Lib.cell_of_heap (HT8.out.box (.inl ⟨rfl, rfl⟩)) 2
              have bf2 : (w7.alloc (.cells #[(.slice m1 m2 m3), .int .i64 u'.last, (.slice n1 n2 n3)] 31)).frozen? ⟨g, 2, none⟩ = false := frozen_of_row _ _ _ _ _ (HT8.out.box (.inl ⟨rfl, rfl⟩))
              go_wp2_with fail
              go_meet
              exact ⟨rfl, t', u', _, _, HT8.out.set HNE.out _ _ _, HS1.out⟩
          by_cases k1 : yk = 1
          · subst k1
            as_aux_lemma =>
              have hf := HS.out.send yp ys
              have P1 := Lib.hid (HTA.out.send (by omega) yp ys HI1.out)
              have P2 := Lib.hid (fun (wq : World) (hr : RT wq w1.heap.size (.slice l1 l2 l3) (.slice e1 e2 e3) u) (hB : w1.heap.size ≤ wq.heap.size) => rsend_any hr O HS.out.sets hB hea yp ys)
              unfold tv at P2
              rw [hf.2] at P1
              have hs1 := hf.1
              clear hf
              generalize (send Sig.mildB t yp ys).1 = t' at P1 hs1
              generalize sendR u yp ys = r at P1 P2 hs1
              obtain ⟨u', r1⟩ := r
              dsimp only at P1 P2 hs1
              have HS1 := Lib.hid hs1
              clear hs1 O hla hea
              go_wp2_with fail
              refine P1.out.mono ?_
              rintro e w6 ⟨rfl, ht6⟩
              have HT6 := Lib.hid ht6
              clear d0 d1 d2 d3 d4 d5 ht6 P1 HTA
              have b0 : w6.cell? ⟨g, 0, none⟩ = some (.slice l1 l2 l3) := Lib.cell_of_heap (HT6.out.box (.inl ⟨rfl, rfl⟩)) 0
              have b1 : w6.cell? ⟨g, 1, none⟩ = some (.int .i64 u.last) := Lib.cell_of_heap (HT6.out.box (.inl ⟨rfl, rfl⟩)) 1
              have b2 : w6.cell? ⟨g, 2, none⟩ = some (.slice e1 e2 e3) := Lib.cell_of_heap (HT6.out.box (.inl ⟨rfl, rfl⟩)) 2
              have d0 : w6.cell? ⟨ga, 0, none⟩ = some (.int .i64 1) := Lib.cell_of_heap (HT6.out.box (.inr ⟨rfl, rfl⟩)) 0
              have d1 : w6.cell? ⟨ga, 1, none⟩ = some (.int .i64 yp) := Lib.cell_of_heap (HT6.out.box (.inr ⟨rfl, rfl⟩)) 1
              have d2 : w6.cell? ⟨ga, 2, none⟩ = some (.int .i64 yo) := Lib.cell_of_heap (HT6.out.box (.inr ⟨rfl, rfl⟩)) 2
              have d3 : w6.cell? ⟨ga, 3, none⟩ = some (.int .i64 ys) := Lib.cell_of_heap (HT6.out.box (.inr ⟨rfl, rfl⟩)) 3
              have d4 : w6.cell? ⟨ga, 4, none⟩ = some (.int .i64 yt) := Lib.cell_of_heap (HT6.out.box (.inr ⟨rfl, rfl⟩)) 4
              have d5 : w6.cell? ⟨ga, 5, none⟩ = some (.int .i64 yh) := Lib.cell_of_heap (HT6.out.box (.inr ⟨rfl, rfl⟩)) 5
              go_wp2_with fail
              refine (P2.out _ HT6.out.two.rt HT6.out.two.size).mono ?_
              rintro e w7 ⟨lv', ev', rfl, hch⟩
              have HT7 := Lib.hid (HT6.out.ref hch)
              obtain ⟨m1, m2, m3, rfl⟩ := ends_shape hch.rt.l
              obtain ⟨n1, n2, n3, rfl⟩ := ends_shape hch.rt.e
              clear hch P2 HT6 d0 d1 d2 d3 d4 d5 b0 b1 b2
              have HT8 := Lib.hid (HT7.out.more (below_alloc w7 (.cells #[(.slice m1 m2 m3), .int .i64 u'.last, (.slice n1 n2 n3)] 31)))
              have hn8 := heap_alloc_new w7 (.cells #[(.slice m1 m2 m3), .int .i64 u'.last, (.slice n1 n2 n3)] 31)
              have nb0 : (w7.alloc (.cells #[(.slice m1 m2 m3), .int .i64 u'.last, (.slice n1 n2 n3)] 31)).cell? ⟨w7.heap.size, 0, none⟩ = some (.slice m1 m2 m3) := Lib.cell_of_heap hn8 0
              have nb1 : (w7.alloc (.cells #[(.slice m1 m2 m3), .int .i64 u'.last, (.slice n1 n2 n3)] 31)).cell? ⟨w7.heap.size, 1, none⟩ = some (.int .i64 u'.last) := Lib.cell_of_heap hn8 1
              have nb2 : (w7.alloc (.cells #[(.slice m1 m2 m3), .int .i64 u'.last, (.slice n1 n2 n3)] 31)).cell? ⟨w7.heap.size, 2, none⟩ = some (.slice n1 n2 n3) := Lib.cell_of_heap hn8 2
              clear hn8 HT7
              have b0 : (w7.alloc (.cells #[(.slice m1 m2 m3), .int .i64 u'.last, (.slice n1 n2 n3)] 31)).cell? ⟨g, 0, none⟩ = some (.slice l1 l2 l3) := Lib.cell_of_heap (HT8.out.box (.inl ⟨rfl, rfl⟩)) 0
              have bf0 : (w7.alloc (.cells #[(.slice m1 m2 m3), .int .i64 u'.last, (.slice n1 n2 n3)] 31)).frozen? ⟨g, 0, none⟩ = false := frozen_of_row _ _ _ _ _ (HT8.out.box (.inl ⟨rfl, rfl⟩))
              have b1 : (w7.alloc (.cells #[(.slice m1 m2 m3), .int .i64 u'.last, (.slice n1 n2 n3)] 31)).cell? ⟨g, 1, none⟩ = some (.int .i64 u.last) := Lib.cell_of_heap (HT8.out.box (.inl ⟨rfl, rfl⟩)) 1
              have bf1 : (w7.alloc (.cells #[(.slice m1 m2 m3), .int .i64 u'.last, (.slice n1 n2 n3)] 31)).frozen? ⟨g, 1, none⟩ = false := frozen_of_row _ _ _ _ _ (HT8.out.box (.inl ⟨rfl, rfl⟩))
              have b2 : (w7.alloc (.cells #[(.slice m1 m2 m3), .int .i64 u'.last, (.slice n1 n2 n3)] 31)).cell? ⟨g, 2, none⟩ = some (.slice e1 e2 e3) := Lib.cell_of_heap (HT8.out.box (.inl ⟨rfl, rfl⟩)) 2
              have bf2 : (w7.alloc (.cells #[(.slice m1 m2 m3), .int .i64 u'.last, (.slice n1 n2 n3)] 31)).frozen? ⟨g, 2, none⟩ = false := frozen_of_row _ _ _ _ _ (HT8.out.box (.inl ⟨rfl, rfl⟩))
              go_wp2_with fail
              go_meet
              exact ⟨rfl, t', u', _, _, HT8.out.set HNE.out _ _ _, HS1.out⟩
          by_cases k2 : yk = 2
          · subst k2
            as_aux_lemma =>
              have hf := HS.out.exit yp yt
              have P1 := Lib.hid (HTA.out.exit (by omega) yp yt HI1.out HI3.out)
              have P2 := Lib.hid (fun (wq : World) (hr : RT wq w1.heap.size (.slice l1 l2 l3) (.slice e1 e2 e3) u) (hB : w1.heap.size ≤ wq.heap.size) => rexit_any hr O HS.out.sets hB hea yp yt)
              unfold tv at P2
              rw [hf.2] at P1
              have hs1 := hf.1
              clear hf
              generalize (exit t yp yt).1 = t' at P1 hs1
              generalize exitR u yp yt = r at P1 P2 hs1
              obtain ⟨u', r1⟩ := r
              dsimp only at P1 P2 hs1
              have HS1 := Lib.hid hs1
              clear hs1 O hla hea
              go_wp2_with fail
              refine P1.out.mono ?_
              rintro e w6 ⟨rfl, ht6⟩
              have HT6 := Lib.hid ht6
              clear d0 d1 d2 d3 d4 d5 ht6 P1 HTA
              have b0 : w6.cell? ⟨g, 0, none⟩ = some (.slice l1 l2 l3) := Lib.cell_of_heap (HT6.out.box (.inl ⟨rfl, rfl⟩)) 0
              have b1 : w6.cell? ⟨g, 1, none⟩ = some (.int .i64 u.last) := Lib.cell_of_heap (HT6.out.box (.inl ⟨rfl, rfl⟩)) 1
              have b2 : w6.cell? ⟨g, 2, none⟩ = some (.slice e1 e2 e3) := Lib.cell_of_heap (HT6.out.box (.inl ⟨rfl, rfl⟩)) 2
              have d0 : w6.cell? ⟨ga, 0, none⟩ = some (.int .i64 2) := Lib.cell_of_heap (HT6.out.box (.inr ⟨rfl, rfl⟩)) 0
              have d1 : w6.cell? ⟨ga, 1, none⟩ = some (.int .i64 yp) := Lib.cell_of_heap (HT6.out.box (.inr ⟨rfl, rfl⟩)) 1
              have d2 : w6.cell? ⟨ga, 2, none⟩ = some (.int .i64 yo) := Lib.cell_of_heap (HT6.out.box (.inr ⟨rfl, rfl⟩)) 2
              have d3 : w6.cell? ⟨ga, 3, none⟩ = some (.int .i64 ys) := Lib.cell_of_heap (HT6.out.box (.inr ⟨rfl, rfl⟩)) 3
              have d4 : w6.cell? ⟨ga, 4, none⟩ = some (.int .i64 yt) := Lib.cell_of_heap (HT6.out.box (.inr ⟨rfl, rfl⟩)) 4
              have d5 : w6.cell? ⟨ga, 5, none⟩ = some (.int .i64 yh) := Lib.cell_of_heap (HT6.out.box (.inr ⟨rfl, rfl⟩)) 5
              go_wp2_with fail
              refine (P2.out _ HT6.out.two.rt HT6.out.two.size).mono ?_
              rintro e w7 ⟨lv', ev', rfl, hch⟩
              have HT7 := Lib.hid (HT6.out.ref hch)
              obtain ⟨m1, m2, m3, rfl⟩ := ends_shape hch.rt.l
              obtain ⟨n1, n2, n3, rfl⟩ := ends_shape hch.rt.e
              clear hch P2 HT6 d0 d1 d2 d3 d4 d5 b0 b1 b2
              have HT8 := Lib.hid (HT7.out.more (below_alloc w7 (.cells #[(.slice m1 m2 m3), .int .i64 u'.last, (.slice n1 n2 n3)] 31)))
              have hn8 := heap_alloc_new w7 (.cells #[(.slice m1 m2 m3), .int .i64 u'.last, (.slice n1 n2 n3)] 31)
              have nb0 : (w7.alloc (.cells #[(.slice m1 m2 m3), .int .i64 u'.last, (.slice n1 n2 n3)] 31)).cell? ⟨w7.heap.size, 0, none⟩ = some (.slice m1 m2 m3) := Lib.cell_of_heap hn8 0
              have nb1 : (w7.alloc (.cells #[(.slice m1 m2 m3), .int .i64 u'.last, (.slice n1 n2 n3)] 31)).cell? ⟨w7.heap.size, 1, none⟩ = some (.int .i64 u'.last) := Lib.cell_of_heap hn8 1
              have nb2 : (w7.alloc (.cells #[(.slice m1 m2 m3), .int .i64 u'.last, (.slice n1 n2 n3)] 31)).cell? ⟨w7.heap.size, 2, none⟩ = some (.slice n1 n2 n3) := Lib.cell_of_heap hn8 2
              clear hn8 HT7
              have b0 : (w7.alloc (.cells #[(.slice m1 m2 m3), .int .i64 u'.last, (.slice n1 n2 n3)] 31)).cell? ⟨g, 0, none⟩ = some (.slice l1 l2 l3) := Lib.cell_of_heap (HT8.out.box (.inl ⟨rfl, rfl⟩)) 0
              have bf0 : (w7.alloc (.cells #[(.slice m1 m2 m3), .int .i64 u'.last, (.slice n1 n2 n3)] 31)).frozen? ⟨g, 0, none⟩ = false := frozen_of_row _ _ _ _ _ (HT8.out.box (.inl ⟨rfl, rfl⟩))
              have b1 : (w7.alloc (.cells #[(.slice m1 m2 m3), .int .i64 u'.last, (.slice n1 n2 n3)] 31)).cell? ⟨g, 1, none⟩ = some (.int .i64 u.last) := Lib.cell_of_heap (HT8.out.box (.inl ⟨rfl, rfl⟩)) 1
              have bf1 : (w7.alloc (.cells #[(.slice m1 m2 m3), .int .i64 u'.last, (.slice n1 n2 n3)] 31)).frozen? ⟨g, 1, none⟩ = false := frozen_of_row _ _ _ _ _ (HT8.out.box (.inl ⟨rfl, rfl⟩))
              have b2 : (w7.alloc (.cells #[(.slice m1 m2 m3), .int .i64 u'.last, (.slice n1 n2 n3)] 31)).cell? ⟨g, 2, none⟩ = some (.slice e1 e2 e3) := Lib.cell_of_heap (HT8.out.box (.inl ⟨rfl, rfl⟩)) 2
              have bf2 : (w7.alloc (.cells #[(.slice m1 m2 m3), .int .i64 u'.last, (.slice n1 n2 n3)] 31)).frozen? ⟨g, 2, none⟩ = false := frozen_of_row _ _ _ _ _ (HT8.out.box (.inl ⟨rfl, rfl⟩))
              go_wp2_with fail
              go_meet
              exact ⟨rfl, t', u', _, _, HT8.out.set HNE.out _ _ _, HS1.out⟩
          by_cases k3 : yk = 3
          · subst k3
            as_aux_lemma =>
              have hf := HS.out.reap yo yp
              have P1 := Lib.hid (HTA.out.reap yo yp HI2.out HI1.out)
              have P2 := Lib.hid (fun (wq : World) (hr : RT wq w1.heap.size (.slice l1 l2 l3) (.slice e1 e2 e3) u) (hB : w1.heap.size ≤ wq.heap.size) => rreap_any hr O hB yo yp)
              unfold tv at P2
              rw [hf.2] at P1
              have hs1 := hf.1
              clear hf
              generalize (reap t yo yp).1 = t' at P1 hs1
              generalize reap u yo yp = r at P1 P2 hs1
              obtain ⟨u', r1, r2⟩ := r
              dsimp only at P1 P2 hs1
              have HS1 := Lib.hid hs1
              clear hs1 O hla hea
              go_wp2_with fail
              refine P1.out.mono ?_
              rintro e w6 ⟨rfl, ht6⟩
              have HT6 := Lib.hid ht6
              clear d0 d1 d2 d3 d4 d5 ht6 P1 HTA
              have b0 : w6.cell? ⟨g, 0, none⟩ = some (.slice l1 l2 l3) := Lib.cell_of_heap (HT6.out.box (.inl ⟨rfl, rfl⟩)) 0
              have b1 : w6.cell? ⟨g, 1, none⟩ = some (.int .i64 u.last) := Lib.cell_of_heap (HT6.out.box (.inl ⟨rfl, rfl⟩)) 1
              have b2 : w6.cell? ⟨g, 2, none⟩ = some (.slice e1 e2 e3) := Lib.cell_of_heap (HT6.out.box (.inl ⟨rfl, rfl⟩)) 2
              have d0 : w6.cell? ⟨ga, 0, none⟩ = some (.int .i64 3) := Lib.cell_of_heap (HT6.out.box (.inr ⟨rfl, rfl⟩)) 0
              have d1 : w6.cell? ⟨ga, 1, none⟩ = some (.int .i64 yp) := Lib.cell_of_heap (HT6.out.box (.inr ⟨rfl, rfl⟩)) 1
              have d2 : w6.cell? ⟨ga, 2, none⟩ = some (.int .i64 yo) := Lib.cell_of_heap (HT6.out.box (.inr ⟨rfl, rfl⟩)) 2
              have d3 : w6.cell? ⟨ga, 3, none⟩ = some (.int .i64 ys) := Lib.cell_of_heap (HT6.out.box (.inr ⟨rfl, rfl⟩)) 3
              have d4 : w6.cell? ⟨ga, 4, none⟩ = some (.int .i64 yt) := Lib.cell_of_heap (HT6.out.box (.inr ⟨rfl, rfl⟩)) 4
              have d5 : w6.cell? ⟨ga, 5, none⟩ = some (.int .i64 yh) := Lib.cell_of_heap (HT6.out.box (.inr ⟨rfl, rfl⟩)) 5
              go_wp2_with fail
              refine (P2.out _ HT6.out.two.rt HT6.out.two.size).mono ?_
              rintro e w7 ⟨lv', ev', rfl, hch⟩
              have HT7 := Lib.hid (HT6.out.ref hch)
              obtain ⟨m1, m2, m3, rfl⟩ := ends_shape hch.rt.l
              obtain ⟨n1, n2, n3, rfl⟩ := ends_shape hch.rt.e
              clear hch P2 HT6 d0 d1 d2 d3 d4 d5 b0 b1 b2
              have HT8 := Lib.hid (HT7.out.more (below_alloc w7 (.cells #[(.slice m1 m2 m3), .int .i64 u'.last, (.slice n1 n2 n3)] 31)))
              have hn8 := heap_alloc_new w7 (.cells #[(.slice m1 m2 m3), .int .i64 u'.last, (.slice n1 n2 n3)] 31)
              have nb0 : (w7.alloc (.cells #[(.slice m1 m2 m3), .int .i64 u'.last, (.slice n1 n2 n3)] 31)).cell? ⟨w7.heap.size, 0, none⟩ = some (.slice m1 m2 m3) := Lib.cell_of_heap hn8 0
              have nb1 : (w7.alloc (.cells #[(.slice m1 m2 m3), .int .i64 u'.last, (.slice n1 n2 n3)] 31)).cell? ⟨w7.heap.size, 1, none⟩ = some (.int .i64 u'.last) := Lib.cell_of_heap hn8 1
              have nb2 : (w7.alloc (.cells #[(.slice m1 m2 m3), .int .i64 u'.last, (.slice n1 n2 n3)] 31)).cell? ⟨w7.heap.size, 2, none⟩ = some (.slice n1 n2 n3) := Lib.cell_of_heap hn8 2
              clear hn8 HT7
              have b0 : (w7.alloc (.cells #[(.slice m1 m2 m3), .int .i64 u'.last, (.slice n1 n2 n3)] 31)).cell? ⟨g, 0, none⟩ = some (.slice l1 l2 l3) := Lib.cell_of_heap (HT8.out.box (.inl ⟨rfl, rfl⟩)) 0
              have bf0 : (w7.alloc (.cells #[(.slice m1 m2 m3), .int .i64 u'.last, (.slice n1 n2 n3)] 31)).frozen? ⟨g, 0, none⟩ = false := frozen_of_row _ _ _ _ _ (HT8.out.box (.inl ⟨rfl, rfl⟩))
              have b1 : (w7.alloc (.cells #[(.slice m1 m2 m3), .int .i64 u'.last, (.slice n1 n2 n3)] 31)).cell? ⟨g, 1, none⟩ = some (.int .i64 u.last) := Lib.cell_of_heap (HT8.out.box (.inl ⟨rfl, rfl⟩)) 1
              have bf1 : (w7.alloc (.cells #[(.slice m1 m2 m3), .int .i64 u'.last, (.slice n1 n2 n3)] 31)).frozen? ⟨g, 1, none⟩ = false := frozen_of_row _ _ _ _ _ (HT8.out.box (.inl ⟨rfl, rfl⟩))
              have b2 : (w7.alloc (.cells #[(.slice m1 m2 m3), .int .i64 u'.last, (.slice n1 n2 n3)] 31)).cell? ⟨g, 2, none⟩ = some (.slice e1 e2 e3) := Lib.cell_of_heap (HT8.out.box (.inl ⟨rfl, rfl⟩)) 2
              have bf2 : (w7.alloc (.cells #[(.slice m1 m2 m3), .int .i64 u'.last, (.slice n1 n2 n3)] 31)).frozen? ⟨g, 2, none⟩ = false := frozen_of_row _ _ _ _ _ (HT8.out.box (.inl ⟨rfl, rfl⟩))
              go_wp2_with fail
              go_meet
              exact ⟨rfl, t', u', _, _, HT8.out.set HNE.out _ _ _, HS1.out⟩
          by_cases k4 : yk = 4
          · subst k4
            as_aux_lemma =>
              have hf := HS.out.putS yp ys yh
              have P1 := Lib.hid (HTA.out.put yp ys yh HI1.out)
              have P2 := Lib.hid (fun (wq : World) (hr : RT wq w1.heap.size (.slice l1 l2 l3) (.slice e1 e2 e3) u) (hB : w1.heap.size ≤ wq.heap.size) => rput_any hr O HS.out.sets hB yp ys yh)
              unfold tv at P2
              rw [hf.2] at P1
              have hs1 := hf.1
              clear hf
              generalize (putS Sig.fixedB t yp ys yh).1 = t' at P1 hs1
              generalize putS Sig.fixedB u yp ys yh = r at P1 P2 hs1
              obtain ⟨u', r1⟩ := r
              dsimp only at P1 P2 hs1
              have HS1 := Lib.hid hs1
              clear hs1 O hla hea
              go_wp2_with fail
              refine P1.out.mono ?_
              rintro e w6 ⟨rfl, ht6⟩
              have HT6 := Lib.hid ht6
              clear d0 d1 d2 d3 d4 d5 ht6 P1 HTA
              have b0 : w6.cell? ⟨g, 0, none⟩ = some (.slice l1 l2 l3) := Lib.cell_of_heap (HT6.out.box (.inl ⟨rfl, rfl⟩)) 0
              have b1 : w6.cell? ⟨g, 1, none⟩ = some (.int .i64 u.last) := Lib.cell_of_heap (HT6.out.box (.inl ⟨rfl, rfl⟩)) 1
              have b2 : w6.cell? ⟨g, 2, none⟩ = some (.slice e1 e2 e3) := Lib.cell_of_heap (HT6.out.box (.inl ⟨rfl, rfl⟩)) 2
              have d0 : w6.cell? ⟨ga, 0, none⟩ = some (.int .i64 4) := Lib.cell_of_heap (HT6.out.box (.inr ⟨rfl, rfl⟩)) 0
              have d1 : w6.cell? ⟨ga, 1, none⟩ = some (.int .i64 yp) := Lib.cell_of_heap (HT6.out.box (.inr ⟨rfl, rfl⟩)) 1
              have d2 : w6.cell? ⟨ga, 2, none⟩ = some (.int .i64 yo) := Lib.cell_of_heap (HT6.out.box (.inr ⟨rfl, rfl⟩)) 2
              have d3 : w6.cell? ⟨ga, 3, none⟩ = some (.int .i64 ys) := Lib.cell_of_heap (HT6.out.box (.inr ⟨rfl, rfl⟩)) 3
              have d4 : w6.cell? ⟨ga, 4, none⟩ = some (.int .i64 yt) := Lib.cell_of_heap (HT6.out.box (.inr ⟨rfl, rfl⟩)) 4
              have d5 : w6.cell? ⟨ga, 5, none⟩ = some (.int .i64 yh) := Lib.cell_of_heap (HT6.out.box (.inr ⟨rfl, rfl⟩)) 5
              go_wp2_with fail
              refine (P2.out _ HT6.out.two.rt HT6.out.two.size).mono ?_
              rintro e w7 ⟨lv', ev', rfl, hch⟩
              have HT7 := Lib.hid (HT6.out.ref hch)
              obtain ⟨m1, m2, m3, rfl⟩ := ends_shape hch.rt.l
              obtain ⟨n1, n2, n3, rfl⟩ := ends_shape hch.rt.e
              clear hch P2 HT6 d0 d1 d2 d3 d4 d5 b0 b1 b2
              have HT8 := Lib.hid (HT7.out.more (below_alloc w7 (.cells #[(.slice m1 m2 m3), .int .i64 u'.last, (.slice n1 n2 n3)] 31)))
              have hn8 := heap_alloc_new w7 (.cells #[(.slice m1 m2 m3), .int .i64 u'.last, (.slice n1 n2 n3)] 31)
              have nb0 : (w7.alloc (.cells #[(.slice m1 m2 m3), .int .i64 u'.last, (.slice n1 n2 n3)] 31)).cell? ⟨w7.heap.size, 0, none⟩ = some (.slice m1 m2 m3) := Lib.cell_of_heap hn8 0
              have nb1 : (w7.alloc (.cells #[(.slice m1 m2 m3), .int .i64 u'.last, (.slice n1 n2 n3)] 31)).cell? ⟨w7.heap.size, 1, none⟩ = some (.int .i64 u'.last) := Lib.cell_of_heap hn8 1
              have nb2 : (w7.alloc (.cells #[(.slice m1 m2 m3), .int .i64 u'.last, (.slice n1 n2 n3)] 31)).cell? ⟨w7.heap.size, 2, none⟩ = some (.slice n1 n2 n3) := Lib.cell_of_heap hn8 2
              clear hn8 HT7
              have b0 : (w7.alloc (.cells #[(.slice m1 m2 m3), .int .i64 u'.last, (.slice n1 n2 n3)] 31)).cell? ⟨g, 0, none⟩ = some (.slice l1 l2 l3) := Lib.cell_of_heap (HT8.out.box (.inl ⟨rfl, rfl⟩)) 0
              have bf0 : (w7.alloc (.cells #[(.slice m1 m2 m3), .int .i64 u'.last, (.slice n1 n2 n3)] 31)).frozen? ⟨g, 0, none⟩ = false := frozen_of_row _ _ _ _ _ (HT8.out.box (.inl ⟨rfl, rfl⟩))
              have b1 : (w7.alloc (.cells #[(.slice m1 m2 m3), .int .i64 u'.last, (.slice n1 n2 n3)] 31)).cell? ⟨g, 1, none⟩ = some (.int .i64 u.last) := Lib.cell_of_heap (HT8.out.box (.inl ⟨rfl, rfl⟩)) 1
              have bf1 : (w7.alloc (.cells #[(.slice m1 m2 m3), .int .i64 u'.last, (.slice n1 n2 n3)] 31)).frozen? ⟨g, 1, none⟩ = false := frozen_of_row _ _ _ _ _ (HT8.out.box (.inl ⟨rfl, rfl⟩))
              have b2 : (w7.alloc (.cells #[(.slice m1 m2 m3), .int .i64 u'.last, (.slice n1 n2 n3)] 31)).cell? ⟨g, 2, none⟩ = some (.slice e1 e2 e3) := Lib.cell_of_heap (HT8.out.box (.inl ⟨rfl, rfl⟩)) 2
              have bf2 : (w7.alloc (.cells #[(.slice m1 m2 m3), .int .i64 u'.last, (.slice n1 n2 n3)] 31)).frozen? ⟨g, 2, none⟩ = false := frozen_of_row _ _ _ _ _ (HT8.out.box (.inl ⟨rfl, rfl⟩))
              go_wp2_with fail
              go_meet
              exact ⟨rfl, t', u', _, _, HT8.out.set HNE.out _ _ _, HS1.out⟩
          by_cases k5 : yk = 5
          · subst k5
            as_aux_lemma =>
              have hf := HS.out.take yp ys
              have P1 := Lib.hid (HTA.out.take yp ys HI1.out)
              have P2 := Lib.hid (fun (wq : World) (hr : RT wq w1.heap.size (.slice l1 l2 l3) (.slice e1 e2 e3) u) (hB : w1.heap.size ≤ wq.heap.size) => rtake_any hr O HS.out.sets hB yp ys)
              unfold tv at P2
              rw [hf.2] at P1
              have hs1 := hf.1
              clear hf
              generalize (take t yp ys).1 = t' at P1 hs1
              generalize take u yp ys = r at P1 P2 hs1
              obtain ⟨u', r1⟩ := r
              dsimp only at P1 P2 hs1
              have HS1 := Lib.hid hs1
              clear hs1 O hla hea
              go_wp2_with fail
              refine P1.out.mono ?_
              rintro e w6 ⟨rfl, ht6⟩
              have HT6 := Lib.hid ht6
              clear d0 d1 d2 d3 d4 d5 ht6 P1 HTA
              have b0 : w6.cell? ⟨g, 0, none⟩ = some (.slice l1 l2 l3) := Lib.cell_of_heap (HT6.out.box (.inl ⟨rfl, rfl⟩)) 0
              have b1 : w6.cell? ⟨g, 1, none⟩ = some (.int .i64 u.last) := Lib.cell_of_heap (HT6.out.box (.inl ⟨rfl, rfl⟩)) 1
              have b2 : w6.cell? ⟨g, 2, none⟩ = some (.slice e1 e2 e3) := Lib.cell_of_heap (HT6.out.box (.inl ⟨rfl, rfl⟩)) 2
              have d0 : w6.cell? ⟨ga, 0, none⟩ = some (.int .i64 5) := Lib.cell_of_heap (HT6.out.box (.inr ⟨rfl, rfl⟩)) 0
              have d1 : w6.cell? ⟨ga, 1, none⟩ = some (.int .i64 yp) := Lib.cell_of_heap (HT6.out.box (.inr ⟨rfl, rfl⟩)) 1
              have d2 : w6.cell? ⟨ga, 2, none⟩ = some (.int .i64 yo) := Lib.cell_of_heap (HT6.out.box (.inr ⟨rfl, rfl⟩)) 2
              have d3 : w6.cell? ⟨ga, 3, none⟩ = some (.int .i64 ys) := Lib.cell_of_heap (HT6.out.box (.inr ⟨rfl, rfl⟩)) 3
              have d4 : w6.cell? ⟨ga, 4, none⟩ = some (.int .i64 yt) := Lib.cell_of_heap (HT6.out.box (.inr ⟨rfl, rfl⟩)) 4
              have d5 : w6.cell? ⟨ga, 5, none⟩ = some (.int .i64 yh) := Lib.cell_of_heap (HT6.out.box (.inr ⟨rfl, rfl⟩)) 5
              go_wp2_with fail
              refine (P2.out _ HT6.out.two.rt HT6.out.two.size).mono ?_
              rintro e w7 ⟨lv', ev', rfl, hch⟩
              have HT7 := Lib.hid (HT6.out.ref hch)
              obtain ⟨m1, m2, m3, rfl⟩ := ends_shape hch.rt.l
              obtain ⟨n1, n2, n3, rfl⟩ := ends_shape hch.rt.e
              clear hch P2 HT6 d0 d1 d2 d3 d4 d5 b0 b1 b2
              have HT8 := Lib.hid (HT7.out.more (below_alloc w7 (.cells #[(.slice m1 m2 m3), .int .i64 u'.last, (.slice n1 n2 n3)] 31)))
              have hn8 := heap_alloc_new w7 (.cells #[(.slice m1 m2 m3), .int .i64 u'.last, (.slice n1 n2 n3)] 31)
              have nb0 : (w7.alloc (.cells #[(.slice m1 m2 m3), .int .i64 u'.last, (.slice n1 n2 n3)] 31)).cell? ⟨w7.heap.size, 0, none⟩ = some (.slice m1 m2 m3) := Lib.cell_of_heap hn8 0
              have nb1 : (w7.alloc (.cells #[(.slice m1 m2 m3), .int .i64 u'.last, (.slice n1 n2 n3)] 31)).cell? ⟨w7.heap.size, 1, none⟩ = some (.int .i64 u'.last) := Lib.cell_of_heap hn8 1
              have nb2 : (w7.alloc (.cells #[(.slice m1 m2 m3), .int .i64 u'.last, (.slice n1 n2 n3)] 31)).cell? ⟨w7.heap.size, 2, none⟩ = some (.slice n1 n2 n3) := Lib.cell_of_heap hn8 2
              clear hn8 HT7
              have b0 : (w7.alloc (.cells #[(.slice m1 m2 m3), .int .i64 u'.last, (.slice n1 n2 n3)] 31)).cell? ⟨g, 0, none⟩ = some (.slice l1 l2 l3) := Lib.cell_of_heap (HT8.out.box (.inl ⟨rfl, rfl⟩)) 0
              have bf0 : (w7.alloc (.cells #[(.slice m1 m2 m3), .int .i64 u'.last, (.slice n1 n2 n3)] 31)).frozen? ⟨g, 0, none⟩ = false := frozen_of_row _ _ _ _ _ (HT8.out.box (.inl ⟨rfl, rfl⟩))
              have b1 : (w7.alloc (.cells #[(.slice m1 m2 m3), .int .i64 u'.last, (.slice n1 n2 n3)] 31)).cell? ⟨g, 1, none⟩ = some (.int .i64 u.last) := Lib.cell_of_heap (HT8.out.box (.inl ⟨rfl, rfl⟩)) 1
              have bf1 : (w7.alloc (.cells #[(.slice m1 m2 m3), .int .i64 u'.last, (.slice n1 n2 n3)] 31)).frozen? ⟨g, 1, none⟩ = false := frozen_of_row _ _ _ _ _ (HT8.out.box (.inl ⟨rfl, rfl⟩))
              have b2 : (w7.alloc (.cells #[(.slice m1 m2 m3), .int .i64 u'.last, (.slice n1 n2 n3)] 31)).cell? ⟨g, 2, none⟩ = some (.slice e1 e2 e3) := Lib.cell_of_heap (HT8.out.box (.inl ⟨rfl, rfl⟩)) 2
              have bf2 : (w7.alloc (.cells #[(.slice m1 m2 m3), .int .i64 u'.last, (.slice n1 n2 n3)] 31)).frozen? ⟨g, 2, none⟩ = false := frozen_of_row _ _ _ _ _ (HT8.out.box (.inl ⟨rfl, rfl⟩))
              go_wp2_with fail
              go_meet
              exact ⟨rfl, t', u', _, _, HT8.out.set HNE.out _ _ _, HS1.out⟩
          have HU := Lib.hid HTA.out.up
          clear d1 d2 d3 d4 d5 HTA O hla hea
          go_wp2_with fail
          go_meet
          exact ⟨rfl, t, u, _, _, HU.out, HS.out⟩
        case rest =>
          as_aux_lemma =>
            obtain ⟨rfl, t', u', lv', ev', htri, hsim⟩ := hcut
            have HT' := Lib.hid htri; have HS' := Lib.hid hsim
            obtain ⟨l1, l2, l3, rfl⟩ := ends_shape htri.two.rt.l
            obtain ⟨e1, e2, e3, rfl⟩ := ends_shape htri.two.rt.e
            clear htri hsim HTA HS
            have HXB := Lib.hid (HT'.out.box (.inl ⟨rfl, rfl⟩)); have HQB := Lib.hid (HT'.out.box (.inr ⟨rfl, rfl⟩))
            have hl64 := (HS'.out.ok HT'.out.two.inv.ok).len
            have HSM := Lib.hid (fun wq (hb : Below wc.heap.size wc wq) => same_any (HT'.out.two.more hb) HS'.out (by omega))
            have HLV := Lib.hid (fun wq (hb : Below wc.heap.size wc wq) => (HT'.out.two.more hb).now.live yo HI2.out)
            rw [HS'.out.live] at HLV
            have HRLV := Lib.hid (fun wq (hb : Below wc.heap.size wc wq) => rlive_any (t := u') (ev := (.slice e1 e2 e3)) (HT'.out.two.more hb).rt.at hl64 yo)
            have HHW := Lib.hid (fun wq (hb : Below wc.heap.size wc wq) => (HT'.out.two.more hb).now.how yo ys HI2.out)
            rw [HS'.out.how] at HHW
            have HRHW := Lib.hid (fun wq (hb : Below wc.heap.size wc wq) => rhow_any (t := u') (ev := (.slice e1 e2 e3)) (HT'.out.two.more hb).rt.at hl64 HS'.out.sets yo ys)
            have HCH := Lib.hid (fun wq (hb : Below wc.heap.size wc wq) => (HT'.out.two.more hb).now.child yp yo HI1.out HI2.out)
            rw [HS'.out.child] at HCH
            have HRCH := Lib.hid (fun wq (hb : Below wc.heap.size wc wq) => rchild_any (t := u') (ev := (.slice e1 e2 e3)) (HT'.out.two.more hb).rt.at hl64 yp yo)
            have HPE := Lib.hid (fun wq (hb : Below wc.heap.size wc wq) => (HT'.out.two.more hb).now.pending yo HI2.out)
            rw [HS'.out.pending] at HPE
            have HRPE := Lib.hid (fun wq (hb : Below wc.heap.size wc wq) => rpending_any (t := u') (ev := (.slice e1 e2 e3)) (HT'.out.two.more hb).rt.at hl64 yo)
            unfold tv at HSM HRLV HRHW HRCH HRPE
            generalize live u' yo = rl at HLV HRLV
            generalize how u' yo ys = rh at HHW HRHW
            generalize child u' yp yo = rc at HCH HRCH
            generalize pending u' yo = rp at HPE HRPE
            have qc0 := cell_regrown (show wc.cell? ⟨g, 0, none⟩ = some (.slice l1 l2 l3) from Lib.cell_of_heap HXB.out 0)
            have qc1 := cell_regrown (show wc.cell? ⟨g, 1, none⟩ = some (.int .i64 u'.last) from Lib.cell_of_heap HXB.out 1)
            have qc2 := cell_regrown (show wc.cell? ⟨g, 2, none⟩ = some (.slice e1 e2 e3) from Lib.cell_of_heap HXB.out 2)
            have qd1 := cell_regrown (show wc.cell? ⟨ga, 1, none⟩ = some (.int .i64 yp) from Lib.cell_of_heap HQB.out 1)
            have qd2 := cell_regrown (show wc.cell? ⟨ga, 2, none⟩ = some (.int .i64 yo) from Lib.cell_of_heap HQB.out 2)
            have qd3 := cell_regrown (show wc.cell? ⟨ga, 3, none⟩ = some (.int .i64 ys) from Lib.cell_of_heap HQB.out 3)
            have CSM := Lib.hid (fun dd os => Calls.regrown_of (HSM.out _ (below_regrown wc dd os)))
            have CLV := Lib.hid (fun dd os => Calls.regrown_of ((HLV.out _ (below_regrown wc dd os)).mono stays_below))
            have CRLV := Lib.hid (fun dd os => Calls.regrown_of (HRLV.out _ (below_regrown wc dd os)))
            have CHW := Lib.hid (fun dd os => Calls.regrown_of ((HHW.out _ (below_regrown wc dd os)).mono stays_below))
            have CRHW := Lib.hid (fun dd os => Calls.regrown_of (HRHW.out _ (below_regrown wc dd os)))
            have CCH := Lib.hid (fun dd os => Calls.regrown_of ((HCH.out _ (below_regrown wc dd os)).mono stays_below))
            have CRCH := Lib.hid (fun dd os => Calls.regrown_of (HRCH.out _ (below_regrown wc dd os)))
            have CPE := Lib.hid (fun dd os => Calls.regrown_of ((HPE.out _ (below_regrown wc dd os)).mono stays_below))
            have CRPE := Lib.hid (fun dd os => Calls.regrown_of (HRPE.out _ (below_regrown wc dd os)))
            clear HSM HLV HRLV HHW HRHW HCH HRCH HPE HRPE HXB HQB
            go_wp2_with fail
            refine Qu.region (by kernel_rfl) (by kernel_rfl) ?_
            repeat (first
              | (first | refine Qu.carry0 rfl (fun K hK => ?_) | refine Qu.carryG rfl rfl rfl (fun K hK => ?_)
                 go_simp
                 first
                 | (refine hK _ ?_; clear hK K)
                 | (apply Exists.intro; refine ⟨fun _ => ?_, hK _ ?_⟩; (first | (go_at_call 9; exact CSM.out _ _) | (go_at_call 22; exact CLV.out _ _) | (go_at_call 23; exact CRLV.out _ _) | (go_at_call 24; exact CHW.out _ _) | (go_at_call 25; exact CRHW.out _ _) | (go_at_call 26; exact CCH.out _ _) | (go_at_call 27; exact CRCH.out _ _) | (go_at_call 28; exact CPE.out _ _) | (go_at_call 29; exact CRPE.out _ _)); clear hK K))
              | (refine Qu.passG rfl rfl rfl (fun K hK => ?_); go_simp; refine hK _ ?_; clear hK K))
            refine Qu.fin ?_
            rintro ⟨dq, osq⟩
            have HEND := Lib.hid (HT'.out.more (below_regrown wc dq osq)).one
            clear CSM CLV CRLV CHW CRHW CCH CRCH CPE CRPE qc0 qc1 qc2 qd1 qd2 qd3 HT'
            go_wp2_with fail
            go_roundw
            case rel => exact ⟨k + 1, t', u', _, _, by omega, by go_num, HEND.out, HS'.out⟩
            case measure => simp [intOf]; omega
      · obtain rfl : k = l.length := by omega
        have HFIN := Lib.hid HT.out.two.below
        go_wp2_with fail
        go_ret
        exact ⟨rfl, HFIN.out⟩
end Kn
end Go.Proofs.Ytlebglnlkkoakaa
