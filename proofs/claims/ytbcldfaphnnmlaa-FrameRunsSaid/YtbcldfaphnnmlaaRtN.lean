/- The reference: Same, for all nodes: the walk. -/
import Derived.Test.YtbcldfaphnnmlaaRtM
namespace Go.Proofs.Ytbcldfaphnnmlaa
open Go.RowKit Go.Sort
namespace Tr
open Cls Pt
set_option maxHeartbeats 4000000 in
set_option maxRecDepth 100000 in
theorem rsame_step (n:Nat) (hS:RSameAt n):RSameAt (n + 1):=by
 intro k1 nm1 g1 az1 ws1 ks1 bs1 cz1 k2 nm2 g2 az2 ws2 ks2 bs2 cz2 x11 d11 x12 d12 x13 d13 x14 d14 x15 d15 x21 d21 x22 d22 x23 d23 x24 d24 x25 d25 w hsz h1 h2
 have l1:=h1.haz.le;have l2:=h2.haz.le;have l3:=h1.hbs.le;have l4:=h2.hbs.le;have l5:=h1.hcs.le;have l6:=h2.hcs.le
 have hb0:=bel2 w (.cells #[.int .i64 k1,.string nm1,.bool g1,.slice x11 az1.length d11,.slice x12 ws1.length d12,.slice x13 ks1.len d13,.slice x14 bs1.length d14,.slice x15 cz1.len d15] 37) (.cells #[.int .i64 k2,.string nm2,.bool g2,.slice x21 az2.length d21,.slice x22 ws2.length d22,.slice x23 ks2.len d23,.slice x24 bs2.length d24,.slice x25 cz2.len d25] 37)
 have hra:((w.alloc (.cells #[.int .i64 k1,.string nm1,.bool g1,.slice x11 az1.length d11,.slice x12 ws1.length d12,.slice x13 ks1.len d13,.slice x14 bs1.length d14,.slice x15 cz1.len d15] 37)).alloc (.cells #[.int .i64 k2,.string nm2,.bool g2,.slice x21 az2.length d21,.slice x22 ws2.length d22,.slice x23 ks2.len d23,.slice x24 bs2.length d24,.slice x25 cz2.len d25] 37)).heap[w.heap.size]? = some (.cells #[.int .i64 k1,.string nm1,.bool g1,.slice x11 az1.length d11,.slice x12 ws1.length d12,.slice x13 ks1.len d13,.slice x14 bs1.length d14,.slice x15 cz1.len d15] 37 (0,0)):=(Below.heap_alloc _ _ _ (by simp)).trans (heap_new' _ _)
 have hrb:((w.alloc (.cells #[.int .i64 k1,.string nm1,.bool g1,.slice x11 az1.length d11,.slice x12 ws1.length d12,.slice x13 ks1.len d13,.slice x14 bs1.length d14,.slice x15 cz1.len d15] 37)).alloc (.cells #[.int .i64 k2,.string nm2,.bool g2,.slice x21 az2.length d21,.slice x22 ws2.length d22,.slice x23 ks2.len d23,.slice x24 bs2.length d24,.slice x25 cz2.len d25] 37)).heap[w.heap.size + 1]? = some (.cells #[.int .i64 k2,.string nm2,.bool g2,.slice x21 az2.length d21,.slice x22 ws2.length d22,.slice x23 ks2.len d23,.slice x24 bs2.length d24,.slice x25 cz2.len d25] 37 (0,0)):=by
  have:=heap_new' (w.alloc (.cells #[.int .i64 k1,.string nm1,.bool g1,.slice x11 az1.length d11,.slice x12 ws1.length d12,.slice x13 ks1.len d13,.slice x14 bs1.length d14,.slice x15 cz1.len d15] 37)) (.cells #[.int .i64 k2,.string nm2,.bool g2,.slice x21 az2.length d21,.slice x22 ws2.length d22,.slice x23 ks2.len d23,.slice x24 bs2.length d24,.slice x25 cz2.len d25] 37)
  rwa [World.size_alloc] at this
 have hX:nodeEq k1 nm1 g1 az1 ws1 ks1 bs1 cz1 k2 nm2 g2 az2 ws2 ks2 bs2 cz2 = (k1 == k2 && nm1.toList == nm2.toList && g1 == g2 && eqL sameA az1 az2 && eqL same ws1 ws2 && sameN ks1 ks2 && eqL (· == ·) bs1 bs2 && sameN cz1 cz2):=rfl
 have HX:=Lib.hid hX;have HH1:=Lib.hid h1;have HH2:=Lib.hid h2;have HSS:=Lib.hid hS;have HSZ:=Lib.hid hsz
 clear hX h1 h2 hS hsz
 unfold nodeV
 go_enter Try.func24,Try.ntmps24
 cases hk:(k1 == k2)
 ·have hk2:(k1 != k2) = true:=by simp [bne,hk]
  have HK:=Lib.hid hk
  clear hk hra hrb
  go_wp2_with fail
  go_ret
  exact ⟨ret_bool (by rw [HX.out];simp only [HK.out,Bool.false_and,Bool.and_false]),hb0⟩
 have hk2:(k1 != k2) = false:=by simp [bne,hk]
 cases hn:(nm1.toList == nm2.toList)
 ·have hn2:(nm1.toList != nm2.toList) = true:=by simp [bne,hn]
  have HK:=Lib.hid hn
  clear hra hrb
  go_wp2_with fail
  go_ret
  exact ⟨ret_bool (by rw [HX.out];simp only [HK.out,Bool.false_and,Bool.and_false]),hb0⟩
 have hn2:(nm1.toList != nm2.toList) = false:=by simp [bne,hn]
 cases hg:(g1 == g2)
 ·have hg2:(g1 != g2) = true:=by simp [bne,hg]
  have HK:=Lib.hid hg
  clear hra hrb
  go_wp2_with fail
  go_ret
  exact ⟨ret_bool (by rw [HX.out];simp only [HK.out,Bool.false_and,Bool.and_false]),hb0⟩
 have hg2:(g1 != g2) = false:=by simp [bne,hg]
 by_cases h3:az1.length = az2.length
 rotate_left 1
 ·have h3':((az1.length:Int) != (az2.length:Int)) = true:=by rw [bne_iff_ne];omega
  have HK:=Lib.hid (eqL_len (p:=sameA) h3)
  clear hra hrb h3
  go_wp2_with fail
  go_ret
  exact ⟨ret_bool (by rw [HX.out];simp only [HK.out,Bool.false_and,Bool.and_false]),hb0⟩
 have h3':((az1.length:Int) != (az2.length:Int)) = false:=by simp [h3]
 by_cases h4:bs1.length = bs2.length
 rotate_left 1
 ·have h4':((bs1.length:Int) != (bs2.length:Int)) = true:=by rw [bne_iff_ne];omega
  have HK:=Lib.hid (eqL_len (p:=((· == ·):Bool→Bool→Bool)) h4)
  have H3:=Lib.hid h3
  clear hra hrb h4 h3
  go_wp2_with fail
  go_ret
  exact ⟨ret_bool (by rw [HX.out];simp only [HK.out,Bool.false_and,Bool.and_false]),hb0⟩
 have h4':((bs1.length:Int) != (bs2.length:Int)) = false:=by simp [h4]
 by_cases h5:cz1.len = cz2.len
 rotate_left 1
 ·have h5':((cz1.len:Int) != (cz2.len:Int)) = true:=by rw [bne_iff_ne];omega
  have HK:=Lib.hid (sameN_len h5)
  have H3:=Lib.hid h3;have H4:=Lib.hid h4
  clear hra hrb h4 h3 h5
  go_wp2_with fail
  go_ret
  exact ⟨ret_bool (by rw [HX.out];simp only [HK.out,Bool.false_and,Bool.and_false]),hb0⟩
 have h5':((cz1.len:Int) != (cz2.len:Int)) = false:=by simp [h5]
 have H3:=Lib.hid h3;have H4:=Lib.hid h4;have H5:=Lib.hid h5;have HK:=Lib.hid hk;have HNM:=Lib.hid hn;have HG:=Lib.hid hg
 clear h3 h4 h5
 go_wp2_with fail
 clear hk hg hn hk2 hn2 hg2
 generalize ((w.alloc (.cells #[.int .i64 k1,.string nm1,.bool g1,.slice x11 az1.length d11,.slice x12 ws1.length d12,.slice x13 ks1.len d13,.slice x14 bs1.length d14,.slice x15 cz1.len d15] 37)).alloc (.cells #[.int .i64 k2,.string nm2,.bool g2,.slice x21 az2.length d21,.slice x22 ws2.length d22,.slice x23 ks2.len d23,.slice x24 bs2.length d24,.slice x25 cz2.len d25] 37)) = W0 at *
 have HA0:=Lib.hid (fun W (hb:Below W0.heap.size W0 W)=>(cell_below hb (Lib.cell_of_heap hra 0):W.cell? ⟨w.heap.size,0,none⟩ = some (.int .i64 k1)))
 have HA1:=Lib.hid (fun W (hb:Below W0.heap.size W0 W)=>(cell_below hb (Lib.cell_of_heap hra 1):W.cell? ⟨w.heap.size,1,none⟩ = some (.string nm1)))
 have HA2:=Lib.hid (fun W (hb:Below W0.heap.size W0 W)=>(cell_below hb (Lib.cell_of_heap hra 2):W.cell? ⟨w.heap.size,2,none⟩ = some (.bool g1)))
 have HA3:=Lib.hid (fun W (hb:Below W0.heap.size W0 W)=>(cell_below hb (Lib.cell_of_heap hra 3):W.cell? ⟨w.heap.size,3,none⟩ = some (.slice x11 az1.length d11)))
 have HA4:=Lib.hid (fun W (hb:Below W0.heap.size W0 W)=>(cell_below hb (Lib.cell_of_heap hra 4):W.cell? ⟨w.heap.size,4,none⟩ = some (.slice x12 ws1.length d12)))
 have HA5:=Lib.hid (fun W (hb:Below W0.heap.size W0 W)=>(cell_below hb (Lib.cell_of_heap hra 5):W.cell? ⟨w.heap.size,5,none⟩ = some (.slice x13 ks1.len d13)))
 have HA6:=Lib.hid (fun W (hb:Below W0.heap.size W0 W)=>(cell_below hb (Lib.cell_of_heap hra 6):W.cell? ⟨w.heap.size,6,none⟩ = some (.slice x14 bs1.length d14)))
 have HA7:=Lib.hid (fun W (hb:Below W0.heap.size W0 W)=>(cell_below hb (Lib.cell_of_heap hra 7):W.cell? ⟨w.heap.size,7,none⟩ = some (.slice x15 cz1.len d15)))
 have HB0:=Lib.hid (fun W (hb:Below W0.heap.size W0 W)=>(cell_below hb (Lib.cell_of_heap hrb 0):W.cell? ⟨w.heap.size + 1,0,none⟩ = some (.int .i64 k2)))
 have HB1:=Lib.hid (fun W (hb:Below W0.heap.size W0 W)=>(cell_below hb (Lib.cell_of_heap hrb 1):W.cell? ⟨w.heap.size + 1,1,none⟩ = some (.string nm2)))
 have HB2:=Lib.hid (fun W (hb:Below W0.heap.size W0 W)=>(cell_below hb (Lib.cell_of_heap hrb 2):W.cell? ⟨w.heap.size + 1,2,none⟩ = some (.bool g2)))
 have HB3:=Lib.hid (fun W (hb:Below W0.heap.size W0 W)=>(cell_below hb (Lib.cell_of_heap hrb 3):W.cell? ⟨w.heap.size + 1,3,none⟩ = some (.slice x21 az2.length d21)))
 have HB4:=Lib.hid (fun W (hb:Below W0.heap.size W0 W)=>(cell_below hb (Lib.cell_of_heap hrb 4):W.cell? ⟨w.heap.size + 1,4,none⟩ = some (.slice x22 ws2.length d22)))
 have HB5:=Lib.hid (fun W (hb:Below W0.heap.size W0 W)=>(cell_below hb (Lib.cell_of_heap hrb 5):W.cell? ⟨w.heap.size + 1,5,none⟩ = some (.slice x23 ks2.len d23)))
 have HB6:=Lib.hid (fun W (hb:Below W0.heap.size W0 W)=>(cell_below hb (Lib.cell_of_heap hrb 6):W.cell? ⟨w.heap.size + 1,6,none⟩ = some (.slice x24 bs2.length d24)))
 have HB7:=Lib.hid (fun W (hb:Below W0.heap.size W0 W)=>(cell_below hb (Lib.cell_of_heap hrb 7):W.cell? ⟨w.heap.size + 1,7,none⟩ = some (.slice x25 cz2.len d25)))
 have HB0:=Lib.hid hb0
 clear hra hrb hb0
 go_loopw [57] (fun x wr=>∃ j:Nat,j≤az1.length∧x = .int .i64 j∧eqL sameA az1 az2 = eqL sameA (az1.drop j) (az2.drop j)∧Below W0.heap.size W0 wr) (fun x wr=>az1.length - (intOf x).toNat)
 case atStart=>exact ⟨0,Nat.zero_le _,rfl,rfl,Below.refl _ _⟩
 case round =>
  obtain ⟨j,hj,rfl,hr,hbw⟩:=hrel
  have HR:=Lib.hid hr;have HW:=Lib.hid hbw;have HWW:=Lib.hid (thru HB0.out hbw)
  clear hr hbw
  by_cases hlt:j < az1.length
  ·have hlt2:j < az2.length:=by have:=H3.out;omega
   obtain ⟨c1,o1,rfl,e1,hs1,y1,f1,u1,hl1⟩:=(sl_below (P:=PA) (fun h=>h.below HWW.out) HH1.out.haz).get (List.getElem?_eq_getElem hlt)
   obtain ⟨c2,o2,rfl,e2,hs2,y2,f2,u2,hl2⟩:=(sl_below (P:=PA) (fun h=>h.below HWW.out) HH2.out.haz).get (List.getElem?_eq_getElem hlt2)
   have hstep:eqL sameA az1 az2 = ((az1[j].1.toList == az2[j].1.toList && same az1[j].2 az2[j].2) && eqL sameA (az1.drop (j + 1)) (az2.drop (j + 1))):=by rw [HR.out,eqL_at hlt hlt2];rfl
   have hC:=fun dd os=>Calls.regrown_of (rsame_any (az1[j].2.size + 1) az1[j].2 az2[j].2 y1 y2 f1 f2 (grow (redrawn wr dd) os) (Nat.lt_succ_self _) (hl1.below (below_regrown wr dd os)) (hl2.below (below_regrown wr dd os)))
   have a3:=cell_regrown (HA3.out _ HW.out)
   have b3:=cell_regrown (HB3.out _ HW.out)
   have q1:=cell_regrown e1
   have q2:=cell_regrown e2
   have q3:=cell_regrown u1
   have q4:=cell_regrown u2
   generalize az1[j].1 = t1 at *
   generalize az2[j].1 = t2 at *
   generalize az1[j].2 = m1 at *
   generalize az2[j].2 = m2 at *
   generalize same m1 m2 = B at hC hstep
   cases ht:(t1.toList == t2.toList)
   ·have ht2:(t1.toList != t2.toList) = true:=by simp [bne,ht]
    rw [ht] at hstep
    have HT:=Lib.hid hstep
    clear hl1 hl2 hstep e1 e2 u1 u2 hC
    go_wp2_with fail
    refine Qu.region (by kernel_rfl) (by kernel_rfl) ?_
    repeat (first
     | (first | refine Qu.carry0 rfl (fun K hK=>?_) | refine Qu.carryG rfl rfl rfl (fun K hK=>?_)
        go_simp
        first
        | (refine hK _ ?_;clear hK K)
        | (apply Exists.intro;refine ⟨fun _=>?_,hK _ ?_⟩;fail;clear hK K))
     | (refine Qu.passG rfl rfl rfl (fun K hK=>?_);go_simp;refine hK _ ?_;clear hK K))
    refine Qu.fin ?_
    rintro ⟨dq,osq⟩
    go_wp2_with fail
    go_ret
    exact ⟨ret_bool (by rw [HX.out];simp only [HT.out,Bool.false_and,Bool.and_false]),thru HWW.out (below_regrown wr dq osq)⟩
   ·have ht2:(t1.toList != t2.toList) = false:=by simp [bne,ht]
    rw [ht] at hstep
    have HT:=Lib.hid hstep
    clear hl1 hl2 hstep e1 e2 u1 u2
    cases B
    all_goals
     have HC:=Lib.hid hC
     clear hC
     go_wp2_with fail
     refine Qu.region (by kernel_rfl) (by kernel_rfl) ?_
     repeat (first
      | (first | refine Qu.carry0 rfl (fun K hK=>?_) | refine Qu.carryG rfl rfl rfl (fun K hK=>?_)
         go_simp
         first
         | (refine hK _ ?_;clear hK K)
         | (apply Exists.intro;refine ⟨fun _=>?_,hK _ ?_⟩;(go_at_call 39;exact HC.out _ _);clear hK K))
      | (refine Qu.passG rfl rfl rfl (fun K hK=>?_);go_simp;refine hK _ ?_;clear hK K))
     refine Qu.fin ?_
     rintro ⟨dq,osq⟩
     go_wp2_with fail
    ·go_ret
     exact ⟨ret_bool (by rw [HX.out];simp only [HT.out,Bool.false_and,Bool.and_false]),thru HWW.out (below_regrown wr dq osq)⟩
    ·go_roundw
     case rel=>exact ⟨j + 1,by omega,by go_num,by rw [HT.out];rfl,thru HW.out (below_regrown wr dq osq)⟩
     case measure=>simp [intOf];omega
  ·obtain rfl:j = az1.length:=by omega
   have HAZ:=Lib.hid (HR.out.trans (eqL_end H3.out))
   have a6:=HA6.out _ HW.out;have b6:=HB6.out _ HW.out
   clear hlt HR
   go_wp2_with fail
   go_loopw [93] (fun x wr=>∃ j:Nat,j≤bs1.length∧x = .int .i64 j∧eqL (· == ·) bs1 bs2 = eqL (· == ·) (bs1.drop j) (bs2.drop j)∧Below W0.heap.size W0 wr) (fun x wr=>bs1.length - (intOf x).toNat)
   case atStart=>exact ⟨0,Nat.zero_le _,rfl,rfl,HW.out⟩
   case round =>
    obtain ⟨j,hj,rfl,hr,hbw⟩:=hrel
    have HR:=Lib.hid hr;have HW:=Lib.hid hbw;have HWW:=Lib.hid (thru HB0.out hbw)
    clear hr hbw
    by_cases hlt:j < bs1.length
    ·have hlt2:j < bs2.length:=by have:=H4.out;omega
     obtain ⟨c1,o1,rfl,e1⟩:=(sl_below (P:=PB) (fun h=>h.below HWW.out) HH1.out.hbs).get (List.getElem?_eq_getElem hlt)
     obtain ⟨c2,o2,rfl,e2⟩:=(sl_below (P:=PB) (fun h=>h.below HWW.out) HH2.out.hbs).get (List.getElem?_eq_getElem hlt2)
     unfold PB at e1 e2
     rw [Nat.mul_one] at e1 e2
     have hstep:eqL (· == ·) bs1 bs2 = ((bs1[j] == bs2[j]) && eqL (· == ·) (bs1.drop (j + 1)) (bs2.drop (j + 1))):=by rw [HR.out,eqL_at hlt hlt2]
     have a6:=cell_regrown (HA6.out _ HW.out)
     have b6:=cell_regrown (HB6.out _ HW.out)
     have q1:=cell_regrown e1
     have q2:=cell_regrown e2
     generalize bs1[j] = t1 at *
     generalize bs2[j] = t2 at *
     cases t1 <;> cases t2
     all_goals
      have HT:=Lib.hid hstep
      clear hstep e1 e2
      go_wp2_with fail
      refine Qu.region (by kernel_rfl) (by kernel_rfl) ?_
      repeat (first
       | (first | refine Qu.carry0 rfl (fun K hK=>?_) | refine Qu.carryG rfl rfl rfl (fun K hK=>?_)
          go_simp
          first
          | (refine hK _ ?_;clear hK K)
          | (apply Exists.intro;refine ⟨fun _=>?_,hK _ ?_⟩;fail;clear hK K))
       | (refine Qu.passG rfl rfl rfl (fun K hK=>?_);go_simp;refine hK _ ?_;clear hK K))
      refine Qu.fin ?_
      rintro ⟨dq,osq⟩
      go_wp2_with fail
     ·go_roundw
      case rel=>exact ⟨j + 1,by omega,by go_num,by rw [HT.out];rfl,thru HW.out (below_regrown wr dq osq)⟩
      case measure=>simp [intOf];omega
     ·go_ret
      exact ⟨ret_bool (by rw [HX.out,HT.out];simp),thru HWW.out (below_regrown wr dq osq)⟩
     ·go_ret
      exact ⟨ret_bool (by rw [HX.out,HT.out];simp),thru HWW.out (below_regrown wr dq osq)⟩
     ·go_roundw
      case rel=>exact ⟨j + 1,by omega,by go_num,by rw [HT.out];rfl,thru HW.out (below_regrown wr dq osq)⟩
      case measure=>simp [intOf];omega
    ·obtain rfl:j = bs1.length:=by omega
     have HBZ:=Lib.hid (HR.out.trans (eqL_end H4.out))
     have a7:=HA7.out _ HW.out;have b7:=HB7.out _ HW.out
     clear hlt HR
     go_wp2_with fail
     go_loopw [111] (fun x wr=>∃ j:Nat,j≤cz1.len∧x = .int .i64 j∧sameN cz1 cz2 = sameN (cz1.drop j) (cz2.drop j)∧Below W0.heap.size W0 wr) (fun x wr=>cz1.len - (intOf x).toNat)
     case atStart=>exact ⟨0,Nat.zero_le _,rfl,rfl,HW.out⟩
     case round =>
      obtain ⟨j,hj,rfl,hr,hbw⟩:=hrel
      have HR:=Lib.hid hr;have HW:=Lib.hid hbw;have HWW:=Lib.hid (thru HB0.out hbw)
      clear hr hbw
      by_cases hlt:j < cz1.len
      ·have hlt2:j < cz2.len:=by have:=H5.out;omega
       obtain ⟨p1,bd1,r1,hd1⟩:=NL.drop_case hlt HH1.out.okc
       obtain ⟨p2,bd2,r2,hd2⟩:=NL.drop_case hlt2 HH2.out.okc
       obtain ⟨c1,o1,rfl,_,y1,f1,z1,i1,e1,e3,s1,n1,k1o⟩:=(HH1.out.hcs.below HWW.out).getC HH1.out.okc hd1
       obtain ⟨c2,o2,rfl,_,y2,f2,z2,i2,e2,e4,s2,n2,k2o⟩:=(HH2.out.hcs.below HWW.out).getC HH2.out.okc hd2
       have hsz1:bd1.size≤n:=by
        have:=NL.drop_size j cz1
        rw [hd1] at this
        simp only [NL.size] at this
        have:=HSZ.out
        omega
       have hstep:sameN cz1 cz2 = ((eqL same p1 p2 && sameN bd1 bd2) && sameN r1 r2):=by rw [HR.out,hd1,hd2];rfl
       have hW:=fun dd os=>Calls.regrown_of (rsameWords_any p1 p2 y1 y2 f1 f2 (grow (redrawn wr dd) os) (sl_below (P:=PW) (fun h=>h.below (below_regrown wr dd os)) s1) (sl_below (P:=PW) (fun h=>h.below (below_regrown wr dd os)) s2))
       have hC:=fun dd os=>Calls.regrown_of (rsameNodes_any n HSS.out bd1 bd2 hsz1 k1o k2o z1 z2 i1 i2 (grow (redrawn wr dd) os) (n1.below (below_regrown wr dd os)) (n2.below (below_regrown wr dd os)))
       have hnx1:=NL.drop_succC hd1
       have hnx2:=NL.drop_succC hd2
       have a7:=cell_regrown (HA7.out _ HW.out)
       have b7:=cell_regrown (HB7.out _ HW.out)
       have q1:=cell_regrown e1
       have q2:=cell_regrown e2
       have q3:=cell_regrown e3
       have q4:=cell_regrown e4
       generalize eqL same p1 p2 = B1 at hW hstep
       generalize sameN bd1 bd2 = B2 at hC hstep
       have HT:=Lib.hid hstep;have HN1:=Lib.hid hnx1;have HN2:=Lib.hid hnx2
       clear s1 s2 n1 n2 k1o k2o hstep hd1 hd2 hnx1 hnx2 hsz1 e1 e2 e3 e4
       cases B1
       ·have HWC:=Lib.hid hW
        clear hW hC
        go_wp2_with fail
        refine Qu.region (by kernel_rfl) (by kernel_rfl) ?_
        repeat (first
         | (first | refine Qu.carry0 rfl (fun K hK=>?_) | refine Qu.carryG rfl rfl rfl (fun K hK=>?_)
            go_simp
            first
            | (refine hK _ ?_;clear hK K)
            | (apply Exists.intro;refine ⟨fun _=>?_,hK _ ?_⟩;(go_at_call 40;exact HWC.out _ _);clear hK K))
         | (refine Qu.passG rfl rfl rfl (fun K hK=>?_);go_simp;refine hK _ ?_;clear hK K))
        refine Qu.fin ?_
        rintro ⟨dq,osq⟩
        go_wp2_with fail
        go_ret
        exact ⟨ret_bool (by rw [HX.out,HT.out];simp),thru HWW.out (below_regrown wr dq osq)⟩
       ·cases B2
        all_goals
         have HWC:=Lib.hid hW;have HC:=Lib.hid hC
         clear hW hC
         go_wp2_with fail
         refine Qu.region (by kernel_rfl) (by kernel_rfl) ?_
         repeat (first
          | (first | refine Qu.carry0 rfl (fun K hK=>?_) | refine Qu.carryG rfl rfl rfl (fun K hK=>?_)
             go_simp
             first
             | (refine hK _ ?_;clear hK K)
             | (apply Exists.intro;refine ⟨fun _=>?_,hK _ ?_⟩;(first | (go_at_call 40;exact HWC.out _ _) | (go_at_call 41;exact HC.out _ _));clear hK K))
          | (refine Qu.passG rfl rfl rfl (fun K hK=>?_);go_simp;refine hK _ ?_;clear hK K))
         refine Qu.fin ?_
         rintro ⟨dq,osq⟩
         go_wp2_with fail
        ·go_ret
         exact ⟨ret_bool (by rw [HX.out,HT.out];simp),thru HWW.out (below_regrown wr dq osq)⟩
        ·go_roundw
         case rel=>exact ⟨j + 1,by omega,by go_num,by rw [HT.out,HN1.out,HN2.out];rfl,thru HW.out (below_regrown wr dq osq)⟩
         case measure=>simp [intOf];omega
      ·obtain rfl:j = cz1.len:=by omega
       have hcz:sameN cz1 cz2 = true:=by rw [HR.out,NL.drop_end (Nat.le_refl _),NL.drop_end (by have:=H5.out;omega)];rfl
       have HCZ:=Lib.hid hcz
       have a4:=HA4.out _ HW.out;have b4:=HB4.out _ HW.out;have a5:=HA5.out _ HW.out;have b5:=HB5.out _ HW.out
       have hsz1:ks1.size≤n:=by have:=HSZ.out;omega
       have hW:=rsameWords_any ws1 ws2 x12 x22 d12 d22 wr (sl_below (P:=PW) (fun h=>h.below HWW.out) HH1.out.hws) (sl_below (P:=PW) (fun h=>h.below HWW.out) HH2.out.hws)
       have hC:=fun W (hb:Below wr.heap.size wr W)=>rsameNodes_any n HSS.out ks1 ks2 hsz1 HH1.out.okk HH2.out.okk x13 x23 d13 d23 W (HH1.out.hks.below (thru HWW.out hb)) (HH2.out.hks.below (thru HWW.out hb))
       have hXX:nodeEq k1 nm1 g1 az1 ws1 ks1 bs1 cz1 k2 nm2 g2 az2 ws2 ks2 bs2 cz2 = (eqL same ws1 ws2 && sameN ks1 ks2):=by
        rw [HX.out,HK.out,HNM.out,HG.out,HAZ.out,HBZ.out,HCZ.out];simp
       generalize eqL same ws1 ws2 = B1 at hW hXX
       generalize sameN ks1 ks2 = B2 at hC hXX
       have HXX:=Lib.hid hXX;have HWC:=Lib.hid hW;have HC:=Lib.hid hC
       clear hXX hW hC hsz1 hlt HR
       cases B1
       ·go_wp2_with (go_at_call 40;refine (HWC.out).mono ?_;rintro e w4 ⟨rfl,hb4⟩)
        go_ret
        exact ⟨ret_bool HXX.out.symm,thru HWW.out (by assumption)⟩
       ·go_wp2_with (first | (go_at_call 40;refine (HWC.out).mono ?_;rintro e w4 ⟨rfl,hb4⟩;have a5:=HA5.out _ (thru HW.out hb4);have b5:=HB5.out _ (thru HW.out hb4)) | (go_at_call 41;refine (HC.out _ (by assumption)).mono ?_;rintro e w5 ⟨rfl,hb5⟩))
        go_ret
        exact ⟨ret_bool HXX.out.symm,thru HWW.out (thru (by assumption) (by assumption))⟩
theorem rsame_all:∀ n,RSameAt n
 | 0=>fun _ _ _ _ _ _ _ _ _ _ _ _ _ _ _ _ _ _ _ _ _ _ _ _ _ _ _ _ _ _ _ _ _ _ _ _ _ h=>absurd h (Nat.not_lt_zero _)
 | n + 1=>rsame_step n (rsame_all n)
end Tr
end Go.Proofs.Ytbcldfaphnnmlaa
