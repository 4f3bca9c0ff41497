/- The reference: Same, for all nodes. -/
import Derived.Test.YtbcldfaphnnmlaaRtL
namespace Go.Proofs.Ytbcldfaphnnmlaa
open Go.RowKit Go.Sort
namespace Tr
open Cls Pt
set_option maxHeartbeats 1600000 in
set_option maxRecDepth 100000 in
theorem rsameNodes_any (n:Nat) (hS:RSameAt n) (la lb:NL) (hn:la.size≤n) (hoka:NL.okN la true = true) (hokb:NL.okN lb true = true) (a b:Option Addr) (ca cb:Nat) (w:World) (hla:NLies w a ca la) (hlb:NLies w b cb lb) :
  Calls Try.prog 41 #[.slice a la.len ca,.slice b lb.len cb] w fun e w'=>e = .returned (.bool (sameN la lb))∧Below w.heap.size w w':=by
 have hle:=hla.le
 have hle2:=hlb.le
 have HA:=Lib.hid hla;have HB:=Lib.hid hlb;have HOA:=Lib.hid hoka;have HOB:=Lib.hid hokb;have HN:=Lib.hid hn;have HSS:=Lib.hid hS
 clear hla hlb hoka hokb hn hS
 by_cases hl:la.len = lb.len
 ·have hl':((la.len:Int) != (lb.len:Int)) = false:=by simp [hl]
  have HL:=Lib.hid hl
  clear hl
  go_enter Try.func41,Try.ntmps41
  go_wp2_with fail
  go_loopw [13] (fun x wr=>∃ j:Nat,j≤la.len∧x = .int .i64 j∧sameN la lb = sameN (la.drop j) (lb.drop j)∧Below w.heap.size w wr) (fun x wr=>la.len - (intOf x).toNat)
  case atStart=>exact ⟨0,Nat.zero_le _,rfl,rfl,Below.refl _ _⟩
  case round =>
   obtain ⟨j,hj,rfl,hr,hbw⟩:=hrel
   have HR:=Lib.hid hr;have HW:=Lib.hid hbw
   clear hr hbw
   by_cases hlt:j < la.len
   ·have hlt2:j < lb.len:=by have:=HL.out;omega
    obtain ⟨k1,nm1,g1,az1,ws1,ks1,bs1,cz1,r1,hd1⟩:=NL.drop_node hlt HOA.out
    obtain ⟨k2,nm2,g2,az2,ws2,ks2,bs2,cz2,r2,hd2⟩:=NL.drop_node hlt2 HOB.out
    obtain ⟨b1,o1,rfl,hb1,x11,d11,x12,d12,x13,d13,x14,d14,x15,d15,hc1,hh1⟩:=(HA.out.below HW.out).getN HOA.out hd1
    obtain ⟨b2,o2,rfl,hb2,x21,d21,x22,d22,x23,d23,x24,d24,x25,d25,hc2,hh2⟩:=(HB.out.below HW.out).getN HOB.out hd2
    have p0:=cell_regrown (show wr.cell? ⟨b1,o1 + j * 8,none⟩ = some (.int .i64 k1) from hc1 0 _ rfl)
    have p1:=cell_regrown (show wr.cell? ⟨b1,o1 + j * 8 + 1,none⟩ = some (.string nm1) from hc1 1 _ rfl)
    have p2:=cell_regrown (show wr.cell? ⟨b1,o1 + j * 8 + 2,none⟩ = some (.bool g1) from hc1 2 _ rfl)
    have p3:=cell_regrown (show wr.cell? ⟨b1,o1 + j * 8 + 3,none⟩ = some (.slice x11 az1.length d11) from hc1 3 _ rfl)
    have p4:=cell_regrown (show wr.cell? ⟨b1,o1 + j * 8 + 4,none⟩ = some (.slice x12 ws1.length d12) from hc1 4 _ rfl)
    have p5:=cell_regrown (show wr.cell? ⟨b1,o1 + j * 8 + 5,none⟩ = some (.slice x13 ks1.len d13) from hc1 5 _ rfl)
    have p6:=cell_regrown (show wr.cell? ⟨b1,o1 + j * 8 + 6,none⟩ = some (.slice x14 bs1.length d14) from hc1 6 _ rfl)
    have p7:=cell_regrown (show wr.cell? ⟨b1,o1 + j * 8 + 7,none⟩ = some (.slice x15 cz1.len d15) from hc1 7 _ rfl)
    have q0:=cell_regrown (show wr.cell? ⟨b2,o2 + j * 8,none⟩ = some (.int .i64 k2) from hc2 0 _ rfl)
    have q1:=cell_regrown (show wr.cell? ⟨b2,o2 + j * 8 + 1,none⟩ = some (.string nm2) from hc2 1 _ rfl)
    have q2:=cell_regrown (show wr.cell? ⟨b2,o2 + j * 8 + 2,none⟩ = some (.bool g2) from hc2 2 _ rfl)
    have q3:=cell_regrown (show wr.cell? ⟨b2,o2 + j * 8 + 3,none⟩ = some (.slice x21 az2.length d21) from hc2 3 _ rfl)
    have q4:=cell_regrown (show wr.cell? ⟨b2,o2 + j * 8 + 4,none⟩ = some (.slice x22 ws2.length d22) from hc2 4 _ rfl)
    have q5:=cell_regrown (show wr.cell? ⟨b2,o2 + j * 8 + 5,none⟩ = some (.slice x23 ks2.len d23) from hc2 5 _ rfl)
    have q6:=cell_regrown (show wr.cell? ⟨b2,o2 + j * 8 + 6,none⟩ = some (.slice x24 bs2.length d24) from hc2 6 _ rfl)
    have q7:=cell_regrown (show wr.cell? ⟨b2,o2 + j * 8 + 7,none⟩ = some (.slice x25 cz2.len d25) from hc2 7 _ rfl)
    have hsz1:ks1.size + cz1.size < n:=by
     have:=NL.drop_size j la
     rw [hd1] at this
     simp only [NL.size] at this
     have:=HN.out
     omega
    have hstep:sameN la lb = (nodeEq k1 nm1 g1 az1 ws1 ks1 bs1 cz1 k2 nm2 g2 az2 ws2 ks2 bs2 cz2 && sameN r1 r2):=by rw [HR.out,hd1,hd2];rfl
    have hC:=fun dd os=>Calls.regrown_of (HSS.out k1 nm1 g1 az1 ws1 ks1 bs1 cz1 k2 nm2 g2 az2 ws2 ks2 bs2 cz2 x11 d11 x12 d12 x13 d13 x14 d14 x15 d15 x21 d21 x22 d22 x23 d23 x24 d24 x25 d25 (grow (redrawn wr dd) os) hsz1 (hh1.below (below_regrown wr dd os)) (hh2.below (below_regrown wr dd os)))
    have hnx1:=NL.drop_succN hd1
    have hnx2:=NL.drop_succN hd2
    unfold nodeV at hC
    generalize nodeEq k1 nm1 g1 az1 ws1 ks1 bs1 cz1 k2 nm2 g2 az2 ws2 ks2 bs2 cz2 = B at hC hstep
    have HT:=Lib.hid hstep;have HN1:=Lib.hid hnx1;have HN2:=Lib.hid hnx2
    clear hh1 hh2 hc1 hc2 hstep hd1 hd2 hnx1 hnx2 hsz1
    cases B
    all_goals
     have HC:=Lib.hid hC
     clear hC
     go_wp2_with fail
     refine Qu.region (by kernel_rfl) (by kernel_rfl) ?_
     repeat (first
      | (first | refine Qu.carry0 rfl (fun K hK=>?_) | refine Qu.carryG rfl rfl rfl (fun K hK=>?_)
         go_simp
         first
         | (refine hK _ ?_;clear hK K)
         | (apply Exists.intro;refine ⟨fun _=>?_,hK _ ?_⟩;(go_at_call 24;exact HC.out _ _);clear hK K))
      | (refine Qu.passG rfl rfl rfl (fun K hK=>?_);go_simp;refine hK _ ?_;clear hK K))
     refine Qu.fin ?_
     rintro ⟨dq,osq⟩
     go_wp2_with fail
    ·go_ret
     exact ⟨ret_bool (by rw [HT.out];rfl),thru HW.out (below_regrown wr dq osq)⟩
    ·go_roundw
     case rel=>exact ⟨j + 1,by omega,by go_num,by rw [HT.out,HN1.out,HN2.out];rfl,thru HW.out (below_regrown wr dq osq)⟩
     case measure=>simp [intOf];omega
   ·obtain rfl:j = la.len:=by omega
    have hfin:sameN la lb = true:=by rw [HR.out,NL.drop_end (Nat.le_refl _),NL.drop_end (by have:=HL.out;omega)];rfl
    have HF:=Lib.hid hfin
    clear hfin hlt
    go_wp2_with fail
    go_ret
    exact ⟨ret_bool HF.out.symm,HW.out⟩
 ·have hl':((la.len:Int) != (lb.len:Int)) = true:=by rw [bne_iff_ne];omega
  have HL:=Lib.hid hl
  clear hl
  go_enter Try.func41,Try.ntmps41
  go_wp2_with fail
  go_ret
  exact ⟨ret_bool (sameN_len HL.out).symm,Below.refl _ _⟩
end Tr
end Go.Proofs.Ytbcldfaphnnmlaa
