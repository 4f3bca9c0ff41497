/- The reference's Same, for all parts. -/
import Derived.Test.YtbcldfaphnnmlaaPtB
import Derived.Test.YtbcldfaphnnmlaaQTail
namespace Go.Proofs.Ytbcldfaphnnmlaa
open Go.RowKit Go.Sort
namespace Pt
open Cls
set_option maxHeartbeats 8000000 in
set_option maxRecDepth 1000000 in
theorem rsame_any (n:Nat):∀ (la lb:PL) (a b:Option Addr) (ca cb:Nat) (w:World),la.size < n→Lies w a ca la→Lies w b cb lb →
  Calls Try.prog 39 #[.slice a la.len ca,.slice b lb.len cb] w fun e w'=>e = .returned (.bool (same la lb))∧Below w.heap.size w w':=by
 induction n with
 | zero=>intro _ _ _ _ _ _ _ h;omega
 | succ n ih =>
  intro la lb a b ca cb w hn hla hlb
  have HA:=Lib.hid hla;have HB:=Lib.hid hlb;have HS:=Lib.hid ih;clear hla hlb ih
  by_cases hl:la.len = lb.len
  ·have hl':((la.len:Int) != (lb.len:Int)) = false:=by simp [hl]
   have HL:=Lib.hid hl;clear hl
   have hle:=HA.out.le
   go_enter Try.func39,Try.ntmps39
   go_wp2
   go_loopw [13] (fun i wr=>∃ k:Nat,k≤la.len∧i = .int .i64 k∧same la lb = same (la.drop k) (lb.drop k)∧Below w.heap.size w wr) (fun i wr=>la.len - (intOf i).toNat)
   case atStart=>exact ⟨0,Nat.zero_le _,rfl,rfl,Below.refl _ _⟩
   case round =>
    obtain ⟨k,hk,rfl,hr,hbw⟩:=hrel
    have HR:=Lib.hid hr;have HW:=Lib.hid hbw;clear hr hbw
    by_cases hlt:k < la.len
    ·obtain ⟨k1,q1,t1,o1,f1,r1,hd1⟩:=PL.drop_at hlt
     obtain ⟨k2,q2,t2,o2,f2,r2,hd2⟩:=PL.drop_at (l:=lb) (n:=k) (by have:=HL.out;omega)
     have hlt2:k < lb.len:=by have:=HL.out;omega
     obtain ⟨b1,p1,rfl,hb1,c10,c11,c12,c13,_,_,a1,ca1,c14,hl1⟩:=(HA.out.below HW.out).get hd1
     obtain ⟨b2,p2,rfl,hb2,c20,c21,c22,c23,_,_,a2,ca2,c24,hl2⟩:=(HB.out.below HW.out).get hd2
     have hsz:f1.size < la.size:=by
      have:=PL.drop_size k la
      rw [hd1] at this
      simp only [PL.size] at this
      omega
     have hC:∀ d os,Calls Try.prog 39 #[.slice a1 f1.len ca1,.slice a2 f2.len ca2] (grow (redrawn wr d) os) fun e w''=>e = .returned (.bool (same f1 f2))∧∃ p:Regrown,w'' = grow (redrawn wr p.d) p.os:=fun d os =>
      Calls.regrown_of (HS.out f1 f2 a1 a2 ca1 ca2 _ (by omega) (hl1.below (below_regrown wr d os)) (hl2.below (below_regrown wr d os)))
     have hstep:same la lb = ((k1 == k2 && q1 == q2 && t1.toList == t2.toList && o1.toList == o2.toList && same f1 f2) && same r1 r2):=by rw [HR.out,hd1,hd2];rfl
     have hn1:=PL.drop_succ hd1
     have hn2:=PL.drop_succ hd2
     have HC:=Lib.hid hC;have HT:=Lib.hid hstep;have HN1:=Lib.hid hn1;have HN2:=Lib.hid hn2
     have k10:=cell_regrown c10;have k11:=cell_regrown c11;have k12:=cell_regrown c12;have k13:=cell_regrown c13;have k14:=cell_regrown c14
     have k20:=cell_regrown c20;have k21:=cell_regrown c21;have k22:=cell_regrown c22;have k23:=cell_regrown c23;have k24:=cell_regrown c24
     clear hd1 hd2 hl1 hl2 hC hstep hn1 hn2
     go_wp2
     clear c10 c11 c12 c13 c14 c20 c21 c22 c23 c24
     cases h0:k1 == k2
     ·have HH:=Lib.hid h0
      have g0:(k1 != k2) = true:=by simp only [bne,h0];rfl
      refine Qu.region (by kernel_rfl) (by kernel_rfl) ?_
      repeat (first
       | (first | refine Qu.carry0 rfl (fun K hK=>?_) | refine Qu.carryG rfl rfl rfl (fun K hK=>?_)
          go_simp
          first
          | (refine hK _ ?_;clear hK K)
          | (apply Exists.intro;refine ⟨fun _=>?_,hK _ ?_⟩;exact HC.out _ _;clear hK K))
       | (refine Qu.passG rfl rfl rfl (fun K hK=>?_);go_simp;refine hK _ ?_;clear hK K))
      refine Qu.fin ?_
      rintro ⟨dq,osq⟩
      go_wp2
      go_ret
      exact ⟨ret_bool (by rw [HT.out];simp [HH.out]),thru HW.out (below_regrown wr dq osq)⟩
     cases h1:q1 == q2
     ·have HH:=Lib.hid (show (k1 == k2) = true∧(q1 == q2) = false from ⟨h0,h1⟩)
      have g0:(k1 != k2) = false:=by simp only [bne,h0];rfl
      have g1:(q1 != q2) = true:=by simp only [bne,h1];rfl
      refine Qu.region (by kernel_rfl) (by kernel_rfl) ?_
      repeat (first
       | (first | refine Qu.carry0 rfl (fun K hK=>?_) | refine Qu.carryG rfl rfl rfl (fun K hK=>?_)
          go_simp
          first
          | (refine hK _ ?_;clear hK K)
          | (apply Exists.intro;refine ⟨fun _=>?_,hK _ ?_⟩;exact HC.out _ _;clear hK K))
       | (refine Qu.passG rfl rfl rfl (fun K hK=>?_);go_simp;refine hK _ ?_;clear hK K))
      refine Qu.fin ?_
      rintro ⟨dq,osq⟩
      go_wp2
      go_ret
      exact ⟨ret_bool (by rw [HT.out];simp [HH.out]),thru HW.out (below_regrown wr dq osq)⟩
     cases h2:t1.toList == t2.toList
     ·have HH:=Lib.hid (show (k1 == k2) = true∧(q1 == q2) = true∧(t1.toList == t2.toList) = false from ⟨h0,h1,h2⟩)
      have g0:(k1 != k2) = false:=by simp only [bne,h0];rfl
      have g1:(q1 != q2) = false:=by simp only [bne,h1];rfl
      have g2:(t1.toList != t2.toList) = true:=by simp only [bne,h2];rfl
      refine Qu.region (by kernel_rfl) (by kernel_rfl) ?_
      repeat (first
       | (first | refine Qu.carry0 rfl (fun K hK=>?_) | refine Qu.carryG rfl rfl rfl (fun K hK=>?_)
          go_simp
          first
          | (refine hK _ ?_;clear hK K)
          | (apply Exists.intro;refine ⟨fun _=>?_,hK _ ?_⟩;exact HC.out _ _;clear hK K))
       | (refine Qu.passG rfl rfl rfl (fun K hK=>?_);go_simp;refine hK _ ?_;clear hK K))
      refine Qu.fin ?_
      rintro ⟨dq,osq⟩
      go_wp2
      go_ret
      exact ⟨ret_bool (by rw [HT.out];simp [HH.out]),thru HW.out (below_regrown wr dq osq)⟩
     cases h3:o1.toList == o2.toList
     ·have HH:=Lib.hid (show (k1 == k2) = true∧(q1 == q2) = true∧(t1.toList == t2.toList) = true∧(o1.toList == o2.toList) = false from ⟨h0,h1,h2,h3⟩)
      have g0:(k1 != k2) = false:=by simp only [bne,h0];rfl
      have g1:(q1 != q2) = false:=by simp only [bne,h1];rfl
      have g2:(t1.toList != t2.toList) = false:=by simp only [bne,h2];rfl
      have g3:(o1.toList != o2.toList) = true:=by simp only [bne,h3];rfl
      refine Qu.region (by kernel_rfl) (by kernel_rfl) ?_
      repeat (first
       | (first | refine Qu.carry0 rfl (fun K hK=>?_) | refine Qu.carryG rfl rfl rfl (fun K hK=>?_)
          go_simp
          first
          | (refine hK _ ?_;clear hK K)
          | (apply Exists.intro;refine ⟨fun _=>?_,hK _ ?_⟩;exact HC.out _ _;clear hK K))
       | (refine Qu.passG rfl rfl rfl (fun K hK=>?_);go_simp;refine hK _ ?_;clear hK K))
      refine Qu.fin ?_
      rintro ⟨dq,osq⟩
      go_wp2
      go_ret
      exact ⟨ret_bool (by rw [HT.out];simp [HH.out]),thru HW.out (below_regrown wr dq osq)⟩
     cases h4:same f1 f2
     ·have HH:=Lib.hid (show (k1 == k2) = true∧(q1 == q2) = true∧(t1.toList == t2.toList) = true∧(o1.toList == o2.toList) = true∧(same f1 f2) = false from ⟨h0,h1,h2,h3,h4⟩)
      have g0:(k1 != k2) = false:=by simp only [bne,h0];rfl
      have g1:(q1 != q2) = false:=by simp only [bne,h1];rfl
      have g2:(t1.toList != t2.toList) = false:=by simp only [bne,h2];rfl
      have g3:(o1.toList != o2.toList) = false:=by simp only [bne,h3];rfl
      refine Qu.region (by kernel_rfl) (by kernel_rfl) ?_
      repeat (first
       | (first | refine Qu.carry0 rfl (fun K hK=>?_) | refine Qu.carryG rfl rfl rfl (fun K hK=>?_)
          go_simp
          first
          | (refine hK _ ?_;clear hK K)
          | (apply Exists.intro;refine ⟨fun _=>?_,hK _ ?_⟩;exact HC.out _ _;clear hK K))
       | (refine Qu.passG rfl rfl rfl (fun K hK=>?_);go_simp;refine hK _ ?_;clear hK K))
      refine Qu.fin ?_
      rintro ⟨dq,osq⟩
      go_wp2
      go_ret
      exact ⟨ret_bool (by rw [HT.out];simp [HH.out]),thru HW.out (below_regrown wr dq osq)⟩
     have HH:=Lib.hid (show (k1 == k2) = true∧(q1 == q2) = true∧(t1.toList == t2.toList) = true∧(o1.toList == o2.toList) = true∧(same f1 f2) = true from ⟨h0,h1,h2,h3,h4⟩)
     have g0:(k1 != k2) = false:=by simp only [bne,h0];rfl
     have g1:(q1 != q2) = false:=by simp only [bne,h1];rfl
     have g2:(t1.toList != t2.toList) = false:=by simp only [bne,h2];rfl
     have g3:(o1.toList != o2.toList) = false:=by simp only [bne,h3];rfl
     refine Qu.region (by kernel_rfl) (by kernel_rfl) ?_
     repeat (first
      | (first | refine Qu.carry0 rfl (fun K hK=>?_) | refine Qu.carryG rfl rfl rfl (fun K hK=>?_)
         go_simp
         first
         | (refine hK _ ?_;clear hK K)
         | (apply Exists.intro;refine ⟨fun _=>?_,hK _ ?_⟩;exact HC.out _ _;clear hK K))
      | (refine Qu.passG rfl rfl rfl (fun K hK=>?_);go_simp;refine hK _ ?_;clear hK K))
     refine Qu.fin ?_
     rintro ⟨dq,osq⟩
     go_wp2
     go_roundw
     case rel=>exact ⟨k + 1,by omega,by go_num,by rw [HT.out,HN1.out,HN2.out];simp only [HH.out,Bool.and_self,Bool.true_and],thru HW.out (below_regrown wr dq osq)⟩
     case measure=>simp [intOf];omega
    ·obtain rfl:k = la.len:=by omega
     go_wp2
     go_ret
     exact ⟨ret_bool (by rw [HR.out,PL.drop_end (Nat.le_refl _),PL.drop_end (by rw [HL.out];exact Nat.le_refl _)];rfl),HW.out⟩
  ·have hl':((la.len:Int) != (lb.len:Int)) = true:=by simp;omega
   have HL:=Lib.hid hl;clear hl
   go_enter Try.func39,Try.ntmps39
   go_wp2_with fail
   go_ret
   exact ⟨ret_bool (same_len HL.out).symm,Below.refl _ _⟩
end Pt
end Go.Proofs.Ytbcldfaphnnmlaa
