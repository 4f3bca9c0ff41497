/- The reference: rows of words, rows of nodes, held against each other. -/
import Derived.Test.YtbcldfaphnnmlaaTrI
import Derived.Test.YtbcldfaphnnmlaaPtC
namespace Go.Proofs.Ytbcldfaphnnmlaa
open Go.RowKit Go.Sort
namespace Tr
open Cls Pt
def RSameAt (n:Nat):Prop:=∀ (k1:Int) (nm1:ByteArray) (g1:Bool) (az1:List (ByteArray × PL)) (ws1:List PL) (ks1:NL) (bs1:List Bool) (cz1:NL) (k2:Int) (nm2:ByteArray) (g2:Bool) (az2:List (ByteArray × PL)) (ws2:List PL) (ks2:NL) (bs2:List Bool) (cz2:NL) (x11:Option Addr) (d11:Nat) (x12:Option Addr) (d12:Nat) (x13:Option Addr) (d13:Nat) (x14:Option Addr) (d14:Nat) (x15:Option Addr) (d15:Nat) (x21:Option Addr) (d21:Nat) (x22:Option Addr) (d22:Nat) (x23:Option Addr) (d23:Nat) (x24:Option Addr) (d24:Nat) (x25:Option Addr) (d25:Nat) (w:World),ks1.size + cz1.size < n→Holds w nm1 az1 ws1 ks1 bs1 cz1 x11 d11 x12 d12 x13 d13 x14 d14 x15 d15→Holds w nm2 az2 ws2 ks2 bs2 cz2 x21 d21 x22 d22 x23 d23 x24 d24 x25 d25 →
 Calls Try.prog 24 #[.agg (nodeV k1 nm1 g1 x11 az1.length d11 x12 ws1.length d12 x13 ks1.len d13 x14 bs1.length d14 x15 cz1.len d15),.agg (nodeV k2 nm2 g2 x21 az2.length d21 x22 ws2.length d22 x23 ks2.len d23 x24 bs2.length d24 x25 cz2.len d25)] w fun e w'=>e = .returned (.bool (nodeEq k1 nm1 g1 az1 ws1 ks1 bs1 cz1 k2 nm2 g2 az2 ws2 ks2 bs2 cz2))∧Below w.heap.size w w'
set_option maxHeartbeats 1600000 in
set_option maxRecDepth 100000 in
theorem rsameWords_any (la lb:List PL) (a b:Option Addr) (ca cb:Nat) (w:World) (hla:Sl 1 (PW w) a ca la) (hlb:Sl 1 (PW w) b cb lb) :
  Calls Try.prog 40 #[.slice a la.length ca,.slice b lb.length cb] w fun e w'=>e = .returned (.bool (eqL same la lb))∧Below w.heap.size w w':=by
 have hle:=hla.le
 have hle2:=hlb.le
 have HA:=Lib.hid hla;have HB:=Lib.hid hlb
 clear hla hlb
 by_cases hl:la.length = lb.length
 ·have hl':((la.length:Int) != (lb.length:Int)) = false:=by simp [hl]
  have HL:=Lib.hid hl
  clear hl
  go_enter Try.func40,Try.ntmps40
  go_wp2_with fail
  go_loopw [13] (fun x wr=>∃ n:Nat,n≤la.length∧x = .int .i64 n∧eqL same la lb = eqL same (la.drop n) (lb.drop n)∧Below w.heap.size w wr) (fun x wr=>la.length - (intOf x).toNat)
  case atStart=>exact ⟨0,Nat.zero_le _,rfl,rfl,Below.refl _ _⟩
  case round =>
   obtain ⟨n,hn,rfl,hr,hbw⟩:=hrel
   have HR:=Lib.hid hr;have HW:=Lib.hid hbw
   clear hr hbw
   by_cases hlt:n < la.length
   ·have hlt2:n < lb.length:=by have:=HL.out;omega
    obtain ⟨b1,o1,rfl,a1,c1,e1,hl1⟩:=(sl_below (P:=PW) (fun h=>h.below HW.out) HA.out).get (List.getElem?_eq_getElem hlt)
    obtain ⟨b2,o2,rfl,a2,c2,e2,hl2⟩:=(sl_below (P:=PW) (fun h=>h.below HW.out) HB.out).get (List.getElem?_eq_getElem hlt2)
    rw [Nat.mul_one] at e1 e2
    have hstep:eqL same la lb = (same la[n] lb[n] && eqL same (la.drop (n + 1)) (lb.drop (n + 1))):=by rw [HR.out,eqL_at hlt hlt2]
    have hC:=fun dd os=>Calls.regrown_of (rsame_any (la[n].size + 1) la[n] lb[n] a1 a2 c1 c2 (grow (redrawn wr dd) os) (Nat.lt_succ_self _) (hl1.below (below_regrown wr dd os)) (hl2.below (below_regrown wr dd os)))
    have q1:=cell_regrown e1
    have q2:=cell_regrown e2
    generalize la[n] = x1 at *
    generalize lb[n] = x2 at *
    generalize same x1 x2 = B at hC hstep
    have HT:=Lib.hid hstep
    clear hl1 hl2 hstep e1 e2
    cases B
    all_goals
     have HC:=Lib.hid hC
     clear hC
     go_wp2_with fail
     refine Qu.region (by kernel_rfl) (by kernel_rfl) ?_
     repeat (first
      | (first | refine Qu.carry0 rfl (fun K hK=>?_) | refine Qu.carryG rfl rfl rfl (fun K hK=>?_)
         go_simp
         first
         | (refine hK _ ?_;clear hK K)
         | (apply Exists.intro;refine ⟨fun _=>?_,hK _ ?_⟩;(go_at_call 39;exact HC.out _ _);clear hK K))
      | (refine Qu.passG rfl rfl rfl (fun K hK=>?_);go_simp;refine hK _ ?_;clear hK K))
     refine Qu.fin ?_
     rintro ⟨dq,osq⟩
     go_wp2_with fail
    ·go_ret
     exact ⟨ret_bool (by rw [HT.out];rfl),thru HW.out (below_regrown wr dq osq)⟩
    ·go_roundw
     case rel=>exact ⟨n + 1,by omega,by go_num,by rw [HT.out];rfl,thru HW.out (below_regrown wr dq osq)⟩
     case measure=>simp [intOf];omega
   ·obtain rfl:n = la.length:=by omega
    have hfin:=HR.out.trans (eqL_end HL.out)
    have HF:=Lib.hid hfin
    clear hfin hlt
    go_wp2_with fail
    go_ret
    exact ⟨ret_bool HF.out.symm,HW.out⟩
 ·have hl':((la.length:Int) != (lb.length:Int)) = true:=by rw [bne_iff_ne];omega
  have HL:=Lib.hid hl
  clear hl
  go_enter Try.func40,Try.ntmps40
  go_wp2_with fail
  go_ret
  exact ⟨ret_bool (eqL_len HL.out).symm,Below.refl _ _⟩
end Tr
end Go.Proofs.Ytbcldfaphnnmlaa
