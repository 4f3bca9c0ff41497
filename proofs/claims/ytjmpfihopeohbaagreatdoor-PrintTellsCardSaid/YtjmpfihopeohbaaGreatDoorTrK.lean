/- All of a row of nodes (the closure that rightAt makes). -/
import Derived.Test.YtjmpfihopeohbaaGreatDoorTrI
set_option maxHeartbeats 1600000
set_option maxRecDepth 100000
namespace Go.Proofs.YtjmpfihopeohbaaGreatDoor
open Go.RowKit Go.Sort
namespace Tr
open Cls Pt
theorem item_tells:Tells 71 itemS:=item_any
theorem unit_tells:Tells 72 unitS:=unit_any
theorem command_tells:Tells 73 commandS:=command_any
theorem body_tells:Tells 74 bodyB:=body_any
theorem compound_tells:Tells 81 compoundS:=compound_any
theorem all_item (n:Nat) (hR:RightAt n) (la:NL) (hn:la.size≤n) (hok:NL.okN la true = true) (hfit:fitN la) (d pb:Nat) (hd:d≤201) (a:Option Addr) (ca:Nat) (m:Int) (w:World) (hla:NLies w a ca la) (hm:w.cell? ⟨0,0,none⟩ = some (.int .i64 m)) (hp:w.cell? ⟨pb,0,none⟩ = some (.int .i64 d)) :
  Calls Tryz.prog 69 #[.slice a la.len ca,.func (.func 71) #[] #[],.pointer (some ⟨pb,0,none⟩)] w fun e w'=>e = .returned (.bool (allS itemS la && rt la d))∧Below w.heap.size w w':=by
 have hle:=hla.le;have HR:=Lib.hid hR;have HS:=Lib.hid item_tells;have HOK:=Lib.hid hok;have HFIT:=Lib.hid hfit;have HA:=Lib.hid hla;have HM:=Lib.hid hm;have HP:=Lib.hid hp;clear hR hok hfit hla hm hp;go_enter Tryz.func69,Tryz.ntmps69;go_wp2
 go_loopw [10] (fun x wr=>∃ k:Nat,k≤la.len∧x = .int .i64 k∧(allS itemS la && rt la d) = (allS itemS (la.drop k) && rt (la.drop k) d)∧Below w.heap.size w wr) (fun x wr=>la.len - (intOf x).toNat)
 case atStart=>exact ⟨0,Nat.zero_le _,rfl,rfl,Below.refl _ _⟩
 case round =>
  obtain ⟨k,hk,rfl,hr,hbw⟩:=hrel;have HRL:=Lib.hid hr;have HW:=Lib.hid hbw;clear hr hbw
  by_cases hlt:k < la.len
  ·obtain ⟨k1,nm1,g1,az1,ws1,ks1,bs1,cz1,r1,hd1⟩:=NL.drop_node hlt HOK.out;obtain ⟨b1,o1,rfl,hb1,x11,d11,x12,d12,x13,d13,x14,d14,x15,d15,hc1,hh1⟩:=(HA.out.below HW.out).getN HOK.out hd1;have c10:wr.cell? ⟨b1,o1 + k * 8,none⟩ = some (.int .i64 k1):=hc1 0 _ rfl;have c11:wr.cell? ⟨b1,o1 + k * 8 + 1,none⟩ = some (.string nm1):=hc1 1 _ rfl;have c12:wr.cell? ⟨b1,o1 + k * 8 + 2,none⟩ = some (.bool g1):=hc1 2 _ rfl;have c13:wr.cell? ⟨b1,o1 + k * 8 + 3,none⟩ = some (.slice x11 az1.length d11):=hc1 3 _ rfl;have c14:wr.cell? ⟨b1,o1 + k * 8 + 4,none⟩ = some (.slice x12 ws1.length d12):=hc1 4 _ rfl;have c15:wr.cell? ⟨b1,o1 + k * 8 + 5,none⟩ = some (.slice x13 ks1.len d13):=hc1 5 _ rfl;have c16:wr.cell? ⟨b1,o1 + k * 8 + 6,none⟩ = some (.slice x14 bs1.length d14):=hc1 6 _ rfl;have c17:wr.cell? ⟨b1,o1 + k * 8 + 7,none⟩ = some (.slice x15 cz1.len d15):=hc1 7 _ rfl;have hsz:ks1.size + cz1.size < n:=by
    have:=NL.drop_size k la;rw [hd1] at this;simp only [NL.size] at this;omega
   have hf1:=fit_drop k la HFIT.out;rw [hd1] at hf1;have hb0:=bel1 wr (.cells #[.int .i64 k1,.string nm1,.bool g1,.slice x11 az1.length d11,.slice x12 ws1.length d12,.slice x13 ks1.len d13,.slice x14 bs1.length d14,.slice x15 cz1.len d15] 28);have hrow:(wr.alloc (.cells #[.int .i64 k1,.string nm1,.bool g1,.slice x11 az1.length d11,.slice x12 ws1.length d12,.slice x13 ks1.len d13,.slice x14 bs1.length d14,.slice x15 cz1.len d15] 28)).heap[wr.heap.size]? = some (.cells #[.int .i64 k1,.string nm1,.bool g1,.slice x11 az1.length d11,.slice x12 ws1.length d12,.slice x13 ks1.len d13,.slice x14 bs1.length d14,.slice x15 cz1.len d15] 28 (0,0)):=heap_new' _ _;have hlt0:wr.heap.size < (wr.alloc (.cells #[.int .i64 k1,.string nm1,.bool g1,.slice x11 az1.length d11,.slice x12 ws1.length d12,.slice x13 ks1.len d13,.slice x14 bs1.length d14,.slice x15 cz1.len d15] 28)).heap.size:=by simp only [World.size_alloc];omega
   have hC1:=HS.out k1 nm1 g1 az1 ws1 ks1 bs1 cz1 x11 d11 x12 d12 x13 d13 x14 d14 x15 d15 (wr.alloc (.cells #[.int .i64 k1,.string nm1,.bool g1,.slice x11 az1.length d11,.slice x12 ws1.length d12,.slice x13 ks1.len d13,.slice x14 bs1.length d14,.slice x15 cz1.len d15] 28));have hC2:=fun w' (hb:Below wr.heap.size wr w')=>HR.out k1 nm1 g1 az1 ws1 ks1 bs1 cz1 x11 d11 x12 d12 x13 d13 x14 d14 x15 d15 d m w' hsz hd (hh1.below hb) hf1.1 hf1.2.1 hf1.2.2.1 (cell_below (thru HW.out hb) HM.out);have hstep:(allS itemS la && rt la d) = ((itemS k1 ks1.len && nodeR k1 nm1 g1 az1 ws1 ks1 bs1 cz1 d) && (allS itemS r1 && rt r1 d)):=by
    rw [HRL.out,hd1,rt_node];show ((itemS k1 ks1.len && allS itemS r1) && _) = _;cases itemS k1 ks1.len <;> cases allS itemS r1 <;> simp
   have hnx:=NL.drop_succN hd1;have hpw:=fun w' (hb:Below wr.heap.size wr w')=>cell_below (thru HW.out hb) HP.out;unfold nodeV at hC1 hC2;generalize itemS k1 ks1.len = B1 at hC1 hstep;generalize nodeR k1 nm1 g1 az1 ws1 ks1 bs1 cz1 d = B2 at hC2 hstep;have HT:=Lib.hid hstep;have HNX:=Lib.hid hnx;have HC1:=Lib.hid hC1;have HC2:=Lib.hid hC2;have HB0:=Lib.hid hb0;have HROW:=Lib.hid hrow;have HPW:=Lib.hid hpw;have HLT:=Lib.hid hlt0;clear hstep hnx hC1 hC2 hb0 hrow hpw hlt0 hh1 hc1 hd1 hf1;cases B1
   ·go_wp2_with (go_at_call 71;refine (HC1.out).mono ?_;rintro e w1 ⟨rfl,hb⟩);go_ret;exact ⟨ret_bool (by rw [HT.out];rfl),thru HW.out (thru HB0.out (by assumption))⟩
   ·cases B2
    all_goals
     go_wp2_with (first
      | (go_at_call 46;refine (HC2.out _ (by assumption)).mono ?_;rintro e w2 ⟨rfl,hb2⟩)
      | (go_at_call 71;refine (HC1.out).mono ?_;rintro e w1 ⟨rfl,hb1⟩;have hbb:=thru HB0.out hb1;have p0:=HPW.out _ hbb;have hrw:=(hb1.block _ HLT.out).trans HROW.out;have q0:=Lib.cell_of_heap hrw 0;have q1:=Lib.cell_of_heap hrw 1;have q2:=Lib.cell_of_heap hrw 2;have q3:=Lib.cell_of_heap hrw 3;have q4:=Lib.cell_of_heap hrw 4;have q5:=Lib.cell_of_heap hrw 5;have q6:=Lib.cell_of_heap hrw 6;have q7:=Lib.cell_of_heap hrw 7;simp only [List.getElem?_toArray,List.getElem?_cons_succ,List.getElem?_cons_zero] at q0 q1 q2 q3 q4 q5 q6 q7;clear hrw hb1))
    ·go_ret;exact ⟨ret_bool (by rw [HT.out];rfl),thru HW.out (thru (by assumption) (by assumption))⟩
    ·go_roundw
     case rel=>exact ⟨k + 1,by omega,by go_num,by rw [HT.out,HNX.out];rfl,thru HW.out (thru (by assumption) (by assumption))⟩
     case measure=>simp [intOf];omega
  ·obtain rfl:k = la.len:=by omega
   go_wp2;go_ret;exact ⟨ret_bool (by rw [HRL.out,NL.drop_end (Nat.le_refl _)];rfl),HW.out⟩
theorem all_unit (n:Nat) (hR:RightAt n) (la:NL) (hn:la.size≤n) (hok:NL.okN la true = true) (hfit:fitN la) (d pb:Nat) (hd:d≤201) (a:Option Addr) (ca:Nat) (m:Int) (w:World) (hla:NLies w a ca la) (hm:w.cell? ⟨0,0,none⟩ = some (.int .i64 m)) (hp:w.cell? ⟨pb,0,none⟩ = some (.int .i64 d)) :
  Calls Tryz.prog 69 #[.slice a la.len ca,.func (.func 72) #[] #[],.pointer (some ⟨pb,0,none⟩)] w fun e w'=>e = .returned (.bool (allS unitS la && rt la d))∧Below w.heap.size w w':=by
 have hle:=hla.le;have HR:=Lib.hid hR;have HS:=Lib.hid unit_tells;have HOK:=Lib.hid hok;have HFIT:=Lib.hid hfit;have HA:=Lib.hid hla;have HM:=Lib.hid hm;have HP:=Lib.hid hp;clear hR hok hfit hla hm hp;go_enter Tryz.func69,Tryz.ntmps69;go_wp2
 go_loopw [10] (fun x wr=>∃ k:Nat,k≤la.len∧x = .int .i64 k∧(allS unitS la && rt la d) = (allS unitS (la.drop k) && rt (la.drop k) d)∧Below w.heap.size w wr) (fun x wr=>la.len - (intOf x).toNat)
 case atStart=>exact ⟨0,Nat.zero_le _,rfl,rfl,Below.refl _ _⟩
 case round =>
  obtain ⟨k,hk,rfl,hr,hbw⟩:=hrel;have HRL:=Lib.hid hr;have HW:=Lib.hid hbw;clear hr hbw
  by_cases hlt:k < la.len
  ·obtain ⟨k1,nm1,g1,az1,ws1,ks1,bs1,cz1,r1,hd1⟩:=NL.drop_node hlt HOK.out;obtain ⟨b1,o1,rfl,hb1,x11,d11,x12,d12,x13,d13,x14,d14,x15,d15,hc1,hh1⟩:=(HA.out.below HW.out).getN HOK.out hd1;have c10:wr.cell? ⟨b1,o1 + k * 8,none⟩ = some (.int .i64 k1):=hc1 0 _ rfl;have c11:wr.cell? ⟨b1,o1 + k * 8 + 1,none⟩ = some (.string nm1):=hc1 1 _ rfl;have c12:wr.cell? ⟨b1,o1 + k * 8 + 2,none⟩ = some (.bool g1):=hc1 2 _ rfl;have c13:wr.cell? ⟨b1,o1 + k * 8 + 3,none⟩ = some (.slice x11 az1.length d11):=hc1 3 _ rfl;have c14:wr.cell? ⟨b1,o1 + k * 8 + 4,none⟩ = some (.slice x12 ws1.length d12):=hc1 4 _ rfl;have c15:wr.cell? ⟨b1,o1 + k * 8 + 5,none⟩ = some (.slice x13 ks1.len d13):=hc1 5 _ rfl;have c16:wr.cell? ⟨b1,o1 + k * 8 + 6,none⟩ = some (.slice x14 bs1.length d14):=hc1 6 _ rfl;have c17:wr.cell? ⟨b1,o1 + k * 8 + 7,none⟩ = some (.slice x15 cz1.len d15):=hc1 7 _ rfl;have hsz:ks1.size + cz1.size < n:=by
    have:=NL.drop_size k la;rw [hd1] at this;simp only [NL.size] at this;omega
   have hf1:=fit_drop k la HFIT.out;rw [hd1] at hf1;have hb0:=bel1 wr (.cells #[.int .i64 k1,.string nm1,.bool g1,.slice x11 az1.length d11,.slice x12 ws1.length d12,.slice x13 ks1.len d13,.slice x14 bs1.length d14,.slice x15 cz1.len d15] 28);have hrow:(wr.alloc (.cells #[.int .i64 k1,.string nm1,.bool g1,.slice x11 az1.length d11,.slice x12 ws1.length d12,.slice x13 ks1.len d13,.slice x14 bs1.length d14,.slice x15 cz1.len d15] 28)).heap[wr.heap.size]? = some (.cells #[.int .i64 k1,.string nm1,.bool g1,.slice x11 az1.length d11,.slice x12 ws1.length d12,.slice x13 ks1.len d13,.slice x14 bs1.length d14,.slice x15 cz1.len d15] 28 (0,0)):=heap_new' _ _;have hlt0:wr.heap.size < (wr.alloc (.cells #[.int .i64 k1,.string nm1,.bool g1,.slice x11 az1.length d11,.slice x12 ws1.length d12,.slice x13 ks1.len d13,.slice x14 bs1.length d14,.slice x15 cz1.len d15] 28)).heap.size:=by simp only [World.size_alloc];omega
   have hC1:=HS.out k1 nm1 g1 az1 ws1 ks1 bs1 cz1 x11 d11 x12 d12 x13 d13 x14 d14 x15 d15 (wr.alloc (.cells #[.int .i64 k1,.string nm1,.bool g1,.slice x11 az1.length d11,.slice x12 ws1.length d12,.slice x13 ks1.len d13,.slice x14 bs1.length d14,.slice x15 cz1.len d15] 28));have hC2:=fun w' (hb:Below wr.heap.size wr w')=>HR.out k1 nm1 g1 az1 ws1 ks1 bs1 cz1 x11 d11 x12 d12 x13 d13 x14 d14 x15 d15 d m w' hsz hd (hh1.below hb) hf1.1 hf1.2.1 hf1.2.2.1 (cell_below (thru HW.out hb) HM.out);have hstep:(allS unitS la && rt la d) = ((unitS k1 ks1.len && nodeR k1 nm1 g1 az1 ws1 ks1 bs1 cz1 d) && (allS unitS r1 && rt r1 d)):=by
    rw [HRL.out,hd1,rt_node];show ((unitS k1 ks1.len && allS unitS r1) && _) = _;cases unitS k1 ks1.len <;> cases allS unitS r1 <;> simp
   have hnx:=NL.drop_succN hd1;have hpw:=fun w' (hb:Below wr.heap.size wr w')=>cell_below (thru HW.out hb) HP.out;unfold nodeV at hC1 hC2;generalize unitS k1 ks1.len = B1 at hC1 hstep;generalize nodeR k1 nm1 g1 az1 ws1 ks1 bs1 cz1 d = B2 at hC2 hstep;have HT:=Lib.hid hstep;have HNX:=Lib.hid hnx;have HC1:=Lib.hid hC1;have HC2:=Lib.hid hC2;have HB0:=Lib.hid hb0;have HROW:=Lib.hid hrow;have HPW:=Lib.hid hpw;have HLT:=Lib.hid hlt0;clear hstep hnx hC1 hC2 hb0 hrow hpw hlt0 hh1 hc1 hd1 hf1;cases B1
   ·go_wp2_with (go_at_call 72;refine (HC1.out).mono ?_;rintro e w1 ⟨rfl,hb⟩);go_ret;exact ⟨ret_bool (by rw [HT.out];rfl),thru HW.out (thru HB0.out (by assumption))⟩
   ·cases B2
    all_goals
     go_wp2_with (first
      | (go_at_call 46;refine (HC2.out _ (by assumption)).mono ?_;rintro e w2 ⟨rfl,hb2⟩)
      | (go_at_call 72;refine (HC1.out).mono ?_;rintro e w1 ⟨rfl,hb1⟩;have hbb:=thru HB0.out hb1;have p0:=HPW.out _ hbb;have hrw:=(hb1.block _ HLT.out).trans HROW.out;have q0:=Lib.cell_of_heap hrw 0;have q1:=Lib.cell_of_heap hrw 1;have q2:=Lib.cell_of_heap hrw 2;have q3:=Lib.cell_of_heap hrw 3;have q4:=Lib.cell_of_heap hrw 4;have q5:=Lib.cell_of_heap hrw 5;have q6:=Lib.cell_of_heap hrw 6;have q7:=Lib.cell_of_heap hrw 7;simp only [List.getElem?_toArray,List.getElem?_cons_succ,List.getElem?_cons_zero] at q0 q1 q2 q3 q4 q5 q6 q7;clear hrw hb1))
    ·go_ret;exact ⟨ret_bool (by rw [HT.out];rfl),thru HW.out (thru (by assumption) (by assumption))⟩
    ·go_roundw
     case rel=>exact ⟨k + 1,by omega,by go_num,by rw [HT.out,HNX.out];rfl,thru HW.out (thru (by assumption) (by assumption))⟩
     case measure=>simp [intOf];omega
  ·obtain rfl:k = la.len:=by omega
   go_wp2;go_ret;exact ⟨ret_bool (by rw [HRL.out,NL.drop_end (Nat.le_refl _)];rfl),HW.out⟩
theorem all_command (n:Nat) (hR:RightAt n) (la:NL) (hn:la.size≤n) (hok:NL.okN la true = true) (hfit:fitN la) (d pb:Nat) (hd:d≤201) (a:Option Addr) (ca:Nat) (m:Int) (w:World) (hla:NLies w a ca la) (hm:w.cell? ⟨0,0,none⟩ = some (.int .i64 m)) (hp:w.cell? ⟨pb,0,none⟩ = some (.int .i64 d)) :
  Calls Tryz.prog 69 #[.slice a la.len ca,.func (.func 73) #[] #[],.pointer (some ⟨pb,0,none⟩)] w fun e w'=>e = .returned (.bool (allS commandS la && rt la d))∧Below w.heap.size w w':=by
 have hle:=hla.le;have HR:=Lib.hid hR;have HS:=Lib.hid command_tells;have HOK:=Lib.hid hok;have HFIT:=Lib.hid hfit;have HA:=Lib.hid hla;have HM:=Lib.hid hm;have HP:=Lib.hid hp;clear hR hok hfit hla hm hp;go_enter Tryz.func69,Tryz.ntmps69;go_wp2
 go_loopw [10] (fun x wr=>∃ k:Nat,k≤la.len∧x = .int .i64 k∧(allS commandS la && rt la d) = (allS commandS (la.drop k) && rt (la.drop k) d)∧Below w.heap.size w wr) (fun x wr=>la.len - (intOf x).toNat)
 case atStart=>exact ⟨0,Nat.zero_le _,rfl,rfl,Below.refl _ _⟩
 case round =>
  obtain ⟨k,hk,rfl,hr,hbw⟩:=hrel;have HRL:=Lib.hid hr;have HW:=Lib.hid hbw;clear hr hbw
  by_cases hlt:k < la.len
  ·obtain ⟨k1,nm1,g1,az1,ws1,ks1,bs1,cz1,r1,hd1⟩:=NL.drop_node hlt HOK.out;obtain ⟨b1,o1,rfl,hb1,x11,d11,x12,d12,x13,d13,x14,d14,x15,d15,hc1,hh1⟩:=(HA.out.below HW.out).getN HOK.out hd1;have c10:wr.cell? ⟨b1,o1 + k * 8,none⟩ = some (.int .i64 k1):=hc1 0 _ rfl;have c11:wr.cell? ⟨b1,o1 + k * 8 + 1,none⟩ = some (.string nm1):=hc1 1 _ rfl;have c12:wr.cell? ⟨b1,o1 + k * 8 + 2,none⟩ = some (.bool g1):=hc1 2 _ rfl;have c13:wr.cell? ⟨b1,o1 + k * 8 + 3,none⟩ = some (.slice x11 az1.length d11):=hc1 3 _ rfl;have c14:wr.cell? ⟨b1,o1 + k * 8 + 4,none⟩ = some (.slice x12 ws1.length d12):=hc1 4 _ rfl;have c15:wr.cell? ⟨b1,o1 + k * 8 + 5,none⟩ = some (.slice x13 ks1.len d13):=hc1 5 _ rfl;have c16:wr.cell? ⟨b1,o1 + k * 8 + 6,none⟩ = some (.slice x14 bs1.length d14):=hc1 6 _ rfl;have c17:wr.cell? ⟨b1,o1 + k * 8 + 7,none⟩ = some (.slice x15 cz1.len d15):=hc1 7 _ rfl;have hsz:ks1.size + cz1.size < n:=by
    have:=NL.drop_size k la;rw [hd1] at this;simp only [NL.size] at this;omega
   have hf1:=fit_drop k la HFIT.out;rw [hd1] at hf1;have hb0:=bel1 wr (.cells #[.int .i64 k1,.string nm1,.bool g1,.slice x11 az1.length d11,.slice x12 ws1.length d12,.slice x13 ks1.len d13,.slice x14 bs1.length d14,.slice x15 cz1.len d15] 28);have hrow:(wr.alloc (.cells #[.int .i64 k1,.string nm1,.bool g1,.slice x11 az1.length d11,.slice x12 ws1.length d12,.slice x13 ks1.len d13,.slice x14 bs1.length d14,.slice x15 cz1.len d15] 28)).heap[wr.heap.size]? = some (.cells #[.int .i64 k1,.string nm1,.bool g1,.slice x11 az1.length d11,.slice x12 ws1.length d12,.slice x13 ks1.len d13,.slice x14 bs1.length d14,.slice x15 cz1.len d15] 28 (0,0)):=heap_new' _ _;have hlt0:wr.heap.size < (wr.alloc (.cells #[.int .i64 k1,.string nm1,.bool g1,.slice x11 az1.length d11,.slice x12 ws1.length d12,.slice x13 ks1.len d13,.slice x14 bs1.length d14,.slice x15 cz1.len d15] 28)).heap.size:=by simp only [World.size_alloc];omega
   have hC1:=HS.out k1 nm1 g1 az1 ws1 ks1 bs1 cz1 x11 d11 x12 d12 x13 d13 x14 d14 x15 d15 (wr.alloc (.cells #[.int .i64 k1,.string nm1,.bool g1,.slice x11 az1.length d11,.slice x12 ws1.length d12,.slice x13 ks1.len d13,.slice x14 bs1.length d14,.slice x15 cz1.len d15] 28));have hC2:=fun w' (hb:Below wr.heap.size wr w')=>HR.out k1 nm1 g1 az1 ws1 ks1 bs1 cz1 x11 d11 x12 d12 x13 d13 x14 d14 x15 d15 d m w' hsz hd (hh1.below hb) hf1.1 hf1.2.1 hf1.2.2.1 (cell_below (thru HW.out hb) HM.out);have hstep:(allS commandS la && rt la d) = ((commandS k1 ks1.len && nodeR k1 nm1 g1 az1 ws1 ks1 bs1 cz1 d) && (allS commandS r1 && rt r1 d)):=by
    rw [HRL.out,hd1,rt_node];show ((commandS k1 ks1.len && allS commandS r1) && _) = _;cases commandS k1 ks1.len <;> cases allS commandS r1 <;> simp
   have hnx:=NL.drop_succN hd1;have hpw:=fun w' (hb:Below wr.heap.size wr w')=>cell_below (thru HW.out hb) HP.out;unfold nodeV at hC1 hC2;generalize commandS k1 ks1.len = B1 at hC1 hstep;generalize nodeR k1 nm1 g1 az1 ws1 ks1 bs1 cz1 d = B2 at hC2 hstep;have HT:=Lib.hid hstep;have HNX:=Lib.hid hnx;have HC1:=Lib.hid hC1;have HC2:=Lib.hid hC2;have HB0:=Lib.hid hb0;have HROW:=Lib.hid hrow;have HPW:=Lib.hid hpw;have HLT:=Lib.hid hlt0;clear hstep hnx hC1 hC2 hb0 hrow hpw hlt0 hh1 hc1 hd1 hf1;cases B1
   ·go_wp2_with (go_at_call 73;refine (HC1.out).mono ?_;rintro e w1 ⟨rfl,hb⟩);go_ret;exact ⟨ret_bool (by rw [HT.out];rfl),thru HW.out (thru HB0.out (by assumption))⟩
   ·cases B2
    all_goals
     go_wp2_with (first
      | (go_at_call 46;refine (HC2.out _ (by assumption)).mono ?_;rintro e w2 ⟨rfl,hb2⟩)
      | (go_at_call 73;refine (HC1.out).mono ?_;rintro e w1 ⟨rfl,hb1⟩;have hbb:=thru HB0.out hb1;have p0:=HPW.out _ hbb;have hrw:=(hb1.block _ HLT.out).trans HROW.out;have q0:=Lib.cell_of_heap hrw 0;have q1:=Lib.cell_of_heap hrw 1;have q2:=Lib.cell_of_heap hrw 2;have q3:=Lib.cell_of_heap hrw 3;have q4:=Lib.cell_of_heap hrw 4;have q5:=Lib.cell_of_heap hrw 5;have q6:=Lib.cell_of_heap hrw 6;have q7:=Lib.cell_of_heap hrw 7;simp only [List.getElem?_toArray,List.getElem?_cons_succ,List.getElem?_cons_zero] at q0 q1 q2 q3 q4 q5 q6 q7;clear hrw hb1))
    ·go_ret;exact ⟨ret_bool (by rw [HT.out];rfl),thru HW.out (thru (by assumption) (by assumption))⟩
    ·go_roundw
     case rel=>exact ⟨k + 1,by omega,by go_num,by rw [HT.out,HNX.out];rfl,thru HW.out (thru (by assumption) (by assumption))⟩
     case measure=>simp [intOf];omega
  ·obtain rfl:k = la.len:=by omega
   go_wp2;go_ret;exact ⟨ret_bool (by rw [HRL.out,NL.drop_end (Nat.le_refl _)];rfl),HW.out⟩
theorem all_body (n:Nat) (hR:RightAt n) (la:NL) (hn:la.size≤n) (hok:NL.okN la true = true) (hfit:fitN la) (d pb:Nat) (hd:d≤201) (a:Option Addr) (ca:Nat) (m:Int) (w:World) (hla:NLies w a ca la) (hm:w.cell? ⟨0,0,none⟩ = some (.int .i64 m)) (hp:w.cell? ⟨pb,0,none⟩ = some (.int .i64 d)) :
  Calls Tryz.prog 69 #[.slice a la.len ca,.func (.func 74) #[] #[],.pointer (some ⟨pb,0,none⟩)] w fun e w'=>e = .returned (.bool (allS bodyB la && rt la d))∧Below w.heap.size w w':=by
 have hle:=hla.le;have HR:=Lib.hid hR;have HS:=Lib.hid body_tells;have HOK:=Lib.hid hok;have HFIT:=Lib.hid hfit;have HA:=Lib.hid hla;have HM:=Lib.hid hm;have HP:=Lib.hid hp;clear hR hok hfit hla hm hp;go_enter Tryz.func69,Tryz.ntmps69;go_wp2
 go_loopw [10] (fun x wr=>∃ k:Nat,k≤la.len∧x = .int .i64 k∧(allS bodyB la && rt la d) = (allS bodyB (la.drop k) && rt (la.drop k) d)∧Below w.heap.size w wr) (fun x wr=>la.len - (intOf x).toNat)
 case atStart=>exact ⟨0,Nat.zero_le _,rfl,rfl,Below.refl _ _⟩
 case round =>
  obtain ⟨k,hk,rfl,hr,hbw⟩:=hrel;have HRL:=Lib.hid hr;have HW:=Lib.hid hbw;clear hr hbw
  by_cases hlt:k < la.len
  ·obtain ⟨k1,nm1,g1,az1,ws1,ks1,bs1,cz1,r1,hd1⟩:=NL.drop_node hlt HOK.out;obtain ⟨b1,o1,rfl,hb1,x11,d11,x12,d12,x13,d13,x14,d14,x15,d15,hc1,hh1⟩:=(HA.out.below HW.out).getN HOK.out hd1;have c10:wr.cell? ⟨b1,o1 + k * 8,none⟩ = some (.int .i64 k1):=hc1 0 _ rfl;have c11:wr.cell? ⟨b1,o1 + k * 8 + 1,none⟩ = some (.string nm1):=hc1 1 _ rfl;have c12:wr.cell? ⟨b1,o1 + k * 8 + 2,none⟩ = some (.bool g1):=hc1 2 _ rfl;have c13:wr.cell? ⟨b1,o1 + k * 8 + 3,none⟩ = some (.slice x11 az1.length d11):=hc1 3 _ rfl;have c14:wr.cell? ⟨b1,o1 + k * 8 + 4,none⟩ = some (.slice x12 ws1.length d12):=hc1 4 _ rfl;have c15:wr.cell? ⟨b1,o1 + k * 8 + 5,none⟩ = some (.slice x13 ks1.len d13):=hc1 5 _ rfl;have c16:wr.cell? ⟨b1,o1 + k * 8 + 6,none⟩ = some (.slice x14 bs1.length d14):=hc1 6 _ rfl;have c17:wr.cell? ⟨b1,o1 + k * 8 + 7,none⟩ = some (.slice x15 cz1.len d15):=hc1 7 _ rfl;have hsz:ks1.size + cz1.size < n:=by
    have:=NL.drop_size k la;rw [hd1] at this;simp only [NL.size] at this;omega
   have hf1:=fit_drop k la HFIT.out;rw [hd1] at hf1;have hb0:=bel1 wr (.cells #[.int .i64 k1,.string nm1,.bool g1,.slice x11 az1.length d11,.slice x12 ws1.length d12,.slice x13 ks1.len d13,.slice x14 bs1.length d14,.slice x15 cz1.len d15] 28);have hrow:(wr.alloc (.cells #[.int .i64 k1,.string nm1,.bool g1,.slice x11 az1.length d11,.slice x12 ws1.length d12,.slice x13 ks1.len d13,.slice x14 bs1.length d14,.slice x15 cz1.len d15] 28)).heap[wr.heap.size]? = some (.cells #[.int .i64 k1,.string nm1,.bool g1,.slice x11 az1.length d11,.slice x12 ws1.length d12,.slice x13 ks1.len d13,.slice x14 bs1.length d14,.slice x15 cz1.len d15] 28 (0,0)):=heap_new' _ _;have hlt0:wr.heap.size < (wr.alloc (.cells #[.int .i64 k1,.string nm1,.bool g1,.slice x11 az1.length d11,.slice x12 ws1.length d12,.slice x13 ks1.len d13,.slice x14 bs1.length d14,.slice x15 cz1.len d15] 28)).heap.size:=by simp only [World.size_alloc];omega
   have hC1:=HS.out k1 nm1 g1 az1 ws1 ks1 bs1 cz1 x11 d11 x12 d12 x13 d13 x14 d14 x15 d15 (wr.alloc (.cells #[.int .i64 k1,.string nm1,.bool g1,.slice x11 az1.length d11,.slice x12 ws1.length d12,.slice x13 ks1.len d13,.slice x14 bs1.length d14,.slice x15 cz1.len d15] 28));have hC2:=fun w' (hb:Below wr.heap.size wr w')=>HR.out k1 nm1 g1 az1 ws1 ks1 bs1 cz1 x11 d11 x12 d12 x13 d13 x14 d14 x15 d15 d m w' hsz hd (hh1.below hb) hf1.1 hf1.2.1 hf1.2.2.1 (cell_below (thru HW.out hb) HM.out);have hstep:(allS bodyB la && rt la d) = ((bodyB k1 ks1.len && nodeR k1 nm1 g1 az1 ws1 ks1 bs1 cz1 d) && (allS bodyB r1 && rt r1 d)):=by
    rw [HRL.out,hd1,rt_node];show ((bodyB k1 ks1.len && allS bodyB r1) && _) = _;cases bodyB k1 ks1.len <;> cases allS bodyB r1 <;> simp
   have hnx:=NL.drop_succN hd1;have hpw:=fun w' (hb:Below wr.heap.size wr w')=>cell_below (thru HW.out hb) HP.out;unfold nodeV at hC1 hC2;generalize bodyB k1 ks1.len = B1 at hC1 hstep;generalize nodeR k1 nm1 g1 az1 ws1 ks1 bs1 cz1 d = B2 at hC2 hstep;have HT:=Lib.hid hstep;have HNX:=Lib.hid hnx;have HC1:=Lib.hid hC1;have HC2:=Lib.hid hC2;have HB0:=Lib.hid hb0;have HROW:=Lib.hid hrow;have HPW:=Lib.hid hpw;have HLT:=Lib.hid hlt0;clear hstep hnx hC1 hC2 hb0 hrow hpw hlt0 hh1 hc1 hd1 hf1;cases B1
   ·go_wp2_with (go_at_call 74;refine (HC1.out).mono ?_;rintro e w1 ⟨rfl,hb⟩);go_ret;exact ⟨ret_bool (by rw [HT.out];rfl),thru HW.out (thru HB0.out (by assumption))⟩
   ·cases B2
    all_goals
     go_wp2_with (first
      | (go_at_call 46;refine (HC2.out _ (by assumption)).mono ?_;rintro e w2 ⟨rfl,hb2⟩)
      | (go_at_call 74;refine (HC1.out).mono ?_;rintro e w1 ⟨rfl,hb1⟩;have hbb:=thru HB0.out hb1;have p0:=HPW.out _ hbb;have hrw:=(hb1.block _ HLT.out).trans HROW.out;have q0:=Lib.cell_of_heap hrw 0;have q1:=Lib.cell_of_heap hrw 1;have q2:=Lib.cell_of_heap hrw 2;have q3:=Lib.cell_of_heap hrw 3;have q4:=Lib.cell_of_heap hrw 4;have q5:=Lib.cell_of_heap hrw 5;have q6:=Lib.cell_of_heap hrw 6;have q7:=Lib.cell_of_heap hrw 7;simp only [List.getElem?_toArray,List.getElem?_cons_succ,List.getElem?_cons_zero] at q0 q1 q2 q3 q4 q5 q6 q7;clear hrw hb1))
    ·go_ret;exact ⟨ret_bool (by rw [HT.out];rfl),thru HW.out (thru (by assumption) (by assumption))⟩
    ·go_roundw
     case rel=>exact ⟨k + 1,by omega,by go_num,by rw [HT.out,HNX.out];rfl,thru HW.out (thru (by assumption) (by assumption))⟩
     case measure=>simp [intOf];omega
  ·obtain rfl:k = la.len:=by omega
   go_wp2;go_ret;exact ⟨ret_bool (by rw [HRL.out,NL.drop_end (Nat.le_refl _)];rfl),HW.out⟩
theorem all_compound (n:Nat) (hR:RightAt n) (la:NL) (hn:la.size≤n) (hok:NL.okN la true = true) (hfit:fitN la) (d pb:Nat) (hd:d≤201) (a:Option Addr) (ca:Nat) (m:Int) (w:World) (hla:NLies w a ca la) (hm:w.cell? ⟨0,0,none⟩ = some (.int .i64 m)) (hp:w.cell? ⟨pb,0,none⟩ = some (.int .i64 d)) :
  Calls Tryz.prog 69 #[.slice a la.len ca,.func (.func 81) #[] #[],.pointer (some ⟨pb,0,none⟩)] w fun e w'=>e = .returned (.bool (allS compoundS la && rt la d))∧Below w.heap.size w w':=by
 have hle:=hla.le;have HR:=Lib.hid hR;have HS:=Lib.hid compound_tells;have HOK:=Lib.hid hok;have HFIT:=Lib.hid hfit;have HA:=Lib.hid hla;have HM:=Lib.hid hm;have HP:=Lib.hid hp;clear hR hok hfit hla hm hp;go_enter Tryz.func69,Tryz.ntmps69;go_wp2
 go_loopw [10] (fun x wr=>∃ k:Nat,k≤la.len∧x = .int .i64 k∧(allS compoundS la && rt la d) = (allS compoundS (la.drop k) && rt (la.drop k) d)∧Below w.heap.size w wr) (fun x wr=>la.len - (intOf x).toNat)
 case atStart=>exact ⟨0,Nat.zero_le _,rfl,rfl,Below.refl _ _⟩
 case round =>
  obtain ⟨k,hk,rfl,hr,hbw⟩:=hrel;have HRL:=Lib.hid hr;have HW:=Lib.hid hbw;clear hr hbw
  by_cases hlt:k < la.len
  ·obtain ⟨k1,nm1,g1,az1,ws1,ks1,bs1,cz1,r1,hd1⟩:=NL.drop_node hlt HOK.out;obtain ⟨b1,o1,rfl,hb1,x11,d11,x12,d12,x13,d13,x14,d14,x15,d15,hc1,hh1⟩:=(HA.out.below HW.out).getN HOK.out hd1;have c10:wr.cell? ⟨b1,o1 + k * 8,none⟩ = some (.int .i64 k1):=hc1 0 _ rfl;have c11:wr.cell? ⟨b1,o1 + k * 8 + 1,none⟩ = some (.string nm1):=hc1 1 _ rfl;have c12:wr.cell? ⟨b1,o1 + k * 8 + 2,none⟩ = some (.bool g1):=hc1 2 _ rfl;have c13:wr.cell? ⟨b1,o1 + k * 8 + 3,none⟩ = some (.slice x11 az1.length d11):=hc1 3 _ rfl;have c14:wr.cell? ⟨b1,o1 + k * 8 + 4,none⟩ = some (.slice x12 ws1.length d12):=hc1 4 _ rfl;have c15:wr.cell? ⟨b1,o1 + k * 8 + 5,none⟩ = some (.slice x13 ks1.len d13):=hc1 5 _ rfl;have c16:wr.cell? ⟨b1,o1 + k * 8 + 6,none⟩ = some (.slice x14 bs1.length d14):=hc1 6 _ rfl;have c17:wr.cell? ⟨b1,o1 + k * 8 + 7,none⟩ = some (.slice x15 cz1.len d15):=hc1 7 _ rfl;have hsz:ks1.size + cz1.size < n:=by
    have:=NL.drop_size k la;rw [hd1] at this;simp only [NL.size] at this;omega
   have hf1:=fit_drop k la HFIT.out;rw [hd1] at hf1;have hb0:=bel1 wr (.cells #[.int .i64 k1,.string nm1,.bool g1,.slice x11 az1.length d11,.slice x12 ws1.length d12,.slice x13 ks1.len d13,.slice x14 bs1.length d14,.slice x15 cz1.len d15] 28);have hrow:(wr.alloc (.cells #[.int .i64 k1,.string nm1,.bool g1,.slice x11 az1.length d11,.slice x12 ws1.length d12,.slice x13 ks1.len d13,.slice x14 bs1.length d14,.slice x15 cz1.len d15] 28)).heap[wr.heap.size]? = some (.cells #[.int .i64 k1,.string nm1,.bool g1,.slice x11 az1.length d11,.slice x12 ws1.length d12,.slice x13 ks1.len d13,.slice x14 bs1.length d14,.slice x15 cz1.len d15] 28 (0,0)):=heap_new' _ _;have hlt0:wr.heap.size < (wr.alloc (.cells #[.int .i64 k1,.string nm1,.bool g1,.slice x11 az1.length d11,.slice x12 ws1.length d12,.slice x13 ks1.len d13,.slice x14 bs1.length d14,.slice x15 cz1.len d15] 28)).heap.size:=by simp only [World.size_alloc];omega
   have hC1:=HS.out k1 nm1 g1 az1 ws1 ks1 bs1 cz1 x11 d11 x12 d12 x13 d13 x14 d14 x15 d15 (wr.alloc (.cells #[.int .i64 k1,.string nm1,.bool g1,.slice x11 az1.length d11,.slice x12 ws1.length d12,.slice x13 ks1.len d13,.slice x14 bs1.length d14,.slice x15 cz1.len d15] 28));have hC2:=fun w' (hb:Below wr.heap.size wr w')=>HR.out k1 nm1 g1 az1 ws1 ks1 bs1 cz1 x11 d11 x12 d12 x13 d13 x14 d14 x15 d15 d m w' hsz hd (hh1.below hb) hf1.1 hf1.2.1 hf1.2.2.1 (cell_below (thru HW.out hb) HM.out);have hstep:(allS compoundS la && rt la d) = ((compoundS k1 ks1.len && nodeR k1 nm1 g1 az1 ws1 ks1 bs1 cz1 d) && (allS compoundS r1 && rt r1 d)):=by
    rw [HRL.out,hd1,rt_node];show ((compoundS k1 ks1.len && allS compoundS r1) && _) = _;cases compoundS k1 ks1.len <;> cases allS compoundS r1 <;> simp
   have hnx:=NL.drop_succN hd1;have hpw:=fun w' (hb:Below wr.heap.size wr w')=>cell_below (thru HW.out hb) HP.out;unfold nodeV at hC1 hC2;generalize compoundS k1 ks1.len = B1 at hC1 hstep;generalize nodeR k1 nm1 g1 az1 ws1 ks1 bs1 cz1 d = B2 at hC2 hstep;have HT:=Lib.hid hstep;have HNX:=Lib.hid hnx;have HC1:=Lib.hid hC1;have HC2:=Lib.hid hC2;have HB0:=Lib.hid hb0;have HROW:=Lib.hid hrow;have HPW:=Lib.hid hpw;have HLT:=Lib.hid hlt0;clear hstep hnx hC1 hC2 hb0 hrow hpw hlt0 hh1 hc1 hd1 hf1;cases B1
   ·go_wp2_with (go_at_call 81;refine (HC1.out).mono ?_;rintro e w1 ⟨rfl,hb⟩);go_ret;exact ⟨ret_bool (by rw [HT.out];rfl),thru HW.out (thru HB0.out (by assumption))⟩
   ·cases B2
    all_goals
     go_wp2_with (first
      | (go_at_call 46;refine (HC2.out _ (by assumption)).mono ?_;rintro e w2 ⟨rfl,hb2⟩)
      | (go_at_call 81;refine (HC1.out).mono ?_;rintro e w1 ⟨rfl,hb1⟩;have hbb:=thru HB0.out hb1;have p0:=HPW.out _ hbb;have hrw:=(hb1.block _ HLT.out).trans HROW.out;have q0:=Lib.cell_of_heap hrw 0;have q1:=Lib.cell_of_heap hrw 1;have q2:=Lib.cell_of_heap hrw 2;have q3:=Lib.cell_of_heap hrw 3;have q4:=Lib.cell_of_heap hrw 4;have q5:=Lib.cell_of_heap hrw 5;have q6:=Lib.cell_of_heap hrw 6;have q7:=Lib.cell_of_heap hrw 7;simp only [List.getElem?_toArray,List.getElem?_cons_succ,List.getElem?_cons_zero] at q0 q1 q2 q3 q4 q5 q6 q7;clear hrw hb1))
    ·go_ret;exact ⟨ret_bool (by rw [HT.out];rfl),thru HW.out (thru (by assumption) (by assumption))⟩
    ·go_roundw
     case rel=>exact ⟨k + 1,by omega,by go_num,by rw [HT.out,HNX.out];rfl,thru HW.out (thru (by assumption) (by assumption))⟩
     case measure=>simp [intOf];omega
  ·obtain rfl:k = la.len:=by omega
   go_wp2;go_ret;exact ⟨ret_bool (by rw [HRL.out,NL.drop_end (Nat.le_refl _)];rfl),HW.out⟩
end Tr
end Go.Proofs.YtjmpfihopeohbaaGreatDoor
namespace Go.Proofs.YtjmpfihopeohbaaGreatDoor
open Go.RowKit Go.Sort
namespace Tr
open Cls Pt
def Clo (w:World) (pb pf d:Nat):Prop:=w.cell? ⟨pb,0,none⟩ = some (.int .i64 d)∧w.cell? ⟨pf,0,none⟩ = some (.func (.func 69) #[] #[.pointer (some ⟨pb,0,none⟩)])
theorem Clo.below {w w':World} {pb pf d:Nat} (h:Clo w pb pf d) (hb:Below w.heap.size w w'):Clo w' pb pf d:=⟨cell_below hb h.1,cell_below hb h.2⟩
theorem close2_any (n:Nat) (hR:RightAt n) (la:NL) (hn:la.size≤n) (hok:NL.okN la true = true) (hfit:fitN la) (d pb pf:Nat) (hd:d≤201) (a:Option Addr) (ca:Nat) (m:Int) (w:World) (hla:NLies w a ca la) (hm:w.cell? ⟨0,0,none⟩ = some (.int .i64 m)) (hc:Clo w pb pf d) :
  Calls Tryz.prog 78 #[.slice a la.len ca,.pointer (some ⟨pf,0,none⟩)] w fun e w'=>e = .returned (.bool (allS bodyB la && rt la d))∧Below w.heap.size w w':=by
 have hA:=all_body n hR la hn hok hfit d pb hd a ca m w hla hm hc.1;have c2:=hc.2;have HA:=Lib.hid hA;clear hA hR hla hm hc hok hfit;go_enter Tryz.func78,Tryz.ntmps78;go_wp2_with (go_at_call 69;refine (HA.out).mono ?_;rintro e w1 ⟨rfl,hb⟩);go_ret;exact ⟨rfl,by assumption⟩
theorem rightCases_any (n:Nat) (hR:RightAt n) (la:NL) (hn:la.size≤n) (hok:NL.okN la false = true) (hfit:fitN la) (d pb pf:Nat) (hd:d≤201) (a:Option Addr) (ca:Nat) (m:Int) (w:World) (hla:NLies w a ca la) (hm:w.cell? ⟨0,0,none⟩ = some (.int .i64 m)) (hc:Clo w pb pf d) :
  Calls Tryz.prog 77 #[.slice a la.len ca,.func (.func 78) #[] #[.pointer (some ⟨pf,0,none⟩)]] w fun e w'=>e = .returned (.bool (rt la d))∧Below w.heap.size w w':=by
 have hle:=hla.le;have HR:=Lib.hid hR;have HOK:=Lib.hid hok;have HFIT:=Lib.hid hfit;have HA:=Lib.hid hla;have HM:=Lib.hid hm;have HC:=Lib.hid hc;clear hR hok hfit hla hm hc;go_enter Tryz.func77,Tryz.ntmps77;go_wp2
 go_loopw [9] (fun x wr=>∃ k:Nat,k≤la.len∧x = .int .i64 k∧rt la d = rt (la.drop k) d∧Below w.heap.size w wr) (fun x wr=>la.len - (intOf x).toNat)
 case atStart=>exact ⟨0,Nat.zero_le _,rfl,rfl,Below.refl _ _⟩
 case round =>
  obtain ⟨k,hk,rfl,hr,hbw⟩:=hrel;have HRL:=Lib.hid hr;have HW:=Lib.hid hbw;clear hr hbw
  by_cases hlt:k < la.len
  ·obtain ⟨ps,bd,r1,hd1⟩:=NL.drop_case hlt HOK.out;obtain ⟨b1,o1,rfl,hb1,x1,d1,y1,f1,c10,c11,s1,n1,k1⟩:=(HA.out.below HW.out).getC HOK.out hd1;have hsz:bd.size≤n:=by
    have:=NL.drop_size k la;rw [hd1] at this;simp only [NL.size] at this;omega
   have hf1:=fit_drop k la HFIT.out;rw [hd1] at hf1;have hb0:=bel1 wr (.cells #[.slice x1 ps.length d1,.slice y1 bd.len f1] 44);have hrow:(wr.alloc (.cells #[.slice x1 ps.length d1,.slice y1 bd.len f1] 44)).heap[wr.heap.size]? = some (.cells #[.slice x1 ps.length d1,.slice y1 bd.len f1] 44 (0,0)):=heap_new' _ _;have hlt0:wr.heap.size < (wr.alloc (.cells #[.slice x1 ps.length d1,.slice y1 bd.len f1] 44)).heap.size:=by simp only [World.size_alloc];omega
   have hC1:=rightWords_any ps x1 d1 (wr.alloc (.cells #[.slice x1 ps.length d1,.slice y1 bd.len f1] 44)) (sl_below (P:=PW) (fun h=>h.below hb0) s1);have hC2:=fun w' (hb:Below wr.heap.size wr w')=>close2_any n HR.out bd hsz k1 hf1.1 d pb pf hd y1 f1 m w' (n1.below hb) (cell_below (thru HW.out hb) HM.out) (HC.out.below (thru HW.out hb));have hstep:rt la d = ((!ps.isEmpty && ps.all rightW && decide (bd.len≤1) && (allS bodyB bd && rt bd d)) && rt r1 d):=by rw [HRL.out,hd1];rfl
   have hnx:=NL.drop_succC hd1;generalize (allS bodyB bd && rt bd d) = B2 at hC2 hstep;have hHB:=fun w1 (h:Below (wr.alloc (.cells #[.slice x1 ps.length d1,.slice y1 bd.len f1] 44)).heap.size (wr.alloc (.cells #[.slice x1 ps.length d1,.slice y1 bd.len f1] 44)) w1)=>(show w1.cell? ⟨wr.heap.size,1,none⟩ = some (.slice y1 bd.len f1) from Lib.cell_of_heap ((h.block _ hlt0).trans hrow) 1);have HT:=Lib.hid hstep;have HNX:=Lib.hid hnx;have HC1:=Lib.hid hC1;have HC2:=Lib.hid hC2;have HB0:=Lib.hid hb0;have HCELL:=Lib.hid hHB;have hnle:=n1.le;clear hstep hnx hC1 hC2 hb0 hrow hlt0 n1 hd1 hf1 hHB
   by_cases he:ps.length = 0
   ·have hz:((ps.length:Int) == 0) = true:=by simp [he]
    have hpe:ps.isEmpty = true:=by
     rw [List.isEmpty_iff];exact List.length_eq_zero_iff.1 he
    have HPE:=Lib.hid hpe;clear he hpe s1 HC1 HC2;go_wp2_with fail;go_ret;exact ⟨ret_bool (by rw [HT.out,HPE.out];rfl),thru HW.out HB0.out⟩
   ·have hz:((ps.length:Int) == 0) = false:=by rw [beq_eq_false_iff_ne];omega
    have hpe:ps.isEmpty = false:=by
     cases ps with
     | nil=>exact absurd rfl he
     | cons=>rfl
    have HPE:=Lib.hid hpe;clear he hpe s1;cases hw:ps.all rightW
    ·rw [hw] at HC1 HT;clear hw;go_wp2_with (go_at_call 76;refine (HC1.out).mono ?_;rintro e w1 ⟨rfl,hb⟩);go_ret;exact ⟨ret_bool (by rw [HT.out,HPE.out];rfl),thru HW.out (thru HB0.out (by assumption))⟩
    ·rw [hw] at HC1 HT;clear hw
     by_cases h1:1 < bd.len
     ·have hgt:(1 < bd.len) = True:=by simp [h1]
      have hdl:decide (bd.len≤1) = false:=decide_eq_false (by omega);have HDL:=Lib.hid hdl;clear hdl;go_wp2_with (go_at_call 76;refine (HC1.out).mono ?_;rintro e w1 ⟨rfl,hb⟩;have q1:=HCELL.out _ hb);go_ret;exact ⟨ret_bool (by rw [HT.out,HPE.out,HDL.out];rfl),thru HW.out (thru HB0.out (by assumption))⟩
     ·have hgt:(1 < bd.len) = False:=by simp;omega
      have hdl:decide (bd.len≤1) = true:=decide_eq_true (by omega);have HDL:=Lib.hid hdl;clear hdl;cases B2
      all_goals
       go_wp2_with (first
        | (go_at_call 76;refine (HC1.out).mono ?_;rintro e w1 ⟨rfl,hb⟩;have q1:=HCELL.out _ hb;have hbb:=thru HB0.out hb)
        | (go_at_call 78;refine (HC2.out _ (by assumption)).mono ?_;rintro e w2 ⟨rfl,hb2⟩))
      ·go_ret;exact ⟨ret_bool (by rw [HT.out,HPE.out,HDL.out];rfl),thru HW.out (thru (by assumption) (by assumption))⟩
      ·go_roundw
       case rel=>exact ⟨k + 1,by omega,by go_num,by rw [HT.out,HPE.out,HDL.out,HNX.out];rfl,thru HW.out (thru (by assumption) (by assumption))⟩
       case measure=>simp [intOf];omega
  ·obtain rfl:k = la.len:=by omega
   go_wp2;go_ret;exact ⟨ret_bool (by rw [HRL.out,NL.drop_end (Nat.le_refl _)];rfl),HW.out⟩
end Tr
end Go.Proofs.YtjmpfihopeohbaaGreatDoor
