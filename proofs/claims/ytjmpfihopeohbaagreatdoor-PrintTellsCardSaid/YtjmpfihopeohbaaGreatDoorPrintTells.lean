/- PrintTells holds: for every input the law's call returns true and leaves its input as it was. Condition: the variables that its row lists read as the program's text lays them (the card ties them to it). -/
import Derived.Test.YtjmpfihopeohbaaGreatDoorQvJ
import Derived.Test.YtjmpfihopeohbaaGreatDoorRtJ
import Derived.Test.YtjmpfihopeohbaaGreatDoorQsP
import Derived.Test.YtjmpfihopeohbaaGreatDoorCards
import Derived.Test.YtjmpfihopeohbaaGreatDoorTie
set_option maxHeartbeats 3200000
set_option maxRecDepth 100000
namespace Go.Proofs.YtjmpfihopeohbaaGreatDoor
open Go.RowKit Go.Sort
namespace Tr
open Cls Pt
theorem rright_top (k:Int) (nm:ByteArray) (g:Bool) (az:List (ByteArray × PL)) (ws:List PL) (ks:NL) (bs:List Bool) (cz:NL) (x1 d1 x2 d2 x3 d3 x4 d4 x5 d5) (w:World) (htt:totN ks + totN cz≤1000000) (h:Holds w nm az ws ks bs cz x1 d1 x2 d2 x3 d3 x4 d4 x5 d5):Calls Tryz.prog 12 #[.agg (nodeV k nm g x1 az.length d1 x2 ws.length d2 x3 ks.len d3 x4 bs.length d4 x5 cz.len d5)] w fun e w'=>e = .returned (.bool (nodeR k nm g az ws ks bs cz 1))∧Below w.heap.size w w':=by
 have hR:=fun X=>rr_all (ks.size + cz.size + 1) k nm g az ws ks bs cz x1 d1 x2 d2 x3 d3 x4 d4 x5 d5 0 (w.alloc X) (Nat.lt_succ_self _) (by decide) htt (h.below (bel1 w X));rw [right_eq _ _ _ _ _ _ _ _ h.okk h.okc];unfold nodeV at hR ⊢
 have HR:=Lib.hid hR;clear hR h htt;go_enter Tryz.func12,Tryz.ntmps12;go_wp2_with (go_at_call 23;first | refine (HR.out _).mono ?_ ;rintro e w1 ⟨rfl,hb⟩);go_ret;exact ⟨rfl,thru (bel1 _ _) (by assumption)⟩
end Tr
namespace Rq
open Cls Pt Tr Pr
open Ps (ND CD toN toC nd listD)
def progX (k:Int) (nm:ByteArray) (g:Bool) (az:List (ByteArray × PL)) (ws:List PL) (ks:NL) (bs:List Bool) (cz:NL):T:=if k == 5 && nodeR k nm g az ws ks bs cz 1 then lineT (txt ks) bs else []
def comX (k:Int) (nm:ByteArray) (g:Bool) (az:List (ByteArray × PL)) (ws:List PL) (ks:NL) (bs:List Bool) (cz:NL):T:=if !(k == 5) && nodeR k nm g az ws ks bs cz 1 then tx ⟨k,nm,g,az,ws,ks,bs,cz⟩ else []
theorem line_mem {y:ND}:∀ {l:List ND} {bs:List Bool},l.length = bs.length→y ∈ l→(tx y).length≤(lineT (l.map tx) bs).length
 | [],_,_,h=>by simp at h
 | x :: r,[],h,_=>by simp at h
 | x :: r,b :: bs,hl,h=>by
  rw [List.map_cons,line_cons];simp only [List.length_append];rcases List.mem_cons.1 h with rfl | h
  ·omega
  ·have:=line_mem (bs:=bs) (by simpa using hl) h;omega
theorem rtop_no (k:Int) (nm:ByteArray) (g:Bool) (az:List (ByteArray × PL)) (ws:List PL) (ks:NL) (bs:List Bool) (cz:NL) (a1 c1 a2 c2 a3 c3 a4 c4 a5 c5) (w:World) (h:Holds w nm az ws ks bs cz a1 c1 a2 c2 a3 c3 a4 c4 a5 c5) (htt:totN ks + totN cz≤1000000) (hp:(k == 5 && nodeR k nm g az ws ks bs cz 1) = false) :
  Calls Tryz.prog 9 #[.agg #[.int .i64 k,.string nm,.bool g,.slice a1 az.length c1,.slice a2 ws.length c2,.slice a3 ks.len c3,.slice a4 bs.length c4,.slice a5 cz.len c5]] w fun e w'=>e = .returned (.string ⟨#[]⟩)∧Below w.heap.size w w':=by
 have hb1:=bel1 w (.cells #[.int .i64 k,.string nm,.bool g,.slice a1 az.length c1,.slice a2 ws.length c2,.slice a3 ks.len c3,.slice a4 bs.length c4,.slice a5 cz.len c5] 28);have hR:=rright_top k nm g az ws ks bs cz a1 c1 a2 c2 a3 c3 a4 c4 a5 c5 (w.alloc (.cells #[.int .i64 k,.string nm,.bool g,.slice a1 az.length c1,.slice a2 ws.length c2,.slice a3 ks.len c3,.slice a4 bs.length c4,.slice a5 cz.len c5] 28)) htt (h.below hb1)
 by_cases hk:k = 5
 ·subst hk;have hr:nodeR 5 nm g az ws ks bs cz 1 = false:=by simpa using hp
  rw [hr] at hR;unfold nodeV at hR;have HR:=Lib.hid hR;have HB1:=Lib.hid hb1;clear hR hb1 h htt hp hr;go_enter Tryz.func9,Tryz.ntmps9;go_wp2_with fail;refine HR.out.mono ?_;rintro e w1 ⟨rfl,hb⟩;have HB:=Lib.hid (thru HB1.out hb);clear hb;go_wp2_with fail;go_ret;exact ⟨rfl,HB.out⟩
 ·have hk1:(k != 5) = true:=by simpa using hk
  have HB1:=Lib.hid hb1;clear hR hb1 h htt hp hk;go_enter Tryz.func9,Tryz.ntmps9;go_wp2_with fail;go_ret;exact ⟨rfl,HB1.out⟩
theorem rcom_no (k:Int) (nm:ByteArray) (g:Bool) (az:List (ByteArray × PL)) (ws:List PL) (ks:NL) (bs:List Bool) (cz:NL) (a1 c1 a2 c2 a3 c3 a4 c4 a5 c5) (w:World) (h:Holds w nm az ws ks bs cz a1 c1 a2 c2 a3 c3 a4 c4 a5 c5) (htt:totN ks + totN cz≤1000000) (hp:(!(k == 5) && nodeR k nm g az ws ks bs cz 1) = false) :
  Calls Tryz.prog 11 #[.agg #[.int .i64 k,.string nm,.bool g,.slice a1 az.length c1,.slice a2 ws.length c2,.slice a3 ks.len c3,.slice a4 bs.length c4,.slice a5 cz.len c5]] w fun e w'=>e = .returned (.string ⟨#[]⟩)∧Below w.heap.size w w':=by
 have hb1:=bel1 w (.cells #[.int .i64 k,.string nm,.bool g,.slice a1 az.length c1,.slice a2 ws.length c2,.slice a3 ks.len c3,.slice a4 bs.length c4,.slice a5 cz.len c5] 28);have hR:=rright_top k nm g az ws ks bs cz a1 c1 a2 c2 a3 c3 a4 c4 a5 c5 (w.alloc (.cells #[.int .i64 k,.string nm,.bool g,.slice a1 az.length c1,.slice a2 ws.length c2,.slice a3 ks.len c3,.slice a4 bs.length c4,.slice a5 cz.len c5] 28)) htt (h.below hb1)
 by_cases hk:k = 5
 ·have hk1:(k == 5) = true:=by simpa using hk
  have HB1:=Lib.hid hb1;clear hR hb1 h htt hp hk;go_enter Tryz.func11,Tryz.ntmps11;go_wp2_with fail;go_ret;exact ⟨rfl,HB1.out⟩
 ·have hk1:(k == 5) = false:=by simpa using hk
  have hr:nodeR k nm g az ws ks bs cz 1 = false:=by simpa [hk1] using hp
  rw [hr] at hR;unfold nodeV at hR;have HR:=Lib.hid hR;have HB1:=Lib.hid hb1;clear hR hb1 h htt hp hr hk;go_enter Tryz.func11,Tryz.ntmps11;go_wp2_with fail;refine HR.out.mono ?_;rintro e w1 ⟨rfl,hb⟩;have HB:=Lib.hid (thru HB1.out hb);clear hb;go_wp2_with fail;go_ret;exact ⟨rfl,HB.out⟩
theorem rcom_yes (k:Int) (nm:ByteArray) (g:Bool) (az:List (ByteArray × PL)) (ws:List PL) (ks:NL) (bs:List Bool) (cz:NL) (a1 c1 a2 c2 a3 c3 a4 c4 a5 c5) (w:World) (h:Holds w nm az ws ks bs cz a1 c1 a2 c2 a3 c3 a4 c4 a5 c5) (htt:totN ks + totN cz≤1000000) (hk1:(k == 5) = false) (hr:nodeR k nm g az ws ks bs cz 1 = true) (hs:Small ⟨k,nm,g,az,ws,ks,bs,cz⟩) (hl:(tx ⟨k,nm,g,az,ws,ks,bs,cz⟩).length≤1000000) :
  Calls Tryz.prog 11 #[.agg #[.int .i64 k,.string nm,.bool g,.slice a1 az.length c1,.slice a2 ws.length c2,.slice a3 ks.len c3,.slice a4 bs.length c4,.slice a5 cz.len c5]] w fun e w'=>e = .returned (.string ⟨(tx ⟨k,nm,g,az,ws,ks,bs,cz⟩).toArray⟩)∧Below w.heap.size w w':=by
 obtain ⟨w1,hw1⟩:∃ w1,w1 = w.alloc (.cells #[.int .i64 k,.string nm,.bool g,.slice a1 az.length c1,.slice a2 ws.length c2,.slice a3 ks.len c3,.slice a4 bs.length c4,.slice a5 cz.len c5] 28):=⟨_,rfl⟩;have hb1:Below w.heap.size w w1:=by rw [hw1];exact bel1 _ _
 have hR:=rright_top k nm g az ws ks bs cz a1 c1 a2 c2 a3 c3 a4 c4 a5 c5 w1 htt (h.below hb1);have hW:=fun W (hb:Below w1.heap.size w1 W)=>written_all ⟨k,nm,g,az,ws,ks,bs,cz⟩ 1 ⟨by exact hr,h.okk,h.okc⟩ (by simpa using hk1) hs hl a1 c1 a2 c2 a3 c3 a4 c4 a5 c5 W (h.below (thru hb1 hb));rw [hr] at hR;unfold nodeV at hR;have hrow:w1.heap[w.heap.size]? = some (.cells #[.int .i64 k,.string nm,.bool g,.slice a1 az.length c1,.slice a2 ws.length c2,.slice a3 ks.len c3,.slice a4 bs.length c4,.slice a5 cz.len c5] 28 (0,0)):=by rw [hw1];exact heap_new' _ _
 have HR:=Lib.hid hR;have HB1:=Lib.hid hb1;have HW:=Lib.hid hW;have HW1:=Lib.hid hw1;have HROW:=Lib.hid hrow;clear hR hb1 h htt hr hs hl hW hw1 hrow;go_enter Tryz.func11,Tryz.ntmps11;go_wp2_with fail;rw [← HW1.out];refine HR.out.mono ?_;rintro e w2 ⟨rfl,hb⟩;have k0:w2.cell? ⟨w.heap.size,0,none⟩ = some (.int .i64 k):=cell_below hb (Lib.cell_of_heap HROW.out 0);have k1:w2.cell? ⟨w.heap.size,1,none⟩ = some (.string nm):=cell_below hb (Lib.cell_of_heap HROW.out 1);have k2:w2.cell? ⟨w.heap.size,2,none⟩ = some (.bool g):=cell_below hb (Lib.cell_of_heap HROW.out 2);have k3:w2.cell? ⟨w.heap.size,3,none⟩ = some (.slice a1 az.length c1):=cell_below hb (Lib.cell_of_heap HROW.out 3);have k4:w2.cell? ⟨w.heap.size,4,none⟩ = some (.slice a2 ws.length c2):=cell_below hb (Lib.cell_of_heap HROW.out 4);have k5:w2.cell? ⟨w.heap.size,5,none⟩ = some (.slice a3 ks.len c3):=cell_below hb (Lib.cell_of_heap HROW.out 5);have k6:w2.cell? ⟨w.heap.size,6,none⟩ = some (.slice a4 bs.length c4):=cell_below hb (Lib.cell_of_heap HROW.out 6);have k7:w2.cell? ⟨w.heap.size,7,none⟩ = some (.slice a5 cz.len c5):=cell_below hb (Lib.cell_of_heap HROW.out 7);have HB:=Lib.hid hb;clear hb;go_wp2_with fail;refine (HW.out _ HB.out).mono ?_;rintro e w3 ⟨rfl,hb3⟩;have HB3:=Lib.hid (thru HB1.out (thru HB.out hb3));clear hb3;go_wp2_with fail;go_ret;exact ⟨rfl,HB3.out⟩
theorem rtop_yes (nm:ByteArray) (g:Bool) (az:List (ByteArray × PL)) (ws:List PL) (ks:NL) (bs:List Bool) (cz:NL) (a1 c1 a2 c2 a3 c3 a4 c4 a5 c5) (w:World) (h:Holds w nm az ws ks bs cz a1 c1 a2 c2 a3 c3 a4 c4 a5 c5) (htt:totN ks + totN cz≤1000000) (hr:nodeR 5 nm g az ws ks bs cz 1 = true) (hk:∀ y ∈ ofN ks,WrAt y) (hbl:ks.len = bs.length) (hn:(lineT (txt ks) bs).length≤1000000) :
  Calls Tryz.prog 9 #[.agg #[.int .i64 5,.string nm,.bool g,.slice a1 az.length c1,.slice a2 ws.length c2,.slice a3 ks.len c3,.slice a4 bs.length c4,.slice a5 cz.len c5]] w fun e w'=>e = .returned (.string ⟨(lineT (txt ks) bs).toArray⟩)∧Below w.heap.size w w':=by
 obtain ⟨w1,hw1⟩:∃ w1,w1 = w.alloc (.cells #[.int .i64 5,.string nm,.bool g,.slice a1 az.length c1,.slice a2 ws.length c2,.slice a3 ks.len c3,.slice a4 bs.length c4,.slice a5 cz.len c5] 28):=⟨_,rfl⟩;have hb1:Below w.heap.size w w1:=by rw [hw1];exact bel1 _ _
 have hrow:w1.heap[w.heap.size]? = some (.cells #[.int .i64 5,.string nm,.bool g,.slice a1 az.length c1,.slice a2 ws.length c2,.slice a3 ks.len c3,.slice a4 bs.length c4,.slice a5 cz.len c5] 28 (0,0)):=by rw [hw1];exact heap_new' _ _
 have hh1:=h.below hb1;have hle:=h.hks.le;have hle2:=h.hbs.le;have hR:=rright_top 5 nm g az ws ks bs cz a1 c1 a2 c2 a3 c3 a4 c4 a5 c5 w1 htt hh1;rw [hr] at hR;unfold nodeV at hR;have HR0:=Lib.hid hR;have HKS:=Lib.hid hh1.hks;have HBS:=Lib.hid hh1.hbs;have HOK:=Lib.hid h.okk;have HK:=Lib.hid hk;have HBL:=Lib.hid hbl;have HN:=Lib.hid hn;have HROW:=Lib.hid hrow;have HB1:=Lib.hid hb1;have HW1:=Lib.hid hw1;clear h hk hbl hn hrow hb1 hh1 hw1 hR hr htt;go_enter Tryz.func9,Tryz.ntmps9;go_wp2_with fail;rw [← HW1.out];refine HR0.out.mono ?_;rintro e w2 ⟨rfl,hb⟩;have k5:w2.cell? ⟨w.heap.size,5,none⟩ = some (.slice a3 ks.len c3):=cell_below hb (Lib.cell_of_heap HROW.out 5);have HB2:=Lib.hid hb;clear hb;go_wp2
 go_loopw [17,3] (fun x y wr=>∃ (n:Nat) (s:ByteArray),n≤ks.len∧x = .int .i64 n∧y = .string s∧lineT (txt ks) bs = s.data.toList ++ lineT (txt (ks.drop n)) (bs.drop n)∧Below w1.heap.size w1 wr) (fun x y wr=>ks.len - (intOf x).toNat)
 case atStart=>exact ⟨0,⟨#[]⟩,Nat.zero_le _,rfl,rfl,rfl,HB2.out⟩
 case round =>
  obtain ⟨n,s,hn,rfl,rfl,hr,hbw⟩:=hrel;have HR:=Lib.hid hr;have HW:=Lib.hid hbw;clear hr hbw k5
  by_cases hlt:n < ks.len
  ·have hltb:n < bs.length:=by have:=HBL.out;omega
   obtain ⟨b,hp⟩:∃ b,bs[n]? = some b:=⟨_,List.getElem?_eq_getElem hltb⟩;have hdb:bs.drop n = b :: bs.drop (n + 1):=by
    rw [List.drop_eq_getElem_cons hltb];rw [List.getElem?_eq_getElem hltb] at hp;injection hp with hp;rw [hp]
   obtain ⟨b4,o4,rfl,hc4⟩:=HBS.out.get hp;rw [Nat.mul_one] at hc4;obtain ⟨k1,nm1,g1,az1,ws1,ks1,bs1,cz1,r,hd1⟩:=NL.drop_node hlt HOK.out;obtain ⟨b1,o1,rfl,hb1,x11,d11,x12,d12,x13,d13,x14,d14,x15,d15,hc1,hh1⟩:=HKS.out.getN HOK.out hd1;have c10:wr.cell? ⟨b1,o1 + n * 8,none⟩ = some (.int .i64 k1):=cell_below HW.out (hc1 0 _ rfl);have c11:wr.cell? ⟨b1,o1 + n * 8 + 1,none⟩ = some (.string nm1):=cell_below HW.out (hc1 1 _ rfl);have c12:wr.cell? ⟨b1,o1 + n * 8 + 2,none⟩ = some (.bool g1):=cell_below HW.out (hc1 2 _ rfl);have c13:wr.cell? ⟨b1,o1 + n * 8 + 3,none⟩ = some (.slice x11 az1.length d11):=cell_below HW.out (hc1 3 _ rfl);have c14:wr.cell? ⟨b1,o1 + n * 8 + 4,none⟩ = some (.slice x12 ws1.length d12):=cell_below HW.out (hc1 4 _ rfl);have c15:wr.cell? ⟨b1,o1 + n * 8 + 5,none⟩ = some (.slice x13 ks1.len d13):=cell_below HW.out (hc1 5 _ rfl);have c16:wr.cell? ⟨b1,o1 + n * 8 + 6,none⟩ = some (.slice x14 bs1.length d14):=cell_below HW.out (hc1 6 _ rfl);have c17:wr.cell? ⟨b1,o1 + n * 8 + 7,none⟩ = some (.slice x15 cz1.len d15):=cell_below HW.out (hc1 7 _ rfl);have hC:=HK.out _ (Pw.ofN_drop HOK.out hd1) x11 d11 x12 d12 x13 d13 x14 d14 x15 d15 (wr.alloc (.cells #[.int .i64 k1,.string nm1,.bool g1,.slice x11 az1.length d11,.slice x12 ws1.length d12,.slice x13 ks1.len d13,.slice x14 bs1.length d14,.slice x15 cz1.len d15] 28)) (hh1.below (thru HW.out (bel1 _ _)));dsimp only at hC;have hstep:lineT (txt ks) bs = (s.data.toList ++ tx ⟨k1,nm1,g1,az1,ws1,ks1,bs1,cz1⟩ ++ endT b) ++ lineT (txt (ks.drop (n + 1))) (bs.drop (n + 1)):=by
    rw [HR.out,NL.drop_succN hd1,hd1,hdb];simp only [txt,line_cons,List.append_assoc];rfl
   have hlen:=congrArg List.length hstep;have hN:=HN.out;simp only [List.length_append] at hlen;obtain ⟨t,ht⟩:∃ t:ByteArray,t = ⟨(tx ⟨k1,nm1,g1,az1,ws1,ks1,bs1,cz1⟩).toArray⟩:=⟨_,rfl⟩;have htl:t.data.toList = tx ⟨k1,nm1,g1,az1,ws1,ks1,bs1,cz1⟩:=by rw [ht]
   rw [← ht] at hC;rw [← htl] at hstep hlen;have hs1:=size_l s;have hs2:=size_l t;have hln:(endT b).length≤3:=by cases b <;> decide
   have g1:¬ 9223372036854775807 < s.size + t.size:=by omega
   have g2:¬ 9223372036854775807 < s.size + t.size + 2 + 1:=by omega
   have g3:¬ 9223372036854775807 < s.size + t.size + 2:=by omega
   have g5:¬ 9223372036854775807 < s.size + t.size + 1:=by omega
   have g4:(s ++ t).size = s.size + t.size:=by simp
   have HT:=Lib.hid hstep;have HC:=Lib.hid hC;have HC4:=Lib.hid hc4;clear hc1 hh1 hd1 hdb hp hC hstep ht htl hlen hN hs1 hs2 hln hc4 hb1;go_wp2_with fail;refine HC.out.mono ?_;rintro e w2 ⟨rfl,hb2⟩;have hb12:=thru HW.out (thru (bel1 wr _) hb2);have k6:w2.cell? ⟨w.heap.size,6,none⟩ = some (.slice (some ⟨b4,o4,none⟩) bs.length c4):=cell_below hb12 (Lib.cell_of_heap HROW.out 6);have k4:=cell_below hb12 HC4.out;have HB12:=Lib.hid hb12;clear hb2 hb12;cases b
   ·go_wp2_with fail;go_roundw
    case rel=>exact ⟨n + 1,s ++ t ++ ⟨#[10]⟩,by omega,by go_num,rfl,by rw [HT.out,app_l,app_l];rfl,HB12.out⟩
    case measure=>simp [intOf];omega
   ·go_wp2_with fail;go_roundw
    case rel=>exact ⟨n + 1,s ++ t ++ ⟨#[32,38]⟩ ++ ⟨#[10]⟩,by omega,by go_num,rfl,by rw [HT.out,app_l,app_l,app_l];simp [endT,List.append_assoc],HB12.out⟩
    case measure=>simp [intOf];omega
  ·obtain rfl:n = ks.len:=by omega
   have hfin:s.data.toList = lineT (txt ks) bs:=by rw [HR.out,NL.drop_end (Nat.le_refl _)];simp [txt,lineT]
   have HFI:=Lib.hid hfin;clear hfin;go_wp2;go_ret;exact ⟨of_l HFI.out,thru HB1.out HW.out⟩
end Rq
end Go.Proofs.YtjmpfihopeohbaaGreatDoor
namespace Go.Proofs.YtjmpfihopeohbaaGreatDoor
open Go.RowKit Go.Sort
namespace Rq
open Cls Pt Tr Pr
open Ps (ND CD toN toC nd listD)
theorem ptop_any (k:Int) (nm:ByteArray) (g:Bool) (az:List (ByteArray × PL)) (ws:List PL) (ks:NL) (bs:List Bool) (cz:NL) (a1 c1 a2 c2 a3 c3 a4 c4 a5 c5) (m:Int) (w:World) (h:Holds w nm az ws ks bs cz a1 c1 a2 c2 a3 c3 a4 c4 a5 c5) (htt:totX nm az ws ks bs cz≤5000) (hm:w.cell? ⟨0,0,none⟩ = some (.int .i64 m)) :
  Calls Tryz.prog 8 #[.agg #[.int .i64 k,.string nm,.bool g,.slice a1 az.length c1,.slice a2 ws.length c2,.slice a3 ks.len c3,.slice a4 bs.length c4,.slice a5 cz.len c5]] w fun e w'=>e = .returned (.string ⟨(progX k nm g az ws ks bs cz).toArray⟩)∧Below w.heap.size w w':=by
 have ht:=htt;unfold totX at ht;cases hp:(k == 5 && nodeR k nm g az ws ks bs cz 1) with
 | false =>
  unfold progX;rw [hp];exact ptop_no k nm g az ws ks bs cz a1 c1 a2 c2 a3 c3 a4 c4 a5 c5 m w h (wsB_ok (by omega)) (fit_tot (by omega)) (fit_tot (by omega)) hm hp
 | true =>
  unfold progX;rw [hp];obtain ⟨hk,hr⟩:k = 5∧nodeR k nm g az ws ks bs cz 1 = true:=by simpa using hp
  subst hk;have hx:W ⟨5,nm,g,az,ws,ks,bs,cz⟩ 1:=⟨by exact hr,h.okk,h.okc⟩;obtain ⟨l,e,h1,h2,h3⟩:=inv_5 hx rfl;have hks:ks = toN l:=congrArg ND.ks e;have h1:l.length = bs.length:=h1;have hbl:ks.len = bs.length:=by rw [hks,Ps.toN_len];exact h1
  have hll:=line_most nm az ws ks bs cz
  exact Pw.text_program nm g az ws ks bs cz a1 c1 a2 c2 a3 c3 a4 c4 a5 c5 m w h (wsB_ok (by omega)) (fit_tot (by omega)) (fit_tot (by omega)) hm hr (fun y hy=>by
   rw [hks,Pw.ofN_toN] at hy
   exact ⟨1,(h3 y hy).2.1⟩) hbl (by omega)
theorem rtop_any (k:Int) (nm:ByteArray) (g:Bool) (az:List (ByteArray × PL)) (ws:List PL) (ks:NL) (bs:List Bool) (cz:NL) (a1 c1 a2 c2 a3 c3 a4 c4 a5 c5) (w:World) (h:Holds w nm az ws ks bs cz a1 c1 a2 c2 a3 c3 a4 c4 a5 c5) (htt:totX nm az ws ks bs cz≤5000) :
  Calls Tryz.prog 9 #[.agg #[.int .i64 k,.string nm,.bool g,.slice a1 az.length c1,.slice a2 ws.length c2,.slice a3 ks.len c3,.slice a4 bs.length c4,.slice a5 cz.len c5]] w fun e w'=>e = .returned (.string ⟨(progX k nm g az ws ks bs cz).toArray⟩)∧Below w.heap.size w w':=by
 have ht:=htt;unfold totX at ht;cases hp:(k == 5 && nodeR k nm g az ws ks bs cz 1) with
 | false =>
  unfold progX;rw [hp];exact rtop_no k nm g az ws ks bs cz a1 c1 a2 c2 a3 c3 a4 c4 a5 c5 w h (by omega) hp
 | true =>
  unfold progX;rw [hp];obtain ⟨hk,hr⟩:k = 5∧nodeR k nm g az ws ks bs cz 1 = true:=by simpa using hp
  subst hk;have hx:W ⟨5,nm,g,az,ws,ks,bs,cz⟩ 1:=⟨by exact hr,h.okk,h.okc⟩;obtain ⟨l,e,h1,h2,h3⟩:=inv_5 hx rfl;have hks:ks = toN l:=congrArg ND.ks e;have h1:l.length = bs.length:=h1;have hbl:ks.len = bs.length:=by rw [hks,Ps.toN_len];exact h1
  have hll:=line_most nm az ws ks bs cz;refine rtop_yes nm g az ws ks bs cz a1 c1 a2 c2 a3 c3 a4 c4 a5 c5 w h (by omega) hr (fun y hy=>?_) hbl (by omega);rw [hks,Pw.ofN_toN] at hy;obtain ⟨i1,i2,_⟩:=h3 y hy;have hm:=small_mem hy;have hm2:=line_mem h1 hy;rw [← Pr.txt_toN,← hks] at hm2;rw [← hks] at hm;exact written_all y 1 i2 (not_list i1) (by unfold Small;omega) (by omega)
theorem pcom_any (k:Int) (nm:ByteArray) (g:Bool) (az:List (ByteArray × PL)) (ws:List PL) (ks:NL) (bs:List Bool) (cz:NL) (a1 c1 a2 c2 a3 c3 a4 c4 a5 c5) (m:Int) (w:World) (h:Holds w nm az ws ks bs cz a1 c1 a2 c2 a3 c3 a4 c4 a5 c5) (htt:totX nm az ws ks bs cz≤5000) (hm:w.cell? ⟨0,0,none⟩ = some (.int .i64 m)) :
  Calls Tryz.prog 10 #[.agg #[.int .i64 k,.string nm,.bool g,.slice a1 az.length c1,.slice a2 ws.length c2,.slice a3 ks.len c3,.slice a4 bs.length c4,.slice a5 cz.len c5]] w fun e w'=>e = .returned (.string ⟨(comX k nm g az ws ks bs cz).toArray⟩)∧Below w.heap.size w w':=by
 have ht:=htt;unfold totX at ht;cases hp:(!(k == 5) && nodeR k nm g az ws ks bs cz 1) with
 | false =>
  unfold comX;rw [hp];exact pcom_no k nm g az ws ks bs cz a1 c1 a2 c2 a3 c3 a4 c4 a5 c5 m w h (wsB_ok (by omega)) (fit_tot (by omega)) (fit_tot (by omega)) hm hp
 | true =>
  unfold comX;rw [hp];obtain ⟨hk,hr⟩:(k == 5) = false∧nodeR k nm g az ws ks bs cz 1 = true:=by simpa using hp
  have hll:(tx ⟨k,nm,g,az,ws,ks,bs,cz⟩).length≤30 * totX nm az ws ks bs cz:=tx_most ⟨k,nm,g,az,ws,ks,bs,cz⟩;exact pcom_yes k nm g az ws ks bs cz a1 c1 a2 c2 a3 c3 a4 c4 a5 c5 m w h (wsB_ok (by omega)) (fit_tot (by omega)) (fit_tot (by omega)) hm hk hr (by omega)
theorem rcom_any (k:Int) (nm:ByteArray) (g:Bool) (az:List (ByteArray × PL)) (ws:List PL) (ks:NL) (bs:List Bool) (cz:NL) (a1 c1 a2 c2 a3 c3 a4 c4 a5 c5) (w:World) (h:Holds w nm az ws ks bs cz a1 c1 a2 c2 a3 c3 a4 c4 a5 c5) (htt:totX nm az ws ks bs cz≤5000) :
  Calls Tryz.prog 11 #[.agg #[.int .i64 k,.string nm,.bool g,.slice a1 az.length c1,.slice a2 ws.length c2,.slice a3 ks.len c3,.slice a4 bs.length c4,.slice a5 cz.len c5]] w fun e w'=>e = .returned (.string ⟨(comX k nm g az ws ks bs cz).toArray⟩)∧Below w.heap.size w w':=by
 have ht:=htt;unfold totX at ht;cases hp:(!(k == 5) && nodeR k nm g az ws ks bs cz 1) with
 | false =>
  unfold comX;rw [hp];exact rcom_no k nm g az ws ks bs cz a1 c1 a2 c2 a3 c3 a4 c4 a5 c5 w h (by omega) hp
 | true =>
  unfold comX;rw [hp];obtain ⟨hk,hr⟩:(k == 5) = false∧nodeR k nm g az ws ks bs cz 1 = true:=by simpa using hp
  have hll:(tx ⟨k,nm,g,az,ws,ks,bs,cz⟩).length≤30 * totX nm az ws ks bs cz:=tx_most ⟨k,nm,g,az,ws,ks,bs,cz⟩;exact rcom_yes k nm g az ws ks bs cz a1 c1 a2 c2 a3 c3 a4 c4 a5 c5 w h (by omega) hk hr (by show azB az + wsB ws + totN ks + totN cz≤100000;omega) (by omega)
end Rq
end Go.Proofs.YtjmpfihopeohbaaGreatDoor
namespace Go.Proofs.YtjmpfihopeohbaaGreatDoor
open Go.RowKit Go.Sort
namespace Rq
open Cls Pt Tr Pr
open Ps (ND CD toN toC nd listD)
def aliveT:T:=[105,102,32,97,59,32,116,104,101,110,32,98,32,38,32,102,105,10]
theorem alive_text (m:Int) (w:World) (hm:w.cell? ⟨0,0,none⟩ = some (.int .i64 m)) (a1 c1 a2 c2 a3 c3 a4 c4 a5 c5) (h:Holds w Ps.aliveX.nm Ps.aliveX.az Ps.aliveX.ws Ps.aliveX.ks Ps.aliveX.bs Ps.aliveX.cz a1 c1 a2 c2 a3 c3 a4 c4 a5 c5) :
  Calls Tryz.prog 8 #[.agg #[.int .i64 Ps.aliveX.k,.string Ps.aliveX.nm,.bool Ps.aliveX.g,.slice a1 Ps.aliveX.az.length c1,.slice a2 Ps.aliveX.ws.length c2,.slice a3 Ps.aliveX.ks.len c3,.slice a4 Ps.aliveX.bs.length c4,.slice a5 Ps.aliveX.cz.len c5]] w fun e w'=>e = .returned (.string ⟨aliveT.toArray⟩)∧Below w.heap.size w w':=by
 have hc:=ptop_any Ps.aliveX.k Ps.aliveX.nm Ps.aliveX.g Ps.aliveX.az Ps.aliveX.ws Ps.aliveX.ks Ps.aliveX.bs Ps.aliveX.cz a1 c1 a2 c2 a3 c3 a4 c4 a5 c5 m w h (of_decide_eq_true (by kernel_rfl)) hm;rw [show progX Ps.aliveX.k Ps.aliveX.nm Ps.aliveX.g Ps.aliveX.az Ps.aliveX.ws Ps.aliveX.ks Ps.aliveX.bs Ps.aliveX.cz = aliveT by kernel_rfl] at hc;exact hc
theorem alive_any (m:Int) (w:World) (hm:w.cell? ⟨0,0,none⟩ = some (.int .i64 m)) :
  Calls Tryz.prog 6 #[] w fun e w'=>e = .returned (.bool true)∧Below w.heap.size w w':=by
 have h1:=fun w' (hb:Below w.heap.size w w')=>Ps.parse_alive m w' (cell_below hb hm);have h2:=fun w' (hb:Below w.heap.size w w')=>alive_text m w' (cell_below hb hm);generalize Ps.aliveX = x at h1 h2;generalize Lx.tokAt Ps.aliveS 15 = q at h1;have H1:=Lib.hid h1;have H2:=Lib.hid h2;unfold Ps.aliveS at H1;unfold aliveT at H2;clear h1 h2 hm;go_enter Tryz.func6,Tryz.ntmps6;go_wp2_with fail;refine (H1.out _ (Below.refl _ _)).mono ?_;rintro e w1 ⟨hb1,a1,c1,a2,c2,a3,c3,a4,c4,a5,c5,rfl,hh⟩;have hv:(Ps.nvs x a1 c1 a2 c2 a3 c3 a4 c4 a5 c5).toArray = #[.int .i64 x.k,.string x.nm,.bool x.g,.slice a1 x.az.length c1,.slice a2 x.ws.length c2,.slice a3 x.ks.len c3,.slice a4 x.bs.length c4,.slice a5 x.cz.len c5]:=rfl;rw [hv];have HB1:=Lib.hid hb1;have HH:=Lib.hid hh;clear hb1 hh hv;go_wp2_with fail;refine (H2.out _ (thru HB1.out (bel1 _ _)) _ _ _ _ _ _ _ _ _ _ (HH.out.below (bel1 _ _))).mono ?_;rintro e w2 ⟨rfl,hb2⟩;have HB2:=Lib.hid (thru HB1.out (thru (bel1 _ _) hb2));clear hb2;go_wp2_with fail;go_ret;exact ⟨rfl,HB2.out⟩
theorem tells_law (k:Int) (nm:ByteArray) (g:Bool) (az:List (ByteArray × PL)) (ws:List PL) (ks:NL) (bs:List Bool) (cz:NL) (a1 c1 a2 c2 a3 c3 a4 c4 a5 c5) (m:Int) (w:World) (h:Holds w nm az ws ks bs cz a1 c1 a2 c2 a3 c3 a4 c4 a5 c5) (hm:w.cell? ⟨0,0,none⟩ = some (.int .i64 m)) :
  Calls Tryz.prog 3 #[.agg #[.int .i64 k,.string nm,.bool g,.slice a1 az.length c1,.slice a2 ws.length c2,.slice a3 ks.len c3,.slice a4 bs.length c4,.slice a5 cz.len c5]] w fun e w'=>e = .returned (.bool true)∧Below w.heap.size w w':=by
 obtain ⟨w1,hw1⟩:∃ w1,w1 = w.alloc (.cells #[.int .i64 k,.string nm,.bool g,.slice a1 az.length c1,.slice a2 ws.length c2,.slice a3 ks.len c3,.slice a4 bs.length c4,.slice a5 cz.len c5] 28):=⟨_,rfl⟩;have hb1:Below w.heap.size w w1:=by rw [hw1];exact bel1 _ _
 have hrow:w1.heap[w.heap.size]? = some (.cells #[.int .i64 k,.string nm,.bool g,.slice a1 az.length c1,.slice a2 ws.length c2,.slice a3 ks.len c3,.slice a4 bs.length c4,.slice a5 cz.len c5] 28 (0,0)):=by rw [hw1];exact heap_new' _ _
 have hh1:=h.below hb1;have hm1:=cell_below hb1 hm;have HAL:=Lib.hid (alive_any m w1 hm1);have HB1:=Lib.hid hb1;have HH:=Lib.hid hh1;have HM:=Lib.hid hm1;have HW1:=Lib.hid hw1;have HROW:=Lib.hid hrow;clear h hm hb1 hh1 hm1 hw1 hrow;have HK:=Lib.hid (fun W (hb:Below w1.heap.size w1 W)=>(⟨cell_below hb (Lib.cell_of_heap HROW.out 0),cell_below hb (Lib.cell_of_heap HROW.out 1),cell_below hb (Lib.cell_of_heap HROW.out 2),cell_below hb (Lib.cell_of_heap HROW.out 3),cell_below hb (Lib.cell_of_heap HROW.out 4),cell_below hb (Lib.cell_of_heap HROW.out 5),cell_below hb (Lib.cell_of_heap HROW.out 6),cell_below hb (Lib.cell_of_heap HROW.out 7)⟩:W.cell? ⟨w.heap.size,0,none⟩ = some (.int .i64 k)∧W.cell? ⟨w.heap.size,1,none⟩ = some (.string nm)∧W.cell? ⟨w.heap.size,2,none⟩ = some (.bool g)∧W.cell? ⟨w.heap.size,3,none⟩ = some (.slice a1 az.length c1)∧W.cell? ⟨w.heap.size,4,none⟩ = some (.slice a2 ws.length c2)∧W.cell? ⟨w.heap.size,5,none⟩ = some (.slice a3 ks.len c3)∧W.cell? ⟨w.heap.size,6,none⟩ = some (.slice a4 bs.length c4)∧W.cell? ⟨w.heap.size,7,none⟩ = some (.slice a5 cz.len c5)));clear HROW;go_enter Tryz.func3,Tryz.ntmps3;go_wp2_with fail;rw [← HW1.out];refine HAL.out.mono ?_;rintro e w2 ⟨rfl,hb⟩;obtain ⟨k0,k1,k2,k3,k4,k5,k6,k7⟩:=HK.out _ hb;have hW:=weight_at (ks.size + cz.size + 1) k nm g az ws ks bs cz a1 c1 a2 c2 a3 c3 a4 c4 a5 c5 0 w2 (Nat.lt_succ_self _) (by omega) (HH.out.below hb);unfold nodeV at hW;have HWT:=Lib.hid hW;have HB:=Lib.hid hb;clear hW hb;go_wp2_with fail;refine HWT.out.mono ?_;rintro e w3 ⟨⟨v,rfl,hv,ht⟩,hb3⟩;have HB3:=Lib.hid (thru HB.out hb3);clear hb3 k0 k1 k2 k3 k4 k5 k6 k7
 by_cases hbig:5000 < v
 ·have hbI:((v:Int) > 5000) = True:=by simp;omega
  have hbJ:(5000 < (v:Int)) = True:=by simp;omega
  clear hbig hv ht;go_wp2_with fail;go_ret;exact ⟨rfl,thru HB1.out HB3.out⟩
 ·have htt:totX nm az ws ks bs cz≤5000:=by have:=ht (by omega);omega
  have hbI:((v:Int) > 5000) = False:=by simp;omega
  have hbJ:(5000 < (v:Int)) = False:=by simp;omega
  have cc1:=fun W (hb:Below w1.heap.size w1 W)=>ptop_any k nm g az ws ks bs cz a1 c1 a2 c2 a3 c3 a4 c4 a5 c5 m W (HH.out.below hb) htt (cell_below hb HM.out);have cc2:=fun W (hb:Below w1.heap.size w1 W)=>rtop_any k nm g az ws ks bs cz a1 c1 a2 c2 a3 c3 a4 c4 a5 c5 W (HH.out.below hb) htt;have cc3:=fun W (hb:Below w1.heap.size w1 W)=>pcom_any k nm g az ws ks bs cz a1 c1 a2 c2 a3 c3 a4 c4 a5 c5 m W (HH.out.below hb) htt (cell_below hb HM.out);have cc4:=fun W (hb:Below w1.heap.size w1 W)=>rcom_any k nm g az ws ks bs cz a1 c1 a2 c2 a3 c3 a4 c4 a5 c5 W (HH.out.below hb) htt;generalize (⟨(progX k nm g az ws ks bs cz).toArray⟩:ByteArray) = P at cc1 cc2;generalize (⟨(comX k nm g az ws ks bs cz).toArray⟩:ByteArray) = Q at cc3 cc4;have hp:(P.toList == P.toList) = true:=beq_self_eq_true _;have hq:(Q.toList == Q.toList) = true:=beq_self_eq_true _;have C1:=Lib.hid (fun dd os=>Calls.regrown_of (cc1 (grow (redrawn w3 dd) os) (thru HB3.out (below_regrown _ dd os))));have C2:=Lib.hid (fun dd os=>Calls.regrown_of (cc2 (grow (redrawn w3 dd) os) (thru HB3.out (below_regrown _ dd os))));have C3:=Lib.hid (fun dd os=>Calls.regrown_of (cc3 (grow (redrawn w3 dd) os) (thru HB3.out (below_regrown _ dd os))));have C4:=Lib.hid (fun dd os=>Calls.regrown_of (cc4 (grow (redrawn w3 dd) os) (thru HB3.out (below_regrown _ dd os))));clear cc1 cc2 cc3 cc4 hbig hv ht htt;obtain ⟨k0,k1,k2,k3,k4,k5,k6,k7⟩:=HK.out _ HB3.out;have q0:=cell_regrown k0;have q1:=cell_regrown k1;have q2:=cell_regrown k2;have q3:=cell_regrown k3;have q4:=cell_regrown k4;have q5:=cell_regrown k5;have q6:=cell_regrown k6;have q7:=cell_regrown k7;clear k0 k1 k2 k3 k4 k5 k6 k7;go_wp2_with fail;refine Qu.region (by kernel_rfl) (by kernel_rfl) ?_
  repeat (first
   | (first | refine Qu.carry0 rfl (fun K hK=>?_) | refine Qu.carryG rfl rfl rfl (fun K hK=>?_)
      go_simp
      first
      | (refine hK _ ?_;clear hK K)
      | (apply Exists.intro;refine ⟨fun _=>?_,hK _ ?_⟩;(first | (go_at_call 8;exact C1.out _ _) | (go_at_call 9;exact C2.out _ _) | (go_at_call 10;exact C3.out _ _) | (go_at_call 11;exact C4.out _ _));clear hK K))
   | (refine Qu.passG rfl rfl rfl (fun K hK=>?_);go_simp;refine hK _ ?_;clear hK K))
  refine Qu.fin ?_;rintro ⟨dq,osq⟩;go_wp2_with fail;go_ret;exact ⟨rfl,thru HB1.out (thru HB3.out (below_regrown _ dq osq))⟩
end Rq
end Go.Proofs.YtjmpfihopeohbaaGreatDoor
namespace Go.Proofs.YtjmpfihopeohbaaGreatDoor
open Go.RowKit Go.WideShapes Go.ChangeShapes Go.ChangeAt
open Go.ChangeMaps (open_string shut_string)
namespace PrintTls
theorem own:ownKnob Tryz.prog.godebug = none:=by kernel_rfl
theorem laidOut:laidOutB Tryz.prog = true:=by kernel_rfl
theorem lifted (os:Os) (started:os.Started) (H:Type) (enc:TypeId × Value→H) :
  ReturnsInHanded {} Tryz.checked os 3 .any (fun w args=>(Rows.printTellsSpec.pre enc Tryz.prog Tryz.f3 [] false w args∧laidMetH Tryz.prog Rows.printTellsRow.laid w)∧sizedMet enc Tryz.prog Tryz.f3 (OpenSpec.ofChange Rows.printTellsSpec) false w args)
   (Rows.printTellsSpec.post enc Tryz.prog Tryz.f3 false true false false):=by
 refine Law.handed_shaped (C:=Tryz.checked) (X:=fun w _=>laidMetH Tryz.prog Rows.printTellsRow.laid w) own started (by kernel_rfl) Tryz.func3
  (ChangeSpec.witness_shaped (enc:=enc) (C:=Tryz.checked) (os:=os) (X:=fun w _=>laidMetH Tryz.prog Rows.printTellsRow.laid w) false (World.laidAll Tryz.prog os Rows.printTellsRow.laid) #[.agg #[.int .i64 0,.string ⟨#[]⟩,.bool false,.slice none 0 0,.slice none 0 0,.slice none 0 0,.slice none 0 0,.slice none 0 0]] 8 (World.laidAll_os _ _ _)
   (World.shaped_of_ZipB (by kernel_rfl) (by kernel_rfl)) (by kernel_rfl) (by kernel_rfl) (by kernel_rfl)
   (by rw [MakeChecks.laidMetH_plain _ _ _ (by kernel_rfl)];exact laidMet_laidAll _ (by kernel_rfl) (by kernel_rfl))) ?_
 intro W base args ds gs before hval0 hW hz hsh;obtain ⟨m,hm⟩:=Law.maxLen_some hsh;have hval:∀ (j:Nat) t v,Tryz.f3.params[j]? = some t→args[j]? = some v→Value.okWide Tryz.prog W .any base t v:=hval0;have hW':=hW;obtain ⟨p,q,hA0,hV,rfl,hfz,hnd⟩:=hW;have hA:DataW.TrodAll enc Tryz.prog W 0 (fun _=>true) true Tryz.f3.params.toList args.toList ds p:=hA0;rw [Tryz.params3] at hA hval hz;obtain ⟨v0,vs0,d0,ds0,p0,q0,hargs,rfl,rfl,h0,r0⟩:=trodAll_cons hA;obtain ⟨rfl,rfl,rfl⟩:=trodAll_nil r0;obtain rfl:args = #[v0]:=by cases args;simp_all
 obtain ⟨rfl,rfl⟩:=trodVars_none hV;have hw0:∀ n ∈ d0.weights Tryz.prog 28,n≤Pt.R:=fun n hn=>by
  have:=List.all_eq_true.1 hz n (DataW.weights_mem_each (j:=0) rfl rfl n hn);rw [show Pt.R = reachBytes from rfl];simpa using this
 obtain ⟨cs,k,nm,g,az,ws,ks,bs,cz,rfl,hi⟩:=Tr.node_arg (hval 0 28 v0 rfl rfl) h0 hw0;obtain ⟨a1,c1,a2,c2,a3,c3,a4,c4,a5,c5,hcs,hh⟩:=hi;obtain rfl:cs = Tr.nodeV k nm g a1 az.length c1 a2 ws.length c2 a3 ks.len c3 a4 bs.length c4 a5 cz.len c5:=Array.ext' hcs;refine (Rq.tells_law k nm g az ws ks bs cz a1 c1 a2 c2 a3 c3 a4 c4 a5 c5 m W hh hm).mono fun e W' ⟨he,hb⟩=>?_;subst he;exact ⟨_,rfl,Law.post (tb:=4) laidOut (by kernel_rfl) (by kernel_rfl) Tryz.underlying4 rfl hW' rfl hb⟩
theorem bare:Rows.PrintTellsSaid :=
 OpenClaim.holds_of_wide 3 Tryz.f3 rfl rfl rfl rfl rfl rfl rfl ⟨rfl,rfl,rfl,rfl,rfl⟩ rfl rfl rfl rfl rfl (by kernel_rfl) Tryz.func3 (by kernel_rfl)
  (of_decide_eq_true (by kernel_rfl)) (by unfold Func.isWrapper;first | (rw [if_pos (by decide +kernel)];kernel_rfl) | (rw [if_neg (by decide +kernel)];exact ⟨rfl,rfl⟩))
  (fun os started H enc _=>lifted os started H enc)
theorem plain (f:FuncId) (fn:Func) (hf:Tryz.pinned.checked.prog.funcNamed Rows.printTellsRow.func = some f) (hfn:Tryz.pinned.checked.prog.funcs[f]? = some fn) :
  true = Tryz.pinned.checked.prog.looks []∧∀ (j:Nat) t,fn.params[j]? = some t→Tryz.pinned.checked.prog.wantsStandIn t = false:=by
 obtain rfl:f = 3:=Option.some.inj ((show Tryz.prog.funcNamed Rows.printTellsRow.func = some 3 by kernel_rfl).symm.trans hf) |>.symm;obtain rfl:fn = Tryz.f3:=(Option.some.inj (Tryz.func3.symm.trans hfn)).symm;refine ⟨by kernel_rfl,fun j t ht=>?_⟩;have hm:t ∈ Tryz.f3.params.toList:=by simpa using Array.mem_of_getElem? ht
 have hall:(Tryz.f3.params.toList.all fun u=>!Tryz.prog.wantsStandIn u) = true:=by kernel_rfl
 exact (show Tryz.prog.wantsStandIn t = false by simpa using List.all_eq_true.1 hall t hm)
theorem card:Rows.PrintTellsCardSaid :=
 Claim7.holds_tied_plain_at .later [] _ _ _ _ bare (fun _ h=>by cases h) (by kernel_rfl) (fun _ h=>by cases h) printTells_row_tie rfl ⟨rfl,rfl⟩ (by kernel_rfl) rfl plain (by kernel_rfl)
end PrintTls
end Go.Proofs.YtjmpfihopeohbaaGreatDoor
