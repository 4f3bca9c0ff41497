/- rightAt for a simple command, a loop over words, cases, a function, and what is no kind. -/
import Derived.Test.YtckakkeejekibaaGreatDoorTrL
set_option maxHeartbeats 1600000
set_option maxRecDepth 100000
namespace Go.Proofs.YtckakkeejekibaaGreatDoor
open Go.RowKit Go.Sort
namespace Tr
open j6 Pt
theorem Ta (n:Nat) (hR:eu n) (nm:ByteArray) (g:Bool) (az:List (ByteArray × PL)) (ws:List PL) (ks:NL) (bs:List Bool) (cz:NL) (x1 d1 x2 d2 x3 d3 x4 d4 x5 d5) (d:Nat) (m:Int) (w:World) (hks:ks.size≤n) (hcs:cz.size≤n) (hd:d≤201) (h:Holds w nm az ws ks bs cz x1 d1 x2 d2 x3 d3 x4 d4 x5 d5) (fO:∀ l ∈ ws,ui l) (jd:fB ks) (kF:fB cz) (hm:w.cell? ⟨0,0,none⟩ = some (.int .i64 m)) (ho:ownB 1 nm g az ws ks bs cz = true) :
  Calls Tryz.prog 46 #[.agg (aJ 1 nm g x1 az.length d1 x2 ws.length d2 x3 ks.len d3 x4 bs.length d4 x5 cz.len d5),.int .i64 d] w fun e w'=>e = .returned (.bool (aW 1 nm g az ws ks bs cz d))∧Below w.heap.size w w':=by
 have fT:aW 1 nm g az ws ks bs cz d = kindB 1 nm g az ws ks bs (rt ks (d)) (rt cz (d)):=by
  unfold aW;rw [show fC 1 d = false from rfl,ho];rfl
 have au:(w.alloc (.cells #[.int .i64 1,.string nm,.bool g,.slice x1 az.length d1,.slice x2 ws.length d2,.slice x3 ks.len d3,.slice x4 bs.length d4,.slice x5 cz.len d5] 28)).heap[w.heap.size]? = some (.cells #[.int .i64 1,.string nm,.bool g,.slice x1 az.length d1,.slice x2 ws.length d2,.slice x3 ks.len d3,.slice x4 bs.length d4,.slice x5 cz.len d5] 28 (0,0)):=ay _ _;have eO:w.heap.size < (w.alloc (.cells #[.int .i64 1,.string nm,.bool g,.slice x1 az.length d1,.slice x2 ws.length d2,.slice x3 ks.len d3,.slice x4 bs.length d4,.slice x5 cz.len d5] 28)).heap.size:=by simp only [zd];omega
 have dw:=iY 1 nm g az ws ks bs cz x1 d1 x2 d2 x3 d3 x4 d4 x5 d5 (w.alloc (.cells #[.int .i64 1,.string nm,.bool g,.slice x1 az.length d1,.slice x2 ws.length d2,.slice x3 ks.len d3,.slice x4 bs.length d4,.slice x5 cz.len d5] 28)) (h.below (ax w _));unfold aJ at dw;rw [ho] at dw;have j4:=fun w=>dm 1 w;rw [show bQ 1 = false from rfl] at j4;have aY:=kq au;have eG:=kq eO;have fP:=kq (ax w (.cells #[.int .i64 1,.string nm,.bool g,.slice x1 az.length d1,.slice x2 ws.length d2,.slice x3 ks.len d3,.slice x4 bs.length d4,.slice x5 cz.len d5] 28));have dP:=kq dw;have nC:=kq j4;clear au eO dw j4;have lZ:=fun w=>di 1 d (by omega) w;rw [show gp 1 d = d from rfl] at lZ;have oQ:=kq lZ;clear lZ;have hSM:=fun W (hb:Below w.heap.size w W)=>yw 1 nm g az ws ks bs cz x1 d1 x2 d2 x3 d3 x4 d4 x5 d5 m W (h.below hb) fO (cell_below hb hm);rw [fT,show kindB 1 nm g az ws ks bs (rt ks (d)) (rt cz (d)) = simpleB az ws from rfl];unfold aJ at hSM;have uH:=h.hks.le;have VW:=kq hSM;clear hSM;clear fT h fO jd kF hm hR ho;unfold aJ;go_enter Tryz.func46,Tryz.ntmps46
 go_wp2_with (first
   | (go_at_call 66;refine (nC.out _).mono ?_;rintro e w' ⟨rfl,rfl⟩)
   | (go_at_call 67;refine (dP.out).mono ?_;rintro e w1 ⟨rfl,aP⟩;have aC:=(aP.block _ eG.out).trans aY.out;have q0:=dx aC;have q1:=dA aC;have q2:=ed aC;have q3:=fA aC;have q4:=dS aC;have q5:=dZ aC;have q6:=fU aC;have q7:=gz aC;have kG:w.heap.size < w1.heap.size:=kd eG.out aP.size;have dH:=kq (ak fP.out aP);clear aC aP)
   | (go_at_call 68;refine (oQ.out _).mono ?_;rintro e w' ⟨rfl,rfl⟩)
   | (go_at_call 70;refine (VW.out _ (ak dH.out (bY _ _ _))).mono ?_;rintro e w2 ⟨rfl,d9⟩))
 go_ret;exact ⟨rfl,ak (ak dH.out (bY _ _ _)) (by assumption)⟩
theorem Tc (n:Nat) (hR:eu n) (nm:ByteArray) (g:Bool) (az:List (ByteArray × PL)) (ws:List PL) (ks:NL) (bs:List Bool) (cz:NL) (x1 d1 x2 d2 x3 d3 x4 d4 x5 d5) (d:Nat) (m:Int) (w:World) (hks:ks.size≤n) (hcs:cz.size≤n) (hd:d≤201) (h:Holds w nm az ws ks bs cz x1 d1 x2 d2 x3 d3 x4 d4 x5 d5) (fO:∀ l ∈ ws,ui l) (jd:fB ks) (kF:fB cz) (hm:w.cell? ⟨0,0,none⟩ = some (.int .i64 m)) (lT:d≤200) (ho:ownB 9 nm g az ws ks bs cz = true) :
  Calls Tryz.prog 46 #[.agg (aJ 9 nm g x1 az.length d1 x2 ws.length d2 x3 ks.len d3 x4 bs.length d4 x5 cz.len d5),.int .i64 d] w fun e w'=>e = .returned (.bool (aW 9 nm g az ws ks bs cz d))∧Below w.heap.size w w':=by
 have fT:aW 9 nm g az ws ks bs cz d = kindB 9 nm g az ws ks bs (rt ks (d + 1)) (rt cz (d + 1)):=by
  unfold aW;rw [show fC 9 d = false from by unfold fC;rw [decide_eq_false (by omega)];simp,ho];rfl
 have Ri:((200:Int) < (d:Int)) = False:=by rw [eq_iff_iff,iff_false];omega
 have au:(w.alloc (.cells #[.int .i64 9,.string nm,.bool g,.slice x1 az.length d1,.slice x2 ws.length d2,.slice x3 ks.len d3,.slice x4 bs.length d4,.slice x5 cz.len d5] 28)).heap[w.heap.size]? = some (.cells #[.int .i64 9,.string nm,.bool g,.slice x1 az.length d1,.slice x2 ws.length d2,.slice x3 ks.len d3,.slice x4 bs.length d4,.slice x5 cz.len d5] 28 (0,0)):=ay _ _;have eO:w.heap.size < (w.alloc (.cells #[.int .i64 9,.string nm,.bool g,.slice x1 az.length d1,.slice x2 ws.length d2,.slice x3 ks.len d3,.slice x4 bs.length d4,.slice x5 cz.len d5] 28)).heap.size:=by simp only [zd];omega
 have dw:=iY 9 nm g az ws ks bs cz x1 d1 x2 d2 x3 d3 x4 d4 x5 d5 (w.alloc (.cells #[.int .i64 9,.string nm,.bool g,.slice x1 az.length d1,.slice x2 ws.length d2,.slice x3 ks.len d3,.slice x4 bs.length d4,.slice x5 cz.len d5] 28)) (h.below (ax w _));unfold aJ at dw;rw [ho] at dw;have j4:=fun w=>dm 9 w;rw [show bQ 9 = true from rfl] at j4;have aY:=kq au;have eG:=kq eO;have fP:=kq (ax w (.cells #[.int .i64 9,.string nm,.bool g,.slice x1 az.length d1,.slice x2 ws.length d2,.slice x3 ks.len d3,.slice x4 bs.length d4,.slice x5 cz.len d5] 28));have dP:=kq dw;have nC:=kq j4;clear au eO dw j4;have lZ:=fun w=>di 9 d (by omega) w;rw [show gp 9 d = d + 1 from rfl] at lZ;have oQ:=kq lZ;clear lZ;have mH:=fun W pb (hb:Below w.heap.size w W) hp=>nW n hR ks hks h.xU jd (d + 1) pb (by omega) x3 d3 m W (h.hks.below hb) (cell_below hb hm) hp;have YD:=fun W (hb:Below w.heap.size w W)=>DD 9 nm g az ws ks bs cz x1 d1 x2 d2 x3 d3 x4 d4 x5 d5 W (h.below hb);unfold aJ at YD;rw [fT];have uH:=h.hks.le;have jH:=kq mH;clear mH;clear fT h fO jd kF hm hR ho;unfold aJ
 by_cases hq:ks.len = 1
 ·have yN:((ks.len:Int) == 1) = true:=by rw [hq];rfl
  cases hf:DC nm g ws
  all_goals
   rw [hf] at YD;have Rn:=kq YD;clear YD
  ·have bH:kindB 9 nm g az ws ks bs (rt ks (d + 1)) (rt cz (d + 1)) = false:=by unfold kindB;simp [hq,hf]
   rw [bH];clear bH hq hf;go_enter Tryz.func46,Tryz.ntmps46
   go_wp2_with (first
   | (go_at_call 66;refine (nC.out _).mono ?_;rintro e w' ⟨rfl,rfl⟩)
   | (go_at_call 67;refine (dP.out).mono ?_;rintro e w1 ⟨rfl,aP⟩;have aC:=(aP.block _ eG.out).trans aY.out;have q0:=dx aC;have q1:=dA aC;have q2:=ed aC;have q3:=fA aC;have q4:=dS aC;have q5:=dZ aC;have q6:=fU aC;have q7:=gz aC;have kG:w.heap.size < w1.heap.size:=kd eG.out aP.size;have dH:=kq (ak fP.out aP);clear aC aP)
   | (go_at_call 68;refine (oQ.out _).mono ?_;rintro e w' ⟨rfl,rfl⟩)
   | (go_at_call 75;refine (Rn.out _ (ak dH.out (bY _ _ _))).mono ?_;rintro e w2 ⟨rfl,d9⟩;have oN:=(j3 _ _).below d9;have p2:=oN.2;have qq:w2.cell? ⟨w.heap.size,5,none⟩ = some (.slice x3 ks.len d3):=cell_below (ak (bY _ _ _) d9) q5;have kR:=kq (ak dH.out (ak (bY _ _ _) d9));have wF:=kq oN;clear oN))
   go_ret;exact ⟨rfl,kR.out⟩
  ·have bH:kindB 9 nm g az ws ks bs (rt ks (d + 1)) (rt cz (d + 1)) = (allS dK ks && rt ks (d + 1)):=by unfold kindB;simp [hq,hf]
   rw [bH];clear bH hq hf;go_enter Tryz.func46,Tryz.ntmps46
   go_wp2_with (first
   | (go_at_call 66;refine (nC.out _).mono ?_;rintro e w' ⟨rfl,rfl⟩)
   | (go_at_call 67;refine (dP.out).mono ?_;rintro e w1 ⟨rfl,aP⟩;have aC:=(aP.block _ eG.out).trans aY.out;have q0:=dx aC;have q1:=dA aC;have q2:=ed aC;have q3:=fA aC;have q4:=dS aC;have q5:=dZ aC;have q6:=fU aC;have q7:=gz aC;have kG:w.heap.size < w1.heap.size:=kd eG.out aP.size;have dH:=kq (ak fP.out aP);clear aC aP)
   | (go_at_call 68;refine (oQ.out _).mono ?_;rintro e w' ⟨rfl,rfl⟩)
   | (go_at_call 75;refine (Rn.out _ (ak dH.out (bY _ _ _))).mono ?_;rintro e w2 ⟨rfl,d9⟩;have oN:=(j3 _ _).below d9;have p2:=oN.2;have qq:w2.cell? ⟨w.heap.size,5,none⟩ = some (.slice x3 ks.len d3):=cell_below (ak (bY _ _ _) d9) q5;have kR:=kq (ak dH.out (ak (bY _ _ _) d9));have wF:=kq oN;clear oN)
   | (go_at_call 69;refine (jH.out _ _ kR.out wF.out.1).mono ?_;rintro e w3 ⟨rfl,hb3⟩))
   go_ret;exact ⟨rfl,ak kR.out (by assumption)⟩
 ·have yN:((ks.len:Int) == 1) = false:=by rw [beq_eq_false_iff_ne];omega
  have bH:kindB 9 nm g az ws ks bs (rt ks (d + 1)) (rt cz (d + 1)) = false:=by unfold kindB;simp [hq]
  rw [bH];clear bH hq YD;go_enter Tryz.func46,Tryz.ntmps46
  go_wp2_with (first
   | (go_at_call 66;refine (nC.out _).mono ?_;rintro e w' ⟨rfl,rfl⟩)
   | (go_at_call 67;refine (dP.out).mono ?_;rintro e w1 ⟨rfl,aP⟩;have aC:=(aP.block _ eG.out).trans aY.out;have q0:=dx aC;have q1:=dA aC;have q2:=ed aC;have q3:=fA aC;have q4:=dS aC;have q5:=dZ aC;have q6:=fU aC;have q7:=gz aC;have kG:w.heap.size < w1.heap.size:=kd eG.out aP.size;have dH:=kq (ak fP.out aP);clear aC aP)
   | (go_at_call 68;refine (oQ.out _).mono ?_;rintro e w' ⟨rfl,rfl⟩))
  go_ret;exact ⟨rfl,(ak dH.out (bY _ _ _))⟩
theorem PO (n:Nat) (hR:eu n) (nm:ByteArray) (g:Bool) (az:List (ByteArray × PL)) (ws:List PL) (ks:NL) (bs:List Bool) (cz:NL) (x1 d1 x2 d2 x3 d3 x4 d4 x5 d5) (d:Nat) (m:Int) (w:World) (hks:ks.size≤n) (hcs:cz.size≤n) (hd:d≤201) (h:Holds w nm az ws ks bs cz x1 d1 x2 d2 x3 d3 x4 d4 x5 d5) (fO:∀ l ∈ ws,ui l) (jd:fB ks) (kF:fB cz) (hm:w.cell? ⟨0,0,none⟩ = some (.int .i64 m)) (lT:d≤200) (ho:ownB 10 nm g az ws ks bs cz = true) :
  Calls Tryz.prog 46 #[.agg (aJ 10 nm g x1 az.length d1 x2 ws.length d2 x3 ks.len d3 x4 bs.length d4 x5 cz.len d5),.int .i64 d] w fun e w'=>e = .returned (.bool (aW 10 nm g az ws ks bs cz d))∧Below w.heap.size w w':=by
 have fT:aW 10 nm g az ws ks bs cz d = kindB 10 nm g az ws ks bs (rt ks (d + 1)) (rt cz (d + 1)):=by
  unfold aW;rw [show fC 10 d = false from by unfold fC;rw [decide_eq_false (by omega)];simp,ho];rfl
 have Ri:((200:Int) < (d:Int)) = False:=by rw [eq_iff_iff,iff_false];omega
 have au:(w.alloc (.cells #[.int .i64 10,.string nm,.bool g,.slice x1 az.length d1,.slice x2 ws.length d2,.slice x3 ks.len d3,.slice x4 bs.length d4,.slice x5 cz.len d5] 28)).heap[w.heap.size]? = some (.cells #[.int .i64 10,.string nm,.bool g,.slice x1 az.length d1,.slice x2 ws.length d2,.slice x3 ks.len d3,.slice x4 bs.length d4,.slice x5 cz.len d5] 28 (0,0)):=ay _ _;have eO:w.heap.size < (w.alloc (.cells #[.int .i64 10,.string nm,.bool g,.slice x1 az.length d1,.slice x2 ws.length d2,.slice x3 ks.len d3,.slice x4 bs.length d4,.slice x5 cz.len d5] 28)).heap.size:=by simp only [zd];omega
 have dw:=iY 10 nm g az ws ks bs cz x1 d1 x2 d2 x3 d3 x4 d4 x5 d5 (w.alloc (.cells #[.int .i64 10,.string nm,.bool g,.slice x1 az.length d1,.slice x2 ws.length d2,.slice x3 ks.len d3,.slice x4 bs.length d4,.slice x5 cz.len d5] 28)) (h.below (ax w _));unfold aJ at dw;rw [ho] at dw;have j4:=fun w=>dm 10 w;rw [show bQ 10 = true from rfl] at j4;have aY:=kq au;have eG:=kq eO;have fP:=kq (ax w (.cells #[.int .i64 10,.string nm,.bool g,.slice x1 az.length d1,.slice x2 ws.length d2,.slice x3 ks.len d3,.slice x4 bs.length d4,.slice x5 cz.len d5] 28));have dP:=kq dw;have nC:=kq j4;clear au eO dw j4;have lZ:=fun w=>di 10 d (by omega) w;rw [show gp 10 d = d + 1 from rfl] at lZ;have oQ:=kq lZ;clear lZ;have hCS:=fun W pb pf (hb:Below w.heap.size w W) (hc:VV W pb pf (d + 1))=>zM n hR cz hcs h.MO kF (d + 1) pb pf (by omega) x5 d5 m W (h.hcs.below hb) (cell_below hb hm) hc;have hWD:=fun W (hb:Below w.heap.size w W)=>kY ws x2 d2 W (dX (P:=PW) (fun h=>h.below hb) h.hws);rw [fT];have uH:=h.hks.le;have MN:=h.hws.le;have HCS:=kq hCS;clear hCS;clear fT h fO jd kF hm hR ho;unfold aJ
 by_cases hq:ws.length = 1
 ·have yN:((ws.length:Int) == 1) = true:=by rw [hq];rfl
  cases hf:ws.all aG
  all_goals
   rw [hf] at hWD;have HWD:=kq hWD;clear hWD
  ·have bH:kindB 10 nm g az ws ks bs (rt ks (d + 1)) (rt cz (d + 1)) = false:=by
    unfold kindB;rw [hf];simp
   rw [bH];clear bH hq hf;go_enter Tryz.func46,Tryz.ntmps46
   go_wp2_with (first
   | (go_at_call 66;refine (nC.out _).mono ?_;rintro e w' ⟨rfl,rfl⟩)
   | (go_at_call 67;refine (dP.out).mono ?_;rintro e w1 ⟨rfl,aP⟩;have aC:=(aP.block _ eG.out).trans aY.out;have q0:=dx aC;have q1:=dA aC;have q2:=ed aC;have q3:=fA aC;have q4:=dS aC;have q5:=dZ aC;have q6:=fU aC;have q7:=gz aC;have kG:w.heap.size < w1.heap.size:=kd eG.out aP.size;have dH:=kq (ak fP.out aP);clear aC aP)
   | (go_at_call 68;refine (oQ.out _).mono ?_;rintro e w' ⟨rfl,rfl⟩)
   | (go_at_call 76;refine (HWD.out _ (ak dH.out (bY _ _ _))).mono ?_;rintro e w2 ⟨rfl,d9⟩;have oN:=(j3 _ _).below d9;have p2:=oN.2;have qq:w2.cell? ⟨w.heap.size,7,none⟩ = some (.slice x5 cz.len d5):=cell_below (ak (bY _ _ _) d9) q7;have kR:=kq (ak dH.out (ak (bY _ _ _) d9));have wF:=kq oN;clear oN))
   go_ret;exact ⟨rfl,kR.out⟩
  ·have bH:kindB 10 nm g az ws ks bs (rt ks (d + 1)) (rt cz (d + 1)) = rt cz (d + 1):=by
    unfold kindB;rw [hf];simp [hq]
   rw [bH];clear bH hq hf;go_enter Tryz.func46,Tryz.ntmps46
   go_wp2_with (first
   | (go_at_call 66;refine (nC.out _).mono ?_;rintro e w' ⟨rfl,rfl⟩)
   | (go_at_call 67;refine (dP.out).mono ?_;rintro e w1 ⟨rfl,aP⟩;have aC:=(aP.block _ eG.out).trans aY.out;have q0:=dx aC;have q1:=dA aC;have q2:=ed aC;have q3:=fA aC;have q4:=dS aC;have q5:=dZ aC;have q6:=fU aC;have q7:=gz aC;have kG:w.heap.size < w1.heap.size:=kd eG.out aP.size;have dH:=kq (ak fP.out aP);clear aC aP)
   | (go_at_call 68;refine (oQ.out _).mono ?_;rintro e w' ⟨rfl,rfl⟩)
   | (go_at_call 76;refine (HWD.out _ (ak dH.out (bY _ _ _))).mono ?_;rintro e w2 ⟨rfl,d9⟩;have oN:=(j3 _ _).below d9;have p2:=oN.2;have qq:w2.cell? ⟨w.heap.size,7,none⟩ = some (.slice x5 cz.len d5):=cell_below (ak (bY _ _ _) d9) q7;have kR:=kq (ak dH.out (ak (bY _ _ _) d9));have wF:=kq oN;clear oN)
   | (go_at_call 77;refine (HCS.out _ _ _ kR.out wF.out).mono ?_;rintro e w3 ⟨rfl,hb3⟩))
   go_ret;exact ⟨rfl,ak kR.out (by assumption)⟩
 ·have yN:((ws.length:Int) == 1) = false:=by rw [beq_eq_false_iff_ne];omega
  have bH:kindB 10 nm g az ws ks bs (rt ks (d + 1)) (rt cz (d + 1)) = false:=by unfold kindB;simp [hq]
  rw [bH];clear bH hq hWD;go_enter Tryz.func46,Tryz.ntmps46
  go_wp2_with (first
   | (go_at_call 66;refine (nC.out _).mono ?_;rintro e w' ⟨rfl,rfl⟩)
   | (go_at_call 67;refine (dP.out).mono ?_;rintro e w1 ⟨rfl,aP⟩;have aC:=(aP.block _ eG.out).trans aY.out;have q0:=dx aC;have q1:=dA aC;have q2:=ed aC;have q3:=fA aC;have q4:=dS aC;have q5:=dZ aC;have q6:=fU aC;have q7:=gz aC;have kG:w.heap.size < w1.heap.size:=kd eG.out aP.size;have dH:=kq (ak fP.out aP);clear aC aP)
   | (go_at_call 68;refine (oQ.out _).mono ?_;rintro e w' ⟨rfl,rfl⟩))
  go_ret;exact ⟨rfl,(ak dH.out (bY _ _ _))⟩
theorem PP (n:Nat) (hR:eu n) (nm:ByteArray) (g:Bool) (az:List (ByteArray × PL)) (ws:List PL) (ks:NL) (bs:List Bool) (cz:NL) (x1 d1 x2 d2 x3 d3 x4 d4 x5 d5) (d:Nat) (m:Int) (w:World) (hks:ks.size≤n) (hcs:cz.size≤n) (hd:d≤201) (h:Holds w nm az ws ks bs cz x1 d1 x2 d2 x3 d3 x4 d4 x5 d5) (fO:∀ l ∈ ws,ui l) (jd:fB ks) (kF:fB cz) (hm:w.cell? ⟨0,0,none⟩ = some (.int .i64 m)) (lT:d≤200) (ho:ownB 13 nm g az ws ks bs cz = true) :
  Calls Tryz.prog 46 #[.agg (aJ 13 nm g x1 az.length d1 x2 ws.length d2 x3 ks.len d3 x4 bs.length d4 x5 cz.len d5),.int .i64 d] w fun e w'=>e = .returned (.bool (aW 13 nm g az ws ks bs cz d))∧Below w.heap.size w w':=by
 have fT:aW 13 nm g az ws ks bs cz d = kindB 13 nm g az ws ks bs (rt ks (d)) (rt cz (d)):=by
  unfold aW;rw [show fC 13 d = false from by unfold fC;rw [decide_eq_false (by omega)];simp,ho];rfl
 have Ri:((200:Int) < (d:Int)) = False:=by rw [eq_iff_iff,iff_false];omega
 have au:(w.alloc (.cells #[.int .i64 13,.string nm,.bool g,.slice x1 az.length d1,.slice x2 ws.length d2,.slice x3 ks.len d3,.slice x4 bs.length d4,.slice x5 cz.len d5] 28)).heap[w.heap.size]? = some (.cells #[.int .i64 13,.string nm,.bool g,.slice x1 az.length d1,.slice x2 ws.length d2,.slice x3 ks.len d3,.slice x4 bs.length d4,.slice x5 cz.len d5] 28 (0,0)):=ay _ _;have eO:w.heap.size < (w.alloc (.cells #[.int .i64 13,.string nm,.bool g,.slice x1 az.length d1,.slice x2 ws.length d2,.slice x3 ks.len d3,.slice x4 bs.length d4,.slice x5 cz.len d5] 28)).heap.size:=by simp only [zd];omega
 have dw:=iY 13 nm g az ws ks bs cz x1 d1 x2 d2 x3 d3 x4 d4 x5 d5 (w.alloc (.cells #[.int .i64 13,.string nm,.bool g,.slice x1 az.length d1,.slice x2 ws.length d2,.slice x3 ks.len d3,.slice x4 bs.length d4,.slice x5 cz.len d5] 28)) (h.below (ax w _));unfold aJ at dw;rw [ho] at dw;have j4:=fun w=>dm 13 w;rw [show bQ 13 = true from rfl] at j4;have aY:=kq au;have eG:=kq eO;have fP:=kq (ax w (.cells #[.int .i64 13,.string nm,.bool g,.slice x1 az.length d1,.slice x2 ws.length d2,.slice x3 ks.len d3,.slice x4 bs.length d4,.slice x5 cz.len d5] 28));have dP:=kq dw;have nC:=kq j4;clear au eO dw j4;have lZ:=fun w=>di 13 d (by omega) w;rw [show gp 13 d = d from rfl] at lZ;have oQ:=kq lZ;clear lZ;have mH:=fun W pb (hb:Below w.heap.size w W) hp=>DF n hR ks hks h.xU jd (d) pb (by omega) x3 d3 m W (h.hks.below hb) (cell_below hb hm) hp;have hNM:=fun W=>jq nm W (by have:=h.hnm;unfold R at this;omega);have YE:=fun W=>qb nm W;rw [fT];have uH:=h.hks.le;have jH:=kq mH;clear mH;clear fT h fO jd kF hm hR ho;unfold aJ
 by_cases hq:ks.len = 1
 ·have yN:((ks.len:Int) == 1) = true:=by rw [hq];rfl
  cases hf:bV nm.data.toList
  all_goals
   rw [hf] at hNM;have KW:=kq hNM;clear hNM
  ·have bH:kindB 13 nm g az ws ks bs (rt ks (d)) (rt cz (d)) = false:=by unfold kindB;simp [hq,hf]
   rw [bH];clear bH hq hf YE;go_enter Tryz.func46,Tryz.ntmps46
   go_wp2_with (first
   | (go_at_call 66;refine (nC.out _).mono ?_;rintro e w' ⟨rfl,rfl⟩)
   | (go_at_call 67;refine (dP.out).mono ?_;rintro e w1 ⟨rfl,aP⟩;have aC:=(aP.block _ eG.out).trans aY.out;have q0:=dx aC;have q1:=dA aC;have q2:=ed aC;have q3:=fA aC;have q4:=dS aC;have q5:=dZ aC;have q6:=fU aC;have q7:=gz aC;have kG:w.heap.size < w1.heap.size:=kd eG.out aP.size;have dH:=kq (ak fP.out aP);clear aC aP)
   | (go_at_call 68;refine (oQ.out _).mono ?_;rintro e w' ⟨rfl,rfl⟩)
   | (go_at_call 79;refine (KW.out _).mono ?_;rintro e w' ⟨rfl,rfl⟩))
   go_ret;exact ⟨rfl,(ak dH.out (bY _ _ _))⟩
  ·cases hv:bF nm.data.toList
   all_goals
    rw [hv] at YE;have Uz:=kq YE;clear YE
   ·have bH:kindB 13 nm g az ws ks bs (rt ks (d)) (rt cz (d)) = (allS gu ks && rt ks (d)):=by unfold kindB;simp [hq,hf,hv]
    rw [bH];clear bH hq hf hv;go_enter Tryz.func46,Tryz.ntmps46
    go_wp2_with (first
   | (go_at_call 66;refine (nC.out _).mono ?_;rintro e w' ⟨rfl,rfl⟩)
   | (go_at_call 67;refine (dP.out).mono ?_;rintro e w1 ⟨rfl,aP⟩;have aC:=(aP.block _ eG.out).trans aY.out;have q0:=dx aC;have q1:=dA aC;have q2:=ed aC;have q3:=fA aC;have q4:=dS aC;have q5:=dZ aC;have q6:=fU aC;have q7:=gz aC;have kG:w.heap.size < w1.heap.size:=kd eG.out aP.size;have dH:=kq (ak fP.out aP);clear aC aP)
   | (go_at_call 68;refine (oQ.out _).mono ?_;rintro e w' ⟨rfl,rfl⟩)
   | (go_at_call 79;refine (KW.out _).mono ?_;rintro e w' ⟨rfl,rfl⟩)
   | (go_at_call 80;refine (Uz.out _).mono ?_;rintro e w' ⟨rfl,rfl⟩)
   | (go_at_call 69;refine (jH.out _ _ (ak dH.out (bY _ _ _)) (j3 _ _).1).mono ?_;rintro e w2 ⟨rfl,d9⟩))
    go_ret;exact ⟨rfl,ak (ak dH.out (bY _ _ _)) (by assumption)⟩
   ·have bH:kindB 13 nm g az ws ks bs (rt ks (d)) (rt cz (d)) = false:=by unfold kindB;simp [hq,hf,hv]
    rw [bH];clear bH hq hf hv;go_enter Tryz.func46,Tryz.ntmps46
    go_wp2_with (first
   | (go_at_call 66;refine (nC.out _).mono ?_;rintro e w' ⟨rfl,rfl⟩)
   | (go_at_call 67;refine (dP.out).mono ?_;rintro e w1 ⟨rfl,aP⟩;have aC:=(aP.block _ eG.out).trans aY.out;have q0:=dx aC;have q1:=dA aC;have q2:=ed aC;have q3:=fA aC;have q4:=dS aC;have q5:=dZ aC;have q6:=fU aC;have q7:=gz aC;have kG:w.heap.size < w1.heap.size:=kd eG.out aP.size;have dH:=kq (ak fP.out aP);clear aC aP)
   | (go_at_call 68;refine (oQ.out _).mono ?_;rintro e w' ⟨rfl,rfl⟩)
   | (go_at_call 79;refine (KW.out _).mono ?_;rintro e w' ⟨rfl,rfl⟩)
   | (go_at_call 80;refine (Uz.out _).mono ?_;rintro e w' ⟨rfl,rfl⟩))
    go_ret;exact ⟨rfl,(ak dH.out (bY _ _ _))⟩
 ·have yN:((ks.len:Int) == 1) = false:=by rw [beq_eq_false_iff_ne];omega
  have bH:kindB 13 nm g az ws ks bs (rt ks (d)) (rt cz (d)) = false:=by unfold kindB;simp [hq]
  rw [bH];clear bH hq hNM YE;go_enter Tryz.func46,Tryz.ntmps46
  go_wp2_with (first
   | (go_at_call 66;refine (nC.out _).mono ?_;rintro e w' ⟨rfl,rfl⟩)
   | (go_at_call 67;refine (dP.out).mono ?_;rintro e w1 ⟨rfl,aP⟩;have aC:=(aP.block _ eG.out).trans aY.out;have q0:=dx aC;have q1:=dA aC;have q2:=ed aC;have q3:=fA aC;have q4:=dS aC;have q5:=dZ aC;have q6:=fU aC;have q7:=gz aC;have kG:w.heap.size < w1.heap.size:=kd eG.out aP.size;have dH:=kq (ak fP.out aP);clear aC aP)
   | (go_at_call 68;refine (oQ.out _).mono ?_;rintro e w' ⟨rfl,rfl⟩))
  go_ret;exact ⟨rfl,(ak dH.out (bY _ _ _))⟩
theorem PQ (n:Nat) (hR:eu n) (k:Int) (nm:ByteArray) (g:Bool) (az:List (ByteArray × PL)) (ws:List PL) (ks:NL) (bs:List Bool) (cz:NL) (x1 d1 x2 d2 x3 d3 x4 d4 x5 d5) (d:Nat) (m:Int) (w:World) (hks:ks.size≤n) (hcs:cz.size≤n) (hd:d≤201) (h:Holds w nm az ws ks bs cz x1 d1 x2 d2 x3 d3 x4 d4 x5 d5) (fO:∀ l ∈ ws,ui l) (jd:fB ks) (kF:fB cz) (hm:w.cell? ⟨0,0,none⟩ = some (.int .i64 m)) (hc:bQ k = false) (g1:(k == 1) = false) (g2:(k == 2) = false) (g3:(k == 3) = false) (g4:(k == 4) = false) (g5:(k == 5) = false) (g6:(k == 6) = false) (g7:(k == 7) = false) (g8:(k == 8) = false) (g9:(k == 9) = false) (g10:(k == 10) = false) (g11:(k == 11) = false) (g12:(k == 12) = false) (g13:(k == 13) = false) (ho:ownB k nm g az ws ks bs cz = true) :
  Calls Tryz.prog 46 #[.agg (aJ k nm g x1 az.length d1 x2 ws.length d2 x3 ks.len d3 x4 bs.length d4 x5 cz.len d5),.int .i64 d] w fun e w'=>e = .returned (.bool (aW k nm g az ws ks bs cz d))∧Below w.heap.size w w':=by
 have bH:aW k nm g az ws ks bs cz d = false:=by
  unfold aW kindB;simp [g1,g2,g3,g4,g5,g6,g7,g8,g9,g10,g11,g12,g13]
 have ql:=kq bH;clear bH;have uH:=h.hks.le;have au:(w.alloc (.cells #[.int .i64 k,.string nm,.bool g,.slice x1 az.length d1,.slice x2 ws.length d2,.slice x3 ks.len d3,.slice x4 bs.length d4,.slice x5 cz.len d5] 28)).heap[w.heap.size]? = some (.cells #[.int .i64 k,.string nm,.bool g,.slice x1 az.length d1,.slice x2 ws.length d2,.slice x3 ks.len d3,.slice x4 bs.length d4,.slice x5 cz.len d5] 28 (0,0)):=ay _ _;have eO:w.heap.size < (w.alloc (.cells #[.int .i64 k,.string nm,.bool g,.slice x1 az.length d1,.slice x2 ws.length d2,.slice x3 ks.len d3,.slice x4 bs.length d4,.slice x5 cz.len d5] 28)).heap.size:=by simp only [zd];omega
 have dw:=iY k nm g az ws ks bs cz x1 d1 x2 d2 x3 d3 x4 d4 x5 d5 (w.alloc (.cells #[.int .i64 k,.string nm,.bool g,.slice x1 az.length d1,.slice x2 ws.length d2,.slice x3 ks.len d3,.slice x4 bs.length d4,.slice x5 cz.len d5] 28)) (h.below (ax w _));unfold aJ at dw;rw [ho] at dw;have j4:=fun w=>dm k w;rw [hc] at j4;have aY:=kq au;have eG:=kq eO;have fP:=kq (ax w (.cells #[.int .i64 k,.string nm,.bool g,.slice x1 az.length d1,.slice x2 ws.length d2,.slice x3 ks.len d3,.slice x4 bs.length d4,.slice x5 cz.len d5] 28));have dP:=kq dw;have nC:=kq j4;clear au eO dw j4;have lZ:=fun w=>di k d (by omega) w;rw [show gp k d = d by unfold gp;rw [hc];rfl] at lZ;have oQ:=kq lZ;clear lZ h fO jd kF hm hR hks hcs hc ho;unfold aJ;go_enter Tryz.func46,Tryz.ntmps46
 go_wp2_with (first
   | (go_at_call 66;refine (nC.out _).mono ?_;rintro e w' ⟨rfl,rfl⟩)
   | (go_at_call 67;refine (dP.out).mono ?_;rintro e w1 ⟨rfl,aP⟩;have aC:=(aP.block _ eG.out).trans aY.out;have q0:=dx aC;have q1:=dA aC;have q2:=ed aC;have q3:=fA aC;have q4:=dS aC;have q5:=dZ aC;have q6:=fU aC;have q7:=gz aC;have kG:w.heap.size < w1.heap.size:=kd eG.out aP.size;have dH:=kq (ak fP.out aP);clear aC aP)
   | (go_at_call 68;refine (oQ.out _).mono ?_;rintro e w' ⟨rfl,rfl⟩))
 go_ret;exact ⟨ai ql.out.symm,(ak dH.out (bY _ _ _))⟩
end Tr
namespace Tr
open j6 Pt
theorem Cm {ks:NL} (h:ks.len = 2) (fO:NL.okN ks true = true):∃ k0 pI g0 pJ pK ko ku pM k1 dE g1 dB dC bM dD cK,ks = .node k0 pI g0 pJ pK ko ku pM (.node k1 dE g1 dB dC bM dD cK .nil):=by
 obtain ⟨k0,pI,g0,pJ,pK,ko,ku,pM,r,h0⟩:=NL.bf (n:=0) (l:=ks) (by omega) fO;simp only [NL.drop] at h0;subst h0;simp only [NL.okN,ud] at fO;simp only [NL.len] at h;obtain ⟨k1,dE,g1,dB,dC,bM,dD,cK,r1,h1⟩:=NL.bf (n:=0) (l:=r) (by omega) fO.2;simp only [NL.drop] at h1;subst h1;simp only [NL.len] at h;have:r1.len = 0:=by omega
 have hr:r1 = .nil:=by
  cases r1 with
  | nil=>rfl
  | node=>simp [NL.len] at this
  | cse=>simp [NL.len] at this
 subst hr;exact ⟨_,_,_,_,_,_,_,_,_,_,_,_,_,_,_,_,rfl⟩
theorem Gm {w:World} {a:Option Addr} {c:Nat} {k0 k1:Int} {pI dE:ByteArray} {g0 g1:Bool} {pJ dB:List (ByteArray × PL)} {pK dC:List PL} {ko bM pM cK:NL} {ku dD:List Bool} (h:dJ w a c (.node k0 pI g0 pJ pK ko ku pM (.node k1 dE g1 dB dC bM dD cK .nil))) :
  ∃ b o,a = some ⟨b,o,none⟩∧dJ w (some ⟨b,o,none⟩) c (.node k0 pI g0 pJ pK ko ku pM .nil)∧dJ w (some ⟨b,o + 8,none⟩) (c - 1) (.node k1 dE g1 dB dC bM dD cK .nil):=by
 obtain ⟨h1,h2,h3⟩:=h;simp only [NL.len] at h1;rcases h3 with h3 | ⟨b,o,ha,h3⟩
 ·cases h3
 ·obtain ⟨e0,e1,e2,e3,e4,e5,f0,f1,f2,f3,f4,f5,_⟩:=h3;refine ⟨b,o,ha,⟨by simp only [NL.len];omega,by simp only [NL.len];unfold R;omega,.inr ⟨b,o,rfl,e0,e1,e2,e3,e4,e5,trivial⟩⟩,⟨by simp only [NL.len];omega,by simp only [NL.len];unfold R;omega,.inr ⟨b,o + 8,rfl,f0,f1,f2,f3,f4,f5,trivial⟩⟩⟩
theorem Td (n:Nat) (hR:eu n) (nm:ByteArray) (g:Bool) (az:List (ByteArray × PL)) (ws:List PL) (ks:NL) (bs:List Bool) (cz:NL) (x1 d1 x2 d2 x3 d3 x4 d4 x5 d5) (d:Nat) (m:Int) (w:World) (hks:ks.size≤n) (hcs:cz.size≤n) (hd:d≤201) (h:Holds w nm az ws ks bs cz x1 d1 x2 d2 x3 d3 x4 d4 x5 d5) (fO:∀ l ∈ ws,ui l) (jd:fB ks) (kF:fB cz) (hm:w.cell? ⟨0,0,none⟩ = some (.int .i64 m)) (ho:ownB 2 nm g az ws ks bs cz = true) :
  Calls Tryz.prog 46 #[.agg (aJ 2 nm g x1 az.length d1 x2 ws.length d2 x3 ks.len d3 x4 bs.length d4 x5 cz.len d5),.int .i64 d] w fun e w'=>e = .returned (.bool (aW 2 nm g az ws ks bs cz d))∧Below w.heap.size w w':=by
 have fT:aW 2 nm g az ws ks bs cz d = kindB 2 nm g az ws ks bs (rt ks (d)) (rt cz (d)):=by
  unfold aW;rw [show fC 2 d = false from rfl,ho];rfl
 have au:(w.alloc (.cells #[.int .i64 2,.string nm,.bool g,.slice x1 az.length d1,.slice x2 ws.length d2,.slice x3 ks.len d3,.slice x4 bs.length d4,.slice x5 cz.len d5] 28)).heap[w.heap.size]? = some (.cells #[.int .i64 2,.string nm,.bool g,.slice x1 az.length d1,.slice x2 ws.length d2,.slice x3 ks.len d3,.slice x4 bs.length d4,.slice x5 cz.len d5] 28 (0,0)):=ay _ _;have eO:w.heap.size < (w.alloc (.cells #[.int .i64 2,.string nm,.bool g,.slice x1 az.length d1,.slice x2 ws.length d2,.slice x3 ks.len d3,.slice x4 bs.length d4,.slice x5 cz.len d5] 28)).heap.size:=by simp only [zd];omega
 have dw:=iY 2 nm g az ws ks bs cz x1 d1 x2 d2 x3 d3 x4 d4 x5 d5 (w.alloc (.cells #[.int .i64 2,.string nm,.bool g,.slice x1 az.length d1,.slice x2 ws.length d2,.slice x3 ks.len d3,.slice x4 bs.length d4,.slice x5 cz.len d5] 28)) (h.below (ax w _));unfold aJ at dw;rw [ho] at dw;have j4:=fun w=>dm 2 w;rw [show bQ 2 = false from rfl] at j4;have aY:=kq au;have eG:=kq eO;have fP:=kq (ax w (.cells #[.int .i64 2,.string nm,.bool g,.slice x1 az.length d1,.slice x2 ws.length d2,.slice x3 ks.len d3,.slice x4 bs.length d4,.slice x5 cz.len d5] 28));have dP:=kq dw;have nC:=kq j4;clear au eO dw j4;have lZ:=fun w=>di 2 d (by omega) w;rw [show gp 2 d = d from rfl] at lZ;have oQ:=kq lZ;clear lZ;rw [fT];have uH:=h.hks.le;unfold aJ
 by_cases hq:ks.len = 2
 ·obtain ⟨k0,pI,g0,pJ,pK,ko,ku,pM,k1,dE,g1,dB,dC,bM,dD,cK,rfl⟩:=Cm hq h.xU;obtain ⟨b,o,rfl,hN0,wG⟩:=Gm h.hks;have Oz:=h.hks.1;have Gn:NL.len (.node k0 pI g0 pJ pK ko ku pM (.node k1 dE g1 dB dC bM dD cK .nil)) = 2:=rfl;have PR:NL.okN (.node k0 pI g0 pJ pK ko ku pM .nil) true = true:=by
   have:=h.xU;simp only [NL.okN,ud] at this ⊢
   exact ⟨⟨⟨this.1.1.1,this.1.1.2⟩,this.1.2⟩,trivial⟩
  have PS:NL.okN (.node k1 dE g1 dB dC bM dD cK .nil) true = true:=by
   have:=h.xU;simp only [NL.okN,ud] at this ⊢
   exact ⟨⟨⟨this.2.1.1.1,this.2.1.1.2⟩,this.2.1.2⟩,trivial⟩
  have PT:NL.size (.node k0 pI g0 pJ pK ko ku pM .nil)≤n:=by simp only [NL.size] at hks ⊢;omega
  have pO:NL.size (.node k1 dE g1 dB dC bM dD cK .nil)≤n:=by simp only [NL.size] at hks ⊢;omega
  have BZ:fB (.node k0 pI g0 pJ pK ko ku pM .nil):=⟨jd.1,jd.2.1,jd.2.2.1,trivial⟩;have jT:fB (.node k1 dE g1 dB dC bM dD cK .nil):=⟨jd.2.2.2.1,jd.2.2.2.2.1,jd.2.2.2.2.2.1,trivial⟩;have hI:=fun W pb (hb:Below w.heap.size w W) hp=>zK n hR (.node k0 pI g0 pJ pK ko ku pM .nil) PT PR BZ d pb hd (some ⟨b,o,none⟩) d3 m W (hN0.below hb) (cell_below hb hm) hp;have hU:=fun W pb (hb:Below w.heap.size w W) hp=>Gj n hR (.node k1 dE g1 dB dC bM dD cK .nil) pO PS jT d pb hd (some ⟨b,o + 8,none⟩) (d3 - 1) m W (wG.below hb) (cell_below hb hm) hp;rw [show NL.len (.node k0 pI g0 pJ pK ko ku pM .nil) = 1 from rfl] at hI;rw [show NL.len (.node k1 dE g1 dB dC bM dD cK .nil) = 1 from rfl] at hU;have bH:kindB 2 nm g az ws (.node k0 pI g0 pJ pK ko ku pM (.node k1 dE g1 dB dC bM dD cK .nil)) bs (rt (.node k0 pI g0 pJ pK ko ku pM (.node k1 dE g1 dB dC bM dD cK .nil)) (d)) (rt cz (d)) = ((allS kL (.node k0 pI g0 pJ pK ko ku pM .nil) && rt (.node k0 pI g0 pJ pK ko ku pM .nil) d) && (allS ni (.node k1 dE g1 dB dC bM dD cK .nil) && rt (.node k1 dE g1 dB dC bM dD cK .nil) d)):=by
   have e1:∀ RK RC,kindB 2 nm g az ws (.node k0 pI g0 pJ pK ko ku pM (.node k1 dE g1 dB dC bM dD cK .nil)) bs RK RC = ((dN k0 && ik k1) && RK):=fun RK RC=>by simp [kindB,NL.len]
   have e2:rt (.node k0 pI g0 pJ pK ko ku pM (.node k1 dE g1 dB dC bM dD cK .nil)) d = (aW k0 pI g0 pJ pK ko ku pM d && (aW k1 dE g1 dB dC bM dD cK d && true)):=rfl;rw [e1,e2];show _ = (((dN k0 && true) && (aW k0 pI g0 pJ pK ko ku pM d && true)) && ((ik k1 && true) && (aW k1 dE g1 dB dC bM dD cK d && true)));generalize aW k0 pI g0 pJ pK ko ku pM d = r0;generalize aW k1 dE g1 dB dC bM dD cK d = r1;cases dN k0 <;> cases ik k1 <;> cases r0 <;> cases r1 <;> rfl
  rw [bH];rw [Gn] at Oz uH aY dP eG fP ⊢
  generalize (allS kL (.node k0 pI g0 pJ pK ko ku pM .nil) && rt (.node k0 pI g0 pJ pK ko ku pM .nil) d) = A0 at hI ⊢
  generalize (allS ni (.node k1 dE g1 dB dC bM dD cK .nil) && rt (.node k1 dE g1 dB dC bM dD cK .nil) d) = A1 at hU ⊢
  have YF:1≤d3:=by omega
  have YG:¬ (d3 = 1):=by omega
  have YH:¬ (d3 = 0):=by omega
  have YI:((1:Int)≤(d3:Int)) = True:=by rw [eq_iff_iff,iff_true];omega
  have VX:((2:Int)≤(d3:Int)) = True:=by rw [eq_iff_iff,iff_true];omega
  have hI2:=kq hI;have hU2:=kq hU;clear hI hU bH fT h fO jd kF hm hR ho hN0 wG PR PS PT pO BZ jT hq Gn hks;go_enter Tryz.func46,Tryz.ntmps46
  go_wp2_with (first
   | (go_at_call 66;refine (nC.out _).mono ?_;rintro e w' ⟨rfl,rfl⟩)
   | (go_at_call 67;refine (dP.out).mono ?_;rintro e w1 ⟨rfl,aP⟩;have aC:=(aP.block _ eG.out).trans aY.out;have q0:=dx aC;have q1:=dA aC;have q2:=ed aC;have q3:=fA aC;have q4:=dS aC;have q5:=dZ aC;have q6:=fU aC;have q7:=gz aC;have kG:w.heap.size < w1.heap.size:=kd eG.out aP.size;have dH:=kq (ak fP.out aP);clear aC aP)
   | (go_at_call 68;refine (oQ.out _).mono ?_;rintro e w' ⟨rfl,rfl⟩))
  have qp:=j3 w1 (d);have d9:=ak dH.out (bY w1 (.cells #[.int .i64 d] 3) (.cells #[.func (.func 69) #[] #[.pointer (some ⟨w1.heap.size,0,none⟩)]] 100));have k5:=cell_below (bY w1 (.cells #[.int .i64 d] 3) (.cells #[.func (.func 69) #[] #[.pointer (some ⟨w1.heap.size,0,none⟩)]] 100)) q5;generalize ((w1.alloc (.cells #[.int .i64 d] 3)).alloc (.cells #[.func (.func 69) #[] #[.pointer (some ⟨w1.heap.size,0,none⟩)]] 100)) = W2 at qp d9 k5 ⊢
  have k6:=cell_regrown qp.2;have k7:=cell_regrown k5;have hi:=fun dd os=>Calls.regrown_of (hI2.out (grow (redrawn W2 dd) os) w1.heap.size (ak d9 (below_regrown W2 dd os)) (cell_regrown qp.1 dd os));have hu:=fun dd os=>Calls.regrown_of (hU2.out (grow (redrawn W2 dd) os) w1.heap.size (ak d9 (below_regrown W2 dd os)) (cell_regrown qp.1 dd os));have HI:=kq hi;have HU:=kq hu;clear hi hu;have DI:=kq d9;clear d9 qp k5;cases A0
  ·refine Qu.region (by kernel_rfl) (by kernel_rfl) ?_
   repeat (first
    | (first | refine Qu.eU rfl (fun K hK=>?_) | refine Qu.eT rfl rfl rfl (fun K hK=>?_)
       go_simp
       first
       | (refine hK _ ?_;clear hK K)
       | (apply Exists.intro;refine ⟨fun _=>?_,hK _ ?_⟩;(go_at_call 69;exact HI.out _ _);clear hK K))
    | (refine Qu.gQ rfl rfl rfl (fun K hK=>?_);go_simp;refine hK _ ?_;clear hK K))
   refine Qu.fin ?_;rintro ⟨dq,iB⟩;go_wp2_with fail;go_ret;exact ⟨rfl,ak DI.out (below_regrown W2 dq iB)⟩
  ·cases A1
   all_goals
    refine Qu.region (by kernel_rfl) (by kernel_rfl) ?_
    repeat (first
     | (first | refine Qu.eU rfl (fun K hK=>?_) | refine Qu.eT rfl rfl rfl (fun K hK=>?_)
        go_simp
        first
        | (refine hK _ ?_;clear hK K)
        | (apply Exists.intro;refine ⟨fun _=>?_,hK _ ?_⟩;(first | (go_at_call_of 69 (Value.slice (some ⟨b,o,none⟩) 1 d3);exact HI.out _ _) | (go_at_call 69;exact HU.out _ _));clear hK K))
     | (refine Qu.gQ rfl rfl rfl (fun K hK=>?_);go_simp;refine hK _ ?_;clear hK K))
    refine Qu.fin ?_;rintro ⟨dq,iB⟩;go_wp2_with fail;go_ret;exact ⟨rfl,ak DI.out (below_regrown W2 dq iB)⟩
 ·have yN:((ks.len:Int) == 2) = false:=by rw [beq_eq_false_iff_ne];omega
  have bH:kindB 2 nm g az ws ks bs (rt ks (d)) (rt cz (d)) = false:=by unfold kindB;simp [hq]
  rw [bH];clear bH fT h fO jd kF hm hR ho hq;go_enter Tryz.func46,Tryz.ntmps46
  go_wp2_with (first
   | (go_at_call 66;refine (nC.out _).mono ?_;rintro e w' ⟨rfl,rfl⟩)
   | (go_at_call 67;refine (dP.out).mono ?_;rintro e w1 ⟨rfl,aP⟩;have aC:=(aP.block _ eG.out).trans aY.out;have q0:=dx aC;have q1:=dA aC;have q2:=ed aC;have q3:=fA aC;have q4:=dS aC;have q5:=dZ aC;have q6:=fU aC;have q7:=gz aC;have kG:w.heap.size < w1.heap.size:=kd eG.out aP.size;have dH:=kq (ak fP.out aP);clear aC aP)
   | (go_at_call 68;refine (oQ.out _).mono ?_;rintro e w' ⟨rfl,rfl⟩))
  have qp:=j3 w1 (d);have d9:=ak dH.out (bY w1 (.cells #[.int .i64 d] 3) (.cells #[.func (.func 69) #[] #[.pointer (some ⟨w1.heap.size,0,none⟩)]] 100));have k5:=cell_below (bY w1 (.cells #[.int .i64 d] 3) (.cells #[.func (.func 69) #[] #[.pointer (some ⟨w1.heap.size,0,none⟩)]] 100)) q5;generalize ((w1.alloc (.cells #[.int .i64 d] 3)).alloc (.cells #[.func (.func 69) #[] #[.pointer (some ⟨w1.heap.size,0,none⟩)]] 100)) = W2 at qp d9 k5 ⊢
  have k6:=cell_regrown qp.2;have k7:=cell_regrown k5;have DI:=kq d9;clear d9 qp k5;refine Qu.region (by kernel_rfl) (by kernel_rfl) ?_
  repeat (first
   | (first | refine Qu.eU rfl (fun K hK=>?_) | refine Qu.eT rfl rfl rfl (fun K hK=>?_)
      go_simp
      first
      | (refine hK _ ?_;clear hK K)
      | (apply Exists.intro;refine ⟨fun _=>?_,hK _ ?_⟩;(fail);clear hK K))
   | (refine Qu.gQ rfl rfl rfl (fun K hK=>?_);go_simp;refine hK _ ?_;clear hK K))
  refine Qu.fin ?_;rintro ⟨dq,iB⟩;go_wp2_with fail;go_ret;exact ⟨rfl,ak DI.out (below_regrown W2 dq iB)⟩
theorem Te (n:Nat) (hR:eu n) (nm:ByteArray) (g:Bool) (az:List (ByteArray × PL)) (ws:List PL) (ks:NL) (bs:List Bool) (cz:NL) (x1 d1 x2 d2 x3 d3 x4 d4 x5 d5) (d:Nat) (m:Int) (w:World) (hks:ks.size≤n) (hcs:cz.size≤n) (hd:d≤201) (h:Holds w nm az ws ks bs cz x1 d1 x2 d2 x3 d3 x4 d4 x5 d5) (fO:∀ l ∈ ws,ui l) (jd:fB ks) (kF:fB cz) (hm:w.cell? ⟨0,0,none⟩ = some (.int .i64 m)) (ho:ownB 3 nm g az ws ks bs cz = true) :
  Calls Tryz.prog 46 #[.agg (aJ 3 nm g x1 az.length d1 x2 ws.length d2 x3 ks.len d3 x4 bs.length d4 x5 cz.len d5),.int .i64 d] w fun e w'=>e = .returned (.bool (aW 3 nm g az ws ks bs cz d))∧Below w.heap.size w w':=by
 have fT:aW 3 nm g az ws ks bs cz d = kindB 3 nm g az ws ks bs (rt ks (d)) (rt cz (d)):=by
  unfold aW;rw [show fC 3 d = false from rfl,ho];rfl
 have au:(w.alloc (.cells #[.int .i64 3,.string nm,.bool g,.slice x1 az.length d1,.slice x2 ws.length d2,.slice x3 ks.len d3,.slice x4 bs.length d4,.slice x5 cz.len d5] 28)).heap[w.heap.size]? = some (.cells #[.int .i64 3,.string nm,.bool g,.slice x1 az.length d1,.slice x2 ws.length d2,.slice x3 ks.len d3,.slice x4 bs.length d4,.slice x5 cz.len d5] 28 (0,0)):=ay _ _;have eO:w.heap.size < (w.alloc (.cells #[.int .i64 3,.string nm,.bool g,.slice x1 az.length d1,.slice x2 ws.length d2,.slice x3 ks.len d3,.slice x4 bs.length d4,.slice x5 cz.len d5] 28)).heap.size:=by simp only [zd];omega
 have dw:=iY 3 nm g az ws ks bs cz x1 d1 x2 d2 x3 d3 x4 d4 x5 d5 (w.alloc (.cells #[.int .i64 3,.string nm,.bool g,.slice x1 az.length d1,.slice x2 ws.length d2,.slice x3 ks.len d3,.slice x4 bs.length d4,.slice x5 cz.len d5] 28)) (h.below (ax w _));unfold aJ at dw;rw [ho] at dw;have j4:=fun w=>dm 3 w;rw [show bQ 3 = false from rfl] at j4;have aY:=kq au;have eG:=kq eO;have fP:=kq (ax w (.cells #[.int .i64 3,.string nm,.bool g,.slice x1 az.length d1,.slice x2 ws.length d2,.slice x3 ks.len d3,.slice x4 bs.length d4,.slice x5 cz.len d5] 28));have dP:=kq dw;have nC:=kq j4;clear au eO dw j4;have lZ:=fun w=>di 3 d (by omega) w;rw [show gp 3 d = d from rfl] at lZ;have oQ:=kq lZ;clear lZ;rw [fT];have uH:=h.hks.le;unfold aJ
 by_cases hq:ks.len = 2
 ·obtain ⟨k0,pI,g0,pJ,pK,ko,ku,pM,k1,dE,g1,dB,dC,bM,dD,cK,rfl⟩:=Cm hq h.xU;obtain ⟨b,o,rfl,hN0,wG⟩:=Gm h.hks;have Oz:=h.hks.1;have Gn:NL.len (.node k0 pI g0 pJ pK ko ku pM (.node k1 dE g1 dB dC bM dD cK .nil)) = 2:=rfl;have PR:NL.okN (.node k0 pI g0 pJ pK ko ku pM .nil) true = true:=by
   have:=h.xU;simp only [NL.okN,ud] at this ⊢
   exact ⟨⟨⟨this.1.1.1,this.1.1.2⟩,this.1.2⟩,trivial⟩
  have PS:NL.okN (.node k1 dE g1 dB dC bM dD cK .nil) true = true:=by
   have:=h.xU;simp only [NL.okN,ud] at this ⊢
   exact ⟨⟨⟨this.2.1.1.1,this.2.1.1.2⟩,this.2.1.2⟩,trivial⟩
  have PT:NL.size (.node k0 pI g0 pJ pK ko ku pM .nil)≤n:=by simp only [NL.size] at hks ⊢;omega
  have pO:NL.size (.node k1 dE g1 dB dC bM dD cK .nil)≤n:=by simp only [NL.size] at hks ⊢;omega
  have BZ:fB (.node k0 pI g0 pJ pK ko ku pM .nil):=⟨jd.1,jd.2.1,jd.2.2.1,trivial⟩;have jT:fB (.node k1 dE g1 dB dC bM dD cK .nil):=⟨jd.2.2.2.1,jd.2.2.2.2.1,jd.2.2.2.2.2.1,trivial⟩;have hI:=fun W pb (hb:Below w.heap.size w W) hp=>zK n hR (.node k0 pI g0 pJ pK ko ku pM .nil) PT PR BZ d pb hd (some ⟨b,o,none⟩) d3 m W (hN0.below hb) (cell_below hb hm) hp;have hU:=fun W pb (hb:Below w.heap.size w W) hp=>Gj n hR (.node k1 dE g1 dB dC bM dD cK .nil) pO PS jT d pb hd (some ⟨b,o + 8,none⟩) (d3 - 1) m W (wG.below hb) (cell_below hb hm) hp;rw [show NL.len (.node k0 pI g0 pJ pK ko ku pM .nil) = 1 from rfl] at hI;rw [show NL.len (.node k1 dE g1 dB dC bM dD cK .nil) = 1 from rfl] at hU;have bH:kindB 3 nm g az ws (.node k0 pI g0 pJ pK ko ku pM (.node k1 dE g1 dB dC bM dD cK .nil)) bs (rt (.node k0 pI g0 pJ pK ko ku pM (.node k1 dE g1 dB dC bM dD cK .nil)) (d)) (rt cz (d)) = ((allS kL (.node k0 pI g0 pJ pK ko ku pM .nil) && rt (.node k0 pI g0 pJ pK ko ku pM .nil) d) && (allS ni (.node k1 dE g1 dB dC bM dD cK .nil) && rt (.node k1 dE g1 dB dC bM dD cK .nil) d)):=by
   have e1:∀ RK RC,kindB 3 nm g az ws (.node k0 pI g0 pJ pK ko ku pM (.node k1 dE g1 dB dC bM dD cK .nil)) bs RK RC = ((dN k0 && ik k1) && RK):=fun RK RC=>by simp [kindB,NL.len]
   have e2:rt (.node k0 pI g0 pJ pK ko ku pM (.node k1 dE g1 dB dC bM dD cK .nil)) d = (aW k0 pI g0 pJ pK ko ku pM d && (aW k1 dE g1 dB dC bM dD cK d && true)):=rfl;rw [e1,e2];show _ = (((dN k0 && true) && (aW k0 pI g0 pJ pK ko ku pM d && true)) && ((ik k1 && true) && (aW k1 dE g1 dB dC bM dD cK d && true)));generalize aW k0 pI g0 pJ pK ko ku pM d = r0;generalize aW k1 dE g1 dB dC bM dD cK d = r1;cases dN k0 <;> cases ik k1 <;> cases r0 <;> cases r1 <;> rfl
  rw [bH];rw [Gn] at Oz uH aY dP eG fP ⊢
  generalize (allS kL (.node k0 pI g0 pJ pK ko ku pM .nil) && rt (.node k0 pI g0 pJ pK ko ku pM .nil) d) = A0 at hI ⊢
  generalize (allS ni (.node k1 dE g1 dB dC bM dD cK .nil) && rt (.node k1 dE g1 dB dC bM dD cK .nil) d) = A1 at hU ⊢
  have YF:1≤d3:=by omega
  have YG:¬ (d3 = 1):=by omega
  have YH:¬ (d3 = 0):=by omega
  have YI:((1:Int)≤(d3:Int)) = True:=by rw [eq_iff_iff,iff_true];omega
  have VX:((2:Int)≤(d3:Int)) = True:=by rw [eq_iff_iff,iff_true];omega
  have hI2:=kq hI;have hU2:=kq hU;clear hI hU bH fT h fO jd kF hm hR ho hN0 wG PR PS PT pO BZ jT hq Gn hks;go_enter Tryz.func46,Tryz.ntmps46
  go_wp2_with (first
   | (go_at_call 66;refine (nC.out _).mono ?_;rintro e w' ⟨rfl,rfl⟩)
   | (go_at_call 67;refine (dP.out).mono ?_;rintro e w1 ⟨rfl,aP⟩;have aC:=(aP.block _ eG.out).trans aY.out;have q0:=dx aC;have q1:=dA aC;have q2:=ed aC;have q3:=fA aC;have q4:=dS aC;have q5:=dZ aC;have q6:=fU aC;have q7:=gz aC;have kG:w.heap.size < w1.heap.size:=kd eG.out aP.size;have dH:=kq (ak fP.out aP);clear aC aP)
   | (go_at_call 68;refine (oQ.out _).mono ?_;rintro e w' ⟨rfl,rfl⟩))
  have qp:=j3 w1 (d);have d9:=ak dH.out (bY w1 (.cells #[.int .i64 d] 3) (.cells #[.func (.func 69) #[] #[.pointer (some ⟨w1.heap.size,0,none⟩)]] 100));have k5:=cell_below (bY w1 (.cells #[.int .i64 d] 3) (.cells #[.func (.func 69) #[] #[.pointer (some ⟨w1.heap.size,0,none⟩)]] 100)) q5;generalize ((w1.alloc (.cells #[.int .i64 d] 3)).alloc (.cells #[.func (.func 69) #[] #[.pointer (some ⟨w1.heap.size,0,none⟩)]] 100)) = W2 at qp d9 k5 ⊢
  have k6:=cell_regrown qp.2;have k7:=cell_regrown k5;have hi:=fun dd os=>Calls.regrown_of (hI2.out (grow (redrawn W2 dd) os) w1.heap.size (ak d9 (below_regrown W2 dd os)) (cell_regrown qp.1 dd os));have hu:=fun dd os=>Calls.regrown_of (hU2.out (grow (redrawn W2 dd) os) w1.heap.size (ak d9 (below_regrown W2 dd os)) (cell_regrown qp.1 dd os));have HI:=kq hi;have HU:=kq hu;clear hi hu;have DI:=kq d9;clear d9 qp k5;cases A0
  ·refine Qu.region (by kernel_rfl) (by kernel_rfl) ?_
   repeat (first
    | (first | refine Qu.eU rfl (fun K hK=>?_) | refine Qu.eT rfl rfl rfl (fun K hK=>?_)
       go_simp
       first
       | (refine hK _ ?_;clear hK K)
       | (apply Exists.intro;refine ⟨fun _=>?_,hK _ ?_⟩;(go_at_call 69;exact HI.out _ _);clear hK K))
    | (refine Qu.gQ rfl rfl rfl (fun K hK=>?_);go_simp;refine hK _ ?_;clear hK K))
   refine Qu.fin ?_;rintro ⟨dq,iB⟩;go_wp2_with fail;go_ret;exact ⟨rfl,ak DI.out (below_regrown W2 dq iB)⟩
  ·cases A1
   all_goals
    refine Qu.region (by kernel_rfl) (by kernel_rfl) ?_
    repeat (first
     | (first | refine Qu.eU rfl (fun K hK=>?_) | refine Qu.eT rfl rfl rfl (fun K hK=>?_)
        go_simp
        first
        | (refine hK _ ?_;clear hK K)
        | (apply Exists.intro;refine ⟨fun _=>?_,hK _ ?_⟩;(first | (go_at_call_of 69 (Value.slice (some ⟨b,o,none⟩) 1 d3);exact HI.out _ _) | (go_at_call 69;exact HU.out _ _));clear hK K))
     | (refine Qu.gQ rfl rfl rfl (fun K hK=>?_);go_simp;refine hK _ ?_;clear hK K))
    refine Qu.fin ?_;rintro ⟨dq,iB⟩;go_wp2_with fail;go_ret;exact ⟨rfl,ak DI.out (below_regrown W2 dq iB)⟩
 ·have yN:((ks.len:Int) == 2) = false:=by rw [beq_eq_false_iff_ne];omega
  have bH:kindB 3 nm g az ws ks bs (rt ks (d)) (rt cz (d)) = false:=by unfold kindB;simp [hq]
  rw [bH];clear bH fT h fO jd kF hm hR ho hq;go_enter Tryz.func46,Tryz.ntmps46
  go_wp2_with (first
   | (go_at_call 66;refine (nC.out _).mono ?_;rintro e w' ⟨rfl,rfl⟩)
   | (go_at_call 67;refine (dP.out).mono ?_;rintro e w1 ⟨rfl,aP⟩;have aC:=(aP.block _ eG.out).trans aY.out;have q0:=dx aC;have q1:=dA aC;have q2:=ed aC;have q3:=fA aC;have q4:=dS aC;have q5:=dZ aC;have q6:=fU aC;have q7:=gz aC;have kG:w.heap.size < w1.heap.size:=kd eG.out aP.size;have dH:=kq (ak fP.out aP);clear aC aP)
   | (go_at_call 68;refine (oQ.out _).mono ?_;rintro e w' ⟨rfl,rfl⟩))
  have qp:=j3 w1 (d);have d9:=ak dH.out (bY w1 (.cells #[.int .i64 d] 3) (.cells #[.func (.func 69) #[] #[.pointer (some ⟨w1.heap.size,0,none⟩)]] 100));have k5:=cell_below (bY w1 (.cells #[.int .i64 d] 3) (.cells #[.func (.func 69) #[] #[.pointer (some ⟨w1.heap.size,0,none⟩)]] 100)) q5;generalize ((w1.alloc (.cells #[.int .i64 d] 3)).alloc (.cells #[.func (.func 69) #[] #[.pointer (some ⟨w1.heap.size,0,none⟩)]] 100)) = W2 at qp d9 k5 ⊢
  have k6:=cell_regrown qp.2;have k7:=cell_regrown k5;have DI:=kq d9;clear d9 qp k5;refine Qu.region (by kernel_rfl) (by kernel_rfl) ?_
  repeat (first
   | (first | refine Qu.eU rfl (fun K hK=>?_) | refine Qu.eT rfl rfl rfl (fun K hK=>?_)
      go_simp
      first
      | (refine hK _ ?_;clear hK K)
      | (apply Exists.intro;refine ⟨fun _=>?_,hK _ ?_⟩;(fail);clear hK K))
   | (refine Qu.gQ rfl rfl rfl (fun K hK=>?_);go_simp;refine hK _ ?_;clear hK K))
  refine Qu.fin ?_;rintro ⟨dq,iB⟩;go_wp2_with fail;go_ret;exact ⟨rfl,ak DI.out (below_regrown W2 dq iB)⟩
end Tr
namespace Tr
open j6 Pt
theorem right_step (n:Nat) (hR:eu n):eu (n + 1):=by
 intro k nm g az ws ks bs cz x1 d1 x2 d2 x3 d3 x4 d4 x5 d5 d m w bU hd h fO jd kF hm;have hks:ks.size≤n:=by omega
 have hcs:cz.size≤n:=by omega
 cases hc:bQ k
 ·cases ho:ownB k nm g az ws ks bs cz
  ·exact yx n hR k nm g az ws ks bs cz x1 d1 x2 d2 x3 d3 x4 d4 x5 d5 d m w hks hcs hd h fO jd kF hm hc (.inr hc) ho
  ·have UG:∀ j:Int,6≤j→j≤13→(k == j) = false:=by
    intro j h1 h2;rw [beq_eq_false_iff_ne];rintro rfl;simp [bQ,h1,h2] at hc
   by_cases e1:k = 1
   ·subst e1;exact Ta n hR nm g az ws ks bs cz x1 d1 x2 d2 x3 d3 x4 d4 x5 d5 d m w hks hcs hd h fO jd kF hm ho
   have g1:(k == 1) = false:=by rw [beq_eq_false_iff_ne];exact e1
   by_cases e2:k = 2
   ·subst e2;exact Td n hR nm g az ws ks bs cz x1 d1 x2 d2 x3 d3 x4 d4 x5 d5 d m w hks hcs hd h fO jd kF hm ho
   have g2:(k == 2) = false:=by rw [beq_eq_false_iff_ne];exact e2
   by_cases e3:k = 3
   ·subst e3;exact Te n hR nm g az ws ks bs cz x1 d1 x2 d2 x3 d3 x4 d4 x5 d5 d m w hks hcs hd h fO jd kF hm ho
   have g3:(k == 3) = false:=by rw [beq_eq_false_iff_ne];exact e3
   by_cases e4:k = 4
   ·subst e4;exact SS n hR nm g az ws ks bs cz x1 d1 x2 d2 x3 d3 x4 d4 x5 d5 d m w hks hcs hd h fO jd kF hm ho
   have g4:(k == 4) = false:=by rw [beq_eq_false_iff_ne];exact e4
   by_cases e5:k = 5
   ·subst e5;exact SV n hR nm g az ws ks bs cz x1 d1 x2 d2 x3 d3 x4 d4 x5 d5 d m w hks hcs hd h fO jd kF hm ho
   have g5:(k == 5) = false:=by rw [beq_eq_false_iff_ne];exact e5
   exact PQ n hR k nm g az ws ks bs cz x1 d1 x2 d2 x3 d3 x4 d4 x5 d5 d m w hks hcs hd h fO jd kF hm hc g1 g2 g3 g4 g5 (UG 6 (by decide) (by decide)) (UG 7 (by decide) (by decide)) (UG 8 (by decide) (by decide)) (UG 9 (by decide) (by decide)) (UG 10 (by decide) (by decide)) (UG 11 (by decide) (by decide)) (UG 12 (by decide) (by decide)) (UG 13 (by decide) (by decide)) ho
 ·by_cases h2:200 < d
  ·exact JD n hR k nm g az ws ks bs cz x1 d1 x2 d2 x3 d3 x4 d4 x5 d5 d m w hks hcs hd h fO jd kF hm hc h2
  ·have lT:d≤200:=by omega
   cases ho:ownB k nm g az ws ks bs cz
   ·exact zN n hR k nm g az ws ks bs cz x1 d1 x2 d2 x3 d3 x4 d4 x5 d5 d m w hks hcs hd h fO jd kF hm hc (.inl lT) ho
   ·have hk:6≤k∧k≤13:=by simpa [bQ] using hc
    have hkk:k = 6∨k = 7∨k = 8∨k = 9∨k = 10∨k = 11∨k = 12∨k = 13:=by omega
    rcases hkk with rfl | rfl | rfl | rfl | rfl | rfl | rfl | rfl
    ·exact SX n hR nm g az ws ks bs cz x1 d1 x2 d2 x3 d3 x4 d4 x5 d5 d m w hks hcs hd h fO jd kF hm lT ho
    ·exact SY n hR nm g az ws ks bs cz x1 d1 x2 d2 x3 d3 x4 d4 x5 d5 d m w hks hcs hd h fO jd kF hm lT ho
    ·exact S9 n hR nm g az ws ks bs cz x1 d1 x2 d2 x3 d3 x4 d4 x5 d5 d m w hks hcs hd h fO jd kF hm lT ho
    ·exact Tc n hR nm g az ws ks bs cz x1 d1 x2 d2 x3 d3 x4 d4 x5 d5 d m w hks hcs hd h fO jd kF hm lT ho
    ·exact PO n hR nm g az ws ks bs cz x1 d1 x2 d2 x3 d3 x4 d4 x5 d5 d m w hks hcs hd h fO jd kF hm lT ho
    ·exact PK n hR nm g az ws ks bs cz x1 d1 x2 d2 x3 d3 x4 d4 x5 d5 d m w hks hcs hd h fO jd kF hm lT ho
    ·exact PM n hR nm g az ws ks bs cz x1 d1 x2 d2 x3 d3 x4 d4 x5 d5 d m w hks hcs hd h fO jd kF hm lT ho
    ·exact PP n hR nm g az ws ks bs cz x1 d1 x2 d2 x3 d3 x4 d4 x5 d5 d m w hks hcs hd h fO jd kF hm lT ho
theorem Gp:∀ n,eu n
 | 0=>fun _ _ _ _ _ _ _ _ _ _ _ _ _ _ _ _ _ _ _ _ _ h=>absurd h (Nat.not_lt_zero _)
 | n + 1=>right_step n (Gp n)
theorem MQ (k:Int) (nm:ByteArray) (g:Bool) (az:List (ByteArray × PL)) (ws:List PL) (ks:NL) (bs:List Bool) (cz:NL) (x1 d1 x2 d2 x3 d3 x4 d4 x5 d5) (m:Int) (w:World) (h:Holds w nm az ws ks bs cz x1 d1 x2 d2 x3 d3 x4 d4 x5 d5) (fO:∀ l ∈ ws,ui l) (jd:fB ks) (kF:fB cz) (hm:w.cell? ⟨0,0,none⟩ = some (.int .i64 m)) :
  Calls Tryz.prog 22 #[.agg (aJ k nm g x1 az.length d1 x2 ws.length d2 x3 ks.len d3 x4 bs.length d4 x5 cz.len d5)] w fun e w'=>e = .returned (.bool (aW k nm g az ws ks bs cz 1))∧Below w.heap.size w w':=by
 have hR:=Gp (ks.size + cz.size + 1) k nm g az ws ks bs cz x1 d1 x2 d2 x3 d3 x4 d4 x5 d5 1 m (w.alloc (.cells #[.int .i64 k,.string nm,.bool g,.slice x1 az.length d1,.slice x2 ws.length d2,.slice x3 ks.len d3,.slice x4 bs.length d4,.slice x5 cz.len d5] 28)) (Nat.lt_succ_self _) (by omega) (h.below (ax _ _)) fO jd kF (cell_below (ax _ _) hm);unfold aJ at hR ⊢
 have HR:=kq hR;clear hR h fO jd kF hm;go_enter Tryz.func22,Tryz.ntmps22;go_wp2_with (go_at_call 46;refine (HR.out).mono ?_;rintro e w1 ⟨rfl,hb⟩);go_ret;exact ⟨rfl,ak (ax _ _) (by assumption)⟩
end Tr
namespace Tr
open j6 Pt
structure jU (pb:Nat) (w w':World):Prop where
 os:w'.os = w.os
 tape:w'.tape = w.tape
 output:w'.output = w.output
 size:w.heap.size≤w'.heap.size
 block:∀ b,b < w.heap.size→b ≠ pb→w'.heap[b]? = w.heap[b]?
theorem jU.refl (pb:Nat) (w:World):jU pb w w:=⟨rfl,rfl,rfl,vi _,fun _ _ _=>rfl⟩
theorem jU.trans {pb:Nat} {w w' ut:World} (h:jU pb w w') (k:jU pb w' ut):jU pb w ut :=
 ⟨k.os.trans h.os,k.tape.trans h.tape,k.output.trans h.output,Nat.le_trans h.size k.size,fun b hb hn=>(k.block b (kd hb h.size) hn).trans (h.block b hb hn)⟩
theorem jU.of_below {pb:Nat} {w w':World} (h:Below w.heap.size w w'):jU pb w w':=⟨h.os,h.tape,h.output,h.size,fun b hb _=>h.block b hb⟩
theorem jU.set {pb:Nat} (w:World) (i:Nat) (v:Value):jU pb w (w.setCell ⟨pb,i,none⟩ v):=⟨rfl,rfl,rfl,by simp,fun b _ hn=>Below.heap_setCell _ _ _ _ hn⟩
theorem jU.below {pb:Nat} {w0 w w':World} (h:jU pb w w') (hb:Below w0.heap.size w0 w) (hp:w0.heap.size≤pb):Below w0.heap.size w0 w' :=
 ⟨h.os.trans hb.os,h.tape.trans hb.tape,h.output.trans hb.output,Nat.le_trans hb.size h.size,fun b aB=>(h.block b (kd aB hb.size) (by omega)).trans (hb.block b aB)⟩
end Tr
namespace Tr
open j6 Pt
theorem sD (k:Int) (nm:ByteArray) (g:Bool) (az:List (ByteArray × PL)) (ws:List PL) (ks:NL) (bs:List Bool) (cz:NL) (x1 d1 x2 d2 x3 d3 x4 d4 x5 d5) (m:Int) (w:World) (h:Holds w nm az ws ks bs cz x1 d1 x2 d2 x3 d3 x4 d4 x5 d5) (fO:∀ l ∈ ws,ui l) (jd:fB ks) (kF:fB cz) (hm:w.cell? ⟨0,0,none⟩ = some (.int .i64 m)) :
  Calls Tryz.prog 15 #[.agg (aJ k nm g x1 az.length d1 x2 ws.length d2 x3 ks.len d3 x4 bs.length d4 x5 cz.len d5)] w fun e w'=>e = .returned (.bool (k == 5 && aW k nm g az ws ks bs cz 1))∧Below w.heap.size w w':=by
 have hR:=fun X=>MQ k nm g az ws ks bs cz x1 d1 x2 d2 x3 d3 x4 d4 x5 d5 m (w.alloc X) (h.below (ax _ _)) fO jd kF (cell_below (ax _ _) hm);unfold aJ at hR ⊢
 have HR:=kq hR;clear hR h fO jd kF hm;cases h5:(k == 5)
 ·go_enter Tryz.func15,Tryz.ntmps15;go_wp2_with fail;go_ret;exact ⟨rfl,ax _ _⟩
 ·go_enter Tryz.func15,Tryz.ntmps15;go_wp2_with (go_at_call 22;refine (HR.out _).mono ?_;rintro e w1 ⟨rfl,hb⟩);go_ret;exact ⟨ai rfl,ak (ax _ _) (by assumption)⟩
end Tr
end Go.Proofs.YtckakkeejekibaaGreatDoor
