/- rightAt for a simple command, a loop over words, cases, a function, and what is no kind. -/
import Derived.Test.YtjmpfihopeohbaaGreatDoorTrL
set_option maxHeartbeats 1600000
set_option maxRecDepth 100000
namespace Go.Proofs.YtjmpfihopeohbaaGreatDoor
open Go.RowKit Go.Sort
namespace Tr
open Cls Pt
theorem right_1 (n:Nat) (hR:RightAt n) (nm:ByteArray) (g:Bool) (az:List (ByteArray × PL)) (ws:List PL) (ks:NL) (bs:List Bool) (cz:NL) (x1 d1 x2 d2 x3 d3 x4 d4 x5 d5) (d:Nat) (m:Int) (w:World) (hks:ks.size≤n) (hcs:cz.size≤n) (hd:d≤201) (h:Holds w nm az ws ks bs cz x1 d1 x2 d2 x3 d3 x4 d4 x5 d5) (hok:∀ l ∈ ws,wOK l) (hfk:fitN ks) (hfc:fitN cz) (hm:w.cell? ⟨0,0,none⟩ = some (.int .i64 m)) (ho:ownB 1 nm g az ws ks bs cz = true) :
  Calls Tryz.prog 46 #[.agg (nodeV 1 nm g x1 az.length d1 x2 ws.length d2 x3 ks.len d3 x4 bs.length d4 x5 cz.len d5),.int .i64 d] w fun e w'=>e = .returned (.bool (nodeR 1 nm g az ws ks bs cz d))∧Below w.heap.size w w':=by
 have hkind:nodeR 1 nm g az ws ks bs cz d = kindB 1 nm g az ws ks bs (rt ks (d)) (rt cz (d)):=by
  unfold nodeR;rw [show deepB 1 d = false from rfl,ho];rfl
 have hrow:(w.alloc (.cells #[.int .i64 1,.string nm,.bool g,.slice x1 az.length d1,.slice x2 ws.length d2,.slice x3 ks.len d3,.slice x4 bs.length d4,.slice x5 cz.len d5] 28)).heap[w.heap.size]? = some (.cells #[.int .i64 1,.string nm,.bool g,.slice x1 az.length d1,.slice x2 ws.length d2,.slice x3 ks.len d3,.slice x4 bs.length d4,.slice x5 cz.len d5] 28 (0,0)):=heap_new' _ _;have hlt0:w.heap.size < (w.alloc (.cells #[.int .i64 1,.string nm,.bool g,.slice x1 az.length d1,.slice x2 ws.length d2,.slice x3 ks.len d3,.slice x4 bs.length d4,.slice x5 cz.len d5] 28)).heap.size:=by simp only [World.size_alloc];omega
 have hOWN:=own_any 1 nm g az ws ks bs cz x1 d1 x2 d2 x3 d3 x4 d4 x5 d5 (w.alloc (.cells #[.int .i64 1,.string nm,.bool g,.slice x1 az.length d1,.slice x2 ws.length d2,.slice x3 ks.len d3,.slice x4 bs.length d4,.slice x5 cz.len d5] 28)) (h.below (bel1 w _));unfold nodeV at hOWN;rw [ho] at hOWN;have hCN:=fun w=>counts_any 1 w;rw [show countsB 1 = false from rfl] at hCN;have HROW:=Lib.hid hrow;have HLT:=Lib.hid hlt0;have HB0:=Lib.hid (bel1 w (.cells #[.int .i64 1,.string nm,.bool g,.slice x1 az.length d1,.slice x2 ws.length d2,.slice x3 ks.len d3,.slice x4 bs.length d4,.slice x5 cz.len d5] 28));have HOWN:=Lib.hid hOWN;have HCN:=Lib.hid hCN;clear hrow hlt0 hOWN hCN;have hWI:=fun w=>within_any 1 d (by omega) w;rw [show withinD 1 d = d from rfl] at hWI;have HWI:=Lib.hid hWI;clear hWI;have hSM:=fun W (hb:Below w.heap.size w W)=>rightSimple_any 1 nm g az ws ks bs cz x1 d1 x2 d2 x3 d3 x4 d4 x5 d5 m W (h.below hb) hok (cell_below hb hm);rw [hkind,show kindB 1 nm g az ws ks bs (rt ks (d)) (rt cz (d)) = simpleB az ws from rfl];unfold nodeV at hSM;have hle3:=h.hks.le;have HSM:=Lib.hid hSM;clear hSM;clear hkind h hok hfk hfc hm hR ho;unfold nodeV;go_enter Tryz.func46,Tryz.ntmps46
 go_wp2_with (first
   | (go_at_call 66;refine (HCN.out _).mono ?_;rintro e w' ⟨rfl,rfl⟩)
   | (go_at_call 67;refine (HOWN.out).mono ?_;rintro e w1 ⟨rfl,hb1⟩;have hrw:=(hb1.block _ HLT.out).trans HROW.out;have q0:=zc0 hrw;have q1:=zc1 hrw;have q2:=zc2 hrw;have q3:=zc3 hrw;have q4:=zc4 hrw;have q5:=zc5 hrw;have q6:=zc6 hrw;have q7:=zc7 hrw;have hlt1:w.heap.size < w1.heap.size:=Nat.lt_of_lt_of_le HLT.out hb1.size;have HBW1:=Lib.hid (thru HB0.out hb1);clear hrw hb1)
   | (go_at_call 68;refine (HWI.out _).mono ?_;rintro e w' ⟨rfl,rfl⟩)
   | (go_at_call 70;refine (HSM.out _ (thru HBW1.out (bel2 _ _ _))).mono ?_;rintro e w2 ⟨rfl,hb2⟩))
 go_ret;exact ⟨rfl,thru (thru HBW1.out (bel2 _ _ _)) (by assumption)⟩
theorem right_9 (n:Nat) (hR:RightAt n) (nm:ByteArray) (g:Bool) (az:List (ByteArray × PL)) (ws:List PL) (ks:NL) (bs:List Bool) (cz:NL) (x1 d1 x2 d2 x3 d3 x4 d4 x5 d5) (d:Nat) (m:Int) (w:World) (hks:ks.size≤n) (hcs:cz.size≤n) (hd:d≤201) (h:Holds w nm az ws ks bs cz x1 d1 x2 d2 x3 d3 x4 d4 x5 d5) (hok:∀ l ∈ ws,wOK l) (hfk:fitN ks) (hfc:fitN cz) (hm:w.cell? ⟨0,0,none⟩ = some (.int .i64 m)) (hd2:d≤200) (ho:ownB 9 nm g az ws ks bs cz = true) :
  Calls Tryz.prog 46 #[.agg (nodeV 9 nm g x1 az.length d1 x2 ws.length d2 x3 ks.len d3 x4 bs.length d4 x5 cz.len d5),.int .i64 d] w fun e w'=>e = .returned (.bool (nodeR 9 nm g az ws ks bs cz d))∧Below w.heap.size w w':=by
 have hkind:nodeR 9 nm g az ws ks bs cz d = kindB 9 nm g az ws ks bs (rt ks (d + 1)) (rt cz (d + 1)):=by
  unfold nodeR;rw [show deepB 9 d = false from by unfold deepB;rw [decide_eq_false (by omega)];simp,ho];rfl
 have hgt:((200:Int) < (d:Int)) = False:=by rw [eq_iff_iff,iff_false];omega
 have hrow:(w.alloc (.cells #[.int .i64 9,.string nm,.bool g,.slice x1 az.length d1,.slice x2 ws.length d2,.slice x3 ks.len d3,.slice x4 bs.length d4,.slice x5 cz.len d5] 28)).heap[w.heap.size]? = some (.cells #[.int .i64 9,.string nm,.bool g,.slice x1 az.length d1,.slice x2 ws.length d2,.slice x3 ks.len d3,.slice x4 bs.length d4,.slice x5 cz.len d5] 28 (0,0)):=heap_new' _ _;have hlt0:w.heap.size < (w.alloc (.cells #[.int .i64 9,.string nm,.bool g,.slice x1 az.length d1,.slice x2 ws.length d2,.slice x3 ks.len d3,.slice x4 bs.length d4,.slice x5 cz.len d5] 28)).heap.size:=by simp only [World.size_alloc];omega
 have hOWN:=own_any 9 nm g az ws ks bs cz x1 d1 x2 d2 x3 d3 x4 d4 x5 d5 (w.alloc (.cells #[.int .i64 9,.string nm,.bool g,.slice x1 az.length d1,.slice x2 ws.length d2,.slice x3 ks.len d3,.slice x4 bs.length d4,.slice x5 cz.len d5] 28)) (h.below (bel1 w _));unfold nodeV at hOWN;rw [ho] at hOWN;have hCN:=fun w=>counts_any 9 w;rw [show countsB 9 = true from rfl] at hCN;have HROW:=Lib.hid hrow;have HLT:=Lib.hid hlt0;have HB0:=Lib.hid (bel1 w (.cells #[.int .i64 9,.string nm,.bool g,.slice x1 az.length d1,.slice x2 ws.length d2,.slice x3 ks.len d3,.slice x4 bs.length d4,.slice x5 cz.len d5] 28));have HOWN:=Lib.hid hOWN;have HCN:=Lib.hid hCN;clear hrow hlt0 hOWN hCN;have hWI:=fun w=>within_any 9 d (by omega) w;rw [show withinD 9 d = d + 1 from rfl] at hWI;have HWI:=Lib.hid hWI;clear hWI;have hALL:=fun W pb (hb:Below w.heap.size w W) hp=>all_body n hR ks hks h.okk hfk (d + 1) pb (by omega) x3 d3 m W (h.hks.below hb) (cell_below hb hm) hp;have hFR:=fun W (hb:Below w.heap.size w W)=>rightFor_any 9 nm g az ws ks bs cz x1 d1 x2 d2 x3 d3 x4 d4 x5 d5 W (h.below hb);unfold nodeV at hFR;rw [hkind];have hle3:=h.hks.le;have HALL:=Lib.hid hALL;clear hALL;clear hkind h hok hfk hfc hm hR ho;unfold nodeV
 by_cases hq:ks.len = 1
 ·have hq1:((ks.len:Int) == 1) = true:=by rw [hq];rfl
  cases hf:forB nm g ws
  all_goals
   rw [hf] at hFR;have HFR:=Lib.hid hFR;clear hFR
  ·have hans:kindB 9 nm g az ws ks bs (rt ks (d + 1)) (rt cz (d + 1)) = false:=by unfold kindB;simp [hq,hf]
   rw [hans];clear hans hq hf;go_enter Tryz.func46,Tryz.ntmps46
   go_wp2_with (first
   | (go_at_call 66;refine (HCN.out _).mono ?_;rintro e w' ⟨rfl,rfl⟩)
   | (go_at_call 67;refine (HOWN.out).mono ?_;rintro e w1 ⟨rfl,hb1⟩;have hrw:=(hb1.block _ HLT.out).trans HROW.out;have q0:=zc0 hrw;have q1:=zc1 hrw;have q2:=zc2 hrw;have q3:=zc3 hrw;have q4:=zc4 hrw;have q5:=zc5 hrw;have q6:=zc6 hrw;have q7:=zc7 hrw;have hlt1:w.heap.size < w1.heap.size:=Nat.lt_of_lt_of_le HLT.out hb1.size;have HBW1:=Lib.hid (thru HB0.out hb1);clear hrw hb1)
   | (go_at_call 68;refine (HWI.out _).mono ?_;rintro e w' ⟨rfl,rfl⟩)
   | (go_at_call 75;refine (HFR.out _ (thru HBW1.out (bel2 _ _ _))).mono ?_;rintro e w2 ⟨rfl,hb2⟩;have hc2:=(clo_mk _ _).below hb2;have p2:=hc2.2;have qq:w2.cell? ⟨w.heap.size,5,none⟩ = some (.slice x3 ks.len d3):=cell_below (thru (bel2 _ _ _) hb2) q5;have HB2:=Lib.hid (thru HBW1.out (thru (bel2 _ _ _) hb2));have HC2:=Lib.hid hc2;clear hc2))
   go_ret;exact ⟨rfl,HB2.out⟩
  ·have hans:kindB 9 nm g az ws ks bs (rt ks (d + 1)) (rt cz (d + 1)) = (allS bodyB ks && rt ks (d + 1)):=by unfold kindB;simp [hq,hf]
   rw [hans];clear hans hq hf;go_enter Tryz.func46,Tryz.ntmps46
   go_wp2_with (first
   | (go_at_call 66;refine (HCN.out _).mono ?_;rintro e w' ⟨rfl,rfl⟩)
   | (go_at_call 67;refine (HOWN.out).mono ?_;rintro e w1 ⟨rfl,hb1⟩;have hrw:=(hb1.block _ HLT.out).trans HROW.out;have q0:=zc0 hrw;have q1:=zc1 hrw;have q2:=zc2 hrw;have q3:=zc3 hrw;have q4:=zc4 hrw;have q5:=zc5 hrw;have q6:=zc6 hrw;have q7:=zc7 hrw;have hlt1:w.heap.size < w1.heap.size:=Nat.lt_of_lt_of_le HLT.out hb1.size;have HBW1:=Lib.hid (thru HB0.out hb1);clear hrw hb1)
   | (go_at_call 68;refine (HWI.out _).mono ?_;rintro e w' ⟨rfl,rfl⟩)
   | (go_at_call 75;refine (HFR.out _ (thru HBW1.out (bel2 _ _ _))).mono ?_;rintro e w2 ⟨rfl,hb2⟩;have hc2:=(clo_mk _ _).below hb2;have p2:=hc2.2;have qq:w2.cell? ⟨w.heap.size,5,none⟩ = some (.slice x3 ks.len d3):=cell_below (thru (bel2 _ _ _) hb2) q5;have HB2:=Lib.hid (thru HBW1.out (thru (bel2 _ _ _) hb2));have HC2:=Lib.hid hc2;clear hc2)
   | (go_at_call 69;refine (HALL.out _ _ HB2.out HC2.out.1).mono ?_;rintro e w3 ⟨rfl,hb3⟩))
   go_ret;exact ⟨rfl,thru HB2.out (by assumption)⟩
 ·have hq1:((ks.len:Int) == 1) = false:=by rw [beq_eq_false_iff_ne];omega
  have hans:kindB 9 nm g az ws ks bs (rt ks (d + 1)) (rt cz (d + 1)) = false:=by unfold kindB;simp [hq]
  rw [hans];clear hans hq hFR;go_enter Tryz.func46,Tryz.ntmps46
  go_wp2_with (first
   | (go_at_call 66;refine (HCN.out _).mono ?_;rintro e w' ⟨rfl,rfl⟩)
   | (go_at_call 67;refine (HOWN.out).mono ?_;rintro e w1 ⟨rfl,hb1⟩;have hrw:=(hb1.block _ HLT.out).trans HROW.out;have q0:=zc0 hrw;have q1:=zc1 hrw;have q2:=zc2 hrw;have q3:=zc3 hrw;have q4:=zc4 hrw;have q5:=zc5 hrw;have q6:=zc6 hrw;have q7:=zc7 hrw;have hlt1:w.heap.size < w1.heap.size:=Nat.lt_of_lt_of_le HLT.out hb1.size;have HBW1:=Lib.hid (thru HB0.out hb1);clear hrw hb1)
   | (go_at_call 68;refine (HWI.out _).mono ?_;rintro e w' ⟨rfl,rfl⟩))
  go_ret;exact ⟨rfl,(thru HBW1.out (bel2 _ _ _))⟩
theorem right_10 (n:Nat) (hR:RightAt n) (nm:ByteArray) (g:Bool) (az:List (ByteArray × PL)) (ws:List PL) (ks:NL) (bs:List Bool) (cz:NL) (x1 d1 x2 d2 x3 d3 x4 d4 x5 d5) (d:Nat) (m:Int) (w:World) (hks:ks.size≤n) (hcs:cz.size≤n) (hd:d≤201) (h:Holds w nm az ws ks bs cz x1 d1 x2 d2 x3 d3 x4 d4 x5 d5) (hok:∀ l ∈ ws,wOK l) (hfk:fitN ks) (hfc:fitN cz) (hm:w.cell? ⟨0,0,none⟩ = some (.int .i64 m)) (hd2:d≤200) (ho:ownB 10 nm g az ws ks bs cz = true) :
  Calls Tryz.prog 46 #[.agg (nodeV 10 nm g x1 az.length d1 x2 ws.length d2 x3 ks.len d3 x4 bs.length d4 x5 cz.len d5),.int .i64 d] w fun e w'=>e = .returned (.bool (nodeR 10 nm g az ws ks bs cz d))∧Below w.heap.size w w':=by
 have hkind:nodeR 10 nm g az ws ks bs cz d = kindB 10 nm g az ws ks bs (rt ks (d + 1)) (rt cz (d + 1)):=by
  unfold nodeR;rw [show deepB 10 d = false from by unfold deepB;rw [decide_eq_false (by omega)];simp,ho];rfl
 have hgt:((200:Int) < (d:Int)) = False:=by rw [eq_iff_iff,iff_false];omega
 have hrow:(w.alloc (.cells #[.int .i64 10,.string nm,.bool g,.slice x1 az.length d1,.slice x2 ws.length d2,.slice x3 ks.len d3,.slice x4 bs.length d4,.slice x5 cz.len d5] 28)).heap[w.heap.size]? = some (.cells #[.int .i64 10,.string nm,.bool g,.slice x1 az.length d1,.slice x2 ws.length d2,.slice x3 ks.len d3,.slice x4 bs.length d4,.slice x5 cz.len d5] 28 (0,0)):=heap_new' _ _;have hlt0:w.heap.size < (w.alloc (.cells #[.int .i64 10,.string nm,.bool g,.slice x1 az.length d1,.slice x2 ws.length d2,.slice x3 ks.len d3,.slice x4 bs.length d4,.slice x5 cz.len d5] 28)).heap.size:=by simp only [World.size_alloc];omega
 have hOWN:=own_any 10 nm g az ws ks bs cz x1 d1 x2 d2 x3 d3 x4 d4 x5 d5 (w.alloc (.cells #[.int .i64 10,.string nm,.bool g,.slice x1 az.length d1,.slice x2 ws.length d2,.slice x3 ks.len d3,.slice x4 bs.length d4,.slice x5 cz.len d5] 28)) (h.below (bel1 w _));unfold nodeV at hOWN;rw [ho] at hOWN;have hCN:=fun w=>counts_any 10 w;rw [show countsB 10 = true from rfl] at hCN;have HROW:=Lib.hid hrow;have HLT:=Lib.hid hlt0;have HB0:=Lib.hid (bel1 w (.cells #[.int .i64 10,.string nm,.bool g,.slice x1 az.length d1,.slice x2 ws.length d2,.slice x3 ks.len d3,.slice x4 bs.length d4,.slice x5 cz.len d5] 28));have HOWN:=Lib.hid hOWN;have HCN:=Lib.hid hCN;clear hrow hlt0 hOWN hCN;have hWI:=fun w=>within_any 10 d (by omega) w;rw [show withinD 10 d = d + 1 from rfl] at hWI;have HWI:=Lib.hid hWI;clear hWI;have hCS:=fun W pb pf (hb:Below w.heap.size w W) (hc:Clo W pb pf (d + 1))=>rightCases_any n hR cz hcs h.okc hfc (d + 1) pb pf (by omega) x5 d5 m W (h.hcs.below hb) (cell_below hb hm) hc;have hWD:=fun W (hb:Below w.heap.size w W)=>rightWords_any ws x2 d2 W (sl_below (P:=PW) (fun h=>h.below hb) h.hws);rw [hkind];have hle3:=h.hks.le;have hle2:=h.hws.le;have HCS:=Lib.hid hCS;clear hCS;clear hkind h hok hfk hfc hm hR ho;unfold nodeV
 by_cases hq:ws.length = 1
 ·have hq1:((ws.length:Int) == 1) = true:=by rw [hq];rfl
  cases hf:ws.all rightW
  all_goals
   rw [hf] at hWD;have HWD:=Lib.hid hWD;clear hWD
  ·have hans:kindB 10 nm g az ws ks bs (rt ks (d + 1)) (rt cz (d + 1)) = false:=by
    unfold kindB;rw [hf];simp
   rw [hans];clear hans hq hf;go_enter Tryz.func46,Tryz.ntmps46
   go_wp2_with (first
   | (go_at_call 66;refine (HCN.out _).mono ?_;rintro e w' ⟨rfl,rfl⟩)
   | (go_at_call 67;refine (HOWN.out).mono ?_;rintro e w1 ⟨rfl,hb1⟩;have hrw:=(hb1.block _ HLT.out).trans HROW.out;have q0:=zc0 hrw;have q1:=zc1 hrw;have q2:=zc2 hrw;have q3:=zc3 hrw;have q4:=zc4 hrw;have q5:=zc5 hrw;have q6:=zc6 hrw;have q7:=zc7 hrw;have hlt1:w.heap.size < w1.heap.size:=Nat.lt_of_lt_of_le HLT.out hb1.size;have HBW1:=Lib.hid (thru HB0.out hb1);clear hrw hb1)
   | (go_at_call 68;refine (HWI.out _).mono ?_;rintro e w' ⟨rfl,rfl⟩)
   | (go_at_call 76;refine (HWD.out _ (thru HBW1.out (bel2 _ _ _))).mono ?_;rintro e w2 ⟨rfl,hb2⟩;have hc2:=(clo_mk _ _).below hb2;have p2:=hc2.2;have qq:w2.cell? ⟨w.heap.size,7,none⟩ = some (.slice x5 cz.len d5):=cell_below (thru (bel2 _ _ _) hb2) q7;have HB2:=Lib.hid (thru HBW1.out (thru (bel2 _ _ _) hb2));have HC2:=Lib.hid hc2;clear hc2))
   go_ret;exact ⟨rfl,HB2.out⟩
  ·have hans:kindB 10 nm g az ws ks bs (rt ks (d + 1)) (rt cz (d + 1)) = rt cz (d + 1):=by
    unfold kindB;rw [hf];simp [hq]
   rw [hans];clear hans hq hf;go_enter Tryz.func46,Tryz.ntmps46
   go_wp2_with (first
   | (go_at_call 66;refine (HCN.out _).mono ?_;rintro e w' ⟨rfl,rfl⟩)
   | (go_at_call 67;refine (HOWN.out).mono ?_;rintro e w1 ⟨rfl,hb1⟩;have hrw:=(hb1.block _ HLT.out).trans HROW.out;have q0:=zc0 hrw;have q1:=zc1 hrw;have q2:=zc2 hrw;have q3:=zc3 hrw;have q4:=zc4 hrw;have q5:=zc5 hrw;have q6:=zc6 hrw;have q7:=zc7 hrw;have hlt1:w.heap.size < w1.heap.size:=Nat.lt_of_lt_of_le HLT.out hb1.size;have HBW1:=Lib.hid (thru HB0.out hb1);clear hrw hb1)
   | (go_at_call 68;refine (HWI.out _).mono ?_;rintro e w' ⟨rfl,rfl⟩)
   | (go_at_call 76;refine (HWD.out _ (thru HBW1.out (bel2 _ _ _))).mono ?_;rintro e w2 ⟨rfl,hb2⟩;have hc2:=(clo_mk _ _).below hb2;have p2:=hc2.2;have qq:w2.cell? ⟨w.heap.size,7,none⟩ = some (.slice x5 cz.len d5):=cell_below (thru (bel2 _ _ _) hb2) q7;have HB2:=Lib.hid (thru HBW1.out (thru (bel2 _ _ _) hb2));have HC2:=Lib.hid hc2;clear hc2)
   | (go_at_call 77;refine (HCS.out _ _ _ HB2.out HC2.out).mono ?_;rintro e w3 ⟨rfl,hb3⟩))
   go_ret;exact ⟨rfl,thru HB2.out (by assumption)⟩
 ·have hq1:((ws.length:Int) == 1) = false:=by rw [beq_eq_false_iff_ne];omega
  have hans:kindB 10 nm g az ws ks bs (rt ks (d + 1)) (rt cz (d + 1)) = false:=by unfold kindB;simp [hq]
  rw [hans];clear hans hq hWD;go_enter Tryz.func46,Tryz.ntmps46
  go_wp2_with (first
   | (go_at_call 66;refine (HCN.out _).mono ?_;rintro e w' ⟨rfl,rfl⟩)
   | (go_at_call 67;refine (HOWN.out).mono ?_;rintro e w1 ⟨rfl,hb1⟩;have hrw:=(hb1.block _ HLT.out).trans HROW.out;have q0:=zc0 hrw;have q1:=zc1 hrw;have q2:=zc2 hrw;have q3:=zc3 hrw;have q4:=zc4 hrw;have q5:=zc5 hrw;have q6:=zc6 hrw;have q7:=zc7 hrw;have hlt1:w.heap.size < w1.heap.size:=Nat.lt_of_lt_of_le HLT.out hb1.size;have HBW1:=Lib.hid (thru HB0.out hb1);clear hrw hb1)
   | (go_at_call 68;refine (HWI.out _).mono ?_;rintro e w' ⟨rfl,rfl⟩))
  go_ret;exact ⟨rfl,(thru HBW1.out (bel2 _ _ _))⟩
theorem right_13 (n:Nat) (hR:RightAt n) (nm:ByteArray) (g:Bool) (az:List (ByteArray × PL)) (ws:List PL) (ks:NL) (bs:List Bool) (cz:NL) (x1 d1 x2 d2 x3 d3 x4 d4 x5 d5) (d:Nat) (m:Int) (w:World) (hks:ks.size≤n) (hcs:cz.size≤n) (hd:d≤201) (h:Holds w nm az ws ks bs cz x1 d1 x2 d2 x3 d3 x4 d4 x5 d5) (hok:∀ l ∈ ws,wOK l) (hfk:fitN ks) (hfc:fitN cz) (hm:w.cell? ⟨0,0,none⟩ = some (.int .i64 m)) (hd2:d≤200) (ho:ownB 13 nm g az ws ks bs cz = true) :
  Calls Tryz.prog 46 #[.agg (nodeV 13 nm g x1 az.length d1 x2 ws.length d2 x3 ks.len d3 x4 bs.length d4 x5 cz.len d5),.int .i64 d] w fun e w'=>e = .returned (.bool (nodeR 13 nm g az ws ks bs cz d))∧Below w.heap.size w w':=by
 have hkind:nodeR 13 nm g az ws ks bs cz d = kindB 13 nm g az ws ks bs (rt ks (d)) (rt cz (d)):=by
  unfold nodeR;rw [show deepB 13 d = false from by unfold deepB;rw [decide_eq_false (by omega)];simp,ho];rfl
 have hgt:((200:Int) < (d:Int)) = False:=by rw [eq_iff_iff,iff_false];omega
 have hrow:(w.alloc (.cells #[.int .i64 13,.string nm,.bool g,.slice x1 az.length d1,.slice x2 ws.length d2,.slice x3 ks.len d3,.slice x4 bs.length d4,.slice x5 cz.len d5] 28)).heap[w.heap.size]? = some (.cells #[.int .i64 13,.string nm,.bool g,.slice x1 az.length d1,.slice x2 ws.length d2,.slice x3 ks.len d3,.slice x4 bs.length d4,.slice x5 cz.len d5] 28 (0,0)):=heap_new' _ _;have hlt0:w.heap.size < (w.alloc (.cells #[.int .i64 13,.string nm,.bool g,.slice x1 az.length d1,.slice x2 ws.length d2,.slice x3 ks.len d3,.slice x4 bs.length d4,.slice x5 cz.len d5] 28)).heap.size:=by simp only [World.size_alloc];omega
 have hOWN:=own_any 13 nm g az ws ks bs cz x1 d1 x2 d2 x3 d3 x4 d4 x5 d5 (w.alloc (.cells #[.int .i64 13,.string nm,.bool g,.slice x1 az.length d1,.slice x2 ws.length d2,.slice x3 ks.len d3,.slice x4 bs.length d4,.slice x5 cz.len d5] 28)) (h.below (bel1 w _));unfold nodeV at hOWN;rw [ho] at hOWN;have hCN:=fun w=>counts_any 13 w;rw [show countsB 13 = true from rfl] at hCN;have HROW:=Lib.hid hrow;have HLT:=Lib.hid hlt0;have HB0:=Lib.hid (bel1 w (.cells #[.int .i64 13,.string nm,.bool g,.slice x1 az.length d1,.slice x2 ws.length d2,.slice x3 ks.len d3,.slice x4 bs.length d4,.slice x5 cz.len d5] 28));have HOWN:=Lib.hid hOWN;have HCN:=Lib.hid hCN;clear hrow hlt0 hOWN hCN;have hWI:=fun w=>within_any 13 d (by omega) w;rw [show withinD 13 d = d from rfl] at hWI;have HWI:=Lib.hid hWI;clear hWI;have hALL:=fun W pb (hb:Below w.heap.size w W) hp=>all_compound n hR ks hks h.okk hfk (d) pb (by omega) x3 d3 m W (h.hks.below hb) (cell_below hb hm) hp;have hNM:=fun W=>name_any nm W (by have:=h.hnm;unfold R at this;omega);have hRS:=fun W=>reserved_any nm W;rw [hkind];have hle3:=h.hks.le;have HALL:=Lib.hid hALL;clear hALL;clear hkind h hok hfk hfc hm hR ho;unfold nodeV
 by_cases hq:ks.len = 1
 ·have hq1:((ks.len:Int) == 1) = true:=by rw [hq];rfl
  cases hf:nameL nm.data.toList
  all_goals
   rw [hf] at hNM;have HNM:=Lib.hid hNM;clear hNM
  ·have hans:kindB 13 nm g az ws ks bs (rt ks (d)) (rt cz (d)) = false:=by unfold kindB;simp [hq,hf]
   rw [hans];clear hans hq hf hRS;go_enter Tryz.func46,Tryz.ntmps46
   go_wp2_with (first
   | (go_at_call 66;refine (HCN.out _).mono ?_;rintro e w' ⟨rfl,rfl⟩)
   | (go_at_call 67;refine (HOWN.out).mono ?_;rintro e w1 ⟨rfl,hb1⟩;have hrw:=(hb1.block _ HLT.out).trans HROW.out;have q0:=zc0 hrw;have q1:=zc1 hrw;have q2:=zc2 hrw;have q3:=zc3 hrw;have q4:=zc4 hrw;have q5:=zc5 hrw;have q6:=zc6 hrw;have q7:=zc7 hrw;have hlt1:w.heap.size < w1.heap.size:=Nat.lt_of_lt_of_le HLT.out hb1.size;have HBW1:=Lib.hid (thru HB0.out hb1);clear hrw hb1)
   | (go_at_call 68;refine (HWI.out _).mono ?_;rintro e w' ⟨rfl,rfl⟩)
   | (go_at_call 79;refine (HNM.out _).mono ?_;rintro e w' ⟨rfl,rfl⟩))
   go_ret;exact ⟨rfl,(thru HBW1.out (bel2 _ _ _))⟩
  ·cases hv:reservedL nm.data.toList
   all_goals
    rw [hv] at hRS;have HRS:=Lib.hid hRS;clear hRS
   ·have hans:kindB 13 nm g az ws ks bs (rt ks (d)) (rt cz (d)) = (allS compoundS ks && rt ks (d)):=by unfold kindB;simp [hq,hf,hv]
    rw [hans];clear hans hq hf hv;go_enter Tryz.func46,Tryz.ntmps46
    go_wp2_with (first
   | (go_at_call 66;refine (HCN.out _).mono ?_;rintro e w' ⟨rfl,rfl⟩)
   | (go_at_call 67;refine (HOWN.out).mono ?_;rintro e w1 ⟨rfl,hb1⟩;have hrw:=(hb1.block _ HLT.out).trans HROW.out;have q0:=zc0 hrw;have q1:=zc1 hrw;have q2:=zc2 hrw;have q3:=zc3 hrw;have q4:=zc4 hrw;have q5:=zc5 hrw;have q6:=zc6 hrw;have q7:=zc7 hrw;have hlt1:w.heap.size < w1.heap.size:=Nat.lt_of_lt_of_le HLT.out hb1.size;have HBW1:=Lib.hid (thru HB0.out hb1);clear hrw hb1)
   | (go_at_call 68;refine (HWI.out _).mono ?_;rintro e w' ⟨rfl,rfl⟩)
   | (go_at_call 79;refine (HNM.out _).mono ?_;rintro e w' ⟨rfl,rfl⟩)
   | (go_at_call 80;refine (HRS.out _).mono ?_;rintro e w' ⟨rfl,rfl⟩)
   | (go_at_call 69;refine (HALL.out _ _ (thru HBW1.out (bel2 _ _ _)) (clo_mk _ _).1).mono ?_;rintro e w2 ⟨rfl,hb2⟩))
    go_ret;exact ⟨rfl,thru (thru HBW1.out (bel2 _ _ _)) (by assumption)⟩
   ·have hans:kindB 13 nm g az ws ks bs (rt ks (d)) (rt cz (d)) = false:=by unfold kindB;simp [hq,hf,hv]
    rw [hans];clear hans hq hf hv;go_enter Tryz.func46,Tryz.ntmps46
    go_wp2_with (first
   | (go_at_call 66;refine (HCN.out _).mono ?_;rintro e w' ⟨rfl,rfl⟩)
   | (go_at_call 67;refine (HOWN.out).mono ?_;rintro e w1 ⟨rfl,hb1⟩;have hrw:=(hb1.block _ HLT.out).trans HROW.out;have q0:=zc0 hrw;have q1:=zc1 hrw;have q2:=zc2 hrw;have q3:=zc3 hrw;have q4:=zc4 hrw;have q5:=zc5 hrw;have q6:=zc6 hrw;have q7:=zc7 hrw;have hlt1:w.heap.size < w1.heap.size:=Nat.lt_of_lt_of_le HLT.out hb1.size;have HBW1:=Lib.hid (thru HB0.out hb1);clear hrw hb1)
   | (go_at_call 68;refine (HWI.out _).mono ?_;rintro e w' ⟨rfl,rfl⟩)
   | (go_at_call 79;refine (HNM.out _).mono ?_;rintro e w' ⟨rfl,rfl⟩)
   | (go_at_call 80;refine (HRS.out _).mono ?_;rintro e w' ⟨rfl,rfl⟩))
    go_ret;exact ⟨rfl,(thru HBW1.out (bel2 _ _ _))⟩
 ·have hq1:((ks.len:Int) == 1) = false:=by rw [beq_eq_false_iff_ne];omega
  have hans:kindB 13 nm g az ws ks bs (rt ks (d)) (rt cz (d)) = false:=by unfold kindB;simp [hq]
  rw [hans];clear hans hq hNM hRS;go_enter Tryz.func46,Tryz.ntmps46
  go_wp2_with (first
   | (go_at_call 66;refine (HCN.out _).mono ?_;rintro e w' ⟨rfl,rfl⟩)
   | (go_at_call 67;refine (HOWN.out).mono ?_;rintro e w1 ⟨rfl,hb1⟩;have hrw:=(hb1.block _ HLT.out).trans HROW.out;have q0:=zc0 hrw;have q1:=zc1 hrw;have q2:=zc2 hrw;have q3:=zc3 hrw;have q4:=zc4 hrw;have q5:=zc5 hrw;have q6:=zc6 hrw;have q7:=zc7 hrw;have hlt1:w.heap.size < w1.heap.size:=Nat.lt_of_lt_of_le HLT.out hb1.size;have HBW1:=Lib.hid (thru HB0.out hb1);clear hrw hb1)
   | (go_at_call 68;refine (HWI.out _).mono ?_;rintro e w' ⟨rfl,rfl⟩))
  go_ret;exact ⟨rfl,(thru HBW1.out (bel2 _ _ _))⟩
theorem right_no (n:Nat) (hR:RightAt n) (k:Int) (nm:ByteArray) (g:Bool) (az:List (ByteArray × PL)) (ws:List PL) (ks:NL) (bs:List Bool) (cz:NL) (x1 d1 x2 d2 x3 d3 x4 d4 x5 d5) (d:Nat) (m:Int) (w:World) (hks:ks.size≤n) (hcs:cz.size≤n) (hd:d≤201) (h:Holds w nm az ws ks bs cz x1 d1 x2 d2 x3 d3 x4 d4 x5 d5) (hok:∀ l ∈ ws,wOK l) (hfk:fitN ks) (hfc:fitN cz) (hm:w.cell? ⟨0,0,none⟩ = some (.int .i64 m)) (hc:countsB k = false) (g1:(k == 1) = false) (g2:(k == 2) = false) (g3:(k == 3) = false) (g4:(k == 4) = false) (g5:(k == 5) = false) (g6:(k == 6) = false) (g7:(k == 7) = false) (g8:(k == 8) = false) (g9:(k == 9) = false) (g10:(k == 10) = false) (g11:(k == 11) = false) (g12:(k == 12) = false) (g13:(k == 13) = false) (ho:ownB k nm g az ws ks bs cz = true) :
  Calls Tryz.prog 46 #[.agg (nodeV k nm g x1 az.length d1 x2 ws.length d2 x3 ks.len d3 x4 bs.length d4 x5 cz.len d5),.int .i64 d] w fun e w'=>e = .returned (.bool (nodeR k nm g az ws ks bs cz d))∧Below w.heap.size w w':=by
 have hans:nodeR k nm g az ws ks bs cz d = false:=by
  unfold nodeR kindB;simp [g1,g2,g3,g4,g5,g6,g7,g8,g9,g10,g11,g12,g13]
 have HANS:=Lib.hid hans;clear hans;have hle3:=h.hks.le;have hrow:(w.alloc (.cells #[.int .i64 k,.string nm,.bool g,.slice x1 az.length d1,.slice x2 ws.length d2,.slice x3 ks.len d3,.slice x4 bs.length d4,.slice x5 cz.len d5] 28)).heap[w.heap.size]? = some (.cells #[.int .i64 k,.string nm,.bool g,.slice x1 az.length d1,.slice x2 ws.length d2,.slice x3 ks.len d3,.slice x4 bs.length d4,.slice x5 cz.len d5] 28 (0,0)):=heap_new' _ _;have hlt0:w.heap.size < (w.alloc (.cells #[.int .i64 k,.string nm,.bool g,.slice x1 az.length d1,.slice x2 ws.length d2,.slice x3 ks.len d3,.slice x4 bs.length d4,.slice x5 cz.len d5] 28)).heap.size:=by simp only [World.size_alloc];omega
 have hOWN:=own_any k nm g az ws ks bs cz x1 d1 x2 d2 x3 d3 x4 d4 x5 d5 (w.alloc (.cells #[.int .i64 k,.string nm,.bool g,.slice x1 az.length d1,.slice x2 ws.length d2,.slice x3 ks.len d3,.slice x4 bs.length d4,.slice x5 cz.len d5] 28)) (h.below (bel1 w _));unfold nodeV at hOWN;rw [ho] at hOWN;have hCN:=fun w=>counts_any k w;rw [hc] at hCN;have HROW:=Lib.hid hrow;have HLT:=Lib.hid hlt0;have HB0:=Lib.hid (bel1 w (.cells #[.int .i64 k,.string nm,.bool g,.slice x1 az.length d1,.slice x2 ws.length d2,.slice x3 ks.len d3,.slice x4 bs.length d4,.slice x5 cz.len d5] 28));have HOWN:=Lib.hid hOWN;have HCN:=Lib.hid hCN;clear hrow hlt0 hOWN hCN;have hWI:=fun w=>within_any k d (by omega) w;rw [show withinD k d = d by unfold withinD;rw [hc];rfl] at hWI;have HWI:=Lib.hid hWI;clear hWI h hok hfk hfc hm hR hks hcs hc ho;unfold nodeV;go_enter Tryz.func46,Tryz.ntmps46
 go_wp2_with (first
   | (go_at_call 66;refine (HCN.out _).mono ?_;rintro e w' ⟨rfl,rfl⟩)
   | (go_at_call 67;refine (HOWN.out).mono ?_;rintro e w1 ⟨rfl,hb1⟩;have hrw:=(hb1.block _ HLT.out).trans HROW.out;have q0:=zc0 hrw;have q1:=zc1 hrw;have q2:=zc2 hrw;have q3:=zc3 hrw;have q4:=zc4 hrw;have q5:=zc5 hrw;have q6:=zc6 hrw;have q7:=zc7 hrw;have hlt1:w.heap.size < w1.heap.size:=Nat.lt_of_lt_of_le HLT.out hb1.size;have HBW1:=Lib.hid (thru HB0.out hb1);clear hrw hb1)
   | (go_at_call 68;refine (HWI.out _).mono ?_;rintro e w' ⟨rfl,rfl⟩))
 go_ret;exact ⟨ret_bool HANS.out.symm,(thru HBW1.out (bel2 _ _ _))⟩
end Tr
end Go.Proofs.YtjmpfihopeohbaaGreatDoor
namespace Go.Proofs.YtjmpfihopeohbaaGreatDoor
open Go.RowKit Go.Sort
namespace Tr
open Cls Pt
theorem two_nodes {ks:NL} (h:ks.len = 2) (hok:NL.okN ks true = true):∃ k0 nm0 g0 az0 ws0 ks0 bs0 cz0 k1 nm1 g1 az1 ws1 ks1 bs1 cz1,ks = .node k0 nm0 g0 az0 ws0 ks0 bs0 cz0 (.node k1 nm1 g1 az1 ws1 ks1 bs1 cz1 .nil):=by
 obtain ⟨k0,nm0,g0,az0,ws0,ks0,bs0,cz0,r,h0⟩:=NL.drop_node (n:=0) (l:=ks) (by omega) hok;simp only [NL.drop] at h0;subst h0;simp only [NL.okN,Bool.and_eq_true] at hok;simp only [NL.len] at h;obtain ⟨k1,nm1,g1,az1,ws1,ks1,bs1,cz1,r1,h1⟩:=NL.drop_node (n:=0) (l:=r) (by omega) hok.2;simp only [NL.drop] at h1;subst h1;simp only [NL.len] at h;have:r1.len = 0:=by omega
 have hr:r1 = .nil:=by
  cases r1 with
  | nil=>rfl
  | node=>simp [NL.len] at this
  | cse=>simp [NL.len] at this
 subst hr;exact ⟨_,_,_,_,_,_,_,_,_,_,_,_,_,_,_,_,rfl⟩
theorem lies_two {w:World} {a:Option Addr} {c:Nat} {k0 k1:Int} {nm0 nm1:ByteArray} {g0 g1:Bool} {az0 az1:List (ByteArray × PL)} {ws0 ws1:List PL} {ks0 ks1 cz0 cz1:NL} {bs0 bs1:List Bool} (h:NLies w a c (.node k0 nm0 g0 az0 ws0 ks0 bs0 cz0 (.node k1 nm1 g1 az1 ws1 ks1 bs1 cz1 .nil))) :
  ∃ b o,a = some ⟨b,o,none⟩∧NLies w (some ⟨b,o,none⟩) c (.node k0 nm0 g0 az0 ws0 ks0 bs0 cz0 .nil)∧NLies w (some ⟨b,o + 8,none⟩) (c - 1) (.node k1 nm1 g1 az1 ws1 ks1 bs1 cz1 .nil):=by
 obtain ⟨h1,h2,h3⟩:=h;simp only [NL.len] at h1;rcases h3 with h3 | ⟨b,o,ha,h3⟩
 ·cases h3
 ·obtain ⟨e0,e1,e2,e3,e4,e5,f0,f1,f2,f3,f4,f5,_⟩:=h3;refine ⟨b,o,ha,⟨by simp only [NL.len];omega,by simp only [NL.len];unfold R;omega,.inr ⟨b,o,rfl,e0,e1,e2,e3,e4,e5,trivial⟩⟩,⟨by simp only [NL.len];omega,by simp only [NL.len];unfold R;omega,.inr ⟨b,o + 8,rfl,f0,f1,f2,f3,f4,f5,trivial⟩⟩⟩
theorem right_2 (n:Nat) (hR:RightAt n) (nm:ByteArray) (g:Bool) (az:List (ByteArray × PL)) (ws:List PL) (ks:NL) (bs:List Bool) (cz:NL) (x1 d1 x2 d2 x3 d3 x4 d4 x5 d5) (d:Nat) (m:Int) (w:World) (hks:ks.size≤n) (hcs:cz.size≤n) (hd:d≤201) (h:Holds w nm az ws ks bs cz x1 d1 x2 d2 x3 d3 x4 d4 x5 d5) (hok:∀ l ∈ ws,wOK l) (hfk:fitN ks) (hfc:fitN cz) (hm:w.cell? ⟨0,0,none⟩ = some (.int .i64 m)) (ho:ownB 2 nm g az ws ks bs cz = true) :
  Calls Tryz.prog 46 #[.agg (nodeV 2 nm g x1 az.length d1 x2 ws.length d2 x3 ks.len d3 x4 bs.length d4 x5 cz.len d5),.int .i64 d] w fun e w'=>e = .returned (.bool (nodeR 2 nm g az ws ks bs cz d))∧Below w.heap.size w w':=by
 have hkind:nodeR 2 nm g az ws ks bs cz d = kindB 2 nm g az ws ks bs (rt ks (d)) (rt cz (d)):=by
  unfold nodeR;rw [show deepB 2 d = false from rfl,ho];rfl
 have hrow:(w.alloc (.cells #[.int .i64 2,.string nm,.bool g,.slice x1 az.length d1,.slice x2 ws.length d2,.slice x3 ks.len d3,.slice x4 bs.length d4,.slice x5 cz.len d5] 28)).heap[w.heap.size]? = some (.cells #[.int .i64 2,.string nm,.bool g,.slice x1 az.length d1,.slice x2 ws.length d2,.slice x3 ks.len d3,.slice x4 bs.length d4,.slice x5 cz.len d5] 28 (0,0)):=heap_new' _ _;have hlt0:w.heap.size < (w.alloc (.cells #[.int .i64 2,.string nm,.bool g,.slice x1 az.length d1,.slice x2 ws.length d2,.slice x3 ks.len d3,.slice x4 bs.length d4,.slice x5 cz.len d5] 28)).heap.size:=by simp only [World.size_alloc];omega
 have hOWN:=own_any 2 nm g az ws ks bs cz x1 d1 x2 d2 x3 d3 x4 d4 x5 d5 (w.alloc (.cells #[.int .i64 2,.string nm,.bool g,.slice x1 az.length d1,.slice x2 ws.length d2,.slice x3 ks.len d3,.slice x4 bs.length d4,.slice x5 cz.len d5] 28)) (h.below (bel1 w _));unfold nodeV at hOWN;rw [ho] at hOWN;have hCN:=fun w=>counts_any 2 w;rw [show countsB 2 = false from rfl] at hCN;have HROW:=Lib.hid hrow;have HLT:=Lib.hid hlt0;have HB0:=Lib.hid (bel1 w (.cells #[.int .i64 2,.string nm,.bool g,.slice x1 az.length d1,.slice x2 ws.length d2,.slice x3 ks.len d3,.slice x4 bs.length d4,.slice x5 cz.len d5] 28));have HOWN:=Lib.hid hOWN;have HCN:=Lib.hid hCN;clear hrow hlt0 hOWN hCN;have hWI:=fun w=>within_any 2 d (by omega) w;rw [show withinD 2 d = d from rfl] at hWI;have HWI:=Lib.hid hWI;clear hWI;rw [hkind];have hle3:=h.hks.le;unfold nodeV
 by_cases hq:ks.len = 2
 ·obtain ⟨k0,nm0,g0,az0,ws0,ks0,bs0,cz0,k1,nm1,g1,az1,ws1,ks1,bs1,cz1,rfl⟩:=two_nodes hq h.okk;obtain ⟨b,o,rfl,hN0,hN1⟩:=lies_two h.hks;have hcap:=h.hks.1;have hlen2:NL.len (.node k0 nm0 g0 az0 ws0 ks0 bs0 cz0 (.node k1 nm1 g1 az1 ws1 ks1 bs1 cz1 .nil)) = 2:=rfl;have hok0:NL.okN (.node k0 nm0 g0 az0 ws0 ks0 bs0 cz0 .nil) true = true:=by
   have:=h.okk;simp only [NL.okN,Bool.and_eq_true] at this ⊢
   exact ⟨⟨⟨this.1.1.1,this.1.1.2⟩,this.1.2⟩,trivial⟩
  have hok1:NL.okN (.node k1 nm1 g1 az1 ws1 ks1 bs1 cz1 .nil) true = true:=by
   have:=h.okk;simp only [NL.okN,Bool.and_eq_true] at this ⊢
   exact ⟨⟨⟨this.2.1.1.1,this.2.1.1.2⟩,this.2.1.2⟩,trivial⟩
  have hsz0:NL.size (.node k0 nm0 g0 az0 ws0 ks0 bs0 cz0 .nil)≤n:=by simp only [NL.size] at hks ⊢;omega
  have hsz1:NL.size (.node k1 nm1 g1 az1 ws1 ks1 bs1 cz1 .nil)≤n:=by simp only [NL.size] at hks ⊢;omega
  have hf0:fitN (.node k0 nm0 g0 az0 ws0 ks0 bs0 cz0 .nil):=⟨hfk.1,hfk.2.1,hfk.2.2.1,trivial⟩;have hf1:fitN (.node k1 nm1 g1 az1 ws1 ks1 bs1 cz1 .nil):=⟨hfk.2.2.2.1,hfk.2.2.2.2.1,hfk.2.2.2.2.2.1,trivial⟩;have hI:=fun W pb (hb:Below w.heap.size w W) hp=>all_item n hR (.node k0 nm0 g0 az0 ws0 ks0 bs0 cz0 .nil) hsz0 hok0 hf0 d pb hd (some ⟨b,o,none⟩) d3 m W (hN0.below hb) (cell_below hb hm) hp;have hU:=fun W pb (hb:Below w.heap.size w W) hp=>all_unit n hR (.node k1 nm1 g1 az1 ws1 ks1 bs1 cz1 .nil) hsz1 hok1 hf1 d pb hd (some ⟨b,o + 8,none⟩) (d3 - 1) m W (hN1.below hb) (cell_below hb hm) hp;rw [show NL.len (.node k0 nm0 g0 az0 ws0 ks0 bs0 cz0 .nil) = 1 from rfl] at hI;rw [show NL.len (.node k1 nm1 g1 az1 ws1 ks1 bs1 cz1 .nil) = 1 from rfl] at hU;have hans:kindB 2 nm g az ws (.node k0 nm0 g0 az0 ws0 ks0 bs0 cz0 (.node k1 nm1 g1 az1 ws1 ks1 bs1 cz1 .nil)) bs (rt (.node k0 nm0 g0 az0 ws0 ks0 bs0 cz0 (.node k1 nm1 g1 az1 ws1 ks1 bs1 cz1 .nil)) (d)) (rt cz (d)) = ((allS itemS (.node k0 nm0 g0 az0 ws0 ks0 bs0 cz0 .nil) && rt (.node k0 nm0 g0 az0 ws0 ks0 bs0 cz0 .nil) d) && (allS unitS (.node k1 nm1 g1 az1 ws1 ks1 bs1 cz1 .nil) && rt (.node k1 nm1 g1 az1 ws1 ks1 bs1 cz1 .nil) d)):=by
   have e1:∀ RK RC,kindB 2 nm g az ws (.node k0 nm0 g0 az0 ws0 ks0 bs0 cz0 (.node k1 nm1 g1 az1 ws1 ks1 bs1 cz1 .nil)) bs RK RC = ((itemB k0 && unitB k1) && RK):=fun RK RC=>by simp [kindB,NL.len]
   have e2:rt (.node k0 nm0 g0 az0 ws0 ks0 bs0 cz0 (.node k1 nm1 g1 az1 ws1 ks1 bs1 cz1 .nil)) d = (nodeR k0 nm0 g0 az0 ws0 ks0 bs0 cz0 d && (nodeR k1 nm1 g1 az1 ws1 ks1 bs1 cz1 d && true)):=rfl;rw [e1,e2];show _ = (((itemB k0 && true) && (nodeR k0 nm0 g0 az0 ws0 ks0 bs0 cz0 d && true)) && ((unitB k1 && true) && (nodeR k1 nm1 g1 az1 ws1 ks1 bs1 cz1 d && true)));generalize nodeR k0 nm0 g0 az0 ws0 ks0 bs0 cz0 d = r0;generalize nodeR k1 nm1 g1 az1 ws1 ks1 bs1 cz1 d = r1;cases itemB k0 <;> cases unitB k1 <;> cases r0 <;> cases r1 <;> rfl
  rw [hans];rw [hlen2] at hcap hle3 HROW HOWN HLT HB0 ⊢
  generalize (allS itemS (.node k0 nm0 g0 az0 ws0 ks0 bs0 cz0 .nil) && rt (.node k0 nm0 g0 az0 ws0 ks0 bs0 cz0 .nil) d) = A0 at hI ⊢
  generalize (allS unitS (.node k1 nm1 g1 az1 ws1 ks1 bs1 cz1 .nil) && rt (.node k1 nm1 g1 az1 ws1 ks1 bs1 cz1 .nil) d) = A1 at hU ⊢
  have hcap1:1≤d3:=by omega
  have hcapn:¬ (d3 = 1):=by omega
  have hcapz:¬ (d3 = 0):=by omega
  have hcapi:((1:Int)≤(d3:Int)) = True:=by rw [eq_iff_iff,iff_true];omega
  have hcapi2:((2:Int)≤(d3:Int)) = True:=by rw [eq_iff_iff,iff_true];omega
  have hI2:=Lib.hid hI;have hU2:=Lib.hid hU;clear hI hU hans hkind h hok hfk hfc hm hR ho hN0 hN1 hok0 hok1 hsz0 hsz1 hf0 hf1 hq hlen2 hks;go_enter Tryz.func46,Tryz.ntmps46
  go_wp2_with (first
   | (go_at_call 66;refine (HCN.out _).mono ?_;rintro e w' ⟨rfl,rfl⟩)
   | (go_at_call 67;refine (HOWN.out).mono ?_;rintro e w1 ⟨rfl,hb1⟩;have hrw:=(hb1.block _ HLT.out).trans HROW.out;have q0:=zc0 hrw;have q1:=zc1 hrw;have q2:=zc2 hrw;have q3:=zc3 hrw;have q4:=zc4 hrw;have q5:=zc5 hrw;have q6:=zc6 hrw;have q7:=zc7 hrw;have hlt1:w.heap.size < w1.heap.size:=Nat.lt_of_lt_of_le HLT.out hb1.size;have HBW1:=Lib.hid (thru HB0.out hb1);clear hrw hb1)
   | (go_at_call 68;refine (HWI.out _).mono ?_;rintro e w' ⟨rfl,rfl⟩))
  have hclo:=clo_mk w1 (d);have hb2:=thru HBW1.out (bel2 w1 (.cells #[.int .i64 d] 3) (.cells #[.func (.func 69) #[] #[.pointer (some ⟨w1.heap.size,0,none⟩)]] 100));have k5:=cell_below (bel2 w1 (.cells #[.int .i64 d] 3) (.cells #[.func (.func 69) #[] #[.pointer (some ⟨w1.heap.size,0,none⟩)]] 100)) q5;generalize ((w1.alloc (.cells #[.int .i64 d] 3)).alloc (.cells #[.func (.func 69) #[] #[.pointer (some ⟨w1.heap.size,0,none⟩)]] 100)) = W2 at hclo hb2 k5 ⊢
  have k6:=cell_regrown hclo.2;have k7:=cell_regrown k5;have hi:=fun dd os=>Calls.regrown_of (hI2.out (grow (redrawn W2 dd) os) w1.heap.size (thru hb2 (below_regrown W2 dd os)) (cell_regrown hclo.1 dd os));have hu:=fun dd os=>Calls.regrown_of (hU2.out (grow (redrawn W2 dd) os) w1.heap.size (thru hb2 (below_regrown W2 dd os)) (cell_regrown hclo.1 dd os));have HI:=Lib.hid hi;have HU:=Lib.hid hu;clear hi hu;have HBB2:=Lib.hid hb2;clear hb2 hclo k5;cases A0
  ·refine Qu.region (by kernel_rfl) (by kernel_rfl) ?_
   repeat (first
    | (first | refine Qu.carry0 rfl (fun K hK=>?_) | refine Qu.carryG rfl rfl rfl (fun K hK=>?_)
       go_simp
       first
       | (refine hK _ ?_;clear hK K)
       | (apply Exists.intro;refine ⟨fun _=>?_,hK _ ?_⟩;(go_at_call 69;exact HI.out _ _);clear hK K))
    | (refine Qu.passG rfl rfl rfl (fun K hK=>?_);go_simp;refine hK _ ?_;clear hK K))
   refine Qu.fin ?_;rintro ⟨dq,osq⟩;go_wp2_with fail;go_ret;exact ⟨rfl,thru HBB2.out (below_regrown W2 dq osq)⟩
  ·cases A1
   all_goals
    refine Qu.region (by kernel_rfl) (by kernel_rfl) ?_
    repeat (first
     | (first | refine Qu.carry0 rfl (fun K hK=>?_) | refine Qu.carryG rfl rfl rfl (fun K hK=>?_)
        go_simp
        first
        | (refine hK _ ?_;clear hK K)
        | (apply Exists.intro;refine ⟨fun _=>?_,hK _ ?_⟩;(first | (go_at_call_of 69 (Value.slice (some ⟨b,o,none⟩) 1 d3);exact HI.out _ _) | (go_at_call 69;exact HU.out _ _));clear hK K))
     | (refine Qu.passG rfl rfl rfl (fun K hK=>?_);go_simp;refine hK _ ?_;clear hK K))
    refine Qu.fin ?_;rintro ⟨dq,osq⟩;go_wp2_with fail;go_ret;exact ⟨rfl,thru HBB2.out (below_regrown W2 dq osq)⟩
 ·have hq1:((ks.len:Int) == 2) = false:=by rw [beq_eq_false_iff_ne];omega
  have hans:kindB 2 nm g az ws ks bs (rt ks (d)) (rt cz (d)) = false:=by unfold kindB;simp [hq]
  rw [hans];clear hans hkind h hok hfk hfc hm hR ho hq;go_enter Tryz.func46,Tryz.ntmps46
  go_wp2_with (first
   | (go_at_call 66;refine (HCN.out _).mono ?_;rintro e w' ⟨rfl,rfl⟩)
   | (go_at_call 67;refine (HOWN.out).mono ?_;rintro e w1 ⟨rfl,hb1⟩;have hrw:=(hb1.block _ HLT.out).trans HROW.out;have q0:=zc0 hrw;have q1:=zc1 hrw;have q2:=zc2 hrw;have q3:=zc3 hrw;have q4:=zc4 hrw;have q5:=zc5 hrw;have q6:=zc6 hrw;have q7:=zc7 hrw;have hlt1:w.heap.size < w1.heap.size:=Nat.lt_of_lt_of_le HLT.out hb1.size;have HBW1:=Lib.hid (thru HB0.out hb1);clear hrw hb1)
   | (go_at_call 68;refine (HWI.out _).mono ?_;rintro e w' ⟨rfl,rfl⟩))
  have hclo:=clo_mk w1 (d);have hb2:=thru HBW1.out (bel2 w1 (.cells #[.int .i64 d] 3) (.cells #[.func (.func 69) #[] #[.pointer (some ⟨w1.heap.size,0,none⟩)]] 100));have k5:=cell_below (bel2 w1 (.cells #[.int .i64 d] 3) (.cells #[.func (.func 69) #[] #[.pointer (some ⟨w1.heap.size,0,none⟩)]] 100)) q5;generalize ((w1.alloc (.cells #[.int .i64 d] 3)).alloc (.cells #[.func (.func 69) #[] #[.pointer (some ⟨w1.heap.size,0,none⟩)]] 100)) = W2 at hclo hb2 k5 ⊢
  have k6:=cell_regrown hclo.2;have k7:=cell_regrown k5;have HBB2:=Lib.hid hb2;clear hb2 hclo k5;refine Qu.region (by kernel_rfl) (by kernel_rfl) ?_
  repeat (first
   | (first | refine Qu.carry0 rfl (fun K hK=>?_) | refine Qu.carryG rfl rfl rfl (fun K hK=>?_)
      go_simp
      first
      | (refine hK _ ?_;clear hK K)
      | (apply Exists.intro;refine ⟨fun _=>?_,hK _ ?_⟩;(fail);clear hK K))
   | (refine Qu.passG rfl rfl rfl (fun K hK=>?_);go_simp;refine hK _ ?_;clear hK K))
  refine Qu.fin ?_;rintro ⟨dq,osq⟩;go_wp2_with fail;go_ret;exact ⟨rfl,thru HBB2.out (below_regrown W2 dq osq)⟩
theorem right_3 (n:Nat) (hR:RightAt n) (nm:ByteArray) (g:Bool) (az:List (ByteArray × PL)) (ws:List PL) (ks:NL) (bs:List Bool) (cz:NL) (x1 d1 x2 d2 x3 d3 x4 d4 x5 d5) (d:Nat) (m:Int) (w:World) (hks:ks.size≤n) (hcs:cz.size≤n) (hd:d≤201) (h:Holds w nm az ws ks bs cz x1 d1 x2 d2 x3 d3 x4 d4 x5 d5) (hok:∀ l ∈ ws,wOK l) (hfk:fitN ks) (hfc:fitN cz) (hm:w.cell? ⟨0,0,none⟩ = some (.int .i64 m)) (ho:ownB 3 nm g az ws ks bs cz = true) :
  Calls Tryz.prog 46 #[.agg (nodeV 3 nm g x1 az.length d1 x2 ws.length d2 x3 ks.len d3 x4 bs.length d4 x5 cz.len d5),.int .i64 d] w fun e w'=>e = .returned (.bool (nodeR 3 nm g az ws ks bs cz d))∧Below w.heap.size w w':=by
 have hkind:nodeR 3 nm g az ws ks bs cz d = kindB 3 nm g az ws ks bs (rt ks (d)) (rt cz (d)):=by
  unfold nodeR;rw [show deepB 3 d = false from rfl,ho];rfl
 have hrow:(w.alloc (.cells #[.int .i64 3,.string nm,.bool g,.slice x1 az.length d1,.slice x2 ws.length d2,.slice x3 ks.len d3,.slice x4 bs.length d4,.slice x5 cz.len d5] 28)).heap[w.heap.size]? = some (.cells #[.int .i64 3,.string nm,.bool g,.slice x1 az.length d1,.slice x2 ws.length d2,.slice x3 ks.len d3,.slice x4 bs.length d4,.slice x5 cz.len d5] 28 (0,0)):=heap_new' _ _;have hlt0:w.heap.size < (w.alloc (.cells #[.int .i64 3,.string nm,.bool g,.slice x1 az.length d1,.slice x2 ws.length d2,.slice x3 ks.len d3,.slice x4 bs.length d4,.slice x5 cz.len d5] 28)).heap.size:=by simp only [World.size_alloc];omega
 have hOWN:=own_any 3 nm g az ws ks bs cz x1 d1 x2 d2 x3 d3 x4 d4 x5 d5 (w.alloc (.cells #[.int .i64 3,.string nm,.bool g,.slice x1 az.length d1,.slice x2 ws.length d2,.slice x3 ks.len d3,.slice x4 bs.length d4,.slice x5 cz.len d5] 28)) (h.below (bel1 w _));unfold nodeV at hOWN;rw [ho] at hOWN;have hCN:=fun w=>counts_any 3 w;rw [show countsB 3 = false from rfl] at hCN;have HROW:=Lib.hid hrow;have HLT:=Lib.hid hlt0;have HB0:=Lib.hid (bel1 w (.cells #[.int .i64 3,.string nm,.bool g,.slice x1 az.length d1,.slice x2 ws.length d2,.slice x3 ks.len d3,.slice x4 bs.length d4,.slice x5 cz.len d5] 28));have HOWN:=Lib.hid hOWN;have HCN:=Lib.hid hCN;clear hrow hlt0 hOWN hCN;have hWI:=fun w=>within_any 3 d (by omega) w;rw [show withinD 3 d = d from rfl] at hWI;have HWI:=Lib.hid hWI;clear hWI;rw [hkind];have hle3:=h.hks.le;unfold nodeV
 by_cases hq:ks.len = 2
 ·obtain ⟨k0,nm0,g0,az0,ws0,ks0,bs0,cz0,k1,nm1,g1,az1,ws1,ks1,bs1,cz1,rfl⟩:=two_nodes hq h.okk;obtain ⟨b,o,rfl,hN0,hN1⟩:=lies_two h.hks;have hcap:=h.hks.1;have hlen2:NL.len (.node k0 nm0 g0 az0 ws0 ks0 bs0 cz0 (.node k1 nm1 g1 az1 ws1 ks1 bs1 cz1 .nil)) = 2:=rfl;have hok0:NL.okN (.node k0 nm0 g0 az0 ws0 ks0 bs0 cz0 .nil) true = true:=by
   have:=h.okk;simp only [NL.okN,Bool.and_eq_true] at this ⊢
   exact ⟨⟨⟨this.1.1.1,this.1.1.2⟩,this.1.2⟩,trivial⟩
  have hok1:NL.okN (.node k1 nm1 g1 az1 ws1 ks1 bs1 cz1 .nil) true = true:=by
   have:=h.okk;simp only [NL.okN,Bool.and_eq_true] at this ⊢
   exact ⟨⟨⟨this.2.1.1.1,this.2.1.1.2⟩,this.2.1.2⟩,trivial⟩
  have hsz0:NL.size (.node k0 nm0 g0 az0 ws0 ks0 bs0 cz0 .nil)≤n:=by simp only [NL.size] at hks ⊢;omega
  have hsz1:NL.size (.node k1 nm1 g1 az1 ws1 ks1 bs1 cz1 .nil)≤n:=by simp only [NL.size] at hks ⊢;omega
  have hf0:fitN (.node k0 nm0 g0 az0 ws0 ks0 bs0 cz0 .nil):=⟨hfk.1,hfk.2.1,hfk.2.2.1,trivial⟩;have hf1:fitN (.node k1 nm1 g1 az1 ws1 ks1 bs1 cz1 .nil):=⟨hfk.2.2.2.1,hfk.2.2.2.2.1,hfk.2.2.2.2.2.1,trivial⟩;have hI:=fun W pb (hb:Below w.heap.size w W) hp=>all_item n hR (.node k0 nm0 g0 az0 ws0 ks0 bs0 cz0 .nil) hsz0 hok0 hf0 d pb hd (some ⟨b,o,none⟩) d3 m W (hN0.below hb) (cell_below hb hm) hp;have hU:=fun W pb (hb:Below w.heap.size w W) hp=>all_unit n hR (.node k1 nm1 g1 az1 ws1 ks1 bs1 cz1 .nil) hsz1 hok1 hf1 d pb hd (some ⟨b,o + 8,none⟩) (d3 - 1) m W (hN1.below hb) (cell_below hb hm) hp;rw [show NL.len (.node k0 nm0 g0 az0 ws0 ks0 bs0 cz0 .nil) = 1 from rfl] at hI;rw [show NL.len (.node k1 nm1 g1 az1 ws1 ks1 bs1 cz1 .nil) = 1 from rfl] at hU;have hans:kindB 3 nm g az ws (.node k0 nm0 g0 az0 ws0 ks0 bs0 cz0 (.node k1 nm1 g1 az1 ws1 ks1 bs1 cz1 .nil)) bs (rt (.node k0 nm0 g0 az0 ws0 ks0 bs0 cz0 (.node k1 nm1 g1 az1 ws1 ks1 bs1 cz1 .nil)) (d)) (rt cz (d)) = ((allS itemS (.node k0 nm0 g0 az0 ws0 ks0 bs0 cz0 .nil) && rt (.node k0 nm0 g0 az0 ws0 ks0 bs0 cz0 .nil) d) && (allS unitS (.node k1 nm1 g1 az1 ws1 ks1 bs1 cz1 .nil) && rt (.node k1 nm1 g1 az1 ws1 ks1 bs1 cz1 .nil) d)):=by
   have e1:∀ RK RC,kindB 3 nm g az ws (.node k0 nm0 g0 az0 ws0 ks0 bs0 cz0 (.node k1 nm1 g1 az1 ws1 ks1 bs1 cz1 .nil)) bs RK RC = ((itemB k0 && unitB k1) && RK):=fun RK RC=>by simp [kindB,NL.len]
   have e2:rt (.node k0 nm0 g0 az0 ws0 ks0 bs0 cz0 (.node k1 nm1 g1 az1 ws1 ks1 bs1 cz1 .nil)) d = (nodeR k0 nm0 g0 az0 ws0 ks0 bs0 cz0 d && (nodeR k1 nm1 g1 az1 ws1 ks1 bs1 cz1 d && true)):=rfl;rw [e1,e2];show _ = (((itemB k0 && true) && (nodeR k0 nm0 g0 az0 ws0 ks0 bs0 cz0 d && true)) && ((unitB k1 && true) && (nodeR k1 nm1 g1 az1 ws1 ks1 bs1 cz1 d && true)));generalize nodeR k0 nm0 g0 az0 ws0 ks0 bs0 cz0 d = r0;generalize nodeR k1 nm1 g1 az1 ws1 ks1 bs1 cz1 d = r1;cases itemB k0 <;> cases unitB k1 <;> cases r0 <;> cases r1 <;> rfl
  rw [hans];rw [hlen2] at hcap hle3 HROW HOWN HLT HB0 ⊢
  generalize (allS itemS (.node k0 nm0 g0 az0 ws0 ks0 bs0 cz0 .nil) && rt (.node k0 nm0 g0 az0 ws0 ks0 bs0 cz0 .nil) d) = A0 at hI ⊢
  generalize (allS unitS (.node k1 nm1 g1 az1 ws1 ks1 bs1 cz1 .nil) && rt (.node k1 nm1 g1 az1 ws1 ks1 bs1 cz1 .nil) d) = A1 at hU ⊢
  have hcap1:1≤d3:=by omega
  have hcapn:¬ (d3 = 1):=by omega
  have hcapz:¬ (d3 = 0):=by omega
  have hcapi:((1:Int)≤(d3:Int)) = True:=by rw [eq_iff_iff,iff_true];omega
  have hcapi2:((2:Int)≤(d3:Int)) = True:=by rw [eq_iff_iff,iff_true];omega
  have hI2:=Lib.hid hI;have hU2:=Lib.hid hU;clear hI hU hans hkind h hok hfk hfc hm hR ho hN0 hN1 hok0 hok1 hsz0 hsz1 hf0 hf1 hq hlen2 hks;go_enter Tryz.func46,Tryz.ntmps46
  go_wp2_with (first
   | (go_at_call 66;refine (HCN.out _).mono ?_;rintro e w' ⟨rfl,rfl⟩)
   | (go_at_call 67;refine (HOWN.out).mono ?_;rintro e w1 ⟨rfl,hb1⟩;have hrw:=(hb1.block _ HLT.out).trans HROW.out;have q0:=zc0 hrw;have q1:=zc1 hrw;have q2:=zc2 hrw;have q3:=zc3 hrw;have q4:=zc4 hrw;have q5:=zc5 hrw;have q6:=zc6 hrw;have q7:=zc7 hrw;have hlt1:w.heap.size < w1.heap.size:=Nat.lt_of_lt_of_le HLT.out hb1.size;have HBW1:=Lib.hid (thru HB0.out hb1);clear hrw hb1)
   | (go_at_call 68;refine (HWI.out _).mono ?_;rintro e w' ⟨rfl,rfl⟩))
  have hclo:=clo_mk w1 (d);have hb2:=thru HBW1.out (bel2 w1 (.cells #[.int .i64 d] 3) (.cells #[.func (.func 69) #[] #[.pointer (some ⟨w1.heap.size,0,none⟩)]] 100));have k5:=cell_below (bel2 w1 (.cells #[.int .i64 d] 3) (.cells #[.func (.func 69) #[] #[.pointer (some ⟨w1.heap.size,0,none⟩)]] 100)) q5;generalize ((w1.alloc (.cells #[.int .i64 d] 3)).alloc (.cells #[.func (.func 69) #[] #[.pointer (some ⟨w1.heap.size,0,none⟩)]] 100)) = W2 at hclo hb2 k5 ⊢
  have k6:=cell_regrown hclo.2;have k7:=cell_regrown k5;have hi:=fun dd os=>Calls.regrown_of (hI2.out (grow (redrawn W2 dd) os) w1.heap.size (thru hb2 (below_regrown W2 dd os)) (cell_regrown hclo.1 dd os));have hu:=fun dd os=>Calls.regrown_of (hU2.out (grow (redrawn W2 dd) os) w1.heap.size (thru hb2 (below_regrown W2 dd os)) (cell_regrown hclo.1 dd os));have HI:=Lib.hid hi;have HU:=Lib.hid hu;clear hi hu;have HBB2:=Lib.hid hb2;clear hb2 hclo k5;cases A0
  ·refine Qu.region (by kernel_rfl) (by kernel_rfl) ?_
   repeat (first
    | (first | refine Qu.carry0 rfl (fun K hK=>?_) | refine Qu.carryG rfl rfl rfl (fun K hK=>?_)
       go_simp
       first
       | (refine hK _ ?_;clear hK K)
       | (apply Exists.intro;refine ⟨fun _=>?_,hK _ ?_⟩;(go_at_call 69;exact HI.out _ _);clear hK K))
    | (refine Qu.passG rfl rfl rfl (fun K hK=>?_);go_simp;refine hK _ ?_;clear hK K))
   refine Qu.fin ?_;rintro ⟨dq,osq⟩;go_wp2_with fail;go_ret;exact ⟨rfl,thru HBB2.out (below_regrown W2 dq osq)⟩
  ·cases A1
   all_goals
    refine Qu.region (by kernel_rfl) (by kernel_rfl) ?_
    repeat (first
     | (first | refine Qu.carry0 rfl (fun K hK=>?_) | refine Qu.carryG rfl rfl rfl (fun K hK=>?_)
        go_simp
        first
        | (refine hK _ ?_;clear hK K)
        | (apply Exists.intro;refine ⟨fun _=>?_,hK _ ?_⟩;(first | (go_at_call_of 69 (Value.slice (some ⟨b,o,none⟩) 1 d3);exact HI.out _ _) | (go_at_call 69;exact HU.out _ _));clear hK K))
     | (refine Qu.passG rfl rfl rfl (fun K hK=>?_);go_simp;refine hK _ ?_;clear hK K))
    refine Qu.fin ?_;rintro ⟨dq,osq⟩;go_wp2_with fail;go_ret;exact ⟨rfl,thru HBB2.out (below_regrown W2 dq osq)⟩
 ·have hq1:((ks.len:Int) == 2) = false:=by rw [beq_eq_false_iff_ne];omega
  have hans:kindB 3 nm g az ws ks bs (rt ks (d)) (rt cz (d)) = false:=by unfold kindB;simp [hq]
  rw [hans];clear hans hkind h hok hfk hfc hm hR ho hq;go_enter Tryz.func46,Tryz.ntmps46
  go_wp2_with (first
   | (go_at_call 66;refine (HCN.out _).mono ?_;rintro e w' ⟨rfl,rfl⟩)
   | (go_at_call 67;refine (HOWN.out).mono ?_;rintro e w1 ⟨rfl,hb1⟩;have hrw:=(hb1.block _ HLT.out).trans HROW.out;have q0:=zc0 hrw;have q1:=zc1 hrw;have q2:=zc2 hrw;have q3:=zc3 hrw;have q4:=zc4 hrw;have q5:=zc5 hrw;have q6:=zc6 hrw;have q7:=zc7 hrw;have hlt1:w.heap.size < w1.heap.size:=Nat.lt_of_lt_of_le HLT.out hb1.size;have HBW1:=Lib.hid (thru HB0.out hb1);clear hrw hb1)
   | (go_at_call 68;refine (HWI.out _).mono ?_;rintro e w' ⟨rfl,rfl⟩))
  have hclo:=clo_mk w1 (d);have hb2:=thru HBW1.out (bel2 w1 (.cells #[.int .i64 d] 3) (.cells #[.func (.func 69) #[] #[.pointer (some ⟨w1.heap.size,0,none⟩)]] 100));have k5:=cell_below (bel2 w1 (.cells #[.int .i64 d] 3) (.cells #[.func (.func 69) #[] #[.pointer (some ⟨w1.heap.size,0,none⟩)]] 100)) q5;generalize ((w1.alloc (.cells #[.int .i64 d] 3)).alloc (.cells #[.func (.func 69) #[] #[.pointer (some ⟨w1.heap.size,0,none⟩)]] 100)) = W2 at hclo hb2 k5 ⊢
  have k6:=cell_regrown hclo.2;have k7:=cell_regrown k5;have HBB2:=Lib.hid hb2;clear hb2 hclo k5;refine Qu.region (by kernel_rfl) (by kernel_rfl) ?_
  repeat (first
   | (first | refine Qu.carry0 rfl (fun K hK=>?_) | refine Qu.carryG rfl rfl rfl (fun K hK=>?_)
      go_simp
      first
      | (refine hK _ ?_;clear hK K)
      | (apply Exists.intro;refine ⟨fun _=>?_,hK _ ?_⟩;(fail);clear hK K))
   | (refine Qu.passG rfl rfl rfl (fun K hK=>?_);go_simp;refine hK _ ?_;clear hK K))
  refine Qu.fin ?_;rintro ⟨dq,osq⟩;go_wp2_with fail;go_ret;exact ⟨rfl,thru HBB2.out (below_regrown W2 dq osq)⟩
end Tr
end Go.Proofs.YtjmpfihopeohbaaGreatDoor
namespace Go.Proofs.YtjmpfihopeohbaaGreatDoor
open Go.RowKit Go.Sort
namespace Tr
open Cls Pt
theorem right_step (n:Nat) (hR:RightAt n):RightAt (n + 1):=by
 intro k nm g az ws ks bs cz x1 d1 x2 d2 x3 d3 x4 d4 x5 d5 d m w hsz hd h hok hfk hfc hm;have hks:ks.size≤n:=by omega
 have hcs:cz.size≤n:=by omega
 cases hc:countsB k
 ·cases ho:ownB k nm g az ws ks bs cz
  ·exact right_own_false n hR k nm g az ws ks bs cz x1 d1 x2 d2 x3 d3 x4 d4 x5 d5 d m w hks hcs hd h hok hfk hfc hm hc (.inr hc) ho
  ·have hlo:∀ j:Int,6≤j→j≤13→(k == j) = false:=by
    intro j h1 h2;rw [beq_eq_false_iff_ne];rintro rfl;simp [countsB,h1,h2] at hc
   by_cases e1:k = 1
   ·subst e1;exact right_1 n hR nm g az ws ks bs cz x1 d1 x2 d2 x3 d3 x4 d4 x5 d5 d m w hks hcs hd h hok hfk hfc hm ho
   have g1:(k == 1) = false:=by rw [beq_eq_false_iff_ne];exact e1
   by_cases e2:k = 2
   ·subst e2;exact right_2 n hR nm g az ws ks bs cz x1 d1 x2 d2 x3 d3 x4 d4 x5 d5 d m w hks hcs hd h hok hfk hfc hm ho
   have g2:(k == 2) = false:=by rw [beq_eq_false_iff_ne];exact e2
   by_cases e3:k = 3
   ·subst e3;exact right_3 n hR nm g az ws ks bs cz x1 d1 x2 d2 x3 d3 x4 d4 x5 d5 d m w hks hcs hd h hok hfk hfc hm ho
   have g3:(k == 3) = false:=by rw [beq_eq_false_iff_ne];exact e3
   by_cases e4:k = 4
   ·subst e4;exact right_4 n hR nm g az ws ks bs cz x1 d1 x2 d2 x3 d3 x4 d4 x5 d5 d m w hks hcs hd h hok hfk hfc hm ho
   have g4:(k == 4) = false:=by rw [beq_eq_false_iff_ne];exact e4
   by_cases e5:k = 5
   ·subst e5;exact right_5 n hR nm g az ws ks bs cz x1 d1 x2 d2 x3 d3 x4 d4 x5 d5 d m w hks hcs hd h hok hfk hfc hm ho
   have g5:(k == 5) = false:=by rw [beq_eq_false_iff_ne];exact e5
   exact right_no n hR k nm g az ws ks bs cz x1 d1 x2 d2 x3 d3 x4 d4 x5 d5 d m w hks hcs hd h hok hfk hfc hm hc g1 g2 g3 g4 g5 (hlo 6 (by decide) (by decide)) (hlo 7 (by decide) (by decide)) (hlo 8 (by decide) (by decide)) (hlo 9 (by decide) (by decide)) (hlo 10 (by decide) (by decide)) (hlo 11 (by decide) (by decide)) (hlo 12 (by decide) (by decide)) (hlo 13 (by decide) (by decide)) ho
 ·by_cases h2:200 < d
  ·exact right_deep n hR k nm g az ws ks bs cz x1 d1 x2 d2 x3 d3 x4 d4 x5 d5 d m w hks hcs hd h hok hfk hfc hm hc h2
  ·have hd2:d≤200:=by omega
   cases ho:ownB k nm g az ws ks bs cz
   ·exact right_own_true n hR k nm g az ws ks bs cz x1 d1 x2 d2 x3 d3 x4 d4 x5 d5 d m w hks hcs hd h hok hfk hfc hm hc (.inl hd2) ho
   ·have hk:6≤k∧k≤13:=by simpa [countsB] using hc
    have hkk:k = 6∨k = 7∨k = 8∨k = 9∨k = 10∨k = 11∨k = 12∨k = 13:=by omega
    rcases hkk with rfl | rfl | rfl | rfl | rfl | rfl | rfl | rfl
    ·exact right_6 n hR nm g az ws ks bs cz x1 d1 x2 d2 x3 d3 x4 d4 x5 d5 d m w hks hcs hd h hok hfk hfc hm hd2 ho
    ·exact right_7 n hR nm g az ws ks bs cz x1 d1 x2 d2 x3 d3 x4 d4 x5 d5 d m w hks hcs hd h hok hfk hfc hm hd2 ho
    ·exact right_8 n hR nm g az ws ks bs cz x1 d1 x2 d2 x3 d3 x4 d4 x5 d5 d m w hks hcs hd h hok hfk hfc hm hd2 ho
    ·exact right_9 n hR nm g az ws ks bs cz x1 d1 x2 d2 x3 d3 x4 d4 x5 d5 d m w hks hcs hd h hok hfk hfc hm hd2 ho
    ·exact right_10 n hR nm g az ws ks bs cz x1 d1 x2 d2 x3 d3 x4 d4 x5 d5 d m w hks hcs hd h hok hfk hfc hm hd2 ho
    ·exact right_11 n hR nm g az ws ks bs cz x1 d1 x2 d2 x3 d3 x4 d4 x5 d5 d m w hks hcs hd h hok hfk hfc hm hd2 ho
    ·exact right_12 n hR nm g az ws ks bs cz x1 d1 x2 d2 x3 d3 x4 d4 x5 d5 d m w hks hcs hd h hok hfk hfc hm hd2 ho
    ·exact right_13 n hR nm g az ws ks bs cz x1 d1 x2 d2 x3 d3 x4 d4 x5 d5 d m w hks hcs hd h hok hfk hfc hm hd2 ho
theorem right_at:∀ n,RightAt n
 | 0=>fun _ _ _ _ _ _ _ _ _ _ _ _ _ _ _ _ _ _ _ _ _ h=>absurd h (Nat.not_lt_zero _)
 | n + 1=>right_step n (right_at n)
theorem right_top (k:Int) (nm:ByteArray) (g:Bool) (az:List (ByteArray × PL)) (ws:List PL) (ks:NL) (bs:List Bool) (cz:NL) (x1 d1 x2 d2 x3 d3 x4 d4 x5 d5) (m:Int) (w:World) (h:Holds w nm az ws ks bs cz x1 d1 x2 d2 x3 d3 x4 d4 x5 d5) (hok:∀ l ∈ ws,wOK l) (hfk:fitN ks) (hfc:fitN cz) (hm:w.cell? ⟨0,0,none⟩ = some (.int .i64 m)) :
  Calls Tryz.prog 22 #[.agg (nodeV k nm g x1 az.length d1 x2 ws.length d2 x3 ks.len d3 x4 bs.length d4 x5 cz.len d5)] w fun e w'=>e = .returned (.bool (nodeR k nm g az ws ks bs cz 1))∧Below w.heap.size w w':=by
 have hR:=right_at (ks.size + cz.size + 1) k nm g az ws ks bs cz x1 d1 x2 d2 x3 d3 x4 d4 x5 d5 1 m (w.alloc (.cells #[.int .i64 k,.string nm,.bool g,.slice x1 az.length d1,.slice x2 ws.length d2,.slice x3 ks.len d3,.slice x4 bs.length d4,.slice x5 cz.len d5] 28)) (Nat.lt_succ_self _) (by omega) (h.below (bel1 _ _)) hok hfk hfc (cell_below (bel1 _ _) hm);unfold nodeV at hR ⊢
 have HR:=Lib.hid hR;clear hR h hok hfk hfc hm;go_enter Tryz.func22,Tryz.ntmps22;go_wp2_with (go_at_call 46;refine (HR.out).mono ?_;rintro e w1 ⟨rfl,hb⟩);go_ret;exact ⟨rfl,thru (bel1 _ _) (by assumption)⟩
end Tr
end Go.Proofs.YtjmpfihopeohbaaGreatDoor
namespace Go.Proofs.YtjmpfihopeohbaaGreatDoor
open Go.RowKit Go.Sort
namespace Tr
open Cls Pt
structure FrP (pb:Nat) (w w':World):Prop where
 os:w'.os = w.os
 tape:w'.tape = w.tape
 output:w'.output = w.output
 size:w.heap.size≤w'.heap.size
 block:∀ b,b < w.heap.size→b ≠ pb→w'.heap[b]? = w.heap[b]?
theorem FrP.refl (pb:Nat) (w:World):FrP pb w w:=⟨rfl,rfl,rfl,Nat.le_refl _,fun _ _ _=>rfl⟩
theorem FrP.trans {pb:Nat} {w w' w'':World} (h:FrP pb w w') (k:FrP pb w' w''):FrP pb w w'' :=
 ⟨k.os.trans h.os,k.tape.trans h.tape,k.output.trans h.output,Nat.le_trans h.size k.size,fun b hb hn=>(k.block b (Nat.lt_of_lt_of_le hb h.size) hn).trans (h.block b hb hn)⟩
theorem FrP.of_below {pb:Nat} {w w':World} (h:Below w.heap.size w w'):FrP pb w w':=⟨h.os,h.tape,h.output,h.size,fun b hb _=>h.block b hb⟩
theorem FrP.set {pb:Nat} (w:World) (i:Nat) (v:Value):FrP pb w (w.setCell ⟨pb,i,none⟩ v):=⟨rfl,rfl,rfl,by simp,fun b _ hn=>Below.heap_setCell _ _ _ _ hn⟩
theorem FrP.below {pb:Nat} {w0 w w':World} (h:FrP pb w w') (hb:Below w0.heap.size w0 w) (hp:w0.heap.size≤pb):Below w0.heap.size w0 w' :=
 ⟨h.os.trans hb.os,h.tape.trans hb.tape,h.output.trans hb.output,Nat.le_trans hb.size h.size,fun b hlt=>(h.block b (Nat.lt_of_lt_of_le hlt hb.size) (by omega)).trans (hb.block b hlt)⟩
end Tr
end Go.Proofs.YtjmpfihopeohbaaGreatDoor
namespace Go.Proofs.YtjmpfihopeohbaaGreatDoor
open Go.RowKit Go.Sort
namespace Tr
open Cls Pt
theorem program_any (k:Int) (nm:ByteArray) (g:Bool) (az:List (ByteArray × PL)) (ws:List PL) (ks:NL) (bs:List Bool) (cz:NL) (x1 d1 x2 d2 x3 d3 x4 d4 x5 d5) (m:Int) (w:World) (h:Holds w nm az ws ks bs cz x1 d1 x2 d2 x3 d3 x4 d4 x5 d5) (hok:∀ l ∈ ws,wOK l) (hfk:fitN ks) (hfc:fitN cz) (hm:w.cell? ⟨0,0,none⟩ = some (.int .i64 m)) :
  Calls Tryz.prog 15 #[.agg (nodeV k nm g x1 az.length d1 x2 ws.length d2 x3 ks.len d3 x4 bs.length d4 x5 cz.len d5)] w fun e w'=>e = .returned (.bool (k == 5 && nodeR k nm g az ws ks bs cz 1))∧Below w.heap.size w w':=by
 have hR:=fun X=>right_top k nm g az ws ks bs cz x1 d1 x2 d2 x3 d3 x4 d4 x5 d5 m (w.alloc X) (h.below (bel1 _ _)) hok hfk hfc (cell_below (bel1 _ _) hm);unfold nodeV at hR ⊢
 have HR:=Lib.hid hR;clear hR h hok hfk hfc hm;cases h5:(k == 5)
 ·go_enter Tryz.func15,Tryz.ntmps15;go_wp2_with fail;go_ret;exact ⟨rfl,bel1 _ _⟩
 ·go_enter Tryz.func15,Tryz.ntmps15;go_wp2_with (go_at_call 22;refine (HR.out _).mono ?_;rintro e w1 ⟨rfl,hb⟩);go_ret;exact ⟨ret_bool rfl,thru (bel1 _ _) (by assumption)⟩
end Tr
end Go.Proofs.YtjmpfihopeohbaaGreatDoor
