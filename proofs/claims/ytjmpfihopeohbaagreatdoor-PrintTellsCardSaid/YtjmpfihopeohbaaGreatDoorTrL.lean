/- rightAt, Right, Program, for all nodes. -/
import Derived.Test.YtjmpfihopeohbaaGreatDoorTrK
import Derived.Laws.EntriesVeiled
set_option maxHeartbeats 1600000
set_option maxRecDepth 100000
namespace Go.Proofs.YtjmpfihopeohbaaGreatDoor
open Go.RowKit Go.Sort
namespace Tr
open Cls Pt
theorem clo_mk (w:World) (d:Nat):Clo ((w.alloc (.cells #[.int .i64 d] 3)).alloc (.cells #[.func (.func 69) #[] #[.pointer (some ⟨w.heap.size,0,none⟩)]] 100)) w.heap.size (w.heap.size + 1) d:=by
 refine ⟨Lib.cell_of_heap ((Below.heap_alloc _ _ _ (by simp only [World.size_alloc];omega)).trans (heap_new' _ _)) 0,?_⟩;have h:=heap_new' (w.alloc (.cells #[.int .i64 d] 3)) (.cells #[.func (.func 69) #[] #[.pointer (some ⟨w.heap.size,0,none⟩)]] 100);simp only [World.size_alloc] at h;exact Lib.cell_of_heap h 0
theorem right_deep (n:Nat) (hR:RightAt n) (k:Int) (nm:ByteArray) (g:Bool) (az:List (ByteArray × PL)) (ws:List PL) (ks:NL) (bs:List Bool) (cz:NL) (x1 d1 x2 d2 x3 d3 x4 d4 x5 d5) (d:Nat) (m:Int) (w:World) (hks:ks.size≤n) (hcs:cz.size≤n) (hd:d≤201) (h:Holds w nm az ws ks bs cz x1 d1 x2 d2 x3 d3 x4 d4 x5 d5) (hok:∀ l ∈ ws,wOK l) (hfk:fitN ks) (hfc:fitN cz) (hm:w.cell? ⟨0,0,none⟩ = some (.int .i64 m)) (hc:countsB k = true) (h2:200 < d) :
  Calls Tryz.prog 46 #[.agg (nodeV k nm g x1 az.length d1 x2 ws.length d2 x3 ks.len d3 x4 bs.length d4 x5 cz.len d5),.int .i64 d] w fun e w'=>e = .returned (.bool (nodeR k nm g az ws ks bs cz d))∧Below w.heap.size w w':=by
 have hans:nodeR k nm g az ws ks bs cz d = false:=by unfold nodeR deepB;rw [hc,decide_eq_true h2];rfl
 have HANS:=Lib.hid hans;have hCN:=fun w=>counts_any k w;rw [hc] at hCN;have HCN:=Lib.hid hCN;clear hans hCN hc h hok hfk hfc hm hR hks hcs;unfold nodeV;go_enter Tryz.func46,Tryz.ntmps46;go_wp2_with (go_at_call 66;refine (HCN.out _).mono ?_;rintro e w' ⟨rfl,rfl⟩);go_ret;exact ⟨ret_bool HANS.out.symm,bel1 _ _⟩
theorem right_own_false (n:Nat) (hR:RightAt n) (k:Int) (nm:ByteArray) (g:Bool) (az:List (ByteArray × PL)) (ws:List PL) (ks:NL) (bs:List Bool) (cz:NL) (x1 d1 x2 d2 x3 d3 x4 d4 x5 d5) (d:Nat) (m:Int) (w:World) (hks:ks.size≤n) (hcs:cz.size≤n) (hd:d≤201) (h:Holds w nm az ws ks bs cz x1 d1 x2 d2 x3 d3 x4 d4 x5 d5) (hok:∀ l ∈ ws,wOK l) (hfk:fitN ks) (hfc:fitN cz) (hm:w.cell? ⟨0,0,none⟩ = some (.int .i64 m)) (hc:countsB k = false) (h2:d≤200∨countsB k = false) (ho:ownB k nm g az ws ks bs cz = false) :
  Calls Tryz.prog 46 #[.agg (nodeV k nm g x1 az.length d1 x2 ws.length d2 x3 ks.len d3 x4 bs.length d4 x5 cz.len d5),.int .i64 d] w fun e w'=>e = .returned (.bool (nodeR k nm g az ws ks bs cz d))∧Below w.heap.size w w':=by
 have hans:nodeR k nm g az ws ks bs cz d = false:=by unfold nodeR;rw [ho];simp
 have HANS:=Lib.hid hans;clear hans;have h2':((200:Int) < (d:Int)) = False∨countsB k = false:=by
  rcases h2 with h2 | h2
  ·left;rw [eq_iff_iff,iff_false];omega
  ·exact .inr h2
 have hrow:(w.alloc (.cells #[.int .i64 k,.string nm,.bool g,.slice x1 az.length d1,.slice x2 ws.length d2,.slice x3 ks.len d3,.slice x4 bs.length d4,.slice x5 cz.len d5] 28)).heap[w.heap.size]? = some (.cells #[.int .i64 k,.string nm,.bool g,.slice x1 az.length d1,.slice x2 ws.length d2,.slice x3 ks.len d3,.slice x4 bs.length d4,.slice x5 cz.len d5] 28 (0,0)):=heap_new' _ _;have hlt0:w.heap.size < (w.alloc (.cells #[.int .i64 k,.string nm,.bool g,.slice x1 az.length d1,.slice x2 ws.length d2,.slice x3 ks.len d3,.slice x4 bs.length d4,.slice x5 cz.len d5] 28)).heap.size:=by simp only [World.size_alloc];omega
 have hOWN:=own_any k nm g az ws ks bs cz x1 d1 x2 d2 x3 d3 x4 d4 x5 d5 (w.alloc (.cells #[.int .i64 k,.string nm,.bool g,.slice x1 az.length d1,.slice x2 ws.length d2,.slice x3 ks.len d3,.slice x4 bs.length d4,.slice x5 cz.len d5] 28)) (h.below (bel1 w _));unfold nodeV at hOWN;rw [ho] at hOWN;have hCN:=fun w=>counts_any k w;rw [hc] at hCN;have HROW:=Lib.hid hrow;have HLT:=Lib.hid hlt0;have HB0:=Lib.hid (bel1 w (.cells #[.int .i64 k,.string nm,.bool g,.slice x1 az.length d1,.slice x2 ws.length d2,.slice x3 ks.len d3,.slice x4 bs.length d4,.slice x5 cz.len d5] 28));have HOWN:=Lib.hid hOWN;have HCN:=Lib.hid hCN;clear hrow hlt0 hOWN hCN;clear h hok hfk hfc hm hR hks hcs h2;unfold nodeV;clear h2' hc;go_enter Tryz.func46,Tryz.ntmps46
 go_wp2_with (first
  | (go_at_call 66;refine (HCN.out _).mono ?_;rintro e w' ⟨rfl,rfl⟩)
  | (go_at_call 67;refine (HOWN.out).mono ?_;rintro e w1 ⟨rfl,hb1⟩;have hrw:=(hb1.block _ HLT.out).trans HROW.out;have q0:=zc0 hrw;have q1:=zc1 hrw;have q2:=zc2 hrw;have q3:=zc3 hrw;have q4:=zc4 hrw;have q5:=zc5 hrw;have q6:=zc6 hrw;have q7:=zc7 hrw;have hlt1:w.heap.size < w1.heap.size:=Nat.lt_of_lt_of_le HLT.out hb1.size;have HBW1:=Lib.hid (thru HB0.out hb1);clear hrw hb1))
 go_ret;exact ⟨ret_bool HANS.out.symm,HBW1.out⟩
theorem right_own_true (n:Nat) (hR:RightAt n) (k:Int) (nm:ByteArray) (g:Bool) (az:List (ByteArray × PL)) (ws:List PL) (ks:NL) (bs:List Bool) (cz:NL) (x1 d1 x2 d2 x3 d3 x4 d4 x5 d5) (d:Nat) (m:Int) (w:World) (hks:ks.size≤n) (hcs:cz.size≤n) (hd:d≤201) (h:Holds w nm az ws ks bs cz x1 d1 x2 d2 x3 d3 x4 d4 x5 d5) (hok:∀ l ∈ ws,wOK l) (hfk:fitN ks) (hfc:fitN cz) (hm:w.cell? ⟨0,0,none⟩ = some (.int .i64 m)) (hc:countsB k = true) (h2:d≤200∨countsB k = false) (ho:ownB k nm g az ws ks bs cz = false) :
  Calls Tryz.prog 46 #[.agg (nodeV k nm g x1 az.length d1 x2 ws.length d2 x3 ks.len d3 x4 bs.length d4 x5 cz.len d5),.int .i64 d] w fun e w'=>e = .returned (.bool (nodeR k nm g az ws ks bs cz d))∧Below w.heap.size w w':=by
 have hans:nodeR k nm g az ws ks bs cz d = false:=by unfold nodeR;rw [ho];simp
 have HANS:=Lib.hid hans;clear hans;have h2':((200:Int) < (d:Int)) = False∨countsB k = false:=by
  rcases h2 with h2 | h2
  ·left;rw [eq_iff_iff,iff_false];omega
  ·exact .inr h2
 have hrow:(w.alloc (.cells #[.int .i64 k,.string nm,.bool g,.slice x1 az.length d1,.slice x2 ws.length d2,.slice x3 ks.len d3,.slice x4 bs.length d4,.slice x5 cz.len d5] 28)).heap[w.heap.size]? = some (.cells #[.int .i64 k,.string nm,.bool g,.slice x1 az.length d1,.slice x2 ws.length d2,.slice x3 ks.len d3,.slice x4 bs.length d4,.slice x5 cz.len d5] 28 (0,0)):=heap_new' _ _;have hlt0:w.heap.size < (w.alloc (.cells #[.int .i64 k,.string nm,.bool g,.slice x1 az.length d1,.slice x2 ws.length d2,.slice x3 ks.len d3,.slice x4 bs.length d4,.slice x5 cz.len d5] 28)).heap.size:=by simp only [World.size_alloc];omega
 have hOWN:=own_any k nm g az ws ks bs cz x1 d1 x2 d2 x3 d3 x4 d4 x5 d5 (w.alloc (.cells #[.int .i64 k,.string nm,.bool g,.slice x1 az.length d1,.slice x2 ws.length d2,.slice x3 ks.len d3,.slice x4 bs.length d4,.slice x5 cz.len d5] 28)) (h.below (bel1 w _));unfold nodeV at hOWN;rw [ho] at hOWN;have hCN:=fun w=>counts_any k w;rw [hc] at hCN;have HROW:=Lib.hid hrow;have HLT:=Lib.hid hlt0;have HB0:=Lib.hid (bel1 w (.cells #[.int .i64 k,.string nm,.bool g,.slice x1 az.length d1,.slice x2 ws.length d2,.slice x3 ks.len d3,.slice x4 bs.length d4,.slice x5 cz.len d5] 28));have HOWN:=Lib.hid hOWN;have HCN:=Lib.hid hCN;clear hrow hlt0 hOWN hCN;clear h hok hfk hfc hm hR hks hcs h2;unfold nodeV;rcases h2' with h2' | h2'
 ·clear hc;go_enter Tryz.func46,Tryz.ntmps46
  go_wp2_with (first
   | (go_at_call 66;refine (HCN.out _).mono ?_;rintro e w' ⟨rfl,rfl⟩)
   | (go_at_call 67;refine (HOWN.out).mono ?_;rintro e w1 ⟨rfl,hb1⟩;have hrw:=(hb1.block _ HLT.out).trans HROW.out;have q0:=zc0 hrw;have q1:=zc1 hrw;have q2:=zc2 hrw;have q3:=zc3 hrw;have q4:=zc4 hrw;have q5:=zc5 hrw;have q6:=zc6 hrw;have q7:=zc7 hrw;have hlt1:w.heap.size < w1.heap.size:=Nat.lt_of_lt_of_le HLT.out hb1.size;have HBW1:=Lib.hid (thru HB0.out hb1);clear hrw hb1))
  go_ret;exact ⟨ret_bool HANS.out.symm,HBW1.out⟩
 ·rw [hc] at h2';cases h2'
theorem right_4 (n:Nat) (hR:RightAt n) (nm:ByteArray) (g:Bool) (az:List (ByteArray × PL)) (ws:List PL) (ks:NL) (bs:List Bool) (cz:NL) (x1 d1 x2 d2 x3 d3 x4 d4 x5 d5) (d:Nat) (m:Int) (w:World) (hks:ks.size≤n) (hcs:cz.size≤n) (hd:d≤201) (h:Holds w nm az ws ks bs cz x1 d1 x2 d2 x3 d3 x4 d4 x5 d5) (hok:∀ l ∈ ws,wOK l) (hfk:fitN ks) (hfc:fitN cz) (hm:w.cell? ⟨0,0,none⟩ = some (.int .i64 m)) (ho:ownB 4 nm g az ws ks bs cz = true) :
  Calls Tryz.prog 46 #[.agg (nodeV 4 nm g x1 az.length d1 x2 ws.length d2 x3 ks.len d3 x4 bs.length d4 x5 cz.len d5),.int .i64 d] w fun e w'=>e = .returned (.bool (nodeR 4 nm g az ws ks bs cz d))∧Below w.heap.size w w':=by
 have hkind:nodeR 4 nm g az ws ks bs cz d = kindB 4 nm g az ws ks bs (rt ks (d)) (rt cz (d)):=by
  unfold nodeR;rw [show deepB 4 d = false from rfl,ho];rfl
 have hrow:(w.alloc (.cells #[.int .i64 4,.string nm,.bool g,.slice x1 az.length d1,.slice x2 ws.length d2,.slice x3 ks.len d3,.slice x4 bs.length d4,.slice x5 cz.len d5] 28)).heap[w.heap.size]? = some (.cells #[.int .i64 4,.string nm,.bool g,.slice x1 az.length d1,.slice x2 ws.length d2,.slice x3 ks.len d3,.slice x4 bs.length d4,.slice x5 cz.len d5] 28 (0,0)):=heap_new' _ _;have hlt0:w.heap.size < (w.alloc (.cells #[.int .i64 4,.string nm,.bool g,.slice x1 az.length d1,.slice x2 ws.length d2,.slice x3 ks.len d3,.slice x4 bs.length d4,.slice x5 cz.len d5] 28)).heap.size:=by simp only [World.size_alloc];omega
 have hOWN:=own_any 4 nm g az ws ks bs cz x1 d1 x2 d2 x3 d3 x4 d4 x5 d5 (w.alloc (.cells #[.int .i64 4,.string nm,.bool g,.slice x1 az.length d1,.slice x2 ws.length d2,.slice x3 ks.len d3,.slice x4 bs.length d4,.slice x5 cz.len d5] 28)) (h.below (bel1 w _));unfold nodeV at hOWN;rw [ho] at hOWN;have hCN:=fun w=>counts_any 4 w;rw [show countsB 4 = false from rfl] at hCN;have HROW:=Lib.hid hrow;have HLT:=Lib.hid hlt0;have HB0:=Lib.hid (bel1 w (.cells #[.int .i64 4,.string nm,.bool g,.slice x1 az.length d1,.slice x2 ws.length d2,.slice x3 ks.len d3,.slice x4 bs.length d4,.slice x5 cz.len d5] 28));have HOWN:=Lib.hid hOWN;have HCN:=Lib.hid hCN;clear hrow hlt0 hOWN hCN;have hWI:=fun w=>within_any 4 d (by omega) w;rw [show withinD 4 d = d from rfl] at hWI;have HWI:=Lib.hid hWI;clear hWI;have hALL:=fun W pb (hb:Below w.heap.size w W) hp=>all_command n hR ks hks h.okk hfk (d) pb (by omega) x3 d3 m W (h.hks.below hb) (cell_below hb hm) hp;rw [hkind];have hle3:=h.hks.le;have hle4:=h.hbs.le;have HALL:=Lib.hid hALL;clear hALL hkind h hok hfk hfc hm hR ho;unfold nodeV
 by_cases hq:ks.len = 1
 ·have hq1:((ks.len:Int) == 1) = true:=by rw [hq];rfl
  have hans:kindB 4 nm g az ws ks bs (rt ks (d)) (rt cz (d)) = (allS commandS ks && rt ks (d)):=by unfold kindB;simp [hq]
  rw [hans];clear hans hq;go_enter Tryz.func46,Tryz.ntmps46
  go_wp2_with (first
   | (go_at_call 66;refine (HCN.out _).mono ?_;rintro e w' ⟨rfl,rfl⟩)
   | (go_at_call 67;refine (HOWN.out).mono ?_;rintro e w1 ⟨rfl,hb1⟩;have hrw:=(hb1.block _ HLT.out).trans HROW.out;have q0:=zc0 hrw;have q1:=zc1 hrw;have q2:=zc2 hrw;have q3:=zc3 hrw;have q4:=zc4 hrw;have q5:=zc5 hrw;have q6:=zc6 hrw;have q7:=zc7 hrw;have hlt1:w.heap.size < w1.heap.size:=Nat.lt_of_lt_of_le HLT.out hb1.size;have HBW1:=Lib.hid (thru HB0.out hb1);clear hrw hb1)
   | (go_at_call 68;refine (HWI.out _).mono ?_;rintro e w' ⟨rfl,rfl⟩)
   | (go_at_call 69;refine (HALL.out _ _ (thru HBW1.out (bel2 _ _ _)) (clo_mk _ _).1).mono ?_;rintro e w2 ⟨rfl,hb2⟩))
  go_ret;exact ⟨rfl,thru (thru HBW1.out (bel2 _ _ _)) (by assumption)⟩
 ·have hq1:((ks.len:Int) == 1) = false:=by rw [beq_eq_false_iff_ne];omega
  have hans:kindB 4 nm g az ws ks bs (rt ks (d)) (rt cz (d)) = false:=by unfold kindB;simp [hq]
  rw [hans];clear hans hq;go_enter Tryz.func46,Tryz.ntmps46
  go_wp2_with (first
   | (go_at_call 66;refine (HCN.out _).mono ?_;rintro e w' ⟨rfl,rfl⟩)
   | (go_at_call 67;refine (HOWN.out).mono ?_;rintro e w1 ⟨rfl,hb1⟩;have hrw:=(hb1.block _ HLT.out).trans HROW.out;have q0:=zc0 hrw;have q1:=zc1 hrw;have q2:=zc2 hrw;have q3:=zc3 hrw;have q4:=zc4 hrw;have q5:=zc5 hrw;have q6:=zc6 hrw;have q7:=zc7 hrw;have hlt1:w.heap.size < w1.heap.size:=Nat.lt_of_lt_of_le HLT.out hb1.size;have HBW1:=Lib.hid (thru HB0.out hb1);clear hrw hb1)
   | (go_at_call 68;refine (HWI.out _).mono ?_;rintro e w' ⟨rfl,rfl⟩))
  go_ret;exact ⟨rfl,(thru HBW1.out (bel2 _ _ _))⟩
theorem right_5 (n:Nat) (hR:RightAt n) (nm:ByteArray) (g:Bool) (az:List (ByteArray × PL)) (ws:List PL) (ks:NL) (bs:List Bool) (cz:NL) (x1 d1 x2 d2 x3 d3 x4 d4 x5 d5) (d:Nat) (m:Int) (w:World) (hks:ks.size≤n) (hcs:cz.size≤n) (hd:d≤201) (h:Holds w nm az ws ks bs cz x1 d1 x2 d2 x3 d3 x4 d4 x5 d5) (hok:∀ l ∈ ws,wOK l) (hfk:fitN ks) (hfc:fitN cz) (hm:w.cell? ⟨0,0,none⟩ = some (.int .i64 m)) (ho:ownB 5 nm g az ws ks bs cz = true) :
  Calls Tryz.prog 46 #[.agg (nodeV 5 nm g x1 az.length d1 x2 ws.length d2 x3 ks.len d3 x4 bs.length d4 x5 cz.len d5),.int .i64 d] w fun e w'=>e = .returned (.bool (nodeR 5 nm g az ws ks bs cz d))∧Below w.heap.size w w':=by
 have hkind:nodeR 5 nm g az ws ks bs cz d = kindB 5 nm g az ws ks bs (rt ks (d)) (rt cz (d)):=by
  unfold nodeR;rw [show deepB 5 d = false from rfl,ho];rfl
 have hrow:(w.alloc (.cells #[.int .i64 5,.string nm,.bool g,.slice x1 az.length d1,.slice x2 ws.length d2,.slice x3 ks.len d3,.slice x4 bs.length d4,.slice x5 cz.len d5] 28)).heap[w.heap.size]? = some (.cells #[.int .i64 5,.string nm,.bool g,.slice x1 az.length d1,.slice x2 ws.length d2,.slice x3 ks.len d3,.slice x4 bs.length d4,.slice x5 cz.len d5] 28 (0,0)):=heap_new' _ _;have hlt0:w.heap.size < (w.alloc (.cells #[.int .i64 5,.string nm,.bool g,.slice x1 az.length d1,.slice x2 ws.length d2,.slice x3 ks.len d3,.slice x4 bs.length d4,.slice x5 cz.len d5] 28)).heap.size:=by simp only [World.size_alloc];omega
 have hOWN:=own_any 5 nm g az ws ks bs cz x1 d1 x2 d2 x3 d3 x4 d4 x5 d5 (w.alloc (.cells #[.int .i64 5,.string nm,.bool g,.slice x1 az.length d1,.slice x2 ws.length d2,.slice x3 ks.len d3,.slice x4 bs.length d4,.slice x5 cz.len d5] 28)) (h.below (bel1 w _));unfold nodeV at hOWN;rw [ho] at hOWN;have hCN:=fun w=>counts_any 5 w;rw [show countsB 5 = false from rfl] at hCN;have HROW:=Lib.hid hrow;have HLT:=Lib.hid hlt0;have HB0:=Lib.hid (bel1 w (.cells #[.int .i64 5,.string nm,.bool g,.slice x1 az.length d1,.slice x2 ws.length d2,.slice x3 ks.len d3,.slice x4 bs.length d4,.slice x5 cz.len d5] 28));have HOWN:=Lib.hid hOWN;have HCN:=Lib.hid hCN;clear hrow hlt0 hOWN hCN;have hWI:=fun w=>within_any 5 d (by omega) w;rw [show withinD 5 d = d from rfl] at hWI;have HWI:=Lib.hid hWI;clear hWI;have hALL:=fun W pb (hb:Below w.heap.size w W) hp=>all_item n hR ks hks h.okk hfk (d) pb (by omega) x3 d3 m W (h.hks.below hb) (cell_below hb hm) hp;rw [hkind];have hle3:=h.hks.le;have hle4:=h.hbs.le;have HALL:=Lib.hid hALL;clear hALL hkind h hok hfk hfc hm hR ho;unfold nodeV
 by_cases hq:ks.len = bs.length
 ·have hq1:((ks.len:Int) == (bs.length:Int)) = true:=by rw [hq];simp
  have hans:kindB 5 nm g az ws ks bs (rt ks (d)) (rt cz (d)) = (allS itemS ks && rt ks (d)):=by unfold kindB;simp [hq]
  rw [hans];clear hans hq;go_enter Tryz.func46,Tryz.ntmps46
  go_wp2_with (first
   | (go_at_call 66;refine (HCN.out _).mono ?_;rintro e w' ⟨rfl,rfl⟩)
   | (go_at_call 67;refine (HOWN.out).mono ?_;rintro e w1 ⟨rfl,hb1⟩;have hrw:=(hb1.block _ HLT.out).trans HROW.out;have q0:=zc0 hrw;have q1:=zc1 hrw;have q2:=zc2 hrw;have q3:=zc3 hrw;have q4:=zc4 hrw;have q5:=zc5 hrw;have q6:=zc6 hrw;have q7:=zc7 hrw;have hlt1:w.heap.size < w1.heap.size:=Nat.lt_of_lt_of_le HLT.out hb1.size;have HBW1:=Lib.hid (thru HB0.out hb1);clear hrw hb1)
   | (go_at_call 68;refine (HWI.out _).mono ?_;rintro e w' ⟨rfl,rfl⟩)
   | (go_at_call 69;refine (HALL.out _ _ (thru HBW1.out (bel2 _ _ _)) (clo_mk _ _).1).mono ?_;rintro e w2 ⟨rfl,hb2⟩))
  go_ret;exact ⟨rfl,thru (thru HBW1.out (bel2 _ _ _)) (by assumption)⟩
 ·have hq1:((ks.len:Int) == (bs.length:Int)) = false:=by rw [beq_eq_false_iff_ne];omega
  have hans:kindB 5 nm g az ws ks bs (rt ks (d)) (rt cz (d)) = false:=by unfold kindB;simp [hq]
  rw [hans];clear hans hq;go_enter Tryz.func46,Tryz.ntmps46
  go_wp2_with (first
   | (go_at_call 66;refine (HCN.out _).mono ?_;rintro e w' ⟨rfl,rfl⟩)
   | (go_at_call 67;refine (HOWN.out).mono ?_;rintro e w1 ⟨rfl,hb1⟩;have hrw:=(hb1.block _ HLT.out).trans HROW.out;have q0:=zc0 hrw;have q1:=zc1 hrw;have q2:=zc2 hrw;have q3:=zc3 hrw;have q4:=zc4 hrw;have q5:=zc5 hrw;have q6:=zc6 hrw;have q7:=zc7 hrw;have hlt1:w.heap.size < w1.heap.size:=Nat.lt_of_lt_of_le HLT.out hb1.size;have HBW1:=Lib.hid (thru HB0.out hb1);clear hrw hb1)
   | (go_at_call 68;refine (HWI.out _).mono ?_;rintro e w' ⟨rfl,rfl⟩))
  go_ret;exact ⟨rfl,(thru HBW1.out (bel2 _ _ _))⟩
theorem right_6 (n:Nat) (hR:RightAt n) (nm:ByteArray) (g:Bool) (az:List (ByteArray × PL)) (ws:List PL) (ks:NL) (bs:List Bool) (cz:NL) (x1 d1 x2 d2 x3 d3 x4 d4 x5 d5) (d:Nat) (m:Int) (w:World) (hks:ks.size≤n) (hcs:cz.size≤n) (hd:d≤201) (h:Holds w nm az ws ks bs cz x1 d1 x2 d2 x3 d3 x4 d4 x5 d5) (hok:∀ l ∈ ws,wOK l) (hfk:fitN ks) (hfc:fitN cz) (hm:w.cell? ⟨0,0,none⟩ = some (.int .i64 m)) (hd2:d≤200) (ho:ownB 6 nm g az ws ks bs cz = true) :
  Calls Tryz.prog 46 #[.agg (nodeV 6 nm g x1 az.length d1 x2 ws.length d2 x3 ks.len d3 x4 bs.length d4 x5 cz.len d5),.int .i64 d] w fun e w'=>e = .returned (.bool (nodeR 6 nm g az ws ks bs cz d))∧Below w.heap.size w w':=by
 have hkind:nodeR 6 nm g az ws ks bs cz d = kindB 6 nm g az ws ks bs (rt ks (d + 1)) (rt cz (d + 1)):=by
  unfold nodeR;rw [show deepB 6 d = false from by unfold deepB;rw [decide_eq_false (by omega)];simp,ho];rfl
 have hgt:((200:Int) < (d:Int)) = False:=by rw [eq_iff_iff,iff_false];omega
 have hrow:(w.alloc (.cells #[.int .i64 6,.string nm,.bool g,.slice x1 az.length d1,.slice x2 ws.length d2,.slice x3 ks.len d3,.slice x4 bs.length d4,.slice x5 cz.len d5] 28)).heap[w.heap.size]? = some (.cells #[.int .i64 6,.string nm,.bool g,.slice x1 az.length d1,.slice x2 ws.length d2,.slice x3 ks.len d3,.slice x4 bs.length d4,.slice x5 cz.len d5] 28 (0,0)):=heap_new' _ _;have hlt0:w.heap.size < (w.alloc (.cells #[.int .i64 6,.string nm,.bool g,.slice x1 az.length d1,.slice x2 ws.length d2,.slice x3 ks.len d3,.slice x4 bs.length d4,.slice x5 cz.len d5] 28)).heap.size:=by simp only [World.size_alloc];omega
 have hOWN:=own_any 6 nm g az ws ks bs cz x1 d1 x2 d2 x3 d3 x4 d4 x5 d5 (w.alloc (.cells #[.int .i64 6,.string nm,.bool g,.slice x1 az.length d1,.slice x2 ws.length d2,.slice x3 ks.len d3,.slice x4 bs.length d4,.slice x5 cz.len d5] 28)) (h.below (bel1 w _));unfold nodeV at hOWN;rw [ho] at hOWN;have hCN:=fun w=>counts_any 6 w;rw [show countsB 6 = true from rfl] at hCN;have HROW:=Lib.hid hrow;have HLT:=Lib.hid hlt0;have HB0:=Lib.hid (bel1 w (.cells #[.int .i64 6,.string nm,.bool g,.slice x1 az.length d1,.slice x2 ws.length d2,.slice x3 ks.len d3,.slice x4 bs.length d4,.slice x5 cz.len d5] 28));have HOWN:=Lib.hid hOWN;have HCN:=Lib.hid hCN;clear hrow hlt0 hOWN hCN;have hWI:=fun w=>within_any 6 d (by omega) w;rw [show withinD 6 d = d + 1 from rfl] at hWI;have HWI:=Lib.hid hWI;clear hWI;have hALL:=fun W pb (hb:Below w.heap.size w W) hp=>all_body n hR ks hks h.okk hfk (d + 1) pb (by omega) x3 d3 m W (h.hks.below hb) (cell_below hb hm) hp;rw [hkind];have hle3:=h.hks.le;have hle4:=h.hbs.le;have HALL:=Lib.hid hALL;clear hALL hkind h hok hfk hfc hm hR ho;unfold nodeV
 by_cases hq:ks.len = 2∨ks.len = 3
 ·have hans:kindB 6 nm g az ws ks bs (rt ks (d + 1)) (rt cz (d + 1)) = (allS bodyB ks && rt ks (d + 1)):=by
   unfold kindB;rcases hq with hq | hq <;> simp [hq]
  rw [hans];have hq1:((ks.len:Int) == 2) = true∨(((ks.len:Int) == 2) = false∧((ks.len:Int) == 3) = true):=by
   rcases hq with hq | hq
   ·left;rw [hq];rfl
   ·right;rw [hq];exact ⟨rfl,rfl⟩
  clear hans hq;rcases hq1 with hq1 | ⟨hq1,hq2⟩
  all_goals
   go_enter Tryz.func46,Tryz.ntmps46
   go_wp2_with (first
    | (go_at_call 66;refine (HCN.out _).mono ?_;rintro e w' ⟨rfl,rfl⟩)
    | (go_at_call 67;refine (HOWN.out).mono ?_;rintro e w1 ⟨rfl,hb1⟩;have hrw:=(hb1.block _ HLT.out).trans HROW.out;have q0:=zc0 hrw;have q1:=zc1 hrw;have q2:=zc2 hrw;have q3:=zc3 hrw;have q4:=zc4 hrw;have q5:=zc5 hrw;have q6:=zc6 hrw;have q7:=zc7 hrw;have hlt1:w.heap.size < w1.heap.size:=Nat.lt_of_lt_of_le HLT.out hb1.size;have HBW1:=Lib.hid (thru HB0.out hb1);clear hrw hb1)
    | (go_at_call 68;refine (HWI.out _).mono ?_;rintro e w' ⟨rfl,rfl⟩)
    | (go_at_call 69;refine (HALL.out _ _ (thru HBW1.out (bel2 _ _ _)) (clo_mk _ _).1).mono ?_;rintro e w2 ⟨rfl,hb2⟩))
   go_ret;exact ⟨rfl,thru (thru HBW1.out (bel2 _ _ _)) (by assumption)⟩
 ·have hq1:((ks.len:Int) == 2) = false:=by rw [beq_eq_false_iff_ne];omega
  have hq2:((ks.len:Int) == 3) = false:=by rw [beq_eq_false_iff_ne];omega
  have hans:kindB 6 nm g az ws ks bs (rt ks (d + 1)) (rt cz (d + 1)) = false:=by
   unfold kindB;rw [not_or] at hq;simp [hq.1,hq.2]
  rw [hans];clear hans hq;go_enter Tryz.func46,Tryz.ntmps46
  go_wp2_with (first
   | (go_at_call 66;refine (HCN.out _).mono ?_;rintro e w' ⟨rfl,rfl⟩)
   | (go_at_call 67;refine (HOWN.out).mono ?_;rintro e w1 ⟨rfl,hb1⟩;have hrw:=(hb1.block _ HLT.out).trans HROW.out;have q0:=zc0 hrw;have q1:=zc1 hrw;have q2:=zc2 hrw;have q3:=zc3 hrw;have q4:=zc4 hrw;have q5:=zc5 hrw;have q6:=zc6 hrw;have q7:=zc7 hrw;have hlt1:w.heap.size < w1.heap.size:=Nat.lt_of_lt_of_le HLT.out hb1.size;have HBW1:=Lib.hid (thru HB0.out hb1);clear hrw hb1)
   | (go_at_call 68;refine (HWI.out _).mono ?_;rintro e w' ⟨rfl,rfl⟩))
  go_ret;exact ⟨rfl,(thru HBW1.out (bel2 _ _ _))⟩
theorem right_7 (n:Nat) (hR:RightAt n) (nm:ByteArray) (g:Bool) (az:List (ByteArray × PL)) (ws:List PL) (ks:NL) (bs:List Bool) (cz:NL) (x1 d1 x2 d2 x3 d3 x4 d4 x5 d5) (d:Nat) (m:Int) (w:World) (hks:ks.size≤n) (hcs:cz.size≤n) (hd:d≤201) (h:Holds w nm az ws ks bs cz x1 d1 x2 d2 x3 d3 x4 d4 x5 d5) (hok:∀ l ∈ ws,wOK l) (hfk:fitN ks) (hfc:fitN cz) (hm:w.cell? ⟨0,0,none⟩ = some (.int .i64 m)) (hd2:d≤200) (ho:ownB 7 nm g az ws ks bs cz = true) :
  Calls Tryz.prog 46 #[.agg (nodeV 7 nm g x1 az.length d1 x2 ws.length d2 x3 ks.len d3 x4 bs.length d4 x5 cz.len d5),.int .i64 d] w fun e w'=>e = .returned (.bool (nodeR 7 nm g az ws ks bs cz d))∧Below w.heap.size w w':=by
 have hkind:nodeR 7 nm g az ws ks bs cz d = kindB 7 nm g az ws ks bs (rt ks (d + 1)) (rt cz (d + 1)):=by
  unfold nodeR;rw [show deepB 7 d = false from by unfold deepB;rw [decide_eq_false (by omega)];simp,ho];rfl
 have hgt:((200:Int) < (d:Int)) = False:=by rw [eq_iff_iff,iff_false];omega
 have hrow:(w.alloc (.cells #[.int .i64 7,.string nm,.bool g,.slice x1 az.length d1,.slice x2 ws.length d2,.slice x3 ks.len d3,.slice x4 bs.length d4,.slice x5 cz.len d5] 28)).heap[w.heap.size]? = some (.cells #[.int .i64 7,.string nm,.bool g,.slice x1 az.length d1,.slice x2 ws.length d2,.slice x3 ks.len d3,.slice x4 bs.length d4,.slice x5 cz.len d5] 28 (0,0)):=heap_new' _ _;have hlt0:w.heap.size < (w.alloc (.cells #[.int .i64 7,.string nm,.bool g,.slice x1 az.length d1,.slice x2 ws.length d2,.slice x3 ks.len d3,.slice x4 bs.length d4,.slice x5 cz.len d5] 28)).heap.size:=by simp only [World.size_alloc];omega
 have hOWN:=own_any 7 nm g az ws ks bs cz x1 d1 x2 d2 x3 d3 x4 d4 x5 d5 (w.alloc (.cells #[.int .i64 7,.string nm,.bool g,.slice x1 az.length d1,.slice x2 ws.length d2,.slice x3 ks.len d3,.slice x4 bs.length d4,.slice x5 cz.len d5] 28)) (h.below (bel1 w _));unfold nodeV at hOWN;rw [ho] at hOWN;have hCN:=fun w=>counts_any 7 w;rw [show countsB 7 = true from rfl] at hCN;have HROW:=Lib.hid hrow;have HLT:=Lib.hid hlt0;have HB0:=Lib.hid (bel1 w (.cells #[.int .i64 7,.string nm,.bool g,.slice x1 az.length d1,.slice x2 ws.length d2,.slice x3 ks.len d3,.slice x4 bs.length d4,.slice x5 cz.len d5] 28));have HOWN:=Lib.hid hOWN;have HCN:=Lib.hid hCN;clear hrow hlt0 hOWN hCN;have hWI:=fun w=>within_any 7 d (by omega) w;rw [show withinD 7 d = d + 1 from rfl] at hWI;have HWI:=Lib.hid hWI;clear hWI;have hALL:=fun W pb (hb:Below w.heap.size w W) hp=>all_body n hR ks hks h.okk hfk (d + 1) pb (by omega) x3 d3 m W (h.hks.below hb) (cell_below hb hm) hp;rw [hkind];have hle3:=h.hks.le;have hle4:=h.hbs.le;have HALL:=Lib.hid hALL;clear hALL hkind h hok hfk hfc hm hR ho;unfold nodeV
 by_cases hq:ks.len = 2
 ·have hq1:((ks.len:Int) == 2) = true:=by rw [hq];rfl
  have hans:kindB 7 nm g az ws ks bs (rt ks (d + 1)) (rt cz (d + 1)) = (allS bodyB ks && rt ks (d + 1)):=by unfold kindB;simp [hq]
  rw [hans];clear hans hq;go_enter Tryz.func46,Tryz.ntmps46
  go_wp2_with (first
   | (go_at_call 66;refine (HCN.out _).mono ?_;rintro e w' ⟨rfl,rfl⟩)
   | (go_at_call 67;refine (HOWN.out).mono ?_;rintro e w1 ⟨rfl,hb1⟩;have hrw:=(hb1.block _ HLT.out).trans HROW.out;have q0:=zc0 hrw;have q1:=zc1 hrw;have q2:=zc2 hrw;have q3:=zc3 hrw;have q4:=zc4 hrw;have q5:=zc5 hrw;have q6:=zc6 hrw;have q7:=zc7 hrw;have hlt1:w.heap.size < w1.heap.size:=Nat.lt_of_lt_of_le HLT.out hb1.size;have HBW1:=Lib.hid (thru HB0.out hb1);clear hrw hb1)
   | (go_at_call 68;refine (HWI.out _).mono ?_;rintro e w' ⟨rfl,rfl⟩)
   | (go_at_call 69;refine (HALL.out _ _ (thru HBW1.out (bel2 _ _ _)) (clo_mk _ _).1).mono ?_;rintro e w2 ⟨rfl,hb2⟩))
  go_ret;exact ⟨rfl,thru (thru HBW1.out (bel2 _ _ _)) (by assumption)⟩
 ·have hq1:((ks.len:Int) == 2) = false:=by rw [beq_eq_false_iff_ne];omega
  have hans:kindB 7 nm g az ws ks bs (rt ks (d + 1)) (rt cz (d + 1)) = false:=by unfold kindB;simp [hq]
  rw [hans];clear hans hq;go_enter Tryz.func46,Tryz.ntmps46
  go_wp2_with (first
   | (go_at_call 66;refine (HCN.out _).mono ?_;rintro e w' ⟨rfl,rfl⟩)
   | (go_at_call 67;refine (HOWN.out).mono ?_;rintro e w1 ⟨rfl,hb1⟩;have hrw:=(hb1.block _ HLT.out).trans HROW.out;have q0:=zc0 hrw;have q1:=zc1 hrw;have q2:=zc2 hrw;have q3:=zc3 hrw;have q4:=zc4 hrw;have q5:=zc5 hrw;have q6:=zc6 hrw;have q7:=zc7 hrw;have hlt1:w.heap.size < w1.heap.size:=Nat.lt_of_lt_of_le HLT.out hb1.size;have HBW1:=Lib.hid (thru HB0.out hb1);clear hrw hb1)
   | (go_at_call 68;refine (HWI.out _).mono ?_;rintro e w' ⟨rfl,rfl⟩))
  go_ret;exact ⟨rfl,(thru HBW1.out (bel2 _ _ _))⟩
theorem right_8 (n:Nat) (hR:RightAt n) (nm:ByteArray) (g:Bool) (az:List (ByteArray × PL)) (ws:List PL) (ks:NL) (bs:List Bool) (cz:NL) (x1 d1 x2 d2 x3 d3 x4 d4 x5 d5) (d:Nat) (m:Int) (w:World) (hks:ks.size≤n) (hcs:cz.size≤n) (hd:d≤201) (h:Holds w nm az ws ks bs cz x1 d1 x2 d2 x3 d3 x4 d4 x5 d5) (hok:∀ l ∈ ws,wOK l) (hfk:fitN ks) (hfc:fitN cz) (hm:w.cell? ⟨0,0,none⟩ = some (.int .i64 m)) (hd2:d≤200) (ho:ownB 8 nm g az ws ks bs cz = true) :
  Calls Tryz.prog 46 #[.agg (nodeV 8 nm g x1 az.length d1 x2 ws.length d2 x3 ks.len d3 x4 bs.length d4 x5 cz.len d5),.int .i64 d] w fun e w'=>e = .returned (.bool (nodeR 8 nm g az ws ks bs cz d))∧Below w.heap.size w w':=by
 have hkind:nodeR 8 nm g az ws ks bs cz d = kindB 8 nm g az ws ks bs (rt ks (d + 1)) (rt cz (d + 1)):=by
  unfold nodeR;rw [show deepB 8 d = false from by unfold deepB;rw [decide_eq_false (by omega)];simp,ho];rfl
 have hgt:((200:Int) < (d:Int)) = False:=by rw [eq_iff_iff,iff_false];omega
 have hrow:(w.alloc (.cells #[.int .i64 8,.string nm,.bool g,.slice x1 az.length d1,.slice x2 ws.length d2,.slice x3 ks.len d3,.slice x4 bs.length d4,.slice x5 cz.len d5] 28)).heap[w.heap.size]? = some (.cells #[.int .i64 8,.string nm,.bool g,.slice x1 az.length d1,.slice x2 ws.length d2,.slice x3 ks.len d3,.slice x4 bs.length d4,.slice x5 cz.len d5] 28 (0,0)):=heap_new' _ _;have hlt0:w.heap.size < (w.alloc (.cells #[.int .i64 8,.string nm,.bool g,.slice x1 az.length d1,.slice x2 ws.length d2,.slice x3 ks.len d3,.slice x4 bs.length d4,.slice x5 cz.len d5] 28)).heap.size:=by simp only [World.size_alloc];omega
 have hOWN:=own_any 8 nm g az ws ks bs cz x1 d1 x2 d2 x3 d3 x4 d4 x5 d5 (w.alloc (.cells #[.int .i64 8,.string nm,.bool g,.slice x1 az.length d1,.slice x2 ws.length d2,.slice x3 ks.len d3,.slice x4 bs.length d4,.slice x5 cz.len d5] 28)) (h.below (bel1 w _));unfold nodeV at hOWN;rw [ho] at hOWN;have hCN:=fun w=>counts_any 8 w;rw [show countsB 8 = true from rfl] at hCN;have HROW:=Lib.hid hrow;have HLT:=Lib.hid hlt0;have HB0:=Lib.hid (bel1 w (.cells #[.int .i64 8,.string nm,.bool g,.slice x1 az.length d1,.slice x2 ws.length d2,.slice x3 ks.len d3,.slice x4 bs.length d4,.slice x5 cz.len d5] 28));have HOWN:=Lib.hid hOWN;have HCN:=Lib.hid hCN;clear hrow hlt0 hOWN hCN;have hWI:=fun w=>within_any 8 d (by omega) w;rw [show withinD 8 d = d + 1 from rfl] at hWI;have HWI:=Lib.hid hWI;clear hWI;have hALL:=fun W pb (hb:Below w.heap.size w W) hp=>all_body n hR ks hks h.okk hfk (d + 1) pb (by omega) x3 d3 m W (h.hks.below hb) (cell_below hb hm) hp;rw [hkind];have hle3:=h.hks.le;have hle4:=h.hbs.le;have HALL:=Lib.hid hALL;clear hALL hkind h hok hfk hfc hm hR ho;unfold nodeV
 by_cases hq:ks.len = 2
 ·have hq1:((ks.len:Int) == 2) = true:=by rw [hq];rfl
  have hans:kindB 8 nm g az ws ks bs (rt ks (d + 1)) (rt cz (d + 1)) = (allS bodyB ks && rt ks (d + 1)):=by unfold kindB;simp [hq]
  rw [hans];clear hans hq;go_enter Tryz.func46,Tryz.ntmps46
  go_wp2_with (first
   | (go_at_call 66;refine (HCN.out _).mono ?_;rintro e w' ⟨rfl,rfl⟩)
   | (go_at_call 67;refine (HOWN.out).mono ?_;rintro e w1 ⟨rfl,hb1⟩;have hrw:=(hb1.block _ HLT.out).trans HROW.out;have q0:=zc0 hrw;have q1:=zc1 hrw;have q2:=zc2 hrw;have q3:=zc3 hrw;have q4:=zc4 hrw;have q5:=zc5 hrw;have q6:=zc6 hrw;have q7:=zc7 hrw;have hlt1:w.heap.size < w1.heap.size:=Nat.lt_of_lt_of_le HLT.out hb1.size;have HBW1:=Lib.hid (thru HB0.out hb1);clear hrw hb1)
   | (go_at_call 68;refine (HWI.out _).mono ?_;rintro e w' ⟨rfl,rfl⟩)
   | (go_at_call 69;refine (HALL.out _ _ (thru HBW1.out (bel2 _ _ _)) (clo_mk _ _).1).mono ?_;rintro e w2 ⟨rfl,hb2⟩))
  go_ret;exact ⟨rfl,thru (thru HBW1.out (bel2 _ _ _)) (by assumption)⟩
 ·have hq1:((ks.len:Int) == 2) = false:=by rw [beq_eq_false_iff_ne];omega
  have hans:kindB 8 nm g az ws ks bs (rt ks (d + 1)) (rt cz (d + 1)) = false:=by unfold kindB;simp [hq]
  rw [hans];clear hans hq;go_enter Tryz.func46,Tryz.ntmps46
  go_wp2_with (first
   | (go_at_call 66;refine (HCN.out _).mono ?_;rintro e w' ⟨rfl,rfl⟩)
   | (go_at_call 67;refine (HOWN.out).mono ?_;rintro e w1 ⟨rfl,hb1⟩;have hrw:=(hb1.block _ HLT.out).trans HROW.out;have q0:=zc0 hrw;have q1:=zc1 hrw;have q2:=zc2 hrw;have q3:=zc3 hrw;have q4:=zc4 hrw;have q5:=zc5 hrw;have q6:=zc6 hrw;have q7:=zc7 hrw;have hlt1:w.heap.size < w1.heap.size:=Nat.lt_of_lt_of_le HLT.out hb1.size;have HBW1:=Lib.hid (thru HB0.out hb1);clear hrw hb1)
   | (go_at_call 68;refine (HWI.out _).mono ?_;rintro e w' ⟨rfl,rfl⟩))
  go_ret;exact ⟨rfl,(thru HBW1.out (bel2 _ _ _))⟩
theorem right_11 (n:Nat) (hR:RightAt n) (nm:ByteArray) (g:Bool) (az:List (ByteArray × PL)) (ws:List PL) (ks:NL) (bs:List Bool) (cz:NL) (x1 d1 x2 d2 x3 d3 x4 d4 x5 d5) (d:Nat) (m:Int) (w:World) (hks:ks.size≤n) (hcs:cz.size≤n) (hd:d≤201) (h:Holds w nm az ws ks bs cz x1 d1 x2 d2 x3 d3 x4 d4 x5 d5) (hok:∀ l ∈ ws,wOK l) (hfk:fitN ks) (hfc:fitN cz) (hm:w.cell? ⟨0,0,none⟩ = some (.int .i64 m)) (hd2:d≤200) (ho:ownB 11 nm g az ws ks bs cz = true) :
  Calls Tryz.prog 46 #[.agg (nodeV 11 nm g x1 az.length d1 x2 ws.length d2 x3 ks.len d3 x4 bs.length d4 x5 cz.len d5),.int .i64 d] w fun e w'=>e = .returned (.bool (nodeR 11 nm g az ws ks bs cz d))∧Below w.heap.size w w':=by
 have hkind:nodeR 11 nm g az ws ks bs cz d = kindB 11 nm g az ws ks bs (rt ks (d + 1)) (rt cz (d + 1)):=by
  unfold nodeR;rw [show deepB 11 d = false from by unfold deepB;rw [decide_eq_false (by omega)];simp,ho];rfl
 have hgt:((200:Int) < (d:Int)) = False:=by rw [eq_iff_iff,iff_false];omega
 have hrow:(w.alloc (.cells #[.int .i64 11,.string nm,.bool g,.slice x1 az.length d1,.slice x2 ws.length d2,.slice x3 ks.len d3,.slice x4 bs.length d4,.slice x5 cz.len d5] 28)).heap[w.heap.size]? = some (.cells #[.int .i64 11,.string nm,.bool g,.slice x1 az.length d1,.slice x2 ws.length d2,.slice x3 ks.len d3,.slice x4 bs.length d4,.slice x5 cz.len d5] 28 (0,0)):=heap_new' _ _;have hlt0:w.heap.size < (w.alloc (.cells #[.int .i64 11,.string nm,.bool g,.slice x1 az.length d1,.slice x2 ws.length d2,.slice x3 ks.len d3,.slice x4 bs.length d4,.slice x5 cz.len d5] 28)).heap.size:=by simp only [World.size_alloc];omega
 have hOWN:=own_any 11 nm g az ws ks bs cz x1 d1 x2 d2 x3 d3 x4 d4 x5 d5 (w.alloc (.cells #[.int .i64 11,.string nm,.bool g,.slice x1 az.length d1,.slice x2 ws.length d2,.slice x3 ks.len d3,.slice x4 bs.length d4,.slice x5 cz.len d5] 28)) (h.below (bel1 w _));unfold nodeV at hOWN;rw [ho] at hOWN;have hCN:=fun w=>counts_any 11 w;rw [show countsB 11 = true from rfl] at hCN;have HROW:=Lib.hid hrow;have HLT:=Lib.hid hlt0;have HB0:=Lib.hid (bel1 w (.cells #[.int .i64 11,.string nm,.bool g,.slice x1 az.length d1,.slice x2 ws.length d2,.slice x3 ks.len d3,.slice x4 bs.length d4,.slice x5 cz.len d5] 28));have HOWN:=Lib.hid hOWN;have HCN:=Lib.hid hCN;clear hrow hlt0 hOWN hCN;have hWI:=fun w=>within_any 11 d (by omega) w;rw [show withinD 11 d = d + 1 from rfl] at hWI;have HWI:=Lib.hid hWI;clear hWI;have hALL:=fun W pb (hb:Below w.heap.size w W) hp=>all_body n hR ks hks h.okk hfk (d + 1) pb (by omega) x3 d3 m W (h.hks.below hb) (cell_below hb hm) hp;rw [hkind];have hle3:=h.hks.le;have hle4:=h.hbs.le;have HALL:=Lib.hid hALL;clear hALL hkind h hok hfk hfc hm hR ho;unfold nodeV
 by_cases hq:ks.len = 1
 ·have hq1:((ks.len:Int) == 1) = true:=by rw [hq];rfl
  have hans:kindB 11 nm g az ws ks bs (rt ks (d + 1)) (rt cz (d + 1)) = (allS bodyB ks && rt ks (d + 1)):=by unfold kindB;simp [hq]
  rw [hans];clear hans hq;go_enter Tryz.func46,Tryz.ntmps46
  go_wp2_with (first
   | (go_at_call 66;refine (HCN.out _).mono ?_;rintro e w' ⟨rfl,rfl⟩)
   | (go_at_call 67;refine (HOWN.out).mono ?_;rintro e w1 ⟨rfl,hb1⟩;have hrw:=(hb1.block _ HLT.out).trans HROW.out;have q0:=zc0 hrw;have q1:=zc1 hrw;have q2:=zc2 hrw;have q3:=zc3 hrw;have q4:=zc4 hrw;have q5:=zc5 hrw;have q6:=zc6 hrw;have q7:=zc7 hrw;have hlt1:w.heap.size < w1.heap.size:=Nat.lt_of_lt_of_le HLT.out hb1.size;have HBW1:=Lib.hid (thru HB0.out hb1);clear hrw hb1)
   | (go_at_call 68;refine (HWI.out _).mono ?_;rintro e w' ⟨rfl,rfl⟩)
   | (go_at_call 69;refine (HALL.out _ _ (thru HBW1.out (bel2 _ _ _)) (clo_mk _ _).1).mono ?_;rintro e w2 ⟨rfl,hb2⟩))
  go_ret;exact ⟨rfl,thru (thru HBW1.out (bel2 _ _ _)) (by assumption)⟩
 ·have hq1:((ks.len:Int) == 1) = false:=by rw [beq_eq_false_iff_ne];omega
  have hans:kindB 11 nm g az ws ks bs (rt ks (d + 1)) (rt cz (d + 1)) = false:=by unfold kindB;simp [hq]
  rw [hans];clear hans hq;go_enter Tryz.func46,Tryz.ntmps46
  go_wp2_with (first
   | (go_at_call 66;refine (HCN.out _).mono ?_;rintro e w' ⟨rfl,rfl⟩)
   | (go_at_call 67;refine (HOWN.out).mono ?_;rintro e w1 ⟨rfl,hb1⟩;have hrw:=(hb1.block _ HLT.out).trans HROW.out;have q0:=zc0 hrw;have q1:=zc1 hrw;have q2:=zc2 hrw;have q3:=zc3 hrw;have q4:=zc4 hrw;have q5:=zc5 hrw;have q6:=zc6 hrw;have q7:=zc7 hrw;have hlt1:w.heap.size < w1.heap.size:=Nat.lt_of_lt_of_le HLT.out hb1.size;have HBW1:=Lib.hid (thru HB0.out hb1);clear hrw hb1)
   | (go_at_call 68;refine (HWI.out _).mono ?_;rintro e w' ⟨rfl,rfl⟩))
  go_ret;exact ⟨rfl,(thru HBW1.out (bel2 _ _ _))⟩
theorem right_12 (n:Nat) (hR:RightAt n) (nm:ByteArray) (g:Bool) (az:List (ByteArray × PL)) (ws:List PL) (ks:NL) (bs:List Bool) (cz:NL) (x1 d1 x2 d2 x3 d3 x4 d4 x5 d5) (d:Nat) (m:Int) (w:World) (hks:ks.size≤n) (hcs:cz.size≤n) (hd:d≤201) (h:Holds w nm az ws ks bs cz x1 d1 x2 d2 x3 d3 x4 d4 x5 d5) (hok:∀ l ∈ ws,wOK l) (hfk:fitN ks) (hfc:fitN cz) (hm:w.cell? ⟨0,0,none⟩ = some (.int .i64 m)) (hd2:d≤200) (ho:ownB 12 nm g az ws ks bs cz = true) :
  Calls Tryz.prog 46 #[.agg (nodeV 12 nm g x1 az.length d1 x2 ws.length d2 x3 ks.len d3 x4 bs.length d4 x5 cz.len d5),.int .i64 d] w fun e w'=>e = .returned (.bool (nodeR 12 nm g az ws ks bs cz d))∧Below w.heap.size w w':=by
 have hkind:nodeR 12 nm g az ws ks bs cz d = kindB 12 nm g az ws ks bs (rt ks (d + 1)) (rt cz (d + 1)):=by
  unfold nodeR;rw [show deepB 12 d = false from by unfold deepB;rw [decide_eq_false (by omega)];simp,ho];rfl
 have hgt:((200:Int) < (d:Int)) = False:=by rw [eq_iff_iff,iff_false];omega
 have hrow:(w.alloc (.cells #[.int .i64 12,.string nm,.bool g,.slice x1 az.length d1,.slice x2 ws.length d2,.slice x3 ks.len d3,.slice x4 bs.length d4,.slice x5 cz.len d5] 28)).heap[w.heap.size]? = some (.cells #[.int .i64 12,.string nm,.bool g,.slice x1 az.length d1,.slice x2 ws.length d2,.slice x3 ks.len d3,.slice x4 bs.length d4,.slice x5 cz.len d5] 28 (0,0)):=heap_new' _ _;have hlt0:w.heap.size < (w.alloc (.cells #[.int .i64 12,.string nm,.bool g,.slice x1 az.length d1,.slice x2 ws.length d2,.slice x3 ks.len d3,.slice x4 bs.length d4,.slice x5 cz.len d5] 28)).heap.size:=by simp only [World.size_alloc];omega
 have hOWN:=own_any 12 nm g az ws ks bs cz x1 d1 x2 d2 x3 d3 x4 d4 x5 d5 (w.alloc (.cells #[.int .i64 12,.string nm,.bool g,.slice x1 az.length d1,.slice x2 ws.length d2,.slice x3 ks.len d3,.slice x4 bs.length d4,.slice x5 cz.len d5] 28)) (h.below (bel1 w _));unfold nodeV at hOWN;rw [ho] at hOWN;have hCN:=fun w=>counts_any 12 w;rw [show countsB 12 = true from rfl] at hCN;have HROW:=Lib.hid hrow;have HLT:=Lib.hid hlt0;have HB0:=Lib.hid (bel1 w (.cells #[.int .i64 12,.string nm,.bool g,.slice x1 az.length d1,.slice x2 ws.length d2,.slice x3 ks.len d3,.slice x4 bs.length d4,.slice x5 cz.len d5] 28));have HOWN:=Lib.hid hOWN;have HCN:=Lib.hid hCN;clear hrow hlt0 hOWN hCN;have hWI:=fun w=>within_any 12 d (by omega) w;rw [show withinD 12 d = d + 1 from rfl] at hWI;have HWI:=Lib.hid hWI;clear hWI;have hALL:=fun W pb (hb:Below w.heap.size w W) hp=>all_body n hR ks hks h.okk hfk (d + 1) pb (by omega) x3 d3 m W (h.hks.below hb) (cell_below hb hm) hp;rw [hkind];have hle3:=h.hks.le;have hle4:=h.hbs.le;have HALL:=Lib.hid hALL;clear hALL hkind h hok hfk hfc hm hR ho;unfold nodeV
 by_cases hq:ks.len = 1
 ·have hq1:((ks.len:Int) == 1) = true:=by rw [hq];rfl
  have hans:kindB 12 nm g az ws ks bs (rt ks (d + 1)) (rt cz (d + 1)) = (allS bodyB ks && rt ks (d + 1)):=by unfold kindB;simp [hq]
  rw [hans];clear hans hq;go_enter Tryz.func46,Tryz.ntmps46
  go_wp2_with (first
   | (go_at_call 66;refine (HCN.out _).mono ?_;rintro e w' ⟨rfl,rfl⟩)
   | (go_at_call 67;refine (HOWN.out).mono ?_;rintro e w1 ⟨rfl,hb1⟩;have hrw:=(hb1.block _ HLT.out).trans HROW.out;have q0:=zc0 hrw;have q1:=zc1 hrw;have q2:=zc2 hrw;have q3:=zc3 hrw;have q4:=zc4 hrw;have q5:=zc5 hrw;have q6:=zc6 hrw;have q7:=zc7 hrw;have hlt1:w.heap.size < w1.heap.size:=Nat.lt_of_lt_of_le HLT.out hb1.size;have HBW1:=Lib.hid (thru HB0.out hb1);clear hrw hb1)
   | (go_at_call 68;refine (HWI.out _).mono ?_;rintro e w' ⟨rfl,rfl⟩)
   | (go_at_call 69;refine (HALL.out _ _ (thru HBW1.out (bel2 _ _ _)) (clo_mk _ _).1).mono ?_;rintro e w2 ⟨rfl,hb2⟩))
  go_ret;exact ⟨rfl,thru (thru HBW1.out (bel2 _ _ _)) (by assumption)⟩
 ·have hq1:((ks.len:Int) == 1) = false:=by rw [beq_eq_false_iff_ne];omega
  have hans:kindB 12 nm g az ws ks bs (rt ks (d + 1)) (rt cz (d + 1)) = false:=by unfold kindB;simp [hq]
  rw [hans];clear hans hq;go_enter Tryz.func46,Tryz.ntmps46
  go_wp2_with (first
   | (go_at_call 66;refine (HCN.out _).mono ?_;rintro e w' ⟨rfl,rfl⟩)
   | (go_at_call 67;refine (HOWN.out).mono ?_;rintro e w1 ⟨rfl,hb1⟩;have hrw:=(hb1.block _ HLT.out).trans HROW.out;have q0:=zc0 hrw;have q1:=zc1 hrw;have q2:=zc2 hrw;have q3:=zc3 hrw;have q4:=zc4 hrw;have q5:=zc5 hrw;have q6:=zc6 hrw;have q7:=zc7 hrw;have hlt1:w.heap.size < w1.heap.size:=Nat.lt_of_lt_of_le HLT.out hb1.size;have HBW1:=Lib.hid (thru HB0.out hb1);clear hrw hb1)
   | (go_at_call 68;refine (HWI.out _).mono ?_;rintro e w' ⟨rfl,rfl⟩))
  go_ret;exact ⟨rfl,(thru HBW1.out (bel2 _ _ _))⟩
end Tr
end Go.Proofs.YtjmpfihopeohbaaGreatDoor
