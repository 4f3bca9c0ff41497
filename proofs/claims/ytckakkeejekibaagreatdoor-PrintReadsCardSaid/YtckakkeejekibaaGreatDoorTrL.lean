/- rightAt, Right, Program, for all nodes. -/
import Derived.Test.YtckakkeejekibaaGreatDoorTrK
import Derived.Laws.EntriesVeiled
set_option maxHeartbeats 1600000
set_option maxRecDepth 100000
namespace Go.Proofs.YtckakkeejekibaaGreatDoor
open Go.RowKit Go.Sort
namespace Tr
open j6 Pt
theorem j3 (w:World) (d:Nat):VV ((w.alloc (.cells #[.int .i64 d] 3)).alloc (.cells #[.func (.func 69) #[] #[.pointer (some ⟨w.heap.size,0,none⟩)]] 100)) w.heap.size (w.heap.size + 1) d:=by
 refine ⟨kz ((Below.heap_alloc _ _ _ (by simp only [zd];omega)).trans (ay _ _)) 0,?_⟩;have h:=ay (w.alloc (.cells #[.int .i64 d] 3)) (.cells #[.func (.func 69) #[] #[.pointer (some ⟨w.heap.size,0,none⟩)]] 100);simp only [zd] at h;exact kz h 0
theorem JD (n:Nat) (hR:eu n) (k:Int) (nm:ByteArray) (g:Bool) (az:List (ByteArray × PL)) (ws:List PL) (ks:NL) (bs:List Bool) (cz:NL) (x1 d1 x2 d2 x3 d3 x4 d4 x5 d5) (d:Nat) (m:Int) (w:World) (hks:ks.size≤n) (hcs:cz.size≤n) (hd:d≤201) (h:Holds w nm az ws ks bs cz x1 d1 x2 d2 x3 d3 x4 d4 x5 d5) (fO:∀ l ∈ ws,ui l) (jd:fB ks) (kF:fB cz) (hm:w.cell? ⟨0,0,none⟩ = some (.int .i64 m)) (hc:bQ k = true) (h2:200 < d) :
  Calls Tryz.prog 46 #[.agg (aJ k nm g x1 az.length d1 x2 ws.length d2 x3 ks.len d3 x4 bs.length d4 x5 cz.len d5),.int .i64 d] w fun e w'=>e = .returned (.bool (aW k nm g az ws ks bs cz d))∧Below w.heap.size w w':=by
 have bH:aW k nm g az ws ks bs cz d = false:=by unfold aW fC;rw [hc,decide_eq_true h2];rfl
 have ql:=kq bH;have j4:=fun w=>dm k w;rw [hc] at j4;have nC:=kq j4;clear bH j4 hc h fO jd kF hm hR hks hcs;unfold aJ;go_enter Tryz.func46,Tryz.ntmps46;go_wp2_with (go_at_call 66;refine (nC.out _).mono ?_;rintro e w' ⟨rfl,rfl⟩);go_ret;exact ⟨ai ql.out.symm,ax _ _⟩
theorem yx (n:Nat) (hR:eu n) (k:Int) (nm:ByteArray) (g:Bool) (az:List (ByteArray × PL)) (ws:List PL) (ks:NL) (bs:List Bool) (cz:NL) (x1 d1 x2 d2 x3 d3 x4 d4 x5 d5) (d:Nat) (m:Int) (w:World) (hks:ks.size≤n) (hcs:cz.size≤n) (hd:d≤201) (h:Holds w nm az ws ks bs cz x1 d1 x2 d2 x3 d3 x4 d4 x5 d5) (fO:∀ l ∈ ws,ui l) (jd:fB ks) (kF:fB cz) (hm:w.cell? ⟨0,0,none⟩ = some (.int .i64 m)) (hc:bQ k = false) (h2:d≤200∨bQ k = false) (ho:ownB k nm g az ws ks bs cz = false) :
  Calls Tryz.prog 46 #[.agg (aJ k nm g x1 az.length d1 x2 ws.length d2 x3 ks.len d3 x4 bs.length d4 x5 cz.len d5),.int .i64 d] w fun e w'=>e = .returned (.bool (aW k nm g az ws ks bs cz d))∧Below w.heap.size w w':=by
 have bH:aW k nm g az ws ks bs cz d = false:=by unfold aW;rw [ho];simp
 have ql:=kq bH;clear bH;have Fj:((200:Int) < (d:Int)) = False∨bQ k = false:=by
  rcases h2 with h2 | h2
  ·left;rw [eq_iff_iff,iff_false];omega
  ·exact .inr h2
 have au:(w.alloc (.cells #[.int .i64 k,.string nm,.bool g,.slice x1 az.length d1,.slice x2 ws.length d2,.slice x3 ks.len d3,.slice x4 bs.length d4,.slice x5 cz.len d5] 28)).heap[w.heap.size]? = some (.cells #[.int .i64 k,.string nm,.bool g,.slice x1 az.length d1,.slice x2 ws.length d2,.slice x3 ks.len d3,.slice x4 bs.length d4,.slice x5 cz.len d5] 28 (0,0)):=ay _ _;have eO:w.heap.size < (w.alloc (.cells #[.int .i64 k,.string nm,.bool g,.slice x1 az.length d1,.slice x2 ws.length d2,.slice x3 ks.len d3,.slice x4 bs.length d4,.slice x5 cz.len d5] 28)).heap.size:=by simp only [zd];omega
 have dw:=iY k nm g az ws ks bs cz x1 d1 x2 d2 x3 d3 x4 d4 x5 d5 (w.alloc (.cells #[.int .i64 k,.string nm,.bool g,.slice x1 az.length d1,.slice x2 ws.length d2,.slice x3 ks.len d3,.slice x4 bs.length d4,.slice x5 cz.len d5] 28)) (h.below (ax w _));unfold aJ at dw;rw [ho] at dw;have j4:=fun w=>dm k w;rw [hc] at j4;have aY:=kq au;have eG:=kq eO;have fP:=kq (ax w (.cells #[.int .i64 k,.string nm,.bool g,.slice x1 az.length d1,.slice x2 ws.length d2,.slice x3 ks.len d3,.slice x4 bs.length d4,.slice x5 cz.len d5] 28));have dP:=kq dw;have nC:=kq j4;clear au eO dw j4;clear h fO jd kF hm hR hks hcs h2;unfold aJ;clear Fj hc;go_enter Tryz.func46,Tryz.ntmps46
 go_wp2_with (first
  | (go_at_call 66;refine (nC.out _).mono ?_;rintro e w' ⟨rfl,rfl⟩)
  | (go_at_call 67;refine (dP.out).mono ?_;rintro e w1 ⟨rfl,aP⟩;have aC:=(aP.block _ eG.out).trans aY.out;have q0:=dx aC;have q1:=dA aC;have q2:=ed aC;have q3:=fA aC;have q4:=dS aC;have q5:=dZ aC;have q6:=fU aC;have q7:=gz aC;have kG:w.heap.size < w1.heap.size:=kd eG.out aP.size;have dH:=kq (ak fP.out aP);clear aC aP))
 go_ret;exact ⟨ai ql.out.symm,dH.out⟩
theorem zN (n:Nat) (hR:eu n) (k:Int) (nm:ByteArray) (g:Bool) (az:List (ByteArray × PL)) (ws:List PL) (ks:NL) (bs:List Bool) (cz:NL) (x1 d1 x2 d2 x3 d3 x4 d4 x5 d5) (d:Nat) (m:Int) (w:World) (hks:ks.size≤n) (hcs:cz.size≤n) (hd:d≤201) (h:Holds w nm az ws ks bs cz x1 d1 x2 d2 x3 d3 x4 d4 x5 d5) (fO:∀ l ∈ ws,ui l) (jd:fB ks) (kF:fB cz) (hm:w.cell? ⟨0,0,none⟩ = some (.int .i64 m)) (hc:bQ k = true) (h2:d≤200∨bQ k = false) (ho:ownB k nm g az ws ks bs cz = false) :
  Calls Tryz.prog 46 #[.agg (aJ k nm g x1 az.length d1 x2 ws.length d2 x3 ks.len d3 x4 bs.length d4 x5 cz.len d5),.int .i64 d] w fun e w'=>e = .returned (.bool (aW k nm g az ws ks bs cz d))∧Below w.heap.size w w':=by
 have bH:aW k nm g az ws ks bs cz d = false:=by unfold aW;rw [ho];simp
 have ql:=kq bH;clear bH;have Fj:((200:Int) < (d:Int)) = False∨bQ k = false:=by
  rcases h2 with h2 | h2
  ·left;rw [eq_iff_iff,iff_false];omega
  ·exact .inr h2
 have au:(w.alloc (.cells #[.int .i64 k,.string nm,.bool g,.slice x1 az.length d1,.slice x2 ws.length d2,.slice x3 ks.len d3,.slice x4 bs.length d4,.slice x5 cz.len d5] 28)).heap[w.heap.size]? = some (.cells #[.int .i64 k,.string nm,.bool g,.slice x1 az.length d1,.slice x2 ws.length d2,.slice x3 ks.len d3,.slice x4 bs.length d4,.slice x5 cz.len d5] 28 (0,0)):=ay _ _;have eO:w.heap.size < (w.alloc (.cells #[.int .i64 k,.string nm,.bool g,.slice x1 az.length d1,.slice x2 ws.length d2,.slice x3 ks.len d3,.slice x4 bs.length d4,.slice x5 cz.len d5] 28)).heap.size:=by simp only [zd];omega
 have dw:=iY k nm g az ws ks bs cz x1 d1 x2 d2 x3 d3 x4 d4 x5 d5 (w.alloc (.cells #[.int .i64 k,.string nm,.bool g,.slice x1 az.length d1,.slice x2 ws.length d2,.slice x3 ks.len d3,.slice x4 bs.length d4,.slice x5 cz.len d5] 28)) (h.below (ax w _));unfold aJ at dw;rw [ho] at dw;have j4:=fun w=>dm k w;rw [hc] at j4;have aY:=kq au;have eG:=kq eO;have fP:=kq (ax w (.cells #[.int .i64 k,.string nm,.bool g,.slice x1 az.length d1,.slice x2 ws.length d2,.slice x3 ks.len d3,.slice x4 bs.length d4,.slice x5 cz.len d5] 28));have dP:=kq dw;have nC:=kq j4;clear au eO dw j4;clear h fO jd kF hm hR hks hcs h2;unfold aJ;rcases Fj with Fj | Fj
 ·clear hc;go_enter Tryz.func46,Tryz.ntmps46
  go_wp2_with (first
   | (go_at_call 66;refine (nC.out _).mono ?_;rintro e w' ⟨rfl,rfl⟩)
   | (go_at_call 67;refine (dP.out).mono ?_;rintro e w1 ⟨rfl,aP⟩;have aC:=(aP.block _ eG.out).trans aY.out;have q0:=dx aC;have q1:=dA aC;have q2:=ed aC;have q3:=fA aC;have q4:=dS aC;have q5:=dZ aC;have q6:=fU aC;have q7:=gz aC;have kG:w.heap.size < w1.heap.size:=kd eG.out aP.size;have dH:=kq (ak fP.out aP);clear aC aP))
  go_ret;exact ⟨ai ql.out.symm,dH.out⟩
 ·rw [hc] at Fj;cases Fj
theorem SS (n:Nat) (hR:eu n) (nm:ByteArray) (g:Bool) (az:List (ByteArray × PL)) (ws:List PL) (ks:NL) (bs:List Bool) (cz:NL) (x1 d1 x2 d2 x3 d3 x4 d4 x5 d5) (d:Nat) (m:Int) (w:World) (hks:ks.size≤n) (hcs:cz.size≤n) (hd:d≤201) (h:Holds w nm az ws ks bs cz x1 d1 x2 d2 x3 d3 x4 d4 x5 d5) (fO:∀ l ∈ ws,ui l) (jd:fB ks) (kF:fB cz) (hm:w.cell? ⟨0,0,none⟩ = some (.int .i64 m)) (ho:ownB 4 nm g az ws ks bs cz = true) :
  Calls Tryz.prog 46 #[.agg (aJ 4 nm g x1 az.length d1 x2 ws.length d2 x3 ks.len d3 x4 bs.length d4 x5 cz.len d5),.int .i64 d] w fun e w'=>e = .returned (.bool (aW 4 nm g az ws ks bs cz d))∧Below w.heap.size w w':=by
 have fT:aW 4 nm g az ws ks bs cz d = kindB 4 nm g az ws ks bs (rt ks (d)) (rt cz (d)):=by
  unfold aW;rw [show fC 4 d = false from rfl,ho];rfl
 have au:(w.alloc (.cells #[.int .i64 4,.string nm,.bool g,.slice x1 az.length d1,.slice x2 ws.length d2,.slice x3 ks.len d3,.slice x4 bs.length d4,.slice x5 cz.len d5] 28)).heap[w.heap.size]? = some (.cells #[.int .i64 4,.string nm,.bool g,.slice x1 az.length d1,.slice x2 ws.length d2,.slice x3 ks.len d3,.slice x4 bs.length d4,.slice x5 cz.len d5] 28 (0,0)):=ay _ _;have eO:w.heap.size < (w.alloc (.cells #[.int .i64 4,.string nm,.bool g,.slice x1 az.length d1,.slice x2 ws.length d2,.slice x3 ks.len d3,.slice x4 bs.length d4,.slice x5 cz.len d5] 28)).heap.size:=by simp only [zd];omega
 have dw:=iY 4 nm g az ws ks bs cz x1 d1 x2 d2 x3 d3 x4 d4 x5 d5 (w.alloc (.cells #[.int .i64 4,.string nm,.bool g,.slice x1 az.length d1,.slice x2 ws.length d2,.slice x3 ks.len d3,.slice x4 bs.length d4,.slice x5 cz.len d5] 28)) (h.below (ax w _));unfold aJ at dw;rw [ho] at dw;have j4:=fun w=>dm 4 w;rw [show bQ 4 = false from rfl] at j4;have aY:=kq au;have eG:=kq eO;have fP:=kq (ax w (.cells #[.int .i64 4,.string nm,.bool g,.slice x1 az.length d1,.slice x2 ws.length d2,.slice x3 ks.len d3,.slice x4 bs.length d4,.slice x5 cz.len d5] 28));have dP:=kq dw;have nC:=kq j4;clear au eO dw j4;have lZ:=fun w=>di 4 d (by omega) w;rw [show gp 4 d = d from rfl] at lZ;have oQ:=kq lZ;clear lZ;have mH:=fun W pb (hb:Below w.heap.size w W) hp=>Gl n hR ks hks h.xU jd (d) pb (by omega) x3 d3 m W (h.hks.below hb) (cell_below hb hm) hp;rw [fT];have uH:=h.hks.le;have MP:=h.hbs.le;have jH:=kq mH;clear mH fT h fO jd kF hm hR ho;unfold aJ
 by_cases hq:ks.len = 1
 ·have yN:((ks.len:Int) == 1) = true:=by rw [hq];rfl
  have bH:kindB 4 nm g az ws ks bs (rt ks (d)) (rt cz (d)) = (allS gU ks && rt ks (d)):=by unfold kindB;simp [hq]
  rw [bH];clear bH hq;go_enter Tryz.func46,Tryz.ntmps46
  go_wp2_with (first
   | (go_at_call 66;refine (nC.out _).mono ?_;rintro e w' ⟨rfl,rfl⟩)
   | (go_at_call 67;refine (dP.out).mono ?_;rintro e w1 ⟨rfl,aP⟩;have aC:=(aP.block _ eG.out).trans aY.out;have q0:=dx aC;have q1:=dA aC;have q2:=ed aC;have q3:=fA aC;have q4:=dS aC;have q5:=dZ aC;have q6:=fU aC;have q7:=gz aC;have kG:w.heap.size < w1.heap.size:=kd eG.out aP.size;have dH:=kq (ak fP.out aP);clear aC aP)
   | (go_at_call 68;refine (oQ.out _).mono ?_;rintro e w' ⟨rfl,rfl⟩)
   | (go_at_call 69;refine (jH.out _ _ (ak dH.out (bY _ _ _)) (j3 _ _).1).mono ?_;rintro e w2 ⟨rfl,d9⟩))
  go_ret;exact ⟨rfl,ak (ak dH.out (bY _ _ _)) (by assumption)⟩
 ·have yN:((ks.len:Int) == 1) = false:=by rw [beq_eq_false_iff_ne];omega
  have bH:kindB 4 nm g az ws ks bs (rt ks (d)) (rt cz (d)) = false:=by unfold kindB;simp [hq]
  rw [bH];clear bH hq;go_enter Tryz.func46,Tryz.ntmps46
  go_wp2_with (first
   | (go_at_call 66;refine (nC.out _).mono ?_;rintro e w' ⟨rfl,rfl⟩)
   | (go_at_call 67;refine (dP.out).mono ?_;rintro e w1 ⟨rfl,aP⟩;have aC:=(aP.block _ eG.out).trans aY.out;have q0:=dx aC;have q1:=dA aC;have q2:=ed aC;have q3:=fA aC;have q4:=dS aC;have q5:=dZ aC;have q6:=fU aC;have q7:=gz aC;have kG:w.heap.size < w1.heap.size:=kd eG.out aP.size;have dH:=kq (ak fP.out aP);clear aC aP)
   | (go_at_call 68;refine (oQ.out _).mono ?_;rintro e w' ⟨rfl,rfl⟩))
  go_ret;exact ⟨rfl,(ak dH.out (bY _ _ _))⟩
theorem SV (n:Nat) (hR:eu n) (nm:ByteArray) (g:Bool) (az:List (ByteArray × PL)) (ws:List PL) (ks:NL) (bs:List Bool) (cz:NL) (x1 d1 x2 d2 x3 d3 x4 d4 x5 d5) (d:Nat) (m:Int) (w:World) (hks:ks.size≤n) (hcs:cz.size≤n) (hd:d≤201) (h:Holds w nm az ws ks bs cz x1 d1 x2 d2 x3 d3 x4 d4 x5 d5) (fO:∀ l ∈ ws,ui l) (jd:fB ks) (kF:fB cz) (hm:w.cell? ⟨0,0,none⟩ = some (.int .i64 m)) (ho:ownB 5 nm g az ws ks bs cz = true) :
  Calls Tryz.prog 46 #[.agg (aJ 5 nm g x1 az.length d1 x2 ws.length d2 x3 ks.len d3 x4 bs.length d4 x5 cz.len d5),.int .i64 d] w fun e w'=>e = .returned (.bool (aW 5 nm g az ws ks bs cz d))∧Below w.heap.size w w':=by
 have fT:aW 5 nm g az ws ks bs cz d = kindB 5 nm g az ws ks bs (rt ks (d)) (rt cz (d)):=by
  unfold aW;rw [show fC 5 d = false from rfl,ho];rfl
 have au:(w.alloc (.cells #[.int .i64 5,.string nm,.bool g,.slice x1 az.length d1,.slice x2 ws.length d2,.slice x3 ks.len d3,.slice x4 bs.length d4,.slice x5 cz.len d5] 28)).heap[w.heap.size]? = some (.cells #[.int .i64 5,.string nm,.bool g,.slice x1 az.length d1,.slice x2 ws.length d2,.slice x3 ks.len d3,.slice x4 bs.length d4,.slice x5 cz.len d5] 28 (0,0)):=ay _ _;have eO:w.heap.size < (w.alloc (.cells #[.int .i64 5,.string nm,.bool g,.slice x1 az.length d1,.slice x2 ws.length d2,.slice x3 ks.len d3,.slice x4 bs.length d4,.slice x5 cz.len d5] 28)).heap.size:=by simp only [zd];omega
 have dw:=iY 5 nm g az ws ks bs cz x1 d1 x2 d2 x3 d3 x4 d4 x5 d5 (w.alloc (.cells #[.int .i64 5,.string nm,.bool g,.slice x1 az.length d1,.slice x2 ws.length d2,.slice x3 ks.len d3,.slice x4 bs.length d4,.slice x5 cz.len d5] 28)) (h.below (ax w _));unfold aJ at dw;rw [ho] at dw;have j4:=fun w=>dm 5 w;rw [show bQ 5 = false from rfl] at j4;have aY:=kq au;have eG:=kq eO;have fP:=kq (ax w (.cells #[.int .i64 5,.string nm,.bool g,.slice x1 az.length d1,.slice x2 ws.length d2,.slice x3 ks.len d3,.slice x4 bs.length d4,.slice x5 cz.len d5] 28));have dP:=kq dw;have nC:=kq j4;clear au eO dw j4;have lZ:=fun w=>di 5 d (by omega) w;rw [show gp 5 d = d from rfl] at lZ;have oQ:=kq lZ;clear lZ;have mH:=fun W pb (hb:Below w.heap.size w W) hp=>zK n hR ks hks h.xU jd (d) pb (by omega) x3 d3 m W (h.hks.below hb) (cell_below hb hm) hp;rw [fT];have uH:=h.hks.le;have MP:=h.hbs.le;have jH:=kq mH;clear mH fT h fO jd kF hm hR ho;unfold aJ
 by_cases hq:ks.len = bs.length
 ·have yN:((ks.len:Int) == (bs.length:Int)) = true:=by rw [hq];simp
  have bH:kindB 5 nm g az ws ks bs (rt ks (d)) (rt cz (d)) = (allS kL ks && rt ks (d)):=by unfold kindB;simp [hq]
  rw [bH];clear bH hq;go_enter Tryz.func46,Tryz.ntmps46
  go_wp2_with (first
   | (go_at_call 66;refine (nC.out _).mono ?_;rintro e w' ⟨rfl,rfl⟩)
   | (go_at_call 67;refine (dP.out).mono ?_;rintro e w1 ⟨rfl,aP⟩;have aC:=(aP.block _ eG.out).trans aY.out;have q0:=dx aC;have q1:=dA aC;have q2:=ed aC;have q3:=fA aC;have q4:=dS aC;have q5:=dZ aC;have q6:=fU aC;have q7:=gz aC;have kG:w.heap.size < w1.heap.size:=kd eG.out aP.size;have dH:=kq (ak fP.out aP);clear aC aP)
   | (go_at_call 68;refine (oQ.out _).mono ?_;rintro e w' ⟨rfl,rfl⟩)
   | (go_at_call 69;refine (jH.out _ _ (ak dH.out (bY _ _ _)) (j3 _ _).1).mono ?_;rintro e w2 ⟨rfl,d9⟩))
  go_ret;exact ⟨rfl,ak (ak dH.out (bY _ _ _)) (by assumption)⟩
 ·have yN:((ks.len:Int) == (bs.length:Int)) = false:=by rw [beq_eq_false_iff_ne];omega
  have bH:kindB 5 nm g az ws ks bs (rt ks (d)) (rt cz (d)) = false:=by unfold kindB;simp [hq]
  rw [bH];clear bH hq;go_enter Tryz.func46,Tryz.ntmps46
  go_wp2_with (first
   | (go_at_call 66;refine (nC.out _).mono ?_;rintro e w' ⟨rfl,rfl⟩)
   | (go_at_call 67;refine (dP.out).mono ?_;rintro e w1 ⟨rfl,aP⟩;have aC:=(aP.block _ eG.out).trans aY.out;have q0:=dx aC;have q1:=dA aC;have q2:=ed aC;have q3:=fA aC;have q4:=dS aC;have q5:=dZ aC;have q6:=fU aC;have q7:=gz aC;have kG:w.heap.size < w1.heap.size:=kd eG.out aP.size;have dH:=kq (ak fP.out aP);clear aC aP)
   | (go_at_call 68;refine (oQ.out _).mono ?_;rintro e w' ⟨rfl,rfl⟩))
  go_ret;exact ⟨rfl,(ak dH.out (bY _ _ _))⟩
theorem SX (n:Nat) (hR:eu n) (nm:ByteArray) (g:Bool) (az:List (ByteArray × PL)) (ws:List PL) (ks:NL) (bs:List Bool) (cz:NL) (x1 d1 x2 d2 x3 d3 x4 d4 x5 d5) (d:Nat) (m:Int) (w:World) (hks:ks.size≤n) (hcs:cz.size≤n) (hd:d≤201) (h:Holds w nm az ws ks bs cz x1 d1 x2 d2 x3 d3 x4 d4 x5 d5) (fO:∀ l ∈ ws,ui l) (jd:fB ks) (kF:fB cz) (hm:w.cell? ⟨0,0,none⟩ = some (.int .i64 m)) (lT:d≤200) (ho:ownB 6 nm g az ws ks bs cz = true) :
  Calls Tryz.prog 46 #[.agg (aJ 6 nm g x1 az.length d1 x2 ws.length d2 x3 ks.len d3 x4 bs.length d4 x5 cz.len d5),.int .i64 d] w fun e w'=>e = .returned (.bool (aW 6 nm g az ws ks bs cz d))∧Below w.heap.size w w':=by
 have fT:aW 6 nm g az ws ks bs cz d = kindB 6 nm g az ws ks bs (rt ks (d + 1)) (rt cz (d + 1)):=by
  unfold aW;rw [show fC 6 d = false from by unfold fC;rw [decide_eq_false (by omega)];simp,ho];rfl
 have Ri:((200:Int) < (d:Int)) = False:=by rw [eq_iff_iff,iff_false];omega
 have au:(w.alloc (.cells #[.int .i64 6,.string nm,.bool g,.slice x1 az.length d1,.slice x2 ws.length d2,.slice x3 ks.len d3,.slice x4 bs.length d4,.slice x5 cz.len d5] 28)).heap[w.heap.size]? = some (.cells #[.int .i64 6,.string nm,.bool g,.slice x1 az.length d1,.slice x2 ws.length d2,.slice x3 ks.len d3,.slice x4 bs.length d4,.slice x5 cz.len d5] 28 (0,0)):=ay _ _;have eO:w.heap.size < (w.alloc (.cells #[.int .i64 6,.string nm,.bool g,.slice x1 az.length d1,.slice x2 ws.length d2,.slice x3 ks.len d3,.slice x4 bs.length d4,.slice x5 cz.len d5] 28)).heap.size:=by simp only [zd];omega
 have dw:=iY 6 nm g az ws ks bs cz x1 d1 x2 d2 x3 d3 x4 d4 x5 d5 (w.alloc (.cells #[.int .i64 6,.string nm,.bool g,.slice x1 az.length d1,.slice x2 ws.length d2,.slice x3 ks.len d3,.slice x4 bs.length d4,.slice x5 cz.len d5] 28)) (h.below (ax w _));unfold aJ at dw;rw [ho] at dw;have j4:=fun w=>dm 6 w;rw [show bQ 6 = true from rfl] at j4;have aY:=kq au;have eG:=kq eO;have fP:=kq (ax w (.cells #[.int .i64 6,.string nm,.bool g,.slice x1 az.length d1,.slice x2 ws.length d2,.slice x3 ks.len d3,.slice x4 bs.length d4,.slice x5 cz.len d5] 28));have dP:=kq dw;have nC:=kq j4;clear au eO dw j4;have lZ:=fun w=>di 6 d (by omega) w;rw [show gp 6 d = d + 1 from rfl] at lZ;have oQ:=kq lZ;clear lZ;have mH:=fun W pb (hb:Below w.heap.size w W) hp=>nW n hR ks hks h.xU jd (d + 1) pb (by omega) x3 d3 m W (h.hks.below hb) (cell_below hb hm) hp;rw [fT];have uH:=h.hks.le;have MP:=h.hbs.le;have jH:=kq mH;clear mH fT h fO jd kF hm hR ho;unfold aJ
 by_cases hq:ks.len = 2∨ks.len = 3
 ·have bH:kindB 6 nm g az ws ks bs (rt ks (d + 1)) (rt cz (d + 1)) = (allS dK ks && rt ks (d + 1)):=by
   unfold kindB;rcases hq with hq | hq <;> simp [hq]
  rw [bH];have yN:((ks.len:Int) == 2) = true∨(((ks.len:Int) == 2) = false∧((ks.len:Int) == 3) = true):=by
   rcases hq with hq | hq
   ·left;rw [hq];rfl
   ·right;rw [hq];exact ⟨rfl,rfl⟩
  clear bH hq;rcases yN with yN | ⟨yN,lH⟩
  all_goals
   go_enter Tryz.func46,Tryz.ntmps46
   go_wp2_with (first
    | (go_at_call 66;refine (nC.out _).mono ?_;rintro e w' ⟨rfl,rfl⟩)
    | (go_at_call 67;refine (dP.out).mono ?_;rintro e w1 ⟨rfl,aP⟩;have aC:=(aP.block _ eG.out).trans aY.out;have q0:=dx aC;have q1:=dA aC;have q2:=ed aC;have q3:=fA aC;have q4:=dS aC;have q5:=dZ aC;have q6:=fU aC;have q7:=gz aC;have kG:w.heap.size < w1.heap.size:=kd eG.out aP.size;have dH:=kq (ak fP.out aP);clear aC aP)
    | (go_at_call 68;refine (oQ.out _).mono ?_;rintro e w' ⟨rfl,rfl⟩)
    | (go_at_call 69;refine (jH.out _ _ (ak dH.out (bY _ _ _)) (j3 _ _).1).mono ?_;rintro e w2 ⟨rfl,d9⟩))
   go_ret;exact ⟨rfl,ak (ak dH.out (bY _ _ _)) (by assumption)⟩
 ·have yN:((ks.len:Int) == 2) = false:=by rw [beq_eq_false_iff_ne];omega
  have lH:((ks.len:Int) == 3) = false:=by rw [beq_eq_false_iff_ne];omega
  have bH:kindB 6 nm g az ws ks bs (rt ks (d + 1)) (rt cz (d + 1)) = false:=by
   unfold kindB;rw [not_or] at hq;simp [hq.1,hq.2]
  rw [bH];clear bH hq;go_enter Tryz.func46,Tryz.ntmps46
  go_wp2_with (first
   | (go_at_call 66;refine (nC.out _).mono ?_;rintro e w' ⟨rfl,rfl⟩)
   | (go_at_call 67;refine (dP.out).mono ?_;rintro e w1 ⟨rfl,aP⟩;have aC:=(aP.block _ eG.out).trans aY.out;have q0:=dx aC;have q1:=dA aC;have q2:=ed aC;have q3:=fA aC;have q4:=dS aC;have q5:=dZ aC;have q6:=fU aC;have q7:=gz aC;have kG:w.heap.size < w1.heap.size:=kd eG.out aP.size;have dH:=kq (ak fP.out aP);clear aC aP)
   | (go_at_call 68;refine (oQ.out _).mono ?_;rintro e w' ⟨rfl,rfl⟩))
  go_ret;exact ⟨rfl,(ak dH.out (bY _ _ _))⟩
theorem SY (n:Nat) (hR:eu n) (nm:ByteArray) (g:Bool) (az:List (ByteArray × PL)) (ws:List PL) (ks:NL) (bs:List Bool) (cz:NL) (x1 d1 x2 d2 x3 d3 x4 d4 x5 d5) (d:Nat) (m:Int) (w:World) (hks:ks.size≤n) (hcs:cz.size≤n) (hd:d≤201) (h:Holds w nm az ws ks bs cz x1 d1 x2 d2 x3 d3 x4 d4 x5 d5) (fO:∀ l ∈ ws,ui l) (jd:fB ks) (kF:fB cz) (hm:w.cell? ⟨0,0,none⟩ = some (.int .i64 m)) (lT:d≤200) (ho:ownB 7 nm g az ws ks bs cz = true) :
  Calls Tryz.prog 46 #[.agg (aJ 7 nm g x1 az.length d1 x2 ws.length d2 x3 ks.len d3 x4 bs.length d4 x5 cz.len d5),.int .i64 d] w fun e w'=>e = .returned (.bool (aW 7 nm g az ws ks bs cz d))∧Below w.heap.size w w':=by
 have fT:aW 7 nm g az ws ks bs cz d = kindB 7 nm g az ws ks bs (rt ks (d + 1)) (rt cz (d + 1)):=by
  unfold aW;rw [show fC 7 d = false from by unfold fC;rw [decide_eq_false (by omega)];simp,ho];rfl
 have Ri:((200:Int) < (d:Int)) = False:=by rw [eq_iff_iff,iff_false];omega
 have au:(w.alloc (.cells #[.int .i64 7,.string nm,.bool g,.slice x1 az.length d1,.slice x2 ws.length d2,.slice x3 ks.len d3,.slice x4 bs.length d4,.slice x5 cz.len d5] 28)).heap[w.heap.size]? = some (.cells #[.int .i64 7,.string nm,.bool g,.slice x1 az.length d1,.slice x2 ws.length d2,.slice x3 ks.len d3,.slice x4 bs.length d4,.slice x5 cz.len d5] 28 (0,0)):=ay _ _;have eO:w.heap.size < (w.alloc (.cells #[.int .i64 7,.string nm,.bool g,.slice x1 az.length d1,.slice x2 ws.length d2,.slice x3 ks.len d3,.slice x4 bs.length d4,.slice x5 cz.len d5] 28)).heap.size:=by simp only [zd];omega
 have dw:=iY 7 nm g az ws ks bs cz x1 d1 x2 d2 x3 d3 x4 d4 x5 d5 (w.alloc (.cells #[.int .i64 7,.string nm,.bool g,.slice x1 az.length d1,.slice x2 ws.length d2,.slice x3 ks.len d3,.slice x4 bs.length d4,.slice x5 cz.len d5] 28)) (h.below (ax w _));unfold aJ at dw;rw [ho] at dw;have j4:=fun w=>dm 7 w;rw [show bQ 7 = true from rfl] at j4;have aY:=kq au;have eG:=kq eO;have fP:=kq (ax w (.cells #[.int .i64 7,.string nm,.bool g,.slice x1 az.length d1,.slice x2 ws.length d2,.slice x3 ks.len d3,.slice x4 bs.length d4,.slice x5 cz.len d5] 28));have dP:=kq dw;have nC:=kq j4;clear au eO dw j4;have lZ:=fun w=>di 7 d (by omega) w;rw [show gp 7 d = d + 1 from rfl] at lZ;have oQ:=kq lZ;clear lZ;have mH:=fun W pb (hb:Below w.heap.size w W) hp=>nW n hR ks hks h.xU jd (d + 1) pb (by omega) x3 d3 m W (h.hks.below hb) (cell_below hb hm) hp;rw [fT];have uH:=h.hks.le;have MP:=h.hbs.le;have jH:=kq mH;clear mH fT h fO jd kF hm hR ho;unfold aJ
 by_cases hq:ks.len = 2
 ·have yN:((ks.len:Int) == 2) = true:=by rw [hq];rfl
  have bH:kindB 7 nm g az ws ks bs (rt ks (d + 1)) (rt cz (d + 1)) = (allS dK ks && rt ks (d + 1)):=by unfold kindB;simp [hq]
  rw [bH];clear bH hq;go_enter Tryz.func46,Tryz.ntmps46
  go_wp2_with (first
   | (go_at_call 66;refine (nC.out _).mono ?_;rintro e w' ⟨rfl,rfl⟩)
   | (go_at_call 67;refine (dP.out).mono ?_;rintro e w1 ⟨rfl,aP⟩;have aC:=(aP.block _ eG.out).trans aY.out;have q0:=dx aC;have q1:=dA aC;have q2:=ed aC;have q3:=fA aC;have q4:=dS aC;have q5:=dZ aC;have q6:=fU aC;have q7:=gz aC;have kG:w.heap.size < w1.heap.size:=kd eG.out aP.size;have dH:=kq (ak fP.out aP);clear aC aP)
   | (go_at_call 68;refine (oQ.out _).mono ?_;rintro e w' ⟨rfl,rfl⟩)
   | (go_at_call 69;refine (jH.out _ _ (ak dH.out (bY _ _ _)) (j3 _ _).1).mono ?_;rintro e w2 ⟨rfl,d9⟩))
  go_ret;exact ⟨rfl,ak (ak dH.out (bY _ _ _)) (by assumption)⟩
 ·have yN:((ks.len:Int) == 2) = false:=by rw [beq_eq_false_iff_ne];omega
  have bH:kindB 7 nm g az ws ks bs (rt ks (d + 1)) (rt cz (d + 1)) = false:=by unfold kindB;simp [hq]
  rw [bH];clear bH hq;go_enter Tryz.func46,Tryz.ntmps46
  go_wp2_with (first
   | (go_at_call 66;refine (nC.out _).mono ?_;rintro e w' ⟨rfl,rfl⟩)
   | (go_at_call 67;refine (dP.out).mono ?_;rintro e w1 ⟨rfl,aP⟩;have aC:=(aP.block _ eG.out).trans aY.out;have q0:=dx aC;have q1:=dA aC;have q2:=ed aC;have q3:=fA aC;have q4:=dS aC;have q5:=dZ aC;have q6:=fU aC;have q7:=gz aC;have kG:w.heap.size < w1.heap.size:=kd eG.out aP.size;have dH:=kq (ak fP.out aP);clear aC aP)
   | (go_at_call 68;refine (oQ.out _).mono ?_;rintro e w' ⟨rfl,rfl⟩))
  go_ret;exact ⟨rfl,(ak dH.out (bY _ _ _))⟩
theorem S9 (n:Nat) (hR:eu n) (nm:ByteArray) (g:Bool) (az:List (ByteArray × PL)) (ws:List PL) (ks:NL) (bs:List Bool) (cz:NL) (x1 d1 x2 d2 x3 d3 x4 d4 x5 d5) (d:Nat) (m:Int) (w:World) (hks:ks.size≤n) (hcs:cz.size≤n) (hd:d≤201) (h:Holds w nm az ws ks bs cz x1 d1 x2 d2 x3 d3 x4 d4 x5 d5) (fO:∀ l ∈ ws,ui l) (jd:fB ks) (kF:fB cz) (hm:w.cell? ⟨0,0,none⟩ = some (.int .i64 m)) (lT:d≤200) (ho:ownB 8 nm g az ws ks bs cz = true) :
  Calls Tryz.prog 46 #[.agg (aJ 8 nm g x1 az.length d1 x2 ws.length d2 x3 ks.len d3 x4 bs.length d4 x5 cz.len d5),.int .i64 d] w fun e w'=>e = .returned (.bool (aW 8 nm g az ws ks bs cz d))∧Below w.heap.size w w':=by
 have fT:aW 8 nm g az ws ks bs cz d = kindB 8 nm g az ws ks bs (rt ks (d + 1)) (rt cz (d + 1)):=by
  unfold aW;rw [show fC 8 d = false from by unfold fC;rw [decide_eq_false (by omega)];simp,ho];rfl
 have Ri:((200:Int) < (d:Int)) = False:=by rw [eq_iff_iff,iff_false];omega
 have au:(w.alloc (.cells #[.int .i64 8,.string nm,.bool g,.slice x1 az.length d1,.slice x2 ws.length d2,.slice x3 ks.len d3,.slice x4 bs.length d4,.slice x5 cz.len d5] 28)).heap[w.heap.size]? = some (.cells #[.int .i64 8,.string nm,.bool g,.slice x1 az.length d1,.slice x2 ws.length d2,.slice x3 ks.len d3,.slice x4 bs.length d4,.slice x5 cz.len d5] 28 (0,0)):=ay _ _;have eO:w.heap.size < (w.alloc (.cells #[.int .i64 8,.string nm,.bool g,.slice x1 az.length d1,.slice x2 ws.length d2,.slice x3 ks.len d3,.slice x4 bs.length d4,.slice x5 cz.len d5] 28)).heap.size:=by simp only [zd];omega
 have dw:=iY 8 nm g az ws ks bs cz x1 d1 x2 d2 x3 d3 x4 d4 x5 d5 (w.alloc (.cells #[.int .i64 8,.string nm,.bool g,.slice x1 az.length d1,.slice x2 ws.length d2,.slice x3 ks.len d3,.slice x4 bs.length d4,.slice x5 cz.len d5] 28)) (h.below (ax w _));unfold aJ at dw;rw [ho] at dw;have j4:=fun w=>dm 8 w;rw [show bQ 8 = true from rfl] at j4;have aY:=kq au;have eG:=kq eO;have fP:=kq (ax w (.cells #[.int .i64 8,.string nm,.bool g,.slice x1 az.length d1,.slice x2 ws.length d2,.slice x3 ks.len d3,.slice x4 bs.length d4,.slice x5 cz.len d5] 28));have dP:=kq dw;have nC:=kq j4;clear au eO dw j4;have lZ:=fun w=>di 8 d (by omega) w;rw [show gp 8 d = d + 1 from rfl] at lZ;have oQ:=kq lZ;clear lZ;have mH:=fun W pb (hb:Below w.heap.size w W) hp=>nW n hR ks hks h.xU jd (d + 1) pb (by omega) x3 d3 m W (h.hks.below hb) (cell_below hb hm) hp;rw [fT];have uH:=h.hks.le;have MP:=h.hbs.le;have jH:=kq mH;clear mH fT h fO jd kF hm hR ho;unfold aJ
 by_cases hq:ks.len = 2
 ·have yN:((ks.len:Int) == 2) = true:=by rw [hq];rfl
  have bH:kindB 8 nm g az ws ks bs (rt ks (d + 1)) (rt cz (d + 1)) = (allS dK ks && rt ks (d + 1)):=by unfold kindB;simp [hq]
  rw [bH];clear bH hq;go_enter Tryz.func46,Tryz.ntmps46
  go_wp2_with (first
   | (go_at_call 66;refine (nC.out _).mono ?_;rintro e w' ⟨rfl,rfl⟩)
   | (go_at_call 67;refine (dP.out).mono ?_;rintro e w1 ⟨rfl,aP⟩;have aC:=(aP.block _ eG.out).trans aY.out;have q0:=dx aC;have q1:=dA aC;have q2:=ed aC;have q3:=fA aC;have q4:=dS aC;have q5:=dZ aC;have q6:=fU aC;have q7:=gz aC;have kG:w.heap.size < w1.heap.size:=kd eG.out aP.size;have dH:=kq (ak fP.out aP);clear aC aP)
   | (go_at_call 68;refine (oQ.out _).mono ?_;rintro e w' ⟨rfl,rfl⟩)
   | (go_at_call 69;refine (jH.out _ _ (ak dH.out (bY _ _ _)) (j3 _ _).1).mono ?_;rintro e w2 ⟨rfl,d9⟩))
  go_ret;exact ⟨rfl,ak (ak dH.out (bY _ _ _)) (by assumption)⟩
 ·have yN:((ks.len:Int) == 2) = false:=by rw [beq_eq_false_iff_ne];omega
  have bH:kindB 8 nm g az ws ks bs (rt ks (d + 1)) (rt cz (d + 1)) = false:=by unfold kindB;simp [hq]
  rw [bH];clear bH hq;go_enter Tryz.func46,Tryz.ntmps46
  go_wp2_with (first
   | (go_at_call 66;refine (nC.out _).mono ?_;rintro e w' ⟨rfl,rfl⟩)
   | (go_at_call 67;refine (dP.out).mono ?_;rintro e w1 ⟨rfl,aP⟩;have aC:=(aP.block _ eG.out).trans aY.out;have q0:=dx aC;have q1:=dA aC;have q2:=ed aC;have q3:=fA aC;have q4:=dS aC;have q5:=dZ aC;have q6:=fU aC;have q7:=gz aC;have kG:w.heap.size < w1.heap.size:=kd eG.out aP.size;have dH:=kq (ak fP.out aP);clear aC aP)
   | (go_at_call 68;refine (oQ.out _).mono ?_;rintro e w' ⟨rfl,rfl⟩))
  go_ret;exact ⟨rfl,(ak dH.out (bY _ _ _))⟩
theorem PK (n:Nat) (hR:eu n) (nm:ByteArray) (g:Bool) (az:List (ByteArray × PL)) (ws:List PL) (ks:NL) (bs:List Bool) (cz:NL) (x1 d1 x2 d2 x3 d3 x4 d4 x5 d5) (d:Nat) (m:Int) (w:World) (hks:ks.size≤n) (hcs:cz.size≤n) (hd:d≤201) (h:Holds w nm az ws ks bs cz x1 d1 x2 d2 x3 d3 x4 d4 x5 d5) (fO:∀ l ∈ ws,ui l) (jd:fB ks) (kF:fB cz) (hm:w.cell? ⟨0,0,none⟩ = some (.int .i64 m)) (lT:d≤200) (ho:ownB 11 nm g az ws ks bs cz = true) :
  Calls Tryz.prog 46 #[.agg (aJ 11 nm g x1 az.length d1 x2 ws.length d2 x3 ks.len d3 x4 bs.length d4 x5 cz.len d5),.int .i64 d] w fun e w'=>e = .returned (.bool (aW 11 nm g az ws ks bs cz d))∧Below w.heap.size w w':=by
 have fT:aW 11 nm g az ws ks bs cz d = kindB 11 nm g az ws ks bs (rt ks (d + 1)) (rt cz (d + 1)):=by
  unfold aW;rw [show fC 11 d = false from by unfold fC;rw [decide_eq_false (by omega)];simp,ho];rfl
 have Ri:((200:Int) < (d:Int)) = False:=by rw [eq_iff_iff,iff_false];omega
 have au:(w.alloc (.cells #[.int .i64 11,.string nm,.bool g,.slice x1 az.length d1,.slice x2 ws.length d2,.slice x3 ks.len d3,.slice x4 bs.length d4,.slice x5 cz.len d5] 28)).heap[w.heap.size]? = some (.cells #[.int .i64 11,.string nm,.bool g,.slice x1 az.length d1,.slice x2 ws.length d2,.slice x3 ks.len d3,.slice x4 bs.length d4,.slice x5 cz.len d5] 28 (0,0)):=ay _ _;have eO:w.heap.size < (w.alloc (.cells #[.int .i64 11,.string nm,.bool g,.slice x1 az.length d1,.slice x2 ws.length d2,.slice x3 ks.len d3,.slice x4 bs.length d4,.slice x5 cz.len d5] 28)).heap.size:=by simp only [zd];omega
 have dw:=iY 11 nm g az ws ks bs cz x1 d1 x2 d2 x3 d3 x4 d4 x5 d5 (w.alloc (.cells #[.int .i64 11,.string nm,.bool g,.slice x1 az.length d1,.slice x2 ws.length d2,.slice x3 ks.len d3,.slice x4 bs.length d4,.slice x5 cz.len d5] 28)) (h.below (ax w _));unfold aJ at dw;rw [ho] at dw;have j4:=fun w=>dm 11 w;rw [show bQ 11 = true from rfl] at j4;have aY:=kq au;have eG:=kq eO;have fP:=kq (ax w (.cells #[.int .i64 11,.string nm,.bool g,.slice x1 az.length d1,.slice x2 ws.length d2,.slice x3 ks.len d3,.slice x4 bs.length d4,.slice x5 cz.len d5] 28));have dP:=kq dw;have nC:=kq j4;clear au eO dw j4;have lZ:=fun w=>di 11 d (by omega) w;rw [show gp 11 d = d + 1 from rfl] at lZ;have oQ:=kq lZ;clear lZ;have mH:=fun W pb (hb:Below w.heap.size w W) hp=>nW n hR ks hks h.xU jd (d + 1) pb (by omega) x3 d3 m W (h.hks.below hb) (cell_below hb hm) hp;rw [fT];have uH:=h.hks.le;have MP:=h.hbs.le;have jH:=kq mH;clear mH fT h fO jd kF hm hR ho;unfold aJ
 by_cases hq:ks.len = 1
 ·have yN:((ks.len:Int) == 1) = true:=by rw [hq];rfl
  have bH:kindB 11 nm g az ws ks bs (rt ks (d + 1)) (rt cz (d + 1)) = (allS dK ks && rt ks (d + 1)):=by unfold kindB;simp [hq]
  rw [bH];clear bH hq;go_enter Tryz.func46,Tryz.ntmps46
  go_wp2_with (first
   | (go_at_call 66;refine (nC.out _).mono ?_;rintro e w' ⟨rfl,rfl⟩)
   | (go_at_call 67;refine (dP.out).mono ?_;rintro e w1 ⟨rfl,aP⟩;have aC:=(aP.block _ eG.out).trans aY.out;have q0:=dx aC;have q1:=dA aC;have q2:=ed aC;have q3:=fA aC;have q4:=dS aC;have q5:=dZ aC;have q6:=fU aC;have q7:=gz aC;have kG:w.heap.size < w1.heap.size:=kd eG.out aP.size;have dH:=kq (ak fP.out aP);clear aC aP)
   | (go_at_call 68;refine (oQ.out _).mono ?_;rintro e w' ⟨rfl,rfl⟩)
   | (go_at_call 69;refine (jH.out _ _ (ak dH.out (bY _ _ _)) (j3 _ _).1).mono ?_;rintro e w2 ⟨rfl,d9⟩))
  go_ret;exact ⟨rfl,ak (ak dH.out (bY _ _ _)) (by assumption)⟩
 ·have yN:((ks.len:Int) == 1) = false:=by rw [beq_eq_false_iff_ne];omega
  have bH:kindB 11 nm g az ws ks bs (rt ks (d + 1)) (rt cz (d + 1)) = false:=by unfold kindB;simp [hq]
  rw [bH];clear bH hq;go_enter Tryz.func46,Tryz.ntmps46
  go_wp2_with (first
   | (go_at_call 66;refine (nC.out _).mono ?_;rintro e w' ⟨rfl,rfl⟩)
   | (go_at_call 67;refine (dP.out).mono ?_;rintro e w1 ⟨rfl,aP⟩;have aC:=(aP.block _ eG.out).trans aY.out;have q0:=dx aC;have q1:=dA aC;have q2:=ed aC;have q3:=fA aC;have q4:=dS aC;have q5:=dZ aC;have q6:=fU aC;have q7:=gz aC;have kG:w.heap.size < w1.heap.size:=kd eG.out aP.size;have dH:=kq (ak fP.out aP);clear aC aP)
   | (go_at_call 68;refine (oQ.out _).mono ?_;rintro e w' ⟨rfl,rfl⟩))
  go_ret;exact ⟨rfl,(ak dH.out (bY _ _ _))⟩
theorem PM (n:Nat) (hR:eu n) (nm:ByteArray) (g:Bool) (az:List (ByteArray × PL)) (ws:List PL) (ks:NL) (bs:List Bool) (cz:NL) (x1 d1 x2 d2 x3 d3 x4 d4 x5 d5) (d:Nat) (m:Int) (w:World) (hks:ks.size≤n) (hcs:cz.size≤n) (hd:d≤201) (h:Holds w nm az ws ks bs cz x1 d1 x2 d2 x3 d3 x4 d4 x5 d5) (fO:∀ l ∈ ws,ui l) (jd:fB ks) (kF:fB cz) (hm:w.cell? ⟨0,0,none⟩ = some (.int .i64 m)) (lT:d≤200) (ho:ownB 12 nm g az ws ks bs cz = true) :
  Calls Tryz.prog 46 #[.agg (aJ 12 nm g x1 az.length d1 x2 ws.length d2 x3 ks.len d3 x4 bs.length d4 x5 cz.len d5),.int .i64 d] w fun e w'=>e = .returned (.bool (aW 12 nm g az ws ks bs cz d))∧Below w.heap.size w w':=by
 have fT:aW 12 nm g az ws ks bs cz d = kindB 12 nm g az ws ks bs (rt ks (d + 1)) (rt cz (d + 1)):=by
  unfold aW;rw [show fC 12 d = false from by unfold fC;rw [decide_eq_false (by omega)];simp,ho];rfl
 have Ri:((200:Int) < (d:Int)) = False:=by rw [eq_iff_iff,iff_false];omega
 have au:(w.alloc (.cells #[.int .i64 12,.string nm,.bool g,.slice x1 az.length d1,.slice x2 ws.length d2,.slice x3 ks.len d3,.slice x4 bs.length d4,.slice x5 cz.len d5] 28)).heap[w.heap.size]? = some (.cells #[.int .i64 12,.string nm,.bool g,.slice x1 az.length d1,.slice x2 ws.length d2,.slice x3 ks.len d3,.slice x4 bs.length d4,.slice x5 cz.len d5] 28 (0,0)):=ay _ _;have eO:w.heap.size < (w.alloc (.cells #[.int .i64 12,.string nm,.bool g,.slice x1 az.length d1,.slice x2 ws.length d2,.slice x3 ks.len d3,.slice x4 bs.length d4,.slice x5 cz.len d5] 28)).heap.size:=by simp only [zd];omega
 have dw:=iY 12 nm g az ws ks bs cz x1 d1 x2 d2 x3 d3 x4 d4 x5 d5 (w.alloc (.cells #[.int .i64 12,.string nm,.bool g,.slice x1 az.length d1,.slice x2 ws.length d2,.slice x3 ks.len d3,.slice x4 bs.length d4,.slice x5 cz.len d5] 28)) (h.below (ax w _));unfold aJ at dw;rw [ho] at dw;have j4:=fun w=>dm 12 w;rw [show bQ 12 = true from rfl] at j4;have aY:=kq au;have eG:=kq eO;have fP:=kq (ax w (.cells #[.int .i64 12,.string nm,.bool g,.slice x1 az.length d1,.slice x2 ws.length d2,.slice x3 ks.len d3,.slice x4 bs.length d4,.slice x5 cz.len d5] 28));have dP:=kq dw;have nC:=kq j4;clear au eO dw j4;have lZ:=fun w=>di 12 d (by omega) w;rw [show gp 12 d = d + 1 from rfl] at lZ;have oQ:=kq lZ;clear lZ;have mH:=fun W pb (hb:Below w.heap.size w W) hp=>nW n hR ks hks h.xU jd (d + 1) pb (by omega) x3 d3 m W (h.hks.below hb) (cell_below hb hm) hp;rw [fT];have uH:=h.hks.le;have MP:=h.hbs.le;have jH:=kq mH;clear mH fT h fO jd kF hm hR ho;unfold aJ
 by_cases hq:ks.len = 1
 ·have yN:((ks.len:Int) == 1) = true:=by rw [hq];rfl
  have bH:kindB 12 nm g az ws ks bs (rt ks (d + 1)) (rt cz (d + 1)) = (allS dK ks && rt ks (d + 1)):=by unfold kindB;simp [hq]
  rw [bH];clear bH hq;go_enter Tryz.func46,Tryz.ntmps46
  go_wp2_with (first
   | (go_at_call 66;refine (nC.out _).mono ?_;rintro e w' ⟨rfl,rfl⟩)
   | (go_at_call 67;refine (dP.out).mono ?_;rintro e w1 ⟨rfl,aP⟩;have aC:=(aP.block _ eG.out).trans aY.out;have q0:=dx aC;have q1:=dA aC;have q2:=ed aC;have q3:=fA aC;have q4:=dS aC;have q5:=dZ aC;have q6:=fU aC;have q7:=gz aC;have kG:w.heap.size < w1.heap.size:=kd eG.out aP.size;have dH:=kq (ak fP.out aP);clear aC aP)
   | (go_at_call 68;refine (oQ.out _).mono ?_;rintro e w' ⟨rfl,rfl⟩)
   | (go_at_call 69;refine (jH.out _ _ (ak dH.out (bY _ _ _)) (j3 _ _).1).mono ?_;rintro e w2 ⟨rfl,d9⟩))
  go_ret;exact ⟨rfl,ak (ak dH.out (bY _ _ _)) (by assumption)⟩
 ·have yN:((ks.len:Int) == 1) = false:=by rw [beq_eq_false_iff_ne];omega
  have bH:kindB 12 nm g az ws ks bs (rt ks (d + 1)) (rt cz (d + 1)) = false:=by unfold kindB;simp [hq]
  rw [bH];clear bH hq;go_enter Tryz.func46,Tryz.ntmps46
  go_wp2_with (first
   | (go_at_call 66;refine (nC.out _).mono ?_;rintro e w' ⟨rfl,rfl⟩)
   | (go_at_call 67;refine (dP.out).mono ?_;rintro e w1 ⟨rfl,aP⟩;have aC:=(aP.block _ eG.out).trans aY.out;have q0:=dx aC;have q1:=dA aC;have q2:=ed aC;have q3:=fA aC;have q4:=dS aC;have q5:=dZ aC;have q6:=fU aC;have q7:=gz aC;have kG:w.heap.size < w1.heap.size:=kd eG.out aP.size;have dH:=kq (ak fP.out aP);clear aC aP)
   | (go_at_call 68;refine (oQ.out _).mono ?_;rintro e w' ⟨rfl,rfl⟩))
  go_ret;exact ⟨rfl,(ak dH.out (bY _ _ _))⟩
end Tr
end Go.Proofs.YtckakkeejekibaaGreatDoor
