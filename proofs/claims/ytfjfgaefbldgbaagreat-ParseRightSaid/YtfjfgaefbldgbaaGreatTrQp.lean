/- rightAt, Right, Program: for all nodes. -/
/- How many nodes there are; frames but for one block. -/
/- Program. -/
import Derived.Test.YtfjfgaefbldgbaaGreatTrN
import Derived.Test.YtfjfgaefbldgbaaGreatQTail
namespace Go.Proofs.YtfjfgaefbldgbaaGreat
open Go.RowKit Go.Sort
namespace Tr
open Cls Pt
theorem right_step (n:Nat) (hR:RightAt n):RightAt (n + 1):=by
 intro k nm g az ws ks bs cz x1 d1 x2 d2 x3 d3 x4 d4 x5 d5 d m w hsz hd h hok hfk hfc hm
 have hks:ks.size≤n:=by omega
 have hcs:cz.size≤n:=by omega
 cases hc:countsB k
 ·cases ho:ownB k nm g az ws ks bs cz
  ·exact right_own_false n hR k nm g az ws ks bs cz x1 d1 x2 d2 x3 d3 x4 d4 x5 d5 d m w hks hcs hd h hok hfk hfc hm hc (.inr hc) ho
  ·have hlo:∀ j:Int,6≤j→j≤13→(k == j) = false:=by
    intro j h1 h2
    rw [beq_eq_false_iff_ne]
    rintro rfl
    simp [countsB,h1,h2] at hc
   by_cases e1:k = 1
   ·subst e1
    exact right_1 n hR nm g az ws ks bs cz x1 d1 x2 d2 x3 d3 x4 d4 x5 d5 d m w hks hcs hd h hok hfk hfc hm ho
   have g1:(k == 1) = false:=by rw [beq_eq_false_iff_ne];exact e1
   by_cases e2:k = 2
   ·subst e2
    exact right_2 n hR nm g az ws ks bs cz x1 d1 x2 d2 x3 d3 x4 d4 x5 d5 d m w hks hcs hd h hok hfk hfc hm ho
   have g2:(k == 2) = false:=by rw [beq_eq_false_iff_ne];exact e2
   by_cases e3:k = 3
   ·subst e3
    exact right_3 n hR nm g az ws ks bs cz x1 d1 x2 d2 x3 d3 x4 d4 x5 d5 d m w hks hcs hd h hok hfk hfc hm ho
   have g3:(k == 3) = false:=by rw [beq_eq_false_iff_ne];exact e3
   by_cases e4:k = 4
   ·subst e4
    exact right_4 n hR nm g az ws ks bs cz x1 d1 x2 d2 x3 d3 x4 d4 x5 d5 d m w hks hcs hd h hok hfk hfc hm ho
   have g4:(k == 4) = false:=by rw [beq_eq_false_iff_ne];exact e4
   by_cases e5:k = 5
   ·subst e5
    exact right_5 n hR nm g az ws ks bs cz x1 d1 x2 d2 x3 d3 x4 d4 x5 d5 d m w hks hcs hd h hok hfk hfc hm ho
   have g5:(k == 5) = false:=by rw [beq_eq_false_iff_ne];exact e5
   exact right_no n hR k nm g az ws ks bs cz x1 d1 x2 d2 x3 d3 x4 d4 x5 d5 d m w hks hcs hd h hok hfk hfc hm hc g1 g2 g3 g4 g5 (hlo 6 (by decide) (by decide)) (hlo 7 (by decide) (by decide)) (hlo 8 (by decide) (by decide)) (hlo 9 (by decide) (by decide)) (hlo 10 (by decide) (by decide)) (hlo 11 (by decide) (by decide)) (hlo 12 (by decide) (by decide)) (hlo 13 (by decide) (by decide)) ho
 ·by_cases h2:200 < d
  ·exact right_deep n hR k nm g az ws ks bs cz x1 d1 x2 d2 x3 d3 x4 d4 x5 d5 d m w hks hcs hd h hok hfk hfc hm hc h2
  ·have hd2:d≤200:=by omega
   cases ho:ownB k nm g az ws ks bs cz
   ·exact right_own_true n hR k nm g az ws ks bs cz x1 d1 x2 d2 x3 d3 x4 d4 x5 d5 d m w hks hcs hd h hok hfk hfc hm hc (.inl hd2) ho
   ·have hk:6≤k∧k≤13:=by simpa [countsB] using hc
    have hkk:k = 6∨k = 7∨k = 8∨k = 9∨k = 10∨k = 11∨k = 12∨k = 13:=by omega
    rcases hkk with rfl | rfl | rfl | rfl | rfl | rfl | rfl | rfl
    ·exact right_6 n hR nm g az ws ks bs cz x1 d1 x2 d2 x3 d3 x4 d4 x5 d5 d m w hks hcs hd h hok hfk hfc hm hd2 ho
    ·exact right_7 n hR nm g az ws ks bs cz x1 d1 x2 d2 x3 d3 x4 d4 x5 d5 d m w hks hcs hd h hok hfk hfc hm hd2 ho
    ·exact right_8 n hR nm g az ws ks bs cz x1 d1 x2 d2 x3 d3 x4 d4 x5 d5 d m w hks hcs hd h hok hfk hfc hm hd2 ho
    ·exact right_9 n hR nm g az ws ks bs cz x1 d1 x2 d2 x3 d3 x4 d4 x5 d5 d m w hks hcs hd h hok hfk hfc hm hd2 ho
    ·exact right_10 n hR nm g az ws ks bs cz x1 d1 x2 d2 x3 d3 x4 d4 x5 d5 d m w hks hcs hd h hok hfk hfc hm hd2 ho
    ·exact right_11 n hR nm g az ws ks bs cz x1 d1 x2 d2 x3 d3 x4 d4 x5 d5 d m w hks hcs hd h hok hfk hfc hm hd2 ho
    ·exact right_12 n hR nm g az ws ks bs cz x1 d1 x2 d2 x3 d3 x4 d4 x5 d5 d m w hks hcs hd h hok hfk hfc hm hd2 ho
    ·exact right_13 n hR nm g az ws ks bs cz x1 d1 x2 d2 x3 d3 x4 d4 x5 d5 d m w hks hcs hd h hok hfk hfc hm hd2 ho
theorem right_at:∀ n,RightAt n
 | 0=>fun _ _ _ _ _ _ _ _ _ _ _ _ _ _ _ _ _ _ _ _ _ h=>absurd h (Nat.not_lt_zero _)
 | n + 1=>right_step n (right_at n)
set_option maxHeartbeats 800000 in
set_option maxRecDepth 100000 in
theorem right_top (k:Int) (nm:ByteArray) (g:Bool) (az:List (ByteArray × PL)) (ws:List PL) (ks:NL) (bs:List Bool) (cz:NL) (x1:Option Addr) (d1:Nat) (x2:Option Addr) (d2:Nat) (x3:Option Addr) (d3:Nat) (x4:Option Addr) (d4:Nat) (x5:Option Addr) (d5:Nat) (m:Int) (w:World) (h:Holds w nm az ws ks bs cz x1 d1 x2 d2 x3 d3 x4 d4 x5 d5) (hok:∀ l ∈ ws,wOK l) (hfk:fitN ks) (hfc:fitN cz) (hm:w.cell? ⟨0,0,none⟩ = some (.int .i64 m)) :
  Calls Tryz.prog 14 #[.agg (nodeV k nm g x1 az.length d1 x2 ws.length d2 x3 ks.len d3 x4 bs.length d4 x5 cz.len d5)] w fun e w'=>e = .returned (.bool (nodeR k nm g az ws ks bs cz 1))∧Below w.heap.size w w':=by
 have hR:=right_at (ks.size + cz.size + 1) k nm g az ws ks bs cz x1 d1 x2 d2 x3 d3 x4 d4 x5 d5 1 m (w.alloc (.cells #[.int .i64 k,.string nm,.bool g,.slice x1 az.length d1,.slice x2 ws.length d2,.slice x3 ks.len d3,.slice x4 bs.length d4,.slice x5 cz.len d5] 29)) (Nat.lt_succ_self _) (by omega) (h.below (bel1 _ _)) hok hfk hfc (cell_below (bel1 _ _) hm)
 unfold nodeV at hR ⊢
 have HR:=Lib.hid hR
 clear hR h hok hfk hfc hm
 go_enter Tryz.func14,Tryz.ntmps14
 go_wp2_with (go_at_call 32;refine (HR.out).mono ?_;rintro e w1 ⟨rfl,hb⟩)
 go_ret
 exact ⟨rfl,thru (bel1 _ _) (by assumption)⟩
end Tr
end Go.Proofs.YtfjfgaefbldgbaaGreat
namespace Go.Proofs.YtfjfgaefbldgbaaGreat
open Go.RowKit Go.Sort
namespace Tr
open Cls Pt
structure FrP (pb:Nat) (w w':World):Prop where
 os:w'.os = w.os
 tape:w'.tape = w.tape
 output:w'.output = w.output
 size:w.heap.size≤w'.heap.size
 block:∀ b,b < w.heap.size→b ≠ pb→w'.heap[b]? = w.heap[b]?
theorem FrP.refl (pb:Nat) (w:World):FrP pb w w:=⟨rfl,rfl,rfl,Nat.le_refl _,fun _ _ _=>rfl⟩
theorem FrP.trans {pb:Nat} {w w' w'':World} (h:FrP pb w w') (k:FrP pb w' w''):FrP pb w w'' :=
 ⟨k.os.trans h.os,k.tape.trans h.tape,k.output.trans h.output,Nat.le_trans h.size k.size,fun b hb hn=>(k.block b (Nat.lt_of_lt_of_le hb h.size) hn).trans (h.block b hb hn)⟩
theorem FrP.of_below {pb:Nat} {w w':World} (h:Below w.heap.size w w'):FrP pb w w':=⟨h.os,h.tape,h.output,h.size,fun b hb _=>h.block b hb⟩
theorem FrP.set {pb:Nat} (w:World) (i:Nat) (v:Value):FrP pb w (w.setCell ⟨pb,i,none⟩ v):=⟨rfl,rfl,rfl,by simp,fun b _ hn=>Below.heap_setCell _ _ _ _ hn⟩
theorem FrP.below {pb:Nat} {w0 w w':World} (h:FrP pb w w') (hb:Below w0.heap.size w0 w) (hp:w0.heap.size≤pb):Below w0.heap.size w0 w' :=
 ⟨h.os.trans hb.os,h.tape.trans hb.tape,h.output.trans hb.output,Nat.le_trans hb.size h.size,fun b hlt=>(h.block b (Nat.lt_of_lt_of_le hlt hb.size) (by omega)).trans (hb.block b hlt)⟩
end Tr
end Go.Proofs.YtfjfgaefbldgbaaGreat
namespace Go.Proofs.YtfjfgaefbldgbaaGreat
open Go.RowKit Go.Sort
namespace Tr
open Cls Pt
set_option maxHeartbeats 800000 in
set_option maxRecDepth 100000 in
theorem program_any (k:Int) (nm:ByteArray) (g:Bool) (az:List (ByteArray × PL)) (ws:List PL) (ks:NL) (bs:List Bool) (cz:NL) (x1:Option Addr) (d1:Nat) (x2:Option Addr) (d2:Nat) (x3:Option Addr) (d3:Nat) (x4:Option Addr) (d4:Nat) (x5:Option Addr) (d5:Nat) (m:Int) (w:World) (h:Holds w nm az ws ks bs cz x1 d1 x2 d2 x3 d3 x4 d4 x5 d5) (hok:∀ l ∈ ws,wOK l) (hfk:fitN ks) (hfc:fitN cz) (hm:w.cell? ⟨0,0,none⟩ = some (.int .i64 m)) :
  Calls Tryz.prog 7 #[.agg (nodeV k nm g x1 az.length d1 x2 ws.length d2 x3 ks.len d3 x4 bs.length d4 x5 cz.len d5)] w fun e w'=>e = .returned (.bool (k == 5 && nodeR k nm g az ws ks bs cz 1))∧Below w.heap.size w w':=by
 have hR:=fun X=>right_top k nm g az ws ks bs cz x1 d1 x2 d2 x3 d3 x4 d4 x5 d5 m (w.alloc X) (h.below (bel1 _ _)) hok hfk hfc (cell_below (bel1 _ _) hm)
 unfold nodeV at hR ⊢
 have HR:=Lib.hid hR
 clear hR h hok hfk hfc hm
 cases h5:(k == 5)
 ·go_enter Tryz.func7,Tryz.ntmps7
  go_wp2_with fail
  go_ret
  exact ⟨rfl,bel1 _ _⟩
 ·go_enter Tryz.func7,Tryz.ntmps7
  go_wp2_with (go_at_call 14;refine (HR.out _).mono ?_;rintro e w1 ⟨rfl,hb⟩)
  go_ret
  exact ⟨ret_bool rfl,thru (bel1 _ _) (by assumption)⟩
end Tr
end Go.Proofs.YtfjfgaefbldgbaaGreat
