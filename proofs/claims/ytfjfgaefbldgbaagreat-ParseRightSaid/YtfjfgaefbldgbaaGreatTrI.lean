/- A loop's head; what is right in a place and at a depth, as a plain function; all of a row of nodes. -/
import Derived.Test.YtfjfgaefbldgbaaGreatTrH
namespace Go.Proofs.YtfjfgaefbldgbaaGreat
open Go.RowKit Go.Sort
namespace Tr
open Cls Pt
def forB (nm:ByteArray) (g:Bool) (ws:List PL):Bool:=nameL nm.data.toList && (g || decide (ws.length = 0)) && ws.all rightW
set_option maxHeartbeats 1600000 in
set_option maxRecDepth 100000 in
theorem rightFor_any (k:Int) (nm:ByteArray) (g:Bool) (az:List (ByteArray × PL)) (ws:List PL) (ks:NL) (bs:List Bool) (cz:NL) (x1:Option Addr) (d1:Nat) (x2:Option Addr) (d2:Nat) (x3:Option Addr) (d3:Nat) (x4:Option Addr) (d4:Nat) (x5:Option Addr) (d5:Nat) (w:World) (h:Holds w nm az ws ks bs cz x1 d1 x2 d2 x3 d3 x4 d4 x5 d5) :
  Calls Tryz.prog 52 #[.agg (nodeV k nm g x1 az.length d1 x2 ws.length d2 x3 ks.len d3 x4 bs.length d4 x5 cz.len d5)] w fun e w'=>e = .returned (.bool (forB nm g ws))∧Below w.heap.size w w':=by
 have hN:=fun w=>name_any nm w (by have:=h.hnm;unfold R at this;omega)
 have hG:=fun X=>rightWords_any ws x2 d2 (w.alloc X) (sl_below (P:=PW) (fun h=>h.below (bel1 w X)) h.hws)
 clear h
 unfold nodeV forB
 cases hn:nameL nm.data.toList
 ·rw [hn] at hN
  have HN:=Lib.hid hN
  clear hN hG hn
  go_enter Tryz.func52,Tryz.ntmps52
  go_wp2_with (go_at_call 56;refine (HN.out _).mono ?_;rintro e w' ⟨rfl,rfl⟩)
  go_ret
  exact ⟨rfl,bel1 _ _⟩
 ·rw [hn] at hN
  have HN:=Lib.hid hN;have HG:=Lib.hid hG
  clear hN hG hn
  have hz:(ws.length = 0)∨¬ (ws.length = 0):=Classical.em _
  cases g
  ·rcases hz with hz | hz
   ·have hz':((ws.length:Int) == 0) = true:=by simp [hz]
    have hd:decide (ws.length = 0) = true:=decide_eq_true hz
    rw [hd]
    clear hz hd
    go_enter Tryz.func52,Tryz.ntmps52
    go_wp2_with (first
     | (go_at_call 56;refine (HN.out _).mono ?_;rintro e w' ⟨rfl,rfl⟩)
     | (go_at_call 53;refine (HG.out _).mono ?_;rintro e w2 ⟨rfl,hb⟩))
    go_ret
    exact ⟨ret_bool (by simp),thru (bel1 _ _) (by assumption)⟩
   ·have hz':((ws.length:Int) == 0) = false:=by rw [beq_eq_false_iff_ne];omega
    have hd:decide (ws.length = 0) = false:=decide_eq_false hz
    rw [hd]
    clear hz hd
    go_enter Tryz.func52,Tryz.ntmps52
    go_wp2_with (first
     | (go_at_call 56;refine (HN.out _).mono ?_;rintro e w' ⟨rfl,rfl⟩))
    go_ret
    exact ⟨ret_bool (by simp),bel1 _ _⟩
  ·clear hz
   go_enter Tryz.func52,Tryz.ntmps52
   go_wp2_with (first
    | (go_at_call 56;refine (HN.out _).mono ?_;rintro e w' ⟨rfl,rfl⟩)
    | (go_at_call 53;refine (HG.out _).mono ?_;rintro e w2 ⟨rfl,hb⟩))
   go_ret
   exact ⟨ret_bool (by simp),thru (bel1 _ _) (by assumption)⟩
def allS (S:Int→Nat→Bool):NL→Bool
 | .nil=>true
 | .node k _ _ _ _ ks _ _ r=>S k ks.len && allS S r
 | .cse _ _ _=>false
def itemS (k:Int) (_:Nat):Bool:=itemB k
def unitS (k:Int) (_:Nat):Bool:=unitB k
def commandS (k:Int) (_:Nat):Bool:=commandB k
def compoundS (k:Int) (_:Nat):Bool:=compoundB k
def kindB (k:Int) (nm:ByteArray) (g:Bool) (az:List (ByteArray × PL)) (ws:List PL) (ks:NL) (bs:List Bool) (rk rc:Bool):Bool :=
 if k == 1 then simpleB az ws
 else if k == 2 || k == 3 then decide (ks.len = 2) && (match ks with
  | .node k0 _ _ _ _ _ _ _ (.node k1 _ _ _ _ _ _ _ _)=>itemB k0 && unitB k1
  | _=>false) && rk
 else if k == 4 then decide (ks.len = 1) && (allS commandS ks && rk)
 else if k == 5 then decide (ks.len = bs.length) && (allS itemS ks && rk)
 else if k == 6 then (decide (ks.len = 2) || decide (ks.len = 3)) && (allS bodyB ks && rk)
 else if k == 7 || k == 8 then decide (ks.len = 2) && (allS bodyB ks && rk)
 else if k == 9 then decide (ks.len = 1) && forB nm g ws && (allS bodyB ks && rk)
 else if k == 10 then decide (ws.length = 1) && ws.all rightW && rc
 else if k == 11 || k == 12 then decide (ks.len = 1) && (allS bodyB ks && rk)
 else if k == 13 then decide (ks.len = 1) && nameL nm.data.toList && !reservedL nm.data.toList && (allS compoundS ks && rk)
 else false
def deepB (k:Int) (d:Nat):Bool:=countsB k && decide (200 < d)
def rt:NL→Nat→Bool
 | .nil,_=>true
 | .node k nm g az ws ks bs cz r,d=>(!deepB k d && ownB k nm g az ws ks bs cz && kindB k nm g az ws ks bs (rt ks (withinD k d)) (rt cz (withinD k d))) && rt r d
 | .cse ps b r,d=>(!ps.isEmpty && ps.all rightW && decide (b.len≤1) && (allS bodyB b && rt b d)) && rt r d
def nodeR (k:Int) (nm:ByteArray) (g:Bool) (az:List (ByteArray × PL)) (ws:List PL) (ks:NL) (bs:List Bool) (cz:NL) (d:Nat):Bool :=
 !deepB k d && ownB k nm g az ws ks bs cz && kindB k nm g az ws ks bs (rt ks (withinD k d)) (rt cz (withinD k d))
theorem rt_node (k:Int) (nm:ByteArray) (g:Bool) (az:List (ByteArray × PL)) (ws:List PL) (ks:NL) (bs:List Bool) (cz r:NL) (d:Nat):rt (.node k nm g az ws ks bs cz r) d = (nodeR k nm g az ws ks bs cz d && rt r d):=rfl
def fitN:NL→Prop
 | .nil=>True
 | .node _ _ _ _ ws ks _ cz r=>(∀ l ∈ ws,wOK l)∧fitN ks∧fitN cz∧fitN r
 | .cse _ b r=>fitN b∧fitN r
theorem fit_drop:∀ (n:Nat) (l:NL),fitN l→fitN (l.drop n)
 | 0,_,h=>h
 | _ + 1,.nil,h=>h
 | n + 1,.node _ _ _ _ _ _ _ _ r,h=>fit_drop n r h.2.2.2
 | n + 1,.cse _ _ r,h=>fit_drop n r h.2
def RightAt (n:Nat):Prop:=∀ (k:Int) (nm:ByteArray) (g:Bool) (az:List (ByteArray × PL)) (ws:List PL) (ks:NL) (bs:List Bool) (cz:NL) (x1:Option Addr) (d1:Nat) (x2:Option Addr) (d2:Nat) (x3:Option Addr) (d3:Nat) (x4:Option Addr) (d4:Nat) (x5:Option Addr) (d5:Nat) (d:Nat) (m:Int) (w:World),ks.size + cz.size < n→d≤201→Holds w nm az ws ks bs cz x1 d1 x2 d2 x3 d3 x4 d4 x5 d5→(∀ l ∈ ws,wOK l)→fitN ks→fitN cz→w.cell? ⟨0,0,none⟩ = some (.int .i64 m) →
 Calls Tryz.prog 32 #[.agg (nodeV k nm g x1 az.length d1 x2 ws.length d2 x3 ks.len d3 x4 bs.length d4 x5 cz.len d5),.int .i64 d] w fun e w'=>e = .returned (.bool (nodeR k nm g az ws ks bs cz d))∧Below w.heap.size w w'
def Tells (f:FuncId) (S:Int→Nat→Bool):Prop:=∀ (k:Int) (nm:ByteArray) (g:Bool) (az:List (ByteArray × PL)) (ws:List PL) (ks:NL) (bs:List Bool) (cz:NL) (x1:Option Addr) (d1:Nat) (x2:Option Addr) (d2:Nat) (x3:Option Addr) (d3:Nat) (x4:Option Addr) (d4:Nat) (x5:Option Addr) (d5:Nat) (w:World),
 Calls Tryz.prog f #[.agg (nodeV k nm g x1 az.length d1 x2 ws.length d2 x3 ks.len d3 x4 bs.length d4 x5 cz.len d5)] w fun e w'=>e = .returned (.bool (S k ks.len))∧Below w.heap.size w w'
end Tr
end Go.Proofs.YtfjfgaefbldgbaaGreat
