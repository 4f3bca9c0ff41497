/- A loop's head; what is right in a place and at a depth, as a plain function; all of a row of nodes. -/
import Derived.Test.YtoafdgfofgkenaaGreatTrH
namespace Go.Proofs.YtoafdgfofgkenaaGreat
open Go.RowKit Go.Sort
namespace Tr
open Cls Pt
def forB (nm:ByteArray) (g:Bool) (ws:List PL):Bool:=nameL nm.data.toList && (g || decide (ws.length = 0)) && ws.all rightW
def allS (S:Int→Nat→Bool):NL→Bool
 | .nil=>true
 | .node k _ _ _ _ ks _ _ r=>S k ks.len && allS S r
 | .cse _ _ _=>false
def itemS (k:Int) (_:Nat):Bool:=itemB k
def commandS (k:Int) (_:Nat):Bool:=commandB k
def compoundS (k:Int) (_:Nat):Bool:=compoundB k
def kindB (k:Int) (nm:ByteArray) (g:Bool) (az:List (ByteArray × PL)) (ws:List PL) (ks:NL) (bs:List Bool) (rk rc:Bool):Bool :=
 if k == 1 then simpleB az ws
 else if k == 2 || k == 3 then decide (ks.len = 2) && (match ks with
  | .node k0 _ _ _ _ _ _ _ (.node k1 _ _ _ _ _ _ _ _)=>itemB k0 && unitB k1
  | _=>false) && rk
 else if k == 4 then decide (ks.len = 1) && (allS commandS ks && rk)
 else if k == 5 then decide (ks.len = bs.length) && (allS itemS ks && rk)
 else if k == 6 then (decide (ks.len = 2) || decide (ks.len = 3)) && (allS bodyB ks && rk)
 else if k == 7 || k == 8 then decide (ks.len = 2) && (allS bodyB ks && rk)
 else if k == 9 then decide (ks.len = 1) && forB nm g ws && (allS bodyB ks && rk)
 else if k == 10 then decide (ws.length = 1) && ws.all rightW && rc
 else if k == 11 || k == 12 then decide (ks.len = 1) && (allS bodyB ks && rk)
 else if k == 13 then decide (ks.len = 1) && nameL nm.data.toList && !reservedL nm.data.toList && (allS compoundS ks && rk)
 else false
def deepB (k:Int) (d:Nat):Bool:=countsB k && decide (200 < d)
def rt:NL→Nat→Bool
 | .nil,_=>true
 | .node k nm g az ws ks bs cz r,d=>(!deepB k d && ownB k nm g az ws ks bs cz && kindB k nm g az ws ks bs (rt ks (withinD k d)) (rt cz (withinD k d))) && rt r d
 | .cse ps b r,d=>(!ps.isEmpty && ps.all rightW && decide (b.len≤1) && (allS bodyB b && rt b d)) && rt r d
def nodeR (k:Int) (nm:ByteArray) (g:Bool) (az:List (ByteArray × PL)) (ws:List PL) (ks:NL) (bs:List Bool) (cz:NL) (d:Nat):Bool :=
 !deepB k d && ownB k nm g az ws ks bs cz && kindB k nm g az ws ks bs (rt ks (withinD k d)) (rt cz (withinD k d))
end Tr
end Go.Proofs.YtoafdgfofgkenaaGreat
