/- The reference's Weight. -/
import Derived.Test.YtbcldfaphnnmlaaTrT
namespace Go.Proofs.Ytbcldfaphnnmlaa
open Go.RowKit Go.Sort
namespace Tr
open Cls Pt
def Heavy (w:World) (t:Nat) (e:Ending) (w':World):Prop:=(∃ v:Nat,e = .returned (.int .i64 v)∧v≤100000∧(v≤20000→v = t))∧Below w.heap.size w w'
def WAt (n:Nat):Prop:=∀ (k:Int) (nm:ByteArray) (g:Bool) (az:List (ByteArray × PL)) (ws:List PL) (ks:NL) (bs:List Bool) (cz:NL) (x1:Option Addr) (d1:Nat) (x2:Option Addr) (d2:Nat) (x3:Option Addr) (d3:Nat) (x4:Option Addr) (d4:Nat) (x5:Option Addr) (d5:Nat) (d:Nat) (w:World),ks.size + cz.size < n→d≤1000→Holds w nm az ws ks bs cz x1 d1 x2 d2 x3 d3 x4 d4 x5 d5 →
 Calls Try.prog 19 #[.agg (nodeV k nm g x1 az.length d1 x2 ws.length d2 x3 ks.len d3 x4 bs.length d4 x5 cz.len d5),.int .i64 d] w (Heavy w (totX nm az ws ks bs cz))
set_option maxHeartbeats 1600000 in
set_option maxRecDepth 100000 in
theorem weight_big (k:Int) (nm:ByteArray) (g:Bool) (az:List (ByteArray × PL)) (ws:List PL) (ks:NL) (bs:List Bool) (cz:NL) (x1:Option Addr) (d1:Nat) (x2:Option Addr) (d2:Nat) (x3:Option Addr) (d3:Nat) (x4:Option Addr) (d4:Nat) (x5:Option Addr) (d5:Nat) (d:Nat) (w:World) (hd:d≤1000) (h:Holds w nm az ws ks bs cz x1 d1 x2 d2 x3 d3 x4 d4 x5 d5)
  (hb:900 < d∨5000 < ks.len + cz.len + ws.length + az.length + bs.length) :
  Calls Try.prog 19 #[.agg (nodeV k nm g x1 az.length d1 x2 ws.length d2 x3 ks.len d3 x4 bs.length d4 x5 cz.len d5),.int .i64 d] w (Heavy w (totX nm az ws ks bs cz)):=by
 have l1:=h.haz.le
 have l2:=h.hws.le
 have l3:=h.hks.le
 have l4:=h.hbs.le
 have l5:=h.hcs.le
 clear h
 have s1:IntKind.i64.wrap ((ks.len:Int) + cz.len) = (ks.len:Int) + cz.len:=wrapW _ (by omega) (by omega)
 have s2:IntKind.i64.wrap ((ks.len:Int) + cz.len + ws.length) = (ks.len:Int) + cz.len + ws.length:=wrapW _ (by omega) (by omega)
 have s3:IntKind.i64.wrap ((ks.len:Int) + cz.len + ws.length + az.length) = (ks.len:Int) + cz.len + ws.length + az.length:=wrapW _ (by omega) (by omega)
 have s4:IntKind.i64.wrap ((ks.len:Int) + cz.len + ws.length + az.length + bs.length) = ((ks.len + cz.len + ws.length + az.length + bs.length:Nat):Int):=(wrapW _ (by omega) (by omega)).trans (by push_cast;rfl)
 unfold nodeV
 by_cases h1:900 < d
 ·have hdI:((d:Int) > 900) = True:=by simp;omega
  have hdJ:(900 < (d:Int)) = True:=by simp;omega
  clear h1 hb hd
  go_enter Try.func19,Try.ntmps19
  go_wp2
  go_ret
  exact ⟨⟨100000,rfl,by omega,fun h=>absurd h (by decide)⟩,bel1 _ _⟩
 ·have hb:5000 < ks.len + cz.len + ws.length + az.length + bs.length:=hb.resolve_left h1
  have hdI:((d:Int) > 900) = False:=by simp;omega
  have hdJ:(900 < (d:Int)) = False:=by simp;omega
  generalize ks.len + cz.len + ws.length + az.length + bs.length = T at hb s4
  have hlI:((T:Int) > 5000) = True:=by simp;omega
  have hlJ:(5000 < (T:Int)) = True:=by simp;omega
  clear h1 hb hd
  go_enter Try.func19,Try.ntmps19
  go_wp2
  go_ret
  exact ⟨⟨100000,rfl,by omega,fun h=>absurd h (by decide)⟩,bel1 _ _⟩
end Tr
end Go.Proofs.Ytbcldfaphnnmlaa
