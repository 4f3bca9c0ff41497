/- The program's small functions on parts: which bytes stand for themselves, names with operators, texts. -/
import Derived.Test.YtjmpfihopeohbaaGreatDoorPtB
import Derived.Test.YtjmpfihopeohbaaGreatDoorQTail
set_option maxHeartbeats 4000000
set_option maxRecDepth 1000000
namespace Go.Proofs.YtjmpfihopeohbaaGreatDoor
open Go.RowKit Go.Sort
namespace Pt
open Cls
def escB (n:Nat):Bool:=(n:Int) == 34 || (n:Int) == 36 || (n:Int) == 92 || (n:Int) == 96 || (n:Int) == 125
def standsB (n:Nat) (at':Nat):Bool:=if at' = 0 then bareB n else !((n:Int) == 39) && !escB n
def textOK (q:Bool) (t:List UInt8) (at':Nat):Bool:=if q then (!(at' == 2) || !(t == [])) else (t.all fun c=>standsB c.toNat at') && !(t == [])
def isSet (o:List UInt8):Bool:=o == [61] || o == [58,61]
def isOp (o:List UInt8):Bool:=o == [] || o == [45] || o == [58,45] || o == [43] || o == [58,43] || o == [63] || o == [58,63]
def nameOK (t o:List UInt8):Bool:=if isSet o then nameL t else if isOp o then paramL t else false
def wth (q:Bool):Nat:=if q then 2 else 1
theorem escaped_any (n:Nat) (w:World) :
  Calls Tryz.prog 132 #[.int .u8 n] w fun e w'=>e = .returned (.bool (escB n))∧w = w':=by
 go_enter Tryz.func132,Tryz.ntmps132;go_wp2_with fail
 all_goals (go_ret;exact ⟨ret_bool (by first | rfl | (simp only [escB, *];done) | (simp only [escB, *];rfl)),rfl⟩)
theorem stands_any (n at':Nat) (w:World) :
  Calls Tryz.prog 174 #[.int .u8 n,.int .i64 at'] w fun e w'=>e = .returned (.bool (standsB n at'))∧w = w':=by
 by_cases h0:at' = 0
 ·subst h0;go_enter Tryz.func174,Tryz.ntmps174;go_wp2_with (go_at_call 148;refine (bare_any _ _).mono ?_;rintro e w' ⟨rfl,rfl⟩);go_ret;exact ⟨rfl,rfl⟩
 ·have h1:((at':Int) == 0) = false:=by simp;omega
  have H0:=Lib.hid h0;clear h0;cases hq:(n:Int) == 39
  all_goals
   have hq2:((n:Int) != 39) = !((n:Int) == 39):=rfl;rw [hq] at hq2;have HQ:=Lib.hid hq;clear hq;go_enter Tryz.func174,Tryz.ntmps174;go_wp2_with (go_at_call 132;refine (escaped_any _ _).mono ?_;rintro e w' ⟨rfl,rfl⟩);go_ret;exact ⟨ret_bool (by simp [standsB,H0.out,HQ.out]),rfl⟩
theorem within_any (k:Int) (q:Bool) (t o:ByteArray) (a:Option Addr) (n cap:Nat) (w:World) :
  Calls Tryz.prog 131 #[pv k q t o a n cap] w fun e w'=>e = .returned (.int .i64 (wth q))∧Below w.heap.size w w':=by
 have HB:=Lib.hid (bel1 w);unfold pv;cases q
 all_goals
  go_enter Tryz.func131,Tryz.ntmps131;go_wp2_with fail;go_ret;exact ⟨rfl,bel1 _ _⟩
theorem oneText_any (k k':Int) (q q':Bool) (t t' o o':ByteArray) (a a':Option Addr) (n n' cap cap':Nat) (w:World) :
  Calls Tryz.prog 128 #[pv k q t o a n cap,pv k' q' t' o' a' n' cap'] w fun e w'=>e = .returned (.bool ((k == 1) && (k' == 1) && (q == q')))∧Below w.heap.size w w':=by
 unfold pv;go_enter Tryz.func128,Tryz.ntmps128;go_wp2_with fail
 all_goals go_ret
 all_goals exact ⟨ret_bool (by first | rfl | simp [*]),bel2 _ _ _⟩
theorem comment_any (k:Int) (q:Bool) (t o:ByteArray) (a:Option Addr) (n cap:Nat) (w:World) :
  Calls Tryz.prog 138 #[pv k q t o a n cap] w fun e w'=>e = .returned (.bool ((k == 1) && !q && Lib.hasPrefix t.data.toList [35]))∧Below w.heap.size w w':=by
 unfold pv;go_enter Tryz.func138,Tryz.ntmps138;go_wp2_with (go_at_call 118;refine (Tryz.strings_HasPrefix _ _ _).mono ?_;rintro e w' ⟨rfl,rfl⟩)
 all_goals go_ret
 all_goals exact ⟨ret_bool (by first | rfl | simp [*]),bel1 _ _⟩
theorem rightName_any (t o:ByteArray) (w:World) (ht:t.size≤9223372036854775807) :
  Calls Tryz.prog 154 #[.string t,.string o] w fun e w'=>e = .returned (.bool (nameOK t.data.toList o.data.toList))∧Below w.heap.size w w':=by
 rw [← Lib.toList_data o];go_enter Tryz.func154,Tryz.ntmps154
 go_wp2_with (first
  | (go_at_call 79;refine (name_any _ _ ht).mono ?_;rintro e w' ⟨rfl,rfl⟩)
  | (go_at_call 175;refine (param_any _ _ ht).mono ?_;rintro e w' ⟨rfl,hb⟩))
 all_goals go_ret
 all_goals refine ⟨ret_bool ?_,by first | exact Below.refl _ _ | assumption⟩
 all_goals first
  | (exfalso;simp_all;done)
  | (simp_all [nameOK,isSet,isOp];done)
  | trace_state
end Pt
end Go.Proofs.YtjmpfihopeohbaaGreatDoor
namespace Go.Proofs.YtjmpfihopeohbaaGreatDoor
open Go.RowKit Go.Sort
namespace Pt
open Cls
theorem neqE (t:ByteArray):(t.toList != []) = !(t.data.toList == []):=by rw [Lib.toList_data];rfl
theorem lenI (n:Nat):((n:Int) == 0) = (n == 0):=by rw [Bool.eq_iff_iff];simp
theorem emptyO (o:ByteArray):(o.data.toList == []) = o.toList.isEmpty:=by rw [Lib.toList_data];cases o.data.toList <;> rfl
theorem all_no {l:List UInt8} {k:Nat} {p:UInt8→Bool} (hk:k < l.length) (hd:p (l.getD k 0) = false):l.all p = false:=by
 rw [List.all_eq_false];simp only [List.getD,List.getElem?_eq_getElem hk,Option.getD_some] at hd;exact ⟨l[k],List.getElem_mem hk,by simp [hd]⟩
theorem all_snoc {l:List UInt8} {k:Nat} {p:UInt8→Bool} (h:(l.take k).all p = true) (hk:k < l.length) (hd:p (l.getD k 0) = true):(l.take (k + 1)).all p = true:=by
 rw [List.take_succ_eq_append_getElem hk,List.all_append,h];simp only [List.getD,List.getElem?_eq_getElem hk,Option.getD_some] at hd;simp [hd]
theorem rightText_any (k:Int) (q:Bool) (t o:ByteArray) (a:Option Addr) (n cap at':Nat) (w:World) (ht:t.size≤R) (ha:at'≤2) :
  Calls Tryz.prog 153 #[pv k q t o a n cap,.int .i64 at'] w fun e w'=>e = .returned (.bool (textOK q t.data.toList at'))∧Below w.heap.size w w':=by
 have HNE:=Lib.hid (neqE t);have ht':t.size≤140737488351232:=ht;clear ht;unfold pv;cases q
 ·go_enter Tryz.func153,Tryz.ntmps153;go_wp2
  go_loopw [18] (fun i wr=>∃ j:Nat,j≤t.size∧i = .int .i64 j∧(t.data.toList.take j).all (fun c=>standsB c.toNat at') = true∧wr = w.alloc (.cells #[.int .i64 k,.bool false,.string t,.string o,.slice a n cap] 75)) (fun i wr=>t.size - (intOf i).toNat)
  case atStart=>exact ⟨0,Nat.zero_le _,rfl,rfl,rfl⟩
  case round =>
   obtain ⟨j,hj,rfl,hr,rfl⟩:=hrel;have HR:=Lib.hid hr;clear hr
   by_cases hlt:j < t.size
   ·have hlt':j < t.data.toList.length:=by simpa using hlt
    have HG:=Lib.hid (congrArg UInt8.toNat (getB hlt));cases hs:standsB t[j].toNat at'
    ·have HS:=Lib.hid hs;go_wp2_with (go_at_call 174;refine (stands_any _ _ _).mono ?_;rintro e w' ⟨rfl,rfl⟩);go_ret;exact ⟨ret_bool (by simp [textOK,all_no (p:=fun c=>standsB c.toNat at') hlt' (by rw [← HG.out];exact HS.out)]),bel1 _ _⟩
    ·have HS:=Lib.hid hs;go_wp2_with (go_at_call 174;refine (stands_any _ _ _).mono ?_;rintro e w' ⟨rfl,rfl⟩);go_roundw
     case rel=>exact ⟨j + 1,by omega,by go_num,all_snoc HR.out hlt' (by rw [← HG.out];exact HS.out),trivial⟩
     case measure=>simp [intOf];omega
   ·obtain rfl:j = t.size:=by omega
    have HN:=Lib.hid (lenB t);go_wp2;go_ret;exact ⟨ret_bool (by have:=HR.out;rw [List.take_of_length_le (by rw [HN.out];exact Nat.le_refl _)] at this;simp [textOK,this,Lib.toList_data]),bel1 _ _⟩
 ·by_cases h2:at' = 2
  ·subst h2;go_enter Tryz.func153,Tryz.ntmps153;go_wp2;go_ret;exact ⟨ret_bool (by simp [textOK,Lib.toList_data]),bel1 _ _⟩
  ·have h2':((at':Int) != 2) = true:=by simp;omega
   have H2:=Lib.hid h2;clear h2;go_enter Tryz.func153,Tryz.ntmps153;go_wp2;go_ret;exact ⟨ret_bool (by simp [textOK,H2.out]),bel1 _ _⟩
def rightL:Option (Int × Bool)→PL→Nat→Nat→Bool
 | _,.nil,_,_=>true
 | p,.cons k q t o f r,at',d =>
  !(at' == 2 && !q) && !(p.any fun x=>x.1 == 1 && k == 1 && x.2 == q) &&
   (if k == 1 then (o.data.toList == [] && f.len == 0 && textOK q t.data.toList at')
    else if k == 2 then (decide (d≤200) && nameOK t.data.toList o.data.toList && (!(o.data.toList == []) || f.len == 0) && rightL none f (wth q) (d + 1)) else false) &&
   rightL (some (k,q)) r at' d
def partOK (k:Int) (q:Bool) (t o:ByteArray) (f:PL) (at' d:Nat):Bool :=
 if k == 1 then (o.data.toList == [] && f.len == 0 && textOK q t.data.toList at')
 else if k == 2 then (decide (d≤200) && nameOK t.data.toList o.data.toList && (!(o.data.toList == []) || f.len == 0) && rightL none f (wth q) (d + 1)) else false
theorem wrapEq (x:Int):IntKind.i64.wrap x = wrap64 x:=by rw [IntKind.wrap_i64,wrap64]
theorem wrapEq_in (d:Nat) (hd:d≤1000):IntKind.i64.wrap ((d:Int) + 1) = (d:Int) + 1 :=
 (wrapEq _).trans (IntWalk.wrap64_in _ ⟨by omega,by omega⟩)
theorem rightPart_any (k:Int) (q:Bool) (t o:ByteArray) (a:Option Addr) (cap at' d:Nat) (f:PL) (w:World) (ht:t.size≤R) (ha:at'≤2) (hd:d≤1000) (hf:Lies w a cap f)
  (hS:∀ w,d≤200→Lies w a cap f→Calls Tryz.prog 101 #[.slice a f.len cap,.int .i64 (wth q),.int .i64 ((d:Int) + 1)] w fun e w'=>e = .returned (.bool (rightL none f (wth q) (d + 1)))∧Below w.heap.size w w') :
  Calls Tryz.prog 129 #[pv k q t o a f.len cap,.int .i64 at',.int .i64 d] w fun e w'=>e = .returned (.bool (partOK k q t o f at' d))∧Below w.heap.size w w':=by
 have HF:=Lib.hid hf;clear hf;have ht':t.size≤9223372036854775807:=Nat.le_trans ht (by decide);have HT:=Lib.hid ht;clear ht;have HOE:=Lib.hid (Lib.toList_data o);have HB:=Lib.hid (bel1 w)
 by_cases hk1:k = 1
 ·subst hk1;have hRT:=rightText_any 1 q t o a f.len cap at' (w.alloc (.cells #[.int .i64 1,.bool q,.string t,.string o,.slice a f.len cap] 75)) HT.out ha;have HRT:=Lib.hid hRT;clear hRT;unfold pv;cases he:o.toList.isEmpty <;> cases hl:((f.len:Int) == 0)
  all_goals
   have HE:=Lib.hid (show o.toList.isEmpty = _∧((f.len:Int) == 0) = _ from ⟨he,hl⟩);go_enter Tryz.func129,Tryz.ntmps129;go_wp2_with (go_at_call 153;refine (HRT.out).mono ?_;rintro e w' ⟨rfl,hb⟩);go_ret;refine ⟨ret_bool ?_,by first | exact bel1 _ _ | exact thru (bel1 _ _) (by assumption)⟩;simp only [partOK,← lenI,emptyO,HE.out.1,HE.out.2];rfl
 ·by_cases hk2:k = 2
  ·subst hk2;have hW:∀ dd os,Calls Tryz.prog 131 #[pv 2 q t o a f.len cap] (grow (redrawn (w.alloc (.cells #[.int .i64 2,.bool q,.string t,.string o,.slice a f.len cap] 75)) dd) os) fun e w''=>e = .returned (.int .i64 (wth q))∧∃ p:Regrown,w'' = grow (redrawn (w.alloc (.cells #[.int .i64 2,.bool q,.string t,.string o,.slice a f.len cap] 75)) p.d) p.os:=fun dd os =>
    Calls.regrown_of (within_any 2 q t o a f.len cap _)
   have hN:∀ dd os,Calls Tryz.prog 154 #[.string t,.string o] (grow (redrawn (w.alloc (.cells #[.int .i64 2,.bool q,.string t,.string o,.slice a f.len cap] 75)) dd) os) fun e w''=>e = .returned (.bool (nameOK t.data.toList o.data.toList))∧∃ p:Regrown,w'' = grow (redrawn (w.alloc (.cells #[.int .i64 2,.bool q,.string t,.string o,.slice a f.len cap] 75)) p.d) p.os:=fun dd os =>
    Calls.regrown_of (rightName_any t o _ ht')
   have hP:d≤200→∀ dd os,Calls Tryz.prog 101 #[.slice a f.len cap,.int .i64 (wth q),.int .i64 ((d:Int) + 1)] (grow (redrawn (w.alloc (.cells #[.int .i64 2,.bool q,.string t,.string o,.slice a f.len cap] 75)) dd) os) fun e w''=>e = .returned (.bool (rightL none f (wth q) (d + 1)))∧∃ p:Regrown,w'' = grow (redrawn (w.alloc (.cells #[.int .i64 2,.bool q,.string t,.string o,.slice a f.len cap] 75)) p.d) p.os:=fun h dd os =>
    Calls.regrown_of (hS _ h (HF.out.below (thru (HB.out _) (below_regrown _ dd os))))
   have HW:=Lib.hid hW;have HN:=Lib.hid hN;have HP:=Lib.hid hP;have HS:=Lib.hid hS;clear hW hN hP hS;have k0:=cell_regrown (w:=w.alloc (.cells #[.int .i64 2,.bool q,.string t,.string o,.slice a f.len cap] 75)) (a:=⟨w.heap.size,0,none⟩) (v:=.int .i64 2) (by rw [World.cell?_alloc_at _ _ _ _ rfl];rfl);have k1:=cell_regrown (w:=w.alloc (.cells #[.int .i64 2,.bool q,.string t,.string o,.slice a f.len cap] 75)) (a:=⟨w.heap.size,1,none⟩) (v:=.bool q) (by rw [World.cell?_alloc_at _ _ _ _ rfl];rfl);have k2:=cell_regrown (w:=w.alloc (.cells #[.int .i64 2,.bool q,.string t,.string o,.slice a f.len cap] 75)) (a:=⟨w.heap.size,2,none⟩) (v:=.string t) (by rw [World.cell?_alloc_at _ _ _ _ rfl];rfl);have k3:=cell_regrown (w:=w.alloc (.cells #[.int .i64 2,.bool q,.string t,.string o,.slice a f.len cap] 75)) (a:=⟨w.heap.size,3,none⟩) (v:=.string o) (by rw [World.cell?_alloc_at _ _ _ _ rfl];rfl);have k4:=cell_regrown (w:=w.alloc (.cells #[.int .i64 2,.bool q,.string t,.string o,.slice a f.len cap] 75)) (a:=⟨w.heap.size,4,none⟩) (v:=.slice a f.len cap) (by rw [World.cell?_alloc_at _ _ _ _ rfl];rfl);have hbel:=fun dq osq=>thru (HB.out (.cells #[.int .i64 2,.bool q,.string t,.string o,.slice a f.len cap] 75)) (below_regrown _ dq osq);have HBL:=Lib.hid hbel;clear hbel;have hwr:IntKind.i64.wrap ((d:Int) + 1) = (d:Int) + 1:=wrapEq_in d hd;unfold pv
   by_cases hd2:d≤200
   ·have hdI:((d:Int)≤200) = True:=by simp;omega
    have HD:=Lib.hid hd2;clear hd2;cases hn:nameOK t.data.toList o.data.toList
    ·rw [hn] at HN;have HH:=Lib.hid hn;clear hn;go_enter Tryz.func129,Tryz.ntmps129;go_wp2;refine Qu.region (by kernel_rfl) (by kernel_rfl) ?_
     repeat (first
      | (first | refine Qu.carry0 rfl (fun K hK=>?_) | refine Qu.carryG rfl rfl rfl (fun K hK=>?_)
         go_simp
         first
         | (refine hK _ ?_;clear hK K)
         | (apply Exists.intro;refine ⟨fun _=>?_,hK _ ?_⟩;(first | (go_at_call 131;exact HW.out _ _) | (go_at_call 154;exact HN.out _ _) | (go_at_call 101;exact HP.out HD.out _ _));clear hK K))
      | (refine Qu.passG rfl rfl rfl (fun K hK=>?_);go_simp;refine hK _ ?_;clear hK K))
     refine Qu.fin ?_;rintro ⟨dq,osq⟩;go_wp2;go_ret;exact ⟨ret_bool (by simp [partOK,HH.out]),HBL.out dq osq⟩
    ·rw [hn] at HN;have hn2:=hn;have HH:=Lib.hid hn2;clear hn hn2;cases he:o.toList.isEmpty
     ·have HE:=Lib.hid (show o.toList.isEmpty = _ from he);go_enter Tryz.func129,Tryz.ntmps129;go_wp2;refine Qu.region (by kernel_rfl) (by kernel_rfl) ?_
      repeat (first
       | (first | refine Qu.carry0 rfl (fun K hK=>?_) | refine Qu.carryG rfl rfl rfl (fun K hK=>?_)
          go_simp
          first
          | (refine hK _ ?_;clear hK K)
          | (apply Exists.intro;refine ⟨fun _=>?_,hK _ ?_⟩;(first | (go_at_call 131;exact HW.out _ _) | (go_at_call 154;exact HN.out _ _) | (go_at_call 101;exact HP.out HD.out _ _));clear hK K))
       | (refine Qu.passG rfl rfl rfl (fun K hK=>?_);go_simp;refine hK _ ?_;clear hK K))
      refine Qu.fin ?_;rintro ⟨dq,osq⟩;go_wp2;go_ret;exact ⟨ret_bool (by simp only [partOK,emptyO,HE.out,HH.out,HD.out];simp),HBL.out dq osq⟩
     ·cases hl:((f.len:Int) == 0)
      all_goals
       have HE:=Lib.hid (show o.toList.isEmpty = _∧((f.len:Int) == 0) = _ from ⟨he,hl⟩);go_enter Tryz.func129,Tryz.ntmps129;go_wp2;refine Qu.region (by kernel_rfl) (by kernel_rfl) ?_
       repeat (first
        | (first | refine Qu.carry0 rfl (fun K hK=>?_) | refine Qu.carryG rfl rfl rfl (fun K hK=>?_)
           go_simp
           first
           | (refine hK _ ?_;clear hK K)
           | (apply Exists.intro;refine ⟨fun _=>?_,hK _ ?_⟩;(first | (go_at_call 131;exact HW.out _ _) | (go_at_call 154;exact HN.out _ _) | (go_at_call 101;exact HP.out HD.out _ _));clear hK K))
        | (refine Qu.passG rfl rfl rfl (fun K hK=>?_);go_simp;refine hK _ ?_;clear hK K))
       refine Qu.fin ?_;rintro ⟨dq,osq⟩;go_wp2;go_ret;exact ⟨ret_bool (by simp only [partOK,emptyO,← lenI,HE.out.1,HE.out.2,HH.out,HD.out];simp),HBL.out dq osq⟩
   ·have hdI:((d:Int)≤200) = False:=by simp;omega
    have HD:=Lib.hid hd2;clear hd2;go_enter Tryz.func129,Tryz.ntmps129;go_wp2;refine Qu.region (by kernel_rfl) (by kernel_rfl) ?_
    repeat (first
     | (first | refine Qu.carry0 rfl (fun K hK=>?_) | refine Qu.carryG rfl rfl rfl (fun K hK=>?_)
        go_simp
        first
        | (refine hK _ ?_;clear hK K)
        | (apply Exists.intro;refine ⟨fun _=>?_,hK _ ?_⟩;(first | (go_at_call 131;exact HW.out _ _) | (go_at_call 154;exact HN.out _ _) | (go_at_call 101;exact HP.out HD.out _ _));clear hK K))
     | (refine Qu.passG rfl rfl rfl (fun K hK=>?_);go_simp;refine hK _ ?_;clear hK K))
    refine Qu.fin ?_;rintro ⟨dq,osq⟩;go_wp2;go_ret;exact ⟨ret_bool (by simp [partOK,HD.out]),HBL.out dq osq⟩
  ·have h1:(k == 1) = false:=by simpa using hk1
   have h2:(k == 2) = false:=by simpa using hk2
   have HK:=Lib.hid (show (k == 1) = false∧(k == 2) = false from ⟨h1,h2⟩);clear hk1 hk2;unfold pv;go_enter Tryz.func129,Tryz.ntmps129;go_wp2_with fail;go_ret;exact ⟨ret_bool (by simp [partOK,HK.out.1,HK.out.2]),bel1 _ _⟩
end Pt
end Go.Proofs.YtjmpfihopeohbaaGreatDoor
namespace Go.Proofs.YtjmpfihopeohbaaGreatDoor
open Go.RowKit Go.Sort
namespace Pt
open Cls
theorem natI2 (n:Nat):((n:Int) == 2) = (n == 2):=by rw [Bool.eq_iff_iff];simp;omega
theorem cell_re {w:World} {b o:Nat} {v:Value} (h:w.cell? ⟨b,o,none⟩ = some v) (x:Obj) (d:Nat) (os:Array Obj):(grow (redrawn (w.alloc x) d) os).cell? ⟨b,o,none⟩ = some v :=
 cell_regrown (((bel1 w x).cell (p:=⟨b,o,none⟩) (World.block_lt_of_cell? _ _ h)).trans h) d os
def prevAt (l:PL):Nat→Option (Int × Bool)
 | 0=>none
 | n + 1=>match l.drop n with
  | .nil=>none
  | .cons k q _ _ _ _=>some (k,q)
theorem right_step {l f r:PL} {n at' d:Nat} {k:Int} {q:Bool} {t o:ByteArray} (hd:l.drop n = .cons k q t o f r) :
  rightL (prevAt l n) (l.drop n) at' d = (!(at' == 2 && !q) && !((prevAt l n).any fun x=>x.1 == 1 && k == 1 && x.2 == q) && partOK k q t o f at' d && rightL (prevAt l (n + 1)) (l.drop (n + 1)) at' d):=by
 rw [PL.drop_succ hd]
 conv=>lhs;rw [hd]
 simp only [rightL,prevAt,hd,partOK]
theorem rightParts_step (l:PL) (a:Option Addr) (cap at' d:Nat) (w:World) (ha:at'≤2) (hd:d≤1000) (hl:Lies w a cap l)
  (hS:∀ (f:PL) (a:Option Addr) (cap:Nat) (q:Bool) (w:World),f.size < l.size→d≤200→Lies w a cap f→Calls Tryz.prog 101 #[.slice a f.len cap,.int .i64 (wth q),.int .i64 ((d:Int) + 1)] w fun e w'=>e = .returned (.bool (rightL none f (wth q) (d + 1)))∧Below w.heap.size w w') :
  Calls Tryz.prog 101 #[.slice a l.len cap,.int .i64 at',.int .i64 d] w fun e w'=>e = .returned (.bool (rightL none l at' d))∧Below w.heap.size w w':=by
 have HA:=Lib.hid hl;have HS:=Lib.hid hS;clear hl hS;have hle:=HA.out.le;go_enter Tryz.func101,Tryz.ntmps101;go_wp2
 go_loopw [11] (fun i wr=>∃ n:Nat,n≤l.len∧i = .int .i64 n∧rightL none l at' d = rightL (prevAt l n) (l.drop n) at' d∧Below w.heap.size w wr) (fun i wr=>l.len - (intOf i).toNat)
 case atStart=>exact ⟨0,Nat.zero_le _,rfl,rfl,Below.refl _ _⟩
 case round =>
  obtain ⟨n,hn,rfl,hr,hbw⟩:=hrel;have HR:=Lib.hid hr;have HW:=Lib.hid hbw;clear hr hbw
  by_cases hlt:n < l.len
  ·obtain ⟨k,q,t,o,f,r,hdr⟩:=PL.drop_at hlt;obtain ⟨b1,p1,rfl,hb1,c10,c11,c12,c13,ht,ho,a1,ca1,c14,hl1⟩:=(HA.out.below HW.out).get hdr;have hsz:f.size < l.size:=by
    have:=PL.drop_size n l;rw [hdr] at this;simp only [PL.size] at this;omega
   have hP:∀ dd os,Calls Tryz.prog 129 #[pv k q t o a1 f.len ca1,.int .i64 at',.int .i64 d] (grow (redrawn (wr.alloc (.cells #[.int .i64 k,.bool q,.string t,.string o,.slice a1 f.len ca1] 75)) dd) os) fun e w''=>e = .returned (.bool (partOK k q t o f at' d))∧∃ p:Regrown,w'' = grow (redrawn (wr.alloc (.cells #[.int .i64 k,.bool q,.string t,.string o,.slice a1 f.len ca1] 75)) p.d) p.os:=fun dd os =>
    Calls.regrown_of (rightPart_any k q t o a1 ca1 at' d f _ ht ha hd (hl1.below (thru (bel1 wr _) (below_regrown _ dd os))) (fun w hd h=>HS.out f a1 ca1 q w hsz hd h))
   have hstep:=right_step (at':=at') (d:=d) hdr;have HT:=Lib.hid hstep;have k0:=cell_regrown (w:=wr.alloc (.cells #[.int .i64 k,.bool q,.string t,.string o,.slice a1 f.len ca1] 75)) (a:=⟨wr.heap.size,0,none⟩) (v:=.int .i64 k) (by rw [World.cell?_alloc_at _ _ _ _ rfl];rfl);have k1:=cell_regrown (w:=wr.alloc (.cells #[.int .i64 k,.bool q,.string t,.string o,.slice a1 f.len ca1] 75)) (a:=⟨wr.heap.size,1,none⟩) (v:=.bool q) (by rw [World.cell?_alloc_at _ _ _ _ rfl];rfl);have k2:=cell_regrown (w:=wr.alloc (.cells #[.int .i64 k,.bool q,.string t,.string o,.slice a1 f.len ca1] 75)) (a:=⟨wr.heap.size,2,none⟩) (v:=.string t) (by rw [World.cell?_alloc_at _ _ _ _ rfl];rfl);have k3:=cell_regrown (w:=wr.alloc (.cells #[.int .i64 k,.bool q,.string t,.string o,.slice a1 f.len ca1] 75)) (a:=⟨wr.heap.size,3,none⟩) (v:=.string o) (by rw [World.cell?_alloc_at _ _ _ _ rfl];rfl);have k4:=cell_regrown (w:=wr.alloc (.cells #[.int .i64 k,.bool q,.string t,.string o,.slice a1 f.len ca1] 75)) (a:=⟨wr.heap.size,4,none⟩) (v:=.slice a1 f.len ca1) (by rw [World.cell?_alloc_at _ _ _ _ rfl];rfl);have HBL:=Lib.hid (fun dq osq=>thru HW.out (thru (bel1 wr (.cells #[.int .i64 k,.bool q,.string t,.string o,.slice a1 f.len ca1] 75)) (below_regrown _ dq osq)));have HP:=Lib.hid hP;clear hP hstep;cases h2:((at':Int) == 2 && !q)
   ·have hq0:(at' == 2 && !q) = false:=by rw [← natI2];exact h2
    have HQ:=Lib.hid hq0;clear hq0;have hat:(((at':Int) == 2) = true∧q = true)∨((at':Int) == 2) = false:=by cases h:((at':Int) == 2) <;> cases q <;> simp_all
    clear h2;rcases Nat.eq_zero_or_pos n with h0 | hpos
    ·have HPZ:=Lib.hid (show ((prevAt l n).any fun x=>x.1 == 1 && k == 1 && x.2 == q) = false by rw [h0];rfl);have hz:(n:Int) = 0:=by omega
     have hzz:((n:Int) > 0) = False:=by simp;omega
     have hzy:(0 < n) = False:=by simp;omega
     clear hz h0;cases hp:partOK k q t o f at' d
     all_goals
      have HH:=Lib.hid hp;rw [hp] at HP;clear hp
     ·rcases hat with ⟨hat,rfl⟩ | hat
      all_goals
       go_wp2;refine Qu.region (by kernel_rfl) (by kernel_rfl) ?_
       repeat (first
        | (first | refine Qu.carry0 rfl (fun K hK=>?_) | refine Qu.carryG rfl rfl rfl (fun K hK=>?_)
           go_simp
           first
           | (refine hK _ ?_;clear hK K)
           | (apply Exists.intro;refine ⟨fun _=>?_,hK _ ?_⟩;exact HP.out _ _;clear hK K))
        | (refine Qu.passG rfl rfl rfl (fun K hK=>?_);go_simp;refine hK _ ?_;clear hK K))
       refine Qu.fin ?_;rintro ⟨dq,osq⟩;go_wp2;go_ret;exact ⟨ret_bool (by rw [HR.out,HT.out,HPZ.out,HH.out];simp),HBL.out dq osq⟩
     ·rcases hat with ⟨hat,rfl⟩ | hat
      all_goals
       go_wp2;refine Qu.region (by kernel_rfl) (by kernel_rfl) ?_
       repeat (first
        | (first | refine Qu.carry0 rfl (fun K hK=>?_) | refine Qu.carryG rfl rfl rfl (fun K hK=>?_)
           go_simp
           first
           | (refine hK _ ?_;clear hK K)
           | (apply Exists.intro;refine ⟨fun _=>?_,hK _ ?_⟩;exact HP.out _ _;clear hK K))
        | (refine Qu.passG rfl rfl rfl (fun K hK=>?_);go_simp;refine hK _ ?_;clear hK K))
       refine Qu.fin ?_;rintro ⟨dq,osq⟩;go_wp2;go_roundw
       case rel=>exact ⟨n + 1,by omega,by go_num,by rw [HR.out,HT.out,HPZ.out,HH.out,HQ.out];simp,HBL.out dq osq⟩
       case measure=>simp [intOf];omega
    ·obtain ⟨m,hm⟩:∃ m,n = m + 1:=⟨n - 1,by omega⟩;have hmlt:m < l.len:=by omega
     obtain ⟨k',q',t',o',f',r',hdm⟩:=PL.drop_at hmlt;obtain ⟨b2,p2,hb2,_,c20,c21,c22,c23,_,_,a2,ca2,c24,hl2⟩:=(HA.out.below HW.out).get hdm;obtain ⟨rfl,rfl⟩:b1 = b2∧p1 = p2:=by simpa using hb2
     have hwm:IntKind.i64.wrap ((n:Int) - 1) = (m:Int):=(wrapEq _).trans ((IntWalk.wrap64_in _ ⟨by omega,by omega⟩).trans (by omega));have HPV:=Lib.hid (show ((prevAt l n).any fun x=>x.1 == 1 && k == 1 && x.2 == q) = (k' == 1 && k == 1 && q' == q) by rw [hm];simp [prevAt,hdm]);have HO:=Lib.hid (fun dd os=>Calls.regrown_of (oneText_any k' k q' q t' t o' o a2 a1 f'.len f.len ca2 ca1 (grow (redrawn (wr.alloc (.cells #[.int .i64 k,.bool q,.string t,.string o,.slice a1 f.len ca1] 75)) dd) os)));have HM:=Lib.hid hm;have m0:=cell_re c20 (.cells #[.int .i64 k,.bool q,.string t,.string o,.slice a1 f.len ca1] 75);have m1:=cell_re c21 (.cells #[.int .i64 k,.bool q,.string t,.string o,.slice a1 f.len ca1] 75);have m2:=cell_re c22 (.cells #[.int .i64 k,.bool q,.string t,.string o,.slice a1 f.len ca1] 75);have m3:=cell_re c23 (.cells #[.int .i64 k,.bool q,.string t,.string o,.slice a1 f.len ca1] 75);have m4:=cell_re c24 (.cells #[.int .i64 k,.bool q,.string t,.string o,.slice a1 f.len ca1] 75);clear hb2 hm hdm hl2 c20 c21 c22 c23 c24;cases ho1:(k' == 1 && k == 1 && q' == q)
     ·cases hp:partOK k q t o f at' d
      all_goals
       have HH:=Lib.hid hp;rw [hp] at HP;rw [ho1] at HO HPV;clear hp ho1
      ·rcases hat with ⟨hat,rfl⟩ | hat
       all_goals
        go_wp2;refine Qu.region (by kernel_rfl) (by kernel_rfl) ?_
        repeat (first
         | (first | refine Qu.carry0 rfl (fun K hK=>?_) | refine Qu.carryG rfl rfl rfl (fun K hK=>?_)
            go_simp
            first
            | (refine hK _ ?_;clear hK K)
            | (apply Exists.intro;refine ⟨fun _=>?_,hK _ ?_⟩;(first | (go_at_call 128;exact HO.out _ _) | (go_at_call 129;exact HP.out _ _));clear hK K))
         | (refine Qu.passG rfl rfl rfl (fun K hK=>?_);go_simp;refine hK _ ?_;clear hK K))
        refine Qu.fin ?_;rintro ⟨dq,osq⟩;go_wp2;go_ret;exact ⟨ret_bool (by rw [HR.out,HT.out,HPV.out,HH.out];simp),HBL.out dq osq⟩
      ·rcases hat with ⟨hat,rfl⟩ | hat
       all_goals
        go_wp2;refine Qu.region (by kernel_rfl) (by kernel_rfl) ?_
        repeat (first
         | (first | refine Qu.carry0 rfl (fun K hK=>?_) | refine Qu.carryG rfl rfl rfl (fun K hK=>?_)
            go_simp
            first
            | (refine hK _ ?_;clear hK K)
            | (apply Exists.intro;refine ⟨fun _=>?_,hK _ ?_⟩;(first | (go_at_call 128;exact HO.out _ _) | (go_at_call 129;exact HP.out _ _));clear hK K))
         | (refine Qu.passG rfl rfl rfl (fun K hK=>?_);go_simp;refine hK _ ?_;clear hK K))
        refine Qu.fin ?_;rintro ⟨dq,osq⟩;go_wp2;go_roundw
        case rel=>exact ⟨n + 1,by omega,by go_num,by rw [HR.out,HT.out,HPV.out,HH.out,HQ.out];simp,HBL.out dq osq⟩
        case measure=>simp [intOf];omega
     ·have HH:=Lib.hid (rfl:(1:Nat) = 1);rw [ho1] at HO HPV;clear ho1;rcases hat with ⟨hat,rfl⟩ | hat
      all_goals
       go_wp2;refine Qu.region (by kernel_rfl) (by kernel_rfl) ?_
       repeat (first
        | (first | refine Qu.carry0 rfl (fun K hK=>?_) | refine Qu.carryG rfl rfl rfl (fun K hK=>?_)
           go_simp
           first
           | (refine hK _ ?_;clear hK K)
           | (apply Exists.intro;refine ⟨fun _=>?_,hK _ ?_⟩;(first | (go_at_call 128;exact HO.out _ _) | (go_at_call 129;exact HP.out _ _));clear hK K))
        | (refine Qu.passG rfl rfl rfl (fun K hK=>?_);go_simp;refine hK _ ?_;clear hK K))
       refine Qu.fin ?_;rintro ⟨dq,osq⟩;go_wp2;go_ret;exact ⟨ret_bool (by rw [HR.out,HT.out,HPV.out];simp),HBL.out dq osq⟩
   ·have hq:q = false:=by cases q <;> simp_all
    subst hq;have hat:((at':Int) == 2) = true:=by simpa using h2
    have HH:=Lib.hid (show at' = 2 by have:=beq_iff_eq.1 hat;omega);clear h2 ha;go_wp2;refine Qu.region (by kernel_rfl) (by kernel_rfl) ?_
    repeat (first
     | (first | refine Qu.carry0 rfl (fun K hK=>?_) | refine Qu.carryG rfl rfl rfl (fun K hK=>?_)
        go_simp
        first
        | (refine hK _ ?_;clear hK K)
        | (apply Exists.intro;refine ⟨fun _=>?_,hK _ ?_⟩;fail;clear hK K))
     | (refine Qu.passG rfl rfl rfl (fun K hK=>?_);go_simp;refine hK _ ?_;clear hK K))
    refine Qu.fin ?_;rintro ⟨dq,osq⟩;go_wp2;go_ret;exact ⟨ret_bool (by rw [HR.out,HT.out,HH.out];rfl),HBL.out dq osq⟩
  ·obtain rfl:n = l.len:=by omega
   go_wp2;go_ret;exact ⟨ret_bool (by rw [HR.out,PL.drop_end (Nat.le_refl _)];rfl),HW.out⟩
end Pt
end Go.Proofs.YtjmpfihopeohbaaGreatDoor
namespace Go.Proofs.YtjmpfihopeohbaaGreatDoor
open Go.RowKit Go.Sort
namespace Pt
open Cls
theorem rightParts_any (n:Nat):∀ (l:PL) (a:Option Addr) (cap at' d:Nat) (w:World),l.size < n→at'≤2→d≤1000→Lies w a cap l →
  Calls Tryz.prog 101 #[.slice a l.len cap,.int .i64 at',.int .i64 d] w fun e w'=>e = .returned (.bool (rightL none l at' d))∧Below w.heap.size w w':=by
 induction n with
 | zero=>intro _ _ _ _ _ _ h;omega
 | succ n ih =>
  intro l a cap at' d w hn ha hd hl;refine rightParts_step l a cap at' d w ha hd hl (fun f a cap q w hf hd h=>?_);have:=ih f a cap (wth q) (d + 1) w (by omega) (by cases q <;> simp [wth]) (by omega) h;simpa only [Int.natCast_add,Int.natCast_one] using this
theorem value_any (l:PL) (a:Option Addr) (cap:Nat) (w:World) (hl:Lies w a cap l) :
  Calls Tryz.prog 58 #[.slice a l.len cap] w fun e w'=>e = .returned (.bool (rightL none l 0 1))∧Below w.heap.size w w':=by
 have HV:=Lib.hid (rightParts_any (l.size + 1) l a cap 0 1 w (by omega) (by omega) (by omega) hl);clear hl;go_enter Tryz.func58,Tryz.ntmps58;go_wp2_with (go_at_call 101;refine (HV.out).mono ?_;rintro e w' ⟨rfl,hb⟩);go_ret;exact ⟨rfl,by assumption⟩
def rightW:PL→Bool
 | .nil=>false
 | .cons k q t o f r=>!(k == 1 && !q && Lib.hasPrefix t.data.toList [35]) && rightL none (.cons k q t o f r) 0 1
theorem right_any (l:PL) (a:Option Addr) (cap:Nat) (w:World) (hl:Lies w a cap l) :
  Calls Tryz.prog 108 #[.slice a l.len cap] w fun e w'=>e = .returned (.bool (rightW l))∧Below w.heap.size w w':=by
 have HL:=Lib.hid hl;clear hl;have hle:=HL.out.le;cases l with
 | nil =>
  go_enter Tryz.func108,Tryz.ntmps108;go_wp2_with fail;go_ret;exact ⟨rfl,Below.refl _ _⟩
 | cons k q t o f r =>
  obtain ⟨b1,p1,rfl,hb1,c10,c11,c12,c13,ht,ho,a1,ca1,c14,hl1⟩:=HL.out.get (i:=0) rfl;have hlen:(PL.cons k q t o f r).len = r.len + 1:=rfl;rw [Nat.zero_mul,Nat.add_zero] at c10 c11 c12 c13 c14;have hC:=comment_any k q t o a1 f.len ca1 w;have hgt:(((r.len + 1:Nat):Int) > 0) = True:=by simp
  cases hc:(k == 1 && !q && Lib.hasPrefix t.data.toList [35])
  all_goals
   have HH:=Lib.hid hc;rw [hc] at hC;have HC:=Lib.hid hC;rw [hlen];clear hc hC hl1
  ·have hV:=fun w' (hb:Below w.heap.size w w')=>value_any (.cons k q t o f r) (some ⟨b1,p1,none⟩) cap w' (HL.out.below hb);rw [hlen] at hV;have HV:=Lib.hid hV;clear hV hlen hle;go_enter Tryz.func108,Tryz.ntmps108
   go_wp2_with (first
    | (go_at_call 138;refine (HC.out).mono ?_;rintro e w1 ⟨rfl,hb⟩)
    | (go_at_call 58;refine (HV.out _ (by assumption)).mono ?_;rintro e w' ⟨rfl,hb2⟩))
   go_ret;exact ⟨ret_bool (by simp only [rightW,HH.out];rfl),thru (by assumption) (by assumption)⟩
  ·go_enter Tryz.func108,Tryz.ntmps108;go_wp2_with (go_at_call 138;refine (HC.out).mono ?_;rintro e w1 ⟨rfl,hb⟩);go_ret;exact ⟨ret_bool (by simp only [rightW,HH.out];rfl),by assumption⟩
end Pt
end Go.Proofs.YtjmpfihopeohbaaGreatDoor
