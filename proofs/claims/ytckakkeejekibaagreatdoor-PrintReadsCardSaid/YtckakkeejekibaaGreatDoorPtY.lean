/- The program's small functions on parts: which bytes stand for themselves, names with operators, texts. -/
import Derived.Test.YtckakkeejekibaaGreatDoorPtB
import Derived.Test.YtckakkeejekibaaGreatDoorQTail
set_option maxHeartbeats 4000000
set_option maxRecDepth 1000000
namespace Go.Proofs.YtckakkeejekibaaGreatDoor
open Go.RowKit Go.Sort
namespace Pt
open j6
def qK (n:Nat):Bool:=(n:Int) == 34 || (n:Int) == 36 || (n:Int) == 92 || (n:Int) == 96 || (n:Int) == 125
def gI (n:Nat) (at':Nat):Bool:=if at' = 0 then nO n else !((n:Int) == 39) && !qK n
def dh (q:Bool) (t:List UInt8) (at':Nat):Bool:=if q then (!(at' == 2) || !(t == [])) else (t.all fun c=>gI c.toNat at') && !(t == [])
def isSet (o:List UInt8):Bool:=o == [61] || o == [58,61]
def RP (o:List UInt8):Bool:=o == [] || o == [45] || o == [58,45] || o == [43] || o == [58,43] || o == [63] || o == [58,63]
def jZ (t o:List UInt8):Bool:=if isSet o then bV t else if RP o then iZ t else false
def mX (q:Bool):Nat:=if q then 2 else 1
theorem rT (n:Nat) (w:World) :
  Calls Tryz.prog 132 #[.int .u8 n] w fun e w'=>e = .returned (.bool (qK n))∧w = w':=by
 go_enter Tryz.func132,Tryz.ntmps132;go_wp2_with fail
 all_goals (go_ret;exact ⟨ai (by first | rfl | (simp only [qK, *];done) | (simp only [qK, *];rfl)),rfl⟩)
theorem y9 (n at':Nat) (w:World) :
  Calls Tryz.prog 174 #[.int .u8 n,.int .i64 at'] w fun e w'=>e = .returned (.bool (gI n at'))∧w = w':=by
 by_cases h0:at' = 0
 ·subst h0;go_enter Tryz.func174,Tryz.ntmps174;go_wp2_with (go_at_call 148;refine (vw _ _).mono ?_;rintro e w' ⟨rfl,rfl⟩);go_ret;exact ⟨rfl,rfl⟩
 ·have h1:((at':Int) == 0) = false:=by simp;omega
  have H0:=Lib.hid h0;clear h0;cases hq:(n:Int) == 39
  all_goals
   have lH:((n:Int) != 39) = !((n:Int) == 39):=rfl;rw [hq] at lH;have HQ:=Lib.hid hq;clear hq;go_enter Tryz.func174,Tryz.ntmps174;go_wp2_with (go_at_call 132;refine (rT _ _).mono ?_;rintro e w' ⟨rfl,rfl⟩);go_ret;exact ⟨ai (by simp [gI,H0.out,HQ.out]),rfl⟩
theorem di (k:Int) (q:Bool) (t o:ByteArray) (a:Option Addr) (n cap:Nat) (w:World) :
  Calls Tryz.prog 131 #[pv k q t o a n cap] w fun e w'=>e = .returned (.int .i64 (mX q))∧Below w.heap.size w w':=by
 have HB:=Lib.hid (ax w);unfold pv;cases q
 all_goals
  go_enter Tryz.func131,Tryz.ntmps131;go_wp2_with fail;go_ret;exact ⟨rfl,ax _ _⟩
theorem Fg (k k':Int) (q q':Bool) (t t' o o':ByteArray) (a a':Option Addr) (n n' cap gK:Nat) (w:World) :
  Calls Tryz.prog 128 #[pv k q t o a n cap,pv k' q' t' o' a' n' gK] w fun e w'=>e = .returned (.bool ((k == 1) && (k' == 1) && (q == q')))∧Below w.heap.size w w':=by
 unfold pv;go_enter Tryz.func128,Tryz.ntmps128;go_wp2_with fail
 all_goals go_ret
 all_goals exact ⟨ai (by first | rfl | simp [*]),bY _ _ _⟩
theorem Fh (k:Int) (q:Bool) (t o:ByteArray) (a:Option Addr) (n cap:Nat) (w:World) :
  Calls Tryz.prog 138 #[pv k q t o a n cap] w fun e w'=>e = .returned (.bool ((k == 1) && !q && Lib.hasPrefix t.data.toList [35]))∧Below w.heap.size w w':=by
 unfold pv;go_enter Tryz.func138,Tryz.ntmps138;go_wp2_with (go_at_call 118;refine (Tryz.strings_HasPrefix _ _ _).mono ?_;rintro e w' ⟨rfl,rfl⟩)
 all_goals go_ret
 all_goals exact ⟨ai (by first | rfl | simp [*]),ax _ _⟩
theorem Bj (t o:ByteArray) (w:World) (ht:t.size≤9223372036854775807) :
  Calls Tryz.prog 154 #[.string t,.string o] w fun e w'=>e = .returned (.bool (jZ t.data.toList o.data.toList))∧Below w.heap.size w w':=by
 rw [← Lib.toList_data o];go_enter Tryz.func154,Tryz.ntmps154
 go_wp2_with (first
  | (go_at_call 79;refine (jq _ _ ht).mono ?_;rintro e w' ⟨rfl,rfl⟩)
  | (go_at_call 175;refine (wL _ _ ht).mono ?_;rintro e w' ⟨rfl,hb⟩))
 all_goals go_ret
 all_goals refine ⟨ai ?_,by first | exact Below.refl _ _ | assumption⟩
 all_goals first
  | (exfalso;simp_all;done)
  | (simp_all [jZ,isSet,RP];done)
  | trace_state
theorem aaX (t:ByteArray):(t.toList != []) = !(t.data.toList == []):=by rw [Lib.toList_data];rfl
theorem XC (n:Nat):((n:Int) == 0) = (n == 0):=by rw [Bool.eq_iff_iff];simp
theorem IM (o:ByteArray):(o.data.toList == []) = o.toList.isEmpty:=by rw [Lib.toList_data];cases o.data.toList <;> rfl
theorem Vm {l:List UInt8} {k:Nat} {p:UInt8→Bool} (hk:k < l.length) (hd:p (l.getD k 0) = false):l.all p = false:=by
 rw [List.all_eq_false];simp only [List.getD,List.getElem?_eq_getElem hk,Option.getD_some] at hd;exact ⟨l[k],List.getElem_mem hk,by simp [hd]⟩
theorem OB {l:List UInt8} {k:Nat} {p:UInt8→Bool} (h:(l.take k).all p = true) (hk:k < l.length) (hd:p (l.getD k 0) = true):(l.take (k + 1)).all p = true:=by
 rw [List.take_succ_eq_append_getElem hk,List.all_append,h];simp only [List.getD,List.getElem?_eq_getElem hk,Option.getD_some] at hd;simp [hd]
theorem Bl (k:Int) (q:Bool) (t o:ByteArray) (a:Option Addr) (n cap at':Nat) (w:World) (ht:t.size≤R) (ha:at'≤2) :
  Calls Tryz.prog 153 #[pv k q t o a n cap,.int .i64 at'] w fun e w'=>e = .returned (.bool (dh q t.data.toList at'))∧Below w.heap.size w w':=by
 have Oj:=Lib.hid (aaX t);have ht':t.size≤140737488351232:=ht;clear ht;unfold pv;cases q
 ·go_enter Tryz.func153,Tryz.ntmps153;go_wp2
  go_loopw [18] (fun i wr=>∃ j:Nat,j≤t.size∧i = .int .i64 j∧(t.data.toList.take j).all (fun c=>gI c.toNat at') = true∧wr = w.alloc (.cells #[.int .i64 k,.bool false,.string t,.string o,.slice a n cap] 75)) (fun i wr=>t.size - (intOf i).toNat)
  case atStart=>exact ⟨0,Nat.zero_le _,rfl,rfl,rfl⟩
  case round =>
   obtain ⟨j,hj,rfl,hr,rfl⟩:=hrel;have HR:=Lib.hid hr;clear hr
   by_cases aB:j < t.size
   ·have oG:j < t.data.toList.length:=by simpa using aB
    have HG:=Lib.hid (congrArg UInt8.toNat (uq aB));cases hs:gI t[j].toNat at'
    ·have HS:=Lib.hid hs;go_wp2_with (go_at_call 174;refine (y9 _ _ _).mono ?_;rintro e w' ⟨rfl,rfl⟩);go_ret;exact ⟨ai (by simp [dh,Vm (p:=fun c=>gI c.toNat at') oG (by rw [← HG.out];exact HS.out)]),ax _ _⟩
    ·have HS:=Lib.hid hs;go_wp2_with (go_at_call 174;refine (y9 _ _ _).mono ?_;rintro e w' ⟨rfl,rfl⟩);go_roundw
     case rel=>exact ⟨j + 1,by omega,by go_num,OB HR.out oG (by rw [← HG.out];exact HS.out),trivial⟩
     case measure=>simp [intOf];omega
   ·obtain rfl:j = t.size:=by omega
    have HN:=Lib.hid (iE t);go_wp2;go_ret;exact ⟨ai (by have:=HR.out;rw [List.take_of_length_le (by rw [HN.out];exact Nat.le_refl _)] at this;simp [dh,this,Lib.toList_data]),ax _ _⟩
 ·by_cases h2:at' = 2
  ·subst h2;go_enter Tryz.func153,Tryz.ntmps153;go_wp2;go_ret;exact ⟨ai (by simp [dh,Lib.toList_data]),ax _ _⟩
  ·have Fj:((at':Int) != 2) = true:=by simp;omega
   have H2:=Lib.hid h2;clear h2;go_enter Tryz.func153,Tryz.ntmps153;go_wp2;go_ret;exact ⟨ai (by simp [dh,H2.out]),ax _ _⟩
def rightL:Option (Int × Bool)→PL→Nat→Nat→Bool
 | _,.nil,_,_=>true
 | p,.cons k q t o f r,at',d =>
  !(at' == 2 && !q) && !(p.any fun x=>x.1 == 1 && k == 1 && x.2 == q) &&
   (if k == 1 then (o.data.toList == [] && f.len == 0 && dh q t.data.toList at')
    else if k == 2 then (decide (d≤200) && jZ t.data.toList o.data.toList && (!(o.data.toList == []) || f.len == 0) && rightL none f (mX q) (d + 1)) else false) &&
   rightL (some (k,q)) r at' d
def gm (k:Int) (q:Bool) (t o:ByteArray) (f:PL) (at' d:Nat):Bool :=
 if k == 1 then (o.data.toList == [] && f.len == 0 && dh q t.data.toList at')
 else if k == 2 then (decide (d≤200) && jZ t.data.toList o.data.toList && (!(o.data.toList == []) || f.len == 0) && rightL none f (mX q) (d + 1)) else false
theorem OC (x:Int):IntKind.i64.wrap x = wrap64 x:=by rw [IntKind.wrap_i64,wrap64]
theorem BO (d:Nat) (hd:d≤1000):IntKind.i64.wrap ((d:Int) + 1) = (d:Int) + 1 :=
 (OC _).trans (IntWalk.wrap64_in _ ⟨by omega,by omega⟩)
theorem Bn (k:Int) (q:Bool) (t o:ByteArray) (a:Option Addr) (cap at' d:Nat) (f:PL) (w:World) (ht:t.size≤R) (ha:at'≤2) (hd:d≤1000) (hf:gJ w a cap f)
  (hS:∀ w,d≤200→gJ w a cap f→Calls Tryz.prog 101 #[.slice a f.len cap,.int .i64 (mX q),.int .i64 ((d:Int) + 1)] w fun e w'=>e = .returned (.bool (rightL none f (mX q) (d + 1)))∧Below w.heap.size w w') :
  Calls Tryz.prog 129 #[pv k q t o a f.len cap,.int .i64 at',.int .i64 d] w fun e w'=>e = .returned (.bool (gm k q t o f at' d))∧Below w.heap.size w w':=by
 have HF:=Lib.hid hf;clear hf;have ht':t.size≤9223372036854775807:=Nat.le_trans ht (by decide);have HT:=Lib.hid ht;clear ht;have HOE:=Lib.hid (Lib.toList_data o);have HB:=Lib.hid (ax w)
 by_cases wC:k = 1
 ·subst wC;have hRT:=Bl 1 q t o a f.len cap at' (w.alloc (.cells #[.int .i64 1,.bool q,.string t,.string o,.slice a f.len cap] 75)) HT.out ha;have HRT:=Lib.hid hRT;clear hRT;unfold pv;cases he:o.toList.isEmpty <;> cases hl:((f.len:Int) == 0)
  all_goals
   have HE:=Lib.hid (show o.toList.isEmpty = _∧((f.len:Int) == 0) = _ from ⟨he,hl⟩);go_enter Tryz.func129,Tryz.ntmps129;go_wp2_with (go_at_call 153;refine (HRT.out).mono ?_;rintro e w' ⟨rfl,hb⟩);go_ret;refine ⟨ai ?_,by first | exact ax _ _ | exact ak (ax _ _) (by assumption)⟩;simp only [gm,← XC,IM,HE.out.1,HE.out.2];rfl
 ·by_cases rU:k = 2
  ·subst rU;have hW:∀ dd os,Calls Tryz.prog 131 #[pv 2 q t o a f.len cap] (grow (redrawn (w.alloc (.cells #[.int .i64 2,.bool q,.string t,.string o,.slice a f.len cap] 75)) dd) os) fun e ut=>e = .returned (.int .i64 (mX q))∧∃ p:Regrown,ut = grow (redrawn (w.alloc (.cells #[.int .i64 2,.bool q,.string t,.string o,.slice a f.len cap] 75)) p.d) p.os:=fun dd os =>
    Calls.regrown_of (di 2 q t o a f.len cap _)
   have hN:∀ dd os,Calls Tryz.prog 154 #[.string t,.string o] (grow (redrawn (w.alloc (.cells #[.int .i64 2,.bool q,.string t,.string o,.slice a f.len cap] 75)) dd) os) fun e ut=>e = .returned (.bool (jZ t.data.toList o.data.toList))∧∃ p:Regrown,ut = grow (redrawn (w.alloc (.cells #[.int .i64 2,.bool q,.string t,.string o,.slice a f.len cap] 75)) p.d) p.os:=fun dd os =>
    Calls.regrown_of (Bj t o _ ht')
   have hP:d≤200→∀ dd os,Calls Tryz.prog 101 #[.slice a f.len cap,.int .i64 (mX q),.int .i64 ((d:Int) + 1)] (grow (redrawn (w.alloc (.cells #[.int .i64 2,.bool q,.string t,.string o,.slice a f.len cap] 75)) dd) os) fun e ut=>e = .returned (.bool (rightL none f (mX q) (d + 1)))∧∃ p:Regrown,ut = grow (redrawn (w.alloc (.cells #[.int .i64 2,.bool q,.string t,.string o,.slice a f.len cap] 75)) p.d) p.os:=fun h dd os =>
    Calls.regrown_of (hS _ h (HF.out.below (ak (HB.out _) (below_regrown _ dd os))))
   have HW:=Lib.hid hW;have HN:=Lib.hid hN;have HP:=Lib.hid hP;have HS:=Lib.hid hS;clear hW hN hP hS;have k0:=cell_regrown (w:=w.alloc (.cells #[.int .i64 2,.bool q,.string t,.string o,.slice a f.len cap] 75)) (a:=⟨w.heap.size,0,none⟩) (v:=.int .i64 2) (by rw [World.cell?_alloc_at _ _ _ _ rfl];rfl);have k1:=cell_regrown (w:=w.alloc (.cells #[.int .i64 2,.bool q,.string t,.string o,.slice a f.len cap] 75)) (a:=⟨w.heap.size,1,none⟩) (v:=.bool q) (by rw [World.cell?_alloc_at _ _ _ _ rfl];rfl);have k2:=cell_regrown (w:=w.alloc (.cells #[.int .i64 2,.bool q,.string t,.string o,.slice a f.len cap] 75)) (a:=⟨w.heap.size,2,none⟩) (v:=.string t) (by rw [World.cell?_alloc_at _ _ _ _ rfl];rfl);have k3:=cell_regrown (w:=w.alloc (.cells #[.int .i64 2,.bool q,.string t,.string o,.slice a f.len cap] 75)) (a:=⟨w.heap.size,3,none⟩) (v:=.string o) (by rw [World.cell?_alloc_at _ _ _ _ rfl];rfl);have k4:=cell_regrown (w:=w.alloc (.cells #[.int .i64 2,.bool q,.string t,.string o,.slice a f.len cap] 75)) (a:=⟨w.heap.size,4,none⟩) (v:=.slice a f.len cap) (by rw [World.cell?_alloc_at _ _ _ _ rfl];rfl);have RQ:=fun dq iB=>ak (HB.out (.cells #[.int .i64 2,.bool q,.string t,.string o,.slice a f.len cap] 75)) (below_regrown _ dq iB);have o7:=Lib.hid RQ;clear RQ;have LW:IntKind.i64.wrap ((d:Int) + 1) = (d:Int) + 1:=BO d hd;unfold pv
   by_cases lT:d≤200
   ·have hdI:((d:Int)≤200) = True:=by simp;omega
    have HD:=Lib.hid lT;clear lT;cases hn:jZ t.data.toList o.data.toList
    ·rw [hn] at HN;have HH:=Lib.hid hn;clear hn;go_enter Tryz.func129,Tryz.ntmps129;go_wp2;refine Qu.region (by kernel_rfl) (by kernel_rfl) ?_
     repeat (first
      | (first | refine Qu.eU rfl (fun K hK=>?_) | refine Qu.eT rfl rfl rfl (fun K hK=>?_)
         go_simp
         first
         | (refine hK _ ?_;clear hK K)
         | (apply Exists.intro;refine ⟨fun _=>?_,hK _ ?_⟩;(first | (go_at_call 131;exact HW.out _ _) | (go_at_call 154;exact HN.out _ _) | (go_at_call 101;exact HP.out HD.out _ _));clear hK K))
      | (refine Qu.gQ rfl rfl rfl (fun K hK=>?_);go_simp;refine hK _ ?_;clear hK K))
     refine Qu.fin ?_;rintro ⟨dq,iB⟩;go_wp2;go_ret;exact ⟨ai (by simp [gm,HH.out]),o7.out dq iB⟩
    ·rw [hn] at HN;have BL:=hn;have HH:=Lib.hid BL;clear hn BL;cases he:o.toList.isEmpty
     ·have HE:=Lib.hid (show o.toList.isEmpty = _ from he);go_enter Tryz.func129,Tryz.ntmps129;go_wp2;refine Qu.region (by kernel_rfl) (by kernel_rfl) ?_
      repeat (first
       | (first | refine Qu.eU rfl (fun K hK=>?_) | refine Qu.eT rfl rfl rfl (fun K hK=>?_)
          go_simp
          first
          | (refine hK _ ?_;clear hK K)
          | (apply Exists.intro;refine ⟨fun _=>?_,hK _ ?_⟩;(first | (go_at_call 131;exact HW.out _ _) | (go_at_call 154;exact HN.out _ _) | (go_at_call 101;exact HP.out HD.out _ _));clear hK K))
       | (refine Qu.gQ rfl rfl rfl (fun K hK=>?_);go_simp;refine hK _ ?_;clear hK K))
      refine Qu.fin ?_;rintro ⟨dq,iB⟩;go_wp2;go_ret;exact ⟨ai (by simp only [gm,IM,HE.out,HH.out,HD.out];simp),o7.out dq iB⟩
     ·cases hl:((f.len:Int) == 0)
      all_goals
       have HE:=Lib.hid (show o.toList.isEmpty = _∧((f.len:Int) == 0) = _ from ⟨he,hl⟩);go_enter Tryz.func129,Tryz.ntmps129;go_wp2;refine Qu.region (by kernel_rfl) (by kernel_rfl) ?_
       repeat (first
        | (first | refine Qu.eU rfl (fun K hK=>?_) | refine Qu.eT rfl rfl rfl (fun K hK=>?_)
           go_simp
           first
           | (refine hK _ ?_;clear hK K)
           | (apply Exists.intro;refine ⟨fun _=>?_,hK _ ?_⟩;(first | (go_at_call 131;exact HW.out _ _) | (go_at_call 154;exact HN.out _ _) | (go_at_call 101;exact HP.out HD.out _ _));clear hK K))
        | (refine Qu.gQ rfl rfl rfl (fun K hK=>?_);go_simp;refine hK _ ?_;clear hK K))
       refine Qu.fin ?_;rintro ⟨dq,iB⟩;go_wp2;go_ret;exact ⟨ai (by simp only [gm,IM,← XC,HE.out.1,HE.out.2,HH.out,HD.out];simp),o7.out dq iB⟩
   ·have hdI:((d:Int)≤200) = False:=by simp;omega
    have HD:=Lib.hid lT;clear lT;go_enter Tryz.func129,Tryz.ntmps129;go_wp2;refine Qu.region (by kernel_rfl) (by kernel_rfl) ?_
    repeat (first
     | (first | refine Qu.eU rfl (fun K hK=>?_) | refine Qu.eT rfl rfl rfl (fun K hK=>?_)
        go_simp
        first
        | (refine hK _ ?_;clear hK K)
        | (apply Exists.intro;refine ⟨fun _=>?_,hK _ ?_⟩;(first | (go_at_call 131;exact HW.out _ _) | (go_at_call 154;exact HN.out _ _) | (go_at_call 101;exact HP.out HD.out _ _));clear hK K))
     | (refine Qu.gQ rfl rfl rfl (fun K hK=>?_);go_simp;refine hK _ ?_;clear hK K))
    refine Qu.fin ?_;rintro ⟨dq,iB⟩;go_wp2;go_ret;exact ⟨ai (by simp [gm,HD.out]),o7.out dq iB⟩
  ·have h1:(k == 1) = false:=by simpa using wC
   have h2:(k == 2) = false:=by simpa using rU
   have HK:=Lib.hid (show (k == 1) = false∧(k == 2) = false from ⟨h1,h2⟩);clear wC rU;unfold pv;go_enter Tryz.func129,Tryz.ntmps129;go_wp2_with fail;go_ret;exact ⟨ai (by simp [gm,HK.out.1,HK.out.2]),ax _ _⟩
theorem Fp (n:Nat):((n:Int) == 2) = (n == 2):=by rw [Bool.eq_iff_iff];simp;omega
theorem vD {w:World} {b o:Nat} {v:Value} (h:w.cell? ⟨b,o,none⟩ = some v) (x:Obj) (d:Nat) (os:Array Obj):(grow (redrawn (w.alloc x) d) os).cell? ⟨b,o,none⟩ = some v :=
 cell_regrown (((ax w x).cell (p:=⟨b,o,none⟩) (World.block_lt_of_cell? _ _ h)).trans h) d os
def prevAt (l:PL):Nat→Option (Int × Bool)
 | 0=>none
 | n + 1=>match l.drop n with
  | .nil=>none
  | .cons k q _ _ _ _=>some (k,q)
theorem right_step {l f r:PL} {n at' d:Nat} {k:Int} {q:Bool} {t o:ByteArray} (hd:l.drop n = .cons k q t o f r) :
  rightL (prevAt l n) (l.drop n) at' d = (!(at' == 2 && !q) && !((prevAt l n).any fun x=>x.1 == 1 && k == 1 && x.2 == q) && gm k q t o f at' d && rightL (prevAt l (n + 1)) (l.drop (n + 1)) at' d):=by
 rw [PL.kJ hd]
 conv=>lhs;rw [hd]
 simp only [rightL,prevAt,hd,gm]
theorem yj (l:PL) (a:Option Addr) (cap at' d:Nat) (w:World) (ha:at'≤2) (hd:d≤1000) (hl:gJ w a cap l)
  (hS:∀ (f:PL) (a:Option Addr) (cap:Nat) (q:Bool) (w:World),f.size < l.size→d≤200→gJ w a cap f→Calls Tryz.prog 101 #[.slice a f.len cap,.int .i64 (mX q),.int .i64 ((d:Int) + 1)] w fun e w'=>e = .returned (.bool (rightL none f (mX q) (d + 1)))∧Below w.heap.size w w') :
  Calls Tryz.prog 101 #[.slice a l.len cap,.int .i64 at',.int .i64 d] w fun e w'=>e = .returned (.bool (rightL none l at' d))∧Below w.heap.size w w':=by
 have HA:=Lib.hid hl;have HS:=Lib.hid hS;clear hl hS;have hle:=HA.out.le;go_enter Tryz.func101,Tryz.ntmps101;go_wp2
 go_loopw [11] (fun i wr=>∃ n:Nat,n≤l.len∧i = .int .i64 n∧rightL none l at' d = rightL (prevAt l n) (l.drop n) at' d∧Below w.heap.size w wr) (fun i wr=>l.len - (intOf i).toNat)
 case atStart=>exact ⟨0,Nat.zero_le _,rfl,rfl,Below.refl _ _⟩
 case round =>
  obtain ⟨n,hn,rfl,hr,ja⟩:=hrel;have HR:=Lib.hid hr;have HW:=Lib.hid ja;clear hr ja
  by_cases aB:n < l.len
  ·obtain ⟨k,q,t,o,f,r,hdr⟩:=PL.drop_at aB;obtain ⟨b1,p1,rfl,aP,qG,tY,wM,wN,ht,ho,a1,lJ,wB,mU⟩:=(HA.out.below HW.out).get hdr;have bU:f.size < l.size:=by
    have:=PL.eX n l;rw [hdr] at this;simp only [PL.size] at this;omega
   have hP:∀ dd os,Calls Tryz.prog 129 #[pv k q t o a1 f.len lJ,.int .i64 at',.int .i64 d] (grow (redrawn (wr.alloc (.cells #[.int .i64 k,.bool q,.string t,.string o,.slice a1 f.len lJ] 75)) dd) os) fun e ut=>e = .returned (.bool (gm k q t o f at' d))∧∃ p:Regrown,ut = grow (redrawn (wr.alloc (.cells #[.int .i64 k,.bool q,.string t,.string o,.slice a1 f.len lJ] 75)) p.d) p.os:=fun dd os =>
    Calls.regrown_of (Bn k q t o a1 lJ at' d f _ ht ha hd (mU.below (ak (ax wr _) (below_regrown _ dd os))) (fun w hd h=>HS.out f a1 lJ q w bU hd h))
   have bL:=right_step (at':=at') (d:=d) hdr;have HT:=Lib.hid bL;have k0:=cell_regrown (w:=wr.alloc (.cells #[.int .i64 k,.bool q,.string t,.string o,.slice a1 f.len lJ] 75)) (a:=⟨wr.heap.size,0,none⟩) (v:=.int .i64 k) (by rw [World.cell?_alloc_at _ _ _ _ rfl];rfl);have k1:=cell_regrown (w:=wr.alloc (.cells #[.int .i64 k,.bool q,.string t,.string o,.slice a1 f.len lJ] 75)) (a:=⟨wr.heap.size,1,none⟩) (v:=.bool q) (by rw [World.cell?_alloc_at _ _ _ _ rfl];rfl);have k2:=cell_regrown (w:=wr.alloc (.cells #[.int .i64 k,.bool q,.string t,.string o,.slice a1 f.len lJ] 75)) (a:=⟨wr.heap.size,2,none⟩) (v:=.string t) (by rw [World.cell?_alloc_at _ _ _ _ rfl];rfl);have k3:=cell_regrown (w:=wr.alloc (.cells #[.int .i64 k,.bool q,.string t,.string o,.slice a1 f.len lJ] 75)) (a:=⟨wr.heap.size,3,none⟩) (v:=.string o) (by rw [World.cell?_alloc_at _ _ _ _ rfl];rfl);have k4:=cell_regrown (w:=wr.alloc (.cells #[.int .i64 k,.bool q,.string t,.string o,.slice a1 f.len lJ] 75)) (a:=⟨wr.heap.size,4,none⟩) (v:=.slice a1 f.len lJ) (by rw [World.cell?_alloc_at _ _ _ _ rfl];rfl);have o7:=Lib.hid (fun dq iB=>ak HW.out (ak (ax wr (.cells #[.int .i64 k,.bool q,.string t,.string o,.slice a1 f.len lJ] 75)) (below_regrown _ dq iB)));have HP:=Lib.hid hP;clear hP bL;cases h2:((at':Int) == 2 && !q)
   ·have Uh:(at' == 2 && !q) = false:=by rw [← Fp];exact h2
    have HQ:=Lib.hid Uh;clear Uh;have gT:(((at':Int) == 2) = true∧q = true)∨((at':Int) == 2) = false:=by cases h:((at':Int) == 2) <;> cases q <;> simp_all
    clear h2;rcases Nat.eq_zero_or_pos n with h0 | IP
    ·have HPZ:=Lib.hid (show ((prevAt l n).any fun x=>x.1 == 1 && k == 1 && x.2 == q) = false by rw [h0];rfl);have hz:(n:Int) = 0:=by omega
     have hzz:((n:Int) > 0) = False:=by simp;omega
     have hzy:(0 < n) = False:=by simp;omega
     clear hz h0;cases hp:gm k q t o f at' d
     all_goals
      have HH:=Lib.hid hp;rw [hp] at HP;clear hp
     ·rcases gT with ⟨gT,rfl⟩ | gT
      all_goals
       go_wp2;refine Qu.region (by kernel_rfl) (by kernel_rfl) ?_
       repeat (first
        | (first | refine Qu.eU rfl (fun K hK=>?_) | refine Qu.eT rfl rfl rfl (fun K hK=>?_)
           go_simp
           first
           | (refine hK _ ?_;clear hK K)
           | (apply Exists.intro;refine ⟨fun _=>?_,hK _ ?_⟩;exact HP.out _ _;clear hK K))
        | (refine Qu.gQ rfl rfl rfl (fun K hK=>?_);go_simp;refine hK _ ?_;clear hK K))
       refine Qu.fin ?_;rintro ⟨dq,iB⟩;go_wp2;go_ret;exact ⟨ai (by rw [HR.out,HT.out,HPZ.out,HH.out];simp),o7.out dq iB⟩
     ·rcases gT with ⟨gT,rfl⟩ | gT
      all_goals
       go_wp2;refine Qu.region (by kernel_rfl) (by kernel_rfl) ?_
       repeat (first
        | (first | refine Qu.eU rfl (fun K hK=>?_) | refine Qu.eT rfl rfl rfl (fun K hK=>?_)
           go_simp
           first
           | (refine hK _ ?_;clear hK K)
           | (apply Exists.intro;refine ⟨fun _=>?_,hK _ ?_⟩;exact HP.out _ _;clear hK K))
        | (refine Qu.gQ rfl rfl rfl (fun K hK=>?_);go_simp;refine hK _ ?_;clear hK K))
       refine Qu.fin ?_;rintro ⟨dq,iB⟩;go_wp2;go_roundw
       case rel=>exact ⟨n + 1,by omega,by go_num,by rw [HR.out,HT.out,HPZ.out,HH.out,HQ.out];simp,o7.out dq iB⟩
       case measure=>simp [intOf];omega
    ·obtain ⟨m,hm⟩:∃ m,n = m + 1:=⟨n - 1,by omega⟩;have aaZ:m < l.len:=by omega
     obtain ⟨k',q',t',o',f',r',hdm⟩:=PL.drop_at aaZ;obtain ⟨b2,p2,d9,_,Oi,WH,ZU,ZV,_,_,a2,sZ,ZW,Ba⟩:=(HA.out.below HW.out).get hdm;obtain ⟨rfl,rfl⟩:b1 = b2∧p1 = p2:=by simpa using d9
     have XD:IntKind.i64.wrap ((n:Int) - 1) = (m:Int):=(OC _).trans ((IntWalk.wrap64_in _ ⟨by omega,by omega⟩).trans (by omega));have XE:=Lib.hid (show ((prevAt l n).any fun x=>x.1 == 1 && k == 1 && x.2 == q) = (k' == 1 && k == 1 && q' == q) by rw [hm];simp [prevAt,hdm]);have HO:=Lib.hid (fun dd os=>Calls.regrown_of (Fg k' k q' q t' t o' o a2 a1 f'.len f.len sZ lJ (grow (redrawn (wr.alloc (.cells #[.int .i64 k,.bool q,.string t,.string o,.slice a1 f.len lJ] 75)) dd) os)));have HM:=Lib.hid hm;have m0:=vD Oi (.cells #[.int .i64 k,.bool q,.string t,.string o,.slice a1 f.len lJ] 75);have m1:=vD WH (.cells #[.int .i64 k,.bool q,.string t,.string o,.slice a1 f.len lJ] 75);have m2:=vD ZU (.cells #[.int .i64 k,.bool q,.string t,.string o,.slice a1 f.len lJ] 75);have m3:=vD ZV (.cells #[.int .i64 k,.bool q,.string t,.string o,.slice a1 f.len lJ] 75);have m4:=vD ZW (.cells #[.int .i64 k,.bool q,.string t,.string o,.slice a1 f.len lJ] 75);clear d9 hm hdm Ba Oi WH ZU ZV ZW;cases jJ:(k' == 1 && k == 1 && q' == q)
     ·cases hp:gm k q t o f at' d
      all_goals
       have HH:=Lib.hid hp;rw [hp] at HP;rw [jJ] at HO XE;clear hp jJ
      ·rcases gT with ⟨gT,rfl⟩ | gT
       all_goals
        go_wp2;refine Qu.region (by kernel_rfl) (by kernel_rfl) ?_
        repeat (first
         | (first | refine Qu.eU rfl (fun K hK=>?_) | refine Qu.eT rfl rfl rfl (fun K hK=>?_)
            go_simp
            first
            | (refine hK _ ?_;clear hK K)
            | (apply Exists.intro;refine ⟨fun _=>?_,hK _ ?_⟩;(first | (go_at_call 128;exact HO.out _ _) | (go_at_call 129;exact HP.out _ _));clear hK K))
         | (refine Qu.gQ rfl rfl rfl (fun K hK=>?_);go_simp;refine hK _ ?_;clear hK K))
        refine Qu.fin ?_;rintro ⟨dq,iB⟩;go_wp2;go_ret;exact ⟨ai (by rw [HR.out,HT.out,XE.out,HH.out];simp),o7.out dq iB⟩
      ·rcases gT with ⟨gT,rfl⟩ | gT
       all_goals
        go_wp2;refine Qu.region (by kernel_rfl) (by kernel_rfl) ?_
        repeat (first
         | (first | refine Qu.eU rfl (fun K hK=>?_) | refine Qu.eT rfl rfl rfl (fun K hK=>?_)
            go_simp
            first
            | (refine hK _ ?_;clear hK K)
            | (apply Exists.intro;refine ⟨fun _=>?_,hK _ ?_⟩;(first | (go_at_call 128;exact HO.out _ _) | (go_at_call 129;exact HP.out _ _));clear hK K))
         | (refine Qu.gQ rfl rfl rfl (fun K hK=>?_);go_simp;refine hK _ ?_;clear hK K))
        refine Qu.fin ?_;rintro ⟨dq,iB⟩;go_wp2;go_roundw
        case rel=>exact ⟨n + 1,by omega,by go_num,by rw [HR.out,HT.out,XE.out,HH.out,HQ.out];simp,o7.out dq iB⟩
        case measure=>simp [intOf];omega
     ·have HH:=Lib.hid (rfl:(1:Nat) = 1);rw [jJ] at HO XE;clear jJ;rcases gT with ⟨gT,rfl⟩ | gT
      all_goals
       go_wp2;refine Qu.region (by kernel_rfl) (by kernel_rfl) ?_
       repeat (first
        | (first | refine Qu.eU rfl (fun K hK=>?_) | refine Qu.eT rfl rfl rfl (fun K hK=>?_)
           go_simp
           first
           | (refine hK _ ?_;clear hK K)
           | (apply Exists.intro;refine ⟨fun _=>?_,hK _ ?_⟩;(first | (go_at_call 128;exact HO.out _ _) | (go_at_call 129;exact HP.out _ _));clear hK K))
        | (refine Qu.gQ rfl rfl rfl (fun K hK=>?_);go_simp;refine hK _ ?_;clear hK K))
       refine Qu.fin ?_;rintro ⟨dq,iB⟩;go_wp2;go_ret;exact ⟨ai (by rw [HR.out,HT.out,XE.out];simp),o7.out dq iB⟩
   ·have hq:q = false:=by cases q <;> simp_all
    subst hq;have gT:((at':Int) == 2) = true:=by simpa using h2
    have HH:=Lib.hid (show at' = 2 by have:=beq_iff_eq.1 gT;omega);clear h2 ha;go_wp2;refine Qu.region (by kernel_rfl) (by kernel_rfl) ?_
    repeat (first
     | (first | refine Qu.eU rfl (fun K hK=>?_) | refine Qu.eT rfl rfl rfl (fun K hK=>?_)
        go_simp
        first
        | (refine hK _ ?_;clear hK K)
        | (apply Exists.intro;refine ⟨fun _=>?_,hK _ ?_⟩;fail;clear hK K))
     | (refine Qu.gQ rfl rfl rfl (fun K hK=>?_);go_simp;refine hK _ ?_;clear hK K))
    refine Qu.fin ?_;rintro ⟨dq,iB⟩;go_wp2;go_ret;exact ⟨ai (by rw [HR.out,HT.out,HH.out];rfl),o7.out dq iB⟩
  ·obtain rfl:n = l.len:=by omega
   go_wp2;go_ret;exact ⟨ai (by rw [HR.out,PL.fo (Nat.le_refl _)];rfl),HW.out⟩
theorem za (n:Nat):∀ (l:PL) (a:Option Addr) (cap at' d:Nat) (w:World),l.size < n→at'≤2→d≤1000→gJ w a cap l →
  Calls Tryz.prog 101 #[.slice a l.len cap,.int .i64 at',.int .i64 d] w fun e w'=>e = .returned (.bool (rightL none l at' d))∧Below w.heap.size w w':=by
 induction n with
 | zero=>intro _ _ _ _ _ _ h;omega
 | succ n ih =>
  intro l a cap at' d w hn ha hd hl;refine yj l a cap at' d w ha hd hl (fun f a cap q w hf hd h=>?_);have:=ih f a cap (mX q) (d + 1) w (by omega) (by cases q <;> simp [mX]) (by omega) h;simpa only [Int.natCast_add,Int.natCast_one] using this
theorem wQ (l:PL) (a:Option Addr) (cap:Nat) (w:World) (hl:gJ w a cap l) :
  Calls Tryz.prog 58 #[.slice a l.len cap] w fun e w'=>e = .returned (.bool (rightL none l 0 1))∧Below w.heap.size w w':=by
 have HV:=Lib.hid (za (l.size + 1) l a cap 0 1 w (by omega) (by omega) (by omega) hl);clear hl;go_enter Tryz.func58,Tryz.ntmps58;go_wp2_with (go_at_call 101;refine (HV.out).mono ?_;rintro e w' ⟨rfl,hb⟩);go_ret;exact ⟨rfl,by assumption⟩
def aG:PL→Bool
 | .nil=>false
 | .cons k q t o f r=>!(k == 1 && !q && Lib.hasPrefix t.data.toList [35]) && rightL none (.cons k q t o f r) 0 1
theorem LX (l:PL) (a:Option Addr) (cap:Nat) (w:World) (hl:gJ w a cap l) :
  Calls Tryz.prog 108 #[.slice a l.len cap] w fun e w'=>e = .returned (.bool (aG l))∧Below w.heap.size w w':=by
 have HL:=Lib.hid hl;clear hl;have hle:=HL.out.le;cases l with
 | nil =>
  go_enter Tryz.func108,Tryz.ntmps108;go_wp2_with fail;go_ret;exact ⟨rfl,Below.refl _ _⟩
 | cons k q t o f r =>
  obtain ⟨b1,p1,rfl,aP,qG,tY,wM,wN,ht,ho,a1,lJ,wB,mU⟩:=HL.out.get (i:=0) rfl;have hlen:(PL.cons k q t o f r).len = r.len + 1:=rfl;rw [Nat.zero_mul,Nat.add_zero] at qG tY wM wN wB;have hC:=Fh k q t o a1 f.len lJ w;have Ri:(((r.len + 1:Nat):Int) > 0) = True:=by simp
  cases hc:(k == 1 && !q && Lib.hasPrefix t.data.toList [35])
  all_goals
   have HH:=Lib.hid hc;rw [hc] at hC;have HC:=Lib.hid hC;rw [hlen];clear hc hC mU
  ·have hV:=fun w' (hb:Below w.heap.size w w')=>wQ (.cons k q t o f r) (some ⟨b1,p1,none⟩) cap w' (HL.out.below hb);rw [hlen] at hV;have HV:=Lib.hid hV;clear hV hlen hle;go_enter Tryz.func108,Tryz.ntmps108
   go_wp2_with (first
    | (go_at_call 138;refine (HC.out).mono ?_;rintro e w1 ⟨rfl,hb⟩)
    | (go_at_call 58;refine (HV.out _ (by assumption)).mono ?_;rintro e w' ⟨rfl,d9⟩))
   go_ret;exact ⟨ai (by simp only [aG,HH.out];rfl),ak (by assumption) (by assumption)⟩
  ·go_enter Tryz.func108,Tryz.ntmps108;go_wp2_with (go_at_call 138;refine (HC.out).mono ?_;rintro e w1 ⟨rfl,hb⟩);go_ret;exact ⟨ai (by simp only [aG,HH.out];rfl),by assumption⟩
end Pt
end Go.Proofs.YtckakkeejekibaaGreatDoor
