/- Words that are right, a command's first word, a simple command, a loop's head. -/
import Derived.Test.YtjmpfihopeohbaaGreatDoorTrF
set_option maxHeartbeats 1600000
set_option maxRecDepth 100000
namespace Go.Proofs.YtjmpfihopeohbaaGreatDoor
open Go.RowKit Go.Sort
namespace Tr
open Cls Pt
theorem rightWords_any (l:List PL) (a:Option Addr) (cap:Nat) (w:World) (hl:Sl 1 (PW w) a cap l) :
  Calls Tryz.prog 76 #[.slice a l.length cap] w fun e w'=>e = .returned (.bool (l.all rightW))∧Below w.heap.size w w':=by
 have hle:=hl.le;have HL:=Lib.hid hl;clear hl;go_enter Tryz.func76,Tryz.ntmps76;go_wp2
 go_loopw [7] (fun x wr=>∃ n:Nat,n≤l.length∧x = .int .i64 n∧l.all rightW = (l.drop n).all rightW∧Below w.heap.size w wr) (fun x wr=>l.length - (intOf x).toNat)
 case atStart=>exact ⟨0,Nat.zero_le _,rfl,rfl,Below.refl _ _⟩
 case round =>
  obtain ⟨n,hn,rfl,hr,hbw⟩:=hrel;have HR:=Lib.hid hr;have HW:=Lib.hid hbw;clear hr hbw
  by_cases hlt:n < l.length
  ·obtain ⟨b1,o1,rfl,a1,c1,e1,hl1⟩:=(sl_below (P:=PW) (fun h=>h.below HW.out) HL.out).get (List.getElem?_eq_getElem hlt);rw [Nat.mul_one] at e1;have hC:=right_any l[n] a1 c1 wr hl1;have hstep:l.all rightW = (rightW l[n] && (l.drop (n + 1)).all rightW):=by rw [HR.out,List.drop_eq_getElem_cons hlt];rfl
   generalize l[n] = x at *
   have HT:=Lib.hid hstep;clear hl1 hstep;cases hx:rightW x
   all_goals
    rw [hx] at hC HT;have HC:=Lib.hid hC;clear hC hx
   ·go_wp2_with (go_at_call 108;refine (HC.out).mono ?_;rintro e w' ⟨rfl,hb⟩);go_ret;exact ⟨ret_bool (by rw [HT.out];rfl),thru HW.out (by assumption)⟩
   ·go_wp2_with (go_at_call 108;refine (HC.out).mono ?_;rintro e w' ⟨rfl,hb⟩);go_roundw
    case rel=>exact ⟨n + 1,by omega,by go_num,by rw [HT.out];rfl,thru HW.out (by assumption)⟩
    case measure=>simp [intOf];omega
  ·obtain rfl:n = l.length:=by omega
   go_wp2;go_ret;exact ⟨ret_bool (by rw [HR.out,List.drop_eq_nil_of_le (Nat.le_refl _)];rfl),HW.out⟩
def wOK (l:PL):Prop:=l.size≤1000000∧∀ k q t o f r,l = .cons k q t o f r→t.size≤1000000
def firstB (l:PL) (behind:Bool):Bool:=!(Sp.splitP l).isSome && (behind || !Sp.plainB l || !reservedL (Sp.plainT l).data.toList)
theorem rightFirst_any (l:PL) (behind:Bool) (a:Option Addr) (cap:Nat) (m:Int) (w:World) (hl:Lies w a cap l) (hok:wOK l) (hm:w.cell? ⟨0,0,none⟩ = some (.int .i64 m)) :
  Calls Tryz.prog 107 #[.slice a l.len cap,.bool behind] w fun e w'=>e = .returned (.bool (firstB l behind))∧Below w.heap.size w w':=by
 cases hs:Sp.splitP l with
 | some n =>
  cases l with
  | nil=>cases hs
  | cons k q t o f r =>
   have hS:=Sp.split_yes k q t o f r n a cap m w hl hok.1 (hok.2 _ _ _ _ _ _ rfl) hm hs;have hF:firstB (.cons k q t o f r) behind = false:=by simp [firstB,hs]
   have HS:=Lib.hid hS;have HF:=Lib.hid hF;have hlen:(PL.cons k q t o f r).len = r.len + 1:=rfl;rw [hlen];clear hS hF hl hm hs hok hlen;go_enter Tryz.func107,Tryz.ntmps107;go_wp2_with (go_at_call 137;refine (HS.out).mono ?_;rintro e w1 ⟨⟨a',cap',rfl,_⟩,hb⟩);go_ret;exact ⟨ret_bool HF.out.symm,by assumption⟩
 | none =>
  have hS:=Sp.split_no l a cap m w hl hok.1 hok.2 hm hs;have hP:=fun w' (hb:Below w.heap.size w w')=>Sp.plain_any l a cap w' (hl.below hb);have HS:=Lib.hid hS;have HP:=Lib.hid hP;clear hS hP hl hm;unfold firstB;rw [hs];generalize Sp.plainT l = T at *
  have HRV:=Lib.hid (fun w=>reserved_any T w);cases behind
  ·cases hp:Sp.plainB l
   ·rw [hp] at HP;clear hp hs hok;go_enter Tryz.func107,Tryz.ntmps107
    go_wp2_with (first
     | (go_at_call 137;refine (HS.out).mono ?_;rintro e w1 ⟨rfl,hb⟩)
     | (go_at_call 94;refine (HP.out _ (by assumption)).mono ?_;rintro e w2 ⟨rfl,rfl⟩))
    go_ret;exact ⟨ret_bool rfl,by assumption⟩
   ·rw [hp] at HP;cases hv:reservedL T.data.toList
    all_goals
     rw [hv] at HRV;clear hp hs hok hv;go_enter Tryz.func107,Tryz.ntmps107
     go_wp2_with (first
      | (go_at_call 137;refine (HS.out).mono ?_;rintro e w1 ⟨rfl,hb⟩)
      | (go_at_call 94;refine (HP.out _ (by assumption)).mono ?_;rintro e w2 ⟨rfl,rfl⟩)
      | (go_at_call 80;refine (HRV.out _).mono ?_;rintro e w3 ⟨rfl,rfl⟩))
     go_ret;exact ⟨ret_bool rfl,by assumption⟩
  ·clear hs hok;cases hp:Sp.plainB l
   all_goals
    rw [hp] at HP;clear hp;go_enter Tryz.func107,Tryz.ntmps107
    go_wp2_with (first
     | (go_at_call 137;refine (HS.out).mono ?_;rintro e w1 ⟨rfl,hb⟩)
     | (go_at_call 94;refine (HP.out _ (by assumption)).mono ?_;rintro e w2 ⟨rfl,rfl⟩))
    go_ret;exact ⟨ret_bool rfl,by assumption⟩
end Tr
end Go.Proofs.YtjmpfihopeohbaaGreatDoor
namespace Go.Proofs.YtjmpfihopeohbaaGreatDoor
open Go.RowKit Go.Sort
namespace Tr
open Cls Pt
def assignB (x:ByteArray × PL):Bool:=nameL x.1.data.toList && rightL none x.2 0 1
def simpleB (az:List (ByteArray × PL)) (ws:List PL):Bool :=
 az.all assignB && match ws with
  | []=>decide (0 < az.length)
  | l :: r=>firstB l (decide (0 < az.length)) && (l :: r).all rightW
theorem rightSimple_any (k:Int) (nm:ByteArray) (g:Bool) (az:List (ByteArray × PL)) (ws:List PL) (ks:NL) (bs:List Bool) (cz:NL) (x1 d1 x2 d2 x3 d3 x4 d4 x5 d5) (m:Int) (w:World) (h:Holds w nm az ws ks bs cz x1 d1 x2 d2 x3 d3 x4 d4 x5 d5) (hok:∀ l ∈ ws,wOK l) (hm:w.cell? ⟨0,0,none⟩ = some (.int .i64 m)) :
  Calls Tryz.prog 70 #[.agg (nodeV k nm g x1 az.length d1 x2 ws.length d2 x3 ks.len d3 x4 bs.length d4 x5 cz.len d5)] w fun e w'=>e = .returned (.bool (simpleB az ws))∧Below w.heap.size w w':=by
 have hla:=h.haz.le;have hlw:=h.hws.le;have hb0:=bel1 w (.cells #[.int .i64 k,.string nm,.bool g,.slice x1 az.length d1,.slice x2 ws.length d2,.slice x3 ks.len d3,.slice x4 bs.length d4,.slice x5 cz.len d5] 28);have hrow:(w.alloc (.cells #[.int .i64 k,.string nm,.bool g,.slice x1 az.length d1,.slice x2 ws.length d2,.slice x3 ks.len d3,.slice x4 bs.length d4,.slice x5 cz.len d5] 28)).heap[w.heap.size]? = some (.cells #[.int .i64 k,.string nm,.bool g,.slice x1 az.length d1,.slice x2 ws.length d2,.slice x3 ks.len d3,.slice x4 bs.length d4,.slice x5 cz.len d5] 28 (0,0)):=heap_new' _ _;have hlt0:w.heap.size < (w.alloc (.cells #[.int .i64 k,.string nm,.bool g,.slice x1 az.length d1,.slice x2 ws.length d2,.slice x3 ks.len d3,.slice x4 bs.length d4,.slice x5 cz.len d5] 28)).heap.size:=by simp only [World.size_alloc];omega
 have hmw:=fun w' (hb:Below w.heap.size w w')=>cell_below hb hm;have HA:=Lib.hid h.haz;have HWS:=Lib.hid h.hws;have HROW:=Lib.hid hrow;have HB0:=Lib.hid hb0;have HM:=Lib.hid hmw;have HOK:=Lib.hid hok;have HLT:=Lib.hid hlt0;clear h hrow hb0 hm hmw hok hlt0;unfold nodeV;go_enter Tryz.func70,Tryz.ntmps70;go_wp2;generalize hW0:w.alloc (.cells #[.int .i64 k,.string nm,.bool g,.slice x1 az.length d1,.slice x2 ws.length d2,.slice x3 ks.len d3,.slice x4 bs.length d4,.slice x5 cz.len d5] 28) = W0 at *
 clear hW0
 go_loopw [8] (fun x wr=>∃ n:Nat,n≤az.length∧x = .int .i64 n∧az.all assignB = (az.drop n).all assignB∧Below W0.heap.size W0 wr) (fun x wr=>az.length - (intOf x).toNat)
 case atStart=>exact ⟨0,Nat.zero_le _,rfl,rfl,Below.refl _ _⟩
 case round =>
  obtain ⟨n,hn,rfl,hr,hbw⟩:=hrel;have hbww:=thru HB0.out hbw;have HR:=Lib.hid hr;have HW:=Lib.hid hbw;have HWW:=Lib.hid hbww;clear hr hbw hbww
  by_cases hlt:n < az.length
  ·obtain ⟨b1,o1,rfl,e1,hsz,a1,c1,e2,hl1⟩:=(sl_below (P:=PA) (fun h=>h.below HWW.out) HA.out).get (List.getElem?_eq_getElem hlt);have hb1:=World.block_lt_of_cell? _ _ e1;have hN:=fun w=>name_any az[n].1 w (by unfold R at hsz;omega);have hV:=fun X=>value_any az[n].2 a1 c1 (wr.alloc X) (hl1.below (bel1 wr X));have hstep:az.all assignB = (assignB az[n] && (az.drop (n + 1)).all assignB):=by rw [HR.out,List.drop_eq_getElem_cons hlt];rfl
   have hAB:assignB az[n] = (nameL az[n].1.data.toList && rightL none az[n].2 0 1):=rfl;rw [hAB] at hstep;generalize az[n].1 = t1 at *
   generalize az[n].2 = l1 at *
   have HT:=Lib.hid hstep;clear hl1 hstep hAB;cases hx:nameL t1.data.toList
   ·rw [hx] at hN HT;have HN:=Lib.hid hN;have HV:=Lib.hid hV;clear hN hV hx;go_wp2_with (go_at_call 79;refine (HN.out _).mono ?_;rintro e w' ⟨rfl,rfl⟩);go_ret;exact ⟨ret_bool (by unfold simpleB;rw [HT.out];rfl),thru HWW.out (bel1 _ _)⟩
   ·rw [hx] at hN HT;cases hy:rightL none l1 0 1
    all_goals
     rw [hy] at hV HT;have HN:=Lib.hid hN;have HV:=Lib.hid hV;clear hN hV hx hy
     go_wp2_with (first
      | (go_at_call 79;refine (HN.out _).mono ?_;rintro e w' ⟨rfl,rfl⟩)
      | (go_at_call 58;refine (HV.out _).mono ?_;rintro e w2 ⟨rfl,hb⟩))
    ·go_ret;exact ⟨ret_bool (by unfold simpleB;rw [HT.out];rfl),thru HWW.out (thru (bel1 _ _) (by assumption))⟩
    ·go_roundw
     case rel=>exact ⟨n + 1,by omega,by go_num,by rw [HT.out];rfl,thru HW.out (thru (bel1 _ _) (by assumption))⟩
     case measure=>simp [intOf];omega
  ·obtain rfl:n = az.length:=by omega
   have hall:az.all assignB = true:=by rw [HR.out,List.drop_eq_nil_of_le (Nat.le_refl _)];rfl
   have hrw:=(HW.out.block _ HLT.out).trans HROW.out;have b3:=zc3 hrw;have b4:=zc4 hrw;have HALL:=Lib.hid hall;clear hall hrw;cases ws with
   | nil =>
    by_cases h0:0 < az.length
    all_goals
     go_wp2_with fail;go_ret;exact ⟨ret_bool (by unfold simpleB;rw [HALL.out];simp [h0]),HWW.out⟩
   | cons l r =>
    obtain ⟨bw,ow,rfl,aw,cw,ew,hlw1⟩:=(sl_below (P:=PW) (fun h=>h.below HWW.out) HWS.out).get (n:=0) (t:=l) rfl;rw [Nat.zero_mul,Nat.add_zero] at ew;have hbw:=World.block_lt_of_cell? _ _ ew;have hz:(((l :: r).length:Int) == 0) = false:=by simp;omega
    have hlen1:0 < (l :: r).length:=by simp
    have hF:=fun dd os=>Calls.regrown_of (rightFirst_any l (decide (0 < az.length)) aw cw m (grow (redrawn wr dd) os) (hlw1.below (below_regrown wr dd os)) (HOK.out l (List.mem_cons_self ..)) (HM.out _ (thru HWW.out (below_regrown wr dd os))));have hG:=fun dd os=>Calls.regrown_of (rightWords_any (l :: r) (some ⟨bw,ow,none⟩) d2 (grow (redrawn wr dd) os) (sl_below (P:=PW) (fun h=>h.below (thru HWW.out (below_regrown wr dd os))) HWS.out));have hans:simpleB az (l :: r) = (firstB l (decide (0 < az.length)) && (l :: r).all rightW):=by unfold simpleB;rw [HALL.out];rfl
    have HANS:=Lib.hid hans;have HBL:=Lib.hid (fun dq osq=>thru HWW.out (below_regrown wr dq osq));generalize (l :: r).length = L at *
    have q3:=cell_regrown b3;have q4:=cell_regrown b4;have qw:=cell_regrown ew;have hB:∃ B:Bool,decide (0 < az.length) = B∧((0 < az.length) = (B = true)):=⟨_,rfl,by simp⟩;obtain ⟨B,hB,hB2⟩:=hB;rw [hB] at hF HANS;clear hB;cases B
    all_goals
     simp only [Bool.false_eq_true,eq_self_iff_true] at hB2;cases hf:firstB l _
    ·rw [hf] at hF HANS;have HF:=Lib.hid hF;clear hF hG hf;go_wp2_with fail;refine Qu.region (by kernel_rfl) (by kernel_rfl) ?_
     repeat (first
      | (first | refine Qu.carry0 rfl (fun K hK=>?_) | refine Qu.carryG rfl rfl rfl (fun K hK=>?_)
         go_simp
         first
         | (refine hK _ ?_;clear hK K)
         | (apply Exists.intro;refine ⟨fun _=>?_,hK _ ?_⟩;(go_at_call 107;exact HF.out _ _);clear hK K))
      | (refine Qu.passG rfl rfl rfl (fun K hK=>?_);go_simp;refine hK _ ?_;clear hK K))
     refine Qu.fin ?_;rintro ⟨dq,osq⟩;go_wp2_with fail;go_ret;exact ⟨ret_bool (by rw [HANS.out];rfl),HBL.out dq osq⟩
    ·rw [hf] at hF HANS;have HF:=Lib.hid hF;cases hg:(l :: r).all rightW
     all_goals
      rw [hg] at hG HANS;have HG:=Lib.hid hG;clear hF hG hf hg;go_wp2_with fail;refine Qu.region (by kernel_rfl) (by kernel_rfl) ?_
      repeat (first
       | (first | refine Qu.carry0 rfl (fun K hK=>?_) | refine Qu.carryG rfl rfl rfl (fun K hK=>?_)
          go_simp
          first
          | (refine hK _ ?_;clear hK K)
          | (apply Exists.intro;refine ⟨fun _=>?_,hK _ ?_⟩;(first | (go_at_call 107;exact HF.out _ _) | (go_at_call 76;exact HG.out _ _));clear hK K))
       | (refine Qu.passG rfl rfl rfl (fun K hK=>?_);go_simp;refine hK _ ?_;clear hK K))
      refine Qu.fin ?_;rintro ⟨dq,osq⟩;go_wp2_with fail;go_ret;exact ⟨ret_bool (by rw [HANS.out];rfl),HBL.out dq osq⟩
    ·rw [hf] at hF HANS;have HF:=Lib.hid hF;clear hF hG hf;go_wp2_with fail;refine Qu.region (by kernel_rfl) (by kernel_rfl) ?_
     repeat (first
      | (first | refine Qu.carry0 rfl (fun K hK=>?_) | refine Qu.carryG rfl rfl rfl (fun K hK=>?_)
         go_simp
         first
         | (refine hK _ ?_;clear hK K)
         | (apply Exists.intro;refine ⟨fun _=>?_,hK _ ?_⟩;(go_at_call 107;exact HF.out _ _);clear hK K))
      | (refine Qu.passG rfl rfl rfl (fun K hK=>?_);go_simp;refine hK _ ?_;clear hK K))
     refine Qu.fin ?_;rintro ⟨dq,osq⟩;go_wp2_with fail;go_ret;exact ⟨ret_bool (by rw [HANS.out];rfl),HBL.out dq osq⟩
    ·rw [hf] at hF HANS;have HF:=Lib.hid hF;cases hg:(l :: r).all rightW
     all_goals
      rw [hg] at hG HANS;have HG:=Lib.hid hG;clear hF hG hf hg;go_wp2_with fail;refine Qu.region (by kernel_rfl) (by kernel_rfl) ?_
      repeat (first
       | (first | refine Qu.carry0 rfl (fun K hK=>?_) | refine Qu.carryG rfl rfl rfl (fun K hK=>?_)
          go_simp
          first
          | (refine hK _ ?_;clear hK K)
          | (apply Exists.intro;refine ⟨fun _=>?_,hK _ ?_⟩;(first | (go_at_call 107;exact HF.out _ _) | (go_at_call 76;exact HG.out _ _));clear hK K))
       | (refine Qu.passG rfl rfl rfl (fun K hK=>?_);go_simp;refine hK _ ?_;clear hK K))
      refine Qu.fin ?_;rintro ⟨dq,osq⟩;go_wp2_with fail;go_ret;exact ⟨ret_bool (by rw [HANS.out];rfl),HBL.out dq osq⟩
end Tr
end Go.Proofs.YtjmpfihopeohbaaGreatDoor
namespace Go.Proofs.YtjmpfihopeohbaaGreatDoor
open Go.RowKit Go.Sort
namespace Tr
open Cls Pt
def forB (nm:ByteArray) (g:Bool) (ws:List PL):Bool:=nameL nm.data.toList && (g || decide (ws.length = 0)) && ws.all rightW
theorem rightFor_any (k:Int) (nm:ByteArray) (g:Bool) (az:List (ByteArray × PL)) (ws:List PL) (ks:NL) (bs:List Bool) (cz:NL) (x1 d1 x2 d2 x3 d3 x4 d4 x5 d5) (w:World) (h:Holds w nm az ws ks bs cz x1 d1 x2 d2 x3 d3 x4 d4 x5 d5) :
  Calls Tryz.prog 75 #[.agg (nodeV k nm g x1 az.length d1 x2 ws.length d2 x3 ks.len d3 x4 bs.length d4 x5 cz.len d5)] w fun e w'=>e = .returned (.bool (forB nm g ws))∧Below w.heap.size w w':=by
 have hN:=fun w=>name_any nm w (by have:=h.hnm;unfold R at this;omega);have hG:=fun X=>rightWords_any ws x2 d2 (w.alloc X) (sl_below (P:=PW) (fun h=>h.below (bel1 w X)) h.hws);clear h;unfold nodeV forB;cases hn:nameL nm.data.toList
 ·rw [hn] at hN;have HN:=Lib.hid hN;clear hN hG hn;go_enter Tryz.func75,Tryz.ntmps75;go_wp2_with (go_at_call 79;refine (HN.out _).mono ?_;rintro e w' ⟨rfl,rfl⟩);go_ret;exact ⟨rfl,bel1 _ _⟩
 ·rw [hn] at hN;have HN:=Lib.hid hN;have HG:=Lib.hid hG;clear hN hG hn;have hz:(ws.length = 0)∨¬ (ws.length = 0):=Classical.em _;cases g
  ·rcases hz with hz | hz
   ·have hz':((ws.length:Int) == 0) = true:=by simp [hz]
    have hd:decide (ws.length = 0) = true:=decide_eq_true hz;rw [hd];clear hz hd;go_enter Tryz.func75,Tryz.ntmps75
    go_wp2_with (first
     | (go_at_call 79;refine (HN.out _).mono ?_;rintro e w' ⟨rfl,rfl⟩)
     | (go_at_call 76;refine (HG.out _).mono ?_;rintro e w2 ⟨rfl,hb⟩))
    go_ret;exact ⟨ret_bool (by simp),thru (bel1 _ _) (by assumption)⟩
   ·have hz':((ws.length:Int) == 0) = false:=by rw [beq_eq_false_iff_ne];omega
    have hd:decide (ws.length = 0) = false:=decide_eq_false hz;rw [hd];clear hz hd;go_enter Tryz.func75,Tryz.ntmps75
    go_wp2_with (first
     | (go_at_call 79;refine (HN.out _).mono ?_;rintro e w' ⟨rfl,rfl⟩))
    go_ret;exact ⟨ret_bool (by simp),bel1 _ _⟩
  ·clear hz;go_enter Tryz.func75,Tryz.ntmps75
   go_wp2_with (first
    | (go_at_call 79;refine (HN.out _).mono ?_;rintro e w' ⟨rfl,rfl⟩)
    | (go_at_call 76;refine (HG.out _).mono ?_;rintro e w2 ⟨rfl,hb⟩))
   go_ret;exact ⟨ret_bool (by simp),thru (bel1 _ _) (by assumption)⟩
def allS (S:Int→Nat→Bool):NL→Bool
 | .nil=>true
 | .node k _ _ _ _ ks _ _ r=>S k ks.len && allS S r
 | .cse _ _ _=>false
def itemS (k:Int) (_:Nat):Bool:=itemB k
def unitS (k:Int) (_:Nat):Bool:=unitB k
def commandS (k:Int) (_:Nat):Bool:=commandB k
def compoundS (k:Int) (_:Nat):Bool:=compoundB k
def kindB (k:Int) (nm:ByteArray) (g:Bool) (az:List (ByteArray × PL)) (ws:List PL) (ks:NL) (bs:List Bool) (rk rc:Bool):Bool :=
 if k == 1 then simpleB az ws
 else if k == 2 || k == 3 then decide (ks.len = 2) && (match ks with
  | .node k0 _ _ _ _ _ _ _ (.node k1 _ _ _ _ _ _ _ _)=>itemB k0 && unitB k1
  | _=>false) && rk
 else if k == 4 then decide (ks.len = 1) && (allS commandS ks && rk)
 else if k == 5 then decide (ks.len = bs.length) && (allS itemS ks && rk)
 else if k == 6 then (decide (ks.len = 2) || decide (ks.len = 3)) && (allS bodyB ks && rk)
 else if k == 7 || k == 8 then decide (ks.len = 2) && (allS bodyB ks && rk)
 else if k == 9 then decide (ks.len = 1) && forB nm g ws && (allS bodyB ks && rk)
 else if k == 10 then decide (ws.length = 1) && ws.all rightW && rc
 else if k == 11 || k == 12 then decide (ks.len = 1) && (allS bodyB ks && rk)
 else if k == 13 then decide (ks.len = 1) && nameL nm.data.toList && !reservedL nm.data.toList && (allS compoundS ks && rk)
 else false
def deepB (k:Int) (d:Nat):Bool:=countsB k && decide (200 < d)
def rt:NL→Nat→Bool
 | .nil,_=>true
 | .node k nm g az ws ks bs cz r,d=>(!deepB k d && ownB k nm g az ws ks bs cz && kindB k nm g az ws ks bs (rt ks (withinD k d)) (rt cz (withinD k d))) && rt r d
 | .cse ps b r,d=>(!ps.isEmpty && ps.all rightW && decide (b.len≤1) && (allS bodyB b && rt b d)) && rt r d
def nodeR (k:Int) (nm:ByteArray) (g:Bool) (az:List (ByteArray × PL)) (ws:List PL) (ks:NL) (bs:List Bool) (cz:NL) (d:Nat):Bool :=
 !deepB k d && ownB k nm g az ws ks bs cz && kindB k nm g az ws ks bs (rt ks (withinD k d)) (rt cz (withinD k d))
theorem rt_node (k:Int) (nm:ByteArray) (g:Bool) (az:List (ByteArray × PL)) (ws:List PL) (ks:NL) (bs:List Bool) (cz r:NL) (d:Nat):rt (.node k nm g az ws ks bs cz r) d = (nodeR k nm g az ws ks bs cz d && rt r d):=rfl
def fitN:NL→Prop
 | .nil=>True
 | .node _ _ _ _ ws ks _ cz r=>(∀ l ∈ ws,wOK l)∧fitN ks∧fitN cz∧fitN r
 | .cse _ b r=>fitN b∧fitN r
theorem fit_drop:∀ (n:Nat) (l:NL),fitN l→fitN (l.drop n)
 | 0,_,h=>h
 | _ + 1,.nil,h=>h
 | n + 1,.node _ _ _ _ _ _ _ _ r,h=>fit_drop n r h.2.2.2
 | n + 1,.cse _ _ r,h=>fit_drop n r h.2
def RightAt (n:Nat):Prop:=∀ (k:Int) (nm:ByteArray) (g:Bool) (az:List (ByteArray × PL)) (ws:List PL) (ks:NL) (bs:List Bool) (cz:NL) (x1:Option Addr) (d1:Nat) (x2:Option Addr) (d2:Nat) (x3:Option Addr) (d3:Nat) (x4:Option Addr) (d4:Nat) (x5:Option Addr) (d5:Nat) (d:Nat) (m:Int) (w:World),ks.size + cz.size < n→d≤201→Holds w nm az ws ks bs cz x1 d1 x2 d2 x3 d3 x4 d4 x5 d5→(∀ l ∈ ws,wOK l)→fitN ks→fitN cz→w.cell? ⟨0,0,none⟩ = some (.int .i64 m) →
 Calls Tryz.prog 46 #[.agg (nodeV k nm g x1 az.length d1 x2 ws.length d2 x3 ks.len d3 x4 bs.length d4 x5 cz.len d5),.int .i64 d] w fun e w'=>e = .returned (.bool (nodeR k nm g az ws ks bs cz d))∧Below w.heap.size w w'
def Tells (f:FuncId) (S:Int→Nat→Bool):Prop:=∀ (k:Int) (nm:ByteArray) (g:Bool) (az:List (ByteArray × PL)) (ws:List PL) (ks:NL) (bs:List Bool) (cz:NL) (x1:Option Addr) (d1:Nat) (x2:Option Addr) (d2:Nat) (x3:Option Addr) (d3:Nat) (x4:Option Addr) (d4:Nat) (x5:Option Addr) (d5:Nat) (w:World),
 Calls Tryz.prog f #[.agg (nodeV k nm g x1 az.length d1 x2 ws.length d2 x3 ks.len d3 x4 bs.length d4 x5 cz.len d5)] w fun e w'=>e = .returned (.bool (S k ks.len))∧Below w.heap.size w w'
end Tr
end Go.Proofs.YtjmpfihopeohbaaGreatDoor
