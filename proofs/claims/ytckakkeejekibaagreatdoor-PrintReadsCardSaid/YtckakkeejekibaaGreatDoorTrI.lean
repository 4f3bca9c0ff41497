/- Words that are right, a command's first word, a simple command, a loop's head. -/
import Derived.Test.YtckakkeejekibaaGreatDoorTrF
set_option maxHeartbeats 1600000
set_option maxRecDepth 100000
namespace Go.Proofs.YtckakkeejekibaaGreatDoor
open Go.RowKit Go.Sort
namespace Tr
open j6 Pt
theorem kY (l:List PL) (a:Option Addr) (cap:Nat) (w:World) (hl:Sl 1 (PW w) a cap l) :
  Calls Tryz.prog 76 #[.slice a l.length cap] w fun e w'=>e = .returned (.bool (l.all aG))∧Below w.heap.size w w':=by
 have hle:=hl.le;have HL:=kq hl;clear hl;go_enter Tryz.func76,Tryz.ntmps76;go_wp2
 go_loopw [7] (fun x wr=>∃ n:Nat,n≤l.length∧x = .int .i64 n∧l.all aG = (l.drop n).all aG∧Below w.heap.size w wr) (fun x wr=>l.length - (intOf x).toNat)
 case atStart=>exact ⟨0,zVy _,rfl,rfl,Below.refl _ _⟩
 case round =>
  obtain ⟨n,hn,rfl,hr,ja⟩:=hrel;have HR:=kq hr;have HW:=kq ja;clear hr ja
  by_cases aB:n < l.length
  ·obtain ⟨b1,o1,rfl,a1,c1,e1,mU⟩:=(dX (P:=PW) (fun h=>h.below HW.out) HL.out).get (List.getElem?_eq_getElem aB);rw [Nat.mul_one] at e1;have hC:=LX l[n] a1 c1 wr mU;have bL:l.all aG = (aG l[n] && (l.drop (n + 1)).all aG):=by rw [HR.out,List.drop_eq_getElem_cons aB];rfl
   generalize l[n] = x at *
   have HT:=kq bL;clear mU bL;cases hx:aG x
   all_goals
    rw [hx] at hC HT;have HC:=kq hC;clear hC hx
   ·go_wp2_with (go_at_call 108;refine (HC.out).mono ?_;rintro e w' ⟨rfl,hb⟩);go_ret;exact ⟨ai (by rw [HT.out];rfl),ak HW.out (by assumption)⟩
   ·go_wp2_with (go_at_call 108;refine (HC.out).mono ?_;rintro e w' ⟨rfl,hb⟩);go_roundw
    case rel=>exact ⟨n + 1,by omega,by go_num,by rw [HT.out];rfl,ak HW.out (by assumption)⟩
    case measure=>simp [intOf];omega
  ·obtain rfl:n = l.length:=by omega
   go_wp2;go_ret;exact ⟨ai (by rw [HR.out,List.drop_eq_nil_of_le (vi _)];rfl),HW.out⟩
def ui (l:PL):Prop:=l.size≤1000000∧∀ k q t o f r,l = .cons k q t o f r→t.size≤1000000
def kZ (l:PL) (behind:Bool):Bool:=!(Sp.splitP l).isSome && (behind || !Sp.plainB l || !bF (Sp.fQ l).data.toList)
theorem zH (l:PL) (behind:Bool) (a:Option Addr) (cap:Nat) (m:Int) (w:World) (hl:gJ w a cap l) (fO:ui l) (hm:w.cell? ⟨0,0,none⟩ = some (.int .i64 m)) :
  Calls Tryz.prog 107 #[.slice a l.len cap,.bool behind] w fun e w'=>e = .returned (.bool (kZ l behind))∧Below w.heap.size w w':=by
 cases hs:Sp.splitP l with
 | some n =>
  cases l with
  | nil=>cases hs
  | cons k q t o f r =>
   have hS:=Sp.MM k q t o f r n a cap m w hl fO.1 (fO.2 _ _ _ _ _ _ rfl) hm hs;have hF:kZ (.cons k q t o f r) behind = false:=by simp [kZ,hs]
   have HS:=kq hS;have HF:=kq hF;have hlen:(PL.cons k q t o f r).len = r.len + 1:=rfl;rw [hlen];clear hS hF hl hm hs fO hlen;go_enter Tryz.func107,Tryz.ntmps107;go_wp2_with (go_at_call 137;refine (HS.out).mono ?_;rintro e w1 ⟨⟨a',gK,rfl,_⟩,hb⟩);go_ret;exact ⟨ai HF.out.symm,by assumption⟩
 | none =>
  have hS:=Sp.Gd l a cap m w hl fO.1 fO.2 hm hs;have hP:=fun w' (hb:Below w.heap.size w w')=>Sp.Ck l a cap w' (hl.below hb);have HS:=kq hS;have HP:=kq hP;clear hS hP hl hm;unfold kZ;rw [hs];generalize Sp.fQ l = T at *
  have Yl:=kq (fun w=>qb T w);cases behind
  ·cases hp:Sp.plainB l
   ·rw [hp] at HP;clear hp hs fO;go_enter Tryz.func107,Tryz.ntmps107
    go_wp2_with (first
     | (go_at_call 137;refine (HS.out).mono ?_;rintro e w1 ⟨rfl,hb⟩)
     | (go_at_call 94;refine (HP.out _ (by assumption)).mono ?_;rintro e w2 ⟨rfl,rfl⟩))
    go_ret;exact ⟨ai rfl,by assumption⟩
   ·rw [hp] at HP;cases hv:bF T.data.toList
    all_goals
     rw [hv] at Yl;clear hp hs fO hv;go_enter Tryz.func107,Tryz.ntmps107
     go_wp2_with (first
      | (go_at_call 137;refine (HS.out).mono ?_;rintro e w1 ⟨rfl,hb⟩)
      | (go_at_call 94;refine (HP.out _ (by assumption)).mono ?_;rintro e w2 ⟨rfl,rfl⟩)
      | (go_at_call 80;refine (Yl.out _).mono ?_;rintro e w3 ⟨rfl,rfl⟩))
     go_ret;exact ⟨ai rfl,by assumption⟩
  ·clear hs fO;cases hp:Sp.plainB l
   all_goals
    rw [hp] at HP;clear hp;go_enter Tryz.func107,Tryz.ntmps107
    go_wp2_with (first
     | (go_at_call 137;refine (HS.out).mono ?_;rintro e w1 ⟨rfl,hb⟩)
     | (go_at_call 94;refine (HP.out _ (by assumption)).mono ?_;rintro e w2 ⟨rfl,rfl⟩))
    go_ret;exact ⟨ai rfl,by assumption⟩
end Tr
namespace Tr
open j6 Pt
def jF (x:ByteArray × PL):Bool:=bV x.1.data.toList && rightL none x.2 0 1
def simpleB (az:List (ByteArray × PL)) (ws:List PL):Bool :=
 az.all jF && match ws with
  | []=>decide (0 < az.length)
  | l :: r=>kZ l (decide (0 < az.length)) && (l :: r).all aG
theorem yw (k:Int) (nm:ByteArray) (g:Bool) (az:List (ByteArray × PL)) (ws:List PL) (ks:NL) (bs:List Bool) (cz:NL) (x1 d1 x2 d2 x3 d3 x4 d4 x5 d5) (m:Int) (w:World) (h:Holds w nm az ws ks bs cz x1 d1 x2 d2 x3 d3 x4 d4 x5 d5) (fO:∀ l ∈ ws,ui l) (hm:w.cell? ⟨0,0,none⟩ = some (.int .i64 m)) :
  Calls Tryz.prog 70 #[.agg (aJ k nm g x1 az.length d1 x2 ws.length d2 x3 ks.len d3 x4 bs.length d4 x5 cz.len d5)] w fun e w'=>e = .returned (.bool (simpleB az ws))∧Below w.heap.size w w':=by
 have lI:=h.haz.le;have hlw:=h.hws.le;have gZ:=ax w (.cells #[.int .i64 k,.string nm,.bool g,.slice x1 az.length d1,.slice x2 ws.length d2,.slice x3 ks.len d3,.slice x4 bs.length d4,.slice x5 cz.len d5] 28);have au:(w.alloc (.cells #[.int .i64 k,.string nm,.bool g,.slice x1 az.length d1,.slice x2 ws.length d2,.slice x3 ks.len d3,.slice x4 bs.length d4,.slice x5 cz.len d5] 28)).heap[w.heap.size]? = some (.cells #[.int .i64 k,.string nm,.bool g,.slice x1 az.length d1,.slice x2 ws.length d2,.slice x3 ks.len d3,.slice x4 bs.length d4,.slice x5 cz.len d5] 28 (0,0)):=ay _ _;have eO:w.heap.size < (w.alloc (.cells #[.int .i64 k,.string nm,.bool g,.slice x1 az.length d1,.slice x2 ws.length d2,.slice x3 ks.len d3,.slice x4 bs.length d4,.slice x5 cz.len d5] 28)).heap.size:=by simp only [zd];omega
 have IY:=fun w' (hb:Below w.heap.size w w')=>cell_below hb hm;have HA:=kq h.haz;have VU:=kq h.hws;have aY:=kq au;have fP:=kq gZ;have HM:=kq IY;have BB:=kq fO;have eG:=kq eO;clear h au gZ hm IY fO eO;unfold aJ;go_enter Tryz.func70,Tryz.ntmps70;go_wp2;generalize hW0:w.alloc (.cells #[.int .i64 k,.string nm,.bool g,.slice x1 az.length d1,.slice x2 ws.length d2,.slice x3 ks.len d3,.slice x4 bs.length d4,.slice x5 cz.len d5] 28) = W0 at *
 clear hW0
 go_loopw [8] (fun x wr=>∃ n:Nat,n≤az.length∧x = .int .i64 n∧az.all jF = (az.drop n).all jF∧Below W0.heap.size W0 wr) (fun x wr=>az.length - (intOf x).toNat)
 case atStart=>exact ⟨0,zVy _,rfl,rfl,Below.refl _ _⟩
 case round =>
  obtain ⟨n,hn,rfl,hr,ja⟩:=hrel;have YC:=ak fP.out ja;have HR:=kq hr;have HW:=kq ja;have Ir:=kq YC;clear hr ja YC
  by_cases aB:n < az.length
  ·obtain ⟨b1,o1,rfl,e1,bU,a1,c1,e2,mU⟩:=(dX (P:=PA) (fun h=>h.below Ir.out) HA.out).get (List.getElem?_eq_getElem aB);have aP:=World.block_lt_of_cell? _ _ e1;have hN:=fun w=>jq az[n].1 w (by unfold R at bU;omega);have hV:=fun X=>wQ az[n].2 a1 c1 (wr.alloc X) (mU.below (ax wr X));have bL:az.all jF = (jF az[n] && (az.drop (n + 1)).all jF):=by rw [HR.out,List.drop_eq_getElem_cons aB];rfl
   have hAB:jF az[n] = (bV az[n].1.data.toList && rightL none az[n].2 0 1):=rfl;rw [hAB] at bL;generalize az[n].1 = t1 at *
   generalize az[n].2 = l1 at *
   have HT:=kq bL;clear mU bL hAB;cases hx:bV t1.data.toList
   ·rw [hx] at hN HT;have HN:=kq hN;have HV:=kq hV;clear hN hV hx;go_wp2_with (go_at_call 79;refine (HN.out _).mono ?_;rintro e w' ⟨rfl,rfl⟩);go_ret;exact ⟨ai (by unfold simpleB;rw [HT.out];rfl),ak Ir.out (ax _ _)⟩
   ·rw [hx] at hN HT;cases hy:rightL none l1 0 1
    all_goals
     rw [hy] at hV HT;have HN:=kq hN;have HV:=kq hV;clear hN hV hx hy
     go_wp2_with (first
      | (go_at_call 79;refine (HN.out _).mono ?_;rintro e w' ⟨rfl,rfl⟩)
      | (go_at_call 58;refine (HV.out _).mono ?_;rintro e w2 ⟨rfl,hb⟩))
    ·go_ret;exact ⟨ai (by unfold simpleB;rw [HT.out];rfl),ak Ir.out (ak (ax _ _) (by assumption))⟩
    ·go_roundw
     case rel=>exact ⟨n + 1,by omega,by go_num,by rw [HT.out];rfl,ak HW.out (ak (ax _ _) (by assumption))⟩
     case measure=>simp [intOf];omega
  ·obtain rfl:n = az.length:=by omega
   have iF:az.all jF = true:=by rw [HR.out,List.drop_eq_nil_of_le (vi _)];rfl
   have aC:=(HW.out.block _ eG.out).trans aY.out;have b3:=fA aC;have b4:=dS aC;have jH:=kq iF;clear iF aC;cases ws with
   | nil =>
    by_cases h0:0 < az.length
    all_goals
     go_wp2_with fail;go_ret;exact ⟨ai (by unfold simpleB;rw [jH.out];simp [h0]),Ir.out⟩
   | cons l r =>
    obtain ⟨bw,ow,rfl,aw,cw,ew,abZ⟩:=(dX (P:=PW) (fun h=>h.below Ir.out) VU.out).get (n:=0) (t:=l) rfl;rw [Nat.zero_mul,Nat.add_zero] at ew;have ja:=World.block_lt_of_cell? _ _ ew;have hz:(((l :: r).length:Int) == 0) = false:=by simp;omega
    have adL:0 < (l :: r).length:=by simp
    have hF:=fun dd os=>Calls.regrown_of (zH l (decide (0 < az.length)) aw cw m (grow (redrawn wr dd) os) (abZ.below (below_regrown wr dd os)) (BB.out l (List.mem_cons_self ..)) (HM.out _ (ak Ir.out (below_regrown wr dd os))));have hG:=fun dd os=>Calls.regrown_of (kY (l :: r) (some ⟨bw,ow,none⟩) d2 (grow (redrawn wr dd) os) (dX (P:=PW) (fun h=>h.below (ak Ir.out (below_regrown wr dd os))) VU.out));have bH:simpleB az (l :: r) = (kZ l (decide (0 < az.length)) && (l :: r).all aG):=by unfold simpleB;rw [jH.out];rfl
    have ql:=kq bH;have o7:=kq (fun dq iB=>ak Ir.out (below_regrown wr dq iB));generalize (l :: r).length = L at *
    have q3:=cell_regrown b3;have q4:=cell_regrown b4;have qw:=cell_regrown ew;have hB:∃ B:Bool,decide (0 < az.length) = B∧((0 < az.length) = (B = true)):=⟨_,rfl,by simp⟩;obtain ⟨B,hB,hB2⟩:=hB;rw [hB] at hF ql;clear hB;cases B
    all_goals
     simp only [Bool.false_eq_true,eq_self_iff_true] at hB2;cases hf:kZ l _
    ·rw [hf] at hF ql;have HF:=kq hF;clear hF hG hf;go_wp2_with fail;refine Qu.region (by kernel_rfl) (by kernel_rfl) ?_
     repeat (first
      | (first | refine Qu.eU rfl (fun K hK=>?_) | refine Qu.eT rfl rfl rfl (fun K hK=>?_)
         go_simp
         first
         | (refine hK _ ?_;clear hK K)
         | (apply Exists.intro;refine ⟨fun _=>?_,hK _ ?_⟩;(go_at_call 107;exact HF.out _ _);clear hK K))
      | (refine Qu.gQ rfl rfl rfl (fun K hK=>?_);go_simp;refine hK _ ?_;clear hK K))
     refine Qu.fin ?_;rintro ⟨dq,iB⟩;go_wp2_with fail;go_ret;exact ⟨ai (by rw [ql.out];rfl),o7.out dq iB⟩
    ·rw [hf] at hF ql;have HF:=kq hF;cases hg:(l :: r).all aG
     all_goals
      rw [hg] at hG ql;have HG:=kq hG;clear hF hG hf hg;go_wp2_with fail;refine Qu.region (by kernel_rfl) (by kernel_rfl) ?_
      repeat (first
       | (first | refine Qu.eU rfl (fun K hK=>?_) | refine Qu.eT rfl rfl rfl (fun K hK=>?_)
          go_simp
          first
          | (refine hK _ ?_;clear hK K)
          | (apply Exists.intro;refine ⟨fun _=>?_,hK _ ?_⟩;(first | (go_at_call 107;exact HF.out _ _) | (go_at_call 76;exact HG.out _ _));clear hK K))
       | (refine Qu.gQ rfl rfl rfl (fun K hK=>?_);go_simp;refine hK _ ?_;clear hK K))
      refine Qu.fin ?_;rintro ⟨dq,iB⟩;go_wp2_with fail;go_ret;exact ⟨ai (by rw [ql.out];rfl),o7.out dq iB⟩
    ·rw [hf] at hF ql;have HF:=kq hF;clear hF hG hf;go_wp2_with fail;refine Qu.region (by kernel_rfl) (by kernel_rfl) ?_
     repeat (first
      | (first | refine Qu.eU rfl (fun K hK=>?_) | refine Qu.eT rfl rfl rfl (fun K hK=>?_)
         go_simp
         first
         | (refine hK _ ?_;clear hK K)
         | (apply Exists.intro;refine ⟨fun _=>?_,hK _ ?_⟩;(go_at_call 107;exact HF.out _ _);clear hK K))
      | (refine Qu.gQ rfl rfl rfl (fun K hK=>?_);go_simp;refine hK _ ?_;clear hK K))
     refine Qu.fin ?_;rintro ⟨dq,iB⟩;go_wp2_with fail;go_ret;exact ⟨ai (by rw [ql.out];rfl),o7.out dq iB⟩
    ·rw [hf] at hF ql;have HF:=kq hF;cases hg:(l :: r).all aG
     all_goals
      rw [hg] at hG ql;have HG:=kq hG;clear hF hG hf hg;go_wp2_with fail;refine Qu.region (by kernel_rfl) (by kernel_rfl) ?_
      repeat (first
       | (first | refine Qu.eU rfl (fun K hK=>?_) | refine Qu.eT rfl rfl rfl (fun K hK=>?_)
          go_simp
          first
          | (refine hK _ ?_;clear hK K)
          | (apply Exists.intro;refine ⟨fun _=>?_,hK _ ?_⟩;(first | (go_at_call 107;exact HF.out _ _) | (go_at_call 76;exact HG.out _ _));clear hK K))
       | (refine Qu.gQ rfl rfl rfl (fun K hK=>?_);go_simp;refine hK _ ?_;clear hK K))
      refine Qu.fin ?_;rintro ⟨dq,iB⟩;go_wp2_with fail;go_ret;exact ⟨ai (by rw [ql.out];rfl),o7.out dq iB⟩
end Tr
namespace Tr
open j6 Pt
def DC (nm:ByteArray) (g:Bool) (ws:List PL):Bool:=bV nm.data.toList && (g || decide (ws.length = 0)) && ws.all aG
theorem DD (k:Int) (nm:ByteArray) (g:Bool) (az:List (ByteArray × PL)) (ws:List PL) (ks:NL) (bs:List Bool) (cz:NL) (x1 d1 x2 d2 x3 d3 x4 d4 x5 d5) (w:World) (h:Holds w nm az ws ks bs cz x1 d1 x2 d2 x3 d3 x4 d4 x5 d5) :
  Calls Tryz.prog 75 #[.agg (aJ k nm g x1 az.length d1 x2 ws.length d2 x3 ks.len d3 x4 bs.length d4 x5 cz.len d5)] w fun e w'=>e = .returned (.bool (DC nm g ws))∧Below w.heap.size w w':=by
 have hN:=fun w=>jq nm w (by have:=h.hnm;unfold R at this;omega);have hG:=fun X=>kY ws x2 d2 (w.alloc X) (dX (P:=PW) (fun h=>h.below (ax w X)) h.hws);clear h;unfold aJ DC;cases hn:bV nm.data.toList
 ·rw [hn] at hN;have HN:=kq hN;clear hN hG hn;go_enter Tryz.func75,Tryz.ntmps75;go_wp2_with (go_at_call 79;refine (HN.out _).mono ?_;rintro e w' ⟨rfl,rfl⟩);go_ret;exact ⟨rfl,ax _ _⟩
 ·rw [hn] at hN;have HN:=kq hN;have HG:=kq hG;clear hN hG hn;have hz:(ws.length = 0)∨¬ (ws.length = 0):=Classical.em _;cases g
  ·rcases hz with hz | hz
   ·have hz':((ws.length:Int) == 0) = true:=by simp [hz]
    have hd:decide (ws.length = 0) = true:=decide_eq_true hz;rw [hd];clear hz hd;go_enter Tryz.func75,Tryz.ntmps75
    go_wp2_with (first
     | (go_at_call 79;refine (HN.out _).mono ?_;rintro e w' ⟨rfl,rfl⟩)
     | (go_at_call 76;refine (HG.out _).mono ?_;rintro e w2 ⟨rfl,hb⟩))
    go_ret;exact ⟨ai (by simp),ak (ax _ _) (by assumption)⟩
   ·have hz':((ws.length:Int) == 0) = false:=by rw [beq_eq_false_iff_ne];omega
    have hd:decide (ws.length = 0) = false:=decide_eq_false hz;rw [hd];clear hz hd;go_enter Tryz.func75,Tryz.ntmps75
    go_wp2_with (first
     | (go_at_call 79;refine (HN.out _).mono ?_;rintro e w' ⟨rfl,rfl⟩))
    go_ret;exact ⟨ai (by simp),ax _ _⟩
  ·clear hz;go_enter Tryz.func75,Tryz.ntmps75
   go_wp2_with (first
    | (go_at_call 79;refine (HN.out _).mono ?_;rintro e w' ⟨rfl,rfl⟩)
    | (go_at_call 76;refine (HG.out _).mono ?_;rintro e w2 ⟨rfl,hb⟩))
   go_ret;exact ⟨ai (by simp),ak (ax _ _) (by assumption)⟩
def allS (S:Int→Nat→Bool):NL→Bool
 | .nil=>true
 | .node k _ _ _ _ ks _ _ r=>S k ks.len && allS S r
 | .cse _ _ _=>false
def kL (k:Int) (_:Nat):Bool:=dN k
def ni (k:Int) (_:Nat):Bool:=ik k
def gU (k:Int) (_:Nat):Bool:=eH k
def gu (k:Int) (_:Nat):Bool:=df k
def kindB (k:Int) (nm:ByteArray) (g:Bool) (az:List (ByteArray × PL)) (ws:List PL) (ks:NL) (bs:List Bool) (rk rc:Bool):Bool :=
 if k == 1 then simpleB az ws
 else if k == 2 || k == 3 then decide (ks.len = 2) && (match ks with
  | .node k0 _ _ _ _ _ _ _ (.node k1 _ _ _ _ _ _ _ _)=>dN k0 && ik k1
  | _=>false) && rk
 else if k == 4 then decide (ks.len = 1) && (allS gU ks && rk)
 else if k == 5 then decide (ks.len = bs.length) && (allS kL ks && rk)
 else if k == 6 then (decide (ks.len = 2) || decide (ks.len = 3)) && (allS dK ks && rk)
 else if k == 7 || k == 8 then decide (ks.len = 2) && (allS dK ks && rk)
 else if k == 9 then decide (ks.len = 1) && DC nm g ws && (allS dK ks && rk)
 else if k == 10 then decide (ws.length = 1) && ws.all aG && rc
 else if k == 11 || k == 12 then decide (ks.len = 1) && (allS dK ks && rk)
 else if k == 13 then decide (ks.len = 1) && bV nm.data.toList && !bF nm.data.toList && (allS gu ks && rk)
 else false
def fC (k:Int) (d:Nat):Bool:=bQ k && decide (200 < d)
def rt:NL→Nat→Bool
 | .nil,_=>true
 | .node k nm g az ws ks bs cz r,d=>(!fC k d && ownB k nm g az ws ks bs cz && kindB k nm g az ws ks bs (rt ks (gp k d)) (rt cz (gp k d))) && rt r d
 | .cse ps b r,d=>(!ps.isEmpty && ps.all aG && decide (b.len≤1) && (allS dK b && rt b d)) && rt r d
def aW (k:Int) (nm:ByteArray) (g:Bool) (az:List (ByteArray × PL)) (ws:List PL) (ks:NL) (bs:List Bool) (cz:NL) (d:Nat):Bool :=
 !fC k d && ownB k nm g az ws ks bs cz && kindB k nm g az ws ks bs (rt ks (gp k d)) (rt cz (gp k d))
theorem qm (k:Int) (nm:ByteArray) (g:Bool) (az:List (ByteArray × PL)) (ws:List PL) (ks:NL) (bs:List Bool) (cz r:NL) (d:Nat):rt (.node k nm g az ws ks bs cz r) d = (aW k nm g az ws ks bs cz d && rt r d):=rfl
def fB:NL→Prop
 | .nil=>True
 | .node _ _ _ _ ws ks _ cz r=>(∀ l ∈ ws,ui l)∧fB ks∧fB cz∧fB r
 | .cse _ b r=>fB b∧fB r
theorem fit_drop:∀ (n:Nat) (l:NL),fB l→fB (l.drop n)
 | 0,_,h=>h
 | _ + 1,.nil,h=>h
 | n + 1,.node _ _ _ _ _ _ _ _ r,h=>fit_drop n r h.2.2.2
 | n + 1,.cse _ _ r,h=>fit_drop n r h.2
def eu (n:Nat):Prop:=∀ (k:Int) (nm:ByteArray) (g:Bool) (az:List (ByteArray × PL)) (ws:List PL) (ks:NL) (bs:List Bool) (cz:NL) (x1:Option Addr) (d1:Nat) (x2:Option Addr) (d2:Nat) (x3:Option Addr) (d3:Nat) (x4:Option Addr) (d4:Nat) (x5:Option Addr) (d5:Nat) (d:Nat) (m:Int) (w:World),ks.size + cz.size < n→d≤201→Holds w nm az ws ks bs cz x1 d1 x2 d2 x3 d3 x4 d4 x5 d5→(∀ l ∈ ws,ui l)→fB ks→fB cz→w.cell? ⟨0,0,none⟩ = some (.int .i64 m) →
 Calls Tryz.prog 46 #[.agg (aJ k nm g x1 az.length d1 x2 ws.length d2 x3 ks.len d3 x4 bs.length d4 x5 cz.len d5),.int .i64 d] w fun e w'=>e = .returned (.bool (aW k nm g az ws ks bs cz d))∧Below w.heap.size w w'
def Gh (f:FuncId) (S:Int→Nat→Bool):Prop:=∀ (k:Int) (nm:ByteArray) (g:Bool) (az:List (ByteArray × PL)) (ws:List PL) (ks:NL) (bs:List Bool) (cz:NL) (x1:Option Addr) (d1:Nat) (x2:Option Addr) (d2:Nat) (x3:Option Addr) (d3:Nat) (x4:Option Addr) (d4:Nat) (x5:Option Addr) (d5:Nat) (w:World),
 Calls Tryz.prog f #[.agg (aJ k nm g x1 az.length d1 x2 ws.length d2 x3 ks.len d3 x4 bs.length d4 x5 cz.len d5)] w fun e w'=>e = .returned (.bool (S k ks.len))∧Below w.heap.size w w'
end Tr
end Go.Proofs.YtckakkeejekibaaGreatDoor
