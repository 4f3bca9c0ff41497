/- The reference's small functions on parts: among, Operator, text. -/
import Derived.Test.YtjmpfihopeohbaaGreatDoorWrD
set_option maxHeartbeats 3000000
set_option maxRecDepth 1000000
namespace Go.Proofs.YtjmpfihopeohbaaGreatDoor
open Go.RowKit Go.Sort
namespace Rf
open Cls Pt
theorem among3_any (n:Nat) (s:ByteArray) (w:World) (hs:s.size≤9223372036854775807) :
  Calls Tryz.prog 135 #[.int .u8 n,.string s] w fun e w'=>e = .returned (.bool (amongB n s.data.toList))∧w = w':=by
 go_enter Tryz.func135,Tryz.ntmps135;go_wp2
 go_loop [5] (fun i=>∃ k:Nat,k≤s.size∧i = .int .i64 k∧amongB n (s.data.toList.take k) = false) (fun i=>s.size - (intOf i).toNat)
 case atStart=>exact ⟨0,Nat.zero_le _,rfl,rfl⟩
 case round =>
  obtain ⟨k,hk,rfl,hr⟩:=hrel;have HR:=Lib.hid hr;clear hr
  by_cases hlt:k < s.size
  ·have hlt':k < s.data.toList.length:=by simpa using hlt
   by_cases hn:s[k].toNat = n
   ·have hb:((s[k].toNat:Int) == (n:Int)) = true:=by simp [hn]
    have HN:=Lib.hid hn;clear hn;go_wp2;go_ret;exact ⟨ret_bool (among_hit hlt' (by rw [← getB hlt];exact HN.out)).symm,rfl⟩
   ·have hb:((s[k].toNat:Int) == (n:Int)) = false:=by simp;omega
    have HN:=Lib.hid hn;clear hn;go_wp2;go_round
    case rel=>exact ⟨k + 1,by omega,by go_num,among_snoc HR.out hlt' (by rw [← getB hlt];exact HN.out)⟩
    case measure=>simp [intOf];omega
  ·go_wp2;go_ret;exact ⟨ret_bool (by rw [← HR.out,List.take_of_length_le (by simp;omega)]),rfl⟩
def isOper (o:List UInt8):Bool:=o == [45] || o == [58,45] || o == [61] || o == [58,61] || o == [43] || o == [58,43] || o == [63] || o == [58,63]
theorem oper_any (o:ByteArray) (w:World) :
  Calls Tryz.prog 158 #[.string o] w fun e w'=>e = .returned (.bool (isOper o.data.toList))∧w = w':=by
 rw [← Lib.toList_data o];go_enter Tryz.func158,Tryz.ntmps158;go_wp2_with fail
 all_goals (go_ret;exact ⟨ret_bool (by first | rfl | (exfalso;simp_all;done) | (simp_all [isOper];done)),rfl⟩)
theorem nameOK_ref (t o:List UInt8):nameOK t o = (paramL t && (o.isEmpty || isOper o) && (!isSet o || nameL t)):=by
 unfold nameOK;cases hs:isSet o
 ·have h1:isOp o = (o.isEmpty || isOper o):=by
   simp only [isSet,Bool.or_eq_false_iff] at hs;have he:(o == []) = o.isEmpty:=by cases o <;> rfl
   simp only [isOp,isOper,hs.1,hs.2,he,Bool.or_false,Bool.or_assoc]
  rw [← h1];cases isOp o <;> simp
 ·have h1:(o.isEmpty || isOper o) = true:=by
   simp only [isSet,Bool.or_eq_true,beq_iff_eq] at hs;rcases hs with rfl | rfl <;> rfl
  rw [h1];cases hn:nameL t
  ·simp
  ·simp [paramL,hn]
def stops:List UInt8:=[34,36,39,92,96,125]
theorem stops0:∀ n:Fin 256,amongB n stops = !standsB n 1:=by decide +kernel
theorem stops_any (n:Nat) (h:n < 256):amongB n stops = !standsB n 1:=stops0 ⟨n,h⟩
theorem posB (t:ByteArray):decide (0 < t.size) = !(t.data.toList == []):=by
 rw [← lenB t];cases t.data.toList with
 | nil=>rfl
 | cons c l=>simp
def rtextB (q:Bool) (t o:List UInt8) (n at':Nat):Bool:=(o.isEmpty && n == 0) && (if at' == 2 then q && !(t == []) else textOK q t at')
theorem rtext_any (k:Int) (q:Bool) (t o:ByteArray) (a:Option Addr) (n cap at':Nat) (w:World) (ht:t.size≤R) (ha:at'≤2) :
  Calls Tryz.prog 156 #[pv k q t o a n cap,.int .i64 at'] w fun e w'=>e = .returned (.bool (rtextB q t.data.toList o.data.toList n at'))∧Below w.heap.size w w':=by
 have ht':t.size≤140737488351232:=ht;have HOE:=Lib.hid (emptyO o);have hOE:o.data.toList.isEmpty = o.toList.isEmpty:=by rw [Lib.toList_data]
 have HOO:=Lib.hid hOE;clear ht hOE;unfold pv;cases he:o.toList.isEmpty
 ·have HE:=Lib.hid (show rtextB q t.data.toList o.data.toList n at' = false by simp [rtextB,HOO.out,he]);go_enter Tryz.func156,Tryz.ntmps156;go_wp2;go_ret;exact ⟨ret_bool HE.out.symm,bel1 _ _⟩
 ·by_cases hn:n = 0
  ·subst hn
   by_cases h2:at' = 2
   ·subst h2;have HE:=Lib.hid (show rtextB q t.data.toList o.data.toList 0 2 = (q && !(t.data.toList == [])) by simp [rtextB,HOO.out,he]);have hx:=posB t;have HX:=Lib.hid hx;clear hx;cases q
    ·go_enter Tryz.func156,Tryz.ntmps156;go_wp2;go_ret;exact ⟨ret_bool (by rw [HE.out];rfl),bel1 _ _⟩
    ·go_enter Tryz.func156,Tryz.ntmps156;go_wp2;go_ret;exact ⟨ret_bool (by rw [HE.out,← HX.out];simp),bel1 _ _⟩
   ·have h2':((at':Int) == 2) = false:=by simp;omega
    have HE:=Lib.hid (show rtextB q t.data.toList o.data.toList 0 at' = textOK q t.data.toList at' by simp [rtextB,HOO.out,he,h2]);have H01:=Lib.hid (show at' = 0∨at' = 1 by omega);clear h2;cases q
    ·go_enter Tryz.func156,Tryz.ntmps156;go_wp2
     go_loopw [5] (fun i wr=>∃ j:Nat,j≤t.size∧i = .int .i64 j∧(t.data.toList.take j).all (fun c=>standsB c.toNat at') = true∧wr = w.alloc (.cells #[.int .i64 k,.bool false,.string t,.string o,.slice a 0 cap] 75)) (fun i wr=>t.size - (intOf i).toNat)
     case atStart=>exact ⟨0,Nat.zero_le _,rfl,rfl,rfl⟩
     case round =>
      obtain ⟨j,hj,rfl,hr,rfl⟩:=hrel;have HR:=Lib.hid hr;clear hr
      by_cases hlt:j < t.size
      ·have hlt':j < t.data.toList.length:=by simpa using hlt
       have HG:=Lib.hid (congrArg UInt8.toNat (getB hlt));have hb:=byte_lt t[j];rcases H01.out with h0 | h0
       ·have hS:standsB t[j].toNat at' = bareB t[j].toNat:=by rw [h0];rfl
        have hz:((at':Int) == 0) = true:=by simp [h0]
        have hz1:((at':Int) == 1) = false:=by simp [h0]
        clear h0;cases hs:bareB t[j].toNat
        ·have HS:=Lib.hid (hS.trans hs);clear hS;go_wp2_with (go_at_call 180;refine (rbare_any _ hb _).mono ?_;rintro e w' ⟨rfl,rfl⟩);go_ret;exact ⟨ret_bool (by rw [HE.out];simp [textOK,all_no (p:=fun c=>standsB c.toNat at') hlt' (by rw [← HG.out];exact HS.out)]),bel1 _ _⟩
        ·have HS:=Lib.hid (hS.trans hs);clear hS;go_wp2_with (go_at_call 180;refine (rbare_any _ hb _).mono ?_;rintro e w' ⟨rfl,rfl⟩);go_roundw
         case rel=>exact ⟨j + 1,by omega,by go_num,all_snoc HR.out hlt' (by rw [← HG.out];exact HS.out),trivial⟩
         case measure=>simp [intOf];omega
       ·have hz:((at':Int) == 0) = false:=by simp [h0]
        have hz1:((at':Int) == 1) = true:=by simp [h0]
        have hA:=fun w1=>among3_any t[j].toNat ⟨#[34,36,39,92,96,125]⟩ w1 (by decide);rw [show (ByteArray.data ⟨#[34,36,39,92,96,125]⟩).toList = stops from rfl,stops_any _ hb,← h0] at hA;clear h0;cases hs:standsB t[j].toNat at'
        ·rw [hs] at hA;have HA:=Lib.hid hA;have HS:=Lib.hid hs;clear hA;go_wp2_with (go_at_call 135;refine (HA.out _).mono ?_;rintro e w' ⟨rfl,rfl⟩);go_ret;exact ⟨ret_bool (by rw [HE.out];simp [textOK,all_no (p:=fun c=>standsB c.toNat at') hlt' (by rw [← HG.out];exact HS.out)]),bel1 _ _⟩
        ·rw [hs] at hA;have HA:=Lib.hid hA;have HS:=Lib.hid hs;clear hA;go_wp2_with (go_at_call 135;refine (HA.out _).mono ?_;rintro e w' ⟨rfl,rfl⟩);go_roundw
         case rel=>exact ⟨j + 1,by omega,by go_num,all_snoc HR.out hlt' (by rw [← HG.out];exact HS.out),trivial⟩
         case measure=>simp [intOf];omega
      ·obtain rfl:j = t.size:=by omega
       have HN:=Lib.hid (lenB t);have hx:=posB t;have HX:=Lib.hid hx;clear hx;go_wp2;go_ret;exact ⟨ret_bool (by have:=HR.out;rw [List.take_of_length_le (by rw [HN.out];exact Nat.le_refl _)] at this;rw [HE.out];simp only [textOK,this,← HX.out];simp),bel1 _ _⟩
    ·go_enter Tryz.func156,Tryz.ntmps156;go_wp2;go_ret;exact ⟨ret_bool (by rw [HE.out];rcases H01.out with h | h <;> subst h <;> rfl),bel1 _ _⟩
  ·have hg:(((n:Nat):Int) > 0) = True:=by simp;omega
   have hg2:(0 < (n:Int)) = True:=by simp;omega
   have hg3:(0 < n) = True:=by simp;omega
   have HE:=Lib.hid (show rtextB q t.data.toList o.data.toList n at' = false by simp [rtextB,hn]);clear hn;go_enter Tryz.func156,Tryz.ntmps156;go_wp2;go_ret;exact ⟨ret_bool HE.out.symm,bel1 _ _⟩
end Rf
end Go.Proofs.YtjmpfihopeohbaaGreatDoor
namespace Go.Proofs.YtjmpfihopeohbaaGreatDoor
open Go.RowKit Go.Sort
namespace Rf
open Cls Pt Bd
theorem step_text (p:Option (Int × Bool)) (q:Bool) (t o:ByteArray) (f:PL) (at' d:Nat) (rest:Bool) :
  (!(at' == 2 && !q) && !(p.any fun x=>x.1 == 1 && (1:Int) == 1 && x.2 == q) && partOK 1 q t o f at' d && rest) = (rtextB q t.data.toList o.data.toList f.len at' && !(p.any fun x=>x.1 == 1 && x.2 == q) && rest):=by
 have h1:(o.data.toList == []) = o.data.toList.isEmpty:=by cases o.data.toList <;> rfl
 simp only [partOK,rtextB,h1,beq_self_eq_true,Bool.and_true,if_true];cases h2:(at' == 2)
 ·simp only [Bool.false_and,Bool.not_false,Bool.true_and,Bool.false_eq_true,if_false];cases (p.any fun x=>x.1 == 1 && x.2 == q) <;> cases o.data.toList.isEmpty <;> cases (f.len == 0) <;> cases textOK q t.data.toList at' <;> rfl
 ·have h3:at' = 2:=by simpa using h2
  subst h3;cases q
  ·simp
  ·simp only [textOK,Bool.not_true,Bool.and_false,Bool.not_false,Bool.true_and,if_true,beq_self_eq_true,Bool.false_or];cases (p.any fun x=>x.1 == 1 && x.2 == true) <;> cases o.data.toList.isEmpty <;> cases (f.len == 0) <;> cases (t.data.toList == []) <;> rfl
theorem rparts_step (l:PL) (a:Option Addr) (cap at' d:Nat) (w:World) (ha:at'≤2) (hd:d≤1000) (hl:Lies w a cap l)
  (hS:∀ (f:PL) (a:Option Addr) (cap:Nat) (q:Bool) (w:World),f.size < l.size→d≤200→Lies w a cap f→Calls Tryz.prog 134 #[.slice a f.len cap,.int .i64 (wth q),.int .i64 ((d:Int) + 1)] w fun e w'=>e = .returned (.bool (rightL none f (wth q) (d + 1)))∧Below w.heap.size w w') :
  Calls Tryz.prog 134 #[.slice a l.len cap,.int .i64 at',.int .i64 d] w fun e w'=>e = .returned (.bool (rightL none l at' d))∧Below w.heap.size w w':=by
 have HA:=Lib.hid hl;have HS:=Lib.hid hS;clear hl hS;have hle:=HA.out.le;go_enter Tryz.func134,Tryz.ntmps134;go_wp2
 go_loopw [12] (fun i wr=>∃ n:Nat,n≤l.len∧i = .int .i64 n∧rightL none l at' d = rightL (prevAt l n) (l.drop n) at' d∧Below w.heap.size w wr) (fun i wr=>l.len - (intOf i).toNat)
 case atStart=>exact ⟨0,Nat.zero_le _,rfl,rfl,Below.refl _ _⟩
 case round =>
  obtain ⟨n,hn,rfl,hr,hbw⟩:=hrel;have HR:=Lib.hid hr;have HW:=Lib.hid hbw;clear hr hbw
  by_cases hlt:n < l.len
  ·obtain ⟨k,q,t,o,f,r,hdr⟩:=PL.drop_at hlt;obtain ⟨b1,p1,rfl,hb1,c10,c11,c12,c13,ht,ho,a1,ca1,c14,hl1⟩:=(HA.out.below HW.out).get hdr;have hsz:f.size < l.size:=by
    have:=PL.drop_size n l;rw [hdr] at this;simp only [PL.size] at this;omega
   have hstep:=right_step (at':=at') (d:=d) hdr;have HLF:=Lib.hid hl1;have hts:t.size≤9223372036854775807:=Nat.le_trans ht (by decide);clear hl1;cases hk1:(k == 1)
   ·cases hk2:(k == 2)
    ·have hkn:(k != 2) = true:=by simp [bne,hk2]
     have HT:=Lib.hid (show rightL (prevAt l n) (l.drop n) at' d = false by rw [hstep];simp [partOK,hk1,hk2]);clear hstep;go_wp2;go_ret;exact ⟨ret_bool (by rw [HR.out,HT.out]),thru HW.out (bel1 _ _)⟩
    ·have hkn:(k != 2) = false:=by simp [bne,hk2]
     have hk:k = 2:=by simpa using hk2
     subst hk;have hany:((prevAt l n).any fun x=>x.1 == 1 && (2:Int) == 1 && x.2 == q) = false:=by cases prevAt l n <;> simp
     have HT:=Lib.hid (show rightL (prevAt l n) (l.drop n) at' d = (!(at' == 2 && !q) && (decide (d≤200) && (paramL t.data.toList && (o.toList.isEmpty || isOper o.data.toList) && (!isSet o.data.toList || nameL t.data.toList)) && (!o.toList.isEmpty || f.len == 0) && rightL none f (wth q) (d + 1)) && rightL (prevAt l (n + 1)) (l.drop (n + 1)) at' d) by
      rw [hstep,hany];simp only [partOK,nameOK_ref,emptyO,Bool.not_false,Bool.and_true];rw [show (List.isEmpty o.data.toList) = o.toList.isEmpty by rw [Lib.toList_data]]
      rfl)
     have hset:isSet o.data.toList = ((o.toList == [61]) || (o.toList == [58,61])):=by rw [Lib.toList_data];rfl
     have HSET:=Lib.hid hset;clear hstep hany hset hdr hk1 hk2;have hPA:=fun w1=>rparam_any t w1 hts;have hNA:=fun w1=>rname_any t w1 hts;have hOP:=fun w1=>oper_any o w1;have HWR:=Lib.hid (show wrap64 ((d:Int) + 1) = (d:Int) + 1 from IntWalk.wrap64_in _ ⟨by omega,by omega⟩)
     by_cases hd2:d≤200
     ·have hdI:((d:Int) > 200) = False:=by simp;omega
      have hdJ:(200 < (d:Int)) = False:=by simp;omega
      have HD:=Lib.hid hd2;clear hd2;cases hpl:paramL t.data.toList
      ·rw [hpl] at hPA;have HPA:=Lib.hid hPA;have HH:=Lib.hid hpl;clear hpl hPA hNA hOP;go_wp2_with (go_at_call 157;refine (HPA.out _).mono ?_;rintro e w' ⟨rfl,rfl⟩);go_ret;exact ⟨ret_bool (by rw [HR.out,HT.out];simp [HH.out]),thru HW.out (bel1 _ _)⟩
      ·rw [hpl] at hPA;have HPA:=Lib.hid hPA;have HPL:=Lib.hid hpl;clear hpl hPA;have hPP:=fun qq=>(HS.out f a1 ca1 qq (wr.alloc (.cells #[.int .i64 2,.bool q,.string t,.string o,.slice a1 f.len ca1] 75)) hsz HD.out (HLF.out.below (bel1 wr _)));cases hat:((at':Int) == 2)
       ·have HQ0:=Lib.hid (show (at' == 2) = false by rw [← natI2];exact hat);cases q
        ·replace hPP:=hPP false
         rw [show ((wth false:Nat):Int) = 1 from rfl] at hPP;have HQ:=Lib.hid (show (at' == 2 && !false) = false by rw [HQ0.out];rfl);cases he:o.toList.isEmpty
         ·have heb:(o.toList != []) = true:=by rw [bne,show (o.toList == []) = o.toList.isEmpty by cases o.toList <;> rfl,he];rfl
          cases hop:isOper o.data.toList
          ·rw [hop] at hOP;have HOP:=Lib.hid hOP;have HH:=Lib.hid (show o.toList.isEmpty = false∧isOper o.data.toList = false from ⟨he,hop⟩);clear hop hOP
           go_wp2_with (first
            | (go_at_call 157;refine (HPA.out _).mono ?_;rintro e w' ⟨rfl,rfl⟩)
            | (go_at_call 158;refine (HOP.out _).mono ?_;rintro e w' ⟨rfl,rfl⟩)
            | (go_at_call 88;refine (HNA.out _).mono ?_;rintro e w' ⟨rfl,rfl⟩)
            | (go_at_call 134;refine (HPP.out).mono ?_;rintro e w' ⟨rfl,hb⟩))
           go_ret;exact ⟨ret_bool (by rw [HR.out,HT.out];simp [HH.out.1,HH.out.2]),thru HW.out (bel1 _ _)⟩
          ·rw [hop] at hOP;have HOP:=Lib.hid hOP;have HO2:=Lib.hid hop;clear hop hOP;cases h61:(o.toList == [61])
           ·cases h58:(o.toList == [58,61])
            ·have HSS:=Lib.hid (show isSet o.data.toList = false by rw [HSET.out,h61,h58];rfl);cases hrec:rightL none f (wth false) (d + 1)
             ·rw [hrec] at hPP;have HPP:=Lib.hid hPP;have HH:=Lib.hid hrec;clear hrec hPP
              go_wp2_with (first
               | (go_at_call 157;refine (HPA.out _).mono ?_;rintro e w' ⟨rfl,rfl⟩)
               | (go_at_call 158;refine (HOP.out _).mono ?_;rintro e w' ⟨rfl,rfl⟩)
               | (go_at_call 88;refine (HNA.out _).mono ?_;rintro e w' ⟨rfl,rfl⟩)
               | (go_at_call 134;refine (HPP.out).mono ?_;rintro e w' ⟨rfl,hb⟩))
              go_ret;exact ⟨ret_bool (by rw [HR.out,HT.out];simp [HH.out]),thru HW.out (thru (bel1 _ _) hb)⟩
             ·rw [hrec] at hPP;have HPP:=Lib.hid hPP;have HH:=Lib.hid (show o.toList.isEmpty = false∧rightL none f (wth false) (d + 1) = true from ⟨he,hrec⟩);clear hrec hPP
              go_wp2_with (first
               | (go_at_call 157;refine (HPA.out _).mono ?_;rintro e w' ⟨rfl,rfl⟩)
               | (go_at_call 158;refine (HOP.out _).mono ?_;rintro e w' ⟨rfl,rfl⟩)
               | (go_at_call 88;refine (HNA.out _).mono ?_;rintro e w' ⟨rfl,rfl⟩)
               | (go_at_call 134;refine (HPP.out).mono ?_;rintro e w' ⟨rfl,hb⟩))
              go_roundw
              case rel=>exact ⟨n + 1,by omega,by go_num,by rw [HR.out,HT.out,HQ.out];simp [HH.out.1,HH.out.2,HSS.out,HO2.out,HPL.out,HD.out],thru HW.out (thru (bel1 _ _) hb)⟩
              case measure=>simp [intOf];omega
            ·have HSS:=Lib.hid (show isSet o.data.toList = true by rw [HSET.out,h61,h58];rfl);cases hnm:nameL t.data.toList
             ·rw [hnm] at hNA;have HNA:=Lib.hid hNA;have HH:=Lib.hid hnm;clear hnm hNA
              go_wp2_with (first
               | (go_at_call 157;refine (HPA.out _).mono ?_;rintro e w' ⟨rfl,rfl⟩)
               | (go_at_call 158;refine (HOP.out _).mono ?_;rintro e w' ⟨rfl,rfl⟩)
               | (go_at_call 88;refine (HNA.out _).mono ?_;rintro e w' ⟨rfl,rfl⟩)
               | (go_at_call 134;refine (HPP.out).mono ?_;rintro e w' ⟨rfl,hb⟩))
              go_ret;exact ⟨ret_bool (by rw [HR.out,HT.out];simp [HH.out,HSS.out]),thru HW.out (bel1 _ _)⟩
             ·rw [hnm] at hNA;have HNA:=Lib.hid hNA;have HNN:=Lib.hid hnm;clear hnm hNA;cases hrec:rightL none f (wth false) (d + 1)
              ·rw [hrec] at hPP;have HPP:=Lib.hid hPP;have HH:=Lib.hid hrec;clear hrec hPP
               go_wp2_with (first
                | (go_at_call 157;refine (HPA.out _).mono ?_;rintro e w' ⟨rfl,rfl⟩)
                | (go_at_call 158;refine (HOP.out _).mono ?_;rintro e w' ⟨rfl,rfl⟩)
                | (go_at_call 88;refine (HNA.out _).mono ?_;rintro e w' ⟨rfl,rfl⟩)
                | (go_at_call 134;refine (HPP.out).mono ?_;rintro e w' ⟨rfl,hb⟩))
               go_ret;exact ⟨ret_bool (by rw [HR.out,HT.out];simp [HH.out]),thru HW.out (thru (bel1 _ _) hb)⟩
              ·rw [hrec] at hPP;have HPP:=Lib.hid hPP;have HH:=Lib.hid (show o.toList.isEmpty = false∧rightL none f (wth false) (d + 1) = true from ⟨he,hrec⟩);clear hrec hPP
               go_wp2_with (first
                | (go_at_call 157;refine (HPA.out _).mono ?_;rintro e w' ⟨rfl,rfl⟩)
                | (go_at_call 158;refine (HOP.out _).mono ?_;rintro e w' ⟨rfl,rfl⟩)
                | (go_at_call 88;refine (HNA.out _).mono ?_;rintro e w' ⟨rfl,rfl⟩)
                | (go_at_call 134;refine (HPP.out).mono ?_;rintro e w' ⟨rfl,hb⟩))
               go_roundw
               case rel=>exact ⟨n + 1,by omega,by go_num,by rw [HR.out,HT.out,HQ.out];simp [HH.out.1,HH.out.2,HSS.out,HO2.out,HPL.out,HD.out,HNN.out],thru HW.out (thru (bel1 _ _) hb)⟩
               case measure=>simp [intOf];omega
           ·have HSS:=Lib.hid (show isSet o.data.toList = true by rw [HSET.out,h61];rfl);cases hnm:nameL t.data.toList
            ·rw [hnm] at hNA;have HNA:=Lib.hid hNA;have HH:=Lib.hid hnm;clear hnm hNA
             go_wp2_with (first
              | (go_at_call 157;refine (HPA.out _).mono ?_;rintro e w' ⟨rfl,rfl⟩)
              | (go_at_call 158;refine (HOP.out _).mono ?_;rintro e w' ⟨rfl,rfl⟩)
              | (go_at_call 88;refine (HNA.out _).mono ?_;rintro e w' ⟨rfl,rfl⟩)
              | (go_at_call 134;refine (HPP.out).mono ?_;rintro e w' ⟨rfl,hb⟩))
             go_ret;exact ⟨ret_bool (by rw [HR.out,HT.out];simp [HH.out,HSS.out]),thru HW.out (bel1 _ _)⟩
            ·rw [hnm] at hNA;have HNA:=Lib.hid hNA;have HNN:=Lib.hid hnm;clear hnm hNA;cases hrec:rightL none f (wth false) (d + 1)
             ·rw [hrec] at hPP;have HPP:=Lib.hid hPP;have HH:=Lib.hid hrec;clear hrec hPP
              go_wp2_with (first
               | (go_at_call 157;refine (HPA.out _).mono ?_;rintro e w' ⟨rfl,rfl⟩)
               | (go_at_call 158;refine (HOP.out _).mono ?_;rintro e w' ⟨rfl,rfl⟩)
               | (go_at_call 88;refine (HNA.out _).mono ?_;rintro e w' ⟨rfl,rfl⟩)
               | (go_at_call 134;refine (HPP.out).mono ?_;rintro e w' ⟨rfl,hb⟩))
              go_ret;exact ⟨ret_bool (by rw [HR.out,HT.out];simp [HH.out]),thru HW.out (thru (bel1 _ _) hb)⟩
             ·rw [hrec] at hPP;have HPP:=Lib.hid hPP;have HH:=Lib.hid (show o.toList.isEmpty = false∧rightL none f (wth false) (d + 1) = true from ⟨he,hrec⟩);clear hrec hPP
              go_wp2_with (first
               | (go_at_call 157;refine (HPA.out _).mono ?_;rintro e w' ⟨rfl,rfl⟩)
               | (go_at_call 158;refine (HOP.out _).mono ?_;rintro e w' ⟨rfl,rfl⟩)
               | (go_at_call 88;refine (HNA.out _).mono ?_;rintro e w' ⟨rfl,rfl⟩)
               | (go_at_call 134;refine (HPP.out).mono ?_;rintro e w' ⟨rfl,hb⟩))
              go_roundw
              case rel=>exact ⟨n + 1,by omega,by go_num,by rw [HR.out,HT.out,HQ.out];simp [HH.out.1,HH.out.2,HSS.out,HO2.out,HPL.out,HD.out,HNN.out],thru HW.out (thru (bel1 _ _) hb)⟩
              case measure=>simp [intOf];omega
         ·have heb:(o.toList != []) = false:=by rw [bne,show (o.toList == []) = o.toList.isEmpty by cases o.toList <;> rfl,he];rfl
          have h0:o.toList = []:=by simpa using he
          have h61:(o.toList == [61]) = false:=by rw [h0];rfl
          have h58:(o.toList == [58,61]) = false:=by rw [h0];rfl
          have HSS:=Lib.hid (show isSet o.data.toList = false by rw [HSET.out,h61,h58];rfl);have HE:=Lib.hid he;have HOP:=Lib.hid hOP;clear h0 hOP
          by_cases hfl:f.len = 0
          ·have hfI:((f.len:Int) > 0) = False:=by simp;omega
           have hfJ:(0 < (f.len:Int)) = False:=by simp;omega
           have hfK:(0 < f.len) = False:=by simp;omega
           have HF:=Lib.hid (show (f.len == 0) = true by simp [hfl]);clear hfl;cases hrec:rightL none f (wth false) (d + 1)
           ·rw [hrec] at hPP;have HPP:=Lib.hid hPP;have HH:=Lib.hid hrec;clear hrec hPP
            go_wp2_with (first
             | (go_at_call 157;refine (HPA.out _).mono ?_;rintro e w' ⟨rfl,rfl⟩)
             | (go_at_call 158;refine (HOP.out _).mono ?_;rintro e w' ⟨rfl,rfl⟩)
             | (go_at_call 88;refine (HNA.out _).mono ?_;rintro e w' ⟨rfl,rfl⟩)
             | (go_at_call 134;refine (HPP.out).mono ?_;rintro e w' ⟨rfl,hb⟩))
            go_ret;exact ⟨ret_bool (by rw [HR.out,HT.out];simp [HH.out]),thru HW.out (thru (bel1 _ _) hb)⟩
           ·rw [hrec] at hPP;have HPP:=Lib.hid hPP;have HH:=Lib.hid hrec;clear hrec hPP
            go_wp2_with (first
             | (go_at_call 157;refine (HPA.out _).mono ?_;rintro e w' ⟨rfl,rfl⟩)
             | (go_at_call 158;refine (HOP.out _).mono ?_;rintro e w' ⟨rfl,rfl⟩)
             | (go_at_call 88;refine (HNA.out _).mono ?_;rintro e w' ⟨rfl,rfl⟩)
             | (go_at_call 134;refine (HPP.out).mono ?_;rintro e w' ⟨rfl,hb⟩))
            go_roundw
            case rel=>exact ⟨n + 1,by omega,by go_num,by rw [HR.out,HT.out,HQ.out];simp [HH.out,HE.out,HF.out,HSS.out,HPL.out,HD.out],thru HW.out (thru (bel1 _ _) hb)⟩
            case measure=>simp [intOf];omega
          ·have hfI:((f.len:Int) > 0) = True:=by simp;omega
           have hfJ:(0 < (f.len:Int)) = True:=by simp;omega
           have hfK:(0 < f.len) = True:=by simp;omega
           have HF:=Lib.hid (show (f.len == 0) = false by simp [hfl]);clear hfl
           go_wp2_with (first
            | (go_at_call 157;refine (HPA.out _).mono ?_;rintro e w' ⟨rfl,rfl⟩)
            | (go_at_call 158;refine (HOP.out _).mono ?_;rintro e w' ⟨rfl,rfl⟩)
            | (go_at_call 88;refine (HNA.out _).mono ?_;rintro e w' ⟨rfl,rfl⟩)
            | (go_at_call 134;refine (HPP.out).mono ?_;rintro e w' ⟨rfl,hb⟩))
           go_ret;exact ⟨ret_bool (by rw [HR.out,HT.out];simp [HE.out,HF.out]),thru HW.out (bel1 _ _)⟩
        ·replace hPP:=hPP true
         rw [show ((wth true:Nat):Int) = 2 from rfl] at hPP;have HQ:=Lib.hid (show (at' == 2 && !true) = false by rw [HQ0.out];rfl);cases he:o.toList.isEmpty
         ·have heb:(o.toList != []) = true:=by rw [bne,show (o.toList == []) = o.toList.isEmpty by cases o.toList <;> rfl,he];rfl
          cases hop:isOper o.data.toList
          ·rw [hop] at hOP;have HOP:=Lib.hid hOP;have HH:=Lib.hid (show o.toList.isEmpty = false∧isOper o.data.toList = false from ⟨he,hop⟩);clear hop hOP
           go_wp2_with (first
            | (go_at_call 157;refine (HPA.out _).mono ?_;rintro e w' ⟨rfl,rfl⟩)
            | (go_at_call 158;refine (HOP.out _).mono ?_;rintro e w' ⟨rfl,rfl⟩)
            | (go_at_call 88;refine (HNA.out _).mono ?_;rintro e w' ⟨rfl,rfl⟩)
            | (go_at_call 134;refine (HPP.out).mono ?_;rintro e w' ⟨rfl,hb⟩))
           go_ret;exact ⟨ret_bool (by rw [HR.out,HT.out];simp [HH.out.1,HH.out.2]),thru HW.out (bel1 _ _)⟩
          ·rw [hop] at hOP;have HOP:=Lib.hid hOP;have HO2:=Lib.hid hop;clear hop hOP;cases h61:(o.toList == [61])
           ·cases h58:(o.toList == [58,61])
            ·have HSS:=Lib.hid (show isSet o.data.toList = false by rw [HSET.out,h61,h58];rfl);cases hrec:rightL none f (wth true) (d + 1)
             ·rw [hrec] at hPP;have HPP:=Lib.hid hPP;have HH:=Lib.hid hrec;clear hrec hPP
              go_wp2_with (first
               | (go_at_call 157;refine (HPA.out _).mono ?_;rintro e w' ⟨rfl,rfl⟩)
               | (go_at_call 158;refine (HOP.out _).mono ?_;rintro e w' ⟨rfl,rfl⟩)
               | (go_at_call 88;refine (HNA.out _).mono ?_;rintro e w' ⟨rfl,rfl⟩)
               | (go_at_call 134;refine (HPP.out).mono ?_;rintro e w' ⟨rfl,hb⟩))
              go_ret;exact ⟨ret_bool (by rw [HR.out,HT.out];simp [HH.out]),thru HW.out (thru (bel1 _ _) hb)⟩
             ·rw [hrec] at hPP;have HPP:=Lib.hid hPP;have HH:=Lib.hid (show o.toList.isEmpty = false∧rightL none f (wth true) (d + 1) = true from ⟨he,hrec⟩);clear hrec hPP
              go_wp2_with (first
               | (go_at_call 157;refine (HPA.out _).mono ?_;rintro e w' ⟨rfl,rfl⟩)
               | (go_at_call 158;refine (HOP.out _).mono ?_;rintro e w' ⟨rfl,rfl⟩)
               | (go_at_call 88;refine (HNA.out _).mono ?_;rintro e w' ⟨rfl,rfl⟩)
               | (go_at_call 134;refine (HPP.out).mono ?_;rintro e w' ⟨rfl,hb⟩))
              go_roundw
              case rel=>exact ⟨n + 1,by omega,by go_num,by rw [HR.out,HT.out,HQ.out];simp [HH.out.1,HH.out.2,HSS.out,HO2.out,HPL.out,HD.out],thru HW.out (thru (bel1 _ _) hb)⟩
              case measure=>simp [intOf];omega
            ·have HSS:=Lib.hid (show isSet o.data.toList = true by rw [HSET.out,h61,h58];rfl);cases hnm:nameL t.data.toList
             ·rw [hnm] at hNA;have HNA:=Lib.hid hNA;have HH:=Lib.hid hnm;clear hnm hNA
              go_wp2_with (first
               | (go_at_call 157;refine (HPA.out _).mono ?_;rintro e w' ⟨rfl,rfl⟩)
               | (go_at_call 158;refine (HOP.out _).mono ?_;rintro e w' ⟨rfl,rfl⟩)
               | (go_at_call 88;refine (HNA.out _).mono ?_;rintro e w' ⟨rfl,rfl⟩)
               | (go_at_call 134;refine (HPP.out).mono ?_;rintro e w' ⟨rfl,hb⟩))
              go_ret;exact ⟨ret_bool (by rw [HR.out,HT.out];simp [HH.out,HSS.out]),thru HW.out (bel1 _ _)⟩
             ·rw [hnm] at hNA;have HNA:=Lib.hid hNA;have HNN:=Lib.hid hnm;clear hnm hNA;cases hrec:rightL none f (wth true) (d + 1)
              ·rw [hrec] at hPP;have HPP:=Lib.hid hPP;have HH:=Lib.hid hrec;clear hrec hPP
               go_wp2_with (first
                | (go_at_call 157;refine (HPA.out _).mono ?_;rintro e w' ⟨rfl,rfl⟩)
                | (go_at_call 158;refine (HOP.out _).mono ?_;rintro e w' ⟨rfl,rfl⟩)
                | (go_at_call 88;refine (HNA.out _).mono ?_;rintro e w' ⟨rfl,rfl⟩)
                | (go_at_call 134;refine (HPP.out).mono ?_;rintro e w' ⟨rfl,hb⟩))
               go_ret;exact ⟨ret_bool (by rw [HR.out,HT.out];simp [HH.out]),thru HW.out (thru (bel1 _ _) hb)⟩
              ·rw [hrec] at hPP;have HPP:=Lib.hid hPP;have HH:=Lib.hid (show o.toList.isEmpty = false∧rightL none f (wth true) (d + 1) = true from ⟨he,hrec⟩);clear hrec hPP
               go_wp2_with (first
                | (go_at_call 157;refine (HPA.out _).mono ?_;rintro e w' ⟨rfl,rfl⟩)
                | (go_at_call 158;refine (HOP.out _).mono ?_;rintro e w' ⟨rfl,rfl⟩)
                | (go_at_call 88;refine (HNA.out _).mono ?_;rintro e w' ⟨rfl,rfl⟩)
                | (go_at_call 134;refine (HPP.out).mono ?_;rintro e w' ⟨rfl,hb⟩))
               go_roundw
               case rel=>exact ⟨n + 1,by omega,by go_num,by rw [HR.out,HT.out,HQ.out];simp [HH.out.1,HH.out.2,HSS.out,HO2.out,HPL.out,HD.out,HNN.out],thru HW.out (thru (bel1 _ _) hb)⟩
               case measure=>simp [intOf];omega
           ·have HSS:=Lib.hid (show isSet o.data.toList = true by rw [HSET.out,h61];rfl);cases hnm:nameL t.data.toList
            ·rw [hnm] at hNA;have HNA:=Lib.hid hNA;have HH:=Lib.hid hnm;clear hnm hNA
             go_wp2_with (first
              | (go_at_call 157;refine (HPA.out _).mono ?_;rintro e w' ⟨rfl,rfl⟩)
              | (go_at_call 158;refine (HOP.out _).mono ?_;rintro e w' ⟨rfl,rfl⟩)
              | (go_at_call 88;refine (HNA.out _).mono ?_;rintro e w' ⟨rfl,rfl⟩)
              | (go_at_call 134;refine (HPP.out).mono ?_;rintro e w' ⟨rfl,hb⟩))
             go_ret;exact ⟨ret_bool (by rw [HR.out,HT.out];simp [HH.out,HSS.out]),thru HW.out (bel1 _ _)⟩
            ·rw [hnm] at hNA;have HNA:=Lib.hid hNA;have HNN:=Lib.hid hnm;clear hnm hNA;cases hrec:rightL none f (wth true) (d + 1)
             ·rw [hrec] at hPP;have HPP:=Lib.hid hPP;have HH:=Lib.hid hrec;clear hrec hPP
              go_wp2_with (first
               | (go_at_call 157;refine (HPA.out _).mono ?_;rintro e w' ⟨rfl,rfl⟩)
               | (go_at_call 158;refine (HOP.out _).mono ?_;rintro e w' ⟨rfl,rfl⟩)
               | (go_at_call 88;refine (HNA.out _).mono ?_;rintro e w' ⟨rfl,rfl⟩)
               | (go_at_call 134;refine (HPP.out).mono ?_;rintro e w' ⟨rfl,hb⟩))
              go_ret;exact ⟨ret_bool (by rw [HR.out,HT.out];simp [HH.out]),thru HW.out (thru (bel1 _ _) hb)⟩
             ·rw [hrec] at hPP;have HPP:=Lib.hid hPP;have HH:=Lib.hid (show o.toList.isEmpty = false∧rightL none f (wth true) (d + 1) = true from ⟨he,hrec⟩);clear hrec hPP
              go_wp2_with (first
               | (go_at_call 157;refine (HPA.out _).mono ?_;rintro e w' ⟨rfl,rfl⟩)
               | (go_at_call 158;refine (HOP.out _).mono ?_;rintro e w' ⟨rfl,rfl⟩)
               | (go_at_call 88;refine (HNA.out _).mono ?_;rintro e w' ⟨rfl,rfl⟩)
               | (go_at_call 134;refine (HPP.out).mono ?_;rintro e w' ⟨rfl,hb⟩))
              go_roundw
              case rel=>exact ⟨n + 1,by omega,by go_num,by rw [HR.out,HT.out,HQ.out];simp [HH.out.1,HH.out.2,HSS.out,HO2.out,HPL.out,HD.out,HNN.out],thru HW.out (thru (bel1 _ _) hb)⟩
              case measure=>simp [intOf];omega
         ·have heb:(o.toList != []) = false:=by rw [bne,show (o.toList == []) = o.toList.isEmpty by cases o.toList <;> rfl,he];rfl
          have h0:o.toList = []:=by simpa using he
          have h61:(o.toList == [61]) = false:=by rw [h0];rfl
          have h58:(o.toList == [58,61]) = false:=by rw [h0];rfl
          have HSS:=Lib.hid (show isSet o.data.toList = false by rw [HSET.out,h61,h58];rfl);have HE:=Lib.hid he;have HOP:=Lib.hid hOP;clear h0 hOP
          by_cases hfl:f.len = 0
          ·have hfI:((f.len:Int) > 0) = False:=by simp;omega
           have hfJ:(0 < (f.len:Int)) = False:=by simp;omega
           have hfK:(0 < f.len) = False:=by simp;omega
           have HF:=Lib.hid (show (f.len == 0) = true by simp [hfl]);clear hfl;cases hrec:rightL none f (wth true) (d + 1)
           ·rw [hrec] at hPP;have HPP:=Lib.hid hPP;have HH:=Lib.hid hrec;clear hrec hPP
            go_wp2_with (first
             | (go_at_call 157;refine (HPA.out _).mono ?_;rintro e w' ⟨rfl,rfl⟩)
             | (go_at_call 158;refine (HOP.out _).mono ?_;rintro e w' ⟨rfl,rfl⟩)
             | (go_at_call 88;refine (HNA.out _).mono ?_;rintro e w' ⟨rfl,rfl⟩)
             | (go_at_call 134;refine (HPP.out).mono ?_;rintro e w' ⟨rfl,hb⟩))
            go_ret;exact ⟨ret_bool (by rw [HR.out,HT.out];simp [HH.out]),thru HW.out (thru (bel1 _ _) hb)⟩
           ·rw [hrec] at hPP;have HPP:=Lib.hid hPP;have HH:=Lib.hid hrec;clear hrec hPP
            go_wp2_with (first
             | (go_at_call 157;refine (HPA.out _).mono ?_;rintro e w' ⟨rfl,rfl⟩)
             | (go_at_call 158;refine (HOP.out _).mono ?_;rintro e w' ⟨rfl,rfl⟩)
             | (go_at_call 88;refine (HNA.out _).mono ?_;rintro e w' ⟨rfl,rfl⟩)
             | (go_at_call 134;refine (HPP.out).mono ?_;rintro e w' ⟨rfl,hb⟩))
            go_roundw
            case rel=>exact ⟨n + 1,by omega,by go_num,by rw [HR.out,HT.out,HQ.out];simp [HH.out,HE.out,HF.out,HSS.out,HPL.out,HD.out],thru HW.out (thru (bel1 _ _) hb)⟩
            case measure=>simp [intOf];omega
          ·have hfI:((f.len:Int) > 0) = True:=by simp;omega
           have hfJ:(0 < (f.len:Int)) = True:=by simp;omega
           have hfK:(0 < f.len) = True:=by simp;omega
           have HF:=Lib.hid (show (f.len == 0) = false by simp [hfl]);clear hfl
           go_wp2_with (first
            | (go_at_call 157;refine (HPA.out _).mono ?_;rintro e w' ⟨rfl,rfl⟩)
            | (go_at_call 158;refine (HOP.out _).mono ?_;rintro e w' ⟨rfl,rfl⟩)
            | (go_at_call 88;refine (HNA.out _).mono ?_;rintro e w' ⟨rfl,rfl⟩)
            | (go_at_call 134;refine (HPP.out).mono ?_;rintro e w' ⟨rfl,hb⟩))
           go_ret;exact ⟨ret_bool (by rw [HR.out,HT.out];simp [HE.out,HF.out]),thru HW.out (bel1 _ _)⟩
       ·have HQ0:=Lib.hid (show (at' == 2) = true by rw [← natI2];exact hat);cases q
        ·have HH:=Lib.hid HQ0.out;clear hNA hOP hPP;go_wp2_with (go_at_call 157;refine (HPA.out _).mono ?_;rintro e w' ⟨rfl,rfl⟩);go_ret;exact ⟨ret_bool (by rw [HR.out,HT.out];simp [HH.out]),thru HW.out (bel1 _ _)⟩
        ·replace hPP:=hPP true
         rw [show ((wth true:Nat):Int) = 2 from rfl] at hPP;have HQ:=Lib.hid (show (at' == 2 && !true) = false by rw [HQ0.out];rfl);cases he:o.toList.isEmpty
         ·have heb:(o.toList != []) = true:=by rw [bne,show (o.toList == []) = o.toList.isEmpty by cases o.toList <;> rfl,he];rfl
          cases hop:isOper o.data.toList
          ·rw [hop] at hOP;have HOP:=Lib.hid hOP;have HH:=Lib.hid (show o.toList.isEmpty = false∧isOper o.data.toList = false from ⟨he,hop⟩);clear hop hOP
           go_wp2_with (first
            | (go_at_call 157;refine (HPA.out _).mono ?_;rintro e w' ⟨rfl,rfl⟩)
            | (go_at_call 158;refine (HOP.out _).mono ?_;rintro e w' ⟨rfl,rfl⟩)
            | (go_at_call 88;refine (HNA.out _).mono ?_;rintro e w' ⟨rfl,rfl⟩)
            | (go_at_call 134;refine (HPP.out).mono ?_;rintro e w' ⟨rfl,hb⟩))
           go_ret;exact ⟨ret_bool (by rw [HR.out,HT.out];simp [HH.out.1,HH.out.2]),thru HW.out (bel1 _ _)⟩
          ·rw [hop] at hOP;have HOP:=Lib.hid hOP;have HO2:=Lib.hid hop;clear hop hOP;cases h61:(o.toList == [61])
           ·cases h58:(o.toList == [58,61])
            ·have HSS:=Lib.hid (show isSet o.data.toList = false by rw [HSET.out,h61,h58];rfl);cases hrec:rightL none f (wth true) (d + 1)
             ·rw [hrec] at hPP;have HPP:=Lib.hid hPP;have HH:=Lib.hid hrec;clear hrec hPP
              go_wp2_with (first
               | (go_at_call 157;refine (HPA.out _).mono ?_;rintro e w' ⟨rfl,rfl⟩)
               | (go_at_call 158;refine (HOP.out _).mono ?_;rintro e w' ⟨rfl,rfl⟩)
               | (go_at_call 88;refine (HNA.out _).mono ?_;rintro e w' ⟨rfl,rfl⟩)
               | (go_at_call 134;refine (HPP.out).mono ?_;rintro e w' ⟨rfl,hb⟩))
              go_ret;exact ⟨ret_bool (by rw [HR.out,HT.out];simp [HH.out]),thru HW.out (thru (bel1 _ _) hb)⟩
             ·rw [hrec] at hPP;have HPP:=Lib.hid hPP;have HH:=Lib.hid (show o.toList.isEmpty = false∧rightL none f (wth true) (d + 1) = true from ⟨he,hrec⟩);clear hrec hPP
              go_wp2_with (first
               | (go_at_call 157;refine (HPA.out _).mono ?_;rintro e w' ⟨rfl,rfl⟩)
               | (go_at_call 158;refine (HOP.out _).mono ?_;rintro e w' ⟨rfl,rfl⟩)
               | (go_at_call 88;refine (HNA.out _).mono ?_;rintro e w' ⟨rfl,rfl⟩)
               | (go_at_call 134;refine (HPP.out).mono ?_;rintro e w' ⟨rfl,hb⟩))
              go_roundw
              case rel=>exact ⟨n + 1,by omega,by go_num,by rw [HR.out,HT.out,HQ.out];simp [HH.out.1,HH.out.2,HSS.out,HO2.out,HPL.out,HD.out],thru HW.out (thru (bel1 _ _) hb)⟩
              case measure=>simp [intOf];omega
            ·have HSS:=Lib.hid (show isSet o.data.toList = true by rw [HSET.out,h61,h58];rfl);cases hnm:nameL t.data.toList
             ·rw [hnm] at hNA;have HNA:=Lib.hid hNA;have HH:=Lib.hid hnm;clear hnm hNA
              go_wp2_with (first
               | (go_at_call 157;refine (HPA.out _).mono ?_;rintro e w' ⟨rfl,rfl⟩)
               | (go_at_call 158;refine (HOP.out _).mono ?_;rintro e w' ⟨rfl,rfl⟩)
               | (go_at_call 88;refine (HNA.out _).mono ?_;rintro e w' ⟨rfl,rfl⟩)
               | (go_at_call 134;refine (HPP.out).mono ?_;rintro e w' ⟨rfl,hb⟩))
              go_ret;exact ⟨ret_bool (by rw [HR.out,HT.out];simp [HH.out,HSS.out]),thru HW.out (bel1 _ _)⟩
             ·rw [hnm] at hNA;have HNA:=Lib.hid hNA;have HNN:=Lib.hid hnm;clear hnm hNA;cases hrec:rightL none f (wth true) (d + 1)
              ·rw [hrec] at hPP;have HPP:=Lib.hid hPP;have HH:=Lib.hid hrec;clear hrec hPP
               go_wp2_with (first
                | (go_at_call 157;refine (HPA.out _).mono ?_;rintro e w' ⟨rfl,rfl⟩)
                | (go_at_call 158;refine (HOP.out _).mono ?_;rintro e w' ⟨rfl,rfl⟩)
                | (go_at_call 88;refine (HNA.out _).mono ?_;rintro e w' ⟨rfl,rfl⟩)
                | (go_at_call 134;refine (HPP.out).mono ?_;rintro e w' ⟨rfl,hb⟩))
               go_ret;exact ⟨ret_bool (by rw [HR.out,HT.out];simp [HH.out]),thru HW.out (thru (bel1 _ _) hb)⟩
              ·rw [hrec] at hPP;have HPP:=Lib.hid hPP;have HH:=Lib.hid (show o.toList.isEmpty = false∧rightL none f (wth true) (d + 1) = true from ⟨he,hrec⟩);clear hrec hPP
               go_wp2_with (first
                | (go_at_call 157;refine (HPA.out _).mono ?_;rintro e w' ⟨rfl,rfl⟩)
                | (go_at_call 158;refine (HOP.out _).mono ?_;rintro e w' ⟨rfl,rfl⟩)
                | (go_at_call 88;refine (HNA.out _).mono ?_;rintro e w' ⟨rfl,rfl⟩)
                | (go_at_call 134;refine (HPP.out).mono ?_;rintro e w' ⟨rfl,hb⟩))
               go_roundw
               case rel=>exact ⟨n + 1,by omega,by go_num,by rw [HR.out,HT.out,HQ.out];simp [HH.out.1,HH.out.2,HSS.out,HO2.out,HPL.out,HD.out,HNN.out],thru HW.out (thru (bel1 _ _) hb)⟩
               case measure=>simp [intOf];omega
           ·have HSS:=Lib.hid (show isSet o.data.toList = true by rw [HSET.out,h61];rfl);cases hnm:nameL t.data.toList
            ·rw [hnm] at hNA;have HNA:=Lib.hid hNA;have HH:=Lib.hid hnm;clear hnm hNA
             go_wp2_with (first
              | (go_at_call 157;refine (HPA.out _).mono ?_;rintro e w' ⟨rfl,rfl⟩)
              | (go_at_call 158;refine (HOP.out _).mono ?_;rintro e w' ⟨rfl,rfl⟩)
              | (go_at_call 88;refine (HNA.out _).mono ?_;rintro e w' ⟨rfl,rfl⟩)
              | (go_at_call 134;refine (HPP.out).mono ?_;rintro e w' ⟨rfl,hb⟩))
             go_ret;exact ⟨ret_bool (by rw [HR.out,HT.out];simp [HH.out,HSS.out]),thru HW.out (bel1 _ _)⟩
            ·rw [hnm] at hNA;have HNA:=Lib.hid hNA;have HNN:=Lib.hid hnm;clear hnm hNA;cases hrec:rightL none f (wth true) (d + 1)
             ·rw [hrec] at hPP;have HPP:=Lib.hid hPP;have HH:=Lib.hid hrec;clear hrec hPP
              go_wp2_with (first
               | (go_at_call 157;refine (HPA.out _).mono ?_;rintro e w' ⟨rfl,rfl⟩)
               | (go_at_call 158;refine (HOP.out _).mono ?_;rintro e w' ⟨rfl,rfl⟩)
               | (go_at_call 88;refine (HNA.out _).mono ?_;rintro e w' ⟨rfl,rfl⟩)
               | (go_at_call 134;refine (HPP.out).mono ?_;rintro e w' ⟨rfl,hb⟩))
              go_ret;exact ⟨ret_bool (by rw [HR.out,HT.out];simp [HH.out]),thru HW.out (thru (bel1 _ _) hb)⟩
             ·rw [hrec] at hPP;have HPP:=Lib.hid hPP;have HH:=Lib.hid (show o.toList.isEmpty = false∧rightL none f (wth true) (d + 1) = true from ⟨he,hrec⟩);clear hrec hPP
              go_wp2_with (first
               | (go_at_call 157;refine (HPA.out _).mono ?_;rintro e w' ⟨rfl,rfl⟩)
               | (go_at_call 158;refine (HOP.out _).mono ?_;rintro e w' ⟨rfl,rfl⟩)
               | (go_at_call 88;refine (HNA.out _).mono ?_;rintro e w' ⟨rfl,rfl⟩)
               | (go_at_call 134;refine (HPP.out).mono ?_;rintro e w' ⟨rfl,hb⟩))
              go_roundw
              case rel=>exact ⟨n + 1,by omega,by go_num,by rw [HR.out,HT.out,HQ.out];simp [HH.out.1,HH.out.2,HSS.out,HO2.out,HPL.out,HD.out,HNN.out],thru HW.out (thru (bel1 _ _) hb)⟩
              case measure=>simp [intOf];omega
         ·have heb:(o.toList != []) = false:=by rw [bne,show (o.toList == []) = o.toList.isEmpty by cases o.toList <;> rfl,he];rfl
          have h0:o.toList = []:=by simpa using he
          have h61:(o.toList == [61]) = false:=by rw [h0];rfl
          have h58:(o.toList == [58,61]) = false:=by rw [h0];rfl
          have HSS:=Lib.hid (show isSet o.data.toList = false by rw [HSET.out,h61,h58];rfl);have HE:=Lib.hid he;have HOP:=Lib.hid hOP;clear h0 hOP
          by_cases hfl:f.len = 0
          ·have hfI:((f.len:Int) > 0) = False:=by simp;omega
           have hfJ:(0 < (f.len:Int)) = False:=by simp;omega
           have hfK:(0 < f.len) = False:=by simp;omega
           have HF:=Lib.hid (show (f.len == 0) = true by simp [hfl]);clear hfl;cases hrec:rightL none f (wth true) (d + 1)
           ·rw [hrec] at hPP;have HPP:=Lib.hid hPP;have HH:=Lib.hid hrec;clear hrec hPP
            go_wp2_with (first
             | (go_at_call 157;refine (HPA.out _).mono ?_;rintro e w' ⟨rfl,rfl⟩)
             | (go_at_call 158;refine (HOP.out _).mono ?_;rintro e w' ⟨rfl,rfl⟩)
             | (go_at_call 88;refine (HNA.out _).mono ?_;rintro e w' ⟨rfl,rfl⟩)
             | (go_at_call 134;refine (HPP.out).mono ?_;rintro e w' ⟨rfl,hb⟩))
            go_ret;exact ⟨ret_bool (by rw [HR.out,HT.out];simp [HH.out]),thru HW.out (thru (bel1 _ _) hb)⟩
           ·rw [hrec] at hPP;have HPP:=Lib.hid hPP;have HH:=Lib.hid hrec;clear hrec hPP
            go_wp2_with (first
             | (go_at_call 157;refine (HPA.out _).mono ?_;rintro e w' ⟨rfl,rfl⟩)
             | (go_at_call 158;refine (HOP.out _).mono ?_;rintro e w' ⟨rfl,rfl⟩)
             | (go_at_call 88;refine (HNA.out _).mono ?_;rintro e w' ⟨rfl,rfl⟩)
             | (go_at_call 134;refine (HPP.out).mono ?_;rintro e w' ⟨rfl,hb⟩))
            go_roundw
            case rel=>exact ⟨n + 1,by omega,by go_num,by rw [HR.out,HT.out,HQ.out];simp [HH.out,HE.out,HF.out,HSS.out,HPL.out,HD.out],thru HW.out (thru (bel1 _ _) hb)⟩
            case measure=>simp [intOf];omega
          ·have hfI:((f.len:Int) > 0) = True:=by simp;omega
           have hfJ:(0 < (f.len:Int)) = True:=by simp;omega
           have hfK:(0 < f.len) = True:=by simp;omega
           have HF:=Lib.hid (show (f.len == 0) = false by simp [hfl]);clear hfl
           go_wp2_with (first
            | (go_at_call 157;refine (HPA.out _).mono ?_;rintro e w' ⟨rfl,rfl⟩)
            | (go_at_call 158;refine (HOP.out _).mono ?_;rintro e w' ⟨rfl,rfl⟩)
            | (go_at_call 88;refine (HNA.out _).mono ?_;rintro e w' ⟨rfl,rfl⟩)
            | (go_at_call 134;refine (HPP.out).mono ?_;rintro e w' ⟨rfl,hb⟩))
           go_ret;exact ⟨ret_bool (by rw [HR.out,HT.out];simp [HE.out,HF.out]),thru HW.out (bel1 _ _)⟩
     ·have hdI:((d:Int) > 200) = True:=by simp;omega
      have hdJ:(200 < (d:Int)) = True:=by simp;omega
      have HH:=Lib.hid hd2;clear hd2 hPA hNA hOP;go_wp2;go_ret;exact ⟨ret_bool (by rw [HR.out,HT.out];simp [HH.out]),thru HW.out (bel1 _ _)⟩
   ·have hk:k = 1:=by simpa using hk1
    subst hk;rw [step_text] at hstep;have HT:=Lib.hid hstep;clear hstep hk1;have hX:∀ dd os,Calls Tryz.prog 156 #[pv 1 q t o a1 f.len ca1,.int .i64 at'] (grow (redrawn (wr.alloc (.cells #[.int .i64 1,.bool q,.string t,.string o,.slice a1 f.len ca1] 75)) dd) os) fun e w''=>e = .returned (.bool (rtextB q t.data.toList o.data.toList f.len at'))∧∃ p:Regrown,w'' = grow (redrawn (wr.alloc (.cells #[.int .i64 1,.bool q,.string t,.string o,.slice a1 f.len ca1] 75)) p.d) p.os:=fun dd os =>
     Calls.regrown_of (rtext_any 1 q t o a1 f.len ca1 at' _ ht ha)
    have HBX:=Lib.hid (show Box (wr.alloc (.cells #[.int .i64 1,.bool q,.string t,.string o,.slice a1 f.len ca1] 75)) wr.heap.size 1 q t o a1 f.len ca1 from heap_alloc_new wr _);have HBL:=Lib.hid (fun dq osq=>thru HW.out (thru (bel1 wr (.cells #[.int .i64 1,.bool q,.string t,.string o,.slice a1 f.len ca1] 75)) (below_regrown _ dq osq)));have k0:=cell_regrown (show (wr.alloc (.cells #[.int .i64 1,.bool q,.string t,.string o,.slice a1 f.len ca1] 75)).cell? ⟨wr.heap.size,0,none⟩ = some (.int .i64 1) from HBX.out.cell 0);have k1:=cell_regrown (show (wr.alloc (.cells #[.int .i64 1,.bool q,.string t,.string o,.slice a1 f.len ca1] 75)).cell? ⟨wr.heap.size,1,none⟩ = some (.bool q) from HBX.out.cell 1);have k2:=cell_regrown (show (wr.alloc (.cells #[.int .i64 1,.bool q,.string t,.string o,.slice a1 f.len ca1] 75)).cell? ⟨wr.heap.size,2,none⟩ = some (.string t) from HBX.out.cell 2);have k3:=cell_regrown (show (wr.alloc (.cells #[.int .i64 1,.bool q,.string t,.string o,.slice a1 f.len ca1] 75)).cell? ⟨wr.heap.size,3,none⟩ = some (.string o) from HBX.out.cell 3);have k4:=cell_regrown (show (wr.alloc (.cells #[.int .i64 1,.bool q,.string t,.string o,.slice a1 f.len ca1] 75)).cell? ⟨wr.heap.size,4,none⟩ = some (.slice a1 f.len ca1) from HBX.out.cell 4);cases hx:rtextB q t.data.toList o.data.toList f.len at'
    ·rw [hx] at hX;have HX:=Lib.hid hX;have HH:=Lib.hid hx;clear hx hX;go_wp2;refine Qu.region (by kernel_rfl) (by kernel_rfl) ?_
     repeat (first
      | (first | refine Qu.carry0 rfl (fun K hK=>?_) | refine Qu.carryG rfl rfl rfl (fun K hK=>?_)
         go_simp
         first
         | (refine hK _ ?_;clear hK K)
         | (apply Exists.intro;refine ⟨fun _=>?_,hK _ ?_⟩;(first | exact HX.out _ _);clear hK K))
      | (refine Qu.passG rfl rfl rfl (fun K hK=>?_);go_simp;refine hK _ ?_;clear hK K))
     refine Qu.fin ?_;rintro ⟨dq,osq⟩;go_wp2;go_ret;exact ⟨ret_bool (by rw [HR.out,HT.out];simp [HH.out]),HBL.out dq osq⟩
    ·rw [hx] at hX;have HX:=Lib.hid hX;have HH:=Lib.hid hx;clear hx hX;rcases Nat.eq_zero_or_pos n with h0 | hpos
     ·have HPV:=Lib.hid (show ((prevAt l n).any fun x=>x.1 == 1 && x.2 == q) = false by rw [h0];rfl);have hzz:((n:Int) > 0) = False:=by simp;omega
      have hzy:(0 < n) = False:=by simp;omega
      clear h0;go_wp2;refine Qu.region (by kernel_rfl) (by kernel_rfl) ?_
      repeat (first
       | (first | refine Qu.carry0 rfl (fun K hK=>?_) | refine Qu.carryG rfl rfl rfl (fun K hK=>?_)
          go_simp
          first
          | (refine hK _ ?_;clear hK K)
          | (apply Exists.intro;refine ⟨fun _=>?_,hK _ ?_⟩;(first | exact HX.out _ _);clear hK K))
       | (refine Qu.passG rfl rfl rfl (fun K hK=>?_);go_simp;refine hK _ ?_;clear hK K))
      refine Qu.fin ?_;rintro ⟨dq,osq⟩;go_wp2;go_roundw
      case rel=>exact ⟨n + 1,by omega,by go_num,by rw [HR.out,HT.out];simp [HH.out,HPV.out],HBL.out dq osq⟩
      case measure=>simp [intOf];omega
     ·obtain ⟨m,hm⟩:∃ m,n = m + 1:=⟨n - 1,by omega⟩;have hmlt:m < l.len:=by omega
      obtain ⟨k',q',t',o',f',r',hdm⟩:=PL.drop_at hmlt;obtain ⟨b2,p2,hb2,_,c20,c21,c22,c23,_,_,a2,ca2,c24,hl2⟩:=(HA.out.below HW.out).get hdm;obtain ⟨rfl,rfl⟩:b1 = b2∧p1 = p2:=by simpa using hb2
      have hwm:IntKind.i64.wrap ((n:Int) - 1) = (m:Int):=(wrapEq _).trans ((IntWalk.wrap64_in _ ⟨by omega,by omega⟩).trans (by omega));have hpv:((prevAt l n).any fun x=>x.1 == 1 && x.2 == q) = (k' == 1 && q' == q):=by rw [hm];simp [prevAt,hdm]
      have HM:=Lib.hid hm;have m0:=cell_re c20 (.cells #[.int .i64 1,.bool q,.string t,.string o,.slice a1 f.len ca1] 75);have m1:=cell_re c21 (.cells #[.int .i64 1,.bool q,.string t,.string o,.slice a1 f.len ca1] 75);clear hb2 hm hdm hl2 c20 c21 c22 c23 c24;cases hk':(k' == 1)
      ·have HPV:=Lib.hid (show ((prevAt l n).any fun x=>x.1 == 1 && x.2 == q) = false by rw [hpv,hk'];rfl);clear hpv;go_wp2;refine Qu.region (by kernel_rfl) (by kernel_rfl) ?_
       repeat (first
        | (first | refine Qu.carry0 rfl (fun K hK=>?_) | refine Qu.carryG rfl rfl rfl (fun K hK=>?_)
           go_simp
           first
           | (refine hK _ ?_;clear hK K)
           | (apply Exists.intro;refine ⟨fun _=>?_,hK _ ?_⟩;(first | exact HX.out _ _);clear hK K))
        | (refine Qu.passG rfl rfl rfl (fun K hK=>?_);go_simp;refine hK _ ?_;clear hK K))
       refine Qu.fin ?_;rintro ⟨dq,osq⟩;go_wp2;go_roundw
       case rel=>exact ⟨n + 1,by omega,by go_num,by rw [HR.out,HT.out];simp [HH.out,HPV.out],HBL.out dq osq⟩
       case measure=>simp [intOf];omega
      ·cases hq':(q' == q)
       ·have HPV:=Lib.hid (show ((prevAt l n).any fun x=>x.1 == 1 && x.2 == q) = false by rw [hpv,hk',hq'];rfl);clear hpv;go_wp2;refine Qu.region (by kernel_rfl) (by kernel_rfl) ?_
        repeat (first
         | (first | refine Qu.carry0 rfl (fun K hK=>?_) | refine Qu.carryG rfl rfl rfl (fun K hK=>?_)
            go_simp
            first
            | (refine hK _ ?_;clear hK K)
            | (apply Exists.intro;refine ⟨fun _=>?_,hK _ ?_⟩;(first | exact HX.out _ _);clear hK K))
         | (refine Qu.passG rfl rfl rfl (fun K hK=>?_);go_simp;refine hK _ ?_;clear hK K))
        refine Qu.fin ?_;rintro ⟨dq,osq⟩;go_wp2;go_roundw
        case rel=>exact ⟨n + 1,by omega,by go_num,by rw [HR.out,HT.out];simp [HH.out,HPV.out],HBL.out dq osq⟩
        case measure=>simp [intOf];omega
       ·have HPV:=Lib.hid (show ((prevAt l n).any fun x=>x.1 == 1 && x.2 == q) = true by rw [hpv,hk',hq'];rfl);clear hpv HH;have HH:=HPV;go_wp2;refine Qu.region (by kernel_rfl) (by kernel_rfl) ?_
        repeat (first
         | (first | refine Qu.carry0 rfl (fun K hK=>?_) | refine Qu.carryG rfl rfl rfl (fun K hK=>?_)
            go_simp
            first
            | (refine hK _ ?_;clear hK K)
            | (apply Exists.intro;refine ⟨fun _=>?_,hK _ ?_⟩;(first | exact HX.out _ _);clear hK K))
         | (refine Qu.passG rfl rfl rfl (fun K hK=>?_);go_simp;refine hK _ ?_;clear hK K))
        refine Qu.fin ?_;rintro ⟨dq,osq⟩;go_wp2;go_ret;exact ⟨ret_bool (by rw [HR.out,HT.out];simp [HH.out]),HBL.out dq osq⟩
  ·obtain rfl:n = l.len:=by omega
   go_wp2;go_ret;exact ⟨ret_bool (by rw [HR.out,PL.drop_end (Nat.le_refl _)];rfl),HW.out⟩
theorem rparts_any (n:Nat):∀ (l:PL) (a:Option Addr) (cap at' d:Nat) (w:World),l.size < n→at'≤2→d≤1000→Lies w a cap l →
  Calls Tryz.prog 134 #[.slice a l.len cap,.int .i64 at',.int .i64 d] w fun e w'=>e = .returned (.bool (rightL none l at' d))∧Below w.heap.size w w':=by
 induction n with
 | zero=>intro _ _ _ _ _ _ h;omega
 | succ n ih =>
  intro l a cap at' d w hn ha hd hl;refine rparts_step l a cap at' d w ha hd hl (fun f a cap q w hf hd h=>?_);have:=ih f a cap (wth q) (d + 1) w (by omega) (by cases q <;> simp [wth]) (by omega) h;simpa only [Int.natCast_add,Int.natCast_one] using this
end Rf
end Go.Proofs.YtjmpfihopeohbaaGreatDoor
