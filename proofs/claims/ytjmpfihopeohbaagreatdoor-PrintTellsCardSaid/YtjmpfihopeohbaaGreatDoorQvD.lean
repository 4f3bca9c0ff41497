/- The reference: what is written of words, of a simple command, of a list's items. -/
import Derived.Test.YtjmpfihopeohbaaGreatDoorTrW
import Derived.Test.YtjmpfihopeohbaaGreatDoorQwF
set_option maxHeartbeats 3200000
set_option maxRecDepth 100000
namespace Go.Proofs.YtjmpfihopeohbaaGreatDoor
open Go.RowKit Go.Sort
namespace Rq
open Cls Pt Tr Pr
open Ps (ND CD toN toC nd listD)
theorem app_l (a b:ByteArray):(a ++ b).data.toList = a.data.toList ++ b.data.toList:=by simp
theorem of_l {s:ByteArray} {l:List UInt8} (h:s.data.toList = l):Ending.returned (.string s) = .returned (.string ⟨l.toArray⟩):=by rw [← h]
theorem size_l (s:ByteArray):s.size = s.data.toList.length:=(lenB s).symm
def Fine (l:PL):Prop:=rightL none l 0 1 = true∧Bd.bytes l≤100000
theorem rtext_any (l:PL) (hf:Fine l) (a:Option Addr) (cap:Nat) (w:World) (hl:Lies w a cap l) :
  Calls Tryz.prog 65 #[.slice a l.len cap] w fun e w'=>e = .returned (.string ⟨(wordT l).toArray⟩)∧Below w.heap.size w w':=by
 have h:=Rf.rTextTop_any l a cap w hl hf.2;rw [show Bd.valueText l = wordT l by simp [Bd.valueText,hf.1,wordT]] at h;exact h
def sep (f b:T) (n:Nat):T:=if n = 0 then f else b
theorem behind_cons (f b x:T) (r:List T):behind f b (x :: r) = f ++ (x ++ behind b b r):=rfl
theorem rwords_any (l:List PL) (hf:∀ x ∈ l,Fine x) (a:Option Addr) (cap:Nat) (f b:ByteArray) (w:World) (hl:Sl 1 (PW w) a cap l) (hn:(behind f.data.toList b.data.toList (l.map wordT)).length≤1000000) :
  Calls Tryz.prog 44 #[.slice a l.length cap,.string f,.string b] w fun e w'=>e = .returned (.string ⟨(behind f.data.toList b.data.toList (l.map wordT)).toArray⟩)∧Below w.heap.size w w':=by
 have hle:=hl.le;have HL:=Lib.hid hl;have HF:=Lib.hid hf;have HN:=Lib.hid hn;clear hl hf hn;go_enter Tryz.func44,Tryz.ntmps44;go_wp2
 go_loopw [12,7] (fun x y wr=>∃ (n:Nat) (s:ByteArray),n≤l.length∧x = .int .i64 n∧y = .string s∧behind f.data.toList b.data.toList (l.map wordT) = s.data.toList ++ behind (sep f.data.toList b.data.toList n) b.data.toList ((l.drop n).map wordT)∧Below w.heap.size w wr) (fun x y wr=>l.length - (intOf x).toNat)
 case atStart=>exact ⟨0,⟨#[]⟩,Nat.zero_le _,rfl,rfl,rfl,Below.refl _ _⟩
 case round =>
  obtain ⟨n,s,hn,rfl,rfl,hr,hbw⟩:=hrel;have HR:=Lib.hid hr;have HW:=Lib.hid hbw;clear hr hbw
  by_cases hlt:n < l.length
  ·obtain ⟨b1,o1,rfl,a1,c1,e1,hl1⟩:=(sl_below (P:=PW) (fun h=>h.below HW.out) HL.out).get (List.getElem?_eq_getElem hlt);rw [Nat.mul_one] at e1;have hC:=fun W (hb:Below wr.heap.size wr W)=>rtext_any l[n] (HF.out _ (List.getElem_mem hlt)) a1 c1 W (hl1.below hb);have hstep:behind f.data.toList b.data.toList (l.map wordT) = (s.data.toList ++ sep f.data.toList b.data.toList n) ++ wordT l[n] ++ behind (sep f.data.toList b.data.toList (n + 1)) b.data.toList ((l.drop (n + 1)).map wordT):=by
    rw [HR.out,List.drop_eq_getElem_cons hlt,List.map_cons,behind_cons];simp [sep,List.append_assoc]
   have hlen:=congrArg List.length hstep;have hN:=HN.out;simp only [List.length_append] at hlen;generalize l[n] = x at *
   obtain ⟨t,ht⟩:∃ t:ByteArray,t = ⟨(wordT x).toArray⟩:=⟨_,rfl⟩;have htl:t.data.toList = wordT x:=by rw [ht]
   rw [← ht] at hC;rw [← htl] at hstep hlen;have hs1:=size_l s;have hs2:=size_l t;have hs3:=size_l f;have hs4:=size_l b;have HT:=Lib.hid hstep;have HC:=Lib.hid hC;clear hl1 hstep hC ht htl
   by_cases h0:n = 0
   ·have h0':((n:Int) == 0) = true:=by rw [h0];rfl
    have hsp:sep f.data.toList b.data.toList n = f.data.toList:=if_pos h0;have HSP:=Lib.hid hsp;rw [hsp] at hlen;have g1:¬ 9223372036854775807 < s.size + f.size:=by omega
    have g2:¬ 9223372036854775807 < s.size + f.size + t.size:=by omega
    have g3:(s ++ f).size = s.size + f.size:=by simp
    clear hlen hN hsp hs1 hs2 hs3 hs4 h0;go_wp2_with (go_at_call 65;refine (HC.out _ (by first | exact Below.refl _ _ | assumption)).mono ?_;rintro e w' ⟨rfl,hb⟩);go_roundw
    case rel=>exact ⟨n + 1,s ++ f ++ t,by omega,by go_num,rfl,by rw [HT.out,HSP.out,app_l,app_l],thru HW.out (by assumption)⟩
    case measure=>simp [intOf];omega
   ·have h0':((n:Int) == 0) = false:=by rw [beq_eq_false_iff_ne];omega
    have hsp:sep f.data.toList b.data.toList n = b.data.toList:=if_neg h0;have HSP:=Lib.hid hsp;rw [hsp] at hlen;have g1:¬ 9223372036854775807 < s.size + b.size:=by omega
    have g2:¬ 9223372036854775807 < s.size + b.size + t.size:=by omega
    have g3:(s ++ b).size = s.size + b.size:=by simp
    clear hlen hN hsp hs1 hs2 hs3 hs4 h0;go_wp2_with (go_at_call 65;refine (HC.out _ (by first | exact Below.refl _ _ | assumption)).mono ?_;rintro e w' ⟨rfl,hb⟩);go_roundw
    case rel=>exact ⟨n + 1,s ++ b ++ t,by omega,by go_num,rfl,by rw [HT.out,HSP.out,app_l,app_l],thru HW.out (by assumption)⟩
    case measure=>simp [intOf];omega
  ·obtain rfl:n = l.length:=by omega
   have hfin:s.data.toList = behind f.data.toList b.data.toList (l.map wordT):=by rw [HR.out,List.drop_eq_nil_of_le (Nat.le_refl _)];simp [behind]
   have HFI:=Lib.hid hfin;clear hfin;go_wp2;go_ret;exact ⟨of_l HFI.out,HW.out⟩
end Rq
end Go.Proofs.YtjmpfihopeohbaaGreatDoor
namespace Go.Proofs.YtjmpfihopeohbaaGreatDoor
open Go.RowKit Go.Sort
namespace Rq
open Cls Pt Tr Pr
open Ps (ND CD toN toC nd listD)
def WrAt (x:ND):Prop:=∀ (a1:Option Addr) (c1:Nat) (a2:Option Addr) (c2:Nat) (a3:Option Addr) (c3:Nat) (a4:Option Addr) (c4:Nat) (a5:Option Addr) (c5:Nat) (w:World),Holds w x.nm x.az x.ws x.ks x.bs x.cz a1 c1 a2 c2 a3 c3 a4 c4 a5 c5 →
 Calls Tryz.prog 21 #[.agg #[.int .i64 x.k,.string x.nm,.bool x.g,.slice a1 x.az.length c1,.slice a2 x.ws.length c2,.slice a3 x.ks.len c3,.slice a4 x.bs.length c4,.slice a5 x.cz.len c5]] w fun e w'=>e = .returned (.string ⟨(tx x).toArray⟩)∧Below w.heap.size w w'
theorem items_cons (x:T) (r:List T) (b:Bool) (bs:List Bool):itemsT (x :: r) (b :: bs) = x ++ ((if b then [32,38,32] else [59,32]) ++ itemsT r bs):=rfl
theorem ritems_any (k:Int) (nm:ByteArray) (g:Bool) (az:List (ByteArray × PL)) (ws:List PL) (ks:NL) (bs:List Bool) (cz:NL) (a1 c1 a2 c2 a3 c3 a4 c4 a5 c5) (w:World) (h:Holds w nm az ws ks bs cz a1 c1 a2 c2 a3 c3 a4 c4 a5 c5) (hk:∀ y ∈ ofN ks,WrAt y) (hbl:ks.len = bs.length) (hn:(itemsT (txt ks) bs).length≤1000000) :
  Calls Tryz.prog 43 #[.agg #[.int .i64 k,.string nm,.bool g,.slice a1 az.length c1,.slice a2 ws.length c2,.slice a3 ks.len c3,.slice a4 bs.length c4,.slice a5 cz.len c5]] w fun e w'=>e = .returned (.string ⟨(itemsT (txt ks) bs).toArray⟩)∧Below w.heap.size w w':=by
 obtain ⟨w1,hw1⟩:∃ w1,w1 = w.alloc (.cells #[.int .i64 k,.string nm,.bool g,.slice a1 az.length c1,.slice a2 ws.length c2,.slice a3 ks.len c3,.slice a4 bs.length c4,.slice a5 cz.len c5] 28):=⟨_,rfl⟩;have hb1:Below w.heap.size w w1:=by rw [hw1];exact bel1 _ _
 have hrow:w1.heap[w.heap.size]? = some (.cells #[.int .i64 k,.string nm,.bool g,.slice a1 az.length c1,.slice a2 ws.length c2,.slice a3 ks.len c3,.slice a4 bs.length c4,.slice a5 cz.len c5] 28 (0,0)):=by rw [hw1];exact heap_new' _ _
 have hh1:=h.below hb1;have hle:=h.hks.le;have hle2:=h.hbs.le;have HKS:=Lib.hid hh1.hks;have HBS:=Lib.hid hh1.hbs;have HOK:=Lib.hid h.okk;have HK:=Lib.hid hk;have HBL:=Lib.hid hbl;have HN:=Lib.hid hn;have HROW:=Lib.hid hrow;have HB1:=Lib.hid hb1;have HW1:=Lib.hid hw1;clear h hk hbl hn hrow hb1 hh1 hw1;go_enter Tryz.func43,Tryz.ntmps43;go_wp2;rw [← HW1.out]
 go_loopw [9,3] (fun x y wr=>∃ (n:Nat) (s:ByteArray),n≤ks.len∧x = .int .i64 n∧y = .string s∧itemsT (txt ks) bs = s.data.toList ++ itemsT (txt (ks.drop n)) (bs.drop n)∧Below w1.heap.size w1 wr) (fun x y wr=>ks.len - (intOf x).toNat)
 case atStart=>exact ⟨0,⟨#[]⟩,Nat.zero_le _,rfl,rfl,rfl,Below.refl _ _⟩
 case round =>
  obtain ⟨n,s,hn,rfl,rfl,hr,hbw⟩:=hrel;have HR:=Lib.hid hr;have HW:=Lib.hid hbw;clear hr hbw
  by_cases hlt:n < ks.len
  ·have hltb:n < bs.length:=by have:=HBL.out;omega
   obtain ⟨b,hp⟩:∃ b,bs[n]? = some b:=⟨_,List.getElem?_eq_getElem hltb⟩;have hdb:bs.drop n = b :: bs.drop (n + 1):=by
    rw [List.drop_eq_getElem_cons hltb];rw [List.getElem?_eq_getElem hltb] at hp;injection hp with hp;rw [hp]
   obtain ⟨b4,o4,rfl,hc4⟩:=HBS.out.get hp;rw [Nat.mul_one] at hc4;obtain ⟨k1,nm1,g1,az1,ws1,ks1,bs1,cz1,r,hd1⟩:=NL.drop_node hlt HOK.out;obtain ⟨b1,o1,rfl,hb1,x11,d11,x12,d12,x13,d13,x14,d14,x15,d15,hc1,hh1⟩:=HKS.out.getN HOK.out hd1;have c10:wr.cell? ⟨b1,o1 + n * 8,none⟩ = some (.int .i64 k1):=cell_below HW.out (hc1 0 _ rfl);have c11:wr.cell? ⟨b1,o1 + n * 8 + 1,none⟩ = some (.string nm1):=cell_below HW.out (hc1 1 _ rfl);have c12:wr.cell? ⟨b1,o1 + n * 8 + 2,none⟩ = some (.bool g1):=cell_below HW.out (hc1 2 _ rfl);have c13:wr.cell? ⟨b1,o1 + n * 8 + 3,none⟩ = some (.slice x11 az1.length d11):=cell_below HW.out (hc1 3 _ rfl);have c14:wr.cell? ⟨b1,o1 + n * 8 + 4,none⟩ = some (.slice x12 ws1.length d12):=cell_below HW.out (hc1 4 _ rfl);have c15:wr.cell? ⟨b1,o1 + n * 8 + 5,none⟩ = some (.slice x13 ks1.len d13):=cell_below HW.out (hc1 5 _ rfl);have c16:wr.cell? ⟨b1,o1 + n * 8 + 6,none⟩ = some (.slice x14 bs1.length d14):=cell_below HW.out (hc1 6 _ rfl);have c17:wr.cell? ⟨b1,o1 + n * 8 + 7,none⟩ = some (.slice x15 cz1.len d15):=cell_below HW.out (hc1 7 _ rfl);have hC:=HK.out _ (Pw.ofN_drop HOK.out hd1) x11 d11 x12 d12 x13 d13 x14 d14 x15 d15 (wr.alloc (.cells #[.int .i64 k1,.string nm1,.bool g1,.slice x11 az1.length d11,.slice x12 ws1.length d12,.slice x13 ks1.len d13,.slice x14 bs1.length d14,.slice x15 cz1.len d15] 28)) (hh1.below (thru HW.out (bel1 _ _)));dsimp only at hC;have hstep:itemsT (txt ks) bs = (s.data.toList ++ tx ⟨k1,nm1,g1,az1,ws1,ks1,bs1,cz1⟩ ++ (if b then [32,38,32] else [59,32])) ++ itemsT (txt (ks.drop (n + 1))) (bs.drop (n + 1)):=by
    rw [HR.out,NL.drop_succN hd1,hd1,hdb];simp only [txt,items_cons,List.append_assoc];rfl
   have hlen:=congrArg List.length hstep;have hN:=HN.out;simp only [List.length_append] at hlen;obtain ⟨t,ht⟩:∃ t:ByteArray,t = ⟨(tx ⟨k1,nm1,g1,az1,ws1,ks1,bs1,cz1⟩).toArray⟩:=⟨_,rfl⟩;have htl:t.data.toList = tx ⟨k1,nm1,g1,az1,ws1,ks1,bs1,cz1⟩:=by rw [ht]
   rw [← ht] at hC;rw [← htl] at hstep hlen;have hs1:=size_l s;have hs2:=size_l t;have hln:(if b then ([32,38,32]:T) else [59,32]).length≤3:=by cases b <;> decide
   have g1:¬ 9223372036854775807 < s.size + t.size:=by omega
   have g2:¬ 9223372036854775807 < s.size + t.size + 3:=by omega
   have g3:¬ 9223372036854775807 < s.size + t.size + 2:=by omega
   have g4:(s ++ t).size = s.size + t.size:=by simp
   have HT:=Lib.hid hstep;have HC:=Lib.hid hC;have HC4:=Lib.hid hc4;clear hc1 hh1 hd1 hdb hp hC hstep ht htl hlen hN hs1 hs2 hln hc4 hb1;go_wp2_with fail;refine HC.out.mono ?_;rintro e w2 ⟨rfl,hb2⟩;have hb12:=thru HW.out (thru (bel1 wr _) hb2);have k6:w2.cell? ⟨w.heap.size,6,none⟩ = some (.slice (some ⟨b4,o4,none⟩) bs.length c4):=cell_below hb12 (Lib.cell_of_heap HROW.out 6);have k4:=cell_below hb12 HC4.out;have HB12:=Lib.hid hb12;clear hb2 hb12;cases b
   ·go_wp2_with fail;go_roundw
    case rel=>exact ⟨n + 1,s ++ t ++ ⟨#[59,32]⟩,by omega,by go_num,rfl,by rw [HT.out,app_l,app_l];rfl,HB12.out⟩
    case measure=>simp [intOf];omega
   ·go_wp2_with fail;go_roundw
    case rel=>exact ⟨n + 1,s ++ t ++ ⟨#[32,38,32]⟩,by omega,by go_num,rfl,by rw [HT.out,app_l,app_l];rfl,HB12.out⟩
    case measure=>simp [intOf];omega
  ·obtain rfl:n = ks.len:=by omega
   have hfin:s.data.toList = itemsT (txt ks) bs:=by rw [HR.out,NL.drop_end (Nat.le_refl _)];simp [txt,itemsT]
   have HFI:=Lib.hid hfin;clear hfin;go_wp2;go_ret;exact ⟨of_l HFI.out,thru HB1.out HW.out⟩
end Rq
end Go.Proofs.YtjmpfihopeohbaaGreatDoor
namespace Go.Proofs.YtjmpfihopeohbaaGreatDoor
open Go.RowKit Go.Sort
namespace Rq
open Cls Pt Tr Pr
open Ps (ND CD toN toC nd listD)
theorem behind_app (b:T):∀ (f:T) (A B:List T),A ≠ []→behind f b (A ++ B) = behind f b A ++ behind b b B
 | _,[],_,h=>absurd rfl h
 | f,[x],B,_=>by simp [behind]
 | f,x :: y :: r,B,_=>by
  rw [List.cons_append,behind_cons,behind_cons,behind_app b b (y :: r) B (by simp)];simp only [List.append_assoc]
theorem rsimple_any (k:Int) (nm:ByteArray) (g:Bool) (az:List (ByteArray × PL)) (ws:List PL) (ks:NL) (bs:List Bool) (cz:NL) (a1 c1 a2 c2 a3 c3 a4 c4 a5 c5) (w:World) (h:Holds w nm az ws ks bs cz a1 c1 a2 c2 a3 c3 a4 c4 a5 c5) (hf:∀ x ∈ ws,Fine x) (hg:∀ x ∈ az,Fine x.2) (hn:(simpleT az ws).length≤1000000) :
  Calls Tryz.prog 42 #[.agg #[.int .i64 k,.string nm,.bool g,.slice a1 az.length c1,.slice a2 ws.length c2,.slice a3 ks.len c3,.slice a4 bs.length c4,.slice a5 cz.len c5]] w fun e w'=>e = .returned (.string ⟨(simpleT az ws).toArray⟩)∧Below w.heap.size w w':=by
 obtain ⟨A,hA⟩:∃ A,A = behind [] [32] (az.map asgT):=⟨_,rfl⟩;have hs0:az = []→simpleT az ws = behind [] [32] (ws.map wordT):=fun e=>by rw [e];rfl
 have hs1:az ≠ []→simpleT az ws = A ++ behind [32] [32] (ws.map wordT):=fun e=>by rw [hA];exact behind_app _ _ _ _ (by simpa using e)
 have hAl:A.length≤1000000:=by
  by_cases e:az = []
  ·rw [hA,e];exact Nat.zero_le _
  ·rw [hs1 e,List.length_append] at hn;omega
 obtain ⟨S,hS⟩:∃ S,S = simpleT az ws:=⟨_,rfl⟩;rw [← hS] at hs0 hs1 hn ⊢
 obtain ⟨w1,hw1⟩:∃ w1,w1 = w.alloc (.cells #[.int .i64 k,.string nm,.bool g,.slice a1 az.length c1,.slice a2 ws.length c2,.slice a3 ks.len c3,.slice a4 bs.length c4,.slice a5 cz.len c5] 28):=⟨_,rfl⟩;have hb1:Below w.heap.size w w1:=by rw [hw1];exact bel1 _ _
 have hrow:w1.heap[w.heap.size]? = some (.cells #[.int .i64 k,.string nm,.bool g,.slice a1 az.length c1,.slice a2 ws.length c2,.slice a3 ks.len c3,.slice a4 bs.length c4,.slice a5 cz.len c5] 28 (0,0)):=by rw [hw1];exact heap_new' _ _
 have hh1:=h.below hb1;have hle:=h.haz.le;have hle2:=h.hws.le;have HAZ:=Lib.hid hh1.haz;have HWS:=Lib.hid hh1.hws;have HF:=Lib.hid hf;have HG:=Lib.hid hg;have HN:=Lib.hid hn;have HROW:=Lib.hid hrow;have HB1:=Lib.hid hb1;have HW1:=Lib.hid hw1;have HA:=Lib.hid hA;have HS0:=Lib.hid hs0;have HS1:=Lib.hid hs1;have HAL:=Lib.hid hAl;clear h hf hg hn hrow hb1 hh1 hw1 hA hs0 hs1 hAl hS;go_enter Tryz.func42,Tryz.ntmps42;go_wp2;rw [← HW1.out]
 go_loopw [9,3] (fun x y wr=>∃ (n:Nat) (s:ByteArray),n≤az.length∧x = .int .i64 n∧y = .string s∧A = s.data.toList ++ behind (sep [] [32] n) [32] ((az.drop n).map asgT)∧Below w1.heap.size w1 wr) (fun x y wr=>az.length - (intOf x).toNat)
 case atStart=>exact ⟨0,⟨#[]⟩,Nat.zero_le _,rfl,rfl,HA.out,Below.refl _ _⟩
 case round =>
  obtain ⟨n,s,hn,rfl,rfl,hr,hbw⟩:=hrel;have HR:=Lib.hid hr;have HW:=Lib.hid hbw;clear hr hbw
  by_cases hlt:n < az.length
  ·obtain ⟨x1,hx⟩:∃ x,az[n] = x:=⟨_,rfl⟩;obtain ⟨b1,o1,rfl,hpa⟩:=(sl_below (P:=PA) (fun h=>h.below HW.out) HAZ.out).get (List.getElem?_eq_getElem hlt);have hFx:=HG.out _ (List.getElem_mem hlt);rw [hx] at hpa hFx;obtain ⟨e0,_,an,ac,e1,hl1⟩:=hpa;have hstep:A = (s.data.toList ++ sep [] [32] n) ++ (x1.1.data.toList ++ [61] ++ wordT x1.2) ++ behind (sep [] [32] (n + 1)) [32] ((az.drop (n + 1)).map asgT):=by
    rw [HR.out,List.drop_eq_getElem_cons hlt,List.map_cons,behind_cons,hx];simp [sep,asgT,List.append_assoc]
   have hlen:=congrArg List.length hstep;have hAL:=HAL.out;simp only [List.length_append,List.length_cons,List.length_nil] at hlen;have hC:=fun dd os=>Calls.regrown_of (rtext_any x1.2 hFx an ac (grow (redrawn (wr.alloc (.cells #[.string x1.1,.slice an x1.2.len ac] 42)) dd) os) (hl1.below (thru (bel1 wr _) (below_regrown _ dd os))));obtain ⟨t,ht⟩:∃ t:ByteArray,t = ⟨(wordT x1.2).toArray⟩:=⟨_,rfl⟩;have htl:t.data.toList = wordT x1.2:=by rw [ht]
   rw [← ht] at hC;rw [← htl] at hstep hlen;have hs1:=size_l s;have hs2:=size_l t;have hs3:=size_l x1.1;have hwa:=heap_new' wr (.cells #[.string x1.1,.slice an x1.2.len ac] 42);have q0:=cell_regrown (show (wr.alloc (.cells #[.string x1.1,.slice an x1.2.len ac] 42)).cell? ⟨wr.heap.size,0,none⟩ = some (.string x1.1) from Lib.cell_of_heap hwa 0);have q1:=cell_regrown (show (wr.alloc (.cells #[.string x1.1,.slice an x1.2.len ac] 42)).cell? ⟨wr.heap.size,1,none⟩ = some (.slice an x1.2.len ac) from Lib.cell_of_heap hwa 1);have g1:¬ 9223372036854775807 < x1.1.size + 1:=by omega
   have g2:¬ 9223372036854775807 < x1.1.size + 1 + t.size:=by omega
   have g3:¬ 9223372036854775807 < s.size + (x1.1.size + 1 + t.size):=by omega
   have g4:¬ 9223372036854775807 < s.size + 1:=by omega
   have g5:¬ 9223372036854775807 < s.size + 1 + (x1.1.size + 1 + t.size):=by omega
   have HT:=Lib.hid hstep;have HC:=Lib.hid hC;have HBL:=Lib.hid (fun dq osq=>thru HW.out (thru (bel1 wr (.cells #[.string x1.1,.slice an x1.2.len ac] 42)) (below_regrown _ dq osq)));clear hC hstep ht htl hlen hAL hs1 hs2 hs3 hwa hl1 hFx hx
   by_cases h0:n = 0
   ·have hgt:(0 < n) = False:=by simp [h0]
    have HSP:=Lib.hid (show sep [] [32] n = [] from if_pos h0);clear h0;go_wp2_with fail;refine Qu.region (by kernel_rfl) (by kernel_rfl) ?_
    repeat (first
     | (first | refine Qu.carry0 rfl (fun K hK=>?_) | refine Qu.carryG rfl rfl rfl (fun K hK=>?_)
        go_simp
        first
        | (refine hK _ ?_;clear hK K)
        | (apply Exists.intro;refine ⟨fun _=>?_,hK _ ?_⟩;(go_at_call 65;exact HC.out _ _);clear hK K))
     | (refine Qu.passG rfl rfl rfl (fun K hK=>?_);go_simp;refine hK _ ?_;clear hK K))
    refine Qu.fin ?_;rintro ⟨dq,osq⟩;go_wp2_with fail;go_roundw
    case rel=>exact ⟨n + 1,s ++ (x1.1 ++ ⟨#[61]⟩ ++ t),by omega,by go_num,rfl,by rw [HT.out,HSP.out,app_l,app_l,app_l,List.append_nil],HBL.out _ _⟩
    case measure=>simp [intOf];omega
   ·have hgt:(0 < n) = True:=by simp;omega
    have HSP:=Lib.hid (show sep [] [32] n = [32] from if_neg h0);clear h0;go_wp2_with fail;refine Qu.region (by kernel_rfl) (by kernel_rfl) ?_
    repeat (first
     | (first | refine Qu.carry0 rfl (fun K hK=>?_) | refine Qu.carryG rfl rfl rfl (fun K hK=>?_)
        go_simp
        first
        | (refine hK _ ?_;clear hK K)
        | (apply Exists.intro;refine ⟨fun _=>?_,hK _ ?_⟩;(go_at_call 65;exact HC.out _ _);clear hK K))
     | (refine Qu.passG rfl rfl rfl (fun K hK=>?_);go_simp;refine hK _ ?_;clear hK K))
    refine Qu.fin ?_;rintro ⟨dq,osq⟩;go_wp2_with fail;go_roundw
    case rel=>exact ⟨n + 1,s ++ ⟨#[32]⟩ ++ (x1.1 ++ ⟨#[61]⟩ ++ t),by omega,by go_num,rfl,by rw [HT.out,HSP.out,app_l,app_l,app_l,app_l],HBL.out _ _⟩
    case measure=>simp [intOf];omega
  ·obtain rfl:n = az.length:=by omega
   have hfin:s.data.toList = A:=by rw [HR.out,List.drop_eq_nil_of_le (Nat.le_refl _)];simp [behind]
   have hrw:=(Array.getElem?_eq_some_iff.1 HROW.out).1;have k3:wr.cell? ⟨w.heap.size,3,none⟩ = some (.slice a1 az.length c1):=cell_below HW.out (Lib.cell_of_heap HROW.out 3);have k4:wr.cell? ⟨w.heap.size,4,none⟩ = some (.slice a2 ws.length c2):=cell_below HW.out (Lib.cell_of_heap HROW.out 4);have hWD:=fun f (hl:(behind f [32] (ws.map wordT)).length≤1000000)=>rwords_any ws HF.out a2 c2 ⟨f.toArray⟩ ⟨#[32]⟩ wr (sl_below (P:=PW) (fun h=>h.below HW.out) HWS.out) hl;have HFI:=Lib.hid hfin;have HWD:=Lib.hid hWD;clear hfin hWD hrw
   by_cases h0:az.length = 0
   ·have hgt:(0 < az.length) = False:=by simp [h0]
    have hE:=HS0.out (List.length_eq_zero_iff.1 h0);have hC:=HWD.out [] (by rw [← hE];exact HN.out);rw [show (⟨([]:T).toArray⟩:ByteArray).data.toList = [] from rfl,show (⟨#[32]⟩:ByteArray).data.toList = [32] from rfl,← hE] at hC;have HC:=Lib.hid hC;clear hC hE;go_wp2_with fail;refine HC.out.mono ?_;rintro e w2 ⟨rfl,hb2⟩;have HB2:=Lib.hid (thru HB1.out (thru HW.out hb2));clear hb2;go_wp2_with fail;go_ret;exact ⟨rfl,HB2.out⟩
   ·have hgt:(0 < az.length) = True:=by simp;omega
    have hE:=HS1.out (fun e=>h0 (by rw [e];rfl));have hl:=congrArg List.length hE;have hN:=HN.out;rw [List.length_append] at hl;have hC:=HWD.out [32] (by omega);rw [show (⟨([32]:T).toArray⟩:ByteArray).data.toList = [32] from rfl] at hC;obtain ⟨t,ht⟩:∃ t:ByteArray,t = ⟨(behind [32] [32] (ws.map wordT)).toArray⟩:=⟨_,rfl⟩;have htl:t.data.toList = behind [32] [32] (ws.map wordT):=by rw [ht]
    rw [← ht] at hC;rw [← htl] at hE hl;have hs1:=size_l s;have hs2:=size_l t;have hs3:=congrArg List.length HFI.out;have g1:¬ 9223372036854775807 < s.size + t.size:=by omega
    have HE:=Lib.hid hE;have HC:=Lib.hid hC;clear hC hE ht htl hl hN hs1 hs2 hs3 h0;go_wp2_with fail;refine HC.out.mono ?_;rintro e w2 ⟨rfl,hb2⟩;have HB2:=Lib.hid (thru HB1.out (thru HW.out hb2));clear hb2;go_wp2_with fail;go_ret;exact ⟨of_l (by rw [app_l,HFI.out,HE.out]),HB2.out⟩
end Rq
end Go.Proofs.YtjmpfihopeohbaaGreatDoor
namespace Go.Proofs.YtjmpfihopeohbaaGreatDoor
open Go.RowKit Go.Sort
namespace Rq
open Cls Pt Tr Pr
open Ps (ND CD toN toC nd listD)
def ItAt (x:ND):Prop:=∀ (a1:Option Addr) (c1:Nat) (a2:Option Addr) (c2:Nat) (a3:Option Addr) (c3:Nat) (a4:Option Addr) (c4:Nat) (a5:Option Addr) (c5:Nat) (w:World),Holds w x.nm x.az x.ws x.ks x.bs x.cz a1 c1 a2 c2 a3 c3 a4 c4 a5 c5 →
 Calls Tryz.prog 43 #[.agg #[.int .i64 x.k,.string x.nm,.bool x.g,.slice a1 x.az.length c1,.slice a2 x.ws.length c2,.slice a3 x.ks.len c3,.slice a4 x.bs.length c4,.slice a5 x.cz.len c5]] w fun e w'=>e = .returned (.string ⟨(tx x).toArray⟩)∧Below w.heap.size w w'
def CsR (ps:List PL) (bd:NL):Prop:=(∀ x ∈ ps,Fine x)∧(bd = .nil∨∃ y:ND,bd = toN [y]∧ItAt y)
def chT (wd:PL) (cz:NL):T:=kCase ++ ([32] ++ (wordT wd ++ ([32] ++ (kIn ++ ([32] ++ ((txt cz).flatten ++ kEsac))))))
theorem rchoose_any (k:Int) (nm:ByteArray) (g:Bool) (az:List (ByteArray × PL)) (wd:PL) (ks:NL) (bs:List Bool) (cz:NL) (a1 c1 a2 c2 a3 c3 a4 c4 a5 c5) (w:World) (h:Holds w nm az [wd] ks bs cz a1 c1 a2 c2 a3 c3 a4 c4 a5 c5) (hf:Fine wd) (hcs:∀ n ps bd r,cz.drop n = .cse ps bd r→CsR ps bd) (hn:(chT wd cz).length≤1000000) :
  Calls Tryz.prog 45 #[.agg #[.int .i64 k,.string nm,.bool g,.slice a1 az.length c1,.slice a2 1 c2,.slice a3 ks.len c3,.slice a4 bs.length c4,.slice a5 cz.len c5]] w fun e w'=>e = .returned (.string ⟨(chT wd cz).toArray⟩)∧Below w.heap.size w w':=by
 obtain ⟨b2,o2,rfl,hpw⟩:=h.hws.get (List.getElem?_cons_zero:[wd][0]? = some wd);obtain ⟨w1,hw1⟩:∃ w1,w1 = w.alloc (.cells #[.int .i64 k,.string nm,.bool g,.slice a1 az.length c1,.slice (some ⟨b2,o2,none⟩) 1 c2,.slice a3 ks.len c3,.slice a4 bs.length c4,.slice a5 cz.len c5] 28):=⟨_,rfl⟩;have hb1:Below w.heap.size w w1:=by rw [hw1];exact bel1 _ _
 have hrow:w1.heap[w.heap.size]? = some (.cells #[.int .i64 k,.string nm,.bool g,.slice a1 az.length c1,.slice (some ⟨b2,o2,none⟩) 1 c2,.slice a3 ks.len c3,.slice a4 bs.length c4,.slice a5 cz.len c5] 28 (0,0)):=by rw [hw1];exact heap_new' _ _
 have hh1:=h.below hb1;obtain ⟨aw,cw,e1,hl1⟩:=hpw;rw [Nat.zero_mul,Nat.add_zero] at e1;have e2:=cell_below (bel1 w (.cells #[.int .i64 k,.string nm,.bool g,.slice a1 az.length c1,.slice (some ⟨b2,o2,none⟩) 1 c2,.slice a3 ks.len c3,.slice a4 bs.length c4,.slice a5 cz.len c5] 28)) e1;have hC0:=rtext_any wd hf aw cw w1 (hl1.below hb1);obtain ⟨t,ht⟩:∃ t:ByteArray,t = ⟨(wordT wd).toArray⟩:=⟨_,rfl⟩;have htl:t.data.toList = wordT wd:=by rw [ht]
 rw [← ht] at hC0;have hE:chT wd cz = ((⟨#[99,97,115,101,32]⟩:ByteArray) ++ t ++ ⟨#[32,105,110,32]⟩).data.toList ++ ((txt cz).flatten ++ kEsac):=by
  rw [app_l,app_l,htl];simp [chT,kCase,kIn,List.append_assoc]
 have hl:=congrArg List.length hE;rw [List.length_append,← size_l] at hl;have hts:((⟨#[99,97,115,101,32]⟩:ByteArray) ++ t ++ ⟨#[32,105,110,32]⟩).size = 5 + t.size + 4:=by simp;rfl
 have g1:¬ 9223372036854775807 < 5 + t.size:=by omega
 have g2:¬ 9223372036854775807 < 5 + t.size + 4:=by omega
 have HKS:=Lib.hid hh1.hcs;have HOK:=Lib.hid h.okc;have HCS:=Lib.hid hcs;have HN:=Lib.hid hn;have HROW:=Lib.hid hrow;have HB1:=Lib.hid hb1;have HC0:=Lib.hid hC0;have HE:=Lib.hid hE;have HW1:=Lib.hid hw1;have hle:=h.hcs.le;clear h hf hcs hn hrow hb1 hh1 hl1 hC0 ht htl hE hl hts e1 hw1;go_enter Tryz.func45,Tryz.ntmps45;go_wp2_with fail;rw [← HW1.out];refine HC0.out.mono ?_;rintro e w2 ⟨rfl,hb2⟩;have k7:w2.cell? ⟨w.heap.size,7,none⟩ = some (.slice a5 cz.len c5):=cell_below hb2 (Lib.cell_of_heap HROW.out 7);have HB2:=Lib.hid hb2;clear hb2;go_wp2
 go_loopw [16,3] (fun x y wr=>∃ (n:Nat) (s:ByteArray),n≤cz.len∧x = .int .i64 n∧y = .string s∧chT wd cz = s.data.toList ++ ((txt (cz.drop n)).flatten ++ kEsac)∧Below w1.heap.size w1 wr) (fun x y wr=>cz.len - (intOf x).toNat)
 case atStart=>exact ⟨0,_,Nat.zero_le _,rfl,rfl,HE.out,HB2.out⟩
 case round =>
  obtain ⟨n,s,hn,rfl,rfl,hr,hbw⟩:=hrel;have HR:=Lib.hid hr;have HW:=Lib.hid hbw;clear hr hbw k7 g1 g2
  by_cases hlt:n < cz.len
  ·obtain ⟨ps1,bd1,r1,hd1⟩:=NL.drop_case hlt HOK.out;obtain ⟨b1,o1,rfl,hb1,x11,d11,x12,d12,hc1,hc2,hs1,hs2,hs3⟩:=HKS.out.getC HOK.out hd1;have hcr:=HCS.out _ _ _ _ hd1;have c10:=cell_below HW.out hc1;have c11:=cell_below HW.out hc2;have hstep:chT wd cz = (s.data.toList ++ (behind [40] [124] (ps1.map wordT) ++ [41,32]) ++ (txt bd1).flatten ++ [59,59,32]) ++ ((txt (cz.drop (n + 1))).flatten ++ kEsac):=by
    rw [HR.out,NL.drop_succC hd1,hd1];simp [txt,caseT,List.append_assoc]
   have hlen:=congrArg List.length hstep;have hN:=HN.out;simp only [List.length_append,List.length_cons,List.length_nil] at hlen;have hC1:=rwords_any ps1 hcr.1 x11 d11 ⟨#[40]⟩ ⟨#[124]⟩ (wr.alloc (.cells #[.slice x11 ps1.length d11,.slice x12 bd1.len d12] 44)) (sl_below (P:=PW) (fun h=>h.below (thru HW.out (bel1 wr _))) hs1) (by show (behind [40] [124] (ps1.map wordT)).length≤_;omega);rw [show (⟨#[40]⟩:ByteArray).data.toList = [40] from rfl,show (⟨#[124]⟩:ByteArray).data.toList = [124] from rfl] at hC1;obtain ⟨t1,ht1⟩:∃ t:ByteArray,t = ⟨(behind [40] [124] (ps1.map wordT)).toArray⟩:=⟨_,rfl⟩;have htl:t1.data.toList = behind [40] [124] (ps1.map wordT):=by rw [ht1]
   rw [← ht1] at hC1;rw [← htl] at hstep hlen;have hsz1:=size_l s;have hsz2:=size_l t1;have g1:¬ 9223372036854775807 < t1.size + 2:=by omega
   have g2:¬ 9223372036854775807 < s.size + (t1.size + 2):=by omega
   have HC1:=Lib.hid hC1;have HD:=Lib.hid hs2;have HT:=Lib.hid hstep;have HLEN:=Lib.hid hlen;have HS3:=Lib.hid hs3;clear hC1 hs1 hs2 hs3 hstep hlen ht1 htl hc1 hc2 hd1 hb1;rcases hcr.2 with rfl | ⟨y,rfl,hit⟩
   ·have hlen:=HLEN.out;have g3:¬ 9223372036854775807 < s.size + (t1.size + 2) + 3:=by simp only [txt,List.flatten_nil,List.length_nil] at hlen;omega
    have hl0:(((NL.nil).len:Nat):Int) = 0:=rfl;clear hlen hN hsz1 hsz2 hcr;go_wp2_with fail;refine HC1.out.mono ?_;rintro e w3 ⟨rfl,hb3⟩;have hb:=thru HW.out (thru (bel1 wr _) hb3);have q1:w3.cell? ⟨wr.heap.size,1,none⟩ = some (.slice x12 NL.nil.len d12):=cell_below hb3 (Lib.cell_of_heap (heap_new' wr _) 1);have HB:=Lib.hid hb;clear hb hb3;go_wp2_with fail;go_roundw
    case rel=>exact ⟨n + 1,_,by omega,by go_num,rfl,by rw [HT.out,app_l,app_l,app_l];simp [txt],HB.out⟩
    case measure=>simp [intOf];omega
   ·obtain ⟨b5,o5,rfl,hb5,x21,d21,x22,d22,x23,d23,x24,d24,x25,d25,hcy,hhy⟩:=HD.out.getN (i:=0) (r:=.nil) HS3.out (show (toN [y]).drop 0 = .node y.k y.nm y.g y.az y.ws y.ks y.bs y.cz .nil from rfl);have hI:=fun W (hb:Below w1.heap.size w1 W)=>hit x21 d21 x22 d22 x23 d23 x24 d24 x25 d25 W (hhy.below hb);have hlen:=HLEN.out;rw [show (txt (toN [y])).flatten = tx y by rw [Pr.txt_toN];simp] at hlen;obtain ⟨t2,ht2⟩:∃ t:ByteArray,t = ⟨(tx y).toArray⟩:=⟨_,rfl⟩;have htl2:t2.data.toList = tx y:=by rw [ht2]
    rw [← ht2] at hI;rw [← htl2] at hlen;have hsz3:=size_l t2;have g3:¬ 9223372036854775807 < s.size + (t1.size + 2) + t2.size:=by omega
    have g4:¬ 9223372036854775807 < s.size + (t1.size + 2) + t2.size + 3:=by omega
    have hl1:(((toN [y]).len:Nat):Int) = 1:=rfl;have HI:=Lib.hid hI;have HT2:=Lib.hid htl2;have HCY:=Lib.hid hcy;clear hlen hN hsz1 hsz2 hsz3 hcr hit hI ht2 htl2 hcy hhy hb5;go_wp2_with fail;refine HC1.out.mono ?_;rintro e w3 ⟨rfl,hb3⟩;have hb:=thru HW.out (thru (bel1 wr _) hb3);have q1:w3.cell? ⟨wr.heap.size,1,none⟩ = some (.slice (some ⟨b5,o5,none⟩) (toN [y]).len d12):=cell_below hb3 (Lib.cell_of_heap (heap_new' wr _) 1);have y0:w3.cell? ⟨b5,o5,none⟩ = some (.int .i64 y.k):=cell_below hb (HCY.out 0 _ rfl);have y1:w3.cell? ⟨b5,o5 + 1,none⟩ = some (.string y.nm):=cell_below hb (HCY.out 1 _ rfl);have y2:w3.cell? ⟨b5,o5 + 2,none⟩ = some (.bool y.g):=cell_below hb (HCY.out 2 _ rfl);have y3:w3.cell? ⟨b5,o5 + 3,none⟩ = some (.slice x21 y.az.length d21):=cell_below hb (HCY.out 3 _ rfl);have y4:w3.cell? ⟨b5,o5 + 4,none⟩ = some (.slice x22 y.ws.length d22):=cell_below hb (HCY.out 4 _ rfl);have y5:w3.cell? ⟨b5,o5 + 5,none⟩ = some (.slice x23 y.ks.len d23):=cell_below hb (HCY.out 5 _ rfl);have y6:w3.cell? ⟨b5,o5 + 6,none⟩ = some (.slice x24 y.bs.length d24):=cell_below hb (HCY.out 6 _ rfl);have y7:w3.cell? ⟨b5,o5 + 7,none⟩ = some (.slice x25 y.cz.len d25):=cell_below hb (HCY.out 7 _ rfl);have HB:=Lib.hid hb;clear hb hb3;go_wp2_with fail;refine (HI.out _ HB.out).mono ?_;rintro e w4 ⟨rfl,hb4⟩;have HB4:=Lib.hid (thru HB.out hb4);clear hb4;go_wp2_with fail;go_roundw
    case rel=>exact ⟨n + 1,_,by omega,by go_num,rfl,by rw [HT.out,show (txt (toN [y])).flatten = tx y by rw [Pr.txt_toN];simp,app_l,app_l,app_l,app_l,HT2.out],HB4.out⟩
    case measure=>simp [intOf];omega
  ·obtain rfl:n = cz.len:=by omega
   have hfin:chT wd cz = s.data.toList ++ kEsac:=by rw [HR.out,NL.drop_end (Nat.le_refl _)];simp [txt]
   have hlen:=congrArg List.length hfin;have hN:=HN.out;rw [List.length_append,← size_l] at hlen;have g1:¬ 9223372036854775807 < s.size + 4:=by omega
   have HFI:=Lib.hid hfin;clear hfin hlen hN;go_wp2;go_ret;exact ⟨of_l (by rw [HFI.out,app_l];rfl),thru HB1.out HW.out⟩
end Rq
end Go.Proofs.YtjmpfihopeohbaaGreatDoor
