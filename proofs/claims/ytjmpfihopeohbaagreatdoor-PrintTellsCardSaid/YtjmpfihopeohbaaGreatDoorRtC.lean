/- The reference's Split: for all parts. -/
import Derived.Test.YtjmpfihopeohbaaGreatDoorTrI
import Derived.Test.YtjmpfihopeohbaaGreatDoorRfE
set_option maxHeartbeats 1600000
set_option maxRecDepth 100000
namespace Go.Proofs.YtjmpfihopeohbaaGreatDoor
open Go.RowKit Go.Sort
namespace Sp
open Cls Pt
def splitI (l:PL):Int:=match splitP l with | none=>-1 | some n=>(n:Int)
theorem ret_int {a b:Int} (h:a = b):Ending.returned (.int .i64 a) = .returned (.int .i64 b):=by rw [h]
def noEq (l:List UInt8) (k:Nat):Prop:=∀ j,j < k→l[j]? ≠ some 61
theorem noEq_succ {l:List UInt8} {k:Nat} (h:noEq l k) (hk:l[k]? ≠ some 61):noEq l (k + 1):=by
 intro j hj
 by_cases e:j = k
 ·subst e;exact hk
 ·exact h j (by omega)
theorem index_here {l:List UInt8} {k:Nat} (h:noEq l k) (hk:l[k]? = some 61):Lib.indexByte l 61 = k:=by
 have hge:=Lib.indexByte_ge l 61
 by_cases h1:Lib.indexByte l 61 = -1
 ·exact absurd hk (Lib.indexByte_none h1 k)
 ·obtain ⟨o,ho⟩:∃ o:Nat,Lib.indexByte l 61 = o:=⟨(Lib.indexByte l 61).toNat,by omega⟩;obtain ⟨h2,h3⟩:=Lib.indexByte_some ho
  by_cases hlt:o < k
  ·exact absurd h2 (h o hlt)
  ·by_cases hgt:k < o
   ·exact absurd hk (h3 k hgt)
   ·rw [ho];omega
theorem index_no {l:List UInt8} (h:noEq l l.length):Lib.indexByte l 61 = -1:=by
 have hge:=Lib.indexByte_ge l 61
 by_cases h1:Lib.indexByte l 61 = -1
 ·exact h1
 ·obtain ⟨o,ho⟩:∃ o:Nat,Lib.indexByte l 61 = o:=⟨(Lib.indexByte l 61).toNat,by omega⟩;obtain ⟨h2,_⟩:=Lib.indexByte_some ho;exact absurd h2 (h o (List.getElem?_eq_some_iff.1 h2).1)
theorem rsplit_any (l:PL) (a:Option Addr) (cap:Nat) (w:World) (hl:Lies w a cap l) :
  Calls Tryz.prog 111 #[.slice a l.len cap] w fun e w'=>e = .returned (.int .i64 (splitI l))∧w = w':=by
 have HL:=Lib.hid hl;clear hl;have hle:=HL.out.le;cases l with
 | nil =>
  go_enter Tryz.func111,Tryz.ntmps111;go_wp2;go_ret;exact ⟨rfl,rfl⟩
 | cons k q t o f r =>
  obtain ⟨b1,p1,rfl,hb1,c10,c11,c12,c13,ht,ho,a1,ca1,c14,hl1⟩:=HL.out.get (i:=0) rfl;rw [Nat.zero_mul,Nat.add_zero] at c10 c11 c12 c13 c14;have hlen:(PL.cons k q t o f r).len = r.len + 1:=rfl;have hne:(((r.len + 1:Nat):Int) == 0) = false:=by simp;omega
  have hne2:((r.len:Int) + 1 == 0) = false:=by simp;omega
  rw [hlen];unfold R at ht;cases hk:(k == 1) <;> cases q
  all_goals
   have hk2:(k != 1) = !(k == 1):=rfl;rw [hk] at hk2
  case true.false =>
   have HK:=Lib.hid hk;clear hk hlen hle hl1;go_enter Tryz.func111,Tryz.ntmps111;go_wp2
   go_loop [3] (fun i=>∃ j:Nat,j≤t.size∧i = .int .i64 j∧noEq t.data.toList j) (fun i=>t.size - (intOf i).toNat)
   case atStart=>exact ⟨0,Nat.zero_le _,rfl,fun j hj=>by omega⟩
   case round =>
    obtain ⟨j,hj,rfl,hno⟩:=hrel;have HNO:=Lib.hid hno;clear hno
    by_cases hlt:j < t.size
    ·have HG:=Lib.hid (getB hlt);have hgt:t.data.toList[j]? = some (t.data.toList.getD j 0):=by simp [List.getD,hlt]
     have HGT:=Lib.hid hgt;clear hgt;cases hc:((t[j].toNat:Int) == 61)
     ·have HC:=Lib.hid (show t[j] ≠ 61 by intro h;rw [h] at hc;simp at hc);go_wp2;go_round
      case rel=>exact ⟨j + 1,by omega,by go_num,noEq_succ HNO.out (by rw [HGT.out,← HG.out];intro h;exact HC.out (Option.some.inj h))⟩
      case measure=>simp [intOf];omega
     ·have HC:=Lib.hid (show t[j] = 61 by have:=beq_iff_eq.1 hc;apply UInt8.toNat_inj.1;simp;omega);have hnm:=fun w=>rname_any (t.extract 0 j) w (by simp [ByteArray.size_extract];omega);have hX:Lib.indexByte t.data.toList 61 = j:=index_here HNO.out (by rw [HGT.out,← HG.out,HC.out]);rw [Lib.extract_data,List.drop_zero,Nat.sub_zero] at hnm;cases hb:nameL (t.data.toList.take j)
      all_goals
       rw [hb] at hnm;have HN:=Lib.hid hnm;have HX:=Lib.hid hX;have HB:=Lib.hid hb;clear hnm hX hb;go_wp2_with (go_at_call 88;refine (HN.out _).mono ?_;rintro e w' ⟨rfl,rfl⟩);go_ret;refine ⟨ret_int ?_,rfl⟩;simp only [splitI,splitP,HK.out,eqT,HX.out,Int.toNat_natCast,HB.out];rw [if_pos (by decide),if_pos (by omega)]
       try rfl
    ·obtain rfl:j = t.size:=by omega
     go_wp2;go_ret;refine ⟨ret_int ?_,rfl⟩;have hX:=index_no (by rw [lenB];exact HNO.out);simp only [splitI,splitP,HK.out,eqT,hX];rfl
  all_goals
   have HK:=Lib.hid hk;clear hk hlen hle hl1;go_enter Tryz.func111,Tryz.ntmps111;go_wp2;go_ret;exact ⟨ret_int (by simp [splitI,splitP,HK.out]),rfl⟩
end Sp
end Go.Proofs.YtjmpfihopeohbaaGreatDoor
namespace Go.Proofs.YtjmpfihopeohbaaGreatDoor
open Go.RowKit Go.Sort
namespace Tr
open Cls Pt
theorem rcompound_any (k:Int) (nm:ByteArray) (g:Bool) (az:List (ByteArray × PL)) (ws:List PL) (ks:NL) (bs:List Bool) (cz:NL) (x1 d1 x2 d2 x3 d3 x4 d4 x5 d5) (w:World):Calls Tryz.prog 48 #[.agg (nodeV k nm g x1 az.length d1 x2 ws.length d2 x3 ks.len d3 x4 bs.length d4 x5 cz.len d5)] w fun e w'=>e = .returned (.bool (countsB k))∧Below w.heap.size w w':=by
 unfold nodeV
 by_cases h1:6≤k <;> by_cases h2:k≤13
 all_goals try (exfalso;omega)
 all_goals
  go_enter Tryz.func48,Tryz.ntmps48;go_wp2_with fail
  all_goals
   go_ret;exact ⟨ret_bool (by simp [*,countsB,commandB,unitB,itemB,bodyB]),by first | exact bel1 _ _ | exact thru (bel1 _ _) (by assumption)⟩
theorem rplain_any (k:Int) (nm:ByteArray) (g:Bool) (az:List (ByteArray × PL)) (ws:List PL) (ks:NL) (bs:List Bool) (cz:NL) (x1 d1 x2 d2 x3 d3 x4 d4 x5 d5) (w:World):Calls Tryz.prog 86 #[.agg (nodeV k nm g x1 az.length d1 x2 ws.length d2 x3 ks.len d3 x4 bs.length d4 x5 cz.len d5)] w fun e w'=>e = .returned (.bool (commandB k))∧Below w.heap.size w w':=by
 have hC:=fun w=>rcompound_any k nm g az ws ks bs cz x1 d1 x2 d2 x3 d3 x4 d4 x5 d5 w;unfold nodeV at hC ⊢
 cases hB:countsB k <;> cases h1:(k == 1)
 all_goals
  rw [hB] at hC;have HC:=Lib.hid hC;clear hC;go_enter Tryz.func86,Tryz.ntmps86;go_wp2_with (go_at_call 48;refine (HC.out _).mono ?_;rintro e w1 ⟨rfl,hb⟩;have c0:=cell_below hb (show (w.alloc (.cells #[.int .i64 k,.string nm,.bool g,.slice x1 az.length d1,.slice x2 ws.length d2,.slice x3 ks.len d3,.slice x4 bs.length d4,.slice x5 cz.len d5] 28)).cell? ⟨w.heap.size,0,none⟩ = some (.int .i64 k) from Lib.cell_of_heap (heap_new' _ _) 0))
  all_goals
   go_ret;exact ⟨ret_bool (by simp_all [commandB,unitB,itemB]),by first | exact bel1 _ _ | exact thru (bel1 _ _) (by assumption)⟩
theorem runit_any (k:Int) (nm:ByteArray) (g:Bool) (az:List (ByteArray × PL)) (ws:List PL) (ks:NL) (bs:List Bool) (cz:NL) (x1 d1 x2 d2 x3 d3 x4 d4 x5 d5) (w:World):Calls Tryz.prog 85 #[.agg (nodeV k nm g x1 az.length d1 x2 ws.length d2 x3 ks.len d3 x4 bs.length d4 x5 cz.len d5)] w fun e w'=>e = .returned (.bool (unitB k))∧Below w.heap.size w w':=by
 have hC:=fun w=>rplain_any k nm g az ws ks bs cz x1 d1 x2 d2 x3 d3 x4 d4 x5 d5 w;unfold nodeV at hC ⊢
 cases hB:commandB k <;> cases h4:(k == 4)
 all_goals
  rw [hB] at hC;have HC:=Lib.hid hC;clear hC;go_enter Tryz.func85,Tryz.ntmps85;go_wp2_with (go_at_call 86;refine (HC.out _).mono ?_;rintro e w1 ⟨rfl,hb⟩;have c0:=cell_below hb (show (w.alloc (.cells #[.int .i64 k,.string nm,.bool g,.slice x1 az.length d1,.slice x2 ws.length d2,.slice x3 ks.len d3,.slice x4 bs.length d4,.slice x5 cz.len d5] 28)).cell? ⟨w.heap.size,0,none⟩ = some (.int .i64 k) from Lib.cell_of_heap (heap_new' _ _) 0))
  all_goals
   go_ret;exact ⟨ret_bool (by simp_all [commandB,unitB,itemB]),by first | exact bel1 _ _ | exact thru (bel1 _ _) (by assumption)⟩
theorem ritem_any (k:Int) (nm:ByteArray) (g:Bool) (az:List (ByteArray × PL)) (ws:List PL) (ks:NL) (bs:List Bool) (cz:NL) (x1 d1 x2 d2 x3 d3 x4 d4 x5 d5) (w:World):Calls Tryz.prog 84 #[.agg (nodeV k nm g x1 az.length d1 x2 ws.length d2 x3 ks.len d3 x4 bs.length d4 x5 cz.len d5)] w fun e w'=>e = .returned (.bool (itemB k))∧Below w.heap.size w w':=by
 have hC:=fun w=>runit_any k nm g az ws ks bs cz x1 d1 x2 d2 x3 d3 x4 d4 x5 d5 w;unfold nodeV at hC ⊢
 cases hB:unitB k <;> cases h2:(k == 2) <;> cases h3:(k == 3)
 all_goals
  rw [hB] at hC;have HC:=Lib.hid hC;clear hC;go_enter Tryz.func84,Tryz.ntmps84;go_wp2_with (go_at_call 85;refine (HC.out _).mono ?_;rintro e w1 ⟨rfl,hb⟩;have c0:=cell_below hb (show (w.alloc (.cells #[.int .i64 k,.string nm,.bool g,.slice x1 az.length d1,.slice x2 ws.length d2,.slice x3 ks.len d3,.slice x4 bs.length d4,.slice x5 cz.len d5] 28)).cell? ⟨w.heap.size,0,none⟩ = some (.int .i64 k) from Lib.cell_of_heap (heap_new' _ _) 0))
  all_goals
   go_ret;exact ⟨ret_bool (by simp_all [commandB,unitB,itemB]),by first | exact bel1 _ _ | exact thru (bel1 _ _) (by assumption)⟩
theorem rbody_any (k:Int) (nm:ByteArray) (g:Bool) (az:List (ByteArray × PL)) (ws:List PL) (ks:NL) (bs:List Bool) (cz:NL) (x1 d1 x2 d2 x3 d3 x4 d4 x5 d5) (w:World):Calls Tryz.prog 113 #[.agg (nodeV k nm g x1 az.length d1 x2 ws.length d2 x3 ks.len d3 x4 bs.length d4 x5 cz.len d5)] w fun e w'=>e = .returned (.bool (bodyB k ks.len))∧Below w.heap.size w w':=by
 unfold nodeV;cases h1:(k == 5) <;> by_cases h2:0 < ks.len
 all_goals try (exfalso;omega)
 all_goals
  go_enter Tryz.func113,Tryz.ntmps113;go_wp2_with fail
  all_goals
   go_ret;exact ⟨ret_bool (by simp [*,countsB,commandB,unitB,itemB,bodyB]),by first | exact bel1 _ _ | exact thru (bel1 _ _) (by assumption)⟩
theorem rwords_any (l:List PL) (a:Option Addr) (cap:Nat) (w:World) (hl:Sl 1 (PW w) a cap l) :
  Calls Tryz.prog 89 #[.slice a l.length cap] w fun e w'=>e = .returned (.bool (l.all rightW))∧Below w.heap.size w w':=by
 have hle:=hl.le;have HL:=Lib.hid hl;clear hl;go_enter Tryz.func89,Tryz.ntmps89;go_wp2
 go_loopw [7] (fun x wr=>∃ n:Nat,n≤l.length∧x = .int .i64 n∧l.all rightW = (l.drop n).all rightW∧Below w.heap.size w wr) (fun x wr=>l.length - (intOf x).toNat)
 case atStart=>exact ⟨0,Nat.zero_le _,rfl,rfl,Below.refl _ _⟩
 case round =>
  obtain ⟨n,hn,rfl,hr,hbw⟩:=hrel;have HR:=Lib.hid hr;have HW:=Lib.hid hbw;clear hr hbw
  by_cases hlt:n < l.length
  ·obtain ⟨b1,o1,rfl,a1,c1,e1,hl1⟩:=(sl_below (P:=PW) (fun h=>h.below HW.out) HL.out).get (List.getElem?_eq_getElem hlt);rw [Nat.mul_one] at e1;have hC:=Rf.rright_any l[n] a1 c1 wr hl1;have hstep:l.all rightW = (rightW l[n] && (l.drop (n + 1)).all rightW):=by rw [HR.out,List.drop_eq_getElem_cons hlt];rfl
   generalize l[n] = x at *
   have HT:=Lib.hid hstep;clear hl1 hstep;cases hx:rightW x
   all_goals
    rw [hx] at hC HT;have HC:=Lib.hid hC;clear hC hx
   ·go_wp2_with (go_at_call 116;refine (HC.out).mono ?_;rintro e w' ⟨rfl,hb⟩);go_ret;exact ⟨ret_bool (by rw [HT.out];rfl),thru HW.out (by assumption)⟩
   ·go_wp2_with (go_at_call 116;refine (HC.out).mono ?_;rintro e w' ⟨rfl,hb⟩);go_roundw
    case rel=>exact ⟨n + 1,by omega,by go_num,by rw [HT.out];rfl,thru HW.out (by assumption)⟩
    case measure=>simp [intOf];omega
  ·obtain rfl:n = l.length:=by omega
   go_wp2;go_ret;exact ⟨ret_bool (by rw [HR.out,List.drop_eq_nil_of_le (Nat.le_refl _)];rfl),HW.out⟩
def resW (l:PL):Bool:=Sp.plainB l && reservedL (Sp.plainT l).data.toList
theorem rresw_any (l:PL) (a:Option Addr) (cap:Nat) (w:World) (hl:Lies w a cap l):Calls Tryz.prog 112 #[.slice a l.len cap] w fun e w'=>e = .returned (.bool (resW l))∧Below w.heap.size w w':=by
 have HL:=Lib.hid hl;clear hl;have hle:=HL.out.le;cases l with
 | nil =>
  go_enter Tryz.func112,Tryz.ntmps112;go_wp2_with fail;go_ret;exact ⟨rfl,Below.refl _ _⟩
 | cons k q t o f r =>
  cases r with
  | cons k2 q2 t2 o2 f2 r2 =>
   have hlen:(PL.cons k q t o f (PL.cons k2 q2 t2 o2 f2 r2)).len = r2.len + 2:=rfl;have hne:(((r2.len + 2:Nat):Int) == 1) = false:=by simp;omega
   rw [hlen];clear hlen hle;go_enter Tryz.func112,Tryz.ntmps112;go_wp2_with fail;go_ret;exact ⟨rfl,Below.refl _ _⟩
  | nil =>
   obtain ⟨b1,p1,rfl,hb1,c10,c11,c12,c13,ht,ho,a1,ca1,c14,hl1⟩:=HL.out.get (i:=0) rfl;rw [Nat.zero_mul,Nat.add_zero] at c10 c11 c12 c13 c14;have hlen:(PL.cons k q t o f PL.nil).len = 1:=rfl;rw [hlen];clear hlen hle hl1 c13 c14;have hR:=fun w=>rreserved_any t w;cases hk:(k == 1) <;> cases q <;> cases hv:reservedL t.data.toList
   all_goals
    rw [hv] at hR;have HR:=Lib.hid hR;have HV:=Lib.hid hv;clear hR hv;go_enter Tryz.func112,Tryz.ntmps112;go_wp2_with (go_at_call 91;refine (HR.out _).mono ?_;rintro e w1 ⟨rfl,hb⟩);go_ret;exact ⟨ret_bool (by simp [resW,Sp.plainB,Sp.plainT,hk,HV.out]),by first | exact Below.refl _ _ | assumption⟩
end Tr
end Go.Proofs.YtjmpfihopeohbaaGreatDoor
namespace Go.Proofs.YtjmpfihopeohbaaGreatDoor
open Go.RowKit Go.Sort
namespace Tr
open Cls Pt
def sigs:List UInt8:=[110,103,97,119,107,98,99]
def noneL (has:List Bool) (but:List UInt8):Bool:=(List.range 7).all fun i=>!(has.getD i false) || but.any (· == sigs.getD i 0)
theorem cmp8 (a b:UInt8):((a.toNat:Int) == (b.toNat:Int)) = (a == b):=by
 rw [Bool.eq_iff_iff,beq_iff_eq,beq_iff_eq];constructor
 ·intro e;exact UInt8.toNat_inj.1 (by omega)
 ·rintro rfl;rfl
theorem sig_at {i:Nat} (h:i < (⟨#[110,103,97,119,107,98,99]⟩:ByteArray).size):(⟨#[110,103,97,119,107,98,99]⟩:ByteArray)[i] = sigs.getD i 0:=by
 have h7:i < 7:=h
 match i,h7 with
 | 0,_=>rfl | 1,_=>rfl | 2,_=>rfl | 3,_=>rfl | 4,_=>rfl | 5,_=>rfl | 6,_=>rfl | n + 7,h=>omega
def hasN (nm:ByteArray) (g:Bool) (az:List (ByteArray × PL)) (ws:List PL) (ks:NL) (bs:List Bool) (cz:NL):List Bool:=[!nm.toList.isEmpty,g,!az.isEmpty,!ws.isEmpty,decide (0 < ks.len),!bs.isEmpty,decide (0 < cz.len)]
theorem any_snoc (l:List UInt8) (c:UInt8) (k:Nat) (h:k < l.length):(l.take (k + 1)).any (· == c) = ((l.take k).any (· == c) || l[k] == c):=by
 rw [List.take_succ_eq_append_getElem h,List.any_append];simp
theorem none_step (has:List Bool) (but:List UInt8) (i:Nat) (h:i < 7) (hs:((List.range i).all fun i=>!(has.getD i false) || but.any (· == sigs.getD i 0)) = true) (h2:(!(has.getD i false) || but.any (· == sigs.getD i 0)) = true):((List.range (i + 1)).all fun i=>!(has.getD i false) || but.any (· == sigs.getD i 0)) = true:=by
 rw [List.range_succ,List.all_append,hs];simpa using h2
theorem none_miss (has:List Bool) (but:List UInt8) (i:Nat) (h:i < 7) (h2:(!(has.getD i false) || but.any (· == sigs.getD i 0)) = false):noneL has but = false:=by
 unfold noneL;rw [List.all_eq_false];exact ⟨i,by simpa using h,by rw [h2];simp⟩
theorem none_any (k:Int) (nm:ByteArray) (g:Bool) (az:List (ByteArray × PL)) (ws:List PL) (ks:NL) (bs:List Bool) (cz:NL) (x1 d1 x2 d2 x3 d3 x4 d4 x5 d5) (but:ByteArray) (hbut:but.size≤100) (w:World) (h:Holds w nm az ws ks bs cz x1 d1 x2 d2 x3 d3 x4 d4 x5 d5):Calls Tryz.prog 83 #[.agg (nodeV k nm g x1 az.length d1 x2 ws.length d2 x3 ks.len d3 x4 bs.length d4 x5 cz.len d5),.string but] w fun e w'=>e = .returned (.bool (noneL (hasN nm g az ws ks bs cz) but.data.toList))∧Below w.heap.size w w':=by
 have l1:=h.haz.le;have l2:=h.hws.le;have l3:=h.hks.le;have l4:=h.hbs.le;have l5:=h.hcs.le;clear h;have pos:∀ n:Nat,∃ B:Bool,decide (0 < n) = B∧((0 < n) = (B = true)):=fun n=>⟨_,rfl,by simp⟩;have e1:∀ {T:Type} (l:List T),(!l.isEmpty) = decide (0 < l.length):=fun l=>by cases l <;> simp
 unfold hasN;rw [e1 az,e1 ws,e1 bs];obtain ⟨B1,h1,q1⟩:=pos az.length;obtain ⟨B2,h2,q2⟩:=pos ws.length;obtain ⟨B3,h3,q3⟩:=pos ks.len;obtain ⟨B4,h4,q4⟩:=pos bs.length;obtain ⟨B5,h5,q5⟩:=pos cz.len;rw [h1,h2,h3,h4,h5];clear h1 h2 h3 h4 h5;unfold nodeV;generalize az.length = n1 at *
 generalize ws.length = n2 at *
 generalize ks.len = n3 at *
 generalize bs.length = n4 at *
 generalize cz.len = n5 at *
 generalize hE:nm.toList.isEmpty = E;generalize hHas:[!E,g,B1,B2,B3,B4,B5] = has;have HHAS:=Lib.hid hHas;clear hHas;go_enter Tryz.func83,Tryz.ntmps83;go_wp2_with fail
 all_goals
  have hcl:∀ j,j < 7→((w.alloc (.cells #[.int .i64 k,.string nm,.bool g,.slice x1 n1 d1,.slice x2 n2 d2,.slice x3 n3 d3,.slice x4 n4 d4,.slice x5 n5 d5] 28)).alloc (.cells #[.bool !E,.bool g,.bool B1,.bool B2,.bool B3,.bool B4,.bool B5] 4)).cell? ⟨w.heap.size + 1,j,none⟩ = some (.bool ([!E,g,B1,B2,B3,B4,B5].getD j false)):=by
   intro j hj;have hr:=heap_new' (w.alloc (.cells #[.int .i64 k,.string nm,.bool g,.slice x1 n1 d1,.slice x2 n2 d2,.slice x3 n3 d3,.slice x4 n4 d4,.slice x5 n5 d5] 28)) (.cells #[.bool !E,.bool g,.bool B1,.bool B2,.bool B3,.bool B4,.bool B5] 4);rw [World.size_alloc] at hr;have hc:=Lib.cell_of_heap hr j;rw [hc]
   match j,hj with
   | 0,_=>rfl | 1,_=>rfl | 2,_=>rfl | 3,_=>rfl | 4,_=>rfl | 5,_=>rfl | 6,_=>rfl | n + 7,h=>omega
  have hb2:=bel2 w (.cells #[.int .i64 k,.string nm,.bool g,.slice x1 n1 d1,.slice x2 n2 d2,.slice x3 n3 d3,.slice x4 n4 d4,.slice x5 n5 d5] 28) (.cells #[.bool !E,.bool g,.bool B1,.bool B2,.bool B3,.bool B4,.bool B5] 4);generalize ((w.alloc (.cells #[.int .i64 k,.string nm,.bool g,.slice x1 n1 d1,.slice x2 n2 d2,.slice x3 n3 d3,.slice x4 n4 d4,.slice x5 n5 d5] 28)).alloc (.cells #[.bool !E,.bool g,.bool B1,.bool B2,.bool B3,.bool B4,.bool B5] 4)) = W2 at hcl hb2 ⊢
  rw [HHAS.out] at hcl;have HCL:=Lib.hid hcl;have HB2:=Lib.hid hb2;clear hcl hb2
  try clear hE
  have hbl:but.data.toList.length = but.size:=lenB but;have HBL:=Lib.hid hbl;clear hbl
  go_loopw [38] (fun x wr=>∃ i:Nat,i≤7∧x = .int .i64 i∧((List.range i).all fun i=>!(has.getD i false) || but.data.toList.any (· == sigs.getD i 0)) = true∧Below W2.heap.size W2 wr) (fun x wr=>7 - (intOf x).toNat)
  case atStart=>exact ⟨0,by omega,rfl,rfl,Below.refl _ _⟩
  case round =>
   obtain ⟨i,hi,rfl,hr,hbw⟩:=hrel;have HR:=Lib.hid hr;have HW:=Lib.hid hbw;clear hr hbw
   by_cases hlt:i < 7
   ·have cb:=cell_below HW.out (HCL.out i hlt);have hltI:((i:Int) < 7) = True:=by simp;omega
    generalize hgb:has.getD i false = b at cb;have HGB:=Lib.hid hgb;clear hgb;go_wp2_with fail
    go_loopw [8,9] (fun y x wq=>∃ m:Nat,m≤but.size∧x = .int .i64 m∧y = .bool ((but.data.toList.take m).any (· == sigs.getD i 0))∧Below wr.heap.size wr wq) (fun y x wq=>but.size - (intOf x).toNat)
    case atStart=>exact ⟨0,by omega,rfl,rfl,Below.refl _ _⟩
    case round =>
     obtain ⟨m,hm,rfl,rfl,hbq⟩:=hrel;have HQ:=Lib.hid hbq;clear hbq
     by_cases hl2:m < but.size
     ·have hsn:=any_snoc but.data.toList (sigs.getD i 0) m (by rw [HBL.out];exact hl2);generalize (but.data.toList.take m).any (· == sigs.getD i 0) = Y at hsn ⊢
      have HSN:=Lib.hid hsn;clear hsn;cases Y
      ·go_wp2_with fail;refine Qu.region (by kernel_rfl) (by kernel_rfl) ?_
       repeat (first
        | (first | refine Qu.carry0 rfl (fun K hK=>?_) | refine Qu.carryG rfl rfl rfl (fun K hK=>?_)
           go_simp
           first
           | (refine hK _ ?_;clear hK K)
           | (apply Exists.intro;refine ⟨fun _=>?_,hK _ ?_⟩;fail;clear hK K))
        | (refine Qu.passG rfl rfl rfl (fun K hK=>?_);go_simp;refine hK _ ?_;clear hK K))
       refine Qu.fin ?_;rintro ⟨dq,osq⟩;go_wp2_with fail;go_roundw
       case rel =>
        refine ⟨m + 1,by omega,by go_num,?_,?_⟩
        ·exact congrArg Value.bool (by rw [HSN.out,cmp8,sig_at,getB hl2];simp [List.getD_eq_getElem?_getD,hl2])
        ·exact thru HQ.out (below_regrown wr dq osq)
       case measure=>simp [intOf];omega
      ·go_wp2_with fail;refine Qu.region (by kernel_rfl) (by kernel_rfl) ?_
       repeat (first
        | (first | refine Qu.carry0 rfl (fun K hK=>?_) | refine Qu.carryG rfl rfl rfl (fun K hK=>?_)
           go_simp
           first
           | (refine hK _ ?_;clear hK K)
           | (apply Exists.intro;refine ⟨fun _=>?_,hK _ ?_⟩;fail;clear hK K))
        | (refine Qu.passG rfl rfl rfl (fun K hK=>?_);go_simp;refine hK _ ?_;clear hK K))
       refine Qu.fin ?_;rintro ⟨dq,osq⟩;go_wp2_with fail;go_roundw
       case rel =>
        refine ⟨m + 1,by omega,by go_num,?_,?_⟩
        ·exact congrArg Value.bool (by rw [HSN.out];rfl)
        ·exact thru HQ.out (below_regrown wr dq osq)
       case measure=>simp [intOf];omega
     ·obtain rfl:m = but.size:=by omega
      have hY:(but.data.toList.take but.size).any (· == sigs.getD i 0) = but.data.toList.any (· == sigs.getD i 0):=by rw [← HBL.out,List.take_length]
      rw [hY];generalize hX:but.data.toList.any (· == sigs.getD i 0) = X;have HX:=Lib.hid hX;clear hY hX;cases b <;> cases X
      ·go_wp2_with fail;exact ⟨⟨i + 1,by omega,by go_num,none_step has _ i hlt HR.out (by rw [HGB.out];rfl),thru HW.out HQ.out⟩,by simp [intOf];omega⟩
      ·go_wp2_with fail;exact ⟨⟨i + 1,by omega,by go_num,none_step has _ i hlt HR.out (by rw [HGB.out];rfl),thru HW.out HQ.out⟩,by simp [intOf];omega⟩
      ·go_wp2_with fail;go_ret;exact ⟨ret_bool (none_miss has _ i hlt (by rw [HGB.out,HX.out];rfl)).symm,thru HB2.out (thru HW.out HQ.out)⟩
      ·go_wp2_with fail;exact ⟨⟨i + 1,by omega,by go_num,none_step has _ i hlt HR.out (by rw [HGB.out,HX.out];rfl),thru HW.out HQ.out⟩,by simp [intOf];omega⟩
   ·obtain rfl:i = 7:=by omega
    go_wp2_with fail;go_ret;exact ⟨ret_bool HR.out.symm,thru HB2.out HW.out⟩
end Tr
end Go.Proofs.YtjmpfihopeohbaaGreatDoor
namespace Go.Proofs.YtjmpfihopeohbaaGreatDoor
open Go.RowKit Go.Sort
namespace Tr
open Cls Pt
theorem later {f:FuncId} {args:Array Value} {W0 W:World} {v:Value} (h:Calls Tryz.prog f args W fun e w'=>e = .returned v∧Below W.heap.size W w') (hb:Below W0.heap.size W0 W):Calls Tryz.prog f args W fun e w'=>e = .returned v∧Below W0.heap.size W0 w' :=
 h.mono fun _ _ x=>⟨x.1,thru hb x.2⟩
theorem first_res (l:PL) (B:Bool):firstB l B = (!(Sp.splitP l).isSome && (B || !resW l)):=by
 unfold firstB resW;cases (Sp.splitP l).isSome <;> cases B <;> cases Sp.plainB l <;> simp
theorem simple_empty {az:List (ByteArray × PL)} {ws:List PL} (h:az.length + ws.length = 0):simpleB az ws = false:=by
 have h1:az = []:=List.length_eq_zero_iff.1 (by omega);have h2:ws = []:=List.length_eq_zero_iff.1 (by omega);subst h1 h2;rfl
theorem simple_words {az:List (ByteArray × PL)} {ws:List PL} (h:ws.all rightW = false):simpleB az ws = false:=by
 cases ws with
 | nil=>simp at h
 | cons l r =>
  show (az.all assignB && (firstB l _ && (l :: r).all rightW)) = false;rw [h];simp
theorem simple_assigns {az:List (ByteArray × PL)} {ws:List PL} (h:az.all assignB = false):simpleB az ws = false:=by
 unfold simpleB;rw [h];rfl
theorem rsimple_any (k:Int) (nm:ByteArray) (g:Bool) (az:List (ByteArray × PL)) (ws:List PL) (ks:NL) (bs:List Bool) (cz:NL) (x1 d1 x2 d2 x3 d3 x4 d4 x5 d5) (w:World) (h:Holds w nm az ws ks bs cz x1 d1 x2 d2 x3 d3 x4 d4 x5 d5):Calls Tryz.prog 82 #[.agg (nodeV k nm g x1 az.length d1 x2 ws.length d2 x3 ks.len d3 x4 bs.length d4 x5 cz.len d5)] w fun e w'=>e = .returned (.bool (noneL (hasN nm g az ws ks bs cz) [97,119] && simpleB az ws))∧Below w.heap.size w w':=by
 have hla:=h.haz.le;have hlw:=h.hws.le;have hb0:=bel1 w (.cells #[.int .i64 k,.string nm,.bool g,.slice x1 az.length d1,.slice x2 ws.length d2,.slice x3 ks.len d3,.slice x4 bs.length d4,.slice x5 cz.len d5] 28);have hrow:(w.alloc (.cells #[.int .i64 k,.string nm,.bool g,.slice x1 az.length d1,.slice x2 ws.length d2,.slice x3 ks.len d3,.slice x4 bs.length d4,.slice x5 cz.len d5] 28)).heap[w.heap.size]? = some (.cells #[.int .i64 k,.string nm,.bool g,.slice x1 az.length d1,.slice x2 ws.length d2,.slice x3 ks.len d3,.slice x4 bs.length d4,.slice x5 cz.len d5] 28 (0,0)):=heap_new' _ _;have hn:=fun W (hb:Below (w.alloc (.cells #[.int .i64 k,.string nm,.bool g,.slice x1 az.length d1,.slice x2 ws.length d2,.slice x3 ks.len d3,.slice x4 bs.length d4,.slice x5 cz.len d5] 28)).heap.size (w.alloc (.cells #[.int .i64 k,.string nm,.bool g,.slice x1 az.length d1,.slice x2 ws.length d2,.slice x3 ks.len d3,.slice x4 bs.length d4,.slice x5 cz.len d5] 28)) W)=>later (none_any k nm g az ws ks bs cz x1 d1 x2 d2 x3 d3 x4 d4 x5 d5 ⟨#[97,119]⟩ (by decide) W (h.below (thru hb0 hb))) hb;have hws:=fun W (hb:Below (w.alloc (.cells #[.int .i64 k,.string nm,.bool g,.slice x1 az.length d1,.slice x2 ws.length d2,.slice x3 ks.len d3,.slice x4 bs.length d4,.slice x5 cz.len d5] 28)).heap.size (w.alloc (.cells #[.int .i64 k,.string nm,.bool g,.slice x1 az.length d1,.slice x2 ws.length d2,.slice x3 ks.len d3,.slice x4 bs.length d4,.slice x5 cz.len d5] 28)) W)=>later (rwords_any ws x2 d2 W (sl_below (P:=PW) (fun h=>h.below (thru hb0 hb)) h.hws)) hb;have hlt0:w.heap.size < (w.alloc (.cells #[.int .i64 k,.string nm,.bool g,.slice x1 az.length d1,.slice x2 ws.length d2,.slice x3 ks.len d3,.slice x4 bs.length d4,.slice x5 cz.len d5] 28)).heap.size:=by simp only [World.size_alloc];omega
 unfold nodeV at hn ⊢
 generalize hNE:noneL (hasN nm g az ws ks bs cz) [97,119] = N at hn ⊢
 have HN:=Lib.hid hn;have HWS:=Lib.hid hws;have HA:=Lib.hid h.haz;have HW1:=Lib.hid h.hws;clear hn hws h hNE;go_enter Tryz.func82,Tryz.ntmps82;go_wp2_with fail;generalize w.alloc (.cells #[.int .i64 k,.string nm,.bool g,.slice x1 az.length d1,.slice x2 ws.length d2,.slice x3 ks.len d3,.slice x4 bs.length d4,.slice x5 cz.len d5] 28) = W0 at *
 have hq0:∀ W,Below W0.heap.size W0 W→W.cell? ⟨w.heap.size,0,none⟩ = some (.int .i64 k):=fun W hb=>cell_below hb (Lib.cell_of_heap hrow 0);have hq1:∀ W,Below W0.heap.size W0 W→W.cell? ⟨w.heap.size,1,none⟩ = some (.string nm):=fun W hb=>cell_below hb (Lib.cell_of_heap hrow 1);have hq2:∀ W,Below W0.heap.size W0 W→W.cell? ⟨w.heap.size,2,none⟩ = some (.bool g):=fun W hb=>cell_below hb (Lib.cell_of_heap hrow 2);have hq3:∀ W,Below W0.heap.size W0 W→W.cell? ⟨w.heap.size,3,none⟩ = some (.slice x1 az.length d1):=fun W hb=>cell_below hb (Lib.cell_of_heap hrow 3);have hq4:∀ W,Below W0.heap.size W0 W→W.cell? ⟨w.heap.size,4,none⟩ = some (.slice x2 ws.length d2):=fun W hb=>cell_below hb (Lib.cell_of_heap hrow 4);have hq5:∀ W,Below W0.heap.size W0 W→W.cell? ⟨w.heap.size,5,none⟩ = some (.slice x3 ks.len d3):=fun W hb=>cell_below hb (Lib.cell_of_heap hrow 5);have hq6:∀ W,Below W0.heap.size W0 W→W.cell? ⟨w.heap.size,6,none⟩ = some (.slice x4 bs.length d4):=fun W hb=>cell_below hb (Lib.cell_of_heap hrow 6);have hq7:∀ W,Below W0.heap.size W0 W→W.cell? ⟨w.heap.size,7,none⟩ = some (.slice x5 cz.len d5):=fun W hb=>cell_below hb (Lib.cell_of_heap hrow 7);have HQ0:=Lib.hid hq0;clear hq0;have HQ1:=Lib.hid hq1;clear hq1;have HQ2:=Lib.hid hq2;clear hq2;have HQ3:=Lib.hid hq3;clear hq3;have HQ4:=Lib.hid hq4;clear hq4;have HQ5:=Lib.hid hq5;clear hq5;have HQ6:=Lib.hid hq6;clear hq6;have HQ7:=Lib.hid hq7;clear hq7;have HB0:=Lib.hid hb0;clear hb0 hrow;have q0:=HQ0.out _ (Below.refl _ _);have q1:=HQ1.out _ (Below.refl _ _);have q2:=HQ2.out _ (Below.refl _ _);have q3:=HQ3.out _ (Below.refl _ _);have q4:=HQ4.out _ (Below.refl _ _);have q5:=HQ5.out _ (Below.refl _ _);have q6:=HQ6.out _ (Below.refl _ _);have q7:=HQ7.out _ (Below.refl _ _);have hbr:=Below.refl W0.heap.size W0;cases N
 ·go_wp2_with (go_at_call 83;refine (HN.out _ (by assumption)).mono ?_;rintro e w1 ⟨rfl,hb⟩);go_ret;exact ⟨rfl,thru HB0.out (by assumption)⟩
 have hu:IntKind.i64.wrap ((az.length:Int) + (ws.length:Int)) = (az.length:Int) + (ws.length:Int):=(wrapEq _).trans (IntWalk.wrap64_in _ ⟨by omega,by omega⟩)
 by_cases h0:az.length + ws.length = 0
 ·have h0':((az.length:Int) + (ws.length:Int) == 0) = true:=by simp;omega
  have HS:=Lib.hid (simple_empty h0);clear h0;go_wp2_with (go_at_call 83;refine (HN.out _ (by assumption)).mono ?_;rintro e w1 ⟨rfl,hb⟩;have q3:=HQ3.out _ hb;have q4:=HQ4.out _ hb);go_ret;exact ⟨ret_bool (by rw [HS.out];rfl),thru HB0.out (by assumption)⟩
 have h0':((az.length:Int) + (ws.length:Int) == 0) = false:=by rw [beq_eq_false_iff_ne];omega
 have H0:=Lib.hid h0;clear h0;cases hww:ws.all rightW
 ·rw [hww] at HWS;have HS:=Lib.hid (simple_words (az:=az) hww);clear hww;go_wp2_with (first | (go_at_call 83;refine (HN.out _ (by assumption)).mono ?_;rintro e w1 ⟨rfl,hb⟩;have q3:=HQ3.out _ hb;have q4:=HQ4.out _ hb) | (go_at_call 89;refine (HWS.out _ (by assumption)).mono ?_;rintro e w2 ⟨rfl,hb⟩));go_ret;exact ⟨ret_bool (by rw [HS.out];rfl),thru HB0.out (by assumption)⟩
 rw [hww] at HWS;have HWW0:=Lib.hid hww;clear hww;go_wp2_with (first | (go_at_call 83;refine (HN.out _ (by assumption)).mono ?_;rintro e w1 ⟨rfl,hb⟩;have q3:=HQ3.out _ hb;have q4:=HQ4.out _ hb) | (go_at_call 89;refine (HWS.out _ (by assumption)).mono ?_;rintro e w2 ⟨rfl,hb⟩;have q3:=HQ3.out _ hb;have q4:=HQ4.out _ hb));clear q0 q1 q2 q5 q6 q7 hu
 go_loopw [27] (fun x wr=>∃ n:Nat,n≤az.length∧x = .int .i64 n∧az.all assignB = (az.drop n).all assignB∧Below W0.heap.size W0 wr) (fun x wr=>az.length - (intOf x).toNat)
 case atStart=>exact ⟨0,Nat.zero_le _,rfl,rfl,by assumption⟩
 case round =>
  obtain ⟨n,hn,rfl,hr,hbw⟩:=hrel;have hbww:=thru HB0.out hbw;have HR:=Lib.hid hr;have HW:=Lib.hid hbw;have HWW:=Lib.hid hbww;clear hr hbw hbww
  by_cases hlt:n < az.length
  ·obtain ⟨b1,o1,rfl,e1,hsz,a1,c1,e2,hl1⟩:=(sl_below (P:=PA) (fun h=>h.below HWW.out) HA.out).get (List.getElem?_eq_getElem hlt);have hb1:=World.block_lt_of_cell? _ _ e1;have hN:=fun w=>rname_any az[n].1 w (by unfold R at hsz;omega);have hV:=fun X=>Rf.rvalue_any az[n].2 a1 c1 (wr.alloc X) (hl1.below (bel1 wr X));have hstep:az.all assignB = (assignB az[n] && (az.drop (n + 1)).all assignB):=by rw [HR.out,List.drop_eq_getElem_cons hlt];rfl
   have hAB:assignB az[n] = (nameL az[n].1.data.toList && rightL none az[n].2 0 1):=rfl;rw [hAB] at hstep;generalize az[n].1 = t1 at *
   generalize az[n].2 = l1 at *
   have HT:=Lib.hid hstep;clear hl1 hstep hAB;cases hx:nameL t1.data.toList
   ·rw [hx] at hN HT;have HN2:=Lib.hid hN;have HV:=Lib.hid hV;have HS:=Lib.hid (simple_assigns (ws:=ws) (HT.out.trans rfl));clear hN hV hx;go_wp2_with (go_at_call 88;refine (HN2.out _).mono ?_;rintro e w' ⟨rfl,rfl⟩);go_ret;exact ⟨ret_bool (by rw [HS.out];rfl),thru HWW.out (bel1 _ _)⟩
   ·rw [hx] at hN HT;cases hy:rightL none l1 0 1
    all_goals
     rw [hy] at hV HT;have HN2:=Lib.hid hN;have HV:=Lib.hid hV;clear hN hV hx hy
     go_wp2_with (first
      | (go_at_call 88;refine (HN2.out _).mono ?_;rintro e w' ⟨rfl,rfl⟩)
      | (go_at_call 105;refine (HV.out _).mono ?_;rintro e w2 ⟨rfl,hb⟩))
    ·have HS:=Lib.hid (simple_assigns (ws:=ws) (HT.out.trans rfl));go_ret;exact ⟨ret_bool (by rw [HS.out];rfl),thru HWW.out (thru (bel1 _ _) (by assumption))⟩
    ·go_roundw
     case rel=>exact ⟨n + 1,by omega,by go_num,by rw [HT.out];rfl,thru HW.out (thru (bel1 _ _) (by assumption))⟩
     case measure=>simp [intOf];omega
  ·obtain rfl:n = az.length:=by omega
   have hall:az.all assignB = true:=by rw [HR.out,List.drop_eq_nil_of_le (Nat.le_refl _)];rfl
   have q3:=HQ3.out _ HW.out;have q4:=HQ4.out _ HW.out;have HALL:=Lib.hid hall;clear hall;cases ws with
   | nil =>
    have hp:0 < az.length:=by have:=H0.out;simp only [List.length_nil] at this;omega
    have HS:=Lib.hid (show simpleB az [] = true by show (az.all assignB && decide (0 < az.length)) = true;rw [HALL.out];simp [hp]);clear h0' hlw hlt;simp only [List.length_nil] at q4;go_wp2_with fail;go_ret;exact ⟨ret_bool (by rw [HS.out];rfl),HWW.out⟩
   | cons l r =>
    obtain ⟨bw,ow,rfl,aw,cw,ew,hlw1⟩:=(sl_below (P:=PW) (fun h=>h.below HWW.out) HW1.out).get (n:=0) (t:=l) rfl;rw [Nat.zero_mul,Nat.add_zero] at ew;have hbw:=World.block_lt_of_cell? _ _ ew;have hz:(((l :: r).length:Int) == 0) = false:=by rw [beq_eq_false_iff_ne];simp;omega
    have hlen1:0 < (l :: r).length:=by simp
    have hans:simpleB az (l :: r) = firstB l (decide (0 < az.length)):=by
     show (az.all assignB && (firstB l _ && (l :: r).all rightW)) = _;rw [HALL.out,HWW0.out];simp
    rw [first_res] at hans;have hB:∃ B:Bool,decide (0 < az.length) = B∧((0 < az.length) = (B = true)):=⟨_,rfl,by simp⟩;obtain ⟨B,hB,hB2⟩:=hB;rw [hB] at hans;have HANS:=Lib.hid hans;have hS:=Sp.rsplit_any l aw cw wr hlw1;have hR:=rresw_any l aw cw wr hlw1;generalize (l :: r).length = L at *
    generalize az.length = LA at *
    generalize hres:resW l = RS at hR HANS;clear hans hB h0' hlt hres HALL HR hlw1;cases hsp:Sp.splitP l with
    | some n0 =>
     rw [show Sp.splitI l = ((n0:Nat):Int) by unfold Sp.splitI;rw [hsp]] at hS;have HSP:=Lib.hid (show (Sp.splitP l).isSome = true by rw [hsp];rfl);have HS:=Lib.hid hS;clear hS hR hsp;go_wp2_with (go_at_call 111;refine HS.out.mono ?_;rintro e w1 ⟨rfl,rfl⟩);go_ret;exact ⟨ret_bool (by rw [HANS.out,HSP.out];rfl),HWW.out⟩
    | none =>
     rw [show Sp.splitI l = -1 by unfold Sp.splitI;rw [hsp]] at hS;have HSP:=Lib.hid (show (Sp.splitP l).isSome = false by rw [hsp];rfl);have HS:=Lib.hid hS;have HRS:=Lib.hid hR;clear hS hR hsp;cases B
     all_goals
      simp only [Bool.false_eq_true,eq_self_iff_true] at hB2;cases RS
      all_goals
       go_wp2_with (first | (go_at_call 111;refine HS.out.mono ?_;rintro e w1 ⟨rfl,rfl⟩) | (go_at_call 112;refine HRS.out.mono ?_;rintro e w2 ⟨rfl,hb⟩));go_ret;exact ⟨ret_bool (by rw [HANS.out,HSP.out];rfl),by first | exact HWW.out | exact thru HWW.out (by assumption)⟩
end Tr
end Go.Proofs.YtjmpfihopeohbaaGreatDoor
