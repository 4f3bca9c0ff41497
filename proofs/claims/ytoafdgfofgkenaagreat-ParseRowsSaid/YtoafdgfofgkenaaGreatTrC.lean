/- tree.Same, for all nodes. -/
import Derived.Test.YtoafdgfofgkenaaGreatTrB
import Derived.Test.YtoafdgfofgkenaaGreatPtB
import Derived.Test.YtoafdgfofgkenaaGreatQTail
import Derived.Test.YtoafdgfofgkenaaGreatPtY
namespace Go.Proofs.YtoafdgfofgkenaaGreat
open Go.RowKit Go.Sort
namespace Tr
open Cls Pt
def eqL {T:Type} (p:T→T→Bool):List T→List T→Bool
 | [],[]=>true
 | x :: r,y :: s=>p x y && eqL p r s
 | _,_=>false
theorem eqL_len {T:Type} {p:T→T→Bool}:∀ {l m:List T},l.length ≠ m.length→eqL p l m = false
 | [],[],h=>absurd rfl h
 | [],_ :: _,_=>rfl
 | _ :: _,[],_=>rfl
 | x :: r,y :: s,h=>by simp only [eqL,eqL_len (l:=r) (m:=s) (by simpa using h),Bool.and_false]
theorem eqL_at {T:Type} {p:T→T→Bool} {l m:List T} {k:Nat} (h1:k < l.length) (h2:k < m.length):eqL p (l.drop k) (m.drop k) = (p l[k] m[k] && eqL p (l.drop (k + 1)) (m.drop (k + 1))):=by
 rw [List.drop_eq_getElem_cons h1,List.drop_eq_getElem_cons h2];rfl
theorem eqL_end {T:Type} {p:T→T→Bool} {l m:List T} (h:l.length = m.length):eqL p (l.drop l.length) (m.drop l.length) = true:=by
 rw [List.drop_eq_nil_of_le (Nat.le_refl _),List.drop_eq_nil_of_le (by omega)];rfl
def sameA (x y:ByteArray × PL):Bool:=x.1.toList == y.1.toList && same x.2 y.2
def sameN:NL→NL→Bool
 | .nil,.nil=>true
 | .node k nm g az ws ks bs cs r,.node k' nm' g' az' ws' ks' bs' cs' r'=>(k == k' && nm.toList == nm'.toList && g == g' && eqL sameA az az' && eqL same ws ws' && sameN ks ks' && eqL (· == ·) bs bs' && sameN cs cs') && sameN r r'
 | .cse ps b r,.cse ps' b' r'=>(eqL same ps ps' && sameN b b') && sameN r r'
 | _,_=>false
theorem sameN_len:∀ {a b:NL},a.len ≠ b.len→sameN a b = false
 | .nil,.nil,h=>absurd rfl h
 | .nil,.node ..,_=>rfl
 | .nil,.cse ..,_=>rfl
 | .node ..,.nil,_=>rfl
 | .cse ..,.nil,_=>rfl
 | .node ..,.cse ..,_=>rfl
 | .cse ..,.node ..,_=>rfl
 | .node _ _ _ _ _ _ _ _ r,.node _ _ _ _ _ _ _ _ r',h=>by simp only [sameN,sameN_len (a:=r) (b:=r') (by simpa [NL.len] using h),Bool.and_false]
 | .cse _ _ r,.cse _ _ r',h=>by simp only [sameN,sameN_len (a:=r) (b:=r') (by simpa [NL.len] using h),Bool.and_false]
theorem sl_below {T:Type} {k:Nat} {P:World→Nat→Nat→T→Prop} {w w':World} {a:Option Addr} {cap:Nat} {l:List T} (hP:∀ {b o t},P w b o t→P w' b o t) (h:Sl k (P w) a cap l):Sl k (P w') a cap l:=h.mono fun _ _ _=>hP
def av (n:ByteArray) (a:Option Addr) (k c:Nat):Value:=.agg #[.string n,.slice a k c]
set_option maxHeartbeats 400000 in
set_option maxRecDepth 100000 in
theorem sameAssign_any (n1 n2:ByteArray) (l1 l2:PL) (a1 a2:Option Addr) (c1 c2:Nat) (w:World) (h1:Lies w a1 c1 l1) (h2:Lies w a2 c2 l2) :
  Calls Tryz.prog 23 #[av n1 a1 l1.len c1,av n2 a2 l2.len c2] w fun e w'=>e = .returned (.bool (sameA (n1,l1) (n2,l2)))∧Below w.heap.size w w':=by
 have HS:=Lib.hid (fun (x y:Obj)=>same_any (l1.size + 1) l1 l2 a1 a2 c1 c2 ((w.alloc x).alloc y) (by omega) (h1.below (bel2 w x y)) (h2.below (bel2 w x y)))
 clear h1 h2
 unfold av sameA
 cases hn:(n1.toList == n2.toList)
 ·go_enter Tryz.func23,Tryz.ntmps23
  go_wp2_with fail
  go_ret
  exact ⟨rfl,bel2 _ _ _⟩
 ·go_enter Tryz.func23,Tryz.ntmps23
  go_wp2_with (go_at_call 25;refine (HS.out _ _).mono ?_;rintro e w' ⟨rfl,hb⟩)
  go_ret
  exact ⟨rfl,thru (bel2 _ _ _) (by assumption)⟩
set_option maxHeartbeats 1000000 in
set_option maxRecDepth 100000 in
theorem eqA_any (la lb:List (ByteArray × PL)) (a b:Option Addr) (ca cb:Nat) (w:World) (hla:Sl 2 (PA w) a ca la) (hlb:Sl 2 (PA w) b cb lb) :
  Calls Tryz.prog 22 #[.slice a la.length ca,.slice b lb.length cb,.func (.func 23) #[] #[]] w fun e w'=>e = .returned (.bool (eqL sameA la lb))∧Below w.heap.size w w':=by
 have hle:=hla.le
 have HA:=Lib.hid hla;have HB:=Lib.hid hlb;clear hla hlb
 by_cases hl:la.length = lb.length
 ·have hl':((la.length:Int) != (lb.length:Int)) = false:=by simp [hl]
  have HL:=Lib.hid hl;clear hl
  go_enter Tryz.func22,Tryz.ntmps22
  go_wp2
  go_loopw [17] (fun i wr=>∃ k:Nat,k≤la.length∧i = .int .i64 k∧eqL sameA la lb = eqL sameA (la.drop k) (lb.drop k)∧Below w.heap.size w wr) (fun i wr=>la.length - (intOf i).toNat)
  case atStart=>exact ⟨0,Nat.zero_le _,rfl,rfl,Below.refl _ _⟩
  case round =>
   obtain ⟨k,hk,rfl,hr,hbw⟩:=hrel
   have HR:=Lib.hid hr;have HW:=Lib.hid hbw;clear hr hbw
   by_cases hlt:k < la.length
   ·have hlt2:k < lb.length:=by have:=HL.out;omega
    obtain ⟨b1,o1,rfl,c10,_,a1,ca1,c11,hl1⟩:=(sl_below (P:=PA) (fun h=>h.below HW.out) HA.out).get (List.getElem?_eq_getElem hlt)
    obtain ⟨b2,o2,rfl,c20,_,a2,ca2,c21,hl2⟩:=(sl_below (P:=PA) (fun h=>h.below HW.out) HB.out).get (List.getElem?_eq_getElem hlt2)
    have hb1:=World.block_lt_of_cell? _ _ c10
    have hb2:=World.block_lt_of_cell? _ _ c20
    have hC:=fun X Y=>sameAssign_any la[k].1 lb[k].1 la[k].2 lb[k].2 a1 a2 ca1 ca2 ((wr.alloc X).alloc Y) (hl1.below (bel2 wr X Y)) (hl2.below (bel2 wr X Y))
    unfold av at hC
    have hstep:eqL sameA la lb = (sameA la[k] lb[k] && eqL sameA (la.drop (k + 1)) (lb.drop (k + 1))):=HR.out.trans (eqL_at hlt hlt2)
    have hBB:sameA (la[k].1,la[k].2) (lb[k].1,lb[k].2) = sameA la[k] lb[k]:=rfl
    rw [hBB] at hC
    generalize sameA la[k] lb[k] = B at hC hstep
    generalize la[k].1 = n1 at *
    generalize lb[k].1 = n2 at *
    generalize la[k].2 = l1 at *
    generalize lb[k].2 = l2 at *
    have hws:=HW.out.size
    have HC:=Lib.hid hC;have HT:=Lib.hid hstep
    clear hC hstep hl1 hl2 hBB
    cases B
    ·go_wp2_with (go_at_call 23;refine (HC.out _ _).mono ?_;rintro e w' ⟨rfl,hb⟩)
     go_ret
     exact ⟨ret_bool (by rw [HT.out];rfl),thru HW.out (thru (bel2 _ _ _) (by assumption))⟩
    ·go_wp2_with (go_at_call 23;refine (HC.out _ _).mono ?_;rintro e w' ⟨rfl,hb⟩)
     go_roundw
     case rel=>exact ⟨k + 1,by omega,by go_num,by rw [HT.out];rfl,thru HW.out (thru (bel2 _ _ _) (by assumption))⟩
     case measure=>simp [intOf];omega
   ·obtain rfl:k = la.length:=by omega
    go_wp2
    go_ret
    exact ⟨ret_bool (by rw [HR.out];exact (eqL_end HL.out).symm),HW.out⟩
 ·have hl':((la.length:Int) != (lb.length:Int)) = true:=by simp;omega
  have HL:=Lib.hid hl;clear hl
  go_enter Tryz.func22,Tryz.ntmps22
  go_wp2_with fail
  go_ret
  exact ⟨ret_bool (eqL_len HL.out).symm,Below.refl _ _⟩
set_option maxHeartbeats 1000000 in
set_option maxRecDepth 100000 in
theorem eqW_any (la lb:List PL) (a b:Option Addr) (ca cb:Nat) (w:World) (hla:Sl 1 (PW w) a ca la) (hlb:Sl 1 (PW w) b cb lb) :
  Calls Tryz.prog 24 #[.slice a la.length ca,.slice b lb.length cb,.func (.func 25) #[] #[]] w fun e w'=>e = .returned (.bool (eqL same la lb))∧Below w.heap.size w w':=by
 have hle:=hla.le
 have HA:=Lib.hid hla;have HB:=Lib.hid hlb;clear hla hlb
 by_cases hl:la.length = lb.length
 ·have hl':((la.length:Int) != (lb.length:Int)) = false:=by simp [hl]
  have HL:=Lib.hid hl;clear hl
  go_enter Tryz.func24,Tryz.ntmps24
  go_wp2
  go_loopw [17] (fun i wr=>∃ k:Nat,k≤la.length∧i = .int .i64 k∧eqL same la lb = eqL same (la.drop k) (lb.drop k)∧Below w.heap.size w wr) (fun i wr=>la.length - (intOf i).toNat)
  case atStart=>exact ⟨0,Nat.zero_le _,rfl,rfl,Below.refl _ _⟩
  case round =>
   obtain ⟨k,hk,rfl,hr,hbw⟩:=hrel
   have HR:=Lib.hid hr;have HW:=Lib.hid hbw;clear hr hbw
   by_cases hlt:k < la.length
   ·have hlt2:k < lb.length:=by have:=HL.out;omega
    obtain ⟨b1,o1,rfl,a1,ca1,c10,hl1⟩:=(sl_below (P:=PW) (fun h=>h.below HW.out) HA.out).get (List.getElem?_eq_getElem hlt)
    obtain ⟨b2,o2,rfl,a2,ca2,c20,hl2⟩:=(sl_below (P:=PW) (fun h=>h.below HW.out) HB.out).get (List.getElem?_eq_getElem hlt2)
    rw [Nat.mul_one] at c10 c20
    have hC:=same_any (la[k].size + 1) la[k] lb[k] a1 a2 ca1 ca2 wr (by omega) hl1 hl2
    have hstep:eqL same la lb = (same la[k] lb[k] && eqL same (la.drop (k + 1)) (lb.drop (k + 1))):=HR.out.trans (eqL_at hlt hlt2)
    generalize same la[k] lb[k] = B at hC hstep
    generalize la[k] = l1 at *
    generalize lb[k] = l2 at *
    have hws:=HW.out.size
    have HC:=Lib.hid hC;have HT:=Lib.hid hstep
    clear hC hstep hl1 hl2
    cases B
    ·go_wp2_with (go_at_call 25;refine (HC.out).mono ?_;rintro e w' ⟨rfl,hb⟩)
     go_ret
     exact ⟨ret_bool (by rw [HT.out];rfl),thru HW.out (by assumption)⟩
    ·go_wp2_with (go_at_call 25;refine (HC.out).mono ?_;rintro e w' ⟨rfl,hb⟩)
     go_roundw
     case rel=>exact ⟨k + 1,by omega,by go_num,by rw [HT.out];rfl,thru HW.out (by assumption)⟩
     case measure=>simp [intOf];omega
   ·obtain rfl:k = la.length:=by omega
    go_wp2
    go_ret
    exact ⟨ret_bool (by rw [HR.out];exact (eqL_end HL.out).symm),HW.out⟩
 ·have hl':((la.length:Int) != (lb.length:Int)) = true:=by simp;omega
  have HL:=Lib.hid hl;clear hl
  go_enter Tryz.func24,Tryz.ntmps24
  go_wp2_with fail
  go_ret
  exact ⟨ret_bool (eqL_len HL.out).symm,Below.refl _ _⟩
set_option maxHeartbeats 1000000 in
set_option maxRecDepth 100000 in
theorem eqB_any (la lb:List Bool) (a b:Option Addr) (ca cb:Nat) (w:World) (hla:Sl 1 (PB w) a ca la) (hlb:Sl 1 (PB w) b cb lb) :
  Calls Tryz.prog 27 #[.slice a la.length ca,.slice b lb.length cb] w fun e w'=>e = .returned (.bool (eqL (· == ·) la lb))∧Below w.heap.size w w':=by
 have hle:=hla.le
 have HA:=Lib.hid hla;have HB:=Lib.hid hlb;clear hla hlb
 by_cases hl:la.length = lb.length
 ·have hl':((la.length:Int) != (lb.length:Int)) = false:=by simp [hl]
  have HL:=Lib.hid hl;clear hl
  go_enter Tryz.func27,Tryz.ntmps27
  go_wp2
  go_loopw [13] (fun i wr=>∃ k:Nat,k≤la.length∧i = .int .i64 k∧eqL (· == ·) la lb = eqL (· == ·) (la.drop k) (lb.drop k)∧Below w.heap.size w wr) (fun i wr=>la.length - (intOf i).toNat)
  case atStart=>exact ⟨0,Nat.zero_le _,rfl,rfl,Below.refl _ _⟩
  case round =>
   obtain ⟨k,hk,rfl,hr,hbw⟩:=hrel
   have HR:=Lib.hid hr;have HW:=Lib.hid hbw;clear hr hbw
   by_cases hlt:k < la.length
   ·have hlt2:k < lb.length:=by have:=HL.out;omega
    have hstep:eqL (· == ·) la lb = ((la[k] == lb[k]) && eqL (· == ·) (la.drop (k + 1)) (lb.drop (k + 1))):=HR.out.trans (eqL_at hlt hlt2)
    obtain ⟨b1,o1,rfl,c10⟩:=(sl_below (P:=PB) (fun h=>h.below HW.out) HA.out).get (List.getElem?_eq_getElem hlt)
    obtain ⟨b2,o2,rfl,c20⟩:=(sl_below (P:=PB) (fun h=>h.below HW.out) HB.out).get (List.getElem?_eq_getElem hlt2)
    rw [Nat.mul_one] at c10 c20
    unfold PB at c10 c20
    generalize la[k] = x1 at *
    generalize lb[k] = x2 at *
    have HT:=Lib.hid hstep
    clear hstep
    have hbd:∀ n,Below w.heap.size w (wr.drewN n):=fun n=>⟨HW.out.os,HW.out.tape,HW.out.output,HW.out.size,HW.out.block⟩
    have HBD:=Lib.hid hbd
    clear hbd
    cases x1 <;> cases x2
    all_goals
     go_wp2_with fail
     go_quiet (fail)
     go_wp2_with fail
     first
      | (go_roundw
         case rel=>exact ⟨k + 1,by omega,by go_num,by rw [HT.out];rfl,HBD.out _⟩
         case measure=>simp [intOf];omega)
      | (go_ret
         exact ⟨ret_bool (by rw [HT.out];rfl),HBD.out _⟩)
   ·obtain rfl:k = la.length:=by omega
    go_wp2
    go_ret
    exact ⟨ret_bool (by rw [HR.out];exact (eqL_end HL.out).symm),HW.out⟩
 ·have hl':((la.length:Int) != (lb.length:Int)) = true:=by simp;omega
  have HL:=Lib.hid hl;clear hl
  go_enter Tryz.func27,Tryz.ntmps27
  go_wp2_with fail
  go_ret
  exact ⟨ret_bool (eqL_len HL.out).symm,Below.refl _ _⟩
def nodeEq (k1:Int) (nm1:ByteArray) (g1:Bool) (az1:List (ByteArray × PL)) (ws1:List PL) (ks1:NL) (bs1:List Bool) (cz1:NL) (k2:Int) (nm2:ByteArray) (g2:Bool) (az2:List (ByteArray × PL)) (ws2:List PL) (ks2:NL) (bs2:List Bool) (cz2:NL):Bool :=
 k1 == k2 && nm1.toList == nm2.toList && g1 == g2 && eqL sameA az1 az2 && eqL same ws1 ws2 && sameN ks1 ks2 && eqL (· == ·) bs1 bs2 && sameN cz1 cz2
def SameAt (n:Nat):Prop:=∀ (k1:Int) (nm1:ByteArray) (g1:Bool) (az1:List (ByteArray × PL)) (ws1:List PL) (ks1:NL) (bs1:List Bool) (cz1:NL) (k2:Int) (nm2:ByteArray) (g2:Bool) (az2:List (ByteArray × PL)) (ws2:List PL) (ks2:NL) (bs2:List Bool) (cz2:NL) (x11:Option Addr) (d11:Nat) (x12:Option Addr) (d12:Nat) (x13:Option Addr) (d13:Nat) (x14:Option Addr) (d14:Nat) (x15:Option Addr) (d15:Nat) (x21:Option Addr) (d21:Nat) (x22:Option Addr) (d22:Nat) (x23:Option Addr) (d23:Nat) (x24:Option Addr) (d24:Nat) (x25:Option Addr) (d25:Nat) (w:World),ks1.size + cz1.size < n→Holds w nm1 az1 ws1 ks1 bs1 cz1 x11 d11 x12 d12 x13 d13 x14 d14 x15 d15→Holds w nm2 az2 ws2 ks2 bs2 cz2 x21 d21 x22 d22 x23 d23 x24 d24 x25 d25 →
 Calls Tryz.prog 11 #[.agg (nodeV k1 nm1 g1 x11 az1.length d11 x12 ws1.length d12 x13 ks1.len d13 x14 bs1.length d14 x15 cz1.len d15),.agg (nodeV k2 nm2 g2 x21 az2.length d21 x22 ws2.length d22 x23 ks2.len d23 x24 bs2.length d24 x25 cz2.len d25)] w fun e w'=>e = .returned (.bool (nodeEq k1 nm1 g1 az1 ws1 ks1 bs1 cz1 k2 nm2 g2 az2 ws2 ks2 bs2 cz2))∧Below w.heap.size w w'
set_option maxHeartbeats 1000000 in
set_option maxRecDepth 100000 in
theorem eqN_any (n:Nat) (hS:SameAt n) (la lb:NL) (hn:la.size≤n) (hoka:NL.okN la true = true) (hokb:NL.okN lb true = true) (a b:Option Addr) (ca cb:Nat) (w:World) (hla:NLies w a ca la) (hlb:NLies w b cb lb) :
  Calls Tryz.prog 26 #[.slice a la.len ca,.slice b lb.len cb,.func (.func 11) #[] #[]] w fun e w'=>e = .returned (.bool (sameN la lb))∧Below w.heap.size w w':=by
 have hle:=hla.le
 have HS:=Lib.hid hS;have HOA:=Lib.hid hoka;have HOB:=Lib.hid hokb
 have HA:=Lib.hid hla;have HB:=Lib.hid hlb;clear hla hlb hS hoka hokb
 by_cases hl:la.len = lb.len
 ·have hl':((la.len:Int) != (lb.len:Int)) = false:=by simp [hl]
  have HL:=Lib.hid hl;clear hl
  go_enter Tryz.func26,Tryz.ntmps26
  go_wp2
  go_loopw [17] (fun i wr=>∃ k:Nat,k≤la.len∧i = .int .i64 k∧sameN la lb = sameN (la.drop k) (lb.drop k)∧Below w.heap.size w wr) (fun i wr=>la.len - (intOf i).toNat)
  case atStart=>exact ⟨0,Nat.zero_le _,rfl,rfl,Below.refl _ _⟩
  case round =>
   obtain ⟨k,hk,rfl,hr,hbw⟩:=hrel
   have HR:=Lib.hid hr;have HW:=Lib.hid hbw;clear hr hbw
   by_cases hlt:k < la.len
   ·have hlt2:k < lb.len:=by have:=HL.out;omega
    obtain ⟨k1,nm1,g1,az1,ws1,ks1,bs1,cz1,r1,hd1⟩:=NL.drop_node hlt HOA.out
    obtain ⟨k2,nm2,g2,az2,ws2,ks2,bs2,cz2,r2,hd2⟩:=NL.drop_node hlt2 HOB.out
    obtain ⟨b1,o1,rfl,hb1,x11,d11,x12,d12,x13,d13,x14,d14,x15,d15,hc1,hh1⟩:=(HA.out.below HW.out).getN HOA.out hd1
    obtain ⟨b2,o2,rfl,hb2,x21,d21,x22,d22,x23,d23,x24,d24,x25,d25,hc2,hh2⟩:=(HB.out.below HW.out).getN HOB.out hd2
    have c10:wr.cell? ⟨b1,o1 + k * 8,none⟩ = some (.int .i64 k1):=hc1 0 _ rfl
    have c11:wr.cell? ⟨b1,o1 + k * 8 + 1,none⟩ = some (.string nm1):=hc1 1 _ rfl
    have c12:wr.cell? ⟨b1,o1 + k * 8 + 2,none⟩ = some (.bool g1):=hc1 2 _ rfl
    have c13:wr.cell? ⟨b1,o1 + k * 8 + 3,none⟩ = some (.slice x11 az1.length d11):=hc1 3 _ rfl
    have c14:wr.cell? ⟨b1,o1 + k * 8 + 4,none⟩ = some (.slice x12 ws1.length d12):=hc1 4 _ rfl
    have c15:wr.cell? ⟨b1,o1 + k * 8 + 5,none⟩ = some (.slice x13 ks1.len d13):=hc1 5 _ rfl
    have c16:wr.cell? ⟨b1,o1 + k * 8 + 6,none⟩ = some (.slice x14 bs1.length d14):=hc1 6 _ rfl
    have c17:wr.cell? ⟨b1,o1 + k * 8 + 7,none⟩ = some (.slice x15 cz1.len d15):=hc1 7 _ rfl
    have c20:wr.cell? ⟨b2,o2 + k * 8,none⟩ = some (.int .i64 k2):=hc2 0 _ rfl
    have c21:wr.cell? ⟨b2,o2 + k * 8 + 1,none⟩ = some (.string nm2):=hc2 1 _ rfl
    have c22:wr.cell? ⟨b2,o2 + k * 8 + 2,none⟩ = some (.bool g2):=hc2 2 _ rfl
    have c23:wr.cell? ⟨b2,o2 + k * 8 + 3,none⟩ = some (.slice x21 az2.length d21):=hc2 3 _ rfl
    have c24:wr.cell? ⟨b2,o2 + k * 8 + 4,none⟩ = some (.slice x22 ws2.length d22):=hc2 4 _ rfl
    have c25:wr.cell? ⟨b2,o2 + k * 8 + 5,none⟩ = some (.slice x23 ks2.len d23):=hc2 5 _ rfl
    have c26:wr.cell? ⟨b2,o2 + k * 8 + 6,none⟩ = some (.slice x24 bs2.length d24):=hc2 6 _ rfl
    have c27:wr.cell? ⟨b2,o2 + k * 8 + 7,none⟩ = some (.slice x25 cz2.len d25):=hc2 7 _ rfl
    have hsz:ks1.size + cz1.size < la.size:=by
     have:=NL.drop_size k la
     rw [hd1] at this
     simp only [NL.size] at this
     omega
    have hC:=fun X Y=>HS.out k1 nm1 g1 az1 ws1 ks1 bs1 cz1 k2 nm2 g2 az2 ws2 ks2 bs2 cz2 x11 d11 x12 d12 x13 d13 x14 d14 x15 d15 x21 d21 x22 d22 x23 d23 x24 d24 x25 d25 ((wr.alloc X).alloc Y) (by omega) (hh1.below (bel2 wr X Y)) (hh2.below (bel2 wr X Y))
    unfold nodeV at hC
    have hstep:sameN la lb = (nodeEq k1 nm1 g1 az1 ws1 ks1 bs1 cz1 k2 nm2 g2 az2 ws2 ks2 bs2 cz2 && sameN r1 r2):=by rw [HR.out,hd1,hd2];rfl
    have hn1:=NL.drop_succN hd1
    have hn2:=NL.drop_succN hd2
    generalize nodeEq k1 nm1 g1 az1 ws1 ks1 bs1 cz1 k2 nm2 g2 az2 ws2 ks2 bs2 cz2 = B at hC hstep
    have HN1:=Lib.hid hn1;have HN2:=Lib.hid hn2
    have hws:=HW.out.size
    have HC:=Lib.hid hC;have HT:=Lib.hid hstep
    clear hC hstep hh1 hh2 hd1 hd2 hn1 hn2 hc1 hc2
    cases B
    ·go_wp2_with (go_at_call 11;refine (HC.out _ _).mono ?_;rintro e w' ⟨rfl,hb⟩)
     go_ret
     exact ⟨ret_bool (by rw [HT.out];rfl),thru HW.out (thru (bel2 _ _ _) (by assumption))⟩
    ·go_wp2_with (go_at_call 11;refine (HC.out _ _).mono ?_;rintro e w' ⟨rfl,hb⟩)
     go_roundw
     case rel=>exact ⟨k + 1,by omega,by go_num,by rw [HT.out];rw [HN1.out,HN2.out];rfl,thru HW.out (thru (bel2 _ _ _) (by assumption))⟩
     case measure=>simp [intOf];omega
   ·obtain rfl:k = la.len:=by omega
    go_wp2
    go_ret
    exact ⟨ret_bool (by rw [HR.out];rw [NL.drop_end (Nat.le_refl _),NL.drop_end (by rw [HL.out];exact Nat.le_refl _)];rfl),HW.out⟩
 ·have hl':((la.len:Int) != (lb.len:Int)) = true:=by simp;omega
  have HL:=Lib.hid hl;clear hl
  go_enter Tryz.func26,Tryz.ntmps26
  go_wp2_with fail
  go_ret
  exact ⟨ret_bool (sameN_len HL.out).symm,Below.refl _ _⟩
end Tr
end Go.Proofs.YtoafdgfofgkenaaGreat
