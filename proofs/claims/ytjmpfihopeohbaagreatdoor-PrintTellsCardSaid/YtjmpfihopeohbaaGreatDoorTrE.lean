/- tree.Same, for all nodes. -/
import Derived.Test.YtjmpfihopeohbaaGreatDoorRegN
import Derived.Test.YtjmpfihopeohbaaGreatDoorTrC
set_option maxHeartbeats 3200000
set_option maxRecDepth 100000
namespace Go.Proofs.YtjmpfihopeohbaaGreatDoor
open Go.RowKit Go.Sort
namespace Tr
open Cls Pt
theorem heap_new' (w:World) (o:Obj):(w.alloc o).heap[w.heap.size]? = some o:=by
 show (w.heap.push o)[w.heap.size]? = some o;exact Array.getElem?_push_size
def KidsAt (n:Nat):Prop:=∀ (la lb:NL),la.size≤n→NL.okN la true = true→NL.okN lb true = true→∀ (a b:Option Addr) (ca cb:Nat) (w:World),NLies w a ca la→NLies w b cb lb →
 Calls Tryz.prog 34 #[.slice a la.len ca,.slice b lb.len cb,.func (.func 16) #[] #[]] w fun e w'=>e = .returned (.bool (sameN la lb))∧Below w.heap.size w w'
def cv (a:Option Addr) (n c:Nat) (a':Option Addr) (n' c':Nat):Value:=.agg #[.slice a n c,.slice a' n' c']
theorem sameCase_any (n:Nat) (hK:KidsAt n) (p1 p2:List PL) (l1 l2:NL) (a1 a2 x1 x2:Option Addr) (c1 c2 d1 d2:Nat) (w:World) (hn:l1.size≤n) (o1:NL.okN l1 true = true) (o2:NL.okN l2 true = true) (hp1:Sl 1 (PW w) a1 c1 p1) (hp2:Sl 1 (PW w) a2 c2 p2) (h1:NLies w x1 d1 l1) (h2:NLies w x2 d2 l2) :
  Calls Tryz.prog 37 #[cv a1 p1.length c1 x1 l1.len d1,cv a2 p2.length c2 x2 l2.len d2] w fun e w'=>e = .returned (.bool (eqL same p1 p2 && sameN l1 l2))∧Below w.heap.size w w':=by
 have hW:=eqW_any p1 p2 a1 a2 c1 c2 ((w.alloc (.cells #[.slice a1 p1.length c1,.slice x1 l1.len d1] 44)).alloc (.cells #[.slice a2 p2.length c2,.slice x2 l2.len d2] 44)) (sl_below (fun h=>h.below (bel2 _ _ _)) hp1) (sl_below (fun h=>h.below (bel2 _ _ _)) hp2);have hN:=fun w' (hb:Below w.heap.size w w')=>hK l1 l2 hn o1 o2 x1 x2 d1 d2 w' (h1.below hb) (h2.below hb);have hb0:=bel2 w (.cells #[.slice a1 p1.length c1,.slice x1 l1.len d1] 44) (.cells #[.slice a2 p2.length c2,.slice x2 l2.len d2] 44);have r1:((w.alloc (.cells #[.slice a1 p1.length c1,.slice x1 l1.len d1] 44)).alloc (.cells #[.slice a2 p2.length c2,.slice x2 l2.len d2] 44)).heap[w.heap.size]? = some (.cells #[.slice a1 p1.length c1,.slice x1 l1.len d1] 44 (0,0)):=(Below.heap_alloc _ _ _ (by simp only [World.size_alloc];omega)).trans (heap_new' _ _);have r2:((w.alloc (.cells #[.slice a1 p1.length c1,.slice x1 l1.len d1] 44)).alloc (.cells #[.slice a2 p2.length c2,.slice x2 l2.len d2] 44)).heap[w.heap.size + 1]? = some (.cells #[.slice a2 p2.length c2,.slice x2 l2.len d2] 44 (0,0)):=by
  have h:=heap_new' (w.alloc (.cells #[.slice a1 p1.length c1,.slice x1 l1.len d1] 44)) (.cells #[.slice a2 p2.length c2,.slice x2 l2.len d2] 44);simp only [World.size_alloc] at h;exact h
 have HW:=Lib.hid hW;have HN:=Lib.hid hN;have HB0:=Lib.hid hb0;have R1:=Lib.hid r1;have R2:=Lib.hid r2;clear hW hN hb0 r1 r2 hp1 hp2 h1 h2 hK o1 o2;unfold cv;cases hp:(eqL same p1 p2)
 ·rw [hp] at HW;go_enter Tryz.func37,Tryz.ntmps37;go_wp2_with (go_at_call 32;refine (HW.out).mono ?_;rintro e w1 ⟨rfl,hb⟩);go_ret;exact ⟨rfl,thru HB0.out (by assumption)⟩
 ·rw [hp] at HW;go_enter Tryz.func37,Tryz.ntmps37
  go_wp2_with (first
   | (go_at_call 32;refine (HW.out).mono ?_;rintro e w1 ⟨rfl,hb⟩;have q1:=Lib.cell_of_heap ((hb.block _ (by simp only [World.size_alloc];omega)).trans R1.out) 1;have q2:=Lib.cell_of_heap ((hb.block _ (by simp only [World.size_alloc];omega)).trans R2.out) 1;have HBT:=Lib.hid (thru HB0.out hb);clear hb;simp only [List.getElem?_toArray,List.getElem?_cons_succ,List.getElem?_cons_zero] at q1 q2)
   | (go_at_call 34;refine (HN.out _ HBT.out).mono ?_;rintro e w2 ⟨rfl,hb2⟩))
  go_ret;exact ⟨rfl,thru HBT.out (by assumption)⟩
theorem eqC_any (n:Nat) (hS:KidsAt n) (la lb:NL) (hn:la.size≤n) (hoka:NL.okN la false = true) (hokb:NL.okN lb false = true) (a b:Option Addr) (ca cb:Nat) (w:World) (hla:NLies w a ca la) (hlb:NLies w b cb lb) :
  Calls Tryz.prog 36 #[.slice a la.len ca,.slice b lb.len cb,.func (.func 37) #[] #[]] w fun e w'=>e = .returned (.bool (sameN la lb))∧Below w.heap.size w w':=by
 have hle:=hla.le;have HS:=Lib.hid hS;have HOA:=Lib.hid hoka;have HOB:=Lib.hid hokb;have HA:=Lib.hid hla;have HB:=Lib.hid hlb;clear hla hlb hS hoka hokb
 by_cases hl:la.len = lb.len
 ·have hl':((la.len:Int) != (lb.len:Int)) = false:=by simp [hl]
  have HL:=Lib.hid hl;clear hl;go_enter Tryz.func36,Tryz.ntmps36;go_wp2
  go_loopw [17] (fun i wr=>∃ k:Nat,k≤la.len∧i = .int .i64 k∧sameN la lb = sameN (la.drop k) (lb.drop k)∧Below w.heap.size w wr) (fun i wr=>la.len - (intOf i).toNat)
  case atStart=>exact ⟨0,Nat.zero_le _,rfl,rfl,Below.refl _ _⟩
  case round =>
   obtain ⟨k,hk,rfl,hr,hbw⟩:=hrel;have HR:=Lib.hid hr;have HW:=Lib.hid hbw;clear hr hbw
   by_cases hlt:k < la.len
   ·have hlt2:k < lb.len:=by have:=HL.out;omega
    obtain ⟨ps1,bd1,r1,hd1⟩:=NL.drop_case hlt HOA.out;obtain ⟨ps2,bd2,r2,hd2⟩:=NL.drop_case hlt2 HOB.out;obtain ⟨b1,o1,rfl,hb1,x1,d1,y1,f1,c10,c11,s1,n1,k1⟩:=(HA.out.below HW.out).getC HOA.out hd1;obtain ⟨b2,o2,rfl,hb2,x2,d2,y2,f2,c20,c21,s2,n2,k2⟩:=(HB.out.below HW.out).getC HOB.out hd2;have hsz:bd1.size≤n:=by
     have:=NL.drop_size k la;rw [hd1] at this;simp only [NL.size] at this;omega
    have hC:=fun X Y=>sameCase_any n HS.out ps1 ps2 bd1 bd2 x1 x2 y1 y2 d1 d2 f1 f2 ((wr.alloc X).alloc Y) hsz k1 k2 (sl_below (fun h=>h.below (bel2 wr X Y)) s1) (sl_below (fun h=>h.below (bel2 wr X Y)) s2) (n1.below (bel2 wr X Y)) (n2.below (bel2 wr X Y));unfold cv at hC;have hstep:sameN la lb = ((eqL same ps1 ps2 && sameN bd1 bd2) && sameN r1 r2):=by rw [HR.out,hd1,hd2];rfl
    have hn1:=NL.drop_succC hd1;have hn2:=NL.drop_succC hd2;generalize (eqL same ps1 ps2 && sameN bd1 bd2) = B at hC hstep;have HN1:=Lib.hid hn1;have HN2:=Lib.hid hn2;have hws:=HW.out.size;have HC:=Lib.hid hC;have HT:=Lib.hid hstep;clear hC hstep hd1 hd2 hn1 hn2 s1 s2 n1 n2;cases B
    ·go_wp2_with (go_at_call 37;refine (HC.out _ _).mono ?_;rintro e w' ⟨rfl,hb⟩);go_ret;exact ⟨ret_bool (by rw [HT.out];rfl),thru HW.out (thru (bel2 _ _ _) (by assumption))⟩
    ·go_wp2_with (go_at_call 37;refine (HC.out _ _).mono ?_;rintro e w' ⟨rfl,hb⟩);go_roundw
     case rel=>exact ⟨k + 1,by omega,by go_num,by rw [HT.out];rw [HN1.out,HN2.out];rfl,thru HW.out (thru (bel2 _ _ _) (by assumption))⟩
     case measure=>simp [intOf];omega
   ·obtain rfl:k = la.len:=by omega
    go_wp2;go_ret;exact ⟨ret_bool (by rw [HR.out];rw [NL.drop_end (Nat.le_refl _),NL.drop_end (by rw [HL.out];exact Nat.le_refl _)];rfl),HW.out⟩
 ·have hl':((la.len:Int) != (lb.len:Int)) = true:=by simp;omega
  have HL:=Lib.hid hl;clear hl;go_enter Tryz.func36,Tryz.ntmps36;go_wp2_with fail;go_ret;exact ⟨ret_bool (sameN_len HL.out).symm,Below.refl _ _⟩
theorem same_step (n:Nat) (hK:KidsAt n):SameAt (n + 1):=by
 intro k1 nm1 g1 az1 ws1 ks1 bs1 cz1 k2 nm2 g2 az2 ws2 ks2 bs2 cz2 x11 d11 x12 d12 x13 d13 x14 d14 x15 d15 x21 d21 x22 d22 x23 d23 x24 d24 x25 d25 w hsz h1 h2;have hb0:=bel2 w (.cells #[.int .i64 k1,.string nm1,.bool g1,.slice x11 az1.length d11,.slice x12 ws1.length d12,.slice x13 ks1.len d13,.slice x14 bs1.length d14,.slice x15 cz1.len d15] 28) (.cells #[.int .i64 k2,.string nm2,.bool g2,.slice x21 az2.length d21,.slice x22 ws2.length d22,.slice x23 ks2.len d23,.slice x24 bs2.length d24,.slice x25 cz2.len d25] 28);have hA:=fun w' (hb:Below ((w.alloc (.cells #[.int .i64 k1,.string nm1,.bool g1,.slice x11 az1.length d11,.slice x12 ws1.length d12,.slice x13 ks1.len d13,.slice x14 bs1.length d14,.slice x15 cz1.len d15] 28)).alloc (.cells #[.int .i64 k2,.string nm2,.bool g2,.slice x21 az2.length d21,.slice x22 ws2.length d22,.slice x23 ks2.len d23,.slice x24 bs2.length d24,.slice x25 cz2.len d25] 28)).heap.size ((w.alloc (.cells #[.int .i64 k1,.string nm1,.bool g1,.slice x11 az1.length d11,.slice x12 ws1.length d12,.slice x13 ks1.len d13,.slice x14 bs1.length d14,.slice x15 cz1.len d15] 28)).alloc (.cells #[.int .i64 k2,.string nm2,.bool g2,.slice x21 az2.length d21,.slice x22 ws2.length d22,.slice x23 ks2.len d23,.slice x24 bs2.length d24,.slice x25 cz2.len d25] 28)) w')=>(eqA_any az1 az2 x11 x21 d11 d21 w' (sl_below (fun h=>h.below (thru hb0 hb)) h1.haz) (sl_below (fun h=>h.below (thru hb0 hb)) h2.haz)).mono fun e w'' h=>And.intro h.1 (thru hb h.2);have hW:=fun w' (hb:Below ((w.alloc (.cells #[.int .i64 k1,.string nm1,.bool g1,.slice x11 az1.length d11,.slice x12 ws1.length d12,.slice x13 ks1.len d13,.slice x14 bs1.length d14,.slice x15 cz1.len d15] 28)).alloc (.cells #[.int .i64 k2,.string nm2,.bool g2,.slice x21 az2.length d21,.slice x22 ws2.length d22,.slice x23 ks2.len d23,.slice x24 bs2.length d24,.slice x25 cz2.len d25] 28)).heap.size ((w.alloc (.cells #[.int .i64 k1,.string nm1,.bool g1,.slice x11 az1.length d11,.slice x12 ws1.length d12,.slice x13 ks1.len d13,.slice x14 bs1.length d14,.slice x15 cz1.len d15] 28)).alloc (.cells #[.int .i64 k2,.string nm2,.bool g2,.slice x21 az2.length d21,.slice x22 ws2.length d22,.slice x23 ks2.len d23,.slice x24 bs2.length d24,.slice x25 cz2.len d25] 28)) w')=>(eqW_any ws1 ws2 x12 x22 d12 d22 w' (sl_below (fun h=>h.below (thru hb0 hb)) h1.hws) (sl_below (fun h=>h.below (thru hb0 hb)) h2.hws)).mono fun e w'' h=>And.intro h.1 (thru hb h.2);have hN:=fun w' (hb:Below ((w.alloc (.cells #[.int .i64 k1,.string nm1,.bool g1,.slice x11 az1.length d11,.slice x12 ws1.length d12,.slice x13 ks1.len d13,.slice x14 bs1.length d14,.slice x15 cz1.len d15] 28)).alloc (.cells #[.int .i64 k2,.string nm2,.bool g2,.slice x21 az2.length d21,.slice x22 ws2.length d22,.slice x23 ks2.len d23,.slice x24 bs2.length d24,.slice x25 cz2.len d25] 28)).heap.size ((w.alloc (.cells #[.int .i64 k1,.string nm1,.bool g1,.slice x11 az1.length d11,.slice x12 ws1.length d12,.slice x13 ks1.len d13,.slice x14 bs1.length d14,.slice x15 cz1.len d15] 28)).alloc (.cells #[.int .i64 k2,.string nm2,.bool g2,.slice x21 az2.length d21,.slice x22 ws2.length d22,.slice x23 ks2.len d23,.slice x24 bs2.length d24,.slice x25 cz2.len d25] 28)) w')=>(hK ks1 ks2 (by omega) h1.okk h2.okk x13 x23 d13 d23 w' (h1.hks.below (thru hb0 hb)) (h2.hks.below (thru hb0 hb))).mono fun e w'' h=>And.intro h.1 (thru hb h.2);have hB:=fun w' (hb:Below ((w.alloc (.cells #[.int .i64 k1,.string nm1,.bool g1,.slice x11 az1.length d11,.slice x12 ws1.length d12,.slice x13 ks1.len d13,.slice x14 bs1.length d14,.slice x15 cz1.len d15] 28)).alloc (.cells #[.int .i64 k2,.string nm2,.bool g2,.slice x21 az2.length d21,.slice x22 ws2.length d22,.slice x23 ks2.len d23,.slice x24 bs2.length d24,.slice x25 cz2.len d25] 28)).heap.size ((w.alloc (.cells #[.int .i64 k1,.string nm1,.bool g1,.slice x11 az1.length d11,.slice x12 ws1.length d12,.slice x13 ks1.len d13,.slice x14 bs1.length d14,.slice x15 cz1.len d15] 28)).alloc (.cells #[.int .i64 k2,.string nm2,.bool g2,.slice x21 az2.length d21,.slice x22 ws2.length d22,.slice x23 ks2.len d23,.slice x24 bs2.length d24,.slice x25 cz2.len d25] 28)) w')=>(eqB_any bs1 bs2 x14 x24 d14 d24 w' (sl_below (fun h=>h.below (thru hb0 hb)) h1.hbs) (sl_below (fun h=>h.below (thru hb0 hb)) h2.hbs)).mono fun e w'' h=>And.intro h.1 (thru hb h.2);have hC:=fun w' (hb:Below ((w.alloc (.cells #[.int .i64 k1,.string nm1,.bool g1,.slice x11 az1.length d11,.slice x12 ws1.length d12,.slice x13 ks1.len d13,.slice x14 bs1.length d14,.slice x15 cz1.len d15] 28)).alloc (.cells #[.int .i64 k2,.string nm2,.bool g2,.slice x21 az2.length d21,.slice x22 ws2.length d22,.slice x23 ks2.len d23,.slice x24 bs2.length d24,.slice x25 cz2.len d25] 28)).heap.size ((w.alloc (.cells #[.int .i64 k1,.string nm1,.bool g1,.slice x11 az1.length d11,.slice x12 ws1.length d12,.slice x13 ks1.len d13,.slice x14 bs1.length d14,.slice x15 cz1.len d15] 28)).alloc (.cells #[.int .i64 k2,.string nm2,.bool g2,.slice x21 az2.length d21,.slice x22 ws2.length d22,.slice x23 ks2.len d23,.slice x24 bs2.length d24,.slice x25 cz2.len d25] 28)) w')=>(eqC_any n hK cz1 cz2 (by omega) h1.okc h2.okc x15 x25 d15 d25 w' (h1.hcs.below (thru hb0 hb)) (h2.hcs.below (thru hb0 hb))).mono fun e w'' h=>And.intro h.1 (thru hb h.2);have r1:((w.alloc (.cells #[.int .i64 k1,.string nm1,.bool g1,.slice x11 az1.length d11,.slice x12 ws1.length d12,.slice x13 ks1.len d13,.slice x14 bs1.length d14,.slice x15 cz1.len d15] 28)).alloc (.cells #[.int .i64 k2,.string nm2,.bool g2,.slice x21 az2.length d21,.slice x22 ws2.length d22,.slice x23 ks2.len d23,.slice x24 bs2.length d24,.slice x25 cz2.len d25] 28)).heap[w.heap.size]? = some (.cells #[.int .i64 k1,.string nm1,.bool g1,.slice x11 az1.length d11,.slice x12 ws1.length d12,.slice x13 ks1.len d13,.slice x14 bs1.length d14,.slice x15 cz1.len d15] 28 (0,0)):=(Below.heap_alloc _ _ _ (by simp only [World.size_alloc];omega)).trans (heap_new' _ _);have r2:((w.alloc (.cells #[.int .i64 k1,.string nm1,.bool g1,.slice x11 az1.length d11,.slice x12 ws1.length d12,.slice x13 ks1.len d13,.slice x14 bs1.length d14,.slice x15 cz1.len d15] 28)).alloc (.cells #[.int .i64 k2,.string nm2,.bool g2,.slice x21 az2.length d21,.slice x22 ws2.length d22,.slice x23 ks2.len d23,.slice x24 bs2.length d24,.slice x25 cz2.len d25] 28)).heap[w.heap.size + 1]? = some (.cells #[.int .i64 k2,.string nm2,.bool g2,.slice x21 az2.length d21,.slice x22 ws2.length d22,.slice x23 ks2.len d23,.slice x24 bs2.length d24,.slice x25 cz2.len d25] 28 (0,0)):=by
  have h:=heap_new' (w.alloc (.cells #[.int .i64 k1,.string nm1,.bool g1,.slice x11 az1.length d11,.slice x12 ws1.length d12,.slice x13 ks1.len d13,.slice x14 bs1.length d14,.slice x15 cz1.len d15] 28)) (.cells #[.int .i64 k2,.string nm2,.bool g2,.slice x21 az2.length d21,.slice x22 ws2.length d22,.slice x23 ks2.len d23,.slice x24 bs2.length d24,.slice x25 cz2.len d25] 28);simp only [World.size_alloc] at h;exact h
 have hz1:w.heap.size < ((w.alloc (.cells #[.int .i64 k1,.string nm1,.bool g1,.slice x11 az1.length d11,.slice x12 ws1.length d12,.slice x13 ks1.len d13,.slice x14 bs1.length d14,.slice x15 cz1.len d15] 28)).alloc (.cells #[.int .i64 k2,.string nm2,.bool g2,.slice x21 az2.length d21,.slice x22 ws2.length d22,.slice x23 ks2.len d23,.slice x24 bs2.length d24,.slice x25 cz2.len d25] 28)).heap.size:=by simp only [World.size_alloc];omega
 have hz2:w.heap.size + 1 < ((w.alloc (.cells #[.int .i64 k1,.string nm1,.bool g1,.slice x11 az1.length d11,.slice x12 ws1.length d12,.slice x13 ks1.len d13,.slice x14 bs1.length d14,.slice x15 cz1.len d15] 28)).alloc (.cells #[.int .i64 k2,.string nm2,.bool g2,.slice x21 az2.length d21,.slice x22 ws2.length d22,.slice x23 ks2.len d23,.slice x24 bs2.length d24,.slice x25 cz2.len d25] 28)).heap.size:=by simp only [World.size_alloc];omega
 have HAA:=Lib.hid hA;have HWW:=Lib.hid hW;have HNN:=Lib.hid hN;have HBB:=Lib.hid hB;have HCC:=Lib.hid hC;have HB0:=Lib.hid hb0;have R1:=Lib.hid r1;have R2:=Lib.hid r2;have HZ1:=Lib.hid hz1;have HZ2:=Lib.hid hz2;clear hA hW hN hB hC hb0 r1 r2 hz1 hz2 h1 h2 hK hsz;unfold nodeV nodeEq;cases h0:(k1 == k2)
 ·skip
  go_enter Tryz.func16,Tryz.ntmps16;go_wp2_with fail;go_ret;exact ⟨rfl,HB0.out⟩
 ·skip
  cases h1:(nm1.toList == nm2.toList)
  ·skip
   go_enter Tryz.func16,Tryz.ntmps16;go_wp2_with fail;go_ret;exact ⟨rfl,HB0.out⟩
  ·skip
   by_cases hg:g1 = g2
   ·subst hg;have hgg:(g1 == g1) = true:=by simp
    rw [hgg];cases h3:(eqL sameA az1 az2)
    ·rw [h3] at HAA;go_enter Tryz.func16,Tryz.ntmps16
     go_wp2_with (first
      | (go_at_call 30;refine (HAA.out _ (by first | exact Below.refl _ _ | assumption)).mono ?_;rintro e v0 ⟨rfl,hb⟩;have q1:=zc4 ((hb.block _ HZ1.out).trans R1.out);have q2:=zc4 ((hb.block _ HZ2.out).trans R2.out)))
     go_ret;exact ⟨rfl,thru HB0.out (by assumption)⟩
    ·rw [h3] at HAA;cases h4:(eqL same ws1 ws2)
     ·rw [h4] at HWW;go_enter Tryz.func16,Tryz.ntmps16
      go_wp2_with (first
       | (go_at_call 30;refine (HAA.out _ (by first | exact Below.refl _ _ | assumption)).mono ?_;rintro e v0 ⟨rfl,hb⟩;have q1:=zc4 ((hb.block _ HZ1.out).trans R1.out);have q2:=zc4 ((hb.block _ HZ2.out).trans R2.out))
       | (go_at_call 32;refine (HWW.out _ (by first | exact Below.refl _ _ | assumption)).mono ?_;rintro e v1 ⟨rfl,hb⟩;have q1:=zc5 ((hb.block _ HZ1.out).trans R1.out);have q2:=zc5 ((hb.block _ HZ2.out).trans R2.out)))
      go_ret;exact ⟨rfl,thru HB0.out (by assumption)⟩
     ·rw [h4] at HWW;cases h5:(sameN ks1 ks2)
      ·rw [h5] at HNN;go_enter Tryz.func16,Tryz.ntmps16
       go_wp2_with (first
        | (go_at_call 30;refine (HAA.out _ (by first | exact Below.refl _ _ | assumption)).mono ?_;rintro e v0 ⟨rfl,hb⟩;have q1:=zc4 ((hb.block _ HZ1.out).trans R1.out);have q2:=zc4 ((hb.block _ HZ2.out).trans R2.out))
        | (go_at_call 32;refine (HWW.out _ (by first | exact Below.refl _ _ | assumption)).mono ?_;rintro e v1 ⟨rfl,hb⟩;have q1:=zc5 ((hb.block _ HZ1.out).trans R1.out);have q2:=zc5 ((hb.block _ HZ2.out).trans R2.out))
        | (go_at_call 34;refine (HNN.out _ (by first | exact Below.refl _ _ | assumption)).mono ?_;rintro e v2 ⟨rfl,hb⟩;have q1:=zc6 ((hb.block _ HZ1.out).trans R1.out);have q2:=zc6 ((hb.block _ HZ2.out).trans R2.out)))
       go_ret;exact ⟨rfl,thru HB0.out (by assumption)⟩
      ·rw [h5] at HNN;cases h6:(eqL (· == ·) bs1 bs2)
       ·rw [h6] at HBB;go_enter Tryz.func16,Tryz.ntmps16
        go_wp2_with (first
         | (go_at_call 30;refine (HAA.out _ (by first | exact Below.refl _ _ | assumption)).mono ?_;rintro e v0 ⟨rfl,hb⟩;have q1:=zc4 ((hb.block _ HZ1.out).trans R1.out);have q2:=zc4 ((hb.block _ HZ2.out).trans R2.out))
         | (go_at_call 32;refine (HWW.out _ (by first | exact Below.refl _ _ | assumption)).mono ?_;rintro e v1 ⟨rfl,hb⟩;have q1:=zc5 ((hb.block _ HZ1.out).trans R1.out);have q2:=zc5 ((hb.block _ HZ2.out).trans R2.out))
         | (go_at_call 34;refine (HNN.out _ (by first | exact Below.refl _ _ | assumption)).mono ?_;rintro e v2 ⟨rfl,hb⟩;have q1:=zc6 ((hb.block _ HZ1.out).trans R1.out);have q2:=zc6 ((hb.block _ HZ2.out).trans R2.out))
         | (go_at_call 35;refine (HBB.out _ (by first | exact Below.refl _ _ | assumption)).mono ?_;rintro e v3 ⟨rfl,hb⟩;have q1:=zc7 ((hb.block _ HZ1.out).trans R1.out);have q2:=zc7 ((hb.block _ HZ2.out).trans R2.out)))
        go_ret;exact ⟨rfl,thru HB0.out (by assumption)⟩
       ·rw [h6] at HBB;cases h7:(sameN cz1 cz2)
        ·rw [h7] at HCC;go_enter Tryz.func16,Tryz.ntmps16
         go_wp2_with (first
          | (go_at_call 30;refine (HAA.out _ (by first | exact Below.refl _ _ | assumption)).mono ?_;rintro e v0 ⟨rfl,hb⟩;have q1:=zc4 ((hb.block _ HZ1.out).trans R1.out);have q2:=zc4 ((hb.block _ HZ2.out).trans R2.out))
          | (go_at_call 32;refine (HWW.out _ (by first | exact Below.refl _ _ | assumption)).mono ?_;rintro e v1 ⟨rfl,hb⟩;have q1:=zc5 ((hb.block _ HZ1.out).trans R1.out);have q2:=zc5 ((hb.block _ HZ2.out).trans R2.out))
          | (go_at_call 34;refine (HNN.out _ (by first | exact Below.refl _ _ | assumption)).mono ?_;rintro e v2 ⟨rfl,hb⟩;have q1:=zc6 ((hb.block _ HZ1.out).trans R1.out);have q2:=zc6 ((hb.block _ HZ2.out).trans R2.out))
          | (go_at_call 35;refine (HBB.out _ (by first | exact Below.refl _ _ | assumption)).mono ?_;rintro e v3 ⟨rfl,hb⟩;have q1:=zc7 ((hb.block _ HZ1.out).trans R1.out);have q2:=zc7 ((hb.block _ HZ2.out).trans R2.out))
          | (go_at_call 36;refine (HCC.out _ (by first | exact Below.refl _ _ | assumption)).mono ?_;rintro e v4 ⟨rfl,hb⟩))
         go_ret;exact ⟨rfl,thru HB0.out (by assumption)⟩
        ·rw [h7] at HCC;go_enter Tryz.func16,Tryz.ntmps16
         go_wp2_with (first
          | (go_at_call 30;refine (HAA.out _ (by first | exact Below.refl _ _ | assumption)).mono ?_;rintro e v0 ⟨rfl,hb⟩;have q1:=zc4 ((hb.block _ HZ1.out).trans R1.out);have q2:=zc4 ((hb.block _ HZ2.out).trans R2.out))
          | (go_at_call 32;refine (HWW.out _ (by first | exact Below.refl _ _ | assumption)).mono ?_;rintro e v1 ⟨rfl,hb⟩;have q1:=zc5 ((hb.block _ HZ1.out).trans R1.out);have q2:=zc5 ((hb.block _ HZ2.out).trans R2.out))
          | (go_at_call 34;refine (HNN.out _ (by first | exact Below.refl _ _ | assumption)).mono ?_;rintro e v2 ⟨rfl,hb⟩;have q1:=zc6 ((hb.block _ HZ1.out).trans R1.out);have q2:=zc6 ((hb.block _ HZ2.out).trans R2.out))
          | (go_at_call 35;refine (HBB.out _ (by first | exact Below.refl _ _ | assumption)).mono ?_;rintro e v3 ⟨rfl,hb⟩;have q1:=zc7 ((hb.block _ HZ1.out).trans R1.out);have q2:=zc7 ((hb.block _ HZ2.out).trans R2.out))
          | (go_at_call 36;refine (HCC.out _ (by first | exact Below.refl _ _ | assumption)).mono ?_;rintro e v4 ⟨rfl,hb⟩))
         go_ret;exact ⟨rfl,thru HB0.out (by assumption)⟩
   ·have hgg:(g1 == g2) = false:=by simpa using hg
    cases g1 <;> cases g2
    all_goals first
     | exact absurd rfl hg
     | skip
    all_goals
     go_enter Tryz.func16,Tryz.ntmps16;go_wp2_with fail;go_ret;exact ⟨rfl,HB0.out⟩
theorem kids_all:∀ n,KidsAt n:=by
 intro n
 induction n with
 | zero =>
  intro la lb hn oa ob a b ca cb w hla hlb;exact eqN_any 0 (fun _ _ _ _ _ _ _ _ _ _ _ _ _ _ _ _ _ _ _ _ _ _ _ _ _ _ _ _ _ _ _ _ _ _ _ _ _ h=>absurd h (Nat.not_lt_zero _)) la lb hn oa ob a b ca cb w hla hlb
 | succ n ih=>exact fun la lb hn oa ob a b ca cb w hla hlb=>eqN_any (n + 1) (same_step n ih) la lb hn oa ob a b ca cb w hla hlb
theorem same_all (n:Nat):SameAt (n + 1):=same_step n (kids_all n)
end Tr
end Go.Proofs.YtjmpfihopeohbaaGreatDoor
namespace Go.Proofs.YtjmpfihopeohbaaGreatDoor
open Go.RowKit Go.Sort
namespace Tr
open Cls Pt
def countsB (k:Int):Bool:=decide (6≤k) && decide (k≤13)
def compoundB (k:Int):Bool:=decide (6≤k) && decide (k≤12)
def commandB (k:Int):Bool:=k == 1 || countsB k
def unitB (k:Int):Bool:=k == 4 || commandB k
def itemB (k:Int):Bool:=k == 2 || k == 3 || unitB k
def bodyB (k:Int) (n:Nat):Bool:=k == 5 && decide (0 < n)
theorem counts_any (k:Int) (w:World):Calls Tryz.prog 66 #[.int .i64 k] w fun e w'=>e = .returned (.bool (countsB k))∧w = w':=by
 unfold countsB
 by_cases h1:6≤k <;> by_cases h2:k≤13
 all_goals
  go_enter Tryz.func66,Tryz.ntmps66;go_wp2_with fail;go_ret;exact ⟨by simp [h1,h2],rfl⟩
def withinD (k:Int) (d:Nat):Nat:=if countsB k && !(k == 13) then d + 1 else d
theorem within_any (k:Int) (d:Nat) (hd:d≤1000) (w:World):Calls Tryz.prog 68 #[.int .i64 k,.int .i64 d] w fun e w'=>e = .returned (.int .i64 (withinD k d))∧w = w':=by
 have hC:=fun w=>counts_any k w;unfold withinD;cases hc:countsB k
 ·rw [hc] at hC;have HC:=Lib.hid hC;clear hC;go_enter Tryz.func68,Tryz.ntmps68;go_wp2_with (go_at_call 66;refine (HC.out _).mono ?_;rintro e w' ⟨rfl,rfl⟩);go_ret;exact ⟨rfl,rfl⟩
 ·rw [hc] at hC;have HC:=Lib.hid hC;clear hC;have hx:IntKind.i64.wrap ((d:Int) + 1) = (d:Int) + 1:=wrapEq_in d hd;cases h13:(k == 13)
  ·have h13':(k != 13) = true:=by simp [bne,h13]
   go_enter Tryz.func68,Tryz.ntmps68;go_wp2_with (go_at_call 66;refine (HC.out _).mono ?_;rintro e w' ⟨rfl,rfl⟩);go_ret;exact ⟨by simp,rfl⟩
  ·have h13':(k != 13) = false:=by simp [bne,h13]
   go_enter Tryz.func68,Tryz.ntmps68;go_wp2_with (go_at_call 66;refine (HC.out _).mono ?_;rintro e w' ⟨rfl,rfl⟩);go_ret;exact ⟨rfl,rfl⟩
theorem compound_any (k:Int) (nm:ByteArray) (g:Bool) (az:List (ByteArray × PL)) (ws:List PL) (ks:NL) (bs:List Bool) (cz:NL) (x1 d1 x2 d2 x3 d3 x4 d4 x5 d5) (w:World):Calls Tryz.prog 81 #[.agg (nodeV k nm g x1 az.length d1 x2 ws.length d2 x3 ks.len d3 x4 bs.length d4 x5 cz.len d5)] w fun e w'=>e = .returned (.bool (compoundB k))∧Below w.heap.size w w':=by
 unfold nodeV
 by_cases h1:6≤k <;> by_cases h2:k≤12
 all_goals try (exfalso;omega)
 all_goals
  go_enter Tryz.func81,Tryz.ntmps81;go_wp2_with fail
  all_goals
   go_ret;exact ⟨ret_bool (by simp [*,compoundB]),by first | exact bel1 _ _ | exact thru (bel1 _ _) (by assumption)⟩
theorem command_any (k:Int) (nm:ByteArray) (g:Bool) (az:List (ByteArray × PL)) (ws:List PL) (ks:NL) (bs:List Bool) (cz:NL) (x1 d1 x2 d2 x3 d3 x4 d4 x5 d5) (w:World):Calls Tryz.prog 73 #[.agg (nodeV k nm g x1 az.length d1 x2 ws.length d2 x3 ks.len d3 x4 bs.length d4 x5 cz.len d5)] w fun e w'=>e = .returned (.bool (commandB k))∧Below w.heap.size w w':=by
 unfold nodeV;cases h1:(k == 1)
 all_goals
  go_enter Tryz.func73,Tryz.ntmps73;go_wp2_with (go_at_call 66;refine (counts_any _ _).mono ?_;rintro e w1 ⟨rfl,rfl⟩)
  all_goals
   go_ret;exact ⟨ret_bool (by simp [*,commandB]),by first | exact bel1 _ _ | exact thru (bel1 _ _) (by assumption)⟩
theorem unit_any (k:Int) (nm:ByteArray) (g:Bool) (az:List (ByteArray × PL)) (ws:List PL) (ks:NL) (bs:List Bool) (cz:NL) (x1 d1 x2 d2 x3 d3 x4 d4 x5 d5) (w:World):Calls Tryz.prog 72 #[.agg (nodeV k nm g x1 az.length d1 x2 ws.length d2 x3 ks.len d3 x4 bs.length d4 x5 cz.len d5)] w fun e w'=>e = .returned (.bool (unitB k))∧Below w.heap.size w w':=by
 unfold nodeV;cases h1:(k == 4)
 all_goals
  go_enter Tryz.func72,Tryz.ntmps72;go_wp2_with (go_at_call 73;refine (command_any k nm g az ws ks bs cz x1 d1 x2 d2 x3 d3 x4 d4 x5 d5 _).mono ?_;rintro e w1 ⟨rfl,hb⟩)
  all_goals
   go_ret;exact ⟨ret_bool (by simp [*,unitB]),by first | exact bel1 _ _ | exact thru (bel1 _ _) (by assumption)⟩
theorem item_any (k:Int) (nm:ByteArray) (g:Bool) (az:List (ByteArray × PL)) (ws:List PL) (ks:NL) (bs:List Bool) (cz:NL) (x1 d1 x2 d2 x3 d3 x4 d4 x5 d5) (w:World):Calls Tryz.prog 71 #[.agg (nodeV k nm g x1 az.length d1 x2 ws.length d2 x3 ks.len d3 x4 bs.length d4 x5 cz.len d5)] w fun e w'=>e = .returned (.bool (itemB k))∧Below w.heap.size w w':=by
 unfold nodeV;cases h1:(k == 2) <;> cases h2:(k == 3)
 all_goals
  go_enter Tryz.func71,Tryz.ntmps71;go_wp2_with (go_at_call 72;refine (unit_any k nm g az ws ks bs cz x1 d1 x2 d2 x3 d3 x4 d4 x5 d5 _).mono ?_;rintro e w1 ⟨rfl,hb⟩)
  all_goals
   go_ret;exact ⟨ret_bool (by simp [*,itemB]),by first | exact bel1 _ _ | exact thru (bel1 _ _) (by assumption)⟩
theorem body_any (k:Int) (nm:ByteArray) (g:Bool) (az:List (ByteArray × PL)) (ws:List PL) (ks:NL) (bs:List Bool) (cz:NL) (x1 d1 x2 d2 x3 d3 x4 d4 x5 d5) (w:World):Calls Tryz.prog 74 #[.agg (nodeV k nm g x1 az.length d1 x2 ws.length d2 x3 ks.len d3 x4 bs.length d4 x5 cz.len d5)] w fun e w'=>e = .returned (.bool (bodyB k ks.len))∧Below w.heap.size w w':=by
 unfold nodeV;cases h1:(k == 5) <;> by_cases h2:0 < ks.len
 all_goals
  go_enter Tryz.func74,Tryz.ntmps74;go_wp2_with fail
  all_goals
   go_ret;exact ⟨ret_bool (by simp [*,bodyB]),by first | exact bel1 _ _ | exact thru (bel1 _ _) (by assumption)⟩
end Tr
end Go.Proofs.YtjmpfihopeohbaaGreatDoor
