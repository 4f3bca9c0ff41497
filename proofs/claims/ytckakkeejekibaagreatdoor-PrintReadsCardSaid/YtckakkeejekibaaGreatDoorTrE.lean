/- tree.Same, for all nodes. -/
import Derived.Test.YtckakkeejekibaaGreatDoorRegN
import Derived.Test.YtckakkeejekibaaGreatDoorTrC
set_option maxHeartbeats 3200000
set_option maxRecDepth 100000
namespace Go.Proofs.YtckakkeejekibaaGreatDoor
open Go.RowKit Go.Sort
namespace Tr
open j6 Pt
theorem ay (w:World) (o:Obj):(w.alloc o).heap[w.heap.size]? = some o:=by
 show (w.heap.push o)[w.heap.size]? = some o;exact Array.getElem?_push_size
def Dx (n:Nat):Prop:=∀ (la lb:NL),la.size≤n→NL.okN la true = true→NL.okN lb true = true→∀ (a b:Option Addr) (ca cb:Nat) (w:World),dJ w a ca la→dJ w b cb lb →
 Calls Tryz.prog 34 #[.slice a la.len ca,.slice b lb.len cb,.func (.func 16) #[] #[]] w fun e w'=>e = .returned (.bool (sameN la lb))∧Below w.heap.size w w'
def cv (a:Option Addr) (n c:Nat) (a':Option Addr) (n' c':Nat):Value:=.agg #[.slice a n c,.slice a' n' c']
theorem Dy (n:Nat) (hK:Dx n) (p1 p2:List PL) (l1 l2:NL) (a1 a2 x1 x2:Option Addr) (c1 c2 d1 d2:Nat) (w:World) (hn:l1.size≤n) (o1:NL.okN l1 true = true) (o2:NL.okN l2 true = true) (ny:Sl 1 (PW w) a1 c1 p1) (lF:Sl 1 (PW w) a2 c2 p2) (h1:dJ w x1 d1 l1) (h2:dJ w x2 d2 l2) :
  Calls Tryz.prog 37 #[cv a1 p1.length c1 x1 l1.len d1,cv a2 p2.length c2 x2 l2.len d2] w fun e w'=>e = .returned (.bool (eqL same p1 p2 && sameN l1 l2))∧Below w.heap.size w w':=by
 have hW:=KX p1 p2 a1 a2 c1 c2 ((w.alloc (.cells #[.slice a1 p1.length c1,.slice x1 l1.len d1] 44)).alloc (.cells #[.slice a2 p2.length c2,.slice x2 l2.len d2] 44)) (dX (fun h=>h.below (bY _ _ _)) ny) (dX (fun h=>h.below (bY _ _ _)) lF);have hN:=fun w' (hb:Below w.heap.size w w')=>hK l1 l2 hn o1 o2 x1 x2 d1 d2 w' (h1.below hb) (h2.below hb);have gZ:=bY w (.cells #[.slice a1 p1.length c1,.slice x1 l1.len d1] 44) (.cells #[.slice a2 p2.length c2,.slice x2 l2.len d2] 44);have r1:((w.alloc (.cells #[.slice a1 p1.length c1,.slice x1 l1.len d1] 44)).alloc (.cells #[.slice a2 p2.length c2,.slice x2 l2.len d2] 44)).heap[w.heap.size]? = some (.cells #[.slice a1 p1.length c1,.slice x1 l1.len d1] 44 (0,0)):=(Below.heap_alloc _ _ _ (by simp only [zd];omega)).trans (ay _ _);have r2:((w.alloc (.cells #[.slice a1 p1.length c1,.slice x1 l1.len d1] 44)).alloc (.cells #[.slice a2 p2.length c2,.slice x2 l2.len d2] 44)).heap[w.heap.size + 1]? = some (.cells #[.slice a2 p2.length c2,.slice x2 l2.len d2] 44 (0,0)):=by
  have h:=ay (w.alloc (.cells #[.slice a1 p1.length c1,.slice x1 l1.len d1] 44)) (.cells #[.slice a2 p2.length c2,.slice x2 l2.len d2] 44);simp only [zd] at h;exact h
 have HW:=kq hW;have HN:=kq hN;have fP:=kq gZ;have R1:=kq r1;have R2:=kq r2;clear hW hN gZ r1 r2 ny lF h1 h2 hK o1 o2;unfold cv;cases hp:(eqL same p1 p2)
 ·rw [hp] at HW;go_enter Tryz.func37,Tryz.ntmps37;go_wp2_with (go_at_call 32;refine (HW.out).mono ?_;rintro e w1 ⟨rfl,hb⟩);go_ret;exact ⟨rfl,ak fP.out (by assumption)⟩
 ·rw [hp] at HW;go_enter Tryz.func37,Tryz.ntmps37
  go_wp2_with (first
   | (go_at_call 32;refine (HW.out).mono ?_;rintro e w1 ⟨rfl,hb⟩;have q1:=kz ((hb.block _ (by simp only [zd];omega)).trans R1.out) 1;have q2:=kz ((hb.block _ (by simp only [zd];omega)).trans R2.out) 1;have HBT:=kq (ak fP.out hb);clear hb;simp only [List.getElem?_toArray,List.getElem?_cons_succ,List.getElem?_cons_zero] at q1 q2)
   | (go_at_call 34;refine (HN.out _ HBT.out).mono ?_;rintro e w2 ⟨rfl,d9⟩))
  go_ret;exact ⟨rfl,ak HBT.out (by assumption)⟩
theorem SL (n:Nat) (hS:Dx n) (la lb:NL) (hn:la.size≤n) (PD:NL.okN la false = true) (PE:NL.okN lb false = true) (a b:Option Addr) (ca cb:Nat) (w:World) (lI:dJ w a ca la) (qa:dJ w b cb lb) :
  Calls Tryz.prog 36 #[.slice a la.len ca,.slice b lb.len cb,.func (.func 37) #[] #[]] w fun e w'=>e = .returned (.bool (sameN la lb))∧Below w.heap.size w w':=by
 have hle:=lI.le;have HS:=kq hS;have Yw:=kq PD;have Yx:=kq PE;have HA:=kq lI;have HB:=kq qa;clear lI qa hS PD PE
 by_cases hl:la.len = lb.len
 ·have A9:((la.len:Int) != (lb.len:Int)) = false:=by simp [hl]
  have HL:=kq hl;clear hl;go_enter Tryz.func36,Tryz.ntmps36;go_wp2
  go_loopw [17] (fun i wr=>∃ k:Nat,k≤la.len∧i = .int .i64 k∧sameN la lb = sameN (la.drop k) (lb.drop k)∧Below w.heap.size w wr) (fun i wr=>la.len - (intOf i).toNat)
  case atStart=>exact ⟨0,zVy _,rfl,rfl,Below.refl _ _⟩
  case round =>
   obtain ⟨k,hk,rfl,hr,ja⟩:=hrel;have HR:=kq hr;have HW:=kq ja;clear hr ja
   by_cases aB:k < la.len
   ·have qc:k < lb.len:=by have:=HL.out;omega
    obtain ⟨SN,Rx,r1,fG⟩:=NL.pF aB Yw.out;obtain ⟨VR,bd2,r2,lT⟩:=NL.pF qc Yx.out;obtain ⟨b1,o1,rfl,aP,x1,d1,y1,f1,qG,tY,s1,n1,k1⟩:=(HA.out.below HW.out).SH Yw.out fG;obtain ⟨b2,o2,rfl,d9,x2,d2,y2,f2,Oi,WH,s2,n2,k2⟩:=(HB.out.below HW.out).SH Yx.out lT;have bU:Rx.size≤n:=by
     have:=NL.eX k la;rw [fG] at this;simp only [NL.size] at this;omega
    have hC:=fun X Y=>Dy n HS.out SN VR Rx bd2 x1 x2 y1 y2 d1 d2 f1 f2 ((wr.alloc X).alloc Y) bU k1 k2 (dX (fun h=>h.below (bY wr X Y)) s1) (dX (fun h=>h.below (bY wr X Y)) s2) (n1.below (bY wr X Y)) (n2.below (bY wr X Y));unfold cv at hC;have bL:sameN la lb = ((eqL same SN VR && sameN Rx bd2) && sameN r1 r2):=by rw [HR.out,fG,lT];rfl
    have Ue:=NL.lY fG;have BL:=NL.lY lT;generalize (eqL same SN VR && sameN Rx bd2) = B at hC bL;have Xz:=kq Ue;have y8:=kq BL;have hws:=HW.out.size;have HC:=kq hC;have HT:=kq bL;clear hC bL fG lT Ue BL s1 s2 n1 n2;cases B
    ·go_wp2_with (go_at_call 37;refine (HC.out _ _).mono ?_;rintro e w' ⟨rfl,hb⟩);go_ret;exact ⟨ai (by rw [HT.out];rfl),ak HW.out (ak (bY _ _ _) (by assumption))⟩
    ·go_wp2_with (go_at_call 37;refine (HC.out _ _).mono ?_;rintro e w' ⟨rfl,hb⟩);go_roundw
     case rel=>exact ⟨k + 1,by omega,by go_num,by rw [HT.out];rw [Xz.out,y8.out];rfl,ak HW.out (ak (bY _ _ _) (by assumption))⟩
     case measure=>simp [intOf];omega
   ·obtain rfl:k = la.len:=by omega
    go_wp2;go_ret;exact ⟨ai (by rw [HR.out];rw [NL.fo (vi _),NL.fo (by rw [HL.out];exact vi _)];rfl),HW.out⟩
 ·have A9:((la.len:Int) != (lb.len:Int)) = true:=by simp;omega
  have HL:=kq hl;clear hl;go_enter Tryz.func36,Tryz.ntmps36;go_wp2_with fail;go_ret;exact ⟨ai (tC HL.out).symm,Below.refl _ _⟩
theorem Cj (n:Nat) (hK:Dx n):Jy (n + 1):=by
 intro k1 dE g1 dB dC bM dD cK k2 vL g2 uX uY uZ vg vk iC d11 iD d12 iG d13 iH d14 iI d15 yI d21 yJ d22 yK d23 yL d24 yM d25 w bU h1 h2;have gZ:=bY w (.cells #[.int .i64 k1,.string dE,.bool g1,.slice iC dB.length d11,.slice iD dC.length d12,.slice iG bM.len d13,.slice iH dD.length d14,.slice iI cK.len d15] 28) (.cells #[.int .i64 k2,.string vL,.bool g2,.slice yI uX.length d21,.slice yJ uY.length d22,.slice yK uZ.len d23,.slice yL vg.length d24,.slice yM vk.len d25] 28);have hA:=fun w' (hb:Below ((w.alloc (.cells #[.int .i64 k1,.string dE,.bool g1,.slice iC dB.length d11,.slice iD dC.length d12,.slice iG bM.len d13,.slice iH dD.length d14,.slice iI cK.len d15] 28)).alloc (.cells #[.int .i64 k2,.string vL,.bool g2,.slice yI uX.length d21,.slice yJ uY.length d22,.slice yK uZ.len d23,.slice yL vg.length d24,.slice yM vk.len d25] 28)).heap.size ((w.alloc (.cells #[.int .i64 k1,.string dE,.bool g1,.slice iC dB.length d11,.slice iD dC.length d12,.slice iG bM.len d13,.slice iH dD.length d14,.slice iI cK.len d15] 28)).alloc (.cells #[.int .i64 k2,.string vL,.bool g2,.slice yI uX.length d21,.slice yJ uY.length d22,.slice yK uZ.len d23,.slice yL vg.length d24,.slice yM vk.len d25] 28)) w')=>(SI dB uX iC yI d11 d21 w' (dX (fun h=>h.below (ak gZ hb)) h1.haz) (dX (fun h=>h.below (ak gZ hb)) h2.haz)).mono fun e ut h=>And.intro h.1 (ak hb h.2);have hW:=fun w' (hb:Below ((w.alloc (.cells #[.int .i64 k1,.string dE,.bool g1,.slice iC dB.length d11,.slice iD dC.length d12,.slice iG bM.len d13,.slice iH dD.length d14,.slice iI cK.len d15] 28)).alloc (.cells #[.int .i64 k2,.string vL,.bool g2,.slice yI uX.length d21,.slice yJ uY.length d22,.slice yK uZ.len d23,.slice yL vg.length d24,.slice yM vk.len d25] 28)).heap.size ((w.alloc (.cells #[.int .i64 k1,.string dE,.bool g1,.slice iC dB.length d11,.slice iD dC.length d12,.slice iG bM.len d13,.slice iH dD.length d14,.slice iI cK.len d15] 28)).alloc (.cells #[.int .i64 k2,.string vL,.bool g2,.slice yI uX.length d21,.slice yJ uY.length d22,.slice yK uZ.len d23,.slice yL vg.length d24,.slice yM vk.len d25] 28)) w')=>(KX dC uY iD yJ d12 d22 w' (dX (fun h=>h.below (ak gZ hb)) h1.hws) (dX (fun h=>h.below (ak gZ hb)) h2.hws)).mono fun e ut h=>And.intro h.1 (ak hb h.2);have hN:=fun w' (hb:Below ((w.alloc (.cells #[.int .i64 k1,.string dE,.bool g1,.slice iC dB.length d11,.slice iD dC.length d12,.slice iG bM.len d13,.slice iH dD.length d14,.slice iI cK.len d15] 28)).alloc (.cells #[.int .i64 k2,.string vL,.bool g2,.slice yI uX.length d21,.slice yJ uY.length d22,.slice yK uZ.len d23,.slice yL vg.length d24,.slice yM vk.len d25] 28)).heap.size ((w.alloc (.cells #[.int .i64 k1,.string dE,.bool g1,.slice iC dB.length d11,.slice iD dC.length d12,.slice iG bM.len d13,.slice iH dD.length d14,.slice iI cK.len d15] 28)).alloc (.cells #[.int .i64 k2,.string vL,.bool g2,.slice yI uX.length d21,.slice yJ uY.length d22,.slice yK uZ.len d23,.slice yL vg.length d24,.slice yM vk.len d25] 28)) w')=>(hK bM uZ (by omega) h1.xU h2.xU iG yK d13 d23 w' (h1.hks.below (ak gZ hb)) (h2.hks.below (ak gZ hb))).mono fun e ut h=>And.intro h.1 (ak hb h.2);have hB:=fun w' (hb:Below ((w.alloc (.cells #[.int .i64 k1,.string dE,.bool g1,.slice iC dB.length d11,.slice iD dC.length d12,.slice iG bM.len d13,.slice iH dD.length d14,.slice iI cK.len d15] 28)).alloc (.cells #[.int .i64 k2,.string vL,.bool g2,.slice yI uX.length d21,.slice yJ uY.length d22,.slice yK uZ.len d23,.slice yL vg.length d24,.slice yM vk.len d25] 28)).heap.size ((w.alloc (.cells #[.int .i64 k1,.string dE,.bool g1,.slice iC dB.length d11,.slice iD dC.length d12,.slice iG bM.len d13,.slice iH dD.length d14,.slice iI cK.len d15] 28)).alloc (.cells #[.int .i64 k2,.string vL,.bool g2,.slice yI uX.length d21,.slice yJ uY.length d22,.slice yK uZ.len d23,.slice yL vg.length d24,.slice yM vk.len d25] 28)) w')=>(SK dD vg iH yL d14 d24 w' (dX (fun h=>h.below (ak gZ hb)) h1.hbs) (dX (fun h=>h.below (ak gZ hb)) h2.hbs)).mono fun e ut h=>And.intro h.1 (ak hb h.2);have hC:=fun w' (hb:Below ((w.alloc (.cells #[.int .i64 k1,.string dE,.bool g1,.slice iC dB.length d11,.slice iD dC.length d12,.slice iG bM.len d13,.slice iH dD.length d14,.slice iI cK.len d15] 28)).alloc (.cells #[.int .i64 k2,.string vL,.bool g2,.slice yI uX.length d21,.slice yJ uY.length d22,.slice yK uZ.len d23,.slice yL vg.length d24,.slice yM vk.len d25] 28)).heap.size ((w.alloc (.cells #[.int .i64 k1,.string dE,.bool g1,.slice iC dB.length d11,.slice iD dC.length d12,.slice iG bM.len d13,.slice iH dD.length d14,.slice iI cK.len d15] 28)).alloc (.cells #[.int .i64 k2,.string vL,.bool g2,.slice yI uX.length d21,.slice yJ uY.length d22,.slice yK uZ.len d23,.slice yL vg.length d24,.slice yM vk.len d25] 28)) w')=>(SL n hK cK vk (by omega) h1.MO h2.MO iI yM d15 d25 w' (h1.hcs.below (ak gZ hb)) (h2.hcs.below (ak gZ hb))).mono fun e ut h=>And.intro h.1 (ak hb h.2);have r1:((w.alloc (.cells #[.int .i64 k1,.string dE,.bool g1,.slice iC dB.length d11,.slice iD dC.length d12,.slice iG bM.len d13,.slice iH dD.length d14,.slice iI cK.len d15] 28)).alloc (.cells #[.int .i64 k2,.string vL,.bool g2,.slice yI uX.length d21,.slice yJ uY.length d22,.slice yK uZ.len d23,.slice yL vg.length d24,.slice yM vk.len d25] 28)).heap[w.heap.size]? = some (.cells #[.int .i64 k1,.string dE,.bool g1,.slice iC dB.length d11,.slice iD dC.length d12,.slice iG bM.len d13,.slice iH dD.length d14,.slice iI cK.len d15] 28 (0,0)):=(Below.heap_alloc _ _ _ (by simp only [zd];omega)).trans (ay _ _);have r2:((w.alloc (.cells #[.int .i64 k1,.string dE,.bool g1,.slice iC dB.length d11,.slice iD dC.length d12,.slice iG bM.len d13,.slice iH dD.length d14,.slice iI cK.len d15] 28)).alloc (.cells #[.int .i64 k2,.string vL,.bool g2,.slice yI uX.length d21,.slice yJ uY.length d22,.slice yK uZ.len d23,.slice yL vg.length d24,.slice yM vk.len d25] 28)).heap[w.heap.size + 1]? = some (.cells #[.int .i64 k2,.string vL,.bool g2,.slice yI uX.length d21,.slice yJ uY.length d22,.slice yK uZ.len d23,.slice yL vg.length d24,.slice yM vk.len d25] 28 (0,0)):=by
  have h:=ay (w.alloc (.cells #[.int .i64 k1,.string dE,.bool g1,.slice iC dB.length d11,.slice iD dC.length d12,.slice iG bM.len d13,.slice iH dD.length d14,.slice iI cK.len d15] 28)) (.cells #[.int .i64 k2,.string vL,.bool g2,.slice yI uX.length d21,.slice yJ uY.length d22,.slice yK uZ.len d23,.slice yL vg.length d24,.slice yM vk.len d25] 28);simp only [zd] at h;exact h
 have kQ:w.heap.size < ((w.alloc (.cells #[.int .i64 k1,.string dE,.bool g1,.slice iC dB.length d11,.slice iD dC.length d12,.slice iG bM.len d13,.slice iH dD.length d14,.slice iI cK.len d15] 28)).alloc (.cells #[.int .i64 k2,.string vL,.bool g2,.slice yI uX.length d21,.slice yJ uY.length d22,.slice yK uZ.len d23,.slice yL vg.length d24,.slice yM vk.len d25] 28)).heap.size:=by simp only [zd];omega
 have lM:w.heap.size + 1 < ((w.alloc (.cells #[.int .i64 k1,.string dE,.bool g1,.slice iC dB.length d11,.slice iD dC.length d12,.slice iG bM.len d13,.slice iH dD.length d14,.slice iI cK.len d15] 28)).alloc (.cells #[.int .i64 k2,.string vL,.bool g2,.slice yI uX.length d21,.slice yJ uY.length d22,.slice yK uZ.len d23,.slice yL vg.length d24,.slice yM vk.len d25] 28)).heap.size:=by simp only [zd];omega
 have UE:=kq hA;have Ir:=kq hW;have Xd:=kq hN;have Vy:=kq hB;have HCC:=kq hC;have fP:=kq gZ;have R1:=kq r1;have R2:=kq r2;have o9:=kq kQ;have lD:=kq lM;clear hA hW hN hB hC gZ r1 r2 kQ lM h1 h2 hK bU;unfold aJ cB;cases h0:(k1 == k2)
 ·skip
  go_enter Tryz.func16,Tryz.ntmps16;go_wp2_with fail;go_ret;exact ⟨rfl,fP.out⟩
 ·skip
  cases h1:(dE.toList == vL.toList)
  ·skip
   go_enter Tryz.func16,Tryz.ntmps16;go_wp2_with fail;go_ret;exact ⟨rfl,fP.out⟩
  ·skip
   by_cases hg:g1 = g2
   ·subst hg;have Z5:(g1 == g1) = true:=by simp
    rw [Z5];cases h3:(eqL lN dB uX)
    ·rw [h3] at UE;go_enter Tryz.func16,Tryz.ntmps16
     go_wp2_with (first
      | (go_at_call 30;refine (UE.out _ (by first | exact Below.refl _ _ | assumption)).mono ?_;rintro e v0 ⟨rfl,hb⟩;have q1:=dS ((hb.block _ o9.out).trans R1.out);have q2:=dS ((hb.block _ lD.out).trans R2.out)))
     go_ret;exact ⟨rfl,ak fP.out (by assumption)⟩
    ·rw [h3] at UE;cases h4:(eqL same dC uY)
     ·rw [h4] at Ir;go_enter Tryz.func16,Tryz.ntmps16
      go_wp2_with (first
       | (go_at_call 30;refine (UE.out _ (by first | exact Below.refl _ _ | assumption)).mono ?_;rintro e v0 ⟨rfl,hb⟩;have q1:=dS ((hb.block _ o9.out).trans R1.out);have q2:=dS ((hb.block _ lD.out).trans R2.out))
       | (go_at_call 32;refine (Ir.out _ (by first | exact Below.refl _ _ | assumption)).mono ?_;rintro e v1 ⟨rfl,hb⟩;have q1:=dZ ((hb.block _ o9.out).trans R1.out);have q2:=dZ ((hb.block _ lD.out).trans R2.out)))
      go_ret;exact ⟨rfl,ak fP.out (by assumption)⟩
     ·rw [h4] at Ir;cases h5:(sameN bM uZ)
      ·rw [h5] at Xd;go_enter Tryz.func16,Tryz.ntmps16
       go_wp2_with (first
        | (go_at_call 30;refine (UE.out _ (by first | exact Below.refl _ _ | assumption)).mono ?_;rintro e v0 ⟨rfl,hb⟩;have q1:=dS ((hb.block _ o9.out).trans R1.out);have q2:=dS ((hb.block _ lD.out).trans R2.out))
        | (go_at_call 32;refine (Ir.out _ (by first | exact Below.refl _ _ | assumption)).mono ?_;rintro e v1 ⟨rfl,hb⟩;have q1:=dZ ((hb.block _ o9.out).trans R1.out);have q2:=dZ ((hb.block _ lD.out).trans R2.out))
        | (go_at_call 34;refine (Xd.out _ (by first | exact Below.refl _ _ | assumption)).mono ?_;rintro e v2 ⟨rfl,hb⟩;have q1:=fU ((hb.block _ o9.out).trans R1.out);have q2:=fU ((hb.block _ lD.out).trans R2.out)))
       go_ret;exact ⟨rfl,ak fP.out (by assumption)⟩
      ·rw [h5] at Xd;cases h6:(eqL (· == ·) dD vg)
       ·rw [h6] at Vy;go_enter Tryz.func16,Tryz.ntmps16
        go_wp2_with (first
         | (go_at_call 30;refine (UE.out _ (by first | exact Below.refl _ _ | assumption)).mono ?_;rintro e v0 ⟨rfl,hb⟩;have q1:=dS ((hb.block _ o9.out).trans R1.out);have q2:=dS ((hb.block _ lD.out).trans R2.out))
         | (go_at_call 32;refine (Ir.out _ (by first | exact Below.refl _ _ | assumption)).mono ?_;rintro e v1 ⟨rfl,hb⟩;have q1:=dZ ((hb.block _ o9.out).trans R1.out);have q2:=dZ ((hb.block _ lD.out).trans R2.out))
         | (go_at_call 34;refine (Xd.out _ (by first | exact Below.refl _ _ | assumption)).mono ?_;rintro e v2 ⟨rfl,hb⟩;have q1:=fU ((hb.block _ o9.out).trans R1.out);have q2:=fU ((hb.block _ lD.out).trans R2.out))
         | (go_at_call 35;refine (Vy.out _ (by first | exact Below.refl _ _ | assumption)).mono ?_;rintro e v3 ⟨rfl,hb⟩;have q1:=gz ((hb.block _ o9.out).trans R1.out);have q2:=gz ((hb.block _ lD.out).trans R2.out)))
        go_ret;exact ⟨rfl,ak fP.out (by assumption)⟩
       ·rw [h6] at Vy;cases h7:(sameN cK vk)
        ·rw [h7] at HCC;go_enter Tryz.func16,Tryz.ntmps16
         go_wp2_with (first
          | (go_at_call 30;refine (UE.out _ (by first | exact Below.refl _ _ | assumption)).mono ?_;rintro e v0 ⟨rfl,hb⟩;have q1:=dS ((hb.block _ o9.out).trans R1.out);have q2:=dS ((hb.block _ lD.out).trans R2.out))
          | (go_at_call 32;refine (Ir.out _ (by first | exact Below.refl _ _ | assumption)).mono ?_;rintro e v1 ⟨rfl,hb⟩;have q1:=dZ ((hb.block _ o9.out).trans R1.out);have q2:=dZ ((hb.block _ lD.out).trans R2.out))
          | (go_at_call 34;refine (Xd.out _ (by first | exact Below.refl _ _ | assumption)).mono ?_;rintro e v2 ⟨rfl,hb⟩;have q1:=fU ((hb.block _ o9.out).trans R1.out);have q2:=fU ((hb.block _ lD.out).trans R2.out))
          | (go_at_call 35;refine (Vy.out _ (by first | exact Below.refl _ _ | assumption)).mono ?_;rintro e v3 ⟨rfl,hb⟩;have q1:=gz ((hb.block _ o9.out).trans R1.out);have q2:=gz ((hb.block _ lD.out).trans R2.out))
          | (go_at_call 36;refine (HCC.out _ (by first | exact Below.refl _ _ | assumption)).mono ?_;rintro e v4 ⟨rfl,hb⟩))
         go_ret;exact ⟨rfl,ak fP.out (by assumption)⟩
        ·rw [h7] at HCC;go_enter Tryz.func16,Tryz.ntmps16
         go_wp2_with (first
          | (go_at_call 30;refine (UE.out _ (by first | exact Below.refl _ _ | assumption)).mono ?_;rintro e v0 ⟨rfl,hb⟩;have q1:=dS ((hb.block _ o9.out).trans R1.out);have q2:=dS ((hb.block _ lD.out).trans R2.out))
          | (go_at_call 32;refine (Ir.out _ (by first | exact Below.refl _ _ | assumption)).mono ?_;rintro e v1 ⟨rfl,hb⟩;have q1:=dZ ((hb.block _ o9.out).trans R1.out);have q2:=dZ ((hb.block _ lD.out).trans R2.out))
          | (go_at_call 34;refine (Xd.out _ (by first | exact Below.refl _ _ | assumption)).mono ?_;rintro e v2 ⟨rfl,hb⟩;have q1:=fU ((hb.block _ o9.out).trans R1.out);have q2:=fU ((hb.block _ lD.out).trans R2.out))
          | (go_at_call 35;refine (Vy.out _ (by first | exact Below.refl _ _ | assumption)).mono ?_;rintro e v3 ⟨rfl,hb⟩;have q1:=gz ((hb.block _ o9.out).trans R1.out);have q2:=gz ((hb.block _ lD.out).trans R2.out))
          | (go_at_call 36;refine (HCC.out _ (by first | exact Below.refl _ _ | assumption)).mono ?_;rintro e v4 ⟨rfl,hb⟩))
         go_ret;exact ⟨rfl,ak fP.out (by assumption)⟩
   ·have Z5:(g1 == g2) = false:=by simpa using hg
    cases g1 <;> cases g2
    all_goals first
     | exact absurd rfl hg
     | skip
    all_goals
     go_enter Tryz.func16,Tryz.ntmps16;go_wp2_with fail;go_ret;exact ⟨rfl,fP.out⟩
theorem PG:∀ n,Dx n:=by
 intro n
 induction n with
 | zero =>
  intro la lb hn oa ob a b ca cb w lI qa;exact KY 0 (fun _ _ _ _ _ _ _ _ _ _ _ _ _ _ _ _ _ _ _ _ _ _ _ _ _ _ _ _ _ _ _ _ _ _ _ _ _ h=>absurd h (Nat.not_lt_zero _)) la lb hn oa ob a b ca cb w lI qa
 | succ n ih=>exact fun la lb hn oa ob a b ca cb w lI qa=>KY (n + 1) (Cj n ih) la lb hn oa ob a b ca cb w lI qa
theorem nV (n:Nat):Jy (n + 1):=Cj n (PG n)
end Tr
namespace Tr
open j6 Pt
def bQ (k:Int):Bool:=decide (6≤k) && decide (k≤13)
def df (k:Int):Bool:=decide (6≤k) && decide (k≤12)
def eH (k:Int):Bool:=k == 1 || bQ k
def ik (k:Int):Bool:=k == 4 || eH k
def dN (k:Int):Bool:=k == 2 || k == 3 || ik k
def dK (k:Int) (n:Nat):Bool:=k == 5 && decide (0 < n)
theorem dm (k:Int) (w:World):Calls Tryz.prog 66 #[.int .i64 k] w fun e w'=>e = .returned (.bool (bQ k))∧w = w':=by
 unfold bQ
 by_cases h1:6≤k <;> by_cases h2:k≤13
 all_goals
  go_enter Tryz.func66,Tryz.ntmps66;go_wp2_with fail;go_ret;exact ⟨by simp [h1,h2],rfl⟩
def gp (k:Int) (d:Nat):Nat:=if bQ k && !(k == 13) then d + 1 else d
theorem di (k:Int) (d:Nat) (hd:d≤1000) (w:World):Calls Tryz.prog 68 #[.int .i64 k,.int .i64 d] w fun e w'=>e = .returned (.int .i64 (gp k d))∧w = w':=by
 have hC:=fun w=>dm k w;unfold gp;cases hc:bQ k
 ·rw [hc] at hC;have HC:=kq hC;clear hC;go_enter Tryz.func68,Tryz.ntmps68;go_wp2_with (go_at_call 66;refine (HC.out _).mono ?_;rintro e w' ⟨rfl,rfl⟩);go_ret;exact ⟨rfl,rfl⟩
 ·rw [hc] at hC;have HC:=kq hC;clear hC;have hx:IntKind.i64.wrap ((d:Int) + 1) = (d:Int) + 1:=BO d hd;cases Xe:(k == 13)
  ·have abY:(k != 13) = true:=by simp [bne,Xe]
   go_enter Tryz.func68,Tryz.ntmps68;go_wp2_with (go_at_call 66;refine (HC.out _).mono ?_;rintro e w' ⟨rfl,rfl⟩);go_ret;exact ⟨by simp,rfl⟩
  ·have abY:(k != 13) = false:=by simp [bne,Xe]
   go_enter Tryz.func68,Tryz.ntmps68;go_wp2_with (go_at_call 66;refine (HC.out _).mono ?_;rintro e w' ⟨rfl,rfl⟩);go_ret;exact ⟨rfl,rfl⟩
theorem Dz (k:Int) (nm:ByteArray) (g:Bool) (az:List (ByteArray × PL)) (ws:List PL) (ks:NL) (bs:List Bool) (cz:NL) (x1 d1 x2 d2 x3 d3 x4 d4 x5 d5) (w:World):Calls Tryz.prog 81 #[.agg (aJ k nm g x1 az.length d1 x2 ws.length d2 x3 ks.len d3 x4 bs.length d4 x5 cz.len d5)] w fun e w'=>e = .returned (.bool (df k))∧Below w.heap.size w w':=by
 unfold aJ
 by_cases h1:6≤k <;> by_cases h2:k≤12
 all_goals try (exfalso;omega)
 all_goals
  go_enter Tryz.func81,Tryz.ntmps81;go_wp2_with fail
  all_goals
   go_ret;exact ⟨ai (by simp [*,df]),by first | exact ax _ _ | exact ak (ax _ _) (by assumption)⟩
theorem oK (k:Int) (nm:ByteArray) (g:Bool) (az:List (ByteArray × PL)) (ws:List PL) (ks:NL) (bs:List Bool) (cz:NL) (x1 d1 x2 d2 x3 d3 x4 d4 x5 d5) (w:World):Calls Tryz.prog 73 #[.agg (aJ k nm g x1 az.length d1 x2 ws.length d2 x3 ks.len d3 x4 bs.length d4 x5 cz.len d5)] w fun e w'=>e = .returned (.bool (eH k))∧Below w.heap.size w w':=by
 unfold aJ;cases h1:(k == 1)
 all_goals
  go_enter Tryz.func73,Tryz.ntmps73;go_wp2_with (go_at_call 66;refine (dm _ _).mono ?_;rintro e w1 ⟨rfl,rfl⟩)
  all_goals
   go_ret;exact ⟨ai (by simp [*,eH]),by first | exact ax _ _ | exact ak (ax _ _) (by assumption)⟩
theorem Gg (k:Int) (nm:ByteArray) (g:Bool) (az:List (ByteArray × PL)) (ws:List PL) (ks:NL) (bs:List Bool) (cz:NL) (x1 d1 x2 d2 x3 d3 x4 d4 x5 d5) (w:World):Calls Tryz.prog 72 #[.agg (aJ k nm g x1 az.length d1 x2 ws.length d2 x3 ks.len d3 x4 bs.length d4 x5 cz.len d5)] w fun e w'=>e = .returned (.bool (ik k))∧Below w.heap.size w w':=by
 unfold aJ;cases h1:(k == 4)
 all_goals
  go_enter Tryz.func72,Tryz.ntmps72;go_wp2_with (go_at_call 73;refine (oK k nm g az ws ks bs cz x1 d1 x2 d2 x3 d3 x4 d4 x5 d5 _).mono ?_;rintro e w1 ⟨rfl,hb⟩)
  all_goals
   go_ret;exact ⟨ai (by simp [*,ik]),by first | exact ax _ _ | exact ak (ax _ _) (by assumption)⟩
theorem PH (k:Int) (nm:ByteArray) (g:Bool) (az:List (ByteArray × PL)) (ws:List PL) (ks:NL) (bs:List Bool) (cz:NL) (x1 d1 x2 d2 x3 d3 x4 d4 x5 d5) (w:World):Calls Tryz.prog 71 #[.agg (aJ k nm g x1 az.length d1 x2 ws.length d2 x3 ks.len d3 x4 bs.length d4 x5 cz.len d5)] w fun e w'=>e = .returned (.bool (dN k))∧Below w.heap.size w w':=by
 unfold aJ;cases h1:(k == 2) <;> cases h2:(k == 3)
 all_goals
  go_enter Tryz.func71,Tryz.ntmps71;go_wp2_with (go_at_call 72;refine (Gg k nm g az ws ks bs cz x1 d1 x2 d2 x3 d3 x4 d4 x5 d5 _).mono ?_;rintro e w1 ⟨rfl,hb⟩)
  all_goals
   go_ret;exact ⟨ai (by simp [*,dN]),by first | exact ax _ _ | exact ak (ax _ _) (by assumption)⟩
theorem PI (k:Int) (nm:ByteArray) (g:Bool) (az:List (ByteArray × PL)) (ws:List PL) (ks:NL) (bs:List Bool) (cz:NL) (x1 d1 x2 d2 x3 d3 x4 d4 x5 d5) (w:World):Calls Tryz.prog 74 #[.agg (aJ k nm g x1 az.length d1 x2 ws.length d2 x3 ks.len d3 x4 bs.length d4 x5 cz.len d5)] w fun e w'=>e = .returned (.bool (dK k ks.len))∧Below w.heap.size w w':=by
 unfold aJ;cases h1:(k == 5) <;> by_cases h2:0 < ks.len
 all_goals
  go_enter Tryz.func74,Tryz.ntmps74;go_wp2_with fail
  all_goals
   go_ret;exact ⟨ai (by simp [*,dK]),by first | exact ax _ _ | exact ak (ax _ _) (by assumption)⟩
end Tr
end Go.Proofs.YtckakkeejekibaaGreatDoor
