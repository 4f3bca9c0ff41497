/- All of a row of nodes (the closure that rightAt makes). -/
import Derived.Test.YtckakkeejekibaaGreatDoorTrI
set_option maxHeartbeats 1600000
set_option maxRecDepth 100000
namespace Go.Proofs.YtckakkeejekibaaGreatDoor
open Go.RowKit Go.Sort
namespace Tr
open j6 Pt
theorem Jz:Gh 71 kL:=PH
theorem JA:Gh 72 ni:=Gg
theorem BC:Gh 73 gU:=oK
theorem JB:Gh 74 dK:=PI
theorem zJ:Gh 81 gu:=Dz
theorem zK (n:Nat) (hR:eu n) (la:NL) (hn:la.size≤n) (fO:NL.okN la true = true) (pG:fB la) (d pb:Nat) (hd:d≤201) (a:Option Addr) (ca:Nat) (m:Int) (w:World) (lI:dJ w a ca la) (hm:w.cell? ⟨0,0,none⟩ = some (.int .i64 m)) (hp:w.cell? ⟨pb,0,none⟩ = some (.int .i64 d)) :
  Calls Tryz.prog 69 #[.slice a la.len ca,.func (.func 71) #[] #[],.pointer (some ⟨pb,0,none⟩)] w fun e w'=>e = .returned (.bool (allS kL la && rt la d))∧Below w.heap.size w w':=by
 have hle:=lI.le;have HR:=kq hR;have HS:=kq Jz;have BB:=kq fO;have zL:=kq pG;have HA:=kq lI;have HM:=kq hm;have HP:=kq hp;clear hR fO pG lI hm hp;go_enter Tryz.func69,Tryz.ntmps69;go_wp2
 go_loopw [10] (fun x wr=>∃ k:Nat,k≤la.len∧x = .int .i64 k∧(allS kL la && rt la d) = (allS kL (la.drop k) && rt (la.drop k) d)∧Below w.heap.size w wr) (fun x wr=>la.len - (intOf x).toNat)
 case atStart=>exact ⟨0,zVy _,rfl,rfl,Below.refl _ _⟩
 case round =>
  obtain ⟨k,hk,rfl,hr,ja⟩:=hrel;have Gi:=kq hr;have HW:=kq ja;clear hr ja
  by_cases aB:k < la.len
  ·obtain ⟨k1,dE,g1,dB,dC,bM,dD,cK,r1,fG⟩:=NL.bf aB BB.out;obtain ⟨b1,o1,rfl,aP,iC,d11,iD,d12,iG,d13,iH,d14,iI,d15,fE,qj⟩:=(HA.out.below HW.out).kX BB.out fG;have qG:wr.cell? ⟨b1,o1 + k * 8,none⟩ = some (.int .i64 k1):=fE 0 _ rfl;have tY:wr.cell? ⟨b1,o1 + k * 8 + 1,none⟩ = some (.string dE):=fE 1 _ rfl;have wM:wr.cell? ⟨b1,o1 + k * 8 + 2,none⟩ = some (.bool g1):=fE 2 _ rfl;have wN:wr.cell? ⟨b1,o1 + k * 8 + 3,none⟩ = some (.slice iC dB.length d11):=fE 3 _ rfl;have wB:wr.cell? ⟨b1,o1 + k * 8 + 4,none⟩ = some (.slice iD dC.length d12):=fE 4 _ rfl;have Oo:wr.cell? ⟨b1,o1 + k * 8 + 5,none⟩ = some (.slice iG bM.len d13):=fE 5 _ rfl;have Oq:wr.cell? ⟨b1,o1 + k * 8 + 6,none⟩ = some (.slice iH dD.length d14):=fE 6 _ rfl;have Ot:wr.cell? ⟨b1,o1 + k * 8 + 7,none⟩ = some (.slice iI cK.len d15):=fE 7 _ rfl;have bU:bM.size + cK.size < n:=by
    have:=NL.eX k la;rw [fG] at this;simp only [NL.size] at this;omega
   have jT:=fit_drop k la zL.out;rw [fG] at jT;have gZ:=ax wr (.cells #[.int .i64 k1,.string dE,.bool g1,.slice iC dB.length d11,.slice iD dC.length d12,.slice iG bM.len d13,.slice iH dD.length d14,.slice iI cK.len d15] 28);have au:(wr.alloc (.cells #[.int .i64 k1,.string dE,.bool g1,.slice iC dB.length d11,.slice iD dC.length d12,.slice iG bM.len d13,.slice iH dD.length d14,.slice iI cK.len d15] 28)).heap[wr.heap.size]? = some (.cells #[.int .i64 k1,.string dE,.bool g1,.slice iC dB.length d11,.slice iD dC.length d12,.slice iG bM.len d13,.slice iH dD.length d14,.slice iI cK.len d15] 28 (0,0)):=ay _ _;have eO:wr.heap.size < (wr.alloc (.cells #[.int .i64 k1,.string dE,.bool g1,.slice iC dB.length d11,.slice iD dC.length d12,.slice iG bM.len d13,.slice iH dD.length d14,.slice iI cK.len d15] 28)).heap.size:=by simp only [zd];omega
   have qo:=HS.out k1 dE g1 dB dC bM dD cK iC d11 iD d12 iG d13 iH d14 iI d15 (wr.alloc (.cells #[.int .i64 k1,.string dE,.bool g1,.slice iC dB.length d11,.slice iD dC.length d12,.slice iG bM.len d13,.slice iH dD.length d14,.slice iI cK.len d15] 28));have qP:=fun w' (hb:Below wr.heap.size wr w')=>HR.out k1 dE g1 dB dC bM dD cK iC d11 iD d12 iG d13 iH d14 iI d15 d m w' bU hd (qj.below hb) jT.1 jT.2.1 jT.2.2.1 (cell_below (ak HW.out hb) HM.out);have bL:(allS kL la && rt la d) = ((kL k1 bM.len && aW k1 dE g1 dB dC bM dD cK d) && (allS kL r1 && rt r1 d)):=by
    rw [Gi.out,fG,qm];show ((kL k1 bM.len && allS kL r1) && _) = _;cases kL k1 bM.len <;> cases allS kL r1 <;> simp
   have uA:=NL.gP fG;have K4:=fun w' (hb:Below wr.heap.size wr w')=>cell_below (ak HW.out hb) HP.out;unfold aJ at qo qP;generalize kL k1 bM.len = B1 at qo bL;generalize aW k1 dE g1 dB dC bM dD cK d = B2 at qP bL;have HT:=kq bL;have Im:=kq uA;have xc:=kq qo;have wF:=kq qP;have fP:=kq gZ;have aY:=kq au;have SQ:=kq K4;have eG:=kq eO;clear bL uA qo qP gZ au K4 eO qj fE fG jT;cases B1
   ·go_wp2_with (go_at_call 71;refine (xc.out).mono ?_;rintro e w1 ⟨rfl,hb⟩);go_ret;exact ⟨ai (by rw [HT.out];rfl),ak HW.out (ak fP.out (by assumption))⟩
   ·cases B2
    all_goals
     go_wp2_with (first
      | (go_at_call 46;refine (wF.out _ (by assumption)).mono ?_;rintro e w2 ⟨rfl,d9⟩)
      | (go_at_call 71;refine (xc.out).mono ?_;rintro e w1 ⟨rfl,aP⟩;have Bq:=ak fP.out aP;have p0:=SQ.out _ Bq;have aC:=(aP.block _ eG.out).trans aY.out;have q0:=kz aC 0;have q1:=kz aC 1;have q2:=kz aC 2;have q3:=kz aC 3;have q4:=kz aC 4;have q5:=kz aC 5;have q6:=kz aC 6;have q7:=kz aC 7;simp only [List.getElem?_toArray,List.getElem?_cons_succ,List.getElem?_cons_zero] at q0 q1 q2 q3 q4 q5 q6 q7;clear aC aP))
    ·go_ret;exact ⟨ai (by rw [HT.out];rfl),ak HW.out (ak (by assumption) (by assumption))⟩
    ·go_roundw
     case rel=>exact ⟨k + 1,by omega,by go_num,by rw [HT.out,Im.out];rfl,ak HW.out (ak (by assumption) (by assumption))⟩
     case measure=>simp [intOf];omega
  ·obtain rfl:k = la.len:=by omega
   go_wp2;go_ret;exact ⟨ai (by rw [Gi.out,NL.fo (vi _)];rfl),HW.out⟩
theorem Gj (n:Nat) (hR:eu n) (la:NL) (hn:la.size≤n) (fO:NL.okN la true = true) (pG:fB la) (d pb:Nat) (hd:d≤201) (a:Option Addr) (ca:Nat) (m:Int) (w:World) (lI:dJ w a ca la) (hm:w.cell? ⟨0,0,none⟩ = some (.int .i64 m)) (hp:w.cell? ⟨pb,0,none⟩ = some (.int .i64 d)) :
  Calls Tryz.prog 69 #[.slice a la.len ca,.func (.func 72) #[] #[],.pointer (some ⟨pb,0,none⟩)] w fun e w'=>e = .returned (.bool (allS ni la && rt la d))∧Below w.heap.size w w':=by
 have hle:=lI.le;have HR:=kq hR;have HS:=kq JA;have BB:=kq fO;have zL:=kq pG;have HA:=kq lI;have HM:=kq hm;have HP:=kq hp;clear hR fO pG lI hm hp;go_enter Tryz.func69,Tryz.ntmps69;go_wp2
 go_loopw [10] (fun x wr=>∃ k:Nat,k≤la.len∧x = .int .i64 k∧(allS ni la && rt la d) = (allS ni (la.drop k) && rt (la.drop k) d)∧Below w.heap.size w wr) (fun x wr=>la.len - (intOf x).toNat)
 case atStart=>exact ⟨0,zVy _,rfl,rfl,Below.refl _ _⟩
 case round =>
  obtain ⟨k,hk,rfl,hr,ja⟩:=hrel;have Gi:=kq hr;have HW:=kq ja;clear hr ja
  by_cases aB:k < la.len
  ·obtain ⟨k1,dE,g1,dB,dC,bM,dD,cK,r1,fG⟩:=NL.bf aB BB.out;obtain ⟨b1,o1,rfl,aP,iC,d11,iD,d12,iG,d13,iH,d14,iI,d15,fE,qj⟩:=(HA.out.below HW.out).kX BB.out fG;have qG:wr.cell? ⟨b1,o1 + k * 8,none⟩ = some (.int .i64 k1):=fE 0 _ rfl;have tY:wr.cell? ⟨b1,o1 + k * 8 + 1,none⟩ = some (.string dE):=fE 1 _ rfl;have wM:wr.cell? ⟨b1,o1 + k * 8 + 2,none⟩ = some (.bool g1):=fE 2 _ rfl;have wN:wr.cell? ⟨b1,o1 + k * 8 + 3,none⟩ = some (.slice iC dB.length d11):=fE 3 _ rfl;have wB:wr.cell? ⟨b1,o1 + k * 8 + 4,none⟩ = some (.slice iD dC.length d12):=fE 4 _ rfl;have Oo:wr.cell? ⟨b1,o1 + k * 8 + 5,none⟩ = some (.slice iG bM.len d13):=fE 5 _ rfl;have Oq:wr.cell? ⟨b1,o1 + k * 8 + 6,none⟩ = some (.slice iH dD.length d14):=fE 6 _ rfl;have Ot:wr.cell? ⟨b1,o1 + k * 8 + 7,none⟩ = some (.slice iI cK.len d15):=fE 7 _ rfl;have bU:bM.size + cK.size < n:=by
    have:=NL.eX k la;rw [fG] at this;simp only [NL.size] at this;omega
   have jT:=fit_drop k la zL.out;rw [fG] at jT;have gZ:=ax wr (.cells #[.int .i64 k1,.string dE,.bool g1,.slice iC dB.length d11,.slice iD dC.length d12,.slice iG bM.len d13,.slice iH dD.length d14,.slice iI cK.len d15] 28);have au:(wr.alloc (.cells #[.int .i64 k1,.string dE,.bool g1,.slice iC dB.length d11,.slice iD dC.length d12,.slice iG bM.len d13,.slice iH dD.length d14,.slice iI cK.len d15] 28)).heap[wr.heap.size]? = some (.cells #[.int .i64 k1,.string dE,.bool g1,.slice iC dB.length d11,.slice iD dC.length d12,.slice iG bM.len d13,.slice iH dD.length d14,.slice iI cK.len d15] 28 (0,0)):=ay _ _;have eO:wr.heap.size < (wr.alloc (.cells #[.int .i64 k1,.string dE,.bool g1,.slice iC dB.length d11,.slice iD dC.length d12,.slice iG bM.len d13,.slice iH dD.length d14,.slice iI cK.len d15] 28)).heap.size:=by simp only [zd];omega
   have qo:=HS.out k1 dE g1 dB dC bM dD cK iC d11 iD d12 iG d13 iH d14 iI d15 (wr.alloc (.cells #[.int .i64 k1,.string dE,.bool g1,.slice iC dB.length d11,.slice iD dC.length d12,.slice iG bM.len d13,.slice iH dD.length d14,.slice iI cK.len d15] 28));have qP:=fun w' (hb:Below wr.heap.size wr w')=>HR.out k1 dE g1 dB dC bM dD cK iC d11 iD d12 iG d13 iH d14 iI d15 d m w' bU hd (qj.below hb) jT.1 jT.2.1 jT.2.2.1 (cell_below (ak HW.out hb) HM.out);have bL:(allS ni la && rt la d) = ((ni k1 bM.len && aW k1 dE g1 dB dC bM dD cK d) && (allS ni r1 && rt r1 d)):=by
    rw [Gi.out,fG,qm];show ((ni k1 bM.len && allS ni r1) && _) = _;cases ni k1 bM.len <;> cases allS ni r1 <;> simp
   have uA:=NL.gP fG;have K4:=fun w' (hb:Below wr.heap.size wr w')=>cell_below (ak HW.out hb) HP.out;unfold aJ at qo qP;generalize ni k1 bM.len = B1 at qo bL;generalize aW k1 dE g1 dB dC bM dD cK d = B2 at qP bL;have HT:=kq bL;have Im:=kq uA;have xc:=kq qo;have wF:=kq qP;have fP:=kq gZ;have aY:=kq au;have SQ:=kq K4;have eG:=kq eO;clear bL uA qo qP gZ au K4 eO qj fE fG jT;cases B1
   ·go_wp2_with (go_at_call 72;refine (xc.out).mono ?_;rintro e w1 ⟨rfl,hb⟩);go_ret;exact ⟨ai (by rw [HT.out];rfl),ak HW.out (ak fP.out (by assumption))⟩
   ·cases B2
    all_goals
     go_wp2_with (first
      | (go_at_call 46;refine (wF.out _ (by assumption)).mono ?_;rintro e w2 ⟨rfl,d9⟩)
      | (go_at_call 72;refine (xc.out).mono ?_;rintro e w1 ⟨rfl,aP⟩;have Bq:=ak fP.out aP;have p0:=SQ.out _ Bq;have aC:=(aP.block _ eG.out).trans aY.out;have q0:=kz aC 0;have q1:=kz aC 1;have q2:=kz aC 2;have q3:=kz aC 3;have q4:=kz aC 4;have q5:=kz aC 5;have q6:=kz aC 6;have q7:=kz aC 7;simp only [List.getElem?_toArray,List.getElem?_cons_succ,List.getElem?_cons_zero] at q0 q1 q2 q3 q4 q5 q6 q7;clear aC aP))
    ·go_ret;exact ⟨ai (by rw [HT.out];rfl),ak HW.out (ak (by assumption) (by assumption))⟩
    ·go_roundw
     case rel=>exact ⟨k + 1,by omega,by go_num,by rw [HT.out,Im.out];rfl,ak HW.out (ak (by assumption) (by assumption))⟩
     case measure=>simp [intOf];omega
  ·obtain rfl:k = la.len:=by omega
   go_wp2;go_ret;exact ⟨ai (by rw [Gi.out,NL.fo (vi _)];rfl),HW.out⟩
theorem Gl (n:Nat) (hR:eu n) (la:NL) (hn:la.size≤n) (fO:NL.okN la true = true) (pG:fB la) (d pb:Nat) (hd:d≤201) (a:Option Addr) (ca:Nat) (m:Int) (w:World) (lI:dJ w a ca la) (hm:w.cell? ⟨0,0,none⟩ = some (.int .i64 m)) (hp:w.cell? ⟨pb,0,none⟩ = some (.int .i64 d)) :
  Calls Tryz.prog 69 #[.slice a la.len ca,.func (.func 73) #[] #[],.pointer (some ⟨pb,0,none⟩)] w fun e w'=>e = .returned (.bool (allS gU la && rt la d))∧Below w.heap.size w w':=by
 have hle:=lI.le;have HR:=kq hR;have HS:=kq BC;have BB:=kq fO;have zL:=kq pG;have HA:=kq lI;have HM:=kq hm;have HP:=kq hp;clear hR fO pG lI hm hp;go_enter Tryz.func69,Tryz.ntmps69;go_wp2
 go_loopw [10] (fun x wr=>∃ k:Nat,k≤la.len∧x = .int .i64 k∧(allS gU la && rt la d) = (allS gU (la.drop k) && rt (la.drop k) d)∧Below w.heap.size w wr) (fun x wr=>la.len - (intOf x).toNat)
 case atStart=>exact ⟨0,zVy _,rfl,rfl,Below.refl _ _⟩
 case round =>
  obtain ⟨k,hk,rfl,hr,ja⟩:=hrel;have Gi:=kq hr;have HW:=kq ja;clear hr ja
  by_cases aB:k < la.len
  ·obtain ⟨k1,dE,g1,dB,dC,bM,dD,cK,r1,fG⟩:=NL.bf aB BB.out;obtain ⟨b1,o1,rfl,aP,iC,d11,iD,d12,iG,d13,iH,d14,iI,d15,fE,qj⟩:=(HA.out.below HW.out).kX BB.out fG;have qG:wr.cell? ⟨b1,o1 + k * 8,none⟩ = some (.int .i64 k1):=fE 0 _ rfl;have tY:wr.cell? ⟨b1,o1 + k * 8 + 1,none⟩ = some (.string dE):=fE 1 _ rfl;have wM:wr.cell? ⟨b1,o1 + k * 8 + 2,none⟩ = some (.bool g1):=fE 2 _ rfl;have wN:wr.cell? ⟨b1,o1 + k * 8 + 3,none⟩ = some (.slice iC dB.length d11):=fE 3 _ rfl;have wB:wr.cell? ⟨b1,o1 + k * 8 + 4,none⟩ = some (.slice iD dC.length d12):=fE 4 _ rfl;have Oo:wr.cell? ⟨b1,o1 + k * 8 + 5,none⟩ = some (.slice iG bM.len d13):=fE 5 _ rfl;have Oq:wr.cell? ⟨b1,o1 + k * 8 + 6,none⟩ = some (.slice iH dD.length d14):=fE 6 _ rfl;have Ot:wr.cell? ⟨b1,o1 + k * 8 + 7,none⟩ = some (.slice iI cK.len d15):=fE 7 _ rfl;have bU:bM.size + cK.size < n:=by
    have:=NL.eX k la;rw [fG] at this;simp only [NL.size] at this;omega
   have jT:=fit_drop k la zL.out;rw [fG] at jT;have gZ:=ax wr (.cells #[.int .i64 k1,.string dE,.bool g1,.slice iC dB.length d11,.slice iD dC.length d12,.slice iG bM.len d13,.slice iH dD.length d14,.slice iI cK.len d15] 28);have au:(wr.alloc (.cells #[.int .i64 k1,.string dE,.bool g1,.slice iC dB.length d11,.slice iD dC.length d12,.slice iG bM.len d13,.slice iH dD.length d14,.slice iI cK.len d15] 28)).heap[wr.heap.size]? = some (.cells #[.int .i64 k1,.string dE,.bool g1,.slice iC dB.length d11,.slice iD dC.length d12,.slice iG bM.len d13,.slice iH dD.length d14,.slice iI cK.len d15] 28 (0,0)):=ay _ _;have eO:wr.heap.size < (wr.alloc (.cells #[.int .i64 k1,.string dE,.bool g1,.slice iC dB.length d11,.slice iD dC.length d12,.slice iG bM.len d13,.slice iH dD.length d14,.slice iI cK.len d15] 28)).heap.size:=by simp only [zd];omega
   have qo:=HS.out k1 dE g1 dB dC bM dD cK iC d11 iD d12 iG d13 iH d14 iI d15 (wr.alloc (.cells #[.int .i64 k1,.string dE,.bool g1,.slice iC dB.length d11,.slice iD dC.length d12,.slice iG bM.len d13,.slice iH dD.length d14,.slice iI cK.len d15] 28));have qP:=fun w' (hb:Below wr.heap.size wr w')=>HR.out k1 dE g1 dB dC bM dD cK iC d11 iD d12 iG d13 iH d14 iI d15 d m w' bU hd (qj.below hb) jT.1 jT.2.1 jT.2.2.1 (cell_below (ak HW.out hb) HM.out);have bL:(allS gU la && rt la d) = ((gU k1 bM.len && aW k1 dE g1 dB dC bM dD cK d) && (allS gU r1 && rt r1 d)):=by
    rw [Gi.out,fG,qm];show ((gU k1 bM.len && allS gU r1) && _) = _;cases gU k1 bM.len <;> cases allS gU r1 <;> simp
   have uA:=NL.gP fG;have K4:=fun w' (hb:Below wr.heap.size wr w')=>cell_below (ak HW.out hb) HP.out;unfold aJ at qo qP;generalize gU k1 bM.len = B1 at qo bL;generalize aW k1 dE g1 dB dC bM dD cK d = B2 at qP bL;have HT:=kq bL;have Im:=kq uA;have xc:=kq qo;have wF:=kq qP;have fP:=kq gZ;have aY:=kq au;have SQ:=kq K4;have eG:=kq eO;clear bL uA qo qP gZ au K4 eO qj fE fG jT;cases B1
   ·go_wp2_with (go_at_call 73;refine (xc.out).mono ?_;rintro e w1 ⟨rfl,hb⟩);go_ret;exact ⟨ai (by rw [HT.out];rfl),ak HW.out (ak fP.out (by assumption))⟩
   ·cases B2
    all_goals
     go_wp2_with (first
      | (go_at_call 46;refine (wF.out _ (by assumption)).mono ?_;rintro e w2 ⟨rfl,d9⟩)
      | (go_at_call 73;refine (xc.out).mono ?_;rintro e w1 ⟨rfl,aP⟩;have Bq:=ak fP.out aP;have p0:=SQ.out _ Bq;have aC:=(aP.block _ eG.out).trans aY.out;have q0:=kz aC 0;have q1:=kz aC 1;have q2:=kz aC 2;have q3:=kz aC 3;have q4:=kz aC 4;have q5:=kz aC 5;have q6:=kz aC 6;have q7:=kz aC 7;simp only [List.getElem?_toArray,List.getElem?_cons_succ,List.getElem?_cons_zero] at q0 q1 q2 q3 q4 q5 q6 q7;clear aC aP))
    ·go_ret;exact ⟨ai (by rw [HT.out];rfl),ak HW.out (ak (by assumption) (by assumption))⟩
    ·go_roundw
     case rel=>exact ⟨k + 1,by omega,by go_num,by rw [HT.out,Im.out];rfl,ak HW.out (ak (by assumption) (by assumption))⟩
     case measure=>simp [intOf];omega
  ·obtain rfl:k = la.len:=by omega
   go_wp2;go_ret;exact ⟨ai (by rw [Gi.out,NL.fo (vi _)];rfl),HW.out⟩
theorem nW (n:Nat) (hR:eu n) (la:NL) (hn:la.size≤n) (fO:NL.okN la true = true) (pG:fB la) (d pb:Nat) (hd:d≤201) (a:Option Addr) (ca:Nat) (m:Int) (w:World) (lI:dJ w a ca la) (hm:w.cell? ⟨0,0,none⟩ = some (.int .i64 m)) (hp:w.cell? ⟨pb,0,none⟩ = some (.int .i64 d)) :
  Calls Tryz.prog 69 #[.slice a la.len ca,.func (.func 74) #[] #[],.pointer (some ⟨pb,0,none⟩)] w fun e w'=>e = .returned (.bool (allS dK la && rt la d))∧Below w.heap.size w w':=by
 have hle:=lI.le;have HR:=kq hR;have HS:=kq JB;have BB:=kq fO;have zL:=kq pG;have HA:=kq lI;have HM:=kq hm;have HP:=kq hp;clear hR fO pG lI hm hp;go_enter Tryz.func69,Tryz.ntmps69;go_wp2
 go_loopw [10] (fun x wr=>∃ k:Nat,k≤la.len∧x = .int .i64 k∧(allS dK la && rt la d) = (allS dK (la.drop k) && rt (la.drop k) d)∧Below w.heap.size w wr) (fun x wr=>la.len - (intOf x).toNat)
 case atStart=>exact ⟨0,zVy _,rfl,rfl,Below.refl _ _⟩
 case round =>
  obtain ⟨k,hk,rfl,hr,ja⟩:=hrel;have Gi:=kq hr;have HW:=kq ja;clear hr ja
  by_cases aB:k < la.len
  ·obtain ⟨k1,dE,g1,dB,dC,bM,dD,cK,r1,fG⟩:=NL.bf aB BB.out;obtain ⟨b1,o1,rfl,aP,iC,d11,iD,d12,iG,d13,iH,d14,iI,d15,fE,qj⟩:=(HA.out.below HW.out).kX BB.out fG;have qG:wr.cell? ⟨b1,o1 + k * 8,none⟩ = some (.int .i64 k1):=fE 0 _ rfl;have tY:wr.cell? ⟨b1,o1 + k * 8 + 1,none⟩ = some (.string dE):=fE 1 _ rfl;have wM:wr.cell? ⟨b1,o1 + k * 8 + 2,none⟩ = some (.bool g1):=fE 2 _ rfl;have wN:wr.cell? ⟨b1,o1 + k * 8 + 3,none⟩ = some (.slice iC dB.length d11):=fE 3 _ rfl;have wB:wr.cell? ⟨b1,o1 + k * 8 + 4,none⟩ = some (.slice iD dC.length d12):=fE 4 _ rfl;have Oo:wr.cell? ⟨b1,o1 + k * 8 + 5,none⟩ = some (.slice iG bM.len d13):=fE 5 _ rfl;have Oq:wr.cell? ⟨b1,o1 + k * 8 + 6,none⟩ = some (.slice iH dD.length d14):=fE 6 _ rfl;have Ot:wr.cell? ⟨b1,o1 + k * 8 + 7,none⟩ = some (.slice iI cK.len d15):=fE 7 _ rfl;have bU:bM.size + cK.size < n:=by
    have:=NL.eX k la;rw [fG] at this;simp only [NL.size] at this;omega
   have jT:=fit_drop k la zL.out;rw [fG] at jT;have gZ:=ax wr (.cells #[.int .i64 k1,.string dE,.bool g1,.slice iC dB.length d11,.slice iD dC.length d12,.slice iG bM.len d13,.slice iH dD.length d14,.slice iI cK.len d15] 28);have au:(wr.alloc (.cells #[.int .i64 k1,.string dE,.bool g1,.slice iC dB.length d11,.slice iD dC.length d12,.slice iG bM.len d13,.slice iH dD.length d14,.slice iI cK.len d15] 28)).heap[wr.heap.size]? = some (.cells #[.int .i64 k1,.string dE,.bool g1,.slice iC dB.length d11,.slice iD dC.length d12,.slice iG bM.len d13,.slice iH dD.length d14,.slice iI cK.len d15] 28 (0,0)):=ay _ _;have eO:wr.heap.size < (wr.alloc (.cells #[.int .i64 k1,.string dE,.bool g1,.slice iC dB.length d11,.slice iD dC.length d12,.slice iG bM.len d13,.slice iH dD.length d14,.slice iI cK.len d15] 28)).heap.size:=by simp only [zd];omega
   have qo:=HS.out k1 dE g1 dB dC bM dD cK iC d11 iD d12 iG d13 iH d14 iI d15 (wr.alloc (.cells #[.int .i64 k1,.string dE,.bool g1,.slice iC dB.length d11,.slice iD dC.length d12,.slice iG bM.len d13,.slice iH dD.length d14,.slice iI cK.len d15] 28));have qP:=fun w' (hb:Below wr.heap.size wr w')=>HR.out k1 dE g1 dB dC bM dD cK iC d11 iD d12 iG d13 iH d14 iI d15 d m w' bU hd (qj.below hb) jT.1 jT.2.1 jT.2.2.1 (cell_below (ak HW.out hb) HM.out);have bL:(allS dK la && rt la d) = ((dK k1 bM.len && aW k1 dE g1 dB dC bM dD cK d) && (allS dK r1 && rt r1 d)):=by
    rw [Gi.out,fG,qm];show ((dK k1 bM.len && allS dK r1) && _) = _;cases dK k1 bM.len <;> cases allS dK r1 <;> simp
   have uA:=NL.gP fG;have K4:=fun w' (hb:Below wr.heap.size wr w')=>cell_below (ak HW.out hb) HP.out;unfold aJ at qo qP;generalize dK k1 bM.len = B1 at qo bL;generalize aW k1 dE g1 dB dC bM dD cK d = B2 at qP bL;have HT:=kq bL;have Im:=kq uA;have xc:=kq qo;have wF:=kq qP;have fP:=kq gZ;have aY:=kq au;have SQ:=kq K4;have eG:=kq eO;clear bL uA qo qP gZ au K4 eO qj fE fG jT;cases B1
   ·go_wp2_with (go_at_call 74;refine (xc.out).mono ?_;rintro e w1 ⟨rfl,hb⟩);go_ret;exact ⟨ai (by rw [HT.out];rfl),ak HW.out (ak fP.out (by assumption))⟩
   ·cases B2
    all_goals
     go_wp2_with (first
      | (go_at_call 46;refine (wF.out _ (by assumption)).mono ?_;rintro e w2 ⟨rfl,d9⟩)
      | (go_at_call 74;refine (xc.out).mono ?_;rintro e w1 ⟨rfl,aP⟩;have Bq:=ak fP.out aP;have p0:=SQ.out _ Bq;have aC:=(aP.block _ eG.out).trans aY.out;have q0:=kz aC 0;have q1:=kz aC 1;have q2:=kz aC 2;have q3:=kz aC 3;have q4:=kz aC 4;have q5:=kz aC 5;have q6:=kz aC 6;have q7:=kz aC 7;simp only [List.getElem?_toArray,List.getElem?_cons_succ,List.getElem?_cons_zero] at q0 q1 q2 q3 q4 q5 q6 q7;clear aC aP))
    ·go_ret;exact ⟨ai (by rw [HT.out];rfl),ak HW.out (ak (by assumption) (by assumption))⟩
    ·go_roundw
     case rel=>exact ⟨k + 1,by omega,by go_num,by rw [HT.out,Im.out];rfl,ak HW.out (ak (by assumption) (by assumption))⟩
     case measure=>simp [intOf];omega
  ·obtain rfl:k = la.len:=by omega
   go_wp2;go_ret;exact ⟨ai (by rw [Gi.out,NL.fo (vi _)];rfl),HW.out⟩
theorem DF (n:Nat) (hR:eu n) (la:NL) (hn:la.size≤n) (fO:NL.okN la true = true) (pG:fB la) (d pb:Nat) (hd:d≤201) (a:Option Addr) (ca:Nat) (m:Int) (w:World) (lI:dJ w a ca la) (hm:w.cell? ⟨0,0,none⟩ = some (.int .i64 m)) (hp:w.cell? ⟨pb,0,none⟩ = some (.int .i64 d)) :
  Calls Tryz.prog 69 #[.slice a la.len ca,.func (.func 81) #[] #[],.pointer (some ⟨pb,0,none⟩)] w fun e w'=>e = .returned (.bool (allS gu la && rt la d))∧Below w.heap.size w w':=by
 have hle:=lI.le;have HR:=kq hR;have HS:=kq zJ;have BB:=kq fO;have zL:=kq pG;have HA:=kq lI;have HM:=kq hm;have HP:=kq hp;clear hR fO pG lI hm hp;go_enter Tryz.func69,Tryz.ntmps69;go_wp2
 go_loopw [10] (fun x wr=>∃ k:Nat,k≤la.len∧x = .int .i64 k∧(allS gu la && rt la d) = (allS gu (la.drop k) && rt (la.drop k) d)∧Below w.heap.size w wr) (fun x wr=>la.len - (intOf x).toNat)
 case atStart=>exact ⟨0,zVy _,rfl,rfl,Below.refl _ _⟩
 case round =>
  obtain ⟨k,hk,rfl,hr,ja⟩:=hrel;have Gi:=kq hr;have HW:=kq ja;clear hr ja
  by_cases aB:k < la.len
  ·obtain ⟨k1,dE,g1,dB,dC,bM,dD,cK,r1,fG⟩:=NL.bf aB BB.out;obtain ⟨b1,o1,rfl,aP,iC,d11,iD,d12,iG,d13,iH,d14,iI,d15,fE,qj⟩:=(HA.out.below HW.out).kX BB.out fG;have qG:wr.cell? ⟨b1,o1 + k * 8,none⟩ = some (.int .i64 k1):=fE 0 _ rfl;have tY:wr.cell? ⟨b1,o1 + k * 8 + 1,none⟩ = some (.string dE):=fE 1 _ rfl;have wM:wr.cell? ⟨b1,o1 + k * 8 + 2,none⟩ = some (.bool g1):=fE 2 _ rfl;have wN:wr.cell? ⟨b1,o1 + k * 8 + 3,none⟩ = some (.slice iC dB.length d11):=fE 3 _ rfl;have wB:wr.cell? ⟨b1,o1 + k * 8 + 4,none⟩ = some (.slice iD dC.length d12):=fE 4 _ rfl;have Oo:wr.cell? ⟨b1,o1 + k * 8 + 5,none⟩ = some (.slice iG bM.len d13):=fE 5 _ rfl;have Oq:wr.cell? ⟨b1,o1 + k * 8 + 6,none⟩ = some (.slice iH dD.length d14):=fE 6 _ rfl;have Ot:wr.cell? ⟨b1,o1 + k * 8 + 7,none⟩ = some (.slice iI cK.len d15):=fE 7 _ rfl;have bU:bM.size + cK.size < n:=by
    have:=NL.eX k la;rw [fG] at this;simp only [NL.size] at this;omega
   have jT:=fit_drop k la zL.out;rw [fG] at jT;have gZ:=ax wr (.cells #[.int .i64 k1,.string dE,.bool g1,.slice iC dB.length d11,.slice iD dC.length d12,.slice iG bM.len d13,.slice iH dD.length d14,.slice iI cK.len d15] 28);have au:(wr.alloc (.cells #[.int .i64 k1,.string dE,.bool g1,.slice iC dB.length d11,.slice iD dC.length d12,.slice iG bM.len d13,.slice iH dD.length d14,.slice iI cK.len d15] 28)).heap[wr.heap.size]? = some (.cells #[.int .i64 k1,.string dE,.bool g1,.slice iC dB.length d11,.slice iD dC.length d12,.slice iG bM.len d13,.slice iH dD.length d14,.slice iI cK.len d15] 28 (0,0)):=ay _ _;have eO:wr.heap.size < (wr.alloc (.cells #[.int .i64 k1,.string dE,.bool g1,.slice iC dB.length d11,.slice iD dC.length d12,.slice iG bM.len d13,.slice iH dD.length d14,.slice iI cK.len d15] 28)).heap.size:=by simp only [zd];omega
   have qo:=HS.out k1 dE g1 dB dC bM dD cK iC d11 iD d12 iG d13 iH d14 iI d15 (wr.alloc (.cells #[.int .i64 k1,.string dE,.bool g1,.slice iC dB.length d11,.slice iD dC.length d12,.slice iG bM.len d13,.slice iH dD.length d14,.slice iI cK.len d15] 28));have qP:=fun w' (hb:Below wr.heap.size wr w')=>HR.out k1 dE g1 dB dC bM dD cK iC d11 iD d12 iG d13 iH d14 iI d15 d m w' bU hd (qj.below hb) jT.1 jT.2.1 jT.2.2.1 (cell_below (ak HW.out hb) HM.out);have bL:(allS gu la && rt la d) = ((gu k1 bM.len && aW k1 dE g1 dB dC bM dD cK d) && (allS gu r1 && rt r1 d)):=by
    rw [Gi.out,fG,qm];show ((gu k1 bM.len && allS gu r1) && _) = _;cases gu k1 bM.len <;> cases allS gu r1 <;> simp
   have uA:=NL.gP fG;have K4:=fun w' (hb:Below wr.heap.size wr w')=>cell_below (ak HW.out hb) HP.out;unfold aJ at qo qP;generalize gu k1 bM.len = B1 at qo bL;generalize aW k1 dE g1 dB dC bM dD cK d = B2 at qP bL;have HT:=kq bL;have Im:=kq uA;have xc:=kq qo;have wF:=kq qP;have fP:=kq gZ;have aY:=kq au;have SQ:=kq K4;have eG:=kq eO;clear bL uA qo qP gZ au K4 eO qj fE fG jT;cases B1
   ·go_wp2_with (go_at_call 81;refine (xc.out).mono ?_;rintro e w1 ⟨rfl,hb⟩);go_ret;exact ⟨ai (by rw [HT.out];rfl),ak HW.out (ak fP.out (by assumption))⟩
   ·cases B2
    all_goals
     go_wp2_with (first
      | (go_at_call 46;refine (wF.out _ (by assumption)).mono ?_;rintro e w2 ⟨rfl,d9⟩)
      | (go_at_call 81;refine (xc.out).mono ?_;rintro e w1 ⟨rfl,aP⟩;have Bq:=ak fP.out aP;have p0:=SQ.out _ Bq;have aC:=(aP.block _ eG.out).trans aY.out;have q0:=kz aC 0;have q1:=kz aC 1;have q2:=kz aC 2;have q3:=kz aC 3;have q4:=kz aC 4;have q5:=kz aC 5;have q6:=kz aC 6;have q7:=kz aC 7;simp only [List.getElem?_toArray,List.getElem?_cons_succ,List.getElem?_cons_zero] at q0 q1 q2 q3 q4 q5 q6 q7;clear aC aP))
    ·go_ret;exact ⟨ai (by rw [HT.out];rfl),ak HW.out (ak (by assumption) (by assumption))⟩
    ·go_roundw
     case rel=>exact ⟨k + 1,by omega,by go_num,by rw [HT.out,Im.out];rfl,ak HW.out (ak (by assumption) (by assumption))⟩
     case measure=>simp [intOf];omega
  ·obtain rfl:k = la.len:=by omega
   go_wp2;go_ret;exact ⟨ai (by rw [Gi.out,NL.fo (vi _)];rfl),HW.out⟩
end Tr
namespace Tr
open j6 Pt
def VV (w:World) (pb pf d:Nat):Prop:=w.cell? ⟨pb,0,none⟩ = some (.int .i64 d)∧w.cell? ⟨pf,0,none⟩ = some (.func (.func 69) #[] #[.pointer (some ⟨pb,0,none⟩)])
theorem VV.below {w w':World} {pb pf d:Nat} (h:VV w pb pf d) (hb:Below w.heap.size w w'):VV w' pb pf d:=⟨cell_below hb h.1,cell_below hb h.2⟩
theorem JC (n:Nat) (hR:eu n) (la:NL) (hn:la.size≤n) (fO:NL.okN la true = true) (pG:fB la) (d pb pf:Nat) (hd:d≤201) (a:Option Addr) (ca:Nat) (m:Int) (w:World) (lI:dJ w a ca la) (hm:w.cell? ⟨0,0,none⟩ = some (.int .i64 m)) (hc:VV w pb pf d) :
  Calls Tryz.prog 78 #[.slice a la.len ca,.pointer (some ⟨pf,0,none⟩)] w fun e w'=>e = .returned (.bool (allS dK la && rt la d))∧Below w.heap.size w w':=by
 have hA:=nW n hR la hn fO pG d pb hd a ca m w lI hm hc.1;have c2:=hc.2;have HA:=kq hA;clear hA hR lI hm hc fO pG;go_enter Tryz.func78,Tryz.ntmps78;go_wp2_with (go_at_call 69;refine (HA.out).mono ?_;rintro e w1 ⟨rfl,hb⟩);go_ret;exact ⟨rfl,by assumption⟩
theorem zM (n:Nat) (hR:eu n) (la:NL) (hn:la.size≤n) (fO:NL.okN la false = true) (pG:fB la) (d pb pf:Nat) (hd:d≤201) (a:Option Addr) (ca:Nat) (m:Int) (w:World) (lI:dJ w a ca la) (hm:w.cell? ⟨0,0,none⟩ = some (.int .i64 m)) (hc:VV w pb pf d) :
  Calls Tryz.prog 77 #[.slice a la.len ca,.func (.func 78) #[] #[.pointer (some ⟨pf,0,none⟩)]] w fun e w'=>e = .returned (.bool (rt la d))∧Below w.heap.size w w':=by
 have hle:=lI.le;have HR:=kq hR;have BB:=kq fO;have zL:=kq pG;have HA:=kq lI;have HM:=kq hm;have HC:=kq hc;clear hR fO pG lI hm hc;go_enter Tryz.func77,Tryz.ntmps77;go_wp2
 go_loopw [9] (fun x wr=>∃ k:Nat,k≤la.len∧x = .int .i64 k∧rt la d = rt (la.drop k) d∧Below w.heap.size w wr) (fun x wr=>la.len - (intOf x).toNat)
 case atStart=>exact ⟨0,zVy _,rfl,rfl,Below.refl _ _⟩
 case round =>
  obtain ⟨k,hk,rfl,hr,ja⟩:=hrel;have Gi:=kq hr;have HW:=kq ja;clear hr ja
  by_cases aB:k < la.len
  ·obtain ⟨ps,bd,r1,fG⟩:=NL.pF aB BB.out;obtain ⟨b1,o1,rfl,aP,x1,d1,y1,f1,qG,tY,s1,n1,k1⟩:=(HA.out.below HW.out).SH BB.out fG;have bU:bd.size≤n:=by
    have:=NL.eX k la;rw [fG] at this;simp only [NL.size] at this;omega
   have jT:=fit_drop k la zL.out;rw [fG] at jT;have gZ:=ax wr (.cells #[.slice x1 ps.length d1,.slice y1 bd.len f1] 44);have au:(wr.alloc (.cells #[.slice x1 ps.length d1,.slice y1 bd.len f1] 44)).heap[wr.heap.size]? = some (.cells #[.slice x1 ps.length d1,.slice y1 bd.len f1] 44 (0,0)):=ay _ _;have eO:wr.heap.size < (wr.alloc (.cells #[.slice x1 ps.length d1,.slice y1 bd.len f1] 44)).heap.size:=by simp only [zd];omega
   have qo:=kY ps x1 d1 (wr.alloc (.cells #[.slice x1 ps.length d1,.slice y1 bd.len f1] 44)) (dX (P:=PW) (fun h=>h.below gZ) s1);have qP:=fun w' (hb:Below wr.heap.size wr w')=>JC n HR.out bd bU k1 jT.1 d pb pf hd y1 f1 m w' (n1.below hb) (cell_below (ak HW.out hb) HM.out) (HC.out.below (ak HW.out hb));have bL:rt la d = ((!ps.isEmpty && ps.all aG && decide (bd.len≤1) && (allS dK bd && rt bd d)) && rt r1 d):=by rw [Gi.out,fG];rfl
   have uA:=NL.lY fG;generalize (allS dK bd && rt bd d) = B2 at qP bL;have hHB:=fun w1 (h:Below (wr.alloc (.cells #[.slice x1 ps.length d1,.slice y1 bd.len f1] 44)).heap.size (wr.alloc (.cells #[.slice x1 ps.length d1,.slice y1 bd.len f1] 44)) w1)=>(show w1.cell? ⟨wr.heap.size,1,none⟩ = some (.slice y1 bd.len f1) from kz ((h.block _ eO).trans au) 1);have HT:=kq bL;have Im:=kq uA;have xc:=kq qo;have wF:=kq qP;have fP:=kq gZ;have UF:=kq hHB;have afH:=n1.le;clear bL uA qo qP gZ au eO n1 fG jT hHB
   by_cases he:ps.length = 0
   ·have hz:((ps.length:Int) == 0) = true:=by simp [he]
    have Mq:ps.isEmpty = true:=by
     rw [List.isEmpty_iff];exact List.length_eq_zero_iff.1 he
    have Ru:=kq Mq;clear he Mq s1 xc wF;go_wp2_with fail;go_ret;exact ⟨ai (by rw [HT.out,Ru.out];rfl),ak HW.out fP.out⟩
   ·have hz:((ps.length:Int) == 0) = false:=by rw [beq_eq_false_iff_ne];omega
    have Mq:ps.isEmpty = false:=by
     cases ps with
     | nil=>exact absurd rfl he
     | cons=>rfl
    have Ru:=kq Mq;clear he Mq s1;cases hw:ps.all aG
    ·rw [hw] at xc HT;clear hw;go_wp2_with (go_at_call 76;refine (xc.out).mono ?_;rintro e w1 ⟨rfl,hb⟩);go_ret;exact ⟨ai (by rw [HT.out,Ru.out];rfl),ak HW.out (ak fP.out (by assumption))⟩
    ·rw [hw] at xc HT;clear hw
     by_cases h1:1 < bd.len
     ·have Ri:(1 < bd.len) = True:=by simp [h1]
      have Ug:decide (bd.len≤1) = false:=decide_eq_false (by omega);have HDL:=kq Ug;clear Ug;go_wp2_with (go_at_call 76;refine (xc.out).mono ?_;rintro e w1 ⟨rfl,hb⟩;have q1:=UF.out _ hb);go_ret;exact ⟨ai (by rw [HT.out,Ru.out,HDL.out];rfl),ak HW.out (ak fP.out (by assumption))⟩
     ·have Ri:(1 < bd.len) = False:=by simp;omega
      have Ug:decide (bd.len≤1) = true:=decide_eq_true (by omega);have HDL:=kq Ug;clear Ug;cases B2
      all_goals
       go_wp2_with (first
        | (go_at_call 76;refine (xc.out).mono ?_;rintro e w1 ⟨rfl,hb⟩;have q1:=UF.out _ hb;have Bq:=ak fP.out hb)
        | (go_at_call 78;refine (wF.out _ (by assumption)).mono ?_;rintro e w2 ⟨rfl,d9⟩))
      ·go_ret;exact ⟨ai (by rw [HT.out,Ru.out,HDL.out];rfl),ak HW.out (ak (by assumption) (by assumption))⟩
      ·go_roundw
       case rel=>exact ⟨k + 1,by omega,by go_num,by rw [HT.out,Ru.out,HDL.out,Im.out];rfl,ak HW.out (ak (by assumption) (by assumption))⟩
       case measure=>simp [intOf];omega
  ·obtain rfl:k = la.len:=by omega
   go_wp2;go_ret;exact ⟨ai (by rw [Gi.out,NL.fo (vi _)];rfl),HW.out⟩
end Tr
end Go.Proofs.YtckakkeejekibaaGreatDoor
