/- The writer's entry. -/
import Derived.Test.YtckakkeejekibaaGreatDoorPwC
set_option maxHeartbeats 4000000
set_option maxRecDepth 100000
namespace Go.Proofs.YtckakkeejekibaaGreatDoor
open Go.RowKit Go.Sort
namespace Pw
open j6 Pt Tr Pr
open Ps (ND)
theorem AL:∀ {n:Nat} {l r ks cs:NL} {k:Int} {nm:ByteArray} {g:Bool} {az:List (ByteArray × PL)} {ws:List PL} {bs:List Bool},NL.okN l true = true→l.drop n = .node k nm g az ws ks bs cs r→(⟨k,nm,g,az,ws,ks,bs,cs⟩:ND) ∈ yz l
 | 0,l,_,_,_,_,_,_,_,_,_,_,h=>by
  have h:l = _:=h;subst h;exact List.mem_cons_self
 | n + 1,.nil,_,_,_,_,_,_,_,_,_,_,h=>by simp [NL.drop] at h
 | n + 1,.node _ _ _ _ _ _ _ _ r',_,_,_,_,_,_,_,_,_,ho,h=>by
  simp only [NL.okN,ud] at ho;exact List.mem_cons_of_mem _ (AL ho.2 h)
 | n + 1,.cse _ _ _,_,_,_,_,_,_,_,_,_,ho,_=>by simp [NL.okN] at ho
theorem size_drop {n:Nat} {l r ks cs:NL} {k:Int} {nm:ByteArray} {g:Bool} {az:List (ByteArray × PL)} {ws:List PL} {bs:List Bool} (h:l.drop n = .node k nm g az ws ks bs cs r):sz ⟨k,nm,g,az,ws,ks,bs,cs⟩ < l.size:=by
 have:=NL.eX n l;rw [h] at this;simp only [NL.size] at this;simp only [sz];omega
theorem Wrote.from {b:Nat} {t:T} {w w1 w2:World} {e:Ending} (h:Wrote b t w1 e w2) (hb:Below w.heap.size w w1) (aB:b < w.heap.size):Wrote b t w e w2:=⟨h.1,h.2.1,(Pb.Kept.of_below hb (Nat.le_of_lt aB)).trans h.2.2⟩
theorem ib {w0:World} {M:Nat} (h:WriteAt w0 M) (p:Pc) (v:Value) (acc:T) (w:World) (hp:C8 p < M∧T9 p) (hv:Zy w0 p v) (ho:Out w0 acc w) (hl:acc.length + (pcT p).length≤400000) :
  Calls Tryz.prog 19 #[.pointer (some ⟨w0.heap.size,0,none⟩),.slice (some ⟨w.heap.size,0,none⟩) 1 1] (w.alloc (.cells #[v] 20)) (Wrote w0.heap.size (acc ++ pcT p) w):=by
 have:=gy h [p] [v] acc w (by intro q hq;simp only [List.mem_singleton] at hq;subst hq;exact hp) (.cons hv .nil) (by simp) ho (by simpa [gY] using hl);have he:gY [p] = pcT p:=by simp [gY]
 rw [he] at this;exact this
theorem kN {w0:World} {M:Nat} (h:WriteAt w0 M) (p q:Pc) (v u:Value) (acc:T) (w:World) (hp:C8 p < M∧T9 p) (hq:C8 q < M∧T9 q) (hv:Zy w0 p v) (hu:Zy w0 q u) (ho:Out w0 acc w) (hl:acc.length + (pcT p).length + (pcT q).length≤400000) :
  Calls Tryz.prog 19 #[.pointer (some ⟨w0.heap.size,0,none⟩),.slice (some ⟨w.heap.size,0,none⟩) 2 2] (w.alloc (.cells #[v,u] 20)) (Wrote w0.heap.size (acc ++ (pcT p ++ pcT q)) w):=by
 have:=gy h [p,q] [v,u] acc w (by intro r hr;simp only [List.mem_cons,List.not_mem_nil,or_false] at hr;rcases hr with rfl | rfl <;> assumption) (.cons hv (.cons hu .nil)) (by simp) ho (by simp only [gY,List.map_cons,List.map_nil,List.flatten_cons,List.flatten_nil,zI,zZ];omega);have he:gY [p,q] = pcT p ++ pcT q:=by simp [gY]
 rw [he] at this;exact this
def Dp (n:Nat):T:=if n = 0 then [40] else [124]
theorem NG (w0:World) (ps:List PL) (bd:NL) (hW:WriteAt w0 (C8 (.cse ps bd))) (hR:T9 (.cse ps bd)):tO w0 ps bd:=by
 intro a1 c1 a2 c2 acc w hs hb ho hl;have HW:=kq hW;have HR:=kq hR;have HS:=kq hs;have HB:=kq hb;have HO:=kq ho;have HL:=kq hl;have hle:=hs.le;have MN:=hb.le;clear hW hR hs hb ho hl;unfold Wrote;go_enter Tryz.func40,Tryz.ntmps40;go_wp2;have au:(w.alloc (.cells #[.slice a1 ps.length c1,.slice a2 bd.len c2] 44)).heap[w.heap.size]? = some (.cells #[.slice a1 ps.length c1,.slice a2 bd.len c2] 44 (0,0)):=ay _ _;have lG:Pb.Kept w0.heap.size w (w.alloc (.cells #[.slice a1 ps.length c1,.slice a2 bd.len c2] 44)):=Pb.Kept.of_below (ax _ _) (Nat.le_of_lt HO.out.is.lt);have jJ:=HO.out.below (ax w (.cells #[.slice a1 ps.length c1,.slice a2 bd.len c2] 44));have aB:=HO.out.is.lt;generalize w.alloc (.cells #[.slice a1 ps.length c1,.slice a2 bd.len c2] 44) = w1 at au lG jJ ⊢
 have aY:=kq au;have rz:=kq lG;have bT:=kq jJ;have eG:=kq aB;clear au lG jJ aB
 go_loopw [12,4] (fun i h wr=>∃ (n:Nat) (ek:T),n≤ps.length∧i = .int .i64 n∧h = .string ⟨(Dp n).toArray⟩∧Out w0 ek wr∧acc ++ behind [40] [124] (ps.map aR) = ek ++ behind (Dp n) [124] ((ps.drop n).map aR)∧Pb.Kept w0.heap.size w1 wr) (fun i _ wr=>ps.length - (intOf i).toNat)
 case atStart=>exact ⟨0,acc,zVy _,rfl,rfl,bT.out,rfl,Pb.Kept.refl _ _⟩
 case round =>
  obtain ⟨n,ek,hn,rfl,rfl,hi,jY,hkp⟩:=hrel;have HI:=kq hi;have HT:=kq jY;have HK:=kq hkp;clear hi jY hkp;have jC:acc.length + (behind [40] [124] (ps.map aR)).length + ((txt bd).flatten.length + 5)≤400000:=by
   have:=HL.out;simp only [caseT,zI,zz,zZ] at this;omega
  have Bg:=congrArg List.length HT.out;simp only [zI] at Bg
  by_cases aB:n < ps.length
  ·obtain ⟨l,hp⟩:∃ l,ps[n]? = some l:=⟨_,List.getElem?_eq_getElem aB⟩;have hdr:ps.drop n = l :: ps.drop (n + 1):=by
    rw [List.drop_eq_getElem_cons aB];rw [List.getElem?_eq_getElem aB] at hp;injection hp with hp;rw [hp]
   obtain ⟨b,o,rfl,x1,d1,hc,yo⟩:=HS.out.get hp;rw [Nat.mul_one] at hc;have hc':=cell_below HI.out.b hc;have hT:acc ++ behind [40] [124] (ps.map aR) = (ek ++ (Dp n ++ aR l)) ++ behind (Dp (n + 1)) [124] ((ps.drop (n + 1)).map aR):=by
    rw [HT.out,hdr];simp only [List.map_cons,behind,zq];rfl
   have wJ:=congrArg List.length hT;simp only [zI] at wJ;have bv:=kN HW.out (.str ⟨(Dp n).toArray⟩) (.word l) _ _ ek wr ⟨Nat.succ_pos _,trivial⟩ ⟨Nat.succ_pos _,HR.out.1 l (List.mem_of_getElem? hp)⟩ rfl ⟨x1,d1,rfl,yo⟩ HI.out (by simp only [pcT];omega);have dY:=kq bv;have ug:=kq hT;clear bv hT hc yo hdr hp jC Bg wJ;go_wp2_with (go_at_call 19;refine (dY.out).mono ?_;rintro e w2 ⟨rfl,h3,h4⟩);have H3:=kq h3;have H4:=kq h4;clear h3 h4;go_roundw
   case rel=>exact ⟨n + 1,_,by omega,by go_num,rfl,HI.out.kept H3.out H4.out,ug.out,HK.out.trans H4.out⟩
   case measure=>simp [intOf];omega
  ·obtain rfl:n = ps.length:=by omega
   have hT:acc ++ behind [40] [124] (ps.map aR) = ek:=by
    rw [HT.out,List.drop_length];simp [behind]
   have wJ:=congrArg List.length hT;simp only [zI] at wJ;have au:wr.heap[w.heap.size]? = some (.cells #[.slice a1 ps.length c1,.slice a2 bd.len c2] 44 (0,0)):=HK.out.2 _ _ aY.out (by have:=eG.out;simp;omega) (fun c fz hc=>by injection hc with _ h2 _;exact absurd h2 (by decide));have bv:=ib HW.out (.str ⟨#[41,32]⟩) _ ek wr ⟨Nat.succ_pos _,trivial⟩ rfl HI.out (by simp only [pcT,zz,zZ];omega);have dY:=kq bv;have ug:=kq hT;have ZK:=kq au;clear bv hT jC Bg wJ au;go_wp2_with fail;refine (dY.out).mono ?_;rintro e w2 ⟨rfl,h3,h4⟩;have au:w2.heap[w.heap.size]? = some (.cells #[.slice a1 ps.length c1,.slice a2 bd.len c2] 44 (0,0)):=h4.2 _ _ ZK.out (by have:=eG.out;simp;omega) (fun c fz hc=>by injection hc with _ h2 _;exact absurd h2 (by decide));have r1:=dA au;have H3:=kq h3;have H4:=kq (rz.out.trans (HK.out.trans h4));have Xr:=kq (HI.out.kept h3 h4);clear h3 h4 au;have jC:acc.length + (behind [40] [124] (ps.map aR)).length + ((txt bd).flatten.length + 5)≤400000:=by
    have:=HL.out;simp only [caseT,zI,zz,zZ] at this;omega
   have Q6:=kq jC;clear jC;go_wp2;clear r1
   go_loopw [31] (fun i wq=>∃ (k:Nat) (Lv:T),k≤bd.len∧i = .int .i64 k∧Out w0 Lv wq∧ek ++ pcT (.str ⟨#[41,32]⟩) ++ (txt bd).flatten = Lv ++ (txt (bd.drop k)).flatten∧Pb.Kept w0.heap.size w wq) (fun i wq=>bd.len - (intOf i).toNat)
   case atStart=>exact ⟨0,_,zVy _,rfl,Xr.out,rfl,H4.out⟩
   case round =>
    obtain ⟨k,Lv,hk,rfl,hi,jY,hkp⟩:=hrel;have RF:=kq hi;have WF:=kq jY;have Bf:=kq hkp;clear hi jY hkp;have Bg:=congrArg List.length WF.out;have wJ:=congrArg List.length ug.out;simp only [zI,pcT,zz,zZ] at Bg wJ;have Iy:=Q6.out
    by_cases aB:k < bd.len
    ·obtain ⟨k1,dE,g1,dB,dC,bM,dD,cK,r,fG⟩:=NL.bf aB HR.out.2.2.1;obtain ⟨b1,o1,rfl,aP,iC,d11,iD,d12,iG,d13,iH,d14,iI,d15,fE,qj⟩:=HB.out.kX HR.out.2.2.1 fG;have lu:=RF.out.b;have qG:wr.cell? ⟨b1,o1 + k * 8,none⟩ = some (.int .i64 k1):=cell_below lu (fE 0 _ rfl);have tY:wr.cell? ⟨b1,o1 + k * 8 + 1,none⟩ = some (.string dE):=cell_below lu (fE 1 _ rfl);have wM:wr.cell? ⟨b1,o1 + k * 8 + 2,none⟩ = some (.bool g1):=cell_below lu (fE 2 _ rfl);have wN:wr.cell? ⟨b1,o1 + k * 8 + 3,none⟩ = some (.slice iC dB.length d11):=cell_below lu (fE 3 _ rfl);have wB:wr.cell? ⟨b1,o1 + k * 8 + 4,none⟩ = some (.slice iD dC.length d12):=cell_below lu (fE 4 _ rfl);have Oo:wr.cell? ⟨b1,o1 + k * 8 + 5,none⟩ = some (.slice iG bM.len d13):=cell_below lu (fE 5 _ rfl);have Oq:wr.cell? ⟨b1,o1 + k * 8 + 6,none⟩ = some (.slice iH dD.length d14):=cell_below lu (fE 6 _ rfl);have Ot:wr.cell? ⟨b1,o1 + k * 8 + 7,none⟩ = some (.slice iI cK.len d15):=cell_below lu (fE 7 _ rfl);have bU:=size_drop fG;have hT:ek ++ pcT (.str ⟨#[41,32]⟩) ++ (txt bd).flatten = (Lv ++ tx ⟨k1,dE,g1,dB,dC,bM,dD,cK⟩) ++ (txt (bd.drop (k + 1))).flatten:=by
      rw [WF.out,NL.gP fG,fG];simp only [txt,List.flatten_cons,zq];rfl
     have NH:=congrArg List.length hT;simp only [zI,pcT,zz,zZ] at NH;have bv:=ib HW.out (.node ⟨k1,dE,g1,dB,dC,bM,dD,cK⟩) _ Lv (wr.alloc (.cells #[.int .i64 k1,.string dE,.bool g1,.slice iC dB.length d11,.slice iD dC.length d12,.slice iG bM.len d13,.slice iH dD.length d14,.slice iI cK.len d15] 28)) ⟨by simp only [C8];omega,HR.out.2.2.2 _ (AL HR.out.2.2.1 fG)⟩ ⟨_,_,_,_,_,_,_,_,_,_,rfl,qj⟩ (RF.out.below (ax _ _)) (by simp only [pcT];omega);have pO:(wr.alloc (.cells #[.int .i64 k1,.string dE,.bool g1,.slice iC dB.length d11,.slice iD dC.length d12,.slice iG bM.len d13,.slice iH dD.length d14,.slice iI cK.len d15] 28)).heap.size = wr.heap.size + 1:=by simp
     rw [pO] at bv;have dY:=kq (bv.mono fun _ _ h=>Wrote.from h (ax _ _) RF.out.is.lt);have ZL:=kq hT;unfold aJ at dY;clear bv hT lu fE qj fG Bg wJ Iy NH bU pO;go_wp2_with (go_at_call 19;refine (dY.out).mono ?_;rintro e w2 ⟨rfl,h3,h4⟩);have H5:=kq h3;have H6:=kq h4;clear h3 h4;go_roundw
     case rel=>exact ⟨k + 1,_,by omega,by go_num,RF.out.kept H5.out H6.out,ZL.out,Bf.out.trans H6.out⟩
     case measure=>simp [intOf];omega
    ·obtain rfl:k = bd.len:=by omega
     have hT:ek ++ pcT (.str ⟨#[41,32]⟩) ++ (txt bd).flatten = Lv:=by
      rw [WF.out,NL.fo (vi _)];simp [txt]
     have NH:=congrArg List.length hT;simp only [zI,pcT,zz,zZ] at NH;have bv:=ib HW.out (.str ⟨#[59,59,32]⟩) _ Lv wr ⟨Nat.succ_pos _,trivial⟩ rfl RF.out (by simp only [pcT,zz,zZ];omega);have dY:=kq bv;have ZL:=kq hT;clear bv hT Bg wJ Iy NH;go_wp2_with (go_at_call 19;refine (dY.out).mono ?_;rintro e w2 ⟨rfl,h3,h4⟩);go_end0;refine ⟨rfl,?_,Bf.out.trans h4⟩;have he:acc ++ caseT ps (txt bd) = Lv ++ pcT (.str ⟨#[59,59,32]⟩):=by
      rw [← ZL.out,← ug.out];simp only [caseT,pcT,zq]
     rw [he];exact h3
end Pw
namespace Pw
open j6 Pt Tr Pr
open Ps (ND)
abbrev Cells (k:Int) (nm:ByteArray) (g:Bool) (a1:Option Addr) (n1 c1:Nat) (a2:Option Addr) (n2 c2:Nat) (a3:Option Addr) (n3 c3:Nat) (a4:Option Addr) (n4 c4:Nat) (a5:Option Addr) (n5 c5:Nat):Obj :=
 .cells #[.int .i64 k,.string nm,.bool g,.slice a1 n1 c1,.slice a2 n2 c2,.slice a3 n3 c3,.slice a4 n4 c4,.slice a5 n5 c5] 28
theorem jy {w w':World} {b g:Nat} {cs:Array Value} {fz:Nat × Nat} (h:w.heap[g]? = some (.cells cs 28 fz)) (hg:b < g) (hk:Pb.Kept b w w'):w'.heap[g]? = some (.cells cs 28 fz) :=
 hk.2 g _ h (by simp;omega) (fun c fz hc=>by injection hc with _ h2 _;exact absurd h2 (by decide))
def fG (n:Nat):T:=if n = 0 then [] else [32]
theorem Kk (w0:World) (M:Nat) (hM:1 < M) (hW:WriteAt w0 M) (k:Int) (nm:ByteArray) (g:Bool) (az:List (ByteArray × PL)) (ws:List PL) (n3 n4 n5:Nat) (a1 c1 a2 c2 a3 c3 a4 c4 a5 c5) (acc:T) (w:World)
  (Zo:∀ x ∈ az,rightL none x.2 0 1 = true) (aC:∀ l ∈ ws,rightL none l 0 1 = true) (ha:Sl 2 (PA w0) a1 c1 az) (hw:Sl 1 (PW w0) a2 c2 ws) (ho:Out w0 acc w) (hl:acc.length + (kC az ws).length≤400000) :
  Calls Tryz.prog 60 #[.pointer (some ⟨w0.heap.size,0,none⟩),.agg #[.int .i64 k,.string nm,.bool g,.slice a1 az.length c1,.slice a2 ws.length c2,.slice a3 n3 c3,.slice a4 n4 c4,.slice a5 n5 c5]] w (Wrote w0.heap.size (acc ++ kC az ws) w):=by
 have HW:=kq hW;have HRA:=kq Zo;have VP:=kq aC;have HA:=kq ha;have VU:=kq hw;have HO:=kq ho;have HL:=kq hl;have hle:=ha.le;have MN:=hw.le;clear hW Zo aC ha hw ho hl;unfold Wrote;go_enter Tryz.func60,Tryz.ntmps60;go_wp2;have au:=ay w (Cells k nm g a1 az.length c1 a2 ws.length c2 a3 n3 c3 a4 n4 c4 a5 n5 c5);have lG:Pb.Kept w0.heap.size w (w.alloc (Cells k nm g a1 az.length c1 a2 ws.length c2 a3 n3 c3 a4 n4 c4 a5 n5 c5)):=Pb.Kept.of_below (ax _ _) (Nat.le_of_lt HO.out.is.lt);have jJ:=HO.out.below (ax w (Cells k nm g a1 az.length c1 a2 ws.length c2 a3 n3 c3 a4 n4 c4 a5 n5 c5));have aB:=HO.out.is.lt;unfold Cells at au lG jJ;generalize w.alloc (.cells #[.int .i64 k,.string nm,.bool g,.slice a1 az.length c1,.slice a2 ws.length c2,.slice a3 n3 c3,.slice a4 n4 c4,.slice a5 n5 c5] 28) = w1 at au lG jJ ⊢
 have aY:=kq au;have rz:=kq lG;have bT:=kq jJ;have eG:=kq aB;clear au lG jJ aB
 go_loopw [12,4] (fun i h wr=>∃ (n:Nat) (ek:T),n≤az.length∧i = .int .i64 n∧h = .string ⟨(fG n).toArray⟩∧Out w0 ek wr∧acc ++ kC az ws = ek ++ behind (fG n) [32] ((az.drop n).map uJ ++ ws.map aR)∧Pb.Kept w0.heap.size w1 wr) (fun i _ wr=>az.length - (intOf i).toNat)
 case atStart=>exact ⟨0,acc,zVy _,rfl,rfl,bT.out,rfl,Pb.Kept.refl _ _⟩
 case round =>
  obtain ⟨n,ek,hn,rfl,rfl,hi,jY,hkp⟩:=hrel;have HI:=kq hi;have HT:=kq jY;have HK:=kq hkp;clear hi jY hkp;have jC:=HL.out;have Bg:=congrArg List.length HT.out;simp only [zI] at Bg
  by_cases aB:n < az.length
  ·obtain ⟨x,hp⟩:∃ x,az[n]? = some x:=⟨_,List.getElem?_eq_getElem aB⟩;have hdr:az.drop n = x :: az.drop (n + 1):=by
    rw [List.drop_eq_getElem_cons aB];rw [List.getElem?_eq_getElem aB] at hp;injection hp with hp;rw [hp]
   obtain ⟨b,o,rfl,fE,_,x1,d1,oN,yo⟩:=HA.out.get hp;have qG:wr.cell? ⟨b,o + n * 2,none⟩ = some (.string x.1):=cell_below HI.out.b fE;have tY:wr.cell? ⟨b,o + n * 2 + 1,none⟩ = some (.slice x1 x.2.len d1):=cell_below HI.out.b oN;have hT:acc ++ kC az ws = (ek ++ (fG n ++ uJ x)) ++ behind (fG (n + 1)) [32] ((az.drop (n + 1)).map uJ ++ ws.map aR):=by
    rw [HT.out,hdr];simp only [List.map_cons,List.cons_append,behind,zq];rfl
   have wJ:=congrArg List.length hT;simp only [zI] at wJ;have bv:=kN HW.out (.str ⟨(fG n).toArray⟩) (.U8 x) _ _ ek (wr.alloc (.cells #[.string x.1,.slice x1 x.2.len d1] 42)) ⟨Nat.lt_of_succ_lt hM,trivial⟩ ⟨hM,HRA.out x (List.mem_of_getElem? hp)⟩ rfl ⟨x1,d1,rfl,yo⟩ (HI.out.below (ax _ _)) (by simp only [pcT];omega);have pO:(wr.alloc (.cells #[.string x.1,.slice x1 x.2.len d1] 42)).heap.size = wr.heap.size + 1:=by simp
   rw [pO] at bv;have dY:=kq (bv.mono fun _ _ h=>Wrote.from h (ax _ _) HI.out.is.lt);have ug:=kq hT;clear bv hT fE oN yo hdr hp jC Bg wJ pO;go_wp2_with (go_at_call 19;refine (dY.out).mono ?_;rintro e w2 ⟨rfl,h3,h4⟩);have H3:=kq h3;have H4:=kq h4;clear h3 h4;go_roundw
   case rel=>exact ⟨n + 1,_,by omega,by go_num,rfl,HI.out.kept H3.out H4.out,ug.out,HK.out.trans H4.out⟩
   case measure=>simp [intOf];omega
  ·obtain rfl:n = az.length:=by omega
   have hT:acc ++ kC az ws = ek ++ behind (fG (az.length + 0)) [32] ((ws.drop 0).map aR):=by
    rw [HT.out,List.drop_length];rfl
   have au:=jy aY.out eG.out HK.out;have r4:=dS au;have ug:=kq hT;clear hT jC Bg au;go_wp2;clear r4;have zg:=kq (rz.out.trans HK.out)
   go_loopw [27,4] (fun i h wq=>∃ (n:Nat) (Lv:T),n≤ws.length∧i = .int .i64 n∧h = .string ⟨(fG (az.length + n)).toArray⟩∧Out w0 Lv wq∧acc ++ kC az ws = Lv ++ behind (fG (az.length + n)) [32] ((ws.drop n).map aR)∧Pb.Kept w0.heap.size w wq) (fun i _ wq=>ws.length - (intOf i).toNat)
   case atStart=>exact ⟨0,ek,zVy _,rfl,rfl,HI.out,ug.out,zg.out⟩
   case round =>
    obtain ⟨n,Lv,hn,rfl,rfl,hi,jY,hkp⟩:=hrel;have RF:=kq hi;have WF:=kq jY;have Bf:=kq hkp;clear hi jY hkp;have jC:=HL.out;have Bg:=congrArg List.length WF.out;simp only [zI] at Bg
    by_cases aB:n < ws.length
    ·obtain ⟨l,hp⟩:∃ l,ws[n]? = some l:=⟨_,List.getElem?_eq_getElem aB⟩;have hdr:ws.drop n = l :: ws.drop (n + 1):=by
      rw [List.drop_eq_getElem_cons aB];rw [List.getElem?_eq_getElem aB] at hp;injection hp with hp;rw [hp]
     obtain ⟨b,o,rfl,x1,d1,hc,yo⟩:=VU.out.get hp;rw [Nat.mul_one] at hc;have hc':=cell_below RF.out.b hc;have hT:acc ++ kC az ws = (Lv ++ (fG (az.length + n) ++ aR l)) ++ behind (fG (az.length + (n + 1))) [32] ((ws.drop (n + 1)).map aR):=by
      rw [WF.out,hdr];simp only [List.map_cons,behind,zq];rfl
     have wJ:=congrArg List.length hT;simp only [zI] at wJ;have bv:=kN HW.out (.str ⟨(fG (az.length + n)).toArray⟩) (.word l) _ _ Lv wr ⟨Nat.lt_of_succ_lt hM,trivial⟩ ⟨Nat.lt_of_succ_lt hM,VP.out l (List.mem_of_getElem? hp)⟩ rfl ⟨x1,d1,rfl,yo⟩ RF.out (by simp only [pcT];omega);have dY:=kq bv;have ZL:=kq hT;clear bv hT hc yo hdr hp jC Bg wJ;go_wp2_with (go_at_call 19;refine (dY.out).mono ?_;rintro e w2 ⟨rfl,h3,h4⟩);have H3:=kq h3;have H4:=kq h4;clear h3 h4;go_roundw
     case rel=>exact ⟨n + 1,_,by omega,by go_num,rfl,RF.out.kept H3.out H4.out,ZL.out,Bf.out.trans H4.out⟩
     case measure=>simp [intOf];omega
    ·obtain rfl:n = ws.length:=by omega
     go_wp2;go_end0;refine ⟨rfl,?_,Bf.out⟩;rw [WF.out,List.drop_length];simpa [behind] using RF.out.is
end Pw
namespace Pw
open j6 Pt Tr Pr
open Ps (ND)
structure lv (M:Nat) (ks:NL):Prop where
 ok:NL.okN ks true = true
 m:4 * ks.size + 3 < M
 r:∀ x ∈ yz ks,∃ D,W x D
theorem lv.pos {M:Nat} {ks:NL} (h:lv M ks):0 < M:=Nat.lt_of_le_of_lt (zVy _) h.m
theorem lv.at {M:Nat} {l r ks cs:NL} {k:Int} {nm:ByteArray} {g:Bool} {az:List (ByteArray × PL)} {ws:List PL} {bs:List Bool} {n:Nat} (h:lv M l) (hd:l.drop n = .node k nm g az ws ks bs cs r):C8 (.node ⟨k,nm,g,az,ws,ks,bs,cs⟩) < M∧T9 (.node ⟨k,nm,g,az,ws,ks,bs,cs⟩) :=
 ⟨by have:=size_drop hd;have:=h.m;simp only [C8];omega,h.r _ (AL h.ok hd)⟩
theorem Q7 (w0:World) (M:Nat) (hW:WriteAt w0 M) (k:Int) (nm:ByteArray) (g:Bool) (ks:NL) (bs:List Bool) (n1 n2 n5:Nat) (a1 c1 a2 c2 a3 c3 a4 c4 a5 c5) (acc:T) (w:World)
  (hR:lv M ks) (oW:ks.len = bs.length) (hk:dJ w0 a3 c3 ks) (hb:Sl 1 (PB w0) a4 c4 bs) (ho:Out w0 acc w) (hl:acc.length + (itemsT (txt ks) bs).length≤400000) :
  Calls Tryz.prog 61 #[.pointer (some ⟨w0.heap.size,0,none⟩),.agg #[.int .i64 k,.string nm,.bool g,.slice a1 n1 c1,.slice a2 n2 c2,.slice a3 ks.len c3,.slice a4 bs.length c4,.slice a5 n5 c5]] w (Wrote w0.heap.size (acc ++ itemsT (txt ks) bs) w):=by
 have HW:=kq hW;have HR:=kq hR;have rC:=kq hk;have Yn:=kq hb;have HO:=kq ho;have HL:=kq hl;have hle:=hk.le;have MN:=hb.le;have o7:=kq oW;clear hW hR hk hb ho hl oW;unfold Wrote;go_enter Tryz.func61,Tryz.ntmps61;go_wp2;have au:=ay w (Cells k nm g a1 n1 c1 a2 n2 c2 a3 ks.len c3 a4 bs.length c4 a5 n5 c5);have lG:Pb.Kept w0.heap.size w (w.alloc (Cells k nm g a1 n1 c1 a2 n2 c2 a3 ks.len c3 a4 bs.length c4 a5 n5 c5)):=Pb.Kept.of_below (ax _ _) (Nat.le_of_lt HO.out.is.lt);have jJ:=HO.out.below (ax w (Cells k nm g a1 n1 c1 a2 n2 c2 a3 ks.len c3 a4 bs.length c4 a5 n5 c5));have aB:=HO.out.is.lt;unfold Cells at au lG jJ;generalize w.alloc (.cells #[.int .i64 k,.string nm,.bool g,.slice a1 n1 c1,.slice a2 n2 c2,.slice a3 ks.len c3,.slice a4 bs.length c4,.slice a5 n5 c5] 28) = w1 at au lG jJ ⊢
 have aY:=kq au;have rz:=kq lG;have bT:=kq jJ;have eG:=kq aB;clear au lG jJ aB
 go_loopw [10] (fun i wr=>∃ (n:Nat) (ek:T),n≤ks.len∧i = .int .i64 n∧Out w0 ek wr∧acc ++ itemsT (txt ks) bs = ek ++ itemsT (txt (ks.drop n)) (bs.drop n)∧Pb.Kept w0.heap.size w1 wr) (fun i wr=>ks.len - (intOf i).toNat)
 case atStart=>exact ⟨0,acc,zVy _,rfl,bT.out,rfl,Pb.Kept.refl _ _⟩
 case round =>
  obtain ⟨n,ek,hn,rfl,hi,jY,hkp⟩:=hrel;have HI:=kq hi;have HT:=kq jY;have HK:=kq hkp;clear hi jY hkp
  by_cases aB:n < ks.len
  ·have Kl:n < bs.length:=by have:=o7.out;omega
   obtain ⟨b,hp⟩:∃ b,bs[n]? = some b:=⟨_,List.getElem?_eq_getElem Kl⟩;have ZM:bs.drop n = b :: bs.drop (n + 1):=by
    rw [List.drop_eq_getElem_cons Kl];rw [List.getElem?_eq_getElem Kl] at hp;injection hp with hp;rw [hp]
   obtain ⟨b4,o4,rfl,QM⟩:=Yn.out.get hp;rw [Nat.mul_one] at QM;obtain ⟨k1,dE,g1,dB,dC,bM,dD,cK,r,fG⟩:=NL.bf aB HR.out.ok;obtain ⟨b1,o1,rfl,aP,iC,d11,iD,d12,iG,d13,iH,d14,iI,d15,fE,qj⟩:=rC.out.kX HR.out.ok fG;have lu:=HI.out.b;have qG:wr.cell? ⟨b1,o1 + n * 8,none⟩ = some (.int .i64 k1):=cell_below lu (fE 0 _ rfl);have tY:wr.cell? ⟨b1,o1 + n * 8 + 1,none⟩ = some (.string dE):=cell_below lu (fE 1 _ rfl);have wM:wr.cell? ⟨b1,o1 + n * 8 + 2,none⟩ = some (.bool g1):=cell_below lu (fE 2 _ rfl);have wN:wr.cell? ⟨b1,o1 + n * 8 + 3,none⟩ = some (.slice iC dB.length d11):=cell_below lu (fE 3 _ rfl);have wB:wr.cell? ⟨b1,o1 + n * 8 + 4,none⟩ = some (.slice iD dC.length d12):=cell_below lu (fE 4 _ rfl);have Oo:wr.cell? ⟨b1,o1 + n * 8 + 5,none⟩ = some (.slice iG bM.len d13):=cell_below lu (fE 5 _ rfl);have Oq:wr.cell? ⟨b1,o1 + n * 8 + 6,none⟩ = some (.slice iH dD.length d14):=cell_below lu (fE 6 _ rfl);have Ot:wr.cell? ⟨b1,o1 + n * 8 + 7,none⟩ = some (.slice iI cK.len d15):=cell_below lu (fE 7 _ rfl);have LA:=ax wr (Cells k1 dE g1 iC dB.length d11 iD dC.length d12 iG bM.len d13 iH dD.length d14 iI cK.len d15);have au:=jy aY.out eG.out HK.out;have r6':wr.cell? ⟨w.heap.size,6,none⟩ = some (.slice (some ⟨b4,o4,none⟩) bs.length c4):=kz au 6;have r6:=cell_below LA r6';have b4':=cell_below (HI.out.b.trans (Pb.Kept.of_below LA (Nat.le_of_lt HI.out.is.lt)).1) QM;unfold Cells at r6 b4';have hT:acc ++ itemsT (txt ks) bs = (ek ++ (tx ⟨k1,dE,g1,dB,dC,bM,dD,cK⟩ ++ (if b then [32,38,32] else [59,32]))) ++ itemsT (txt (ks.drop (n + 1))) (bs.drop (n + 1)):=by
    rw [HT.out,NL.gP fG,fG,ZM];simp only [txt,itemsT,zq];rfl
   have wJ:=congrArg List.length hT;have jC:=HL.out;simp only [zI] at wJ;have bv:=kN HW.out (.node ⟨k1,dE,g1,dB,dC,bM,dD,cK⟩) (.str ⟨(if b then [32,38,32] else [59,32]:T).toArray⟩) _ _ ek (wr.alloc (Cells k1 dE g1 iC dB.length d11 iD dC.length d12 iG bM.len d13 iH dD.length d14 iI cK.len d15)) (HR.out.at fG) ⟨by have:=HR.out.m;simp only [C8];omega,trivial⟩ ⟨_,_,_,_,_,_,_,_,_,_,rfl,qj⟩ rfl (HI.out.below LA) (by simp only [pcT];omega);have pO:(wr.alloc (Cells k1 dE g1 iC dB.length d11 iD dC.length d12 iG bM.len d13 iH dD.length d14 iI cK.len d15)).heap.size = wr.heap.size + 1:=by simp
   rw [pO] at bv;have dY:=kq (bv.mono fun _ _ h=>Wrote.from h (ax _ _) HI.out.is.lt);have ug:=kq hT;unfold aJ Cells at dY;clear bv hT fE qj fG ZM hp jC wJ pO QM lu LA au r6';cases b
   ·go_wp2_with (go_at_call 19;refine (dY.out).mono ?_;rintro e w2 ⟨rfl,h3,h4⟩);have H3:=kq h3;have H4:=kq h4;clear h3 h4;go_roundw
    case rel=>exact ⟨n + 1,_,by omega,by go_num,HI.out.kept H3.out H4.out,ug.out,HK.out.trans H4.out⟩
    case measure=>simp [intOf];omega
   ·go_wp2_with (go_at_call 19;refine (dY.out).mono ?_;rintro e w2 ⟨rfl,h3,h4⟩);have H3:=kq h3;have H4:=kq h4;clear h3 h4;go_roundw
    case rel=>exact ⟨n + 1,_,by omega,by go_num,HI.out.kept H3.out H4.out,ug.out,HK.out.trans H4.out⟩
    case measure=>simp [intOf];omega
  ·obtain rfl:n = ks.len:=by omega
   go_wp2;go_end0;refine ⟨rfl,?_,rz.out.trans HK.out⟩;rw [HT.out,NL.fo (vi _)];simpa [txt,itemsT] using HI.out.is
end Pw
end Go.Proofs.YtckakkeejekibaaGreatDoor
