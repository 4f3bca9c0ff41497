/- PrintReads holds: for every input the law's call returns true and leaves its input as it was. Condition: the variables that its row lists read as the program's text lays them (the card ties them to it). -/
import Derived.Test.YtckakkeejekibaaGreatDoorPwK
import Derived.Test.YtckakkeejekibaaGreatDoorCards
import Derived.Test.YtckakkeejekibaaGreatDoorTie
set_option maxHeartbeats 3200000
set_option maxRecDepth 100000
namespace Go.Proofs.YtckakkeejekibaaGreatDoor
open Go.RowKit Go.Sort
namespace Pw
open j6 Pt Tr Pr
open Ps (ND CD toN toC nd gq)
theorem Ig:Hw true = [32,38] ++ [10]:=rfl
theorem Oc:Hw false = [10]:=rfl
theorem LD {x:T} {r:List T} {b:Bool} {bs:List Bool}:lineT (x :: r) (b :: bs) ≠ []:=by
 rw [tQ];cases b <;> simp [Hw]
theorem En (nm:ByteArray) (g:Bool) (az:List (ByteArray × PL)) (ws:List PL) (ks:NL) (bs:List Bool) (cz:NL) (a1 c1 a2 c2 a3 c3 a4 c4 a5 c5) (m:Int) (w:World)
  (hh:Holds w nm az ws ks bs cz a1 c1 a2 c2 a3 c3 a4 c4 a5 c5) (fO:∀ l ∈ ws,ui l) (jd:fB ks) (kF:fB cz) (hm:w.cell? ⟨0,0,none⟩ = some (.int .i64 m))
  (hr:aW 5 nm g az ws ks bs cz 1 = true) (hR:∀ x ∈ yz ks,∃ D,W x D) (oW:ks.len = bs.length) (hl:(lineT (txt ks) bs).length≤400000) :
  Calls Tryz.prog 8 #[.agg (aJ 5 nm g a1 az.length c1 a2 ws.length c2 a3 ks.len c3 a4 bs.length c4 a5 cz.len c5)] w fun e w'=>e = .returned (.string ⟨(lineT (txt ks) bs).toArray⟩)∧Below w.heap.size w w':=by
 have hP:=fun X=>sD 5 nm g az ws ks bs cz a1 c1 a2 c2 a3 c3 a4 c4 a5 c5 m (w.alloc X) (hh.below (ax _ _)) fO jd kF (cell_below (ax _ _) hm);rw [hr,show ((5:Int) == 5 && true) = true from rfl] at hP;have HP:=kq hP;have HH:=kq hh;have HM:=kq hm;have HR:=kq (show lv (4 * ks.size + 4) ks from ⟨hh.xU,by omega,hR⟩);have o7:=kq oW;have HL:=kq hl;have hle:=hh.hks.le;have MN:=hh.hbs.le;clear hP hh fO jd kF hm hr hR oW hl;unfold aJ at HP ⊢
 go_enter Tryz.func8,Tryz.ntmps8;go_wp2_with fail;refine (HP.out _).mono ?_;rintro e w1 ⟨rfl,aP⟩;have au:w1.heap[w.heap.size]? = some (Cells 5 nm g a1 az.length c1 a2 ws.length c2 a3 ks.len c3 a4 bs.length c4 a5 cz.len c5):=(aP.block _ (by simp)).trans (ay w _);have Ua:Below w.heap.size w w1:=ak (ax _ _) aP;have aB:w.heap.size < w1.heap.size:=by have:=aP.size;simp only [zd] at this;omega
 have hM1:=cell_below Ua HM.out;have qj:=HH.out.below Ua;have rC:=kq qj.hks;have Yn:=kq qj.hbs;have HW:=kq (Ob w1 m hM1 (4 * ks.size + 4));have aY:=kq au;have ZP:=kq Ua;have eG:=kq aB;have bT:=kq (show Out w1 [] (w1.alloc (.cells #[.pointer none,.slice none 0 0] 51)) from ⟨Lib.IsBuilderF.of (Lib.fresh_isBuilder 51 5 w1),ax _ _⟩);have uF:=kq (ay w1 (.cells #[.pointer none,.slice none 0 0] 51));have k5:(w1.alloc (.cells #[.pointer none,.slice none 0 0] 51)).cell? ⟨w.heap.size,5,none⟩ = some (.slice a3 ks.len c3):=cell_below (ax w1 _) (kz au 5);clear au Ua hM1 aP aB qj
 by_cases h0:ks.len = 0
 ·have hks:txt ks = []:=by
   cases ks with
   | nil=>rfl
   | node _ _ _ _ _ _ _ _ _=>simp [NL.len] at h0
   | cse _ _ _=>simp [NL.len] at h0
  have hT:lineT (txt ks) bs = []:=by rw [hks];rfl
  have Ph:=kq hT;have SE:=kq (Pb.uy w1.heap.size (.pointer none) _ uF.out);have HQ:=kq ((ax w1 (.cells #[.pointer none,.slice none 0 0] 51)));clear hT hks;rw [h0] at k5;go_wp2
  go_loopw [12] (fun i wr=>i = .int .i64 0∧wr = w1.alloc (.cells #[.pointer none,.slice none 0 0] 51)) (fun i wr=>0)
  case atStart=>exact ⟨rfl,rfl⟩
  case round =>
   obtain ⟨rfl,rfl⟩:=hrel;go_wp2_with (go_at_call 20;refine SE.out.mono ?_;rintro e w2 ⟨rfl,d9⟩);go_ret;exact ⟨by rw [Ph.out];rfl,ak ZP.out (ak (ax _ _) d9)⟩
 ·go_wp2;clear k5
  go_loopw [12] (fun i wr=>∃ (n:Nat) (acc:T),n≤ks.len∧i = .int .i64 n∧Out w1 acc wr∧lineT (txt ks) bs = acc ++ lineT (txt (ks.drop n)) (bs.drop n)) (fun i wr=>ks.len - (intOf i).toNat)
  case atStart=>exact ⟨0,[],zVy _,rfl,bT.out,rfl⟩
  case round =>
   obtain ⟨n,acc,hn,rfl,hi,jY⟩:=hrel;have HI:=kq hi;have HT:=kq jY;clear hi jY
   by_cases aB:n < ks.len
   ·have Kl:n < bs.length:=by have:=o7.out;omega
    obtain ⟨b,hp⟩:∃ b,bs[n]? = some b:=⟨_,List.getElem?_eq_getElem Kl⟩;have ZM:bs.drop n = b :: bs.drop (n + 1):=by
     rw [List.drop_eq_getElem_cons Kl];rw [List.getElem?_eq_getElem Kl] at hp;injection hp with hp;rw [hp]
    obtain ⟨b4,o4,rfl,QM⟩:=Yn.out.get hp;rw [Nat.mul_one] at QM;obtain ⟨k1,dE,g1,dB,dC,bM,dD,cK,r,fG⟩:=NL.bf aB HR.out.ok;obtain ⟨b1,o1,rfl,aP,iC,d11,iD,d12,iG,d13,iH,d14,iI,d15,fE,qj⟩:=rC.out.kX HR.out.ok fG;have lu:=HI.out.b;have qG:wr.cell? ⟨b1,o1 + n * 8,none⟩ = some (.int .i64 k1):=cell_below lu (fE 0 _ rfl);have tY:wr.cell? ⟨b1,o1 + n * 8 + 1,none⟩ = some (.string dE):=cell_below lu (fE 1 _ rfl);have wM:wr.cell? ⟨b1,o1 + n * 8 + 2,none⟩ = some (.bool g1):=cell_below lu (fE 2 _ rfl);have wN:wr.cell? ⟨b1,o1 + n * 8 + 3,none⟩ = some (.slice iC dB.length d11):=cell_below lu (fE 3 _ rfl);have wB:wr.cell? ⟨b1,o1 + n * 8 + 4,none⟩ = some (.slice iD dC.length d12):=cell_below lu (fE 4 _ rfl);have Oo:wr.cell? ⟨b1,o1 + n * 8 + 5,none⟩ = some (.slice iG bM.len d13):=cell_below lu (fE 5 _ rfl);have Oq:wr.cell? ⟨b1,o1 + n * 8 + 6,none⟩ = some (.slice iH dD.length d14):=cell_below lu (fE 6 _ rfl);have Ot:wr.cell? ⟨b1,o1 + n * 8 + 7,none⟩ = some (.slice iI cK.len d15):=cell_below lu (fE 7 _ rfl);have hT:lineT (txt ks) bs = (acc ++ tx ⟨k1,dE,g1,dB,dC,bM,dD,cK⟩ ++ Hw b) ++ lineT (txt (ks.drop (n + 1))) (bs.drop (n + 1)):=by
     rw [HT.out,NL.gP fG,fG,ZM];simp only [txt,tQ,zq];rfl
    have wJ:=congrArg List.length hT;have jC:=HL.out;simp only [zI] at wJ;have bv:=ib HW.out (.node ⟨k1,dE,g1,dB,dC,bM,dD,cK⟩) _ acc (wr.alloc (Cells k1 dE g1 iC dB.length d11 iD dC.length d12 iG bM.len d13 iH dD.length d14 iI cK.len d15)) (HR.out.at fG) ⟨_,_,_,_,_,_,_,_,_,_,rfl,qj⟩ (HI.out.below (ax _ _)) (by simp only [pcT];omega);have pO:(wr.alloc (Cells k1 dE g1 iC dB.length d11 iD dC.length d12 iG bM.len d13 iH dD.length d14 iI cK.len d15)).heap.size = wr.heap.size + 1:=by simp
    rw [pO] at bv;have dY:=kq (bv.mono fun _ _ h=>Wrote.from h (ax _ _) HI.out.is.lt);have ug:=kq hT;have HC4:=kq QM;have HLC:=kq wJ;unfold aJ Cells at dY;clear bv hT fE qj fG ZM hp jC wJ pO QM lu;go_wp2_with fail;refine dY.out.mono ?_;rintro e w2 ⟨rfl,h3,h4⟩;have WS:=HI.out.kept h3 h4;have k6:w2.cell? ⟨w.heap.size,6,none⟩ = some (.slice (some ⟨b4,o4,none⟩) bs.length c4):=cell_below WS.b (kz aY.out 6);have k4:=cell_below WS.b HC4.out;have Xr:=kq WS;clear h3 h4 WS;have Iy:=HLC.out;have jC:=HL.out;clear HLC;cases b
    ·simp only [Oc,zz,zZ] at Iy;have qP:=ib HW.out (.str ⟨#[10]⟩) _ _ w2 ⟨Nat.succ_pos _,trivial⟩ rfl Xr.out (by simp only [pcT,zI,zz,zZ];omega);have wF:=kq qP;clear qP Iy jC;go_wp2_with (go_at_call 19;refine wF.out.mono ?_;rintro e w3 ⟨rfl,h5,h6⟩);have H5:=kq h5;have H6:=kq h6;clear h5 h6 k4 k6;go_roundw
     case rel=>exact ⟨n + 1,_,by omega,by go_num,Xr.out.kept H5.out H6.out,ug.out⟩
     case measure=>simp [intOf];omega
    ·simp only [Ig,zI,zz,zZ] at Iy;have qP:=ib HW.out (.str ⟨#[32,38]⟩) _ _ w2 ⟨Nat.succ_pos _,trivial⟩ rfl Xr.out (by simp only [pcT,zI,zz,zZ];omega);have wF:=kq qP;have HLD:=kq Iy;clear qP Iy;go_wp2_with fail;refine wF.out.mono ?_;rintro e w3 ⟨rfl,h5,h6⟩;have HI3:=kq (Xr.out.kept h5 h6);clear h5 h6 k4 k6;have Iy:=HLD.out;have hC3:=ib HW.out (.str ⟨#[10]⟩) _ _ w3 ⟨Nat.succ_pos _,trivial⟩ rfl HI3.out (by simp only [pcT,zI,zz,zZ];omega);have Zk:=kq hC3;clear hC3 Iy jC wF;go_wp2_with (go_at_call 19;refine Zk.out.mono ?_;rintro e w4 ⟨rfl,h5,h6⟩);have H5:=kq h5;have H6:=kq h6;clear h5 h6;go_roundw
     case rel=>exact ⟨n + 1,_,by omega,by go_num,HI3.out.kept H5.out H6.out,by rw [ug.out,Ig];simp only [pcT,zq]⟩
     case measure=>simp [intOf];omega
   ·obtain rfl:n = ks.len:=by omega
    have hT:lineT (txt ks) bs = acc:=by
     rw [HT.out,NL.fo (vi _)];simp [txt,lineT]
    have HT1:=kq hT;have jD:acc ≠ []:=by
     rw [← hT];cases hk:ks with
     | nil=>rw [hk] at h0;exact absurd rfl h0
     | node _ _ _ _ _ _ _ _ _ =>
      have hb:=o7.out;rw [hk] at hb;cases hbs:bs with
      | nil=>rw [hbs] at hb;simp [NL.len] at hb
      | cons b bs=>exact LD
     | cse _ _ _=>have:=HR.out.ok;rw [hk] at this;simp [NL.okN] at this
    have WO:=kq (Pb.uu _ _ _ HI.out.is jD);clear hT jD;go_wp2_with (go_at_call 20;refine WO.out.mono ?_;rintro e w2 ⟨rfl,d9⟩);go_ret;exact ⟨by rw [HT1.out];rfl,ak ZP.out (HI.out.b.trans d9)⟩
end Pw
namespace Pw
open j6 Pt Tr Pr Ps
theorem mR {T:Type} {p:T→T→Bool} (h:∀ x,p x x = true):∀ l:List T,eqL p l l = true
 | []=>rfl
 | x :: r=>by simp only [eqL,h x,mR h r,Bool.and_true]
theorem kM:∀ l:PL,same l l = true
 | .nil=>rfl
 | .cons k q t o f r=>by simp [same,kM f,kM r]
theorem mh:∀ l:NL,sameN l l = true
 | .nil=>rfl
 | .node k nm g az ws ks bs cz r=>by
  simp [sameN,mh ks,mh cz,mh r,mR kM,mR (p:=lN) (fun x=>by simp [lN,kM]),mR (p:=((· == ·):Bool→Bool→Bool)) (fun x=>by simp)]
 | .cse ps b r=>by simp [sameN,mh b,mh r,mR kM]
theorem Ih (k:Int) (nm:ByteArray) (g:Bool) (az:List (ByteArray × PL)) (ws:List PL) (ks:NL) (bs:List Bool) (cz:NL):cB k nm g az ws ks bs cz k nm g az ws ks bs cz = true:=by
 simp [cB,mh,mR kM,mR (p:=lN) (fun x=>by simp [lN,kM]),mR (p:=((· == ·):Bool→Bool→Bool)) (fun x=>by simp)]
theorem LF {s:ByteArray} {x:ND} {q:Lx.Tok} (h:gX s = .ok x q) (hs:s.size≤2000) (m:Int) (w:World) (hm:w.cell? ⟨0,0,none⟩ = some (.int .i64 m)) (a1 c1 a2 c2 a3 c3 a4 c4 a5 c5)
  (hh:Holds w x.nm x.az x.ws x.ks x.bs x.cz a1 c1 a2 c2 a3 c3 a4 c4 a5 c5) :
  Calls Tryz.prog 8 #[.agg #[.int .i64 x.k,.string x.nm,.bool x.g,.slice a1 x.az.length c1,.slice a2 x.ws.length c2,.slice a3 x.ks.len c3,.slice a4 x.bs.length c4,.slice a5 x.cz.len c5]] w fun e w'=>e = .returned (.string ⟨(nk x).toArray⟩)∧Below w.heap.size w w':=by
 have hr:=sS h;have hf:=Nz (by omega) h;have hW:W x 1:=⟨hr.2,hh.xU,hh.MO⟩;have Va:=CZ h;obtain ⟨l,e,h1,h2,h3⟩:=Cs hW hr.1;have h5:=hr.2;unfold NR at h5;rw [hr.1] at h5 ⊢
 refine En x.nm x.g x.az x.ws x.ks x.bs x.cz a1 c1 a2 c2 a3 c3 a4 c4 a5 c5 m w hh hf.1 hf.2.1 hf.2.2 hm h5 (fun y hy=>?_) (by omega) (by show (nk x).length≤_;omega);have hk:x.ks = toN l:=by rw [e];rfl
 rw [hk,yT] at hy;exact ⟨1,(h3 y hy).2.1⟩
theorem Ky {s:ByteArray} {x:ND} {q:Lx.Tok} (h:gX s = .ok x q):∀ {w:World} {a1 c1 a2 c2 a3 c3 a4 c4 a5 c5},Holds w x.nm x.az x.ws x.ks x.bs x.cz a1 c1 a2 c2 a3 c3 a4 c4 a5 c5→x.ks.len = x.bs.length:=fun hh=>by
 have hr:=sS h;obtain ⟨l,_,h1,h2,_⟩:=Cs ⟨hr.2,hh.xU,hh.MO⟩ hr.1;omega
theorem Od {x:ND} (hl:x.ks.len = x.bs.length) (ho:NL.okN x.ks true = true):(⟨(nk x).toArray⟩:ByteArray).toList.isEmpty = decide (x.ks.len = 0):=by
 rw [Lib.toList_data];show (nk x).toArray.toList.isEmpty = _;unfold nk;generalize x.bs = bs at hl ⊢
 cases hk:x.ks with
 | nil=>cases bs <;> rfl
 | node k nm g az ws ks bz cz r =>
  rw [hk] at hl;cases bs with
  | nil=>simp [NL.len] at hl
  | cons b bs =>
   have:(lineT (txt (.node k nm g az ws ks bz cz r)) (b :: bs)).isEmpty = false:=by
    rw [List.isEmpty_eq_false_iff];exact LD
   simp [this,NL.len]
 | cse _ _ _=>rw [hk] at ho;simp [NL.okN] at ho
def Kz:ByteArray:=⟨#[105,102,32,97,10,116,104,101,110,32,98,38,10,102,105]⟩
def Rb:T:=[105,102,32,97,59,32,116,104,101,110,32,98,32,38,32,102,105,10]
def writes (r:Rs ND) (t:T):Bool:=match r with
 | .bad _ _=>false
 | .ok x _=>nk x == t
theorem Oe {r:Rs ND} {t:T} (h:writes r t = true):∃ x q,r = .ok x q∧nk x = t:=by
 cases r with
 | bad j f=>cases h
 | ok x q=>exact ⟨x,q,rfl,by simpa [writes] using h⟩
theorem Eo:writes (gX Kz) Rb = true:=by kernel_rfl
theorem A8 (m:Int) (w:World) (hm:w.cell? ⟨0,0,none⟩ = some (.int .i64 m)) :
  Calls Tryz.prog 6 #[] w fun e w'=>e = .returned (.bool true)∧Below w.heap.size w w':=by
 have h1:=fun w' (hb:Below w.heap.size w w')=>xC Kz (by decide) m w' (cell_below hb hm);obtain ⟨x,q,hx,ht⟩:=Oe Eo;have h2:=fun w' (hb:Below w.heap.size w w')=>LF hx (by decide) m w' (cell_below hb hm);rw [hx] at h1;rw [ht] at h2;have H1:=kq h1;have H2:=kq h2;unfold Kz at H1;unfold Rb at H2;clear h1 h2 hx hm ht;go_enter Tryz.func6,Tryz.ntmps6;go_wp2_with fail;refine (H1.out _ (Below.refl _ _)).mono ?_;rintro e w1 ⟨aP,a1,c1,a2,c2,a3,c3,a4,c4,a5,c5,rfl,hh⟩;have hv:(Iu x a1 c1 a2 c2 a3 c3 a4 c4 a5 c5).toArray = #[.int .i64 x.k,.string x.nm,.bool x.g,.slice a1 x.az.length c1,.slice a2 x.ws.length c2,.slice a3 x.ks.len c3,.slice a4 x.bs.length c4,.slice a5 x.cz.len c5]:=rfl;rw [hv];have iR:=kq aP;have HH:=kq hh;clear aP hh hv;go_wp2_with fail;refine (H2.out _ (ak iR.out (ax _ _)) _ _ _ _ _ _ _ _ _ _ (HH.out.below (ax _ _))).mono ?_;rintro e w2 ⟨rfl,d9⟩;have kR:=kq (ak iR.out (ak (ax _ _) d9));clear d9;go_wp2_with fail;go_ret;exact ⟨rfl,kR.out⟩
theorem Og (s:ByteArray) (hs:s.size≤9223372036854775807) (m:Int) (w:World) (hm:w.cell? ⟨0,0,none⟩ = some (.int .i64 m)) :
  Calls Tryz.prog 5 #[.string s] w fun e w'=>e = .returned (.bool true)∧Below w.heap.size w w':=by
 have HAL:=kq (A8 m w hm)
 by_cases h2:2000 < s.size
 ·clear hm;go_enter Tryz.func5,Tryz.ntmps5;go_wp2_with fail;refine HAL.out.mono ?_;rintro e w1 ⟨rfl,aP⟩;go_wp2_with fail;go_ret;exact ⟨rfl,aP⟩
 have hP:=fun w' (hb:Below w.heap.size w w')=>xC s (by omega) m w' (cell_below hb hm);cases hp:gX s with
 | bad i er =>
  have hE:=(Lt s).1 i er hp;rw [hp] at hP;have agO:((er:Int) == 0) = false:=by simp;omega
  have aeL:((er:Int) != 0) = true:=by simp;omega
  have HP:=kq hP;clear hP hm hp hE;go_enter Tryz.func5,Tryz.ntmps5;go_wp2_with fail;refine HAL.out.mono ?_;rintro e w1 ⟨rfl,aP⟩;have iR:=kq aP;clear aP;go_wp2_with fail;refine (HP.out _ iR.out).mono ?_;rintro e w2 ⟨d9,rfl⟩;have kR:=kq (ak iR.out d9);clear d9;go_wp2_with fail;go_ret;exact ⟨rfl,ak kR.out (ax _ _)⟩
 | ok x q =>
  rw [hp] at hP;have hr:=sS hp;have Va:=CZ hp;have hT:=fun w' (hb:Below w.heap.size w w')=>LF hp (by omega) m w' (cell_below hb hm);obtain ⟨t,ht⟩:∃ t:ByteArray,t = ⟨(nk x).toArray⟩:=⟨_,rfl⟩;rw [← ht] at hT;have Mm:t.size≤400000:=by rw [ht];show (nk x).toArray.size≤_;simp;omega
  have Vb:∀ (w':World) a1 c1 a2 c2 a3 c3 a4 c4 a5 c5,Holds w' x.nm x.az x.ws x.ks x.bs x.cz a1 c1 a2 c2 a3 c3 a4 c4 a5 c5→∃ q',gX t = .ok x q':=fun _ _ _ _ _ _ _ _ _ _ _ hh=>Ke hr.1 ⟨hr.2,hh.xU,hh.MO⟩ (by rw [ht]);have hP2:=fun w' (hb:Below w.heap.size w w')=>xC t Mm m w' (cell_below hb hm);have hS:=fun w' a1 c1 a2 c2 a3 c3 a4 c4 a5 c5 b1 d1 b2 d2 b3 d3 b4 d4 b5 d5 (hh:Holds w' x.nm x.az x.ws x.ks x.bs x.cz a1 c1 a2 c2 a3 c3 a4 c4 a5 c5) (hg:Holds w' x.nm x.az x.ws x.ks x.bs x.cz b1 d1 b2 d2 b3 d3 b4 d4 b5 d5)=>(Tr.nV (x.ks.size + x.cz.size) x.k x.nm x.g x.az x.ws x.ks x.bs x.cz x.k x.nm x.g x.az x.ws x.ks x.bs x.cz a1 c1 a2 c2 a3 c3 a4 c4 a5 c5 b1 d1 b2 d2 b3 d3 b4 d4 b5 d5 w' (by omega) hh hg);rw [Ih] at hS;have hE:∀ (w':World) a1 c1 a2 c2 a3 c3 a4 c4 a5 c5,Holds w' x.nm x.az x.ws x.ks x.bs x.cz a1 c1 a2 c2 a3 c3 a4 c4 a5 c5→t.toList.isEmpty = decide (x.ks.len = 0):=fun _ _ _ _ _ _ _ _ _ _ _ hh=>by rw [ht];exact Od (Ky hp hh) hh.xU
  have HE:=kq hE;have HP:=kq hP;have HT:=kq hT;have HBK:=kq Vb;have VD:=kq hP2;have HS:=kq hS;clear hP hT Vb hP2 hS hm hp hr Va ht hE;unfold aJ at HS;go_enter Tryz.func5,Tryz.ntmps5;go_wp2_with fail;refine HAL.out.mono ?_;rintro e w1 ⟨rfl,aP⟩;have iR:=kq aP;clear aP;go_wp2_with fail;refine (HP.out _ iR.out).mono ?_;rintro e w2 ⟨d9,a1,c1,a2,c2,a3,c3,a4,c4,a5,c5,rfl,hh⟩;have hv:(Iu x a1 c1 a2 c2 a3 c3 a4 c4 a5 c5).toArray = #[.int .i64 x.k,.string x.nm,.bool x.g,.slice a1 x.az.length c1,.slice a2 x.ws.length c2,.slice a3 x.ks.len c3,.slice a4 x.bs.length c4,.slice a5 x.cz.len c5]:=rfl;rw [hv];obtain ⟨q',hq⟩:=HBK.out _ _ _ _ _ _ _ _ _ _ _ hh;have hP3:=VD.out;rw [hq] at hP3;have HP3:=kq hP3;have kR:=kq (ak iR.out d9);have HH:=kq hh;clear d9 hh hv hP3 hq;go_wp2_with fail;refine (HT.out _ (ak kR.out (ax _ _)) _ _ _ _ _ _ _ _ _ _ (HH.out.below (ax _ _))).mono ?_;rintro e w3 ⟨rfl,hb3⟩;have au:w3.heap[w2.heap.size]? = some (.cells #[.int .i64 x.k,.string x.nm,.bool x.g,.slice a1 x.az.length c1,.slice a2 x.ws.length c2,.slice a3 x.ks.len c3,.slice a4 x.bs.length c4,.slice a5 x.cz.len c5] 28 (0,0)):=(hb3.block _ (by simp)).trans (heap_alloc_new _ _);have HH3:=kq (HH.out.below (ak (ax _ _) hb3));have UN:=kq (ak kR.out (ak (ax _ _) hb3));have aY:=kq au;clear hb3 au;go_wp2_with fail;refine (HP3.out _ UN.out).mono ?_;rintro e w4 ⟨Tz,b1,d1,b2,d2,b3,d3,b4,d4,b5,d5,rfl,hg⟩;have hv:(Iu x b1 d1 b2 d2 b3 d3 b4 d4 b5 d5).toArray = #[.int .i64 x.k,.string x.nm,.bool x.g,.slice b1 x.az.length d1,.slice b2 x.ws.length d2,.slice b3 x.ks.len d3,.slice b4 x.bs.length d4,.slice b5 x.cz.len d5]:=rfl;rw [hv];have Ub:=ak Tz (ax w4 (.cells #[.int .i64 x.k,.string x.nm,.bool x.g,.slice b1 x.az.length d1,.slice b2 x.ws.length d2,.slice b3 x.ks.len d3,.slice b4 x.bs.length d4,.slice b5 x.cz.len d5] 28));have au:=(Ub.block _ (zv aY.out).1).trans aY.out;have kP:=heap_alloc_new w4 (.cells #[.int .i64 x.k,.string x.nm,.bool x.g,.slice b1 x.az.length d1,.slice b2 x.ws.length d2,.slice b3 x.ks.len d3,.slice b4 x.bs.length d4,.slice b5 x.cz.len d5] 28);have HH4:=kq (HH3.out.below Ub);have HG4:=kq (hg.below (ax w4 (.cells #[.int .i64 x.k,.string x.nm,.bool x.g,.slice b1 x.az.length d1,.slice b2 x.ws.length d2,.slice b3 x.ks.len d3,.slice b4 x.bs.length d4,.slice b5 x.cz.len d5] 28)));have HB4:=kq (ak UN.out Ub);have q0:=kz au 0;have q1:=kz au 1;have q2:=kz au 2;have q3:=kz au 3;have q4:=kz au 4;have q5:=kz au 5;have q6:=kz au 6;have q7:=kz au 7;have r0:=kz kP 0;have r1:=kz kP 1;have r2:=kz kP 2;have r3:=kz kP 3;have r4:=kz kP 4;have r5:=kz kP 5;have r6:=kz kP 6;have r7:=kz kP 7;have Vd:=kq au;have Ve:=kq kP;clear Tz Ub au kP hg hv;go_wp2_with fail;refine (HS.out _ _ _ _ _ _ _ _ _ _ _ _ _ _ _ _ _ _ _ _ _ HH4.out HG4.out).mono ?_;rintro e w5 ⟨rfl,hb5⟩;have au:=(hb5.block _ (zv Vd.out).1).trans Vd.out;have kP:=(hb5.block _ (zv Ve.out).1).trans Ve.out;have HB5:=kq (ak HB4.out hb5);have HG5:=kq (HG4.out.below hb5);clear q0 q1 q2 q3 q4 q5 q6 q7 r0 r1 r2 r3 r4 r5 r6 r7 hb5;have r0:=kz kP 0;have r1:=kz kP 1;have r2:=kz kP 2;have r3:=kz kP 3;have r4:=kz kP 4;have r5:=kz kP 5;have r6:=kz kP 6;have r7:=kz kP 7;have Vf:=kq au;clear au kP;go_wp2_with fail;refine (HT.out _ HB5.out _ _ _ _ _ _ _ _ _ _ HG5.out).mono ?_;rintro e w6 ⟨rfl,hb6⟩;have au:=(hb6.block _ (zv Vf.out).1).trans Vf.out;have q5:=kz au 5;have HB6:=kq (ak HB5.out hb6);have hE:=HE.out _ _ _ _ _ _ _ _ _ _ _ HH.out;clear r0 r1 r2 r3 r4 r5 r6 r7 hb6 au
  by_cases h0:x.ks.len = 0
  ·rw [decide_eq_true h0] at hE;have h1:((x.ks.len:Int) == 0) = true:=by simp [h0]
   go_wp2_with fail;go_ret;exact ⟨rfl,HB6.out⟩
  ·rw [decide_eq_false h0] at hE;have h1:((x.ks.len:Int) == 0) = false:=by simp;omega
   go_wp2_with fail;go_ret;exact ⟨rfl,HB6.out⟩
end Pw
end Go.Proofs.YtckakkeejekibaaGreatDoor
namespace Go.Proofs.YtckakkeejekibaaGreatDoor
open Go.RowKit Go.WideShapes Go.ChangeShapes Go.ChangeAt
open Go.ChangeMaps (open_string shut_string)
namespace Rc
theorem own:ownKnob Tryz.prog.godebug = none:=by kernel_rfl
theorem laidOut:laidOutB Tryz.prog = true:=by kernel_rfl
theorem lifted (os:Os) (started:os.Started) (H:Type) (enc:TypeId × Value→H) :
  ReturnsInHanded {} Tryz.checked os 5 .any (fun w args=>(Rows.printReadsSpec.pre enc Tryz.prog Tryz.f5 [] false w args∧laidMetH Tryz.prog Rows.printReadsRow.laid w)∧sizedMet enc Tryz.prog Tryz.f5 (OpenSpec.ofChange Rows.printReadsSpec) false w args)
   (Rows.printReadsSpec.post enc Tryz.prog Tryz.f5 false true false false):=by
 refine WI.Bi (C:=Tryz.checked) (X:=fun w _=>laidMetH Tryz.prog Rows.printReadsRow.laid w) own started (by kernel_rfl) Tryz.func5
  (ChangeSpec.witness_shaped (enc:=enc) (C:=Tryz.checked) (os:=os) (X:=fun w _=>laidMetH Tryz.prog Rows.printReadsRow.laid w) false (World.laidAll Tryz.prog os Rows.printReadsRow.laid) #[.string ⟨#[]⟩] 8 (World.laidAll_os _ _ _)
   (World.shaped_of_ZipB (by kernel_rfl) (by kernel_rfl)) (by kernel_rfl) (by kernel_rfl) (by kernel_rfl)
   (by rw [MakeChecks.laidMetH_plain _ _ _ (by kernel_rfl)];exact laidMet_laidAll _ (by kernel_rfl) (by kernel_rfl))) ?_
 intro W base args ds gs before ZQ hW hz LQ;obtain ⟨m,hm⟩:=WI.Fe LQ;have RL:∀ (j:Nat) t v,Tryz.f5.params[j]? = some t→args[j]? = some v→Value.okWide Tryz.prog W .any base t v:=ZQ;have ZX:=hW;obtain ⟨p,q,hA0,hV,rfl,hfz,hnd⟩:=hW;have hA:DataW.TrodAll enc Tryz.prog W 0 (fun _=>true) true Tryz.f5.params.toList args.toList ds p:=hA0;rw [Tryz.params5] at hA RL hz;obtain ⟨v0,vs0,d0,ds0,p0,q0,hargs,rfl,rfl,h0,r0⟩:=trodAll_cons hA;obtain ⟨rfl,rfl,rfl⟩:=trodAll_nil r0;obtain rfl:args = #[v0]:=by cases args;simp_all
 obtain ⟨rfl,rfl⟩:=trodVars_none hV;obtain ⟨s0,rfl,rfl,rfl,Yt⟩:=open_string Tryz.underlying9 (RL 0 9 v0 rfl rfl) h0;refine (Pw.Og s0 (Nat.le_trans Yt (by decide)) m W hm).mono fun e W' ⟨he,hb⟩=>?_;subst he;exact ⟨_,rfl,WI.post (tb:=4) laidOut (by kernel_rfl) (by kernel_rfl) Tryz.underlying4 rfl ZX rfl hb⟩
theorem bare:Rows.PrintReadsSaid :=
 OpenClaim.holds_of_wide 5 Tryz.f5 rfl rfl rfl rfl rfl rfl rfl ⟨rfl,rfl,rfl,rfl,rfl⟩ rfl rfl rfl rfl rfl (by kernel_rfl) Tryz.func5 (by kernel_rfl)
  (of_decide_eq_true (by kernel_rfl)) (by unfold Func.isWrapper;first | (rw [if_pos (by decide +kernel)];kernel_rfl) | (rw [if_neg (by decide +kernel)];exact ⟨rfl,rfl⟩))
  (fun os started H enc _=>lifted os started H enc)
theorem plain (f:FuncId) (fn:Func) (hf:Tryz.pinned.checked.prog.funcNamed Rows.printReadsRow.func = some f) (OA:Tryz.pinned.checked.prog.funcs[f]? = some fn) :
  true = Tryz.pinned.checked.prog.looks []∧∀ (j:Nat) t,fn.params[j]? = some t→Tryz.pinned.checked.prog.wantsStandIn t = false:=by
 obtain rfl:f = 5:=Option.some.inj ((show Tryz.prog.funcNamed Rows.printReadsRow.func = some 5 by kernel_rfl).symm.trans hf) |>.symm;obtain rfl:fn = Tryz.f5:=(Option.some.inj (Tryz.func5.symm.trans OA)).symm;refine ⟨by kernel_rfl,fun j t ht=>?_⟩;have hm:t ∈ Tryz.f5.params.toList:=by simpa using Array.mem_of_getElem? ht
 have iF:(Tryz.f5.params.toList.all fun u=>!Tryz.prog.wantsStandIn u) = true:=by kernel_rfl
 exact (show Tryz.prog.wantsStandIn t = false by simpa using List.all_eq_true.1 iF t hm)
theorem card:Rows.PrintReadsCardSaid :=
 Claim7.holds_tied_plain_at .later [] _ _ _ _ bare (fun _ h=>by cases h) (by kernel_rfl) (fun _ h=>by cases h) printReads_row_tie rfl ⟨rfl,rfl⟩ (by kernel_rfl) rfl plain (by kernel_rfl)
end Rc
end Go.Proofs.YtckakkeejekibaaGreatDoor
