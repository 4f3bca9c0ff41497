/- (*lex.reader).double. -/
import Derived.Test.YtckakkeejekibaaGreatDoorLxJ
set_option maxHeartbeats 4000000
set_option maxRecDepth 100000
namespace Go.Proofs.YtckakkeejekibaaGreatDoor
open Go.RowKit Go.Sort
namespace Lx
open j6 Pt
def Dn (n:Nat) (s:ByteArray) (d i:Nat):Out :=
 match markedF n s 34 d A0 (i + 1) with
 | .bad j e=>.bad j e
 | .ok m j=>if s.size≤j then .bad i 1 else .ok (nz m) (j + 1)
def vJ (s:ByteArray) (m:Nat):Prop:=∀ (d i rb:Nat) (w:World),fV w rb s i→i < s.size→s.size - i < m + 1→d≤200 →
 Calls Tryz.prog 144 #[.pointer (some ⟨rb,0,none⟩),.int .i64 d] w (Mk rb s w (Dn m s d i))
theorem O6 (w:World) (N:Nat) (hN:N≤w.heap.size):cu (fun b=>N≤b) (w.alloc (.cells #[.int .i64 1,.bool true,.string ⟨#[]⟩,.string ⟨#[]⟩,.slice none 0 0] 75)) (some ⟨w.heap.size,0,none⟩) 1 (A.lit true []):=by
 intro w2 hs hk;have h:=(hk w.heap.size hN (by simp)).trans (heap_alloc_new w (.cells #[.int .i64 1,.bool true,.string ⟨#[]⟩,.string ⟨#[]⟩,.slice none 0 0] 75));have hc:∀ j v,#[Value.int .i64 1,.bool true,.string ⟨#[]⟩,.string ⟨#[]⟩,.slice none 0 0][j]? = some v→w2.cell? ⟨w.heap.size,j,none⟩ = some v:=fun j v hv=>(kz h j).trans hv;exact ⟨Nat.le_refl _,(show 1≤R by decide),.inr ⟨w.heap.size,0,rfl,⟨hc 0 _ rfl,hc 1 _ rfl,hc 2 _ rfl,hc 3 _ rfl,(by decide),(by decide)⟩,⟨none,0,hc 4 _ rfl,Nat.le_refl _,Nat.zero_le _,.inl rfl⟩,trivial⟩⟩
theorem FV (s:ByteArray) (hs:s.size≤1000000) (n:Nat) (IHM:si s n):vJ s n:=by
 intro d i rb w hR hi hf hd;have jG:=hR.lt;have c1:=hR.c1;have f1:=hR.f1;have h1:=hR.set (i + 1);have he1:((i + 1:Nat):Int) = (i:Int) + 1:=by omega
 rw [he1] at h1;have hM:=IHM 34 d (i + 1) rb _ (by rw [he1.symm] at h1;exact h1) (by omega) (by omega) hd;rw [he1] at hM;have qU:fI rb w.heap.size (fun _=>False) w (w.setCell ⟨rb,1,none⟩ (.int .i64 ((i:Int) + 1))):=(fI.refl _ _ _ _).set (fun h=>h) _ _;have bU:(w.setCell ⟨rb,1,none⟩ (.int .i64 ((i:Int) + 1))).heap.size = w.heap.size:=by simp
 unfold Dn;have hk:∀ w1,fI rb (w.setCell ⟨rb,1,none⟩ (.int .i64 ((i:Int) + 1))).heap.size (fun _=>False) (w.setCell ⟨rb,1,none⟩ (.int .i64 ((i:Int) + 1))) w1→fI rb w.heap.size (fun _=>False) w w1:=fun w1 h=>qU.trans (by rw [bU] at h;exact h);cases hm:markedF n s 34 d A0 (i + 1) with
 | bad j err =>
  rw [hm] at hM;have HM:=kq hM;have HK:=kq hk;clear hM hm h1 hR qU hk bU;go_enter Tryz.func144,Tryz.ntmps144;go_wp2_with fail;refine (HM.out).mono ?_;rintro e w1 ⟨rfl,⟨j',hr⟩,bi⟩;have HX:=kq (And.intro hr bi);clear hr bi;go_wp2_with fail;exact ⟨rfl,rfl,⟨j',HX.out.1⟩,HK.out _ HX.out.2⟩
 | ok m j =>
  obtain ⟨e1,e2,e3⟩:=(jr s n).1 _ _ _ _ _ _ hm (by omega);rw [hm] at hM;have HM:=kq hM;have HK:=kq hk;have mZ:=kq bU;clear hM hm h1 hR qU hk bU;simp only []
  by_cases hj:s.size≤j
  ·rw [if_pos hj];have ET:((j:Int) == (s.size:Int)) = true:=by simp;omega
   go_enter Tryz.func144,Tryz.ntmps144;go_wp2_with fail;refine (HM.out).mono ?_;rintro e w1 ⟨⟨a',gK,rfl,hl⟩,hr,bi⟩;have hE:=lV rb j s w1 hr;rw [ET] at hE;have HX:=kq (And.intro hr bi);have HE:=kq hE;clear hr bi hl hE;go_wp2_with fail;refine (HE.out).mono ?_;rintro e w2 ⟨rfl,n2,rfl⟩;go_wp2_with fail;refine (cZ _ _).mono ?_;rintro e w3 ⟨rfl,rfl⟩;go_wp2_with fail;exact ⟨rfl,rfl,⟨j,HX.out.1⟩,(HK.out _ HX.out.2).trans (fI.drewN _ _ _ _ _)⟩
  ·rw [if_neg hj];have ET:((j:Int) == (s.size:Int)) = false:=by simp;omega
   cases m with
   | nil =>
    go_enter Tryz.func144,Tryz.ntmps144;go_wp2_with fail;refine (HM.out).mono ?_;rintro e w1 ⟨⟨a',gK,rfl,hl⟩,hr,bi⟩;have hE:=lV rb j s w1 hr;rw [ET] at hE;have d1:=hr.c1;have d2:=hr.f1;have hw:w.heap.size≤w1.heap.size:=(HK.out _ bi).size;have Z9:w.heap.size≤(w1.setCell ⟨rb,1,none⟩ (.int .i64 ((j:Int) + 1))).heap.size:=by simp;exact hw
    have XX:fV (w1.setCell ⟨rb,1,none⟩ (.int .i64 ((j:Int) + 1))) rb s (j + 1):=by
     have:=hr.set (j + 1);rwa [show ((j + 1:Nat):Int) = (j:Int) + 1 by omega] at this
    have XY:fI rb w.heap.size (fun _=>False) w (w1.setCell ⟨rb,1,none⟩ (.int .i64 ((j:Int) + 1))):=(HK.out _ bi).set (fun h=>h) _ _;have HX:=kq (And.intro XX (And.intro XY Z9));have HE:=kq hE;have hlen:(PL.nil).len = 0:=rfl;clear hr bi hl hE XX XY hw Z9;rw [hlen];go_wp2_with fail;refine (HE.out).mono ?_;rintro e w2 ⟨rfl,n2,rfl⟩;go_wp2_with fail;go_ret;have Mr:=O6 (w1.setCell ⟨rb,1,none⟩ (.int .i64 ((j:Int) + 1))) w.heap.size HX.out.2.2;rw [show (w1.setCell ⟨rb,1,none⟩ (.int .i64 ((j:Int) + 1))).heap.size = w1.heap.size by simp] at Mr;refine ⟨⟨_,_,rfl,Mr.keep (Nat.le_refl _) (fun _ _ _=>rfl)⟩,?_,?_⟩
    ·exact (Below.heap_alloc _ _ _ HX.out.1.lt).trans HX.out.1
    ·exact (HX.out.2.1.trans (fI.drewN _ _ _ _ n2)).trans (fI.oJ ((Fr.refl _ _ _).alloc _))
   | cons k q t o f r =>
    have hlen:(PL.cons k q t o f r).len = r.len + 1:=rfl;have ZZ:(((r.len + 1:Nat):Int) == 0) = false:=by simp;omega
    have mU:((r.len:Int) + 1 == 0) = false:=by simp;omega
    go_enter Tryz.func144,Tryz.ntmps144;go_wp2_with fail;refine (HM.out).mono ?_;rintro e w1 ⟨⟨a',gK,rfl,hl⟩,hr,bi⟩;have hE:=lV rb j s w1 hr;rw [ET] at hE;have d1:=hr.c1;have d2:=hr.f1;have XX:fV (w1.setCell ⟨rb,1,none⟩ (.int .i64 ((j:Int) + 1))) rb s (j + 1):=by
     have:=hr.set (j + 1);rwa [show ((j + 1:Nat):Int) = (j:Int) + 1 by omega] at this
    have XY:fI rb w.heap.size (fun _=>False) w (w1.setCell ⟨rb,1,none⟩ (.int .i64 ((j:Int) + 1))):=(HK.out _ bi).set (fun h=>h) _ _;rw [mZ.out] at hl;have hlj:cu (fun b=>w.heap.size≤b) (w1.setCell ⟨rb,1,none⟩ (.int .i64 ((j:Int) + 1))) a' gK (.cons k q t o f r):=hl.keep (by simp) fun b hb _=>Below.heap_setCell _ _ _ _ (by show b ≠ rb;omega);have HX:=kq (And.intro XX (And.intro XY hlj));have HE:=kq hE;clear hr bi hl hE XX XY hlj;rw [hlen];go_wp2_with fail;refine (HE.out).mono ?_;rintro e w2 ⟨rfl,n2,rfl⟩;go_wp2_with fail;go_ret;exact ⟨⟨_,_,rfl,HX.out.2.2.keep (Nat.le_refl _) (fun _ _ _=>rfl)⟩,HX.out.1,HX.out.2.1.trans (fI.drewN _ _ _ _ n2)⟩
theorem A.FW:∀ (m:PL) (a:A),(a.join m).tot≤a.tot + Lx.tot m
 | .nil,a=>by rw [A.join_nil];simp [Lx.tot]
 | .cons k q t o f r,a=>by
  rw [A.join_cons];have:=A.FW r (a.step k q t o f);have:=a.FL k q t o f;simp only [Lx.tot];omega
theorem Ms (s:ByteArray) (hs:s.size≤1000000) (n:Nat) (XW:∀ m,m < n→vI s m) (IHD:∀ m,m < n→vJ s m):zt s n:=by
 intro d i0 rb w Jb Z8 BZ hd;have jG:=Jb.lt;have HW0:=kq (Way.start Jb Z8);have HP:=kq XW;have HD:=kq IHD;clear XW IHD Jb;go_enter Tryz.func125,Tryz.ntmps125;go_wp2
 go_loopw [6] (fun c wr=>∃ (k i:Nat) (S:Nat→Prop) (a:A),bareF n s d A0 i0 = bareF k s d a i∧s.size - i < k∧k≤n∧Way w rb s S a i wr) (fun c wr=>s.size - (intOf ((wr.cell? ⟨rb,1,none⟩).getD undef)).toNat)
 case atStart=>exact ⟨n,i0,_,A0,rfl,BZ,Nat.le_refl _,HW0.out⟩
 case round =>
  obtain ⟨k,i,S,a,hq,hk,ZY,qi⟩:=hrel;obtain ⟨k',rfl⟩:∃ k',k = k' + 1:=⟨k - 1,by omega⟩;have hE:=lV rb i s wr qi.r;have c0:=qi.r.c0;have c1:=qi.r.c1;have hm:(intOf ((wr.cell? ⟨rb,1,none⟩).getD undef)).toNat = i:=by rw [qi.r.c1];simp [intOf]
  by_cases aB:i < s.size
  ·have he:((i:Int) == (s.size:Int)) = false:=by simp;omega
   rw [he] at hE;have hb:bG s i = s[i]:=(uq aB).symm;have O3:¬ s.size≤i:=by omega
   have a0:(0:Int)≤(i:Int):=by omega
   have a1:(i:Int) < (s.size:Int):=by omega
   have HE:=kq hE;have HQ:=kq hq;have iV:=kq qi;have HB:=kq hb;have FU:=kq O3;have HM:=kq hm;clear hE hq qi he hb O3 hm;cases Bu:((s[i].toNat:Int) == 39)
   case true =>
    by_cases h0:0≤Lib.indexByte (ag s (i + 1)) 39
    ·obtain ⟨x,hx⟩:∃ x:Nat,Lib.indexByte (ag s (i + 1)) 39 = x:=⟨(Lib.indexByte (ag s (i + 1)) 39).toNat,by omega⟩;have Vx:x < (ag s (i + 1)).length:=(List.getElem?_eq_some_iff.1 (Lib.indexByte_some hx).1).1;rw [aQ] at Vx;have aM:bareF (k' + 1) s d a i = bareF k' s d (a.text ((ag s (i + 1)).take x) true) (i + x + 2):=by rw [bareF,if_neg FU.out,HB.out,if_pos Bu,if_pos h0,hx,Int.toNat_natCast]
     have jb:=kq (HQ.out.trans aM);have hP:=fun m=>Mh rb i w.heap.size x s S w.heap.size a (wr.drewN m) iV.out.r aB hs jG (iV.out.nS jG) (iV.out.acc.heap rfl) (by have:=iV.out.tot;omega) iV.out.lt hx;have uB:=kq hP;clear aM hP h0 hx;go_wp2_with fail;refine (HE.out).mono ?_;rintro e w2 ⟨rfl,n2,rfl⟩;go_wp2_with fail
     go_quiet (fail)
     go_wp2_with fail;refine (uB.out _).mono ?_;rintro e w3 ⟨⟨rfl,mE,fH⟩,bi⟩;have jY:=A.kS a ((ag s (i + 1)).take x) true;rw [List.length_take,aQ] at jY;have Ca:fI rb w.heap.size S wr w3:=⟨bi.os,bi.tape,bi.output,bi.size,fun b hb ho=>bi.block b hb ho⟩;have mF:=iV.out.go mE (by omega) fH (fun x hx=>kd (iV.out.lt x hx) bi.size) iV.out.ge Ca (by have:=iV.out.tot;omega);have HX:=kq mF;clear fH bi mE Ca mF jY;go_wp2_with fail;go_roundw
     case rel=>exact ⟨k',_,S,_,jb.out,by omega,by omega,HX.out⟩
     case measure=>rw [HM.out,HX.out.r.c1];simp only [Option.getD,intOf,Int.toNat_natCast];omega
    ·have WP:=Lib.indexByte_ge (ag s (i + 1)) 39;have hx:Lib.indexByte (ag s (i + 1)) 39 = -1:=by omega
     have aM:bareF (k' + 1) s d a i = .bad i 1:=by rw [bareF,if_neg FU.out,HB.out,if_pos Bu,if_neg h0]
     have jb:=kq (HQ.out.trans aM);have uB:=kq (fun m=>I8 rb i s w.heap.size (wr.drewN m) iV.out.r aB hs hx);clear aM h0 WP hx;go_wp2_with fail;refine (HE.out).mono ?_;rintro e w2 ⟨rfl,n2,rfl⟩;go_wp2_with fail
     go_quiet (fail)
     go_wp2_with fail;refine (uB.out _).mono ?_;rintro e w3 ⟨rfl,rfl⟩;go_wp2_with fail;refine ⟨rfl,?_⟩;rw [jb.out];exact ⟨rfl,⟨i,iV.out.r⟩,iV.out.fr.trans (fI.drewN _ _ _ _ _)⟩
   cases pq:((s[i].toNat:Int) == 34)
   case true =>
    have hP:=fun m=>HD.out k' (by omega) d i rb (wr.drewN m) iV.out.r aB (by omega) hd;unfold Dn at hP;have aM:bareF (k' + 1) s d a i = match markedF k' s 34 d A0 (i + 1) with | .bad j e=>.bad j e | .ok m j=>if s.size≤j then .bad i 1 else bareF k' s d (a.join (nz m)) (j + 1):=by rw [bareF,if_neg FU.out,HB.out,if_neg (by rw [Bu];decide),if_pos pq];rfl
    have hq:=HQ.out.trans aM;cases Ui:markedF k' s 34 d A0 (i + 1) with
    | bad j err =>
     rw [Ui] at hq hP;have jb:=kq hq;have qN:=kq hP;clear aM hP hq Ui;go_wp2_with fail;refine (HE.out).mono ?_;rintro e w2 ⟨rfl,n2,rfl⟩;go_wp2_with fail
     go_quiet (fail)
     go_wp2_with fail;refine (qN.out _).mono ?_;rintro e w3 ⟨rfl,⟨j',mE⟩,bi⟩;have HX:=kq (And.intro mE bi);clear mE bi;go_wp2_with fail;refine ⟨rfl,?_⟩;rw [jb.out];exact ⟨rfl,⟨j',HX.out.1⟩,iV.out.fr.trans ⟨HX.out.2.os,HX.out.2.tape,HX.out.2.output,HX.out.2.size,fun b hb ho=>HX.out.2.block b hb (ho.imp (fun h=>⟨hb,h.2⟩) id)⟩⟩
    | ok m j =>
     obtain ⟨e1,e2,e3⟩:=(jr s k').1 _ _ _ _ _ _ Ui (by omega);rw [Ui] at hq hP;simp only [] at hq hP
     by_cases hj:s.size≤j
     ·rw [if_pos hj] at hq hP;have jb:=kq hq;have qN:=kq hP;clear aM hP hq Ui;go_wp2_with fail;refine (HE.out).mono ?_;rintro e w2 ⟨rfl,n2,rfl⟩;go_wp2_with fail
      go_quiet (fail)
      go_wp2_with fail;refine (qN.out _).mono ?_;rintro e w3 ⟨rfl,⟨j',mE⟩,bi⟩;have HX:=kq (And.intro mE bi);clear mE bi;go_wp2_with fail;refine ⟨rfl,?_⟩;rw [jb.out];exact ⟨rfl,⟨j',HX.out.1⟩,iV.out.fr.trans ⟨HX.out.2.os,HX.out.2.tape,HX.out.2.output,HX.out.2.size,fun b hb ho=>HX.out.2.block b hb (ho.imp (fun h=>⟨hb,h.2⟩) id)⟩⟩
     ·rw [if_neg hj] at hq hP;have jb:=kq hq;have qN:=kq hP;clear aM hP hq Ui;have hnz:=Vu m;have htA:A0.tot = 0:=rfl;have HNZ:=kq hnz;have HTA:=kq htA;clear hnz htA;go_wp2_with fail;refine (HE.out).mono ?_;rintro e w2 ⟨rfl,n2,rfl⟩;go_wp2_with fail
      go_quiet (fail)
      go_wp2_with fail;refine (qN.out _).mono ?_;rintro e w3 ⟨⟨a2,yn,rfl,hl⟩,mE,bi⟩;have h3:=iV.out.far jG mE (by omega) ⟨bi.os,bi.tape,bi.output,bi.size,fun b hb ho=>bi.block b hb ho⟩ (by omega);have Ut:=OY w.heap.size _ w.heap.size a (nz m) a2 yn w3 h3.acc (by have:=iV.out.tot;have:=HNZ.out;have:=HTA.out;omega) h3.lt h3.ge (hl.mono fun b hb aB=>.inr ⟨hb,aB⟩);have HJ:=kq Ut;have H3:=kq h3;clear Ut h3 hl mE bi;go_wp2_with fail;refine (HJ.out).mono ?_;rintro e w4 ⟨rfl,⟨S4,g1,g2,g3,fH⟩,bi⟩;have xQ:=H3.out.go (H3.out.r.fr bi jG) (by omega) fH g2 g3 (fI.oJ bi) (by have:=A.FW (nz m) a;have:=iV.out.tot;have:=HNZ.out;have:=HTA.out;omega);have HX:=kq xQ;clear xQ g1 g2 g3 fH bi;go_wp2_with fail;go_roundw
      case rel=>exact ⟨k',j + 1,S4,_,jb.out,by omega,by omega,HX.out⟩
      case measure=>rw [HM.out,HX.out.r.c1];simp only [Option.getD,intOf,Int.toNat_natCast];omega
   cases oV:((s[i].toNat:Int) == 92)
   case true =>
    by_cases h0:s.size≤i + 1
    ·have aM:bareF (k' + 1) s d a i = .bad i 1:=by rw [bareF,if_neg FU.out,HB.out,if_neg (by rw [Bu];decide),if_neg (by rw [pq];decide),if_pos oV,if_pos h0]
     have jb:=kq (HQ.out.trans aM);have uB:=kq (fun m=>I9 rb i s w.heap.size (wr.drewN m) iV.out.r (by omega) hs);clear aM;go_wp2_with fail;refine (HE.out).mono ?_;rintro e w2 ⟨rfl,n2,rfl⟩;go_wp2_with fail
     go_quiet (fail)
     go_wp2_with fail;refine (uB.out _).mono ?_;rintro e w3 ⟨rfl,n3,rfl⟩;go_wp2_with fail;refine ⟨rfl,?_⟩;rw [jb.out];exact ⟨rfl,⟨i,iV.out.r⟩,iV.out.fr.trans (fI.drewN _ _ _ _ _)⟩
    ·have aM:bareF (k' + 1) s d a i = bareF k' s d (yt a (bG s (i + 1))) (i + 2):=by rw [bareF,if_neg FU.out,HB.out,if_neg (by rw [Bu];decide),if_neg (by rw [pq];decide),if_pos oV,if_neg h0]
     have jb:=kq (HQ.out.trans aM);have uB:=kq (fun m=>Mi rb i w.heap.size s S w.heap.size a (wr.drewN m) iV.out.r (by omega) hs jG (iV.out.nS jG) (iV.out.acc.heap rfl) (by have:=iV.out.tot;omega) iV.out.lt);clear aM;go_wp2_with fail;refine (HE.out).mono ?_;rintro e w2 ⟨rfl,n2,rfl⟩;go_wp2_with fail
     go_quiet (fail)
     go_wp2_with fail;refine (uB.out _).mono ?_;rintro e w3 ⟨⟨rfl,mE,fH⟩,bi⟩;have jY:=R8 a (bG s (i + 1));have Ca:fI rb w.heap.size S wr w3:=⟨bi.os,bi.tape,bi.output,bi.size,fun b hb ho=>bi.block b hb ho⟩;have mF:=iV.out.go mE (by omega) fH (fun x hx=>kd (iV.out.lt x hx) bi.size) iV.out.ge Ca (by have:=iV.out.tot;unfold bG at jY;omega);have HX:=kq mF;clear fH bi mE Ca mF jY;go_wp2_with fail;go_roundw
     case rel=>exact ⟨k',_,S,_,jb.out,by omega,by omega,HX.out⟩
     case measure=>rw [HM.out,HX.out.r.c1];simp only [Option.getD,intOf,Int.toNat_natCast];omega
   cases xP:((s[i].toNat:Int) == 96)
   case true =>
    have aM:bareF (k' + 1) s d a i = .bad i 1:=by rw [bareF,if_neg FU.out,HB.out,if_neg (by rw [Bu];decide),if_neg (by rw [pq];decide),if_neg (by rw [oV];decide),if_pos xP]
    have jb:=kq (HQ.out.trans aM);clear aM;go_wp2_with fail;refine (HE.out).mono ?_;rintro e w2 ⟨rfl,n2,rfl⟩;go_wp2_with fail
    go_quiet (fail)
    go_wp2_with fail;refine (cZ _ _).mono ?_;rintro e w3 ⟨rfl,rfl⟩;go_wp2_with fail;refine ⟨rfl,?_⟩;rw [jb.out];exact ⟨rfl,⟨i,iV.out.r⟩,iV.out.fr.trans (fI.drewN _ _ _ _ _)⟩
   cases tT:((s[i].toNat:Int) == 36)
   case true =>
    have aM:bareF (k' + 1) s d a i = match paramF k' s false (d + 1) i with | .bad j e=>.bad j e | .ok p j=>bareF k' s d (a.add p) j:=by rw [bareF,if_neg FU.out,HB.out,if_neg (by rw [Bu];decide),if_neg (by rw [pq];decide),if_neg (by rw [oV];decide),if_neg (by rw [xP];decide),if_pos tT];rfl
    have hP:=fun m=>HP.out k' (by omega) false (d + 1) i rb (wr.drewN m) iV.out.r aB (by omega) (by omega);rw [show ((d + 1:Nat):Int) = (d:Int) + 1 by omega] at hP;have hq:=HQ.out.trans aM;cases Mo:paramF k' s false (d + 1) i with
    | bad j err =>
     rw [Mo] at hq hP;have jb:=kq hq;have qN:=kq hP;clear aM hP hq Mo;go_wp2_with fail;refine (HE.out).mono ?_;rintro e w2 ⟨rfl,n2,rfl⟩;go_wp2_with fail
     go_quiet (fail)
     go_wp2_with fail;refine (qN.out _).mono ?_;rintro e w3 ⟨rfl,⟨j',mE⟩,bi⟩;have HX:=kq (And.intro mE bi);clear mE bi;go_wp2_with fail;refine ⟨rfl,?_⟩;rw [jb.out];exact ⟨rfl,⟨j',HX.out.1⟩,iV.out.fr.trans ⟨HX.out.2.os,HX.out.2.tape,HX.out.2.output,HX.out.2.size,fun b hb ho=>HX.out.2.block b hb (ho.imp (fun h=>⟨hb,h.2⟩) id)⟩⟩
    | ok p j =>
     obtain ⟨e1,e2,t0,o0,f0,hp0,e3,e4,e5⟩:=(jr s k').2.2 _ _ _ _ _ Mo aB;rw [Mo] at hq hP;have jb:=kq hq;have qN:=kq hP;have HPP:=kq hp0;clear aM hP hq Mo hp0;go_wp2_with fail;refine (HE.out).mono ?_;rintro e w2 ⟨rfl,n2,rfl⟩;go_wp2_with fail
     go_quiet (fail)
     go_wp2_with fail;refine (qN.out _).mono ?_;rintro e w3 ⟨⟨t,op,f,a2,yn,Mq,rfl,ht,Us,hl⟩,mE,bi⟩;have uC:t = t0:=by have:=Mq.symm.trans HPP.out;unfold one at this;cases this;rfl
     have O5:=iV.out.add jG hs mE e2 ⟨bi.os,bi.tape,bi.output,bi.size,fun b hb ho=>bi.block b hb ho⟩ e1 (by rw [uC];exact e3) ht Us hl (q:=false);have Vw:=kq O5;have Ru:=kq Mq;clear O5 hl mE bi Mq uC;go_wp2_with fail;refine (Vw.out).mono ?_;rintro e w4 ⟨rfl,S4,xQ⟩;have HX:=kq xQ;clear xQ;go_wp2_with fail;go_roundw
     case rel=>exact ⟨k',j,S4,_,by rw [jb.out,Ru.out],by omega,by omega,HX.out⟩
     case measure=>rw [HM.out,HX.out.r.c1];simp only [Option.getD,intOf,Int.toNat_natCast];omega
   by_cases Dp:d = 0
   ·have hdz:((d:Int) == 0) = true:=by simp [Dp]
    have hdp:decide (0 < (d:Int)) = false:=by simp [Dp]
    have hdq:((d:Int) > 0) = False:=by simp [Dp]
    have hbr:=fun w=>vw s[i].toNat w;cases Bq:nO s[i].toNat
    all_goals
     rw [Bq] at hbr;have HBR:=kq hbr;clear hbr
    ·have aM:bareF (k' + 1) s d a i = .ok a.flush i:=by rw [bareF,if_neg FU.out,HB.out,if_neg (by rw [Bu];decide),if_neg (by rw [pq];decide),if_neg (by rw [oV];decide),if_neg (by rw [xP];decide),if_neg (by rw [tT];decide),if_pos (by simp [ng,Dp,Bq])]
     have bq:=kq Dp;have Vy:=kq Bq;clear Dp Bq;have jH:=kq (fun m=>iV.out.all hs jG m);have jb:=kq (HQ.out.trans aM);clear aM;go_wp2_with fail;refine (HE.out).mono ?_;rintro e w2 ⟨rfl,n2,rfl⟩;go_wp2_with fail
     go_quiet (fail)
     go_wp2_with fail;refine (HBR.out _).mono ?_;rintro e w5 ⟨rfl,rfl⟩;go_wp2_with fail;refine (jH.out _).mono ?_;rintro e w3 ⟨⟨a',gK,rfl,hl⟩,hr,hf⟩;have HX:=kq (And.intro hl (And.intro hr hf));clear hl hr hf;go_wp2_with fail;go_ret;rw [jb.out];exact ⟨⟨a',gK,rfl,HX.out.1⟩,HX.out.2.1,HX.out.2.2⟩
    ·have aM:bareF (k' + 1) s d a i = bareF k' s d (a.text [s[i]] false) (i + 1):=by rw [bareF,if_neg FU.out,HB.out,if_neg (by rw [Bu];decide),if_neg (by rw [pq];decide),if_neg (by rw [oV];decide),if_neg (by rw [xP];decide),if_neg (by rw [tT];decide),if_neg (by simp [ng,Dp,Bq])]
     have bq:=kq Dp;have Vy:=kq Bq;clear Dp Bq;have jb:=kq (HQ.out.trans aM);have hP:=fun m=>qg w.heap.size S w.heap.size a s[i] false (wr.drewN m) (iV.out.acc.heap rfl) (by have:=a.sizes;have:=iV.out.tot;omega) (by have:=a.sizes;have:=iV.out.tot;omega) iV.out.lt;have uB:=kq hP;clear aM hP;go_wp2_with fail;refine (HE.out).mono ?_;rintro e w2 ⟨rfl,n2,rfl⟩;go_wp2_with fail
     go_quiet (fail)
     go_wp2_with fail;refine (HBR.out _).mono ?_;rintro e w5 ⟨rfl,rfl⟩;go_wp2_with fail;refine (uB.out _).mono ?_;rintro e w3 ⟨rfl,fH,bi⟩;have mE:fV w3 rb s i:=fV.fr (w:=wr.drewN _) iV.out.r bi jG;have d1:=mE.c1;have e1:=mE.f1;have jY:=A.kS a [s[i]] false;simp only [zz,zZ] at jY;have Ca:fI rb w.heap.size S wr w3:=⟨bi.os,bi.tape,bi.output,bi.size,fun b hb ho=>bi.block b hb (ho.imp (·.1) id)⟩;have mF:Way w rb s S (a.text [s[i]] false) (i + 1) (w3.setCell ⟨rb,1,none⟩ (.int .i64 ((i:Int) + 1))):=by
      have he:((i:Int) + 1) = ((i + 1:Nat):Int):=by omega
      rw [he];exact iV.out.go (mE.set (i + 1)) (by omega) (fH.wT jG (iV.out.nS jG) _ _) (fun x hx=>by have:=iV.out.lt x hx;have:=bi.size;simp at this ⊢;omega) iV.out.ge (Ca.set (iV.out.nS jG) _ _) (by have:=iV.out.tot;omega)
     have HX:=kq mF;clear fH bi mE Ca mF jY;go_wp2_with fail;go_roundw
     case rel=>exact ⟨k',i + 1,S,_,jb.out,by omega,by omega,HX.out⟩
     case measure=>rw [HM.out,HX.out.r.c1];simp [intOf];omega
   ·have hdz:((d:Int) == 0) = false:=by simp;omega
    have hdp:decide (0 < (d:Int)) = true:=by simp;omega
    have hdq:((d:Int) > 0) = True:=by simp;omega
    have Mt:0 < d:=by omega
    cases hcc:((s[i].toNat:Int) == 125)
    ·have aM:bareF (k' + 1) s d a i = bareF k' s d (a.text [s[i]] false) (i + 1):=by rw [bareF,if_neg FU.out,HB.out,if_neg (by rw [Bu];decide),if_neg (by rw [pq];decide),if_neg (by rw [oV];decide),if_neg (by rw [xP];decide),if_neg (by rw [tT];decide),if_neg (by simp only [ng,hdz,hcc];simp)]
     have bq:=kq Dp;clear Dp;have jb:=kq (HQ.out.trans aM);have hP:=fun m=>qg w.heap.size S w.heap.size a s[i] false (wr.drewN m) (iV.out.acc.heap rfl) (by have:=a.sizes;have:=iV.out.tot;omega) (by have:=a.sizes;have:=iV.out.tot;omega) iV.out.lt;have uB:=kq hP;clear aM hP;go_wp2_with fail;refine (HE.out).mono ?_;rintro e w2 ⟨rfl,n2,rfl⟩;go_wp2_with fail
     go_quiet (fail)
     go_wp2_with fail;refine (uB.out _).mono ?_;rintro e w3 ⟨rfl,fH,bi⟩;have mE:fV w3 rb s i:=fV.fr (w:=wr.drewN _) iV.out.r bi jG;have d1:=mE.c1;have e1:=mE.f1;have jY:=A.kS a [s[i]] false;simp only [zz,zZ] at jY;have Ca:fI rb w.heap.size S wr w3:=⟨bi.os,bi.tape,bi.output,bi.size,fun b hb ho=>bi.block b hb (ho.imp (·.1) id)⟩;have mF:Way w rb s S (a.text [s[i]] false) (i + 1) (w3.setCell ⟨rb,1,none⟩ (.int .i64 ((i:Int) + 1))):=by
      have he:((i:Int) + 1) = ((i + 1:Nat):Int):=by omega
      rw [he];exact iV.out.go (mE.set (i + 1)) (by omega) (fH.wT jG (iV.out.nS jG) _ _) (fun x hx=>by have:=iV.out.lt x hx;have:=bi.size;simp at this ⊢;omega) iV.out.ge (Ca.set (iV.out.nS jG) _ _) (by have:=iV.out.tot;omega)
     have HX:=kq mF;clear fH bi mE Ca mF jY;go_wp2_with fail;go_roundw
     case rel=>exact ⟨k',i + 1,S,_,jb.out,by omega,by omega,HX.out⟩
     case measure=>rw [HM.out,HX.out.r.c1];simp [intOf];omega
    ·have aM:bareF (k' + 1) s d a i = .ok a.flush i:=by rw [bareF,if_neg FU.out,HB.out,if_neg (by rw [Bu];decide),if_neg (by rw [pq];decide),if_neg (by rw [oV];decide),if_neg (by rw [xP];decide),if_neg (by rw [tT];decide),if_pos (by simp only [ng,hcc];simp [Mt])]
     have bq:=kq Dp;clear Dp;have jH:=kq (fun m=>iV.out.all hs jG m);have jb:=kq (HQ.out.trans aM);clear aM;go_wp2_with fail;refine (HE.out).mono ?_;rintro e w2 ⟨rfl,n2,rfl⟩;go_wp2_with fail
     go_quiet (fail)
     go_wp2_with fail;refine (jH.out _).mono ?_;rintro e w3 ⟨⟨a',gK,rfl,hl⟩,hr,hf⟩;have HX:=kq (And.intro hl (And.intro hr hf));clear hl hr hf;go_wp2_with fail;go_ret;rw [jb.out];exact ⟨⟨a',gK,rfl,HX.out.1⟩,HX.out.2.1,HX.out.2.2⟩
  ·have he:((i:Int) == (s.size:Int)) = true:=by have:=qi.le;simp;omega
   rw [he] at hE;have aM:bareF (k' + 1) s d a i = .ok a.flush i:=by rw [bareF,if_pos (by omega)]
   have jH:=kq (fun m=>qi.all hs jG m);have jb:=kq (hq.trans aM);have HE:=kq hE;clear aM hq hE qi hm he;go_wp2_with fail;refine (HE.out).mono ?_;rintro e w2 ⟨rfl,n2,rfl⟩;go_wp2_with fail;refine (jH.out _).mono ?_;rintro e w3 ⟨⟨a',gK,rfl,hl⟩,hr,hf⟩;have HX:=kq (And.intro hl (And.intro hr hf));clear hl hr hf;go_wp2_with fail;go_ret;rw [jb.out];exact ⟨⟨a',gK,rfl,HX.out.1⟩,HX.out.2.1,HX.out.2.2⟩
end Lx
end Go.Proofs.YtckakkeejekibaaGreatDoor
