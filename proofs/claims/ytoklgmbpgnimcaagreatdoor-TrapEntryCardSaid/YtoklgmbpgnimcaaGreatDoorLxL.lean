/- (*lex.reader).double. -/
/- (*lex.reader).bare, given what stands in double marks, and what a parameter is read as. -/
import Derived.Test.YtoklgmbpgnimcaaGreatDoorLxJ
namespace Go.Proofs.YtoklgmbpgnimcaaGreatDoor
open Go.RowKit Go.Sort
namespace Lx
open Cls Pt
def doubleF (n:Nat) (s:ByteArray) (d i:Nat):Out :=
 match markedF n s 34 d A0 (i + 1) with
 | .bad j e=>.bad j e
 | .ok m j=>if s.size≤j then .bad i 1 else .ok (nz m) (j + 1)
def DoubleAt (s:ByteArray) (m:Nat):Prop:=∀ (d i rb:Nat) (w:World),RAt w rb s i→i < s.size→s.size - i < m + 1→d≤200 →
 Calls Tryz.prog 83 #[.pointer (some ⟨rb,0,none⟩),.int .i64 d] w (GotL rb s w (doubleF m s d i))
theorem lit_lies (w:World) (N:Nat) (hN:N≤w.heap.size):LiesS (fun b=>N≤b) (w.alloc (.cells #[.int .i64 1,.bool true,.string ⟨#[]⟩,.string ⟨#[]⟩,.slice none 0 0] 125)) (some ⟨w.heap.size,0,none⟩) 1 (A.lit true []):=by
 intro w2 hs hk
 have h:=(hk w.heap.size hN (by simp)).trans (heap_alloc_new w (.cells #[.int .i64 1,.bool true,.string ⟨#[]⟩,.string ⟨#[]⟩,.slice none 0 0] 125))
 have hc:∀ j v,#[Value.int .i64 1,.bool true,.string ⟨#[]⟩,.string ⟨#[]⟩,.slice none 0 0][j]? = some v→w2.cell? ⟨w.heap.size,j,none⟩ = some v:=fun j v hv=>(Lib.cell_of_heap h j).trans hv
 exact ⟨Nat.le_refl _,(show 1≤R by decide),.inr ⟨w.heap.size,0,rfl,⟨hc 0 _ rfl,hc 1 _ rfl,hc 2 _ rfl,hc 3 _ rfl,(by decide),(by decide)⟩,⟨none,0,hc 4 _ rfl,Nat.le_refl _,Nat.zero_le _,.inl rfl⟩,trivial⟩⟩
set_option maxHeartbeats 1600000 in
set_option maxRecDepth 100000 in
theorem double_step (s:ByteArray) (hs:s.size≤1000000) (n:Nat) (IHM:MarkedAt s n):DoubleAt s n:=by
 intro d i rb w hR hi hf hd
 have hrb:=hR.lt
 have c1:=hR.c1
 have f1:=hR.f1
 have h1:=hR.set (i + 1)
 have he1:((i + 1:Nat):Int) = (i:Int) + 1:=by omega
 rw [he1] at h1
 have hM:=IHM 34 d (i + 1) rb _ (by rw [he1.symm] at h1;exact h1) (by omega) (by omega) hd
 rw [he1] at hM
 have hfw:FrR rb w.heap.size (fun _=>False) w (w.setCell ⟨rb,1,none⟩ (.int .i64 ((i:Int) + 1))):=(FrR.refl _ _ _ _).set (fun h=>h) _ _
 have hsz:(w.setCell ⟨rb,1,none⟩ (.int .i64 ((i:Int) + 1))).heap.size = w.heap.size:=by simp
 unfold doubleF
 have hk:∀ w1,FrR rb (w.setCell ⟨rb,1,none⟩ (.int .i64 ((i:Int) + 1))).heap.size (fun _=>False) (w.setCell ⟨rb,1,none⟩ (.int .i64 ((i:Int) + 1))) w1→FrR rb w.heap.size (fun _=>False) w w1:=fun w1 h=>hfw.trans (by rw [hsz] at h;exact h)
 cases hm:markedF n s 34 d A0 (i + 1) with
 | bad j err =>
  rw [hm] at hM
  have HM:=Lib.hid hM;have HK:=Lib.hid hk
  clear hM hm h1 hR hfw hk hsz
  go_enter Tryz.func83,Tryz.ntmps83
  go_wp2_with fail
  refine (HM.out).mono ?_
  rintro e w1 ⟨rfl,⟨j',hr⟩,hfr⟩
  have HX:=Lib.hid (And.intro hr hfr)
  clear hr hfr
  go_wp2_with fail
  exact ⟨rfl,rfl,⟨j',HX.out.1⟩,HK.out _ HX.out.2⟩
 | ok m j =>
  obtain ⟨e1,e2,e3⟩:=(ends_all s n).1 _ _ _ _ _ _ hm (by omega)
  rw [hm] at hM
  have HM:=Lib.hid hM;have HK:=Lib.hid hk;have HSZ:=Lib.hid hsz
  clear hM hm h1 hR hfw hk hsz
  simp only []
  by_cases hj:s.size≤j
  ·rw [if_pos hj]
   have hjs:((j:Int) == (s.size:Int)) = true:=by simp;omega
   go_enter Tryz.func83,Tryz.ntmps83
   go_wp2_with fail
   refine (HM.out).mono ?_
   rintro e w1 ⟨⟨a',cap',rfl,hl⟩,hr,hfr⟩
   have hE:=ended_any rb j s w1 hr
   rw [hjs] at hE
   have HX:=Lib.hid (And.intro hr hfr);have HE:=Lib.hid hE
   clear hr hfr hl hE
   go_wp2_with fail
   refine (HE.out).mono ?_
   rintro e w2 ⟨rfl,n2,rfl⟩
   go_wp2_with fail
   refine (wrong_any _ _).mono ?_
   rintro e w3 ⟨rfl,rfl⟩
   go_wp2_with fail
   exact ⟨rfl,rfl,⟨j,HX.out.1⟩,(HK.out _ HX.out.2).trans (FrR.drewN _ _ _ _ _)⟩
  ·rw [if_neg hj]
   have hjs:((j:Int) == (s.size:Int)) = false:=by simp;omega
   cases m with
   | nil =>
    go_enter Tryz.func83,Tryz.ntmps83
    go_wp2_with fail
    refine (HM.out).mono ?_
    rintro e w1 ⟨⟨a',cap',rfl,hl⟩,hr,hfr⟩
    have hE:=ended_any rb j s w1 hr
    rw [hjs] at hE
    have d1:=hr.c1
    have d2:=hr.f1
    have hw:w.heap.size≤w1.heap.size:=(HK.out _ hfr).size
    have hw2:w.heap.size≤(w1.setCell ⟨rb,1,none⟩ (.int .i64 ((j:Int) + 1))).heap.size:=by simp;exact hw
    have hrj:RAt (w1.setCell ⟨rb,1,none⟩ (.int .i64 ((j:Int) + 1))) rb s (j + 1):=by
     have:=hr.set (j + 1)
     rwa [show ((j + 1:Nat):Int) = (j:Int) + 1 by omega] at this
    have hfj:FrR rb w.heap.size (fun _=>False) w (w1.setCell ⟨rb,1,none⟩ (.int .i64 ((j:Int) + 1))):=(HK.out _ hfr).set (fun h=>h) _ _
    have HX:=Lib.hid (And.intro hrj (And.intro hfj hw2));have HE:=Lib.hid hE
    have hlen:(PL.nil).len = 0:=rfl
    clear hr hfr hl hE hrj hfj hw hw2
    rw [hlen]
    go_wp2_with fail
    refine (HE.out).mono ?_
    rintro e w2 ⟨rfl,n2,rfl⟩
    go_wp2_with fail
    go_ret
    have hll:=lit_lies (w1.setCell ⟨rb,1,none⟩ (.int .i64 ((j:Int) + 1))) w.heap.size HX.out.2.2
    rw [show (w1.setCell ⟨rb,1,none⟩ (.int .i64 ((j:Int) + 1))).heap.size = w1.heap.size by simp] at hll
    refine ⟨⟨_,_,rfl,hll.keep (Nat.le_refl _) (fun _ _ _=>rfl)⟩,?_,?_⟩
    ·exact (Below.heap_alloc _ _ _ HX.out.1.lt).trans HX.out.1
    ·exact (HX.out.2.1.trans (FrR.drewN _ _ _ _ n2)).trans (FrR.of_fr ((Fr.refl _ _ _).alloc _))
   | cons k q t o f r =>
    have hlen:(PL.cons k q t o f r).len = r.len + 1:=rfl
    have hl0:(((r.len + 1:Nat):Int) == 0) = false:=by simp;omega
    have hl1:((r.len:Int) + 1 == 0) = false:=by simp;omega
    go_enter Tryz.func83,Tryz.ntmps83
    go_wp2_with fail
    refine (HM.out).mono ?_
    rintro e w1 ⟨⟨a',cap',rfl,hl⟩,hr,hfr⟩
    have hE:=ended_any rb j s w1 hr
    rw [hjs] at hE
    have d1:=hr.c1
    have d2:=hr.f1
    have hrj:RAt (w1.setCell ⟨rb,1,none⟩ (.int .i64 ((j:Int) + 1))) rb s (j + 1):=by
     have:=hr.set (j + 1)
     rwa [show ((j + 1:Nat):Int) = (j:Int) + 1 by omega] at this
    have hfj:FrR rb w.heap.size (fun _=>False) w (w1.setCell ⟨rb,1,none⟩ (.int .i64 ((j:Int) + 1))):=(HK.out _ hfr).set (fun h=>h) _ _
    rw [HSZ.out] at hl
    have hlj:LiesS (fun b=>w.heap.size≤b) (w1.setCell ⟨rb,1,none⟩ (.int .i64 ((j:Int) + 1))) a' cap' (.cons k q t o f r):=hl.keep (by simp) fun b hb _=>Below.heap_setCell _ _ _ _ (by show b ≠ rb;omega)
    have HX:=Lib.hid (And.intro hrj (And.intro hfj hlj));have HE:=Lib.hid hE
    clear hr hfr hl hE hrj hfj hlj
    rw [hlen]
    go_wp2_with fail
    refine (HE.out).mono ?_
    rintro e w2 ⟨rfl,n2,rfl⟩
    go_wp2_with fail
    go_ret
    exact ⟨⟨_,_,rfl,HX.out.2.2.keep (Nat.le_refl _) (fun _ _ _=>rfl)⟩,HX.out.1,HX.out.2.1.trans (FrR.drewN _ _ _ _ n2)⟩
theorem A.join_tot:∀ (m:PL) (a:A),(a.join m).tot≤a.tot + Lx.tot m
 | .nil,a=>by rw [A.join_nil];simp [Lx.tot]
 | .cons k q t o f r,a=>by
  rw [A.join_cons]
  have:=A.join_tot r (a.step k q t o f)
  have:=a.step_tot k q t o f
  simp only [Lx.tot]
  omega
end Lx
end Go.Proofs.YtoklgmbpgnimcaaGreatDoor
namespace Go.Proofs.YtoklgmbpgnimcaaGreatDoor
open Go.RowKit Go.Sort
namespace Lx
open Cls Pt
set_option maxHeartbeats 4000000 in
set_option maxRecDepth 100000 in
theorem bare_step (s:ByteArray) (hs:s.size≤1000000) (n:Nat) (IHP:∀ m,m < n→ParamAt s m) (IHD:∀ m,m < n→DoubleAt s m):BareAt s n:=by
 intro d i0 rb w hR0 hi0 hf0 hd
 have hrb:=hR0.lt
 have HW0:=Lib.hid (Way.start hR0 hi0);have HP:=Lib.hid IHP;have HD:=Lib.hid IHD
 clear IHP IHD hR0
 go_enter Tryz.func70,Tryz.ntmps70
 go_wp2
 go_loopw [6] (fun c wr=>∃ (k i:Nat) (S:Nat→Prop) (a:A),bareF n s d A0 i0 = bareF k s d a i∧s.size - i < k∧k≤n∧Way w rb s S a i wr) (fun c wr=>s.size - (intOf ((wr.cell? ⟨rb,1,none⟩).getD undef)).toNat)
 case atStart=>exact ⟨n,i0,_,A0,rfl,hf0,Nat.le_refl _,HW0.out⟩
 case round =>
  obtain ⟨k,i,S,a,hq,hk,hkn,hway⟩:=hrel
  obtain ⟨k',rfl⟩:∃ k',k = k' + 1:=⟨k - 1,by omega⟩
  have hE:=ended_any rb i s wr hway.r
  have c0:=hway.r.c0
  have c1:=hway.r.c1
  have hm:(intOf ((wr.cell? ⟨rb,1,none⟩).getD undef)).toNat = i:=by rw [hway.r.c1];simp [intOf]
  by_cases hlt:i < s.size
  ·have he:((i:Int) == (s.size:Int)) = false:=by simp;omega
   rw [he] at hE
   have hb:byteAt s i = s[i]:=(getB hlt).symm
   have hnlt:¬ s.size≤i:=by omega
   have a0:(0:Int)≤(i:Int):=by omega
   have a1:(i:Int) < (s.size:Int):=by omega
   have HE:=Lib.hid hE;have HQ:=Lib.hid hq;have HWY:=Lib.hid hway;have HB:=Lib.hid hb;have HNL:=Lib.hid hnlt;have HM:=Lib.hid hm
   clear hE hq hway he hb hnlt hm
   cases h39:((s[i].toNat:Int) == 39)
   case true =>
    by_cases h0:0≤Lib.indexByte (restAt s (i + 1)) 39
    ·obtain ⟨x,hx⟩:∃ x:Nat,Lib.indexByte (restAt s (i + 1)) 39 = x:=⟨(Lib.indexByte (restAt s (i + 1)) 39).toNat,by omega⟩
     have hxl:x < (restAt s (i + 1)).length:=(List.getElem?_eq_some_iff.1 (Lib.indexByte_some hx).1).1
     rw [restAt_len] at hxl
     have hst:bareF (k' + 1) s d a i = bareF k' s d (a.text ((restAt s (i + 1)).take x) true) (i + x + 2):=by rw [bareF,if_neg HNL.out,HB.out,if_pos h39,if_pos h0,hx,Int.toNat_natCast]
     have HST:=Lib.hid (HQ.out.trans hst)
     have hP:=fun m=>single_ok rb i w.heap.size x s S w.heap.size a (wr.drewN m) HWY.out.r hlt hs hrb (HWY.out.nS hrb) (HWY.out.acc.heap rfl) (by have:=HWY.out.tot;omega) HWY.out.lt hx
     have HPUT:=Lib.hid hP
     clear hst hP h0 hx
     go_wp2_with fail
     refine (HE.out).mono ?_
     rintro e w2 ⟨rfl,n2,rfl⟩
     go_wp2_with fail
     go_quiet (fail)
     go_wp2_with fail
     refine (HPUT.out _).mono ?_
     rintro e w3 ⟨⟨rfl,hr3,hacc⟩,hfr⟩
     have htx:=A.text_tot a ((restAt s (i + 1)).take x) true
     rw [List.length_take,restAt_len] at htx
     have hf3:FrR rb w.heap.size S wr w3:=⟨hfr.os,hfr.tape,hfr.output,hfr.size,fun b hb ho=>hfr.block b hb ho⟩
     have hway3:=HWY.out.go hr3 (by omega) hacc (fun x hx=>Nat.lt_of_lt_of_le (HWY.out.lt x hx) hfr.size) HWY.out.ge hf3 (by have:=HWY.out.tot;omega)
     have HX:=Lib.hid hway3
     clear hacc hfr hr3 hf3 hway3 htx
     go_wp2_with fail
     go_roundw
     case rel=>exact ⟨k',_,S,_,HST.out,by omega,by omega,HX.out⟩
     case measure=>rw [HM.out,HX.out.r.c1];simp only [Option.getD,intOf,Int.toNat_natCast];omega
    ·have hge:=Lib.indexByte_ge (restAt s (i + 1)) 39
     have hx:Lib.indexByte (restAt s (i + 1)) 39 = -1:=by omega
     have hst:bareF (k' + 1) s d a i = .bad i 1:=by rw [bareF,if_neg HNL.out,HB.out,if_pos h39,if_neg h0]
     have HST:=Lib.hid (HQ.out.trans hst)
     have HPUT:=Lib.hid (fun m=>single_bad rb i s w.heap.size (wr.drewN m) HWY.out.r hlt hs hx)
     clear hst h0 hge hx
     go_wp2_with fail
     refine (HE.out).mono ?_
     rintro e w2 ⟨rfl,n2,rfl⟩
     go_wp2_with fail
     go_quiet (fail)
     go_wp2_with fail
     refine (HPUT.out _).mono ?_
     rintro e w3 ⟨rfl,rfl⟩
     go_wp2_with fail
     refine ⟨rfl,?_⟩
     rw [HST.out]
     exact ⟨rfl,⟨i,HWY.out.r⟩,HWY.out.fr.trans (FrR.drewN _ _ _ _ _)⟩
   cases h34:((s[i].toNat:Int) == 34)
   case true =>
    have hP:=fun m=>HD.out k' (by omega) d i rb (wr.drewN m) HWY.out.r hlt (by omega) hd
    unfold doubleF at hP
    have hst:bareF (k' + 1) s d a i = match markedF k' s 34 d A0 (i + 1) with | .bad j e=>.bad j e | .ok m j=>if s.size≤j then .bad i 1 else bareF k' s d (a.join (nz m)) (j + 1):=by rw [bareF,if_neg HNL.out,HB.out,if_neg (by rw [h39];decide),if_pos h34];rfl
    have hq:=HQ.out.trans hst
    cases hmm:markedF k' s 34 d A0 (i + 1) with
    | bad j err =>
     rw [hmm] at hq hP
     have HST:=Lib.hid hq;have HPAR:=Lib.hid hP
     clear hst hP hq hmm
     go_wp2_with fail
     refine (HE.out).mono ?_
     rintro e w2 ⟨rfl,n2,rfl⟩
     go_wp2_with fail
     go_quiet (fail)
     go_wp2_with fail
     refine (HPAR.out _).mono ?_
     rintro e w3 ⟨rfl,⟨j',hr3⟩,hfr⟩
     have HX:=Lib.hid (And.intro hr3 hfr)
     clear hr3 hfr
     go_wp2_with fail
     refine ⟨rfl,?_⟩
     rw [HST.out]
     exact ⟨rfl,⟨j',HX.out.1⟩,HWY.out.fr.trans ⟨HX.out.2.os,HX.out.2.tape,HX.out.2.output,HX.out.2.size,fun b hb ho=>HX.out.2.block b hb (ho.imp (fun h=>⟨hb,h.2⟩) id)⟩⟩
    | ok m j =>
     obtain ⟨e1,e2,e3⟩:=(ends_all s k').1 _ _ _ _ _ _ hmm (by omega)
     rw [hmm] at hq hP
     simp only [] at hq hP
     by_cases hj:s.size≤j
     ·rw [if_pos hj] at hq hP
      have HST:=Lib.hid hq;have HPAR:=Lib.hid hP
      clear hst hP hq hmm
      go_wp2_with fail
      refine (HE.out).mono ?_
      rintro e w2 ⟨rfl,n2,rfl⟩
      go_wp2_with fail
      go_quiet (fail)
      go_wp2_with fail
      refine (HPAR.out _).mono ?_
      rintro e w3 ⟨rfl,⟨j',hr3⟩,hfr⟩
      have HX:=Lib.hid (And.intro hr3 hfr)
      clear hr3 hfr
      go_wp2_with fail
      refine ⟨rfl,?_⟩
      rw [HST.out]
      exact ⟨rfl,⟨j',HX.out.1⟩,HWY.out.fr.trans ⟨HX.out.2.os,HX.out.2.tape,HX.out.2.output,HX.out.2.size,fun b hb ho=>HX.out.2.block b hb (ho.imp (fun h=>⟨hb,h.2⟩) id)⟩⟩
     ·rw [if_neg hj] at hq hP
      have HST:=Lib.hid hq;have HPAR:=Lib.hid hP
      clear hst hP hq hmm
      have hnz:=nz_tot m
      have htA:A0.tot = 0:=rfl
      have HNZ:=Lib.hid hnz;have HTA:=Lib.hid htA
      clear hnz htA
      go_wp2_with fail
      refine (HE.out).mono ?_
      rintro e w2 ⟨rfl,n2,rfl⟩
      go_wp2_with fail
      go_quiet (fail)
      go_wp2_with fail
      refine (HPAR.out _).mono ?_
      rintro e w3 ⟨⟨a2,cap2,rfl,hl⟩,hr3,hfr⟩
      have h3:=HWY.out.far hrb hr3 (by omega) ⟨hfr.os,hfr.tape,hfr.output,hfr.size,fun b hb ho=>hfr.block b hb ho⟩ (by omega)
      have hjoin:=join_any w.heap.size _ w.heap.size a (nz m) a2 cap2 w3 h3.acc (by have:=HWY.out.tot;have:=HNZ.out;have:=HTA.out;omega) h3.lt h3.ge (hl.mono fun b hb hlt=>.inr ⟨hb,hlt⟩)
      have HJ:=Lib.hid hjoin;have H3:=Lib.hid h3
      clear hjoin h3 hl hr3 hfr
      go_wp2_with fail
      refine (HJ.out).mono ?_
      rintro e w4 ⟨rfl,⟨S4,g1,g2,g3,hacc⟩,hfr⟩
      have hway4:=H3.out.go (H3.out.r.fr hfr hrb) (by omega) hacc g2 g3 (FrR.of_fr hfr) (by have:=A.join_tot (nz m) a;have:=HWY.out.tot;have:=HNZ.out;have:=HTA.out;omega)
      have HX:=Lib.hid hway4
      clear hway4 g1 g2 g3 hacc hfr
      go_wp2_with fail
      go_roundw
      case rel=>exact ⟨k',j + 1,S4,_,HST.out,by omega,by omega,HX.out⟩
      case measure=>rw [HM.out,HX.out.r.c1];simp only [Option.getD,intOf,Int.toNat_natCast];omega
   cases h92:((s[i].toNat:Int) == 92)
   case true =>
    by_cases h0:s.size≤i + 1
    ·have hst:bareF (k' + 1) s d a i = .bad i 1:=by rw [bareF,if_neg HNL.out,HB.out,if_neg (by rw [h39];decide),if_neg (by rw [h34];decide),if_pos h92,if_pos h0]
     have HST:=Lib.hid (HQ.out.trans hst)
     have HPUT:=Lib.hid (fun m=>escape_bad rb i s w.heap.size (wr.drewN m) HWY.out.r (by omega) hs)
     clear hst
     go_wp2_with fail
     refine (HE.out).mono ?_
     rintro e w2 ⟨rfl,n2,rfl⟩
     go_wp2_with fail
     go_quiet (fail)
     go_wp2_with fail
     refine (HPUT.out _).mono ?_
     rintro e w3 ⟨rfl,n3,rfl⟩
     go_wp2_with fail
     refine ⟨rfl,?_⟩
     rw [HST.out]
     exact ⟨rfl,⟨i,HWY.out.r⟩,HWY.out.fr.trans (FrR.drewN _ _ _ _ _)⟩
    ·have hst:bareF (k' + 1) s d a i = bareF k' s d (escA a (byteAt s (i + 1))) (i + 2):=by rw [bareF,if_neg HNL.out,HB.out,if_neg (by rw [h39];decide),if_neg (by rw [h34];decide),if_pos h92,if_neg h0]
     have HST:=Lib.hid (HQ.out.trans hst)
     have HPUT:=Lib.hid (fun m=>escape_ok rb i w.heap.size s S w.heap.size a (wr.drewN m) HWY.out.r (by omega) hs hrb (HWY.out.nS hrb) (HWY.out.acc.heap rfl) (by have:=HWY.out.tot;omega) HWY.out.lt)
     clear hst
     go_wp2_with fail
     refine (HE.out).mono ?_
     rintro e w2 ⟨rfl,n2,rfl⟩
     go_wp2_with fail
     go_quiet (fail)
     go_wp2_with fail
     refine (HPUT.out _).mono ?_
     rintro e w3 ⟨⟨rfl,hr3,hacc⟩,hfr⟩
     have htx:=esc_tot a (byteAt s (i + 1))
     have hf3:FrR rb w.heap.size S wr w3:=⟨hfr.os,hfr.tape,hfr.output,hfr.size,fun b hb ho=>hfr.block b hb ho⟩
     have hway3:=HWY.out.go hr3 (by omega) hacc (fun x hx=>Nat.lt_of_lt_of_le (HWY.out.lt x hx) hfr.size) HWY.out.ge hf3 (by have:=HWY.out.tot;unfold byteAt at htx;omega)
     have HX:=Lib.hid hway3
     clear hacc hfr hr3 hf3 hway3 htx
     go_wp2_with fail
     go_roundw
     case rel=>exact ⟨k',_,S,_,HST.out,by omega,by omega,HX.out⟩
     case measure=>rw [HM.out,HX.out.r.c1];simp only [Option.getD,intOf,Int.toNat_natCast];omega
   cases h96:((s[i].toNat:Int) == 96)
   case true =>
    have hst:bareF (k' + 1) s d a i = .bad i 1:=by rw [bareF,if_neg HNL.out,HB.out,if_neg (by rw [h39];decide),if_neg (by rw [h34];decide),if_neg (by rw [h92];decide),if_pos h96]
    have HST:=Lib.hid (HQ.out.trans hst)
    clear hst
    go_wp2_with fail
    refine (HE.out).mono ?_
    rintro e w2 ⟨rfl,n2,rfl⟩
    go_wp2_with fail
    go_quiet (fail)
    go_wp2_with fail
    refine (wrong_any _ _).mono ?_
    rintro e w3 ⟨rfl,rfl⟩
    go_wp2_with fail
    refine ⟨rfl,?_⟩
    rw [HST.out]
    exact ⟨rfl,⟨i,HWY.out.r⟩,HWY.out.fr.trans (FrR.drewN _ _ _ _ _)⟩
   cases h36:((s[i].toNat:Int) == 36)
   case true =>
    have hst:bareF (k' + 1) s d a i = match paramF k' s false (d + 1) i with | .bad j e=>.bad j e | .ok p j=>bareF k' s d (a.add p) j:=by rw [bareF,if_neg HNL.out,HB.out,if_neg (by rw [h39];decide),if_neg (by rw [h34];decide),if_neg (by rw [h92];decide),if_neg (by rw [h96];decide),if_pos h36];rfl
    have hP:=fun m=>HP.out k' (by omega) false (d + 1) i rb (wr.drewN m) HWY.out.r hlt (by omega) (by omega)
    rw [show ((d + 1:Nat):Int) = (d:Int) + 1 by omega] at hP
    have hq:=HQ.out.trans hst
    cases hpp:paramF k' s false (d + 1) i with
    | bad j err =>
     rw [hpp] at hq hP
     have HST:=Lib.hid hq;have HPAR:=Lib.hid hP
     clear hst hP hq hpp
     go_wp2_with fail
     refine (HE.out).mono ?_
     rintro e w2 ⟨rfl,n2,rfl⟩
     go_wp2_with fail
     go_quiet (fail)
     go_wp2_with fail
     refine (HPAR.out _).mono ?_
     rintro e w3 ⟨rfl,⟨j',hr3⟩,hfr⟩
     have HX:=Lib.hid (And.intro hr3 hfr)
     clear hr3 hfr
     go_wp2_with fail
     refine ⟨rfl,?_⟩
     rw [HST.out]
     exact ⟨rfl,⟨j',HX.out.1⟩,HWY.out.fr.trans ⟨HX.out.2.os,HX.out.2.tape,HX.out.2.output,HX.out.2.size,fun b hb ho=>HX.out.2.block b hb (ho.imp (fun h=>⟨hb,h.2⟩) id)⟩⟩
    | ok p j =>
     obtain ⟨e1,e2,t0,o0,f0,hp0,e3,e4,e5⟩:=(ends_all s k').2.2 _ _ _ _ _ hpp hlt
     rw [hpp] at hq hP
     have HST:=Lib.hid hq;have HPAR:=Lib.hid hP;have HPP:=Lib.hid hp0
     clear hst hP hq hpp hp0
     go_wp2_with fail
     refine (HE.out).mono ?_
     rintro e w2 ⟨rfl,n2,rfl⟩
     go_wp2_with fail
     go_quiet (fail)
     go_wp2_with fail
     refine (HPAR.out _).mono ?_
     rintro e w3 ⟨⟨t,op,f,a2,cap2,hpe,rfl,ht,hop,hl⟩,hr3,hfr⟩
     have ht0:t = t0:=by have:=hpe.symm.trans HPP.out;unfold one at this;cases this;rfl
     have hadd:=HWY.out.add hrb hs hr3 e2 ⟨hfr.os,hfr.tape,hfr.output,hfr.size,fun b hb ho=>hfr.block b hb ho⟩ e1 (by rw [ht0];exact e3) ht hop hl (q:=false)
     have HADD:=Lib.hid hadd;have HPE:=Lib.hid hpe
     clear hadd hl hr3 hfr hpe ht0
     go_wp2_with fail
     refine (HADD.out).mono ?_
     rintro e w4 ⟨rfl,S4,hway4⟩
     have HX:=Lib.hid hway4
     clear hway4
     go_wp2_with fail
     go_roundw
     case rel=>exact ⟨k',j,S4,_,by rw [HST.out,HPE.out],by omega,by omega,HX.out⟩
     case measure=>rw [HM.out,HX.out.r.c1];simp only [Option.getD,intOf,Int.toNat_natCast];omega
   by_cases hd0:d = 0
   ·have hdz:((d:Int) == 0) = true:=by simp [hd0]
    have hdp:decide (0 < (d:Int)) = false:=by simp [hd0]
    have hdq:((d:Int) > 0) = False:=by simp [hd0]
    have hbr:=fun w=>bare_any s[i].toNat w
    cases hbb:bareB s[i].toNat
    all_goals
     rw [hbb] at hbr
     have HBR:=Lib.hid hbr
     clear hbr
    ·have hst:bareF (k' + 1) s d a i = .ok a.flush i:=by rw [bareF,if_neg HNL.out,HB.out,if_neg (by rw [h39];decide),if_neg (by rw [h34];decide),if_neg (by rw [h92];decide),if_neg (by rw [h96];decide),if_neg (by rw [h36];decide),if_pos (by simp [stopB,hd0,hbb])]
     have HD0:=Lib.hid hd0;have HBB:=Lib.hid hbb
     clear hd0 hbb
     have HALL:=Lib.hid (fun m=>HWY.out.all hs hrb m)
     have HST:=Lib.hid (HQ.out.trans hst)
     clear hst
     go_wp2_with fail
     refine (HE.out).mono ?_
     rintro e w2 ⟨rfl,n2,rfl⟩
     go_wp2_with fail
     go_quiet (fail)
     go_wp2_with fail
     refine (HBR.out _).mono ?_
     rintro e w5 ⟨rfl,rfl⟩
     go_wp2_with fail
     refine (HALL.out _).mono ?_
     rintro e w3 ⟨⟨a',cap',rfl,hl⟩,hr,hf⟩
     have HX:=Lib.hid (And.intro hl (And.intro hr hf))
     clear hl hr hf
     go_wp2_with fail
     go_ret
     rw [HST.out]
     exact ⟨⟨a',cap',rfl,HX.out.1⟩,HX.out.2.1,HX.out.2.2⟩
    ·have hst:bareF (k' + 1) s d a i = bareF k' s d (a.text [s[i]] false) (i + 1):=by rw [bareF,if_neg HNL.out,HB.out,if_neg (by rw [h39];decide),if_neg (by rw [h34];decide),if_neg (by rw [h92];decide),if_neg (by rw [h96];decide),if_neg (by rw [h36];decide),if_neg (by simp [stopB,hd0,hbb])]
     have HD0:=Lib.hid hd0;have HBB:=Lib.hid hbb
     clear hd0 hbb
     have HST:=Lib.hid (HQ.out.trans hst)
     have hP:=fun m=>put_any w.heap.size S w.heap.size a s[i] false (wr.drewN m) (HWY.out.acc.heap rfl) (by have:=a.sizes;have:=HWY.out.tot;omega) (by have:=a.sizes;have:=HWY.out.tot;omega) HWY.out.lt
     have HPUT:=Lib.hid hP
     clear hst hP
     go_wp2_with fail
     refine (HE.out).mono ?_
     rintro e w2 ⟨rfl,n2,rfl⟩
     go_wp2_with fail
     go_quiet (fail)
     go_wp2_with fail
     refine (HBR.out _).mono ?_
     rintro e w5 ⟨rfl,rfl⟩
     go_wp2_with fail
     refine (HPUT.out _).mono ?_
     rintro e w3 ⟨rfl,hacc,hfr⟩
     have hr3:RAt w3 rb s i:=RAt.fr (w:=wr.drewN _) HWY.out.r hfr hrb
     have d1:=hr3.c1
     have e1:=hr3.f1
     have htx:=A.text_tot a [s[i]] false
     simp only [List.length_cons,List.length_nil] at htx
     have hf3:FrR rb w.heap.size S wr w3:=⟨hfr.os,hfr.tape,hfr.output,hfr.size,fun b hb ho=>hfr.block b hb (ho.imp (·.1) id)⟩
     have hway3:Way w rb s S (a.text [s[i]] false) (i + 1) (w3.setCell ⟨rb,1,none⟩ (.int .i64 ((i:Int) + 1))):=by
      have he:((i:Int) + 1) = ((i + 1:Nat):Int):=by omega
      rw [he]
      exact HWY.out.go (hr3.set (i + 1)) (by omega) (hacc.setR hrb (HWY.out.nS hrb) _ _) (fun x hx=>by have:=HWY.out.lt x hx;have:=hfr.size;simp at this ⊢;omega) HWY.out.ge (hf3.set (HWY.out.nS hrb) _ _) (by have:=HWY.out.tot;omega)
     have HX:=Lib.hid hway3
     clear hacc hfr hr3 hf3 hway3 htx
     go_wp2_with fail
     go_roundw
     case rel=>exact ⟨k',i + 1,S,_,HST.out,by omega,by omega,HX.out⟩
     case measure=>rw [HM.out,HX.out.r.c1];simp [intOf];omega
   ·have hdz:((d:Int) == 0) = false:=by simp;omega
    have hdp:decide (0 < (d:Int)) = true:=by simp;omega
    have hdq:((d:Int) > 0) = True:=by simp;omega
    have hdn:0 < d:=by omega
    cases hcc:((s[i].toNat:Int) == 125)
    ·have hst:bareF (k' + 1) s d a i = bareF k' s d (a.text [s[i]] false) (i + 1):=by rw [bareF,if_neg HNL.out,HB.out,if_neg (by rw [h39];decide),if_neg (by rw [h34];decide),if_neg (by rw [h92];decide),if_neg (by rw [h96];decide),if_neg (by rw [h36];decide),if_neg (by simp only [stopB,hdz,hcc];simp)]
     have HD0:=Lib.hid hd0
     clear hd0
     have HST:=Lib.hid (HQ.out.trans hst)
     have hP:=fun m=>put_any w.heap.size S w.heap.size a s[i] false (wr.drewN m) (HWY.out.acc.heap rfl) (by have:=a.sizes;have:=HWY.out.tot;omega) (by have:=a.sizes;have:=HWY.out.tot;omega) HWY.out.lt
     have HPUT:=Lib.hid hP
     clear hst hP
     go_wp2_with fail
     refine (HE.out).mono ?_
     rintro e w2 ⟨rfl,n2,rfl⟩
     go_wp2_with fail
     go_quiet (fail)
     go_wp2_with fail
     refine (HPUT.out _).mono ?_
     rintro e w3 ⟨rfl,hacc,hfr⟩
     have hr3:RAt w3 rb s i:=RAt.fr (w:=wr.drewN _) HWY.out.r hfr hrb
     have d1:=hr3.c1
     have e1:=hr3.f1
     have htx:=A.text_tot a [s[i]] false
     simp only [List.length_cons,List.length_nil] at htx
     have hf3:FrR rb w.heap.size S wr w3:=⟨hfr.os,hfr.tape,hfr.output,hfr.size,fun b hb ho=>hfr.block b hb (ho.imp (·.1) id)⟩
     have hway3:Way w rb s S (a.text [s[i]] false) (i + 1) (w3.setCell ⟨rb,1,none⟩ (.int .i64 ((i:Int) + 1))):=by
      have he:((i:Int) + 1) = ((i + 1:Nat):Int):=by omega
      rw [he]
      exact HWY.out.go (hr3.set (i + 1)) (by omega) (hacc.setR hrb (HWY.out.nS hrb) _ _) (fun x hx=>by have:=HWY.out.lt x hx;have:=hfr.size;simp at this ⊢;omega) HWY.out.ge (hf3.set (HWY.out.nS hrb) _ _) (by have:=HWY.out.tot;omega)
     have HX:=Lib.hid hway3
     clear hacc hfr hr3 hf3 hway3 htx
     go_wp2_with fail
     go_roundw
     case rel=>exact ⟨k',i + 1,S,_,HST.out,by omega,by omega,HX.out⟩
     case measure=>rw [HM.out,HX.out.r.c1];simp [intOf];omega
    ·have hst:bareF (k' + 1) s d a i = .ok a.flush i:=by rw [bareF,if_neg HNL.out,HB.out,if_neg (by rw [h39];decide),if_neg (by rw [h34];decide),if_neg (by rw [h92];decide),if_neg (by rw [h96];decide),if_neg (by rw [h36];decide),if_pos (by simp only [stopB,hcc];simp [hdn])]
     have HD0:=Lib.hid hd0
     clear hd0
     have HALL:=Lib.hid (fun m=>HWY.out.all hs hrb m)
     have HST:=Lib.hid (HQ.out.trans hst)
     clear hst
     go_wp2_with fail
     refine (HE.out).mono ?_
     rintro e w2 ⟨rfl,n2,rfl⟩
     go_wp2_with fail
     go_quiet (fail)
     go_wp2_with fail
     refine (HALL.out _).mono ?_
     rintro e w3 ⟨⟨a',cap',rfl,hl⟩,hr,hf⟩
     have HX:=Lib.hid (And.intro hl (And.intro hr hf))
     clear hl hr hf
     go_wp2_with fail
     go_ret
     rw [HST.out]
     exact ⟨⟨a',cap',rfl,HX.out.1⟩,HX.out.2.1,HX.out.2.2⟩
  ·have he:((i:Int) == (s.size:Int)) = true:=by have:=hway.le;simp;omega
   rw [he] at hE
   have hst:bareF (k' + 1) s d a i = .ok a.flush i:=by rw [bareF,if_pos (by omega)]
   have HALL:=Lib.hid (fun m=>hway.all hs hrb m)
   have HST:=Lib.hid (hq.trans hst)
   have HE:=Lib.hid hE
   clear hst hq hE hway hm he
   go_wp2_with fail
   refine (HE.out).mono ?_
   rintro e w2 ⟨rfl,n2,rfl⟩
   go_wp2_with fail
   refine (HALL.out _).mono ?_
   rintro e w3 ⟨⟨a',cap',rfl,hl⟩,hr,hf⟩
   have HX:=Lib.hid (And.intro hl (And.intro hr hf))
   clear hl hr hf
   go_wp2_with fail
   go_ret
   rw [HST.out]
   exact ⟨⟨a',cap',rfl,HX.out.1⟩,HX.out.2.1,HX.out.2.2⟩
end Lx
end Go.Proofs.YtoklgmbpgnimcaaGreatDoor
