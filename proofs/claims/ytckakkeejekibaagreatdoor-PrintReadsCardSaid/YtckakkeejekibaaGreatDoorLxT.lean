/- (*lex.reader).token, for every text and place. -/
import Derived.Test.YtckakkeejekibaaGreatDoorLxS
import Derived.Test.YtckakkeejekibaaGreatDoorQTail
set_option maxHeartbeats 3200000
set_option maxRecDepth 100000
namespace Go.Proofs.YtckakkeejekibaaGreatDoor
open Go.RowKit Go.Sort
namespace Lx
open j6 Pt
theorem xS {P:Program} {fn:Func} {tmps Uw:Array Value} {R:Ending→World→Prop} (h:results fn tmps = results fn Uw):∀ (ds:List Deferred),Leaves P fn tmps R ds = Leaves P fn Uw R ds
 | []=>by
  funext u w;cases u <;> simp only [Leaves,h]
 | d :: ds=>by
  funext u w;simp only [Leaves,xS h ds]
theorem bE {R:Ending→World→Prop} {a:Act} {dst:Option Tmp} {v:Value} {c:List PanicEntry} {w:World} (hk:dst ≠ some 2) (h:bodyPostD Tryz.prog Tryz.f93 R (.panic c) (a.put dst v) w):bodyPostD Tryz.prog Tryz.f93 R (.panic c) a w:=by
 cases dst with
 | none=>exact h
 | some k =>
  have rU:k ≠ 2:=fun e=>hk (by rw [e]);have hr:results Tryz.f93 (a.tmps.setIfInBounds k v) = results Tryz.f93 a.tmps:=by
   simp [results,Tryz.results93,Array.getElem?_setIfInBounds,rU]
  show Leaves _ _ a.tmps R a.defers _ w;rw [← xS hr a.defers];exact h
theorem Jq {s:ByteArray} {rb tb rv:Nat} {w W:World} (o:Tok) {tmps:Array Value} {a:Option Addr} {cap:Nat} (h2:tmps[2]?.getD undef = .pointer (some ⟨tb,0,none⟩)) (hT:ig W tb o.k o.i o.t (.slice a o.l.len cap) o.err) (hR:fV W rb s o.j) (hF:fI rb w.heap.size (fun _=>False) w W) (hL:cu (fun b=>w.heap.size≤b∧b ≠ tb) W a cap o.l) (htb:w.heap.size≤tb) (KD:rb ≠ tb) :
  bodyPostD Tryz.prog Tryz.f93 (Jp rb s w o) Exit.ret { tmps:=tmps,defers:=[{ target:=Target.fn (Fn.func 120) #[.pointer (some ⟨tb,0,none⟩),.pointer (some ⟨rv,0,none⟩)],args:=#[] }] } (((((W.setCell ⟨tb,0,none⟩ (.int .i64 o.k)).setCell ⟨tb,1,none⟩ (.int .i64 o.i)).setCell ⟨tb,2,none⟩ (.string o.t)).setCell ⟨tb,3,none⟩ (.slice a o.l.len cap)).setCell ⟨tb,4,none⟩ (.int .i64 o.err)).drew.drew:=by
 obtain ⟨h1,hk,hz,h3,h4,h5⟩:=F7 hT;generalize (((((W.setCell ⟨tb,0,none⟩ (.int .i64 o.k)).setCell ⟨tb,1,none⟩ (.int .i64 o.i)).setCell ⟨tb,2,none⟩ (.string o.t)).setCell ⟨tb,3,none⟩ (.slice a o.l.len cap)).setCell ⟨tb,4,none⟩ (.int .i64 o.err)) = W5 at h1 hk hz h3 h4 h5 ⊢
 have hR5:fV W5 rb s o.j:=(hk rb KD).trans hR
 have hF5:fI rb w.heap.size (fun _=>False) w W5:=hF.trans ⟨h3,h4,h5,by rw [hz];exact Nat.le_refl _,fun b _ ho=>hk b (by
  rcases ho with ho | ho
  ·omega
  ·exact ho.elim)⟩
 have hL5:cu (fun b=>w.heap.size≤b) W5 a cap o.l:=(hL.keep (by rw [hz];exact Nat.le_refl _) fun b hb _=>hk b hb.2).mono fun b hb _=>hb.1;exact F6 (w1:=W5.drew.drew) h2 h1 hR5 hF5.drew.drew (hL5.keep (Nat.le_refl _) fun _ _ _=>rfl)
theorem ME (s:ByteArray) (hs:s.size≤1000000) (i rb:Nat) (w:World) (hR:fV w rb s i) (hi:i≤s.size) :
  Calls Tryz.prog 93 #[.pointer (some ⟨rb,0,none⟩)] w (Jp rb s w (tokF s i)):=by
 have hmf:∀ (fn:Fn) (first cap:Array Value) (w:World),(Instr.makeFunc fn first cap).run Tryz.prog w = .ok (.func fn first cap) w:=fun _ _ _ _=>rfl;have aB:=hR.lt;have aM:=Sv w rb i s hR;have c1:=(Su w rb i s hR (.cells #[.pointer (some ⟨rb,0,none⟩)] 127) (.cells #[.int .i64 0,.int .i64 0,.string ⟨#[]⟩,.slice none 0 0,.int .i64 0] 59)).c1;have jb:=kq aM;have eG:=kq aB;clear hR aM aB
 go_enter_defers Tryz.func93,Tryz.ntmps93
 go_wp2_with fail;have aM:=jb.out;generalize ((w.alloc (.cells #[.pointer (some ⟨rb,0,none⟩)] 127)).alloc (.cells #[.int .i64 0,.int .i64 i,.string ⟨#[]⟩,.slice none 0 0,.int .i64 0] 59)) = W0 at aM ⊢
 obtain ⟨Iq,gZ,uC,BZ⟩:=aM;clear c1 jb;have hE:=lV rb i s W0 Iq;have Sw:=(Array.getElem?_eq_some_iff.1 uC).1;have x0:=dx uC;have x1:=dA uC;have x2:=ed uC;have x3:=fA uC;have x4:=dS uC;have y0:=zf 0 uC;have y1:=zf 1 uC;have y2:=zf 2 uC;have y3:=zf 3 uC;have y4:=zf 4 uC
 by_cases uE:s.size≤i
 ·obtain rfl:i = s.size:=by omega
  have hO:tokF s s.size = ⟨4,s.size,⟨#[]⟩,.nil,0,s.size⟩:=by rw [tokF,if_pos (Nat.le_refl _)]
  have HO:=kq hO;rw [show ((s.size:Int) == (s.size:Int)) = true by simp] at hE;have F8:ig (W0.setCell ⟨w.heap.size + 1,0,none⟩ (.int .i64 4)) (w.heap.size + 1) 4 s.size ⟨#[]⟩ (.slice none 0 0) 0:=heap_setCell_same _ _ 0 _ _ (.int .i64 4) uC;have F9:fV (W0.setCell ⟨w.heap.size + 1,0,none⟩ (.int .i64 4)) rb s s.size:=(Below.heap_setCell _ _ _ _ (by have:=eG.out;show rb ≠ w.heap.size + 1;omega)).trans Iq
  have jK:fI rb w.heap.size (fun _=>False) w (W0.setCell ⟨w.heap.size + 1,0,none⟩ (.int .i64 4)):=BZ.trans ⟨rfl,rfl,rfl,by simp,fun b _ ho=>Below.heap_setCell _ _ _ _ (by
   show b ≠ w.heap.size + 1;rcases ho with ho | ho
   ·omega
   ·exact ho.elim)⟩
  have HX:=kq (And.intro F8 (And.intro F9 jK));have HE:=kq hE;clear F8 F9 jK hE Iq gZ uC BZ hO;refine (HE.out).mono ?_;rintro e w1 ⟨rfl,n1,rfl⟩;go_wp2_with fail;rw [HO.out];exact wW ⟨4,s.size,⟨#[]⟩,.nil,0,s.size⟩ rfl HX.out.1 HX.out.2.1 (HX.out.2.2.trans (fI.drewN _ _ _ _ n1)) (fun _ _ _=>⟨Nat.le_refl _,Nat.zero_le _,.inl rfl⟩) (Nat.le_succ _) (by have:=eG.out;omega)
 ·have aB:i < s.size:=by omega
  have he:((i:Int) == (s.size:Int)) = false:=by simp;omega
  rw [he] at hE;have hb:bG s i = s[i]:=(uq aB).symm;have b0:=dx gZ;have c0:=Iq.c0;have c1:=Iq.c1;have c1f:=Iq.f1;have jD:¬ (rb = w.heap.size + 1):=by have:=eG.out;omega
  have Jd:¬ (w.heap.size + 1 = rb):=by have:=eG.out;omega
  have a0:(0:Int)≤(i:Int):=by omega
  have a1:(i:Int) < (s.size:Int):=by omega
  cases yl:((s[i].toNat:Int) == 10)
  ·cases zy:lL s[i].toNat
   ·have BS:=fun W=>j6.rR s[i].toNat W;rw [zy] at BS;have Rw:=kq BS;have HE:=kq hE;have VH:=kq Iq;have fP:=kq gZ;have Ph:=kq uC;have Ye:=kq BZ;have Yf:=kq hb;clear BS hE Iq gZ uC BZ hb;refine (HE.out).mono ?_;rintro e w1 ⟨rfl,n1,rfl⟩;go_wp2_with fail
    go_quiet (fail)
    go_wp2_with fail;have k0:=cell_regrown (w:=W0.drewN (n1 + nq)) (a:=⟨rb,0,none⟩) (v:=.string s) c0;have k1:=cell_regrown (w:=W0.drewN (n1 + nq)) (a:=⟨rb,1,none⟩) (v:=.int .i64 i) c1;have k2:=cell_regrown (w:=W0.drewN (n1 + nq)) (a:=⟨w.heap.size,0,none⟩) (v:=.pointer (some ⟨rb,0,none⟩)) b0;have Yg:∀ dd os,Calls Tryz.prog 122 #[.int .u8 s[i].toNat] (grow (redrawn (W0.drewN (n1 + nq)) dd) os) fun e ut=>e = .returned (.bool false)∧∃ p:Regrown,ut = grow (redrawn (W0.drewN (n1 + nq)) p.d) p.os:=fun dd os=>(Rw.out _).mono fun e w' h=>⟨h.1,⟨dd,os⟩,h.2.symm⟩;have Yh:=kq Yg;clear Yg;refine Qu.region (by kernel_rfl) (by kernel_rfl) ?_
    repeat (first
     | (first | refine Qu.eU rfl (fun K hK=>?_) | refine Qu.eT rfl rfl rfl (fun K hK=>?_)
        go_simp
        first
        | (refine hK _ ?_;clear hK K)
        | (apply Exists.intro;refine ⟨fun _=>?_,hK _ ?_⟩;(exact Yh.out _ _);clear hK K))
     | (refine Qu.gQ rfl rfl rfl (fun K hK=>?_);go_simp;refine hK _ ?_;clear hK K))
    refine Qu.fin ?_;rintro ⟨dq,iB⟩;go_wp2_with fail;have oW:=below_regrown (W0.drewN (n1 + nq)) dq iB;generalize grow (redrawn (W0.drewN (n1 + nq)) dq) iB = V at oW ⊢
    have Bw:Below W0.heap.size W0 V:=⟨oW.os,oW.tape,oW.output,oW.size,oW.block⟩;have Ux:fV V rb s i:=(Bw.block _ VH.out.lt).trans VH.out;have Uy:=(Bw.block _ (Array.getElem?_eq_some_iff.1 fP.out).1).trans fP.out;have Pi:ig V (w.heap.size + 1) 0 i ⟨#[]⟩ (.slice none 0 0) 0:=(Bw.block _ Sw).trans Ph.out;have WY:fI rb w.heap.size (fun _=>False) w V:=Ye.out.trans ⟨Bw.os,Bw.tape,Bw.output,Bw.size,fun b hb _=>Bw.block b hb⟩;have htV:w.heap.size + 1 < V.heap.size:=kd Sw Bw.size;have Cc:=vw s hs 0 i rb V Ux hi (by omega) (by omega);have Et:tokF s i = match bareF (s.size + 1) s 0 A0 i with | .ok l j=>⟨1,i,⟨#[]⟩,l,0,j⟩ | .bad j err=>⟨5,j,⟨#[]⟩,.nil,err,j⟩:=by
     have Pj:¬ bG s i = 10:=by
      rw [Yf.out];intro h;rw [h] at yl;exact absurd yl (by decide)
     have abM:¬ lL (bG s i).toNat = true:=by rw [Yf.out,zy];decide
     rw [tokF,if_neg uE,if_neg Pj,if_neg abM];rfl
    -- the frame of the reading,over the token's own place and the reader's
    have zx:∀ V',fI rb V.heap.size (fun _=>False) V V'→V'.heap[w.heap.size]? = V.heap[w.heap.size]?∧V'.heap[w.heap.size + 1]? = V.heap[w.heap.size + 1]?∧fI rb w.heap.size (fun _=>False) w V':=fun V' h =>
     ⟨h.block _ (by omega) (.inl ⟨by omega,by have:=eG.out;omega⟩),h.block _ htV (.inl ⟨htV,Jd⟩),WY.trans ⟨h.os,h.tape,h.output,h.size,fun b hb ho=>h.block b hb (ho.imp (fun h=>⟨by omega,h.2⟩) id)⟩⟩
    clear oW Bw x0 x1 x2 x3 x4 y0 y1 y2 y3 y4 b0 c0 c1 c1f k0 k1 k2 HE VH fP Ph Ye Yh Rw;cases hout:bareF (s.size + 1) s 0 A0 i with
    | bad j err =>
     rw [hout] at Cc Et;have HO:=kq Et;have Pk:=kq Cc;have VI:=kq zx;have Yi:=kq Uy;have WZ:=kq Pi;clear Et Cc zx Uy Pi Ux WY hout;refine (Pk.out).mono ?_;rintro e V' ⟨rfl,⟨j',LU⟩,Rh⟩;have HX:=kq (And.intro LU (VI.out V' Rh));clear LU Rh;go_wp2_with fail;rw [HO.out];exact xR _ rfl (HX.out.2.1.trans Yi.out) (HX.out.2.2.1.trans WZ.out) HX.out.1 HX.out.2.2.2 jD (by omega) (Nat.le_succ _)
    | ok l j =>
     rw [hout] at Cc Et;have HO:=kq Et;have Pk:=kq Cc;have VI:=kq zx;have Yi:=kq Uy;have WZ:=kq Pi;clear Et Cc zx Uy Pi Ux WY hout;refine (Pk.out).mono ?_;rintro e V' ⟨⟨a,cap,rfl,A9⟩,LU,Rh⟩;have hx:=VI.out V' Rh;have KT:ig V' (w.heap.size + 1) 0 i ⟨#[]⟩ (.slice none 0 0) 0:=hx.2.1.trans WZ.out;have x0:=dx KT;have x1:=dA KT;have x2:=ed KT;have x3:=fA KT;have x4:=dS KT;have y0:=zf 0 KT;have y1:=zf 1 KT;have y2:=zf 2 KT;have y3:=zf 3 KT;have y4:=zf 4 KT;have HX:=kq (And.intro LU (And.intro A9 (And.intro KT hx)));clear LU Rh A9 KT hx;go_wp2_with fail;obtain ⟨LU,A9,KT,_,_,Rh⟩:=HX.out;have hk:∀ b,b ≠ w.heap.size + 1→((V'.setCell ⟨w.heap.size + 1,0,none⟩ (.int .i64 1)).setCell ⟨w.heap.size + 1,3,none⟩ (.slice a l.len cap)).heap[b]? = V'.heap[b]?:=fun b hb=>(Below.heap_setCell _ _ _ _ hb).trans (Below.heap_setCell _ _ _ _ hb);have htW:ig ((V'.setCell ⟨w.heap.size + 1,0,none⟩ (.int .i64 1)).setCell ⟨w.heap.size + 1,3,none⟩ (.slice a l.len cap)) (w.heap.size + 1) 1 i ⟨#[]⟩ (.slice a l.len cap) 0:=heap_setCell_same _ _ 3 _ _ (.slice a l.len cap) (heap_setCell_same _ _ 0 _ _ (.int .i64 1) KT);have hrW:fV ((V'.setCell ⟨w.heap.size + 1,0,none⟩ (.int .i64 1)).setCell ⟨w.heap.size + 1,3,none⟩ (.slice a l.len cap)) rb s j:=(hk rb jD).trans LU
     have I6:fI rb w.heap.size (fun _=>False) w ((V'.setCell ⟨w.heap.size + 1,0,none⟩ (.int .i64 1)).setCell ⟨w.heap.size + 1,3,none⟩ (.slice a l.len cap)):=Rh.trans ⟨(so _ _ _).trans (so _ _ _),(st _ _ _).trans (st _ _ _),(su _ _ _).trans (su _ _ _),by simp,fun b _ ho=>hk b (by
      rcases ho with ho | ho
      ·omega
      ·exact ho.elim)⟩
     have hlW:cu (fun b=>w.heap.size≤b∧b ≠ w.heap.size + 1) ((V'.setCell ⟨w.heap.size + 1,0,none⟩ (.int .i64 1)).setCell ⟨w.heap.size + 1,3,none⟩ (.slice a l.len cap)) a cap l:=(A9.keep (by simp) fun b hb _=>hk b (by omega)).mono fun b hb _=>⟨by omega,by omega⟩;rw [HO.out];exact wW ⟨1,i,⟨#[]⟩,l,0,j⟩ rfl htW hrW I6 hlW (Nat.le_succ _) jD
   ·have BS:=fun W=>j6.rR s[i].toNat W;rw [zy] at BS;have Rw:=kq BS;have HE:=kq hE;have VH:=kq Iq;have fP:=kq gZ;have Ph:=kq uC;have Ye:=kq BZ;have Yf:=kq hb;clear BS hE Iq gZ uC BZ hb;refine (HE.out).mono ?_;rintro e w1 ⟨rfl,n1,rfl⟩;go_wp2_with fail
    go_quiet (fail)
    go_wp2_with fail;have k0:=cell_regrown (w:=W0.drewN (n1 + nq)) (a:=⟨rb,0,none⟩) (v:=.string s) c0;have k1:=cell_regrown (w:=W0.drewN (n1 + nq)) (a:=⟨rb,1,none⟩) (v:=.int .i64 i) c1;have k2:=cell_regrown (w:=W0.drewN (n1 + nq)) (a:=⟨w.heap.size,0,none⟩) (v:=.pointer (some ⟨rb,0,none⟩)) b0;have Yg:∀ dd os,Calls Tryz.prog 122 #[.int .u8 s[i].toNat] (grow (redrawn (W0.drewN (n1 + nq)) dd) os) fun e ut=>e = .returned (.bool true)∧∃ p:Regrown,ut = grow (redrawn (W0.drewN (n1 + nq)) p.d) p.os:=fun dd os=>(Rw.out _).mono fun e w' h=>⟨h.1,⟨dd,os⟩,h.2.symm⟩;have Yh:=kq Yg;clear Yg;refine Qu.region (by kernel_rfl) (by kernel_rfl) ?_
    repeat (first
     | (first | refine Qu.eU rfl (fun K hK=>?_) | refine Qu.eT rfl rfl rfl (fun K hK=>?_)
        go_simp
        first
        | (refine hK _ ?_;clear hK K)
        | (apply Exists.intro;refine ⟨fun _=>?_,hK _ ?_⟩;(exact Yh.out _ _);clear hK K))
     | (refine Qu.gQ rfl rfl rfl (fun K hK=>?_);go_simp;refine hK _ ?_;clear hK K))
    refine Qu.fin ?_;rintro ⟨dq,iB⟩;go_wp2_with fail;have oW:=below_regrown (W0.drewN (n1 + nq)) dq iB;have Yj:(W0.drewN n1).drewN nq = W0.drewN (n1 + nq):=by simp [World.drewN,Nat.add_assoc]
    rw [Yj];generalize grow (redrawn (W0.drewN (n1 + nq)) dq) iB = V at oW ⊢
    have Bw:Below W0.heap.size W0 V:=⟨oW.os,oW.tape,oW.output,oW.size,oW.block⟩;have Ux:fV V rb s i:=(Bw.block _ VH.out.lt).trans VH.out;have Uy:=(Bw.block _ (Array.getElem?_eq_some_iff.1 fP.out).1).trans fP.out;have Pi:ig V (w.heap.size + 1) 0 i ⟨#[]⟩ (.slice none 0 0) 0:=(Bw.block _ Sw).trans Ph.out;have WY:fI rb w.heap.size (fun _=>False) w V:=Ye.out.trans ⟨Bw.os,Bw.tape,Bw.output,Bw.size,fun b hb _=>Bw.block b hb⟩;have VJ:=rR (s.extract i s.size) V.drew (by simp [ByteArray.size_extract];omega);rw [iJ] at VJ;have htV:w.heap.size + 1 < V.heap.size:=kd Sw Bw.size;clear x0 x1 x2 x3 x4 y0 y1 y2 y3 y4 b0 c0 c1 c1f k0 k1 k2 HE VH fP Ph Ye Yh Rw oW Bw Yj;have e0:=Ux.c0;have e1:=Ux.c1;have e2:=dx Uy;have x0:=dx Pi;have x2:=ed Pi;have y0:=zf 0 Pi;have y2:=zf 2 Pi;have a2:(i:Int)≤(s.size:Int):=by omega
    have Yk:=kq VJ;have Yl:=kq Ux;have Yi:=kq Uy;have WZ:=kq Pi;have HFV:=kq WY;clear VJ Ux Uy Pi WY;refine RN.begins (fun w'=>w'.cell? ⟨rb,0,none⟩ = some (.string s)∧w'.cell? ⟨rb,1,none⟩ = some (.int .i64 (i:Int))∧w'.cell? ⟨w.heap.size,0,none⟩ = some (.pointer (some ⟨rb,0,none⟩))) [11,12,13] (by kernel_rfl) ?_;have hS:V.drew.cell? ⟨rb,0,none⟩ = some (.string s)∧V.drew.cell? ⟨rb,1,none⟩ = some (.int .i64 (i:Int))∧V.drew.cell? ⟨w.heap.size,0,none⟩ = some (.pointer (some ⟨rb,0,none⟩)):=⟨e0,e1,e2⟩;refine RN.take (i:=0) (v:=?_) rfl (by decide) (by kernel_rfl) (by kernel_rfl) (by kernel_rfl) (by kernel_rfl) (by kernel_rfl) (by first | exact fun _ _ _ h=>h | exact fun _ _ _ h=>(by cases h.1) | exact fun _ _ _ h=>bE (by decide) h) (.inl ⟨by rfl,?_⟩) hS ?_;rotate_left 1
    ·(intro wq hq;obtain ⟨s0,s1,s2⟩:=hq;go_simp;try with_reducible rfl)
    refine RN.take (i:=1) (v:=?_) rfl (by decide) (by kernel_rfl) (by kernel_rfl) (by kernel_rfl) (by kernel_rfl) (by kernel_rfl) (by first | exact fun _ _ _ h=>h | exact fun _ _ _ h=>(by cases h.1) | exact fun _ _ _ h=>bE (by decide) h) (.inl ⟨by rfl,?_⟩) hS ?_;rotate_left 1
    ·(intro wq hq;obtain ⟨s0,s1,s2⟩:=hq;go_simp;try with_reducible rfl)
    refine RN.take (i:=2) (v:=?_) rfl (by decide) (by kernel_rfl) (by kernel_rfl) (by kernel_rfl) (by kernel_rfl) (by kernel_rfl) (by first | exact fun _ _ _ h=>h | exact fun _ _ _ h=>(by cases h.1) | exact fun _ _ _ h=>bE (by decide) h) (.inl ⟨by rfl,?_⟩) hS ?_;rotate_left 1
    ·(intro wq hq;obtain ⟨s0,s1,s2⟩:=hq;go_simp;try with_reducible rfl)
    refine RN.take (i:=3) (v:=?_) rfl (by decide) (by kernel_rfl) (by kernel_rfl) (by kernel_rfl) (by kernel_rfl) (by kernel_rfl) (by first | exact fun _ _ _ h=>h | exact fun _ _ _ h=>(by cases h.1) | exact fun _ _ _ h=>bE (by decide) h) (.inl ⟨by rfl,?_⟩) hS ?_;rotate_left 1
    ·(intro wq hq;obtain ⟨s0,s1,s2⟩:=hq;go_simp;try with_reducible rfl)
    refine RN.take (i:=4) (v:=?_) rfl (by decide) (by kernel_rfl) (by kernel_rfl) (by kernel_rfl) (by kernel_rfl) (by kernel_rfl) (by first | exact fun _ _ _ h=>h | exact fun _ _ _ h=>(by cases h.1) | exact fun _ _ _ h=>bE (by decide) h) (.inl ⟨by rfl,?_⟩) hS ?_;rotate_left 1
    ·(intro wq hq;obtain ⟨s0,s1,s2⟩:=hq;go_simp;try with_reducible rfl)
    refine RN.take (i:=5) (v:=?_) rfl (by decide) (by kernel_rfl) (by kernel_rfl) (by kernel_rfl) (by kernel_rfl) (by kernel_rfl) (by first | exact fun _ _ _ h=>h | exact fun _ _ _ h=>(by cases h.1) | exact fun _ _ _ h=>bE (by decide) h) (.inl ⟨by rfl,?_⟩) hS ?_;rotate_left 1
    ·(intro wq hq;obtain ⟨s0,s1,s2⟩:=hq;go_simp;try with_reducible rfl)
    refine RN.take (i:=6) (v:=?_) rfl (by decide) (by kernel_rfl) (by kernel_rfl) (by kernel_rfl) (by kernel_rfl) (by kernel_rfl) (by first | exact fun _ _ _ h=>h | exact fun _ _ _ h=>(by cases h.1) | exact fun _ _ _ h=>bE (by decide) h) (.inl ⟨by rfl,?_⟩) hS ?_;rotate_left 1
    ·(intro wq hq;obtain ⟨s0,s1,s2⟩:=hq;go_simp;try with_reducible rfl)
    refine RN.take (i:=7) (v:=?_) rfl (by decide) (by kernel_rfl) (by kernel_rfl) (by kernel_rfl) (by kernel_rfl) (by kernel_rfl) (by first | exact fun _ _ _ h=>h | exact fun _ _ _ h=>(by cases h.1) | exact fun _ _ _ h=>bE (by decide) h) (.inl ⟨by rfl,?_⟩) hS ?_;rotate_left 1
    ·(intro wq hq;obtain ⟨s0,s1,s2⟩:=hq;go_simp;try with_reducible rfl)
    refine RN.take (i:=8) (v:=?_) rfl (by decide) (by kernel_rfl) (by kernel_rfl) (by kernel_rfl) (by kernel_rfl) (by kernel_rfl) (by first | exact fun _ _ _ h=>h | exact fun _ _ _ h=>(by cases h.1) | exact fun _ _ _ h=>bE (by decide) h) (.inl ⟨by rfl,?_⟩) hS ?_;rotate_left 1
    ·(intro wq hq;obtain ⟨s0,s1,s2⟩:=hq;go_simp;try with_reducible rfl)
    refine RN.take (i:=10) (v:=?_) rfl (by decide) (by kernel_rfl) (by kernel_rfl) (by kernel_rfl) (by kernel_rfl) (by kernel_rfl) (by first | exact fun _ _ _ h=>h | exact fun _ _ _ h=>(by cases h.1) | exact fun _ _ _ h=>bE (by decide) h) (.inl ⟨by rfl,?_⟩) hS ?_;rotate_left 1
    ·(intro wq hq;obtain ⟨s0,s1,s2⟩:=hq;go_simp;try with_reducible rfl)
    refine RN.one 9 rfl fun K hK=>?_;go_simp;refine (Yk.out).mono ?_;rintro e w2 ⟨rfl,rfl⟩;refine hK _ _ (fun _=>hS) ?_;clear hK K;refine RN.one 11 rfl fun K hK=>?_;go_simp;refine hK _ _ (fun h=>absurd h (by decide)) ?_;clear hK K;refine RN.nN (i:=12) (v:=?_) rfl (by decide) (by kernel_rfl) (by kernel_rfl) (by kernel_rfl) (by kernel_rfl) (by first | exact fun _ _ _ h=>h | exact fun _ _ _ h=>(by cases h.1) | exact fun _ _ _ h=>bE (by decide) h) (.inl ⟨by rfl,?_⟩) ?_;rotate_left 1
    ·(intro wq _;go_simp;try with_reducible rfl)
    refine RN.one 13 rfl fun K hK=>?_;go_simp;refine hK _ _ (fun h=>absurd h (by decide)) ?_;clear hK K hS;refine RN.done (by kernel_rfl) ?_ _;have hk:∀ b,b ≠ w.heap.size + 1→((V.setCell ⟨w.heap.size + 1,0,none⟩ (.int .i64 2)).setCell ⟨w.heap.size + 1,2,none⟩ (.string ((s.extract i s.size).extract 0 (dM (ag s i))))).heap[b]? = V.heap[b]?:=fun b hb=>(Below.heap_setCell _ _ _ _ hb).trans (Below.heap_setCell _ _ _ _ hb);have KU:ig ((V.setCell ⟨w.heap.size + 1,0,none⟩ (.int .i64 2)).setCell ⟨w.heap.size + 1,2,none⟩ (.string ((s.extract i s.size).extract 0 (dM (ag s i))))) (w.heap.size + 1) 2 i ((s.extract i s.size).extract 0 (dM (ag s i))) (.slice none 0 0) 0:=heap_setCell_same _ _ 2 _ _ (.string ((s.extract i s.size).extract 0 (dM (ag s i)))) (heap_setCell_same _ _ 0 _ _ (.int .i64 2) WZ.out);have Xa:fV ((V.setCell ⟨w.heap.size + 1,0,none⟩ (.int .i64 2)).setCell ⟨w.heap.size + 1,2,none⟩ (.string ((s.extract i s.size).extract 0 (dM (ag s i))))) rb s i:=(hk rb jD).trans Yl.out;have hBS:=(hk w.heap.size (by omega)).trans Yi.out
    have hFS:fI rb w.heap.size (fun _=>False) w ((V.setCell ⟨w.heap.size + 1,0,none⟩ (.int .i64 2)).setCell ⟨w.heap.size + 1,2,none⟩ (.string ((s.extract i s.size).extract 0 (dM (ag s i))))):=HFV.out.trans ⟨(so _ _ _).trans (so _ _ _),(st _ _ _).trans (st _ _ _),(su _ _ _).trans (su _ _ _),by simp,fun b _ ho=>hk b (by
     rcases ho with ho | ho
     ·omega
     ·exact ho.elim)⟩
    generalize ((V.setCell ⟨w.heap.size + 1,0,none⟩ (.int .i64 2)).setCell ⟨w.heap.size + 1,2,none⟩ (.string ((s.extract i s.size).extract 0 (dM (ag s i))))) = U at KU Xa hBS hFS ⊢
    have hTn:dM (ag s i)≤s.size - i:=by
     have h1:=sj (ag s i) (min 2 (ag s i).length);rw [aQ] at h1;unfold dM;rw [aQ];omega
    have Pj:¬ bG s i = 10:=by
     rw [Yf.out];intro h;rw [h] at yl;exact absurd yl (by decide)
    have Ym:lL (bG s i).toNat = true:=by rw [Yf.out,zy]
    have hO:tokF s i = if dM (ag s i) = 0 then ⟨5,i,⟨#[]⟩,.nil,1,i⟩ else ⟨2,i,(s.extract i s.size).extract 0 (dM (ag s i)),.nil,0,i + dM (ag s i)⟩:=by rw [tokF,if_neg uE,if_neg Pj,if_pos Ym]
    have hTs:((s.extract i s.size).extract 0 (dM (ag s i))).size = dM (ag s i):=by simp [ByteArray.size_extract];omega
    generalize (s.extract i s.size).extract 0 (dM (ag s i)) = T at KU hO hTs ⊢
    generalize dM (ag s i) = n at hO hTs hTn ⊢
    clear e0 e1 e2 x0 x2 y0 y2 Yk Yl Yi WZ HFV hk;have e0:=Xa.c0;have e1:=Xa.c1;have e1f:=Xa.f1;have e2:=dx hBS;have x0:=dx KU;have x1:=dA KU;have x2:=ed KU;have x3:=fA KU;have x4:=dS KU;have y0:=zf 0 KU;have y1:=zf 1 KU;have y2:=zf 2 KU;have y3:=zf 3 KU;have y4:=zf 4 KU;have WV:=kq KU;have Uz:=kq Xa;have Yn:=kq hBS;have HFS:=kq hFS;have HO:=kq hO;have HTs:=kq hTs;clear KU Xa hBS hFS hO hTs Pj Ym
    by_cases VK:n = 0
    ·have qO:T.toList.isEmpty = true:=by
      have h1:T.data.toList.length = 0:=HTs.out.trans VK;rw [Lib.toList_data,List.length_eq_zero_iff.1 h1];rfl
     have HN0:=kq VK;clear VK;go_wp2_with fail;refine (cZ _ _).mono ?_;rintro e w9 ⟨rfl,rfl⟩;go_wp2_with fail;rw [HO.out,if_pos HN0.out];exact xR _ rfl Yn.out WV.out Uz.out (HFS.out.trans ⟨rfl,rfl,rfl,Nat.le_refl _,fun _ _ _=>rfl⟩) jD (by omega) (Nat.le_succ _)
    ·have qO:T.toList.isEmpty = false:=by
      have h1:T.data.toList.length = n:=HTs.out;rw [Lib.toList_data];cases h2:T.data.toList with
      | nil=>rw [h2] at h1;simp at h1;omega
      | cons=>rfl
     have HN0:=kq VK;clear VK;obtain rfl:=HTs.out;have hx:IntKind.i64.wrap ((i:Int) + (T.size:Int)) = (i:Int) + (T.size:Int):=FP _ (by omega) (by omega);have hrE:=Uz.out.set (i + T.size);rw [show ((i + T.size:Nat):Int) = (i:Int) + (T.size:Int) by omega] at hrE;have htE:ig (U.setCell ⟨rb,1,none⟩ (.int .i64 ((i:Int) + (T.size:Int)))) (w.heap.size + 1) 2 i T (.slice none 0 0) 0:=(Below.heap_setCell _ _ _ _ Jd).trans WV.out;have HE9:=kq (And.intro htE (And.intro hrE (HFS.out.set (fun h=>h) 1 (.int .i64 ((i:Int) + (T.size:Int))))));clear htE hrE;go_wp2_with fail;refine RN.begins (fun w'=>w'.cell? ⟨rb,1,none⟩ = some (.int .i64 (i:Int))∧w'.cell? ⟨w.heap.size,0,none⟩ = some (.pointer (some ⟨rb,0,none⟩))∧w'.cell? ⟨w.heap.size + 1,2,none⟩ = some (.string T)) [10] (by kernel_rfl) ?_;have hS:U.drew.cell? ⟨rb,1,none⟩ = some (.int .i64 (i:Int))∧U.drew.cell? ⟨w.heap.size,0,none⟩ = some (.pointer (some ⟨rb,0,none⟩))∧U.drew.cell? ⟨w.heap.size + 1,2,none⟩ = some (.string T):=⟨e1,e2,x2⟩;refine RN.take (i:=0) (v:=?_) rfl (by decide) (by kernel_rfl) (by kernel_rfl) (by kernel_rfl) (by kernel_rfl) (by kernel_rfl) (by first | exact fun _ _ _ h=>h | exact fun _ _ _ h=>(by cases h.1) | exact fun _ _ _ h=>bE (by decide) h) (.inl ⟨by rfl,?_⟩) hS ?_;rotate_left 1
     ·(intro wq hq;obtain ⟨s0,s1,s2⟩:=hq;go_simp;try with_reducible rfl)
     refine RN.take (i:=1) (v:=?_) rfl (by decide) (by kernel_rfl) (by kernel_rfl) (by kernel_rfl) (by kernel_rfl) (by kernel_rfl) (by first | exact fun _ _ _ h=>h | exact fun _ _ _ h=>(by cases h.1) | exact fun _ _ _ h=>bE (by decide) h) (.inl ⟨by rfl,?_⟩) hS ?_;rotate_left 1
     ·(intro wq hq;obtain ⟨s0,s1,s2⟩:=hq;go_simp;try with_reducible rfl)
     refine RN.take (i:=2) (v:=?_) rfl (by decide) (by kernel_rfl) (by kernel_rfl) (by kernel_rfl) (by kernel_rfl) (by kernel_rfl) (by first | exact fun _ _ _ h=>h | exact fun _ _ _ h=>(by cases h.1) | exact fun _ _ _ h=>bE (by decide) h) (.inl ⟨by rfl,?_⟩) hS ?_;rotate_left 1
     ·(intro wq hq;obtain ⟨s0,s1,s2⟩:=hq;go_simp;try with_reducible rfl)
     refine RN.take (i:=3) (v:=?_) rfl (by decide) (by kernel_rfl) (by kernel_rfl) (by kernel_rfl) (by kernel_rfl) (by kernel_rfl) (by first | exact fun _ _ _ h=>h | exact fun _ _ _ h=>(by cases h.1) | exact fun _ _ _ h=>bE (by decide) h) (.inl ⟨by rfl,?_⟩) hS ?_;rotate_left 1
     ·(intro wq hq;obtain ⟨s0,s1,s2⟩:=hq;go_simp;try with_reducible rfl)
     refine RN.take (i:=4) (v:=?_) rfl (by decide) (by kernel_rfl) (by kernel_rfl) (by kernel_rfl) (by kernel_rfl) (by kernel_rfl) (by first | exact fun _ _ _ h=>h | exact fun _ _ _ h=>(by cases h.1) | exact fun _ _ _ h=>bE (by decide) h) (.inl ⟨by rfl,?_⟩) hS ?_;rotate_left 1
     ·(intro wq hq;obtain ⟨s0,s1,s2⟩:=hq;go_simp;try with_reducible rfl)
     refine RN.take (i:=5) (v:=?_) rfl (by decide) (by kernel_rfl) (by kernel_rfl) (by kernel_rfl) (by kernel_rfl) (by kernel_rfl) (by first | exact fun _ _ _ h=>h | exact fun _ _ _ h=>(by cases h.1) | exact fun _ _ _ h=>bE (by decide) h) (.inl ⟨by rfl,?_⟩) hS ?_;rotate_left 1
     ·(intro wq hq;obtain ⟨s0,s1,s2⟩:=hq;go_simp;try with_reducible rfl)
     refine RN.take (i:=6) (v:=?_) rfl (by decide) (by kernel_rfl) (by kernel_rfl) (by kernel_rfl) (by kernel_rfl) (by kernel_rfl) (by first | exact fun _ _ _ h=>h | exact fun _ _ _ h=>(by cases h.1) | exact fun _ _ _ h=>bE (by decide) h) (.inl ⟨by rfl,?_⟩) hS ?_;rotate_left 1
     ·(intro wq hq;obtain ⟨s0,s1,s2⟩:=hq;go_simp;try with_reducible rfl)
     refine RN.take (i:=7) (v:=?_) rfl (by decide) (by kernel_rfl) (by kernel_rfl) (by kernel_rfl) (by kernel_rfl) (by kernel_rfl) (by first | exact fun _ _ _ h=>h | exact fun _ _ _ h=>(by cases h.1) | exact fun _ _ _ h=>bE (by decide) h) (.inl ⟨by rfl,?_⟩) hS ?_;rotate_left 1
     ·(intro wq hq;obtain ⟨s0,s1,s2⟩:=hq;go_simp;try with_reducible rfl)
     refine RN.take (i:=8) (v:=?_) rfl (by decide) (by kernel_rfl) (by kernel_rfl) (by kernel_rfl) (by kernel_rfl) (by kernel_rfl) (by first | exact fun _ _ _ h=>h | exact fun _ _ _ h=>(by cases h.1) | exact fun _ _ _ h=>bE (by decide) h) (.inl ⟨by rfl,?_⟩) hS ?_;rotate_left 1
     ·(intro wq hq;obtain ⟨s0,s1,s2⟩:=hq;go_simp;try with_reducible rfl)
     refine RN.take (i:=9) (v:=?_) rfl (by decide) (by kernel_rfl) (by kernel_rfl) (by kernel_rfl) (by kernel_rfl) (by kernel_rfl) (by first | exact fun _ _ _ h=>h | exact fun _ _ _ h=>(by cases h.1) | exact fun _ _ _ h=>bE (by decide) h) (.inl ⟨by rfl,?_⟩) hS ?_;rotate_left 1
     ·(intro wq hq;obtain ⟨s0,s1,s2⟩:=hq;go_simp;try with_reducible rfl)
     refine RN.one 10 rfl fun K hK=>?_;go_simp;refine hK _ _ (fun h=>absurd h (by decide)) ?_;clear hK K hS;refine RN.done (by kernel_rfl) ?_ _;go_wp2_with fail;rw [HO.out,if_neg HN0.out];exact Jq (W:=U.setCell ⟨rb,1,none⟩ (.int .i64 ((i:Int) + (T.size:Int)))) ⟨2,i,T,.nil,0,i + T.size⟩ rfl HE9.out.1 HE9.out.2.1 HE9.out.2.2 (fun _ _ _=>⟨Nat.le_refl _,Nat.zero_le _,.inl rfl⟩) (Nat.le_succ _) jD
  ·have hO:tokF s i = ⟨3,i,⟨#[]⟩,.nil,0,i + 1⟩:=by
    rw [tokF,if_neg uE,if_pos];rw [hb];apply UInt8.toNat_inj.1;have:=of_decide_eq_true yl;simp at yl
    exact_mod_cast yl
   have HO:=kq hO;have F8:ig (W0.setCell ⟨w.heap.size + 1,0,none⟩ (.int .i64 3)) (w.heap.size + 1) 3 i ⟨#[]⟩ (.slice none 0 0) 0:=heap_setCell_same _ _ 0 _ _ (.int .i64 3) uC;have F9:fV (W0.setCell ⟨w.heap.size + 1,0,none⟩ (.int .i64 3)) rb s i:=(Below.heap_setCell _ _ _ _ (by have:=eG.out;show rb ≠ w.heap.size + 1;omega)).trans Iq
   have jK:fI rb w.heap.size (fun _=>False) w (W0.setCell ⟨w.heap.size + 1,0,none⟩ (.int .i64 3)):=BZ.trans ⟨rfl,rfl,rfl,by simp,fun b _ ho=>Below.heap_setCell _ _ _ _ (by
    show b ≠ w.heap.size + 1;rcases ho with ho | ho
    ·omega
    ·exact ho.elim)⟩
   have Jr:=F9.set (i + 1);rw [show ((i + 1:Nat):Int) = (i:Int) + 1 by omega] at Jr;have Pm:ig ((W0.setCell ⟨w.heap.size + 1,0,none⟩ (.int .i64 3)).setCell ⟨rb,1,none⟩ (.int .i64 ((i:Int) + 1))) (w.heap.size + 1) 3 i ⟨#[]⟩ (.slice none 0 0) 0:=(Below.heap_setCell _ _ _ _ (by have:=eG.out;show w.heap.size + 1 ≠ rb;omega)).trans F8;have HX:=kq (And.intro Pm (And.intro Jr (jK.set (fun h=>h) 1 (.int .i64 ((i:Int) + 1)))));have HE:=kq hE;clear F8 F9 jK Pm Jr hE Iq gZ uC BZ hO hb;refine (HE.out).mono ?_;rintro e w1 ⟨rfl,n1,rfl⟩;go_wp2_with fail
   go_quiet (fail)
   go_wp2_with fail;rw [HO.out];exact wW ⟨3,i,⟨#[]⟩,.nil,0,i + 1⟩ rfl HX.out.1 HX.out.2.1 (HX.out.2.2.trans (fI.drewN _ _ _ _ (n1 + nq))) (fun _ _ _=>⟨Nat.le_refl _,Nat.zero_le _,.inl rfl⟩) (Nat.le_succ _) jD
end Lx
end Go.Proofs.YtckakkeejekibaaGreatDoor
