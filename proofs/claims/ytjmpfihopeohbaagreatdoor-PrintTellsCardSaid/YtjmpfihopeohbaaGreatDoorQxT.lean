/- All tokens of a text, as plain functions; that they are as they should be. -/
import Derived.Test.YtjmpfihopeohbaaGreatDoorQxS
import Derived.Test.YtjmpfihopeohbaaGreatDoorLxV
set_option maxHeartbeats 3200000
set_option maxRecDepth 100000
namespace Go.Proofs.YtjmpfihopeohbaaGreatDoor
open Go.RowKit Go.Sort
namespace Lx
open Cls Pt
def tokAt (s:ByteArray) (i:Nat):Tok:=tokF s (aheadF (s.size + 1) s i)
def stopT (t:Tok):Bool:=t.k == 4 || t.k == 5
end Lx
end Go.Proofs.YtjmpfihopeohbaaGreatDoor
namespace Go.Proofs.YtjmpfihopeohbaaGreatDoor
open Go.RowKit Go.Sort
namespace Lx
open Cls Pt
theorem leaves_tmps {P:Program} {fn:Func} {tmps tmps':Array Value} {R:Ending→World→Prop} (h:results fn tmps = results fn tmps'):∀ (ds:List Deferred),Leaves P fn tmps R ds = Leaves P fn tmps' R ds
 | []=>by
  funext u w;cases u <;> simp only [Leaves,h]
 | d :: ds=>by
  funext u w;simp only [Leaves,leaves_tmps h ds]
theorem door_put {R:Ending→World→Prop} {a:Act} {dst:Option Tmp} {v:Value} {c:List PanicEntry} {w:World} (hk:dst ≠ some 2) (h:bodyPostD Tryz.prog Tryz.f93 R (.panic c) (a.put dst v) w):bodyPostD Tryz.prog Tryz.f93 R (.panic c) a w:=by
 cases dst with
 | none=>exact h
 | some k =>
  have hk2:k ≠ 2:=fun e=>hk (by rw [e]);have hr:results Tryz.f93 (a.tmps.setIfInBounds k v) = results Tryz.f93 a.tmps:=by
   simp [results,Tryz.results93,Array.getElem?_setIfInBounds,hk2]
  show Leaves _ _ a.tmps R a.defers _ w;rw [← leaves_tmps hr a.defers];exact h
theorem door_back2 {s:ByteArray} {rb tb rv:Nat} {w W:World} (o:Tok) {tmps:Array Value} {a:Option Addr} {cap:Nat} (h2:tmps[2]?.getD undef = .pointer (some ⟨tb,0,none⟩)) (hT:TokAt W tb o.k o.i o.t (.slice a o.l.len cap) o.err) (hR:RAt W rb s o.j) (hF:FrR rb w.heap.size (fun _=>False) w W) (hL:LiesS (fun b=>w.heap.size≤b∧b ≠ tb) W a cap o.l) (htb:w.heap.size≤tb) (hrt:rb ≠ tb) :
  bodyPostD Tryz.prog Tryz.f93 (GotT rb s w o) Exit.ret { tmps:=tmps,defers:=[{ target:=Target.fn (Fn.func 120) #[.pointer (some ⟨tb,0,none⟩),.pointer (some ⟨rv,0,none⟩)],args:=#[] }] } (((((W.setCell ⟨tb,0,none⟩ (.int .i64 o.k)).setCell ⟨tb,1,none⟩ (.int .i64 o.i)).setCell ⟨tb,2,none⟩ (.string o.t)).setCell ⟨tb,3,none⟩ (.slice a o.l.len cap)).setCell ⟨tb,4,none⟩ (.int .i64 o.err)).drew.drew:=by
 obtain ⟨h1,hk,hz,h3,h4,h5⟩:=tok_back hT;generalize (((((W.setCell ⟨tb,0,none⟩ (.int .i64 o.k)).setCell ⟨tb,1,none⟩ (.int .i64 o.i)).setCell ⟨tb,2,none⟩ (.string o.t)).setCell ⟨tb,3,none⟩ (.slice a o.l.len cap)).setCell ⟨tb,4,none⟩ (.int .i64 o.err)) = W5 at h1 hk hz h3 h4 h5 ⊢
 have hR5:RAt W5 rb s o.j:=(hk rb hrt).trans hR
 have hF5:FrR rb w.heap.size (fun _=>False) w W5:=hF.trans ⟨h3,h4,h5,by rw [hz];exact Nat.le_refl _,fun b _ ho=>hk b (by
  rcases ho with ho | ho
  ·omega
  ·exact ho.elim)⟩
 have hL5:LiesS (fun b=>w.heap.size≤b) W5 a cap o.l:=(hL.keep (by rw [hz];exact Nat.le_refl _) fun b hb _=>hk b hb.2).mono fun b hb _=>hb.1;exact door_ret (w1:=W5.drew.drew) h2 h1 hR5 hF5.drew.drew (hL5.keep (Nat.le_refl _) fun _ _ _=>rfl)
theorem token_any (s:ByteArray) (hs:s.size≤1000000) (hpl:Plain s) (i rb:Nat) (w:World) (h5:(tokF s i).k ≠ 5) (hR:RAt w rb s i) (hi:i≤s.size) :
  Calls Tryz.prog 93 #[.pointer (some ⟨rb,0,none⟩)] w (GotT rb s w (tokF s i)):=by
 have hmf:∀ (fn:Fn) (first cap:Array Value) (w:World),(Instr.makeFunc fn first cap).run Tryz.prog w = .ok (.func fn first cap) w:=fun _ _ _ _=>rfl;have hlt:=hR.lt;have hst:=start_t w rb i s hR;have c1:=(start_r w rb i s hR (.cells #[.pointer (some ⟨rb,0,none⟩)] 127) (.cells #[.int .i64 0,.int .i64 0,.string ⟨#[]⟩,.slice none 0 0,.int .i64 0] 59)).c1;have HST:=Lib.hid hst;have HLT:=Lib.hid hlt;clear hR hst hlt
 go_enter_defers Tryz.func93,Tryz.ntmps93
 go_wp2_with fail;have hst:=HST.out;generalize ((w.alloc (.cells #[.pointer (some ⟨rb,0,none⟩)] 127)).alloc (.cells #[.int .i64 0,.int .i64 i,.string ⟨#[]⟩,.slice none 0 0,.int .i64 0] 59)) = W0 at hst ⊢
 obtain ⟨hr0,hb0,ht0,hf0⟩:=hst;clear c1 HST;have hE:=ended_any rb i s W0 hr0;have htlt:=(Array.getElem?_eq_some_iff.1 ht0).1;have x0:=zc0 ht0;have x1:=zc1 ht0;have x2:=zc2 ht0;have x3:=zc3 ht0;have x4:=zc4 ht0;have y0:=zf 0 ht0;have y1:=zf 1 ht0;have y2:=zf 2 ht0;have y3:=zf 3 ht0;have y4:=zf 4 ht0
 by_cases hend:s.size≤i
 ·obtain rfl:i = s.size:=by omega
  have hO:tokF s s.size = ⟨4,s.size,⟨#[]⟩,.nil,0,s.size⟩:=by rw [tokF,if_pos (Nat.le_refl _)]
  have HO:=Lib.hid hO;rw [show ((s.size:Int) == (s.size:Int)) = true by simp] at hE;have htset:TokAt (W0.setCell ⟨w.heap.size + 1,0,none⟩ (.int .i64 4)) (w.heap.size + 1) 4 s.size ⟨#[]⟩ (.slice none 0 0) 0:=heap_setCell_same _ _ 0 _ _ (.int .i64 4) ht0;have hrset:RAt (W0.setCell ⟨w.heap.size + 1,0,none⟩ (.int .i64 4)) rb s s.size:=(Below.heap_setCell _ _ _ _ (by have:=HLT.out;show rb ≠ w.heap.size + 1;omega)).trans hr0
  have hfset:FrR rb w.heap.size (fun _=>False) w (W0.setCell ⟨w.heap.size + 1,0,none⟩ (.int .i64 4)):=hf0.trans ⟨rfl,rfl,rfl,by simp,fun b _ ho=>Below.heap_setCell _ _ _ _ (by
   show b ≠ w.heap.size + 1;rcases ho with ho | ho
   ·omega
   ·exact ho.elim)⟩
  have HX:=Lib.hid (And.intro htset (And.intro hrset hfset));have HE:=Lib.hid hE;clear htset hrset hfset hE hr0 hb0 ht0 hf0 hO;refine (HE.out).mono ?_;rintro e w1 ⟨rfl,n1,rfl⟩;go_wp2_with fail;rw [HO.out];exact door_back ⟨4,s.size,⟨#[]⟩,.nil,0,s.size⟩ rfl HX.out.1 HX.out.2.1 (HX.out.2.2.trans (FrR.drewN _ _ _ _ n1)) (fun _ _ _=>⟨Nat.le_refl _,Nat.zero_le _,.inl rfl⟩) (Nat.le_succ _) (by have:=HLT.out;omega)
 ·have hlt:i < s.size:=by omega
  have he:((i:Int) == (s.size:Int)) = false:=by simp;omega
  rw [he] at hE;have hb:byteAt s i = s[i]:=(getB hlt).symm;have b0:=zc0 hb0;have c0:=hr0.c0;have c1:=hr0.c1;have c1f:=hr0.f1;have hne:¬ (rb = w.heap.size + 1):=by have:=HLT.out;omega
  have hne2:¬ (w.heap.size + 1 = rb):=by have:=HLT.out;omega
  have a0:(0:Int)≤(i:Int):=by omega
  have a1:(i:Int) < (s.size:Int):=by omega
  cases h10:((s[i].toNat:Int) == 10)
  ·cases hsg:signB s[i].toNat
   ·have hSg:=fun W=>Cls.sign_any s[i].toNat W;rw [hsg] at hSg;have HSG:=Lib.hid hSg;have HE:=Lib.hid hE;have HR0:=Lib.hid hr0;have HB0:=Lib.hid hb0;have HT0:=Lib.hid ht0;have HF0:=Lib.hid hf0;have HBY:=Lib.hid hb;clear hSg hE hr0 hb0 ht0 hf0 hb;refine (HE.out).mono ?_;rintro e w1 ⟨rfl,n1,rfl⟩;go_wp2_with fail
    go_quiet (fail)
    go_wp2_with fail;have k0:=cell_regrown (w:=W0.drewN (n1 + nq)) (a:=⟨rb,0,none⟩) (v:=.string s) c0;have k1:=cell_regrown (w:=W0.drewN (n1 + nq)) (a:=⟨rb,1,none⟩) (v:=.int .i64 i) c1;have k2:=cell_regrown (w:=W0.drewN (n1 + nq)) (a:=⟨w.heap.size,0,none⟩) (v:=.pointer (some ⟨rb,0,none⟩)) b0;have hSq:∀ dd os,Calls Tryz.prog 122 #[.int .u8 s[i].toNat] (grow (redrawn (W0.drewN (n1 + nq)) dd) os) fun e w''=>e = .returned (.bool false)∧∃ p:Regrown,w'' = grow (redrawn (W0.drewN (n1 + nq)) p.d) p.os:=fun dd os=>(HSG.out _).mono fun e w' h=>⟨h.1,⟨dd,os⟩,h.2.symm⟩;have HSQ:=Lib.hid hSq;clear hSq;refine Qu.region (by kernel_rfl) (by kernel_rfl) ?_
    repeat (first
     | (first | refine Qu.carry0 rfl (fun K hK=>?_) | refine Qu.carryG rfl rfl rfl (fun K hK=>?_)
        go_simp
        first
        | (refine hK _ ?_;clear hK K)
        | (apply Exists.intro;refine ⟨fun _=>?_,hK _ ?_⟩;(exact HSQ.out _ _);clear hK K))
     | (refine Qu.passG rfl rfl rfl (fun K hK=>?_);go_simp;refine hK _ ?_;clear hK K))
    refine Qu.fin ?_;rintro ⟨dq,osq⟩;go_wp2_with fail;have hbl:=below_regrown (W0.drewN (n1 + nq)) dq osq;generalize grow (redrawn (W0.drewN (n1 + nq)) dq) osq = V at hbl ⊢
    have hbV:Below W0.heap.size W0 V:=⟨hbl.os,hbl.tape,hbl.output,hbl.size,hbl.block⟩;have hrV:RAt V rb s i:=(hbV.block _ HR0.out.lt).trans HR0.out;have hBV:=(hbV.block _ (Array.getElem?_eq_some_iff.1 HB0.out).1).trans HB0.out;have hTV:TokAt V (w.heap.size + 1) 0 i ⟨#[]⟩ (.slice none 0 0) 0:=(hbV.block _ htlt).trans HT0.out;have hFV:FrR rb w.heap.size (fun _=>False) w V:=HF0.out.trans ⟨hbV.os,hbV.tape,hbV.output,hbV.size,fun b hb _=>hbV.block b hb⟩;have htV:w.heap.size + 1 < V.heap.size:=Nat.lt_of_lt_of_le htlt hbV.size;have hbare:=bare_step s hs hpl (s.size + 1) 0 i rb V hrV hi (by omega) rfl;have hO0:tokF s i = match bareF (s.size + 1) s 0 A0 i with | .ok l j=>⟨1,i,⟨#[]⟩,l,0,j⟩ | .bad j err=>⟨5,j,⟨#[]⟩,.nil,err,j⟩:=by
     have hn10:¬ byteAt s i = 10:=by
      rw [HBY.out];intro h;rw [h] at h10;exact absurd h10 (by decide)
     have hnsg:¬ signB (byteAt s i).toNat = true:=by rw [HBY.out,hsg];decide
     rw [tokF,if_neg hend,if_neg hn10,if_neg hnsg];rfl
    -- the frame of the reading,over the token's own place and the reader's
    have hblk:∀ V',FrR rb V.heap.size (fun _=>False) V V'→V'.heap[w.heap.size]? = V.heap[w.heap.size]?∧V'.heap[w.heap.size + 1]? = V.heap[w.heap.size + 1]?∧FrR rb w.heap.size (fun _=>False) w V':=fun V' h =>
     ⟨h.block _ (by omega) (.inl ⟨by omega,by have:=HLT.out;omega⟩),h.block _ htV (.inl ⟨htV,hne2⟩),hFV.trans ⟨h.os,h.tape,h.output,h.size,fun b hb ho=>h.block b hb (ho.imp (fun h=>⟨by omega,h.2⟩) id)⟩⟩
    clear hbl hbV x0 x1 x2 x3 x4 y0 y1 y2 y3 y4 b0 c0 c1 c1f k0 k1 k2 HE HR0 HB0 HT0 HF0 HSQ HSG;cases hout:bareF (s.size + 1) s 0 A0 i with
    | bad j err =>
     rw [hout] at hO0;exact absurd (congrArg Tok.k hO0) h5
    | ok l j =>
     rw [hout] at hbare hO0;have HO:=Lib.hid hO0;have HBARE:=Lib.hid hbare;have HBLK:=Lib.hid hblk;have HBV:=Lib.hid hBV;have HTV:=Lib.hid hTV;clear hO0 hbare hblk hBV hTV hrV hFV hout;refine (HBARE.out).mono ?_;rintro e V' ⟨⟨a,cap,rfl,hl'⟩,hr',hf'⟩;have hx:=HBLK.out V' hf';have hT':TokAt V' (w.heap.size + 1) 0 i ⟨#[]⟩ (.slice none 0 0) 0:=hx.2.1.trans HTV.out;have x0:=zc0 hT';have x1:=zc1 hT';have x2:=zc2 hT';have x3:=zc3 hT';have x4:=zc4 hT';have y0:=zf 0 hT';have y1:=zf 1 hT';have y2:=zf 2 hT';have y3:=zf 3 hT';have y4:=zf 4 hT';have HX:=Lib.hid (And.intro hr' (And.intro hl' (And.intro hT' hx)));clear hr' hf' hl' hT' hx;go_wp2_with fail;obtain ⟨hr',hl',hT',_,_,hf'⟩:=HX.out;have hk:∀ b,b ≠ w.heap.size + 1→((V'.setCell ⟨w.heap.size + 1,0,none⟩ (.int .i64 1)).setCell ⟨w.heap.size + 1,3,none⟩ (.slice a l.len cap)).heap[b]? = V'.heap[b]?:=fun b hb=>(Below.heap_setCell _ _ _ _ hb).trans (Below.heap_setCell _ _ _ _ hb);have htW:TokAt ((V'.setCell ⟨w.heap.size + 1,0,none⟩ (.int .i64 1)).setCell ⟨w.heap.size + 1,3,none⟩ (.slice a l.len cap)) (w.heap.size + 1) 1 i ⟨#[]⟩ (.slice a l.len cap) 0:=heap_setCell_same _ _ 3 _ _ (.slice a l.len cap) (heap_setCell_same _ _ 0 _ _ (.int .i64 1) hT');have hrW:RAt ((V'.setCell ⟨w.heap.size + 1,0,none⟩ (.int .i64 1)).setCell ⟨w.heap.size + 1,3,none⟩ (.slice a l.len cap)) rb s j:=(hk rb hne).trans hr'
     have hfW:FrR rb w.heap.size (fun _=>False) w ((V'.setCell ⟨w.heap.size + 1,0,none⟩ (.int .i64 1)).setCell ⟨w.heap.size + 1,3,none⟩ (.slice a l.len cap)):=hf'.trans ⟨(so _ _ _).trans (so _ _ _),(st _ _ _).trans (st _ _ _),(su _ _ _).trans (su _ _ _),by simp,fun b _ ho=>hk b (by
      rcases ho with ho | ho
      ·omega
      ·exact ho.elim)⟩
     have hlW:LiesS (fun b=>w.heap.size≤b∧b ≠ w.heap.size + 1) ((V'.setCell ⟨w.heap.size + 1,0,none⟩ (.int .i64 1)).setCell ⟨w.heap.size + 1,3,none⟩ (.slice a l.len cap)) a cap l:=(hl'.keep (by simp) fun b hb _=>hk b (by omega)).mono fun b hb _=>⟨by omega,by omega⟩;rw [HO.out];exact door_back ⟨1,i,⟨#[]⟩,l,0,j⟩ rfl htW hrW hfW hlW (Nat.le_succ _) hne
   ·have hSg:=fun W=>Cls.sign_any s[i].toNat W;rw [hsg] at hSg;have HSG:=Lib.hid hSg;have HE:=Lib.hid hE;have HR0:=Lib.hid hr0;have HB0:=Lib.hid hb0;have HT0:=Lib.hid ht0;have HF0:=Lib.hid hf0;have HBY:=Lib.hid hb;clear hSg hE hr0 hb0 ht0 hf0 hb;refine (HE.out).mono ?_;rintro e w1 ⟨rfl,n1,rfl⟩;go_wp2_with fail
    go_quiet (fail)
    go_wp2_with fail;have k0:=cell_regrown (w:=W0.drewN (n1 + nq)) (a:=⟨rb,0,none⟩) (v:=.string s) c0;have k1:=cell_regrown (w:=W0.drewN (n1 + nq)) (a:=⟨rb,1,none⟩) (v:=.int .i64 i) c1;have k2:=cell_regrown (w:=W0.drewN (n1 + nq)) (a:=⟨w.heap.size,0,none⟩) (v:=.pointer (some ⟨rb,0,none⟩)) b0;have hSq:∀ dd os,Calls Tryz.prog 122 #[.int .u8 s[i].toNat] (grow (redrawn (W0.drewN (n1 + nq)) dd) os) fun e w''=>e = .returned (.bool true)∧∃ p:Regrown,w'' = grow (redrawn (W0.drewN (n1 + nq)) p.d) p.os:=fun dd os=>(HSG.out _).mono fun e w' h=>⟨h.1,⟨dd,os⟩,h.2.symm⟩;have HSQ:=Lib.hid hSq;clear hSq;refine Qu.region (by kernel_rfl) (by kernel_rfl) ?_
    repeat (first
     | (first | refine Qu.carry0 rfl (fun K hK=>?_) | refine Qu.carryG rfl rfl rfl (fun K hK=>?_)
        go_simp
        first
        | (refine hK _ ?_;clear hK K)
        | (apply Exists.intro;refine ⟨fun _=>?_,hK _ ?_⟩;(exact HSQ.out _ _);clear hK K))
     | (refine Qu.passG rfl rfl rfl (fun K hK=>?_);go_simp;refine hK _ ?_;clear hK K))
    refine Qu.fin ?_;rintro ⟨dq,osq⟩;go_wp2_with fail;have hbl:=below_regrown (W0.drewN (n1 + nq)) dq osq;have hds:(W0.drewN n1).drewN nq = W0.drewN (n1 + nq):=by simp [World.drewN,Nat.add_assoc]
    rw [hds];generalize grow (redrawn (W0.drewN (n1 + nq)) dq) osq = V at hbl ⊢
    have hbV:Below W0.heap.size W0 V:=⟨hbl.os,hbl.tape,hbl.output,hbl.size,hbl.block⟩;have hrV:RAt V rb s i:=(hbV.block _ HR0.out.lt).trans HR0.out;have hBV:=(hbV.block _ (Array.getElem?_eq_some_iff.1 HB0.out).1).trans HB0.out;have hTV:TokAt V (w.heap.size + 1) 0 i ⟨#[]⟩ (.slice none 0 0) 0:=(hbV.block _ htlt).trans HT0.out;have hFV:FrR rb w.heap.size (fun _=>False) w V:=HF0.out.trans ⟨hbV.os,hbV.tape,hbV.output,hbV.size,fun b hb _=>hbV.block b hb⟩;have hsgn:=sign_any (s.extract i s.size) V.drew (by simp [ByteArray.size_extract];omega);rw [extract_end] at hsgn;have htV:w.heap.size + 1 < V.heap.size:=Nat.lt_of_lt_of_le htlt hbV.size;clear x0 x1 x2 x3 x4 y0 y1 y2 y3 y4 b0 c0 c1 c1f k0 k1 k2 HE HR0 HB0 HT0 HF0 HSQ HSG hbl hbV hds;have e0:=hrV.c0;have e1:=hrV.c1;have e2:=zc0 hBV;have x0:=zc0 hTV;have x2:=zc2 hTV;have y0:=zf 0 hTV;have y2:=zf 2 hTV;have a2:(i:Int)≤(s.size:Int):=by omega
    have HSGN:=Lib.hid hsgn;have HRV:=Lib.hid hrV;have HBV:=Lib.hid hBV;have HTV:=Lib.hid hTV;have HFV:=Lib.hid hFV;clear hsgn hrV hBV hTV hFV;refine RN.begins (fun w'=>w'.cell? ⟨rb,0,none⟩ = some (.string s)∧w'.cell? ⟨rb,1,none⟩ = some (.int .i64 (i:Int))∧w'.cell? ⟨w.heap.size,0,none⟩ = some (.pointer (some ⟨rb,0,none⟩))) [11,12,13] (by kernel_rfl) ?_;have hS:V.drew.cell? ⟨rb,0,none⟩ = some (.string s)∧V.drew.cell? ⟨rb,1,none⟩ = some (.int .i64 (i:Int))∧V.drew.cell? ⟨w.heap.size,0,none⟩ = some (.pointer (some ⟨rb,0,none⟩)):=⟨e0,e1,e2⟩;refine RN.take (i:=0) (v:=?_) rfl (by decide) (by kernel_rfl) (by kernel_rfl) (by kernel_rfl) (by kernel_rfl) (by kernel_rfl) (by first | exact fun _ _ _ h=>h | exact fun _ _ _ h=>(by cases h.1) | exact fun _ _ _ h=>door_put (by decide) h) (.inl ⟨by rfl,?_⟩) hS ?_;rotate_left 1
    ·(intro wq hq;obtain ⟨s0,s1,s2⟩:=hq;go_simp;try with_reducible rfl)
    refine RN.take (i:=1) (v:=?_) rfl (by decide) (by kernel_rfl) (by kernel_rfl) (by kernel_rfl) (by kernel_rfl) (by kernel_rfl) (by first | exact fun _ _ _ h=>h | exact fun _ _ _ h=>(by cases h.1) | exact fun _ _ _ h=>door_put (by decide) h) (.inl ⟨by rfl,?_⟩) hS ?_;rotate_left 1
    ·(intro wq hq;obtain ⟨s0,s1,s2⟩:=hq;go_simp;try with_reducible rfl)
    refine RN.take (i:=2) (v:=?_) rfl (by decide) (by kernel_rfl) (by kernel_rfl) (by kernel_rfl) (by kernel_rfl) (by kernel_rfl) (by first | exact fun _ _ _ h=>h | exact fun _ _ _ h=>(by cases h.1) | exact fun _ _ _ h=>door_put (by decide) h) (.inl ⟨by rfl,?_⟩) hS ?_;rotate_left 1
    ·(intro wq hq;obtain ⟨s0,s1,s2⟩:=hq;go_simp;try with_reducible rfl)
    refine RN.take (i:=3) (v:=?_) rfl (by decide) (by kernel_rfl) (by kernel_rfl) (by kernel_rfl) (by kernel_rfl) (by kernel_rfl) (by first | exact fun _ _ _ h=>h | exact fun _ _ _ h=>(by cases h.1) | exact fun _ _ _ h=>door_put (by decide) h) (.inl ⟨by rfl,?_⟩) hS ?_;rotate_left 1
    ·(intro wq hq;obtain ⟨s0,s1,s2⟩:=hq;go_simp;try with_reducible rfl)
    refine RN.take (i:=4) (v:=?_) rfl (by decide) (by kernel_rfl) (by kernel_rfl) (by kernel_rfl) (by kernel_rfl) (by kernel_rfl) (by first | exact fun _ _ _ h=>h | exact fun _ _ _ h=>(by cases h.1) | exact fun _ _ _ h=>door_put (by decide) h) (.inl ⟨by rfl,?_⟩) hS ?_;rotate_left 1
    ·(intro wq hq;obtain ⟨s0,s1,s2⟩:=hq;go_simp;try with_reducible rfl)
    refine RN.take (i:=5) (v:=?_) rfl (by decide) (by kernel_rfl) (by kernel_rfl) (by kernel_rfl) (by kernel_rfl) (by kernel_rfl) (by first | exact fun _ _ _ h=>h | exact fun _ _ _ h=>(by cases h.1) | exact fun _ _ _ h=>door_put (by decide) h) (.inl ⟨by rfl,?_⟩) hS ?_;rotate_left 1
    ·(intro wq hq;obtain ⟨s0,s1,s2⟩:=hq;go_simp;try with_reducible rfl)
    refine RN.take (i:=6) (v:=?_) rfl (by decide) (by kernel_rfl) (by kernel_rfl) (by kernel_rfl) (by kernel_rfl) (by kernel_rfl) (by first | exact fun _ _ _ h=>h | exact fun _ _ _ h=>(by cases h.1) | exact fun _ _ _ h=>door_put (by decide) h) (.inl ⟨by rfl,?_⟩) hS ?_;rotate_left 1
    ·(intro wq hq;obtain ⟨s0,s1,s2⟩:=hq;go_simp;try with_reducible rfl)
    refine RN.take (i:=7) (v:=?_) rfl (by decide) (by kernel_rfl) (by kernel_rfl) (by kernel_rfl) (by kernel_rfl) (by kernel_rfl) (by first | exact fun _ _ _ h=>h | exact fun _ _ _ h=>(by cases h.1) | exact fun _ _ _ h=>door_put (by decide) h) (.inl ⟨by rfl,?_⟩) hS ?_;rotate_left 1
    ·(intro wq hq;obtain ⟨s0,s1,s2⟩:=hq;go_simp;try with_reducible rfl)
    refine RN.take (i:=8) (v:=?_) rfl (by decide) (by kernel_rfl) (by kernel_rfl) (by kernel_rfl) (by kernel_rfl) (by kernel_rfl) (by first | exact fun _ _ _ h=>h | exact fun _ _ _ h=>(by cases h.1) | exact fun _ _ _ h=>door_put (by decide) h) (.inl ⟨by rfl,?_⟩) hS ?_;rotate_left 1
    ·(intro wq hq;obtain ⟨s0,s1,s2⟩:=hq;go_simp;try with_reducible rfl)
    refine RN.take (i:=10) (v:=?_) rfl (by decide) (by kernel_rfl) (by kernel_rfl) (by kernel_rfl) (by kernel_rfl) (by kernel_rfl) (by first | exact fun _ _ _ h=>h | exact fun _ _ _ h=>(by cases h.1) | exact fun _ _ _ h=>door_put (by decide) h) (.inl ⟨by rfl,?_⟩) hS ?_;rotate_left 1
    ·(intro wq hq;obtain ⟨s0,s1,s2⟩:=hq;go_simp;try with_reducible rfl)
    refine RN.all (rs:=[9]) (by kernel_rfl) (by simp) ?_;refine RN.All.cons rfl (fun K hK=>?_) RN.All.nil;go_simp;refine (HSGN.out).mono ?_;rintro e w2 ⟨rfl,rfl⟩;refine hK _ _ (fun _=>hS) ?_;clear hK K;refine RN.all (rs:=[11]) (by kernel_rfl) (by simp) ?_;refine RN.All.cons rfl (fun K hK=>?_) RN.All.nil;go_simp;refine hK _ _ (fun h=>absurd h (by decide)) ?_;clear hK K;refine RN.takeW (i:=12) (v:=?_) rfl (by decide) (by kernel_rfl) (by kernel_rfl) (by kernel_rfl) (by kernel_rfl) (by first | exact fun _ _ _ h=>h | exact fun _ _ _ h=>(by cases h.1) | exact fun _ _ _ h=>door_put (by decide) h) (.inl ⟨by rfl,?_⟩) ?_;rotate_left 1
    ·(intro wq _;go_simp;try with_reducible rfl)
    refine RN.all (rs:=[13]) (by kernel_rfl) (by simp) ?_;refine RN.All.cons rfl (fun K hK=>?_) RN.All.nil;go_simp;refine hK _ _ (fun h=>absurd h (by decide)) ?_;clear hK K hS;refine RN.done (by kernel_rfl) ?_ _;have hk:∀ b,b ≠ w.heap.size + 1→((V.setCell ⟨w.heap.size + 1,0,none⟩ (.int .i64 2)).setCell ⟨w.heap.size + 1,2,none⟩ (.string ((s.extract i s.size).extract 0 (signLen (restAt s i))))).heap[b]? = V.heap[b]?:=fun b hb=>(Below.heap_setCell _ _ _ _ hb).trans (Below.heap_setCell _ _ _ _ hb);have htS:TokAt ((V.setCell ⟨w.heap.size + 1,0,none⟩ (.int .i64 2)).setCell ⟨w.heap.size + 1,2,none⟩ (.string ((s.extract i s.size).extract 0 (signLen (restAt s i))))) (w.heap.size + 1) 2 i ((s.extract i s.size).extract 0 (signLen (restAt s i))) (.slice none 0 0) 0:=heap_setCell_same _ _ 2 _ _ (.string ((s.extract i s.size).extract 0 (signLen (restAt s i)))) (heap_setCell_same _ _ 0 _ _ (.int .i64 2) HTV.out);have hrS:RAt ((V.setCell ⟨w.heap.size + 1,0,none⟩ (.int .i64 2)).setCell ⟨w.heap.size + 1,2,none⟩ (.string ((s.extract i s.size).extract 0 (signLen (restAt s i))))) rb s i:=(hk rb hne).trans HRV.out;have hBS:=(hk w.heap.size (by omega)).trans HBV.out
    have hFS:FrR rb w.heap.size (fun _=>False) w ((V.setCell ⟨w.heap.size + 1,0,none⟩ (.int .i64 2)).setCell ⟨w.heap.size + 1,2,none⟩ (.string ((s.extract i s.size).extract 0 (signLen (restAt s i))))):=HFV.out.trans ⟨(so _ _ _).trans (so _ _ _),(st _ _ _).trans (st _ _ _),(su _ _ _).trans (su _ _ _),by simp,fun b _ ho=>hk b (by
     rcases ho with ho | ho
     ·omega
     ·exact ho.elim)⟩
    generalize ((V.setCell ⟨w.heap.size + 1,0,none⟩ (.int .i64 2)).setCell ⟨w.heap.size + 1,2,none⟩ (.string ((s.extract i s.size).extract 0 (signLen (restAt s i))))) = U at htS hrS hBS hFS ⊢
    have hTn:signLen (restAt s i)≤s.size - i:=by
     have h1:=signDown_le (restAt s i) (min 2 (restAt s i).length);rw [restAt_len] at h1;unfold signLen;rw [restAt_len];omega
    have hn10:¬ byteAt s i = 10:=by
     rw [HBY.out];intro h;rw [h] at h10;exact absurd h10 (by decide)
    have hysg:signB (byteAt s i).toNat = true:=by rw [HBY.out,hsg]
    have hO:tokF s i = if signLen (restAt s i) = 0 then ⟨5,i,⟨#[]⟩,.nil,1,i⟩ else ⟨2,i,(s.extract i s.size).extract 0 (signLen (restAt s i)),.nil,0,i + signLen (restAt s i)⟩:=by rw [tokF,if_neg hend,if_neg hn10,if_pos hysg]
    have hTs:((s.extract i s.size).extract 0 (signLen (restAt s i))).size = signLen (restAt s i):=by simp [ByteArray.size_extract];omega
    generalize (s.extract i s.size).extract 0 (signLen (restAt s i)) = T at htS hO hTs ⊢
    generalize signLen (restAt s i) = n at hO hTs hTn ⊢
    clear e0 e1 e2 x0 x2 y0 y2 HSGN HRV HBV HTV HFV hk;have e0:=hrS.c0;have e1:=hrS.c1;have e1f:=hrS.f1;have e2:=zc0 hBS;have x0:=zc0 htS;have x1:=zc1 htS;have x2:=zc2 htS;have x3:=zc3 htS;have x4:=zc4 htS;have y0:=zf 0 htS;have y1:=zf 1 htS;have y2:=zf 2 htS;have y3:=zf 3 htS;have y4:=zf 4 htS;have HTS:=Lib.hid htS;have HRS:=Lib.hid hrS;have HBS:=Lib.hid hBS;have HFS:=Lib.hid hFS;have HO:=Lib.hid hO;have HTs:=Lib.hid hTs;clear htS hrS hBS hFS hO hTs hn10 hysg
    by_cases hn0:n = 0
    ·exact absurd (congrArg Tok.k (HO.out.trans (if_pos hn0))) h5
    ·have hemp:T.toList.isEmpty = false:=by
      have h1:T.data.toList.length = n:=HTs.out;rw [Lib.toList_data];cases h2:T.data.toList with
      | nil=>rw [h2] at h1;simp at h1;omega
      | cons=>rfl
     have HN0:=Lib.hid hn0;clear hn0;obtain rfl:=HTs.out;have hx:IntKind.i64.wrap ((i:Int) + (T.size:Int)) = (i:Int) + (T.size:Int):=wrapI _ (by omega) (by omega);have hrE:=HRS.out.set (i + T.size);rw [show ((i + T.size:Nat):Int) = (i:Int) + (T.size:Int) by omega] at hrE;have htE:TokAt (U.setCell ⟨rb,1,none⟩ (.int .i64 ((i:Int) + (T.size:Int)))) (w.heap.size + 1) 2 i T (.slice none 0 0) 0:=(Below.heap_setCell _ _ _ _ hne2).trans HTS.out;have HE9:=Lib.hid (And.intro htE (And.intro hrE (HFS.out.set (fun h=>h) 1 (.int .i64 ((i:Int) + (T.size:Int))))));clear htE hrE;go_wp2_with fail;refine RN.begins (fun w'=>w'.cell? ⟨rb,1,none⟩ = some (.int .i64 (i:Int))∧w'.cell? ⟨w.heap.size,0,none⟩ = some (.pointer (some ⟨rb,0,none⟩))∧w'.cell? ⟨w.heap.size + 1,2,none⟩ = some (.string T)) [10] (by kernel_rfl) ?_;have hS:U.drew.cell? ⟨rb,1,none⟩ = some (.int .i64 (i:Int))∧U.drew.cell? ⟨w.heap.size,0,none⟩ = some (.pointer (some ⟨rb,0,none⟩))∧U.drew.cell? ⟨w.heap.size + 1,2,none⟩ = some (.string T):=⟨e1,e2,x2⟩;refine RN.take (i:=0) (v:=?_) rfl (by decide) (by kernel_rfl) (by kernel_rfl) (by kernel_rfl) (by kernel_rfl) (by kernel_rfl) (by first | exact fun _ _ _ h=>h | exact fun _ _ _ h=>(by cases h.1) | exact fun _ _ _ h=>door_put (by decide) h) (.inl ⟨by rfl,?_⟩) hS ?_;rotate_left 1
     ·(intro wq hq;obtain ⟨s0,s1,s2⟩:=hq;go_simp;try with_reducible rfl)
     refine RN.take (i:=1) (v:=?_) rfl (by decide) (by kernel_rfl) (by kernel_rfl) (by kernel_rfl) (by kernel_rfl) (by kernel_rfl) (by first | exact fun _ _ _ h=>h | exact fun _ _ _ h=>(by cases h.1) | exact fun _ _ _ h=>door_put (by decide) h) (.inl ⟨by rfl,?_⟩) hS ?_;rotate_left 1
     ·(intro wq hq;obtain ⟨s0,s1,s2⟩:=hq;go_simp;try with_reducible rfl)
     refine RN.take (i:=2) (v:=?_) rfl (by decide) (by kernel_rfl) (by kernel_rfl) (by kernel_rfl) (by kernel_rfl) (by kernel_rfl) (by first | exact fun _ _ _ h=>h | exact fun _ _ _ h=>(by cases h.1) | exact fun _ _ _ h=>door_put (by decide) h) (.inl ⟨by rfl,?_⟩) hS ?_;rotate_left 1
     ·(intro wq hq;obtain ⟨s0,s1,s2⟩:=hq;go_simp;try with_reducible rfl)
     refine RN.take (i:=3) (v:=?_) rfl (by decide) (by kernel_rfl) (by kernel_rfl) (by kernel_rfl) (by kernel_rfl) (by kernel_rfl) (by first | exact fun _ _ _ h=>h | exact fun _ _ _ h=>(by cases h.1) | exact fun _ _ _ h=>door_put (by decide) h) (.inl ⟨by rfl,?_⟩) hS ?_;rotate_left 1
     ·(intro wq hq;obtain ⟨s0,s1,s2⟩:=hq;go_simp;try with_reducible rfl)
     refine RN.take (i:=4) (v:=?_) rfl (by decide) (by kernel_rfl) (by kernel_rfl) (by kernel_rfl) (by kernel_rfl) (by kernel_rfl) (by first | exact fun _ _ _ h=>h | exact fun _ _ _ h=>(by cases h.1) | exact fun _ _ _ h=>door_put (by decide) h) (.inl ⟨by rfl,?_⟩) hS ?_;rotate_left 1
     ·(intro wq hq;obtain ⟨s0,s1,s2⟩:=hq;go_simp;try with_reducible rfl)
     refine RN.take (i:=5) (v:=?_) rfl (by decide) (by kernel_rfl) (by kernel_rfl) (by kernel_rfl) (by kernel_rfl) (by kernel_rfl) (by first | exact fun _ _ _ h=>h | exact fun _ _ _ h=>(by cases h.1) | exact fun _ _ _ h=>door_put (by decide) h) (.inl ⟨by rfl,?_⟩) hS ?_;rotate_left 1
     ·(intro wq hq;obtain ⟨s0,s1,s2⟩:=hq;go_simp;try with_reducible rfl)
     refine RN.take (i:=6) (v:=?_) rfl (by decide) (by kernel_rfl) (by kernel_rfl) (by kernel_rfl) (by kernel_rfl) (by kernel_rfl) (by first | exact fun _ _ _ h=>h | exact fun _ _ _ h=>(by cases h.1) | exact fun _ _ _ h=>door_put (by decide) h) (.inl ⟨by rfl,?_⟩) hS ?_;rotate_left 1
     ·(intro wq hq;obtain ⟨s0,s1,s2⟩:=hq;go_simp;try with_reducible rfl)
     refine RN.take (i:=7) (v:=?_) rfl (by decide) (by kernel_rfl) (by kernel_rfl) (by kernel_rfl) (by kernel_rfl) (by kernel_rfl) (by first | exact fun _ _ _ h=>h | exact fun _ _ _ h=>(by cases h.1) | exact fun _ _ _ h=>door_put (by decide) h) (.inl ⟨by rfl,?_⟩) hS ?_;rotate_left 1
     ·(intro wq hq;obtain ⟨s0,s1,s2⟩:=hq;go_simp;try with_reducible rfl)
     refine RN.take (i:=8) (v:=?_) rfl (by decide) (by kernel_rfl) (by kernel_rfl) (by kernel_rfl) (by kernel_rfl) (by kernel_rfl) (by first | exact fun _ _ _ h=>h | exact fun _ _ _ h=>(by cases h.1) | exact fun _ _ _ h=>door_put (by decide) h) (.inl ⟨by rfl,?_⟩) hS ?_;rotate_left 1
     ·(intro wq hq;obtain ⟨s0,s1,s2⟩:=hq;go_simp;try with_reducible rfl)
     refine RN.take (i:=9) (v:=?_) rfl (by decide) (by kernel_rfl) (by kernel_rfl) (by kernel_rfl) (by kernel_rfl) (by kernel_rfl) (by first | exact fun _ _ _ h=>h | exact fun _ _ _ h=>(by cases h.1) | exact fun _ _ _ h=>door_put (by decide) h) (.inl ⟨by rfl,?_⟩) hS ?_;rotate_left 1
     ·(intro wq hq;obtain ⟨s0,s1,s2⟩:=hq;go_simp;try with_reducible rfl)
     refine RN.all (rs:=[10]) (by kernel_rfl) (by simp) ?_;refine RN.All.cons rfl (fun K hK=>?_) RN.All.nil;go_simp;refine hK _ _ (fun h=>absurd h (by decide)) ?_;clear hK K hS;refine RN.done (by kernel_rfl) ?_ _;go_wp2_with fail;rw [HO.out,if_neg HN0.out];exact door_back2 (W:=U.setCell ⟨rb,1,none⟩ (.int .i64 ((i:Int) + (T.size:Int)))) ⟨2,i,T,.nil,0,i + T.size⟩ rfl HE9.out.1 HE9.out.2.1 HE9.out.2.2 (fun _ _ _=>⟨Nat.le_refl _,Nat.zero_le _,.inl rfl⟩) (Nat.le_succ _) hne
  ·have hO:tokF s i = ⟨3,i,⟨#[]⟩,.nil,0,i + 1⟩:=by
    rw [tokF,if_neg hend,if_pos];rw [hb];apply UInt8.toNat_inj.1;have:=of_decide_eq_true h10;simp at h10
    exact_mod_cast h10
   have HO:=Lib.hid hO;have htset:TokAt (W0.setCell ⟨w.heap.size + 1,0,none⟩ (.int .i64 3)) (w.heap.size + 1) 3 i ⟨#[]⟩ (.slice none 0 0) 0:=heap_setCell_same _ _ 0 _ _ (.int .i64 3) ht0;have hrset:RAt (W0.setCell ⟨w.heap.size + 1,0,none⟩ (.int .i64 3)) rb s i:=(Below.heap_setCell _ _ _ _ (by have:=HLT.out;show rb ≠ w.heap.size + 1;omega)).trans hr0
   have hfset:FrR rb w.heap.size (fun _=>False) w (W0.setCell ⟨w.heap.size + 1,0,none⟩ (.int .i64 3)):=hf0.trans ⟨rfl,rfl,rfl,by simp,fun b _ ho=>Below.heap_setCell _ _ _ _ (by
    show b ≠ w.heap.size + 1;rcases ho with ho | ho
    ·omega
    ·exact ho.elim)⟩
   have hrset2:=hrset.set (i + 1);rw [show ((i + 1:Nat):Int) = (i:Int) + 1 by omega] at hrset2;have htset2:TokAt ((W0.setCell ⟨w.heap.size + 1,0,none⟩ (.int .i64 3)).setCell ⟨rb,1,none⟩ (.int .i64 ((i:Int) + 1))) (w.heap.size + 1) 3 i ⟨#[]⟩ (.slice none 0 0) 0:=(Below.heap_setCell _ _ _ _ (by have:=HLT.out;show w.heap.size + 1 ≠ rb;omega)).trans htset;have HX:=Lib.hid (And.intro htset2 (And.intro hrset2 (hfset.set (fun h=>h) 1 (.int .i64 ((i:Int) + 1)))));have HE:=Lib.hid hE;clear htset hrset hfset htset2 hrset2 hE hr0 hb0 ht0 hf0 hO hb;refine (HE.out).mono ?_;rintro e w1 ⟨rfl,n1,rfl⟩;go_wp2_with fail
   go_quiet (fail)
   go_wp2_with fail;rw [HO.out];exact door_back ⟨3,i,⟨#[]⟩,.nil,0,i + 1⟩ rfl HX.out.1 HX.out.2.1 (HX.out.2.2.trans (FrR.drewN _ _ _ _ (n1 + nq))) (fun _ _ _=>⟨Nat.le_refl _,Nat.zero_le _,.inl rfl⟩) (Nat.le_succ _) hne
end Lx
end Go.Proofs.YtjmpfihopeohbaaGreatDoor
