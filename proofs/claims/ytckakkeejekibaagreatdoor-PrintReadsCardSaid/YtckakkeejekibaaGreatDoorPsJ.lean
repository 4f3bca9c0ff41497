/- Split, into new memory; assigns. -/
import Derived.Test.YtckakkeejekibaaGreatDoorPsH
set_option maxHeartbeats 1600000
set_option maxRecDepth 100000
namespace Go.Proofs.YtckakkeejekibaaGreatDoor
open Go.RowKit Go.Sort
namespace Ps
open j6 Pt Tr Sp Lx
theorem Nf (k:Int) (q:Bool) (t o:ByteArray) (f r:PL) (n:Nat) (a:Option Addr) (cap:Nat) (m:Int) (w:World) (hl:gJ w a cap (.cons k q t o f r)) (bU:(PL.cons k q t o f r).size≤1000000) (Mm:t.size≤1000000) (hm:w.cell? ⟨0,0,none⟩ = some (.int .i64 m)) (hn:splitP (.cons k q t o f r) = some n) :
  Calls Tryz.prog 137 #[.slice a (r.len + 1) cap] w fun e w'=>(∃ a' gK,e = .returned (.tuple #[.string ⟨(t.data.toList.take n).toArray⟩,.slice a' (restP (.cons k q t o f r) n).len gK,.bool true])∧cu (fun b=>w.heap.size≤b) w' a' gK (restP (.cons k q t o f r) n))∧Below w.heap.size w w':=by
 obtain ⟨b1,p1,rfl,aP,qG,tY,wM,wN,ht,ho,a1,lJ,wB,mU⟩:=hl.get (i:=0) rfl;rw [Nat.zero_mul,Nat.add_zero] at qG tY wM wN wB;have uh:(k == 1) = true∧q = false∧Py t.data.toList = some n:=by
  simp only [splitP] at hn;split at hn
  ·rename_i h;simp only [ud,Bool.not_eq_true'] at h;exact ⟨h.1,h.2,hn⟩
  ·cases hn
 obtain ⟨hk,rfl,he⟩:=uh;have rU:(k != 1) = false:=by simp only [bne,hk];rfl
 obtain ⟨hi,hnm,aB⟩:=sw he;have uG:=Dv t m w Mm hm;rw [Jv,if_pos (by rw [hi];omega),hi,Int.toNat_natCast] at uG;have e1:bV (⟨(t.data.toList.take n).toArray⟩:ByteArray).data.toList = true:=by simpa using hnm
 have pE:=fun w=>j6.jq ⟨(t.data.toList.take n).toArray⟩ w (Nat.le_trans (by show (List.toArray _).size≤_;rw [List.size_toArray];exact yF _ t) (show t.size≤9223372036854775807 by unfold R at ht;omega));rw [e1] at pE;have jD:(((r.len + 1:Nat):Int) == 0) = false:=by simp;omega
 have Jd:((r.len:Int) + 1 == 0) = false:=by simp;omega
 have hle:=hl.le;have MN:r.len≤140737488351232:=by simp only [PL.len] at hle;omega
 have HC:=kq uG;have KW:=kq pE;have HL:=kq hl;have Ur:=kq mU;have HS:=kq bU;have eG:=kq aB;clear uG pE hnm hn he e1 hl mU hm bU hi aB hle
 by_cases hr:t.size≤n + 1
 ·have qO:(List.drop (n + 1) t.data.toList).isEmpty = true:=by
   simp;omega
  have HR:=kq hr;clear hr;go_enter Tryz.func137,Tryz.ntmps137
  go_wp2_with (first
   | (go_at_call 159;refine (HC.out).mono ?_;rintro e w1 ⟨rfl,hb⟩;have iR:=kq hb;clear hb)
   | (go_at_call 79;refine (KW.out _).mono ?_;rintro e w' ⟨rfl,rfl⟩))
  case inl =>
   refine (nL (r.size + 1) r _ _ _ (by omega) (by have:=HS.out;simp only [PL.size] at this;omega) (Ci (by have:=HL.out.1;simp only [PL.len] at this;omega))).mono ?_;rintro e w2 ⟨a2,sZ,rfl,d9,lK,_⟩;have kR:=kq d9;have uF:=kq lK;clear d9 lK;go_wp2
   go_ret3
   have hR:restP (PL.cons k false t o f r) n = r:=if_pos HR.out;rw [hR];exact ⟨⟨a2,sZ,rfl,fun w3 h3 Wi=>uF.out w3 h3 fun b hb aB=>Wi b (Nat.le_trans iR.out.size hb) aB⟩,ak iR.out kR.out⟩
  case inr =>
   refine (nL (r.size + 1) r _ _ _ (by omega) (by have:=HS.out;simp only [PL.size] at this;omega) (Cg (HL.out.below iR.out))).mono ?_;rintro e w2 ⟨a2,sZ,rfl,d9,lK,_⟩;have kR:=kq d9;have uF:=kq lK;clear d9 lK;go_wp2
   go_ret3
   have hR:restP (PL.cons k false t o f r) n = r:=if_pos HR.out;rw [hR];exact ⟨⟨a2,sZ,rfl,fun w3 h3 Wi=>uF.out w3 h3 fun b hb aB=>Wi b (Nat.le_trans iR.out.size hb) aB⟩,ak iR.out kR.out⟩
 ·have qO:(List.drop (n + 1) t.data.toList).isEmpty = false:=by
   simp;omega
  have HR:=kq hr;clear hr;go_enter Tryz.func137,Tryz.ntmps137
  go_wp2_with (first
   | (go_at_call 159;refine (HC.out).mono ?_;rintro e w1 ⟨rfl,hb⟩;have iR:=kq hb;clear hb)
   | (go_at_call 79;refine (KW.out _).mono ?_;rintro e w' ⟨rfl,rfl⟩))
  refine (nL ((PL.cons k false t o f r).size + 1) (.cons k false t o f r) _ _ _ (by omega) HS.out (HL.out.below iR.out)).mono ?_;rintro e w2 ⟨a2,sZ,he,d9,lK,au⟩;rw [show (PL.cons k false t o f r).len = r.len + 1 from rfl] at he;subst he;obtain ⟨rfl,Bz,row,au⟩:=au (by simp);have hx:w2.cell? ⟨w1.heap.size,2,none⟩ = some (.string t):=(Bz 0 k false t o f r (by simp [PL.len]) rfl).1.2.2.1;have hf:=frozen_of_row _ _ 2 _ _ au;have kR:=kq d9;have uF:=kq lK;have VQ:=kq Bz;have aY:=kq au;clear d9 lK Bz au;go_wp2
  go_ret3
  have hR:restP (PL.cons k false t o f r) n = .cons k false ⟨(t.data.toList.drop (n + 1)).toArray⟩ o f r:=if_neg HR.out;rw [hR];have hs:(⟨(t.data.toList.drop (n + 1)).toArray⟩:ByteArray).size≤R:=by simp only [ByteArray.size,List.size_toArray,List.length_drop];rw [iE];omega
  have Xc:=Pz VQ.out hs aY.out;have Gf:=uF.out.lies;exact ⟨⟨_,sZ,rfl,fun w3 h3 Wi=>⟨Gf.1,Gf.2.1,.inr ⟨_,_,rfl,(Xc.keep h3 fun b hb aB=>Wi b (Nat.le_trans iR.out.size hb) aB).at⟩⟩⟩,ak iR.out (kR.out.setCell (vi _) _)⟩
theorem Y3:(Tryz.prog.info? 42).map (fun i=>(i.zero,i.size,i.bytes)) = some (some (.agg #[.string ⟨#[]⟩,.slice none 0 0]),2,40):=by kernel_rfl
theorem D8 {k:Int} {q:Bool} {t o:ByteArray} {f r l:PL} (h:l = .cons k q t o f r):t.size≤ftot l:=by rw [h];simp only [ftot];omega
theorem Ng (l:PL) (a:Option Addr) (cap:Nat) (m:Int) (w:World) (hl:gJ w a cap l) (hf:ftot l≤1000000) (hm:w.cell? ⟨0,0,none⟩ = some (.int .i64 m)) :
  Calls Tryz.prog 137 #[.slice a l.len cap] w fun e w'=>Below w.heap.size w w'∧match splitA l with
   | some x=>∃ a' gK,e = .returned (.tuple #[.string x.1,.slice a' x.2.len gK,.bool true])∧x.1.size≤R∧cu (fun b=>w.heap.size≤b) w' a' gK x.2
   | none=>e = .returned (.tuple #[.string ⟨#[]⟩,.slice none 0 0,.bool false]):=by
 have bU:=tF l;cases hs:splitP l with
 | none =>
  have:splitA l = none:=by
   unfold splitA;rw [hs];cases l <;> rfl
  rw [this];exact (Gd l a cap m w hl (by omega) (fun k q t o f r h=>by have:=D8 h;omega) hm hs).mono fun _ _ ⟨h1,h2⟩=>⟨h2,h1⟩
 | some n =>
  cases l with
  | nil=>simp [splitP] at hs
  | cons k q t o f r =>
   have ht:=D8 (l:=.cons k q t o f r) rfl;have:splitA (.cons k q t o f r) = some (⟨(t.data.toList.take n).toArray⟩,restP (.cons k q t o f r) n):=by
    unfold splitA;rw [hs]
   rw [this];refine (Nf k q t o f r n a cap m w hl (by omega) (by omega) hm hs).mono fun e w' ⟨⟨a',gK,he,A9⟩,hb⟩=>⟨hb,a',gK,he,?_,A9⟩;have h1:=yF n t;show (List.toArray _).size≤R;rw [List.size_toArray];unfold R;omega
theorem GQ (S:Nat→Prop) (pb:Nat) (s:ByteArray) (hs:s.size≤400000) (o:Tok) (d:Nat) (w:World) (h:jl S w pb s o d) :
  Calls Tryz.prog 190 #[.pointer (some ⟨pb,0,none⟩)] w (Does S pb s d w (Ov 2 PA) (jv s o)):=by
 obtain ⟨i0,hi,qd,kQ,lM⟩:=info_parts Y3;have H:=kq h;have HI:=kq hi;have ym:=kq qd;have o9:=kq kQ;have lD:=kq lM;clear h hi qd kQ lM;go_enter Tryz.func190,Tryz.ntmps190;go_wp2_with fail
 go_loopw [3] (fun v wr=>∃ (n:Nat) (q:Tok) (l:List (ByteArray × PL)),assignsN s n l q = jv s o∧mu s q < n∧l.length + mu s q≤F s∧On EA 2 42 S pb s d w wr q v l) (fun v wr=>TA s pb wr)
 case atStart=>exact ⟨F s,o,[],rfl,tX s o,by have:=tX s o;simp only [zZ];omega,On.start H.out⟩
 case round =>
  obtain ⟨n,q,l,hn,yP,Mr,⟨K,hp,au,hK⟩,hf⟩:=hrel;obtain ⟨n,rfl⟩:∃ m,n = m + 1:=⟨n - 1,by omega⟩;have Al:=hp.mW;obtain ⟨a,cap,hr,hl⟩:=hp.ex;obtain ⟨m,hm⟩:=hp.m;have c1:=dA hr;have c4:=dS hr;have hle:=hl.lies.le;have KE:=Ng q.l a cap m wr hl.lies (by have:=hp.ok.f;omega) hm;have uA:=fun w' (hb:Below wr.heap.size wr w')=>jM K pb s hs q d w' (hp.below hb);have HN:=kq hn;have HF:=kq hf;have HP:=kq hp;have Ik:=kq Al;have TB:=kq yP;have UQ:=kq Mr;have aY:=kq au;have HK:=kq hK;clear hn hf hp Al yP Mr au hK hr hl
  by_cases hk:q.k = 1
  ·have wC:((q.k:Int) == 1) = true:=by rw [hk];rfl
   have hnm:=fun p=>nH (s:=s) (o:=q) (q:=p) HP.out.ok (by omega);cases hA:splitA q.l with
   | none =>
    have hn:Rs.ok l q = jv s o:=by rw [← HN.out,assignsN,if_pos hk,hA]
    rw [hA] at KE;have y8:=kq hn;have HS:=kq KE;clear hn HN hk KE hA hnm uA;go_wp2_with fail;refine HS.out.mono ?_;rintro e w1 ⟨hb,rfl⟩;have ah:On EA 2 42 S pb s d w w1 q u3 l:=⟨⟨K,HP.out.below hb,aY.out.to CJ hb.size (fun b _ aB=>hb.block b aB) (fun b hb _=>hb) aY.out.out,fun b yV=>(HK.out b yV).imp id fun h=>by have:=hb.size;omega⟩,HF.out.trans (jU.of_below hb)⟩;have ae:=kq ah;clear ah hb;go_wp2_with fail;go_ret;rw [← y8.out];exact On.done CJ H.out ae.out (by have:=UQ.out;unfold F at this;unfold R;omega)
   | some x =>
    have hn:((dL s q).bind fun _ o=>assignsN s n (l ++ [x]) o) = jv s o:=by rw [← HN.out,assignsN,if_pos hk,hA]
    rw [hA] at KE;have y8:=kq hn;have HS:=kq KE;clear hn HN hk KE hA;clear uA;go_wp2_with fail;refine HS.out.mono ?_;rintro e w1 ⟨hb,a1,pW,rfl,yC,mU⟩;obtain ⟨xs,hm⟩:=Mid.of CJ H.out aY.out HP.out HK.out HF.out (jU.of_below hb) ((HP.out.below hb).up HP.out.pb) (vs:=[.string x.1,.slice a1 x.2.len pW]) (t:=x) ⟨a1,pW,rfl,yC,mU.mono fun b yV aB=>.inr ⟨yV,aB⟩⟩ (.cells #[.string x.1,.slice a1 x.2.len pW] 42);have HM:=kq hm;have Mr:l.length≤2000100:=by have:=UQ.out;unfold F at this;omega
    have kQ:w.heap.size≤w1.heap.size:=Nat.le_trans HF.out.size hb.size;clear hb mU hm;go_wp2_with (at_builtin;refine wpList_append_lies _ rfl (.tmp 25) (.tmp 29) 22 rfl w.heap.size 42 i0 (.agg #[.string ⟨#[]⟩,.slice none 0 0]) 2 40 Tryz.underlying22 HI.out ym.out o9.out lD.out rfl (by decide) u3 l.length xs rfl HM.out.own ⟨w1.heap.size,0,none⟩ 1 1 [.string x.1,.slice a1 x.2.len pW] ?c0 rfl ?c2 ?c3 (by decide) ?c4 ?c5 ?c6 (w1.heap.size + 1) ?c7 ?_)
    case c0=>rfl
    case c2=>exact World.news_of_block (cs:=#[.string x.1,.slice a1 x.2.len pW]) (t:=42) (fr:=(0,0)) (heap_alloc_new _ _)
    case c3=>simp [Value.oneCell']
    case c4=>unfold maxLen;omega
    case c5=>omega
    case c6=>simp only [zd];omega
    case c7=>simp only [zd]
    intro g gH w3 jm dI gT aB;obtain ⟨⟨K3,hp3,hrow3,hK3⟩,Ca⟩:=HM.out.on CJ jm dI (by simpa only [zd] using gT);have uA:=jM K3 pb s hs q d w3 hp3;have HP3:=kq hp3;have HR3:=kq hrow3;have KG:=kq hK3;have Xj:=kq Ca;clear jm dI gT aB hp3 hrow3 hK3 Ca;cases hr:dL s q with
    | bad i er =>
     rw [hr] at uA;have nR:jv s o = .bad i er:=by rw [← y8.out,hr];rfl
     have HX:=kq uA;clear uA hr hnm;go_wp2_with fail;refine HX.out.mono ?_;rintro e w4 ⟨wV,rfl⟩;have HD:Does S pb s d w (Ov 2 PA) (jv s o) (aA i er) w4:=by rw [nR];exact ⟨Xj.out.trans wV,rfl⟩
     clear wV nR;go_wp2_with fail;exact ⟨rfl,HD⟩
    | ok u p =>
     rw [hr] at uA;have nR:assignsN s n (l ++ [x]) p = jv s o:=by rw [← y8.out,hr];rfl
     have Wj:=hnm p hr;have HX:=kq uA;clear uA hr hnm;go_wp2_with fail;refine HX.out.mono ?_;rintro e w4 ⟨wV,⟨v4,rfl,rfl⟩,Om⟩;have ae:=kq (On.step CJ H.out HP3.out HR3.out KG.out Xj.out wV Om);have KL:=kq nR;have Y4:=kq Wj;clear wV Om nR Wj;go_wp2_with fail;go_roundw
     case rel =>
      have hm:=Y4.out.1;have h1:=TB.out;have h2:=UQ.out;exact ⟨n,p,l ++ [x],KL.out,by omega,by rw [zI,List.length_singleton];omega,ae.out⟩
     case measure =>
      have:=Y4.out.1;have e1:=Ik.out;obtain ⟨K2,lF,_⟩:=ae.out.ex;have e2:=lF.mW;omega
  ·have wC:((q.k:Int) == 1) = false:=by rw [beq_eq_false_iff_ne];omega
   have hn:Rs.ok l q = jv s o:=by rw [← HN.out,assignsN,if_neg hk]
   have y8:=kq hn;clear hn HN hk KE uA;go_wp2_with fail;go_ret;rw [← y8.out];exact On.done CJ H.out ⟨⟨K,HP.out,aY.out,HK.out⟩,HF.out⟩ (by have:=UQ.out;unfold F at this;unfold R;omega)
end Ps
namespace Ps
open j6 Pt Tr Sp Lx
def HoldsK (S:Nat→Prop) (w:World) (x:ND) (a1:Option Addr) (c1:Nat) (a2:Option Addr) (c2:Nat) (a3:Option Addr) (c3:Nat) (a4:Option Addr) (c4:Nat) (a5:Option Addr) (c5:Nat):Prop:=KS S w fun w2=>Holds w2 x.nm x.az x.ws x.ks x.bs x.cz a1 c1 a2 c2 a3 c3 a4 c4 a5 c5
def Iu (x:ND) (a1:Option Addr) (c1:Nat) (a2:Option Addr) (c2:Nat) (a3:Option Addr) (c3:Nat) (a4:Option Addr) (c4:Nat) (a5:Option Addr) (c5:Nat):List Value :=
 [.int .i64 x.k,.string x.nm,.bool x.g,.slice a1 x.az.length c1,.slice a2 x.ws.length c2,.slice a3 x.ks.len c3,.slice a4 x.bs.length c4,.slice a5 x.cz.len c5]
def EN (S:Nat→Prop) (w:World) (vs:List Value) (x:ND):Prop:=∃ a1 c1 a2 c2 a3 c3 a4 c4 a5 c5,vs = Iu x a1 c1 a2 c2 a3 c3 a4 c4 a5 c5∧HoldsK S w x a1 c1 a2 c2 a3 c3 a4 c4 a5 c5
def PN (w:World) (b o:Nat) (x:ND):Prop:=∃ a1 c1 a2 c2 a3 c3 a4 c4 a5 c5,(∀ j v,(Iu x a1 c1 a2 c2 a3 c3 a4 c4 a5 c5)[j]? = some v→w.cell? ⟨b,o + j,none⟩ = some v)∧Holds w x.nm x.az x.ws x.ks x.bs x.cz a1 c1 a2 c2 a3 c3 a4 c4 a5 c5
theorem aj:Elem 8 EN PN where
 len:=fun ⟨_,_,_,_,_,_,_,_,_,_,h,_⟩=>by rw [h];rfl
 tq:=fun ⟨a1,c1,a2,c2,a3,c3,a4,c4,a5,c5,h,hh⟩ hs hk hS=>⟨a1,c1,a2,c2,a3,c3,a4,c4,a5,c5,h,KS.to hh hs hk hS⟩
 cell:=fun ⟨a1,c1,a2,c2,a3,c3,a4,c4,a5,c5,h,hh⟩ hc=>⟨a1,c1,a2,c2,a3,c3,a4,c4,a5,c5,fun j v hv=>hc j v (by rw [h];exact hv),hh.now⟩
def VN (S:Nat→Prop) (w:World) (v:Value) (x:ND):Prop:=∃ a1 c1 a2 c2 a3 c3 a4 c4 a5 c5,v = .agg (Iu x a1 c1 a2 c2 a3 c3 a4 c4 a5 c5).toArray∧HoldsK S w x a1 c1 a2 c2 a3 c3 a4 c4 a5 c5
theorem jW:∀ l:List ND,(toN l).len = l.length
 | []=>rfl
 | _ :: r=>by simp only [toN,ND.on,NL.len,jW r,zz]
theorem yQ:∀ l:List CD,(toC l).len = l.length
 | []=>rfl
 | _ :: r=>by simp only [toC,NL.len,yQ r,zz]
theorem Qx {w:World} {b:Nat}:∀ {l:List ND} {o:Nat},qI 8 (PN w) b o l→BA w (toN l) b o∧NL.okN (toN l) true = true
 | [],_,_=>⟨trivial,rfl⟩
 | x :: r,o,⟨⟨x1,d1,x2,d2,x3,d3,x4,d4,x5,d5,hc,h⟩,hr⟩=>by
  obtain ⟨h1,h2⟩:=Qx hr;refine ⟨⟨⟨hc 0 _ rfl,hc 1 _ rfl,hc 2 _ rfl,h.hnm⟩,⟨x1,d1,hc 3 _ rfl,h.haz⟩,⟨x2,d2,hc 4 _ rfl,h.hws⟩,⟨x3,d3,hc 5 _ rfl,h.hks.1,h.hks.2.1,h.hks.2.2⟩,⟨x4,d4,hc 6 _ rfl,h.hbs⟩,⟨x5,d5,hc 7 _ rfl,h.hcs.1,h.hcs.2.1,h.hcs.2.2⟩,h1⟩,?_⟩;simp only [toN,ND.on,NL.okN,ud];exact ⟨⟨⟨trivial,h.xU⟩,h.MO⟩,h2⟩
theorem Lm {w:World} {a:Option Addr} {cap:Nat} {l:List ND} (h:Sl 8 (PN w) a cap l):dJ w a cap (toN l)∧NL.okN (toN l) true = true:=by
 obtain ⟨h1,h2,h3⟩:=h;rcases h3 with rfl | ⟨b,o,ha,hc⟩
 ·exact ⟨⟨h1,h2,.inl rfl⟩,rfl⟩
 ·have:=Qx hc;exact ⟨⟨by rw [jW];exact h1,by rw [jW];exact h2,.inr ⟨b,o,ha,this.1⟩⟩,this.2⟩
def EC (S:Nat→Prop) (w:World) (vs:List Value) (x:CD):Prop:=∃ a1 c1 a2 c2,vs = [.slice a1 x.1.length c1,.slice a2 x.2.length c2]∧KS S w (fun w2=>Sl 1 (PW w2) a1 c1 x.1)∧KS S w (fun w2=>Sl 8 (PN w2) a2 c2 x.2)
def PC (w:World) (b o:Nat) (x:CD):Prop:=∃ a1 c1 a2 c2,w.cell? ⟨b,o,none⟩ = some (.slice a1 x.1.length c1)∧w.cell? ⟨b,o + 1,none⟩ = some (.slice a2 x.2.length c2)∧Sl 1 (PW w) a1 c1 x.1∧Sl 8 (PN w) a2 c2 x.2
theorem sM:Elem 2 EC PC where
 len:=fun ⟨_,_,_,_,h,_⟩=>by rw [h];rfl
 tq:=fun ⟨a1,c1,a2,c2,h,h1,h2⟩ hs hk hS=>⟨a1,c1,a2,c2,h,h1.to hs hk hS,h2.to hs hk hS⟩
 cell:=fun ⟨a1,c1,a2,c2,h,h1,h2⟩ hc=>⟨a1,c1,a2,c2,hc 0 _ (by rw [h];rfl),hc 1 _ (by rw [h];rfl),h1.now,h2.now⟩
def VC (S:Nat→Prop) (w:World) (v:Value) (x:CD):Prop:=∃ a1 c1 a2 c2,v = .agg #[.slice a1 x.1.length c1,.slice a2 x.2.length c2]∧KS S w (fun w2=>Sl 1 (PW w2) a1 c1 x.1)∧KS S w (fun w2=>Sl 8 (PN w2) a2 c2 x.2)
theorem Qy {w:World} {b:Nat}:∀ {l:List CD} {o:Nat},qI 2 (PC w) b o l→BA w (toC l) b o∧NL.okN (toC l) false = true
 | [],_,_=>⟨trivial,rfl⟩
 | x :: r,o,⟨⟨x1,d1,x2,d2,e1,e2,h1,h2⟩,hr⟩=>by
  obtain ⟨k1,k2⟩:=Qy hr;have hn:=Lm h2;refine ⟨⟨⟨x1,d1,e1,h1⟩,⟨x2,d2,by rw [jW];exact e2,hn.1.1,hn.1.2.1,hn.1.2.2⟩,k1⟩,?_⟩;simp only [toC,NL.okN,ud];exact ⟨⟨rfl,hn.2⟩,k2⟩
theorem slC {w:World} {a:Option Addr} {cap:Nat} {l:List CD} (h:Sl 2 (PC w) a cap l):dJ w a cap (toC l)∧NL.okN (toC l) false = true:=by
 obtain ⟨h1,h2,h3⟩:=h;rcases h3 with rfl | ⟨b,o,ha,hc⟩
 ·exact ⟨⟨h1,h2,.inl rfl⟩,rfl⟩
 ·have:=Qy hc;exact ⟨⟨by rw [yQ];exact h1,by rw [yQ];exact h2,.inr ⟨b,o,ha,this.1⟩⟩,this.2⟩
theorem ji {T:Type} {k:Nat} {P:Nat→Nat→T→Prop} (cap:Nat):Sl k P none cap []:=⟨zVy _,zVy _,.inl rfl⟩
theorem sN (w:World) (cap:Nat):dJ w none cap .nil:=⟨zVy _,zVy _,.inl rfl⟩
structure Ch (C:Nat→Prop) (w w':World):Prop where
 os:w'.os = w.os
 tape:w'.tape = w.tape
 output:w'.output = w.output
 size:w.heap.size≤w'.heap.size
 block:∀ b,b < w.heap.size→¬ C b→w'.heap[b]? = w.heap[b]?
theorem Ch.frP {pb:Nat} {w w':World} (h:jU pb w w'):Ch (fun b=>b = pb) w w':=⟨h.os,h.tape,h.output,h.size,fun b hb hn=>h.block b hb hn⟩
theorem Ch.below {w w':World} (h:Below w.heap.size w w'):Ch (fun _=>False) w w':=⟨h.os,h.tape,h.output,h.size,fun b hb _=>h.block b hb⟩
theorem Ch.grown {v:Value} {w w':World} (h:w.grownBy w' v.ownBlock):Ch (fun b=>v.ownBlock = some b) w w':=⟨h.os,h.tape,h.output,h.size,fun b hb hn=>h.block b hb fun e=>hn e.symm⟩
theorem Ch.set (w:World) (b i:Nat) (v:Value):Ch (fun c=>c = b) w (w.setCell ⟨b,i,none⟩ v):=⟨rfl,rfl,rfl,by simp,fun c _ hn=>Below.heap_setCell _ _ _ _ hn⟩
theorem Ch.fr {C:Nat→Prop} {pb:Nat} {w wr w1:World} (hf:jU pb w wr) (h:Ch C wr w1) (hC:∀ b,C b→b = pb∨w.heap.size≤b):jU pb w w1 :=
 ⟨h.os.trans hf.os,h.tape.trans hf.tape,h.output.trans hf.output,Nat.le_trans hf.size h.size,fun b hb hn=>(h.block b (kd hb hf.size) fun hc=>(hC b hc).elim hn fun h=>by omega).trans (hf.block b hb hn)⟩
structure Two {T:Type} (E:(Nat→Prop)→World→List Value→T→Prop) (k:Nat) (ty:TypeId) (K:Nat→Prop) (nb rb base:Nat) (w:World) (v1:Value) (l:List T) (v2:Value) (bs:List Bool) (n r:Array Value) (tn:TypeId):Prop where
 r1:Row E k ty base K w v1 l
 r2:Row EB 1 4 base K w v2 bs
 ne:∀ g,v1.ownBlock = some g→v2.ownBlock ≠ some g
 nr:w.heap[nb]? = some (.cells n tn (0,0))
 rr:w.heap[rb]? = some (.cells r tn (0,0))
 kn:¬ K nb
 kr:¬ K rb
 q1:∀ g,v1.ownBlock = some g→g ≠ nb∧g ≠ rb
 q2:∀ g,v2.ownBlock = some g→g ≠ nb∧g ≠ rb
section
variable {T:Type} {k:Nat} {E:(Nat→Prop)→World→List Value→T→Prop} {Q:World→Nat→Nat→T→Prop} {ty tn:TypeId} {K K' C:Nat→Prop} {nb rb base:Nat} {w w1 w3:World} {v1 v2:Value} {l:List T} {bs:List Bool} {n r:Array Value} {xs vs:List Value} {t:T}
theorem Two.ch (hE:Elem k E Q) (h:Two E k ty K nb rb base w v1 l v2 bs n r tn) (hc:Ch C w w1) (hK:∀ b,K b→¬ C b) (hC:∀ b,base≤b→b ≠ nb→b ≠ rb→¬ C b) (hn:¬ C nb) (hr:¬ C rb) (hK':∀ b,K b→K' b) (lK:∀ b,K' b→K b∨w.heap.size≤b) :
  Two E k ty K' nb rb base w1 v1 l v2 bs n r tn:=by
 have l1:=h.r1.lt;have l2:=h.r2.lt;have ln:=(zv h.nr).1;have lr:=(zv h.rr).1;refine ⟨h.r1.to hE hc.size (fun b hb aB=>hc.block b aB ?_) (fun b hb _=>hK' b hb) (fun g hg hk=>?_),h.r2.to x9 hc.size (fun b hb aB=>hc.block b aB ?_) (fun b hb _=>hK' b hb) (fun g hg hk=>?_),h.ne,(hc.block _ ln hn).trans h.nr,(hc.block _ lr hr).trans h.rr,fun hk=>?_,fun hk=>?_,h.q1,h.q2⟩
 ·exact hb.elim (hK b) fun hb=>hC b (l1 b hb).1 (h.q1 b hb).1 (h.q1 b hb).2
 ·exact (lK g hk).elim (h.r1.out g hg) fun hk=>by have:=(l1 g hg).2;omega
 ·exact hb.elim (hK b) fun hb=>hC b (l2 b hb).1 (h.q2 b hb).1 (h.q2 b hb).2
 ·exact (lK g hk).elim (h.r2.out g hg) fun hk=>by have:=(l2 g hg).2;omega
 ·exact (lK _ hk).elim h.kn fun hk=>by omega
 ·exact (lK _ hk).elim h.kr fun hk=>by omega
theorem Two.store (hE:Elem k E Q) (h:Two E k ty K nb rb base w v1 l v2 bs n r tn) (jD:nb ≠ rb) (i:Nat) (v:Value):Two E k ty K nb rb base (w.setCell ⟨nb,i,none⟩ v) v1 l v2 bs (n.setIfInBounds i v) r tn:=by
 have hc:=Ch.set w nb i v;have lr:=(zv h.rr).1;refine ⟨h.r1.to hE hc.size (fun b hb aB=>hc.block b aB fun e=>?_) (fun b hb _=>hb) h.r1.out,h.r2.to x9 hc.size (fun b hb aB=>hc.block b aB fun e=>?_) (fun b hb _=>hb) h.r2.out,h.ne,heap_setCell_same _ _ i _ _ v h.nr,(hc.block _ lr (Ne.symm jD)).trans h.rr,h.kn,h.kr,h.q1,h.q2⟩
 ·subst e;exact hb.elim h.kn fun hb=>(h.q1 _ hb).1 rfl
 ·subst e;exact hb.elim h.kn fun hb=>(h.q2 _ hb).1 rfl
theorem Two.app1 (hE:Elem k E Q) (h:Two E k ty K nb rb base w v1 l v2 bs n r tn) (hx:dQ E K w l xs) (aB:∀ b,K b→b < w.heap.size) (ht:E K w vs t) {g cap:Nat} (dR:w3.ownsRow base ty k (.slice (some ⟨g,0,none⟩) (l.length + 1) cap) (l.length + 1) (xs ++ vs)) (hg:w.grownBy w3 v1.ownBlock) (gT:v1.ownBlock = some g∨g = w.heap.size) :
  Two E k ty K nb rb base w3 (.slice (some ⟨g,0,none⟩) (l.length + 1) cap) (l ++ [t]) v2 bs n r tn:=by
 have hc:=Ch.grown hg;have l2:=h.r2.lt;have ln:=(zv h.nr).1;have lr:=(zv h.rr).1;refine ⟨Row.more hE hx h.r1.out ht aB dR hg gT,h.r2.to x9 hc.size (fun b hb oG=>hc.block b oG fun e=>?_) (fun b hb _=>hb) h.r2.out,fun g' Ep e=>?_,(hc.block _ ln fun e=>?_).trans h.nr,(hc.block _ lr fun e=>?_).trans h.rr,h.kn,h.kr,fun g' Ep=>?_,h.q2⟩
 ·exact hb.elim (h.r1.out b e) fun hb=>h.ne b e hb
 ·have:g = g':=by simpa [Value.ownBlock] using Ep
  subst this;rcases gT with gT | gT
  ·exact h.ne g gT e
  ·have:=(l2 g e).2;omega
 ·exact (h.q1 _ e).1 rfl
 ·exact (h.q1 _ e).2 rfl
 ·have:g = g':=by simpa [Value.ownBlock] using Ep
  subst this;rcases gT with gT | gT
  ·exact h.q1 g gT
  ·omega
theorem Two.Wl (hE:Elem k E Q) (h:Two E k ty K nb rb base w v1 l v2 bs n r tn) {x:Bool} (hx:dQ EB K w bs xs) (aB:∀ b,K b→b < w.heap.size) {g cap:Nat} (dR:w3.ownsRow base 4 1 (.slice (some ⟨g,0,none⟩) (bs.length + 1) cap) (bs.length + 1) (xs ++ [.bool x])) (hg:w.grownBy w3 v2.ownBlock) (gT:v2.ownBlock = some g∨g = w.heap.size) :
  Two E k ty K nb rb base w3 v1 l (.slice (some ⟨g,0,none⟩) (bs.length + 1) cap) (bs ++ [x]) n r tn:=by
 have hc:=Ch.grown hg;have l1:=h.r1.lt;have ln:=(zv h.nr).1;have lr:=(zv h.rr).1;refine ⟨h.r1.to hE hc.size (fun b hb oG=>hc.block b oG fun e=>?_) (fun b hb _=>hb) h.r1.out,Row.more x9 hx h.r2.out rfl aB dR hg gT,fun g' Ep e=>?_,(hc.block _ ln fun e=>?_).trans h.nr,(hc.block _ lr fun e=>?_).trans h.rr,h.kn,h.kr,h.q1,fun g' Ep=>?_⟩
 ·exact hb.elim (h.r2.out b e) fun hb=>h.ne b hb e
 ·have:g = g':=by simpa [Value.ownBlock] using e
  subst this;rcases gT with gT | gT
  ·exact h.ne g Ep gT
  ·have:=(l1 g Ep).2;omega
 ·exact (h.q2 _ e).1 rfl
 ·exact (h.q2 _ e).2 rfl
 ·have:g = g':=by simpa [Value.ownBlock] using Ep
  subst this;rcases gT with gT | gT
  ·exact h.q2 g gT
  ·omega
end
end Ps
end Go.Proofs.YtckakkeejekibaaGreatDoor
