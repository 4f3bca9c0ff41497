/- Split, into new memory; assigns. -/
import Derived.Test.YtjmpfihopeohbaaGreatDoorQsH
set_option maxHeartbeats 1600000
set_option maxRecDepth 100000
namespace Go.Proofs.YtjmpfihopeohbaaGreatDoor
open Go.RowKit Go.Sort
namespace Ps
open Cls Pt Tr Sp Lx
theorem split_new (k:Int) (q:Bool) (t o:ByteArray) (f r:PL) (n:Nat) (a:Option Addr) (cap:Nat) (m:Int) (w:World) (hl:Lies w a cap (.cons k q t o f r)) (hsz:(PL.cons k q t o f r).size≤1000000) (hts:t.size≤1000000) (hm:w.cell? ⟨0,0,none⟩ = some (.int .i64 m)) (hn:splitP (.cons k q t o f r) = some n) :
  Calls Tryz.prog 137 #[.slice a (r.len + 1) cap] w fun e w'=>(∃ a' cap',e = .returned (.tuple #[.string ⟨(t.data.toList.take n).toArray⟩,.slice a' (restP (.cons k q t o f r) n).len cap',.bool true])∧LiesS (fun b=>w.heap.size≤b) w' a' cap' (restP (.cons k q t o f r) n))∧Below w.heap.size w w':=by
 obtain ⟨b1,p1,rfl,hb1,c10,c11,c12,c13,ht,ho,a1,ca1,c14,hl1⟩:=hl.get (i:=0) rfl;rw [Nat.zero_mul,Nat.add_zero] at c10 c11 c12 c13 c14;have hkq:(k == 1) = true∧q = false∧eqT t.data.toList = some n:=by
  simp only [splitP] at hn;split at hn
  ·rename_i h;simp only [Bool.and_eq_true,Bool.not_eq_true'] at h;exact ⟨h.1,h.2,hn⟩
  ·cases hn
 obtain ⟨hk,rfl,he⟩:=hkq;have hk2:(k != 1) = false:=by simp only [bne,hk];rfl
 obtain ⟨hi,hnm,hlt⟩:=eqT_some he;have hcut:=cut_any t m w hts hm;rw [cut_eq,if_pos (by rw [hi];omega),hi,Int.toNat_natCast] at hcut;have e1:nameL (⟨(t.data.toList.take n).toArray⟩:ByteArray).data.toList = true:=by simpa using hnm
 have hname:=fun w=>Cls.name_any ⟨(t.data.toList.take n).toArray⟩ w (Nat.le_trans (by show (List.toArray _).size≤_;rw [List.size_toArray];exact take_le _ t) (show t.size≤9223372036854775807 by unfold R at ht;omega));rw [e1] at hname;have hne:(((r.len + 1:Nat):Int) == 0) = false:=by simp;omega
 have hne2:((r.len:Int) + 1 == 0) = false:=by simp;omega
 have hle:=hl.le;have hle2:r.len≤140737488351232:=by simp only [PL.len] at hle;omega
 have HC:=Lib.hid hcut;have HNM:=Lib.hid hname;have HL:=Lib.hid hl;have HL1:=Lib.hid hl1;have HS:=Lib.hid hsz;have HLT:=Lib.hid hlt;clear hcut hname hnm hn he e1 hl hl1 hm hsz hi hlt hle
 by_cases hr:t.size≤n + 1
 ·have hemp:(List.drop (n + 1) t.data.toList).isEmpty = true:=by
   simp;omega
  have HR:=Lib.hid hr;clear hr;go_enter Tryz.func137,Tryz.ntmps137
  go_wp2_with (first
   | (go_at_call 159;refine (HC.out).mono ?_;rintro e w1 ⟨rfl,hb⟩;have HB1:=Lib.hid hb;clear hb)
   | (go_at_call 79;refine (HNM.out _).mono ?_;rintro e w' ⟨rfl,rfl⟩))
  case inl =>
   refine (fresh_any (r.size + 1) r _ _ _ (by omega) (by have:=HS.out;simp only [PL.size] at this;omega) (lies_none (by have:=HL.out.1;simp only [PL.len] at this;omega))).mono ?_;rintro e w2 ⟨a2,ca2,rfl,hb2,hnew,_⟩;have HB2:=Lib.hid hb2;have HNEW:=Lib.hid hnew;clear hb2 hnew;go_wp2
   go_ret3
   have hR:restP (PL.cons k false t o f r) n = r:=if_pos HR.out;rw [hR];exact ⟨⟨a2,ca2,rfl,fun w3 h3 hk3=>HNEW.out w3 h3 fun b hb hlt=>hk3 b (Nat.le_trans HB1.out.size hb) hlt⟩,thru HB1.out HB2.out⟩
  case inr =>
   refine (fresh_any (r.size + 1) r _ _ _ (by omega) (by have:=HS.out;simp only [PL.size] at this;omega) (lies_tail (HL.out.below HB1.out))).mono ?_;rintro e w2 ⟨a2,ca2,rfl,hb2,hnew,_⟩;have HB2:=Lib.hid hb2;have HNEW:=Lib.hid hnew;clear hb2 hnew;go_wp2
   go_ret3
   have hR:restP (PL.cons k false t o f r) n = r:=if_pos HR.out;rw [hR];exact ⟨⟨a2,ca2,rfl,fun w3 h3 hk3=>HNEW.out w3 h3 fun b hb hlt=>hk3 b (Nat.le_trans HB1.out.size hb) hlt⟩,thru HB1.out HB2.out⟩
 ·have hemp:(List.drop (n + 1) t.data.toList).isEmpty = false:=by
   simp;omega
  have HR:=Lib.hid hr;clear hr;go_enter Tryz.func137,Tryz.ntmps137
  go_wp2_with (first
   | (go_at_call 159;refine (HC.out).mono ?_;rintro e w1 ⟨rfl,hb⟩;have HB1:=Lib.hid hb;clear hb)
   | (go_at_call 79;refine (HNM.out _).mono ?_;rintro e w' ⟨rfl,rfl⟩))
  refine (fresh_any ((PL.cons k false t o f r).size + 1) (.cons k false t o f r) _ _ _ (by omega) HS.out (HL.out.below HB1.out)).mono ?_;rintro e w2 ⟨a2,ca2,he,hb2,hnew,hrow⟩;rw [show (PL.cons k false t o f r).len = r.len + 1 from rfl] at he;subst he;obtain ⟨rfl,hcop,row,hrow⟩:=hrow (by simp);have hx:w2.cell? ⟨w1.heap.size,2,none⟩ = some (.string t):=(hcop 0 k false t o f r (by simp [PL.len]) rfl).1.2.2.1;have hf:=frozen_of_row _ _ 2 _ _ hrow;have HB2:=Lib.hid hb2;have HNEW:=Lib.hid hnew;have HCOP:=Lib.hid hcop;have HROW:=Lib.hid hrow;clear hb2 hnew hcop hrow;go_wp2
  go_ret3
  have hR:restP (PL.cons k false t o f r) n = .cons k false ⟨(t.data.toList.drop (n + 1)).toArray⟩ o f r:=if_neg HR.out;rw [hR];have hs:(⟨(t.data.toList.drop (n + 1)).toArray⟩:ByteArray).size≤R:=by simp only [ByteArray.size,List.size_toArray,List.length_drop];rw [lenB];omega
  have hcp:=retext HCOP.out hs HROW.out;have hlies:=HNEW.out.lies;exact ⟨⟨_,ca2,rfl,fun w3 h3 hk3=>⟨hlies.1,hlies.2.1,.inr ⟨_,_,rfl,(hcp.keep h3 fun b hb hlt=>hk3 b (Nat.le_trans HB1.out.size hb) hlt).at⟩⟩⟩,thru HB1.out (HB2.out.setCell (Nat.le_refl _) _)⟩
theorem infoA:(Tryz.prog.info? 42).map (fun i=>(i.zero,i.size,i.bytes)) = some (some (.agg #[.string ⟨#[]⟩,.slice none 0 0]),2,40):=by kernel_rfl
theorem head_ft {k:Int} {q:Bool} {t o:ByteArray} {f r l:PL} (h:l = .cons k q t o f r):t.size≤ftot l:=by rw [h];simp only [ftot];omega
theorem split_all (l:PL) (a:Option Addr) (cap:Nat) (m:Int) (w:World) (hl:Lies w a cap l) (hf:ftot l≤1000000) (hm:w.cell? ⟨0,0,none⟩ = some (.int .i64 m)) :
  Calls Tryz.prog 137 #[.slice a l.len cap] w fun e w'=>Below w.heap.size w w'∧match splitA l with
   | some x=>∃ a' cap',e = .returned (.tuple #[.string x.1,.slice a' x.2.len cap',.bool true])∧x.1.size≤R∧LiesS (fun b=>w.heap.size≤b) w' a' cap' x.2
   | none=>e = .returned (.tuple #[.string ⟨#[]⟩,.slice none 0 0,.bool false]):=by
 have hsz:=size_ftot l;cases hs:splitP l with
 | none =>
  have:splitA l = none:=by
   unfold splitA;rw [hs];cases l <;> rfl
  rw [this];exact (split_no l a cap m w hl (by omega) (fun k q t o f r h=>by have:=head_ft h;omega) hm hs).mono fun _ _ ⟨h1,h2⟩=>⟨h2,h1⟩
 | some n =>
  cases l with
  | nil=>simp [splitP] at hs
  | cons k q t o f r =>
   have ht:=head_ft (l:=.cons k q t o f r) rfl;have:splitA (.cons k q t o f r) = some (⟨(t.data.toList.take n).toArray⟩,restP (.cons k q t o f r) n):=by
    unfold splitA;rw [hs]
   rw [this];refine (split_new k q t o f r n a cap m w hl (by omega) (by omega) hm hs).mono fun e w' ⟨⟨a',cap',he,hl'⟩,hb⟩=>⟨hb,a',cap',he,?_,hl'⟩;have h1:=take_le n t;show (List.toArray _).size≤R;rw [List.size_toArray];unfold R;omega
theorem assigns_any (S:Nat→Prop) (pb:Nat) (s:ByteArray) (hs:Pl s) (o:Tok) (d:Nat) (w:World) (h:PAt S w pb s o d) :
  Calls Tryz.prog 190 #[.pointer (some ⟨pb,0,none⟩)] w (Does S pb s d w (VSl 2 PA) (assignsF s o)):=by
 have hsz:=hs.sz;obtain ⟨i0,hi,hz0,hz1,hz2⟩:=info_parts infoA;have H:=Lib.hid h;have HI:=Lib.hid hi;have HZ0:=Lib.hid hz0;have HZ1:=Lib.hid hz1;have HZ2:=Lib.hid hz2;clear h hi hz0 hz1 hz2;go_enter Tryz.func190,Tryz.ntmps190;go_wp2_with fail
 go_loopw [3] (fun v wr=>∃ (n:Nat) (q:Tok) (l:List (ByteArray × PL)),assignsN s n l q = assignsF s o∧mu s q < n∧l.length + mu s q≤F s∧On EA 2 42 S pb s d w wr q v l) (fun v wr=>muW s pb wr)
 case atStart=>exact ⟨F s,o,[],rfl,mu_F s o,by have:=mu_F s o;simp only [List.length_nil];omega,On.start H.out⟩
 case round =>
  obtain ⟨n,q,l,hn,hmu,hll,⟨K,hp,hrow,hK⟩,hf⟩:=hrel;obtain ⟨n,rfl⟩:∃ m,n = m + 1:=⟨n - 1,by omega⟩;have hmuW:=hp.mW;obtain ⟨a,cap,hr,hl⟩:=hp.ex;obtain ⟨m,hm⟩:=hp.m;have c1:=zc1 hr;have c4:=zc4 hr;have hle:=hl.lies.le;have hsp:=split_all q.l a cap m wr hl.lies (by have:=hp.ok.f;omega) hm;have hnx:=fun w' (hb:Below wr.heap.size wr w')=>next_any K pb s hs q d w' (hp.below hb);have HN:=Lib.hid hn;have HF:=Lib.hid hf;have HP:=Lib.hid hp;have HMW:=Lib.hid hmuW;have HMU:=Lib.hid hmu;have HLL:=Lib.hid hll;have HROW:=Lib.hid hrow;have HK:=Lib.hid hK;clear hn hf hp hmuW hmu hll hrow hK hr hl
  by_cases hk:q.k = 1
  ·have hk1:((q.k:Int) == 1) = true:=by rw [hk];rfl
   have hnm:=fun p=>next_mu hs (o:=q) (q:=p) HP.out.ok (by omega);cases hA:splitA q.l with
   | none =>
    have hn:Rs.ok l q = assignsF s o:=by rw [← HN.out,assignsN,if_pos hk,hA]
    rw [hA] at hsp;have HN2:=Lib.hid hn;have HS:=Lib.hid hsp;clear hn HN hk hsp hA hnm hnx;go_wp2_with fail;refine HS.out.mono ?_;rintro e w1 ⟨hb,rfl⟩;have hon:On EA 2 42 S pb s d w w1 q u3 l:=⟨⟨K,HP.out.below hb,HROW.out.to elemA hb.size (fun b _ hlt=>hb.block b hlt) (fun b hb _=>hb) HROW.out.out,fun b hb'=>(HK.out b hb').imp id fun h=>by have:=hb.size;omega⟩,HF.out.trans (FrP.of_below hb)⟩;have HON:=Lib.hid hon;clear hon hb;go_wp2_with fail;go_ret;rw [← HN2.out];exact On.done elemA H.out HON.out (by have:=HLL.out;unfold F at this;unfold R;omega)
   | some x =>
    have hn:((nextF s q).bind fun _ o=>assignsN s n (l ++ [x]) o) = assignsF s o:=by rw [← HN.out,assignsN,if_pos hk,hA]
    rw [hA] at hsp;have HN2:=Lib.hid hn;have HS:=Lib.hid hsp;clear hn HN hk hsp hA;clear hnx;go_wp2_with fail;refine HS.out.mono ?_;rintro e w1 ⟨hb,a1,cap1,rfl,hx1,hl1⟩;obtain ⟨xs,hm⟩:=Mid.of elemA H.out HROW.out HP.out HK.out HF.out (FrP.of_below hb) ((HP.out.below hb).up HP.out.pb) (vs:=[.string x.1,.slice a1 x.2.len cap1]) (t:=x) ⟨a1,cap1,rfl,hx1,hl1.mono fun b hb' hlt=>.inr ⟨hb',hlt⟩⟩ (.cells #[.string x.1,.slice a1 x.2.len cap1] 42);have HM:=Lib.hid hm;have hll:l.length≤2000100:=by have:=HLL.out;unfold F at this;omega
    have hz1:w.heap.size≤w1.heap.size:=Nat.le_trans HF.out.size hb.size;clear hb hl1 hm;go_wp2_with (at_builtin;refine wpList_append_lies _ rfl (.tmp 25) (.tmp 29) 22 rfl w.heap.size 42 i0 (.agg #[.string ⟨#[]⟩,.slice none 0 0]) 2 40 Tryz.underlying22 HI.out HZ0.out HZ1.out HZ2.out rfl (by decide) u3 l.length xs rfl HM.out.own ⟨w1.heap.size,0,none⟩ 1 1 [.string x.1,.slice a1 x.2.len cap1] ?c0 rfl ?c2 ?c3 (by decide) ?c4 ?c5 ?c6 (w1.heap.size + 1) ?c7 ?_)
    case c0=>rfl
    case c2=>exact World.news_of_block (cs:=#[.string x.1,.slice a1 x.2.len cap1]) (t:=42) (fr:=(0,0)) (heap_alloc_new _ _)
    case c3=>simp [Value.oneCell']
    case c4=>unfold maxLen;omega
    case c5=>omega
    case c6=>simp only [World.size_alloc];omega
    case c7=>simp only [World.size_alloc]
    intro g capn w3 hown3 hgrow hat hlt;obtain ⟨⟨K3,hp3,hrow3,hK3⟩,hf3⟩:=HM.out.on elemA hown3 hgrow (by simpa only [World.size_alloc] using hat);have hnx:=next_any K3 pb s hs q d w3 hp3;have HP3:=Lib.hid hp3;have HR3:=Lib.hid hrow3;have HK3:=Lib.hid hK3;have HF3:=Lib.hid hf3;clear hown3 hgrow hat hlt hp3 hrow3 hK3 hf3;cases hr:nextF s q with
    | bad i er =>
     rw [hr] at hnx;have hr2:assignsF s o = .bad i er:=by rw [← HN2.out,hr];rfl
     have HX:=Lib.hid hnx;clear hnx hr hnm;go_wp2_with fail;refine HX.out.mono ?_;rintro e w4 ⟨hf4,rfl⟩;have HD:Does S pb s d w (VSl 2 PA) (assignsF s o) (thrownP i er) w4:=by rw [hr2];exact ⟨HF3.out.trans hf4,rfl⟩
     clear hf4 hr2;go_wp2_with fail;exact ⟨rfl,HD⟩
    | ok u p =>
     rw [hr] at hnx;have hr2:assignsN s n (l ++ [x]) p = assignsF s o:=by rw [← HN2.out,hr];rfl
     have hm2:=hnm p hr;have HX:=Lib.hid hnx;clear hnx hr hnm;go_wp2_with fail;refine HX.out.mono ?_;rintro e w4 ⟨hf4,⟨v4,rfl,rfl⟩,hp4⟩;have HON:=Lib.hid (On.step elemA H.out HP3.out HR3.out HK3.out HF3.out hf4 hp4);have HR2:=Lib.hid hr2;have HM2:=Lib.hid hm2;clear hf4 hp4 hr2 hm2;go_wp2_with fail;go_roundw
     case rel =>
      have hm:=HM2.out.1;have h1:=HMU.out;have h2:=HLL.out;exact ⟨n,p,l ++ [x],HR2.out,by omega,by rw [List.length_append,List.length_singleton];omega,HON.out⟩
     case measure =>
      have:=HM2.out.1;have e1:=HMW.out;obtain ⟨K2,hp2,_⟩:=HON.out.ex;have e2:=hp2.mW;omega
  ·have hk1:((q.k:Int) == 1) = false:=by rw [beq_eq_false_iff_ne];omega
   have hn:Rs.ok l q = assignsF s o:=by rw [← HN.out,assignsN,if_neg hk]
   have HN2:=Lib.hid hn;clear hn HN hk hsp hnx;go_wp2_with fail;go_ret;rw [← HN2.out];exact On.done elemA H.out ⟨⟨K,HP.out,HROW.out,HK.out⟩,HF.out⟩ (by have:=HLL.out;unfold F at this;unfold R;omega)
end Ps
end Go.Proofs.YtjmpfihopeohbaaGreatDoor
namespace Go.Proofs.YtjmpfihopeohbaaGreatDoor
open Go.RowKit Go.Sort
namespace Ps
open Cls Pt Tr Sp Lx
def HoldsK (S:Nat→Prop) (w:World) (x:ND) (a1:Option Addr) (c1:Nat) (a2:Option Addr) (c2:Nat) (a3:Option Addr) (c3:Nat) (a4:Option Addr) (c4:Nat) (a5:Option Addr) (c5:Nat):Prop:=KS S w fun w2=>Holds w2 x.nm x.az x.ws x.ks x.bs x.cz a1 c1 a2 c2 a3 c3 a4 c4 a5 c5
def nvs (x:ND) (a1:Option Addr) (c1:Nat) (a2:Option Addr) (c2:Nat) (a3:Option Addr) (c3:Nat) (a4:Option Addr) (c4:Nat) (a5:Option Addr) (c5:Nat):List Value :=
 [.int .i64 x.k,.string x.nm,.bool x.g,.slice a1 x.az.length c1,.slice a2 x.ws.length c2,.slice a3 x.ks.len c3,.slice a4 x.bs.length c4,.slice a5 x.cz.len c5]
def EN (S:Nat→Prop) (w:World) (vs:List Value) (x:ND):Prop:=∃ a1 c1 a2 c2 a3 c3 a4 c4 a5 c5,vs = nvs x a1 c1 a2 c2 a3 c3 a4 c4 a5 c5∧HoldsK S w x a1 c1 a2 c2 a3 c3 a4 c4 a5 c5
def PN (w:World) (b o:Nat) (x:ND):Prop:=∃ a1 c1 a2 c2 a3 c3 a4 c4 a5 c5,(∀ j v,(nvs x a1 c1 a2 c2 a3 c3 a4 c4 a5 c5)[j]? = some v→w.cell? ⟨b,o + j,none⟩ = some v)∧Holds w x.nm x.az x.ws x.ks x.bs x.cz a1 c1 a2 c2 a3 c3 a4 c4 a5 c5
theorem elemN:Elem 8 EN PN where
 len:=fun ⟨_,_,_,_,_,_,_,_,_,_,h,_⟩=>by rw [h];rfl
 tq:=fun ⟨a1,c1,a2,c2,a3,c3,a4,c4,a5,c5,h,hh⟩ hs hk hS=>⟨a1,c1,a2,c2,a3,c3,a4,c4,a5,c5,h,KS.to hh hs hk hS⟩
 cell:=fun ⟨a1,c1,a2,c2,a3,c3,a4,c4,a5,c5,h,hh⟩ hc=>⟨a1,c1,a2,c2,a3,c3,a4,c4,a5,c5,fun j v hv=>hc j v (by rw [h];exact hv),hh.now⟩
def VN (S:Nat→Prop) (w:World) (v:Value) (x:ND):Prop:=∃ a1 c1 a2 c2 a3 c3 a4 c4 a5 c5,v = .agg (nvs x a1 c1 a2 c2 a3 c3 a4 c4 a5 c5).toArray∧HoldsK S w x a1 c1 a2 c2 a3 c3 a4 c4 a5 c5
theorem toN_len:∀ l:List ND,(toN l).len = l.length
 | []=>rfl
 | _ :: r=>by simp only [toN,ND.on,NL.len,toN_len r,List.length_cons]
theorem chainN {w:World} {b:Nat}:∀ {l:List ND} {o:Nat},Chain 8 (PN w) b o l→NAt w (toN l) b o∧NL.okN (toN l) true = true
 | [],_,_=>⟨trivial,rfl⟩
 | x :: r,o,⟨⟨x1,d1,x2,d2,x3,d3,x4,d4,x5,d5,hc,h⟩,hr⟩=>by
  obtain ⟨h1,h2⟩:=chainN hr;refine ⟨⟨⟨hc 0 _ rfl,hc 1 _ rfl,hc 2 _ rfl,h.hnm⟩,⟨x1,d1,hc 3 _ rfl,h.haz⟩,⟨x2,d2,hc 4 _ rfl,h.hws⟩,⟨x3,d3,hc 5 _ rfl,h.hks.1,h.hks.2.1,h.hks.2.2⟩,⟨x4,d4,hc 6 _ rfl,h.hbs⟩,⟨x5,d5,hc 7 _ rfl,h.hcs.1,h.hcs.2.1,h.hcs.2.2⟩,h1⟩,?_⟩;simp only [toN,ND.on,NL.okN,Bool.and_eq_true];exact ⟨⟨⟨trivial,h.okk⟩,h.okc⟩,h2⟩
theorem slN {w:World} {a:Option Addr} {cap:Nat} {l:List ND} (h:Sl 8 (PN w) a cap l):NLies w a cap (toN l)∧NL.okN (toN l) true = true:=by
 obtain ⟨h1,h2,h3⟩:=h;rcases h3 with rfl | ⟨b,o,ha,hc⟩
 ·exact ⟨⟨h1,h2,.inl rfl⟩,rfl⟩
 ·have:=chainN hc;exact ⟨⟨by rw [toN_len];exact h1,by rw [toN_len];exact h2,.inr ⟨b,o,ha,this.1⟩⟩,this.2⟩
theorem slNil {T:Type} {k:Nat} {P:Nat→Nat→T→Prop} (cap:Nat):Sl k P none cap []:=⟨Nat.zero_le _,Nat.zero_le _,.inl rfl⟩
theorem nlNil (w:World) (cap:Nat):NLies w none cap .nil:=⟨Nat.zero_le _,Nat.zero_le _,.inl rfl⟩
structure Ch (C:Nat→Prop) (w w':World):Prop where
 os:w'.os = w.os
 tape:w'.tape = w.tape
 output:w'.output = w.output
 size:w.heap.size≤w'.heap.size
 block:∀ b,b < w.heap.size→¬ C b→w'.heap[b]? = w.heap[b]?
theorem Ch.frP {pb:Nat} {w w':World} (h:FrP pb w w'):Ch (fun b=>b = pb) w w':=⟨h.os,h.tape,h.output,h.size,fun b hb hn=>h.block b hb hn⟩
theorem Ch.below {w w':World} (h:Below w.heap.size w w'):Ch (fun _=>False) w w':=⟨h.os,h.tape,h.output,h.size,fun b hb _=>h.block b hb⟩
theorem Ch.grown {v:Value} {w w':World} (h:w.grownBy w' v.ownBlock):Ch (fun b=>v.ownBlock = some b) w w':=⟨h.os,h.tape,h.output,h.size,fun b hb hn=>h.block b hb fun e=>hn e.symm⟩
theorem Ch.set (w:World) (b i:Nat) (v:Value):Ch (fun c=>c = b) w (w.setCell ⟨b,i,none⟩ v):=⟨rfl,rfl,rfl,by simp,fun c _ hn=>Below.heap_setCell _ _ _ _ hn⟩
theorem Ch.fr {C:Nat→Prop} {pb:Nat} {w wr w1:World} (hf:FrP pb w wr) (h:Ch C wr w1) (hC:∀ b,C b→b = pb∨w.heap.size≤b):FrP pb w w1 :=
 ⟨h.os.trans hf.os,h.tape.trans hf.tape,h.output.trans hf.output,Nat.le_trans hf.size h.size,fun b hb hn=>(h.block b (Nat.lt_of_lt_of_le hb hf.size) fun hc=>(hC b hc).elim hn fun h=>by omega).trans (hf.block b hb hn)⟩
structure Two {T:Type} (E:(Nat→Prop)→World→List Value→T→Prop) (k:Nat) (ty:TypeId) (K:Nat→Prop) (nb rb base:Nat) (w:World) (v1:Value) (l:List T) (v2:Value) (bs:List Bool) (n r:Array Value) (tn:TypeId):Prop where
 r1:Row E k ty base K w v1 l
 r2:Row EB 1 4 base K w v2 bs
 ne:∀ g,v1.ownBlock = some g→v2.ownBlock ≠ some g
 nr:w.heap[nb]? = some (.cells n tn (0,0))
 rr:w.heap[rb]? = some (.cells r tn (0,0))
 kn:¬ K nb
 kr:¬ K rb
 q1:∀ g,v1.ownBlock = some g→g ≠ nb∧g ≠ rb
 q2:∀ g,v2.ownBlock = some g→g ≠ nb∧g ≠ rb
section
variable {T:Type} {k:Nat} {E:(Nat→Prop)→World→List Value→T→Prop} {Q:World→Nat→Nat→T→Prop} {ty tn:TypeId} {K K' C:Nat→Prop} {nb rb base:Nat} {w w1 w3:World} {v1 v2:Value} {l:List T} {bs:List Bool} {n r:Array Value} {xs vs:List Value} {t:T}
theorem Two.ch (hE:Elem k E Q) (h:Two E k ty K nb rb base w v1 l v2 bs n r tn) (hc:Ch C w w1) (hK:∀ b,K b→¬ C b) (hC:∀ b,base≤b→b ≠ nb→b ≠ rb→¬ C b) (hn:¬ C nb) (hr:¬ C rb) (hK':∀ b,K b→K' b) (hnew:∀ b,K' b→K b∨w.heap.size≤b) :
  Two E k ty K' nb rb base w1 v1 l v2 bs n r tn:=by
 have l1:=h.r1.lt;have l2:=h.r2.lt;have ln:=(Array.getElem?_eq_some_iff.1 h.nr).1;have lr:=(Array.getElem?_eq_some_iff.1 h.rr).1;refine ⟨h.r1.to hE hc.size (fun b hb hlt=>hc.block b hlt ?_) (fun b hb _=>hK' b hb) (fun g hg hk=>?_),h.r2.to elemB hc.size (fun b hb hlt=>hc.block b hlt ?_) (fun b hb _=>hK' b hb) (fun g hg hk=>?_),h.ne,(hc.block _ ln hn).trans h.nr,(hc.block _ lr hr).trans h.rr,fun hk=>?_,fun hk=>?_,h.q1,h.q2⟩
 ·exact hb.elim (hK b) fun hb=>hC b (l1 b hb).1 (h.q1 b hb).1 (h.q1 b hb).2
 ·exact (hnew g hk).elim (h.r1.out g hg) fun hk=>by have:=(l1 g hg).2;omega
 ·exact hb.elim (hK b) fun hb=>hC b (l2 b hb).1 (h.q2 b hb).1 (h.q2 b hb).2
 ·exact (hnew g hk).elim (h.r2.out g hg) fun hk=>by have:=(l2 g hg).2;omega
 ·exact (hnew _ hk).elim h.kn fun hk=>by omega
 ·exact (hnew _ hk).elim h.kr fun hk=>by omega
theorem Two.store (hE:Elem k E Q) (h:Two E k ty K nb rb base w v1 l v2 bs n r tn) (hne:nb ≠ rb) (i:Nat) (v:Value):Two E k ty K nb rb base (w.setCell ⟨nb,i,none⟩ v) v1 l v2 bs (n.setIfInBounds i v) r tn:=by
 have hc:=Ch.set w nb i v;have lr:=(Array.getElem?_eq_some_iff.1 h.rr).1;refine ⟨h.r1.to hE hc.size (fun b hb hlt=>hc.block b hlt fun e=>?_) (fun b hb _=>hb) h.r1.out,h.r2.to elemB hc.size (fun b hb hlt=>hc.block b hlt fun e=>?_) (fun b hb _=>hb) h.r2.out,h.ne,heap_setCell_same _ _ i _ _ v h.nr,(hc.block _ lr (Ne.symm hne)).trans h.rr,h.kn,h.kr,h.q1,h.q2⟩
 ·subst e;exact hb.elim h.kn fun hb=>(h.q1 _ hb).1 rfl
 ·subst e;exact hb.elim h.kn fun hb=>(h.q2 _ hb).1 rfl
theorem Two.app1 (hE:Elem k E Q) (h:Two E k ty K nb rb base w v1 l v2 bs n r tn) (hx:CellsG E K w l xs) (hlt:∀ b,K b→b < w.heap.size) (ht:E K w vs t) {g cap:Nat} (hown:w3.ownsRow base ty k (.slice (some ⟨g,0,none⟩) (l.length + 1) cap) (l.length + 1) (xs ++ vs)) (hg:w.grownBy w3 v1.ownBlock) (hat:v1.ownBlock = some g∨g = w.heap.size) :
  Two E k ty K nb rb base w3 (.slice (some ⟨g,0,none⟩) (l.length + 1) cap) (l ++ [t]) v2 bs n r tn:=by
 have hc:=Ch.grown hg;have l2:=h.r2.lt;have ln:=(Array.getElem?_eq_some_iff.1 h.nr).1;have lr:=(Array.getElem?_eq_some_iff.1 h.rr).1;refine ⟨Row.more hE hx h.r1.out ht hlt hown hg hat,h.r2.to elemB hc.size (fun b hb hlt'=>hc.block b hlt' fun e=>?_) (fun b hb _=>hb) h.r2.out,fun g' hg' e=>?_,(hc.block _ ln fun e=>?_).trans h.nr,(hc.block _ lr fun e=>?_).trans h.rr,h.kn,h.kr,fun g' hg'=>?_,h.q2⟩
 ·exact hb.elim (h.r1.out b e) fun hb=>h.ne b e hb
 ·have:g = g':=by simpa [Value.ownBlock] using hg'
  subst this;rcases hat with hat | hat
  ·exact h.ne g hat e
  ·have:=(l2 g e).2;omega
 ·exact (h.q1 _ e).1 rfl
 ·exact (h.q1 _ e).2 rfl
 ·have:g = g':=by simpa [Value.ownBlock] using hg'
  subst this;rcases hat with hat | hat
  ·exact h.q1 g hat
  ·omega
theorem Two.app2 (hE:Elem k E Q) (h:Two E k ty K nb rb base w v1 l v2 bs n r tn) {x:Bool} (hx:CellsG EB K w bs xs) (hlt:∀ b,K b→b < w.heap.size) {g cap:Nat} (hown:w3.ownsRow base 4 1 (.slice (some ⟨g,0,none⟩) (bs.length + 1) cap) (bs.length + 1) (xs ++ [.bool x])) (hg:w.grownBy w3 v2.ownBlock) (hat:v2.ownBlock = some g∨g = w.heap.size) :
  Two E k ty K nb rb base w3 v1 l (.slice (some ⟨g,0,none⟩) (bs.length + 1) cap) (bs ++ [x]) n r tn:=by
 have hc:=Ch.grown hg;have l1:=h.r1.lt;have ln:=(Array.getElem?_eq_some_iff.1 h.nr).1;have lr:=(Array.getElem?_eq_some_iff.1 h.rr).1;refine ⟨h.r1.to hE hc.size (fun b hb hlt'=>hc.block b hlt' fun e=>?_) (fun b hb _=>hb) h.r1.out,Row.more elemB hx h.r2.out rfl hlt hown hg hat,fun g' hg' e=>?_,(hc.block _ ln fun e=>?_).trans h.nr,(hc.block _ lr fun e=>?_).trans h.rr,h.kn,h.kr,h.q1,fun g' hg'=>?_⟩
 ·exact hb.elim (h.r2.out b e) fun hb=>h.ne b hb e
 ·have:g = g':=by simpa [Value.ownBlock] using e
  subst this;rcases hat with hat | hat
  ·exact h.ne g hg' hat
  ·have:=(l1 g hg').2;omega
 ·exact (h.q2 _ e).1 rfl
 ·exact (h.q2 _ e).2 rfl
 ·have:g = g':=by simpa [Value.ownBlock] using hg'
  subst this;rcases hat with hat | hat
  ·exact h.q2 g hat
  ·omega
end
end Ps
end Go.Proofs.YtjmpfihopeohbaaGreatDoor
