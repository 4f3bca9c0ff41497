/- choice, given what an entry is. -/
import Derived.Test.YtckakkeejekibaaGreatDoorPsV
set_option maxHeartbeats 4000000
set_option maxRecDepth 100000
namespace Go.Proofs.YtckakkeejekibaaGreatDoor
open Go.RowKit Go.Sort
namespace Ps
open j6 Pt Tr Sp Lx
theorem Zj:(Tryz.prog.info? 44).map (fun i=>(i.zero,i.size,i.bytes)) = some (some (.agg #[.slice none 0 0,.slice none 0 0]),2,48):=by kernel_rfl
theorem VN.choose {S:Nat→Prop} {w:World} {x:PL} {cs:List CD} {v:Value} {a2:Option Addr} {c2:Nat} (h1:KS S w fun w2=>Sl 1 (PW w2) a2 c2 [x]) (h2:Ov 2 PC S w v cs) :
  VN S w (.agg #[.int .i64 10,.string ⟨#[]⟩,.bool false,.slice none 0 0,.slice a2 1 c2,.slice none 0 0,.slice none 0 0,v]) ⟨10,⟨#[]⟩,false,[],[x],.nil,[],toC cs⟩:=by
 obtain ⟨a,cap,rfl,h2⟩:=h2;refine ⟨none,0,a2,c2,none,0,none,0,a,cap,?_,fun w2 hs hk=>?_⟩
 ·simp only [Iu,yQ];rfl
 ·have hn:=slC (h2 w2 hs hk);exact ⟨zVy _,ji 0,h1 w2 hs hk,sN _ 0,ji 0,hn.1,rfl,hn.2⟩
theorem Row.shape {T:Type} {E:(Nat→Prop)→World→List Value→T→Prop} {k:Nat} {ty:TypeId} {base:Nat} {K:Nat→Prop} {w:World} {v:Value} {l:List T} (h:Row E k ty base K w v l):∃ a c,v = .slice a l.length c:=by
 obtain ⟨xs,h1,_⟩:=h.ex;rcases h1.2 with ⟨rfl,h0⟩ | ⟨g,cap,cur,rfl,_⟩
 ·exact ⟨none,0,by rw [h0]⟩
 ·exact ⟨_,_,rfl⟩
theorem acD {T U:Type} {r:Rs T} {f:T→Tok→Rs U} {R0:Rs U} (h:r.bind f = R0):∃ g,r.bind g = R0∧g = f:=⟨f,h,rfl⟩
theorem qF (W:World) (b:Nat) (v0 v1 u0 u1:Value) (T:TypeId) (h:W.heap[b]? = some (.cells #[u0,u1] T (0,0))) :
  ((W.setCell ⟨b,0,none⟩ v0).setCell ⟨b,1,none⟩ v1).heap[b]? = some (.cells #[v0,v1] T (0,0))∧Ch (fun c=>c = b) W ((W.setCell ⟨b,0,none⟩ v0).setCell ⟨b,1,none⟩ v1):=by
 have g0:(W.setCell ⟨b,0,none⟩ v0).heap[b]? = some (.cells #[v0,u1] T (0,0)):=heap_setCell_same _ _ 0 _ _ v0 h;have g1:((W.setCell ⟨b,0,none⟩ v0).setCell ⟨b,1,none⟩ v1).heap[b]? = some (.cells #[v0,v1] T (0,0)):=heap_setCell_same _ _ 1 _ _ v1 g0;exact ⟨g1,(Ch.set W b 0 v0).then (Ch.set _ b 1 v1)⟩
theorem QK {M:Nat→Prop} {w:World} {x:PL} {a:Option Addr} {c:Nat} (h:cu M w a c x):dQ EW M w [x] [.slice a x.len c]:=⟨[.slice a x.len c],[],rfl,⟨a,c,rfl,h⟩,rfl⟩
theorem G9 (s:ByteArray) (hs:s.size≤400000) (n0:Nat) (IE:∀ m,m≤n0→tO s m):Av s (n0 + 1):=by
 intro S pb d o w hd h jA;have HE:=kq IE;clear IE;have ah:Fn EN 8 28 S pb s d w.heap.size w.heap.size w.heap.size w (w.alloc (.cells #[.int .i64 0,.string ⟨#[]⟩,.bool false,.slice none 0 0,.slice none 0 0,.slice none 0 0,.slice none 0 0,.slice none 0 0] 28)) o (.slice none 0 0) [] (.slice none 0 0) [] row0 row0 28 S (fun _=>True):=Fn.start h;obtain ⟨R0,hR⟩:∃ R0,(dU s d (n0 + 1) o) = R0:=⟨_,rfl⟩;rw [hR];rw [dU] at hR;have H:=kq h;have HN:=kq hR;have ae:=kq ah;have mV:=kq jA;clear h hR ah jA;go_enter Tryz.func198,Tryz.ntmps198;go_wp2_with fail;obtain ⟨i0,hi,qd,kQ,lM⟩:=info_parts Zj;have HI:=kq hi;have ym:=kq qd;have o9:=kq kQ;have lD:=kq lM;clear hi qd kQ lM;have hc:=vS _ pb s hs o d _ ae.out.hp;have bC:fD s _ (gV s o):=ma ae.out.hp.ok;have hn:=HN.out;generalize (gV s o) = rX at hc bC hn;clear HN;have HC:=kq hc;have bq:=kq bC;have HN:=kq hn;clear hc bC hn;cases rX with
 | bad i er =>
  go_wp2_with fail;refine HC.out.mono ?_;rintro e w2 ⟨hf,rfl⟩;have dF:Does S pb s d w VN R0 (aA i er) w2:=by rw [show R0 = .bad i er from HN.out.symm];exact ⟨ae.out.fr.trans hf,rfl⟩
  clear hf;go_wp2_with fail;exact ⟨rfl,dF⟩
 | ok x p1 =>
  have hm:=bq.out _ _ rfl;have yA:=kq hm.1;have hn:=HN.out;rw [Rs.bind_ok] at hn;clear HN bq hm;have HN:=kq hn;clear hn;go_wp2_with fail;refine HC.out.mono ?_;rintro e w2 ⟨hf,⟨v,rfl,aw,cw,rfl,Vx⟩,hp⟩;have ah:=ae.out.call aj hf hp;clear ae HC hf hp;have hks:=KS.row (m:=1) (row:=#[.slice aw x.len cw]) (ty:=39) iw (QK Vx) rfl (by decide);have jG:=(zv ah.two.rr).1;have ah:=(ah.grow aj (ax w2 (.cells #[.slice aw x.len cw] 39))).keep hks;have ah:=ah.var aj (Row.nil (E:=EC) (k:=2) 44 _ _ ((w2.alloc (.cells #[.slice aw x.len cw] 39)).alloc (.cells #[.int .i64 10,.string ⟨#[]⟩,.bool false,.slice none 0 0,.slice (some ⟨w2.heap.size,0,none⟩) 1 1,.slice none 0 0,.slice none 0 0,.slice none 0 0] 28))) (fun _ h=>by cases h);have GX:(w2.alloc (.cells #[.slice aw x.len cw] 39)).heap.size = w2.heap.size + 1:=by simp
  rw [GX] at ah;have CL:Hid (w2.heap.size + 1 ≠ w.heap.size):=kq (by omega);clear GX jG hks Vx;have ae:=kq ah;clear ah;have hc:=gN _ pb s hs p1 d _ ae.out.hp;have bC:Down s _ (aD s p1):=aO s (F s) p1 ae.out.hp.ok;have hn:=HN.out;generalize (aD s p1) = rX at hc bC hn;clear HN;have HC:=kq hc;have bq:=kq bC;have HN:=kq hn;clear hc bC hn;cases rX with
  | bad i er =>
   go_wp2_with fail;refine HC.out.mono ?_;rintro e w2 ⟨hf,rfl⟩;have dF:Does S pb s d w VN R0 (aA i er) w2:=by rw [show R0 = .bad i er from HN.out.symm];exact ⟨ae.out.fr.trans hf,rfl⟩
   clear hf;go_wp2_with fail;exact ⟨rfl,dF⟩
  | ok u p4 =>
   have hm:=bq.out _ _ rfl;have GU:=kq hm.1;have hn:=HN.out;rw [Rs.bind_ok] at hn;clear HN bq hm;have HN:=kq hn;clear hn;go_wp2_with fail;refine HC.out.mono ?_;rintro e w5 ⟨hf,⟨v,rfl,rfl⟩,hp⟩;have ah:=ae.out.call sM hf hp;clear ae HC hf hp;have ae:=kq ah;clear ah;have hc:=jh _ pb s hs p4 d [⟨#[105,110]⟩] _ ae.out.hp (by decide)
   try simp only [zd,World.size_setCell] at hc
   try rw [mZ.out] at hc
   have bC:fD s _ (aZ s [⟨#[105,110]⟩] p4):=bJ (s:=s) (o:=p4) (l:=[⟨#[105,110]⟩]) ae.out.hp.ok (by decide);have hn:=HN.out;generalize (aZ s [⟨#[105,110]⟩] p4) = rX at hc bC hn;clear HN;have HC:=kq hc;have bq:=kq bC;have HN:=kq hn;clear hc bC hn;cases rX with
   | bad i er =>
    go_wp2_with fail;refine HC.out.mono ?_;rintro e w2 ⟨hf,rfl⟩;have dF:Does S pb s d w VN R0 (aA i er) w2:=by rw [show R0 = .bad i er from HN.out.symm];exact ⟨ae.out.fr.trans hf,rfl⟩
    clear hf;go_wp2_with fail;exact ⟨rfl,dF⟩
   | ok u p7 =>
    have hm:=bq.out _ _ rfl;have BG:=kq hm.1;have hn:=HN.out;rw [Rs.bind_ok] at hn;clear HN bq hm;have HN:=kq hn;clear hn;go_wp2_with fail;refine HC.out.mono ?_;rintro e w8 ⟨hf,⟨v,rfl,rfl⟩,hp⟩;have ah:=ae.out.call sM hf hp;clear ae HC hf hp;have ae:=kq ah;clear ah;have hc:=gN _ pb s hs p7 d _ ae.out.hp;have bC:Down s _ (aD s p7):=aO s (F s) p7 ae.out.hp.ok;have hn:=HN.out;generalize (aD s p7) = rX at hc bC hn;clear HN;have HC:=kq hc;have bq:=kq bC;have HN:=kq hn;clear hc bC hn;cases rX with
    | bad i er =>
     go_wp2_with fail;refine HC.out.mono ?_;rintro e w2 ⟨hf,rfl⟩;have dF:Does S pb s d w VN R0 (aA i er) w2:=by rw [show R0 = .bad i er from HN.out.symm];exact ⟨ae.out.fr.trans hf,rfl⟩
     clear hf;go_wp2_with fail;exact ⟨rfl,dF⟩
    | ok u Aw =>
     have hm:=bq.out _ _ rfl;have Ec:=kq hm.1;have hn:=HN.out;rw [Rs.bind_ok] at hn;clear HN bq hm;have HN:=kq hn;clear hn;go_wp2_with fail;refine HC.out.mono ?_;rintro e Ow ⟨hf,⟨v,rfl,rfl⟩,hp⟩;have ah:=ae.out.call sM hf hp;clear ae HC hf hp;have ae:=kq ah;clear ah;go_wp2_with fail
     go_loopw [15] (fun kv wr=>∃ (n:Nat) (q:Tok) (cs:List CD) (v1:Value) (M:Nat→Prop),choiceL s d n x cs q = R0∧10 * mu s q + 2 < n∧n≤n0∧cs.length + mu s q≤F s∧Fn EC 2 44 S pb s d (w2.heap.size + 1) w.heap.size w.heap.size w wr q v1 cs (.slice none 0 0) [] #[.int .i64 10,.string ⟨#[]⟩,.bool false,.slice none 0 0,.slice (some ⟨w2.heap.size,0,none⟩) 1 1,.slice none 0 0,.slice none 0 0,v1] row0 28 M (fun wz=>Sl 1 (PW wz) (some ⟨w2.heap.size,0,none⟩) 1 [x])) (fun kv wr=>TA s pb wr)
     case atStart=>exact ⟨n0,Aw,[],_,_,HN.out,(by have Lr:=yA.out;have Ww:=GU.out;have Ox:=BG.out;have TN:=Ec.out;have jA:=mV.out;omega),vi _,by have:=tX s Aw;simp only [zZ];omega,ae.out⟩
     case round =>
      obtain ⟨n,q,cs,v1,M,hn,yP,YO,TQ,ah⟩:=hrel;obtain ⟨n,rfl⟩:∃ m,n = m + 1:=⟨n - 1,by omega⟩;have IY:=ah.hp.mW;rw [choiceL] at hn;have Um:cs.length≤900000:=by unfold F at TQ;omega
      clear ae HN mV;have ae:=kq ah;have HN:=kq hn;have mV:=kq yP;have Ik:=kq IY;have HCL:=kq TQ;clear ah hn yP IY TQ;have hc:=lq _ pb s hs q d [⟨#[101,115,97,99]⟩] _ ae.out.hp (by decide)
      try simp only [zd,World.size_setCell] at hc
      try rw [mZ.out] at hc
      have bC:Down s _ (bO s [⟨#[101,115,97,99]⟩] q):=eY (s:=s) (o:=q) (l:=[⟨#[101,115,97,99]⟩]) ae.out.hp.ok (by decide);have hn:=HN.out;generalize (bO s [⟨#[101,115,97,99]⟩] q) = rX at hc bC hn;clear HN;have HC:=kq hc;have bq:=kq bC;have HN:=kq hn;clear hc bC hn;cases rX with
      | bad i er =>
       go_wp2_with fail;refine HC.out.mono ?_;rintro e w2 ⟨hf,rfl⟩;have dF:Does S pb s d w VN R0 (aA i er) w2:=by rw [show R0 = .bad i er from HN.out.symm];exact ⟨ae.out.fr.trans hf,rfl⟩
       clear hf;go_wp2_with fail;exact ⟨rfl,dF⟩
      | ok b wI =>
       have hm:=bq.out _ _ rfl;have GZ:=kq hm.1;have hn:=HN.out;rw [Rs.bind_ok] at hn;clear HN bq hm;have HN:=kq hn;clear hn;go_wp2_with fail;refine HC.out.mono ?_;rintro e GY ⟨hf,⟨v,rfl,rfl⟩,hp⟩;have ah:=ae.out.call sM hf hp;clear ae HC hf hp;have ae:=kq ah;clear ah;cases b
       ·have hn:=HN.out;rw [if_neg (by decide)] at hn;clear HN;have HN:=kq hn;clear hn;go_wp2_with fail;have ky:Below GY.heap.size GY GY.drew:=⟨rfl,rfl,rfl,vi _,fun _ _=>rfl⟩;have ah:=ae.out.below sM ky;clear ae ky;have ae:=kq ah;clear ah;have hc:=HE.out n (by omega) _ pb d wI _ hd ae.out.hp (by have TP:=GZ.out;have jA:=mV.out;omega);have bC:fD s _ (eD s d n wI):=(aX s n).entry d wI ae.out.hp.ok;have hn:=HN.out;generalize eD s d n wI = rX at hc bC hn;clear HN;have HC:=kq hc;have bq:=kq bC;have HN:=kq hn;clear hc bC hn;refine RN.begins (fun wz=>wz.heap[w2.heap.size + 1]? = some (.cells #[.int .i64 10,.string ⟨#[]⟩,.bool false,.slice none 0 0,.slice (some ⟨w2.heap.size,0,none⟩) 1 1,.slice none 0 0,.slice none 0 0,v1] 28 (0,0))) [7] (by kernel_rfl) ?_;generalize GY.drew = wd at ae HC ⊢
        have hS:wd.heap[w2.heap.size + 1]? = some (.cells #[.int .i64 10,.string ⟨#[]⟩,.bool false,.slice none 0 0,.slice (some ⟨w2.heap.size,0,none⟩) 1 1,.slice none 0 0,.slice none 0 0,v1] 28 (0,0)):=ae.out.two.nr;refine RN.tk (i:=0) rfl hS (by intro wq hq;have s7:=gz hq;go_simp;try with_reducible rfl) ?_;refine RN.tk (i:=1) rfl hS (by intro wq hq;have s7:=gz hq;go_simp;try with_reducible rfl) ?_;refine RN.tk (i:=2) rfl hS (by intro wq hq;have s7:=gz hq;go_simp;try with_reducible rfl) ?_;refine RN.one 3 rfl fun K hK=>?_;go_simp;cases rX with
        | bad i er =>
         refine HC.out.mono ?_;rintro e w2 ⟨hf,rfl⟩;have dF:Does S pb s d w VN R0 (aA i er) w2:=by rw [show R0 = .bad i er from HN.out.symm];exact ⟨ae.out.fr.trans hf,rfl⟩
         clear hf hS;go_wp2_with fail;exact ⟨rfl,dF⟩
        | ok c p16 =>
         have BG:=kq (bq.out _ _ rfl).1;have hn:=HN.out;rw [Rs.bind_ok] at hn;clear HN bq;have HN:=kq hn;clear hn;refine HC.out.mono ?_;rintro e w6 ⟨hf,⟨v,rfl,a1,c1,a2,c2,hv,yC,zu⟩,hp⟩;obtain rfl:v = .agg #[.slice a1 c.1.length c1,.slice a2 c.2.length c2]:=hv;have xB:EC _ w6 [.slice a1 c.1.length c1,.slice a2 c.2.length c2] c:=⟨a1,c1,a2,c2,rfl,yC,zu⟩;have ah:=ae.out.call sM hf hp;clear ae HC hf hp yC zu;refine hK _ _ (fun _=>ah.two.nr) ?_;clear hK K hS;have hS:=ah.two.nr;have ae:=kq ah;clear ah;refine RN.one 4 rfl fun K hK=>?_;go_simp;have ah:=ae.out.below sM (ax w6 (.cells #[.slice a1 c.1.length c1,.slice a2 c.2.length c2] 44));have xB:=sM.tq xB (ax w6 (.cells #[.slice a1 c.1.length c1,.slice a2 c.2.length c2] 44)).size (fun b _ aB=>(ax w6 _).block b aB) (fun _ hb _=>hb);have qa:w.heap.size≤w6.heap.size:=ae.out.fr.size;clear ae;refine hK _ _ (fun _=>ah.two.nr) ?_;clear hK K hS;have hS:=ah.two.nr;have ae:=kq ah;clear ah;obtain ⟨xs,dR,hcells⟩:=ae.out.two.r1.ex;have dP:=kq dR;have Ar:=kq hcells;have G8:=kq xB;clear dR hcells xB;refine RN.one 5 rfl fun K hK=>?_;refine step_append_lies _ (by rfl) _ _ _ (by rfl) w.heap.size 44 i0 _ 2 48 Tryz.underlying26 HI.out ym.out o9.out lD.out rfl (by omega) v1 cs.length xs (by rfl) dP.out
          ⟨w6.heap.size,0,none⟩ 1 1 [.slice a1 c.1.length c1,.slice a2 c.2.length c2] (by rfl) (by rfl) (World.news_of_block (cs:=#[.slice a1 c.1.length c1,.slice a2 c.2.length c2]) (t:=44) (fr:=(0,0)) (heap_alloc_new w6 _)) (by simp [Value.oneCell'])
          (by omega) (by unfold maxLen;omega) (by omega) (by simp;omega) (w6.heap.size + 1) (by simp) ?_
         intro g gH w3 jm dI gT aB;have ah:=ae.out.app1 sM Ar.out G8.out jm dI (by simpa only [zd] using gT);refine hK _ _ (fun _=>ah.two.nr) ?_;clear hK K hS;have hS:=ah.two.nr;clear ae dP Ar G8 jm dI gT aB qa;have ae:=kq ah;clear ah;refine RN.tk (i:=6) rfl hS (by intro wq hq;skip;go_simp;try with_reducible rfl) ?_;refine RN.one 7 rfl fun K hK=>?_;have f7:=zf 7 ae.out.two.nr;have k7:=gz ae.out.two.nr;go_simp;refine hK _ _ (fun h=>absurd h (by decide)) ?_;clear hK K hS f7 k7;refine RN.done (by kernel_rfl) ?_ _;have ah:=ae.out.store sM CL.out 7 (.slice (some ⟨g,0,none⟩) (cs.length + 1) gH);clear ae;have ae:=kq ah;clear ah;generalize w3.setCell ⟨w2.heap.size + 1,7,none⟩ (.slice (some ⟨g,0,none⟩) (cs.length + 1) gH) = wv at ae ⊢
         go_wp2_with fail;go_roundw
         case rel =>
          have iF:mu s p16 < mu s q:=by have TP:=GZ.out;have Ox:=BG.out;omega
          have jA:=mV.out;have TQ:=HCL.out;exact ⟨n,p16,cs ++ [c],_,_,HN.out,by omega,by omega,by rw [zI,List.length_singleton];omega,ae.out⟩
         case measure =>
          have iF:mu s p16 < mu s q:=by have TP:=GZ.out;have Ox:=BG.out;omega
          have e1:=Ik.out;have e2:=ae.out.hp.mW;omega
       ·have hn:=HN.out;rw [if_pos rfl] at hn;clear HN;have HN:=kq hn;clear hn;obtain ⟨av,cv,XI⟩:=ae.out.two.r1.shape;subst XI;have r0:=dx ae.out.two.rr;have f0:=zf 0 ae.out.two.rr;have k0:=dx ae.out.two.nr;have r1:=dA ae.out.two.rr;have f1:=zf 1 ae.out.two.rr;have k1:=dA ae.out.two.nr;have r2:=ed ae.out.two.rr;have f2:=zf 2 ae.out.two.rr;have k2:=ed ae.out.two.nr;have r3:=fA ae.out.two.rr;have f3:=zf 3 ae.out.two.rr;have k3:=fA ae.out.two.nr;have r4:=dS ae.out.two.rr;have f4:=zf 4 ae.out.two.rr;have k4:=dS ae.out.two.nr;have r5:=dZ ae.out.two.rr;have f5:=zf 5 ae.out.two.rr;have k5:=dZ ae.out.two.nr;have r6:=fU ae.out.two.rr;have f6:=zf 6 ae.out.two.rr;have k6:=fU ae.out.two.nr;have r7:=gz ae.out.two.rr;have f7:=zf 7 ae.out.two.rr;have k7:=gz ae.out.two.nr;go_wp2_with fail;have aM:=aK GY (w.heap.size) (.int .i64 10) (.string ⟨#[]⟩) (.bool false) (.slice none 0 0) (.slice (some ⟨w2.heap.size,0,none⟩) 1 1) (.slice none 0 0) (.slice none 0 0) (.slice av cs.length cv) _ _ _ _ _ _ _ _ _ ae.out.two.rr;generalize ((((((((GY.setCell ⟨w.heap.size,0,none⟩ (.int .i64 10)).setCell ⟨w.heap.size,1,none⟩ (.string ⟨#[]⟩)).setCell ⟨w.heap.size,2,none⟩ (.bool false)).setCell ⟨w.heap.size,3,none⟩ (.slice none 0 0)).setCell ⟨w.heap.size,4,none⟩ (.slice (some ⟨w2.heap.size,0,none⟩) 1 1)).setCell ⟨w.heap.size,5,none⟩ (.slice none 0 0)).setCell ⟨w.heap.size,6,none⟩ (.slice none 0 0)).setCell ⟨w.heap.size,7,none⟩ (.slice av cs.length cv)) = W8 at aM ⊢
        obtain ⟨aN,hch⟩:=aM;have x0:=kz aN 0;have x1:=kz aN 1;have x2:=kz aN 2;have x3:=kz aN 3;have x4:=kz aN 4;have x5:=kz aN 5;have x6:=kz aN 6;have x7:=kz aN 7;refine bodyPost_ret (v:=.agg #[.int .i64 10,.string ⟨#[]⟩,.bool false,.slice none 0 0,.slice (some ⟨w2.heap.size,0,none⟩) 1 1,.slice none 0 0,.slice none 0 0,.slice av cs.length cv]) (by simp [results,Tryz.results198,go_sem,x0,x1,x2,x3,x4,x5,x6,x7]) rfl ?_;rw [← HN.out];exact ae.out.done H.out hch (VN.choose (ae.out.ks hch) (ae.out.sl1 sM (by unfold R;omega) hch))
end Ps
namespace Ps
open j6 Pt Tr Sp Lx
theorem VC.of {S:Nat→Prop} {w:World} {ps:List PL} {bd:List ND} {v1:Value} {a2:Option Addr} {c2 m:Nat} (hm:bd.length = m) (h1:Ov 1 PW S w v1 ps) (h2:KS S w fun w2=>Sl 8 (PN w2) a2 c2 bd):VC S w (.agg #[v1,.slice a2 m c2]) (ps,bd):=by
 subst hm;obtain ⟨a1,c1,rfl,h1⟩:=h1;exact ⟨a1,c1,a2,c2,rfl,h1,h2⟩
theorem Kb (s:ByteArray) (hs:s.size≤400000) (n:Nat) (IL:xA s n):tO s (n + 1):=by
 intro S pb d o w hd h jA;have HL:=kq IL;clear IL;have ah:Fn EN 8 28 S pb s d w.heap.size w.heap.size w.heap.size w (w.alloc (.cells #[.slice none 0 0,.slice none 0 0] 44)) o (.slice none 0 0) [] (.slice none 0 0) [] #[.slice none 0 0,.slice none 0 0] #[.slice none 0 0,.slice none 0 0] 44 S (fun _=>True):=Fn.start h;obtain ⟨i0,hi,qd,kQ,lM⟩:=info_parts xL;have HI:=kq hi;have ym:=kq qd;have o9:=kq kQ;have lD:=kq lM;clear hi qd kQ lM;obtain ⟨R0,hR⟩:∃ R0,(eD s d (n + 1) o) = R0:=⟨_,rfl⟩;rw [hR];rw [eD] at hR;have H:=kq h;have HN:=kq hR;have ae:=kq ah;have mV:=kq jA;clear h hR ah jA;go_enter Tryz.func214,Tryz.ntmps214;go_wp2_with fail;have hc:=lq _ pb s hs o d [⟨#[40]⟩] _ ae.out.hp (by decide)
 try simp only [zd,World.size_setCell] at hc
 try rw [mZ.out] at hc
 have bC:Down s _ (bO s [⟨#[40]⟩] o):=eY (s:=s) (o:=o) (l:=[⟨#[40]⟩]) ae.out.hp.ok (by decide);have hn:=HN.out;generalize (bO s [⟨#[40]⟩] o) = rX at hc bC hn;clear HN;have HC:=kq hc;have bq:=kq bC;have HN:=kq hn;clear hc bC hn;cases rX with
 | bad i er =>
  go_wp2_with fail;refine HC.out.mono ?_;rintro e w2 ⟨hf,rfl⟩;have dF:Does S pb s d w VC R0 (aA i er) w2:=by rw [show R0 = .bad i er from HN.out.symm];exact ⟨ae.out.fr.trans hf,rfl⟩
  clear hf;go_wp2_with fail;exact ⟨rfl,dF⟩
 | ok b p1 =>
  have hm:=bq.out _ _ rfl;have yA:=kq hm.1;have hn:=HN.out;rw [Rs.bind_ok] at hn;clear HN bq hm;have HN:=kq hn;clear hn;go_wp2_with fail;refine HC.out.mono ?_;rintro e w2 ⟨hf,⟨v,rfl,rfl⟩,hp⟩;have ah:=ae.out.call aj hf hp;clear ae HC hf hp;have ae:=kq ah;clear ah
  skip
  have hc:=vS _ pb s hs p1 d _ ae.out.hp;have bC:fD s _ (gV s p1):=ma ae.out.hp.ok;have hn:=HN.out;generalize (gV s p1) = rX at hc bC hn;clear HN;have HC:=kq hc;have bq:=kq bC;have HN:=kq hn;clear hc bC hn;cases rX with
  | bad i er =>
   go_wp2_with fail;refine HC.out.mono ?_;rintro e w2 ⟨hf,rfl⟩;have dF:Does S pb s d w VC R0 (aA i er) w2:=by rw [show R0 = .bad i er from HN.out.symm];exact ⟨ae.out.fr.trans hf,rfl⟩
   clear hf;go_wp2_with fail;exact ⟨rfl,dF⟩
  | ok x p4 =>
   have hm:=bq.out _ _ rfl;have GU:=kq hm.1;have hn:=HN.out;rw [Rs.bind_ok] at hn;clear HN bq hm;have HN:=kq hn;clear hn;go_wp2_with fail;refine HC.out.mono ?_;rintro e w5 ⟨hf,⟨v,rfl,aw,cw,rfl,Vx⟩,hp⟩;have ah:=ae.out.call aj hf hp;clear ae HC hf hp;have hle:=ah.fr.size;have QJ:=ah.hp.lt;have jG:=(zv ah.two.rr).1;have Ka:=QK Vx;have ah:=ah.below aj (ax w5 (.cells #[.slice aw x.len cw] 39));have au:Row EW 1 39 w.heap.size _ ((w5.alloc (.cells #[.slice aw x.len cw] 39)).alloc (.cells #[.slice (some ⟨w5.heap.size,0,none⟩) 1 1,.slice none 0 0] 44)) (.slice (some ⟨w5.heap.size,0,none⟩) 1 1) [x]:=Row.of (row:=#[.slice aw x.len cw]) (g:=w5.heap.size) (m:=1) hle ((Below.heap_alloc _ _ _ (by simp)).trans (ay _ _)) rfl rfl (by decide) (dQ.to iw (Nat.le_trans (ax _ _).size (ax _ _).size) (fun b hb aB=>((ax _ _).block b (kd aB (ax _ _).size)).trans ((ax _ _).block b aB)) (fun _ hb _=>hb) Ka) (fun hb=>by have:=QJ _ hb;omega);have ah:=(ah.keep (fun _ _ _=>trivial:KS _ _ fun _=>True)).var aj au (fun g hg=>⟨own_ne hg (by simp),own_ne hg (by omega)⟩);have GX:(w5.alloc (.cells #[.slice aw x.len cw] 39)).heap.size = w5.heap.size + 1:=by simp
   rw [GX] at ah;have CL:Hid (w5.heap.size + 1 ≠ w.heap.size):=kq (by omega);clear GX hle QJ jG Ka au Vx;have ae:=kq ah;clear ah;obtain ⟨fq,hq,hfq⟩:=acD HN.out;have HFQ:=kq hfq;have HQ:=kq hq;clear HN hq hfq;go_wp2_with fail;have Uh:mu s p4 < mu s o:=by have Lr:=yA.out;have Ww:=GU.out;omega
   have HQ0:=kq Uh;clear Uh
   go_loopw [13] (fun kv wr=>∃ (m:Nat) (q:Tok) (ps:List PL) (v1:Value) (M:Nat→Prop),(mJ s m ps q).bind fq = R0∧mu s q < m∧mu s q≤mu s p4∧ps.length + mu s q≤F s + 1∧Fn EW 1 39 S pb s d (w5.heap.size + 1) w.heap.size w.heap.size w wr q v1 ps (.slice none 0 0) [] #[v1,.slice none 0 0] #[.slice none 0 0,.slice none 0 0] 44 M (fun _=>True)) (fun kv wr=>TA s pb wr)
   case atStart=>exact ⟨F s,p4,[x],_,_,HQ.out,tX s p4,vi _,by have:=tX s p4;simp only [List.length_singleton];omega,ae.out⟩
   case round =>
    obtain ⟨m,q,ps,v1,M,hn,yP,hmq,TQ,ah⟩:=hrel;obtain ⟨m,rfl⟩:∃ m2,m = m2 + 1:=⟨m - 1,by omega⟩;have IY:=ah.hp.mW;rw [mJ,Rs.bind_assoc] at hn;have Um:ps.length≤900000:=by unfold F at TQ;omega
    clear ae HQ;have ae:=kq ah;have HN:=kq hn;have TB:=kq yP;have HMQ:=kq hmq;have Ik:=kq IY;have HCL:=kq TQ;clear ah hn yP hmq IY TQ;have hc:=lq _ pb s hs q d [⟨#[124]⟩] _ ae.out.hp (by decide)
    try simp only [zd,World.size_setCell] at hc
    try rw [mZ.out] at hc
    have bC:Down s _ (bO s [⟨#[124]⟩] q):=eY (s:=s) (o:=q) (l:=[⟨#[124]⟩]) ae.out.hp.ok (by decide);have hn:=HN.out;generalize (bO s [⟨#[124]⟩] q) = rX at hc bC hn;clear HN;have HC:=kq hc;have bq:=kq bC;have HN:=kq hn;clear hc bC hn;cases rX with
    | bad i er =>
     go_wp2_with fail;refine HC.out.mono ?_;rintro e w2 ⟨hf,rfl⟩;have dF:Does S pb s d w VC R0 (aA i er) w2:=by rw [show R0 = .bad i er from HN.out.symm];exact ⟨ae.out.fr.trans hf,rfl⟩
     clear hf;go_wp2_with fail;exact ⟨rfl,dF⟩
    | ok b p7 =>
     have hm:=bq.out _ _ rfl;have BG:=kq hm.1;have hn:=HN.out;rw [Rs.bind_ok] at hn;clear HN bq hm;have HN:=kq hn;clear hn;go_wp2_with fail;refine HC.out.mono ?_;rintro e w8 ⟨hf,⟨v,rfl,rfl⟩,hp⟩;have ah:=ae.out.call iw hf hp;clear ae HC hf hp;have ae:=kq ah;clear ah;cases b
     ·skip
      have hn:=HN.out;rw [if_neg (by decide),Rs.bind_ok,HFQ.out] at hn;dsimp only at hn;clear HN;have HN:=kq hn;clear hn;obtain ⟨av,cv,XI⟩:=ae.out.two.r1.shape;subst XI;have hc:=jh _ pb s hs p7 d [⟨#[41]⟩] _ ae.out.hp (by decide)
      try simp only [zd,World.size_setCell] at hc
      try rw [mZ.out] at hc
      have bC:fD s _ (aZ s [⟨#[41]⟩] p7):=bJ (s:=s) (o:=p7) (l:=[⟨#[41]⟩]) ae.out.hp.ok (by decide);have hn:=HN.out;generalize (aZ s [⟨#[41]⟩] p7) = rX at hc bC hn;clear HN;have HC:=kq hc;have bq:=kq bC;have HN:=kq hn;clear hc bC hn;cases rX with
      | bad i er =>
       go_wp2_with fail;refine HC.out.mono ?_;rintro e w2 ⟨hf,rfl⟩;have dF:Does S pb s d w VC R0 (aA i er) w2:=by rw [show R0 = .bad i er from HN.out.symm];exact ⟨ae.out.fr.trans hf,rfl⟩
       clear hf;go_wp2_with fail;exact ⟨rfl,dF⟩
      | ok u Aw =>
       have hm:=bq.out _ _ rfl;have Ec:=kq hm.1;have hn:=HN.out;rw [Rs.bind_ok] at hn;clear HN bq hm;have HN:=kq hn;clear hn;go_wp2_with fail;refine HC.out.mono ?_;rintro e Ow ⟨hf,⟨v,rfl,rfl⟩,hp⟩;have ah:=ae.out.call iw hf hp;clear ae HC hf hp;have ae:=kq ah;clear ah;have hc:=gN _ pb s hs Aw d _ ae.out.hp;have bC:Down s _ (aD s Aw):=aO s (F s) Aw ae.out.hp.ok;have hn:=HN.out;generalize (aD s Aw) = rX at hc bC hn;clear HN;have HC:=kq hc;have bq:=kq bC;have HN:=kq hn;clear hc bC hn;cases rX with
       | bad i er =>
        go_wp2_with fail;refine HC.out.mono ?_;rintro e w2 ⟨hf,rfl⟩;have dF:Does S pb s d w VC R0 (aA i er) w2:=by rw [show R0 = .bad i er from HN.out.symm];exact ⟨ae.out.fr.trans hf,rfl⟩
        clear hf;go_wp2_with fail;exact ⟨rfl,dF⟩
       | ok u wI =>
        have hm:=bq.out _ _ rfl;have GZ:=kq hm.1;have hn:=HN.out;rw [Rs.bind_ok] at hn;clear HN bq hm;have HN:=kq hn;clear hn;go_wp2_with fail;refine HC.out.mono ?_;rintro e GY ⟨hf,⟨v,rfl,rfl⟩,hp⟩;have ah:=ae.out.call iw hf hp;clear ae HC hf hp;have ae:=kq ah;clear ah;have hc:=uP _ pb s wI d _ ae.out.hp;have hn:=HN.out;generalize (dG wI) = B at hc hn;clear HN;have HC:=kq hc;have HN:=kq hn;clear hc hn;cases B
        ·have hn:=HN.out;rw [if_neg (by decide)] at hn;clear HN;have HN:=kq hn;clear hn;go_wp2_with fail;refine HC.out.mono ?_;rintro e QH ⟨rfl,hb⟩;have ah:=ae.out.below iw (by first | exact hb | simpa only [zd,World.size_setCell] using hb);clear ae HC hb;have ae:=kq ah;clear ah;have hn:=HN.out;unfold je at hn;clear HN;have HN:=kq hn;clear hn;have hc:=lm _ pb s wI d [⟨#[101,115,97,99]⟩] _ ae.out.hp (by decide)
         try simp only [zd,World.size_setCell] at hc
         try rw [mZ.out] at hc
         have hn:=HN.out;generalize (bu [⟨#[101,115,97,99]⟩] wI) = B at hc hn;clear HN;have HC:=kq hc;have HN:=kq hn;clear hc hn;cases B
         ·have hn:=HN.out;rw [if_neg (by decide)] at hn;clear HN;have HN:=kq hn;clear hn;go_wp2_with fail;refine HC.out.mono ?_;rintro e Ns ⟨rfl,hb⟩;have ah:=ae.out.below iw (by first | exact hb | simpa only [zd,World.size_setCell] using hb);clear ae HC hb;have ae:=kq ah;clear ah
          try clear k1 f1
          have hc:=jh _ pb s hs wI d [⟨#[59,59]⟩] _ ae.out.hp (by decide)
          try simp only [zd,World.size_setCell] at hc
          try rw [mZ.out] at hc
          have bC:fD s _ (aZ s [⟨#[59,59]⟩] wI):=bJ (s:=s) (o:=wI) (l:=[⟨#[59,59]⟩]) ae.out.hp.ok (by decide);have hn:=HN.out;generalize (aZ s [⟨#[59,59]⟩] wI) = rX at hc bC hn;clear HN;have HC:=kq hc;have bq:=kq bC;have HN:=kq hn;clear hc bC hn;cases rX with
          | bad i er =>
           go_wp2_with fail;refine HC.out.mono ?_;rintro e w2 ⟨hf,rfl⟩;have dF:Does S pb s d w VC R0 (aA i er) w2:=by rw [show R0 = .bad i er from HN.out.symm];exact ⟨ae.out.fr.trans hf,rfl⟩
           clear hf;go_wp2_with fail;exact ⟨rfl,dF⟩
          | ok u Xk =>
           have hm:=bq.out _ _ rfl;have acv:=kq hm.1;have hn:=HN.out;rw [Rs.bind_ok] at hn;clear HN bq hm;have HN:=kq hn;clear hn;go_wp2_with fail;refine HC.out.mono ?_;rintro e w19 ⟨hf,⟨v,rfl,rfl⟩,hp⟩;have ah:=ae.out.call iw hf hp;clear ae HC hf hp;have ae:=kq ah;clear ah;have hc:=gN _ pb s hs Xk d _ ae.out.hp;have bC:Down s _ (aD s Xk):=aO s (F s) Xk ae.out.hp.ok;have hn:=HN.out;generalize (aD s Xk) = rX at hc bC hn;clear HN;have HC:=kq hc;have bq:=kq bC;have HN:=kq hn;clear hc bC hn;cases rX with
           | bad i er =>
            go_wp2_with fail;refine HC.out.mono ?_;rintro e w2 ⟨hf,rfl⟩;have dF:Does S pb s d w VC R0 (aA i er) w2:=by rw [show R0 = .bad i er from HN.out.symm];exact ⟨ae.out.fr.trans hf,rfl⟩
            clear hf;go_wp2_with fail;exact ⟨rfl,dF⟩
           | ok u p21 =>
            have hm:=bq.out _ _ rfl;have agz:=kq hm.1;have hn:=HN.out;rw [Rs.bind_ok] at hn;clear HN bq hm;have HN:=kq hn;clear hn;go_wp2_with fail;refine HC.out.mono ?_;rintro e Zg ⟨hf,⟨v,rfl,rfl⟩,hp⟩;have ah:=ae.out.call iw hf hp;clear ae HC hf hp;have ae:=kq ah;clear ah;have r0:=dx ae.out.two.rr;have f0:=zf 0 ae.out.two.rr;have k0:=dx ae.out.two.nr;have r1:=dA ae.out.two.rr;have f1:=zf 1 ae.out.two.rr;have k1:=dA ae.out.two.nr;go_wp2_with fail;have aM:=qF Zg (w.heap.size) (.slice av ps.length cv) (.slice none 0 0) _ _ _ ae.out.two.rr;generalize ((Zg.setCell ⟨w.heap.size,0,none⟩ (.slice av ps.length cv)).setCell ⟨w.heap.size,1,none⟩ (.slice none 0 0)) = W8 at aM ⊢
            obtain ⟨aN,hch⟩:=aM;have x0:=kz aN 0;have x1:=kz aN 1;refine bodyPost_ret (v:=.agg #[.slice av ps.length cv,.slice none 0 0]) (by simp [results,Tryz.results214,go_sem,x0,x1]) rfl ?_;rw [← HN.out];exact ae.out.done H.out hch (VC.of (bd:=[]) rfl (ae.out.sl1 iw (by unfold R;omega) hch) (KS.imp (ae.out.ks hch) fun _ _=>ji 0))
         ·have hn:=HN.out;rw [if_pos rfl] at hn;clear HN;have HN:=kq hn;clear hn;go_wp2_with fail;refine HC.out.mono ?_;rintro e Ns ⟨rfl,hb⟩;have ah:=ae.out.below iw (by first | exact hb | simpa only [zd,World.size_setCell] using hb);clear ae HC hb;have ae:=kq ah;clear ah
          try clear k1 f1
          have r0:=dx ae.out.two.rr;have f0:=zf 0 ae.out.two.rr;have k0:=dx ae.out.two.nr;have r1:=dA ae.out.two.rr;have f1:=zf 1 ae.out.two.rr;have k1:=dA ae.out.two.nr;go_wp2_with fail;have aM:=qF Ns (w.heap.size) (.slice av ps.length cv) (.slice none 0 0) _ _ _ ae.out.two.rr;generalize ((Ns.setCell ⟨w.heap.size,0,none⟩ (.slice av ps.length cv)).setCell ⟨w.heap.size,1,none⟩ (.slice none 0 0)) = W8 at aM ⊢
          obtain ⟨aN,hch⟩:=aM;have x0:=kz aN 0;have x1:=kz aN 1;refine bodyPost_ret (v:=.agg #[.slice av ps.length cv,.slice none 0 0]) (by simp [results,Tryz.results214,go_sem,x0,x1]) rfl ?_;rw [← HN.out];exact ae.out.done H.out hch (VC.of (bd:=[]) rfl (ae.out.sl1 iw (by unfold R;omega) hch) (KS.imp (ae.out.ks hch) fun _ _=>ji 0))
        ·have hn:=HN.out;rw [if_pos rfl] at hn;clear HN;have HN:=kq hn;clear hn;go_wp2_with fail;refine HC.out.mono ?_;rintro e QH ⟨rfl,hb⟩;have ah:=ae.out.below iw (by first | exact hb | simpa only [zd,World.size_setCell] using hb);clear ae HC hb;have ae:=kq ah;clear ah;have hc:=HL.out _ pb d wI _ hd ae.out.hp (by have Ox:=BG.out;have TN:=Ec.out;have TP:=GZ.out;have jA:=mV.out;have h1:=HMQ.out;have h2:=HQ0.out;omega);have bC:Down s _ (listF s d n [] [] wI):=(aX s n).list d [] [] wI ae.out.hp.ok;have hn:=HN.out;generalize (listF s d n [] [] wI) = rX at hc bC hn;clear HN;have HC:=kq hc;have bq:=kq bC;have HN:=kq hn;clear hc bC hn;cases rX with
         | bad i er =>
          go_wp2_with fail;refine HC.out.mono ?_;rintro e w2 ⟨hf,rfl⟩;have dF:Does S pb s d w VC R0 (aA i er) w2:=by rw [show R0 = .bad i er from HN.out.symm];exact ⟨ae.out.fr.trans hf,rfl⟩
          clear hf;go_wp2_with fail;exact ⟨rfl,dF⟩
         | ok y Xm =>
          have hm:=bq.out _ _ rfl;have agA:=kq hm.1;have hn:=HN.out;rw [Rs.bind_ok] at hn;clear HN bq hm;have HN:=kq hn;clear hn;go_wp2_with fail;refine HC.out.mono ?_;rintro e U1 ⟨hf,⟨v,rfl,a1,c1,a2,c2,a3,c3,a4,c4,a5,c5,hv,hx⟩,hp⟩;have ah:=ae.out.call iw hf hp;clear ae HC hf hp;obtain rfl:v = .agg #[.int .i64 y.k,.string y.nm,.bool y.g,.slice a1 y.az.length c1,.slice a2 y.ws.length c2,.slice a3 y.ks.len c3,.slice a4 y.bs.length c4,.slice a5 y.cz.len c5]:=hv;have ah:=ah.hold hx;clear hx;have ae:=kq ah;clear ah;have hks:=KS.row (m:=1) (row:=#[.int .i64 y.k,.string y.nm,.bool y.g,.slice a1 y.az.length c1,.slice a2 y.ws.length c2,.slice a3 y.ks.len c3,.slice a4 y.bs.length c4,.slice a5 y.cz.len c5]) (ty:=28) aj (ol (ae.out.held.imp fun _ h=>h.2)) rfl (by decide);have ah:=(ae.out.grow iw (ax U1 (.cells #[.int .i64 y.k,.string y.nm,.bool y.g,.slice a1 y.az.length c1,.slice a2 y.ws.length c2,.slice a3 y.ks.len c3,.slice a4 y.bs.length c4,.slice a5 y.cz.len c5] 28))).hold hks;clear ae hks;have ae:=kq ah;clear ah;have k1:=dA ae.out.two.nr;have f1:=zf 1 ae.out.two.nr;have ah:=ae.out.store iw CL.out 1 (.slice (some ⟨U1.heap.size,0,none⟩) 1 1);clear ae;have ae:=kq ah;clear ah;have hn:=HN.out;unfold je at hn;clear HN;have HN:=kq hn;clear hn;have hc:=lm _ pb s Xm d [⟨#[101,115,97,99]⟩] _ ae.out.hp (by decide)
          try simp only [zd,World.size_setCell] at hc
          try rw [mZ.out] at hc
          have hn:=HN.out;generalize (bu [⟨#[101,115,97,99]⟩] Xm) = B at hc hn;clear HN;have HC:=kq hc;have HN:=kq hn;clear hc hn;cases B
          ·have hn:=HN.out;rw [if_neg (by decide)] at hn;clear HN;have HN:=kq hn;clear hn;go_wp2_with fail;refine HC.out.mono ?_;rintro e Xl ⟨rfl,hb⟩;have ah:=ae.out.below iw (by first | exact hb | simpa only [zd,World.size_setCell] using hb);clear ae HC hb;have ae:=kq ah;clear ah
           try clear k1 f1
           have hc:=jh _ pb s hs Xm d [⟨#[59,59]⟩] _ ae.out.hp (by decide)
           try simp only [zd,World.size_setCell] at hc
           try rw [mZ.out] at hc
           have bC:fD s _ (aZ s [⟨#[59,59]⟩] Xm):=bJ (s:=s) (o:=Xm) (l:=[⟨#[59,59]⟩]) ae.out.hp.ok (by decide);have hn:=HN.out;generalize (aZ s [⟨#[59,59]⟩] Xm) = rX at hc bC hn;clear HN;have HC:=kq hc;have bq:=kq bC;have HN:=kq hn;clear hc bC hn;cases rX with
           | bad i er =>
            go_wp2_with fail;refine HC.out.mono ?_;rintro e w2 ⟨hf,rfl⟩;have dF:Does S pb s d w VC R0 (aA i er) w2:=by rw [show R0 = .bad i er from HN.out.symm];exact ⟨ae.out.fr.trans hf,rfl⟩
            clear hf;go_wp2_with fail;exact ⟨rfl,dF⟩
           | ok u p28 =>
            have hm:=bq.out _ _ rfl;have Zh:=kq hm.1;have hn:=HN.out;rw [Rs.bind_ok] at hn;clear HN bq hm;have HN:=kq hn;clear hn;go_wp2_with fail;refine HC.out.mono ?_;rintro e QI ⟨hf,⟨v,rfl,rfl⟩,hp⟩;have ah:=ae.out.call iw hf hp;clear ae HC hf hp;have ae:=kq ah;clear ah;have hc:=gN _ pb s hs p28 d _ ae.out.hp;have bC:Down s _ (aD s p28):=aO s (F s) p28 ae.out.hp.ok;have hn:=HN.out;generalize (aD s p28) = rX at hc bC hn;clear HN;have HC:=kq hc;have bq:=kq bC;have HN:=kq hn;clear hc bC hn;cases rX with
            | bad i er =>
             go_wp2_with fail;refine HC.out.mono ?_;rintro e w2 ⟨hf,rfl⟩;have dF:Does S pb s d w VC R0 (aA i er) w2:=by rw [show R0 = .bad i er from HN.out.symm];exact ⟨ae.out.fr.trans hf,rfl⟩
             clear hf;go_wp2_with fail;exact ⟨rfl,dF⟩
            | ok u p31 =>
             have hm:=bq.out _ _ rfl;have acB:=kq hm.1;have hn:=HN.out;rw [Rs.bind_ok] at hn;clear HN bq hm;have HN:=kq hn;clear hn;go_wp2_with fail;refine HC.out.mono ?_;rintro e U0 ⟨hf,⟨v,rfl,rfl⟩,hp⟩;have ah:=ae.out.call iw hf hp;clear ae HC hf hp;have ae:=kq ah;clear ah;have r0:=dx ae.out.two.rr;have f0:=zf 0 ae.out.two.rr;have k0:=dx ae.out.two.nr;have r1:=dA ae.out.two.rr;have f1:=zf 1 ae.out.two.rr;have k1:=dA ae.out.two.nr;go_wp2_with fail;have aM:=qF U0 (w.heap.size) (.slice av ps.length cv) (.slice (some ⟨U1.heap.size,0,none⟩) 1 1) _ _ _ ae.out.two.rr;generalize ((U0.setCell ⟨w.heap.size,0,none⟩ (.slice av ps.length cv)).setCell ⟨w.heap.size,1,none⟩ (.slice (some ⟨U1.heap.size,0,none⟩) 1 1)) = W8 at aM ⊢
             obtain ⟨aN,hch⟩:=aM;have x0:=kz aN 0;have x1:=kz aN 1;refine bodyPost_ret (v:=.agg #[.slice av ps.length cv,.slice (some ⟨U1.heap.size,0,none⟩) 1 1]) (by simp [results,Tryz.results214,go_sem,x0,x1]) rfl ?_;rw [← HN.out];exact ae.out.done H.out hch (VC.of (bd:=[y]) rfl (ae.out.sl1 iw (by unfold R;omega) hch) ((ae.out.ks hch).imp fun _ h=>h.2))
          ·have hn:=HN.out;rw [if_pos rfl] at hn;clear HN;have HN:=kq hn;clear hn;go_wp2_with fail;refine HC.out.mono ?_;rintro e Xl ⟨rfl,hb⟩;have ah:=ae.out.below iw (by first | exact hb | simpa only [zd,World.size_setCell] using hb);clear ae HC hb;have ae:=kq ah;clear ah
           try clear k1 f1
           have r0:=dx ae.out.two.rr;have f0:=zf 0 ae.out.two.rr;have k0:=dx ae.out.two.nr;have r1:=dA ae.out.two.rr;have f1:=zf 1 ae.out.two.rr;have k1:=dA ae.out.two.nr;go_wp2_with fail;have aM:=qF Xl (w.heap.size) (.slice av ps.length cv) (.slice (some ⟨U1.heap.size,0,none⟩) 1 1) _ _ _ ae.out.two.rr;generalize ((Xl.setCell ⟨w.heap.size,0,none⟩ (.slice av ps.length cv)).setCell ⟨w.heap.size,1,none⟩ (.slice (some ⟨U1.heap.size,0,none⟩) 1 1)) = W8 at aM ⊢
           obtain ⟨aN,hch⟩:=aM;have x0:=kz aN 0;have x1:=kz aN 1;refine bodyPost_ret (v:=.agg #[.slice av ps.length cv,.slice (some ⟨U1.heap.size,0,none⟩) 1 1]) (by simp [results,Tryz.results214,go_sem,x0,x1]) rfl ?_;rw [← HN.out];exact ae.out.done H.out hch (VC.of (bd:=[y]) rfl (ae.out.sl1 iw (by unfold R;omega) hch) ((ae.out.ks hch).imp fun _ h=>h.2))
     ·skip
      have hn:=HN.out
      first | rw [if_pos rfl,Rs.bind_assoc] at hn | rw [if_pos trivial,Rs.bind_assoc] at hn
      clear HN;have HN:=kq hn;clear hn;go_wp2_with fail;have ky:Below w8.heap.size w8 w8.drew:=⟨rfl,rfl,rfl,vi _,fun _ _=>rfl⟩;have ah:=ae.out.below iw ky;clear ae ky;have ae:=kq ah;clear ah;have hc:=vS _ pb s hs p7 d _ ae.out.hp;have bC:fD s _ (gV s p7):=ma ae.out.hp.ok;have hn:=HN.out;generalize gV s p7 = rX at hc bC hn;clear HN;have HC:=kq hc;have bq:=kq bC;have HN:=kq hn;clear hc bC hn;refine RN.begins (fun wz=>wz.heap[w5.heap.size + 1]? = some (.cells #[v1,.slice none 0 0] 44 (0,0))) [7] (by kernel_rfl) ?_;generalize w8.drew = wd at ae HC ⊢
      have hS:wd.heap[w5.heap.size + 1]? = some (.cells #[v1,.slice none 0 0] 44 (0,0)):=ae.out.two.nr;refine RN.tk (i:=0) rfl hS (by intro wq hq;have s0:=dx hq;go_simp;try with_reducible rfl) ?_;refine RN.tk (i:=1) rfl hS (by intro wq hq;have s0:=dx hq;go_simp;try with_reducible rfl) ?_;refine RN.tk (i:=2) rfl hS (by intro wq hq;have s0:=dx hq;go_simp;try with_reducible rfl) ?_;refine RN.one 3 rfl fun K hK=>?_;go_simp;cases rX with
      | bad i er =>
       refine HC.out.mono ?_;rintro e w2 ⟨hf,rfl⟩;have dF:Does S pb s d w VC R0 (aA i er) w2:=by rw [show R0 = .bad i er from HN.out.symm];exact ⟨ae.out.fr.trans hf,rfl⟩
       clear hf hS;go_wp2_with fail;exact ⟨rfl,dF⟩
      | ok y p34 =>
       have HMZ:=kq (bq.out _ _ rfl).1;have hn:=HN.out;rw [Rs.bind_ok] at hn;clear HN bq;have HN:=kq hn;clear hn;refine HC.out.mono ?_;rintro e w6 ⟨hf,⟨v,rfl,a1,c1,rfl,yC⟩,hp⟩;have xB:EW _ w6 [.slice a1 y.len c1] y:=⟨a1,c1,rfl,yC⟩;have ah:=ae.out.call iw hf hp;clear ae HC hf hp yC;refine hK _ _ (fun _=>ah.two.nr) ?_;clear hK K hS;have hS:=ah.two.nr;have ae:=kq ah;clear ah;refine RN.one 4 rfl fun K hK=>?_;go_simp;have ah:=ae.out.below iw (ax w6 (.cells #[.slice a1 y.len c1] 39));have xB:=iw.tq xB (ax w6 (.cells #[.slice a1 y.len c1] 39)).size (fun b _ aB=>(ax w6 _).block b aB) (fun _ hb _=>hb);have qa:w.heap.size≤w6.heap.size:=ae.out.fr.size;clear ae;refine hK _ _ (fun _=>ah.two.nr) ?_;clear hK K hS;have hS:=ah.two.nr;have ae:=kq ah;clear ah;obtain ⟨xs,dR,hcells⟩:=ae.out.two.r1.ex;have dP:=kq dR;have Ar:=kq hcells;have G8:=kq xB;clear dR hcells xB;refine RN.one 5 rfl fun K hK=>?_;refine step_append_lies _ (by rfl) _ _ _ (by rfl) w.heap.size 39 i0 _ 1 24 Tryz.underlying23 HI.out ym.out o9.out lD.out rfl (by omega) v1 ps.length xs (by rfl) dP.out
        ⟨w6.heap.size,0,none⟩ 1 1 [.slice a1 y.len c1] (by rfl) (by rfl) (World.news_of_block (cs:=#[.slice a1 y.len c1]) (t:=39) (fr:=(0,0)) (heap_alloc_new w6 _)) (by simp [Value.oneCell'])
        (by omega) (by unfold maxLen;omega) (by omega) (by simp;omega) (w6.heap.size + 1) (by simp) ?_
       intro g gH w3 jm dI gT aB;have ah:=ae.out.app1 iw Ar.out G8.out jm dI (by simpa only [zd] using gT);refine hK _ _ (fun _=>ah.two.nr) ?_;clear hK K hS;have hS:=ah.two.nr;clear ae dP Ar G8 jm dI gT aB qa;have ae:=kq ah;clear ah;refine RN.tk (i:=6) rfl hS (by intro wq hq;skip;go_simp;try with_reducible rfl) ?_;refine RN.one 7 rfl fun K hK=>?_;have f0:=zf 0 ae.out.two.nr;have k0:=dx ae.out.two.nr;go_simp;refine hK _ _ (fun h=>absurd h (by decide)) ?_;clear hK K hS f0 k0;refine RN.done (by kernel_rfl) ?_ _;have ah:=ae.out.store iw CL.out 0 (.slice (some ⟨g,0,none⟩) (ps.length + 1) gH);clear ae;have ae:=kq ah;clear ah;generalize w3.setCell ⟨w5.heap.size + 1,0,none⟩ (.slice (some ⟨g,0,none⟩) (ps.length + 1) gH) = wv at ae ⊢
       go_wp2_with fail;go_roundw
       case rel =>
        have iF:mu s p34 < mu s q:=by have Ox:=BG.out;have hmz:=HMZ.out;omega
        have h1:=TB.out;have h2:=HMQ.out;have TQ:=HCL.out;exact ⟨m,p34,ps ++ [y],_,_,HN.out,by omega,by omega,by rw [zI,List.length_singleton];omega,ae.out⟩
       case measure =>
        have iF:mu s p34 < mu s q:=by have Ox:=BG.out;have hmz:=HMZ.out;omega
        have e1:=Ik.out;have e2:=ae.out.hp.mW;omega
end Ps
namespace Ps
open j6 Pt Tr Sp Lx
structure All (s:ByteArray) (n:Nat):Prop where
 list:xA s n
 item:J5 s n
 unit:J6 s n
 command:nM s n
 simple:Au s n
 eP:oh s n
 body:uR s n
 behind:sP s n
 loop:J7 s n
 branch:vU s n
 each:J8 s n
 choice:Av s n
 entry:tO s n
 enc:Lp s n
theorem Jk (s:ByteArray) (hs:s.size≤400000) (n:Nat):All s n:=by
 induction n using Nat.strongRecOn with
 | ind n ih =>
  have hl:xA s n:=Nh s hs n fun m hm=>(ih m hm).item;have hb:uR s n:=Nl s hs n hl;have he:Lp s n:=QF s hs n hb
  match n,ih,hl,hb,he with
  | 0,_,hl,hb,he =>
   exact ⟨hl,fun _ _ _ _ _ _ _ h=>by omega,fun _ _ _ _ _ _ _ h=>by omega,fun _ _ _ _ _ _ _ h=>by omega,fun _ _ _ _ _ _ _ h=>by omega,fun _ _ _ _ _ _ _ h=>by omega,hb,fun _ _ _ _ _ _ _ _ _ h=>by omega,fun _ _ _ _ _ _ _ _ h=>by omega,fun _ _ _ _ _ _ _ h=>by omega,fun _ _ _ _ _ _ _ h=>by omega,fun _ _ _ _ _ _ _ h=>by omega,fun _ _ _ _ _ _ _ h=>by omega,he⟩
  | n + 1,ih,hl,hb,he =>
   have p:=ih n (Nat.lt_succ_self _);have hc:oh s (n + 1):=by
    match n,ih with
    | 0,_=>exact fun _ _ _ _ _ _ _ h=>by omega
    | n + 1,ih =>
     have q:=ih n (by omega);exact BH s hs n q.enc q.branch q.loop q.each q.choice
   exact ⟨hl,Nq s hs n fun m hm=>(ih m (by omega)).unit,Nn s hs n p.command,Eb s hs n p.simple p.eP,G5 s hs n p.eP,hc,hb,GV s hs n p.body,Np s hs n p.body p.behind,G7 s hs n p.body p.behind p.branch,Nr s hs n p.behind,G9 s hs n fun m hm=>(ih m (by omega)).entry,Kb s hs n p.list,he⟩
end Ps
end Go.Proofs.YtckakkeejekibaaGreatDoor
