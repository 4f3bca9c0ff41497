/- next; sees, skip, take. -/
import Derived.Test.YtckakkeejekibaaGreatDoorPsB
set_option maxHeartbeats 1600000
set_option maxRecDepth 100000
namespace Go.Proofs.YtckakkeejekibaaGreatDoor
open Go.RowKit Go.Sort
namespace Ps
open j6 Pt Tr Sp Lx
theorem Ty (W:World) (pb:Nat) (v0 v1 v2 v3 v4 v5 v6 v7 v8 u1 u2 u3 u4 u5:Value) (T:TypeId) (h:W.heap[pb]? = some (.cells #[v0,v1,v2,v3,v4,v5,v6,v7,v8] T (0,0))) :
  (((((W.setCell ⟨pb,1,none⟩ u1).setCell ⟨pb,2,none⟩ u2).setCell ⟨pb,3,none⟩ u3).setCell ⟨pb,4,none⟩ u4).setCell ⟨pb,5,none⟩ u5).heap[pb]? = some (.cells #[v0,u1,u2,u3,u4,u5,v6,v7,v8] T (0,0)) ∧
    jU pb W (((((W.setCell ⟨pb,1,none⟩ u1).setCell ⟨pb,2,none⟩ u2).setCell ⟨pb,3,none⟩ u3).setCell ⟨pb,4,none⟩ u4).setCell ⟨pb,5,none⟩ u5):=by
 have g1:(W.setCell ⟨pb,1,none⟩ u1).heap[pb]? = some (.cells #[v0,u1,v2,v3,v4,v5,v6,v7,v8] T (0,0)):=heap_setCell_same _ _ 1 _ _ u1 h;have g2:((W.setCell ⟨pb,1,none⟩ u1).setCell ⟨pb,2,none⟩ u2).heap[pb]? = some (.cells #[v0,u1,u2,v3,v4,v5,v6,v7,v8] T (0,0)):=heap_setCell_same _ _ 2 _ _ u2 g1;have g3:(((W.setCell ⟨pb,1,none⟩ u1).setCell ⟨pb,2,none⟩ u2).setCell ⟨pb,3,none⟩ u3).heap[pb]? = some (.cells #[v0,u1,u2,u3,v4,v5,v6,v7,v8] T (0,0)):=heap_setCell_same _ _ 3 _ _ u3 g2;have g4:((((W.setCell ⟨pb,1,none⟩ u1).setCell ⟨pb,2,none⟩ u2).setCell ⟨pb,3,none⟩ u3).setCell ⟨pb,4,none⟩ u4).heap[pb]? = some (.cells #[v0,u1,u2,u3,u4,v5,v6,v7,v8] T (0,0)):=heap_setCell_same _ _ 4 _ _ u4 g3;have g5:(((((W.setCell ⟨pb,1,none⟩ u1).setCell ⟨pb,2,none⟩ u2).setCell ⟨pb,3,none⟩ u3).setCell ⟨pb,4,none⟩ u4).setCell ⟨pb,5,none⟩ u5).heap[pb]? = some (.cells #[v0,u1,u2,u3,u4,u5,v6,v7,v8] T (0,0)):=heap_setCell_same _ _ 5 _ _ u5 g4;exact ⟨g5,((((jU.set W 1 u1).trans (jU.set _ 2 u2)).trans (jU.set _ 3 u3)).trans (jU.set _ 4 u4)).trans (jU.set _ 5 u5)⟩
theorem D7 (s:ByteArray) (i:Nat) (hi:i≤s.size):dz s (cO s i):=by
 have hg:=pu s i hi;have h1:=vK s (s.size + 1) i hi;have hft:=PV s i hi
 by_cases aM:mG (cO s i) = false
 ·have h3:=(hg.2.2.2.2 aM).2.2;refine ⟨hg.2.1,h3,fun h4=>?_,by omega,hft.2⟩;simp [mG,h4] at aM
 ·clear aM;refine ⟨hg.2.1,?_,?_,?_,hft.2⟩
  ·by_cases aM:mG (cO s i) = false
   ·exact (hg.2.2.2.2 aM).2.2
   ·unfold cO at hg aM ⊢
    generalize aheadF (s.size + 1) s i = m at h1 hg aM ⊢
    have hi:=hg.2.1;clear hg;unfold tokF at hi aM ⊢
    split <;> try (split) <;> try (split) <;> try (split)
    all_goals simp_all [mG]
    all_goals omega
  ·unfold cO;generalize aheadF (s.size + 1) s i = m at h1;unfold tokF;intro h4;split <;> rename_i hm
   ·exact ⟨by simp only [];omega,rfl⟩
   ·rw [if_neg hm] at h4;exfalso;revert h4;split
    ·simp
    ·split
     ·split <;> simp
     ·split <;> simp
  ·have hj:(cO s i).j≤s.size∨(cO s i).l = .nil:=by
    by_cases aM:mG (cO s i) = false
    ·exact .inl (hg.2.2.2.2 aM).2.2
    ·right;unfold cO at aM ⊢
     generalize aheadF (s.size + 1) s i = m at aM ⊢
     unfold tokF at aM ⊢
     split <;> try (split) <;> try (split) <;> try (split)
     all_goals simp_all [mG]
   rcases hj with hj | hj
   ·omega
   ·rw [hj];exact zVy _
theorem jM (S:Nat→Prop) (pb:Nat) (s:ByteArray) (hs:s.size≤400000) (o:Tok) (d:Nat) (w:World) (h:jl S w pb s o d) :
  Calls Tryz.prog 25 #[.pointer (some ⟨pb,0,none⟩)] w (Does S pb s d w uj (dL s o)):=by
 have Ou:=h.pb;obtain ⟨⟨a,cap,hr,hl⟩,h1,h2,h3,h4,m,hm⟩:=h;have hn:=fun w'=>Lx.jM s (by omega) o.j h3.j w';have fO:=D7 s o.j h3.j;have hnf:dL s o = if (cO s o.j).k = 5 then .bad (cO s o.j).i (cO s o.j).err else .ok () (cO s o.j):=rfl;generalize cO s o.j = q at hn fO hnf;generalize dL s o = r at hnf ⊢
 have HNF:=kq hnf;have BB:=kq fO;clear hnf fO;have c0:=dx hr;have c7:=gz hr;have HR:=kq hr;have HL:=kq hl;have HN:=kq hn;have HM:=kq hm;clear hr hl hn hm;go_enter Tryz.func25,Tryz.ntmps25;go_wp2_with fail;refine RN.begins (fun w'=>w'.cell? ⟨pb,0,none⟩ = some (.string s)∧w'.cell? ⟨pb,7,none⟩ = some (.int .i64 o.j)) [19] (by kernel_rfl) ?_;have hS:w.drew.cell? ⟨pb,0,none⟩ = some (.string s)∧w.drew.cell? ⟨pb,7,none⟩ = some (.int .i64 o.j):=⟨c0,c7⟩;clear c0 c7;refine RN.tk (i:=0) rfl hS (by intro wq hq;obtain ⟨s0,s7⟩:=hq;go_simp;try with_reducible rfl) ?_;refine RN.tk (i:=1) rfl hS (by intro wq hq;obtain ⟨s0,s7⟩:=hq;go_simp;try with_reducible rfl) ?_;refine RN.tk (i:=2) rfl hS (by intro wq hq;obtain ⟨s0,s7⟩:=hq;go_simp;try with_reducible rfl) ?_;refine RN.tk (i:=3) rfl hS (by intro wq hq;obtain ⟨s0,s7⟩:=hq;go_simp;try with_reducible rfl) ?_;refine RN.tk (i:=4) rfl hS (by intro wq hq;obtain ⟨s0,s7⟩:=hq;go_simp;try with_reducible rfl) ?_;refine RN.tk (i:=5) rfl hS (by intro wq hq;obtain ⟨s0,s7⟩:=hq;go_simp;try with_reducible rfl) ?_;refine RN.tk (i:=6) rfl hS (by intro wq hq;obtain ⟨s0,s7⟩:=hq;go_simp;try with_reducible rfl) ?_;refine RN.tk (i:=7) rfl hS (by intro wq hq;obtain ⟨s0,s7⟩:=hq;go_simp;try with_reducible rfl) ?_;refine RN.tk (i:=8) rfl hS (by intro wq hq;obtain ⟨s0,s7⟩:=hq;go_simp;try with_reducible rfl) ?_;refine RN.tk (i:=9) rfl hS (by intro wq hq;obtain ⟨s0,s7⟩:=hq;go_simp;try with_reducible rfl) ?_;refine RN.one 10 rfl fun K hK=>?_;go_simp;refine (HN.out _).mono ?_;rintro e w1 ⟨a1,pW,rfl,mU,aP⟩;have uW:PRow w1 pb s o a cap d:=(aP.block _ Ou).trans HR.out;have qR:w1.cell? ⟨pb,0,none⟩ = some (.string s)∧w1.cell? ⟨pb,7,none⟩ = some (.int .i64 o.j):=⟨kz uW 0,kz uW 7⟩;refine hK _ _ (fun _=>qR) ?_;clear hS hK K;have hS:=qR;clear qR;have iR:=kq aP;have Ur:=kq mU;have KJ:=kq uW;clear aP mU uW;refine RN.tk (i:=11) rfl hS (by intro wq hq;obtain ⟨s0,s7⟩:=hq;go_simp;try with_reducible rfl) ?_;refine RN.tk (i:=12) rfl hS (by intro wq hq;obtain ⟨s0,s7⟩:=hq;go_simp;try with_reducible rfl) ?_;refine RN.tk (i:=13) rfl hS (by intro wq hq;obtain ⟨s0,s7⟩:=hq;go_simp;try with_reducible rfl) ?_;refine RN.tk (i:=14) rfl hS (by intro wq hq;obtain ⟨s0,s7⟩:=hq;go_simp;try with_reducible rfl) ?_;refine RN.tk (i:=15) rfl hS (by intro wq hq;obtain ⟨s0,s7⟩:=hq;go_simp;try with_reducible rfl) ?_;refine RN.one 16 rfl fun K hK=>?_;have fx:∀ i,w1.frozen? ⟨pb,i,none⟩ = false:=fun i=>frozen_of_row _ _ _ _ _ KJ.out;have f1:=fx 1;have f2:=fx 2;have f3:=fx 3;have f4:=fx 4;have f5:=fx 5;have k1:=kz KJ.out 1;have k2:=kz KJ.out 2;have k3:=kz KJ.out 3;have k4:=kz KJ.out 4;have k5:=kz KJ.out 5;go_simp;have aM:=Ty w1 pb _ _ _ _ _ _ _ _ _ (.int .i64 q.k) (.int .i64 q.i) (.string q.t) (.slice a1 q.l.len pW) (.int .i64 q.err) _ KJ.out;have wE:=(⟨kz aM.1 0,kz aM.1 7⟩:_∧_);refine hK _ _ (fun _=>wE) ?_;clear hS hK K fx f1 f2 f3 f4 f5 k1 k2 k3 k4 k5;generalize (((((w1.setCell ⟨pb,1,none⟩ (.int .i64 q.k)).setCell ⟨pb,2,none⟩ (.int .i64 q.i)).setCell ⟨pb,3,none⟩ (.string q.t)).setCell ⟨pb,4,none⟩ (.slice a1 q.l.len pW)).setCell ⟨pb,5,none⟩ (.int .i64 q.err)) = w2 at aM wE ⊢
 have jb:=kq aM;have hS:=wE;clear aM wE;refine RN.tk (i:=17) rfl hS (by intro wq hq;obtain ⟨s0,s7⟩:=hq;go_simp;try with_reducible rfl) ?_;refine RN.tk (i:=18) rfl hS (by intro wq hq;obtain ⟨s0,s7⟩:=hq;go_simp;try with_reducible rfl) ?_;refine RN.one 19 rfl fun K hK=>?_;have f7:=zf 7 jb.out.1;have k7:=kz jb.out.1 7;go_simp;refine hK _ _ (fun h=>absurd h (by decide)) ?_;clear hS hK K f7 k7;refine RN.done (by kernel_rfl) ?_ _;have aM:(w2.setCell ⟨pb,7,none⟩ (.int .i64 q.j)).heap[pb]? = some (.cells #[.string s,.int .i64 q.k,.int .i64 q.i,.string q.t,.slice a1 q.l.len pW,.int .i64 q.err,.string (aT o),.int .i64 q.j,.int .i64 d] 61 (0,0)):=heap_setCell_same _ _ 7 _ _ (.int .i64 q.j) jb.out.1;have bi:=jb.out.2.trans (jU.set w2 7 (.int .i64 q.j));generalize w2.setCell ⟨pb,7,none⟩ (.int .i64 q.j) = w3 at aM bi ⊢
 have Io:=kq aM;have Xj:=kq bi;clear aM bi jb KJ;have s1:=kz Io.out 1;have s2:=kz Io.out 2;have s3:=kz Io.out 3;have s4:=kz Io.out 4;have s5:=kz Io.out 5;have O4:w1.heap.size≤w3.heap.size:=Xj.out.size
 have Xh:cu (fun b=>w.heap.size≤b) w3 a1 pW q.l:=Ur.out.keep O4 fun b hb aB=>Xj.out.block b aB (by
  have:w.heap.size≤b:=hb
  omega)
 have ht:=vH q a1 pW w3 Xh.lies;have HT:=kq ht;clear ht;go_wp2_with fail;refine HT.out.mono ?_;rintro e w4 ⟨rfl,Tz⟩;have hS4:=(Tz.block _ (zv Io.out).1).trans Io.out;have f6:=zf 6 hS4;have k6:=kz hS4 6;have aM:(w4.setCell ⟨pb,6,none⟩ (.string (aT q))).heap[pb]? = some (.cells #[.string s,.int .i64 q.k,.int .i64 q.i,.string q.t,.slice a1 q.l.len pW,.int .i64 q.err,.string (aT q),.int .i64 q.j,.int .i64 d] 61 (0,0)):=heap_setCell_same _ _ 6 _ _ (.string (aT q)) hS4;have bi:jU pb w1 (w4.setCell ⟨pb,6,none⟩ (.string (aT q))):=(Xj.out.trans (jU.of_below Tz)).trans (jU.set w4 6 (.string (aT q)));have Y2:(w4.setCell ⟨pb,6,none⟩ (.string (aT q))).heap.size = w4.heap.size:=by simp
 have KN:cu (fun b=>w.heap.size≤b) (w4.setCell ⟨pb,6,none⟩ (.string (aT q))) a1 pW q.l:=Ur.out.keep bi.size fun b hb aB=>bi.block b aB (by
  have:w.heap.size≤b:=hb
  omega)
 have qU:jU pb w (w4.setCell ⟨pb,6,none⟩ (.string (aT q))):=(show jU pb w w1 from ⟨iR.out.os,iR.out.tape,iR.out.output,iR.out.size,fun b hb _=>iR.out.block b hb⟩).trans bi;have KM:jl (fun b=>S b∨(w.heap.size≤b∧b < w4.heap.size)) (w4.setCell ⟨pb,6,none⟩ (.string (aT q))) pb s q d:=by
  have:=qU.size;rw [Y2] at this;refine ⟨⟨a1,pW,aM,KN.mono fun b hb aB=>.inr ⟨hb,by rw [Y2] at aB;exact aB⟩⟩,fun hb=>hb.elim h1 fun hb=>by omega,fun b hb=>?_,BB.out,.inl h4,m,(World.cell?_of_block (w:=w) (a:=⟨0,0,none⟩) (qU.block _ (h2 _ h4) fun e=>h1 (e ▸ h4))).trans HM.out⟩;rw [Y2];exact hb.elim (fun hb=>kd (h2 b hb) this) fun hb=>hb.2
 have s1:=kz aM 1;have s2:=kz aM 2;have s5:=kz aM 5;have HP5:=kq KM;have HF5:=kq qU;have HZ5:=kq Y2;clear hS4 Tz aM bi KN KM qU Y2 Xh
 by_cases hk:q.k = 5
 ·have hr:r = .bad q.i q.err:=by rw [HNF.out,if_pos hk]
  have hk5:((q.k:Int) == 5) = true:=by rw [hk];rfl
  have hw:=cZ _ pb s q d q.err _ HP5.out;have HW:=kq hw;have HR':=kq hr;clear hw hk hr;go_wp2_with fail;refine HW.out.mono ?_;rintro e w6 ⟨rfl,hb6⟩;go_wp2_with fail;rw [HR'.out];exact ⟨rfl,HF5.out.trans (jU.of_below hb6),rfl⟩
 ·have hr:r = .ok () q:=by rw [HNF.out,if_neg hk]
  have hk5:((q.k:Int) == 5) = false:=by rw [beq_eq_false_iff_ne];omega
  have HR':=kq hr;clear hk hr;go_wp2_with fail;go_end0;rw [HR'.out];refine ⟨HF5.out,⟨_,rfl,rfl⟩,?_⟩;have h5:=HP5.out;rw [← HZ5.out] at h5;exact h5
end Ps
namespace Ps
open j6 Pt Tr Sp Lx
def sK (w:World) (b:Nat) (l:List ByteArray):Prop:=l.length≤100∧∀ j,j < l.length→w.cell? ⟨b,0 + j,none⟩ = some (.string (l.getD j ByteArray.empty))
theorem sK.below {w w':World} {b:Nat} {l:List ByteArray} (h:sK w b l) (hb:Below w.heap.size w w'):sK w' b l:=⟨h.1,fun j hj=>cell_below hb (h.2 j hj)⟩
theorem rY (S:Nat→Prop) (pb:Nat) (s:ByteArray) (o:Tok) (d:Nat) (l:List ByteArray) (b c:Nat) (w:World) (h:jl S w pb s o d) (ht:sK w b l) :
  Calls Tryz.prog 98 #[.pointer (some ⟨pb,0,none⟩),.slice (some ⟨b,0,none⟩) l.length c] w fun e w'=>e = .returned (.bool (bu l o))∧Below w.heap.size w w':=by
 obtain ⟨a,cap,hr,hl⟩:=h.ex;have c6:=fU hr;have hc:=fun w' (hb:Below w.heap.size w w')=>Tryz.slices_Contains_string b 0 l.length c l (aT o) w' (vi _) (by have:=ht.1;omega) (ht.below hb).2;rw [List.take_length] at hc;have HC:=kq hc;unfold bu;clear hc hr hl h ht;go_enter Tryz.func98,Tryz.ntmps98;go_wp2_with fail;refine (HC.out _ (Below.refl _ _)).mono ?_;rintro e w1 ⟨rfl,rfl⟩;go_wp2_with fail;go_ret;exact ⟨rfl,Below.refl _ _⟩
theorem GN (S:Nat→Prop) (pb:Nat) (s:ByteArray) (hs:s.size≤400000) (o:Tok) (d:Nat) (l:List ByteArray) (b c:Nat) (w:World) (h:jl S w pb s o d) (ht:sK w b l) :
  Calls Tryz.prog 95 #[.pointer (some ⟨pb,0,none⟩),.slice (some ⟨b,0,none⟩) l.length c] w (Does S pb s d w Gq (bO s l o)):=by
 have Qw:=rY S pb s o d l b c w h ht;have hn:=fun w' (hb:Below w.heap.size w w')=>jM S pb s hs o d w' (h.below hb);have hlen:=ht.1;have H:=kq h;clear ht;cases hB:bu l o
 ·rw [hB] at Qw;have Nb:bO s l o = .ok false o:=by unfold bO;rw [hB];rfl
  rw [Nb];have UL:=kq Qw;clear h hn Qw hB Nb;go_enter Tryz.func95,Tryz.ntmps95;go_wp2_with fail;refine UL.out.mono ?_;rintro e w1 ⟨rfl,hb⟩;go_wp2_with fail;go_ret;exact H.out.does hb rfl
 ·rw [hB] at Qw;have Nb:bO s l o = (dL s o).bind fun _ q=>.ok true q:=by unfold bO;rw [hB];rfl
  rw [Nb];generalize dL s o = r at hn ⊢
  have UL:=kq Qw;have HN:=kq hn;clear h hn Qw hB Nb;cases r with
  | ok u q =>
   go_enter Tryz.func95,Tryz.ntmps95;go_wp2_with fail;refine UL.out.mono ?_;rintro e w1 ⟨rfl,hb⟩;have HB:=kq hb;clear hb;go_wp2_with fail;refine (HN.out _ HB.out).mono ?_;rintro e w2 ⟨hf,⟨v,rfl,rfl⟩,hp⟩;have lT:Does S pb s d w1 Gq (.ok true q) (.returned (.bool true)) w2:=⟨hf,⟨_,rfl,rfl⟩,hp⟩;have HD:=kq (H.out.after VM.bool HB.out lT);clear lT hf hp;go_wp2_with fail;go_ret;exact HD.out
  | bad i er =>
   go_enter Tryz.func95,Tryz.ntmps95;go_wp2_with fail;refine UL.out.mono ?_;rintro e w1 ⟨rfl,hb⟩;have HB:=kq hb;clear hb;go_wp2_with fail;refine (HN.out _ HB.out).mono ?_;rintro e w2 ⟨hf,rfl⟩;have lT:Does S pb s d w1 Gq (.bad i er) (aA i er) w2:=⟨hf,rfl⟩;have HD:=kq (H.out.after VM.bool HB.out lT);clear lT hf;go_wp2_with fail;exact ⟨rfl,HD.out⟩
theorem rZ (S:Nat→Prop) (pb:Nat) (s:ByteArray) (hs:s.size≤400000) (o:Tok) (d:Nat) (l:List ByteArray) (b c:Nat) (w:World) (h:jl S w pb s o d) (ht:sK w b l) :
  Calls Tryz.prog 192 #[.pointer (some ⟨pb,0,none⟩),.slice (some ⟨b,0,none⟩) l.length c] w (Does S pb s d w uj (aZ s l o)):=by
 have Nb:=GN S pb s hs o d l b c w h ht;have hlen:=ht.1;have H:=kq h;unfold aZ;generalize bO s l o = r at Nb ⊢
 have UM:=kq Nb;clear Nb h ht
 match r with
 | .bad i er =>
  go_enter Tryz.func192,Tryz.ntmps192;go_wp2_with fail;refine UM.out.mono ?_;rintro e w1 ⟨hf,rfl⟩;go_wp2_with fail;exact ⟨rfl,hf,rfl⟩
 | .ok true q =>
  go_enter Tryz.func192,Tryz.ntmps192;go_wp2_with fail;refine UM.out.mono ?_;rintro e w1 ⟨hf,⟨v,rfl,rfl⟩,hp⟩;go_wp2_with fail;go_end0;exact ⟨hf,⟨_,rfl,rfl⟩,hp⟩
 | .ok false q =>
  go_enter Tryz.func192,Tryz.ntmps192;go_wp2_with fail;refine UM.out.mono ?_;rintro e w1 ⟨hf,⟨v,rfl,rfl⟩,hp⟩;have HW:=kq (cZ _ pb s q d 1 w1 hp);clear hp;go_wp2_with fail;refine HW.out.mono ?_;rintro e w2 ⟨rfl,hb⟩;go_wp2_with fail;exact ⟨rfl,hf.trans (jU.of_below hb),rfl⟩
theorem sK.row {w:World} {b:Nat} {l:List ByteArray} {T:TypeId} (h:w.heap[b]? = some (.cells (l.map Value.string).toArray T (0,0))) (hl:l.length≤100):sK w b l:=by
 refine ⟨hl,fun j hj=>?_⟩;rw [Nat.zero_add,kz h j];simp [hj]
theorem lm (S:Nat→Prop) (pb:Nat) (s:ByteArray) (o:Tok) (d:Nat) (l:List ByteArray) (w:World) (h:jl S w pb s o d) (hl:l.length≤100) :
  Calls Tryz.prog 98 #[.pointer (some ⟨pb,0,none⟩),.slice (some ⟨w.heap.size,0,none⟩) l.length l.length] (w.alloc (.cells (l.map Value.string).toArray 9)) fun e w'=>e = .returned (.bool (bu l o))∧Below w.heap.size w w' :=
 (rY S pb s o d l _ _ _ (h.below (ax _ _)) (sK.row (ay _ _) hl)).mono fun _ _ ⟨he,hb⟩=>⟨he,ak (ax _ _) hb⟩
theorem lq (S:Nat→Prop) (pb:Nat) (s:ByteArray) (hs:s.size≤400000) (o:Tok) (d:Nat) (l:List ByteArray) (w:World) (h:jl S w pb s o d) (hl:l.length≤100) :
  Calls Tryz.prog 95 #[.pointer (some ⟨pb,0,none⟩),.slice (some ⟨w.heap.size,0,none⟩) l.length l.length] (w.alloc (.cells (l.map Value.string).toArray 9)) (Does S pb s d w Gq (bO s l o)) :=
 (GN S pb s hs o d l _ _ _ (h.below (ax _ _)) (sK.row (ay _ _) hl)).mono fun _ _ hd=>h.after VM.bool (ax _ _) hd
theorem jh (S:Nat→Prop) (pb:Nat) (s:ByteArray) (hs:s.size≤400000) (o:Tok) (d:Nat) (l:List ByteArray) (w:World) (h:jl S w pb s o d) (hl:l.length≤100) :
  Calls Tryz.prog 192 #[.pointer (some ⟨pb,0,none⟩),.slice (some ⟨w.heap.size,0,none⟩) l.length l.length] (w.alloc (.cells (l.map Value.string).toArray 9)) (Does S pb s d w uj (aZ s l o)) :=
 (rZ S pb s hs o d l _ _ _ (h.below (ax _ _)) (sK.row (ay _ _) hl)).mono fun _ _ hd=>h.after VM.unit (ax _ _) hd
end Ps
namespace Ps
open j6 Pt Tr Sp Lx
def mu (s:ByteArray) (o:Tok):Nat:=2 * (s.size - o.j) + (if o.k = 4 then 0 else 1)
theorem tX (s:ByteArray) (o:Tok):mu s o < F s:=by unfold mu F;split <;> omega
def TA (s:ByteArray) (pb:Nat) (w:World):Nat:=2 * (s.size - (intOf ((w.cell? ⟨pb,7,none⟩).getD undef)).toNat) + (if intOf ((w.cell? ⟨pb,1,none⟩).getD undef) = 4 then 0 else 1)
theorem jl.mW {S:Nat→Prop} {w:World} {pb:Nat} {s:ByteArray} {o:Tok} {d:Nat} (h:jl S w pb s o d):TA s pb w = mu s o:=by
 obtain ⟨a,cap,hr,_⟩:=h.ex;have c1:=dA hr;have c7:=gz hr;unfold TA mu;rw [c1,c7];simp only [Option.getD_some,intOf,Int.toNat_natCast];have:((o.k:Int) = 4) ↔ o.k = 4:=by omega
 simp only [this]
theorem nH {s:ByteArray} {o q:Tok} (ho:dz s o) (hk:o.k ≠ 4) (h:dL s o = .ok () q):mu s q < mu s o∧dz s q:=by
 unfold dL at h;split at h
 ·cases h
 ·rename_i h5;have hq:q = cO s o.j:=by injection h with h1 h2;exact h2.symm
  subst hq;have fO:=D7 s o.j ho.j;have hg:=pu s o.j ho.j;refine ⟨?_,fO⟩
  by_cases h4:(cO s o.j).k = 4
  ·have:=(fO.e h4).1;unfold mu;rw [if_pos h4,if_neg hk];omega
  ·have aM:mG (cO s o.j) = false:=by simp [mG,h4,h5]
   have:=hg.2.2.2.2 aM;have:=ho.j;unfold mu;rw [if_neg h4,if_neg hk];omega
theorem j5 {l:List ByteArray} {o:Tok} {s:ByteArray} (ho:dz s o) (hl:l.all (fun x=>x.size != 0) = true) (h:bu l o = true):o.k ≠ 4:=by
 intro h4;unfold bu at h;rw [Lib.containsS_iff] at h;have:aT o = ⟨#[]⟩:=by unfold aT;rw [if_neg (by omega),if_neg (by omega),(ho.e h4).2];rfl
 rw [this] at h;have:=List.all_eq_true.1 hl _ h;simp [ByteArray.size] at this
theorem qE {l:List ByteArray} {s:ByteArray} {o q:Tok} (ho:dz s o) (hl:l.all (fun x=>x.size != 0) = true) (h:bO s l o = .ok true q):mu s q < mu s o∧dz s q:=by
 unfold bO at h;split at h
 ·rename_i Qw;refine nH ho (j5 ho hl Qw) ?_;cases hn:dL s o with
  | ok u p=>rw [hn] at h;simp only [Rs.bind] at h;injection h with h1 h2;rw [h2]
  | bad i e=>rw [hn] at h;cases h
 ·injection h with h1 h2;cases h1
theorem gN (S:Nat→Prop) (pb:Nat) (s:ByteArray) (hs:s.size≤400000) (o:Tok) (d:Nat) (w:World) (h:jl S w pb s o d) :
  Calls Tryz.prog 52 #[.pointer (some ⟨pb,0,none⟩)] w (Does S pb s d w uj (aD s o)):=by
 have H:=kq h;clear h;go_enter Tryz.func52,Tryz.ntmps52;go_wp2_with fail
 go_loopw [4] (fun b wr=>∃ (n:Nat) (q:Tok),linesN s n q = aD s o∧mu s q < n∧jU pb w wr∧jl (Up S w wr) wr pb s q d) (fun b wr=>TA s pb wr)
 case atStart=>exact ⟨F s,o,rfl,tX s o,jU.refl _ _,H.out.up H.out.pb⟩
 case round =>
  obtain ⟨n,q,hn,yP,hf,hp⟩:=hrel;obtain ⟨n,rfl⟩:∃ m,n = m + 1:=⟨n - 1,by omega⟩;have hk:=lq (Up S w wr) pb s hs q d [gM] wr hp (by decide);have Al:=hp.mW;have Wh:=fun p=>qE (s:=s) (l:=[gM]) (o:=q) (q:=p) hp.ok (by decide);unfold linesN at hn;generalize bO s [gM] q = r at hk hn Wh;have HK:=kq hk;have HN:=kq hn;have HF:=kq hf;have HP:=kq hp;have VW:=kq Wh;have Ik:=kq Al;have TB:=kq yP;clear hk hn hf hp Wh Al yP
  match r with
  | .bad i er =>
   go_wp2_with fail;refine HK.out.mono ?_;rintro e w2 ⟨tV,rfl⟩;have hd:Does (Up S w wr) pb s d wr uj (.bad i er) (aA i er) w2:=⟨tV,rfl⟩;have HD:=kq (H.out.go VM.unit HF.out hd);have hr:aD s o = .bad i er:=HN.out.symm;rw [← hr] at HD;clear hd tV hr;go_wp2_with fail;exact ⟨rfl,HD.out⟩
  | .ok false p =>
   go_wp2_with fail;refine HK.out.mono ?_;rintro e w2 ⟨tV,⟨v,rfl,rfl⟩,lF⟩;have hd:Does (Up S w wr) pb s d wr uj (.ok () p) (.returned (.tuple #[])) w2:=⟨tV,⟨_,rfl,rfl⟩,lF⟩;have HD:=kq (H.out.go VM.unit HF.out hd);have hr:aD s o = .ok () p:=HN.out.symm;rw [← hr] at HD;clear hd tV lF hr;go_wp2_with fail;go_end0;exact HD.out
  | .ok true p =>
   go_wp2_with fail;refine HK.out.mono ?_;rintro e w2 ⟨tV,⟨v,rfl,rfl⟩,lF⟩;have VD:=kq lF;have Rm:=kq tV;clear tV lF;go_wp2_with fail;go_roundw
   case rel =>
    have hm:=VW.out p rfl;have yP:=TB.out;have hm1:=hm.1;refine ⟨n,p,HN.out,by omega,HF.out.trans Rm.out,VD.out.mono (fun b hb=>?_) ?_ ?_⟩
    ·have h1:=HF.out.size;have h2:=Rm.out.size;rcases hb with hb | hb
     ·exact hb.imp id fun hb=>by omega
     ·exact .inr (by omega)
    ·exact Up.out H.out.ns H.out.pb
    ·exact Up.lt H.out.lt (HF.out.trans Rm.out).size
   case measure =>
    have:=(VW.out p rfl).1;have e1:=Ik.out;have e2:=VD.out.mW;omega
end Ps
end Go.Proofs.YtckakkeejekibaaGreatDoor
