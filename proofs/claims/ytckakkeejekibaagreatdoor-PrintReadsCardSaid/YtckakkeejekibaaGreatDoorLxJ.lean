/- (*lex.reader).marked, given what a parameter is read as. -/
import Derived.Test.YtckakkeejekibaaGreatDoorLxH
set_option maxHeartbeats 4000000
set_option maxRecDepth 100000
namespace Go.Proofs.YtckakkeejekibaaGreatDoor
open Go.RowKit Go.Sort
namespace Lx
open j6 Pt
def Mk (rb:Nat) (s:ByteArray) (w:World) (o:Out) (e:Ending) (w':World):Prop :=
 match o with
 | .ok l j=>(∃ a cap,e = .returned (.slice a l.len cap)∧cu (fun b=>w.heap.size≤b) w' a cap l)∧fV w' rb s j∧fI rb w.heap.size (fun _=>False) w w'
 | .bad j err=>e = thrown j err∧(∃ j',fV w' rb s j')∧fI rb w.heap.size (fun _=>False) w w'
def Ml (rb:Nat) (s:ByteArray) (q:Bool) (w:World) (o:Out) (e:Ending) (w':World):Prop :=
 match o with
 | .ok p j=>(∃ t op f a cap,p = one 2 q t op f∧e = .returned (pv 2 q t op a f.len cap)∧t.size≤s.size∧op.size≤s.size∧cu (fun b=>w.heap.size≤b) w' a cap f)∧fV w' rb s j∧fI rb w.heap.size (fun _=>False) w w'
 | .bad j err=>e = thrown j err∧(∃ j',fV w' rb s j')∧fI rb w.heap.size (fun _=>False) w w'
def vI (s:ByteArray) (m:Nat):Prop:=∀ (q:Bool) (d i rb:Nat) (w:World),fV w rb s i→i < s.size→s.size - i < m + 1→d≤201 →
 Calls Tryz.prog 147 #[.pointer (some ⟨rb,0,none⟩),.bool q,.int .i64 d] w (Ml rb s q w (paramF m s q d i))
def si (s:ByteArray) (m:Nat):Prop:=∀ (ec d i rb:Nat) (w:World),fV w rb s i→i≤s.size→s.size - i < m→d≤200 →
 Calls Tryz.prog 163 #[.pointer (some ⟨rb,0,none⟩),.int .u8 ec,.int .i64 d] w (Mk rb s w (markedF m s ec d A0 i))
def zt (s:ByteArray) (m:Nat):Prop:=∀ (d i rb:Nat) (w:World),fV w rb s i→i≤s.size→s.size - i < m→d≤200 →
 Calls Tryz.prog 125 #[.pointer (some ⟨rb,0,none⟩),.int .i64 d] w (Mk rb s w (bareF m s d A0 i))
structure Way (w:World) (rb:Nat) (s:ByteArray) (S:Nat→Prop) (a:A) (i:Nat) (wr:World):Prop where
 r:fV wr rb s i
 le:i≤s.size
 acc:dV wr w.heap.size S w.heap.size a
 lt:∀ x,S x→x < wr.heap.size
 ge:∀ x,S x→w.heap.size≤x
 fr:fI rb w.heap.size (fun _=>False) w wr
 tot:a.tot≤2 * i
namespace Way
variable {w wr:World} {rb i:Nat} {s:ByteArray} {S:Nat→Prop} {a:A}
theorem start (h:fV w rb s i) (hi:i≤s.size):Way w rb s (fun _=>False) A0 i (w.alloc (.cells #[.slice none 0 0,.slice none 0 0,.bool false,.bool false] 145)) :=
 ⟨(Below.heap_alloc _ _ _ h.lt).trans h,hi,⟨.slice none 0 0,.slice none 0 0,false,heap_alloc_new _ _,Nat.le_refl _,(fun h=>h),(fun x h=>by cases h),[],World.ownsRow_nil _ _ _ _,rfl,(fun _ h=>by cases h),⟨rfl,.inl ⟨rfl,rfl⟩⟩,(fun _ h=>by cases h)⟩,
   (fun _ h=>h.elim),(fun _ h=>h.elim),fI.oJ ((Fr.refl _ _ _).alloc _),Nat.zero_le _⟩
theorem drewN (h:Way w rb s S a i wr) (n:Nat):Way w rb s S a i (wr.drewN n):=⟨h.r,h.le,h.acc.heap rfl,h.lt,h.ge,h.fr.trans (fI.drewN _ _ _ _ n),h.tot⟩
theorem nS (h:Way w rb s S a i wr) (jG:rb < w.heap.size):¬ S rb:=fun hs=>by have:=h.ge rb hs;omega
theorem got (h:Way w rb s S a i wr) (jG:rb < w.heap.size) {w':World} {e:Ending} (he:(∃ a' gK,e = .returned (.slice a' a.flush.len gK)∧cu (fun b=>w.heap.size≤b) w' a' gK a.flush)∧Fr w.heap.size S wr w'):Mk rb s w (.ok a.flush i) e w' :=
 ⟨he.1,h.r.fr he.2 jG,h.fr.trans ((fI.oJ he.2).mono fun _ h=>h.elim)⟩
theorem go {w':World} {i':Nat} {a':A} {S':Nat→Prop} (h:Way w rb s S a i wr) (hr:fV w' rb s i') (hi:i'≤s.size) (fH:dV w' w.heap.size S' w.heap.size a') (aB:∀ x,S' x→x < w'.heap.size) (WP:∀ x,S' x→w.heap.size≤x) (hf:fI rb w.heap.size S wr w') (ht:a'.tot≤2 * i'):Way w rb s S' a' i' w' :=
 ⟨hr,hi,fH,aB,WP,h.fr.trans (hf.mono fun _ h=>h.elim),ht⟩
theorem far (h:Way w rb s S a i wr) (jG:rb < w.heap.size) {w3:World} {j:Nat} (hr:fV w3 rb s j) (hj:j≤s.size) (hf:fI rb wr.heap.size (fun _=>False) wr w3) (WK:i≤j) :
  Way w rb s (fun b=>S b∨(wr.heap.size≤b∧b < w3.heap.size)) a j w3:=by
 have hB:w.heap.size≤wr.heap.size:=h.fr.size;have hk:∀ b,b < wr.heap.size→b ≠ rb→w3.heap[b]? = wr.heap[b]?:=fun b hb hn=>hf.block b hb (.inl ⟨hb,hn⟩);refine ⟨hr,hj,?_,fun x hx=>?_,fun x hx=>?_,h.fr.trans ⟨hf.os,hf.tape,hf.output,hf.size,fun b hb ho=>?_⟩,by have:=h.tot;omega⟩
 ·have h1:=dV.mono (S':=fun b=>S b∨(wr.heap.size≤b∧b < w3.heap.size)) h.acc (fun b hb=>.inl hb) (fun b hb=>hb.imp id (·.1));obtain ⟨vl,vb,q,hp,hB',hSp,hq,hb⟩:=h1;have Vn:=(Array.getElem?_eq_some_iff.1 hp).1;refine ⟨vl,vb,q,(hk _ Vn (by omega)).trans hp,hB',hSp,hq,hb.keep hf.size fun b yV ho=>hk b yV ?_⟩;obtain ⟨xs,o1,_,_,o4,_⟩:=hb;rcases ho with (ho | ho) | ho | ho
  ·have:=h.ge b ho;omega
  ·omega
  ·have:=(o1.lt b ho).1;omega
  ·have:=(o4.lt b ho).1;omega
 ·rcases hx with hx | hx
  ·have:=h.lt x hx;have:=hf.size;omega
  ·exact hx.2
 ·rcases hx with hx | hx
  ·exact h.ge x hx
  ·omega
 ·rcases ho with ho | ho
  ·exact hk b hb ho.2
  ·exact ho.elim
theorem add (h:Way w rb s S a i wr) (jG:rb < w.heap.size) (hs:s.size≤1000000) {q:Bool} {t op:ByteArray} {f:PL} {w3:World} {j:Nat} {a2:Option Addr} {yn:Nat} (hr:fV w3 rb s j) (hj:j≤s.size) (hf:fI rb wr.heap.size (fun _=>False) wr w3) (WK:i < j) (ht:t.size≤j - i)
  (Mm:t.size≤s.size) (hos:op.size≤s.size) (hl:cu (fun b=>wr.heap.size≤b) w3 a2 yn f) :
  Calls Tryz.prog 146 #[.pointer (some ⟨w.heap.size,0,none⟩),pv 2 q t op a2 f.len yn] w3 fun e w'=>e = .returned (.tuple #[])∧∃ S',Way w rb s S' (a.add (one 2 q t op f)) j w':=by
 have h3:=h.far jG hr hj hf (by omega);have hz:=a.sizes;have htt:=h.tot;refine (KH w.heap.size _ w.heap.size a 2 q t op f a2 yn w3 h3.acc (by omega) (by omega) h3.lt (by unfold R;omega) (by unfold R;omega) (hl.mono fun b hb aB=>.inr ⟨hb,aB⟩)).mono ?_;rintro e w4 ⟨rfl,fH,bi,afc⟩;refine ⟨rfl,_,h3.go (hr.fr bi jG) hj fH (fun x hx=>?_) (fun x hx=>?_) (fI.oJ bi) (by rw [A.Dm];simp only [one,Lx.tot];omega)⟩
 ·rcases hx with hx | hx
  ·exact kd (h3.lt x hx) bi.size
  ·omega
 ·rcases hx with hx | hx
  ·exact h3.ge x hx
  ·have:=h3.fr.size;omega
theorem all (h:Way w rb s S a i wr) (hs:s.size≤1000000) (jG:rb < w.heap.size) (n:Nat):Calls Tryz.prog 149 #[.pointer (some ⟨w.heap.size,0,none⟩)] (wr.drewN n) (Mk rb s w (.ok a.flush i)) :=
 (R7 w.heap.size S w.heap.size a (wr.drewN n) (h.acc.heap rfl) (by have:=h.tot;have:=h.le;omega) h.lt h.ge).mono fun e w' hh=>(h.drewN n).got jG hh
end Way
theorem FT (s:ByteArray) (hs:s.size≤1000000) (n:Nat) (XW:∀ m,m < n→vI s m):si s n:=by
 intro ec d i0 rb w Jb Z8 BZ hd;have jG:=Jb.lt;have HW0:=kq (Way.start Jb Z8);have HP:=kq XW;clear XW Jb;go_enter Tryz.func163,Tryz.ntmps163;go_wp2
 go_loopw [8] (fun c wr=>∃ (k i:Nat) (S:Nat→Prop) (a:A),markedF n s ec d A0 i0 = markedF k s ec d a i∧s.size - i < k∧k≤n∧Way w rb s S a i wr) (fun c wr=>s.size - (intOf ((wr.cell? ⟨rb,1,none⟩).getD undef)).toNat)
 case atStart=>exact ⟨n,i0,_,A0,rfl,BZ,Nat.le_refl _,HW0.out⟩
 case round =>
  obtain ⟨k,i,S,a,hq,hk,ZY,qi⟩:=hrel;obtain ⟨k',rfl⟩:∃ k',k = k' + 1:=⟨k - 1,by omega⟩;have hE:=lV rb i s wr qi.r;have c0:=qi.r.c0;have c1:=qi.r.c1;have hm:(intOf ((wr.cell? ⟨rb,1,none⟩).getD undef)).toNat = i:=by rw [qi.r.c1];simp [intOf]
  by_cases aB:i < s.size
  ·have he:((i:Int) == (s.size:Int)) = false:=by simp;omega
   rw [he] at hE;have hb:bG s i = s[i]:=(uq aB).symm;have O3:¬ s.size≤i:=by omega
   have a0:(0:Int)≤(i:Int):=by omega
   have a1:(i:Int) < (s.size:Int):=by omega
   have HE:=kq hE;have HQ:=kq hq;have iV:=kq qi;have HB:=kq hb;have FU:=kq O3;have HM:=kq hm;clear hE hq qi he hb O3 hm;cases h1:((s[i].toNat:Int) == (ec:Int))
   ·cases h2:((s[i].toNat:Int) == 34 || (s[i].toNat:Int) == 96)
    ·have pq:((s[i].toNat:Int) == 34) = false:=by simp only [Bool.or_eq_false_iff] at h2;exact h2.1
     have xP:((s[i].toNat:Int) == 96) = false:=by simp only [Bool.or_eq_false_iff] at h2;exact h2.2
     cases tT:((s[i].toNat:Int) == 36)
     ·cases oV:((s[i].toNat:Int) == 92)
      ·have aM:markedF (k' + 1) s ec d a i = markedF k' s ec d (a.text [s[i]] true) (i + 1):=by rw [markedF,if_neg FU.out,HB.out,if_neg (by rw [h1];decide),if_neg (by rw [h2];decide),if_neg (by rw [tT];decide),if_neg (by rw [oV];decide)]
       have jb:=kq (HQ.out.trans aM);have hP:=fun m=>qg w.heap.size S w.heap.size a s[i] true (wr.drewN m) (iV.out.acc.heap rfl) (by have:=a.sizes;have:=iV.out.tot;omega) (by have:=a.sizes;have:=iV.out.tot;omega) iV.out.lt;have uB:=kq hP;clear aM h2 hP;go_wp2_with fail;refine (HE.out).mono ?_;rintro e w2 ⟨rfl,n2,rfl⟩;go_wp2_with fail
       go_quiet (fail)
       go_wp2_with fail;refine (uB.out _).mono ?_;rintro e w3 ⟨rfl,fH,bi⟩;have O4:Way w rb s S (a.text [s[i]] true) i w3∨True:=.inr trivial;have mE:fV w3 rb s i:=fV.fr (w:=wr.drewN _) iV.out.r bi jG;have d1:=mE.c1;have e1:=mE.f1;have jY:=A.kS a [s[i]] true;simp only [zz,zZ] at jY;have Ca:fI rb w.heap.size S wr w3:=⟨bi.os,bi.tape,bi.output,bi.size,fun b hb ho=>bi.block b hb (ho.imp (·.1) id)⟩;have mF:Way w rb s S (a.text [s[i]] true) (i + 1) (w3.setCell ⟨rb,1,none⟩ (.int .i64 ((i:Int) + 1))):=by
        have he:((i:Int) + 1) = ((i + 1:Nat):Int):=by omega
        rw [he];exact iV.out.go (mE.set (i + 1)) (by omega) (fH.wT jG (iV.out.nS jG) _ _) (fun x hx=>by have:=iV.out.lt x hx;have:=bi.size;simp at this ⊢;omega) iV.out.ge (Ca.set (iV.out.nS jG) _ _) (by have:=iV.out.tot;omega)
       have HX:=kq mF;clear fH bi mE O4 Ca mF jY;go_wp2_with fail;go_roundw
       case rel=>exact ⟨k',i + 1,S,_,jb.out,by omega,by omega,HX.out⟩
       case measure=>rw [HM.out,HX.out.r.c1];simp [intOf];omega
      ·have aM:markedF (k' + 1) s ec d a i = markedF k' s ec d (dW ec (ag s (i + 1)) a).1 (i + (dW ec (ag s (i + 1)) a).2):=by rw [markedF,if_neg FU.out,HB.out,if_neg (by rw [h1];decide),if_neg (by rw [h2];decide),if_neg (by rw [tT];decide),if_pos oV]
       have jb:=kq (HQ.out.trans aM);have hP:=fun m=>Mj rb i w.heap.size ec s S w.heap.size a (wr.drewN m) iV.out.r aB hs jG (iV.out.nS jG) (iV.out.acc.heap rfl) (by have:=iV.out.tot;omega) iV.out.lt;have WM:=wU (ec:=ec) (a:=a) aB;have Il:=kq WM;have uB:=kq hP;clear aM h2 hP WM;go_wp2_with fail;refine (HE.out).mono ?_;rintro e w2 ⟨rfl,n2,rfl⟩;go_wp2_with fail
       go_quiet (fail)
       go_wp2_with fail;refine (uB.out _).mono ?_;rintro e w3 ⟨⟨rfl,mE,fH⟩,bi⟩;have Ca:fI rb w.heap.size S wr w3:=⟨bi.os,bi.tape,bi.output,bi.size,fun b hb ho=>bi.block b hb ho⟩;have mF:=iV.out.go mE Il.out.2.1 fH (fun x hx=>kd (iV.out.lt x hx) bi.size) iV.out.ge Ca (by have:=iV.out.tot;have:=Il.out.2.2;omega);have HX:=kq mF;clear fH bi mE Ca mF;go_wp2_with fail;go_roundw
       case rel=>exact ⟨k',_,S,_,jb.out,by have:=Il.out.1;have:=Il.out.2.1;omega,by omega,HX.out⟩
       case measure=>rw [HM.out,HX.out.r.c1];have:=Il.out.1;have:=Il.out.2.1;simp only [Option.getD,intOf,Int.toNat_natCast];omega
     ·have aM:markedF (k' + 1) s ec d a i = match paramF k' s true (d + 1) i with | .bad j e=>.bad j e | .ok p j=>markedF k' s ec d (a.add p) j:=by rw [markedF,if_neg FU.out,HB.out,if_neg (by rw [h1];decide),if_neg (by rw [h2];decide),if_pos tT];rfl
      have hP:=fun m=>HP.out k' (by omega) true (d + 1) i rb (wr.drewN m) iV.out.r aB (by omega) (by omega);rw [show ((d + 1:Nat):Int) = (d:Int) + 1 by omega] at hP;have hq:=HQ.out.trans aM;cases Mo:paramF k' s true (d + 1) i with
      | bad j err =>
       rw [Mo] at hq hP;have jb:=kq hq;have qN:=kq hP;clear aM h2 hP hq Mo;go_wp2_with fail;refine (HE.out).mono ?_;rintro e w2 ⟨rfl,n2,rfl⟩;go_wp2_with fail
       go_quiet (fail)
       go_wp2_with fail;refine (qN.out _).mono ?_;rintro e w3 ⟨rfl,⟨j',mE⟩,bi⟩;have HX:=kq (And.intro mE bi);clear mE bi;go_wp2_with fail;refine ⟨rfl,?_⟩;rw [jb.out];exact ⟨rfl,⟨j',HX.out.1⟩,iV.out.fr.trans ⟨HX.out.2.os,HX.out.2.tape,HX.out.2.output,HX.out.2.size,fun b hb ho=>HX.out.2.block b hb (ho.imp (fun h=>⟨hb,h.2⟩) id)⟩⟩
      | ok p j =>
       obtain ⟨e1,e2,t0,o0,f0,hp0,e3,e4,e5⟩:=(jr s k').2.2 _ _ _ _ _ Mo aB;rw [Mo] at hq hP;have jb:=kq hq;have qN:=kq hP;have HPP:=kq hp0;clear aM h2 hP hq Mo hp0;go_wp2_with fail;refine (HE.out).mono ?_;rintro e w2 ⟨rfl,n2,rfl⟩;go_wp2_with fail
       go_quiet (fail)
       go_wp2_with fail;refine (qN.out _).mono ?_;rintro e w3 ⟨⟨t,op,f,a2,yn,Mq,rfl,ht,Us,hl⟩,mE,bi⟩;have uC:t = t0:=by have:=Mq.symm.trans HPP.out;unfold one at this;cases this;rfl
       have O5:=iV.out.add jG hs mE e2 ⟨bi.os,bi.tape,bi.output,bi.size,fun b hb ho=>bi.block b hb ho⟩ e1 (by rw [uC];exact e3) ht Us hl (q:=true);have Vw:=kq O5;have Ru:=kq Mq;clear O5 hl mE bi Mq uC;go_wp2_with fail;refine (Vw.out).mono ?_;rintro e w4 ⟨rfl,S4,xQ⟩;have HX:=kq xQ;clear xQ;go_wp2_with fail;go_roundw
       case rel=>exact ⟨k',j,S4,_,by rw [jb.out,Ru.out],by omega,by omega,HX.out⟩
       case measure=>rw [HM.out,HX.out.r.c1];simp only [Option.getD,intOf,Int.toNat_natCast];omega
    ·have aM:markedF (k' + 1) s ec d a i = .bad i 1:=by rw [markedF,if_neg FU.out,HB.out,if_neg (by rw [h1];decide),if_pos h2]
     have jb:=kq (HQ.out.trans aM);have pq:((s[i].toNat:Int) == 34) = true∨((s[i].toNat:Int) == 34) = false∧((s[i].toNat:Int) == 96) = true:=by
      cases h:((s[i].toNat:Int) == 34)
      ·rw [h] at h2;exact .inr ⟨rfl,by simpa using h2⟩
      ·exact .inl rfl
     clear aM h2;rcases pq with pq | ⟨pq,xP⟩
     all_goals
      go_wp2_with fail;refine (HE.out).mono ?_;rintro e w2 ⟨rfl,n2,rfl⟩;go_wp2_with fail
      go_quiet (fail)
      go_wp2_with fail;refine (cZ _ _).mono ?_;rintro e w3 ⟨rfl,rfl⟩;go_wp2_with fail;refine ⟨rfl,?_⟩;rw [jb.out];exact ⟨rfl,⟨i,iV.out.r⟩,iV.out.fr.trans (fI.drewN _ _ _ _ _)⟩
   ·have aM:markedF (k' + 1) s ec d a i = .ok a.flush i:=by rw [markedF,if_neg FU.out,HB.out,if_pos h1]
    have jH:=kq (fun m=>iV.out.all hs jG m);have jb:=kq (HQ.out.trans aM);clear aM;go_wp2_with fail;refine (HE.out).mono ?_;rintro e w2 ⟨rfl,n2,rfl⟩;go_wp2_with fail
    go_quiet (fail)
    go_wp2_with fail;refine (jH.out _).mono ?_;rintro e w3 ⟨⟨a',gK,rfl,hl⟩,hr,hf⟩;have HX:=kq (And.intro hl (And.intro hr hf));clear hl hr hf;go_wp2_with fail;go_ret;rw [jb.out];exact ⟨⟨a',gK,rfl,HX.out.1⟩,HX.out.2.1,HX.out.2.2⟩
  ·have he:((i:Int) == (s.size:Int)) = true:=by have:=qi.le;simp;omega
   rw [he] at hE;have aM:markedF (k' + 1) s ec d a i = .ok a.flush i:=by rw [markedF,if_pos (by omega)]
   have jH:=kq (fun m=>qi.all hs jG m);have jb:=kq (hq.trans aM);have HE:=kq hE;clear aM hq hE qi hm he;go_wp2_with fail;refine (HE.out).mono ?_;rintro e w2 ⟨rfl,n2,rfl⟩;go_wp2_with fail;refine (jH.out _).mono ?_;rintro e w3 ⟨⟨a',gK,rfl,hl⟩,hr,hf⟩;have HX:=kq (And.intro hl (And.intro hr hf));clear hl hr hf;go_wp2_with fail;go_ret;rw [jb.out];exact ⟨⟨a',gK,rfl,HX.out.1⟩,HX.out.2.1,HX.out.2.2⟩
end Lx
end Go.Proofs.YtckakkeejekibaaGreatDoor
