/- (*lex.reader).marked, given what a parameter is read as. -/
import Derived.Test.YtoklgmbpgnimcaaGreatDoorLxH
import Derived.Test.YtoklgmbpgnimcaaGreatDoorLxI
namespace Go.Proofs.YtoklgmbpgnimcaaGreatDoor
open Go.RowKit Go.Sort
namespace Lx
open Cls Pt
def GotL (rb:Nat) (s:ByteArray) (w:World) (o:Out) (e:Ending) (w':World):Prop :=
 match o with
 | .ok l j=>(∃ a cap,e = .returned (.slice a l.len cap)∧LiesS (fun b=>w.heap.size≤b) w' a cap l)∧RAt w' rb s j∧FrR rb w.heap.size (fun _=>False) w w'
 | .bad j err=>e = thrown j err∧(∃ j',RAt w' rb s j')∧FrR rb w.heap.size (fun _=>False) w w'
def GotP (rb:Nat) (s:ByteArray) (q:Bool) (w:World) (o:Out) (e:Ending) (w':World):Prop :=
 match o with
 | .ok p j=>(∃ t op f a cap,p = one 2 q t op f∧e = .returned (pv 2 q t op a f.len cap)∧t.size≤s.size∧op.size≤s.size∧LiesS (fun b=>w.heap.size≤b) w' a cap f)∧RAt w' rb s j∧FrR rb w.heap.size (fun _=>False) w w'
 | .bad j err=>e = thrown j err∧(∃ j',RAt w' rb s j')∧FrR rb w.heap.size (fun _=>False) w w'
def ParamAt (s:ByteArray) (m:Nat):Prop:=∀ (q:Bool) (d i rb:Nat) (w:World),RAt w rb s i→i < s.size→s.size - i < m + 1→d≤201 →
 Calls Tryz.prog 86 #[.pointer (some ⟨rb,0,none⟩),.bool q,.int .i64 d] w (GotP rb s q w (paramF m s q d i))
def MarkedAt (s:ByteArray) (m:Nat):Prop:=∀ (ec d i rb:Nat) (w:World),RAt w rb s i→i≤s.size→s.size - i < m→d≤200 →
 Calls Tryz.prog 98 #[.pointer (some ⟨rb,0,none⟩),.int .u8 ec,.int .i64 d] w (GotL rb s w (markedF m s ec d A0 i))
def BareAt (s:ByteArray) (m:Nat):Prop:=∀ (d i rb:Nat) (w:World),RAt w rb s i→i≤s.size→s.size - i < m→d≤200 →
 Calls Tryz.prog 70 #[.pointer (some ⟨rb,0,none⟩),.int .i64 d] w (GotL rb s w (bareF m s d A0 i))
structure Way (w:World) (rb:Nat) (s:ByteArray) (S:Nat→Prop) (a:A) (i:Nat) (wr:World):Prop where
 r:RAt wr rb s i
 le:i≤s.size
 acc:AccAt wr w.heap.size S w.heap.size a
 lt:∀ x,S x→x < wr.heap.size
 ge:∀ x,S x→w.heap.size≤x
 fr:FrR rb w.heap.size (fun _=>False) w wr
 tot:a.tot≤2 * i
namespace Way
variable {w wr:World} {rb i:Nat} {s:ByteArray} {S:Nat→Prop} {a:A}
theorem start (h:RAt w rb s i) (hi:i≤s.size):Way w rb s (fun _=>False) A0 i (w.alloc (.cells #[.slice none 0 0,.slice none 0 0,.bool false,.bool false] 130)) :=
 ⟨(Below.heap_alloc _ _ _ h.lt).trans h,hi,⟨.slice none 0 0,.slice none 0 0,false,heap_alloc_new _ _,Nat.le_refl _,(fun h=>h),(fun x h=>by cases h),[],World.ownsRow_nil _ _ _ _,rfl,(fun _ h=>by cases h),⟨rfl,.inl ⟨rfl,rfl⟩⟩,(fun _ h=>by cases h)⟩,
   (fun _ h=>h.elim),(fun _ h=>h.elim),FrR.of_fr ((Fr.refl _ _ _).alloc _),Nat.zero_le _⟩
theorem drewN (h:Way w rb s S a i wr) (n:Nat):Way w rb s S a i (wr.drewN n):=⟨h.r,h.le,h.acc.heap rfl,h.lt,h.ge,h.fr.trans (FrR.drewN _ _ _ _ n),h.tot⟩
theorem nS (h:Way w rb s S a i wr) (hrb:rb < w.heap.size):¬ S rb:=fun hs=>by have:=h.ge rb hs;omega
theorem got (h:Way w rb s S a i wr) (hrb:rb < w.heap.size) {w':World} {e:Ending} (he:(∃ a' cap',e = .returned (.slice a' a.flush.len cap')∧LiesS (fun b=>w.heap.size≤b) w' a' cap' a.flush)∧Fr w.heap.size S wr w'):GotL rb s w (.ok a.flush i) e w' :=
 ⟨he.1,h.r.fr he.2 hrb,h.fr.trans ((FrR.of_fr he.2).mono fun _ h=>h.elim)⟩
theorem go {w':World} {i':Nat} {a':A} {S':Nat→Prop} (h:Way w rb s S a i wr) (hr:RAt w' rb s i') (hi:i'≤s.size) (hacc:AccAt w' w.heap.size S' w.heap.size a') (hlt:∀ x,S' x→x < w'.heap.size) (hge:∀ x,S' x→w.heap.size≤x) (hf:FrR rb w.heap.size S wr w') (ht:a'.tot≤2 * i'):Way w rb s S' a' i' w' :=
 ⟨hr,hi,hacc,hlt,hge,h.fr.trans (hf.mono fun _ h=>h.elim),ht⟩
theorem far (h:Way w rb s S a i wr) (hrb:rb < w.heap.size) {w3:World} {j:Nat} (hr:RAt w3 rb s j) (hj:j≤s.size) (hf:FrR rb wr.heap.size (fun _=>False) wr w3) (hij:i≤j) :
  Way w rb s (fun b=>S b∨(wr.heap.size≤b∧b < w3.heap.size)) a j w3:=by
 have hB:w.heap.size≤wr.heap.size:=h.fr.size
 have hk:∀ b,b < wr.heap.size→b ≠ rb→w3.heap[b]? = wr.heap[b]?:=fun b hb hn=>hf.block b hb (.inl ⟨hb,hn⟩)
 refine ⟨hr,hj,?_,fun x hx=>?_,fun x hx=>?_,h.fr.trans ⟨hf.os,hf.tape,hf.output,hf.size,fun b hb ho=>?_⟩,by have:=h.tot;omega⟩
 ·have h1:=AccAt.mono (S':=fun b=>S b∨(wr.heap.size≤b∧b < w3.heap.size)) h.acc (fun b hb=>.inl hb) (fun b hb=>hb.imp id (·.1))
  obtain ⟨vl,vb,q,hp,hB',hSp,hq,hb⟩:=h1
  have hpl:=(Array.getElem?_eq_some_iff.1 hp).1
  refine ⟨vl,vb,q,(hk _ hpl (by omega)).trans hp,hB',hSp,hq,hb.keep hf.size fun b hb' ho=>hk b hb' ?_⟩
  obtain ⟨xs,o1,_,_,o4,_⟩:=hb
  rcases ho with (ho | ho) | ho | ho
  ·have:=h.ge b ho;omega
  ·omega
  ·have:=(o1.lt b ho).1;omega
  ·have:=(o4.lt b ho).1;omega
 ·rcases hx with hx | hx
  ·have:=h.lt x hx;have:=hf.size;omega
  ·exact hx.2
 ·rcases hx with hx | hx
  ·exact h.ge x hx
  ·omega
 ·rcases ho with ho | ho
  ·exact hk b hb ho.2
  ·exact ho.elim
theorem add (h:Way w rb s S a i wr) (hrb:rb < w.heap.size) (hs:s.size≤1000000) {q:Bool} {t op:ByteArray} {f:PL} {w3:World} {j:Nat} {a2:Option Addr} {cap2:Nat} (hr:RAt w3 rb s j) (hj:j≤s.size) (hf:FrR rb wr.heap.size (fun _=>False) wr w3) (hij:i < j) (ht:t.size≤j - i)
  (hts:t.size≤s.size) (hos:op.size≤s.size) (hl:LiesS (fun b=>wr.heap.size≤b) w3 a2 cap2 f) :
  Calls Tryz.prog 85 #[.pointer (some ⟨w.heap.size,0,none⟩),pv 2 q t op a2 f.len cap2] w3 fun e w'=>e = .returned (.tuple #[])∧∃ S',Way w rb s S' (a.add (one 2 q t op f)) j w':=by
 have h3:=h.far hrb hr hj hf (by omega)
 have hz:=a.sizes
 have htt:=h.tot
 refine (add_any w.heap.size _ w.heap.size a 2 q t op f a2 cap2 w3 h3.acc (by omega) (by omega) h3.lt (by unfold R;omega) (by unfold R;omega) (hl.mono fun b hb hlt=>.inr ⟨hb,hlt⟩)).mono ?_
 rintro e w4 ⟨rfl,hacc,hfr,hlt4⟩
 refine ⟨rfl,_,h3.go (hr.fr hfr hrb) hj hacc (fun x hx=>?_) (fun x hx=>?_) (FrR.of_fr hfr) (by rw [A.add_tot];simp only [one,Lx.tot];omega)⟩
 ·rcases hx with hx | hx
  ·exact Nat.lt_of_lt_of_le (h3.lt x hx) hfr.size
  ·omega
 ·rcases hx with hx | hx
  ·exact h3.ge x hx
  ·have:=h3.fr.size;omega
theorem all (h:Way w rb s S a i wr) (hs:s.size≤1000000) (hrb:rb < w.heap.size) (n:Nat):Calls Tryz.prog 88 #[.pointer (some ⟨w.heap.size,0,none⟩)] (wr.drewN n) (GotL rb s w (.ok a.flush i)) :=
 (all_any w.heap.size S w.heap.size a (wr.drewN n) (h.acc.heap rfl) (by have:=h.tot;have:=h.le;omega) h.lt h.ge).mono fun e w' hh=>(h.drewN n).got hrb hh
end Way
set_option maxHeartbeats 4000000 in
set_option maxRecDepth 100000 in
theorem marked_step (s:ByteArray) (hs:s.size≤1000000) (n:Nat) (IHP:∀ m,m < n→ParamAt s m):MarkedAt s n:=by
 intro ec d i0 rb w hR0 hi0 hf0 hd
 have hrb:=hR0.lt
 have HW0:=Lib.hid (Way.start hR0 hi0);have HP:=Lib.hid IHP
 clear IHP hR0
 go_enter Tryz.func98,Tryz.ntmps98
 go_wp2
 go_loopw [8] (fun c wr=>∃ (k i:Nat) (S:Nat→Prop) (a:A),markedF n s ec d A0 i0 = markedF k s ec d a i∧s.size - i < k∧k≤n∧Way w rb s S a i wr) (fun c wr=>s.size - (intOf ((wr.cell? ⟨rb,1,none⟩).getD undef)).toNat)
 case atStart=>exact ⟨n,i0,_,A0,rfl,hf0,Nat.le_refl _,HW0.out⟩
 case round =>
  obtain ⟨k,i,S,a,hq,hk,hkn,hway⟩:=hrel
  obtain ⟨k',rfl⟩:∃ k',k = k' + 1:=⟨k - 1,by omega⟩
  have hE:=ended_any rb i s wr hway.r
  have c0:=hway.r.c0
  have c1:=hway.r.c1
  have hm:(intOf ((wr.cell? ⟨rb,1,none⟩).getD undef)).toNat = i:=by rw [hway.r.c1];simp [intOf]
  by_cases hlt:i < s.size
  ·have he:((i:Int) == (s.size:Int)) = false:=by simp;omega
   rw [he] at hE
   have hb:byteAt s i = s[i]:=(getB hlt).symm
   have hnlt:¬ s.size≤i:=by omega
   have a0:(0:Int)≤(i:Int):=by omega
   have a1:(i:Int) < (s.size:Int):=by omega
   have HE:=Lib.hid hE;have HQ:=Lib.hid hq;have HWY:=Lib.hid hway;have HB:=Lib.hid hb;have HNL:=Lib.hid hnlt;have HM:=Lib.hid hm
   clear hE hq hway he hb hnlt hm
   cases h1:((s[i].toNat:Int) == (ec:Int))
   ·cases h2:((s[i].toNat:Int) == 34 || (s[i].toNat:Int) == 96)
    ·have h34:((s[i].toNat:Int) == 34) = false:=by simp only [Bool.or_eq_false_iff] at h2;exact h2.1
     have h96:((s[i].toNat:Int) == 96) = false:=by simp only [Bool.or_eq_false_iff] at h2;exact h2.2
     cases h36:((s[i].toNat:Int) == 36)
     ·cases h92:((s[i].toNat:Int) == 92)
      ·have hst:markedF (k' + 1) s ec d a i = markedF k' s ec d (a.text [s[i]] true) (i + 1):=by rw [markedF,if_neg HNL.out,HB.out,if_neg (by rw [h1];decide),if_neg (by rw [h2];decide),if_neg (by rw [h36];decide),if_neg (by rw [h92];decide)]
       have HST:=Lib.hid (HQ.out.trans hst)
       have hP:=fun m=>put_any w.heap.size S w.heap.size a s[i] true (wr.drewN m) (HWY.out.acc.heap rfl) (by have:=a.sizes;have:=HWY.out.tot;omega) (by have:=a.sizes;have:=HWY.out.tot;omega) HWY.out.lt
       have HPUT:=Lib.hid hP
       clear hst h2 hP
       go_wp2_with fail
       refine (HE.out).mono ?_
       rintro e w2 ⟨rfl,n2,rfl⟩
       go_wp2_with fail
       go_quiet (fail)
       go_wp2_with fail
       refine (HPUT.out _).mono ?_
       rintro e w3 ⟨rfl,hacc,hfr⟩
       have hw3:Way w rb s S (a.text [s[i]] true) i w3∨True:=.inr trivial
       have hr3:RAt w3 rb s i:=RAt.fr (w:=wr.drewN _) HWY.out.r hfr hrb
       have d1:=hr3.c1
       have e1:=hr3.f1
       have htx:=A.text_tot a [s[i]] true
       simp only [List.length_cons,List.length_nil] at htx
       have hf3:FrR rb w.heap.size S wr w3:=⟨hfr.os,hfr.tape,hfr.output,hfr.size,fun b hb ho=>hfr.block b hb (ho.imp (·.1) id)⟩
       have hway3:Way w rb s S (a.text [s[i]] true) (i + 1) (w3.setCell ⟨rb,1,none⟩ (.int .i64 ((i:Int) + 1))):=by
        have he:((i:Int) + 1) = ((i + 1:Nat):Int):=by omega
        rw [he]
        exact HWY.out.go (hr3.set (i + 1)) (by omega) (hacc.setR hrb (HWY.out.nS hrb) _ _) (fun x hx=>by have:=HWY.out.lt x hx;have:=hfr.size;simp at this ⊢;omega) HWY.out.ge (hf3.set (HWY.out.nS hrb) _ _) (by have:=HWY.out.tot;omega)
       have HX:=Lib.hid hway3
       clear hacc hfr hr3 hw3 hf3 hway3 htx
       go_wp2_with fail
       go_roundw
       case rel=>exact ⟨k',i + 1,S,_,HST.out,by omega,by omega,HX.out⟩
       case measure=>rw [HM.out,HX.out.r.c1];simp [intOf];omega
      ·have hst:markedF (k' + 1) s ec d a i = markedF k' s ec d (slashR ec (restAt s (i + 1)) a).1 (i + (slashR ec (restAt s (i + 1)) a).2):=by rw [markedF,if_neg HNL.out,HB.out,if_neg (by rw [h1];decide),if_neg (by rw [h2];decide),if_neg (by rw [h36];decide),if_pos h92]
       have HST:=Lib.hid (HQ.out.trans hst)
       have hP:=fun m=>slash_any rb i w.heap.size ec s S w.heap.size a (wr.drewN m) HWY.out.r hlt hs hrb (HWY.out.nS hrb) (HWY.out.acc.heap rfl) (by have:=HWY.out.tot;omega) HWY.out.lt
       have hsl:=slash_len (ec:=ec) (a:=a) hlt
       have HSL:=Lib.hid hsl;have HPUT:=Lib.hid hP
       clear hst h2 hP hsl
       go_wp2_with fail
       refine (HE.out).mono ?_
       rintro e w2 ⟨rfl,n2,rfl⟩
       go_wp2_with fail
       go_quiet (fail)
       go_wp2_with fail
       refine (HPUT.out _).mono ?_
       rintro e w3 ⟨⟨rfl,hr3,hacc⟩,hfr⟩
       have hf3:FrR rb w.heap.size S wr w3:=⟨hfr.os,hfr.tape,hfr.output,hfr.size,fun b hb ho=>hfr.block b hb ho⟩
       have hway3:=HWY.out.go hr3 HSL.out.2.1 hacc (fun x hx=>Nat.lt_of_lt_of_le (HWY.out.lt x hx) hfr.size) HWY.out.ge hf3 (by have:=HWY.out.tot;have:=HSL.out.2.2;omega)
       have HX:=Lib.hid hway3
       clear hacc hfr hr3 hf3 hway3
       go_wp2_with fail
       go_roundw
       case rel=>exact ⟨k',_,S,_,HST.out,by have:=HSL.out.1;have:=HSL.out.2.1;omega,by omega,HX.out⟩
       case measure=>rw [HM.out,HX.out.r.c1];have:=HSL.out.1;have:=HSL.out.2.1;simp only [Option.getD,intOf,Int.toNat_natCast];omega
     ·have hst:markedF (k' + 1) s ec d a i = match paramF k' s true (d + 1) i with | .bad j e=>.bad j e | .ok p j=>markedF k' s ec d (a.add p) j:=by rw [markedF,if_neg HNL.out,HB.out,if_neg (by rw [h1];decide),if_neg (by rw [h2];decide),if_pos h36];rfl
      have hP:=fun m=>HP.out k' (by omega) true (d + 1) i rb (wr.drewN m) HWY.out.r hlt (by omega) (by omega)
      rw [show ((d + 1:Nat):Int) = (d:Int) + 1 by omega] at hP
      have hq:=HQ.out.trans hst
      cases hpp:paramF k' s true (d + 1) i with
      | bad j err =>
       rw [hpp] at hq hP
       have HST:=Lib.hid hq;have HPAR:=Lib.hid hP
       clear hst h2 hP hq hpp
       go_wp2_with fail
       refine (HE.out).mono ?_
       rintro e w2 ⟨rfl,n2,rfl⟩
       go_wp2_with fail
       go_quiet (fail)
       go_wp2_with fail
       refine (HPAR.out _).mono ?_
       rintro e w3 ⟨rfl,⟨j',hr3⟩,hfr⟩
       have HX:=Lib.hid (And.intro hr3 hfr)
       clear hr3 hfr
       go_wp2_with fail
       refine ⟨rfl,?_⟩
       rw [HST.out]
       exact ⟨rfl,⟨j',HX.out.1⟩,HWY.out.fr.trans ⟨HX.out.2.os,HX.out.2.tape,HX.out.2.output,HX.out.2.size,fun b hb ho=>HX.out.2.block b hb (ho.imp (fun h=>⟨hb,h.2⟩) id)⟩⟩
      | ok p j =>
       obtain ⟨e1,e2,t0,o0,f0,hp0,e3,e4,e5⟩:=(ends_all s k').2.2 _ _ _ _ _ hpp hlt
       rw [hpp] at hq hP
       have HST:=Lib.hid hq;have HPAR:=Lib.hid hP;have HPP:=Lib.hid hp0
       clear hst h2 hP hq hpp hp0
       go_wp2_with fail
       refine (HE.out).mono ?_
       rintro e w2 ⟨rfl,n2,rfl⟩
       go_wp2_with fail
       go_quiet (fail)
       go_wp2_with fail
       refine (HPAR.out _).mono ?_
       rintro e w3 ⟨⟨t,op,f,a2,cap2,hpe,rfl,ht,hop,hl⟩,hr3,hfr⟩
       have ht0:t = t0:=by have:=hpe.symm.trans HPP.out;unfold one at this;cases this;rfl
       have hadd:=HWY.out.add hrb hs hr3 e2 ⟨hfr.os,hfr.tape,hfr.output,hfr.size,fun b hb ho=>hfr.block b hb ho⟩ e1 (by rw [ht0];exact e3) ht hop hl (q:=true)
       have HADD:=Lib.hid hadd;have HPE:=Lib.hid hpe
       clear hadd hl hr3 hfr hpe ht0
       go_wp2_with fail
       refine (HADD.out).mono ?_
       rintro e w4 ⟨rfl,S4,hway4⟩
       have HX:=Lib.hid hway4
       clear hway4
       go_wp2_with fail
       go_roundw
       case rel=>exact ⟨k',j,S4,_,by rw [HST.out,HPE.out],by omega,by omega,HX.out⟩
       case measure=>rw [HM.out,HX.out.r.c1];simp only [Option.getD,intOf,Int.toNat_natCast];omega
    ·have hst:markedF (k' + 1) s ec d a i = .bad i 1:=by rw [markedF,if_neg HNL.out,HB.out,if_neg (by rw [h1];decide),if_pos h2]
     have HST:=Lib.hid (HQ.out.trans hst)
     have h34:((s[i].toNat:Int) == 34) = true∨((s[i].toNat:Int) == 34) = false∧((s[i].toNat:Int) == 96) = true:=by
      cases h:((s[i].toNat:Int) == 34)
      ·rw [h] at h2;exact .inr ⟨rfl,by simpa using h2⟩
      ·exact .inl rfl
     clear hst h2
     rcases h34 with h34 | ⟨h34,h96⟩
     all_goals
      go_wp2_with fail
      refine (HE.out).mono ?_
      rintro e w2 ⟨rfl,n2,rfl⟩
      go_wp2_with fail
      go_quiet (fail)
      go_wp2_with fail
      refine (wrong_any _ _).mono ?_
      rintro e w3 ⟨rfl,rfl⟩
      go_wp2_with fail
      refine ⟨rfl,?_⟩
      rw [HST.out]
      exact ⟨rfl,⟨i,HWY.out.r⟩,HWY.out.fr.trans (FrR.drewN _ _ _ _ _)⟩
   ·have hst:markedF (k' + 1) s ec d a i = .ok a.flush i:=by rw [markedF,if_neg HNL.out,HB.out,if_pos h1]
    have HALL:=Lib.hid (fun m=>HWY.out.all hs hrb m)
    have HST:=Lib.hid (HQ.out.trans hst)
    clear hst
    go_wp2_with fail
    refine (HE.out).mono ?_
    rintro e w2 ⟨rfl,n2,rfl⟩
    go_wp2_with fail
    go_quiet (fail)
    go_wp2_with fail
    refine (HALL.out _).mono ?_
    rintro e w3 ⟨⟨a',cap',rfl,hl⟩,hr,hf⟩
    have HX:=Lib.hid (And.intro hl (And.intro hr hf))
    clear hl hr hf
    go_wp2_with fail
    go_ret
    rw [HST.out]
    exact ⟨⟨a',cap',rfl,HX.out.1⟩,HX.out.2.1,HX.out.2.2⟩
  ·have he:((i:Int) == (s.size:Int)) = true:=by have:=hway.le;simp;omega
   rw [he] at hE
   have hst:markedF (k' + 1) s ec d a i = .ok a.flush i:=by rw [markedF,if_pos (by omega)]
   have HALL:=Lib.hid (fun m=>hway.all hs hrb m)
   have HST:=Lib.hid (hq.trans hst)
   have HE:=Lib.hid hE
   clear hst hq hE hway hm he
   go_wp2_with fail
   refine (HE.out).mono ?_
   rintro e w2 ⟨rfl,n2,rfl⟩
   go_wp2_with fail
   refine (HALL.out _).mono ?_
   rintro e w3 ⟨⟨a',cap',rfl,hl⟩,hr,hf⟩
   have HX:=Lib.hid (And.intro hl (And.intro hr hf))
   clear hl hr hf
   go_wp2_with fail
   go_ret
   rw [HST.out]
   exact ⟨⟨a',cap',rfl,HX.out.1⟩,HX.out.2.1,HX.out.2.2⟩
end Lx
end Go.Proofs.YtoklgmbpgnimcaaGreatDoor
