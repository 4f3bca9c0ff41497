/- Parts on their way, wherever the reader has come. -/
import Derived.Test.YtjmpfihopeohbaaGreatDoorLxI
set_option maxHeartbeats 4000000
set_option maxRecDepth 100000
namespace Go.Proofs.YtjmpfihopeohbaaGreatDoor
open Go.RowKit Go.Sort
namespace Lx
open Cls Pt
def GotL (rb:Nat) (s:ByteArray) (w:World) (o:Out) (e:Ending) (w':World):Prop :=
 match o with
 | .ok l j=>(∃ a cap,e = .returned (.slice a l.len cap)∧LiesS (fun b=>w.heap.size≤b) w' a cap l)∧RAt w' rb s j∧FrR rb w.heap.size (fun _=>False) w w'
 | .bad j err=>e = thrown j err∧(∃ j',RAt w' rb s j')∧FrR rb w.heap.size (fun _=>False) w w'
structure Way (w:World) (rb:Nat) (s:ByteArray) (S:Nat→Prop) (a:A) (i:Nat) (wr:World):Prop where
 r:RAt wr rb s i
 le:i≤s.size
 acc:AccAt wr w.heap.size S w.heap.size a
 lt:∀ x,S x→x < wr.heap.size
 ge:∀ x,S x→w.heap.size≤x
 fr:FrR rb w.heap.size (fun _=>False) w wr
 tot:a.tot≤2 * i
namespace Way
variable {w wr:World} {rb i:Nat} {s:ByteArray} {S:Nat→Prop} {a:A}
theorem start (h:RAt w rb s i) (hi:i≤s.size):Way w rb s (fun _=>False) A0 i (w.alloc (.cells #[.slice none 0 0,.slice none 0 0,.bool false,.bool false] 145)) :=
 ⟨(Below.heap_alloc _ _ _ h.lt).trans h,hi,⟨.slice none 0 0,.slice none 0 0,false,heap_alloc_new _ _,Nat.le_refl _,(fun h=>h),(fun x h=>by cases h),[],World.ownsRow_nil _ _ _ _,rfl,(fun _ h=>by cases h),⟨rfl,.inl ⟨rfl,rfl⟩⟩,(fun _ h=>by cases h)⟩,
   (fun _ h=>h.elim),(fun _ h=>h.elim),FrR.of_fr ((Fr.refl _ _ _).alloc _),Nat.zero_le _⟩
theorem drewN (h:Way w rb s S a i wr) (n:Nat):Way w rb s S a i (wr.drewN n):=⟨h.r,h.le,h.acc.heap rfl,h.lt,h.ge,h.fr.trans (FrR.drewN _ _ _ _ n),h.tot⟩
theorem nS (h:Way w rb s S a i wr) (hrb:rb < w.heap.size):¬ S rb:=fun hs=>by have:=h.ge rb hs;omega
theorem got (h:Way w rb s S a i wr) (hrb:rb < w.heap.size) {w':World} {e:Ending} (he:(∃ a' cap',e = .returned (.slice a' a.flush.len cap')∧LiesS (fun b=>w.heap.size≤b) w' a' cap' a.flush)∧Fr w.heap.size S wr w'):GotL rb s w (.ok a.flush i) e w' :=
 ⟨he.1,h.r.fr he.2 hrb,h.fr.trans ((FrR.of_fr he.2).mono fun _ h=>h.elim)⟩
theorem go {w':World} {i':Nat} {a':A} {S':Nat→Prop} (h:Way w rb s S a i wr) (hr:RAt w' rb s i') (hi:i'≤s.size) (hacc:AccAt w' w.heap.size S' w.heap.size a') (hlt:∀ x,S' x→x < w'.heap.size) (hge:∀ x,S' x→w.heap.size≤x) (hf:FrR rb w.heap.size S wr w') (ht:a'.tot≤2 * i'):Way w rb s S' a' i' w' :=
 ⟨hr,hi,hacc,hlt,hge,h.fr.trans (hf.mono fun _ h=>h.elim),ht⟩
theorem all (h:Way w rb s S a i wr) (hs:s.size≤1000000) (hrb:rb < w.heap.size) (n:Nat):Calls Tryz.prog 149 #[.pointer (some ⟨w.heap.size,0,none⟩)] (wr.drewN n) (GotL rb s w (.ok a.flush i)) :=
 (all_any w.heap.size S w.heap.size a (wr.drewN n) (h.acc.heap rfl) (by have:=h.tot;have:=h.le;omega) h.lt h.ge).mono fun e w' hh=>(h.drewN n).got hrb hh
end Way
def Plain (s:ByteArray):Prop:=∀ i (h:i < s.size),((s[i].toNat:Int) == 39) = false∧((s[i].toNat:Int) == 34) = false∧((s[i].toNat:Int) == 92) = false∧((s[i].toNat:Int) == 96) = false∧((s[i].toNat:Int) == 36) = false
end Lx
end Go.Proofs.YtjmpfihopeohbaaGreatDoor
namespace Go.Proofs.YtjmpfihopeohbaaGreatDoor
open Go.RowKit Go.Sort
namespace Lx
open Cls Pt
theorem bare_step (s:ByteArray) (hs:s.size≤1000000) (hpl:Plain s) (n:Nat) (d i0 rb:Nat) (w:World) (hR0:RAt w rb s i0) (hi0:i0≤s.size) (hf0:s.size - i0 < n) (hd:d = 0) :
  Calls Tryz.prog 125 #[.pointer (some ⟨rb,0,none⟩),.int .i64 d] w (GotL rb s w (bareF n s d A0 i0)):=by
 have hrb:=hR0.lt;have HW0:=Lib.hid (Way.start hR0 hi0);have HDZ:=Lib.hid hd;clear hR0 hd;go_enter Tryz.func125,Tryz.ntmps125;go_wp2
 go_loopw [6] (fun c wr=>∃ (k i:Nat) (S:Nat→Prop) (a:A),bareF n s d A0 i0 = bareF k s d a i∧s.size - i < k∧k≤n∧Way w rb s S a i wr) (fun c wr=>s.size - (intOf ((wr.cell? ⟨rb,1,none⟩).getD undef)).toNat)
 case atStart=>exact ⟨n,i0,_,A0,rfl,hf0,Nat.le_refl _,HW0.out⟩
 case round =>
  obtain ⟨k,i,S,a,hq,hk,hkn,hway⟩:=hrel;obtain ⟨k',rfl⟩:∃ k',k = k' + 1:=⟨k - 1,by omega⟩;have hE:=ended_any rb i s wr hway.r;have c0:=hway.r.c0;have c1:=hway.r.c1;have hm:(intOf ((wr.cell? ⟨rb,1,none⟩).getD undef)).toNat = i:=by rw [hway.r.c1];simp [intOf]
  by_cases hlt:i < s.size
  ·have he:((i:Int) == (s.size:Int)) = false:=by simp;omega
   rw [he] at hE;have hb:byteAt s i = s[i]:=(getB hlt).symm;have hnlt:¬ s.size≤i:=by omega
   have a0:(0:Int)≤(i:Int):=by omega
   have a1:(i:Int) < (s.size:Int):=by omega
   have HE:=Lib.hid hE;have HQ:=Lib.hid hq;have HWY:=Lib.hid hway;have HB:=Lib.hid hb;have HNL:=Lib.hid hnlt;have HM:=Lib.hid hm;clear hE hq hway he hb hnlt hm;obtain ⟨h39,h34,h92,h96,h36⟩:=hpl i hlt
   by_cases hd0:d = 0
   ·have hdz:((d:Int) == 0) = true:=by simp [hd0]
    have hdp:decide (0 < (d:Int)) = false:=by simp [hd0]
    have hdq:((d:Int) > 0) = False:=by simp [hd0]
    have hbr:=fun w=>bare_any s[i].toNat w;cases hbb:bareB s[i].toNat
    all_goals
     rw [hbb] at hbr;have HBR:=Lib.hid hbr;clear hbr
    ·have hst:bareF (k' + 1) s d a i = .ok a.flush i:=by rw [bareF,if_neg HNL.out,HB.out,if_neg (by rw [h39];decide),if_neg (by rw [h34];decide),if_neg (by rw [h92];decide),if_neg (by rw [h96];decide),if_neg (by rw [h36];decide),if_pos (by simp [stopB,hd0,hbb])]
     have HD0:=Lib.hid hd0;have HBB:=Lib.hid hbb;clear hd0 hbb;have HALL:=Lib.hid (fun m=>HWY.out.all hs hrb m);have HST:=Lib.hid (HQ.out.trans hst);clear hst;go_wp2_with fail;refine (HE.out).mono ?_;rintro e w2 ⟨rfl,n2,rfl⟩;go_wp2_with fail
     go_quiet (fail)
     go_wp2_with fail;refine (HBR.out _).mono ?_;rintro e w5 ⟨rfl,rfl⟩;go_wp2_with fail;refine (HALL.out _).mono ?_;rintro e w3 ⟨⟨a',cap',rfl,hl⟩,hr,hf⟩;have HX:=Lib.hid (And.intro hl (And.intro hr hf));clear hl hr hf;go_wp2_with fail;go_ret;rw [HST.out];exact ⟨⟨a',cap',rfl,HX.out.1⟩,HX.out.2.1,HX.out.2.2⟩
    ·have hst:bareF (k' + 1) s d a i = bareF k' s d (a.text [s[i]] false) (i + 1):=by rw [bareF,if_neg HNL.out,HB.out,if_neg (by rw [h39];decide),if_neg (by rw [h34];decide),if_neg (by rw [h92];decide),if_neg (by rw [h96];decide),if_neg (by rw [h36];decide),if_neg (by simp [stopB,hd0,hbb])]
     have HD0:=Lib.hid hd0;have HBB:=Lib.hid hbb;clear hd0 hbb;have HST:=Lib.hid (HQ.out.trans hst);have hP:=fun m=>put_any w.heap.size S w.heap.size a s[i] false (wr.drewN m) (HWY.out.acc.heap rfl) (by have:=a.sizes;have:=HWY.out.tot;omega) (by have:=a.sizes;have:=HWY.out.tot;omega) HWY.out.lt;have HPUT:=Lib.hid hP;clear hst hP;go_wp2_with fail;refine (HE.out).mono ?_;rintro e w2 ⟨rfl,n2,rfl⟩;go_wp2_with fail
     go_quiet (fail)
     go_wp2_with fail;refine (HBR.out _).mono ?_;rintro e w5 ⟨rfl,rfl⟩;go_wp2_with fail;refine (HPUT.out _).mono ?_;rintro e w3 ⟨rfl,hacc,hfr⟩;have hr3:RAt w3 rb s i:=RAt.fr (w:=wr.drewN _) HWY.out.r hfr hrb;have d1:=hr3.c1;have e1:=hr3.f1;have htx:=A.text_tot a [s[i]] false;simp only [List.length_cons,List.length_nil] at htx;have hf3:FrR rb w.heap.size S wr w3:=⟨hfr.os,hfr.tape,hfr.output,hfr.size,fun b hb ho=>hfr.block b hb (ho.imp (·.1) id)⟩;have hway3:Way w rb s S (a.text [s[i]] false) (i + 1) (w3.setCell ⟨rb,1,none⟩ (.int .i64 ((i:Int) + 1))):=by
      have he:((i:Int) + 1) = ((i + 1:Nat):Int):=by omega
      rw [he];exact HWY.out.go (hr3.set (i + 1)) (by omega) (hacc.setR hrb (HWY.out.nS hrb) _ _) (fun x hx=>by have:=HWY.out.lt x hx;have:=hfr.size;simp at this ⊢;omega) HWY.out.ge (hf3.set (HWY.out.nS hrb) _ _) (by have:=HWY.out.tot;omega)
     have HX:=Lib.hid hway3;clear hacc hfr hr3 hf3 hway3 htx;go_wp2_with fail;go_roundw
     case rel=>exact ⟨k',i + 1,S,_,HST.out,by omega,by omega,HX.out⟩
     case measure=>rw [HM.out,HX.out.r.c1];simp [intOf];omega
   ·exact absurd HDZ.out hd0
  ·have he:((i:Int) == (s.size:Int)) = true:=by have:=hway.le;simp;omega
   rw [he] at hE;have hst:bareF (k' + 1) s d a i = .ok a.flush i:=by rw [bareF,if_pos (by omega)]
   have HALL:=Lib.hid (fun m=>hway.all hs hrb m);have HST:=Lib.hid (hq.trans hst);have HE:=Lib.hid hE;clear hst hq hE hway hm he;go_wp2_with fail;refine (HE.out).mono ?_;rintro e w2 ⟨rfl,n2,rfl⟩;go_wp2_with fail;refine (HALL.out _).mono ?_;rintro e w3 ⟨⟨a',cap',rfl,hl⟩,hr,hf⟩;have HX:=Lib.hid (And.intro hl (And.intro hr hf));clear hl hr hf;go_wp2_with fail;go_ret;rw [HST.out];exact ⟨⟨a',cap',rfl,HX.out.1⟩,HX.out.2.1,HX.out.2.2⟩
end Lx
end Go.Proofs.YtjmpfihopeohbaaGreatDoor
