/- The reader's small functions: ended, sees, take, wrong, single, escape, slash. -/
import Derived.Test.YtckakkeejekibaaGreatDoorLxF
set_option maxHeartbeats 1600000
set_option maxRecDepth 100000
namespace Go.Proofs.YtckakkeejekibaaGreatDoor
open Go.RowKit Go.Sort
namespace Lx
open j6 Pt
def qh (i err:Nat):Value:=.iface 129 (.agg #[.int .i64 i,.int .i64 err])
abbrev thrown (i err:Nat):Ending:=.panicked [{ v:=qh i err,recovered:=false }]
structure fI (rb B:Nat) (S:Nat→Prop) (w w':World):Prop where
 os:w'.os = w.os
 tape:w'.tape = w.tape
 output:w'.output = w.output
 size:w.heap.size≤w'.heap.size
 block:∀ b,b < w.heap.size→((b < B∧b ≠ rb)∨S b)→w'.heap[b]? = w.heap[b]?
namespace fI
variable {rb B:Nat} {S:Nat→Prop} {w w' ut:World}
theorem refl (rb B:Nat) (S:Nat→Prop) (w:World):fI rb B S w w:=⟨rfl,rfl,rfl,Nat.le_refl _,fun _ _ _=>rfl⟩
theorem trans (h:fI rb B S w w') (k:fI rb B S w' ut):fI rb B S w ut :=
 ⟨k.os.trans h.os,k.tape.trans h.tape,k.output.trans h.output,Nat.le_trans h.size k.size,fun b hb ho=>(k.block b (kd hb h.size) ho).trans (h.block b hb ho)⟩
theorem drewN (rb B:Nat) (S:Nat→Prop) (w:World) (n:Nat):fI rb B S w (w.drewN n):=⟨rfl,rfl,rfl,Nat.le_refl _,fun _ _ _=>rfl⟩
theorem oJ (h:Fr B S w w'):fI rb B S w w':=⟨h.os,h.tape,h.output,h.size,fun b hb ho=>h.block b hb (ho.imp (·.1) id)⟩
theorem drew (h:fI rb B S w w'):fI rb B S w w'.drew:=⟨h.os,h.tape,h.output,h.size,h.block⟩
theorem set (h:fI rb B S w w') (hS:¬ S rb) (j:Nat) (v:Value):fI rb B S w (w'.setCell ⟨rb,j,none⟩ v) :=
 h.trans ⟨rfl,rfl,rfl,by simp [World.setCell],fun b _ ho=>Below.heap_setCell _ _ _ _ (by
  rintro rfl;rcases ho with ho | ho
  ·exact ho.2 rfl
  ·exact hS ho)⟩
theorem mono {S':Nat→Prop} (h:fI rb B S' w w') (hS:∀ b,S b→S' b):fI rb B S w w':=⟨h.os,h.tape,h.output,h.size,fun b hb ho=>h.block b hb (ho.imp id (hS b))⟩
end fI
theorem fV.fr {w w':World} {rb i B:Nat} {S:Nat→Prop} {s:ByteArray} (h:fV w rb s i) (hf:Fr B S w w') (hb:rb < B):fV w' rb s i:=(hf.block rb h.lt (.inl hb)).trans h
theorem dV.wT {w:World} {B p rb:Nat} {S:Nat→Prop} {a:A} (h:dV w B S p a) (jG:rb < B) (hS:¬ S rb) (j:Nat) (v:Value):dV (w.setCell ⟨rb,j,none⟩ v) B S p a:=by
 obtain ⟨vl,vb,q,hp,hB,hSp,hq,hb⟩:=h;refine ⟨vl,vb,q,(Below.heap_setCell _ _ _ _ (by show p ≠ rb;omega)).trans hp,hB,hSp,hq,hb.keep (by simp) fun b _ ho=>Below.heap_setCell _ _ _ _ ?_⟩;obtain ⟨xs,h1,_,_,h4,_⟩:=hb;show b ≠ rb;rcases ho with ho | ho | ho
 ·rintro rfl;exact hS ho
 ·have:=(h1.lt b ho).1;omega
 ·have:=(h4.lt b ho).1;omega
theorem cZ (i:Nat) (w:World) :
  Calls Tryz.prog 124 #[.int .i64 i] w fun e w'=>e = thrown i 1∧w = w':=by
 go_enter Tryz.func124,Tryz.ntmps124;go_wp2;exact ⟨rfl,rfl,rfl⟩
theorem lV (rb i:Nat) (s:ByteArray) (w:World) (h:fV w rb s i) :
  Calls Tryz.prog 121 #[.pointer (some ⟨rb,0,none⟩)] w fun e w'=>e = .returned (.bool ((i:Int) == (s.size:Int)))∧∃ n,w' = w.drewN n:=by
 have c0:=h.c0;have c1:=h.c1;clear h;go_enter Tryz.func121,Tryz.ntmps121;go_wp2;go_region;go_wp2;go_ret;exact ⟨rfl,1,rfl⟩
theorem rY (rb i c:Nat) (s:ByteArray) (w:World) (h:fV w rb s i) (hi:i≤s.size) (hs:s.size≤1000000) :
  Calls Tryz.prog 165 #[.pointer (some ⟨rb,0,none⟩),.int .u8 c] w fun e w'=>e = .returned (.bool (decide (i < s.size) && ((s.data.toList.getD i 0).toNat:Int) == (c:Int)))∧∃ n,w' = w.drewN n:=by
 have c0:=h.c0;have c1:=h.c1;have hE:=fun n=>lV rb i s (w.drewN n) h
 by_cases aB:i < s.size
 ·have he:((i:Int) == (s.size:Int)) = false:=by simp;omega
  rw [he] at hE;have FO:∀ n,Calls Tryz.prog 121 #[.pointer (some ⟨rb,0,none⟩)] (w.drewN n) fun e w'=>e = .returned (.bool false)∧∃ m,w' = w.drewN m:=fun n=>(hE n).mono fun e w' ⟨h1,m,h2⟩=>⟨h1,n + m,by rw [h2];exact World.drewN_drewN ..⟩;have HE:=kq FO;have hg:=uq aB;rw [← hg];have Z8:(0:Int)≤(i:Int):=by omega
  have hi1:(i:Int) < (s.size:Int):=by omega
  have hd:decide (i < s.size) = true:=by simpa using aB
  rw [hd];clear hE FO h hg he hd;go_enter Tryz.func165,Tryz.ntmps165;go_wp2_with fail
  go_quiet ((go_at_call 121;exact HE.out _))
  go_wp2_with fail;go_ret;exact ⟨rfl,_,rfl⟩
 ·have he:((i:Int) == (s.size:Int)) = true:=by simp;omega
  rw [he] at hE;have FO:∀ n,Calls Tryz.prog 121 #[.pointer (some ⟨rb,0,none⟩)] (w.drewN n) fun e w'=>e = .returned (.bool true)∧∃ m,w' = w.drewN m:=fun n=>(hE n).mono fun e w' ⟨h1,m,h2⟩=>⟨h1,n + m,by rw [h2];exact World.drewN_drewN ..⟩;have HE:=kq FO;have hd:decide (i < s.size) = false:=by simpa using aB
  rw [hd];clear hE FO h he hd;go_enter Tryz.func165,Tryz.ntmps165;go_wp2_with fail
  go_quiet ((go_at_call 121;exact HE.out _))
  go_wp2_with fail;go_ret;exact ⟨rfl,_,rfl⟩
theorem FP (x:Int) (h1:0≤x) (h2:x≤4611686018427387904):IntKind.i64.wrap x = x:=by rw [IntKind.wrap_i64];omega
theorem rZ (rb i n:Nat) (s:ByteArray) (w:World) (h:fV w rb s i) (hi:i + n≤s.size) (hs:s.size≤1000000) :
  Calls Tryz.prog 167 #[.pointer (some ⟨rb,0,none⟩),.int .i64 n] w fun e w'=>e = .returned (.string (s.extract i (i + n)))∧∃ m,w' = (w.setCell ⟨rb,1,none⟩ (.int .i64 ((i + n:Nat):Int))).drewN m:=by
 have c0:=h.c0;have c1:=h.c1;have f1:=h.f1;have h2:=h.set (i + n);have d0:=h2.c0;have d1:=h2.c1;rw [show ((i + n:Nat):Int) = (i:Int) + (n:Int) by omega] at d0 d1 ⊢
 have hw:IntKind.i64.wrap ((i:Int) + (n:Int) - (n:Int)) = (i:Int):=by rw [FP _ (by omega) (by omega)];omega
 have a0:(0:Int)≤(i:Int):=by omega
 have a1:(i:Int)≤(i:Int) + (n:Int):=by omega
 have a2:(i:Int) + (n:Int)≤(s.size:Int):=by omega
 have a3:(0:Int)≤(i:Int) + (n:Int):=by omega
 have ht:((i:Int) + (n:Int)).toNat = i + n:=by omega
 clear h h2;go_enter Tryz.func167,Tryz.ntmps167;go_wp2_with fail
 go_quiet (fail)
 go_wp2_with fail;go_ret;exact ⟨rfl,_,rfl⟩
def ag (s:ByteArray) (i:Nat):List UInt8:=s.data.toList.drop i
theorem iJ (s:ByteArray) (k:Nat):(s.extract k s.size).data.toList = ag s k:=by
 rw [Lib.extract_data,List.take_of_length_le (by rw [List.length_drop,iE];exact Nat.le_refl _)];rfl
theorem iK (s:ByteArray) (k n:Nat):(s.extract k (k + n)).data.toList = (ag s k).take n:=by
 rw [Lib.extract_data,ag,Nat.add_sub_cancel_left]
theorem aQ (s:ByteArray) (k:Nat):(ag s k).length = s.size - k:=by rw [ag,List.length_drop,iE]
theorem Mh (rb i B n:Nat) (s:ByteArray) (S:Nat→Prop) (p:Nat) (a:A) (w:World) (h:fV w rb s i) (hi:i < s.size) (hs:s.size≤1000000) (jG:rb < B) (hS:¬ S rb) (ha:dV w B S p a) (ht:a.tot≤70000000) (qH:∀ x,S x→x < w.heap.size)
  (hn:Lib.indexByte (ag s (i + 1)) 39 = (n:Int)) :
  Calls Tryz.prog 142 #[.pointer (some ⟨rb,0,none⟩),.pointer (some ⟨p,0,none⟩)] w fun e w' =>
   (e = .returned (.tuple #[])∧fV w' rb s (i + n + 2)∧dV w' B S p (a.text ((ag s (i + 1)).take n) true))∧fI rb B S w w':=by
 have c0:=h.c0;have c1:=h.c1;have f1:=h.f1;have hI:=fun w=>(Tryz.strings_IndexByte (s.extract (i + 1) s.size) 39 w).mono fun e w' h=>And.intro h.1 h.2.symm;have Bu:(39:Int).toNat.toUInt8 = 39:=rfl;rw [iJ,Bu,hn] at hI;have hnl:n < (ag s (i + 1)).length:=(List.getElem?_eq_some_iff.1 (Lib.indexByte_some hn).1).1;rw [aQ] at hnl;have hT:=vH B S p a (s.extract (i + 1) (i + 1 + n)) true w ha (by have:=a.sizes;omega) (by have:=a.sizes;omega) (by simp [ByteArray.size_extract];omega) qH;rw [iK] at hT;have adr:((n:Int) < 0) = False:=by simp
 have HI:=kq hI;have HT:=kq hT;have HH:=kq h;clear hI hT h ha hn Bu;go_enter Tryz.func142,Tryz.ntmps142;go_wp2_with (go_at_call 119;refine (HI.out _).mono ?_;rintro e w' ⟨rfl,rfl⟩);refine (HT.out).mono ?_;rintro e w1 ⟨rfl,fH,bi⟩;have h1:=HH.out.fr bi jG;have d1:=h1.c1;have e1:=h1.f1;have HX:=kq (And.intro (h1.set (i + n + 2)) (And.intro (fH.wT jG hS 1 (.int .i64 ((i + n + 2:Nat):Int))) ((fI.oJ (rb:=rb) bi).set hS 1 (.int .i64 ((i + n + 2:Nat):Int)))));clear fH bi h1;go_wp2_with fail;go_end0;have he:((i:Int) + 1 + (n:Int) + 1) = ((i + n + 2:Nat):Int):=by omega
 rw [he];exact ⟨⟨rfl,HX.out.1,HX.out.2.1⟩,HX.out.2.2⟩
theorem I8 (rb i:Nat) (s:ByteArray) (p:Nat) (w:World) (h:fV w rb s i) (hi:i < s.size) (hs:s.size≤1000000)
  (hn:Lib.indexByte (ag s (i + 1)) 39 = -1) :
  Calls Tryz.prog 142 #[.pointer (some ⟨rb,0,none⟩),.pointer (some ⟨p,0,none⟩)] w fun e w'=>e = thrown i 1∧w = w':=by
 have c0:=h.c0;have c1:=h.c1;have hI:=fun w=>(Tryz.strings_IndexByte (s.extract (i + 1) s.size) 39 w).mono fun e w' h=>And.intro h.1 h.2.symm;have Bu:(39:Int).toNat.toUInt8 = 39:=rfl;rw [iJ,Bu,hn] at hI;have HI:=kq hI;clear hI h hn Bu;go_enter Tryz.func142,Tryz.ntmps142
 go_wp2_with (first
  | (go_at_call 119;refine (HI.out _).mono ?_;rintro e w' ⟨rfl,rfl⟩)
  | (go_at_call 124;refine (cZ _ _).mono ?_;rintro e w' ⟨rfl,rfl⟩))
 exact ⟨rfl,rfl,rfl⟩
theorem I9 (rb i:Nat) (s:ByteArray) (p:Nat) (w:World) (h:fV w rb s i) (hi:i + 1 = s.size) (hs:s.size≤1000000) :
  Calls Tryz.prog 145 #[.pointer (some ⟨rb,0,none⟩),.pointer (some ⟨p,0,none⟩)] w fun e w'=>e = thrown i 1∧∃ n,w' = w.drewN n:=by
 have c0:=h.c0;have c1:=h.c1;have hx:IntKind.i64.wrap ((i:Int) + 1) = (i:Int) + 1:=FP _ (by omega) (by omega);have hy:((i:Int) + 1 == (s.size:Int)) = true:=by simp;omega
 clear h;go_enter Tryz.func145,Tryz.ntmps145;go_wp2_with fail
 go_quiet (fail)
 go_wp2_with (go_at_call 124;refine (cZ _ _).mono ?_;rintro e w' ⟨rfl,rfl⟩);exact ⟨rfl,rfl,_,rfl⟩
def yt (a:A) (c:UInt8):A:=if ((c.toNat:Int) == 10) then a else a.text [c] true
theorem Mi (rb i B:Nat) (s:ByteArray) (S:Nat→Prop) (p:Nat) (a:A) (w:World) (h:fV w rb s i) (hi:i + 1 < s.size) (hs:s.size≤1000000) (jG:rb < B) (hS:¬ S rb) (ha:dV w B S p a) (ht:a.tot≤70000000) (qH:∀ x,S x→x < w.heap.size) :
  Calls Tryz.prog 145 #[.pointer (some ⟨rb,0,none⟩),.pointer (some ⟨p,0,none⟩)] w fun e w' =>
   (e = .returned (.tuple #[])∧fV w' rb s (i + 2)∧dV w' B S p (yt a (s.data.toList.getD (i + 1) 0)))∧fI rb B S w w':=by
 have c0:=h.c0;have c1:=h.c1;have f1:=h.f1;have hg:=uq hi;rw [← hg];have hx:IntKind.i64.wrap ((i:Int) + 1) = (i:Int) + 1:=FP _ (by omega) (by omega);have hy:((i:Int) + 1 == (s.size:Int)) = false:=by simp;omega
 have hz:((i:Int) + 1).toNat = i + 1:=by omega
 have a0:(0:Int)≤(i:Int) + 1:=by omega
 have a1:(i:Int) + 1 < (s.size:Int):=by omega
 have hT:=fun n=>qg B S p a s[i + 1] true (w.drewN n) (ha.heap rfl) (by have:=a.sizes;omega) (by have:=a.sizes;omega) qH;have HH:=kq h;have HT:=kq hT;have HA:=kq ha;clear h hT ha hg;unfold yt;cases hc:((s[i + 1].toNat:Int) == 10)
 ·have oN:((s[i + 1].toNat:Int) != 10) = true:=by simp only [bne,hc];rfl
  go_enter Tryz.func145,Tryz.ntmps145;go_wp2_with fail
  go_quiet (fail)
  go_wp2_with fail
  go_quiet (fail)
  go_wp2_with fail;refine (HT.out _).mono ?_;rintro e w1 ⟨rfl,fH,bi⟩;have h1:fV w1 rb s i:=fV.fr (w:=w.drewN _) HH.out bi jG;have d1:=h1.c1;have e1:=h1.f1;have qU:fI rb B S w w1:=⟨bi.os,bi.tape,bi.output,bi.size,fun b hb ho=>bi.block b hb (ho.imp (·.1) id)⟩;have HX:=kq (And.intro (h1.set (i + 2)) (And.intro (fH.wT jG hS 1 (.int .i64 ((i + 2:Nat):Int))) (qU.set hS 1 (.int .i64 ((i + 2:Nat):Int)))));clear fH bi h1 qU;go_wp2_with fail;go_end0;have he:((i:Int) + 2) = ((i + 2:Nat):Int):=by omega
  rw [he];exact ⟨⟨rfl,HX.out.1,HX.out.2.1⟩,HX.out.2.2⟩
 ·have oN:((s[i + 1].toNat:Int) != 10) = false:=by simp only [bne,hc];rfl
  go_enter Tryz.func145,Tryz.ntmps145;go_wp2_with fail
  go_quiet (fail)
  go_wp2_with fail
  go_quiet (fail)
  go_wp2_with fail;go_end0;have he:((i:Int) + 2) = ((i + 2:Nat):Int):=by omega
  rw [he];refine ⟨⟨rfl,HH.out.set _,HA.out.wT jG hS _ _ |>.heap rfl⟩,?_⟩;exact ((fI.drewN rb B S w _).set hS 1 (.int .i64 ((i + 2:Nat):Int)))
def seesB (l:List UInt8) (c:Nat):Bool:=match l with | []=>false | x :: _=>((x.toNat:Int) == (c:Int))
theorem kK {s:ByteArray} {i:Nat} (h:i < s.size):ag s i = s.data.toList.getD i 0 :: ag s (i + 1):=by
 have h':i < s.data.toList.length:=by rw [iE];exact h
 rw [ag,ag,List.drop_eq_getElem_cons h',List.getD_eq_getElem?_getD,List.getElem?_eq_getElem h'];rfl
theorem nQ {s:ByteArray} {i:Nat} (h:s.size≤i):ag s i = []:=List.drop_eq_nil_of_le (by rw [iE];exact h)
theorem FQ (s:ByteArray) (i c:Nat):(decide (i < s.size) && ((s.data.toList.getD i 0).toNat:Int) == (c:Int)) = seesB (ag s i) c:=by
 by_cases h:i < s.size
 ·rw [kK h];simp [seesB,h]
 ·rw [nQ (by omega)];simp [seesB,h]
theorem zm (rb i c:Nat) (s:ByteArray) (w:World) (h:fV w rb s i) (hi:i≤s.size) (hs:s.size≤1000000) (n:Nat) :
  Calls Tryz.prog 165 #[.pointer (some ⟨rb,0,none⟩),.int .u8 c] (w.drewN n) fun e w'=>e = .returned (.bool (seesB (ag s i) c))∧∃ n,w' = w.drewN n:=by
 rw [← FQ];exact (rY rb i c s (w.drewN n) h hi hs).mono fun e w' ⟨h1,m,h2⟩=>⟨h1,n + m,by rw [h2];exact World.drewN_drewN ..⟩
theorem iL (rb i c:Nat) (s:ByteArray) (w:World) (h:fV w rb s i) (hi:i≤s.size) (hs:s.size≤1000000) :
  Calls Tryz.prog 165 #[.pointer (some ⟨rb,0,none⟩),.int .u8 c] w fun e w'=>e = .returned (.bool (seesB (ag s i) c))∧∃ n,w' = w.drewN n:=by
 rw [← FQ];exact rY rb i c s w h hi hs
def dW (ec:Nat) (l:List UInt8) (a:A):A × Nat :=
 if seesB l 10 then (a,2) else if seesB l 34 || seesB l 36 || seesB l 92 || seesB l 96 || seesB l ec then (a.text [l.headD 0] true,2) else (a.text [92] true,1)
theorem nA {s:ByteArray} {i c:Nat} (h:seesB (ag s i) c = true):i < s.size:=by
 refine Classical.byContradiction fun hn=>?_;rw [nQ (by omega)] at h;cases h
inductive Out where
 | ok (l:PL) (at':Nat)
 | bad (at' err:Nat)
def A0:A:=⟨.nil,none⟩
def ng (d c:Nat):Bool:=(((d:Int) == 0) && !nO c) || (decide (0 < d) && ((c:Int) == 125))
def bG (s:ByteArray) (i:Nat):UInt8:=s.data.toList.getD i 0
def nz (m:PL):PL:=match m with | .nil=>A.lit true [] | m=>m
def xO (o:List UInt8):Bool:=Lib.hasSuffix o [61]
mutual
def bareF:Nat→ByteArray→Nat→A→Nat→Out
 | 0,_,_,_,i=>.bad i 9
 | n + 1,s,d,a,i =>
  if s.size≤i then .ok a.flush i
  else if ((bG s i).toNat:Int) == 39 then
   if 0≤Lib.indexByte (ag s (i + 1)) 39 then bareF n s d (a.text ((ag s (i + 1)).take (Lib.indexByte (ag s (i + 1)) 39).toNat) true) (i + (Lib.indexByte (ag s (i + 1)) 39).toNat + 2) else .bad i 1
  else if ((bG s i).toNat:Int) == 34 then
   match markedF n s 34 d A0 (i + 1) with
   | .bad j e=>.bad j e
   | .ok m j=>if s.size≤j then .bad i 1 else bareF n s d (a.join (nz m)) (j + 1)
  else if ((bG s i).toNat:Int) == 92 then
   if s.size≤i + 1 then .bad i 1 else bareF n s d (yt a (bG s (i + 1))) (i + 2)
  else if ((bG s i).toNat:Int) == 96 then .bad i 1
  else if ((bG s i).toNat:Int) == 36 then
   match paramF n s false (d + 1) i with
   | .bad j e=>.bad j e
   | .ok p j=>bareF n s d (a.add p) j
  else if ng d (bG s i).toNat then .ok a.flush i
  else bareF n s d (a.text [bG s i] false) (i + 1)
def markedF:Nat→ByteArray→Nat→Nat→A→Nat→Out
 | 0,_,_,_,_,i=>.bad i 9
 | n + 1,s,ec,d,a,i =>
  if s.size≤i then .ok a.flush i
  else if ((bG s i).toNat:Int) == (ec:Int) then .ok a.flush i
  else if ((bG s i).toNat:Int) == 34 || ((bG s i).toNat:Int) == 96 then .bad i 1
  else if ((bG s i).toNat:Int) == 36 then
   match paramF n s true (d + 1) i with
   | .bad j e=>.bad j e
   | .ok p j=>markedF n s ec d (a.add p) j
  else if ((bG s i).toNat:Int) == 92 then markedF n s ec d (dW ec (ag s (i + 1)) a).1 (i + (dW ec (ag s (i + 1)) a).2)
  else markedF n s ec d (a.text [bG s i] true) (i + 1)
def paramF:Nat→ByteArray→Bool→Nat→Nat→Out
 | 0,_,_,_,i=>.bad i 9
 | n + 1,s,q,d,i =>
  if 200 < d then .bad i 2
  else if seesB (ag s (i + 1)) 123 then
   if !iZ ((ag s (i + 2)).take (aL (ag s (i + 2)) s.size)) || (xO ((ag s (i + 2 + aL (ag s (i + 2)) s.size)).take (gG (ag s (i + 2 + aL (ag s (i + 2)) s.size)))) && !bV ((ag s (i + 2)).take (aL (ag s (i + 2)) s.size))) then .bad i 1
   else if gG (ag s (i + 2 + aL (ag s (i + 2)) s.size)) = 0 then
    if seesB (ag s (i + 2 + aL (ag s (i + 2)) s.size)) 125 then .ok (one 2 q (s.extract (i + 2) (i + 2 + aL (ag s (i + 2)) s.size)) ⟨#[]⟩ .nil) (i + 2 + aL (ag s (i + 2)) s.size + 1) else .bad i 1
   else match (if q then markedF n s 125 d A0 (i + 2 + aL (ag s (i + 2)) s.size + gG (ag s (i + 2 + aL (ag s (i + 2)) s.size))) else bareF n s d A0 (i + 2 + aL (ag s (i + 2)) s.size + gG (ag s (i + 2 + aL (ag s (i + 2)) s.size)))) with
    | .bad j e=>.bad j e
    | .ok f j=>if seesB (ag s j) 125 then .ok (one 2 q (s.extract (i + 2) (i + 2 + aL (ag s (i + 2)) s.size)) (s.extract (i + 2 + aL (ag s (i + 2)) s.size) (i + 2 + aL (ag s (i + 2)) s.size + gG (ag s (i + 2 + aL (ag s (i + 2)) s.size)))) f) (j + 1) else .bad i 1
  else if aL (ag s (i + 1)) 1 = 0 then .bad i 1
  else .ok (one 2 q (s.extract (i + 1) (i + 1 + aL (ag s (i + 1)) 1)) ⟨#[]⟩ .nil) (i + 1 + aL (ag s (i + 1)) 1)
end
theorem kE (l:List UInt8) (d:Nat):aL l d≤l.length:=by
 unfold aL;split
 ·exact Nat.zero_le _
 ·rename_i c t;split
  ·exact o8 _ _
  ·split
   ·have:=o8 eZ (c :: t);omega
   ·split
    ·simp
    ·exact Nat.zero_le _
theorem r9 (l:List UInt8):gG l≤l.length:=by
 unfold gG;split
 ·exact Nat.zero_le _
 ·split
  ·split
   ·exact Nat.zero_le _
   ·split <;> simp
  ·split <;> simp
theorem wU {s:ByteArray} {i ec:Nat} {a:A} (hi:i < s.size):1≤(dW ec (ag s (i + 1)) a).2∧i + (dW ec (ag s (i + 1)) a).2≤s.size∧(dW ec (ag s (i + 1)) a).1.tot≤a.tot + 2 * (dW ec (ag s (i + 1)) a).2:=by
 have hx:∀ c,seesB (ag s (i + 1)) c = true→i + 1 < s.size:=fun c h=>nA h;unfold dW;split
 ·rename_i h;have:=hx _ h;simp only [];omega
 ·split
  ·rename_i h;have hl:i + 1 < s.size:=by
    simp only [Bool.or_eq_true] at h;rcases h with (((h | h) | h) | h) | h <;> exact hx _ h
   have:=A.kS a [(ag s (i + 1)).headD 0] true;simp only [zz,zZ] at this ⊢
   omega
  ·have:=A.kS a [92] true;simp only [zz,zZ] at this ⊢
   omega
theorem R8 (a:A) (c:UInt8):(yt a c).tot≤a.tot + 2:=by
 unfold yt;split
 ·omega
 ·have:=A.kS a [c] true;simp only [zz,zZ] at this;omega
theorem Vu (m:PL):tot (nz m)≤tot m + 1:=by
 cases m with
 | nil=>simp [nz,A.lit,tot];exact Nat.le_refl _
 | cons=>simp [nz]
theorem Ja {n:Nat} {s:ByteArray} {q:Bool} {d i j:Nat} {p:PL} (h:paramF n s q d i = .ok p j) (hi:i < s.size) (hs:∀ (m ec d:Nat) (a:A) (i j:Nat) (l:PL),(∃ n',n = n' + 1∧m = n')→markedF m s ec d a i = .ok l j→i≤s.size→i≤j∧j≤s.size)
  (hb:∀ (m d:Nat) (a:A) (i j:Nat) (l:PL),(∃ n',n = n' + 1∧m = n')→bareF m s d a i = .ok l j→i≤s.size→i≤j∧j≤s.size) :
  i < j∧j≤s.size∧∃ t o f,p = one 2 q t o f∧t.size≤j - i∧t.size≤s.size∧o.size≤s.size:=by
 cases n with
 | zero=>simp [paramF] at h
 | succ n =>
  rw [paramF] at h;split at h
  ·cases h
  ·split at h
   ·rename_i jc;have h1:=nA jc;have hn:=kE (ag s (i + 2)) s.size;rw [aQ] at hn;have ho:=r9 (ag s (i + 2 + aL (ag s (i + 2)) s.size));rw [aQ] at ho;split at h
    ·cases h
    ·split at h
     ·split at h
      ·rename_i FR;have h2:=nA FR;cases h;exact ⟨by omega,by omega,_,_,_,rfl,by simp [ByteArray.size_extract];omega,by simp [ByteArray.size_extract];omega,Nat.zero_le _⟩
      ·cases h
     ·split at h
      ·cases h
      ·rename_i f j' hm;split at h
       ·rename_i FR;have h2:=nA FR;have hj:i + 2 + aL (ag s (i + 2)) s.size + gG (ag s (i + 2 + aL (ag s (i + 2)) s.size))≤j':=by
         cases q with
         | true=>exact (hs n _ _ _ _ _ _ ⟨n,rfl,rfl⟩ hm (by omega)).1
         | false=>exact (hb n _ _ _ _ _ ⟨n,rfl,rfl⟩ hm (by omega)).1
        cases h;exact ⟨by omega,by omega,_,_,_,rfl,by simp [ByteArray.size_extract];omega,by simp [ByteArray.size_extract];omega,by simp [ByteArray.size_extract];omega⟩
       ·cases h
   ·split at h
    ·cases h
    ·rename_i h0;have hn:=kE (ag s (i + 1)) 1;rw [aQ] at hn;cases h;exact ⟨by omega,by omega,_,_,_,rfl,by simp [ByteArray.size_extract];omega,by simp [ByteArray.size_extract];omega,Nat.zero_le _⟩
theorem jr (s:ByteArray):∀ n,(∀ (ec d:Nat) (a:A) (i j:Nat) (l:PL),markedF n s ec d a i = .ok l j→i≤s.size→i≤j∧j≤s.size∧tot l≤a.tot + 2 * (j - i)) ∧
  (∀ (d:Nat) (a:A) (i j:Nat) (l:PL),bareF n s d a i = .ok l j→i≤s.size→i≤j∧j≤s.size) ∧
  (∀ (q:Bool) (d i j:Nat) (p:PL),paramF n s q d i = .ok p j→i < s.size→i < j∧j≤s.size∧∃ t o f,p = one 2 q t o f∧t.size≤j - i∧t.size≤s.size∧o.size≤s.size):=by
 intro n
 induction n with
 | zero=>exact ⟨fun _ _ _ _ _ _ h=>by simp [markedF] at h,fun _ _ _ _ _ h=>by simp [bareF] at h,fun _ _ _ _ _ h=>by simp [paramF] at h⟩
 | succ n ih =>
  obtain ⟨zn,ihb,O0⟩:=ih;refine ⟨?_,?_,?_⟩
  ·intro ec d a i j l h hi;rw [markedF] at h;split at h
   ·cases h;have:=A.pg a;omega
   ·split at h
    ·cases h;have:=A.pg a;omega
    ·split at h
     ·cases h
     ·split at h
      ·split at h
       ·cases h
       ·rename_i p j' hp;obtain ⟨h1,h2,t,o,f,rfl,h3,_⟩:=O0 _ _ _ _ _ hp (by omega);obtain ⟨h4,h5,h6⟩:=zn _ _ _ _ _ _ h h2;rw [A.Dm] at h6;simp only [one,tot] at h6;exact ⟨by omega,h5,by omega⟩
      ·split at h
       ·obtain ⟨k1,k2,k3⟩:=wU (ec:=ec) (a:=a) (show i < s.size by omega);obtain ⟨h4,h5,h6⟩:=zn _ _ _ _ _ _ h k2;exact ⟨by omega,h5,by omega⟩
       ·obtain ⟨h4,h5,h6⟩:=zn _ _ _ _ _ _ h (by omega);have:=A.kS a [bG s i] true;simp only [zz,zZ] at this;exact ⟨by omega,h5,by omega⟩
  ·intro d a i j l h hi;rw [bareF] at h;split at h
   ·cases h;exact ⟨by omega,by omega⟩
   ·split at h
    ·split at h
     ·rename_i h0;have hn:(Lib.indexByte (ag s (i + 1)) 39).toNat < (ag s (i + 1)).length:=by
       have:=(Lib.indexByte_some (l:=ag s (i + 1)) (c:=39) (o:=(Lib.indexByte (ag s (i + 1)) 39).toNat) (by omega)).1;exact (List.getElem?_eq_some_iff.1 this).1
      rw [aQ] at hn;have:=ihb _ _ _ _ _ h (by omega);exact ⟨by omega,this.2⟩
     ·cases h
    ·split at h
     ·split at h
      ·cases h
      ·rename_i m j' hm;split at h
       ·cases h
       ·have h1:=zn _ _ _ _ _ _ hm (by omega);have h2:=ihb _ _ _ _ _ h (by omega);exact ⟨by omega,h2.2⟩
     ·split at h
      ·split at h
       ·cases h
       ·have h2:=ihb _ _ _ _ _ h (by omega);exact ⟨by omega,h2.2⟩
      ·split at h
       ·cases h
       ·split at h
        ·split at h
         ·cases h
         ·rename_i p j' hp;have h1:=O0 _ _ _ _ _ hp (by omega);have h2:=ihb _ _ _ _ _ h h1.2.1;exact ⟨by omega,h2.2⟩
        ·split at h
         ·cases h;exact ⟨by omega,by omega⟩
         ·have h2:=ihb _ _ _ _ _ h (by omega);exact ⟨by omega,h2.2⟩
  ·intro q d i j p h hi
   exact Ja h hi (fun m ec d a i j l ⟨n',h1,h2⟩ hm hi=>by
    obtain rfl:n = n':=by omega
    subst h2;have:=zn _ _ _ _ _ _ hm hi
    exact ⟨this.1,this.2.1⟩) (fun m d a i j l ⟨n',h1,h2⟩ hm hi=>by
    obtain rfl:n = n':=by omega
    subst h2
    exact ihb _ _ _ _ _ hm hi)
end Lx
end Go.Proofs.YtckakkeejekibaaGreatDoor
