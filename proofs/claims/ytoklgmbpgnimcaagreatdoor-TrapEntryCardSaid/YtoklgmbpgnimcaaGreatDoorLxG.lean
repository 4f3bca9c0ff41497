/- The reader's small functions: ended, sees, take, wrong, single, escape, slash. -/
import Derived.Test.YtoklgmbpgnimcaaGreatDoorLxF
import Derived.WalkLawsBesides
namespace Go.Proofs.YtoklgmbpgnimcaaGreatDoor
open Go.RowKit Go.Sort
namespace Lx
open Cls Pt
def faultV (i err:Nat):Value:=.iface 121 (.agg #[.int .i64 i,.int .i64 err])
abbrev thrown (i err:Nat):Ending:=.panicked [{ v:=faultV i err,recovered:=false }]
structure FrR (rb B:Nat) (S:Nat→Prop) (w w':World):Prop where
 os:w'.os = w.os
 tape:w'.tape = w.tape
 output:w'.output = w.output
 size:w.heap.size≤w'.heap.size
 block:∀ b,b < w.heap.size→((b < B∧b ≠ rb)∨S b)→w'.heap[b]? = w.heap[b]?
namespace FrR
variable {rb B:Nat} {S:Nat→Prop} {w w' w'':World}
theorem refl (rb B:Nat) (S:Nat→Prop) (w:World):FrR rb B S w w:=⟨rfl,rfl,rfl,Nat.le_refl _,fun _ _ _=>rfl⟩
theorem trans (h:FrR rb B S w w') (k:FrR rb B S w' w''):FrR rb B S w w'' :=
 ⟨k.os.trans h.os,k.tape.trans h.tape,k.output.trans h.output,Nat.le_trans h.size k.size,fun b hb ho=>(k.block b (Nat.lt_of_lt_of_le hb h.size) ho).trans (h.block b hb ho)⟩
theorem drewN (rb B:Nat) (S:Nat→Prop) (w:World) (n:Nat):FrR rb B S w (w.drewN n):=⟨rfl,rfl,rfl,Nat.le_refl _,fun _ _ _=>rfl⟩
theorem of_fr (h:Fr B S w w'):FrR rb B S w w':=⟨h.os,h.tape,h.output,h.size,fun b hb ho=>h.block b hb (ho.imp (·.1) id)⟩
theorem drew (h:FrR rb B S w w'):FrR rb B S w w'.drew:=⟨h.os,h.tape,h.output,h.size,h.block⟩
theorem set (h:FrR rb B S w w') (hS:¬ S rb) (j:Nat) (v:Value):FrR rb B S w (w'.setCell ⟨rb,j,none⟩ v) :=
 h.trans ⟨rfl,rfl,rfl,by simp [World.setCell],fun b _ ho=>Below.heap_setCell _ _ _ _ (by
  rintro rfl
  rcases ho with ho | ho
  ·exact ho.2 rfl
  ·exact hS ho)⟩
theorem mono {S':Nat→Prop} (h:FrR rb B S' w w') (hS:∀ b,S b→S' b):FrR rb B S w w':=⟨h.os,h.tape,h.output,h.size,fun b hb ho=>h.block b hb (ho.imp id (hS b))⟩
end FrR
theorem RAt.fr {w w':World} {rb i B:Nat} {S:Nat→Prop} {s:ByteArray} (h:RAt w rb s i) (hf:Fr B S w w') (hb:rb < B):RAt w' rb s i:=(hf.block rb h.lt (.inl hb)).trans h
theorem AccAt.setR {w:World} {B p rb:Nat} {S:Nat→Prop} {a:A} (h:AccAt w B S p a) (hrb:rb < B) (hS:¬ S rb) (j:Nat) (v:Value):AccAt (w.setCell ⟨rb,j,none⟩ v) B S p a:=by
 obtain ⟨vl,vb,q,hp,hB,hSp,hq,hb⟩:=h
 refine ⟨vl,vb,q,(Below.heap_setCell _ _ _ _ (by show p ≠ rb;omega)).trans hp,hB,hSp,hq,hb.keep (by simp) fun b _ ho=>Below.heap_setCell _ _ _ _ ?_⟩
 obtain ⟨xs,h1,_,_,h4,_⟩:=hb
 show b ≠ rb
 rcases ho with ho | ho | ho
 ·rintro rfl;exact hS ho
 ·have:=(h1.lt b ho).1;omega
 ·have:=(h4.lt b ho).1;omega
theorem AccAt.drew {w:World} {B p:Nat} {S:Nat→Prop} {a:A} (h:AccAt w B S p a):AccAt w.drew B S p a:=h.heap rfl
theorem RAt.drew {w:World} {rb i:Nat} {s:ByteArray} (h:RAt w rb s i):RAt w.drew rb s i:=h
theorem wrong_any (i:Nat) (w:World) :
  Calls Tryz.prog 69 #[.int .i64 i] w fun e w'=>e = thrown i 1∧w = w':=by
 go_enter Tryz.func69,Tryz.ntmps69
 go_wp2
 exact ⟨rfl,rfl,rfl⟩
set_option maxHeartbeats 400000 in
theorem ended_any (rb i:Nat) (s:ByteArray) (w:World) (h:RAt w rb s i) :
  Calls Tryz.prog 66 #[.pointer (some ⟨rb,0,none⟩)] w fun e w'=>e = .returned (.bool ((i:Int) == (s.size:Int)))∧∃ n,w' = w.drewN n:=by
 have c0:=h.c0
 have c1:=h.c1
 clear h
 go_enter Tryz.func66,Tryz.ntmps66
 go_wp2
 go_region
 go_wp2
 go_ret
 exact ⟨rfl,1,rfl⟩
set_option maxHeartbeats 400000 in
theorem sees_any (rb i c:Nat) (s:ByteArray) (w:World) (h:RAt w rb s i) (hi:i≤s.size) (hs:s.size≤1000000) :
  Calls Tryz.prog 100 #[.pointer (some ⟨rb,0,none⟩),.int .u8 c] w fun e w'=>e = .returned (.bool (decide (i < s.size) && ((s.data.toList.getD i 0).toNat:Int) == (c:Int)))∧∃ n,w' = w.drewN n:=by
 have c0:=h.c0
 have c1:=h.c1
 have hE:=fun n=>ended_any rb i s (w.drewN n) h
 by_cases hlt:i < s.size
 ·have he:((i:Int) == (s.size:Int)) = false:=by simp;omega
  rw [he] at hE
  have hE2:∀ n,Calls Tryz.prog 66 #[.pointer (some ⟨rb,0,none⟩)] (w.drewN n) fun e w'=>e = .returned (.bool false)∧∃ m,w' = w.drewN m:=fun n=>(hE n).mono fun e w' ⟨h1,m,h2⟩=>⟨h1,n + m,by rw [h2];exact World.drewN_drewN ..⟩
  have HE:=Lib.hid hE2
  have hg:=getB hlt
  rw [← hg]
  have hi0:(0:Int)≤(i:Int):=by omega
  have hi1:(i:Int) < (s.size:Int):=by omega
  have hd:decide (i < s.size) = true:=by simpa using hlt
  rw [hd]
  clear hE hE2 h hg he hd
  go_enter Tryz.func100,Tryz.ntmps100
  go_wp2_with fail
  go_quiet ((go_at_call 66;exact HE.out _))
  go_wp2_with fail
  go_ret
  exact ⟨rfl,_,rfl⟩
 ·have he:((i:Int) == (s.size:Int)) = true:=by simp;omega
  rw [he] at hE
  have hE2:∀ n,Calls Tryz.prog 66 #[.pointer (some ⟨rb,0,none⟩)] (w.drewN n) fun e w'=>e = .returned (.bool true)∧∃ m,w' = w.drewN m:=fun n=>(hE n).mono fun e w' ⟨h1,m,h2⟩=>⟨h1,n + m,by rw [h2];exact World.drewN_drewN ..⟩
  have HE:=Lib.hid hE2
  have hd:decide (i < s.size) = false:=by simpa using hlt
  rw [hd]
  clear hE hE2 h he hd
  go_enter Tryz.func100,Tryz.ntmps100
  go_wp2_with fail
  go_quiet ((go_at_call 66;exact HE.out _))
  go_wp2_with fail
  go_ret
  exact ⟨rfl,_,rfl⟩
theorem wrapI (x:Int) (h1:0≤x) (h2:x≤4611686018427387904):IntKind.i64.wrap x = x:=by rw [IntKind.wrap_i64];omega
set_option maxHeartbeats 400000 in
theorem take_any (rb i n:Nat) (s:ByteArray) (w:World) (h:RAt w rb s i) (hi:i + n≤s.size) (hs:s.size≤1000000) :
  Calls Tryz.prog 102 #[.pointer (some ⟨rb,0,none⟩),.int .i64 n] w fun e w'=>e = .returned (.string (s.extract i (i + n)))∧∃ m,w' = (w.setCell ⟨rb,1,none⟩ (.int .i64 ((i + n:Nat):Int))).drewN m:=by
 have c0:=h.c0
 have c1:=h.c1
 have f1:=h.f1
 have h2:=h.set (i + n)
 have d0:=h2.c0
 have d1:=h2.c1
 rw [show ((i + n:Nat):Int) = (i:Int) + (n:Int) by omega] at d0 d1 ⊢
 have hw:IntKind.i64.wrap ((i:Int) + (n:Int) - (n:Int)) = (i:Int):=by rw [wrapI _ (by omega) (by omega)];omega
 have a0:(0:Int)≤(i:Int):=by omega
 have a1:(i:Int)≤(i:Int) + (n:Int):=by omega
 have a2:(i:Int) + (n:Int)≤(s.size:Int):=by omega
 have a3:(0:Int)≤(i:Int) + (n:Int):=by omega
 have ht:((i:Int) + (n:Int)).toNat = i + n:=by omega
 clear h h2
 go_enter Tryz.func102,Tryz.ntmps102
 go_wp2_with fail
 go_quiet (fail)
 go_wp2_with fail
 go_ret
 exact ⟨rfl,_,rfl⟩
def restAt (s:ByteArray) (i:Nat):List UInt8:=s.data.toList.drop i
theorem extract_end (s:ByteArray) (k:Nat):(s.extract k s.size).data.toList = restAt s k:=by
 rw [Lib.extract_data,List.take_of_length_le (by rw [List.length_drop,lenB];exact Nat.le_refl _)];rfl
theorem extract_mid (s:ByteArray) (k n:Nat):(s.extract k (k + n)).data.toList = (restAt s k).take n:=by
 rw [Lib.extract_data,restAt,Nat.add_sub_cancel_left]
theorem restAt_len (s:ByteArray) (k:Nat):(restAt s k).length = s.size - k:=by rw [restAt,List.length_drop,lenB]
set_option maxHeartbeats 1600000 in
set_option maxRecDepth 100000 in
theorem single_ok (rb i B n:Nat) (s:ByteArray) (S:Nat→Prop) (p:Nat) (a:A) (w:World) (h:RAt w rb s i) (hi:i < s.size) (hs:s.size≤1000000) (hrb:rb < B) (hS:¬ S rb) (ha:AccAt w B S p a) (ht:a.tot≤70000000) (hSl:∀ x,S x→x < w.heap.size)
  (hn:Lib.indexByte (restAt s (i + 1)) 39 = (n:Int)) :
  Calls Tryz.prog 81 #[.pointer (some ⟨rb,0,none⟩),.pointer (some ⟨p,0,none⟩)] w fun e w' =>
   (e = .returned (.tuple #[])∧RAt w' rb s (i + n + 2)∧AccAt w' B S p (a.text ((restAt s (i + 1)).take n) true))∧FrR rb B S w w':=by
 have c0:=h.c0
 have c1:=h.c1
 have f1:=h.f1
 have hI:=fun w=>(Tryz.strings_IndexByte (s.extract (i + 1) s.size) 39 w).mono fun e w' h=>And.intro h.1 h.2.symm
 have h39:(39:Int).toNat.toUInt8 = 39:=rfl
 rw [extract_end,h39,hn] at hI
 have hnl:n < (restAt s (i + 1)).length:=(List.getElem?_eq_some_iff.1 (Lib.indexByte_some hn).1).1
 rw [restAt_len] at hnl
 have hT:=text_any B S p a (s.extract (i + 1) (i + 1 + n)) true w ha (by have:=a.sizes;omega) (by have:=a.sizes;omega) (by simp [ByteArray.size_extract];omega) hSl
 rw [extract_mid] at hT
 have hnneg:((n:Int) < 0) = False:=by simp
 have HI:=Lib.hid hI;have HT:=Lib.hid hT;have HH:=Lib.hid h
 clear hI hT h ha hn h39
 go_enter Tryz.func81,Tryz.ntmps81
 go_wp2_with (go_at_call 64;refine (HI.out _).mono ?_;rintro e w' ⟨rfl,rfl⟩)
 refine (HT.out).mono ?_
 rintro e w1 ⟨rfl,hacc,hfr⟩
 have h1:=HH.out.fr hfr hrb
 have d1:=h1.c1
 have e1:=h1.f1
 have HX:=Lib.hid (And.intro (h1.set (i + n + 2)) (And.intro (hacc.setR hrb hS 1 (.int .i64 ((i + n + 2:Nat):Int))) ((FrR.of_fr (rb:=rb) hfr).set hS 1 (.int .i64 ((i + n + 2:Nat):Int)))))
 clear hacc hfr h1
 go_wp2_with fail
 go_end0
 have he:((i:Int) + 1 + (n:Int) + 1) = ((i + n + 2:Nat):Int):=by omega
 rw [he]
 exact ⟨⟨rfl,HX.out.1,HX.out.2.1⟩,HX.out.2.2⟩
set_option maxHeartbeats 1600000 in
set_option maxRecDepth 100000 in
theorem single_bad (rb i:Nat) (s:ByteArray) (p:Nat) (w:World) (h:RAt w rb s i) (hi:i < s.size) (hs:s.size≤1000000)
  (hn:Lib.indexByte (restAt s (i + 1)) 39 = -1) :
  Calls Tryz.prog 81 #[.pointer (some ⟨rb,0,none⟩),.pointer (some ⟨p,0,none⟩)] w fun e w'=>e = thrown i 1∧w = w':=by
 have c0:=h.c0
 have c1:=h.c1
 have hI:=fun w=>(Tryz.strings_IndexByte (s.extract (i + 1) s.size) 39 w).mono fun e w' h=>And.intro h.1 h.2.symm
 have h39:(39:Int).toNat.toUInt8 = 39:=rfl
 rw [extract_end,h39,hn] at hI
 have HI:=Lib.hid hI
 clear hI h hn h39
 go_enter Tryz.func81,Tryz.ntmps81
 go_wp2_with (first
  | (go_at_call 64;refine (HI.out _).mono ?_;rintro e w' ⟨rfl,rfl⟩)
  | (go_at_call 69;refine (wrong_any _ _).mono ?_;rintro e w' ⟨rfl,rfl⟩))
 exact ⟨rfl,rfl,rfl⟩
set_option maxHeartbeats 1600000 in
set_option maxRecDepth 100000 in
theorem escape_bad (rb i:Nat) (s:ByteArray) (p:Nat) (w:World) (h:RAt w rb s i) (hi:i + 1 = s.size) (hs:s.size≤1000000) :
  Calls Tryz.prog 84 #[.pointer (some ⟨rb,0,none⟩),.pointer (some ⟨p,0,none⟩)] w fun e w'=>e = thrown i 1∧∃ n,w' = w.drewN n:=by
 have c0:=h.c0
 have c1:=h.c1
 have hx:IntKind.i64.wrap ((i:Int) + 1) = (i:Int) + 1:=wrapI _ (by omega) (by omega)
 have hy:((i:Int) + 1 == (s.size:Int)) = true:=by simp;omega
 clear h
 go_enter Tryz.func84,Tryz.ntmps84
 go_wp2_with fail
 go_quiet (fail)
 go_wp2_with (go_at_call 69;refine (wrong_any _ _).mono ?_;rintro e w' ⟨rfl,rfl⟩)
 exact ⟨rfl,rfl,_,rfl⟩
def escA (a:A) (c:UInt8):A:=if ((c.toNat:Int) == 10) then a else a.text [c] true
set_option maxHeartbeats 1600000 in
set_option maxRecDepth 100000 in
theorem escape_ok (rb i B:Nat) (s:ByteArray) (S:Nat→Prop) (p:Nat) (a:A) (w:World) (h:RAt w rb s i) (hi:i + 1 < s.size) (hs:s.size≤1000000) (hrb:rb < B) (hS:¬ S rb) (ha:AccAt w B S p a) (ht:a.tot≤70000000) (hSl:∀ x,S x→x < w.heap.size) :
  Calls Tryz.prog 84 #[.pointer (some ⟨rb,0,none⟩),.pointer (some ⟨p,0,none⟩)] w fun e w' =>
   (e = .returned (.tuple #[])∧RAt w' rb s (i + 2)∧AccAt w' B S p (escA a (s.data.toList.getD (i + 1) 0)))∧FrR rb B S w w':=by
 have c0:=h.c0
 have c1:=h.c1
 have f1:=h.f1
 have hg:=getB hi
 rw [← hg]
 have hx:IntKind.i64.wrap ((i:Int) + 1) = (i:Int) + 1:=wrapI _ (by omega) (by omega)
 have hy:((i:Int) + 1 == (s.size:Int)) = false:=by simp;omega
 have hz:((i:Int) + 1).toNat = i + 1:=by omega
 have a0:(0:Int)≤(i:Int) + 1:=by omega
 have a1:(i:Int) + 1 < (s.size:Int):=by omega
 have hT:=fun n=>put_any B S p a s[i + 1] true (w.drewN n) (ha.heap rfl) (by have:=a.sizes;omega) (by have:=a.sizes;omega) hSl
 have HH:=Lib.hid h;have HT:=Lib.hid hT;have HA:=Lib.hid ha
 clear h hT ha hg
 unfold escA
 cases hc:((s[i + 1].toNat:Int) == 10)
 ·have hc2:((s[i + 1].toNat:Int) != 10) = true:=by simp only [bne,hc];rfl
  go_enter Tryz.func84,Tryz.ntmps84
  go_wp2_with fail
  go_quiet (fail)
  go_wp2_with fail
  go_quiet (fail)
  go_wp2_with fail
  refine (HT.out _).mono ?_
  rintro e w1 ⟨rfl,hacc,hfr⟩
  have h1:RAt w1 rb s i:=RAt.fr (w:=w.drewN _) HH.out hfr hrb
  have d1:=h1.c1
  have e1:=h1.f1
  have hfw:FrR rb B S w w1:=⟨hfr.os,hfr.tape,hfr.output,hfr.size,fun b hb ho=>hfr.block b hb (ho.imp (·.1) id)⟩
  have HX:=Lib.hid (And.intro (h1.set (i + 2)) (And.intro (hacc.setR hrb hS 1 (.int .i64 ((i + 2:Nat):Int))) (hfw.set hS 1 (.int .i64 ((i + 2:Nat):Int)))))
  clear hacc hfr h1 hfw
  go_wp2_with fail
  go_end0
  have he:((i:Int) + 2) = ((i + 2:Nat):Int):=by omega
  rw [he]
  exact ⟨⟨rfl,HX.out.1,HX.out.2.1⟩,HX.out.2.2⟩
 ·have hc2:((s[i + 1].toNat:Int) != 10) = false:=by simp only [bne,hc];rfl
  go_enter Tryz.func84,Tryz.ntmps84
  go_wp2_with fail
  go_quiet (fail)
  go_wp2_with fail
  go_quiet (fail)
  go_wp2_with fail
  go_end0
  have he:((i:Int) + 2) = ((i + 2:Nat):Int):=by omega
  rw [he]
  refine ⟨⟨rfl,HH.out.set _,HA.out.setR hrb hS _ _ |>.heap rfl⟩,?_⟩
  exact ((FrR.drewN rb B S w _).set hS 1 (.int .i64 ((i + 2:Nat):Int)))
def seesB (l:List UInt8) (c:Nat):Bool:=match l with | []=>false | x :: _=>((x.toNat:Int) == (c:Int))
theorem restAt_cons {s:ByteArray} {i:Nat} (h:i < s.size):restAt s i = s.data.toList.getD i 0 :: restAt s (i + 1):=by
 have h':i < s.data.toList.length:=by rw [lenB];exact h
 rw [restAt,restAt,List.drop_eq_getElem_cons h',List.getD_eq_getElem?_getD,List.getElem?_eq_getElem h']
 rfl
theorem restAt_nil {s:ByteArray} {i:Nat} (h:s.size≤i):restAt s i = []:=List.drop_eq_nil_of_le (by rw [lenB];exact h)
theorem seesB_eq (s:ByteArray) (i c:Nat):(decide (i < s.size) && ((s.data.toList.getD i 0).toNat:Int) == (c:Int)) = seesB (restAt s i) c:=by
 by_cases h:i < s.size
 ·rw [restAt_cons h];simp [seesB,h]
 ·rw [restAt_nil (by omega)];simp [seesB,h]
theorem sees_drawn (rb i c:Nat) (s:ByteArray) (w:World) (h:RAt w rb s i) (hi:i≤s.size) (hs:s.size≤1000000) (n:Nat) :
  Calls Tryz.prog 100 #[.pointer (some ⟨rb,0,none⟩),.int .u8 c] (w.drewN n) fun e w'=>e = .returned (.bool (seesB (restAt s i) c))∧∃ n,w' = w.drewN n:=by
 rw [← seesB_eq]
 exact (sees_any rb i c s (w.drewN n) h hi hs).mono fun e w' ⟨h1,m,h2⟩=>⟨h1,n + m,by rw [h2];exact World.drewN_drewN ..⟩
theorem sees_drawn0 (rb i c:Nat) (s:ByteArray) (w:World) (h:RAt w rb s i) (hi:i≤s.size) (hs:s.size≤1000000) :
  Calls Tryz.prog 100 #[.pointer (some ⟨rb,0,none⟩),.int .u8 c] w fun e w'=>e = .returned (.bool (seesB (restAt s i) c))∧∃ n,w' = w.drewN n:=by
 rw [← seesB_eq]
 exact sees_any rb i c s w h hi hs
def slashR (ec:Nat) (l:List UInt8) (a:A):A × Nat :=
 if seesB l 10 then (a,2) else if seesB l 34 || seesB l 36 || seesB l 92 || seesB l 96 || seesB l ec then (a.text [l.headD 0] true,2) else (a.text [92] true,1)
theorem sees_lt {s:ByteArray} {i c:Nat} (h:seesB (restAt s i) c = true):i < s.size:=by
 refine Classical.byContradiction fun hn=>?_
 rw [restAt_nil (by omega)] at h
 cases h
end Lx
end Go.Proofs.YtoklgmbpgnimcaaGreatDoor
