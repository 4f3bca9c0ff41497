/- The reader's small functions: ended, sees, take, wrong, single, escape, slash. -/
import Derived.Test.YtjmpfihopeohbaaGreatDoorLxF
set_option maxHeartbeats 400000
namespace Go.Proofs.YtjmpfihopeohbaaGreatDoor
open Go.RowKit Go.Sort
namespace Lx
open Cls Pt
def faultV (i err:Nat):Value:=.iface 129 (.agg #[.int .i64 i,.int .i64 err])
abbrev thrown (i err:Nat):Ending:=.panicked [{ v:=faultV i err,recovered:=false }]
structure FrR (rb B:Nat) (S:Nat→Prop) (w w':World):Prop where
 os:w'.os = w.os
 tape:w'.tape = w.tape
 output:w'.output = w.output
 size:w.heap.size≤w'.heap.size
 block:∀ b,b < w.heap.size→((b < B∧b ≠ rb)∨S b)→w'.heap[b]? = w.heap[b]?
namespace FrR
variable {rb B:Nat} {S:Nat→Prop} {w w' w'':World}
theorem trans (h:FrR rb B S w w') (k:FrR rb B S w' w''):FrR rb B S w w'' :=
 ⟨k.os.trans h.os,k.tape.trans h.tape,k.output.trans h.output,Nat.le_trans h.size k.size,fun b hb ho=>(k.block b (Nat.lt_of_lt_of_le hb h.size) ho).trans (h.block b hb ho)⟩
theorem drewN (rb B:Nat) (S:Nat→Prop) (w:World) (n:Nat):FrR rb B S w (w.drewN n):=⟨rfl,rfl,rfl,Nat.le_refl _,fun _ _ _=>rfl⟩
theorem of_fr (h:Fr B S w w'):FrR rb B S w w':=⟨h.os,h.tape,h.output,h.size,fun b hb ho=>h.block b hb (ho.imp (·.1) id)⟩
theorem drew (h:FrR rb B S w w'):FrR rb B S w w'.drew:=⟨h.os,h.tape,h.output,h.size,h.block⟩
theorem set (h:FrR rb B S w w') (hS:¬ S rb) (j:Nat) (v:Value):FrR rb B S w (w'.setCell ⟨rb,j,none⟩ v) :=
 h.trans ⟨rfl,rfl,rfl,by simp [World.setCell],fun b _ ho=>Below.heap_setCell _ _ _ _ (by
  rintro rfl;rcases ho with ho | ho
  ·exact ho.2 rfl
  ·exact hS ho)⟩
theorem mono {S':Nat→Prop} (h:FrR rb B S' w w') (hS:∀ b,S b→S' b):FrR rb B S w w':=⟨h.os,h.tape,h.output,h.size,fun b hb ho=>h.block b hb (ho.imp id (hS b))⟩
end FrR
theorem RAt.fr {w w':World} {rb i B:Nat} {S:Nat→Prop} {s:ByteArray} (h:RAt w rb s i) (hf:Fr B S w w') (hb:rb < B):RAt w' rb s i:=(hf.block rb h.lt (.inl hb)).trans h
theorem AccAt.setR {w:World} {B p rb:Nat} {S:Nat→Prop} {a:A} (h:AccAt w B S p a) (hrb:rb < B) (hS:¬ S rb) (j:Nat) (v:Value):AccAt (w.setCell ⟨rb,j,none⟩ v) B S p a:=by
 obtain ⟨vl,vb,q,hp,hB,hSp,hq,hb⟩:=h;refine ⟨vl,vb,q,(Below.heap_setCell _ _ _ _ (by show p ≠ rb;omega)).trans hp,hB,hSp,hq,hb.keep (by simp) fun b _ ho=>Below.heap_setCell _ _ _ _ ?_⟩;obtain ⟨xs,h1,_,_,h4,_⟩:=hb;show b ≠ rb;rcases ho with ho | ho | ho
 ·rintro rfl;exact hS ho
 ·have:=(h1.lt b ho).1;omega
 ·have:=(h4.lt b ho).1;omega
theorem wrong_any (i:Nat) (w:World) :
  Calls Tryz.prog 124 #[.int .i64 i] w fun e w'=>e = thrown i 1∧w = w':=by
 go_enter Tryz.func124,Tryz.ntmps124;go_wp2;exact ⟨rfl,rfl,rfl⟩
theorem ended_any (rb i:Nat) (s:ByteArray) (w:World) (h:RAt w rb s i) :
  Calls Tryz.prog 121 #[.pointer (some ⟨rb,0,none⟩)] w fun e w'=>e = .returned (.bool ((i:Int) == (s.size:Int)))∧∃ n,w' = w.drewN n:=by
 have c0:=h.c0;have c1:=h.c1;clear h;go_enter Tryz.func121,Tryz.ntmps121;go_wp2;go_region;go_wp2;go_ret;exact ⟨rfl,1,rfl⟩
theorem sees_any (rb i c:Nat) (s:ByteArray) (w:World) (h:RAt w rb s i) (hi:i≤s.size) (hs:s.size≤1000000) :
  Calls Tryz.prog 165 #[.pointer (some ⟨rb,0,none⟩),.int .u8 c] w fun e w'=>e = .returned (.bool (decide (i < s.size) && ((s.data.toList.getD i 0).toNat:Int) == (c:Int)))∧∃ n,w' = w.drewN n:=by
 have c0:=h.c0;have c1:=h.c1;have hE:=fun n=>ended_any rb i s (w.drewN n) h
 by_cases hlt:i < s.size
 ·have he:((i:Int) == (s.size:Int)) = false:=by simp;omega
  rw [he] at hE;have hE2:∀ n,Calls Tryz.prog 121 #[.pointer (some ⟨rb,0,none⟩)] (w.drewN n) fun e w'=>e = .returned (.bool false)∧∃ m,w' = w.drewN m:=fun n=>(hE n).mono fun e w' ⟨h1,m,h2⟩=>⟨h1,n + m,by rw [h2];exact World.drewN_drewN ..⟩;have HE:=Lib.hid hE2;have hg:=getB hlt;rw [← hg];have hi0:(0:Int)≤(i:Int):=by omega
  have hi1:(i:Int) < (s.size:Int):=by omega
  have hd:decide (i < s.size) = true:=by simpa using hlt
  rw [hd];clear hE hE2 h hg he hd;go_enter Tryz.func165,Tryz.ntmps165;go_wp2_with fail
  go_quiet ((go_at_call 121;exact HE.out _))
  go_wp2_with fail;go_ret;exact ⟨rfl,_,rfl⟩
 ·have he:((i:Int) == (s.size:Int)) = true:=by simp;omega
  rw [he] at hE;have hE2:∀ n,Calls Tryz.prog 121 #[.pointer (some ⟨rb,0,none⟩)] (w.drewN n) fun e w'=>e = .returned (.bool true)∧∃ m,w' = w.drewN m:=fun n=>(hE n).mono fun e w' ⟨h1,m,h2⟩=>⟨h1,n + m,by rw [h2];exact World.drewN_drewN ..⟩;have HE:=Lib.hid hE2;have hd:decide (i < s.size) = false:=by simpa using hlt
  rw [hd];clear hE hE2 h he hd;go_enter Tryz.func165,Tryz.ntmps165;go_wp2_with fail
  go_quiet ((go_at_call 121;exact HE.out _))
  go_wp2_with fail;go_ret;exact ⟨rfl,_,rfl⟩
theorem wrapI (x:Int) (h1:0≤x) (h2:x≤4611686018427387904):IntKind.i64.wrap x = x:=by rw [IntKind.wrap_i64];omega
theorem take_any (rb i n:Nat) (s:ByteArray) (w:World) (h:RAt w rb s i) (hi:i + n≤s.size) (hs:s.size≤1000000) :
  Calls Tryz.prog 167 #[.pointer (some ⟨rb,0,none⟩),.int .i64 n] w fun e w'=>e = .returned (.string (s.extract i (i + n)))∧∃ m,w' = (w.setCell ⟨rb,1,none⟩ (.int .i64 ((i + n:Nat):Int))).drewN m:=by
 have c0:=h.c0;have c1:=h.c1;have f1:=h.f1;have h2:=h.set (i + n);have d0:=h2.c0;have d1:=h2.c1;rw [show ((i + n:Nat):Int) = (i:Int) + (n:Int) by omega] at d0 d1 ⊢
 have hw:IntKind.i64.wrap ((i:Int) + (n:Int) - (n:Int)) = (i:Int):=by rw [wrapI _ (by omega) (by omega)];omega
 have a0:(0:Int)≤(i:Int):=by omega
 have a1:(i:Int)≤(i:Int) + (n:Int):=by omega
 have a2:(i:Int) + (n:Int)≤(s.size:Int):=by omega
 have a3:(0:Int)≤(i:Int) + (n:Int):=by omega
 have ht:((i:Int) + (n:Int)).toNat = i + n:=by omega
 clear h h2;go_enter Tryz.func167,Tryz.ntmps167;go_wp2_with fail
 go_quiet (fail)
 go_wp2_with fail;go_ret;exact ⟨rfl,_,rfl⟩
def restAt (s:ByteArray) (i:Nat):List UInt8:=s.data.toList.drop i
theorem extract_end (s:ByteArray) (k:Nat):(s.extract k s.size).data.toList = restAt s k:=by
 rw [Lib.extract_data,List.take_of_length_le (by rw [List.length_drop,lenB];exact Nat.le_refl _)];rfl
theorem restAt_len (s:ByteArray) (k:Nat):(restAt s k).length = s.size - k:=by rw [restAt,List.length_drop,lenB]
def escA (a:A) (c:UInt8):A:=if ((c.toNat:Int) == 10) then a else a.text [c] true
def seesB (l:List UInt8) (c:Nat):Bool:=match l with | []=>false | x :: _=>((x.toNat:Int) == (c:Int))
theorem restAt_cons {s:ByteArray} {i:Nat} (h:i < s.size):restAt s i = s.data.toList.getD i 0 :: restAt s (i + 1):=by
 have h':i < s.data.toList.length:=by rw [lenB];exact h
 rw [restAt,restAt,List.drop_eq_getElem_cons h',List.getD_eq_getElem?_getD,List.getElem?_eq_getElem h'];rfl
def slashR (ec:Nat) (l:List UInt8) (a:A):A × Nat :=
 if seesB l 10 then (a,2) else if seesB l 34 || seesB l 36 || seesB l 92 || seesB l 96 || seesB l ec then (a.text [l.headD 0] true,2) else (a.text [92] true,1)
end Lx
end Go.Proofs.YtjmpfihopeohbaaGreatDoor
namespace Go.Proofs.YtjmpfihopeohbaaGreatDoor
open Go.RowKit Go.Sort
namespace Lx
open Cls Pt
inductive Out where
 | ok (l:PL) (at':Nat)
 | bad (at' err:Nat)
def A0:A:=⟨.nil,none⟩
def stopB (d c:Nat):Bool:=(((d:Int) == 0) && !bareB c) || (decide (0 < d) && ((c:Int) == 125))
def byteAt (s:ByteArray) (i:Nat):UInt8:=s.data.toList.getD i 0
def nz (m:PL):PL:=match m with | .nil=>A.lit true [] | m=>m
def sufEq (o:List UInt8):Bool:=Lib.hasSuffix o [61]
mutual
def bareF:Nat→ByteArray→Nat→A→Nat→Out
 | 0,_,_,_,i=>.bad i 9
 | n + 1,s,d,a,i =>
  if s.size≤i then .ok a.flush i
  else if ((byteAt s i).toNat:Int) == 39 then
   if 0≤Lib.indexByte (restAt s (i + 1)) 39 then bareF n s d (a.text ((restAt s (i + 1)).take (Lib.indexByte (restAt s (i + 1)) 39).toNat) true) (i + (Lib.indexByte (restAt s (i + 1)) 39).toNat + 2) else .bad i 1
  else if ((byteAt s i).toNat:Int) == 34 then
   match markedF n s 34 d A0 (i + 1) with
   | .bad j e=>.bad j e
   | .ok m j=>if s.size≤j then .bad i 1 else bareF n s d (a.join (nz m)) (j + 1)
  else if ((byteAt s i).toNat:Int) == 92 then
   if s.size≤i + 1 then .bad i 1 else bareF n s d (escA a (byteAt s (i + 1))) (i + 2)
  else if ((byteAt s i).toNat:Int) == 96 then .bad i 1
  else if ((byteAt s i).toNat:Int) == 36 then
   match paramF n s false (d + 1) i with
   | .bad j e=>.bad j e
   | .ok p j=>bareF n s d (a.add p) j
  else if stopB d (byteAt s i).toNat then .ok a.flush i
  else bareF n s d (a.text [byteAt s i] false) (i + 1)
def markedF:Nat→ByteArray→Nat→Nat→A→Nat→Out
 | 0,_,_,_,_,i=>.bad i 9
 | n + 1,s,ec,d,a,i =>
  if s.size≤i then .ok a.flush i
  else if ((byteAt s i).toNat:Int) == (ec:Int) then .ok a.flush i
  else if ((byteAt s i).toNat:Int) == 34 || ((byteAt s i).toNat:Int) == 96 then .bad i 1
  else if ((byteAt s i).toNat:Int) == 36 then
   match paramF n s true (d + 1) i with
   | .bad j e=>.bad j e
   | .ok p j=>markedF n s ec d (a.add p) j
  else if ((byteAt s i).toNat:Int) == 92 then markedF n s ec d (slashR ec (restAt s (i + 1)) a).1 (i + (slashR ec (restAt s (i + 1)) a).2)
  else markedF n s ec d (a.text [byteAt s i] true) (i + 1)
def paramF:Nat→ByteArray→Bool→Nat→Nat→Out
 | 0,_,_,_,i=>.bad i 9
 | n + 1,s,q,d,i =>
  if 200 < d then .bad i 2
  else if seesB (restAt s (i + 1)) 123 then
   if !paramL ((restAt s (i + 2)).take (nameLen (restAt s (i + 2)) s.size)) || (sufEq ((restAt s (i + 2 + nameLen (restAt s (i + 2)) s.size)).take (opLen (restAt s (i + 2 + nameLen (restAt s (i + 2)) s.size)))) && !nameL ((restAt s (i + 2)).take (nameLen (restAt s (i + 2)) s.size))) then .bad i 1
   else if opLen (restAt s (i + 2 + nameLen (restAt s (i + 2)) s.size)) = 0 then
    if seesB (restAt s (i + 2 + nameLen (restAt s (i + 2)) s.size)) 125 then .ok (one 2 q (s.extract (i + 2) (i + 2 + nameLen (restAt s (i + 2)) s.size)) ⟨#[]⟩ .nil) (i + 2 + nameLen (restAt s (i + 2)) s.size + 1) else .bad i 1
   else match (if q then markedF n s 125 d A0 (i + 2 + nameLen (restAt s (i + 2)) s.size + opLen (restAt s (i + 2 + nameLen (restAt s (i + 2)) s.size))) else bareF n s d A0 (i + 2 + nameLen (restAt s (i + 2)) s.size + opLen (restAt s (i + 2 + nameLen (restAt s (i + 2)) s.size)))) with
    | .bad j e=>.bad j e
    | .ok f j=>if seesB (restAt s j) 125 then .ok (one 2 q (s.extract (i + 2) (i + 2 + nameLen (restAt s (i + 2)) s.size)) (s.extract (i + 2 + nameLen (restAt s (i + 2)) s.size) (i + 2 + nameLen (restAt s (i + 2)) s.size + opLen (restAt s (i + 2 + nameLen (restAt s (i + 2)) s.size)))) f) (j + 1) else .bad i 1
  else if nameLen (restAt s (i + 1)) 1 = 0 then .bad i 1
  else .ok (one 2 q (s.extract (i + 1) (i + 1 + nameLen (restAt s (i + 1)) 1)) ⟨#[]⟩ .nil) (i + 1 + nameLen (restAt s (i + 1)) 1)
end
end Lx
end Go.Proofs.YtjmpfihopeohbaaGreatDoor
