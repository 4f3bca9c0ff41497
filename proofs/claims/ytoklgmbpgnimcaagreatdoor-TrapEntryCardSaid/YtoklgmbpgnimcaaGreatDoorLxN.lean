/- (*lex.reader).param, given what is read behind an operator. -/
import Derived.Test.YtoklgmbpgnimcaaGreatDoorRegN
import Derived.Test.YtoklgmbpgnimcaaGreatDoorLxM
namespace Go.Proofs.YtoklgmbpgnimcaaGreatDoor
open Go.RowKit Go.Sort
namespace Lx
open Cls Pt
abbrev pz:Obj:=.cells #[.int .i64 0,.bool false,.string ⟨#[]⟩,.string ⟨#[]⟩,.slice none 0 0] 125
theorem RAt.pz {w:World} {rb i:Nat} {s:ByteArray} (h:RAt w rb s i):RAt (w.alloc pz) rb s i:=(((Below.refl w.heap.size w).alloc (Nat.le_refl _) _).block _ h.lt).trans h
set_option maxHeartbeats 400000 in
theorem param_zero (s:ByteArray):ParamAt s 0:=by
 intro q d i rb w hR hi hf hd
 omega
set_option maxHeartbeats 800000 in
set_option maxRecDepth 100000 in
theorem param_deep (s:ByteArray) (hs:s.size≤1000000) (q:Bool) (d i rb:Nat) (w:World) (hR:RAt w rb s i) (hd:200 < d) (hd2:d≤201) :
  Calls Tryz.prog 86 #[.pointer (some ⟨rb,0,none⟩),.bool q,.int .i64 d] w (GotP rb s q w (.bad i 2)):=by
 obtain rfl:d = 201:=by omega
 have c1:=hR.pz.c1
 have HR:=Lib.hid hR
 clear hR
 go_enter Tryz.func86,Tryz.ntmps86
 go_wp2_with fail
 refine ⟨rfl,?_⟩
 exact ⟨rfl,⟨_,HR.out.pz⟩,FrR.of_fr (Fr.of_below ((Below.refl w.heap.size w).alloc (Nat.le_refl _) _))⟩
def PZ (w:World) (b:Nat):Prop:=w.heap[b]? = some (.cells #[.int .i64 0,.bool false,.string ⟨#[]⟩,.string ⟨#[]⟩,.slice none 0 0] 125 (0,0))
theorem start_p (w:World) (rb i:Nat) (s:ByteArray) (q:Bool) (hR:RAt w rb s i) :
  RAt (((w.alloc (.cells #[.int .i64 0,.bool false,.string ⟨#[]⟩,.string ⟨#[]⟩,.slice none 0 0] 125)).setCell ⟨rb,1,none⟩ (.int .i64 ((i:Int) + 1))).alloc (.cells #[.int .i64 2,.bool q,.string ⟨#[]⟩,.string ⟨#[]⟩,.slice none 0 0] 125)) rb s (i + 1) ∧
  PB (((w.alloc (.cells #[.int .i64 0,.bool false,.string ⟨#[]⟩,.string ⟨#[]⟩,.slice none 0 0] 125)).setCell ⟨rb,1,none⟩ (.int .i64 ((i:Int) + 1))).alloc (.cells #[.int .i64 2,.bool q,.string ⟨#[]⟩,.string ⟨#[]⟩,.slice none 0 0] 125)) (w.heap.size + 1) q ⟨#[]⟩ ⟨#[]⟩ (.slice none 0 0) ∧
  PZ (((w.alloc (.cells #[.int .i64 0,.bool false,.string ⟨#[]⟩,.string ⟨#[]⟩,.slice none 0 0] 125)).setCell ⟨rb,1,none⟩ (.int .i64 ((i:Int) + 1))).alloc (.cells #[.int .i64 2,.bool q,.string ⟨#[]⟩,.string ⟨#[]⟩,.slice none 0 0] 125)) w.heap.size ∧
  FrR rb w.heap.size (fun _=>False) w (((w.alloc (.cells #[.int .i64 0,.bool false,.string ⟨#[]⟩,.string ⟨#[]⟩,.slice none 0 0] 125)).setCell ⟨rb,1,none⟩ (.int .i64 ((i:Int) + 1))).alloc (.cells #[.int .i64 2,.bool q,.string ⟨#[]⟩,.string ⟨#[]⟩,.slice none 0 0] 125)):=by
 have h1:RAt ((w.alloc pz).setCell ⟨rb,1,none⟩ (.int .i64 ((i:Int) + 1))) rb s (i + 1):=by
  have h:=hR.pz.set (i + 1)
  rw [show ((i + 1:Nat):Int) = (i:Int) + 1 by omega] at h
  exact h
 have f1:FrR rb w.heap.size (fun _=>False) w ((w.alloc pz).setCell ⟨rb,1,none⟩ (.int .i64 ((i:Int) + 1))) :=
  (FrR.of_fr (Fr.of_below ((Below.refl w.heap.size w).alloc (Nat.le_refl _) _))).set (fun h=>h) _ _
 have hsz:((w.alloc pz).setCell ⟨rb,1,none⟩ (.int .i64 ((i:Int) + 1))).heap.size = w.heap.size + 1:=by simp
 have hb:∀ o,Below ((w.alloc pz).setCell ⟨rb,1,none⟩ (.int .i64 ((i:Int) + 1))).heap.size ((w.alloc pz).setCell ⟨rb,1,none⟩ (.int .i64 ((i:Int) + 1))) (((w.alloc pz).setCell ⟨rb,1,none⟩ (.int .i64 ((i:Int) + 1))).alloc o):=fun o=>(Below.refl _ _).alloc (Nat.le_refl _) o
 have hlt:=hR.lt
 have h:∀ (W:World) (o:Obj),(W.alloc o).heap[W.heap.size]? = some o:=fun W o=>by
  show (W.heap.push o)[W.heap.size]? = some o
  exact Array.getElem?_push_size
 refine ⟨((hb _).block _ h1.lt).trans h1,?_,((hb _).block w.heap.size (by rw [hsz];omega)).trans ((Below.heap_setCell _ _ _ _ (by show w.heap.size ≠ rb;omega)).trans (h w _)),f1.trans (FrR.of_fr (Fr.of_below ((hb _).mono (by rw [hsz];omega))))⟩
 have h2:=h ((w.alloc pz).setCell ⟨rb,1,none⟩ (.int .i64 ((i:Int) + 1))) (.cells #[.int .i64 2,.bool q,.string ⟨#[]⟩,.string ⟨#[]⟩,.slice none 0 0] 125)
 rw [hsz] at h2
 exact h2
set_option maxHeartbeats 800000 in
set_option maxRecDepth 100000 in
theorem param_bracket (s:ByteArray) (hs:s.size≤1000000) (n:Nat) (IHO:OfAt s n) (q:Bool) (d i rb:Nat) (w:World) (hR:RAt w rb s i) (hi:i < s.size) (hf:s.size - i < n + 2) (hd:d≤200) (h123:seesB (restAt s (i + 1)) 123 = true) :
  Calls Tryz.prog 86 #[.pointer (some ⟨rb,0,none⟩),.bool q,.int .i64 d] w (GotP rb s q w (bracketF n s q d i)):=by
 have c1:=hR.pz.c1
 have f1:=hR.pz.f1
 have hdd:((d:Int) > 200) = False:=by simp;omega
 have hi2:i + 2≤s.size:=by
  have h1:(restAt s (i + 1)).length ≠ 0:=by
   intro h0
   rw [List.length_eq_zero_iff] at h0
   rw [h0] at h123
   simp [seesB] at h123
  rw [restAt_len] at h1
  omega
 have hlt:=hR.lt
 have hst:=start_p w rb i s q hR
 have hB:=fun W h1 h2=>bracket_step s hs n IHO q d i rb (w.heap.size + 1) W h1 hi2 hf hd h2 (by omega)
 have HST:=Lib.hid hst;have HLT:=Lib.hid hlt
 clear hR hst hlt
 cases ho:bracketF n s q d i with
 | bad j err =>
  rw [ho] at hB
  have HB:=Lib.hid hB
  clear hB ho IHO
  go_enter Tryz.func86,Tryz.ntmps86
  go_wp2_with fail
  have hst:=HST.out
  generalize (((w.alloc (.cells #[.int .i64 0,.bool false,.string ⟨#[]⟩,.string ⟨#[]⟩,.slice none 0 0] 125)).setCell ⟨rb,1,none⟩ (.int .i64 ((i:Int) + 1))).alloc (.cells #[.int .i64 2,.bool q,.string ⟨#[]⟩,.string ⟨#[]⟩,.slice none 0 0] 125)) = W2 at hst ⊢
  obtain ⟨hr2,hp2,hz2,hf2⟩:=hst
  clear c1 f1
  have hsee:=sees_drawn0 rb (i + 1) 123 s W2 hr2 (by omega) hs
  rw [h123] at hsee
  have v1:=hr2.c1
  have v1f:=hr2.f1
  rw [show ((i + 1:Nat):Int) = (i:Int) + 1 by omega] at v1
  have hset:=hr2.set (i + 2)
  rw [show ((i + 2:Nat):Int) = (i:Int) + 1 + 1 by omega] at hset
  have hpset:PB (W2.setCell ⟨rb,1,none⟩ (.int .i64 ((i:Int) + 1 + 1))) (w.heap.size + 1) q ⟨#[]⟩ ⟨#[]⟩ (.slice none 0 0):=(Below.heap_setCell _ _ _ _ (by have:=HLT.out;show w.heap.size + 1 ≠ rb;omega)).trans hp2
  have hfset:FrR rb w.heap.size (fun _=>False) w (W2.setCell ⟨rb,1,none⟩ (.int .i64 ((i:Int) + 1 + 1))):=hf2.set (fun h=>h) _ _
  have hzset:PZ (W2.setCell ⟨rb,1,none⟩ (.int .i64 ((i:Int) + 1 + 1))) w.heap.size:=(Below.heap_setCell _ _ _ _ (by have:=HLT.out;show w.heap.size ≠ rb;omega)).trans hz2
  have HS:=Lib.hid (And.intro hset (And.intro hpset (And.intro hzset hfset)));have HSEE:=Lib.hid hsee
  clear hset hpset hfset hzset hr2 hp2 hz2 hf2 HST hsee
  refine (HSEE.out).mono ?_
  rintro e w6 ⟨rfl,n6,rfl⟩
  go_wp2_with fail
  refine (HB.out ((W2.drewN n6).setCell ⟨rb,1,none⟩ (.int .i64 ((i:Int) + 1 + 1))) HS.out.1 HS.out.2.1).mono ?_
  rintro e w7 ⟨rfl,hj,hf7⟩
  have HX:=Lib.hid (And.intro hj hf7)
  clear hj hf7
  go_wp2_with fail
  refine ⟨rfl,rfl,HX.out.1,?_⟩
  refine HS.out.2.2.2.trans ?_
  have hx:=HX.out.2
  exact ⟨hx.os,hx.tape,hx.output,hx.size,fun b hb ho=>hx.block b hb (ho.imp (fun h=>⟨by omega,h.2⟩) id)⟩
 | ok p j =>
  rw [ho] at hB
  have HB:=Lib.hid hB
  clear hB ho IHO
  go_enter Tryz.func86,Tryz.ntmps86
  go_wp2_with fail
  have hst:=HST.out
  generalize (((w.alloc (.cells #[.int .i64 0,.bool false,.string ⟨#[]⟩,.string ⟨#[]⟩,.slice none 0 0] 125)).setCell ⟨rb,1,none⟩ (.int .i64 ((i:Int) + 1))).alloc (.cells #[.int .i64 2,.bool q,.string ⟨#[]⟩,.string ⟨#[]⟩,.slice none 0 0] 125)) = W2 at hst ⊢
  obtain ⟨hr2,hp2,hz2,hf2⟩:=hst
  clear c1 f1
  have hsee:=sees_drawn0 rb (i + 1) 123 s W2 hr2 (by omega) hs
  rw [h123] at hsee
  have v1:=hr2.c1
  have v1f:=hr2.f1
  rw [show ((i + 1:Nat):Int) = (i:Int) + 1 by omega] at v1
  have hset:=hr2.set (i + 2)
  rw [show ((i + 2:Nat):Int) = (i:Int) + 1 + 1 by omega] at hset
  have hpset:PB (W2.setCell ⟨rb,1,none⟩ (.int .i64 ((i:Int) + 1 + 1))) (w.heap.size + 1) q ⟨#[]⟩ ⟨#[]⟩ (.slice none 0 0):=(Below.heap_setCell _ _ _ _ (by have:=HLT.out;show w.heap.size + 1 ≠ rb;omega)).trans hp2
  have hfset:FrR rb w.heap.size (fun _=>False) w (W2.setCell ⟨rb,1,none⟩ (.int .i64 ((i:Int) + 1 + 1))):=hf2.set (fun h=>h) _ _
  have hzset:PZ (W2.setCell ⟨rb,1,none⟩ (.int .i64 ((i:Int) + 1 + 1))) w.heap.size:=(Below.heap_setCell _ _ _ _ (by have:=HLT.out;show w.heap.size ≠ rb;omega)).trans hz2
  have HS:=Lib.hid (And.intro hset (And.intro hpset (And.intro hzset hfset)));have HSEE:=Lib.hid hsee
  clear hset hpset hfset hzset hr2 hp2 hz2 hf2 HST hsee
  refine (HSEE.out).mono ?_
  rintro e w6 ⟨rfl,n6,rfl⟩
  go_wp2_with fail
  refine (HB.out ((W2.drewN n6).setCell ⟨rb,1,none⟩ (.int .i64 ((i:Int) + 1 + 1))) HS.out.1 HS.out.2.1).mono ?_
  rintro e w7 ⟨⟨t,op,f,a,cap,rfl,rfl,ht,hop,hp7,hl7⟩,hr7,hf7⟩
  have k0:=zc0 hp7
  have k1:=zc1 hp7
  have k2:=zc2 hp7
  have k3:=zc3 hp7
  have k4:=zc4 hp7
  have hz7:PZ w7 w.heap.size:=(hf7.block w.heap.size (Array.getElem?_eq_some_iff.1 HS.out.2.2.1).1 (.inl ⟨by omega,by have:=HLT.out;omega⟩)).trans HS.out.2.2.1
  have z0:=zc0 hz7
  have z1:=zc1 hz7
  have z2:=zc2 hz7
  have z3:=zc3 hz7
  have z4:=zc4 hz7
  have y0:=zf 0 hz7
  have y1:=zf 1 hz7
  have y2:=zf 2 hz7
  have y3:=zf 3 hz7
  have y4:=zf 4 hz7
  have HX:=Lib.hid (And.intro hl7 (And.intro hr7 (And.intro hz7 hf7)))
  clear hl7 hr7 hf7 hp7 hz7
  go_wp2_with fail
  obtain ⟨hl7,hr7,hz7,hf7⟩:=HX.out
  have hlt:=HLT.out
  have hblk:∀ b,b ≠ w.heap.size→(((((w7.setCell ⟨w.heap.size,0,none⟩ (.int .i64 2)).setCell ⟨w.heap.size,1,none⟩ (.bool q)).setCell ⟨w.heap.size,2,none⟩ (.string t)).setCell ⟨w.heap.size,3,none⟩ (.string op)).setCell ⟨w.heap.size,4,none⟩ (.slice a f.len cap)).heap[b]? = w7.heap[b]?:=fun b hb =>
   (Below.heap_setCell _ _ _ _ hb).trans <| (Below.heap_setCell _ _ _ _ hb).trans <| (Below.heap_setCell _ _ _ _ hb).trans <| (Below.heap_setCell _ _ _ _ hb).trans <| Below.heap_setCell _ _ _ _ hb
  have hrow:PB (((((w7.setCell ⟨w.heap.size,0,none⟩ (.int .i64 2)).setCell ⟨w.heap.size,1,none⟩ (.bool q)).setCell ⟨w.heap.size,2,none⟩ (.string t)).setCell ⟨w.heap.size,3,none⟩ (.string op)).setCell ⟨w.heap.size,4,none⟩ (.slice a f.len cap)) w.heap.size q t op (.slice a f.len cap) :=
   heap_setCell_same _ _ 4 _ _ (.slice a f.len cap) (heap_setCell_same _ _ 3 _ _ (.string op) (heap_setCell_same _ _ 2 _ _ (.string t) (heap_setCell_same _ _ 1 _ _ (.bool q) (heap_setCell_same _ _ 0 _ _ (.int .i64 2) hz7))))
  have hfr:FrR rb w.heap.size (fun _=>False) w (((((w7.setCell ⟨w.heap.size,0,none⟩ (.int .i64 2)).setCell ⟨w.heap.size,1,none⟩ (.bool q)).setCell ⟨w.heap.size,2,none⟩ (.string t)).setCell ⟨w.heap.size,3,none⟩ (.string op)).setCell ⟨w.heap.size,4,none⟩ (.slice a f.len cap)) :=
   HS.out.2.2.2.trans ⟨hf7.os,hf7.tape,hf7.output,by simpa using hf7.size,fun b hb ho=>by
    rcases ho with ho | ho
    ·exact (hblk b (by omega)).trans (hf7.block b hb (.inl ⟨by omega,ho.2⟩))
    ·exact ho.elim⟩
  have hrr:RAt (((((w7.setCell ⟨w.heap.size,0,none⟩ (.int .i64 2)).setCell ⟨w.heap.size,1,none⟩ (.bool q)).setCell ⟨w.heap.size,2,none⟩ (.string t)).setCell ⟨w.heap.size,3,none⟩ (.string op)).setCell ⟨w.heap.size,4,none⟩ (.slice a f.len cap)) rb s j:=(hblk rb (by omega)).trans hr7
  have hW2:w.heap.size < W2.heap.size:=by
   have h:=(Array.getElem?_eq_some_iff.1 HS.out.2.2.1).1
   simpa using h
  have hll:LiesS (fun b=>w.heap.size≤b) (((((w7.setCell ⟨w.heap.size,0,none⟩ (.int .i64 2)).setCell ⟨w.heap.size,1,none⟩ (.bool q)).setCell ⟨w.heap.size,2,none⟩ (.string t)).setCell ⟨w.heap.size,3,none⟩ (.string op)).setCell ⟨w.heap.size,4,none⟩ (.slice a f.len cap)) a cap f :=
   (hl7.keep (by simp) fun b hb _=>hblk b (by simp at hb;omega)).mono (fun b hb _=>by simp at hb;omega)
  generalize (((((w7.setCell ⟨w.heap.size,0,none⟩ (.int .i64 2)).setCell ⟨w.heap.size,1,none⟩ (.bool q)).setCell ⟨w.heap.size,2,none⟩ (.string t)).setCell ⟨w.heap.size,3,none⟩ (.string op)).setCell ⟨w.heap.size,4,none⟩ (.slice a f.len cap)) = WE at hrow hfr hrr hll ⊢
  have x0:=zc0 hrow
  have x1:=zc1 hrow
  have x2:=zc2 hrow
  have x3:=zc3 hrow
  have x4:=zc4 hrow
  refine bodyPost_ret (v:=pv 2 q t op a f.len cap) (by simp [results,Tryz.results86,go_sem,x0,x1,x2,x3,x4,pv]) rfl ?_
  exact ⟨⟨t,op,f,a,cap,rfl,rfl,ht,hop,hll⟩,hrr,hfr⟩
end Lx
end Go.Proofs.YtoklgmbpgnimcaaGreatDoor
