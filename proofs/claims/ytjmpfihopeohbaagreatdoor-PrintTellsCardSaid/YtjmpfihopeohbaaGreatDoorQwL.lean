/- The writer's command, kind by kind. -/
import Derived.Test.YtjmpfihopeohbaaGreatDoorQwI
set_option maxHeartbeats 400000
set_option maxRecDepth 100000
namespace Go.Proofs.YtjmpfihopeohbaaGreatDoor
open Go.RowKit Go.Sort
namespace Pw
open Cls Pt Tr Pr
open Ps (ND)
theorem command_1 (w0:World) (nm:ByteArray) (g:Bool) (n1 n2 n3 n4 n5:Nat) (a1 c1 a2 c2 a3 c3 a4 c4 a5 c5) (acc t:T) (w:World)
  (hc:∀ w1,Out w0 acc w1→Calls Tryz.prog 60 #[.pointer (some ⟨w0.heap.size,0,none⟩),.agg #[.int .i64 1,.string nm,.bool g,.slice a1 n1 c1,.slice a2 n2 c2,.slice a3 n3 c3,.slice a4 n4 c4,.slice a5 n5 c5]] w1 (Wrote w0.heap.size (acc ++ t) w1)) (ho:Out w0 acc w) :
  Calls Tryz.prog 41 #[.pointer (some ⟨w0.heap.size,0,none⟩),.agg #[.int .i64 1,.string nm,.bool g,.slice a1 n1 c1,.slice a2 n2 c2,.slice a3 n3 c3,.slice a4 n4 c4,.slice a5 n5 c5]] w (Wrote w0.heap.size (acc ++ t) w):=by
 have HC:=Lib.hid (hc (w.alloc (.cells #[.int .i64 1,.string nm,.bool g,.slice a1 n1 c1,.slice a2 n2 c2,.slice a3 n3 c3,.slice a4 n4 c4,.slice a5 n5 c5] 28)) (ho.below (bel1 _ _)));have HO:=Lib.hid ho;clear hc ho;unfold Wrote;go_enter Tryz.func41,Tryz.ntmps41;go_wp2_with (go_at_call 60;refine (HC.out).mono ?_;rintro e w2 ⟨rfl,h3,h4⟩);go_end0;exact ⟨rfl,h3,(Pb.Kept.of_below (bel1 _ _) (Nat.le_of_lt HO.out.is.lt)).trans h4⟩
theorem command_5 (w0:World) (nm:ByteArray) (g:Bool) (n1 n2 n3 n4 n5:Nat) (a1 c1 a2 c2 a3 c3 a4 c4 a5 c5) (acc t:T) (w:World)
  (hc:∀ w1,Out w0 acc w1→Calls Tryz.prog 61 #[.pointer (some ⟨w0.heap.size,0,none⟩),.agg #[.int .i64 5,.string nm,.bool g,.slice a1 n1 c1,.slice a2 n2 c2,.slice a3 n3 c3,.slice a4 n4 c4,.slice a5 n5 c5]] w1 (Wrote w0.heap.size (acc ++ t) w1)) (ho:Out w0 acc w) :
  Calls Tryz.prog 41 #[.pointer (some ⟨w0.heap.size,0,none⟩),.agg #[.int .i64 5,.string nm,.bool g,.slice a1 n1 c1,.slice a2 n2 c2,.slice a3 n3 c3,.slice a4 n4 c4,.slice a5 n5 c5]] w (Wrote w0.heap.size (acc ++ t) w):=by
 have HC:=Lib.hid (hc (w.alloc (.cells #[.int .i64 5,.string nm,.bool g,.slice a1 n1 c1,.slice a2 n2 c2,.slice a3 n3 c3,.slice a4 n4 c4,.slice a5 n5 c5] 28)) (ho.below (bel1 _ _)));have HO:=Lib.hid ho;clear hc ho;unfold Wrote;go_enter Tryz.func41,Tryz.ntmps41;go_wp2_with (go_at_call 61;refine (HC.out).mono ?_;rintro e w2 ⟨rfl,h3,h4⟩);go_end0;exact ⟨rfl,h3,(Pb.Kept.of_below (bel1 _ _) (Nat.le_of_lt HO.out.is.lt)).trans h4⟩
theorem command_6 (w0:World) (nm:ByteArray) (g:Bool) (n1 n2 n3 n4 n5:Nat) (a1 c1 a2 c2 a3 c3 a4 c4 a5 c5) (acc t:T) (w:World)
  (hc:∀ w1,Out w0 acc w1→Calls Tryz.prog 62 #[.pointer (some ⟨w0.heap.size,0,none⟩),.agg #[.int .i64 6,.string nm,.bool g,.slice a1 n1 c1,.slice a2 n2 c2,.slice a3 n3 c3,.slice a4 n4 c4,.slice a5 n5 c5]] w1 (Wrote w0.heap.size (acc ++ t) w1)) (ho:Out w0 acc w) :
  Calls Tryz.prog 41 #[.pointer (some ⟨w0.heap.size,0,none⟩),.agg #[.int .i64 6,.string nm,.bool g,.slice a1 n1 c1,.slice a2 n2 c2,.slice a3 n3 c3,.slice a4 n4 c4,.slice a5 n5 c5]] w (Wrote w0.heap.size (acc ++ t) w):=by
 have HC:=Lib.hid (hc (w.alloc (.cells #[.int .i64 6,.string nm,.bool g,.slice a1 n1 c1,.slice a2 n2 c2,.slice a3 n3 c3,.slice a4 n4 c4,.slice a5 n5 c5] 28)) (ho.below (bel1 _ _)));have HO:=Lib.hid ho;clear hc ho;unfold Wrote;go_enter Tryz.func41,Tryz.ntmps41;go_wp2_with (go_at_call 62;refine (HC.out).mono ?_;rintro e w2 ⟨rfl,h3,h4⟩);go_end0;exact ⟨rfl,h3,(Pb.Kept.of_below (bel1 _ _) (Nat.le_of_lt HO.out.is.lt)).trans h4⟩
theorem command_9 (w0:World) (nm:ByteArray) (g:Bool) (n1 n2 n3 n4 n5:Nat) (a1 c1 a2 c2 a3 c3 a4 c4 a5 c5) (acc t:T) (w:World)
  (hc:∀ w1,Out w0 acc w1→Calls Tryz.prog 63 #[.pointer (some ⟨w0.heap.size,0,none⟩),.agg #[.int .i64 9,.string nm,.bool g,.slice a1 n1 c1,.slice a2 n2 c2,.slice a3 n3 c3,.slice a4 n4 c4,.slice a5 n5 c5]] w1 (Wrote w0.heap.size (acc ++ t) w1)) (ho:Out w0 acc w) :
  Calls Tryz.prog 41 #[.pointer (some ⟨w0.heap.size,0,none⟩),.agg #[.int .i64 9,.string nm,.bool g,.slice a1 n1 c1,.slice a2 n2 c2,.slice a3 n3 c3,.slice a4 n4 c4,.slice a5 n5 c5]] w (Wrote w0.heap.size (acc ++ t) w):=by
 have HC:=Lib.hid (hc (w.alloc (.cells #[.int .i64 9,.string nm,.bool g,.slice a1 n1 c1,.slice a2 n2 c2,.slice a3 n3 c3,.slice a4 n4 c4,.slice a5 n5 c5] 28)) (ho.below (bel1 _ _)));have HO:=Lib.hid ho;clear hc ho;unfold Wrote;go_enter Tryz.func41,Tryz.ntmps41;go_wp2_with (go_at_call 63;refine (HC.out).mono ?_;rintro e w2 ⟨rfl,h3,h4⟩);go_end0;exact ⟨rfl,h3,(Pb.Kept.of_below (bel1 _ _) (Nat.le_of_lt HO.out.is.lt)).trans h4⟩
theorem command_10 (w0:World) (nm:ByteArray) (g:Bool) (n1 n2 n3 n4 n5:Nat) (a1 c1 a2 c2 a3 c3 a4 c4 a5 c5) (acc t:T) (w:World)
  (hc:∀ w1,Out w0 acc w1→Calls Tryz.prog 64 #[.pointer (some ⟨w0.heap.size,0,none⟩),.agg #[.int .i64 10,.string nm,.bool g,.slice a1 n1 c1,.slice a2 n2 c2,.slice a3 n3 c3,.slice a4 n4 c4,.slice a5 n5 c5]] w1 (Wrote w0.heap.size (acc ++ t) w1)) (ho:Out w0 acc w) :
  Calls Tryz.prog 41 #[.pointer (some ⟨w0.heap.size,0,none⟩),.agg #[.int .i64 10,.string nm,.bool g,.slice a1 n1 c1,.slice a2 n2 c2,.slice a3 n3 c3,.slice a4 n4 c4,.slice a5 n5 c5]] w (Wrote w0.heap.size (acc ++ t) w):=by
 have HC:=Lib.hid (hc (w.alloc (.cells #[.int .i64 10,.string nm,.bool g,.slice a1 n1 c1,.slice a2 n2 c2,.slice a3 n3 c3,.slice a4 n4 c4,.slice a5 n5 c5] 28)) (ho.below (bel1 _ _)));have HO:=Lib.hid ho;clear hc ho;unfold Wrote;go_enter Tryz.func41,Tryz.ntmps41;go_wp2_with (go_at_call 64;refine (HC.out).mono ?_;rintro e w2 ⟨rfl,h3,h4⟩);go_end0;exact ⟨rfl,h3,(Pb.Kept.of_below (bel1 _ _) (Nat.le_of_lt HO.out.is.lt)).trans h4⟩
theorem command_4 (w0:World) (M:Nat) (hW:WriteAt w0 M) (ks:NL) (nm:ByteArray) (g:Bool) (n1 n2 n4 n5:Nat) (a1 c1 a2 c2 a3 c3 a4 c4 a5 c5) (acc t:T) (w:World)
  (hR:KidsR M ks) (hkl:ks.len = 1) (hk:NLies w0 a3 c3 ks) (ho:Out w0 acc w) (ht:t = ([33,32]:T) ++ (at0 (txt ks) 0)) (hl:acc.length + t.length≤400000) :
  Calls Tryz.prog 41 #[.pointer (some ⟨w0.heap.size,0,none⟩),.agg #[.int .i64 4,.string nm,.bool g,.slice a1 n1 c1,.slice a2 n2 c2,.slice a3 1 c3,.slice a4 n4 c4,.slice a5 n5 c5]] w (Wrote w0.heap.size (acc ++ t) w):=by
 have HW:=Lib.hid hW;have HR:=Lib.hid hR;have HKS:=Lib.hid hk;have HO:=Lib.hid ho;clear hW hR hk ho;unfold Wrote;have hrow:=heap_new' w (.cells #[.int .i64 4,.string nm,.bool g,.slice a1 n1 c1,.slice a2 n2 c2,.slice a3 1 c3,.slice a4 n4 c4,.slice a5 n5 c5] 28);have hbw:=bel1 w (.cells #[.int .i64 4,.string nm,.bool g,.slice a1 n1 c1,.slice a2 n2 c2,.slice a3 1 c3,.slice a4 n4 c4,.slice a5 n5 c5] 28);have hk0:=Pb.Kept.of_below hbw (Nat.le_of_lt HO.out.is.lt);have ho1:=HO.out.below hbw;have hsz:(w.alloc (.cells #[.int .i64 4,.string nm,.bool g,.slice a1 n1 c1,.slice a2 n2 c2,.slice a3 1 c3,.slice a4 n4 c4,.slice a5 n5 c5] 28)).heap.size = w.heap.size + 1:=by simp
 have HROW:=Lib.hid hrow;have HK0:=Lib.hid hk0;have HO1:=Lib.hid ho1;have HSZ:=Lib.hid hsz;clear hrow hk0 ho1 hbw hsz;obtain ⟨kA,nmA,gA,azA,wsA,ksA,bsA,czA,rA,hdA⟩:=NL.drop_node (show 0 < ks.len by omega) HR.out.ok;obtain ⟨bA,oA,eA,hbA,x1A,d1A,x2A,d2A,x3A,d3A,x4A,d4A,x5A,d5A,hcA,hhA⟩:=HKS.out.getN HR.out.ok hdA;obtain rfl:=eA;have cA0:(w.alloc (.cells #[.int .i64 4,.string nm,.bool g,.slice a1 n1 c1,.slice a2 n2 c2,.slice (some ⟨bA,oA,none⟩) 1 c3,.slice a4 n4 c4,.slice a5 n5 c5] 28)).cell? ⟨bA,oA,none⟩ = some (.int .i64 kA):=cell_below HO1.out.b (hcA 0 _ rfl);have cA1:(w.alloc (.cells #[.int .i64 4,.string nm,.bool g,.slice a1 n1 c1,.slice a2 n2 c2,.slice (some ⟨bA,oA,none⟩) 1 c3,.slice a4 n4 c4,.slice a5 n5 c5] 28)).cell? ⟨bA,oA + 1,none⟩ = some (.string nmA):=cell_below HO1.out.b (hcA 1 _ rfl);have cA2:(w.alloc (.cells #[.int .i64 4,.string nm,.bool g,.slice a1 n1 c1,.slice a2 n2 c2,.slice (some ⟨bA,oA,none⟩) 1 c3,.slice a4 n4 c4,.slice a5 n5 c5] 28)).cell? ⟨bA,oA + 2,none⟩ = some (.bool gA):=cell_below HO1.out.b (hcA 2 _ rfl);have cA3:(w.alloc (.cells #[.int .i64 4,.string nm,.bool g,.slice a1 n1 c1,.slice a2 n2 c2,.slice (some ⟨bA,oA,none⟩) 1 c3,.slice a4 n4 c4,.slice a5 n5 c5] 28)).cell? ⟨bA,oA + 3,none⟩ = some (.slice x1A azA.length d1A):=cell_below HO1.out.b (hcA 3 _ rfl);have cA4:(w.alloc (.cells #[.int .i64 4,.string nm,.bool g,.slice a1 n1 c1,.slice a2 n2 c2,.slice (some ⟨bA,oA,none⟩) 1 c3,.slice a4 n4 c4,.slice a5 n5 c5] 28)).cell? ⟨bA,oA + 4,none⟩ = some (.slice x2A wsA.length d2A):=cell_below HO1.out.b (hcA 4 _ rfl);have cA5:(w.alloc (.cells #[.int .i64 4,.string nm,.bool g,.slice a1 n1 c1,.slice a2 n2 c2,.slice (some ⟨bA,oA,none⟩) 1 c3,.slice a4 n4 c4,.slice a5 n5 c5] 28)).cell? ⟨bA,oA + 5,none⟩ = some (.slice x3A ksA.len d3A):=cell_below HO1.out.b (hcA 5 _ rfl);have cA6:(w.alloc (.cells #[.int .i64 4,.string nm,.bool g,.slice a1 n1 c1,.slice a2 n2 c2,.slice (some ⟨bA,oA,none⟩) 1 c3,.slice a4 n4 c4,.slice a5 n5 c5] 28)).cell? ⟨bA,oA + 6,none⟩ = some (.slice x4A bsA.length d4A):=cell_below HO1.out.b (hcA 6 _ rfl);have cA7:(w.alloc (.cells #[.int .i64 4,.string nm,.bool g,.slice a1 n1 c1,.slice a2 n2 c2,.slice (some ⟨bA,oA,none⟩) 1 c3,.slice a4 n4 c4,.slice a5 n5 c5] 28)).cell? ⟨bA,oA + 7,none⟩ = some (.slice x5A czA.len d5A):=cell_below HO1.out.b (hcA 7 _ rfl);rw [at0_drop hdA] at ht;have hlA:=congrArg List.length ht;simp only [List.length_append,List.length_cons,List.length_nil] at hlA;have hnm:=lenB nm
 have hCall:=fun w' (h:Out w0 acc w')=>write_row HW.out [.str ⟨#[33,32]⟩,.node ⟨kA,nmA,gA,azA,wsA,ksA,bsA,czA⟩] [.iface 9 (.string ⟨#[33,32]⟩),.iface 28 (.agg #[.int .i64 kA,.string nmA,.bool gA,.slice x1A azA.length d1A,.slice x2A wsA.length d2A,.slice x3A ksA.len d3A,.slice x4A bsA.length d4A,.slice x5A czA.len d5A])] acc w' (by
  intro p hp;simp only [List.mem_cons,List.not_mem_nil,or_false] at hp;rcases hp with rfl | rfl
  ·exact ⟨HR.out.pos,trivial⟩
  ·exact HR.out.at hdA) (.cons rfl (.cons ⟨_,_,_,_,_,_,_,_,_,_,rfl,hhA⟩ .nil)) (by simp) h (by
  simp only [pcsT,pcT,List.map_cons,List.map_nil,List.flatten_cons,List.flatten_nil,List.length_append,List.length_cons,List.length_nil] at hlA ⊢;omega)
 have hC:=hCall _ HO1.out;have hsz:=HSZ.out;rw [hsz] at hC;have HCALL:=Lib.hid hC;have HT:=Lib.hid ht;clear hCall hC hsz hl ht hlA hkl hnm hhA hdA hcA;go_enter Tryz.func41,Tryz.ntmps41;go_wp2_with (go_at_call 19;refine (HCALL.out).mono ?_;rintro e w2 ⟨rfl,h3,h4⟩);go_end0;refine ⟨rfl,?_,HK0.out.trans h4⟩;rw [HT.out];simpa [pcsT,pcT,List.append_assoc] using h3
theorem command_11 (w0:World) (M:Nat) (hW:WriteAt w0 M) (ks:NL) (nm:ByteArray) (g:Bool) (n1 n2 n4 n5:Nat) (a1 c1 a2 c2 a3 c3 a4 c4 a5 c5) (acc t:T) (w:World)
  (hR:KidsR M ks) (hkl:ks.len = 1) (hk:NLies w0 a3 c3 ks) (ho:Out w0 acc w) (ht:t = ([123,32]:T) ++ (at0 (txt ks) 0 ++ (([125]:T)))) (hl:acc.length + t.length≤400000) :
  Calls Tryz.prog 41 #[.pointer (some ⟨w0.heap.size,0,none⟩),.agg #[.int .i64 11,.string nm,.bool g,.slice a1 n1 c1,.slice a2 n2 c2,.slice a3 1 c3,.slice a4 n4 c4,.slice a5 n5 c5]] w (Wrote w0.heap.size (acc ++ t) w):=by
 have HW:=Lib.hid hW;have HR:=Lib.hid hR;have HKS:=Lib.hid hk;have HO:=Lib.hid ho;clear hW hR hk ho;unfold Wrote;have hrow:=heap_new' w (.cells #[.int .i64 11,.string nm,.bool g,.slice a1 n1 c1,.slice a2 n2 c2,.slice a3 1 c3,.slice a4 n4 c4,.slice a5 n5 c5] 28);have hbw:=bel1 w (.cells #[.int .i64 11,.string nm,.bool g,.slice a1 n1 c1,.slice a2 n2 c2,.slice a3 1 c3,.slice a4 n4 c4,.slice a5 n5 c5] 28);have hk0:=Pb.Kept.of_below hbw (Nat.le_of_lt HO.out.is.lt);have ho1:=HO.out.below hbw;have hsz:(w.alloc (.cells #[.int .i64 11,.string nm,.bool g,.slice a1 n1 c1,.slice a2 n2 c2,.slice a3 1 c3,.slice a4 n4 c4,.slice a5 n5 c5] 28)).heap.size = w.heap.size + 1:=by simp
 have HROW:=Lib.hid hrow;have HK0:=Lib.hid hk0;have HO1:=Lib.hid ho1;have HSZ:=Lib.hid hsz;clear hrow hk0 ho1 hbw hsz;obtain ⟨kA,nmA,gA,azA,wsA,ksA,bsA,czA,rA,hdA⟩:=NL.drop_node (show 0 < ks.len by omega) HR.out.ok;obtain ⟨bA,oA,eA,hbA,x1A,d1A,x2A,d2A,x3A,d3A,x4A,d4A,x5A,d5A,hcA,hhA⟩:=HKS.out.getN HR.out.ok hdA;obtain rfl:=eA;have cA0:(w.alloc (.cells #[.int .i64 11,.string nm,.bool g,.slice a1 n1 c1,.slice a2 n2 c2,.slice (some ⟨bA,oA,none⟩) 1 c3,.slice a4 n4 c4,.slice a5 n5 c5] 28)).cell? ⟨bA,oA,none⟩ = some (.int .i64 kA):=cell_below HO1.out.b (hcA 0 _ rfl);have cA1:(w.alloc (.cells #[.int .i64 11,.string nm,.bool g,.slice a1 n1 c1,.slice a2 n2 c2,.slice (some ⟨bA,oA,none⟩) 1 c3,.slice a4 n4 c4,.slice a5 n5 c5] 28)).cell? ⟨bA,oA + 1,none⟩ = some (.string nmA):=cell_below HO1.out.b (hcA 1 _ rfl);have cA2:(w.alloc (.cells #[.int .i64 11,.string nm,.bool g,.slice a1 n1 c1,.slice a2 n2 c2,.slice (some ⟨bA,oA,none⟩) 1 c3,.slice a4 n4 c4,.slice a5 n5 c5] 28)).cell? ⟨bA,oA + 2,none⟩ = some (.bool gA):=cell_below HO1.out.b (hcA 2 _ rfl);have cA3:(w.alloc (.cells #[.int .i64 11,.string nm,.bool g,.slice a1 n1 c1,.slice a2 n2 c2,.slice (some ⟨bA,oA,none⟩) 1 c3,.slice a4 n4 c4,.slice a5 n5 c5] 28)).cell? ⟨bA,oA + 3,none⟩ = some (.slice x1A azA.length d1A):=cell_below HO1.out.b (hcA 3 _ rfl);have cA4:(w.alloc (.cells #[.int .i64 11,.string nm,.bool g,.slice a1 n1 c1,.slice a2 n2 c2,.slice (some ⟨bA,oA,none⟩) 1 c3,.slice a4 n4 c4,.slice a5 n5 c5] 28)).cell? ⟨bA,oA + 4,none⟩ = some (.slice x2A wsA.length d2A):=cell_below HO1.out.b (hcA 4 _ rfl);have cA5:(w.alloc (.cells #[.int .i64 11,.string nm,.bool g,.slice a1 n1 c1,.slice a2 n2 c2,.slice (some ⟨bA,oA,none⟩) 1 c3,.slice a4 n4 c4,.slice a5 n5 c5] 28)).cell? ⟨bA,oA + 5,none⟩ = some (.slice x3A ksA.len d3A):=cell_below HO1.out.b (hcA 5 _ rfl);have cA6:(w.alloc (.cells #[.int .i64 11,.string nm,.bool g,.slice a1 n1 c1,.slice a2 n2 c2,.slice (some ⟨bA,oA,none⟩) 1 c3,.slice a4 n4 c4,.slice a5 n5 c5] 28)).cell? ⟨bA,oA + 6,none⟩ = some (.slice x4A bsA.length d4A):=cell_below HO1.out.b (hcA 6 _ rfl);have cA7:(w.alloc (.cells #[.int .i64 11,.string nm,.bool g,.slice a1 n1 c1,.slice a2 n2 c2,.slice (some ⟨bA,oA,none⟩) 1 c3,.slice a4 n4 c4,.slice a5 n5 c5] 28)).cell? ⟨bA,oA + 7,none⟩ = some (.slice x5A czA.len d5A):=cell_below HO1.out.b (hcA 7 _ rfl);rw [at0_drop hdA] at ht;have hlA:=congrArg List.length ht;simp only [List.length_append,List.length_cons,List.length_nil] at hlA;have hnm:=lenB nm
 have hCall:=fun w' (h:Out w0 acc w')=>write_row HW.out [.str ⟨#[123,32]⟩,.node ⟨kA,nmA,gA,azA,wsA,ksA,bsA,czA⟩,.str ⟨#[125]⟩] [.iface 9 (.string ⟨#[123,32]⟩),.iface 28 (.agg #[.int .i64 kA,.string nmA,.bool gA,.slice x1A azA.length d1A,.slice x2A wsA.length d2A,.slice x3A ksA.len d3A,.slice x4A bsA.length d4A,.slice x5A czA.len d5A]),.iface 9 (.string ⟨#[125]⟩)] acc w' (by
  intro p hp;simp only [List.mem_cons,List.not_mem_nil,or_false] at hp;rcases hp with rfl | rfl | rfl
  ·exact ⟨HR.out.pos,trivial⟩
  ·exact HR.out.at hdA
  ·exact ⟨HR.out.pos,trivial⟩) (.cons rfl (.cons ⟨_,_,_,_,_,_,_,_,_,_,rfl,hhA⟩ (.cons rfl .nil))) (by simp) h (by
  simp only [pcsT,pcT,List.map_cons,List.map_nil,List.flatten_cons,List.flatten_nil,List.length_append,List.length_cons,List.length_nil] at hlA ⊢;omega)
 have hC:=hCall _ HO1.out;have hsz:=HSZ.out;rw [hsz] at hC;have HCALL:=Lib.hid hC;have HT:=Lib.hid ht;clear hCall hC hsz hl ht hlA hkl hnm hhA hdA hcA;go_enter Tryz.func41,Tryz.ntmps41;go_wp2_with (go_at_call 19;refine (HCALL.out).mono ?_;rintro e w2 ⟨rfl,h3,h4⟩);go_end0;refine ⟨rfl,?_,HK0.out.trans h4⟩;rw [HT.out];simpa [pcsT,pcT,List.append_assoc] using h3
theorem command_12 (w0:World) (M:Nat) (hW:WriteAt w0 M) (ks:NL) (nm:ByteArray) (g:Bool) (n1 n2 n4 n5:Nat) (a1 c1 a2 c2 a3 c3 a4 c4 a5 c5) (acc t:T) (w:World)
  (hR:KidsR M ks) (hkl:ks.len = 1) (hk:NLies w0 a3 c3 ks) (ho:Out w0 acc w) (ht:t = ([40]:T) ++ (at0 (txt ks) 0 ++ (([41]:T)))) (hl:acc.length + t.length≤400000) :
  Calls Tryz.prog 41 #[.pointer (some ⟨w0.heap.size,0,none⟩),.agg #[.int .i64 12,.string nm,.bool g,.slice a1 n1 c1,.slice a2 n2 c2,.slice a3 1 c3,.slice a4 n4 c4,.slice a5 n5 c5]] w (Wrote w0.heap.size (acc ++ t) w):=by
 have HW:=Lib.hid hW;have HR:=Lib.hid hR;have HKS:=Lib.hid hk;have HO:=Lib.hid ho;clear hW hR hk ho;unfold Wrote;have hrow:=heap_new' w (.cells #[.int .i64 12,.string nm,.bool g,.slice a1 n1 c1,.slice a2 n2 c2,.slice a3 1 c3,.slice a4 n4 c4,.slice a5 n5 c5] 28);have hbw:=bel1 w (.cells #[.int .i64 12,.string nm,.bool g,.slice a1 n1 c1,.slice a2 n2 c2,.slice a3 1 c3,.slice a4 n4 c4,.slice a5 n5 c5] 28);have hk0:=Pb.Kept.of_below hbw (Nat.le_of_lt HO.out.is.lt);have ho1:=HO.out.below hbw;have hsz:(w.alloc (.cells #[.int .i64 12,.string nm,.bool g,.slice a1 n1 c1,.slice a2 n2 c2,.slice a3 1 c3,.slice a4 n4 c4,.slice a5 n5 c5] 28)).heap.size = w.heap.size + 1:=by simp
 have HROW:=Lib.hid hrow;have HK0:=Lib.hid hk0;have HO1:=Lib.hid ho1;have HSZ:=Lib.hid hsz;clear hrow hk0 ho1 hbw hsz;obtain ⟨kA,nmA,gA,azA,wsA,ksA,bsA,czA,rA,hdA⟩:=NL.drop_node (show 0 < ks.len by omega) HR.out.ok;obtain ⟨bA,oA,eA,hbA,x1A,d1A,x2A,d2A,x3A,d3A,x4A,d4A,x5A,d5A,hcA,hhA⟩:=HKS.out.getN HR.out.ok hdA;obtain rfl:=eA;have cA0:(w.alloc (.cells #[.int .i64 12,.string nm,.bool g,.slice a1 n1 c1,.slice a2 n2 c2,.slice (some ⟨bA,oA,none⟩) 1 c3,.slice a4 n4 c4,.slice a5 n5 c5] 28)).cell? ⟨bA,oA,none⟩ = some (.int .i64 kA):=cell_below HO1.out.b (hcA 0 _ rfl);have cA1:(w.alloc (.cells #[.int .i64 12,.string nm,.bool g,.slice a1 n1 c1,.slice a2 n2 c2,.slice (some ⟨bA,oA,none⟩) 1 c3,.slice a4 n4 c4,.slice a5 n5 c5] 28)).cell? ⟨bA,oA + 1,none⟩ = some (.string nmA):=cell_below HO1.out.b (hcA 1 _ rfl);have cA2:(w.alloc (.cells #[.int .i64 12,.string nm,.bool g,.slice a1 n1 c1,.slice a2 n2 c2,.slice (some ⟨bA,oA,none⟩) 1 c3,.slice a4 n4 c4,.slice a5 n5 c5] 28)).cell? ⟨bA,oA + 2,none⟩ = some (.bool gA):=cell_below HO1.out.b (hcA 2 _ rfl);have cA3:(w.alloc (.cells #[.int .i64 12,.string nm,.bool g,.slice a1 n1 c1,.slice a2 n2 c2,.slice (some ⟨bA,oA,none⟩) 1 c3,.slice a4 n4 c4,.slice a5 n5 c5] 28)).cell? ⟨bA,oA + 3,none⟩ = some (.slice x1A azA.length d1A):=cell_below HO1.out.b (hcA 3 _ rfl);have cA4:(w.alloc (.cells #[.int .i64 12,.string nm,.bool g,.slice a1 n1 c1,.slice a2 n2 c2,.slice (some ⟨bA,oA,none⟩) 1 c3,.slice a4 n4 c4,.slice a5 n5 c5] 28)).cell? ⟨bA,oA + 4,none⟩ = some (.slice x2A wsA.length d2A):=cell_below HO1.out.b (hcA 4 _ rfl);have cA5:(w.alloc (.cells #[.int .i64 12,.string nm,.bool g,.slice a1 n1 c1,.slice a2 n2 c2,.slice (some ⟨bA,oA,none⟩) 1 c3,.slice a4 n4 c4,.slice a5 n5 c5] 28)).cell? ⟨bA,oA + 5,none⟩ = some (.slice x3A ksA.len d3A):=cell_below HO1.out.b (hcA 5 _ rfl);have cA6:(w.alloc (.cells #[.int .i64 12,.string nm,.bool g,.slice a1 n1 c1,.slice a2 n2 c2,.slice (some ⟨bA,oA,none⟩) 1 c3,.slice a4 n4 c4,.slice a5 n5 c5] 28)).cell? ⟨bA,oA + 6,none⟩ = some (.slice x4A bsA.length d4A):=cell_below HO1.out.b (hcA 6 _ rfl);have cA7:(w.alloc (.cells #[.int .i64 12,.string nm,.bool g,.slice a1 n1 c1,.slice a2 n2 c2,.slice (some ⟨bA,oA,none⟩) 1 c3,.slice a4 n4 c4,.slice a5 n5 c5] 28)).cell? ⟨bA,oA + 7,none⟩ = some (.slice x5A czA.len d5A):=cell_below HO1.out.b (hcA 7 _ rfl);rw [at0_drop hdA] at ht;have hlA:=congrArg List.length ht;simp only [List.length_append,List.length_cons,List.length_nil] at hlA;have hnm:=lenB nm
 have hCall:=fun w' (h:Out w0 acc w')=>write_row HW.out [.str ⟨#[40]⟩,.node ⟨kA,nmA,gA,azA,wsA,ksA,bsA,czA⟩,.str ⟨#[41]⟩] [.iface 9 (.string ⟨#[40]⟩),.iface 28 (.agg #[.int .i64 kA,.string nmA,.bool gA,.slice x1A azA.length d1A,.slice x2A wsA.length d2A,.slice x3A ksA.len d3A,.slice x4A bsA.length d4A,.slice x5A czA.len d5A]),.iface 9 (.string ⟨#[41]⟩)] acc w' (by
  intro p hp;simp only [List.mem_cons,List.not_mem_nil,or_false] at hp;rcases hp with rfl | rfl | rfl
  ·exact ⟨HR.out.pos,trivial⟩
  ·exact HR.out.at hdA
  ·exact ⟨HR.out.pos,trivial⟩) (.cons rfl (.cons ⟨_,_,_,_,_,_,_,_,_,_,rfl,hhA⟩ (.cons rfl .nil))) (by simp) h (by
  simp only [pcsT,pcT,List.map_cons,List.map_nil,List.flatten_cons,List.flatten_nil,List.length_append,List.length_cons,List.length_nil] at hlA ⊢;omega)
 have hC:=hCall _ HO1.out;have hsz:=HSZ.out;rw [hsz] at hC;have HCALL:=Lib.hid hC;have HT:=Lib.hid ht;clear hCall hC hsz hl ht hlA hkl hnm hhA hdA hcA;go_enter Tryz.func41,Tryz.ntmps41;go_wp2_with (go_at_call 19;refine (HCALL.out).mono ?_;rintro e w2 ⟨rfl,h3,h4⟩);go_end0;refine ⟨rfl,?_,HK0.out.trans h4⟩;rw [HT.out];simpa [pcsT,pcT,List.append_assoc] using h3
theorem command_13 (w0:World) (M:Nat) (hW:WriteAt w0 M) (ks:NL) (nm:ByteArray) (g:Bool) (n1 n2 n4 n5:Nat) (a1 c1 a2 c2 a3 c3 a4 c4 a5 c5) (acc t:T) (w:World)
  (hR:KidsR M ks) (hkl:ks.len = 1) (hk:NLies w0 a3 c3 ks) (ho:Out w0 acc w) (ht:t = nm.data.toList ++ (([40,41,32]:T) ++ (at0 (txt ks) 0))) (hl:acc.length + t.length≤400000) :
  Calls Tryz.prog 41 #[.pointer (some ⟨w0.heap.size,0,none⟩),.agg #[.int .i64 13,.string nm,.bool g,.slice a1 n1 c1,.slice a2 n2 c2,.slice a3 1 c3,.slice a4 n4 c4,.slice a5 n5 c5]] w (Wrote w0.heap.size (acc ++ t) w):=by
 have HW:=Lib.hid hW;have HR:=Lib.hid hR;have HKS:=Lib.hid hk;have HO:=Lib.hid ho;clear hW hR hk ho;unfold Wrote;have hrow:=heap_new' w (.cells #[.int .i64 13,.string nm,.bool g,.slice a1 n1 c1,.slice a2 n2 c2,.slice a3 1 c3,.slice a4 n4 c4,.slice a5 n5 c5] 28);have hbw:=bel1 w (.cells #[.int .i64 13,.string nm,.bool g,.slice a1 n1 c1,.slice a2 n2 c2,.slice a3 1 c3,.slice a4 n4 c4,.slice a5 n5 c5] 28);have hk0:=Pb.Kept.of_below hbw (Nat.le_of_lt HO.out.is.lt);have ho1:=HO.out.below hbw;have hsz:(w.alloc (.cells #[.int .i64 13,.string nm,.bool g,.slice a1 n1 c1,.slice a2 n2 c2,.slice a3 1 c3,.slice a4 n4 c4,.slice a5 n5 c5] 28)).heap.size = w.heap.size + 1:=by simp
 have HROW:=Lib.hid hrow;have HK0:=Lib.hid hk0;have HO1:=Lib.hid ho1;have HSZ:=Lib.hid hsz;clear hrow hk0 ho1 hbw hsz;go_enter Tryz.func41,Tryz.ntmps41;go_wp2_with fail;generalize w.alloc (.cells #[.int .i64 13,.string nm,.bool g,.slice a1 n1 c1,.slice a2 n2 c2,.slice a3 1 c3,.slice a4 n4 c4,.slice a5 n5 c5] 28) = w1 at HROW HK0 HO1 HSZ ⊢
 obtain ⟨kA,nmA,gA,azA,wsA,ksA,bsA,czA,rA,hdA⟩:=NL.drop_node (show 0 < ks.len by omega) HR.out.ok;obtain ⟨bA,oA,eA,hbA,x1A,d1A,x2A,d2A,x3A,d3A,x4A,d4A,x5A,d5A,hcA,hhA⟩:=HKS.out.getN HR.out.ok hdA;obtain rfl:=eA;have cA0:w1.cell? ⟨bA,oA,none⟩ = some (.int .i64 kA):=cell_below HO1.out.b (hcA 0 _ rfl);have cA1:w1.cell? ⟨bA,oA + 1,none⟩ = some (.string nmA):=cell_below HO1.out.b (hcA 1 _ rfl);have cA2:w1.cell? ⟨bA,oA + 2,none⟩ = some (.bool gA):=cell_below HO1.out.b (hcA 2 _ rfl);have cA3:w1.cell? ⟨bA,oA + 3,none⟩ = some (.slice x1A azA.length d1A):=cell_below HO1.out.b (hcA 3 _ rfl);have cA4:w1.cell? ⟨bA,oA + 4,none⟩ = some (.slice x2A wsA.length d2A):=cell_below HO1.out.b (hcA 4 _ rfl);have cA5:w1.cell? ⟨bA,oA + 5,none⟩ = some (.slice x3A ksA.len d3A):=cell_below HO1.out.b (hcA 5 _ rfl);have cA6:w1.cell? ⟨bA,oA + 6,none⟩ = some (.slice x4A bsA.length d4A):=cell_below HO1.out.b (hcA 6 _ rfl);have cA7:w1.cell? ⟨bA,oA + 7,none⟩ = some (.slice x5A czA.len d5A):=cell_below HO1.out.b (hcA 7 _ rfl);have r5:=zc5 HROW.out;have r1:=zc1 HROW.out;rw [at0_drop hdA] at ht;have hlA:=congrArg List.length ht;simp only [List.length_append,List.length_cons,List.length_nil] at hlA;have hnm:=lenB nm
 have hCall:=fun w' (h:Out w0 acc w')=>write_row HW.out [.str nm,.str ⟨#[40,41,32]⟩,.node ⟨kA,nmA,gA,azA,wsA,ksA,bsA,czA⟩] [.iface 9 (.string nm),.iface 9 (.string ⟨#[40,41,32]⟩),.iface 28 (.agg #[.int .i64 kA,.string nmA,.bool gA,.slice x1A azA.length d1A,.slice x2A wsA.length d2A,.slice x3A ksA.len d3A,.slice x4A bsA.length d4A,.slice x5A czA.len d5A])] acc w' (by
  intro p hp;simp only [List.mem_cons,List.not_mem_nil,or_false] at hp;rcases hp with rfl | rfl | rfl
  ·exact ⟨HR.out.pos,trivial⟩
  ·exact ⟨HR.out.pos,trivial⟩
  ·exact HR.out.at hdA) (.cons rfl (.cons rfl (.cons ⟨_,_,_,_,_,_,_,_,_,_,rfl,hhA⟩ .nil))) (by simp) h (by
  simp only [pcsT,pcT,List.map_cons,List.map_nil,List.flatten_cons,List.flatten_nil,List.length_append,List.length_cons,List.length_nil] at hlA ⊢;omega)
 have HCALL:=Lib.hid hCall;have HT:=Lib.hid ht;clear hCall hl ht hlA hkl hnm hhA hdA hcA;have hod:∀ wd,Below w1.heap.size w1 wd→Out w0 acc wd∧Pb.Kept w0.heap.size w wd:=fun wd hb=>⟨HO1.out.below hb,HK0.out.trans (Pb.Kept.of_below hb (Nat.le_of_lt HO1.out.is.lt))⟩;have HOD:=Lib.hid hod;clear hod;refine RN.begins (fun wq=>Below w1.heap.size w1 wq) [11] (by kernel_rfl) ?_;have hS:(fun wq=>Below w1.heap.size w1 wq) w1.drew:=⟨rfl,rfl,rfl,Nat.le_refl _,fun _ _=>rfl⟩;have hSz:Below w1.heap.size w1 w1.drew:=hS;generalize w1.drew = wd at hS hSz ⊢
 refine RN.tk (i:=0) (v:=?_) rfl hS ?_ ?_;rotate_left 1
 ·(intro wq hq;skip;go_simp;try with_reducible rfl)
 refine RN.tk (i:=1) (v:=?_) rfl hS ?_ ?_;rotate_left 1
 ·(intro wq hq;skip;go_simp;try with_reducible rfl)
 refine RN.tk (i:=2) (v:=?_) rfl hS ?_ ?_;rotate_left 1
 ·(intro wq hq;have s:=cell_below hq r1;go_simp;try with_reducible rfl)
 refine RN.tk (i:=3) (v:=?_) rfl hS ?_ ?_;rotate_left 1
 ·(intro wq hq;skip;go_simp;try with_reducible rfl)
 refine RN.tk (i:=4) (v:=?_) rfl hS ?_ ?_;rotate_left 1
 ·(intro wq hq;skip;go_simp;try with_reducible rfl)
 refine RN.tk (i:=5) (v:=?_) rfl hS ?_ ?_;rotate_left 1
 ·(intro wq hq;skip;go_simp;try with_reducible rfl)
 refine RN.tk (i:=6) (v:=?_) rfl hS ?_ ?_;rotate_left 1
 ·(intro wq hq;have s:=cell_below hq r5;go_simp;try with_reducible rfl)
 refine RN.tk (i:=7) (v:=?_) rfl hS ?_ ?_;rotate_left 1
 ·(intro wq hq;skip;go_simp;try with_reducible rfl)
 refine RN.tk (i:=8) (v:=?_) rfl hS ?_ ?_;rotate_left 1
 ·(intro wq hq;have s0:=cell_below hq cA0;have s1:=cell_below hq cA1;have s2:=cell_below hq cA2;have s3:=cell_below hq cA3;have s4:=cell_below hq cA4;have s5:=cell_below hq cA5;have s6:=cell_below hq cA6;have s7:=cell_below hq cA7;go_simp;try with_reducible rfl)
 refine RN.tk (i:=9) (v:=?_) rfl hS ?_ ?_;rotate_left 1
 ·(intro wq hq;skip;go_simp;try with_reducible rfl)
 refine RN.all (rs:=[10]) (by kernel_rfl) (by simp) ?_;refine RN.All.cons rfl (fun K hK=>?_) RN.All.nil;go_simp;have hS1:=Below.trans hSz (bel1 wd (.cells #[.iface 9 (.string nm),.iface 9 (.string ⟨#[40,41,32]⟩),.iface 28 (.agg #[.int .i64 kA,.string nmA,.bool gA,.slice x1A azA.length d1A,.slice x2A wsA.length d2A,.slice x3A ksA.len d3A,.slice x4A bsA.length d4A,.slice x5A czA.len d5A])] 20) |>.mono (Below.size hSz));refine hK _ _ (fun _=>hS1) ?_;clear hK K hS1;refine RN.all (rs:=[11]) (by kernel_rfl) (by simp) ?_;refine RN.All.cons rfl (fun K hK=>?_) RN.All.nil;go_simp;clear r1;obtain ⟨hoq,hkq⟩:=HOD.out wd hSz;have HOQ:=Lib.hid hoq;have HKQ:=Lib.hid hkq;clear hoq hkq hSz r5;refine (HCALL.out wd HOQ.out).mono ?_;rintro e w2 ⟨rfl,h3,h4⟩;refine hK _ _ (fun h=>by cases h) ?_;clear hK K;refine RN.done (by kernel_rfl) ?_ _;go_wp2;go_end0;refine ⟨rfl,?_,HKQ.out.trans h4⟩;rw [HT.out];simpa [pcsT,pcT,List.append_assoc] using h3
theorem command_2 (w0:World) (M:Nat) (hW:WriteAt w0 M) (ks:NL) (nm:ByteArray) (g:Bool) (n1 n2 n4 n5:Nat) (a1 c1 a2 c2 a3 c3 a4 c4 a5 c5) (acc t:T) (w:World)
  (hR:KidsR M ks) (hkl:ks.len = 2) (hk:NLies w0 a3 c3 ks) (ho:Out w0 acc w) (ht:t = at0 (txt ks) 0 ++ (([32,38,38,32]:T) ++ (at0 (txt ks) 1))) (hl:acc.length + t.length≤400000) :
  Calls Tryz.prog 41 #[.pointer (some ⟨w0.heap.size,0,none⟩),.agg #[.int .i64 2,.string nm,.bool g,.slice a1 n1 c1,.slice a2 n2 c2,.slice a3 2 c3,.slice a4 n4 c4,.slice a5 n5 c5]] w (Wrote w0.heap.size (acc ++ t) w):=by
 have HW:=Lib.hid hW;have HR:=Lib.hid hR;have HKS:=Lib.hid hk;have HO:=Lib.hid ho;clear hW hR hk ho;unfold Wrote;have hrow:=heap_new' w (.cells #[.int .i64 2,.string nm,.bool g,.slice a1 n1 c1,.slice a2 n2 c2,.slice a3 2 c3,.slice a4 n4 c4,.slice a5 n5 c5] 28);have hbw:=bel1 w (.cells #[.int .i64 2,.string nm,.bool g,.slice a1 n1 c1,.slice a2 n2 c2,.slice a3 2 c3,.slice a4 n4 c4,.slice a5 n5 c5] 28);have hk0:=Pb.Kept.of_below hbw (Nat.le_of_lt HO.out.is.lt);have ho1:=HO.out.below hbw;have hsz:(w.alloc (.cells #[.int .i64 2,.string nm,.bool g,.slice a1 n1 c1,.slice a2 n2 c2,.slice a3 2 c3,.slice a4 n4 c4,.slice a5 n5 c5] 28)).heap.size = w.heap.size + 1:=by simp
 have HROW:=Lib.hid hrow;have HK0:=Lib.hid hk0;have HO1:=Lib.hid ho1;have HSZ:=Lib.hid hsz;clear hrow hk0 ho1 hbw hsz;go_enter Tryz.func41,Tryz.ntmps41;go_wp2_with fail;generalize w.alloc (.cells #[.int .i64 2,.string nm,.bool g,.slice a1 n1 c1,.slice a2 n2 c2,.slice a3 2 c3,.slice a4 n4 c4,.slice a5 n5 c5] 28) = w1 at HROW HK0 HO1 HSZ ⊢
 obtain ⟨kA,nmA,gA,azA,wsA,ksA,bsA,czA,rA,hdA⟩:=NL.drop_node (show 0 < ks.len by omega) HR.out.ok;obtain ⟨bA,oA,eA,hbA,x1A,d1A,x2A,d2A,x3A,d3A,x4A,d4A,x5A,d5A,hcA,hhA⟩:=HKS.out.getN HR.out.ok hdA;obtain rfl:=eA;have cA0:w1.cell? ⟨bA,oA,none⟩ = some (.int .i64 kA):=cell_below HO1.out.b (hcA 0 _ rfl);have cA1:w1.cell? ⟨bA,oA + 1,none⟩ = some (.string nmA):=cell_below HO1.out.b (hcA 1 _ rfl);have cA2:w1.cell? ⟨bA,oA + 2,none⟩ = some (.bool gA):=cell_below HO1.out.b (hcA 2 _ rfl);have cA3:w1.cell? ⟨bA,oA + 3,none⟩ = some (.slice x1A azA.length d1A):=cell_below HO1.out.b (hcA 3 _ rfl);have cA4:w1.cell? ⟨bA,oA + 4,none⟩ = some (.slice x2A wsA.length d2A):=cell_below HO1.out.b (hcA 4 _ rfl);have cA5:w1.cell? ⟨bA,oA + 5,none⟩ = some (.slice x3A ksA.len d3A):=cell_below HO1.out.b (hcA 5 _ rfl);have cA6:w1.cell? ⟨bA,oA + 6,none⟩ = some (.slice x4A bsA.length d4A):=cell_below HO1.out.b (hcA 6 _ rfl);have cA7:w1.cell? ⟨bA,oA + 7,none⟩ = some (.slice x5A czA.len d5A):=cell_below HO1.out.b (hcA 7 _ rfl);obtain ⟨kB,nmB,gB,azB,wsB,ksB,bsB,czB,rB,hdB⟩:=NL.drop_node (show 1 < ks.len by omega) HR.out.ok;obtain ⟨bB,oB,eB,hbB,x1B,d1B,x2B,d2B,x3B,d3B,x4B,d4B,x5B,d5B,hcB,hhB⟩:=HKS.out.getN HR.out.ok hdB;obtain ⟨rfl,rfl⟩:bA = bB∧oA = oB:=by simpa using eB
 have cB0:w1.cell? ⟨bA,oA + 8,none⟩ = some (.int .i64 kB):=cell_below HO1.out.b (hcB 0 _ rfl);have cB1:w1.cell? ⟨bA,oA + 9,none⟩ = some (.string nmB):=cell_below HO1.out.b (hcB 1 _ rfl);have cB2:w1.cell? ⟨bA,oA + 10,none⟩ = some (.bool gB):=cell_below HO1.out.b (hcB 2 _ rfl);have cB3:w1.cell? ⟨bA,oA + 11,none⟩ = some (.slice x1B azB.length d1B):=cell_below HO1.out.b (hcB 3 _ rfl);have cB4:w1.cell? ⟨bA,oA + 12,none⟩ = some (.slice x2B wsB.length d2B):=cell_below HO1.out.b (hcB 4 _ rfl);have cB5:w1.cell? ⟨bA,oA + 13,none⟩ = some (.slice x3B ksB.len d3B):=cell_below HO1.out.b (hcB 5 _ rfl);have cB6:w1.cell? ⟨bA,oA + 14,none⟩ = some (.slice x4B bsB.length d4B):=cell_below HO1.out.b (hcB 6 _ rfl);have cB7:w1.cell? ⟨bA,oA + 15,none⟩ = some (.slice x5B czB.len d5B):=cell_below HO1.out.b (hcB 7 _ rfl);have r5:=zc5 HROW.out;rw [at0_drop hdA,at0_drop hdB] at ht;have hlA:=congrArg List.length ht;simp only [List.length_append,List.length_cons,List.length_nil] at hlA;have hnm:=lenB nm
 have hCall:=fun w' (h:Out w0 acc w')=>write_row HW.out [.node ⟨kA,nmA,gA,azA,wsA,ksA,bsA,czA⟩,.str ⟨#[32,38,38,32]⟩,.node ⟨kB,nmB,gB,azB,wsB,ksB,bsB,czB⟩] [.iface 28 (.agg #[.int .i64 kA,.string nmA,.bool gA,.slice x1A azA.length d1A,.slice x2A wsA.length d2A,.slice x3A ksA.len d3A,.slice x4A bsA.length d4A,.slice x5A czA.len d5A]),.iface 9 (.string ⟨#[32,38,38,32]⟩),.iface 28 (.agg #[.int .i64 kB,.string nmB,.bool gB,.slice x1B azB.length d1B,.slice x2B wsB.length d2B,.slice x3B ksB.len d3B,.slice x4B bsB.length d4B,.slice x5B czB.len d5B])] acc w' (by
  intro p hp;simp only [List.mem_cons,List.not_mem_nil,or_false] at hp;rcases hp with rfl | rfl | rfl
  ·exact HR.out.at hdA
  ·exact ⟨HR.out.pos,trivial⟩
  ·exact HR.out.at hdB) (.cons ⟨_,_,_,_,_,_,_,_,_,_,rfl,hhA⟩ (.cons rfl (.cons ⟨_,_,_,_,_,_,_,_,_,_,rfl,hhB⟩ .nil))) (by simp) h (by
  simp only [pcsT,pcT,List.map_cons,List.map_nil,List.flatten_cons,List.flatten_nil,List.length_append,List.length_cons,List.length_nil] at hlA ⊢;omega)
 have HCALL:=Lib.hid hCall;have HT:=Lib.hid ht;clear hCall hl ht hlA hkl hnm hhA hdA hcA;clear hhB hdB hcB eB;have hod:∀ wd,Below w1.heap.size w1 wd→Out w0 acc wd∧Pb.Kept w0.heap.size w wd:=fun wd hb=>⟨HO1.out.below hb,HK0.out.trans (Pb.Kept.of_below hb (Nat.le_of_lt HO1.out.is.lt))⟩;have HOD:=Lib.hid hod;clear hod;refine RN.begins (fun wq=>Below w1.heap.size w1 wq) [13] (by kernel_rfl) ?_;have hS:(fun wq=>Below w1.heap.size w1 wq) w1.drew:=⟨rfl,rfl,rfl,Nat.le_refl _,fun _ _=>rfl⟩;have hSz:Below w1.heap.size w1 w1.drew:=hS;generalize w1.drew = wd at hS hSz ⊢
 refine RN.tk (i:=0) (v:=?_) rfl hS ?_ ?_;rotate_left 1
 ·(intro wq hq;skip;go_simp;try with_reducible rfl)
 refine RN.tk (i:=1) (v:=?_) rfl hS ?_ ?_;rotate_left 1
 ·(intro wq hq;skip;go_simp;try with_reducible rfl)
 refine RN.tk (i:=2) (v:=?_) rfl hS ?_ ?_;rotate_left 1
 ·(intro wq hq;have s:=cell_below hq r5;go_simp;try with_reducible rfl)
 refine RN.tk (i:=3) (v:=?_) rfl hS ?_ ?_;rotate_left 1
 ·(intro wq hq;skip;go_simp;try with_reducible rfl)
 refine RN.tk (i:=4) (v:=?_) rfl hS ?_ ?_;rotate_left 1
 ·(intro wq hq;have s0:=cell_below hq cA0;have s1:=cell_below hq cA1;have s2:=cell_below hq cA2;have s3:=cell_below hq cA3;have s4:=cell_below hq cA4;have s5:=cell_below hq cA5;have s6:=cell_below hq cA6;have s7:=cell_below hq cA7;go_simp;try with_reducible rfl)
 refine RN.tk (i:=5) (v:=?_) rfl hS ?_ ?_;rotate_left 1
 ·(intro wq hq;skip;go_simp;try with_reducible rfl)
 refine RN.tk (i:=6) (v:=?_) rfl hS ?_ ?_;rotate_left 1
 ·(intro wq hq;skip;go_simp;try with_reducible rfl)
 refine RN.tk (i:=7) (v:=?_) rfl hS ?_ ?_;rotate_left 1
 ·(intro wq hq;skip;go_simp;try with_reducible rfl)
 refine RN.tk (i:=8) (v:=?_) rfl hS ?_ ?_;rotate_left 1
 ·(intro wq hq;have s:=cell_below hq r5;go_simp;try with_reducible rfl)
 refine RN.tk (i:=9) (v:=?_) rfl hS ?_ ?_;rotate_left 1
 ·(intro wq hq;skip;go_simp;try with_reducible rfl)
 refine RN.tk (i:=10) (v:=?_) rfl hS ?_ ?_;rotate_left 1
 ·(intro wq hq;have s0:=cell_below hq cB0;have s1:=cell_below hq cB1;have s2:=cell_below hq cB2;have s3:=cell_below hq cB3;have s4:=cell_below hq cB4;have s5:=cell_below hq cB5;have s6:=cell_below hq cB6;have s7:=cell_below hq cB7;go_simp;try with_reducible rfl)
 refine RN.tk (i:=11) (v:=?_) rfl hS ?_ ?_;rotate_left 1
 ·(intro wq hq;skip;go_simp;try with_reducible rfl)
 refine RN.all (rs:=[12]) (by kernel_rfl) (by simp) ?_;refine RN.All.cons rfl (fun K hK=>?_) RN.All.nil;go_simp;have hS1:=Below.trans hSz (bel1 wd (.cells #[.iface 28 (.agg #[.int .i64 kA,.string nmA,.bool gA,.slice x1A azA.length d1A,.slice x2A wsA.length d2A,.slice x3A ksA.len d3A,.slice x4A bsA.length d4A,.slice x5A czA.len d5A]),.iface 9 (.string ⟨#[32,38,38,32]⟩),.iface 28 (.agg #[.int .i64 kB,.string nmB,.bool gB,.slice x1B azB.length d1B,.slice x2B wsB.length d2B,.slice x3B ksB.len d3B,.slice x4B bsB.length d4B,.slice x5B czB.len d5B])] 20) |>.mono (Below.size hSz));refine hK _ _ (fun _=>hS1) ?_;clear hK K hS1;refine RN.all (rs:=[13]) (by kernel_rfl) (by simp) ?_;refine RN.All.cons rfl (fun K hK=>?_) RN.All.nil;go_simp;obtain ⟨hoq,hkq⟩:=HOD.out wd hSz;have HOQ:=Lib.hid hoq;have HKQ:=Lib.hid hkq;clear hoq hkq hSz r5;refine (HCALL.out wd HOQ.out).mono ?_;rintro e w2 ⟨rfl,h3,h4⟩;refine hK _ _ (fun h=>by cases h) ?_;clear hK K;refine RN.done (by kernel_rfl) ?_ _;go_wp2;go_end0;refine ⟨rfl,?_,HKQ.out.trans h4⟩;rw [HT.out];simpa [pcsT,pcT,List.append_assoc] using h3
theorem command_3 (w0:World) (M:Nat) (hW:WriteAt w0 M) (ks:NL) (nm:ByteArray) (g:Bool) (n1 n2 n4 n5:Nat) (a1 c1 a2 c2 a3 c3 a4 c4 a5 c5) (acc t:T) (w:World)
  (hR:KidsR M ks) (hkl:ks.len = 2) (hk:NLies w0 a3 c3 ks) (ho:Out w0 acc w) (ht:t = at0 (txt ks) 0 ++ (([32,124,124,32]:T) ++ (at0 (txt ks) 1))) (hl:acc.length + t.length≤400000) :
  Calls Tryz.prog 41 #[.pointer (some ⟨w0.heap.size,0,none⟩),.agg #[.int .i64 3,.string nm,.bool g,.slice a1 n1 c1,.slice a2 n2 c2,.slice a3 2 c3,.slice a4 n4 c4,.slice a5 n5 c5]] w (Wrote w0.heap.size (acc ++ t) w):=by
 have HW:=Lib.hid hW;have HR:=Lib.hid hR;have HKS:=Lib.hid hk;have HO:=Lib.hid ho;clear hW hR hk ho;unfold Wrote;have hrow:=heap_new' w (.cells #[.int .i64 3,.string nm,.bool g,.slice a1 n1 c1,.slice a2 n2 c2,.slice a3 2 c3,.slice a4 n4 c4,.slice a5 n5 c5] 28);have hbw:=bel1 w (.cells #[.int .i64 3,.string nm,.bool g,.slice a1 n1 c1,.slice a2 n2 c2,.slice a3 2 c3,.slice a4 n4 c4,.slice a5 n5 c5] 28);have hk0:=Pb.Kept.of_below hbw (Nat.le_of_lt HO.out.is.lt);have ho1:=HO.out.below hbw;have hsz:(w.alloc (.cells #[.int .i64 3,.string nm,.bool g,.slice a1 n1 c1,.slice a2 n2 c2,.slice a3 2 c3,.slice a4 n4 c4,.slice a5 n5 c5] 28)).heap.size = w.heap.size + 1:=by simp
 have HROW:=Lib.hid hrow;have HK0:=Lib.hid hk0;have HO1:=Lib.hid ho1;have HSZ:=Lib.hid hsz;clear hrow hk0 ho1 hbw hsz;go_enter Tryz.func41,Tryz.ntmps41;go_wp2_with fail;generalize w.alloc (.cells #[.int .i64 3,.string nm,.bool g,.slice a1 n1 c1,.slice a2 n2 c2,.slice a3 2 c3,.slice a4 n4 c4,.slice a5 n5 c5] 28) = w1 at HROW HK0 HO1 HSZ ⊢
 obtain ⟨kA,nmA,gA,azA,wsA,ksA,bsA,czA,rA,hdA⟩:=NL.drop_node (show 0 < ks.len by omega) HR.out.ok;obtain ⟨bA,oA,eA,hbA,x1A,d1A,x2A,d2A,x3A,d3A,x4A,d4A,x5A,d5A,hcA,hhA⟩:=HKS.out.getN HR.out.ok hdA;obtain rfl:=eA;have cA0:w1.cell? ⟨bA,oA,none⟩ = some (.int .i64 kA):=cell_below HO1.out.b (hcA 0 _ rfl);have cA1:w1.cell? ⟨bA,oA + 1,none⟩ = some (.string nmA):=cell_below HO1.out.b (hcA 1 _ rfl);have cA2:w1.cell? ⟨bA,oA + 2,none⟩ = some (.bool gA):=cell_below HO1.out.b (hcA 2 _ rfl);have cA3:w1.cell? ⟨bA,oA + 3,none⟩ = some (.slice x1A azA.length d1A):=cell_below HO1.out.b (hcA 3 _ rfl);have cA4:w1.cell? ⟨bA,oA + 4,none⟩ = some (.slice x2A wsA.length d2A):=cell_below HO1.out.b (hcA 4 _ rfl);have cA5:w1.cell? ⟨bA,oA + 5,none⟩ = some (.slice x3A ksA.len d3A):=cell_below HO1.out.b (hcA 5 _ rfl);have cA6:w1.cell? ⟨bA,oA + 6,none⟩ = some (.slice x4A bsA.length d4A):=cell_below HO1.out.b (hcA 6 _ rfl);have cA7:w1.cell? ⟨bA,oA + 7,none⟩ = some (.slice x5A czA.len d5A):=cell_below HO1.out.b (hcA 7 _ rfl);obtain ⟨kB,nmB,gB,azB,wsB,ksB,bsB,czB,rB,hdB⟩:=NL.drop_node (show 1 < ks.len by omega) HR.out.ok;obtain ⟨bB,oB,eB,hbB,x1B,d1B,x2B,d2B,x3B,d3B,x4B,d4B,x5B,d5B,hcB,hhB⟩:=HKS.out.getN HR.out.ok hdB;obtain ⟨rfl,rfl⟩:bA = bB∧oA = oB:=by simpa using eB
 have cB0:w1.cell? ⟨bA,oA + 8,none⟩ = some (.int .i64 kB):=cell_below HO1.out.b (hcB 0 _ rfl);have cB1:w1.cell? ⟨bA,oA + 9,none⟩ = some (.string nmB):=cell_below HO1.out.b (hcB 1 _ rfl);have cB2:w1.cell? ⟨bA,oA + 10,none⟩ = some (.bool gB):=cell_below HO1.out.b (hcB 2 _ rfl);have cB3:w1.cell? ⟨bA,oA + 11,none⟩ = some (.slice x1B azB.length d1B):=cell_below HO1.out.b (hcB 3 _ rfl);have cB4:w1.cell? ⟨bA,oA + 12,none⟩ = some (.slice x2B wsB.length d2B):=cell_below HO1.out.b (hcB 4 _ rfl);have cB5:w1.cell? ⟨bA,oA + 13,none⟩ = some (.slice x3B ksB.len d3B):=cell_below HO1.out.b (hcB 5 _ rfl);have cB6:w1.cell? ⟨bA,oA + 14,none⟩ = some (.slice x4B bsB.length d4B):=cell_below HO1.out.b (hcB 6 _ rfl);have cB7:w1.cell? ⟨bA,oA + 15,none⟩ = some (.slice x5B czB.len d5B):=cell_below HO1.out.b (hcB 7 _ rfl);have r5:=zc5 HROW.out;rw [at0_drop hdA,at0_drop hdB] at ht;have hlA:=congrArg List.length ht;simp only [List.length_append,List.length_cons,List.length_nil] at hlA;have hnm:=lenB nm
 have hCall:=fun w' (h:Out w0 acc w')=>write_row HW.out [.node ⟨kA,nmA,gA,azA,wsA,ksA,bsA,czA⟩,.str ⟨#[32,124,124,32]⟩,.node ⟨kB,nmB,gB,azB,wsB,ksB,bsB,czB⟩] [.iface 28 (.agg #[.int .i64 kA,.string nmA,.bool gA,.slice x1A azA.length d1A,.slice x2A wsA.length d2A,.slice x3A ksA.len d3A,.slice x4A bsA.length d4A,.slice x5A czA.len d5A]),.iface 9 (.string ⟨#[32,124,124,32]⟩),.iface 28 (.agg #[.int .i64 kB,.string nmB,.bool gB,.slice x1B azB.length d1B,.slice x2B wsB.length d2B,.slice x3B ksB.len d3B,.slice x4B bsB.length d4B,.slice x5B czB.len d5B])] acc w' (by
  intro p hp;simp only [List.mem_cons,List.not_mem_nil,or_false] at hp;rcases hp with rfl | rfl | rfl
  ·exact HR.out.at hdA
  ·exact ⟨HR.out.pos,trivial⟩
  ·exact HR.out.at hdB) (.cons ⟨_,_,_,_,_,_,_,_,_,_,rfl,hhA⟩ (.cons rfl (.cons ⟨_,_,_,_,_,_,_,_,_,_,rfl,hhB⟩ .nil))) (by simp) h (by
  simp only [pcsT,pcT,List.map_cons,List.map_nil,List.flatten_cons,List.flatten_nil,List.length_append,List.length_cons,List.length_nil] at hlA ⊢;omega)
 have HCALL:=Lib.hid hCall;have HT:=Lib.hid ht;clear hCall hl ht hlA hkl hnm hhA hdA hcA;clear hhB hdB hcB eB;have hod:∀ wd,Below w1.heap.size w1 wd→Out w0 acc wd∧Pb.Kept w0.heap.size w wd:=fun wd hb=>⟨HO1.out.below hb,HK0.out.trans (Pb.Kept.of_below hb (Nat.le_of_lt HO1.out.is.lt))⟩;have HOD:=Lib.hid hod;clear hod;refine RN.begins (fun wq=>Below w1.heap.size w1 wq) [13] (by kernel_rfl) ?_;have hS:(fun wq=>Below w1.heap.size w1 wq) w1.drew:=⟨rfl,rfl,rfl,Nat.le_refl _,fun _ _=>rfl⟩;have hSz:Below w1.heap.size w1 w1.drew:=hS;generalize w1.drew = wd at hS hSz ⊢
 refine RN.tk (i:=0) (v:=?_) rfl hS ?_ ?_;rotate_left 1
 ·(intro wq hq;skip;go_simp;try with_reducible rfl)
 refine RN.tk (i:=1) (v:=?_) rfl hS ?_ ?_;rotate_left 1
 ·(intro wq hq;skip;go_simp;try with_reducible rfl)
 refine RN.tk (i:=2) (v:=?_) rfl hS ?_ ?_;rotate_left 1
 ·(intro wq hq;have s:=cell_below hq r5;go_simp;try with_reducible rfl)
 refine RN.tk (i:=3) (v:=?_) rfl hS ?_ ?_;rotate_left 1
 ·(intro wq hq;skip;go_simp;try with_reducible rfl)
 refine RN.tk (i:=4) (v:=?_) rfl hS ?_ ?_;rotate_left 1
 ·(intro wq hq;have s0:=cell_below hq cA0;have s1:=cell_below hq cA1;have s2:=cell_below hq cA2;have s3:=cell_below hq cA3;have s4:=cell_below hq cA4;have s5:=cell_below hq cA5;have s6:=cell_below hq cA6;have s7:=cell_below hq cA7;go_simp;try with_reducible rfl)
 refine RN.tk (i:=5) (v:=?_) rfl hS ?_ ?_;rotate_left 1
 ·(intro wq hq;skip;go_simp;try with_reducible rfl)
 refine RN.tk (i:=6) (v:=?_) rfl hS ?_ ?_;rotate_left 1
 ·(intro wq hq;skip;go_simp;try with_reducible rfl)
 refine RN.tk (i:=7) (v:=?_) rfl hS ?_ ?_;rotate_left 1
 ·(intro wq hq;skip;go_simp;try with_reducible rfl)
 refine RN.tk (i:=8) (v:=?_) rfl hS ?_ ?_;rotate_left 1
 ·(intro wq hq;have s:=cell_below hq r5;go_simp;try with_reducible rfl)
 refine RN.tk (i:=9) (v:=?_) rfl hS ?_ ?_;rotate_left 1
 ·(intro wq hq;skip;go_simp;try with_reducible rfl)
 refine RN.tk (i:=10) (v:=?_) rfl hS ?_ ?_;rotate_left 1
 ·(intro wq hq;have s0:=cell_below hq cB0;have s1:=cell_below hq cB1;have s2:=cell_below hq cB2;have s3:=cell_below hq cB3;have s4:=cell_below hq cB4;have s5:=cell_below hq cB5;have s6:=cell_below hq cB6;have s7:=cell_below hq cB7;go_simp;try with_reducible rfl)
 refine RN.tk (i:=11) (v:=?_) rfl hS ?_ ?_;rotate_left 1
 ·(intro wq hq;skip;go_simp;try with_reducible rfl)
 refine RN.all (rs:=[12]) (by kernel_rfl) (by simp) ?_;refine RN.All.cons rfl (fun K hK=>?_) RN.All.nil;go_simp;have hS1:=Below.trans hSz (bel1 wd (.cells #[.iface 28 (.agg #[.int .i64 kA,.string nmA,.bool gA,.slice x1A azA.length d1A,.slice x2A wsA.length d2A,.slice x3A ksA.len d3A,.slice x4A bsA.length d4A,.slice x5A czA.len d5A]),.iface 9 (.string ⟨#[32,124,124,32]⟩),.iface 28 (.agg #[.int .i64 kB,.string nmB,.bool gB,.slice x1B azB.length d1B,.slice x2B wsB.length d2B,.slice x3B ksB.len d3B,.slice x4B bsB.length d4B,.slice x5B czB.len d5B])] 20) |>.mono (Below.size hSz));refine hK _ _ (fun _=>hS1) ?_;clear hK K hS1;refine RN.all (rs:=[13]) (by kernel_rfl) (by simp) ?_;refine RN.All.cons rfl (fun K hK=>?_) RN.All.nil;go_simp;obtain ⟨hoq,hkq⟩:=HOD.out wd hSz;have HOQ:=Lib.hid hoq;have HKQ:=Lib.hid hkq;clear hoq hkq hSz r5;refine (HCALL.out wd HOQ.out).mono ?_;rintro e w2 ⟨rfl,h3,h4⟩;refine hK _ _ (fun h=>by cases h) ?_;clear hK K;refine RN.done (by kernel_rfl) ?_ _;go_wp2;go_end0;refine ⟨rfl,?_,HKQ.out.trans h4⟩;rw [HT.out];simpa [pcsT,pcT,List.append_assoc] using h3
theorem command_7 (w0:World) (M:Nat) (hW:WriteAt w0 M) (ks:NL) (nm:ByteArray) (g:Bool) (n1 n2 n4 n5:Nat) (a1 c1 a2 c2 a3 c3 a4 c4 a5 c5) (acc t:T) (w:World)
  (hR:KidsR M ks) (hkl:ks.len = 2) (hk:NLies w0 a3 c3 ks) (ho:Out w0 acc w) (ht:t = ([119,104,105,108,101,32]:T) ++ (at0 (txt ks) 0 ++ (([100,111,32]:T) ++ (at0 (txt ks) 1 ++ (([100,111,110,101]:T)))))) (hl:acc.length + t.length≤400000) :
  Calls Tryz.prog 41 #[.pointer (some ⟨w0.heap.size,0,none⟩),.agg #[.int .i64 7,.string nm,.bool g,.slice a1 n1 c1,.slice a2 n2 c2,.slice a3 2 c3,.slice a4 n4 c4,.slice a5 n5 c5]] w (Wrote w0.heap.size (acc ++ t) w):=by
 have HW:=Lib.hid hW;have HR:=Lib.hid hR;have HKS:=Lib.hid hk;have HO:=Lib.hid ho;clear hW hR hk ho;unfold Wrote;have hrow:=heap_new' w (.cells #[.int .i64 7,.string nm,.bool g,.slice a1 n1 c1,.slice a2 n2 c2,.slice a3 2 c3,.slice a4 n4 c4,.slice a5 n5 c5] 28);have hbw:=bel1 w (.cells #[.int .i64 7,.string nm,.bool g,.slice a1 n1 c1,.slice a2 n2 c2,.slice a3 2 c3,.slice a4 n4 c4,.slice a5 n5 c5] 28);have hk0:=Pb.Kept.of_below hbw (Nat.le_of_lt HO.out.is.lt);have ho1:=HO.out.below hbw;have hsz:(w.alloc (.cells #[.int .i64 7,.string nm,.bool g,.slice a1 n1 c1,.slice a2 n2 c2,.slice a3 2 c3,.slice a4 n4 c4,.slice a5 n5 c5] 28)).heap.size = w.heap.size + 1:=by simp
 have HROW:=Lib.hid hrow;have HK0:=Lib.hid hk0;have HO1:=Lib.hid ho1;have HSZ:=Lib.hid hsz;clear hrow hk0 ho1 hbw hsz;go_enter Tryz.func41,Tryz.ntmps41;go_wp2_with fail;generalize w.alloc (.cells #[.int .i64 7,.string nm,.bool g,.slice a1 n1 c1,.slice a2 n2 c2,.slice a3 2 c3,.slice a4 n4 c4,.slice a5 n5 c5] 28) = w1 at HROW HK0 HO1 HSZ ⊢
 obtain ⟨kA,nmA,gA,azA,wsA,ksA,bsA,czA,rA,hdA⟩:=NL.drop_node (show 0 < ks.len by omega) HR.out.ok;obtain ⟨bA,oA,eA,hbA,x1A,d1A,x2A,d2A,x3A,d3A,x4A,d4A,x5A,d5A,hcA,hhA⟩:=HKS.out.getN HR.out.ok hdA;obtain rfl:=eA;have cA0:w1.cell? ⟨bA,oA,none⟩ = some (.int .i64 kA):=cell_below HO1.out.b (hcA 0 _ rfl);have cA1:w1.cell? ⟨bA,oA + 1,none⟩ = some (.string nmA):=cell_below HO1.out.b (hcA 1 _ rfl);have cA2:w1.cell? ⟨bA,oA + 2,none⟩ = some (.bool gA):=cell_below HO1.out.b (hcA 2 _ rfl);have cA3:w1.cell? ⟨bA,oA + 3,none⟩ = some (.slice x1A azA.length d1A):=cell_below HO1.out.b (hcA 3 _ rfl);have cA4:w1.cell? ⟨bA,oA + 4,none⟩ = some (.slice x2A wsA.length d2A):=cell_below HO1.out.b (hcA 4 _ rfl);have cA5:w1.cell? ⟨bA,oA + 5,none⟩ = some (.slice x3A ksA.len d3A):=cell_below HO1.out.b (hcA 5 _ rfl);have cA6:w1.cell? ⟨bA,oA + 6,none⟩ = some (.slice x4A bsA.length d4A):=cell_below HO1.out.b (hcA 6 _ rfl);have cA7:w1.cell? ⟨bA,oA + 7,none⟩ = some (.slice x5A czA.len d5A):=cell_below HO1.out.b (hcA 7 _ rfl);obtain ⟨kB,nmB,gB,azB,wsB,ksB,bsB,czB,rB,hdB⟩:=NL.drop_node (show 1 < ks.len by omega) HR.out.ok;obtain ⟨bB,oB,eB,hbB,x1B,d1B,x2B,d2B,x3B,d3B,x4B,d4B,x5B,d5B,hcB,hhB⟩:=HKS.out.getN HR.out.ok hdB;obtain ⟨rfl,rfl⟩:bA = bB∧oA = oB:=by simpa using eB
 have cB0:w1.cell? ⟨bA,oA + 8,none⟩ = some (.int .i64 kB):=cell_below HO1.out.b (hcB 0 _ rfl);have cB1:w1.cell? ⟨bA,oA + 9,none⟩ = some (.string nmB):=cell_below HO1.out.b (hcB 1 _ rfl);have cB2:w1.cell? ⟨bA,oA + 10,none⟩ = some (.bool gB):=cell_below HO1.out.b (hcB 2 _ rfl);have cB3:w1.cell? ⟨bA,oA + 11,none⟩ = some (.slice x1B azB.length d1B):=cell_below HO1.out.b (hcB 3 _ rfl);have cB4:w1.cell? ⟨bA,oA + 12,none⟩ = some (.slice x2B wsB.length d2B):=cell_below HO1.out.b (hcB 4 _ rfl);have cB5:w1.cell? ⟨bA,oA + 13,none⟩ = some (.slice x3B ksB.len d3B):=cell_below HO1.out.b (hcB 5 _ rfl);have cB6:w1.cell? ⟨bA,oA + 14,none⟩ = some (.slice x4B bsB.length d4B):=cell_below HO1.out.b (hcB 6 _ rfl);have cB7:w1.cell? ⟨bA,oA + 15,none⟩ = some (.slice x5B czB.len d5B):=cell_below HO1.out.b (hcB 7 _ rfl);have r5:=zc5 HROW.out;rw [at0_drop hdA,at0_drop hdB] at ht;have hlA:=congrArg List.length ht;simp only [List.length_append,List.length_cons,List.length_nil] at hlA;have hnm:=lenB nm
 have hCall:=fun w' (h:Out w0 acc w')=>write_row HW.out [.str ⟨#[119,104,105,108,101,32]⟩,.node ⟨kA,nmA,gA,azA,wsA,ksA,bsA,czA⟩,.str ⟨#[100,111,32]⟩,.node ⟨kB,nmB,gB,azB,wsB,ksB,bsB,czB⟩,.str ⟨#[100,111,110,101]⟩] [.iface 9 (.string ⟨#[119,104,105,108,101,32]⟩),.iface 28 (.agg #[.int .i64 kA,.string nmA,.bool gA,.slice x1A azA.length d1A,.slice x2A wsA.length d2A,.slice x3A ksA.len d3A,.slice x4A bsA.length d4A,.slice x5A czA.len d5A]),.iface 9 (.string ⟨#[100,111,32]⟩),.iface 28 (.agg #[.int .i64 kB,.string nmB,.bool gB,.slice x1B azB.length d1B,.slice x2B wsB.length d2B,.slice x3B ksB.len d3B,.slice x4B bsB.length d4B,.slice x5B czB.len d5B]),.iface 9 (.string ⟨#[100,111,110,101]⟩)] acc w' (by
  intro p hp;simp only [List.mem_cons,List.not_mem_nil,or_false] at hp;rcases hp with rfl | rfl | rfl | rfl | rfl
  ·exact ⟨HR.out.pos,trivial⟩
  ·exact HR.out.at hdA
  ·exact ⟨HR.out.pos,trivial⟩
  ·exact HR.out.at hdB
  ·exact ⟨HR.out.pos,trivial⟩) (.cons rfl (.cons ⟨_,_,_,_,_,_,_,_,_,_,rfl,hhA⟩ (.cons rfl (.cons ⟨_,_,_,_,_,_,_,_,_,_,rfl,hhB⟩ (.cons rfl .nil))))) (by simp) h (by
  simp only [pcsT,pcT,List.map_cons,List.map_nil,List.flatten_cons,List.flatten_nil,List.length_append,List.length_cons,List.length_nil] at hlA ⊢;omega)
 have HCALL:=Lib.hid hCall;have HT:=Lib.hid ht;clear hCall hl ht hlA hkl hnm hhA hdA hcA;clear hhB hdB hcB eB;have hod:∀ wd,Below w1.heap.size w1 wd→Out w0 acc wd∧Pb.Kept w0.heap.size w wd:=fun wd hb=>⟨HO1.out.below hb,HK0.out.trans (Pb.Kept.of_below hb (Nat.le_of_lt HO1.out.is.lt))⟩;have HOD:=Lib.hid hod;clear hod;refine RN.begins (fun wq=>Below w1.heap.size w1 wq) [15] (by kernel_rfl) ?_;have hS:(fun wq=>Below w1.heap.size w1 wq) w1.drew:=⟨rfl,rfl,rfl,Nat.le_refl _,fun _ _=>rfl⟩;have hSz:Below w1.heap.size w1 w1.drew:=hS;generalize w1.drew = wd at hS hSz ⊢
 refine RN.tk (i:=0) (v:=?_) rfl hS ?_ ?_;rotate_left 1
 ·(intro wq hq;skip;go_simp;try with_reducible rfl)
 refine RN.tk (i:=1) (v:=?_) rfl hS ?_ ?_;rotate_left 1
 ·(intro wq hq;skip;go_simp;try with_reducible rfl)
 refine RN.tk (i:=2) (v:=?_) rfl hS ?_ ?_;rotate_left 1
 ·(intro wq hq;skip;go_simp;try with_reducible rfl)
 refine RN.tk (i:=3) (v:=?_) rfl hS ?_ ?_;rotate_left 1
 ·(intro wq hq;have s:=cell_below hq r5;go_simp;try with_reducible rfl)
 refine RN.tk (i:=4) (v:=?_) rfl hS ?_ ?_;rotate_left 1
 ·(intro wq hq;skip;go_simp;try with_reducible rfl)
 refine RN.tk (i:=5) (v:=?_) rfl hS ?_ ?_;rotate_left 1
 ·(intro wq hq;have s0:=cell_below hq cA0;have s1:=cell_below hq cA1;have s2:=cell_below hq cA2;have s3:=cell_below hq cA3;have s4:=cell_below hq cA4;have s5:=cell_below hq cA5;have s6:=cell_below hq cA6;have s7:=cell_below hq cA7;go_simp;try with_reducible rfl)
 refine RN.tk (i:=6) (v:=?_) rfl hS ?_ ?_;rotate_left 1
 ·(intro wq hq;skip;go_simp;try with_reducible rfl)
 refine RN.tk (i:=7) (v:=?_) rfl hS ?_ ?_;rotate_left 1
 ·(intro wq hq;skip;go_simp;try with_reducible rfl)
 refine RN.tk (i:=8) (v:=?_) rfl hS ?_ ?_;rotate_left 1
 ·(intro wq hq;skip;go_simp;try with_reducible rfl)
 refine RN.tk (i:=9) (v:=?_) rfl hS ?_ ?_;rotate_left 1
 ·(intro wq hq;have s:=cell_below hq r5;go_simp;try with_reducible rfl)
 refine RN.tk (i:=10) (v:=?_) rfl hS ?_ ?_;rotate_left 1
 ·(intro wq hq;skip;go_simp;try with_reducible rfl)
 refine RN.tk (i:=11) (v:=?_) rfl hS ?_ ?_;rotate_left 1
 ·(intro wq hq;have s0:=cell_below hq cB0;have s1:=cell_below hq cB1;have s2:=cell_below hq cB2;have s3:=cell_below hq cB3;have s4:=cell_below hq cB4;have s5:=cell_below hq cB5;have s6:=cell_below hq cB6;have s7:=cell_below hq cB7;go_simp;try with_reducible rfl)
 refine RN.tk (i:=12) (v:=?_) rfl hS ?_ ?_;rotate_left 1
 ·(intro wq hq;skip;go_simp;try with_reducible rfl)
 refine RN.tk (i:=13) (v:=?_) rfl hS ?_ ?_;rotate_left 1
 ·(intro wq hq;skip;go_simp;try with_reducible rfl)
 refine RN.all (rs:=[14]) (by kernel_rfl) (by simp) ?_;refine RN.All.cons rfl (fun K hK=>?_) RN.All.nil;go_simp;have hS1:=Below.trans hSz (bel1 wd (.cells #[.iface 9 (.string ⟨#[119,104,105,108,101,32]⟩),.iface 28 (.agg #[.int .i64 kA,.string nmA,.bool gA,.slice x1A azA.length d1A,.slice x2A wsA.length d2A,.slice x3A ksA.len d3A,.slice x4A bsA.length d4A,.slice x5A czA.len d5A]),.iface 9 (.string ⟨#[100,111,32]⟩),.iface 28 (.agg #[.int .i64 kB,.string nmB,.bool gB,.slice x1B azB.length d1B,.slice x2B wsB.length d2B,.slice x3B ksB.len d3B,.slice x4B bsB.length d4B,.slice x5B czB.len d5B]),.iface 9 (.string ⟨#[100,111,110,101]⟩)] 20) |>.mono (Below.size hSz));refine hK _ _ (fun _=>hS1) ?_;clear hK K hS1;refine RN.all (rs:=[15]) (by kernel_rfl) (by simp) ?_;refine RN.All.cons rfl (fun K hK=>?_) RN.All.nil;go_simp;obtain ⟨hoq,hkq⟩:=HOD.out wd hSz;have HOQ:=Lib.hid hoq;have HKQ:=Lib.hid hkq;clear hoq hkq hSz r5;refine (HCALL.out wd HOQ.out).mono ?_;rintro e w2 ⟨rfl,h3,h4⟩;refine hK _ _ (fun h=>by cases h) ?_;clear hK K;refine RN.done (by kernel_rfl) ?_ _;go_wp2;go_end0;refine ⟨rfl,?_,HKQ.out.trans h4⟩;rw [HT.out];simpa [pcsT,pcT,List.append_assoc] using h3
theorem command_8 (w0:World) (M:Nat) (hW:WriteAt w0 M) (ks:NL) (nm:ByteArray) (g:Bool) (n1 n2 n4 n5:Nat) (a1 c1 a2 c2 a3 c3 a4 c4 a5 c5) (acc t:T) (w:World)
  (hR:KidsR M ks) (hkl:ks.len = 2) (hk:NLies w0 a3 c3 ks) (ho:Out w0 acc w) (ht:t = ([117,110,116,105,108,32]:T) ++ (at0 (txt ks) 0 ++ (([100,111,32]:T) ++ (at0 (txt ks) 1 ++ (([100,111,110,101]:T)))))) (hl:acc.length + t.length≤400000) :
  Calls Tryz.prog 41 #[.pointer (some ⟨w0.heap.size,0,none⟩),.agg #[.int .i64 8,.string nm,.bool g,.slice a1 n1 c1,.slice a2 n2 c2,.slice a3 2 c3,.slice a4 n4 c4,.slice a5 n5 c5]] w (Wrote w0.heap.size (acc ++ t) w):=by
 have HW:=Lib.hid hW;have HR:=Lib.hid hR;have HKS:=Lib.hid hk;have HO:=Lib.hid ho;clear hW hR hk ho;unfold Wrote;have hrow:=heap_new' w (.cells #[.int .i64 8,.string nm,.bool g,.slice a1 n1 c1,.slice a2 n2 c2,.slice a3 2 c3,.slice a4 n4 c4,.slice a5 n5 c5] 28);have hbw:=bel1 w (.cells #[.int .i64 8,.string nm,.bool g,.slice a1 n1 c1,.slice a2 n2 c2,.slice a3 2 c3,.slice a4 n4 c4,.slice a5 n5 c5] 28);have hk0:=Pb.Kept.of_below hbw (Nat.le_of_lt HO.out.is.lt);have ho1:=HO.out.below hbw;have hsz:(w.alloc (.cells #[.int .i64 8,.string nm,.bool g,.slice a1 n1 c1,.slice a2 n2 c2,.slice a3 2 c3,.slice a4 n4 c4,.slice a5 n5 c5] 28)).heap.size = w.heap.size + 1:=by simp
 have HROW:=Lib.hid hrow;have HK0:=Lib.hid hk0;have HO1:=Lib.hid ho1;have HSZ:=Lib.hid hsz;clear hrow hk0 ho1 hbw hsz;go_enter Tryz.func41,Tryz.ntmps41;go_wp2_with fail;generalize w.alloc (.cells #[.int .i64 8,.string nm,.bool g,.slice a1 n1 c1,.slice a2 n2 c2,.slice a3 2 c3,.slice a4 n4 c4,.slice a5 n5 c5] 28) = w1 at HROW HK0 HO1 HSZ ⊢
 obtain ⟨kA,nmA,gA,azA,wsA,ksA,bsA,czA,rA,hdA⟩:=NL.drop_node (show 0 < ks.len by omega) HR.out.ok;obtain ⟨bA,oA,eA,hbA,x1A,d1A,x2A,d2A,x3A,d3A,x4A,d4A,x5A,d5A,hcA,hhA⟩:=HKS.out.getN HR.out.ok hdA;obtain rfl:=eA;have cA0:w1.cell? ⟨bA,oA,none⟩ = some (.int .i64 kA):=cell_below HO1.out.b (hcA 0 _ rfl);have cA1:w1.cell? ⟨bA,oA + 1,none⟩ = some (.string nmA):=cell_below HO1.out.b (hcA 1 _ rfl);have cA2:w1.cell? ⟨bA,oA + 2,none⟩ = some (.bool gA):=cell_below HO1.out.b (hcA 2 _ rfl);have cA3:w1.cell? ⟨bA,oA + 3,none⟩ = some (.slice x1A azA.length d1A):=cell_below HO1.out.b (hcA 3 _ rfl);have cA4:w1.cell? ⟨bA,oA + 4,none⟩ = some (.slice x2A wsA.length d2A):=cell_below HO1.out.b (hcA 4 _ rfl);have cA5:w1.cell? ⟨bA,oA + 5,none⟩ = some (.slice x3A ksA.len d3A):=cell_below HO1.out.b (hcA 5 _ rfl);have cA6:w1.cell? ⟨bA,oA + 6,none⟩ = some (.slice x4A bsA.length d4A):=cell_below HO1.out.b (hcA 6 _ rfl);have cA7:w1.cell? ⟨bA,oA + 7,none⟩ = some (.slice x5A czA.len d5A):=cell_below HO1.out.b (hcA 7 _ rfl);obtain ⟨kB,nmB,gB,azB,wsB,ksB,bsB,czB,rB,hdB⟩:=NL.drop_node (show 1 < ks.len by omega) HR.out.ok;obtain ⟨bB,oB,eB,hbB,x1B,d1B,x2B,d2B,x3B,d3B,x4B,d4B,x5B,d5B,hcB,hhB⟩:=HKS.out.getN HR.out.ok hdB;obtain ⟨rfl,rfl⟩:bA = bB∧oA = oB:=by simpa using eB
 have cB0:w1.cell? ⟨bA,oA + 8,none⟩ = some (.int .i64 kB):=cell_below HO1.out.b (hcB 0 _ rfl);have cB1:w1.cell? ⟨bA,oA + 9,none⟩ = some (.string nmB):=cell_below HO1.out.b (hcB 1 _ rfl);have cB2:w1.cell? ⟨bA,oA + 10,none⟩ = some (.bool gB):=cell_below HO1.out.b (hcB 2 _ rfl);have cB3:w1.cell? ⟨bA,oA + 11,none⟩ = some (.slice x1B azB.length d1B):=cell_below HO1.out.b (hcB 3 _ rfl);have cB4:w1.cell? ⟨bA,oA + 12,none⟩ = some (.slice x2B wsB.length d2B):=cell_below HO1.out.b (hcB 4 _ rfl);have cB5:w1.cell? ⟨bA,oA + 13,none⟩ = some (.slice x3B ksB.len d3B):=cell_below HO1.out.b (hcB 5 _ rfl);have cB6:w1.cell? ⟨bA,oA + 14,none⟩ = some (.slice x4B bsB.length d4B):=cell_below HO1.out.b (hcB 6 _ rfl);have cB7:w1.cell? ⟨bA,oA + 15,none⟩ = some (.slice x5B czB.len d5B):=cell_below HO1.out.b (hcB 7 _ rfl);have r5:=zc5 HROW.out;rw [at0_drop hdA,at0_drop hdB] at ht;have hlA:=congrArg List.length ht;simp only [List.length_append,List.length_cons,List.length_nil] at hlA;have hnm:=lenB nm
 have hCall:=fun w' (h:Out w0 acc w')=>write_row HW.out [.str ⟨#[117,110,116,105,108,32]⟩,.node ⟨kA,nmA,gA,azA,wsA,ksA,bsA,czA⟩,.str ⟨#[100,111,32]⟩,.node ⟨kB,nmB,gB,azB,wsB,ksB,bsB,czB⟩,.str ⟨#[100,111,110,101]⟩] [.iface 9 (.string ⟨#[117,110,116,105,108,32]⟩),.iface 28 (.agg #[.int .i64 kA,.string nmA,.bool gA,.slice x1A azA.length d1A,.slice x2A wsA.length d2A,.slice x3A ksA.len d3A,.slice x4A bsA.length d4A,.slice x5A czA.len d5A]),.iface 9 (.string ⟨#[100,111,32]⟩),.iface 28 (.agg #[.int .i64 kB,.string nmB,.bool gB,.slice x1B azB.length d1B,.slice x2B wsB.length d2B,.slice x3B ksB.len d3B,.slice x4B bsB.length d4B,.slice x5B czB.len d5B]),.iface 9 (.string ⟨#[100,111,110,101]⟩)] acc w' (by
  intro p hp;simp only [List.mem_cons,List.not_mem_nil,or_false] at hp;rcases hp with rfl | rfl | rfl | rfl | rfl
  ·exact ⟨HR.out.pos,trivial⟩
  ·exact HR.out.at hdA
  ·exact ⟨HR.out.pos,trivial⟩
  ·exact HR.out.at hdB
  ·exact ⟨HR.out.pos,trivial⟩) (.cons rfl (.cons ⟨_,_,_,_,_,_,_,_,_,_,rfl,hhA⟩ (.cons rfl (.cons ⟨_,_,_,_,_,_,_,_,_,_,rfl,hhB⟩ (.cons rfl .nil))))) (by simp) h (by
  simp only [pcsT,pcT,List.map_cons,List.map_nil,List.flatten_cons,List.flatten_nil,List.length_append,List.length_cons,List.length_nil] at hlA ⊢;omega)
 have HCALL:=Lib.hid hCall;have HT:=Lib.hid ht;clear hCall hl ht hlA hkl hnm hhA hdA hcA;clear hhB hdB hcB eB;have hod:∀ wd,Below w1.heap.size w1 wd→Out w0 acc wd∧Pb.Kept w0.heap.size w wd:=fun wd hb=>⟨HO1.out.below hb,HK0.out.trans (Pb.Kept.of_below hb (Nat.le_of_lt HO1.out.is.lt))⟩;have HOD:=Lib.hid hod;clear hod;refine RN.begins (fun wq=>Below w1.heap.size w1 wq) [15] (by kernel_rfl) ?_;have hS:(fun wq=>Below w1.heap.size w1 wq) w1.drew:=⟨rfl,rfl,rfl,Nat.le_refl _,fun _ _=>rfl⟩;have hSz:Below w1.heap.size w1 w1.drew:=hS;generalize w1.drew = wd at hS hSz ⊢
 refine RN.tk (i:=0) (v:=?_) rfl hS ?_ ?_;rotate_left 1
 ·(intro wq hq;skip;go_simp;try with_reducible rfl)
 refine RN.tk (i:=1) (v:=?_) rfl hS ?_ ?_;rotate_left 1
 ·(intro wq hq;skip;go_simp;try with_reducible rfl)
 refine RN.tk (i:=2) (v:=?_) rfl hS ?_ ?_;rotate_left 1
 ·(intro wq hq;skip;go_simp;try with_reducible rfl)
 refine RN.tk (i:=3) (v:=?_) rfl hS ?_ ?_;rotate_left 1
 ·(intro wq hq;have s:=cell_below hq r5;go_simp;try with_reducible rfl)
 refine RN.tk (i:=4) (v:=?_) rfl hS ?_ ?_;rotate_left 1
 ·(intro wq hq;skip;go_simp;try with_reducible rfl)
 refine RN.tk (i:=5) (v:=?_) rfl hS ?_ ?_;rotate_left 1
 ·(intro wq hq;have s0:=cell_below hq cA0;have s1:=cell_below hq cA1;have s2:=cell_below hq cA2;have s3:=cell_below hq cA3;have s4:=cell_below hq cA4;have s5:=cell_below hq cA5;have s6:=cell_below hq cA6;have s7:=cell_below hq cA7;go_simp;try with_reducible rfl)
 refine RN.tk (i:=6) (v:=?_) rfl hS ?_ ?_;rotate_left 1
 ·(intro wq hq;skip;go_simp;try with_reducible rfl)
 refine RN.tk (i:=7) (v:=?_) rfl hS ?_ ?_;rotate_left 1
 ·(intro wq hq;skip;go_simp;try with_reducible rfl)
 refine RN.tk (i:=8) (v:=?_) rfl hS ?_ ?_;rotate_left 1
 ·(intro wq hq;skip;go_simp;try with_reducible rfl)
 refine RN.tk (i:=9) (v:=?_) rfl hS ?_ ?_;rotate_left 1
 ·(intro wq hq;have s:=cell_below hq r5;go_simp;try with_reducible rfl)
 refine RN.tk (i:=10) (v:=?_) rfl hS ?_ ?_;rotate_left 1
 ·(intro wq hq;skip;go_simp;try with_reducible rfl)
 refine RN.tk (i:=11) (v:=?_) rfl hS ?_ ?_;rotate_left 1
 ·(intro wq hq;have s0:=cell_below hq cB0;have s1:=cell_below hq cB1;have s2:=cell_below hq cB2;have s3:=cell_below hq cB3;have s4:=cell_below hq cB4;have s5:=cell_below hq cB5;have s6:=cell_below hq cB6;have s7:=cell_below hq cB7;go_simp;try with_reducible rfl)
 refine RN.tk (i:=12) (v:=?_) rfl hS ?_ ?_;rotate_left 1
 ·(intro wq hq;skip;go_simp;try with_reducible rfl)
 refine RN.tk (i:=13) (v:=?_) rfl hS ?_ ?_;rotate_left 1
 ·(intro wq hq;skip;go_simp;try with_reducible rfl)
 refine RN.all (rs:=[14]) (by kernel_rfl) (by simp) ?_;refine RN.All.cons rfl (fun K hK=>?_) RN.All.nil;go_simp;have hS1:=Below.trans hSz (bel1 wd (.cells #[.iface 9 (.string ⟨#[117,110,116,105,108,32]⟩),.iface 28 (.agg #[.int .i64 kA,.string nmA,.bool gA,.slice x1A azA.length d1A,.slice x2A wsA.length d2A,.slice x3A ksA.len d3A,.slice x4A bsA.length d4A,.slice x5A czA.len d5A]),.iface 9 (.string ⟨#[100,111,32]⟩),.iface 28 (.agg #[.int .i64 kB,.string nmB,.bool gB,.slice x1B azB.length d1B,.slice x2B wsB.length d2B,.slice x3B ksB.len d3B,.slice x4B bsB.length d4B,.slice x5B czB.len d5B]),.iface 9 (.string ⟨#[100,111,110,101]⟩)] 20) |>.mono (Below.size hSz));refine hK _ _ (fun _=>hS1) ?_;clear hK K hS1;refine RN.all (rs:=[15]) (by kernel_rfl) (by simp) ?_;refine RN.All.cons rfl (fun K hK=>?_) RN.All.nil;go_simp;obtain ⟨hoq,hkq⟩:=HOD.out wd hSz;have HOQ:=Lib.hid hoq;have HKQ:=Lib.hid hkq;clear hoq hkq hSz r5;refine (HCALL.out wd HOQ.out).mono ?_;rintro e w2 ⟨rfl,h3,h4⟩;refine hK _ _ (fun h=>by cases h) ?_;clear hK K;refine RN.done (by kernel_rfl) ?_ _;go_wp2;go_end0;refine ⟨rfl,?_,HKQ.out.trans h4⟩;rw [HT.out];simpa [pcsT,pcT,List.append_assoc] using h3
end Pw
end Go.Proofs.YtjmpfihopeohbaaGreatDoor
namespace Go.Proofs.YtjmpfihopeohbaaGreatDoor
open Go.RowKit Go.Sort
namespace Pw
open Cls Pt Tr Pr
open Ps (ND CD toN toC nd listD)
theorem ofN_toN:∀ l:List ND,ofN (toN l) = l
 | []=>rfl
 | x :: r=>by show x :: ofN (toN r) = _;rw [ofN_toN r]
theorem kids_of {M:Nat} {l:List ND} (ho:NL.okN (toN l) true = true) (hm:4 * (toN l).size + 3 < M) (h:∀ y ∈ l,∃ D,W y D):KidsR M (toN l):=⟨ho,hm,by rw [ofN_toN];exact h⟩
theorem msr_kids (x:ND):4 * x.ks.size + 3 < msr (.node x):=by simp only [msr,sz];omega
theorem simple_rights {az:List (ByteArray × PL)} {ws:List PL} (h:simpleB az ws = true):(∀ x ∈ az,rightL none x.2 0 1 = true)∧∀ l ∈ ws,rightL none l 0 1 = true:=by
 unfold simpleB at h;rw [Bool.and_eq_true] at h;refine ⟨fun x hx=>?_,fun l hl=>?_⟩
 ·have:=List.all_eq_true.1 h.1 x hx;unfold assignB at this;rw [Bool.and_eq_true] at this;exact this.2
 ·cases ws with
  | nil=>cases hl
  | cons a r =>
   have h2:(firstB a (decide (0 < az.length)) && (a :: r).all rightW) = true:=h.2;rw [Bool.and_eq_true] at h2;exact rightW_L (List.all_eq_true.1 h2.2 l hl)
theorem case_drop:∀ {n:Nat} {cs:List CD} {ps:List PL} {bd r:NL},(toC cs).drop n = .cse ps bd r→∃ c ∈ cs,ps = c.1∧bd = toN c.2
 | n,[],_,_,_,h=>by cases n <;> simp [toC,NL.drop] at h
 | 0,c :: cs,ps,bd,r,h=>by
  have h:NL.cse c.1 (toN c.2) (toC cs) = .cse ps bd r:=h;injection h with h1 h2 _;exact ⟨c,by simp,h1.symm,h2.symm⟩
 | n + 1,c :: cs,ps,bd,r,h=>by
  obtain ⟨d,hd,h1,h2⟩:=case_drop (n:=n) (cs:=cs) (show (toC cs).drop n = _ from h);exact ⟨d,List.mem_cons_of_mem _ hd,h1,h2⟩
theorem okN_toC:∀ {cs:List CD},NL.okN (toC cs) false = true→∀ c ∈ cs,NL.okN (toN c.2) true = true
 | [],_,c,hc=>by cases hc
 | d :: cs,h,c,hc=>by
  have h:NL.okN (.cse d.1 (toN d.2) (toC cs)) false = true:=h;simp only [NL.okN,Bool.and_eq_true] at h;rcases List.mem_cons.1 hc with rfl | hc
  ·exact h.1.2
  ·exact okN_toC h.2 c hc
theorem cases_of {D m:Nat} {cs:List CD} (ho:NL.okN (toC cs) false = true) (h:∀ c ∈ cs,Entry c D m):CasesR (4 * (toC cs).size + 4) (toC cs):=by
 refine ⟨ho,Nat.succ_pos _,fun n ps bd r hd=>?_⟩;have hsz:=NL.drop_size n (toC cs);rw [hd] at hsz;simp only [NL.size] at hsz;obtain ⟨c,hc,rfl,rfl⟩:=case_drop hd;have he:=h c hc;refine ⟨by simp only [msr];omega,fun l hl=>rightW_L (he.all l hl),by rw [Ps.toN_len];exact he.one,okN_toC ho c hc,fun y hy=>?_⟩;rw [ofN_toN] at hy;exact ⟨_,(he.body y hy).w⟩
theorem command_any (w0:World) (x:ND) (hW:WriteAt w0 (msr (.node x))) (hx:∃ D,W x D):CommandAt w0 x:=by
 obtain ⟨D,hx⟩:=hx;intro a1 c1 a2 c2 a3 c3 a4 c4 a5 c5 acc w hh ho hl;have hk3:=(parts_of hx).2.2
 by_cases k1:x.k = 1
 ·obtain ⟨e,hs⟩:=inv_1 hx k1;generalize x.az = az at e hs;generalize x.ws = ws at e hs;subst e;obtain ⟨r1,r2⟩:=simple_rights hs;exact command_1 w0 _ _ _ _ _ _ _ _ _ _ _ _ _ _ _ _ _ acc _ w (fun w1 h1=>simple_any w0 _ (by simp only [msr];omega) hW _ _ _ az ws _ _ _ _ _ _ _ _ _ _ _ _ _ acc w1 r1 r2 hh.haz hh.hws h1 hl) ho
 by_cases k2:x.k = 2
 ·obtain ⟨a,b,e,_,_,h1,h2,_⟩:=inv_23 hx (.inl k2);rw [k2] at e;subst e
  exact command_2 w0 _ hW (toN [a,b]) _ _ _ _ _ _ _ _ _ _ _ _ _ _ _ _ acc _ w (kids_of hx.ks (msr_kids (nd 2 [a,b])) fun y hy=>by
   simp only [List.mem_cons,List.not_mem_nil,or_false] at hy;rcases hy with rfl | rfl
   ·exact ⟨_,h1⟩
   ·exact ⟨_,h2⟩) rfl hh.hks ho rfl hl
 by_cases k3:x.k = 3
 ·obtain ⟨a,b,e,_,_,h1,h2,_⟩:=inv_23 hx (.inr k3);rw [k3] at e;subst e
  exact command_3 w0 _ hW (toN [a,b]) _ _ _ _ _ _ _ _ _ _ _ _ _ _ _ _ acc _ w (kids_of hx.ks (msr_kids (nd 3 [a,b])) fun y hy=>by
   simp only [List.mem_cons,List.not_mem_nil,or_false] at hy;rcases hy with rfl | rfl
   ·exact ⟨_,h1⟩
   ·exact ⟨_,h2⟩) rfl hh.hks ho rfl hl
 by_cases k4:x.k = 4
 ·obtain ⟨a,e,_,h1,_⟩:=inv_4 hx k4;subst e
  exact command_4 w0 _ hW (toN [a]) _ _ _ _ _ _ _ _ _ _ _ _ _ _ _ _ acc _ w (kids_of hx.ks (msr_kids (nd 4 [a])) fun y hy=>by
   simp only [List.mem_singleton] at hy;subst hy
   exact ⟨_,h1⟩) rfl hh.hks ho rfl hl
 by_cases k5:x.k = 5
 ·obtain ⟨l,e,h1,h2,h3⟩:=inv_5 hx k5;generalize x.bs = bs at e h1;subst e;exact command_5 w0 _ _ _ _ _ _ _ _ _ _ _ _ _ _ _ _ _ acc _ w (fun w1 hw1=>list_any w0 _ hW _ _ _ (toN l) bs _ _ _ _ _ _ _ _ _ _ _ _ _ acc w1 (kids_of hx.ks (msr_kids (listD l bs)) fun y hy=>⟨_,(h3 y hy).2.1⟩) (by rw [Ps.toN_len];exact h1) hh.hks hh.hbs hw1 hl) ho
 by_cases k6:x.k = 6
 ·obtain ⟨l,e,_,h1,h2,_⟩:=inv_ks hx (.inl k6);have hlen:=h2 k6;clear h2;rw [k6] at e;subst e;have hkr:=kids_of hx.ks (msr_kids (nd 6 l)) fun y hy=>⟨_,(h1 y hy).w⟩;rcases hlen with hlen | hlen
  ·match l,hlen with
   | [a,b],_=>exact command_6 w0 _ _ _ _ _ _ _ _ _ _ _ _ _ _ _ _ _ acc _ w (fun w1 hw1=>branch_two w0 _ hW _ _ _ (toN [a,b]) _ _ _ _ _ _ _ _ _ _ _ _ _ _ acc _ w1 hkr rfl hh.hks hw1 rfl hl) ho
  ·match l,hlen with
   | [a,b,c],_=>exact command_6 w0 _ _ _ _ _ _ _ _ _ _ _ _ _ _ _ _ _ acc _ w (fun w1 hw1=>branch_three w0 _ hW _ _ _ (toN [a,b,c]) _ _ _ _ _ _ _ _ _ _ _ _ _ _ acc _ w1 hkr rfl hh.hks hw1 (by rw [tx_63];rfl) hl) ho
 by_cases k7:x.k = 7
 ·obtain ⟨l,e,_,h1,_,h2,_⟩:=inv_ks hx (.inr (.inl k7));have hlen:=h2 (.inl k7);clear h2;rw [k7] at e;subst e;have hkr:=kids_of hx.ks (msr_kids (nd 7 l)) fun y hy=>⟨_,(h1 y hy).w⟩
  match l,hlen with
  | [a,b],_=>exact command_7 w0 _ hW (toN [a,b]) _ _ _ _ _ _ _ _ _ _ _ _ _ _ _ _ acc _ w hkr rfl hh.hks ho rfl hl
 by_cases k8:x.k = 8
 ·obtain ⟨l,e,_,h1,_,h2,_⟩:=inv_ks hx (.inr (.inr (.inl k8)));have hlen:=h2 (.inr k8);clear h2;rw [k8] at e;subst e;have hkr:=kids_of hx.ks (msr_kids (nd 8 l)) fun y hy=>⟨_,(h1 y hy).w⟩
  match l,hlen with
  | [a,b],_=>exact command_8 w0 _ hW (toN [a,b]) _ _ _ _ _ _ _ _ _ _ _ _ _ _ _ _ acc _ w hkr rfl hh.hks ho rfl hl
 by_cases k9:x.k = 9
 ·obtain ⟨y,e,_,hf,h1⟩:=inv_9 hx k9;generalize x.nm = nm at e hf;generalize x.g = g at e hf;generalize x.ws = ws at e hf;subst e;unfold forB at hf;simp only [Bool.and_eq_true] at hf;have hr:∀ l ∈ ws,rightL none l 0 1 = true:=fun l hl=>rightW_L (List.all_eq_true.1 hf.2 l hl);have hkr:=kids_of hx.ks (msr_kids ⟨9,nm,g,[],ws,toN [y],[],.nil⟩) fun z hz=>by
   simp only [List.mem_singleton] at hz;subst hz;exact ⟨_,h1.w⟩
  cases g
  ·exact command_9 w0 _ _ _ _ _ _ _ _ _ _ _ _ _ _ _ _ _ acc _ w (fun w1 hw1=>loop_bare w0 _ hW _ nm ws (toN [y]) _ _ _ _ _ _ _ _ _ _ _ _ _ acc _ w1 hkr rfl hr hh.hws hh.hks hw1 rfl hl) ho
  ·exact command_9 w0 _ _ _ _ _ _ _ _ _ _ _ _ _ _ _ _ _ acc _ w (fun w1 hw1=>loop_given w0 _ hW _ nm ws (toN [y]) _ _ _ _ _ _ _ _ _ _ _ _ _ acc _ w1 hkr rfl hr hh.hws hh.hks hw1 rfl hl) ho
 by_cases k10:x.k = 10
 ·obtain ⟨l,cs,e,_,hr,h1⟩:=inv_10 hx k10;subst e;have hm:msr (.node ⟨10,⟨#[]⟩,false,[],[l],.nil,[],toC cs⟩) = 4 * (toC cs).size + 4:=by
   simp only [msr,sz,NL.size];omega
  rw [hm] at hW;exact command_10 w0 _ _ _ _ _ _ _ _ _ _ _ _ _ _ _ _ _ acc _ w (fun w1 hw1=>choice_any w0 _ hW _ _ _ l (toC cs) _ _ _ _ _ _ _ _ _ _ _ _ _ acc _ w1 (cases_of hx.cz h1) (rightW_L hr) hh.hws hh.hcs hw1 rfl hl) ho
 by_cases k11:x.k = 11
 ·obtain ⟨l,e,_,h1,_,_,h2⟩:=inv_ks hx (.inr (.inr (.inr (.inl k11))));have hlen:=h2 (.inl k11);clear h2;rw [k11] at e;subst e;have hkr:=kids_of hx.ks (msr_kids (nd 11 l)) fun y hy=>⟨_,(h1 y hy).w⟩
  match l,hlen with
  | [a],_=>exact command_11 w0 _ hW (toN [a]) _ _ _ _ _ _ _ _ _ _ _ _ _ _ _ _ acc _ w hkr rfl hh.hks ho rfl hl
 by_cases k12:x.k = 12
 ·obtain ⟨l,e,_,h1,_,_,h2⟩:=inv_ks hx (.inr (.inr (.inr (.inr k12))));have hlen:=h2 (.inr k12);clear h2;rw [k12] at e;subst e;have hkr:=kids_of hx.ks (msr_kids (nd 12 l)) fun y hy=>⟨_,(h1 y hy).w⟩
  match l,hlen with
  | [a],_=>exact command_12 w0 _ hW (toN [a]) _ _ _ _ _ _ _ _ _ _ _ _ _ _ _ _ acc _ w hkr rfl hh.hks ho rfl hl
 by_cases k13:x.k = 13
 ·obtain ⟨y,e,_,_,_,h1,_⟩:=inv_13 hx k13;generalize x.nm = nm at e;subst e;have hkr:=kids_of hx.ks (msr_kids ⟨13,nm,false,[],[],toN [y],[],.nil⟩) fun z hz=>by
   simp only [List.mem_singleton] at hz;subst hz;exact ⟨_,h1⟩
  exact command_13 w0 _ hW (toN [y]) nm _ _ _ _ _ _ _ _ _ _ _ _ _ _ _ acc _ w hkr rfl hh.hks ho rfl hl
 exact absurd hk3 (by unfold kindB;simp [k1,k2,k3,k4,k5,k6,k7,k8,k9,k10,k11,k12,k13])
theorem write_all (w0:World) (m:Int) (hm:w0.cell? ⟨0,0,none⟩ = some (.int .i64 m)):∀ M,WriteAt w0 M:=by
 intro M
 induction M using Nat.strongRecOn with
 | ind M ih=>exact write_step w0 m hm M ih (fun x hx hr=>command_any w0 x (ih _ hx) hr) (fun ps bd h hr=>entry_any w0 ps bd (ih _ h) hr)
end Pw
end Go.Proofs.YtjmpfihopeohbaaGreatDoor
namespace Go.Proofs.YtjmpfihopeohbaaGreatDoor
open Go.RowKit Go.Sort
namespace Pw
open Cls Pt Tr Pr
open Ps (ND CD toN toC nd listD)
theorem end_true:endT true = [32,38] ++ [10]:=rfl
theorem end_false:endT false = [10]:=rfl
theorem line_ne {x:T} {r:List T} {b:Bool} {bs:List Bool}:lineT (x :: r) (b :: bs) ≠ []:=by
 rw [line_cons];cases b <;> simp [endT]
theorem text_program (nm:ByteArray) (g:Bool) (az:List (ByteArray × PL)) (ws:List PL) (ks:NL) (bs:List Bool) (cz:NL) (a1 c1 a2 c2 a3 c3 a4 c4 a5 c5) (m:Int) (w:World)
  (hh:Holds w nm az ws ks bs cz a1 c1 a2 c2 a3 c3 a4 c4 a5 c5) (hok:∀ l ∈ ws,wOK l) (hfk:fitN ks) (hfc:fitN cz) (hm:w.cell? ⟨0,0,none⟩ = some (.int .i64 m))
  (hr:nodeR 5 nm g az ws ks bs cz 1 = true) (hR:∀ x ∈ ofN ks,∃ D,W x D) (hbl:ks.len = bs.length) (hl:(lineT (txt ks) bs).length≤400000) :
  Calls Tryz.prog 8 #[.agg (nodeV 5 nm g a1 az.length c1 a2 ws.length c2 a3 ks.len c3 a4 bs.length c4 a5 cz.len c5)] w fun e w'=>e = .returned (.string ⟨(lineT (txt ks) bs).toArray⟩)∧Below w.heap.size w w':=by
 have hP:=fun X=>program_any 5 nm g az ws ks bs cz a1 c1 a2 c2 a3 c3 a4 c4 a5 c5 m (w.alloc X) (hh.below (bel1 _ _)) hok hfk hfc (cell_below (bel1 _ _) hm);rw [hr,show ((5:Int) == 5 && true) = true from rfl] at hP;have HP:=Lib.hid hP;have HH:=Lib.hid hh;have HM:=Lib.hid hm;have HR:=Lib.hid (show KidsR (4 * ks.size + 4) ks from ⟨hh.okk,by omega,hR⟩);have HBL:=Lib.hid hbl;have HL:=Lib.hid hl;have hle:=hh.hks.le;have hle2:=hh.hbs.le;clear hP hh hok hfk hfc hm hr hR hbl hl;unfold nodeV at HP ⊢
 go_enter Tryz.func8,Tryz.ntmps8;go_wp2_with fail;refine (HP.out _).mono ?_;rintro e w1 ⟨rfl,hb1⟩;have hrow:w1.heap[w.heap.size]? = some (Cells 5 nm g a1 az.length c1 a2 ws.length c2 a3 ks.len c3 a4 bs.length c4 a5 cz.len c5):=(hb1.block _ (by simp)).trans (heap_new' w _);have hb01:Below w.heap.size w w1:=thru (bel1 _ _) hb1;have hlt:w.heap.size < w1.heap.size:=by have:=hb1.size;simp only [World.size_alloc] at this;omega
 have hM1:=cell_below hb01 HM.out;have hh1:=HH.out.below hb01;have HKS:=Lib.hid hh1.hks;have HBS:=Lib.hid hh1.hbs;have HW:=Lib.hid (write_all w1 m hM1 (4 * ks.size + 4));have HROW:=Lib.hid hrow;have HB01:=Lib.hid hb01;have HLT:=Lib.hid hlt;have HO1:=Lib.hid (show Out w1 [] (w1.alloc (.cells #[.pointer none,.slice none 0 0] 51)) from ⟨Lib.IsBuilderF.of (Lib.fresh_isBuilder 51 5 w1),bel1 _ _⟩);have HNEW:=Lib.hid (heap_new' w1 (.cells #[.pointer none,.slice none 0 0] 51));have k5:(w1.alloc (.cells #[.pointer none,.slice none 0 0] 51)).cell? ⟨w.heap.size,5,none⟩ = some (.slice a3 ks.len c3):=cell_below (bel1 w1 _) (Lib.cell_of_heap hrow 5);clear hrow hb01 hM1 hb1 hlt hh1
 by_cases h0:ks.len = 0
 ·have hks:txt ks = []:=by
   cases ks with
   | nil=>rfl
   | node _ _ _ _ _ _ _ _ _=>simp [NL.len] at h0
   | cse _ _ _=>simp [NL.len] at h0
  have hT:lineT (txt ks) bs = []:=by rw [hks];rfl
  have HT0:=Lib.hid hT;have HS0:=Lib.hid (Pb.string_nil w1.heap.size (.pointer none) _ HNEW.out);have HQ:=Lib.hid ((bel1 w1 (.cells #[.pointer none,.slice none 0 0] 51)));clear hT hks;rw [h0] at k5;go_wp2
  go_loopw [12] (fun i wr=>i = .int .i64 0∧wr = w1.alloc (.cells #[.pointer none,.slice none 0 0] 51)) (fun i wr=>0)
  case atStart=>exact ⟨rfl,rfl⟩
  case round =>
   obtain ⟨rfl,rfl⟩:=hrel;go_wp2_with (go_at_call 20;refine HS0.out.mono ?_;rintro e w2 ⟨rfl,hb2⟩);go_ret;exact ⟨by rw [HT0.out];rfl,thru HB01.out (thru (bel1 _ _) hb2)⟩
 ·go_wp2;clear k5
  go_loopw [12] (fun i wr=>∃ (n:Nat) (acc:T),n≤ks.len∧i = .int .i64 n∧Out w1 acc wr∧lineT (txt ks) bs = acc ++ lineT (txt (ks.drop n)) (bs.drop n)) (fun i wr=>ks.len - (intOf i).toNat)
  case atStart=>exact ⟨0,[],Nat.zero_le _,rfl,HO1.out,rfl⟩
  case round =>
   obtain ⟨n,acc,hn,rfl,hi,htx⟩:=hrel;have HI:=Lib.hid hi;have HT:=Lib.hid htx;clear hi htx
   by_cases hlt:n < ks.len
   ·have hltb:n < bs.length:=by have:=HBL.out;omega
    obtain ⟨b,hp⟩:∃ b,bs[n]? = some b:=⟨_,List.getElem?_eq_getElem hltb⟩;have hdb:bs.drop n = b :: bs.drop (n + 1):=by
     rw [List.drop_eq_getElem_cons hltb];rw [List.getElem?_eq_getElem hltb] at hp;injection hp with hp;rw [hp]
    obtain ⟨b4,o4,rfl,hc4⟩:=HBS.out.get hp;rw [Nat.mul_one] at hc4;obtain ⟨k1,nm1,g1,az1,ws1,ks1,bs1,cz1,r,hd1⟩:=NL.drop_node hlt HR.out.ok;obtain ⟨b1,o1,rfl,hb1,x11,d11,x12,d12,x13,d13,x14,d14,x15,d15,hc1,hh1⟩:=HKS.out.getN HR.out.ok hd1;have hb8:=HI.out.b;have c10:wr.cell? ⟨b1,o1 + n * 8,none⟩ = some (.int .i64 k1):=cell_below hb8 (hc1 0 _ rfl);have c11:wr.cell? ⟨b1,o1 + n * 8 + 1,none⟩ = some (.string nm1):=cell_below hb8 (hc1 1 _ rfl);have c12:wr.cell? ⟨b1,o1 + n * 8 + 2,none⟩ = some (.bool g1):=cell_below hb8 (hc1 2 _ rfl);have c13:wr.cell? ⟨b1,o1 + n * 8 + 3,none⟩ = some (.slice x11 az1.length d11):=cell_below hb8 (hc1 3 _ rfl);have c14:wr.cell? ⟨b1,o1 + n * 8 + 4,none⟩ = some (.slice x12 ws1.length d12):=cell_below hb8 (hc1 4 _ rfl);have c15:wr.cell? ⟨b1,o1 + n * 8 + 5,none⟩ = some (.slice x13 ks1.len d13):=cell_below hb8 (hc1 5 _ rfl);have c16:wr.cell? ⟨b1,o1 + n * 8 + 6,none⟩ = some (.slice x14 bs1.length d14):=cell_below hb8 (hc1 6 _ rfl);have c17:wr.cell? ⟨b1,o1 + n * 8 + 7,none⟩ = some (.slice x15 cz1.len d15):=cell_below hb8 (hc1 7 _ rfl);have hT:lineT (txt ks) bs = (acc ++ tx ⟨k1,nm1,g1,az1,ws1,ks1,bs1,cz1⟩ ++ endT b) ++ lineT (txt (ks.drop (n + 1))) (bs.drop (n + 1)):=by
     rw [HT.out,NL.drop_succN hd1,hd1,hdb];simp only [txt,line_cons,List.append_assoc];rfl
    have hlC:=congrArg List.length hT;have hlA:=HL.out;simp only [List.length_append] at hlC;have hCall:=write_one HW.out (.node ⟨k1,nm1,g1,az1,ws1,ks1,bs1,cz1⟩) _ acc (wr.alloc (Cells k1 nm1 g1 x11 az1.length d11 x12 ws1.length d12 x13 ks1.len d13 x14 bs1.length d14 x15 cz1.len d15)) (HR.out.at hd1) ⟨_,_,_,_,_,_,_,_,_,_,rfl,hh1⟩ (HI.out.below (bel1 _ _)) (by simp only [pcT];omega);have hsz1:(wr.alloc (Cells k1 nm1 g1 x11 az1.length d11 x12 ws1.length d12 x13 ks1.len d13 x14 bs1.length d14 x15 cz1.len d15)).heap.size = wr.heap.size + 1:=by simp
    rw [hsz1] at hCall;have HCALL:=Lib.hid (hCall.mono fun _ _ h=>Wrote.from h (bel1 _ _) HI.out.is.lt);have HT2:=Lib.hid hT;have HC4:=Lib.hid hc4;have HLC:=Lib.hid hlC;unfold nodeV Cells at HCALL;clear hCall hT hc1 hh1 hd1 hdb hp hlA hlC hsz1 hc4 hb8;go_wp2_with fail;refine HCALL.out.mono ?_;rintro e w2 ⟨rfl,h3,h4⟩;have hi2:=HI.out.kept h3 h4;have k6:w2.cell? ⟨w.heap.size,6,none⟩ = some (.slice (some ⟨b4,o4,none⟩) bs.length c4):=cell_below hi2.b (Lib.cell_of_heap HROW.out 6);have k4:=cell_below hi2.b HC4.out;have HI2:=Lib.hid hi2;clear h3 h4 hi2;have hlD:=HLC.out;have hlA:=HL.out;clear HLC;cases b
    ·simp only [end_false,List.length_cons,List.length_nil] at hlD;have hC2:=write_one HW.out (.str ⟨#[10]⟩) _ _ w2 ⟨Nat.succ_pos _,trivial⟩ rfl HI2.out (by simp only [pcT,List.length_append,List.length_cons,List.length_nil];omega);have HC2:=Lib.hid hC2;clear hC2 hlD hlA;go_wp2_with (go_at_call 19;refine HC2.out.mono ?_;rintro e w3 ⟨rfl,h5,h6⟩);have H5:=Lib.hid h5;have H6:=Lib.hid h6;clear h5 h6 k4 k6;go_roundw
     case rel=>exact ⟨n + 1,_,by omega,by go_num,HI2.out.kept H5.out H6.out,HT2.out⟩
     case measure=>simp [intOf];omega
    ·simp only [end_true,List.length_append,List.length_cons,List.length_nil] at hlD;have hC2:=write_one HW.out (.str ⟨#[32,38]⟩) _ _ w2 ⟨Nat.succ_pos _,trivial⟩ rfl HI2.out (by simp only [pcT,List.length_append,List.length_cons,List.length_nil];omega);have HC2:=Lib.hid hC2;have HLD:=Lib.hid hlD;clear hC2 hlD;go_wp2_with fail;refine HC2.out.mono ?_;rintro e w3 ⟨rfl,h5,h6⟩;have HI3:=Lib.hid (HI2.out.kept h5 h6);clear h5 h6 k4 k6;have hlD:=HLD.out;have hC3:=write_one HW.out (.str ⟨#[10]⟩) _ _ w3 ⟨Nat.succ_pos _,trivial⟩ rfl HI3.out (by simp only [pcT,List.length_append,List.length_cons,List.length_nil];omega);have HC3:=Lib.hid hC3;clear hC3 hlD hlA HC2;go_wp2_with (go_at_call 19;refine HC3.out.mono ?_;rintro e w4 ⟨rfl,h5,h6⟩);have H5:=Lib.hid h5;have H6:=Lib.hid h6;clear h5 h6;go_roundw
     case rel=>exact ⟨n + 1,_,by omega,by go_num,HI3.out.kept H5.out H6.out,by rw [HT2.out,end_true];simp only [pcT,List.append_assoc]⟩
     case measure=>simp [intOf];omega
   ·obtain rfl:n = ks.len:=by omega
    have hT:lineT (txt ks) bs = acc:=by
     rw [HT.out,NL.drop_end (Nat.le_refl _)];simp [txt,lineT]
    have HT1:=Lib.hid hT;have hne:acc ≠ []:=by
     rw [← hT];cases hk:ks with
     | nil=>rw [hk] at h0;exact absurd rfl h0
     | node _ _ _ _ _ _ _ _ _ =>
      have hb:=HBL.out;rw [hk] at hb;cases hbs:bs with
      | nil=>rw [hbs] at hb;simp [NL.len] at hb
      | cons b bs=>exact line_ne
     | cse _ _ _=>have:=HR.out.ok;rw [hk] at this;simp [NL.okN] at this
    have HS1:=Lib.hid (Pb.string_any _ _ _ HI.out.is hne);clear hT hne;go_wp2_with (go_at_call 20;refine HS1.out.mono ?_;rintro e w2 ⟨rfl,hb2⟩);go_ret;exact ⟨by rw [HT1.out];rfl,thru HB01.out (HI.out.b.trans hb2)⟩
end Pw
end Go.Proofs.YtjmpfihopeohbaaGreatDoor
