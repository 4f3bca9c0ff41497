/- The writer's branch. -/
import Derived.Test.YtjmpfihopeohbaaGreatDoorQwF
set_option maxHeartbeats 4000000
set_option maxRecDepth 100000
namespace Go.Proofs.YtjmpfihopeohbaaGreatDoor
open Go.RowKit Go.Sort
namespace Pw
open Cls Pt Tr Pr
open Ps (ND)
theorem at0_drop:∀ {n:Nat} {l r ks cs:NL} {k:Int} {nm:ByteArray} {g:Bool} {az:List (ByteArray × PL)} {ws:List PL} {bs:List Bool},l.drop n = .node k nm g az ws ks bs cs r→at0 (txt l) n = tx ⟨k,nm,g,az,ws,ks,bs,cs⟩
 | 0,l,_,_,_,_,_,_,_,_,_,h=>by
  have h:l = _:=h;subst h;rfl
 | n + 1,.nil,_,_,_,_,_,_,_,_,_,h=>by simp [NL.drop] at h
 | n + 1,.node _ _ _ _ _ _ _ _ r',_,_,_,_,_,_,_,_,_,h=>at0_drop (n:=n) (l:=r') h
 | n + 1,.cse _ _ r',_,_,_,_,_,_,_,_,_,h=>at0_drop (n:=n) (l:=r') h
theorem branch_two (w0:World) (M:Nat) (hW:WriteAt w0 M) (k:Int) (nm:ByteArray) (g:Bool) (ks:NL) (n1 n2 n4 n5:Nat) (a1 c1 a2 c2 a3 c3 a4 c4 a5 c5) (acc t:T) (w:World)
  (hR:KidsR M ks) (hkl:ks.len = 2) (hk:NLies w0 a3 c3 ks) (ho:Out w0 acc w) (ht:t = kIf ++ ([32] ++ (at0 (txt ks) 0 ++ (kThen ++ ([32] ++ (at0 (txt ks) 1 ++ kFi)))))) (hl:acc.length + t.length≤400000) :
  Calls Tryz.prog 62 #[.pointer (some ⟨w0.heap.size,0,none⟩),.agg #[.int .i64 k,.string nm,.bool g,.slice a1 n1 c1,.slice a2 n2 c2,.slice a3 2 c3,.slice a4 n4 c4,.slice a5 n5 c5]] w (Wrote w0.heap.size (acc ++ t) w):=by
 have HW:=Lib.hid hW;have HR:=Lib.hid hR;have HKS:=Lib.hid hk;have HO:=Lib.hid ho;clear hW hR hk ho;unfold Wrote;go_enter Tryz.func62,Tryz.ntmps62;go_wp2;have hrow:=heap_new' w (Cells k nm g a1 n1 c1 a2 n2 c2 a3 2 c3 a4 n4 c4 a5 n5 c5);have hk0:Pb.Kept w0.heap.size w (w.alloc (Cells k nm g a1 n1 c1 a2 n2 c2 a3 2 c3 a4 n4 c4 a5 n5 c5)):=Pb.Kept.of_below (bel1 _ _) (Nat.le_of_lt HO.out.is.lt);have ho1:=HO.out.below (bel1 w (Cells k nm g a1 n1 c1 a2 n2 c2 a3 2 c3 a4 n4 c4 a5 n5 c5));have hlt:=HO.out.is.lt;unfold Cells at hrow hk0 ho1;generalize w.alloc (.cells #[.int .i64 k,.string nm,.bool g,.slice a1 n1 c1,.slice a2 n2 c2,.slice a3 2 c3,.slice a4 n4 c4,.slice a5 n5 c5] 28) = w1 at hrow hk0 ho1 ⊢
 have HROW:=Lib.hid hrow;have HK0:=Lib.hid hk0;have HO1:=Lib.hid ho1;have HLT:=Lib.hid hlt;clear hrow hk0 ho1 hlt;obtain ⟨kA,nmA,gA,azA,wsA,ksA,bsA,czA,rA,hdA⟩:=NL.drop_node (show 0 < ks.len by omega) HR.out.ok;obtain ⟨bA,oA,eA,hbA,x1A,d1A,x2A,d2A,x3A,d3A,x4A,d4A,x5A,d5A,hcA,hhA⟩:=HKS.out.getN HR.out.ok hdA;obtain rfl:=eA;have cA0:w1.cell? ⟨bA,oA,none⟩ = some (.int .i64 kA):=cell_below HO1.out.b (hcA 0 _ rfl);have cA1:w1.cell? ⟨bA,oA + 1,none⟩ = some (.string nmA):=cell_below HO1.out.b (hcA 1 _ rfl);have cA2:w1.cell? ⟨bA,oA + 2,none⟩ = some (.bool gA):=cell_below HO1.out.b (hcA 2 _ rfl);have cA3:w1.cell? ⟨bA,oA + 3,none⟩ = some (.slice x1A azA.length d1A):=cell_below HO1.out.b (hcA 3 _ rfl);have cA4:w1.cell? ⟨bA,oA + 4,none⟩ = some (.slice x2A wsA.length d2A):=cell_below HO1.out.b (hcA 4 _ rfl);have cA5:w1.cell? ⟨bA,oA + 5,none⟩ = some (.slice x3A ksA.len d3A):=cell_below HO1.out.b (hcA 5 _ rfl);have cA6:w1.cell? ⟨bA,oA + 6,none⟩ = some (.slice x4A bsA.length d4A):=cell_below HO1.out.b (hcA 6 _ rfl);have cA7:w1.cell? ⟨bA,oA + 7,none⟩ = some (.slice x5A czA.len d5A):=cell_below HO1.out.b (hcA 7 _ rfl);obtain ⟨kB,nmB,gB,azB,wsB,ksB,bsB,czB,rB,hdB⟩:=NL.drop_node (show 1 < ks.len by omega) HR.out.ok;obtain ⟨bB,oB,eB,hbB,x1B,d1B,x2B,d2B,x3B,d3B,x4B,d4B,x5B,d5B,hcB,hhB⟩:=HKS.out.getN HR.out.ok hdB;obtain ⟨rfl,rfl⟩:bA = bB∧oA = oB:=by simpa using eB
 have cB0:w1.cell? ⟨bA,oA + 8,none⟩ = some (.int .i64 kB):=cell_below HO1.out.b (hcB 0 _ rfl);have cB1:w1.cell? ⟨bA,oA + 9,none⟩ = some (.string nmB):=cell_below HO1.out.b (hcB 1 _ rfl);have cB2:w1.cell? ⟨bA,oA + 10,none⟩ = some (.bool gB):=cell_below HO1.out.b (hcB 2 _ rfl);have cB3:w1.cell? ⟨bA,oA + 11,none⟩ = some (.slice x1B azB.length d1B):=cell_below HO1.out.b (hcB 3 _ rfl);have cB4:w1.cell? ⟨bA,oA + 12,none⟩ = some (.slice x2B wsB.length d2B):=cell_below HO1.out.b (hcB 4 _ rfl);have cB5:w1.cell? ⟨bA,oA + 13,none⟩ = some (.slice x3B ksB.len d3B):=cell_below HO1.out.b (hcB 5 _ rfl);have cB6:w1.cell? ⟨bA,oA + 14,none⟩ = some (.slice x4B bsB.length d4B):=cell_below HO1.out.b (hcB 6 _ rfl);have cB7:w1.cell? ⟨bA,oA + 15,none⟩ = some (.slice x5B czB.len d5B):=cell_below HO1.out.b (hcB 7 _ rfl);have r5:=zc5 HROW.out;have h0:=at0_drop hdA;have h1:=at0_drop hdB;rw [h0,h1] at ht;have hlA:=congrArg List.length ht;simp only [List.length_append,kIf,kThen,kElse,kFi,List.length_cons,List.length_nil] at hlA
 have hCall:=fun w' (h:Out w0 acc w')=>write_row HW.out [.str ⟨#[105,102,32]⟩,.node ⟨kA,nmA,gA,azA,wsA,ksA,bsA,czA⟩,.str ⟨#[116,104,101,110,32]⟩,.node ⟨kB,nmB,gB,azB,wsB,ksB,bsB,czB⟩] [.iface 9 (.string ⟨#[105,102,32]⟩),.iface 28 (.agg #[.int .i64 kA,.string nmA,.bool gA,.slice x1A azA.length d1A,.slice x2A wsA.length d2A,.slice x3A ksA.len d3A,.slice x4A bsA.length d4A,.slice x5A czA.len d5A]),.iface 9 (.string ⟨#[116,104,101,110,32]⟩),.iface 28 (.agg #[.int .i64 kB,.string nmB,.bool gB,.slice x1B azB.length d1B,.slice x2B wsB.length d2B,.slice x3B ksB.len d3B,.slice x4B bsB.length d4B,.slice x5B czB.len d5B])] acc w' (by
  intro p hp;simp only [List.mem_cons,List.not_mem_nil,or_false] at hp;have hm:0 < M:=by have:=HR.out.m;omega
  rcases hp with rfl | rfl | rfl | rfl
  ·exact ⟨hm,trivial⟩
  ·exact HR.out.at hdA
  ·exact ⟨hm,trivial⟩
  ·exact HR.out.at hdB) (.cons rfl (.cons ⟨_,_,_,_,_,_,_,_,_,_,rfl,hhA⟩ (.cons rfl (.cons ⟨_,_,_,_,_,_,_,_,_,_,rfl,hhB⟩ .nil)))) (by simp) h (by
  simp only [pcsT,pcT,List.map_cons,List.map_nil,List.flatten_cons,List.flatten_nil,List.length_append,List.length_cons,List.length_nil] at hlA ⊢;omega)
 have HCALL:=Lib.hid hCall;have HLN:=Lib.hid hl;have HLA:=Lib.hid hlA;have HT:=Lib.hid ht;have HKL:=Lib.hid hkl;clear hCall hl ht hhA hhB hdA hdB hcA hcB eB h0 h1 hlA hkl;have hoq0:∀ wd,Below w1.heap.size w1 wd→Out w0 acc wd∧Pb.Kept w0.heap.size w wd∧wd.heap[w.heap.size]? = some (.cells #[.int .i64 k,.string nm,.bool g,.slice a1 n1 c1,.slice a2 n2 c2,.slice (some ⟨bA,oA,none⟩) 2 c3,.slice a4 n4 c4,.slice a5 n5 c5] 28 (0,0)):=fun wd hb=>⟨HO1.out.below hb,HK0.out.trans (Pb.Kept.of_below hb (Nat.le_of_lt HO1.out.is.lt)),row_kept HROW.out HLT.out (Pb.Kept.of_below hb (Nat.le_of_lt HO1.out.is.lt))⟩;have HOD:=Lib.hid hoq0;clear hoq0;refine RN.begins (fun wq=>Below w1.heap.size w1 wq) [14] (by kernel_rfl) ?_;have hS:(fun wq=>Below w1.heap.size w1 wq) w1.drew:=⟨rfl,rfl,rfl,Nat.le_refl _,fun _ _=>rfl⟩;have hSz:Below w1.heap.size w1 w1.drew:=hS;generalize w1.drew = wd at hS hSz ⊢
 refine RN.tk (i:=0) (v:=?_) rfl hS ?_ ?_;rotate_left 1
 ·(intro wq hq;skip;go_simp;try with_reducible rfl)
 refine RN.tk (i:=1) (v:=?_) rfl hS ?_ ?_;rotate_left 1
 ·(intro wq hq;skip;go_simp;try with_reducible rfl)
 refine RN.tk (i:=2) (v:=?_) rfl hS ?_ ?_;rotate_left 1
 ·(intro wq hq;skip;go_simp;try with_reducible rfl)
 refine RN.tk (i:=3) (v:=?_) rfl hS ?_ ?_;rotate_left 1
 ·(intro wq hq;have s:=cell_below hq r5;go_simp;try with_reducible rfl)
 refine RN.tk (i:=4) (v:=?_) rfl hS ?_ ?_;rotate_left 1
 ·(intro wq hq;skip;go_simp;try with_reducible rfl)
 refine RN.tk (i:=5) (v:=?_) rfl hS ?_ ?_;rotate_left 1
 ·(intro wq hq;have s0:=cell_below hq cA0;have s1:=cell_below hq cA1;have s2:=cell_below hq cA2;have s3:=cell_below hq cA3;have s4:=cell_below hq cA4;have s5:=cell_below hq cA5;have s6:=cell_below hq cA6;have s7:=cell_below hq cA7;go_simp;try with_reducible rfl)
 refine RN.tk (i:=6) (v:=?_) rfl hS ?_ ?_;rotate_left 1
 ·(intro wq hq;skip;go_simp;try with_reducible rfl)
 refine RN.tk (i:=7) (v:=?_) rfl hS ?_ ?_;rotate_left 1
 ·(intro wq hq;skip;go_simp;try with_reducible rfl)
 refine RN.tk (i:=8) (v:=?_) rfl hS ?_ ?_;rotate_left 1
 ·(intro wq hq;skip;go_simp;try with_reducible rfl)
 refine RN.tk (i:=9) (v:=?_) rfl hS ?_ ?_;rotate_left 1
 ·(intro wq hq;have s:=cell_below hq r5;go_simp;try with_reducible rfl)
 refine RN.tk (i:=10) (v:=?_) rfl hS ?_ ?_;rotate_left 1
 ·(intro wq hq;skip;go_simp;try with_reducible rfl)
 refine RN.tk (i:=11) (v:=?_) rfl hS ?_ ?_;rotate_left 1
 ·(intro wq hq;have s0:=cell_below hq cB0;have s1:=cell_below hq cB1;have s2:=cell_below hq cB2;have s3:=cell_below hq cB3;have s4:=cell_below hq cB4;have s5:=cell_below hq cB5;have s6:=cell_below hq cB6;have s7:=cell_below hq cB7;go_simp;try with_reducible rfl)
 refine RN.tk (i:=12) (v:=?_) rfl hS ?_ ?_;rotate_left 1
 ·(intro wq hq;skip;go_simp;try with_reducible rfl)
 refine RN.all (rs:=[13]) (by kernel_rfl) (by simp) ?_;refine RN.All.cons rfl (fun K hK=>?_) RN.All.nil;go_simp;have hS1:=Below.trans hSz (bel1 wd (.cells #[.iface 9 (.string ⟨#[105,102,32]⟩),.iface 28 (.agg #[.int .i64 kA,.string nmA,.bool gA,.slice x1A azA.length d1A,.slice x2A wsA.length d2A,.slice x3A ksA.len d3A,.slice x4A bsA.length d4A,.slice x5A czA.len d5A]),.iface 9 (.string ⟨#[116,104,101,110,32]⟩),.iface 28 (.agg #[.int .i64 kB,.string nmB,.bool gB,.slice x1B azB.length d1B,.slice x2B wsB.length d2B,.slice x3B ksB.len d3B,.slice x4B bsB.length d4B,.slice x5B czB.len d5B])] 20) |>.mono (Below.size hSz));refine hK _ _ (fun _=>hS1) ?_;clear hK K hS1;refine RN.all (rs:=[14]) (by kernel_rfl) (by simp) ?_;refine RN.All.cons rfl (fun K hK=>?_) RN.All.nil;go_simp;obtain ⟨hoq,hkq,hrow⟩:=HOD.out wd hSz;have HOQ:=Lib.hid hoq;have HKQ:=Lib.hid hkq;have HRQ:=Lib.hid hrow;clear hoq hkq hrow hSz  cA0 cB0 cA1 cB1 cA2 cB2 cA3 cB3 cA4 cB4 cA5 cB5 cA6 cB6 cA7 cB7 r5;refine (HCALL.out wd HOQ.out).mono ?_;rintro e w2 ⟨rfl,h3,h4⟩;refine hK _ _ (fun h=>by cases h) ?_;clear hK K;refine RN.done (by kernel_rfl) ?_ _;have hrow:=row_kept HRQ.out HLT.out h4;have r5:=zc5 hrow;have HO2:=Lib.hid (HOQ.out.kept h3 h4);have HK2:=Lib.hid (HKQ.out.trans h4);have HR2:=Lib.hid hrow;clear h3 h4 hrow
 have hF:=write_one HW.out (.str ⟨#[102,105]⟩) _ _ w2 ⟨HR.out.pos,trivial⟩ rfl HO2.out (by
  have:=HLA.out;have:=HLN.out
  simp only [pcsT,pcT,List.map_cons,List.map_nil,List.flatten_cons,List.flatten_nil,List.length_append,List.length_cons,List.length_nil];omega)
 have HF:=Lib.hid hF;clear hF;go_wp2_with (go_at_call 19;refine (HF.out).mono ?_;rintro e w3 ⟨rfl,h5,h6⟩);go_end0;refine ⟨rfl,?_,HK2.out.trans h6⟩;rw [HT.out];simpa [pcsT,pcT,kIf,kThen,kFi,List.append_assoc] using h5
theorem branch_three (w0:World) (M:Nat) (hW:WriteAt w0 M) (k:Int) (nm:ByteArray) (g:Bool) (ks:NL) (n1 n2 n4 n5:Nat) (a1 c1 a2 c2 a3 c3 a4 c4 a5 c5) (acc t:T) (w:World)
  (hR:KidsR M ks) (hkl:ks.len = 3) (hk:NLies w0 a3 c3 ks) (ho:Out w0 acc w) (ht:t = kIf ++ ([32] ++ (at0 (txt ks) 0 ++ (kThen ++ ([32] ++ (at0 (txt ks) 1 ++ (kElse ++ ([32] ++ (at0 (txt ks) 2 ++ kFi))))))))) (hl:acc.length + t.length≤400000) :
  Calls Tryz.prog 62 #[.pointer (some ⟨w0.heap.size,0,none⟩),.agg #[.int .i64 k,.string nm,.bool g,.slice a1 n1 c1,.slice a2 n2 c2,.slice a3 3 c3,.slice a4 n4 c4,.slice a5 n5 c5]] w (Wrote w0.heap.size (acc ++ t) w):=by
 have HW:=Lib.hid hW;have HR:=Lib.hid hR;have HKS:=Lib.hid hk;have HO:=Lib.hid ho;clear hW hR hk ho;unfold Wrote;go_enter Tryz.func62,Tryz.ntmps62;go_wp2;have hrow:=heap_new' w (Cells k nm g a1 n1 c1 a2 n2 c2 a3 3 c3 a4 n4 c4 a5 n5 c5);have hk0:Pb.Kept w0.heap.size w (w.alloc (Cells k nm g a1 n1 c1 a2 n2 c2 a3 3 c3 a4 n4 c4 a5 n5 c5)):=Pb.Kept.of_below (bel1 _ _) (Nat.le_of_lt HO.out.is.lt);have ho1:=HO.out.below (bel1 w (Cells k nm g a1 n1 c1 a2 n2 c2 a3 3 c3 a4 n4 c4 a5 n5 c5));have hlt:=HO.out.is.lt;unfold Cells at hrow hk0 ho1;generalize w.alloc (.cells #[.int .i64 k,.string nm,.bool g,.slice a1 n1 c1,.slice a2 n2 c2,.slice a3 3 c3,.slice a4 n4 c4,.slice a5 n5 c5] 28) = w1 at hrow hk0 ho1 ⊢
 have HROW:=Lib.hid hrow;have HK0:=Lib.hid hk0;have HO1:=Lib.hid ho1;have HLT:=Lib.hid hlt;clear hrow hk0 ho1 hlt;obtain ⟨kA,nmA,gA,azA,wsA,ksA,bsA,czA,rA,hdA⟩:=NL.drop_node (show 0 < ks.len by omega) HR.out.ok;obtain ⟨bA,oA,eA,hbA,x1A,d1A,x2A,d2A,x3A,d3A,x4A,d4A,x5A,d5A,hcA,hhA⟩:=HKS.out.getN HR.out.ok hdA;obtain rfl:=eA;have cA0:w1.cell? ⟨bA,oA,none⟩ = some (.int .i64 kA):=cell_below HO1.out.b (hcA 0 _ rfl);have cA1:w1.cell? ⟨bA,oA + 1,none⟩ = some (.string nmA):=cell_below HO1.out.b (hcA 1 _ rfl);have cA2:w1.cell? ⟨bA,oA + 2,none⟩ = some (.bool gA):=cell_below HO1.out.b (hcA 2 _ rfl);have cA3:w1.cell? ⟨bA,oA + 3,none⟩ = some (.slice x1A azA.length d1A):=cell_below HO1.out.b (hcA 3 _ rfl);have cA4:w1.cell? ⟨bA,oA + 4,none⟩ = some (.slice x2A wsA.length d2A):=cell_below HO1.out.b (hcA 4 _ rfl);have cA5:w1.cell? ⟨bA,oA + 5,none⟩ = some (.slice x3A ksA.len d3A):=cell_below HO1.out.b (hcA 5 _ rfl);have cA6:w1.cell? ⟨bA,oA + 6,none⟩ = some (.slice x4A bsA.length d4A):=cell_below HO1.out.b (hcA 6 _ rfl);have cA7:w1.cell? ⟨bA,oA + 7,none⟩ = some (.slice x5A czA.len d5A):=cell_below HO1.out.b (hcA 7 _ rfl);obtain ⟨kB,nmB,gB,azB,wsB,ksB,bsB,czB,rB,hdB⟩:=NL.drop_node (show 1 < ks.len by omega) HR.out.ok;obtain ⟨bB,oB,eB,hbB,x1B,d1B,x2B,d2B,x3B,d3B,x4B,d4B,x5B,d5B,hcB,hhB⟩:=HKS.out.getN HR.out.ok hdB;obtain ⟨rfl,rfl⟩:bA = bB∧oA = oB:=by simpa using eB
 have cB0:w1.cell? ⟨bA,oA + 8,none⟩ = some (.int .i64 kB):=cell_below HO1.out.b (hcB 0 _ rfl);have cB1:w1.cell? ⟨bA,oA + 9,none⟩ = some (.string nmB):=cell_below HO1.out.b (hcB 1 _ rfl);have cB2:w1.cell? ⟨bA,oA + 10,none⟩ = some (.bool gB):=cell_below HO1.out.b (hcB 2 _ rfl);have cB3:w1.cell? ⟨bA,oA + 11,none⟩ = some (.slice x1B azB.length d1B):=cell_below HO1.out.b (hcB 3 _ rfl);have cB4:w1.cell? ⟨bA,oA + 12,none⟩ = some (.slice x2B wsB.length d2B):=cell_below HO1.out.b (hcB 4 _ rfl);have cB5:w1.cell? ⟨bA,oA + 13,none⟩ = some (.slice x3B ksB.len d3B):=cell_below HO1.out.b (hcB 5 _ rfl);have cB6:w1.cell? ⟨bA,oA + 14,none⟩ = some (.slice x4B bsB.length d4B):=cell_below HO1.out.b (hcB 6 _ rfl);have cB7:w1.cell? ⟨bA,oA + 15,none⟩ = some (.slice x5B czB.len d5B):=cell_below HO1.out.b (hcB 7 _ rfl);have r5:=zc5 HROW.out;have h0:=at0_drop hdA;have h1:=at0_drop hdB;rw [h0,h1] at ht;have hlA:=congrArg List.length ht;simp only [List.length_append,kIf,kThen,kElse,kFi,List.length_cons,List.length_nil] at hlA
 have hCall:=fun w' (h:Out w0 acc w')=>write_row HW.out [.str ⟨#[105,102,32]⟩,.node ⟨kA,nmA,gA,azA,wsA,ksA,bsA,czA⟩,.str ⟨#[116,104,101,110,32]⟩,.node ⟨kB,nmB,gB,azB,wsB,ksB,bsB,czB⟩] [.iface 9 (.string ⟨#[105,102,32]⟩),.iface 28 (.agg #[.int .i64 kA,.string nmA,.bool gA,.slice x1A azA.length d1A,.slice x2A wsA.length d2A,.slice x3A ksA.len d3A,.slice x4A bsA.length d4A,.slice x5A czA.len d5A]),.iface 9 (.string ⟨#[116,104,101,110,32]⟩),.iface 28 (.agg #[.int .i64 kB,.string nmB,.bool gB,.slice x1B azB.length d1B,.slice x2B wsB.length d2B,.slice x3B ksB.len d3B,.slice x4B bsB.length d4B,.slice x5B czB.len d5B])] acc w' (by
  intro p hp;simp only [List.mem_cons,List.not_mem_nil,or_false] at hp;have hm:0 < M:=by have:=HR.out.m;omega
  rcases hp with rfl | rfl | rfl | rfl
  ·exact ⟨hm,trivial⟩
  ·exact HR.out.at hdA
  ·exact ⟨hm,trivial⟩
  ·exact HR.out.at hdB) (.cons rfl (.cons ⟨_,_,_,_,_,_,_,_,_,_,rfl,hhA⟩ (.cons rfl (.cons ⟨_,_,_,_,_,_,_,_,_,_,rfl,hhB⟩ .nil)))) (by simp) h (by
  simp only [pcsT,pcT,List.map_cons,List.map_nil,List.flatten_cons,List.flatten_nil,List.length_append,List.length_cons,List.length_nil] at hlA ⊢;omega)
 have HCALL:=Lib.hid hCall;have HLN:=Lib.hid hl;have HLA:=Lib.hid hlA;have HT:=Lib.hid ht;have HKL:=Lib.hid hkl;clear hCall hl ht hhA hhB hdA hdB hcA hcB eB h0 h1 hlA hkl;have hoq0:∀ wd,Below w1.heap.size w1 wd→Out w0 acc wd∧Pb.Kept w0.heap.size w wd∧wd.heap[w.heap.size]? = some (.cells #[.int .i64 k,.string nm,.bool g,.slice a1 n1 c1,.slice a2 n2 c2,.slice (some ⟨bA,oA,none⟩) 3 c3,.slice a4 n4 c4,.slice a5 n5 c5] 28 (0,0)):=fun wd hb=>⟨HO1.out.below hb,HK0.out.trans (Pb.Kept.of_below hb (Nat.le_of_lt HO1.out.is.lt)),row_kept HROW.out HLT.out (Pb.Kept.of_below hb (Nat.le_of_lt HO1.out.is.lt))⟩;have HOD:=Lib.hid hoq0;clear hoq0;refine RN.begins (fun wq=>Below w1.heap.size w1 wq) [14] (by kernel_rfl) ?_;have hS:(fun wq=>Below w1.heap.size w1 wq) w1.drew:=⟨rfl,rfl,rfl,Nat.le_refl _,fun _ _=>rfl⟩;have hSz:Below w1.heap.size w1 w1.drew:=hS;generalize w1.drew = wd at hS hSz ⊢
 refine RN.tk (i:=0) (v:=?_) rfl hS ?_ ?_;rotate_left 1
 ·(intro wq hq;skip;go_simp;try with_reducible rfl)
 refine RN.tk (i:=1) (v:=?_) rfl hS ?_ ?_;rotate_left 1
 ·(intro wq hq;skip;go_simp;try with_reducible rfl)
 refine RN.tk (i:=2) (v:=?_) rfl hS ?_ ?_;rotate_left 1
 ·(intro wq hq;skip;go_simp;try with_reducible rfl)
 refine RN.tk (i:=3) (v:=?_) rfl hS ?_ ?_;rotate_left 1
 ·(intro wq hq;have s:=cell_below hq r5;go_simp;try with_reducible rfl)
 refine RN.tk (i:=4) (v:=?_) rfl hS ?_ ?_;rotate_left 1
 ·(intro wq hq;skip;go_simp;try with_reducible rfl)
 refine RN.tk (i:=5) (v:=?_) rfl hS ?_ ?_;rotate_left 1
 ·(intro wq hq;have s0:=cell_below hq cA0;have s1:=cell_below hq cA1;have s2:=cell_below hq cA2;have s3:=cell_below hq cA3;have s4:=cell_below hq cA4;have s5:=cell_below hq cA5;have s6:=cell_below hq cA6;have s7:=cell_below hq cA7;go_simp;try with_reducible rfl)
 refine RN.tk (i:=6) (v:=?_) rfl hS ?_ ?_;rotate_left 1
 ·(intro wq hq;skip;go_simp;try with_reducible rfl)
 refine RN.tk (i:=7) (v:=?_) rfl hS ?_ ?_;rotate_left 1
 ·(intro wq hq;skip;go_simp;try with_reducible rfl)
 refine RN.tk (i:=8) (v:=?_) rfl hS ?_ ?_;rotate_left 1
 ·(intro wq hq;skip;go_simp;try with_reducible rfl)
 refine RN.tk (i:=9) (v:=?_) rfl hS ?_ ?_;rotate_left 1
 ·(intro wq hq;have s:=cell_below hq r5;go_simp;try with_reducible rfl)
 refine RN.tk (i:=10) (v:=?_) rfl hS ?_ ?_;rotate_left 1
 ·(intro wq hq;skip;go_simp;try with_reducible rfl)
 refine RN.tk (i:=11) (v:=?_) rfl hS ?_ ?_;rotate_left 1
 ·(intro wq hq;have s0:=cell_below hq cB0;have s1:=cell_below hq cB1;have s2:=cell_below hq cB2;have s3:=cell_below hq cB3;have s4:=cell_below hq cB4;have s5:=cell_below hq cB5;have s6:=cell_below hq cB6;have s7:=cell_below hq cB7;go_simp;try with_reducible rfl)
 refine RN.tk (i:=12) (v:=?_) rfl hS ?_ ?_;rotate_left 1
 ·(intro wq hq;skip;go_simp;try with_reducible rfl)
 refine RN.all (rs:=[13]) (by kernel_rfl) (by simp) ?_;refine RN.All.cons rfl (fun K hK=>?_) RN.All.nil;go_simp;have hS1:=Below.trans hSz (bel1 wd (.cells #[.iface 9 (.string ⟨#[105,102,32]⟩),.iface 28 (.agg #[.int .i64 kA,.string nmA,.bool gA,.slice x1A azA.length d1A,.slice x2A wsA.length d2A,.slice x3A ksA.len d3A,.slice x4A bsA.length d4A,.slice x5A czA.len d5A]),.iface 9 (.string ⟨#[116,104,101,110,32]⟩),.iface 28 (.agg #[.int .i64 kB,.string nmB,.bool gB,.slice x1B azB.length d1B,.slice x2B wsB.length d2B,.slice x3B ksB.len d3B,.slice x4B bsB.length d4B,.slice x5B czB.len d5B])] 20) |>.mono (Below.size hSz));refine hK _ _ (fun _=>hS1) ?_;clear hK K hS1;refine RN.all (rs:=[14]) (by kernel_rfl) (by simp) ?_;refine RN.All.cons rfl (fun K hK=>?_) RN.All.nil;go_simp;obtain ⟨hoq,hkq,hrow⟩:=HOD.out wd hSz;have HOQ:=Lib.hid hoq;have HKQ:=Lib.hid hkq;have HRQ:=Lib.hid hrow;clear hoq hkq hrow hSz  cA0 cB0 cA1 cB1 cA2 cB2 cA3 cB3 cA4 cB4 cA5 cB5 cA6 cB6 cA7 cB7 r5;refine (HCALL.out wd HOQ.out).mono ?_;rintro e w2 ⟨rfl,h3,h4⟩;refine hK _ _ (fun h=>by cases h) ?_;clear hK K;refine RN.done (by kernel_rfl) ?_ _;have hrow:=row_kept HRQ.out HLT.out h4;have r5:=zc5 hrow;have HO2:=Lib.hid (HOQ.out.kept h3 h4);have HK2:=Lib.hid (HKQ.out.trans h4);have HR2:=Lib.hid hrow;clear h3 h4 hrow;obtain ⟨k1,nm1,g1,az1,ws1,ks1,bs1,cz1,r1,hd1⟩:=NL.drop_node (show 2 < ks.len by have:=HKL.out;omega) HR.out.ok;obtain ⟨b1,o1,e1,hb1,x11,d11,x12,d12,x13,d13,x14,d14,x15,d15,hc1,hh1⟩:=HKS.out.getN HR.out.ok hd1;obtain ⟨rfl,rfl⟩:bA = b1∧oA = o1:=by simpa using e1
 have hb8:=HO2.out.b;have c10:w2.cell? ⟨bA,oA + 16,none⟩ = some (.int .i64 k1):=cell_below hb8 (hc1 0 _ rfl);have c11:w2.cell? ⟨bA,oA + 17,none⟩ = some (.string nm1):=cell_below hb8 (hc1 1 _ rfl);have c12:w2.cell? ⟨bA,oA + 18,none⟩ = some (.bool g1):=cell_below hb8 (hc1 2 _ rfl);have c13:w2.cell? ⟨bA,oA + 19,none⟩ = some (.slice x11 az1.length d11):=cell_below hb8 (hc1 3 _ rfl);have c14:w2.cell? ⟨bA,oA + 20,none⟩ = some (.slice x12 ws1.length d12):=cell_below hb8 (hc1 4 _ rfl);have c15:w2.cell? ⟨bA,oA + 21,none⟩ = some (.slice x13 ks1.len d13):=cell_below hb8 (hc1 5 _ rfl);have c16:w2.cell? ⟨bA,oA + 22,none⟩ = some (.slice x14 bs1.length d14):=cell_below hb8 (hc1 6 _ rfl);have c17:w2.cell? ⟨bA,oA + 23,none⟩ = some (.slice x15 cz1.len d15):=cell_below hb8 (hc1 7 _ rfl);have hlA:=HLA.out;rw [at0_drop hd1] at hlA;have hT:=HT.out;rw [at0_drop hd1] at hT;have hl:=HLN.out
 have hG:=write_two HW.out (.str ⟨#[101,108,115,101,32]⟩) (.node ⟨k1,nm1,g1,az1,ws1,ks1,bs1,cz1⟩) _ _ _ w2 ⟨HR.out.pos,trivial⟩ (HR.out.at hd1) rfl ⟨_,_,_,_,_,_,_,_,_,_,rfl,hh1⟩ HO2.out (by
  simp only [pcsT,pcT,List.map_cons,List.map_nil,List.flatten_cons,List.flatten_nil,List.length_append,List.length_cons,List.length_nil];omega)
 have HG:=Lib.hid hG;have HT2:=Lib.hid hT;have HLB:=Lib.hid hlA;unfold nodeV at HG;clear hG hT hl hlA hb8 hc1 hh1 hd1 e1;go_wp2_with fail;refine (HG.out).mono ?_;rintro e w3 ⟨rfl,h5,h6⟩;have HO3:=Lib.hid (HO2.out.kept h5 h6);have HK3:=Lib.hid (HK2.out.trans h6);clear h5 h6 r5 c10 c11 c12 c13 c14 c15 c16 c17
 have hF:=write_one HW.out (.str ⟨#[102,105]⟩) _ _ w3 ⟨HR.out.pos,trivial⟩ rfl HO3.out (by
  have:=HLB.out;have:=HLN.out
  simp only [pcsT,pcT,List.map_cons,List.map_nil,List.flatten_cons,List.flatten_nil,List.length_append,List.length_cons,List.length_nil];omega)
 have HF:=Lib.hid hF;clear hF;go_wp2_with (go_at_call 19;refine (HF.out).mono ?_;rintro e w4 ⟨rfl,h5,h6⟩);go_end0;refine ⟨rfl,?_,HK3.out.trans h6⟩;rw [HT2.out];simpa [pcsT,pcT,kIf,kThen,kElse,kFi,List.append_assoc] using h5
end Pw
end Go.Proofs.YtjmpfihopeohbaaGreatDoor
namespace Go.Proofs.YtjmpfihopeohbaaGreatDoor
open Go.RowKit Go.Sort
namespace Pw
open Cls Pt Tr Pr
open Ps (ND)
theorem loop_bare (w0:World) (M:Nat) (hW:WriteAt w0 M) (k:Int) (nm:ByteArray) (ws:List PL) (ks:NL) (n1 n4 n5:Nat) (a1 c1 a2 c2 a3 c3 a4 c4 a5 c5) (acc t:T) (w:World)
  (hR:KidsR M ks) (hkl:ks.len = 1) (hrw:∀ l ∈ ws,rightL none l 0 1 = true) (hw:Sl 1 (PW w0) a2 c2 ws) (hk:NLies w0 a3 c3 ks) (ho:Out w0 acc w) (ht:t = kFor ++ ([32] ++ (nm.data.toList ++ (([32] ++ (kDo ++ ([32] ++ (at0 (txt ks) 0 ++ kDone)))))))) (hl:acc.length + t.length≤400000) :
  Calls Tryz.prog 63 #[.pointer (some ⟨w0.heap.size,0,none⟩),.agg #[.int .i64 k,.string nm,.bool false,.slice a1 n1 c1,.slice a2 ws.length c2,.slice a3 1 c3,.slice a4 n4 c4,.slice a5 n5 c5]] w (Wrote w0.heap.size (acc ++ t) w):=by
 have HW:=Lib.hid hW;have HR:=Lib.hid hR;have HKS:=Lib.hid hk;have HO:=Lib.hid ho;have HRW:=Lib.hid hrw;have HWS:=Lib.hid hw;have HKL:=Lib.hid hkl;have HLN:=Lib.hid hl;have hle:=hw.le;clear hW hR hk ho hrw hw hkl hl;unfold Wrote;have hrow:=heap_new' w (.cells #[.int .i64 k,.string nm,.bool false,.slice a1 n1 c1,.slice a2 ws.length c2,.slice a3 1 c3,.slice a4 n4 c4,.slice a5 n5 c5] 28);have hk0:Pb.Kept w0.heap.size w (w.alloc (.cells #[.int .i64 k,.string nm,.bool false,.slice a1 n1 c1,.slice a2 ws.length c2,.slice a3 1 c3,.slice a4 n4 c4,.slice a5 n5 c5] 28)):=Pb.Kept.of_below (bel1 _ _) (Nat.le_of_lt HO.out.is.lt);have ho1:=HO.out.below (bel1 w (.cells #[.int .i64 k,.string nm,.bool false,.slice a1 n1 c1,.slice a2 ws.length c2,.slice a3 1 c3,.slice a4 n4 c4,.slice a5 n5 c5] 28));have hlt:=HO.out.is.lt;have hlA:=congrArg List.length ht;simp only [List.length_append,kFor,kIn,kDo,kDone,List.length_cons,List.length_nil] at hlA;have HROW:=Lib.hid hrow;have HK0:=Lib.hid hk0;have HO1:=Lib.hid ho1;have HLT:=Lib.hid hlt;have HT:=Lib.hid ht;have HLA:=Lib.hid hlA;clear hrow hk0 ho1 hlt ht hlA;go_enter Tryz.func63,Tryz.ntmps63;have hsz:(w.alloc (.cells #[.int .i64 k,.string nm,.bool false,.slice a1 n1 c1,.slice a2 ws.length c2,.slice a3 1 c3,.slice a4 n4 c4,.slice a5 n5 c5] 28)).heap.size = w.heap.size + 1:=by simp
 have hC1:=write_two HW.out (.str ⟨#[102,111,114,32]⟩) (.str nm) _ _ acc (w.alloc (.cells #[.int .i64 k,.string nm,.bool false,.slice a1 n1 c1,.slice a2 ws.length c2,.slice a3 1 c3,.slice a4 n4 c4,.slice a5 n5 c5] 28)) ⟨HR.out.pos,trivial⟩ ⟨HR.out.pos,trivial⟩ rfl rfl HO1.out (by
  have:=HLA.out;have:=HLN.out;have hn:=lenB nm
  simp only [pcT,List.length_cons,List.length_nil];omega)
 rw [hsz] at hC1;have HC1:=Lib.hid hC1;clear hC1 hsz;go_wp2_with fail;refine (HC1.out).mono ?_;rintro e w2 ⟨rfl,h3,h4⟩;have hrow:=row_kept HROW.out HLT.out h4;have r2:=zc2 hrow;have HO2:=Lib.hid (HO1.out.kept h3 h4);have HK2:=Lib.hid (HK0.out.trans h4);have HR2:=Lib.hid hrow;clear h3 h4 hrow
 have HEND:=Lib.hid (show acc ++ t = (acc ++ (pcT (.str ⟨#[102,111,114,32]⟩) ++ pcT (.str nm))) ++ ([32] ++ (kDo ++ ([32] ++ (at0 (txt ks) 0 ++ kDone)))) by
  rw [HT.out];simp [pcT,kFor,List.append_assoc])
 obtain ⟨k1,nm1,g1,az1,ws1,ks1,bs1,cz1,r1,hd1⟩:=NL.drop_node (show 0 < ks.len by have:=HKL.out;omega) HR.out.ok;obtain ⟨b1,o1,rfl,hb1,x11,d11,x12,d12,x13,d13,x14,d14,x15,d15,hc1,hh1⟩:=HKS.out.getN HR.out.ok hd1;have hb8:=HO2.out.b;have c10:w2.cell? ⟨b1,o1,none⟩ = some (.int .i64 k1):=cell_below hb8 (hc1 0 _ rfl);have c11:w2.cell? ⟨b1,o1 + 1,none⟩ = some (.string nm1):=cell_below hb8 (hc1 1 _ rfl);have c12:w2.cell? ⟨b1,o1 + 2,none⟩ = some (.bool g1):=cell_below hb8 (hc1 2 _ rfl);have c13:w2.cell? ⟨b1,o1 + 3,none⟩ = some (.slice x11 az1.length d11):=cell_below hb8 (hc1 3 _ rfl);have c14:w2.cell? ⟨b1,o1 + 4,none⟩ = some (.slice x12 ws1.length d12):=cell_below hb8 (hc1 4 _ rfl);have c15:w2.cell? ⟨b1,o1 + 5,none⟩ = some (.slice x13 ks1.len d13):=cell_below hb8 (hc1 5 _ rfl);have c16:w2.cell? ⟨b1,o1 + 6,none⟩ = some (.slice x14 bs1.length d14):=cell_below hb8 (hc1 6 _ rfl);have c17:w2.cell? ⟨b1,o1 + 7,none⟩ = some (.slice x15 cz1.len d15):=cell_below hb8 (hc1 7 _ rfl);have r5:=zc5 HR2.out;have hE:=HEND.out;rw [at0_drop hd1] at hE;have hlE:=congrArg List.length hE;have hl:=HLN.out;simp only [List.length_append,List.length_cons,List.length_nil,kDo,kDone] at hlE
 have hG:=write_row HW.out [.str ⟨#[32,100,111,32]⟩,.node ⟨k1,nm1,g1,az1,ws1,ks1,bs1,cz1⟩,.str ⟨#[100,111,110,101]⟩] [.iface 9 (.string ⟨#[32,100,111,32]⟩),.iface 28 (.agg #[.int .i64 k1,.string nm1,.bool g1,.slice x11 az1.length d11,.slice x12 ws1.length d12,.slice x13 ks1.len d13,.slice x14 bs1.length d14,.slice x15 cz1.len d15]),.iface 9 (.string ⟨#[100,111,110,101]⟩)] _ w2 (by
  intro p hp;simp only [List.mem_cons,List.not_mem_nil,or_false] at hp;rcases hp with rfl | rfl | rfl
  ·exact ⟨HR.out.pos,trivial⟩
  ·exact HR.out.at hd1
  ·exact ⟨HR.out.pos,trivial⟩) (.cons rfl (.cons ⟨_,_,_,_,_,_,_,_,_,_,rfl,hh1⟩ (.cons rfl .nil))) (by simp) HO2.out (by
  simp only [pcsT,pcT,List.map_cons,List.map_nil,List.flatten_cons,List.flatten_nil,List.length_append,List.length_cons,List.length_nil] at hlE ⊢;omega)
 have HG:=Lib.hid hG;have HE:=Lib.hid hE;clear hG hE hl hlE hb8 hc1 hh1 hd1;go_wp2_with (go_at_call 19;refine (HG.out).mono ?_;rintro e w9 ⟨rfl,h5,h6⟩);go_end0;refine ⟨rfl,?_,HK2.out.trans h6⟩;rw [HE.out];simpa [pcsT,pcT,kFor,kIn,kDo,kDone,List.append_assoc] using h5
theorem loop_given (w0:World) (M:Nat) (hW:WriteAt w0 M) (k:Int) (nm:ByteArray) (ws:List PL) (ks:NL) (n1 n4 n5:Nat) (a1 c1 a2 c2 a3 c3 a4 c4 a5 c5) (acc t:T) (w:World)
  (hR:KidsR M ks) (hkl:ks.len = 1) (hrw:∀ l ∈ ws,rightL none l 0 1 = true) (hw:Sl 1 (PW w0) a2 c2 ws) (hk:NLies w0 a3 c3 ks) (ho:Out w0 acc w) (ht:t = kFor ++ ([32] ++ (nm.data.toList ++ (([32] ++ (kIn ++ (behind [32] [32] (ws.map wordT) ++ [59]))) ++ ([32] ++ (kDo ++ ([32] ++ (at0 (txt ks) 0 ++ kDone)))))))) (hl:acc.length + t.length≤400000) :
  Calls Tryz.prog 63 #[.pointer (some ⟨w0.heap.size,0,none⟩),.agg #[.int .i64 k,.string nm,.bool true,.slice a1 n1 c1,.slice a2 ws.length c2,.slice a3 1 c3,.slice a4 n4 c4,.slice a5 n5 c5]] w (Wrote w0.heap.size (acc ++ t) w):=by
 have HW:=Lib.hid hW;have HR:=Lib.hid hR;have HKS:=Lib.hid hk;have HO:=Lib.hid ho;have HRW:=Lib.hid hrw;have HWS:=Lib.hid hw;have HKL:=Lib.hid hkl;have HLN:=Lib.hid hl;have hle:=hw.le;clear hW hR hk ho hrw hw hkl hl;unfold Wrote;have hrow:=heap_new' w (.cells #[.int .i64 k,.string nm,.bool true,.slice a1 n1 c1,.slice a2 ws.length c2,.slice a3 1 c3,.slice a4 n4 c4,.slice a5 n5 c5] 28);have hk0:Pb.Kept w0.heap.size w (w.alloc (.cells #[.int .i64 k,.string nm,.bool true,.slice a1 n1 c1,.slice a2 ws.length c2,.slice a3 1 c3,.slice a4 n4 c4,.slice a5 n5 c5] 28)):=Pb.Kept.of_below (bel1 _ _) (Nat.le_of_lt HO.out.is.lt);have ho1:=HO.out.below (bel1 w (.cells #[.int .i64 k,.string nm,.bool true,.slice a1 n1 c1,.slice a2 ws.length c2,.slice a3 1 c3,.slice a4 n4 c4,.slice a5 n5 c5] 28));have hlt:=HO.out.is.lt;have hlA:=congrArg List.length ht;simp only [List.length_append,kFor,kIn,kDo,kDone,List.length_cons,List.length_nil] at hlA;have HROW:=Lib.hid hrow;have HK0:=Lib.hid hk0;have HO1:=Lib.hid ho1;have HLT:=Lib.hid hlt;have HT:=Lib.hid ht;have HLA:=Lib.hid hlA;clear hrow hk0 ho1 hlt ht hlA;go_enter Tryz.func63,Tryz.ntmps63;have hsz:(w.alloc (.cells #[.int .i64 k,.string nm,.bool true,.slice a1 n1 c1,.slice a2 ws.length c2,.slice a3 1 c3,.slice a4 n4 c4,.slice a5 n5 c5] 28)).heap.size = w.heap.size + 1:=by simp
 have hC1:=write_two HW.out (.str ⟨#[102,111,114,32]⟩) (.str nm) _ _ acc (w.alloc (.cells #[.int .i64 k,.string nm,.bool true,.slice a1 n1 c1,.slice a2 ws.length c2,.slice a3 1 c3,.slice a4 n4 c4,.slice a5 n5 c5] 28)) ⟨HR.out.pos,trivial⟩ ⟨HR.out.pos,trivial⟩ rfl rfl HO1.out (by
  have:=HLA.out;have:=HLN.out;have hn:=lenB nm
  simp only [pcT,List.length_cons,List.length_nil];omega)
 rw [hsz] at hC1;have HC1:=Lib.hid hC1;clear hC1 hsz;go_wp2_with fail;refine (HC1.out).mono ?_;rintro e w2 ⟨rfl,h3,h4⟩;have hrow:=row_kept HROW.out HLT.out h4;have r2:=zc2 hrow;have HO2:=Lib.hid (HO1.out.kept h3 h4);have HK2:=Lib.hid (HK0.out.trans h4);have HR2:=Lib.hid hrow;clear h3 h4 hrow
 have hC2:=write_one HW.out (.str ⟨#[32,105,110]⟩) _ _ w2 ⟨HR.out.pos,trivial⟩ rfl HO2.out (by
  have:=HLA.out;have:=HLN.out;have hn:=lenB nm
  simp only [pcT,List.length_append,List.length_cons,List.length_nil];omega)
 have HC2:=Lib.hid hC2;clear hC2;go_wp2_with fail;clear r2;refine (HC2.out).mono ?_;rintro e w3 ⟨rfl,h3,h4⟩;have hrow:=row_kept HR2.out HLT.out h4;have r4:=zc4 hrow;have HO3:=Lib.hid (HO2.out.kept h3 h4);have HK3:=Lib.hid (HK2.out.trans h4);have HR3:=Lib.hid hrow;clear h3 h4 hrow;go_wp2;clear r4
 go_loopw [22] (fun i wr=>∃ (n:Nat) (acc':T),n≤ws.length∧i = .int .i64 n∧Out w0 acc' wr∧acc ++ t = acc' ++ (behind [32] [32] ((ws.drop n).map wordT) ++ ([59] ++ ([32] ++ (kDo ++ ([32] ++ (at0 (txt ks) 0 ++ kDone))))))∧Pb.Kept w0.heap.size w3 wr) (fun i wr=>ws.length - (intOf i).toNat)
 case atStart =>
  refine ⟨0,_,Nat.zero_le _,rfl,HO3.out,?_,Pb.Kept.refl _ _⟩;rw [HT.out];simp [pcT,kFor,kIn,List.append_assoc]
 case round =>
  obtain ⟨n,acc',hn,rfl,hi,htx,hkp⟩:=hrel;have HI:=Lib.hid hi;have HTX:=Lib.hid htx;have HK:=Lib.hid hkp;clear hi htx hkp;have hlB:=congrArg List.length HTX.out;have hlC:=HLN.out;simp only [List.length_append,List.length_cons,List.length_nil,kDo,kDone] at hlB
  by_cases hlt:n < ws.length
  ·obtain ⟨l,hp⟩:∃ l,ws[n]? = some l:=⟨_,List.getElem?_eq_getElem hlt⟩;have hdr:ws.drop n = l :: ws.drop (n + 1):=by
    rw [List.drop_eq_getElem_cons hlt];rw [List.getElem?_eq_getElem hlt] at hp;injection hp with hp;rw [hp]
   obtain ⟨b,o,rfl,x1,d1,hc,hli⟩:=HWS.out.get hp;rw [Nat.mul_one] at hc;have hc':=cell_below HI.out.b hc;have hT:acc ++ t = (acc' ++ ([32] ++ wordT l)) ++ (behind [32] [32] ((ws.drop (n + 1)).map wordT) ++ ([59] ++ ([32] ++ (kDo ++ ([32] ++ (at0 (txt ks) 0 ++ kDone)))))):=by
    rw [HTX.out,hdr];simp only [List.map_cons,behind,List.append_assoc]
   have hlD:=congrArg List.length hT;simp only [List.length_append,List.length_cons,List.length_nil,kDo,kDone] at hlD;have hCall:=write_two HW.out (.str ⟨#[32]⟩) (.word l) _ _ acc' wr ⟨HR.out.pos,trivial⟩ ⟨HR.out.pos,HRW.out l (List.mem_of_getElem? hp)⟩ rfl ⟨x1,d1,rfl,hli⟩ HI.out (by simp only [pcT,List.length_cons,List.length_nil];omega);have HCALL:=Lib.hid hCall;have HT2:=Lib.hid hT;clear hCall hT hc hli hdr hp hlB hlC hlD;go_wp2_with (go_at_call 19;refine (HCALL.out).mono ?_;rintro e w4 ⟨rfl,h3,h4⟩);have H3:=Lib.hid h3;have H4:=Lib.hid h4;clear h3 h4;go_roundw
   case rel=>exact ⟨n + 1,_,by omega,by go_num,HI.out.kept H3.out H4.out,HT2.out,HK.out.trans H4.out⟩
   case measure=>simp [intOf];omega
  ·obtain rfl:n = ws.length:=by omega
   have hT:acc ++ t = acc' ++ ([59] ++ ([32] ++ (kDo ++ ([32] ++ (at0 (txt ks) 0 ++ kDone))))):=by
    rw [HTX.out,List.drop_length];simp [behind]
   have hCall:=write_one HW.out (.str ⟨#[59]⟩) _ acc' wr ⟨HR.out.pos,trivial⟩ rfl HI.out (by simp only [pcT,List.length_cons,List.length_nil];omega);have HCALL:=Lib.hid hCall;have HROW3:=Lib.hid (row_kept HR3.out HLT.out HK.out);have HEND:=Lib.hid (show acc ++ t = (acc' ++ pcT (.str ⟨#[59]⟩)) ++ ([32] ++ (kDo ++ ([32] ++ (at0 (txt ks) 0 ++ kDone)))) by rw [hT];simp [pcT]);clear hCall hT hlB hlC;go_wp2_with fail;refine (HCALL.out).mono ?_;rintro e w5 ⟨rfl,h3,h4⟩;have HO5:=Lib.hid (HI.out.kept h3 h4);have HK5:=Lib.hid (HK3.out.trans (HK.out.trans h4));have HR5:=Lib.hid (row_kept HROW3.out HLT.out h4);clear h3 h4;obtain ⟨k1,nm1,g1,az1,ws1,ks1,bs1,cz1,r1,hd1⟩:=NL.drop_node (show 0 < ks.len by have:=HKL.out;omega) HR.out.ok;obtain ⟨b1,o1,rfl,hb1,x11,d11,x12,d12,x13,d13,x14,d14,x15,d15,hc1,hh1⟩:=HKS.out.getN HR.out.ok hd1;have hb8:=HO5.out.b;have c10:w5.cell? ⟨b1,o1,none⟩ = some (.int .i64 k1):=cell_below hb8 (hc1 0 _ rfl);have c11:w5.cell? ⟨b1,o1 + 1,none⟩ = some (.string nm1):=cell_below hb8 (hc1 1 _ rfl);have c12:w5.cell? ⟨b1,o1 + 2,none⟩ = some (.bool g1):=cell_below hb8 (hc1 2 _ rfl);have c13:w5.cell? ⟨b1,o1 + 3,none⟩ = some (.slice x11 az1.length d11):=cell_below hb8 (hc1 3 _ rfl);have c14:w5.cell? ⟨b1,o1 + 4,none⟩ = some (.slice x12 ws1.length d12):=cell_below hb8 (hc1 4 _ rfl);have c15:w5.cell? ⟨b1,o1 + 5,none⟩ = some (.slice x13 ks1.len d13):=cell_below hb8 (hc1 5 _ rfl);have c16:w5.cell? ⟨b1,o1 + 6,none⟩ = some (.slice x14 bs1.length d14):=cell_below hb8 (hc1 6 _ rfl);have c17:w5.cell? ⟨b1,o1 + 7,none⟩ = some (.slice x15 cz1.len d15):=cell_below hb8 (hc1 7 _ rfl);have r5:=zc5 HR5.out;have hE:=HEND.out;rw [at0_drop hd1] at hE;have hlE:=congrArg List.length hE;have hl:=HLN.out;simp only [List.length_append,List.length_cons,List.length_nil,kDo,kDone] at hlE
   have hG:=write_row HW.out [.str ⟨#[32,100,111,32]⟩,.node ⟨k1,nm1,g1,az1,ws1,ks1,bs1,cz1⟩,.str ⟨#[100,111,110,101]⟩] [.iface 9 (.string ⟨#[32,100,111,32]⟩),.iface 28 (.agg #[.int .i64 k1,.string nm1,.bool g1,.slice x11 az1.length d11,.slice x12 ws1.length d12,.slice x13 ks1.len d13,.slice x14 bs1.length d14,.slice x15 cz1.len d15]),.iface 9 (.string ⟨#[100,111,110,101]⟩)] _ w5 (by
    intro p hp;simp only [List.mem_cons,List.not_mem_nil,or_false] at hp;rcases hp with rfl | rfl | rfl
    ·exact ⟨HR.out.pos,trivial⟩
    ·exact HR.out.at hd1
    ·exact ⟨HR.out.pos,trivial⟩) (.cons rfl (.cons ⟨_,_,_,_,_,_,_,_,_,_,rfl,hh1⟩ (.cons rfl .nil))) (by simp) HO5.out (by
    simp only [pcsT,pcT,List.map_cons,List.map_nil,List.flatten_cons,List.flatten_nil,List.length_append,List.length_cons,List.length_nil] at hlE ⊢;omega)
   have HG:=Lib.hid hG;have HE:=Lib.hid hE;clear hG hE hl hlE hb8 hc1 hh1 hd1;go_wp2_with (go_at_call 19;refine (HG.out).mono ?_;rintro e w9 ⟨rfl,h5,h6⟩);go_end0;refine ⟨rfl,?_,HK5.out.trans h6⟩;rw [HE.out];simpa [pcsT,pcT,kFor,kIn,kDo,kDone,List.append_assoc] using h5
end Pw
end Go.Proofs.YtjmpfihopeohbaaGreatDoor
namespace Go.Proofs.YtjmpfihopeohbaaGreatDoor
open Go.RowKit Go.Sort
namespace Pw
open Cls Pt Tr Pr
open Ps (ND)
structure CasesR (M:Nat) (cz:NL):Prop where
 ok:NL.okN cz false = true
 m:0 < M
 r:∀ n ps bd r,cz.drop n = .cse ps bd r→msr (.cse ps bd) < M∧PcR (.cse ps bd)
theorem choice_any (w0:World) (M:Nat) (hW:WriteAt w0 M) (k:Int) (nm:ByteArray) (g:Bool) (l:PL) (cz:NL) (n1 n3 n4:Nat) (a1 c1 a2 c2 a3 c3 a4 c4 a5 c5) (acc t:T) (w:World)
  (hR:CasesR M cz) (hrw:rightL none l 0 1 = true) (hw:Sl 1 (PW w0) a2 c2 [l]) (hk:NLies w0 a5 c5 cz) (ho:Out w0 acc w) (ht:t = kCase ++ ([32] ++ (wordT l ++ ([32] ++ (kIn ++ ([32] ++ ((txt cz).flatten ++ kEsac))))))) (hl:acc.length + t.length≤400000) :
  Calls Tryz.prog 64 #[.pointer (some ⟨w0.heap.size,0,none⟩),.agg #[.int .i64 k,.string nm,.bool g,.slice a1 n1 c1,.slice a2 1 c2,.slice a3 n3 c3,.slice a4 n4 c4,.slice a5 cz.len c5]] w (Wrote w0.heap.size (acc ++ t) w):=by
 have HW:=Lib.hid hW;have HR:=Lib.hid hR;have HKS:=Lib.hid hk;have HO:=Lib.hid ho;have HRW:=Lib.hid hrw;have HLN:=Lib.hid hl;have hle:=hk.le;obtain ⟨b,o,rfl,x1,d1,hc,hli⟩:=hw.get (n:=0) rfl;rw [Nat.zero_mul,Nat.add_zero] at hc;clear hW hR hk hrw hl hw;unfold Wrote;have hrow:=heap_new' w (.cells #[.int .i64 k,.string nm,.bool g,.slice a1 n1 c1,.slice (some ⟨b,o,none⟩) 1 c2,.slice a3 n3 c3,.slice a4 n4 c4,.slice a5 cz.len c5] 28);have hbw:=bel1 w (.cells #[.int .i64 k,.string nm,.bool g,.slice a1 n1 c1,.slice (some ⟨b,o,none⟩) 1 c2,.slice a3 n3 c3,.slice a4 n4 c4,.slice a5 cz.len c5] 28);have hk0:=Pb.Kept.of_below hbw (Nat.le_of_lt HO.out.is.lt);have ho1:=HO.out.below hbw;have hlt:=HO.out.is.lt;have cw:=cell_below ho1.b hc;have hlA:=congrArg List.length ht;simp only [List.length_append,kCase,kIn,kEsac,List.length_cons,List.length_nil] at hlA;have hsz:(w.alloc (.cells #[.int .i64 k,.string nm,.bool g,.slice a1 n1 c1,.slice (some ⟨b,o,none⟩) 1 c2,.slice a3 n3 c3,.slice a4 n4 c4,.slice a5 cz.len c5] 28)).heap.size = w.heap.size + 1:=by simp
 have hC1:=write_row HW.out [.str ⟨#[99,97,115,101,32]⟩,.word l,.str ⟨#[32,105,110,32]⟩] [.iface 9 (.string ⟨#[99,97,115,101,32]⟩),.iface 39 (.slice x1 l.len d1),.iface 9 (.string ⟨#[32,105,110,32]⟩)] acc _ (by
  intro p hp;simp only [List.mem_cons,List.not_mem_nil,or_false] at hp;rcases hp with rfl | rfl | rfl
  ·exact ⟨HR.out.m,trivial⟩
  ·exact ⟨HR.out.m,HRW.out⟩
  ·exact ⟨HR.out.m,trivial⟩) (.cons rfl (.cons ⟨x1,d1,rfl,hli⟩ (.cons rfl .nil))) (by simp) ho1 (by
  have:=HLN.out
  simp only [pcsT,pcT,List.map_cons,List.map_nil,List.flatten_cons,List.flatten_nil,List.length_append,List.length_cons,List.length_nil] at hlA ⊢;omega)
 rw [hsz] at hC1;have HC1:=Lib.hid hC1;have HROW:=Lib.hid hrow;have HK0:=Lib.hid hk0;have HO1:=Lib.hid ho1;have HLT:=Lib.hid hlt;have HT:=Lib.hid ht;have HLA:=Lib.hid hlA;clear hC1 hsz hrow hk0 ho1 hlt ht hlA hc hli hbw;go_enter Tryz.func64,Tryz.ntmps64;go_wp2_with fail;refine (HC1.out).mono ?_;rintro e w2 ⟨rfl,h3,h4⟩;have hrow:=row_kept HROW.out HLT.out h4;have r7:=zc7 hrow;have HO2:=Lib.hid (HO1.out.kept h3 h4);have HK2:=Lib.hid (HK0.out.trans h4);clear h3 h4 hrow cw;go_wp2;clear r7
 go_loopw [19] (fun i wr=>∃ (n:Nat) (acc':T),n≤cz.len∧i = .int .i64 n∧Out w0 acc' wr∧acc ++ t = acc' ++ ((txt (cz.drop n)).flatten ++ kEsac)∧Pb.Kept w0.heap.size w2 wr) (fun i wr=>cz.len - (intOf i).toNat)
 case atStart =>
  refine ⟨0,_,Nat.zero_le _,rfl,HO2.out,?_,Pb.Kept.refl _ _⟩;rw [HT.out];simp [pcsT,pcT,kCase,kIn,NL.drop,List.append_assoc]
 case round =>
  obtain ⟨n,acc',hn,rfl,hi,htx,hkp⟩:=hrel;have HI:=Lib.hid hi;have HTX:=Lib.hid htx;have HK:=Lib.hid hkp;clear hi htx hkp;have hlB:=congrArg List.length HTX.out;have hlC:=HLN.out;simp only [List.length_append,List.length_cons,List.length_nil,kEsac] at hlB
  by_cases hlt:n < cz.len
  ·obtain ⟨ps1,bd1,r1,hd1⟩:=NL.drop_case hlt HR.out.ok;obtain ⟨b1,o1,rfl,hb1,x11,d11,x12,d12,hc1,hc2,hs1,hs2,hs3⟩:=HKS.out.getC HR.out.ok hd1;have c10:wr.cell? ⟨b1,o1 + n * 2,none⟩ = some (.slice x11 ps1.length d11):=cell_below HI.out.b hc1;have c11:wr.cell? ⟨b1,o1 + n * 2 + 1,none⟩ = some (.slice x12 bd1.len d12):=cell_below HI.out.b hc2;have hT:acc ++ t = (acc' ++ caseT ps1 (txt bd1)) ++ ((txt (cz.drop (n + 1))).flatten ++ kEsac):=by
    rw [HTX.out,NL.drop_succC hd1,hd1];simp only [txt,List.flatten_cons,List.append_assoc]
   have hlD:=congrArg List.length hT;simp only [List.length_append,List.length_cons,List.length_nil,kEsac] at hlD;have hCall:=write_one HW.out (.cse ps1 bd1) _ acc' (wr.alloc (.cells #[.slice x11 ps1.length d11,.slice x12 bd1.len d12] 44)) (HR.out.r _ _ _ _ hd1) ⟨_,_,_,_,rfl,hs1,hs2⟩ (HI.out.below (bel1 _ _)) (by simp only [pcT];omega);have hsz1:(wr.alloc (.cells #[.slice x11 ps1.length d11,.slice x12 bd1.len d12] 44)).heap.size = wr.heap.size + 1:=by simp
   rw [hsz1] at hCall;have HCALL:=Lib.hid (hCall.mono fun _ _ h=>Wrote.from h (bel1 _ _) HI.out.is.lt);have HT2:=Lib.hid hT;clear hCall hT hc1 hc2 hs1 hs2 hs3 hd1 hlB hlC hlD hsz1;go_wp2_with (go_at_call 19;refine (HCALL.out).mono ?_;rintro e w4 ⟨rfl,h3,h4⟩);have H3:=Lib.hid h3;have H4:=Lib.hid h4;clear h3 h4;go_roundw
   case rel=>exact ⟨n + 1,_,by omega,by go_num,HI.out.kept H3.out H4.out,HT2.out,HK.out.trans H4.out⟩
   case measure=>simp [intOf];omega
  ·obtain rfl:n = cz.len:=by omega
   have hT:acc ++ t = acc' ++ kEsac:=by
    rw [HTX.out,NL.drop_end (Nat.le_refl _)];simp [txt]
   have hCall:=write_one HW.out (.str ⟨#[101,115,97,99]⟩) _ acc' wr ⟨HR.out.m,trivial⟩ rfl HI.out (by simp only [pcT,List.length_cons,List.length_nil];omega);have HCALL:=Lib.hid hCall;have HT2:=Lib.hid hT;clear hCall hT hlB hlC;go_wp2_with (go_at_call 19;refine (HCALL.out).mono ?_;rintro e w5 ⟨rfl,h3,h4⟩);go_end0;refine ⟨rfl,?_,HK2.out.trans (HK.out.trans h4)⟩;rw [HT2.out];simpa [pcT,kEsac] using h3
end Pw
end Go.Proofs.YtjmpfihopeohbaaGreatDoor
