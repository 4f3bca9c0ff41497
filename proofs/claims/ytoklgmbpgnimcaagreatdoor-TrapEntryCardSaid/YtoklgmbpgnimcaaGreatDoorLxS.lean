/- (*lex.reader).token: what is broken off becomes a token. -/
/- lex.sign, for every text. -/
/- (*lex.reader).token, for every text and place. -/
import Derived.Test.YtoklgmbpgnimcaaGreatDoorRegN
import Derived.Test.YtoklgmbpgnimcaaGreatDoorLxP
import Derived.Tactics2
import Derived.Defers
import Derived.Recover
import Derived.Laws.Pointers
namespace Go.Proofs.YtoklgmbpgnimcaaGreatDoor
open Go.RowKit Go.Sort
namespace Lx
open Cls Pt
def TokAt (w:World) (tb k i:Nat) (t:ByteArray) (v:Value) (err:Nat):Prop:=w.heap[tb]? = some (.cells #[.int .i64 k,.int .i64 i,.string t,v,.int .i64 err] 84 (0,0))
structure FrT (rb tb:Nat) (w w':World):Prop where
 os:w'.os = w.os
 tape:w'.tape = w.tape
 output:w'.output = w.output
 size:w.heap.size≤w'.heap.size
 block:∀ b,b < w.heap.size→b ≠ rb→b ≠ tb→w'.heap[b]? = w.heap[b]?
theorem assert_fault (v:Value) (xT:TypeId) (w:World):(Instr.typeAssert (.iface 121 v) xT 121 true).run Tryz.prog w = .ok (.tuple #[v,.bool true]) w:=by
 kernel_rfl
theorem assert_nil (xT:TypeId) (w:World):(Instr.typeAssert .nilIface xT 121 true).run Tryz.prog w = .ok (.tuple #[.agg #[.int .i64 0,.int .i64 0],.bool false]) w:=by
 kernel_rfl
set_option maxHeartbeats 800000 in
set_option maxRecDepth 100000 in
theorem token_idle (tb rv:Nat) (w:World) :
  CallsD Tryz.prog 65 #[.pointer (some ⟨tb,0,none⟩),.pointer (some ⟨rv,0,none⟩)] .returning w fun e u' w'=>e = .returned (.tuple #[])∧u' = .returning∧Below w.heap.size w w':=by
 refine callsD_of_wpS Tryz.func65 rfl fun c₀ cs hu=>?_
 simp only [Tryz.ntmps65,List.size_toArray,List.length_cons,List.length_nil,Nat.reduceAdd,Nat.reduceSub,Array.replicate_succ,Array.replicate_zero,List.push_toArray,List.append_toArray,List.nil_append,List.cons_append]
 apply wpS_seq
 apply wpS_region
 simp [wpOpsS,go_sem,recoverD,hu,Exit.thenS]
 refine wpS_of_wp ?_
 have ha:=assert_nil
 go_wp2_with fail
 refine ⟨rfl,.returning,?_,.tuple #[],results_none rfl _ _ _,rfl,rfl,(Below.refl _ _).alloc (Nat.le_refl _) _⟩
 cases c₀
 simp_all
theorem FrT.drew {rb tb:Nat} {w w':World} (h:FrT rb tb w w'):FrT rb tb w w'.drew:=⟨h.os,h.tape,h.output,h.size,h.block⟩
theorem so (W:World) (a:Addr) (v:Value):(W.setCell a v).os = W.os:=rfl
theorem st (W:World) (a:Addr) (v:Value):(W.setCell a v).tape = W.tape:=rfl
theorem su (W:World) (a:Addr) (v:Value):(W.setCell a v).output = W.output:=rfl
theorem cell_drew' {W:World} {a:Addr} {v:Option Value} (h:W.cell? a = v):W.drew.cell? a = v:=h
theorem tok_set {W:World} {tb k i0:Nat} {t:ByteArray} {v:Value} {err0:Nat} (hT:TokAt W tb k i0 t v err0) (j err:Nat) :
  TokAt (((((W.setCell ⟨tb,0,none⟩ (.int .i64 5)).setCell ⟨tb,1,none⟩ (.int .i64 j)).setCell ⟨tb,2,none⟩ (.string ⟨#[]⟩)).setCell ⟨tb,3,none⟩ (.slice none 0 0)).setCell ⟨tb,4,none⟩ (.int .i64 err)) tb 5 j ⟨#[]⟩ (.slice none 0 0) err∧(∀ b,b ≠ tb→(((((W.setCell ⟨tb,0,none⟩ (.int .i64 5)).setCell ⟨tb,1,none⟩ (.int .i64 j)).setCell ⟨tb,2,none⟩ (.string ⟨#[]⟩)).setCell ⟨tb,3,none⟩ (.slice none 0 0)).setCell ⟨tb,4,none⟩ (.int .i64 err)).heap[b]? = W.heap[b]?)∧(((((W.setCell ⟨tb,0,none⟩ (.int .i64 5)).setCell ⟨tb,1,none⟩ (.int .i64 j)).setCell ⟨tb,2,none⟩ (.string ⟨#[]⟩)).setCell ⟨tb,3,none⟩ (.slice none 0 0)).setCell ⟨tb,4,none⟩ (.int .i64 err)).heap.size = W.heap.size∧(((((W.setCell ⟨tb,0,none⟩ (.int .i64 5)).setCell ⟨tb,1,none⟩ (.int .i64 j)).setCell ⟨tb,2,none⟩ (.string ⟨#[]⟩)).setCell ⟨tb,3,none⟩ (.slice none 0 0)).setCell ⟨tb,4,none⟩ (.int .i64 err)).os = W.os∧(((((W.setCell ⟨tb,0,none⟩ (.int .i64 5)).setCell ⟨tb,1,none⟩ (.int .i64 j)).setCell ⟨tb,2,none⟩ (.string ⟨#[]⟩)).setCell ⟨tb,3,none⟩ (.slice none 0 0)).setCell ⟨tb,4,none⟩ (.int .i64 err)).tape = W.tape∧(((((W.setCell ⟨tb,0,none⟩ (.int .i64 5)).setCell ⟨tb,1,none⟩ (.int .i64 j)).setCell ⟨tb,2,none⟩ (.string ⟨#[]⟩)).setCell ⟨tb,3,none⟩ (.slice none 0 0)).setCell ⟨tb,4,none⟩ (.int .i64 err)).output = W.output :=
 ⟨heap_setCell_same _ _ 4 _ _ (.int .i64 err) (heap_setCell_same _ _ 3 _ _ (.slice none 0 0) (heap_setCell_same _ _ 2 _ _ (.string ⟨#[]⟩) (heap_setCell_same _ _ 1 _ _ (.int .i64 j) (heap_setCell_same _ _ 0 _ _ (.int .i64 5) hT)))),
  fun b hb=>(Below.heap_setCell _ _ _ _ hb).trans <| (Below.heap_setCell _ _ _ _ hb).trans <| (Below.heap_setCell _ _ _ _ hb).trans <| (Below.heap_setCell _ _ _ _ hb).trans <| Below.heap_setCell _ _ _ _ hb,by simp,(so _ _ _).trans <| (so _ _ _).trans <| (so _ _ _).trans <| (so _ _ _).trans <| so _ _ _,(st _ _ _).trans <| (st _ _ _).trans <| (st _ _ _).trans <| (st _ _ _).trans <| st _ _ _,(su _ _ _).trans <| (su _ _ _).trans <| (su _ _ _).trans <| (su _ _ _).trans <| su _ _ _⟩
set_option maxHeartbeats 800000 in
set_option maxRecDepth 100000 in
theorem token_caught (tb rv rb i j err:Nat) (s:ByteArray) (w:World) (ty:TypeId) (hB:w.heap[rv]? = some (.cells #[.pointer (some ⟨rb,0,none⟩)] ty (0,0))) (k:Nat) (i0:Nat) (t:ByteArray) (v:Value) (err0:Nat) (hT:TokAt w tb k i0 t v err0) (hR:RAt w rb s i) (hrt:rb ≠ tb) (hvt:rv ≠ tb) :
  CallsD Tryz.prog 65 #[.pointer (some ⟨tb,0,none⟩),.pointer (some ⟨rv,0,none⟩)] (.panicking [{ v:=faultV j err,recovered:=false }]) w fun e u' w' =>
   e = .returned (.tuple #[])∧u' = .panicking [{ v:=faultV j err,recovered:=true }]∧RAt w' rb s j∧TokAt w' tb 5 j ⟨#[]⟩ (.slice none 0 0) err∧FrT rb tb w w':=by
 have hbx:∀ o,(w.alloc o).cell? ⟨rv,0,none⟩ = some (.pointer (some ⟨rb,0,none⟩)):=fun o=>Lib.cell_of_heap (((Below.refl w.heap.size w).alloc (Nat.le_refl _) o).block rv (Array.getElem?_eq_some_iff.1 hB).1 |>.trans hB) 0
 refine callsD_of_wpS Tryz.func65 rfl fun c₀ cs hu=>?_
 simp only [Tryz.ntmps65,List.size_toArray,List.length_cons,List.length_nil,Nat.reduceAdd,Nat.reduceSub,Array.replicate_succ,Array.replicate_zero,List.push_toArray,List.append_toArray,List.nil_append,List.cons_append]
 apply wpS_seq
 apply wpS_region
 simp [wpOpsS,go_sem,recoverD,hu,Exit.thenS,faultV]
 refine wpS_of_wp ?_
 have ha:=assert_fault
 have hlr:=hR.lt
 have hlt:=(Array.getElem?_eq_some_iff.1 hT).1
 have hlv:=(Array.getElem?_eq_some_iff.1 hB).1
 have hbl:=(Below.refl w.heap.size w).alloc (Nat.le_refl _) (.cells #[.int .i64 j,.int .i64 err] 121)
 have hF:(w.alloc (.cells #[.int .i64 j,.int .i64 err] 121)).heap[w.heap.size]? = some (.cells #[.int .i64 j,.int .i64 err] 121 (0,0)):=by
  show (w.heap.push _)[w.heap.size]? = _
  exact Array.getElem?_push_size
 have hB1:=(hbl.block rv hlv).trans hB
 have hT1:TokAt (w.alloc (.cells #[.int .i64 j,.int .i64 err] 121)) tb k i0 t v err0:=(hbl.block tb hlt).trans hT
 have hR1:RAt (w.alloc (.cells #[.int .i64 j,.int .i64 err] 121)) rb s i:=(hbl.block rb hlr).trans hR
 have HALL:=Lib.hid (And.intro hF (And.intro hB1 (And.intro hT1 (And.intro hR1 hbl))));have HLR:=Lib.hid hlr;have HLT:=Lib.hid hlt;have HLV:=Lib.hid hlv
 clear hbx hB hT hR hF hB1 hT1 hR1 hbl hlr hlt hlv
 go_wp2_with fail
 have hall:=HALL.out
 generalize hW1:(w.alloc (.cells #[.int .i64 j,.int .i64 err] 121)) = W1 at hall ⊢
 have HW1:=Lib.hid hW1
 obtain ⟨hF,hB1,hT1,hR1,hbl⟩:=hall
 clear HALL hW1
 have f0:=zc0 hF
 have f1:=zc1 hF
 have b0:=zc0 hB1
 have z0:=zc0 hT1
 have z1:=zc1 hT1
 have z2:=zc2 hT1
 have z3:=zc3 hT1
 have z4:=zc4 hT1
 have y0:=zf 0 hT1
 have y1:=zf 1 hT1
 have y2:=zf 2 hT1
 have y3:=zf 3 hT1
 have y4:=zf 4 hT1
 have hx2:TokAt (((((W1.setCell ⟨tb,0,none⟩ (.int .i64 5)).setCell ⟨tb,1,none⟩ (.int .i64 j)).setCell ⟨tb,2,none⟩ (.string ⟨#[]⟩)).setCell ⟨tb,3,none⟩ (.slice none 0 0)).setCell ⟨tb,4,none⟩ (.int .i64 err)) tb 5 j ⟨#[]⟩ (.slice none 0 0) err∧(∀ b,b ≠ tb→(((((W1.setCell ⟨tb,0,none⟩ (.int .i64 5)).setCell ⟨tb,1,none⟩ (.int .i64 j)).setCell ⟨tb,2,none⟩ (.string ⟨#[]⟩)).setCell ⟨tb,3,none⟩ (.slice none 0 0)).setCell ⟨tb,4,none⟩ (.int .i64 err)).heap[b]? = W1.heap[b]?)∧(((((W1.setCell ⟨tb,0,none⟩ (.int .i64 5)).setCell ⟨tb,1,none⟩ (.int .i64 j)).setCell ⟨tb,2,none⟩ (.string ⟨#[]⟩)).setCell ⟨tb,3,none⟩ (.slice none 0 0)).setCell ⟨tb,4,none⟩ (.int .i64 err)).heap.size = W1.heap.size∧(((((W1.setCell ⟨tb,0,none⟩ (.int .i64 5)).setCell ⟨tb,1,none⟩ (.int .i64 j)).setCell ⟨tb,2,none⟩ (.string ⟨#[]⟩)).setCell ⟨tb,3,none⟩ (.slice none 0 0)).setCell ⟨tb,4,none⟩ (.int .i64 err)).os = W1.os∧(((((W1.setCell ⟨tb,0,none⟩ (.int .i64 5)).setCell ⟨tb,1,none⟩ (.int .i64 j)).setCell ⟨tb,2,none⟩ (.string ⟨#[]⟩)).setCell ⟨tb,3,none⟩ (.slice none 0 0)).setCell ⟨tb,4,none⟩ (.int .i64 err)).tape = W1.tape∧(((((W1.setCell ⟨tb,0,none⟩ (.int .i64 5)).setCell ⟨tb,1,none⟩ (.int .i64 j)).setCell ⟨tb,2,none⟩ (.string ⟨#[]⟩)).setCell ⟨tb,3,none⟩ (.slice none 0 0)).setCell ⟨tb,4,none⟩ (.int .i64 err)).output = W1.output:=tok_set (W:=W1) hT1 j err
 have HS2:Hid ((((((W1.setCell ⟨tb,0,none⟩ (.int .i64 5)).setCell ⟨tb,1,none⟩ (.int .i64 j)).setCell ⟨tb,2,none⟩ (.string ⟨#[]⟩)).setCell ⟨tb,3,none⟩ (.slice none 0 0)).setCell ⟨tb,4,none⟩ (.int .i64 err)).cell? ⟨w.heap.size,0,none⟩ = some (.int .i64 j)∧(((((W1.setCell ⟨tb,0,none⟩ (.int .i64 5)).setCell ⟨tb,1,none⟩ (.int .i64 j)).setCell ⟨tb,2,none⟩ (.string ⟨#[]⟩)).setCell ⟨tb,3,none⟩ (.slice none 0 0)).setCell ⟨tb,4,none⟩ (.int .i64 err)).cell? ⟨w.heap.size,1,none⟩ = some (.int .i64 err)∧(((((W1.setCell ⟨tb,0,none⟩ (.int .i64 5)).setCell ⟨tb,1,none⟩ (.int .i64 j)).setCell ⟨tb,2,none⟩ (.string ⟨#[]⟩)).setCell ⟨tb,3,none⟩ (.slice none 0 0)).setCell ⟨tb,4,none⟩ (.int .i64 err)).cell? ⟨rv,0,none⟩ = some (.pointer (some ⟨rb,0,none⟩))) :=
  Lib.hid ⟨Lib.cell_of_heap ((hx2.2.1 _ (by have:=HLT.out;omega)).trans hF) 0,Lib.cell_of_heap ((hx2.2.1 _ (by have:=HLT.out;omega)).trans hF) 1,Lib.cell_of_heap ((hx2.2.1 _ hvt).trans hB1) 0⟩
 have HX2:=Lib.hid hx2;have HF:=Lib.hid hF;have HB1:=Lib.hid hB1;have HR1:=Lib.hid hR1;have HBL:=Lib.hid hbl
 clear hx2 hF hB1 hT1 hR1 hbl
 refine RN.begins (fun w'=>w'.cell? ⟨w.heap.size,0,none⟩ = some (.int .i64 j)∧w'.cell? ⟨w.heap.size,1,none⟩ = some (.int .i64 err)∧w'.cell? ⟨rv,0,none⟩ = some (.pointer (some ⟨rb,0,none⟩))) [11] (by kernel_rfl) ?_
 have hS:W1.drew.cell? ⟨w.heap.size,0,none⟩ = some (.int .i64 j)∧W1.drew.cell? ⟨w.heap.size,1,none⟩ = some (.int .i64 err)∧W1.drew.cell? ⟨rv,0,none⟩ = some (.pointer (some ⟨rb,0,none⟩)):=⟨f0,f1,b0⟩
 refine RN.tk (i:=0) (v:=?_) rfl hS ?_ ?_
 rotate_left 1
 ·(intro wq hq;obtain ⟨s0,s1,s2⟩:=hq;go_simp;try with_reducible rfl)
 refine RN.tk (i:=1) (v:=?_) rfl hS ?_ ?_
 rotate_left 1
 ·(intro wq hq;obtain ⟨s0,s1,s2⟩:=hq;go_simp;try with_reducible rfl)
 refine RN.tk (i:=2) (v:=?_) rfl hS ?_ ?_
 rotate_left 1
 ·(intro wq hq;obtain ⟨s0,s1,s2⟩:=hq;go_simp;try with_reducible rfl)
 refine RN.tk (i:=3) (v:=?_) rfl hS ?_ ?_
 rotate_left 1
 ·(intro wq hq;obtain ⟨s0,s1,s2⟩:=hq;go_simp;try with_reducible rfl)
 refine RN.tk (i:=4) (v:=?_) rfl hS ?_ ?_
 rotate_left 1
 ·(intro wq hq;obtain ⟨s0,s1,s2⟩:=hq;go_simp;try with_reducible rfl)
 refine RN.tk (i:=5) (v:=?_) rfl hS ?_ ?_
 rotate_left 1
 ·(intro wq hq;obtain ⟨s0,s1,s2⟩:=hq;go_simp;try with_reducible rfl)
 refine RN.tk (i:=6) (v:=?_) rfl hS ?_ ?_
 rotate_left 1
 ·(intro wq hq;obtain ⟨s0,s1,s2⟩:=hq;go_simp;try with_reducible rfl)
 refine RN.all (rs:=[7,8]) (by kernel_rfl) (by simp) ?_
 refine RN.All.cons rfl (fun K hK=>?_) (RN.All.cons rfl (fun K hK=>?_) RN.All.nil)
 ·go_simp
  refine hK _ _ (fun _=>hS) ?_
  clear hK K
  refine RN.all (rs:=[8]) (by kernel_rfl) (by simp) ?_
  refine RN.All.cons rfl (fun K hK=>?_) RN.All.nil
  go_simp
  refine hK _ _ (fun _=>⟨cell_drew' HS2.out.1,cell_drew' HS2.out.2.1,cell_drew' HS2.out.2.2⟩) ?_
  clear hK K hS z0 z1 z2 z3 z4 y0 y1 y2 y3 y4 f0 f1 b0
  have hx2:=HX2.out
  have hS2:=HS2.out
  generalize (((((W1.setCell ⟨tb,0,none⟩ (.int .i64 5)).setCell ⟨tb,1,none⟩ (.int .i64 j)).setCell ⟨tb,2,none⟩ (.string ⟨#[]⟩)).setCell ⟨tb,3,none⟩ (.slice none 0 0)).setCell ⟨tb,4,none⟩ (.int .i64 err)) = W2 at hx2 hS2 ⊢
  obtain ⟨hT2,hk2,hz2,ho2,ht2,hu2⟩:=hx2
  have hR2:RAt W2 rb s i:=(hk2 rb hrt).trans HR1.out
  have hS:W2.drew.cell? ⟨w.heap.size,0,none⟩ = some (.int .i64 j)∧W2.drew.cell? ⟨w.heap.size,1,none⟩ = some (.int .i64 err)∧W2.drew.cell? ⟨rv,0,none⟩ = some (.pointer (some ⟨rb,0,none⟩)):=hS2
  refine RN.tk (i:=9) (v:=?_) rfl hS ?_ ?_
  rotate_left 1
  ·(intro wq hq;obtain ⟨s0,s1,s2⟩:=hq;go_simp;try with_reducible rfl)
  refine RN.tk (i:=10) (v:=?_) rfl hS ?_ ?_
  rotate_left 1
  ·(intro wq hq;obtain ⟨s0,s1,s2⟩:=hq;go_simp;try with_reducible rfl)
  have c1:=hR2.c1
  have c1f:=hR2.f1
  have hR3:=hR2.set j
  have hT3:TokAt (W2.setCell ⟨rb,1,none⟩ (.int .i64 (j:Int))) tb 5 j ⟨#[]⟩ (.slice none 0 0) err:=(Below.heap_setCell _ _ _ _ (by show tb ≠ rb;exact fun h=>hrt h.symm)).trans hT2
  have hF3:FrT rb tb w (W2.setCell ⟨rb,1,none⟩ (.int .i64 (j:Int))) :=
   ⟨ho2.trans HBL.out.os,ht2.trans HBL.out.tape,hu2.trans HBL.out.output,by have:=HBL.out.size;simp;omega,fun b hb hr ht=>(Below.heap_setCell _ _ _ _ hr).trans ((hk2 b ht).trans (HBL.out.block b hb))⟩
  have HE:=Lib.hid (And.intro hR3 (And.intro hT3 hF3))
  refine RN.all (rs:=[11]) (by kernel_rfl) (by simp) ?_
  refine RN.All.cons rfl (fun K hK=>?_) RN.All.nil
  go_simp
  refine hK _ _ (fun h=>absurd h (by decide)) ?_
  clear hK K
  refine RN.done (by kernel_rfl) ?_ _
  refine ⟨rfl,.panicking [{ v:=faultV j err,recovered:=true }],?_,.tuple #[],results_none rfl _ _ _,rfl,rfl,HE.out.1,HE.out.2.1,HE.out.2.2.drew⟩
  cases c₀
  simp_all [faultV]
 ·go_simp
  refine hK _ _ (fun _=>⟨cell_drew' HS2.out.1,cell_drew' HS2.out.2.1,cell_drew' HS2.out.2.2⟩) ?_
  clear hK K hS z0 z1 z2 z3 z4 y0 y1 y2 y3 y4 f0 f1 b0
  have hx2:=HX2.out
  have hS2:=HS2.out
  generalize (((((W1.setCell ⟨tb,0,none⟩ (.int .i64 5)).setCell ⟨tb,1,none⟩ (.int .i64 j)).setCell ⟨tb,2,none⟩ (.string ⟨#[]⟩)).setCell ⟨tb,3,none⟩ (.slice none 0 0)).setCell ⟨tb,4,none⟩ (.int .i64 err)) = W2 at hx2 hS2 ⊢
  obtain ⟨hT2,hk2,hz2,ho2,ht2,hu2⟩:=hx2
  have hR2:RAt W2 rb s i:=(hk2 rb hrt).trans HR1.out
  have hS:W2.drew.cell? ⟨w.heap.size,0,none⟩ = some (.int .i64 j)∧W2.drew.cell? ⟨w.heap.size,1,none⟩ = some (.int .i64 err)∧W2.drew.cell? ⟨rv,0,none⟩ = some (.pointer (some ⟨rb,0,none⟩)):=hS2
  refine RN.tk (i:=7) (v:=?_) rfl hS ?_ ?_
  rotate_left 1
  ·(intro wq hq;obtain ⟨s0,s1,s2⟩:=hq;go_simp;try with_reducible rfl)
  refine RN.tk (i:=9) (v:=?_) rfl hS ?_ ?_
  rotate_left 1
  ·(intro wq hq;obtain ⟨s0,s1,s2⟩:=hq;go_simp;try with_reducible rfl)
  refine RN.tk (i:=10) (v:=?_) rfl hS ?_ ?_
  rotate_left 1
  ·(intro wq hq;obtain ⟨s0,s1,s2⟩:=hq;go_simp;try with_reducible rfl)
  have c1:=hR2.c1
  have c1f:=hR2.f1
  have hR3:=hR2.set j
  have hT3:TokAt (W2.setCell ⟨rb,1,none⟩ (.int .i64 (j:Int))) tb 5 j ⟨#[]⟩ (.slice none 0 0) err:=(Below.heap_setCell _ _ _ _ (by show tb ≠ rb;exact fun h=>hrt h.symm)).trans hT2
  have hF3:FrT rb tb w (W2.setCell ⟨rb,1,none⟩ (.int .i64 (j:Int))) :=
   ⟨ho2.trans HBL.out.os,ht2.trans HBL.out.tape,hu2.trans HBL.out.output,by have:=HBL.out.size;simp;omega,fun b hb hr ht=>(Below.heap_setCell _ _ _ _ hr).trans ((hk2 b ht).trans (HBL.out.block b hb))⟩
  have HE:=Lib.hid (And.intro hR3 (And.intro hT3 hF3))
  refine RN.all (rs:=[11]) (by kernel_rfl) (by simp) ?_
  refine RN.All.cons rfl (fun K hK=>?_) RN.All.nil
  go_simp
  refine hK _ _ (fun h=>absurd h (by decide)) ?_
  clear hK K
  refine RN.done (by kernel_rfl) ?_ _
  refine ⟨rfl,.panicking [{ v:=faultV j err,recovered:=true }],?_,.tuple #[],results_none rfl _ _ _,rfl,rfl,HE.out.1,HE.out.2.1,HE.out.2.2.drew⟩
  cases c₀
  simp_all [faultV]
end Lx
end Go.Proofs.YtoklgmbpgnimcaaGreatDoor
namespace Go.Proofs.YtoklgmbpgnimcaaGreatDoor
open Go.RowKit Go.Sort
namespace Lx
open Cls Pt
def signIs (t:List UInt8):Bool:=t == [38,38] || t == [124,124] || t == [59,59] || t == [38] || t == [124] || t == [59] || t == [40] || t == [41]
def signDown (l:List UInt8):Nat→Nat
 | 0=>0
 | n + 1=>if signIs (l.take (n + 1)) then n + 1 else signDown l n
def signLen (l:List UInt8):Nat:=signDown l (min 2 l.length)
theorem signDown_le (l:List UInt8):∀ n,signDown l n≤n
 | 0=>Nat.le_refl _
 | n + 1=>by
  simp only [signDown]
  split
  ·exact Nat.le_refl _
  ·have:=signDown_le l n;omega
theorem ret_str {a b:ByteArray} (h:a = b):Ending.returned (.string a) = .returned (.string b):=by rw [h]
set_option maxHeartbeats 1600000 in
set_option maxRecDepth 100000 in
theorem sign_any (s:ByteArray) (w:World) (hs:s.size≤1000000) :
  Calls Tryz.prog 68 #[.string s] w fun e w'=>e = .returned (.string (s.extract 0 (signLen s.data.toList)))∧w = w':=by
 have hq0:signLen s.data.toList = signDown s.data.toList (min 2 s.size):=by unfold signLen;rw [lenB]
 have HQ0:=Lib.hid hq0
 clear hq0
 go_enter Tryz.func68,Tryz.ntmps68
 go_wp2
 go_loop [3] (fun i=>∃ n:Nat,n≤min 2 s.size∧i = .int .i64 n∧signLen s.data.toList = signDown s.data.toList n) (fun i=>(intOf i).toNat)
 case atStart=>exact ⟨min 2 s.size,Nat.le_refl _,by rw [show (min 2 (s.size:Int)) = ((min 2 s.size:Nat):Int) by omega],HQ0.out⟩
 case round =>
  obtain ⟨n,hn,rfl,hq⟩:=hrel
  have HQ:=Lib.hid hq
  clear hq
  cases n with
  | zero =>
   go_wp2_with fail
   go_ret
   exact ⟨ret_str (by rw [HQ.out];simp [signDown];rfl),rfl⟩
  | succ k =>
   have hk2:((k:Int) + 1)≤(s.size:Int):=by omega
   have hT:(s.extract 0 (k + 1)).toList = s.data.toList.take (k + 1):=by rw [Lib.toList_data,Lib.extract_data];simp
   cases hsg:signIs (s.data.toList.take (k + 1))
   all_goals
    rw [← hT] at hsg
    have HSG:=Lib.hid hsg;have HT:=Lib.hid hT
    clear hsg hT
    go_wp2_with fail
    all_goals (first
     | (go_ret
        first
        | exact ⟨ret_str (by rw [HQ.out,signDown,if_pos (by rw [← HT.out];exact HSG.out)]),rfl⟩
        | (exfalso;have hsg:=HSG.out;simp_all [signIs];done))
     | (go_round
        case rel=>first
          | exact ⟨k,by omega,by go_num,by rw [HQ.out,signDown,if_neg (by rw [← HT.out,HSG.out];decide)]⟩
          | (exfalso;have hsg:=HSG.out;simp_all [signIs];done)
        case measure=>simp [intOf]))
end Lx
end Go.Proofs.YtoklgmbpgnimcaaGreatDoor
namespace Go.Proofs.YtoklgmbpgnimcaaGreatDoor
open Go.RowKit Go.Sort
namespace Lx
open Cls Pt
structure Tok where
 k:Nat
 i:Nat
 t:ByteArray
 l:PL
 err:Nat
 j:Nat
def tokF (s:ByteArray) (i:Nat):Tok :=
 if s.size≤i then ⟨4,i,⟨#[]⟩,.nil,0,i⟩
 else if byteAt s i = 10 then ⟨3,i,⟨#[]⟩,.nil,0,i + 1⟩
 else if signB (byteAt s i).toNat then
  if signLen (restAt s i) = 0 then ⟨5,i,⟨#[]⟩,.nil,1,i⟩ else ⟨2,i,(s.extract i s.size).extract 0 (signLen (restAt s i)),.nil,0,i + signLen (restAt s i)⟩
 else match bareF (s.size + 1) s 0 A0 i with
  | .ok l j=>⟨1,i,⟨#[]⟩,l,0,j⟩
  | .bad j err=>⟨5,j,⟨#[]⟩,.nil,err,j⟩
theorem start_r (w:World) (rb i:Nat) (s:ByteArray) (hR:RAt w rb s i) (o1 o2:Obj):RAt ((w.alloc o1).alloc o2) rb s i :=
 ((((Below.refl w.heap.size w).alloc (Nat.le_refl _) o1).alloc (by simp) o2).block _ hR.lt).trans hR
theorem start_t (w:World) (rb i:Nat) (s:ByteArray) (hR:RAt w rb s i) :
  RAt ((w.alloc (.cells #[.pointer (some ⟨rb,0,none⟩)] 119)).alloc (.cells #[.int .i64 0,.int .i64 i,.string ⟨#[]⟩,.slice none 0 0,.int .i64 0] 84)) rb s i ∧
  ((w.alloc (.cells #[.pointer (some ⟨rb,0,none⟩)] 119)).alloc (.cells #[.int .i64 0,.int .i64 i,.string ⟨#[]⟩,.slice none 0 0,.int .i64 0] 84)).heap[w.heap.size]? = some (.cells #[.pointer (some ⟨rb,0,none⟩)] 119 (0,0)) ∧
  TokAt ((w.alloc (.cells #[.pointer (some ⟨rb,0,none⟩)] 119)).alloc (.cells #[.int .i64 0,.int .i64 i,.string ⟨#[]⟩,.slice none 0 0,.int .i64 0] 84)) (w.heap.size + 1) 0 i ⟨#[]⟩ (.slice none 0 0) 0 ∧
  FrR rb w.heap.size (fun _=>False) w ((w.alloc (.cells #[.pointer (some ⟨rb,0,none⟩)] 119)).alloc (.cells #[.int .i64 0,.int .i64 i,.string ⟨#[]⟩,.slice none 0 0,.int .i64 0] 84)):=by
 have hb:=((Below.refl w.heap.size w).alloc (Nat.le_refl _) (.cells #[.pointer (some ⟨rb,0,none⟩)] 119)).alloc (by simp) (.cells #[.int .i64 0,.int .i64 i,.string ⟨#[]⟩,.slice none 0 0,.int .i64 0] 84)
 have h:∀ (W:World) (o:Obj),(W.alloc o).heap[W.heap.size]? = some o:=fun W o=>by
  show (W.heap.push o)[W.heap.size]? = some o
  exact Array.getElem?_push_size
 have hsz:(w.alloc (.cells #[.pointer (some ⟨rb,0,none⟩)] 119)).heap.size = w.heap.size + 1:=by simp
 refine ⟨(hb.block _ hR.lt).trans hR,?_,?_,FrR.of_fr (Fr.of_below hb)⟩
 ·exact (Below.heap_alloc _ _ _ (by rw [hsz];omega)).trans (h w _)
 ·have h2:=h (w.alloc (.cells #[.pointer (some ⟨rb,0,none⟩)] 119)) (.cells #[.int .i64 0,.int .i64 i,.string ⟨#[]⟩,.slice none 0 0,.int .i64 0] 84)
  rw [hsz] at h2
  exact h2
def GotT (rb:Nat) (s:ByteArray) (w:World) (o:Tok) (e:Ending) (w':World):Prop :=
 (∃ a cap,e = .returned (.agg #[.int .i64 o.k,.int .i64 o.i,.string o.t,.slice a o.l.len cap,.int .i64 o.err])∧LiesS (fun b=>w.heap.size≤b) w' a cap o.l)∧RAt w' rb s o.j∧FrR rb w.heap.size (fun _=>False) w w'
set_option maxHeartbeats 800000 in
set_option maxRecDepth 100000 in
theorem door_ret {s:ByteArray} {rb tb rv:Nat} {w w1:World} {o:Tok} {tmps:Array Value} {a:Option Addr} {cap:Nat} (h2:tmps[2]?.getD undef = .pointer (some ⟨tb,0,none⟩)) (hT:TokAt w1 tb o.k o.i o.t (.slice a o.l.len cap) o.err) (hR:RAt w1 rb s o.j) (hF:FrR rb w.heap.size (fun _=>False) w w1) (hL:LiesS (fun b=>w.heap.size≤b) w1 a cap o.l) :
  bodyPostD Tryz.prog Tryz.f50 (GotT rb s w o) Exit.ret { tmps:=tmps,defers:=[{ target:=Target.fn (Fn.func 65) #[.pointer (some ⟨tb,0,none⟩),.pointer (some ⟨rv,0,none⟩)],args:=#[] }] } w1:=by
 refine leaves_cons (f:=65) (args:=#[.pointer (some ⟨tb,0,none⟩),.pointer (some ⟨rv,0,none⟩)]) (by simp) (by simp [go_sem]) ?_
 refine (token_idle tb rv _).mono ?_
 rintro e u' w2 ⟨rfl,rfl,hb⟩
 have hT2:TokAt w2 tb o.k o.i o.t (.slice a o.l.len cap) o.err:=(hb.block _ (Array.getElem?_eq_some_iff.1 hT).1).trans hT
 have hR2:RAt w2 rb s o.j:=(hb.block _ hR.lt).trans hR
 have hF2:FrR rb w.heap.size (fun _=>False) w w2:=hF.trans ⟨hb.os,hb.tape,hb.output,hb.size,fun b hlt _=>hb.block b hlt⟩
 have hL2:LiesS (fun b=>w.heap.size≤b) w2 a cap o.l:=hL.keep hb.size fun b _ hlt=>hb.block b hlt
 have x0:=zc0 hT2
 have x1:=zc1 hT2
 have x2:=zc2 hT2
 have x3:=zc3 hT2
 have x4:=zc4 hT2
 have hg:GotT rb s w o (.returned (.agg #[.int .i64 o.k,.int .i64 o.i,.string o.t,.slice a o.l.len cap,.int .i64 o.err])) w2:=⟨⟨a,cap,rfl,hL2⟩,hR2,hF2⟩
 simp [Leaves,settle,results,Tryz.results50,go_sem,h2,x0,x1,x2,x3,x4]
 exact hg
set_option maxHeartbeats 800000 in
set_option maxRecDepth 100000 in
theorem door_thrown {s:ByteArray} {rb tb rv x j err:Nat} {w w1:World} {tmps:Array Value} {k0 i0:Nat} {t0:ByteArray} {v0:Value} {e0:Nat} (ty:TypeId) (h2:tmps[2]?.getD undef = .pointer (some ⟨tb,0,none⟩)) (hB:w1.heap[rv]? = some (.cells #[.pointer (some ⟨rb,0,none⟩)] ty (0,0))) (hT:TokAt w1 tb k0 i0 t0 v0 e0) (hR:RAt w1 rb s x) (hF:FrR rb w.heap.size (fun _=>False) w w1) (hrt:rb ≠ tb) (hvt:rv ≠ tb) (htb:w.heap.size≤tb) :
  bodyPostD Tryz.prog Tryz.f50 (GotT rb s w ⟨5,j,⟨#[]⟩,.nil,err,j⟩) (Exit.panic [{ v:=faultV j err,recovered:=false }]) { tmps:=tmps,defers:=[{ target:=Target.fn (Fn.func 65) #[.pointer (some ⟨tb,0,none⟩),.pointer (some ⟨rv,0,none⟩)],args:=#[] }] } w1:=by
 refine leaves_cons (f:=65) (args:=#[.pointer (some ⟨tb,0,none⟩),.pointer (some ⟨rv,0,none⟩)]) (by simp) (by simp [go_sem]) ?_
 refine (token_caught tb rv rb x j err s w1 ty hB k0 i0 t0 v0 e0 hT hR hrt hvt).mono ?_
 rintro e u' w2 ⟨rfl,rfl,hR2,hT2,hfr⟩
 have hF2:FrR rb w.heap.size (fun _=>False) w w2:=hF.trans ⟨hfr.os,hfr.tape,hfr.output,hfr.size,fun b hb ho=>by
  rcases ho with ho | ho
  ·exact hfr.block b hb ho.2 (by omega)
  ·exact ho.elim⟩
 have x0:=zc0 hT2
 have x1:=zc1 hT2
 have x2:=zc2 hT2
 have x3:=zc3 hT2
 have x4:=zc4 hT2
 have hg:GotT rb s w ⟨5,j,⟨#[]⟩,.nil,err,j⟩ (.returned (.agg #[.int .i64 5,.int .i64 j,.string ⟨#[]⟩,.slice none 0 0,.int .i64 err])) w2:=⟨⟨none,0,rfl,fun _ _ _=>⟨Nat.le_refl _,Nat.zero_le _,.inl rfl⟩⟩,hR2,hF2⟩
 simp [Leaves,settle,results,Tryz.results50,go_sem,h2,x0,x1,x2,x3,x4]
 exact hg
theorem tok_back {W:World} {tb k i:Nat} {t:ByteArray} {v:Value} {err:Nat} (hT:TokAt W tb k i t v err) :
  TokAt (((((W.setCell ⟨tb,0,none⟩ (.int .i64 k)).setCell ⟨tb,1,none⟩ (.int .i64 i)).setCell ⟨tb,2,none⟩ (.string t)).setCell ⟨tb,3,none⟩ v).setCell ⟨tb,4,none⟩ (.int .i64 err)) tb k i t v err∧(∀ b,b ≠ tb→(((((W.setCell ⟨tb,0,none⟩ (.int .i64 k)).setCell ⟨tb,1,none⟩ (.int .i64 i)).setCell ⟨tb,2,none⟩ (.string t)).setCell ⟨tb,3,none⟩ v).setCell ⟨tb,4,none⟩ (.int .i64 err)).heap[b]? = W.heap[b]?)∧(((((W.setCell ⟨tb,0,none⟩ (.int .i64 k)).setCell ⟨tb,1,none⟩ (.int .i64 i)).setCell ⟨tb,2,none⟩ (.string t)).setCell ⟨tb,3,none⟩ v).setCell ⟨tb,4,none⟩ (.int .i64 err)).heap.size = W.heap.size∧(((((W.setCell ⟨tb,0,none⟩ (.int .i64 k)).setCell ⟨tb,1,none⟩ (.int .i64 i)).setCell ⟨tb,2,none⟩ (.string t)).setCell ⟨tb,3,none⟩ v).setCell ⟨tb,4,none⟩ (.int .i64 err)).os = W.os∧(((((W.setCell ⟨tb,0,none⟩ (.int .i64 k)).setCell ⟨tb,1,none⟩ (.int .i64 i)).setCell ⟨tb,2,none⟩ (.string t)).setCell ⟨tb,3,none⟩ v).setCell ⟨tb,4,none⟩ (.int .i64 err)).tape = W.tape∧(((((W.setCell ⟨tb,0,none⟩ (.int .i64 k)).setCell ⟨tb,1,none⟩ (.int .i64 i)).setCell ⟨tb,2,none⟩ (.string t)).setCell ⟨tb,3,none⟩ v).setCell ⟨tb,4,none⟩ (.int .i64 err)).output = W.output :=
 ⟨heap_setCell_same _ _ 4 _ _ (.int .i64 err) (heap_setCell_same _ _ 3 _ _ v (heap_setCell_same _ _ 2 _ _ (.string t) (heap_setCell_same _ _ 1 _ _ (.int .i64 i) (heap_setCell_same _ _ 0 _ _ (.int .i64 k) hT)))),
  fun b hb=>(Below.heap_setCell _ _ _ _ hb).trans <| (Below.heap_setCell _ _ _ _ hb).trans <| (Below.heap_setCell _ _ _ _ hb).trans <| (Below.heap_setCell _ _ _ _ hb).trans <| Below.heap_setCell _ _ _ _ hb,by simp,(so _ _ _).trans <| (so _ _ _).trans <| (so _ _ _).trans <| (so _ _ _).trans <| so _ _ _,(st _ _ _).trans <| (st _ _ _).trans <| (st _ _ _).trans <| (st _ _ _).trans <| st _ _ _,(su _ _ _).trans <| (su _ _ _).trans <| (su _ _ _).trans <| (su _ _ _).trans <| su _ _ _⟩
theorem door_back {s:ByteArray} {rb tb rv:Nat} {w W:World} (o:Tok) {tmps:Array Value} {a:Option Addr} {cap:Nat} (h2:tmps[2]?.getD undef = .pointer (some ⟨tb,0,none⟩)) (hT:TokAt W tb o.k o.i o.t (.slice a o.l.len cap) o.err) (hR:RAt W rb s o.j) (hF:FrR rb w.heap.size (fun _=>False) w W) (hL:LiesS (fun b=>w.heap.size≤b∧b ≠ tb) W a cap o.l) (htb:w.heap.size≤tb) (hrt:rb ≠ tb) :
  bodyPostD Tryz.prog Tryz.f50 (GotT rb s w o) Exit.ret { tmps:=tmps,defers:=[{ target:=Target.fn (Fn.func 65) #[.pointer (some ⟨tb,0,none⟩),.pointer (some ⟨rv,0,none⟩)],args:=#[] }] } (((((W.setCell ⟨tb,0,none⟩ (.int .i64 o.k)).setCell ⟨tb,1,none⟩ (.int .i64 o.i)).setCell ⟨tb,2,none⟩ (.string o.t)).setCell ⟨tb,3,none⟩ (.slice a o.l.len cap)).setCell ⟨tb,4,none⟩ (.int .i64 o.err)):=by
 obtain ⟨h1,hk,hz,h3,h4,h5⟩:=tok_back hT
 exact door_ret h2 h1 ((hk rb hrt).trans hR) (hF.trans ⟨h3,h4,h5,by rw [hz];exact Nat.le_refl _,fun b _ ho=>hk b (by
  rcases ho with ho | ho
  ·omega
  ·exact ho.elim)⟩) ((hL.keep (by rw [hz];exact Nat.le_refl _) fun b hb _=>hk b hb.2).mono fun b hb _=>hb.1)
end Lx
end Go.Proofs.YtoklgmbpgnimcaaGreatDoor
