/- (*lex.reader).token: what is broken off becomes a token. -/
import Derived.Test.YtckakkeejekibaaGreatDoorLxP
set_option maxHeartbeats 1600000
set_option maxRecDepth 100000
namespace Go.Proofs.YtckakkeejekibaaGreatDoor
open Go.RowKit Go.Sort
namespace Lx
open j6 Pt
def ig (w:World) (tb k i:Nat) (t:ByteArray) (v:Value) (err:Nat):Prop:=w.heap[tb]? = some (.cells #[.int .i64 k,.int .i64 i,.string t,v,.int .i64 err] 59 (0,0))
structure WW (rb tb:Nat) (w w':World):Prop where
 os:w'.os = w.os
 tape:w'.tape = w.tape
 output:w'.output = w.output
 size:w.heap.size≤w'.heap.size
 block:∀ b,b < w.heap.size→b ≠ rb→b ≠ tb→w'.heap[b]? = w.heap[b]?
theorem Dt (v:Value) (xT:TypeId) (w:World):(Instr.typeAssert (.iface 129 v) xT 129 true).run Tryz.prog w = .ok (.tuple #[v,.bool true]) w:=by
 kernel_rfl
theorem Jl (xT:TypeId) (w:World):(Instr.typeAssert .nilIface xT 129 true).run Tryz.prog w = .ok (.tuple #[.agg #[.int .i64 0,.int .i64 0],.bool false]) w:=by
 kernel_rfl
theorem Jm (tb rv:Nat) (w:World) :
  CallsD Tryz.prog 120 #[.pointer (some ⟨tb,0,none⟩),.pointer (some ⟨rv,0,none⟩)] .returning w fun e u' w'=>e = .returned (.tuple #[])∧u' = .returning∧Below w.heap.size w w':=by
 refine callsD_of_wpS Tryz.func120 rfl fun F5 cs hu=>?_;simp only [Tryz.ntmps120,List.size_toArray,zz,zZ,Nat.reduceAdd,Nat.reduceSub,Array.replicate_succ,Array.replicate_zero,List.push_toArray,List.append_toArray,List.nil_append,List.cons_append];apply wpS_seq;apply wpS_region;simp [wpOpsS,go_sem,recoverD,hu,Exit.thenS];refine wpS_of_wp ?_;have ha:=Jl;go_wp2_with fail;refine ⟨rfl,.returning,?_,.tuple #[],results_none rfl _ _ _,rfl,rfl,(Below.refl _ _).alloc (Nat.le_refl _) _⟩;cases F5
 simp_all
theorem WW.drew {rb tb:Nat} {w w':World} (h:WW rb tb w w'):WW rb tb w w'.drew:=⟨h.os,h.tape,h.output,h.size,h.block⟩
theorem so (W:World) (a:Addr) (v:Value):(W.setCell a v).os = W.os:=rfl
theorem st (W:World) (a:Addr) (v:Value):(W.setCell a v).tape = W.tape:=rfl
theorem su (W:World) (a:Addr) (v:Value):(W.setCell a v).output = W.output:=rfl
theorem lX {W:World} {a:Addr} {v:Option Value} (h:W.cell? a = v):W.drew.cell? a = v:=h
theorem Sq {W:World} {tb k i0:Nat} {t:ByteArray} {v:Value} {Sr:Nat} (hT:ig W tb k i0 t v Sr) (j err:Nat) :
  ig (((((W.setCell ⟨tb,0,none⟩ (.int .i64 5)).setCell ⟨tb,1,none⟩ (.int .i64 j)).setCell ⟨tb,2,none⟩ (.string ⟨#[]⟩)).setCell ⟨tb,3,none⟩ (.slice none 0 0)).setCell ⟨tb,4,none⟩ (.int .i64 err)) tb 5 j ⟨#[]⟩ (.slice none 0 0) err∧(∀ b,b ≠ tb→(((((W.setCell ⟨tb,0,none⟩ (.int .i64 5)).setCell ⟨tb,1,none⟩ (.int .i64 j)).setCell ⟨tb,2,none⟩ (.string ⟨#[]⟩)).setCell ⟨tb,3,none⟩ (.slice none 0 0)).setCell ⟨tb,4,none⟩ (.int .i64 err)).heap[b]? = W.heap[b]?)∧(((((W.setCell ⟨tb,0,none⟩ (.int .i64 5)).setCell ⟨tb,1,none⟩ (.int .i64 j)).setCell ⟨tb,2,none⟩ (.string ⟨#[]⟩)).setCell ⟨tb,3,none⟩ (.slice none 0 0)).setCell ⟨tb,4,none⟩ (.int .i64 err)).heap.size = W.heap.size∧(((((W.setCell ⟨tb,0,none⟩ (.int .i64 5)).setCell ⟨tb,1,none⟩ (.int .i64 j)).setCell ⟨tb,2,none⟩ (.string ⟨#[]⟩)).setCell ⟨tb,3,none⟩ (.slice none 0 0)).setCell ⟨tb,4,none⟩ (.int .i64 err)).os = W.os∧(((((W.setCell ⟨tb,0,none⟩ (.int .i64 5)).setCell ⟨tb,1,none⟩ (.int .i64 j)).setCell ⟨tb,2,none⟩ (.string ⟨#[]⟩)).setCell ⟨tb,3,none⟩ (.slice none 0 0)).setCell ⟨tb,4,none⟩ (.int .i64 err)).tape = W.tape∧(((((W.setCell ⟨tb,0,none⟩ (.int .i64 5)).setCell ⟨tb,1,none⟩ (.int .i64 j)).setCell ⟨tb,2,none⟩ (.string ⟨#[]⟩)).setCell ⟨tb,3,none⟩ (.slice none 0 0)).setCell ⟨tb,4,none⟩ (.int .i64 err)).output = W.output :=
 ⟨heap_setCell_same _ _ 4 _ _ (.int .i64 err) (heap_setCell_same _ _ 3 _ _ (.slice none 0 0) (heap_setCell_same _ _ 2 _ _ (.string ⟨#[]⟩) (heap_setCell_same _ _ 1 _ _ (.int .i64 j) (heap_setCell_same _ _ 0 _ _ (.int .i64 5) hT)))),
  fun b hb=>(Below.heap_setCell _ _ _ _ hb).trans <| (Below.heap_setCell _ _ _ _ hb).trans <| (Below.heap_setCell _ _ _ _ hb).trans <| (Below.heap_setCell _ _ _ _ hb).trans <| Below.heap_setCell _ _ _ _ hb,by simp,(so _ _ _).trans <| (so _ _ _).trans <| (so _ _ _).trans <| (so _ _ _).trans <| so _ _ _,(st _ _ _).trans <| (st _ _ _).trans <| (st _ _ _).trans <| (st _ _ _).trans <| st _ _ _,(su _ _ _).trans <| (su _ _ _).trans <| (su _ _ _).trans <| (su _ _ _).trans <| su _ _ _⟩
theorem Du (tb rv rb i j err:Nat) (s:ByteArray) (w:World) (ty:TypeId) (hB:w.heap[rv]? = some (.cells #[.pointer (some ⟨rb,0,none⟩)] ty (0,0))) (k:Nat) (i0:Nat) (t:ByteArray) (v:Value) (Sr:Nat) (hT:ig w tb k i0 t v Sr) (hR:fV w rb s i) (KD:rb ≠ tb) (hvt:rv ≠ tb) :
  CallsD Tryz.prog 120 #[.pointer (some ⟨tb,0,none⟩),.pointer (some ⟨rv,0,none⟩)] (.panicking [{ v:=qh j err,recovered:=false }]) w fun e u' w' =>
   e = .returned (.tuple #[])∧u' = .panicking [{ v:=qh j err,recovered:=true }]∧fV w' rb s j∧ig w' tb 5 j ⟨#[]⟩ (.slice none 0 0) err∧WW rb tb w w':=by
 have R6:∀ o,(w.alloc o).cell? ⟨rv,0,none⟩ = some (.pointer (some ⟨rb,0,none⟩)):=fun o=>kz (((Below.refl w.heap.size w).alloc (Nat.le_refl _) o).block rv (Array.getElem?_eq_some_iff.1 hB).1 |>.trans hB) 0;refine callsD_of_wpS Tryz.func120 rfl fun F5 cs hu=>?_;simp only [Tryz.ntmps120,List.size_toArray,zz,zZ,Nat.reduceAdd,Nat.reduceSub,Array.replicate_succ,Array.replicate_zero,List.push_toArray,List.append_toArray,List.nil_append,List.cons_append];apply wpS_seq;apply wpS_region;simp [wpOpsS,go_sem,recoverD,hu,Exit.thenS,qh];refine wpS_of_wp ?_;have ha:=Dt;have WX:=hR.lt;have aB:=(Array.getElem?_eq_some_iff.1 hT).1;have hlv:=(Array.getElem?_eq_some_iff.1 hB).1;have oW:=(Below.refl w.heap.size w).alloc (Nat.le_refl _) (.cells #[.int .i64 j,.int .i64 err] 129);have hF:(w.alloc (.cells #[.int .i64 j,.int .i64 err] 129)).heap[w.heap.size]? = some (.cells #[.int .i64 j,.int .i64 err] 129 (0,0)):=by
  show (w.heap.push _)[w.heap.size]? = _;exact Array.getElem?_push_size
 have R4:=(oW.block rv hlv).trans hB;have Jn:ig (w.alloc (.cells #[.int .i64 j,.int .i64 err] 129)) tb k i0 t v Sr:=(oW.block tb aB).trans hT;have Yd:fV (w.alloc (.cells #[.int .i64 j,.int .i64 err] 129)) rb s i:=(oW.block rb WX).trans hR;have jH:=kq (And.intro hF (And.intro R4 (And.intro Jn (And.intro Yd oW))));have HLR:=kq WX;have eG:=kq aB;have HLV:=kq hlv;clear R6 hB hT hR hF R4 Jn Yd oW WX aB hlv;go_wp2_with fail;have iF:=jH.out;generalize hW1:(w.alloc (.cells #[.int .i64 j,.int .i64 err] 129)) = W1 at iF ⊢
 have Rp:=kq hW1;obtain ⟨hF,R4,Jn,Yd,oW⟩:=iF;clear jH hW1;have f0:=dx hF;have f1:=dA hF;have b0:=dx R4;have z0:=dx Jn;have z1:=dA Jn;have z2:=ed Jn;have z3:=fA Jn;have z4:=dS Jn;have y0:=zf 0 Jn;have y1:=zf 1 Jn;have y2:=zf 2 Jn;have y3:=zf 3 Jn;have y4:=zf 4 Jn;have zu:ig (((((W1.setCell ⟨tb,0,none⟩ (.int .i64 5)).setCell ⟨tb,1,none⟩ (.int .i64 j)).setCell ⟨tb,2,none⟩ (.string ⟨#[]⟩)).setCell ⟨tb,3,none⟩ (.slice none 0 0)).setCell ⟨tb,4,none⟩ (.int .i64 err)) tb 5 j ⟨#[]⟩ (.slice none 0 0) err∧(∀ b,b ≠ tb→(((((W1.setCell ⟨tb,0,none⟩ (.int .i64 5)).setCell ⟨tb,1,none⟩ (.int .i64 j)).setCell ⟨tb,2,none⟩ (.string ⟨#[]⟩)).setCell ⟨tb,3,none⟩ (.slice none 0 0)).setCell ⟨tb,4,none⟩ (.int .i64 err)).heap[b]? = W1.heap[b]?)∧(((((W1.setCell ⟨tb,0,none⟩ (.int .i64 5)).setCell ⟨tb,1,none⟩ (.int .i64 j)).setCell ⟨tb,2,none⟩ (.string ⟨#[]⟩)).setCell ⟨tb,3,none⟩ (.slice none 0 0)).setCell ⟨tb,4,none⟩ (.int .i64 err)).heap.size = W1.heap.size∧(((((W1.setCell ⟨tb,0,none⟩ (.int .i64 5)).setCell ⟨tb,1,none⟩ (.int .i64 j)).setCell ⟨tb,2,none⟩ (.string ⟨#[]⟩)).setCell ⟨tb,3,none⟩ (.slice none 0 0)).setCell ⟨tb,4,none⟩ (.int .i64 err)).os = W1.os∧(((((W1.setCell ⟨tb,0,none⟩ (.int .i64 5)).setCell ⟨tb,1,none⟩ (.int .i64 j)).setCell ⟨tb,2,none⟩ (.string ⟨#[]⟩)).setCell ⟨tb,3,none⟩ (.slice none 0 0)).setCell ⟨tb,4,none⟩ (.int .i64 err)).tape = W1.tape∧(((((W1.setCell ⟨tb,0,none⟩ (.int .i64 5)).setCell ⟨tb,1,none⟩ (.int .i64 j)).setCell ⟨tb,2,none⟩ (.string ⟨#[]⟩)).setCell ⟨tb,3,none⟩ (.slice none 0 0)).setCell ⟨tb,4,none⟩ (.int .i64 err)).output = W1.output:=Sq (W:=W1) Jn j err;have Ro:Hid ((((((W1.setCell ⟨tb,0,none⟩ (.int .i64 5)).setCell ⟨tb,1,none⟩ (.int .i64 j)).setCell ⟨tb,2,none⟩ (.string ⟨#[]⟩)).setCell ⟨tb,3,none⟩ (.slice none 0 0)).setCell ⟨tb,4,none⟩ (.int .i64 err)).cell? ⟨w.heap.size,0,none⟩ = some (.int .i64 j)∧(((((W1.setCell ⟨tb,0,none⟩ (.int .i64 5)).setCell ⟨tb,1,none⟩ (.int .i64 j)).setCell ⟨tb,2,none⟩ (.string ⟨#[]⟩)).setCell ⟨tb,3,none⟩ (.slice none 0 0)).setCell ⟨tb,4,none⟩ (.int .i64 err)).cell? ⟨w.heap.size,1,none⟩ = some (.int .i64 err)∧(((((W1.setCell ⟨tb,0,none⟩ (.int .i64 5)).setCell ⟨tb,1,none⟩ (.int .i64 j)).setCell ⟨tb,2,none⟩ (.string ⟨#[]⟩)).setCell ⟨tb,3,none⟩ (.slice none 0 0)).setCell ⟨tb,4,none⟩ (.int .i64 err)).cell? ⟨rv,0,none⟩ = some (.pointer (some ⟨rb,0,none⟩))) :=
  kq ⟨kz ((zu.2.1 _ (by have:=eG.out;omega)).trans hF) 0,kz ((zu.2.1 _ (by have:=eG.out;omega)).trans hF) 1,kz ((zu.2.1 _ hvt).trans R4) 0⟩
 have X5:=kq zu;have HF:=kq hF;have iR:=kq R4;have KJ:=kq Yd;have o7:=kq oW;clear zu hF R4 Jn Yd oW;refine RN.begins (fun w'=>w'.cell? ⟨w.heap.size,0,none⟩ = some (.int .i64 j)∧w'.cell? ⟨w.heap.size,1,none⟩ = some (.int .i64 err)∧w'.cell? ⟨rv,0,none⟩ = some (.pointer (some ⟨rb,0,none⟩))) [11] (by kernel_rfl) ?_;have hS:W1.drew.cell? ⟨w.heap.size,0,none⟩ = some (.int .i64 j)∧W1.drew.cell? ⟨w.heap.size,1,none⟩ = some (.int .i64 err)∧W1.drew.cell? ⟨rv,0,none⟩ = some (.pointer (some ⟨rb,0,none⟩)):=⟨f0,f1,b0⟩;refine RN.tk (i:=0) rfl hS (by intro wq hq;obtain ⟨s0,s1,s2⟩:=hq;go_simp;try with_reducible rfl) ?_;refine RN.tk (i:=1) rfl hS (by intro wq hq;obtain ⟨s0,s1,s2⟩:=hq;go_simp;try with_reducible rfl) ?_;refine RN.tk (i:=2) rfl hS (by intro wq hq;obtain ⟨s0,s1,s2⟩:=hq;go_simp;try with_reducible rfl) ?_;refine RN.tk (i:=3) rfl hS (by intro wq hq;obtain ⟨s0,s1,s2⟩:=hq;go_simp;try with_reducible rfl) ?_;refine RN.tk (i:=4) rfl hS (by intro wq hq;obtain ⟨s0,s1,s2⟩:=hq;go_simp;try with_reducible rfl) ?_;refine RN.tk (i:=5) rfl hS (by intro wq hq;obtain ⟨s0,s1,s2⟩:=hq;go_simp;try with_reducible rfl) ?_;refine RN.tk (i:=6) rfl hS (by intro wq hq;obtain ⟨s0,s1,s2⟩:=hq;go_simp;try with_reducible rfl) ?_;refine RN.all (rs:=[7,8]) (by kernel_rfl) (by simp) ?_;refine RN.All.cons rfl (fun K hK=>?_) (RN.All.cons rfl (fun K hK=>?_) RN.All.nil)
 ·go_simp;refine hK _ _ (fun _=>hS) ?_;clear hK K;refine RN.one 8 rfl fun K hK=>?_;go_simp;refine hK _ _ (fun _=>⟨lX Ro.out.1,lX Ro.out.2.1,lX Ro.out.2.2⟩) ?_;clear hK K hS z0 z1 z2 z3 z4 y0 y1 y2 y3 y4 f0 f1 b0;have zu:=X5.out;have wE:=Ro.out;generalize (((((W1.setCell ⟨tb,0,none⟩ (.int .i64 5)).setCell ⟨tb,1,none⟩ (.int .i64 j)).setCell ⟨tb,2,none⟩ (.string ⟨#[]⟩)).setCell ⟨tb,3,none⟩ (.slice none 0 0)).setCell ⟨tb,4,none⟩ (.int .i64 err)) = W2 at zu wE ⊢
  obtain ⟨Jo,rU,lM,ho2,MB,hu2⟩:=zu;have MC:fV W2 rb s i:=(rU rb KD).trans KJ.out;have hS:W2.drew.cell? ⟨w.heap.size,0,none⟩ = some (.int .i64 j)∧W2.drew.cell? ⟨w.heap.size,1,none⟩ = some (.int .i64 err)∧W2.drew.cell? ⟨rv,0,none⟩ = some (.pointer (some ⟨rb,0,none⟩)):=wE;refine RN.tk (i:=9) rfl hS (by intro wq hq;obtain ⟨s0,s1,s2⟩:=hq;go_simp;try with_reducible rfl) ?_;refine RN.tk (i:=10) rfl hS (by intro wq hq;obtain ⟨s0,s1,s2⟩:=hq;go_simp;try with_reducible rfl) ?_;have c1:=MC.c1;have c1f:=MC.f1;have hR3:=MC.set j;have hT3:ig (W2.setCell ⟨rb,1,none⟩ (.int .i64 (j:Int))) tb 5 j ⟨#[]⟩ (.slice none 0 0) err:=(Below.heap_setCell _ _ _ _ (by show tb ≠ rb;exact fun h=>KD h.symm)).trans Jo;have hF3:WW rb tb w (W2.setCell ⟨rb,1,none⟩ (.int .i64 (j:Int))) :=
   ⟨ho2.trans o7.out.os,MB.trans o7.out.tape,hu2.trans o7.out.output,by have:=o7.out.size;simp;omega,fun b hb hr ht=>(Below.heap_setCell _ _ _ _ hr).trans ((rU b ht).trans (o7.out.block b hb))⟩
  have HE:=kq (And.intro hR3 (And.intro hT3 hF3));refine RN.one 11 rfl fun K hK=>?_;go_simp;refine hK _ _ (fun h=>absurd h (by decide)) ?_;clear hK K;refine RN.done (by kernel_rfl) ?_ _;refine ⟨rfl,.panicking [{ v:=qh j err,recovered:=true }],?_,.tuple #[],results_none rfl _ _ _,rfl,rfl,HE.out.1,HE.out.2.1,HE.out.2.2.drew⟩;cases F5
  simp_all [qh]
 ·go_simp;refine hK _ _ (fun _=>⟨lX Ro.out.1,lX Ro.out.2.1,lX Ro.out.2.2⟩) ?_;clear hK K hS z0 z1 z2 z3 z4 y0 y1 y2 y3 y4 f0 f1 b0;have zu:=X5.out;have wE:=Ro.out;generalize (((((W1.setCell ⟨tb,0,none⟩ (.int .i64 5)).setCell ⟨tb,1,none⟩ (.int .i64 j)).setCell ⟨tb,2,none⟩ (.string ⟨#[]⟩)).setCell ⟨tb,3,none⟩ (.slice none 0 0)).setCell ⟨tb,4,none⟩ (.int .i64 err)) = W2 at zu wE ⊢
  obtain ⟨Jo,rU,lM,ho2,MB,hu2⟩:=zu;have MC:fV W2 rb s i:=(rU rb KD).trans KJ.out;have hS:W2.drew.cell? ⟨w.heap.size,0,none⟩ = some (.int .i64 j)∧W2.drew.cell? ⟨w.heap.size,1,none⟩ = some (.int .i64 err)∧W2.drew.cell? ⟨rv,0,none⟩ = some (.pointer (some ⟨rb,0,none⟩)):=wE;refine RN.tk (i:=7) rfl hS (by intro wq hq;obtain ⟨s0,s1,s2⟩:=hq;go_simp;try with_reducible rfl) ?_;refine RN.tk (i:=9) rfl hS (by intro wq hq;obtain ⟨s0,s1,s2⟩:=hq;go_simp;try with_reducible rfl) ?_;refine RN.tk (i:=10) rfl hS (by intro wq hq;obtain ⟨s0,s1,s2⟩:=hq;go_simp;try with_reducible rfl) ?_;have c1:=MC.c1;have c1f:=MC.f1;have hR3:=MC.set j;have hT3:ig (W2.setCell ⟨rb,1,none⟩ (.int .i64 (j:Int))) tb 5 j ⟨#[]⟩ (.slice none 0 0) err:=(Below.heap_setCell _ _ _ _ (by show tb ≠ rb;exact fun h=>KD h.symm)).trans Jo;have hF3:WW rb tb w (W2.setCell ⟨rb,1,none⟩ (.int .i64 (j:Int))) :=
   ⟨ho2.trans o7.out.os,MB.trans o7.out.tape,hu2.trans o7.out.output,by have:=o7.out.size;simp;omega,fun b hb hr ht=>(Below.heap_setCell _ _ _ _ hr).trans ((rU b ht).trans (o7.out.block b hb))⟩
  have HE:=kq (And.intro hR3 (And.intro hT3 hF3));refine RN.one 11 rfl fun K hK=>?_;go_simp;refine hK _ _ (fun h=>absurd h (by decide)) ?_;clear hK K;refine RN.done (by kernel_rfl) ?_ _;refine ⟨rfl,.panicking [{ v:=qh j err,recovered:=true }],?_,.tuple #[],results_none rfl _ _ _,rfl,rfl,HE.out.1,HE.out.2.1,HE.out.2.2.drew⟩;cases F5
  simp_all [qh]
def oP (t:List UInt8):Bool:=t == [38,38] || t == [124,124] || t == [59,59] || t == [38] || t == [124] || t == [59] || t == [40] || t == [41]
def signDown (l:List UInt8):Nat→Nat
 | 0=>0
 | n + 1=>if oP (l.take (n + 1)) then n + 1 else signDown l n
def dM (l:List UInt8):Nat:=signDown l (min 2 l.length)
theorem sj (l:List UInt8):∀ n,signDown l n≤n
 | 0=>Nat.le_refl _
 | n + 1=>by
  simp only [signDown];split
  ·exact Nat.le_refl _
  ·have:=sj l n;omega
theorem KR {a b:ByteArray} (h:a = b):Ending.returned (.string a) = .returned (.string b):=by rw [h]
theorem rR (s:ByteArray) (w:World) (hs:s.size≤1000000) :
  Calls Tryz.prog 123 #[.string s] w fun e w'=>e = .returned (.string (s.extract 0 (dM s.data.toList)))∧w = w':=by
 have Uh:dM s.data.toList = signDown s.data.toList (min 2 s.size):=by unfold dM;rw [iE]
 have HQ0:=kq Uh;clear Uh;go_enter Tryz.func123,Tryz.ntmps123;go_wp2
 go_loop [3] (fun i=>∃ n:Nat,n≤min 2 s.size∧i = .int .i64 n∧dM s.data.toList = signDown s.data.toList n) (fun i=>(intOf i).toNat)
 case atStart=>exact ⟨min 2 s.size,Nat.le_refl _,by rw [show (min 2 (s.size:Int)) = ((min 2 s.size:Nat):Int) by omega],HQ0.out⟩
 case round =>
  obtain ⟨n,hn,rfl,hq⟩:=hrel;have HQ:=kq hq;clear hq;cases n with
  | zero =>
   go_wp2_with fail;go_ret;exact ⟨KR (by rw [HQ.out];simp [signDown];rfl),rfl⟩
  | succ k =>
   have rU:((k:Int) + 1)≤(s.size:Int):=by omega
   have hT:(s.extract 0 (k + 1)).toList = s.data.toList.take (k + 1):=by rw [Lib.toList_data,Lib.extract_data];simp
   cases zy:oP (s.data.toList.take (k + 1))
   all_goals
    rw [← hT] at zy;have Rw:=kq zy;have HT:=kq hT;clear zy hT;go_wp2_with fail
    all_goals (first
     | (go_ret
        first
        | exact ⟨KR (by rw [HQ.out,signDown,if_pos (by rw [← HT.out];exact Rw.out)]),rfl⟩
        | (exfalso;have zy:=Rw.out;simp_all [oP];done))
     | (go_round
        case rel=>first
          | exact ⟨k,by omega,by go_num,by rw [HQ.out,signDown,if_neg (by rw [← HT.out,Rw.out];decide)]⟩
          | (exfalso;have zy:=Rw.out;simp_all [oP];done)
        case measure=>simp [intOf]))
structure Tok where
 k:Nat
 i:Nat
 t:ByteArray
 l:PL
 err:Nat
 j:Nat
def tokF (s:ByteArray) (i:Nat):Tok :=
 if s.size≤i then ⟨4,i,⟨#[]⟩,.nil,0,i⟩
 else if bG s i = 10 then ⟨3,i,⟨#[]⟩,.nil,0,i + 1⟩
 else if lL (bG s i).toNat then
  if dM (ag s i) = 0 then ⟨5,i,⟨#[]⟩,.nil,1,i⟩ else ⟨2,i,(s.extract i s.size).extract 0 (dM (ag s i)),.nil,0,i + dM (ag s i)⟩
 else match bareF (s.size + 1) s 0 A0 i with
  | .ok l j=>⟨1,i,⟨#[]⟩,l,0,j⟩
  | .bad j err=>⟨5,j,⟨#[]⟩,.nil,err,j⟩
theorem Su (w:World) (rb i:Nat) (s:ByteArray) (hR:fV w rb s i) (o1 o2:Obj):fV ((w.alloc o1).alloc o2) rb s i :=
 ((((Below.refl w.heap.size w).alloc (Nat.le_refl _) o1).alloc (by simp) o2).block _ hR.lt).trans hR
theorem Sv (w:World) (rb i:Nat) (s:ByteArray) (hR:fV w rb s i) :
  fV ((w.alloc (.cells #[.pointer (some ⟨rb,0,none⟩)] 127)).alloc (.cells #[.int .i64 0,.int .i64 i,.string ⟨#[]⟩,.slice none 0 0,.int .i64 0] 59)) rb s i ∧
  ((w.alloc (.cells #[.pointer (some ⟨rb,0,none⟩)] 127)).alloc (.cells #[.int .i64 0,.int .i64 i,.string ⟨#[]⟩,.slice none 0 0,.int .i64 0] 59)).heap[w.heap.size]? = some (.cells #[.pointer (some ⟨rb,0,none⟩)] 127 (0,0)) ∧
  ig ((w.alloc (.cells #[.pointer (some ⟨rb,0,none⟩)] 127)).alloc (.cells #[.int .i64 0,.int .i64 i,.string ⟨#[]⟩,.slice none 0 0,.int .i64 0] 59)) (w.heap.size + 1) 0 i ⟨#[]⟩ (.slice none 0 0) 0 ∧
  fI rb w.heap.size (fun _=>False) w ((w.alloc (.cells #[.pointer (some ⟨rb,0,none⟩)] 127)).alloc (.cells #[.int .i64 0,.int .i64 i,.string ⟨#[]⟩,.slice none 0 0,.int .i64 0] 59)):=by
 have hb:=((Below.refl w.heap.size w).alloc (Nat.le_refl _) (.cells #[.pointer (some ⟨rb,0,none⟩)] 127)).alloc (by simp) (.cells #[.int .i64 0,.int .i64 i,.string ⟨#[]⟩,.slice none 0 0,.int .i64 0] 59);have h:∀ (W:World) (o:Obj),(W.alloc o).heap[W.heap.size]? = some o:=fun W o=>by
  show (W.heap.push o)[W.heap.size]? = some o;exact Array.getElem?_push_size
 have bU:(w.alloc (.cells #[.pointer (some ⟨rb,0,none⟩)] 127)).heap.size = w.heap.size + 1:=by simp
 refine ⟨(hb.block _ hR.lt).trans hR,?_,?_,fI.oJ (Fr.of_below hb)⟩
 ·exact (Below.heap_alloc _ _ _ (by rw [bU];omega)).trans (h w _)
 ·have h2:=h (w.alloc (.cells #[.pointer (some ⟨rb,0,none⟩)] 127)) (.cells #[.int .i64 0,.int .i64 i,.string ⟨#[]⟩,.slice none 0 0,.int .i64 0] 59);rw [bU] at h2;exact h2
def Jp (rb:Nat) (s:ByteArray) (w:World) (o:Tok) (e:Ending) (w':World):Prop :=
 (∃ a cap,e = .returned (.agg #[.int .i64 o.k,.int .i64 o.i,.string o.t,.slice a o.l.len cap,.int .i64 o.err])∧cu (fun b=>w.heap.size≤b) w' a cap o.l)∧fV w' rb s o.j∧fI rb w.heap.size (fun _=>False) w w'
theorem F6 {s:ByteArray} {rb tb rv:Nat} {w w1:World} {o:Tok} {tmps:Array Value} {a:Option Addr} {cap:Nat} (h2:tmps[2]?.getD undef = .pointer (some ⟨tb,0,none⟩)) (hT:ig w1 tb o.k o.i o.t (.slice a o.l.len cap) o.err) (hR:fV w1 rb s o.j) (hF:fI rb w.heap.size (fun _=>False) w w1) (hL:cu (fun b=>w.heap.size≤b) w1 a cap o.l) :
  bodyPostD Tryz.prog Tryz.f93 (Jp rb s w o) Exit.ret { tmps:=tmps,defers:=[{ target:=Target.fn (Fn.func 120) #[.pointer (some ⟨tb,0,none⟩),.pointer (some ⟨rv,0,none⟩)],args:=#[] }] } w1:=by
 refine leaves_cons (f:=120) (args:=#[.pointer (some ⟨tb,0,none⟩),.pointer (some ⟨rv,0,none⟩)]) (by simp) (by simp [go_sem]) ?_;refine (Jm tb rv _).mono ?_;rintro e u' w2 ⟨rfl,rfl,hb⟩;have Jo:ig w2 tb o.k o.i o.t (.slice a o.l.len cap) o.err:=(hb.block _ (Array.getElem?_eq_some_iff.1 hT).1).trans hT;have MC:fV w2 rb s o.j:=(hb.block _ hR.lt).trans hR;have hF2:fI rb w.heap.size (fun _=>False) w w2:=hF.trans ⟨hb.os,hb.tape,hb.output,hb.size,fun b aB _=>hb.block b aB⟩;have hL2:cu (fun b=>w.heap.size≤b) w2 a cap o.l:=hL.keep hb.size fun b _ aB=>hb.block b aB;have x0:=dx Jo;have x1:=dA Jo;have x2:=ed Jo;have x3:=fA Jo;have x4:=dS Jo;have hg:Jp rb s w o (.returned (.agg #[.int .i64 o.k,.int .i64 o.i,.string o.t,.slice a o.l.len cap,.int .i64 o.err])) w2:=⟨⟨a,cap,rfl,hL2⟩,MC,hF2⟩;simp [Leaves,settle,results,Tryz.results93,go_sem,h2,x0,x1,x2,x3,x4];exact hg
theorem xR {s:ByteArray} {rb tb rv x j err:Nat} {w w1:World} {tmps:Array Value} {k0 i0:Nat} {t0:ByteArray} {v0:Value} {e0:Nat} (ty:TypeId) (h2:tmps[2]?.getD undef = .pointer (some ⟨tb,0,none⟩)) (hB:w1.heap[rv]? = some (.cells #[.pointer (some ⟨rb,0,none⟩)] ty (0,0))) (hT:ig w1 tb k0 i0 t0 v0 e0) (hR:fV w1 rb s x) (hF:fI rb w.heap.size (fun _=>False) w w1) (KD:rb ≠ tb) (hvt:rv ≠ tb) (htb:w.heap.size≤tb) :
  bodyPostD Tryz.prog Tryz.f93 (Jp rb s w ⟨5,j,⟨#[]⟩,.nil,err,j⟩) (Exit.panic [{ v:=qh j err,recovered:=false }]) { tmps:=tmps,defers:=[{ target:=Target.fn (Fn.func 120) #[.pointer (some ⟨tb,0,none⟩),.pointer (some ⟨rv,0,none⟩)],args:=#[] }] } w1:=by
 refine leaves_cons (f:=120) (args:=#[.pointer (some ⟨tb,0,none⟩),.pointer (some ⟨rv,0,none⟩)]) (by simp) (by simp [go_sem]) ?_;refine (Du tb rv rb x j err s w1 ty hB k0 i0 t0 v0 e0 hT hR KD hvt).mono ?_;rintro e u' w2 ⟨rfl,rfl,MC,Jo,bi⟩
 have hF2:fI rb w.heap.size (fun _=>False) w w2:=hF.trans ⟨bi.os,bi.tape,bi.output,bi.size,fun b hb ho=>by
  rcases ho with ho | ho
  ·exact bi.block b hb ho.2 (by omega)
  ·exact ho.elim⟩
 have x0:=dx Jo;have x1:=dA Jo;have x2:=ed Jo;have x3:=fA Jo;have x4:=dS Jo;have hg:Jp rb s w ⟨5,j,⟨#[]⟩,.nil,err,j⟩ (.returned (.agg #[.int .i64 5,.int .i64 j,.string ⟨#[]⟩,.slice none 0 0,.int .i64 err])) w2:=⟨⟨none,0,rfl,fun _ _ _=>⟨Nat.le_refl _,Nat.zero_le _,.inl rfl⟩⟩,MC,hF2⟩;simp [Leaves,settle,results,Tryz.results93,go_sem,h2,x0,x1,x2,x3,x4];exact hg
theorem F7 {W:World} {tb k i:Nat} {t:ByteArray} {v:Value} {err:Nat} (hT:ig W tb k i t v err) :
  ig (((((W.setCell ⟨tb,0,none⟩ (.int .i64 k)).setCell ⟨tb,1,none⟩ (.int .i64 i)).setCell ⟨tb,2,none⟩ (.string t)).setCell ⟨tb,3,none⟩ v).setCell ⟨tb,4,none⟩ (.int .i64 err)) tb k i t v err∧(∀ b,b ≠ tb→(((((W.setCell ⟨tb,0,none⟩ (.int .i64 k)).setCell ⟨tb,1,none⟩ (.int .i64 i)).setCell ⟨tb,2,none⟩ (.string t)).setCell ⟨tb,3,none⟩ v).setCell ⟨tb,4,none⟩ (.int .i64 err)).heap[b]? = W.heap[b]?)∧(((((W.setCell ⟨tb,0,none⟩ (.int .i64 k)).setCell ⟨tb,1,none⟩ (.int .i64 i)).setCell ⟨tb,2,none⟩ (.string t)).setCell ⟨tb,3,none⟩ v).setCell ⟨tb,4,none⟩ (.int .i64 err)).heap.size = W.heap.size∧(((((W.setCell ⟨tb,0,none⟩ (.int .i64 k)).setCell ⟨tb,1,none⟩ (.int .i64 i)).setCell ⟨tb,2,none⟩ (.string t)).setCell ⟨tb,3,none⟩ v).setCell ⟨tb,4,none⟩ (.int .i64 err)).os = W.os∧(((((W.setCell ⟨tb,0,none⟩ (.int .i64 k)).setCell ⟨tb,1,none⟩ (.int .i64 i)).setCell ⟨tb,2,none⟩ (.string t)).setCell ⟨tb,3,none⟩ v).setCell ⟨tb,4,none⟩ (.int .i64 err)).tape = W.tape∧(((((W.setCell ⟨tb,0,none⟩ (.int .i64 k)).setCell ⟨tb,1,none⟩ (.int .i64 i)).setCell ⟨tb,2,none⟩ (.string t)).setCell ⟨tb,3,none⟩ v).setCell ⟨tb,4,none⟩ (.int .i64 err)).output = W.output :=
 ⟨heap_setCell_same _ _ 4 _ _ (.int .i64 err) (heap_setCell_same _ _ 3 _ _ v (heap_setCell_same _ _ 2 _ _ (.string t) (heap_setCell_same _ _ 1 _ _ (.int .i64 i) (heap_setCell_same _ _ 0 _ _ (.int .i64 k) hT)))),
  fun b hb=>(Below.heap_setCell _ _ _ _ hb).trans <| (Below.heap_setCell _ _ _ _ hb).trans <| (Below.heap_setCell _ _ _ _ hb).trans <| (Below.heap_setCell _ _ _ _ hb).trans <| Below.heap_setCell _ _ _ _ hb,by simp,(so _ _ _).trans <| (so _ _ _).trans <| (so _ _ _).trans <| (so _ _ _).trans <| so _ _ _,(st _ _ _).trans <| (st _ _ _).trans <| (st _ _ _).trans <| (st _ _ _).trans <| st _ _ _,(su _ _ _).trans <| (su _ _ _).trans <| (su _ _ _).trans <| (su _ _ _).trans <| su _ _ _⟩
theorem wW {s:ByteArray} {rb tb rv:Nat} {w W:World} (o:Tok) {tmps:Array Value} {a:Option Addr} {cap:Nat} (h2:tmps[2]?.getD undef = .pointer (some ⟨tb,0,none⟩)) (hT:ig W tb o.k o.i o.t (.slice a o.l.len cap) o.err) (hR:fV W rb s o.j) (hF:fI rb w.heap.size (fun _=>False) w W) (hL:cu (fun b=>w.heap.size≤b∧b ≠ tb) W a cap o.l) (htb:w.heap.size≤tb) (KD:rb ≠ tb) :
  bodyPostD Tryz.prog Tryz.f93 (Jp rb s w o) Exit.ret { tmps:=tmps,defers:=[{ target:=Target.fn (Fn.func 120) #[.pointer (some ⟨tb,0,none⟩),.pointer (some ⟨rv,0,none⟩)],args:=#[] }] } (((((W.setCell ⟨tb,0,none⟩ (.int .i64 o.k)).setCell ⟨tb,1,none⟩ (.int .i64 o.i)).setCell ⟨tb,2,none⟩ (.string o.t)).setCell ⟨tb,3,none⟩ (.slice a o.l.len cap)).setCell ⟨tb,4,none⟩ (.int .i64 o.err)):=by
 obtain ⟨h1,hk,hz,h3,h4,h5⟩:=F7 hT
 exact F6 h2 h1 ((hk rb KD).trans hR) (hF.trans ⟨h3,h4,h5,by rw [hz];exact Nat.le_refl _,fun b _ ho=>hk b (by
  rcases ho with ho | ho
  ·omega
  ·exact ho.elim)⟩) ((hL.keep (by rw [hz];exact Nat.le_refl _) fun b hb _=>hk b hb.2).mono fun b hb _=>hb.1)
end Lx
end Go.Proofs.YtckakkeejekibaaGreatDoor
