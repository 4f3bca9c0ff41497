/- (*lex.reader).token: what is broken off becomes a token. -/
import Derived.Test.YtjmpfihopeohbaaGreatDoorQxL
set_option maxHeartbeats 1600000
set_option maxRecDepth 100000
namespace Go.Proofs.YtjmpfihopeohbaaGreatDoor
open Go.RowKit Go.Sort
namespace Lx
open Cls Pt
def TokAt (w:World) (tb k i:Nat) (t:ByteArray) (v:Value) (err:Nat):Prop:=w.heap[tb]? = some (.cells #[.int .i64 k,.int .i64 i,.string t,v,.int .i64 err] 59 (0,0))
structure FrT (rb tb:Nat) (w w':World):Prop where
 os:w'.os = w.os
 tape:w'.tape = w.tape
 output:w'.output = w.output
 size:w.heap.size≤w'.heap.size
 block:∀ b,b < w.heap.size→b ≠ rb→b ≠ tb→w'.heap[b]? = w.heap[b]?
theorem assert_nil (xT:TypeId) (w:World):(Instr.typeAssert .nilIface xT 129 true).run Tryz.prog w = .ok (.tuple #[.agg #[.int .i64 0,.int .i64 0],.bool false]) w:=by
 kernel_rfl
theorem token_idle (tb rv:Nat) (w:World) :
  CallsD Tryz.prog 120 #[.pointer (some ⟨tb,0,none⟩),.pointer (some ⟨rv,0,none⟩)] .returning w fun e u' w'=>e = .returned (.tuple #[])∧u' = .returning∧Below w.heap.size w w':=by
 refine callsD_of_wpS Tryz.func120 rfl fun c₀ cs hu=>?_;simp only [Tryz.ntmps120,List.size_toArray,List.length_cons,List.length_nil,Nat.reduceAdd,Nat.reduceSub,Array.replicate_succ,Array.replicate_zero,List.push_toArray,List.append_toArray,List.nil_append,List.cons_append];apply wpS_seq;apply wpS_region;simp [wpOpsS,go_sem,recoverD,hu,Exit.thenS];refine wpS_of_wp ?_;have ha:=assert_nil;go_wp2_with fail;refine ⟨rfl,.returning,?_,.tuple #[],results_none rfl _ _ _,rfl,rfl,(Below.refl _ _).alloc (Nat.le_refl _) _⟩;cases c₀
 simp_all
theorem so (W:World) (a:Addr) (v:Value):(W.setCell a v).os = W.os:=rfl
theorem st (W:World) (a:Addr) (v:Value):(W.setCell a v).tape = W.tape:=rfl
theorem su (W:World) (a:Addr) (v:Value):(W.setCell a v).output = W.output:=rfl
end Lx
end Go.Proofs.YtjmpfihopeohbaaGreatDoor
namespace Go.Proofs.YtjmpfihopeohbaaGreatDoor
open Go.RowKit Go.Sort
namespace Lx
open Cls Pt
def signIs (t:List UInt8):Bool:=t == [38,38] || t == [124,124] || t == [59,59] || t == [38] || t == [124] || t == [59] || t == [40] || t == [41]
def signDown (l:List UInt8):Nat→Nat
 | 0=>0
 | n + 1=>if signIs (l.take (n + 1)) then n + 1 else signDown l n
def signLen (l:List UInt8):Nat:=signDown l (min 2 l.length)
theorem signDown_le (l:List UInt8):∀ n,signDown l n≤n
 | 0=>Nat.le_refl _
 | n + 1=>by
  simp only [signDown];split
  ·exact Nat.le_refl _
  ·have:=signDown_le l n;omega
theorem ret_str {a b:ByteArray} (h:a = b):Ending.returned (.string a) = .returned (.string b):=by rw [h]
theorem sign_any (s:ByteArray) (w:World) (hs:s.size≤1000000) :
  Calls Tryz.prog 123 #[.string s] w fun e w'=>e = .returned (.string (s.extract 0 (signLen s.data.toList)))∧w = w':=by
 have hq0:signLen s.data.toList = signDown s.data.toList (min 2 s.size):=by unfold signLen;rw [lenB]
 have HQ0:=Lib.hid hq0;clear hq0;go_enter Tryz.func123,Tryz.ntmps123;go_wp2
 go_loop [3] (fun i=>∃ n:Nat,n≤min 2 s.size∧i = .int .i64 n∧signLen s.data.toList = signDown s.data.toList n) (fun i=>(intOf i).toNat)
 case atStart=>exact ⟨min 2 s.size,Nat.le_refl _,by rw [show (min 2 (s.size:Int)) = ((min 2 s.size:Nat):Int) by omega],HQ0.out⟩
 case round =>
  obtain ⟨n,hn,rfl,hq⟩:=hrel;have HQ:=Lib.hid hq;clear hq;cases n with
  | zero =>
   go_wp2_with fail;go_ret;exact ⟨ret_str (by rw [HQ.out];simp [signDown];rfl),rfl⟩
  | succ k =>
   have hk2:((k:Int) + 1)≤(s.size:Int):=by omega
   have hT:(s.extract 0 (k + 1)).toList = s.data.toList.take (k + 1):=by rw [Lib.toList_data,Lib.extract_data];simp
   cases hsg:signIs (s.data.toList.take (k + 1))
   all_goals
    rw [← hT] at hsg;have HSG:=Lib.hid hsg;have HT:=Lib.hid hT;clear hsg hT;go_wp2_with fail
    all_goals (first
     | (go_ret
        first
        | exact ⟨ret_str (by rw [HQ.out,signDown,if_pos (by rw [← HT.out];exact HSG.out)]),rfl⟩
        | (exfalso;have hsg:=HSG.out;simp_all [signIs];done))
     | (go_round
        case rel=>first
          | exact ⟨k,by omega,by go_num,by rw [HQ.out,signDown,if_neg (by rw [← HT.out,HSG.out];decide)]⟩
          | (exfalso;have hsg:=HSG.out;simp_all [signIs];done)
        case measure=>simp [intOf]))
end Lx
end Go.Proofs.YtjmpfihopeohbaaGreatDoor
namespace Go.Proofs.YtjmpfihopeohbaaGreatDoor
open Go.RowKit Go.Sort
namespace Lx
open Cls Pt
structure Tok where
 k:Nat
 i:Nat
 t:ByteArray
 l:PL
 err:Nat
 j:Nat
def tokF (s:ByteArray) (i:Nat):Tok :=
 if s.size≤i then ⟨4,i,⟨#[]⟩,.nil,0,i⟩
 else if byteAt s i = 10 then ⟨3,i,⟨#[]⟩,.nil,0,i + 1⟩
 else if signB (byteAt s i).toNat then
  if signLen (restAt s i) = 0 then ⟨5,i,⟨#[]⟩,.nil,1,i⟩ else ⟨2,i,(s.extract i s.size).extract 0 (signLen (restAt s i)),.nil,0,i + signLen (restAt s i)⟩
 else match bareF (s.size + 1) s 0 A0 i with
  | .ok l j=>⟨1,i,⟨#[]⟩,l,0,j⟩
  | .bad j err=>⟨5,j,⟨#[]⟩,.nil,err,j⟩
theorem start_r (w:World) (rb i:Nat) (s:ByteArray) (hR:RAt w rb s i) (o1 o2:Obj):RAt ((w.alloc o1).alloc o2) rb s i :=
 ((((Below.refl w.heap.size w).alloc (Nat.le_refl _) o1).alloc (by simp) o2).block _ hR.lt).trans hR
theorem start_t (w:World) (rb i:Nat) (s:ByteArray) (hR:RAt w rb s i) :
  RAt ((w.alloc (.cells #[.pointer (some ⟨rb,0,none⟩)] 127)).alloc (.cells #[.int .i64 0,.int .i64 i,.string ⟨#[]⟩,.slice none 0 0,.int .i64 0] 59)) rb s i ∧
  ((w.alloc (.cells #[.pointer (some ⟨rb,0,none⟩)] 127)).alloc (.cells #[.int .i64 0,.int .i64 i,.string ⟨#[]⟩,.slice none 0 0,.int .i64 0] 59)).heap[w.heap.size]? = some (.cells #[.pointer (some ⟨rb,0,none⟩)] 127 (0,0)) ∧
  TokAt ((w.alloc (.cells #[.pointer (some ⟨rb,0,none⟩)] 127)).alloc (.cells #[.int .i64 0,.int .i64 i,.string ⟨#[]⟩,.slice none 0 0,.int .i64 0] 59)) (w.heap.size + 1) 0 i ⟨#[]⟩ (.slice none 0 0) 0 ∧
  FrR rb w.heap.size (fun _=>False) w ((w.alloc (.cells #[.pointer (some ⟨rb,0,none⟩)] 127)).alloc (.cells #[.int .i64 0,.int .i64 i,.string ⟨#[]⟩,.slice none 0 0,.int .i64 0] 59)):=by
 have hb:=((Below.refl w.heap.size w).alloc (Nat.le_refl _) (.cells #[.pointer (some ⟨rb,0,none⟩)] 127)).alloc (by simp) (.cells #[.int .i64 0,.int .i64 i,.string ⟨#[]⟩,.slice none 0 0,.int .i64 0] 59);have h:∀ (W:World) (o:Obj),(W.alloc o).heap[W.heap.size]? = some o:=fun W o=>by
  show (W.heap.push o)[W.heap.size]? = some o;exact Array.getElem?_push_size
 have hsz:(w.alloc (.cells #[.pointer (some ⟨rb,0,none⟩)] 127)).heap.size = w.heap.size + 1:=by simp
 refine ⟨(hb.block _ hR.lt).trans hR,?_,?_,FrR.of_fr (Fr.of_below hb)⟩
 ·exact (Below.heap_alloc _ _ _ (by rw [hsz];omega)).trans (h w _)
 ·have h2:=h (w.alloc (.cells #[.pointer (some ⟨rb,0,none⟩)] 127)) (.cells #[.int .i64 0,.int .i64 i,.string ⟨#[]⟩,.slice none 0 0,.int .i64 0] 59);rw [hsz] at h2;exact h2
def GotT (rb:Nat) (s:ByteArray) (w:World) (o:Tok) (e:Ending) (w':World):Prop :=
 (∃ a cap,e = .returned (.agg #[.int .i64 o.k,.int .i64 o.i,.string o.t,.slice a o.l.len cap,.int .i64 o.err])∧LiesS (fun b=>w.heap.size≤b) w' a cap o.l)∧RAt w' rb s o.j∧FrR rb w.heap.size (fun _=>False) w w'
theorem door_ret {s:ByteArray} {rb tb rv:Nat} {w w1:World} {o:Tok} {tmps:Array Value} {a:Option Addr} {cap:Nat} (h2:tmps[2]?.getD undef = .pointer (some ⟨tb,0,none⟩)) (hT:TokAt w1 tb o.k o.i o.t (.slice a o.l.len cap) o.err) (hR:RAt w1 rb s o.j) (hF:FrR rb w.heap.size (fun _=>False) w w1) (hL:LiesS (fun b=>w.heap.size≤b) w1 a cap o.l) :
  bodyPostD Tryz.prog Tryz.f93 (GotT rb s w o) Exit.ret { tmps:=tmps,defers:=[{ target:=Target.fn (Fn.func 120) #[.pointer (some ⟨tb,0,none⟩),.pointer (some ⟨rv,0,none⟩)],args:=#[] }] } w1:=by
 refine leaves_cons (f:=120) (args:=#[.pointer (some ⟨tb,0,none⟩),.pointer (some ⟨rv,0,none⟩)]) (by simp) (by simp [go_sem]) ?_;refine (token_idle tb rv _).mono ?_;rintro e u' w2 ⟨rfl,rfl,hb⟩;have hT2:TokAt w2 tb o.k o.i o.t (.slice a o.l.len cap) o.err:=(hb.block _ (Array.getElem?_eq_some_iff.1 hT).1).trans hT;have hR2:RAt w2 rb s o.j:=(hb.block _ hR.lt).trans hR;have hF2:FrR rb w.heap.size (fun _=>False) w w2:=hF.trans ⟨hb.os,hb.tape,hb.output,hb.size,fun b hlt _=>hb.block b hlt⟩;have hL2:LiesS (fun b=>w.heap.size≤b) w2 a cap o.l:=hL.keep hb.size fun b _ hlt=>hb.block b hlt;have x0:=zc0 hT2;have x1:=zc1 hT2;have x2:=zc2 hT2;have x3:=zc3 hT2;have x4:=zc4 hT2;have hg:GotT rb s w o (.returned (.agg #[.int .i64 o.k,.int .i64 o.i,.string o.t,.slice a o.l.len cap,.int .i64 o.err])) w2:=⟨⟨a,cap,rfl,hL2⟩,hR2,hF2⟩;simp [Leaves,settle,results,Tryz.results93,go_sem,h2,x0,x1,x2,x3,x4];exact hg
theorem tok_back {W:World} {tb k i:Nat} {t:ByteArray} {v:Value} {err:Nat} (hT:TokAt W tb k i t v err) :
  TokAt (((((W.setCell ⟨tb,0,none⟩ (.int .i64 k)).setCell ⟨tb,1,none⟩ (.int .i64 i)).setCell ⟨tb,2,none⟩ (.string t)).setCell ⟨tb,3,none⟩ v).setCell ⟨tb,4,none⟩ (.int .i64 err)) tb k i t v err∧(∀ b,b ≠ tb→(((((W.setCell ⟨tb,0,none⟩ (.int .i64 k)).setCell ⟨tb,1,none⟩ (.int .i64 i)).setCell ⟨tb,2,none⟩ (.string t)).setCell ⟨tb,3,none⟩ v).setCell ⟨tb,4,none⟩ (.int .i64 err)).heap[b]? = W.heap[b]?)∧(((((W.setCell ⟨tb,0,none⟩ (.int .i64 k)).setCell ⟨tb,1,none⟩ (.int .i64 i)).setCell ⟨tb,2,none⟩ (.string t)).setCell ⟨tb,3,none⟩ v).setCell ⟨tb,4,none⟩ (.int .i64 err)).heap.size = W.heap.size∧(((((W.setCell ⟨tb,0,none⟩ (.int .i64 k)).setCell ⟨tb,1,none⟩ (.int .i64 i)).setCell ⟨tb,2,none⟩ (.string t)).setCell ⟨tb,3,none⟩ v).setCell ⟨tb,4,none⟩ (.int .i64 err)).os = W.os∧(((((W.setCell ⟨tb,0,none⟩ (.int .i64 k)).setCell ⟨tb,1,none⟩ (.int .i64 i)).setCell ⟨tb,2,none⟩ (.string t)).setCell ⟨tb,3,none⟩ v).setCell ⟨tb,4,none⟩ (.int .i64 err)).tape = W.tape∧(((((W.setCell ⟨tb,0,none⟩ (.int .i64 k)).setCell ⟨tb,1,none⟩ (.int .i64 i)).setCell ⟨tb,2,none⟩ (.string t)).setCell ⟨tb,3,none⟩ v).setCell ⟨tb,4,none⟩ (.int .i64 err)).output = W.output :=
 ⟨heap_setCell_same _ _ 4 _ _ (.int .i64 err) (heap_setCell_same _ _ 3 _ _ v (heap_setCell_same _ _ 2 _ _ (.string t) (heap_setCell_same _ _ 1 _ _ (.int .i64 i) (heap_setCell_same _ _ 0 _ _ (.int .i64 k) hT)))),
  fun b hb=>(Below.heap_setCell _ _ _ _ hb).trans <| (Below.heap_setCell _ _ _ _ hb).trans <| (Below.heap_setCell _ _ _ _ hb).trans <| (Below.heap_setCell _ _ _ _ hb).trans <| Below.heap_setCell _ _ _ _ hb,by simp,(so _ _ _).trans <| (so _ _ _).trans <| (so _ _ _).trans <| (so _ _ _).trans <| so _ _ _,(st _ _ _).trans <| (st _ _ _).trans <| (st _ _ _).trans <| (st _ _ _).trans <| st _ _ _,(su _ _ _).trans <| (su _ _ _).trans <| (su _ _ _).trans <| (su _ _ _).trans <| su _ _ _⟩
theorem door_back {s:ByteArray} {rb tb rv:Nat} {w W:World} (o:Tok) {tmps:Array Value} {a:Option Addr} {cap:Nat} (h2:tmps[2]?.getD undef = .pointer (some ⟨tb,0,none⟩)) (hT:TokAt W tb o.k o.i o.t (.slice a o.l.len cap) o.err) (hR:RAt W rb s o.j) (hF:FrR rb w.heap.size (fun _=>False) w W) (hL:LiesS (fun b=>w.heap.size≤b∧b ≠ tb) W a cap o.l) (htb:w.heap.size≤tb) (hrt:rb ≠ tb) :
  bodyPostD Tryz.prog Tryz.f93 (GotT rb s w o) Exit.ret { tmps:=tmps,defers:=[{ target:=Target.fn (Fn.func 120) #[.pointer (some ⟨tb,0,none⟩),.pointer (some ⟨rv,0,none⟩)],args:=#[] }] } (((((W.setCell ⟨tb,0,none⟩ (.int .i64 o.k)).setCell ⟨tb,1,none⟩ (.int .i64 o.i)).setCell ⟨tb,2,none⟩ (.string o.t)).setCell ⟨tb,3,none⟩ (.slice a o.l.len cap)).setCell ⟨tb,4,none⟩ (.int .i64 o.err)):=by
 obtain ⟨h1,hk,hz,h3,h4,h5⟩:=tok_back hT
 exact door_ret h2 h1 ((hk rb hrt).trans hR) (hF.trans ⟨h3,h4,h5,by rw [hz];exact Nat.le_refl _,fun b _ ho=>hk b (by
  rcases ho with ho | ho
  ·omega
  ·exact ho.elim)⟩) ((hL.keep (by rw [hz];exact Nat.le_refl _) fun b hb _=>hk b hb.2).mono fun b hb _=>hb.1)
end Lx
end Go.Proofs.YtjmpfihopeohbaaGreatDoor
