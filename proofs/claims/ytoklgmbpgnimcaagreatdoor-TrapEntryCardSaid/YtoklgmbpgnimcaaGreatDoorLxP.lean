/- (*lex.reader).param where no bracket stands. -/
/- param, marked, double, bare: all four, by how much is left. -/
import Derived.Test.YtoklgmbpgnimcaaGreatDoorRegN
import Derived.Test.YtoklgmbpgnimcaaGreatDoorLxN
namespace Go.Proofs.YtoklgmbpgnimcaaGreatDoor
open Go.RowKit Go.Sort
namespace Lx
open Cls Pt
def plainF (s:ByteArray) (q:Bool) (i:Nat):Out :=
 if nameLen (restAt s (i + 1)) 1 = 0 then .bad i 1
 else .ok (one 2 q (s.extract (i + 1) (i + 1 + nameLen (restAt s (i + 1)) 1)) ⟨#[]⟩ .nil) (i + 1 + nameLen (restAt s (i + 1)) 1)
theorem outP_letter {prog:Program} {f:FuncId} {args:Array Value} {w w0:World} {rb:Nat} {s:ByteArray} {q:Bool} (o:Out) (h:∀ o',o' = o→Calls prog f args w (GotP rb s q w0 o')):Calls prog f args w (GotP rb s q w0 o):=h o rfl
set_option maxHeartbeats 4000000 in
set_option maxRecDepth 100000 in
theorem param_plain (s:ByteArray) (hs:s.size≤1000000) (q:Bool) (d i rb:Nat) (w:World) (hR:RAt w rb s i) (hi:i < s.size) (hd:d≤200) (h123:seesB (restAt s (i + 1)) 123 = false) :
  Calls Tryz.prog 86 #[.pointer (some ⟨rb,0,none⟩),.bool q,.int .i64 d] w (GotP rb s q w (plainF s q i)):=by
 have k1:=hR.pz.c1
 have f1:=hR.pz.f1
 have hdd:((d:Int) > 200) = False:=by simp;omega
 unfold plainF
 have hst:=start_p w rb i s q hR
 have hlt:=hR.lt
 clear hR
 have hsee0:=fun W2 (hr2:RAt W2 rb s (i + 1))=>sees_drawn0 rb (i + 1) 123 s W2 hr2 (by omega) hs
 rw [h123] at hsee0
 obtain ⟨j0,hj0⟩:∃ j0,j0 = i + 1:=⟨_,rfl⟩
 rw [← hj0] at hst hsee0 ⊢
 have hn:=nameLen_le (restAt s j0) 1
 rw [restAt_len] at hn
 have hT:=fun w=>nameLen_any (s.extract j0 s.size) 1 w (by simp [ByteArray.size_extract];omega) (by omega)
 rw [extract_end] at hT
 generalize nameLen (restAt s j0) 1 = T at hn hT ⊢
 obtain ⟨j1,hj1⟩:∃ j1,j1 = j0 + T:=⟨_,rfl⟩
 rw [← hj1]
 have a0:(0:Int)≤(j0:Int):=by omega
 have a1:(j0:Int)≤(s.size:Int):=by omega
 have q1:j1≤s.size:=by omega
 -- the world on the way: the reader at j1,the name laid
 have step:∀ (w0 w1:World) (m:Nat) (t:ByteArray),RAt w0 rb s j0→PB w0 (w.heap.size + 1) q ⟨#[]⟩ ⟨#[]⟩ (.slice none 0 0)→PZ w0 w.heap.size→FrR rb w.heap.size (fun _=>False) w w0→Below w0.heap.size w0 w1 →
   RAt (((w1.setCell ⟨rb,1,none⟩ (.int .i64 (j1:Int))).drewN m).setCell ⟨w.heap.size + 1,2,none⟩ (.string t)) rb s j1∧PB (((w1.setCell ⟨rb,1,none⟩ (.int .i64 (j1:Int))).drewN m).setCell ⟨w.heap.size + 1,2,none⟩ (.string t)) (w.heap.size + 1) q t ⟨#[]⟩ (.slice none 0 0)∧PZ (((w1.setCell ⟨rb,1,none⟩ (.int .i64 (j1:Int))).drewN m).setCell ⟨w.heap.size + 1,2,none⟩ (.string t)) w.heap.size∧FrR rb w.heap.size (fun _=>False) w (((w1.setCell ⟨rb,1,none⟩ (.int .i64 (j1:Int))).drewN m).setCell ⟨w.heap.size + 1,2,none⟩ (.string t))∧((w1.setCell ⟨rb,1,none⟩ (.int .i64 (j1:Int))).drewN m).cell? ⟨w.heap.size + 1,2,none⟩ = some (.string ⟨#[]⟩)∧((w1.setCell ⟨rb,1,none⟩ (.int .i64 (j1:Int))).drewN m).frozen? ⟨w.heap.size + 1,2,none⟩ = false:=by
  intro w0 w1 m t hr hp hz hf hb
  have hr1:RAt w1 rb s j0:=(hb.block _ hr.lt).trans hr
  have hp1:PB w1 (w.heap.size + 1) q ⟨#[]⟩ ⟨#[]⟩ (.slice none 0 0):=(hb.block _ (Array.getElem?_eq_some_iff.1 hp).1).trans hp
  have hz1:PZ w1 w.heap.size:=(hb.block _ (Array.getElem?_eq_some_iff.1 hz).1).trans hz
  have hr2:=hr1.set j1
  have hp2:PB (w1.setCell ⟨rb,1,none⟩ (.int .i64 (j1:Int))) (w.heap.size + 1) q ⟨#[]⟩ ⟨#[]⟩ (.slice none 0 0):=(Below.heap_setCell _ _ _ _ (by show w.heap.size + 1 ≠ rb;omega)).trans hp1
  have hz2:PZ (w1.setCell ⟨rb,1,none⟩ (.int .i64 (j1:Int))) w.heap.size:=(Below.heap_setCell _ _ _ _ (by show w.heap.size ≠ rb;omega)).trans hz1
  refine ⟨(Below.heap_setCell _ _ _ _ (by show rb ≠ w.heap.size + 1;omega)).trans hr2,heap_setCell_same _ _ 2 _ _ (.string t) hp2,(Below.heap_setCell _ _ _ _ (by show w.heap.size ≠ w.heap.size + 1;omega)).trans hz2,?_,Lib.cell_of_heap hp2 2,frozen_of_row _ _ _ _ _ hp2⟩
  refine (((hf.trans (FrR.of_fr (Fr.of_below hb))).set (fun h=>h) 1 (.int .i64 (j1:Int))).trans (FrR.drewN _ _ _ _ m)).trans ⟨rfl,rfl,rfl,by simp [World.setCell],fun b _ ho=>Below.heap_setCell _ _ _ _ ?_⟩
  show b ≠ w.heap.size + 1
  rcases ho with ho | ho
  ·omega
  ·exact ho.elim
 have hts:(s.extract j0 j1).size = T:=by simp [ByteArray.size_extract];omega
 have HST:=Lib.hid hst;have HLT:=Lib.hid hlt;have HT:=Lib.hid hT;have STEP:=Lib.hid step;have HJ0:=Lib.hid hj0;have HJ1:=Lib.hid hj1;have HTS:=Lib.hid hts;have HSEE0:=Lib.hid hsee0
 clear hst hlt hT step hj1 hts hsee0
 refine outP_letter _ fun OUT hOE=>?_
 have HOUTE:=Lib.hid hOE
 clear hOE
 go_enter Tryz.func86,Tryz.ntmps86
 go_wp2_with fail
 have hst:=HST.out
 generalize (((w.alloc (.cells #[.int .i64 0,.bool false,.string ⟨#[]⟩,.string ⟨#[]⟩,.slice none 0 0] 125)).setCell ⟨rb,1,none⟩ (.int .i64 ((i:Int) + 1))).alloc (.cells #[.int .i64 2,.bool q,.string ⟨#[]⟩,.string ⟨#[]⟩,.slice none 0 0] 125)) = W2 at hst ⊢
 obtain ⟨hr2,hp2,hz2,hf2⟩:=hst
 have hrlt:=hr2.lt
 have c0:=hr2.c0
 have c1:=hr2.c1
 have HSEE:=Lib.hid (HSEE0.out W2 hr2)
 have HR2:=Lib.hid hr2;have HP2:=Lib.hid hp2;have HZ2:=Lib.hid hz2;have HF2:=Lib.hid hf2
 clear hr2 hp2 hz2 hf2 HST k1 f1 hj0
 refine (HSEE.out).mono ?_
 rintro e w6 ⟨rfl,n6,rfl⟩
 go_wp2_with fail
 refine RN.begins (fun w'=>w'.cell? ⟨rb,0,none⟩ = some (.string s)∧w'.cell? ⟨rb,1,none⟩ = some (.int .i64 (j0:Int))) [11,12,13] (by kernel_rfl) ?_
 have hS:(W2.drewN n6).drew.cell? ⟨rb,0,none⟩ = some (.string s)∧(W2.drewN n6).drew.cell? ⟨rb,1,none⟩ = some (.int .i64 (j0:Int)):=⟨c0,c1⟩
 refine RN.tk (i:=0) (v:=?_) rfl hS ?_ ?_
 rotate_left 1
 ·(intro wq hq;obtain ⟨s0,s1⟩:=hq;go_simp;try with_reducible rfl)
 refine RN.tk (i:=1) (v:=?_) rfl hS ?_ ?_
 rotate_left 1
 ·(intro wq hq;obtain ⟨s0,s1⟩:=hq;go_simp;try with_reducible rfl)
 refine RN.tk (i:=2) (v:=?_) rfl hS ?_ ?_
 rotate_left 1
 ·(intro wq hq;obtain ⟨s0,s1⟩:=hq;go_simp;try with_reducible rfl)
 refine RN.tk (i:=3) (v:=?_) rfl hS ?_ ?_
 rotate_left 1
 ·(intro wq hq;obtain ⟨s0,s1⟩:=hq;go_simp;try with_reducible rfl)
 refine RN.tk (i:=4) (v:=?_) rfl hS ?_ ?_
 rotate_left 1
 ·(intro wq hq;obtain ⟨s0,s1⟩:=hq;go_simp;try with_reducible rfl)
 refine RN.tk (i:=5) (v:=?_) rfl hS ?_ ?_
 rotate_left 1
 ·(intro wq hq;obtain ⟨s0,s1⟩:=hq;go_simp;try with_reducible rfl)
 refine RN.tk (i:=6) (v:=?_) rfl hS ?_ ?_
 rotate_left 1
 ·(intro wq hq;obtain ⟨s0,s1⟩:=hq;go_simp;try with_reducible rfl)
 refine RN.tk (i:=7) (v:=?_) rfl hS ?_ ?_
 rotate_left 1
 ·(intro wq hq;obtain ⟨s0,s1⟩:=hq;go_simp;try with_reducible rfl)
 refine RN.tk (i:=8) (v:=?_) rfl hS ?_ ?_
 rotate_left 1
 ·(intro wq hq;obtain ⟨s0,s1⟩:=hq;go_simp;try with_reducible rfl)
 refine RN.tk (i:=9) (v:=?_) rfl hS ?_ ?_
 rotate_left 1
 ·(intro wq hq;obtain ⟨s0,s1⟩:=hq;go_simp;try with_reducible rfl)
 refine RN.all (rs:=[10]) (by kernel_rfl) (by simp) ?_
 refine RN.All.cons rfl (fun K hK=>?_) RN.All.nil
 go_simp
 refine (HT.out _).mono ?_
 rintro e w1 ⟨rfl,hb1⟩
 have hr1:RAt w1 rb s j0:=(hb1.block _ hrlt).trans HR2.out
 refine hK _ _ (fun _=>⟨hr1.c0,hr1.c1⟩) ?_
 clear hK K
 refine RN.all (rs:=[11]) (by kernel_rfl) (by simp) ?_
 refine RN.All.cons rfl (fun K hK=>?_) RN.All.nil
 go_simp
 refine (take_any rb j0 T s w1 hr1 (by have:=HJ1.out;omega) hs).mono ?_
 rintro e w2 ⟨rfl,m1,rfl⟩
 rw [← HJ1.out]
 refine hK _ _ (fun h=>absurd h (by decide)) ?_
 clear hK K
 refine RN.takeW (i:=12) (v:=?_) rfl (by decide) (by kernel_rfl) (by kernel_rfl) (by kernel_rfl) (by kernel_rfl) (by first | exact fun _ _ _ h=>h | exact fun _ _ _ h=>(by cases h.1) | exact fun _ _ _ h=>door_put (by decide) h) (.inl ⟨by rfl,?_⟩) ?_
 rotate_left 1
 ·(intro wq _;go_simp;try with_reducible rfl)
 have hb1':Below W2.heap.size W2 w1:=⟨hb1.os,hb1.tape,hb1.output,hb1.size,hb1.block⟩
 have hx1:=STEP.out W2 w1 m1 (s.extract j0 j1) HR2.out HP2.out HZ2.out HF2.out hb1'
 have k2:=hx1.2.2.2.2.1
 have k2f:=hx1.2.2.2.2.2
 have HX1:=Lib.hid hx1
 clear hx1 hb1 hr1 hS hb1'
 refine RN.all (rs:=[13]) (by kernel_rfl) (by simp) ?_
 refine RN.All.cons rfl (fun K hK=>?_) RN.All.nil
 go_simp
 refine hK _ _ (fun h=>absurd h (by decide)) ?_
 clear hK K
 refine RN.done (by kernel_rfl) ?_ _
 have hx1:=HX1.out
 generalize (((w1.setCell ⟨rb,1,none⟩ (.int .i64 (j1:Int))).drewN m1).setCell ⟨w.heap.size + 1,2,none⟩ (.string (s.extract j0 j1))) = W1 at hx1 ⊢
 obtain ⟨hr1,hp1,hz1,hf1,_,_⟩:=hx1
 have u0:=zc0 hp1
 have u1:=zc1 hp1
 have u2:=zc2 hp1
 have u3:=zc3 hp1
 have u4:=zc4 hp1
 have HX:=Lib.hid (And.intro hr1 (And.intro hz1 hf1))
 clear HX1 k2 k2f hr1 c0 c1 a0 a1 hp1 hf1
 by_cases hT0:T = 0
 ·have hemp:(s.extract j0 j1).toList.isEmpty = true:=by
   have h0:=HTS.out
   rw [hT0] at h0
   rw [Lib.toList_data]
   have:(s.extract j0 j1).data.toList.length = 0:=h0
   rw [List.length_eq_zero_iff.1 this];rfl
  have HT0:=Lib.hid hT0
  clear hz1 hT0
  go_wp2_with fail
  refine (wrong_any _ _).mono ?_
  rintro e w9 ⟨rfl,rfl⟩
  go_wp2_with fail
  have hO:OUT = .bad i 1:=by rw [HOUTE.out,if_pos HT0.out]
  rw [hO]
  exact ⟨rfl,rfl,⟨_,HX.out.1⟩,HX.out.2.2⟩
 ·have hemp:(s.extract j0 j1).toList.isEmpty = false:=by
   have h0:=HTS.out
   rw [Lib.toList_data]
   have h1:(s.extract j0 j1).data.toList.length = T:=h0
   cases h2:(s.extract j0 j1).data.toList with
   | nil=>rw [h2] at h1;simp at h1;omega
   | cons=>rfl
  have HT0:=Lib.hid hT0
  have hO:OUT = .ok (one 2 q (s.extract j0 j1) ⟨#[]⟩ .nil) j1:=by rw [HOUTE.out,if_neg HT0.out]
  have HO:=Lib.hid hO
  have hts2:(s.extract j0 j1).size≤s.size:=by have:=HTS.out;have:=HJ1.out;omega
  have HTS2:=Lib.hid hts2
  clear hT0 hO hts2
  generalize s.extract j0 j1 = t at hemp u2 HTS2 HO ⊢
  have z0:=zc0 hz1
  have z1:=zc1 hz1
  have z2:=zc2 hz1
  have z3:=zc3 hz1
  have z4:=zc4 hz1
  have y0:=zf 0 hz1
  have y1:=zf 1 hz1
  have y2:=zf 2 hz1
  have y3:=zf 3 hz1
  have y4:=zf 4 hz1
  clear hz1
  go_wp2_with fail
  obtain ⟨hr7,hz7,hf7⟩:=HX.out
  have hlt:=HLT.out
  have hblk:∀ b,b ≠ w.heap.size→(((((W1.setCell ⟨w.heap.size,0,none⟩ (.int .i64 2)).setCell ⟨w.heap.size,1,none⟩ (.bool q)).setCell ⟨w.heap.size,2,none⟩ (.string t)).setCell ⟨w.heap.size,3,none⟩ (.string ⟨#[]⟩)).setCell ⟨w.heap.size,4,none⟩ (.slice none 0 0)).heap[b]? = W1.heap[b]?:=fun b hb =>
   (Below.heap_setCell _ _ _ _ hb).trans <| (Below.heap_setCell _ _ _ _ hb).trans <| (Below.heap_setCell _ _ _ _ hb).trans <| (Below.heap_setCell _ _ _ _ hb).trans <| Below.heap_setCell _ _ _ _ hb
  have hrow:PB (((((W1.setCell ⟨w.heap.size,0,none⟩ (.int .i64 2)).setCell ⟨w.heap.size,1,none⟩ (.bool q)).setCell ⟨w.heap.size,2,none⟩ (.string t)).setCell ⟨w.heap.size,3,none⟩ (.string ⟨#[]⟩)).setCell ⟨w.heap.size,4,none⟩ (.slice none 0 0)) w.heap.size q t ⟨#[]⟩ (.slice none 0 0) :=
   heap_setCell_same _ _ 4 _ _ (.slice none 0 0) (heap_setCell_same _ _ 3 _ _ (.string ⟨#[]⟩) (heap_setCell_same _ _ 2 _ _ (.string t) (heap_setCell_same _ _ 1 _ _ (.bool q) (heap_setCell_same _ _ 0 _ _ (.int .i64 2) hz7))))
  have hfr:FrR rb w.heap.size (fun _=>False) w (((((W1.setCell ⟨w.heap.size,0,none⟩ (.int .i64 2)).setCell ⟨w.heap.size,1,none⟩ (.bool q)).setCell ⟨w.heap.size,2,none⟩ (.string t)).setCell ⟨w.heap.size,3,none⟩ (.string ⟨#[]⟩)).setCell ⟨w.heap.size,4,none⟩ (.slice none 0 0)) :=
   hf7.trans ⟨rfl,rfl,rfl,by simp,fun b hb ho=>by
    rcases ho with ho | ho
    ·exact hblk b (by omega)
    ·exact ho.elim⟩
  have hrr:RAt (((((W1.setCell ⟨w.heap.size,0,none⟩ (.int .i64 2)).setCell ⟨w.heap.size,1,none⟩ (.bool q)).setCell ⟨w.heap.size,2,none⟩ (.string t)).setCell ⟨w.heap.size,3,none⟩ (.string ⟨#[]⟩)).setCell ⟨w.heap.size,4,none⟩ (.slice none 0 0)) rb s j1:=(hblk rb (by omega)).trans hr7
  generalize (((((W1.setCell ⟨w.heap.size,0,none⟩ (.int .i64 2)).setCell ⟨w.heap.size,1,none⟩ (.bool q)).setCell ⟨w.heap.size,2,none⟩ (.string t)).setCell ⟨w.heap.size,3,none⟩ (.string ⟨#[]⟩)).setCell ⟨w.heap.size,4,none⟩ (.slice none 0 0)) = WE at hrow hfr hrr ⊢
  have x0:=zc0 hrow
  have x1:=zc1 hrow
  have x2:=zc2 hrow
  have x3:=zc3 hrow
  have x4:=zc4 hrow
  refine bodyPost_ret (v:=pv 2 q t ⟨#[]⟩ none 0 0) (by simp [results,Tryz.results86,go_sem,x0,x1,x2,x3,x4,pv]) rfl ?_
  rw [HO.out]
  exact ⟨⟨t,⟨#[]⟩,.nil,none,0,rfl,rfl,HTS2.out,Nat.zero_le _,(fun _ _ _=>⟨Nat.le_refl _,Nat.zero_le _,.inl rfl⟩)⟩,hrr,hfr⟩
end Lx
end Go.Proofs.YtoklgmbpgnimcaaGreatDoor
namespace Go.Proofs.YtoklgmbpgnimcaaGreatDoor
open Go.RowKit Go.Sort
namespace Lx
open Cls Pt
theorem paramF_succ (n:Nat) (s:ByteArray) (q:Bool) (d i:Nat) :
  paramF (n + 1) s q d i = if 200 < d then .bad i 2 else if seesB (restAt s (i + 1)) 123 then bracketF n s q d i else plainF s q i:=by
 rw [paramF]
 rfl
theorem param_step (s:ByteArray) (hs:s.size≤1000000) (n:Nat) (IHO:OfAt s n):ParamAt s (n + 1):=by
 intro q d i rb w hR hi hf hd
 rw [paramF_succ]
 by_cases hd2:200 < d
 ·rw [if_pos hd2]
  exact param_deep s hs q d i rb w hR hd2 hd
 ·rw [if_neg hd2]
  cases h:seesB (restAt s (i + 1)) 123 with
  | true =>
   rw [if_pos rfl]
   exact param_bracket s hs n IHO q d i rb w hR hi (by omega) (by omega) h
  | false =>
   rw [if_neg (by decide)]
   exact param_plain s hs q d i rb w hR hi (by omega) h
theorem all_at (s:ByteArray) (hs:s.size≤1000000):∀ n,ParamAt s n∧MarkedAt s n∧BareAt s n∧DoubleAt s n:=by
 intro n
 induction n using Nat.strongRecOn with
 | ind n ih =>
  have hM:MarkedAt s n:=marked_step s hs n fun m hm=>(ih m hm).1
  have hD:DoubleAt s n:=double_step s hs n hM
  have hB:BareAt s n:=bare_step s hs n (fun m hm=>(ih m hm).1) fun m hm=>(ih m hm).2.2.2
  refine ⟨?_,hM,hB,hD⟩
  cases n with
  | zero=>exact param_zero s
  | succ k=>exact param_step s hs k (of_step s k (ih k (Nat.lt_succ_self k)).2.1 (ih k (Nat.lt_succ_self k)).2.2.1)
theorem bare_any (s:ByteArray) (hs:s.size≤1000000):BareAt s (s.size + 1):=(all_at s hs (s.size + 1)).2.2.1
end Lx
end Go.Proofs.YtoklgmbpgnimcaaGreatDoor
