/- next; sees, skip, take. -/
/- sees, skip, take. -/
/- lines; what is asked of a token. -/
import Derived.Test.YtoklgmbpgnimcaaGreatDoorRegN
import Derived.Test.YtoklgmbpgnimcaaGreatDoorPsB
namespace Go.Proofs.YtoklgmbpgnimcaaGreatDoor
open Go.RowKit Go.Sort
namespace Ps
open Cls Pt Tr Sp Lx
theorem row_tok (W:World) (pb:Nat) (v0 v1 v2 v3 v4 v5 v6 v7 v8 u1 u2 u3 u4 u5:Value) (T:TypeId) (h:W.heap[pb]? = some (.cells #[v0,v1,v2,v3,v4,v5,v6,v7,v8] T (0,0))) :
  (((((W.setCell ⟨pb,1,none⟩ u1).setCell ⟨pb,2,none⟩ u2).setCell ⟨pb,3,none⟩ u3).setCell ⟨pb,4,none⟩ u4).setCell ⟨pb,5,none⟩ u5).heap[pb]? = some (.cells #[v0,u1,u2,u3,u4,u5,v6,v7,v8] T (0,0)) ∧
    FrP pb W (((((W.setCell ⟨pb,1,none⟩ u1).setCell ⟨pb,2,none⟩ u2).setCell ⟨pb,3,none⟩ u3).setCell ⟨pb,4,none⟩ u4).setCell ⟨pb,5,none⟩ u5):=by
 have g1:(W.setCell ⟨pb,1,none⟩ u1).heap[pb]? = some (.cells #[v0,u1,v2,v3,v4,v5,v6,v7,v8] T (0,0)):=heap_setCell_same _ _ 1 _ _ u1 h
 have g2:((W.setCell ⟨pb,1,none⟩ u1).setCell ⟨pb,2,none⟩ u2).heap[pb]? = some (.cells #[v0,u1,u2,v3,v4,v5,v6,v7,v8] T (0,0)):=heap_setCell_same _ _ 2 _ _ u2 g1
 have g3:(((W.setCell ⟨pb,1,none⟩ u1).setCell ⟨pb,2,none⟩ u2).setCell ⟨pb,3,none⟩ u3).heap[pb]? = some (.cells #[v0,u1,u2,u3,v4,v5,v6,v7,v8] T (0,0)):=heap_setCell_same _ _ 3 _ _ u3 g2
 have g4:((((W.setCell ⟨pb,1,none⟩ u1).setCell ⟨pb,2,none⟩ u2).setCell ⟨pb,3,none⟩ u3).setCell ⟨pb,4,none⟩ u4).heap[pb]? = some (.cells #[v0,u1,u2,u3,u4,v5,v6,v7,v8] T (0,0)):=heap_setCell_same _ _ 4 _ _ u4 g3
 have g5:(((((W.setCell ⟨pb,1,none⟩ u1).setCell ⟨pb,2,none⟩ u2).setCell ⟨pb,3,none⟩ u3).setCell ⟨pb,4,none⟩ u4).setCell ⟨pb,5,none⟩ u5).heap[pb]? = some (.cells #[v0,u1,u2,u3,u4,u5,v6,v7,v8] T (0,0)):=heap_setCell_same _ _ 5 _ _ u5 g4
 exact ⟨g5,((((FrP.set W 1 u1).trans (FrP.set _ 2 u2)).trans (FrP.set _ 3 u3)).trans (FrP.set _ 4 u4)).trans (FrP.set _ 5 u5)⟩
theorem tok_ok (s:ByteArray) (i:Nat) (hi:i≤s.size):TokOK s (tokAt s i):=by
 have hg:=tok_good s i hi
 have h1:=ahead_le s (s.size + 1) i hi
 have hft:=tok_ft s i hi
 by_cases hst:stopT (tokAt s i) = false
 ·have h3:=(hg.2.2.2.2 hst).2.2
  refine ⟨hg.2.1,h3,fun h4=>?_,by omega,hft.2⟩
  simp [stopT,h4] at hst
 ·clear hst
  refine ⟨hg.2.1,?_,?_,?_,hft.2⟩
  ·by_cases hst:stopT (tokAt s i) = false
   ·exact (hg.2.2.2.2 hst).2.2
   ·unfold tokAt at hg hst ⊢
    generalize aheadF (s.size + 1) s i = m at h1 hg hst ⊢
    have hi:=hg.2.1
    clear hg
    unfold tokF at hi hst ⊢
    split <;> try (split) <;> try (split) <;> try (split)
    all_goals simp_all [stopT]
    all_goals omega
  ·unfold tokAt
   generalize aheadF (s.size + 1) s i = m at h1
   unfold tokF
   intro h4
   split <;> rename_i hm
   ·exact ⟨by simp only [];omega,rfl⟩
   ·rw [if_neg hm] at h4
    exfalso
    revert h4
    split
    ·simp
    ·split
     ·split <;> simp
     ·split <;> simp
  ·have hj:(tokAt s i).j≤s.size∨(tokAt s i).l = .nil:=by
    by_cases hst:stopT (tokAt s i) = false
    ·exact .inl (hg.2.2.2.2 hst).2.2
    ·right
     unfold tokAt at hst ⊢
     generalize aheadF (s.size + 1) s i = m at hst ⊢
     unfold tokF at hst ⊢
     split <;> try (split) <;> try (split) <;> try (split)
     all_goals simp_all [stopT]
   rcases hj with hj | hj
   ·omega
   ·rw [hj];exact Nat.zero_le _
theorem FrP.drew {pb:Nat} {w w':World} (h:FrP pb w w'):FrP pb w w'.drew:=⟨h.os,h.tape,h.output,h.size,h.block⟩
set_option maxHeartbeats 1600000 in
set_option maxRecDepth 100000 in
theorem next_any (S:Nat→Prop) (pb:Nat) (s:ByteArray) (hs:s.size≤400000) (o:Tok) (d:Nat) (w:World) (h:PAt S w pb s o d) :
  Calls Tryz.prog 36 #[.pointer (some ⟨pb,0,none⟩)] w (Does S pb s d w VUnit (nextF s o)):=by
 have hpb:=h.pb
 obtain ⟨⟨a,cap,hr,hl⟩,h1,h2,h3,h4,m,hm⟩:=h
 have hn:=fun w'=>Lx.next_any s (by omega) o.j h3.j w'
 have hok:=tok_ok s o.j h3.j
 have hnf:nextF s o = if (tokAt s o.j).k = 5 then .bad (tokAt s o.j).i (tokAt s o.j).err else .ok () (tokAt s o.j):=rfl
 generalize tokAt s o.j = q at hn hok hnf
 generalize nextF s o = r at hnf ⊢
 have HNF:=Lib.hid hnf;have HOK:=Lib.hid hok
 clear hnf hok
 have c0:=zc0 hr
 have c7:=zc7 hr
 have HR:=Lib.hid hr;have HL:=Lib.hid hl;have HN:=Lib.hid hn;have HM:=Lib.hid hm
 clear hr hl hn hm
 go_enter Tryz.func36,Tryz.ntmps36
 go_wp2_with fail
 refine RN.begins (fun w'=>w'.cell? ⟨pb,0,none⟩ = some (.string s)∧w'.cell? ⟨pb,7,none⟩ = some (.int .i64 o.j)) [19] (by kernel_rfl) ?_
 have hS:w.drew.cell? ⟨pb,0,none⟩ = some (.string s)∧w.drew.cell? ⟨pb,7,none⟩ = some (.int .i64 o.j):=⟨c0,c7⟩
 clear c0 c7
 refine RN.tk (i:=0) (v:=?_) rfl hS ?_ ?_
 rotate_left 1
 ·(intro wq hq;obtain ⟨s0,s7⟩:=hq;go_simp;try with_reducible rfl)
 refine RN.tk (i:=1) (v:=?_) rfl hS ?_ ?_
 rotate_left 1
 ·(intro wq hq;obtain ⟨s0,s7⟩:=hq;go_simp;try with_reducible rfl)
 refine RN.tk (i:=2) (v:=?_) rfl hS ?_ ?_
 rotate_left 1
 ·(intro wq hq;obtain ⟨s0,s7⟩:=hq;go_simp;try with_reducible rfl)
 refine RN.tk (i:=3) (v:=?_) rfl hS ?_ ?_
 rotate_left 1
 ·(intro wq hq;obtain ⟨s0,s7⟩:=hq;go_simp;try with_reducible rfl)
 refine RN.tk (i:=4) (v:=?_) rfl hS ?_ ?_
 rotate_left 1
 ·(intro wq hq;obtain ⟨s0,s7⟩:=hq;go_simp;try with_reducible rfl)
 refine RN.tk (i:=5) (v:=?_) rfl hS ?_ ?_
 rotate_left 1
 ·(intro wq hq;obtain ⟨s0,s7⟩:=hq;go_simp;try with_reducible rfl)
 refine RN.tk (i:=6) (v:=?_) rfl hS ?_ ?_
 rotate_left 1
 ·(intro wq hq;obtain ⟨s0,s7⟩:=hq;go_simp;try with_reducible rfl)
 refine RN.tk (i:=7) (v:=?_) rfl hS ?_ ?_
 rotate_left 1
 ·(intro wq hq;obtain ⟨s0,s7⟩:=hq;go_simp;try with_reducible rfl)
 refine RN.tk (i:=8) (v:=?_) rfl hS ?_ ?_
 rotate_left 1
 ·(intro wq hq;obtain ⟨s0,s7⟩:=hq;go_simp;try with_reducible rfl)
 refine RN.tk (i:=9) (v:=?_) rfl hS ?_ ?_
 rotate_left 1
 ·(intro wq hq;obtain ⟨s0,s7⟩:=hq;go_simp;try with_reducible rfl)
 refine RN.all (rs:=[10]) (by kernel_rfl) (by simp) ?_
 refine RN.All.cons rfl (fun K hK=>?_) RN.All.nil
 go_simp
 refine (HN.out _).mono ?_
 rintro e w1 ⟨a1,cap1,rfl,hl1,hb1⟩
 have hr1:PRow w1 pb s o a cap d:=(hb1.block _ hpb).trans HR.out
 have hS1:w1.cell? ⟨pb,0,none⟩ = some (.string s)∧w1.cell? ⟨pb,7,none⟩ = some (.int .i64 o.j):=⟨Lib.cell_of_heap hr1 0,Lib.cell_of_heap hr1 7⟩
 refine hK _ _ (fun _=>hS1) ?_
 clear hS hK K
 have hS:=hS1
 clear hS1
 have HB1:=Lib.hid hb1;have HL1:=Lib.hid hl1;have HR1:=Lib.hid hr1
 clear hb1 hl1 hr1
 refine RN.tk (i:=11) (v:=?_) rfl hS ?_ ?_
 rotate_left 1
 ·(intro wq hq;obtain ⟨s0,s7⟩:=hq;go_simp;try with_reducible rfl)
 refine RN.tk (i:=12) (v:=?_) rfl hS ?_ ?_
 rotate_left 1
 ·(intro wq hq;obtain ⟨s0,s7⟩:=hq;go_simp;try with_reducible rfl)
 refine RN.tk (i:=13) (v:=?_) rfl hS ?_ ?_
 rotate_left 1
 ·(intro wq hq;obtain ⟨s0,s7⟩:=hq;go_simp;try with_reducible rfl)
 refine RN.tk (i:=14) (v:=?_) rfl hS ?_ ?_
 rotate_left 1
 ·(intro wq hq;obtain ⟨s0,s7⟩:=hq;go_simp;try with_reducible rfl)
 refine RN.tk (i:=15) (v:=?_) rfl hS ?_ ?_
 rotate_left 1
 ·(intro wq hq;obtain ⟨s0,s7⟩:=hq;go_simp;try with_reducible rfl)
 refine RN.all (rs:=[16]) (by kernel_rfl) (by simp) ?_
 refine RN.All.cons rfl (fun K hK=>?_) RN.All.nil
 have fx:∀ i,w1.frozen? ⟨pb,i,none⟩ = false:=fun i=>frozen_of_row _ _ _ _ _ HR1.out
 have f1:=fx 1;have f2:=fx 2;have f3:=fx 3;have f4:=fx 4;have f5:=fx 5
 have k1:=Lib.cell_of_heap HR1.out 1;have k2:=Lib.cell_of_heap HR1.out 2;have k3:=Lib.cell_of_heap HR1.out 3;have k4:=Lib.cell_of_heap HR1.out 4;have k5:=Lib.cell_of_heap HR1.out 5
 go_simp
 have hst:=row_tok w1 pb _ _ _ _ _ _ _ _ _ (.int .i64 q.k) (.int .i64 q.i) (.string q.t) (.slice a1 q.l.len cap1) (.int .i64 q.err) _ HR1.out
 have hS2:=(⟨Lib.cell_of_heap hst.1 0,Lib.cell_of_heap hst.1 7⟩:_∧_)
 refine hK _ _ (fun _=>hS2) ?_
 clear hS hK K fx f1 f2 f3 f4 f5 k1 k2 k3 k4 k5
 generalize (((((w1.setCell ⟨pb,1,none⟩ (.int .i64 q.k)).setCell ⟨pb,2,none⟩ (.int .i64 q.i)).setCell ⟨pb,3,none⟩ (.string q.t)).setCell ⟨pb,4,none⟩ (.slice a1 q.l.len cap1)).setCell ⟨pb,5,none⟩ (.int .i64 q.err)) = w2 at hst hS2 ⊢
 have HST:=Lib.hid hst
 have hS:=hS2
 clear hst hS2
 refine RN.tk (i:=17) (v:=?_) rfl hS ?_ ?_
 rotate_left 1
 ·(intro wq hq;obtain ⟨s0,s7⟩:=hq;go_simp;try with_reducible rfl)
 refine RN.tk (i:=18) (v:=?_) rfl hS ?_ ?_
 rotate_left 1
 ·(intro wq hq;obtain ⟨s0,s7⟩:=hq;go_simp;try with_reducible rfl)
 refine RN.all (rs:=[19]) (by kernel_rfl) (by simp) ?_
 refine RN.All.cons rfl (fun K hK=>?_) RN.All.nil
 have f7:=zf 7 HST.out.1
 have k7:=Lib.cell_of_heap HST.out.1 7
 go_simp
 refine hK _ _ (fun h=>absurd h (by decide)) ?_
 clear hS hK K f7 k7
 refine RN.done (by kernel_rfl) ?_ _
 have hst:(w2.setCell ⟨pb,7,none⟩ (.int .i64 q.j)).heap[pb]? = some (.cells #[.string s,.int .i64 q.k,.int .i64 q.i,.string q.t,.slice a1 q.l.len cap1,.int .i64 q.err,.string (textF o),.int .i64 q.j,.int .i64 d] 86 (0,0)):=heap_setCell_same _ _ 7 _ _ (.int .i64 q.j) HST.out.1
 have hfr:=HST.out.2.trans (FrP.set w2 7 (.int .i64 q.j))
 generalize w2.setCell ⟨pb,7,none⟩ (.int .i64 q.j) = w3 at hst hfr ⊢
 have HS3:=Lib.hid hst;have HF3:=Lib.hid hfr
 clear hst hfr HST HR1
 have s1:=Lib.cell_of_heap HS3.out 1;have s2:=Lib.cell_of_heap HS3.out 2;have s3:=Lib.cell_of_heap HS3.out 3;have s4:=Lib.cell_of_heap HS3.out 4;have s5:=Lib.cell_of_heap HS3.out 5
 have hw3:w1.heap.size≤w3.heap.size:=HF3.out.size
 have hl3:LiesS (fun b=>w.heap.size≤b) w3 a1 cap1 q.l:=HL1.out.keep hw3 fun b hb hlt=>HF3.out.block b hlt (by
  have:w.heap.size≤b:=hb
  omega)
 have ht:=text_any q a1 cap1 w3 hl3.lies
 have HT:=Lib.hid ht
 clear ht
 go_wp2_with fail
 refine HT.out.mono ?_
 rintro e w4 ⟨rfl,hb4⟩
 have hS4:=(hb4.block _ (Array.getElem?_eq_some_iff.1 HS3.out).1).trans HS3.out
 have f6:=zf 6 hS4
 have k6:=Lib.cell_of_heap hS4 6
 have hst:(w4.setCell ⟨pb,6,none⟩ (.string (textF q))).heap[pb]? = some (.cells #[.string s,.int .i64 q.k,.int .i64 q.i,.string q.t,.slice a1 q.l.len cap1,.int .i64 q.err,.string (textF q),.int .i64 q.j,.int .i64 d] 86 (0,0)):=heap_setCell_same _ _ 6 _ _ (.string (textF q)) hS4
 have hfr:FrP pb w1 (w4.setCell ⟨pb,6,none⟩ (.string (textF q))):=(HF3.out.trans (FrP.of_below hb4)).trans (FrP.set w4 6 (.string (textF q)))
 have hz5:(w4.setCell ⟨pb,6,none⟩ (.string (textF q))).heap.size = w4.heap.size:=by simp
 have hl5:LiesS (fun b=>w.heap.size≤b) (w4.setCell ⟨pb,6,none⟩ (.string (textF q))) a1 cap1 q.l:=HL1.out.keep hfr.size fun b hb hlt=>hfr.block b hlt (by
  have:w.heap.size≤b:=hb
  omega)
 have hfw:FrP pb w (w4.setCell ⟨pb,6,none⟩ (.string (textF q))):=(show FrP pb w w1 from ⟨HB1.out.os,HB1.out.tape,HB1.out.output,HB1.out.size,fun b hb _=>HB1.out.block b hb⟩).trans hfr
 have hp5:PAt (fun b=>S b∨(w.heap.size≤b∧b < w4.heap.size)) (w4.setCell ⟨pb,6,none⟩ (.string (textF q))) pb s q d:=by
  have:=hfw.size
  rw [hz5] at this
  refine ⟨⟨a1,cap1,hst,hl5.mono fun b hb hlt=>.inr ⟨hb,by rw [hz5] at hlt;exact hlt⟩⟩,fun hb=>hb.elim h1 fun hb=>by omega,fun b hb=>?_,HOK.out,.inl h4,m,(World.cell?_of_block (w:=w) (a:=⟨1,0,none⟩) (hfw.block _ (h2 _ h4) fun e=>h1 (e ▸ h4))).trans HM.out⟩
  rw [hz5]
  exact hb.elim (fun hb=>Nat.lt_of_lt_of_le (h2 b hb) this) fun hb=>hb.2
 have s1:=Lib.cell_of_heap hst 1;have s2:=Lib.cell_of_heap hst 2;have s5:=Lib.cell_of_heap hst 5
 have HP5:=Lib.hid hp5;have HF5:=Lib.hid hfw;have HZ5:=Lib.hid hz5
 clear hS4 hb4 hst hfr hl5 hp5 hfw hz5 hl3
 by_cases hk:q.k = 5
 ·have hr:r = .bad q.i q.err:=by rw [HNF.out,if_pos hk]
  have hk5:((q.k:Int) == 5) = true:=by rw [hk];rfl
  have hw:=wrong_any _ pb s q d q.err _ HP5.out
  have HW:=Lib.hid hw;have HR':=Lib.hid hr
  clear hw hk hr
  go_wp2_with fail
  refine HW.out.mono ?_
  rintro e w6 ⟨rfl,hb6⟩
  go_wp2_with fail
  rw [HR'.out]
  exact ⟨rfl,HF5.out.trans (FrP.of_below hb6),rfl⟩
 ·have hr:r = .ok () q:=by rw [HNF.out,if_neg hk]
  have hk5:((q.k:Int) == 5) = false:=by rw [beq_eq_false_iff_ne];omega
  have HR':=Lib.hid hr
  clear hk hr
  go_wp2_with fail
  go_end0
  rw [HR'.out]
  refine ⟨HF5.out,⟨_,rfl,rfl⟩,?_⟩
  have h5:=HP5.out
  rw [← HZ5.out] at h5
  exact h5
end Ps
end Go.Proofs.YtoklgmbpgnimcaaGreatDoor
namespace Go.Proofs.YtoklgmbpgnimcaaGreatDoor
open Go.RowKit Go.Sort
namespace Ps
open Cls Pt Tr Sp Lx
def Texts (w:World) (b:Nat) (l:List ByteArray):Prop:=l.length≤100∧∀ j,j < l.length→w.cell? ⟨b,0 + j,none⟩ = some (.string (l.getD j ByteArray.empty))
theorem Texts.below {w w':World} {b:Nat} {l:List ByteArray} (h:Texts w b l) (hb:Below w.heap.size w w'):Texts w' b l:=⟨h.1,fun j hj=>cell_below hb (h.2 j hj)⟩
set_option maxHeartbeats 800000 in
set_option maxRecDepth 100000 in
theorem sees_any (S:Nat→Prop) (pb:Nat) (s:ByteArray) (o:Tok) (d:Nat) (l:List ByteArray) (b c:Nat) (w:World) (h:PAt S w pb s o d) (ht:Texts w b l) :
  Calls Tryz.prog 55 #[.pointer (some ⟨pb,0,none⟩),.slice (some ⟨b,0,none⟩) l.length c] w fun e w'=>e = .returned (.bool (seesF l o))∧Below w.heap.size w w':=by
 obtain ⟨a,cap,hr,hl⟩:=h.ex
 have c6:=zc6 hr
 have hc:=fun w' (hb:Below w.heap.size w w')=>Tryz.slices_Contains_string b 0 l.length c l (textF o) w' (Nat.le_refl _) (by have:=ht.1;omega) (ht.below hb).2
 rw [List.take_length] at hc
 have HC:=Lib.hid hc
 unfold seesF
 clear hc hr hl h ht
 go_enter Tryz.func55,Tryz.ntmps55
 go_wp2_with fail
 refine (HC.out _ (Below.refl _ _)).mono ?_
 rintro e w1 ⟨rfl,rfl⟩
 go_wp2_with fail
 go_ret
 exact ⟨rfl,Below.refl _ _⟩
set_option maxHeartbeats 800000 in
set_option maxRecDepth 100000 in
theorem skip_any (S:Nat→Prop) (pb:Nat) (s:ByteArray) (hs:s.size≤400000) (o:Tok) (d:Nat) (l:List ByteArray) (b c:Nat) (w:World) (h:PAt S w pb s o d) (ht:Texts w b l) :
  Calls Tryz.prog 52 #[.pointer (some ⟨pb,0,none⟩),.slice (some ⟨b,0,none⟩) l.length c] w (Does S pb s d w VBool (skipF s l o)):=by
 have hse:=sees_any S pb s o d l b c w h ht
 have hn:=fun w' (hb:Below w.heap.size w w')=>next_any S pb s hs o d w' (h.below hb)
 have hlen:=ht.1
 have H:=Lib.hid h
 clear ht
 cases hB:seesF l o
 ·rw [hB] at hse
  have hsk:skipF s l o = .ok false o:=by unfold skipF;rw [hB];rfl
  rw [hsk]
  have HSE:=Lib.hid hse
  clear h hn hse hB hsk
  go_enter Tryz.func52,Tryz.ntmps52
  go_wp2_with fail
  refine HSE.out.mono ?_
  rintro e w1 ⟨rfl,hb⟩
  go_wp2_with fail
  go_ret
  exact H.out.does hb rfl
 ·rw [hB] at hse
  have hsk:skipF s l o = (nextF s o).bind fun _ q=>.ok true q:=by unfold skipF;rw [hB];rfl
  rw [hsk]
  generalize nextF s o = r at hn ⊢
  have HSE:=Lib.hid hse;have HN:=Lib.hid hn
  clear h hn hse hB hsk
  cases r with
  | ok u q =>
   go_enter Tryz.func52,Tryz.ntmps52
   go_wp2_with fail
   refine HSE.out.mono ?_
   rintro e w1 ⟨rfl,hb⟩
   have HB:=Lib.hid hb
   clear hb
   go_wp2_with fail
   refine (HN.out _ HB.out).mono ?_
   rintro e w2 ⟨hf,⟨v,rfl,rfl⟩,hp⟩
   have hd2:Does S pb s d w1 VBool (.ok true q) (.returned (.bool true)) w2:=⟨hf,⟨_,rfl,rfl⟩,hp⟩
   have HD:=Lib.hid (H.out.after VM.bool HB.out hd2)
   clear hd2 hf hp
   go_wp2_with fail
   go_ret
   exact HD.out
  | bad i er =>
   go_enter Tryz.func52,Tryz.ntmps52
   go_wp2_with fail
   refine HSE.out.mono ?_
   rintro e w1 ⟨rfl,hb⟩
   have HB:=Lib.hid hb
   clear hb
   go_wp2_with fail
   refine (HN.out _ HB.out).mono ?_
   rintro e w2 ⟨hf,rfl⟩
   have hd2:Does S pb s d w1 VBool (.bad i er) (thrownP i er) w2:=⟨hf,rfl⟩
   have HD:=Lib.hid (H.out.after VM.bool HB.out hd2)
   clear hd2 hf
   go_wp2_with fail
   exact ⟨rfl,HD.out⟩
set_option maxHeartbeats 800000 in
set_option maxRecDepth 100000 in
theorem take_any (S:Nat→Prop) (pb:Nat) (s:ByteArray) (hs:s.size≤400000) (o:Tok) (d:Nat) (l:List ByteArray) (b c:Nat) (w:World) (h:PAt S w pb s o d) (ht:Texts w b l) :
  Calls Tryz.prog 123 #[.pointer (some ⟨pb,0,none⟩),.slice (some ⟨b,0,none⟩) l.length c] w (Does S pb s d w VUnit (takeF s l o)):=by
 have hsk:=skip_any S pb s hs o d l b c w h ht
 have hlen:=ht.1
 have H:=Lib.hid h
 unfold takeF
 generalize skipF s l o = r at hsk ⊢
 have HSK:=Lib.hid hsk
 clear hsk h ht
 match r with
 | .bad i er =>
  go_enter Tryz.func123,Tryz.ntmps123
  go_wp2_with fail
  refine HSK.out.mono ?_
  rintro e w1 ⟨hf,rfl⟩
  go_wp2_with fail
  exact ⟨rfl,hf,rfl⟩
 | .ok true q =>
  go_enter Tryz.func123,Tryz.ntmps123
  go_wp2_with fail
  refine HSK.out.mono ?_
  rintro e w1 ⟨hf,⟨v,rfl,rfl⟩,hp⟩
  go_wp2_with fail
  go_end0
  exact ⟨hf,⟨_,rfl,rfl⟩,hp⟩
 | .ok false q =>
  go_enter Tryz.func123,Tryz.ntmps123
  go_wp2_with fail
  refine HSK.out.mono ?_
  rintro e w1 ⟨hf,⟨v,rfl,rfl⟩,hp⟩
  have HW:=Lib.hid (wrong_any _ pb s q d 1 w1 hp)
  clear hp
  go_wp2_with fail
  refine HW.out.mono ?_
  rintro e w2 ⟨rfl,hb⟩
  go_wp2_with fail
  exact ⟨rfl,hf.trans (FrP.of_below hb),rfl⟩
theorem Texts.row {w:World} {b:Nat} {l:List ByteArray} {T:TypeId} (h:w.heap[b]? = some (.cells (l.map Value.string).toArray T (0,0))) (hl:l.length≤100):Texts w b l:=by
 refine ⟨hl,fun j hj=>?_⟩
 rw [Nat.zero_add,Lib.cell_of_heap h j]
 simp [hj]
theorem sees_row (S:Nat→Prop) (pb:Nat) (s:ByteArray) (o:Tok) (d:Nat) (l:List ByteArray) (w:World) (h:PAt S w pb s o d) (hl:l.length≤100) :
  Calls Tryz.prog 55 #[.pointer (some ⟨pb,0,none⟩),.slice (some ⟨w.heap.size,0,none⟩) l.length l.length] (w.alloc (.cells (l.map Value.string).toArray 9)) fun e w'=>e = .returned (.bool (seesF l o))∧Below w.heap.size w w' :=
 (sees_any S pb s o d l _ _ _ (h.below (bel1 _ _)) (Texts.row (heap_new' _ _) hl)).mono fun _ _ ⟨he,hb⟩=>⟨he,thru (bel1 _ _) hb⟩
theorem skip_row (S:Nat→Prop) (pb:Nat) (s:ByteArray) (hs:s.size≤400000) (o:Tok) (d:Nat) (l:List ByteArray) (w:World) (h:PAt S w pb s o d) (hl:l.length≤100) :
  Calls Tryz.prog 52 #[.pointer (some ⟨pb,0,none⟩),.slice (some ⟨w.heap.size,0,none⟩) l.length l.length] (w.alloc (.cells (l.map Value.string).toArray 9)) (Does S pb s d w VBool (skipF s l o)) :=
 (skip_any S pb s hs o d l _ _ _ (h.below (bel1 _ _)) (Texts.row (heap_new' _ _) hl)).mono fun _ _ hd=>h.after VM.bool (bel1 _ _) hd
theorem take_row (S:Nat→Prop) (pb:Nat) (s:ByteArray) (hs:s.size≤400000) (o:Tok) (d:Nat) (l:List ByteArray) (w:World) (h:PAt S w pb s o d) (hl:l.length≤100) :
  Calls Tryz.prog 123 #[.pointer (some ⟨pb,0,none⟩),.slice (some ⟨w.heap.size,0,none⟩) l.length l.length] (w.alloc (.cells (l.map Value.string).toArray 9)) (Does S pb s d w VUnit (takeF s l o)) :=
 (take_any S pb s hs o d l _ _ _ (h.below (bel1 _ _)) (Texts.row (heap_new' _ _) hl)).mono fun _ _ hd=>h.after VM.unit (bel1 _ _) hd
end Ps
end Go.Proofs.YtoklgmbpgnimcaaGreatDoor
namespace Go.Proofs.YtoklgmbpgnimcaaGreatDoor
open Go.RowKit Go.Sort
namespace Ps
open Cls Pt Tr Sp Lx
def mu (s:ByteArray) (o:Tok):Nat:=2 * (s.size - o.j) + (if o.k = 4 then 0 else 1)
theorem mu_F (s:ByteArray) (o:Tok):mu s o < F s:=by unfold mu F;split <;> omega
def muW (s:ByteArray) (pb:Nat) (w:World):Nat:=2 * (s.size - (intOf ((w.cell? ⟨pb,7,none⟩).getD undef)).toNat) + (if intOf ((w.cell? ⟨pb,1,none⟩).getD undef) = 4 then 0 else 1)
theorem PAt.mW {S:Nat→Prop} {w:World} {pb:Nat} {s:ByteArray} {o:Tok} {d:Nat} (h:PAt S w pb s o d):muW s pb w = mu s o:=by
 obtain ⟨a,cap,hr,_⟩:=h.ex
 have c1:=zc1 hr
 have c7:=zc7 hr
 unfold muW mu
 rw [c1,c7]
 simp only [Option.getD_some,intOf,Int.toNat_natCast]
 have:((o.k:Int) = 4) ↔ o.k = 4:=by omega
 simp only [this]
theorem next_mu {s:ByteArray} {o q:Tok} (ho:TokOK s o) (hk:o.k ≠ 4) (h:nextF s o = .ok () q):mu s q < mu s o∧TokOK s q:=by
 unfold nextF at h
 split at h
 ·cases h
 ·rename_i h5
  have hq:q = tokAt s o.j:=by injection h with h1 h2;exact h2.symm
  subst hq
  have hok:=tok_ok s o.j ho.j
  have hg:=tok_good s o.j ho.j
  refine ⟨?_,hok⟩
  by_cases h4:(tokAt s o.j).k = 4
  ·have:=(hok.e h4).1
   unfold mu
   rw [if_pos h4,if_neg hk]
   omega
  ·have hst:stopT (tokAt s o.j) = false:=by simp [stopT,h4,h5]
   have:=hg.2.2.2.2 hst
   have:=ho.j
   unfold mu
   rw [if_neg h4,if_neg hk]
   omega
theorem sees_k {l:List ByteArray} {o:Tok} {s:ByteArray} (ho:TokOK s o) (hl:l.all (fun x=>x.size != 0) = true) (h:seesF l o = true):o.k ≠ 4:=by
 intro h4
 unfold seesF at h
 rw [Lib.containsS_iff] at h
 have:textF o = ⟨#[]⟩:=by unfold textF;rw [if_neg (by omega),if_neg (by omega),(ho.e h4).2];rfl
 rw [this] at h
 have:=List.all_eq_true.1 hl _ h
 simp [ByteArray.size] at this
theorem skip_mu {l:List ByteArray} {s:ByteArray} {o q:Tok} (ho:TokOK s o) (hl:l.all (fun x=>x.size != 0) = true) (h:skipF s l o = .ok true q):mu s q < mu s o∧TokOK s q:=by
 unfold skipF at h
 split at h
 ·rename_i hse
  refine next_mu ho (sees_k ho hl hse) ?_
  cases hn:nextF s o with
  | ok u p=>rw [hn] at h;simp only [Rs.bind] at h;injection h with h1 h2;rw [h2]
  | bad i e=>rw [hn] at h;cases h
 ·injection h with h1 h2
  cases h1
set_option maxHeartbeats 800000 in
set_option maxRecDepth 100000 in
theorem lines_any (S:Nat→Prop) (pb:Nat) (s:ByteArray) (hs:s.size≤400000) (o:Tok) (d:Nat) (w:World) (h:PAt S w pb s o d) :
  Calls Tryz.prog 44 #[.pointer (some ⟨pb,0,none⟩)] w (Does S pb s d w VUnit (linesF s o)):=by
 have H:=Lib.hid h
 clear h
 go_enter Tryz.func44,Tryz.ntmps44
 go_wp2_with fail
 go_loopw [4] (fun b wr=>∃ (n:Nat) (q:Tok),linesN s n q = linesF s o∧mu s q < n∧FrP pb w wr∧PAt (Up S w wr) wr pb s q d) (fun b wr=>muW s pb wr)
 case atStart=>exact ⟨F s,o,rfl,mu_F s o,FrP.refl _ _,H.out.up H.out.pb⟩
 case round =>
  obtain ⟨n,q,hn,hmu,hf,hp⟩:=hrel
  obtain ⟨n,rfl⟩:∃ m,n = m + 1:=⟨n - 1,by omega⟩
  have hk:=skip_row (Up S w wr) pb s hs q d [tLine] wr hp (by decide)
  have hmuW:=hp.mW
  have hsm:=fun p=>skip_mu (s:=s) (l:=[tLine]) (o:=q) (q:=p) hp.ok (by decide)
  unfold linesN at hn
  generalize skipF s [tLine] q = r at hk hn hsm
  have HK:=Lib.hid hk;have HN:=Lib.hid hn;have HF:=Lib.hid hf;have HP:=Lib.hid hp;have HSM:=Lib.hid hsm;have HMW:=Lib.hid hmuW;have HMU:=Lib.hid hmu
  clear hk hn hf hp hsm hmuW hmu
  match r with
  | .bad i er =>
   go_wp2_with fail
   refine HK.out.mono ?_
   rintro e w2 ⟨hf2,rfl⟩
   have hd:Does (Up S w wr) pb s d wr VUnit (.bad i er) (thrownP i er) w2:=⟨hf2,rfl⟩
   have HD:=Lib.hid (H.out.go VM.unit HF.out hd)
   have hr:linesF s o = .bad i er:=HN.out.symm
   rw [← hr] at HD
   clear hd hf2 hr
   go_wp2_with fail
   exact ⟨rfl,HD.out⟩
  | .ok false p =>
   go_wp2_with fail
   refine HK.out.mono ?_
   rintro e w2 ⟨hf2,⟨v,rfl,rfl⟩,hp2⟩
   have hd:Does (Up S w wr) pb s d wr VUnit (.ok () p) (.returned (.tuple #[])) w2:=⟨hf2,⟨_,rfl,rfl⟩,hp2⟩
   have HD:=Lib.hid (H.out.go VM.unit HF.out hd)
   have hr:linesF s o = .ok () p:=HN.out.symm
   rw [← hr] at HD
   clear hd hf2 hp2 hr
   go_wp2_with fail
   go_end0
   exact HD.out
  | .ok true p =>
   go_wp2_with fail
   refine HK.out.mono ?_
   rintro e w2 ⟨hf2,⟨v,rfl,rfl⟩,hp2⟩
   have HP2:=Lib.hid hp2;have HF2:=Lib.hid hf2
   clear hf2 hp2
   go_wp2_with fail
   go_roundw
   case rel =>
    have hm:=HSM.out p rfl
    have hmu:=HMU.out
    have hm1:=hm.1
    refine ⟨n,p,HN.out,by omega,HF.out.trans HF2.out,HP2.out.mono (fun b hb=>?_) ?_ ?_⟩
    ·have h1:=HF.out.size
     have h2:=HF2.out.size
     rcases hb with hb | hb
     ·exact hb.imp id fun hb=>by omega
     ·exact .inr (by omega)
    ·exact Up.out H.out.ns H.out.pb
    ·exact Up.lt H.out.lt (HF.out.trans HF2.out).size
   case measure =>
    have:=(HSM.out p rfl).1
    have e1:=HMW.out
    have e2:=HP2.out.mW
    omega
end Ps
end Go.Proofs.YtoklgmbpgnimcaaGreatDoor
