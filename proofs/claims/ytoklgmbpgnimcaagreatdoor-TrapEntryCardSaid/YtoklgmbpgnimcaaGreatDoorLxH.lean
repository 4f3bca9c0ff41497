/- (*lex.reader).slash. -/
import Derived.Test.YtoklgmbpgnimcaaGreatDoorRegN
import Derived.Test.YtoklgmbpgnimcaaGreatDoorLxG
namespace Go.Proofs.YtoklgmbpgnimcaaGreatDoor
open Go.RowKit Go.Sort
namespace Lx
open Cls Pt
set_option maxHeartbeats 1600000 in
set_option maxRecDepth 100000 in
theorem slash_any (rb i B ec:Nat) (s:ByteArray) (S:Nat→Prop) (p:Nat) (a:A) (w:World) (h:RAt w rb s i) (hi:i < s.size) (hs:s.size≤1000000) (hrb:rb < B) (hS':¬ S rb) (ha:AccAt w B S p a) (ht:a.tot≤70000000) (hSl:∀ x,S x→x < w.heap.size) :
  Calls Tryz.prog 110 #[.pointer (some ⟨rb,0,none⟩),.int .u8 ec,.pointer (some ⟨p,0,none⟩)] w fun e w' =>
   (e = .returned (.tuple #[])∧RAt w' rb s (i + (slashR ec (restAt s (i + 1)) a).2)∧AccAt w' B S p (slashR ec (restAt s (i + 1)) a).1)∧FrR rb B S w w':=by
 have c0:=h.c0
 have c1:=h.c1
 have f1:=h.f1
 have h1:=h.set (i + 1)
 rw [show ((i + 1:Nat):Int) = (i:Int) + 1 by omega] at h1
 obtain ⟨w1,hw1⟩:∃ w1,w1 = w.setCell ⟨rb,1,none⟩ (.int .i64 ((i:Int) + 1)):=⟨_,rfl⟩
 have ha1:AccAt w1 B S p a:=by rw [hw1];exact ha.setR hrb hS' _ _
 have hf1:FrR rb B S w w1:=by rw [hw1];exact (FrR.refl rb B S w).set hS' _ _
 have hs1:w1.heap.size = w.heap.size:=by rw [hw1];simp
 rw [← hw1] at h1
 have h1':RAt w1 rb s (i + 1):=h1
 by_cases hlt:i + 1 < s.size
 ·have hg:=getB hlt
  have hR:=restAt_cons hlt
  rw [← hg] at hR
  have hE0:=fun c=>sees_drawn0 rb (i + 1) c s w1 h1' (by omega) hs
  have hE:=fun n c=>sees_drawn rb (i + 1) c s w1 h1' (by omega) hs n
  have d0:=h1'.c0
  have d1:=h1'.c1
  have e1:=h1'.f1
  have a0:(0:Int)≤(i:Int) + 1:=by omega
  have a1:(i:Int) + 1 < (s.size:Int):=by omega
  have a2:((i:Int) + 1).toNat = i + 1:=by omega
  have hP:=fun n=>put_any B S p a s[i + 1] true (w1.drewN n) (ha1.heap rfl) (by have:=a.sizes;omega) (by have:=a.sizes;omega) (fun x hx=>by have:=hSl x hx;show x < w1.heap.size;omega)
  have hP92:=fun n=>put_any B S p a 92 true (w1.drewN n) (ha1.heap rfl) (by have:=a.sizes;omega) (by have:=a.sizes;omega) (fun x hx=>by have:=hSl x hx;show x < w1.heap.size;omega)
  have HE0:=Lib.hid hE0;have HE:=Lib.hid hE;have HW1:=Lib.hid hw1;have H1:=Lib.hid h1';have HA:=Lib.hid ha1;have HF:=Lib.hid hf1;have HR:=Lib.hid hR;have HP:=Lib.hid hP;have HP92:=Lib.hid hP92
  clear hE0 hE ha1 hf1 hs1 h1 h1' h ha hSl hw1 hR hg hP hP92
  generalize hb10:seesB (restAt s (i + 1)) 10 = b10 at *
  cases b10
  ·have HB10:=Lib.hid hb10
   clear hb10
   cases h34:seesB (restAt s (i + 1)) 34
   case true =>
    have hsr:slashR ec (restAt s (i + 1)) a = ((a.text [s[i + 1]] true),2):=by unfold slashR;rw [HB10.out,h34];rw [HR.out];rfl
    rw [hsr]
    have q0:=HE0.out 10
    rw [HB10.out] at q0
    have Q0:=Lib.hid q0
    clear q0
    have q1:=fun n=>HE.out n 34
    rw [h34] at q1
    have Q1:=Lib.hid q1
    clear q1
    clear hsr h34
    go_enter Tryz.func110,Tryz.ntmps110
    go_wp2_with fail
    rw [← HW1.out]
    refine (Q0.out).mono ?_
    rintro e w2 ⟨rfl,n0,rfl⟩
    go_wp2_with fail
    refine (Q1.out _).mono ?_
    rintro e w3 ⟨rfl,n1,rfl⟩
    go_wp2_with fail
    refine RT.begins (fun w'=>w'.cell? ⟨rb,0,none⟩ = some (.string s)∧w'.cell? ⟨rb,1,none⟩ = some (.int .i64 ((i:Int) + 1))) 11 (by kernel_rfl) ?_
    have hS0:∀ m,(w1.drewN m).cell? ⟨rb,0,none⟩ = some (.string s)∧(w1.drewN m).cell? ⟨rb,1,none⟩ = some (.int .i64 ((i:Int) + 1)):=fun m=>⟨d0,d1⟩
    have hS:(w1.drewN n1).drew.cell? ⟨rb,0,none⟩ = some (.string s)∧(w1.drewN n1).drew.cell? ⟨rb,1,none⟩ = some (.int .i64 ((i:Int) + 1)):=hS0 (n1 + 1)
    clear hS0
    refine RT.tk (i:=0) (v:=?_) rfl hS ?_ ?_
    rotate_left 1
    ·(intro wq hq;obtain ⟨s0,s1⟩:=hq;go_simp;try with_reducible rfl)
    refine RT.tk (i:=1) (v:=?_) rfl hS ?_ ?_
    rotate_left 1
    ·(intro wq hq;obtain ⟨s0,s1⟩:=hq;go_simp;try with_reducible rfl)
    refine RT.tk (i:=2) (v:=?_) rfl hS ?_ ?_
    rotate_left 1
    ·(intro wq hq;obtain ⟨s0,s1⟩:=hq;go_simp;try with_reducible rfl)
    refine RT.tk (i:=3) (v:=?_) rfl hS ?_ ?_
    rotate_left 1
    ·(intro wq hq;obtain ⟨s0,s1⟩:=hq;go_simp;try with_reducible rfl)
    refine RT.tk (i:=4) (v:=?_) rfl hS ?_ ?_
    rotate_left 1
    ·(intro wq hq;obtain ⟨s0,s1⟩:=hq;go_simp;try with_reducible rfl)
    refine RT.tk (i:=5) (v:=?_) rfl hS ?_ ?_
    rotate_left 1
    ·(intro wq hq;obtain ⟨s0,s1⟩:=hq;go_simp;try with_reducible rfl)
    refine RT.tk (i:=6) (v:=?_) rfl hS ?_ ?_
    rotate_left 1
    ·(intro wq hq;obtain ⟨s0,s1⟩:=hq;go_simp;try with_reducible rfl)
    refine RT.tk (i:=7) (v:=?_) rfl hS ?_ ?_
    rotate_left 1
    ·(intro wq hq;obtain ⟨s0,s1⟩:=hq;go_simp;try with_reducible rfl)
    refine RT.tk (i:=8) (v:=?_) rfl hS ?_ ?_
    rotate_left 1
    ·(intro wq hq;obtain ⟨s0,s1⟩:=hq;go_simp;try with_reducible rfl)
    refine RT.tk (i:=9) (v:=?_) rfl hS ?_ ?_
    rotate_left 1
    ·(intro wq hq;obtain ⟨s0,s1⟩:=hq;go_simp;try with_reducible rfl)
    refine RT.all (rs:=[10]) (by kernel_rfl) (by simp) ?_
    refine RT.All.cons rfl (fun K hK=>?_) RT.All.nil
    go_simp
    refine (HP.out _).mono ?_
    rintro e w9 ⟨rfl,hacc,hfr⟩
    have h9:RAt w9 rb s (i + 1):=RAt.fr (w:=w1.drewN _) H1.out hfr hrb
    have hfw:FrR rb B S w w9:=HF.out.trans ⟨hfr.os,hfr.tape,hfr.output,hfr.size,fun b hb ho=>hfr.block b hb (ho.imp (·.1) id)⟩
    refine hK _ _ (fun _=>⟨h9.c0,h9.c1⟩) ?_
    clear hK K
    refine RT.done (by kernel_rfl) ?_ _
    have g1:w9.cell? ⟨rb,1,none⟩ = some (.int .i64 ((i:Int) + 1)):=h9.c1
    have g2:=h9.f1
    have HX:=Lib.hid (And.intro (h9.set (i + 2)) (And.intro (hacc.setR hrb hS' 1 (.int .i64 ((i + 2:Nat):Int))) (hfw.set hS' 1 (.int .i64 ((i + 2:Nat):Int)))))
    clear hacc hfr h9 hfw hS
    go_wp2_with fail
    go_end0
    have he:((i:Int) + 1 + 1) = ((i + 2:Nat):Int):=by omega
    rw [he]
    exact ⟨⟨rfl,HX.out.1,HX.out.2.1⟩,HX.out.2.2⟩
   cases h36:seesB (restAt s (i + 1)) 36
   case true =>
    have hsr:slashR ec (restAt s (i + 1)) a = ((a.text [s[i + 1]] true),2):=by unfold slashR;rw [HB10.out,h34,h36];rw [HR.out];rfl
    rw [hsr]
    have q0:=HE0.out 10
    rw [HB10.out] at q0
    have Q0:=Lib.hid q0
    clear q0
    have q1:=fun n=>HE.out n 34
    rw [h34] at q1
    have Q1:=Lib.hid q1
    clear q1
    have q2:=fun n=>HE.out n 36
    rw [h36] at q2
    have Q2:=Lib.hid q2
    clear q2
    clear hsr h34 h36
    go_enter Tryz.func110,Tryz.ntmps110
    go_wp2_with fail
    rw [← HW1.out]
    refine (Q0.out).mono ?_
    rintro e w2 ⟨rfl,n0,rfl⟩
    go_wp2_with fail
    refine (Q1.out _).mono ?_
    rintro e w3 ⟨rfl,n1,rfl⟩
    go_wp2_with fail
    refine (Q2.out _).mono ?_
    rintro e w4 ⟨rfl,n2,rfl⟩
    go_wp2_with fail
    refine RT.begins (fun w'=>w'.cell? ⟨rb,0,none⟩ = some (.string s)∧w'.cell? ⟨rb,1,none⟩ = some (.int .i64 ((i:Int) + 1))) 11 (by kernel_rfl) ?_
    have hS0:∀ m,(w1.drewN m).cell? ⟨rb,0,none⟩ = some (.string s)∧(w1.drewN m).cell? ⟨rb,1,none⟩ = some (.int .i64 ((i:Int) + 1)):=fun m=>⟨d0,d1⟩
    have hS:(w1.drewN n2).drew.cell? ⟨rb,0,none⟩ = some (.string s)∧(w1.drewN n2).drew.cell? ⟨rb,1,none⟩ = some (.int .i64 ((i:Int) + 1)):=hS0 (n2 + 1)
    clear hS0
    refine RT.tk (i:=0) (v:=?_) rfl hS ?_ ?_
    rotate_left 1
    ·(intro wq hq;obtain ⟨s0,s1⟩:=hq;go_simp;try with_reducible rfl)
    refine RT.tk (i:=1) (v:=?_) rfl hS ?_ ?_
    rotate_left 1
    ·(intro wq hq;obtain ⟨s0,s1⟩:=hq;go_simp;try with_reducible rfl)
    refine RT.tk (i:=2) (v:=?_) rfl hS ?_ ?_
    rotate_left 1
    ·(intro wq hq;obtain ⟨s0,s1⟩:=hq;go_simp;try with_reducible rfl)
    refine RT.tk (i:=3) (v:=?_) rfl hS ?_ ?_
    rotate_left 1
    ·(intro wq hq;obtain ⟨s0,s1⟩:=hq;go_simp;try with_reducible rfl)
    refine RT.tk (i:=4) (v:=?_) rfl hS ?_ ?_
    rotate_left 1
    ·(intro wq hq;obtain ⟨s0,s1⟩:=hq;go_simp;try with_reducible rfl)
    refine RT.tk (i:=5) (v:=?_) rfl hS ?_ ?_
    rotate_left 1
    ·(intro wq hq;obtain ⟨s0,s1⟩:=hq;go_simp;try with_reducible rfl)
    refine RT.tk (i:=6) (v:=?_) rfl hS ?_ ?_
    rotate_left 1
    ·(intro wq hq;obtain ⟨s0,s1⟩:=hq;go_simp;try with_reducible rfl)
    refine RT.tk (i:=7) (v:=?_) rfl hS ?_ ?_
    rotate_left 1
    ·(intro wq hq;obtain ⟨s0,s1⟩:=hq;go_simp;try with_reducible rfl)
    refine RT.tk (i:=8) (v:=?_) rfl hS ?_ ?_
    rotate_left 1
    ·(intro wq hq;obtain ⟨s0,s1⟩:=hq;go_simp;try with_reducible rfl)
    refine RT.tk (i:=9) (v:=?_) rfl hS ?_ ?_
    rotate_left 1
    ·(intro wq hq;obtain ⟨s0,s1⟩:=hq;go_simp;try with_reducible rfl)
    refine RT.all (rs:=[10]) (by kernel_rfl) (by simp) ?_
    refine RT.All.cons rfl (fun K hK=>?_) RT.All.nil
    go_simp
    refine (HP.out _).mono ?_
    rintro e w9 ⟨rfl,hacc,hfr⟩
    have h9:RAt w9 rb s (i + 1):=RAt.fr (w:=w1.drewN _) H1.out hfr hrb
    have hfw:FrR rb B S w w9:=HF.out.trans ⟨hfr.os,hfr.tape,hfr.output,hfr.size,fun b hb ho=>hfr.block b hb (ho.imp (·.1) id)⟩
    refine hK _ _ (fun _=>⟨h9.c0,h9.c1⟩) ?_
    clear hK K
    refine RT.done (by kernel_rfl) ?_ _
    have g1:w9.cell? ⟨rb,1,none⟩ = some (.int .i64 ((i:Int) + 1)):=h9.c1
    have g2:=h9.f1
    have HX:=Lib.hid (And.intro (h9.set (i + 2)) (And.intro (hacc.setR hrb hS' 1 (.int .i64 ((i + 2:Nat):Int))) (hfw.set hS' 1 (.int .i64 ((i + 2:Nat):Int)))))
    clear hacc hfr h9 hfw hS
    go_wp2_with fail
    go_end0
    have he:((i:Int) + 1 + 1) = ((i + 2:Nat):Int):=by omega
    rw [he]
    exact ⟨⟨rfl,HX.out.1,HX.out.2.1⟩,HX.out.2.2⟩
   cases h92:seesB (restAt s (i + 1)) 92
   case true =>
    have hsr:slashR ec (restAt s (i + 1)) a = ((a.text [s[i + 1]] true),2):=by unfold slashR;rw [HB10.out,h34,h36,h92];rw [HR.out];rfl
    rw [hsr]
    have q0:=HE0.out 10
    rw [HB10.out] at q0
    have Q0:=Lib.hid q0
    clear q0
    have q1:=fun n=>HE.out n 34
    rw [h34] at q1
    have Q1:=Lib.hid q1
    clear q1
    have q2:=fun n=>HE.out n 36
    rw [h36] at q2
    have Q2:=Lib.hid q2
    clear q2
    have q3:=fun n=>HE.out n 92
    rw [h92] at q3
    have Q3:=Lib.hid q3
    clear q3
    clear hsr h34 h36 h92
    go_enter Tryz.func110,Tryz.ntmps110
    go_wp2_with fail
    rw [← HW1.out]
    refine (Q0.out).mono ?_
    rintro e w2 ⟨rfl,n0,rfl⟩
    go_wp2_with fail
    refine (Q1.out _).mono ?_
    rintro e w3 ⟨rfl,n1,rfl⟩
    go_wp2_with fail
    refine (Q2.out _).mono ?_
    rintro e w4 ⟨rfl,n2,rfl⟩
    go_wp2_with fail
    refine (Q3.out _).mono ?_
    rintro e w5 ⟨rfl,n3,rfl⟩
    go_wp2_with fail
    refine RT.begins (fun w'=>w'.cell? ⟨rb,0,none⟩ = some (.string s)∧w'.cell? ⟨rb,1,none⟩ = some (.int .i64 ((i:Int) + 1))) 11 (by kernel_rfl) ?_
    have hS0:∀ m,(w1.drewN m).cell? ⟨rb,0,none⟩ = some (.string s)∧(w1.drewN m).cell? ⟨rb,1,none⟩ = some (.int .i64 ((i:Int) + 1)):=fun m=>⟨d0,d1⟩
    have hS:(w1.drewN n3).drew.cell? ⟨rb,0,none⟩ = some (.string s)∧(w1.drewN n3).drew.cell? ⟨rb,1,none⟩ = some (.int .i64 ((i:Int) + 1)):=hS0 (n3 + 1)
    clear hS0
    refine RT.tk (i:=0) (v:=?_) rfl hS ?_ ?_
    rotate_left 1
    ·(intro wq hq;obtain ⟨s0,s1⟩:=hq;go_simp;try with_reducible rfl)
    refine RT.tk (i:=1) (v:=?_) rfl hS ?_ ?_
    rotate_left 1
    ·(intro wq hq;obtain ⟨s0,s1⟩:=hq;go_simp;try with_reducible rfl)
    refine RT.tk (i:=2) (v:=?_) rfl hS ?_ ?_
    rotate_left 1
    ·(intro wq hq;obtain ⟨s0,s1⟩:=hq;go_simp;try with_reducible rfl)
    refine RT.tk (i:=3) (v:=?_) rfl hS ?_ ?_
    rotate_left 1
    ·(intro wq hq;obtain ⟨s0,s1⟩:=hq;go_simp;try with_reducible rfl)
    refine RT.tk (i:=4) (v:=?_) rfl hS ?_ ?_
    rotate_left 1
    ·(intro wq hq;obtain ⟨s0,s1⟩:=hq;go_simp;try with_reducible rfl)
    refine RT.tk (i:=5) (v:=?_) rfl hS ?_ ?_
    rotate_left 1
    ·(intro wq hq;obtain ⟨s0,s1⟩:=hq;go_simp;try with_reducible rfl)
    refine RT.tk (i:=6) (v:=?_) rfl hS ?_ ?_
    rotate_left 1
    ·(intro wq hq;obtain ⟨s0,s1⟩:=hq;go_simp;try with_reducible rfl)
    refine RT.tk (i:=7) (v:=?_) rfl hS ?_ ?_
    rotate_left 1
    ·(intro wq hq;obtain ⟨s0,s1⟩:=hq;go_simp;try with_reducible rfl)
    refine RT.tk (i:=8) (v:=?_) rfl hS ?_ ?_
    rotate_left 1
    ·(intro wq hq;obtain ⟨s0,s1⟩:=hq;go_simp;try with_reducible rfl)
    refine RT.tk (i:=9) (v:=?_) rfl hS ?_ ?_
    rotate_left 1
    ·(intro wq hq;obtain ⟨s0,s1⟩:=hq;go_simp;try with_reducible rfl)
    refine RT.all (rs:=[10]) (by kernel_rfl) (by simp) ?_
    refine RT.All.cons rfl (fun K hK=>?_) RT.All.nil
    go_simp
    refine (HP.out _).mono ?_
    rintro e w9 ⟨rfl,hacc,hfr⟩
    have h9:RAt w9 rb s (i + 1):=RAt.fr (w:=w1.drewN _) H1.out hfr hrb
    have hfw:FrR rb B S w w9:=HF.out.trans ⟨hfr.os,hfr.tape,hfr.output,hfr.size,fun b hb ho=>hfr.block b hb (ho.imp (·.1) id)⟩
    refine hK _ _ (fun _=>⟨h9.c0,h9.c1⟩) ?_
    clear hK K
    refine RT.done (by kernel_rfl) ?_ _
    have g1:w9.cell? ⟨rb,1,none⟩ = some (.int .i64 ((i:Int) + 1)):=h9.c1
    have g2:=h9.f1
    have HX:=Lib.hid (And.intro (h9.set (i + 2)) (And.intro (hacc.setR hrb hS' 1 (.int .i64 ((i + 2:Nat):Int))) (hfw.set hS' 1 (.int .i64 ((i + 2:Nat):Int)))))
    clear hacc hfr h9 hfw hS
    go_wp2_with fail
    go_end0
    have he:((i:Int) + 1 + 1) = ((i + 2:Nat):Int):=by omega
    rw [he]
    exact ⟨⟨rfl,HX.out.1,HX.out.2.1⟩,HX.out.2.2⟩
   cases h96:seesB (restAt s (i + 1)) 96
   case true =>
    have hsr:slashR ec (restAt s (i + 1)) a = ((a.text [s[i + 1]] true),2):=by unfold slashR;rw [HB10.out,h34,h36,h92,h96];rw [HR.out];rfl
    rw [hsr]
    have q0:=HE0.out 10
    rw [HB10.out] at q0
    have Q0:=Lib.hid q0
    clear q0
    have q1:=fun n=>HE.out n 34
    rw [h34] at q1
    have Q1:=Lib.hid q1
    clear q1
    have q2:=fun n=>HE.out n 36
    rw [h36] at q2
    have Q2:=Lib.hid q2
    clear q2
    have q3:=fun n=>HE.out n 92
    rw [h92] at q3
    have Q3:=Lib.hid q3
    clear q3
    have q4:=fun n=>HE.out n 96
    rw [h96] at q4
    have Q4:=Lib.hid q4
    clear q4
    clear hsr h34 h36 h92 h96
    go_enter Tryz.func110,Tryz.ntmps110
    go_wp2_with fail
    rw [← HW1.out]
    refine (Q0.out).mono ?_
    rintro e w2 ⟨rfl,n0,rfl⟩
    go_wp2_with fail
    refine (Q1.out _).mono ?_
    rintro e w3 ⟨rfl,n1,rfl⟩
    go_wp2_with fail
    refine (Q2.out _).mono ?_
    rintro e w4 ⟨rfl,n2,rfl⟩
    go_wp2_with fail
    refine (Q3.out _).mono ?_
    rintro e w5 ⟨rfl,n3,rfl⟩
    go_wp2_with fail
    refine (Q4.out _).mono ?_
    rintro e w6 ⟨rfl,n4,rfl⟩
    go_wp2_with fail
    refine RT.begins (fun w'=>w'.cell? ⟨rb,0,none⟩ = some (.string s)∧w'.cell? ⟨rb,1,none⟩ = some (.int .i64 ((i:Int) + 1))) 11 (by kernel_rfl) ?_
    have hS0:∀ m,(w1.drewN m).cell? ⟨rb,0,none⟩ = some (.string s)∧(w1.drewN m).cell? ⟨rb,1,none⟩ = some (.int .i64 ((i:Int) + 1)):=fun m=>⟨d0,d1⟩
    have hS:(w1.drewN n4).drew.cell? ⟨rb,0,none⟩ = some (.string s)∧(w1.drewN n4).drew.cell? ⟨rb,1,none⟩ = some (.int .i64 ((i:Int) + 1)):=hS0 (n4 + 1)
    clear hS0
    refine RT.tk (i:=0) (v:=?_) rfl hS ?_ ?_
    rotate_left 1
    ·(intro wq hq;obtain ⟨s0,s1⟩:=hq;go_simp;try with_reducible rfl)
    refine RT.tk (i:=1) (v:=?_) rfl hS ?_ ?_
    rotate_left 1
    ·(intro wq hq;obtain ⟨s0,s1⟩:=hq;go_simp;try with_reducible rfl)
    refine RT.tk (i:=2) (v:=?_) rfl hS ?_ ?_
    rotate_left 1
    ·(intro wq hq;obtain ⟨s0,s1⟩:=hq;go_simp;try with_reducible rfl)
    refine RT.tk (i:=3) (v:=?_) rfl hS ?_ ?_
    rotate_left 1
    ·(intro wq hq;obtain ⟨s0,s1⟩:=hq;go_simp;try with_reducible rfl)
    refine RT.tk (i:=4) (v:=?_) rfl hS ?_ ?_
    rotate_left 1
    ·(intro wq hq;obtain ⟨s0,s1⟩:=hq;go_simp;try with_reducible rfl)
    refine RT.tk (i:=5) (v:=?_) rfl hS ?_ ?_
    rotate_left 1
    ·(intro wq hq;obtain ⟨s0,s1⟩:=hq;go_simp;try with_reducible rfl)
    refine RT.tk (i:=6) (v:=?_) rfl hS ?_ ?_
    rotate_left 1
    ·(intro wq hq;obtain ⟨s0,s1⟩:=hq;go_simp;try with_reducible rfl)
    refine RT.tk (i:=7) (v:=?_) rfl hS ?_ ?_
    rotate_left 1
    ·(intro wq hq;obtain ⟨s0,s1⟩:=hq;go_simp;try with_reducible rfl)
    refine RT.tk (i:=8) (v:=?_) rfl hS ?_ ?_
    rotate_left 1
    ·(intro wq hq;obtain ⟨s0,s1⟩:=hq;go_simp;try with_reducible rfl)
    refine RT.tk (i:=9) (v:=?_) rfl hS ?_ ?_
    rotate_left 1
    ·(intro wq hq;obtain ⟨s0,s1⟩:=hq;go_simp;try with_reducible rfl)
    refine RT.all (rs:=[10]) (by kernel_rfl) (by simp) ?_
    refine RT.All.cons rfl (fun K hK=>?_) RT.All.nil
    go_simp
    refine (HP.out _).mono ?_
    rintro e w9 ⟨rfl,hacc,hfr⟩
    have h9:RAt w9 rb s (i + 1):=RAt.fr (w:=w1.drewN _) H1.out hfr hrb
    have hfw:FrR rb B S w w9:=HF.out.trans ⟨hfr.os,hfr.tape,hfr.output,hfr.size,fun b hb ho=>hfr.block b hb (ho.imp (·.1) id)⟩
    refine hK _ _ (fun _=>⟨h9.c0,h9.c1⟩) ?_
    clear hK K
    refine RT.done (by kernel_rfl) ?_ _
    have g1:w9.cell? ⟨rb,1,none⟩ = some (.int .i64 ((i:Int) + 1)):=h9.c1
    have g2:=h9.f1
    have HX:=Lib.hid (And.intro (h9.set (i + 2)) (And.intro (hacc.setR hrb hS' 1 (.int .i64 ((i + 2:Nat):Int))) (hfw.set hS' 1 (.int .i64 ((i + 2:Nat):Int)))))
    clear hacc hfr h9 hfw hS
    go_wp2_with fail
    go_end0
    have he:((i:Int) + 1 + 1) = ((i + 2:Nat):Int):=by omega
    rw [he]
    exact ⟨⟨rfl,HX.out.1,HX.out.2.1⟩,HX.out.2.2⟩
   cases hec:seesB (restAt s (i + 1)) ec
   case true =>
    have hsr:slashR ec (restAt s (i + 1)) a = ((a.text [s[i + 1]] true),2):=by unfold slashR;rw [HB10.out,h34,h36,h92,h96,hec];rw [HR.out];rfl
    rw [hsr]
    have q0:=HE0.out 10
    rw [HB10.out] at q0
    have Q0:=Lib.hid q0
    clear q0
    have q1:=fun n=>HE.out n 34
    rw [h34] at q1
    have Q1:=Lib.hid q1
    clear q1
    have q2:=fun n=>HE.out n 36
    rw [h36] at q2
    have Q2:=Lib.hid q2
    clear q2
    have q3:=fun n=>HE.out n 92
    rw [h92] at q3
    have Q3:=Lib.hid q3
    clear q3
    have q4:=fun n=>HE.out n 96
    rw [h96] at q4
    have Q4:=Lib.hid q4
    clear q4
    have q5:=fun n=>HE.out n ec
    rw [hec] at q5
    have Q5:=Lib.hid q5
    clear q5
    clear hsr h34 h36 h92 h96 hec
    go_enter Tryz.func110,Tryz.ntmps110
    go_wp2_with fail
    rw [← HW1.out]
    refine (Q0.out).mono ?_
    rintro e w2 ⟨rfl,n0,rfl⟩
    go_wp2_with fail
    refine (Q1.out _).mono ?_
    rintro e w3 ⟨rfl,n1,rfl⟩
    go_wp2_with fail
    refine (Q2.out _).mono ?_
    rintro e w4 ⟨rfl,n2,rfl⟩
    go_wp2_with fail
    refine (Q3.out _).mono ?_
    rintro e w5 ⟨rfl,n3,rfl⟩
    go_wp2_with fail
    refine (Q4.out _).mono ?_
    rintro e w6 ⟨rfl,n4,rfl⟩
    go_wp2_with fail
    refine (Q5.out _).mono ?_
    rintro e w7 ⟨rfl,n5,rfl⟩
    go_wp2_with fail
    refine RT.begins (fun w'=>w'.cell? ⟨rb,0,none⟩ = some (.string s)∧w'.cell? ⟨rb,1,none⟩ = some (.int .i64 ((i:Int) + 1))) 11 (by kernel_rfl) ?_
    have hS0:∀ m,(w1.drewN m).cell? ⟨rb,0,none⟩ = some (.string s)∧(w1.drewN m).cell? ⟨rb,1,none⟩ = some (.int .i64 ((i:Int) + 1)):=fun m=>⟨d0,d1⟩
    have hS:(w1.drewN n5).drew.cell? ⟨rb,0,none⟩ = some (.string s)∧(w1.drewN n5).drew.cell? ⟨rb,1,none⟩ = some (.int .i64 ((i:Int) + 1)):=hS0 (n5 + 1)
    clear hS0
    refine RT.tk (i:=0) (v:=?_) rfl hS ?_ ?_
    rotate_left 1
    ·(intro wq hq;obtain ⟨s0,s1⟩:=hq;go_simp;try with_reducible rfl)
    refine RT.tk (i:=1) (v:=?_) rfl hS ?_ ?_
    rotate_left 1
    ·(intro wq hq;obtain ⟨s0,s1⟩:=hq;go_simp;try with_reducible rfl)
    refine RT.tk (i:=2) (v:=?_) rfl hS ?_ ?_
    rotate_left 1
    ·(intro wq hq;obtain ⟨s0,s1⟩:=hq;go_simp;try with_reducible rfl)
    refine RT.tk (i:=3) (v:=?_) rfl hS ?_ ?_
    rotate_left 1
    ·(intro wq hq;obtain ⟨s0,s1⟩:=hq;go_simp;try with_reducible rfl)
    refine RT.tk (i:=4) (v:=?_) rfl hS ?_ ?_
    rotate_left 1
    ·(intro wq hq;obtain ⟨s0,s1⟩:=hq;go_simp;try with_reducible rfl)
    refine RT.tk (i:=5) (v:=?_) rfl hS ?_ ?_
    rotate_left 1
    ·(intro wq hq;obtain ⟨s0,s1⟩:=hq;go_simp;try with_reducible rfl)
    refine RT.tk (i:=6) (v:=?_) rfl hS ?_ ?_
    rotate_left 1
    ·(intro wq hq;obtain ⟨s0,s1⟩:=hq;go_simp;try with_reducible rfl)
    refine RT.tk (i:=7) (v:=?_) rfl hS ?_ ?_
    rotate_left 1
    ·(intro wq hq;obtain ⟨s0,s1⟩:=hq;go_simp;try with_reducible rfl)
    refine RT.tk (i:=8) (v:=?_) rfl hS ?_ ?_
    rotate_left 1
    ·(intro wq hq;obtain ⟨s0,s1⟩:=hq;go_simp;try with_reducible rfl)
    refine RT.tk (i:=9) (v:=?_) rfl hS ?_ ?_
    rotate_left 1
    ·(intro wq hq;obtain ⟨s0,s1⟩:=hq;go_simp;try with_reducible rfl)
    refine RT.all (rs:=[10]) (by kernel_rfl) (by simp) ?_
    refine RT.All.cons rfl (fun K hK=>?_) RT.All.nil
    go_simp
    refine (HP.out _).mono ?_
    rintro e w9 ⟨rfl,hacc,hfr⟩
    have h9:RAt w9 rb s (i + 1):=RAt.fr (w:=w1.drewN _) H1.out hfr hrb
    have hfw:FrR rb B S w w9:=HF.out.trans ⟨hfr.os,hfr.tape,hfr.output,hfr.size,fun b hb ho=>hfr.block b hb (ho.imp (·.1) id)⟩
    refine hK _ _ (fun _=>⟨h9.c0,h9.c1⟩) ?_
    clear hK K
    refine RT.done (by kernel_rfl) ?_ _
    have g1:w9.cell? ⟨rb,1,none⟩ = some (.int .i64 ((i:Int) + 1)):=h9.c1
    have g2:=h9.f1
    have HX:=Lib.hid (And.intro (h9.set (i + 2)) (And.intro (hacc.setR hrb hS' 1 (.int .i64 ((i + 2:Nat):Int))) (hfw.set hS' 1 (.int .i64 ((i + 2:Nat):Int)))))
    clear hacc hfr h9 hfw hS
    go_wp2_with fail
    go_end0
    have he:((i:Int) + 1 + 1) = ((i + 2:Nat):Int):=by omega
    rw [he]
    exact ⟨⟨rfl,HX.out.1,HX.out.2.1⟩,HX.out.2.2⟩
   have hsr:slashR ec (restAt s (i + 1)) a = ((a.text [92] true),1):=by unfold slashR;rw [HB10.out,h34,h36,h92,h96,hec];rfl
   rw [hsr]
   have q0:=HE0.out 10
   rw [HB10.out] at q0
   have Q0:=Lib.hid q0
   clear q0
   have q1:=fun n=>HE.out n 34
   rw [h34] at q1
   have Q1:=Lib.hid q1
   clear q1
   have q2:=fun n=>HE.out n 36
   rw [h36] at q2
   have Q2:=Lib.hid q2
   clear q2
   have q3:=fun n=>HE.out n 92
   rw [h92] at q3
   have Q3:=Lib.hid q3
   clear q3
   have q4:=fun n=>HE.out n 96
   rw [h96] at q4
   have Q4:=Lib.hid q4
   clear q4
   have q5:=fun n=>HE.out n ec
   rw [hec] at q5
   have Q5:=Lib.hid q5
   clear q5
   clear hsr h34 h36 h92 h96 hec
   go_enter Tryz.func110,Tryz.ntmps110
   go_wp2_with fail
   rw [← HW1.out]
   refine (Q0.out).mono ?_
   rintro e w2 ⟨rfl,n0,rfl⟩
   go_wp2_with fail
   refine (Q1.out _).mono ?_
   rintro e w3 ⟨rfl,n1,rfl⟩
   go_wp2_with fail
   refine (Q2.out _).mono ?_
   rintro e w4 ⟨rfl,n2,rfl⟩
   go_wp2_with fail
   refine (Q3.out _).mono ?_
   rintro e w5 ⟨rfl,n3,rfl⟩
   go_wp2_with fail
   refine (Q4.out _).mono ?_
   rintro e w6 ⟨rfl,n4,rfl⟩
   go_wp2_with fail
   refine (Q5.out _).mono ?_
   rintro e w7 ⟨rfl,n5,rfl⟩
   go_wp2_with fail
   refine (HP92.out _).mono ?_
   rintro e w9 ⟨rfl,hacc,hfr⟩
   have h9:RAt w9 rb s (i + 1):=RAt.fr (w:=w1.drewN _) H1.out hfr hrb
   have hfw:FrR rb B S w w9:=HF.out.trans ⟨hfr.os,hfr.tape,hfr.output,hfr.size,fun b hb ho=>hfr.block b hb (ho.imp (·.1) id)⟩
   have HX:=Lib.hid (And.intro h9 (And.intro hacc hfw))
   clear hacc hfr h9 hfw
   go_wp2_with fail
   go_end0
   exact ⟨⟨rfl,HX.out.1,HX.out.2.1⟩,HX.out.2.2⟩
  ·have HB10:=Lib.hid hb10
   have hsr:slashR ec (restAt s (i + 1)) a = (a,2):=by unfold slashR;rw [HB10.out];rfl
   rw [hsr]
   have hE1:=HE0.out 10
   rw [HB10.out] at hE1
   have HE1:=Lib.hid hE1
   have HX:=Lib.hid (And.intro (H1.out.set (i + 2)) (And.intro (HA.out.setR hrb hS' 1 (.int .i64 ((i + 2:Nat):Int))) (HF.out.set hS' 1 (.int .i64 ((i + 2:Nat):Int)))))
   clear hsr hE1 hb10
   go_enter Tryz.func110,Tryz.ntmps110
   go_wp2_with fail
   rw [← HW1.out]
   refine (HE1.out).mono ?_
   rintro e w2 ⟨rfl,n,rfl⟩
   go_wp2_with fail
   go_end0
   have he:((i:Int) + 1 + 1) = ((i + 2:Nat):Int):=by omega
   rw [he]
   exact ⟨⟨rfl,HX.out.1,HX.out.2.1.heap rfl⟩,(HX.out.2.2).trans (FrR.drewN _ _ _ _ n)⟩
 ·have hR0:restAt s (i + 1) = []:=restAt_nil (by omega)
  have hE0:=fun c=>sees_drawn0 rb (i + 1) c s w1 h1' (by omega) hs
  have hE:=fun n c=>sees_drawn rb (i + 1) c s w1 h1' (by omega) hs n
  have hP92:=fun n=>put_any B S p a 92 true (w1.drewN n) (ha1.heap rfl) (by have:=a.sizes;omega) (by have:=a.sizes;omega) (fun x hx=>by have:=hSl x hx;show x < w1.heap.size;omega)
  have HE0:=Lib.hid hE0;have HE:=Lib.hid hE;have HW1:=Lib.hid hw1;have H1:=Lib.hid h1';have HA:=Lib.hid ha1;have HF:=Lib.hid hf1;have HP92:=Lib.hid hP92
  have HB10:Hid (seesB (restAt s (i + 1)) 10 = false):=Lib.hid (by rw [hR0];rfl)
  have h34:seesB (restAt s (i + 1)) 34 = false:=by rw [hR0];rfl
  have h36:seesB (restAt s (i + 1)) 36 = false:=by rw [hR0];rfl
  have h92:seesB (restAt s (i + 1)) 92 = false:=by rw [hR0];rfl
  have h96:seesB (restAt s (i + 1)) 96 = false:=by rw [hR0];rfl
  have hec:seesB (restAt s (i + 1)) ec = false:=by rw [hR0];rfl
  clear hE0 hE ha1 hf1 hs1 h1 h1' h ha hSl hw1 hR0 hP92
  have hsr:slashR ec (restAt s (i + 1)) a = ((a.text [92] true),1):=by unfold slashR;rw [HB10.out,h34,h36,h92,h96,hec];rfl
  rw [hsr]
  have q0:=HE0.out 10
  rw [HB10.out] at q0
  have Q0:=Lib.hid q0
  clear q0
  have q1:=fun n=>HE.out n 34
  rw [h34] at q1
  have Q1:=Lib.hid q1
  clear q1
  have q2:=fun n=>HE.out n 36
  rw [h36] at q2
  have Q2:=Lib.hid q2
  clear q2
  have q3:=fun n=>HE.out n 92
  rw [h92] at q3
  have Q3:=Lib.hid q3
  clear q3
  have q4:=fun n=>HE.out n 96
  rw [h96] at q4
  have Q4:=Lib.hid q4
  clear q4
  have q5:=fun n=>HE.out n ec
  rw [hec] at q5
  have Q5:=Lib.hid q5
  clear q5
  clear hsr h34 h36 h92 h96 hec
  go_enter Tryz.func110,Tryz.ntmps110
  go_wp2_with fail
  rw [← HW1.out]
  refine (Q0.out).mono ?_
  rintro e w2 ⟨rfl,n0,rfl⟩
  go_wp2_with fail
  refine (Q1.out _).mono ?_
  rintro e w3 ⟨rfl,n1,rfl⟩
  go_wp2_with fail
  refine (Q2.out _).mono ?_
  rintro e w4 ⟨rfl,n2,rfl⟩
  go_wp2_with fail
  refine (Q3.out _).mono ?_
  rintro e w5 ⟨rfl,n3,rfl⟩
  go_wp2_with fail
  refine (Q4.out _).mono ?_
  rintro e w6 ⟨rfl,n4,rfl⟩
  go_wp2_with fail
  refine (Q5.out _).mono ?_
  rintro e w7 ⟨rfl,n5,rfl⟩
  go_wp2_with fail
  refine (HP92.out _).mono ?_
  rintro e w9 ⟨rfl,hacc,hfr⟩
  have h9:RAt w9 rb s (i + 1):=RAt.fr (w:=w1.drewN _) H1.out hfr hrb
  have hfw:FrR rb B S w w9:=HF.out.trans ⟨hfr.os,hfr.tape,hfr.output,hfr.size,fun b hb ho=>hfr.block b hb (ho.imp (·.1) id)⟩
  have HX:=Lib.hid (And.intro h9 (And.intro hacc hfw))
  clear hacc hfr h9 hfw
  go_wp2_with fail
  go_end0
  exact ⟨⟨rfl,HX.out.1,HX.out.2.1⟩,HX.out.2.2⟩
end Lx
end Go.Proofs.YtoklgmbpgnimcaaGreatDoor
