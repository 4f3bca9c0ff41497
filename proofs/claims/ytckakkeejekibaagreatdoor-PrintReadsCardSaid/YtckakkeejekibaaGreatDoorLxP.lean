/- (*lex.reader).param, given what is read behind an operator. -/
import Derived.Test.YtckakkeejekibaaGreatDoorLxM
set_option maxHeartbeats 4000000
set_option maxRecDepth 100000
namespace Go.Proofs.YtckakkeejekibaaGreatDoor
open Go.RowKit Go.Sort
namespace Lx
open j6 Pt
abbrev pz:Obj:=.cells #[.int .i64 0,.bool false,.string ⟨#[]⟩,.string ⟨#[]⟩,.slice none 0 0] 75
theorem fV.pz {w:World} {rb i:Nat} {s:ByteArray} (h:fV w rb s i):fV (w.alloc pz) rb s i:=(((Below.refl w.heap.size w).alloc (Nat.le_refl _) _).block _ h.lt).trans h
theorem Jg (s:ByteArray):vI s 0:=by
 intro q d i rb w hR hi hf hd;omega
theorem Jh (s:ByteArray) (hs:s.size≤1000000) (q:Bool) (d i rb:Nat) (w:World) (hR:fV w rb s i) (hd:200 < d) (lT:d≤201) :
  Calls Tryz.prog 147 #[.pointer (some ⟨rb,0,none⟩),.bool q,.int .i64 d] w (Ml rb s q w (.bad i 2)):=by
 obtain rfl:d = 201:=by omega
 have c1:=hR.pz.c1;have HR:=kq hR;clear hR;go_enter Tryz.func147,Tryz.ntmps147;go_wp2_with fail;refine ⟨rfl,?_⟩;exact ⟨rfl,⟨_,HR.out.pz⟩,fI.oJ (Fr.of_below ((Below.refl w.heap.size w).alloc (Nat.le_refl _) _))⟩
def PZ (w:World) (b:Nat):Prop:=w.heap[b]? = some (.cells #[.int .i64 0,.bool false,.string ⟨#[]⟩,.string ⟨#[]⟩,.slice none 0 0] 75 (0,0))
theorem KO (w:World) (rb i:Nat) (s:ByteArray) (q:Bool) (hR:fV w rb s i) :
  fV (((w.alloc (.cells #[.int .i64 0,.bool false,.string ⟨#[]⟩,.string ⟨#[]⟩,.slice none 0 0] 75)).setCell ⟨rb,1,none⟩ (.int .i64 ((i:Int) + 1))).alloc (.cells #[.int .i64 2,.bool q,.string ⟨#[]⟩,.string ⟨#[]⟩,.slice none 0 0] 75)) rb s (i + 1) ∧
  PB (((w.alloc (.cells #[.int .i64 0,.bool false,.string ⟨#[]⟩,.string ⟨#[]⟩,.slice none 0 0] 75)).setCell ⟨rb,1,none⟩ (.int .i64 ((i:Int) + 1))).alloc (.cells #[.int .i64 2,.bool q,.string ⟨#[]⟩,.string ⟨#[]⟩,.slice none 0 0] 75)) (w.heap.size + 1) q ⟨#[]⟩ ⟨#[]⟩ (.slice none 0 0) ∧
  PZ (((w.alloc (.cells #[.int .i64 0,.bool false,.string ⟨#[]⟩,.string ⟨#[]⟩,.slice none 0 0] 75)).setCell ⟨rb,1,none⟩ (.int .i64 ((i:Int) + 1))).alloc (.cells #[.int .i64 2,.bool q,.string ⟨#[]⟩,.string ⟨#[]⟩,.slice none 0 0] 75)) w.heap.size ∧
  fI rb w.heap.size (fun _=>False) w (((w.alloc (.cells #[.int .i64 0,.bool false,.string ⟨#[]⟩,.string ⟨#[]⟩,.slice none 0 0] 75)).setCell ⟨rb,1,none⟩ (.int .i64 ((i:Int) + 1))).alloc (.cells #[.int .i64 2,.bool q,.string ⟨#[]⟩,.string ⟨#[]⟩,.slice none 0 0] 75)):=by
 have h1:fV ((w.alloc pz).setCell ⟨rb,1,none⟩ (.int .i64 ((i:Int) + 1))) rb s (i + 1):=by
  have h:=hR.pz.set (i + 1);rw [show ((i + 1:Nat):Int) = (i:Int) + 1 by omega] at h;exact h
 have f1:fI rb w.heap.size (fun _=>False) w ((w.alloc pz).setCell ⟨rb,1,none⟩ (.int .i64 ((i:Int) + 1))) :=
  (fI.oJ (Fr.of_below ((Below.refl w.heap.size w).alloc (Nat.le_refl _) _))).set (fun h=>h) _ _
 have bU:((w.alloc pz).setCell ⟨rb,1,none⟩ (.int .i64 ((i:Int) + 1))).heap.size = w.heap.size + 1:=by simp
 have hb:∀ o,Below ((w.alloc pz).setCell ⟨rb,1,none⟩ (.int .i64 ((i:Int) + 1))).heap.size ((w.alloc pz).setCell ⟨rb,1,none⟩ (.int .i64 ((i:Int) + 1))) (((w.alloc pz).setCell ⟨rb,1,none⟩ (.int .i64 ((i:Int) + 1))).alloc o):=fun o=>(Below.refl _ _).alloc (Nat.le_refl _) o;have aB:=hR.lt;have h:∀ (W:World) (o:Obj),(W.alloc o).heap[W.heap.size]? = some o:=fun W o=>by
  show (W.heap.push o)[W.heap.size]? = some o;exact Array.getElem?_push_size
 refine ⟨((hb _).block _ h1.lt).trans h1,?_,((hb _).block w.heap.size (by rw [bU];omega)).trans ((Below.heap_setCell _ _ _ _ (by show w.heap.size ≠ rb;omega)).trans (h w _)),f1.trans (fI.oJ (Fr.of_below ((hb _).mono (by rw [bU];omega))))⟩;have h2:=h ((w.alloc pz).setCell ⟨rb,1,none⟩ (.int .i64 ((i:Int) + 1))) (.cells #[.int .i64 2,.bool q,.string ⟨#[]⟩,.string ⟨#[]⟩,.slice none 0 0] 75);rw [bU] at h2;exact h2
theorem Bv (s:ByteArray) (hs:s.size≤1000000) (n:Nat) (Uu:Sd s n) (q:Bool) (d i rb:Nat) (w:World) (hR:fV w rb s i) (hi:i < s.size) (hf:s.size - i < n + 2) (hd:d≤200) (Mx:seesB (ag s (i + 1)) 123 = true) :
  Calls Tryz.prog 147 #[.pointer (some ⟨rb,0,none⟩),.bool q,.int .i64 d] w (Ml rb s q w (bracketF n s q d i)):=by
 have c1:=hR.pz.c1;have f1:=hR.pz.f1;have hdd:((d:Int) > 200) = False:=by simp;omega
 have WS:i + 2≤s.size:=by
  have h1:(ag s (i + 1)).length ≠ 0:=by
   intro h0;rw [List.length_eq_zero_iff] at h0;rw [h0] at Mx;simp [seesB] at Mx
  rw [aQ] at h1;omega
 have aB:=hR.lt;have aM:=KO w rb i s q hR;have hB:=fun W h1 h2=>Dq s hs n Uu q d i rb (w.heap.size + 1) W h1 WS hf hd h2 (by omega);have jb:=kq aM;have eG:=kq aB;clear hR aM aB;cases ho:bracketF n s q d i with
 | bad j err =>
  rw [ho] at hB;have HB:=kq hB;clear hB ho Uu;go_enter Tryz.func147,Tryz.ntmps147;go_wp2_with fail;have aM:=jb.out;generalize (((w.alloc (.cells #[.int .i64 0,.bool false,.string ⟨#[]⟩,.string ⟨#[]⟩,.slice none 0 0] 75)).setCell ⟨rb,1,none⟩ (.int .i64 ((i:Int) + 1))).alloc (.cells #[.int .i64 2,.bool q,.string ⟨#[]⟩,.string ⟨#[]⟩,.slice none 0 0] 75)) = W2 at aM ⊢
  obtain ⟨nR,lF,lM,tV⟩:=aM;clear c1 f1;have jc:=iL rb (i + 1) 123 s W2 nR (by omega) hs;rw [Mx] at jc;have v1:=nR.c1;have X7:=nR.f1;rw [show ((i + 1:Nat):Int) = (i:Int) + 1 by omega] at v1;have nU:=nR.set (i + 2);rw [show ((i + 2:Nat):Int) = (i:Int) + 1 + 1 by omega] at nU;have kT:PB (W2.setCell ⟨rb,1,none⟩ (.int .i64 ((i:Int) + 1 + 1))) (w.heap.size + 1) q ⟨#[]⟩ ⟨#[]⟩ (.slice none 0 0):=(Below.heap_setCell _ _ _ _ (by have:=eG.out;show w.heap.size + 1 ≠ rb;omega)).trans lF;have jK:fI rb w.heap.size (fun _=>False) w (W2.setCell ⟨rb,1,none⟩ (.int .i64 ((i:Int) + 1 + 1))):=tV.set (fun h=>h) _ _;have FY:PZ (W2.setCell ⟨rb,1,none⟩ (.int .i64 ((i:Int) + 1 + 1))) w.heap.size:=(Below.heap_setCell _ _ _ _ (by have:=eG.out;show w.heap.size ≠ rb;omega)).trans lM;have HS:=kq (And.intro nU (And.intro kT (And.intro FY jK)));have oO:=kq jc;clear nU kT jK FY nR lF lM tV jb jc;refine (oO.out).mono ?_;rintro e w6 ⟨rfl,n6,rfl⟩;go_wp2_with fail;refine (HB.out ((W2.drewN n6).setCell ⟨rb,1,none⟩ (.int .i64 ((i:Int) + 1 + 1))) HS.out.1 HS.out.2.1).mono ?_;rintro e w7 ⟨rfl,hj,KP⟩;have HX:=kq (And.intro hj KP);clear hj KP;go_wp2_with fail;refine ⟨rfl,rfl,HX.out.1,?_⟩;refine HS.out.2.2.2.trans ?_;have hx:=HX.out.2;exact ⟨hx.os,hx.tape,hx.output,hx.size,fun b hb ho=>hx.block b hb (ho.imp (fun h=>⟨by omega,h.2⟩) id)⟩
 | ok p j =>
  rw [ho] at hB;have HB:=kq hB;clear hB ho Uu;go_enter Tryz.func147,Tryz.ntmps147;go_wp2_with fail;have aM:=jb.out;generalize (((w.alloc (.cells #[.int .i64 0,.bool false,.string ⟨#[]⟩,.string ⟨#[]⟩,.slice none 0 0] 75)).setCell ⟨rb,1,none⟩ (.int .i64 ((i:Int) + 1))).alloc (.cells #[.int .i64 2,.bool q,.string ⟨#[]⟩,.string ⟨#[]⟩,.slice none 0 0] 75)) = W2 at aM ⊢
  obtain ⟨nR,lF,lM,tV⟩:=aM;clear c1 f1;have jc:=iL rb (i + 1) 123 s W2 nR (by omega) hs;rw [Mx] at jc;have v1:=nR.c1;have X7:=nR.f1;rw [show ((i + 1:Nat):Int) = (i:Int) + 1 by omega] at v1;have nU:=nR.set (i + 2);rw [show ((i + 2:Nat):Int) = (i:Int) + 1 + 1 by omega] at nU;have kT:PB (W2.setCell ⟨rb,1,none⟩ (.int .i64 ((i:Int) + 1 + 1))) (w.heap.size + 1) q ⟨#[]⟩ ⟨#[]⟩ (.slice none 0 0):=(Below.heap_setCell _ _ _ _ (by have:=eG.out;show w.heap.size + 1 ≠ rb;omega)).trans lF;have jK:fI rb w.heap.size (fun _=>False) w (W2.setCell ⟨rb,1,none⟩ (.int .i64 ((i:Int) + 1 + 1))):=tV.set (fun h=>h) _ _;have FY:PZ (W2.setCell ⟨rb,1,none⟩ (.int .i64 ((i:Int) + 1 + 1))) w.heap.size:=(Below.heap_setCell _ _ _ _ (by have:=eG.out;show w.heap.size ≠ rb;omega)).trans lM;have HS:=kq (And.intro nU (And.intro kT (And.intro FY jK)));have oO:=kq jc;clear nU kT jK FY nR lF lM tV jb jc;refine (oO.out).mono ?_;rintro e w6 ⟨rfl,n6,rfl⟩;go_wp2_with fail;refine (HB.out ((W2.drewN n6).setCell ⟨rb,1,none⟩ (.int .i64 ((i:Int) + 1 + 1))) HS.out.1 HS.out.2.1).mono ?_;rintro e w7 ⟨⟨t,op,f,a,cap,rfl,rfl,ht,Us,WT,hl7⟩,WU,KP⟩;have k0:=dx WT;have k1:=dA WT;have k2:=ed WT;have k3:=fA WT;have k4:=dS WT;have Ip:PZ w7 w.heap.size:=(KP.block w.heap.size (Array.getElem?_eq_some_iff.1 HS.out.2.2.1).1 (.inl ⟨by omega,by have:=eG.out;omega⟩)).trans HS.out.2.2.1;have z0:=dx Ip;have z1:=dA Ip;have z2:=ed Ip;have z3:=fA Ip;have z4:=dS Ip;have y0:=zf 0 Ip;have y1:=zf 1 Ip;have y2:=zf 2 Ip;have y3:=zf 3 Ip;have y4:=zf 4 Ip;have HX:=kq (And.intro hl7 (And.intro WU (And.intro Ip KP)));clear hl7 WU KP WT Ip;go_wp2_with fail;obtain ⟨hl7,WU,Ip,KP⟩:=HX.out;have aB:=eG.out;have zx:∀ b,b ≠ w.heap.size→(((((w7.setCell ⟨w.heap.size,0,none⟩ (.int .i64 2)).setCell ⟨w.heap.size,1,none⟩ (.bool q)).setCell ⟨w.heap.size,2,none⟩ (.string t)).setCell ⟨w.heap.size,3,none⟩ (.string op)).setCell ⟨w.heap.size,4,none⟩ (.slice a f.len cap)).heap[b]? = w7.heap[b]?:=fun b hb =>
   (Below.heap_setCell _ _ _ _ hb).trans <| (Below.heap_setCell _ _ _ _ hb).trans <| (Below.heap_setCell _ _ _ _ hb).trans <| (Below.heap_setCell _ _ _ _ hb).trans <| Below.heap_setCell _ _ _ _ hb
  have au:PB (((((w7.setCell ⟨w.heap.size,0,none⟩ (.int .i64 2)).setCell ⟨w.heap.size,1,none⟩ (.bool q)).setCell ⟨w.heap.size,2,none⟩ (.string t)).setCell ⟨w.heap.size,3,none⟩ (.string op)).setCell ⟨w.heap.size,4,none⟩ (.slice a f.len cap)) w.heap.size q t op (.slice a f.len cap) :=
   heap_setCell_same _ _ 4 _ _ (.slice a f.len cap) (heap_setCell_same _ _ 3 _ _ (.string op) (heap_setCell_same _ _ 2 _ _ (.string t) (heap_setCell_same _ _ 1 _ _ (.bool q) (heap_setCell_same _ _ 0 _ _ (.int .i64 2) Ip))))
  have bi:fI rb w.heap.size (fun _=>False) w (((((w7.setCell ⟨w.heap.size,0,none⟩ (.int .i64 2)).setCell ⟨w.heap.size,1,none⟩ (.bool q)).setCell ⟨w.heap.size,2,none⟩ (.string t)).setCell ⟨w.heap.size,3,none⟩ (.string op)).setCell ⟨w.heap.size,4,none⟩ (.slice a f.len cap)) :=
   HS.out.2.2.2.trans ⟨KP.os,KP.tape,KP.output,by simpa using KP.size,fun b hb ho=>by
    rcases ho with ho | ho
    ·exact (zx b (by omega)).trans (KP.block b hb (.inl ⟨by omega,ho.2⟩))
    ·exact ho.elim⟩
  have Pg:fV (((((w7.setCell ⟨w.heap.size,0,none⟩ (.int .i64 2)).setCell ⟨w.heap.size,1,none⟩ (.bool q)).setCell ⟨w.heap.size,2,none⟩ (.string t)).setCell ⟨w.heap.size,3,none⟩ (.string op)).setCell ⟨w.heap.size,4,none⟩ (.slice a f.len cap)) rb s j:=(zx rb (by omega)).trans WU;have hW2:w.heap.size < W2.heap.size:=by
   have h:=(Array.getElem?_eq_some_iff.1 HS.out.2.2.1).1;simpa using h
  have Mr:cu (fun b=>w.heap.size≤b) (((((w7.setCell ⟨w.heap.size,0,none⟩ (.int .i64 2)).setCell ⟨w.heap.size,1,none⟩ (.bool q)).setCell ⟨w.heap.size,2,none⟩ (.string t)).setCell ⟨w.heap.size,3,none⟩ (.string op)).setCell ⟨w.heap.size,4,none⟩ (.slice a f.len cap)) a cap f :=
   (hl7.keep (by simp) fun b hb _=>zx b (by simp at hb;omega)).mono (fun b hb _=>by simp at hb;omega)
  generalize (((((w7.setCell ⟨w.heap.size,0,none⟩ (.int .i64 2)).setCell ⟨w.heap.size,1,none⟩ (.bool q)).setCell ⟨w.heap.size,2,none⟩ (.string t)).setCell ⟨w.heap.size,3,none⟩ (.string op)).setCell ⟨w.heap.size,4,none⟩ (.slice a f.len cap)) = WE at au bi Pg Mr ⊢
  have x0:=dx au;have x1:=dA au;have x2:=ed au;have x3:=fA au;have x4:=dS au;refine bodyPost_ret (v:=pv 2 q t op a f.len cap) (by simp [results,Tryz.results147,go_sem,x0,x1,x2,x3,x4,pv]) rfl ?_;exact ⟨⟨t,op,f,a,cap,rfl,rfl,ht,Us,Mr⟩,Pg,bi⟩
def Ji (s:ByteArray) (q:Bool) (i:Nat):Out :=
 if aL (ag s (i + 1)) 1 = 0 then .bad i 1
 else .ok (one 2 q (s.extract (i + 1) (i + 1 + aL (ag s (i + 1)) 1)) ⟨#[]⟩ .nil) (i + 1 + aL (ag s (i + 1)) 1)
theorem FZ {prog:Program} {f:FuncId} {args:Array Value} {w w0:World} {rb:Nat} {s:ByteArray} {q:Bool} (o:Out) (h:∀ o',o' = o→Calls prog f args w (Ml rb s q w0 o')):Calls prog f args w (Ml rb s q w0 o):=h o rfl
theorem F3 (s:ByteArray) (hs:s.size≤1000000) (q:Bool) (d i rb:Nat) (w:World) (hR:fV w rb s i) (hi:i < s.size) (hd:d≤200) (Mx:seesB (ag s (i + 1)) 123 = false) :
  Calls Tryz.prog 147 #[.pointer (some ⟨rb,0,none⟩),.bool q,.int .i64 d] w (Ml rb s q w (Ji s q i)):=by
 have k1:=hR.pz.c1;have f1:=hR.pz.f1;have hdd:((d:Int) > 200) = False:=by simp;omega
 unfold Ji;have aM:=KO w rb i s q hR;have aB:=hR.lt;clear hR;have KQ:=fun W2 (nR:fV W2 rb s (i + 1))=>iL rb (i + 1) 123 s W2 nR (by omega) hs;rw [Mx] at KQ;obtain ⟨j0,hj0⟩:∃ j0,j0 = i + 1:=⟨_,rfl⟩;rw [← hj0] at aM KQ ⊢
 have hn:=kE (ag s j0) 1;rw [aQ] at hn;have hT:=fun w=>xN (s.extract j0 s.size) 1 w (by simp [ByteArray.size_extract];omega) (by omega);rw [iJ] at hT;generalize aL (ag s j0) 1 = T at hn hT ⊢
 obtain ⟨j1,hj1⟩:∃ j1,j1 = j0 + T:=⟨_,rfl⟩;rw [← hj1];have a0:(0:Int)≤(j0:Int):=by omega
 have a1:(j0:Int)≤(s.size:Int):=by omega
 have q1:j1≤s.size:=by omega
 -- the world on the way: the reader at j1,the name laid
 have step:∀ (w0 w1:World) (m:Nat) (t:ByteArray),fV w0 rb s j0→PB w0 (w.heap.size + 1) q ⟨#[]⟩ ⟨#[]⟩ (.slice none 0 0)→PZ w0 w.heap.size→fI rb w.heap.size (fun _=>False) w w0→Below w0.heap.size w0 w1 →
   fV (((w1.setCell ⟨rb,1,none⟩ (.int .i64 (j1:Int))).drewN m).setCell ⟨w.heap.size + 1,2,none⟩ (.string t)) rb s j1∧PB (((w1.setCell ⟨rb,1,none⟩ (.int .i64 (j1:Int))).drewN m).setCell ⟨w.heap.size + 1,2,none⟩ (.string t)) (w.heap.size + 1) q t ⟨#[]⟩ (.slice none 0 0)∧PZ (((w1.setCell ⟨rb,1,none⟩ (.int .i64 (j1:Int))).drewN m).setCell ⟨w.heap.size + 1,2,none⟩ (.string t)) w.heap.size∧fI rb w.heap.size (fun _=>False) w (((w1.setCell ⟨rb,1,none⟩ (.int .i64 (j1:Int))).drewN m).setCell ⟨w.heap.size + 1,2,none⟩ (.string t))∧((w1.setCell ⟨rb,1,none⟩ (.int .i64 (j1:Int))).drewN m).cell? ⟨w.heap.size + 1,2,none⟩ = some (.string ⟨#[]⟩)∧((w1.setCell ⟨rb,1,none⟩ (.int .i64 (j1:Int))).drewN m).frozen? ⟨w.heap.size + 1,2,none⟩ = false:=by
  intro w0 w1 m t hr hp hz hf hb;have uW:fV w1 rb s j0:=(hb.block _ hr.lt).trans hr;have ny:PB w1 (w.heap.size + 1) q ⟨#[]⟩ ⟨#[]⟩ (.slice none 0 0):=(hb.block _ (Array.getElem?_eq_some_iff.1 hp).1).trans hp;have kQ:PZ w1 w.heap.size:=(hb.block _ (Array.getElem?_eq_some_iff.1 hz).1).trans hz;have nR:=uW.set j1;have lF:PB (w1.setCell ⟨rb,1,none⟩ (.int .i64 (j1:Int))) (w.heap.size + 1) q ⟨#[]⟩ ⟨#[]⟩ (.slice none 0 0):=(Below.heap_setCell _ _ _ _ (by show w.heap.size + 1 ≠ rb;omega)).trans ny;have lM:PZ (w1.setCell ⟨rb,1,none⟩ (.int .i64 (j1:Int))) w.heap.size:=(Below.heap_setCell _ _ _ _ (by show w.heap.size ≠ rb;omega)).trans kQ;refine ⟨(Below.heap_setCell _ _ _ _ (by show rb ≠ w.heap.size + 1;omega)).trans nR,heap_setCell_same _ _ 2 _ _ (.string t) lF,(Below.heap_setCell _ _ _ _ (by show w.heap.size ≠ w.heap.size + 1;omega)).trans lM,?_,kz lF 2,frozen_of_row _ _ _ _ _ lF⟩;refine (((hf.trans (fI.oJ (Fr.of_below hb))).set (fun h=>h) 1 (.int .i64 (j1:Int))).trans (fI.drewN _ _ _ _ m)).trans ⟨rfl,rfl,rfl,by simp [World.setCell],fun b _ ho=>Below.heap_setCell _ _ _ _ ?_⟩;show b ≠ w.heap.size + 1;rcases ho with ho | ho
  ·omega
  ·exact ho.elim
 have Mm:(s.extract j0 j1).size = T:=by simp [ByteArray.size_extract];omega
 have jb:=kq aM;have eG:=kq aB;have HT:=kq hT;have abC:=kq step;have HJ0:=kq hj0;have Uv:=kq hj1;have WV:=kq Mm;have X9:=kq KQ;clear aM aB hT step hj1 Mm KQ;refine FZ _ fun Er X3=>?_;have nT:=kq X3;clear X3;go_enter Tryz.func147,Tryz.ntmps147;go_wp2_with fail;have aM:=jb.out;generalize (((w.alloc (.cells #[.int .i64 0,.bool false,.string ⟨#[]⟩,.string ⟨#[]⟩,.slice none 0 0] 75)).setCell ⟨rb,1,none⟩ (.int .i64 ((i:Int) + 1))).alloc (.cells #[.int .i64 2,.bool q,.string ⟨#[]⟩,.string ⟨#[]⟩,.slice none 0 0] 75)) = W2 at aM ⊢
 obtain ⟨nR,lF,lM,tV⟩:=aM;have VA:=nR.lt;have c0:=nR.c0;have c1:=nR.c1;have oO:=kq (X9.out W2 nR);have KL:=kq nR;have VD:=kq lF;have lD:=kq lM;have Rm:=kq tV;clear nR lF lM tV jb k1 f1 hj0;refine (oO.out).mono ?_;rintro e w6 ⟨rfl,n6,rfl⟩;go_wp2_with fail;refine RN.begins (fun w'=>w'.cell? ⟨rb,0,none⟩ = some (.string s)∧w'.cell? ⟨rb,1,none⟩ = some (.int .i64 (j0:Int))) [11,12,13] (by kernel_rfl) ?_;have hS:(W2.drewN n6).drew.cell? ⟨rb,0,none⟩ = some (.string s)∧(W2.drewN n6).drew.cell? ⟨rb,1,none⟩ = some (.int .i64 (j0:Int)):=⟨c0,c1⟩;refine RN.tk (i:=0) rfl hS (by intro wq hq;obtain ⟨s0,s1⟩:=hq;go_simp;try with_reducible rfl) ?_;refine RN.tk (i:=1) rfl hS (by intro wq hq;obtain ⟨s0,s1⟩:=hq;go_simp;try with_reducible rfl) ?_;refine RN.tk (i:=2) rfl hS (by intro wq hq;obtain ⟨s0,s1⟩:=hq;go_simp;try with_reducible rfl) ?_;refine RN.tk (i:=3) rfl hS (by intro wq hq;obtain ⟨s0,s1⟩:=hq;go_simp;try with_reducible rfl) ?_;refine RN.tk (i:=4) rfl hS (by intro wq hq;obtain ⟨s0,s1⟩:=hq;go_simp;try with_reducible rfl) ?_;refine RN.tk (i:=5) rfl hS (by intro wq hq;obtain ⟨s0,s1⟩:=hq;go_simp;try with_reducible rfl) ?_;refine RN.tk (i:=6) rfl hS (by intro wq hq;obtain ⟨s0,s1⟩:=hq;go_simp;try with_reducible rfl) ?_;refine RN.tk (i:=7) rfl hS (by intro wq hq;obtain ⟨s0,s1⟩:=hq;go_simp;try with_reducible rfl) ?_;refine RN.tk (i:=8) rfl hS (by intro wq hq;obtain ⟨s0,s1⟩:=hq;go_simp;try with_reducible rfl) ?_;refine RN.tk (i:=9) rfl hS (by intro wq hq;obtain ⟨s0,s1⟩:=hq;go_simp;try with_reducible rfl) ?_;refine RN.one 10 rfl fun K hK=>?_;go_simp;refine (HT.out _).mono ?_;rintro e w1 ⟨rfl,aP⟩;have uW:fV w1 rb s j0:=(aP.block _ VA).trans KL.out;refine hK _ _ (fun _=>⟨uW.c0,uW.c1⟩) ?_;clear hK K;refine RN.one 11 rfl fun K hK=>?_;go_simp;refine (rZ rb j0 T s w1 uW (by have:=Uv.out;omega) hs).mono ?_;rintro e w2 ⟨rfl,m1,rfl⟩;rw [← Uv.out];refine hK _ _ (fun h=>absurd h (by decide)) ?_;clear hK K;refine RN.nN (i:=12) (v:=?_) rfl (by decide) (by kernel_rfl) (by kernel_rfl) (by kernel_rfl) (by kernel_rfl) (by first | exact fun _ _ _ h=>h | exact fun _ _ _ h=>(by cases h.1) | exact fun _ _ _ h=>bE (by decide) h) (.inl ⟨by rfl,?_⟩) ?_;rotate_left 1
 ·(intro wq _;go_simp;try with_reducible rfl)
 have O7:Below W2.heap.size W2 w1:=⟨aP.os,aP.tape,aP.output,aP.size,aP.block⟩;have yC:=abC.out W2 w1 m1 (s.extract j0 j1) KL.out VD.out lD.out Rm.out O7;have k2:=yC.2.2.2.2.1;have k2f:=yC.2.2.2.2.2;have X4:=kq yC;clear yC aP uW hS O7;refine RN.one 13 rfl fun K hK=>?_;go_simp;refine hK _ _ (fun h=>absurd h (by decide)) ?_;clear hK K;refine RN.done (by kernel_rfl) ?_ _;have yC:=X4.out;generalize (((w1.setCell ⟨rb,1,none⟩ (.int .i64 (j1:Int))).drewN m1).setCell ⟨w.heap.size + 1,2,none⟩ (.string (s.extract j0 j1))) = W1 at yC ⊢
 obtain ⟨uW,ny,kQ,jT,_,_⟩:=yC;have u0:=dx ny;have u1:=dA ny;have u2:=ed ny;have u3:=fA ny;have u4:=dS ny;have HX:=kq (And.intro uW (And.intro kQ jT));clear X4 k2 k2f uW c0 c1 a0 a1 ny jT
 by_cases Ya:T = 0
 ·have qO:(s.extract j0 j1).toList.isEmpty = true:=by
   have h0:=WV.out;rw [Ya] at h0;rw [Lib.toList_data];have:(s.extract j0 j1).data.toList.length = 0:=h0;rw [List.length_eq_zero_iff.1 this];rfl
  have Ph:=kq Ya;clear kQ Ya;go_wp2_with fail;refine (cZ _ _).mono ?_;rintro e w9 ⟨rfl,rfl⟩;go_wp2_with fail;have hO:Er = .bad i 1:=by rw [nT.out,if_pos Ph.out]
  rw [hO];exact ⟨rfl,rfl,⟨_,HX.out.1⟩,HX.out.2.2⟩
 ·have qO:(s.extract j0 j1).toList.isEmpty = false:=by
   have h0:=WV.out;rw [Lib.toList_data];have h1:(s.extract j0 j1).data.toList.length = T:=h0;cases h2:(s.extract j0 j1).data.toList with
   | nil=>rw [h2] at h1;simp at h1;omega
   | cons=>rfl
  have Ph:=kq Ya;have hO:Er = .ok (one 2 q (s.extract j0 j1) ⟨#[]⟩ .nil) j1:=by rw [nT.out,if_neg Ph.out]
  have HO:=kq hO;have Yb:(s.extract j0 j1).size≤s.size:=by have:=WV.out;have:=Uv.out;omega
  have Yc:=kq Yb;clear Ya hO Yb;generalize s.extract j0 j1 = t at qO u2 Yc HO ⊢
  have z0:=dx kQ;have z1:=dA kQ;have z2:=ed kQ;have z3:=fA kQ;have z4:=dS kQ;have y0:=zf 0 kQ;have y1:=zf 1 kQ;have y2:=zf 2 kQ;have y3:=zf 3 kQ;have y4:=zf 4 kQ;clear kQ;go_wp2_with fail;obtain ⟨WU,Ip,KP⟩:=HX.out;have aB:=eG.out;have zx:∀ b,b ≠ w.heap.size→(((((W1.setCell ⟨w.heap.size,0,none⟩ (.int .i64 2)).setCell ⟨w.heap.size,1,none⟩ (.bool q)).setCell ⟨w.heap.size,2,none⟩ (.string t)).setCell ⟨w.heap.size,3,none⟩ (.string ⟨#[]⟩)).setCell ⟨w.heap.size,4,none⟩ (.slice none 0 0)).heap[b]? = W1.heap[b]?:=fun b hb =>
   (Below.heap_setCell _ _ _ _ hb).trans <| (Below.heap_setCell _ _ _ _ hb).trans <| (Below.heap_setCell _ _ _ _ hb).trans <| (Below.heap_setCell _ _ _ _ hb).trans <| Below.heap_setCell _ _ _ _ hb
  have au:PB (((((W1.setCell ⟨w.heap.size,0,none⟩ (.int .i64 2)).setCell ⟨w.heap.size,1,none⟩ (.bool q)).setCell ⟨w.heap.size,2,none⟩ (.string t)).setCell ⟨w.heap.size,3,none⟩ (.string ⟨#[]⟩)).setCell ⟨w.heap.size,4,none⟩ (.slice none 0 0)) w.heap.size q t ⟨#[]⟩ (.slice none 0 0) :=
   heap_setCell_same _ _ 4 _ _ (.slice none 0 0) (heap_setCell_same _ _ 3 _ _ (.string ⟨#[]⟩) (heap_setCell_same _ _ 2 _ _ (.string t) (heap_setCell_same _ _ 1 _ _ (.bool q) (heap_setCell_same _ _ 0 _ _ (.int .i64 2) Ip))))
  have bi:fI rb w.heap.size (fun _=>False) w (((((W1.setCell ⟨w.heap.size,0,none⟩ (.int .i64 2)).setCell ⟨w.heap.size,1,none⟩ (.bool q)).setCell ⟨w.heap.size,2,none⟩ (.string t)).setCell ⟨w.heap.size,3,none⟩ (.string ⟨#[]⟩)).setCell ⟨w.heap.size,4,none⟩ (.slice none 0 0)) :=
   KP.trans ⟨rfl,rfl,rfl,by simp,fun b hb ho=>by
    rcases ho with ho | ho
    ·exact zx b (by omega)
    ·exact ho.elim⟩
  have Pg:fV (((((W1.setCell ⟨w.heap.size,0,none⟩ (.int .i64 2)).setCell ⟨w.heap.size,1,none⟩ (.bool q)).setCell ⟨w.heap.size,2,none⟩ (.string t)).setCell ⟨w.heap.size,3,none⟩ (.string ⟨#[]⟩)).setCell ⟨w.heap.size,4,none⟩ (.slice none 0 0)) rb s j1:=(zx rb (by omega)).trans WU;generalize (((((W1.setCell ⟨w.heap.size,0,none⟩ (.int .i64 2)).setCell ⟨w.heap.size,1,none⟩ (.bool q)).setCell ⟨w.heap.size,2,none⟩ (.string t)).setCell ⟨w.heap.size,3,none⟩ (.string ⟨#[]⟩)).setCell ⟨w.heap.size,4,none⟩ (.slice none 0 0)) = WE at au bi Pg ⊢
  have x0:=dx au;have x1:=dA au;have x2:=ed au;have x3:=fA au;have x4:=dS au;refine bodyPost_ret (v:=pv 2 q t ⟨#[]⟩ none 0 0) (by simp [results,Tryz.results147,go_sem,x0,x1,x2,x3,x4,pv]) rfl ?_;rw [HO.out];exact ⟨⟨t,⟨#[]⟩,.nil,none,0,rfl,rfl,Yc.out,Nat.zero_le _,(fun _ _ _=>⟨Nat.le_refl _,Nat.zero_le _,.inl rfl⟩)⟩,Pg,bi⟩
theorem F4 (n:Nat) (s:ByteArray) (q:Bool) (d i:Nat) :
  paramF (n + 1) s q d i = if 200 < d then .bad i 2 else if seesB (ag s (i + 1)) 123 then bracketF n s q d i else Ji s q i:=by
 rw [paramF];rfl
theorem Jj (s:ByteArray) (hs:s.size≤1000000) (n:Nat) (Uu:Sd s n):vI s (n + 1):=by
 intro q d i rb w hR hi hf hd;rw [F4]
 by_cases lT:200 < d
 ·rw [if_pos lT];exact Jh s hs q d i rb w hR lT hd
 ·rw [if_neg lT];cases h:seesB (ag s (i + 1)) 123 with
  | true =>
   rw [if_pos rfl];exact Bv s hs n Uu q d i rb w hR hi (by omega) (by omega) h
  | false =>
   rw [if_neg (by decide)];exact F3 s hs q d i rb w hR hi (by omega) h
theorem Jk (s:ByteArray) (hs:s.size≤1000000):∀ n,vI s n∧si s n∧zt s n∧vJ s n:=by
 intro n
 induction n using Nat.strongRecOn with
 | ind n ih =>
  have hM:si s n:=FT s hs n fun m hm=>(ih m hm).1;have hD:vJ s n:=FV s hs n hM;have hB:zt s n:=Ms s hs n (fun m hm=>(ih m hm).1) fun m hm=>(ih m hm).2.2.2;refine ⟨?_,hM,hB,hD⟩;cases n with
  | zero=>exact Jg s
  | succ k=>exact Jj s hs k (Si s k (ih k (Nat.lt_succ_self k)).2.1 (ih k (Nat.lt_succ_self k)).2.2.1)
theorem vw (s:ByteArray) (hs:s.size≤1000000):zt s (s.size + 1):=(Jk s hs (s.size + 1)).2.2.1
end Lx
end Go.Proofs.YtckakkeejekibaaGreatDoor
