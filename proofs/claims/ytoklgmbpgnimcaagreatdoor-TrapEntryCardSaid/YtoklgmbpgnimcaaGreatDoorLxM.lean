/- (*lex.reader).of, bracket: given what is read in double marks, and not. -/
import Derived.Test.YtoklgmbpgnimcaaGreatDoorLxL
import Derived.Test.YtoklgmbpgnimcaaGreatDoorRegN
namespace Go.Proofs.YtoklgmbpgnimcaaGreatDoor
open Go.RowKit Go.Sort
namespace Lx
open Cls Pt
def ofF (n:Nat) (s:ByteArray) (q:Bool) (d i:Nat):Out:=if q then markedF n s 125 d A0 i else bareF n s d A0 i
def OfAt (s:ByteArray) (m:Nat):Prop:=∀ (q:Bool) (d i rb:Nat) (w:World),RAt w rb s i→i≤s.size→s.size - i < m→d≤200 →
 Calls Tryz.prog 115 #[.pointer (some ⟨rb,0,none⟩),.bool q,.int .i64 d] w (GotL rb s w (ofF m s q d i))
set_option maxHeartbeats 400000 in
theorem of_step (s:ByteArray) (n:Nat) (IHM:MarkedAt s n) (IHB:BareAt s n):OfAt s n:=by
 intro q d i rb w hR hi hf hd
 have hM:=IHM 125 d i rb w hR hi hf hd
 have hB:=IHB d i rb w hR hi hf hd
 unfold ofF
 cases q with
 | true =>
  simp only [if_true]
  cases ho:markedF n s 125 d A0 i with
  | bad j err =>
   rw [ho] at hM
   have HM:=Lib.hid hM
   clear hM hB ho hR
   go_enter Tryz.func115,Tryz.ntmps115
   go_wp2_with fail
   refine (HM.out).mono ?_
   rintro e w1 ⟨rfl,hx⟩
   have HX:=Lib.hid hx
   clear hx
   go_wp2_with fail
   exact ⟨rfl,rfl,HX.out⟩
  | ok l j =>
   rw [ho] at hM
   have HM:=Lib.hid hM
   clear hM hB ho hR
   go_enter Tryz.func115,Tryz.ntmps115
   go_wp2_with fail
   refine (HM.out).mono ?_
   rintro e w1 ⟨⟨a,cap,rfl,hl⟩,hx⟩
   have HX:=Lib.hid hx;have HL:=Lib.hid hl
   clear hx hl
   go_wp2_with fail
   go_ret
   exact ⟨⟨a,cap,rfl,HL.out⟩,HX.out⟩
 | false =>
  simp only [Bool.false_eq_true,if_false]
  cases ho:bareF n s d A0 i with
  | bad j err =>
   rw [ho] at hB
   have HM:=Lib.hid hB
   clear hM hB ho hR
   go_enter Tryz.func115,Tryz.ntmps115
   go_wp2_with fail
   refine (HM.out).mono ?_
   rintro e w1 ⟨rfl,hx⟩
   have HX:=Lib.hid hx
   clear hx
   go_wp2_with fail
   exact ⟨rfl,rfl,HX.out⟩
  | ok l j =>
   rw [ho] at hB
   have HM:=Lib.hid hB
   clear hM hB ho hR
   go_enter Tryz.func115,Tryz.ntmps115
   go_wp2_with fail
   refine (HM.out).mono ?_
   rintro e w1 ⟨⟨a,cap,rfl,hl⟩,hx⟩
   have HX:=Lib.hid hx;have HL:=Lib.hid hl
   clear hx hl
   go_wp2_with fail
   go_ret
   exact ⟨⟨a,cap,rfl,HL.out⟩,HX.out⟩
def PB (w:World) (pb:Nat) (q:Bool) (t op:ByteArray) (v:Value):Prop:=w.heap[pb]? = some (.cells #[.int .i64 2,.bool q,.string t,.string op,v] 125 (0,0))
def bracketF (n:Nat) (s:ByteArray) (q:Bool) (d i:Nat):Out :=
 if !paramL ((restAt s (i + 2)).take (nameLen (restAt s (i + 2)) s.size)) || (sufEq ((restAt s (i + 2 + nameLen (restAt s (i + 2)) s.size)).take (opLen (restAt s (i + 2 + nameLen (restAt s (i + 2)) s.size)))) && !nameL ((restAt s (i + 2)).take (nameLen (restAt s (i + 2)) s.size))) then .bad i 1
 else if opLen (restAt s (i + 2 + nameLen (restAt s (i + 2)) s.size)) = 0 then
  if seesB (restAt s (i + 2 + nameLen (restAt s (i + 2)) s.size)) 125 then .ok (one 2 q (s.extract (i + 2) (i + 2 + nameLen (restAt s (i + 2)) s.size)) ⟨#[]⟩ .nil) (i + 2 + nameLen (restAt s (i + 2)) s.size + 1) else .bad i 1
 else match (if q then markedF n s 125 d A0 (i + 2 + nameLen (restAt s (i + 2)) s.size + opLen (restAt s (i + 2 + nameLen (restAt s (i + 2)) s.size))) else bareF n s d A0 (i + 2 + nameLen (restAt s (i + 2)) s.size + opLen (restAt s (i + 2 + nameLen (restAt s (i + 2)) s.size)))) with
  | .bad j e=>.bad j e
  | .ok f j=>if seesB (restAt s j) 125 then .ok (one 2 q (s.extract (i + 2) (i + 2 + nameLen (restAt s (i + 2)) s.size)) (s.extract (i + 2 + nameLen (restAt s (i + 2)) s.size) (i + 2 + nameLen (restAt s (i + 2)) s.size + opLen (restAt s (i + 2 + nameLen (restAt s (i + 2)) s.size)))) f) (j + 1) else .bad i 1
def GotB (rb pb:Nat) (s:ByteArray) (q:Bool) (w:World) (o:Out) (e:Ending) (w':World):Prop :=
 match o with
 | .ok p j=>(∃ t op f a cap,p = one 2 q t op f∧e = .returned (.tuple #[])∧t.size≤s.size∧op.size≤s.size∧PB w' pb q t op (.slice a f.len cap)∧LiesS (fun b=>w.heap.size≤b) w' a cap f)∧RAt w' rb s j∧FrR rb pb (fun _=>False) w w'
 | .bad j err=>e = thrown j err∧(∃ j',RAt w' rb s j')∧FrR rb pb (fun _=>False) w w'
theorem out_letter {prog:Program} {f:FuncId} {args:Array Value} {w w0:World} {rb pb:Nat} {s:ByteArray} {q:Bool} (o:Out) (h:∀ o',o' = o→Calls prog f args w (GotB rb pb s q w0 o')):Calls prog f args w (GotB rb pb s q w0 o):=h o rfl
set_option maxHeartbeats 4000000 in
set_option maxRecDepth 100000 in
theorem bracket_step (s:ByteArray) (hs:s.size≤1000000) (n:Nat) (IHO:OfAt s n) (q:Bool) (d i rb pb:Nat) (w:World) (hR:RAt w rb s (i + 2)) (hi:i + 2≤s.size) (hf:s.size - i < n + 2) (hd:d≤200) (hP:PB w pb q ⟨#[]⟩ ⟨#[]⟩ (.slice none 0 0)) (hrp:rb < pb) :
  Calls Tryz.prog 101 #[.pointer (some ⟨rb,0,none⟩),.pointer (some ⟨pb,0,none⟩),.int .i64 i,.int .i64 d] w (GotB rb pb s q w (bracketF n s q d i)):=by
 unfold bracketF
 obtain ⟨j0,hj0⟩:∃ j0,j0 = i + 2:=⟨_,rfl⟩
 rw [← hj0] at hR hi ⊢
 have hn:=nameLen_le (restAt s j0) s.size
 rw [restAt_len] at hn
 have hT:=fun w=>nameLen_any (s.extract j0 s.size) s.size w (by simp [ByteArray.size_extract];omega) (by omega)
 rw [extract_end] at hT
 generalize nameLen (restAt s j0) s.size = T at hn hT ⊢
 obtain ⟨j1,hj1⟩:∃ j1,j1 = j0 + T:=⟨_,rfl⟩
 rw [← hj1]
 have ho:=opLen_le (restAt s j1)
 rw [restAt_len] at ho
 have hO:=fun w=>opLen_any (s.extract j1 s.size) w (by simp [ByteArray.size_extract];omega)
 rw [extract_end] at hO
 generalize opLen (restAt s j1) = O at ho hO ⊢
 obtain ⟨j2,hj2⟩:∃ j2,j2 = j1 + O:=⟨_,rfl⟩
 rw [← hj2]
 have hplt:pb < w.heap.size:=(Array.getElem?_eq_some_iff.1 hP).1
 have hrlt:=hR.lt
 have c0:=hR.c0
 have c1:=hR.c1
 have a0:(0:Int)≤(j0:Int):=by omega
 have a1:(j0:Int)≤(s.size:Int):=by omega
 have q1:j1≤s.size:=by omega
 have q2:j2≤s.size:=by omega
 have hne:¬ (rb = pb):=by omega
 have hne2:¬ (pb = rb):=by omega
 -- the worlds on the way: the reader at j1,the name laid;the reader at j2,the operator laid
 have step1:∀ (w0 w1:World) (m j:Nat) (t op t':ByteArray) (v:Value) (x:Nat),RAt w0 rb s x→PB w0 pb q t op v→FrR rb pb (fun _=>False) w w0→Below w0.heap.size w0 w1 →
   RAt (((w1.setCell ⟨rb,1,none⟩ (.int .i64 (j:Int))).drewN m).setCell ⟨pb,2,none⟩ (.string t')) rb s j∧PB (((w1.setCell ⟨rb,1,none⟩ (.int .i64 (j:Int))).drewN m).setCell ⟨pb,2,none⟩ (.string t')) pb q t' op v∧FrR rb pb (fun _=>False) w (((w1.setCell ⟨rb,1,none⟩ (.int .i64 (j:Int))).drewN m).setCell ⟨pb,2,none⟩ (.string t')):=by
  intro w0 w1 m j t op t' v x hr hp hf hb
  have hr1:RAt w1 rb s x:=(hb.block _ hr.lt).trans hr
  have hp1:PB w1 pb q t op v:=(hb.block _ (Array.getElem?_eq_some_iff.1 hp).1).trans hp
  have hr2:=hr1.set j
  have hp2:PB (w1.setCell ⟨rb,1,none⟩ (.int .i64 (j:Int))) pb q t op v:=(Below.heap_setCell _ _ _ _ (by show pb ≠ rb;omega)).trans hp1
  refine ⟨(Below.heap_setCell _ _ _ _ (by show rb ≠ pb;omega)).trans hr2,heap_setCell_same _ _ 2 _ _ (.string t') hp2,?_⟩
  refine (((hf.trans (FrR.of_fr (Fr.of_below hb))).set (fun h=>h) 1 (.int .i64 (j:Int))).trans (FrR.drewN _ _ _ _ m)).trans ⟨rfl,rfl,rfl,by simp [World.setCell],fun b _ ho=>Below.heap_setCell _ _ _ _ ?_⟩
  show b ≠ pb
  rcases ho with ho | ho
  ·omega
  ·exact ho.elim
 have step2:∀ (w0 w1:World) (m j:Nat) (t op op':ByteArray) (v:Value) (x:Nat),RAt w0 rb s x→PB w0 pb q t op v→FrR rb pb (fun _=>False) w w0→Below w0.heap.size w0 w1 →
   RAt (((w1.setCell ⟨rb,1,none⟩ (.int .i64 (j:Int))).drewN m).setCell ⟨pb,3,none⟩ (.string op')) rb s j∧PB (((w1.setCell ⟨rb,1,none⟩ (.int .i64 (j:Int))).drewN m).setCell ⟨pb,3,none⟩ (.string op')) pb q t op' v∧FrR rb pb (fun _=>False) w (((w1.setCell ⟨rb,1,none⟩ (.int .i64 (j:Int))).drewN m).setCell ⟨pb,3,none⟩ (.string op')):=by
  intro w0 w1 m j t op op' v x hr hp hf hb
  have hr1:RAt w1 rb s x:=(hb.block _ hr.lt).trans hr
  have hp1:PB w1 pb q t op v:=(hb.block _ (Array.getElem?_eq_some_iff.1 hp).1).trans hp
  have hr2:=hr1.set j
  have hp2:PB (w1.setCell ⟨rb,1,none⟩ (.int .i64 (j:Int))) pb q t op v:=(Below.heap_setCell _ _ _ _ (by show pb ≠ rb;omega)).trans hp1
  refine ⟨(Below.heap_setCell _ _ _ _ (by show rb ≠ pb;omega)).trans hr2,heap_setCell_same _ _ 3 _ _ (.string op') hp2,?_⟩
  refine (((hf.trans (FrR.of_fr (Fr.of_below hb))).set (fun h=>h) 1 (.int .i64 (j:Int))).trans (FrR.drewN _ _ _ _ m)).trans ⟨rfl,rfl,rfl,by simp [World.setCell],fun b _ ho=>Below.heap_setCell _ _ _ _ ?_⟩
  show b ≠ pb
  rcases ho with ho | ho
  ·omega
  ·exact ho.elim
 have hN:(s.extract j0 j1).data.toList = (restAt s j0).take T:=by rw [hj1];exact extract_mid ..
 have hOp:(s.extract j1 j2).data.toList = (restAt s j1).take O:=by rw [hj2];exact extract_mid ..
 have hPar:=fun W=>param_any (s.extract j0 j1) W (by simp [ByteArray.size_extract];omega)
 have hNam:=fun w=>name_any (s.extract j0 j1) w (by simp [ByteArray.size_extract];omega)
 have hSuf:=fun w=>(Tryz.strings_HasSuffix (s.extract j1 j2) ⟨#[61]⟩ w (by simp [ByteArray.size_extract];omega)).mono fun e w' h=>And.intro h.1 h.2.symm
 rw [hN] at hPar hNam
 rw [hOp,show (⟨#[61]⟩:ByteArray).data.toList = [61] from rfl,show Lib.hasSuffix ((restAt s j1).take O) [61] = sufEq ((restAt s j1).take O) from rfl] at hSuf
 generalize nameL ((restAt s j0).take T) = bN at hNam ⊢
 generalize paramL ((restAt s j0).take T) = bP at hPar ⊢
 generalize sufEq ((restAt s j1).take O) = bS at hSuf ⊢
 have HT:=Lib.hid hT;have HO:=Lib.hid hO;have HR:=Lib.hid hR;have HP:=Lib.hid hP;have HIO:=Lib.hid IHO;have HJ0:=Lib.hid hj0;have HJ1:=Lib.hid hj1;have HJ2:=Lib.hid hj2;have ST1:=Lib.hid step1;have ST2:=Lib.hid step2
 have HN:=Lib.hid hN;have HOP:=Lib.hid hOp;have HPAR0:=Lib.hid hPar;have HNAM:=Lib.hid hNam;have HSUF:=Lib.hid hSuf
 clear hT hO hR hP IHO hj0 hj1 hj2 step1 step2 hN hOp hPar hNam hSuf
 refine out_letter _ fun OUT hOE=>?_
 have HOUTE:=Lib.hid hOE
 clear hOE
 go_enter Tryz.func101,Tryz.ntmps101
 go_wp2_with fail
 refine RN.begins (fun w'=>w'.cell? ⟨rb,0,none⟩ = some (.string s)∧w'.cell? ⟨rb,1,none⟩ = some (.int .i64 (j0:Int))) [0,17,18,19,20] (by kernel_rfl) ?_
 have hS:w.drew.cell? ⟨rb,0,none⟩ = some (.string s)∧w.drew.cell? ⟨rb,1,none⟩ = some (.int .i64 (j0:Int)):=⟨c0,c1⟩
 refine RN.takeW (i:=0) (v:=?_) rfl (by decide) (by kernel_rfl) (by kernel_rfl) (by kernel_rfl) (by kernel_rfl) (by first | exact fun _ _ _ h=>h | exact fun _ _ _ h=>(by cases h.1) | exact fun _ _ _ h=>door_put (by decide) h) (.inl ⟨by rfl,?_⟩) ?_
 rotate_left 1
 ·(intro wq _;go_simp;try with_reducible rfl)
 refine RN.tk (i:=1) (v:=?_) rfl hS ?_ ?_
 rotate_left 1
 ·(intro wq hq;obtain ⟨s0,s1⟩:=hq;go_simp;try with_reducible rfl)
 refine RN.tk (i:=2) (v:=?_) rfl hS ?_ ?_
 rotate_left 1
 ·(intro wq hq;obtain ⟨s0,s1⟩:=hq;go_simp;try with_reducible rfl)
 refine RN.tk (i:=3) (v:=?_) rfl hS ?_ ?_
 rotate_left 1
 ·(intro wq hq;obtain ⟨s0,s1⟩:=hq;go_simp;try with_reducible rfl)
 refine RN.tk (i:=4) (v:=?_) rfl hS ?_ ?_
 rotate_left 1
 ·(intro wq hq;obtain ⟨s0,s1⟩:=hq;go_simp;try with_reducible rfl)
 refine RN.tk (i:=5) (v:=?_) rfl hS ?_ ?_
 rotate_left 1
 ·(intro wq hq;obtain ⟨s0,s1⟩:=hq;go_simp;try with_reducible rfl)
 refine RN.tk (i:=6) (v:=?_) rfl hS ?_ ?_
 rotate_left 1
 ·(intro wq hq;obtain ⟨s0,s1⟩:=hq;go_simp;try with_reducible rfl)
 refine RN.tk (i:=7) (v:=?_) rfl hS ?_ ?_
 rotate_left 1
 ·(intro wq hq;obtain ⟨s0,s1⟩:=hq;go_simp;try with_reducible rfl)
 refine RN.tk (i:=8) (v:=?_) rfl hS ?_ ?_
 rotate_left 1
 ·(intro wq hq;obtain ⟨s0,s1⟩:=hq;go_simp;try with_reducible rfl)
 refine RN.tk (i:=9) (v:=?_) rfl hS ?_ ?_
 rotate_left 1
 ·(intro wq hq;obtain ⟨s0,s1⟩:=hq;go_simp;try with_reducible rfl)
 refine RN.tk (i:=10) (v:=?_) rfl hS ?_ ?_
 rotate_left 1
 ·(intro wq hq;obtain ⟨s0,s1⟩:=hq;go_simp;try with_reducible rfl)
 refine RN.tk (i:=11) (v:=?_) rfl hS ?_ ?_
 rotate_left 1
 ·(intro wq hq;obtain ⟨s0,s1⟩:=hq;go_simp;try with_reducible rfl)
 refine RN.tk (i:=12) (v:=?_) rfl hS ?_ ?_
 rotate_left 1
 ·(intro wq hq;obtain ⟨s0,s1⟩:=hq;go_simp;try with_reducible rfl)
 refine RN.tk (i:=13) (v:=?_) rfl hS ?_ ?_
 rotate_left 1
 ·(intro wq hq;obtain ⟨s0,s1⟩:=hq;go_simp;try with_reducible rfl)
 refine RN.tk (i:=14) (v:=?_) rfl hS ?_ ?_
 rotate_left 1
 ·(intro wq hq;obtain ⟨s0,s1⟩:=hq;go_simp;try with_reducible rfl)
 refine RN.tk (i:=15) (v:=?_) rfl hS ?_ ?_
 rotate_left 1
 ·(intro wq hq;obtain ⟨s0,s1⟩:=hq;go_simp;try with_reducible rfl)
 refine RN.all (rs:=[16]) (by kernel_rfl) (by simp) ?_
 refine RN.All.cons rfl (fun K hK=>?_) RN.All.nil
 go_simp
 refine (HT.out _).mono ?_
 rintro e w1 ⟨rfl,hb1⟩
 have hr1:RAt w1 rb s j0:=(hb1.block _ hrlt).trans HR.out
 refine hK _ _ (fun _=>⟨hr1.c0,hr1.c1⟩) ?_
 clear hK K
 refine RN.all (rs:=[17]) (by kernel_rfl) (by simp) ?_
 refine RN.All.cons rfl (fun K hK=>?_) RN.All.nil
 go_simp
 refine (take_any rb j0 T s w1 hr1 (by have:=HJ1.out;omega) hs).mono ?_
 rintro e w2 ⟨rfl,m1,rfl⟩
 rw [← HJ1.out]
 refine hK _ _ (fun h=>absurd h (by decide)) ?_
 clear hK K
 refine RN.takeW (i:=18) (v:=?_) rfl (by decide) (by kernel_rfl) (by kernel_rfl) (by kernel_rfl) (by kernel_rfl) (by first | exact fun _ _ _ h=>h | exact fun _ _ _ h=>(by cases h.1) | exact fun _ _ _ h=>door_put (by decide) h) (.inl ⟨by rfl,?_⟩) ?_
 rotate_left 1
 ·(intro wq _;go_simp;try with_reducible rfl)
 refine RN.takeW (i:=19) (v:=?_) rfl (by decide) (by kernel_rfl) (by kernel_rfl) (by kernel_rfl) (by kernel_rfl) (by first | exact fun _ _ _ h=>h | exact fun _ _ _ h=>(by cases h.1) | exact fun _ _ _ h=>door_put (by decide) h) (.inl ⟨by rfl,?_⟩) ?_
 rotate_left 1
 ·(intro wq _;go_simp;try with_reducible rfl)
 have hb1':Below w.heap.size w w1:=⟨hb1.os,hb1.tape,hb1.output,hb1.size,hb1.block⟩
 have hx1:=ST1.out w w1 m1 j1 _ _ (s.extract j0 j1) _ _ HR.out HP.out (FrR.refl _ _ _ _) hb1'
 have p1:PB w1 pb q ⟨#[]⟩ ⟨#[]⟩ (.slice none 0 0):=(hb1.block _ hplt).trans HP.out
 have p2:PB (w1.setCell ⟨rb,1,none⟩ (.int .i64 (j1:Int))) pb q ⟨#[]⟩ ⟨#[]⟩ (.slice none 0 0):=(Below.heap_setCell _ _ _ _ (by show pb ≠ rb;omega)).trans p1
 have k2:=zc2 p2
 have k2f:=zf 2 p2
 have HX1:=Lib.hid hx1
 clear hx1 p1 p2 hb1 hr1 hS hb1'
 refine RN.all (rs:=[20]) (by kernel_rfl) (by simp) ?_
 refine RN.All.cons rfl (fun K hK=>?_) RN.All.nil
 go_simp
 refine hK _ _ (fun h=>absurd h (by decide)) ?_
 clear hK K
 refine RN.done (by kernel_rfl) ?_ _
 have hx1:=HX1.out
 generalize (((w1.setCell ⟨rb,1,none⟩ (.int .i64 (j1:Int))).drewN m1).setCell ⟨pb,2,none⟩ (.string (s.extract j0 j1))) = W1 at hx1 ⊢
 obtain ⟨hr1,hp1,hf1⟩:=hx1
 have d0:=hr1.c0
 have d1:=hr1.c1
 have b0:(0:Int)≤(j1:Int):=by omega
 have b1:(j1:Int)≤(s.size:Int):=by omega
 have HR1:=Lib.hid hr1;have HP1:=Lib.hid hp1;have HF1:=Lib.hid hf1
 clear HX1 k2 k2f hr1 hp1 hf1 c0 c1 a0 a1
 go_wp2_with fail
 refine RN.begins (fun w'=>w'.cell? ⟨rb,0,none⟩ = some (.string s)∧w'.cell? ⟨rb,1,none⟩ = some (.int .i64 (j1:Int))) [0,12,13,14,15] (by kernel_rfl) ?_
 have hS:W1.drew.cell? ⟨rb,0,none⟩ = some (.string s)∧W1.drew.cell? ⟨rb,1,none⟩ = some (.int .i64 (j1:Int)):=⟨d0,d1⟩
 refine RN.takeW (i:=0) (v:=?_) rfl (by decide) (by kernel_rfl) (by kernel_rfl) (by kernel_rfl) (by kernel_rfl) (by first | exact fun _ _ _ h=>h | exact fun _ _ _ h=>(by cases h.1) | exact fun _ _ _ h=>door_put (by decide) h) (.inl ⟨by rfl,?_⟩) ?_
 rotate_left 1
 ·(intro wq _;go_simp;try with_reducible rfl)
 refine RN.tk (i:=1) (v:=?_) rfl hS ?_ ?_
 rotate_left 1
 ·(intro wq hq;obtain ⟨s0,s1⟩:=hq;go_simp;try with_reducible rfl)
 refine RN.tk (i:=2) (v:=?_) rfl hS ?_ ?_
 rotate_left 1
 ·(intro wq hq;obtain ⟨s0,s1⟩:=hq;go_simp;try with_reducible rfl)
 refine RN.tk (i:=3) (v:=?_) rfl hS ?_ ?_
 rotate_left 1
 ·(intro wq hq;obtain ⟨s0,s1⟩:=hq;go_simp;try with_reducible rfl)
 refine RN.tk (i:=4) (v:=?_) rfl hS ?_ ?_
 rotate_left 1
 ·(intro wq hq;obtain ⟨s0,s1⟩:=hq;go_simp;try with_reducible rfl)
 refine RN.tk (i:=5) (v:=?_) rfl hS ?_ ?_
 rotate_left 1
 ·(intro wq hq;obtain ⟨s0,s1⟩:=hq;go_simp;try with_reducible rfl)
 refine RN.tk (i:=6) (v:=?_) rfl hS ?_ ?_
 rotate_left 1
 ·(intro wq hq;obtain ⟨s0,s1⟩:=hq;go_simp;try with_reducible rfl)
 refine RN.tk (i:=7) (v:=?_) rfl hS ?_ ?_
 rotate_left 1
 ·(intro wq hq;obtain ⟨s0,s1⟩:=hq;go_simp;try with_reducible rfl)
 refine RN.tk (i:=8) (v:=?_) rfl hS ?_ ?_
 rotate_left 1
 ·(intro wq hq;obtain ⟨s0,s1⟩:=hq;go_simp;try with_reducible rfl)
 refine RN.tk (i:=9) (v:=?_) rfl hS ?_ ?_
 rotate_left 1
 ·(intro wq hq;obtain ⟨s0,s1⟩:=hq;go_simp;try with_reducible rfl)
 refine RN.tk (i:=10) (v:=?_) rfl hS ?_ ?_
 rotate_left 1
 ·(intro wq hq;obtain ⟨s0,s1⟩:=hq;go_simp;try with_reducible rfl)
 refine RN.all (rs:=[11]) (by kernel_rfl) (by simp) ?_
 refine RN.All.cons rfl (fun K hK=>?_) RN.All.nil
 go_simp
 refine (HO.out _).mono ?_
 rintro e w2 ⟨rfl,rfl⟩
 refine hK _ _ (fun _=>hS) ?_
 clear hK K
 refine RN.all (rs:=[12]) (by kernel_rfl) (by simp) ?_
 refine RN.All.cons rfl (fun K hK=>?_) RN.All.nil
 go_simp
 refine (take_any rb j1 O s W1.drew HR1.out (by have:=HJ2.out;omega) hs).mono ?_
 rintro e w3 ⟨rfl,m2,rfl⟩
 rw [← HJ2.out]
 refine hK _ _ (fun h=>absurd h (by decide)) ?_
 clear hK K
 refine RN.takeW (i:=13) (v:=?_) rfl (by decide) (by kernel_rfl) (by kernel_rfl) (by kernel_rfl) (by kernel_rfl) (by first | exact fun _ _ _ h=>h | exact fun _ _ _ h=>(by cases h.1) | exact fun _ _ _ h=>door_put (by decide) h) (.inl ⟨by rfl,?_⟩) ?_
 rotate_left 1
 ·(intro wq _;go_simp;try with_reducible rfl)
 refine RN.takeW (i:=14) (v:=?_) rfl (by decide) (by kernel_rfl) (by kernel_rfl) (by kernel_rfl) (by kernel_rfl) (by first | exact fun _ _ _ h=>h | exact fun _ _ _ h=>(by cases h.1) | exact fun _ _ _ h=>door_put (by decide) h) (.inl ⟨by rfl,?_⟩) ?_
 rotate_left 1
 ·(intro wq _;go_simp;try with_reducible rfl)
 have hx2:=ST2.out W1 W1 (1 + m2) j2 _ _ (s.extract j1 j2) _ _ HR1.out HP1.out HF1.out (Below.refl _ _)
 have p2:PB (W1.setCell ⟨rb,1,none⟩ (.int .i64 (j2:Int))) pb q (s.extract j0 j1) ⟨#[]⟩ (.slice none 0 0):=(Below.heap_setCell _ _ _ _ (by show pb ≠ rb;omega)).trans HP1.out
 have k3:=zc3 p2
 have k3f:=zf 3 p2
 have HX2:=Lib.hid hx2
 clear hx2 p2 hS d0 d1
 refine RN.all (rs:=[15]) (by kernel_rfl) (by simp) ?_
 refine RN.All.cons rfl (fun K hK=>?_) RN.All.nil
 go_simp
 refine hK _ _ (fun h=>absurd h (by decide)) ?_
 clear hK K
 refine RN.done (by kernel_rfl) ?_ _
 have hx2:=HX2.out
 generalize (((W1.setCell ⟨rb,1,none⟩ (.int .i64 (j2:Int))).drewN (1 + m2)).setCell ⟨pb,3,none⟩ (.string (s.extract j1 j2))) = W2 at hx2 ⊢
 obtain ⟨hr2,hp2,hf2⟩:=hx2
 have t2:=zc2 hp2
 have hPar:=HPAR0.out W2
 have hNsz:(s.extract j0 j1).size≤s.size:=by simp [ByteArray.size_extract];omega
 have hOsz:(s.extract j1 j2).size≤s.size:=by simp [ByteArray.size_extract];omega
 have HR2:=Lib.hid hr2;have HP2:=Lib.hid hp2;have HF2:=Lib.hid hf2;have HPAR:=Lib.hid hPar
 -- behind class.Param
 have cont:∀ W3,Below W2.heap.size W2 W3→RAt W3 rb s j2∧PB W3 pb q (s.extract j0 j1) (s.extract j1 j2) (.slice none 0 0)∧FrR rb pb (fun _=>False) w W3:=fun W3 hb =>
  ⟨(hb.block _ hr2.lt).trans hr2,(hb.block _ (Array.getElem?_eq_some_iff.1 hp2).1).trans hp2,hf2.trans (FrR.of_fr (Fr.of_below hb))⟩
 have CONT:=Lib.hid cont
 clear HX2 k3 k3f hr2 hp2 hf2 cont b0 b1 hPar
 cases bP
 ·skip
  go_wp2_with fail
  refine (HPAR.out).mono ?_
  rintro e W3 ⟨rfl,hb3⟩
  have hc:=CONT.out W3 hb3
  have u2:=zc2 hc.2.1
  have u3:=zc3 hc.2.1
  have u1:=zc1 hc.2.1
  have hw3:w.heap.size≤W3.heap.size:=hc.2.2.size
  have HC:=Lib.hid hc
  clear hb3 hc t2
  go_wp2_with fail
  refine (wrong_any _ _).mono ?_
  rintro e w9 ⟨rfl,rfl⟩
  go_wp2_with fail
  refine ⟨rfl,?_⟩
  have hO:OUT = .bad i 1:=by rw [HOUTE.out];simp
  rw [hO]
  exact ⟨rfl,⟨_,HC.out.1⟩,HC.out.2.2⟩
 ·cases bS
  ·skip
   go_wp2_with fail
   refine (HPAR.out).mono ?_
   rintro e W3 ⟨rfl,hb3⟩
   have hc:=CONT.out W3 hb3
   have u2:=zc2 hc.2.1
   have u3:=zc3 hc.2.1
   have u1:=zc1 hc.2.1
   have hw3:w.heap.size≤W3.heap.size:=hc.2.2.size
   have HC:=Lib.hid hc
   clear hb3 hc t2
   have HS3:=Lib.hid (HSUF.out W3)
   go_wp2_with fail
   refine (HS3.out).mono ?_
   rintro e w4 ⟨rfl,rfl⟩
   by_cases hO0:O = 0
   ·have hj12:j2 = j1:=by have:=HJ2.out;omega
    subst hj12
    have hemp:(s.extract j2 j2).toList = []:=by rw [Lib.toList_data,HOP.out,hO0];rfl
    have hemp2:(s.extract j2 j2).toList.isEmpty = true:=by rw [hemp];rfl
    have hopE:s.extract j2 j2 = ⟨#[]⟩:=bytes_inj (by simp [hemp,Lib.toList_data])
    have hsee:=sees_drawn0 rb j2 125 s W3 HC.out.1 (by omega) hs
    have v1:=HC.out.1.c1
    have v1f:=HC.out.1.f1
    have hset:=HC.out.1.set (j2 + 1)
    rw [show ((j2 + 1:Nat):Int) = (j2:Int) + 1 by omega] at hset
    have hpset:PB (W3.setCell ⟨rb,1,none⟩ (.int .i64 ((j2:Int) + 1))) pb q (s.extract j0 j2) (s.extract j2 j2) (.slice none 0 0):=(Below.heap_setCell _ _ _ _ (by show pb ≠ rb;omega)).trans HC.out.2.1
    have hfset:FrR rb pb (fun _=>False) w (W3.setCell ⟨rb,1,none⟩ (.int .i64 ((j2:Int) + 1))):=HC.out.2.2.set (fun h=>h) _ _
    rw [hopE] at hpset
    have HST:=Lib.hid (And.intro hset (And.intro hpset hfset))
    have HE:=Lib.hid hemp;have HOE:=Lib.hid hopE;have HO0:=Lib.hid hO0
    clear hset hpset hfset hemp hopE hO0
    cases h125:seesB (restAt s j2) 125
    ·rw [h125] at hsee
     have HSEE:=Lib.hid hsee
     have H125:=Lib.hid h125
     clear hsee h125
     go_wp2_with fail
     refine (HSEE.out).mono ?_
     rintro e w6 ⟨rfl,n6,rfl⟩
     go_wp2_with fail
     refine (wrong_any _ _).mono ?_
     rintro e w9 ⟨rfl,rfl⟩
     go_wp2_with fail
     refine ⟨rfl,?_⟩
     have hO:OUT = .bad i 1:=by rw [HOUTE.out];simp [HO0.out,H125.out]
     rw [hO]
     exact ⟨rfl,⟨_,HC.out.1⟩,HC.out.2.2.trans (FrR.drewN _ _ _ _ _)⟩
    ·rw [h125] at hsee
     have HSEE:=Lib.hid hsee
     have H125:=Lib.hid h125
     clear hsee h125
     go_wp2_with fail
     refine (HSEE.out).mono ?_
     rintro e w6 ⟨rfl,n6,rfl⟩
     go_wp2_with fail
     go_end0
     have hO:OUT = .ok (one 2 q (s.extract j0 j2) ⟨#[]⟩ .nil) (j2 + 1):=by rw [HOUTE.out];simp [HO0.out,H125.out]
     rw [hO]
     exact ⟨⟨_,_,_,none,0,rfl,rfl,hNsz,Nat.zero_le _,HST.out.2.1,(fun _ _ _=>⟨Nat.le_refl _,Nat.zero_le _,.inl rfl⟩)⟩,HST.out.1,HST.out.2.2.trans (FrR.drewN _ _ _ _ n6)⟩
   ·have hemp2:(s.extract j1 j2).toList.isEmpty = false:=by
     rw [Lib.toList_data,HOP.out]
     have h1:((restAt s j1).take O).length = O:=by rw [List.length_take,restAt_len];omega
     cases h2:(restAt s j1).take O with
     | nil=>rw [h2] at h1;simp at h1;omega
     | cons=>rfl
    have hj2i:s.size - j2 < n:=by have:=HJ2.out;have:=HJ1.out;have:=HJ0.out;omega
    have hof:=HIO.out q d j2 rb W3 HC.out.1 q2 hj2i hd
    unfold ofF at hof
    have v4:=zc4 HC.out.2.1
    have HO0:=Lib.hid hO0
    clear hO0
    cases hout:(if q = true then markedF n s 125 d A0 j2 else bareF n s d A0 j2) with
    | bad j err =>
     rw [hout] at hof
     have HOF:=Lib.hid hof;have HOUT:=Lib.hid hout
     clear hof hout
     go_wp2_with fail
     refine (HOF.out).mono ?_
     rintro e W4 ⟨rfl,⟨j',hr4⟩,hf4⟩
     have HX:=Lib.hid (And.intro hr4 hf4)
     clear hr4 hf4
     go_wp2_with fail
     refine ⟨rfl,?_⟩
     have hO:OUT = .bad j err:=by rw [HOUTE.out];simp [HO0.out,HOUT.out]
     rw [hO]
     exact ⟨rfl,⟨j',HX.out.1⟩,HC.out.2.2.trans ⟨HX.out.2.os,HX.out.2.tape,HX.out.2.output,HX.out.2.size,fun b hb ho=>HX.out.2.block b hb (ho.imp (fun h=>⟨hb,h.2⟩) id)⟩⟩
    | ok f j =>
     have hjs:j≤s.size:=by
      cases q with
      | true=>exact ((ends_all s n).1 _ _ _ _ _ _ hout q2).2.1
      | false=>exact ((ends_all s n).2.1 _ _ _ _ _ hout q2).2
     rw [hout] at hof
     have HOF:=Lib.hid hof;have HOUT:=Lib.hid hout
     clear hof hout
     go_wp2_with fail
     refine (HOF.out).mono ?_
     rintro e W4 ⟨⟨a4,cap4,rfl,hl4⟩,hr4,hf4⟩
     have hfr4:FrR rb pb (fun _=>False) w W4:=HC.out.2.2.trans ⟨hf4.os,hf4.tape,hf4.output,hf4.size,fun b hb ho=>hf4.block b hb (ho.imp (fun h=>⟨hb,h.2⟩) id)⟩
     have hp4:PB W4 pb q (s.extract j0 j1) (s.extract j1 j2) (.slice none 0 0):=(hf4.block pb (Array.getElem?_eq_some_iff.1 HC.out.2.1).1 (.inl ⟨(Array.getElem?_eq_some_iff.1 HC.out.2.1).1,by omega⟩)).trans HC.out.2.1
     have x4:=zc4 hp4
     have x4f:=zf 4 hp4
     have hr5:RAt (W4.setCell ⟨pb,4,none⟩ (.slice a4 f.len cap4)) rb s j:=(Below.heap_setCell _ _ _ _ (by show rb ≠ pb;omega)).trans hr4
     have hp5:PB (W4.setCell ⟨pb,4,none⟩ (.slice a4 f.len cap4)) pb q (s.extract j0 j1) (s.extract j1 j2) (.slice a4 f.len cap4):=heap_setCell_same _ _ 4 _ _ (.slice a4 f.len cap4) hp4
     have hf5:FrR rb pb (fun _=>False) w (W4.setCell ⟨pb,4,none⟩ (.slice a4 f.len cap4)):=hfr4.trans ⟨rfl,rfl,rfl,by simp [World.setCell],fun b _ ho=>Below.heap_setCell _ _ _ _ (by
      show b ≠ pb
      rcases ho with ho | ho
      ·omega
      ·exact ho.elim)⟩
     have hl5:LiesS (fun b=>w.heap.size≤b) (W4.setCell ⟨pb,4,none⟩ (.slice a4 f.len cap4)) a4 cap4 f:=(hl4.mono (S':=fun b=>w.heap.size≤b) (fun b hb _=>by omega)).keep (by simp) fun b hb _=>Below.heap_setCell _ _ _ _ (by show b ≠ pb;omega)
     have H5:=Lib.hid (And.intro hr5 (And.intro hp5 (And.intro hf5 hl5)))
     clear hl4 hr4 hf4 hfr4 hp4 hr5 hp5 hf5 hl5
     go_wp2_with fail
     have h5:=H5.out
     generalize (W4.setCell ⟨pb,4,none⟩ (.slice a4 f.len cap4)) = W5 at h5 ⊢
     clear x4 x4f
     obtain ⟨hr5,hp5,hf5,hl5⟩:=h5
     have hsee:=sees_drawn0 rb j 125 s W5 hr5 hjs hs
     have v1:=hr5.c1
     have v1f:=hr5.f1
     have hset:=hr5.set (j + 1)
     rw [show ((j + 1:Nat):Int) = (j:Int) + 1 by omega] at hset
     have hpset:PB (W5.setCell ⟨rb,1,none⟩ (.int .i64 ((j:Int) + 1))) pb q (s.extract j0 j1) (s.extract j1 j2) (.slice a4 f.len cap4):=(Below.heap_setCell _ _ _ _ (by show pb ≠ rb;omega)).trans hp5
     have hfset:FrR rb pb (fun _=>False) w (W5.setCell ⟨rb,1,none⟩ (.int .i64 ((j:Int) + 1))):=hf5.set (fun h=>h) _ _
     have hlset:LiesS (fun b=>w.heap.size≤b) (W5.setCell ⟨rb,1,none⟩ (.int .i64 ((j:Int) + 1))) a4 cap4 f:=hl5.keep (by simp) fun b hb _=>Below.heap_setCell _ _ _ _ (by show b ≠ rb;omega)
     have HST:=Lib.hid (And.intro hset (And.intro hpset (And.intro hfset hlset)))
     have H55:=Lib.hid (And.intro hr5 hf5)
     clear hset hpset hfset hlset hr5 hp5 hf5 hl5 H5
     cases h125:seesB (restAt s j) 125
     ·rw [h125] at hsee
      have HSEE:=Lib.hid hsee
      have H125:=Lib.hid h125
      clear hsee h125
      go_wp2_with fail
      refine (HSEE.out).mono ?_
      rintro e w6 ⟨rfl,n6,rfl⟩
      go_wp2_with fail
      refine (wrong_any _ _).mono ?_
      rintro e w9 ⟨rfl,rfl⟩
      go_wp2_with fail
      refine ⟨rfl,?_⟩
      have hO:OUT = .bad i 1:=by rw [HOUTE.out];simp [HO0.out,HOUT.out,H125.out]
      rw [hO]
      exact ⟨rfl,⟨_,H55.out.1⟩,H55.out.2.trans (FrR.drewN _ _ _ _ _)⟩
     ·rw [h125] at hsee
      have HSEE:=Lib.hid hsee
      have H125:=Lib.hid h125
      clear hsee h125
      go_wp2_with fail
      refine (HSEE.out).mono ?_
      rintro e w6 ⟨rfl,n6,rfl⟩
      go_wp2_with fail
      go_end0
      have hO:OUT = .ok (one 2 q (s.extract j0 j1) (s.extract j1 j2) f) (j + 1):=by rw [HOUTE.out];simp [HO0.out,HOUT.out,H125.out]
      rw [hO]
      exact ⟨⟨_,_,_,a4,cap4,rfl,rfl,hNsz,hOsz,HST.out.2.1,HST.out.2.2.2.keep (Nat.le_refl _) (fun _ _ _=>rfl)⟩,HST.out.1,HST.out.2.2.1.trans (FrR.drewN _ _ _ _ n6)⟩
  ·cases bN
   ·skip
    go_wp2_with fail
    refine (HPAR.out).mono ?_
    rintro e W3 ⟨rfl,hb3⟩
    have hc:=CONT.out W3 hb3
    have u2:=zc2 hc.2.1
    have u3:=zc3 hc.2.1
    have u1:=zc1 hc.2.1
    have hw3:w.heap.size≤W3.heap.size:=hc.2.2.size
    have HC:=Lib.hid hc
    clear hb3 hc t2
    have HS3:=Lib.hid (HSUF.out W3)
    go_wp2_with fail
    refine (HS3.out).mono ?_
    rintro e w4 ⟨rfl,rfl⟩
    have HN3:=Lib.hid (HNAM.out W3)
    go_wp2_with fail
    refine (HN3.out).mono ?_
    rintro e w5 ⟨rfl,rfl⟩
    go_wp2_with fail
    refine (wrong_any _ _).mono ?_
    rintro e w9 ⟨rfl,rfl⟩
    go_wp2_with fail
    refine ⟨rfl,?_⟩
    have hO:OUT = .bad i 1:=by rw [HOUTE.out];simp
    rw [hO]
    exact ⟨rfl,⟨_,HC.out.1⟩,HC.out.2.2⟩
   ·skip
    go_wp2_with fail
    refine (HPAR.out).mono ?_
    rintro e W3 ⟨rfl,hb3⟩
    have hc:=CONT.out W3 hb3
    have u2:=zc2 hc.2.1
    have u3:=zc3 hc.2.1
    have u1:=zc1 hc.2.1
    have hw3:w.heap.size≤W3.heap.size:=hc.2.2.size
    have HC:=Lib.hid hc
    clear hb3 hc t2
    have HS3:=Lib.hid (HSUF.out W3)
    go_wp2_with fail
    refine (HS3.out).mono ?_
    rintro e w4 ⟨rfl,rfl⟩
    have HN3:=Lib.hid (HNAM.out W3)
    go_wp2_with fail
    refine (HN3.out).mono ?_
    rintro e w5 ⟨rfl,rfl⟩
    by_cases hO0:O = 0
    ·have hj12:j2 = j1:=by have:=HJ2.out;omega
     subst hj12
     have hemp:(s.extract j2 j2).toList = []:=by rw [Lib.toList_data,HOP.out,hO0];rfl
     have hemp2:(s.extract j2 j2).toList.isEmpty = true:=by rw [hemp];rfl
     have hopE:s.extract j2 j2 = ⟨#[]⟩:=bytes_inj (by simp [hemp,Lib.toList_data])
     have hsee:=sees_drawn0 rb j2 125 s W3 HC.out.1 (by omega) hs
     have v1:=HC.out.1.c1
     have v1f:=HC.out.1.f1
     have hset:=HC.out.1.set (j2 + 1)
     rw [show ((j2 + 1:Nat):Int) = (j2:Int) + 1 by omega] at hset
     have hpset:PB (W3.setCell ⟨rb,1,none⟩ (.int .i64 ((j2:Int) + 1))) pb q (s.extract j0 j2) (s.extract j2 j2) (.slice none 0 0):=(Below.heap_setCell _ _ _ _ (by show pb ≠ rb;omega)).trans HC.out.2.1
     have hfset:FrR rb pb (fun _=>False) w (W3.setCell ⟨rb,1,none⟩ (.int .i64 ((j2:Int) + 1))):=HC.out.2.2.set (fun h=>h) _ _
     rw [hopE] at hpset
     have HST:=Lib.hid (And.intro hset (And.intro hpset hfset))
     have HE:=Lib.hid hemp;have HOE:=Lib.hid hopE;have HO0:=Lib.hid hO0
     clear hset hpset hfset hemp hopE hO0
     cases h125:seesB (restAt s j2) 125
     ·rw [h125] at hsee
      have HSEE:=Lib.hid hsee
      have H125:=Lib.hid h125
      clear hsee h125
      go_wp2_with fail
      refine (HSEE.out).mono ?_
      rintro e w6 ⟨rfl,n6,rfl⟩
      go_wp2_with fail
      refine (wrong_any _ _).mono ?_
      rintro e w9 ⟨rfl,rfl⟩
      go_wp2_with fail
      refine ⟨rfl,?_⟩
      have hO:OUT = .bad i 1:=by rw [HOUTE.out];simp [HO0.out,H125.out]
      rw [hO]
      exact ⟨rfl,⟨_,HC.out.1⟩,HC.out.2.2.trans (FrR.drewN _ _ _ _ _)⟩
     ·rw [h125] at hsee
      have HSEE:=Lib.hid hsee
      have H125:=Lib.hid h125
      clear hsee h125
      go_wp2_with fail
      refine (HSEE.out).mono ?_
      rintro e w6 ⟨rfl,n6,rfl⟩
      go_wp2_with fail
      go_end0
      have hO:OUT = .ok (one 2 q (s.extract j0 j2) ⟨#[]⟩ .nil) (j2 + 1):=by rw [HOUTE.out];simp [HO0.out,H125.out]
      rw [hO]
      exact ⟨⟨_,_,_,none,0,rfl,rfl,hNsz,Nat.zero_le _,HST.out.2.1,(fun _ _ _=>⟨Nat.le_refl _,Nat.zero_le _,.inl rfl⟩)⟩,HST.out.1,HST.out.2.2.trans (FrR.drewN _ _ _ _ n6)⟩
    ·have hemp2:(s.extract j1 j2).toList.isEmpty = false:=by
      rw [Lib.toList_data,HOP.out]
      have h1:((restAt s j1).take O).length = O:=by rw [List.length_take,restAt_len];omega
      cases h2:(restAt s j1).take O with
      | nil=>rw [h2] at h1;simp at h1;omega
      | cons=>rfl
     have hj2i:s.size - j2 < n:=by have:=HJ2.out;have:=HJ1.out;have:=HJ0.out;omega
     have hof:=HIO.out q d j2 rb W3 HC.out.1 q2 hj2i hd
     unfold ofF at hof
     have v4:=zc4 HC.out.2.1
     have HO0:=Lib.hid hO0
     clear hO0
     cases hout:(if q = true then markedF n s 125 d A0 j2 else bareF n s d A0 j2) with
     | bad j err =>
      rw [hout] at hof
      have HOF:=Lib.hid hof;have HOUT:=Lib.hid hout
      clear hof hout
      go_wp2_with fail
      refine (HOF.out).mono ?_
      rintro e W4 ⟨rfl,⟨j',hr4⟩,hf4⟩
      have HX:=Lib.hid (And.intro hr4 hf4)
      clear hr4 hf4
      go_wp2_with fail
      refine ⟨rfl,?_⟩
      have hO:OUT = .bad j err:=by rw [HOUTE.out];simp [HO0.out,HOUT.out]
      rw [hO]
      exact ⟨rfl,⟨j',HX.out.1⟩,HC.out.2.2.trans ⟨HX.out.2.os,HX.out.2.tape,HX.out.2.output,HX.out.2.size,fun b hb ho=>HX.out.2.block b hb (ho.imp (fun h=>⟨hb,h.2⟩) id)⟩⟩
     | ok f j =>
      have hjs:j≤s.size:=by
       cases q with
       | true=>exact ((ends_all s n).1 _ _ _ _ _ _ hout q2).2.1
       | false=>exact ((ends_all s n).2.1 _ _ _ _ _ hout q2).2
      rw [hout] at hof
      have HOF:=Lib.hid hof;have HOUT:=Lib.hid hout
      clear hof hout
      go_wp2_with fail
      refine (HOF.out).mono ?_
      rintro e W4 ⟨⟨a4,cap4,rfl,hl4⟩,hr4,hf4⟩
      have hfr4:FrR rb pb (fun _=>False) w W4:=HC.out.2.2.trans ⟨hf4.os,hf4.tape,hf4.output,hf4.size,fun b hb ho=>hf4.block b hb (ho.imp (fun h=>⟨hb,h.2⟩) id)⟩
      have hp4:PB W4 pb q (s.extract j0 j1) (s.extract j1 j2) (.slice none 0 0):=(hf4.block pb (Array.getElem?_eq_some_iff.1 HC.out.2.1).1 (.inl ⟨(Array.getElem?_eq_some_iff.1 HC.out.2.1).1,by omega⟩)).trans HC.out.2.1
      have x4:=zc4 hp4
      have x4f:=zf 4 hp4
      have hr5:RAt (W4.setCell ⟨pb,4,none⟩ (.slice a4 f.len cap4)) rb s j:=(Below.heap_setCell _ _ _ _ (by show rb ≠ pb;omega)).trans hr4
      have hp5:PB (W4.setCell ⟨pb,4,none⟩ (.slice a4 f.len cap4)) pb q (s.extract j0 j1) (s.extract j1 j2) (.slice a4 f.len cap4):=heap_setCell_same _ _ 4 _ _ (.slice a4 f.len cap4) hp4
      have hf5:FrR rb pb (fun _=>False) w (W4.setCell ⟨pb,4,none⟩ (.slice a4 f.len cap4)):=hfr4.trans ⟨rfl,rfl,rfl,by simp [World.setCell],fun b _ ho=>Below.heap_setCell _ _ _ _ (by
       show b ≠ pb
       rcases ho with ho | ho
       ·omega
       ·exact ho.elim)⟩
      have hl5:LiesS (fun b=>w.heap.size≤b) (W4.setCell ⟨pb,4,none⟩ (.slice a4 f.len cap4)) a4 cap4 f:=(hl4.mono (S':=fun b=>w.heap.size≤b) (fun b hb _=>by omega)).keep (by simp) fun b hb _=>Below.heap_setCell _ _ _ _ (by show b ≠ pb;omega)
      have H5:=Lib.hid (And.intro hr5 (And.intro hp5 (And.intro hf5 hl5)))
      clear hl4 hr4 hf4 hfr4 hp4 hr5 hp5 hf5 hl5
      go_wp2_with fail
      have h5:=H5.out
      generalize (W4.setCell ⟨pb,4,none⟩ (.slice a4 f.len cap4)) = W5 at h5 ⊢
      clear x4 x4f
      obtain ⟨hr5,hp5,hf5,hl5⟩:=h5
      have hsee:=sees_drawn0 rb j 125 s W5 hr5 hjs hs
      have v1:=hr5.c1
      have v1f:=hr5.f1
      have hset:=hr5.set (j + 1)
      rw [show ((j + 1:Nat):Int) = (j:Int) + 1 by omega] at hset
      have hpset:PB (W5.setCell ⟨rb,1,none⟩ (.int .i64 ((j:Int) + 1))) pb q (s.extract j0 j1) (s.extract j1 j2) (.slice a4 f.len cap4):=(Below.heap_setCell _ _ _ _ (by show pb ≠ rb;omega)).trans hp5
      have hfset:FrR rb pb (fun _=>False) w (W5.setCell ⟨rb,1,none⟩ (.int .i64 ((j:Int) + 1))):=hf5.set (fun h=>h) _ _
      have hlset:LiesS (fun b=>w.heap.size≤b) (W5.setCell ⟨rb,1,none⟩ (.int .i64 ((j:Int) + 1))) a4 cap4 f:=hl5.keep (by simp) fun b hb _=>Below.heap_setCell _ _ _ _ (by show b ≠ rb;omega)
      have HST:=Lib.hid (And.intro hset (And.intro hpset (And.intro hfset hlset)))
      have H55:=Lib.hid (And.intro hr5 hf5)
      clear hset hpset hfset hlset hr5 hp5 hf5 hl5 H5
      cases h125:seesB (restAt s j) 125
      ·rw [h125] at hsee
       have HSEE:=Lib.hid hsee
       have H125:=Lib.hid h125
       clear hsee h125
       go_wp2_with fail
       refine (HSEE.out).mono ?_
       rintro e w6 ⟨rfl,n6,rfl⟩
       go_wp2_with fail
       refine (wrong_any _ _).mono ?_
       rintro e w9 ⟨rfl,rfl⟩
       go_wp2_with fail
       refine ⟨rfl,?_⟩
       have hO:OUT = .bad i 1:=by rw [HOUTE.out];simp [HO0.out,HOUT.out,H125.out]
       rw [hO]
       exact ⟨rfl,⟨_,H55.out.1⟩,H55.out.2.trans (FrR.drewN _ _ _ _ _)⟩
      ·rw [h125] at hsee
       have HSEE:=Lib.hid hsee
       have H125:=Lib.hid h125
       clear hsee h125
       go_wp2_with fail
       refine (HSEE.out).mono ?_
       rintro e w6 ⟨rfl,n6,rfl⟩
       go_wp2_with fail
       go_end0
       have hO:OUT = .ok (one 2 q (s.extract j0 j1) (s.extract j1 j2) f) (j + 1):=by rw [HOUTE.out];simp [HO0.out,HOUT.out,H125.out]
       rw [hO]
       exact ⟨⟨_,_,_,a4,cap4,rfl,rfl,hNsz,hOsz,HST.out.2.1,HST.out.2.2.2.keep (Nat.le_refl _) (fun _ _ _=>rfl)⟩,HST.out.1,HST.out.2.2.1.trans (FrR.drewN _ _ _ _ n6)⟩
end Lx
end Go.Proofs.YtoklgmbpgnimcaaGreatDoor
