/- (*lex.reader).of, bracket: given what is read in double marks, and not. -/
import Derived.Test.YtckakkeejekibaaGreatDoorLxL
set_option maxHeartbeats 4000000
set_option maxRecDepth 100000
namespace Go.Proofs.YtckakkeejekibaaGreatDoor
open Go.RowKit Go.Sort
namespace Lx
open j6 Pt
def ofF (n:Nat) (s:ByteArray) (q:Bool) (d i:Nat):Out:=if q then markedF n s 125 d A0 i else bareF n s d A0 i
def Sd (s:ByteArray) (m:Nat):Prop:=∀ (q:Bool) (d i rb:Nat) (w:World),fV w rb s i→i≤s.size→s.size - i < m→d≤200 →
 Calls Tryz.prog 186 #[.pointer (some ⟨rb,0,none⟩),.bool q,.int .i64 d] w (Mk rb s w (ofF m s q d i))
theorem Si (s:ByteArray) (n:Nat) (IHM:si s n) (IHB:zt s n):Sd s n:=by
 intro q d i rb w hR hi hf hd;have hM:=IHM 125 d i rb w hR hi hf hd;have hB:=IHB d i rb w hR hi hf hd;unfold ofF;cases q with
 | true =>
  simp only [if_true];cases ho:markedF n s 125 d A0 i with
  | bad j err =>
   rw [ho] at hM;have HM:=kq hM;clear hM hB ho hR;go_enter Tryz.func186,Tryz.ntmps186;go_wp2_with fail;refine (HM.out).mono ?_;rintro e w1 ⟨rfl,hx⟩;have HX:=kq hx;clear hx;go_wp2_with fail;exact ⟨rfl,rfl,HX.out⟩
  | ok l j =>
   rw [ho] at hM;have HM:=kq hM;clear hM hB ho hR;go_enter Tryz.func186,Tryz.ntmps186;go_wp2_with fail;refine (HM.out).mono ?_;rintro e w1 ⟨⟨a,cap,rfl,hl⟩,hx⟩;have HX:=kq hx;have HL:=kq hl;clear hx hl;go_wp2_with fail;go_ret;exact ⟨⟨a,cap,rfl,HL.out⟩,HX.out⟩
 | false =>
  simp only [Bool.false_eq_true,if_false];cases ho:bareF n s d A0 i with
  | bad j err =>
   rw [ho] at hB;have HM:=kq hB;clear hM hB ho hR;go_enter Tryz.func186,Tryz.ntmps186;go_wp2_with fail;refine (HM.out).mono ?_;rintro e w1 ⟨rfl,hx⟩;have HX:=kq hx;clear hx;go_wp2_with fail;exact ⟨rfl,rfl,HX.out⟩
  | ok l j =>
   rw [ho] at hB;have HM:=kq hB;clear hM hB ho hR;go_enter Tryz.func186,Tryz.ntmps186;go_wp2_with fail;refine (HM.out).mono ?_;rintro e w1 ⟨⟨a,cap,rfl,hl⟩,hx⟩;have HX:=kq hx;have HL:=kq hl;clear hx hl;go_wp2_with fail;go_ret;exact ⟨⟨a,cap,rfl,HL.out⟩,HX.out⟩
def PB (w:World) (pb:Nat) (q:Bool) (t op:ByteArray) (v:Value):Prop:=w.heap[pb]? = some (.cells #[.int .i64 2,.bool q,.string t,.string op,v] 75 (0,0))
def bracketF (n:Nat) (s:ByteArray) (q:Bool) (d i:Nat):Out :=
 if !iZ ((ag s (i + 2)).take (aL (ag s (i + 2)) s.size)) || (xO ((ag s (i + 2 + aL (ag s (i + 2)) s.size)).take (gG (ag s (i + 2 + aL (ag s (i + 2)) s.size)))) && !bV ((ag s (i + 2)).take (aL (ag s (i + 2)) s.size))) then .bad i 1
 else if gG (ag s (i + 2 + aL (ag s (i + 2)) s.size)) = 0 then
  if seesB (ag s (i + 2 + aL (ag s (i + 2)) s.size)) 125 then .ok (one 2 q (s.extract (i + 2) (i + 2 + aL (ag s (i + 2)) s.size)) ⟨#[]⟩ .nil) (i + 2 + aL (ag s (i + 2)) s.size + 1) else .bad i 1
 else match (if q then markedF n s 125 d A0 (i + 2 + aL (ag s (i + 2)) s.size + gG (ag s (i + 2 + aL (ag s (i + 2)) s.size))) else bareF n s d A0 (i + 2 + aL (ag s (i + 2)) s.size + gG (ag s (i + 2 + aL (ag s (i + 2)) s.size)))) with
  | .bad j e=>.bad j e
  | .ok f j=>if seesB (ag s j) 125 then .ok (one 2 q (s.extract (i + 2) (i + 2 + aL (ag s (i + 2)) s.size)) (s.extract (i + 2 + aL (ag s (i + 2)) s.size) (i + 2 + aL (ag s (i + 2)) s.size + gG (ag s (i + 2 + aL (ag s (i + 2)) s.size)))) f) (j + 1) else .bad i 1
def Vz (rb pb:Nat) (s:ByteArray) (q:Bool) (w:World) (o:Out) (e:Ending) (w':World):Prop :=
 match o with
 | .ok p j=>(∃ t op f a cap,p = one 2 q t op f∧e = .returned (.tuple #[])∧t.size≤s.size∧op.size≤s.size∧PB w' pb q t op (.slice a f.len cap)∧cu (fun b=>w.heap.size≤b) w' a cap f)∧fV w' rb s j∧fI rb pb (fun _=>False) w w'
 | .bad j err=>e = thrown j err∧(∃ j',fV w' rb s j')∧fI rb pb (fun _=>False) w w'
theorem Jc {prog:Program} {f:FuncId} {args:Array Value} {w w0:World} {rb pb:Nat} {s:ByteArray} {q:Bool} (o:Out) (h:∀ o',o' = o→Calls prog f args w (Vz rb pb s q w0 o')):Calls prog f args w (Vz rb pb s q w0 o):=h o rfl
theorem Dq (s:ByteArray) (hs:s.size≤1000000) (n:Nat) (Uu:Sd s n) (q:Bool) (d i rb pb:Nat) (w:World) (hR:fV w rb s (i + 2)) (hi:i + 2≤s.size) (hf:s.size - i < n + 2) (hd:d≤200) (hP:PB w pb q ⟨#[]⟩ ⟨#[]⟩ (.slice none 0 0)) (hrp:rb < pb) :
  Calls Tryz.prog 166 #[.pointer (some ⟨rb,0,none⟩),.pointer (some ⟨pb,0,none⟩),.int .i64 i,.int .i64 d] w (Vz rb pb s q w (bracketF n s q d i)):=by
 unfold bracketF;obtain ⟨j0,hj0⟩:∃ j0,j0 = i + 2:=⟨_,rfl⟩;rw [← hj0] at hR hi ⊢
 have hn:=kE (ag s j0) s.size;rw [aQ] at hn;have hT:=fun w=>xN (s.extract j0 s.size) s.size w (by simp [ByteArray.size_extract];omega) (by omega);rw [iJ] at hT;generalize aL (ag s j0) s.size = T at hn hT ⊢
 obtain ⟨j1,hj1⟩:∃ j1,j1 = j0 + T:=⟨_,rfl⟩;rw [← hj1];have ho:=r9 (ag s j1);rw [aQ] at ho;have hO:=fun w=>Mc (s.extract j1 s.size) w (by simp [ByteArray.size_extract];omega);rw [iJ] at hO;generalize gG (ag s j1) = O at ho hO ⊢
 obtain ⟨j2,hj2⟩:∃ j2,j2 = j1 + O:=⟨_,rfl⟩;rw [← hj2];have Br:pb < w.heap.size:=(Array.getElem?_eq_some_iff.1 hP).1;have VA:=hR.lt;have c0:=hR.c0;have c1:=hR.c1;have a0:(0:Int)≤(j0:Int):=by omega
 have a1:(j0:Int)≤(s.size:Int):=by omega
 have q1:j1≤s.size:=by omega
 have q2:j2≤s.size:=by omega
 have jD:¬ (rb = pb):=by omega
 have Jd:¬ (pb = rb):=by omega
 -- the worlds on the way: the reader at j1,the name laid;the reader at j2,the operator laid
 have step1:∀ (w0 w1:World) (m j:Nat) (t op t':ByteArray) (v:Value) (x:Nat),fV w0 rb s x→PB w0 pb q t op v→fI rb pb (fun _=>False) w w0→Below w0.heap.size w0 w1 →
   fV (((w1.setCell ⟨rb,1,none⟩ (.int .i64 (j:Int))).drewN m).setCell ⟨pb,2,none⟩ (.string t')) rb s j∧PB (((w1.setCell ⟨rb,1,none⟩ (.int .i64 (j:Int))).drewN m).setCell ⟨pb,2,none⟩ (.string t')) pb q t' op v∧fI rb pb (fun _=>False) w (((w1.setCell ⟨rb,1,none⟩ (.int .i64 (j:Int))).drewN m).setCell ⟨pb,2,none⟩ (.string t')):=by
  intro w0 w1 m j t op t' v x hr hp hf hb;have uW:fV w1 rb s x:=(hb.block _ hr.lt).trans hr;have ny:PB w1 pb q t op v:=(hb.block _ (Array.getElem?_eq_some_iff.1 hp).1).trans hp;have nR:=uW.set j;have lF:PB (w1.setCell ⟨rb,1,none⟩ (.int .i64 (j:Int))) pb q t op v:=(Below.heap_setCell _ _ _ _ (by show pb ≠ rb;omega)).trans ny;refine ⟨(Below.heap_setCell _ _ _ _ (by show rb ≠ pb;omega)).trans nR,heap_setCell_same _ _ 2 _ _ (.string t') lF,?_⟩;refine (((hf.trans (fI.oJ (Fr.of_below hb))).set (fun h=>h) 1 (.int .i64 (j:Int))).trans (fI.drewN _ _ _ _ m)).trans ⟨rfl,rfl,rfl,by simp [World.setCell],fun b _ ho=>Below.heap_setCell _ _ _ _ ?_⟩;show b ≠ pb;rcases ho with ho | ho
  ·omega
  ·exact ho.elim
 have step2:∀ (w0 w1:World) (m j:Nat) (t op WQ:ByteArray) (v:Value) (x:Nat),fV w0 rb s x→PB w0 pb q t op v→fI rb pb (fun _=>False) w w0→Below w0.heap.size w0 w1 →
   fV (((w1.setCell ⟨rb,1,none⟩ (.int .i64 (j:Int))).drewN m).setCell ⟨pb,3,none⟩ (.string WQ)) rb s j∧PB (((w1.setCell ⟨rb,1,none⟩ (.int .i64 (j:Int))).drewN m).setCell ⟨pb,3,none⟩ (.string WQ)) pb q t WQ v∧fI rb pb (fun _=>False) w (((w1.setCell ⟨rb,1,none⟩ (.int .i64 (j:Int))).drewN m).setCell ⟨pb,3,none⟩ (.string WQ)):=by
  intro w0 w1 m j t op WQ v x hr hp hf hb;have uW:fV w1 rb s x:=(hb.block _ hr.lt).trans hr;have ny:PB w1 pb q t op v:=(hb.block _ (Array.getElem?_eq_some_iff.1 hp).1).trans hp;have nR:=uW.set j;have lF:PB (w1.setCell ⟨rb,1,none⟩ (.int .i64 (j:Int))) pb q t op v:=(Below.heap_setCell _ _ _ _ (by show pb ≠ rb;omega)).trans ny;refine ⟨(Below.heap_setCell _ _ _ _ (by show rb ≠ pb;omega)).trans nR,heap_setCell_same _ _ 3 _ _ (.string WQ) lF,?_⟩;refine (((hf.trans (fI.oJ (Fr.of_below hb))).set (fun h=>h) 1 (.int .i64 (j:Int))).trans (fI.drewN _ _ _ _ m)).trans ⟨rfl,rfl,rfl,by simp [World.setCell],fun b _ ho=>Below.heap_setCell _ _ _ _ ?_⟩;show b ≠ pb;rcases ho with ho | ho
  ·omega
  ·exact ho.elim
 have hN:(s.extract j0 j1).data.toList = (ag s j0).take T:=by rw [hj1];exact iK ..
 have hOp:(s.extract j1 j2).data.toList = (ag s j1).take O:=by rw [hj2];exact iK ..
 have Je:=fun W=>wL (s.extract j0 j1) W (by simp [ByteArray.size_extract];omega);have Sj:=fun w=>jq (s.extract j0 j1) w (by simp [ByteArray.size_extract];omega);have Sk:=fun w=>(Tryz.strings_HasSuffix (s.extract j1 j2) ⟨#[61]⟩ w (by simp [ByteArray.size_extract];omega)).mono fun e w' h=>And.intro h.1 h.2.symm;rw [hN] at Je Sj;rw [hOp,show (⟨#[61]⟩:ByteArray).data.toList = [61] from rfl,show Lib.hasSuffix ((ag s j1).take O) [61] = xO ((ag s j1).take O) from rfl] at Sk;generalize bV ((ag s j0).take T) = bN at Sj ⊢
 generalize iZ ((ag s j0).take T) = bP at Je ⊢
 generalize xO ((ag s j1).take O) = bS at Sk ⊢
 have HT:=kq hT;have HO:=kq hO;have HR:=kq hR;have HP:=kq hP;have HIO:=kq Uu;have HJ0:=kq hj0;have Uv:=kq hj1;have WR:=kq hj2;have ST1:=kq step1;have ST2:=kq step2;have HN:=kq hN;have HOP:=kq hOp;have XZ:=kq Je;have X0:=kq Sj;have VB:=kq Sk;clear hT hO hR hP Uu hj0 hj1 hj2 step1 step2 hN hOp Je Sj Sk;refine Jc _ fun Er X3=>?_;have nT:=kq X3;clear X3;go_enter Tryz.func166,Tryz.ntmps166;go_wp2_with fail;refine RN.begins (fun w'=>w'.cell? ⟨rb,0,none⟩ = some (.string s)∧w'.cell? ⟨rb,1,none⟩ = some (.int .i64 (j0:Int))) [0,17,18,19,20] (by kernel_rfl) ?_;have hS:w.drew.cell? ⟨rb,0,none⟩ = some (.string s)∧w.drew.cell? ⟨rb,1,none⟩ = some (.int .i64 (j0:Int)):=⟨c0,c1⟩;refine RN.nN (i:=0) (v:=?_) rfl (by decide) (by kernel_rfl) (by kernel_rfl) (by kernel_rfl) (by kernel_rfl) (by first | exact fun _ _ _ h=>h | exact fun _ _ _ h=>(by cases h.1) | exact fun _ _ _ h=>bE (by decide) h) (.inl ⟨by rfl,?_⟩) ?_;rotate_left 1
 ·(intro wq _;go_simp;try with_reducible rfl)
 refine RN.tk (i:=1) rfl hS (by intro wq hq;obtain ⟨s0,s1⟩:=hq;go_simp;try with_reducible rfl) ?_;refine RN.tk (i:=2) rfl hS (by intro wq hq;obtain ⟨s0,s1⟩:=hq;go_simp;try with_reducible rfl) ?_;refine RN.tk (i:=3) rfl hS (by intro wq hq;obtain ⟨s0,s1⟩:=hq;go_simp;try with_reducible rfl) ?_;refine RN.tk (i:=4) rfl hS (by intro wq hq;obtain ⟨s0,s1⟩:=hq;go_simp;try with_reducible rfl) ?_;refine RN.tk (i:=5) rfl hS (by intro wq hq;obtain ⟨s0,s1⟩:=hq;go_simp;try with_reducible rfl) ?_;refine RN.tk (i:=6) rfl hS (by intro wq hq;obtain ⟨s0,s1⟩:=hq;go_simp;try with_reducible rfl) ?_;refine RN.tk (i:=7) rfl hS (by intro wq hq;obtain ⟨s0,s1⟩:=hq;go_simp;try with_reducible rfl) ?_;refine RN.tk (i:=8) rfl hS (by intro wq hq;obtain ⟨s0,s1⟩:=hq;go_simp;try with_reducible rfl) ?_;refine RN.tk (i:=9) rfl hS (by intro wq hq;obtain ⟨s0,s1⟩:=hq;go_simp;try with_reducible rfl) ?_;refine RN.tk (i:=10) rfl hS (by intro wq hq;obtain ⟨s0,s1⟩:=hq;go_simp;try with_reducible rfl) ?_;refine RN.tk (i:=11) rfl hS (by intro wq hq;obtain ⟨s0,s1⟩:=hq;go_simp;try with_reducible rfl) ?_;refine RN.tk (i:=12) rfl hS (by intro wq hq;obtain ⟨s0,s1⟩:=hq;go_simp;try with_reducible rfl) ?_;refine RN.tk (i:=13) rfl hS (by intro wq hq;obtain ⟨s0,s1⟩:=hq;go_simp;try with_reducible rfl) ?_;refine RN.tk (i:=14) rfl hS (by intro wq hq;obtain ⟨s0,s1⟩:=hq;go_simp;try with_reducible rfl) ?_;refine RN.tk (i:=15) rfl hS (by intro wq hq;obtain ⟨s0,s1⟩:=hq;go_simp;try with_reducible rfl) ?_;refine RN.one 16 rfl fun K hK=>?_;go_simp;refine (HT.out _).mono ?_;rintro e w1 ⟨rfl,aP⟩;have uW:fV w1 rb s j0:=(aP.block _ VA).trans HR.out;refine hK _ _ (fun _=>⟨uW.c0,uW.c1⟩) ?_;clear hK K;refine RN.one 17 rfl fun K hK=>?_;go_simp;refine (rZ rb j0 T s w1 uW (by have:=Uv.out;omega) hs).mono ?_;rintro e w2 ⟨rfl,m1,rfl⟩;rw [← Uv.out];refine hK _ _ (fun h=>absurd h (by decide)) ?_;clear hK K;refine RN.nN (i:=18) (v:=?_) rfl (by decide) (by kernel_rfl) (by kernel_rfl) (by kernel_rfl) (by kernel_rfl) (by first | exact fun _ _ _ h=>h | exact fun _ _ _ h=>(by cases h.1) | exact fun _ _ _ h=>bE (by decide) h) (.inl ⟨by rfl,?_⟩) ?_;rotate_left 1
 ·(intro wq _;go_simp;try with_reducible rfl)
 refine RN.nN (i:=19) (v:=?_) rfl (by decide) (by kernel_rfl) (by kernel_rfl) (by kernel_rfl) (by kernel_rfl) (by first | exact fun _ _ _ h=>h | exact fun _ _ _ h=>(by cases h.1) | exact fun _ _ _ h=>bE (by decide) h) (.inl ⟨by rfl,?_⟩) ?_;rotate_left 1
 ·(intro wq _;go_simp;try with_reducible rfl)
 have O7:Below w.heap.size w w1:=⟨aP.os,aP.tape,aP.output,aP.size,aP.block⟩;have yC:=ST1.out w w1 m1 j1 _ _ (s.extract j0 j1) _ _ HR.out HP.out (fI.refl _ _ _ _) O7;have p1:PB w1 pb q ⟨#[]⟩ ⟨#[]⟩ (.slice none 0 0):=(aP.block _ Br).trans HP.out;have p2:PB (w1.setCell ⟨rb,1,none⟩ (.int .i64 (j1:Int))) pb q ⟨#[]⟩ ⟨#[]⟩ (.slice none 0 0):=(Below.heap_setCell _ _ _ _ (by show pb ≠ rb;omega)).trans p1;have k2:=ed p2;have k2f:=zf 2 p2;have X4:=kq yC;clear yC p1 p2 aP uW hS O7;refine RN.one 20 rfl fun K hK=>?_;go_simp;refine hK _ _ (fun h=>absurd h (by decide)) ?_;clear hK K;refine RN.done (by kernel_rfl) ?_ _;have yC:=X4.out;generalize (((w1.setCell ⟨rb,1,none⟩ (.int .i64 (j1:Int))).drewN m1).setCell ⟨pb,2,none⟩ (.string (s.extract j0 j1))) = W1 at yC ⊢
 obtain ⟨uW,ny,jT⟩:=yC;have d0:=uW.c0;have d1:=uW.c1;have b0:(0:Int)≤(j1:Int):=by omega
 have b1:(j1:Int)≤(s.size:Int):=by omega
 have KJ:=kq uW;have HP1:=kq ny;have RU:=kq jT;clear X4 k2 k2f uW ny jT c0 c1 a0 a1;go_wp2_with fail;refine RN.begins (fun w'=>w'.cell? ⟨rb,0,none⟩ = some (.string s)∧w'.cell? ⟨rb,1,none⟩ = some (.int .i64 (j1:Int))) [0,12,13,14,15] (by kernel_rfl) ?_;have hS:W1.drew.cell? ⟨rb,0,none⟩ = some (.string s)∧W1.drew.cell? ⟨rb,1,none⟩ = some (.int .i64 (j1:Int)):=⟨d0,d1⟩;refine RN.nN (i:=0) (v:=?_) rfl (by decide) (by kernel_rfl) (by kernel_rfl) (by kernel_rfl) (by kernel_rfl) (by first | exact fun _ _ _ h=>h | exact fun _ _ _ h=>(by cases h.1) | exact fun _ _ _ h=>bE (by decide) h) (.inl ⟨by rfl,?_⟩) ?_;rotate_left 1
 ·(intro wq _;go_simp;try with_reducible rfl)
 refine RN.tk (i:=1) rfl hS (by intro wq hq;obtain ⟨s0,s1⟩:=hq;go_simp;try with_reducible rfl) ?_;refine RN.tk (i:=2) rfl hS (by intro wq hq;obtain ⟨s0,s1⟩:=hq;go_simp;try with_reducible rfl) ?_;refine RN.tk (i:=3) rfl hS (by intro wq hq;obtain ⟨s0,s1⟩:=hq;go_simp;try with_reducible rfl) ?_;refine RN.tk (i:=4) rfl hS (by intro wq hq;obtain ⟨s0,s1⟩:=hq;go_simp;try with_reducible rfl) ?_;refine RN.tk (i:=5) rfl hS (by intro wq hq;obtain ⟨s0,s1⟩:=hq;go_simp;try with_reducible rfl) ?_;refine RN.tk (i:=6) rfl hS (by intro wq hq;obtain ⟨s0,s1⟩:=hq;go_simp;try with_reducible rfl) ?_;refine RN.tk (i:=7) rfl hS (by intro wq hq;obtain ⟨s0,s1⟩:=hq;go_simp;try with_reducible rfl) ?_;refine RN.tk (i:=8) rfl hS (by intro wq hq;obtain ⟨s0,s1⟩:=hq;go_simp;try with_reducible rfl) ?_;refine RN.tk (i:=9) rfl hS (by intro wq hq;obtain ⟨s0,s1⟩:=hq;go_simp;try with_reducible rfl) ?_;refine RN.tk (i:=10) rfl hS (by intro wq hq;obtain ⟨s0,s1⟩:=hq;go_simp;try with_reducible rfl) ?_;refine RN.one 11 rfl fun K hK=>?_;go_simp;refine (HO.out _).mono ?_;rintro e w2 ⟨rfl,rfl⟩;refine hK _ _ (fun _=>hS) ?_;clear hK K;refine RN.one 12 rfl fun K hK=>?_;go_simp;refine (rZ rb j1 O s W1.drew KJ.out (by have:=WR.out;omega) hs).mono ?_;rintro e w3 ⟨rfl,m2,rfl⟩;rw [← WR.out];refine hK _ _ (fun h=>absurd h (by decide)) ?_;clear hK K;refine RN.nN (i:=13) (v:=?_) rfl (by decide) (by kernel_rfl) (by kernel_rfl) (by kernel_rfl) (by kernel_rfl) (by first | exact fun _ _ _ h=>h | exact fun _ _ _ h=>(by cases h.1) | exact fun _ _ _ h=>bE (by decide) h) (.inl ⟨by rfl,?_⟩) ?_;rotate_left 1
 ·(intro wq _;go_simp;try with_reducible rfl)
 refine RN.nN (i:=14) (v:=?_) rfl (by decide) (by kernel_rfl) (by kernel_rfl) (by kernel_rfl) (by kernel_rfl) (by first | exact fun _ _ _ h=>h | exact fun _ _ _ h=>(by cases h.1) | exact fun _ _ _ h=>bE (by decide) h) (.inl ⟨by rfl,?_⟩) ?_;rotate_left 1
 ·(intro wq _;go_simp;try with_reducible rfl)
 have zu:=ST2.out W1 W1 (1 + m2) j2 _ _ (s.extract j1 j2) _ _ KJ.out HP1.out RU.out (Below.refl _ _);have p2:PB (W1.setCell ⟨rb,1,none⟩ (.int .i64 (j2:Int))) pb q (s.extract j0 j1) ⟨#[]⟩ (.slice none 0 0):=(Below.heap_setCell _ _ _ _ (by show pb ≠ rb;omega)).trans HP1.out;have k3:=fA p2;have k3f:=zf 3 p2;have X5:=kq zu;clear zu p2 hS d0 d1;refine RN.one 15 rfl fun K hK=>?_;go_simp;refine hK _ _ (fun h=>absurd h (by decide)) ?_;clear hK K;refine RN.done (by kernel_rfl) ?_ _;have zu:=X5.out;generalize (((W1.setCell ⟨rb,1,none⟩ (.int .i64 (j2:Int))).drewN (1 + m2)).setCell ⟨pb,3,none⟩ (.string (s.extract j1 j2))) = W2 at zu ⊢
 obtain ⟨nR,lF,tV⟩:=zu;have t2:=ed lF;have Je:=XZ.out W2;have Sm:(s.extract j0 j1).size≤s.size:=by simp [ByteArray.size_extract];omega
 have X6:(s.extract j1 j2).size≤s.size:=by simp [ByteArray.size_extract];omega
 have KL:=kq nR;have VD:=kq lF;have Rm:=kq tV;have qN:=kq Je
 -- behind class.Param
 have cont:∀ W3,Below W2.heap.size W2 W3→fV W3 rb s j2∧PB W3 pb q (s.extract j0 j1) (s.extract j1 j2) (.slice none 0 0)∧fI rb pb (fun _=>False) w W3:=fun W3 hb =>
  ⟨(hb.block _ nR.lt).trans nR,(hb.block _ (Array.getElem?_eq_some_iff.1 lF).1).trans lF,tV.trans (fI.oJ (Fr.of_below hb))⟩
 have Sn:=kq cont;clear X5 k3 k3f nR lF tV cont b0 b1 Je;cases bP
 ·skip
  go_wp2_with fail;refine (qN.out).mono ?_;rintro e W3 ⟨rfl,hb3⟩;have hc:=Sn.out W3 hb3;have u2:=ed hc.2.1;have u3:=fA hc.2.1;have u1:=dA hc.2.1;have O4:w.heap.size≤W3.heap.size:=hc.2.2.size;have HC:=kq hc;clear hb3 hc t2;go_wp2_with fail;refine (cZ _ _).mono ?_;rintro e w9 ⟨rfl,rfl⟩;go_wp2_with fail;refine ⟨rfl,?_⟩;have hO:Er = .bad i 1:=by rw [nT.out];simp
  rw [hO];exact ⟨rfl,⟨_,HC.out.1⟩,HC.out.2.2⟩
 ·cases bS
  ·skip
   go_wp2_with fail;refine (qN.out).mono ?_;rintro e W3 ⟨rfl,hb3⟩;have hc:=Sn.out W3 hb3;have u2:=ed hc.2.1;have u3:=fA hc.2.1;have u1:=dA hc.2.1;have O4:w.heap.size≤W3.heap.size:=hc.2.2.size;have HC:=kq hc;clear hb3 hc t2;have Io:=kq (VB.out W3);go_wp2_with fail;refine (Io.out).mono ?_;rintro e w4 ⟨rfl,rfl⟩
   by_cases Et:O = 0
   ·have VE:j2 = j1:=by have:=WR.out;omega
    subst VE;have qO:(s.extract j2 j2).toList = []:=by rw [Lib.toList_data,HOP.out,Et];rfl
    have O8:(s.extract j2 j2).toList.isEmpty = true:=by rw [qO];rfl
    have Jf:s.extract j2 j2 = ⟨#[]⟩:=bytes_inj (by simp [qO,Lib.toList_data]);have jc:=iL rb j2 125 s W3 HC.out.1 (by omega) hs;have v1:=HC.out.1.c1;have X7:=HC.out.1.f1;have nU:=HC.out.1.set (j2 + 1);rw [show ((j2 + 1:Nat):Int) = (j2:Int) + 1 by omega] at nU;have kT:PB (W3.setCell ⟨rb,1,none⟩ (.int .i64 ((j2:Int) + 1))) pb q (s.extract j0 j2) (s.extract j2 j2) (.slice none 0 0):=(Below.heap_setCell _ _ _ _ (by show pb ≠ rb;omega)).trans HC.out.2.1;have jK:fI rb pb (fun _=>False) w (W3.setCell ⟨rb,1,none⟩ (.int .i64 ((j2:Int) + 1))):=HC.out.2.2.set (fun h=>h) _ _;rw [Jf] at kT;have jb:=kq (And.intro nU (And.intro kT jK));have HE:=kq qO;have HOE:=kq Jf;have Mv:=kq Et;clear nU kT jK qO Jf Et;cases lW:seesB (ag s j2) 125
    ·rw [lW] at jc;have oO:=kq jc;have uD:=kq lW;clear jc lW;go_wp2_with fail;refine (oO.out).mono ?_;rintro e w6 ⟨rfl,n6,rfl⟩;go_wp2_with fail;refine (cZ _ _).mono ?_;rintro e w9 ⟨rfl,rfl⟩;go_wp2_with fail;refine ⟨rfl,?_⟩;have hO:Er = .bad i 1:=by rw [nT.out];simp [Mv.out,uD.out]
     rw [hO];exact ⟨rfl,⟨_,HC.out.1⟩,HC.out.2.2.trans (fI.drewN _ _ _ _ _)⟩
    ·rw [lW] at jc;have oO:=kq jc;have uD:=kq lW;clear jc lW;go_wp2_with fail;refine (oO.out).mono ?_;rintro e w6 ⟨rfl,n6,rfl⟩;go_wp2_with fail;go_end0;have hO:Er = .ok (one 2 q (s.extract j0 j2) ⟨#[]⟩ .nil) (j2 + 1):=by rw [nT.out];simp [Mv.out,uD.out]
     rw [hO];exact ⟨⟨_,_,_,none,0,rfl,rfl,Sm,Nat.zero_le _,jb.out.2.1,(fun _ _ _=>⟨Nat.le_refl _,Nat.zero_le _,.inl rfl⟩)⟩,jb.out.1,jb.out.2.2.trans (fI.drewN _ _ _ _ n6)⟩
   ·have O8:(s.extract j1 j2).toList.isEmpty = false:=by
     rw [Lib.toList_data,HOP.out];have h1:((ag s j1).take O).length = O:=by rw [List.length_take,aQ];omega
     cases h2:(ag s j1).take O with
     | nil=>rw [h2] at h1;simp at h1;omega
     | cons=>rfl
    have VF:s.size - j2 < n:=by have:=WR.out;have:=Uv.out;have:=HJ0.out;omega
    have Cb:=HIO.out q d j2 rb W3 HC.out.1 q2 VF hd;unfold ofF at Cb;have v4:=dS HC.out.2.1;have Mv:=kq Et;clear Et;cases hout:(if q = true then markedF n s 125 d A0 j2 else bareF n s d A0 j2) with
    | bad j err =>
     rw [hout] at Cb;have VG:=kq Cb;have zw:=kq hout;clear Cb hout;go_wp2_with fail;refine (VG.out).mono ?_;rintro e W4 ⟨rfl,⟨j',O9⟩,wV⟩;have HX:=kq (And.intro O9 wV);clear O9 wV;go_wp2_with fail;refine ⟨rfl,?_⟩;have hO:Er = .bad j err:=by rw [nT.out];simp [Mv.out,zw.out]
     rw [hO];exact ⟨rfl,⟨j',HX.out.1⟩,HC.out.2.2.trans ⟨HX.out.2.os,HX.out.2.tape,HX.out.2.output,HX.out.2.size,fun b hb ho=>HX.out.2.block b hb (ho.imp (fun h=>⟨hb,h.2⟩) id)⟩⟩
    | ok f j =>
     have ET:j≤s.size:=by
      cases q with
      | true=>exact ((jr s n).1 _ _ _ _ _ _ hout q2).2.1
      | false=>exact ((jr s n).2.1 _ _ _ _ _ hout q2).2
     rw [hout] at Cb;have VG:=kq Cb;have zw:=kq hout;clear Cb hout;go_wp2_with fail;refine (VG.out).mono ?_;rintro e W4 ⟨⟨a4,cap4,rfl,hl4⟩,O9,wV⟩;have Pf:fI rb pb (fun _=>False) w W4:=HC.out.2.2.trans ⟨wV.os,wV.tape,wV.output,wV.size,fun b hb ho=>wV.block b hb (ho.imp (fun h=>⟨hb,h.2⟩) id)⟩;have Om:PB W4 pb q (s.extract j0 j1) (s.extract j1 j2) (.slice none 0 0):=(wV.block pb (Array.getElem?_eq_some_iff.1 HC.out.2.1).1 (.inl ⟨(Array.getElem?_eq_some_iff.1 HC.out.2.1).1,by omega⟩)).trans HC.out.2.1;have x4:=dS Om;have x4f:=zf 4 Om;have Dr:fV (W4.setCell ⟨pb,4,none⟩ (.slice a4 f.len cap4)) rb s j:=(Below.heap_setCell _ _ _ _ (by show rb ≠ pb;omega)).trans O9;have KM:PB (W4.setCell ⟨pb,4,none⟩ (.slice a4 f.len cap4)) pb q (s.extract j0 j1) (s.extract j1 j2) (.slice a4 f.len cap4):=heap_setCell_same _ _ 4 _ _ (.slice a4 f.len cap4) Om
     have Mw:fI rb pb (fun _=>False) w (W4.setCell ⟨pb,4,none⟩ (.slice a4 f.len cap4)):=Pf.trans ⟨rfl,rfl,rfl,by simp [World.setCell],fun b _ ho=>Below.heap_setCell _ _ _ _ (by
      show b ≠ pb;rcases ho with ho | ho
      ·omega
      ·exact ho.elim)⟩
     have KN:cu (fun b=>w.heap.size≤b) (W4.setCell ⟨pb,4,none⟩ (.slice a4 f.len cap4)) a4 cap4 f:=(hl4.mono (S':=fun b=>w.heap.size≤b) (fun b hb _=>by omega)).keep (by simp) fun b hb _=>Below.heap_setCell _ _ _ _ (by show b ≠ pb;omega);have H5:=kq (And.intro Dr (And.intro KM (And.intro Mw KN)));clear hl4 O9 wV Pf Om Dr KM Mw KN;go_wp2_with fail;have h5:=H5.out;generalize (W4.setCell ⟨pb,4,none⟩ (.slice a4 f.len cap4)) = W5 at h5 ⊢
     clear x4 x4f;obtain ⟨Dr,KM,Mw,KN⟩:=h5;have jc:=iL rb j 125 s W5 Dr ET hs;have v1:=Dr.c1;have X7:=Dr.f1;have nU:=Dr.set (j + 1);rw [show ((j + 1:Nat):Int) = (j:Int) + 1 by omega] at nU;have kT:PB (W5.setCell ⟨rb,1,none⟩ (.int .i64 ((j:Int) + 1))) pb q (s.extract j0 j1) (s.extract j1 j2) (.slice a4 f.len cap4):=(Below.heap_setCell _ _ _ _ (by show pb ≠ rb;omega)).trans KM;have jK:fI rb pb (fun _=>False) w (W5.setCell ⟨rb,1,none⟩ (.int .i64 ((j:Int) + 1))):=Mw.set (fun h=>h) _ _;have FX:cu (fun b=>w.heap.size≤b) (W5.setCell ⟨rb,1,none⟩ (.int .i64 ((j:Int) + 1))) a4 cap4 f:=KN.keep (by simp) fun b hb _=>Below.heap_setCell _ _ _ _ (by show b ≠ rb;omega);have jb:=kq (And.intro nU (And.intro kT (And.intro jK FX)));have X8:=kq (And.intro Dr Mw);clear nU kT jK FX Dr KM Mw KN H5;cases lW:seesB (ag s j) 125
     ·rw [lW] at jc;have oO:=kq jc;have uD:=kq lW;clear jc lW;go_wp2_with fail;refine (oO.out).mono ?_;rintro e w6 ⟨rfl,n6,rfl⟩;go_wp2_with fail;refine (cZ _ _).mono ?_;rintro e w9 ⟨rfl,rfl⟩;go_wp2_with fail;refine ⟨rfl,?_⟩;have hO:Er = .bad i 1:=by rw [nT.out];simp [Mv.out,zw.out,uD.out]
      rw [hO];exact ⟨rfl,⟨_,X8.out.1⟩,X8.out.2.trans (fI.drewN _ _ _ _ _)⟩
     ·rw [lW] at jc;have oO:=kq jc;have uD:=kq lW;clear jc lW;go_wp2_with fail;refine (oO.out).mono ?_;rintro e w6 ⟨rfl,n6,rfl⟩;go_wp2_with fail;go_end0;have hO:Er = .ok (one 2 q (s.extract j0 j1) (s.extract j1 j2) f) (j + 1):=by rw [nT.out];simp [Mv.out,zw.out,uD.out]
      rw [hO];exact ⟨⟨_,_,_,a4,cap4,rfl,rfl,Sm,X6,jb.out.2.1,jb.out.2.2.2.keep (Nat.le_refl _) (fun _ _ _=>rfl)⟩,jb.out.1,jb.out.2.2.1.trans (fI.drewN _ _ _ _ n6)⟩
  ·cases bN
   ·skip
    go_wp2_with fail;refine (qN.out).mono ?_;rintro e W3 ⟨rfl,hb3⟩;have hc:=Sn.out W3 hb3;have u2:=ed hc.2.1;have u3:=fA hc.2.1;have u1:=dA hc.2.1;have O4:w.heap.size≤W3.heap.size:=hc.2.2.size;have HC:=kq hc;clear hb3 hc t2;have Io:=kq (VB.out W3);go_wp2_with fail;refine (Io.out).mono ?_;rintro e w4 ⟨rfl,rfl⟩;have Rv:=kq (X0.out W3);go_wp2_with fail;refine (Rv.out).mono ?_;rintro e w5 ⟨rfl,rfl⟩;go_wp2_with fail;refine (cZ _ _).mono ?_;rintro e w9 ⟨rfl,rfl⟩;go_wp2_with fail;refine ⟨rfl,?_⟩;have hO:Er = .bad i 1:=by rw [nT.out];simp
    rw [hO];exact ⟨rfl,⟨_,HC.out.1⟩,HC.out.2.2⟩
   ·skip
    go_wp2_with fail;refine (qN.out).mono ?_;rintro e W3 ⟨rfl,hb3⟩;have hc:=Sn.out W3 hb3;have u2:=ed hc.2.1;have u3:=fA hc.2.1;have u1:=dA hc.2.1;have O4:w.heap.size≤W3.heap.size:=hc.2.2.size;have HC:=kq hc;clear hb3 hc t2;have Io:=kq (VB.out W3);go_wp2_with fail;refine (Io.out).mono ?_;rintro e w4 ⟨rfl,rfl⟩;have Rv:=kq (X0.out W3);go_wp2_with fail;refine (Rv.out).mono ?_;rintro e w5 ⟨rfl,rfl⟩
    by_cases Et:O = 0
    ·have VE:j2 = j1:=by have:=WR.out;omega
     subst VE;have qO:(s.extract j2 j2).toList = []:=by rw [Lib.toList_data,HOP.out,Et];rfl
     have O8:(s.extract j2 j2).toList.isEmpty = true:=by rw [qO];rfl
     have Jf:s.extract j2 j2 = ⟨#[]⟩:=bytes_inj (by simp [qO,Lib.toList_data]);have jc:=iL rb j2 125 s W3 HC.out.1 (by omega) hs;have v1:=HC.out.1.c1;have X7:=HC.out.1.f1;have nU:=HC.out.1.set (j2 + 1);rw [show ((j2 + 1:Nat):Int) = (j2:Int) + 1 by omega] at nU;have kT:PB (W3.setCell ⟨rb,1,none⟩ (.int .i64 ((j2:Int) + 1))) pb q (s.extract j0 j2) (s.extract j2 j2) (.slice none 0 0):=(Below.heap_setCell _ _ _ _ (by show pb ≠ rb;omega)).trans HC.out.2.1;have jK:fI rb pb (fun _=>False) w (W3.setCell ⟨rb,1,none⟩ (.int .i64 ((j2:Int) + 1))):=HC.out.2.2.set (fun h=>h) _ _;rw [Jf] at kT;have jb:=kq (And.intro nU (And.intro kT jK));have HE:=kq qO;have HOE:=kq Jf;have Mv:=kq Et;clear nU kT jK qO Jf Et;cases lW:seesB (ag s j2) 125
     ·rw [lW] at jc;have oO:=kq jc;have uD:=kq lW;clear jc lW;go_wp2_with fail;refine (oO.out).mono ?_;rintro e w6 ⟨rfl,n6,rfl⟩;go_wp2_with fail;refine (cZ _ _).mono ?_;rintro e w9 ⟨rfl,rfl⟩;go_wp2_with fail;refine ⟨rfl,?_⟩;have hO:Er = .bad i 1:=by rw [nT.out];simp [Mv.out,uD.out]
      rw [hO];exact ⟨rfl,⟨_,HC.out.1⟩,HC.out.2.2.trans (fI.drewN _ _ _ _ _)⟩
     ·rw [lW] at jc;have oO:=kq jc;have uD:=kq lW;clear jc lW;go_wp2_with fail;refine (oO.out).mono ?_;rintro e w6 ⟨rfl,n6,rfl⟩;go_wp2_with fail;go_end0;have hO:Er = .ok (one 2 q (s.extract j0 j2) ⟨#[]⟩ .nil) (j2 + 1):=by rw [nT.out];simp [Mv.out,uD.out]
      rw [hO];exact ⟨⟨_,_,_,none,0,rfl,rfl,Sm,Nat.zero_le _,jb.out.2.1,(fun _ _ _=>⟨Nat.le_refl _,Nat.zero_le _,.inl rfl⟩)⟩,jb.out.1,jb.out.2.2.trans (fI.drewN _ _ _ _ n6)⟩
    ·have O8:(s.extract j1 j2).toList.isEmpty = false:=by
      rw [Lib.toList_data,HOP.out];have h1:((ag s j1).take O).length = O:=by rw [List.length_take,aQ];omega
      cases h2:(ag s j1).take O with
      | nil=>rw [h2] at h1;simp at h1;omega
      | cons=>rfl
     have VF:s.size - j2 < n:=by have:=WR.out;have:=Uv.out;have:=HJ0.out;omega
     have Cb:=HIO.out q d j2 rb W3 HC.out.1 q2 VF hd;unfold ofF at Cb;have v4:=dS HC.out.2.1;have Mv:=kq Et;clear Et;cases hout:(if q = true then markedF n s 125 d A0 j2 else bareF n s d A0 j2) with
     | bad j err =>
      rw [hout] at Cb;have VG:=kq Cb;have zw:=kq hout;clear Cb hout;go_wp2_with fail;refine (VG.out).mono ?_;rintro e W4 ⟨rfl,⟨j',O9⟩,wV⟩;have HX:=kq (And.intro O9 wV);clear O9 wV;go_wp2_with fail;refine ⟨rfl,?_⟩;have hO:Er = .bad j err:=by rw [nT.out];simp [Mv.out,zw.out]
      rw [hO];exact ⟨rfl,⟨j',HX.out.1⟩,HC.out.2.2.trans ⟨HX.out.2.os,HX.out.2.tape,HX.out.2.output,HX.out.2.size,fun b hb ho=>HX.out.2.block b hb (ho.imp (fun h=>⟨hb,h.2⟩) id)⟩⟩
     | ok f j =>
      have ET:j≤s.size:=by
       cases q with
       | true=>exact ((jr s n).1 _ _ _ _ _ _ hout q2).2.1
       | false=>exact ((jr s n).2.1 _ _ _ _ _ hout q2).2
      rw [hout] at Cb;have VG:=kq Cb;have zw:=kq hout;clear Cb hout;go_wp2_with fail;refine (VG.out).mono ?_;rintro e W4 ⟨⟨a4,cap4,rfl,hl4⟩,O9,wV⟩;have Pf:fI rb pb (fun _=>False) w W4:=HC.out.2.2.trans ⟨wV.os,wV.tape,wV.output,wV.size,fun b hb ho=>wV.block b hb (ho.imp (fun h=>⟨hb,h.2⟩) id)⟩;have Om:PB W4 pb q (s.extract j0 j1) (s.extract j1 j2) (.slice none 0 0):=(wV.block pb (Array.getElem?_eq_some_iff.1 HC.out.2.1).1 (.inl ⟨(Array.getElem?_eq_some_iff.1 HC.out.2.1).1,by omega⟩)).trans HC.out.2.1;have x4:=dS Om;have x4f:=zf 4 Om;have Dr:fV (W4.setCell ⟨pb,4,none⟩ (.slice a4 f.len cap4)) rb s j:=(Below.heap_setCell _ _ _ _ (by show rb ≠ pb;omega)).trans O9;have KM:PB (W4.setCell ⟨pb,4,none⟩ (.slice a4 f.len cap4)) pb q (s.extract j0 j1) (s.extract j1 j2) (.slice a4 f.len cap4):=heap_setCell_same _ _ 4 _ _ (.slice a4 f.len cap4) Om
      have Mw:fI rb pb (fun _=>False) w (W4.setCell ⟨pb,4,none⟩ (.slice a4 f.len cap4)):=Pf.trans ⟨rfl,rfl,rfl,by simp [World.setCell],fun b _ ho=>Below.heap_setCell _ _ _ _ (by
       show b ≠ pb;rcases ho with ho | ho
       ·omega
       ·exact ho.elim)⟩
      have KN:cu (fun b=>w.heap.size≤b) (W4.setCell ⟨pb,4,none⟩ (.slice a4 f.len cap4)) a4 cap4 f:=(hl4.mono (S':=fun b=>w.heap.size≤b) (fun b hb _=>by omega)).keep (by simp) fun b hb _=>Below.heap_setCell _ _ _ _ (by show b ≠ pb;omega);have H5:=kq (And.intro Dr (And.intro KM (And.intro Mw KN)));clear hl4 O9 wV Pf Om Dr KM Mw KN;go_wp2_with fail;have h5:=H5.out;generalize (W4.setCell ⟨pb,4,none⟩ (.slice a4 f.len cap4)) = W5 at h5 ⊢
      clear x4 x4f;obtain ⟨Dr,KM,Mw,KN⟩:=h5;have jc:=iL rb j 125 s W5 Dr ET hs;have v1:=Dr.c1;have X7:=Dr.f1;have nU:=Dr.set (j + 1);rw [show ((j + 1:Nat):Int) = (j:Int) + 1 by omega] at nU;have kT:PB (W5.setCell ⟨rb,1,none⟩ (.int .i64 ((j:Int) + 1))) pb q (s.extract j0 j1) (s.extract j1 j2) (.slice a4 f.len cap4):=(Below.heap_setCell _ _ _ _ (by show pb ≠ rb;omega)).trans KM;have jK:fI rb pb (fun _=>False) w (W5.setCell ⟨rb,1,none⟩ (.int .i64 ((j:Int) + 1))):=Mw.set (fun h=>h) _ _;have FX:cu (fun b=>w.heap.size≤b) (W5.setCell ⟨rb,1,none⟩ (.int .i64 ((j:Int) + 1))) a4 cap4 f:=KN.keep (by simp) fun b hb _=>Below.heap_setCell _ _ _ _ (by show b ≠ rb;omega);have jb:=kq (And.intro nU (And.intro kT (And.intro jK FX)));have X8:=kq (And.intro Dr Mw);clear nU kT jK FX Dr KM Mw KN H5;cases lW:seesB (ag s j) 125
      ·rw [lW] at jc;have oO:=kq jc;have uD:=kq lW;clear jc lW;go_wp2_with fail;refine (oO.out).mono ?_;rintro e w6 ⟨rfl,n6,rfl⟩;go_wp2_with fail;refine (cZ _ _).mono ?_;rintro e w9 ⟨rfl,rfl⟩;go_wp2_with fail;refine ⟨rfl,?_⟩;have hO:Er = .bad i 1:=by rw [nT.out];simp [Mv.out,zw.out,uD.out]
       rw [hO];exact ⟨rfl,⟨_,X8.out.1⟩,X8.out.2.trans (fI.drewN _ _ _ _ _)⟩
      ·rw [lW] at jc;have oO:=kq jc;have uD:=kq lW;clear jc lW;go_wp2_with fail;refine (oO.out).mono ?_;rintro e w6 ⟨rfl,n6,rfl⟩;go_wp2_with fail;go_end0;have hO:Er = .ok (one 2 q (s.extract j0 j1) (s.extract j1 j2) f) (j + 1):=by rw [nT.out];simp [Mv.out,zw.out,uD.out]
       rw [hO];exact ⟨⟨_,_,_,a4,cap4,rfl,rfl,Sm,X6,jb.out.2.1,jb.out.2.2.2.keep (Nat.le_refl _) (fun _ _ _=>rfl)⟩,jb.out.1,jb.out.2.2.1.trans (fI.drewN _ _ _ _ n6)⟩
end Lx
end Go.Proofs.YtckakkeejekibaaGreatDoor
