/- (*lex.parts).begin, put, text, add, all. -/
import Derived.Test.YtckakkeejekibaaGreatDoorLxC
set_option maxHeartbeats 1600000
set_option maxRecDepth 100000
namespace Go.Proofs.YtckakkeejekibaaGreatDoor
open Go.RowKit Go.Sort
namespace Lx
open j6 Pt
attribute [local go_sem ↓] Go.wp_at_zero Go.wp_at_succ
theorem Dj (B:Nat) (S:Nat→Prop) (p:Nat) (a:A) (w:World) (h:dV w B S p a) (hl:a.l.len≤100000000) (hbs:a.bytes.length≤100000000) (qH:∀ x,S x→x < w.heap.size) :
  Calls Tryz.prog 164 #[.pointer (some ⟨p,0,none⟩)] w (OT B S p a w):=by
 obtain ⟨l,cur⟩:=a
 match cur with
 | none=>exact OU B S p l w h
 | some (q,bs)=>exact OV B S p l q bs w h hl hbs qH
theorem zk {w:World} {B p:Nat} {S:Nat→Prop} {vl vb v2 v3:Value} {l:PL} {bs:List UInt8} (q:Bool) (hp:w.heap[p]? = some (.cells #[vl,vb,v2,v3] 145 (0,0))) (hB:B≤p) (hS:¬ S p)
  (hb:Body w B S vl vb l bs):dV ((w.setCell ⟨p,2,none⟩ (.bool true)).setCell ⟨p,3,none⟩ (.bool q)) B S p ⟨l,some (q,bs)⟩∧Fr B S w ((w.setCell ⟨p,2,none⟩ (.bool true)).setCell ⟨p,3,none⟩ (.bool q)):=by
 have g1:=heap_setCell_same _ _ 2 _ _ (.bool true) hp;have g2:=heap_setCell_same _ _ 3 _ _ (.bool q) g1;refine ⟨⟨vl,vb,q,g2,hB,hS,(fun x h=>by cases h;rfl),(hb.OP hp hS _ _).OP g1 hS _ _⟩,((Fr.refl B S w).setCell hB hS _).setCell hB hS _⟩
theorem BV (B:Nat) (S:Nat→Prop) (p:Nat) (a:A) (q:Bool) (w:World) (h:dV w B S p a) (hl:a.l.len≤100000000) (hbs:a.bytes.length≤100000000) (qH:∀ x,S x→x < w.heap.size) :
  Calls Tryz.prog 171 #[.pointer (some ⟨p,0,none⟩),.bool q] w fun e w'=>e = .returned (.tuple #[])∧dV w' B S p (a.begins q)∧Fr B S w w':=by
 have hE:=Dj B S p a w h hl hbs qH;obtain ⟨l,cur⟩:=a;obtain ⟨vl,vb,q0,hp,hB,hS,hq,ky⟩:=h;have c2:=ed hp;have c3:=fA hp;have f2:=zf 2 hp;have f3:=zf 3 hp;have HE:=kq hE;have HB:=kq hB;clear hE hB qH
 match cur with
 | none =>
  simp only [Option.isSome] at c2;have HM:=kq (zk q hp HB.out hS ky);clear hp ky hq;go_enter Tryz.func171,Tryz.ntmps171;go_wp2_with fail;go_end0;exact ⟨rfl,HM.out.1,HM.out.2⟩
 | some (q1,bs) =>
  obtain rfl:=hq _ rfl;simp only [Option.isSome] at c2;cases hqq:(q0 == q)
  ·have hqn:(!q0 == q) = true:=by rw [hqq];rfl
   have ae4:(q0 != q) = true:=by simp only [bne,hqq];rfl
   have Ii:A.begins ⟨l,some (q0,bs)⟩ q = ⟨A.flush ⟨l,some (q0,bs)⟩,some (q,[])⟩:=by simp [A.begins,hqq]
   rw [Ii];have HQ:=kq hqq;clear hp ky hq hqq Ii;go_enter Tryz.func171,Tryz.ntmps171;go_wp2_with fail;refine (HE.out).mono ?_;rintro e w1 ⟨rfl,⟨vl1,vb1,q1,ny,R4,_,_,OW⟩,bi⟩;have d2:=ed ny;have d3:=fA ny;have e2:=zf 2 ny;have e3:=zf 3 ny;have HM:=kq (zk q ny HB.out hS OW);have HF:=kq bi;clear ny OW R4 bi;go_wp2_with fail;go_end0;exact ⟨rfl,HM.out.1,HF.out.trans HM.out.2⟩
  ·have hqn:(!q0 == q) = false:=by rw [hqq];rfl
   obtain rfl:=beq_iff_eq.1 hqq;have Ii:A.begins ⟨l,some (q0,bs)⟩ q0 = ⟨l,some (q0,bs)⟩:=by simp [A.begins]
   rw [Ii];have HM:=kq (zk q0 hp HB.out hS ky);clear hp ky hq hqq Ii;go_enter Tryz.func171,Tryz.ntmps171;go_wp2_with fail;go_end0;exact ⟨rfl,HM.out.1,HM.out.2⟩
theorem Vr {w:World} {B:Nat} {v:Value} {n:Nat} {xs:List Value} {i:TypeInfo} {ty:TypeId} (hi:Tryz.prog.info? 5 = some i) (hz:i.zero = some (.int .u8 0)) (h1:i.size = 1) (RS:i.bytes = 1) (dR:w.ownsRow B 5 1 v n xs) (s:ByteArray) (hn:n + s.size≤1000000000)
  {v':Value} {w':World} (hr:(Builtin.append_ #[47,9] ty #[v,.string s]).run Tryz.prog w = .ok v' w') (R5:v' = .slice none 0 0 ↔ v = .slice none 0 0∧s.size = 0):v'.ownBlock = v.ownBlock∨v'.ownBlock = some w.heap.size:=by
 rcases dR.2 with ⟨rfl,rfl⟩ | ⟨g,cap,cur,rfl,Ii,hg,hnc,hcm,hcs,htake⟩
 ·by_cases h0:s.size = 0
  ·rw [R5.2 ⟨rfl,h0⟩];exact .inl rfl
  ·have:=run_append_nil_string (P:=Tryz.prog) w 47 9 ty 5 i (.int .u8 0) Tryz.underlying47 Tryz.underlying9 hi hz s (by omega) (by omega) (by rw [RS];omega);rw [hr] at this;cases this;exact .inr rfl
 ·by_cases XP:n + s.size≤cap
  ·have:=Lib.run_append_room_string (P:=Tryz.prog) w 47 9 ty 5 i Tryz.underlying47 Tryz.underlying9 hi h1 g n cap cur hg s XP (by omega);rw [hr] at this;cases this;exact .inl rfl
  ·have:=Lib.run_append_grow_string (P:=Tryz.prog) w 47 9 ty 5 i (.int .u8 0) Tryz.underlying47 Tryz.underlying9 hi hz ⟨g,0,none⟩ n cap xs (by rw [h1];exact dR.1) (dR.cells (g:=g) rfl) s (by omega) (by omega) (by rw [RS];exact growslice_fits (by omega) (by omega));rw [hr] at this;cases this;exact .inr rfl
theorem Bt (w:World) {ops:Array Oper} {rest:List Oper} {o:Oper} {a:Act} {Q:Exit→Act→World→Prop} {i:TypeInfo} (hgd:o.guard = none) (sl x:Operand)
  (ho:o.op = .call { callee:=.builtin .append,args:=#[sl,x],argTypes:=#[47,9] }) (hi:Tryz.prog.info? 5 = some i) (hz:i.zero = some (.int .u8 0)) (h1:i.size = 1) (RS:i.bytes = 1)
  (B:Nat) (v:Value) (n:Nat) (xs:List Value) (hs:a.eval sl = v) (dR:w.ownsRow B 5 1 v n xs) (s:ByteArray) (hx:a.eval x = .string s) (hn:n + s.size≤1000000000) (XQ:B≤w.heap.size)
  (h:∀ v' w',w'.ownsRow B 5 1 v' (n + s.size) (xs ++ Lib.strCells s)→w.grownBy w' v.ownBlock→(v'.ownBlock = v.ownBlock∨v'.ownBlock = some w.heap.size)→wpList Tryz.prog ops Q rest (a.put o.dst v') w'):wpList Tryz.prog ops Q (o :: rest) a w:=by
 refine wpList_plain hgd fun K hK=>?_;obtain ⟨v',w',hr,h2,h3,h4⟩:=Lib.run_append_own_string (P:=Tryz.prog) w B 47 9 o.type 5 i Tryz.underlying47 Tryz.underlying9 hi hz h1 RS v n xs dR s (by unfold maxLen;omega) (by omega) XQ;have h5:=Vr hi hz h1 RS dR s hn hr h4;unfold Oper.wp execOp;simp only [ho,resolve,invoke,builtin,Sem.run_bind,Sem.run_pure,Result.andThen_ok,List.map_toArray,List.map_cons,List.map_nil,hs,hx,hr];exact hK _ _ (h v' w' h2 h3 h5)
theorem FI {w w2:World} {B p:Nat} {S:Nat→Prop} {vl vb v':Value} {l:PL} {bs t:List UInt8} {q:Bool} (hp:w.heap[p]? = some (.cells #[vl,vb,.bool true,.bool q] 145 (0,0))) (hB:B≤p) (hS:¬ S p) (qH:∀ x,S x→x < w.heap.size)
  (hb:Body w B S vl vb l bs) (h2:w2.ownsRow B 5 1 v' (bs ++ t).length (Lib.byteCells (bs ++ t))) (hg:w.grownBy w2 vb.ownBlock) (gT:v'.ownBlock = vb.ownBlock∨v'.ownBlock = some w.heap.size) :
  w2.heap[p]? = some (.cells #[vl,vb,.bool true,.bool q] 145 (0,0))∧dV (w2.setCell ⟨p,1,none⟩ v') B S p ⟨l,some (q,bs ++ t)⟩∧Fr B S w (w2.setCell ⟨p,1,none⟩ v'):=by
 have jD:=hb.ne hp hS;obtain ⟨xs,o1,o2,o3,o4,o5⟩:=hb;have Br:p < w.heap.size:=(Array.getElem?_eq_some_iff.1 hp).1;have WL:some p ≠ vb.ownBlock:=fun e=>jD p (.inr (.inr e.symm)) rfl;have hA:∀ x,x < w.heap.size→some x ≠ vb.ownBlock→w2.heap[x]? = w.heap[x]?:=fun x hx ho=>hg.block x hx ho;have lF:=(hA p Br WL).trans hp
 have jJ:w2.ownsRow B 75 5 vl l.len xs:=kg o1 fun x hx aB=>hA x aB (by
  intro e;obtain ⟨c1,k1⟩:=mr o1 hx;obtain ⟨c2,k2⟩:=mr o4 e.symm
  exact vF k2 k1 (by decide) rfl)
 have ky:Body w2 B S vl v' l (bs ++ t):=by
  refine ⟨xs,jJ,o2.keep hg.size fun x hx aB=>hA x aB (fun e=>o5 x e.symm hx),o3,h2,fun x hx=>?_⟩;rcases gT with e | e
  ·exact o5 x (e ▸ hx)
  ·intro hs;have:=qH x hs;rw [hx] at e;simp only [Option.some.injEq] at e;omega
 refine ⟨lF,⟨vl,v',q,heap_setCell_same _ _ 1 _ _ v' lF,hB,hS,(fun x h=>by cases h;rfl),ky.OP lF hS _ _⟩,?_⟩;exact ((Fr.refl B S w).grown hg (fun k hk=>⟨(o4.lt k hk).1,o5 k hk⟩)).setCell hB hS _
theorem qf (a:A) (q:Bool):(a.begins q).cur = some (q,(a.begins q).bytes):=by
 obtain ⟨l,cur⟩:=a
 match cur with
 | none=>rfl
 | some (q1,bs) =>
  cases h:(q1 == q)
  ·simp [A.begins,h,A.bytes]
  ·have:=beq_iff_eq.1 h;subst this;simp [A.begins,A.bytes]
theorem zl (a:A) (q:Bool):(a.begins q).l.len≤a.l.len + 1∧(a.begins q).bytes.length≤a.bytes.length:=by
 obtain ⟨l,cur⟩:=a
 match cur with
 | none=>simp [A.begins,A.bytes]
 | some (q1,bs) =>
  cases h:(q1 == q)
  ·simp [A.begins,h,A.bytes,A.flush,PL.yB,A.lit,PL.len]
  ·have:=beq_iff_eq.1 h;subst this;simp [A.begins,A.bytes]
theorem Mg (s:ByteArray):Lib.strCells s = Lib.byteCells s.data.toList:=by
 simp [Lib.strCells,Lib.byteCells]
theorem infoByte:(Tryz.prog.info? 5).map (fun i=>(i.zero,i.size,i.bytes)) = some (some (.int .u8 0),1,1):=by kernel_rfl
theorem vH (B:Nat) (S:Nat→Prop) (p:Nat) (a:A) (s:ByteArray) (q:Bool) (w:World) (h:dV w B S p a) (hl:a.l.len≤90000000) (hbs:a.bytes.length≤90000000) (hs:s.size≤90000000) (qH:∀ x,S x→x < w.heap.size) :
  Calls Tryz.prog 162 #[.pointer (some ⟨p,0,none⟩),.string s,.bool q] w fun e w'=>e = .returned (.tuple #[])∧dV w' B S p (a.text s.data.toList q)∧Fr B S w w':=by
 obtain ⟨i0,hi,qd,kQ,lM⟩:=info_parts infoByte;have WN:=kq (BV B S p a q w h (by omega) (by omega) qH);have XR:=qf a q;have FB:=zl a q;have HCU:=kq XR;have Il:=kq qH;have HI:=kq hi;have ym:=kq qd;have o9:=kq kQ;have lD:=kq lM;clear h XR qH hi qd kQ lM;go_enter Tryz.func162,Tryz.ntmps162;go_wp2_with fail;refine (WN.out).mono ?_;rintro e w1 ⟨rfl,⟨vl,vb,q1,hp,hB,hS,hq,ky⟩,bi⟩;rw [HCU.out] at hp hq;obtain rfl:=hq _ rfl;simp only [Option.isSome] at hp;have wS:∀ x,S x→x < w1.heap.size:=fun x hx=>kd (Il.out x hx) bi.size;obtain ⟨al,qL,rfl⟩:∃ al qL,vb = .slice al (a.begins q1).bytes.length qL:=by
  obtain ⟨xs,_,_,_,o4,_⟩:=ky;rcases o4.2 with ⟨rfl,h0⟩ | ⟨g,c,cur,rfl,_⟩
  ·exact ⟨none,0,by rw [h0]⟩
  ·exact ⟨_,c,rfl⟩
 have c1:=dA hp;have f1:=zf 1 hp;have dR:=ky;obtain ⟨xs,_,_,_,o4,_⟩:=dR;have HP:=kq hp;have HB:=kq hB;have Rl:=kq ky;have HF:=kq bi;have FJ:=kq wS;have HO:=kq o4;clear hp hB ky bi wS hq o4;go_wp2_with (at_builtin;refine Bt _ rfl _ _ rfl HI.out ym.out o9.out lD.out B _ _ _ rfl HO.out s rfl ?c1 ?c2 ?_)
 case c1=>omega
 case c2=>have:=(Array.getElem?_eq_some_iff.1 HP.out).1;have:=HB.out;omega
 intro v' w2 BX dI gT;obtain ⟨a2,n2,yn,rfl⟩:∃ a2 n2 yn,v' = .slice a2 n2 yn:=by
  rcases BX.2 with ⟨rfl,_⟩ | ⟨g,c,cur,rfl,_⟩
  ·exact ⟨_,_,_,rfl⟩
  ·exact ⟨_,_,_,rfl⟩
 have hx:w2.ownsRow B 5 1 (.slice a2 n2 yn) ((a.begins q1).bytes ++ s.data.toList).length (Lib.byteCells ((a.begins q1).bytes ++ s.data.toList)):=by
  rw [zI,iE,Lib.byteCells_append,← Mg];exact BX
 obtain ⟨lF,fH,hfr2⟩:=FI HP.out HB.out hS FJ.out Rl.out hx dI gT;have d1:=dA lF;have e1:=zf 1 lF;have HA:=kq fH;have Rm:=kq hfr2;clear BX dI gT hx lF fH hfr2;go_wp2_with fail;go_end0;exact ⟨rfl,HA.out,HF.out.trans Rm.out⟩
theorem qg (B:Nat) (S:Nat→Prop) (p:Nat) (a:A) (c:UInt8) (q:Bool) (w:World) (h:dV w B S p a) (hl:a.l.len≤90000000) (hbs:a.bytes.length≤90000000) (qH:∀ x,S x→x < w.heap.size) :
  Calls Tryz.prog 150 #[.pointer (some ⟨p,0,none⟩),.int .u8 c.toNat,.bool q] w fun e w'=>e = .returned (.tuple #[])∧dV w' B S p (a.text [c] q)∧Fr B S w w':=by
 obtain ⟨i0,hi,qd,kQ,lM⟩:=info_parts infoByte;have WN:=kq (BV B S p a q w h (by omega) (by omega) qH);have XR:=qf a q;have FB:=zl a q;have HCU:=kq XR;have Il:=kq qH;have HI:=kq hi;have ym:=kq qd;have o9:=kq kQ;have lD:=kq lM;clear h XR qH hi qd kQ lM;go_enter Tryz.func150,Tryz.ntmps150;go_wp2_with fail;refine (WN.out).mono ?_;rintro e w1 ⟨rfl,⟨vl,vb,q1,hp,hB,hS,hq,ky⟩,bi⟩;rw [HCU.out] at hp hq;obtain rfl:=hq _ rfl;simp only [Option.isSome] at hp;have wS:∀ x,S x→x < (w1.alloc (.cells #[.int .u8 c.toNat] 5)).heap.size:=fun x hx=>kd (Il.out x hx) (by have:=bi.size;simp;omega);have hx0:∀ o,(w1.alloc o).heap[p]? = w1.heap[p]?:=fun o=>Below.heap_alloc _ _ _ (Array.getElem?_eq_some_iff.1 hp).1;have OW:Body (w1.alloc (.cells #[.int .u8 c.toNat] 5)) B S vl vb (a.begins q1).l (a.begins q1).bytes:=ky.keep (by simp) fun b hb _=>Below.heap_alloc _ _ _ hb;obtain ⟨al,qL,rfl⟩:∃ al qL,vb = .slice al (a.begins q1).bytes.length qL:=by
  obtain ⟨xs,_,_,_,o4,_⟩:=ky;rcases o4.2 with ⟨rfl,h0⟩ | ⟨g,c,cur,rfl,_⟩
  ·exact ⟨none,0,by rw [h0]⟩
  ·exact ⟨_,c,rfl⟩
 have c1:=dA hp;have f1:=zf 1 hp;have dR:=ky;obtain ⟨xs,_,_,_,o4,_⟩:=dR;have ja:B≤w1.heap.size:=by have:=(Array.getElem?_eq_some_iff.1 hp).1;omega
 have HP:=kq ((hx0 (.cells #[.int .u8 c.toNat] 5)).trans hp);have HB:=kq hB;have Rl:=kq OW;have HF:=kq bi;have FJ:=kq wS;have HO:=kq o4;clear hp hB ky OW bi wS hq o4 hx0;go_wp2_with (at_builtin;refine wpList_append_lies _ rfl _ _ 47 rfl B 5 i0 (.int .u8 0) 1 1 Tryz.underlying47 HI.out ym.out o9.out lD.out rfl (by decide) _ _ _ rfl (HO.out.alloc _) ⟨w1.heap.size,0,none⟩ 1 1 [.int .u8 c.toNat] rfl rfl ?c1 ?c2 ?c3 ?c4 ?c5 ?c6 (w1.heap.size + 1) ?c7 ?_)
 case c1 =>
  intro j u hj
  match j,hj with
  | 0,hj=>simp at hj;subst hj;simp [Addr.add]
 case c2=>intro u hu;simp at hu;subst hu;rfl
 case c3=>omega
 case c4=>unfold maxLen;omega
 case c5=>omega
 case c6=>simp;omega
 case c7=>simp
 intro g gH w2 BX dI gT aB;have hx:w2.ownsRow B 5 1 (.slice (some ⟨g,0,none⟩) ((a.begins q1).bytes.length + 1) gH) ((a.begins q1).bytes ++ [c]).length (Lib.byteCells ((a.begins q1).bytes ++ [c])):=by
  rw [zI,Lib.byteCells_append];exact BX
 have XT:(Value.slice (some ⟨g,0,none⟩) ((a.begins q1).bytes.length + 1) gH).ownBlock = (Value.slice al (a.begins q1).bytes.length qL).ownBlock∨(Value.slice (some ⟨g,0,none⟩) ((a.begins q1).bytes.length + 1) gH).ownBlock = some (w1.alloc (.cells #[.int .u8 c.toNat] 5)).heap.size:=by
  rcases gT with e | e
  ·exact .inl e.symm
  ·exact .inr (by rw [e];simp [Value.ownBlock])
 obtain ⟨lF,fH,hfr2⟩:=FI HP.out HB.out hS FJ.out Rl.out hx dI XT;have d1:=dA lF;have e1:=zf 1 lF;have HA:=kq fH;have Rm:=kq hfr2;clear BX dI gT XT hx lF fH hfr2;go_wp2_with fail;go_end0;exact ⟨rfl,HA.out,(HF.out.alloc _).trans Rm.out⟩
attribute [local go_sem ↓] Go.wp_at_zero Go.wp_at_succ
theorem dV.mono {w:World} {B p:Nat} {S S':Nat→Prop} {a:A} (h:dV w B S p a) (hS:∀ b,S b→S' b) (hN:∀ b,S' b→S b∨w.heap.size≤b):dV w B S' p a:=by
 obtain ⟨vl,vb,q,hp,hB,hSp,hq,xs,h1,h2,h3,h4,h5⟩:=h;have hx:∀ g,g < w.heap.size→¬ S g→¬ S' g:=fun g hg hn h=>(hN g h).elim hn (by omega);refine ⟨vl,vb,q,hp,hB,hx p (Array.getElem?_eq_some_iff.1 hp).1 hSp,hq,xs,h1,h2.mono fun b hb _=>hS b hb,fun g hg=>hx g ?_ (h3 g hg),h4,fun g hg=>hx g ?_ (h5 g hg)⟩
 ·exact (h1.lt g hg).2
 ·exact (h4.lt g hg).2
theorem dV.alloc {w:World} {B p:Nat} {S:Nat→Prop} {a:A} (h:dV w B S p a) (o:Obj):dV (w.alloc o) B S p a:=by
 obtain ⟨vl,vb,q,hp,hB,hSp,hq,hb⟩:=h;exact ⟨vl,vb,q,(Below.heap_alloc _ _ _ (Array.getElem?_eq_some_iff.1 hp).1).trans hp,hB,hSp,hq,hb.keep (by simp) fun b hb _=>Below.heap_alloc _ _ _ hb⟩
theorem Fr.mono {B:Nat} {S S':Nat→Prop} {w w':World} (h:Fr B S' w w') (hS:∀ b,S b→S' b):Fr B S w w' :=
 ⟨h.os,h.tape,h.output,h.size,fun b hb ho=>h.block b hb (ho.imp id (hS b))⟩
def one (k:Int) (q:Bool) (t o:ByteArray) (f:PL):PL:=.cons k q t o f .nil
theorem KH (B:Nat) (S:Nat→Prop) (p:Nat) (a:A) (k:Int) (q:Bool) (t o:ByteArray) (f:PL) (af:Option Addr) (cf:Nat) (w:World) (h:dV w B S p a) (hl:a.l.len≤90000000) (hbs:a.bytes.length≤90000000)
  (qH:∀ x,S x→x < w.heap.size) (ht:t.size≤R) (ho:o.size≤R) (hf:cu S w af cf f) :
  Calls Tryz.prog 146 #[.pointer (some ⟨p,0,none⟩),pv k q t o af f.len cf] w fun e w'=>e = .returned (.tuple #[])∧dV w' B (fun b=>S b∨b = w.heap.size) p (a.add (one k q t o f))∧Fr B S w w'∧w.heap.size < w'.heap.size:=by
 obtain ⟨i0,hi,qd,kQ,lM⟩:=info_parts vG;have Br:p < w.heap.size:=by obtain ⟨vl,vb,q',hp,_⟩:=h;exact (Array.getElem?_eq_some_iff.1 hp).1
 have hBw:B≤w.heap.size:=by obtain ⟨vl,vb,q',hp,hB,_⟩:=h;omega
 have h0:dV (w.alloc (.cells #[.int .i64 k,.bool q,.string t,.string o,.slice af f.len cf] 75)) B (fun b=>S b∨b = w.heap.size) p a:=by
  refine dV.alloc (dV.mono h (fun b hb=>.inl hb) (fun b hb=>?_)) _;rcases hb with hb | hb
  ·exact .inl hb
  ·exact .inr (by omega)
 have Vs:∀ x,(S x∨x = w.heap.size)→x < (w.alloc (.cells #[.int .i64 k,.bool q,.string t,.string o,.slice af f.len cf] 75)).heap.size:=fun x hx=>by
  simp only [World.size_alloc];rcases hx with hx | hx
  ·have:=qH x hx;omega
  ·omega
 have HE:=kq (Dj B _ p a _ h0 (by omega) (by omega) Vs);have Z6:a.flush.len≤90000001:=by
  obtain ⟨l,cur⟩:=a
  match cur with
  | none=>simp only [A.flush];simp only [] at hl;omega
  | some x=>simp only [A.flush,PL.yB,A.lit,PL.len];simp only [] at hl;omega
 have Il:=kq Vs;have HI:=kq hi;have ym:=kq qd;have o9:=kq kQ;have lD:=kq lM;have HF:=kq hf;clear h h0 qH Vs hi qd kQ lM hf;unfold pv;go_enter Tryz.func146,Tryz.ntmps146;go_wp2_with fail;refine (HE.out).mono ?_;rintro e w1 ⟨rfl,⟨vl,vb,q1,hp,hB,Bb,hq,ky⟩,bi⟩;have R6:w1.heap[w.heap.size]? = some (.cells #[.int .i64 k,.bool q,.string t,.string o,.slice af f.len cf] 75 (0,0)):=(bi.block _ (by simp) (.inr (.inr rfl))).trans (heap_alloc_new _ _);have I5:=ky;obtain ⟨xs,hvl,R3,WM,hvb,Vq⟩:=ky;simp only [Option.isSome,A.bytes] at hp hvb Vq hvl I5 R3;obtain ⟨al,qL,rfl⟩:∃ al qL,vl = .slice al a.flush.len qL:=by
  rcases hvl.2 with ⟨rfl,h0⟩ | ⟨g,c,cur,rfl,_⟩
  ·exact ⟨none,0,by rw [h0]⟩
  ·exact ⟨_,c,rfl⟩
 have XU:p < w1.heap.size:=(Array.getElem?_eq_some_iff.1 hp).1;have FK:w.heap.size < w1.heap.size:=(Array.getElem?_eq_some_iff.1 R6).1;have c0:=dx hp;have b0:=dx R6;have b1:=dA R6;have b2:=ed R6;have b3:=fA R6;have b4:=dS R6;have Vk:ic (fun b=>S b∨b = w.heap.size) w1 (one k q t o f) [.int .i64 k,.bool q,.string t,.string o,.slice af f.len cf] :=
  ⟨af,cf,[],rfl,ht,ho,(cu.keep (S:=S) HF.out (by have:=bi.size;simp at this;omega) (fun b hb aB=>(bi.block b (by simp;omega) (.inr (.inl hb))).trans (Below.heap_alloc _ _ _ aB))).mono (fun b hb _=>.inl hb),rfl⟩
 have wS:∀ x,(S x∨x = w.heap.size)→x < w1.heap.size:=fun x hx=>kd (Il.out x hx) bi.size;have HVL:=kq hvl;have HXS:=kq R3;have HP:=kq hp;have FJ:=kq wS;have Rl:=kq I5;have HB:=kq hB;have HVS:=kq Vk;have Rn:=kq bi;have HS':=kq Bb;clear hvl R3 hvb hp wS WM Vq hq I5 hB Vk bi R6 Bb;go_wp2_with fail;refine RT.begins (fun w'=>w'.cell? ⟨p,0,none⟩ = some (.slice al a.flush.len qL)∧w'.cell? ⟨w.heap.size,0,none⟩ = some (.int .i64 k)∧w'.cell? ⟨w.heap.size,1,none⟩ = some (.bool q)∧w'.cell? ⟨w.heap.size,2,none⟩ = some (.string t)∧w'.cell? ⟨w.heap.size,3,none⟩ = some (.string o)∧w'.cell? ⟨w.heap.size,4,none⟩ = some (.slice af f.len cf)) 7 (by kernel_rfl) ?_;have hS:w1.drew.cell? ⟨p,0,none⟩ = some (.slice al a.flush.len qL)∧w1.drew.cell? ⟨w.heap.size,0,none⟩ = some (.int .i64 k)∧w1.drew.cell? ⟨w.heap.size,1,none⟩ = some (.bool q)∧w1.drew.cell? ⟨w.heap.size,2,none⟩ = some (.string t)∧w1.drew.cell? ⟨w.heap.size,3,none⟩ = some (.string o)∧w1.drew.cell? ⟨w.heap.size,4,none⟩ = some (.slice af f.len cf):=⟨c0,b0,b1,b2,b3,b4⟩;refine RT.tk (i:=0) rfl hS (by intro wq hq;obtain ⟨s0,s1,s2,s3,s4,s5⟩:=hq;go_simp;try with_reducible rfl) ?_;refine RT.tk (i:=1) rfl hS (by intro wq hq;obtain ⟨s0,s1,s2,s3,s4,s5⟩:=hq;go_simp;try with_reducible rfl) ?_;refine RT.tk (i:=2) rfl hS (by intro wq hq;obtain ⟨s0,s1,s2,s3,s4,s5⟩:=hq;go_simp;try with_reducible rfl) ?_;refine RT.tk (i:=3) rfl hS (by intro wq hq;obtain ⟨s0,s1,s2,s3,s4,s5⟩:=hq;go_simp;try with_reducible rfl) ?_;refine RT.tk (i:=4) rfl hS (by intro wq hq;obtain ⟨s0,s1,s2,s3,s4,s5⟩:=hq;go_simp;try with_reducible rfl) ?_;refine RT.tk (i:=5) rfl hS (by intro wq hq;obtain ⟨s0,s1,s2,s3,s4,s5⟩:=hq;go_simp;try with_reducible rfl) ?_;refine RT.all (rs:=[6]) (by kernel_rfl) (by simp) ?_;refine RT.All.cons rfl (fun K hK=>?_) RT.All.nil;go_simp;refine hK _ _ (fun _=>⟨(World.cell?_alloc_lt _ _ _ XU).trans c0,(World.cell?_alloc_lt _ _ _ FK).trans b0,(World.cell?_alloc_lt _ _ _ FK).trans b1,(World.cell?_alloc_lt _ _ _ FK).trans b2,(World.cell?_alloc_lt _ _ _ FK).trans b3,(World.cell?_alloc_lt _ _ _ FK).trans b4⟩) ?_;clear hK K;refine RT.all (rs:=[7]) (by kernel_rfl) (by simp) ?_;refine RT.All.cons rfl (fun K hK=>?_) RT.All.nil;refine step_append_lies _ (by rfl) _ _ _ (by rfl) B 75 i0 _ 5 72 Tryz.underlying38 HI.out ym.out o9.out lD.out rfl (by omega) (.slice al a.flush.len qL) a.flush.len xs (by rfl) ((HVL.out.alloc _).drew)
  ⟨w1.heap.size,0,none⟩ 1 1 [.int .i64 0,.bool false,.string ⟨#[]⟩,.string ⟨#[]⟩,.slice none 0 0] (by rfl) (by rfl) (World.news_of_block (cs:=#[.int .i64 0,.bool false,.string ⟨#[]⟩,.string ⟨#[]⟩,.slice none 0 0]) (t:=75) (fr:=(0,0)) (heap_alloc_new w1 _)) (by simp [Value.oneCell'])
  (by omega) (by unfold maxLen;omega) (by omega) (by have:=HB.out;simp;omega) (w1.heap.size + 1) (by simp) ?_
 intro g gH w2 mD dI gT aB;refine hK _ _ (fun h=>absurd h (by decide)) ?_;clear hK K;have hgm:=FH (pt:=one k q t o f) (v0:=.int .i64 k) (v1:=.bool q) (v2:=.string t) (v3:=.string o) (v4:=.slice af f.len cf) HP.out HB.out HS'.out FJ.out Rl.out rfl rfl HXS.out HVS.out dI gT mD;obtain ⟨ny,Mf,hW⟩:=hgm;obtain ⟨n0,n1,n2,n3,n4⟩:=XH mD;have m0:=dx ny;have mf:=frozen_of_row _ _ 0 _ _ ny;have XK:=mD.frozenAt (a.flush.len * 5);have XL:=mD.frozenAt (a.flush.len * 5 + 1);have XM:=mD.frozenAt (a.flush.len * 5 + 2);have XN:=mD.frozenAt (a.flush.len * 5 + 3);have XO:=mD.frozenAt (a.flush.len * 5 + 4);have abk:¬ (g = p):=Mf;have hi1:(a.flush.len:Int) < (a.flush.len:Int) + 1:=by omega
 have abl:¬ (p = g):=fun e=>Mf e.symm;have HW:=kq hW;clear hW ny Mf dI gT mD aB c0 b0 b1 b2 b3 b4 hS;refine RT.nN (i:=8) (v:=?_) rfl (by decide) (by kernel_rfl) (by kernel_rfl) (by kernel_rfl) (fun _ _ _ h=>h) (.inl ⟨by rfl,?_⟩) ?_;rotate_left 1
 ·(intro wq _;go_simp;try with_reducible rfl)
 refine RT.nN (i:=10) (v:=?_) rfl (by decide) (by kernel_rfl) (by kernel_rfl) (by kernel_rfl) (fun _ _ _ h=>h) (.inl ⟨by rfl,?_⟩) ?_;rotate_left 1
 ·(intro wq _;go_simp;try with_reducible rfl)
 refine RT.nN (i:=11) (v:=?_) rfl (by decide) (by kernel_rfl) (by kernel_rfl) (by kernel_rfl) (fun _ _ _ h=>h) (.inl ⟨by rfl,?_⟩) ?_;rotate_left 1
 ·(intro wq _;go_simp;try with_reducible rfl)
 refine RT.all (rs:=[9,12]) (by kernel_rfl) (by simp) ?_;refine RT.All.cons rfl (fun K hK=>?_) (RT.All.cons rfl (fun K hK=>?_) RT.All.nil)
 ·go_simp;refine hK _ _ (fun h=>absurd h (by decide)) ?_;clear hK K;refine RT.all (rs:=[12]) (by kernel_rfl) (by simp) ?_;refine RT.All.cons rfl (fun K hK=>?_) RT.All.nil;go_simp;refine hK _ _ (fun h=>absurd h (by decide)) ?_;clear hK K;refine RT.done (by kernel_rfl) ?_ _;obtain ⟨Di,hbW,I6⟩:=HW.out _ (.inl rfl);clear n0 n1 n2 n3 n4 m0 mf XK XL XM XN XO;go_end0;exact ⟨rfl,⟨_,_,_,Di,HB.out,HS'.out,(fun x h=>by cases h),hbW⟩,((Fr.refl B S w).alloc _).trans (((Rn.out).trans I6).mono fun b hb=>.inl hb),(by have:=(Rn.out.trans I6).size;simp only [World.size_alloc] at this ⊢;omega)⟩
 ·go_simp;refine hK _ _ (fun h=>absurd h (by decide)) ?_;clear hK K;refine RT.all (rs:=[9]) (by kernel_rfl) (by simp) ?_;refine RT.All.cons rfl (fun K hK=>?_) RT.All.nil;go_simp;refine hK _ _ (fun h=>absurd h (by decide)) ?_;clear hK K;refine RT.done (by kernel_rfl) ?_ _;obtain ⟨Di,hbW,I6⟩:=HW.out _ (.inr rfl);clear n0 n1 n2 n3 n4 m0 mf XK XL XM XN XO;go_end0;exact ⟨rfl,⟨_,_,_,Di,HB.out,HS'.out,(fun x h=>by cases h),hbW⟩,((Fr.refl B S w).alloc _).trans (((Rn.out).trans I6).mono fun b hb=>.inl hb),(by have:=(Rn.out.trans I6).size;simp only [World.size_alloc] at this ⊢;omega)⟩
def tot:PL→Nat
 | .nil=>0
 | .cons _ _ t _ _ r=>1 + t.size + tot r
theorem Dk:∀ l m:PL,tot (l.app m) = tot l + tot m
 | .nil,m=>by simp [tot,PL.app]
 | .cons _ _ _ _ _ r,m=>by simp only [tot,PL.app,Dk r m];omega
theorem Dl:∀ l:PL,l.len≤tot l
 | .nil=>Nat.le_refl _
 | .cons _ _ _ _ _ r=>by have:=Dl r;simp only [PL.len,tot];omega
def A.tot (a:A):Nat:=Lx.tot a.l + match a.cur with | none=>0 | some x=>1 + x.2.length
theorem A.pg (a:A):Lx.tot a.flush = a.tot:=by
 obtain ⟨l,cur⟩:=a
 match cur with
 | none=>simp [A.flush,A.tot]
 | some x =>
  simp only [A.flush,A.tot,Dk,A.lit,Lx.tot];show Lx.tot l + (1 + (List.toArray _).size + 0) = _;rw [List.size_toArray];omega
theorem A.I7 (a:A) (q:Bool):(a.begins q).tot≤a.tot + 1:=by
 obtain ⟨l,cur⟩:=a
 match cur with
 | none=>simp [A.begins,A.tot]
 | some x =>
  simp only [A.begins];split
  ·omega
  ·have:=A.pg ⟨l,some x⟩;simp only [A.tot,zZ] at this ⊢
   omega
theorem A.kS (a:A) (s:List UInt8) (q:Bool):(a.text s q).tot≤a.tot + 1 + s.length:=by
 have h:=A.I7 a q;have hc:=qf a q;simp only [A.tot,hc] at h;simp only [A.text,A.tot,zI];omega
theorem A.Dm (a:A) (p:PL):(a.add p).tot = a.tot + Lx.tot p:=by
 have:=A.pg a;simp only [A.add,A.tot,Dk];simp only [A.tot] at this;omega
theorem A.sizes (a:A):a.l.len≤a.tot∧a.bytes.length≤a.tot:=by
 have:=Dl a.l;obtain ⟨l,cur⟩:=a
 match cur with
 | none=>simp only [A.tot,A.bytes,zZ];simp only [] at this;omega
 | some x=>simp only [A.tot,A.bytes];simp only [] at this;omega
theorem OX {w:World} {B:Nat} {S:Nat→Prop} {vl vb:Value} {l:PL} {bs:List UInt8} (hb:Body w B S vl vb l bs) (Vt:∀ x,S x→B≤x) (hl:l.len≤R):∃ a cap,vl = .slice a l.len cap∧cu (fun b=>B≤b) w a cap l:=by
 obtain ⟨xs,h1,h2,_⟩:=hb;have h0:=Fb h1 h2.cells hl;obtain ⟨a,cap,rfl,_⟩:=h0;refine ⟨a,cap,rfl,fun w2 hs hk=>?_⟩;have I1:w2.ownsRow B 75 5 (.slice a l.len cap) l.len xs:=kg h1 fun g hg aB=>hk g (h1.lt g hg).1 aB;have Fj:ic S w2 l xs:=h2.keep hs fun b hb aB=>hk b (Vt b hb) aB;obtain ⟨a',gK,e,yo⟩:=Fb I1 Fj.cells hl;cases e;exact yo
theorem R7 (B:Nat) (S:Nat→Prop) (p:Nat) (a:A) (w:World) (h:dV w B S p a) (ht:a.tot≤80000000) (qH:∀ x,S x→x < w.heap.size) (Vt:∀ x,S x→B≤x) :
  Calls Tryz.prog 149 #[.pointer (some ⟨p,0,none⟩)] w fun e w'=>(∃ a' gK,e = .returned (.slice a' a.flush.len gK)∧cu (fun b=>B≤b) w' a' gK a.flush)∧Fr B S w w':=by
 have hz:=a.sizes;have Z6:a.flush.len≤80000000:=by have:=Dl a.flush;rw [A.pg] at this;omega
 have HE:=kq (Dj B S p a w h (by omega) (by omega) qH);have HSB:=kq Vt;clear h qH Vt hz ht;go_enter Tryz.func149,Tryz.ntmps149;go_wp2_with fail;refine (HE.out).mono ?_;rintro e w1 ⟨rfl,⟨vl,vb,q1,hp,hB,Bb,hq,ky⟩,bi⟩;obtain ⟨a',gK,rfl,yo⟩:=OX ky HSB.out (by unfold R;simp only [];omega);have c0:=dx hp;have HL:=kq yo;have HF:=kq bi;clear hp ky yo bi hq;go_wp2_with fail;go_ret;exact ⟨⟨a',gK,rfl,HL.out⟩,HF.out⟩
theorem A.join_nil (a:A):a.join .nil = a:=rfl
def A.step (a:A) (k:Int) (q:Bool) (t o:ByteArray) (f:PL):A:=if k == 1 then a.text t.data.toList q else a.add (one k q t o f)
theorem A.join_cons (a:A) (k:Int) (q:Bool) (t o:ByteArray) (f r:PL):a.join (.cons k q t o f r) = (a.step k q t o f).join r:=by
 simp only [A.join,A.step,one];split <;> rfl
theorem A.FL (a:A) (k:Int) (q:Bool) (t o:ByteArray) (f:PL):(a.step k q t o f).tot≤a.tot + (1 + t.size):=by
 unfold A.step;split
 ·have:=A.kS a t.data.toList q;rw [iE] at this;omega
 ·rw [A.Dm];simp only [one,Lx.tot];omega
theorem cu.row {S:Nat→Prop} {w:World} {a:Option Addr} {cap i:Nat} {l f r:PL} {k:Int} {q:Bool} {t p:ByteArray} (h:cu S w a cap l) (hd:l.drop i = .cons k q t p f r) {b o:Nat} (ha:a = some ⟨b,o,none⟩):S b:=by
 refine Classical.byContradiction fun hS=>?_
 have h3:=h { w with heap:=w.heap.setIfInBounds b (.cells #[] 0 (0,0)) } (by simp) (fun x hx _=>by
  show (w.heap.setIfInBounds b _)[x]? = w.heap[x]?
  rw [Array.getElem?_setIfInBounds,if_neg (by rintro rfl;exact hS hx)])
 obtain ⟨b',o',ha',yV,c0,_⟩:=h3.get hd;rw [ha] at ha';cases ha';have d9:b < w.heap.size:=by simpa using yV
 have hh:(w.heap.setIfInBounds b (.cells #[] 0 (0,0)))[b]? = some (.cells #[] 0 (0,0)):=by simp [Array.getElem?_setIfInBounds,d9]
 rw [kz (w:={ w with heap:=w.heap.setIfInBounds b (.cells #[] 0 (0,0)) }) hh] at c0;simp at c0
theorem cu.get {S:Nat→Prop} {w:World} {a:Option Addr} {cap i:Nat} {l f r:PL} {k:Int} {q:Bool} {t p:ByteArray} (h:cu S w a cap l) (hd:l.drop i = .cons k q t p f r) :
  ∃ b o,a = some ⟨b,o,none⟩∧b < w.heap.size∧w.cell? ⟨b,o + i * 5,none⟩ = some (.int .i64 k)∧w.cell? ⟨b,o + i * 5 + 1,none⟩ = some (.bool q)∧w.cell? ⟨b,o + i * 5 + 2,none⟩ = some (.string t)∧w.cell? ⟨b,o + i * 5 + 3,none⟩ = some (.string p)∧t.size≤R∧p.size≤R ∧
   ∃ a' gK,w.cell? ⟨b,o + i * 5 + 4,none⟩ = some (.slice a' f.len gK)∧cu S w a' gK f:=by
 obtain ⟨b,o,ha,hb,c0,c1,c2,c3,ht,hp,a',gK,c4,hl⟩:=h.lies.get hd;refine ⟨b,o,ha,hb,c0,c1,c2,c3,ht,hp,a',gK,c4,fun w2 hs hk=>?_⟩;obtain ⟨b2,o2,ha2,d9,d0,d1,d2,d3,_,_,a2,yn,d4,Ba⟩:=(h w2 hs hk).get hd;rw [ha] at ha2;cases ha2;have wD:=hk b (h.row hd ha) hb;have:=(World.cell?_of_block (w:=w) (a:=⟨b,o + i * 5 + 4,none⟩) wD).symm.trans d4;rw [c4] at this;cases this;exact Ba
theorem OY (B:Nat) (S:Nat→Prop) (p:Nat) (a:A) (m:PL) (am:Option Addr) (cm:Nat) (w:World) (h:dV w B S p a) (ht:a.tot + tot m≤80000000) (qH:∀ x,S x→x < w.heap.size) (Vt:∀ x,S x→B≤x) (hm:cu S w am cm m) :
  Calls Tryz.prog 143 #[.pointer (some ⟨p,0,none⟩),.slice am m.len cm] w fun e w'=>e = .returned (.tuple #[])∧(∃ S',(∀ x,S x→S' x)∧(∀ x,S' x→x < w'.heap.size)∧(∀ x,S' x→B≤x)∧dV w' B S' p (a.join m))∧Fr B S w w':=by
 have hle:=hm.lies.le;have HM:=kq hm;have HH:=kq h;have Il:=kq qH;have HSB:=kq Vt;clear hm h qH Vt;go_enter Tryz.func143,Tryz.ntmps143;go_wp2
 go_loopw [8] (fun i wr=>∃ n:Nat,n≤m.len∧i = .int .i64 n∧∃ (S':Nat→Prop) (a':A),(∀ x,S x→S' x)∧(∀ x,S' x→x < wr.heap.size)∧(∀ x,S' x→B≤x)∧dV wr B S' p a'∧a'.join (m.drop n) = a.join m∧a'.tot + tot (m.drop n)≤80000000∧Fr B S w wr) (fun i wr=>m.len - (intOf i).toNat)
 case atStart=>exact ⟨0,Nat.zero_le _,rfl,S,a,(fun _ h=>h),Il.out,HSB.out,HH.out,rfl,ht,Fr.refl _ _ _⟩
 case round =>
  obtain ⟨n,hn,rfl,S',a',qR,wE,Z7,fH,KF,htt,bi⟩:=hrel
  by_cases aB:n < m.len
  ·obtain ⟨k,q,t,o,f,r,hdr⟩:=PL.drop_at aB;have hmr:cu S' wr am cm m:=(HM.out.keep bi.size fun b hb aB=>bi.block b aB (.inr hb)).mono fun b hb _=>qR b hb;obtain ⟨b1,p1,rfl,aP,qG,tY,wM,wN,htR,hoR,a1,lJ,wB,mU⟩:=hmr.get hdr;rw [hdr,A.join_cons] at KF;rw [hdr] at htt;simp only [tot] at htt;have aM:=a'.FL k q t o f;have uA:=PL.kJ hdr;have hz:=a'.sizes;have jb:=kq aM;have Im:=kq uA;have HJ:=kq KF;have HA:=kq fH;have WO:=kq qR;have Ro:=kq wE;have Io:=kq Z7;have HF:=kq bi;have Ur:=kq mU;clear aM uA KF fH qR wE Z7 bi mU hmr hdr;have OZ:∀ X,dV (wr.alloc X) B S' p a':=fun X=>HA.out.alloc X;have wS:∀ (X:Obj) x,S' x→x < (wr.alloc X).heap.size:=fun X x hx=>by have:=Ro.out x hx;simp;omega
   have hT:=fun X (hk:(k == 1) = true)=>vH B S' p a' t q (wr.alloc X) (OZ X) (by omega) (by omega) (by omega) (wS X);have hD:=fun X (hk:(k == 1) = false)=>KH B S' p a' k q t o f a1 lJ (wr.alloc X) (OZ X) (by omega) (by omega) (wS X) htR hoR (Ur.out.keep (by simp) fun b _ aB=>Below.heap_alloc _ _ _ aB);have HT:=kq hT;have HD:=kq hD;have FJ:=kq wS;clear hT hD OZ wS;cases hk:(k == 1)
   ·have hs:a'.step k q t o f = a'.add (one k q t o f):=by unfold A.step;rw [hk];rfl
    rw [hs] at HJ jb;have HK:=kq hk;have HSS:=kq hs;clear hs;go_wp2_with fail;refine (HD.out _ HK.out).mono ?_;rintro e w2 ⟨rfl,FM,hfr2,qc⟩;have hBp:B≤wr.heap.size:=by obtain ⟨vl,vb,q',hp,hB,_⟩:=HA.out;have:=(Array.getElem?_eq_some_iff.1 hp).1;omega
    have FN:∃ (S':Nat→Prop) (a':A),(∀ x,S x→S' x)∧(∀ x,S' x→x < w2.heap.size)∧(∀ x,S' x→B≤x)∧dV w2 B S' p a'∧a'.join (m.drop (n + 1)) = a.join m∧a'.tot + tot (m.drop (n + 1))≤80000000∧Fr B S w w2:=by
     refine ⟨_,_,fun x hx=>.inl (WO.out x hx),fun x hx=>?_,fun x hx=>?_,FM,by rw [Im.out];exact HJ.out,by rw [Im.out];have:=jb.out;omega,(HF.out.alloc _).trans (hfr2.mono WO.out)⟩
     ·have hs:=hfr2.size;rcases hx with hx | hx
      ·exact kd (FJ.out _ x hx) hs
      ·omega
     ·rcases hx with hx | hx
      ·exact Io.out x hx
      ·simp only [World.size_alloc] at hx;omega
    have HR:=kq FN;clear FN FM hfr2 qc hBp;go_wp2_with fail;go_roundw
    case rel=>exact ⟨n + 1,by omega,by go_num,HR.out⟩
    case measure=>simp [intOf];omega
   ·have hs:a'.step k q t o f = a'.text t.data.toList q:=by unfold A.step;rw [hk];rfl
    rw [hs] at HJ jb;have HK:=kq hk;have HSS:=kq hs;clear hs;go_wp2_with fail;refine (HT.out _ HK.out).mono ?_;rintro e w2 ⟨rfl,FM,hfr2⟩;have FN:∃ (S':Nat→Prop) (a':A),(∀ x,S x→S' x)∧(∀ x,S' x→x < w2.heap.size)∧(∀ x,S' x→B≤x)∧dV w2 B S' p a'∧a'.join (m.drop (n + 1)) = a.join m∧a'.tot + tot (m.drop (n + 1))≤80000000∧Fr B S w w2 :=
     ⟨_,_,WO.out,fun x hx=>kd (FJ.out _ x hx) hfr2.size,Io.out,FM,by rw [Im.out];exact HJ.out,by rw [Im.out];have:=jb.out;omega,(HF.out.alloc _).trans (hfr2.mono WO.out)⟩
    have HR:=kq FN;clear FN FM hfr2;go_wp2_with fail;go_roundw
    case rel=>exact ⟨n + 1,by omega,by go_num,HR.out⟩
    case measure=>simp [intOf];omega
  ·obtain rfl:n = m.len:=by omega
   have HX:=kq (And.intro qR (And.intro wE (And.intro Z7 (And.intro fH (And.intro KF bi)))));clear qR wE Z7 fH KF bi;go_wp2;go_end0;obtain ⟨h1,h2,h3,h4,h5,h6⟩:=HX.out;rw [PL.fo (Nat.le_refl _),A.join_nil] at h5;subst h5;exact ⟨rfl,⟨S',h1,h2,h3,h4⟩,h6⟩
end Lx
end Go.Proofs.YtckakkeejekibaaGreatDoor
