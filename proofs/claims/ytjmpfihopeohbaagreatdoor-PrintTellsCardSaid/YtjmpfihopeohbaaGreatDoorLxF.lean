/- (*lex.parts).begin, put, text, add, all. -/
import Derived.Test.YtjmpfihopeohbaaGreatDoorLxC
set_option maxHeartbeats 800000
set_option maxRecDepth 100000
namespace Go.Proofs.YtjmpfihopeohbaaGreatDoor
open Go.RowKit Go.Sort
namespace Lx
open Cls Pt
attribute [local go_sem ↓] Go.wp_at_zero Go.wp_at_succ
theorem end_any (B:Nat) (S:Nat→Prop) (p:Nat) (a:A) (w:World) (h:AccAt w B S p a) (hl:a.l.len≤100000000) (hbs:a.bytes.length≤100000000) (hSl:∀ x,S x→x < w.heap.size) :
  Calls Tryz.prog 164 #[.pointer (some ⟨p,0,none⟩)] w (Ended B S p a w):=by
 obtain ⟨l,cur⟩:=a
 match cur with
 | none=>exact end_none B S p l w h
 | some (q,bs)=>exact end_some B S p l q bs w h hl hbs hSl
theorem begun_mk {w:World} {B p:Nat} {S:Nat→Prop} {vl vb v2 v3:Value} {l:PL} {bs:List UInt8} (q:Bool) (hp:w.heap[p]? = some (.cells #[vl,vb,v2,v3] 145 (0,0))) (hB:B≤p) (hS:¬ S p)
  (hb:Body w B S vl vb l bs):AccAt ((w.setCell ⟨p,2,none⟩ (.bool true)).setCell ⟨p,3,none⟩ (.bool q)) B S p ⟨l,some (q,bs)⟩∧Fr B S w ((w.setCell ⟨p,2,none⟩ (.bool true)).setCell ⟨p,3,none⟩ (.bool q)):=by
 have g1:=heap_setCell_same _ _ 2 _ _ (.bool true) hp;have g2:=heap_setCell_same _ _ 3 _ _ (.bool q) g1;refine ⟨⟨vl,vb,q,g2,hB,hS,(fun x h=>by cases h;rfl),(hb.setP hp hS _ _).setP g1 hS _ _⟩,((Fr.refl B S w).setCell hB hS _).setCell hB hS _⟩
theorem begin_any (B:Nat) (S:Nat→Prop) (p:Nat) (a:A) (q:Bool) (w:World) (h:AccAt w B S p a) (hl:a.l.len≤100000000) (hbs:a.bytes.length≤100000000) (hSl:∀ x,S x→x < w.heap.size) :
  Calls Tryz.prog 171 #[.pointer (some ⟨p,0,none⟩),.bool q] w fun e w'=>e = .returned (.tuple #[])∧AccAt w' B S p (a.begins q)∧Fr B S w w':=by
 have hE:=end_any B S p a w h hl hbs hSl;obtain ⟨l,cur⟩:=a;obtain ⟨vl,vb,q0,hp,hB,hS,hq,hbd⟩:=h;have c2:=zc2 hp;have c3:=zc3 hp;have f2:=zf 2 hp;have f3:=zf 3 hp;have HE:=Lib.hid hE;have HB:=Lib.hid hB;clear hE hB hSl
 match cur with
 | none =>
  simp only [Option.isSome] at c2;have HM:=Lib.hid (begun_mk q hp HB.out hS hbd);clear hp hbd hq;go_enter Tryz.func171,Tryz.ntmps171;go_wp2_with fail;go_end0;exact ⟨rfl,HM.out.1,HM.out.2⟩
 | some (q1,bs) =>
  obtain rfl:=hq _ rfl;simp only [Option.isSome] at c2;cases hqq:(q0 == q)
  ·have hqn:(!q0 == q) = true:=by rw [hqq];rfl
   have hqn2:(q0 != q) = true:=by simp only [bne,hqq];rfl
   have hbg:A.begins ⟨l,some (q0,bs)⟩ q = ⟨A.flush ⟨l,some (q0,bs)⟩,some (q,[])⟩:=by simp [A.begins,hqq]
   rw [hbg];have HQ:=Lib.hid hqq;clear hp hbd hq hqq hbg;go_enter Tryz.func171,Tryz.ntmps171;go_wp2_with fail;refine (HE.out).mono ?_;rintro e w1 ⟨rfl,⟨vl1,vb1,q1,hp1,hB1,_,_,hbd1⟩,hfr⟩;have d2:=zc2 hp1;have d3:=zc3 hp1;have e2:=zf 2 hp1;have e3:=zf 3 hp1;have HM:=Lib.hid (begun_mk q hp1 HB.out hS hbd1);have HF:=Lib.hid hfr;clear hp1 hbd1 hB1 hfr;go_wp2_with fail;go_end0;exact ⟨rfl,HM.out.1,HF.out.trans HM.out.2⟩
  ·have hqn:(!q0 == q) = false:=by rw [hqq];rfl
   obtain rfl:=beq_iff_eq.1 hqq;have hbg:A.begins ⟨l,some (q0,bs)⟩ q0 = ⟨l,some (q0,bs)⟩:=by simp [A.begins]
   rw [hbg];have HM:=Lib.hid (begun_mk q0 hp HB.out hS hbd);clear hp hbd hq hqq hbg;go_enter Tryz.func171,Tryz.ntmps171;go_wp2_with fail;go_end0;exact ⟨rfl,HM.out.1,HM.out.2⟩
theorem str_at {w:World} {B:Nat} {v:Value} {n:Nat} {xs:List Value} {i:TypeInfo} {ty:TypeId} (hi:Tryz.prog.info? 5 = some i) (hz:i.zero = some (.int .u8 0)) (h1:i.size = 1) (hby:i.bytes = 1) (hown:w.ownsRow B 5 1 v n xs) (s:ByteArray) (hn:n + s.size≤1000000000)
  {v':Value} {w':World} (hr:(Builtin.append_ #[47,9] ty #[v,.string s]).run Tryz.prog w = .ok v' w') (hnil:v' = .slice none 0 0 ↔ v = .slice none 0 0∧s.size = 0):v'.ownBlock = v.ownBlock∨v'.ownBlock = some w.heap.size:=by
 rcases hown.2 with ⟨rfl,rfl⟩ | ⟨g,cap,cur,rfl,hbg,hg,hnc,hcm,hcs,htake⟩
 ·by_cases h0:s.size = 0
  ·rw [hnil.2 ⟨rfl,h0⟩];exact .inl rfl
  ·have:=run_append_nil_string (P:=Tryz.prog) w 47 9 ty 5 i (.int .u8 0) Tryz.underlying47 Tryz.underlying9 hi hz s (by omega) (by omega) (by rw [hby];omega);rw [hr] at this;cases this;exact .inr rfl
 ·by_cases hroom:n + s.size≤cap
  ·have:=Lib.run_append_room_string (P:=Tryz.prog) w 47 9 ty 5 i Tryz.underlying47 Tryz.underlying9 hi h1 g n cap cur hg s hroom (by omega);rw [hr] at this;cases this;exact .inl rfl
  ·have:=Lib.run_append_grow_string (P:=Tryz.prog) w 47 9 ty 5 i (.int .u8 0) Tryz.underlying47 Tryz.underlying9 hi hz ⟨g,0,none⟩ n cap xs (by rw [h1];exact hown.1) (hown.cells (g:=g) rfl) s (by omega) (by omega) (by rw [hby];exact growslice_fits (by omega) (by omega));rw [hr] at this;cases this;exact .inr rfl
theorem wpList_str_at (w:World) {ops:Array Oper} {rest:List Oper} {o:Oper} {a:Act} {Q:Exit→Act→World→Prop} {i:TypeInfo} (hgd:o.guard = none) (sl x:Operand)
  (ho:o.op = .call { callee:=.builtin .append,args:=#[sl,x],argTypes:=#[47,9] }) (hi:Tryz.prog.info? 5 = some i) (hz:i.zero = some (.int .u8 0)) (h1:i.size = 1) (hby:i.bytes = 1)
  (B:Nat) (v:Value) (n:Nat) (xs:List Value) (hs:a.eval sl = v) (hown:w.ownsRow B 5 1 v n xs) (s:ByteArray) (hx:a.eval x = .string s) (hn:n + s.size≤1000000000) (hbase:B≤w.heap.size)
  (h:∀ v' w',w'.ownsRow B 5 1 v' (n + s.size) (xs ++ Lib.strCells s)→w.grownBy w' v.ownBlock→(v'.ownBlock = v.ownBlock∨v'.ownBlock = some w.heap.size)→wpList Tryz.prog ops Q rest (a.put o.dst v') w'):wpList Tryz.prog ops Q (o :: rest) a w:=by
 refine wpList_plain hgd fun K hK=>?_;obtain ⟨v',w',hr,h2,h3,h4⟩:=Lib.run_append_own_string (P:=Tryz.prog) w B 47 9 o.type 5 i Tryz.underlying47 Tryz.underlying9 hi hz h1 hby v n xs hown s (by unfold maxLen;omega) (by omega) hbase;have h5:=str_at hi hz h1 hby hown s hn hr h4;unfold Oper.wp execOp;simp only [ho,resolve,invoke,builtin,Sem.run_bind,Sem.run_pure,Result.andThen_ok,List.map_toArray,List.map_cons,List.map_nil,hs,hx,hr];exact hK _ _ (h v' w' h2 h3 h5)
theorem bytes_mk {w w2:World} {B p:Nat} {S:Nat→Prop} {vl vb v':Value} {l:PL} {bs t:List UInt8} {q:Bool} (hp:w.heap[p]? = some (.cells #[vl,vb,.bool true,.bool q] 145 (0,0))) (hB:B≤p) (hS:¬ S p) (hSl:∀ x,S x→x < w.heap.size)
  (hb:Body w B S vl vb l bs) (h2:w2.ownsRow B 5 1 v' (bs ++ t).length (Lib.byteCells (bs ++ t))) (hg:w.grownBy w2 vb.ownBlock) (hat:v'.ownBlock = vb.ownBlock∨v'.ownBlock = some w.heap.size) :
  w2.heap[p]? = some (.cells #[vl,vb,.bool true,.bool q] 145 (0,0))∧AccAt (w2.setCell ⟨p,1,none⟩ v') B S p ⟨l,some (q,bs ++ t)⟩∧Fr B S w (w2.setCell ⟨p,1,none⟩ v'):=by
 have hne:=hb.ne hp hS;obtain ⟨xs,o1,o2,o3,o4,o5⟩:=hb;have hplt:p < w.heap.size:=(Array.getElem?_eq_some_iff.1 hp).1;have hpo:some p ≠ vb.ownBlock:=fun e=>hne p (.inr (.inr e.symm)) rfl;have hA:∀ x,x < w.heap.size→some x ≠ vb.ownBlock→w2.heap[x]? = w.heap[x]?:=fun x hx ho=>hg.block x hx ho;have hp2:=(hA p hplt hpo).trans hp
 have ho1:w2.ownsRow B 75 5 vl l.len xs:=own_keep o1 fun x hx hlt=>hA x hlt (by
  intro e;obtain ⟨c1,k1⟩:=own_type o1 hx;obtain ⟨c2,k2⟩:=own_type o4 e.symm
  exact type_ne k2 k1 (by decide) rfl)
 have hbd:Body w2 B S vl v' l (bs ++ t):=by
  refine ⟨xs,ho1,o2.keep hg.size fun x hx hlt=>hA x hlt (fun e=>o5 x e.symm hx),o3,h2,fun x hx=>?_⟩;rcases hat with e | e
  ·exact o5 x (e ▸ hx)
  ·intro hs;have:=hSl x hs;rw [hx] at e;simp only [Option.some.injEq] at e;omega
 refine ⟨hp2,⟨vl,v',q,heap_setCell_same _ _ 1 _ _ v' hp2,hB,hS,(fun x h=>by cases h;rfl),hbd.setP hp2 hS _ _⟩,?_⟩;exact ((Fr.refl B S w).grown hg (fun k hk=>⟨(o4.lt k hk).1,o5 k hk⟩)).setCell hB hS _
theorem begins_cur (a:A) (q:Bool):(a.begins q).cur = some (q,(a.begins q).bytes):=by
 obtain ⟨l,cur⟩:=a
 match cur with
 | none=>rfl
 | some (q1,bs) =>
  cases h:(q1 == q)
  ·simp [A.begins,h,A.bytes]
  ·have:=beq_iff_eq.1 h;subst this;simp [A.begins,A.bytes]
theorem begins_len (a:A) (q:Bool):(a.begins q).l.len≤a.l.len + 1∧(a.begins q).bytes.length≤a.bytes.length:=by
 obtain ⟨l,cur⟩:=a
 match cur with
 | none=>simp [A.begins,A.bytes]
 | some (q1,bs) =>
  cases h:(q1 == q)
  ·simp [A.begins,h,A.bytes,A.flush,PL.app_len,A.lit,PL.len]
  ·have:=beq_iff_eq.1 h;subst this;simp [A.begins,A.bytes]
theorem str_cells (s:ByteArray):Lib.strCells s = Lib.byteCells s.data.toList:=by
 simp [Lib.strCells,Lib.byteCells]
theorem infoByte:(Tryz.prog.info? 5).map (fun i=>(i.zero,i.size,i.bytes)) = some (some (.int .u8 0),1,1):=by kernel_rfl
theorem text_any (B:Nat) (S:Nat→Prop) (p:Nat) (a:A) (s:ByteArray) (q:Bool) (w:World) (h:AccAt w B S p a) (hl:a.l.len≤90000000) (hbs:a.bytes.length≤90000000) (hs:s.size≤90000000) (hSl:∀ x,S x→x < w.heap.size) :
  Calls Tryz.prog 162 #[.pointer (some ⟨p,0,none⟩),.string s,.bool q] w fun e w'=>e = .returned (.tuple #[])∧AccAt w' B S p (a.text s.data.toList q)∧Fr B S w w':=by
 obtain ⟨i0,hi,hz0,hz1,hz2⟩:=info_parts infoByte;have HBG:=Lib.hid (begin_any B S p a q w h (by omega) (by omega) hSl);have hcu:=begins_cur a q;have hln:=begins_len a q;have HCU:=Lib.hid hcu;have HSL:=Lib.hid hSl;have HI:=Lib.hid hi;have HZ0:=Lib.hid hz0;have HZ1:=Lib.hid hz1;have HZ2:=Lib.hid hz2;clear h hcu hSl hi hz0 hz1 hz2;go_enter Tryz.func162,Tryz.ntmps162;go_wp2_with fail;refine (HBG.out).mono ?_;rintro e w1 ⟨rfl,⟨vl,vb,q1,hp,hB,hS,hq,hbd⟩,hfr⟩;rw [HCU.out] at hp hq;obtain rfl:=hq _ rfl;simp only [Option.isSome] at hp;have hSl1:∀ x,S x→x < w1.heap.size:=fun x hx=>Nat.lt_of_lt_of_le (HSL.out x hx) hfr.size;obtain ⟨al,capl,rfl⟩:∃ al capl,vb = .slice al (a.begins q1).bytes.length capl:=by
  obtain ⟨xs,_,_,_,o4,_⟩:=hbd;rcases o4.2 with ⟨rfl,h0⟩ | ⟨g,c,cur,rfl,_⟩
  ·exact ⟨none,0,by rw [h0]⟩
  ·exact ⟨_,c,rfl⟩
 have c1:=zc1 hp;have f1:=zf 1 hp;have hown:=hbd;obtain ⟨xs,_,_,_,o4,_⟩:=hown;have HP:=Lib.hid hp;have HB:=Lib.hid hB;have HBD:=Lib.hid hbd;have HF:=Lib.hid hfr;have HSL1:=Lib.hid hSl1;have HO:=Lib.hid o4;clear hp hB hbd hfr hSl1 hq o4;go_wp2_with (at_builtin;refine wpList_str_at _ rfl _ _ rfl HI.out HZ0.out HZ1.out HZ2.out B _ _ _ rfl HO.out s rfl ?c1 ?c2 ?_)
 case c1=>omega
 case c2=>have:=(Array.getElem?_eq_some_iff.1 HP.out).1;have:=HB.out;omega
 intro v' w2 hown2 hgrow hat;obtain ⟨a2,n2,cap2,rfl⟩:∃ a2 n2 cap2,v' = .slice a2 n2 cap2:=by
  rcases hown2.2 with ⟨rfl,_⟩ | ⟨g,c,cur,rfl,_⟩
  ·exact ⟨_,_,_,rfl⟩
  ·exact ⟨_,_,_,rfl⟩
 have hx:w2.ownsRow B 5 1 (.slice a2 n2 cap2) ((a.begins q1).bytes ++ s.data.toList).length (Lib.byteCells ((a.begins q1).bytes ++ s.data.toList)):=by
  rw [List.length_append,lenB,Lib.byteCells_append,← str_cells];exact hown2
 obtain ⟨hp2,hacc,hfr2⟩:=bytes_mk HP.out HB.out hS HSL1.out HBD.out hx hgrow hat;have d1:=zc1 hp2;have e1:=zf 1 hp2;have HA:=Lib.hid hacc;have HF2:=Lib.hid hfr2;clear hown2 hgrow hat hx hp2 hacc hfr2;go_wp2_with fail;go_end0;exact ⟨rfl,HA.out,HF.out.trans HF2.out⟩
theorem put_any (B:Nat) (S:Nat→Prop) (p:Nat) (a:A) (c:UInt8) (q:Bool) (w:World) (h:AccAt w B S p a) (hl:a.l.len≤90000000) (hbs:a.bytes.length≤90000000) (hSl:∀ x,S x→x < w.heap.size) :
  Calls Tryz.prog 150 #[.pointer (some ⟨p,0,none⟩),.int .u8 c.toNat,.bool q] w fun e w'=>e = .returned (.tuple #[])∧AccAt w' B S p (a.text [c] q)∧Fr B S w w':=by
 obtain ⟨i0,hi,hz0,hz1,hz2⟩:=info_parts infoByte;have HBG:=Lib.hid (begin_any B S p a q w h (by omega) (by omega) hSl);have hcu:=begins_cur a q;have hln:=begins_len a q;have HCU:=Lib.hid hcu;have HSL:=Lib.hid hSl;have HI:=Lib.hid hi;have HZ0:=Lib.hid hz0;have HZ1:=Lib.hid hz1;have HZ2:=Lib.hid hz2;clear h hcu hSl hi hz0 hz1 hz2;go_enter Tryz.func150,Tryz.ntmps150;go_wp2_with fail;refine (HBG.out).mono ?_;rintro e w1 ⟨rfl,⟨vl,vb,q1,hp,hB,hS,hq,hbd⟩,hfr⟩;rw [HCU.out] at hp hq;obtain rfl:=hq _ rfl;simp only [Option.isSome] at hp;have hSl1:∀ x,S x→x < (w1.alloc (.cells #[.int .u8 c.toNat] 5)).heap.size:=fun x hx=>Nat.lt_of_lt_of_le (HSL.out x hx) (by have:=hfr.size;simp;omega);have hx0:∀ o,(w1.alloc o).heap[p]? = w1.heap[p]?:=fun o=>Below.heap_alloc _ _ _ (Array.getElem?_eq_some_iff.1 hp).1;have hbd1:Body (w1.alloc (.cells #[.int .u8 c.toNat] 5)) B S vl vb (a.begins q1).l (a.begins q1).bytes:=hbd.keep (by simp) fun b hb _=>Below.heap_alloc _ _ _ hb;obtain ⟨al,capl,rfl⟩:∃ al capl,vb = .slice al (a.begins q1).bytes.length capl:=by
  obtain ⟨xs,_,_,_,o4,_⟩:=hbd;rcases o4.2 with ⟨rfl,h0⟩ | ⟨g,c,cur,rfl,_⟩
  ·exact ⟨none,0,by rw [h0]⟩
  ·exact ⟨_,c,rfl⟩
 have c1:=zc1 hp;have f1:=zf 1 hp;have hown:=hbd;obtain ⟨xs,_,_,_,o4,_⟩:=hown;have hbw:B≤w1.heap.size:=by have:=(Array.getElem?_eq_some_iff.1 hp).1;omega
 have HP:=Lib.hid ((hx0 (.cells #[.int .u8 c.toNat] 5)).trans hp);have HB:=Lib.hid hB;have HBD:=Lib.hid hbd1;have HF:=Lib.hid hfr;have HSL1:=Lib.hid hSl1;have HO:=Lib.hid o4;clear hp hB hbd hbd1 hfr hSl1 hq o4 hx0;go_wp2_with (at_builtin;refine wpList_append_lies _ rfl _ _ 47 rfl B 5 i0 (.int .u8 0) 1 1 Tryz.underlying47 HI.out HZ0.out HZ1.out HZ2.out rfl (by decide) _ _ _ rfl (HO.out.alloc _) ⟨w1.heap.size,0,none⟩ 1 1 [.int .u8 c.toNat] rfl rfl ?c1 ?c2 ?c3 ?c4 ?c5 ?c6 (w1.heap.size + 1) ?c7 ?_)
 case c1 =>
  intro j u hj
  match j,hj with
  | 0,hj=>simp at hj;subst hj;simp [Addr.add]
 case c2=>intro u hu;simp at hu;subst hu;rfl
 case c3=>omega
 case c4=>unfold maxLen;omega
 case c5=>omega
 case c6=>simp;omega
 case c7=>simp
 intro g capn w2 hown2 hgrow hat hlt;have hx:w2.ownsRow B 5 1 (.slice (some ⟨g,0,none⟩) ((a.begins q1).bytes.length + 1) capn) ((a.begins q1).bytes ++ [c]).length (Lib.byteCells ((a.begins q1).bytes ++ [c])):=by
  rw [List.length_append,Lib.byteCells_append];exact hown2
 have hat2:(Value.slice (some ⟨g,0,none⟩) ((a.begins q1).bytes.length + 1) capn).ownBlock = (Value.slice al (a.begins q1).bytes.length capl).ownBlock∨(Value.slice (some ⟨g,0,none⟩) ((a.begins q1).bytes.length + 1) capn).ownBlock = some (w1.alloc (.cells #[.int .u8 c.toNat] 5)).heap.size:=by
  rcases hat with e | e
  ·exact .inl e.symm
  ·exact .inr (by rw [e];simp [Value.ownBlock])
 obtain ⟨hp2,hacc,hfr2⟩:=bytes_mk HP.out HB.out hS HSL1.out HBD.out hx hgrow hat2;have d1:=zc1 hp2;have e1:=zf 1 hp2;have HA:=Lib.hid hacc;have HF2:=Lib.hid hfr2;clear hown2 hgrow hat hat2 hx hp2 hacc hfr2;go_wp2_with fail;go_end0;exact ⟨rfl,HA.out,(HF.out.alloc _).trans HF2.out⟩
end Lx
end Go.Proofs.YtjmpfihopeohbaaGreatDoor
namespace Go.Proofs.YtjmpfihopeohbaaGreatDoor
open Go.RowKit Go.Sort
namespace Lx
open Cls Pt
attribute [local go_sem ↓] Go.wp_at_zero Go.wp_at_succ
def one (k:Int) (q:Bool) (t o:ByteArray) (f:PL):PL:=.cons k q t o f .nil
end Lx
end Go.Proofs.YtjmpfihopeohbaaGreatDoor
namespace Go.Proofs.YtjmpfihopeohbaaGreatDoor
open Go.RowKit Go.Sort
namespace Lx
open Cls Pt
def tot:PL→Nat
 | .nil=>0
 | .cons _ _ t _ _ r=>1 + t.size + tot r
theorem tot_app:∀ l m:PL,tot (l.app m) = tot l + tot m
 | .nil,m=>by simp [tot,PL.app]
 | .cons _ _ _ _ _ r,m=>by simp only [tot,PL.app,tot_app r m];omega
theorem len_tot:∀ l:PL,l.len≤tot l
 | .nil=>Nat.le_refl _
 | .cons _ _ _ _ _ r=>by have:=len_tot r;simp only [PL.len,tot];omega
def A.tot (a:A):Nat:=Lx.tot a.l + match a.cur with | none=>0 | some x=>1 + x.2.length
theorem A.flush_tot (a:A):Lx.tot a.flush = a.tot:=by
 obtain ⟨l,cur⟩:=a
 match cur with
 | none=>simp [A.flush,A.tot]
 | some x =>
  simp only [A.flush,A.tot,tot_app,A.lit,Lx.tot];show Lx.tot l + (1 + (List.toArray _).size + 0) = _;rw [List.size_toArray];omega
theorem A.begins_tot (a:A) (q:Bool):(a.begins q).tot≤a.tot + 1:=by
 obtain ⟨l,cur⟩:=a
 match cur with
 | none=>simp [A.begins,A.tot]
 | some x =>
  simp only [A.begins];split
  ·omega
  ·have:=A.flush_tot ⟨l,some x⟩;simp only [A.tot,List.length_nil] at this ⊢
   omega
theorem A.text_tot (a:A) (s:List UInt8) (q:Bool):(a.text s q).tot≤a.tot + 1 + s.length:=by
 have h:=A.begins_tot a q;have hc:=begins_cur a q;simp only [A.tot,hc] at h;simp only [A.text,A.tot,List.length_append];omega
theorem A.sizes (a:A):a.l.len≤a.tot∧a.bytes.length≤a.tot:=by
 have:=len_tot a.l;obtain ⟨l,cur⟩:=a
 match cur with
 | none=>simp only [A.tot,A.bytes,List.length_nil];simp only [] at this;omega
 | some x=>simp only [A.tot,A.bytes];simp only [] at this;omega
theorem lies_all {w:World} {B:Nat} {S:Nat→Prop} {vl vb:Value} {l:PL} {bs:List UInt8} (hb:Body w B S vl vb l bs) (hSB:∀ x,S x→B≤x) (hl:l.len≤R):∃ a cap,vl = .slice a l.len cap∧LiesS (fun b=>B≤b) w a cap l:=by
 obtain ⟨xs,h1,h2,_⟩:=hb;have h0:=lies_own h1 h2.cells hl;obtain ⟨a,cap,rfl,_⟩:=h0;refine ⟨a,cap,rfl,fun w2 hs hk=>?_⟩;have h1':w2.ownsRow B 75 5 (.slice a l.len cap) l.len xs:=own_keep h1 fun g hg hlt=>hk g (h1.lt g hg).1 hlt;have h2':CellsS S w2 l xs:=h2.keep hs fun b hb hlt=>hk b (hSB b hb) hlt;obtain ⟨a',cap',e,hli⟩:=lies_own h1' h2'.cells hl;cases e;exact hli
theorem all_any (B:Nat) (S:Nat→Prop) (p:Nat) (a:A) (w:World) (h:AccAt w B S p a) (ht:a.tot≤80000000) (hSl:∀ x,S x→x < w.heap.size) (hSB:∀ x,S x→B≤x) :
  Calls Tryz.prog 149 #[.pointer (some ⟨p,0,none⟩)] w fun e w'=>(∃ a' cap',e = .returned (.slice a' a.flush.len cap')∧LiesS (fun b=>B≤b) w' a' cap' a.flush)∧Fr B S w w':=by
 have hz:=a.sizes;have hfl:a.flush.len≤80000000:=by have:=len_tot a.flush;rw [A.flush_tot] at this;omega
 have HE:=Lib.hid (end_any B S p a w h (by omega) (by omega) hSl);have HSB:=Lib.hid hSB;clear h hSl hSB hz ht;go_enter Tryz.func149,Tryz.ntmps149;go_wp2_with fail;refine (HE.out).mono ?_;rintro e w1 ⟨rfl,⟨vl,vb,q1,hp,hB,hS',hq,hbd⟩,hfr⟩;obtain ⟨a',cap',rfl,hli⟩:=lies_all hbd HSB.out (by unfold R;simp only [];omega);have c0:=zc0 hp;have HL:=Lib.hid hli;have HF:=Lib.hid hfr;clear hp hbd hli hfr hq;go_wp2_with fail;go_ret;exact ⟨⟨a',cap',rfl,HL.out⟩,HF.out⟩
end Lx
end Go.Proofs.YtjmpfihopeohbaaGreatDoor
