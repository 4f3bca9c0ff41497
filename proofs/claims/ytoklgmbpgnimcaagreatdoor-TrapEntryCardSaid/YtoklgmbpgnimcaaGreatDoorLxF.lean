/- (*lex.parts).begin, put, text, add, all. -/
/- (*lex.parts).add, all, join. -/
/- (*lex.parts).all, join. -/
import Derived.Test.YtoklgmbpgnimcaaGreatDoorRegN
import Derived.Test.YtoklgmbpgnimcaaGreatDoorLxC
import Derived.Lib.AppendStr
namespace Go.Proofs.YtoklgmbpgnimcaaGreatDoor
open Go.RowKit Go.Sort
namespace Lx
open Cls Pt
attribute [local go_sem ↓] Go.wp_at_zero Go.wp_at_succ
theorem end_any (B:Nat) (S:Nat→Prop) (p:Nat) (a:A) (w:World) (h:AccAt w B S p a) (hl:a.l.len≤100000000) (hbs:a.bytes.length≤100000000) (hSl:∀ x,S x→x < w.heap.size) :
  Calls Tryz.prog 99 #[.pointer (some ⟨p,0,none⟩)] w (Ended B S p a w):=by
 obtain ⟨l,cur⟩:=a
 match cur with
 | none=>exact end_none B S p l w h
 | some (q,bs)=>exact end_some B S p l q bs w h hl hbs hSl
theorem begun_mk {w:World} {B p:Nat} {S:Nat→Prop} {vl vb v2 v3:Value} {l:PL} {bs:List UInt8} (q:Bool) (hp:w.heap[p]? = some (.cells #[vl,vb,v2,v3] 130 (0,0))) (hB:B≤p) (hS:¬ S p)
  (hb:Body w B S vl vb l bs):AccAt ((w.setCell ⟨p,2,none⟩ (.bool true)).setCell ⟨p,3,none⟩ (.bool q)) B S p ⟨l,some (q,bs)⟩∧Fr B S w ((w.setCell ⟨p,2,none⟩ (.bool true)).setCell ⟨p,3,none⟩ (.bool q)):=by
 have g1:=heap_setCell_same _ _ 2 _ _ (.bool true) hp
 have g2:=heap_setCell_same _ _ 3 _ _ (.bool q) g1
 refine ⟨⟨vl,vb,q,g2,hB,hS,(fun x h=>by cases h;rfl),(hb.setP hp hS _ _).setP g1 hS _ _⟩,((Fr.refl B S w).setCell hB hS _).setCell hB hS _⟩
set_option maxHeartbeats 800000 in
theorem begin_any (B:Nat) (S:Nat→Prop) (p:Nat) (a:A) (q:Bool) (w:World) (h:AccAt w B S p a) (hl:a.l.len≤100000000) (hbs:a.bytes.length≤100000000) (hSl:∀ x,S x→x < w.heap.size) :
  Calls Tryz.prog 106 #[.pointer (some ⟨p,0,none⟩),.bool q] w fun e w'=>e = .returned (.tuple #[])∧AccAt w' B S p (a.begins q)∧Fr B S w w':=by
 have hE:=end_any B S p a w h hl hbs hSl
 obtain ⟨l,cur⟩:=a
 obtain ⟨vl,vb,q0,hp,hB,hS,hq,hbd⟩:=h
 have c2:=zc2 hp
 have c3:=zc3 hp
 have f2:=zf 2 hp
 have f3:=zf 3 hp
 have HE:=Lib.hid hE;have HB:=Lib.hid hB
 clear hE hB hSl
 match cur with
 | none =>
  simp only [Option.isSome] at c2
  have HM:=Lib.hid (begun_mk q hp HB.out hS hbd)
  clear hp hbd hq
  go_enter Tryz.func106,Tryz.ntmps106
  go_wp2_with fail
  go_end0
  exact ⟨rfl,HM.out.1,HM.out.2⟩
 | some (q1,bs) =>
  obtain rfl:=hq _ rfl
  simp only [Option.isSome] at c2
  cases hqq:(q0 == q)
  ·have hqn:(!q0 == q) = true:=by rw [hqq];rfl
   have hqn2:(q0 != q) = true:=by simp only [bne,hqq];rfl
   have hbg:A.begins ⟨l,some (q0,bs)⟩ q = ⟨A.flush ⟨l,some (q0,bs)⟩,some (q,[])⟩:=by simp [A.begins,hqq]
   rw [hbg]
   have HQ:=Lib.hid hqq
   clear hp hbd hq hqq hbg
   go_enter Tryz.func106,Tryz.ntmps106
   go_wp2_with fail
   refine (HE.out).mono ?_
   rintro e w1 ⟨rfl,⟨vl1,vb1,q1,hp1,hB1,_,_,hbd1⟩,hfr⟩
   have d2:=zc2 hp1
   have d3:=zc3 hp1
   have e2:=zf 2 hp1
   have e3:=zf 3 hp1
   have HM:=Lib.hid (begun_mk q hp1 HB.out hS hbd1)
   have HF:=Lib.hid hfr
   clear hp1 hbd1 hB1 hfr
   go_wp2_with fail
   go_end0
   exact ⟨rfl,HM.out.1,HF.out.trans HM.out.2⟩
  ·have hqn:(!q0 == q) = false:=by rw [hqq];rfl
   obtain rfl:=beq_iff_eq.1 hqq
   have hbg:A.begins ⟨l,some (q0,bs)⟩ q0 = ⟨l,some (q0,bs)⟩:=by simp [A.begins]
   rw [hbg]
   have HM:=Lib.hid (begun_mk q0 hp HB.out hS hbd)
   clear hp hbd hq hqq hbg
   go_enter Tryz.func106,Tryz.ntmps106
   go_wp2_with fail
   go_end0
   exact ⟨rfl,HM.out.1,HM.out.2⟩
theorem str_at {w:World} {B:Nat} {v:Value} {n:Nat} {xs:List Value} {i:TypeInfo} {ty:TypeId} (hi:Tryz.prog.info? 5 = some i) (hz:i.zero = some (.int .u8 0)) (h1:i.size = 1) (hby:i.bytes = 1) (hown:w.ownsRow B 5 1 v n xs) (s:ByteArray) (hn:n + s.size≤1000000000)
  {v':Value} {w':World} (hr:(Builtin.append_ #[70,9] ty #[v,.string s]).run Tryz.prog w = .ok v' w') (hnil:v' = .slice none 0 0 ↔ v = .slice none 0 0∧s.size = 0):v'.ownBlock = v.ownBlock∨v'.ownBlock = some w.heap.size:=by
 rcases hown.2 with ⟨rfl,rfl⟩ | ⟨g,cap,cur,rfl,hbg,hg,hnc,hcm,hcs,htake⟩
 ·by_cases h0:s.size = 0
  ·rw [hnil.2 ⟨rfl,h0⟩];exact .inl rfl
  ·have:=run_append_nil_string (P:=Tryz.prog) w 70 9 ty 5 i (.int .u8 0) Tryz.underlying70 Tryz.underlying9 hi hz s (by omega) (by omega) (by rw [hby];omega)
   rw [hr] at this
   cases this
   exact .inr rfl
 ·by_cases hroom:n + s.size≤cap
  ·have:=Lib.run_append_room_string (P:=Tryz.prog) w 70 9 ty 5 i Tryz.underlying70 Tryz.underlying9 hi h1 g n cap cur hg s hroom (by omega)
   rw [hr] at this
   cases this
   exact .inl rfl
  ·have:=Lib.run_append_grow_string (P:=Tryz.prog) w 70 9 ty 5 i (.int .u8 0) Tryz.underlying70 Tryz.underlying9 hi hz ⟨g,0,none⟩ n cap xs (by rw [h1];exact hown.1) (hown.cells (g:=g) rfl) s (by omega) (by omega) (by rw [hby];exact growslice_fits (by omega) (by omega))
   rw [hr] at this
   cases this
   exact .inr rfl
theorem wpList_str_at (w:World) {ops:Array Oper} {rest:List Oper} {o:Oper} {a:Act} {Q:Exit→Act→World→Prop} {i:TypeInfo} (hgd:o.guard = none) (sl x:Operand)
  (ho:o.op = .call { callee:=.builtin .append,args:=#[sl,x],argTypes:=#[70,9] }) (hi:Tryz.prog.info? 5 = some i) (hz:i.zero = some (.int .u8 0)) (h1:i.size = 1) (hby:i.bytes = 1)
  (B:Nat) (v:Value) (n:Nat) (xs:List Value) (hs:a.eval sl = v) (hown:w.ownsRow B 5 1 v n xs) (s:ByteArray) (hx:a.eval x = .string s) (hn:n + s.size≤1000000000) (hbase:B≤w.heap.size)
  (h:∀ v' w',w'.ownsRow B 5 1 v' (n + s.size) (xs ++ Lib.strCells s)→w.grownBy w' v.ownBlock→(v'.ownBlock = v.ownBlock∨v'.ownBlock = some w.heap.size)→wpList Tryz.prog ops Q rest (a.put o.dst v') w'):wpList Tryz.prog ops Q (o :: rest) a w:=by
 refine wpList_plain hgd fun K hK=>?_
 obtain ⟨v',w',hr,h2,h3,h4⟩:=Lib.run_append_own_string (P:=Tryz.prog) w B 70 9 o.type 5 i Tryz.underlying70 Tryz.underlying9 hi hz h1 hby v n xs hown s (by unfold maxLen;omega) (by omega) hbase
 have h5:=str_at hi hz h1 hby hown s hn hr h4
 unfold Oper.wp execOp
 simp only [ho,resolve,invoke,builtin,Sem.run_bind,Sem.run_pure,Result.andThen_ok,List.map_toArray,List.map_cons,List.map_nil,hs,hx,hr]
 exact hK _ _ (h v' w' h2 h3 h5)
theorem bytes_mk {w w2:World} {B p:Nat} {S:Nat→Prop} {vl vb v':Value} {l:PL} {bs t:List UInt8} {q:Bool} (hp:w.heap[p]? = some (.cells #[vl,vb,.bool true,.bool q] 130 (0,0))) (hB:B≤p) (hS:¬ S p) (hSl:∀ x,S x→x < w.heap.size)
  (hb:Body w B S vl vb l bs) (h2:w2.ownsRow B 5 1 v' (bs ++ t).length (Lib.byteCells (bs ++ t))) (hg:w.grownBy w2 vb.ownBlock) (hat:v'.ownBlock = vb.ownBlock∨v'.ownBlock = some w.heap.size) :
  w2.heap[p]? = some (.cells #[vl,vb,.bool true,.bool q] 130 (0,0))∧AccAt (w2.setCell ⟨p,1,none⟩ v') B S p ⟨l,some (q,bs ++ t)⟩∧Fr B S w (w2.setCell ⟨p,1,none⟩ v'):=by
 have hne:=hb.ne hp hS
 obtain ⟨xs,o1,o2,o3,o4,o5⟩:=hb
 have hplt:p < w.heap.size:=(Array.getElem?_eq_some_iff.1 hp).1
 have hpo:some p ≠ vb.ownBlock:=fun e=>hne p (.inr (.inr e.symm)) rfl
 have hA:∀ x,x < w.heap.size→some x ≠ vb.ownBlock→w2.heap[x]? = w.heap[x]?:=fun x hx ho=>hg.block x hx ho
 have hp2:=(hA p hplt hpo).trans hp
 have ho1:w2.ownsRow B 125 5 vl l.len xs:=own_keep o1 fun x hx hlt=>hA x hlt (by
  intro e
  obtain ⟨c1,k1⟩:=own_type o1 hx
  obtain ⟨c2,k2⟩:=own_type o4 e.symm
  exact type_ne k2 k1 (by decide) rfl)
 have hbd:Body w2 B S vl v' l (bs ++ t):=by
  refine ⟨xs,ho1,o2.keep hg.size fun x hx hlt=>hA x hlt (fun e=>o5 x e.symm hx),o3,h2,fun x hx=>?_⟩
  rcases hat with e | e
  ·exact o5 x (e ▸ hx)
  ·intro hs
   have:=hSl x hs
   rw [hx] at e
   simp only [Option.some.injEq] at e
   omega
 refine ⟨hp2,⟨vl,v',q,heap_setCell_same _ _ 1 _ _ v' hp2,hB,hS,(fun x h=>by cases h;rfl),hbd.setP hp2 hS _ _⟩,?_⟩
 exact ((Fr.refl B S w).grown hg (fun k hk=>⟨(o4.lt k hk).1,o5 k hk⟩)).setCell hB hS _
theorem begins_cur (a:A) (q:Bool):(a.begins q).cur = some (q,(a.begins q).bytes):=by
 obtain ⟨l,cur⟩:=a
 match cur with
 | none=>rfl
 | some (q1,bs) =>
  cases h:(q1 == q)
  ·simp [A.begins,h,A.bytes]
  ·have:=beq_iff_eq.1 h
   subst this
   simp [A.begins,A.bytes]
theorem begins_len (a:A) (q:Bool):(a.begins q).l.len≤a.l.len + 1∧(a.begins q).bytes.length≤a.bytes.length:=by
 obtain ⟨l,cur⟩:=a
 match cur with
 | none=>simp [A.begins,A.bytes]
 | some (q1,bs) =>
  cases h:(q1 == q)
  ·simp [A.begins,h,A.bytes,A.flush,PL.app_len,A.lit,PL.len]
  ·have:=beq_iff_eq.1 h
   subst this
   simp [A.begins,A.bytes]
theorem str_cells (s:ByteArray):Lib.strCells s = Lib.byteCells s.data.toList:=by
 simp [Lib.strCells,Lib.byteCells]
theorem infoByte:(Tryz.prog.info? 5).map (fun i=>(i.zero,i.size,i.bytes)) = some (some (.int .u8 0),1,1):=by kernel_rfl
set_option maxHeartbeats 800000 in
set_option maxRecDepth 100000 in
theorem text_any (B:Nat) (S:Nat→Prop) (p:Nat) (a:A) (s:ByteArray) (q:Bool) (w:World) (h:AccAt w B S p a) (hl:a.l.len≤90000000) (hbs:a.bytes.length≤90000000) (hs:s.size≤90000000) (hSl:∀ x,S x→x < w.heap.size) :
  Calls Tryz.prog 97 #[.pointer (some ⟨p,0,none⟩),.string s,.bool q] w fun e w'=>e = .returned (.tuple #[])∧AccAt w' B S p (a.text s.data.toList q)∧Fr B S w w':=by
 obtain ⟨i0,hi,hz0,hz1,hz2⟩:=info_parts infoByte
 have HBG:=Lib.hid (begin_any B S p a q w h (by omega) (by omega) hSl)
 have hcu:=begins_cur a q
 have hln:=begins_len a q
 have HCU:=Lib.hid hcu;have HSL:=Lib.hid hSl;have HI:=Lib.hid hi;have HZ0:=Lib.hid hz0;have HZ1:=Lib.hid hz1;have HZ2:=Lib.hid hz2
 clear h hcu hSl hi hz0 hz1 hz2
 go_enter Tryz.func97,Tryz.ntmps97
 go_wp2_with fail
 refine (HBG.out).mono ?_
 rintro e w1 ⟨rfl,⟨vl,vb,q1,hp,hB,hS,hq,hbd⟩,hfr⟩
 rw [HCU.out] at hp hq
 obtain rfl:=hq _ rfl
 simp only [Option.isSome] at hp
 have hSl1:∀ x,S x→x < w1.heap.size:=fun x hx=>Nat.lt_of_lt_of_le (HSL.out x hx) hfr.size
 obtain ⟨al,capl,rfl⟩:∃ al capl,vb = .slice al (a.begins q1).bytes.length capl:=by
  obtain ⟨xs,_,_,_,o4,_⟩:=hbd
  rcases o4.2 with ⟨rfl,h0⟩ | ⟨g,c,cur,rfl,_⟩
  ·exact ⟨none,0,by rw [h0]⟩
  ·exact ⟨_,c,rfl⟩
 have c1:=zc1 hp
 have f1:=zf 1 hp
 have hown:=hbd
 obtain ⟨xs,_,_,_,o4,_⟩:=hown
 have HP:=Lib.hid hp;have HB:=Lib.hid hB;have HBD:=Lib.hid hbd;have HF:=Lib.hid hfr;have HSL1:=Lib.hid hSl1;have HO:=Lib.hid o4
 clear hp hB hbd hfr hSl1 hq o4
 go_wp2_with (at_builtin;refine wpList_str_at _ rfl _ _ rfl HI.out HZ0.out HZ1.out HZ2.out B _ _ _ rfl HO.out s rfl ?c1 ?c2 ?_)
 case c1=>omega
 case c2=>have:=(Array.getElem?_eq_some_iff.1 HP.out).1;have:=HB.out;omega
 intro v' w2 hown2 hgrow hat
 obtain ⟨a2,n2,cap2,rfl⟩:∃ a2 n2 cap2,v' = .slice a2 n2 cap2:=by
  rcases hown2.2 with ⟨rfl,_⟩ | ⟨g,c,cur,rfl,_⟩
  ·exact ⟨_,_,_,rfl⟩
  ·exact ⟨_,_,_,rfl⟩
 have hx:w2.ownsRow B 5 1 (.slice a2 n2 cap2) ((a.begins q1).bytes ++ s.data.toList).length (Lib.byteCells ((a.begins q1).bytes ++ s.data.toList)):=by
  rw [List.length_append,lenB,Lib.byteCells_append,← str_cells];exact hown2
 obtain ⟨hp2,hacc,hfr2⟩:=bytes_mk HP.out HB.out hS HSL1.out HBD.out hx hgrow hat
 have d1:=zc1 hp2
 have e1:=zf 1 hp2
 have HA:=Lib.hid hacc;have HF2:=Lib.hid hfr2
 clear hown2 hgrow hat hx hp2 hacc hfr2
 go_wp2_with fail
 go_end0
 exact ⟨rfl,HA.out,HF.out.trans HF2.out⟩
set_option maxHeartbeats 800000 in
set_option maxRecDepth 100000 in
theorem put_any (B:Nat) (S:Nat→Prop) (p:Nat) (a:A) (c:UInt8) (q:Bool) (w:World) (h:AccAt w B S p a) (hl:a.l.len≤90000000) (hbs:a.bytes.length≤90000000) (hSl:∀ x,S x→x < w.heap.size) :
  Calls Tryz.prog 89 #[.pointer (some ⟨p,0,none⟩),.int .u8 c.toNat,.bool q] w fun e w'=>e = .returned (.tuple #[])∧AccAt w' B S p (a.text [c] q)∧Fr B S w w':=by
 obtain ⟨i0,hi,hz0,hz1,hz2⟩:=info_parts infoByte
 have HBG:=Lib.hid (begin_any B S p a q w h (by omega) (by omega) hSl)
 have hcu:=begins_cur a q
 have hln:=begins_len a q
 have HCU:=Lib.hid hcu;have HSL:=Lib.hid hSl;have HI:=Lib.hid hi;have HZ0:=Lib.hid hz0;have HZ1:=Lib.hid hz1;have HZ2:=Lib.hid hz2
 clear h hcu hSl hi hz0 hz1 hz2
 go_enter Tryz.func89,Tryz.ntmps89
 go_wp2_with fail
 refine (HBG.out).mono ?_
 rintro e w1 ⟨rfl,⟨vl,vb,q1,hp,hB,hS,hq,hbd⟩,hfr⟩
 rw [HCU.out] at hp hq
 obtain rfl:=hq _ rfl
 simp only [Option.isSome] at hp
 have hSl1:∀ x,S x→x < (w1.alloc (.cells #[.int .u8 c.toNat] 5)).heap.size:=fun x hx=>Nat.lt_of_lt_of_le (HSL.out x hx) (by have:=hfr.size;simp;omega)
 have hx0:∀ o,(w1.alloc o).heap[p]? = w1.heap[p]?:=fun o=>Below.heap_alloc _ _ _ (Array.getElem?_eq_some_iff.1 hp).1
 have hbd1:Body (w1.alloc (.cells #[.int .u8 c.toNat] 5)) B S vl vb (a.begins q1).l (a.begins q1).bytes:=hbd.keep (by simp) fun b hb _=>Below.heap_alloc _ _ _ hb
 obtain ⟨al,capl,rfl⟩:∃ al capl,vb = .slice al (a.begins q1).bytes.length capl:=by
  obtain ⟨xs,_,_,_,o4,_⟩:=hbd
  rcases o4.2 with ⟨rfl,h0⟩ | ⟨g,c,cur,rfl,_⟩
  ·exact ⟨none,0,by rw [h0]⟩
  ·exact ⟨_,c,rfl⟩
 have c1:=zc1 hp
 have f1:=zf 1 hp
 have hown:=hbd
 obtain ⟨xs,_,_,_,o4,_⟩:=hown
 have hbw:B≤w1.heap.size:=by have:=(Array.getElem?_eq_some_iff.1 hp).1;omega
 have HP:=Lib.hid ((hx0 (.cells #[.int .u8 c.toNat] 5)).trans hp);have HB:=Lib.hid hB;have HBD:=Lib.hid hbd1;have HF:=Lib.hid hfr;have HSL1:=Lib.hid hSl1;have HO:=Lib.hid o4
 clear hp hB hbd hbd1 hfr hSl1 hq o4 hx0
 go_wp2_with (at_builtin;refine wpList_append_lies _ rfl _ _ 70 rfl B 5 i0 (.int .u8 0) 1 1 Tryz.underlying70 HI.out HZ0.out HZ1.out HZ2.out rfl (by decide) _ _ _ rfl (HO.out.alloc _) ⟨w1.heap.size,0,none⟩ 1 1 [.int .u8 c.toNat] rfl rfl ?c1 ?c2 ?c3 ?c4 ?c5 ?c6 (w1.heap.size + 1) ?c7 ?_)
 case c1 =>
  intro j u hj
  match j,hj with
  | 0,hj=>simp at hj;subst hj;simp [Addr.add]
 case c2=>intro u hu;simp at hu;subst hu;rfl
 case c3=>omega
 case c4=>unfold maxLen;omega
 case c5=>omega
 case c6=>simp;omega
 case c7=>simp
 intro g capn w2 hown2 hgrow hat hlt
 have hx:w2.ownsRow B 5 1 (.slice (some ⟨g,0,none⟩) ((a.begins q1).bytes.length + 1) capn) ((a.begins q1).bytes ++ [c]).length (Lib.byteCells ((a.begins q1).bytes ++ [c])):=by
  rw [List.length_append,Lib.byteCells_append];exact hown2
 have hat2:(Value.slice (some ⟨g,0,none⟩) ((a.begins q1).bytes.length + 1) capn).ownBlock = (Value.slice al (a.begins q1).bytes.length capl).ownBlock∨(Value.slice (some ⟨g,0,none⟩) ((a.begins q1).bytes.length + 1) capn).ownBlock = some (w1.alloc (.cells #[.int .u8 c.toNat] 5)).heap.size:=by
  rcases hat with e | e
  ·exact .inl e.symm
  ·exact .inr (by rw [e];simp [Value.ownBlock])
 obtain ⟨hp2,hacc,hfr2⟩:=bytes_mk HP.out HB.out hS HSL1.out HBD.out hx hgrow hat2
 have d1:=zc1 hp2
 have e1:=zf 1 hp2
 have HA:=Lib.hid hacc;have HF2:=Lib.hid hfr2
 clear hown2 hgrow hat hat2 hx hp2 hacc hfr2
 go_wp2_with fail
 go_end0
 exact ⟨rfl,HA.out,(HF.out.alloc _).trans HF2.out⟩
end Lx
end Go.Proofs.YtoklgmbpgnimcaaGreatDoor
namespace Go.Proofs.YtoklgmbpgnimcaaGreatDoor
open Go.RowKit Go.Sort
namespace Lx
open Cls Pt
attribute [local go_sem ↓] Go.wp_at_zero Go.wp_at_succ
theorem AccAt.mono {w:World} {B p:Nat} {S S':Nat→Prop} {a:A} (h:AccAt w B S p a) (hS:∀ b,S b→S' b) (hN:∀ b,S' b→S b∨w.heap.size≤b):AccAt w B S' p a:=by
 obtain ⟨vl,vb,q,hp,hB,hSp,hq,xs,h1,h2,h3,h4,h5⟩:=h
 have hx:∀ g,g < w.heap.size→¬ S g→¬ S' g:=fun g hg hn h=>(hN g h).elim hn (by omega)
 refine ⟨vl,vb,q,hp,hB,hx p (Array.getElem?_eq_some_iff.1 hp).1 hSp,hq,xs,h1,h2.mono fun b hb _=>hS b hb,fun g hg=>hx g ?_ (h3 g hg),h4,fun g hg=>hx g ?_ (h5 g hg)⟩
 ·exact (h1.lt g hg).2
 ·exact (h4.lt g hg).2
theorem AccAt.alloc {w:World} {B p:Nat} {S:Nat→Prop} {a:A} (h:AccAt w B S p a) (o:Obj):AccAt (w.alloc o) B S p a:=by
 obtain ⟨vl,vb,q,hp,hB,hSp,hq,hb⟩:=h
 exact ⟨vl,vb,q,(Below.heap_alloc _ _ _ (Array.getElem?_eq_some_iff.1 hp).1).trans hp,hB,hSp,hq,hb.keep (by simp) fun b hb _=>Below.heap_alloc _ _ _ hb⟩
theorem Fr.mono {B:Nat} {S S':Nat→Prop} {w w':World} (h:Fr B S' w w') (hS:∀ b,S b→S' b):Fr B S w w' :=
 ⟨h.os,h.tape,h.output,h.size,fun b hb ho=>h.block b hb (ho.imp id (hS b))⟩
def one (k:Int) (q:Bool) (t o:ByteArray) (f:PL):PL:=.cons k q t o f .nil
set_option maxHeartbeats 1600000 in
set_option maxRecDepth 100000 in
theorem add_any (B:Nat) (S:Nat→Prop) (p:Nat) (a:A) (k:Int) (q:Bool) (t o:ByteArray) (f:PL) (af:Option Addr) (cf:Nat) (w:World) (h:AccAt w B S p a) (hl:a.l.len≤90000000) (hbs:a.bytes.length≤90000000)
  (hSl:∀ x,S x→x < w.heap.size) (ht:t.size≤R) (ho:o.size≤R) (hf:LiesS S w af cf f) :
  Calls Tryz.prog 85 #[.pointer (some ⟨p,0,none⟩),pv k q t o af f.len cf] w fun e w'=>e = .returned (.tuple #[])∧AccAt w' B (fun b=>S b∨b = w.heap.size) p (a.add (one k q t o f))∧Fr B S w w'∧w.heap.size < w'.heap.size:=by
 obtain ⟨i0,hi,hz0,hz1,hz2⟩:=info_parts infoPart
 have hplt:p < w.heap.size:=by obtain ⟨vl,vb,q',hp,_⟩:=h;exact (Array.getElem?_eq_some_iff.1 hp).1
 have hBw:B≤w.heap.size:=by obtain ⟨vl,vb,q',hp,hB,_⟩:=h;omega
 have h0:AccAt (w.alloc (.cells #[.int .i64 k,.bool q,.string t,.string o,.slice af f.len cf] 125)) B (fun b=>S b∨b = w.heap.size) p a:=by
  refine AccAt.alloc (AccAt.mono h (fun b hb=>.inl hb) (fun b hb=>?_)) _
  rcases hb with hb | hb
  ·exact .inl hb
  ·exact .inr (by omega)
 have hSl0:∀ x,(S x∨x = w.heap.size)→x < (w.alloc (.cells #[.int .i64 k,.bool q,.string t,.string o,.slice af f.len cf] 125)).heap.size:=fun x hx=>by
  simp only [World.size_alloc]
  rcases hx with hx | hx
  ·have:=hSl x hx;omega
  ·omega
 have HE:=Lib.hid (end_any B _ p a _ h0 (by omega) (by omega) hSl0)
 have hfl:a.flush.len≤90000001:=by
  obtain ⟨l,cur⟩:=a
  match cur with
  | none=>simp only [A.flush];simp only [] at hl;omega
  | some x=>simp only [A.flush,PL.app_len,A.lit,PL.len];simp only [] at hl;omega
 have HSL:=Lib.hid hSl0;have HI:=Lib.hid hi;have HZ0:=Lib.hid hz0;have HZ1:=Lib.hid hz1;have HZ2:=Lib.hid hz2;have HF:=Lib.hid hf
 clear h h0 hSl hSl0 hi hz0 hz1 hz2 hf
 unfold pv
 go_enter Tryz.func85,Tryz.ntmps85
 go_wp2_with fail
 refine (HE.out).mono ?_
 rintro e w1 ⟨rfl,⟨vl,vb,q1,hp,hB,hS',hq,hbd⟩,hfr⟩
 have hbx:w1.heap[w.heap.size]? = some (.cells #[.int .i64 k,.bool q,.string t,.string o,.slice af f.len cf] 125 (0,0)):=(hfr.block _ (by simp) (.inr (.inr rfl))).trans (heap_alloc_new _ _)
 have hbd':=hbd
 obtain ⟨xs,hvl,hxs,hsl,hvb,hsb⟩:=hbd
 simp only [Option.isSome,A.bytes] at hp hvb hsb hvl hbd' hxs
 obtain ⟨al,capl,rfl⟩:∃ al capl,vl = .slice al a.flush.len capl:=by
  rcases hvl.2 with ⟨rfl,h0⟩ | ⟨g,c,cur,rfl,_⟩
  ·exact ⟨none,0,by rw [h0]⟩
  ·exact ⟨_,c,rfl⟩
 have hplt1:p < w1.heap.size:=(Array.getElem?_eq_some_iff.1 hp).1
 have hblt1:w.heap.size < w1.heap.size:=(Array.getElem?_eq_some_iff.1 hbx).1
 have c0:=zc0 hp
 have b0:=zc0 hbx
 have b1:=zc1 hbx
 have b2:=zc2 hbx
 have b3:=zc3 hbx
 have b4:=zc4 hbx
 have hvs:CellsS (fun b=>S b∨b = w.heap.size) w1 (one k q t o f) [.int .i64 k,.bool q,.string t,.string o,.slice af f.len cf] :=
  ⟨af,cf,[],rfl,ht,ho,(LiesS.keep (S:=S) HF.out (by have:=hfr.size;simp at this;omega) (fun b hb hlt=>(hfr.block b (by simp;omega) (.inr (.inl hb))).trans (Below.heap_alloc _ _ _ hlt))).mono (fun b hb _=>.inl hb),rfl⟩
 have hSl1:∀ x,(S x∨x = w.heap.size)→x < w1.heap.size:=fun x hx=>Nat.lt_of_lt_of_le (HSL.out x hx) hfr.size
 have HVL:=Lib.hid hvl;have HXS:=Lib.hid hxs;have HP:=Lib.hid hp;have HSL1:=Lib.hid hSl1;have HBD:=Lib.hid hbd';have HB:=Lib.hid hB;have HVS:=Lib.hid hvs;have HFR:=Lib.hid hfr;have HS':=Lib.hid hS'
 clear hvl hxs hvb hp hSl1 hsl hsb hq hbd' hB hvs hfr hbx hS'
 go_wp2_with fail
 refine RT.begins (fun w'=>w'.cell? ⟨p,0,none⟩ = some (.slice al a.flush.len capl)∧w'.cell? ⟨w.heap.size,0,none⟩ = some (.int .i64 k)∧w'.cell? ⟨w.heap.size,1,none⟩ = some (.bool q)∧w'.cell? ⟨w.heap.size,2,none⟩ = some (.string t)∧w'.cell? ⟨w.heap.size,3,none⟩ = some (.string o)∧w'.cell? ⟨w.heap.size,4,none⟩ = some (.slice af f.len cf)) 7 (by kernel_rfl) ?_
 have hS:w1.drew.cell? ⟨p,0,none⟩ = some (.slice al a.flush.len capl)∧w1.drew.cell? ⟨w.heap.size,0,none⟩ = some (.int .i64 k)∧w1.drew.cell? ⟨w.heap.size,1,none⟩ = some (.bool q)∧w1.drew.cell? ⟨w.heap.size,2,none⟩ = some (.string t)∧w1.drew.cell? ⟨w.heap.size,3,none⟩ = some (.string o)∧w1.drew.cell? ⟨w.heap.size,4,none⟩ = some (.slice af f.len cf):=⟨c0,b0,b1,b2,b3,b4⟩
 refine RT.tk (i:=0) (v:=?_) rfl hS ?_ ?_
 rotate_left 1
 ·(intro wq hq;obtain ⟨s0,s1,s2,s3,s4,s5⟩:=hq;go_simp;try with_reducible rfl)
 refine RT.tk (i:=1) (v:=?_) rfl hS ?_ ?_
 rotate_left 1
 ·(intro wq hq;obtain ⟨s0,s1,s2,s3,s4,s5⟩:=hq;go_simp;try with_reducible rfl)
 refine RT.tk (i:=2) (v:=?_) rfl hS ?_ ?_
 rotate_left 1
 ·(intro wq hq;obtain ⟨s0,s1,s2,s3,s4,s5⟩:=hq;go_simp;try with_reducible rfl)
 refine RT.tk (i:=3) (v:=?_) rfl hS ?_ ?_
 rotate_left 1
 ·(intro wq hq;obtain ⟨s0,s1,s2,s3,s4,s5⟩:=hq;go_simp;try with_reducible rfl)
 refine RT.tk (i:=4) (v:=?_) rfl hS ?_ ?_
 rotate_left 1
 ·(intro wq hq;obtain ⟨s0,s1,s2,s3,s4,s5⟩:=hq;go_simp;try with_reducible rfl)
 refine RT.tk (i:=5) (v:=?_) rfl hS ?_ ?_
 rotate_left 1
 ·(intro wq hq;obtain ⟨s0,s1,s2,s3,s4,s5⟩:=hq;go_simp;try with_reducible rfl)
 refine RT.all (rs:=[6]) (by kernel_rfl) (by simp) ?_
 refine RT.All.cons rfl (fun K hK=>?_) RT.All.nil
 go_simp
 refine hK _ _ (fun _=>⟨(World.cell?_alloc_lt _ _ _ hplt1).trans c0,(World.cell?_alloc_lt _ _ _ hblt1).trans b0,(World.cell?_alloc_lt _ _ _ hblt1).trans b1,(World.cell?_alloc_lt _ _ _ hblt1).trans b2,(World.cell?_alloc_lt _ _ _ hblt1).trans b3,(World.cell?_alloc_lt _ _ _ hblt1).trans b4⟩) ?_
 clear hK K
 refine RT.all (rs:=[7]) (by kernel_rfl) (by simp) ?_
 refine RT.All.cons rfl (fun K hK=>?_) RT.All.nil
 refine step_append_lies _ (by rfl) _ _ _ (by rfl) B 125 i0 _ 5 72 Tryz.underlying81 HI.out HZ0.out HZ1.out HZ2.out rfl (by omega) (.slice al a.flush.len capl) a.flush.len xs (by rfl) ((HVL.out.alloc _).drew)
  ⟨w1.heap.size,0,none⟩ 1 1 [.int .i64 0,.bool false,.string ⟨#[]⟩,.string ⟨#[]⟩,.slice none 0 0] (by rfl) (by rfl) (World.news_of_block (cs:=#[.int .i64 0,.bool false,.string ⟨#[]⟩,.string ⟨#[]⟩,.slice none 0 0]) (t:=125) (fr:=(0,0)) (heap_alloc_new w1 _)) (by simp [Value.oneCell'])
  (by omega) (by unfold maxLen;omega) (by omega) (by have:=HB.out;simp;omega) (w1.heap.size + 1) (by simp) ?_
 intro g capn w2 hown1 hgrow hat hlt
 refine hK _ _ (fun h=>absurd h (by decide)) ?_
 clear hK K
 have hgm:=grown_mk (pt:=one k q t o f) (v0:=.int .i64 k) (v1:=.bool q) (v2:=.string t) (v3:=.string o) (v4:=.slice af f.len cf) HP.out HB.out HS'.out HSL1.out HBD.out rfl rfl HXS.out HVS.out hgrow hat hown1
 obtain ⟨hp1,hgp,hW⟩:=hgm
 obtain ⟨n0,n1,n2,n3,n4⟩:=new5 hown1
 have m0:=zc0 hp1
 have mf:=frozen_of_row _ _ 0 _ _ hp1
 have nf0:=hown1.frozenAt (a.flush.len * 5)
 have nf1:=hown1.frozenAt (a.flush.len * 5 + 1)
 have nf2:=hown1.frozenAt (a.flush.len * 5 + 2)
 have nf3:=hown1.frozenAt (a.flush.len * 5 + 3)
 have nf4:=hown1.frozenAt (a.flush.len * 5 + 4)
 have hgp1:¬ (g = p):=hgp
 have hi1:(a.flush.len:Int) < (a.flush.len:Int) + 1:=by omega
 have hgp2:¬ (p = g):=fun e=>hgp e.symm
 have HW:=Lib.hid hW
 clear hW hp1 hgp hgrow hat hown1 hlt c0 b0 b1 b2 b3 b4 hS
 refine RT.takeW (i:=8) (v:=?_) rfl (by decide) (by kernel_rfl) (by kernel_rfl) (by kernel_rfl) (fun _ _ _ h=>h) (.inl ⟨by rfl,?_⟩) ?_
 rotate_left 1
 ·(intro wq _;go_simp;try with_reducible rfl)
 refine RT.takeW (i:=10) (v:=?_) rfl (by decide) (by kernel_rfl) (by kernel_rfl) (by kernel_rfl) (fun _ _ _ h=>h) (.inl ⟨by rfl,?_⟩) ?_
 rotate_left 1
 ·(intro wq _;go_simp;try with_reducible rfl)
 refine RT.takeW (i:=11) (v:=?_) rfl (by decide) (by kernel_rfl) (by kernel_rfl) (by kernel_rfl) (fun _ _ _ h=>h) (.inl ⟨by rfl,?_⟩) ?_
 rotate_left 1
 ·(intro wq _;go_simp;try with_reducible rfl)
 refine RT.all (rs:=[9,12]) (by kernel_rfl) (by simp) ?_
 refine RT.All.cons rfl (fun K hK=>?_) (RT.All.cons rfl (fun K hK=>?_) RT.All.nil)
 ·go_simp
  refine hK _ _ (fun h=>absurd h (by decide)) ?_
  clear hK K
  refine RT.all (rs:=[12]) (by kernel_rfl) (by simp) ?_
  refine RT.All.cons rfl (fun K hK=>?_) RT.All.nil
  go_simp
  refine hK _ _ (fun h=>absurd h (by decide)) ?_
  clear hK K
  refine RT.done (by kernel_rfl) ?_ _
  obtain ⟨hpW,hbW,hfW⟩:=HW.out _ (.inl rfl)
  clear n0 n1 n2 n3 n4 m0 mf nf0 nf1 nf2 nf3 nf4
  go_end0
  exact ⟨rfl,⟨_,_,_,hpW,HB.out,HS'.out,(fun x h=>by cases h),hbW⟩,((Fr.refl B S w).alloc _).trans (((HFR.out).trans hfW).mono fun b hb=>.inl hb),(by have:=(HFR.out.trans hfW).size;simp only [World.size_alloc] at this ⊢;omega)⟩
 ·go_simp
  refine hK _ _ (fun h=>absurd h (by decide)) ?_
  clear hK K
  refine RT.all (rs:=[9]) (by kernel_rfl) (by simp) ?_
  refine RT.All.cons rfl (fun K hK=>?_) RT.All.nil
  go_simp
  refine hK _ _ (fun h=>absurd h (by decide)) ?_
  clear hK K
  refine RT.done (by kernel_rfl) ?_ _
  obtain ⟨hpW,hbW,hfW⟩:=HW.out _ (.inr rfl)
  clear n0 n1 n2 n3 n4 m0 mf nf0 nf1 nf2 nf3 nf4
  go_end0
  exact ⟨rfl,⟨_,_,_,hpW,HB.out,HS'.out,(fun x h=>by cases h),hbW⟩,((Fr.refl B S w).alloc _).trans (((HFR.out).trans hfW).mono fun b hb=>.inl hb),(by have:=(HFR.out.trans hfW).size;simp only [World.size_alloc] at this ⊢;omega)⟩
end Lx
end Go.Proofs.YtoklgmbpgnimcaaGreatDoor
namespace Go.Proofs.YtoklgmbpgnimcaaGreatDoor
open Go.RowKit Go.Sort
namespace Lx
open Cls Pt
def tot:PL→Nat
 | .nil=>0
 | .cons _ _ t _ _ r=>1 + t.size + tot r
theorem tot_app:∀ l m:PL,tot (l.app m) = tot l + tot m
 | .nil,m=>by simp [tot,PL.app]
 | .cons _ _ _ _ _ r,m=>by simp only [tot,PL.app,tot_app r m];omega
theorem len_tot:∀ l:PL,l.len≤tot l
 | .nil=>Nat.le_refl _
 | .cons _ _ _ _ _ r=>by have:=len_tot r;simp only [PL.len,tot];omega
def A.tot (a:A):Nat:=Lx.tot a.l + match a.cur with | none=>0 | some x=>1 + x.2.length
theorem A.flush_tot (a:A):Lx.tot a.flush = a.tot:=by
 obtain ⟨l,cur⟩:=a
 match cur with
 | none=>simp [A.flush,A.tot]
 | some x =>
  simp only [A.flush,A.tot,tot_app,A.lit,Lx.tot]
  show Lx.tot l + (1 + (List.toArray _).size + 0) = _
  rw [List.size_toArray];omega
theorem A.begins_tot (a:A) (q:Bool):(a.begins q).tot≤a.tot + 1:=by
 obtain ⟨l,cur⟩:=a
 match cur with
 | none=>simp [A.begins,A.tot]
 | some x =>
  simp only [A.begins]
  split
  ·omega
  ·have:=A.flush_tot ⟨l,some x⟩
   simp only [A.tot,List.length_nil] at this ⊢
   omega
theorem A.text_tot (a:A) (s:List UInt8) (q:Bool):(a.text s q).tot≤a.tot + 1 + s.length:=by
 have h:=A.begins_tot a q
 have hc:=begins_cur a q
 simp only [A.tot,hc] at h
 simp only [A.text,A.tot,List.length_append]
 omega
theorem A.add_tot (a:A) (p:PL):(a.add p).tot = a.tot + Lx.tot p:=by
 have:=A.flush_tot a
 simp only [A.add,A.tot,tot_app]
 simp only [A.tot] at this
 omega
theorem A.sizes (a:A):a.l.len≤a.tot∧a.bytes.length≤a.tot:=by
 have:=len_tot a.l
 obtain ⟨l,cur⟩:=a
 match cur with
 | none=>simp only [A.tot,A.bytes,List.length_nil];simp only [] at this;omega
 | some x=>simp only [A.tot,A.bytes];simp only [] at this;omega
theorem lies_all {w:World} {B:Nat} {S:Nat→Prop} {vl vb:Value} {l:PL} {bs:List UInt8} (hb:Body w B S vl vb l bs) (hSB:∀ x,S x→B≤x) (hl:l.len≤R):∃ a cap,vl = .slice a l.len cap∧LiesS (fun b=>B≤b) w a cap l:=by
 obtain ⟨xs,h1,h2,_⟩:=hb
 have h0:=lies_own h1 h2.cells hl
 obtain ⟨a,cap,rfl,_⟩:=h0
 refine ⟨a,cap,rfl,fun w2 hs hk=>?_⟩
 have h1':w2.ownsRow B 125 5 (.slice a l.len cap) l.len xs:=own_keep h1 fun g hg hlt=>hk g (h1.lt g hg).1 hlt
 have h2':CellsS S w2 l xs:=h2.keep hs fun b hb hlt=>hk b (hSB b hb) hlt
 obtain ⟨a',cap',e,hli⟩:=lies_own h1' h2'.cells hl
 cases e
 exact hli
set_option maxHeartbeats 400000 in
theorem all_any (B:Nat) (S:Nat→Prop) (p:Nat) (a:A) (w:World) (h:AccAt w B S p a) (ht:a.tot≤80000000) (hSl:∀ x,S x→x < w.heap.size) (hSB:∀ x,S x→B≤x) :
  Calls Tryz.prog 88 #[.pointer (some ⟨p,0,none⟩)] w fun e w'=>(∃ a' cap',e = .returned (.slice a' a.flush.len cap')∧LiesS (fun b=>B≤b) w' a' cap' a.flush)∧Fr B S w w':=by
 have hz:=a.sizes
 have hfl:a.flush.len≤80000000:=by have:=len_tot a.flush;rw [A.flush_tot] at this;omega
 have HE:=Lib.hid (end_any B S p a w h (by omega) (by omega) hSl)
 have HSB:=Lib.hid hSB
 clear h hSl hSB hz ht
 go_enter Tryz.func88,Tryz.ntmps88
 go_wp2_with fail
 refine (HE.out).mono ?_
 rintro e w1 ⟨rfl,⟨vl,vb,q1,hp,hB,hS',hq,hbd⟩,hfr⟩
 obtain ⟨a',cap',rfl,hli⟩:=lies_all hbd HSB.out (by unfold R;simp only [];omega)
 have c0:=zc0 hp
 have HL:=Lib.hid hli;have HF:=Lib.hid hfr
 clear hp hbd hli hfr hq
 go_wp2_with fail
 go_ret
 exact ⟨⟨a',cap',rfl,HL.out⟩,HF.out⟩
theorem A.join_nil (a:A):a.join .nil = a:=rfl
def A.step (a:A) (k:Int) (q:Bool) (t o:ByteArray) (f:PL):A:=if k == 1 then a.text t.data.toList q else a.add (one k q t o f)
theorem A.join_cons (a:A) (k:Int) (q:Bool) (t o:ByteArray) (f r:PL):a.join (.cons k q t o f r) = (a.step k q t o f).join r:=by
 simp only [A.join,A.step,one]
 split <;> rfl
theorem A.step_tot (a:A) (k:Int) (q:Bool) (t o:ByteArray) (f:PL):(a.step k q t o f).tot≤a.tot + (1 + t.size):=by
 unfold A.step
 split
 ·have:=A.text_tot a t.data.toList q;rw [lenB] at this;omega
 ·rw [A.add_tot];simp only [one,Lx.tot];omega
theorem LiesS.row {S:Nat→Prop} {w:World} {a:Option Addr} {cap i:Nat} {l f r:PL} {k:Int} {q:Bool} {t p:ByteArray} (h:LiesS S w a cap l) (hd:l.drop i = .cons k q t p f r) {b o:Nat} (ha:a = some ⟨b,o,none⟩):S b:=by
 refine Classical.byContradiction fun hS=>?_
 have h3:=h { w with heap:=w.heap.setIfInBounds b (.cells #[] 0 (0,0)) } (by simp) (fun x hx _=>by
  show (w.heap.setIfInBounds b _)[x]? = w.heap[x]?
  rw [Array.getElem?_setIfInBounds,if_neg (by rintro rfl;exact hS hx)])
 obtain ⟨b',o',ha',hb',c0,_⟩:=h3.get hd
 rw [ha] at ha'
 cases ha'
 have hb2:b < w.heap.size:=by simpa using hb'
 have hh:(w.heap.setIfInBounds b (.cells #[] 0 (0,0)))[b]? = some (.cells #[] 0 (0,0)):=by simp [Array.getElem?_setIfInBounds,hb2]
 rw [Lib.cell_of_heap (w:={ w with heap:=w.heap.setIfInBounds b (.cells #[] 0 (0,0)) }) hh] at c0
 simp at c0
theorem LiesS.get {S:Nat→Prop} {w:World} {a:Option Addr} {cap i:Nat} {l f r:PL} {k:Int} {q:Bool} {t p:ByteArray} (h:LiesS S w a cap l) (hd:l.drop i = .cons k q t p f r) :
  ∃ b o,a = some ⟨b,o,none⟩∧b < w.heap.size∧w.cell? ⟨b,o + i * 5,none⟩ = some (.int .i64 k)∧w.cell? ⟨b,o + i * 5 + 1,none⟩ = some (.bool q)∧w.cell? ⟨b,o + i * 5 + 2,none⟩ = some (.string t)∧w.cell? ⟨b,o + i * 5 + 3,none⟩ = some (.string p)∧t.size≤R∧p.size≤R ∧
   ∃ a' cap',w.cell? ⟨b,o + i * 5 + 4,none⟩ = some (.slice a' f.len cap')∧LiesS S w a' cap' f:=by
 obtain ⟨b,o,ha,hb,c0,c1,c2,c3,ht,hp,a',cap',c4,hl⟩:=h.lies.get hd
 refine ⟨b,o,ha,hb,c0,c1,c2,c3,ht,hp,a',cap',c4,fun w2 hs hk=>?_⟩
 obtain ⟨b2,o2,ha2,hb2,d0,d1,d2,d3,_,_,a2,cap2,d4,hl2⟩:=(h w2 hs hk).get hd
 rw [ha] at ha2
 cases ha2
 have hbk:=hk b (h.row hd ha) hb
 have:=(World.cell?_of_block (w:=w) (a:=⟨b,o + i * 5 + 4,none⟩) hbk).symm.trans d4
 rw [c4] at this
 cases this
 exact hl2
set_option maxHeartbeats 1600000 in
set_option maxRecDepth 100000 in
theorem join_any (B:Nat) (S:Nat→Prop) (p:Nat) (a:A) (m:PL) (am:Option Addr) (cm:Nat) (w:World) (h:AccAt w B S p a) (ht:a.tot + tot m≤80000000) (hSl:∀ x,S x→x < w.heap.size) (hSB:∀ x,S x→B≤x) (hm:LiesS S w am cm m) :
  Calls Tryz.prog 82 #[.pointer (some ⟨p,0,none⟩),.slice am m.len cm] w fun e w'=>e = .returned (.tuple #[])∧(∃ S',(∀ x,S x→S' x)∧(∀ x,S' x→x < w'.heap.size)∧(∀ x,S' x→B≤x)∧AccAt w' B S' p (a.join m))∧Fr B S w w':=by
 have hle:=hm.lies.le
 have HM:=Lib.hid hm;have HH:=Lib.hid h;have HSL:=Lib.hid hSl;have HSB:=Lib.hid hSB
 clear hm h hSl hSB
 go_enter Tryz.func82,Tryz.ntmps82
 go_wp2
 go_loopw [8] (fun i wr=>∃ n:Nat,n≤m.len∧i = .int .i64 n∧∃ (S':Nat→Prop) (a':A),(∀ x,S x→S' x)∧(∀ x,S' x→x < wr.heap.size)∧(∀ x,S' x→B≤x)∧AccAt wr B S' p a'∧a'.join (m.drop n) = a.join m∧a'.tot + tot (m.drop n)≤80000000∧Fr B S w wr) (fun i wr=>m.len - (intOf i).toNat)
 case atStart=>exact ⟨0,Nat.zero_le _,rfl,S,a,(fun _ h=>h),HSL.out,HSB.out,HH.out,rfl,ht,Fr.refl _ _ _⟩
 case round =>
  obtain ⟨n,hn,rfl,S',a',hS1,hS2,hS3,hacc,hjn,htt,hfr⟩:=hrel
  by_cases hlt:n < m.len
  ·obtain ⟨k,q,t,o,f,r,hdr⟩:=PL.drop_at hlt
   have hmr:LiesS S' wr am cm m:=(HM.out.keep hfr.size fun b hb hlt=>hfr.block b hlt (.inr hb)).mono fun b hb _=>hS1 b hb
   obtain ⟨b1,p1,rfl,hb1,c10,c11,c12,c13,htR,hoR,a1,ca1,c14,hl1⟩:=hmr.get hdr
   rw [hdr,A.join_cons] at hjn
   rw [hdr] at htt
   simp only [tot] at htt
   have hst:=a'.step_tot k q t o f
   have hnx:=PL.drop_succ hdr
   have hz:=a'.sizes
   have HST:=Lib.hid hst;have HNX:=Lib.hid hnx;have HJ:=Lib.hid hjn;have HA:=Lib.hid hacc;have HS1:=Lib.hid hS1;have HS2:=Lib.hid hS2;have HS3:=Lib.hid hS3;have HF:=Lib.hid hfr;have HL1:=Lib.hid hl1
   clear hst hnx hjn hacc hS1 hS2 hS3 hfr hl1 hmr hdr
   have hacc1:∀ X,AccAt (wr.alloc X) B S' p a':=fun X=>HA.out.alloc X
   have hSl1:∀ (X:Obj) x,S' x→x < (wr.alloc X).heap.size:=fun X x hx=>by have:=HS2.out x hx;simp;omega
   have hT:=fun X (hk:(k == 1) = true)=>text_any B S' p a' t q (wr.alloc X) (hacc1 X) (by omega) (by omega) (by omega) (hSl1 X)
   have hD:=fun X (hk:(k == 1) = false)=>add_any B S' p a' k q t o f a1 ca1 (wr.alloc X) (hacc1 X) (by omega) (by omega) (hSl1 X) htR hoR (HL1.out.keep (by simp) fun b _ hlt=>Below.heap_alloc _ _ _ hlt)
   have HT:=Lib.hid hT;have HD:=Lib.hid hD;have HSL1:=Lib.hid hSl1
   clear hT hD hacc1 hSl1
   cases hk:(k == 1)
   ·have hs:a'.step k q t o f = a'.add (one k q t o f):=by unfold A.step;rw [hk];rfl
    rw [hs] at HJ HST
    have HK:=Lib.hid hk;have HSS:=Lib.hid hs
    clear hs
    go_wp2_with fail
    refine (HD.out _ HK.out).mono ?_
    rintro e w2 ⟨rfl,hacc2,hfr2,hlt2⟩
    have hBp:B≤wr.heap.size:=by obtain ⟨vl,vb,q',hp,hB,_⟩:=HA.out;have:=(Array.getElem?_eq_some_iff.1 hp).1;omega
    have hrel2:∃ (S':Nat→Prop) (a':A),(∀ x,S x→S' x)∧(∀ x,S' x→x < w2.heap.size)∧(∀ x,S' x→B≤x)∧AccAt w2 B S' p a'∧a'.join (m.drop (n + 1)) = a.join m∧a'.tot + tot (m.drop (n + 1))≤80000000∧Fr B S w w2:=by
     refine ⟨_,_,fun x hx=>.inl (HS1.out x hx),fun x hx=>?_,fun x hx=>?_,hacc2,by rw [HNX.out];exact HJ.out,by rw [HNX.out];have:=HST.out;omega,(HF.out.alloc _).trans (hfr2.mono HS1.out)⟩
     ·have hs:=hfr2.size
      rcases hx with hx | hx
      ·exact Nat.lt_of_lt_of_le (HSL1.out _ x hx) hs
      ·omega
     ·rcases hx with hx | hx
      ·exact HS3.out x hx
      ·simp only [World.size_alloc] at hx;omega
    have HR:=Lib.hid hrel2
    clear hrel2 hacc2 hfr2 hlt2 hBp
    go_wp2_with fail
    go_roundw
    case rel=>exact ⟨n + 1,by omega,by go_num,HR.out⟩
    case measure=>simp [intOf];omega
   ·have hs:a'.step k q t o f = a'.text t.data.toList q:=by unfold A.step;rw [hk];rfl
    rw [hs] at HJ HST
    have HK:=Lib.hid hk;have HSS:=Lib.hid hs
    clear hs
    go_wp2_with fail
    refine (HT.out _ HK.out).mono ?_
    rintro e w2 ⟨rfl,hacc2,hfr2⟩
    have hrel2:∃ (S':Nat→Prop) (a':A),(∀ x,S x→S' x)∧(∀ x,S' x→x < w2.heap.size)∧(∀ x,S' x→B≤x)∧AccAt w2 B S' p a'∧a'.join (m.drop (n + 1)) = a.join m∧a'.tot + tot (m.drop (n + 1))≤80000000∧Fr B S w w2 :=
     ⟨_,_,HS1.out,fun x hx=>Nat.lt_of_lt_of_le (HSL1.out _ x hx) hfr2.size,HS3.out,hacc2,by rw [HNX.out];exact HJ.out,by rw [HNX.out];have:=HST.out;omega,(HF.out.alloc _).trans (hfr2.mono HS1.out)⟩
    have HR:=Lib.hid hrel2
    clear hrel2 hacc2 hfr2
    go_wp2_with fail
    go_roundw
    case rel=>exact ⟨n + 1,by omega,by go_num,HR.out⟩
    case measure=>simp [intOf];omega
  ·obtain rfl:n = m.len:=by omega
   have HX:=Lib.hid (And.intro hS1 (And.intro hS2 (And.intro hS3 (And.intro hacc (And.intro hjn hfr)))))
   clear hS1 hS2 hS3 hacc hjn hfr
   go_wp2
   go_end0
   obtain ⟨h1,h2,h3,h4,h5,h6⟩:=HX.out
   rw [PL.drop_end (Nat.le_refl _),A.join_nil] at h5
   subst h5
   exact ⟨rfl,⟨S',h1,h2,h3,h4⟩,h6⟩
end Lx
end Go.Proofs.YtoklgmbpgnimcaaGreatDoor
