/- All nodes in a node, in a slice of their own (the reference's Within). -/
import Derived.Test.YtjmpfihopeohbaaGreatDoorTrQp
import Derived.Laws.AppendOwnNone
set_option maxHeartbeats 3200000
set_option maxRecDepth 100000
namespace Go.Proofs.YtjmpfihopeohbaaGreatDoor
open Go.RowKit Go.Sort
namespace Tr
open Cls Pt
namespace NL
def app:NL→NL→NL
 | nil,m=>m
 | node k nm g az ws ks bs cz r,m=>node k nm g az ws ks bs cz (app r m)
 | cse ps b r,m=>cse ps b (app r m)
theorem app_len:∀ l m:NL,(app l m).len = l.len + m.len
 | nil,m=>by simp [app,len]
 | node _ _ _ _ _ _ _ _ r,m=>by simp only [app,len,app_len r m];omega
 | cse _ _ r,m=>by simp only [app,len,app_len r m];omega
theorem app_nil:∀ l:NL,app l nil = l
 | nil=>rfl
 | node _ _ _ _ _ _ _ _ r=>by simp only [app,app_nil r]
 | cse _ _ r=>by simp only [app,app_nil r]
theorem app_assoc:∀ l m n:NL,app (app l m) n = app l (app m n)
 | nil,_,_=>rfl
 | node _ _ _ _ _ _ _ _ r,m,n=>by simp only [app,app_assoc r m n]
 | cse _ _ r,m,n=>by simp only [app,app_assoc r m n]
theorem app_ok:∀ {l m:NL},okN l true = true→okN m true = true→okN (app l m) true = true
 | nil,_,_,h=>h
 | node _ _ _ _ _ _ _ _ r,m,h1,h2=>by
  simp only [okN,Bool.and_eq_true] at h1;simp only [app,okN,Bool.and_eq_true];exact ⟨h1.1,app_ok h1.2 h2⟩
 | cse _ _ _,_,h,_=>by simp [okN] at h
end NL
def bodies:NL→NL
 | .cse _ b r=>b.app (bodies r)
 | _=>.nil
def CellsN (w:World):NL→List Value→Prop
 | .nil,xs=>xs = []
 | .node k nm g az ws ks bs cz r,xs=>∃ a1 c1 a2 c2 a3 c3 a4 c4 a5 c5 ys,xs = .int .i64 k :: .string nm :: .bool g :: .slice a1 az.length c1 :: .slice a2 ws.length c2 :: .slice a3 ks.len c3 :: .slice a4 bs.length c4 :: .slice a5 cz.len c5 :: ys∧Holds w nm az ws ks bs cz a1 c1 a2 c2 a3 c3 a4 c4 a5 c5∧CellsN w r ys
 | .cse _ _ _,_=>False
theorem CellsN.len {w:World}:∀ {l:NL} {xs:List Value},CellsN w l xs→xs.length = l.len * 8
 | .nil,xs,h=>by cases h;rfl
 | .node _ _ _ _ _ _ _ _ r,xs,⟨_,_,_,_,_,_,_,_,_,_,ys,hx,_,h⟩=>by
  have:=CellsN.len h;subst hx;simp only [List.length_cons,NL.len,this];omega
 | .cse _ _ _,_,h=>h.elim
theorem CellsN.below {w w':World} (hb:Below w.heap.size w w'):∀ {l:NL} {xs:List Value},CellsN w l xs→CellsN w' l xs
 | .nil,_,h=>h
 | .node _ _ _ _ _ _ _ _ r,_,⟨a1,c1,a2,c2,a3,c3,a4,c4,a5,c5,ys,hx,hh,h⟩=>⟨a1,c1,a2,c2,a3,c3,a4,c4,a5,c5,ys,hx,hh.below hb,CellsN.below hb h⟩
 | .cse _ _ _,_,h=>h.elim
theorem CellsN.app {w:World}:∀ {l m:NL} {xs ys:List Value},CellsN w l xs→CellsN w m ys→CellsN w (l.app m) (xs ++ ys)
 | .nil,m,xs,ys,h,k=>by cases h;exact k
 | .node _ _ _ _ _ _ _ _ r,m,xs,ys,⟨a1,c1,a2,c2,a3,c3,a4,c4,a5,c5,zs,hx,hh,h⟩,k=>⟨a1,c1,a2,c2,a3,c3,a4,c4,a5,c5,zs ++ ys,by subst hx;rfl,hh,CellsN.app h k⟩
 | .cse _ _ _,_,_,_,h,_=>h.elim
theorem CellsN.one {w:World}:∀ {l:NL} {xs:List Value},CellsN w l xs→∀ u ∈ xs,u.oneCell' = true
 | .nil,_,h,u,hu=>by cases h;cases hu
 | .node _ _ _ _ _ _ _ _ r,_,⟨_,_,_,_,_,_,_,_,_,_,ys,hx,_,h⟩,u,hu=>by
  subst hx;simp only [List.mem_cons] at hu;rcases hu with rfl | rfl | rfl | rfl | rfl | rfl | rfl | rfl | hu
  all_goals first | rfl | exact CellsN.one h u hu
 | .cse _ _ _,_,h,_,_=>h.elim
theorem CellsN.of_at {w:World} {b:Nat}:∀ {l:NL} {o:Nat},NL.okN l true = true→NAt w l b o→∃ xs,CellsN w l xs∧∀ j u,xs[j]? = some u→w.cell? ⟨b,o + j,none⟩ = some u
 | .nil,_,_,_=>⟨[],rfl,fun j u h=>by simp at h⟩
 | .node k nm g az ws ks bs cz r,o,hk,⟨⟨h0,h1,h2,h3⟩,⟨a1,c1,e1,s1⟩,⟨a2,c2,e2,s2⟩,⟨a3,c3,e3,s3⟩,⟨a4,c4,e4,s4⟩,⟨a5,c5,e5,s5⟩,hr⟩=>by
  simp only [NL.okN,Bool.and_eq_true] at hk;obtain ⟨ys,hy,hc⟩:=CellsN.of_at hk.2 hr;refine ⟨_,⟨a1,c1,a2,c2,a3,c3,a4,c4,a5,c5,ys,rfl,⟨h3,s1,s2,s3,s4,s5,hk.1.1.2,hk.1.2⟩,hy⟩,fun j u hu=>?_⟩
  match j,hu with
  | 0,hu=>cases hu;exact h0
  | 1,hu=>cases hu;exact h1
  | 2,hu=>cases hu;exact h2
  | 3,hu=>cases hu;exact e1
  | 4,hu=>cases hu;exact e2
  | 5,hu=>cases hu;exact e3
  | 6,hu=>cases hu;exact e4
  | 7,hu=>cases hu;exact e5
  | j + 8,hu=>simp only [List.getElem?_cons_succ] at hu;have:=hc j u hu;rwa [show o + 8 + j = o + (j + 8) by omega] at this
 | .cse _ _ _,_,hk,_=>by simp [NL.okN] at hk
theorem CellsN.at {w:World} {b:Nat}:∀ {l:NL} {xs:List Value} {o:Nat},CellsN w l xs→(∀ j u,xs[j]? = some u→w.cell? ⟨b,o + j,none⟩ = some u)→NAt w l b o∧NL.okN l true = true
 | .nil,_,_,_,_=>⟨trivial,rfl⟩
 | .node k nm g az ws ks bs cz r,_,o,⟨a1,c1,a2,c2,a3,c3,a4,c4,a5,c5,ys,hx,hh,h⟩,hc=>by
  subst hx
  obtain ⟨g1,g2⟩:=CellsN.at (o:=o + 8) h (fun j u hu=>by
   have:=hc (j + 8) u (by simpa using hu)
   rwa [show o + (j + 8) = o + 8 + j by omega] at this)
  exact ⟨⟨⟨hc 0 _ rfl,hc 1 _ rfl,hc 2 _ rfl,hh.hnm⟩,⟨a1,c1,hc 3 _ rfl,hh.haz⟩,⟨a2,c2,hc 4 _ rfl,hh.hws⟩,⟨a3,c3,hc 5 _ rfl,hh.hks⟩,⟨a4,c4,hc 6 _ rfl,hh.hbs⟩,⟨a5,c5,hc 7 _ rfl,hh.hcs⟩,g1⟩,by simp [NL.okN,hh.okk,hh.okc,g2]⟩
 | .cse _ _ _,_,_,h,_=>h.elim
theorem nlies_own {w:World} {base:Nat} {v:Value} {l:NL} {xs:List Value} (h:w.ownsRow base 28 8 v l.len xs) (hc:CellsN w l xs) (hR:l.len≤R):∃ a cap,v = .slice a l.len cap∧NLies w a cap l:=by
 rcases h.2 with ⟨rfl,hn⟩ | ⟨g,cap,cur,rfl,hb,hg,hcap,_⟩
 ·have:l = .nil:=by
   cases l with
   | nil=>rfl
   | node=>simp [NL.len] at hn
   | cse=>simp [NL.len] at hn
  subst this;exact ⟨none,0,rfl,Nat.le_refl _,Nat.zero_le _,.inl rfl⟩
 ·refine ⟨_,cap,rfl,hcap,hR,.inr ⟨g,0,rfl,(hc.at fun j u hu=>?_).1⟩⟩;have:=h.cells (g:=g) rfl j u hu;rwa [Go.WideShapes.add_plain] at this
theorem cells_n {w:World} {a:Option Addr} {cap:Nat} {l:NL} (h:NLies w a cap l) (hk:NL.okN l true = true):∃ xs,CellsN w l xs∧∀ b o,a = some ⟨b,o,none⟩→∀ j u,xs[j]? = some u→w.cell? ⟨b,o + j,none⟩ = some u:=by
 obtain ⟨_,_,h3⟩:=h;rcases h3 with rfl | ⟨b,o,rfl,h3⟩
 ·exact ⟨[],rfl,fun _ _ _ j u h=>by simp at h⟩
 ·obtain ⟨xs,h1,h2⟩:=CellsN.of_at hk h3;exact ⟨xs,h1,fun b' o' e j u hu=>by cases e;exact h2 j u hu⟩
theorem infoNode:(Tryz.prog.info? 28).map (fun i=>(i.zero,i.size,i.bytes)) = some (some (.agg #[.int .i64 0,.string ⟨#[]⟩,.bool false,.slice none 0 0,.slice none 0 0,.slice none 0 0,.slice none 0 0,.slice none 0 0]),8,152):=by kernel_rfl
end Tr
end Go.Proofs.YtjmpfihopeohbaaGreatDoor
namespace Go.Proofs.YtjmpfihopeohbaaGreatDoor
open Go.RowKit Go.Sort
namespace Tr
open Cls Pt
theorem append_nothing {P:Program} {w:World} {ops:Array Oper} {rest:List Oper} {o:Oper} {a:Act} {Q:Exit→Act→World→Prop} (hgd:o.guard = none) (s x:Operand) (t:TypeId)
  (ho:o.op = .call { callee:=.builtin .append,args:=#[s,x],argTypes:=#[t,t] })
  (base:Nat) (e:TypeId) (i:TypeInfo) (size:Nat) (ht:P.underlying t = some (.slice e)) (hi:P.info? e = some i)
  (v:Value) (n:Nat) (xs:List Value) (c:Nat) (hs:a.eval s = v) (hown:w.ownsRow base e size v n xs) (hx:a.eval x = .slice none 0 c)
  (h:wpList P ops Q rest (a.put o.dst v) w):wpList P ops Q (o :: rest) a w:=by
 refine wpList_plain hgd fun K hK=>?_;have hrun:(Builtin.append_ #[t,t] o.type #[v,.slice none 0 c]).run P w = .ok v w:=by
  rcases hown.2 with ⟨rfl,rfl⟩ | ⟨g,cap,cur,rfl,_,_,hnc,_⟩
  ·simp [Builtin.append_,run_underlying ht,sizeOf,typeInfo,hi,Builtin.lenOf,Builtin.firstCells]
  ·simp [Builtin.append_,run_underlying ht,sizeOf,typeInfo,hi,Builtin.lenOf,Builtin.firstCells,hnc,storeCells]
 unfold Oper.wp;simp [execOp,ho,resolve,invoke,builtin,hs,hx,hrun,Result.andThen];exact hK _ _ h
theorem info_node {P:Program} {t:TypeId} {z:Value} {s b:Nat} (h:(P.info? t).map (fun i=>(i.zero,i.size,i.bytes)) = some (some z,s,b)):∃ i0,P.info? t = some i0∧i0.zero = some z∧i0.size = s∧i0.bytes = b:=by
 obtain ⟨i,h1,h2⟩:=Option.map_eq_some_iff.1 h;simp only [Prod.mk.injEq] at h2;exact ⟨i,h1,h2.1,h2.2.1,h2.2.2⟩
theorem nil_of_none {w:World} {c:Nat} {l:NL} (h:NLies w none c l):l = .nil:=by
 rcases h.2.2 with h | ⟨b,o,h,_⟩
 ·exact h
 ·cases h
def Whole (w:World) (L:NL) (e:Ending) (w':World):Prop:=(∃ a cap,e = .returned (.slice a L.len cap)∧NLies w' a cap L)∧Below w.heap.size w w'
theorem within_ref (k:Int) (nm:ByteArray) (g:Bool) (az:List (ByteArray × PL)) (ws:List PL) (ks:NL) (bs:List Bool) (cz:NL) (x1 d1 x2 d2 x3 d3 x4 d4 x5 d5) (w:World) (h:Holds w nm az ws ks bs cz x1 d1 x2 d2 x3 d3 x4 d4 x5 d5) (hbd:(ks.app (bodies cz)).len≤1000000) :
  Calls Tryz.prog 18 #[.agg (nodeV k nm g x1 az.length d1 x2 ws.length d2 x3 ks.len d3 x4 bs.length d4 x5 cz.len d5)] w (Whole w (ks.app (bodies cz))):=by
 obtain ⟨i0,hi,hz0,hz1,hz2⟩:=info_node infoNode;have hlk:=h.hks.le;have hlc:=h.hcs.le;obtain ⟨xs0,hx0,hxc0⟩:=cells_n h.hks h.okk;have hxl:=hx0.len;have hx1:=hx0.one;have hb0:=bel2 w (.cells #[.int .i64 k,.string nm,.bool g,.slice x1 az.length d1,.slice x2 ws.length d2,.slice x3 ks.len d3,.slice x4 bs.length d4,.slice x5 cz.len d5] 28) (.cells #[] 28);have hown0:=World.ownsRow_made (base:=w.heap.size) (e:=28) (size:=8) (w.alloc (.cells #[.int .i64 k,.string nm,.bool g,.slice x1 az.length d1,.slice x2 ws.length d2,.slice x3 ks.len d3,.slice x4 bs.length d4,.slice x5 cz.len d5] 28)) #[] 0 (by simp) (Nat.zero_le _) rfl;rw [World.size_alloc] at hown0;have hrow:((w.alloc (.cells #[.int .i64 k,.string nm,.bool g,.slice x1 az.length d1,.slice x2 ws.length d2,.slice x3 ks.len d3,.slice x4 bs.length d4,.slice x5 cz.len d5] 28)).alloc (.cells #[] 28)).heap[w.heap.size]? = some (.cells #[.int .i64 k,.string nm,.bool g,.slice x1 az.length d1,.slice x2 ws.length d2,.slice x3 ks.len d3,.slice x4 bs.length d4,.slice x5 cz.len d5] 28 (0,0)):=(Below.heap_alloc _ _ _ (by simp only [World.size_alloc];omega)).trans (heap_new' _ _);have HO:=Lib.hid hown0;have HX0:=Lib.hid hx0;have HXC:=Lib.hid hxc0;have HXL:=Lib.hid hxl;have HX1:=Lib.hid hx1;have HB0:=Lib.hid hb0;have HROW:=Lib.hid hrow;have HC:=Lib.hid h.hcs;have HOC:=Lib.hid h.okc;have HK:=Lib.hid h.hks;have HBD:=Lib.hid hbd;have HI:=Lib.hid hi;have HZ0:=Lib.hid hz0;have HZ1:=Lib.hid hz1;have HZ2:=Lib.hid hz2;clear hown0 hx0 hxc0 hxl hx1 hb0 hrow h hbd hi hz0 hz1 hz2;unfold nodeV;have hlk2:ks.len≤1000000:=by have:=HBD.out;rw [NL.app_len] at this;omega
 cases x3 with
 | none =>
  have hkn:ks = .nil:=nil_of_none HK.out;subst hkn;have hxs:xs0 = []:=List.length_eq_zero_iff.1 HXL.out;subst hxs;go_enter Tryz.func18,Tryz.ntmps18;go_wp2_with (at_builtin;refine append_nothing rfl (.tmp 6) (.tmp 8) 24 rfl w.heap.size 28 i0 8 Tryz.underlying24 HI.out _ 0 [] d3 rfl HO.out rfl ?_);have hrow1:=HROW.out;generalize ((w.alloc (.cells #[.int .i64 k,.string nm,.bool g,.slice x1 az.length d1,.slice x2 ws.length d2,.slice none (NL.len .nil) d3,.slice x4 bs.length d4,.slice x5 cz.len d5] 28)).alloc (.cells #[] 28)) = W2 at hrow1 HO HB0 HROW ⊢
  have q7:=zc7 hrow1;have HO1:=HO;have HB1:=HB0;clear hrow1;go_wp2
  go_loopw [3,13] (fun v x wr=>∃ (j:Nat) (done:NL) (xs:List Value),j≤cz.len∧x = .int .i64 j∧wr.ownsRow w.heap.size 28 8 v done.len xs∧CellsN w done xs∧done.app (bodies (cz.drop j)) = NL.nil.app (bodies cz)∧Below w.heap.size w wr) (fun v x wr=>cz.len - (intOf x).toNat)
  case atStart=>exact ⟨0,.nil,[],Nat.zero_le _,rfl,HO1.out,HX0.out,rfl,HB1.out⟩
  case round =>
   obtain ⟨j,done,xs,hj,rfl,hown,hcl,happ,hbw⟩:=hrel;have hdl:done.len + (bodies (cz.drop j)).len≤1000000:=by have:=HBD.out;rw [← happ,NL.app_len] at this;exact this
   have HOW:=Lib.hid hown;have HCL:=Lib.hid hcl;have HAP:=Lib.hid happ;have HW:=Lib.hid hbw;clear hown hcl happ hbw
   by_cases hlt:j < cz.len
   ·obtain ⟨ps,bd,r1,hd1⟩:=NL.drop_case hlt HOC.out;obtain ⟨b1,o1,rfl,_,y1,f1,y2,f2,w10,w11,_,n1,k1⟩:=HC.out.getC HOC.out hd1;have c10:=cell_below HW.out w10;have c11:=cell_below HW.out w11;have hb1:=World.block_lt_of_cell? _ _ c10;obtain ⟨ys,hy,hyc⟩:=cells_n n1 k1;have hyl:=hy.len;have hy1:=hy.one;have hnx:=NL.drop_succC hd1;rw [hd1] at hdl;simp only [bodies,NL.app_len] at hdl;have hap2:(done.app bd).app (bodies (cz.drop (j + 1))) = NL.nil.app (bodies cz):=by rw [hnx,NL.app_assoc,← HAP.out,hd1];rfl
    have hOV:=HOW.out.alloc (.cells #[.slice y1 ps.length f1,.slice y2 bd.len f2] 44);have hlb:=n1.le;have hws:=HW.out.size;have HOV:=Lib.hid hOV;have HY:=Lib.hid hy;have HYC:=Lib.hid hyc;have HYL:=Lib.hid hyl;have HY1:=Lib.hid hy1;have HA2:=Lib.hid hap2;have HN1:=Lib.hid n1;clear hOV hy hyc hyl hy1 hap2 n1 hd1 w10 w11;cases y2 with
    | none =>
     have hbn:bd = .nil:=nil_of_none HN1.out;subst hbn;have hys:ys = []:=List.length_eq_zero_iff.1 HYL.out;subst hys;go_wp2_with (at_builtin;refine append_nothing rfl (.tmp 17) (.tmp 19) 24 rfl w.heap.size 28 i0 8 Tryz.underlying24 HI.out _ done.len xs f2 rfl HOV.out rfl ?_);go_wp2_with fail;go_roundw
     case rel=>exact ⟨j + 1,done,xs,by omega,by go_num,HOV.out,HCL.out,by have:=HA2.out;rwa [NL.app_nil] at this,thru HW.out (bel1 wr _)⟩
     case measure=>simp [intOf];omega
    | some ad2 =>
     have had2:bd = .nil∨ad2.spot = none:=by
      rcases HN1.out.2.2 with h | ⟨b,o,h,_⟩
      ·exact .inl h
      ·cases h;exact .inr rfl
     have HAD2:=Lib.hid had2;clear had2;go_wp2_with (at_builtin;refine wpList_append_own _ rfl (.tmp 17) (.tmp 19) 24 rfl w.heap.size 28 i0 (.agg #[.int .i64 0,.string ⟨#[]⟩,.bool false,.slice none 0 0,.slice none 0 0,.slice none 0 0,.slice none 0 0,.slice none 0 0]) 8 152 Tryz.underlying24 HI.out HZ0.out HZ1.out HZ2.out rfl (by decide) _ _ _ rfl HOV.out ad2 bd.len f2 ys rfl ?c0 ?c1 ?c2 ?c3 ?c4 ?c5 ?_)
     case c0=>exact HYL.out
     case c1 =>
      intro i u hu;rcases HAD2.out with hn | hs
      ·have:=HYL.out;rw [hn] at this;have:ys = []:=List.length_eq_zero_iff.1 this;rw [this] at hu;simp at hu
      ·obtain ⟨b,o,sp⟩:=ad2;cases hs;have:=HYC.out b o rfl i u hu;rw [Go.WideShapes.add_plain];exact cell_below (thru HW.out (bel1 wr _)) this
     case c2=>exact HY1.out
     case c3=>unfold maxLen;omega
     case c4=>omega
     case c5=>first | (simp only [World.size_alloc];omega) | omega
     intro v2 w2 hown2 hgrow2 _;have hb2:=(thru HW.out (bel1 wr (.cells #[.slice y1 ps.length f1,.slice (some ad2) bd.len f2] 44))).grown hgrow2 (by simp only [World.size_alloc];omega) (fun k hk=>(HOV.out.lt k hk).1);rw [← NL.app_len] at hown2;have HO2:=Lib.hid hown2;have HB2:=Lib.hid hb2;clear hown2 hgrow2 hb2;go_wp2_with fail;go_roundw
     case rel=>exact ⟨j + 1,done.app bd,xs ++ ys,by omega,by go_num,HO2.out,HCL.out.app HY.out,HA2.out,HB2.out⟩
     case measure=>simp [intOf];omega
   ·obtain rfl:j = cz.len:=by omega
    have hfin:done = NL.nil.app (bodies cz):=by
     have:=HAP.out;rw [NL.drop_end (Nat.le_refl _)] at this;simpa only [bodies,NL.app_nil] using this
    obtain ⟨a',c',rfl,hli⟩:=nlies_own HOW.out (HCL.out.below HW.out) (by unfold R;omega);have HF:=Lib.hid hfin;have HLI:=Lib.hid hli;clear hfin hli HOW;go_wp2;go_ret;rw [← HF.out];exact ⟨⟨a',c',rfl,HLI.out⟩,HW.out⟩
 | some ad =>
  have had:ks = .nil∨ad.spot = none:=by
   rcases HK.out.2.2 with h | ⟨b,o,h,_⟩
   ·exact .inl h
   ·cases h;exact .inr rfl
  have HAD:=Lib.hid had;clear had;go_enter Tryz.func18,Tryz.ntmps18;go_wp2_with (at_builtin;refine wpList_append_own _ rfl (.tmp 6) (.tmp 8) 24 rfl w.heap.size 28 i0 (.agg #[.int .i64 0,.string ⟨#[]⟩,.bool false,.slice none 0 0,.slice none 0 0,.slice none 0 0,.slice none 0 0,.slice none 0 0]) 8 152 Tryz.underlying24 HI.out HZ0.out HZ1.out HZ2.out rfl (by decide) _ _ _ rfl HO.out ad ks.len d3 xs0 rfl ?c0 ?c1 ?c2 ?c3 ?c4 ?c5 ?_)
  case c0=>exact HXL.out
  case c1 =>
   intro j u hu;rcases HAD.out with hn | hs
   ·have:=HXL.out;rw [hn] at this;have:xs0 = []:=List.length_eq_zero_iff.1 this;rw [this] at hu;simp at hu
   ·obtain ⟨b,o,sp⟩:=ad;cases hs;have:=HXC.out b o rfl j u hu;rw [Go.WideShapes.add_plain];exact cell_below HB0.out this
  case c2=>exact HX1.out
  case c3=>unfold maxLen;omega
  case c4=>omega
  case c5=>simp only [World.size_alloc];omega
  intro v1 w1 hown1 hgrow1 _;have hb1:=HB0.out.grown hgrow1 (by simp only [World.size_alloc];omega) (fun k hk=>(HO.out.lt k hk).1);have hrow1:=(hgrow1.block w.heap.size (by simp only [World.size_alloc];omega) (fun e=>by have e':some w.heap.size = some (w.heap.size + 1):=e;injection e' with e';omega)).trans HROW.out;have q7:=zc7 hrow1;have HO1:=Lib.hid hown1;have HB1:=Lib.hid hb1;clear hown1 hgrow1 hb1 hrow1;go_wp2
  go_loopw [3,13] (fun v x wr=>∃ (j:Nat) (done:NL) (xs:List Value),j≤cz.len∧x = .int .i64 j∧wr.ownsRow w.heap.size 28 8 v done.len xs∧CellsN w done xs∧done.app (bodies (cz.drop j)) = ks.app (bodies cz)∧Below w.heap.size w wr) (fun v x wr=>cz.len - (intOf x).toNat)
  case atStart=>exact ⟨0,ks,xs0,Nat.zero_le _,rfl,HO1.out,HX0.out,rfl,HB1.out⟩
  case round =>
   obtain ⟨j,done,xs,hj,rfl,hown,hcl,happ,hbw⟩:=hrel;have hdl:done.len + (bodies (cz.drop j)).len≤1000000:=by have:=HBD.out;rw [← happ,NL.app_len] at this;exact this
   have HOW:=Lib.hid hown;have HCL:=Lib.hid hcl;have HAP:=Lib.hid happ;have HW:=Lib.hid hbw;clear hown hcl happ hbw
   by_cases hlt:j < cz.len
   ·obtain ⟨ps,bd,r1,hd1⟩:=NL.drop_case hlt HOC.out;obtain ⟨b1,o1,rfl,_,y1,f1,y2,f2,w10,w11,_,n1,k1⟩:=HC.out.getC HOC.out hd1;have c10:=cell_below HW.out w10;have c11:=cell_below HW.out w11;have hb1:=World.block_lt_of_cell? _ _ c10;obtain ⟨ys,hy,hyc⟩:=cells_n n1 k1;have hyl:=hy.len;have hy1:=hy.one;have hnx:=NL.drop_succC hd1;rw [hd1] at hdl;simp only [bodies,NL.app_len] at hdl;have hap2:(done.app bd).app (bodies (cz.drop (j + 1))) = ks.app (bodies cz):=by rw [hnx,NL.app_assoc,← HAP.out,hd1];rfl
    have hOV:=HOW.out.alloc (.cells #[.slice y1 ps.length f1,.slice y2 bd.len f2] 44);have hlb:=n1.le;have hws:=HW.out.size;have HOV:=Lib.hid hOV;have HY:=Lib.hid hy;have HYC:=Lib.hid hyc;have HYL:=Lib.hid hyl;have HY1:=Lib.hid hy1;have HA2:=Lib.hid hap2;have HN1:=Lib.hid n1;clear hOV hy hyc hyl hy1 hap2 n1 hd1 w10 w11;cases y2 with
    | none =>
     have hbn:bd = .nil:=nil_of_none HN1.out;subst hbn;have hys:ys = []:=List.length_eq_zero_iff.1 HYL.out;subst hys;go_wp2_with (at_builtin;refine append_nothing rfl (.tmp 17) (.tmp 19) 24 rfl w.heap.size 28 i0 8 Tryz.underlying24 HI.out _ done.len xs f2 rfl HOV.out rfl ?_);go_wp2_with fail;go_roundw
     case rel=>exact ⟨j + 1,done,xs,by omega,by go_num,HOV.out,HCL.out,by have:=HA2.out;rwa [NL.app_nil] at this,thru HW.out (bel1 wr _)⟩
     case measure=>simp [intOf];omega
    | some ad2 =>
     have had2:bd = .nil∨ad2.spot = none:=by
      rcases HN1.out.2.2 with h | ⟨b,o,h,_⟩
      ·exact .inl h
      ·cases h;exact .inr rfl
     have HAD2:=Lib.hid had2;clear had2;go_wp2_with (at_builtin;refine wpList_append_own _ rfl (.tmp 17) (.tmp 19) 24 rfl w.heap.size 28 i0 (.agg #[.int .i64 0,.string ⟨#[]⟩,.bool false,.slice none 0 0,.slice none 0 0,.slice none 0 0,.slice none 0 0,.slice none 0 0]) 8 152 Tryz.underlying24 HI.out HZ0.out HZ1.out HZ2.out rfl (by decide) _ _ _ rfl HOV.out ad2 bd.len f2 ys rfl ?c0 ?c1 ?c2 ?c3 ?c4 ?c5 ?_)
     case c0=>exact HYL.out
     case c1 =>
      intro i u hu;rcases HAD2.out with hn | hs
      ·have:=HYL.out;rw [hn] at this;have:ys = []:=List.length_eq_zero_iff.1 this;rw [this] at hu;simp at hu
      ·obtain ⟨b,o,sp⟩:=ad2;cases hs;have:=HYC.out b o rfl i u hu;rw [Go.WideShapes.add_plain];exact cell_below (thru HW.out (bel1 wr _)) this
     case c2=>exact HY1.out
     case c3=>unfold maxLen;omega
     case c4=>omega
     case c5=>first | (simp only [World.size_alloc];omega) | omega
     intro v2 w2 hown2 hgrow2 _;have hb2:=(thru HW.out (bel1 wr (.cells #[.slice y1 ps.length f1,.slice (some ad2) bd.len f2] 44))).grown hgrow2 (by simp only [World.size_alloc];omega) (fun k hk=>(HOV.out.lt k hk).1);rw [← NL.app_len] at hown2;have HO2:=Lib.hid hown2;have HB2:=Lib.hid hb2;clear hown2 hgrow2 hb2;go_wp2_with fail;go_roundw
     case rel=>exact ⟨j + 1,done.app bd,xs ++ ys,by omega,by go_num,HO2.out,HCL.out.app HY.out,HA2.out,HB2.out⟩
     case measure=>simp [intOf];omega
   ·obtain rfl:j = cz.len:=by omega
    have hfin:done = ks.app (bodies cz):=by
     have:=HAP.out;rw [NL.drop_end (Nat.le_refl _)] at this;simpa only [bodies,NL.app_nil] using this
    obtain ⟨a',c',rfl,hli⟩:=nlies_own HOW.out (HCL.out.below HW.out) (by unfold R;omega);have HF:=Lib.hid hfin;have HLI:=Lib.hid hli;clear hfin hli HOW;go_wp2;go_ret;rw [← HF.out];exact ⟨⟨a',c',rfl,HLI.out⟩,HW.out⟩
end Tr
end Go.Proofs.YtjmpfihopeohbaaGreatDoor
