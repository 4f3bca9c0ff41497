/- The reference's Weight: the plain part. -/
import Derived.Test.YtjmpfihopeohbaaGreatDoorTrS
import Derived.Test.YtjmpfihopeohbaaGreatDoorRfE
set_option maxHeartbeats 3200000
set_option maxRecDepth 100000
namespace Go.Proofs.YtjmpfihopeohbaaGreatDoor
open Go.RowKit Go.Sort
namespace Pt
theorem wGo_two:∀ (l:PL) (d n:Nat),n≤10000→wGo l d n≤10000∨wGo l d n = 100000
 | .nil,_,n,h=>.inl h
 | .cons k q t o f r,d,n,h=>by
  rw [wGo_cons];split
  ·exact .inr rfl
  ·exact wGo_two r d _ (by omega)
theorem weight_two (l:PL) (d:Nat):weight l d≤10000∨weight l d = 100000:=by
 unfold weight;split
 ·exact .inr rfl
 ·exact wGo_two l d 0 (by omega)
end Pt
namespace Tr
open Cls Pt
def wsB:List PL→Nat
 | []=>0
 | l :: r=>1 + Bd.bytes l + wsB r
def azB:List (ByteArray × PL)→Nat
 | []=>0
 | x :: r=>1 + x.1.size + Bd.bytes x.2 + azB r
def totN:NL→Nat
 | .nil=>0
 | .node _ nm _ az ws ks bs cz r=>(1 + nm.size + bs.length + wsB ws + azB az + totN ks + totN cz) + totN r
 | .cse ps b r=>(1 + b.len + wsB ps + totN b) + totN r
def czB:NL→Nat
 | .nil=>0
 | .cse ps b r=>(1 + b.len + wsB ps) + czB r
 | .node _ _ _ _ _ _ _ _ r=>czB r
def totX (nm:ByteArray) (az:List (ByteArray × PL)) (ws:List PL) (ks:NL) (bs:List Bool) (cz:NL):Nat :=
 1 + nm.size + bs.length + wsB ws + azB az + totN ks + totN cz
theorem wsB_drop {l:PL}:∀ {ws:List PL} {j:Nat},ws[j]? = some l→wsB (ws.drop j) = 1 + Bd.bytes l + wsB (ws.drop (j + 1))
 | [],_,h=>by simp at h
 | _ :: r,0,h=>by
  simp only [List.getElem?_cons_zero,Option.some.injEq] at h;subst h;simp [wsB]
 | _ :: r,j + 1,h=>by
  simp only [List.drop_succ_cons];exact wsB_drop (by simpa using h)
theorem azB_drop {x:ByteArray × PL}:∀ {az:List (ByteArray × PL)} {j:Nat},az[j]? = some x→azB (az.drop j) = 1 + x.1.size + Bd.bytes x.2 + azB (az.drop (j + 1))
 | [],_,h=>by simp at h
 | _ :: r,0,h=>by
  simp only [List.getElem?_cons_zero,Option.some.injEq] at h;subst h;simp [azB]
 | _ :: r,j + 1,h=>by
  simp only [List.drop_succ_cons];exact azB_drop (by simpa using h)
theorem totN_app:∀ {ks:NL} (l:NL),NL.okN ks true = true→totN (ks.app l) = totN ks + totN l
 | .nil,l,_=>by simp [NL.app,totN]
 | .node _ _ _ _ _ _ _ _ r,l,h=>by
  simp only [NL.okN,Bool.and_eq_true] at h;have:=totN_app (ks:=r) l h.2;simp only [NL.app,totN,this];omega
 | .cse _ _ _,_,h=>by simp [NL.okN] at h
theorem totN_bodies:∀ {cz:NL},NL.okN cz false = true→totN cz = czB cz + totN (bodies cz)
 | .nil,_=>rfl
 | .cse ps b r,h=>by
  simp only [NL.okN,Bool.and_eq_true] at h;have h1:=totN_bodies (cz:=r) h.2;have h2:=totN_app (ks:=b) (bodies r) h.1.2;simp only [totN,czB,bodies,h1,h2];omega
 | .node _ _ _ _ _ _ _ _ _,h=>by simp [NL.okN] at h
theorem len_bodies:∀ {cz:NL},NL.okN cz false = true→(bodies cz).len≤czB cz
 | .nil,_=>Nat.le_refl _
 | .cse ps b r,h=>by
  simp only [NL.okN,Bool.and_eq_true] at h;have h1:=len_bodies (cz:=r) h.2;simp only [czB,bodies,NL.app_len];omega
 | .node _ _ _ _ _ _ _ _ _,h=>by simp [NL.okN] at h
theorem bodies_okN:∀ {cz:NL},NL.okN cz false = true→NL.okN (bodies cz) true = true
 | .nil,_=>rfl
 | .cse ps b r,h=>by
  simp only [NL.okN,Bool.and_eq_true] at h;exact NL.app_ok h.1.2 (bodies_okN h.2)
 | .node _ _ _ _ _ _ _ _ _,h=>by simp [NL.okN] at h
theorem NL.app_size:∀ (l m:NL),(l.app m).size = l.size + m.size
 | .nil,m=>by simp [NL.app,NL.size]
 | .node _ _ _ _ _ _ _ _ r,m=>by have:=NL.app_size r m;simp only [NL.app,NL.size,this];omega
 | .cse _ _ r,m=>by have:=NL.app_size r m;simp only [NL.app,NL.size,this];omega
theorem bodies_size:∀ (cz:NL),(bodies cz).size≤cz.size
 | .nil=>Nat.le_refl _
 | .cse ps b r=>by
  have h1:=bodies_size r;simp only [bodies,NL.app_size,NL.size];omega
 | .node _ _ _ _ _ _ _ _ r=>by
  have h1:=bodies_size r;simp only [bodies,NL.size];omega
end Tr
end Go.Proofs.YtjmpfihopeohbaaGreatDoor
namespace Go.Proofs.YtjmpfihopeohbaaGreatDoor
open Go.RowKit Go.Sort
namespace Tr
open Cls Pt
def Heavy (w:World) (t:Nat) (e:Ending) (w':World):Prop:=(∃ v:Nat,e = .returned (.int .i64 v)∧v≤100000∧(v≤20000→v = t))∧Below w.heap.size w w'
def WAt (n:Nat):Prop:=∀ (k:Int) (nm:ByteArray) (g:Bool) (az:List (ByteArray × PL)) (ws:List PL) (ks:NL) (bs:List Bool) (cz:NL) (x1:Option Addr) (d1:Nat) (x2:Option Addr) (d2:Nat) (x3:Option Addr) (d3:Nat) (x4:Option Addr) (d4:Nat) (x5:Option Addr) (d5:Nat) (d:Nat) (w:World),ks.size + cz.size < n→d≤1000→Holds w nm az ws ks bs cz x1 d1 x2 d2 x3 d3 x4 d4 x5 d5 →
 Calls Tryz.prog 7 #[.agg (nodeV k nm g x1 az.length d1 x2 ws.length d2 x3 ks.len d3 x4 bs.length d4 x5 cz.len d5),.int .i64 d] w (Heavy w (totX nm az ws ks bs cz))
theorem weight_big (k:Int) (nm:ByteArray) (g:Bool) (az:List (ByteArray × PL)) (ws:List PL) (ks:NL) (bs:List Bool) (cz:NL) (x1 d1 x2 d2 x3 d3 x4 d4 x5 d5) (d:Nat) (w:World) (hd:d≤1000) (h:Holds w nm az ws ks bs cz x1 d1 x2 d2 x3 d3 x4 d4 x5 d5)
  (hb:900 < d∨5000 < ks.len + cz.len + ws.length + az.length + bs.length) :
  Calls Tryz.prog 7 #[.agg (nodeV k nm g x1 az.length d1 x2 ws.length d2 x3 ks.len d3 x4 bs.length d4 x5 cz.len d5),.int .i64 d] w (Heavy w (totX nm az ws ks bs cz)):=by
 have l1:=h.haz.le;have l2:=h.hws.le;have l3:=h.hks.le;have l4:=h.hbs.le;have l5:=h.hcs.le;clear h;have s1:IntKind.i64.wrap ((ks.len:Int) + cz.len) = (ks.len:Int) + cz.len:=wrapW _ (by omega) (by omega);have s2:IntKind.i64.wrap ((ks.len:Int) + cz.len + ws.length) = (ks.len:Int) + cz.len + ws.length:=wrapW _ (by omega) (by omega);have s3:IntKind.i64.wrap ((ks.len:Int) + cz.len + ws.length + az.length) = (ks.len:Int) + cz.len + ws.length + az.length:=wrapW _ (by omega) (by omega);have s4:IntKind.i64.wrap ((ks.len:Int) + cz.len + ws.length + az.length + bs.length) = ((ks.len + cz.len + ws.length + az.length + bs.length:Nat):Int):=(wrapW _ (by omega) (by omega)).trans (by push_cast;rfl);unfold nodeV
 by_cases h1:900 < d
 ·have hdI:((d:Int) > 900) = True:=by simp;omega
  have hdJ:(900 < (d:Int)) = True:=by simp;omega
  clear h1 hb hd;go_enter Tryz.func7,Tryz.ntmps7;go_wp2;go_ret;exact ⟨⟨100000,rfl,by omega,fun h=>absurd h (by decide)⟩,bel1 _ _⟩
 ·have hb:5000 < ks.len + cz.len + ws.length + az.length + bs.length:=hb.resolve_left h1;have hdI:((d:Int) > 900) = False:=by simp;omega
  have hdJ:(900 < (d:Int)) = False:=by simp;omega
  generalize ks.len + cz.len + ws.length + az.length + bs.length = T at hb s4;have hlI:((T:Int) > 5000) = True:=by simp;omega
  have hlJ:(5000 < (T:Int)) = True:=by simp;omega
  clear h1 hb hd;go_enter Tryz.func7,Tryz.ntmps7;go_wp2;go_ret;exact ⟨⟨100000,rfl,by omega,fun h=>absurd h (by decide)⟩,bel1 _ _⟩
end Tr
end Go.Proofs.YtjmpfihopeohbaaGreatDoor
namespace Go.Proofs.YtjmpfihopeohbaaGreatDoor
open Go.RowKit Go.Sort
namespace Tr
open Cls Pt
theorem weight_step5 (n:Nat) (hW:WAt n) (k:Int) (nm:ByteArray) (g:Bool) (az:List (ByteArray × PL)) (ws:List PL) (ks:NL) (bs:List Bool) (cz:NL) (x1 d1 x2 d2 x3 d3 x4 d4 x5 d5) (d:Nat) (w:World) (hsz:ks.size + cz.size≤n) (hd:d≤900) (hT:ks.len + cz.len + ws.length + az.length + bs.length≤5000) (h:Holds w nm az ws ks bs cz x1 d1 x2 d2 x3 d3 x4 d4 x5 d5) :
  Calls Tryz.prog 7 #[.agg (nodeV k nm g x1 az.length d1 x2 ws.length d2 x3 ks.len d3 x4 bs.length d4 x5 cz.len d5),.int .i64 d] w (Heavy w (totX nm az ws ks bs cz)):=by
 have l0:nm.size≤140737488351232:=h.hnm;have s1:IntKind.i64.wrap ((ks.len:Int) + cz.len) = (ks.len:Int) + cz.len:=wrapW _ (by omega) (by omega);have s2:IntKind.i64.wrap ((ks.len:Int) + cz.len + ws.length) = (ks.len:Int) + cz.len + ws.length:=wrapW _ (by omega) (by omega);have s3:IntKind.i64.wrap ((ks.len:Int) + cz.len + ws.length + az.length) = (ks.len:Int) + cz.len + ws.length + az.length:=wrapW _ (by omega) (by omega);have s4:IntKind.i64.wrap ((ks.len:Int) + cz.len + ws.length + az.length + bs.length) = (ks.len:Int) + cz.len + ws.length + az.length + bs.length:=wrapW _ (by omega) (by omega);have hdI:((d:Int) > 900) = False:=by simp;omega
 have hdJ:(900 < (d:Int)) = False:=by simp;omega
 have hlI:((ks.len:Int) + cz.len + ws.length + az.length + bs.length > 5000) = False:=by simp;omega
 have hlJ:(5000 < (ks.len:Int) + cz.len + ws.length + az.length + bs.length) = False:=by simp;omega
 have t1:IntKind.i64.wrap (1 + (nm.size:Int)) = 1 + (nm.size:Int):=wrapW _ (by omega) (by omega);have t2:IntKind.i64.wrap (1 + (nm.size:Int) + bs.length) = ((1 + nm.size + bs.length:Nat):Int):=(wrapW _ (by omega) (by omega)).trans (by push_cast;rfl);have hrow:(w.alloc (.cells #[.int .i64 k,.string nm,.bool g,.slice x1 az.length d1,.slice x2 ws.length d2,.slice x3 ks.len d3,.slice x4 bs.length d4,.slice x5 cz.len d5] 28)).heap[w.heap.size]? = some (.cells #[.int .i64 k,.string nm,.bool g,.slice x1 az.length d1,.slice x2 ws.length d2,.slice x3 ks.len d3,.slice x4 bs.length d4,.slice x5 cz.len d5] 28 (0,0)):=heap_new' _ _;have hbl:=bel1 w (.cells #[.int .i64 k,.string nm,.bool g,.slice x1 az.length d1,.slice x2 ws.length d2,.slice x3 ks.len d3,.slice x4 bs.length d4,.slice x5 cz.len d5] 28);have hlw:=h.hws.le;have hla:=h.haz.le;have hlc:=h.hcs.le;have HROW:=Lib.hid hrow;have HBL:=Lib.hid hbl;clear hrow hbl;have hBb:1 + nm.size + bs.length≤140737488360000:=by omega
 generalize hB0:1 + nm.size + bs.length = B0 at t2 hBb;have HT:=Lib.hid hT;have HH:=Lib.hid h;have HSZ:=Lib.hid hsz;have HD:=Lib.hid hd;have HWT:=Lib.hid hW;have HB0:=Lib.hid hB0;clear hT h hsz hd hW hB0;unfold nodeV;go_enter Tryz.func7,Tryz.ntmps7;go_wp2;generalize w.alloc (.cells #[.int .i64 k,.string nm,.bool g,.slice x1 az.length d1,.slice x2 ws.length d2,.slice x3 ks.len d3,.slice x4 bs.length d4,.slice x5 cz.len d5] 28) = W2 at HROW HBL ⊢
 go_loopw [5,51] (fun v x wr=>∃ (s j:Nat),j≤ws.length∧v = .int .i64 s∧x = .int .i64 j∧s≤140737488360000 + j * 100001∧(s≤20000→s + wsB (ws.drop j) = B0 + wsB ws)∧Below W2.heap.size W2 wr) (fun v x wr=>ws.length - (intOf x).toNat)
 case atStart=>exact ⟨B0,0,Nat.zero_le _,rfl,rfl,by omega,fun _=>rfl,Below.refl _ _⟩
 case round =>
  obtain ⟨s,j,hj,rfl,rfl,hs,hi,hbw⟩:=hrel;have HI:=Lib.hid hi;have HWR:=Lib.hid hbw;clear hi hbw
  by_cases hlt:j < ws.length
  ·obtain ⟨b1,o1,rfl,a1,ca1,e1,hl1⟩:=(sl_below (P:=PW) (fun h=>h.below (thru HBL.out HWR.out)) HH.out.hws).get (List.getElem?_eq_getElem hlt);rw [Nat.mul_one] at e1;have hdr:=wsB_drop (List.getElem?_eq_getElem hlt);generalize ws[j] = l at *
   have hcl:=weight_any (l.size + 1) l a1 ca1 0 wr (Nat.lt_succ_self _) (by omega) hl1;have hwl:=weight_le l 0;have hw2:=weight_two l 0;have hwb:=@weight_bytes l 0;have hlx:=hl1.le;generalize weight l 0 = W at *
   have hT5:=HT.out;have w1:IntKind.i64.wrap (1 + (W:Int)) = 1 + (W:Int):=wrapW _ (by omega) (by omega);have w2:IntKind.i64.wrap ((s:Int) + (1 + (W:Int))) = ((s + (1 + W):Nat):Int):=(wrapW _ (by omega) (by omega)).trans (by push_cast;rfl);have hnx:s + (1 + W)≤20000→s + (1 + W) + wsB (ws.drop (j + 1)) = B0 + wsB ws:=fun h=>by have h1:=HI.out (by omega);have h2:=hwb (by omega);omega
   have hsb:s + (1 + W)≤140737488360000 + (j + 1) * 100001:=by omega
   have HCL:=Lib.hid hcl;have HNX:=Lib.hid hnx;have HSB:=Lib.hid hsb;clear hcl hnx hsb hwl hw2 hwb hT5 hdr hl1 hs;go_wp2_with (go_at_call 17;refine (HCL.out).mono ?_;rintro e w' ⟨rfl,hb⟩);go_roundw
   case rel=>exact ⟨s + (1 + W),j + 1,by omega,rfl,by go_num,HSB.out,HNX.out,thru HWR.out (by assumption)⟩
   case measure=>simp [intOf];omega
  ·obtain rfl:j = ws.length:=by omega
   have hi1:s≤20000→s = B0 + wsB ws:=fun h=>by have:=HI.out h;rw [List.drop_eq_nil_of_le (Nat.le_refl _)] at this;exact this
   have hT5:=HT.out;have hs1:s≤140738000000000:=by omega
   generalize hB1:B0 + wsB ws = B1 at hi1;have HB1:=Lib.hid hB1;have HI1:=Lib.hid hi1;clear hB1 hi1 hs HI hlt;rename_i s;have q3:wr.cell? ⟨w.heap.size,3,none⟩ = some (.slice x1 az.length d1):=cell_below HWR.out (Lib.cell_of_heap HROW.out 3);go_wp2
   go_loopw [5,64] (fun v x wr=>∃ (s j:Nat),j≤az.length∧v = .int .i64 s∧x = .int .i64 j∧s≤140738000000000 + j * 140737488451300∧(s≤20000→s + azB (az.drop j) = B1 + azB az)∧Below W2.heap.size W2 wr) (fun v x wr=>az.length - (intOf x).toNat)
   case atStart=>exact ⟨s,0,Nat.zero_le _,rfl,rfl,by omega,fun h=>by rw [HI1.out h];rfl,HWR.out⟩
   clear HI1 HWR q3 hs1 hT5
   case round =>
    obtain ⟨s,j,hj,rfl,rfl,hs,hi,hbw⟩:=hrel;have HI:=Lib.hid hi;have HWR:=Lib.hid hbw;clear hi hbw
    by_cases hlt:j < az.length
    ·obtain ⟨b1,o1,rfl,e1,hx1,a1,ca1,e2,hl1⟩:=(sl_below (P:=PA) (fun h=>h.below (thru HBL.out HWR.out)) HH.out.haz).get (List.getElem?_eq_getElem hlt);have hdr:=azB_drop (List.getElem?_eq_getElem hlt);generalize az[j] = x at *
     obtain ⟨an,l⟩:=x;dsimp only at *
     have hx2:an.size≤140737488351232:=hx1;have hb1:=World.block_lt_of_cell? _ _ e1;have hrw:(wr.alloc (.cells #[.string an,.slice a1 l.len ca1] 42)).heap[wr.heap.size]? = some (.cells #[.string an,.slice a1 l.len ca1] 42 (0,0)):=heap_new' _ _;have hbv:=bel1 wr (.cells #[.string an,.slice a1 l.len ca1] 42);have hwl:=weight_le l 0;have hw2:=weight_two l 0;have hwb:=@weight_bytes l 0;have hcl:=fun dd os=>Calls.regrown_of (weight_any (l.size + 1) l a1 ca1 0 (grow (redrawn (wr.alloc (.cells #[.string an,.slice a1 l.len ca1] 42)) dd) os) (Nat.lt_succ_self _) (by omega) (hl1.below (thru hbv (below_regrown _ dd os))));have hbl2:=fun dd os=>thru HWR.out (thru hbv (below_regrown _ dd os));have hlx:=hl1.le;generalize weight l 0 = W at *
     have hT5:=HT.out;have v1:IntKind.i64.wrap (1 + (an.size:Int)) = 1 + (an.size:Int):=wrapW _ (by omega) (by omega);have v2:IntKind.i64.wrap (1 + (an.size:Int) + (W:Int)) = 1 + (an.size:Int) + (W:Int):=wrapW _ (by omega) (by omega);have v3:IntKind.i64.wrap ((s:Int) + (1 + (an.size:Int) + (W:Int))) = ((s + (1 + an.size + W):Nat):Int):=(wrapW _ (by omega) (by omega)).trans (by push_cast;rfl);have hnx:s + (1 + an.size + W)≤20000→s + (1 + an.size + W) + azB (az.drop (j + 1)) = B1 + azB az:=fun h=>by have h1:=HI.out (by omega);have h2:=hwb (by omega);omega
     have hsb:s + (1 + an.size + W)≤140738000000000 + (j + 1) * 140737488451300:=by omega
     have HCL:=Lib.hid hcl;have HB2:=Lib.hid hbl2;have HNX:=Lib.hid hnx;have HSB:=Lib.hid hsb;have HRW:=Lib.hid hrw;clear hcl hbl2 hnx hsb hwl hw2 hwb hT5 hdr hl1 hs hrw hbv hx1;go_wp2_with fail;generalize wr.alloc (.cells #[.string an,.slice a1 l.len ca1] 42) = V at HCL HB2 HRW ⊢
     have n0:=cell_regrown (show V.cell? ⟨wr.heap.size,0,none⟩ = some (.string an) from Lib.cell_of_heap HRW.out 0);have n1:=cell_regrown (show V.cell? ⟨wr.heap.size,1,none⟩ = some (.slice a1 l.len ca1) from Lib.cell_of_heap HRW.out 1);refine Qu.region (by kernel_rfl) (by kernel_rfl) ?_
     repeat (first
      | (first | refine Qu.carry0 rfl (fun K hK=>?_) | refine Qu.carryG rfl rfl rfl (fun K hK=>?_)
         go_simp
         first
         | (refine hK _ ?_;clear hK K)
         | (apply Exists.intro;refine ⟨fun _=>?_,hK _ ?_⟩;exact HCL.out _ _;clear hK K))
      | (refine Qu.passG rfl rfl rfl (fun K hK=>?_);go_simp;refine hK _ ?_;clear hK K))
     refine Qu.fin ?_;rintro ⟨dq,osq⟩;go_wp2;go_roundw
     case rel=>exact ⟨s + (1 + an.size + W),j + 1,by omega,rfl,by go_num,HSB.out,HNX.out,HB2.out dq osq⟩
     case measure=>simp [intOf];omega
    ·obtain rfl:j = az.length:=by omega
     have hi1:s≤20000→s = B1 + azB az:=fun h=>by have:=HI.out h;rw [List.drop_eq_nil_of_le (Nat.le_refl _)] at this;exact this
     have hT5:=HT.out;have hs1:s≤703828180256500000:=by omega
     generalize hB2:B1 + azB az = B2 at hi1;have HBB:=Lib.hid hB2;have HI1:=Lib.hid hi1;clear hB2 hi1 hs HI hlt;rename_i s;have q7:wr.cell? ⟨w.heap.size,7,none⟩ = some (.slice x5 cz.len d5):=cell_below HWR.out (Lib.cell_of_heap HROW.out 7);go_wp2
     go_loopw [5,82] (fun v x wr=>∃ (s j:Nat),j≤cz.len∧v = .int .i64 s∧x = .int .i64 j∧s≤703828180256500000 + j * 140737488351300∧(s≤20000→s + czB (cz.drop j) = B2 + czB cz)∧Below W2.heap.size W2 wr) (fun v x wr=>cz.len - (intOf x).toNat)
     case atStart=>exact ⟨s,0,Nat.zero_le _,rfl,rfl,by omega,fun h=>by rw [HI1.out h];rfl,HWR.out⟩
     clear HI1 HWR q7 hs1 hT5
     case round =>
      obtain ⟨s,j,hj,rfl,rfl,hs,hi,hbw⟩:=hrel;have HI:=Lib.hid hi;have HWR:=Lib.hid hbw;clear hi hbw
      by_cases hlt:j < cz.len
      ·obtain ⟨ps,bd,r1,hd1⟩:=NL.drop_case hlt HH.out.okc;obtain ⟨b1,o1,rfl,hb1,y1,f1,y2,f2,c10,c11,sp,nb,kb⟩:=(HH.out.hcs.below (thru HBL.out HWR.out)).getC HH.out.okc hd1;have hnx:=NL.drop_succC hd1;have hlb:=nb.le;have hlp:=sp.le;have hT5:=HT.out;have hi2:s + (1 + bd.len)≤20000→s + (1 + bd.len) + wsB ps + czB (cz.drop (j + 1)) = B2 + czB cz:=fun h=>by
        have h1:=HI.out (by omega);rw [hd1] at h1;rw [hnx];simp only [czB] at h1;omega
       have hsb:s + (1 + bd.len)≤703828180256500000 + (j + 1) * 140737488351300:=by omega
       have hS0:703828180256500000 + (j + 1) * 140737488351300≤1500000000000000000:=by omega
       have hS1:20000≤703828180256500000 + (j + 1) * 140737488351300:=by omega
       have v1:IntKind.i64.wrap (1 + (bd.len:Int)) = 1 + (bd.len:Int):=wrapW _ (by omega) (by omega);have v2:IntKind.i64.wrap ((s:Int) + (1 + (bd.len:Int))) = ((s + (1 + bd.len):Nat):Int):=(wrapW _ (by omega) (by omega)).trans (by push_cast;rfl);have hrw:(wr.alloc (.cells #[.slice y1 ps.length f1,.slice y2 bd.len f2] 44)).heap[wr.heap.size]? = some (.cells #[.slice y1 ps.length f1,.slice y2 bd.len f2] 44 (0,0)):=heap_new' _ _;have hbv:=bel1 wr (.cells #[.slice y1 ps.length f1,.slice y2 bd.len f2] 44);have hsp:=sl_below (P:=PW) (fun h=>h.below hbv) sp;generalize hS:703828180256500000 + (j + 1) * 140737488351300 = S0 at hsb hS0 hS1;generalize hM:s + (1 + bd.len) = M at hi2 hsb v2;generalize hR1:czB (cz.drop (j + 1)) = R1 at hi2;have HI2:=Lib.hid hi2;have HSB:=Lib.hid hsb;have HS:=Lib.hid hS;have HR1:=Lib.hid hR1;have HS0:=Lib.hid hS0;have HS1:=Lib.hid hS1;have HRW:=Lib.hid hrw;have HBV:=Lib.hid (thru HWR.out hbv);have HSP:=Lib.hid hsp;clear hi2 hsb hS hM hR1 hS0 hS1 hrw hbv hsp hT5 hnx hd1 nb kb sp hs HI HWR;go_wp2_with fail;generalize wr.alloc (.cells #[.slice y1 ps.length f1,.slice y2 bd.len f2] 44) = V at HRW HBV HSP ⊢
       have q0:=zc0 HRW.out;have q1:=zc1 HRW.out;go_wp2
       go_loopw [5,95] (fun v x wr=>∃ (s i:Nat),i≤ps.length∧v = .int .i64 s∧x = .int .i64 i∧s≤S0∧(s≤20000→s + wsB (ps.drop i) + R1 = B2 + czB cz)∧Below V.heap.size V wr) (fun v x wr=>ps.length - (intOf x).toNat)
       case atStart=>exact ⟨M,0,Nat.zero_le _,rfl,rfl,HSB.out,fun h=>HI2.out h,Below.refl _ _⟩
       case round =>
        obtain ⟨s,i,hi,rfl,rfl,hs,hii,hbw⟩:=hrel;have HI:=Lib.hid hii;have HWR:=Lib.hid hbw;clear hii hbw
        by_cases hlt2:i < ps.length
        ·obtain ⟨b2,o2,rfl,a1,ca1,e1,hl1⟩:=(sl_below (P:=PW) (fun h=>h.below HWR.out) HSP.out).get (List.getElem?_eq_getElem hlt2);rw [Nat.mul_one] at e1;have hdr:=wsB_drop (List.getElem?_eq_getElem hlt2);generalize ps[i] = l at *
         have hcl:=weight_any (l.size + 1) l a1 ca1 0 wr (Nat.lt_succ_self _) (by omega) hl1;have hwl:=weight_le l 0;have hw2:=weight_two l 0;have hwb:=@weight_bytes l 0;have hlx:=hl1.le;generalize weight l 0 = W at *
         have hs0:=HS0.out;have hs1:=HS1.out;have w1:IntKind.i64.wrap (1 + (W:Int)) = 1 + (W:Int):=wrapW _ (by omega) (by omega);have w2:IntKind.i64.wrap ((s:Int) + (1 + (W:Int))) = ((s + (1 + W):Nat):Int):=(wrapW _ (by omega) (by omega)).trans (by push_cast;rfl);have hnx:s + (1 + W)≤20000→s + (1 + W) + wsB (ps.drop (i + 1)) + R1 = B2 + czB cz:=fun h=>by have h1:=HI.out (by omega);have h2:=hwb (by omega);omega
         generalize hM2:s + (1 + W) = M2 at w2 hnx;have HCL:=Lib.hid hcl;have HNX:=Lib.hid hnx;clear hcl hnx hwl hw2 hwb hdr hl1 hs hM2 hs0
         by_cases hbig:20000 < M2
         ·have hbI:((M2:Int) > 20000) = True:=by simp;omega
          have hbJ:(20000 < (M2:Int)) = True:=by simp;omega
          clear hbig;go_wp2_with (go_at_call 17;refine (HCL.out).mono ?_;rintro e w' ⟨rfl,hb⟩);go_ret;exact ⟨⟨100000,rfl,by omega,fun h=>absurd h (by decide)⟩,thru HBL.out (thru HBV.out (thru HWR.out (by assumption)))⟩
         ·have hbI:((M2:Int) > 20000) = False:=by simp;omega
          have hbJ:(20000 < (M2:Int)) = False:=by simp;omega
          have hsb:M2≤S0:=by omega
          have HSB2:=Lib.hid hsb;clear hbig hsb;go_wp2_with (go_at_call 17;refine (HCL.out).mono ?_;rintro e w' ⟨rfl,hb⟩);go_roundw
          case rel=>exact ⟨M2,i + 1,by omega,rfl,by go_num,HSB2.out,HNX.out,thru HWR.out (by assumption)⟩
          case measure=>simp [intOf];omega
        ·obtain rfl:i = ps.length:=by omega
         have hi1:s≤20000→s + R1 = B2 + czB cz:=fun h=>by have:=HI.out h;rw [List.drop_eq_nil_of_le (Nat.le_refl _)] at this;exact this
         have HI3:=Lib.hid hi1;have HSS:=Lib.hid hs;clear hi1 hs HI hlt2;go_wp2;go_roundw
         case rel=>exact ⟨s,j + 1,by omega,rfl,by go_num,by rw [HS.out];exact HSS.out,fun h=>by rw [HR1.out];exact HI3.out h,thru HBV.out HWR.out⟩
         case measure=>simp [intOf];omega
      ·obtain rfl:j = cz.len:=by omega
       have hi1:s≤20000→s = B2 + czB cz:=fun h=>by have:=HI.out h;rw [NL.drop_end (Nat.le_refl _)] at this;exact this
       have hT5:=HT.out;have hs1:s≤1500000000000000000:=by omega
       have HI1:=Lib.hid hi1;clear hi1 hs HI hlt
       by_cases hbig:20000 < s
       ·have hbI:((s:Int) > 20000) = True:=by simp;omega
        have hbJ:(20000 < (s:Int)) = True:=by simp;omega
        clear hbig;go_wp2;go_ret;exact ⟨⟨100000,rfl,by omega,fun h=>absurd h (by decide)⟩,thru HBL.out HWR.out⟩
       ·have hbI:((s:Int) > 20000) = False:=by simp;omega
        have hbJ:(20000 < (s:Int)) = False:=by simp;omega
        have HS2:=Lib.hid (show s≤20000 by omega);clear hbig;have hR:=HROW.out;have q0:wr.cell? ⟨w.heap.size,0,none⟩ = some (.int .i64 k):=cell_below HWR.out (Lib.cell_of_heap hR 0);have q1:wr.cell? ⟨w.heap.size,1,none⟩ = some (.string nm):=cell_below HWR.out (Lib.cell_of_heap hR 1);have q2:wr.cell? ⟨w.heap.size,2,none⟩ = some (.bool g):=cell_below HWR.out (Lib.cell_of_heap hR 2);have q3:wr.cell? ⟨w.heap.size,3,none⟩ = some (.slice x1 az.length d1):=cell_below HWR.out (Lib.cell_of_heap hR 3);have q4:wr.cell? ⟨w.heap.size,4,none⟩ = some (.slice x2 ws.length d2):=cell_below HWR.out (Lib.cell_of_heap hR 4);have q5:wr.cell? ⟨w.heap.size,5,none⟩ = some (.slice x3 ks.len d3):=cell_below HWR.out (Lib.cell_of_heap hR 5);have q6:wr.cell? ⟨w.heap.size,6,none⟩ = some (.slice x4 bs.length d4):=cell_below HWR.out (Lib.cell_of_heap hR 6);have q7:wr.cell? ⟨w.heap.size,7,none⟩ = some (.slice x5 cz.len d5):=cell_below HWR.out (Lib.cell_of_heap hR 7);have hlb:=len_bodies HH.out.okc;have hwn:=within_ref k nm g az ws ks bs cz x1 d1 x2 d2 x3 d3 x4 d4 x5 d5 wr (HH.out.below (thru HBL.out HWR.out)) (by rw [NL.app_len];have:=HI1.out HS2.out;have:=HS2.out;omega);unfold nodeV at hwn;have hLok:NL.okN (ks.app (bodies cz)) true = true:=NL.app_ok HH.out.okk (bodies_okN HH.out.okc);have hLs:(ks.app (bodies cz)).size≤n:=by have h1:=NL.app_size ks (bodies cz);have h2:=bodies_size cz;have h3:=HSZ.out;omega
        have hLt:s + totN (ks.app (bodies cz)) = totX nm az ws ks bs cz:=by
         have h1:=totN_app (bodies cz) HH.out.okk;have h2:=totN_bodies HH.out.okc;have h3:=HI1.out HS2.out;have h4:=HB0.out;have h5:=HB1.out;have h6:=HBB.out;simp only [totX];omega
        generalize ks.app (bodies cz) = L at hwn hLok hLs hLt;have HWN:=Lib.hid hwn;have HLO:=Lib.hid hLok;have HLS:=Lib.hid hLs;have HLT:=Lib.hid hLt;have HWB:=Lib.hid (thru HBL.out HWR.out);clear hwn hLok hLs hLt hlb hR hT5 hs1 HI1;go_wp2_with (go_at_call 18;refine (HWN.out).mono ?_;rintro e w3 ⟨⟨aw,cw,rfl,hnl⟩,hb3⟩);have HNL:=Lib.hid hnl;have HB3:=Lib.hid (thru HWB.out hb3);have hlL:=hnl.le;clear hnl hb3 q0 q1 q2 q3 q4 q5 q6 q7
        go_loopw [5,113] (fun v x wr=>∃ (s' j:Nat),j≤L.len∧v = .int .i64 s'∧x = .int .i64 j∧s'≤20000∧s' + totN (L.drop j) = s + totN L∧Below w3.heap.size w3 wr) (fun v x wr=>L.len - (intOf x).toNat)
        case atStart=>exact ⟨s,0,Nat.zero_le _,rfl,rfl,HS2.out,rfl,Below.refl _ _⟩
        case round =>
         obtain ⟨s',j,hj,rfl,rfl,hs,hi,hbw⟩:=hrel;have HI:=Lib.hid hi;have HWR:=Lib.hid hbw;clear hi hbw
         by_cases hlt:j < L.len
         ·obtain ⟨k1,nm1,g1,az1,ws1,ks1,bs1,cz1,r1,hd1⟩:=NL.drop_node hlt HLO.out;obtain ⟨b1,o1,rfl,hb1,x11,d11,x12,d12,x13,d13,x14,d14,x15,d15,hc1,hh1⟩:=(HNL.out.below HWR.out).getN HLO.out hd1;have c10:wr.cell? ⟨b1,o1 + j * 8,none⟩ = some (.int .i64 k1):=hc1 0 _ rfl;have c11:wr.cell? ⟨b1,o1 + j * 8 + 1,none⟩ = some (.string nm1):=hc1 1 _ rfl;have c12:wr.cell? ⟨b1,o1 + j * 8 + 2,none⟩ = some (.bool g1):=hc1 2 _ rfl;have c13:wr.cell? ⟨b1,o1 + j * 8 + 3,none⟩ = some (.slice x11 az1.length d11):=hc1 3 _ rfl;have c14:wr.cell? ⟨b1,o1 + j * 8 + 4,none⟩ = some (.slice x12 ws1.length d12):=hc1 4 _ rfl;have c15:wr.cell? ⟨b1,o1 + j * 8 + 5,none⟩ = some (.slice x13 ks1.len d13):=hc1 5 _ rfl;have c16:wr.cell? ⟨b1,o1 + j * 8 + 6,none⟩ = some (.slice x14 bs1.length d14):=hc1 6 _ rfl;have c17:wr.cell? ⟨b1,o1 + j * 8 + 7,none⟩ = some (.slice x15 cz1.len d15):=hc1 7 _ rfl;have hsz1:ks1.size + cz1.size < n:=by
           have:=NL.drop_size j L;rw [hd1] at this;simp only [NL.size] at this;have:=HLS.out;omega
          have hnx:=NL.drop_succN hd1;have hi2:=HI.out;rw [hd1] at hi2;simp only [totN] at hi2;have hrw:(wr.alloc (.cells #[.int .i64 k1,.string nm1,.bool g1,.slice x11 az1.length d11,.slice x12 ws1.length d12,.slice x13 ks1.len d13,.slice x14 bs1.length d14,.slice x15 cz1.len d15] 28)).heap[wr.heap.size]? = some (.cells #[.int .i64 k1,.string nm1,.bool g1,.slice x11 az1.length d11,.slice x12 ws1.length d12,.slice x13 ks1.len d13,.slice x14 bs1.length d14,.slice x15 cz1.len d15] 28 (0,0)):=heap_new' _ _;have hbv:=bel1 wr (.cells #[.int .i64 k1,.string nm1,.bool g1,.slice x11 az1.length d11,.slice x12 ws1.length d12,.slice x13 ks1.len d13,.slice x14 bs1.length d14,.slice x15 cz1.len d15] 28);have hd2:=HD.out;have hC:=HWT.out k1 nm1 g1 az1 ws1 ks1 bs1 cz1 x11 d11 x12 d12 x13 d13 x14 d14 x15 d15 (d + 1) (wr.alloc (.cells #[.int .i64 k1,.string nm1,.bool g1,.slice x11 az1.length d11,.slice x12 ws1.length d12,.slice x13 ks1.len d13,.slice x14 bs1.length d14,.slice x15 cz1.len d15] 28)) hsz1 (by omega) (hh1.below hbv);unfold nodeV at hC;have hT:∃ T:Nat,totX nm1 az1 ws1 ks1 bs1 cz1 = T:=⟨_,rfl⟩;obtain ⟨T,hT⟩:=hT;have hi3:s' + T + totN r1 = s + totN L:=by rw [← hT];simp only [totX];omega
          rw [hT] at hC;have u1:IntKind.i64.wrap ((d:Int) + 1) = ((d + 1:Nat):Int):=(wrapW _ (by omega) (by omega)).trans (by push_cast;rfl);have HC:=Lib.hid hC;have HNX:=Lib.hid hnx;have HI3:=Lib.hid hi3;have HBV:=Lib.hid (thru HWR.out hbv);have HRW:=Lib.hid hrw;clear hC hnx hi2 hi3 hbv hrw hd2 hT hh1 hc1 hd1 HI hsz1 HWR;go_wp2_with fail;generalize wr.alloc (.cells #[.int .i64 k1,.string nm1,.bool g1,.slice x11 az1.length d11,.slice x12 ws1.length d12,.slice x13 ks1.len d13,.slice x14 bs1.length d14,.slice x15 cz1.len d15] 28) = V at HC HBV HRW ⊢
          have m0:=zc0 HRW.out;have m1:=zc1 HRW.out;have m2:=zc2 HRW.out;have m3:=zc3 HRW.out;have m4:=zc4 HRW.out;have m5:=zc5 HRW.out;have m6:=zc6 HRW.out;have m7:=zc7 HRW.out;go_wp2_with (go_at_call 7;refine (HC.out).mono ?_);rintro e w4 ⟨⟨v,rfl,hv,hvt⟩,hb4⟩;have u2:IntKind.i64.wrap ((s':Int) + (v:Int)) = ((s' + v:Nat):Int):=(wrapW _ (by omega) (by omega)).trans (by push_cast;rfl);have hi4:s' + v≤20000→s' + v + totN r1 = s + totN L:=fun h=>by have:=hvt (by omega);have:=HI3.out;omega
          have HI4:=Lib.hid hi4;have HB4:=Lib.hid hb4;clear hi4 hvt hb4 m0 m1 m2 m3 m4 m5 m6 m7 c10 c11 c12 c13 c14 c15 c16 c17;generalize s' + v = M2 at u2 HI4
          by_cases hbig:20000 < M2
          ·have hbI:((M2:Int) > 20000) = True:=by simp;omega
           have hbJ:(20000 < (M2:Int)) = True:=by simp;omega
           clear hbig;go_wp2_with fail;go_ret;exact ⟨⟨100000,rfl,by omega,fun h=>absurd h (by decide)⟩,thru HB3.out (thru HBV.out HB4.out)⟩
          ·have hbI:((M2:Int) > 20000) = False:=by simp;omega
           have hbJ:(20000 < (M2:Int)) = False:=by simp;omega
           have HM2:=Lib.hid (show M2≤20000 by omega);clear hbig;go_wp2_with fail;go_roundw
           case rel=>exact ⟨M2,j + 1,by omega,rfl,by go_num,HM2.out,by rw [HNX.out];exact HI4.out HM2.out,thru HBV.out HB4.out⟩
           case measure=>simp [intOf];omega
         ·obtain rfl:j = L.len:=by omega
          have hfin:s' = totX nm az ws ks bs cz:=by
           have h1:=HI.out;rw [NL.drop_end (Nat.le_refl _)] at h1;simp only [totN] at h1;have h2:=HLT.out;omega
          have HF:=Lib.hid hfin;clear hfin HI hlt;go_wp2;go_ret;exact ⟨⟨s',rfl,by omega,fun _=>HF.out⟩,thru HB3.out HWR.out⟩
theorem weight_step (n:Nat) (hW:WAt n):WAt (n + 1):=by
 intro k nm g az ws ks bs cz x1 d1 x2 d2 x3 d3 x4 d4 x5 d5 d w hsz hd h
 by_cases hb:900 < d∨5000 < ks.len + cz.len + ws.length + az.length + bs.length
 ·exact weight_big k nm g az ws ks bs cz x1 d1 x2 d2 x3 d3 x4 d4 x5 d5 d w hd h hb
 ·exact weight_step5 n hW k nm g az ws ks bs cz x1 d1 x2 d2 x3 d3 x4 d4 x5 d5 d w (by omega) (by omega) (by omega) h
theorem weight_at:∀ n,WAt n
 | 0=>fun _ _ _ _ _ _ _ _ _ _ _ _ _ _ _ _ _ _ _ _ h=>absurd h (Nat.not_lt_zero _)
 | n + 1=>weight_step n (weight_at n)
end Tr
end Go.Proofs.YtjmpfihopeohbaaGreatDoor
namespace Go.Proofs.YtjmpfihopeohbaaGreatDoor
open Go.RowKit Go.Sort
namespace Tr
open Cls Pt
theorem size_bytes:∀ l:PL,l.size≤Bd.bytes l
 | .nil=>Nat.le_refl _
 | .cons _ _ t o f r=>by
  have h1:=size_bytes f;have h2:=size_bytes r;simp only [PL.size,Bd.bytes];omega
theorem wOK_bytes {l:PL} (h:Bd.bytes l≤1000000):wOK l:=by
 refine ⟨Nat.le_trans (size_bytes l) h,?_⟩;rintro k q t o f r rfl;simp only [Bd.bytes] at h;omega
theorem wsB_mem {l:PL}:∀ {ws:List PL},l ∈ ws→Bd.bytes l≤wsB ws
 | [],h=>by simp at h
 | x :: r,h=>by
  simp only [wsB];rcases List.mem_cons.1 h with rfl | h
  ·omega
  ·have:=wsB_mem h;omega
theorem wsB_ok {ws:List PL} (h:wsB ws≤1000000):∀ l ∈ ws,wOK l:=fun _ hl=>wOK_bytes (Nat.le_trans (wsB_mem hl) h)
theorem fit_tot:∀ {l:NL},totN l≤1000000→fitN l
 | .nil,_=>trivial
 | .node _ _ _ _ ws ks _ cz r,h=>by
  simp only [totN] at h;exact ⟨wsB_ok (by omega),fit_tot (by omega),fit_tot (by omega),fit_tot (by omega)⟩
 | .cse _ b r,h=>by
  simp only [totN] at h;exact ⟨fit_tot (by omega),fit_tot (by omega)⟩
theorem len_tot:∀ (l:NL),l.len≤totN l
 | .nil=>Nat.le_refl _
 | .node _ _ _ _ ws ks _ cz r=>by
  have h3:=len_tot r;simp only [totN,NL.len];omega
 | .cse _ b r=>by
  have h3:=len_tot r;simp only [totN,NL.len];omega
theorem tot_drop:∀ (n:Nat) (l:NL),totN (l.drop n)≤totN l
 | 0,_=>Nat.le_refl _
 | _ + 1,.nil=>Nat.le_refl _
 | n + 1,.node _ _ _ _ _ _ _ _ r=>by have:=tot_drop n r;simp only [NL.drop,totN];omega
 | n + 1,.cse _ _ r=>by have:=tot_drop n r;simp only [NL.drop,totN];omega
end Tr
end Go.Proofs.YtjmpfihopeohbaaGreatDoor
