/- The reference's Weight, for all parts; what a small one says of them. -/
import Derived.Test.YtjmpfihopeohbaaGreatDoorRfB
set_option maxHeartbeats 4000000
set_option maxRecDepth 100000
namespace Go.Proofs.YtjmpfihopeohbaaGreatDoor
open Go.RowKit Go.Sort
namespace Pt
open Cls Bd
def wGo:PL→Nat→Nat→Nat
 | .nil,_,n=>n
 | .cons _ _ t o f r,d,n =>
  if 10000 < n + (1 + t.size + o.size + (if 250 < d + 1∨10000 < f.len then 100000 else wGo f (d + 1) 0)) then 100000
  else wGo r d (n + (1 + t.size + o.size + (if 250 < d + 1∨10000 < f.len then 100000 else wGo f (d + 1) 0)))
def weight (l:PL) (d:Nat):Nat:=if 250 < d∨10000 < l.len then 100000 else wGo l d 0
theorem wGo_cons (k:Int) (q:Bool) (t o:ByteArray) (f r:PL) (d n:Nat) :
  wGo (.cons k q t o f r) d n = if 10000 < n + (1 + t.size + o.size + weight f (d + 1)) then 100000 else wGo r d (n + (1 + t.size + o.size + weight f (d + 1))):=rfl
theorem wGo_le:∀ (l:PL) (d n:Nat),n≤10000→wGo l d n≤100000
 | .nil,_,n,h=>by simp only [wGo];omega
 | .cons k q t o f r,d,n,h=>by
  rw [wGo_cons];split
  ·exact Nat.le_refl _
  ·exact wGo_le r d _ (by omega)
theorem weight_le (l:PL) (d:Nat):weight l d≤100000:=by
 unfold weight;split
 ·exact Nat.le_refl _
 ·exact wGo_le l d 0 (by omega)
theorem wGo_bytes:∀ (l:PL) (d n:Nat),wGo l d n≤10000→wGo l d n = n + Bd.bytes l
 | .nil,_,n,h=>by simp [wGo,Bd.bytes]
 | .cons k q t o f r,d,n,h=>by
  rw [wGo_cons] at h ⊢
  split at h
  ·omega
  ·rename_i hc;rw [if_neg hc];have h1:=wGo_bytes r d _ h;have hw:weight f (d + 1)≤10000:=by omega
   have h2:weight f (d + 1) = Bd.bytes f:=by
    unfold weight at hw ⊢
    split at hw
    ·omega
    ·rename_i hc2;rw [if_neg hc2];have:=wGo_bytes f (d + 1) 0 hw;omega
   rw [h1,h2];simp only [Bd.bytes];omega
theorem weight_bytes {l:PL} {d:Nat} (h:weight l d≤10000):Bd.bytes l = weight l d:=by
 unfold weight at h ⊢
 split at h
 ·omega
 ·rename_i hc;rw [if_neg hc];have:=wGo_bytes l d 0 h;omega
theorem wrapW (x:Int) (h1:0≤x) (h2:x≤4611686018427387904):IntKind.i64.wrap x = x:=(wrapEq _).trans (IntWalk.wrap64_in _ ⟨by omega,by omega⟩)
theorem weight_step (l:PL) (a:Option Addr) (cap d:Nat) (w:World) (hd:d≤1000) (hl:Lies w a cap l)
  (hS:∀ (f:PL) (a:Option Addr) (cap:Nat) (w:World),f.size < l.size→d≤250→Lies w a cap f→Calls Tryz.prog 17 #[.slice a f.len cap,.int .i64 ((d:Int) + 1)] w fun e w'=>e = .returned (.int .i64 (weight f (d + 1)))∧Below w.heap.size w w') :
  Calls Tryz.prog 17 #[.slice a l.len cap,.int .i64 d] w fun e w'=>e = .returned (.int .i64 (weight l d))∧Below w.heap.size w w':=by
 have HL:=Lib.hid hl;have HS:=Lib.hid hS;clear hl hS;have hle:=HL.out.le
 by_cases h1:250 < d
 ·have hdI:((d:Int) > 250) = True:=by simp;omega
  have hdJ:(250 < (d:Int)) = True:=by simp;omega
  have HW:=Lib.hid (show weight l d = 100000 by simp [weight,h1]);clear h1;go_enter Tryz.func17,Tryz.ntmps17;go_wp2;go_ret;exact ⟨by rw [HW.out];rfl,Below.refl _ _⟩
 ·by_cases h2:10000 < l.len
  ·have hdI:((d:Int) > 250) = False:=by simp;omega
   have hdJ:(250 < (d:Int)) = False:=by simp;omega
   have hlI:((l.len:Int) > 10000) = True:=by simp;omega
   have hlJ:(10000 < (l.len:Int)) = True:=by simp;omega
   have HW:=Lib.hid (show weight l d = 100000 by simp [weight,h2]);clear h1 h2;go_enter Tryz.func17,Tryz.ntmps17;go_wp2;go_ret;exact ⟨by rw [HW.out];rfl,Below.refl _ _⟩
  ·have hdI:((d:Int) > 250) = False:=by simp;omega
   have hdJ:(250 < (d:Int)) = False:=by simp;omega
   have hlI:((l.len:Int) > 10000) = False:=by simp;omega
   have hlJ:(10000 < (l.len:Int)) = False:=by simp;omega
   have HW:=Lib.hid (show weight l d = wGo l d 0 by simp [weight,h1,h2]);have HD:=Lib.hid (show d≤250 by omega);clear h1 h2;go_enter Tryz.func17,Tryz.ntmps17;go_wp2
   go_loopw [5,17] (fun s i wr=>∃ n j:Nat,j≤l.len∧s = .int .i64 n∧i = .int .i64 j∧n≤10000∧wGo l d 0 = wGo (l.drop j) d n∧Below w.heap.size w wr) (fun _ i wr=>l.len - (intOf i).toNat)
   case atStart=>exact ⟨0,0,Nat.zero_le _,rfl,rfl,by omega,rfl,Below.refl _ _⟩
   case round =>
    obtain ⟨n,j,hj,rfl,rfl,hn,hr,hbw⟩:=hrel;have HR:=Lib.hid hr;have HB:=Lib.hid hbw;clear hr hbw
    by_cases hlt:j < l.len
    ·obtain ⟨k,q,t,o,f,r,hdr⟩:=PL.drop_at hlt;obtain ⟨b1,p1,rfl,hb1,c10,c11,c12,c13,ht,ho,a1,ca1,c14,hl1⟩:=(HL.out.below HB.out).get hdr;have ht':t.size≤140737488351232:=ht;have ho':o.size≤140737488351232:=ho;have hszf:f.size < l.size:=by
      have:=PL.drop_size j l;rw [hdr] at this;simp only [PL.size] at this;omega
     have hwl:=weight_le f (d + 1)
     have HT:=Lib.hid (show wGo l d 0 = if 10000 < n + (1 + t.size + o.size + weight f (d + 1)) then 100000 else wGo (l.drop (j + 1)) d (n + (1 + t.size + o.size + weight f (d + 1))) by
      rw [HR.out,PL.drop_succ hdr,hdr,wGo_cons])
     have HP:=Lib.hid (fun dd os=>Calls.regrown_of (HS.out f a1 ca1 (grow (redrawn (wr.alloc (.cells #[.int .i64 k,.bool q,.string t,.string o,.slice a1 f.len ca1] 75)) dd) os) hszf HD.out (hl1.below (thru (bel1 wr _) (below_regrown _ dd os)))));have HBX:=Lib.hid (show Box (wr.alloc (.cells #[.int .i64 k,.bool q,.string t,.string o,.slice a1 f.len ca1] 75)) wr.heap.size k q t o a1 f.len ca1 from heap_alloc_new wr _);have HBL:=Lib.hid (fun dq osq=>thru HB.out (thru (bel1 wr (.cells #[.int .i64 k,.bool q,.string t,.string o,.slice a1 f.len ca1] 75)) (below_regrown _ dq osq)));have w1:IntKind.i64.wrap (1 + (t.size:Int)) = 1 + (t.size:Int):=wrapW _ (by omega) (by omega);have w2:IntKind.i64.wrap (1 + (t.size:Int) + (o.size:Int)) = 1 + (t.size:Int) + (o.size:Int):=wrapW _ (by omega) (by omega);have w3:IntKind.i64.wrap ((d:Int) + 1) = (d:Int) + 1:=wrapW _ (by omega) (by omega);have w4:IntKind.i64.wrap (1 + (t.size:Int) + (o.size:Int) + (weight f (d + 1):Int)) = 1 + (t.size:Int) + (o.size:Int) + (weight f (d + 1):Int):=wrapW _ (by omega) (by omega);have w5:IntKind.i64.wrap ((n:Int) + (1 + (t.size:Int) + (o.size:Int) + (weight f (d + 1):Int))) = ((n + (1 + t.size + o.size + weight f (d + 1)):Nat):Int):=(wrapW _ (by omega) (by omega)).trans (by push_cast;rfl);clear hl1 hdr;generalize weight f (d + 1) = W at HP HT w4 w5 hwl ⊢
     generalize hm:n + (1 + t.size + o.size + W) = M at HT w5 ⊢
     have HMM:=Lib.hid hm;clear hm hwl;go_wp2;generalize wr.alloc (.cells #[.int .i64 k,.bool q,.string t,.string o,.slice a1 f.len ca1] 75) = wA at HP HBX HBL ⊢
     have r2:=cell_regrown (show wA.cell? ⟨wr.heap.size,2,none⟩ = some (.string t) from HBX.out.cell 2);have r3:=cell_regrown (show wA.cell? ⟨wr.heap.size,3,none⟩ = some (.string o) from HBX.out.cell 3);have r4:=cell_regrown (show wA.cell? ⟨wr.heap.size,4,none⟩ = some (.slice a1 f.len ca1) from HBX.out.cell 4);refine Qu.region (by kernel_rfl) (by kernel_rfl) ?_
     repeat (first
      | (first | refine Qu.carry0 rfl (fun K hK=>?_) | refine Qu.carryG rfl rfl rfl (fun K hK=>?_)
         go_simp
         first
         | (refine hK _ ?_;clear hK K)
         | (apply Exists.intro;refine ⟨fun _=>?_,hK _ ?_⟩;exact HP.out _ _;clear hK K))
      | (refine Qu.passG rfl rfl rfl (fun K hK=>?_);go_simp;refine hK _ ?_;clear hK K))
     refine Qu.fin ?_;rintro ⟨dq,osq⟩
     by_cases hbig:10000 < M
     ·have hbI:((M:Int) > 10000) = True:=by simp;omega
      have hbJ:(10000 < (M:Int)) = True:=by simp;omega
      have HG:=Lib.hid hbig;clear hbig;go_wp2;go_ret;exact ⟨by rw [HW.out,HT.out,if_pos HG.out];rfl,HBL.out dq osq⟩
     ·have hbI:((M:Int) > 10000) = False:=by simp;omega
      have hbJ:(10000 < (M:Int)) = False:=by simp;omega
      have HG:=Lib.hid hbig;clear hbig;go_wp2;go_roundw
      case rel=>exact ⟨M,j + 1,by omega,rfl,by go_num,by have:=HG.out;omega,by rw [HT.out,if_neg HG.out],HBL.out dq osq⟩
      case measure=>simp [intOf];omega
    ·obtain rfl:j = l.len:=by omega
     go_wp2;go_ret;exact ⟨by rw [HW.out,HR.out,PL.drop_end (Nat.le_refl _)];rfl,HB.out⟩
theorem weight_any (n:Nat):∀ (l:PL) (a:Option Addr) (cap d:Nat) (w:World),l.size < n→d≤1000→Lies w a cap l →
  Calls Tryz.prog 17 #[.slice a l.len cap,.int .i64 d] w fun e w'=>e = .returned (.int .i64 (weight l d))∧Below w.heap.size w w':=by
 induction n with
 | zero=>intro _ _ _ _ _ h;omega
 | succ n ih =>
  intro l a cap d w hn hd hl;refine weight_step l a cap d w hd hl (fun f a cap w hf hd h=>?_);have:=ih f a cap (d + 1) w (by omega) (by omega) h;simpa only [Int.natCast_add,Int.natCast_one] using this
end Pt
end Go.Proofs.YtjmpfihopeohbaaGreatDoor
namespace Go.Proofs.YtjmpfihopeohbaaGreatDoor
open Go.RowKit Go.Sort
namespace Rf
open Cls Pt Bd
theorem push_all:∀ (l:List UInt8) (s:ByteArray),(l.map fun b=>((b.toNat:Nat):Int)).foldl (fun r n=>r.push (UInt8.ofNat n.toNat)) s = ⟨s.data ++ l.toArray⟩
 | [],s=>by simp
 | c :: l,s=>by
  simp only [List.map_cons,List.foldl_cons];rw [push_all l];simp [ByteArray.push]
theorem run_string_own {w:World} {B:Nat} {l:List UInt8} {v:Value} (h:w.ownsRow B 5 1 v (Lib.byteCells l).length (Lib.byteCells l)) (h0:l ≠ []) :
  (convert 47 9 v).run Tryz.prog w = .ok (.string ⟨l.toArray⟩) w:=by
 obtain ⟨g,cap,rfl⟩:∃ g cap,v = .slice (some ⟨g,0,none⟩) (Lib.byteCells l).length cap:=by
  rcases h.2 with ⟨_,hz⟩ | ⟨g,cap,cur,hv,_⟩
  ·rw [Lib.byteCells_length] at hz;exact absurd (List.length_eq_zero_iff.1 hz) h0
  ·exact ⟨g,cap,hv⟩
 rw [run_convert_bytes_string w _ _ 5 _ _ _ Tryz.underlying47 Tryz.underlying5 Tryz.underlying9]
 rw [run_bytesToString w ⟨g,0,none⟩ _ cap (l.map fun b=>((b.toNat:Nat):Int)) (by
  have:=run_loadCells_list (P:=Tryz.prog) (w:=w) ⟨g,0,none⟩ (Lib.byteCells l) (fun j x hj=>by
   have:=h.cells (g:=g) rfl j x hj
   simpa [Addr.add] using this)
  rw [this]
  simp [Lib.byteCells,List.map_map,Function.comp_def])]
 rw [push_all];simp
theorem rquote_any (s:ByteArray) (w:World) (hs:s.size≤100000) :
  Calls Tryz.prog 136 #[.string s] w fun e w'=>e = .returned (.string ⟨(quoteL s.data.toList).toArray⟩)∧Below w.heap.size w w':=by
 obtain ⟨i0,hi,hz0,hz1,hz2⟩:=info_parts infoByte;have HN:=Lib.hid (lenB s);go_enter Tryz.func136,Tryz.ntmps136;go_wp2
 go_loopw [3,4] (fun v i wr=>∃ k:Nat,k≤s.size∧i = .int .i64 k∧wr.ownsRow w.heap.size 5 1 v (Lib.byteCells (39 :: marksL (s.data.toList.take k))).length (Lib.byteCells (39 :: marksL (s.data.toList.take k)))∧Below w.heap.size w wr) (fun _ i wr=>s.size - (intOf i).toNat)
 case atStart =>
  exact ⟨0,Nat.zero_le _,rfl,⟨rfl,.inr ⟨w.heap.size,1,#[.int .u8 39],rfl,Nat.le_refl _,heap_alloc_new w _,Nat.le_refl _,by unfold maxLen;omega,rfl,rfl⟩⟩,bel1 _ _⟩
 case round =>
  obtain ⟨k,hk,rfl,hown,hb⟩:=hrel;have hml:=marks_len (s.data.toList.take k);have htk:(s.data.toList.take k).length≤s.size:=by rw [List.length_take,lenB];omega
  have hbl:=Lib.byteCells_length (39 :: marksL (s.data.toList.take k));rw [List.length_cons] at hbl;have hlen:(Lib.byteCells (39 :: marksL (s.data.toList.take k))).length≤500000:=by omega
  generalize hL:(39 :: marksL (s.data.toList.take k)) = L at hown hlen;have HL:=Lib.hid hL;clear hml htk hbl hL
  by_cases hlt:k < s.size
  ·have hlt':k < s.data.toList.length:=by simpa using hlt
   have HG:=Lib.hid (getB hlt);cases hc:((s[k].toNat:Int) == 39)
   ·have HC:=Lib.hid (show (s[k] == 39) = false by
     cases h:(s[k] == 39)
     ·rfl
     ·rw [beq_iff_eq.1 h] at hc;simp at hc)
    go_wp2_with (at_builtin;refine wpList_append_own _ rfl _ _ 47 rfl w.heap.size 5 i0 (.int .u8 0) 1 1 Tryz.underlying47 hi hz0 hz1 hz2 rfl (by decide) _ _ _ rfl (hown.alloc _) ⟨wr.heap.size,0,none⟩ 1 1 [.int .u8 s[k].toNat] rfl rfl ?c1 ?c2 ?c3 ?c4 ?c5 ?_)
    case c1 =>
     intro j u hj
     match j,hj with
     | 0,hj=>simp at hj;subst hj;simp [Addr.add]
    case c2=>intro u hu;simp at hu;subst hu;rfl
    case c3=>unfold maxLen;omega
    case c4=>omega
    case c5=>have:=hb.size;simp;omega
    intro v' w1 hown' hgrow _;have HO:=Lib.hid hown';have HB1:=Lib.hid ((hb.alloc (by have:=hb.size;omega) (.cells #[.int .u8 s[k].toNat] 5)).grown hgrow (by have:=hb.size;simp;omega) (fun k hk=>(hown.lt k hk).1));clear hown' hgrow;go_wp2;go_roundw
    case rel =>
     refine ⟨k + 1,by omega,by go_num,?_,HB1.out⟩;have h1:(39 :: marksL (s.data.toList.take (k + 1))) = L ++ [s[k]]:=by
      rw [List.take_succ_eq_append_getElem hlt',← HL.out];have h2:s.data.toList[k] = s[k]:=by have:=HG.out;simp only [List.getD,List.getElem?_eq_getElem hlt',Option.getD_some] at this;exact this.symm
      simp only [marksL,List.flatMap_append,List.flatMap_cons,List.flatMap_nil,h2,HC.out];simp
     rw [h1];have:=HO.out;rw [Lib.byteCells_append,List.length_append];exact this
    case measure=>simp [intOf];omega
   ·have hcs:s[k] = 39:=by
     have h1:s[k].toNat = 39:=by have:=beq_iff_eq.1 hc;omega
     exact UInt8.toNat_inj.1 h1
    have HC:=Lib.hid hcs;clear hcs;go_wp2_with (at_builtin;refine wpList_append_own _ rfl _ _ 47 rfl w.heap.size 5 i0 (.int .u8 0) 1 1 Tryz.underlying47 hi hz0 hz1 hz2 rfl (by decide) _ _ _ rfl (hown.alloc _) ⟨wr.heap.size,0,none⟩ 1 1 [.int .u8 s[k].toNat] rfl rfl ?c1 ?c2 ?c3 ?c4 ?c5 ?_)
    case c1 =>
     intro j u hj
     match j,hj with
     | 0,hj=>simp at hj;subst hj;simp [Addr.add]
    case c2=>intro u hu;simp at hu;subst hu;rfl
    case c3=>unfold maxLen;omega
    case c4=>omega
    case c5=>have:=hb.size;simp;omega
    intro v' w1 hown' hgrow _;have hb1:=(hb.alloc (by have:=hb.size;omega) (.cells #[.int .u8 s[k].toNat] 5)).grown hgrow (by have:=hb.size;simp;omega) (fun k hk=>(hown.lt k hk).1);have hown2:w1.ownsRow w.heap.size 5 1 v' (Lib.byteCells (L ++ [s[k]])).length (Lib.byteCells (L ++ [s[k]])):=by
     rw [Lib.byteCells_append,List.length_append];exact hown'
    have hlen2:(Lib.byteCells (L ++ [s[k]])).length≤500001:=by rw [Lib.byteCells_append,List.length_append];simp [Lib.byteCells] at hlen ⊢;omega
    generalize hL2:L ++ [s[k]] = L2 at hown2 hlen2;have HL2:=Lib.hid hL2;clear hown' hgrow hown hL2;go_wp2_with (at_builtin;refine wpList_append_own _ rfl _ _ 47 rfl w.heap.size 5 i0 (.int .u8 0) 1 1 Tryz.underlying47 hi hz0 hz1 hz2 rfl (by decide) _ _ _ rfl (hown2.alloc _) ⟨w1.heap.size,0,none⟩ 3 3 [.int .u8 92,.int .u8 39,.int .u8 39] rfl rfl ?c1 ?c2 ?c3 ?c4 ?c5 ?_)
    case c1 =>
     intro j u hj
     match j,hj with
     | 0,hj=>simp at hj;subst hj;simp [Addr.add]
     | 1,hj=>simp at hj;subst hj;simp [Addr.add]
     | 2,hj=>simp at hj;subst hj;simp [Addr.add]
    case c2=>intro u hu;simp at hu;rcases hu with rfl | rfl <;> rfl
    case c3=>unfold maxLen;omega
    case c4=>omega
    case c5=>have:=hb1.size;simp;omega
    intro v2 w2 hown3 hgrow _;have HO:=Lib.hid hown3;have HB1:=Lib.hid ((hb1.alloc (by have:=hb1.size;omega) (.cells #[.int .u8 92,.int .u8 39,.int .u8 39] 5)).grown hgrow (by have:=hb1.size;simp;omega) (fun k hk=>(hown2.lt k hk).1));clear hown3 hgrow;go_wp2;go_roundw
    case rel =>
     refine ⟨k + 1,by omega,by go_num,?_,HB1.out⟩;have h1:(39 :: marksL (s.data.toList.take (k + 1))) = L2 ++ [92,39,39]:=by
      rw [List.take_succ_eq_append_getElem hlt',← HL2.out,← HL.out];have h2:s.data.toList[k] = s[k]:=by have:=HG.out;simp only [List.getD,List.getElem?_eq_getElem hlt',Option.getD_some] at this;exact this.symm
      simp only [marksL,List.flatMap_append,List.flatMap_cons,List.flatMap_nil,h2,HC.out];simp
     rw [h1];have:=HO.out;rw [Lib.byteCells_append,List.length_append];exact this
    case measure=>simp [intOf];omega
  ·obtain rfl:k = s.size:=by omega
   go_wp2_with (at_builtin;refine wpList_append_own _ rfl _ _ 47 rfl w.heap.size 5 i0 (.int .u8 0) 1 1 Tryz.underlying47 hi hz0 hz1 hz2 rfl (by decide) _ _ _ rfl (hown.alloc _) ⟨wr.heap.size,0,none⟩ 1 1 [.int .u8 39] rfl rfl ?c1 ?c2 ?c3 ?c4 ?c5 ?_)
   case c1 =>
    intro j u hj
    match j,hj with
    | 0,hj=>simp at hj;subst hj;simp [Addr.add]
   case c2=>intro u hu;simp at hu;subst hu;rfl
   case c3=>unfold maxLen;omega
   case c4=>omega
   case c5=>have:=hb.size;simp;omega
   intro v' w1 hown' hgrow _;have HB1:=Lib.hid ((hb.alloc (by have:=hb.size;omega) (.cells #[.int .u8 39] 5)).grown hgrow (by have:=hb.size;simp;omega) (fun k hk=>(hown.lt k hk).1));have hq:quoteL s.data.toList = L ++ [39]:=by rw [← HL.out,List.take_of_length_le (by rw [HN.out];exact Nat.le_refl _)];rfl
   have hcv:=run_string_own (w:=w1) (B:=w.heap.size) (l:=L ++ [39]) (v:=v') (by rw [Lib.byteCells_append,List.length_append];exact hown') (by simp);have HQ:=Lib.hid hq;clear hown' hgrow hq;go_wp2;go_ret;exact ⟨by rw [HQ.out];rfl,HB1.out⟩
end Rf
end Go.Proofs.YtjmpfihopeohbaaGreatDoor
namespace Go.Proofs.YtjmpfihopeohbaaGreatDoor
open Go.RowKit Go.Sort
namespace Rf
open Cls Pt Bd
def escs:List UInt8:=[34,36,92,96,125]
theorem escs0:∀ n:Fin 256,amongB n escs = escB n:=by decide +kernel
theorem escs_any (n:Nat) (h:n < 256):amongB n escs = escB n:=escs0 ⟨n,h⟩
theorem size_list (s:ByteArray):s.size = s.data.toList.length:=(lenB s).symm
theorem app_list (a b:ByteArray):(a ++ b).data.toList = a.data.toList ++ b.data.toList:=by simp
theorem of_list {s:ByteArray} {l:List UInt8} (h:s.data.toList = l):s = ⟨l.toArray⟩:=by
 subst h;rfl
theorem written_step (l:PL) (a:Option Addr) (cap at':Nat) (w:World) (ha:at'≤2) (hl:Lies w a cap l) (hsz:Bd.bytes l≤100000)
  (hS:∀ (f:PL) (a:Option Addr) (cap:Nat) (q:Bool) (w:World),f.size < l.size→Bd.bytes f≤Bd.bytes l→Lies w a cap f→Calls Tryz.prog 106 #[.slice a f.len cap,.int .i64 (wth q)] w fun e w'=>e = .returned (.string ⟨(textL f (wth q)).toArray⟩)∧Below w.heap.size w w') :
  Calls Tryz.prog 106 #[.slice a l.len cap,.int .i64 at'] w fun e w'=>e = .returned (.string ⟨(textL l at').toArray⟩)∧Below w.heap.size w w':=by
 have HL:=Lib.hid hl;have HS:=Lib.hid hS;have HSZ:=Lib.hid hsz;have HTL:=Lib.hid (text_len l at');clear hl hS hsz;have hle:=HL.out.le;go_enter Tryz.func106,Tryz.ntmps106;go_wp2
 go_loopw [5,13] (fun s i wr=>∃ (n:Nat) (S:ByteArray),n≤l.len∧s = .string S∧i = .int .i64 n∧textL l at' = S.data.toList ++ textL (l.drop n) at'∧Below w.heap.size w wr) (fun _ i wr=>l.len - (intOf i).toNat)
 case atStart=>exact ⟨0,⟨#[]⟩,Nat.zero_le _,rfl,rfl,rfl,Below.refl _ _⟩
 case round =>
  obtain ⟨n,S,hn,rfl,rfl,htx,hb⟩:=hrel;have HT:=Lib.hid htx;have HB:=Lib.hid hb;have hSs:S.size≤500000:=by
   have h1:=HTL.out;have h2:=HSZ.out;rw [htx,List.length_append,lenB] at h1;omega
  clear htx hb
  by_cases hlt:n < l.len
  ·obtain ⟨k,q,t,o,f,r,hdr⟩:=PL.drop_at hlt;obtain ⟨b1,p1,rfl,hb1,c10,c11,c12,c13,ht,ho,a1,ca1,c14,hl1⟩:=(HL.out.below HB.out).get hdr;have hszf:f.size < l.size:=by
    have:=PL.drop_size n l;rw [hdr] at this;simp only [PL.size] at this;omega
   have hby:=bytes_drop hdr;have hble:=bytes_drop_le n l;have hz:=HSZ.out;have hts:t.size≤100000:=by omega
   have hos:o.size≤100000:=by omega
   have HFB:=Lib.hid (show Bd.bytes f≤Bd.bytes l by omega);have hfl:=text_len f (wth q);have hfs:(textL f (wth q)).length≤500000:=by omega
   have HN:=Lib.hid (show textL l at' = (S.data.toList ++ partT k q t o f at') ++ textL (l.drop (n + 1)) at' by
    rw [HT.out,PL.drop_succ hdr,hdr,textL_cons,List.append_assoc])
   have HLF:=Lib.hid hl1;clear ht ho hby hble hz hfl hdr hl1;cases hk2:(k == 2)
   ·cases h2:((at':Int) == 2)
    ·have HNE:=Lib.hid (show (at' == 2) = false by rw [← natI2];exact h2);cases q
     ·have HE:=Lib.hid (show partT k false t o f at' = t.data.toList by simp [partT,hk2,HNE.out]);have n1:¬ 9223372036854775807 < S.size + t.size:=by omega
      go_wp2;go_roundw
      case rel=>exact ⟨n + 1,S ++ t,by omega,rfl,by go_num,by rw [app_list,HN.out,HE.out],thru HB.out (bel1 _ _)⟩
      case measure=>simp [intOf];omega
     ·have HE:=Lib.hid (show partT k true t o f at' = quoteL t.data.toList by simp [partT,hk2,HNE.out]);have HQ:=Lib.hid (fun w1=>rquote_any t w1 hts);have hql:=quote_len t.data.toList;rw [lenB] at hql;have hqz:ByteArray.size ⟨(quoteL t.data.toList).toArray⟩ = (quoteL t.data.toList).length:=by simp [ByteArray.size]
      have n1:¬ 9223372036854775807 < S.size + (quoteL t.data.toList).length:=by omega
      have n2:¬ 9223372036854775807 < S.size + ByteArray.size ⟨(quoteL t.data.toList).toArray⟩:=by omega
      clear hql;generalize hQ:quoteL t.data.toList = QL at HQ HE n1 n2 hqz;clear hQ;go_wp2_with (go_at_call 136;refine (HQ.out _).mono ?_;rintro e w2 ⟨rfl,hb2⟩);go_roundw
      case rel=>exact ⟨n + 1,S ++ ⟨QL.toArray⟩,by omega,rfl,by go_num,by rw [app_list,HN.out,HE.out],thru HB.out (thru (bel1 _ _) hb2)⟩
      case measure=>simp [intOf];omega
    ·have HNE:=Lib.hid (show (at' == 2) = true by rw [← natI2];exact h2);have HE:=Lib.hid (show partT k q t o f at' = escL t.data.toList by simp [partT,hk2,HNE.out]);have HTL2:=Lib.hid (lenB t);go_wp2
     go_loopw [5,10] (fun s i w2=>∃ (j:Nat) (S2:ByteArray),j≤t.size∧s = .string S2∧i = .int .i64 j∧S2.data.toList = S.data.toList ++ escL (t.data.toList.take j)∧w2 = wr.alloc (.cells #[.int .i64 k,.bool q,.string t,.string o,.slice a1 f.len ca1] 75)) (fun _ i w2=>t.size - (intOf i).toNat)
     case atStart=>exact ⟨0,S,Nat.zero_le _,rfl,rfl,by simp [escL],rfl⟩
     case round =>
      obtain ⟨j,S2,hj,rfl,rfl,hs2,rfl⟩:=hrel;have hl2:S2.size≤700000:=by
       have h1:=escL_take_len t.data.toList j;rw [size_list S2,hs2,List.length_append,lenB];rw [lenB] at h1;omega
      have H2:=Lib.hid hs2;clear hs2
      by_cases hjt:j < t.size
      ·have hjt':j < t.data.toList.length:=by simpa using hjt
       have HG:=Lib.hid (getB hjt);have hbt:=byte_lt t[j];have hA:=fun w1=>among3_any t[j].toNat ⟨#[34,36,92,96,125]⟩ w1 (by decide);rw [show (ByteArray.data ⟨#[34,36,92,96,125]⟩).toList = escs from rfl,escs_any _ hbt] at hA;have hxt:(t.extract j (j + 1)).data.toList = [t[j]]:=by
        have h1:(t.extract j (j + 1)).data.toList = (t.data.toList.drop j).take 1:=by simp [ByteArray.data_extract]
        have h2:t.data.toList[j] = t[j]:=by have:=HG.out;simp only [List.getD,List.getElem?_eq_getElem hjt',Option.getD_some] at this;exact this.symm
        rw [h1,List.drop_eq_getElem_cons hjt',List.take_succ_cons,List.take_zero,h2]
       have hxs:(t.extract j (j + 1)).size = 1:=by rw [size_list,hxt];rfl
       have HXT:=Lib.hid hxt;clear hxt;cases he:escB t[j].toNat
       all_goals
        rw [he] at hA;have HA:=Lib.hid hA;have HE2:=Lib.hid he;clear hA he
       ·have n1:¬ 9223372036854775807 < S2.size + 1:=by omega
        go_wp2_with (go_at_call 135;refine (HA.out _).mono ?_;rintro e w' ⟨rfl,rfl⟩);go_roundw
        case rel=>exact ⟨j + 1,S2 ++ t.extract j (j + 1),by omega,rfl,by go_num,by rw [app_list,H2.out,HXT.out,escL_snoc hjt',← HG.out,HE2.out];simp,trivial⟩
        case measure=>simp [intOf];omega
       ·have n1:¬ 9223372036854775807 < S2.size + 1:=by omega
        have n2:¬ 9223372036854775807 < S2.size + 1 + 1:=by omega
        go_wp2_with (go_at_call 135;refine (HA.out _).mono ?_;rintro e w' ⟨rfl,rfl⟩);go_roundw
        case rel=>exact ⟨j + 1,S2 ++ ⟨#[92]⟩ ++ t.extract j (j + 1),by omega,rfl,by go_num,by rw [app_list,app_list,H2.out,HXT.out,escL_snoc hjt',← HG.out,HE2.out];simp,trivial⟩
        case measure=>simp [intOf];omega
      ·obtain rfl:j = t.size:=by omega
       go_wp2;go_roundw
       case rel=>exact ⟨n + 1,S2,by omega,rfl,by go_num,by rw [HN.out,HE.out,H2.out,List.take_of_length_le (by rw [HTL2.out];exact Nat.le_refl _)],thru HB.out (bel1 _ _)⟩
       case measure=>simp [intOf];omega
   ·have hk:k = 2:=by simpa using hk2
    subst hk;have HFL:=Lib.hid (fun dd os=>Calls.regrown_of (HS.out f a1 ca1 q (grow (redrawn (wr.alloc (.cells #[.int .i64 2,.bool q,.string t,.string o,.slice a1 f.len ca1] 75)) dd) os) hszf HFB.out (HLF.out.below (thru (bel1 wr _) (below_regrown _ dd os)))));have HBX:=Lib.hid (show Box (wr.alloc (.cells #[.int .i64 2,.bool q,.string t,.string o,.slice a1 f.len ca1] 75)) wr.heap.size 2 q t o a1 f.len ca1 from heap_alloc_new wr _);have HBL:=Lib.hid (fun dq osq=>thru HB.out (thru (bel1 wr (.cells #[.int .i64 2,.bool q,.string t,.string o,.slice a1 f.len ca1] 75)) (below_regrown _ dq osq)));have HPT:=Lib.hid (show partT 2 q t o f at' = paramT q t o f at' from rfl);have n1:¬ 9223372036854775807 < 2 + t.size:=by omega
    have n2:¬ 9223372036854775807 < 2 + t.size + o.size:=by omega
    have HTF:=Lib.hid (rfl:textL f (wth q) = textL f (wth q));clear HLF hk2;generalize hF:textL f (wth q) = FL at HFL hfs HTF;have HFF:=Lib.hid hF;clear hF HTF;have n3:¬ 9223372036854775807 < 2 + t.size + o.size + FL.length:=by omega
    have n4:¬ 9223372036854775807 < 2 + t.size + o.size + FL.length + 1:=by omega
    have n5:¬ 9223372036854775807 < S.size + (2 + t.size + o.size + FL.length + 1):=by omega
    have n6:¬ 9223372036854775807 < 1 + (2 + t.size + o.size + FL.length + 1):=by omega
    have n7:¬ 9223372036854775807 < 1 + (2 + t.size + o.size + FL.length + 1) + 1:=by omega
    have n8:¬ 9223372036854775807 < S.size + (1 + (2 + t.size + o.size + FL.length + 1) + 1):=by omega
    cases h2:((at':Int) == 2) <;> cases q
    ·have HNE:=Lib.hid (show (at' == 2) = false by rw [← natI2];exact h2);go_wp2;generalize wr.alloc (.cells #[.int .i64 2,.bool false,.string t,.string o,.slice a1 f.len ca1] 75) = wA at HFL HBX HBL ⊢
     have r2:=cell_regrown (show wA.cell? ⟨wr.heap.size,2,none⟩ = some (.string t) from HBX.out.cell 2);have r3:=cell_regrown (show wA.cell? ⟨wr.heap.size,3,none⟩ = some (.string o) from HBX.out.cell 3);have r4:=cell_regrown (show wA.cell? ⟨wr.heap.size,4,none⟩ = some (.slice a1 f.len ca1) from HBX.out.cell 4);have r1:=cell_regrown (show wA.cell? ⟨wr.heap.size,1,none⟩ = some (.bool false) from HBX.out.cell 1);refine Qu.region (by kernel_rfl) (by kernel_rfl) ?_
     repeat (first
      | (first | refine Qu.carry0 rfl (fun K hK=>?_) | refine Qu.carryG rfl rfl rfl (fun K hK=>?_)
         go_simp
         first
         | (refine hK _ ?_;clear hK K)
         | (apply Exists.intro;refine ⟨fun _=>?_,hK _ ?_⟩;exact HFL.out _ _;clear hK K))
      | (refine Qu.passG rfl rfl rfl (fun K hK=>?_);go_simp;refine hK _ ?_;clear hK K))
     refine Qu.fin ?_;rintro ⟨dq,osq⟩;have s1:=r1 dq osq;go_wp2;go_roundw
     case rel=>exact ⟨n + 1,S ++ (⟨#[36,123]⟩ ++ t ++ o ++ ⟨FL.toArray⟩ ++ ⟨#[125]⟩),by omega,rfl,by go_num,by rw [HN.out,HPT.out];simp [paramT,HNE.out,HFF.out],HBL.out dq osq⟩
     case measure=>simp [intOf];omega
    ·have HNE:=Lib.hid (show (at' == 2) = false by rw [← natI2];exact h2);go_wp2;generalize wr.alloc (.cells #[.int .i64 2,.bool true,.string t,.string o,.slice a1 f.len ca1] 75) = wA at HFL HBX HBL ⊢
     have r2:=cell_regrown (show wA.cell? ⟨wr.heap.size,2,none⟩ = some (.string t) from HBX.out.cell 2);have r3:=cell_regrown (show wA.cell? ⟨wr.heap.size,3,none⟩ = some (.string o) from HBX.out.cell 3);have r4:=cell_regrown (show wA.cell? ⟨wr.heap.size,4,none⟩ = some (.slice a1 f.len ca1) from HBX.out.cell 4);have r1:=cell_regrown (show wA.cell? ⟨wr.heap.size,1,none⟩ = some (.bool true) from HBX.out.cell 1);refine Qu.region (by kernel_rfl) (by kernel_rfl) ?_
     repeat (first
      | (first | refine Qu.carry0 rfl (fun K hK=>?_) | refine Qu.carryG rfl rfl rfl (fun K hK=>?_)
         go_simp
         first
         | (refine hK _ ?_;clear hK K)
         | (apply Exists.intro;refine ⟨fun _=>?_,hK _ ?_⟩;exact HFL.out _ _;clear hK K))
      | (refine Qu.passG rfl rfl rfl (fun K hK=>?_);go_simp;refine hK _ ?_;clear hK K))
     refine Qu.fin ?_;rintro ⟨dq,osq⟩;have s1:=r1 dq osq;go_wp2;go_roundw
     case rel=>exact ⟨n + 1,S ++ (⟨#[34]⟩ ++ (⟨#[36,123]⟩ ++ t ++ o ++ ⟨FL.toArray⟩ ++ ⟨#[125]⟩) ++ ⟨#[34]⟩),by omega,rfl,by go_num,by rw [HN.out,HPT.out];simp [paramT,HNE.out,HFF.out],HBL.out dq osq⟩
     case measure=>simp [intOf];omega
    ·have HNE:=Lib.hid (show (at' == 2) = true by rw [← natI2];exact h2);go_wp2;generalize wr.alloc (.cells #[.int .i64 2,.bool false,.string t,.string o,.slice a1 f.len ca1] 75) = wA at HFL HBX HBL ⊢
     have r2:=cell_regrown (show wA.cell? ⟨wr.heap.size,2,none⟩ = some (.string t) from HBX.out.cell 2);have r3:=cell_regrown (show wA.cell? ⟨wr.heap.size,3,none⟩ = some (.string o) from HBX.out.cell 3);have r4:=cell_regrown (show wA.cell? ⟨wr.heap.size,4,none⟩ = some (.slice a1 f.len ca1) from HBX.out.cell 4);have r1:=cell_regrown (show wA.cell? ⟨wr.heap.size,1,none⟩ = some (.bool false) from HBX.out.cell 1);refine Qu.region (by kernel_rfl) (by kernel_rfl) ?_
     repeat (first
      | (first | refine Qu.carry0 rfl (fun K hK=>?_) | refine Qu.carryG rfl rfl rfl (fun K hK=>?_)
         go_simp
         first
         | (refine hK _ ?_;clear hK K)
         | (apply Exists.intro;refine ⟨fun _=>?_,hK _ ?_⟩;exact HFL.out _ _;clear hK K))
      | (refine Qu.passG rfl rfl rfl (fun K hK=>?_);go_simp;refine hK _ ?_;clear hK K))
     refine Qu.fin ?_;rintro ⟨dq,osq⟩;have s1:=r1 dq osq;go_wp2;go_roundw
     case rel=>exact ⟨n + 1,S ++ (⟨#[36,123]⟩ ++ t ++ o ++ ⟨FL.toArray⟩ ++ ⟨#[125]⟩),by omega,rfl,by go_num,by rw [HN.out,HPT.out];simp [paramT,HNE.out,HFF.out],HBL.out dq osq⟩
     case measure=>simp [intOf];omega
    ·have HNE:=Lib.hid (show (at' == 2) = true by rw [← natI2];exact h2);go_wp2;generalize wr.alloc (.cells #[.int .i64 2,.bool true,.string t,.string o,.slice a1 f.len ca1] 75) = wA at HFL HBX HBL ⊢
     have r2:=cell_regrown (show wA.cell? ⟨wr.heap.size,2,none⟩ = some (.string t) from HBX.out.cell 2);have r3:=cell_regrown (show wA.cell? ⟨wr.heap.size,3,none⟩ = some (.string o) from HBX.out.cell 3);have r4:=cell_regrown (show wA.cell? ⟨wr.heap.size,4,none⟩ = some (.slice a1 f.len ca1) from HBX.out.cell 4);have r1:=cell_regrown (show wA.cell? ⟨wr.heap.size,1,none⟩ = some (.bool true) from HBX.out.cell 1);refine Qu.region (by kernel_rfl) (by kernel_rfl) ?_
     repeat (first
      | (first | refine Qu.carry0 rfl (fun K hK=>?_) | refine Qu.carryG rfl rfl rfl (fun K hK=>?_)
         go_simp
         first
         | (refine hK _ ?_;clear hK K)
         | (apply Exists.intro;refine ⟨fun _=>?_,hK _ ?_⟩;exact HFL.out _ _;clear hK K))
      | (refine Qu.passG rfl rfl rfl (fun K hK=>?_);go_simp;refine hK _ ?_;clear hK K))
     refine Qu.fin ?_;rintro ⟨dq,osq⟩;have s1:=r1 dq osq;go_wp2;go_roundw
     case rel=>exact ⟨n + 1,S ++ (⟨#[36,123]⟩ ++ t ++ o ++ ⟨FL.toArray⟩ ++ ⟨#[125]⟩),by omega,rfl,by go_num,by rw [HN.out,HPT.out];simp [paramT,HNE.out,HFF.out],HBL.out dq osq⟩
     case measure=>simp [intOf];omega
  ·obtain rfl:n = l.len:=by omega
   go_wp2;go_ret;exact ⟨by rw [of_list (show S.data.toList = textL l at' by rw [HT.out,PL.drop_end (Nat.le_refl _)];simp [textL])];rfl,HB.out⟩
end Rf
end Go.Proofs.YtjmpfihopeohbaaGreatDoor
namespace Go.Proofs.YtjmpfihopeohbaaGreatDoor
open Go.RowKit Go.Sort
namespace Uq
open Cls Pt
theorem len_nil {f:PL} (h:(f.len == 0) = true):f = .nil:=by
 cases f with
 | nil=>rfl
 | cons=>simp [PL.len] at h
theorem right_parts {p:Option (Int × Bool)} {k:Int} {q:Bool} {t o:ByteArray} {f r:PL} {at' d:Nat} (h:rightL p (.cons k q t o f r) at' d = true) :
  (at' = 2→q = true)∧(p = some (1,q)→k ≠ 1)∧rightL (some (k,q)) r at' d = true ∧
   ((k = 1∧o.data.toList = []∧f = .nil∧textOK q t.data.toList at' = true)∨(k = 2∧nameOK t.data.toList o.data.toList = true∧(o.data.toList = []→f = .nil)∧rightL none f (wth q) (d + 1) = true)):=by
 simp only [rightL,Bool.and_eq_true] at h;obtain ⟨⟨⟨h1,h2⟩,h3⟩,h4⟩:=h;refine ⟨fun e=>?_,fun e hk=>?_,h4,?_⟩
 ·subst e;cases q
  ·simp at h1
  ·rfl
 ·subst e hk;simp at h2
 ·split at h3
  ·rename_i hk;simp only [Bool.and_eq_true,beq_iff_eq] at h3;exact .inl ⟨by simpa using hk,h3.1.1,len_nil (by simpa using h3.1.2),h3.2⟩
  ·split at h3
   ·rename_i hk;simp only [Bool.and_eq_true,Bool.or_eq_true] at h3;refine .inr ⟨by simpa using hk,h3.1.1.2,fun e=>?_,h3.2⟩;rcases h3.1.2 with h5 | h5
    ·simp [e] at h5
    ·exact len_nil h5
   ·cases h3
end Uq
end Go.Proofs.YtjmpfihopeohbaaGreatDoor
namespace Go.Proofs.YtjmpfihopeohbaaGreatDoor
open Go.RowKit Go.Sort
namespace Rf
open Cls Pt Bd
theorem written_any (n:Nat):∀ (l:PL) (a:Option Addr) (cap at':Nat) (w:World),l.size < n→at'≤2→Lies w a cap l→Bd.bytes l≤100000 →
  Calls Tryz.prog 106 #[.slice a l.len cap,.int .i64 at'] w fun e w'=>e = .returned (.string ⟨(textL l at').toArray⟩)∧Below w.heap.size w w':=by
 induction n with
 | zero=>intro _ _ _ _ _ h;omega
 | succ n ih =>
  intro l a cap at' w hn ha hl hz;exact written_step l a cap at' w ha hl hz (fun f a cap q w hf hb h=>ih f a cap (wth q) w (by omega) (by cases q <;> simp [wth]) h (by omega))
theorem rvalue_any (l:PL) (a:Option Addr) (cap:Nat) (w:World) (hl:Lies w a cap l) :
  Calls Tryz.prog 105 #[.slice a l.len cap] w fun e w'=>e = .returned (.bool (rightL none l 0 1))∧Below w.heap.size w w':=by
 have HV:=Lib.hid (rparts_any (l.size + 1) l a cap 0 1 w (by omega) (by omega) (by omega) hl);clear hl;go_enter Tryz.func105,Tryz.ntmps105;go_wp2_with (go_at_call 134;refine (HV.out).mono ?_;rintro e w' ⟨rfl,hb⟩);go_ret;exact ⟨rfl,by assumption⟩
theorem rTextTop_any (l:PL) (a:Option Addr) (cap:Nat) (w:World) (hl:Lies w a cap l) (hz:Bd.bytes l≤100000) :
  Calls Tryz.prog 65 #[.slice a l.len cap] w fun e w'=>e = .returned (.string ⟨(valueText l).toArray⟩)∧Below w.heap.size w w':=by
 have hV:=rvalue_any l a cap w hl;have HT:=Lib.hid (fun w1 (hb:Below w.heap.size w w1)=>(written_any (l.size + 1) l a cap 0 w1 (by omega) (by omega) (hl.below hb) hz).mono fun e w' h=>And.intro h.1 (thru hb h.2));cases hr:rightL none l 0 1
 ·rw [hr] at hV;have HV:=Lib.hid hV;have HR:=Lib.hid (show valueText l = [] by simp [valueText,hr]);clear hV hl hr;go_enter Tryz.func65,Tryz.ntmps65;go_wp2_with (go_at_call 105;refine (HV.out).mono ?_;rintro e w1 ⟨rfl,hb⟩);go_ret;exact ⟨by rw [HR.out];rfl,by assumption⟩
 ·rw [hr] at hV;have HV:=Lib.hid hV;have HR:=Lib.hid (show valueText l = textL l 0 by simp [valueText,hr]);clear hV hl hr;go_enter Tryz.func65,Tryz.ntmps65
  go_wp2_with (first
   | (go_at_call 105;refine (HV.out).mono ?_;rintro e w1 ⟨rfl,hb⟩)
   | (go_at_call 106;refine (HT.out _ (by assumption)).mono ?_;rintro e w2 ⟨rfl,hb2⟩))
  go_ret;exact ⟨by rw [HR.out];rfl,by assumption⟩
theorem prefix35 {t:ByteArray} (h:0 < t.size):Lib.hasPrefix t.data.toList [35] = ((t[0].toNat:Int) == 35):=by
 have h1:=getB h;rw [h1];have hl:=lenB t;cases hc:t.data.toList with
 | nil=>rw [hc] at hl;simp at hl;omega
 | cons c l =>
  have h2:((c.toNat:Int) == 35) = (c == 35):=by
   rw [Bool.eq_iff_iff,beq_iff_eq,beq_iff_eq];constructor
   ·intro e;have:c.toNat = 35:=by omega
    exact UInt8.toNat_inj.1 this
   ·intro e;rw [e];rfl
  have h3:((35:UInt8) == c) = (c == 35):=by
   rw [Bool.eq_iff_iff,beq_iff_eq,beq_iff_eq];exact ⟨fun e=>e.symm,fun e=>e.symm⟩
  simp [Lib.hasPrefix,List.isPrefixOf,h2,h3]
theorem rright_any (l:PL) (a:Option Addr) (cap:Nat) (w:World) (hl:Lies w a cap l) :
  Calls Tryz.prog 116 #[.slice a l.len cap] w fun e w'=>e = .returned (.bool (rightW l))∧Below w.heap.size w w':=by
 have hV:=rvalue_any l a cap w hl;have HL:=Lib.hid hl;clear hl;have hle:=HL.out.le;cases l with
 | nil =>
  go_enter Tryz.func116,Tryz.ntmps116;go_wp2_with fail;go_ret;exact ⟨rfl,Below.refl _ _⟩
 | cons k q t o f r =>
  have hlen:(PL.cons k q t o f r).len = r.len + 1:=rfl;have hne:(((r.len + 1:Nat):Int) == 0) = false:=by simp;omega
  rw [hlen] at hV ⊢
  cases hr:rightL none (.cons k q t o f r) 0 1
  ·rw [hr] at hV;have HV:=Lib.hid hV;have HR:=Lib.hid (show rightW (.cons k q t o f r) = false by simp only [rightW,hr,Bool.and_false]);clear hV hr hlen hle;go_enter Tryz.func116,Tryz.ntmps116;go_wp2_with (go_at_call 105;refine (HV.out).mono ?_;rintro e w1 ⟨rfl,hb⟩);go_ret;exact ⟨ret_bool HR.out.symm,by assumption⟩
  ·rw [hr] at hV;have HV:=Lib.hid hV;obtain ⟨_,_,_,hp⟩:=Uq.right_parts hr;have hRW:rightW (.cons k q t o f r) = !(k == 1 && !q && Lib.hasPrefix t.data.toList [35]):=by simp only [rightW,hr,Bool.and_true]
   clear hV hlen hle;rcases hp with ⟨rfl,_,_,ht⟩ | ⟨rfl,_⟩
   ·cases q
    ·have h0:0 < t.size:=by
      rcases Nat.eq_zero_or_pos t.size with h | h
      ·exfalso;have:=lenB t;rw [h] at this;have:t.data.toList = []:=List.length_eq_zero_iff.1 this;simp [textOK,this] at ht
      ·exact h
     have HR:=Lib.hid (hRW.trans (by rw [prefix35 h0];rfl:_ = !((t[0].toNat:Int) == 35)));clear hRW ht hr;go_enter Tryz.func116,Tryz.ntmps116;go_wp2_with (go_at_call 105;refine (HV.out).mono ?_;rintro e w1 ⟨rfl,hb⟩;obtain ⟨b1,p1,rfl,hb1,c10,c11,c12,c13,hta,hoa,a1,ca1,c14,hl1⟩:=(HL.out.below hb).get (i:=0) rfl;rw [Nat.zero_mul,Nat.add_zero] at c10 c11 c12 c13 c14;clear hl1);go_ret;exact ⟨ret_bool (by rw [HR.out];rfl),by assumption⟩
    ·have HR:=Lib.hid (hRW.trans (by simp:_ = true));clear hRW ht hr;go_enter Tryz.func116,Tryz.ntmps116;go_wp2_with (go_at_call 105;refine (HV.out).mono ?_;rintro e w1 ⟨rfl,hb⟩;obtain ⟨b1,p1,rfl,hb1,c10,c11,c12,c13,hta,hoa,a1,ca1,c14,hl1⟩:=(HL.out.below hb).get (i:=0) rfl;rw [Nat.zero_mul,Nat.add_zero] at c10 c11 c12 c13 c14;clear hl1);go_ret;exact ⟨ret_bool HR.out.symm,by assumption⟩
   ·have HR:=Lib.hid (hRW.trans (by simp:_ = true));clear hRW hr;go_enter Tryz.func116,Tryz.ntmps116;go_wp2_with (go_at_call 105;refine (HV.out).mono ?_;rintro e w1 ⟨rfl,hb⟩;obtain ⟨b1,p1,rfl,hb1,c10,c11,c12,c13,hta,hoa,a1,ca1,c14,hl1⟩:=(HL.out.below hb).get (i:=0) rfl;rw [Nat.zero_mul,Nat.add_zero] at c10 c11 c12 c13 c14;clear hl1);go_ret;exact ⟨ret_bool HR.out.symm,by assumption⟩
end Rf
end Go.Proofs.YtjmpfihopeohbaaGreatDoor
