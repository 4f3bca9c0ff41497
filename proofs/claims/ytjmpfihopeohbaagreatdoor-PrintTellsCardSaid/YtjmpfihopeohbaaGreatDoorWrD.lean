/- strings.Builder as the first field of a struct of the project's own (word.writer): WriteByte, WriteString, String at a block of that type (the shelf's contracts ask a block of type strings.Builder: these go after them). -/
import Derived.Lib.AppendIntMem
import Derived.Test.YtjmpfihopeohbaaGreatDoorPtY
set_option maxHeartbeats 2000000
set_option maxRecDepth 100000
set_option linter.unusedVariables false
namespace Go.Proofs.YtjmpfihopeohbaaGreatDoor
open Go.RowKit
namespace Bd
def Is (b:Nat) (l:List UInt8) (w:World):Prop:=Lib.IsBuilderF 95 5 b b (Lib.byteCells l) w
def Kept (b:Nat) (w w':World):Prop:=Below b w w'∧Lib.OthersKept 5 (some b) w w'
theorem Kept.refl (b:Nat) (w:World):Kept b w w:=⟨Below.refl _ _,Lib.OthersKept.refl _ _ _⟩
theorem Kept.trans {b:Nat} {w w1 w2:World} (h:Kept b w w1) (k:Kept b w1 w2):Kept b w w2:=⟨h.1.trans k.1,h.2.trans k.2⟩
theorem Is.lt {b:Nat} {l:List UInt8} {w:World} (h:Is b l w):b < w.heap.size:=by
 rcases h with h | h
 ·exact h.lt
 ·exact h.lt
theorem infoW:(Tryz.prog.info? 49).map (·.size) = some 2:=by kernel_rfl
theorem liesW:liesAt Tryz.prog Tryz.prog.depth 95 (2 / Tryz.prog.cellsOf 95) 0 49 1 = true:=by kernel_rfl
theorem infoByte:(Tryz.prog.info? 5).map (fun i=>(i.zero,i.size,i.bytes)) = some (some (.int .u8 0),1,1):=by kernel_rfl
theorem copyCheck_used (b:Nat) (w:World) (h0:w.cell? ⟨b,0,none⟩ = some (.pointer (some ⟨b,0,none⟩))) :
  Calls Tryz.prog 57 #[.pointer (some ⟨b,0,none⟩)] w fun e w'=>e = .returned (.tuple #[])∧w' = w:=by
 obtain ⟨j,hj,_⟩:=Option.map_eq_some_iff.1 infoW;go_enter Tryz.func57,Tryz.ntmps57;go_wp2;rw [Lib.run_neq_ptr_same w _ Tryz.underlying46 hj];go_wp2;go_end0;exact ⟨rfl,rfl⟩
theorem copyCheck_fresh (b:Nat) (w:World) (h0:w.cell? ⟨b,0,none⟩ = some (.pointer none)) (hsh:w.shape? b = some (95,2)) (hfz:w.frozen? ⟨b,0,none⟩ = false) :
  Calls Tryz.prog 57 #[.pointer (some ⟨b,0,none⟩)] w fun e w'=>e = .returned (.tuple #[])∧w' = w.setCell ⟨b,0,none⟩ (.pointer (some ⟨b,0,none⟩)):=by
 obtain ⟨j,hj,hjs⟩:=Option.map_eq_some_iff.1 infoW;go_enter Tryz.func57,Tryz.ntmps57;go_wp2;rw [Lib.run_to_unsafe w ⟨b,0,none⟩ Tryz.underlying46 Tryz.underlying114 hj (by rw [hjs];decide) hsh (Nat.zero_lt_succ 1)];simp only [Result.andThen];rw [Oper.upon_value];go_wp2;rw [run_callFunc_extern Tryz.func100 (by kernel_rfl) (by kernel_rfl) (by kernel_rfl) (e:=Extern.AbiNoEscape.same) (by kernel_rfl)];rw [Lib.run_noEscape];simp only [Result.andThen];rw [Oper.upon_value];go_wp2;rw [Lib.run_from_unsafe w ⟨b,0,none⟩ Tryz.underlying114 Tryz.underlying46 hj hsh liesW];simp only [Result.andThen];rw [Oper.upon_value];go_wp2;go_end0;exact ⟨rfl,rfl⟩
theorem copyCheck_any (b:Nat) (bs:List Value) (w:World) (h:Lib.IsBuilderF 95 5 b b bs w) :
  Calls Tryz.prog 57 #[.pointer (some ⟨b,0,none⟩)] w fun e w'=>e = .returned (.tuple #[])∧(Lib.BuilderAtF 95 5 b b (.pointer (some ⟨b,0,none⟩)) bs w'∧Below b w w'∧Lib.OthersKept 5 (some b) w w'):=by
 rcases h with h | h
 ·refine (copyCheck_fresh b w h.cell0 h.shape h.frozen0).mono ?_;rintro e w' ⟨rfl,rfl⟩;exact ⟨rfl,h.used _,(Below.refl b w).setCell (p:=⟨b,0,none⟩) h.1 _,(Lib.OthersKept.refl _ _ w).setCell ⟨b,0,none⟩ rfl _⟩
 ·refine (copyCheck_used b w h.cell0).mono ?_;rintro e w' ⟨rfl,rfl⟩;exact ⟨rfl,h,Below.refl b _,Lib.OthersKept.refl _ _ _⟩
theorem writeByte_any (b:Nat) (l:List UInt8) (c:UInt8) (w:World) (h:Is b l w) (hlen:l.length + 1≤140737488355328) :
  Calls Tryz.prog 130 #[.pointer (some ⟨b,0,none⟩),.int .u8 c.toNat] w fun e w'=>e = .returned .nilIface∧Is b (l ++ [c]) w'∧Kept b w w':=by
 obtain ⟨i0,hi,hz0,hz1,hz2⟩:=info_parts infoByte;have hBw:b≤w.heap.size:=Nat.le_of_lt h.lt;rw [← Lib.byteCells_length l] at hlen;have hcat:Lib.byteCells (l ++ [c]) = Lib.byteCells l ++ [.int .u8 c.toNat]:=by rw [Lib.byteCells_append];rfl
 unfold Is Kept;unfold Is at h;rw [hcat];go_enter Tryz.func130,Tryz.ntmps130;go_wp2_with (go_at_call 57;refine (copyCheck_any b (Lib.byteCells l) _ h).mono ?_);rintro e w1 ⟨rfl,h1,hb1,hk1⟩;obtain ⟨hB,v,hbk,hown,hne⟩:=h1;have c0:w1.cell? ⟨b,0,none⟩ = some (.pointer (some ⟨b,0,none⟩)):=by rw [Lib.cell_of_heap hbk];rfl
 have c1:w1.cell? ⟨b,1,none⟩ = some v:=by rw [Lib.cell_of_heap hbk];rfl
 go_wp2_with (at_builtin;refine wpList_append_ownF _ rfl _ _ 47 rfl b 5 i0 (.int .u8 0) 1 1 Tryz.underlying47 hi hz0 hz1 hz2 rfl (by decide) _ _ _ rfl (hown.alloc _) ⟨w1.heap.size,0,none⟩ 1 1 [.int .u8 c.toNat] rfl rfl ?c1 ?c2 ?c3 ?c4 ?c5 ?_)
 case c1 =>
  intro j u hj
  match j,hj with
  | 0,hj=>simp at hj;subst hj;simp [Addr.add]
 case c2=>intro u hu;simp at hu;subst hu;rfl
 case c3=>unfold maxLen;omega
 case c4=>omega
 case c5=>have:=hb1.size;simp;omega
 intro v' w2 hown' hgrow _;have hlt:b < w1.heap.size:=by
  rcases Nat.lt_or_ge b w1.heap.size with h' | h'
  ·exact h'
  ·simp [Array.getElem?_eq_none h'] at hbk
 have hb2:w2.heap[b]? = some (.cells #[.pointer (some ⟨b,0,none⟩),v] 95 (0,0)):=by
  rw [hgrow.block b (by simp;omega) (fun e=>hne e.symm),Lib.alloc_old w1 _ b hlt];exact hbk
 have d0:w2.cell? ⟨b,0,none⟩ = some (.pointer (some ⟨b,0,none⟩)):=by rw [Lib.cell_of_heap hb2];rfl
 have d1:w2.cell? ⟨b,1,none⟩ = some v:=by rw [Lib.cell_of_heap hb2];rfl
 have f1:w2.frozen? ⟨b,1,none⟩ = false:=Lib.frozen_of_heap hb2 1;obtain ⟨g,cap,rfl⟩:∃ g cap,v' = .slice (some ⟨g,0,none⟩) ((Lib.byteCells l).length + 1) cap:=by
  rcases hown'.2 with ⟨_,h0⟩ | ⟨g,cap,cur,fz,hv,_⟩
  ·omega
  ·exact ⟨g,cap,hv⟩
 go_wp2;go_ret;refine ⟨rfl,.inr ?_,?_,((hk1.alloc _).grown hgrow (Lib.ownsRowF_kind (hown.alloc _))).setCell ⟨b,1,none⟩ rfl _⟩
 ·exact Lib.BuilderAtF.put (T:=95) (e:=5) hB hb2 (bs':=Lib.byteCells l ++ [.int .u8 c.toNat]) (by simpa using hown') (by decide)
 ·exact ((hb1.alloc (by have:=hb1.size;omega) _).grown hgrow (by have:=hb1.size;simp;omega) (fun k hk=>(hown.lt k hk).1)).setCell (p:=⟨b,1,none⟩) hB _
theorem writeString_any (b:Nat) (l:List UInt8) (s:ByteArray) (w:World) (h:Is b l w) (hlen:l.length + s.size≤140737488355328) :
  Calls Tryz.prog 38 #[.pointer (some ⟨b,0,none⟩),.string s] w fun e w'=>e = .returned (.tuple #[.int .i64 s.size,.nilIface])∧Is b (l ++ s.data.toList) w'∧Kept b w w':=by
 obtain ⟨i0,hi,hz0,hz1,hz2⟩:=info_parts infoByte;have hBw:b≤w.heap.size:=Nat.le_of_lt h.lt;rw [← Lib.byteCells_length l] at hlen;have hcat:Lib.byteCells (l ++ s.data.toList) = Lib.byteCells l ++ Lib.strCells s:=by rw [Lib.byteCells_append];rfl
 unfold Is Kept;unfold Is at h;rw [hcat];go_enter Tryz.func38,Tryz.ntmps38;go_wp2_with (go_at_call 57;refine (copyCheck_any b (Lib.byteCells l) _ h).mono ?_);rintro e w1 ⟨rfl,h1,hb1,hk1⟩;obtain ⟨hB,v,hbk,hown,hne⟩:=h1;have c0:w1.cell? ⟨b,0,none⟩ = some (.pointer (some ⟨b,0,none⟩)):=by rw [Lib.cell_of_heap hbk];rfl
 have c1:w1.cell? ⟨b,1,none⟩ = some v:=by rw [Lib.cell_of_heap hbk];rfl
 go_wp2_with (at_builtin;refine Lib.wpList_append_own_stringF _ rfl _ _ 47 9 rfl b 5 i0 Tryz.underlying47 Tryz.underlying9 hi hz0 hz1 hz2 _ _ _ rfl hown s rfl ?c3 ?c4 ?c5 ?_)
 case c3=>unfold maxLen;omega
 case c4=>omega
 case c5=>have:=hb1.size;omega
 intro v' w2 hown' hgrow _;have hlt:b < w1.heap.size:=by
  rcases Nat.lt_or_ge b w1.heap.size with h' | h'
  ·exact h'
  ·simp [Array.getElem?_eq_none h'] at hbk
 have hb2:w2.heap[b]? = some (.cells #[.pointer (some ⟨b,0,none⟩),v] 95 (0,0)):=by
  rw [hgrow.block b hlt (fun e=>hne e.symm)];exact hbk
 have d0:w2.cell? ⟨b,0,none⟩ = some (.pointer (some ⟨b,0,none⟩)):=by rw [Lib.cell_of_heap hb2];rfl
 have d1:w2.cell? ⟨b,1,none⟩ = some v:=by rw [Lib.cell_of_heap hb2];rfl
 have f1:w2.frozen? ⟨b,1,none⟩ = false:=Lib.frozen_of_heap hb2 1;obtain ⟨ao,n',cap,rfl⟩:∃ ao n' cap,v' = .slice ao n' cap:=by
  rcases hown'.2 with ⟨hv,_⟩ | ⟨g,cap,cur,fz,hv,_⟩
  ·exact ⟨_,_,_,hv⟩
  ·exact ⟨_,_,_,hv⟩
 go_wp2;go_ret2;refine ⟨rfl,.inr ?_,?_,(hk1.grown hgrow (Lib.ownsRowF_kind hown)).setCell ⟨b,1,none⟩ rfl _⟩
 ·exact Lib.BuilderAtF.put (T:=95) (e:=5) hB hb2 (bs':=Lib.byteCells l ++ Lib.strCells s) (by simpa [Lib.strCells_length] using hown') (by decide)
 ·exact (hb1.grown hgrow (by have:=hb1.size;omega) (fun k hk=>(hown.lt k hk).1)).setCell (p:=⟨b,1,none⟩) hB _
theorem string_any (b:Nat) (l:List UInt8) (w:World) (h:Is b l w) (h0:l ≠ []) :
  Calls Tryz.prog 20 #[.pointer (some ⟨b,0,none⟩)] w fun e w'=>e = .returned (.string ⟨l.toArray⟩)∧Below b w w':=by
 obtain ⟨p,hB,v,hbk,hown,hne⟩:∃ p,Lib.BuilderAtF 95 5 b b p (Lib.byteCells l) w:=by
  rcases h with h | h
  ·exact ⟨_,h⟩
  ·exact ⟨_,h⟩
 have hl0:l.length ≠ 0:=by simpa using h0
 rw [Lib.byteCells_length] at hown;obtain ⟨g,cap,cur,fz,rfl,hbg,hg,hnc,hcm,hcs⟩:∃ g cap cur fz,v = .slice (some ⟨g,0,none⟩) l.length cap∧b≤g∧w.heap[g]? = some (.cells cur 5 fz)∧l.length≤cap∧cap≤maxLen∧cur.size = cap * 1:=by
  rcases hown.2 with ⟨_,hz⟩ | ⟨g,cap,cur,fz,hv,r1,r2,_,r3,r4,r5,_⟩
  ·exact absurd hz hl0
  ·exact ⟨g,cap,cur,fz,hv,r1,r2,r3,r4,r5⟩
 have c1:w.drew.cell? ⟨b,1,none⟩ = some (.slice (some ⟨g,0,none⟩) l.length cap):=by
  have:w.drew.heap[b]? = some (.cells #[p,.slice (some ⟨g,0,none⟩) l.length cap] 95 (0,0)):=hbk;rw [Lib.cell_of_heap this];rfl
 have hSD:(Builtin.unsafeSliceData_ #[47] 85 #[.slice (some ⟨g,0,none⟩) l.length cap]).run Tryz.prog w.drew = .ok (.pointer (some ⟨g,0,none⟩)) w.drew :=
  Lib.run_unsafeSliceData_row _ _ _ _ _ _ (by omega)
 have hUS:(Builtin.unsafeString_ #[85,3] 9 #[.pointer (some ⟨g,0,none⟩),.int .i64 l.length]).run Tryz.prog w.drew = .ok (.string ⟨l.toArray⟩) (w.drew.freeze ⟨g,0,none⟩ l.length):=by
  refine Lib.run_unsafeString_row w.drew 85 3 9 5 Tryz.underlying85 (by kernel_rfl) g cur.size (by have hg':w.drew.heap[g]? = some (.cells cur 5 fz):=hg;simp [World.shape?,hg']) l h0 (by omega) (by unfold maxLen at hcm;omega) ?_;intro j x hx;have:=hown.cells (g:=g) rfl j (.int .u8 x.toNat) (by simp [Lib.byteCells,hx]);exact this
 go_enter Tryz.func20,Tryz.ntmps20;go_wp2;go_region
 all_goals (go_wp2;go_ret;exact ⟨rfl,Lib.below_freeze (Below.drew (Below.refl b w)) (p:=⟨g,0,none⟩) hbg _⟩)
end Bd
end Go.Proofs.YtjmpfihopeohbaaGreatDoor
namespace Go.Proofs.YtjmpfihopeohbaaGreatDoor
open Go.RowKit Go.Sort
namespace Bd
open Cls Pt
theorem Is.below {b:Nat} {l:List UInt8} {w w':World} (h:Is b l w) (hb:Below w.heap.size w w'):Is b l w':=by
 have key:∀ p,Lib.BuilderAtF 95 5 b b p (Lib.byteCells l) w→Lib.BuilderAtF 95 5 b b p (Lib.byteCells l) w':=by
  rintro p ⟨hB,v,hbk,hown,hne⟩;have hlt:∀ {k:Nat} {o:Obj},w.heap[k]? = some o→w'.heap[k]? = some o:=fun {k o} h=>(hb.block k (Array.getElem?_eq_some_iff.1 h).1).trans h;refine ⟨hB,v,hlt hbk,⟨hown.1,?_⟩,hne⟩;rcases hown.2 with h | ⟨g,cap,cur,fz,hv,hg,hh,hr⟩
  ·exact .inl h
  ·exact .inr ⟨g,cap,cur,fz,hv,hg,hlt hh,hr⟩
 exact h.elim (fun x=>.inl (key _ x)) (fun x=>.inr (key _ x))
theorem Kept.of_below {b:Nat} {w w':World} (h:Below w.heap.size w w') (hb:b≤w.heap.size):Kept b w w' :=
 ⟨h.mono hb,fun k _ hk _ _=>(h.block k (Array.getElem?_eq_some_iff.1 hk).1).trans hk⟩
def escL (l:List UInt8):List UInt8:=l.flatMap fun c=>if escB c.toNat then [92,c] else [c]
theorem escL_snoc {l:List UInt8} {k:Nat} (hk:k < l.length):escL (l.take (k + 1)) = escL (l.take k) ++ (if escB (l.getD k 0).toNat then [92,l.getD k 0] else [l.getD k 0]):=by
 rw [List.take_succ_eq_append_getElem hk];simp only [escL,List.flatMap_append,List.flatMap_cons,List.flatMap_nil,List.append_nil,List.getD,List.getElem?_eq_getElem hk,Option.getD_some]
theorem escL_len (l:List UInt8):(escL l).length≤2 * l.length:=by
 induction l with
 | nil=>simp [escL]
 | cons c l ih =>
  simp only [escL,List.flatMap_cons,List.length_append,List.length_cons] at ih ⊢
  split <;> simp only [List.length_cons,List.length_nil] <;> omega
theorem escL_take_len (l:List UInt8) (k:Nat):(escL (l.take k)).length≤2 * l.length :=
 Nat.le_trans (escL_len _) (by simp;omega)
theorem escape_any (b:Nat) (l:List UInt8) (s:ByteArray) (w:World) (h:Is b l w) (hlen:l.length + 2 * s.size≤70368744177664) :
  Calls Tryz.prog 103 #[.pointer (some ⟨b,0,none⟩),.string s] w fun e w'=>e = .returned (.tuple #[])∧Is b (l ++ escL s.data.toList) w'∧Kept b w w':=by
 have HI:=Lib.hid h;clear h;have HN:=Lib.hid (lenB s);have hs:s.size≤140737488351232:=by omega
 have HLn:=Lib.hid hlen;clear hlen;go_enter Tryz.func103,Tryz.ntmps103;go_wp2
 go_loopw [7] (fun i wr=>∃ k:Nat,k≤s.size∧i = .int .i64 k∧Is b (l ++ escL (s.data.toList.take k)) wr∧Kept b w wr) (fun i wr=>s.size - (intOf i).toNat)
 case atStart=>exact ⟨0,Nat.zero_le _,rfl,by simpa [escL] using HI.out,Kept.refl _ _⟩
 case round =>
  obtain ⟨k,hk,rfl,hi,hkp⟩:=hrel;have HIs:=Lib.hid hi;have HK:=Lib.hid hkp;clear hi hkp
  by_cases hlt:k < s.size
  ·have hlt':k < s.data.toList.length:=by simpa using hlt
   have HG:=Lib.hid (getB hlt);have HB:=Lib.hid (escL_take_len s.data.toList k);cases he:escB s[k].toNat
   ·have HE:=Lib.hid he;have hX:=fun w2 (hb:Below wr.heap.size wr w2)=>writeByte_any b _ s[k] w2 (HIs.out.below hb) (by have:=HB.out;have:=HLn.out;have:=HN.out;simp only [List.length_append];omega);have HX:=Lib.hid hX;clear hX;go_wp2_with (go_at_call 132;refine (escaped_any _ _).mono ?_;rintro e w' ⟨rfl,rfl⟩);refine Qu.region_tail 6 (by kernel_rfl) (by kernel_rfl) ?_;simp only [List.take_succ_cons,List.take_zero,List.drop_succ_cons,List.drop_zero]
    repeat (first
     | (first | refine Qu.carry0 rfl (fun K hK=>?_) | refine Qu.carryG rfl rfl rfl (fun K hK=>?_)
        go_simp
        first
        | (refine hK _ ?_;clear hK K)
        | (apply Exists.intro;refine ⟨fun _=>?_,hK _ ?_⟩;fail;clear hK K))
     | (refine Qu.passG rfl rfl rfl (fun K hK=>?_);go_simp;refine hK _ ?_;clear hK K))
    refine Qu.fin ?_;rintro ⟨dq,osq⟩;go_wp2_with (go_at_call 130;refine (HX.out _ (below_regrown _ dq osq)).mono ?_;rintro e w' ⟨rfl,h1,h2⟩);have H1:=Lib.hid h1;have H2:=Lib.hid h2;clear h1 h2;go_roundw
    case rel=>exact ⟨k + 1,by omega,by go_num,by rw [escL_snoc hlt',← HG.out,HE.out,← List.append_assoc];exact H1.out,HK.out.trans ((Kept.of_below (below_regrown _ dq osq) (Nat.le_of_lt HIs.out.lt)).trans H2.out)⟩
    case measure=>simp [intOf];omega
   ·have HE:=Lib.hid he;have hX:=writeByte_any b _ 92 wr HIs.out (by have:=HB.out;have:=HLn.out;have:=HN.out;simp only [List.length_append];omega);have HX:=Lib.hid hX;clear hX
    go_wp2_with (first
     | (go_at_call 132;refine (escaped_any _ _).mono ?_;rintro e w' ⟨rfl,rfl⟩)
     | (go_at_call 130;refine (HX.out).mono ?_;rintro e w1 ⟨rfl,h1,h2⟩))
    have H1:=Lib.hid h1;have H2:=Lib.hid h2;clear h1 h2;refine Qu.region_tail 6 (by kernel_rfl) (by kernel_rfl) ?_;simp only [List.take_succ_cons,List.take_zero,List.drop_succ_cons,List.drop_zero]
    repeat (first
     | (first | refine Qu.carry0 rfl (fun K hK=>?_) | refine Qu.carryG rfl rfl rfl (fun K hK=>?_)
        go_simp
        first
        | (refine hK _ ?_;clear hK K)
        | (apply Exists.intro;refine ⟨fun _=>?_,hK _ ?_⟩;fail;clear hK K))
     | (refine Qu.passG rfl rfl rfl (fun K hK=>?_);go_simp;refine hK _ ?_;clear hK K))
    refine Qu.fin ?_;rintro ⟨dq,osq⟩;have hY:=writeByte_any b _ s[k] _ (H1.out.below (below_regrown _ dq osq)) (by have:=HB.out;have:=HLn.out;have:=HN.out;simp only [List.length_append,List.length_cons,List.length_nil];omega);have HY:=Lib.hid hY;clear hY;go_wp2_with (go_at_call 130;refine (HY.out).mono ?_;rintro e w' ⟨rfl,h3,h4⟩);have H3:=Lib.hid h3;have H4:=Lib.hid h4;clear h3 h4;go_roundw
    case rel =>
     refine ⟨k + 1,by omega,by go_num,?_,HK.out.trans (H2.out.trans ((Kept.of_below (below_regrown _ dq osq) (Nat.le_of_lt H1.out.lt)).trans H4.out))⟩;rw [escL_snoc hlt',← HG.out,HE.out,if_pos rfl];simpa only [List.append_assoc,List.cons_append,List.nil_append] using H3.out
    case measure=>simp [intOf];omega
  ·obtain rfl:k = s.size:=by omega
   go_wp2;go_end0;exact ⟨rfl,by have:=HIs.out;rwa [List.take_of_length_le (by rw [HN.out];exact Nat.le_refl _)] at this,HK.out⟩
def marksL (l:List UInt8):List UInt8:=l.flatMap fun c=>if c == 39 then [39,92,39,39] else [c]
def quoteL (l:List UInt8):List UInt8:=39 :: (marksL l ++ [39])
theorem marks_len (l:List UInt8):(marksL l).length≤4 * l.length:=by
 induction l with
 | nil=>simp [marksL]
 | cons c l ih =>
  simp only [marksL,List.flatMap_cons,List.length_append,List.length_cons] at ih ⊢
  split <;> simp only [List.length_cons,List.length_nil] <;> omega
theorem index_cons {b:UInt8} {l:List UInt8} {i:Nat} (hb:b ≠ 39) (h:Lib.index l [39] = i):Lib.index (b :: l) [39] = ((i + 1:Nat):Int):=by
 have h1:([39]:List UInt8).isPrefixOf (b :: l) = false:=by simp [List.isPrefixOf];exact fun e=>hb e.symm
 have h2:(Lib.index l [39] == -1) = false:=by rw [h];simp
 rw [Lib.index,h1,h2,h];simp
theorem replace_marks (l:List UInt8):Lib.replaceK [39] [39,92,39,39] (l.count 39) l = marksL l:=by
 induction l with
 | nil=>rfl
 | cons b l ih =>
  by_cases hb:b = 39
  ·subst hb;have h0:Lib.index (39 :: l) [39] = ((0:Nat):Int):=by simp [Lib.index,List.isPrefixOf]
   rw [List.count_cons_self,Lib.replaceK_hit _ _ _ _ 0 h0];simp [ih,marksL]
  ·have hc:(b :: l).count 39 = l.count 39:=List.count_cons_of_ne hb;rw [hc];have hbb:(b == 39) = false:=by simpa using hb
   have hm:marksL (b :: l) = b :: marksL l:=by simp only [marksL,List.flatMap_cons,hbb];rfl
   rw [hm,← ih];cases hn:l.count 39 with
   | zero=>rfl
   | succ n =>
    obtain ⟨i,hi⟩:=Lib.index_of_count (s:=l) (old:=[39]) (by rw [Lib.count_one];omega);rw [Lib.replaceK_hit _ _ _ _ _ (index_cons hb hi),Lib.replaceK_hit _ _ _ _ _ hi];simp
theorem replaceAll_marks (l:List UInt8):Lib.replaceAll l [39] [39,92,39,39] = marksL l:=by
 unfold Lib.replaceAll Lib.replace Lib.replaceNum;rw [if_neg (by decide),if_pos (.inl (by decide)),Lib.count_one];exact replace_marks l
theorem quote_any (b:Nat) (l:List UInt8) (s:ByteArray) (m:Int) (w:World) (h:Is b l w) (hm:w.cell? ⟨0,0,none⟩ = some (.int .i64 m)) (hb0:0 < b) (hs:s.size≤1000000) (hlen:l.length + 4 * s.size + 2≤70368744177664) :
  Calls Tryz.prog 104 #[.pointer (some ⟨b,0,none⟩),.string s] w fun e w'=>e = .returned (.tuple #[])∧Is b (l ++ quoteL s.data.toList) w'∧Kept b w w':=by
 have HX:=Lib.hid (writeByte_any b l 39 w h (by omega));have HN:=Lib.hid (lenB s);have HM:=Lib.hid hm;have HL:=Lib.hid hlen;have HML:=Lib.hid (marks_len s.data.toList);clear h hlen hm;go_enter Tryz.func104,Tryz.ntmps104;go_wp2_with (go_at_call 130;refine (HX.out).mono ?_;rintro e w1 ⟨rfl,h1,h2⟩);have H1:=Lib.hid h1;have H2:=Lib.hid h2;clear h1 h2;have hR:∀ dd os,Calls Tryz.prog 133 #[.string s,.string ⟨#[39]⟩,.string ⟨#[39,92,39,39]⟩] (grow (redrawn w1 dd) os) fun e w''=>e = .returned (.string ⟨(marksL s.data.toList).toArray⟩)∧∃ p:Regrown,w'' = grow (redrawn w1 p.d) p.os:=fun dd os=>by
  have:=Tryz.strings_ReplaceAll s ⟨#[39]⟩ ⟨#[39,92,39,39]⟩ m (grow (redrawn w1 dd) os) (by omega) (by
   rw [(below_regrown w1 dd os).cell (p:=⟨0,0,none⟩) (Nat.lt_trans hb0 H1.out.lt),H2.out.1.cell (p:=⟨0,0,none⟩) hb0]
   exact HM.out) (by decide) (by
   have:=Lib.countB_le ⟨#[39]⟩ (by decide) s.size s (Nat.le_refl _);have h4:ByteArray.size ⟨#[39,92,39,39]⟩ = 4:=rfl;rw [h4]
   omega)
  rw [show Lib.replaceAll s.data.toList (ByteArray.data ⟨#[39]⟩).toList (ByteArray.data ⟨#[39,92,39,39]⟩).toList = marksL s.data.toList from replaceAll_marks _] at this;exact Calls.regrown_of this
 have HR:=Lib.hid hR;clear hR;refine Qu.region_tail 5 (by kernel_rfl) (by kernel_rfl) ?_;simp only [List.take_succ_cons,List.take_zero,List.drop_succ_cons,List.drop_zero]
 repeat (first
  | (first | refine Qu.carry0 rfl (fun K hK=>?_) | refine Qu.carryG rfl rfl rfl (fun K hK=>?_)
     go_simp
     first
     | (refine hK _ ?_;clear hK K)
     | (apply Exists.intro;refine ⟨fun _=>?_,hK _ ?_⟩;exact HR.out _ _;clear hK K))
  | (refine Qu.passG rfl rfl rfl (fun K hK=>?_);go_simp;refine hK _ ?_;clear hK K))
 refine Qu.fin ?_;rintro ⟨dq,osq⟩
 have hY:=writeString_any b _ ⟨(marksL s.data.toList).toArray⟩ _ (H1.out.below (below_regrown _ dq osq)) (by
  have:=HL.out;have:=HN.out;have:=HML.out;have h5:ByteArray.size ⟨(marksL s.data.toList).toArray⟩ = (marksL s.data.toList).length:=by simp [ByteArray.size]
  rw [h5];simp only [List.length_append,List.length_cons,List.length_nil];omega)
 have HY:=Lib.hid hY;clear hY;go_wp2_with (go_at_call 38;refine (HY.out).mono ?_;rintro e w2 ⟨rfl,h3,h4⟩);have H3:=Lib.hid h3;have H4:=Lib.hid h4;clear h3 h4
 have hZ:=writeByte_any b _ 39 w2 H3.out (by
  have:=HL.out;have:=HN.out;have:=HML.out
  simp only [List.length_append,List.length_cons,List.length_nil];omega)
 have HZ:=Lib.hid hZ;clear hZ;go_wp2_with (go_at_call 130;refine (HZ.out).mono ?_;rintro e w3 ⟨rfl,h5,h6⟩);go_end0;refine ⟨rfl,?_,H2.out.trans ((Kept.of_below (below_regrown _ dq osq) (Nat.le_of_lt H1.out.lt)).trans (H4.out.trans h6))⟩;simpa [quoteL,List.append_assoc] using h5
end Bd
end Go.Proofs.YtjmpfihopeohbaaGreatDoor
namespace Go.Proofs.YtjmpfihopeohbaaGreatDoor
open Go.RowKit Go.Sort
namespace Bd
open Cls Pt
def textL:PL→Nat→List UInt8
 | .nil,_=>[]
 | .cons k q t o f r,at' =>
  (if k == 2 then (if q && !(at' == 2) then 34 :: (36 :: 123 :: (t.data.toList ++ o.data.toList) ++ textL f (wth q) ++ [125]) ++ [34] else 36 :: 123 :: (t.data.toList ++ o.data.toList) ++ textL f (wth q) ++ [125])
   else if at' == 2 then escL t.data.toList else if q then quoteL t.data.toList else t.data.toList) ++ textL r at'
def paramT (q:Bool) (t o:ByteArray) (f:PL) (at':Nat):List UInt8 :=
 if q && !(at' == 2) then 34 :: (36 :: 123 :: (t.data.toList ++ o.data.toList) ++ textL f (wth q) ++ [125]) ++ [34] else 36 :: 123 :: (t.data.toList ++ o.data.toList) ++ textL f (wth q) ++ [125]
def partT (k:Int) (q:Bool) (t o:ByteArray) (f:PL) (at':Nat):List UInt8 :=
 if k == 2 then paramT q t o f at' else if at' == 2 then escL t.data.toList else if q then quoteL t.data.toList else t.data.toList
theorem textL_cons (k:Int) (q:Bool) (t o:ByteArray) (f r:PL) (at':Nat):textL (.cons k q t o f r) at' = partT k q t o f at' ++ textL r at':=rfl
theorem quote_len (l:List UInt8):(quoteL l).length≤4 * l.length + 2:=by
 have:=marks_len l;simp only [quoteL,List.length_cons,List.length_append,List.length_nil];omega
theorem text_len:∀ (l:PL) (at':Nat),(textL l at').length≤5 * bytes l
 | .nil,_=>Nat.zero_le _
 | .cons k q t o f r,at'=>by
  have h1:=text_len f (wth q);have h2:=text_len r at';have h3:=escL_len t.data.toList;have h4:=quote_len t.data.toList;have ht:t.data.toList.length = t.size:=lenB t;have ho:o.data.toList.length = o.size:=lenB o;rw [textL_cons,List.length_append];simp only [partT,paramT,bytes]
  repeat' split
  all_goals (try simp only [List.length_cons,List.length_append,List.length_nil])
  all_goals omega
theorem part_len (k:Int) (q:Bool) (t o:ByteArray) (f:PL) (at':Nat):(partT k q t o f at').length≤5 * (1 + t.size + o.size + bytes f):=by
 have h1:=text_len f (wth q);have h3:=escL_len t.data.toList;have h4:=quote_len t.data.toList;have ht:t.data.toList.length = t.size:=lenB t;have ho:o.data.toList.length = o.size:=lenB o;simp only [partT,paramT]
 repeat' split
 all_goals (try simp only [List.length_cons,List.length_append,List.length_nil])
 all_goals omega
theorem Box.kept {w w':World} {b c:Nat} {k:Int} {q:Bool} {t o:ByteArray} {a:Option Addr} {n cap:Nat} (h:Box w c k q t o a n cap) (hk:Kept b w w') (hc:c ≠ b):Box w' c k q t o a n cap :=
 hk.2 c _ h (fun e=>hc (Option.some.inj e)) (fun _ _ e=>by cases e)
theorem param_walk (w0:World) (k:Int) (q:Bool) (t o:ByteArray) (a:Option Addr) (cap at':Nat) (f:PL) (acc:List UInt8) (w:World) (ha:at'≤2) (h:Is w0.heap.size acc w) (h0:Below w0.heap.size w0 w)
  (hsz:1 + t.size + o.size + bytes f≤1000000) (hlen:acc.length + 5 * (1 + t.size + o.size + bytes f)≤70368744177664)
  (hS:∀ acc w,Is w0.heap.size acc w→Below w0.heap.size w0 w→acc.length + 5 * bytes f≤70368744177664→Calls Tryz.prog 59 #[.pointer (some ⟨w0.heap.size,0,none⟩),.slice a f.len cap,.int .i64 (wth q)] w fun e w'=>e = .returned (.tuple #[])∧Is w0.heap.size (acc ++ textL f (wth q)) w'∧Kept w0.heap.size w w') :
  Calls Tryz.prog 102 #[.pointer (some ⟨w0.heap.size,0,none⟩),pv k q t o a f.len cap,.int .i64 at'] w fun e w'=>e = .returned (.tuple #[])∧Is w0.heap.size (acc ++ paramT q t o f at') w'∧Kept w0.heap.size w w':=by
 have ht:t.data.toList.length = t.size:=lenB t;have ho:o.data.toList.length = o.size:=lenB o;have hT:=text_len f (wth q);have h2s:ByteArray.size ⟨#[36,123]⟩ = 2:=rfl;have n1:¬ 9223372036854775807 < 2 + t.size:=by omega
 have n2:¬ 9223372036854775807 < 2 + t.size + o.size:=by omega
 have HI:=Lib.hid (h.below (bel1 w (.cells #[.int .i64 k,.bool q,.string t,.string o,.slice a f.len cap] 75)));have HNE:=Lib.hid (show w.heap.size ≠ w0.heap.size from Ne.symm (Nat.ne_of_lt h.lt));have HBX0:=Lib.hid (show Box (w.alloc (.cells #[.int .i64 k,.bool q,.string t,.string o,.slice a f.len cap] 75)) w.heap.size k q t o a f.len cap from heap_alloc_new w _);have HKA:=Lib.hid (Kept.of_below (bel1 w (.cells #[.int .i64 k,.bool q,.string t,.string o,.slice a f.len cap] 75)) (Nat.le_of_lt h.lt));have HB0:=Lib.hid (h0.trans HKA.out.1);have HS:=Lib.hid hS;clear hS h h0;unfold pv;cases hm:(q && !((at':Int) == 2))
 ·have HM:=Lib.hid (show (q && !(at' == 2)) = false by rw [← natI2];exact hm);have hmm:((q = false)∨(q = true∧(at':Int) = 2)):=by cases q <;> simp_all
  go_enter Tryz.func102,Tryz.ntmps102;rcases hmm with rfl | ⟨rfl,hat⟩
  ·clear hm;go_wp2;generalize w.alloc (.cells #[.int .i64 k,.bool false,.string t,.string o,.slice a f.len cap] 75) = w1 at HI HBX0 HKA HB0 ⊢
   have H1:=HI;have H2:=Lib.hid (Kept.refl w0.heap.size w1);have HB1:=Lib.hid (HBX0.out.kept H2.out HNE.out);have kw10:w1.cell? ⟨w.heap.size,0,none⟩ = some (.int .i64 k):=HB1.out.cell 0;have kw11:w1.cell? ⟨w.heap.size,1,none⟩ = some (.bool false):=HB1.out.cell 1;have kw12:w1.cell? ⟨w.heap.size,2,none⟩ = some (.string t):=HB1.out.cell 2;have kw13:w1.cell? ⟨w.heap.size,3,none⟩ = some (.string o):=HB1.out.cell 3;have kw14:w1.cell? ⟨w.heap.size,4,none⟩ = some (.slice a f.len cap):=HB1.out.cell 4;have r2:=cell_regrown kw12;have r3:=cell_regrown kw13;clear kw10 kw11 kw12 kw13 kw14;refine Qu.region_tail 9 (by kernel_rfl) (by kernel_rfl) ?_;simp only [List.take_succ_cons,List.take_zero,List.drop_succ_cons,List.drop_zero]
   repeat (first
    | (first | refine Qu.carry0 rfl (fun K hK=>?_) | refine Qu.carryG rfl rfl rfl (fun K hK=>?_)
       go_simp
       first
       | (refine hK _ ?_;clear hK K)
       | (apply Exists.intro;refine ⟨fun _=>?_,hK _ ?_⟩;fail;clear hK K))
    | (refine Qu.passG rfl rfl rfl (fun K hK=>?_);go_simp;refine hK _ ?_;clear hK K))
   refine Qu.fin ?_;rintro ⟨dq,osq⟩;clear r2 r3
   have hY:=writeString_any _ _ (⟨#[36,123]⟩ ++ t ++ o) _ (H1.out.below (below_regrown _ dq osq)) (by
    simp only [ByteArray.size_append,h2s]
    try simp only [List.length_append,List.length_cons,List.length_nil]
    omega)
   have HK1:=Lib.hid (H2.out.trans (Kept.of_below (below_regrown w1 dq osq) (Nat.le_of_lt H1.out.lt)));have HY:=Lib.hid hY;clear hY;generalize hwv:grow (redrawn w1 dq) osq = wv at HY HK1 ⊢
   clear hwv;go_wp2_with (go_at_call 38;refine (HY.out).mono ?_;rintro e w2 ⟨rfl,h3,h4⟩);have H3:=Lib.hid h3;have H4:=Lib.hid h4;clear h3 h4;have HK2:=Lib.hid (HK1.out.trans H4.out);have HB2:=Lib.hid (HBX0.out.kept HK2.out HNE.out);have kw20:w2.cell? ⟨w.heap.size,0,none⟩ = some (.int .i64 k):=HB2.out.cell 0;have kw21:w2.cell? ⟨w.heap.size,1,none⟩ = some (.bool false):=HB2.out.cell 1;have kw22:w2.cell? ⟨w.heap.size,2,none⟩ = some (.string t):=HB2.out.cell 2;have kw23:w2.cell? ⟨w.heap.size,3,none⟩ = some (.string o):=HB2.out.cell 3;have kw24:w2.cell? ⟨w.heap.size,4,none⟩ = some (.slice a f.len cap):=HB2.out.cell 4;have s0:=cell_regrown kw20;have s1:=cell_regrown kw21;have s2:=cell_regrown kw22;have s3:=cell_regrown kw23;have s4:=cell_regrown kw24;clear kw20 kw21 kw22 kw23 kw24;have HW:=Lib.hid (fun dd os=>Calls.regrown_of (within_any k false t o a f.len cap (grow (redrawn w2 dd) os)));refine Qu.region_tail 5 (by kernel_rfl) (by kernel_rfl) ?_;simp only [List.take_succ_cons,List.take_zero,List.drop_succ_cons,List.drop_zero]
   repeat (first
    | (first | refine Qu.carry0 rfl (fun K hK=>?_) | refine Qu.carryG rfl rfl rfl (fun K hK=>?_)
       go_simp
       first
       | (refine hK _ ?_;clear hK K)
       | (apply Exists.intro;refine ⟨fun _=>?_,hK _ ?_⟩;exact HW.out _ _;clear hK K))
    | (refine Qu.passG rfl rfl rfl (fun K hK=>?_);go_simp;refine hK _ ?_;clear hK K))
   refine Qu.fin ?_;rintro ⟨dq,osq⟩;clear s0 s1 s2 s3 s4
   have hP:=HS.out _ _ (H3.out.below (below_regrown _ dq osq)) (HB0.out.trans (HK2.out.1.trans ((below_regrown w2 dq osq).mono (Nat.le_of_lt H3.out.lt)))) (by
    simp only [ByteArray.data_append,Array.toList_append,List.length_append,List.length_cons,List.length_nil]
    omega)
   have HK3:=Lib.hid (HK2.out.trans (Kept.of_below (below_regrown w2 dq osq) (Nat.le_of_lt H3.out.lt)));have HP:=Lib.hid hP;clear hP;generalize hwv2:grow (redrawn w2 dq) osq = wv2 at HP HK3 ⊢
   clear hwv2;go_wp2_with (go_at_call 59;refine (HP.out).mono ?_;rintro e w3 ⟨rfl,h5,h6⟩);have H5:=Lib.hid h5;have H6:=Lib.hid h6;clear h5 h6
   have HZ:=Lib.hid (writeByte_any _ _ 125 w3 H5.out (by
    simp only [ByteArray.data_append,Array.toList_append,List.length_append,List.length_cons,List.length_nil]
    omega))
   go_wp2_with (go_at_call_of 130 (Value.int IntKind.u8 125);refine (HZ.out).mono ?_;rintro e w4 ⟨rfl,h7,h8⟩);go_end0;refine ⟨rfl,?_,HKA.out.trans (HK3.out.trans (H6.out.trans h8))⟩;simpa [paramT,HM.out,List.append_assoc] using h7
  ·have hne:((at':Int) != 2) = false:=by rw [hat];rfl
   clear hm hat;go_wp2;generalize w.alloc (.cells #[.int .i64 k,.bool true,.string t,.string o,.slice a f.len cap] 75) = w1 at HI HBX0 HKA HB0 ⊢
   have H1:=HI;have H2:=Lib.hid (Kept.refl w0.heap.size w1);have HB1:=Lib.hid (HBX0.out.kept H2.out HNE.out);have kw10:w1.cell? ⟨w.heap.size,0,none⟩ = some (.int .i64 k):=HB1.out.cell 0;have kw11:w1.cell? ⟨w.heap.size,1,none⟩ = some (.bool true):=HB1.out.cell 1;have kw12:w1.cell? ⟨w.heap.size,2,none⟩ = some (.string t):=HB1.out.cell 2;have kw13:w1.cell? ⟨w.heap.size,3,none⟩ = some (.string o):=HB1.out.cell 3;have kw14:w1.cell? ⟨w.heap.size,4,none⟩ = some (.slice a f.len cap):=HB1.out.cell 4;have r2:=cell_regrown kw12;have r3:=cell_regrown kw13;clear kw10 kw11 kw12 kw13 kw14;refine Qu.region_tail 9 (by kernel_rfl) (by kernel_rfl) ?_;simp only [List.take_succ_cons,List.take_zero,List.drop_succ_cons,List.drop_zero]
   repeat (first
    | (first | refine Qu.carry0 rfl (fun K hK=>?_) | refine Qu.carryG rfl rfl rfl (fun K hK=>?_)
       go_simp
       first
       | (refine hK _ ?_;clear hK K)
       | (apply Exists.intro;refine ⟨fun _=>?_,hK _ ?_⟩;fail;clear hK K))
    | (refine Qu.passG rfl rfl rfl (fun K hK=>?_);go_simp;refine hK _ ?_;clear hK K))
   refine Qu.fin ?_;rintro ⟨dq,osq⟩;clear r2 r3
   have hY:=writeString_any _ _ (⟨#[36,123]⟩ ++ t ++ o) _ (H1.out.below (below_regrown _ dq osq)) (by
    simp only [ByteArray.size_append,h2s]
    try simp only [List.length_append,List.length_cons,List.length_nil]
    omega)
   have HK1:=Lib.hid (H2.out.trans (Kept.of_below (below_regrown w1 dq osq) (Nat.le_of_lt H1.out.lt)));have HY:=Lib.hid hY;clear hY;generalize hwv:grow (redrawn w1 dq) osq = wv at HY HK1 ⊢
   clear hwv;go_wp2_with (go_at_call 38;refine (HY.out).mono ?_;rintro e w2 ⟨rfl,h3,h4⟩);have H3:=Lib.hid h3;have H4:=Lib.hid h4;clear h3 h4;have HK2:=Lib.hid (HK1.out.trans H4.out);have HB2:=Lib.hid (HBX0.out.kept HK2.out HNE.out);have kw20:w2.cell? ⟨w.heap.size,0,none⟩ = some (.int .i64 k):=HB2.out.cell 0;have kw21:w2.cell? ⟨w.heap.size,1,none⟩ = some (.bool true):=HB2.out.cell 1;have kw22:w2.cell? ⟨w.heap.size,2,none⟩ = some (.string t):=HB2.out.cell 2;have kw23:w2.cell? ⟨w.heap.size,3,none⟩ = some (.string o):=HB2.out.cell 3;have kw24:w2.cell? ⟨w.heap.size,4,none⟩ = some (.slice a f.len cap):=HB2.out.cell 4;have s0:=cell_regrown kw20;have s1:=cell_regrown kw21;have s2:=cell_regrown kw22;have s3:=cell_regrown kw23;have s4:=cell_regrown kw24;clear kw20 kw21 kw22 kw23 kw24;have HW:=Lib.hid (fun dd os=>Calls.regrown_of (within_any k true t o a f.len cap (grow (redrawn w2 dd) os)));refine Qu.region_tail 5 (by kernel_rfl) (by kernel_rfl) ?_;simp only [List.take_succ_cons,List.take_zero,List.drop_succ_cons,List.drop_zero]
   repeat (first
    | (first | refine Qu.carry0 rfl (fun K hK=>?_) | refine Qu.carryG rfl rfl rfl (fun K hK=>?_)
       go_simp
       first
       | (refine hK _ ?_;clear hK K)
       | (apply Exists.intro;refine ⟨fun _=>?_,hK _ ?_⟩;exact HW.out _ _;clear hK K))
    | (refine Qu.passG rfl rfl rfl (fun K hK=>?_);go_simp;refine hK _ ?_;clear hK K))
   refine Qu.fin ?_;rintro ⟨dq,osq⟩;clear s0 s1 s2 s3 s4
   have hP:=HS.out _ _ (H3.out.below (below_regrown _ dq osq)) (HB0.out.trans (HK2.out.1.trans ((below_regrown w2 dq osq).mono (Nat.le_of_lt H3.out.lt)))) (by
    simp only [ByteArray.data_append,Array.toList_append,List.length_append,List.length_cons,List.length_nil]
    omega)
   have HK3:=Lib.hid (HK2.out.trans (Kept.of_below (below_regrown w2 dq osq) (Nat.le_of_lt H3.out.lt)));have HP:=Lib.hid hP;clear hP;generalize hwv2:grow (redrawn w2 dq) osq = wv2 at HP HK3 ⊢
   clear hwv2;go_wp2_with (go_at_call 59;refine (HP.out).mono ?_;rintro e w3 ⟨rfl,h5,h6⟩);have H5:=Lib.hid h5;have H6:=Lib.hid h6;clear h5 h6
   have HZ:=Lib.hid (writeByte_any _ _ 125 w3 H5.out (by
    simp only [ByteArray.data_append,Array.toList_append,List.length_append,List.length_cons,List.length_nil]
    omega))
   go_wp2_with (go_at_call_of 130 (Value.int IntKind.u8 125);refine (HZ.out).mono ?_;rintro e w4 ⟨rfl,h7,h8⟩);go_end0;refine ⟨rfl,?_,HKA.out.trans (HK3.out.trans (H6.out.trans h8))⟩;simpa [paramT,HM.out,List.append_assoc] using h7
 ·have HM:=Lib.hid (show (q && !(at' == 2)) = true by rw [← natI2];exact hm);have hq:q = true:=by cases q <;> simp_all
  subst hq;have hne:((at':Int) != 2) = true:=by simpa [bne] using hm
  clear hm;go_enter Tryz.func102,Tryz.ntmps102;have HX:=Lib.hid (writeByte_any _ acc 34 _ HI.out (by omega));go_wp2_with (go_at_call 130;refine (HX.out).mono ?_;rintro e w1 ⟨rfl,h1,h2⟩);have H1:=Lib.hid h1;have H2:=Lib.hid h2;clear h1 h2;have HB1:=Lib.hid (HBX0.out.kept H2.out HNE.out);have kw10:w1.cell? ⟨w.heap.size,0,none⟩ = some (.int .i64 k):=HB1.out.cell 0;have kw11:w1.cell? ⟨w.heap.size,1,none⟩ = some (.bool true):=HB1.out.cell 1;have kw12:w1.cell? ⟨w.heap.size,2,none⟩ = some (.string t):=HB1.out.cell 2;have kw13:w1.cell? ⟨w.heap.size,3,none⟩ = some (.string o):=HB1.out.cell 3;have kw14:w1.cell? ⟨w.heap.size,4,none⟩ = some (.slice a f.len cap):=HB1.out.cell 4;have r2:=cell_regrown kw12;have r3:=cell_regrown kw13;clear kw10 kw11 kw12 kw13 kw14;refine Qu.region_tail 9 (by kernel_rfl) (by kernel_rfl) ?_;simp only [List.take_succ_cons,List.take_zero,List.drop_succ_cons,List.drop_zero]
  repeat (first
   | (first | refine Qu.carry0 rfl (fun K hK=>?_) | refine Qu.carryG rfl rfl rfl (fun K hK=>?_)
      go_simp
      first
      | (refine hK _ ?_;clear hK K)
      | (apply Exists.intro;refine ⟨fun _=>?_,hK _ ?_⟩;fail;clear hK K))
   | (refine Qu.passG rfl rfl rfl (fun K hK=>?_);go_simp;refine hK _ ?_;clear hK K))
  refine Qu.fin ?_;rintro ⟨dq,osq⟩;clear r2 r3
  have hY:=writeString_any _ _ (⟨#[36,123]⟩ ++ t ++ o) _ (H1.out.below (below_regrown _ dq osq)) (by
   simp only [ByteArray.size_append,h2s]
   try simp only [List.length_append,List.length_cons,List.length_nil]
   omega)
  have HK1:=Lib.hid (H2.out.trans (Kept.of_below (below_regrown w1 dq osq) (Nat.le_of_lt H1.out.lt)));have HY:=Lib.hid hY;clear hY;generalize hwv:grow (redrawn w1 dq) osq = wv at HY HK1 ⊢
  clear hwv;go_wp2_with (go_at_call 38;refine (HY.out).mono ?_;rintro e w2 ⟨rfl,h3,h4⟩);have H3:=Lib.hid h3;have H4:=Lib.hid h4;clear h3 h4;have HK2:=Lib.hid (HK1.out.trans H4.out);have HB2:=Lib.hid (HBX0.out.kept HK2.out HNE.out);have kw20:w2.cell? ⟨w.heap.size,0,none⟩ = some (.int .i64 k):=HB2.out.cell 0;have kw21:w2.cell? ⟨w.heap.size,1,none⟩ = some (.bool true):=HB2.out.cell 1;have kw22:w2.cell? ⟨w.heap.size,2,none⟩ = some (.string t):=HB2.out.cell 2;have kw23:w2.cell? ⟨w.heap.size,3,none⟩ = some (.string o):=HB2.out.cell 3;have kw24:w2.cell? ⟨w.heap.size,4,none⟩ = some (.slice a f.len cap):=HB2.out.cell 4;have s0:=cell_regrown kw20;have s1:=cell_regrown kw21;have s2:=cell_regrown kw22;have s3:=cell_regrown kw23;have s4:=cell_regrown kw24;clear kw20 kw21 kw22 kw23 kw24;have HW:=Lib.hid (fun dd os=>Calls.regrown_of (within_any k true t o a f.len cap (grow (redrawn w2 dd) os)));refine Qu.region_tail 5 (by kernel_rfl) (by kernel_rfl) ?_;simp only [List.take_succ_cons,List.take_zero,List.drop_succ_cons,List.drop_zero]
  repeat (first
   | (first | refine Qu.carry0 rfl (fun K hK=>?_) | refine Qu.carryG rfl rfl rfl (fun K hK=>?_)
      go_simp
      first
      | (refine hK _ ?_;clear hK K)
      | (apply Exists.intro;refine ⟨fun _=>?_,hK _ ?_⟩;exact HW.out _ _;clear hK K))
   | (refine Qu.passG rfl rfl rfl (fun K hK=>?_);go_simp;refine hK _ ?_;clear hK K))
  refine Qu.fin ?_;rintro ⟨dq,osq⟩;clear s0 s1 s2 s3 s4
  have hP:=HS.out _ _ (H3.out.below (below_regrown _ dq osq)) (HB0.out.trans (HK2.out.1.trans ((below_regrown w2 dq osq).mono (Nat.le_of_lt H3.out.lt)))) (by
   simp only [ByteArray.data_append,Array.toList_append,List.length_append,List.length_cons,List.length_nil]
   omega)
  have HK3:=Lib.hid (HK2.out.trans (Kept.of_below (below_regrown w2 dq osq) (Nat.le_of_lt H3.out.lt)));have HP:=Lib.hid hP;clear hP;generalize hwv2:grow (redrawn w2 dq) osq = wv2 at HP HK3 ⊢
  clear hwv2;go_wp2_with (go_at_call 59;refine (HP.out).mono ?_;rintro e w3 ⟨rfl,h5,h6⟩);have H5:=Lib.hid h5;have H6:=Lib.hid h6;clear h5 h6
  have HZ:=Lib.hid (writeByte_any _ _ 125 w3 H5.out (by
   simp only [ByteArray.data_append,Array.toList_append,List.length_append,List.length_cons,List.length_nil]
   omega))
  go_wp2_with (go_at_call_of 130 (Value.int IntKind.u8 125);refine (HZ.out).mono ?_;rintro e w4 ⟨rfl,h7,h8⟩);have H7:=Lib.hid h7;have H8:=Lib.hid h8;clear h7 h8
  have HZ2:=Lib.hid (writeByte_any _ _ 34 w4 H7.out (by
   simp only [ByteArray.data_append,Array.toList_append,List.length_append,List.length_cons,List.length_nil]
   omega))
  go_wp2_with (go_at_call_of 130 (Value.int IntKind.u8 34);refine (HZ2.out).mono ?_;rintro e w5 ⟨rfl,h9,h10⟩);go_end0;refine ⟨rfl,?_,HKA.out.trans (HK3.out.trans (H6.out.trans (H8.out.trans h10)))⟩;simpa [paramT,HM.out,List.append_assoc] using h9
end Bd
end Go.Proofs.YtjmpfihopeohbaaGreatDoor
namespace Go.Proofs.YtjmpfihopeohbaaGreatDoor
open Go.RowKit Go.Sort
namespace Bd
open Cls Pt
theorem bytes_drop:∀ {n:Nat} {l r f:PL} {k:Int} {q:Bool} {t o:ByteArray},l.drop n = .cons k q t o f r→bytes (l.drop n) = 1 + t.size + o.size + bytes f + bytes (l.drop (n + 1)):=fun {n l r f k q t o} h=>by
 rw [PL.drop_succ h,h];rfl
theorem bytes_drop_le:∀ (n:Nat) (l:PL),bytes (l.drop n)≤bytes l
 | 0,_=>Nat.le_refl _
 | n + 1,.nil=>Nat.le_refl _
 | n + 1,.cons _ _ _ _ _ r=>by have:=bytes_drop_le n r;simp only [PL.drop,bytes];omega
theorem parts_step (w0:World) (m:Int) (l:PL) (a:Option Addr) (cap at':Nat) (acc:List UInt8) (w:World) (ha:at'≤2) (hl:Lies w0 a cap l) (hm:w0.cell? ⟨0,0,none⟩ = some (.int .i64 m)) (h:Is w0.heap.size acc w) (h0:Below w0.heap.size w0 w)
  (hsz:bytes l≤1000000) (hlen:acc.length + 5 * bytes l≤70368744177664)
  (hS:∀ (f:PL) (a:Option Addr) (cap:Nat) (q:Bool) (acc:List UInt8) (w:World),f.size < l.size→bytes f≤bytes l→Lies w0 a cap f→Is w0.heap.size acc w→Below w0.heap.size w0 w→acc.length + 5 * bytes f≤70368744177664 →
   Calls Tryz.prog 59 #[.pointer (some ⟨w0.heap.size,0,none⟩),.slice a f.len cap,.int .i64 (wth q)] w fun e w'=>e = .returned (.tuple #[])∧Is w0.heap.size (acc ++ textL f (wth q)) w'∧Kept w0.heap.size w w') :
  Calls Tryz.prog 59 #[.pointer (some ⟨w0.heap.size,0,none⟩),.slice a l.len cap,.int .i64 at'] w fun e w'=>e = .returned (.tuple #[])∧Is w0.heap.size (acc ++ textL l at') w'∧Kept w0.heap.size w w':=by
 have HL:=Lib.hid hl;have HS:=Lib.hid hS;have HI0:=Lib.hid h;have HB0:=Lib.hid h0;have HLN:=Lib.hid hlen;have HSZ:=Lib.hid hsz;have hm0:0 < w0.heap.size:=World.block_lt_of_cell? _ _ hm;have HM:=Lib.hid hm;clear hl hS h h0 hlen hsz hm;have hle:=HL.out.le;go_enter Tryz.func59,Tryz.ntmps59;go_wp2
 go_loopw [10] (fun i wr=>∃ (n:Nat) (acc':List UInt8),n≤l.len∧i = .int .i64 n∧Is w0.heap.size acc' wr∧acc ++ textL l at' = acc' ++ textL (l.drop n) at'∧Kept w0.heap.size w wr∧acc'.length + 5 * bytes (l.drop n)≤70368744177664) (fun i wr=>l.len - (intOf i).toNat)
 case atStart=>exact ⟨0,acc,Nat.zero_le _,rfl,HI0.out,rfl,Kept.refl _ _,HLN.out⟩
 case round =>
  obtain ⟨n,acc',hn,rfl,hi,htx,hkp,hln⟩:=hrel;have HI:=Lib.hid hi;have HT:=Lib.hid htx;have HK:=Lib.hid hkp;have HN:=Lib.hid hln;clear hi htx hkp hln
  by_cases hlt:n < l.len
  ·obtain ⟨k,q,t,o,f,r,hdr⟩:=PL.drop_at hlt;have HBW:=Lib.hid (HB0.out.trans HK.out.1);obtain ⟨b1,p1,rfl,hb1,c10,c11,c12,c13,ht,ho,a1,ca1,c14,hl1⟩:=(HL.out.below HBW.out).get hdr;obtain ⟨b2,p2,hb2,_,_,_,_,_,_,_,a2,ca2,d14,hl2⟩:=HL.out.get hdr;obtain ⟨rfl,rfl⟩:b1 = b2∧p1 = p2:=by simpa using hb2
   have hd14:=d14;rw [← HBW.out.cell (p:=⟨b1,p1 + n * 5 + 4,none⟩) (World.block_lt_of_cell? _ _ d14),c14] at d14;obtain ⟨rfl,rfl⟩:a1 = a2∧ca1 = ca2:=by simpa using d14
   have hszf:f.size < l.size:=by
    have:=PL.drop_size n l;rw [hdr] at this;simp only [PL.size] at this;omega
   have hby:=bytes_drop hdr;have hble:=bytes_drop_le n l;have hsz:=HSZ.out;have hln:=HN.out;have hpl:=part_len k q t o f at'
   have HTX:=Lib.hid (show acc ++ textL l at' = (acc' ++ partT k q t o f at') ++ textL (l.drop (n + 1)) at' by
    rw [HT.out,PL.drop_succ hdr,hdr,textL_cons,List.append_assoc])
   have HLX:=Lib.hid (show (acc' ++ partT k q t o f at').length + 5 * bytes (l.drop (n + 1))≤70368744177664 by
    rw [List.length_append];omega)
   have HLF:=Lib.hid hl2;have hmw:=HBW.out.cell (p:=⟨0,0,none⟩) hm0;clear hb2 d14 hd14 hl1 hl2 hdr;rw [HM.out] at hmw;have HMW:=Lib.hid hmw;clear hmw;have HF1:=Lib.hid (show 1 + t.size + o.size + bytes f≤1000000∧acc'.length + 5 * (1 + t.size + o.size + bytes f)≤70368744177664∧bytes f≤bytes l from ⟨by omega,by omega,by omega⟩);clear hby hble hsz hln hpl;cases hk2:(k == 2)
   ·cases h2:((at':Int) == 2)
    ·have HNE2:=Lib.hid (show (at' == 2) = false by rw [← natI2];exact h2);cases q
     ·have HE:=Lib.hid (show partT k false t o f at' = t.data.toList by simp [partT,hk2,HNE2.out]);rw [HE.out] at HTX HLX;have HBX:=Lib.hid (show Box (wr.alloc (.cells #[.int .i64 k,.bool false,.string t,.string o,.slice a1 f.len ca1] 75)) wr.heap.size k false t o a1 f.len ca1 from heap_alloc_new wr _);have HIA:=Lib.hid (HI.out.below (bel1 wr (.cells #[.int .i64 k,.bool false,.string t,.string o,.slice a1 f.len ca1] 75)));have HKA:=Lib.hid (HK.out.trans (Kept.of_below (bel1 wr (.cells #[.int .i64 k,.bool false,.string t,.string o,.slice a1 f.len ca1] 75)) (Nat.le_of_lt HI.out.lt)));go_wp2;generalize wr.alloc (.cells #[.int .i64 k,.bool false,.string t,.string o,.slice a1 f.len ca1] 75) = w1 at HIA HBX HKA ⊢
      have r2:=cell_regrown (show w1.cell? ⟨wr.heap.size,2,none⟩ = some (.string t) from HBX.out.cell 2);refine Qu.region_tail 5 (by kernel_rfl) (by kernel_rfl) ?_;simp only [List.take_succ_cons,List.take_zero,List.drop_succ_cons,List.drop_zero]
      repeat (first
       | (first | refine Qu.carry0 rfl (fun K hK=>?_) | refine Qu.carryG rfl rfl rfl (fun K hK=>?_)
          go_simp
          first
          | (refine hK _ ?_;clear hK K)
          | (apply Exists.intro;refine ⟨fun _=>?_,hK _ ?_⟩;fail;clear hK K))
       | (refine Qu.passG rfl rfl rfl (fun K hK=>?_);go_simp;refine hK _ ?_;clear hK K))
      refine Qu.fin ?_;rintro ⟨dq,osq⟩;have HY:=Lib.hid (writeString_any _ acc' t _ (HIA.out.below (below_regrown _ dq osq)) (by have:=HF1.out;omega));have HKB:=Lib.hid (HKA.out.trans (Kept.of_below (below_regrown w1 dq osq) (Nat.le_of_lt HIA.out.lt)));clear r2;generalize hwv:grow (redrawn w1 dq) osq = wv at HY HKB ⊢
      clear hwv;go_wp2_with (go_at_call 38;refine (HY.out).mono ?_;rintro e w2 ⟨rfl,h3,h4⟩);have H3:=Lib.hid h3;have H4:=Lib.hid h4;clear h3 h4;go_roundw
      case rel=>exact ⟨n + 1,_,by omega,by go_num,H3.out,HTX.out,HKB.out.trans H4.out,HLX.out⟩
      case measure=>simp [intOf];omega
     ·have HE:=Lib.hid (show partT k true t o f at' = quoteL t.data.toList by simp [partT,hk2,HNE2.out]);rw [HE.out] at HTX HLX;have HIA:=Lib.hid (HI.out.below (bel1 wr (.cells #[.int .i64 k,.bool true,.string t,.string o,.slice a1 f.len ca1] 75)));have HKA:=Lib.hid (HK.out.trans (Kept.of_below (bel1 wr (.cells #[.int .i64 k,.bool true,.string t,.string o,.slice a1 f.len ca1] 75)) (Nat.le_of_lt HI.out.lt)));have HY:=Lib.hid (quote_any w0.heap.size acc' t m (wr.alloc (.cells #[.int .i64 k,.bool true,.string t,.string o,.slice a1 f.len ca1] 75)) HIA.out (by rw [(bel1 wr (.cells #[.int .i64 k,.bool true,.string t,.string o,.slice a1 f.len ca1] 75)).cell (p:=⟨0,0,none⟩) (Nat.lt_trans hm0 HI.out.lt)];exact HMW.out) hm0 (by have:=HF1.out;omega) (by have:=HF1.out;omega));go_wp2_with (go_at_call 104;refine (HY.out).mono ?_;rintro e w2 ⟨rfl,h3,h4⟩);have H3:=Lib.hid h3;have H4:=Lib.hid h4;clear h3 h4;go_roundw
      case rel=>exact ⟨n + 1,_,by omega,by go_num,H3.out,HTX.out,HKA.out.trans H4.out,HLX.out⟩
      case measure=>simp [intOf];omega
    ·have HNE2:=Lib.hid (show (at' == 2) = true by rw [← natI2];exact h2);have HE:=Lib.hid (show partT k q t o f at' = escL t.data.toList by simp [partT,hk2,HNE2.out]);rw [HE.out] at HTX HLX;have HIA:=Lib.hid (HI.out.below (bel1 wr (.cells #[.int .i64 k,.bool q,.string t,.string o,.slice a1 f.len ca1] 75)));have HKA:=Lib.hid (HK.out.trans (Kept.of_below (bel1 wr (.cells #[.int .i64 k,.bool q,.string t,.string o,.slice a1 f.len ca1] 75)) (Nat.le_of_lt HI.out.lt)));have HY:=Lib.hid (escape_any w0.heap.size acc' t (wr.alloc (.cells #[.int .i64 k,.bool q,.string t,.string o,.slice a1 f.len ca1] 75)) HIA.out (by have:=HF1.out;omega));go_wp2_with (go_at_call 103;refine (HY.out).mono ?_;rintro e w2 ⟨rfl,h3,h4⟩);have H3:=Lib.hid h3;have H4:=Lib.hid h4;clear h3 h4;go_roundw
     case rel=>exact ⟨n + 1,_,by omega,by go_num,H3.out,HTX.out,HKA.out.trans H4.out,HLX.out⟩
     case measure=>simp [intOf];omega
   ·have HE:=Lib.hid (show partT k q t o f at' = paramT q t o f at' by simp [partT,hk2]);rw [HE.out] at HTX HLX;have HIA:=Lib.hid (HI.out.below (bel1 wr (.cells #[.int .i64 k,.bool q,.string t,.string o,.slice a1 f.len ca1] 75)));have HKA:=Lib.hid (HK.out.trans (Kept.of_below (bel1 wr (.cells #[.int .i64 k,.bool q,.string t,.string o,.slice a1 f.len ca1] 75)) (Nat.le_of_lt HI.out.lt)));have HY:=Lib.hid (param_walk w0 k q t o a1 ca1 at' f acc' (wr.alloc (.cells #[.int .i64 k,.bool q,.string t,.string o,.slice a1 f.len ca1] 75)) ha HIA.out (HB0.out.trans HKA.out.1) HF1.out.1 HF1.out.2.1 (fun acc w hi hb hln=>HS.out f a1 ca1 q acc w hszf HF1.out.2.2 HLF.out hi hb hln));go_wp2_with (go_at_call 102;refine (HY.out).mono ?_;rintro e w2 ⟨rfl,h3,h4⟩);have H3:=Lib.hid h3;have H4:=Lib.hid h4;clear h3 h4;go_roundw
    case rel=>exact ⟨n + 1,_,by omega,by go_num,H3.out,HTX.out,HKA.out.trans H4.out,HLX.out⟩
    case measure=>simp [intOf];omega
  ·obtain rfl:n = l.len:=by omega
   go_wp2;go_end0;exact ⟨rfl,by have:=HI.out;have h5:=HT.out;rw [PL.drop_end (Nat.le_refl _)] at h5;rw [h5];simpa [textL] using this,HK.out⟩
theorem parts_any (w0:World) (m:Int) (hm:w0.cell? ⟨0,0,none⟩ = some (.int .i64 m)) (n:Nat):∀ (l:PL) (a:Option Addr) (cap at':Nat) (acc:List UInt8) (w:World),l.size < n→at'≤2→Lies w0 a cap l→Is w0.heap.size acc w→Below w0.heap.size w0 w →
  bytes l≤1000000→acc.length + 5 * bytes l≤70368744177664 →
  Calls Tryz.prog 59 #[.pointer (some ⟨w0.heap.size,0,none⟩),.slice a l.len cap,.int .i64 at'] w fun e w'=>e = .returned (.tuple #[])∧Is w0.heap.size (acc ++ textL l at') w'∧Kept w0.heap.size w w':=by
 induction n with
 | zero=>intro _ _ _ _ _ _ h;omega
 | succ n ih =>
  intro l a cap at' acc w hn ha hl hi hb hsz hlen;exact parts_step w0 m l a cap at' acc w ha hl hm hi hb hsz hlen (fun f a cap q acc w hf hbf hl hi hb hlen=>ih f a cap (wth q) acc w (by omega) (by cases q <;> simp [wth]) hl hi hb (by omega) hlen)
end Bd
end Go.Proofs.YtjmpfihopeohbaaGreatDoor
namespace Go.Proofs.YtjmpfihopeohbaaGreatDoor
open Go.RowKit Go.Sort
namespace Bd
open Cls Pt
theorem string_nil (b:Nat) (p:Value) (w:World) (hbk:w.heap[b]? = some (.cells #[p,.slice none 0 0] 95 (0,0))) :
  Calls Tryz.prog 20 #[.pointer (some ⟨b,0,none⟩)] w fun e w'=>e = .returned (.string ⟨#[]⟩)∧Below w.heap.size w w':=by
 have c1:w.drew.cell? ⟨b,1,none⟩ = some (.slice none 0 0):=by
  have:w.drew.heap[b]? = some (.cells #[p,.slice none 0 0] 95 (0,0)):=hbk;rw [Lib.cell_of_heap this];rfl
 have hSD:(Builtin.unsafeSliceData_ #[47] 85 #[.slice none 0 0]).run Tryz.prog w.drew = .ok (.pointer none) w.drew:=rfl;have hUS:∀ w:World,(Builtin.unsafeString_ #[85,3] 9 #[.pointer none,.int .i64 0]).run Tryz.prog w = .ok (.string ⟨#[]⟩) w:=fun w=>Lib.run_unsafeString_none w _ _ _ none;go_enter Tryz.func20,Tryz.ntmps20;go_wp2;go_region
 all_goals (go_wp2;go_ret;exact ⟨rfl,Below.drew (Below.refl _ w)⟩)
theorem parts_nil (b:Addr) (a:Option Addr) (cap at':Nat) (w:World) :
  Calls Tryz.prog 59 #[.pointer (some b),.slice a 0 cap,.int .i64 at'] w fun e w'=>e = .returned (.tuple #[])∧w' = w:=by
 go_enter Tryz.func59,Tryz.ntmps59;go_wp2
 go_loop [10] (fun i=>i = .int .i64 0) (fun _=>0)
 case atStart=>rfl
 case round =>
  subst hrel;go_wp2;go_end0;exact ⟨rfl,rfl⟩
theorem text_ne {k:Int} {q:Bool} {t o:ByteArray} {f r:PL} {d:Nat} (h:rightL none (.cons k q t o f r) 0 d = true):textL (.cons k q t o f r) 0 ≠ []:=by
 rw [textL_cons];intro h0;have h1:=List.append_eq_nil_iff.1 h0 |>.1;simp only [partT,paramT] at h1;cases hk:(k == 2)
 ·rw [hk] at h1;cases q
  ·simp at h1;simp only [rightL,Bool.and_eq_true] at h;have h2:=h.1.2;cases hk1:(k == 1)
   ·rw [hk1,hk] at h2;simp at h2
   ·rw [hk1] at h2;simp [textOK,h1] at h2
  ·simp [quoteL] at h1
 ·rw [hk] at h1;cases q <;> simp at h1
def valueText (l:PL):List UInt8:=if rightL none l 0 1 then textL l 0 else []
theorem text_most (l:PL) (a:Option Addr) (cap:Nat) (m:Int) (w:World) (hl:Lies w a cap l) (hm:w.cell? ⟨0,0,none⟩ = some (.int .i64 m)) (hsz:bytes l≤1000000) :
  Calls Tryz.prog 39 #[.slice a l.len cap] w fun e w'=>e = .returned (.string ⟨(valueText l).toArray⟩)∧Below w.heap.size w w':=by
 have hV:=value_any l a cap w hl;have hm0:0 < w.heap.size:=World.block_lt_of_cell? _ _ hm;cases hr:rightL none l 0 1
 ·rw [hr] at hV;have HV:=Lib.hid hV;have HR:=Lib.hid (show valueText l = [] by simp [valueText,hr]);clear hV hl hm hr;go_enter Tryz.func39,Tryz.ntmps39;go_wp2_with (go_at_call 58;refine (HV.out).mono ?_;rintro e w1 ⟨rfl,hb⟩);go_ret;exact ⟨by rw [HR.out];rfl,by assumption⟩
 ·rw [hr] at hV;have HV:=Lib.hid hV;have HR:=Lib.hid (show valueText l = textL l 0 by simp [valueText,hr]);have HL:=Lib.hid hl;have HM:=Lib.hid hm;have HRR:=Lib.hid hr;clear hV hl hm hr;go_enter Tryz.func39,Tryz.ntmps39;cases l with
  | nil =>
   have hlen:PL.nil.len = 0:=rfl;rw [hlen]
   go_wp2_with (first
    | (go_at_call 58;refine (HV.out).mono ?_;rintro e w1 ⟨rfl,hb⟩;have HB:=Lib.hid hb;clear hb)
    | (go_at_call 59;refine (parts_nil _ _ _ 0 _).mono ?_;rintro e w2 ⟨rfl,rfl⟩)
    | (go_at_call 20;refine (string_nil _ (.pointer none) _ (heap_alloc_new _ _)).mono ?_;rintro e w3 ⟨rfl,hb3⟩))
   go_ret;exact ⟨rfl,thru HB.out (thru (bel1 _ _) hb3)⟩
  | cons k q t o f r =>
   have HNE:=Lib.hid (text_ne HRR.out);go_wp2_with (go_at_call 58;refine (HV.out).mono ?_;rintro e w1 ⟨rfl,hb⟩;have HB:=Lib.hid hb;clear hb);have hP:=parts_any w1 m ((HB.out.cell (p:=⟨0,0,none⟩) hm0).trans HM.out) ((PL.cons k q t o f r).size + 1) (.cons k q t o f r) a cap 0 [] (w1.alloc (.cells #[.pointer none,.slice none 0 0] 95)) (by omega) (by omega) (HL.out.below HB.out) (Lib.IsBuilderF.of (Lib.fresh_isBuilder 95 5 w1)) (bel1 _ _) hsz (by simp only [List.length_nil];omega);rw [List.nil_append] at hP;have HP:=Lib.hid hP;clear hP;go_wp2_with (go_at_call 59;refine (HP.out).mono ?_;rintro e w2 ⟨rfl,h1,h2⟩);have HS:=Lib.hid (string_any _ _ _ h1 HNE.out);have H2:=Lib.hid h2;clear h1 h2;go_wp2_with (go_at_call 20;refine (HS.out).mono ?_;rintro e w3 ⟨rfl,hb3⟩);go_ret;exact ⟨by rw [HR.out];rfl,thru HB.out ((bel1 w1 _).trans (H2.out.1.trans hb3))⟩
end Bd
end Go.Proofs.YtjmpfihopeohbaaGreatDoor
