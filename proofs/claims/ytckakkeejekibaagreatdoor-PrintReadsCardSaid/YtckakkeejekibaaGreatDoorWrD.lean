/- strings.Builder as the first field of a struct of the project's own (word.writer): WriteByte, WriteString, String at a block of that type (the shelf's contracts ask a block of type strings.Builder: these go after them). -/
import Derived.Lib.AppendIntMem
import Derived.Test.YtckakkeejekibaaGreatDoorPtY
set_option maxHeartbeats 2000000
set_option maxRecDepth 100000
set_option linter.unusedVariables false
namespace Go.Proofs.YtckakkeejekibaaGreatDoor
open Go.RowKit
namespace Bd
def Is (b:Nat) (l:List UInt8) (w:World):Prop:=Lib.IsBuilderF 95 5 b b (Lib.byteCells l) w
def Kept (b:Nat) (w w':World):Prop:=Below b w w'∧Lib.OthersKept 5 (some b) w w'
theorem Kept.refl (b:Nat) (w:World):Kept b w w:=⟨Below.refl _ _,Lib.OthersKept.refl _ _ _⟩
theorem Kept.trans {b:Nat} {w w1 w2:World} (h:Kept b w w1) (k:Kept b w1 w2):Kept b w w2:=⟨h.1.trans k.1,h.2.trans k.2⟩
theorem Is.lt {b:Nat} {l:List UInt8} {w:World} (h:Is b l w):b < w.heap.size:=by
 rcases h with h | h
 ·exact h.lt
 ·exact h.lt
theorem xL:(Tryz.prog.info? 49).map (·.size) = some 2:=by kernel_rfl
theorem OD:liesAt Tryz.prog Tryz.prog.depth 95 (2 / Tryz.prog.cellsOf 95) 0 49 1 = true:=by kernel_rfl
theorem infoByte:(Tryz.prog.info? 5).map (fun i=>(i.zero,i.size,i.bytes)) = some (some (.int .u8 0),1,1):=by kernel_rfl
theorem nP (b:Nat) (w:World) (h0:w.cell? ⟨b,0,none⟩ = some (.pointer (some ⟨b,0,none⟩))) :
  Calls Tryz.prog 57 #[.pointer (some ⟨b,0,none⟩)] w fun e w'=>e = .returned (.tuple #[])∧w' = w:=by
 obtain ⟨j,hj,_⟩:=Option.map_eq_some_iff.1 xL;go_enter Tryz.func57,Tryz.ntmps57;go_wp2;rw [Lib.run_neq_ptr_same w _ Tryz.underlying46 hj];go_wp2;go_end0;exact ⟨rfl,rfl⟩
theorem mY (b:Nat) (w:World) (h0:w.cell? ⟨b,0,none⟩ = some (.pointer none)) (LQ:w.shape? b = some (95,2)) (hfz:w.frozen? ⟨b,0,none⟩ = false) :
  Calls Tryz.prog 57 #[.pointer (some ⟨b,0,none⟩)] w fun e w'=>e = .returned (.tuple #[])∧w' = w.setCell ⟨b,0,none⟩ (.pointer (some ⟨b,0,none⟩)):=by
 obtain ⟨j,hj,ET⟩:=Option.map_eq_some_iff.1 xL;go_enter Tryz.func57,Tryz.ntmps57;go_wp2;rw [Lib.run_to_unsafe w ⟨b,0,none⟩ Tryz.underlying46 Tryz.underlying114 hj (by rw [ET];decide) LQ (Nat.zero_lt_succ 1)];simp only [Result.andThen];rw [Oper.upon_value];go_wp2;rw [run_callFunc_extern Tryz.func100 (by kernel_rfl) (by kernel_rfl) (by kernel_rfl) (e:=Extern.AbiNoEscape.same) (by kernel_rfl)];rw [Lib.run_noEscape];simp only [Result.andThen];rw [Oper.upon_value];go_wp2;rw [Lib.run_from_unsafe w ⟨b,0,none⟩ Tryz.underlying114 Tryz.underlying46 hj LQ OD];simp only [Result.andThen];rw [Oper.upon_value];go_wp2;go_end0;exact ⟨rfl,rfl⟩
theorem mi (b:Nat) (bs:List Value) (w:World) (h:Lib.IsBuilderF 95 5 b b bs w) :
  Calls Tryz.prog 57 #[.pointer (some ⟨b,0,none⟩)] w fun e w'=>e = .returned (.tuple #[])∧(Lib.BuilderAtF 95 5 b b (.pointer (some ⟨b,0,none⟩)) bs w'∧Below b w w'∧Lib.OthersKept 5 (some b) w w'):=by
 rcases h with h | h
 ·refine (mY b w h.cell0 h.shape h.frozen0).mono ?_;rintro e w' ⟨rfl,rfl⟩;exact ⟨rfl,h.used _,(Below.refl b w).setCell (p:=⟨b,0,none⟩) h.1 _,(Lib.OthersKept.refl _ _ w).setCell ⟨b,0,none⟩ rfl _⟩
 ·refine (nP b w h.cell0).mono ?_;rintro e w' ⟨rfl,rfl⟩;exact ⟨rfl,h,Below.refl b _,Lib.OthersKept.refl _ _ _⟩
theorem fZ (b:Nat) (l:List UInt8) (c:UInt8) (w:World) (h:Is b l w) (hlen:l.length + 1≤140737488355328) :
  Calls Tryz.prog 130 #[.pointer (some ⟨b,0,none⟩),.int .u8 c.toNat] w fun e w'=>e = .returned .nilIface∧Is b (l ++ [c]) w'∧Kept b w w':=by
 obtain ⟨i0,hi,qd,kQ,lM⟩:=info_parts infoByte;have hBw:b≤w.heap.size:=Nat.le_of_lt h.lt;rw [← Lib.byteCells_length l] at hlen;have OE:Lib.byteCells (l ++ [c]) = Lib.byteCells l ++ [.int .u8 c.toNat]:=by rw [Lib.byteCells_append];rfl
 unfold Is Kept;unfold Is at h;rw [OE];go_enter Tryz.func130,Tryz.ntmps130;go_wp2_with (go_at_call 57;refine (mi b (Lib.byteCells l) _ h).mono ?_);rintro e w1 ⟨rfl,h1,aP,wC⟩;obtain ⟨hB,v,wD,dR,jD⟩:=h1;have c0:w1.cell? ⟨b,0,none⟩ = some (.pointer (some ⟨b,0,none⟩)):=by rw [Lib.cell_of_heap wD];rfl
 have c1:w1.cell? ⟨b,1,none⟩ = some v:=by rw [Lib.cell_of_heap wD];rfl
 go_wp2_with (at_builtin;refine wpList_append_ownF _ rfl _ _ 47 rfl b 5 i0 (.int .u8 0) 1 1 Tryz.underlying47 hi qd kQ lM rfl (by decide) _ _ _ rfl (dR.alloc _) ⟨w1.heap.size,0,none⟩ 1 1 [.int .u8 c.toNat] rfl rfl ?c1 ?c2 ?c3 ?c4 ?c5 ?_)
 case c1 =>
  intro j u hj
  match j,hj with
  | 0,hj=>simp at hj;subst hj;simp [Addr.add]
 case c2=>intro u hu;simp at hu;subst hu;rfl
 case c3=>unfold maxLen;omega
 case c4=>omega
 case c5=>have:=aP.size;simp;omega
 intro v' w2 xM dI _;have aB:b < w1.heap.size:=by
  rcases Nat.lt_or_ge b w1.heap.size with h' | h'
  ·exact h'
  ·simp [Array.getElem?_eq_none h'] at wD
 have d9:w2.heap[b]? = some (.cells #[.pointer (some ⟨b,0,none⟩),v] 95 (0,0)):=by
  rw [dI.block b (by simp;omega) (fun e=>jD e.symm),Lib.alloc_old w1 _ b aB];exact wD
 have d0:w2.cell? ⟨b,0,none⟩ = some (.pointer (some ⟨b,0,none⟩)):=by rw [Lib.cell_of_heap d9];rfl
 have d1:w2.cell? ⟨b,1,none⟩ = some v:=by rw [Lib.cell_of_heap d9];rfl
 have f1:w2.frozen? ⟨b,1,none⟩ = false:=Lib.frozen_of_heap d9 1;obtain ⟨g,cap,rfl⟩:∃ g cap,v' = .slice (some ⟨g,0,none⟩) ((Lib.byteCells l).length + 1) cap:=by
  rcases xM.2 with ⟨_,h0⟩ | ⟨g,cap,cur,fz,hv,_⟩
  ·omega
  ·exact ⟨g,cap,hv⟩
 go_wp2;go_ret;refine ⟨rfl,.inr ?_,?_,((wC.alloc _).grown dI (Lib.ownsRowF_kind (dR.alloc _))).setCell ⟨b,1,none⟩ rfl _⟩
 ·exact Lib.BuilderAtF.put (T:=95) (e:=5) hB d9 (bs':=Lib.byteCells l ++ [.int .u8 c.toNat]) (by simpa using xM) (by decide)
 ·exact ((aP.alloc (by have:=aP.size;omega) _).grown dI (by have:=aP.size;simp;omega) (fun k hk=>(dR.lt k hk).1)).setCell (p:=⟨b,1,none⟩) hB _
theorem gD (b:Nat) (l:List UInt8) (s:ByteArray) (w:World) (h:Is b l w) (hlen:l.length + s.size≤140737488355328) :
  Calls Tryz.prog 38 #[.pointer (some ⟨b,0,none⟩),.string s] w fun e w'=>e = .returned (.tuple #[.int .i64 s.size,.nilIface])∧Is b (l ++ s.data.toList) w'∧Kept b w w':=by
 obtain ⟨i0,hi,qd,kQ,lM⟩:=info_parts infoByte;have hBw:b≤w.heap.size:=Nat.le_of_lt h.lt;rw [← Lib.byteCells_length l] at hlen;have OE:Lib.byteCells (l ++ s.data.toList) = Lib.byteCells l ++ Lib.strCells s:=by rw [Lib.byteCells_append];rfl
 unfold Is Kept;unfold Is at h;rw [OE];go_enter Tryz.func38,Tryz.ntmps38;go_wp2_with (go_at_call 57;refine (mi b (Lib.byteCells l) _ h).mono ?_);rintro e w1 ⟨rfl,h1,aP,wC⟩;obtain ⟨hB,v,wD,dR,jD⟩:=h1;have c0:w1.cell? ⟨b,0,none⟩ = some (.pointer (some ⟨b,0,none⟩)):=by rw [Lib.cell_of_heap wD];rfl
 have c1:w1.cell? ⟨b,1,none⟩ = some v:=by rw [Lib.cell_of_heap wD];rfl
 go_wp2_with (at_builtin;refine Lib.wpList_append_own_stringF _ rfl _ _ 47 9 rfl b 5 i0 Tryz.underlying47 Tryz.underlying9 hi qd kQ lM _ _ _ rfl dR s rfl ?c3 ?c4 ?c5 ?_)
 case c3=>unfold maxLen;omega
 case c4=>omega
 case c5=>have:=aP.size;omega
 intro v' w2 xM dI _;have aB:b < w1.heap.size:=by
  rcases Nat.lt_or_ge b w1.heap.size with h' | h'
  ·exact h'
  ·simp [Array.getElem?_eq_none h'] at wD
 have d9:w2.heap[b]? = some (.cells #[.pointer (some ⟨b,0,none⟩),v] 95 (0,0)):=by
  rw [dI.block b aB (fun e=>jD e.symm)];exact wD
 have d0:w2.cell? ⟨b,0,none⟩ = some (.pointer (some ⟨b,0,none⟩)):=by rw [Lib.cell_of_heap d9];rfl
 have d1:w2.cell? ⟨b,1,none⟩ = some v:=by rw [Lib.cell_of_heap d9];rfl
 have f1:w2.frozen? ⟨b,1,none⟩ = false:=Lib.frozen_of_heap d9 1;obtain ⟨ao,n',cap,rfl⟩:∃ ao n' cap,v' = .slice ao n' cap:=by
  rcases xM.2 with ⟨hv,_⟩ | ⟨g,cap,cur,fz,hv,_⟩
  ·exact ⟨_,_,_,hv⟩
  ·exact ⟨_,_,_,hv⟩
 go_wp2;go_ret2;refine ⟨rfl,.inr ?_,?_,(wC.grown dI (Lib.ownsRowF_kind dR)).setCell ⟨b,1,none⟩ rfl _⟩
 ·exact Lib.BuilderAtF.put (T:=95) (e:=5) hB d9 (bs':=Lib.byteCells l ++ Lib.strCells s) (by simpa [Lib.strCells_length] using xM) (by decide)
 ·exact (aP.grown dI (by have:=aP.size;omega) (fun k hk=>(dR.lt k hk).1)).setCell (p:=⟨b,1,none⟩) hB _
theorem uu (b:Nat) (l:List UInt8) (w:World) (h:Is b l w) (h0:l ≠ []) :
  Calls Tryz.prog 20 #[.pointer (some ⟨b,0,none⟩)] w fun e w'=>e = .returned (.string ⟨l.toArray⟩)∧Below b w w':=by
 obtain ⟨p,hB,v,wD,dR,jD⟩:∃ p,Lib.BuilderAtF 95 5 b b p (Lib.byteCells l) w:=by
  rcases h with h | h
  ·exact ⟨_,h⟩
  ·exact ⟨_,h⟩
 have ZZ:l.length ≠ 0:=by simpa using h0
 rw [Lib.byteCells_length] at dR;obtain ⟨g,cap,cur,fz,rfl,Ii,hg,hnc,hcm,hcs⟩:∃ g cap cur fz,v = .slice (some ⟨g,0,none⟩) l.length cap∧b≤g∧w.heap[g]? = some (.cells cur 5 fz)∧l.length≤cap∧cap≤maxLen∧cur.size = cap * 1:=by
  rcases dR.2 with ⟨_,hz⟩ | ⟨g,cap,cur,fz,hv,r1,r2,_,r3,r4,r5,_⟩
  ·exact absurd hz ZZ
  ·exact ⟨g,cap,cur,fz,hv,r1,r2,r3,r4,r5⟩
 have c1:w.drew.cell? ⟨b,1,none⟩ = some (.slice (some ⟨g,0,none⟩) l.length cap):=by
  have:w.drew.heap[b]? = some (.cells #[p,.slice (some ⟨g,0,none⟩) l.length cap] 95 (0,0)):=wD;rw [Lib.cell_of_heap this];rfl
 have hSD:(Builtin.unsafeSliceData_ #[47] 85 #[.slice (some ⟨g,0,none⟩) l.length cap]).run Tryz.prog w.drew = .ok (.pointer (some ⟨g,0,none⟩)) w.drew :=
  Lib.run_unsafeSliceData_row _ _ _ _ _ _ (by omega)
 have hUS:(Builtin.unsafeString_ #[85,3] 9 #[.pointer (some ⟨g,0,none⟩),.int .i64 l.length]).run Tryz.prog w.drew = .ok (.string ⟨l.toArray⟩) (w.drew.freeze ⟨g,0,none⟩ l.length):=by
  refine Lib.run_unsafeString_row w.drew 85 3 9 5 Tryz.underlying85 (by kernel_rfl) g cur.size (by have Ep:w.drew.heap[g]? = some (.cells cur 5 fz):=hg;simp [World.shape?,Ep]) l h0 (by omega) (by unfold maxLen at hcm;omega) ?_;intro j x hx;have:=dR.cells (g:=g) rfl j (.int .u8 x.toNat) (by simp [Lib.byteCells,hx]);exact this
 go_enter Tryz.func20,Tryz.ntmps20;go_wp2;go_region
 all_goals (go_wp2;go_ret;exact ⟨rfl,Lib.below_freeze (Below.drew (Below.refl b w)) (p:=⟨g,0,none⟩) Ii _⟩)
end Bd
end Go.Proofs.YtckakkeejekibaaGreatDoor
namespace Go.Proofs.YtckakkeejekibaaGreatDoor
open Go.RowKit Go.Sort
namespace Bd
open j6 Pt
theorem Is.below {b:Nat} {l:List UInt8} {w w':World} (h:Is b l w) (hb:Below w.heap.size w w'):Is b l w':=by
 have key:∀ p,Lib.BuilderAtF 95 5 b b p (Lib.byteCells l) w→Lib.BuilderAtF 95 5 b b p (Lib.byteCells l) w':=by
  rintro p ⟨hB,v,wD,dR,jD⟩;have aB:∀ {k:Nat} {o:Obj},w.heap[k]? = some o→w'.heap[k]? = some o:=fun {k o} h=>(hb.block k (Array.getElem?_eq_some_iff.1 h).1).trans h;refine ⟨hB,v,aB wD,⟨dR.1,?_⟩,jD⟩;rcases dR.2 with h | ⟨g,cap,cur,fz,hv,hg,hh,hr⟩
  ·exact .inl h
  ·exact .inr ⟨g,cap,cur,fz,hv,hg,aB hh,hr⟩
 exact h.elim (fun x=>.inl (key _ x)) (fun x=>.inr (key _ x))
theorem Kept.of_below {b:Nat} {w w':World} (h:Below w.heap.size w w') (hb:b≤w.heap.size):Kept b w w' :=
 ⟨h.mono hb,fun k _ hk _ _=>(h.block k (Array.getElem?_eq_some_iff.1 hk).1).trans hk⟩
def oH (l:List UInt8):List UInt8:=l.flatMap fun c=>if qK c.toNat then [92,c] else [c]
theorem BP {l:List UInt8} {k:Nat} (hk:k < l.length):oH (l.take (k + 1)) = oH (l.take k) ++ (if qK (l.getD k 0).toNat then [92,l.getD k 0] else [l.getD k 0]):=by
 rw [List.take_succ_eq_append_getElem hk];simp only [oH,List.flatMap_append,List.flatMap_cons,List.flatMap_nil,List.append_nil,List.getD,List.getElem?_eq_getElem hk,Option.getD_some]
theorem zb (l:List UInt8):(oH l).length≤2 * l.length:=by
 induction l with
 | nil=>simp [oH]
 | cons c l ih =>
  simp only [oH,List.flatMap_cons,List.length_append,List.length_cons] at ih ⊢
  split <;> simp only [List.length_cons,List.length_nil] <;> omega
theorem Bo (l:List UInt8) (k:Nat):(oH (l.take k)).length≤2 * l.length :=
 Nat.le_trans (zb _) (by simp;omega)
theorem IQ (b:Nat) (l:List UInt8) (s:ByteArray) (w:World) (h:Is b l w) (hlen:l.length + 2 * s.size≤70368744177664) :
  Calls Tryz.prog 103 #[.pointer (some ⟨b,0,none⟩),.string s] w fun e w'=>e = .returned (.tuple #[])∧Is b (l ++ oH s.data.toList) w'∧Kept b w w':=by
 have HI:=Lib.hid h;clear h;have HN:=Lib.hid (iE s);have hs:s.size≤140737488351232:=by omega
 have HLn:=Lib.hid hlen;clear hlen;go_enter Tryz.func103,Tryz.ntmps103;go_wp2
 go_loopw [7] (fun i wr=>∃ k:Nat,k≤s.size∧i = .int .i64 k∧Is b (l ++ oH (s.data.toList.take k)) wr∧Kept b w wr) (fun i wr=>s.size - (intOf i).toNat)
 case atStart=>exact ⟨0,Nat.zero_le _,rfl,by simpa [oH] using HI.out,Kept.refl _ _⟩
 case round =>
  obtain ⟨k,hk,rfl,hi,hkp⟩:=hrel;have Z0:=Lib.hid hi;have HK:=Lib.hid hkp;clear hi hkp
  by_cases aB:k < s.size
  ·have oG:k < s.data.toList.length:=by simpa using aB
   have HG:=Lib.hid (uq aB);have HB:=Lib.hid (Bo s.data.toList k);cases he:qK s[k].toNat
   ·have HE:=Lib.hid he;have hX:=fun w2 (hb:Below wr.heap.size wr w2)=>fZ b _ s[k] w2 (Z0.out.below hb) (by have:=HB.out;have:=HLn.out;have:=HN.out;simp only [List.length_append];omega);have HX:=Lib.hid hX;clear hX;go_wp2_with (go_at_call 132;refine (rT _ _).mono ?_;rintro e w' ⟨rfl,rfl⟩);refine Qu.gL 6 (by kernel_rfl) (by kernel_rfl) ?_;simp only [List.take_succ_cons,List.take_zero,List.drop_succ_cons,List.drop_zero]
    repeat (first
     | (first | refine Qu.eU rfl (fun K hK=>?_) | refine Qu.eT rfl rfl rfl (fun K hK=>?_)
        go_simp
        first
        | (refine hK _ ?_;clear hK K)
        | (apply Exists.intro;refine ⟨fun _=>?_,hK _ ?_⟩;fail;clear hK K))
     | (refine Qu.gQ rfl rfl rfl (fun K hK=>?_);go_simp;refine hK _ ?_;clear hK K))
    refine Qu.fin ?_;rintro ⟨dq,iB⟩;go_wp2_with (go_at_call 130;refine (HX.out _ (below_regrown _ dq iB)).mono ?_;rintro e w' ⟨rfl,h1,h2⟩);have H1:=Lib.hid h1;have H2:=Lib.hid h2;clear h1 h2;go_roundw
    case rel=>exact ⟨k + 1,by omega,by go_num,by rw [BP oG,← HG.out,HE.out,← List.append_assoc];exact H1.out,HK.out.trans ((Kept.of_below (below_regrown _ dq iB) (Nat.le_of_lt Z0.out.lt)).trans H2.out)⟩
    case measure=>simp [intOf];omega
   ·have HE:=Lib.hid he;have hX:=fZ b _ 92 wr Z0.out (by have:=HB.out;have:=HLn.out;have:=HN.out;simp only [List.length_append];omega);have HX:=Lib.hid hX;clear hX
    go_wp2_with (first
     | (go_at_call 132;refine (rT _ _).mono ?_;rintro e w' ⟨rfl,rfl⟩)
     | (go_at_call 130;refine (HX.out).mono ?_;rintro e w1 ⟨rfl,h1,h2⟩))
    have H1:=Lib.hid h1;have H2:=Lib.hid h2;clear h1 h2;refine Qu.gL 6 (by kernel_rfl) (by kernel_rfl) ?_;simp only [List.take_succ_cons,List.take_zero,List.drop_succ_cons,List.drop_zero]
    repeat (first
     | (first | refine Qu.eU rfl (fun K hK=>?_) | refine Qu.eT rfl rfl rfl (fun K hK=>?_)
        go_simp
        first
        | (refine hK _ ?_;clear hK K)
        | (apply Exists.intro;refine ⟨fun _=>?_,hK _ ?_⟩;fail;clear hK K))
     | (refine Qu.gQ rfl rfl rfl (fun K hK=>?_);go_simp;refine hK _ ?_;clear hK K))
    refine Qu.fin ?_;rintro ⟨dq,iB⟩;have hY:=fZ b _ s[k] _ (H1.out.below (below_regrown _ dq iB)) (by have:=HB.out;have:=HLn.out;have:=HN.out;simp only [List.length_append,List.length_cons,List.length_nil];omega);have HY:=Lib.hid hY;clear hY;go_wp2_with (go_at_call 130;refine (HY.out).mono ?_;rintro e w' ⟨rfl,h3,h4⟩);have H3:=Lib.hid h3;have H4:=Lib.hid h4;clear h3 h4;go_roundw
    case rel =>
     refine ⟨k + 1,by omega,by go_num,?_,HK.out.trans (H2.out.trans ((Kept.of_below (below_regrown _ dq iB) (Nat.le_of_lt H1.out.lt)).trans H4.out))⟩;rw [BP oG,← HG.out,HE.out,if_pos rfl];simpa only [List.append_assoc,List.cons_append,List.nil_append] using H3.out
    case measure=>simp [intOf];omega
  ·obtain rfl:k = s.size:=by omega
   go_wp2;go_end0;exact ⟨rfl,by have:=Z0.out;rwa [List.take_of_length_le (by rw [HN.out];exact Nat.le_refl _)] at this,HK.out⟩
def iO (l:List UInt8):List UInt8:=l.flatMap fun c=>if c == 39 then [39,92,39,39] else [c]
def iP (l:List UInt8):List UInt8:=39 :: (iO l ++ [39])
theorem ze {l:List UInt8} (h:39 ∉ l):iO l = l:=by
 induction l with
 | nil=>rfl
 | cons c l ih =>
  have hc:(c == 39) = false:=by simp;rintro rfl;simp at h
  have hl:39 ∉ l:=fun hm=>h (List.mem_cons_of_mem _ hm);have:=ih hl;simp only [iO,List.flatMap_cons,hc] at this ⊢
  rw [this];rfl
theorem BQ (l:List UInt8):(iO l).length≤4 * l.length:=by
 induction l with
 | nil=>simp [iO]
 | cons c l ih =>
  simp only [iO,List.flatMap_cons,List.length_append,List.length_cons] at ih ⊢
  split <;> simp only [List.length_cons,List.length_nil] <;> omega
theorem IU {b:UInt8} {l:List UInt8} {i:Nat} (hb:b ≠ 39) (h:Lib.index l [39] = i):Lib.index (b :: l) [39] = ((i + 1:Nat):Int):=by
 have h1:([39]:List UInt8).isPrefixOf (b :: l) = false:=by simp [List.isPrefixOf];exact fun e=>hb e.symm
 have h2:(Lib.index l [39] == -1) = false:=by rw [h];simp
 rw [Lib.index,h1,h2,h];simp
theorem Bp (l:List UInt8):Lib.replaceK [39] [39,92,39,39] (l.count 39) l = iO l:=by
 induction l with
 | nil=>rfl
 | cons b l ih =>
  by_cases hb:b = 39
  ·subst hb;have h0:Lib.index (39 :: l) [39] = ((0:Nat):Int):=by simp [Lib.index,List.isPrefixOf]
   rw [List.count_cons_self,Lib.replaceK_hit _ _ _ _ 0 h0];simp [ih,iO]
  ·have hc:(b :: l).count 39 = l.count 39:=List.count_cons_of_ne hb;rw [hc];have Bq:(b == 39) = false:=by simpa using hb
   have hm:iO (b :: l) = b :: iO l:=by simp only [iO,List.flatMap_cons,Bq];rfl
   rw [hm,← ih];cases hn:l.count 39 with
   | zero=>rfl
   | succ n =>
    obtain ⟨i,hi⟩:=Lib.index_of_count (s:=l) (old:=[39]) (by rw [Lib.count_one];omega);rw [Lib.replaceK_hit _ _ _ _ _ (IU hb hi),Lib.replaceK_hit _ _ _ _ _ hi];simp
theorem wR (l:List UInt8):Lib.replaceAll l [39] [39,92,39,39] = iO l:=by
 unfold Lib.replaceAll Lib.replace Lib.replaceNum;rw [if_neg (by decide),if_pos (.inl (by decide)),Lib.count_one];exact Bp l
theorem LY (b:Nat) (l:List UInt8) (s:ByteArray) (m:Int) (w:World) (h:Is b l w) (hm:w.cell? ⟨0,0,none⟩ = some (.int .i64 m)) (gZ:0 < b) (hs:s.size≤1000000) (hlen:l.length + 4 * s.size + 2≤70368744177664) :
  Calls Tryz.prog 104 #[.pointer (some ⟨b,0,none⟩),.string s] w fun e w'=>e = .returned (.tuple #[])∧Is b (l ++ iP s.data.toList) w'∧Kept b w w':=by
 have HX:=Lib.hid (fZ b l 39 w h (by omega));have HN:=Lib.hid (iE s);have HM:=Lib.hid hm;have HL:=Lib.hid hlen;have HML:=Lib.hid (BQ s.data.toList);clear h hlen hm;go_enter Tryz.func104,Tryz.ntmps104;go_wp2_with (go_at_call 130;refine (HX.out).mono ?_;rintro e w1 ⟨rfl,h1,h2⟩);have H1:=Lib.hid h1;have H2:=Lib.hid h2;clear h1 h2;have hR:∀ dd os,Calls Tryz.prog 133 #[.string s,.string ⟨#[39]⟩,.string ⟨#[39,92,39,39]⟩] (grow (redrawn w1 dd) os) fun e ut=>e = .returned (.string ⟨(iO s.data.toList).toArray⟩)∧∃ p:Regrown,ut = grow (redrawn w1 p.d) p.os:=fun dd os=>by
  have:=Tryz.strings_ReplaceAll s ⟨#[39]⟩ ⟨#[39,92,39,39]⟩ m (grow (redrawn w1 dd) os) (by omega) (by
   rw [(below_regrown w1 dd os).cell (p:=⟨0,0,none⟩) (Nat.lt_trans gZ H1.out.lt),H2.out.1.cell (p:=⟨0,0,none⟩) gZ]
   exact HM.out) (by decide) (by
   have:=Lib.countB_le ⟨#[39]⟩ (by decide) s.size s (Nat.le_refl _);have h4:ByteArray.size ⟨#[39,92,39,39]⟩ = 4:=rfl;rw [h4]
   omega)
  rw [show Lib.replaceAll s.data.toList (ByteArray.data ⟨#[39]⟩).toList (ByteArray.data ⟨#[39,92,39,39]⟩).toList = iO s.data.toList from wR _] at this;exact Calls.regrown_of this
 have HR:=Lib.hid hR;clear hR;refine Qu.gL 5 (by kernel_rfl) (by kernel_rfl) ?_;simp only [List.take_succ_cons,List.take_zero,List.drop_succ_cons,List.drop_zero]
 repeat (first
  | (first | refine Qu.eU rfl (fun K hK=>?_) | refine Qu.eT rfl rfl rfl (fun K hK=>?_)
     go_simp
     first
     | (refine hK _ ?_;clear hK K)
     | (apply Exists.intro;refine ⟨fun _=>?_,hK _ ?_⟩;exact HR.out _ _;clear hK K))
  | (refine Qu.gQ rfl rfl rfl (fun K hK=>?_);go_simp;refine hK _ ?_;clear hK K))
 refine Qu.fin ?_;rintro ⟨dq,iB⟩
 have hY:=gD b _ ⟨(iO s.data.toList).toArray⟩ _ (H1.out.below (below_regrown _ dq iB)) (by
  have:=HL.out;have:=HN.out;have:=HML.out;have h5:ByteArray.size ⟨(iO s.data.toList).toArray⟩ = (iO s.data.toList).length:=by simp [ByteArray.size]
  rw [h5];simp only [List.length_append,List.length_cons,List.length_nil];omega)
 have HY:=Lib.hid hY;clear hY;go_wp2_with (go_at_call 38;refine (HY.out).mono ?_;rintro e w2 ⟨rfl,h3,h4⟩);have H3:=Lib.hid h3;have H4:=Lib.hid h4;clear h3 h4
 have hZ:=fZ b _ 39 w2 H3.out (by
  have:=HL.out;have:=HN.out;have:=HML.out
  simp only [List.length_append,List.length_cons,List.length_nil];omega)
 have HZ:=Lib.hid hZ;clear hZ;go_wp2_with (go_at_call 130;refine (HZ.out).mono ?_;rintro e w3 ⟨rfl,h5,h6⟩);go_end0;refine ⟨rfl,?_,H2.out.trans ((Kept.of_below (below_regrown _ dq iB) (Nat.le_of_lt H1.out.lt)).trans (H4.out.trans h6))⟩;simpa [iP,List.append_assoc] using h5
def textL:PL→Nat→List UInt8
 | .nil,_=>[]
 | .cons k q t o f r,at' =>
  (if k == 2 then (if q && !(at' == 2) then 34 :: (36 :: 123 :: (t.data.toList ++ o.data.toList) ++ textL f (mX q) ++ [125]) ++ [34] else 36 :: 123 :: (t.data.toList ++ o.data.toList) ++ textL f (mX q) ++ [125])
   else if at' == 2 then oH t.data.toList else if q then iP t.data.toList else t.data.toList) ++ textL r at'
def kD (q:Bool) (t o:ByteArray) (f:PL) (at':Nat):List UInt8 :=
 if q && !(at' == 2) then 34 :: (36 :: 123 :: (t.data.toList ++ o.data.toList) ++ textL f (mX q) ++ [125]) ++ [34] else 36 :: 123 :: (t.data.toList ++ o.data.toList) ++ textL f (mX q) ++ [125]
def partT (k:Int) (q:Bool) (t o:ByteArray) (f:PL) (at':Nat):List UInt8 :=
 if k == 2 then kD q t o f at' else if at' == 2 then oH t.data.toList else if q then iP t.data.toList else t.data.toList
theorem iQ (k:Int) (q:Bool) (t o:ByteArray) (f r:PL) (at':Nat):textL (.cons k q t o f r) at' = partT k q t o f at' ++ textL r at':=rfl
theorem BR (l:List UInt8):(iP l).length≤4 * l.length + 2:=by
 have:=BQ l;simp only [iP,List.length_cons,List.length_append,List.length_nil];omega
theorem rV:∀ (l:PL) (at':Nat),(textL l at').length≤5 * bytes l
 | .nil,_=>Nat.zero_le _
 | .cons k q t o f r,at'=>by
  have h1:=rV f (mX q);have h2:=rV r at';have h3:=zb t.data.toList;have h4:=BR t.data.toList;have ht:t.data.toList.length = t.size:=iE t;have ho:o.data.toList.length = o.size:=iE o;rw [iQ,List.length_append];simp only [partT,kD,bytes]
  repeat' split
  all_goals (try simp only [List.length_cons,List.length_append,List.length_nil])
  all_goals omega
theorem OG (k:Int) (q:Bool) (t o:ByteArray) (f:PL) (at':Nat):(partT k q t o f at').length≤5 * (1 + t.size + o.size + bytes f):=by
 have h1:=rV f (mX q);have h3:=zb t.data.toList;have h4:=BR t.data.toList;have ht:t.data.toList.length = t.size:=iE t;have ho:o.data.toList.length = o.size:=iE o;simp only [partT,kD]
 repeat' split
 all_goals (try simp only [List.length_cons,List.length_append,List.length_nil])
 all_goals omega
theorem Vj.kept {w w':World} {b c:Nat} {k:Int} {q:Bool} {t o:ByteArray} {a:Option Addr} {n cap:Nat} (h:Vj w c k q t o a n cap) (hk:Kept b w w') (hc:c ≠ b):Vj w' c k q t o a n cap :=
 hk.2 c _ h (fun e=>hc (Option.some.inj e)) (fun _ _ e=>by cases e)
theorem IV (w0:World) (k:Int) (q:Bool) (t o:ByteArray) (a:Option Addr) (cap at':Nat) (f:PL) (acc:List UInt8) (w:World) (ha:at'≤2) (h:Is w0.heap.size acc w) (h0:Below w0.heap.size w0 w)
  (bU:1 + t.size + o.size + bytes f≤1000000) (hlen:acc.length + 5 * (1 + t.size + o.size + bytes f)≤70368744177664)
  (hS:∀ acc w,Is w0.heap.size acc w→Below w0.heap.size w0 w→acc.length + 5 * bytes f≤70368744177664→Calls Tryz.prog 59 #[.pointer (some ⟨w0.heap.size,0,none⟩),.slice a f.len cap,.int .i64 (mX q)] w fun e w'=>e = .returned (.tuple #[])∧Is w0.heap.size (acc ++ textL f (mX q)) w'∧Kept w0.heap.size w w') :
  Calls Tryz.prog 102 #[.pointer (some ⟨w0.heap.size,0,none⟩),pv k q t o a f.len cap,.int .i64 at'] w fun e w'=>e = .returned (.tuple #[])∧Is w0.heap.size (acc ++ kD q t o f at') w'∧Kept w0.heap.size w w':=by
 have ht:t.data.toList.length = t.size:=iE t;have ho:o.data.toList.length = o.size:=iE o;have hT:=rV f (mX q);have h2s:ByteArray.size ⟨#[36,123]⟩ = 2:=rfl;have n1:¬ 9223372036854775807 < 2 + t.size:=by omega
 have n2:¬ 9223372036854775807 < 2 + t.size + o.size:=by omega
 have HI:=Lib.hid (h.below (ax w (.cells #[.int .i64 k,.bool q,.string t,.string o,.slice a f.len cap] 75)));have Oj:=Lib.hid (show w.heap.size ≠ w0.heap.size from Ne.symm (Nat.ne_of_lt h.lt));have Fq:=Lib.hid (show Vj (w.alloc (.cells #[.int .i64 k,.bool q,.string t,.string o,.slice a f.len cap] 75)) w.heap.size k q t o a f.len cap from heap_alloc_new w _);have Ij:=Lib.hid (Kept.of_below (ax w (.cells #[.int .i64 k,.bool q,.string t,.string o,.slice a f.len cap] 75)) (Nat.le_of_lt h.lt));have fP:=Lib.hid (h0.trans Ij.out.1);have HS:=Lib.hid hS;clear hS h h0;unfold pv;cases hm:(q && !((at':Int) == 2))
 ·have HM:=Lib.hid (show (q && !(at' == 2)) = false by rw [← Fp];exact hm);have Ui:((q = false)∨(q = true∧(at':Int) = 2)):=by cases q <;> simp_all
  go_enter Tryz.func102,Tryz.ntmps102;rcases Ui with rfl | ⟨rfl,gT⟩
  ·clear hm;go_wp2;generalize w.alloc (.cells #[.int .i64 k,.bool false,.string t,.string o,.slice a f.len cap] 75) = w1 at HI Fq Ij fP ⊢
   have H1:=HI;have H2:=Lib.hid (Kept.refl w0.heap.size w1);have iR:=Lib.hid (Fq.out.kept H2.out Oj.out);have OH:w1.cell? ⟨w.heap.size,0,none⟩ = some (.int .i64 k):=iR.out.cell 0;have OI:w1.cell? ⟨w.heap.size,1,none⟩ = some (.bool false):=iR.out.cell 1;have Fs:w1.cell? ⟨w.heap.size,2,none⟩ = some (.string t):=iR.out.cell 2;have Fu:w1.cell? ⟨w.heap.size,3,none⟩ = some (.string o):=iR.out.cell 3;have OJ:w1.cell? ⟨w.heap.size,4,none⟩ = some (.slice a f.len cap):=iR.out.cell 4;have r2:=cell_regrown Fs;have r3:=cell_regrown Fu;clear OH OI Fs Fu OJ;refine Qu.gL 9 (by kernel_rfl) (by kernel_rfl) ?_;simp only [List.take_succ_cons,List.take_zero,List.drop_succ_cons,List.drop_zero]
   repeat (first
    | (first | refine Qu.eU rfl (fun K hK=>?_) | refine Qu.eT rfl rfl rfl (fun K hK=>?_)
       go_simp
       first
       | (refine hK _ ?_;clear hK K)
       | (apply Exists.intro;refine ⟨fun _=>?_,hK _ ?_⟩;fail;clear hK K))
    | (refine Qu.gQ rfl rfl rfl (fun K hK=>?_);go_simp;refine hK _ ?_;clear hK K))
   refine Qu.fin ?_;rintro ⟨dq,iB⟩;clear r2 r3
   have hY:=gD _ _ (⟨#[36,123]⟩ ++ t ++ o) _ (H1.out.below (below_regrown _ dq iB)) (by
    simp only [ByteArray.size_append,h2s]
    try simp only [List.length_append,List.length_cons,List.length_nil]
    omega)
   have Uj:=Lib.hid (H2.out.trans (Kept.of_below (below_regrown w1 dq iB) (Nat.le_of_lt H1.out.lt)));have HY:=Lib.hid hY;clear hY;generalize uw:grow (redrawn w1 dq) iB = wv at HY Uj ⊢
   clear uw;go_wp2_with (go_at_call 38;refine (HY.out).mono ?_;rintro e w2 ⟨rfl,h3,h4⟩);have H3:=Lib.hid h3;have H4:=Lib.hid h4;clear h3 h4;have zg:=Lib.hid (Uj.out.trans H4.out);have kR:=Lib.hid (Fq.out.kept zg.out Oj.out);have Fv:w2.cell? ⟨w.heap.size,0,none⟩ = some (.int .i64 k):=kR.out.cell 0;have Fw:w2.cell? ⟨w.heap.size,1,none⟩ = some (.bool false):=kR.out.cell 1;have Fx:w2.cell? ⟨w.heap.size,2,none⟩ = some (.string t):=kR.out.cell 2;have Fy:w2.cell? ⟨w.heap.size,3,none⟩ = some (.string o):=kR.out.cell 3;have Fz:w2.cell? ⟨w.heap.size,4,none⟩ = some (.slice a f.len cap):=kR.out.cell 4;have s0:=cell_regrown Fv;have s1:=cell_regrown Fw;have s2:=cell_regrown Fx;have s3:=cell_regrown Fy;have s4:=cell_regrown Fz;clear Fv Fw Fx Fy Fz;have HW:=Lib.hid (fun dd os=>Calls.regrown_of (di k false t o a f.len cap (grow (redrawn w2 dd) os)));refine Qu.gL 5 (by kernel_rfl) (by kernel_rfl) ?_;simp only [List.take_succ_cons,List.take_zero,List.drop_succ_cons,List.drop_zero]
   repeat (first
    | (first | refine Qu.eU rfl (fun K hK=>?_) | refine Qu.eT rfl rfl rfl (fun K hK=>?_)
       go_simp
       first
       | (refine hK _ ?_;clear hK K)
       | (apply Exists.intro;refine ⟨fun _=>?_,hK _ ?_⟩;exact HW.out _ _;clear hK K))
    | (refine Qu.gQ rfl rfl rfl (fun K hK=>?_);go_simp;refine hK _ ?_;clear hK K))
   refine Qu.fin ?_;rintro ⟨dq,iB⟩;clear s0 s1 s2 s3 s4
   have hP:=HS.out _ _ (H3.out.below (below_regrown _ dq iB)) (fP.out.trans (zg.out.1.trans ((below_regrown w2 dq iB).mono (Nat.le_of_lt H3.out.lt)))) (by
    simp only [ByteArray.data_append,Array.toList_append,List.length_append,List.length_cons,List.length_nil]
    omega)
   have KG:=Lib.hid (zg.out.trans (Kept.of_below (below_regrown w2 dq iB) (Nat.le_of_lt H3.out.lt)));have HP:=Lib.hid hP;clear hP;generalize OL:grow (redrawn w2 dq) iB = wv2 at HP KG ⊢
   clear OL;go_wp2_with (go_at_call 59;refine (HP.out).mono ?_;rintro e w3 ⟨rfl,h5,h6⟩);have H5:=Lib.hid h5;have H6:=Lib.hid h6;clear h5 h6
   have HZ:=Lib.hid (fZ _ _ 125 w3 H5.out (by
    simp only [ByteArray.data_append,Array.toList_append,List.length_append,List.length_cons,List.length_nil]
    omega))
   go_wp2_with (go_at_call_of 130 (Value.int IntKind.u8 125);refine (HZ.out).mono ?_;rintro e w4 ⟨rfl,h7,h8⟩);go_end0;refine ⟨rfl,?_,Ij.out.trans (KG.out.trans (H6.out.trans h8))⟩;simpa [kD,HM.out,List.append_assoc] using h7
  ·have jD:((at':Int) != 2) = false:=by rw [gT];rfl
   clear hm gT;go_wp2;generalize w.alloc (.cells #[.int .i64 k,.bool true,.string t,.string o,.slice a f.len cap] 75) = w1 at HI Fq Ij fP ⊢
   have H1:=HI;have H2:=Lib.hid (Kept.refl w0.heap.size w1);have iR:=Lib.hid (Fq.out.kept H2.out Oj.out);have OH:w1.cell? ⟨w.heap.size,0,none⟩ = some (.int .i64 k):=iR.out.cell 0;have OI:w1.cell? ⟨w.heap.size,1,none⟩ = some (.bool true):=iR.out.cell 1;have Fs:w1.cell? ⟨w.heap.size,2,none⟩ = some (.string t):=iR.out.cell 2;have Fu:w1.cell? ⟨w.heap.size,3,none⟩ = some (.string o):=iR.out.cell 3;have OJ:w1.cell? ⟨w.heap.size,4,none⟩ = some (.slice a f.len cap):=iR.out.cell 4;have r2:=cell_regrown Fs;have r3:=cell_regrown Fu;clear OH OI Fs Fu OJ;refine Qu.gL 9 (by kernel_rfl) (by kernel_rfl) ?_;simp only [List.take_succ_cons,List.take_zero,List.drop_succ_cons,List.drop_zero]
   repeat (first
    | (first | refine Qu.eU rfl (fun K hK=>?_) | refine Qu.eT rfl rfl rfl (fun K hK=>?_)
       go_simp
       first
       | (refine hK _ ?_;clear hK K)
       | (apply Exists.intro;refine ⟨fun _=>?_,hK _ ?_⟩;fail;clear hK K))
    | (refine Qu.gQ rfl rfl rfl (fun K hK=>?_);go_simp;refine hK _ ?_;clear hK K))
   refine Qu.fin ?_;rintro ⟨dq,iB⟩;clear r2 r3
   have hY:=gD _ _ (⟨#[36,123]⟩ ++ t ++ o) _ (H1.out.below (below_regrown _ dq iB)) (by
    simp only [ByteArray.size_append,h2s]
    try simp only [List.length_append,List.length_cons,List.length_nil]
    omega)
   have Uj:=Lib.hid (H2.out.trans (Kept.of_below (below_regrown w1 dq iB) (Nat.le_of_lt H1.out.lt)));have HY:=Lib.hid hY;clear hY;generalize uw:grow (redrawn w1 dq) iB = wv at HY Uj ⊢
   clear uw;go_wp2_with (go_at_call 38;refine (HY.out).mono ?_;rintro e w2 ⟨rfl,h3,h4⟩);have H3:=Lib.hid h3;have H4:=Lib.hid h4;clear h3 h4;have zg:=Lib.hid (Uj.out.trans H4.out);have kR:=Lib.hid (Fq.out.kept zg.out Oj.out);have Fv:w2.cell? ⟨w.heap.size,0,none⟩ = some (.int .i64 k):=kR.out.cell 0;have Fw:w2.cell? ⟨w.heap.size,1,none⟩ = some (.bool true):=kR.out.cell 1;have Fx:w2.cell? ⟨w.heap.size,2,none⟩ = some (.string t):=kR.out.cell 2;have Fy:w2.cell? ⟨w.heap.size,3,none⟩ = some (.string o):=kR.out.cell 3;have Fz:w2.cell? ⟨w.heap.size,4,none⟩ = some (.slice a f.len cap):=kR.out.cell 4;have s0:=cell_regrown Fv;have s1:=cell_regrown Fw;have s2:=cell_regrown Fx;have s3:=cell_regrown Fy;have s4:=cell_regrown Fz;clear Fv Fw Fx Fy Fz;have HW:=Lib.hid (fun dd os=>Calls.regrown_of (di k true t o a f.len cap (grow (redrawn w2 dd) os)));refine Qu.gL 5 (by kernel_rfl) (by kernel_rfl) ?_;simp only [List.take_succ_cons,List.take_zero,List.drop_succ_cons,List.drop_zero]
   repeat (first
    | (first | refine Qu.eU rfl (fun K hK=>?_) | refine Qu.eT rfl rfl rfl (fun K hK=>?_)
       go_simp
       first
       | (refine hK _ ?_;clear hK K)
       | (apply Exists.intro;refine ⟨fun _=>?_,hK _ ?_⟩;exact HW.out _ _;clear hK K))
    | (refine Qu.gQ rfl rfl rfl (fun K hK=>?_);go_simp;refine hK _ ?_;clear hK K))
   refine Qu.fin ?_;rintro ⟨dq,iB⟩;clear s0 s1 s2 s3 s4
   have hP:=HS.out _ _ (H3.out.below (below_regrown _ dq iB)) (fP.out.trans (zg.out.1.trans ((below_regrown w2 dq iB).mono (Nat.le_of_lt H3.out.lt)))) (by
    simp only [ByteArray.data_append,Array.toList_append,List.length_append,List.length_cons,List.length_nil]
    omega)
   have KG:=Lib.hid (zg.out.trans (Kept.of_below (below_regrown w2 dq iB) (Nat.le_of_lt H3.out.lt)));have HP:=Lib.hid hP;clear hP;generalize OL:grow (redrawn w2 dq) iB = wv2 at HP KG ⊢
   clear OL;go_wp2_with (go_at_call 59;refine (HP.out).mono ?_;rintro e w3 ⟨rfl,h5,h6⟩);have H5:=Lib.hid h5;have H6:=Lib.hid h6;clear h5 h6
   have HZ:=Lib.hid (fZ _ _ 125 w3 H5.out (by
    simp only [ByteArray.data_append,Array.toList_append,List.length_append,List.length_cons,List.length_nil]
    omega))
   go_wp2_with (go_at_call_of 130 (Value.int IntKind.u8 125);refine (HZ.out).mono ?_;rintro e w4 ⟨rfl,h7,h8⟩);go_end0;refine ⟨rfl,?_,Ij.out.trans (KG.out.trans (H6.out.trans h8))⟩;simpa [kD,HM.out,List.append_assoc] using h7
 ·have HM:=Lib.hid (show (q && !(at' == 2)) = true by rw [← Fp];exact hm);have hq:q = true:=by cases q <;> simp_all
  subst hq;have jD:((at':Int) != 2) = true:=by simpa [bne] using hm
  clear hm;go_enter Tryz.func102,Tryz.ntmps102;have HX:=Lib.hid (fZ _ acc 34 _ HI.out (by omega));go_wp2_with (go_at_call 130;refine (HX.out).mono ?_;rintro e w1 ⟨rfl,h1,h2⟩);have H1:=Lib.hid h1;have H2:=Lib.hid h2;clear h1 h2;have iR:=Lib.hid (Fq.out.kept H2.out Oj.out);have OH:w1.cell? ⟨w.heap.size,0,none⟩ = some (.int .i64 k):=iR.out.cell 0;have OI:w1.cell? ⟨w.heap.size,1,none⟩ = some (.bool true):=iR.out.cell 1;have Fs:w1.cell? ⟨w.heap.size,2,none⟩ = some (.string t):=iR.out.cell 2;have Fu:w1.cell? ⟨w.heap.size,3,none⟩ = some (.string o):=iR.out.cell 3;have OJ:w1.cell? ⟨w.heap.size,4,none⟩ = some (.slice a f.len cap):=iR.out.cell 4;have r2:=cell_regrown Fs;have r3:=cell_regrown Fu;clear OH OI Fs Fu OJ;refine Qu.gL 9 (by kernel_rfl) (by kernel_rfl) ?_;simp only [List.take_succ_cons,List.take_zero,List.drop_succ_cons,List.drop_zero]
  repeat (first
   | (first | refine Qu.eU rfl (fun K hK=>?_) | refine Qu.eT rfl rfl rfl (fun K hK=>?_)
      go_simp
      first
      | (refine hK _ ?_;clear hK K)
      | (apply Exists.intro;refine ⟨fun _=>?_,hK _ ?_⟩;fail;clear hK K))
   | (refine Qu.gQ rfl rfl rfl (fun K hK=>?_);go_simp;refine hK _ ?_;clear hK K))
  refine Qu.fin ?_;rintro ⟨dq,iB⟩;clear r2 r3
  have hY:=gD _ _ (⟨#[36,123]⟩ ++ t ++ o) _ (H1.out.below (below_regrown _ dq iB)) (by
   simp only [ByteArray.size_append,h2s]
   try simp only [List.length_append,List.length_cons,List.length_nil]
   omega)
  have Uj:=Lib.hid (H2.out.trans (Kept.of_below (below_regrown w1 dq iB) (Nat.le_of_lt H1.out.lt)));have HY:=Lib.hid hY;clear hY;generalize uw:grow (redrawn w1 dq) iB = wv at HY Uj ⊢
  clear uw;go_wp2_with (go_at_call 38;refine (HY.out).mono ?_;rintro e w2 ⟨rfl,h3,h4⟩);have H3:=Lib.hid h3;have H4:=Lib.hid h4;clear h3 h4;have zg:=Lib.hid (Uj.out.trans H4.out);have kR:=Lib.hid (Fq.out.kept zg.out Oj.out);have Fv:w2.cell? ⟨w.heap.size,0,none⟩ = some (.int .i64 k):=kR.out.cell 0;have Fw:w2.cell? ⟨w.heap.size,1,none⟩ = some (.bool true):=kR.out.cell 1;have Fx:w2.cell? ⟨w.heap.size,2,none⟩ = some (.string t):=kR.out.cell 2;have Fy:w2.cell? ⟨w.heap.size,3,none⟩ = some (.string o):=kR.out.cell 3;have Fz:w2.cell? ⟨w.heap.size,4,none⟩ = some (.slice a f.len cap):=kR.out.cell 4;have s0:=cell_regrown Fv;have s1:=cell_regrown Fw;have s2:=cell_regrown Fx;have s3:=cell_regrown Fy;have s4:=cell_regrown Fz;clear Fv Fw Fx Fy Fz;have HW:=Lib.hid (fun dd os=>Calls.regrown_of (di k true t o a f.len cap (grow (redrawn w2 dd) os)));refine Qu.gL 5 (by kernel_rfl) (by kernel_rfl) ?_;simp only [List.take_succ_cons,List.take_zero,List.drop_succ_cons,List.drop_zero]
  repeat (first
   | (first | refine Qu.eU rfl (fun K hK=>?_) | refine Qu.eT rfl rfl rfl (fun K hK=>?_)
      go_simp
      first
      | (refine hK _ ?_;clear hK K)
      | (apply Exists.intro;refine ⟨fun _=>?_,hK _ ?_⟩;exact HW.out _ _;clear hK K))
   | (refine Qu.gQ rfl rfl rfl (fun K hK=>?_);go_simp;refine hK _ ?_;clear hK K))
  refine Qu.fin ?_;rintro ⟨dq,iB⟩;clear s0 s1 s2 s3 s4
  have hP:=HS.out _ _ (H3.out.below (below_regrown _ dq iB)) (fP.out.trans (zg.out.1.trans ((below_regrown w2 dq iB).mono (Nat.le_of_lt H3.out.lt)))) (by
   simp only [ByteArray.data_append,Array.toList_append,List.length_append,List.length_cons,List.length_nil]
   omega)
  have KG:=Lib.hid (zg.out.trans (Kept.of_below (below_regrown w2 dq iB) (Nat.le_of_lt H3.out.lt)));have HP:=Lib.hid hP;clear hP;generalize OL:grow (redrawn w2 dq) iB = wv2 at HP KG ⊢
  clear OL;go_wp2_with (go_at_call 59;refine (HP.out).mono ?_;rintro e w3 ⟨rfl,h5,h6⟩);have H5:=Lib.hid h5;have H6:=Lib.hid h6;clear h5 h6
  have HZ:=Lib.hid (fZ _ _ 125 w3 H5.out (by
   simp only [ByteArray.data_append,Array.toList_append,List.length_append,List.length_cons,List.length_nil]
   omega))
  go_wp2_with (go_at_call_of 130 (Value.int IntKind.u8 125);refine (HZ.out).mono ?_;rintro e w4 ⟨rfl,h7,h8⟩);have H7:=Lib.hid h7;have H8:=Lib.hid h8;clear h7 h8
  have lD:=Lib.hid (fZ _ _ 34 w4 H7.out (by
   simp only [ByteArray.data_append,Array.toList_append,List.length_append,List.length_cons,List.length_nil]
   omega))
  go_wp2_with (go_at_call_of 130 (Value.int IntKind.u8 34);refine (lD.out).mono ?_;rintro e w5 ⟨rfl,h9,yl⟩);go_end0;refine ⟨rfl,?_,Ij.out.trans (KG.out.trans (H6.out.trans (H8.out.trans yl)))⟩;simpa [kD,HM.out,List.append_assoc] using h9
theorem IW:∀ {n:Nat} {l r f:PL} {k:Int} {q:Bool} {t o:ByteArray},l.drop n = .cons k q t o f r→bytes (l.drop n) = 1 + t.size + o.size + bytes f + bytes (l.drop (n + 1)):=fun {n l r f k q t o} h=>by
 rw [PL.kJ h,h];rfl
theorem uf:∀ (n:Nat) (l:PL),bytes (l.drop n)≤bytes l
 | 0,_=>Nat.le_refl _
 | n + 1,.nil=>Nat.le_refl _
 | n + 1,.cons _ _ _ _ _ r=>by have:=uf n r;simp only [PL.drop,bytes];omega
theorem IX (w0:World) (m:Int) (l:PL) (a:Option Addr) (cap at':Nat) (acc:List UInt8) (w:World) (ha:at'≤2) (hl:gJ w0 a cap l) (hm:w0.cell? ⟨0,0,none⟩ = some (.int .i64 m)) (h:Is w0.heap.size acc w) (h0:Below w0.heap.size w0 w)
  (bU:bytes l≤1000000) (hlen:acc.length + 5 * bytes l≤70368744177664)
  (hS:∀ (f:PL) (a:Option Addr) (cap:Nat) (q:Bool) (acc:List UInt8) (w:World),f.size < l.size→bytes f≤bytes l→gJ w0 a cap f→Is w0.heap.size acc w→Below w0.heap.size w0 w→acc.length + 5 * bytes f≤70368744177664 →
   Calls Tryz.prog 59 #[.pointer (some ⟨w0.heap.size,0,none⟩),.slice a f.len cap,.int .i64 (mX q)] w fun e w'=>e = .returned (.tuple #[])∧Is w0.heap.size (acc ++ textL f (mX q)) w'∧Kept w0.heap.size w w') :
  Calls Tryz.prog 59 #[.pointer (some ⟨w0.heap.size,0,none⟩),.slice a l.len cap,.int .i64 at'] w fun e w'=>e = .returned (.tuple #[])∧Is w0.heap.size (acc ++ textL l at') w'∧Kept w0.heap.size w w':=by
 have HL:=Lib.hid hl;have HS:=Lib.hid hS;have HI0:=Lib.hid h;have fP:=Lib.hid h0;have zh:=Lib.hid hlen;have mZ:=Lib.hid bU;have XF:0 < w0.heap.size:=World.block_lt_of_cell? _ _ hm;have HM:=Lib.hid hm;clear hl hS h h0 hlen bU hm;have hle:=HL.out.le;go_enter Tryz.func59,Tryz.ntmps59;go_wp2
 go_loopw [10] (fun i wr=>∃ (n:Nat) (ek:List UInt8),n≤l.len∧i = .int .i64 n∧Is w0.heap.size ek wr∧acc ++ textL l at' = ek ++ textL (l.drop n) at'∧Kept w0.heap.size w wr∧ek.length + 5 * bytes (l.drop n)≤70368744177664) (fun i wr=>l.len - (intOf i).toNat)
 case atStart=>exact ⟨0,acc,Nat.zero_le _,rfl,HI0.out,rfl,Kept.refl _ _,zh.out⟩
 case round =>
  obtain ⟨n,ek,hn,rfl,hi,jY,hkp,FB⟩:=hrel;have HI:=Lib.hid hi;have HT:=Lib.hid jY;have HK:=Lib.hid hkp;have HN:=Lib.hid FB;clear hi jY hkp FB
  by_cases aB:n < l.len
  ·obtain ⟨k,q,t,o,f,r,hdr⟩:=PL.drop_at aB;have HBW:=Lib.hid (fP.out.trans HK.out.1);obtain ⟨b1,p1,rfl,aP,qG,tY,wM,wN,ht,ho,a1,lJ,wB,mU⟩:=(HL.out.below HBW.out).get hdr;obtain ⟨b2,p2,d9,_,_,_,_,_,_,_,a2,sZ,d14,Ba⟩:=HL.out.get hdr;obtain ⟨rfl,rfl⟩:b1 = b2∧p1 = p2:=by simpa using d9
   have aa7:=d14;rw [← HBW.out.cell (p:=⟨b1,p1 + n * 5 + 4,none⟩) (World.block_lt_of_cell? _ _ d14),wB] at d14;obtain ⟨rfl,rfl⟩:a1 = a2∧lJ = sZ:=by simpa using d14
   have aa8:f.size < l.size:=by
    have:=PL.eX n l;rw [hdr] at this;simp only [PL.size] at this;omega
   have RS:=IW hdr;have aa9:=uf n l;have bU:=mZ.out;have FB:=HN.out;have Vn:=OG k q t o f at'
   have Dh:=Lib.hid (show acc ++ textL l at' = (ek ++ partT k q t o f at') ++ textL (l.drop (n + 1)) at' by
    rw [HT.out,PL.kJ hdr,hdr,iQ,List.append_assoc])
   have Uk:=Lib.hid (show (ek ++ partT k q t o f at').length + 5 * bytes (l.drop (n + 1))≤70368744177664 by
    rw [List.length_append];omega)
   have HLF:=Lib.hid Ba;have IY:=HBW.out.cell (p:=⟨0,0,none⟩) XF;clear d9 d14 aa7 mU Ba hdr;rw [HM.out] at IY;have Ik:=Lib.hid IY;clear IY;have RU:=Lib.hid (show 1 + t.size + o.size + bytes f≤1000000∧ek.length + 5 * (1 + t.size + o.size + bytes f)≤70368744177664∧bytes f≤bytes l from ⟨by omega,by omega,by omega⟩);clear RS aa9 bU FB Vn;cases rU:(k == 2)
   ·cases h2:((at':Int) == 2)
    ·have RV:=Lib.hid (show (at' == 2) = false by rw [← Fp];exact h2);cases q
     ·have HE:=Lib.hid (show partT k false t o f at' = t.data.toList by simp [partT,rU,RV.out]);rw [HE.out] at Dh Uk;have HBX:=Lib.hid (show Vj (wr.alloc (.cells #[.int .i64 k,.bool false,.string t,.string o,.slice a1 f.len lJ] 75)) wr.heap.size k false t o a1 f.len lJ from heap_alloc_new wr _);have RX:=Lib.hid (HI.out.below (ax wr (.cells #[.int .i64 k,.bool false,.string t,.string o,.slice a1 f.len lJ] 75)));have Ij:=Lib.hid (HK.out.trans (Kept.of_below (ax wr (.cells #[.int .i64 k,.bool false,.string t,.string o,.slice a1 f.len lJ] 75)) (Nat.le_of_lt HI.out.lt)));go_wp2;generalize wr.alloc (.cells #[.int .i64 k,.bool false,.string t,.string o,.slice a1 f.len lJ] 75) = w1 at RX HBX Ij ⊢
      have r2:=cell_regrown (show w1.cell? ⟨wr.heap.size,2,none⟩ = some (.string t) from HBX.out.cell 2);refine Qu.gL 5 (by kernel_rfl) (by kernel_rfl) ?_;simp only [List.take_succ_cons,List.take_zero,List.drop_succ_cons,List.drop_zero]
      repeat (first
       | (first | refine Qu.eU rfl (fun K hK=>?_) | refine Qu.eT rfl rfl rfl (fun K hK=>?_)
          go_simp
          first
          | (refine hK _ ?_;clear hK K)
          | (apply Exists.intro;refine ⟨fun _=>?_,hK _ ?_⟩;fail;clear hK K))
       | (refine Qu.gQ rfl rfl rfl (fun K hK=>?_);go_simp;refine hK _ ?_;clear hK K))
      refine Qu.fin ?_;rintro ⟨dq,iB⟩;have HY:=Lib.hid (gD _ ek t _ (RX.out.below (below_regrown _ dq iB)) (by have:=RU.out;omega));have HKB:=Lib.hid (Ij.out.trans (Kept.of_below (below_regrown w1 dq iB) (Nat.le_of_lt RX.out.lt)));clear r2;generalize uw:grow (redrawn w1 dq) iB = wv at HY HKB ⊢
      clear uw;go_wp2_with (go_at_call 38;refine (HY.out).mono ?_;rintro e w2 ⟨rfl,h3,h4⟩);have H3:=Lib.hid h3;have H4:=Lib.hid h4;clear h3 h4;go_roundw
      case rel=>exact ⟨n + 1,_,by omega,by go_num,H3.out,Dh.out,HKB.out.trans H4.out,Uk.out⟩
      case measure=>simp [intOf];omega
     ·have HE:=Lib.hid (show partT k true t o f at' = iP t.data.toList by simp [partT,rU,RV.out]);rw [HE.out] at Dh Uk;have RX:=Lib.hid (HI.out.below (ax wr (.cells #[.int .i64 k,.bool true,.string t,.string o,.slice a1 f.len lJ] 75)));have Ij:=Lib.hid (HK.out.trans (Kept.of_below (ax wr (.cells #[.int .i64 k,.bool true,.string t,.string o,.slice a1 f.len lJ] 75)) (Nat.le_of_lt HI.out.lt)));have HY:=Lib.hid (LY w0.heap.size ek t m (wr.alloc (.cells #[.int .i64 k,.bool true,.string t,.string o,.slice a1 f.len lJ] 75)) RX.out (by rw [(ax wr (.cells #[.int .i64 k,.bool true,.string t,.string o,.slice a1 f.len lJ] 75)).cell (p:=⟨0,0,none⟩) (Nat.lt_trans XF HI.out.lt)];exact Ik.out) XF (by have:=RU.out;omega) (by have:=RU.out;omega));go_wp2_with (go_at_call 104;refine (HY.out).mono ?_;rintro e w2 ⟨rfl,h3,h4⟩);have H3:=Lib.hid h3;have H4:=Lib.hid h4;clear h3 h4;go_roundw
      case rel=>exact ⟨n + 1,_,by omega,by go_num,H3.out,Dh.out,Ij.out.trans H4.out,Uk.out⟩
      case measure=>simp [intOf];omega
    ·have RV:=Lib.hid (show (at' == 2) = true by rw [← Fp];exact h2);have HE:=Lib.hid (show partT k q t o f at' = oH t.data.toList by simp [partT,rU,RV.out]);rw [HE.out] at Dh Uk;have RX:=Lib.hid (HI.out.below (ax wr (.cells #[.int .i64 k,.bool q,.string t,.string o,.slice a1 f.len lJ] 75)));have Ij:=Lib.hid (HK.out.trans (Kept.of_below (ax wr (.cells #[.int .i64 k,.bool q,.string t,.string o,.slice a1 f.len lJ] 75)) (Nat.le_of_lt HI.out.lt)));have HY:=Lib.hid (IQ w0.heap.size ek t (wr.alloc (.cells #[.int .i64 k,.bool q,.string t,.string o,.slice a1 f.len lJ] 75)) RX.out (by have:=RU.out;omega));go_wp2_with (go_at_call 103;refine (HY.out).mono ?_;rintro e w2 ⟨rfl,h3,h4⟩);have H3:=Lib.hid h3;have H4:=Lib.hid h4;clear h3 h4;go_roundw
     case rel=>exact ⟨n + 1,_,by omega,by go_num,H3.out,Dh.out,Ij.out.trans H4.out,Uk.out⟩
     case measure=>simp [intOf];omega
   ·have HE:=Lib.hid (show partT k q t o f at' = kD q t o f at' by simp [partT,rU]);rw [HE.out] at Dh Uk;have RX:=Lib.hid (HI.out.below (ax wr (.cells #[.int .i64 k,.bool q,.string t,.string o,.slice a1 f.len lJ] 75)));have Ij:=Lib.hid (HK.out.trans (Kept.of_below (ax wr (.cells #[.int .i64 k,.bool q,.string t,.string o,.slice a1 f.len lJ] 75)) (Nat.le_of_lt HI.out.lt)));have HY:=Lib.hid (IV w0 k q t o a1 lJ at' f ek (wr.alloc (.cells #[.int .i64 k,.bool q,.string t,.string o,.slice a1 f.len lJ] 75)) ha RX.out (fP.out.trans Ij.out.1) RU.out.1 RU.out.2.1 (fun acc w hi hb FB=>HS.out f a1 lJ q acc w aa8 RU.out.2.2 HLF.out hi hb FB));go_wp2_with (go_at_call 102;refine (HY.out).mono ?_;rintro e w2 ⟨rfl,h3,h4⟩);have H3:=Lib.hid h3;have H4:=Lib.hid h4;clear h3 h4;go_roundw
    case rel=>exact ⟨n + 1,_,by omega,by go_num,H3.out,Dh.out,Ij.out.trans H4.out,Uk.out⟩
    case measure=>simp [intOf];omega
  ·obtain rfl:n = l.len:=by omega
   go_wp2;go_end0;exact ⟨rfl,by have:=HI.out;have h5:=HT.out;rw [PL.fo (Nat.le_refl _)] at h5;rw [h5];simpa [textL] using this,HK.out⟩
theorem LZ (w0:World) (m:Int) (hm:w0.cell? ⟨0,0,none⟩ = some (.int .i64 m)) (n:Nat):∀ (l:PL) (a:Option Addr) (cap at':Nat) (acc:List UInt8) (w:World),l.size < n→at'≤2→gJ w0 a cap l→Is w0.heap.size acc w→Below w0.heap.size w0 w →
  bytes l≤1000000→acc.length + 5 * bytes l≤70368744177664 →
  Calls Tryz.prog 59 #[.pointer (some ⟨w0.heap.size,0,none⟩),.slice a l.len cap,.int .i64 at'] w fun e w'=>e = .returned (.tuple #[])∧Is w0.heap.size (acc ++ textL l at') w'∧Kept w0.heap.size w w':=by
 induction n with
 | zero=>intro _ _ _ _ _ _ h;omega
 | succ n ih =>
  intro l a cap at' acc w hn ha hl hi hb bU hlen;exact IX w0 m l a cap at' acc w ha hl hm hi hb bU hlen (fun f a cap q acc w hf hbf hl hi hb hlen=>ih f a cap (mX q) acc w (by omega) (by cases q <;> simp [mX]) hl hi hb (by omega) hlen)
theorem uy (b:Nat) (p:Value) (w:World) (wD:w.heap[b]? = some (.cells #[p,.slice none 0 0] 95 (0,0))) :
  Calls Tryz.prog 20 #[.pointer (some ⟨b,0,none⟩)] w fun e w'=>e = .returned (.string ⟨#[]⟩)∧Below w.heap.size w w':=by
 have c1:w.drew.cell? ⟨b,1,none⟩ = some (.slice none 0 0):=by
  have:w.drew.heap[b]? = some (.cells #[p,.slice none 0 0] 95 (0,0)):=wD;rw [Lib.cell_of_heap this];rfl
 have hSD:(Builtin.unsafeSliceData_ #[47] 85 #[.slice none 0 0]).run Tryz.prog w.drew = .ok (.pointer none) w.drew:=rfl;have hUS:∀ w:World,(Builtin.unsafeString_ #[85,3] 9 #[.pointer none,.int .i64 0]).run Tryz.prog w = .ok (.string ⟨#[]⟩) w:=fun w=>Lib.run_unsafeString_none w _ _ _ none;go_enter Tryz.func20,Tryz.ntmps20;go_wp2;go_region
 all_goals (go_wp2;go_ret;exact ⟨rfl,Below.drew (Below.refl _ w)⟩)
theorem L6 (b:Addr) (a:Option Addr) (cap at':Nat) (w:World) :
  Calls Tryz.prog 59 #[.pointer (some b),.slice a 0 cap,.int .i64 at'] w fun e w'=>e = .returned (.tuple #[])∧w' = w:=by
 go_enter Tryz.func59,Tryz.ntmps59;go_wp2
 go_loop [10] (fun i=>i = .int .i64 0) (fun _=>0)
 case atStart=>rfl
 case round =>
  subst hrel;go_wp2;go_end0;exact ⟨rfl,rfl⟩
theorem RY {k:Int} {q:Bool} {t o:ByteArray} {f r:PL} {d:Nat} (h:rightL none (.cons k q t o f r) 0 d = true):textL (.cons k q t o f r) 0 ≠ []:=by
 rw [iQ];intro h0;have h1:=List.append_eq_nil_iff.1 h0 |>.1;simp only [partT,kD] at h1;cases hk:(k == 2)
 ·rw [hk] at h1;cases q
  ·simp at h1;simp only [rightL,Bool.and_eq_true] at h;have h2:=h.1.2;cases wC:(k == 1)
   ·rw [wC,hk] at h2;simp at h2
   ·rw [wC] at h2;simp [dh,h1] at h2
  ·simp [iP] at h1
 ·rw [hk] at h1;cases q <;> simp at h1
def lU (l:PL):List UInt8:=if rightL none l 0 1 then textL l 0 else []
theorem L8 (l:PL) (a:Option Addr) (cap:Nat) (m:Int) (w:World) (hl:gJ w a cap l) (hm:w.cell? ⟨0,0,none⟩ = some (.int .i64 m)) (bU:bytes l≤1000000) :
  Calls Tryz.prog 39 #[.slice a l.len cap] w fun e w'=>e = .returned (.string ⟨(lU l).toArray⟩)∧Below w.heap.size w w':=by
 have hV:=wQ l a cap w hl;have XF:0 < w.heap.size:=World.block_lt_of_cell? _ _ hm;cases hr:rightL none l 0 1
 ·rw [hr] at hV;have HV:=Lib.hid hV;have HR:=Lib.hid (show lU l = [] by simp [lU,hr]);clear hV hl hm hr;go_enter Tryz.func39,Tryz.ntmps39;go_wp2_with (go_at_call 58;refine (HV.out).mono ?_;rintro e w1 ⟨rfl,hb⟩);go_ret;exact ⟨by rw [HR.out];rfl,by assumption⟩
 ·rw [hr] at hV;have HV:=Lib.hid hV;have HR:=Lib.hid (show lU l = textL l 0 by simp [lU,hr]);have HL:=Lib.hid hl;have HM:=Lib.hid hm;have HRR:=Lib.hid hr;clear hV hl hm hr;go_enter Tryz.func39,Tryz.ntmps39;cases l with
  | nil =>
   have hlen:PL.nil.len = 0:=rfl;rw [hlen]
   go_wp2_with (first
    | (go_at_call 58;refine (HV.out).mono ?_;rintro e w1 ⟨rfl,hb⟩;have HB:=Lib.hid hb;clear hb)
    | (go_at_call 59;refine (L6 _ _ _ 0 _).mono ?_;rintro e w2 ⟨rfl,rfl⟩)
    | (go_at_call 20;refine (uy _ (.pointer none) _ (heap_alloc_new _ _)).mono ?_;rintro e w3 ⟨rfl,hb3⟩))
   go_ret;exact ⟨rfl,ak HB.out (ak (ax _ _) hb3)⟩
  | cons k q t o f r =>
   have Oj:=Lib.hid (RY HRR.out);go_wp2_with (go_at_call 58;refine (HV.out).mono ?_;rintro e w1 ⟨rfl,hb⟩;have HB:=Lib.hid hb;clear hb);have hP:=LZ w1 m ((HB.out.cell (p:=⟨0,0,none⟩) XF).trans HM.out) ((PL.cons k q t o f r).size + 1) (.cons k q t o f r) a cap 0 [] (w1.alloc (.cells #[.pointer none,.slice none 0 0] 95)) (by omega) (by omega) (HL.out.below HB.out) (Lib.IsBuilderF.of (Lib.fresh_isBuilder 95 5 w1)) (ax _ _) bU (by simp only [List.length_nil];omega);rw [List.nil_append] at hP;have HP:=Lib.hid hP;clear hP;go_wp2_with (go_at_call 59;refine (HP.out).mono ?_;rintro e w2 ⟨rfl,h1,h2⟩);have HS:=Lib.hid (uu _ _ _ h1 Oj.out);have H2:=Lib.hid h2;clear h1 h2;go_wp2_with (go_at_call 20;refine (HS.out).mono ?_;rintro e w3 ⟨rfl,hb3⟩);go_ret;exact ⟨by rw [HR.out];rfl,ak HB.out ((ax w1 _).trans (H2.out.1.trans hb3))⟩
end Bd
end Go.Proofs.YtckakkeejekibaaGreatDoor
