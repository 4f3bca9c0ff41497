/- strings.Builder as the first field of a struct of the project's own (word.writer): WriteByte, WriteString, String at a block of that type (the shelf's contracts ask a block of type strings.Builder: these go after them). -/
/- What the program writes: escaped bytes, a text between marks. -/
import Derived.Test.YtoklgmbpgnimcaaGreatDoorRows
import Derived.Shelf.Strings.BuilderK
import Derived.Lib.Hide
import Derived.WalkKit
import Derived.Lib.AppendIntMem
import Derived.RegionTactic
import Derived.Shelf.RegionOpenPlain
import Derived.Test.YtoklgmbpgnimcaaGreatDoorPtV
import Derived.Test.YtoklgmbpgnimcaaGreatDoorQTail
import Derived.Test.YtoklgmbpgnimcaaGreatDoorShelf
set_option linter.unusedVariables false
namespace Go.Proofs.YtoklgmbpgnimcaaGreatDoor
open Go.RowKit
namespace Bd
def Is (b:Nat) (l:List UInt8) (w:World):Prop:=Lib.IsBuilderF 74 5 b b (Lib.byteCells l) w
def Kept (b:Nat) (w w':World):Prop:=Below b w w'∧Lib.OthersKept 5 (some b) w w'
theorem Kept.refl (b:Nat) (w:World):Kept b w w:=⟨Below.refl _ _,Lib.OthersKept.refl _ _ _⟩
theorem Kept.trans {b:Nat} {w w1 w2:World} (h:Kept b w w1) (k:Kept b w1 w2):Kept b w w2:=⟨h.1.trans k.1,h.2.trans k.2⟩
theorem Is.lt {b:Nat} {l:List UInt8} {w:World} (h:Is b l w):b < w.heap.size:=by
 rcases h with h | h
 ·exact h.lt
 ·exact h.lt
theorem infoW:(Tryz.prog.info? 72).map (·.size) = some 2:=by kernel_rfl
theorem liesW:liesAt Tryz.prog Tryz.prog.depth 74 (2 / Tryz.prog.cellsOf 74) 0 72 1 = true:=by kernel_rfl
theorem infoByte:(Tryz.prog.info? 5).map (fun i=>(i.zero,i.size,i.bytes)) = some (some (.int .u8 0),1,1):=by kernel_rfl
set_option maxHeartbeats 1000000 in
set_option maxRecDepth 100000 in
theorem copyCheck_used (b:Nat) (w:World) (h0:w.cell? ⟨b,0,none⟩ = some (.pointer (some ⟨b,0,none⟩))) :
  Calls Tryz.prog 47 #[.pointer (some ⟨b,0,none⟩)] w fun e w'=>e = .returned (.tuple #[])∧w' = w:=by
 obtain ⟨j,hj,_⟩:=Option.map_eq_some_iff.1 infoW
 go_enter Tryz.func47,Tryz.ntmps47
 go_wp2
 rw [Lib.run_neq_ptr_same w _ Tryz.underlying69 hj]
 go_wp2
 go_end0
 exact ⟨rfl,rfl⟩
set_option maxHeartbeats 1000000 in
set_option maxRecDepth 100000 in
theorem copyCheck_fresh (b:Nat) (w:World) (h0:w.cell? ⟨b,0,none⟩ = some (.pointer none)) (hsh:w.shape? b = some (74,2)) (hfz:w.frozen? ⟨b,0,none⟩ = false) :
  Calls Tryz.prog 47 #[.pointer (some ⟨b,0,none⟩)] w fun e w'=>e = .returned (.tuple #[])∧w' = w.setCell ⟨b,0,none⟩ (.pointer (some ⟨b,0,none⟩)):=by
 obtain ⟨j,hj,hjs⟩:=Option.map_eq_some_iff.1 infoW
 go_enter Tryz.func47,Tryz.ntmps47
 go_wp2
 rw [Lib.run_to_unsafe w ⟨b,0,none⟩ Tryz.underlying69 Tryz.underlying110 hj (by rw [hjs];decide) hsh (Nat.zero_lt_succ 1)]
 simp only [Result.andThen]
 rw [Oper.upon_value]
 go_wp2
 rw [run_callFunc_extern Tryz.func57 (by kernel_rfl) (by kernel_rfl) (by kernel_rfl) (e:=Extern.AbiNoEscape.same) (by kernel_rfl)]
 rw [Lib.run_noEscape]
 simp only [Result.andThen]
 rw [Oper.upon_value]
 go_wp2
 rw [Lib.run_from_unsafe w ⟨b,0,none⟩ Tryz.underlying110 Tryz.underlying69 hj hsh liesW]
 simp only [Result.andThen]
 rw [Oper.upon_value]
 go_wp2
 go_end0
 exact ⟨rfl,rfl⟩
theorem copyCheck_any (b:Nat) (bs:List Value) (w:World) (h:Lib.IsBuilderF 74 5 b b bs w) :
  Calls Tryz.prog 47 #[.pointer (some ⟨b,0,none⟩)] w fun e w'=>e = .returned (.tuple #[])∧(Lib.BuilderAtF 74 5 b b (.pointer (some ⟨b,0,none⟩)) bs w'∧Below b w w'∧Lib.OthersKept 5 (some b) w w'):=by
 rcases h with h | h
 ·refine (copyCheck_fresh b w h.cell0 h.shape h.frozen0).mono ?_
  rintro e w' ⟨rfl,rfl⟩
  exact ⟨rfl,h.used _,(Below.refl b w).setCell (p:=⟨b,0,none⟩) h.1 _,(Lib.OthersKept.refl _ _ w).setCell ⟨b,0,none⟩ rfl _⟩
 ·refine (copyCheck_used b w h.cell0).mono ?_
  rintro e w' ⟨rfl,rfl⟩
  exact ⟨rfl,h,Below.refl b _,Lib.OthersKept.refl _ _ _⟩
set_option maxHeartbeats 2000000 in
set_option maxRecDepth 100000 in
theorem writeByte_any (b:Nat) (l:List UInt8) (c:UInt8) (w:World) (h:Is b l w) (hlen:l.length + 1≤140737488355328) :
  Calls Tryz.prog 38 #[.pointer (some ⟨b,0,none⟩),.int .u8 c.toNat] w fun e w'=>e = .returned .nilIface∧Is b (l ++ [c]) w'∧Kept b w w':=by
 obtain ⟨i0,hi,hz0,hz1,hz2⟩:=info_parts infoByte
 have hBw:b≤w.heap.size:=Nat.le_of_lt h.lt
 rw [← Lib.byteCells_length l] at hlen
 have hcat:Lib.byteCells (l ++ [c]) = Lib.byteCells l ++ [.int .u8 c.toNat]:=by rw [Lib.byteCells_append];rfl
 unfold Is Kept
 unfold Is at h
 rw [hcat]
 go_enter Tryz.func38,Tryz.ntmps38
 go_wp2_with (go_at_call 47;refine (copyCheck_any b (Lib.byteCells l) _ h).mono ?_)
 rintro e w1 ⟨rfl,h1,hb1,hk1⟩
 obtain ⟨hB,v,hbk,hown,hne⟩:=h1
 have c0:w1.cell? ⟨b,0,none⟩ = some (.pointer (some ⟨b,0,none⟩)):=by rw [Lib.cell_of_heap hbk];rfl
 have c1:w1.cell? ⟨b,1,none⟩ = some v:=by rw [Lib.cell_of_heap hbk];rfl
 go_wp2_with (at_builtin;refine wpList_append_ownF _ rfl _ _ 70 rfl b 5 i0 (.int .u8 0) 1 1 Tryz.underlying70 hi hz0 hz1 hz2 rfl (by decide) _ _ _ rfl (hown.alloc _) ⟨w1.heap.size,0,none⟩ 1 1 [.int .u8 c.toNat] rfl rfl ?c1 ?c2 ?c3 ?c4 ?c5 ?_)
 case c1 =>
  intro j u hj
  match j,hj with
  | 0,hj=>simp at hj;subst hj;simp [Addr.add]
 case c2=>intro u hu;simp at hu;subst hu;rfl
 case c3=>unfold maxLen;omega
 case c4=>omega
 case c5=>have:=hb1.size;simp;omega
 intro v' w2 hown' hgrow _
 have hlt:b < w1.heap.size:=by
  rcases Nat.lt_or_ge b w1.heap.size with h' | h'
  ·exact h'
  ·simp [Array.getElem?_eq_none h'] at hbk
 have hb2:w2.heap[b]? = some (.cells #[.pointer (some ⟨b,0,none⟩),v] 74 (0,0)):=by
  rw [hgrow.block b (by simp;omega) (fun e=>hne e.symm),Lib.alloc_old w1 _ b hlt]
  exact hbk
 have d0:w2.cell? ⟨b,0,none⟩ = some (.pointer (some ⟨b,0,none⟩)):=by rw [Lib.cell_of_heap hb2];rfl
 have d1:w2.cell? ⟨b,1,none⟩ = some v:=by rw [Lib.cell_of_heap hb2];rfl
 have f1:w2.frozen? ⟨b,1,none⟩ = false:=Lib.frozen_of_heap hb2 1
 obtain ⟨g,cap,rfl⟩:∃ g cap,v' = .slice (some ⟨g,0,none⟩) ((Lib.byteCells l).length + 1) cap:=by
  rcases hown'.2 with ⟨_,h0⟩ | ⟨g,cap,cur,fz,hv,_⟩
  ·omega
  ·exact ⟨g,cap,hv⟩
 go_wp2
 go_ret
 refine ⟨rfl,.inr ?_,?_,((hk1.alloc _).grown hgrow (Lib.ownsRowF_kind (hown.alloc _))).setCell ⟨b,1,none⟩ rfl _⟩
 ·exact Lib.BuilderAtF.put (T:=74) (e:=5) hB hb2 (bs':=Lib.byteCells l ++ [.int .u8 c.toNat]) (by simpa using hown') (by decide)
 ·exact ((hb1.alloc (by have:=hb1.size;omega) _).grown hgrow (by have:=hb1.size;simp;omega) (fun k hk=>(hown.lt k hk).1)).setCell (p:=⟨b,1,none⟩) hB _
set_option maxHeartbeats 2000000 in
set_option maxRecDepth 100000 in
theorem writeString_any (b:Nat) (l:List UInt8) (s:ByteArray) (w:World) (h:Is b l w) (hlen:l.length + s.size≤140737488355328) :
  Calls Tryz.prog 39 #[.pointer (some ⟨b,0,none⟩),.string s] w fun e w'=>e = .returned (.tuple #[.int .i64 s.size,.nilIface])∧Is b (l ++ s.data.toList) w'∧Kept b w w':=by
 obtain ⟨i0,hi,hz0,hz1,hz2⟩:=info_parts infoByte
 have hBw:b≤w.heap.size:=Nat.le_of_lt h.lt
 rw [← Lib.byteCells_length l] at hlen
 have hcat:Lib.byteCells (l ++ s.data.toList) = Lib.byteCells l ++ Lib.strCells s:=by rw [Lib.byteCells_append];rfl
 unfold Is Kept
 unfold Is at h
 rw [hcat]
 go_enter Tryz.func39,Tryz.ntmps39
 go_wp2_with (go_at_call 47;refine (copyCheck_any b (Lib.byteCells l) _ h).mono ?_)
 rintro e w1 ⟨rfl,h1,hb1,hk1⟩
 obtain ⟨hB,v,hbk,hown,hne⟩:=h1
 have c0:w1.cell? ⟨b,0,none⟩ = some (.pointer (some ⟨b,0,none⟩)):=by rw [Lib.cell_of_heap hbk];rfl
 have c1:w1.cell? ⟨b,1,none⟩ = some v:=by rw [Lib.cell_of_heap hbk];rfl
 go_wp2_with (at_builtin;refine Lib.wpList_append_own_stringF _ rfl _ _ 70 9 rfl b 5 i0 Tryz.underlying70 Tryz.underlying9 hi hz0 hz1 hz2 _ _ _ rfl hown s rfl ?c3 ?c4 ?c5 ?_)
 case c3=>unfold maxLen;omega
 case c4=>omega
 case c5=>have:=hb1.size;omega
 intro v' w2 hown' hgrow _
 have hlt:b < w1.heap.size:=by
  rcases Nat.lt_or_ge b w1.heap.size with h' | h'
  ·exact h'
  ·simp [Array.getElem?_eq_none h'] at hbk
 have hb2:w2.heap[b]? = some (.cells #[.pointer (some ⟨b,0,none⟩),v] 74 (0,0)):=by
  rw [hgrow.block b hlt (fun e=>hne e.symm)]
  exact hbk
 have d0:w2.cell? ⟨b,0,none⟩ = some (.pointer (some ⟨b,0,none⟩)):=by rw [Lib.cell_of_heap hb2];rfl
 have d1:w2.cell? ⟨b,1,none⟩ = some v:=by rw [Lib.cell_of_heap hb2];rfl
 have f1:w2.frozen? ⟨b,1,none⟩ = false:=Lib.frozen_of_heap hb2 1
 obtain ⟨ao,n',cap,rfl⟩:∃ ao n' cap,v' = .slice ao n' cap:=by
  rcases hown'.2 with ⟨hv,_⟩ | ⟨g,cap,cur,fz,hv,_⟩
  ·exact ⟨_,_,_,hv⟩
  ·exact ⟨_,_,_,hv⟩
 go_wp2
 go_ret2
 refine ⟨rfl,.inr ?_,?_,(hk1.grown hgrow (Lib.ownsRowF_kind hown)).setCell ⟨b,1,none⟩ rfl _⟩
 ·exact Lib.BuilderAtF.put (T:=74) (e:=5) hB hb2 (bs':=Lib.byteCells l ++ Lib.strCells s) (by simpa [Lib.strCells_length] using hown') (by decide)
 ·exact (hb1.grown hgrow (by have:=hb1.size;omega) (fun k hk=>(hown.lt k hk).1)).setCell (p:=⟨b,1,none⟩) hB _
set_option maxHeartbeats 1000000 in
set_option maxRecDepth 100000 in
theorem string_any (b:Nat) (l:List UInt8) (w:World) (h:Is b l w) (h0:l ≠ []) :
  Calls Tryz.prog 33 #[.pointer (some ⟨b,0,none⟩)] w fun e w'=>e = .returned (.string ⟨l.toArray⟩)∧Below b w w':=by
 obtain ⟨p,hB,v,hbk,hown,hne⟩:∃ p,Lib.BuilderAtF 74 5 b b p (Lib.byteCells l) w:=by
  rcases h with h | h
  ·exact ⟨_,h⟩
  ·exact ⟨_,h⟩
 have hl0:l.length ≠ 0:=by simpa using h0
 rw [Lib.byteCells_length] at hown
 obtain ⟨g,cap,cur,fz,rfl,hbg,hg,hnc,hcm,hcs⟩:∃ g cap cur fz,v = .slice (some ⟨g,0,none⟩) l.length cap∧b≤g∧w.heap[g]? = some (.cells cur 5 fz)∧l.length≤cap∧cap≤maxLen∧cur.size = cap * 1:=by
  rcases hown.2 with ⟨_,hz⟩ | ⟨g,cap,cur,fz,hv,r1,r2,_,r3,r4,r5,_⟩
  ·exact absurd hz hl0
  ·exact ⟨g,cap,cur,fz,hv,r1,r2,r3,r4,r5⟩
 have c1:w.drew.cell? ⟨b,1,none⟩ = some (.slice (some ⟨g,0,none⟩) l.length cap):=by
  have:w.drew.heap[b]? = some (.cells #[p,.slice (some ⟨g,0,none⟩) l.length cap] 74 (0,0)):=hbk
  rw [Lib.cell_of_heap this];rfl
 have hSD:(Builtin.unsafeSliceData_ #[70] 95 #[.slice (some ⟨g,0,none⟩) l.length cap]).run Tryz.prog w.drew = .ok (.pointer (some ⟨g,0,none⟩)) w.drew :=
  Lib.run_unsafeSliceData_row _ _ _ _ _ _ (by omega)
 have hUS:(Builtin.unsafeString_ #[95,3] 9 #[.pointer (some ⟨g,0,none⟩),.int .i64 l.length]).run Tryz.prog w.drew = .ok (.string ⟨l.toArray⟩) (w.drew.freeze ⟨g,0,none⟩ l.length):=by
  refine Lib.run_unsafeString_row w.drew 95 3 9 5 Tryz.underlying95 (by kernel_rfl) g cur.size (by have hg':w.drew.heap[g]? = some (.cells cur 5 fz):=hg;simp [World.shape?,hg']) l h0 (by omega) (by unfold maxLen at hcm;omega) ?_
  intro j x hx
  have:=hown.cells (g:=g) rfl j (.int .u8 x.toNat) (by simp [Lib.byteCells,hx])
  exact this
 go_enter Tryz.func33,Tryz.ntmps33
 go_wp2
 go_region
 all_goals (go_wp2;go_ret;exact ⟨rfl,Lib.below_freeze (Below.drew (Below.refl b w)) (p:=⟨g,0,none⟩) hbg _⟩)
end Bd
end Go.Proofs.YtoklgmbpgnimcaaGreatDoor
namespace Go.Proofs.YtoklgmbpgnimcaaGreatDoor
open Go.RowKit Go.Sort
namespace Bd
open Cls Pt
theorem Is.below {b:Nat} {l:List UInt8} {w w':World} (h:Is b l w) (hb:Below w.heap.size w w'):Is b l w':=by
 have key:∀ p,Lib.BuilderAtF 74 5 b b p (Lib.byteCells l) w→Lib.BuilderAtF 74 5 b b p (Lib.byteCells l) w':=by
  rintro p ⟨hB,v,hbk,hown,hne⟩
  have hlt:∀ {k:Nat} {o:Obj},w.heap[k]? = some o→w'.heap[k]? = some o:=fun {k o} h=>(hb.block k (Array.getElem?_eq_some_iff.1 h).1).trans h
  refine ⟨hB,v,hlt hbk,⟨hown.1,?_⟩,hne⟩
  rcases hown.2 with h | ⟨g,cap,cur,fz,hv,hg,hh,hr⟩
  ·exact .inl h
  ·exact .inr ⟨g,cap,cur,fz,hv,hg,hlt hh,hr⟩
 exact h.elim (fun x=>.inl (key _ x)) (fun x=>.inr (key _ x))
theorem Kept.of_below {b:Nat} {w w':World} (h:Below w.heap.size w w') (hb:b≤w.heap.size):Kept b w w' :=
 ⟨h.mono hb,fun k _ hk _ _=>(h.block k (Array.getElem?_eq_some_iff.1 hk).1).trans hk⟩
def marksL (l:List UInt8):List UInt8:=l.flatMap fun c=>if c == 39 then [39,92,39,39] else [c]
def quoteL (l:List UInt8):List UInt8:=39 :: (marksL l ++ [39])
theorem marks_len (l:List UInt8):(marksL l).length≤4 * l.length:=by
 induction l with
 | nil=>simp [marksL]
 | cons c l ih =>
  simp only [marksL,List.flatMap_cons,List.length_append,List.length_cons] at ih ⊢
  split <;> simp only [List.length_cons,List.length_nil] <;> omega
theorem index_cons {b:UInt8} {l:List UInt8} {i:Nat} (hb:b ≠ 39) (h:Lib.index l [39] = i):Lib.index (b :: l) [39] = ((i + 1:Nat):Int):=by
 have h1:([39]:List UInt8).isPrefixOf (b :: l) = false:=by simp [List.isPrefixOf];exact fun e=>hb e.symm
 have h2:(Lib.index l [39] == -1) = false:=by rw [h];simp
 rw [Lib.index,h1,h2,h]
 simp
theorem replace_marks (l:List UInt8):Lib.replaceK [39] [39,92,39,39] (l.count 39) l = marksL l:=by
 induction l with
 | nil=>rfl
 | cons b l ih =>
  by_cases hb:b = 39
  ·subst hb
   have h0:Lib.index (39 :: l) [39] = ((0:Nat):Int):=by simp [Lib.index,List.isPrefixOf]
   rw [List.count_cons_self,Lib.replaceK_hit _ _ _ _ 0 h0]
   simp [ih,marksL]
  ·have hc:(b :: l).count 39 = l.count 39:=List.count_cons_of_ne hb
   rw [hc]
   have hbb:(b == 39) = false:=by simpa using hb
   have hm:marksL (b :: l) = b :: marksL l:=by simp only [marksL,List.flatMap_cons,hbb];rfl
   rw [hm,← ih]
   cases hn:l.count 39 with
   | zero=>rfl
   | succ n =>
    obtain ⟨i,hi⟩:=Lib.index_of_count (s:=l) (old:=[39]) (by rw [Lib.count_one];omega)
    rw [Lib.replaceK_hit _ _ _ _ _ (index_cons hb hi),Lib.replaceK_hit _ _ _ _ _ hi]
    simp
theorem replaceAll_marks (l:List UInt8):Lib.replaceAll l [39] [39,92,39,39] = marksL l:=by
 unfold Lib.replaceAll Lib.replace Lib.replaceNum
 rw [if_neg (by decide),if_pos (.inl (by decide)),Lib.count_one]
 exact replace_marks l
set_option maxHeartbeats 2000000 in
set_option maxRecDepth 100000 in
theorem quote_any (b:Nat) (l:List UInt8) (s:ByteArray) (m:Int) (w:World) (h:Is b l w) (hm:w.cell? ⟨1,0,none⟩ = some (.int .i64 m)) (hb0:1 < b) (hs:s.size≤100000) (hlen:l.length + 4 * s.size + 2≤70368744177664) :
  Calls Tryz.prog 32 #[.pointer (some ⟨b,0,none⟩),.string s] w fun e w'=>e = .returned (.tuple #[])∧Is b (l ++ quoteL s.data.toList) w'∧Kept b w w':=by
 have HX:=Lib.hid (writeByte_any b l 39 w h (by omega))
 have HN:=Lib.hid (lenB s)
 have HM:=Lib.hid hm;have HL:=Lib.hid hlen;have HML:=Lib.hid (marks_len s.data.toList)
 clear h hlen hm
 go_enter Tryz.func32,Tryz.ntmps32
 go_wp2_with (go_at_call 38;refine (HX.out).mono ?_;rintro e w1 ⟨rfl,h1,h2⟩)
 have H1:=Lib.hid h1;have H2:=Lib.hid h2;clear h1 h2
 have hR:∀ dd os,Calls Tryz.prog 40 #[.string s,.string ⟨#[39]⟩,.string ⟨#[39,92,39,39]⟩] (grow (redrawn w1 dd) os) fun e w''=>e = .returned (.string ⟨(marksL s.data.toList).toArray⟩)∧∃ p:Regrown,w'' = grow (redrawn w1 p.d) p.os:=fun dd os=>by
  have:=Tryz.strings_ReplaceAll s ⟨#[39]⟩ ⟨#[39,92,39,39]⟩ m (grow (redrawn w1 dd) os) (by omega) (by
   rw [(below_regrown w1 dd os).cell (p:=⟨1,0,none⟩) (Nat.lt_trans hb0 H1.out.lt),H2.out.1.cell (p:=⟨1,0,none⟩) hb0]
   exact HM.out) (by decide) (by
   have:=Lib.countB_le ⟨#[39]⟩ (by decide) s.size s (Nat.le_refl _)
   have h4:ByteArray.size ⟨#[39,92,39,39]⟩ = 4:=rfl
   rw [h4]
   omega)
  rw [show Lib.replaceAll s.data.toList (ByteArray.data ⟨#[39]⟩).toList (ByteArray.data ⟨#[39,92,39,39]⟩).toList = marksL s.data.toList from replaceAll_marks _] at this
  exact Calls.regrown_of this
 have HR:=Lib.hid hR;clear hR
 refine Qu.region_tail 5 (by kernel_rfl) (by kernel_rfl) ?_
 simp only [List.take_succ_cons,List.take_zero,List.drop_succ_cons,List.drop_zero]
 repeat (first
  | (first | refine Qu.carry0 rfl (fun K hK=>?_) | refine Qu.carryG rfl rfl rfl (fun K hK=>?_)
     go_simp
     first
     | (refine hK _ ?_;clear hK K)
     | (apply Exists.intro;refine ⟨fun _=>?_,hK _ ?_⟩;exact HR.out _ _;clear hK K))
  | (refine Qu.passG rfl rfl rfl (fun K hK=>?_);go_simp;refine hK _ ?_;clear hK K))
 refine Qu.fin ?_
 rintro ⟨dq,osq⟩
 have hY:=writeString_any b _ ⟨(marksL s.data.toList).toArray⟩ _ (H1.out.below (below_regrown _ dq osq)) (by
  have:=HL.out;have:=HN.out;have:=HML.out
  have h5:ByteArray.size ⟨(marksL s.data.toList).toArray⟩ = (marksL s.data.toList).length:=by simp [ByteArray.size]
  rw [h5];simp only [List.length_append,List.length_cons,List.length_nil];omega)
 have HY:=Lib.hid hY;clear hY
 go_wp2_with (go_at_call 39;refine (HY.out).mono ?_;rintro e w2 ⟨rfl,h3,h4⟩)
 have H3:=Lib.hid h3;have H4:=Lib.hid h4;clear h3 h4
 have hZ:=writeByte_any b _ 39 w2 H3.out (by
  have:=HL.out;have:=HN.out;have:=HML.out
  simp only [List.length_append,List.length_cons,List.length_nil];omega)
 have HZ:=Lib.hid hZ;clear hZ
 go_wp2_with (go_at_call 38;refine (HZ.out).mono ?_;rintro e w3 ⟨rfl,h5,h6⟩)
 go_end0
 refine ⟨rfl,?_,H2.out.trans ((Kept.of_below (below_regrown _ dq osq) (Nat.le_of_lt H1.out.lt)).trans (H4.out.trans h6))⟩
 simpa [quoteL,List.append_assoc] using h5
end Bd
end Go.Proofs.YtoklgmbpgnimcaaGreatDoor
