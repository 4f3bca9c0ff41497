/- strings.Builder as the first field of a struct of the project's own (print.writer): WriteByte, WriteString, String at a block of that type (the shelf's contracts ask a block of type strings.Builder: these go after them). -/
import Derived.Test.YtjmpfihopeohbaaGreatDoorQrD
set_option maxHeartbeats 4000000
set_option maxRecDepth 100000
set_option linter.unusedVariables false
namespace Go.Proofs.YtjmpfihopeohbaaGreatDoor
open Go.RowKit Go.Sort
namespace Pb
def Is (b:Nat) (l:List UInt8) (w:World):Prop:=Lib.IsBuilderF 51 5 b b (Lib.byteCells l) w
def Kept (b:Nat) (w w':World):Prop:=Below b w w'∧Lib.OthersKept 5 (some b) w w'
theorem Kept.refl (b:Nat) (w:World):Kept b w w:=⟨Below.refl _ _,Lib.OthersKept.refl _ _ _⟩
theorem Kept.trans {b:Nat} {w w1 w2:World} (h:Kept b w w1) (k:Kept b w1 w2):Kept b w w2:=⟨h.1.trans k.1,h.2.trans k.2⟩
theorem Is.lt {b:Nat} {l:List UInt8} {w:World} (h:Is b l w):b < w.heap.size:=by
 rcases h with h | h
 ·exact h.lt
 ·exact h.lt
theorem infoW:(Tryz.prog.info? 49).map (·.size) = some 2:=by kernel_rfl
theorem liesW:liesAt Tryz.prog Tryz.prog.depth 51 (2 / Tryz.prog.cellsOf 51) 0 49 1 = true:=by kernel_rfl
theorem infoByte:(Tryz.prog.info? 5).map (fun i=>(i.zero,i.size,i.bytes)) = some (some (.int .u8 0),1,1):=by kernel_rfl
theorem copyCheck_used (b:Nat) (w:World) (h0:w.cell? ⟨b,0,none⟩ = some (.pointer (some ⟨b,0,none⟩))) :
  Calls Tryz.prog 57 #[.pointer (some ⟨b,0,none⟩)] w fun e w'=>e = .returned (.tuple #[])∧w' = w:=by
 obtain ⟨j,hj,_⟩:=Option.map_eq_some_iff.1 infoW;go_enter Tryz.func57,Tryz.ntmps57;go_wp2;rw [Lib.run_neq_ptr_same w _ Tryz.underlying46 hj];go_wp2;go_end0;exact ⟨rfl,rfl⟩
theorem copyCheck_fresh (b:Nat) (w:World) (h0:w.cell? ⟨b,0,none⟩ = some (.pointer none)) (hsh:w.shape? b = some (51,2)) (hfz:w.frozen? ⟨b,0,none⟩ = false) :
  Calls Tryz.prog 57 #[.pointer (some ⟨b,0,none⟩)] w fun e w'=>e = .returned (.tuple #[])∧w' = w.setCell ⟨b,0,none⟩ (.pointer (some ⟨b,0,none⟩)):=by
 obtain ⟨j,hj,hjs⟩:=Option.map_eq_some_iff.1 infoW;go_enter Tryz.func57,Tryz.ntmps57;go_wp2;rw [Lib.run_to_unsafe w ⟨b,0,none⟩ Tryz.underlying46 Tryz.underlying114 hj (by rw [hjs];decide) hsh (Nat.zero_lt_succ 1)];simp only [Result.andThen];rw [Oper.upon_value];go_wp2;rw [run_callFunc_extern Tryz.func100 (by kernel_rfl) (by kernel_rfl) (by kernel_rfl) (e:=Extern.AbiNoEscape.same) (by kernel_rfl)];rw [Lib.run_noEscape];simp only [Result.andThen];rw [Oper.upon_value];go_wp2;rw [Lib.run_from_unsafe w ⟨b,0,none⟩ Tryz.underlying114 Tryz.underlying46 hj hsh liesW];simp only [Result.andThen];rw [Oper.upon_value];go_wp2;go_end0;exact ⟨rfl,rfl⟩
theorem copyCheck_any (b:Nat) (bs:List Value) (w:World) (h:Lib.IsBuilderF 51 5 b b bs w) :
  Calls Tryz.prog 57 #[.pointer (some ⟨b,0,none⟩)] w fun e w'=>e = .returned (.tuple #[])∧(Lib.BuilderAtF 51 5 b b (.pointer (some ⟨b,0,none⟩)) bs w'∧Below b w w'∧Lib.OthersKept 5 (some b) w w'):=by
 rcases h with h | h
 ·refine (copyCheck_fresh b w h.cell0 h.shape h.frozen0).mono ?_;rintro e w' ⟨rfl,rfl⟩;exact ⟨rfl,h.used _,(Below.refl b w).setCell (p:=⟨b,0,none⟩) h.1 _,(Lib.OthersKept.refl _ _ w).setCell ⟨b,0,none⟩ rfl _⟩
 ·refine (copyCheck_used b w h.cell0).mono ?_;rintro e w' ⟨rfl,rfl⟩;exact ⟨rfl,h,Below.refl b _,Lib.OthersKept.refl _ _ _⟩
theorem writeString_any (b:Nat) (l:List UInt8) (s:ByteArray) (w:World) (h:Is b l w) (hlen:l.length + s.size≤140737488355328) :
  Calls Tryz.prog 38 #[.pointer (some ⟨b,0,none⟩),.string s] w fun e w'=>e = .returned (.tuple #[.int .i64 s.size,.nilIface])∧Is b (l ++ s.data.toList) w'∧Kept b w w':=by
 obtain ⟨i0,hi,hz0,hz1,hz2⟩:=info_parts infoByte;have hBw:b≤w.heap.size:=Nat.le_of_lt h.lt;rw [← Lib.byteCells_length l] at hlen;have hcat:Lib.byteCells (l ++ s.data.toList) = Lib.byteCells l ++ Lib.strCells s:=by rw [Lib.byteCells_append];rfl
 unfold Is Kept;unfold Is at h;rw [hcat];go_enter Tryz.func38,Tryz.ntmps38;go_wp2_with (go_at_call 57;refine (copyCheck_any b (Lib.byteCells l) _ h).mono ?_);rintro e w1 ⟨rfl,h1,hb1,hk1⟩;obtain ⟨hB,v,hbk,hown,hne⟩:=h1;have c0:w1.cell? ⟨b,0,none⟩ = some (.pointer (some ⟨b,0,none⟩)):=by rw [Lib.cell_of_heap hbk];rfl
 have c1:w1.cell? ⟨b,1,none⟩ = some v:=by rw [Lib.cell_of_heap hbk];rfl
 go_wp2_with (at_builtin;refine Lib.wpList_append_own_stringF _ rfl _ _ 47 9 rfl b 5 i0 Tryz.underlying47 Tryz.underlying9 hi hz0 hz1 hz2 _ _ _ rfl hown s rfl ?c3 ?c4 ?c5 ?_)
 case c3=>unfold maxLen;omega
 case c4=>omega
 case c5=>have:=hb1.size;omega
 intro v' w2 hown' hgrow _;have hlt:b < w1.heap.size:=by
  rcases Nat.lt_or_ge b w1.heap.size with h' | h'
  ·exact h'
  ·simp [Array.getElem?_eq_none h'] at hbk
 have hb2:w2.heap[b]? = some (.cells #[.pointer (some ⟨b,0,none⟩),v] 51 (0,0)):=by
  rw [hgrow.block b hlt (fun e=>hne e.symm)];exact hbk
 have d0:w2.cell? ⟨b,0,none⟩ = some (.pointer (some ⟨b,0,none⟩)):=by rw [Lib.cell_of_heap hb2];rfl
 have d1:w2.cell? ⟨b,1,none⟩ = some v:=by rw [Lib.cell_of_heap hb2];rfl
 have f1:w2.frozen? ⟨b,1,none⟩ = false:=Lib.frozen_of_heap hb2 1;obtain ⟨ao,n',cap,rfl⟩:∃ ao n' cap,v' = .slice ao n' cap:=by
  rcases hown'.2 with ⟨hv,_⟩ | ⟨g,cap,cur,fz,hv,_⟩
  ·exact ⟨_,_,_,hv⟩
  ·exact ⟨_,_,_,hv⟩
 go_wp2;go_ret2;refine ⟨rfl,.inr ?_,?_,(hk1.grown hgrow (Lib.ownsRowF_kind hown)).setCell ⟨b,1,none⟩ rfl _⟩
 ·exact Lib.BuilderAtF.put (T:=51) (e:=5) hB hb2 (bs':=Lib.byteCells l ++ Lib.strCells s) (by simpa [Lib.strCells_length] using hown') (by decide)
 ·exact (hb1.grown hgrow (by have:=hb1.size;omega) (fun k hk=>(hown.lt k hk).1)).setCell (p:=⟨b,1,none⟩) hB _
theorem string_any (b:Nat) (l:List UInt8) (w:World) (h:Is b l w) (h0:l ≠ []) :
  Calls Tryz.prog 20 #[.pointer (some ⟨b,0,none⟩)] w fun e w'=>e = .returned (.string ⟨l.toArray⟩)∧Below b w w':=by
 obtain ⟨p,hB,v,hbk,hown,hne⟩:∃ p,Lib.BuilderAtF 51 5 b b p (Lib.byteCells l) w:=by
  rcases h with h | h
  ·exact ⟨_,h⟩
  ·exact ⟨_,h⟩
 have hl0:l.length ≠ 0:=by simpa using h0
 rw [Lib.byteCells_length] at hown;obtain ⟨g,cap,cur,fz,rfl,hbg,hg,hnc,hcm,hcs⟩:∃ g cap cur fz,v = .slice (some ⟨g,0,none⟩) l.length cap∧b≤g∧w.heap[g]? = some (.cells cur 5 fz)∧l.length≤cap∧cap≤maxLen∧cur.size = cap * 1:=by
  rcases hown.2 with ⟨_,hz⟩ | ⟨g,cap,cur,fz,hv,r1,r2,_,r3,r4,r5,_⟩
  ·exact absurd hz hl0
  ·exact ⟨g,cap,cur,fz,hv,r1,r2,r3,r4,r5⟩
 have c1:w.drew.cell? ⟨b,1,none⟩ = some (.slice (some ⟨g,0,none⟩) l.length cap):=by
  have:w.drew.heap[b]? = some (.cells #[p,.slice (some ⟨g,0,none⟩) l.length cap] 51 (0,0)):=hbk;rw [Lib.cell_of_heap this];rfl
 have hSD:(Builtin.unsafeSliceData_ #[47] 85 #[.slice (some ⟨g,0,none⟩) l.length cap]).run Tryz.prog w.drew = .ok (.pointer (some ⟨g,0,none⟩)) w.drew :=
  Lib.run_unsafeSliceData_row _ _ _ _ _ _ (by omega)
 have hUS:(Builtin.unsafeString_ #[85,3] 9 #[.pointer (some ⟨g,0,none⟩),.int .i64 l.length]).run Tryz.prog w.drew = .ok (.string ⟨l.toArray⟩) (w.drew.freeze ⟨g,0,none⟩ l.length):=by
  refine Lib.run_unsafeString_row w.drew 85 3 9 5 Tryz.underlying85 (by kernel_rfl) g cur.size (by have hg':w.drew.heap[g]? = some (.cells cur 5 fz):=hg;simp [World.shape?,hg']) l h0 (by omega) (by unfold maxLen at hcm;omega) ?_;intro j x hx;have:=hown.cells (g:=g) rfl j (.int .u8 x.toNat) (by simp [Lib.byteCells,hx]);exact this
 go_enter Tryz.func20,Tryz.ntmps20;go_wp2;go_region
 all_goals (go_wp2;go_ret;exact ⟨rfl,Lib.below_freeze (Below.drew (Below.refl b w)) (p:=⟨g,0,none⟩) hbg _⟩)
theorem Is.below {b:Nat} {l:List UInt8} {w w':World} (h:Is b l w) (hb:Below w.heap.size w w'):Is b l w':=by
 have key:∀ p,Lib.BuilderAtF 51 5 b b p (Lib.byteCells l) w→Lib.BuilderAtF 51 5 b b p (Lib.byteCells l) w':=by
  rintro p ⟨hB,v,hbk,hown,hne⟩;have hlt:∀ {k:Nat} {o:Obj},w.heap[k]? = some o→w'.heap[k]? = some o:=fun {k o} h=>(hb.block k (Array.getElem?_eq_some_iff.1 h).1).trans h;refine ⟨hB,v,hlt hbk,⟨hown.1,?_⟩,hne⟩;rcases hown.2 with h | ⟨g,cap,cur,fz,hv,hg,hh,hr⟩
  ·exact .inl h
  ·exact .inr ⟨g,cap,cur,fz,hv,hg,hlt hh,hr⟩
 exact h.elim (fun x=>.inl (key _ x)) (fun x=>.inr (key _ x))
theorem Kept.of_below {b:Nat} {w w':World} (h:Below w.heap.size w w') (hb:b≤w.heap.size):Kept b w w' :=
 ⟨h.mono hb,fun k _ hk _ _=>(h.block k (Array.getElem?_eq_some_iff.1 hk).1).trans hk⟩
theorem string_nil (b:Nat) (p:Value) (w:World) (hbk:w.heap[b]? = some (.cells #[p,.slice none 0 0] 51 (0,0))) :
  Calls Tryz.prog 20 #[.pointer (some ⟨b,0,none⟩)] w fun e w'=>e = .returned (.string ⟨#[]⟩)∧Below w.heap.size w w':=by
 have c1:w.drew.cell? ⟨b,1,none⟩ = some (.slice none 0 0):=by
  have:w.drew.heap[b]? = some (.cells #[p,.slice none 0 0] 51 (0,0)):=hbk;rw [Lib.cell_of_heap this];rfl
 have hSD:(Builtin.unsafeSliceData_ #[47] 85 #[.slice none 0 0]).run Tryz.prog w.drew = .ok (.pointer none) w.drew:=rfl;have hUS:∀ w:World,(Builtin.unsafeString_ #[85,3] 9 #[.pointer none,.int .i64 0]).run Tryz.prog w = .ok (.string ⟨#[]⟩) w:=fun w=>Lib.run_unsafeString_none w _ _ _ none;go_enter Tryz.func20,Tryz.ntmps20;go_wp2;go_region
 all_goals (go_wp2;go_ret;exact ⟨rfl,Below.drew (Below.refl _ w)⟩)
end Pb
end Go.Proofs.YtjmpfihopeohbaaGreatDoor
namespace Go.Proofs.YtjmpfihopeohbaaGreatDoor
open Go.RowKit Go.Sort
namespace Pw
open Cls Pt Tr Pr
open Ps (ND)
theorem bytes_text:∀ (l:PL) (p:Option (Int × Bool)) (at' d:Nat),rightL p l at' d = true→Bd.bytes l≤2 * (Bd.textL l at').length
 | .nil,_,_,_,_=>Nat.zero_le _
 | .cons k q t o f r,p,at',d,h=>by
  have ht:t.data.toList.length = t.size:=lenB t;have ho:o.data.toList.length = o.size:=lenB o;simp only [rightL,Bool.and_eq_true] at h;obtain ⟨⟨⟨_,_⟩,h2⟩,h3⟩:=h;have ihr:=bytes_text r _ _ _ h3;rw [Bd.textL_cons,List.length_append];simp only [Bd.bytes]
  suffices hs:1 + t.size + o.size + Bd.bytes f≤2 * (Bd.partT k q t o f at').length by omega
  unfold Bd.partT;split at h2
  ·rename_i hk;simp only [beq_iff_eq] at hk;subst hk;simp only [Bool.and_eq_true,beq_iff_eq] at h2;obtain ⟨⟨ho0,hf⟩,htx⟩:=h2;have hf0:f = .nil:=by cases f with
    | nil=>rfl
    | cons=>simp [PL.len] at hf
   subst hf0;have ho1:o.size = 0:=by rw [← ho,ho0];rfl
   have hne:q = false∨at' = 2→1≤t.size:=fun hq=>by
    have:t.data.toList ≠ []:=by
     unfold textOK at htx;rcases hq with rfl | rfl
     ·simp only [Bool.false_eq_true,if_false,Bool.and_eq_true,Bool.not_eq_true',beq_eq_false_iff_ne] at htx;exact htx.2
     ·cases q
      ·simp only [Bool.false_eq_true,if_false,Bool.and_eq_true,Bool.not_eq_true',beq_eq_false_iff_ne] at htx;exact htx.2
      ·simp at htx;simpa using htx
    have:=List.length_pos_iff.2 this;omega
   have h12:((1:Int) == 2) = false:=rfl;rw [h12];simp only [Bool.false_eq_true,if_false,Bd.bytes];cases ha:(at' == 2)
   ·simp only [Bool.false_eq_true,if_false];cases q
    ·have:=hne (.inl rfl);simp only [Bool.false_eq_true,if_false];omega
    ·have hm:t.size≤(Bd.marksL t.data.toList).length:=by
      rw [← ht];generalize t.data.toList = L
      induction L with
      | nil=>exact Nat.zero_le _
      | cons c L ih =>
       simp only [Bd.marksL,List.flatMap_cons,List.length_append,List.length_cons] at ih ⊢
       split <;> simp only [List.length_cons,List.length_nil] <;> omega
     simp only [if_true,Bd.quoteL,List.length_cons,List.length_append,List.length_nil];omega
   ·have:=hne (.inr (by simpa using ha));have hm:t.size≤(Bd.escL t.data.toList).length:=by
     rw [← ht];generalize t.data.toList = L
     induction L with
     | nil=>exact Nat.zero_le _
     | cons c L ih =>
      simp only [Bd.escL,List.flatMap_cons,List.length_append,List.length_cons] at ih ⊢
      split <;> simp only [List.length_cons,List.length_nil] <;> omega
    simp only [if_true];omega
  ·split at h2
   ·rename_i hk;simp only [Bool.and_eq_true] at h2;have ihf:=bytes_text f _ _ _ h2.2;rw [if_pos hk];unfold Bd.paramT;split <;> simp only [List.length_cons,List.length_append,List.length_nil] <;> omega
   ·cases h2
inductive Pc where
 | str (s:ByteArray)
 | word (l:PL)
 | asg (x:ByteArray × PL)
 | cse (ps:List PL) (bd:NL)
 | node (x:ND)
def pcT:Pc→T
 | .str s=>s.data.toList
 | .word l=>wordT l
 | .asg x=>asgT x
 | .cse ps bd=>caseT ps (txt bd)
 | .node x=>tx x
def pcsT (ps:List Pc):T:=(ps.map pcT).flatten
theorem pcsT_cons (p:Pc) (ps:List Pc):pcsT (p :: ps) = pcT p ++ pcsT ps:=rfl
def msr:Pc→Nat
 | .str _=>0
 | .word _=>0
 | .asg _=>1
 | .cse _ bd=>4 * bd.size + 3
 | .node x=>4 * sz x + 4
def PcR:Pc→Prop
 | .str _=>True
 | .word l=>rightL none l 0 1 = true
 | .asg x=>rightL none x.2 0 1 = true
 | .cse ps bd=>(∀ l ∈ ps,rightL none l 0 1 = true)∧bd.len≤1∧NL.okN bd true = true∧∀ x ∈ ofN bd,∃ D,W x D
 | .node x=>∃ D,W x D
def PcV (w:World):Pc→Value→Prop
 | .str s,v=>v = .iface 9 (.string s)
 | .word l,v=>∃ a cap,v = .iface 39 (.slice a l.len cap)∧Lies w a cap l
 | .asg x,v=>∃ a cap,v = .iface 42 (.agg #[.string x.1,.slice a x.2.len cap])∧Lies w a cap x.2
 | .cse ps bd,v=>∃ a1 c1 a2 c2,v = .iface 44 (.agg #[.slice a1 ps.length c1,.slice a2 bd.len c2])∧Sl 1 (PW w) a1 c1 ps∧NLies w a2 c2 bd
 | .node x,v=>∃ a1 c1 a2 c2 a3 c3 a4 c4 a5 c5,v = .iface 28 (.agg (nodeV x.k x.nm x.g a1 x.az.length c1 a2 x.ws.length c2 a3 x.ks.len c3 a4 x.bs.length c4 a5 x.cz.len c5))∧Holds w x.nm x.az x.ws x.ks x.bs x.cz a1 c1 a2 c2 a3 c3 a4 c4 a5 c5
inductive Vals (w:World):List Pc→List Value→Prop
 | nil:Vals w [] []
 | cons {p:Pc} {v:Value} {ps:List Pc} {vs:List Value} (h:PcV w p v) (hr:Vals w ps vs):Vals w (p :: ps) (v :: vs)
theorem Vals.get {w:World}:∀ {ps:List Pc} {vs:List Value} {n:Nat} {p:Pc},Vals w ps vs→ps[n]? = some p→∃ v,vs[n]? = some v∧PcV w p v
 | _,_,n,p,.nil,h=>by simp at h
 | _,_,0,p,.cons h hr,e=>by
  simp only [List.getElem?_cons_zero,Option.some.injEq] at e;subst e;exact ⟨_,rfl,h⟩
 | _,_,n + 1,p,.cons h hr,e=>by
  rw [List.getElem?_cons_succ] at e ⊢
  exact hr.get e
def Wrote (b:Nat) (t:T) (w:World):Ending→World→Prop:=fun e w'=>e = .returned (.tuple #[])∧Pb.Is b t w'∧Pb.Kept b w w'
structure Out (w0:World) (acc:T) (w:World):Prop where
 is:Pb.Is w0.heap.size acc w
 b:Below w0.heap.size w0 w
theorem Out.kept {w0 w w':World} {acc acc':T} (h:Out w0 acc w) (hi:Pb.Is w0.heap.size acc' w') (hk:Pb.Kept w0.heap.size w w'):Out w0 acc' w':=⟨hi,h.b.trans hk.1⟩
theorem Out.below {w0 w w':World} {acc:T} (h:Out w0 acc w) (hb:Below w.heap.size w w'):Out w0 acc w':=⟨h.is.below hb,h.b.trans (Pb.Kept.of_below hb (Nat.le_of_lt h.is.lt)).1⟩
def Row (w:World) (g:Nat) (vs:List Value):Prop:=w.heap[g]? = some (.cells vs.toArray 20 (0,0))
theorem Row.kept {w w':World} {b g:Nat} {vs:List Value} (h:Row w g vs) (hg:b < g) (hk:Pb.Kept b w w'):Row w' g vs :=
 hk.2 g _ h (by simp;omega) (fun c fz hc=>by injection hc with _ h2 _;exact absurd h2 (by decide))
theorem Row.cell {w:World} {g:Nat} {vs:List Value} (h:Row w g vs) {n:Nat} {v:Value} (hv:vs[n]? = some v):w.cell? ⟨g,n,none⟩ = some v:=by
 rw [Lib.cell_of_heap h n];simpa using hv
def WriteAt (w0:World) (M:Nat):Prop:=∀ (ps:List Pc) (vs:List Value) (g:Nat) (acc:T) (w:World),(∀ p ∈ ps,msr p < M∧PcR p)→Vals w0 ps vs→ps.length≤100→Row w g vs→w0.heap.size < g→Out w0 acc w→acc.length + (pcsT ps).length≤400000 →
 Calls Tryz.prog 19 #[.pointer (some ⟨w0.heap.size,0,none⟩),.slice (some ⟨g,0,none⟩) ps.length ps.length] w (Wrote w0.heap.size (acc ++ pcsT ps) w)
def CommandAt (w0:World) (x:ND):Prop:=∀ (a1:Option Addr) (c1:Nat) (a2:Option Addr) (c2:Nat) (a3:Option Addr) (c3:Nat) (a4:Option Addr) (c4:Nat) (a5:Option Addr) (c5:Nat) (acc:T) (w:World),Holds w0 x.nm x.az x.ws x.ks x.bs x.cz a1 c1 a2 c2 a3 c3 a4 c4 a5 c5→Out w0 acc w→acc.length + (tx x).length≤400000 →
 Calls Tryz.prog 41 #[.pointer (some ⟨w0.heap.size,0,none⟩),.agg (nodeV x.k x.nm x.g a1 x.az.length c1 a2 x.ws.length c2 a3 x.ks.len c3 a4 x.bs.length c4 a5 x.cz.len c5)] w (Wrote w0.heap.size (acc ++ tx x) w)
def EntryAt (w0:World) (ps:List PL) (bd:NL):Prop:=∀ (a1:Option Addr) (c1:Nat) (a2:Option Addr) (c2:Nat) (acc:T) (w:World),Sl 1 (PW w0) a1 c1 ps→NLies w0 a2 c2 bd→Out w0 acc w→acc.length + (caseT ps (txt bd)).length≤400000 →
 Calls Tryz.prog 40 #[.pointer (some ⟨w0.heap.size,0,none⟩),.agg #[.slice a1 ps.length c1,.slice a2 bd.len c2]] w (Wrote w0.heap.size (acc ++ caseT ps (txt bd)) w)
end Pw
end Go.Proofs.YtjmpfihopeohbaaGreatDoor
namespace Go.Proofs.YtjmpfihopeohbaaGreatDoor
open Go.RowKit Go.Sort
namespace Pw
open Cls Pt Tr Pr
open Ps (ND)
theorem is_S (v:Value) (xT:TypeId) (w:World):(Instr.typeAssert (.iface 9 v) xT 9 true).run Tryz.prog w = .ok (.tuple #[v,.bool true]) w:=by kernel_rfl
theorem is_W (v:Value) (xT:TypeId) (w:World):(Instr.typeAssert (.iface 39 v) xT 39 true).run Tryz.prog w = .ok (.tuple #[v,.bool true]) w:=by kernel_rfl
theorem no_WS (v:Value) (xT:TypeId) (w:World):(Instr.typeAssert (.iface 39 v) xT 9 true).run Tryz.prog w = .ok (.tuple #[.string ⟨#[]⟩,.bool false]) w:=by kernel_rfl
theorem is_A (v:Value) (xT:TypeId) (w:World):(Instr.typeAssert (.iface 42 v) xT 42 true).run Tryz.prog w = .ok (.tuple #[v,.bool true]) w:=by kernel_rfl
theorem no_AS (v:Value) (xT:TypeId) (w:World):(Instr.typeAssert (.iface 42 v) xT 9 true).run Tryz.prog w = .ok (.tuple #[.string ⟨#[]⟩,.bool false]) w:=by kernel_rfl
theorem no_AW (v:Value) (xT:TypeId) (w:World):(Instr.typeAssert (.iface 42 v) xT 39 true).run Tryz.prog w = .ok (.tuple #[.slice none 0 0,.bool false]) w:=by kernel_rfl
theorem is_C (v:Value) (xT:TypeId) (w:World):(Instr.typeAssert (.iface 44 v) xT 44 true).run Tryz.prog w = .ok (.tuple #[v,.bool true]) w:=by kernel_rfl
theorem no_CS (v:Value) (xT:TypeId) (w:World):(Instr.typeAssert (.iface 44 v) xT 9 true).run Tryz.prog w = .ok (.tuple #[.string ⟨#[]⟩,.bool false]) w:=by kernel_rfl
theorem no_CW (v:Value) (xT:TypeId) (w:World):(Instr.typeAssert (.iface 44 v) xT 39 true).run Tryz.prog w = .ok (.tuple #[.slice none 0 0,.bool false]) w:=by kernel_rfl
theorem no_CA (v:Value) (xT:TypeId) (w:World):(Instr.typeAssert (.iface 44 v) xT 42 true).run Tryz.prog w = .ok (.tuple #[.agg #[.string ⟨#[]⟩,.slice none 0 0],.bool false]) w:=by kernel_rfl
theorem is_N (v:Value) (xT:TypeId) (w:World):(Instr.typeAssert (.iface 28 v) xT 28 true).run Tryz.prog w = .ok (.tuple #[v,.bool true]) w:=by kernel_rfl
theorem no_NS (v:Value) (xT:TypeId) (w:World):(Instr.typeAssert (.iface 28 v) xT 9 true).run Tryz.prog w = .ok (.tuple #[.string ⟨#[]⟩,.bool false]) w:=by kernel_rfl
theorem no_NW (v:Value) (xT:TypeId) (w:World):(Instr.typeAssert (.iface 28 v) xT 39 true).run Tryz.prog w = .ok (.tuple #[.slice none 0 0,.bool false]) w:=by kernel_rfl
theorem no_NA (v:Value) (xT:TypeId) (w:World):(Instr.typeAssert (.iface 28 v) xT 42 true).run Tryz.prog w = .ok (.tuple #[.agg #[.string ⟨#[]⟩,.slice none 0 0],.bool false]) w:=by kernel_rfl
theorem no_NC (v:Value) (xT:TypeId) (w:World):(Instr.typeAssert (.iface 28 v) xT 44 true).run Tryz.prog w = .ok (.tuple #[.agg #[.slice none 0 0,.slice none 0 0],.bool false]) w:=by kernel_rfl
theorem write_row {w0:World} {M:Nat} (h:WriteAt w0 M) (ps:List Pc) (vs:List Value) (acc:T) (w:World) (hp:∀ p ∈ ps,msr p < M∧PcR p) (hv:Vals w0 ps vs) (hlen:ps.length≤100) (ho:Out w0 acc w) (hl:acc.length + (pcsT ps).length≤400000) :
  Calls Tryz.prog 19 #[.pointer (some ⟨w0.heap.size,0,none⟩),.slice (some ⟨w.heap.size,0,none⟩) ps.length ps.length] (w.alloc (.cells vs.toArray 20)) (Wrote w0.heap.size (acc ++ pcsT ps) w) :=
 (h ps vs w.heap.size acc _ hp hv hlen (heap_alloc_new _ _) ho.is.lt (ho.below (bel1 _ _)) hl).mono fun _ _ ⟨h1,h2,h3⟩=>⟨h1,h2,(Pb.Kept.of_below (bel1 _ _) (Nat.le_of_lt ho.is.lt)).trans h3⟩
theorem write_step (w0:World) (m:Int) (hm:w0.cell? ⟨0,0,none⟩ = some (.int .i64 m)) (M:Nat) (IH:∀ M' < M,WriteAt w0 M') (hC:∀ x:ND,msr (.node x) < M→(∃ D,W x D)→CommandAt w0 x) (hE:∀ ps bd,msr (.cse ps bd) < M→PcR (.cse ps bd)→EntryAt w0 ps bd):WriteAt w0 M:=by
 intro ps vs g acc w hp hv hlen hr hg ho hl;have hmb:0 < w0.heap.size:=World.block_lt_of_cell? _ _ hm;have HIH:=Lib.hid IH;have HC:=Lib.hid hC;have HE:=Lib.hid hE;have HP:=Lib.hid hp;have HV:=Lib.hid hv;have HR:=Lib.hid hr;have HO:=Lib.hid ho;have HL:=Lib.hid hl;have HM:=Lib.hid hm;have HLN:=Lib.hid hlen;clear IH hC hE hp hv hr ho hl hm;unfold Wrote;go_enter Tryz.func19,Tryz.ntmps19;go_wp2
 go_loopw [13] (fun i wr=>∃ (n:Nat) (acc':T),n≤ps.length∧i = .int .i64 n∧Out w0 acc' wr∧acc ++ pcsT ps = acc' ++ pcsT (ps.drop n)∧Pb.Kept w0.heap.size w wr) (fun i wr=>ps.length - (intOf i).toNat)
 case atStart=>exact ⟨0,acc,Nat.zero_le _,rfl,HO.out,rfl,Pb.Kept.refl _ _⟩
 case round =>
  obtain ⟨n,acc',hn,rfl,hi,htx,hkp⟩:=hrel;have HI:=Lib.hid hi;have HT:=Lib.hid htx;have HK:=Lib.hid hkp;clear hi htx hkp
  by_cases hlt:n < ps.length
  ·obtain ⟨p,hp⟩:∃ p,ps[n]? = some p:=⟨_,List.getElem?_eq_getElem hlt⟩;obtain ⟨v,hvn,hv⟩:=HV.out.get hp;have hdr:ps.drop n = p :: ps.drop (n + 1):=by
    rw [List.drop_eq_getElem_cons hlt];rw [List.getElem?_eq_getElem hlt] at hp;injection hp with hp;rw [hp]
   have hT:acc ++ pcsT ps = (acc' ++ pcT p) ++ pcsT (ps.drop (n + 1)):=by rw [HT.out,hdr,pcsT_cons,List.append_assoc]
   have hln:acc'.length + (pcT p).length≤400000:=by
    have:=congrArg List.length hT;have h2:=HL.out;simp only [List.length_append] at this;omega
   have hmem:p ∈ ps:=List.mem_of_getElem? hp;have hpr:=HP.out p hmem;have cv:wr.cell? ⟨g,n,none⟩ = some v:=(HR.out.kept hg HK.out).cell hvn;have hln2:=HLN.out;have HT2:=Lib.hid hT;have HL2:=Lib.hid hln;have HPR:=Lib.hid hpr;clear hT hln hpr hmem hdr hvn hp;cases p with
   | str s =>
    obtain rfl:v = .iface 9 (.string s):=hv;have HW:=Lib.hid (Pb.writeString_any w0.heap.size acc' s wr HI.out.is (by have:=HL2.out;simp only [pcT] at this;rw [lenB] at this;omega));have a1:=is_S;go_wp2_with (go_at_call 38;refine (HW.out).mono ?_;rintro e w2 ⟨rfl,h3,h4⟩);have H3:=Lib.hid h3;have H4:=Lib.hid h4;clear h3 h4;clear a1;go_roundw
    case rel=>exact ⟨n + 1,_,by omega,by go_num,HI.out.kept H3.out H4.out,HT2.out,HK.out.trans H4.out⟩
    case measure=>simp [intOf];omega
   | word l =>
    obtain ⟨a,cap,rfl,hli⟩:=hv;have hrt:rightL none l 0 1 = true:=HPR.out.2;have hwt:Bd.valueText l = wordT l:=by unfold Bd.valueText;rw [if_pos hrt];rfl
    have hby:=bytes_text l none 0 1 HPR.out.2;have hR:∀ dd os,Calls Tryz.prog 39 #[.slice a l.len cap] (grow (redrawn wr dd) os) fun e w''=>e = .returned (.string ⟨(wordT l).toArray⟩)∧∃ p:Regrown,w'' = grow (redrawn wr p.d) p.os:=fun dd os=>by
     have:=Bd.text_most l a cap m (grow (redrawn wr dd) os) (((hli.below HI.out.b)).below (below_regrown wr dd os)) (by
      rw [(below_regrown wr dd os).cell (p:=⟨0,0,none⟩) (Nat.lt_trans hmb HI.out.is.lt),HI.out.b.cell (p:=⟨0,0,none⟩) hmb]
      exact HM.out) (by have:=HL2.out;simp only [pcT,wordT] at this;omega)
     rw [hwt] at this;exact Calls.regrown_of this
    have HRR:=Lib.hid hR;clear hR hwt hby hli;have a1:=is_W;have a2:=no_WS;go_wp2;clear a1 a2;refine Qu.region_tail 5 (by kernel_rfl) (by kernel_rfl) ?_;simp only [List.take_succ_cons,List.take_zero,List.drop_succ_cons,List.drop_zero]
    repeat (first
     | (first | refine Qu.carry0 rfl (fun K hK=>?_) | refine Qu.carryG rfl rfl rfl (fun K hK=>?_)
        go_simp
        first
        | (refine hK _ ?_;clear hK K)
        | (apply Exists.intro;refine ⟨fun _=>?_,hK _ ?_⟩;exact HRR.out _ _;clear hK K))
     | (refine Qu.passG rfl rfl rfl (fun K hK=>?_);go_simp;refine hK _ ?_;clear hK K))
    refine Qu.fin ?_;rintro ⟨dq,osq⟩
    have hY:=Pb.writeString_any w0.heap.size acc' ⟨(wordT l).toArray⟩ _ (HI.out.is.below (below_regrown _ dq osq)) (by
     have:=HL2.out;have h5:ByteArray.size ⟨(wordT l).toArray⟩ = (wordT l).length:=by simp [ByteArray.size]
     simp only [pcT] at this;rw [h5];omega)
    have HY:=Lib.hid hY;clear hY;go_wp2_with (go_at_call 38;refine (HY.out).mono ?_;rintro e w2 ⟨rfl,h3,h4⟩);have H3:=Lib.hid h3;have H4:=Lib.hid ((Pb.Kept.of_below (below_regrown wr dq osq) (Nat.le_of_lt HI.out.is.lt)).trans h4);clear h3 h4;go_roundw
    case rel=>exact ⟨n + 1,_,by omega,by go_num,HI.out.kept H3.out H4.out,HT2.out,HK.out.trans H4.out⟩
    case measure=>simp [intOf];omega
   | asg x =>
    obtain ⟨a,cap,rfl,hli⟩:=hv
    have hW:=write_row (HIH.out 1 HPR.out.1) [.str x.1,.str ⟨#[61]⟩,.word x.2] [.iface 9 (.string x.1),.iface 9 (.string ⟨#[61]⟩),.iface 39 (.slice a x.2.len cap)] acc' (wr.alloc (.cells #[.string x.1,.slice a x.2.len cap] 42)) (by
     intro p hp;simp only [List.mem_cons,List.not_mem_nil,or_false] at hp;rcases hp with rfl | rfl | rfl
     ·exact ⟨Nat.zero_lt_one,trivial⟩
     ·exact ⟨Nat.zero_lt_one,trivial⟩
     ·exact ⟨Nat.zero_lt_one,HPR.out.2⟩) (.cons rfl (.cons rfl (.cons ⟨a,cap,rfl,hli⟩ .nil))) (by simp) (HI.out.below (bel1 _ _)) (by
     have:=HL2.out
     simp only [pcT,asgT,pcsT,List.map_cons,List.map_nil,List.flatten_cons,List.flatten_nil,List.length_append,List.length_cons,List.length_nil] at this ⊢;omega)
    have htx:pcsT [.str x.1,.str ⟨#[61]⟩,.word x.2] = pcT (.asg x):=by simp [pcsT,pcT,asgT]
    have hsz:(wr.alloc (.cells #[.string x.1,.slice a x.2.len cap] 42)).heap.size = wr.heap.size + 1:=by simp
    rw [htx,hsz] at hW;have HW:=Lib.hid (hW.mono fun _ _ h=>show Wrote w0.heap.size (acc' ++ pcT (.asg x)) wr _ _ from ⟨h.1,h.2.1,(Pb.Kept.of_below (bel1 _ _) (Nat.le_of_lt HI.out.is.lt)).trans h.2.2⟩);clear hW htx hli hsz;have a1:=is_A;have a2:=no_AS;have a3:=no_AW;go_wp2_with (go_at_call 19;refine (HW.out).mono ?_;rintro e w2 ⟨rfl,h3,h4⟩);have H3:=Lib.hid h3;have H4:=Lib.hid h4;clear h3 h4;clear a1 a2 a3;go_roundw
    case rel=>exact ⟨n + 1,_,by omega,by go_num,HI.out.kept H3.out H4.out,HT2.out,HK.out.trans H4.out⟩
    case measure=>simp [intOf];omega
   | cse ps2 bd =>
    obtain ⟨b1,c1,b2,c2,rfl,hs1,hs2⟩:=hv;have HW:=Lib.hid ((HE.out ps2 bd HPR.out.1 HPR.out.2 b1 c1 b2 c2 acc' (wr.alloc (.cells #[.slice b1 ps2.length c1,.slice b2 bd.len c2] 44)) hs1 hs2 (HI.out.below (bel1 _ _)) HL2.out).mono fun _ _ h=>show Wrote w0.heap.size (acc' ++ pcT (.cse ps2 bd)) wr _ _ from ⟨h.1,h.2.1,(Pb.Kept.of_below (bel1 _ _) (Nat.le_of_lt HI.out.is.lt)).trans h.2.2⟩);clear hs1 hs2;have a1:=is_C;have a2:=no_CS;have a3:=no_CW;have a4:=no_CA;go_wp2_with (go_at_call 40;refine (HW.out).mono ?_;rintro e w2 ⟨rfl,h3,h4⟩);have H3:=Lib.hid h3;have H4:=Lib.hid h4;clear h3 h4;clear a1 a2 a3 a4;go_roundw
    case rel=>exact ⟨n + 1,_,by omega,by go_num,HI.out.kept H3.out H4.out,HT2.out,HK.out.trans H4.out⟩
    case measure=>simp [intOf];omega
   | node x =>
    obtain ⟨b1,c1,b2,c2,b3,c3,b4,c4,b5,c5,rfl,hh⟩:=hv;have HW:=Lib.hid ((HC.out x HPR.out.1 HPR.out.2 b1 c1 b2 c2 b3 c3 b4 c4 b5 c5 acc' (wr.alloc (.cells (nodeV x.k x.nm x.g b1 x.az.length c1 b2 x.ws.length c2 b3 x.ks.len c3 b4 x.bs.length c4 b5 x.cz.len c5) 28)) hh (HI.out.below (bel1 _ _)) HL2.out).mono fun _ _ h=>show Wrote w0.heap.size (acc' ++ pcT (.node x)) wr _ _ from ⟨h.1,h.2.1,(Pb.Kept.of_below (bel1 _ _) (Nat.le_of_lt HI.out.is.lt)).trans h.2.2⟩);unfold nodeV at HW cv;clear hh;have a1:=is_N;have a2:=no_NS;have a3:=no_NW;have a4:=no_NA;have a5:=no_NC;go_wp2_with (go_at_call 41;refine (HW.out).mono ?_;rintro e w2 ⟨rfl,h3,h4⟩);have H3:=Lib.hid h3;have H4:=Lib.hid h4;clear h3 h4;clear a1 a2 a3 a4 a5;go_roundw
    case rel=>exact ⟨n + 1,_,by omega,by go_num,HI.out.kept H3.out H4.out,HT2.out,HK.out.trans H4.out⟩
    case measure=>simp [intOf];omega
  ·obtain rfl:n = ps.length:=by omega
   go_wp2;go_end0;refine ⟨rfl,?_,HK.out⟩;rw [HT.out,List.drop_length];simpa [pcsT] using HI.out.is
end Pw
end Go.Proofs.YtjmpfihopeohbaaGreatDoor
