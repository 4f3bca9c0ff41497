/- strings.Builder as the first field of a struct of the project's own (print.writer): WriteByte, WriteString, String at a block of that type (the shelf's contracts ask a block of type strings.Builder: these go after them). -/
import Derived.Test.YtckakkeejekibaaGreatDoorPrN
set_option maxHeartbeats 4000000
set_option maxRecDepth 100000
set_option linter.unusedVariables false
namespace Go.Proofs.YtckakkeejekibaaGreatDoor
open Go.RowKit Go.Sort
namespace Pb
def Is (b:Nat) (l:List UInt8) (w:World):Prop:=Lib.IsBuilderF 51 5 b b (Lib.byteCells l) w
def Kept (b:Nat) (w w':World):Prop:=Below b w w'∧Lib.OthersKept 5 (some b) w w'
theorem Kept.refl (b:Nat) (w:World):Kept b w w:=⟨Below.refl _ _,Lib.OthersKept.refl _ _ _⟩
theorem Kept.trans {b:Nat} {w w1 w2:World} (h:Kept b w w1) (k:Kept b w1 w2):Kept b w w2:=⟨h.1.trans k.1,h.2.trans k.2⟩
theorem Is.lt {b:Nat} {l:List UInt8} {w:World} (h:Is b l w):b < w.heap.size:=by
 rcases h with h | h
 ·exact h.lt
 ·exact h.lt
theorem xL:(Tryz.prog.info? 49).map (·.size) = some 2:=by kernel_rfl
theorem OD:liesAt Tryz.prog Tryz.prog.depth 51 (2 / Tryz.prog.cellsOf 51) 0 49 1 = true:=by kernel_rfl
theorem infoByte:(Tryz.prog.info? 5).map (fun i=>(i.zero,i.size,i.bytes)) = some (some (.int .u8 0),1,1):=by kernel_rfl
theorem nP (b:Nat) (w:World) (h0:w.cell? ⟨b,0,none⟩ = some (.pointer (some ⟨b,0,none⟩))) :
  Calls Tryz.prog 57 #[.pointer (some ⟨b,0,none⟩)] w fun e w'=>e = .returned (.tuple #[])∧w' = w:=by
 obtain ⟨j,hj,_⟩:=Option.map_eq_some_iff.1 xL;go_enter Tryz.func57,Tryz.ntmps57;go_wp2;rw [Lib.run_neq_ptr_same w _ Tryz.underlying46 hj];go_wp2;go_end0;exact ⟨rfl,rfl⟩
theorem mY (b:Nat) (w:World) (h0:w.cell? ⟨b,0,none⟩ = some (.pointer none)) (LQ:w.shape? b = some (51,2)) (hfz:w.frozen? ⟨b,0,none⟩ = false) :
  Calls Tryz.prog 57 #[.pointer (some ⟨b,0,none⟩)] w fun e w'=>e = .returned (.tuple #[])∧w' = w.setCell ⟨b,0,none⟩ (.pointer (some ⟨b,0,none⟩)):=by
 obtain ⟨j,hj,ET⟩:=Option.map_eq_some_iff.1 xL;go_enter Tryz.func57,Tryz.ntmps57;go_wp2;rw [Lib.run_to_unsafe w ⟨b,0,none⟩ Tryz.underlying46 Tryz.underlying114 hj (by rw [ET];decide) LQ (Nat.zero_lt_succ 1)];simp only [Result.andThen];rw [Oper.upon_value];go_wp2;rw [run_callFunc_extern Tryz.func100 (by kernel_rfl) (by kernel_rfl) (by kernel_rfl) (e:=Extern.AbiNoEscape.same) (by kernel_rfl)];rw [Lib.run_noEscape];simp only [Result.andThen];rw [Oper.upon_value];go_wp2;rw [Lib.run_from_unsafe w ⟨b,0,none⟩ Tryz.underlying114 Tryz.underlying46 hj LQ OD];simp only [Result.andThen];rw [Oper.upon_value];go_wp2;go_end0;exact ⟨rfl,rfl⟩
theorem mi (b:Nat) (bs:List Value) (w:World) (h:Lib.IsBuilderF 51 5 b b bs w) :
  Calls Tryz.prog 57 #[.pointer (some ⟨b,0,none⟩)] w fun e w'=>e = .returned (.tuple #[])∧(Lib.BuilderAtF 51 5 b b (.pointer (some ⟨b,0,none⟩)) bs w'∧Below b w w'∧Lib.OthersKept 5 (some b) w w'):=by
 rcases h with h | h
 ·refine (mY b w h.cell0 h.shape h.frozen0).mono ?_;rintro e w' ⟨rfl,rfl⟩;exact ⟨rfl,h.used _,(Below.refl b w).setCell (p:=⟨b,0,none⟩) h.1 _,(Lib.OthersKept.refl _ _ w).setCell ⟨b,0,none⟩ rfl _⟩
 ·refine (nP b w h.cell0).mono ?_;rintro e w' ⟨rfl,rfl⟩;exact ⟨rfl,h,Below.refl b _,Lib.OthersKept.refl _ _ _⟩
theorem gD (b:Nat) (l:List UInt8) (s:ByteArray) (w:World) (h:Is b l w) (hlen:l.length + s.size≤140737488355328) :
  Calls Tryz.prog 38 #[.pointer (some ⟨b,0,none⟩),.string s] w fun e w'=>e = .returned (.tuple #[.int .i64 s.size,.nilIface])∧Is b (l ++ s.data.toList) w'∧Kept b w w':=by
 obtain ⟨i0,hi,qd,kQ,lM⟩:=info_parts infoByte;have hBw:b≤w.heap.size:=Nat.le_of_lt h.lt;rw [← Lib.byteCells_length l] at hlen;have OE:Lib.byteCells (l ++ s.data.toList) = Lib.byteCells l ++ Lib.strCells s:=by rw [Lib.byteCells_append];rfl
 unfold Is Kept;unfold Is at h;rw [OE];go_enter Tryz.func38,Tryz.ntmps38;go_wp2_with (go_at_call 57;refine (mi b (Lib.byteCells l) _ h).mono ?_);rintro e w1 ⟨rfl,h1,aP,wC⟩;obtain ⟨hB,v,wD,dR,jD⟩:=h1;have c0:w1.cell? ⟨b,0,none⟩ = some (.pointer (some ⟨b,0,none⟩)):=by rw [kz wD];rfl
 have c1:w1.cell? ⟨b,1,none⟩ = some v:=by rw [kz wD];rfl
 go_wp2_with (at_builtin;refine Lib.wpList_append_own_stringF _ rfl _ _ 47 9 rfl b 5 i0 Tryz.underlying47 Tryz.underlying9 hi qd kQ lM _ _ _ rfl dR s rfl ?c3 ?c4 ?c5 ?_)
 case c3=>unfold maxLen;omega
 case c4=>omega
 case c5=>have:=aP.size;omega
 intro v' w2 xM dI _;have aB:b < w1.heap.size:=by
  rcases Nat.lt_or_ge b w1.heap.size with h' | h'
  ·exact h'
  ·simp [Array.getElem?_eq_none h'] at wD
 have d9:w2.heap[b]? = some (.cells #[.pointer (some ⟨b,0,none⟩),v] 51 (0,0)):=by
  rw [dI.block b aB (fun e=>jD e.symm)];exact wD
 have d0:w2.cell? ⟨b,0,none⟩ = some (.pointer (some ⟨b,0,none⟩)):=by rw [kz d9];rfl
 have d1:w2.cell? ⟨b,1,none⟩ = some v:=by rw [kz d9];rfl
 have f1:w2.frozen? ⟨b,1,none⟩ = false:=Lib.frozen_of_heap d9 1;obtain ⟨ao,n',cap,rfl⟩:∃ ao n' cap,v' = .slice ao n' cap:=by
  rcases xM.2 with ⟨hv,_⟩ | ⟨g,cap,cur,fz,hv,_⟩
  ·exact ⟨_,_,_,hv⟩
  ·exact ⟨_,_,_,hv⟩
 go_wp2;go_ret2;refine ⟨rfl,.inr ?_,?_,(wC.grown dI (Lib.ownsRowF_kind dR)).setCell ⟨b,1,none⟩ rfl _⟩
 ·exact Lib.BuilderAtF.put (T:=51) (e:=5) hB d9 (bs':=Lib.byteCells l ++ Lib.strCells s) (by simpa [Lib.strCells_length] using xM) (by decide)
 ·exact (aP.grown dI (by have:=aP.size;omega) (fun k hk=>(dR.lt k hk).1)).setCell (p:=⟨b,1,none⟩) hB _
theorem uu (b:Nat) (l:List UInt8) (w:World) (h:Is b l w) (h0:l ≠ []) :
  Calls Tryz.prog 20 #[.pointer (some ⟨b,0,none⟩)] w fun e w'=>e = .returned (.string ⟨l.toArray⟩)∧Below b w w':=by
 obtain ⟨p,hB,v,wD,dR,jD⟩:∃ p,Lib.BuilderAtF 51 5 b b p (Lib.byteCells l) w:=by
  rcases h with h | h
  ·exact ⟨_,h⟩
  ·exact ⟨_,h⟩
 have ZZ:l.length ≠ 0:=by simpa using h0
 rw [Lib.byteCells_length] at dR;obtain ⟨g,cap,cur,fz,rfl,Ii,hg,hnc,hcm,hcs⟩:∃ g cap cur fz,v = .slice (some ⟨g,0,none⟩) l.length cap∧b≤g∧w.heap[g]? = some (.cells cur 5 fz)∧l.length≤cap∧cap≤maxLen∧cur.size = cap * 1:=by
  rcases dR.2 with ⟨_,hz⟩ | ⟨g,cap,cur,fz,hv,r1,r2,_,r3,r4,r5,_⟩
  ·exact absurd hz ZZ
  ·exact ⟨g,cap,cur,fz,hv,r1,r2,r3,r4,r5⟩
 have c1:w.drew.cell? ⟨b,1,none⟩ = some (.slice (some ⟨g,0,none⟩) l.length cap):=by
  have:w.drew.heap[b]? = some (.cells #[p,.slice (some ⟨g,0,none⟩) l.length cap] 51 (0,0)):=wD;rw [kz this];rfl
 have hSD:(Builtin.unsafeSliceData_ #[47] 85 #[.slice (some ⟨g,0,none⟩) l.length cap]).run Tryz.prog w.drew = .ok (.pointer (some ⟨g,0,none⟩)) w.drew :=
  Lib.run_unsafeSliceData_row _ _ _ _ _ _ (by omega)
 have hUS:(Builtin.unsafeString_ #[85,3] 9 #[.pointer (some ⟨g,0,none⟩),.int .i64 l.length]).run Tryz.prog w.drew = .ok (.string ⟨l.toArray⟩) (w.drew.freeze ⟨g,0,none⟩ l.length):=by
  refine Lib.run_unsafeString_row w.drew 85 3 9 5 Tryz.underlying85 (by kernel_rfl) g cur.size (by have Ep:w.drew.heap[g]? = some (.cells cur 5 fz):=hg;simp [World.shape?,Ep]) l h0 (by omega) (by unfold maxLen at hcm;omega) ?_;intro j x hx;have:=dR.cells (g:=g) rfl j (.int .u8 x.toNat) (by simp [Lib.byteCells,hx]);exact this
 go_enter Tryz.func20,Tryz.ntmps20;go_wp2;go_region
 all_goals (go_wp2;go_ret;exact ⟨rfl,Lib.below_freeze (Below.drew (Below.refl b w)) (p:=⟨g,0,none⟩) Ii _⟩)
theorem Is.below {b:Nat} {l:List UInt8} {w w':World} (h:Is b l w) (hb:Below w.heap.size w w'):Is b l w':=by
 have key:∀ p,Lib.BuilderAtF 51 5 b b p (Lib.byteCells l) w→Lib.BuilderAtF 51 5 b b p (Lib.byteCells l) w':=by
  rintro p ⟨hB,v,wD,dR,jD⟩;have aB:∀ {k:Nat} {o:Obj},w.heap[k]? = some o→w'.heap[k]? = some o:=fun {k o} h=>(hb.block k (zv h).1).trans h;refine ⟨hB,v,aB wD,⟨dR.1,?_⟩,jD⟩;rcases dR.2 with h | ⟨g,cap,cur,fz,hv,hg,hh,hr⟩
  ·exact .inl h
  ·exact .inr ⟨g,cap,cur,fz,hv,hg,aB hh,hr⟩
 exact h.elim (fun x=>.inl (key _ x)) (fun x=>.inr (key _ x))
theorem Kept.of_below {b:Nat} {w w':World} (h:Below w.heap.size w w') (hb:b≤w.heap.size):Kept b w w' :=
 ⟨h.mono hb,fun k _ hk _ _=>(h.block k (zv hk).1).trans hk⟩
theorem uy (b:Nat) (p:Value) (w:World) (wD:w.heap[b]? = some (.cells #[p,.slice none 0 0] 51 (0,0))) :
  Calls Tryz.prog 20 #[.pointer (some ⟨b,0,none⟩)] w fun e w'=>e = .returned (.string ⟨#[]⟩)∧Below w.heap.size w w':=by
 have c1:w.drew.cell? ⟨b,1,none⟩ = some (.slice none 0 0):=by
  have:w.drew.heap[b]? = some (.cells #[p,.slice none 0 0] 51 (0,0)):=wD;rw [kz this];rfl
 have hSD:(Builtin.unsafeSliceData_ #[47] 85 #[.slice none 0 0]).run Tryz.prog w.drew = .ok (.pointer none) w.drew:=rfl;have hUS:∀ w:World,(Builtin.unsafeString_ #[85,3] 9 #[.pointer none,.int .i64 0]).run Tryz.prog w = .ok (.string ⟨#[]⟩) w:=fun w=>Lib.run_unsafeString_none w _ _ _ none;go_enter Tryz.func20,Tryz.ntmps20;go_wp2;go_region
 all_goals (go_wp2;go_ret;exact ⟨rfl,Below.drew (Below.refl _ w)⟩)
end Pb
namespace Pw
open j6 Pt Tr Pr
open Ps (ND)
theorem uV:∀ (l:PL) (p:Option (Int × Bool)) (at' d:Nat),rightL p l at' d = true→Bd.bytes l≤2 * (Bd.textL l at').length
 | .nil,_,_,_,_=>zVy _
 | .cons k q t o f r,p,at',d,h=>by
  have ht:t.data.toList.length = t.size:=iE t;have ho:o.data.toList.length = o.size:=iE o;simp only [rightL,ud] at h;obtain ⟨⟨⟨_,_⟩,h2⟩,h3⟩:=h;have SG:=uV r _ _ _ h3;rw [Bd.iQ,zI];simp only [Bd.bytes]
  suffices hs:1 + t.size + o.size + Bd.bytes f≤2 * (Bd.partT k q t o f at').length by omega
  unfold Bd.partT;split at h2
  ·rename_i hk;simp only [beq_iff_eq] at hk;subst hk;simp only [ud,beq_iff_eq] at h2;obtain ⟨⟨Yp,hf⟩,jY⟩:=h2;have BZ:f = .nil:=by cases f with
    | nil=>rfl
    | cons=>simp [PL.len] at hf
   subst BZ;have jJ:o.size = 0:=by rw [← ho,Yp];rfl
   have jD:q = false∨at' = 2→1≤t.size:=fun hq=>by
    have:t.data.toList ≠ []:=by
     unfold dh at jY;rcases hq with rfl | rfl
     ·simp only [Bool.false_eq_true,if_false,ud,Bool.not_eq_true',beq_eq_false_iff_ne] at jY;exact jY.2
     ·cases q
      ·simp only [Bool.false_eq_true,if_false,ud,Bool.not_eq_true',beq_eq_false_iff_ne] at jY;exact jY.2
      ·simp at jY;simpa using jY
    have:=List.length_pos_iff.2 this;omega
   have h12:((1:Int) == 2) = false:=rfl;rw [h12];simp only [Bool.false_eq_true,if_false,Bd.bytes];cases ha:(at' == 2)
   ·simp only [Bool.false_eq_true,if_false];cases q
    ·have:=jD (.inl rfl);simp only [Bool.false_eq_true,if_false];omega
    ·have hm:t.size≤(Bd.iO t.data.toList).length:=by
      rw [← ht];generalize t.data.toList = L
      induction L with
      | nil=>exact zVy _
      | cons c L ih =>
       simp only [Bd.iO,List.flatMap_cons,zI,zz] at ih ⊢
       split <;> simp only [zz,zZ] <;> omega
     simp only [if_true,Bd.iP,zz,zI,zZ];omega
   ·have:=jD (.inr (by simpa using ha));have hm:t.size≤(Bd.oH t.data.toList).length:=by
     rw [← ht];generalize t.data.toList = L
     induction L with
     | nil=>exact zVy _
     | cons c L ih =>
      simp only [Bd.oH,List.flatMap_cons,zI,zz] at ih ⊢
      split <;> simp only [zz,zZ] <;> omega
    simp only [if_true];omega
  ·split at h2
   ·rename_i hk;simp only [ud] at h2;have YQ:=uV f _ _ _ h2.2;rw [if_pos hk];unfold Bd.kD;split <;> simp only [zz,zI,zZ] <;> omega
   ·cases h2
inductive Pc where
 | str (s:ByteArray)
 | word (l:PL)
 | U8 (x:ByteArray × PL)
 | cse (ps:List PL) (bd:NL)
 | node (x:ND)
def pcT:Pc→T
 | .str s=>s.data.toList
 | .word l=>aR l
 | .U8 x=>uJ x
 | .cse ps bd=>caseT ps (txt bd)
 | .node x=>tx x
def gY (ps:List Pc):T:=(ps.map pcT).flatten
theorem NE (p:Pc) (ps:List Pc):gY (p :: ps) = pcT p ++ gY ps:=rfl
def C8:Pc→Nat
 | .str _=>0
 | .word _=>0
 | .U8 _=>1
 | .cse _ bd=>4 * bd.size + 3
 | .node x=>4 * sz x + 4
def T9:Pc→Prop
 | .str _=>True
 | .word l=>rightL none l 0 1 = true
 | .U8 x=>rightL none x.2 0 1 = true
 | .cse ps bd=>(∀ l ∈ ps,rightL none l 0 1 = true)∧bd.len≤1∧NL.okN bd true = true∧∀ x ∈ yz bd,∃ D,W x D
 | .node x=>∃ D,W x D
def Zy (w:World):Pc→Value→Prop
 | .str s,v=>v = .iface 9 (.string s)
 | .word l,v=>∃ a cap,v = .iface 39 (.slice a l.len cap)∧gJ w a cap l
 | .U8 x,v=>∃ a cap,v = .iface 42 (.agg #[.string x.1,.slice a x.2.len cap])∧gJ w a cap x.2
 | .cse ps bd,v=>∃ a1 c1 a2 c2,v = .iface 44 (.agg #[.slice a1 ps.length c1,.slice a2 bd.len c2])∧Sl 1 (PW w) a1 c1 ps∧dJ w a2 c2 bd
 | .node x,v=>∃ a1 c1 a2 c2 a3 c3 a4 c4 a5 c5,v = .iface 28 (.agg (aJ x.k x.nm x.g a1 x.az.length c1 a2 x.ws.length c2 a3 x.ks.len c3 a4 x.bs.length c4 a5 x.cz.len c5))∧Holds w x.nm x.az x.ws x.ks x.bs x.cz a1 c1 a2 c2 a3 c3 a4 c4 a5 c5
inductive Ki (w:World):List Pc→List Value→Prop
 | nil:Ki w [] []
 | cons {p:Pc} {v:Value} {ps:List Pc} {vs:List Value} (h:Zy w p v) (hr:Ki w ps vs):Ki w (p :: ps) (v :: vs)
theorem Ki.get {w:World}:∀ {ps:List Pc} {vs:List Value} {n:Nat} {p:Pc},Ki w ps vs→ps[n]? = some p→∃ v,vs[n]? = some v∧Zy w p v
 | _,_,n,p,.nil,h=>by simp at h
 | _,_,0,p,.cons h hr,e=>by
  simp only [List.getElem?_cons_zero,Option.some.injEq] at e;subst e;exact ⟨_,rfl,h⟩
 | _,_,n + 1,p,.cons h hr,e=>by
  rw [List.getElem?_cons_succ] at e ⊢
  exact hr.get e
def Wrote (b:Nat) (t:T) (w:World):Ending→World→Prop:=fun e w'=>e = .returned (.tuple #[])∧Pb.Is b t w'∧Pb.Kept b w w'
structure Out (w0:World) (acc:T) (w:World):Prop where
 is:Pb.Is w0.heap.size acc w
 b:Below w0.heap.size w0 w
theorem Out.kept {w0 w w':World} {acc ek:T} (h:Out w0 acc w) (hi:Pb.Is w0.heap.size ek w') (hk:Pb.Kept w0.heap.size w w'):Out w0 ek w':=⟨hi,h.b.trans hk.1⟩
theorem Out.below {w0 w w':World} {acc:T} (h:Out w0 acc w) (hb:Below w.heap.size w w'):Out w0 acc w':=⟨h.is.below hb,h.b.trans (Pb.Kept.of_below hb (Nat.le_of_lt h.is.lt)).1⟩
def Row (w:World) (g:Nat) (vs:List Value):Prop:=w.heap[g]? = some (.cells vs.toArray 20 (0,0))
theorem Row.kept {w w':World} {b g:Nat} {vs:List Value} (h:Row w g vs) (hg:b < g) (hk:Pb.Kept b w w'):Row w' g vs :=
 hk.2 g _ h (by simp;omega) (fun c fz hc=>by injection hc with _ h2 _;exact absurd h2 (by decide))
theorem Row.cell {w:World} {g:Nat} {vs:List Value} (h:Row w g vs) {n:Nat} {v:Value} (hv:vs[n]? = some v):w.cell? ⟨g,n,none⟩ = some v:=by
 rw [kz h n];simpa using hv
def WriteAt (w0:World) (M:Nat):Prop:=∀ (ps:List Pc) (vs:List Value) (g:Nat) (acc:T) (w:World),(∀ p ∈ ps,C8 p < M∧T9 p)→Ki w0 ps vs→ps.length≤100→Row w g vs→w0.heap.size < g→Out w0 acc w→acc.length + (gY ps).length≤400000 →
 Calls Tryz.prog 19 #[.pointer (some ⟨w0.heap.size,0,none⟩),.slice (some ⟨g,0,none⟩) ps.length ps.length] w (Wrote w0.heap.size (acc ++ gY ps) w)
def nM (w0:World) (x:ND):Prop:=∀ (a1:Option Addr) (c1:Nat) (a2:Option Addr) (c2:Nat) (a3:Option Addr) (c3:Nat) (a4:Option Addr) (c4:Nat) (a5:Option Addr) (c5:Nat) (acc:T) (w:World),Holds w0 x.nm x.az x.ws x.ks x.bs x.cz a1 c1 a2 c2 a3 c3 a4 c4 a5 c5→Out w0 acc w→acc.length + (tx x).length≤400000 →
 Calls Tryz.prog 41 #[.pointer (some ⟨w0.heap.size,0,none⟩),.agg (aJ x.k x.nm x.g a1 x.az.length c1 a2 x.ws.length c2 a3 x.ks.len c3 a4 x.bs.length c4 a5 x.cz.len c5)] w (Wrote w0.heap.size (acc ++ tx x) w)
def tO (w0:World) (ps:List PL) (bd:NL):Prop:=∀ (a1:Option Addr) (c1:Nat) (a2:Option Addr) (c2:Nat) (acc:T) (w:World),Sl 1 (PW w0) a1 c1 ps→dJ w0 a2 c2 bd→Out w0 acc w→acc.length + (caseT ps (txt bd)).length≤400000 →
 Calls Tryz.prog 40 #[.pointer (some ⟨w0.heap.size,0,none⟩),.agg #[.slice a1 ps.length c1,.slice a2 bd.len c2]] w (Wrote w0.heap.size (acc ++ caseT ps (txt bd)) w)
end Pw
namespace Pw
open j6 Pt Tr Pr
open Ps (ND)
theorem acX (v:Value) (xT:TypeId) (w:World):(Instr.typeAssert (.iface 9 v) xT 9 true).run Tryz.prog w = .ok (.tuple #[v,.bool true]) w:=by kernel_rfl
theorem acY (v:Value) (xT:TypeId) (w:World):(Instr.typeAssert (.iface 39 v) xT 39 true).run Tryz.prog w = .ok (.tuple #[v,.bool true]) w:=by kernel_rfl
theorem Zz (v:Value) (xT:TypeId) (w:World):(Instr.typeAssert (.iface 39 v) xT 9 true).run Tryz.prog w = .ok (.tuple #[.string ⟨#[]⟩,.bool false]) w:=by kernel_rfl
theorem acZ (v:Value) (xT:TypeId) (w:World):(Instr.typeAssert (.iface 42 v) xT 42 true).run Tryz.prog w = .ok (.tuple #[v,.bool true]) w:=by kernel_rfl
theorem ZA (v:Value) (xT:TypeId) (w:World):(Instr.typeAssert (.iface 42 v) xT 9 true).run Tryz.prog w = .ok (.tuple #[.string ⟨#[]⟩,.bool false]) w:=by kernel_rfl
theorem ZB (v:Value) (xT:TypeId) (w:World):(Instr.typeAssert (.iface 42 v) xT 39 true).run Tryz.prog w = .ok (.tuple #[.slice none 0 0,.bool false]) w:=by kernel_rfl
theorem ac0 (v:Value) (xT:TypeId) (w:World):(Instr.typeAssert (.iface 44 v) xT 44 true).run Tryz.prog w = .ok (.tuple #[v,.bool true]) w:=by kernel_rfl
theorem ZC (v:Value) (xT:TypeId) (w:World):(Instr.typeAssert (.iface 44 v) xT 9 true).run Tryz.prog w = .ok (.tuple #[.string ⟨#[]⟩,.bool false]) w:=by kernel_rfl
theorem ZE (v:Value) (xT:TypeId) (w:World):(Instr.typeAssert (.iface 44 v) xT 39 true).run Tryz.prog w = .ok (.tuple #[.slice none 0 0,.bool false]) w:=by kernel_rfl
theorem ZF (v:Value) (xT:TypeId) (w:World):(Instr.typeAssert (.iface 44 v) xT 42 true).run Tryz.prog w = .ok (.tuple #[.agg #[.string ⟨#[]⟩,.slice none 0 0],.bool false]) w:=by kernel_rfl
theorem ac1 (v:Value) (xT:TypeId) (w:World):(Instr.typeAssert (.iface 28 v) xT 28 true).run Tryz.prog w = .ok (.tuple #[v,.bool true]) w:=by kernel_rfl
theorem ZG (v:Value) (xT:TypeId) (w:World):(Instr.typeAssert (.iface 28 v) xT 9 true).run Tryz.prog w = .ok (.tuple #[.string ⟨#[]⟩,.bool false]) w:=by kernel_rfl
theorem ZH (v:Value) (xT:TypeId) (w:World):(Instr.typeAssert (.iface 28 v) xT 39 true).run Tryz.prog w = .ok (.tuple #[.slice none 0 0,.bool false]) w:=by kernel_rfl
theorem ZI (v:Value) (xT:TypeId) (w:World):(Instr.typeAssert (.iface 28 v) xT 42 true).run Tryz.prog w = .ok (.tuple #[.agg #[.string ⟨#[]⟩,.slice none 0 0],.bool false]) w:=by kernel_rfl
theorem ZJ (v:Value) (xT:TypeId) (w:World):(Instr.typeAssert (.iface 28 v) xT 44 true).run Tryz.prog w = .ok (.tuple #[.agg #[.slice none 0 0,.slice none 0 0],.bool false]) w:=by kernel_rfl
theorem gy {w0:World} {M:Nat} (h:WriteAt w0 M) (ps:List Pc) (vs:List Value) (acc:T) (w:World) (hp:∀ p ∈ ps,C8 p < M∧T9 p) (hv:Ki w0 ps vs) (hlen:ps.length≤100) (ho:Out w0 acc w) (hl:acc.length + (gY ps).length≤400000) :
  Calls Tryz.prog 19 #[.pointer (some ⟨w0.heap.size,0,none⟩),.slice (some ⟨w.heap.size,0,none⟩) ps.length ps.length] (w.alloc (.cells vs.toArray 20)) (Wrote w0.heap.size (acc ++ gY ps) w) :=
 (h ps vs w.heap.size acc _ hp hv hlen (heap_alloc_new _ _) ho.is.lt (ho.below (ax _ _)) hl).mono fun _ _ ⟨h1,h2,h3⟩=>⟨h1,h2,(Pb.Kept.of_below (ax _ _) (Nat.le_of_lt ho.is.lt)).trans h3⟩
theorem Kj (w0:World) (m:Int) (hm:w0.cell? ⟨0,0,none⟩ = some (.int .i64 m)) (M:Nat) (IH:∀ M' < M,WriteAt w0 M') (hC:∀ x:ND,C8 (.node x) < M→(∃ D,W x D)→nM w0 x) (hE:∀ ps bd,C8 (.cse ps bd) < M→T9 (.cse ps bd)→tO w0 ps bd):WriteAt w0 M:=by
 intro ps vs g acc w hp hv hlen hr hg ho hl;have hmb:0 < w0.heap.size:=World.block_lt_of_cell? _ _ hm;have Be:=kq IH;have HC:=kq hC;have HE:=kq hE;have HP:=kq hp;have HV:=kq hv;have HR:=kq hr;have HO:=kq ho;have HL:=kq hl;have HM:=kq hm;have zh:=kq hlen;clear IH hC hE hp hv hr ho hl hm;unfold Wrote;go_enter Tryz.func19,Tryz.ntmps19;go_wp2
 go_loopw [13] (fun i wr=>∃ (n:Nat) (ek:T),n≤ps.length∧i = .int .i64 n∧Out w0 ek wr∧acc ++ gY ps = ek ++ gY (ps.drop n)∧Pb.Kept w0.heap.size w wr) (fun i wr=>ps.length - (intOf i).toNat)
 case atStart=>exact ⟨0,acc,zVy _,rfl,HO.out,rfl,Pb.Kept.refl _ _⟩
 case round =>
  obtain ⟨n,ek,hn,rfl,hi,jY,hkp⟩:=hrel;have HI:=kq hi;have HT:=kq jY;have HK:=kq hkp;clear hi jY hkp
  by_cases aB:n < ps.length
  ·obtain ⟨p,hp⟩:∃ p,ps[n]? = some p:=⟨_,List.getElem?_eq_getElem aB⟩;obtain ⟨v,hvn,hv⟩:=HV.out.get hp;have hdr:ps.drop n = p :: ps.drop (n + 1):=by
    rw [List.drop_eq_getElem_cons aB];rw [List.getElem?_eq_getElem aB] at hp;injection hp with hp;rw [hp]
   have hT:acc ++ gY ps = (ek ++ pcT p) ++ gY (ps.drop (n + 1)):=by rw [HT.out,hdr,NE,zq]
   have FB:ek.length + (pcT p).length≤400000:=by
    have:=congrArg List.length hT;have h2:=HL.out;simp only [zI] at this;omega
   have RI:p ∈ ps:=List.mem_of_getElem? hp;have hpr:=HP.out p RI;have cv:wr.cell? ⟨g,n,none⟩ = some v:=(HR.out.kept hg HK.out).cell hvn;have agH:=zh.out;have ug:=kq hT;have SF:=kq FB;have U9:=kq hpr;clear hT FB hpr RI hdr hvn hp;cases p with
   | str s =>
    obtain rfl:v = .iface 9 (.string s):=hv;have HW:=kq (Pb.gD w0.heap.size ek s wr HI.out.is (by have:=SF.out;simp only [pcT] at this;rw [iE] at this;omega));have a1:=acX;go_wp2_with (go_at_call 38;refine (HW.out).mono ?_;rintro e w2 ⟨rfl,h3,h4⟩);have H3:=kq h3;have H4:=kq h4;clear h3 h4;clear a1;go_roundw
    case rel=>exact ⟨n + 1,_,by omega,by go_num,HI.out.kept H3.out H4.out,ug.out,HK.out.trans H4.out⟩
    case measure=>simp [intOf];omega
   | word l =>
    obtain ⟨a,cap,rfl,yo⟩:=hv;have KD:rightL none l 0 1 = true:=U9.out.2;have hwt:Bd.lU l = aR l:=by unfold Bd.lU;rw [if_pos KD];rfl
    have RS:=uV l none 0 1 U9.out.2;have hR:∀ dd os,Calls Tryz.prog 39 #[.slice a l.len cap] (grow (redrawn wr dd) os) fun e ut=>e = .returned (.string ⟨(aR l).toArray⟩)∧∃ p:Regrown,ut = grow (redrawn wr p.d) p.os:=fun dd os=>by
     have:=Bd.L8 l a cap m (grow (redrawn wr dd) os) (((yo.below HI.out.b)).below (below_regrown wr dd os)) (by
      rw [(below_regrown wr dd os).cell (p:=⟨0,0,none⟩) (Nat.lt_trans hmb HI.out.is.lt),HI.out.b.cell (p:=⟨0,0,none⟩) hmb]
      exact HM.out) (by have:=SF.out;simp only [pcT,aR] at this;omega)
     rw [hwt] at this;exact Calls.regrown_of this
    have HRR:=kq hR;clear hR hwt RS yo;have a1:=acY;have a2:=Zz;go_wp2;clear a1 a2;refine Qu.gL 5 (by kernel_rfl) (by kernel_rfl) ?_;simp only [List.take_succ_cons,List.take_zero,List.drop_succ_cons,List.drop_zero]
    repeat (first
     | (first | refine Qu.eU rfl (fun K hK=>?_) | refine Qu.eT rfl rfl rfl (fun K hK=>?_)
        go_simp
        first
        | (refine hK _ ?_;clear hK K)
        | (apply Exists.intro;refine ⟨fun _=>?_,hK _ ?_⟩;exact HRR.out _ _;clear hK K))
     | (refine Qu.gQ rfl rfl rfl (fun K hK=>?_);go_simp;refine hK _ ?_;clear hK K))
    refine Qu.fin ?_;rintro ⟨dq,iB⟩
    have hY:=Pb.gD w0.heap.size ek ⟨(aR l).toArray⟩ _ (HI.out.is.below (below_regrown _ dq iB)) (by
     have:=SF.out;have h5:ByteArray.size ⟨(aR l).toArray⟩ = (aR l).length:=by simp [ByteArray.size]
     simp only [pcT] at this;rw [h5];omega)
    have HY:=kq hY;clear hY;go_wp2_with (go_at_call 38;refine (HY.out).mono ?_;rintro e w2 ⟨rfl,h3,h4⟩);have H3:=kq h3;have H4:=kq ((Pb.Kept.of_below (below_regrown wr dq iB) (Nat.le_of_lt HI.out.is.lt)).trans h4);clear h3 h4;go_roundw
    case rel=>exact ⟨n + 1,_,by omega,by go_num,HI.out.kept H3.out H4.out,ug.out,HK.out.trans H4.out⟩
    case measure=>simp [intOf];omega
   | U8 x =>
    obtain ⟨a,cap,rfl,yo⟩:=hv
    have hW:=gy (Be.out 1 U9.out.1) [.str x.1,.str ⟨#[61]⟩,.word x.2] [.iface 9 (.string x.1),.iface 9 (.string ⟨#[61]⟩),.iface 39 (.slice a x.2.len cap)] ek (wr.alloc (.cells #[.string x.1,.slice a x.2.len cap] 42)) (by
     intro p hp;simp only [List.mem_cons,List.not_mem_nil,or_false] at hp;rcases hp with rfl | rfl | rfl
     ·exact ⟨Nat.zero_lt_one,trivial⟩
     ·exact ⟨Nat.zero_lt_one,trivial⟩
     ·exact ⟨Nat.zero_lt_one,U9.out.2⟩) (.cons rfl (.cons rfl (.cons ⟨a,cap,rfl,yo⟩ .nil))) (by simp) (HI.out.below (ax _ _)) (by
     have:=SF.out
     simp only [pcT,uJ,gY,List.map_cons,List.map_nil,List.flatten_cons,List.flatten_nil,zI,zz,zZ] at this ⊢;omega)
    have jY:gY [.str x.1,.str ⟨#[61]⟩,.word x.2] = pcT (.U8 x):=by simp [gY,pcT,uJ]
    have bU:(wr.alloc (.cells #[.string x.1,.slice a x.2.len cap] 42)).heap.size = wr.heap.size + 1:=by simp
    rw [jY,bU] at hW;have HW:=kq (hW.mono fun _ _ h=>show Wrote w0.heap.size (ek ++ pcT (.U8 x)) wr _ _ from ⟨h.1,h.2.1,(Pb.Kept.of_below (ax _ _) (Nat.le_of_lt HI.out.is.lt)).trans h.2.2⟩);clear hW jY yo bU;have a1:=acZ;have a2:=ZA;have a3:=ZB;go_wp2_with (go_at_call 19;refine (HW.out).mono ?_;rintro e w2 ⟨rfl,h3,h4⟩);have H3:=kq h3;have H4:=kq h4;clear h3 h4;clear a1 a2 a3;go_roundw
    case rel=>exact ⟨n + 1,_,by omega,by go_num,HI.out.kept H3.out H4.out,ug.out,HK.out.trans H4.out⟩
    case measure=>simp [intOf];omega
   | cse VR bd =>
    obtain ⟨b1,c1,b2,c2,rfl,Sa,FR⟩:=hv;have HW:=kq ((HE.out VR bd U9.out.1 U9.out.2 b1 c1 b2 c2 ek (wr.alloc (.cells #[.slice b1 VR.length c1,.slice b2 bd.len c2] 44)) Sa FR (HI.out.below (ax _ _)) SF.out).mono fun _ _ h=>show Wrote w0.heap.size (ek ++ pcT (.cse VR bd)) wr _ _ from ⟨h.1,h.2.1,(Pb.Kept.of_below (ax _ _) (Nat.le_of_lt HI.out.is.lt)).trans h.2.2⟩);clear Sa FR;have a1:=ac0;have a2:=ZC;have a3:=ZE;have a4:=ZF;go_wp2_with (go_at_call 40;refine (HW.out).mono ?_;rintro e w2 ⟨rfl,h3,h4⟩);have H3:=kq h3;have H4:=kq h4;clear h3 h4;clear a1 a2 a3 a4;go_roundw
    case rel=>exact ⟨n + 1,_,by omega,by go_num,HI.out.kept H3.out H4.out,ug.out,HK.out.trans H4.out⟩
    case measure=>simp [intOf];omega
   | node x =>
    obtain ⟨b1,c1,b2,c2,b3,c3,b4,c4,b5,c5,rfl,hh⟩:=hv;have HW:=kq ((HC.out x U9.out.1 U9.out.2 b1 c1 b2 c2 b3 c3 b4 c4 b5 c5 ek (wr.alloc (.cells (aJ x.k x.nm x.g b1 x.az.length c1 b2 x.ws.length c2 b3 x.ks.len c3 b4 x.bs.length c4 b5 x.cz.len c5) 28)) hh (HI.out.below (ax _ _)) SF.out).mono fun _ _ h=>show Wrote w0.heap.size (ek ++ pcT (.node x)) wr _ _ from ⟨h.1,h.2.1,(Pb.Kept.of_below (ax _ _) (Nat.le_of_lt HI.out.is.lt)).trans h.2.2⟩);unfold aJ at HW cv;clear hh;have a1:=ac1;have a2:=ZG;have a3:=ZH;have a4:=ZI;have a5:=ZJ;go_wp2_with (go_at_call 41;refine (HW.out).mono ?_;rintro e w2 ⟨rfl,h3,h4⟩);have H3:=kq h3;have H4:=kq h4;clear h3 h4;clear a1 a2 a3 a4 a5;go_roundw
    case rel=>exact ⟨n + 1,_,by omega,by go_num,HI.out.kept H3.out H4.out,ug.out,HK.out.trans H4.out⟩
    case measure=>simp [intOf];omega
  ·obtain rfl:n = ps.length:=by omega
   go_wp2;go_end0;refine ⟨rfl,?_,HK.out⟩;rw [HT.out,List.drop_length];simpa [gY] using HI.out.is
end Pw
end Go.Proofs.YtckakkeejekibaaGreatDoor
