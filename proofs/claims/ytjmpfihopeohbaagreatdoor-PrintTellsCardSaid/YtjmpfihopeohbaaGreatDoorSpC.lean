/- A copy of parts in memory of its own: plain facts; word.fresh. -/
import Derived.Test.YtjmpfihopeohbaaGreatDoorRegN
import Derived.Test.YtjmpfihopeohbaaGreatDoorPtB
set_option maxHeartbeats 800000
set_option maxRecDepth 100000
namespace Go.Proofs.YtjmpfihopeohbaaGreatDoor
open Go.RowKit Go.Sort
namespace Sp
open Cls Pt
def LiesNew (N:Nat) (w:World) (a:Option Addr) (cap:Nat) (l:PL):Prop :=
 ∀ w2:World,w.heap.size≤w2.heap.size→(∀ b,N≤b→b < w.heap.size→w2.heap[b]? = w.heap[b]?)→Lies w2 a cap l
theorem LiesNew.lies {N:Nat} {w:World} {a:Option Addr} {cap:Nat} {l:PL} (h:LiesNew N w a cap l):Lies w a cap l:=h w (Nat.le_refl _) fun _ _ _=>rfl
theorem LiesNew.keep {N:Nat} {w w':World} {a:Option Addr} {cap:Nat} {l:PL} (h:LiesNew N w a cap l) (hs:w.heap.size≤w'.heap.size) (hk:∀ b,N≤b→b < w.heap.size→w'.heap[b]? = w.heap[b]?):LiesNew N w' a cap l :=
 fun w2 h2 hk2=>h w2 (by omega) fun b hb hlt=>(hk2 b hb (by omega)).trans (hk b hb hlt)
theorem LiesNew.mono {N N':Nat} {w:World} {a:Option Addr} {cap:Nat} {l:PL} (h:LiesNew N w a cap l) (hN:N'≤N):LiesNew N' w a cap l :=
 fun w2 h2 hk2=>h w2 h2 fun b hb hlt=>hk2 b (by omega) hlt
def Copied (w:World) (B k:Nat) (l:PL):Prop :=
 ∀ (j:Nat) (kk:Int) (q:Bool) (t o:ByteArray) (f r:PL),j < k→l.drop j = .cons kk q t o f r →
  (w.cell? ⟨B,j * 5,none⟩ = some (.int .i64 kk)∧w.cell? ⟨B,j * 5 + 1,none⟩ = some (.bool q)∧w.cell? ⟨B,j * 5 + 2,none⟩ = some (.string t)∧w.cell? ⟨B,j * 5 + 3,none⟩ = some (.string o)∧t.size≤R∧o.size≤R) ∧
  ∃ a cap,w.cell? ⟨B,j * 5 + 4,none⟩ = some (.slice a f.len cap)∧LiesNew (B + 1) w a cap f
theorem Copied.tail {w:World} {B:Nat} {l:PL} (h:Copied w B l.len l):∀ m,m≤l.len→At w B ((l.len - m) * 5) (l.drop (l.len - m))
 | 0,_=>by rw [Nat.sub_zero,PL.drop_end (Nat.le_refl _)];trivial
 | m + 1,hm=>by
  obtain ⟨kk,q,t,o,f,r,hd⟩:=PL.drop_at (n:=l.len - (m + 1)) (l:=l) (by omega);obtain ⟨⟨h0,h1,h2,h3,h4,h5⟩,a,cap,h6,h7⟩:=h _ _ _ _ _ _ _ (by omega) hd;rw [hd];refine ⟨⟨h0,h1,h2,h3,h4,h5⟩,⟨a,cap,h6,h7.lies.1,h7.lies.2.1,h7.lies.2.2⟩,?_⟩;have:=Copied.tail h m (by omega);rw [← PL.drop_succ hd,show (l.len - (m + 1)) * 5 + 5 = (l.len - m) * 5 by omega,show l.len - (m + 1) + 1 = l.len - m by omega];exact this
theorem Copied.at {w:World} {B:Nat} {l:PL} (h:Copied w B l.len l):At w B 0 l:=by
 have:=h.tail l.len (Nat.le_refl _);simpa [PL.drop] using this
theorem Copied.keep {w w':World} {B k:Nat} {l:PL} (h:Copied w B k l) (hs:w.heap.size≤w'.heap.size) (hk:∀ b,B≤b→b < w.heap.size→w'.heap[b]? = w.heap[b]?):Copied w' B k l:=by
 intro j kk q t o f r hj hd;obtain ⟨⟨h0,h1,h2,h3,h4,h5⟩,a,cap,h6,h7⟩:=h j kk q t o f r hj hd;have hlt:=World.block_lt_of_cell? _ _ h0;have hc:∀ {i v},w.cell? ⟨B,i,none⟩ = some v→w'.cell? ⟨B,i,none⟩ = some v:=fun {i v} h=>(World.cell?_of_block (w:=w) (a:=⟨B,i,none⟩) (hk B (Nat.le_refl _) hlt)).trans h;exact ⟨⟨hc h0,hc h1,hc h2,hc h3,h4,h5⟩,a,cap,hc h6,h7.keep hs fun b hb hlt=>hk b (by omega) hlt⟩
theorem len_size:∀ l:PL,l.len≤l.size
 | .nil=>Nat.le_refl _
 | .cons _ _ _ _ f r=>by have:=len_size r;simp only [PL.len,PL.size];omega
def Fresh (w0:World) (l:PL) (e:Ending) (w':World):Prop :=
 ∃ a cap,e = .returned (.slice a l.len cap)∧Below w0.heap.size w0 w'∧LiesNew w0.heap.size w' a cap l ∧
  (l ≠ .nil→a = some ⟨w0.heap.size,0,none⟩∧Copied w' w0.heap.size l.len l∧∃ row,w'.heap[w0.heap.size]? = some (.cells row 75 (0,0)))
theorem infoPart:(Tryz.prog.info? 75).map (fun i=>(i.zero,i.size,i.bytes)) = some (some (.agg #[.int .i64 0,.bool false,.string ⟨#[]⟩,.string ⟨#[]⟩,.slice none 0 0]),5,72):=by kernel_rfl
theorem make_parts (n:Nat) (hn:n≤1000000):∃ row:Array Value,row.size = n * 5∧∀ w:World,(Instr.makeSlice 38 (.int .i64 (n:Int)) (.int .i64 (n:Int))).run Tryz.prog w = .ok (.slice (some ⟨w.heap.size,0,none⟩) n n) (w.alloc (.cells row 75)):=by
 obtain ⟨i,hi,hzz⟩:=Option.map_eq_some_iff.1 infoPart;simp only [Prod.mk.injEq] at hzz;obtain ⟨hz,hs,hb⟩:=hzz;refine ⟨madeCells (Value.agg #[.int .i64 0,.bool false,.string ⟨#[]⟩,.string ⟨#[]⟩,.slice none 0 0]).cells (n * 5),size_madeCells _ _,fun w=>?_⟩;have hr:=run_make (P:=Tryz.prog) w 38 75 i _ Tryz.underlying38 hi hz .i64 .i64 n n (by omega) (Int.le_refl _) (by rw [hb];omega) (by omega);simp only [Int.toNat_natCast,hs] at hr;exact hr
theorem copied_step {w wr w2:World} {k:Nat} {l f r:PL} {kk:Int} {q:Bool} {t o:ByteArray} {row:Array Value} {X:Obj} {a2:Option Addr} {ca2:Nat} {v:Value}
  (hw:Below w.heap.size w wr) (hB:w.heap.size < wr.heap.size) (hco:Copied wr w.heap.size k l) (hrb:wr.heap[w.heap.size]? = some (.cells row 75 (0,0))) (hrow:row.size = l.len * 5) (hlt:k < l.len)
  (hd:l.drop k = .cons kk q t o f r) (ht:t.size≤R) (ho:o.size≤R) (hb2:Below (wr.alloc X).heap.size (wr.alloc X) w2) (hnew:LiesNew (wr.alloc X).heap.size w2 a2 ca2 f) :
  ∃ W:World,((((((w2.setCell ⟨wr.heap.size,4,none⟩ v).setCell ⟨w.heap.size,k * 5,none⟩ (.int .i64 kk)).setCell ⟨w.heap.size,k * 5 + 1,none⟩ (.bool q)).setCell ⟨w.heap.size,k * 5 + 2,none⟩ (.string t)).setCell ⟨w.heap.size,k * 5 + 3,none⟩ (.string o)).setCell ⟨w.heap.size,k * 5 + 4,none⟩ (.slice a2 f.len ca2)) = W ∧
   Below w.heap.size w W∧Copied W w.heap.size (k + 1) l∧∃ rw':Array Value,rw'.size = l.len * 5∧W.heap[w.heap.size]? = some (.cells rw' 75 (0,0)):=by
 refine ⟨_,rfl,?_⟩;have hsA:(wr.alloc X).heap.size = wr.heap.size + 1:=by simp
 have hs2:=hb2.size;rw [hsA] at hb2 hnew hs2;have hR2:w2.heap[w.heap.size]? = some (.cells row 75 (0,0)):=((hb2.block _ (by omega)).trans (Below.heap_alloc _ _ _ hB)).trans hrb;have g0:(w2.setCell ⟨wr.heap.size,4,none⟩ v).heap[w.heap.size]? = some (.cells row 75 (0,0)):=(heap_setCell_other w2 _ _ _ (by show w.heap.size ≠ wr.heap.size;omega)).trans hR2;have g1:=heap_setCell_same _ _ (k * 5) _ _ (.int .i64 kk) g0;have g2:=heap_setCell_same _ _ (k * 5 + 1) _ _ (.bool q) g1;have g3:=heap_setCell_same _ _ (k * 5 + 2) _ _ (.string t) g2;have g4:=heap_setCell_same _ _ (k * 5 + 3) _ _ (.string o) g3;have g5:=heap_setCell_same _ _ (k * 5 + 4) _ _ (.slice a2 f.len ca2) g4;have hoth:∀ b,b ≠ w.heap.size→b ≠ wr.heap.size→((((((w2.setCell ⟨wr.heap.size,4,none⟩ v).setCell ⟨w.heap.size,k * 5,none⟩ (.int .i64 kk)).setCell ⟨w.heap.size,k * 5 + 1,none⟩ (.bool q)).setCell ⟨w.heap.size,k * 5 + 2,none⟩ (.string t)).setCell ⟨w.heap.size,k * 5 + 3,none⟩ (.string o)).setCell ⟨w.heap.size,k * 5 + 4,none⟩ (.slice a2 f.len ca2)).heap[b]? = w2.heap[b]?:=by
  intro b h1 h2;rw [heap_setCell_other _ _ _ _ h1,heap_setCell_other _ _ _ _ h1,heap_setCell_other _ _ _ _ h1,heap_setCell_other _ _ _ _ h1,heap_setCell_other _ _ _ _ h1,heap_setCell_other _ _ _ _ h2]
 have hsz:((((((w2.setCell ⟨wr.heap.size,4,none⟩ v).setCell ⟨w.heap.size,k * 5,none⟩ (.int .i64 kk)).setCell ⟨w.heap.size,k * 5 + 1,none⟩ (.bool q)).setCell ⟨w.heap.size,k * 5 + 2,none⟩ (.string t)).setCell ⟨w.heap.size,k * 5 + 3,none⟩ (.string o)).setCell ⟨w.heap.size,k * 5 + 4,none⟩ (.slice a2 f.len ca2)).heap.size = w2.heap.size:=by simp
 have hbel:Below w.heap.size w ((((((w2.setCell ⟨wr.heap.size,4,none⟩ v).setCell ⟨w.heap.size,k * 5,none⟩ (.int .i64 kk)).setCell ⟨w.heap.size,k * 5 + 1,none⟩ (.bool q)).setCell ⟨w.heap.size,k * 5 + 2,none⟩ (.string t)).setCell ⟨w.heap.size,k * 5 + 3,none⟩ (.string o)).setCell ⟨w.heap.size,k * 5 + 4,none⟩ (.slice a2 f.len ca2)) :=
  ((((((((hw.alloc (by omega) X).trans (hb2.mono (by omega))).setCell (by show w.heap.size≤wr.heap.size;omega) _).setCell (Nat.le_refl _) _).setCell (Nat.le_refl _) _).setCell (Nat.le_refl _) _).setCell (Nat.le_refl _) _).setCell (Nat.le_refl _) _)
 generalize ((((((w2.setCell ⟨wr.heap.size,4,none⟩ v).setCell ⟨w.heap.size,k * 5,none⟩ (.int .i64 kk)).setCell ⟨w.heap.size,k * 5 + 1,none⟩ (.bool q)).setCell ⟨w.heap.size,k * 5 + 2,none⟩ (.string t)).setCell ⟨w.heap.size,k * 5 + 3,none⟩ (.string o)).setCell ⟨w.heap.size,k * 5 + 4,none⟩ (.slice a2 f.len ca2)) = W at *
 refine ⟨hbel,?_,_,by simpa using hrow,g5⟩;intro j k' q' t' o' f' r' hj hd'
 by_cases hjk:j = k
 ·subst hjk;rw [hd] at hd';cases hd';refine ⟨⟨?_,?_,?_,?_,ht,ho⟩,a2,ca2,?_,?_⟩
  all_goals first | (rw [Lib.cell_of_heap g5];simp [Array.getElem?_setIfInBounds];try omega) | skip
  exact (hnew.keep (by omega) fun b h1 h2=>hoth b (by omega) (by omega)).mono (by omega)
 ·obtain ⟨⟨h0,h1,h2,h3,h4,h5⟩,a,cap,h6,h7⟩:=hco j k' q' t' o' f' r' (by omega) hd';have hc:∀ {i v},i < k * 5→wr.cell? ⟨w.heap.size,i,none⟩ = some v→W.cell? ⟨w.heap.size,i,none⟩ = some v:=by
   intro i v hi h;rw [Lib.cell_of_heap hrb] at h;rw [Lib.cell_of_heap g5];simp only [Array.getElem?_setIfInBounds];rw [if_neg (by omega),if_neg (by omega),if_neg (by omega),if_neg (by omega),if_neg (by omega)];exact h
  refine ⟨⟨hc (by omega) h0,hc (by omega) h1,hc (by omega) h2,hc (by omega) h3,h4,h5⟩,a,cap,hc (by omega) h6,h7.keep (by omega) fun b hb hl=>?_⟩;rw [hoth b (by omega) (by omega),hb2.block b (by omega),Below.heap_alloc _ _ _ hl]
theorem fresh_any (n:Nat):∀ (l:PL) (a:Option Addr) (cap:Nat) (w:World),l.size < n→l.size≤1000000→Lies w a cap l →
  Calls Tryz.prog 160 #[.slice a l.len cap] w (Fresh w l):=by
 induction n with
 | zero=>intro _ _ _ _ h;omega
 | succ n ih =>
  intro l a cap w hn hsz hl;have HL:=Lib.hid hl;have IH:=Lib.hid ih;clear hl ih;have hle:=HL.out.le;cases hc:l with
  | nil =>
   subst hc;go_enter Tryz.func160,Tryz.ntmps160;go_wp2;go_ret;exact ⟨none,0,rfl,Below.refl _ _,fun _ _ _=>⟨Nat.le_refl _,Nat.zero_le _,.inl rfl⟩,fun h=>absurd rfl h⟩
  | cons k0 q0 t0 o0 f0 r0 =>
   have hpos:0 < l.len:=by rw [hc];simp [PL.len]
   rw [← hc];have HC:=Lib.hid hc;clear hc;have hln:l.len≤1000000:=by have:=len_size l;omega
   obtain ⟨row,hrow,hmk⟩:=make_parts l.len hln;have h0:((l.len:Int) == 0) = false:=by simp;omega
   have h0':(l.len == 0) = false:=by simp;omega
   have HROW:=Lib.hid hrow;clear hrow;go_enter Tryz.func160,Tryz.ntmps160;go_wp2
   go_loopw [14] (fun i wr=>∃ k:Nat,k≤l.len∧i = .int .i64 k∧Below w.heap.size w wr∧Copied wr w.heap.size k l∧∃ rw':Array Value,rw'.size = l.len * 5∧wr.heap[w.heap.size]? = some (.cells rw' 75 (0,0))) (fun i wr=>l.len - (intOf i).toNat)
   case atStart=>exact ⟨0,Nat.zero_le _,rfl,bel1 _ _,fun _ _ _ _ _ _ _ h=>by omega,row,HROW.out,heap_alloc_new _ _⟩
   case round =>
    obtain ⟨k,hk,rfl,hb,hcop,row',hrow',hrb⟩:=hrel;have HW:=Lib.hid hb;have HCO:=Lib.hid hcop;have HRS:=Lib.hid hrow';have HRB:=Lib.hid hrb;clear hb hcop hrow' hrb hmk
    by_cases hlt:k < l.len
    ·obtain ⟨kk,q,t,o,f,r,hd⟩:=PL.drop_at hlt;obtain ⟨b1,p1,rfl,hb1,c10,c11,c12,c13,ht,ho,a1,ca1,c14,hl1⟩:=(HL.out.below HW.out).get hd;have hsf:f.size < l.size:=by
      have:=PL.drop_size k l;rw [hd] at this;simp only [PL.size] at this;omega
     have HD:=Lib.hid hd;have HL1:=Lib.hid hl1;clear hd hl1;go_wp2_with fail;refine (IH.out f a1 ca1 _ (by omega) (by omega) (HL1.out.below (bel1 wr _))).mono ?_;rintro e w2 ⟨a2,ca2,rfl,hb2,hnew,_⟩;have hNp:w2.heap[wr.heap.size]? = some (.cells #[.int .i64 kk,.bool q,.string t,.string o,.slice a1 f.len ca1] 75 (0,0)):=(hb2.block _ (by simp)).trans (heap_alloc_new _ _);have hBl:w.heap.size < wr.heap.size:=by have:=HRB.out;exact (Array.getElem?_eq_some_iff.1 this).1
     have hRw:w2.heap[w.heap.size]? = some (.cells row' 75 (0,0)):=((hb2.block _ (by simp;omega)).trans (Below.heap_alloc _ _ _ hBl)).trans HRB.out;have p0:=zc0 hNp;have p1':w2.cell? ⟨wr.heap.size,1,none⟩ = some (.bool q):=Lib.cell_of_heap hNp 1;have p2:=zc2 hNp;have p3:=zc3 hNp;have p4:=zc4 hNp;have pf:=zf 4 hNp;have row5:∀ i,i < 5→∃ x,w2.cell? ⟨w.heap.size,k * 5 + i,none⟩ = some x:=fun i hi=>⟨row'[k * 5 + i]'(by rw [HRS.out];omega),(Lib.cell_of_heap hRw _).trans (by simp)⟩;obtain ⟨x0,e0⟩:=row5 0 (by omega);obtain ⟨x1,e1⟩:=row5 1 (by omega);obtain ⟨x2,e2⟩:=row5 2 (by omega);obtain ⟨x3,e3⟩:=row5 3 (by omega);obtain ⟨x4,e4⟩:=row5 4 (by omega);rw [Nat.add_zero] at e0;have rf:∀ i,w2.frozen? ⟨w.heap.size,i,none⟩ = false:=fun i=>frozen_of_row _ _ _ _ _ hRw;have f0:=rf (k * 5);have f1:=rf (k * 5 + 1);have f2:=rf (k * 5 + 2);have f3:=rf (k * 5 + 3);have f4:=rf (k * 5 + 4);have hne:(w.heap.size == wr.heap.size) = false:=by simp;omega
     have hne2:(wr.heap.size == w.heap.size) = false:=by simp;omega
     have hne3:¬ (w.heap.size = wr.heap.size):=by omega
     have hne4:¬ (wr.heap.size = w.heap.size):=by omega
     have HB2:=Lib.hid hb2;have HNEW:=Lib.hid hnew;have HNP:=Lib.hid hNp;have HRW:=Lib.hid hRw;clear hb2 hnew hNp hRw row5 rf;go_wp2_with fail;obtain ⟨W,hW,hWb,hWc,hWr⟩:=copied_step (v:=.slice a2 f.len ca2) HW.out hBl HCO.out HRB.out HRS.out hlt HD.out ht ho HB2.out HNEW.out;go_roundw
     case rel=>exact ⟨k + 1,by omega,by go_num,by rw [hW];exact hWb,by rw [hW];exact hWc,by rw [hW];exact hWr⟩
     case measure=>simp [intOf];omega
    ·obtain rfl:k = l.len:=by omega
     go_wp2;go_ret;have hcp:=HCO.out;refine ⟨some ⟨w.heap.size,0,none⟩,l.len,rfl,HW.out,?_,fun _=>⟨rfl,hcp,row',HRB.out⟩⟩;intro w2 hs hk;have:=hcp.keep hs hk;exact ⟨Nat.le_refl _,by unfold R;omega,.inr ⟨_,_,rfl,this.at⟩⟩
end Sp
end Go.Proofs.YtjmpfihopeohbaaGreatDoor
namespace Go.Proofs.YtjmpfihopeohbaaGreatDoor
open Go.RowKit Go.Sort
namespace Sp
open Cls Pt
theorem take_le (n:Nat) (s:ByteArray):(s.data.toList.take n).length≤s.size:=by rw [List.length_take,lenB];omega
def eqT (l:List UInt8):Option Nat:=if 0≤Lib.indexByte l 61 then if nameL (l.take (Lib.indexByte l 61).toNat) then some (Lib.indexByte l 61).toNat else none else none
def splitP:PL→Option Nat
 | .cons k q t _ _ _=>if k == 1 && !q then eqT t.data.toList else none
 | .nil=>none
def restP:PL→Nat→PL
 | .cons k q t o f r,n=>if t.size≤n + 1 then r else .cons k q ⟨(t.data.toList.drop (n + 1)).toArray⟩ o f r
 | .nil,_=>.nil
theorem eqT_some {l:List UInt8} {n:Nat} (h:eqT l = some n):Lib.indexByte l 61 = n∧nameL (l.take n) = true∧n < l.length:=by
 unfold eqT at h;split at h
 ·split at h
  ·rename_i h0 h1;cases h;have he:Lib.indexByte l 61 = ((Lib.indexByte l 61).toNat:Int):=by omega
   refine ⟨he,h1,?_⟩;have:=(Lib.indexByte_some he).1;exact (List.getElem?_eq_some_iff.1 this).1
  ·cases h
 ·cases h
theorem lies_tail {w:World} {b p cap:Nat} {k:Int} {q:Bool} {t o:ByteArray} {f r:PL} (h:Lies w (some ⟨b,p,none⟩) cap (.cons k q t o f r)):Lies w (some ⟨b,p + 5,none⟩) (cap - 1) r:=by
 obtain ⟨h1,h2,h3⟩:=h;simp only [PL.len] at h1 h2;refine ⟨by omega,by omega,?_⟩;rcases h3 with h3 | ⟨b',o',ha,_,_,h3⟩
 ·cases h3
 ·cases ha;exact .inr ⟨_,_,rfl,h3⟩
theorem lies_none {w:World} {a:Option Addr} {r:PL} (h:r.len = 0):Lies w a 0 r:=by
 cases r with
 | nil=>exact ⟨Nat.le_refl _,Nat.zero_le _,.inl rfl⟩
 | cons=>simp [PL.len] at h
theorem retext {w w2:World} {k:Int} {q:Bool} {t o s:ByteArray} {f r:PL} (h:Copied w2 w.heap.size (PL.cons k q t o f r).len (.cons k q t o f r)) (hs:s.size≤R) {row:Array Value} {T:TypeId}
  (hrow:w2.heap[w.heap.size]? = some (.cells row T (0,0))):Copied (w2.setCell ⟨w.heap.size,2,none⟩ (.string s)) w.heap.size (PL.cons k q s o f r).len (.cons k q s o f r):=by
 have g1:=heap_setCell_same _ _ 2 _ _ (.string s) hrow;have hoth:∀ b,b ≠ w.heap.size→(w2.setCell ⟨w.heap.size,2,none⟩ (.string s)).heap[b]? = w2.heap[b]?:=fun b hb=>heap_setCell_other _ _ _ _ hb;have hsz:(w2.setCell ⟨w.heap.size,2,none⟩ (.string s)).heap.size = w2.heap.size:=by simp
 generalize w2.setCell ⟨w.heap.size,2,none⟩ (.string s) = W at *
 have hc:∀ {i v},i ≠ 2→w2.cell? ⟨w.heap.size,i,none⟩ = some v→W.cell? ⟨w.heap.size,i,none⟩ = some v:=by
  intro i v hi h;rw [Lib.cell_of_heap hrow] at h;rw [Lib.cell_of_heap g1];rw [Array.getElem?_setIfInBounds,if_neg (by omega)];exact h
 intro j k' q' t' o' f' r' hj hd;cases j with
 | zero =>
  simp only [PL.drop] at hd;cases hd;obtain ⟨⟨h0,h1,h2,h3,h4,h5⟩,a,cap,h6,h7⟩:=h 0 k q t o f r hj rfl;refine ⟨⟨hc (by omega) h0,hc (by omega) h1,?_,hc (by omega) h3,hs,h5⟩,a,cap,hc (by omega) h6,h7.keep (by omega) fun b hb hl=>hoth b (by omega)⟩;rw [Lib.cell_of_heap hrow] at h2;rw [Lib.cell_of_heap g1];have:2 < row.size:=by
   have:=(Array.getElem?_eq_some_iff.1 h2).1;simpa using this
  simp [Array.getElem?_setIfInBounds,this]
 | succ j =>
  obtain ⟨⟨h0,h1,h2,h3,h4,h5⟩,a,cap,h6,h7⟩:=h (j + 1) k' q' t' o' f' r' hj hd;exact ⟨⟨hc (by omega) h0,hc (by omega) h1,hc (by omega) h2,hc (by omega) h3,h4,h5⟩,a,cap,hc (by omega) h6,h7.keep (by omega) fun b hb hl=>hoth b (by omega)⟩
theorem cut_eq (l:List UInt8):Lib.cut l [61] = if 0≤Lib.indexByte l 61 then (l.take (Lib.indexByte l 61).toNat,l.drop ((Lib.indexByte l 61).toNat + 1),true) else (l,[],false):=by
 unfold Lib.cut;rw [Lib.index_one];rfl
theorem below_drewN (w:World) (n:Nat):Below w.heap.size w (w.drewN n):=by
 exact ⟨rfl,rfl,rfl,Nat.le_refl _,fun _ _=>rfl⟩
theorem cut_any (s:ByteArray) (m:Int) (w:World) (hs:s.size≤1000000) (hm:w.cell? ⟨0,0,none⟩ = some (.int .i64 m)) :
  Calls Tryz.prog 159 #[.string s,.string ⟨#[61]⟩] w fun e w'=>e = .returned (.tuple #[.string ⟨(Lib.cut s.data.toList [61]).1.toArray⟩,.string ⟨(Lib.cut s.data.toList [61]).2.1.toArray⟩,.bool (Lib.cut s.data.toList [61]).2.2])∧Below w.heap.size w w' :=
 (Tryz.strings_Cut s ⟨#[61]⟩ m w (by omega) hm).mono fun e w' ⟨he,n,hn⟩=>⟨he,hn ▸ below_drewN w n⟩
theorem split_no (l:PL) (a:Option Addr) (cap:Nat) (m:Int) (w:World) (hl:Lies w a cap l) (hsz:l.size≤1000000) (ht:∀ k q t o f r,l = .cons k q t o f r→t.size≤1000000) (hm:w.cell? ⟨0,0,none⟩ = some (.int .i64 m)) (hn:splitP l = none) :
  Calls Tryz.prog 137 #[.slice a l.len cap] w fun e w'=>e = .returned (.tuple #[.string ⟨#[]⟩,.slice none 0 0,.bool false])∧Below w.heap.size w w':=by
 have HM:=Lib.hid hm;clear hm;have HL:=Lib.hid hl;clear hl;have HN:=Lib.hid hn;clear hn;have HT:=Lib.hid ht;clear ht;have hle:=HL.out.le;cases l with
 | nil =>
  go_enter Tryz.func137,Tryz.ntmps137;go_wp2
  go_ret3
  exact ⟨rfl,Below.refl _ _⟩
 | cons k q t o f r =>
  obtain ⟨b1,p1,rfl,hb1,c10,c11,c12,c13,ht,ho,a1,ca1,c14,hl1⟩:=HL.out.get (i:=0) rfl;rw [Nat.zero_mul,Nat.add_zero] at c10 c11 c12 c13 c14;have hts:=HT.out _ _ _ _ _ _ rfl;have hlen:(PL.cons k q t o f r).len = r.len + 1:=rfl;have hne:(((r.len + 1:Nat):Int) == 0) = false:=by simp;omega
  have hne2:((r.len:Int) + 1 == 0) = false:=by simp;omega
  rw [hlen];cases hk:(k == 1) <;> cases q
  all_goals
   have hk2:(k != 1) = !(k == 1):=rfl;rw [hk] at hk2
  case true.false =>
   have hcut:=cut_any t m w hts HM.out;have hN:=HN.out;simp only [splitP,hk,eqT] at hN;rw [cut_eq] at hcut;have HK:=Lib.hid hk;clear hk hlen hle hl1 hts
   by_cases h0:0≤Lib.indexByte t.data.toList 61
   ·rw [if_pos h0] at hcut;have hnm:nameL (t.data.toList.take (Lib.indexByte t.data.toList 61).toNat) = false:=by
     cases h:nameL (t.data.toList.take (Lib.indexByte t.data.toList 61).toNat)
     ·rfl
     ·simp [h0,h] at hN
    have e1:nameL (⟨(t.data.toList.take (Lib.indexByte t.data.toList 61).toNat).toArray⟩:ByteArray).data.toList = false:=by simpa using hnm
    have hname:=fun w=>name_any ⟨(t.data.toList.take (Lib.indexByte t.data.toList 61).toNat).toArray⟩ w (Nat.le_trans (by show (List.toArray _).size≤_;rw [List.size_toArray];exact take_le _ t) (show t.size≤9223372036854775807 by unfold R at ht;omega));rw [e1] at hname;have HC:=Lib.hid hcut;have HNM:=Lib.hid hname;clear hcut hname hnm hN h0 e1;go_enter Tryz.func137,Tryz.ntmps137
    go_wp2_with (first
     | (go_at_call 159;refine (HC.out).mono ?_;rintro e w1 ⟨rfl,hb⟩;have HB1:=Lib.hid hb;clear hb)
     | (go_at_call 79;refine (HNM.out _).mono ?_;rintro e w' ⟨rfl,rfl⟩))
    go_ret3
    exact ⟨rfl,HB1.out⟩
   ·rw [if_neg h0] at hcut;have HC:=Lib.hid hcut;clear hcut hN h0;go_enter Tryz.func137,Tryz.ntmps137;go_wp2_with (go_at_call 159;refine (HC.out).mono ?_;rintro e w1 ⟨rfl,hb⟩;have HB1:=Lib.hid hb;clear hb)
    go_ret3
    exact ⟨rfl,HB1.out⟩
  all_goals
   have HK:=Lib.hid hk;clear hk hlen hle hl1 hts;go_enter Tryz.func137,Tryz.ntmps137;go_wp2
   go_ret3
   exact ⟨rfl,Below.refl _ _⟩
theorem split_yes (k:Int) (q:Bool) (t o:ByteArray) (f r:PL) (n:Nat) (a:Option Addr) (cap:Nat) (m:Int) (w:World) (hl:Lies w a cap (.cons k q t o f r)) (hsz:(PL.cons k q t o f r).size≤1000000) (hts:t.size≤1000000) (hm:w.cell? ⟨0,0,none⟩ = some (.int .i64 m)) (hn:splitP (.cons k q t o f r) = some n) :
  Calls Tryz.prog 137 #[.slice a (r.len + 1) cap] w fun e w'=>(∃ a' cap',e = .returned (.tuple #[.string ⟨(t.data.toList.take n).toArray⟩,.slice a' (restP (.cons k q t o f r) n).len cap',.bool true])∧Lies w' a' cap' (restP (.cons k q t o f r) n))∧Below w.heap.size w w':=by
 obtain ⟨b1,p1,rfl,hb1,c10,c11,c12,c13,ht,ho,a1,ca1,c14,hl1⟩:=hl.get (i:=0) rfl;rw [Nat.zero_mul,Nat.add_zero] at c10 c11 c12 c13 c14;have hkq:(k == 1) = true∧q = false∧eqT t.data.toList = some n:=by
  simp only [splitP] at hn;split at hn
  ·rename_i h;simp only [Bool.and_eq_true,Bool.not_eq_true'] at h;exact ⟨h.1,h.2,hn⟩
  ·cases hn
 obtain ⟨hk,rfl,he⟩:=hkq;have hk2:(k != 1) = false:=by simp only [bne,hk];rfl
 obtain ⟨hi,hnm,hlt⟩:=eqT_some he;have hcut:=cut_any t m w hts hm;rw [cut_eq,if_pos (by rw [hi];omega),hi,Int.toNat_natCast] at hcut;have e1:nameL (⟨(t.data.toList.take n).toArray⟩:ByteArray).data.toList = true:=by simpa using hnm
 have hname:=fun w=>name_any ⟨(t.data.toList.take n).toArray⟩ w (Nat.le_trans (by show (List.toArray _).size≤_;rw [List.size_toArray];exact take_le _ t) (show t.size≤9223372036854775807 by unfold R at ht;omega));rw [e1] at hname;have hne:(((r.len + 1:Nat):Int) == 0) = false:=by simp;omega
 have hne2:((r.len:Int) + 1 == 0) = false:=by simp;omega
 have hle:=hl.le;have hle2:r.len≤140737488351232:=by simp only [PL.len] at hle;omega
 have HC:=Lib.hid hcut;have HNM:=Lib.hid hname;have HL:=Lib.hid hl;have HL1:=Lib.hid hl1;have HS:=Lib.hid hsz;have HLT:=Lib.hid hlt;clear hcut hname hnm hn he e1 hl hl1 hm hsz hi hlt hle
 by_cases hr:t.size≤n + 1
 ·have hemp:(List.drop (n + 1) t.data.toList).isEmpty = true:=by
   simp;omega
  have HR:=Lib.hid hr;clear hr;go_enter Tryz.func137,Tryz.ntmps137
  go_wp2_with (first
   | (go_at_call 159;refine (HC.out).mono ?_;rintro e w1 ⟨rfl,hb⟩;have HB1:=Lib.hid hb;clear hb)
   | (go_at_call 79;refine (HNM.out _).mono ?_;rintro e w' ⟨rfl,rfl⟩))
  case inl =>
   refine (fresh_any (r.size + 1) r _ _ _ (by omega) (by have:=HS.out;simp only [PL.size] at this;omega) (lies_none (by have:=HL.out.1;simp only [PL.len] at this;omega))).mono ?_;rintro e w2 ⟨a2,ca2,rfl,hb2,hnew,_⟩;have HB2:=Lib.hid hb2;have HNEW:=Lib.hid hnew;clear hb2 hnew;go_wp2
   go_ret3
   have hR:restP (PL.cons k false t o f r) n = r:=if_pos HR.out;rw [hR];exact ⟨⟨a2,ca2,rfl,HNEW.out.lies⟩,thru HB1.out HB2.out⟩
  case inr =>
   refine (fresh_any (r.size + 1) r _ _ _ (by omega) (by have:=HS.out;simp only [PL.size] at this;omega) (lies_tail (HL.out.below HB1.out))).mono ?_;rintro e w2 ⟨a2,ca2,rfl,hb2,hnew,_⟩;have HB2:=Lib.hid hb2;have HNEW:=Lib.hid hnew;clear hb2 hnew;go_wp2
   go_ret3
   have hR:restP (PL.cons k false t o f r) n = r:=if_pos HR.out;rw [hR];exact ⟨⟨a2,ca2,rfl,HNEW.out.lies⟩,thru HB1.out HB2.out⟩
 ·have hemp:(List.drop (n + 1) t.data.toList).isEmpty = false:=by
   simp;omega
  have HR:=Lib.hid hr;clear hr;go_enter Tryz.func137,Tryz.ntmps137
  go_wp2_with (first
   | (go_at_call 159;refine (HC.out).mono ?_;rintro e w1 ⟨rfl,hb⟩;have HB1:=Lib.hid hb;clear hb)
   | (go_at_call 79;refine (HNM.out _).mono ?_;rintro e w' ⟨rfl,rfl⟩))
  refine (fresh_any ((PL.cons k false t o f r).size + 1) (.cons k false t o f r) _ _ _ (by omega) HS.out (HL.out.below HB1.out)).mono ?_;rintro e w2 ⟨a2,ca2,he,hb2,hnew,hrow⟩;rw [show (PL.cons k false t o f r).len = r.len + 1 from rfl] at he;subst he;obtain ⟨rfl,hcop,row,hrow⟩:=hrow (by simp);have hx:w2.cell? ⟨w1.heap.size,2,none⟩ = some (.string t):=(hcop 0 k false t o f r (by simp [PL.len]) rfl).1.2.2.1;have hf:=frozen_of_row _ _ 2 _ _ hrow;have HB2:=Lib.hid hb2;have HNEW:=Lib.hid hnew;have HCOP:=Lib.hid hcop;have HROW:=Lib.hid hrow;clear hb2 hnew hcop hrow;go_wp2
  go_ret3
  have hR:restP (PL.cons k false t o f r) n = .cons k false ⟨(t.data.toList.drop (n + 1)).toArray⟩ o f r:=if_neg HR.out;rw [hR];have hs:(⟨(t.data.toList.drop (n + 1)).toArray⟩:ByteArray).size≤R:=by simp only [ByteArray.size,List.size_toArray,List.length_drop];rw [lenB];omega
  have hcp:=retext HCOP.out hs HROW.out;have hlies:=HNEW.out.lies;exact ⟨⟨_,ca2,rfl,hlies.1,hlies.2.1,.inr ⟨_,_,rfl,hcp.at⟩⟩,thru HB1.out (HB2.out.setCell (Nat.le_refl _) _)⟩
end Sp
end Go.Proofs.YtjmpfihopeohbaaGreatDoor
