/- A copy of parts in memory of its own: plain facts; word.fresh. -/
import Derived.Test.YtoklgmbpgnimcaaGreatDoorRegN
import Derived.Test.YtoklgmbpgnimcaaGreatDoorPtB
import Derived.Deep.OwnRows
namespace Go.Proofs.YtoklgmbpgnimcaaGreatDoor
open Go.RowKit Go.Sort
namespace Sp
open Cls Pt
def LiesNew (N:Nat) (w:World) (a:Option Addr) (cap:Nat) (l:PL):Prop :=
 ∀ w2:World,w.heap.size≤w2.heap.size→(∀ b,N≤b→b < w.heap.size→w2.heap[b]? = w.heap[b]?)→Lies w2 a cap l
theorem LiesNew.lies {N:Nat} {w:World} {a:Option Addr} {cap:Nat} {l:PL} (h:LiesNew N w a cap l):Lies w a cap l:=h w (Nat.le_refl _) fun _ _ _=>rfl
theorem LiesNew.keep {N:Nat} {w w':World} {a:Option Addr} {cap:Nat} {l:PL} (h:LiesNew N w a cap l) (hs:w.heap.size≤w'.heap.size) (hk:∀ b,N≤b→b < w.heap.size→w'.heap[b]? = w.heap[b]?):LiesNew N w' a cap l :=
 fun w2 h2 hk2=>h w2 (by omega) fun b hb hlt=>(hk2 b hb (by omega)).trans (hk b hb hlt)
theorem LiesNew.mono {N N':Nat} {w:World} {a:Option Addr} {cap:Nat} {l:PL} (h:LiesNew N w a cap l) (hN:N'≤N):LiesNew N' w a cap l :=
 fun w2 h2 hk2=>h w2 h2 fun b hb hlt=>hk2 b (by omega) hlt
theorem LiesNew.below {N:Nat} {w w':World} {a:Option Addr} {cap:Nat} {l:PL} (h:LiesNew N w a cap l) (hb:Below w.heap.size w w'):LiesNew N w' a cap l :=
 h.keep hb.size fun b _ hlt=>hb.block b hlt
def Copied (w:World) (B k:Nat) (l:PL):Prop :=
 ∀ (j:Nat) (kk:Int) (q:Bool) (t o:ByteArray) (f r:PL),j < k→l.drop j = .cons kk q t o f r →
  (w.cell? ⟨B,j * 5,none⟩ = some (.int .i64 kk)∧w.cell? ⟨B,j * 5 + 1,none⟩ = some (.bool q)∧w.cell? ⟨B,j * 5 + 2,none⟩ = some (.string t)∧w.cell? ⟨B,j * 5 + 3,none⟩ = some (.string o)∧t.size≤R∧o.size≤R) ∧
  ∃ a cap,w.cell? ⟨B,j * 5 + 4,none⟩ = some (.slice a f.len cap)∧LiesNew (B + 1) w a cap f
theorem Copied.tail {w:World} {B:Nat} {l:PL} (h:Copied w B l.len l):∀ m,m≤l.len→At w B ((l.len - m) * 5) (l.drop (l.len - m))
 | 0,_=>by rw [Nat.sub_zero,PL.drop_end (Nat.le_refl _)];trivial
 | m + 1,hm=>by
  obtain ⟨kk,q,t,o,f,r,hd⟩:=PL.drop_at (n:=l.len - (m + 1)) (l:=l) (by omega)
  obtain ⟨⟨h0,h1,h2,h3,h4,h5⟩,a,cap,h6,h7⟩:=h _ _ _ _ _ _ _ (by omega) hd
  rw [hd]
  refine ⟨⟨h0,h1,h2,h3,h4,h5⟩,⟨a,cap,h6,h7.lies.1,h7.lies.2.1,h7.lies.2.2⟩,?_⟩
  have:=Copied.tail h m (by omega)
  rw [← PL.drop_succ hd,show (l.len - (m + 1)) * 5 + 5 = (l.len - m) * 5 by omega,show l.len - (m + 1) + 1 = l.len - m by omega]
  exact this
theorem Copied.at {w:World} {B:Nat} {l:PL} (h:Copied w B l.len l):At w B 0 l:=by
 have:=h.tail l.len (Nat.le_refl _)
 simpa [PL.drop] using this
theorem Copied.keep {w w':World} {B k:Nat} {l:PL} (h:Copied w B k l) (hs:w.heap.size≤w'.heap.size) (hk:∀ b,B≤b→b < w.heap.size→w'.heap[b]? = w.heap[b]?):Copied w' B k l:=by
 intro j kk q t o f r hj hd
 obtain ⟨⟨h0,h1,h2,h3,h4,h5⟩,a,cap,h6,h7⟩:=h j kk q t o f r hj hd
 have hlt:=World.block_lt_of_cell? _ _ h0
 have hc:∀ {i v},w.cell? ⟨B,i,none⟩ = some v→w'.cell? ⟨B,i,none⟩ = some v:=fun {i v} h=>(World.cell?_of_block (w:=w) (a:=⟨B,i,none⟩) (hk B (Nat.le_refl _) hlt)).trans h
 exact ⟨⟨hc h0,hc h1,hc h2,hc h3,h4,h5⟩,a,cap,hc h6,h7.keep hs fun b hb hlt=>hk b (by omega) hlt⟩
theorem len_size:∀ l:PL,l.len≤l.size
 | .nil=>Nat.le_refl _
 | .cons _ _ _ _ f r=>by have:=len_size r;simp only [PL.len,PL.size];omega
def Fresh (w0:World) (l:PL) (e:Ending) (w':World):Prop :=
 ∃ a cap,e = .returned (.slice a l.len cap)∧Below w0.heap.size w0 w'∧LiesNew w0.heap.size w' a cap l ∧
  (l ≠ .nil→a = some ⟨w0.heap.size,0,none⟩∧Copied w' w0.heap.size l.len l∧∃ row,w'.heap[w0.heap.size]? = some (.cells row 125 (0,0)))
theorem infoPart:(Tryz.prog.info? 125).map (fun i=>(i.zero,i.size,i.bytes)) = some (some (.agg #[.int .i64 0,.bool false,.string ⟨#[]⟩,.string ⟨#[]⟩,.slice none 0 0]),5,72):=by kernel_rfl
theorem make_parts (n:Nat) (hn:n≤1000000):∃ row:Array Value,row.size = n * 5∧∀ w:World,(Instr.makeSlice 81 (.int .i64 (n:Int)) (.int .i64 (n:Int))).run Tryz.prog w = .ok (.slice (some ⟨w.heap.size,0,none⟩) n n) (w.alloc (.cells row 125)):=by
 obtain ⟨i,hi,hzz⟩:=Option.map_eq_some_iff.1 infoPart
 simp only [Prod.mk.injEq] at hzz
 obtain ⟨hz,hs,hb⟩:=hzz
 refine ⟨madeCells (Value.agg #[.int .i64 0,.bool false,.string ⟨#[]⟩,.string ⟨#[]⟩,.slice none 0 0]).cells (n * 5),size_madeCells _ _,fun w=>?_⟩
 have hr:=run_make (P:=Tryz.prog) w 81 125 i _ Tryz.underlying81 hi hz .i64 .i64 n n (by omega) (Int.le_refl _) (by rw [hb];omega) (by omega)
 simp only [Int.toNat_natCast,hs] at hr
 exact hr
theorem copied_step {w wr w2:World} {k:Nat} {l f r:PL} {kk:Int} {q:Bool} {t o:ByteArray} {row:Array Value} {X:Obj} {a2:Option Addr} {ca2:Nat} {v:Value}
  (hw:Below w.heap.size w wr) (hB:w.heap.size < wr.heap.size) (hco:Copied wr w.heap.size k l) (hrb:wr.heap[w.heap.size]? = some (.cells row 125 (0,0))) (hrow:row.size = l.len * 5) (hlt:k < l.len)
  (hd:l.drop k = .cons kk q t o f r) (ht:t.size≤R) (ho:o.size≤R) (hb2:Below (wr.alloc X).heap.size (wr.alloc X) w2) (hnew:LiesNew (wr.alloc X).heap.size w2 a2 ca2 f) :
  ∃ W:World,((((((w2.setCell ⟨wr.heap.size,4,none⟩ v).setCell ⟨w.heap.size,k * 5,none⟩ (.int .i64 kk)).setCell ⟨w.heap.size,k * 5 + 1,none⟩ (.bool q)).setCell ⟨w.heap.size,k * 5 + 2,none⟩ (.string t)).setCell ⟨w.heap.size,k * 5 + 3,none⟩ (.string o)).setCell ⟨w.heap.size,k * 5 + 4,none⟩ (.slice a2 f.len ca2)) = W ∧
   Below w.heap.size w W∧Copied W w.heap.size (k + 1) l∧∃ rw':Array Value,rw'.size = l.len * 5∧W.heap[w.heap.size]? = some (.cells rw' 125 (0,0)):=by
 refine ⟨_,rfl,?_⟩
 have hsA:(wr.alloc X).heap.size = wr.heap.size + 1:=by simp
 have hs2:=hb2.size
 rw [hsA] at hb2 hnew hs2
 have hR2:w2.heap[w.heap.size]? = some (.cells row 125 (0,0)):=((hb2.block _ (by omega)).trans (Below.heap_alloc _ _ _ hB)).trans hrb
 have g0:(w2.setCell ⟨wr.heap.size,4,none⟩ v).heap[w.heap.size]? = some (.cells row 125 (0,0)):=(heap_setCell_other w2 _ _ _ (by show w.heap.size ≠ wr.heap.size;omega)).trans hR2
 have g1:=heap_setCell_same _ _ (k * 5) _ _ (.int .i64 kk) g0
 have g2:=heap_setCell_same _ _ (k * 5 + 1) _ _ (.bool q) g1
 have g3:=heap_setCell_same _ _ (k * 5 + 2) _ _ (.string t) g2
 have g4:=heap_setCell_same _ _ (k * 5 + 3) _ _ (.string o) g3
 have g5:=heap_setCell_same _ _ (k * 5 + 4) _ _ (.slice a2 f.len ca2) g4
 have hoth:∀ b,b ≠ w.heap.size→b ≠ wr.heap.size→((((((w2.setCell ⟨wr.heap.size,4,none⟩ v).setCell ⟨w.heap.size,k * 5,none⟩ (.int .i64 kk)).setCell ⟨w.heap.size,k * 5 + 1,none⟩ (.bool q)).setCell ⟨w.heap.size,k * 5 + 2,none⟩ (.string t)).setCell ⟨w.heap.size,k * 5 + 3,none⟩ (.string o)).setCell ⟨w.heap.size,k * 5 + 4,none⟩ (.slice a2 f.len ca2)).heap[b]? = w2.heap[b]?:=by
  intro b h1 h2
  rw [heap_setCell_other _ _ _ _ h1,heap_setCell_other _ _ _ _ h1,heap_setCell_other _ _ _ _ h1,heap_setCell_other _ _ _ _ h1,heap_setCell_other _ _ _ _ h1,heap_setCell_other _ _ _ _ h2]
 have hsz:((((((w2.setCell ⟨wr.heap.size,4,none⟩ v).setCell ⟨w.heap.size,k * 5,none⟩ (.int .i64 kk)).setCell ⟨w.heap.size,k * 5 + 1,none⟩ (.bool q)).setCell ⟨w.heap.size,k * 5 + 2,none⟩ (.string t)).setCell ⟨w.heap.size,k * 5 + 3,none⟩ (.string o)).setCell ⟨w.heap.size,k * 5 + 4,none⟩ (.slice a2 f.len ca2)).heap.size = w2.heap.size:=by simp
 have hbel:Below w.heap.size w ((((((w2.setCell ⟨wr.heap.size,4,none⟩ v).setCell ⟨w.heap.size,k * 5,none⟩ (.int .i64 kk)).setCell ⟨w.heap.size,k * 5 + 1,none⟩ (.bool q)).setCell ⟨w.heap.size,k * 5 + 2,none⟩ (.string t)).setCell ⟨w.heap.size,k * 5 + 3,none⟩ (.string o)).setCell ⟨w.heap.size,k * 5 + 4,none⟩ (.slice a2 f.len ca2)) :=
  ((((((((hw.alloc (by omega) X).trans (hb2.mono (by omega))).setCell (by show w.heap.size≤wr.heap.size;omega) _).setCell (Nat.le_refl _) _).setCell (Nat.le_refl _) _).setCell (Nat.le_refl _) _).setCell (Nat.le_refl _) _).setCell (Nat.le_refl _) _)
 generalize ((((((w2.setCell ⟨wr.heap.size,4,none⟩ v).setCell ⟨w.heap.size,k * 5,none⟩ (.int .i64 kk)).setCell ⟨w.heap.size,k * 5 + 1,none⟩ (.bool q)).setCell ⟨w.heap.size,k * 5 + 2,none⟩ (.string t)).setCell ⟨w.heap.size,k * 5 + 3,none⟩ (.string o)).setCell ⟨w.heap.size,k * 5 + 4,none⟩ (.slice a2 f.len ca2)) = W at *
 refine ⟨hbel,?_,_,by simpa using hrow,g5⟩
 intro j k' q' t' o' f' r' hj hd'
 by_cases hjk:j = k
 ·subst hjk
  rw [hd] at hd'
  cases hd'
  refine ⟨⟨?_,?_,?_,?_,ht,ho⟩,a2,ca2,?_,?_⟩
  all_goals first | (rw [Lib.cell_of_heap g5];simp [Array.getElem?_setIfInBounds];try omega) | skip
  exact (hnew.keep (by omega) fun b h1 h2=>hoth b (by omega) (by omega)).mono (by omega)
 ·obtain ⟨⟨h0,h1,h2,h3,h4,h5⟩,a,cap,h6,h7⟩:=hco j k' q' t' o' f' r' (by omega) hd'
  have hc:∀ {i v},i < k * 5→wr.cell? ⟨w.heap.size,i,none⟩ = some v→W.cell? ⟨w.heap.size,i,none⟩ = some v:=by
   intro i v hi h
   rw [Lib.cell_of_heap hrb] at h
   rw [Lib.cell_of_heap g5]
   simp only [Array.getElem?_setIfInBounds]
   rw [if_neg (by omega),if_neg (by omega),if_neg (by omega),if_neg (by omega),if_neg (by omega)]
   exact h
  refine ⟨⟨hc (by omega) h0,hc (by omega) h1,hc (by omega) h2,hc (by omega) h3,h4,h5⟩,a,cap,hc (by omega) h6,h7.keep (by omega) fun b hb hl=>?_⟩
  rw [hoth b (by omega) (by omega),hb2.block b (by omega),Below.heap_alloc _ _ _ hl]
set_option maxHeartbeats 800000 in
set_option maxRecDepth 100000 in
theorem fresh_any (n:Nat):∀ (l:PL) (a:Option Addr) (cap:Nat) (w:World),l.size < n→l.size≤1000000→Lies w a cap l →
  Calls Tryz.prog 143 #[.slice a l.len cap] w (Fresh w l):=by
 induction n with
 | zero=>intro _ _ _ _ h;omega
 | succ n ih =>
  intro l a cap w hn hsz hl
  have HL:=Lib.hid hl;have IH:=Lib.hid ih;clear hl ih
  have hle:=HL.out.le
  cases hc:l with
  | nil =>
   subst hc
   go_enter Tryz.func143,Tryz.ntmps143
   go_wp2
   go_ret
   exact ⟨none,0,rfl,Below.refl _ _,fun _ _ _=>⟨Nat.le_refl _,Nat.zero_le _,.inl rfl⟩,fun h=>absurd rfl h⟩
  | cons k0 q0 t0 o0 f0 r0 =>
   have hpos:0 < l.len:=by rw [hc];simp [PL.len]
   rw [← hc]
   have HC:=Lib.hid hc
   clear hc
   have hln:l.len≤1000000:=by have:=len_size l;omega
   obtain ⟨row,hrow,hmk⟩:=make_parts l.len hln
   have h0:((l.len:Int) == 0) = false:=by simp;omega
   have h0':(l.len == 0) = false:=by simp;omega
   have HROW:=Lib.hid hrow;clear hrow
   go_enter Tryz.func143,Tryz.ntmps143
   go_wp2
   go_loopw [14] (fun i wr=>∃ k:Nat,k≤l.len∧i = .int .i64 k∧Below w.heap.size w wr∧Copied wr w.heap.size k l∧∃ rw':Array Value,rw'.size = l.len * 5∧wr.heap[w.heap.size]? = some (.cells rw' 125 (0,0))) (fun i wr=>l.len - (intOf i).toNat)
   case atStart=>exact ⟨0,Nat.zero_le _,rfl,bel1 _ _,fun _ _ _ _ _ _ _ h=>by omega,row,HROW.out,heap_alloc_new _ _⟩
   case round =>
    obtain ⟨k,hk,rfl,hb,hcop,row',hrow',hrb⟩:=hrel
    have HW:=Lib.hid hb;have HCO:=Lib.hid hcop;have HRS:=Lib.hid hrow';have HRB:=Lib.hid hrb;clear hb hcop hrow' hrb hmk
    by_cases hlt:k < l.len
    ·obtain ⟨kk,q,t,o,f,r,hd⟩:=PL.drop_at hlt
     obtain ⟨b1,p1,rfl,hb1,c10,c11,c12,c13,ht,ho,a1,ca1,c14,hl1⟩:=(HL.out.below HW.out).get hd
     have hsf:f.size < l.size:=by
      have:=PL.drop_size k l
      rw [hd] at this
      simp only [PL.size] at this
      omega
     have HD:=Lib.hid hd;have HL1:=Lib.hid hl1;clear hd hl1
     go_wp2_with fail
     refine (IH.out f a1 ca1 _ (by omega) (by omega) (HL1.out.below (bel1 wr _))).mono ?_
     rintro e w2 ⟨a2,ca2,rfl,hb2,hnew,_⟩
     have hNp:w2.heap[wr.heap.size]? = some (.cells #[.int .i64 kk,.bool q,.string t,.string o,.slice a1 f.len ca1] 125 (0,0)):=(hb2.block _ (by simp)).trans (heap_alloc_new _ _)
     have hBl:w.heap.size < wr.heap.size:=by have:=HRB.out;exact (Array.getElem?_eq_some_iff.1 this).1
     have hRw:w2.heap[w.heap.size]? = some (.cells row' 125 (0,0)):=((hb2.block _ (by simp;omega)).trans (Below.heap_alloc _ _ _ hBl)).trans HRB.out
     have p0:=zc0 hNp
     have p1':w2.cell? ⟨wr.heap.size,1,none⟩ = some (.bool q):=Lib.cell_of_heap hNp 1
     have p2:=zc2 hNp
     have p3:=zc3 hNp
     have p4:=zc4 hNp
     have pf:=zf 4 hNp
     have row5:∀ i,i < 5→∃ x,w2.cell? ⟨w.heap.size,k * 5 + i,none⟩ = some x:=fun i hi=>⟨row'[k * 5 + i]'(by rw [HRS.out];omega),(Lib.cell_of_heap hRw _).trans (by simp)⟩
     obtain ⟨x0,e0⟩:=row5 0 (by omega)
     obtain ⟨x1,e1⟩:=row5 1 (by omega)
     obtain ⟨x2,e2⟩:=row5 2 (by omega)
     obtain ⟨x3,e3⟩:=row5 3 (by omega)
     obtain ⟨x4,e4⟩:=row5 4 (by omega)
     rw [Nat.add_zero] at e0
     have rf:∀ i,w2.frozen? ⟨w.heap.size,i,none⟩ = false:=fun i=>frozen_of_row _ _ _ _ _ hRw
     have f0:=rf (k * 5)
     have f1:=rf (k * 5 + 1)
     have f2:=rf (k * 5 + 2)
     have f3:=rf (k * 5 + 3)
     have f4:=rf (k * 5 + 4)
     have hne:(w.heap.size == wr.heap.size) = false:=by simp;omega
     have hne2:(wr.heap.size == w.heap.size) = false:=by simp;omega
     have hne3:¬ (w.heap.size = wr.heap.size):=by omega
     have hne4:¬ (wr.heap.size = w.heap.size):=by omega
     have HB2:=Lib.hid hb2;have HNEW:=Lib.hid hnew;have HNP:=Lib.hid hNp;have HRW:=Lib.hid hRw
     clear hb2 hnew hNp hRw row5 rf
     go_wp2_with fail
     obtain ⟨W,hW,hWb,hWc,hWr⟩:=copied_step (v:=.slice a2 f.len ca2) HW.out hBl HCO.out HRB.out HRS.out hlt HD.out ht ho HB2.out HNEW.out
     go_roundw
     case rel=>exact ⟨k + 1,by omega,by go_num,by rw [hW];exact hWb,by rw [hW];exact hWc,by rw [hW];exact hWr⟩
     case measure=>simp [intOf];omega
    ·obtain rfl:k = l.len:=by omega
     go_wp2
     go_ret
     have hcp:=HCO.out
     refine ⟨some ⟨w.heap.size,0,none⟩,l.len,rfl,HW.out,?_,fun _=>⟨rfl,hcp,row',HRB.out⟩⟩
     intro w2 hs hk
     have:=hcp.keep hs hk
     exact ⟨Nat.le_refl _,by unfold R;omega,.inr ⟨_,_,rfl,this.at⟩⟩
end Sp
end Go.Proofs.YtoklgmbpgnimcaaGreatDoor
