/- A copy of parts in memory of its own: plain facts; word.fresh. -/
import Derived.Test.YtckakkeejekibaaGreatDoorRegN
import Derived.Test.YtckakkeejekibaaGreatDoorPtB
set_option maxHeartbeats 800000
set_option maxRecDepth 100000
namespace Go.Proofs.YtckakkeejekibaaGreatDoor
open Go.RowKit Go.Sort
namespace Sp
open j6 Pt
def kV (N:Nat) (w:World) (a:Option Addr) (cap:Nat) (l:PL):Prop :=
 ∀ w2:World,w.heap.size≤w2.heap.size→(∀ b,N≤b→b < w.heap.size→w2.heap[b]? = w.heap[b]?)→gJ w2 a cap l
theorem kV.lies {N:Nat} {w:World} {a:Option Addr} {cap:Nat} {l:PL} (h:kV N w a cap l):gJ w a cap l:=h w (Nat.le_refl _) fun _ _ _=>rfl
theorem kV.keep {N:Nat} {w w':World} {a:Option Addr} {cap:Nat} {l:PL} (h:kV N w a cap l) (hs:w.heap.size≤w'.heap.size) (hk:∀ b,N≤b→b < w.heap.size→w'.heap[b]? = w.heap[b]?):kV N w' a cap l :=
 fun w2 h2 rU=>h w2 (by omega) fun b hb aB=>(rU b hb (by omega)).trans (hk b hb aB)
theorem kV.mono {N N':Nat} {w:World} {a:Option Addr} {cap:Nat} {l:PL} (h:kV N w a cap l) (hN:N'≤N):kV N' w a cap l :=
 fun w2 h2 rU=>h w2 h2 fun b hb aB=>rU b (by omega) aB
def kW (w:World) (B k:Nat) (l:PL):Prop :=
 ∀ (j:Nat) (kk:Int) (q:Bool) (t o:ByteArray) (f r:PL),j < k→l.drop j = .cons kk q t o f r →
  (w.cell? ⟨B,j * 5,none⟩ = some (.int .i64 kk)∧w.cell? ⟨B,j * 5 + 1,none⟩ = some (.bool q)∧w.cell? ⟨B,j * 5 + 2,none⟩ = some (.string t)∧w.cell? ⟨B,j * 5 + 3,none⟩ = some (.string o)∧t.size≤R∧o.size≤R) ∧
  ∃ a cap,w.cell? ⟨B,j * 5 + 4,none⟩ = some (.slice a f.len cap)∧kV (B + 1) w a cap f
theorem kW.tail {w:World} {B:Nat} {l:PL} (h:kW w B l.len l):∀ m,m≤l.len→At w B ((l.len - m) * 5) (l.drop (l.len - m))
 | 0,_=>by rw [Nat.sub_zero,PL.fo (Nat.le_refl _)];trivial
 | m + 1,hm=>by
  obtain ⟨kk,q,t,o,f,r,hd⟩:=PL.drop_at (n:=l.len - (m + 1)) (l:=l) (by omega);obtain ⟨⟨h0,h1,h2,h3,h4,h5⟩,a,cap,h6,h7⟩:=h _ _ _ _ _ _ _ (by omega) hd;rw [hd];refine ⟨⟨h0,h1,h2,h3,h4,h5⟩,⟨a,cap,h6,h7.lies.1,h7.lies.2.1,h7.lies.2.2⟩,?_⟩;have:=kW.tail h m (by omega);rw [← PL.kJ hd,show (l.len - (m + 1)) * 5 + 5 = (l.len - m) * 5 by omega,show l.len - (m + 1) + 1 = l.len - m by omega];exact this
theorem kW.at {w:World} {B:Nat} {l:PL} (h:kW w B l.len l):At w B 0 l:=by
 have:=h.tail l.len (Nat.le_refl _);simpa [PL.drop] using this
theorem kW.keep {w w':World} {B k:Nat} {l:PL} (h:kW w B k l) (hs:w.heap.size≤w'.heap.size) (hk:∀ b,B≤b→b < w.heap.size→w'.heap[b]? = w.heap[b]?):kW w' B k l:=by
 intro j kk q t o f r hj hd;obtain ⟨⟨h0,h1,h2,h3,h4,h5⟩,a,cap,h6,h7⟩:=h j kk q t o f r hj hd;have aB:=World.block_lt_of_cell? _ _ h0;have hc:∀ {i v},w.cell? ⟨B,i,none⟩ = some v→w'.cell? ⟨B,i,none⟩ = some v:=fun {i v} h=>(World.cell?_of_block (w:=w) (a:=⟨B,i,none⟩) (hk B (Nat.le_refl _) aB)).trans h;exact ⟨⟨hc h0,hc h1,hc h2,hc h3,h4,h5⟩,a,cap,hc h6,h7.keep hs fun b hb aB=>hk b (by omega) aB⟩
theorem Gb:∀ l:PL,l.len≤l.size
 | .nil=>Nat.le_refl _
 | .cons _ _ _ _ f r=>by have:=Gb r;simp only [PL.len,PL.size];omega
def Yv (w0:World) (l:PL) (e:Ending) (w':World):Prop :=
 ∃ a cap,e = .returned (.slice a l.len cap)∧Below w0.heap.size w0 w'∧kV w0.heap.size w' a cap l ∧
  (l ≠ .nil→a = some ⟨w0.heap.size,0,none⟩∧kW w' w0.heap.size l.len l∧∃ row,w'.heap[w0.heap.size]? = some (.cells row 75 (0,0)))
theorem vG:(Tryz.prog.info? 75).map (fun i=>(i.zero,i.size,i.bytes)) = some (some (.agg #[.int .i64 0,.bool false,.string ⟨#[]⟩,.string ⟨#[]⟩,.slice none 0 0]),5,72):=by kernel_rfl
theorem Ju (n:Nat) (hn:n≤1000000):∃ row:Array Value,row.size = n * 5∧∀ w:World,(Instr.makeSlice 38 (.int .i64 (n:Int)) (.int .i64 (n:Int))).run Tryz.prog w = .ok (.slice (some ⟨w.heap.size,0,none⟩) n n) (w.alloc (.cells row 75)):=by
 obtain ⟨i,hi,hzz⟩:=Option.map_eq_some_iff.1 vG;simp only [Prod.mk.injEq] at hzz;obtain ⟨hz,hs,hb⟩:=hzz;refine ⟨madeCells (Value.agg #[.int .i64 0,.bool false,.string ⟨#[]⟩,.string ⟨#[]⟩,.slice none 0 0]).cells (n * 5),size_madeCells _ _,fun w=>?_⟩;have hr:=run_make (P:=Tryz.prog) w 38 75 i _ Tryz.underlying38 hi hz .i64 .i64 n n (by omega) (Int.le_refl _) (by rw [hb];omega) (by omega);simp only [Int.toNat_natCast,hs] at hr;exact hr
theorem Gc {w wr w2:World} {k:Nat} {l f r:PL} {kk:Int} {q:Bool} {t o:ByteArray} {row:Array Value} {X:Obj} {a2:Option Addr} {sZ:Nat} {v:Value}
  (hw:Below w.heap.size w wr) (hB:w.heap.size < wr.heap.size) (hco:kW wr w.heap.size k l) (jG:wr.heap[w.heap.size]? = some (.cells row 75 (0,0))) (au:row.size = l.len * 5) (aB:k < l.len)
  (hd:l.drop k = .cons kk q t o f r) (ht:t.size≤R) (ho:o.size≤R) (d9:Below (wr.alloc X).heap.size (wr.alloc X) w2) (lK:kV (wr.alloc X).heap.size w2 a2 sZ f) :
  ∃ W:World,((((((w2.setCell ⟨wr.heap.size,4,none⟩ v).setCell ⟨w.heap.size,k * 5,none⟩ (.int .i64 kk)).setCell ⟨w.heap.size,k * 5 + 1,none⟩ (.bool q)).setCell ⟨w.heap.size,k * 5 + 2,none⟩ (.string t)).setCell ⟨w.heap.size,k * 5 + 3,none⟩ (.string o)).setCell ⟨w.heap.size,k * 5 + 4,none⟩ (.slice a2 f.len sZ)) = W ∧
   Below w.heap.size w W∧kW W w.heap.size (k + 1) l∧∃ rw':Array Value,rw'.size = l.len * 5∧W.heap[w.heap.size]? = some (.cells rw' 75 (0,0)):=by
 refine ⟨_,rfl,?_⟩;have hsA:(wr.alloc X).heap.size = wr.heap.size + 1:=by simp
 have FR:=d9.size;rw [hsA] at d9 lK FR;have MC:w2.heap[w.heap.size]? = some (.cells row 75 (0,0)):=((d9.block _ (by omega)).trans (Below.heap_alloc _ _ _ hB)).trans jG;have g0:(w2.setCell ⟨wr.heap.size,4,none⟩ v).heap[w.heap.size]? = some (.cells row 75 (0,0)):=(heap_setCell_other w2 _ _ _ (by show w.heap.size ≠ wr.heap.size;omega)).trans MC;have g1:=heap_setCell_same _ _ (k * 5) _ _ (.int .i64 kk) g0;have g2:=heap_setCell_same _ _ (k * 5 + 1) _ _ (.bool q) g1;have g3:=heap_setCell_same _ _ (k * 5 + 2) _ _ (.string t) g2;have g4:=heap_setCell_same _ _ (k * 5 + 3) _ _ (.string o) g3;have g5:=heap_setCell_same _ _ (k * 5 + 4) _ _ (.slice a2 f.len sZ) g4;have Px:∀ b,b ≠ w.heap.size→b ≠ wr.heap.size→((((((w2.setCell ⟨wr.heap.size,4,none⟩ v).setCell ⟨w.heap.size,k * 5,none⟩ (.int .i64 kk)).setCell ⟨w.heap.size,k * 5 + 1,none⟩ (.bool q)).setCell ⟨w.heap.size,k * 5 + 2,none⟩ (.string t)).setCell ⟨w.heap.size,k * 5 + 3,none⟩ (.string o)).setCell ⟨w.heap.size,k * 5 + 4,none⟩ (.slice a2 f.len sZ)).heap[b]? = w2.heap[b]?:=by
  intro b h1 h2;rw [heap_setCell_other _ _ _ _ h1,heap_setCell_other _ _ _ _ h1,heap_setCell_other _ _ _ _ h1,heap_setCell_other _ _ _ _ h1,heap_setCell_other _ _ _ _ h1,heap_setCell_other _ _ _ _ h2]
 have bU:((((((w2.setCell ⟨wr.heap.size,4,none⟩ v).setCell ⟨w.heap.size,k * 5,none⟩ (.int .i64 kk)).setCell ⟨w.heap.size,k * 5 + 1,none⟩ (.bool q)).setCell ⟨w.heap.size,k * 5 + 2,none⟩ (.string t)).setCell ⟨w.heap.size,k * 5 + 3,none⟩ (.string o)).setCell ⟨w.heap.size,k * 5 + 4,none⟩ (.slice a2 f.len sZ)).heap.size = w2.heap.size:=by simp
 have RQ:Below w.heap.size w ((((((w2.setCell ⟨wr.heap.size,4,none⟩ v).setCell ⟨w.heap.size,k * 5,none⟩ (.int .i64 kk)).setCell ⟨w.heap.size,k * 5 + 1,none⟩ (.bool q)).setCell ⟨w.heap.size,k * 5 + 2,none⟩ (.string t)).setCell ⟨w.heap.size,k * 5 + 3,none⟩ (.string o)).setCell ⟨w.heap.size,k * 5 + 4,none⟩ (.slice a2 f.len sZ)) :=
  ((((((((hw.alloc (by omega) X).trans (d9.mono (by omega))).setCell (by show w.heap.size≤wr.heap.size;omega) _).setCell (Nat.le_refl _) _).setCell (Nat.le_refl _) _).setCell (Nat.le_refl _) _).setCell (Nat.le_refl _) _).setCell (Nat.le_refl _) _)
 generalize ((((((w2.setCell ⟨wr.heap.size,4,none⟩ v).setCell ⟨w.heap.size,k * 5,none⟩ (.int .i64 kk)).setCell ⟨w.heap.size,k * 5 + 1,none⟩ (.bool q)).setCell ⟨w.heap.size,k * 5 + 2,none⟩ (.string t)).setCell ⟨w.heap.size,k * 5 + 3,none⟩ (.string o)).setCell ⟨w.heap.size,k * 5 + 4,none⟩ (.slice a2 f.len sZ)) = W at *
 refine ⟨RQ,?_,_,by simpa using au,g5⟩;intro j k' q' t' o' f' r' hj hd'
 by_cases Rf:j = k
 ·subst Rf;rw [hd] at hd';cases hd';refine ⟨⟨?_,?_,?_,?_,ht,ho⟩,a2,sZ,?_,?_⟩
  all_goals first | (rw [kz g5];simp [Array.getElem?_setIfInBounds];try omega) | skip
  exact (lK.keep (by omega) fun b h1 h2=>Px b (by omega) (by omega)).mono (by omega)
 ·obtain ⟨⟨h0,h1,h2,h3,h4,h5⟩,a,cap,h6,h7⟩:=hco j k' q' t' o' f' r' (by omega) hd';have hc:∀ {i v},i < k * 5→wr.cell? ⟨w.heap.size,i,none⟩ = some v→W.cell? ⟨w.heap.size,i,none⟩ = some v:=by
   intro i v hi h;rw [kz jG] at h;rw [kz g5];simp only [Array.getElem?_setIfInBounds];rw [if_neg (by omega),if_neg (by omega),if_neg (by omega),if_neg (by omega),if_neg (by omega)];exact h
  refine ⟨⟨hc (by omega) h0,hc (by omega) h1,hc (by omega) h2,hc (by omega) h3,h4,h5⟩,a,cap,hc (by omega) h6,h7.keep (by omega) fun b hb hl=>?_⟩;rw [Px b (by omega) (by omega),d9.block b (by omega),Below.heap_alloc _ _ _ hl]
theorem nL (n:Nat):∀ (l:PL) (a:Option Addr) (cap:Nat) (w:World),l.size < n→l.size≤1000000→gJ w a cap l →
  Calls Tryz.prog 160 #[.slice a l.len cap] w (Yv w l):=by
 induction n with
 | zero=>intro _ _ _ _ h;omega
 | succ n ih =>
  intro l a cap w hn bU hl;have HL:=kq hl;have IH:=kq ih;clear hl ih;have hle:=HL.out.le;cases hc:l with
  | nil =>
   subst hc;go_enter Tryz.func160,Tryz.ntmps160;go_wp2;go_ret;exact ⟨none,0,rfl,Below.refl _ _,fun _ _ _=>⟨Nat.le_refl _,Nat.zero_le _,.inl rfl⟩,fun h=>absurd rfl h⟩
  | cons k0 q0 t0 o0 f0 r0 =>
   have IP:0 < l.len:=by rw [hc];simp [PL.len]
   rw [← hc];have HC:=kq hc;clear hc;have FB:l.len≤1000000:=by have:=Gb l;omega
   obtain ⟨row,au,hmk⟩:=Ju l.len FB;have h0:((l.len:Int) == 0) = false:=by simp;omega
   have h0':(l.len == 0) = false:=by simp;omega
   have aY:=kq au;clear au;go_enter Tryz.func160,Tryz.ntmps160;go_wp2
   go_loopw [14] (fun i wr=>∃ k:Nat,k≤l.len∧i = .int .i64 k∧Below w.heap.size w wr∧kW wr w.heap.size k l∧∃ rw':Array Value,rw'.size = l.len * 5∧wr.heap[w.heap.size]? = some (.cells rw' 75 (0,0))) (fun i wr=>l.len - (intOf i).toNat)
   case atStart=>exact ⟨0,Nat.zero_le _,rfl,ax _ _,fun _ _ _ _ _ _ _ h=>by omega,row,aY.out,heap_alloc_new _ _⟩
   case round =>
    obtain ⟨k,hk,rfl,hb,Bz,row',hrow',jG⟩:=hrel;have HW:=kq hb;have HCO:=kq Bz;have Uz:=kq hrow';have HRB:=kq jG;clear hb Bz hrow' jG hmk
    by_cases aB:k < l.len
    ·obtain ⟨kk,q,t,o,f,r,hd⟩:=PL.drop_at aB;obtain ⟨b1,p1,rfl,aP,qG,tY,wM,wN,ht,ho,a1,lJ,wB,mU⟩:=(HL.out.below HW.out).get hd;have hsf:f.size < l.size:=by
      have:=PL.eX k l;rw [hd] at this;simp only [PL.size] at this;omega
     have HD:=kq hd;have Ur:=kq mU;clear hd mU;go_wp2_with fail;refine (IH.out f a1 lJ _ (by omega) (by omega) (Ur.out.below (ax wr _))).mono ?_;rintro e w2 ⟨a2,sZ,rfl,d9,lK,_⟩;have UB:w2.heap[wr.heap.size]? = some (.cells #[.int .i64 kk,.bool q,.string t,.string o,.slice a1 f.len lJ] 75 (0,0)):=(d9.block _ (by simp)).trans (heap_alloc_new _ _);have hBl:w.heap.size < wr.heap.size:=by have:=HRB.out;exact (Array.getElem?_eq_some_iff.1 this).1
     have hRw:w2.heap[w.heap.size]? = some (.cells row' 75 (0,0)):=((d9.block _ (by simp;omega)).trans (Below.heap_alloc _ _ _ hBl)).trans HRB.out;have p0:=dx UB;have p1':w2.cell? ⟨wr.heap.size,1,none⟩ = some (.bool q):=kz UB 1;have p2:=ed UB;have p3:=fA UB;have p4:=dS UB;have pf:=zf 4 UB;have ML:∀ i,i < 5→∃ x,w2.cell? ⟨w.heap.size,k * 5 + i,none⟩ = some x:=fun i hi=>⟨row'[k * 5 + i]'(by rw [Uz.out];omega),(kz hRw _).trans (by simp)⟩;obtain ⟨x0,e0⟩:=ML 0 (by omega);obtain ⟨x1,e1⟩:=ML 1 (by omega);obtain ⟨x2,e2⟩:=ML 2 (by omega);obtain ⟨x3,e3⟩:=ML 3 (by omega);obtain ⟨x4,e4⟩:=ML 4 (by omega);rw [Nat.add_zero] at e0;have rf:∀ i,w2.frozen? ⟨w.heap.size,i,none⟩ = false:=fun i=>frozen_of_row _ _ _ _ _ hRw;have f0:=rf (k * 5);have f1:=rf (k * 5 + 1);have f2:=rf (k * 5 + 2);have f3:=rf (k * 5 + 3);have f4:=rf (k * 5 + 4);have jD:(w.heap.size == wr.heap.size) = false:=by simp;omega
     have Jd:(wr.heap.size == w.heap.size) = false:=by simp;omega
     have afy:¬ (w.heap.size = wr.heap.size):=by omega
     have afz:¬ (wr.heap.size = w.heap.size):=by omega
     have kR:=kq d9;have uF:=kq lK;have HNP:=kq UB;have VP:=kq hRw;clear d9 lK UB hRw ML rf;go_wp2_with fail;obtain ⟨W,hW,hWb,hWc,hWr⟩:=Gc (v:=.slice a2 f.len sZ) HW.out hBl HCO.out HRB.out Uz.out aB HD.out ht ho kR.out uF.out;go_roundw
     case rel=>exact ⟨k + 1,by omega,by go_num,by rw [hW];exact hWb,by rw [hW];exact hWc,by rw [hW];exact hWr⟩
     case measure=>simp [intOf];omega
    ·obtain rfl:k = l.len:=by omega
     go_wp2;go_ret;have Xc:=HCO.out;refine ⟨some ⟨w.heap.size,0,none⟩,l.len,rfl,HW.out,?_,fun _=>⟨rfl,Xc,row',HRB.out⟩⟩;intro w2 hs hk;have:=Xc.keep hs hk;exact ⟨Nat.le_refl _,by unfold R;omega,.inr ⟨_,_,rfl,this.at⟩⟩
theorem yF (n:Nat) (s:ByteArray):(s.data.toList.take n).length≤s.size:=by rw [List.length_take,iE];omega
def Py (l:List UInt8):Option Nat:=if 0≤Lib.indexByte l 61 then if bV (l.take (Lib.indexByte l 61).toNat) then some (Lib.indexByte l 61).toNat else none else none
def splitP:PL→Option Nat
 | .cons k q t _ _ _=>if k == 1 && !q then Py t.data.toList else none
 | .nil=>none
def restP:PL→Nat→PL
 | .cons k q t o f r,n=>if t.size≤n + 1 then r else .cons k q ⟨(t.data.toList.drop (n + 1)).toArray⟩ o f r
 | .nil,_=>.nil
theorem sw {l:List UInt8} {n:Nat} (h:Py l = some n):Lib.indexByte l 61 = n∧bV (l.take n) = true∧n < l.length:=by
 unfold Py at h;split at h
 ·split at h
  ·rename_i h0 h1;cases h;have he:Lib.indexByte l 61 = ((Lib.indexByte l 61).toNat:Int):=by omega
   refine ⟨he,h1,?_⟩;have:=(Lib.indexByte_some he).1;exact (List.getElem?_eq_some_iff.1 this).1
  ·cases h
 ·cases h
theorem Cg {w:World} {b p cap:Nat} {k:Int} {q:Bool} {t o:ByteArray} {f r:PL} (h:gJ w (some ⟨b,p,none⟩) cap (.cons k q t o f r)):gJ w (some ⟨b,p + 5,none⟩) (cap - 1) r:=by
 obtain ⟨h1,h2,h3⟩:=h;simp only [PL.len] at h1 h2;refine ⟨by omega,by omega,?_⟩;rcases h3 with h3 | ⟨b',o',ha,_,_,h3⟩
 ·cases h3
 ·cases ha;exact .inr ⟨_,_,rfl,h3⟩
theorem Ci {w:World} {a:Option Addr} {r:PL} (h:r.len = 0):gJ w a 0 r:=by
 cases r with
 | nil=>exact ⟨Nat.le_refl _,Nat.zero_le _,.inl rfl⟩
 | cons=>simp [PL.len] at h
theorem Pz {w w2:World} {k:Int} {q:Bool} {t o s:ByteArray} {f r:PL} (h:kW w2 w.heap.size (PL.cons k q t o f r).len (.cons k q t o f r)) (hs:s.size≤R) {row:Array Value} {T:TypeId}
  (au:w2.heap[w.heap.size]? = some (.cells row T (0,0))):kW (w2.setCell ⟨w.heap.size,2,none⟩ (.string s)) w.heap.size (PL.cons k q s o f r).len (.cons k q s o f r):=by
 have g1:=heap_setCell_same _ _ 2 _ _ (.string s) au;have Px:∀ b,b ≠ w.heap.size→(w2.setCell ⟨w.heap.size,2,none⟩ (.string s)).heap[b]? = w2.heap[b]?:=fun b hb=>heap_setCell_other _ _ _ _ hb;have bU:(w2.setCell ⟨w.heap.size,2,none⟩ (.string s)).heap.size = w2.heap.size:=by simp
 generalize w2.setCell ⟨w.heap.size,2,none⟩ (.string s) = W at *
 have hc:∀ {i v},i ≠ 2→w2.cell? ⟨w.heap.size,i,none⟩ = some v→W.cell? ⟨w.heap.size,i,none⟩ = some v:=by
  intro i v hi h;rw [kz au] at h;rw [kz g1];rw [Array.getElem?_setIfInBounds,if_neg (by omega)];exact h
 intro j k' q' t' o' f' r' hj hd;cases j with
 | zero =>
  simp only [PL.drop] at hd;cases hd;obtain ⟨⟨h0,h1,h2,h3,h4,h5⟩,a,cap,h6,h7⟩:=h 0 k q t o f r hj rfl;refine ⟨⟨hc (by omega) h0,hc (by omega) h1,?_,hc (by omega) h3,hs,h5⟩,a,cap,hc (by omega) h6,h7.keep (by omega) fun b hb hl=>Px b (by omega)⟩;rw [kz au] at h2;rw [kz g1];have:2 < row.size:=by
   have:=(Array.getElem?_eq_some_iff.1 h2).1;simpa using this
  simp [Array.getElem?_setIfInBounds,this]
 | succ j =>
  obtain ⟨⟨h0,h1,h2,h3,h4,h5⟩,a,cap,h6,h7⟩:=h (j + 1) k' q' t' o' f' r' hj hd;exact ⟨⟨hc (by omega) h0,hc (by omega) h1,hc (by omega) h2,hc (by omega) h3,h4,h5⟩,a,cap,hc (by omega) h6,h7.keep (by omega) fun b hb hl=>Px b (by omega)⟩
theorem Jv (l:List UInt8):Lib.cut l [61] = if 0≤Lib.indexByte l 61 then (l.take (Lib.indexByte l 61).toNat,l.drop ((Lib.indexByte l 61).toNat + 1),true) else (l,[],false):=by
 unfold Lib.cut;rw [Lib.index_one];rfl
theorem below_drewN (w:World) (n:Nat):Below w.heap.size w (w.drewN n):=by
 exact ⟨rfl,rfl,rfl,Nat.le_refl _,fun _ _=>rfl⟩
theorem Dv (s:ByteArray) (m:Int) (w:World) (hs:s.size≤1000000) (hm:w.cell? ⟨0,0,none⟩ = some (.int .i64 m)) :
  Calls Tryz.prog 159 #[.string s,.string ⟨#[61]⟩] w fun e w'=>e = .returned (.tuple #[.string ⟨(Lib.cut s.data.toList [61]).1.toArray⟩,.string ⟨(Lib.cut s.data.toList [61]).2.1.toArray⟩,.bool (Lib.cut s.data.toList [61]).2.2])∧Below w.heap.size w w' :=
 (Tryz.strings_Cut s ⟨#[61]⟩ m w (by omega) hm).mono fun e w' ⟨he,n,hn⟩=>⟨he,hn ▸ below_drewN w n⟩
theorem Gd (l:PL) (a:Option Addr) (cap:Nat) (m:Int) (w:World) (hl:gJ w a cap l) (bU:l.size≤1000000) (ht:∀ k q t o f r,l = .cons k q t o f r→t.size≤1000000) (hm:w.cell? ⟨0,0,none⟩ = some (.int .i64 m)) (hn:splitP l = none) :
  Calls Tryz.prog 137 #[.slice a l.len cap] w fun e w'=>e = .returned (.tuple #[.string ⟨#[]⟩,.slice none 0 0,.bool false])∧Below w.heap.size w w':=by
 have HM:=kq hm;clear hm;have HL:=kq hl;clear hl;have HN:=kq hn;clear hn;have HT:=kq ht;clear ht;have hle:=HL.out.le;cases l with
 | nil =>
  go_enter Tryz.func137,Tryz.ntmps137;go_wp2
  go_ret3
  exact ⟨rfl,Below.refl _ _⟩
 | cons k q t o f r =>
  obtain ⟨b1,p1,rfl,aP,qG,tY,wM,wN,ht,ho,a1,lJ,wB,mU⟩:=HL.out.get (i:=0) rfl;rw [Nat.zero_mul,Nat.add_zero] at qG tY wM wN wB;have Mm:=HT.out _ _ _ _ _ _ rfl;have hlen:(PL.cons k q t o f r).len = r.len + 1:=rfl;have jD:(((r.len + 1:Nat):Int) == 0) = false:=by simp;omega
  have Jd:((r.len:Int) + 1 == 0) = false:=by simp;omega
  rw [hlen];cases hk:(k == 1) <;> cases q
  all_goals
   have rU:(k != 1) = !(k == 1):=rfl;rw [hk] at rU
  case true.false =>
   have uG:=Dv t m w Mm HM.out;have hN:=HN.out;simp only [splitP,hk,Py] at hN;rw [Jv] at uG;have HK:=kq hk;clear hk hlen hle mU Mm
   by_cases h0:0≤Lib.indexByte t.data.toList 61
   ·rw [if_pos h0] at uG;have hnm:bV (t.data.toList.take (Lib.indexByte t.data.toList 61).toNat) = false:=by
     cases h:bV (t.data.toList.take (Lib.indexByte t.data.toList 61).toNat)
     ·rfl
     ·simp [h0,h] at hN
    have e1:bV (⟨(t.data.toList.take (Lib.indexByte t.data.toList 61).toNat).toArray⟩:ByteArray).data.toList = false:=by simpa using hnm
    have pE:=fun w=>jq ⟨(t.data.toList.take (Lib.indexByte t.data.toList 61).toNat).toArray⟩ w (Nat.le_trans (by show (List.toArray _).size≤_;rw [List.size_toArray];exact yF _ t) (show t.size≤9223372036854775807 by unfold R at ht;omega));rw [e1] at pE;have HC:=kq uG;have KW:=kq pE;clear uG pE hnm hN h0 e1;go_enter Tryz.func137,Tryz.ntmps137
    go_wp2_with (first
     | (go_at_call 159;refine (HC.out).mono ?_;rintro e w1 ⟨rfl,hb⟩;have iR:=kq hb;clear hb)
     | (go_at_call 79;refine (KW.out _).mono ?_;rintro e w' ⟨rfl,rfl⟩))
    go_ret3
    exact ⟨rfl,iR.out⟩
   ·rw [if_neg h0] at uG;have HC:=kq uG;clear uG hN h0;go_enter Tryz.func137,Tryz.ntmps137;go_wp2_with (go_at_call 159;refine (HC.out).mono ?_;rintro e w1 ⟨rfl,hb⟩;have iR:=kq hb;clear hb)
    go_ret3
    exact ⟨rfl,iR.out⟩
  all_goals
   have HK:=kq hk;clear hk hlen hle mU Mm;go_enter Tryz.func137,Tryz.ntmps137;go_wp2
   go_ret3
   exact ⟨rfl,Below.refl _ _⟩
theorem MM (k:Int) (q:Bool) (t o:ByteArray) (f r:PL) (n:Nat) (a:Option Addr) (cap:Nat) (m:Int) (w:World) (hl:gJ w a cap (.cons k q t o f r)) (bU:(PL.cons k q t o f r).size≤1000000) (Mm:t.size≤1000000) (hm:w.cell? ⟨0,0,none⟩ = some (.int .i64 m)) (hn:splitP (.cons k q t o f r) = some n) :
  Calls Tryz.prog 137 #[.slice a (r.len + 1) cap] w fun e w'=>(∃ a' gK,e = .returned (.tuple #[.string ⟨(t.data.toList.take n).toArray⟩,.slice a' (restP (.cons k q t o f r) n).len gK,.bool true])∧gJ w' a' gK (restP (.cons k q t o f r) n))∧Below w.heap.size w w':=by
 obtain ⟨b1,p1,rfl,aP,qG,tY,wM,wN,ht,ho,a1,lJ,wB,mU⟩:=hl.get (i:=0) rfl;rw [Nat.zero_mul,Nat.add_zero] at qG tY wM wN wB;have uh:(k == 1) = true∧q = false∧Py t.data.toList = some n:=by
  simp only [splitP] at hn;split at hn
  ·rename_i h;simp only [Bool.and_eq_true,Bool.not_eq_true'] at h;exact ⟨h.1,h.2,hn⟩
  ·cases hn
 obtain ⟨hk,rfl,he⟩:=uh;have rU:(k != 1) = false:=by simp only [bne,hk];rfl
 obtain ⟨hi,hnm,aB⟩:=sw he;have uG:=Dv t m w Mm hm;rw [Jv,if_pos (by rw [hi];omega),hi,Int.toNat_natCast] at uG;have e1:bV (⟨(t.data.toList.take n).toArray⟩:ByteArray).data.toList = true:=by simpa using hnm
 have pE:=fun w=>jq ⟨(t.data.toList.take n).toArray⟩ w (Nat.le_trans (by show (List.toArray _).size≤_;rw [List.size_toArray];exact yF _ t) (show t.size≤9223372036854775807 by unfold R at ht;omega));rw [e1] at pE;have jD:(((r.len + 1:Nat):Int) == 0) = false:=by simp;omega
 have Jd:((r.len:Int) + 1 == 0) = false:=by simp;omega
 have hle:=hl.le;have MN:r.len≤140737488351232:=by simp only [PL.len] at hle;omega
 have HC:=kq uG;have KW:=kq pE;have HL:=kq hl;have Ur:=kq mU;have HS:=kq bU;have eG:=kq aB;clear uG pE hnm hn he e1 hl mU hm bU hi aB hle
 by_cases hr:t.size≤n + 1
 ·have qO:(List.drop (n + 1) t.data.toList).isEmpty = true:=by
   simp;omega
  have HR:=kq hr;clear hr;go_enter Tryz.func137,Tryz.ntmps137
  go_wp2_with (first
   | (go_at_call 159;refine (HC.out).mono ?_;rintro e w1 ⟨rfl,hb⟩;have iR:=kq hb;clear hb)
   | (go_at_call 79;refine (KW.out _).mono ?_;rintro e w' ⟨rfl,rfl⟩))
  case inl =>
   refine (nL (r.size + 1) r _ _ _ (by omega) (by have:=HS.out;simp only [PL.size] at this;omega) (Ci (by have:=HL.out.1;simp only [PL.len] at this;omega))).mono ?_;rintro e w2 ⟨a2,sZ,rfl,d9,lK,_⟩;have kR:=kq d9;have uF:=kq lK;clear d9 lK;go_wp2
   go_ret3
   have hR:restP (PL.cons k false t o f r) n = r:=if_pos HR.out;rw [hR];exact ⟨⟨a2,sZ,rfl,uF.out.lies⟩,ak iR.out kR.out⟩
  case inr =>
   refine (nL (r.size + 1) r _ _ _ (by omega) (by have:=HS.out;simp only [PL.size] at this;omega) (Cg (HL.out.below iR.out))).mono ?_;rintro e w2 ⟨a2,sZ,rfl,d9,lK,_⟩;have kR:=kq d9;have uF:=kq lK;clear d9 lK;go_wp2
   go_ret3
   have hR:restP (PL.cons k false t o f r) n = r:=if_pos HR.out;rw [hR];exact ⟨⟨a2,sZ,rfl,uF.out.lies⟩,ak iR.out kR.out⟩
 ·have qO:(List.drop (n + 1) t.data.toList).isEmpty = false:=by
   simp;omega
  have HR:=kq hr;clear hr;go_enter Tryz.func137,Tryz.ntmps137
  go_wp2_with (first
   | (go_at_call 159;refine (HC.out).mono ?_;rintro e w1 ⟨rfl,hb⟩;have iR:=kq hb;clear hb)
   | (go_at_call 79;refine (KW.out _).mono ?_;rintro e w' ⟨rfl,rfl⟩))
  refine (nL ((PL.cons k false t o f r).size + 1) (.cons k false t o f r) _ _ _ (by omega) HS.out (HL.out.below iR.out)).mono ?_;rintro e w2 ⟨a2,sZ,he,d9,lK,au⟩;rw [show (PL.cons k false t o f r).len = r.len + 1 from rfl] at he;subst he;obtain ⟨rfl,Bz,row,au⟩:=au (by simp);have hx:w2.cell? ⟨w1.heap.size,2,none⟩ = some (.string t):=(Bz 0 k false t o f r (by simp [PL.len]) rfl).1.2.2.1;have hf:=frozen_of_row _ _ 2 _ _ au;have kR:=kq d9;have uF:=kq lK;have VQ:=kq Bz;have aY:=kq au;clear d9 lK Bz au;go_wp2
  go_ret3
  have hR:restP (PL.cons k false t o f r) n = .cons k false ⟨(t.data.toList.drop (n + 1)).toArray⟩ o f r:=if_neg HR.out;rw [hR];have hs:(⟨(t.data.toList.drop (n + 1)).toArray⟩:ByteArray).size≤R:=by simp only [ByteArray.size,List.size_toArray,List.length_drop];rw [iE];omega
  have Xc:=Pz VQ.out hs aY.out;have Gf:=uF.out.lies;exact ⟨⟨_,sZ,rfl,Gf.1,Gf.2.1,.inr ⟨_,_,rfl,Xc.at⟩⟩,ak iR.out (kR.out.setCell (Nat.le_refl _) _)⟩
end Sp
end Go.Proofs.YtckakkeejekibaaGreatDoor
