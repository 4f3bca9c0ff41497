/- Parts of words, as they lie in memory: a plain inductive datum; how an argument's reading becomes one; that they lie there still when the world goes on above. -/
import Derived.OpenShut
import Derived.Test.YtjmpfihopeohbaaGreatDoorClsN
import Derived.Lib.QuietBelow
set_option maxHeartbeats 1000000
set_option maxRecDepth 100000
namespace Go.Proofs.YtjmpfihopeohbaaGreatDoor
open Go.RowKit Go.WideShapes Go.ChangeShapes
namespace Pt
theorem hbytes:Tryz.prog.bytesOf 75 = 72:=by kernel_rfl
theorem hcI:Tryz.prog.cellsOf 3 = 1:=by kernel_rfl
theorem hcB:Tryz.prog.cellsOf 4 = 1:=by kernel_rfl
theorem hcS:Tryz.prog.cellsOf 9 = 1:=by kernel_rfl
theorem hcL:Tryz.prog.cellsOf 38 = 1:=by kernel_rfl
theorem hcells:Tryz.prog.cellsOf 75 = 5:=by kernel_rfl
inductive PL where
 | nil
 | cons (k:Int) (q:Bool) (t o:ByteArray) (of rest:PL)
namespace PL
def len:PL→Nat
 | nil=>0
 | cons _ _ _ _ _ r=>r.len + 1
def size:PL→Nat
 | nil=>0
 | cons _ _ _ _ f r=>f.size + r.size + 1
def drop:Nat→PL→PL
 | 0,l=>l
 | _ + 1,nil=>nil
 | n + 1,cons _ _ _ _ _ r=>drop n r
theorem drop_len:∀ (n:Nat) (l:PL),(drop n l).len = l.len - n
 | 0,_=>rfl
 | n + 1,nil=>by simp [drop,len]
 | n + 1,cons _ _ _ _ _ r=>by simp [drop,len,drop_len n r]
theorem drop_size:∀ (n:Nat) (l:PL),(drop n l).size≤l.size
 | 0,_=>Nat.le_refl _
 | n + 1,nil=>Nat.le_refl _
 | n + 1,cons _ _ _ _ _ r=>by have:=drop_size n r;simp only [drop,size];omega
theorem drop_succ:∀ {n:Nat} {l r f:PL} {k:Int} {q:Bool} {t o:ByteArray},drop n l = cons k q t o f r→drop (n + 1) l = r
 | 0,_,_,_,_,_,_,_,h=>by simp only [drop] at h;subst h;rfl
 | n + 1,nil,_,_,_,_,_,_,h=>by simp [drop] at h
 | n + 1,cons _ _ _ _ _ _,_,_,_,_,_,_,h=>by simp only [drop] at h ⊢;exact drop_succ h
theorem drop_at:∀ {n:Nat} {l:PL},n < l.len→∃ k q t o f r,drop n l = cons k q t o f r
 | 0,cons k q t o f r,_=>⟨k,q,t,o,f,r,rfl⟩
 | n + 1,cons _ _ _ _ _ r,h=>by simp only [len] at h;exact drop_at (n:=n) (l:=r) (by omega)
theorem drop_end {n:Nat} {l:PL} (h:l.len≤n):drop n l = nil:=by
 have:=drop_len n l;cases hd:drop n l with
 | nil=>rfl
 | cons=>rw [hd] at this;simp only [len] at this;omega
end PL
def R:Nat:=140737488351232
def At (w:World) (b:Nat):Nat→PL→Prop
 | _,.nil=>True
 | o,.cons k q t p f r=>(w.cell? ⟨b,o,none⟩ = some (.int .i64 k)∧w.cell? ⟨b,o + 1,none⟩ = some (.bool q)∧w.cell? ⟨b,o + 2,none⟩ = some (.string t)∧w.cell? ⟨b,o + 3,none⟩ = some (.string p)∧t.size≤R∧p.size≤R) ∧
   (∃ a cap,w.cell? ⟨b,o + 4,none⟩ = some (.slice a f.len cap)∧f.len≤cap∧f.len≤R∧(f = .nil∨∃ b' o',a = some ⟨b',o',none⟩∧At w b' o' f))∧At w b (o + 5) r
def Lies (w:World) (a:Option Addr) (cap:Nat) (l:PL):Prop :=
 l.len≤cap∧l.len≤R∧(l = .nil∨∃ b o,a = some ⟨b,o,none⟩∧At w b o l)
theorem Lies.le {w:World} {a:Option Addr} {cap:Nat} {l:PL} (h:Lies w a cap l):l.len≤140737488351232:=h.2.1
theorem At.below {w w':World} (hb:Below w.heap.size w w'):∀ {l:PL} {b o:Nat},At w b o l→At w' b o l
 | .nil,_,_,_=>trivial
 | .cons _ _ _ _ f r,b,o,⟨⟨h0,h1,h2,h3,h4,h5⟩,⟨a,cap,h6,h7,h8,h9⟩,hr⟩=>by
  have hlt:=World.block_lt_of_cell? _ _ h0;have hc:∀ {j v},w.cell? ⟨b,j,none⟩ = some v→w'.cell? ⟨b,j,none⟩ = some v:=fun {j v} h=>(hb.cell (p:=⟨b,j,none⟩) hlt).trans h;refine ⟨⟨hc h0,hc h1,hc h2,hc h3,h4,h5⟩,⟨a,cap,hc h6,h7,h8,?_⟩,At.below hb hr⟩;rcases h9 with h9 | ⟨b',o',ha,h9⟩
  ·exact .inl h9
  ·exact .inr ⟨b',o',ha,At.below hb h9⟩
theorem Lies.below {w w':World} {a:Option Addr} {cap:Nat} {l:PL} (h:Lies w a cap l) (hb:Below w.heap.size w w'):Lies w' a cap l:=by
 obtain ⟨h1,h2,h3⟩:=h;refine ⟨h1,h2,?_⟩;rcases h3 with h3 | ⟨b,o,ha,h3⟩
 ·exact .inl h3
 ·exact .inr ⟨b,o,ha,At.below hb h3⟩
theorem At.drop {w:World} {b:Nat}:∀ {n:Nat} {l:PL} {o:Nat},At w b o l→At w b (o + n * 5) (l.drop n)
 | 0,_,o,h=>by simpa [PL.drop] using h
 | n + 1,.nil,_,_=>trivial
 | n + 1,.cons _ _ _ _ _ r,o,h=>by
  have:=At.drop (n:=n) h.2.2;simp only [PL.drop];rwa [show o + (n + 1) * 5 = o + 5 + n * 5 by omega]
theorem Lies.get {w:World} {a:Option Addr} {cap i:Nat} {l f r:PL} {k:Int} {q:Bool} {t p:ByteArray} (h:Lies w a cap l) (hd:l.drop i = .cons k q t p f r) :
  ∃ b o,a = some ⟨b,o,none⟩∧b < w.heap.size∧w.cell? ⟨b,o + i * 5,none⟩ = some (.int .i64 k)∧w.cell? ⟨b,o + i * 5 + 1,none⟩ = some (.bool q)∧w.cell? ⟨b,o + i * 5 + 2,none⟩ = some (.string t)∧w.cell? ⟨b,o + i * 5 + 3,none⟩ = some (.string p)∧t.size≤R∧p.size≤R ∧
   ∃ a' cap',w.cell? ⟨b,o + i * 5 + 4,none⟩ = some (.slice a' f.len cap')∧Lies w a' cap' f:=by
 obtain ⟨_,_,h3⟩:=h;rcases h3 with rfl | ⟨b,o,ha,h3⟩
 ·cases i <;> simp [PL.drop] at hd
 ·have:=At.drop (n:=i) h3;rw [hd] at this;obtain ⟨⟨h0,h1,h2,h3,h4,h5⟩,⟨a',cap',h6,h7,h8,h9⟩,_⟩:=this;exact ⟨b,o,ha,World.block_lt_of_cell? _ _ h0,h0,h1,h2,h3,h4,h5,a',cap',h6,h7,h8,h9⟩
section
variable {H:Type} {enc:TypeId × Value→H} {w:World} {base:Nat} {held:Bool}
theorem weights_all {e:TypeId}:∀ {l:List (DataW H)} {d:DataW H},d ∈ l→∀ n ∈ d.weights Tryz.prog e,n ∈ DataW.weightsAll Tryz.prog e l
 | x :: l,d,h,n,hn=>by
  rw [DataW.weightsAll,List.mem_append];rcases List.mem_cons.1 h with rfl | h
  ·exact .inl hn
  ·exact .inr (weights_all h n hn)
theorem open_pl {ty:TypeId} (hty:Tryz.prog.underlying ty = some (.slice 75)):∀ (fuel:Nat) (cs:List Value) (x:DataW H × List MemPlace),DataW.trod enc Tryz.prog w base (fun _=>true) held fuel ty cs = some x →
  (∀ n ∈ x.1.weights Tryz.prog ty,n≤R)→∃ a cap l,cs = [.slice a (PL.len l) cap]∧Lies w a cap l:=by
 have hst:∀ (ty:TypeId),Tryz.prog.underlying ty = some (.slice 75)→∀ (fuel:Nat) (cs:List Value) (x:DataW H × List MemPlace),DataW.trod enc Tryz.prog w base (fun _=>true) held fuel ty cs = some x →
  (∀ n ∈ x.1.weights Tryz.prog ty,n≤R)→∃ a cap l,cs = [.slice a (PL.len l) cap]∧Lies w a cap l:=by
  intro ty hty fuel
  induction fuel using Nat.strongRecOn generalizing ty with
  | _ fuel ih =>
   intro cs x h hR;rcases DataW.trod_slice hty h with ⟨rfl,rfl⟩ | ⟨a,len,cap,elems,rest,n,rfl,rfl,rfl,hb,hl,hm,hlen,hel,hsp,hns⟩
   ·exact ⟨none,0,.nil,rfl,Nat.le_refl _,Nat.zero_le _,.inl rfl⟩
   ·obtain ⟨b,off,spot⟩:=a;have hcap:cap≤R:=by
     have h1:=hR ((elems.length + rest.length) * Tryz.prog.bytesOf 75) (by simp [DataW.weights,hty]);rw [hbytes] at h1;have:=(hsp rfl).1;omega
    have hsp0:len = 0∨spot = none:=by
     rcases Nat.eq_zero_or_pos len with h0 | h0
     ·exact .inl h0
     ·right;have he:=hel 0 h0;rw [List.getElem?_eq_getElem (by omega)] at he;obtain ⟨cs',hcs,_⟩:=Option.bind_eq_some_iff.1 he;rw [hcells] at hcs;obtain ⟨_,hl5,hcell⟩:=World.cells?_some hcs;have h1:=hcell 0 (by omega);rw [List.getElem?_eq_getElem (by omega)] at h1;simpa [Addr.add] using World.cell?_spot h1
    have build:∀ j,j≤len→∃ l:PL,l.len = j∧(j = 0∨spot = none∧At w b (off + (len - j) * 5) l):=by
     intro j
     induction j with
     | zero=>exact fun _=>⟨.nil,rfl,.inl rfl⟩
     | succ j ihj =>
      intro hj;have hoff:off + (len - (j + 1)) * 5 + 5 = off + (len - j) * 5:=by clear ih ihj hel hsp hns hR;omega
      obtain ⟨r,hr,har⟩:=ihj (by omega);have hi:len - (j + 1) < elems.length:=by omega
      have he:=hel (len - (j + 1)) (by omega);rw [List.getElem?_eq_getElem hi] at he;obtain ⟨cs',hcs,hy⟩:=Option.bind_eq_some_iff.1 he;rw [hcells] at hcs;obtain ⟨_,hl5,hcell⟩:=World.cells?_some hcs;obtain ⟨ys,m,rfl,hy2,_,hys,hf⟩:=DataW.trod_struct Tryz.underlying75 hy
      have hRi:∀ n ∈ (elems[len - (j + 1)]).1.weights Tryz.prog 75,n≤R:=fun n hn=>hR n (by
       simp only [DataW.weights,hty]
       exact List.mem_cons_of_mem _ (List.mem_append_left _ (weights_all (List.mem_map_of_mem (List.getElem_mem hi)) n hn)))
      rw [hy2] at hRi
      match cs',hl5 with
      | [v0,v1,v2,v3,v4],_ =>
       match ys,hys with
       | [y0,y1,y2,y3,y4],_ =>
       have g0:DataW.trod enc Tryz.prog w base (fun _=>true) held m 3 (List.take (Tryz.prog.cellsOf 3) (List.drop 0 [v0,v1,v2,v3,v4])) = some y0:=hf 0 _ rfl;rw [hcI] at g0;have g1:DataW.trod enc Tryz.prog w base (fun _=>true) held m 4 (List.take (Tryz.prog.cellsOf 4) (List.drop 1 [v0,v1,v2,v3,v4])) = some y1:=hf 1 _ rfl;rw [hcB] at g1;have g2:DataW.trod enc Tryz.prog w base (fun _=>true) held m 9 (List.take (Tryz.prog.cellsOf 9) (List.drop 2 [v0,v1,v2,v3,v4])) = some y2:=hf 2 _ rfl;rw [hcS] at g2;have g3:DataW.trod enc Tryz.prog w base (fun _=>true) held m 9 (List.take (Tryz.prog.cellsOf 9) (List.drop 3 [v0,v1,v2,v3,v4])) = some y3:=hf 3 _ rfl;rw [hcS] at g3;have g4:DataW.trod enc Tryz.prog w base (fun _=>true) held m 38 (List.take (Tryz.prog.cellsOf 38) (List.drop 4 [v0,v1,v2,v3,v4])) = some y4:=hf 4 _ rfl;rw [hcL] at g4;simp only [List.drop,List.take] at g0 g1 g2 g3 g4;obtain ⟨z0,e0,_,_⟩:=DataW.trod_int Tryz.underlying3 g0;obtain ⟨z1,e1,_⟩:=DataW.trod_bool Tryz.underlying4 g1;obtain ⟨z2,e2,d2,_⟩:=DataW.trod_string Tryz.underlying9 g2;obtain ⟨z3,e3,d3,_⟩:=DataW.trod_string Tryz.underlying9 g3;subst d2 d3;simp only [DataW.weights,Tryz.underlying75,List.map,DataW.weightsEach,List.mem_append] at hRi;obtain ⟨a4,cap4,l4,e4,h4⟩:=ih m (by omega) 38 Tryz.underlying38 _ _ g4 (fun n hn=>hRi n (by simp [hn]));have r2:z2.size≤R:=hRi z2.data.toList.length (by simp) |> fun h=>by simpa using h
       have r3:z3.size≤R:=hRi z3.data.toList.length (by simp) |> fun h=>by simpa using h
       simp only [List.cons.injEq,and_true] at e0 e1 e2 e3 e4;subst e0 e1 e2 e3 e4;obtain rfl:spot = none:=hsp0.resolve_left (by omega);refine ⟨.cons z0 z1 z2 z3 l4 r,by simp [PL.len,hr],.inr ⟨rfl,?_⟩⟩;have hcell':∀ i v,[Value.int .i64 z0,Value.bool z1,Value.string z2,Value.string z3,Value.slice a4 l4.len cap4][i]? = some v→w.cell? ⟨b,off + (len - (j + 1)) * 5 + i,none⟩ = some v:=fun i v hv=>by
        have hi5:i < 5:=by have:=(List.getElem?_eq_some_iff.1 hv).1;simpa using this
        have:=(hcell i hi5).trans hv;rwa [add_plain,add_plain] at this
       refine ⟨⟨hcell' 0 _ rfl,hcell' 1 _ rfl,hcell' 2 _ rfl,hcell' 3 _ rfl,r2,r3⟩,⟨a4,cap4,hcell' 4 _ rfl,h4.1,h4.2.1,h4.2.2⟩,?_⟩;rcases har with rfl | ⟨_,har⟩
       ·cases r with
        | nil=>trivial
        | cons=>simp [PL.len] at hr
       ·rwa [hoff]
    obtain ⟨l,hll,hat⟩:=build len (Nat.le_refl _);refine ⟨some ⟨b,off,spot⟩,cap,l,by rw [hll],by omega,by omega,?_⟩;rcases hat with h0 | ⟨rfl,hat⟩
    ·left;cases l with
     | nil=>rfl
     | cons=>simp only [PL.len] at hll;omega
    ·exact .inr ⟨b,off,rfl,by simpa using hat⟩
 exact hst ty hty
end
end Pt
end Go.Proofs.YtjmpfihopeohbaaGreatDoor
namespace Go.Proofs.YtjmpfihopeohbaaGreatDoor
namespace Bd
open Pt
def bytes:PL→Nat
 | .nil=>0
 | .cons _ _ t o f r=>1 + t.size + o.size + bytes f + bytes r
def Box (w:World) (c:Nat) (k:Int) (q:Bool) (t o:ByteArray) (a:Option Addr) (n cap:Nat):Prop :=
 w.heap[c]? = some (.cells #[.int .i64 k,.bool q,.string t,.string o,.slice a n cap] 75 (0,0))
theorem Box.cell {w:World} {c:Nat} {k:Int} {q:Bool} {t o:ByteArray} {a:Option Addr} {n cap:Nat} (h:Box w c k q t o a n cap) (j:Nat):w.cell? ⟨c,j,none⟩ = #[Value.int .i64 k,.bool q,.string t,.string o,.slice a n cap][j]? :=
 Lib.cell_of_heap h j
end Bd
end Go.Proofs.YtjmpfihopeohbaaGreatDoor
namespace Go.Proofs.YtjmpfihopeohbaaGreatDoor
open Go.RowKit Go.Sort
namespace Pt
open Cls
def same:PL→PL→Bool
 | .nil,.nil=>true
 | .cons k q t o f r,.cons k' q' t' o' f' r'=>(k == k' && q == q' && t.toList == t'.toList && o.toList == o'.toList && same f f') && same r r'
 | _,_=>false
def pv (k:Int) (q:Bool) (t o:ByteArray) (a:Option Addr) (n cap:Nat):Value:=.agg #[.int .i64 k,.bool q,.string t,.string o,.slice a n cap]
theorem thru {w w1 w2:World} (h1:Below w.heap.size w w1) (h2:Below w1.heap.size w1 w2):Below w.heap.size w w2 :=
 h1.trans (h2.mono h1.size)
theorem bel1 (w:World) (x:Obj):Below w.heap.size w (w.alloc x):=(Below.refl _ w).alloc (Nat.le_refl _) x
theorem bel2 (w:World) (x y:Obj):Below w.heap.size w ((w.alloc x).alloc y):=thru (bel1 w x) (bel1 _ y)
theorem samePart_any (k k':Int) (q q':Bool) (t t' o o':ByteArray) (a a':Option Addr) (cap cap':Nat) (f f':PL) (w:World) (hf:Lies w a cap f) (hf':Lies w a' cap' f')
  (hS:∀ w,Lies w a cap f→Lies w a' cap' f'→Calls Tryz.prog 33 #[.slice a f.len cap,.slice a' f'.len cap'] w fun e w'=>e = .returned (.bool (same f f'))∧Below w.heap.size w w') :
  Calls Tryz.prog 56 #[pv k q t o a f.len cap,pv k' q' t' o' a' f'.len cap'] w fun e w'=>e = .returned (.bool (k == k' && q == q' && t.toList == t'.toList && o.toList == o'.toList && same f f'))∧Below w.heap.size w w':=by
 have HF:=Lib.hid hf;have HF':=Lib.hid hf';clear hf hf';have HB:=bel2 w;have HH:=Lib.hid HB;clear HB;unfold pv;go_enter Tryz.func56,Tryz.ntmps56;go_wp2_with (go_at_call 33;refine (hS _ (HF.out.below (HH.out _ _)) (HF'.out.below (HH.out _ _))).mono ?_;rintro e w' ⟨rfl,hb⟩)
 all_goals go_ret
 all_goals refine ⟨ret_bool ?_,?_⟩
 all_goals first | exact thru (bel2 _ _ _) (by assumption) | exact bel2 _ _ _ | (simp [*])
theorem same_len:∀ {a b:PL},a.len ≠ b.len→same a b = false
 | .nil,.nil,h=>absurd rfl h
 | .nil,.cons ..,_=>rfl
 | .cons ..,.nil,_=>rfl
 | .cons _ _ _ _ _ r,.cons _ _ _ _ _ r',h=>by simp only [same,same_len (a:=r) (b:=r') (by simpa [PL.len] using h),Bool.and_false]
theorem eqf_any (la lb:PL) (a b:Option Addr) (ca cb:Nat) (w:World) (hla:Lies w a ca la) (hlb:Lies w b cb lb)
  (hS:∀ (f g:PL) (a b:Option Addr) (ca cb:Nat) (w:World),f.size < la.size→Lies w a ca f→Lies w b cb g→Calls Tryz.prog 33 #[.slice a f.len ca,.slice b g.len cb] w fun e w'=>e = .returned (.bool (same f g))∧Below w.heap.size w w') :
  Calls Tryz.prog 55 #[.slice a la.len ca,.slice b lb.len cb,.func (.func 56) #[] #[]] w fun e w'=>e = .returned (.bool (same la lb))∧Below w.heap.size w w':=by
 have HA:=Lib.hid hla;have HB:=Lib.hid hlb;have HS:=Lib.hid hS;clear hla hlb hS
 by_cases hl:la.len = lb.len
 ·have hl':((la.len:Int) != (lb.len:Int)) = false:=by simp [hl]
  have HL:=Lib.hid hl;clear hl;have hle:=HA.out.le;go_enter Tryz.func55,Tryz.ntmps55;go_wp2
  go_loopw [17] (fun i wr=>∃ k:Nat,k≤la.len∧i = .int .i64 k∧same la lb = same (la.drop k) (lb.drop k)∧Below w.heap.size w wr) (fun i wr=>la.len - (intOf i).toNat)
  case atStart=>exact ⟨0,Nat.zero_le _,rfl,rfl,Below.refl _ _⟩
  case round =>
   obtain ⟨k,hk,rfl,hr,hbw⟩:=hrel;have HR:=Lib.hid hr;have HW:=Lib.hid hbw;clear hr hbw
   by_cases hlt:k < la.len
   ·obtain ⟨k1,q1,t1,o1,f1,r1,hd1⟩:=PL.drop_at hlt;obtain ⟨k2,q2,t2,o2,f2,r2,hd2⟩:=PL.drop_at (l:=lb) (n:=k) (by have:=HL.out;omega);have hlt2:k < lb.len:=by have:=HL.out;omega
    obtain ⟨b1,p1,rfl,hb1,c10,c11,c12,c13,_,_,a1,ca1,c14,hl1⟩:=(HA.out.below HW.out).get hd1;obtain ⟨b2,p2,rfl,hb2,c20,c21,c22,c23,_,_,a2,ca2,c24,hl2⟩:=(HB.out.below HW.out).get hd2;have hsz:f1.size < la.size:=by
     have:=PL.drop_size k la;rw [hd1] at this;simp only [PL.size] at this;omega
    have hC:=samePart_any k1 k2 q1 q2 t1 t2 o1 o2 a1 a2 ca1 ca2 f1 f2 _ (hl1.below (bel2 wr (.cells #[.int .i64 k1,.bool q1,.string t1,.string o1,.slice a1 f1.len ca1] 75) (.cells #[.int .i64 k2,.bool q2,.string t2,.string o2,.slice a2 f2.len ca2] 75)))
     (hl2.below (bel2 wr _ _)) (fun w h1 h2=>HS.out f1 f2 a1 a2 ca1 ca2 w hsz h1 h2)
    have hstep:same la lb = ((k1 == k2 && q1 == q2 && t1.toList == t2.toList && o1.toList == o2.toList && same f1 f2) && same r1 r2):=by rw [HR.out,hd1,hd2];rfl
    have hn1:=PL.drop_succ hd1;have hn2:=PL.drop_succ hd2;generalize (k1 == k2 && q1 == q2 && t1.toList == t2.toList && o1.toList == o2.toList && same f1 f2) = B at hC hstep;have HC:=Lib.hid hC;have HT:=Lib.hid hstep;have HN1:=Lib.hid hn1;have HN2:=Lib.hid hn2;clear hd1 hd2 hl1 hl2 hC hstep hn1 hn2;cases B
    ·go_wp2_with (go_at_call 56;refine (HC.out).mono ?_;rintro e w' ⟨rfl,hb⟩);go_ret;exact ⟨ret_bool (by rw [HT.out];rfl),thru HW.out (thru (bel2 _ _ _) (by assumption))⟩
    ·go_wp2_with (go_at_call 56;refine (HC.out).mono ?_;rintro e w' ⟨rfl,hb⟩);go_roundw
     case rel=>exact ⟨k + 1,by omega,by go_num,by rw [HT.out,HN1.out,HN2.out];rfl,thru HW.out (thru (bel2 _ _ _) (by assumption))⟩
     case measure=>simp [intOf];omega
   ·obtain rfl:k = la.len:=by omega
    go_wp2;go_ret;exact ⟨ret_bool (by rw [HR.out,PL.drop_end (Nat.le_refl _),PL.drop_end (by rw [HL.out];exact Nat.le_refl _)];rfl),HW.out⟩
 ·have hl':((la.len:Int) != (lb.len:Int)) = true:=by simp;omega
  have HL:=Lib.hid hl;clear hl;go_enter Tryz.func55,Tryz.ntmps55;go_wp2_with fail;go_ret;exact ⟨ret_bool (same_len HL.out).symm,Below.refl _ _⟩
theorem same_any (n:Nat):∀ (la lb:PL) (a b:Option Addr) (ca cb:Nat) (w:World),la.size < n→Lies w a ca la→Lies w b cb lb →
  Calls Tryz.prog 33 #[.slice a la.len ca,.slice b lb.len cb] w fun e w'=>e = .returned (.bool (same la lb))∧Below w.heap.size w w':=by
 induction n with
 | zero=>intro _ _ _ _ _ _ _ h;omega
 | succ n ih =>
  intro la lb a b ca cb w hn hla hlb;have HE:=Lib.hid (eqf_any la lb a b ca cb w hla hlb (fun f g a b ca cb w h=>ih f g a b ca cb w (by omega)));clear ih hla hlb;go_enter Tryz.func33,Tryz.ntmps33;go_wp2_with (go_at_call 55;refine (HE.out).mono ?_;rintro e w' ⟨rfl,hb⟩);go_ret;exact ⟨rfl,by assumption⟩
end Pt
end Go.Proofs.YtjmpfihopeohbaaGreatDoor
namespace Go.Proofs.YtjmpfihopeohbaaGreatDoor
open Go.RowKit Go.Sort
namespace Pt
open Cls
namespace PL
def app:PL→PL→PL
 | nil,m=>m
 | cons k q t o f r,m=>cons k q t o f (app r m)
theorem app_len:∀ (l m:PL),(app l m).len = l.len + m.len
 | nil,m=>by simp [app,len]
 | cons _ _ _ _ _ r,m=>by simp only [app,len,app_len r m];omega
theorem app_nil:∀ l:PL,app l nil = l
 | nil=>rfl
 | cons _ _ _ _ _ r=>by simp only [app,app_nil r]
theorem app_assoc:∀ l m n:PL,app (app l m) n = app l (app m n)
 | nil,_,_=>rfl
 | cons _ _ _ _ _ r,m,n=>by simp only [app,app_assoc r m n]
end PL
def CellsP (w:World):PL→List Value→Prop
 | .nil,xs=>xs = []
 | .cons k q t o f r,xs=>∃ a cap ys,xs = .int .i64 k :: .bool q :: .string t :: .string o :: .slice a f.len cap :: ys∧t.size≤R∧o.size≤R∧Lies w a cap f∧CellsP w r ys
theorem CellsP.at {w:World} {b:Nat}:∀ {l:PL} {xs:List Value} {o:Nat},CellsP w l xs→(∀ j u,xs[j]? = some u→w.cell? ⟨b,o + j,none⟩ = some u)→At w b o l
 | .nil,_,_,_,_=>trivial
 | .cons k q t p f r,_,o,⟨a,cap,ys,hx,h1,h2,h3,h⟩,hc=>by
  subst hx;refine ⟨⟨hc 0 _ rfl,hc 1 _ rfl,hc 2 _ rfl,hc 3 _ rfl,h1,h2⟩,⟨a,cap,hc 4 _ rfl,h3.1,h3.2.1,h3.2.2⟩,CellsP.at h fun j u hu=>?_⟩;have:=hc (j + 5) u (by simpa using hu);rwa [show o + (j + 5) = o + 5 + j by omega] at this
theorem lies_own {w:World} {base:Nat} {v:Value} {l:PL} {xs:List Value} (h:w.ownsRow base 75 5 v l.len xs) (hc:CellsP w l xs) (hR:l.len≤R):∃ a cap,v = .slice a l.len cap∧Lies w a cap l:=by
 rcases h.2 with ⟨rfl,hn⟩ | ⟨g,cap,cur,rfl,hb,hg,hcap,_⟩
 ·have:l = .nil:=by
   cases l with
   | nil=>rfl
   | cons=>simp [PL.len] at hn
  subst this;exact ⟨none,0,rfl,Nat.le_refl _,Nat.zero_le _,.inl rfl⟩
 ·refine ⟨_,cap,rfl,hcap,hR,.inr ⟨g,0,rfl,hc.at fun j u hu=>?_⟩⟩;have:=h.cells (g:=g) rfl j u hu;rwa [Go.WideShapes.add_plain] at this
end Pt
end Go.Proofs.YtjmpfihopeohbaaGreatDoor
