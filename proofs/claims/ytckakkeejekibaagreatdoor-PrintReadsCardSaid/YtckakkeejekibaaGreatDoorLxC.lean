/- Parts on their way (lex.parts) and a reader (lex.reader), as they lie in memory. -/
import Derived.Test.YtckakkeejekibaaGreatDoorPtB
import Derived.Test.YtckakkeejekibaaGreatDoorLxA
import Derived.Lib.BufferWrite
import Derived.Test.YtckakkeejekibaaGreatDoorRegN
import Derived.Deep.RegionHeld3
import Derived.Deep.AppendLies
import Derived.Deep.DrawnRows
set_option maxHeartbeats 1600000
set_option maxRecDepth 100000
namespace Go.Proofs.YtckakkeejekibaaGreatDoor
open Go.RowKit Go.Sort
namespace Lx
open j6 Pt
def cu (S:Nat→Prop) (w:World) (a:Option Addr) (cap:Nat) (l:PL):Prop :=
 ∀ w2:World,w.heap.size≤w2.heap.size→(∀ b,S b→b < w.heap.size→w2.heap[b]? = w.heap[b]?)→gJ w2 a cap l
theorem cu.lies {S:Nat→Prop} {w:World} {a:Option Addr} {cap:Nat} {l:PL} (h:cu S w a cap l):gJ w a cap l:=h w (Nat.le_refl _) fun _ _ _=>rfl
theorem cu.keep {S:Nat→Prop} {w w':World} {a:Option Addr} {cap:Nat} {l:PL} (h:cu S w a cap l) (hs:w.heap.size≤w'.heap.size) (hk:∀ b,S b→b < w.heap.size→w'.heap[b]? = w.heap[b]?):cu S w' a cap l :=
 fun w2 h2 rU=>h w2 (by omega) fun b hb aB=>(rU b hb (by omega)).trans (hk b hb aB)
theorem cu.mono {S S':Nat→Prop} {w:World} {a:Option Addr} {cap:Nat} {l:PL} (h:cu S w a cap l) (hS:∀ b,S b→b < w.heap.size→S' b):cu S' w a cap l :=
 fun w2 h2 rU=>h w2 h2 fun b hb aB=>rU b (hS b hb aB) aB
def ic (S:Nat→Prop) (w:World):PL→List Value→Prop
 | .nil,xs=>xs = []
 | .cons k q t o f r,xs=>∃ a cap ys,xs = .int .i64 k :: .bool q :: .string t :: .string o :: .slice a f.len cap :: ys∧t.size≤R∧o.size≤R∧cu S w a cap f∧ic S w r ys
theorem ic.cells {S:Nat→Prop} {w:World}:∀ {l:PL} {xs:List Value},ic S w l xs→wP w l xs
 | .nil,_,h=>h
 | .cons _ _ _ _ _ _,_,⟨a,cap,ys,hx,h1,h2,h3,h⟩=>⟨a,cap,ys,hx,h1,h2,h3.lies,ic.cells h⟩
theorem ic.keep {S:Nat→Prop} {w w':World} (hs:w.heap.size≤w'.heap.size) (hk:∀ b,S b→b < w.heap.size→w'.heap[b]? = w.heap[b]?):∀ {l:PL} {xs:List Value},ic S w l xs→ic S w' l xs
 | .nil,_,h=>h
 | .cons _ _ _ _ _ _,_,⟨a,cap,ys,hx,h1,h2,h3,h⟩=>⟨a,cap,ys,hx,h1,h2,h3.keep hs hk,ic.keep hs hk h⟩
theorem ic.mono {S S':Nat→Prop} {w:World} (hS:∀ b,S b→b < w.heap.size→S' b):∀ {l:PL} {xs:List Value},ic S w l xs→ic S' w l xs
 | .nil,_,h=>h
 | .cons _ _ _ _ _ _,_,⟨a,cap,ys,hx,h1,h2,h3,h⟩=>⟨a,cap,ys,hx,h1,h2,h3.mono hS,ic.mono hS h⟩
theorem ic.app {S:Nat→Prop} {w:World}:∀ {l m:PL} {xs ys:List Value},ic S w l xs→ic S w m ys→ic S w (l.app m) (xs ++ ys)
 | .nil,m,xs,ys,h,k=>by cases h;exact k
 | .cons _ _ _ _ _ r,m,xs,ys,⟨a,cap,zs,hx,h1,h2,h3,h⟩,k=>⟨a,cap,zs ++ ys,by subst hx;rfl,h1,h2,h3,ic.app h k⟩
structure A where
 l:PL
 cur:Option (Bool × List UInt8)
namespace A
def lit (q:Bool) (bs:List UInt8):PL:=.cons 1 q ⟨bs.toArray⟩ ⟨#[]⟩ .nil .nil
def flush (a:A):PL:=match a.cur with | none=>a.l | some x=>a.l.app (lit x.1 x.2)
def begins (a:A) (q:Bool):A:=match a.cur with | some x=>if x.1 == q then a else ⟨a.flush,some (q,[])⟩ | none=>⟨a.l,some (q,[])⟩
def bytes (a:A):List UInt8:=match a.cur with | none=>[] | some x=>x.2
def text (a:A) (s:List UInt8) (q:Bool):A:=⟨(a.begins q).l,some (q,(a.begins q).bytes ++ s)⟩
def add (a:A) (p:PL):A:=⟨a.flush.app p,none⟩
def join (a:A):PL→A
 | .nil=>a
 | .cons k q t o f r=>if k == 1 then join (a.text t.data.toList q) r else join (a.add (.cons k q t o f .nil)) r
end A
def Body (w:World) (B:Nat) (S:Nat→Prop) (vl vb:Value) (l:PL) (bs:List UInt8):Prop :=
 ∃ xs,w.ownsRow B 75 5 vl l.len xs∧ic S w l xs∧(∀ g,vl.ownBlock = some g→¬ S g) ∧
  w.ownsRow B 5 1 vb bs.length (Lib.byteCells bs)∧(∀ g,vb.ownBlock = some g→¬ S g)
def dV (w:World) (B:Nat) (S:Nat→Prop) (p:Nat) (a:A):Prop :=
 ∃ vl vb q,w.heap[p]? = some (.cells #[vl,vb,.bool a.cur.isSome,.bool q] 145 (0,0))∧B≤p∧¬ S p∧(∀ x,a.cur = some x→q = x.1)∧Body w B S vl vb a.l a.bytes
structure Fr (B:Nat) (S:Nat→Prop) (w w':World):Prop where
 os:w'.os = w.os
 tape:w'.tape = w.tape
 output:w'.output = w.output
 size:w.heap.size≤w'.heap.size
 block:∀ b,b < w.heap.size→(b < B∨S b)→w'.heap[b]? = w.heap[b]?
namespace Fr
variable {B:Nat} {S:Nat→Prop} {w w' ut:World}
theorem refl (B:Nat) (S:Nat→Prop) (w:World):Fr B S w w:=⟨rfl,rfl,rfl,Nat.le_refl _,fun _ _ _=>rfl⟩
theorem trans (h:Fr B S w w') (k:Fr B S w' ut):Fr B S w ut :=
 ⟨k.os.trans h.os,k.tape.trans h.tape,k.output.trans h.output,Nat.le_trans h.size k.size,fun b hb ho=>(k.block b (kd hb h.size) ho).trans (h.block b hb ho)⟩
theorem drew (h:Fr B S w w'):Fr B S w w'.drew:=⟨h.os,h.tape,h.output,h.size,h.block⟩
theorem of_below (h:Below w.heap.size w w'):Fr B S w w':=⟨h.os,h.tape,h.output,h.size,fun b hb _=>h.block b hb⟩
theorem alloc (h:Fr B S w w') (o:Obj):Fr B S w (w'.alloc o):=h.trans (of_below (ax w' o))
theorem setCell (h:Fr B S w w') {a:Addr} (ha:B≤a.block) (hS:¬ S a.block) (v:Value):Fr B S w (w'.setCell a v) :=
 h.trans ⟨rfl,rfl,rfl,by simp [World.setCell],fun b _ ho=>Below.heap_setCell _ _ _ _ (by
  rintro rfl;rcases ho with ho | ho
  ·omega
  ·exact hS ho)⟩
theorem grown {row:Option Nat} (h:Fr B S w w') (hg:w'.grownBy ut row) (hr:∀ k,row = some k→B≤k∧¬ S k):Fr B S w ut :=
 h.trans ⟨hg.os,hg.tape,hg.output,hg.size,fun b hb ho=>hg.block b hb (by
  intro e;obtain ⟨h1,h2⟩:=hr b e.symm;rcases ho with ho | ho
  ·omega
  ·exact h2 ho)⟩
theorem below (h:Fr B S w w') (hB:B≤w.heap.size):Below B w w':=⟨h.os,h.tape,h.output,h.size,fun k hk=>h.block k (by omega) (.inl hk)⟩
theorem cell (h:Fr B S w w') {a:Addr} (ha:a.block < w.heap.size) (ho:a.block < B∨S a.block):w'.cell? a = w.cell? a:=World.cell?_of_block (w:=w) (h.block _ ha ho)
end Fr
theorem tq {w:World} {base:Nat} {e:TypeId} {size:Nat} {v:Value} {n:Nat} {xs:List Value} (h:w.ownsRow base e size v n xs) {a:Addr} (ha:∀ g,v.ownBlock = some g→g ≠ a.block) (u:Value):(w.setCell a u).ownsRow base e size v n xs:=by
 obtain ⟨h1,h2⟩:=h;refine ⟨h1,?_⟩;rcases h2 with h2 | ⟨g,cap,cur,rfl,hb,hg,hr⟩
 ·exact .inl h2
 ·exact .inr ⟨g,cap,cur,rfl,hb,(Below.heap_setCell _ _ _ _ (ha g rfl)).trans hg,hr⟩
theorem kg {w w':World} {base:Nat} {e:TypeId} {size:Nat} {v:Value} {n:Nat} {xs:List Value} (h:w.ownsRow base e size v n xs) (hk:∀ g,v.ownBlock = some g→g < w.heap.size→w'.heap[g]? = w.heap[g]?):w'.ownsRow base e size v n xs:=by
 obtain ⟨h1,h2⟩:=h;refine ⟨h1,?_⟩;rcases h2 with h2 | ⟨g,cap,cur,rfl,hb,hg,hr⟩
 ·exact .inl h2
 ·exact .inr ⟨g,cap,cur,rfl,hb,(hk g rfl (Array.getElem?_eq_some_iff.1 hg).1).trans hg,hr⟩
theorem mr {w:World} {base:Nat} {e:TypeId} {size:Nat} {v:Value} {n:Nat} {xs:List Value} (h:w.ownsRow base e size v n xs) {g:Nat} (hg:v.ownBlock = some g):∃ cur,w.heap[g]? = some (.cells cur e (0,0)):=by
 rcases h.2 with ⟨rfl,_⟩ | ⟨g',cap,cur,rfl,_,Z5,_⟩
 ·simp [Value.ownBlock] at hg
 ·simp [Value.ownBlock] at hg;subst hg;exact ⟨cur,Z5⟩
theorem vF {w:World} {g p:Nat} {c c':Array Value} {e e':TypeId} (h:w.heap[g]? = some (.cells c e (0,0))) (h':w.heap[p]? = some (.cells c' e' (0,0))) (he:e ≠ e'):g ≠ p:=by
 rintro rfl;rw [h] at h';simp only [Option.some.injEq,Obj.cells.injEq] at h';exact he h'.2.1
theorem OO {w:World} {base:Nat} {e:TypeId} {v:Value} {n:Nat} {xs:List Value} (h:w.ownsRow base e 1 v n xs):∃ a cap,v = .slice a n cap∧w.ownsRow base e 1 (.slice a 0 cap) 0 []∧(Value.slice a 0 cap).ownBlock = v.ownBlock:=by
 rcases h.2 with ⟨rfl,rfl⟩ | ⟨g,cap,cur,rfl,hb,hg,h1,h2,h3,_⟩
 ·exact ⟨none,0,rfl,⟨rfl,.inl ⟨rfl,rfl⟩⟩,rfl⟩
 ·exact ⟨_,cap,rfl,⟨rfl,.inr ⟨g,cap,cur,rfl,hb,hg,Nat.zero_le _,h2,h3,by simp⟩⟩,rfl⟩
theorem Body.keep {w w':World} {B:Nat} {S:Nat→Prop} {vl vb:Value} {l:PL} {bs:List UInt8} (h:Body w B S vl vb l bs) (hs:w.heap.size≤w'.heap.size)
  (hk:∀ b,b < w.heap.size→(S b∨vl.ownBlock = some b∨vb.ownBlock = some b)→w'.heap[b]? = w.heap[b]?):Body w' B S vl vb l bs:=by
 obtain ⟨xs,h1,h2,h3,h4,h5⟩:=h;exact ⟨xs,kg h1 fun g hg aB=>hk g aB (.inr (.inl hg)),h2.keep hs fun b hb aB=>hk b aB (.inl hb),h3,kg h4 fun g hg aB=>hk g aB (.inr (.inr hg)),h5⟩
theorem Body.ne {w:World} {B p:Nat} {S:Nat→Prop} {vl vb:Value} {l:PL} {bs:List UInt8} {c:Array Value} (h:Body w B S vl vb l bs) (hp:w.heap[p]? = some (.cells c 145 (0,0))) (hS:¬ S p) :
  ∀ b,(S b∨vl.ownBlock = some b∨vb.ownBlock = some b)→b ≠ p:=by
 obtain ⟨xs,h1,h2,h3,h4,h5⟩:=h;rintro b (hb | hb | hb)
 ·rintro rfl;exact hS hb
 ·obtain ⟨cur,hc⟩:=mr h1 hb;exact vF hc hp (by decide)
 ·obtain ⟨cur,hc⟩:=mr h4 hb;exact vF hc hp (by decide)
theorem Body.OP {w:World} {B p:Nat} {S:Nat→Prop} {vl vb:Value} {l:PL} {bs:List UInt8} {c:Array Value} (h:Body w B S vl vb l bs) (hp:w.heap[p]? = some (.cells c 145 (0,0))) (hS:¬ S p) (i:Nat) (v:Value) :
  Body (w.setCell ⟨p,i,none⟩ v) B S vl vb l bs :=
 h.keep (by simp) fun b _ ho=>Below.heap_setCell _ _ _ _ (h.ne hp hS b ho)
theorem Body.heap {w w':World} {B:Nat} {S:Nat→Prop} {vl vb:Value} {l:PL} {bs:List UInt8} (h:Body w B S vl vb l bs) (hh:w'.heap = w.heap):Body w' B S vl vb l bs :=
 h.keep (by rw [hh];exact Nat.le_refl _) fun b _ _=>by rw [hh]
theorem Body.none {w:World} {B:Nat} {S:Nat→Prop} {vl vb:Value} {l:PL} {bs:List UInt8} (h:Body w B S vl vb l bs):∃ a cap,vb = .slice a bs.length cap∧Body w B S vl (.slice a 0 cap) l []:=by
 obtain ⟨xs,h1,h2,h3,h4,h5⟩:=h;obtain ⟨a,cap,hv,hn,ho⟩:=OO h4;exact ⟨a,cap,hv,xs,h1,h2,h3,hn,fun g hg=>h5 g (ho ▸ hg)⟩
def fV (w:World) (rb:Nat) (s:ByteArray) (i:Nat):Prop:=w.heap[rb]? = some (.cells #[.string s,.int .i64 i] 109 (0,0))
theorem fV.c0 {w:World} {rb i:Nat} {s:ByteArray} (h:fV w rb s i):w.cell? ⟨rb,0,none⟩ = some (.string s):=kz h 0
theorem fV.c1 {w:World} {rb i:Nat} {s:ByteArray} (h:fV w rb s i):w.cell? ⟨rb,1,none⟩ = some (.int .i64 i):=kz h 1
theorem fV.f1 {w:World} {rb i:Nat} {s:ByteArray} (h:fV w rb s i):w.frozen? ⟨rb,1,none⟩ = false:=frozen_of_row _ _ _ _ _ h
theorem fV.lt {w:World} {rb i:Nat} {s:ByteArray} (h:fV w rb s i):rb < w.heap.size:=(Array.getElem?_eq_some_iff.1 h).1
theorem fV.set {w:World} {rb i:Nat} {s:ByteArray} (h:fV w rb s i) (j:Nat):fV (w.setCell ⟨rb,1,none⟩ (.int .i64 j)) rb s j:=heap_setCell_same _ _ 1 _ _ _ h
attribute [local go_sem ↓] Go.wp_at_zero Go.wp_at_succ
theorem FD:∀ (l:List UInt8) (s:ByteArray),(l.map fun b=>((b.toNat:Nat):Int)).foldl (fun r n=>r.push (UInt8.ofNat n.toNat)) s = ⟨s.data ++ l.toArray⟩
 | [],s=>by simp
 | c :: l,s=>by
  simp only [List.map_cons,List.foldl_cons];rw [FD l];simp [ByteArray.push]
theorem FE {w:World} {B:Nat} {l:List UInt8} {v:Value} (h:w.ownsRow B 5 1 v l.length (Lib.byteCells l)) :
  (convert 47 9 v).run Tryz.prog w = .ok (.string ⟨l.toArray⟩) w:=by
 rcases h.2 with ⟨rfl,hz⟩ | ⟨g,cap,cur,rfl,_⟩
 ·have:l = []:=List.length_eq_zero_iff.1 hz;subst this;rfl
 ·rw [run_convert_bytes_string w _ _ 5 _ _ _ Tryz.underlying47 Tryz.underlying5 Tryz.underlying9]
  have hb:=run_bytesToString (P:=Tryz.prog) w ⟨g,0,none⟩ l.length cap (l.map fun b=>((b.toNat:Nat):Int)) (by
   have:=run_loadCells_list (P:=Tryz.prog) (w:=w) ⟨g,0,none⟩ (Lib.byteCells l) (fun j x hj=>by
    have:=h.cells (g:=g) rfl j x hj
    simpa [Addr.add] using this)
   rw [Lib.byteCells_length] at this;rw [this]
   simp [Lib.byteCells,List.map_map,Function.comp_def])
  rw [hb,FD];simp
theorem vG:(Tryz.prog.info? 75).map (fun i=>(i.zero,i.size,i.bytes)) = some (some (.agg #[.int .i64 0,.bool false,.string ⟨#[]⟩,.string ⟨#[]⟩,.slice none 0 0]),5,72):=by kernel_rfl
theorem OQ {w:World} {p i j:Nat} {u v:Value} (WK:i ≠ j) (h:w.cell? ⟨p,j,none⟩ = some u):(w.setCell ⟨p,i,none⟩ v).cell? ⟨p,j,none⟩ = some u :=
 (World.cell?_setCell_other _ _ _ _ (by simp [WK])).trans h
def OT (B:Nat) (S:Nat→Prop) (p:Nat) (a:A) (w:World) (e:Ending) (w':World):Prop :=
 e = .returned (.tuple #[])∧dV w' B S p ⟨a.flush,none⟩∧Fr B S w w'
theorem zi {w:World} {B p:Nat} {S:Nat→Prop} {vl:Value} {l:PL} {a:Option Addr} {cap:Nat} {v1 v2:Value} {q:Bool} (hp:w.heap[p]? = some (.cells #[vl,v1,v2,.bool q] 145 (0,0))) (hB:B≤p) (hS:¬ S p)
  (hb:Body w B S vl (.slice a 0 cap) l []):dV ((w.setCell ⟨p,2,none⟩ (.bool false)).setCell ⟨p,1,none⟩ (.slice a 0 cap)) B S p ⟨l,none⟩∧Fr B S w ((w.setCell ⟨p,2,none⟩ (.bool false)).setCell ⟨p,1,none⟩ (.slice a 0 cap)):=by
 have g1:=heap_setCell_same _ _ 2 _ _ (.bool false) hp;have g2:=heap_setCell_same _ _ 1 _ _ (.slice a 0 cap) g1;refine ⟨⟨vl,.slice a 0 cap,q,g2,hB,hS,(fun x h=>by cases h),(hb.OP hp hS _ _).OP g1 hS _ _⟩,((Fr.refl B S w).setCell hB hS _).setCell hB hS _⟩
theorem dV.heap {w w':World} {B p:Nat} {S:Nat→Prop} {a:A} (h:dV w B S p a) (hh:w'.heap = w.heap):dV w' B S p a:=by
 obtain ⟨vl,vb,q,hp,hB,hS,hq,hb⟩:=h;exact ⟨vl,vb,q,by rw [hh];exact hp,hB,hS,hq,hb.heap hh⟩
theorem Uo {u:World} {B g n cap:Nat} {xs:List Value} {z0 z1 z2 z3 z4:Value} (h:u.ownsRow B 75 5 (.slice (some ⟨g,0,none⟩) (n + 1) cap) (n + 1) (xs ++ [z0,z1,z2,z3,z4])) (v0 v1 v2 v3 v4:Value) :
  (((((u.setCell ⟨g,n * 5,none⟩ v0).setCell ⟨g,n * 5 + 1,none⟩ v1).setCell ⟨g,n * 5 + 2,none⟩ v2).setCell ⟨g,n * 5 + 3,none⟩ v3).setCell ⟨g,n * 5 + 4,none⟩ v4).ownsRow B 75 5 (.slice (some ⟨g,0,none⟩) (n + 1) cap) (n + 1) (xs ++ [v0,v1,v2,v3,v4]) ∧
  (∀ b,b ≠ g→(((((u.setCell ⟨g,n * 5,none⟩ v0).setCell ⟨g,n * 5 + 1,none⟩ v1).setCell ⟨g,n * 5 + 2,none⟩ v2).setCell ⟨g,n * 5 + 3,none⟩ v3).setCell ⟨g,n * 5 + 4,none⟩ v4).heap[b]? = u.heap[b]?) ∧
  (((((u.setCell ⟨g,n * 5,none⟩ v0).setCell ⟨g,n * 5 + 1,none⟩ v1).setCell ⟨g,n * 5 + 2,none⟩ v2).setCell ⟨g,n * 5 + 3,none⟩ v3).setCell ⟨g,n * 5 + 4,none⟩ v4).heap.size = u.heap.size:=by
 have hl:=h.1;simp only [zI,zz,zZ] at hl;have hx:xs.length = n * 5:=by omega
 have h1:=(h.stored (n * 5) v0).1;have h2:=(h1.stored (n * 5 + 1) v1).1;have h3:=(h2.stored (n * 5 + 2) v2).1;have h4:=(h3.stored (n * 5 + 3) v3).1;have h5:=(h4.stored (n * 5 + 4) v4).1;refine ⟨?_,fun b hb=>?_,by simp⟩
 ·have e:(((((xs ++ [z0,z1,z2,z3,z4]).set (n * 5) v0).set (n * 5 + 1) v1).set (n * 5 + 2) v2).set (n * 5 + 3) v3).set (n * 5 + 4) v4 = xs ++ [v0,v1,v2,v3,v4]:=by
   simp [List.set_append,hx]
  rwa [e] at h5
 ·rw [heap_setCell_other _ _ _ _ hb,heap_setCell_other _ _ _ _ hb,heap_setCell_other _ _ _ _ hb,heap_setCell_other _ _ _ _ hb,heap_setCell_other _ _ _ _ hb]
theorem XH {u:World} {B g n cap:Nat} {xs:List Value} {z0 z1 z2 z3 z4:Value} (h:u.ownsRow B 75 5 (.slice (some ⟨g,0,none⟩) (n + 1) cap) (n + 1) (xs ++ [z0,z1,z2,z3,z4])) :
  u.cell? ⟨g,n * 5,none⟩ = some z0∧u.cell? ⟨g,n * 5 + 1,none⟩ = some z1∧u.cell? ⟨g,n * 5 + 2,none⟩ = some z2∧u.cell? ⟨g,n * 5 + 3,none⟩ = some z3∧u.cell? ⟨g,n * 5 + 4,none⟩ = some z4:=by
 have hl:=h.1;simp only [zI,zz,zZ] at hl;have hx:xs.length = n * 5:=by omega
 refine ⟨?_,?_,?_,?_,?_⟩ <;> rw [h.cellAt _ (by omega)] <;> simp [List.getElem?_append,hx]
theorem Md (S:Nat→Prop) (w:World) (q:Bool) (bs:List UInt8) (h:bs.length≤100000000):ic S w (A.lit q bs) [.int .i64 1,.bool q,.string ⟨bs.toArray⟩,.string ⟨#[]⟩,.slice none 0 0] :=
 ⟨none,0,[],rfl,(by show (List.toArray _).size≤_;rw [List.size_toArray];unfold R;omega),(by decide),(fun _ _ _=>⟨Nat.le_refl _,Nat.zero_le _,.inl rfl⟩),rfl⟩
theorem FH {w w1:World} {B p g n cap:Nat} {S:Nat→Prop} {vl vb:Value} {l:PL} {bs:List UInt8} {xs:List Value} {z0 z1 z2 z3 z4 v0 v1 v2 v3 v4 b q:Value} {pt:PL} {Z:Obj}
  (hp:w.heap[p]? = some (.cells #[vl,vb,b,q] 145 (0,0))) (hB:B≤p) (hS:¬ S p) (qH:∀ x,S x→x < w.heap.size) (ky:Body w B S vl vb l bs) (hn:l.len = n) (Me:pt.len = 1)
  (R3:ic S w l xs) (Vk:ic S w pt [v0,v1,v2,v3,v4])
  (hg:(w.alloc Z).drew.grownBy w1 vl.ownBlock) (gT:vl.ownBlock = some g∨g = w.heap.size + 1) (h1:w1.ownsRow B 75 5 (.slice (some ⟨g,0,none⟩) (n + 1) cap) (n + 1) (xs ++ [z0,z1,z2,z3,z4])) :
  w1.heap[p]? = some (.cells #[vl,vb,b,q] 145 (0,0))∧g ≠ p ∧
  (∀ W,(W = (((((w1.setCell ⟨g,n * 5,none⟩ v0).setCell ⟨g,n * 5 + 1,none⟩ v1).setCell ⟨g,n * 5 + 2,none⟩ v2).setCell ⟨g,n * 5 + 3,none⟩ v3).setCell ⟨g,n * 5 + 4,none⟩ v4).setCell ⟨p,0,none⟩ (.slice (some ⟨g,0,none⟩) (n + 1) cap) ∨
   W = (((((w1.setCell ⟨p,0,none⟩ (.slice (some ⟨g,0,none⟩) (n + 1) cap)).setCell ⟨g,n * 5,none⟩ v0).setCell ⟨g,n * 5 + 1,none⟩ v1).setCell ⟨g,n * 5 + 2,none⟩ v2).setCell ⟨g,n * 5 + 3,none⟩ v3).setCell ⟨g,n * 5 + 4,none⟩ v4) →
   W.heap[p]? = some (.cells #[.slice (some ⟨g,0,none⟩) (n + 1) cap,vb,b,q] 145 (0,0))∧Body W B S (.slice (some ⟨g,0,none⟩) (n + 1) cap) vb (l.app pt) bs∧Fr B S w W):=by
 have jD:=ky.ne hp hS;obtain ⟨xs',o1,_,o3,o4,o5⟩:=ky;have Br:p < w.heap.size:=(Array.getElem?_eq_some_iff.1 hp).1;have WL:some p ≠ vl.ownBlock:=fun e=>jD p (.inr (.inl e.symm)) rfl;have hA:∀ x,x < w.heap.size→some x ≠ vl.ownBlock→w1.heap[x]? = w.heap[x]?:=fun x hx ho=>(hg.block x (by show x < (w.alloc Z).heap.size;simp;omega) ho).trans (Below.heap_alloc _ _ _ hx);have ny:=(hA p Br WL).trans hp;have Mf:g ≠ p:=by
  rcases gT with e | e
  ·intro h;exact WL (h ▸ e).symm
  ·omega
 have bU:w.heap.size≤w1.heap.size:=by have:=hg.size;simp at this;omega
 have Rk:B≤g:=(h1.lt g rfl).1;have BS:¬ S g:=by
  rcases gT with e | e
  ·exact o3 g e
  ·intro h;have:=qH g h;omega
 have hSk:∀ x,S x→x < w.heap.size→w1.heap[x]? = w.heap[x]?:=fun x hx aB=>hA x aB (fun e=>o3 x e.symm hx);have fE:=R3.keep bU hSk;have XI:=Vk.keep bU hSk
 have ho4:w1.ownsRow B 5 1 vb bs.length (Lib.byteCells bs):=kg o4 fun x hx aB=>hA x aB (by
  intro e;obtain ⟨c1,k1⟩:=mr o4 hx;obtain ⟨c2,k2⟩:=mr o1 e.symm
  exact vF k2 k1 (by decide) rfl)
 have Ii:∀ x,vb.ownBlock = some x→x ≠ g:=fun x hx=>by
  obtain ⟨c1,k1⟩:=mr ho4 hx;obtain ⟨c2,k2⟩:=mr h1 (g:=g) rfl;exact vF k1 k2 (by decide)
 have fr1:Fr B S w w1:=((Fr.refl B S w).alloc Z).drew.grown hg (fun k hk=>⟨(o1.lt k hk).1,o3 k hk⟩);have BU:∀ U:World,w1.heap.size≤U.heap.size→(∀ x,x ≠ g→x ≠ p→U.heap[x]? = w1.heap[x]?)→U.ownsRow B 75 5 (.slice (some ⟨g,0,none⟩) (n + 1) cap) (n + 1) (xs ++ [v0,v1,v2,v3,v4]) →
   Body U B S (.slice (some ⟨g,0,none⟩) (n + 1) cap) vb (l.app pt) bs:=fun U hs hk ho=>by
  have hkS:∀ x,S x→x < w1.heap.size→U.heap[x]? = w1.heap[x]?:=fun x hx _=>hk x (fun e=>BS (e ▸ hx)) (fun e=>hS (e ▸ hx));refine ⟨xs ++ [v0,v1,v2,v3,v4],by rw [PL.yB,hn,Me];exact ho,(fE.keep hs hkS).app (XI.keep hs hkS),fun x hx=>?_,kg ho4 fun x hx aB=>hk x (Ii x hx) (jD x (.inr (.inr hx))),o5⟩;simp only [Value.ownBlock,Option.some.injEq] at hx;subst hx;exact BS
 refine ⟨ny,Mf,fun W hW=>?_⟩;rcases hW with rfl | rfl
 ·obtain ⟨f1,f2,f3⟩:=Uo h1 v0 v1 v2 v3 v4;have hpU:=(f2 p (Ne.symm Mf)).trans ny;refine ⟨heap_setCell_same _ _ 0 _ _ _ hpU,BU _ (by simp) (fun x h1 h2=>(heap_setCell_other _ _ _ _ h2).trans (f2 x h1)) (tq f1 (fun x hx=>by simp only [Value.ownBlock,Option.some.injEq] at hx;subst hx;exact Mf) _),?_⟩;exact (((((fr1.setCell Rk BS _).setCell Rk BS _).setCell Rk BS _).setCell Rk BS _).setCell Rk BS _).setCell hB hS _
 ·have I1:=tq h1 (a:=⟨p,0,none⟩) (fun x hx=>by simp only [Value.ownBlock,Option.some.injEq] at hx;subst hx;exact Mf) (.slice (some ⟨g,0,none⟩) (n + 1) cap);obtain ⟨f1,f2,f3⟩:=Uo I1 v0 v1 v2 v3 v4;have hpU:=(f2 p (Ne.symm Mf)).trans (heap_setCell_same _ _ 0 _ _ (.slice (some ⟨g,0,none⟩) (n + 1) cap) ny);refine ⟨hpU,BU _ (by simp) (fun x h1 h2=>(f2 x h1).trans (heap_setCell_other _ _ _ _ h2)) f1,?_⟩;exact (((((fr1.setCell hB hS _).setCell Rk BS _).setCell Rk BS _).setCell Rk BS _).setCell Rk BS _).setCell Rk BS _
theorem OU (B:Nat) (S:Nat→Prop) (p:Nat) (l:PL) (w:World) (h:dV w B S p ⟨l,none⟩) :
  Calls Tryz.prog 164 #[.pointer (some ⟨p,0,none⟩)] w (OT B S p ⟨l,none⟩ w):=by
 obtain ⟨vl,vb,q,hp,hB,hS,_,ky⟩:=h;obtain ⟨a,cap,rfl,ky⟩:=ky.none;simp only [Option.isSome,A.bytes,zZ] at hp;have c1:=dA hp;have c2:=ed hp;have f1:=zf 1 hp;have f2:=zf 2 hp;have k1:=OQ (i:=2) (v:=.bool false) (by decide) c1;have k2:=World.cell?_setCell_same _ _ (.slice a 0 cap) k1;have HE:=kq (zi hp hB hS ky);clear hp hB ky;go_enter Tryz.func164,Tryz.ntmps164;go_wp2_with fail
 go_region_held3 (fun w'=>w'.cell? ⟨p,1,none⟩ = some (.slice a 0 cap)) (go_keep) (fail)
 go_end0;exact ⟨rfl,HE.out.1.heap rfl,HE.out.2.drew⟩
theorem OV (B:Nat) (S:Nat→Prop) (p:Nat) (l:PL) (q:Bool) (bs:List UInt8) (w:World) (h:dV w B S p ⟨l,some (q,bs)⟩) (hl:l.len≤100000000) (hbs:bs.length≤100000000) (qH:∀ x,S x→x < w.heap.size) :
  Calls Tryz.prog 164 #[.pointer (some ⟨p,0,none⟩)] w (OT B S p ⟨l,some (q,bs)⟩ w):=by
 obtain ⟨i0,hi,qd,kQ,lM⟩:=info_parts vG;obtain ⟨vl,vb,q',hp,hB,Bb,hq,ky⟩:=h;obtain rfl:=hq _ rfl;obtain ⟨a,cap,rfl,I4⟩:=ky.none;have I5:=ky;obtain ⟨xs,hvl,R3,WM,hvb,Vq⟩:=ky;simp only [Option.isSome,A.bytes] at hp hvb Vq hvl I5 R3;obtain ⟨al,qL,rfl⟩:∃ al qL,vl = .slice al l.len qL:=by
  rcases hvl.2 with ⟨rfl,h0⟩ | ⟨g,c,cur,rfl,_⟩
  ·exact ⟨none,0,by rw [h0]⟩
  ·exact ⟨_,c,rfl⟩
 have c0:=dx hp;have c1:=dA hp;have c2:=ed hp;have c3:=fA hp;have f0:=zf 0 hp;have f1:=zf 1 hp;have f2:=zf 2 hp;have hcv:(convert 47 9 (.slice a bs.length cap)).run Tryz.prog w.drew = .ok (.string ⟨bs.toArray⟩) w.drew:=FE (kg hvb fun _ _ _=>rfl);have Br:p < w.heap.size:=(Array.getElem?_eq_some_iff.1 hp).1;have XJ:∀ Z:Obj,(convert 47 9 (.slice a bs.length cap)).run Tryz.prog (w.alloc Z).drew = .ok (.string ⟨bs.toArray⟩) (w.alloc Z).drew:=fun Z=>FE (kg hvb fun g _ aB=>Below.heap_alloc _ _ _ aB);have HVL:=kq hvl;have HXS:=kq R3;have HP:=kq hp;have Il:=kq qH;have Rl:=kq I5;have abh:=kq XJ;have HB:=kq hB;have HI:=kq hi;have ym:=kq qd;have o9:=kq kQ;have lD:=kq lM;clear hvl R3 hvb hp qH WM Vq hq I5 XJ hB hi qd kQ lM I4;go_enter Tryz.func164,Tryz.ntmps164;go_wp2_with fail;refine RT.begins (fun w'=>w'.cell? ⟨p,0,none⟩ = some (.slice al l.len qL)∧w'.cell? ⟨p,1,none⟩ = some (.slice a bs.length cap)∧w'.cell? ⟨p,3,none⟩ = some (.bool q')∧(convert 47 9 (.slice a bs.length cap)).run Tryz.prog w' = .ok (.string ⟨bs.toArray⟩) w') 16 (by kernel_rfl) ?_;have hS:w.drew.cell? ⟨p,0,none⟩ = some (.slice al l.len qL)∧w.drew.cell? ⟨p,1,none⟩ = some (.slice a bs.length cap)∧w.drew.cell? ⟨p,3,none⟩ = some (.bool q')∧(convert 47 9 (.slice a bs.length cap)).run Tryz.prog w.drew = .ok (.string ⟨bs.toArray⟩) w.drew:=⟨c0,c1,c3,hcv⟩;refine RT.tk (i:=0) rfl hS (by intro wq hq;obtain ⟨s0,s1,s3,s4⟩:=hq;go_simp;try with_reducible rfl) ?_;refine RT.tk (i:=1) rfl hS (by intro wq hq;obtain ⟨s0,s1,s3,s4⟩:=hq;go_simp;try with_reducible rfl) ?_;refine RT.tk (i:=2) rfl hS (by intro wq hq;obtain ⟨s0,s1,s3,s4⟩:=hq;go_simp;try with_reducible rfl) ?_;refine RT.tk (i:=3) rfl hS (by intro wq hq;obtain ⟨s0,s1,s3,s4⟩:=hq;go_simp;try with_reducible rfl) ?_;refine RT.tk (i:=4) rfl hS (by intro wq hq;obtain ⟨s0,s1,s3,s4⟩:=hq;go_simp;try with_reducible rfl) ?_;refine RT.tk (i:=5) rfl hS (by intro wq hq;obtain ⟨s0,s1,s3,s4⟩:=hq;go_simp;try with_reducible rfl) ?_;refine RT.tk (i:=6) rfl hS (by intro wq hq;obtain ⟨s0,s1,s3,s4⟩:=hq;go_simp;try with_reducible rfl) ?_;refine RT.tk (i:=7) rfl hS (by intro wq hq;obtain ⟨s0,s1,s3,s4⟩:=hq;go_simp;try with_reducible rfl) ?_;refine RT.tk (i:=8) rfl hS (by intro wq hq;obtain ⟨s0,s1,s3,s4⟩:=hq;go_simp;try with_reducible rfl) ?_;refine RT.tk (i:=9) rfl hS (by intro wq hq;obtain ⟨s0,s1,s3,s4⟩:=hq;go_simp;try with_reducible rfl) ?_;refine RT.tk (i:=10) rfl hS (by intro wq hq;obtain ⟨s0,s1,s3,s4⟩:=hq;go_simp;try with_reducible rfl) ?_;refine RT.tk (i:=11) rfl hS (by intro wq hq;obtain ⟨s0,s1,s3,s4⟩:=hq;go_simp;try with_reducible rfl) ?_;refine RT.tk (i:=12) rfl hS (by intro wq hq;obtain ⟨s0,s1,s3,s4⟩:=hq;go_simp;try with_reducible rfl) ?_;refine RT.tk (i:=13) rfl hS (by intro wq hq;obtain ⟨s0,s1,s3,s4⟩:=hq;go_simp;try with_reducible rfl) ?_;refine RT.tk (i:=14) rfl hS (by intro wq hq;obtain ⟨s0,s1,s3,s4⟩:=hq;go_simp;try with_reducible rfl) ?_;refine RT.all (rs:=[15]) (by kernel_rfl) (by simp) ?_;refine RT.All.cons rfl (fun K hK=>?_) RT.All.nil;go_simp;refine hK _ _ (fun _=>⟨(World.cell?_alloc_lt _ _ _ Br).trans c0,(World.cell?_alloc_lt _ _ _ Br).trans c1,(World.cell?_alloc_lt _ _ _ Br).trans c3,abh.out _⟩) ?_;clear hK K;refine RT.all (rs:=[16]) (by kernel_rfl) (by simp) ?_;refine RT.All.cons rfl (fun K hK=>?_) RT.All.nil;refine step_append_lies _ (by rfl) _ _ _ (by rfl) B 75 i0 _ 5 72 Tryz.underlying38 HI.out ym.out o9.out lD.out rfl (by omega) (.slice al l.len qL) l.len xs (by rfl) ((HVL.out.alloc _).drew)
  ⟨w.heap.size,0,none⟩ 1 1 [.int .i64 0,.bool false,.string ⟨#[]⟩,.string ⟨#[]⟩,.slice none 0 0] (by rfl) (by rfl) (World.news_of_block (cs:=#[.int .i64 0,.bool false,.string ⟨#[]⟩,.string ⟨#[]⟩,.slice none 0 0]) (t:=75) (fr:=(0,0)) (heap_alloc_new w _)) (by simp [Value.oneCell'])
  (by omega) (by unfold maxLen;omega) (by omega) (by have:=HB.out;simp;omega) (w.heap.size + 1) (by simp) ?_
 intro g gH w1 mD dI gT aB;refine hK _ _ (fun h=>absurd h (by decide)) ?_;clear hK K;have hgm:=FH (pt:=A.lit q' bs) (v0:=.int .i64 1) (v1:=.bool q') (v2:=.string ⟨bs.toArray⟩) (v3:=.string ⟨#[]⟩) (v4:=.slice none 0 0) HP.out HB.out Bb Il.out Rl.out rfl rfl HXS.out (Md S w q' bs hbs) dI gT mD;obtain ⟨ny,Mf,hW⟩:=hgm;obtain ⟨n0,n1,n2,n3,n4⟩:=XH mD;have m0:=dx ny;have mf:=frozen_of_row _ _ 0 _ _ ny;have XK:=mD.frozenAt (l.len * 5);have XL:=mD.frozenAt (l.len * 5 + 1);have XM:=mD.frozenAt (l.len * 5 + 2);have XN:=mD.frozenAt (l.len * 5 + 3);have XO:=mD.frozenAt (l.len * 5 + 4);have abk:¬ (g = p):=Mf;have hi1:(l.len:Int) < (l.len:Int) + 1:=by omega
 have abl:¬ (p = g):=fun e=>Mf e.symm;have HW:=kq hW;clear hW ny Mf dI gT mD aB;refine RT.nN (i:=17) (v:=?_) rfl (by decide) (by kernel_rfl) (by kernel_rfl) (by kernel_rfl) (fun _ _ _ h=>h) (.inl ⟨by rfl,?_⟩) ?_;rotate_left 1
 ·(intro wq _;go_simp;try with_reducible rfl)
 refine RT.nN (i:=19) (v:=?_) rfl (by decide) (by kernel_rfl) (by kernel_rfl) (by kernel_rfl) (fun _ _ _ h=>h) (.inl ⟨by rfl,?_⟩) ?_;rotate_left 1
 ·(intro wq _;go_simp;try with_reducible rfl)
 refine RT.nN (i:=20) (v:=?_) rfl (by decide) (by kernel_rfl) (by kernel_rfl) (by kernel_rfl) (fun _ _ _ h=>h) (.inl ⟨by rfl,?_⟩) ?_;rotate_left 1
 ·(intro wq _;go_simp;try with_reducible rfl)
 refine RT.all (rs:=[18,21]) (by kernel_rfl) (by simp) ?_;refine RT.All.cons rfl (fun K hK=>?_) (RT.All.cons rfl (fun K hK=>?_) RT.All.nil)
 ·go_simp;refine hK _ _ (fun h=>absurd h (by decide)) ?_;clear hK K;refine RT.all (rs:=[21]) (by kernel_rfl) (by simp) ?_;refine RT.All.cons rfl (fun K hK=>?_) RT.All.nil;go_simp;refine hK _ _ (fun h=>absurd h (by decide)) ?_;clear hK K;refine RT.done (by kernel_rfl) ?_ _;obtain ⟨Di,hbW,I6⟩:=HW.out _ (.inl rfl);generalize ((((((w1.setCell ⟨g,l.len * 5,none⟩ (.int .i64 1)).setCell ⟨g,l.len * 5 + 1,none⟩ (.bool q')).setCell ⟨g,l.len * 5 + 2,none⟩ (.string ⟨bs.toArray⟩)).setCell ⟨g,l.len * 5 + 3,none⟩ (.string ⟨#[]⟩)).setCell ⟨g,l.len * 5 + 4,none⟩ (.slice none 0 0)).setCell ⟨p,0,none⟩ (.slice (some ⟨g,0,none⟩) (l.len + 1) gH)) = W at Di hbW I6 ⊢
  obtain ⟨a',gK,hva,I4⟩:=hbW.none;have hx:=zi Di HB.out Bb I4;simp only [Value.slice.injEq] at hva;obtain ⟨rfl,_,rfl⟩:=hva;have d1:=dA Di;have d2:=ed Di;have e1:=zf 1 Di;have e2:=zf 2 Di;have HX:=kq hx;have HFW:=kq I6;clear hx Di hbW I6 I4 n0 n1 n2 n3 n4 m0 mf XK XL XM XN XO c0 c1 c2 c3 f0 f1 f2 hcv hS;go_wp2_with fail;go_region;go_end0;exact ⟨rfl,HX.out.1.heap rfl,(HFW.out.trans HX.out.2).drew⟩
 ·go_simp;refine hK _ _ (fun h=>absurd h (by decide)) ?_;clear hK K;refine RT.all (rs:=[18]) (by kernel_rfl) (by simp) ?_;refine RT.All.cons rfl (fun K hK=>?_) RT.All.nil;go_simp;refine hK _ _ (fun h=>absurd h (by decide)) ?_;clear hK K;refine RT.done (by kernel_rfl) ?_ _;obtain ⟨Di,hbW,I6⟩:=HW.out _ (.inr rfl);generalize ((((((w1.setCell ⟨p,0,none⟩ (.slice (some ⟨g,0,none⟩) (l.len + 1) gH)).setCell ⟨g,l.len * 5,none⟩ (.int .i64 1)).setCell ⟨g,l.len * 5 + 1,none⟩ (.bool q')).setCell ⟨g,l.len * 5 + 2,none⟩ (.string ⟨bs.toArray⟩)).setCell ⟨g,l.len * 5 + 3,none⟩ (.string ⟨#[]⟩)).setCell ⟨g,l.len * 5 + 4,none⟩ (.slice none 0 0)) = W at Di hbW I6 ⊢
  obtain ⟨a',gK,hva,I4⟩:=hbW.none;have hx:=zi Di HB.out Bb I4;simp only [Value.slice.injEq] at hva;obtain ⟨rfl,_,rfl⟩:=hva;have d1:=dA Di;have d2:=ed Di;have e1:=zf 1 Di;have e2:=zf 2 Di;have HX:=kq hx;have HFW:=kq I6;clear hx Di hbW I6 I4 n0 n1 n2 n3 n4 m0 mf XK XL XM XN XO c0 c1 c2 c3 f0 f1 f2 hcv hS;go_wp2_with fail;go_region;go_end0;exact ⟨rfl,HX.out.1.heap rfl,(HFW.out.trans HX.out.2).drew⟩
end Lx
end Go.Proofs.YtckakkeejekibaaGreatDoor
