/- Parts on their way (lex.parts) and a reader (lex.reader), as they lie in memory. -/
import Derived.Test.YtjmpfihopeohbaaGreatDoorPtB
import Derived.Test.YtjmpfihopeohbaaGreatDoorLxA
import Derived.Lib.BufferWrite
import Derived.Test.YtjmpfihopeohbaaGreatDoorRegN
import Derived.Deep.RegionHeld3
import Derived.Deep.AppendLies
import Derived.Deep.DrawnRows
set_option maxHeartbeats 1600000
set_option maxRecDepth 100000
namespace Go.Proofs.YtjmpfihopeohbaaGreatDoor
open Go.RowKit Go.Sort
namespace Lx
open Cls Pt
def LiesS (S:Nat→Prop) (w:World) (a:Option Addr) (cap:Nat) (l:PL):Prop :=
 ∀ w2:World,w.heap.size≤w2.heap.size→(∀ b,S b→b < w.heap.size→w2.heap[b]? = w.heap[b]?)→Lies w2 a cap l
theorem LiesS.lies {S:Nat→Prop} {w:World} {a:Option Addr} {cap:Nat} {l:PL} (h:LiesS S w a cap l):Lies w a cap l:=h w (Nat.le_refl _) fun _ _ _=>rfl
theorem LiesS.keep {S:Nat→Prop} {w w':World} {a:Option Addr} {cap:Nat} {l:PL} (h:LiesS S w a cap l) (hs:w.heap.size≤w'.heap.size) (hk:∀ b,S b→b < w.heap.size→w'.heap[b]? = w.heap[b]?):LiesS S w' a cap l :=
 fun w2 h2 hk2=>h w2 (by omega) fun b hb hlt=>(hk2 b hb (by omega)).trans (hk b hb hlt)
theorem LiesS.mono {S S':Nat→Prop} {w:World} {a:Option Addr} {cap:Nat} {l:PL} (h:LiesS S w a cap l) (hS:∀ b,S b→b < w.heap.size→S' b):LiesS S' w a cap l :=
 fun w2 h2 hk2=>h w2 h2 fun b hb hlt=>hk2 b (hS b hb hlt) hlt
def CellsS (S:Nat→Prop) (w:World):PL→List Value→Prop
 | .nil,xs=>xs = []
 | .cons k q t o f r,xs=>∃ a cap ys,xs = .int .i64 k :: .bool q :: .string t :: .string o :: .slice a f.len cap :: ys∧t.size≤R∧o.size≤R∧LiesS S w a cap f∧CellsS S w r ys
theorem CellsS.cells {S:Nat→Prop} {w:World}:∀ {l:PL} {xs:List Value},CellsS S w l xs→CellsP w l xs
 | .nil,_,h=>h
 | .cons _ _ _ _ _ _,_,⟨a,cap,ys,hx,h1,h2,h3,h⟩=>⟨a,cap,ys,hx,h1,h2,h3.lies,CellsS.cells h⟩
theorem CellsS.keep {S:Nat→Prop} {w w':World} (hs:w.heap.size≤w'.heap.size) (hk:∀ b,S b→b < w.heap.size→w'.heap[b]? = w.heap[b]?):∀ {l:PL} {xs:List Value},CellsS S w l xs→CellsS S w' l xs
 | .nil,_,h=>h
 | .cons _ _ _ _ _ _,_,⟨a,cap,ys,hx,h1,h2,h3,h⟩=>⟨a,cap,ys,hx,h1,h2,h3.keep hs hk,CellsS.keep hs hk h⟩
theorem CellsS.app {S:Nat→Prop} {w:World}:∀ {l m:PL} {xs ys:List Value},CellsS S w l xs→CellsS S w m ys→CellsS S w (l.app m) (xs ++ ys)
 | .nil,m,xs,ys,h,k=>by cases h;exact k
 | .cons _ _ _ _ _ r,m,xs,ys,⟨a,cap,zs,hx,h1,h2,h3,h⟩,k=>⟨a,cap,zs ++ ys,by subst hx;rfl,h1,h2,h3,CellsS.app h k⟩
structure A where
 l:PL
 cur:Option (Bool × List UInt8)
namespace A
def lit (q:Bool) (bs:List UInt8):PL:=.cons 1 q ⟨bs.toArray⟩ ⟨#[]⟩ .nil .nil
def flush (a:A):PL:=match a.cur with | none=>a.l | some x=>a.l.app (lit x.1 x.2)
def begins (a:A) (q:Bool):A:=match a.cur with | some x=>if x.1 == q then a else ⟨a.flush,some (q,[])⟩ | none=>⟨a.l,some (q,[])⟩
def bytes (a:A):List UInt8:=match a.cur with | none=>[] | some x=>x.2
def text (a:A) (s:List UInt8) (q:Bool):A:=⟨(a.begins q).l,some (q,(a.begins q).bytes ++ s)⟩
def add (a:A) (p:PL):A:=⟨a.flush.app p,none⟩
def join (a:A):PL→A
 | .nil=>a
 | .cons k q t o f r=>if k == 1 then join (a.text t.data.toList q) r else join (a.add (.cons k q t o f .nil)) r
end A
def Body (w:World) (B:Nat) (S:Nat→Prop) (vl vb:Value) (l:PL) (bs:List UInt8):Prop :=
 ∃ xs,w.ownsRow B 75 5 vl l.len xs∧CellsS S w l xs∧(∀ g,vl.ownBlock = some g→¬ S g) ∧
  w.ownsRow B 5 1 vb bs.length (Lib.byteCells bs)∧(∀ g,vb.ownBlock = some g→¬ S g)
def AccAt (w:World) (B:Nat) (S:Nat→Prop) (p:Nat) (a:A):Prop :=
 ∃ vl vb q,w.heap[p]? = some (.cells #[vl,vb,.bool a.cur.isSome,.bool q] 145 (0,0))∧B≤p∧¬ S p∧(∀ x,a.cur = some x→q = x.1)∧Body w B S vl vb a.l a.bytes
structure Fr (B:Nat) (S:Nat→Prop) (w w':World):Prop where
 os:w'.os = w.os
 tape:w'.tape = w.tape
 output:w'.output = w.output
 size:w.heap.size≤w'.heap.size
 block:∀ b,b < w.heap.size→(b < B∨S b)→w'.heap[b]? = w.heap[b]?
namespace Fr
variable {B:Nat} {S:Nat→Prop} {w w' w'':World}
theorem refl (B:Nat) (S:Nat→Prop) (w:World):Fr B S w w:=⟨rfl,rfl,rfl,Nat.le_refl _,fun _ _ _=>rfl⟩
theorem trans (h:Fr B S w w') (k:Fr B S w' w''):Fr B S w w'' :=
 ⟨k.os.trans h.os,k.tape.trans h.tape,k.output.trans h.output,Nat.le_trans h.size k.size,fun b hb ho=>(k.block b (Nat.lt_of_lt_of_le hb h.size) ho).trans (h.block b hb ho)⟩
theorem drew (h:Fr B S w w'):Fr B S w w'.drew:=⟨h.os,h.tape,h.output,h.size,h.block⟩
theorem of_below (h:Below w.heap.size w w'):Fr B S w w':=⟨h.os,h.tape,h.output,h.size,fun b hb _=>h.block b hb⟩
theorem alloc (h:Fr B S w w') (o:Obj):Fr B S w (w'.alloc o):=h.trans (of_below (bel1 w' o))
theorem setCell (h:Fr B S w w') {a:Addr} (ha:B≤a.block) (hS:¬ S a.block) (v:Value):Fr B S w (w'.setCell a v) :=
 h.trans ⟨rfl,rfl,rfl,by simp [World.setCell],fun b _ ho=>Below.heap_setCell _ _ _ _ (by
  rintro rfl;rcases ho with ho | ho
  ·omega
  ·exact hS ho)⟩
theorem grown {row:Option Nat} (h:Fr B S w w') (hg:w'.grownBy w'' row) (hr:∀ k,row = some k→B≤k∧¬ S k):Fr B S w w'' :=
 h.trans ⟨hg.os,hg.tape,hg.output,hg.size,fun b hb ho=>hg.block b hb (by
  intro e;obtain ⟨h1,h2⟩:=hr b e.symm;rcases ho with ho | ho
  ·omega
  ·exact h2 ho)⟩
theorem below (h:Fr B S w w') (hB:B≤w.heap.size):Below B w w':=⟨h.os,h.tape,h.output,h.size,fun k hk=>h.block k (by omega) (.inl hk)⟩
theorem cell (h:Fr B S w w') {a:Addr} (ha:a.block < w.heap.size) (ho:a.block < B∨S a.block):w'.cell? a = w.cell? a:=World.cell?_of_block (w:=w) (h.block _ ha ho)
end Fr
theorem own_other {w:World} {base:Nat} {e:TypeId} {size:Nat} {v:Value} {n:Nat} {xs:List Value} (h:w.ownsRow base e size v n xs) {a:Addr} (ha:∀ g,v.ownBlock = some g→g ≠ a.block) (u:Value):(w.setCell a u).ownsRow base e size v n xs:=by
 obtain ⟨h1,h2⟩:=h;refine ⟨h1,?_⟩;rcases h2 with h2 | ⟨g,cap,cur,rfl,hb,hg,hr⟩
 ·exact .inl h2
 ·exact .inr ⟨g,cap,cur,rfl,hb,(Below.heap_setCell _ _ _ _ (ha g rfl)).trans hg,hr⟩
theorem own_keep {w w':World} {base:Nat} {e:TypeId} {size:Nat} {v:Value} {n:Nat} {xs:List Value} (h:w.ownsRow base e size v n xs) (hk:∀ g,v.ownBlock = some g→g < w.heap.size→w'.heap[g]? = w.heap[g]?):w'.ownsRow base e size v n xs:=by
 obtain ⟨h1,h2⟩:=h;refine ⟨h1,?_⟩;rcases h2 with h2 | ⟨g,cap,cur,rfl,hb,hg,hr⟩
 ·exact .inl h2
 ·exact .inr ⟨g,cap,cur,rfl,hb,(hk g rfl (Array.getElem?_eq_some_iff.1 hg).1).trans hg,hr⟩
theorem own_type {w:World} {base:Nat} {e:TypeId} {size:Nat} {v:Value} {n:Nat} {xs:List Value} (h:w.ownsRow base e size v n xs) {g:Nat} (hg:v.ownBlock = some g):∃ cur,w.heap[g]? = some (.cells cur e (0,0)):=by
 rcases h.2 with ⟨rfl,_⟩ | ⟨g',cap,cur,rfl,_,hgg,_⟩
 ·simp [Value.ownBlock] at hg
 ·simp [Value.ownBlock] at hg;subst hg;exact ⟨cur,hgg⟩
theorem type_ne {w:World} {g p:Nat} {c c':Array Value} {e e':TypeId} (h:w.heap[g]? = some (.cells c e (0,0))) (h':w.heap[p]? = some (.cells c' e' (0,0))) (he:e ≠ e'):g ≠ p:=by
 rintro rfl;rw [h] at h';simp only [Option.some.injEq,Obj.cells.injEq] at h';exact he h'.2.1
theorem own_none {w:World} {base:Nat} {e:TypeId} {v:Value} {n:Nat} {xs:List Value} (h:w.ownsRow base e 1 v n xs):∃ a cap,v = .slice a n cap∧w.ownsRow base e 1 (.slice a 0 cap) 0 []∧(Value.slice a 0 cap).ownBlock = v.ownBlock:=by
 rcases h.2 with ⟨rfl,rfl⟩ | ⟨g,cap,cur,rfl,hb,hg,h1,h2,h3,_⟩
 ·exact ⟨none,0,rfl,⟨rfl,.inl ⟨rfl,rfl⟩⟩,rfl⟩
 ·exact ⟨_,cap,rfl,⟨rfl,.inr ⟨g,cap,cur,rfl,hb,hg,Nat.zero_le _,h2,h3,by simp⟩⟩,rfl⟩
theorem Body.keep {w w':World} {B:Nat} {S:Nat→Prop} {vl vb:Value} {l:PL} {bs:List UInt8} (h:Body w B S vl vb l bs) (hs:w.heap.size≤w'.heap.size)
  (hk:∀ b,b < w.heap.size→(S b∨vl.ownBlock = some b∨vb.ownBlock = some b)→w'.heap[b]? = w.heap[b]?):Body w' B S vl vb l bs:=by
 obtain ⟨xs,h1,h2,h3,h4,h5⟩:=h;exact ⟨xs,own_keep h1 fun g hg hlt=>hk g hlt (.inr (.inl hg)),h2.keep hs fun b hb hlt=>hk b hlt (.inl hb),h3,own_keep h4 fun g hg hlt=>hk g hlt (.inr (.inr hg)),h5⟩
theorem Body.ne {w:World} {B p:Nat} {S:Nat→Prop} {vl vb:Value} {l:PL} {bs:List UInt8} {c:Array Value} (h:Body w B S vl vb l bs) (hp:w.heap[p]? = some (.cells c 145 (0,0))) (hS:¬ S p) :
  ∀ b,(S b∨vl.ownBlock = some b∨vb.ownBlock = some b)→b ≠ p:=by
 obtain ⟨xs,h1,h2,h3,h4,h5⟩:=h;rintro b (hb | hb | hb)
 ·rintro rfl;exact hS hb
 ·obtain ⟨cur,hc⟩:=own_type h1 hb;exact type_ne hc hp (by decide)
 ·obtain ⟨cur,hc⟩:=own_type h4 hb;exact type_ne hc hp (by decide)
theorem Body.setP {w:World} {B p:Nat} {S:Nat→Prop} {vl vb:Value} {l:PL} {bs:List UInt8} {c:Array Value} (h:Body w B S vl vb l bs) (hp:w.heap[p]? = some (.cells c 145 (0,0))) (hS:¬ S p) (i:Nat) (v:Value) :
  Body (w.setCell ⟨p,i,none⟩ v) B S vl vb l bs :=
 h.keep (by simp) fun b _ ho=>Below.heap_setCell _ _ _ _ (h.ne hp hS b ho)
theorem Body.heap {w w':World} {B:Nat} {S:Nat→Prop} {vl vb:Value} {l:PL} {bs:List UInt8} (h:Body w B S vl vb l bs) (hh:w'.heap = w.heap):Body w' B S vl vb l bs :=
 h.keep (by rw [hh];exact Nat.le_refl _) fun b _ _=>by rw [hh]
theorem Body.none {w:World} {B:Nat} {S:Nat→Prop} {vl vb:Value} {l:PL} {bs:List UInt8} (h:Body w B S vl vb l bs):∃ a cap,vb = .slice a bs.length cap∧Body w B S vl (.slice a 0 cap) l []:=by
 obtain ⟨xs,h1,h2,h3,h4,h5⟩:=h;obtain ⟨a,cap,hv,hn,ho⟩:=own_none h4;exact ⟨a,cap,hv,xs,h1,h2,h3,hn,fun g hg=>h5 g (ho ▸ hg)⟩
def RAt (w:World) (rb:Nat) (s:ByteArray) (i:Nat):Prop:=w.heap[rb]? = some (.cells #[.string s,.int .i64 i] 109 (0,0))
theorem RAt.c0 {w:World} {rb i:Nat} {s:ByteArray} (h:RAt w rb s i):w.cell? ⟨rb,0,none⟩ = some (.string s):=Lib.cell_of_heap h 0
theorem RAt.c1 {w:World} {rb i:Nat} {s:ByteArray} (h:RAt w rb s i):w.cell? ⟨rb,1,none⟩ = some (.int .i64 i):=Lib.cell_of_heap h 1
theorem RAt.f1 {w:World} {rb i:Nat} {s:ByteArray} (h:RAt w rb s i):w.frozen? ⟨rb,1,none⟩ = false:=frozen_of_row _ _ _ _ _ h
theorem RAt.lt {w:World} {rb i:Nat} {s:ByteArray} (h:RAt w rb s i):rb < w.heap.size:=(Array.getElem?_eq_some_iff.1 h).1
theorem RAt.set {w:World} {rb i:Nat} {s:ByteArray} (h:RAt w rb s i) (j:Nat):RAt (w.setCell ⟨rb,1,none⟩ (.int .i64 j)) rb s j:=heap_setCell_same _ _ 1 _ _ _ h
end Lx
end Go.Proofs.YtjmpfihopeohbaaGreatDoor
namespace Go.Proofs.YtjmpfihopeohbaaGreatDoor
open Go.RowKit Go.Sort
namespace Lx
open Cls Pt
attribute [local go_sem ↓] Go.wp_at_zero Go.wp_at_succ
theorem push_all:∀ (l:List UInt8) (s:ByteArray),(l.map fun b=>((b.toNat:Nat):Int)).foldl (fun r n=>r.push (UInt8.ofNat n.toNat)) s = ⟨s.data ++ l.toArray⟩
 | [],s=>by simp
 | c :: l,s=>by
  simp only [List.map_cons,List.foldl_cons];rw [push_all l];simp [ByteArray.push]
theorem conv_own {w:World} {B:Nat} {l:List UInt8} {v:Value} (h:w.ownsRow B 5 1 v l.length (Lib.byteCells l)) :
  (convert 47 9 v).run Tryz.prog w = .ok (.string ⟨l.toArray⟩) w:=by
 rcases h.2 with ⟨rfl,hz⟩ | ⟨g,cap,cur,rfl,_⟩
 ·have:l = []:=List.length_eq_zero_iff.1 hz;subst this;rfl
 ·rw [run_convert_bytes_string w _ _ 5 _ _ _ Tryz.underlying47 Tryz.underlying5 Tryz.underlying9]
  have hb:=run_bytesToString (P:=Tryz.prog) w ⟨g,0,none⟩ l.length cap (l.map fun b=>((b.toNat:Nat):Int)) (by
   have:=run_loadCells_list (P:=Tryz.prog) (w:=w) ⟨g,0,none⟩ (Lib.byteCells l) (fun j x hj=>by
    have:=h.cells (g:=g) rfl j x hj
    simpa [Addr.add] using this)
   rw [Lib.byteCells_length] at this;rw [this]
   simp [Lib.byteCells,List.map_map,Function.comp_def])
  rw [hb,push_all];simp
theorem infoPart:(Tryz.prog.info? 75).map (fun i=>(i.zero,i.size,i.bytes)) = some (some (.agg #[.int .i64 0,.bool false,.string ⟨#[]⟩,.string ⟨#[]⟩,.slice none 0 0]),5,72):=by kernel_rfl
theorem keep_off {w:World} {p i j:Nat} {u v:Value} (hij:i ≠ j) (h:w.cell? ⟨p,j,none⟩ = some u):(w.setCell ⟨p,i,none⟩ v).cell? ⟨p,j,none⟩ = some u :=
 (World.cell?_setCell_other _ _ _ _ (by simp [hij])).trans h
def Ended (B:Nat) (S:Nat→Prop) (p:Nat) (a:A) (w:World) (e:Ending) (w':World):Prop :=
 e = .returned (.tuple #[])∧AccAt w' B S p ⟨a.flush,none⟩∧Fr B S w w'
theorem ended_mk {w:World} {B p:Nat} {S:Nat→Prop} {vl:Value} {l:PL} {a:Option Addr} {cap:Nat} {v1 v2:Value} {q:Bool} (hp:w.heap[p]? = some (.cells #[vl,v1,v2,.bool q] 145 (0,0))) (hB:B≤p) (hS:¬ S p)
  (hb:Body w B S vl (.slice a 0 cap) l []):AccAt ((w.setCell ⟨p,2,none⟩ (.bool false)).setCell ⟨p,1,none⟩ (.slice a 0 cap)) B S p ⟨l,none⟩∧Fr B S w ((w.setCell ⟨p,2,none⟩ (.bool false)).setCell ⟨p,1,none⟩ (.slice a 0 cap)):=by
 have g1:=heap_setCell_same _ _ 2 _ _ (.bool false) hp;have g2:=heap_setCell_same _ _ 1 _ _ (.slice a 0 cap) g1;refine ⟨⟨vl,.slice a 0 cap,q,g2,hB,hS,(fun x h=>by cases h),(hb.setP hp hS _ _).setP g1 hS _ _⟩,((Fr.refl B S w).setCell hB hS _).setCell hB hS _⟩
theorem AccAt.heap {w w':World} {B p:Nat} {S:Nat→Prop} {a:A} (h:AccAt w B S p a) (hh:w'.heap = w.heap):AccAt w' B S p a:=by
 obtain ⟨vl,vb,q,hp,hB,hS,hq,hb⟩:=h;exact ⟨vl,vb,q,by rw [hh];exact hp,hB,hS,hq,hb.heap hh⟩
theorem fill5 {u:World} {B g n cap:Nat} {xs:List Value} {z0 z1 z2 z3 z4:Value} (h:u.ownsRow B 75 5 (.slice (some ⟨g,0,none⟩) (n + 1) cap) (n + 1) (xs ++ [z0,z1,z2,z3,z4])) (v0 v1 v2 v3 v4:Value) :
  (((((u.setCell ⟨g,n * 5,none⟩ v0).setCell ⟨g,n * 5 + 1,none⟩ v1).setCell ⟨g,n * 5 + 2,none⟩ v2).setCell ⟨g,n * 5 + 3,none⟩ v3).setCell ⟨g,n * 5 + 4,none⟩ v4).ownsRow B 75 5 (.slice (some ⟨g,0,none⟩) (n + 1) cap) (n + 1) (xs ++ [v0,v1,v2,v3,v4]) ∧
  (∀ b,b ≠ g→(((((u.setCell ⟨g,n * 5,none⟩ v0).setCell ⟨g,n * 5 + 1,none⟩ v1).setCell ⟨g,n * 5 + 2,none⟩ v2).setCell ⟨g,n * 5 + 3,none⟩ v3).setCell ⟨g,n * 5 + 4,none⟩ v4).heap[b]? = u.heap[b]?) ∧
  (((((u.setCell ⟨g,n * 5,none⟩ v0).setCell ⟨g,n * 5 + 1,none⟩ v1).setCell ⟨g,n * 5 + 2,none⟩ v2).setCell ⟨g,n * 5 + 3,none⟩ v3).setCell ⟨g,n * 5 + 4,none⟩ v4).heap.size = u.heap.size:=by
 have hl:=h.1;simp only [List.length_append,List.length_cons,List.length_nil] at hl;have hx:xs.length = n * 5:=by omega
 have h1:=(h.stored (n * 5) v0).1;have h2:=(h1.stored (n * 5 + 1) v1).1;have h3:=(h2.stored (n * 5 + 2) v2).1;have h4:=(h3.stored (n * 5 + 3) v3).1;have h5:=(h4.stored (n * 5 + 4) v4).1;refine ⟨?_,fun b hb=>?_,by simp⟩
 ·have e:(((((xs ++ [z0,z1,z2,z3,z4]).set (n * 5) v0).set (n * 5 + 1) v1).set (n * 5 + 2) v2).set (n * 5 + 3) v3).set (n * 5 + 4) v4 = xs ++ [v0,v1,v2,v3,v4]:=by
   simp [List.set_append,hx]
  rwa [e] at h5
 ·rw [heap_setCell_other _ _ _ _ hb,heap_setCell_other _ _ _ _ hb,heap_setCell_other _ _ _ _ hb,heap_setCell_other _ _ _ _ hb,heap_setCell_other _ _ _ _ hb]
theorem new5 {u:World} {B g n cap:Nat} {xs:List Value} {z0 z1 z2 z3 z4:Value} (h:u.ownsRow B 75 5 (.slice (some ⟨g,0,none⟩) (n + 1) cap) (n + 1) (xs ++ [z0,z1,z2,z3,z4])) :
  u.cell? ⟨g,n * 5,none⟩ = some z0∧u.cell? ⟨g,n * 5 + 1,none⟩ = some z1∧u.cell? ⟨g,n * 5 + 2,none⟩ = some z2∧u.cell? ⟨g,n * 5 + 3,none⟩ = some z3∧u.cell? ⟨g,n * 5 + 4,none⟩ = some z4:=by
 have hl:=h.1;simp only [List.length_append,List.length_cons,List.length_nil] at hl;have hx:xs.length = n * 5:=by omega
 refine ⟨?_,?_,?_,?_,?_⟩ <;> rw [h.cellAt _ (by omega)] <;> simp [List.getElem?_append,hx]
theorem lit_cells (S:Nat→Prop) (w:World) (q:Bool) (bs:List UInt8) (h:bs.length≤100000000):CellsS S w (A.lit q bs) [.int .i64 1,.bool q,.string ⟨bs.toArray⟩,.string ⟨#[]⟩,.slice none 0 0] :=
 ⟨none,0,[],rfl,(by show (List.toArray _).size≤_;rw [List.size_toArray];unfold R;omega),(by decide),(fun _ _ _=>⟨Nat.le_refl _,Nat.zero_le _,.inl rfl⟩),rfl⟩
theorem grown_mk {w w1:World} {B p g n cap:Nat} {S:Nat→Prop} {vl vb:Value} {l:PL} {bs:List UInt8} {xs:List Value} {z0 z1 z2 z3 z4 v0 v1 v2 v3 v4 b q:Value} {pt:PL} {Z:Obj}
  (hp:w.heap[p]? = some (.cells #[vl,vb,b,q] 145 (0,0))) (hB:B≤p) (hS:¬ S p) (hSl:∀ x,S x→x < w.heap.size) (hbd:Body w B S vl vb l bs) (hn:l.len = n) (hpt:pt.len = 1)
  (hxs:CellsS S w l xs) (hvs:CellsS S w pt [v0,v1,v2,v3,v4])
  (hg:(w.alloc Z).drew.grownBy w1 vl.ownBlock) (hat:vl.ownBlock = some g∨g = w.heap.size + 1) (h1:w1.ownsRow B 75 5 (.slice (some ⟨g,0,none⟩) (n + 1) cap) (n + 1) (xs ++ [z0,z1,z2,z3,z4])) :
  w1.heap[p]? = some (.cells #[vl,vb,b,q] 145 (0,0))∧g ≠ p ∧
  (∀ W,(W = (((((w1.setCell ⟨g,n * 5,none⟩ v0).setCell ⟨g,n * 5 + 1,none⟩ v1).setCell ⟨g,n * 5 + 2,none⟩ v2).setCell ⟨g,n * 5 + 3,none⟩ v3).setCell ⟨g,n * 5 + 4,none⟩ v4).setCell ⟨p,0,none⟩ (.slice (some ⟨g,0,none⟩) (n + 1) cap) ∨
   W = (((((w1.setCell ⟨p,0,none⟩ (.slice (some ⟨g,0,none⟩) (n + 1) cap)).setCell ⟨g,n * 5,none⟩ v0).setCell ⟨g,n * 5 + 1,none⟩ v1).setCell ⟨g,n * 5 + 2,none⟩ v2).setCell ⟨g,n * 5 + 3,none⟩ v3).setCell ⟨g,n * 5 + 4,none⟩ v4) →
   W.heap[p]? = some (.cells #[.slice (some ⟨g,0,none⟩) (n + 1) cap,vb,b,q] 145 (0,0))∧Body W B S (.slice (some ⟨g,0,none⟩) (n + 1) cap) vb (l.app pt) bs∧Fr B S w W):=by
 have hne:=hbd.ne hp hS;obtain ⟨xs',o1,_,o3,o4,o5⟩:=hbd;have hplt:p < w.heap.size:=(Array.getElem?_eq_some_iff.1 hp).1;have hpo:some p ≠ vl.ownBlock:=fun e=>hne p (.inr (.inl e.symm)) rfl;have hA:∀ x,x < w.heap.size→some x ≠ vl.ownBlock→w1.heap[x]? = w.heap[x]?:=fun x hx ho=>(hg.block x (by show x < (w.alloc Z).heap.size;simp;omega) ho).trans (Below.heap_alloc _ _ _ hx);have hp1:=(hA p hplt hpo).trans hp;have hgp:g ≠ p:=by
  rcases hat with e | e
  ·intro h;exact hpo (h ▸ e).symm
  ·omega
 have hsz:w.heap.size≤w1.heap.size:=by have:=hg.size;simp at this;omega
 have hBg:B≤g:=(h1.lt g rfl).1;have hSg:¬ S g:=by
  rcases hat with e | e
  ·exact o3 g e
  ·intro h;have:=hSl g h;omega
 have hSk:∀ x,S x→x < w.heap.size→w1.heap[x]? = w.heap[x]?:=fun x hx hlt=>hA x hlt (fun e=>o3 x e.symm hx);have hc1:=hxs.keep hsz hSk;have hv1:=hvs.keep hsz hSk
 have ho4:w1.ownsRow B 5 1 vb bs.length (Lib.byteCells bs):=own_keep o4 fun x hx hlt=>hA x hlt (by
  intro e;obtain ⟨c1,k1⟩:=own_type o4 hx;obtain ⟨c2,k2⟩:=own_type o1 e.symm
  exact type_ne k2 k1 (by decide) rfl)
 have hbg:∀ x,vb.ownBlock = some x→x ≠ g:=fun x hx=>by
  obtain ⟨c1,k1⟩:=own_type ho4 hx;obtain ⟨c2,k2⟩:=own_type h1 (g:=g) rfl;exact type_ne k1 k2 (by decide)
 have fr1:Fr B S w w1:=((Fr.refl B S w).alloc Z).drew.grown hg (fun k hk=>⟨(o1.lt k hk).1,o3 k hk⟩);have hbody:∀ U:World,w1.heap.size≤U.heap.size→(∀ x,x ≠ g→x ≠ p→U.heap[x]? = w1.heap[x]?)→U.ownsRow B 75 5 (.slice (some ⟨g,0,none⟩) (n + 1) cap) (n + 1) (xs ++ [v0,v1,v2,v3,v4]) →
   Body U B S (.slice (some ⟨g,0,none⟩) (n + 1) cap) vb (l.app pt) bs:=fun U hs hk ho=>by
  have hkS:∀ x,S x→x < w1.heap.size→U.heap[x]? = w1.heap[x]?:=fun x hx _=>hk x (fun e=>hSg (e ▸ hx)) (fun e=>hS (e ▸ hx));refine ⟨xs ++ [v0,v1,v2,v3,v4],by rw [PL.app_len,hn,hpt];exact ho,(hc1.keep hs hkS).app (hv1.keep hs hkS),fun x hx=>?_,own_keep ho4 fun x hx hlt=>hk x (hbg x hx) (hne x (.inr (.inr hx))),o5⟩;simp only [Value.ownBlock,Option.some.injEq] at hx;subst hx;exact hSg
 refine ⟨hp1,hgp,fun W hW=>?_⟩;rcases hW with rfl | rfl
 ·obtain ⟨f1,f2,f3⟩:=fill5 h1 v0 v1 v2 v3 v4;have hpU:=(f2 p (Ne.symm hgp)).trans hp1;refine ⟨heap_setCell_same _ _ 0 _ _ _ hpU,hbody _ (by simp) (fun x h1 h2=>(heap_setCell_other _ _ _ _ h2).trans (f2 x h1)) (own_other f1 (fun x hx=>by simp only [Value.ownBlock,Option.some.injEq] at hx;subst hx;exact hgp) _),?_⟩;exact (((((fr1.setCell hBg hSg _).setCell hBg hSg _).setCell hBg hSg _).setCell hBg hSg _).setCell hBg hSg _).setCell hB hS _
 ·have h1':=own_other h1 (a:=⟨p,0,none⟩) (fun x hx=>by simp only [Value.ownBlock,Option.some.injEq] at hx;subst hx;exact hgp) (.slice (some ⟨g,0,none⟩) (n + 1) cap);obtain ⟨f1,f2,f3⟩:=fill5 h1' v0 v1 v2 v3 v4;have hpU:=(f2 p (Ne.symm hgp)).trans (heap_setCell_same _ _ 0 _ _ (.slice (some ⟨g,0,none⟩) (n + 1) cap) hp1);refine ⟨hpU,hbody _ (by simp) (fun x h1 h2=>(f2 x h1).trans (heap_setCell_other _ _ _ _ h2)) f1,?_⟩;exact (((((fr1.setCell hB hS _).setCell hBg hSg _).setCell hBg hSg _).setCell hBg hSg _).setCell hBg hSg _).setCell hBg hSg _
theorem end_none (B:Nat) (S:Nat→Prop) (p:Nat) (l:PL) (w:World) (h:AccAt w B S p ⟨l,none⟩) :
  Calls Tryz.prog 164 #[.pointer (some ⟨p,0,none⟩)] w (Ended B S p ⟨l,none⟩ w):=by
 obtain ⟨vl,vb,q,hp,hB,hS,_,hbd⟩:=h;obtain ⟨a,cap,rfl,hbd⟩:=hbd.none;simp only [Option.isSome,A.bytes,List.length_nil] at hp;have c1:=zc1 hp;have c2:=zc2 hp;have f1:=zf 1 hp;have f2:=zf 2 hp;have k1:=keep_off (i:=2) (v:=.bool false) (by decide) c1;have k2:=World.cell?_setCell_same _ _ (.slice a 0 cap) k1;have HE:=Lib.hid (ended_mk hp hB hS hbd);clear hp hB hbd;go_enter Tryz.func164,Tryz.ntmps164;go_wp2_with fail
 go_region_held3 (fun w'=>w'.cell? ⟨p,1,none⟩ = some (.slice a 0 cap)) (go_keep) (fail)
 go_end0;exact ⟨rfl,HE.out.1.heap rfl,HE.out.2.drew⟩
theorem end_some (B:Nat) (S:Nat→Prop) (p:Nat) (l:PL) (q:Bool) (bs:List UInt8) (w:World) (h:AccAt w B S p ⟨l,some (q,bs)⟩) (hl:l.len≤100000000) (hbs:bs.length≤100000000) (hSl:∀ x,S x→x < w.heap.size) :
  Calls Tryz.prog 164 #[.pointer (some ⟨p,0,none⟩)] w (Ended B S p ⟨l,some (q,bs)⟩ w):=by
 obtain ⟨i0,hi,hz0,hz1,hz2⟩:=info_parts infoPart;obtain ⟨vl,vb,q',hp,hB,hS',hq,hbd⟩:=h;obtain rfl:=hq _ rfl;obtain ⟨a,cap,rfl,hbd0⟩:=hbd.none;have hbd':=hbd;obtain ⟨xs,hvl,hxs,hsl,hvb,hsb⟩:=hbd;simp only [Option.isSome,A.bytes] at hp hvb hsb hvl hbd' hxs;obtain ⟨al,capl,rfl⟩:∃ al capl,vl = .slice al l.len capl:=by
  rcases hvl.2 with ⟨rfl,h0⟩ | ⟨g,c,cur,rfl,_⟩
  ·exact ⟨none,0,by rw [h0]⟩
  ·exact ⟨_,c,rfl⟩
 have c0:=zc0 hp;have c1:=zc1 hp;have c2:=zc2 hp;have c3:=zc3 hp;have f0:=zf 0 hp;have f1:=zf 1 hp;have f2:=zf 2 hp;have hcv:(convert 47 9 (.slice a bs.length cap)).run Tryz.prog w.drew = .ok (.string ⟨bs.toArray⟩) w.drew:=conv_own (own_keep hvb fun _ _ _=>rfl);have hplt:p < w.heap.size:=(Array.getElem?_eq_some_iff.1 hp).1;have hcv2:∀ Z:Obj,(convert 47 9 (.slice a bs.length cap)).run Tryz.prog (w.alloc Z).drew = .ok (.string ⟨bs.toArray⟩) (w.alloc Z).drew:=fun Z=>conv_own (own_keep hvb fun g _ hlt=>Below.heap_alloc _ _ _ hlt);have HVL:=Lib.hid hvl;have HXS:=Lib.hid hxs;have HP:=Lib.hid hp;have HSL:=Lib.hid hSl;have HBD:=Lib.hid hbd';have HCV2:=Lib.hid hcv2;have HB:=Lib.hid hB;have HI:=Lib.hid hi;have HZ0:=Lib.hid hz0;have HZ1:=Lib.hid hz1;have HZ2:=Lib.hid hz2;clear hvl hxs hvb hp hSl hsl hsb hq hbd' hcv2 hB hi hz0 hz1 hz2 hbd0;go_enter Tryz.func164,Tryz.ntmps164;go_wp2_with fail;refine RT.begins (fun w'=>w'.cell? ⟨p,0,none⟩ = some (.slice al l.len capl)∧w'.cell? ⟨p,1,none⟩ = some (.slice a bs.length cap)∧w'.cell? ⟨p,3,none⟩ = some (.bool q')∧(convert 47 9 (.slice a bs.length cap)).run Tryz.prog w' = .ok (.string ⟨bs.toArray⟩) w') 16 (by kernel_rfl) ?_;have hS:w.drew.cell? ⟨p,0,none⟩ = some (.slice al l.len capl)∧w.drew.cell? ⟨p,1,none⟩ = some (.slice a bs.length cap)∧w.drew.cell? ⟨p,3,none⟩ = some (.bool q')∧(convert 47 9 (.slice a bs.length cap)).run Tryz.prog w.drew = .ok (.string ⟨bs.toArray⟩) w.drew:=⟨c0,c1,c3,hcv⟩;refine RT.tk (i:=0) (v:=?_) rfl hS ?_ ?_;rotate_left 1
 ·(intro wq hq;obtain ⟨s0,s1,s3,s4⟩:=hq;go_simp;try with_reducible rfl)
 refine RT.tk (i:=1) (v:=?_) rfl hS ?_ ?_;rotate_left 1
 ·(intro wq hq;obtain ⟨s0,s1,s3,s4⟩:=hq;go_simp;try with_reducible rfl)
 refine RT.tk (i:=2) (v:=?_) rfl hS ?_ ?_;rotate_left 1
 ·(intro wq hq;obtain ⟨s0,s1,s3,s4⟩:=hq;go_simp;try with_reducible rfl)
 refine RT.tk (i:=3) (v:=?_) rfl hS ?_ ?_;rotate_left 1
 ·(intro wq hq;obtain ⟨s0,s1,s3,s4⟩:=hq;go_simp;try with_reducible rfl)
 refine RT.tk (i:=4) (v:=?_) rfl hS ?_ ?_;rotate_left 1
 ·(intro wq hq;obtain ⟨s0,s1,s3,s4⟩:=hq;go_simp;try with_reducible rfl)
 refine RT.tk (i:=5) (v:=?_) rfl hS ?_ ?_;rotate_left 1
 ·(intro wq hq;obtain ⟨s0,s1,s3,s4⟩:=hq;go_simp;try with_reducible rfl)
 refine RT.tk (i:=6) (v:=?_) rfl hS ?_ ?_;rotate_left 1
 ·(intro wq hq;obtain ⟨s0,s1,s3,s4⟩:=hq;go_simp;try with_reducible rfl)
 refine RT.tk (i:=7) (v:=?_) rfl hS ?_ ?_;rotate_left 1
 ·(intro wq hq;obtain ⟨s0,s1,s3,s4⟩:=hq;go_simp;try with_reducible rfl)
 refine RT.tk (i:=8) (v:=?_) rfl hS ?_ ?_;rotate_left 1
 ·(intro wq hq;obtain ⟨s0,s1,s3,s4⟩:=hq;go_simp;try with_reducible rfl)
 refine RT.tk (i:=9) (v:=?_) rfl hS ?_ ?_;rotate_left 1
 ·(intro wq hq;obtain ⟨s0,s1,s3,s4⟩:=hq;go_simp;try with_reducible rfl)
 refine RT.tk (i:=10) (v:=?_) rfl hS ?_ ?_;rotate_left 1
 ·(intro wq hq;obtain ⟨s0,s1,s3,s4⟩:=hq;go_simp;try with_reducible rfl)
 refine RT.tk (i:=11) (v:=?_) rfl hS ?_ ?_;rotate_left 1
 ·(intro wq hq;obtain ⟨s0,s1,s3,s4⟩:=hq;go_simp;try with_reducible rfl)
 refine RT.tk (i:=12) (v:=?_) rfl hS ?_ ?_;rotate_left 1
 ·(intro wq hq;obtain ⟨s0,s1,s3,s4⟩:=hq;go_simp;try with_reducible rfl)
 refine RT.tk (i:=13) (v:=?_) rfl hS ?_ ?_;rotate_left 1
 ·(intro wq hq;obtain ⟨s0,s1,s3,s4⟩:=hq;go_simp;try with_reducible rfl)
 refine RT.tk (i:=14) (v:=?_) rfl hS ?_ ?_;rotate_left 1
 ·(intro wq hq;obtain ⟨s0,s1,s3,s4⟩:=hq;go_simp;try with_reducible rfl)
 refine RT.all (rs:=[15]) (by kernel_rfl) (by simp) ?_;refine RT.All.cons rfl (fun K hK=>?_) RT.All.nil;go_simp;refine hK _ _ (fun _=>⟨(World.cell?_alloc_lt _ _ _ hplt).trans c0,(World.cell?_alloc_lt _ _ _ hplt).trans c1,(World.cell?_alloc_lt _ _ _ hplt).trans c3,HCV2.out _⟩) ?_;clear hK K;refine RT.all (rs:=[16]) (by kernel_rfl) (by simp) ?_;refine RT.All.cons rfl (fun K hK=>?_) RT.All.nil;refine step_append_lies _ (by rfl) _ _ _ (by rfl) B 75 i0 _ 5 72 Tryz.underlying38 HI.out HZ0.out HZ1.out HZ2.out rfl (by omega) (.slice al l.len capl) l.len xs (by rfl) ((HVL.out.alloc _).drew)
  ⟨w.heap.size,0,none⟩ 1 1 [.int .i64 0,.bool false,.string ⟨#[]⟩,.string ⟨#[]⟩,.slice none 0 0] (by rfl) (by rfl) (World.news_of_block (cs:=#[.int .i64 0,.bool false,.string ⟨#[]⟩,.string ⟨#[]⟩,.slice none 0 0]) (t:=75) (fr:=(0,0)) (heap_alloc_new w _)) (by simp [Value.oneCell'])
  (by omega) (by unfold maxLen;omega) (by omega) (by have:=HB.out;simp;omega) (w.heap.size + 1) (by simp) ?_
 intro g capn w1 hown1 hgrow hat hlt;refine hK _ _ (fun h=>absurd h (by decide)) ?_;clear hK K;have hgm:=grown_mk (pt:=A.lit q' bs) (v0:=.int .i64 1) (v1:=.bool q') (v2:=.string ⟨bs.toArray⟩) (v3:=.string ⟨#[]⟩) (v4:=.slice none 0 0) HP.out HB.out hS' HSL.out HBD.out rfl rfl HXS.out (lit_cells S w q' bs hbs) hgrow hat hown1;obtain ⟨hp1,hgp,hW⟩:=hgm;obtain ⟨n0,n1,n2,n3,n4⟩:=new5 hown1;have m0:=zc0 hp1;have mf:=frozen_of_row _ _ 0 _ _ hp1;have nf0:=hown1.frozenAt (l.len * 5);have nf1:=hown1.frozenAt (l.len * 5 + 1);have nf2:=hown1.frozenAt (l.len * 5 + 2);have nf3:=hown1.frozenAt (l.len * 5 + 3);have nf4:=hown1.frozenAt (l.len * 5 + 4);have hgp1:¬ (g = p):=hgp;have hi1:(l.len:Int) < (l.len:Int) + 1:=by omega
 have hgp2:¬ (p = g):=fun e=>hgp e.symm;have HW:=Lib.hid hW;clear hW hp1 hgp hgrow hat hown1 hlt;refine RT.takeW (i:=17) (v:=?_) rfl (by decide) (by kernel_rfl) (by kernel_rfl) (by kernel_rfl) (fun _ _ _ h=>h) (.inl ⟨by rfl,?_⟩) ?_;rotate_left 1
 ·(intro wq _;go_simp;try with_reducible rfl)
 refine RT.takeW (i:=19) (v:=?_) rfl (by decide) (by kernel_rfl) (by kernel_rfl) (by kernel_rfl) (fun _ _ _ h=>h) (.inl ⟨by rfl,?_⟩) ?_;rotate_left 1
 ·(intro wq _;go_simp;try with_reducible rfl)
 refine RT.takeW (i:=20) (v:=?_) rfl (by decide) (by kernel_rfl) (by kernel_rfl) (by kernel_rfl) (fun _ _ _ h=>h) (.inl ⟨by rfl,?_⟩) ?_;rotate_left 1
 ·(intro wq _;go_simp;try with_reducible rfl)
 refine RT.all (rs:=[18,21]) (by kernel_rfl) (by simp) ?_;refine RT.All.cons rfl (fun K hK=>?_) (RT.All.cons rfl (fun K hK=>?_) RT.All.nil)
 ·go_simp;refine hK _ _ (fun h=>absurd h (by decide)) ?_;clear hK K;refine RT.all (rs:=[21]) (by kernel_rfl) (by simp) ?_;refine RT.All.cons rfl (fun K hK=>?_) RT.All.nil;go_simp;refine hK _ _ (fun h=>absurd h (by decide)) ?_;clear hK K;refine RT.done (by kernel_rfl) ?_ _;obtain ⟨hpW,hbW,hfW⟩:=HW.out _ (.inl rfl);generalize ((((((w1.setCell ⟨g,l.len * 5,none⟩ (.int .i64 1)).setCell ⟨g,l.len * 5 + 1,none⟩ (.bool q')).setCell ⟨g,l.len * 5 + 2,none⟩ (.string ⟨bs.toArray⟩)).setCell ⟨g,l.len * 5 + 3,none⟩ (.string ⟨#[]⟩)).setCell ⟨g,l.len * 5 + 4,none⟩ (.slice none 0 0)).setCell ⟨p,0,none⟩ (.slice (some ⟨g,0,none⟩) (l.len + 1) capn)) = W at hpW hbW hfW ⊢
  obtain ⟨a',cap',hva,hbd0⟩:=hbW.none;have hx:=ended_mk hpW HB.out hS' hbd0;simp only [Value.slice.injEq] at hva;obtain ⟨rfl,_,rfl⟩:=hva;have d1:=zc1 hpW;have d2:=zc2 hpW;have e1:=zf 1 hpW;have e2:=zf 2 hpW;have HX:=Lib.hid hx;have HFW:=Lib.hid hfW;clear hx hpW hbW hfW hbd0 n0 n1 n2 n3 n4 m0 mf nf0 nf1 nf2 nf3 nf4 c0 c1 c2 c3 f0 f1 f2 hcv hS;go_wp2_with fail;go_region;go_end0;exact ⟨rfl,HX.out.1.heap rfl,(HFW.out.trans HX.out.2).drew⟩
 ·go_simp;refine hK _ _ (fun h=>absurd h (by decide)) ?_;clear hK K;refine RT.all (rs:=[18]) (by kernel_rfl) (by simp) ?_;refine RT.All.cons rfl (fun K hK=>?_) RT.All.nil;go_simp;refine hK _ _ (fun h=>absurd h (by decide)) ?_;clear hK K;refine RT.done (by kernel_rfl) ?_ _;obtain ⟨hpW,hbW,hfW⟩:=HW.out _ (.inr rfl);generalize ((((((w1.setCell ⟨p,0,none⟩ (.slice (some ⟨g,0,none⟩) (l.len + 1) capn)).setCell ⟨g,l.len * 5,none⟩ (.int .i64 1)).setCell ⟨g,l.len * 5 + 1,none⟩ (.bool q')).setCell ⟨g,l.len * 5 + 2,none⟩ (.string ⟨bs.toArray⟩)).setCell ⟨g,l.len * 5 + 3,none⟩ (.string ⟨#[]⟩)).setCell ⟨g,l.len * 5 + 4,none⟩ (.slice none 0 0)) = W at hpW hbW hfW ⊢
  obtain ⟨a',cap',hva,hbd0⟩:=hbW.none;have hx:=ended_mk hpW HB.out hS' hbd0;simp only [Value.slice.injEq] at hva;obtain ⟨rfl,_,rfl⟩:=hva;have d1:=zc1 hpW;have d2:=zc2 hpW;have e1:=zf 1 hpW;have e2:=zf 2 hpW;have HX:=Lib.hid hx;have HFW:=Lib.hid hfW;clear hx hpW hbW hfW hbd0 n0 n1 n2 n3 n4 m0 mf nf0 nf1 nf2 nf3 nf4 c0 c1 c2 c3 f0 f1 f2 hcv hS;go_wp2_with fail;go_region;go_end0;exact ⟨rfl,HX.out.1.heap rfl,(HFW.out.trans HX.out.2).drew⟩
end Lx
end Go.Proofs.YtjmpfihopeohbaaGreatDoor
