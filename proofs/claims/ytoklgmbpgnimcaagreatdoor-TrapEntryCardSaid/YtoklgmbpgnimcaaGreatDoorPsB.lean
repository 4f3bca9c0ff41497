/- The parser as it lies in memory; what its functions do. -/
import Derived.Test.YtoklgmbpgnimcaaGreatDoorPsA
import Derived.Test.YtoklgmbpgnimcaaGreatDoorPsT
import Derived.Test.YtoklgmbpgnimcaaGreatDoorRegN
namespace Go.Proofs.YtoklgmbpgnimcaaGreatDoor
open Go.RowKit Go.Sort
namespace Ps
open Cls Pt Tr Sp Lx
def faultP (i err:Nat):Value:=.iface 79 (.agg #[.int .i64 i,.int .i64 err])
abbrev thrownP (i err:Nat):Ending:=.panicked [{ v:=faultP i err,recovered:=false }]
structure TokOK (s:ByteArray) (o:Tok):Prop where
 i:o.i≤s.size
 j:o.j≤s.size
 e:o.k = 4→o.j = s.size∧o.l = .nil
 f:ftot o.l≤2 * s.size
 t:o.t.size≤s.size
def PRow (w:World) (pb:Nat) (s:ByteArray) (o:Tok) (a:Option Addr) (cap d:Nat):Prop :=
 w.heap[pb]? = some (.cells #[.string s,.int .i64 o.k,.int .i64 o.i,.string o.t,.slice a o.l.len cap,.int .i64 o.err,.string (textF o),.int .i64 o.j,.int .i64 d] 86 (0,0))
structure PAt (S:Nat→Prop) (w:World) (pb:Nat) (s:ByteArray) (o:Tok) (d:Nat):Prop where
 ex:∃ a cap,PRow w pb s o a cap d∧LiesS S w a cap o.l
 ns:¬ S pb
 lt:∀ b,S b→b < w.heap.size
 ok:TokOK s o
 g:S 1
 m:∃ m,w.cell? ⟨1,0,none⟩ = some (.int .i64 m)
def Up (S:Nat→Prop) (w w':World) (b:Nat):Prop:=S b∨(w.heap.size≤b∧b < w'.heap.size)
theorem PAt.pb {S:Nat→Prop} {w:World} {pb:Nat} {s:ByteArray} {o:Tok} {d:Nat} (h:PAt S w pb s o d):pb < w.heap.size:=by
 obtain ⟨a,cap,hr,_⟩:=h.ex
 exact (Array.getElem?_eq_some_iff.1 hr).1
theorem PAt.below {S:Nat→Prop} {w w':World} {pb:Nat} {s:ByteArray} {o:Tok} {d:Nat} (h:PAt S w pb s o d) (hb:Below w.heap.size w w'):PAt S w' pb s o d:=by
 obtain ⟨⟨a,cap,hr,hl⟩,h1,h2,h3,h4,m,hm⟩:=h
 exact ⟨⟨a,cap,(hb.block _ (Array.getElem?_eq_some_iff.1 hr).1).trans hr,hl.keep hb.size fun b _ hlt=>hb.block b hlt⟩,h1,fun b hs=>Nat.lt_of_lt_of_le (h2 b hs) hb.size,h3,h4,m,cell_below hb hm⟩
theorem PAt.up {S:Nat→Prop} {w w':World} {pb:Nat} {s:ByteArray} {o:Tok} {d:Nat} (h:PAt S w' pb s o d) (hpb:pb < w.heap.size):PAt (Up S w w') w' pb s o d:=by
 obtain ⟨⟨a,cap,hr,hl⟩,h1,h2,h3,h4,h5⟩:=h
 exact ⟨⟨a,cap,hr,hl.mono fun b hb _=>.inl hb⟩,fun hb=>hb.elim h1 fun hb=>by omega,fun b hb=>hb.elim (h2 b) fun hb=>hb.2,h3,.inl h4,h5⟩
theorem TokOK.text {s:ByteArray} {o:Tok} (h:TokOK s o) (hs:s.size≤400000):(textF o).size≤800000:=by
 unfold textF
 split
 ·have:=h.t;omega
 ·split
  ·show (1:Nat)≤_;omega
  ·have hf:=h.f
   cases hl:o.l with
   | nil=>exact Nat.zero_le _
   | cons k q t o' f r =>
    rw [hl] at hf
    simp only [ftot] at hf
    cases r with
    | nil =>
     simp only [plainT]
     split
     ·omega
     ·exact Nat.zero_le _
    | cons=>exact Nat.zero_le _
def Does {T:Type} (S:Nat→Prop) (pb:Nat) (s:ByteArray) (d:Nat) (w:World) (V:(Nat→Prop)→World→Value→T→Prop) (r:Rs T) (e:Ending) (w':World):Prop :=
 FrP pb w w'∧match r with
 | .ok a o=>(∃ v,e = .returned v∧V (Up S w w') w' v a)∧PAt (Up S w w') w' pb s o d
 | .bad i er=>e = thrownP i er
def VUnit (_:Nat→Prop) (_:World) (v:Value) (_:Unit):Prop:=v = .tuple #[]
def VBool (_:Nat→Prop) (_:World) (v:Value) (b:Bool):Prop:=v = .bool b
def VM {T:Type} (V:(Nat→Prop)→World→Value→T→Prop):Prop:=∀ (S S':Nat→Prop) (w:World) (v:Value) (a:T),(∀ b,S b→S' b)→V S w v a→V S' w v a
theorem VM.unit:VM VUnit:=fun _ _ _ _ _ _ h=>h
theorem VM.bool:VM VBool:=fun _ _ _ _ _ _ h=>h
theorem PAt.mono {S S':Nat→Prop} {w:World} {pb:Nat} {s:ByteArray} {o:Tok} {d:Nat} (h:PAt S w pb s o d) (hS:∀ b,S b→S' b) (hn:¬ S' pb) (hl:∀ b,S' b→b < w.heap.size):PAt S' w pb s o d:=by
 obtain ⟨⟨a,cap,hr,hl'⟩,_,_,h3,h4,h5⟩:=h
 exact ⟨⟨a,cap,hr,hl'.mono fun b hb _=>hS b hb⟩,hn,hl,h3,hS _ h4,h5⟩
theorem Up.out {S:Nat→Prop} {w w':World} {pb:Nat} (hn:¬ S pb) (hpb:pb < w.heap.size):¬ Up S w w' pb:=fun h=>h.elim hn fun h=>by omega
theorem Up.lt {S:Nat→Prop} {w w':World} (hl:∀ b,S b→b < w.heap.size) (hs:w.heap.size≤w'.heap.size):∀ b,Up S w w' b→b < w'.heap.size:=fun b h=>h.elim (fun h=>Nat.lt_of_lt_of_le (hl b h) hs) fun h=>h.2
theorem Does.after {T:Type} {S S':Nat→Prop} {pb d:Nat} {s:ByteArray} {w w1 w2:World} {V:(Nat→Prop)→World→Value→T→Prop} {r:Rs T} {e:Ending} (hV:VM V) (hn:¬ S pb) (hl:∀ b,S b→b < w.heap.size) (hpb:pb < w.heap.size) (hf:FrP pb w w1)
  (hS:∀ b,S' b→Up S w w1 b) (h:Does S' pb s d w1 V r e w2):Does S pb s d w V r e w2:=by
 have hf2:=hf.trans h.1
 have hu:∀ b,Up S' w1 w2 b→Up S w w2 b:=fun b hb=>by
  have h1:=hf.size
  have h2:=h.1.size
  rcases hb with hb | hb
  ·exact (hS b hb).imp id fun hb=>by omega
  ·exact .inr (by omega)
 refine ⟨hf2,?_⟩
 cases r with
 | ok a o=>exact ⟨let ⟨v,he,hv⟩:=h.2.1;⟨v,he,hV _ _ _ _ _ hu hv⟩,h.2.2.mono hu (Up.out hn hpb) (Up.lt hl hf2.size)⟩
 | bad i er=>exact h.2
theorem PAt.after {T:Type} {S:Nat→Prop} {pb d:Nat} {s:ByteArray} {w w1 w2:World} {o:Tok} {V:(Nat→Prop)→World→Value→T→Prop} {r:Rs T} {e:Ending} (hV:VM V) (h:PAt S w pb s o d) (hb:Below w.heap.size w w1) (hd:Does S pb s d w1 V r e w2):Does S pb s d w V r e w2 :=
 hd.after hV h.ns h.lt h.pb (FrP.of_below hb) fun b hb=>.inl hb
theorem PAt.go {T:Type} {S:Nat→Prop} {pb d:Nat} {s:ByteArray} {w w1 w2:World} {o:Tok} {V:(Nat→Prop)→World→Value→T→Prop} {r:Rs T} {e:Ending} (hV:VM V) (h:PAt S w pb s o d) (hf:FrP pb w w1) (hd:Does (Up S w w1) pb s d w1 V r e w2):Does S pb s d w V r e w2 :=
 hd.after hV h.ns h.lt h.pb hf fun _ hb=>hb
theorem PAt.does {T:Type} {S:Nat→Prop} {pb d:Nat} {s:ByteArray} {w w1:World} {o:Tok} {V:(Nat→Prop)→World→Value→T→Prop} {a:T} {v:Value} (h:PAt S w pb s o d) (hb:Below w.heap.size w w1) (hv:V (Up S w w1) w1 v a):Does S pb s d w V (.ok a o) (.returned v) w1 :=
 ⟨FrP.of_below hb,⟨v,rfl,hv⟩,(h.below hb).up h.pb⟩
theorem wrong_any (S:Nat→Prop) (pb:Nat) (s:ByteArray) (o:Tok) (d err:Nat) (w:World) (h:PAt S w pb s o d) :
  Calls Tryz.prog 43 #[.pointer (some ⟨pb,0,none⟩),.int .i64 err] w fun e w'=>e = thrownP o.i err∧Below w.heap.size w w':=by
 obtain ⟨⟨a,cap,hr,hl⟩,h1,h2,h3,_⟩:=h
 have c2:=zc2 hr
 clear hr hl
 go_enter Tryz.func43,Tryz.ntmps43
 go_wp2_with fail
 exact ⟨rfl,rfl,Below.refl _ _⟩
theorem text_any (o:Tok) (a:Option Addr) (cap:Nat) (w:World) (h:Lies w a cap o.l) :
  Calls Tryz.prog 42 #[.agg #[.int .i64 o.k,.int .i64 o.i,.string o.t,.slice a o.l.len cap,.int .i64 o.err]] w fun e w'=>e = .returned (.string (textF o))∧Below w.heap.size w w':=by
 have hp:=fun w' (hb:Below w.heap.size w w')=>plain_any o.l a cap w' (h.below hb)
 have HP:=Lib.hid hp
 have hle:=h.le
 clear hp h
 by_cases h2:o.k = 2
 ·have e:textF o = o.t:=by simp [textF,h2]
  rw [e,h2]
  go_enter Tryz.func42,Tryz.ntmps42
  go_wp2_with fail
  go_ret
  exact ⟨rfl,bel1 _ _⟩
 by_cases h3:o.k = 3
 ·have e:textF o = ⟨#[10]⟩:=by simp [textF,h3]
  rw [e,h3]
  go_enter Tryz.func42,Tryz.ntmps42
  go_wp2_with fail
  go_ret
  exact ⟨rfl,bel1 _ _⟩
 have e:textF o = plainT o.l:=by simp [textF,h2,h3]
 have e2:((o.k:Int) == 2) = false:=by rw [beq_eq_false_iff_ne];omega
 have e3:((o.k:Int) == 3) = false:=by rw [beq_eq_false_iff_ne];omega
 rw [e]
 clear e h2 h3
 go_enter Tryz.func42,Tryz.ntmps42
 go_wp2_with fail
 refine (HP.out _ (bel1 _ _)).mono ?_
 rintro e w' ⟨rfl,rfl⟩
 go_wp2_with fail
 go_ret
 exact ⟨rfl,bel1 _ _⟩
end Ps
end Go.Proofs.YtoklgmbpgnimcaaGreatDoor
