/- How many nodes there are; frames but for one block. -/
import Derived.Test.YtoklgmbpgnimcaaGreatDoorTrI
import Derived.Test.YtoklgmbpgnimcaaGreatDoorQTail
namespace Go.Proofs.YtoklgmbpgnimcaaGreatDoor
open Go.RowKit Go.Sort
namespace Tr
open Cls Pt
structure FrP (pb:Nat) (w w':World):Prop where
 os:w'.os = w.os
 tape:w'.tape = w.tape
 output:w'.output = w.output
 size:w.heap.size≤w'.heap.size
 block:∀ b,b < w.heap.size→b ≠ pb→w'.heap[b]? = w.heap[b]?
theorem FrP.refl (pb:Nat) (w:World):FrP pb w w:=⟨rfl,rfl,rfl,Nat.le_refl _,fun _ _ _=>rfl⟩
theorem FrP.trans {pb:Nat} {w w' w'':World} (h:FrP pb w w') (k:FrP pb w' w''):FrP pb w w'' :=
 ⟨k.os.trans h.os,k.tape.trans h.tape,k.output.trans h.output,Nat.le_trans h.size k.size,fun b hb hn=>(k.block b (Nat.lt_of_lt_of_le hb h.size) hn).trans (h.block b hb hn)⟩
theorem FrP.of_below {pb:Nat} {w w':World} (h:Below w.heap.size w w'):FrP pb w w':=⟨h.os,h.tape,h.output,h.size,fun b hb _=>h.block b hb⟩
theorem FrP.set {pb:Nat} (w:World) (i:Nat) (v:Value):FrP pb w (w.setCell ⟨pb,i,none⟩ v):=⟨rfl,rfl,rfl,by simp,fun b _ hn=>Below.heap_setCell _ _ _ _ hn⟩
theorem FrP.below {pb:Nat} {w0 w w':World} (h:FrP pb w w') (hb:Below w0.heap.size w0 w) (hp:w0.heap.size≤pb):Below w0.heap.size w0 w' :=
 ⟨h.os.trans hb.os,h.tape.trans hb.tape,h.output.trans hb.output,Nat.le_trans hb.size h.size,fun b hlt=>(h.block b (Nat.lt_of_lt_of_le hlt hb.size) (by omega)).trans (hb.block b hlt)⟩
end Tr
end Go.Proofs.YtoklgmbpgnimcaaGreatDoor
