/- rightAt for a simple command, a loop over words, cases, a function, and what is no kind. -/
/- rightAt for And and Or. -/
/- rightAt, Right, Program: for all nodes. -/
/- How many nodes there are; frames but for one block. -/
import Derived.Test.YtbcldfaphnnmlaaTrL
import Derived.Test.YtbcldfaphnnmlaaQTail
import Derived.Test.YtbcldfaphnnmlaaTrI
namespace Go.Proofs.Ytbcldfaphnnmlaa
open Go.RowKit Go.Sort
namespace Tr
open Cls Pt
end Tr
end Go.Proofs.Ytbcldfaphnnmlaa
namespace Go.Proofs.Ytbcldfaphnnmlaa
open Go.RowKit Go.Sort
namespace Tr
open Cls Pt
end Tr
end Go.Proofs.Ytbcldfaphnnmlaa
namespace Go.Proofs.Ytbcldfaphnnmlaa
open Go.RowKit Go.Sort
namespace Tr
open Cls Pt
end Tr
end Go.Proofs.Ytbcldfaphnnmlaa
namespace Go.Proofs.Ytbcldfaphnnmlaa
open Go.RowKit Go.Sort
namespace Tr
open Cls Pt
structure FrP (pb:Nat) (w w':World):Prop where
 os:w'.os = w.os
 tape:w'.tape = w.tape
 output:w'.output = w.output
 size:w.heap.size≤w'.heap.size
 block:∀ b,b < w.heap.size→b ≠ pb→w'.heap[b]? = w.heap[b]?
theorem FrP.refl (pb:Nat) (w:World):FrP pb w w:=⟨rfl,rfl,rfl,Nat.le_refl _,fun _ _ _=>rfl⟩
theorem FrP.trans {pb:Nat} {w w' w'':World} (h:FrP pb w w') (k:FrP pb w' w''):FrP pb w w'' :=
 ⟨k.os.trans h.os,k.tape.trans h.tape,k.output.trans h.output,Nat.le_trans h.size k.size,fun b hb hn=>(k.block b (Nat.lt_of_lt_of_le hb h.size) hn).trans (h.block b hb hn)⟩
theorem FrP.below {pb:Nat} {w0 w w':World} (h:FrP pb w w') (hb:Below w0.heap.size w0 w) (hp:w0.heap.size≤pb):Below w0.heap.size w0 w' :=
 ⟨h.os.trans hb.os,h.tape.trans hb.tape,h.output.trans hb.output,Nat.le_trans hb.size h.size,fun b hlt=>(h.block b (Nat.lt_of_lt_of_le hlt hb.size) (by omega)).trans (hb.block b hlt)⟩
end Tr
end Go.Proofs.Ytbcldfaphnnmlaa
