/-
  NARROWER THAN 'FOR EVERY INPUT', by the rows' own cells (each row's printed sentence says how): FrameRuns: loops · FrameLoops: loops.
  DERIVED. THE GIVEN ROWS OF THIS SEAT. 2 by the template 'for every input the law returns true; each argument reads behind the call as it read before'; 0 by the template 'total and deterministic' (their statements: YtbcldfaphnnmlaaTotals.lean).
  GIVEN WITH THE SEED: the statements are not yours to turn. If you find one false, say at which input.
  Laid BY PROGRAM, IN A SANDBOX (cutbox-rows.mjs): the forced cells as the released guide's own fill.sh prints them over the translation 33c0bb319b0d038f… (all of the seat's roots in one cut). By AI agents, Wed Nov 11 2026. No macro, syntax, notation, axiom, sorry.
-/
import Derived.Test.YtbcldfaphnnmlaaChecked
import GoSem.Claim
import GoSem.ClaimJoined
import GoSem.ClaimMapViews
import Derived.JoinedTies
import Derived.KernelRfl
namespace Go.Proofs.Ytbcldfaphnnmlaa
/- THE CELL 'sum', in the pinned program and in every row, IS THE sha256 OF THE DUMP (.gsa) THAT YtbcldfaphnnmlaaProg.lean LOADS. Nothing in Lean hashes anything: it is a label: what it is worth is what the hold of that sum in a sandbox is worth. -/
noncomputable def Try.pinned : Pinned := { name := "ytbcldfaphnnmlaa", sum := "33c0bb319b0d038fc6e3a0ba711c2b15faef0facbcdc73b6a65c9a152734103e", checked := Try.checked }
namespace Rows
def none {H : Type} : Left H := { results := [], args := [] }

/-- 'deadfalllaw15.FrameRuns': WHATEVER THE INPUT: true; the input reads as it did. -/
def frameRunsSpec : ChangeSpec := { name := "frameRuns", fn := fun _ => fun
  | [d] => { results := [.lit (.bool true)], args := [d] }
  | _ => none }
def frameRunsRow : OpenClaim := { program := "ytbcldfaphnnmlaa", sum := "33c0bb319b0d038fc6e3a0ba711c2b15faef0facbcdc73b6a65c9a152734103e", func := "deadfall/deadfalllaw15.FrameRuns", spec := "frameRuns", unfollowed := true, recurses := true, loops := true, apart := false }
def FrameRunsSaid : Prop := frameRunsRow.holds Try.pinned (OpenSpec.ofChange frameRunsSpec)

/-- ITS FALSE NEIGHBOUR: 'it returns false'. Refute it at one input. -/
def frameRunsWrong : ChangeSpec := { name := "frameRuns", fn := fun _ => fun
  | [d] => { results := [.lit (.bool false)], args := [d] }
  | _ => none }
def FrameRunsWrongFalsely : Prop := frameRunsRow.holds Try.pinned (OpenSpec.ofChange frameRunsWrong)

/-- 'deadfalllaw15.FrameLoops': WHATEVER THE INPUT: true; the input reads as it did. -/
def frameLoopsSpec : ChangeSpec := { name := "frameLoops", fn := fun _ => fun
  | [d1, d2, d3] => { results := [.lit (.bool true)], args := [d1, d2, d3] }
  | _ => none }
def frameLoopsRow : OpenClaim := { program := "ytbcldfaphnnmlaa", sum := "33c0bb319b0d038fc6e3a0ba711c2b15faef0facbcdc73b6a65c9a152734103e", func := "deadfall/deadfalllaw15.FrameLoops", spec := "frameLoops", unfollowed := true, recurses := true, loops := true, apart := false }
def FrameLoopsSaid : Prop := frameLoopsRow.holds Try.pinned (OpenSpec.ofChange frameLoopsSpec)

/-- ITS FALSE NEIGHBOUR: 'it returns false'. Refute it at one input. -/
def frameLoopsWrong : ChangeSpec := { name := "frameLoops", fn := fun _ => fun
  | [d1, d2, d3] => { results := [.lit (.bool false)], args := [d1, d2, d3] }
  | _ => none }
def FrameLoopsWrongFalsely : Prop := frameLoopsRow.holds Try.pinned (OpenSpec.ofChange frameLoopsWrong)

/- THE SECOND FORM. 'bulk': how many values and letters a reading holds, each counted each time it is reached (what is shared counts as often as it is met; a slice's spare places count too). A statement '..UptoSaid' is the law's where the arguments, and the package variables that the reading takes, are together of bulk at most 1048576: NARROWER than '..Said'. Prove '..Said' where nothing that the law and all that it calls make is longer than what came in: it says more and counts as full. Else prove '..UptoSaid'. A law counts once. -/
mutual
def uptoBulk {H : Type} : DataW H → Nat
  | .lit (.string bytes) => bytes.length + 1
  | .lit _ => 1
  | .nil => 1
  | .ptr d => uptoBulk d + 1
  | .slice elems spare => uptoBulkAll elems + uptoBulkAll spare + 1
  | .agg parts => uptoBulkAll parts + 1
  | .iface _ d => uptoBulk d + 1
  | .map entries => uptoBulkEntries entries + 1
  | .held _ => 1
def uptoBulkAll {H : Type} : List (DataW H) → Nat
  | [] => 0
  | d :: r => uptoBulk d + uptoBulkAll r
def uptoBulkEntries {H : Type} : List (Lit × DataW H) → Nat
  | [] => 0
  | x :: r => uptoBulkEntry x + uptoBulkEntries r
def uptoBulkEntry {H : Type} : Lit × DataW H → Nat
  | (.string bytes, d) => bytes.length + uptoBulk d + 1
  | (_, d) => uptoBulk d + 1
 end
def uptoSmall : (H : Type) → List (DataW H) → Bool := fun _ ds => decide (uptoBulkAll ds ≤ 1048576)
def OpenSpec.upto (s : _root_.Go.ChangeSpec) : _root_.Go.OpenSpec := { _root_.Go.OpenSpec.ofChange s with cond := some uptoSmall }

/-- 'deadfalllaw15.FrameRuns', WHERE WHAT IT READS IS OF BULK AT MOST 1048576: true; the input reads as it did. -/
def frameRunsUptoRow : OpenClaim := { program := "ytbcldfaphnnmlaa", sum := "33c0bb319b0d038fc6e3a0ba711c2b15faef0facbcdc73b6a65c9a152734103e", func := "deadfall/deadfalllaw15.FrameRuns", spec := "frameRuns", unfollowed := true, recurses := true, loops := true, apart := false, narrowed := true }
def FrameRunsUptoSaid : Prop := frameRunsUptoRow.holds Try.pinned (OpenSpec.upto frameRunsSpec)

/-- 'deadfalllaw15.FrameLoops', WHERE WHAT IT READS IS OF BULK AT MOST 1048576: true; the input reads as it did. -/
def frameLoopsUptoRow : OpenClaim := { program := "ytbcldfaphnnmlaa", sum := "33c0bb319b0d038fc6e3a0ba711c2b15faef0facbcdc73b6a65c9a152734103e", func := "deadfall/deadfalllaw15.FrameLoops", spec := "frameLoops", unfollowed := true, recurses := true, loops := true, apart := false, narrowed := true }
def FrameLoopsUptoSaid : Prop := frameLoopsUptoRow.holds Try.pinned (OpenSpec.upto frameLoopsSpec)

end Rows
end Go.Proofs.Ytbcldfaphnnmlaa
