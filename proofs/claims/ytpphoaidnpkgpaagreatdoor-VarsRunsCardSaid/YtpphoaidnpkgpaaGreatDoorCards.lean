/-
  DERIVED. GIVEN WITH THE SEED: THE CARDS: each row of YtpphoaidnpkgpaaGreatDoorRows.lean that lists a variable, with what it lists TIED to the program's text (the seventh form; the later family's looks); each row that meets fmt, with fmt's text TOLD by the authors' own Lean function (tested against real Go, not proved from fmt's source: count such statements apart). THE CARD IS WHAT COUNTS. Prove the row's statement (the work); the ties are given (YtpphoaidnpkgpaaGreatDoorTie.lean); close each card by the builder's one call (the guide's Derived/Test/ToyasCard.lean, 'card_holds'). Laid BY PROGRAM, IN A SANDBOX (cutbox-door.mjs). By AI agents, Wed Nov 11 2026. No macro, syntax, notation, axiom, sorry.
-/
import Derived.Test.YtpphoaidnpkgpaaGreatDoorRows
import GoSem.ClaimSeven
namespace Go.Proofs.YtpphoaidnpkgpaaGreatDoor
namespace Rows

/-- THE TIED CARD OF 'deadfalllaw09.VarsRuns'. -/
def varsRunsCard : Claim7 := { stood := { row := varsRunsRow, standIns := [], harness := (true, "1bd6dfc0b94d31d107286f9bdcb02ecee95c88ed5ef60f56b0bd289eb8e1545d"), looks := true }, kinds := [], alts := [], laidByText := true, laidKinds := [.data, .data, .data, .sentinel, .sentinel], laidTests := true, laidLooks := .later }
def VarsRunsCardSaid : Prop := Claim7.holds Tryz.pinned (.plain (OpenSpec.ofChange varsRunsSpec)) varsRunsCard

/-- THE SECOND FORM's CARD OF 'deadfalllaw09.VarsRuns'. -/
def varsRunsUptoCard : Claim7 := { stood := { row := varsRunsUptoRow, standIns := [], harness := (true, "1bd6dfc0b94d31d107286f9bdcb02ecee95c88ed5ef60f56b0bd289eb8e1545d"), looks := true }, kinds := [], alts := [], laidByText := true, laidKinds := [.data, .data, .data, .sentinel, .sentinel], laidTests := true, laidLooks := .later }
def VarsRunsUptoCardSaid : Prop := Claim7.holds Tryz.pinned (.plain (OpenSpec.upto varsRunsSpec)) varsRunsUptoCard
end Rows
end Go.Proofs.YtpphoaidnpkgpaaGreatDoor
