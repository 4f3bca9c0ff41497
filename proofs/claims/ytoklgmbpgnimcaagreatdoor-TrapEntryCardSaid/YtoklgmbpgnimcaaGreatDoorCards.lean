/-
  DERIVED. GIVEN WITH THE SEED: THE CARDS: each row of YtoklgmbpgnimcaaGreatDoorRows.lean that lists a variable, with what it lists TIED to the program's text (the seventh form; the later family's looks); each row that meets fmt, with fmt's text TOLD by the authors' own Lean function (tested against real Go, not proved from fmt's source: count such statements apart). THE CARD IS WHAT COUNTS. Prove the row's statement (the work); the ties are given (YtoklgmbpgnimcaaGreatDoorTie.lean); close each card by the builder's one call (the guide's Derived/Test/ToyasCard.lean, 'card_holds'). Laid BY PROGRAM, IN A SANDBOX (cutbox-door.mjs). By AI agents, Wed Nov 11 2026. No macro, syntax, notation, axiom, sorry.
-/
import Derived.Test.YtoklgmbpgnimcaaGreatDoorRows
import GoSem.ClaimSeven
namespace Go.Proofs.YtoklgmbpgnimcaaGreatDoor
namespace Rows

/-- THE TIED CARD OF 'deadfalllaw13.TrapEntry'. -/
def trapEntryCard : Claim7 := { stood := { row := trapEntryRow, standIns := [], harness := (true, "0a60f03d6162957346d21e5b25dd01b88ae2004f9dff7d5887530a2e0125d6fe"), looks := true }, kinds := [], alts := [], laidByText := true, laidKinds := [.data, .data, .pinned], laidTests := true, laidLooks := .later }
def TrapEntryCardSaid : Prop := Claim7.holds Tryz.pinned (.plain (OpenSpec.ofChange trapEntrySpec)) trapEntryCard

/-- THE SECOND FORM's CARD OF 'deadfalllaw13.TrapEntry'. -/
def trapEntryUptoCard : Claim7 := { stood := { row := trapEntryUptoRow, standIns := [], harness := (true, "0a60f03d6162957346d21e5b25dd01b88ae2004f9dff7d5887530a2e0125d6fe"), looks := true }, kinds := [], alts := [], laidByText := true, laidKinds := [.data, .data, .pinned], laidTests := true, laidLooks := .later }
def TrapEntryUptoCardSaid : Prop := Claim7.holds Tryz.pinned (.plain (OpenSpec.upto trapEntrySpec)) trapEntryUptoCard
end Rows
end Go.Proofs.YtoklgmbpgnimcaaGreatDoor
