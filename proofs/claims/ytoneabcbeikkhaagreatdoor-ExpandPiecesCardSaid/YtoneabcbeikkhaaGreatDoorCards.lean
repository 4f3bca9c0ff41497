/-
  DERIVED. GIVEN WITH THE SEED: THE CARDS: each row of YtoneabcbeikkhaaGreatDoorRows.lean that lists a variable, with what it lists TIED to the program's text (the seventh form; the later family's looks); each row that meets fmt, with fmt's text TOLD by the authors' own Lean function (tested against real Go, not proved from fmt's source: count such statements apart). THE CARD IS WHAT COUNTS. Prove the row's statement (the work); the ties are given (YtoneabcbeikkhaaGreatDoorTie.lean); close each card by the builder's one call (the guide's Derived/Test/ToyasCard.lean, 'card_holds'). Laid BY PROGRAM, IN A SANDBOX (cutbox-door.mjs). By AI agents, Wed Nov 11 2026. No macro, syntax, notation, axiom, sorry.
-/
import Derived.Test.YtoneabcbeikkhaaGreatDoorRows
import GoSem.ClaimSeven
namespace Go.Proofs.YtoneabcbeikkhaaGreatDoor
namespace Rows

/-- THE TIED CARD OF 'deadfalllaw11.ExpandPieces'. -/
def expandPiecesCard : Claim7 := { stood := { row := expandPiecesRow, standIns := [], harness := (true, "c3b2c46a8f276aa067b4356df4d95bc4d0cadd160c8873ae5bd5e46baf1a8fa6"), looks := true }, kinds := [], alts := [], laidByText := true, laidKinds := [.data, .data, .data, .sentinel, .sentinel], laidTests := true, laidLooks := .later }
def ExpandPiecesCardSaid : Prop := Claim7.holds Tryz.pinned (.plain (OpenSpec.ofChange expandPiecesSpec)) expandPiecesCard

/-- THE TIED CARD OF 'deadfalllaw11.ExpandQuotes'. -/
def expandQuotesCard : Claim7 := { stood := { row := expandQuotesRow, standIns := [], harness := (true, "c3b2c46a8f276aa067b4356df4d95bc4d0cadd160c8873ae5bd5e46baf1a8fa6"), looks := true }, kinds := [], alts := [], laidByText := true, laidKinds := [.data, .data, .data, .sentinel, .sentinel], laidTests := true, laidLooks := .later }
def ExpandQuotesCardSaid : Prop := Claim7.holds Tryz.pinned (.plain (OpenSpec.ofChange expandQuotesSpec)) expandQuotesCard

/-- THE SECOND FORM's CARD OF 'deadfalllaw11.ExpandPieces'. -/
def expandPiecesUptoCard : Claim7 := { stood := { row := expandPiecesUptoRow, standIns := [], harness := (true, "c3b2c46a8f276aa067b4356df4d95bc4d0cadd160c8873ae5bd5e46baf1a8fa6"), looks := true }, kinds := [], alts := [], laidByText := true, laidKinds := [.data, .data, .data, .sentinel, .sentinel], laidTests := true, laidLooks := .later }
def ExpandPiecesUptoCardSaid : Prop := Claim7.holds Tryz.pinned (.plain (OpenSpec.upto expandPiecesSpec)) expandPiecesUptoCard

/-- THE SECOND FORM's CARD OF 'deadfalllaw11.ExpandQuotes'. -/
def expandQuotesUptoCard : Claim7 := { stood := { row := expandQuotesUptoRow, standIns := [], harness := (true, "c3b2c46a8f276aa067b4356df4d95bc4d0cadd160c8873ae5bd5e46baf1a8fa6"), looks := true }, kinds := [], alts := [], laidByText := true, laidKinds := [.data, .data, .data, .sentinel, .sentinel], laidTests := true, laidLooks := .later }
def ExpandQuotesUptoCardSaid : Prop := Claim7.holds Tryz.pinned (.plain (OpenSpec.upto expandQuotesSpec)) expandQuotesUptoCard
end Rows
end Go.Proofs.YtoneabcbeikkhaaGreatDoor
