/-
  NARROWER THAN 'FOR EVERY INPUT', by the rows' own cells (each row's printed sentence says how): TrapEntry: laid.
  DERIVED. THE GIVEN ROWS OF THIS SEAT. 1 by the template 'for every input the law returns true; each argument reads behind the call as it read before'; 0 by the template 'total and deterministic' (their statements: YtoklgmbpgnimcaaGreatDoorTotals.lean).
  GIVEN WITH THE SEED: the statements are not yours to turn. If you find one false, say at which input.
  Laid BY PROGRAM, IN A SANDBOX (cutbox-rows.mjs): the forced cells as the released guide's own fill.sh prints them over the translation 957537e30570f0b8… (all of the seat's roots in one cut). By AI agents, Wed Nov 11 2026. No macro, syntax, notation, axiom, sorry.
-/
import Derived.Test.YtoklgmbpgnimcaaGreatDoorChecked
import GoSem.PinnedTables
import GoSem.Claim
import GoSem.ClaimJoined
import GoSem.ClaimMapViews
import Derived.JoinedTies
import Derived.KernelRfl
namespace Go.Proofs.YtoklgmbpgnimcaaGreatDoor
/- THE CELL 'sum', in the pinned program and in every row, IS THE sha256 OF THE DUMP (.gsa) THAT YtoklgmbpgnimcaaGreatDoorProg.lean LOADS. Nothing in Lean hashes anything: it is a label: what it is worth is what the hold of that sum in a sandbox is worth. -/
noncomputable def Tryz.pinned : Pinned := { name := "ytoklgmbpgnimcaagreatdoor", sum := "957537e30570f0b8bd11e778103f530ef50aa6ddb0ec10e35d794064d2c729d5", checked := Tryz.checked }
namespace Rows
def none {H : Type} : Left H := { results := [], args := [] }

/- WHAT THE LISTED PACKAGE-LEVEL VARIABLES READ AS WHEN THE CALL BEGINS. Each datum BY PROGRAM (the guide's laid-datum.mjs) off the statement by which the dump's own 'gosem.cut.vars' lays the variable. In a bare row this is a premise. The card (YtoklgmbpgnimcaaGreatDoorCards.lean) ties it to the program's text. -/
def laid_unicode_utf8_acceptRanges {H : Type} : DataW H := .agg [.agg [.lit (.int .u8 128), .lit (.int .u8 191)], .agg [.lit (.int .u8 160), .lit (.int .u8 191)], .agg [.lit (.int .u8 128), .lit (.int .u8 159)], .agg [.lit (.int .u8 144), .lit (.int .u8 191)], .agg [.lit (.int .u8 128), .lit (.int .u8 143)], .agg [.lit (.int .u8 0), .lit (.int .u8 0)], .agg [.lit (.int .u8 0), .lit (.int .u8 0)], .agg [.lit (.int .u8 0), .lit (.int .u8 0)], .agg [.lit (.int .u8 0), .lit (.int .u8 0)], .agg [.lit (.int .u8 0), .lit (.int .u8 0)], .agg [.lit (.int .u8 0), .lit (.int .u8 0)], .agg [.lit (.int .u8 0), .lit (.int .u8 0)], .agg [.lit (.int .u8 0), .lit (.int .u8 0)], .agg [.lit (.int .u8 0), .lit (.int .u8 0)], .agg [.lit (.int .u8 0), .lit (.int .u8 0)], .agg [.lit (.int .u8 0), .lit (.int .u8 0)]]
def laid_deadfall_sig_names {H : Type} : DataW H := .agg [.lit (.string []), .lit (.string [72, 85, 80]), .lit (.string [73, 78, 84]), .lit (.string [81, 85, 73, 84]), .lit (.string [73, 76, 76]), .lit (.string [84, 82, 65, 80]), .lit (.string [65, 66, 82, 84]), .lit (.string [66, 85, 83]), .lit (.string [70, 80, 69]), .lit (.string [75, 73, 76, 76]), .lit (.string [85, 83, 82, 49]), .lit (.string [83, 69, 71, 86]), .lit (.string [85, 83, 82, 50]), .lit (.string [80, 73, 80, 69]), .lit (.string [65, 76, 82, 77]), .lit (.string [84, 69, 82, 77]), .lit (.string [83, 84, 75, 70, 76, 84]), .lit (.string [67, 72, 76, 68]), .lit (.string [67, 79, 78, 84]), .lit (.string [83, 84, 79, 80]), .lit (.string [84, 83, 84, 80]), .lit (.string [84, 84, 73, 78]), .lit (.string [84, 84, 79, 85]), .lit (.string [85, 82, 71]), .lit (.string [88, 67, 80, 85]), .lit (.string [88, 70, 83, 90]), .lit (.string [86, 84, 65, 76, 82, 77]), .lit (.string [80, 82, 79, 70]), .lit (.string [87, 73, 78, 67, 72]), .lit (.string [73, 79]), .lit (.string [80, 87, 82]), .lit (.string [83, 89, 83])]
/-- One of Go's own tables, pinned by name: the form's constant. -/
def laid_unicode_utf8_first : DataW Unit := Go.Pinned.utf8First

/-- 'deadfalllaw13.TrapEntry': WHATEVER THE INPUT: true; the input reads as it did. -/
def trapEntrySpec : ChangeSpec := { name := "trapEntry", fn := fun _ => fun
  | [d1, d2, d3] => { results := [.lit (.bool true)], args := [d1, d2, d3] }
  | _ => none }
def trapEntryRow : OpenClaim := { program := "ytoklgmbpgnimcaagreatdoor", sum := "957537e30570f0b8bd11e778103f530ef50aa6ddb0ec10e35d794064d2c729d5", func := "deadfall/deadfalllaw13.TrapEntry", spec := "trapEntry", inPlace := ["internal/bytealg.IndexByteString", "internal/bytealg.IndexString", "internal/abi.NoEscape", "internal/bytealg.CountString", "internal/bytealg.MakeNoZero"], unfollowed := true, recurses := true, named := ["internal/bytealg.MaxLen", "unicode/utf8.first", "unicode/utf8.acceptRanges", "deadfall/sig.names"], apart := false, laid := [("unicode/utf8.acceptRanges", laid_unicode_utf8_acceptRanges), ("deadfall/sig.names", laid_deadfall_sig_names), ("unicode/utf8.first", laid_unicode_utf8_first)] }
def TrapEntrySaid : Prop := trapEntryRow.holds Tryz.pinned (OpenSpec.ofChange trapEntrySpec)

/-- ITS FALSE NEIGHBOUR: 'it returns false'. Refute it at one input. -/
def trapEntryWrong : ChangeSpec := { name := "trapEntry", fn := fun _ => fun
  | [d1, d2, d3] => { results := [.lit (.bool false)], args := [d1, d2, d3] }
  | _ => none }
def TrapEntryWrongFalsely : Prop := trapEntryRow.holds Tryz.pinned (OpenSpec.ofChange trapEntryWrong)

/- THE SECOND FORM. 'bulk': how many values and letters a reading holds, each counted each time it is reached (what is shared counts as often as it is met; a slice's spare places count too). A statement '..UptoSaid' is the law's where the arguments, and the package variables that the reading takes, are together of bulk at most 1048576: NARROWER than '..Said'. Prove '..Said' where nothing that the law and all that it calls make is longer than what came in: it says more and counts as full. Else prove '..UptoSaid'. A law counts once. -/
mutual
def uptoBulk {H : Type} : DataW H → Nat
  | .lit (.string bytes) => bytes.length + 1
  | .lit _ => 1
  | .nil => 1
  | .ptr d => uptoBulk d + 1
  | .slice elems spare => uptoBulkAll elems + uptoBulkAll spare + 1
  | .agg parts => uptoBulkAll parts + 1
  | .iface _ d => uptoBulk d + 1
  | .map entries => uptoBulkEntries entries + 1
  | .held _ => 1
def uptoBulkAll {H : Type} : List (DataW H) → Nat
  | [] => 0
  | d :: r => uptoBulk d + uptoBulkAll r
def uptoBulkEntries {H : Type} : List (Lit × DataW H) → Nat
  | [] => 0
  | x :: r => uptoBulkEntry x + uptoBulkEntries r
def uptoBulkEntry {H : Type} : Lit × DataW H → Nat
  | (.string bytes, d) => bytes.length + uptoBulk d + 1
  | (_, d) => uptoBulk d + 1
 end
def uptoSmall : (H : Type) → List (DataW H) → Bool := fun _ ds => decide (uptoBulkAll ds ≤ 1048576)
def OpenSpec.upto (s : _root_.Go.ChangeSpec) : _root_.Go.OpenSpec := { _root_.Go.OpenSpec.ofChange s with cond := some uptoSmall }

/-- 'deadfalllaw13.TrapEntry', WHERE WHAT IT READS IS OF BULK AT MOST 1048576: true; the input reads as it did. -/
def trapEntryUptoRow : OpenClaim := { program := "ytoklgmbpgnimcaagreatdoor", sum := "957537e30570f0b8bd11e778103f530ef50aa6ddb0ec10e35d794064d2c729d5", func := "deadfall/deadfalllaw13.TrapEntry", spec := "trapEntry", inPlace := ["internal/bytealg.IndexByteString", "internal/bytealg.IndexString", "internal/abi.NoEscape", "internal/bytealg.CountString", "internal/bytealg.MakeNoZero"], unfollowed := true, recurses := true, named := ["internal/bytealg.MaxLen", "unicode/utf8.first", "unicode/utf8.acceptRanges", "deadfall/sig.names"], apart := false, laid := [("unicode/utf8.acceptRanges", laid_unicode_utf8_acceptRanges), ("deadfall/sig.names", laid_deadfall_sig_names), ("unicode/utf8.first", laid_unicode_utf8_first)], narrowed := true }
def TrapEntryUptoSaid : Prop := trapEntryUptoRow.holds Tryz.pinned (OpenSpec.upto trapEntrySpec)

end Rows
end Go.Proofs.YtoklgmbpgnimcaaGreatDoor
