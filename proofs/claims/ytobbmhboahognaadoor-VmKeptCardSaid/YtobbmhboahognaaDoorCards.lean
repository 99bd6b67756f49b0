/-
  DERIVED. GIVEN WITH THE SEED: THE CARDS: each row of YtobbmhboahognaaDoorRows.lean that lists a variable, with what it lists TIED to the program's text (the seventh form; the later family's looks); each row that meets fmt, with fmt's text TOLD by the authors' own Lean function (tested against real Go, not proved from fmt's source: count such statements apart). THE CARD IS WHAT COUNTS. Prove the row's statement (the work); the ties are given (YtobbmhboahognaaDoorTie.lean); close each card by the builder's one call (the guide's Derived/Test/ToyasCard.lean, 'card_holds'). Laid BY PROGRAM, IN A SANDBOX (cutbox-door.mjs). By AI agents, Wed Nov 11 2026. No macro, syntax, notation, axiom, sorry.
-/
import Derived.Test.YtobbmhboahognaaDoorRows
import GoSem.ClaimSeven
namespace Go.Proofs.YtobbmhboahognaaDoor
namespace Rows

/-- THE TIED CARD OF 'distafflaw06.VmRuns'. -/
def vmRunsCard : Claim7 := { stood := { row := vmRunsRow, standIns := [], harness := (true, "f152caba567a2649ec79bfc4adfcd215bf9b24ff1e34857e85d78c614d01958a"), looks := true }, kinds := [], alts := [], laidByText := true, laidKinds := [.handle], laidTests := true, laidLooks := .later }
def VmRunsCardSaid : Prop := Claim7.holds Tryd.pinned (.plain (OpenSpec.ofChange vmRunsSpec)) vmRunsCard

/-- THE TIED CARD OF 'distafflaw06.VmKept'. -/
def vmKeptCard : Claim7 := { stood := { row := vmKeptRow, standIns := [], harness := (true, "f152caba567a2649ec79bfc4adfcd215bf9b24ff1e34857e85d78c614d01958a"), looks := true }, kinds := [], alts := [], laidByText := true, laidKinds := [.handle], laidTests := true, laidLooks := .later }
def VmKeptCardSaid : Prop := Claim7.holds Tryd.pinned (.plain (OpenSpec.ofChange vmKeptSpec)) vmKeptCard

/-- THE TIED CARD OF 'distafflaw08.ClockPlays'. -/
def clockPlaysCard : Claim7 := { stood := { row := clockPlaysRow, standIns := [], harness := (true, "f152caba567a2649ec79bfc4adfcd215bf9b24ff1e34857e85d78c614d01958a"), looks := true }, kinds := [], alts := [], laidByText := true, laidKinds := [.handle], laidTests := true, laidLooks := .later }
def ClockPlaysCardSaid : Prop := Claim7.holds Tryd.pinned (.plain (OpenSpec.ofChange clockPlaysSpec)) clockPlaysCard

/-- THE TIED CARD OF 'distafflaw08.ClockOff'. -/
def clockOffCard : Claim7 := { stood := { row := clockOffRow, standIns := [], harness := (true, "f152caba567a2649ec79bfc4adfcd215bf9b24ff1e34857e85d78c614d01958a"), looks := true }, kinds := [], alts := [], laidByText := true, laidKinds := [.handle], laidTests := true, laidLooks := .later }
def ClockOffCardSaid : Prop := Claim7.holds Tryd.pinned (.plain (OpenSpec.ofChange clockOffSpec)) clockOffCard

/-- THE SECOND FORM's CARD OF 'distafflaw06.VmRuns'. -/
def vmRunsUptoCard : Claim7 := { stood := { row := vmRunsUptoRow, standIns := [], harness := (true, "f152caba567a2649ec79bfc4adfcd215bf9b24ff1e34857e85d78c614d01958a"), looks := true }, kinds := [], alts := [], laidByText := true, laidKinds := [.handle], laidTests := true, laidLooks := .later }
def VmRunsUptoCardSaid : Prop := Claim7.holds Tryd.pinned (.plain (OpenSpec.upto vmRunsSpec)) vmRunsUptoCard

/-- THE SECOND FORM's CARD OF 'distafflaw06.VmKept'. -/
def vmKeptUptoCard : Claim7 := { stood := { row := vmKeptUptoRow, standIns := [], harness := (true, "f152caba567a2649ec79bfc4adfcd215bf9b24ff1e34857e85d78c614d01958a"), looks := true }, kinds := [], alts := [], laidByText := true, laidKinds := [.handle], laidTests := true, laidLooks := .later }
def VmKeptUptoCardSaid : Prop := Claim7.holds Tryd.pinned (.plain (OpenSpec.upto vmKeptSpec)) vmKeptUptoCard

/-- THE SECOND FORM's CARD OF 'distafflaw08.ClockPlays'. -/
def clockPlaysUptoCard : Claim7 := { stood := { row := clockPlaysUptoRow, standIns := [], harness := (true, "f152caba567a2649ec79bfc4adfcd215bf9b24ff1e34857e85d78c614d01958a"), looks := true }, kinds := [], alts := [], laidByText := true, laidKinds := [.handle], laidTests := true, laidLooks := .later }
def ClockPlaysUptoCardSaid : Prop := Claim7.holds Tryd.pinned (.plain (OpenSpec.upto clockPlaysSpec)) clockPlaysUptoCard

/-- THE SECOND FORM's CARD OF 'distafflaw08.ClockOff'. -/
def clockOffUptoCard : Claim7 := { stood := { row := clockOffUptoRow, standIns := [], harness := (true, "f152caba567a2649ec79bfc4adfcd215bf9b24ff1e34857e85d78c614d01958a"), looks := true }, kinds := [], alts := [], laidByText := true, laidKinds := [.handle], laidTests := true, laidLooks := .later }
def ClockOffUptoCardSaid : Prop := Claim7.holds Tryd.pinned (.plain (OpenSpec.upto clockOffSpec)) clockOffUptoCard
end Rows
end Go.Proofs.YtobbmhboahognaaDoor
