/-
  DERIVED. GIVEN WITH THE SEED: THE CARDS: each row of YtneajiglkiffjaaDoorRows.lean that lists a variable, with what it lists TIED to the program's text (the seventh form; the later family's looks); each row that meets fmt, with fmt's text TOLD by the authors' own Lean function (tested against real Go, not proved from fmt's source: count such statements apart). THE CARD IS WHAT COUNTS. Prove the row's statement (the work); the ties are given (YtneajiglkiffjaaDoorTie.lean); close each card by the builder's one call (the guide's Derived/Test/ToyasCard.lean, 'card_holds'). Laid BY PROGRAM, IN A SANDBOX (cutbox-door.mjs). By AI agents, Wed Nov 11 2026. No macro, syntax, notation, axiom, sorry.
-/
import Derived.Test.YtneajiglkiffjaaDoorRows
import GoSem.ClaimSeven
namespace Go.Proofs.YtneajiglkiffjaaDoor
namespace Rows

/-- THE TIED CARD OF 'distafflaw05.AsmSilent'. -/
def asmSilentCard : Claim7 := { stood := { row := asmSilentRow, standIns := [], harness := (true, "b8dbc797b59476d2ab0da8e103692c002ce589de9a18923a1199290b3e4f95a4"), looks := true }, kinds := [], alts := [], laidByText := true, laidKinds := [.data, .data, .data, .data, .data, .pinned], laidTests := true, laidLooks := .later }
def AsmSilentCardSaid : Prop := Claim7.holds Tryd.pinned (.plain (OpenSpec.ofChange asmSilentSpec)) asmSilentCard

/-- THE TIED CARD OF 'distafflaw05.AsmNames'. -/
def asmNamesCard : Claim7 := { stood := { row := asmNamesRow, standIns := [], harness := (true, "b8dbc797b59476d2ab0da8e103692c002ce589de9a18923a1199290b3e4f95a4"), looks := true }, kinds := [], alts := [], laidByText := true, laidKinds := [.data, .data, .data, .data, .handle, .data, .pinned], laidTests := true, laidLooks := .later }
def AsmNamesCardSaid : Prop := Claim7.holds Tryd.pinned (.plain (OpenSpec.ofChange asmNamesSpec)) asmNamesCard

/-- THE SECOND FORM's CARD OF 'distafflaw05.AsmSilent'. -/
def asmSilentUptoCard : Claim7 := { stood := { row := asmSilentUptoRow, standIns := [], harness := (true, "b8dbc797b59476d2ab0da8e103692c002ce589de9a18923a1199290b3e4f95a4"), looks := true }, kinds := [], alts := [], laidByText := true, laidKinds := [.data, .data, .data, .data, .data, .pinned], laidTests := true, laidLooks := .later }
def AsmSilentUptoCardSaid : Prop := Claim7.holds Tryd.pinned (.plain (OpenSpec.upto asmSilentSpec)) asmSilentUptoCard

/-- THE SECOND FORM's CARD OF 'distafflaw05.AsmNames'. -/
def asmNamesUptoCard : Claim7 := { stood := { row := asmNamesUptoRow, standIns := [], harness := (true, "b8dbc797b59476d2ab0da8e103692c002ce589de9a18923a1199290b3e4f95a4"), looks := true }, kinds := [], alts := [], laidByText := true, laidKinds := [.data, .data, .data, .data, .handle, .data, .pinned], laidTests := true, laidLooks := .later }
def AsmNamesUptoCardSaid : Prop := Claim7.holds Tryd.pinned (.plain (OpenSpec.upto asmNamesSpec)) asmNamesUptoCard
end Rows
end Go.Proofs.YtneajiglkiffjaaDoor
