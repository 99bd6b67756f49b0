/-
  DERIVED. GIVEN WITH THE SEED: THE CARDS: each row of YtdnamjlknmcdjaaDoorRows.lean that lists a variable, with what it lists TIED to the program's text (the seventh form; the later family's looks); each row that meets fmt, with fmt's text TOLD by the authors' own Lean function (tested against real Go, not proved from fmt's source: count such statements apart). THE CARD IS WHAT COUNTS. Prove the row's statement (the work); the ties are given (YtdnamjlknmcdjaaDoorTie.lean); close each card by the builder's one call (the guide's Derived/Test/ToyasCard.lean, 'card_holds'). Laid BY PROGRAM, IN A SANDBOX (cutbox-door.mjs). By AI agents, Wed Nov 11 2026. No macro, syntax, notation, axiom, sorry.
-/
import Derived.Test.YtdnamjlknmcdjaaDoorRows
import GoSem.ClaimSeven
namespace Go.Proofs.YtdnamjlknmcdjaaDoor
namespace Rows

/-- THE TIED CARD OF 'distafflaw02.MemPlays'. -/
def memPlaysCard : Claim7 := { stood := { row := memPlaysRow, standIns := [], harness := (true, "5f9b758d4ec286a70e41c708f2650ad696563f94cd3116c9f2f3c2ff4cf20ce8"), looks := true }, kinds := [], alts := [], laidByText := true, laidKinds := [.handle], laidTests := true, laidLooks := .later }
def MemPlaysCardSaid : Prop := Claim7.holds Tryd.pinned (.plain (OpenSpec.ofChange memPlaysSpec)) memPlaysCard

/-- THE TIED CARD OF 'distafflaw02.MemNews'. -/
def memNewsCard : Claim7 := { stood := { row := memNewsRow, standIns := [], harness := (true, "5f9b758d4ec286a70e41c708f2650ad696563f94cd3116c9f2f3c2ff4cf20ce8"), looks := true }, kinds := [], alts := [], laidByText := true, laidKinds := [.handle], laidTests := true, laidLooks := .later }
def MemNewsCardSaid : Prop := Claim7.holds Tryd.pinned (.plain (OpenSpec.ofChange memNewsSpec)) memNewsCard

/-- THE TIED CARD OF 'distafflaw02.MemTwo'. -/
def memTwoCard : Claim7 := { stood := { row := memTwoRow, standIns := [], harness := (true, "5f9b758d4ec286a70e41c708f2650ad696563f94cd3116c9f2f3c2ff4cf20ce8"), looks := true }, kinds := [], alts := [], laidByText := true, laidKinds := [.handle], laidTests := true, laidLooks := .later }
def MemTwoCardSaid : Prop := Claim7.holds Tryd.pinned (.plain (OpenSpec.ofChange memTwoSpec)) memTwoCard

/-- THE TIED CARD OF 'distafflaw02.MemGone'. -/
def memGoneCard : Claim7 := { stood := { row := memGoneRow, standIns := [], harness := (true, "5f9b758d4ec286a70e41c708f2650ad696563f94cd3116c9f2f3c2ff4cf20ce8"), looks := true }, kinds := [], alts := [], laidByText := true, laidKinds := [.handle], laidTests := true, laidLooks := .later }
def MemGoneCardSaid : Prop := Claim7.holds Tryd.pinned (.plain (OpenSpec.ofChange memGoneSpec)) memGoneCard

/-- THE SECOND FORM's CARD OF 'distafflaw02.MemPlays'. -/
def memPlaysUptoCard : Claim7 := { stood := { row := memPlaysUptoRow, standIns := [], harness := (true, "5f9b758d4ec286a70e41c708f2650ad696563f94cd3116c9f2f3c2ff4cf20ce8"), looks := true }, kinds := [], alts := [], laidByText := true, laidKinds := [.handle], laidTests := true, laidLooks := .later }
def MemPlaysUptoCardSaid : Prop := Claim7.holds Tryd.pinned (.plain (OpenSpec.upto memPlaysSpec)) memPlaysUptoCard

/-- THE SECOND FORM's CARD OF 'distafflaw02.MemNews'. -/
def memNewsUptoCard : Claim7 := { stood := { row := memNewsUptoRow, standIns := [], harness := (true, "5f9b758d4ec286a70e41c708f2650ad696563f94cd3116c9f2f3c2ff4cf20ce8"), looks := true }, kinds := [], alts := [], laidByText := true, laidKinds := [.handle], laidTests := true, laidLooks := .later }
def MemNewsUptoCardSaid : Prop := Claim7.holds Tryd.pinned (.plain (OpenSpec.upto memNewsSpec)) memNewsUptoCard

/-- THE SECOND FORM's CARD OF 'distafflaw02.MemTwo'. -/
def memTwoUptoCard : Claim7 := { stood := { row := memTwoUptoRow, standIns := [], harness := (true, "5f9b758d4ec286a70e41c708f2650ad696563f94cd3116c9f2f3c2ff4cf20ce8"), looks := true }, kinds := [], alts := [], laidByText := true, laidKinds := [.handle], laidTests := true, laidLooks := .later }
def MemTwoUptoCardSaid : Prop := Claim7.holds Tryd.pinned (.plain (OpenSpec.upto memTwoSpec)) memTwoUptoCard

/-- THE SECOND FORM's CARD OF 'distafflaw02.MemGone'. -/
def memGoneUptoCard : Claim7 := { stood := { row := memGoneUptoRow, standIns := [], harness := (true, "5f9b758d4ec286a70e41c708f2650ad696563f94cd3116c9f2f3c2ff4cf20ce8"), looks := true }, kinds := [], alts := [], laidByText := true, laidKinds := [.handle], laidTests := true, laidLooks := .later }
def MemGoneUptoCardSaid : Prop := Claim7.holds Tryd.pinned (.plain (OpenSpec.upto memGoneSpec)) memGoneUptoCard
end Rows
end Go.Proofs.YtdnamjlknmcdjaaDoor
