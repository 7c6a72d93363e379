/-
  DERIVED. GIVEN WITH THE SEED: THE CARDS: each row of YtdbhahiieokplaaGreatDoorRows.lean that lists a variable, with what it lists TIED to the program's text (the seventh form; the later family's looks); each row that meets fmt, with fmt's text TOLD by the authors' own Lean function (tested against real Go, not proved from fmt's source: count such statements apart). THE CARD IS WHAT COUNTS. Prove the row's statement (the work); the ties are given (YtdbhahiieokplaaGreatDoorTie.lean); close each card by the builder's one call (the guide's Derived/Test/ToyasCard.lean, 'card_holds'). Laid BY PROGRAM, IN A SANDBOX (cutbox-door.mjs). By AI agents, Wed Nov 11 2026. No macro, syntax, notation, axiom, sorry.
-/
import Derived.Test.YtdbhahiieokplaaGreatDoorRows
import GoSem.ClaimSeven
namespace Go.Proofs.YtdbhahiieokplaaGreatDoor
namespace Rows

/-- THE TIED CARD OF 'viatorlaw05.EnclosureChecks'. -/
def enclosureChecksCard : Claim7 := { stood := { row := enclosureChecksRow, standIns := [], harness := (true, "7e49932b7363f80aaf4f31e8307e57a25ec993a4b92f239b882fb509082fdb35"), looks := false }, kinds := [], alts := [], laidByText := true, laidKinds := [.data, .data], laidTests := true, laidLooks := .later }
def EnclosureChecksCardSaid : Prop := Claim7.holds Tryz.pinned (.plain (OpenSpec.ofChange enclosureChecksSpec)) enclosureChecksCard

/-- THE TIED CARD OF 'viatorlaw05.EnclosureReals'. -/
def enclosureRealsCard : Claim7 := { stood := { row := enclosureRealsRow, standIns := [], harness := (true, "7e49932b7363f80aaf4f31e8307e57a25ec993a4b92f239b882fb509082fdb35"), looks := false }, kinds := [], alts := [], laidByText := true, laidKinds := [.data, .data], laidTests := true, laidLooks := .later }
def EnclosureRealsCardSaid : Prop := Claim7.holds Tryz.pinned (.plain (OpenSpec.ofChange enclosureRealsSpec)) enclosureRealsCard

/-- THE TIED CARD OF 'viatorlaw05.EnclosureOperates'. -/
def enclosureOperatesCard : Claim7 := { stood := { row := enclosureOperatesRow, standIns := [], harness := (true, "7e49932b7363f80aaf4f31e8307e57a25ec993a4b92f239b882fb509082fdb35"), looks := false }, kinds := [], alts := [], laidByText := true, laidKinds := [.data, .data], laidTests := true, laidLooks := .later }
def EnclosureOperatesCardSaid : Prop := Claim7.holds Tryz.pinned (.plain (OpenSpec.ofChange enclosureOperatesSpec)) enclosureOperatesCard

/-- THE TIED CARD OF 'viatorlaw05.EnclosureIncludes'. -/
def enclosureIncludesCard : Claim7 := { stood := { row := enclosureIncludesRow, standIns := [], harness := (true, "7e49932b7363f80aaf4f31e8307e57a25ec993a4b92f239b882fb509082fdb35"), looks := false }, kinds := [], alts := [], laidByText := true, laidKinds := [.data, .data], laidTests := true, laidLooks := .later }
def EnclosureIncludesCardSaid : Prop := Claim7.holds Tryz.pinned (.plain (OpenSpec.ofChange enclosureIncludesSpec)) enclosureIncludesCard

/-- THE TIED CARD OF 'viatorlaw05.EnclosureRoots'. -/
def enclosureRootsCard : Claim7 := { stood := { row := enclosureRootsRow, standIns := [], harness := (true, "7e49932b7363f80aaf4f31e8307e57a25ec993a4b92f239b882fb509082fdb35"), looks := false }, kinds := [], alts := [], laidByText := true, laidKinds := [.data, .data], laidTests := true, laidLooks := .later }
def EnclosureRootsCardSaid : Prop := Claim7.holds Tryz.pinned (.plain (OpenSpec.ofChange enclosureRootsSpec)) enclosureRootsCard

/-- THE TIED CARD OF 'viatorlaw05.EnclosureTight'. -/
def enclosureTightCard : Claim7 := { stood := { row := enclosureTightRow, standIns := [], harness := (true, "7e49932b7363f80aaf4f31e8307e57a25ec993a4b92f239b882fb509082fdb35"), looks := false }, kinds := [], alts := [], laidByText := true, laidKinds := [.data, .data], laidTests := true, laidLooks := .later }
def EnclosureTightCardSaid : Prop := Claim7.holds Tryz.pinned (.plain (OpenSpec.ofChange enclosureTightSpec)) enclosureTightCard

/-- THE TIED CARD OF 'viatorlaw05.EnclosureSets'. -/
def enclosureSetsCard : Claim7 := { stood := { row := enclosureSetsRow, standIns := [], harness := (true, "7e49932b7363f80aaf4f31e8307e57a25ec993a4b92f239b882fb509082fdb35"), looks := false }, kinds := [], alts := [], laidByText := true, laidKinds := [.data, .data], laidTests := true, laidLooks := .later }
def EnclosureSetsCardSaid : Prop := Claim7.holds Tryz.pinned (.plain (OpenSpec.ofChange enclosureSetsSpec)) enclosureSetsCard

/-- THE TIED CARD OF 'viatorlaw05.EnclosureCompares'. -/
def enclosureComparesCard : Claim7 := { stood := { row := enclosureComparesRow, standIns := [], harness := (true, "7e49932b7363f80aaf4f31e8307e57a25ec993a4b92f239b882fb509082fdb35"), looks := false }, kinds := [], alts := [], laidByText := true, laidKinds := [.data, .data], laidTests := true, laidLooks := .later }
def EnclosureComparesCardSaid : Prop := Claim7.holds Tryz.pinned (.plain (OpenSpec.ofChange enclosureComparesSpec)) enclosureComparesCard

/-- THE TIED CARD OF 'viatorlaw05.EnclosureLengths'. -/
def enclosureLengthsCard : Claim7 := { stood := { row := enclosureLengthsRow, standIns := [], harness := (true, "7e49932b7363f80aaf4f31e8307e57a25ec993a4b92f239b882fb509082fdb35"), looks := false }, kinds := [], alts := [], laidByText := true, laidKinds := [.data, .data], laidTests := true, laidLooks := .later }
def EnclosureLengthsCardSaid : Prop := Claim7.holds Tryz.pinned (.plain (OpenSpec.ofChange enclosureLengthsSpec)) enclosureLengthsCard

/-- THE TIED CARD OF 'viatorlaw05.EnclosureWidths'. -/
def enclosureWidthsCard : Claim7 := { stood := { row := enclosureWidthsRow, standIns := [], harness := (true, "7e49932b7363f80aaf4f31e8307e57a25ec993a4b92f239b882fb509082fdb35"), looks := false }, kinds := [], alts := [], laidByText := true, laidKinds := [.data, .data], laidTests := true, laidLooks := .later }
def EnclosureWidthsCardSaid : Prop := Claim7.holds Tryz.pinned (.plain (OpenSpec.ofChange enclosureWidthsSpec)) enclosureWidthsCard

/-- THE SECOND FORM's CARD OF 'viatorlaw05.EnclosureChecks'. -/
def enclosureChecksUptoCard : Claim7 := { stood := { row := enclosureChecksUptoRow, standIns := [], harness := (true, "7e49932b7363f80aaf4f31e8307e57a25ec993a4b92f239b882fb509082fdb35"), looks := false }, kinds := [], alts := [], laidByText := true, laidKinds := [.data, .data], laidTests := true, laidLooks := .later }
def EnclosureChecksUptoCardSaid : Prop := Claim7.holds Tryz.pinned (.plain (OpenSpec.upto enclosureChecksSpec)) enclosureChecksUptoCard

/-- THE SECOND FORM's CARD OF 'viatorlaw05.EnclosureReals'. -/
def enclosureRealsUptoCard : Claim7 := { stood := { row := enclosureRealsUptoRow, standIns := [], harness := (true, "7e49932b7363f80aaf4f31e8307e57a25ec993a4b92f239b882fb509082fdb35"), looks := false }, kinds := [], alts := [], laidByText := true, laidKinds := [.data, .data], laidTests := true, laidLooks := .later }
def EnclosureRealsUptoCardSaid : Prop := Claim7.holds Tryz.pinned (.plain (OpenSpec.upto enclosureRealsSpec)) enclosureRealsUptoCard

/-- THE SECOND FORM's CARD OF 'viatorlaw05.EnclosureOperates'. -/
def enclosureOperatesUptoCard : Claim7 := { stood := { row := enclosureOperatesUptoRow, standIns := [], harness := (true, "7e49932b7363f80aaf4f31e8307e57a25ec993a4b92f239b882fb509082fdb35"), looks := false }, kinds := [], alts := [], laidByText := true, laidKinds := [.data, .data], laidTests := true, laidLooks := .later }
def EnclosureOperatesUptoCardSaid : Prop := Claim7.holds Tryz.pinned (.plain (OpenSpec.upto enclosureOperatesSpec)) enclosureOperatesUptoCard

/-- THE SECOND FORM's CARD OF 'viatorlaw05.EnclosureIncludes'. -/
def enclosureIncludesUptoCard : Claim7 := { stood := { row := enclosureIncludesUptoRow, standIns := [], harness := (true, "7e49932b7363f80aaf4f31e8307e57a25ec993a4b92f239b882fb509082fdb35"), looks := false }, kinds := [], alts := [], laidByText := true, laidKinds := [.data, .data], laidTests := true, laidLooks := .later }
def EnclosureIncludesUptoCardSaid : Prop := Claim7.holds Tryz.pinned (.plain (OpenSpec.upto enclosureIncludesSpec)) enclosureIncludesUptoCard

/-- THE SECOND FORM's CARD OF 'viatorlaw05.EnclosureRoots'. -/
def enclosureRootsUptoCard : Claim7 := { stood := { row := enclosureRootsUptoRow, standIns := [], harness := (true, "7e49932b7363f80aaf4f31e8307e57a25ec993a4b92f239b882fb509082fdb35"), looks := false }, kinds := [], alts := [], laidByText := true, laidKinds := [.data, .data], laidTests := true, laidLooks := .later }
def EnclosureRootsUptoCardSaid : Prop := Claim7.holds Tryz.pinned (.plain (OpenSpec.upto enclosureRootsSpec)) enclosureRootsUptoCard

/-- THE SECOND FORM's CARD OF 'viatorlaw05.EnclosureTight'. -/
def enclosureTightUptoCard : Claim7 := { stood := { row := enclosureTightUptoRow, standIns := [], harness := (true, "7e49932b7363f80aaf4f31e8307e57a25ec993a4b92f239b882fb509082fdb35"), looks := false }, kinds := [], alts := [], laidByText := true, laidKinds := [.data, .data], laidTests := true, laidLooks := .later }
def EnclosureTightUptoCardSaid : Prop := Claim7.holds Tryz.pinned (.plain (OpenSpec.upto enclosureTightSpec)) enclosureTightUptoCard

/-- THE SECOND FORM's CARD OF 'viatorlaw05.EnclosureSets'. -/
def enclosureSetsUptoCard : Claim7 := { stood := { row := enclosureSetsUptoRow, standIns := [], harness := (true, "7e49932b7363f80aaf4f31e8307e57a25ec993a4b92f239b882fb509082fdb35"), looks := false }, kinds := [], alts := [], laidByText := true, laidKinds := [.data, .data], laidTests := true, laidLooks := .later }
def EnclosureSetsUptoCardSaid : Prop := Claim7.holds Tryz.pinned (.plain (OpenSpec.upto enclosureSetsSpec)) enclosureSetsUptoCard

/-- THE SECOND FORM's CARD OF 'viatorlaw05.EnclosureCompares'. -/
def enclosureComparesUptoCard : Claim7 := { stood := { row := enclosureComparesUptoRow, standIns := [], harness := (true, "7e49932b7363f80aaf4f31e8307e57a25ec993a4b92f239b882fb509082fdb35"), looks := false }, kinds := [], alts := [], laidByText := true, laidKinds := [.data, .data], laidTests := true, laidLooks := .later }
def EnclosureComparesUptoCardSaid : Prop := Claim7.holds Tryz.pinned (.plain (OpenSpec.upto enclosureComparesSpec)) enclosureComparesUptoCard

/-- THE SECOND FORM's CARD OF 'viatorlaw05.EnclosureLengths'. -/
def enclosureLengthsUptoCard : Claim7 := { stood := { row := enclosureLengthsUptoRow, standIns := [], harness := (true, "7e49932b7363f80aaf4f31e8307e57a25ec993a4b92f239b882fb509082fdb35"), looks := false }, kinds := [], alts := [], laidByText := true, laidKinds := [.data, .data], laidTests := true, laidLooks := .later }
def EnclosureLengthsUptoCardSaid : Prop := Claim7.holds Tryz.pinned (.plain (OpenSpec.upto enclosureLengthsSpec)) enclosureLengthsUptoCard

/-- THE SECOND FORM's CARD OF 'viatorlaw05.EnclosureWidths'. -/
def enclosureWidthsUptoCard : Claim7 := { stood := { row := enclosureWidthsUptoRow, standIns := [], harness := (true, "7e49932b7363f80aaf4f31e8307e57a25ec993a4b92f239b882fb509082fdb35"), looks := false }, kinds := [], alts := [], laidByText := true, laidKinds := [.data, .data], laidTests := true, laidLooks := .later }
def EnclosureWidthsUptoCardSaid : Prop := Claim7.holds Tryz.pinned (.plain (OpenSpec.upto enclosureWidthsSpec)) enclosureWidthsUptoCard
end Rows
end Go.Proofs.YtdbhahiieokplaaGreatDoor
