/-
  DERIVED. GIVEN WITH THE SEED: THE CARDS: each row of YtpnokfgplnmjpaaGreatDoorRows.lean that lists a variable, with what it lists TIED to the program's text (the seventh form; the later family's looks); each row that meets fmt, with fmt's text TOLD by the authors' own Lean function (tested against real Go, not proved from fmt's source: count such statements apart). THE CARD IS WHAT COUNTS. Prove the row's statement (the work); the ties are given (YtpnokfgplnmjpaaGreatDoorTie.lean); close each card by the builder's one call (the guide's Derived/Test/ToyasCard.lean, 'card_holds'). Laid BY PROGRAM, IN A SANDBOX (cutbox-door.mjs). By AI agents, Wed Nov 11 2026. No macro, syntax, notation, axiom, sorry.
-/
import Derived.Test.YtpnokfgplnmjpaaGreatDoorRows
import GoSem.ClaimSeven
namespace Go.Proofs.YtpnokfgplnmjpaaGreatDoor
namespace Rows

/-- THE TIED CARD OF 'viatorlaw03.RealChecks'. -/
def realChecksCard : Claim7 := { stood := { row := realChecksRow, standIns := [], harness := (true, "404e13108f7eb6eee8e1421a7d94d551534f6e3cc723c2205e88268b705c4848"), looks := false }, kinds := [], alts := [], laidByText := true, laidKinds := [.data, .data], laidTests := true, laidLooks := .later }
def RealChecksCardSaid : Prop := Claim7.holds Tryz.pinned (.plain (OpenSpec.ofChange realChecksSpec)) realChecksCard

/-- THE TIED CARD OF 'viatorlaw03.RealMakes'. -/
def realMakesCard : Claim7 := { stood := { row := realMakesRow, standIns := [], harness := (true, "404e13108f7eb6eee8e1421a7d94d551534f6e3cc723c2205e88268b705c4848"), looks := false }, kinds := [], alts := [], laidByText := true, laidKinds := [.data, .data], laidTests := true, laidLooks := .later }
def RealMakesCardSaid : Prop := Claim7.holds Tryz.pinned (.plain (OpenSpec.ofChange realMakesSpec)) realMakesCard

/-- THE TIED CARD OF 'viatorlaw03.RealRoots'. -/
def realRootsCard : Claim7 := { stood := { row := realRootsRow, standIns := [], harness := (true, "404e13108f7eb6eee8e1421a7d94d551534f6e3cc723c2205e88268b705c4848"), looks := false }, kinds := [], alts := [], laidByText := true, laidKinds := [.data, .data], laidTests := true, laidLooks := .later }
def RealRootsCardSaid : Prop := Claim7.holds Tryz.pinned (.plain (OpenSpec.ofChange realRootsSpec)) realRootsCard

/-- THE TIED CARD OF 'viatorlaw03.RealMinimal'. -/
def realMinimalCard : Claim7 := { stood := { row := realMinimalRow, standIns := [], harness := (true, "404e13108f7eb6eee8e1421a7d94d551534f6e3cc723c2205e88268b705c4848"), looks := false }, kinds := [], alts := [], laidByText := true, laidKinds := [.data, .data], laidTests := true, laidLooks := .later }
def RealMinimalCardSaid : Prop := Claim7.holds Tryz.pinned (.plain (OpenSpec.ofChange realMinimalSpec)) realMinimalCard

/-- THE TIED CARD OF 'viatorlaw03.RealCompares'. -/
def realComparesCard : Claim7 := { stood := { row := realComparesRow, standIns := [], harness := (true, "404e13108f7eb6eee8e1421a7d94d551534f6e3cc723c2205e88268b705c4848"), looks := false }, kinds := [], alts := [], laidByText := true, laidKinds := [.data, .data], laidTests := true, laidLooks := .later }
def RealComparesCardSaid : Prop := Claim7.holds Tryz.pinned (.plain (OpenSpec.ofChange realComparesSpec)) realComparesCard

/-- THE TIED CARD OF 'viatorlaw03.RealOrders'. -/
def realOrdersCard : Claim7 := { stood := { row := realOrdersRow, standIns := [], harness := (true, "404e13108f7eb6eee8e1421a7d94d551534f6e3cc723c2205e88268b705c4848"), looks := false }, kinds := [], alts := [], laidByText := true, laidKinds := [.data, .data], laidTests := true, laidLooks := .later }
def RealOrdersCardSaid : Prop := Claim7.holds Tryz.pinned (.plain (OpenSpec.ofChange realOrdersSpec)) realOrdersCard

/-- THE TIED CARD OF 'viatorlaw03.RealMoves'. -/
def realMovesCard : Claim7 := { stood := { row := realMovesRow, standIns := [], harness := (true, "404e13108f7eb6eee8e1421a7d94d551534f6e3cc723c2205e88268b705c4848"), looks := false }, kinds := [], alts := [], laidByText := true, laidKinds := [.data, .data], laidTests := true, laidLooks := .later }
def RealMovesCardSaid : Prop := Claim7.holds Tryz.pinned (.plain (OpenSpec.ofChange realMovesSpec)) realMovesCard

/-- THE TIED CARD OF 'viatorlaw03.RealFloors'. -/
def realFloorsCard : Claim7 := { stood := { row := realFloorsRow, standIns := [], harness := (true, "404e13108f7eb6eee8e1421a7d94d551534f6e3cc723c2205e88268b705c4848"), looks := false }, kinds := [], alts := [], laidByText := true, laidKinds := [.data, .data], laidTests := true, laidLooks := .later }
def RealFloorsCardSaid : Prop := Claim7.holds Tryz.pinned (.plain (OpenSpec.ofChange realFloorsSpec)) realFloorsCard

/-- THE TIED CARD OF 'viatorlaw03.RealBetween'. -/
def realBetweenCard : Claim7 := { stood := { row := realBetweenRow, standIns := [], harness := (true, "404e13108f7eb6eee8e1421a7d94d551534f6e3cc723c2205e88268b705c4848"), looks := false }, kinds := [], alts := [], laidByText := true, laidKinds := [.data, .data], laidTests := true, laidLooks := .later }
def RealBetweenCardSaid : Prop := Claim7.holds Tryz.pinned (.plain (OpenSpec.ofChange realBetweenSpec)) realBetweenCard

/-- THE TIED CARD OF 'viatorlaw03.RealEncloses'. -/
def realEnclosesCard : Claim7 := { stood := { row := realEnclosesRow, standIns := [], harness := (true, "404e13108f7eb6eee8e1421a7d94d551534f6e3cc723c2205e88268b705c4848"), looks := false }, kinds := [], alts := [], laidByText := true, laidKinds := [.data, .data], laidTests := true, laidLooks := .later }
def RealEnclosesCardSaid : Prop := Claim7.holds Tryz.pinned (.plain (OpenSpec.ofChange realEnclosesSpec)) realEnclosesCard

/-- THE TIED CARD OF 'viatorlaw03.RealPrints'. -/
def realPrintsCard : Claim7 := { stood := { row := realPrintsRow, standIns := [], harness := (true, "404e13108f7eb6eee8e1421a7d94d551534f6e3cc723c2205e88268b705c4848"), looks := false }, kinds := [], alts := [], laidByText := true, laidKinds := [.data, .data, .data, .data], laidTests := true, laidLooks := .later }
def RealPrintsCardSaid : Prop := Claim7.holds Tryz.pinned (.plain (OpenSpec.ofChange realPrintsSpec)) realPrintsCard

/-- THE TIED CARD OF 'viatorlaw03.RealParses'. -/
def realParsesCard : Claim7 := { stood := { row := realParsesRow, standIns := [], harness := (true, "404e13108f7eb6eee8e1421a7d94d551534f6e3cc723c2205e88268b705c4848"), looks := false }, kinds := [], alts := [], laidByText := true, laidKinds := [.data, .data, .data, .data], laidTests := true, laidLooks := .later }
def RealParsesCardSaid : Prop := Claim7.holds Tryz.pinned (.plain (OpenSpec.ofChange realParsesSpec)) realParsesCard

/-- THE SECOND FORM's CARD OF 'viatorlaw03.RealChecks'. -/
def realChecksUptoCard : Claim7 := { stood := { row := realChecksUptoRow, standIns := [], harness := (true, "404e13108f7eb6eee8e1421a7d94d551534f6e3cc723c2205e88268b705c4848"), looks := false }, kinds := [], alts := [], laidByText := true, laidKinds := [.data, .data], laidTests := true, laidLooks := .later }
def RealChecksUptoCardSaid : Prop := Claim7.holds Tryz.pinned (.plain (OpenSpec.upto realChecksSpec)) realChecksUptoCard

/-- THE SECOND FORM's CARD OF 'viatorlaw03.RealMakes'. -/
def realMakesUptoCard : Claim7 := { stood := { row := realMakesUptoRow, standIns := [], harness := (true, "404e13108f7eb6eee8e1421a7d94d551534f6e3cc723c2205e88268b705c4848"), looks := false }, kinds := [], alts := [], laidByText := true, laidKinds := [.data, .data], laidTests := true, laidLooks := .later }
def RealMakesUptoCardSaid : Prop := Claim7.holds Tryz.pinned (.plain (OpenSpec.upto realMakesSpec)) realMakesUptoCard

/-- THE SECOND FORM's CARD OF 'viatorlaw03.RealRoots'. -/
def realRootsUptoCard : Claim7 := { stood := { row := realRootsUptoRow, standIns := [], harness := (true, "404e13108f7eb6eee8e1421a7d94d551534f6e3cc723c2205e88268b705c4848"), looks := false }, kinds := [], alts := [], laidByText := true, laidKinds := [.data, .data], laidTests := true, laidLooks := .later }
def RealRootsUptoCardSaid : Prop := Claim7.holds Tryz.pinned (.plain (OpenSpec.upto realRootsSpec)) realRootsUptoCard

/-- THE SECOND FORM's CARD OF 'viatorlaw03.RealMinimal'. -/
def realMinimalUptoCard : Claim7 := { stood := { row := realMinimalUptoRow, standIns := [], harness := (true, "404e13108f7eb6eee8e1421a7d94d551534f6e3cc723c2205e88268b705c4848"), looks := false }, kinds := [], alts := [], laidByText := true, laidKinds := [.data, .data], laidTests := true, laidLooks := .later }
def RealMinimalUptoCardSaid : Prop := Claim7.holds Tryz.pinned (.plain (OpenSpec.upto realMinimalSpec)) realMinimalUptoCard

/-- THE SECOND FORM's CARD OF 'viatorlaw03.RealCompares'. -/
def realComparesUptoCard : Claim7 := { stood := { row := realComparesUptoRow, standIns := [], harness := (true, "404e13108f7eb6eee8e1421a7d94d551534f6e3cc723c2205e88268b705c4848"), looks := false }, kinds := [], alts := [], laidByText := true, laidKinds := [.data, .data], laidTests := true, laidLooks := .later }
def RealComparesUptoCardSaid : Prop := Claim7.holds Tryz.pinned (.plain (OpenSpec.upto realComparesSpec)) realComparesUptoCard

/-- THE SECOND FORM's CARD OF 'viatorlaw03.RealOrders'. -/
def realOrdersUptoCard : Claim7 := { stood := { row := realOrdersUptoRow, standIns := [], harness := (true, "404e13108f7eb6eee8e1421a7d94d551534f6e3cc723c2205e88268b705c4848"), looks := false }, kinds := [], alts := [], laidByText := true, laidKinds := [.data, .data], laidTests := true, laidLooks := .later }
def RealOrdersUptoCardSaid : Prop := Claim7.holds Tryz.pinned (.plain (OpenSpec.upto realOrdersSpec)) realOrdersUptoCard

/-- THE SECOND FORM's CARD OF 'viatorlaw03.RealMoves'. -/
def realMovesUptoCard : Claim7 := { stood := { row := realMovesUptoRow, standIns := [], harness := (true, "404e13108f7eb6eee8e1421a7d94d551534f6e3cc723c2205e88268b705c4848"), looks := false }, kinds := [], alts := [], laidByText := true, laidKinds := [.data, .data], laidTests := true, laidLooks := .later }
def RealMovesUptoCardSaid : Prop := Claim7.holds Tryz.pinned (.plain (OpenSpec.upto realMovesSpec)) realMovesUptoCard

/-- THE SECOND FORM's CARD OF 'viatorlaw03.RealFloors'. -/
def realFloorsUptoCard : Claim7 := { stood := { row := realFloorsUptoRow, standIns := [], harness := (true, "404e13108f7eb6eee8e1421a7d94d551534f6e3cc723c2205e88268b705c4848"), looks := false }, kinds := [], alts := [], laidByText := true, laidKinds := [.data, .data], laidTests := true, laidLooks := .later }
def RealFloorsUptoCardSaid : Prop := Claim7.holds Tryz.pinned (.plain (OpenSpec.upto realFloorsSpec)) realFloorsUptoCard

/-- THE SECOND FORM's CARD OF 'viatorlaw03.RealBetween'. -/
def realBetweenUptoCard : Claim7 := { stood := { row := realBetweenUptoRow, standIns := [], harness := (true, "404e13108f7eb6eee8e1421a7d94d551534f6e3cc723c2205e88268b705c4848"), looks := false }, kinds := [], alts := [], laidByText := true, laidKinds := [.data, .data], laidTests := true, laidLooks := .later }
def RealBetweenUptoCardSaid : Prop := Claim7.holds Tryz.pinned (.plain (OpenSpec.upto realBetweenSpec)) realBetweenUptoCard

/-- THE SECOND FORM's CARD OF 'viatorlaw03.RealEncloses'. -/
def realEnclosesUptoCard : Claim7 := { stood := { row := realEnclosesUptoRow, standIns := [], harness := (true, "404e13108f7eb6eee8e1421a7d94d551534f6e3cc723c2205e88268b705c4848"), looks := false }, kinds := [], alts := [], laidByText := true, laidKinds := [.data, .data], laidTests := true, laidLooks := .later }
def RealEnclosesUptoCardSaid : Prop := Claim7.holds Tryz.pinned (.plain (OpenSpec.upto realEnclosesSpec)) realEnclosesUptoCard

/-- THE SECOND FORM's CARD OF 'viatorlaw03.RealPrints'. -/
def realPrintsUptoCard : Claim7 := { stood := { row := realPrintsUptoRow, standIns := [], harness := (true, "404e13108f7eb6eee8e1421a7d94d551534f6e3cc723c2205e88268b705c4848"), looks := false }, kinds := [], alts := [], laidByText := true, laidKinds := [.data, .data, .data, .data], laidTests := true, laidLooks := .later }
def RealPrintsUptoCardSaid : Prop := Claim7.holds Tryz.pinned (.plain (OpenSpec.upto realPrintsSpec)) realPrintsUptoCard

/-- THE SECOND FORM's CARD OF 'viatorlaw03.RealParses'. -/
def realParsesUptoCard : Claim7 := { stood := { row := realParsesUptoRow, standIns := [], harness := (true, "404e13108f7eb6eee8e1421a7d94d551534f6e3cc723c2205e88268b705c4848"), looks := false }, kinds := [], alts := [], laidByText := true, laidKinds := [.data, .data, .data, .data], laidTests := true, laidLooks := .later }
def RealParsesUptoCardSaid : Prop := Claim7.holds Tryz.pinned (.plain (OpenSpec.upto realParsesSpec)) realParsesUptoCard
end Rows
end Go.Proofs.YtpnokfgplnmjpaaGreatDoor
