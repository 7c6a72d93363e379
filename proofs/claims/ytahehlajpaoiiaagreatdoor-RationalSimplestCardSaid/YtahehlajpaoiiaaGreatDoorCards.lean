/-
  DERIVED. GIVEN WITH THE SEED: THE CARDS: each row of YtahehlajpaoiiaaGreatDoorRows.lean that lists a variable, with what it lists TIED to the program's text (the seventh form; the later family's looks); each row that meets fmt, with fmt's text TOLD by the authors' own Lean function (tested against real Go, not proved from fmt's source: count such statements apart). THE CARD IS WHAT COUNTS. Prove the row's statement (the work); the ties are given (YtahehlajpaoiiaaGreatDoorTie.lean); close each card by the builder's one call (the guide's Derived/Test/ToyasCard.lean, 'card_holds'). Laid BY PROGRAM, IN A SANDBOX (cutbox-door.mjs). By AI agents, Wed Nov 11 2026. No macro, syntax, notation, axiom, sorry.
-/
import Derived.Test.YtahehlajpaoiiaaGreatDoorRows
import GoSem.ClaimSeven
namespace Go.Proofs.YtahehlajpaoiiaaGreatDoor
namespace Rows

/-- THE TIED CARD OF 'viatorlaw02.RationalChecks'. -/
def rationalChecksCard : Claim7 := { stood := { row := rationalChecksRow, standIns := [], harness := (true, "4eb2839daf001a922e4ace022af1138d9732405d40b305fc1531d4484d3e25b9"), looks := false }, kinds := [], alts := [], laidByText := true, laidKinds := [.data, .data, .data, .data], laidTests := true, laidLooks := .later }
def RationalChecksCardSaid : Prop := Claim7.holds Tryz.pinned (.plain (OpenSpec.ofChange rationalChecksSpec)) rationalChecksCard

/-- THE TIED CARD OF 'viatorlaw02.RationalMakes'. -/
def rationalMakesCard : Claim7 := { stood := { row := rationalMakesRow, standIns := [], harness := (true, "4eb2839daf001a922e4ace022af1138d9732405d40b305fc1531d4484d3e25b9"), looks := false }, kinds := [], alts := [], laidByText := true, laidKinds := [.data, .data, .data, .data], laidTests := true, laidLooks := .later }
def RationalMakesCardSaid : Prop := Claim7.holds Tryz.pinned (.plain (OpenSpec.ofChange rationalMakesSpec)) rationalMakesCard

/-- THE TIED CARD OF 'viatorlaw02.RationalAdds'. -/
def rationalAddsCard : Claim7 := { stood := { row := rationalAddsRow, standIns := [], harness := (true, "4eb2839daf001a922e4ace022af1138d9732405d40b305fc1531d4484d3e25b9"), looks := false }, kinds := [], alts := [], laidByText := true, laidKinds := [.data, .data, .data, .data], laidTests := true, laidLooks := .later }
def RationalAddsCardSaid : Prop := Claim7.holds Tryz.pinned (.plain (OpenSpec.ofChange rationalAddsSpec)) rationalAddsCard

/-- THE TIED CARD OF 'viatorlaw02.RationalMultiplies'. -/
def rationalMultipliesCard : Claim7 := { stood := { row := rationalMultipliesRow, standIns := [], harness := (true, "4eb2839daf001a922e4ace022af1138d9732405d40b305fc1531d4484d3e25b9"), looks := false }, kinds := [], alts := [], laidByText := true, laidKinds := [.data, .data, .data, .data], laidTests := true, laidLooks := .later }
def RationalMultipliesCardSaid : Prop := Claim7.holds Tryz.pinned (.plain (OpenSpec.ofChange rationalMultipliesSpec)) rationalMultipliesCard

/-- THE TIED CARD OF 'viatorlaw02.RationalField'. -/
def rationalFieldCard : Claim7 := { stood := { row := rationalFieldRow, standIns := [], harness := (true, "4eb2839daf001a922e4ace022af1138d9732405d40b305fc1531d4484d3e25b9"), looks := false }, kinds := [], alts := [], laidByText := true, laidKinds := [.data, .data, .data, .data], laidTests := true, laidLooks := .later }
def RationalFieldCardSaid : Prop := Claim7.holds Tryz.pinned (.plain (OpenSpec.ofChange rationalFieldSpec)) rationalFieldCard

/-- THE TIED CARD OF 'viatorlaw02.RationalCompares'. -/
def rationalComparesCard : Claim7 := { stood := { row := rationalComparesRow, standIns := [], harness := (true, "4eb2839daf001a922e4ace022af1138d9732405d40b305fc1531d4484d3e25b9"), looks := false }, kinds := [], alts := [], laidByText := true, laidKinds := [.data, .data, .data, .data], laidTests := true, laidLooks := .later }
def RationalComparesCardSaid : Prop := Claim7.holds Tryz.pinned (.plain (OpenSpec.ofChange rationalComparesSpec)) rationalComparesCard

/-- THE TIED CARD OF 'viatorlaw02.RationalFloors'. -/
def rationalFloorsCard : Claim7 := { stood := { row := rationalFloorsRow, standIns := [], harness := (true, "4eb2839daf001a922e4ace022af1138d9732405d40b305fc1531d4484d3e25b9"), looks := false }, kinds := [], alts := [], laidByText := true, laidKinds := [.data, .data, .data, .data], laidTests := true, laidLooks := .later }
def RationalFloorsCardSaid : Prop := Claim7.holds Tryz.pinned (.plain (OpenSpec.ofChange rationalFloorsSpec)) rationalFloorsCard

/-- THE TIED CARD OF 'viatorlaw02.RationalSimplest'. -/
def rationalSimplestCard : Claim7 := { stood := { row := rationalSimplestRow, standIns := [], harness := (true, "4eb2839daf001a922e4ace022af1138d9732405d40b305fc1531d4484d3e25b9"), looks := false }, kinds := [], alts := [], laidByText := true, laidKinds := [.data, .data, .data, .data], laidTests := true, laidLooks := .later }
def RationalSimplestCardSaid : Prop := Claim7.holds Tryz.pinned (.plain (OpenSpec.ofChange rationalSimplestSpec)) rationalSimplestCard

/-- THE TIED CARD OF 'viatorlaw02.RationalDeep'. -/
def rationalDeepCard : Claim7 := { stood := { row := rationalDeepRow, standIns := [], harness := (true, "4eb2839daf001a922e4ace022af1138d9732405d40b305fc1531d4484d3e25b9"), looks := false }, kinds := [], alts := [], laidByText := true, laidKinds := [.data, .data, .data, .data], laidTests := true, laidLooks := .later }
def RationalDeepCardSaid : Prop := Claim7.holds Tryz.pinned (.plain (OpenSpec.ofChange rationalDeepSpec)) rationalDeepCard

/-- THE TIED CARD OF 'viatorlaw02.RationalRoots'. -/
def rationalRootsCard : Claim7 := { stood := { row := rationalRootsRow, standIns := [], harness := (true, "4eb2839daf001a922e4ace022af1138d9732405d40b305fc1531d4484d3e25b9"), looks := false }, kinds := [], alts := [], laidByText := true, laidKinds := [.data, .data, .data, .data], laidTests := true, laidLooks := .later }
def RationalRootsCardSaid : Prop := Claim7.holds Tryz.pinned (.plain (OpenSpec.ofChange rationalRootsSpec)) rationalRootsCard

/-- THE TIED CARD OF 'viatorlaw02.RationalPrints'. -/
def rationalPrintsCard : Claim7 := { stood := { row := rationalPrintsRow, standIns := [], harness := (true, "4eb2839daf001a922e4ace022af1138d9732405d40b305fc1531d4484d3e25b9"), looks := false }, kinds := [], alts := [], laidByText := true, laidKinds := [.data, .data, .data, .data], laidTests := true, laidLooks := .later }
def RationalPrintsCardSaid : Prop := Claim7.holds Tryz.pinned (.plain (OpenSpec.ofChange rationalPrintsSpec)) rationalPrintsCard

/-- THE SECOND FORM's CARD OF 'viatorlaw02.RationalChecks'. -/
def rationalChecksUptoCard : Claim7 := { stood := { row := rationalChecksUptoRow, standIns := [], harness := (true, "4eb2839daf001a922e4ace022af1138d9732405d40b305fc1531d4484d3e25b9"), looks := false }, kinds := [], alts := [], laidByText := true, laidKinds := [.data, .data, .data, .data], laidTests := true, laidLooks := .later }
def RationalChecksUptoCardSaid : Prop := Claim7.holds Tryz.pinned (.plain (OpenSpec.upto rationalChecksSpec)) rationalChecksUptoCard

/-- THE SECOND FORM's CARD OF 'viatorlaw02.RationalMakes'. -/
def rationalMakesUptoCard : Claim7 := { stood := { row := rationalMakesUptoRow, standIns := [], harness := (true, "4eb2839daf001a922e4ace022af1138d9732405d40b305fc1531d4484d3e25b9"), looks := false }, kinds := [], alts := [], laidByText := true, laidKinds := [.data, .data, .data, .data], laidTests := true, laidLooks := .later }
def RationalMakesUptoCardSaid : Prop := Claim7.holds Tryz.pinned (.plain (OpenSpec.upto rationalMakesSpec)) rationalMakesUptoCard

/-- THE SECOND FORM's CARD OF 'viatorlaw02.RationalAdds'. -/
def rationalAddsUptoCard : Claim7 := { stood := { row := rationalAddsUptoRow, standIns := [], harness := (true, "4eb2839daf001a922e4ace022af1138d9732405d40b305fc1531d4484d3e25b9"), looks := false }, kinds := [], alts := [], laidByText := true, laidKinds := [.data, .data, .data, .data], laidTests := true, laidLooks := .later }
def RationalAddsUptoCardSaid : Prop := Claim7.holds Tryz.pinned (.plain (OpenSpec.upto rationalAddsSpec)) rationalAddsUptoCard

/-- THE SECOND FORM's CARD OF 'viatorlaw02.RationalMultiplies'. -/
def rationalMultipliesUptoCard : Claim7 := { stood := { row := rationalMultipliesUptoRow, standIns := [], harness := (true, "4eb2839daf001a922e4ace022af1138d9732405d40b305fc1531d4484d3e25b9"), looks := false }, kinds := [], alts := [], laidByText := true, laidKinds := [.data, .data, .data, .data], laidTests := true, laidLooks := .later }
def RationalMultipliesUptoCardSaid : Prop := Claim7.holds Tryz.pinned (.plain (OpenSpec.upto rationalMultipliesSpec)) rationalMultipliesUptoCard

/-- THE SECOND FORM's CARD OF 'viatorlaw02.RationalField'. -/
def rationalFieldUptoCard : Claim7 := { stood := { row := rationalFieldUptoRow, standIns := [], harness := (true, "4eb2839daf001a922e4ace022af1138d9732405d40b305fc1531d4484d3e25b9"), looks := false }, kinds := [], alts := [], laidByText := true, laidKinds := [.data, .data, .data, .data], laidTests := true, laidLooks := .later }
def RationalFieldUptoCardSaid : Prop := Claim7.holds Tryz.pinned (.plain (OpenSpec.upto rationalFieldSpec)) rationalFieldUptoCard

/-- THE SECOND FORM's CARD OF 'viatorlaw02.RationalCompares'. -/
def rationalComparesUptoCard : Claim7 := { stood := { row := rationalComparesUptoRow, standIns := [], harness := (true, "4eb2839daf001a922e4ace022af1138d9732405d40b305fc1531d4484d3e25b9"), looks := false }, kinds := [], alts := [], laidByText := true, laidKinds := [.data, .data, .data, .data], laidTests := true, laidLooks := .later }
def RationalComparesUptoCardSaid : Prop := Claim7.holds Tryz.pinned (.plain (OpenSpec.upto rationalComparesSpec)) rationalComparesUptoCard

/-- THE SECOND FORM's CARD OF 'viatorlaw02.RationalFloors'. -/
def rationalFloorsUptoCard : Claim7 := { stood := { row := rationalFloorsUptoRow, standIns := [], harness := (true, "4eb2839daf001a922e4ace022af1138d9732405d40b305fc1531d4484d3e25b9"), looks := false }, kinds := [], alts := [], laidByText := true, laidKinds := [.data, .data, .data, .data], laidTests := true, laidLooks := .later }
def RationalFloorsUptoCardSaid : Prop := Claim7.holds Tryz.pinned (.plain (OpenSpec.upto rationalFloorsSpec)) rationalFloorsUptoCard

/-- THE SECOND FORM's CARD OF 'viatorlaw02.RationalSimplest'. -/
def rationalSimplestUptoCard : Claim7 := { stood := { row := rationalSimplestUptoRow, standIns := [], harness := (true, "4eb2839daf001a922e4ace022af1138d9732405d40b305fc1531d4484d3e25b9"), looks := false }, kinds := [], alts := [], laidByText := true, laidKinds := [.data, .data, .data, .data], laidTests := true, laidLooks := .later }
def RationalSimplestUptoCardSaid : Prop := Claim7.holds Tryz.pinned (.plain (OpenSpec.upto rationalSimplestSpec)) rationalSimplestUptoCard

/-- THE SECOND FORM's CARD OF 'viatorlaw02.RationalDeep'. -/
def rationalDeepUptoCard : Claim7 := { stood := { row := rationalDeepUptoRow, standIns := [], harness := (true, "4eb2839daf001a922e4ace022af1138d9732405d40b305fc1531d4484d3e25b9"), looks := false }, kinds := [], alts := [], laidByText := true, laidKinds := [.data, .data, .data, .data], laidTests := true, laidLooks := .later }
def RationalDeepUptoCardSaid : Prop := Claim7.holds Tryz.pinned (.plain (OpenSpec.upto rationalDeepSpec)) rationalDeepUptoCard

/-- THE SECOND FORM's CARD OF 'viatorlaw02.RationalRoots'. -/
def rationalRootsUptoCard : Claim7 := { stood := { row := rationalRootsUptoRow, standIns := [], harness := (true, "4eb2839daf001a922e4ace022af1138d9732405d40b305fc1531d4484d3e25b9"), looks := false }, kinds := [], alts := [], laidByText := true, laidKinds := [.data, .data, .data, .data], laidTests := true, laidLooks := .later }
def RationalRootsUptoCardSaid : Prop := Claim7.holds Tryz.pinned (.plain (OpenSpec.upto rationalRootsSpec)) rationalRootsUptoCard

/-- THE SECOND FORM's CARD OF 'viatorlaw02.RationalPrints'. -/
def rationalPrintsUptoCard : Claim7 := { stood := { row := rationalPrintsUptoRow, standIns := [], harness := (true, "4eb2839daf001a922e4ace022af1138d9732405d40b305fc1531d4484d3e25b9"), looks := false }, kinds := [], alts := [], laidByText := true, laidKinds := [.data, .data, .data, .data], laidTests := true, laidLooks := .later }
def RationalPrintsUptoCardSaid : Prop := Claim7.holds Tryz.pinned (.plain (OpenSpec.upto rationalPrintsSpec)) rationalPrintsUptoCard
end Rows
end Go.Proofs.YtahehlajpaoiiaaGreatDoor
