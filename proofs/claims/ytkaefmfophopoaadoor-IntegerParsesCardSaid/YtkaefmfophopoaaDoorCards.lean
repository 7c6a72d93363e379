/-
  DERIVED. GIVEN WITH THE SEED: THE CARDS: each row of YtkaefmfophopoaaDoorRows.lean that lists a variable, with what it lists TIED to the program's text (the seventh form; the later family's looks); each row that meets fmt, with fmt's text TOLD by the authors' own Lean function (tested against real Go, not proved from fmt's source: count such statements apart). THE CARD IS WHAT COUNTS. Prove the row's statement (the work); the ties are given (YtkaefmfophopoaaDoorTie.lean); close each card by the builder's one call (the guide's Derived/Test/ToyasCard.lean, 'card_holds'). Laid BY PROGRAM, IN A SANDBOX (cutbox-door.mjs). By AI agents, Wed Nov 11 2026. No macro, syntax, notation, axiom, sorry.
-/
import Derived.Test.YtkaefmfophopoaaDoorRows
import GoSem.ClaimSeven
namespace Go.Proofs.YtkaefmfophopoaaDoor
namespace Rows

/-- THE TIED CARD OF 'viatorlaw01.IntegerGcds'. -/
def integerGcdsCard : Claim7 := { stood := { row := integerGcdsRow, standIns := [], harness := (true, "fbc206a916c1bfbdaedbc1ef9cef2321bd9c6434b58312da2afc4585ed0b2a31"), looks := false }, kinds := [], alts := [], laidByText := true, laidKinds := [.data], laidTests := true, laidLooks := .later }
def IntegerGcdsCardSaid : Prop := Claim7.holds Tryd.pinned (.plain (OpenSpec.ofChange integerGcdsSpec)) integerGcdsCard

/-- THE TIED CARD OF 'viatorlaw01.IntegerPrints'. -/
def integerPrintsCard : Claim7 := { stood := { row := integerPrintsRow, standIns := [], harness := (true, "fbc206a916c1bfbdaedbc1ef9cef2321bd9c6434b58312da2afc4585ed0b2a31"), looks := false }, kinds := [], alts := [], laidByText := true, laidKinds := [.data, .data, .data], laidTests := true, laidLooks := .later }
def IntegerPrintsCardSaid : Prop := Claim7.holds Tryd.pinned (.plain (OpenSpec.ofChange integerPrintsSpec)) integerPrintsCard

/-- THE TIED CARD OF 'viatorlaw01.IntegerParses'. -/
def integerParsesCard : Claim7 := { stood := { row := integerParsesRow, standIns := [], harness := (true, "fbc206a916c1bfbdaedbc1ef9cef2321bd9c6434b58312da2afc4585ed0b2a31"), looks := false }, kinds := [], alts := [], laidByText := true, laidKinds := [.data, .data, .data], laidTests := true, laidLooks := .later }
def IntegerParsesCardSaid : Prop := Claim7.holds Tryd.pinned (.plain (OpenSpec.ofChange integerParsesSpec)) integerParsesCard

/-- THE SECOND FORM's CARD OF 'viatorlaw01.IntegerGcds'. -/
def integerGcdsUptoCard : Claim7 := { stood := { row := integerGcdsUptoRow, standIns := [], harness := (true, "fbc206a916c1bfbdaedbc1ef9cef2321bd9c6434b58312da2afc4585ed0b2a31"), looks := false }, kinds := [], alts := [], laidByText := true, laidKinds := [.data], laidTests := true, laidLooks := .later }
def IntegerGcdsUptoCardSaid : Prop := Claim7.holds Tryd.pinned (.plain (OpenSpec.upto integerGcdsSpec)) integerGcdsUptoCard

/-- THE SECOND FORM's CARD OF 'viatorlaw01.IntegerPrints'. -/
def integerPrintsUptoCard : Claim7 := { stood := { row := integerPrintsUptoRow, standIns := [], harness := (true, "fbc206a916c1bfbdaedbc1ef9cef2321bd9c6434b58312da2afc4585ed0b2a31"), looks := false }, kinds := [], alts := [], laidByText := true, laidKinds := [.data, .data, .data], laidTests := true, laidLooks := .later }
def IntegerPrintsUptoCardSaid : Prop := Claim7.holds Tryd.pinned (.plain (OpenSpec.upto integerPrintsSpec)) integerPrintsUptoCard

/-- THE SECOND FORM's CARD OF 'viatorlaw01.IntegerParses'. -/
def integerParsesUptoCard : Claim7 := { stood := { row := integerParsesUptoRow, standIns := [], harness := (true, "fbc206a916c1bfbdaedbc1ef9cef2321bd9c6434b58312da2afc4585ed0b2a31"), looks := false }, kinds := [], alts := [], laidByText := true, laidKinds := [.data, .data, .data], laidTests := true, laidLooks := .later }
def IntegerParsesUptoCardSaid : Prop := Claim7.holds Tryd.pinned (.plain (OpenSpec.upto integerParsesSpec)) integerParsesUptoCard
end Rows
end Go.Proofs.YtkaefmfophopoaaDoor
