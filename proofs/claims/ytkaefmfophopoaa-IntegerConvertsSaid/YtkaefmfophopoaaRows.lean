/-
  No cell of these rows narrows 'for every input' (looked for: loops, veiled, ifaces, maps, wideKeys, modest, calm, conditions, laid).
  DERIVED. THE GIVEN ROWS OF THIS SEAT. 9 by the template 'for every input the law returns true; each argument reads behind the call as it read before'; 0 by the template 'total and deterministic' (their statements: YtkaefmfophopoaaTotals.lean).
  GIVEN WITH THE SEED: the statements are not yours to turn. If you find one false, say at which input.
  Laid BY PROGRAM, IN A SANDBOX (cutbox-rows.mjs): the forced cells as the released guide's own fill.sh prints them over the translation 53caead652edc6e0… (all of the seat's roots in one cut). By AI agents, Wed Nov 11 2026. No macro, syntax, notation, axiom, sorry.
-/
import Derived.Test.YtkaefmfophopoaaChecked
import GoSem.Claim
import GoSem.ClaimJoined
import GoSem.ClaimMapViews
import Derived.JoinedTies
import Derived.KernelRfl
namespace Go.Proofs.Ytkaefmfophopoaa
/- THE CELL 'sum', in the pinned program and in every row, IS THE sha256 OF THE DUMP (.gsa) THAT YtkaefmfophopoaaProg.lean LOADS. Nothing in Lean hashes anything: it is a label: what it is worth is what the hold of that sum in a sandbox is worth. -/
noncomputable def Try.pinned : Pinned := { name := "ytkaefmfophopoaa", sum := "53caead652edc6e064e0e090b1b7817a8e6efa43b42a2148fd4cd3359039d179", checked := Try.checked }
namespace Rows
def none {H : Type} : Left H := { results := [], args := [] }

/-- 'viatorlaw01.IntegerChecks': WHATEVER THE INPUT: true; the input reads as it did. -/
def integerChecksSpec : ChangeSpec := { name := "integerChecks", fn := fun _ => fun
  | [d] => { results := [.lit (.bool true)], args := [d] }
  | _ => none }
def integerChecksRow : OpenClaim := { program := "ytkaefmfophopoaa", sum := "53caead652edc6e064e0e090b1b7817a8e6efa43b42a2148fd4cd3359039d179", func := "viator/viatorlaw01.IntegerChecks", spec := "integerChecks", inPlace := ["math/bits.Add64", "math/bits.Sub64"], named := ["math/bits.divideError", "math/bits.overflowError"], apart := false }
def IntegerChecksSaid : Prop := integerChecksRow.holds Try.pinned (OpenSpec.ofChange integerChecksSpec)

/-- ITS FALSE NEIGHBOUR: 'it returns false'. Refute it at one input. -/
def integerChecksWrong : ChangeSpec := { name := "integerChecks", fn := fun _ => fun
  | [d] => { results := [.lit (.bool false)], args := [d] }
  | _ => none }
def IntegerChecksWrongFalsely : Prop := integerChecksRow.holds Try.pinned (OpenSpec.ofChange integerChecksWrong)

/-- 'viatorlaw01.IntegerConverts': WHATEVER THE INPUT: true; the input reads as it did. -/
def integerConvertsSpec : ChangeSpec := { name := "integerConverts", fn := fun _ => fun
  | [d1, d2] => { results := [.lit (.bool true)], args := [d1, d2] }
  | _ => none }
def integerConvertsRow : OpenClaim := { program := "ytkaefmfophopoaa", sum := "53caead652edc6e064e0e090b1b7817a8e6efa43b42a2148fd4cd3359039d179", func := "viator/viatorlaw01.IntegerConverts", spec := "integerConverts", inPlace := ["math/bits.Add64", "math/bits.Sub64"], named := ["math/bits.divideError", "math/bits.overflowError"], apart := false }
def IntegerConvertsSaid : Prop := integerConvertsRow.holds Try.pinned (OpenSpec.ofChange integerConvertsSpec)

/-- ITS FALSE NEIGHBOUR: 'it returns false'. Refute it at one input. -/
def integerConvertsWrong : ChangeSpec := { name := "integerConverts", fn := fun _ => fun
  | [d1, d2] => { results := [.lit (.bool false)], args := [d1, d2] }
  | _ => none }
def IntegerConvertsWrongFalsely : Prop := integerConvertsRow.holds Try.pinned (OpenSpec.ofChange integerConvertsWrong)

/-- 'viatorlaw01.IntegerCompares': WHATEVER THE INPUT: true; the input reads as it did. -/
def integerComparesSpec : ChangeSpec := { name := "integerCompares", fn := fun _ => fun
  | [d1, d2] => { results := [.lit (.bool true)], args := [d1, d2] }
  | _ => none }
def integerComparesRow : OpenClaim := { program := "ytkaefmfophopoaa", sum := "53caead652edc6e064e0e090b1b7817a8e6efa43b42a2148fd4cd3359039d179", func := "viator/viatorlaw01.IntegerCompares", spec := "integerCompares", inPlace := ["math/bits.Add64", "math/bits.Sub64"], named := ["math/bits.divideError", "math/bits.overflowError"], apart := false }
def IntegerComparesSaid : Prop := integerComparesRow.holds Try.pinned (OpenSpec.ofChange integerComparesSpec)

/-- ITS FALSE NEIGHBOUR: 'it returns false'. Refute it at one input. -/
def integerComparesWrong : ChangeSpec := { name := "integerCompares", fn := fun _ => fun
  | [d1, d2] => { results := [.lit (.bool false)], args := [d1, d2] }
  | _ => none }
def IntegerComparesWrongFalsely : Prop := integerComparesRow.holds Try.pinned (OpenSpec.ofChange integerComparesWrong)

/-- 'viatorlaw01.IntegerAdds': WHATEVER THE INPUT: true; the input reads as it did. -/
def integerAddsSpec : ChangeSpec := { name := "integerAdds", fn := fun _ => fun
  | [d1, d2] => { results := [.lit (.bool true)], args := [d1, d2] }
  | _ => none }
def integerAddsRow : OpenClaim := { program := "ytkaefmfophopoaa", sum := "53caead652edc6e064e0e090b1b7817a8e6efa43b42a2148fd4cd3359039d179", func := "viator/viatorlaw01.IntegerAdds", spec := "integerAdds", inPlace := ["math/bits.Add64", "math/bits.Sub64"], named := ["math/bits.divideError", "math/bits.overflowError"], apart := false }
def IntegerAddsSaid : Prop := integerAddsRow.holds Try.pinned (OpenSpec.ofChange integerAddsSpec)

/-- ITS FALSE NEIGHBOUR: 'it returns false'. Refute it at one input. -/
def integerAddsWrong : ChangeSpec := { name := "integerAdds", fn := fun _ => fun
  | [d1, d2] => { results := [.lit (.bool false)], args := [d1, d2] }
  | _ => none }
def IntegerAddsWrongFalsely : Prop := integerAddsRow.holds Try.pinned (OpenSpec.ofChange integerAddsWrong)

/-- 'viatorlaw01.IntegerMultiplies': WHATEVER THE INPUT: true; the input reads as it did. -/
def integerMultipliesSpec : ChangeSpec := { name := "integerMultiplies", fn := fun _ => fun
  | [d1, d2] => { results := [.lit (.bool true)], args := [d1, d2] }
  | _ => none }
def integerMultipliesRow : OpenClaim := { program := "ytkaefmfophopoaa", sum := "53caead652edc6e064e0e090b1b7817a8e6efa43b42a2148fd4cd3359039d179", func := "viator/viatorlaw01.IntegerMultiplies", spec := "integerMultiplies", inPlace := ["math/bits.Add64", "math/bits.Sub64"], named := ["math/bits.divideError", "math/bits.overflowError"], apart := false }
def IntegerMultipliesSaid : Prop := integerMultipliesRow.holds Try.pinned (OpenSpec.ofChange integerMultipliesSpec)

/-- ITS FALSE NEIGHBOUR: 'it returns false'. Refute it at one input. -/
def integerMultipliesWrong : ChangeSpec := { name := "integerMultiplies", fn := fun _ => fun
  | [d1, d2] => { results := [.lit (.bool false)], args := [d1, d2] }
  | _ => none }
def IntegerMultipliesWrongFalsely : Prop := integerMultipliesRow.holds Try.pinned (OpenSpec.ofChange integerMultipliesWrong)

/-- 'viatorlaw01.IntegerRings': WHATEVER THE INPUT: true; the input reads as it did. -/
def integerRingsSpec : ChangeSpec := { name := "integerRings", fn := fun _ => fun
  | [d1, d2, d3] => { results := [.lit (.bool true)], args := [d1, d2, d3] }
  | _ => none }
def integerRingsRow : OpenClaim := { program := "ytkaefmfophopoaa", sum := "53caead652edc6e064e0e090b1b7817a8e6efa43b42a2148fd4cd3359039d179", func := "viator/viatorlaw01.IntegerRings", spec := "integerRings", inPlace := ["math/bits.Add64", "math/bits.Sub64"], named := ["math/bits.divideError", "math/bits.overflowError"], apart := false }
def IntegerRingsSaid : Prop := integerRingsRow.holds Try.pinned (OpenSpec.ofChange integerRingsSpec)

/-- ITS FALSE NEIGHBOUR: 'it returns false'. Refute it at one input. -/
def integerRingsWrong : ChangeSpec := { name := "integerRings", fn := fun _ => fun
  | [d1, d2, d3] => { results := [.lit (.bool false)], args := [d1, d2, d3] }
  | _ => none }
def IntegerRingsWrongFalsely : Prop := integerRingsRow.holds Try.pinned (OpenSpec.ofChange integerRingsWrong)

/-- 'viatorlaw01.IntegerDivides': WHATEVER THE INPUT: true; the input reads as it did. -/
def integerDividesSpec : ChangeSpec := { name := "integerDivides", fn := fun _ => fun
  | [d1, d2] => { results := [.lit (.bool true)], args := [d1, d2] }
  | _ => none }
def integerDividesRow : OpenClaim := { program := "ytkaefmfophopoaa", sum := "53caead652edc6e064e0e090b1b7817a8e6efa43b42a2148fd4cd3359039d179", func := "viator/viatorlaw01.IntegerDivides", spec := "integerDivides", inPlace := ["math/bits.Add64", "math/bits.Sub64"], named := ["math/bits.divideError", "math/bits.overflowError"], apart := false }
def IntegerDividesSaid : Prop := integerDividesRow.holds Try.pinned (OpenSpec.ofChange integerDividesSpec)

/-- ITS FALSE NEIGHBOUR: 'it returns false'. Refute it at one input. -/
def integerDividesWrong : ChangeSpec := { name := "integerDivides", fn := fun _ => fun
  | [d1, d2] => { results := [.lit (.bool false)], args := [d1, d2] }
  | _ => none }
def IntegerDividesWrongFalsely : Prop := integerDividesRow.holds Try.pinned (OpenSpec.ofChange integerDividesWrong)

/-- 'viatorlaw01.IntegerPowers': WHATEVER THE INPUT: true; the input reads as it did. -/
def integerPowersSpec : ChangeSpec := { name := "integerPowers", fn := fun _ => fun
  | [d1, d2] => { results := [.lit (.bool true)], args := [d1, d2] }
  | _ => none }
def integerPowersRow : OpenClaim := { program := "ytkaefmfophopoaa", sum := "53caead652edc6e064e0e090b1b7817a8e6efa43b42a2148fd4cd3359039d179", func := "viator/viatorlaw01.IntegerPowers", spec := "integerPowers", inPlace := ["math/bits.Add64", "math/bits.Sub64"], named := ["math/bits.divideError", "math/bits.overflowError"], apart := false }
def IntegerPowersSaid : Prop := integerPowersRow.holds Try.pinned (OpenSpec.ofChange integerPowersSpec)

/-- ITS FALSE NEIGHBOUR: 'it returns false'. Refute it at one input. -/
def integerPowersWrong : ChangeSpec := { name := "integerPowers", fn := fun _ => fun
  | [d1, d2] => { results := [.lit (.bool false)], args := [d1, d2] }
  | _ => none }
def IntegerPowersWrongFalsely : Prop := integerPowersRow.holds Try.pinned (OpenSpec.ofChange integerPowersWrong)

/-- 'viatorlaw01.IntegerRoots': WHATEVER THE INPUT: true; the input reads as it did. -/
def integerRootsSpec : ChangeSpec := { name := "integerRoots", fn := fun _ => fun
  | [d] => { results := [.lit (.bool true)], args := [d] }
  | _ => none }
def integerRootsRow : OpenClaim := { program := "ytkaefmfophopoaa", sum := "53caead652edc6e064e0e090b1b7817a8e6efa43b42a2148fd4cd3359039d179", func := "viator/viatorlaw01.IntegerRoots", spec := "integerRoots", inPlace := ["math/bits.Add64", "math/bits.Sub64"], recurses := true, named := ["math/bits.divideError", "math/bits.overflowError"], apart := false }
def IntegerRootsSaid : Prop := integerRootsRow.holds Try.pinned (OpenSpec.ofChange integerRootsSpec)

/-- ITS FALSE NEIGHBOUR: 'it returns false'. Refute it at one input. -/
def integerRootsWrong : ChangeSpec := { name := "integerRoots", fn := fun _ => fun
  | [d] => { results := [.lit (.bool false)], args := [d] }
  | _ => none }
def IntegerRootsWrongFalsely : Prop := integerRootsRow.holds Try.pinned (OpenSpec.ofChange integerRootsWrong)

/- THE SECOND FORM. 'bulk': how many values and letters a reading holds, each counted each time it is reached (what is shared counts as often as it is met; a slice's spare places count too). A statement '..UptoSaid' is the law's where the arguments, and the package variables that the reading takes, are together of bulk at most 1048576: NARROWER than '..Said'. Prove '..Said' where nothing that the law and all that it calls make is longer than what came in: it says more and counts as full. Else prove '..UptoSaid'. A law counts once. -/
mutual
def uptoBulk {H : Type} : DataW H → Nat
  | .lit (.string bytes) => bytes.length + 1
  | .lit _ => 1
  | .nil => 1
  | .ptr d => uptoBulk d + 1
  | .slice elems spare => uptoBulkAll elems + uptoBulkAll spare + 1
  | .agg parts => uptoBulkAll parts + 1
  | .iface _ d => uptoBulk d + 1
  | .map entries => uptoBulkEntries entries + 1
  | .held _ => 1
def uptoBulkAll {H : Type} : List (DataW H) → Nat
  | [] => 0
  | d :: r => uptoBulk d + uptoBulkAll r
def uptoBulkEntries {H : Type} : List (Lit × DataW H) → Nat
  | [] => 0
  | x :: r => uptoBulkEntry x + uptoBulkEntries r
def uptoBulkEntry {H : Type} : Lit × DataW H → Nat
  | (.string bytes, d) => bytes.length + uptoBulk d + 1
  | (_, d) => uptoBulk d + 1
 end
def uptoSmall : (H : Type) → List (DataW H) → Bool := fun _ ds => decide (uptoBulkAll ds ≤ 1048576)
def OpenSpec.upto (s : _root_.Go.ChangeSpec) : _root_.Go.OpenSpec := { _root_.Go.OpenSpec.ofChange s with cond := some uptoSmall }

/-- 'viatorlaw01.IntegerChecks', WHERE WHAT IT READS IS OF BULK AT MOST 1048576: true; the input reads as it did. -/
def integerChecksUptoRow : OpenClaim := { program := "ytkaefmfophopoaa", sum := "53caead652edc6e064e0e090b1b7817a8e6efa43b42a2148fd4cd3359039d179", func := "viator/viatorlaw01.IntegerChecks", spec := "integerChecks", inPlace := ["math/bits.Add64", "math/bits.Sub64"], named := ["math/bits.divideError", "math/bits.overflowError"], apart := false, narrowed := true }
def IntegerChecksUptoSaid : Prop := integerChecksUptoRow.holds Try.pinned (OpenSpec.upto integerChecksSpec)

/-- 'viatorlaw01.IntegerConverts', WHERE WHAT IT READS IS OF BULK AT MOST 1048576: true; the input reads as it did. -/
def integerConvertsUptoRow : OpenClaim := { program := "ytkaefmfophopoaa", sum := "53caead652edc6e064e0e090b1b7817a8e6efa43b42a2148fd4cd3359039d179", func := "viator/viatorlaw01.IntegerConverts", spec := "integerConverts", inPlace := ["math/bits.Add64", "math/bits.Sub64"], named := ["math/bits.divideError", "math/bits.overflowError"], apart := false, narrowed := true }
def IntegerConvertsUptoSaid : Prop := integerConvertsUptoRow.holds Try.pinned (OpenSpec.upto integerConvertsSpec)

/-- 'viatorlaw01.IntegerCompares', WHERE WHAT IT READS IS OF BULK AT MOST 1048576: true; the input reads as it did. -/
def integerComparesUptoRow : OpenClaim := { program := "ytkaefmfophopoaa", sum := "53caead652edc6e064e0e090b1b7817a8e6efa43b42a2148fd4cd3359039d179", func := "viator/viatorlaw01.IntegerCompares", spec := "integerCompares", inPlace := ["math/bits.Add64", "math/bits.Sub64"], named := ["math/bits.divideError", "math/bits.overflowError"], apart := false, narrowed := true }
def IntegerComparesUptoSaid : Prop := integerComparesUptoRow.holds Try.pinned (OpenSpec.upto integerComparesSpec)

/-- 'viatorlaw01.IntegerAdds', WHERE WHAT IT READS IS OF BULK AT MOST 1048576: true; the input reads as it did. -/
def integerAddsUptoRow : OpenClaim := { program := "ytkaefmfophopoaa", sum := "53caead652edc6e064e0e090b1b7817a8e6efa43b42a2148fd4cd3359039d179", func := "viator/viatorlaw01.IntegerAdds", spec := "integerAdds", inPlace := ["math/bits.Add64", "math/bits.Sub64"], named := ["math/bits.divideError", "math/bits.overflowError"], apart := false, narrowed := true }
def IntegerAddsUptoSaid : Prop := integerAddsUptoRow.holds Try.pinned (OpenSpec.upto integerAddsSpec)

/-- 'viatorlaw01.IntegerMultiplies', WHERE WHAT IT READS IS OF BULK AT MOST 1048576: true; the input reads as it did. -/
def integerMultipliesUptoRow : OpenClaim := { program := "ytkaefmfophopoaa", sum := "53caead652edc6e064e0e090b1b7817a8e6efa43b42a2148fd4cd3359039d179", func := "viator/viatorlaw01.IntegerMultiplies", spec := "integerMultiplies", inPlace := ["math/bits.Add64", "math/bits.Sub64"], named := ["math/bits.divideError", "math/bits.overflowError"], apart := false, narrowed := true }
def IntegerMultipliesUptoSaid : Prop := integerMultipliesUptoRow.holds Try.pinned (OpenSpec.upto integerMultipliesSpec)

/-- 'viatorlaw01.IntegerRings', WHERE WHAT IT READS IS OF BULK AT MOST 1048576: true; the input reads as it did. -/
def integerRingsUptoRow : OpenClaim := { program := "ytkaefmfophopoaa", sum := "53caead652edc6e064e0e090b1b7817a8e6efa43b42a2148fd4cd3359039d179", func := "viator/viatorlaw01.IntegerRings", spec := "integerRings", inPlace := ["math/bits.Add64", "math/bits.Sub64"], named := ["math/bits.divideError", "math/bits.overflowError"], apart := false, narrowed := true }
def IntegerRingsUptoSaid : Prop := integerRingsUptoRow.holds Try.pinned (OpenSpec.upto integerRingsSpec)

/-- 'viatorlaw01.IntegerDivides', WHERE WHAT IT READS IS OF BULK AT MOST 1048576: true; the input reads as it did. -/
def integerDividesUptoRow : OpenClaim := { program := "ytkaefmfophopoaa", sum := "53caead652edc6e064e0e090b1b7817a8e6efa43b42a2148fd4cd3359039d179", func := "viator/viatorlaw01.IntegerDivides", spec := "integerDivides", inPlace := ["math/bits.Add64", "math/bits.Sub64"], named := ["math/bits.divideError", "math/bits.overflowError"], apart := false, narrowed := true }
def IntegerDividesUptoSaid : Prop := integerDividesUptoRow.holds Try.pinned (OpenSpec.upto integerDividesSpec)

/-- 'viatorlaw01.IntegerPowers', WHERE WHAT IT READS IS OF BULK AT MOST 1048576: true; the input reads as it did. -/
def integerPowersUptoRow : OpenClaim := { program := "ytkaefmfophopoaa", sum := "53caead652edc6e064e0e090b1b7817a8e6efa43b42a2148fd4cd3359039d179", func := "viator/viatorlaw01.IntegerPowers", spec := "integerPowers", inPlace := ["math/bits.Add64", "math/bits.Sub64"], named := ["math/bits.divideError", "math/bits.overflowError"], apart := false, narrowed := true }
def IntegerPowersUptoSaid : Prop := integerPowersUptoRow.holds Try.pinned (OpenSpec.upto integerPowersSpec)

/-- 'viatorlaw01.IntegerRoots', WHERE WHAT IT READS IS OF BULK AT MOST 1048576: true; the input reads as it did. -/
def integerRootsUptoRow : OpenClaim := { program := "ytkaefmfophopoaa", sum := "53caead652edc6e064e0e090b1b7817a8e6efa43b42a2148fd4cd3359039d179", func := "viator/viatorlaw01.IntegerRoots", spec := "integerRoots", inPlace := ["math/bits.Add64", "math/bits.Sub64"], recurses := true, named := ["math/bits.divideError", "math/bits.overflowError"], apart := false, narrowed := true }
def IntegerRootsUptoSaid : Prop := integerRootsUptoRow.holds Try.pinned (OpenSpec.upto integerRootsSpec)

end Rows
end Go.Proofs.Ytkaefmfophopoaa
