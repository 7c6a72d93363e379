/-
  NARROWER THAN 'FOR EVERY INPUT', by the rows' own cells (each row's printed sentence says how): EnclosureChecks: laid · EnclosureReals: laid · EnclosureOperates: laid · EnclosureIncludes: laid · EnclosureRoots: laid · EnclosureTight: laid · EnclosureSets: laid · EnclosureCompares: laid · EnclosureLengths: laid · EnclosureWidths: laid.
  DERIVED. THE GIVEN ROWS OF THIS SEAT. 10 by the template 'for every input the law returns true; each argument reads behind the call as it read before'; 0 by the template 'total and deterministic' (their statements: YtdbhahiieokplaaGreatDoorTotals.lean).
  GIVEN WITH THE SEED: the statements are not yours to turn. If you find one false, say at which input.
  Laid BY PROGRAM, IN A SANDBOX (cutbox-rows.mjs): the forced cells as the released guide's own fill.sh prints them over the translation bcdee16e22da8a03… (all of the seat's roots in one cut). By AI agents, Wed Nov 11 2026. No macro, syntax, notation, axiom, sorry.
-/
import Derived.Test.YtdbhahiieokplaaGreatDoorChecked
import GoSem.Claim
import GoSem.ClaimJoined
import GoSem.ClaimMapViews
import Derived.JoinedTies
import Derived.KernelRfl
namespace Go.Proofs.YtdbhahiieokplaaGreatDoor
/- THE CELL 'sum', in the pinned program and in every row, IS THE sha256 OF THE DUMP (.gsa) THAT YtdbhahiieokplaaGreatDoorProg.lean LOADS. Nothing in Lean hashes anything: it is a label: what it is worth is what the hold of that sum in a sandbox is worth. -/
noncomputable def Tryz.pinned : Pinned := { name := "ytdbhahiieokplaagreatdoor", sum := "bcdee16e22da8a03ad5be406dbc18b31524b38e4be386267ad3ff51032227e89", checked := Tryz.checked }
namespace Rows
def none {H : Type} : Left H := { results := [], args := [] }

/- WHAT THE LISTED PACKAGE-LEVEL VARIABLES READ AS WHEN THE CALL BEGINS. Each datum BY PROGRAM (the guide's laid-datum.mjs) off the statement by which the dump's own 'gosem.cut.vars' lays the variable. In a bare row this is a premise. The card (YtdbhahiieokplaaGreatDoorCards.lean) ties it to the program's text. -/
def laid_math_bits_deBruijn64tab {H : Type} : DataW H := .agg [.lit (.int .u8 0), .lit (.int .u8 1), .lit (.int .u8 56), .lit (.int .u8 2), .lit (.int .u8 57), .lit (.int .u8 49), .lit (.int .u8 28), .lit (.int .u8 3), .lit (.int .u8 61), .lit (.int .u8 58), .lit (.int .u8 42), .lit (.int .u8 50), .lit (.int .u8 38), .lit (.int .u8 29), .lit (.int .u8 17), .lit (.int .u8 4), .lit (.int .u8 62), .lit (.int .u8 47), .lit (.int .u8 59), .lit (.int .u8 36), .lit (.int .u8 45), .lit (.int .u8 43), .lit (.int .u8 51), .lit (.int .u8 22), .lit (.int .u8 53), .lit (.int .u8 39), .lit (.int .u8 33), .lit (.int .u8 30), .lit (.int .u8 24), .lit (.int .u8 18), .lit (.int .u8 12), .lit (.int .u8 5), .lit (.int .u8 63), .lit (.int .u8 55), .lit (.int .u8 48), .lit (.int .u8 27), .lit (.int .u8 60), .lit (.int .u8 41), .lit (.int .u8 37), .lit (.int .u8 16), .lit (.int .u8 46), .lit (.int .u8 35), .lit (.int .u8 44), .lit (.int .u8 21), .lit (.int .u8 52), .lit (.int .u8 32), .lit (.int .u8 23), .lit (.int .u8 11), .lit (.int .u8 54), .lit (.int .u8 26), .lit (.int .u8 40), .lit (.int .u8 15), .lit (.int .u8 34), .lit (.int .u8 20), .lit (.int .u8 31), .lit (.int .u8 10), .lit (.int .u8 25), .lit (.int .u8 14), .lit (.int .u8 19), .lit (.int .u8 9), .lit (.int .u8 13), .lit (.int .u8 8), .lit (.int .u8 7), .lit (.int .u8 6)]
def laid_viator_rational_one {H : Type} : DataW H := .agg [.lit (.bool false), .lit (.string [1])]

/-- 'viatorlaw05.EnclosureChecks': WHATEVER THE INPUT: true; the input reads as it did. -/
def enclosureChecksSpec : ChangeSpec := { name := "enclosureChecks", fn := fun _ => fun
  | [d1, d2, d3] => { results := [.lit (.bool true)], args := [d1, d2, d3] }
  | _ => none }
def enclosureChecksRow : OpenClaim := { program := "ytdbhahiieokplaagreatdoor", sum := "bcdee16e22da8a03ad5be406dbc18b31524b38e4be386267ad3ff51032227e89", func := "viator/viatorlaw05.EnclosureChecks", spec := "enclosureChecks", inPlace := ["math/bits.Add64", "math/bits.Sub64", "internal/abi.NoEscape", "internal/bytealg.MakeNoZero"], unfollowed := true, recurses := true, named := ["viator/rational.one", "math/bits.deBruijn64tab", "math/bits.divideError", "math/bits.overflowError"], apart := false, laid := [("math/bits.deBruijn64tab", laid_math_bits_deBruijn64tab), ("viator/rational.one", laid_viator_rational_one)] }
def EnclosureChecksSaid : Prop := enclosureChecksRow.holds Tryz.pinned (OpenSpec.ofChange enclosureChecksSpec)

/-- ITS FALSE NEIGHBOUR: 'it returns false'. Refute it at one input. -/
def enclosureChecksWrong : ChangeSpec := { name := "enclosureChecks", fn := fun _ => fun
  | [d1, d2, d3] => { results := [.lit (.bool false)], args := [d1, d2, d3] }
  | _ => none }
def EnclosureChecksWrongFalsely : Prop := enclosureChecksRow.holds Tryz.pinned (OpenSpec.ofChange enclosureChecksWrong)

/-- 'viatorlaw05.EnclosureReals': WHATEVER THE INPUT: true; the input reads as it did. -/
def enclosureRealsSpec : ChangeSpec := { name := "enclosureReals", fn := fun _ => fun
  | [d1, d2] => { results := [.lit (.bool true)], args := [d1, d2] }
  | _ => none }
def enclosureRealsRow : OpenClaim := { program := "ytdbhahiieokplaagreatdoor", sum := "bcdee16e22da8a03ad5be406dbc18b31524b38e4be386267ad3ff51032227e89", func := "viator/viatorlaw05.EnclosureReals", spec := "enclosureReals", inPlace := ["internal/abi.NoEscape", "internal/bytealg.MakeNoZero", "math/bits.Add64", "math/bits.Sub64"], unfollowed := true, recurses := true, named := ["viator/rational.one", "math/bits.deBruijn64tab", "math/bits.divideError", "math/bits.overflowError"], apart := false, laid := [("math/bits.deBruijn64tab", laid_math_bits_deBruijn64tab), ("viator/rational.one", laid_viator_rational_one)] }
def EnclosureRealsSaid : Prop := enclosureRealsRow.holds Tryz.pinned (OpenSpec.ofChange enclosureRealsSpec)

/-- ITS FALSE NEIGHBOUR: 'it returns false'. Refute it at one input. -/
def enclosureRealsWrong : ChangeSpec := { name := "enclosureReals", fn := fun _ => fun
  | [d1, d2] => { results := [.lit (.bool false)], args := [d1, d2] }
  | _ => none }
def EnclosureRealsWrongFalsely : Prop := enclosureRealsRow.holds Tryz.pinned (OpenSpec.ofChange enclosureRealsWrong)

/-- 'viatorlaw05.EnclosureOperates': WHATEVER THE INPUT: true; the input reads as it did. -/
def enclosureOperatesSpec : ChangeSpec := { name := "enclosureOperates", fn := fun _ => fun
  | [d1, d2, d3] => { results := [.lit (.bool true)], args := [d1, d2, d3] }
  | _ => none }
def enclosureOperatesRow : OpenClaim := { program := "ytdbhahiieokplaagreatdoor", sum := "bcdee16e22da8a03ad5be406dbc18b31524b38e4be386267ad3ff51032227e89", func := "viator/viatorlaw05.EnclosureOperates", spec := "enclosureOperates", inPlace := ["math/bits.Add64", "math/bits.Sub64", "internal/abi.NoEscape", "internal/bytealg.MakeNoZero"], unfollowed := true, recurses := true, named := ["viator/rational.one", "math/bits.deBruijn64tab", "math/bits.divideError", "math/bits.overflowError"], apart := false, laid := [("math/bits.deBruijn64tab", laid_math_bits_deBruijn64tab), ("viator/rational.one", laid_viator_rational_one)] }
def EnclosureOperatesSaid : Prop := enclosureOperatesRow.holds Tryz.pinned (OpenSpec.ofChange enclosureOperatesSpec)

/-- ITS FALSE NEIGHBOUR: 'it returns false'. Refute it at one input. -/
def enclosureOperatesWrong : ChangeSpec := { name := "enclosureOperates", fn := fun _ => fun
  | [d1, d2, d3] => { results := [.lit (.bool false)], args := [d1, d2, d3] }
  | _ => none }
def EnclosureOperatesWrongFalsely : Prop := enclosureOperatesRow.holds Tryz.pinned (OpenSpec.ofChange enclosureOperatesWrong)

/-- 'viatorlaw05.EnclosureIncludes': WHATEVER THE INPUT: true; the input reads as it did. -/
def enclosureIncludesSpec : ChangeSpec := { name := "enclosureIncludes", fn := fun _ => fun
  | [d1, d2, d3] => { results := [.lit (.bool true)], args := [d1, d2, d3] }
  | _ => none }
def enclosureIncludesRow : OpenClaim := { program := "ytdbhahiieokplaagreatdoor", sum := "bcdee16e22da8a03ad5be406dbc18b31524b38e4be386267ad3ff51032227e89", func := "viator/viatorlaw05.EnclosureIncludes", spec := "enclosureIncludes", inPlace := ["math/bits.Add64", "math/bits.Sub64", "internal/abi.NoEscape", "internal/bytealg.MakeNoZero"], unfollowed := true, recurses := true, named := ["viator/rational.one", "math/bits.deBruijn64tab", "math/bits.divideError", "math/bits.overflowError"], apart := false, laid := [("math/bits.deBruijn64tab", laid_math_bits_deBruijn64tab), ("viator/rational.one", laid_viator_rational_one)] }
def EnclosureIncludesSaid : Prop := enclosureIncludesRow.holds Tryz.pinned (OpenSpec.ofChange enclosureIncludesSpec)

/-- ITS FALSE NEIGHBOUR: 'it returns false'. Refute it at one input. -/
def enclosureIncludesWrong : ChangeSpec := { name := "enclosureIncludes", fn := fun _ => fun
  | [d1, d2, d3] => { results := [.lit (.bool false)], args := [d1, d2, d3] }
  | _ => none }
def EnclosureIncludesWrongFalsely : Prop := enclosureIncludesRow.holds Tryz.pinned (OpenSpec.ofChange enclosureIncludesWrong)

/-- 'viatorlaw05.EnclosureRoots': WHATEVER THE INPUT: true; the input reads as it did. -/
def enclosureRootsSpec : ChangeSpec := { name := "enclosureRoots", fn := fun _ => fun
  | [d1, d2] => { results := [.lit (.bool true)], args := [d1, d2] }
  | _ => none }
def enclosureRootsRow : OpenClaim := { program := "ytdbhahiieokplaagreatdoor", sum := "bcdee16e22da8a03ad5be406dbc18b31524b38e4be386267ad3ff51032227e89", func := "viator/viatorlaw05.EnclosureRoots", spec := "enclosureRoots", inPlace := ["math/bits.Add64", "math/bits.Sub64", "internal/abi.NoEscape", "internal/bytealg.MakeNoZero"], unfollowed := true, recurses := true, named := ["viator/rational.one", "math/bits.deBruijn64tab", "math/bits.divideError", "math/bits.overflowError"], apart := false, laid := [("math/bits.deBruijn64tab", laid_math_bits_deBruijn64tab), ("viator/rational.one", laid_viator_rational_one)] }
def EnclosureRootsSaid : Prop := enclosureRootsRow.holds Tryz.pinned (OpenSpec.ofChange enclosureRootsSpec)

/-- ITS FALSE NEIGHBOUR: 'it returns false'. Refute it at one input. -/
def enclosureRootsWrong : ChangeSpec := { name := "enclosureRoots", fn := fun _ => fun
  | [d1, d2] => { results := [.lit (.bool false)], args := [d1, d2] }
  | _ => none }
def EnclosureRootsWrongFalsely : Prop := enclosureRootsRow.holds Tryz.pinned (OpenSpec.ofChange enclosureRootsWrong)

/-- 'viatorlaw05.EnclosureTight': WHATEVER THE INPUT: true; the input reads as it did. -/
def enclosureTightSpec : ChangeSpec := { name := "enclosureTight", fn := fun _ => fun
  | [d1, d2] => { results := [.lit (.bool true)], args := [d1, d2] }
  | _ => none }
def enclosureTightRow : OpenClaim := { program := "ytdbhahiieokplaagreatdoor", sum := "bcdee16e22da8a03ad5be406dbc18b31524b38e4be386267ad3ff51032227e89", func := "viator/viatorlaw05.EnclosureTight", spec := "enclosureTight", inPlace := ["math/bits.Add64", "math/bits.Sub64", "internal/abi.NoEscape", "internal/bytealg.MakeNoZero"], unfollowed := true, recurses := true, named := ["viator/rational.one", "math/bits.deBruijn64tab", "math/bits.divideError", "math/bits.overflowError"], apart := false, laid := [("math/bits.deBruijn64tab", laid_math_bits_deBruijn64tab), ("viator/rational.one", laid_viator_rational_one)] }
def EnclosureTightSaid : Prop := enclosureTightRow.holds Tryz.pinned (OpenSpec.ofChange enclosureTightSpec)

/-- ITS FALSE NEIGHBOUR: 'it returns false'. Refute it at one input. -/
def enclosureTightWrong : ChangeSpec := { name := "enclosureTight", fn := fun _ => fun
  | [d1, d2] => { results := [.lit (.bool false)], args := [d1, d2] }
  | _ => none }
def EnclosureTightWrongFalsely : Prop := enclosureTightRow.holds Tryz.pinned (OpenSpec.ofChange enclosureTightWrong)

/-- 'viatorlaw05.EnclosureSets': WHATEVER THE INPUT: true; the input reads as it did. -/
def enclosureSetsSpec : ChangeSpec := { name := "enclosureSets", fn := fun _ => fun
  | [d1, d2, d3] => { results := [.lit (.bool true)], args := [d1, d2, d3] }
  | _ => none }
def enclosureSetsRow : OpenClaim := { program := "ytdbhahiieokplaagreatdoor", sum := "bcdee16e22da8a03ad5be406dbc18b31524b38e4be386267ad3ff51032227e89", func := "viator/viatorlaw05.EnclosureSets", spec := "enclosureSets", inPlace := ["math/bits.Add64", "math/bits.Sub64", "internal/abi.NoEscape", "internal/bytealg.MakeNoZero"], unfollowed := true, recurses := true, named := ["viator/rational.one", "math/bits.deBruijn64tab", "math/bits.divideError", "math/bits.overflowError"], apart := false, laid := [("math/bits.deBruijn64tab", laid_math_bits_deBruijn64tab), ("viator/rational.one", laid_viator_rational_one)] }
def EnclosureSetsSaid : Prop := enclosureSetsRow.holds Tryz.pinned (OpenSpec.ofChange enclosureSetsSpec)

/-- ITS FALSE NEIGHBOUR: 'it returns false'. Refute it at one input. -/
def enclosureSetsWrong : ChangeSpec := { name := "enclosureSets", fn := fun _ => fun
  | [d1, d2, d3] => { results := [.lit (.bool false)], args := [d1, d2, d3] }
  | _ => none }
def EnclosureSetsWrongFalsely : Prop := enclosureSetsRow.holds Tryz.pinned (OpenSpec.ofChange enclosureSetsWrong)

/-- 'viatorlaw05.EnclosureCompares': WHATEVER THE INPUT: true; the input reads as it did. -/
def enclosureComparesSpec : ChangeSpec := { name := "enclosureCompares", fn := fun _ => fun
  | [d1, d2, d3] => { results := [.lit (.bool true)], args := [d1, d2, d3] }
  | _ => none }
def enclosureComparesRow : OpenClaim := { program := "ytdbhahiieokplaagreatdoor", sum := "bcdee16e22da8a03ad5be406dbc18b31524b38e4be386267ad3ff51032227e89", func := "viator/viatorlaw05.EnclosureCompares", spec := "enclosureCompares", inPlace := ["math/bits.Add64", "math/bits.Sub64", "internal/abi.NoEscape", "internal/bytealg.MakeNoZero"], unfollowed := true, recurses := true, named := ["viator/rational.one", "math/bits.deBruijn64tab", "math/bits.divideError", "math/bits.overflowError"], apart := false, laid := [("math/bits.deBruijn64tab", laid_math_bits_deBruijn64tab), ("viator/rational.one", laid_viator_rational_one)] }
def EnclosureComparesSaid : Prop := enclosureComparesRow.holds Tryz.pinned (OpenSpec.ofChange enclosureComparesSpec)

/-- ITS FALSE NEIGHBOUR: 'it returns false'. Refute it at one input. -/
def enclosureComparesWrong : ChangeSpec := { name := "enclosureCompares", fn := fun _ => fun
  | [d1, d2, d3] => { results := [.lit (.bool false)], args := [d1, d2, d3] }
  | _ => none }
def EnclosureComparesWrongFalsely : Prop := enclosureComparesRow.holds Tryz.pinned (OpenSpec.ofChange enclosureComparesWrong)

/-- 'viatorlaw05.EnclosureLengths': WHATEVER THE INPUT: true; the input reads as it did. -/
def enclosureLengthsSpec : ChangeSpec := { name := "enclosureLengths", fn := fun _ => fun
  | [d1, d2] => { results := [.lit (.bool true)], args := [d1, d2] }
  | _ => none }
def enclosureLengthsRow : OpenClaim := { program := "ytdbhahiieokplaagreatdoor", sum := "bcdee16e22da8a03ad5be406dbc18b31524b38e4be386267ad3ff51032227e89", func := "viator/viatorlaw05.EnclosureLengths", spec := "enclosureLengths", inPlace := ["math/bits.Add64", "math/bits.Sub64", "internal/abi.NoEscape", "internal/bytealg.MakeNoZero"], unfollowed := true, recurses := true, named := ["viator/rational.one", "math/bits.deBruijn64tab", "math/bits.divideError", "math/bits.overflowError"], apart := false, laid := [("math/bits.deBruijn64tab", laid_math_bits_deBruijn64tab), ("viator/rational.one", laid_viator_rational_one)] }
def EnclosureLengthsSaid : Prop := enclosureLengthsRow.holds Tryz.pinned (OpenSpec.ofChange enclosureLengthsSpec)

/-- ITS FALSE NEIGHBOUR: 'it returns false'. Refute it at one input. -/
def enclosureLengthsWrong : ChangeSpec := { name := "enclosureLengths", fn := fun _ => fun
  | [d1, d2] => { results := [.lit (.bool false)], args := [d1, d2] }
  | _ => none }
def EnclosureLengthsWrongFalsely : Prop := enclosureLengthsRow.holds Tryz.pinned (OpenSpec.ofChange enclosureLengthsWrong)

/-- 'viatorlaw05.EnclosureWidths': WHATEVER THE INPUT: true; the input reads as it did. -/
def enclosureWidthsSpec : ChangeSpec := { name := "enclosureWidths", fn := fun _ => fun
  | [d1, d2] => { results := [.lit (.bool true)], args := [d1, d2] }
  | _ => none }
def enclosureWidthsRow : OpenClaim := { program := "ytdbhahiieokplaagreatdoor", sum := "bcdee16e22da8a03ad5be406dbc18b31524b38e4be386267ad3ff51032227e89", func := "viator/viatorlaw05.EnclosureWidths", spec := "enclosureWidths", inPlace := ["math/bits.Add64", "math/bits.Sub64", "internal/abi.NoEscape", "internal/bytealg.MakeNoZero"], unfollowed := true, recurses := true, named := ["viator/rational.one", "math/bits.deBruijn64tab", "math/bits.divideError", "math/bits.overflowError"], apart := false, laid := [("math/bits.deBruijn64tab", laid_math_bits_deBruijn64tab), ("viator/rational.one", laid_viator_rational_one)] }
def EnclosureWidthsSaid : Prop := enclosureWidthsRow.holds Tryz.pinned (OpenSpec.ofChange enclosureWidthsSpec)

/-- ITS FALSE NEIGHBOUR: 'it returns false'. Refute it at one input. -/
def enclosureWidthsWrong : ChangeSpec := { name := "enclosureWidths", fn := fun _ => fun
  | [d1, d2] => { results := [.lit (.bool false)], args := [d1, d2] }
  | _ => none }
def EnclosureWidthsWrongFalsely : Prop := enclosureWidthsRow.holds Tryz.pinned (OpenSpec.ofChange enclosureWidthsWrong)

/- THE SECOND FORM. 'bulk': how many values and letters a reading holds, each counted each time it is reached (what is shared counts as often as it is met; a slice's spare places count too). A statement '..UptoSaid' is the law's where the arguments, and the package variables that the reading takes, are together of bulk at most 1048576: NARROWER than '..Said'. Prove '..Said' where nothing that the law and all that it calls make is longer than what came in: it says more and counts as full. Else prove '..UptoSaid'. A law counts once. -/
mutual
def uptoBulk {H : Type} : DataW H → Nat
  | .lit (.string bytes) => bytes.length + 1
  | .lit _ => 1
  | .nil => 1
  | .ptr d => uptoBulk d + 1
  | .slice elems spare => uptoBulkAll elems + uptoBulkAll spare + 1
  | .agg parts => uptoBulkAll parts + 1
  | .iface _ d => uptoBulk d + 1
  | .map entries => uptoBulkEntries entries + 1
  | .held _ => 1
def uptoBulkAll {H : Type} : List (DataW H) → Nat
  | [] => 0
  | d :: r => uptoBulk d + uptoBulkAll r
def uptoBulkEntries {H : Type} : List (Lit × DataW H) → Nat
  | [] => 0
  | x :: r => uptoBulkEntry x + uptoBulkEntries r
def uptoBulkEntry {H : Type} : Lit × DataW H → Nat
  | (.string bytes, d) => bytes.length + uptoBulk d + 1
  | (_, d) => uptoBulk d + 1
 end
def uptoSmall : (H : Type) → List (DataW H) → Bool := fun _ ds => decide (uptoBulkAll ds ≤ 1048576)
def OpenSpec.upto (s : _root_.Go.ChangeSpec) : _root_.Go.OpenSpec := { _root_.Go.OpenSpec.ofChange s with cond := some uptoSmall }

/-- 'viatorlaw05.EnclosureChecks', WHERE WHAT IT READS IS OF BULK AT MOST 1048576: true; the input reads as it did. -/
def enclosureChecksUptoRow : OpenClaim := { program := "ytdbhahiieokplaagreatdoor", sum := "bcdee16e22da8a03ad5be406dbc18b31524b38e4be386267ad3ff51032227e89", func := "viator/viatorlaw05.EnclosureChecks", spec := "enclosureChecks", inPlace := ["math/bits.Add64", "math/bits.Sub64", "internal/abi.NoEscape", "internal/bytealg.MakeNoZero"], unfollowed := true, recurses := true, named := ["viator/rational.one", "math/bits.deBruijn64tab", "math/bits.divideError", "math/bits.overflowError"], apart := false, laid := [("math/bits.deBruijn64tab", laid_math_bits_deBruijn64tab), ("viator/rational.one", laid_viator_rational_one)], narrowed := true }
def EnclosureChecksUptoSaid : Prop := enclosureChecksUptoRow.holds Tryz.pinned (OpenSpec.upto enclosureChecksSpec)

/-- 'viatorlaw05.EnclosureReals', WHERE WHAT IT READS IS OF BULK AT MOST 1048576: true; the input reads as it did. -/
def enclosureRealsUptoRow : OpenClaim := { program := "ytdbhahiieokplaagreatdoor", sum := "bcdee16e22da8a03ad5be406dbc18b31524b38e4be386267ad3ff51032227e89", func := "viator/viatorlaw05.EnclosureReals", spec := "enclosureReals", inPlace := ["internal/abi.NoEscape", "internal/bytealg.MakeNoZero", "math/bits.Add64", "math/bits.Sub64"], unfollowed := true, recurses := true, named := ["viator/rational.one", "math/bits.deBruijn64tab", "math/bits.divideError", "math/bits.overflowError"], apart := false, laid := [("math/bits.deBruijn64tab", laid_math_bits_deBruijn64tab), ("viator/rational.one", laid_viator_rational_one)], narrowed := true }
def EnclosureRealsUptoSaid : Prop := enclosureRealsUptoRow.holds Tryz.pinned (OpenSpec.upto enclosureRealsSpec)

/-- 'viatorlaw05.EnclosureOperates', WHERE WHAT IT READS IS OF BULK AT MOST 1048576: true; the input reads as it did. -/
def enclosureOperatesUptoRow : OpenClaim := { program := "ytdbhahiieokplaagreatdoor", sum := "bcdee16e22da8a03ad5be406dbc18b31524b38e4be386267ad3ff51032227e89", func := "viator/viatorlaw05.EnclosureOperates", spec := "enclosureOperates", inPlace := ["math/bits.Add64", "math/bits.Sub64", "internal/abi.NoEscape", "internal/bytealg.MakeNoZero"], unfollowed := true, recurses := true, named := ["viator/rational.one", "math/bits.deBruijn64tab", "math/bits.divideError", "math/bits.overflowError"], apart := false, laid := [("math/bits.deBruijn64tab", laid_math_bits_deBruijn64tab), ("viator/rational.one", laid_viator_rational_one)], narrowed := true }
def EnclosureOperatesUptoSaid : Prop := enclosureOperatesUptoRow.holds Tryz.pinned (OpenSpec.upto enclosureOperatesSpec)

/-- 'viatorlaw05.EnclosureIncludes', WHERE WHAT IT READS IS OF BULK AT MOST 1048576: true; the input reads as it did. -/
def enclosureIncludesUptoRow : OpenClaim := { program := "ytdbhahiieokplaagreatdoor", sum := "bcdee16e22da8a03ad5be406dbc18b31524b38e4be386267ad3ff51032227e89", func := "viator/viatorlaw05.EnclosureIncludes", spec := "enclosureIncludes", inPlace := ["math/bits.Add64", "math/bits.Sub64", "internal/abi.NoEscape", "internal/bytealg.MakeNoZero"], unfollowed := true, recurses := true, named := ["viator/rational.one", "math/bits.deBruijn64tab", "math/bits.divideError", "math/bits.overflowError"], apart := false, laid := [("math/bits.deBruijn64tab", laid_math_bits_deBruijn64tab), ("viator/rational.one", laid_viator_rational_one)], narrowed := true }
def EnclosureIncludesUptoSaid : Prop := enclosureIncludesUptoRow.holds Tryz.pinned (OpenSpec.upto enclosureIncludesSpec)

/-- 'viatorlaw05.EnclosureRoots', WHERE WHAT IT READS IS OF BULK AT MOST 1048576: true; the input reads as it did. -/
def enclosureRootsUptoRow : OpenClaim := { program := "ytdbhahiieokplaagreatdoor", sum := "bcdee16e22da8a03ad5be406dbc18b31524b38e4be386267ad3ff51032227e89", func := "viator/viatorlaw05.EnclosureRoots", spec := "enclosureRoots", inPlace := ["math/bits.Add64", "math/bits.Sub64", "internal/abi.NoEscape", "internal/bytealg.MakeNoZero"], unfollowed := true, recurses := true, named := ["viator/rational.one", "math/bits.deBruijn64tab", "math/bits.divideError", "math/bits.overflowError"], apart := false, laid := [("math/bits.deBruijn64tab", laid_math_bits_deBruijn64tab), ("viator/rational.one", laid_viator_rational_one)], narrowed := true }
def EnclosureRootsUptoSaid : Prop := enclosureRootsUptoRow.holds Tryz.pinned (OpenSpec.upto enclosureRootsSpec)

/-- 'viatorlaw05.EnclosureTight', WHERE WHAT IT READS IS OF BULK AT MOST 1048576: true; the input reads as it did. -/
def enclosureTightUptoRow : OpenClaim := { program := "ytdbhahiieokplaagreatdoor", sum := "bcdee16e22da8a03ad5be406dbc18b31524b38e4be386267ad3ff51032227e89", func := "viator/viatorlaw05.EnclosureTight", spec := "enclosureTight", inPlace := ["math/bits.Add64", "math/bits.Sub64", "internal/abi.NoEscape", "internal/bytealg.MakeNoZero"], unfollowed := true, recurses := true, named := ["viator/rational.one", "math/bits.deBruijn64tab", "math/bits.divideError", "math/bits.overflowError"], apart := false, laid := [("math/bits.deBruijn64tab", laid_math_bits_deBruijn64tab), ("viator/rational.one", laid_viator_rational_one)], narrowed := true }
def EnclosureTightUptoSaid : Prop := enclosureTightUptoRow.holds Tryz.pinned (OpenSpec.upto enclosureTightSpec)

/-- 'viatorlaw05.EnclosureSets', WHERE WHAT IT READS IS OF BULK AT MOST 1048576: true; the input reads as it did. -/
def enclosureSetsUptoRow : OpenClaim := { program := "ytdbhahiieokplaagreatdoor", sum := "bcdee16e22da8a03ad5be406dbc18b31524b38e4be386267ad3ff51032227e89", func := "viator/viatorlaw05.EnclosureSets", spec := "enclosureSets", inPlace := ["math/bits.Add64", "math/bits.Sub64", "internal/abi.NoEscape", "internal/bytealg.MakeNoZero"], unfollowed := true, recurses := true, named := ["viator/rational.one", "math/bits.deBruijn64tab", "math/bits.divideError", "math/bits.overflowError"], apart := false, laid := [("math/bits.deBruijn64tab", laid_math_bits_deBruijn64tab), ("viator/rational.one", laid_viator_rational_one)], narrowed := true }
def EnclosureSetsUptoSaid : Prop := enclosureSetsUptoRow.holds Tryz.pinned (OpenSpec.upto enclosureSetsSpec)

/-- 'viatorlaw05.EnclosureCompares', WHERE WHAT IT READS IS OF BULK AT MOST 1048576: true; the input reads as it did. -/
def enclosureComparesUptoRow : OpenClaim := { program := "ytdbhahiieokplaagreatdoor", sum := "bcdee16e22da8a03ad5be406dbc18b31524b38e4be386267ad3ff51032227e89", func := "viator/viatorlaw05.EnclosureCompares", spec := "enclosureCompares", inPlace := ["math/bits.Add64", "math/bits.Sub64", "internal/abi.NoEscape", "internal/bytealg.MakeNoZero"], unfollowed := true, recurses := true, named := ["viator/rational.one", "math/bits.deBruijn64tab", "math/bits.divideError", "math/bits.overflowError"], apart := false, laid := [("math/bits.deBruijn64tab", laid_math_bits_deBruijn64tab), ("viator/rational.one", laid_viator_rational_one)], narrowed := true }
def EnclosureComparesUptoSaid : Prop := enclosureComparesUptoRow.holds Tryz.pinned (OpenSpec.upto enclosureComparesSpec)

/-- 'viatorlaw05.EnclosureLengths', WHERE WHAT IT READS IS OF BULK AT MOST 1048576: true; the input reads as it did. -/
def enclosureLengthsUptoRow : OpenClaim := { program := "ytdbhahiieokplaagreatdoor", sum := "bcdee16e22da8a03ad5be406dbc18b31524b38e4be386267ad3ff51032227e89", func := "viator/viatorlaw05.EnclosureLengths", spec := "enclosureLengths", inPlace := ["math/bits.Add64", "math/bits.Sub64", "internal/abi.NoEscape", "internal/bytealg.MakeNoZero"], unfollowed := true, recurses := true, named := ["viator/rational.one", "math/bits.deBruijn64tab", "math/bits.divideError", "math/bits.overflowError"], apart := false, laid := [("math/bits.deBruijn64tab", laid_math_bits_deBruijn64tab), ("viator/rational.one", laid_viator_rational_one)], narrowed := true }
def EnclosureLengthsUptoSaid : Prop := enclosureLengthsUptoRow.holds Tryz.pinned (OpenSpec.upto enclosureLengthsSpec)

/-- 'viatorlaw05.EnclosureWidths', WHERE WHAT IT READS IS OF BULK AT MOST 1048576: true; the input reads as it did. -/
def enclosureWidthsUptoRow : OpenClaim := { program := "ytdbhahiieokplaagreatdoor", sum := "bcdee16e22da8a03ad5be406dbc18b31524b38e4be386267ad3ff51032227e89", func := "viator/viatorlaw05.EnclosureWidths", spec := "enclosureWidths", inPlace := ["math/bits.Add64", "math/bits.Sub64", "internal/abi.NoEscape", "internal/bytealg.MakeNoZero"], unfollowed := true, recurses := true, named := ["viator/rational.one", "math/bits.deBruijn64tab", "math/bits.divideError", "math/bits.overflowError"], apart := false, laid := [("math/bits.deBruijn64tab", laid_math_bits_deBruijn64tab), ("viator/rational.one", laid_viator_rational_one)], narrowed := true }
def EnclosureWidthsUptoSaid : Prop := enclosureWidthsUptoRow.holds Tryz.pinned (OpenSpec.upto enclosureWidthsSpec)

end Rows
end Go.Proofs.YtdbhahiieokplaaGreatDoor
