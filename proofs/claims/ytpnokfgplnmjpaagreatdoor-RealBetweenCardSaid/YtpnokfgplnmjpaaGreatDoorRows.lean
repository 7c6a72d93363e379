/-
  NARROWER THAN 'FOR EVERY INPUT', by the rows' own cells (each row's printed sentence says how): RealChecks: laid · RealMakes: laid · RealRoots: laid · RealMinimal: laid · RealCompares: laid · RealOrders: laid · RealMoves: laid · RealFloors: laid · RealBetween: laid · RealEncloses: laid · RealPrints: laid · RealParses: laid.
  DERIVED. THE GIVEN ROWS OF THIS SEAT. 12 by the template 'for every input the law returns true; each argument reads behind the call as it read before'; 0 by the template 'total and deterministic' (their statements: YtpnokfgplnmjpaaGreatDoorTotals.lean).
  GIVEN WITH THE SEED: the statements are not yours to turn. If you find one false, say at which input.
  Laid BY PROGRAM, IN A SANDBOX (cutbox-rows.mjs): the forced cells as the released guide's own fill.sh prints them over the translation 46e2d58c764884f7… (all of the seat's roots in one cut). By AI agents, Wed Nov 11 2026. No macro, syntax, notation, axiom, sorry.
-/
import Derived.Test.YtpnokfgplnmjpaaGreatDoorChecked
import GoSem.Claim
import GoSem.ClaimJoined
import GoSem.ClaimMapViews
import Derived.JoinedTies
import Derived.KernelRfl
namespace Go.Proofs.YtpnokfgplnmjpaaGreatDoor
/- THE CELL 'sum', in the pinned program and in every row, IS THE sha256 OF THE DUMP (.gsa) THAT YtpnokfgplnmjpaaGreatDoorProg.lean LOADS. Nothing in Lean hashes anything: it is a label: what it is worth is what the hold of that sum in a sandbox is worth. -/
noncomputable def Tryz.pinned : Pinned := { name := "ytpnokfgplnmjpaagreatdoor", sum := "46e2d58c764884f7cbfbe1ef457e280e4b77472723b794fb693f1ab37a6b520c", checked := Tryz.checked }
namespace Rows
def none {H : Type} : Left H := { results := [], args := [] }

/- WHAT THE LISTED PACKAGE-LEVEL VARIABLES READ AS WHEN THE CALL BEGINS. Each datum BY PROGRAM (the guide's laid-datum.mjs) off the statement by which the dump's own 'gosem.cut.vars' lays the variable. In a bare row this is a premise. The card (YtpnokfgplnmjpaaGreatDoorCards.lean) ties it to the program's text. -/
def laid_math_bits_deBruijn64tab {H : Type} : DataW H := .agg [.lit (.int .u8 0), .lit (.int .u8 1), .lit (.int .u8 56), .lit (.int .u8 2), .lit (.int .u8 57), .lit (.int .u8 49), .lit (.int .u8 28), .lit (.int .u8 3), .lit (.int .u8 61), .lit (.int .u8 58), .lit (.int .u8 42), .lit (.int .u8 50), .lit (.int .u8 38), .lit (.int .u8 29), .lit (.int .u8 17), .lit (.int .u8 4), .lit (.int .u8 62), .lit (.int .u8 47), .lit (.int .u8 59), .lit (.int .u8 36), .lit (.int .u8 45), .lit (.int .u8 43), .lit (.int .u8 51), .lit (.int .u8 22), .lit (.int .u8 53), .lit (.int .u8 39), .lit (.int .u8 33), .lit (.int .u8 30), .lit (.int .u8 24), .lit (.int .u8 18), .lit (.int .u8 12), .lit (.int .u8 5), .lit (.int .u8 63), .lit (.int .u8 55), .lit (.int .u8 48), .lit (.int .u8 27), .lit (.int .u8 60), .lit (.int .u8 41), .lit (.int .u8 37), .lit (.int .u8 16), .lit (.int .u8 46), .lit (.int .u8 35), .lit (.int .u8 44), .lit (.int .u8 21), .lit (.int .u8 52), .lit (.int .u8 32), .lit (.int .u8 23), .lit (.int .u8 11), .lit (.int .u8 54), .lit (.int .u8 26), .lit (.int .u8 40), .lit (.int .u8 15), .lit (.int .u8 34), .lit (.int .u8 20), .lit (.int .u8 31), .lit (.int .u8 10), .lit (.int .u8 25), .lit (.int .u8 14), .lit (.int .u8 19), .lit (.int .u8 9), .lit (.int .u8 13), .lit (.int .u8 8), .lit (.int .u8 7), .lit (.int .u8 6)]
def laid_viator_rational_one {H : Type} : DataW H := .agg [.lit (.bool false), .lit (.string [1])]
def laid_math_bits_deBruijn32tab {H : Type} : DataW H := .agg [.lit (.int .u8 0), .lit (.int .u8 1), .lit (.int .u8 28), .lit (.int .u8 2), .lit (.int .u8 29), .lit (.int .u8 14), .lit (.int .u8 24), .lit (.int .u8 3), .lit (.int .u8 30), .lit (.int .u8 22), .lit (.int .u8 20), .lit (.int .u8 15), .lit (.int .u8 25), .lit (.int .u8 17), .lit (.int .u8 4), .lit (.int .u8 8), .lit (.int .u8 31), .lit (.int .u8 27), .lit (.int .u8 13), .lit (.int .u8 23), .lit (.int .u8 21), .lit (.int .u8 19), .lit (.int .u8 16), .lit (.int .u8 7), .lit (.int .u8 26), .lit (.int .u8 12), .lit (.int .u8 18), .lit (.int .u8 6), .lit (.int .u8 11), .lit (.int .u8 5), .lit (.int .u8 10), .lit (.int .u8 9)]
def laid_internal_strconv_uint64pow10 {H : Type} : DataW H := .agg [.lit (.int .u64 1), .lit (.int .u64 10), .lit (.int .u64 100), .lit (.int .u64 1000), .lit (.int .u64 10000), .lit (.int .u64 100000), .lit (.int .u64 1000000), .lit (.int .u64 10000000), .lit (.int .u64 100000000), .lit (.int .u64 1000000000), .lit (.int .u64 10000000000), .lit (.int .u64 100000000000), .lit (.int .u64 1000000000000), .lit (.int .u64 10000000000000), .lit (.int .u64 100000000000000), .lit (.int .u64 1000000000000000), .lit (.int .u64 10000000000000000), .lit (.int .u64 100000000000000000), .lit (.int .u64 1000000000000000000), .lit (.int .u64 10000000000000000000)]

/-- 'viatorlaw03.RealChecks': WHATEVER THE INPUT: true; the input reads as it did. -/
def realChecksSpec : ChangeSpec := { name := "realChecks", fn := fun _ => fun
  | [d1, d2] => { results := [.lit (.bool true)], args := [d1, d2] }
  | _ => none }
def realChecksRow : OpenClaim := { program := "ytpnokfgplnmjpaagreatdoor", sum := "46e2d58c764884f7cbfbe1ef457e280e4b77472723b794fb693f1ab37a6b520c", func := "viator/viatorlaw03.RealChecks", spec := "realChecks", inPlace := ["math/bits.Add64", "math/bits.Sub64"], unfollowed := true, recurses := true, named := ["viator/rational.one", "math/bits.deBruijn64tab", "math/bits.divideError", "math/bits.overflowError"], apart := false, laid := [("math/bits.deBruijn64tab", laid_math_bits_deBruijn64tab), ("viator/rational.one", laid_viator_rational_one)] }
def RealChecksSaid : Prop := realChecksRow.holds Tryz.pinned (OpenSpec.ofChange realChecksSpec)

/-- ITS FALSE NEIGHBOUR: 'it returns false'. Refute it at one input. -/
def realChecksWrong : ChangeSpec := { name := "realChecks", fn := fun _ => fun
  | [d1, d2] => { results := [.lit (.bool false)], args := [d1, d2] }
  | _ => none }
def RealChecksWrongFalsely : Prop := realChecksRow.holds Tryz.pinned (OpenSpec.ofChange realChecksWrong)

/-- 'viatorlaw03.RealMakes': WHATEVER THE INPUT: true; the input reads as it did. -/
def realMakesSpec : ChangeSpec := { name := "realMakes", fn := fun _ => fun
  | [d1, d2, d3] => { results := [.lit (.bool true)], args := [d1, d2, d3] }
  | _ => none }
def realMakesRow : OpenClaim := { program := "ytpnokfgplnmjpaagreatdoor", sum := "46e2d58c764884f7cbfbe1ef457e280e4b77472723b794fb693f1ab37a6b520c", func := "viator/viatorlaw03.RealMakes", spec := "realMakes", inPlace := ["math/bits.Add64", "math/bits.Sub64"], unfollowed := true, recurses := true, named := ["viator/rational.one", "math/bits.deBruijn64tab", "math/bits.divideError", "math/bits.overflowError"], apart := false, laid := [("math/bits.deBruijn64tab", laid_math_bits_deBruijn64tab), ("viator/rational.one", laid_viator_rational_one)] }
def RealMakesSaid : Prop := realMakesRow.holds Tryz.pinned (OpenSpec.ofChange realMakesSpec)

/-- ITS FALSE NEIGHBOUR: 'it returns false'. Refute it at one input. -/
def realMakesWrong : ChangeSpec := { name := "realMakes", fn := fun _ => fun
  | [d1, d2, d3] => { results := [.lit (.bool false)], args := [d1, d2, d3] }
  | _ => none }
def RealMakesWrongFalsely : Prop := realMakesRow.holds Tryz.pinned (OpenSpec.ofChange realMakesWrong)

/-- 'viatorlaw03.RealRoots': WHATEVER THE INPUT: true; the input reads as it did. -/
def realRootsSpec : ChangeSpec := { name := "realRoots", fn := fun _ => fun
  | [d] => { results := [.lit (.bool true)], args := [d] }
  | _ => none }
def realRootsRow : OpenClaim := { program := "ytpnokfgplnmjpaagreatdoor", sum := "46e2d58c764884f7cbfbe1ef457e280e4b77472723b794fb693f1ab37a6b520c", func := "viator/viatorlaw03.RealRoots", spec := "realRoots", inPlace := ["math/bits.Add64", "math/bits.Sub64"], unfollowed := true, recurses := true, named := ["viator/rational.one", "math/bits.deBruijn64tab", "math/bits.divideError", "math/bits.overflowError"], apart := false, laid := [("math/bits.deBruijn64tab", laid_math_bits_deBruijn64tab), ("viator/rational.one", laid_viator_rational_one)] }
def RealRootsSaid : Prop := realRootsRow.holds Tryz.pinned (OpenSpec.ofChange realRootsSpec)

/-- ITS FALSE NEIGHBOUR: 'it returns false'. Refute it at one input. -/
def realRootsWrong : ChangeSpec := { name := "realRoots", fn := fun _ => fun
  | [d] => { results := [.lit (.bool false)], args := [d] }
  | _ => none }
def RealRootsWrongFalsely : Prop := realRootsRow.holds Tryz.pinned (OpenSpec.ofChange realRootsWrong)

/-- 'viatorlaw03.RealMinimal': WHATEVER THE INPUT: true; the input reads as it did. -/
def realMinimalSpec : ChangeSpec := { name := "realMinimal", fn := fun _ => fun
  | [d] => { results := [.lit (.bool true)], args := [d] }
  | _ => none }
def realMinimalRow : OpenClaim := { program := "ytpnokfgplnmjpaagreatdoor", sum := "46e2d58c764884f7cbfbe1ef457e280e4b77472723b794fb693f1ab37a6b520c", func := "viator/viatorlaw03.RealMinimal", spec := "realMinimal", inPlace := ["math/bits.Add64", "math/bits.Sub64"], unfollowed := true, recurses := true, named := ["viator/rational.one", "math/bits.deBruijn64tab", "math/bits.divideError", "math/bits.overflowError"], apart := false, laid := [("math/bits.deBruijn64tab", laid_math_bits_deBruijn64tab), ("viator/rational.one", laid_viator_rational_one)] }
def RealMinimalSaid : Prop := realMinimalRow.holds Tryz.pinned (OpenSpec.ofChange realMinimalSpec)

/-- ITS FALSE NEIGHBOUR: 'it returns false'. Refute it at one input. -/
def realMinimalWrong : ChangeSpec := { name := "realMinimal", fn := fun _ => fun
  | [d] => { results := [.lit (.bool false)], args := [d] }
  | _ => none }
def RealMinimalWrongFalsely : Prop := realMinimalRow.holds Tryz.pinned (OpenSpec.ofChange realMinimalWrong)

/-- 'viatorlaw03.RealCompares': WHATEVER THE INPUT: true; the input reads as it did. -/
def realComparesSpec : ChangeSpec := { name := "realCompares", fn := fun _ => fun
  | [d1, d2] => { results := [.lit (.bool true)], args := [d1, d2] }
  | _ => none }
def realComparesRow : OpenClaim := { program := "ytpnokfgplnmjpaagreatdoor", sum := "46e2d58c764884f7cbfbe1ef457e280e4b77472723b794fb693f1ab37a6b520c", func := "viator/viatorlaw03.RealCompares", spec := "realCompares", inPlace := ["math/bits.Add64", "math/bits.Sub64"], unfollowed := true, recurses := true, named := ["viator/rational.one", "math/bits.deBruijn64tab", "math/bits.divideError", "math/bits.overflowError"], apart := false, laid := [("math/bits.deBruijn64tab", laid_math_bits_deBruijn64tab), ("viator/rational.one", laid_viator_rational_one)] }
def RealComparesSaid : Prop := realComparesRow.holds Tryz.pinned (OpenSpec.ofChange realComparesSpec)

/-- ITS FALSE NEIGHBOUR: 'it returns false'. Refute it at one input. -/
def realComparesWrong : ChangeSpec := { name := "realCompares", fn := fun _ => fun
  | [d1, d2] => { results := [.lit (.bool false)], args := [d1, d2] }
  | _ => none }
def RealComparesWrongFalsely : Prop := realComparesRow.holds Tryz.pinned (OpenSpec.ofChange realComparesWrong)

/-- 'viatorlaw03.RealOrders': WHATEVER THE INPUT: true; the input reads as it did. -/
def realOrdersSpec : ChangeSpec := { name := "realOrders", fn := fun _ => fun
  | [d1, d2, d3] => { results := [.lit (.bool true)], args := [d1, d2, d3] }
  | _ => none }
def realOrdersRow : OpenClaim := { program := "ytpnokfgplnmjpaagreatdoor", sum := "46e2d58c764884f7cbfbe1ef457e280e4b77472723b794fb693f1ab37a6b520c", func := "viator/viatorlaw03.RealOrders", spec := "realOrders", inPlace := ["math/bits.Add64", "math/bits.Sub64"], unfollowed := true, recurses := true, named := ["viator/rational.one", "math/bits.deBruijn64tab", "math/bits.divideError", "math/bits.overflowError"], apart := false, laid := [("math/bits.deBruijn64tab", laid_math_bits_deBruijn64tab), ("viator/rational.one", laid_viator_rational_one)] }
def RealOrdersSaid : Prop := realOrdersRow.holds Tryz.pinned (OpenSpec.ofChange realOrdersSpec)

/-- ITS FALSE NEIGHBOUR: 'it returns false'. Refute it at one input. -/
def realOrdersWrong : ChangeSpec := { name := "realOrders", fn := fun _ => fun
  | [d1, d2, d3] => { results := [.lit (.bool false)], args := [d1, d2, d3] }
  | _ => none }
def RealOrdersWrongFalsely : Prop := realOrdersRow.holds Tryz.pinned (OpenSpec.ofChange realOrdersWrong)

/-- 'viatorlaw03.RealMoves': WHATEVER THE INPUT: true; the input reads as it did. -/
def realMovesSpec : ChangeSpec := { name := "realMoves", fn := fun _ => fun
  | [d1, d2] => { results := [.lit (.bool true)], args := [d1, d2] }
  | _ => none }
def realMovesRow : OpenClaim := { program := "ytpnokfgplnmjpaagreatdoor", sum := "46e2d58c764884f7cbfbe1ef457e280e4b77472723b794fb693f1ab37a6b520c", func := "viator/viatorlaw03.RealMoves", spec := "realMoves", inPlace := ["math/bits.Add64", "math/bits.Sub64"], unfollowed := true, recurses := true, named := ["viator/rational.one", "math/bits.deBruijn64tab", "math/bits.divideError", "math/bits.overflowError"], apart := false, laid := [("math/bits.deBruijn64tab", laid_math_bits_deBruijn64tab), ("viator/rational.one", laid_viator_rational_one)] }
def RealMovesSaid : Prop := realMovesRow.holds Tryz.pinned (OpenSpec.ofChange realMovesSpec)

/-- ITS FALSE NEIGHBOUR: 'it returns false'. Refute it at one input. -/
def realMovesWrong : ChangeSpec := { name := "realMoves", fn := fun _ => fun
  | [d1, d2] => { results := [.lit (.bool false)], args := [d1, d2] }
  | _ => none }
def RealMovesWrongFalsely : Prop := realMovesRow.holds Tryz.pinned (OpenSpec.ofChange realMovesWrong)

/-- 'viatorlaw03.RealFloors': WHATEVER THE INPUT: true; the input reads as it did. -/
def realFloorsSpec : ChangeSpec := { name := "realFloors", fn := fun _ => fun
  | [d] => { results := [.lit (.bool true)], args := [d] }
  | _ => none }
def realFloorsRow : OpenClaim := { program := "ytpnokfgplnmjpaagreatdoor", sum := "46e2d58c764884f7cbfbe1ef457e280e4b77472723b794fb693f1ab37a6b520c", func := "viator/viatorlaw03.RealFloors", spec := "realFloors", inPlace := ["math/bits.Add64", "math/bits.Sub64"], unfollowed := true, recurses := true, named := ["viator/rational.one", "math/bits.deBruijn64tab", "math/bits.divideError", "math/bits.overflowError"], apart := false, laid := [("math/bits.deBruijn64tab", laid_math_bits_deBruijn64tab), ("viator/rational.one", laid_viator_rational_one)] }
def RealFloorsSaid : Prop := realFloorsRow.holds Tryz.pinned (OpenSpec.ofChange realFloorsSpec)

/-- ITS FALSE NEIGHBOUR: 'it returns false'. Refute it at one input. -/
def realFloorsWrong : ChangeSpec := { name := "realFloors", fn := fun _ => fun
  | [d] => { results := [.lit (.bool false)], args := [d] }
  | _ => none }
def RealFloorsWrongFalsely : Prop := realFloorsRow.holds Tryz.pinned (OpenSpec.ofChange realFloorsWrong)

/-- 'viatorlaw03.RealBetween': WHATEVER THE INPUT: true; the input reads as it did. -/
def realBetweenSpec : ChangeSpec := { name := "realBetween", fn := fun _ => fun
  | [d1, d2] => { results := [.lit (.bool true)], args := [d1, d2] }
  | _ => none }
def realBetweenRow : OpenClaim := { program := "ytpnokfgplnmjpaagreatdoor", sum := "46e2d58c764884f7cbfbe1ef457e280e4b77472723b794fb693f1ab37a6b520c", func := "viator/viatorlaw03.RealBetween", spec := "realBetween", inPlace := ["math/bits.Add64", "math/bits.Sub64"], unfollowed := true, recurses := true, named := ["viator/rational.one", "math/bits.deBruijn64tab", "math/bits.divideError", "math/bits.overflowError"], apart := false, laid := [("math/bits.deBruijn64tab", laid_math_bits_deBruijn64tab), ("viator/rational.one", laid_viator_rational_one)] }
def RealBetweenSaid : Prop := realBetweenRow.holds Tryz.pinned (OpenSpec.ofChange realBetweenSpec)

/-- ITS FALSE NEIGHBOUR: 'it returns false'. Refute it at one input. -/
def realBetweenWrong : ChangeSpec := { name := "realBetween", fn := fun _ => fun
  | [d1, d2] => { results := [.lit (.bool false)], args := [d1, d2] }
  | _ => none }
def RealBetweenWrongFalsely : Prop := realBetweenRow.holds Tryz.pinned (OpenSpec.ofChange realBetweenWrong)

/-- 'viatorlaw03.RealEncloses': WHATEVER THE INPUT: true; the input reads as it did. -/
def realEnclosesSpec : ChangeSpec := { name := "realEncloses", fn := fun _ => fun
  | [d1, d2] => { results := [.lit (.bool true)], args := [d1, d2] }
  | _ => none }
def realEnclosesRow : OpenClaim := { program := "ytpnokfgplnmjpaagreatdoor", sum := "46e2d58c764884f7cbfbe1ef457e280e4b77472723b794fb693f1ab37a6b520c", func := "viator/viatorlaw03.RealEncloses", spec := "realEncloses", inPlace := ["math/bits.Add64", "math/bits.Sub64", "internal/abi.NoEscape", "internal/bytealg.MakeNoZero"], unfollowed := true, recurses := true, named := ["viator/rational.one", "math/bits.deBruijn64tab", "math/bits.divideError", "math/bits.overflowError"], apart := false, laid := [("math/bits.deBruijn64tab", laid_math_bits_deBruijn64tab), ("viator/rational.one", laid_viator_rational_one)] }
def RealEnclosesSaid : Prop := realEnclosesRow.holds Tryz.pinned (OpenSpec.ofChange realEnclosesSpec)

/-- ITS FALSE NEIGHBOUR: 'it returns false'. Refute it at one input. -/
def realEnclosesWrong : ChangeSpec := { name := "realEncloses", fn := fun _ => fun
  | [d1, d2] => { results := [.lit (.bool false)], args := [d1, d2] }
  | _ => none }
def RealEnclosesWrongFalsely : Prop := realEnclosesRow.holds Tryz.pinned (OpenSpec.ofChange realEnclosesWrong)

/-- 'viatorlaw03.RealPrints': WHATEVER THE INPUT: true; the input reads as it did. -/
def realPrintsSpec : ChangeSpec := { name := "realPrints", fn := fun _ => fun
  | [d] => { results := [.lit (.bool true)], args := [d] }
  | _ => none }
def realPrintsRow : OpenClaim := { program := "ytpnokfgplnmjpaagreatdoor", sum := "46e2d58c764884f7cbfbe1ef457e280e4b77472723b794fb693f1ab37a6b520c", func := "viator/viatorlaw03.RealPrints", spec := "realPrints", inPlace := ["math/bits.Add64", "math/bits.Sub64", "internal/abi.NoEscape", "internal/bytealg.MakeNoZero", "internal/bytealg.IndexByteString", "internal/bytealg.IndexString"], unfollowed := true, recurses := true, named := ["viator/rational.one", "math/bits.deBruijn64tab", "math/bits.divideError", "math/bits.overflowError", "internal/strconv.uint64pow10", "math/bits.deBruijn32tab", "internal/bytealg.MaxLen"], apart := false, laid := [("math/bits.deBruijn32tab", laid_math_bits_deBruijn32tab), ("math/bits.deBruijn64tab", laid_math_bits_deBruijn64tab), ("internal/strconv.uint64pow10", laid_internal_strconv_uint64pow10), ("viator/rational.one", laid_viator_rational_one)] }
def RealPrintsSaid : Prop := realPrintsRow.holds Tryz.pinned (OpenSpec.ofChange realPrintsSpec)

/-- ITS FALSE NEIGHBOUR: 'it returns false'. Refute it at one input. -/
def realPrintsWrong : ChangeSpec := { name := "realPrints", fn := fun _ => fun
  | [d] => { results := [.lit (.bool false)], args := [d] }
  | _ => none }
def RealPrintsWrongFalsely : Prop := realPrintsRow.holds Tryz.pinned (OpenSpec.ofChange realPrintsWrong)

/-- 'viatorlaw03.RealParses': WHATEVER THE INPUT: true; the input reads as it did. -/
def realParsesSpec : ChangeSpec := { name := "realParses", fn := fun _ => fun
  | [d] => { results := [.lit (.bool true)], args := [d] }
  | _ => none }
def realParsesRow : OpenClaim := { program := "ytpnokfgplnmjpaagreatdoor", sum := "46e2d58c764884f7cbfbe1ef457e280e4b77472723b794fb693f1ab37a6b520c", func := "viator/viatorlaw03.RealParses", spec := "realParses", inPlace := ["math/bits.Add64", "math/bits.Sub64", "internal/bytealg.IndexByteString", "internal/bytealg.IndexString", "internal/abi.NoEscape", "internal/bytealg.MakeNoZero"], unfollowed := true, recurses := true, named := ["viator/rational.one", "math/bits.deBruijn64tab", "math/bits.divideError", "math/bits.overflowError", "internal/bytealg.MaxLen", "internal/strconv.uint64pow10", "math/bits.deBruijn32tab"], apart := false, laid := [("math/bits.deBruijn32tab", laid_math_bits_deBruijn32tab), ("math/bits.deBruijn64tab", laid_math_bits_deBruijn64tab), ("internal/strconv.uint64pow10", laid_internal_strconv_uint64pow10), ("viator/rational.one", laid_viator_rational_one)] }
def RealParsesSaid : Prop := realParsesRow.holds Tryz.pinned (OpenSpec.ofChange realParsesSpec)

/-- ITS FALSE NEIGHBOUR: 'it returns false'. Refute it at one input. -/
def realParsesWrong : ChangeSpec := { name := "realParses", fn := fun _ => fun
  | [d] => { results := [.lit (.bool false)], args := [d] }
  | _ => none }
def RealParsesWrongFalsely : Prop := realParsesRow.holds Tryz.pinned (OpenSpec.ofChange realParsesWrong)

/- THE SECOND FORM. 'bulk': how many values and letters a reading holds, each counted each time it is reached (what is shared counts as often as it is met; a slice's spare places count too). A statement '..UptoSaid' is the law's where the arguments, and the package variables that the reading takes, are together of bulk at most 1048576: NARROWER than '..Said'. Prove '..Said' where nothing that the law and all that it calls make is longer than what came in: it says more and counts as full. Else prove '..UptoSaid'. A law counts once. -/
mutual
def uptoBulk {H : Type} : DataW H → Nat
  | .lit (.string bytes) => bytes.length + 1
  | .lit _ => 1
  | .nil => 1
  | .ptr d => uptoBulk d + 1
  | .slice elems spare => uptoBulkAll elems + uptoBulkAll spare + 1
  | .agg parts => uptoBulkAll parts + 1
  | .iface _ d => uptoBulk d + 1
  | .map entries => uptoBulkEntries entries + 1
  | .held _ => 1
def uptoBulkAll {H : Type} : List (DataW H) → Nat
  | [] => 0
  | d :: r => uptoBulk d + uptoBulkAll r
def uptoBulkEntries {H : Type} : List (Lit × DataW H) → Nat
  | [] => 0
  | x :: r => uptoBulkEntry x + uptoBulkEntries r
def uptoBulkEntry {H : Type} : Lit × DataW H → Nat
  | (.string bytes, d) => bytes.length + uptoBulk d + 1
  | (_, d) => uptoBulk d + 1
 end
def uptoSmall : (H : Type) → List (DataW H) → Bool := fun _ ds => decide (uptoBulkAll ds ≤ 1048576)
def OpenSpec.upto (s : _root_.Go.ChangeSpec) : _root_.Go.OpenSpec := { _root_.Go.OpenSpec.ofChange s with cond := some uptoSmall }

/-- 'viatorlaw03.RealChecks', WHERE WHAT IT READS IS OF BULK AT MOST 1048576: true; the input reads as it did. -/
def realChecksUptoRow : OpenClaim := { program := "ytpnokfgplnmjpaagreatdoor", sum := "46e2d58c764884f7cbfbe1ef457e280e4b77472723b794fb693f1ab37a6b520c", func := "viator/viatorlaw03.RealChecks", spec := "realChecks", inPlace := ["math/bits.Add64", "math/bits.Sub64"], unfollowed := true, recurses := true, named := ["viator/rational.one", "math/bits.deBruijn64tab", "math/bits.divideError", "math/bits.overflowError"], apart := false, laid := [("math/bits.deBruijn64tab", laid_math_bits_deBruijn64tab), ("viator/rational.one", laid_viator_rational_one)], narrowed := true }
def RealChecksUptoSaid : Prop := realChecksUptoRow.holds Tryz.pinned (OpenSpec.upto realChecksSpec)

/-- 'viatorlaw03.RealMakes', WHERE WHAT IT READS IS OF BULK AT MOST 1048576: true; the input reads as it did. -/
def realMakesUptoRow : OpenClaim := { program := "ytpnokfgplnmjpaagreatdoor", sum := "46e2d58c764884f7cbfbe1ef457e280e4b77472723b794fb693f1ab37a6b520c", func := "viator/viatorlaw03.RealMakes", spec := "realMakes", inPlace := ["math/bits.Add64", "math/bits.Sub64"], unfollowed := true, recurses := true, named := ["viator/rational.one", "math/bits.deBruijn64tab", "math/bits.divideError", "math/bits.overflowError"], apart := false, laid := [("math/bits.deBruijn64tab", laid_math_bits_deBruijn64tab), ("viator/rational.one", laid_viator_rational_one)], narrowed := true }
def RealMakesUptoSaid : Prop := realMakesUptoRow.holds Tryz.pinned (OpenSpec.upto realMakesSpec)

/-- 'viatorlaw03.RealRoots', WHERE WHAT IT READS IS OF BULK AT MOST 1048576: true; the input reads as it did. -/
def realRootsUptoRow : OpenClaim := { program := "ytpnokfgplnmjpaagreatdoor", sum := "46e2d58c764884f7cbfbe1ef457e280e4b77472723b794fb693f1ab37a6b520c", func := "viator/viatorlaw03.RealRoots", spec := "realRoots", inPlace := ["math/bits.Add64", "math/bits.Sub64"], unfollowed := true, recurses := true, named := ["viator/rational.one", "math/bits.deBruijn64tab", "math/bits.divideError", "math/bits.overflowError"], apart := false, laid := [("math/bits.deBruijn64tab", laid_math_bits_deBruijn64tab), ("viator/rational.one", laid_viator_rational_one)], narrowed := true }
def RealRootsUptoSaid : Prop := realRootsUptoRow.holds Tryz.pinned (OpenSpec.upto realRootsSpec)

/-- 'viatorlaw03.RealMinimal', WHERE WHAT IT READS IS OF BULK AT MOST 1048576: true; the input reads as it did. -/
def realMinimalUptoRow : OpenClaim := { program := "ytpnokfgplnmjpaagreatdoor", sum := "46e2d58c764884f7cbfbe1ef457e280e4b77472723b794fb693f1ab37a6b520c", func := "viator/viatorlaw03.RealMinimal", spec := "realMinimal", inPlace := ["math/bits.Add64", "math/bits.Sub64"], unfollowed := true, recurses := true, named := ["viator/rational.one", "math/bits.deBruijn64tab", "math/bits.divideError", "math/bits.overflowError"], apart := false, laid := [("math/bits.deBruijn64tab", laid_math_bits_deBruijn64tab), ("viator/rational.one", laid_viator_rational_one)], narrowed := true }
def RealMinimalUptoSaid : Prop := realMinimalUptoRow.holds Tryz.pinned (OpenSpec.upto realMinimalSpec)

/-- 'viatorlaw03.RealCompares', WHERE WHAT IT READS IS OF BULK AT MOST 1048576: true; the input reads as it did. -/
def realComparesUptoRow : OpenClaim := { program := "ytpnokfgplnmjpaagreatdoor", sum := "46e2d58c764884f7cbfbe1ef457e280e4b77472723b794fb693f1ab37a6b520c", func := "viator/viatorlaw03.RealCompares", spec := "realCompares", inPlace := ["math/bits.Add64", "math/bits.Sub64"], unfollowed := true, recurses := true, named := ["viator/rational.one", "math/bits.deBruijn64tab", "math/bits.divideError", "math/bits.overflowError"], apart := false, laid := [("math/bits.deBruijn64tab", laid_math_bits_deBruijn64tab), ("viator/rational.one", laid_viator_rational_one)], narrowed := true }
def RealComparesUptoSaid : Prop := realComparesUptoRow.holds Tryz.pinned (OpenSpec.upto realComparesSpec)

/-- 'viatorlaw03.RealOrders', WHERE WHAT IT READS IS OF BULK AT MOST 1048576: true; the input reads as it did. -/
def realOrdersUptoRow : OpenClaim := { program := "ytpnokfgplnmjpaagreatdoor", sum := "46e2d58c764884f7cbfbe1ef457e280e4b77472723b794fb693f1ab37a6b520c", func := "viator/viatorlaw03.RealOrders", spec := "realOrders", inPlace := ["math/bits.Add64", "math/bits.Sub64"], unfollowed := true, recurses := true, named := ["viator/rational.one", "math/bits.deBruijn64tab", "math/bits.divideError", "math/bits.overflowError"], apart := false, laid := [("math/bits.deBruijn64tab", laid_math_bits_deBruijn64tab), ("viator/rational.one", laid_viator_rational_one)], narrowed := true }
def RealOrdersUptoSaid : Prop := realOrdersUptoRow.holds Tryz.pinned (OpenSpec.upto realOrdersSpec)

/-- 'viatorlaw03.RealMoves', WHERE WHAT IT READS IS OF BULK AT MOST 1048576: true; the input reads as it did. -/
def realMovesUptoRow : OpenClaim := { program := "ytpnokfgplnmjpaagreatdoor", sum := "46e2d58c764884f7cbfbe1ef457e280e4b77472723b794fb693f1ab37a6b520c", func := "viator/viatorlaw03.RealMoves", spec := "realMoves", inPlace := ["math/bits.Add64", "math/bits.Sub64"], unfollowed := true, recurses := true, named := ["viator/rational.one", "math/bits.deBruijn64tab", "math/bits.divideError", "math/bits.overflowError"], apart := false, laid := [("math/bits.deBruijn64tab", laid_math_bits_deBruijn64tab), ("viator/rational.one", laid_viator_rational_one)], narrowed := true }
def RealMovesUptoSaid : Prop := realMovesUptoRow.holds Tryz.pinned (OpenSpec.upto realMovesSpec)

/-- 'viatorlaw03.RealFloors', WHERE WHAT IT READS IS OF BULK AT MOST 1048576: true; the input reads as it did. -/
def realFloorsUptoRow : OpenClaim := { program := "ytpnokfgplnmjpaagreatdoor", sum := "46e2d58c764884f7cbfbe1ef457e280e4b77472723b794fb693f1ab37a6b520c", func := "viator/viatorlaw03.RealFloors", spec := "realFloors", inPlace := ["math/bits.Add64", "math/bits.Sub64"], unfollowed := true, recurses := true, named := ["viator/rational.one", "math/bits.deBruijn64tab", "math/bits.divideError", "math/bits.overflowError"], apart := false, laid := [("math/bits.deBruijn64tab", laid_math_bits_deBruijn64tab), ("viator/rational.one", laid_viator_rational_one)], narrowed := true }
def RealFloorsUptoSaid : Prop := realFloorsUptoRow.holds Tryz.pinned (OpenSpec.upto realFloorsSpec)

/-- 'viatorlaw03.RealBetween', WHERE WHAT IT READS IS OF BULK AT MOST 1048576: true; the input reads as it did. -/
def realBetweenUptoRow : OpenClaim := { program := "ytpnokfgplnmjpaagreatdoor", sum := "46e2d58c764884f7cbfbe1ef457e280e4b77472723b794fb693f1ab37a6b520c", func := "viator/viatorlaw03.RealBetween", spec := "realBetween", inPlace := ["math/bits.Add64", "math/bits.Sub64"], unfollowed := true, recurses := true, named := ["viator/rational.one", "math/bits.deBruijn64tab", "math/bits.divideError", "math/bits.overflowError"], apart := false, laid := [("math/bits.deBruijn64tab", laid_math_bits_deBruijn64tab), ("viator/rational.one", laid_viator_rational_one)], narrowed := true }
def RealBetweenUptoSaid : Prop := realBetweenUptoRow.holds Tryz.pinned (OpenSpec.upto realBetweenSpec)

/-- 'viatorlaw03.RealEncloses', WHERE WHAT IT READS IS OF BULK AT MOST 1048576: true; the input reads as it did. -/
def realEnclosesUptoRow : OpenClaim := { program := "ytpnokfgplnmjpaagreatdoor", sum := "46e2d58c764884f7cbfbe1ef457e280e4b77472723b794fb693f1ab37a6b520c", func := "viator/viatorlaw03.RealEncloses", spec := "realEncloses", inPlace := ["math/bits.Add64", "math/bits.Sub64", "internal/abi.NoEscape", "internal/bytealg.MakeNoZero"], unfollowed := true, recurses := true, named := ["viator/rational.one", "math/bits.deBruijn64tab", "math/bits.divideError", "math/bits.overflowError"], apart := false, laid := [("math/bits.deBruijn64tab", laid_math_bits_deBruijn64tab), ("viator/rational.one", laid_viator_rational_one)], narrowed := true }
def RealEnclosesUptoSaid : Prop := realEnclosesUptoRow.holds Tryz.pinned (OpenSpec.upto realEnclosesSpec)

/-- 'viatorlaw03.RealPrints', WHERE WHAT IT READS IS OF BULK AT MOST 1048576: true; the input reads as it did. -/
def realPrintsUptoRow : OpenClaim := { program := "ytpnokfgplnmjpaagreatdoor", sum := "46e2d58c764884f7cbfbe1ef457e280e4b77472723b794fb693f1ab37a6b520c", func := "viator/viatorlaw03.RealPrints", spec := "realPrints", inPlace := ["math/bits.Add64", "math/bits.Sub64", "internal/abi.NoEscape", "internal/bytealg.MakeNoZero", "internal/bytealg.IndexByteString", "internal/bytealg.IndexString"], unfollowed := true, recurses := true, named := ["viator/rational.one", "math/bits.deBruijn64tab", "math/bits.divideError", "math/bits.overflowError", "internal/strconv.uint64pow10", "math/bits.deBruijn32tab", "internal/bytealg.MaxLen"], apart := false, laid := [("math/bits.deBruijn32tab", laid_math_bits_deBruijn32tab), ("math/bits.deBruijn64tab", laid_math_bits_deBruijn64tab), ("internal/strconv.uint64pow10", laid_internal_strconv_uint64pow10), ("viator/rational.one", laid_viator_rational_one)], narrowed := true }
def RealPrintsUptoSaid : Prop := realPrintsUptoRow.holds Tryz.pinned (OpenSpec.upto realPrintsSpec)

/-- 'viatorlaw03.RealParses', WHERE WHAT IT READS IS OF BULK AT MOST 1048576: true; the input reads as it did. -/
def realParsesUptoRow : OpenClaim := { program := "ytpnokfgplnmjpaagreatdoor", sum := "46e2d58c764884f7cbfbe1ef457e280e4b77472723b794fb693f1ab37a6b520c", func := "viator/viatorlaw03.RealParses", spec := "realParses", inPlace := ["math/bits.Add64", "math/bits.Sub64", "internal/bytealg.IndexByteString", "internal/bytealg.IndexString", "internal/abi.NoEscape", "internal/bytealg.MakeNoZero"], unfollowed := true, recurses := true, named := ["viator/rational.one", "math/bits.deBruijn64tab", "math/bits.divideError", "math/bits.overflowError", "internal/bytealg.MaxLen", "internal/strconv.uint64pow10", "math/bits.deBruijn32tab"], apart := false, laid := [("math/bits.deBruijn32tab", laid_math_bits_deBruijn32tab), ("math/bits.deBruijn64tab", laid_math_bits_deBruijn64tab), ("internal/strconv.uint64pow10", laid_internal_strconv_uint64pow10), ("viator/rational.one", laid_viator_rational_one)], narrowed := true }
def RealParsesUptoSaid : Prop := realParsesUptoRow.holds Tryz.pinned (OpenSpec.upto realParsesSpec)

end Rows
end Go.Proofs.YtpnokfgplnmjpaaGreatDoor
