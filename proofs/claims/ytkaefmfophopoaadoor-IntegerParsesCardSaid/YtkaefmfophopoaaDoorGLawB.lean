import Derived.Test.YtkaefmfophopoaaDoorGLawA
import Derived.Test.YtkaefmfophopoaaDoorGRefE
import Derived.StringKeys

/-
  Check of any integer, and the walk of the statement about it.
-/
namespace Go.Proofs.YtkaefmfophopoaaDoor
open Go.RowKit
attribute [local go_sem ↓] Go.wp_at_zero Go.wp_at_succ

theorem empty_no {s : ByteArray} (h : 0 < s.size) : s.toList.isEmpty = false := by
  rw [ByteArray.toList_eq]
  have : s.data.toList.length = s.size := by simp
  cases hs : s.data.toList with
  | nil => rw [hs] at this; simp at this; omega
  | cons c l => rfl
theorem empty_yes {s : ByteArray} (h : ¬ 0 < s.size) : s.toList.isEmpty = true := by
  rw [ByteArray.toList_eq]
  have : s.data.toList.length = s.size := by simp
  cases hs : s.data.toList with
  | nil => rfl
  | cons c l => rw [hs] at this; simp at this; omega

/-- What Check answers. -/
def checkV (neg : Bool) (s : ByteArray) : Int := if canonB neg s then 0 else 5

end Go.Proofs.YtkaefmfophopoaaDoor
