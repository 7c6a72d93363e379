import Derived.Test.YtkaefmfophopoaaDoorGLawB
import Derived.Test.YtkaefmfophopoaaDoorGRefG
import Derived.Deep.RegionWith
import Derived.Deep.DeepCutAuto

/-
  The walk of the statement about products.
-/
namespace Go.Proofs.YtkaefmfophopoaaDoor
open Go.RowKit
attribute [local go_sem ↓] Go.wp_at_zero Go.wp_at_succ

theorem set_two {W : World} {g : Nat} {y0 y1 y2 y3 x0 x1 x2 x3 : Value} (q0 : W.cell? ⟨g, 0, none⟩ = some y0) (q1 : W.cell? ⟨g, 1, none⟩ = some y1) (q2 : W.cell? ⟨g + 1, 0, none⟩ = some y2) (q3 : W.cell? ⟨g + 1, 1, none⟩ = some y3) :
    ((((W.setCell ⟨g, 0, none⟩ x0).setCell ⟨g, 1, none⟩ x1).setCell ⟨g + 1, 0, none⟩ x2).setCell ⟨g + 1, 1, none⟩ x3).cell? ⟨g, 0, none⟩ = some x0 ∧
    ((((W.setCell ⟨g, 0, none⟩ x0).setCell ⟨g, 1, none⟩ x1).setCell ⟨g + 1, 0, none⟩ x2).setCell ⟨g + 1, 1, none⟩ x3).cell? ⟨g, 1, none⟩ = some x1 ∧
    ((((W.setCell ⟨g, 0, none⟩ x0).setCell ⟨g, 1, none⟩ x1).setCell ⟨g + 1, 0, none⟩ x2).setCell ⟨g + 1, 1, none⟩ x3).cell? ⟨g + 1, 0, none⟩ = some x2 ∧
    ((((W.setCell ⟨g, 0, none⟩ x0).setCell ⟨g, 1, none⟩ x1).setCell ⟨g + 1, 0, none⟩ x2).setCell ⟨g + 1, 1, none⟩ x3).cell? ⟨g + 1, 1, none⟩ = some x3 ∧
    ((((W.setCell ⟨g, 0, none⟩ x0).setCell ⟨g, 1, none⟩ x1).setCell ⟨g + 1, 0, none⟩ x2).setCell ⟨g + 1, 1, none⟩ x3).heap.size = W.heap.size := by
  refine ⟨?_, ?_, ?_, ?_, ?_⟩ <;> simp [go_sem, q0, q1, q2, q3]

end Go.Proofs.YtkaefmfophopoaaDoor
