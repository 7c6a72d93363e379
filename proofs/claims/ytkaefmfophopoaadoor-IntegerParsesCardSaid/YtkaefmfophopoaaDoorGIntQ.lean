import Derived.Test.YtkaefmfophopoaaDoorGIntO

/-
  The program's sum of two integers by their digits.
-/
namespace Go.Proofs.YtkaefmfophopoaaDoor
open Go.RowKit
attribute [local go_sem ↓] Go.wp_at_zero Go.wp_at_succ

theorem heap_six (w : World) (o1 o2 o3 o4 o5 o6 : Obj) : (((((((w.alloc o1).alloc o2).alloc o3).alloc o4).alloc o5).alloc o6).heap[w.heap.size]? = some o1 ∧ ((((((w.alloc o1).alloc o2).alloc o3).alloc o4).alloc o5).alloc o6).heap[w.heap.size + 1]? = some o2 ∧
    ((((((w.alloc o1).alloc o2).alloc o3).alloc o4).alloc o5).alloc o6).heap[w.heap.size + 2]? = some o3 ∧ ((((((w.alloc o1).alloc o2).alloc o3).alloc o4).alloc o5).alloc o6).heap[w.heap.size + 3]? = some o4) ∧
    ((((((w.alloc o1).alloc o2).alloc o3).alloc o4).alloc o5).alloc o6).heap[w.heap.size + 4]? = some o5 ∧ ((((((w.alloc o1).alloc o2).alloc o3).alloc o4).alloc o5).alloc o6).heap[w.heap.size + 5]? = some o6 := by
  obtain ⟨a1, a2, a3, a4⟩ := heap_four w o1 o2 o3 o4
  have h5 := heap_one ((((w.alloc o1).alloc o2).alloc o3).alloc o4) o5
  have h6 := heap_one (((((w.alloc o1).alloc o2).alloc o3).alloc o4).alloc o5) o6
  have up : ∀ k, k < w.heap.size + 4 → ((((((w.alloc o1).alloc o2).alloc o3).alloc o4).alloc o5).alloc o6).heap[k]? = ((((w.alloc o1).alloc o2).alloc o3).alloc o4).heap[k]? := fun k hk =>
    (Below.heap_alloc _ _ _ (by simp <;> omega)).trans (Below.heap_alloc _ _ _ (by simp <;> omega))
  refine ⟨⟨(up _ (by omega)).trans a1, (up _ (by omega)).trans a2, (up _ (by omega)).trans a3, (up _ (by omega)).trans a4⟩, ?_, by simpa using h6⟩
  exact (Below.heap_alloc _ _ _ (by simp <;> omega)).trans (by simpa using h5)

theorem sgn_add_same (na : Bool) (X Y : Nat) : sgn na (X + Y) = sgn na X + sgn na Y := by cases na <;> simp [sgn] <;> omega
theorem sgn_add_not (na : Bool) {X Y : Nat} (h : Y ≤ X) : sgn na (X - Y) = sgn na X + sgn (!na) Y := by cases na <;> simp [sgn] <;> omega

theorem sgn_add_not2 (na : Bool) {X Y : Nat} (h : X ≤ Y) : sgn (!na) (Y - X) = sgn na X + sgn (!na) Y := by cases na <;> simp [sgn] <;> omega

theorem Nm.le_len {w w' : World} {A B : Option Addr} {n m c d X Y : Nat} (hx : Ng w A n c X) (hy : Nm w' B m d Y) (h : Y ≤ X) : m ≤ n := by
  rcases Nat.lt_or_ge n m with h1 | h1
  · have h2 : B64 ^ n ≤ B64 ^ (m - 1) := Nat.pow_le_pow_right B64_pos (by omega)
    have h3 := hy.top (by omega)
    have h4 := hx.lt
    omega
  · exact h1

theorem Nm.drew {w w' : World} {A : Option Addr} {n c V : Nat} (h : Nm w A n c V) (hd : Drew w w') : Nm w' A n c V := by
  obtain ⟨q, rfl⟩ := hd
  exact ⟨h.toNg.drewN q, h.top⟩

end Go.Proofs.YtkaefmfophopoaaDoor
