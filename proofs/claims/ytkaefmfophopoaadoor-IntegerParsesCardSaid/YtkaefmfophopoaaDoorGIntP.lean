import Derived.Test.YtkaefmfophopoaaDoorGIntK
import Derived.Test.YtkaefmfophopoaaDoorGLawA

/-
  The program's powers.
-/
namespace Go.Proofs.YtkaefmfophopoaaDoor
open Go.RowKit
attribute [local go_sem ↓] Go.wp_at_zero Go.wp_at_succ

theorem and_one_i64 (q : Nat) (hq : q < 9223372036854775808) : bits .and .i64 (q : Int) 1 = ((q % 2 : Nat) : Int) := by
  show IntKind.i64.wrap ((BitVec.ofInt 64 (q : Int) &&& BitVec.ofInt 64 1).toNat : Int) = _
  have h1 : (BitVec.ofInt 64 1).toNat = 1 := by decide
  rw [BitVec.toNat_and, nat_bits q (by omega), h1, Nat.and_one_is_mod]
  exact IntWalk.i64_in _ (by omega)

theorem mag_small {z : Int} {k : Nat} (h : z.natAbs < 256 ^ k) : (mag z.natAbs).size ≤ k := mag_size_le h

theorem pow_small {x : Int} (hx : x.natAbs < 256 ^ 8) (e : Nat) : (x ^ e).natAbs < 256 ^ (8 * e + 1) := by
  rw [Int.natAbs_pow]
  induction e with
  | zero => simp
  | succ e ih =>
    rw [Nat.pow_succ, show 8 * (e + 1) + 1 = (8 * e + 1) + 8 by omega, Nat.pow_add]
    exact Nat.mul_lt_mul'' ih hx

theorem pow_size {x : Int} (hx : x.natAbs < 256 ^ 8) (e : Nat) (he : e ≤ 200) : (mag (x ^ e).natAbs).size ≤ 100000 := by
  have := mag_size_le (pow_small hx e)
  omega

theorem half_pow (x : Int) (n j : Nat) : x ^ (n / 2 ^ j) = if n / 2 ^ j % 2 = 1 then x ^ (n / 2 ^ (j + 1)) * x ^ (n / 2 ^ (j + 1)) * x else x ^ (n / 2 ^ (j + 1)) * x ^ (n / 2 ^ (j + 1)) := by
  have e : n / 2 ^ (j + 1) = n / 2 ^ j / 2 := by rw [Nat.pow_succ, Nat.div_div_eq_div_mul]
  rw [e]
  generalize n / 2 ^ j = q
  split
  · rw [← Int.pow_add, ← Int.pow_succ]; congr 1; omega
  · rw [← Int.pow_add]; congr 1; omega

/-- Two cells of one block written one after the other: what stands in them. -/
theorem two_cells (w : World) (b : Nat) {u0 u1 : Value} (v0 v1 : Value) (h0 : w.cell? ⟨b, 0, none⟩ = some u0) (h1 : w.cell? ⟨b, 1, none⟩ = some u1) :
    ((w.setCell ⟨b, 0, none⟩ v0).setCell ⟨b, 1, none⟩ v1).cell? ⟨b, 0, none⟩ = some v0 ∧ ((w.setCell ⟨b, 0, none⟩ v0).setCell ⟨b, 1, none⟩ v1).cell? ⟨b, 1, none⟩ = some v1 := by
  refine ⟨?_, ?_⟩ <;> simp [go_sem, h0, h1]

/-- A call that hands back an integer and an error. -/
def RetE (w : World) (z : Int) (err : Int) (e : Ending) (w' : World) : Prop := ∃ b m, Hid (enc z = .agg #[.bool b, .string m]) ∧ e = .returned (.tuple #[.agg #[.bool b, .string m], .int .i64 err]) ∧ Below w.heap.size w w'

end Go.Proofs.YtkaefmfophopoaaDoor
