import Derived.Test.YtkaefmfophopoaaDoorGNum

/-
  Plain numbers of division: a half step of a long division, with the quotient guessed from leading digits. Nothing of the program stands here.
-/
namespace Go.Proofs.YtkaefmfophopoaaDoor

/-- The guess lies between the quotient and two more. -/
theorem half_start {b y1 y0 u d : Nat} (hb : 2 ≤ b) (h1 : b ≤ 2 * y1) (h2 : y1 < b) (h0 : y0 < b) (hu : u < y1 * b + y0) (hd : d < b) :
    (u * b + d) / (y1 * b + y0) ≤ u / y1 ∧ u / y1 ≤ b + 1 ∧ (u * b + d) / (y1 * b + y0) < b := by
  have hp : 0 < y1 := by omega
  have hy : 0 < y1 * b + y0 := by omega
  refine ⟨?_, ?_, ?_⟩
  · rw [Nat.le_div_iff_mul_le hp]
    have hq := Nat.div_mul_le_self (u * b + d) (y1 * b + y0)
    generalize (u * b + d) / (y1 * b + y0) = q at *
    have e : q * (y1 * b + y0) = q * y1 * b + q * y0 := by rw [Nat.mul_add, Nat.mul_assoc]
    rw [e] at hq
    rcases Nat.lt_or_ge u (q * y1) with h | h
    · have : (u + 1) * b ≤ q * y1 * b := Nat.mul_le_mul_right _ h
      rw [Nat.add_mul] at this
      omega
    · exact h
  · have : u / y1 < b + 2 := by
      rw [Nat.div_lt_iff_lt_mul hp, Nat.add_mul, Nat.mul_comm b y1]
      omega
    omega
  · rw [Nat.div_lt_iff_lt_mul hy]
    have : (u + 1) * b ≤ (y1 * b + y0) * b := Nat.mul_le_mul_right _ hu
    rw [Nat.add_mul] at this
    have e : b * (y1 * b + y0) = (y1 * b + y0) * b := Nat.mul_comm _ _
    omega

/-- Where the test says that the guess is too great, it is. -/
theorem half_more {b y1 y0 u d Q R : Nat} (hb : 2 ≤ b) (h1 : b ≤ 2 * y1) (h0 : y0 < b) (hu : u < y1 * b + y0) (hd : d < b) (he : Q * y1 + R = u) (ht : b ≤ Q ∨ b * R + d < Q * y0) :
    (u * b + d) / (y1 * b + y0) < Q := by
  have hy : 0 < y1 * b + y0 := by omega
  rw [Nat.div_lt_iff_lt_mul hy]
  rcases ht with ht | ht
  · have h3 : b * (y1 * b + y0) ≤ Q * (y1 * b + y0) := Nat.mul_le_mul_right _ ht
    have h4 : (u + 1) * b ≤ (y1 * b + y0) * b := Nat.mul_le_mul_right _ hu
    rw [Nat.add_mul] at h4
    rw [Nat.mul_comm (y1 * b + y0) b] at h4
    omega
  · have e : Q * (y1 * b + y0) = Q * y1 * b + Q * y0 := by rw [Nat.mul_add, Nat.mul_assoc]
    rw [e, ← he, Nat.add_mul, Nat.mul_comm R b]
    omega

/-- Where the test says that it is not, it isn't. -/
theorem half_done {b y1 y0 u d Q R : Nat} (hy : 0 < y1 * b + y0) (he : Q * y1 + R = u) (ht : Q * y0 ≤ b * R + d) (hq : (u * b + d) / (y1 * b + y0) ≤ Q) :
    Q = (u * b + d) / (y1 * b + y0) := by
  refine Nat.le_antisymm ?_ hq
  rw [Nat.le_div_iff_mul_le hy]
  have e : Q * (y1 * b + y0) = Q * y1 * b + Q * y0 := by rw [Nat.mul_add, Nat.mul_assoc]
  rw [e, ← he, Nat.add_mul, Nat.mul_comm R b]
  omega

/-- Nor is it where the rest has become as great as the base. -/
theorem half_break {b y0 d Q R : Nat} (h0 : y0 < b) (hQ : Q ≤ b) (hR : b ≤ R) : Q * y0 ≤ b * R + d := by
  have h1 : Q * y0 ≤ b * y0 := Nat.mul_le_mul_right _ hQ
  have h2 : b * y0 ≤ b * R := Nat.mul_le_mul_left _ (by omega)
  omega

/-- Two half steps make a whole one. -/
theorem two_halves {b y u d1 d0 q1 r1 q0 r0 : Nat} (e1 : u * b + d1 = q1 * y + r1) (e0 : r1 * b + d0 = q0 * y + r0) : u * (b * b) + (d1 * b + d0) = (q1 * b + q0) * y + r0 := by
  have h1 : (u * b + d1) * b = (q1 * y + r1) * b := by rw [e1]
  rw [Nat.add_mul, Nat.add_mul, Nat.mul_assoc] at h1
  have e : (q1 * b + q0) * y = q1 * y * b + q0 * y := by rw [Nat.add_mul, Nat.mul_right_comm]
  rw [e]
  omega
end Go.Proofs.YtkaefmfophopoaaDoor
