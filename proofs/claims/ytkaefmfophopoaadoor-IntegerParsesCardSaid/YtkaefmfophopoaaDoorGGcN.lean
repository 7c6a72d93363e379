import Derived.Test.YtkaefmfophopoaaDoorGNum

/-
  Plain numbers: certain steps of Euclid's algorithm on leading words (Lehmer, Collins), and the greatest common divisor by halves. Nothing of the program stands here.
-/
namespace Go.Proofs.YtkaefmfophopoaaDoor

/-- The sign of a parity. -/
def sg (odd : Bool) : Int := if odd then 1 else -1
theorem sg_not (o : Bool) : sg (!o) = - sg o := by cases o <;> rfl
theorem sg_sq (o : Bool) : sg o * sg o = 1 := by cases o <;> rfl

/-- Lehmer's steps: a and b are the leading words after some steps of Euclid's algorithm on A and L, x1, y1 and x2, y2 their cofactors, x0, y0 those ahead; whatever follows the leading words in X and Y. -/
structure Lm (X Y A L a b x0 x1 x2 y0 y1 y2 : Nat) (odd : Bool) : Prop where
  i1 : y2 * a + y1 * b = A
  i2 : x2 * a + x1 * b = L
  i3 : (x1 : Int) * y2 - x2 * y1 = sg odd
  i4 : x1 + x2 ≤ y1 + y2
  i5 : x2 ≤ y2
  i6 : 1 ≤ y2
  i7 : b ≤ a
  i9 : y1 = 0 → x1 = 1 ∧ x2 = 0 ∧ y2 = 1 ∧ odd = true ∧ y0 = 0
  i10 : y1 ≠ 0 → sg odd * ((x1 : Int) * X - y1 * Y) ≤ Y
  i11 : y0 ≠ 0 → 0 ≤ sg odd * ((x1 : Int) * X - y1 * Y) ∧ sg odd * ((x1 : Int) * X - y1 * Y) < sg odd * ((y0 : Int) * Y - x0 * X) ∧ sg odd * ((y0 : Int) * Y - x0 * X) ≤ Y ∧ (x0 : Int) * y1 - x1 * y0 = - sg odd

theorem Lm.start (X Y A L : Nat) (h : L ≤ A) : Lm X Y A L A L 0 1 0 0 0 1 true :=
  ⟨by omega, by omega, by decide, by omega, by omega, by omega, h, fun _ => ⟨rfl, rfl, rfl, rfl, rfl⟩, fun h => absurd rfl h, fun h => absurd rfl h⟩

theorem lm_bounds {X Y A L a b x0 x1 x2 y0 y1 y2 : Nat} {odd : Bool} (h : Lm X Y A L a b x0 x1 x2 y0 y1 y2 odd) (hb : y2 ≤ b) :
    0 < b ∧ a / b * x2 ≤ L ∧ x1 + a / b * x2 ≤ L ∧ a / b * y2 ≤ A ∧ y1 + a / b * y2 ≤ A ∧ a % b < b := by
  have hb0 : 0 < b := by have := h.i6; omega
  have hd := Nat.div_add_mod a b
  have h1 : x2 * (b * (a / b)) ≤ x2 * a := Nat.mul_le_mul_left _ (by omega)
  have h2 : y2 * (b * (a / b)) ≤ y2 * a := Nat.mul_le_mul_left _ (by omega)
  have e1 : x2 * (b * (a / b)) = a / b * x2 * b := by grind
  have e2 : y2 * (b * (a / b)) = a / b * y2 * b := by grind
  have i1 := h.i1
  have i2 := h.i2
  have l1 : a / b * x2 * 1 ≤ a / b * x2 * b := Nat.mul_le_mul_left _ hb0
  have l2 : a / b * y2 * 1 ≤ a / b * y2 * b := Nat.mul_le_mul_left _ hb0
  have l3 : x1 * 1 ≤ x1 * b := Nat.mul_le_mul_left _ hb0
  have l4 : y1 * 1 ≤ y1 * b := Nat.mul_le_mul_left _ hb0
  exact ⟨hb0, by omega, by omega, by omega, by omega, Nat.mod_lt _ hb0⟩

/-- What Collins's condition decides. -/
theorem lm_sure {X Y A L K a b x0 x1 x2 y0 y1 y2 : Nat} {odd : Bool} (h : Lm X Y A L a b x0 x1 x2 y0 y1 y2 odd) (hX : A * K ≤ X ∧ X < A * K + K) (hY : L * K ≤ Y ∧ Y < L * K + K) (hb : y2 ≤ b) (hab : y1 + y2 ≤ a - b) :
    0 ≤ sg odd * ((y2 : Int) * Y - x2 * X) ∧ sg odd * ((y2 : Int) * Y - x2 * X) < sg odd * ((x1 : Int) * X - y1 * Y) := by
  obtain ⟨al, rfl⟩ : ∃ al, X = A * K + al := ⟨X - A * K, by omega⟩
  obtain ⟨be, rfl⟩ : ∃ be, Y = L * K + be := ⟨Y - L * K, by omega⟩
  have hal : al < K := by omega
  have hbe : be < K := by omega
  obtain ⟨i1, i2, i3, i4, i5, i6, i7, -, -, -⟩ := h
  have i1' : (y2 : Int) * a + y1 * b = A := by exact_mod_cast i1
  have i2' : (x2 : Int) * a + x1 * b = L := by exact_mod_cast i2
  have ss := sg_sq odd
  have ea : sg odd * ((x1 : Int) * A - y1 * L) = a := by
    rw [← i1', ← i2']
    have : sg odd * ((x1 : Int) * (y2 * a + y1 * b) - y1 * (x2 * a + x1 * b)) = sg odd * ((x1 : Int) * y2 - x2 * y1) * a := by grind
    rw [this, i3, ss]; omega
  have eb : sg odd * ((y2 : Int) * L - x2 * A) = b := by
    rw [← i1', ← i2']
    have : sg odd * ((y2 : Int) * (x2 * a + x1 * b) - x2 * (y2 * a + y1 * b)) = sg odd * ((x1 : Int) * y2 - x2 * y1) * b := by grind
    rw [this, i3, ss]; omega
  push_cast
  have f1 : sg odd * ((y2 : Int) * (L * K + be) - x2 * (A * K + al)) = b * K + sg odd * (y2 * be - x2 * al) := by rw [← eb]; grind
  have f2 : sg odd * ((x1 : Int) * (A * K + al) - y1 * (L * K + be)) = a * K + sg odd * (x1 * al - y1 * be) := by rw [← ea]; grind
  rw [f1, f2]
  -- bounds of the products
  have p1 : x2 * al ≤ y2 * al := Nat.mul_le_mul_right _ i5
  have p2 : y2 * al < y2 * K := Nat.mul_lt_mul_of_pos_left hal i6
  have p3 : y2 * be < y2 * K := Nat.mul_lt_mul_of_pos_left hbe i6
  have p4 : y2 * K ≤ b * K := Nat.mul_le_mul_right _ hb
  have p5 : (x1 + x2) * al ≤ (y1 + y2) * al := Nat.mul_le_mul_right _ i4
  have p6 : (y1 + y2) * al < (y1 + y2) * K := Nat.mul_lt_mul_of_pos_left hal (by omega)
  have p7 : (y1 + y2) * be < (y1 + y2) * K := Nat.mul_lt_mul_of_pos_left hbe (by omega)
  have p8 : (b + (y1 + y2)) * K ≤ a * K := Nat.mul_le_mul_right _ (by omega)
  rw [Nat.add_mul] at p5 p6 p7 p8
  rw [Nat.add_mul] at p5 p6 p7 p8
  have c1 : (x2 : Int) * al = ((x2 * al : Nat) : Int) := by simp
  have c2 : (y2 : Int) * be = ((y2 * be : Nat) : Int) := by simp
  have c3 : (x1 : Int) * al = ((x1 * al : Nat) : Int) := by simp
  have c4 : (y1 : Int) * be = ((y1 * be : Nat) : Int) := by simp
  have c5 : (a : Int) * K = ((a * K : Nat) : Int) := by simp
  have c6 : (b : Int) * K = ((b * K : Nat) : Int) := by simp
  rw [c1, c2, c3, c4, c5, c6]
  cases odd
  · simp only [sg, Bool.false_eq_true, if_false]
    omega
  · simp only [sg, if_true]
    omega

theorem Lm.step {X Y A L K a b x0 x1 x2 y0 y1 y2 : Nat} {odd : Bool} (h : Lm X Y A L a b x0 x1 x2 y0 y1 y2 odd) (hX : A * K ≤ X ∧ X < A * K + K) (hY : L * K ≤ Y ∧ Y < L * K + K) (hb : y2 ≤ b) (hab : y1 + y2 ≤ a - b) :
    Lm X Y A L b (a % b) x1 x2 (x1 + a / b * x2) y1 y2 (y1 + a / b * y2) (!odd) := by
  have hs := lm_sure h hX hY hb hab
  obtain ⟨i1, i2, i3, i4, i5, i6, i7, i9, i10, i11⟩ := h
  have hb0 : 0 < b := by omega
  have hd := Nat.div_add_mod a b
  have hm := Nat.mod_lt a hb0
  have hq : 1 ≤ a / b := Nat.div_pos i7 hb0
  obtain ⟨q, hq'⟩ : ∃ q, a / b = q + 1 := ⟨a / b - 1, by omega⟩
  rw [hq'] at hd ⊢
  generalize a % b = r at *
  have e1 : ((y2 : Int) * Y - x2 * X) = - ((x2 : Int) * X - y2 * Y) := by omega
  have i5q : q * x2 ≤ q * y2 := Nat.mul_le_mul_left _ i5
  have i6q : 1 ≤ y1 + (q + 1) * y2 := by rw [Nat.add_mul]; omega
  refine ⟨?_, ?_, ?_, ?_, ?_, i6q, by omega, fun h => by omega, fun _ => ?_, fun h0 => ?_⟩
  · rw [← i1, ← hd]; grind
  · rw [← i2, ← hd]; grind
  · rw [sg_not, ← i3]; push_cast; grind
  · rw [Nat.add_mul, Nat.add_mul]; omega
  · rw [Nat.add_mul, Nat.add_mul]; omega
  · rw [sg_not]
    have e2 : - sg odd * ((x2 : Int) * X - y2 * Y) = sg odd * ((y2 : Int) * Y - x2 * X) := by grind
    rw [e2]
    by_cases h1 : y1 = 0
    · obtain ⟨-, rfl, rfl, rfl, -⟩ := i9 h1
      simp [sg]
    · have := i10 h1
      omega
  · rw [sg_not]
    have e2 : - sg odd * ((x2 : Int) * X - y2 * Y) = sg odd * ((y2 : Int) * Y - x2 * X) := by grind
    have e3 : - sg odd * ((y1 : Int) * Y - x1 * X) = sg odd * ((x1 : Int) * X - y1 * Y) := by grind
    rw [e2, e3]
    exact ⟨hs.1, hs.2, i10 h0, by rw [i3]; omega⟩

/-- What certain steps lead to: two numbers with the same greatest common divisor. -/
theorem lehmer_gcd {X Y x0 y0 x1 y1 R0 R1 : Nat} {s : Int} (hs : s * s = 1) (h0 : (R0 : Int) = s * ((y0 : Int) * Y - x0 * X)) (h1 : (R1 : Int) = s * ((x1 : Int) * X - y1 * Y)) (hd : (x0 : Int) * y1 - x1 * y0 = - s) : Nat.gcd R0 R1 = Nat.gcd X Y := by
  have eX : (X : Int) = y1 * R0 + y0 * R1 := by
    rw [h0, h1]
    have : (y1 : Int) * (s * ((y0 : Int) * Y - x0 * X)) + y0 * (s * ((x1 : Int) * X - y1 * Y)) = - (s * ((x0 : Int) * y1 - x1 * y0)) * X := by grind
    rw [this, hd]
    have : -(s * -s) = s * s := by grind
    rw [this, hs]; omega
  have eY : (Y : Int) = x1 * R0 + x0 * R1 := by
    rw [h0, h1]
    have : (x1 : Int) * (s * ((y0 : Int) * Y - x0 * X)) + x0 * (s * ((x1 : Int) * X - y1 * Y)) = - (s * ((x0 : Int) * y1 - x1 * y0)) * Y := by grind
    rw [this, hd]
    have : -(s * -s) = s * s := by grind
    rw [this, hs]; omega
  have nX : X = y1 * R0 + y0 * R1 := by exact_mod_cast eX
  have nY : Y = x1 * R0 + x0 * R1 := by exact_mod_cast eY
  apply Nat.dvd_antisymm
  · apply Nat.dvd_gcd
    · conv => rhs; rw [nX]
      exact Nat.dvd_add (Nat.dvd_trans (Nat.gcd_dvd_left _ _) (Nat.dvd_mul_left _ _)) (Nat.dvd_trans (Nat.gcd_dvd_right _ _) (Nat.dvd_mul_left _ _))
    · conv => rhs; rw [nY]
      exact Nat.dvd_add (Nat.dvd_trans (Nat.gcd_dvd_left _ _) (Nat.dvd_mul_left _ _)) (Nat.dvd_trans (Nat.gcd_dvd_right _ _) (Nat.dvd_mul_left _ _))
  · have dX : ((Nat.gcd X Y : Nat) : Int) ∣ (X : Int) := by exact_mod_cast Nat.gcd_dvd_left X Y
    have dY : ((Nat.gcd X Y : Nat) : Int) ∣ (Y : Int) := by exact_mod_cast Nat.gcd_dvd_right X Y
    apply Nat.dvd_gcd
    · have : ((Nat.gcd X Y : Nat) : Int) ∣ (R0 : Int) := by
        rw [h0]
        exact Int.dvd_trans (Int.dvd_sub (Int.dvd_trans dY (Int.dvd_mul_left _ _)) (Int.dvd_trans dX (Int.dvd_mul_left _ _))) (Int.dvd_mul_left _ _)
      exact_mod_cast this
    · have : ((Nat.gcd X Y : Nat) : Int) ∣ (R1 : Int) := by
        rw [h1]
        exact Int.dvd_trans (Int.dvd_sub (Int.dvd_trans dX (Int.dvd_mul_left _ _)) (Int.dvd_trans dY (Int.dvd_mul_left _ _))) (Int.dvd_mul_left _ _)
      exact_mod_cast this

/-! The greatest common divisor of two words, by halves. -/

theorem gcd_odd_two {a : Nat} (ha : a % 2 = 1) (b k : Nat) : Nat.gcd a (b * 2 ^ k) = Nat.gcd a b := by
  have h2 : Nat.Coprime a (2 ^ k) := by
    apply Nat.Coprime.pow_right
    rw [Nat.Coprime, Nat.gcd_comm, Nat.gcd_rec, ha]
    rfl
  rw [Nat.mul_comm]
  exact Nat.Coprime.gcd_mul_left_cancel_right b h2.symm

theorem gcd_twos {A B a b j k : Nat} (hA : A = a * 2 ^ j) (hB : B = b * 2 ^ k) (ha : a % 2 = 1) (hb : b % 2 = 1) : Nat.gcd A B = Nat.gcd a b * 2 ^ min j k := by
  subst hA hB
  rcases Nat.le_total j k with h | h
  · rw [Nat.min_eq_left h]
    obtain ⟨m, rfl⟩ : ∃ m, k = j + m := ⟨k - j, by omega⟩
    rw [Nat.pow_add, Nat.mul_comm (2 ^ j), ← Nat.mul_assoc, Nat.gcd_mul_right, gcd_odd_two ha]
  · rw [Nat.min_eq_right h]
    obtain ⟨m, rfl⟩ : ∃ m, j = k + m := ⟨j - k, by omega⟩
    rw [Nat.pow_add, Nat.mul_comm (2 ^ k), ← Nat.mul_assoc, Nat.gcd_mul_right, Nat.gcd_comm, gcd_odd_two hb, Nat.gcd_comm]

theorem gcd_sub_odd {a b : Nat} (h : a ≤ b) : Nat.gcd a (b - a) = Nat.gcd a b := by
  rw [Nat.gcd_sub_self_right h]
end Go.Proofs.YtkaefmfophopoaaDoor
