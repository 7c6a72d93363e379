import Derived.Test.YtahehlajpaoiiaaGreatDoorGNum

/-
  Plain numbers for fractions: the number of digits, and fractions in lowest terms. Nothing of the program stands here.
-/
namespace Go.Proofs.YtahehlajpaoiiaaGreatDoor

/-- The number of digits in base 256. -/
def nd (V : Nat) : Nat := (mag V).size

theorem nd_lt (V : Nat) : V < 256 ^ nd V := lt_of_mag
theorem nd_zero : nd 0 = 0 := mag_zero_iff.2 rfl
theorem nd_zero_iff {V : Nat} : nd V = 0 ↔ V = 0 := mag_zero_iff
theorem nd_le {V n : Nat} (h : V < 256 ^ n) : nd V ≤ n := mag_size_le h
theorem nd_top {V : Nat} (h : 0 < nd V) : D 256 V (nd V - 1) ≠ 0 := by
  have h1 := dig_top (lead_mag V) h
  rw [dig_eq, bval_mag] at h1
  exact h1
theorem nd_of {V n : Nat} (h1 : V < 256 ^ n) (h2 : 0 < n → D 256 V (n - 1) ≠ 0) : n = nd V := by
  have h3 := nd_le h1
  rcases Nat.lt_or_ge (nd V) n with h4 | h4
  · exact absurd (D_zero_of (b := 256) (by omega) (nd_lt V) (i := n - 1) (by omega)) (h2 (by omega))
  · omega
theorem nd_low {V : Nat} (h : 0 < nd V) : 256 ^ (nd V - 1) ≤ V := by
  rcases Nat.lt_or_ge V (256 ^ (nd V - 1)) with h1 | h1
  · exact absurd (D_zero_of (b := 256) (by omega) h1 (i := nd V - 1) (Nat.le_refl _)) (nd_top h)
  · exact h1
theorem nd_pos {V : Nat} (h : 0 < V) : 0 < nd V := by
  rcases Nat.eq_zero_or_pos (nd V) with h1 | h1
  · rw [nd_zero_iff] at h1; omega
  · exact h1
theorem lt_of_nd {X Y : Nat} (h : nd X < nd Y) : X < Y := by
  have h1 := nd_lt X
  have h2 := nd_low (V := Y) (by omega)
  have h3 : 256 ^ nd X ≤ 256 ^ (nd Y - 1) := Nat.pow_le_pow_right (by omega) (by omega)
  omega
theorem nd_mono {X Y : Nat} (h : X ≤ Y) : nd X ≤ nd Y := nd_le (Nat.lt_of_le_of_lt h (nd_lt Y))
theorem nd_one : nd 1 = 1 := by
  have h1 := nd_le (V := 1) (n := 1) (by omega)
  have h2 := nd_pos (V := 1) (by omega)
  omega
theorem nd_add (X Y : Nat) : nd (X + Y) ≤ max (nd X) (nd Y) + 1 := by
  apply nd_le
  have h1 : 256 ^ nd X ≤ 256 ^ max (nd X) (nd Y) := Nat.pow_le_pow_right (by omega) (by omega)
  have h2 : 256 ^ nd Y ≤ 256 ^ max (nd X) (nd Y) := Nat.pow_le_pow_right (by omega) (by omega)
  have h3 := nd_lt X
  have h4 := nd_lt Y
  rw [Nat.pow_succ]
  omega
theorem nd_mul (X Y : Nat) : nd (X * Y) ≤ nd X + nd Y := by
  apply nd_le
  rw [Nat.pow_add]
  exact Nat.mul_lt_mul'' (nd_lt X) (nd_lt Y)
theorem nd_div (X Y : Nat) : nd (X / Y) ≤ nd X := nd_mono (Nat.div_le_self _ _)

/-- The value of all digits from a place on. -/
theorem div_nd {V : Nat} : V / 256 ^ nd V = 0 := Nat.div_eq_of_lt (nd_lt V)

theorem nd_7 {V : Nat} (h : nd V ≤ 7) : V < 72057594037927936 := by
  have h1 := nd_lt V
  have h2 : 256 ^ nd V ≤ 256 ^ 7 := Nat.pow_le_pow_right (by omega) h
  omega

/-! Fractions in lowest terms. -/

/-- n / d, both divided by the greatest common divisor. -/
theorem mkRat_parts (n : Int) {d : Nat} (hd : d ≠ 0) : (mkRat n d).num = n / (Nat.gcd n.natAbs d : Nat) ∧ (mkRat n d).den = d / Nat.gcd n.natAbs d := by
  rw [Rat.num_mkRat, Rat.den_mkRat, if_neg hd, if_neg hd, Nat.gcd_comm]
  exact ⟨rfl, rfl⟩

theorem rat_of_coprime {n : Int} {d : Nat} (hd : d ≠ 0) (h : Nat.gcd n.natAbs d = 1) : (mkRat n d).num = n ∧ (mkRat n d).den = d := by
  obtain ⟨h1, h2⟩ := mkRat_parts n hd
  rw [h1, h2, h]
  simp


theorem int_gcd_dvd (n : Int) (d : Nat) : ((Nat.gcd n.natAbs d : Nat) : Int) ∣ n := Int.ofNat_dvd_left.2 (Nat.gcd_dvd_left _ _)

/-- The parts of a sum, as they are computed with small numbers. -/
theorem add_parts (a b : Rat) {g q' s' : Nat} {t : Int} (hg : g = Nat.gcd a.den b.den) (hq : q' = a.den / g) (hs : s' = b.den / g) (ht : t = a.num * s' + b.num * q') :
    (a + b).num = t / (Nat.gcd t.natAbs g : Nat) ∧ (a + b).den = q' * (b.den / Nat.gcd t.natAbs g) := by
  have haux := Rat.add.aux a b hg hq hs
  simp only [← ht] at haux
  have hgpos : 0 < g := hg ▸ Nat.gcd_pos_of_pos_left _ a.den_pos
  have e1 : q' * g = a.den := by rw [hq, Nat.div_mul_cancel (hg ▸ Nat.gcd_dvd_left _ _)]
  have e2 : s' * g = b.den := by rw [hs, Nat.div_mul_cancel (hg ▸ Nat.gcd_dvd_right _ _)]
  have hn : a.num * (b.den : Int) + b.num * (a.den : Int) = t * (g : Int) := by
    rw [ht, ← e1, ← e2, Int.natCast_mul, Int.natCast_mul, Int.add_mul, ← Int.mul_assoc, ← Int.mul_assoc]
  have hd : a.den * b.den = q' * b.den * g := by rw [← e1, Nat.mul_right_comm]
  have hq0 : q' * b.den ≠ 0 := by
    have h1 : q' ≠ 0 := fun h => by rw [h, Nat.zero_mul] at e1; exact a.den_nz e1.symm
    exact Nat.mul_ne_zero h1 b.den_nz
  have hdv : Nat.gcd t.natAbs g ∣ b.den := Nat.dvd_trans (Nat.gcd_dvd_right _ _) (hg ▸ Nat.gcd_dvd_right _ _)
  rw [Rat.add_def', hn, hd, Rat.mkRat_mul_right (by omega)]
  obtain ⟨h1, h2⟩ := mkRat_parts t hq0
  rw [h1, h2, haux]
  refine ⟨rfl, ?_⟩
  rw [← haux, Nat.mul_div_assoc _ hdv]

theorem sub_parts (a b : Rat) {g q' s' : Nat} {t : Int} (hg : g = Nat.gcd a.den b.den) (hq : q' = a.den / g) (hs : s' = b.den / g) (ht : t = a.num * s' - b.num * q') :
    (a - b).num = t / (Nat.gcd t.natAbs g : Nat) ∧ (a - b).den = q' * (b.den / Nat.gcd t.natAbs g) := by
  rw [Rat.sub_eq_add_neg]
  exact add_parts a (-b) hg hq hs (by rw [ht, Rat.neg_num, Int.neg_mul, Int.sub_eq_add_neg])

theorem mul_parts (a b : Rat) {g1 g2 : Nat} (h1 : g1 = Nat.gcd a.num.natAbs b.den) (h2 : g2 = Nat.gcd b.num.natAbs a.den) :
    (a * b).num = a.num / (g1 : Int) * (b.num / (g2 : Int)) ∧ (a * b).den = (a.den / g2) * (b.den / g1) := by
  have d1 : (g1 : Int) ∣ a.num := h1 ▸ int_gcd_dvd _ _
  have d2 : (g2 : Int) ∣ b.num := h2 ▸ int_gcd_dvd _ _
  have e : a * b = Rat.mul a b := rfl
  rw [e]
  delta Rat.mul
  dsimp only
  simp only [Int.divExact_eq_tdiv, Nat.divExact_eq_div, ← h1, ← h2]
  rw [Int.tdiv_eq_ediv_of_dvd d1, Int.tdiv_eq_ediv_of_dvd d2]
  exact ⟨rfl, trivial⟩

/-- An integer as a fraction. -/
theorem int_parts (n : Int) : (n : Rat).num = n ∧ (n : Rat).den = 1 := ⟨rfl, rfl⟩
theorem int_of_den {a : Rat} (h : a.den = 1) : a = (a.num : Rat) := Rat.ext rfl (by rw [h]; rfl)

theorem divInt_parts (n d : Int) (hd : d ≠ 0) : (Rat.divInt n d).num = d.sign * n / (Nat.gcd n.natAbs d.natAbs : Nat) ∧ (Rat.divInt n d).den = d.natAbs / Nat.gcd n.natAbs d.natAbs := by
  rw [Rat.num_divInt, Rat.den_divInt, if_neg hd]
  have e : Int.gcd d n = Nat.gcd n.natAbs d.natAbs := by rw [Int.gcd_comm]; rfl
  rw [e]
  exact ⟨rfl, rfl⟩
end Go.Proofs.YtahehlajpaoiiaaGreatDoor


/-
  Plain numbers of division: a half step of a long division, with the quotient guessed from leading digits. Nothing of the program stands here.
-/
namespace Go.Proofs.YtahehlajpaoiiaaGreatDoor

/-- The guess lies between the quotient and two more. -/
theorem half_start {b y1 y0 u d : Nat} (hb : 2 ≤ b) (h1 : b ≤ 2 * y1) (h2 : y1 < b) (h0 : y0 < b) (hu : u < y1 * b + y0) (hd : d < b) :
    (u * b + d) / (y1 * b + y0) ≤ u / y1 ∧ u / y1 ≤ b + 1 ∧ (u * b + d) / (y1 * b + y0) < b := by
  have hp : 0 < y1 := by omega
  have hy : 0 < y1 * b + y0 := by omega
  refine ⟨?_, ?_, ?_⟩
  · rw [Nat.le_div_iff_mul_le hp]
    have hq := Nat.div_mul_le_self (u * b + d) (y1 * b + y0)
    generalize (u * b + d) / (y1 * b + y0) = q at *
    have e : q * (y1 * b + y0) = q * y1 * b + q * y0 := by rw [Nat.mul_add, Nat.mul_assoc]
    rw [e] at hq
    rcases Nat.lt_or_ge u (q * y1) with h | h
    · have : (u + 1) * b ≤ q * y1 * b := Nat.mul_le_mul_right _ h
      rw [Nat.add_mul] at this
      omega
    · exact h
  · have : u / y1 < b + 2 := by
      rw [Nat.div_lt_iff_lt_mul hp, Nat.add_mul, Nat.mul_comm b y1]
      omega
    omega
  · rw [Nat.div_lt_iff_lt_mul hy]
    have : (u + 1) * b ≤ (y1 * b + y0) * b := Nat.mul_le_mul_right _ hu
    rw [Nat.add_mul] at this
    have e : b * (y1 * b + y0) = (y1 * b + y0) * b := Nat.mul_comm _ _
    omega

/-- Where the test says that the guess is too great, it is. -/
theorem half_more {b y1 y0 u d Q R : Nat} (hb : 2 ≤ b) (h1 : b ≤ 2 * y1) (h0 : y0 < b) (hu : u < y1 * b + y0) (hd : d < b) (he : Q * y1 + R = u) (ht : b ≤ Q ∨ b * R + d < Q * y0) :
    (u * b + d) / (y1 * b + y0) < Q := by
  have hy : 0 < y1 * b + y0 := by omega
  rw [Nat.div_lt_iff_lt_mul hy]
  rcases ht with ht | ht
  · have h3 : b * (y1 * b + y0) ≤ Q * (y1 * b + y0) := Nat.mul_le_mul_right _ ht
    have h4 : (u + 1) * b ≤ (y1 * b + y0) * b := Nat.mul_le_mul_right _ hu
    rw [Nat.add_mul] at h4
    rw [Nat.mul_comm (y1 * b + y0) b] at h4
    omega
  · have e : Q * (y1 * b + y0) = Q * y1 * b + Q * y0 := by rw [Nat.mul_add, Nat.mul_assoc]
    rw [e, ← he, Nat.add_mul, Nat.mul_comm R b]
    omega

/-- Where the test says that it is not, it isn't. -/
theorem half_done {b y1 y0 u d Q R : Nat} (hy : 0 < y1 * b + y0) (he : Q * y1 + R = u) (ht : Q * y0 ≤ b * R + d) (hq : (u * b + d) / (y1 * b + y0) ≤ Q) :
    Q = (u * b + d) / (y1 * b + y0) := by
  refine Nat.le_antisymm ?_ hq
  rw [Nat.le_div_iff_mul_le hy]
  have e : Q * (y1 * b + y0) = Q * y1 * b + Q * y0 := by rw [Nat.mul_add, Nat.mul_assoc]
  rw [e, ← he, Nat.add_mul, Nat.mul_comm R b]
  omega

/-- Nor is it where the rest has become as great as the base. -/
theorem half_break {b y0 d Q R : Nat} (h0 : y0 < b) (hQ : Q ≤ b) (hR : b ≤ R) : Q * y0 ≤ b * R + d := by
  have h1 : Q * y0 ≤ b * y0 := Nat.mul_le_mul_right _ hQ
  have h2 : b * y0 ≤ b * R := Nat.mul_le_mul_left _ (by omega)
  omega

/-- Two half steps make a whole one. -/
theorem two_halves {b y u d1 d0 q1 r1 q0 r0 : Nat} (e1 : u * b + d1 = q1 * y + r1) (e0 : r1 * b + d0 = q0 * y + r0) : u * (b * b) + (d1 * b + d0) = (q1 * b + q0) * y + r0 := by
  have h1 : (u * b + d1) * b = (q1 * y + r1) * b := by rw [e1]
  rw [Nat.add_mul, Nat.add_mul, Nat.mul_assoc] at h1
  have e : (q1 * b + q0) * y = q1 * y * b + q0 * y := by rw [Nat.add_mul, Nat.mul_right_comm]
  rw [e]
  omega
end Go.Proofs.YtahehlajpaoiiaaGreatDoor


/-
  Plain numbers: certain steps of Euclid's algorithm on leading words (Lehmer, Collins), and the greatest common divisor by halves. Nothing of the program stands here.
-/
namespace Go.Proofs.YtahehlajpaoiiaaGreatDoor

/-- The sign of a parity. -/
def sg (odd : Bool) : Int := if odd then 1 else -1
theorem sg_not (o : Bool) : sg (!o) = - sg o := by cases o <;> rfl
theorem sg_sq (o : Bool) : sg o * sg o = 1 := by cases o <;> rfl

/-- Lehmer's steps: a and b are the leading words after some steps of Euclid's algorithm on A and L, x1, y1 and x2, y2 their cofactors, x0, y0 those ahead; whatever follows the leading words in X and Y. -/
structure Lm (X Y A L a b x0 x1 x2 y0 y1 y2 : Nat) (odd : Bool) : Prop where
  i1 : y2 * a + y1 * b = A
  i2 : x2 * a + x1 * b = L
  i3 : (x1 : Int) * y2 - x2 * y1 = sg odd
  i4 : x1 + x2 ≤ y1 + y2
  i5 : x2 ≤ y2
  i6 : 1 ≤ y2
  i7 : b ≤ a
  i9 : y1 = 0 → x1 = 1 ∧ x2 = 0 ∧ y2 = 1 ∧ odd = true ∧ y0 = 0
  i10 : y1 ≠ 0 → sg odd * ((x1 : Int) * X - y1 * Y) ≤ Y
  i11 : y0 ≠ 0 → 0 ≤ sg odd * ((x1 : Int) * X - y1 * Y) ∧ sg odd * ((x1 : Int) * X - y1 * Y) < sg odd * ((y0 : Int) * Y - x0 * X) ∧ sg odd * ((y0 : Int) * Y - x0 * X) ≤ Y ∧ (x0 : Int) * y1 - x1 * y0 = - sg odd

theorem Lm.start (X Y A L : Nat) (h : L ≤ A) : Lm X Y A L A L 0 1 0 0 0 1 true :=
  ⟨by omega, by omega, by decide, by omega, by omega, by omega, h, fun _ => ⟨rfl, rfl, rfl, rfl, rfl⟩, fun h => absurd rfl h, fun h => absurd rfl h⟩

theorem lm_bounds {X Y A L a b x0 x1 x2 y0 y1 y2 : Nat} {odd : Bool} (h : Lm X Y A L a b x0 x1 x2 y0 y1 y2 odd) (hb : y2 ≤ b) :
    0 < b ∧ a / b * x2 ≤ L ∧ x1 + a / b * x2 ≤ L ∧ a / b * y2 ≤ A ∧ y1 + a / b * y2 ≤ A ∧ a % b < b := by
  have hb0 : 0 < b := by have := h.i6; omega
  have hd := Nat.div_add_mod a b
  have h1 : x2 * (b * (a / b)) ≤ x2 * a := Nat.mul_le_mul_left _ (by omega)
  have h2 : y2 * (b * (a / b)) ≤ y2 * a := Nat.mul_le_mul_left _ (by omega)
  have e1 : x2 * (b * (a / b)) = a / b * x2 * b := by grind
  have e2 : y2 * (b * (a / b)) = a / b * y2 * b := by grind
  have i1 := h.i1
  have i2 := h.i2
  have l1 : a / b * x2 * 1 ≤ a / b * x2 * b := Nat.mul_le_mul_left _ hb0
  have l2 : a / b * y2 * 1 ≤ a / b * y2 * b := Nat.mul_le_mul_left _ hb0
  have l3 : x1 * 1 ≤ x1 * b := Nat.mul_le_mul_left _ hb0
  have l4 : y1 * 1 ≤ y1 * b := Nat.mul_le_mul_left _ hb0
  exact ⟨hb0, by omega, by omega, by omega, by omega, Nat.mod_lt _ hb0⟩

/-- What Collins's condition decides. -/
theorem lm_sure {X Y A L K a b x0 x1 x2 y0 y1 y2 : Nat} {odd : Bool} (h : Lm X Y A L a b x0 x1 x2 y0 y1 y2 odd) (hX : A * K ≤ X ∧ X < A * K + K) (hY : L * K ≤ Y ∧ Y < L * K + K) (hb : y2 ≤ b) (hab : y1 + y2 ≤ a - b) :
    0 ≤ sg odd * ((y2 : Int) * Y - x2 * X) ∧ sg odd * ((y2 : Int) * Y - x2 * X) < sg odd * ((x1 : Int) * X - y1 * Y) := by
  obtain ⟨al, rfl⟩ : ∃ al, X = A * K + al := ⟨X - A * K, by omega⟩
  obtain ⟨be, rfl⟩ : ∃ be, Y = L * K + be := ⟨Y - L * K, by omega⟩
  have hal : al < K := by omega
  have hbe : be < K := by omega
  obtain ⟨i1, i2, i3, i4, i5, i6, i7, -, -, -⟩ := h
  have i1' : (y2 : Int) * a + y1 * b = A := by exact_mod_cast i1
  have i2' : (x2 : Int) * a + x1 * b = L := by exact_mod_cast i2
  have ss := sg_sq odd
  have ea : sg odd * ((x1 : Int) * A - y1 * L) = a := by
    rw [← i1', ← i2']
    have : sg odd * ((x1 : Int) * (y2 * a + y1 * b) - y1 * (x2 * a + x1 * b)) = sg odd * ((x1 : Int) * y2 - x2 * y1) * a := by grind
    rw [this, i3, ss]; omega
  have eb : sg odd * ((y2 : Int) * L - x2 * A) = b := by
    rw [← i1', ← i2']
    have : sg odd * ((y2 : Int) * (x2 * a + x1 * b) - x2 * (y2 * a + y1 * b)) = sg odd * ((x1 : Int) * y2 - x2 * y1) * b := by grind
    rw [this, i3, ss]; omega
  push_cast
  have f1 : sg odd * ((y2 : Int) * (L * K + be) - x2 * (A * K + al)) = b * K + sg odd * (y2 * be - x2 * al) := by rw [← eb]; grind
  have f2 : sg odd * ((x1 : Int) * (A * K + al) - y1 * (L * K + be)) = a * K + sg odd * (x1 * al - y1 * be) := by rw [← ea]; grind
  rw [f1, f2]
  -- bounds of the products
  have p1 : x2 * al ≤ y2 * al := Nat.mul_le_mul_right _ i5
  have p2 : y2 * al < y2 * K := Nat.mul_lt_mul_of_pos_left hal i6
  have p3 : y2 * be < y2 * K := Nat.mul_lt_mul_of_pos_left hbe i6
  have p4 : y2 * K ≤ b * K := Nat.mul_le_mul_right _ hb
  have p5 : (x1 + x2) * al ≤ (y1 + y2) * al := Nat.mul_le_mul_right _ i4
  have p6 : (y1 + y2) * al < (y1 + y2) * K := Nat.mul_lt_mul_of_pos_left hal (by omega)
  have p7 : (y1 + y2) * be < (y1 + y2) * K := Nat.mul_lt_mul_of_pos_left hbe (by omega)
  have p8 : (b + (y1 + y2)) * K ≤ a * K := Nat.mul_le_mul_right _ (by omega)
  rw [Nat.add_mul] at p5 p6 p7 p8
  rw [Nat.add_mul] at p5 p6 p7 p8
  have c1 : (x2 : Int) * al = ((x2 * al : Nat) : Int) := by simp
  have c2 : (y2 : Int) * be = ((y2 * be : Nat) : Int) := by simp
  have c3 : (x1 : Int) * al = ((x1 * al : Nat) : Int) := by simp
  have c4 : (y1 : Int) * be = ((y1 * be : Nat) : Int) := by simp
  have c5 : (a : Int) * K = ((a * K : Nat) : Int) := by simp
  have c6 : (b : Int) * K = ((b * K : Nat) : Int) := by simp
  rw [c1, c2, c3, c4, c5, c6]
  cases odd
  · simp only [sg, Bool.false_eq_true, if_false]
    omega
  · simp only [sg, if_true]
    omega

theorem Lm.step {X Y A L K a b x0 x1 x2 y0 y1 y2 : Nat} {odd : Bool} (h : Lm X Y A L a b x0 x1 x2 y0 y1 y2 odd) (hX : A * K ≤ X ∧ X < A * K + K) (hY : L * K ≤ Y ∧ Y < L * K + K) (hb : y2 ≤ b) (hab : y1 + y2 ≤ a - b) :
    Lm X Y A L b (a % b) x1 x2 (x1 + a / b * x2) y1 y2 (y1 + a / b * y2) (!odd) := by
  have hs := lm_sure h hX hY hb hab
  obtain ⟨i1, i2, i3, i4, i5, i6, i7, i9, i10, i11⟩ := h
  have hb0 : 0 < b := by omega
  have hd := Nat.div_add_mod a b
  have hm := Nat.mod_lt a hb0
  have hq : 1 ≤ a / b := Nat.div_pos i7 hb0
  obtain ⟨q, hq'⟩ : ∃ q, a / b = q + 1 := ⟨a / b - 1, by omega⟩
  rw [hq'] at hd ⊢
  generalize a % b = r at *
  have e1 : ((y2 : Int) * Y - x2 * X) = - ((x2 : Int) * X - y2 * Y) := by omega
  have i5q : q * x2 ≤ q * y2 := Nat.mul_le_mul_left _ i5
  have i6q : 1 ≤ y1 + (q + 1) * y2 := by rw [Nat.add_mul]; omega
  refine ⟨?_, ?_, ?_, ?_, ?_, i6q, by omega, fun h => by omega, fun _ => ?_, fun h0 => ?_⟩
  · rw [← i1, ← hd]; grind
  · rw [← i2, ← hd]; grind
  · rw [sg_not, ← i3]; push_cast; grind
  · rw [Nat.add_mul, Nat.add_mul]; omega
  · rw [Nat.add_mul, Nat.add_mul]; omega
  · rw [sg_not]
    have e2 : - sg odd * ((x2 : Int) * X - y2 * Y) = sg odd * ((y2 : Int) * Y - x2 * X) := by grind
    rw [e2]
    by_cases h1 : y1 = 0
    · obtain ⟨-, rfl, rfl, rfl, -⟩ := i9 h1
      simp [sg]
    · have := i10 h1
      omega
  · rw [sg_not]
    have e2 : - sg odd * ((x2 : Int) * X - y2 * Y) = sg odd * ((y2 : Int) * Y - x2 * X) := by grind
    have e3 : - sg odd * ((y1 : Int) * Y - x1 * X) = sg odd * ((x1 : Int) * X - y1 * Y) := by grind
    rw [e2, e3]
    exact ⟨hs.1, hs.2, i10 h0, by rw [i3]; omega⟩

/-- What certain steps lead to: two numbers with the same greatest common divisor. -/
theorem lehmer_gcd {X Y x0 y0 x1 y1 R0 R1 : Nat} {s : Int} (hs : s * s = 1) (h0 : (R0 : Int) = s * ((y0 : Int) * Y - x0 * X)) (h1 : (R1 : Int) = s * ((x1 : Int) * X - y1 * Y)) (hd : (x0 : Int) * y1 - x1 * y0 = - s) : Nat.gcd R0 R1 = Nat.gcd X Y := by
  have eX : (X : Int) = y1 * R0 + y0 * R1 := by
    rw [h0, h1]
    have : (y1 : Int) * (s * ((y0 : Int) * Y - x0 * X)) + y0 * (s * ((x1 : Int) * X - y1 * Y)) = - (s * ((x0 : Int) * y1 - x1 * y0)) * X := by grind
    rw [this, hd]
    have : -(s * -s) = s * s := by grind
    rw [this, hs]; omega
  have eY : (Y : Int) = x1 * R0 + x0 * R1 := by
    rw [h0, h1]
    have : (x1 : Int) * (s * ((y0 : Int) * Y - x0 * X)) + x0 * (s * ((x1 : Int) * X - y1 * Y)) = - (s * ((x0 : Int) * y1 - x1 * y0)) * Y := by grind
    rw [this, hd]
    have : -(s * -s) = s * s := by grind
    rw [this, hs]; omega
  have nX : X = y1 * R0 + y0 * R1 := by exact_mod_cast eX
  have nY : Y = x1 * R0 + x0 * R1 := by exact_mod_cast eY
  apply Nat.dvd_antisymm
  · apply Nat.dvd_gcd
    · conv => rhs; rw [nX]
      exact Nat.dvd_add (Nat.dvd_trans (Nat.gcd_dvd_left _ _) (Nat.dvd_mul_left _ _)) (Nat.dvd_trans (Nat.gcd_dvd_right _ _) (Nat.dvd_mul_left _ _))
    · conv => rhs; rw [nY]
      exact Nat.dvd_add (Nat.dvd_trans (Nat.gcd_dvd_left _ _) (Nat.dvd_mul_left _ _)) (Nat.dvd_trans (Nat.gcd_dvd_right _ _) (Nat.dvd_mul_left _ _))
  · have dX : ((Nat.gcd X Y : Nat) : Int) ∣ (X : Int) := by exact_mod_cast Nat.gcd_dvd_left X Y
    have dY : ((Nat.gcd X Y : Nat) : Int) ∣ (Y : Int) := by exact_mod_cast Nat.gcd_dvd_right X Y
    apply Nat.dvd_gcd
    · have : ((Nat.gcd X Y : Nat) : Int) ∣ (R0 : Int) := by
        rw [h0]
        exact Int.dvd_trans (Int.dvd_sub (Int.dvd_trans dY (Int.dvd_mul_left _ _)) (Int.dvd_trans dX (Int.dvd_mul_left _ _))) (Int.dvd_mul_left _ _)
      exact_mod_cast this
    · have : ((Nat.gcd X Y : Nat) : Int) ∣ (R1 : Int) := by
        rw [h1]
        exact Int.dvd_trans (Int.dvd_sub (Int.dvd_trans dX (Int.dvd_mul_left _ _)) (Int.dvd_trans dY (Int.dvd_mul_left _ _))) (Int.dvd_mul_left _ _)
      exact_mod_cast this

/-! The greatest common divisor of two words, by halves. -/

theorem gcd_odd_two {a : Nat} (ha : a % 2 = 1) (b k : Nat) : Nat.gcd a (b * 2 ^ k) = Nat.gcd a b := by
  have h2 : Nat.Coprime a (2 ^ k) := by
    apply Nat.Coprime.pow_right
    rw [Nat.Coprime, Nat.gcd_comm, Nat.gcd_rec, ha]
    rfl
  rw [Nat.mul_comm]
  exact Nat.Coprime.gcd_mul_left_cancel_right b h2.symm

theorem gcd_twos {A B a b j k : Nat} (hA : A = a * 2 ^ j) (hB : B = b * 2 ^ k) (ha : a % 2 = 1) (hb : b % 2 = 1) : Nat.gcd A B = Nat.gcd a b * 2 ^ min j k := by
  subst hA hB
  rcases Nat.le_total j k with h | h
  · rw [Nat.min_eq_left h]
    obtain ⟨m, rfl⟩ : ∃ m, k = j + m := ⟨k - j, by omega⟩
    rw [Nat.pow_add, Nat.mul_comm (2 ^ j), ← Nat.mul_assoc, Nat.gcd_mul_right, gcd_odd_two ha]
  · rw [Nat.min_eq_right h]
    obtain ⟨m, rfl⟩ : ∃ m, j = k + m := ⟨j - k, by omega⟩
    rw [Nat.pow_add, Nat.mul_comm (2 ^ k), ← Nat.mul_assoc, Nat.gcd_mul_right, Nat.gcd_comm, gcd_odd_two hb, Nat.gcd_comm]

theorem gcd_sub_odd {a b : Nat} (h : a ≤ b) : Nat.gcd a (b - a) = Nat.gcd a b := by
  rw [Nat.gcd_sub_self_right h]
end Go.Proofs.YtahehlajpaoiiaaGreatDoor
