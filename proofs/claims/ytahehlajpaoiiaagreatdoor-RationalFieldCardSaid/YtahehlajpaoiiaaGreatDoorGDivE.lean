import Derived.Test.YtahehlajpaoiiaaGreatDoorGDivA

/-
  The program's quotient of digits by a word.
-/
namespace Go.Proofs.YtahehlajpaoiiaaGreatDoor
open Go.RowKit
attribute [local go_sem ↓] Go.wp_at_zero Go.wp_at_succ

/-- A step of a division by a word, at place j. -/
theorem dw_step {b X d j : Nat} (hb : 0 < b) (hd : 0 < d) : (X / b ^ (j + 1) % d * b + D b X j) / d = D b (X / d) j ∧ (X / b ^ (j + 1) % d * b + D b X j) % d = X / b ^ j % d := by
  have hx := div_D b X j
  have hD := D_lt hb X j
  have hl := Nat.mod_lt (X / b ^ (j + 1)) hd
  have hz := Nat.div_add_mod (X / b ^ (j + 1)) d
  have e1 : X / d / b ^ j = X / b ^ j / d := by rw [Nat.div_div_eq_div_mul, Nat.div_div_eq_div_mul, Nat.mul_comm]
  unfold D at hx hD ⊢
  rw [e1]
  generalize X / b ^ (j + 1) = Z at *
  generalize X / b ^ j % b = x at *
  have e2 : X / b ^ j = d * (b * (Z / d)) + (Z % d * b + x) := by
    rw [hx]
    have : b * Z = b * (d * (Z / d) + Z % d) := by rw [hz]
    rw [this, Nat.mul_add, Nat.mul_left_comm, Nat.mul_comm (Z % d) b]
    omega
  have hq : (Z % d * b + x) / d < b := by
    rw [Nat.div_lt_iff_lt_mul hd]
    have : (Z % d + 1) * b ≤ d * b := Nat.mul_le_mul_right _ hl
    rw [Nat.add_mul, Nat.mul_comm d b] at this
    omega
  constructor
  · rw [e2, Nat.mul_add_div hd, Nat.mul_add_mod, Nat.mod_eq_of_lt hq]
  · rw [e2, Nat.mul_add_mod]

/-- A call that hands back digits without zeros at the end in new memory, and a word. -/
def RetDW (w : World) (Q N R : Nat) (e : Ending) (w' : World) : Prop :=
  ∃ A n c, n ≤ N ∧ e = .returned (.tuple #[.slice A n c, .int .u64 (R : Int)]) ∧ Nm w' A n c Q ∧ Below w.heap.size w w' ∧ ∀ k, Value.ownBlock (.slice A n c) = some k → w.heap.size ≤ k

theorem Lies.of_made (w : World) (n : Nat) : Lies (w.alloc (.cells (madeCells #[.int .u64 0] n) 106)) w.heap.size n (fun _ => 0) :=
  ⟨_, _, heap_one _ _, by simp [madeCells], fun i hi => by simp [madeCells, hi, Nat.mod_one]⟩

theorem Lies.below {w w' : World} {g n B : Nat} {f : Nat → Nat} (h : Lies w g n f) (hb : Below B w w') (hg : g < B) : Lies w' g n f := h.of_block (hb.block g hg)

set_option maxHeartbeats 2000000 in
set_option maxRecDepth 100000 in
theorem divideWord_any (A : Option Addr) (n c X d : Nat) (w : World) (hn : n ≤ 1000000000) (hd : 0 < d) (hd2 : d < 18446744073709551616) (hx : Ng w A n c X) :
    Calls Tryz.prog 120 #[.slice A n c, .int .u64 (d : Int)] w (RetDW w (X / d) n (X % d)) := by
  have hmk := fun W => run_make_row' (P := Tryz.prog) 114 106 (.int .u64 0) 8 Tryz.underlying114 natInfo rfl .i64 .i64 n (by omega) (by omega) W
  have HX := Lib.hid hx
  clear hx
  go_enter Tryz.func120, Tryz.ntmps120
  go_wp2
  go_loopw [5, 6] (fun r i wr => ∃ k : Nat, k ≤ n ∧ i = .int .i64 ((k : Int) - 1) ∧ r = .int .u64 ((X / B64 ^ k % d : Nat) : Int) ∧ Lies wr w.heap.size n (fun j => if k ≤ j then D B64 (X / d) j else 0) ∧ Below w.heap.size w wr) (fun _ i _ => (intOf i + 1).toNat)
  case atStart =>
    refine ⟨n, Nat.le_refl _, rfl, ?_, (Lies.of_made w n).congr fun i hi => by rw [if_neg (by omega)], (Below.refl _ _).alloc (Nat.le_refl _) _⟩
    rw [Nat.div_eq_of_lt HX.out.lt]
    simp
  case round =>
    obtain ⟨k, hk, rfl, rfl, hlies, hbl⟩ := hrel
    rcases k with _ | j
    · have e : (((0 : Nat) : Int) - 1) = -1 := rfl
      rw [e]
      clear e
      have hng : Ng wr (some ⟨w.heap.size, 0, none⟩) n n (X / d) := ⟨Nat.lt_of_le_of_lt (Nat.div_le_self _ _) HX.out.lt, Nat.le_refl _, (hlies.congr fun i _ => by rw [if_pos (Nat.zero_le _)]).rd⟩
      have hr0 : X / B64 ^ 0 % d = X % d := by rw [Nat.pow_zero, Nat.div_one]
      rw [hr0]
      have HNG := Lib.hid hng
      have HBL := Lib.hid hbl
      clear hng hlies hbl hr0
      generalize X % d = R at *
      go_wp2_with fail
      refine (trim_any _ n n (X / d) _ (by omega) HNG.out).mono ?_
      rintro e w' ⟨q, hq, rfl, hnm, rfl⟩
      have HNM := Lib.hid hnm
      clear hnm
      go_wp2
      go_ret2
      exact ⟨_, q, n, hq, rfl, HNM.out, HBL.out, fun z hz => by simp [Value.ownBlock] at hz; omega⟩
    · have e : (((j + 1 : Nat) : Int) - 1) = (j : Int) := by omega
      rw [e]
      clear e
      obtain ⟨gx, ox, hA, hgx, hcx⟩ := (HX.out.rd.below hbl) (by omega)
      have hgx2 : gx < w.heap.size := by
        obtain ⟨g2, o2, hA2, hg2, _⟩ := HX.out.rd (by omega)
        rw [hA] at hA2
        injection hA2 with h
        injection h with h1 h2
        omega
      subst hA
      have hxj := hcx j (by omega)
      have hcell := hlies.cell (i := j) (by omega)
      have hfro := hlies.frozen j
      obtain ⟨s1, s2⟩ := dw_step (b := B64) (X := X) (d := d) (j := j) B64_pos hd
      have hrl := Nat.mod_lt (X / B64 ^ (j + 1)) hd
      have hdx := D64_lt X j
      have hdv := fun W => div64_any (X / B64 ^ (j + 1) % d) (D B64 X j) d hd2 hdx hrl W
      rw [← B64_eq, s1, s2] at hdv
      have HDV := Lib.hid hdv
      have HLI := Lib.hid hlies
      have HBL := Lib.hid hbl
      have hj0 : (0 : Int) ≤ (j : Int) := by omega
      have hj1 : (j : Int) < (n : Int) := by omega
      clear hcx s1 s2 hdv hlies hbl
      generalize X / B64 ^ (j + 1) % d = hi at *
      generalize D B64 X j = lo at *
      obtain ⟨Z, hZ⟩ : ∃ Z, D B64 (X / d) j = Z := ⟨_, rfl⟩
      rw [hZ] at HDV
      have HZ := Lib.hid hZ
      clear hZ
      go_wp2_with fail
      refine (HDV.out _).mono ?_
      rintro e w' ⟨rfl, qn, rfl⟩
      go_wp2
      go_roundw
      case rel =>
        refine ⟨j, by omega, by go_num, rfl, (Lies.set (w := wr.drewN qn) HLI.out j Z).congr fun i hi => ?_, (below_draws HBL.out qn).setCell (Nat.le_refl _) _⟩
        by_cases e : i = j
        · rw [if_pos e, if_pos (by omega), ← HZ.out, e]
        · rw [if_neg e]
          by_cases e2 : j + 1 ≤ i
          · rw [if_pos e2, if_pos (by omega)]
          · rw [if_neg e2, if_neg (by omega)]
      case measure => simp [intOf] <;> omega
end Go.Proofs.YtahehlajpaoiiaaGreatDoor


/-
  Plain numbers of a long division: the guess of a digit, and what a step leaves. Nothing of the program stands here.
-/
namespace Go.Proofs.YtahehlajpaoiiaaGreatDoor

/-- The guess out of three leading digits and two of the divisor: it is at most one too great. -/
theorem knuth {b P z zl y yl : Nat} (hb : 2 ≤ b) (hP : 0 < P) (hzl : zl < P) (hyl : yl < P) (hy : b * b ≤ 2 * y) (hW : z * P + zl < (y * P + yl) * b) :
    (z * P + zl) / (y * P + yl) ≤ z / y ∧ z / y ≤ (z * P + zl) / (y * P + yl) + 1 ∧ (z * P + zl) / (y * P + yl) < b := by
  have hy0 : 0 < y := by
    rcases Nat.eq_zero_or_pos y with h | h
    · subst h
      have : 2 * 2 ≤ b * b := Nat.mul_le_mul hb hb
      omega
    · exact h
  have hY : 0 < y * P + yl := Nat.lt_of_lt_of_le (Nat.mul_pos hy0 hP) (Nat.le_add_right _ _)
  have hqb : (z * P + zl) / (y * P + yl) < b := by
    rw [Nat.div_lt_iff_lt_mul hY, Nat.mul_comm b]
    exact hW
  have h1 := Nat.div_mul_le_self (z * P + zl) (y * P + yl)
  have h2 := Nat.lt_div_mul_add hY (a := z * P + zl)
  generalize (z * P + zl) / (y * P + yl) = q at *
  refine ⟨?_, ?_, hqb⟩
  · rw [Nat.le_div_iff_mul_le hy0]
    rcases Nat.lt_or_ge z (q * y) with h | h
    · have h3 : (z + 1) * P ≤ q * y * P := Nat.mul_le_mul_right _ h
      rw [Nat.add_mul] at h3
      rw [Nat.mul_add, ← Nat.mul_assoc] at h1
      omega
    · exact h
  · rcases Nat.lt_or_ge (q + 1) (z / y) with h | h
    · exfalso
      have h4 : (q + 2) * y ≤ z := Nat.le_trans (Nat.mul_le_mul_right _ h) (Nat.div_mul_le_self z y)
      have h5 : (q + 2) * y * P ≤ z * P := Nat.mul_le_mul_right _ h4
      have h6 : (q + 1) * yl < (q + 1) * P := Nat.mul_lt_mul_of_pos_left hyl (by omega)
      have e1 : (q + 2) * y * P = (q + 1) * (y * P) + y * P := by rw [show q + 2 = q + 1 + 1 by omega, Nat.add_mul, Nat.one_mul, Nat.add_mul, Nat.mul_assoc]
      have e2 : q * (y * P + yl) + (y * P + yl) = (q + 1) * (y * P) + (q + 1) * yl := by rw [← Nat.succ_mul, Nat.mul_add]
      have h7 : y * P < (q + 1) * P := by omega
      have h8 : y < q + 1 := Nat.lt_of_mul_lt_mul_right h7
      have h9 : 2 * b ≤ b * b := Nat.mul_le_mul_right _ hb
      omega
    · exact h

/-- Where the leading digit is not less than the divisor's, the guess is the greatest digit. -/
theorem knuth_top {b P r2 rl v1 vl : Nat} (hb : 2 ≤ b) (hP : 0 < P) (hv : b ≤ 2 * v1) (hvl : vl < P) (hge : v1 ≤ r2) (hW : r2 * (P * b) + rl < (v1 * P + vl) * b) :
    (r2 * (P * b) + rl) / (v1 * P + vl) ≤ b - 1 ∧ b - 1 ≤ (r2 * (P * b) + rl) / (v1 * P + vl) + 1 := by
  have hY : 0 < v1 * P + vl := Nat.lt_of_lt_of_le (Nat.mul_pos (by omega) hP) (Nat.le_add_right _ _)
  constructor
  · have : (r2 * (P * b) + rl) / (v1 * P + vl) < b := by
      rw [Nat.div_lt_iff_lt_mul hY, Nat.mul_comm b]
      exact hW
    omega
  · have : b - 2 ≤ (r2 * (P * b) + rl) / (v1 * P + vl) := by
      rw [Nat.le_div_iff_mul_le hY]
      obtain ⟨c, rfl⟩ : ∃ c, b = c + 2 := ⟨b - 2, by omega⟩
      rw [Nat.add_sub_cancel]
      have h1 : v1 * (P * (c + 2)) ≤ r2 * (P * (c + 2)) := Nat.mul_le_mul_right _ hge
      have h2 : c * vl ≤ c * P := Nat.mul_le_mul_left _ (by omega)
      have h3 : c * P ≤ 2 * v1 * P := Nat.mul_le_mul_right _ (by omega)
      have e1 : v1 * (P * (c + 2)) = c * (v1 * P) + 2 * v1 * P := by
        rw [Nat.mul_add, Nat.mul_add]
        have a1 : v1 * (P * c) = c * (v1 * P) := by ac_rfl
        have a2 : v1 * (P * 2) = 2 * v1 * P := by ac_rfl
        rw [a1, a2]
      rw [Nat.mul_add]
      omega
    omega

/-- What a digit that is right leaves, and one that is one too great. -/
theorem digit_right {W Y q c t N Bn : Nat} (hY : Y ≤ Bn) (hq : W / Y = q) (h0 : 0 < Y) (hN : N < Bn) (h : W + c * Bn = N + q * Y + t * Bn) : c = t ∧ N = W % Y := by
  have h1 := Nat.div_add_mod W Y
  have h2 := Nat.mod_lt W h0
  rw [hq, Nat.mul_comm] at h1
  have hc : c = t := by
    rcases Nat.lt_trichotomy c t with h3 | h3 | h3
    · have : (c + 1) * Bn ≤ t * Bn := Nat.mul_le_mul_right _ h3
      rw [Nat.add_mul] at this
      omega
    · exact h3
    · have : (t + 1) * Bn ≤ c * Bn := Nat.mul_le_mul_right _ h3
      rw [Nat.add_mul] at this
      omega
  subst hc
  exact ⟨rfl, by omega⟩

theorem digit_wrong {W Y q c t N Bn : Nat} (hY : Y ≤ Bn) (hq : W / Y + 1 = q) (h0 : 0 < Y) (hN : N < Bn) (h : W + c * Bn = N + q * Y + t * Bn) : c = t + 1 ∧ N + Y = W % Y + Bn := by
  have h1 := Nat.div_add_mod W Y
  have h2 := Nat.mod_lt W h0
  rw [Nat.mul_comm] at h1
  have e : q * Y = W / Y * Y + Y := by rw [← hq, Nat.add_mul, Nat.one_mul]
  have hc : c = t + 1 := by
    rcases Nat.lt_trichotomy c (t + 1) with h3 | h3 | h3
    · have : c * Bn ≤ t * Bn := Nat.mul_le_mul_right _ (by omega)
      omega
    · exact h3
    · have : (t + 2) * Bn ≤ c * Bn := Nat.mul_le_mul_right _ (by omega)
      rw [Nat.add_mul] at this
      omega
  subst hc
  rw [Nat.add_mul] at h
  exact ⟨rfl, by omega⟩
end Go.Proofs.YtahehlajpaoiiaaGreatDoor


/-
  The program's multiples of digits, subtracted from others in place.
-/
namespace Go.Proofs.YtahehlajpaoiiaaGreatDoor
open Go.RowKit
attribute [local go_sem ↓] Go.wp_at_zero Go.wp_at_succ

/-- What R lacks of the greatest number of m digits. -/
def cpl (R m : Nat) : Nat := B64 ^ m - 1 - R

theorem cpl_lt {R m : Nat} : cpl R m < B64 ^ m := by
  have : 0 < B64 ^ m := Nat.pow_pos B64_pos
  unfold cpl; omega

theorem cpl_digit {R m : Nat} : ∀ k, k < m → R < B64 ^ m → D B64 (cpl R m) k = B64 - 1 - D B64 R k := by
  have key : ∀ m R, R < B64 ^ m → val B64 (fun k => B64 - 1 - D B64 R k) m = cpl R m := by
    intro m
    induction m with
    | zero => intro R hR; simp [val, cpl]
    | succ m ih =>
      intro R hR
      have hp : 0 < B64 ^ m := Nat.pow_pos B64_pos
      have hl := D_lt B64_pos R m
      have hm := Nat.mod_lt R hp
      have e : val B64 (fun k => B64 - 1 - D B64 R k) m = val B64 (fun k => B64 - 1 - D B64 (R % B64 ^ m) k) m := by
        refine val_congr fun i hi => ?_
        have h1 := Nat.div_add_mod R (B64 ^ m)
        have h2 := D_low (P := R % B64 ^ m) (Z := R / B64 ^ m) B64_pos hi
        have e3 : R % B64 ^ m + B64 ^ m * (R / B64 ^ m) = R := by omega
        rw [e3] at h2
        rw [h2]
      rw [val_succ, e, ih _ hm]
      have hd : R = R % B64 ^ m + B64 ^ m * D B64 R m := by
        have := mod_succ B64 R m
        rw [Nat.mod_eq_of_lt hR] at this
        exact this
      have hmul : (B64 - 1 - D B64 R m) * B64 ^ m = B64 ^ (m + 1) - B64 ^ m - B64 ^ m * D B64 R m := by
        rw [Nat.sub_mul, Nat.sub_mul, Nat.one_mul, Nat.pow_succ, Nat.mul_comm B64, Nat.mul_comm (D B64 R m)]
      have hle : B64 ^ m * D B64 R m + B64 ^ m ≤ B64 ^ (m + 1) := by
        rw [Nat.pow_succ]
        have := Nat.mul_le_mul_left (B64 ^ m) hl
        rw [Nat.mul_succ] at this
        exact this
      unfold cpl
      rw [hmul]
      omega
  intro k hk hR
  have h := D_of (b := B64) (f := fun k => B64 - 1 - D B64 R k) (n := m) B64_pos (fun i _ => by have := B64_pos; show B64 - 1 - D B64 R i < B64; omega) (key m R hR)
  exact (h.2 k hk).symm

/-- A digit of what is left so far: the first k are done. -/
def sbF (f : Nat → Nat) (o U fac X k j : Nat) : Nat := if o ≤ j ∧ j < o + k then B64 - 1 - D B64 (U + fac * X) (j - o) else f j

/-- One step: the product of two words and a carry, taken from a word. -/
theorem take_words (x f r c : Nat) (hx : x < 18446744073709551616) (hf : f < 18446744073709551616) (hr : r < 18446744073709551616) (hc : c < 18446744073709551616) :
    (x * f % 18446744073709551616 + c) / 18446744073709551616 ≤ 1 ∧
    x * f / 18446744073709551616 + (x * f % 18446744073709551616 + c) / 18446744073709551616 < 18446744073709551616 ∧
    x * f / 18446744073709551616 + (x * f % 18446744073709551616 + c) / 18446744073709551616 + (if r < (x * f % 18446744073709551616 + c) % 18446744073709551616 + 0 then 1 else 0) = (18446744073709551615 - r + x * f + c) / 18446744073709551616 ∧
    (r + 18446744073709551616 - (x * f % 18446744073709551616 + c) % 18446744073709551616 - 0) % 18446744073709551616 = 18446744073709551615 - (18446744073709551615 - r + x * f + c) % 18446744073709551616 := by
  have h1 : x * f ≤ 18446744073709551615 * 18446744073709551615 := Nat.mul_le_mul (by omega) (by omega)
  generalize x * f = p at *
  refine ⟨by omega, by omega, ?_, by omega⟩
  split <;> omega

theorem sub64_0 (x y d o : Nat) (hd : (x + 18446744073709551616 - y - 0) % 18446744073709551616 = d) (ho : (if x < y + 0 then 1 else 0) = o) (w : World) :
    (callFunc 140 #[.int .u64 (x : Int), .int .u64 (y : Int), .int .u64 0]).run Tryz.prog w = .ok (.value (.tuple #[.int .u64 (d : Int), .int .u64 (o : Int)])) w :=
  sub64_fn x y 0 (by omega) w d o hd ho

set_option maxHeartbeats 2000000 in
set_option maxRecDepth 100000 in
theorem subtractMultiple_any (g o N n c : Nat) (f : Nat → Nat) (A : Option Addr) (m cx R X fac : Nat) (w : World) (hN : o + m ≤ N) (hn : n = m) (hc : n ≤ c) (hm : m ≤ 1000000000) (hL : Lies w g N f) (hR : ∀ i, i < m → f (o + i) = D B64 R i) (hRl : R < B64 ^ m)
    (hX : Rd w .u64 A m (D B64 X)) (hne : 0 < m → ∀ a, A = some a → a.block ≠ g) (hf : fac < 18446744073709551616) :
    Calls Tryz.prog 156 #[.slice (some ⟨g, o, none⟩) n c, .slice A m cx, .int .u64 (fac : Int)] w (RetAM w g N (sbF f o (cpl R m) fac X m) (car B64 (cpl R m) fac X m)) := by
  subst hn
  have hcd := fun k (hk : k < n) => cpl_digit (R := R) (m := n) k hk hRl
  generalize cpl R n = U at *
  have HCD := Lib.hid hcd
  have HX := Lib.hid hX
  have HN := Lib.hid hne
  have HRR := Lib.hid hR
  have HL := Lib.hid hL
  clear hX hne hR hL hcd hRl
  go_enter Tryz.func156, Tryz.ntmps156
  go_wp2
  go_loopw [7, 14] (fun cy i wr => ∃ k : Nat, k ≤ n ∧ i = .int .i64 k ∧ cy = .int .u64 (car B64 U fac X k : Nat) ∧ Lies wr g N (sbF f o U fac X k) ∧ w.grownBy wr (some g)) (fun _ i _ => n - (intOf i).toNat)
  case atStart =>
    refine ⟨0, Nat.zero_le _, rfl, by rw [car_zero]; rfl, HL.out.congr fun i hi => ?_, World.grownBy.refl _ _⟩
    unfold sbF
    rw [if_neg (by omega)]
  case round =>
    obtain ⟨k, hk, rfl, rfl, hlies, hg⟩ := hrel
    by_cases hlt : k < n
    · have hxr := (HX.out.grown hg (fun q hq a ha => by injection hq with hq; subst hq; exact HN.out (by omega) a ha))
      obtain ⟨gx, ox, hA, hgx, hcx⟩ := hxr (by omega)
      have hne2 : gx ≠ g := HN.out (by omega) _ hA
      subst hA
      have hxk := hcx k hlt
      have hcell := hlies.cell (i := o + k) (by omega)
      have hfro := hlies.frozen (o + k)
      have hval : sbF f o U fac X k (o + k) = D B64 R k := by unfold sbF; rw [if_neg (by omega), HRR.out k hlt]
      rw [hval] at hcell
      clear hval hxr hcx
      have hdx := D64_lt X k
      have hdr := D64_lt R k
      have hcl := car_lt B64_pos (x := fac) (by rw [B64_eq]; exact hf) U X k
      obtain ⟨hs1, hs2⟩ := car_step B64_pos U fac X k
      rw [HCD.out k hlt] at hs1 hs2
      obtain ⟨t1, t2, t3, t4⟩ := take_words (D B64 X k) fac (D B64 R k) (car B64 U fac X k) hdx hf hdr (by omega)
      have hlo1 : D B64 X k * fac % 18446744073709551616 < 18446744073709551616 := Nat.mod_lt _ (by omega)
      obtain ⟨hi, hhi⟩ : ∃ v, D B64 X k * fac / 18446744073709551616 = v := ⟨_, rfl⟩
      obtain ⟨lo, hlo⟩ : ∃ v, D B64 X k * fac % 18446744073709551616 = v := ⟨_, rfl⟩
      rw [hhi, hlo] at t2 t3
      rw [hlo] at t1 t4 hlo1
      obtain ⟨s1, hs1'⟩ : ∃ v, (lo + car B64 U fac X k) % 18446744073709551616 = v := ⟨_, rfl⟩
      obtain ⟨o1, ho1⟩ : ∃ v, (lo + car B64 U fac X k) / 18446744073709551616 = v := ⟨_, rfl⟩
      rw [ho1] at t1 t2 t3
      rw [hs1'] at t3 t4
      obtain ⟨s2, hs2'⟩ : ∃ v, (D B64 R k + 18446744073709551616 - s1 - 0) % 18446744073709551616 = v := ⟨_, rfl⟩
      obtain ⟨o2, ho2⟩ : ∃ v, (if D B64 R k < s1 + 0 then 1 else 0) = v := ⟨_, rfl⟩
      rw [ho2] at t3
      rw [hs2'] at t4
      have hm64 := fun W => mul64_any (D B64 X k) fac hdx hf hi lo hhi hlo W
      have ha1 := add64_0 lo (car B64 U fac X k) s1 o1 hs1' ho1
      have ha2 := sub64_0 (D B64 R k) s1 s2 o2 hs2' ho2
      have hcar : hi + o1 + o2 = car B64 U fac X (k + 1) := by rw [t3, ← hs1, Nat.mul_comm fac]; rfl
      have hdig : s2 = B64 - 1 - D B64 (U + fac * X) k := by rw [t4, ← hs2, Nat.mul_comm fac]; rfl
      have hb2 : hi + o1 + o2 < 18446744073709551616 := by
        rw [hcar]
        have := car_lt B64_pos (x := fac) (by rw [B64_eq]; exact hf) U X (k + 1)
        omega
      have HM64 := Lib.hid hm64
      have HDIG := Lib.hid hdig
      have HCAR := Lib.hid hcar
      have HL2 := Lib.hid hlies
      have hk0 : (0 : Int) ≤ (k : Int) := by omega
      have hk1 : (k : Int) < (n : Int) := by omega
      clear t3 t4 hs1 hs2 hm64 hdig hcar hhi hlo hs1' ho1 hs2' ho2 hlies
      generalize car B64 U fac X k = cy at *
      generalize D B64 X k = xk at *
      generalize D B64 R k = rk at *
      go_wp2_with fail
      refine (HM64.out _).mono ?_
      rintro e w' ⟨rfl, rfl⟩
      go_wp2
      go_roundw
      case rel =>
        refine ⟨k + 1, by omega, by go_num, by rw [← HCAR.out]; go_num, (HL2.out.set (o + k) s2).congr fun j hj => ?_, grown_set hg _ _⟩
        unfold sbF
        by_cases e : j = o + k
        · rw [if_pos e, if_pos (by omega), e, Nat.add_sub_cancel_left, HDIG.out]
        · rw [if_neg e]
          by_cases e2 : o ≤ j ∧ j < o + k
          · rw [if_pos e2, if_pos (by omega)]
          · rw [if_neg e2, if_neg (by omega)]
      case measure => simp [intOf] <;> omega
    · obtain rfl : k = n := by omega
      go_wp2
      go_ret
      exact ⟨rfl, hlies, hg⟩
end Go.Proofs.YtahehlajpaoiiaaGreatDoor
