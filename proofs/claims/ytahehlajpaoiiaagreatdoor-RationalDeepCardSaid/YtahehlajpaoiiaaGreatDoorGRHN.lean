import Derived.Test.YtahehlajpaoiiaaGreatDoorGRHC
import Derived.Test.YtahehlajpaoiiaaGreatDoorGRCC
import Derived.Test.YtahehlajpaoiiaaGreatDoorGRGB

namespace Go.Proofs.YtahehlajpaoiiaaGreatDoor

def Ins (p q : Rat) (oa ob : Bool) (t : Rat) : Prop := (p < t ∨ (p = t ∧ oa = false)) ∧ (t < q ∨ (t = q ∧ ob = false))

theorem nat_num {q : Rat} (h : 0 ≤ q.num) : q.num = (q.num.natAbs : Int) := by omega
theorem lt_nat {p t : Rat} (hp : 0 ≤ p.num) (ht : 0 ≤ t.num) : p < t ↔ p.num.natAbs * t.den < t.num.natAbs * p.den := by
  rw [Rat.lt_iff, nat_num hp, nat_num ht, ← Int.natCast_mul, ← Int.natCast_mul, Int.ofNat_lt]
  simp only [Int.natAbs_natCast]
theorem eq_nat {p t : Rat} (hp : 0 ≤ p.num) (ht : 0 ≤ t.num) : p = t ↔ p.num.natAbs * t.den = t.num.natAbs * p.den := by
  rw [Rat.eq_iff_mul_eq_mul, nat_num hp, nat_num ht, ← Int.natCast_mul, ← Int.natCast_mul, Int.natCast_inj]
  simp only [Int.natAbs_natCast]
theorem ins_iff {p q t : Rat} (hp : 0 ≤ p.num) (hq : 0 ≤ q.num) (ht : 0 ≤ t.num) (oa ob : Bool) : Ins p q oa ob t ↔ Inn p.num.natAbs p.den oa q.num.natAbs q.den ob t.num.natAbs t.den := by
  unfold Ins Inn Abv Blw
  rw [lt_nat hp ht, eq_nat hp ht, lt_nat ht hq, eq_nat ht hq]
  exact ⟨fun h => ⟨t.den_pos, h⟩, fun h => h.2⟩
theorem num_nonneg_of_le {p t : Rat} (hp : 0 ≤ p.num) (h : p ≤ t) : 0 ≤ t.num := Rat.num_nonneg.2 (Rat.le_trans (Rat.num_nonneg.1 hp) h)
theorem ins_le {p q t : Rat} {oa ob : Bool} (h : Ins p q oa ob t) : p ≤ t := by
  rcases h.1 with h | ⟨h, _⟩
  · exact Rat.le_of_lt h
  · rw [h]; exact Rat.le_refl
theorem parts_of {n m : Nat} (hc : Nat.gcd n m = 1) (hm : 0 < m) : ∃ r : Rat, r.num = (n : Int) ∧ r.den = m := by
  refine ⟨mkRat (n : Int) m, ?_⟩
  obtain ⟨h1, h2⟩ := mkRat_parts (n : Int) (d := m) (by omega)
  rw [Int.natAbs_natCast, hc] at h1 h2
  exact ⟨by rw [h1]; simp, by rw [h2]; simp⟩
theorem simp_ins {p q : Rat} {oa ob : Bool} {n m : Nat} (hp : 0 ≤ p.num) (hne : p < q ∨ (p = q ∧ oa = false ∧ ob = false)) (h : Simp p.num.natAbs p.den oa q.num.natAbs q.den ob n m) :
    ∃ r : Rat, r.num = (n : Int) ∧ r.den = m ∧ Ins p q oa ob r ∧ (∀ t, Ins p q oa ob t → r.num.natAbs ≤ t.num.natAbs ∧ r.den ≤ t.den) ∧ r.num.natAbs ≤ p.num.natAbs + q.num.natAbs ∧ r.den ≤ p.den + q.den := by
  obtain ⟨r, h1, h2⟩ := parts_of h.cop h.inn.1
  have hpq : p ≤ q := by
    rcases hne with h | ⟨h, _⟩
    · exact Rat.le_of_lt h
    · rw [h]; exact Rat.le_refl
  have hq := num_nonneg_of_le hp hpq
  have hr : 0 ≤ r.num := by omega
  have hn : r.num.natAbs = n := by omega
  have hin := h.inn
  rw [← hn, ← h2] at hin
  have hcr : p.num.natAbs * q.den < q.num.natAbs * p.den ∨ (p.num.natAbs * q.den = q.num.natAbs * p.den ∧ oa = false ∧ ob = false) := by
    rw [← lt_nat hp hq, ← eq_nat hp hq]
    exact hne
  obtain ⟨x, y, h3, h4, h5⟩ := inn_some p.den_pos hcr
  have h6 := h.min x y h3
  refine ⟨r, h1, h2, (ins_iff hp hq hr oa ob).2 hin, fun t ht => ?_, by omega, by omega⟩
  have ht0 := num_nonneg_of_le hp (ins_le ht)
  have h7 := h.min _ _ ((ins_iff hp hq ht0 oa ob).1 ht)
  omega
theorem neg_lt2 {a b : Rat} : -a < -b ↔ b < a := ⟨fun h => by have := Rat.neg_lt_neg h; rwa [Rat.neg_neg, Rat.neg_neg] at this, Rat.neg_lt_neg⟩
theorem neg_inj2 {a b : Rat} : -a = -b ↔ b = a := ⟨fun h => by rw [← Rat.neg_neg a, h, Rat.neg_neg], fun h => by rw [h]⟩
theorem ins_neg {p q t : Rat} {oa ob : Bool} : Ins (-q) (-p) ob oa (-t) ↔ Ins p q oa ob t := by
  unfold Ins
  rw [neg_lt2, neg_lt2, neg_inj2, neg_inj2]
  exact And.comm
theorem sign_neg {q : Rat} : q.num.sign < 0 ↔ q < 0 := by
  rw [sign_cmp, ← Rat.not_le, ← cmpQ_ge]
  omega
theorem sign_pos {q : Rat} : 0 < q.num.sign ↔ 0 < q := by
  rw [sign_cmp, ← Rat.not_le, ← cmpQ_le]
  omega
theorem sign_zero {q : Rat} : q.num.sign = 0 ↔ q = 0 := by
  rw [sign_cmp]
  exact cmpQ_zero

theorem best_of {w w' : World} {p q : Rat} {oa ob : Bool} {e : Ending} (hne : p < q ∨ (p = q ∧ oa = false ∧ ob = false)) (h : RetSx w p q oa ob e w') :
    ∃ (r : Rat) (b : Bool) (m k : ByteArray), RetB w (.tuple #[.agg #[.bool b, .string m, .bool false, .string k], .int .i64 0]) e w' ∧ Rq r b m k ∧ Ins p q oa ob r ∧ (∀ t, Ins p q oa ob t → r.num.natAbs ≤ t.num.natAbs ∧ r.den ≤ t.den) ∧ r.num.natAbs ≤ p.num.natAbs + q.num.natAbs ∧ r.den ≤ p.den + q.den := by
  have hv : voidB (cmpQ p q) oa ob = false := by
    have hle : cmpQ p q ≤ 0 := cmpQ_le.2 (by
      rcases hne with h | ⟨h, _⟩
      · exact Rat.le_of_lt h
      · rw [h]; exact Rat.le_refl)
    unfold voidB
    rcases hne with h1 | ⟨h1, rfl, rfl⟩
    · have h2 : ¬ 0 ≤ cmpQ p q := fun h2 => Rat.not_le.2 h1 (cmpQ_ge.1 h2)
      simp
      omega
    · simp
      omega
  rcases h with ⟨h1, _⟩ | ⟨_, h8, hr⟩ | ⟨_, h8, hs, n, m, hr, hm⟩ | ⟨_, h8, hs, n, m, hr, hm⟩
  · rw [hv] at h1
    cases h1
  · refine ⟨0, false, ⟨#[]⟩, ⟨#[]⟩, hr, ⟨enc_zero, by rw [show (0 : Rat).den = 1 from rfl, dm_one]⟩, ?_, fun t _ => ⟨Nat.zero_le _, t.den_pos⟩, Nat.zero_le _, ?_⟩
    · unfold zeroB at h8
      simp only [Bool.and_eq_true, Bool.or_eq_true, decide_eq_true_eq, Bool.not_eq_true', sign_neg, sign_pos, sign_zero] at h8
      exact ⟨h8.1, h8.2.imp id fun h => ⟨h.1.symm, h.2⟩⟩
    · have := p.den_pos
      show 1 ≤ _
      omega
  · have hq0 := zero_not h8 hs (sign_three q.num)
    have hq1 : 0 ≤ (-q).num := by
      have g := sgn3 q.num (d := 1) (by omega)
      rw [Rat.neg_num]
      omega
    have hne2 : -q < -p ∨ (-q = -p ∧ ob = false ∧ oa = false) := by
      rw [neg_lt2, neg_inj2]
      exact hne.imp id fun h => ⟨h.1, h.2.2, h.2.1⟩
    have hm2 : Simp (-q).num.natAbs (-q).den ob (-p).num.natAbs (-p).den oa n m := by
      rw [Rat.neg_num, Rat.neg_num, Rat.neg_den, Rat.neg_den, Int.natAbs_neg, Int.natAbs_neg]
      exact hm
    obtain ⟨r, h1, h2, h3, h4, h5, h6⟩ := simp_ins hq1 hne2 hm2
    rw [Rat.neg_num, Rat.neg_num, Int.natAbs_neg, Int.natAbs_neg] at h5
    rw [Rat.neg_den, Rat.neg_den] at h6
    have hrn : (-r).num.natAbs = r.num.natAbs := by rw [Rat.neg_num, Int.natAbs_neg]
    refine ⟨-r, decide (0 < n), mag n, dm m, hr, ⟨?_, by rw [Rat.neg_den, h2]⟩, ?_, fun t ht => ?_, by rw [hrn]; omega, by rw [Rat.neg_den]; omega⟩
    · rw [Rat.neg_num, h1]
      unfold enc
      rw [Int.natAbs_neg, Int.natAbs_natCast, show decide (-(n : Int) < 0) = decide (0 < n) from decide_eq_decide.2 (by omega)]
    · rw [← ins_neg, Rat.neg_neg]
      exact h3
    · have h7 := h4 (-t) (ins_neg.2 ht)
      rw [Rat.neg_num, Int.natAbs_neg, Rat.neg_den] at h7
      rw [hrn, Rat.neg_den]
      exact h7
  · have hp0 : 0 ≤ p.num := by
      have g := sgn3 p.num (d := 1) (by omega)
      omega
    obtain ⟨r, h1, h2, h3, h4, h5, h6⟩ := simp_ins hp0 hne hm
    refine ⟨r, false, mag n, dm m, hr, ⟨by rw [h1]; exact enc_mag n, by rw [h2]⟩, h3, h4, h5, h6⟩

theorem divInt_num {X Y : Int} (hY : 0 < Y) : (Rat.divInt X Y).num * Y = X * ((Rat.divInt X Y).den : Int) := by
  have h := Rat.num_divInt_den (Rat.divInt X Y)
  have hd := (Rat.divInt X Y).den_pos
  exact (Rat.divInt_eq_divInt_iff (by omega) (by omega)).1 h
theorem divInt_le {X Y : Int} (hY : 0 < Y) (t : Rat) : Rat.divInt X Y ≤ t ↔ X * (t.den : Int) ≤ t.num * Y := by
  have h := divInt_num (X := X) hY
  have hd := (Rat.divInt X Y).den_pos
  rw [Rat.le_iff]
  generalize (Rat.divInt X Y).num = N at *
  generalize (Rat.divInt X Y).den = E at *
  have h1 : N * (t.den : Int) * Y = X * (t.den : Int) * (E : Int) := by rw [Int.mul_right_comm, h, Int.mul_right_comm]
  have h2 : t.num * (E : Int) * Y = t.num * Y * (E : Int) := Int.mul_right_comm _ _ _
  constructor
  · intro h3
    have h4 := Int.mul_le_mul_of_nonneg_right h3 (show 0 ≤ Y by omega)
    rw [h1, h2] at h4
    exact Int.le_of_mul_le_mul_right h4 (by omega)
  · intro h3
    have h4 := Int.mul_le_mul_of_nonneg_right h3 (show (0 : Int) ≤ (E : Int) by omega)
    rw [← h1, ← h2] at h4
    exact Int.le_of_mul_le_mul_right h4 hY
theorem le_divInt {X Y : Int} (hY : 0 < Y) (t : Rat) : t ≤ Rat.divInt X Y ↔ t.num * Y ≤ X * (t.den : Int) := by
  have h := divInt_num (X := X) hY
  have hd := (Rat.divInt X Y).den_pos
  rw [Rat.le_iff]
  generalize (Rat.divInt X Y).num = N at *
  generalize (Rat.divInt X Y).den = E at *
  have h1 : N * (t.den : Int) * Y = X * (t.den : Int) * (E : Int) := by rw [Int.mul_right_comm, h, Int.mul_right_comm]
  have h2 : t.num * (E : Int) * Y = t.num * Y * (E : Int) := Int.mul_right_comm _ _ _
  constructor
  · intro h3
    have h4 := Int.mul_le_mul_of_nonneg_right h3 (show 0 ≤ Y by omega)
    rw [h1, h2] at h4
    exact Int.le_of_mul_le_mul_right h4 (by omega)
  · intro h3
    have h4 := Int.mul_le_mul_of_nonneg_right h3 (show (0 : Int) ≤ (E : Int) by omega)
    rw [← h1, ← h2] at h4
    exact Int.le_of_mul_le_mul_right h4 hY

def nearQ (a : Rat) : Rat := Rat.divInt 1 4 / (((a.den : Int) : Rat) * ((a.den : Int) : Rat))
theorem nearQ_eq (a : Rat) : nearQ a = Rat.divInt 1 (4 * ((a.den : Int) * (a.den : Int))) := by
  unfold nearQ
  rw [← divInt_1, Rat.divInt_mul_divInt, Rat.div_def, Rat.inv_divInt, Rat.divInt_mul_divInt]
  simp
theorem near_only {a r : Rat} (h1 : a - nearQ a ≤ r) (h2 : r ≤ a + nearQ a) (hd : r.den ≤ a.den) : r = a := by
  have hD := a.den_pos
  have ea := Rat.num_divInt_den a
  have hP : 0 < (a.den : Int) * (a.den : Int) := Int.mul_pos (by omega) (by omega)
  rw [nearQ_eq] at h1 h2
  rw [Rat.eq_iff_mul_eq_mul]
  have hDy : (a.den : Int) * (r.den : Int) ≤ (a.den : Int) * (a.den : Int) := Int.mul_le_mul_of_nonneg_left (by omega) (by omega)
  have h3 : Rat.divInt a.num a.den - Rat.divInt 1 (4 * ((a.den : Int) * (a.den : Int))) ≤ r := by rw [ea]; exact h1
  have h4 : r ≤ Rat.divInt a.num a.den + Rat.divInt 1 (4 * ((a.den : Int) * (a.den : Int))) := by rw [ea]; exact h2
  rw [Rat.divInt_sub_divInt _ _ (by omega) (by omega)] at h3
  rw [Rat.divInt_add_divInt _ _ (by omega) (by omega)] at h4
  rw [divInt_le (Int.mul_pos (by omega) (by omega))] at h3
  rw [le_divInt (Int.mul_pos (by omega) (by omega))] at h4
  generalize (a.den : Int) * (a.den : Int) = P at *
  have e1 : r.num * ((a.den : Int) * (4 * P)) = r.num * (a.den : Int) * (4 * P) := (Int.mul_assoc _ _ _).symm
  have e2 : (a.num * (4 * P) - 1 * (a.den : Int)) * (r.den : Int) = a.num * (r.den : Int) * (4 * P) - (a.den : Int) * (r.den : Int) := by
    rw [Int.sub_mul, Int.mul_right_comm, Int.one_mul]
  have e3 : (a.num * (4 * P) + 1 * (a.den : Int)) * (r.den : Int) = a.num * (r.den : Int) * (4 * P) + (a.den : Int) * (r.den : Int) := by
    rw [Int.add_mul, Int.mul_right_comm, Int.one_mul]
  rw [e1, e2] at h3
  rw [e1, e3] at h4
  generalize r.num * (a.den : Int) = A at *
  generalize a.num * (r.den : Int) = B at *
  generalize (a.den : Int) * (r.den : Int) = C at *
  have e4 : (A - B) * (4 * P) = A * (4 * P) - B * (4 * P) := Int.sub_mul _ _ _
  have e5 : (B - A) * (4 * P) = B * (4 * P) - A * (4 * P) := Int.sub_mul _ _ _
  rcases Int.lt_trichotomy A B with h | h | h
  · have h5 := Int.mul_le_mul_of_nonneg_right (show 1 ≤ B - A by omega) (show 0 ≤ 4 * P by omega)
    omega
  · exact h
  · have h5 := Int.mul_le_mul_of_nonneg_right (show 1 ≤ A - B by omega) (show 0 ≤ 4 * P by omega)
    omega
theorem near_pos (a : Rat) : 0 < nearQ a := by
  have hD := a.den_pos
  have hP : 0 < (a.den : Int) * (a.den : Int) := Int.mul_pos (by omega) (by omega)
  rw [nearQ_eq, ← Rat.not_le, divInt_le (by omega)]
  rw [show (0 : Rat).num = 0 from rfl, show (0 : Rat).den = 1 from rfl]
  omega
end Go.Proofs.YtahehlajpaoiiaaGreatDoor


namespace Go.Proofs.YtahehlajpaoiiaaGreatDoor
open Go.RowKit
attribute [local go_sem ↓] Go.wp_at_zero Go.wp_at_succ

theorem sz_m2 {n : Nat} {q : Rat} (h : Sz n q) {b : Bool} {m k : ByteArray} (hq : Rq q b m k) (hn : n ≤ 2000) : m.size ≤ 2000 ∧ (mag q.den).size ≤ 2000 := by
  refine ⟨?_, Nat.le_trans (mag_size_le h.2) hn⟩
  rw [hq.mag.2]
  exact Nat.le_trans (mag_size_le h.1) hn
theorem mid_small {p q r : Rat} (hp : Sz 16 p) (hq : Sz 16 q) {b : Bool} {m k : ByteArray} (hr : Rq r b m k) (h1 : r.num.natAbs ≤ p.num.natAbs + q.num.natAbs) (h2 : r.den ≤ p.den + q.den) : m.size ≤ 10000 ∧ (mag r.den).size ≤ 10000 := by
  have h3 : Sz 17 r := by
    have := hp.1
    have := hp.2
    have := hq.1
    have := hq.2
    unfold Sz
    rw [Nat.pow_succ]
    omega
  exact h3.m hr (by omega)
theorem void_ret {w w' : World} {p q : Rat} {oa ob : Bool} {e : Ending} (hv : voidB (cmpQ p q) oa ob = true) (h : RetSx w p q oa ob e w') : RetB w (.tuple #[.agg #[.bool false, .string ⟨#[]⟩, .bool false, .string ⟨#[]⟩], .int .i64 10]) e w' := by
  rcases h with ⟨_, h⟩ | ⟨h, _⟩ | ⟨h, _⟩ | ⟨h, _⟩
  · exact h
  all_goals (rw [hv] at h; cases h)
theorem near_lt (a : Rat) : a - nearQ a < a + nearQ a := Rat.not_le.1 fun h => by
  have h1 := near_pos a
  have h2 := Rat.add_le_add_left (c := -a) |>.2 h
  rw [← Rat.add_assoc, Rat.neg_add_cancel, Rat.zero_add, Rat.sub_eq_add_neg, ← Rat.add_assoc, Rat.neg_add_cancel, Rat.zero_add] at h2
  have h3 := Rat.neg_lt_neg h1
  rw [show -(0 : Rat) = 0 from rfl] at h3
  exact Rat.not_le.2 h1 (Rat.le_trans h2 (Rat.le_of_lt h3))
theorem near_in (a : Rat) : Ins (a - nearQ a) (a + nearQ a) false false a := by
  have h1 := near_pos a
  constructor
  · refine .inl (Rat.not_le.1 fun h => ?_)
    have h2 := Rat.add_le_add_left (c := -a) |>.2 h
    rw [Rat.sub_eq_add_neg, ← Rat.add_assoc, Rat.neg_add_cancel, Rat.zero_add] at h2
    have h3 := Rat.neg_lt_neg h1
    rw [show -(0 : Rat) = 0 from rfl] at h3
    exact Rat.not_le.2 h3 h2
  · refine .inl (Rat.not_le.1 fun h => ?_)
    have h2 := Rat.add_le_add_left (c := -a) |>.2 h
    rw [← Rat.add_assoc, Rat.neg_add_cancel, Rat.zero_add] at h2
    exact Rat.not_le.2 h1 h2
theorem near_ret {w w' : World} {a : Rat} {b : Bool} {m k : ByteArray} {e : Ending} (ha : Rq a b m k) (hm : a - nearQ a < a + nearQ a) (hi : Ins (a - nearQ a) (a + nearQ a) false false a) (h : RetSx w (a - nearQ a) (a + nearQ a) false false e w') :
    RetB w (.tuple #[.agg #[.bool b, .string m, .bool false, .string k], .int .i64 0]) e w' := by
  obtain ⟨r, b2, m2, k2, h1, h2, h3, h4, _, _⟩ := best_of (.inl hm) h
  have h5 := (h4 a hi).2
  have key : ∀ {x y : Rat} {o : Bool}, (x < y ∨ (x = y ∧ o = false)) → x ≤ y := fun {x y o} h => by
    rcases h with h | ⟨h, _⟩
    · exact Rat.le_of_lt h
    · rw [h]; exact Rat.le_refl
  obtain rfl := near_only (key h3.1) (key h3.2) h5
  obtain ⟨rfl, rfl, rfl⟩ := h2.inj ha
  exact h1
theorem of_lists2 {s t : ByteArray} (h : s.toList = t.toList) : s = t := by
  cases s
  cases t
  rw [ByteArray.toList_eq, ByteArray.toList_eq] at h
  simp at h
  rw [h]
theorem rq_apart {p q : Rat} {b1 b2 : Bool} {m1 m2 k1 k2 : ByteArray} (hp : Rq p b1 m1 k1) (hq : Rq q b2 m2 k2) (h : p ≠ q) : ¬ b1 = b2 ∨ (b1 = b2 ∧ ¬ m1.toList = m2.toList) ∨ (b1 = b2 ∧ m1.toList = m2.toList ∧ ¬ k1.toList = k2.toList) := by
  by_cases h1 : b1 = b2
  · by_cases h2 : m1.toList = m2.toList
    · refine .inr (.inr ⟨h1, h2, fun h3 => h ?_⟩)
      have h4 := of_lists2 h2
      have h5 := of_lists2 h3
      subst h1 h4 h5
      exact hp.eq_of hq
    · exact .inr (.inl ⟨h1, h2⟩)
  · exact .inl h1
theorem sz_whole {n : Nat} {x : Int} (h : x.natAbs < 256 ^ n) (hn : 0 < n) : Sz n (x : Rat) := by
  refine ⟨by rw [Rat.num_intCast]; exact h, ?_⟩
  rw [Rat.den_intCast]
  exact Nat.one_lt_pow (by omega) (by omega)
theorem Sz.quo {n m : Nat} {p q : Rat} (hp : Sz n p) (hq : Sz m q) (h0 : ¬ q.num = 0) : Sz (n + m) (p / q) := by
  rw [Rat.div_def]
  refine hp.mul ?_
  have h1 : q⁻¹.den = q.num.natAbs := by rw [Rat.den_inv, if_neg h0]
  have h2 := Rat.num_inv q
  unfold Sz
  rw [h1, h2, Int.natAbs_mul, Int.natAbs_natCast, Int.natAbs_sign_of_ne_zero h0, Nat.one_mul]
  exact ⟨hq.2, hq.1⟩

theorem ins_bools {p q t : Rat} {oa ob : Bool} (h : Ins p q oa ob t) : (cmpQ p t = -1 ∨ (cmpQ p t = 0 ∧ oa = false)) ∧ (cmpQ t q = -1 ∨ (cmpQ t q = 0 ∧ ob = false)) := by
  have key : ∀ {x y : Rat} {o : Bool}, (x < y ∨ (x = y ∧ o = false)) → (cmpQ x y = -1 ∨ (cmpQ x y = 0 ∧ o = false)) := fun {x y o} h => by
    rcases h with h | ⟨h, ho⟩
    · have h1 := cmpQ_three x y
      have h2 : ¬ 0 ≤ cmpQ x y := fun e => Rat.not_le.2 h (cmpQ_ge.1 e)
      omega
    · exact .inr ⟨cmpQ_zero.2 h, ho⟩
  exact ⟨key h.1, key h.2⟩

set_option maxHeartbeats 8000000 in
set_option maxRecDepth 100000 in
theorem rWithin_f {x p q : Rat} {bx ba bb : Bool} {mx ma mb kx ka kb : ByteArray} (hx : Rq x bx mx kx) (hp : Rq p ba ma ka) (hq : Rq q bb mb kb) {oa ob : Bool} (h : Ins p q oa ob x) (yx : mx.size ≤ 10000 ∧ (mag x.den).size ≤ 10000) (yp : ma.size ≤ 10000 ∧ (mag p.den).size ≤ 10000) (yq : mb.size ≤ 10000 ∧ (mag q.den).size ≤ 10000) (w : World) :
    Calls Tryz.prog 51 #[.agg #[.bool bx, .string mx, .bool false, .string kx], .agg #[.bool ba, .string ma, .bool false, .string ka], .agg #[.bool bb, .string mb, .bool false, .string kb], .bool oa, .bool ob] w (RetB w (.bool true)) := by
  obtain ⟨h1, h2⟩ := ins_bools h
  have HL := Lib.hid (fun V => rCompare_f hp hx yp.1 yx.1 yp.2 yx.2 V)
  have HR := Lib.hid (fun V => rCompare_f hx hq yx.1 yq.1 yx.2 yq.2 V)
  generalize cmpQ p x = l at *
  generalize cmpQ x q = r at *
  have X := Lib.hid ((((Sb.start w).new #[.bool bx, .string mx, .bool false, .string kx] 25).new #[.bool ba, .string ma, .bool false, .string ka] 25).new #[.bool bb, .string mb, .bool false, .string kb] 25)
  have X := Lib.hid (X.out.pick [0, 1, 2] [(w.heap.size, #[.bool bx, .string mx, .bool false, .string kx], 25), (w.heap.size + 1, #[.bool ba, .string ma, .bool false, .string ka], 25), (w.heap.size + 1 + 1, #[.bool bb, .string mb, .bool false, .string kb], 25)] [] (by simp) (by decide) (by simp))
  have H12 := Lib.hid (And.intro h1 h2)
  clear hx hp hq h yx yp yq h1 h2
  go_enter Tryz.func51, Tryz.ntmps51
  go_upto_region 1 with fail
  go_cut [11, 12] (fun s11 s12 wx => s11 = .int .i64 l ∧ s12 = .int .i64 r ∧ Sb w [(w.heap.size, #[.bool bx, .string mx, .bool false, .string kx], 25), (w.heap.size + 1, #[.bool ba, .string ma, .bool false, .string ka], 25), (w.heap.size + 1 + 1, #[.bool bb, .string mb, .bool false, .string kb], 25)] [] wx)
  case first =>
    refine wp_region_late (S := fun w' => (w'.cell? ⟨w.heap.size, 0, none⟩ = some (.bool bx) ∧ w'.cell? ⟨w.heap.size, 1, none⟩ = some (.string mx) ∧ w'.cell? ⟨w.heap.size, 2, none⟩ = some (.bool false) ∧ w'.cell? ⟨w.heap.size, 3, none⟩ = some (.string kx)) ∧ (w'.cell? ⟨w.heap.size + 1, 0, none⟩ = some (.bool ba) ∧ w'.cell? ⟨w.heap.size + 1, 1, none⟩ = some (.string ma) ∧ w'.cell? ⟨w.heap.size + 1, 2, none⟩ = some (.bool false) ∧ w'.cell? ⟨w.heap.size + 1, 3, none⟩ = some (.string ka)) ∧ (w'.cell? ⟨w.heap.size + 1 + 1, 0, none⟩ = some (.bool bb) ∧ w'.cell? ⟨w.heap.size + 1 + 1, 1, none⟩ = some (.string mb) ∧ w'.cell? ⟨w.heap.size + 1 + 1, 2, none⟩ = some (.bool false) ∧ w'.cell? ⟨w.heap.size + 1 + 1, 3, none⟩ = some (.string kb))) (L := []) (by kernel_rfl) ?_
    have X := Lib.hid X.out.drew
    obtain ⟨V0, hV⟩ := wexi X.out
    rw [← hV] at X ⊢
    clear hV
    refine tk (i := 0) (oi := ⟨some 13, _, _, _, _, _⟩) (v := _) rfl (by kernel_rfl) (fun _ _ _ h => h) (⟨X.out.c4 (i := 0) rfl, X.out.c4 (i := 1) rfl, X.out.c4 (i := 2) rfl⟩) (Or.inl ⟨by rfl, by intro w hSw; (try dsimp only at hSw); (first | (go_simp; done) | (go_simp; with_reducible rfl))⟩) ?_
    try simp only [Act.put, seti, set0, setS]
    refine tk (i := 1) (oi := ⟨some 14, _, _, _, _, _⟩) (v := _) rfl (by kernel_rfl) (fun _ _ _ h => h) (⟨X.out.c4 (i := 0) rfl, X.out.c4 (i := 1) rfl, X.out.c4 (i := 2) rfl⟩) (Or.inl ⟨by rfl, by intro w hSw; (try dsimp only at hSw); (first | (go_simp; done) | (go_simp; with_reducible rfl))⟩) ?_
    try simp only [Act.put, seti, set0, setS]
    refine tk (i := 3) (oi := ⟨some 16, _, _, _, _, _⟩) (v := _) rfl (by kernel_rfl) (fun _ _ _ h => h) (⟨X.out.c4 (i := 0) rfl, X.out.c4 (i := 1) rfl, X.out.c4 (i := 2) rfl⟩) (Or.inl ⟨by rfl, by intro w hSw; (try dsimp only at hSw); (first | (go_simp; done) | (go_simp; with_reducible rfl))⟩) ?_
    try simp only [Act.put, seti, set0, setS]
    refine tk (i := 4) (oi := ⟨some 17, _, _, _, _, _⟩) (v := _) rfl (by kernel_rfl) (fun _ _ _ h => h) (⟨X.out.c4 (i := 0) rfl, X.out.c4 (i := 1) rfl, X.out.c4 (i := 2) rfl⟩) (Or.inl ⟨by rfl, by intro w hSw; (try dsimp only at hSw); (first | (go_simp; done) | (go_simp; with_reducible rfl))⟩) ?_
    try simp only [Act.put, seti, set0, setS]
    refine wpLate_one (i := 2) (o := ⟨some 15, _, _, _, _, _⟩) (by kernel_rfl) rfl (fun K hK => ?_)
    go_simp
    (go_at_call 39; refine (HL.out _).mono ?_; rintro e u1 ⟨rfl, hb9⟩; have X := Lib.hid (X.out.next hb9); clear hb9)
    try go_wp2_with fail
    refine hK.out _ _ (Or.inr (fun _ => ⟨X.out.c4 (i := 0) rfl, X.out.c4 (i := 1) rfl, X.out.c4 (i := 2) rfl⟩)) ?_
    clear hK K
    try simp only [Act.put, seti, set0, setS]
    refine wpLate_one (i := 5) (o := ⟨some 18, _, _, _, _, _⟩) (by kernel_rfl) rfl (fun K hK => ?_)
    go_simp
    (go_at_call 39; refine (HR.out _).mono ?_; rintro e u2 ⟨rfl, hb9⟩; have X := Lib.hid (X.out.next hb9); clear hb9)
    try go_wp2_with fail
    refine hK.out _ _ (Or.inr (fun _ => ⟨X.out.c4 (i := 0) rfl, X.out.c4 (i := 1) rfl, X.out.c4 (i := 2) rfl⟩)) ?_
    clear hK K
    try simp only [Act.put, seti, set0, setS]
    refine tk (i := 6) (oi := ⟨some 11, _, _, _, _, _⟩) (v := _) rfl (by kernel_rfl) (fun _ _ _ h => h) (⟨X.out.c4 (i := 0) rfl, X.out.c4 (i := 1) rfl, X.out.c4 (i := 2) rfl⟩) (Or.inl ⟨by rfl, by intro w hSw; (try dsimp only at hSw); (first | (go_simp; done) | (go_simp; with_reducible rfl))⟩) ?_
    try simp only [Act.put, seti, set0, setS]
    refine tk (i := 7) (oi := ⟨some 12, _, _, _, _, _⟩) (v := _) rfl (by kernel_rfl) (fun _ _ _ h => h) (⟨X.out.c4 (i := 0) rfl, X.out.c4 (i := 1) rfl, X.out.c4 (i := 2) rfl⟩) (Or.inl ⟨by rfl, by intro w hSw; (try dsimp only at hSw); (first | (go_simp; done) | (go_simp; with_reducible rfl))⟩) ?_
    try simp only [Act.put, seti, set0, setS]
    refine wpLate_done (by kernel_rfl) ?_ _
    go_wp2_with fail
    go_meet
    exact ⟨rfl, rfl, X.out⟩
  obtain ⟨rfl, rfl, hX⟩ := hcut
  have X := Lib.hid hX
  clear hX
  obtain ⟨h1, h2⟩ := H12.out
  rcases h1 with rfl | ⟨rfl, rfl⟩
  · rcases h2 with rfl | ⟨rfl, rfl⟩
    · cases oa <;> cases ob <;> (go_wp2; go_ret; exact ⟨rfl, X.out.bel⟩)
    · cases oa <;> (go_wp2; go_ret; exact ⟨rfl, X.out.bel⟩)
  · rcases h2 with rfl | ⟨rfl, rfl⟩
    · cases ob <;> (go_wp2; go_ret; exact ⟨rfl, X.out.bel⟩)
    · go_wp2
      go_ret
      exact ⟨rfl, X.out.bel⟩

set_option maxHeartbeats 32000000 in
set_option maxRecDepth 100000 in
theorem rdeep_eq (n0 e0 : Int) (u0 v0 : Nat) (n1 e1 : Int) (u1 v1 : Nat) {ba bb bl bh : Bool} {ma mb ml mh ka kb kl kh : ByteArray} {z : Int} {ql qh : Rat} (hA : ∀ V, Calls Tryz.prog 27 #[.agg #[.int .i64 n0, .int .i64 e0, .int .u8 (u0 : Int), .int .u8 (v0 : Int)]] V (RetB V (.agg #[.bool ba, .string ma, .bool false, .string ka]))) (hB : ∀ V, Calls Tryz.prog 27 #[.agg #[.int .i64 n1, .int .i64 e1, .int .u8 (u1 : Int), .int .u8 (v1 : Int)]] V (RetB V (.agg #[.bool bb, .string mb, .bool false, .string kb])))
    (hC : ∀ V, Calls Tryz.prog 39 #[.agg #[.bool ba, .string ma, .bool false, .string ka], .agg #[.bool bb, .string mb, .bool false, .string kb]] V (RetB V (.int .i64 z))) (c1 : ¬ 0 < z) (c2 : ¬ 0 < z → (ba = bl ∧ ma = ml ∧ ka = kl) ∧ (bb = bh ∧ mb = mh ∧ kb = kh))
    (hl : Rq ql bl ml kl) (hh : Rq qh bh mh kh) (zl : Sz 16 ql) (zh : Sz 16 qh) (hlt : ql = qh) (w : World) (hE : Env w) :
    Calls Tryz.prog 11 #[.agg #[.int .i64 n0, .int .i64 e0, .int .u8 (u0 : Int), .int .u8 (v0 : Int)], .agg #[.int .i64 n1, .int .i64 e1, .int .u8 (u1 : Int), .int .u8 (v1 : Int)]] w (RetB w (.bool true)) := by
  have yl := zl.m hl (by omega)
  have yh := zh.m hh (by omega)
  have yl2 : ml.size ≤ 2000 ∧ (mag ql.den).size ≤ 2000 := sz_m2 zl hl (by omega)
  have yh2 : mh.size ≤ 2000 ∧ (mag qh.den).size ≤ 2000 := sz_m2 zh hh (by omega)
  subst hlt
  obtain ⟨rfl, rfl, rfl⟩ := hl.inj hh
  have HS1 := Lib.hid (fun V (hV : Env V) => (simplest_gen hl hl true true yl2.1 yl2.1 yl2.2 yl2.2 V hV).mono (fun e w' h => void_ret (by unfold voidB; rw [cmpQ_zero.2 rfl]; rfl) h))
  have HA := Lib.hid hA
  have HB := Lib.hid hB
  have HC := Lib.hid hC
  have HC1 := Lib.hid c1
  have HC2 := Lib.hid c2
  have HKN := Lib.hid (fun V (hV : Env V) => rknown_any V hV)
  have HE := Lib.hid (fun V (h : Below w.heap.size w V) => hE.next h)
  have X := Lib.hid (((Sb.start w).new #[.int .i64 n0, .int .i64 e0, .int .u8 (u0 : Int), .int .u8 (v0 : Int)] 41).new #[.int .i64 n1, .int .i64 e1, .int .u8 (u1 : Int), .int .u8 (v1 : Int)] 41)
  have X := Lib.hid (X.out.pick [0, 1] [(w.heap.size, #[.int .i64 n0, .int .i64 e0, .int .u8 (u0 : Int), .int .u8 (v0 : Int)], 41), (w.heap.size + 1, #[.int .i64 n1, .int .i64 e1, .int .u8 (u1 : Int), .int .u8 (v1 : Int)], 41)] [] (by simp) (by decide) (by simp))
  clear hA hB hC c1 c2 hl zl hE yl yh yl2 yh2 zh
  go_enter Tryz.func11, Tryz.ntmps11
  go_upto_region 1 with fail
  go_cut [5, 6] (fun s5 s6 wx => ∃ g5 g6, s5 = .pointer (some ⟨g5, 0, none⟩) ∧ s6 = .pointer (some ⟨g6, 0, none⟩) ∧ Sb w [(g5, #[.bool ba, .string ma, .bool false, .string ka], 25), (g6, #[.bool bb, .string mb, .bool false, .string kb], 25)] [] wx)
  case first =>
    refine wp_region_any (by kernel_rfl) ?_
    have X := Lib.hid X.out.drew
    obtain ⟨W0, hV⟩ := wexi X.out
    rw [show ∀ v : World, { v with drawn := v.drawn + 1 } = v.drew from fun _ => rfl, ← hV]
    rw [← hV] at X
    clear hV
    refine rg_run (ef := [.val (.agg #[.int .i64 n0, .int .i64 e0, .int .u8 (u0 : Int), .int .u8 (v0 : Int)]), .val (.agg #[.bool ba, .string ma, .bool false, .string ka]), .val (.agg #[.int .i64 n1, .int .i64 e1, .int .u8 (u1 : Int), .int .u8 (v1 : Int)]), .val (.agg #[.bool bb, .string mb, .bool false, .string kb]), .new #[.bool false, .string ⟨#[]⟩, .bool false, .string ⟨#[]⟩] 25, .new #[.bool false, .string ⟨#[]⟩, .bool false, .string ⟨#[]⟩] 25]) (ds := [13, 14, 15, 16, 5, 6]) (by kernel_rfl) (stays_none (by simp)) (by decide) rfl (by intro d hd; simp at hd ⊢; omega) (fun i d o hd ho listed a w1 hR hdep K hK => ?_) 2 (fun a w1 hR => ?_)
    · have X := Lib.hid (X.out.next hR.bel)
      have HKt := Lib.hid hK
      have HDp := Lib.hid hdep
      have sl2 : a.tmps.getD 2 undef = .pointer (some ⟨w.heap.size, 0, none⟩) := hR.keep 2 (by decide)
      have sl3 : a.tmps.getD 3 undef = .pointer (some ⟨w.heap.size + 1, 0, none⟩) := hR.keep 3 (by decide)
      have HRg := Lib.hid hR
      clear hK hdep hR
      rcases i with _ | _ | _ | _ | _ | _ | i
      · cases hd
        cases ho
        obtain ⟨x00, x01, x02, x03⟩ := X.out.c4 (i := 0) rfl
        obtain ⟨x10, x11, x12, x13⟩ := X.out.c4 (i := 1) rfl
        go_simp
        exact HKt.out _ _ (Or.inl ⟨rfl, Below.refl _ _⟩)
      · cases hd
        cases ho
        have dd0 : a.tmps.getD 13 undef = .agg #[.int .i64 n0, .int .i64 e0, .int .u8 (u0 : Int), .int .u8 (v0 : Int)] := HRg.out.val 0 _ (HDp.out 0 (by decide)) rfl
        go_simp
        (go_at_call 27; refine (HA.out _).mono ?_; rintro e u ⟨rfl, hb9⟩)
        try go_wp2_with fail
        exact HKt.out _ _ (Or.inl ⟨rfl, hb9⟩)
      · cases hd
        cases ho
        obtain ⟨x00, x01, x02, x03⟩ := X.out.c4 (i := 0) rfl
        obtain ⟨x10, x11, x12, x13⟩ := X.out.c4 (i := 1) rfl
        go_simp
        exact HKt.out _ _ (Or.inl ⟨rfl, Below.refl _ _⟩)
      · cases hd
        cases ho
        have dd1 : a.tmps.getD 14 undef = .agg #[.bool ba, .string ma, .bool false, .string ka] := HRg.out.val 1 _ (HDp.out 1 (by decide)) rfl
        have dd2 : a.tmps.getD 15 undef = .agg #[.int .i64 n1, .int .i64 e1, .int .u8 (u1 : Int), .int .u8 (v1 : Int)] := HRg.out.val 2 _ (HDp.out 2 (by decide)) rfl
        go_simp
        (go_at_call 27; refine (HB.out _).mono ?_; rintro e u ⟨rfl, hb9⟩)
        try go_wp2_with fail
        exact HKt.out _ _ (Or.inl ⟨rfl, hb9⟩)
      · cases hd
        cases ho
        go_simp
        exact HKt.out _ _ (Or.inr (Or.inl ⟨_, _, rfl, rfl, rfl⟩))
      · cases hd
        cases ho
        go_simp
        exact HKt.out _ _ (Or.inr (Or.inl ⟨_, _, rfl, rfl, rfl⟩))
      · cases hd
    obtain ⟨g4, hg4, lg4, kg4⟩ := hR.new 4 _ _ (by rfl) rfl
    obtain ⟨g5, hg5, lg5, kg5⟩ := hR.new 5 _ _ (by rfl) rfl
    have vv0 : a.tmps.getD 13 undef = .agg #[.int .i64 n0, .int .i64 e0, .int .u8 (u0 : Int), .int .u8 (v0 : Int)] := hR.val 0 _ (by rfl) rfl
    have vv1 : a.tmps.getD 14 undef = .agg #[.bool ba, .string ma, .bool false, .string ka] := hR.val 1 _ (by rfl) rfl
    have vv2 : a.tmps.getD 15 undef = .agg #[.int .i64 n1, .int .i64 e1, .int .u8 (u1 : Int), .int .u8 (v1 : Int)] := hR.val 2 _ (by rfl) rfl
    have vv3 : a.tmps.getD 16 undef = .agg #[.bool bb, .string mb, .bool false, .string kb] := hR.val 3 _ (by rfl) rfl
    replace hg4 : a.tmps.getD 5 undef = .pointer (some ⟨g4, 0, none⟩) := hg4
    replace hg5 : a.tmps.getD 6 undef = .pointer (some ⟨g5, 0, none⟩) := hg5
    have hne : g4 ≠ g5 := fun e => hR.ne 4 5 _ _ _ _ g4 (by decide) (by rfl) (by rfl) rfl rfl hg4 (by rw [e]; exact hg5)
    have X := Lib.hid (X.out.add2 hR.bel lg4 kg4 lg5 kg5 hne)
    have ha := hR.act
    simp only [List.foldl_cons, List.foldl_nil, seti, set0, setS, vv0, vv1, vv2, vv3, hg4, hg5] at ha
    subst ha
    clear hR vv0 vv1 vv2 vv3 hg4 lg4 kg4 hg5 lg5 kg5 hne
    refine wpAny_of_late (S := fun _ => True) (L := []) _ _ _ _ ?_
    refine wpLate_one (i := 6) (o := ⟨none, _, _, _, _, _⟩) (by kernel_rfl) rfl (fun K hK => ?_)
    obtain ⟨x0, x1, x2, x3⟩ := X.out.c4 (i := 2) rfl
    obtain ⟨y0, y1, y2, y3⟩ := X.out.f4 (i := 2) rfl
    have X := Lib.hid (X.out.set4 (i := 2) rfl (.bool ba) (.string ma) (.bool false) (.string ka))
    go_simp
    refine hK.out _ _ (Or.inr fun _ => trivial) ?_
    clear hK K x0 x1 x2 x3 y0 y1 y2 y3
    obtain ⟨W6, hV⟩ := wexi X.out
    rw [← hV] at X ⊢
    clear hV
    try simp only [Act.put]
    refine wpLate_one (i := 7) (o := ⟨none, _, _, _, _, _⟩) (by kernel_rfl) rfl (fun K hK => ?_)
    obtain ⟨x0, x1, x2, x3⟩ := X.out.c4 (i := 3) rfl
    obtain ⟨y0, y1, y2, y3⟩ := X.out.f4 (i := 3) rfl
    have X := Lib.hid (X.out.set4 (i := 3) rfl (.bool bb) (.string mb) (.bool false) (.string kb))
    go_simp
    refine hK.out _ _ (Or.inr fun _ => trivial) ?_
    clear hK K x0 x1 x2 x3 y0 y1 y2 y3
    obtain ⟨W7, hV⟩ := wexi X.out
    rw [← hV] at X ⊢
    clear hV
    try simp only [Act.put]
    refine wpLate_done (by kernel_rfl) ?_ _
    go_wp2_with fail
    go_meet
    exact ⟨_, _, rfl, rfl, X.out.pick [2, 3] _ [] rfl (by decide) (by simp)⟩
  obtain ⟨g5, g6, rfl, rfl, hX⟩ := hcut
  have X := Lib.hid hX
  clear hX
  obtain ⟨a0, a1, a2, a3⟩ := X.out.c4 (i := 0) rfl
  obtain ⟨c0, c1, c2, c3⟩ := X.out.c4 (i := 1) rfl
  go_upto_if 20 with (first | (refine (HC.out _).mono ?_; rintro e u1 ⟨rfl, hb9⟩; have X := Lib.hid (X.out.next hb9); clear hb9))
  clear a0 a1 a2 a3 c0 c1 c2 c3
  go_cut [] (fun wx => Sb w [(g5, #[.bool bl, .string ml, .bool false, .string kl], 25), (g6, #[.bool bl, .string ml, .bool false, .string kl], 25)] [] wx)
  case first =>
    by_cases hz : 0 < z
    · exact absurd hz (by have := HC1.out; omega)
    · have hzd := decide_eq_false hz
      obtain ⟨⟨rfl, rfl, rfl⟩, ⟨rfl, rfl, rfl⟩⟩ := HC2.out (by omega)
      go_wp2_with fail
      go_meet
      exact X.out
  have hX := hcut
  have X := Lib.hid hX
  clear hX hcut
  clear HC1 HC2
  go_wp2_with fail
  refine (HKN.out _ (HE.out _ X.out.bel)).mono ?_
  rintro e u1 ⟨rfl, hb9⟩
  have X := Lib.hid (X.out.next hb9)
  clear hb9
  go_upto_region 6 with fail
  go_cut [7, 8] (fun s7 s8 wx => ∃ g7, s7 = .pointer (some ⟨g7, 0, none⟩) ∧ s8 = .int .i64 10 ∧ Sb w [(g5, #[.bool bl, .string ml, .bool false, .string kl], 25), (g6, #[.bool bl, .string ml, .bool false, .string kl], 25), (g7, #[.bool false, .string ⟨#[]⟩, .bool false, .string ⟨#[]⟩], 25)] [] wx)
  case first =>
    obtain ⟨a0, a1, a2, a3⟩ := X.out.c4 (i := 0) rfl
    obtain ⟨c0, c1, c2, c3⟩ := X.out.c4 (i := 1) rfl
    go_wp2_with fail
    refine (HS1.out _ (HE.out _ X.out.bel)).mono ?_
    rintro e u2 ⟨rfl, hb9⟩
    have X := Lib.hid (X.out.next hb9)
    clear hb9
    clear a0 a1 a2 a3 c0 c1 c2 c3
    go_wp2_with fail
    have X := Lib.hid (X.out.new #[.bool false, .string ⟨#[]⟩, .bool false, .string ⟨#[]⟩] 25)
    go_meet
    exact ⟨_, rfl, rfl, X.out⟩
  obtain ⟨g7, rfl, rfl, hX⟩ := hcut
  have X := Lib.hid hX
  clear hX
  obtain ⟨a0, a1, a2, a3⟩ := X.out.c4 (i := 0) rfl
  obtain ⟨c0, c1, c2, c3⟩ := X.out.c4 (i := 1) rfl
  go_wp2
  go_ret
  exact ⟨rfl, X.out.bel⟩

set_option maxHeartbeats 32000000 in
set_option maxRecDepth 100000 in
theorem rdeep_lt (n0 e0 : Int) (u0 v0 : Nat) (n1 e1 : Int) (u1 v1 : Nat) {ba bb bl bh : Bool} {ma mb ml mh ka kb kl kh : ByteArray} {z : Int} {ql qh : Rat} (hA : ∀ V, Calls Tryz.prog 27 #[.agg #[.int .i64 n0, .int .i64 e0, .int .u8 (u0 : Int), .int .u8 (v0 : Int)]] V (RetB V (.agg #[.bool ba, .string ma, .bool false, .string ka]))) (hB : ∀ V, Calls Tryz.prog 27 #[.agg #[.int .i64 n1, .int .i64 e1, .int .u8 (u1 : Int), .int .u8 (v1 : Int)]] V (RetB V (.agg #[.bool bb, .string mb, .bool false, .string kb])))
    (hC : ∀ V, Calls Tryz.prog 39 #[.agg #[.bool ba, .string ma, .bool false, .string ka], .agg #[.bool bb, .string mb, .bool false, .string kb]] V (RetB V (.int .i64 z))) (c1 : 0 < z → (bb = bl ∧ mb = ml ∧ kb = kl) ∧ (ba = bh ∧ ma = mh ∧ ka = kh)) (c2 : ¬ 0 < z → (ba = bl ∧ ma = ml ∧ ka = kl) ∧ (bb = bh ∧ mb = mh ∧ kb = kh))
    (hl : Rq ql bl ml kl) (hh : Rq qh bh mh kh) (zl : Sz 16 ql) (zh : Sz 16 qh) (hlt : ql < qh) (w : World) (hE : Env w) :
    Calls Tryz.prog 11 #[.agg #[.int .i64 n0, .int .i64 e0, .int .u8 (u0 : Int), .int .u8 (v0 : Int)], .agg #[.int .i64 n1, .int .i64 e1, .int .u8 (u1 : Int), .int .u8 (v1 : Int)]] w (RetB w (.bool true)) := by
  have yl := zl.m hl (by omega)
  have yh := zh.m hh (by omega)
  have yl2 : ml.size ≤ 2000 ∧ (mag ql.den).size ≤ 2000 := sz_m2 zl hl (by omega)
  have yh2 : mh.size ≤ 2000 ∧ (mag qh.den).size ≤ 2000 := sz_m2 zh hh (by omega)
  have hs1 := fun V (hV : Env V) => (simplest_gen hl hh true true yl2.1 yh2.1 yl2.2 yh2.2 V hV).mono (fun e w' h => best_of (.inl hlt) h)
  have HCK := Lib.hid (fun (r : Rat) (br : Bool) (mr kr : ByteArray) (hr : Rq r br mr kr) (s : mr.size ≤ 10000 ∧ (mag r.den).size ≤ 10000) V => rCheck_yes hr (by omega) (by
    by_cases hd : r.den = 1
    · rw [hr.den1 hd]; exact Nat.zero_le _
    · rw [hr.den2 hd]; omega) V)
  have HWI := Lib.hid (fun (r : Rat) (br : Bool) (mr kr : ByteArray) (hr : Rq r br mr kr) (hi : Ins ql qh true true r) (s : mr.size ≤ 10000 ∧ (mag r.den).size ≤ 10000) V => rWithin_f hr hl hh hi s yl yh V)
  have HSZ := Lib.hid (fun (r : Rat) (br : Bool) (mr kr : ByteArray) (hr : Rq r br mr kr) (a1 : r.num.natAbs ≤ ql.num.natAbs + qh.num.natAbs) (a2 : r.den ≤ ql.den + qh.den) => mid_small zl zh hr a1 a2)
  have hdq : Rq ((ql.den : Int) : Rat) false (mag ql.den) ⟨#[]⟩ := rq_int (enc_mag ql.den)
  have zd : Sz 16 ((ql.den : Int) : Rat) := sz_whole (by rw [Int.natAbs_natCast]; exact zl.2) (by omega)
  have zd0 : ¬ (((ql.den : Int) : Rat) * ((ql.den : Int) : Rat)).num = 0 := by
    rw [← Rat.intCast_mul, Rat.num_intCast]
    have := ql.den_pos
    exact Int.ne_of_gt (Int.mul_pos (by omega) (by omega))
  have z2 := zd.mul zd
  obtain ⟨b4, m4, k4, h4⟩ := Rq.some_ (Rat.divInt 1 4)
  have z4 : Sz 1 (Rat.divInt 1 4) := ⟨by decide, by decide⟩
  obtain ⟨bw, mw, kw, hw⟩ := Rq.some_ (((ql.den : Int) : Rat) * ((ql.den : Int) : Rat))
  obtain ⟨bn, mn, kn, hn⟩ := Rq.some_ (nearQ ql)
  have zn : Sz 33 (nearQ ql) := z4.quo z2 zd0
  obtain ⟨bi, mi, ki, hi⟩ := Rq.some_ (ql - nearQ ql)
  obtain ⟨bj, mj, kj, hj⟩ := Rq.some_ (ql + nearQ ql)
  have zj := zl.add zn
  have zi : Sz 50 (ql - nearQ ql) := by
    rw [Rat.sub_eq_add_neg]
    exact zl.add zn.minus
  have yd := zd.m hdq (by omega)
  have yw := z2.m hw (by omega)
  have y4 := z4.m h4 (by omega)
  have yn := zn.m hn (by omega)
  have yi2 := sz_m2 zi hi (by omega)
  have yj2 := sz_m2 zj hj (by omega)
  have HOF := Lib.hid (fun V => rOf_f (x := 1) (y := 4) h4 (by decide) (by decide) (by decide) (by decide) (by decide) V)
  have HDD := Lib.hid (fun V => rMul_f hdq hdq hw yd.1 yd.1 yd.2 yd.2 V)
  have HDV := Lib.hid (fun V => rDiv_f h4 hw (show Rq (Rat.divInt 1 4 / (((ql.den : Int) : Rat) * ((ql.den : Int) : Rat))) bn mn kn from hn) zd0 y4.1 yw.1 y4.2 yw.2 V)
  have HSU := Lib.hid (fun V => rSub_f hl hn hi yl.1 yn.1 yl.2 yn.2 V)
  have HAD := Lib.hid (fun V => rAdd_f hl hn hj yl.1 yn.1 yl.2 yn.2 V)
  have hnp := near_pos ql
  have hmid : ql - nearQ ql < ql + nearQ ql := near_lt ql
  have hin : Ins (ql - nearQ ql) (ql + nearQ ql) false false ql := near_in ql
  have HS2 := Lib.hid (fun V (hV : Env V) => (simplest_gen hi hj false false yi2.1 yj2.1 yi2.2 yj2.2 V hV).mono (fun e w' h => near_ret hl hmid hin h))
  have HDN := Lib.hid (fun V => lawDen_f hl V)
  generalize mag ql.den = dl at *
  have hne := rq_apart hl hh (fun e => Rat.lt_irrefl (e ▸ hlt))
  have HNE := Lib.hid hne
  have HS1 := Lib.hid hs1
  have HA := Lib.hid hA
  have HB := Lib.hid hB
  have HC := Lib.hid hC
  have HC1 := Lib.hid c1
  have HC2 := Lib.hid c2
  have HKN := Lib.hid (fun V (hV : Env V) => rknown_any V hV)
  have HE := Lib.hid (fun V (h : Below w.heap.size w V) => hE.next h)
  have X := Lib.hid (((Sb.start w).new #[.int .i64 n0, .int .i64 e0, .int .u8 (u0 : Int), .int .u8 (v0 : Int)] 41).new #[.int .i64 n1, .int .i64 e1, .int .u8 (u1 : Int), .int .u8 (v1 : Int)] 41)
  have X := Lib.hid (X.out.pick [0, 1] [(w.heap.size, #[.int .i64 n0, .int .i64 e0, .int .u8 (u0 : Int), .int .u8 (v0 : Int)], 41), (w.heap.size + 1, #[.int .i64 n1, .int .i64 e1, .int .u8 (u1 : Int), .int .u8 (v1 : Int)], 41)] [] (by simp) (by decide) (by simp))
  clear hA hB hC c1 c2 hl zl hE yl yh yl2 yh2 hh zh hs1 hdq zd zd0 z2 h4 z4 hw hn zn hi hj zj zi yd yw y4 yn yi2 yj2 hnp hmid hin hne hlt
  go_enter Tryz.func11, Tryz.ntmps11
  go_upto_region 1 with fail
  go_cut [5, 6] (fun s5 s6 wx => ∃ g5 g6, s5 = .pointer (some ⟨g5, 0, none⟩) ∧ s6 = .pointer (some ⟨g6, 0, none⟩) ∧ Sb w [(g5, #[.bool ba, .string ma, .bool false, .string ka], 25), (g6, #[.bool bb, .string mb, .bool false, .string kb], 25)] [] wx)
  case first =>
    refine wp_region_any (by kernel_rfl) ?_
    have X := Lib.hid X.out.drew
    obtain ⟨W0, hV⟩ := wexi X.out
    rw [show ∀ v : World, { v with drawn := v.drawn + 1 } = v.drew from fun _ => rfl, ← hV]
    rw [← hV] at X
    clear hV
    refine rg_run (ef := [.val (.agg #[.int .i64 n0, .int .i64 e0, .int .u8 (u0 : Int), .int .u8 (v0 : Int)]), .val (.agg #[.bool ba, .string ma, .bool false, .string ka]), .val (.agg #[.int .i64 n1, .int .i64 e1, .int .u8 (u1 : Int), .int .u8 (v1 : Int)]), .val (.agg #[.bool bb, .string mb, .bool false, .string kb]), .new #[.bool false, .string ⟨#[]⟩, .bool false, .string ⟨#[]⟩] 25, .new #[.bool false, .string ⟨#[]⟩, .bool false, .string ⟨#[]⟩] 25]) (ds := [13, 14, 15, 16, 5, 6]) (by kernel_rfl) (stays_none (by simp)) (by decide) rfl (by intro d hd; simp at hd ⊢; omega) (fun i d o hd ho listed a w1 hR hdep K hK => ?_) 2 (fun a w1 hR => ?_)
    · have X := Lib.hid (X.out.next hR.bel)
      have HKt := Lib.hid hK
      have HDp := Lib.hid hdep
      have sl2 : a.tmps.getD 2 undef = .pointer (some ⟨w.heap.size, 0, none⟩) := hR.keep 2 (by decide)
      have sl3 : a.tmps.getD 3 undef = .pointer (some ⟨w.heap.size + 1, 0, none⟩) := hR.keep 3 (by decide)
      have HRg := Lib.hid hR
      clear hK hdep hR
      rcases i with _ | _ | _ | _ | _ | _ | i
      · cases hd
        cases ho
        obtain ⟨x00, x01, x02, x03⟩ := X.out.c4 (i := 0) rfl
        obtain ⟨x10, x11, x12, x13⟩ := X.out.c4 (i := 1) rfl
        go_simp
        exact HKt.out _ _ (Or.inl ⟨rfl, Below.refl _ _⟩)
      · cases hd
        cases ho
        have dd0 : a.tmps.getD 13 undef = .agg #[.int .i64 n0, .int .i64 e0, .int .u8 (u0 : Int), .int .u8 (v0 : Int)] := HRg.out.val 0 _ (HDp.out 0 (by decide)) rfl
        go_simp
        (go_at_call 27; refine (HA.out _).mono ?_; rintro e u ⟨rfl, hb9⟩)
        try go_wp2_with fail
        exact HKt.out _ _ (Or.inl ⟨rfl, hb9⟩)
      · cases hd
        cases ho
        obtain ⟨x00, x01, x02, x03⟩ := X.out.c4 (i := 0) rfl
        obtain ⟨x10, x11, x12, x13⟩ := X.out.c4 (i := 1) rfl
        go_simp
        exact HKt.out _ _ (Or.inl ⟨rfl, Below.refl _ _⟩)
      · cases hd
        cases ho
        have dd1 : a.tmps.getD 14 undef = .agg #[.bool ba, .string ma, .bool false, .string ka] := HRg.out.val 1 _ (HDp.out 1 (by decide)) rfl
        have dd2 : a.tmps.getD 15 undef = .agg #[.int .i64 n1, .int .i64 e1, .int .u8 (u1 : Int), .int .u8 (v1 : Int)] := HRg.out.val 2 _ (HDp.out 2 (by decide)) rfl
        go_simp
        (go_at_call 27; refine (HB.out _).mono ?_; rintro e u ⟨rfl, hb9⟩)
        try go_wp2_with fail
        exact HKt.out _ _ (Or.inl ⟨rfl, hb9⟩)
      · cases hd
        cases ho
        go_simp
        exact HKt.out _ _ (Or.inr (Or.inl ⟨_, _, rfl, rfl, rfl⟩))
      · cases hd
        cases ho
        go_simp
        exact HKt.out _ _ (Or.inr (Or.inl ⟨_, _, rfl, rfl, rfl⟩))
      · cases hd
    obtain ⟨g4, hg4, lg4, kg4⟩ := hR.new 4 _ _ (by rfl) rfl
    obtain ⟨g5, hg5, lg5, kg5⟩ := hR.new 5 _ _ (by rfl) rfl
    have vv0 : a.tmps.getD 13 undef = .agg #[.int .i64 n0, .int .i64 e0, .int .u8 (u0 : Int), .int .u8 (v0 : Int)] := hR.val 0 _ (by rfl) rfl
    have vv1 : a.tmps.getD 14 undef = .agg #[.bool ba, .string ma, .bool false, .string ka] := hR.val 1 _ (by rfl) rfl
    have vv2 : a.tmps.getD 15 undef = .agg #[.int .i64 n1, .int .i64 e1, .int .u8 (u1 : Int), .int .u8 (v1 : Int)] := hR.val 2 _ (by rfl) rfl
    have vv3 : a.tmps.getD 16 undef = .agg #[.bool bb, .string mb, .bool false, .string kb] := hR.val 3 _ (by rfl) rfl
    replace hg4 : a.tmps.getD 5 undef = .pointer (some ⟨g4, 0, none⟩) := hg4
    replace hg5 : a.tmps.getD 6 undef = .pointer (some ⟨g5, 0, none⟩) := hg5
    have hne : g4 ≠ g5 := fun e => hR.ne 4 5 _ _ _ _ g4 (by decide) (by rfl) (by rfl) rfl rfl hg4 (by rw [e]; exact hg5)
    have X := Lib.hid (X.out.add2 hR.bel lg4 kg4 lg5 kg5 hne)
    have ha := hR.act
    simp only [List.foldl_cons, List.foldl_nil, seti, set0, setS, vv0, vv1, vv2, vv3, hg4, hg5] at ha
    subst ha
    clear hR vv0 vv1 vv2 vv3 hg4 lg4 kg4 hg5 lg5 kg5 hne
    refine wpAny_of_late (S := fun _ => True) (L := []) _ _ _ _ ?_
    refine wpLate_one (i := 6) (o := ⟨none, _, _, _, _, _⟩) (by kernel_rfl) rfl (fun K hK => ?_)
    obtain ⟨x0, x1, x2, x3⟩ := X.out.c4 (i := 2) rfl
    obtain ⟨y0, y1, y2, y3⟩ := X.out.f4 (i := 2) rfl
    have X := Lib.hid (X.out.set4 (i := 2) rfl (.bool ba) (.string ma) (.bool false) (.string ka))
    go_simp
    refine hK.out _ _ (Or.inr fun _ => trivial) ?_
    clear hK K x0 x1 x2 x3 y0 y1 y2 y3
    obtain ⟨W6, hV⟩ := wexi X.out
    rw [← hV] at X ⊢
    clear hV
    try simp only [Act.put]
    refine wpLate_one (i := 7) (o := ⟨none, _, _, _, _, _⟩) (by kernel_rfl) rfl (fun K hK => ?_)
    obtain ⟨x0, x1, x2, x3⟩ := X.out.c4 (i := 3) rfl
    obtain ⟨y0, y1, y2, y3⟩ := X.out.f4 (i := 3) rfl
    have X := Lib.hid (X.out.set4 (i := 3) rfl (.bool bb) (.string mb) (.bool false) (.string kb))
    go_simp
    refine hK.out _ _ (Or.inr fun _ => trivial) ?_
    clear hK K x0 x1 x2 x3 y0 y1 y2 y3
    obtain ⟨W7, hV⟩ := wexi X.out
    rw [← hV] at X ⊢
    clear hV
    try simp only [Act.put]
    refine wpLate_done (by kernel_rfl) ?_ _
    go_wp2_with fail
    go_meet
    exact ⟨_, _, rfl, rfl, X.out.pick [2, 3] _ [] rfl (by decide) (by simp)⟩
  obtain ⟨g5, g6, rfl, rfl, hX⟩ := hcut
  have X := Lib.hid hX
  clear hX
  obtain ⟨a0, a1, a2, a3⟩ := X.out.c4 (i := 0) rfl
  obtain ⟨c0, c1, c2, c3⟩ := X.out.c4 (i := 1) rfl
  go_upto_if 20 with (first | (refine (HC.out _).mono ?_; rintro e u1 ⟨rfl, hb9⟩; have X := Lib.hid (X.out.next hb9); clear hb9))
  clear a0 a1 a2 a3 c0 c1 c2 c3
  go_cut [] (fun wx => Sb w [(g5, #[.bool bl, .string ml, .bool false, .string kl], 25), (g6, #[.bool bh, .string mh, .bool false, .string kh], 25)] [] wx)
  case first =>
    by_cases hz : 0 < z
    · have hzd := decide_eq_true hz
      obtain ⟨⟨rfl, rfl, rfl⟩, ⟨rfl, rfl, rfl⟩⟩ := HC1.out (by omega)
      have hgg : g5 ≠ g6 := X.out.ne 0 1 _ _ rfl rfl (by decide)
      have hgh : g6 ≠ g5 := fun e => hgg e.symm
      obtain ⟨a0, a1, a2, a3⟩ := X.out.c4 (i := 0) rfl
      obtain ⟨c0, c1, c2, c3⟩ := X.out.c4 (i := 1) rfl
      obtain ⟨x0, x1, x2, x3⟩ := X.out.f4 (i := 0) rfl
      obtain ⟨y0, y1, y2, y3⟩ := X.out.f4 (i := 1) rfl
      go_wp2_with fail
      have X := Lib.hid ((X.out.set4 (i := 0) rfl (.bool bb) (.string mb) (.bool false) (.string kb)).set4 (i := 1) rfl (.bool ba) (.string ma) (.bool false) (.string ka))
      go_meet
      exact X.out
    · have hzd := decide_eq_false hz
      obtain ⟨⟨rfl, rfl, rfl⟩, ⟨rfl, rfl, rfl⟩⟩ := HC2.out (by omega)
      go_wp2_with fail
      go_meet
      exact X.out
  have hX := hcut
  have X := Lib.hid hX
  clear hX hcut
  clear HC1 HC2
  go_wp2_with fail
  refine (HKN.out _ (HE.out _ X.out.bel)).mono ?_
  rintro e u1 ⟨rfl, hb9⟩
  have X := Lib.hid (X.out.next hb9)
  clear hb9
  go_upto_region 6 with fail
  go_cut [7, 8] (fun s7 s8 wx => ∃ g7 r br mr kr, s7 = .pointer (some ⟨g7, 0, none⟩) ∧ s8 = .int .i64 0 ∧ Rq r br mr kr ∧ Ins ql qh true true r ∧ (mr.size ≤ 10000 ∧ (Go.Proofs.YtahehlajpaoiiaaGreatDoor.mag r.den).size ≤ 10000) ∧ Sb w [(g5, #[.bool bl, .string ml, .bool false, .string kl], 25), (g6, #[.bool bh, .string mh, .bool false, .string kh], 25), (g7, #[.bool br, .string mr, .bool false, .string kr], 25)] [] wx)
  case first =>
    obtain ⟨a0, a1, a2, a3⟩ := X.out.c4 (i := 0) rfl
    obtain ⟨c0, c1, c2, c3⟩ := X.out.c4 (i := 1) rfl
    go_wp2_with fail
    refine (HS1.out _ (HE.out _ X.out.bel)).mono ?_
    rintro e u2 ⟨r, br, mr, kr, ⟨rfl, hb9⟩, hr, hi, -, a1, a2⟩
    have X := Lib.hid (X.out.next hb9)
    have HR9 := Lib.hid (And.intro hr (And.intro hi (HSZ.out r br mr kr hr a1 a2)))
    clear hb9 hr hi a1 a2
    clear a0 a1 a2 a3 c0 c1 c2 c3
    go_wp2_with fail
    have X := Lib.hid (X.out.new #[.bool br, .string mr, .bool false, .string kr] 25)
    go_meet
    exact ⟨_, r, br, mr, kr, rfl, rfl, HR9.out.1, HR9.out.2.1, HR9.out.2.2, X.out⟩
  obtain ⟨g7, r, br, mr, kr, rfl, rfl, hr, hi, hsz, hX⟩ := hcut
  have X := Lib.hid hX
  have HCK := Lib.hid (HCK.out r br mr kr hr hsz)
  have HWI := Lib.hid (HWI.out r br mr kr hr hi hsz)
  clear hX hr hi hsz HSZ HS1
  go_upto_region 7 with fail
  go_cut [33] (fun s33 wx => s33 = .bool false ∧ Sb w [(g5, #[.bool bl, .string ml, .bool false, .string kl], 25), (g6, #[.bool bh, .string mh, .bool false, .string kh], 25), (g7, #[.bool br, .string mr, .bool false, .string kr], 25)] [] wx)
  case first =>
    rcases HNE.out with h1 | ⟨h1, h2⟩ | ⟨h1, h2, h3⟩
    all_goals
      obtain ⟨a0, a1, a2, a3⟩ := X.out.c4 (i := 0) rfl
      obtain ⟨c0, c1, c2, c3⟩ := X.out.c4 (i := 1) rfl
      go_wp2_with fail
      go_meet
      exact ⟨rfl, X.out⟩
  obtain ⟨rfl, hX⟩ := hcut
  have X := Lib.hid hX
  clear hX
  clear HNE
  go_upto_region 9 with fail
  go_cut [9] (fun s9 wx => ∃ g9, s9 = .pointer (some ⟨g9, 0, none⟩) ∧ Sb w [(g5, #[.bool bl, .string ml, .bool false, .string kl], 25), (g6, #[.bool bh, .string mh, .bool false, .string kh], 25), (g7, #[.bool br, .string mr, .bool false, .string kr], 25), (g9, #[.bool false, .string dl, .bool false, .string ⟨#[]⟩], 25)] [] wx)
  case first =>
    obtain ⟨a0, a1, a2, a3⟩ := X.out.c4 (i := 0) rfl
    go_wp2_with fail
    refine (HDN.out _).mono ?_
    rintro e u3 ⟨rfl, hb9⟩
    have X := Lib.hid (X.out.next hb9)
    clear hb9
    clear a0 a1 a2 a3
    go_wp2_with fail
    have X := Lib.hid (X.out.new #[.bool false, .string dl, .bool false, .string ⟨#[]⟩] 25)
    go_meet
    exact ⟨_, rfl, X.out⟩
  obtain ⟨g9, rfl, hX⟩ := hcut
  have X := Lib.hid hX
  clear hX
  go_upto_region 10 with fail
  go_cut [10] (fun s10 wx => ∃ g10, s10 = .pointer (some ⟨g10, 0, none⟩) ∧ Sb w [(g5, #[.bool bl, .string ml, .bool false, .string kl], 25), (g6, #[.bool bh, .string mh, .bool false, .string kh], 25), (g7, #[.bool br, .string mr, .bool false, .string kr], 25), (g9, #[.bool false, .string dl, .bool false, .string ⟨#[]⟩], 25), (g10, #[.bool bn, .string mn, .bool false, .string kn], 25)] [] wx)
  case first =>
    refine wp_region_late (S := fun w' => (w'.cell? ⟨g9, 0, none⟩ = some (.bool false) ∧ w'.cell? ⟨g9, 1, none⟩ = some (.string dl) ∧ w'.cell? ⟨g9, 2, none⟩ = some (.bool false) ∧ w'.cell? ⟨g9, 3, none⟩ = some (.string ⟨#[]⟩))) (L := []) (by kernel_rfl) ?_
    have X := Lib.hid X.out.drew
    obtain ⟨V0, hV⟩ := wexi X.out
    rw [← hV] at X ⊢
    clear hV
    refine tk (i := 1) (oi := ⟨some 40, _, _, _, _, _⟩) (v := _) rfl (by kernel_rfl) (fun _ _ _ h => h) (X.out.c4 (i := 3) rfl) (Or.inl ⟨by rfl, by intro w hSw; (try dsimp only at hSw); (first | (go_simp; done) | (go_simp; with_reducible rfl))⟩) ?_
    try simp only [Act.put, seti, set0, setS]
    refine tk (i := 2) (oi := ⟨some 41, _, _, _, _, _⟩) (v := _) rfl (by kernel_rfl) (fun _ _ _ h => h) (X.out.c4 (i := 3) rfl) (Or.inl ⟨by rfl, by intro w hSw; (try dsimp only at hSw); (first | (go_simp; done) | (go_simp; with_reducible rfl))⟩) ?_
    try simp only [Act.put, seti, set0, setS]
    refine wpLate_two (i := 0) (j := 5) (o := ⟨some 39, _, _, _, _, _⟩) (o' := ⟨some 10, _, _, _, _, _⟩) (by kernel_rfl) rfl rfl (fun K hK => ?_) (fun K hK => ?_)
    · skip
      go_simp
      (go_at_call 23; refine (HOF.out _).mono ?_; rintro e u1 ⟨rfl, hb9⟩; have X := Lib.hid (X.out.next hb9); clear hb9)
      try go_wp2_with fail
      refine hK.out _ _ (Or.inr (fun _ => X.out.c4 (i := 3) rfl)) ?_
      clear hK K
      try simp only [Act.put, seti, set0, setS]
      refine wpLate_two (i := 3) (j := 5) (o := ⟨some 42, _, _, _, _, _⟩) (o' := ⟨some 10, _, _, _, _, _⟩) (by kernel_rfl) rfl rfl (fun K hK => ?_) (fun K hK => ?_)
      go_simp
      (go_at_call 35; refine (HDD.out _).mono ?_; rintro e u2 ⟨rfl, hb9⟩; have X := Lib.hid (X.out.next hb9); clear hb9)
      try go_wp2_with fail
      refine hK.out _ _ (Or.inr (fun _ => X.out.c4 (i := 3) rfl)) ?_
      clear hK K
      try simp only [Act.put, seti, set0, setS]
      refine wpLate_two (i := 4) (j := 5) (o := ⟨some 43, _, _, _, _, _⟩) (o' := ⟨some 10, _, _, _, _, _⟩) (by kernel_rfl) rfl rfl (fun K hK => ?_) (fun K hK => ?_)
      go_simp
      (go_at_call 37; refine (HDV.out _).mono ?_; rintro e u3 ⟨rfl, hb9⟩; have X := Lib.hid (X.out.next hb9); clear hb9)
      try go_wp2_with fail
      refine hK.out _ _ (Or.inr (fun _ => X.out.c4 (i := 3) rfl)) ?_
      clear hK K
      try simp only [Act.put, seti, set0, setS]
      refine wpLate_one (i := 5) (o := ⟨some 10, _, _, _, _, _⟩) (by kernel_rfl) rfl (fun K hK => ?_)
      go_simp
      have X := Lib.hid (X.out.new #[.bool false, .string ⟨#[]⟩, .bool false, .string ⟨#[]⟩] 25)
      refine hK.out _ _ (Or.inr (fun _ => X.out.c4 (i := 3) rfl)) ?_
      clear hK K
      try simp only [Act.put, seti, set0, setS]
      obtain ⟨V4, hV⟩ := wexi X.out
      rw [← hV] at X ⊢
      clear hV
      refine wpLate_one (i := 6) (o := ⟨none, _, _, _, _, _⟩) (by kernel_rfl) rfl (fun K hK => ?_)
      obtain ⟨x0, x1, x2, x3⟩ := X.out.c4 (i := 4) rfl
      obtain ⟨y0, y1, y2, y3⟩ := X.out.f4 (i := 4) rfl
      have X := Lib.hid (X.out.set4 (i := 4) rfl (.bool bn) (.string mn) (.bool false) (.string kn))
      go_simp
      refine hK.out _ _ (Or.inr (fun _ => X.out.c4 (i := 3) rfl)) ?_
      clear hK K x0 x1 x2 x3 y0 y1 y2 y3
      try simp only [Act.put, seti, set0, setS]
      obtain ⟨W5, hV⟩ := wexi X.out
      rw [← hV] at X ⊢
      clear hV
      refine wpLate_done (by kernel_rfl) ?_ _
      go_wp2_with fail
      go_meet
      exact ⟨_, rfl, X.out.pick [0, 1, 2, 3, 4] _ [] rfl (by decide) (by simp)⟩
      go_simp
      have X := Lib.hid (X.out.new #[.bool false, .string ⟨#[]⟩, .bool false, .string ⟨#[]⟩] 25)
      refine hK.out _ _ (Or.inr (fun _ => X.out.c4 (i := 3) rfl)) ?_
      clear hK K
      try simp only [Act.put, seti, set0, setS]
      obtain ⟨V6, hV⟩ := wexi X.out
      rw [← hV] at X ⊢
      clear hV
      refine wpLate_one (i := 4) (o := ⟨some 43, _, _, _, _, _⟩) (by kernel_rfl) rfl (fun K hK => ?_)
      go_simp
      (go_at_call 37; refine (HDV.out _).mono ?_; rintro e u7 ⟨rfl, hb9⟩; have X := Lib.hid (X.out.next hb9); clear hb9)
      try go_wp2_with fail
      refine hK.out _ _ (Or.inr (fun _ => X.out.c4 (i := 3) rfl)) ?_
      clear hK K
      try simp only [Act.put, seti, set0, setS]
      refine wpLate_one (i := 6) (o := ⟨none, _, _, _, _, _⟩) (by kernel_rfl) rfl (fun K hK => ?_)
      obtain ⟨x0, x1, x2, x3⟩ := X.out.c4 (i := 4) rfl
      obtain ⟨y0, y1, y2, y3⟩ := X.out.f4 (i := 4) rfl
      have X := Lib.hid (X.out.set4 (i := 4) rfl (.bool bn) (.string mn) (.bool false) (.string kn))
      go_simp
      refine hK.out _ _ (Or.inr (fun _ => X.out.c4 (i := 3) rfl)) ?_
      clear hK K x0 x1 x2 x3 y0 y1 y2 y3
      try simp only [Act.put, seti, set0, setS]
      obtain ⟨W8, hV⟩ := wexi X.out
      rw [← hV] at X ⊢
      clear hV
      refine wpLate_done (by kernel_rfl) ?_ _
      go_wp2_with fail
      go_meet
      exact ⟨_, rfl, X.out.pick [0, 1, 2, 3, 4] _ [] rfl (by decide) (by simp)⟩
      go_simp
      have X := Lib.hid (X.out.new #[.bool false, .string ⟨#[]⟩, .bool false, .string ⟨#[]⟩] 25)
      refine hK.out _ _ (Or.inr (fun _ => X.out.c4 (i := 3) rfl)) ?_
      clear hK K
      try simp only [Act.put, seti, set0, setS]
      obtain ⟨V9, hV⟩ := wexi X.out
      rw [← hV] at X ⊢
      clear hV
      refine wpLate_one (i := 3) (o := ⟨some 42, _, _, _, _, _⟩) (by kernel_rfl) rfl (fun K hK => ?_)
      go_simp
      (go_at_call 35; refine (HDD.out _).mono ?_; rintro e u10 ⟨rfl, hb9⟩; have X := Lib.hid (X.out.next hb9); clear hb9)
      try go_wp2_with fail
      refine hK.out _ _ (Or.inr (fun _ => X.out.c4 (i := 3) rfl)) ?_
      clear hK K
      try simp only [Act.put, seti, set0, setS]
      refine wpLate_one (i := 4) (o := ⟨some 43, _, _, _, _, _⟩) (by kernel_rfl) rfl (fun K hK => ?_)
      go_simp
      (go_at_call 37; refine (HDV.out _).mono ?_; rintro e u11 ⟨rfl, hb9⟩; have X := Lib.hid (X.out.next hb9); clear hb9)
      try go_wp2_with fail
      refine hK.out _ _ (Or.inr (fun _ => X.out.c4 (i := 3) rfl)) ?_
      clear hK K
      try simp only [Act.put, seti, set0, setS]
      refine wpLate_one (i := 6) (o := ⟨none, _, _, _, _, _⟩) (by kernel_rfl) rfl (fun K hK => ?_)
      obtain ⟨x0, x1, x2, x3⟩ := X.out.c4 (i := 4) rfl
      obtain ⟨y0, y1, y2, y3⟩ := X.out.f4 (i := 4) rfl
      have X := Lib.hid (X.out.set4 (i := 4) rfl (.bool bn) (.string mn) (.bool false) (.string kn))
      go_simp
      refine hK.out _ _ (Or.inr (fun _ => X.out.c4 (i := 3) rfl)) ?_
      clear hK K x0 x1 x2 x3 y0 y1 y2 y3
      try simp only [Act.put, seti, set0, setS]
      obtain ⟨W12, hV⟩ := wexi X.out
      rw [← hV] at X ⊢
      clear hV
      refine wpLate_done (by kernel_rfl) ?_ _
      go_wp2_with fail
      go_meet
      exact ⟨_, rfl, X.out.pick [0, 1, 2, 3, 4] _ [] rfl (by decide) (by simp)⟩
    go_simp
    have X := Lib.hid (X.out.new #[.bool false, .string ⟨#[]⟩, .bool false, .string ⟨#[]⟩] 25)
    refine hK.out _ _ (Or.inr (fun _ => X.out.c4 (i := 3) rfl)) ?_
    clear hK K
    try simp only [Act.put, seti, set0, setS]
    obtain ⟨V13, hV⟩ := wexi X.out
    rw [← hV] at X ⊢
    clear hV
    refine wpLate_one (i := 0) (o := ⟨some 39, _, _, _, _, _⟩) (by kernel_rfl) rfl (fun K hK => ?_)
    go_simp
    (go_at_call 23; refine (HOF.out _).mono ?_; rintro e u14 ⟨rfl, hb9⟩; have X := Lib.hid (X.out.next hb9); clear hb9)
    try go_wp2_with fail
    refine hK.out _ _ (Or.inr (fun _ => X.out.c4 (i := 3) rfl)) ?_
    clear hK K
    try simp only [Act.put, seti, set0, setS]
    refine wpLate_one (i := 3) (o := ⟨some 42, _, _, _, _, _⟩) (by kernel_rfl) rfl (fun K hK => ?_)
    go_simp
    (go_at_call 35; refine (HDD.out _).mono ?_; rintro e u15 ⟨rfl, hb9⟩; have X := Lib.hid (X.out.next hb9); clear hb9)
    try go_wp2_with fail
    refine hK.out _ _ (Or.inr (fun _ => X.out.c4 (i := 3) rfl)) ?_
    clear hK K
    try simp only [Act.put, seti, set0, setS]
    refine wpLate_one (i := 4) (o := ⟨some 43, _, _, _, _, _⟩) (by kernel_rfl) rfl (fun K hK => ?_)
    go_simp
    (go_at_call 37; refine (HDV.out _).mono ?_; rintro e u16 ⟨rfl, hb9⟩; have X := Lib.hid (X.out.next hb9); clear hb9)
    try go_wp2_with fail
    refine hK.out _ _ (Or.inr (fun _ => X.out.c4 (i := 3) rfl)) ?_
    clear hK K
    try simp only [Act.put, seti, set0, setS]
    refine wpLate_one (i := 6) (o := ⟨none, _, _, _, _, _⟩) (by kernel_rfl) rfl (fun K hK => ?_)
    obtain ⟨x0, x1, x2, x3⟩ := X.out.c4 (i := 4) rfl
    obtain ⟨y0, y1, y2, y3⟩ := X.out.f4 (i := 4) rfl
    have X := Lib.hid (X.out.set4 (i := 4) rfl (.bool bn) (.string mn) (.bool false) (.string kn))
    go_simp
    refine hK.out _ _ (Or.inr (fun _ => X.out.c4 (i := 3) rfl)) ?_
    clear hK K x0 x1 x2 x3 y0 y1 y2 y3
    try simp only [Act.put, seti, set0, setS]
    obtain ⟨W17, hV⟩ := wexi X.out
    rw [← hV] at X ⊢
    clear hV
    refine wpLate_done (by kernel_rfl) ?_ _
    go_wp2_with fail
    go_meet
    exact ⟨_, rfl, X.out.pick [0, 1, 2, 3, 4] _ [] rfl (by decide) (by simp)⟩
  obtain ⟨g10, rfl, hX⟩ := hcut
  have X := Lib.hid hX
  clear hX
  go_upto_region 11 with fail
  go_cut [11, 12] (fun s11 s12 wx => ∃ g11, s11 = .pointer (some ⟨g11, 0, none⟩) ∧ s12 = .int .i64 0 ∧ Sb w [(g5, #[.bool bl, .string ml, .bool false, .string kl], 25), (g6, #[.bool bh, .string mh, .bool false, .string kh], 25), (g7, #[.bool br, .string mr, .bool false, .string kr], 25), (g9, #[.bool false, .string dl, .bool false, .string ⟨#[]⟩], 25), (g10, #[.bool bn, .string mn, .bool false, .string kn], 25), (g11, #[.bool bl, .string ml, .bool false, .string kl], 25)] [] wx)
  case first =>
    refine wp_region_late (S := fun w' => (w'.cell? ⟨g5, 0, none⟩ = some (.bool bl) ∧ w'.cell? ⟨g5, 1, none⟩ = some (.string ml) ∧ w'.cell? ⟨g5, 2, none⟩ = some (.bool false) ∧ w'.cell? ⟨g5, 3, none⟩ = some (.string kl)) ∧ (w'.cell? ⟨g10, 0, none⟩ = some (.bool bn) ∧ w'.cell? ⟨g10, 1, none⟩ = some (.string mn) ∧ w'.cell? ⟨g10, 2, none⟩ = some (.bool false) ∧ w'.cell? ⟨g10, 3, none⟩ = some (.string kn))) (L := []) (by kernel_rfl) ?_
    have X := Lib.hid X.out.drew
    obtain ⟨V0, hV⟩ := wexi X.out
    rw [← hV] at X ⊢
    clear hV
    refine tk (i := 0) (oi := ⟨some 45, _, _, _, _, _⟩) (v := _) rfl (by kernel_rfl) (fun _ _ _ h => h) (⟨X.out.c4 (i := 0) rfl, X.out.c4 (i := 4) rfl⟩) (Or.inl ⟨by rfl, by intro w hSw; (try dsimp only at hSw); (first | (go_simp; done) | (go_simp; with_reducible rfl))⟩) ?_
    try simp only [Act.put, seti, set0, setS]
    refine tk (i := 1) (oi := ⟨some 46, _, _, _, _, _⟩) (v := _) rfl (by kernel_rfl) (fun _ _ _ h => h) (⟨X.out.c4 (i := 0) rfl, X.out.c4 (i := 4) rfl⟩) (Or.inl ⟨by rfl, by intro w hSw; (try dsimp only at hSw); (first | (go_simp; done) | (go_simp; with_reducible rfl))⟩) ?_
    try simp only [Act.put, seti, set0, setS]
    refine tk (i := 3) (oi := ⟨some 48, _, _, _, _, _⟩) (v := _) rfl (by kernel_rfl) (fun _ _ _ h => h) (⟨X.out.c4 (i := 0) rfl, X.out.c4 (i := 4) rfl⟩) (Or.inl ⟨by rfl, by intro w hSw; (try dsimp only at hSw); (first | (go_simp; done) | (go_simp; with_reducible rfl))⟩) ?_
    try simp only [Act.put, seti, set0, setS]
    refine tk (i := 4) (oi := ⟨some 49, _, _, _, _, _⟩) (v := _) rfl (by kernel_rfl) (fun _ _ _ h => h) (⟨X.out.c4 (i := 0) rfl, X.out.c4 (i := 4) rfl⟩) (Or.inl ⟨by rfl, by intro w hSw; (try dsimp only at hSw); (first | (go_simp; done) | (go_simp; with_reducible rfl))⟩) ?_
    try simp only [Act.put, seti, set0, setS]
    refine wpLate_two (i := 2) (j := 10) (o := ⟨some 47, _, _, _, _, _⟩) (o' := ⟨some 11, _, _, _, _, _⟩) (by kernel_rfl) rfl rfl (fun K hK => ?_) (fun K hK => ?_)
    · skip
      go_simp
      (go_at_call 31; refine (HSU.out _).mono ?_; rintro e u1 ⟨rfl, hb9⟩; have X := Lib.hid (X.out.next hb9); clear hb9)
      try go_wp2_with fail
      refine hK.out _ _ (Or.inr (fun _ => ⟨X.out.c4 (i := 0) rfl, X.out.c4 (i := 4) rfl⟩)) ?_
      clear hK K
      try simp only [Act.put, seti, set0, setS]
      refine wpLate_two (i := 5) (j := 10) (o := ⟨some 50, _, _, _, _, _⟩) (o' := ⟨some 11, _, _, _, _, _⟩) (by kernel_rfl) rfl rfl (fun K hK => ?_) (fun K hK => ?_)
      go_simp
      (go_at_call 30; refine (HAD.out _).mono ?_; rintro e u2 ⟨rfl, hb9⟩; have X := Lib.hid (X.out.next hb9); clear hb9)
      try go_wp2_with fail
      refine hK.out _ _ (Or.inr (fun _ => ⟨X.out.c4 (i := 0) rfl, X.out.c4 (i := 4) rfl⟩)) ?_
      clear hK K
      try simp only [Act.put, seti, set0, setS]
      refine wpLate_two (i := 6) (j := 10) (o := ⟨some 51, _, _, _, _, _⟩) (o' := ⟨some 11, _, _, _, _, _⟩) (by kernel_rfl) rfl rfl (fun K hK => ?_) (fun K hK => ?_)
      go_simp
      (go_at_call 49; refine (HS2.out _ (HE.out _ X.out.bel)).mono ?_; rintro e u3 ⟨rfl, hb9⟩; have X := Lib.hid (X.out.next hb9); clear hb9)
      try go_wp2_with fail
      refine hK.out _ _ (Or.inr (fun _ => ⟨X.out.c4 (i := 0) rfl, X.out.c4 (i := 4) rfl⟩)) ?_
      clear hK K
      try simp only [Act.put, seti, set0, setS]
      refine tk (i := 7) (oi := ⟨some 44, _, _, _, _, _⟩) (v := _) rfl (by kernel_rfl) (fun _ _ _ h => h) (⟨X.out.c4 (i := 0) rfl, X.out.c4 (i := 4) rfl⟩) (Or.inl ⟨by rfl, by intro w hSw; (try dsimp only at hSw); (first | (go_simp; done) | (go_simp; with_reducible rfl))⟩) ?_
      try simp only [Act.put, seti, set0, setS]
      refine tk (i := 8) (oi := ⟨some 52, _, _, _, _, _⟩) (v := _) rfl (by kernel_rfl) (fun _ _ _ h => h) (⟨X.out.c4 (i := 0) rfl, X.out.c4 (i := 4) rfl⟩) (Or.inl ⟨by rfl, by intro w hSw; (try dsimp only at hSw); (first | (go_simp; done) | (go_simp; with_reducible rfl))⟩) ?_
      try simp only [Act.put, seti, set0, setS]
      refine tk (i := 9) (oi := ⟨some 53, _, _, _, _, _⟩) (v := _) rfl (by kernel_rfl) (fun _ _ _ h => h) (⟨X.out.c4 (i := 0) rfl, X.out.c4 (i := 4) rfl⟩) (Or.inl ⟨by rfl, by intro w hSw; (try dsimp only at hSw); (first | (go_simp; done) | (go_simp; with_reducible rfl))⟩) ?_
      try simp only [Act.put, seti, set0, setS]
      refine wpLate_one (i := 10) (o := ⟨some 11, _, _, _, _, _⟩) (by kernel_rfl) rfl (fun K hK => ?_)
      go_simp
      have X := Lib.hid (X.out.new #[.bool false, .string ⟨#[]⟩, .bool false, .string ⟨#[]⟩] 25)
      refine hK.out _ _ (Or.inr (fun _ => ⟨X.out.c4 (i := 0) rfl, X.out.c4 (i := 4) rfl⟩)) ?_
      clear hK K
      try simp only [Act.put, seti, set0, setS]
      obtain ⟨V4, hV⟩ := wexi X.out
      rw [← hV] at X ⊢
      clear hV
      refine wpLate_one (i := 11) (o := ⟨none, _, _, _, _, _⟩) (by kernel_rfl) rfl (fun K hK => ?_)
      obtain ⟨x0, x1, x2, x3⟩ := X.out.c4 (i := 5) rfl
      obtain ⟨y0, y1, y2, y3⟩ := X.out.f4 (i := 5) rfl
      have X := Lib.hid (X.out.set4 (i := 5) rfl (.bool bl) (.string ml) (.bool false) (.string kl))
      go_simp
      refine hK.out _ _ (Or.inr (fun _ => ⟨X.out.c4 (i := 0) rfl, X.out.c4 (i := 4) rfl⟩)) ?_
      clear hK K x0 x1 x2 x3 y0 y1 y2 y3
      try simp only [Act.put, seti, set0, setS]
      obtain ⟨W5, hV⟩ := wexi X.out
      rw [← hV] at X ⊢
      clear hV
      refine tk (i := 12) (oi := ⟨some 12, _, _, _, _, _⟩) (v := _) rfl (by kernel_rfl) (fun _ _ _ h => h) (⟨X.out.c4 (i := 0) rfl, X.out.c4 (i := 4) rfl⟩) (Or.inl ⟨by rfl, by intro w hSw; (try dsimp only at hSw); (first | (go_simp; done) | (go_simp; with_reducible rfl))⟩) ?_
      try simp only [Act.put, seti, set0, setS]
      refine wpLate_done (by kernel_rfl) ?_ _
      go_wp2_with fail
      go_meet
      exact ⟨_, rfl, rfl, X.out.pick [0, 1, 2, 3, 4, 5] _ [] rfl (by decide) (by simp)⟩
      go_simp
      have X := Lib.hid (X.out.new #[.bool false, .string ⟨#[]⟩, .bool false, .string ⟨#[]⟩] 25)
      refine hK.out _ _ (Or.inr (fun _ => ⟨X.out.c4 (i := 0) rfl, X.out.c4 (i := 4) rfl⟩)) ?_
      clear hK K
      try simp only [Act.put, seti, set0, setS]
      obtain ⟨V6, hV⟩ := wexi X.out
      rw [← hV] at X ⊢
      clear hV
      refine wpLate_one (i := 6) (o := ⟨some 51, _, _, _, _, _⟩) (by kernel_rfl) rfl (fun K hK => ?_)
      go_simp
      (go_at_call 49; refine (HS2.out _ (HE.out _ X.out.bel)).mono ?_; rintro e u7 ⟨rfl, hb9⟩; have X := Lib.hid (X.out.next hb9); clear hb9)
      try go_wp2_with fail
      refine hK.out _ _ (Or.inr (fun _ => ⟨X.out.c4 (i := 0) rfl, X.out.c4 (i := 4) rfl⟩)) ?_
      clear hK K
      try simp only [Act.put, seti, set0, setS]
      refine tk (i := 7) (oi := ⟨some 44, _, _, _, _, _⟩) (v := _) rfl (by kernel_rfl) (fun _ _ _ h => h) (⟨X.out.c4 (i := 0) rfl, X.out.c4 (i := 4) rfl⟩) (Or.inl ⟨by rfl, by intro w hSw; (try dsimp only at hSw); (first | (go_simp; done) | (go_simp; with_reducible rfl))⟩) ?_
      try simp only [Act.put, seti, set0, setS]
      refine tk (i := 8) (oi := ⟨some 52, _, _, _, _, _⟩) (v := _) rfl (by kernel_rfl) (fun _ _ _ h => h) (⟨X.out.c4 (i := 0) rfl, X.out.c4 (i := 4) rfl⟩) (Or.inl ⟨by rfl, by intro w hSw; (try dsimp only at hSw); (first | (go_simp; done) | (go_simp; with_reducible rfl))⟩) ?_
      try simp only [Act.put, seti, set0, setS]
      refine tk (i := 9) (oi := ⟨some 53, _, _, _, _, _⟩) (v := _) rfl (by kernel_rfl) (fun _ _ _ h => h) (⟨X.out.c4 (i := 0) rfl, X.out.c4 (i := 4) rfl⟩) (Or.inl ⟨by rfl, by intro w hSw; (try dsimp only at hSw); (first | (go_simp; done) | (go_simp; with_reducible rfl))⟩) ?_
      try simp only [Act.put, seti, set0, setS]
      refine wpLate_one (i := 11) (o := ⟨none, _, _, _, _, _⟩) (by kernel_rfl) rfl (fun K hK => ?_)
      obtain ⟨x0, x1, x2, x3⟩ := X.out.c4 (i := 5) rfl
      obtain ⟨y0, y1, y2, y3⟩ := X.out.f4 (i := 5) rfl
      have X := Lib.hid (X.out.set4 (i := 5) rfl (.bool bl) (.string ml) (.bool false) (.string kl))
      go_simp
      refine hK.out _ _ (Or.inr (fun _ => ⟨X.out.c4 (i := 0) rfl, X.out.c4 (i := 4) rfl⟩)) ?_
      clear hK K x0 x1 x2 x3 y0 y1 y2 y3
      try simp only [Act.put, seti, set0, setS]
      obtain ⟨W8, hV⟩ := wexi X.out
      rw [← hV] at X ⊢
      clear hV
      refine tk (i := 12) (oi := ⟨some 12, _, _, _, _, _⟩) (v := _) rfl (by kernel_rfl) (fun _ _ _ h => h) (⟨X.out.c4 (i := 0) rfl, X.out.c4 (i := 4) rfl⟩) (Or.inl ⟨by rfl, by intro w hSw; (try dsimp only at hSw); (first | (go_simp; done) | (go_simp; with_reducible rfl))⟩) ?_
      try simp only [Act.put, seti, set0, setS]
      refine wpLate_done (by kernel_rfl) ?_ _
      go_wp2_with fail
      go_meet
      exact ⟨_, rfl, rfl, X.out.pick [0, 1, 2, 3, 4, 5] _ [] rfl (by decide) (by simp)⟩
      go_simp
      have X := Lib.hid (X.out.new #[.bool false, .string ⟨#[]⟩, .bool false, .string ⟨#[]⟩] 25)
      refine hK.out _ _ (Or.inr (fun _ => ⟨X.out.c4 (i := 0) rfl, X.out.c4 (i := 4) rfl⟩)) ?_
      clear hK K
      try simp only [Act.put, seti, set0, setS]
      obtain ⟨V9, hV⟩ := wexi X.out
      rw [← hV] at X ⊢
      clear hV
      refine wpLate_one (i := 5) (o := ⟨some 50, _, _, _, _, _⟩) (by kernel_rfl) rfl (fun K hK => ?_)
      go_simp
      (go_at_call 30; refine (HAD.out _).mono ?_; rintro e u10 ⟨rfl, hb9⟩; have X := Lib.hid (X.out.next hb9); clear hb9)
      try go_wp2_with fail
      refine hK.out _ _ (Or.inr (fun _ => ⟨X.out.c4 (i := 0) rfl, X.out.c4 (i := 4) rfl⟩)) ?_
      clear hK K
      try simp only [Act.put, seti, set0, setS]
      refine wpLate_one (i := 6) (o := ⟨some 51, _, _, _, _, _⟩) (by kernel_rfl) rfl (fun K hK => ?_)
      go_simp
      (go_at_call 49; refine (HS2.out _ (HE.out _ X.out.bel)).mono ?_; rintro e u11 ⟨rfl, hb9⟩; have X := Lib.hid (X.out.next hb9); clear hb9)
      try go_wp2_with fail
      refine hK.out _ _ (Or.inr (fun _ => ⟨X.out.c4 (i := 0) rfl, X.out.c4 (i := 4) rfl⟩)) ?_
      clear hK K
      try simp only [Act.put, seti, set0, setS]
      refine tk (i := 7) (oi := ⟨some 44, _, _, _, _, _⟩) (v := _) rfl (by kernel_rfl) (fun _ _ _ h => h) (⟨X.out.c4 (i := 0) rfl, X.out.c4 (i := 4) rfl⟩) (Or.inl ⟨by rfl, by intro w hSw; (try dsimp only at hSw); (first | (go_simp; done) | (go_simp; with_reducible rfl))⟩) ?_
      try simp only [Act.put, seti, set0, setS]
      refine tk (i := 8) (oi := ⟨some 52, _, _, _, _, _⟩) (v := _) rfl (by kernel_rfl) (fun _ _ _ h => h) (⟨X.out.c4 (i := 0) rfl, X.out.c4 (i := 4) rfl⟩) (Or.inl ⟨by rfl, by intro w hSw; (try dsimp only at hSw); (first | (go_simp; done) | (go_simp; with_reducible rfl))⟩) ?_
      try simp only [Act.put, seti, set0, setS]
      refine tk (i := 9) (oi := ⟨some 53, _, _, _, _, _⟩) (v := _) rfl (by kernel_rfl) (fun _ _ _ h => h) (⟨X.out.c4 (i := 0) rfl, X.out.c4 (i := 4) rfl⟩) (Or.inl ⟨by rfl, by intro w hSw; (try dsimp only at hSw); (first | (go_simp; done) | (go_simp; with_reducible rfl))⟩) ?_
      try simp only [Act.put, seti, set0, setS]
      refine wpLate_one (i := 11) (o := ⟨none, _, _, _, _, _⟩) (by kernel_rfl) rfl (fun K hK => ?_)
      obtain ⟨x0, x1, x2, x3⟩ := X.out.c4 (i := 5) rfl
      obtain ⟨y0, y1, y2, y3⟩ := X.out.f4 (i := 5) rfl
      have X := Lib.hid (X.out.set4 (i := 5) rfl (.bool bl) (.string ml) (.bool false) (.string kl))
      go_simp
      refine hK.out _ _ (Or.inr (fun _ => ⟨X.out.c4 (i := 0) rfl, X.out.c4 (i := 4) rfl⟩)) ?_
      clear hK K x0 x1 x2 x3 y0 y1 y2 y3
      try simp only [Act.put, seti, set0, setS]
      obtain ⟨W12, hV⟩ := wexi X.out
      rw [← hV] at X ⊢
      clear hV
      refine tk (i := 12) (oi := ⟨some 12, _, _, _, _, _⟩) (v := _) rfl (by kernel_rfl) (fun _ _ _ h => h) (⟨X.out.c4 (i := 0) rfl, X.out.c4 (i := 4) rfl⟩) (Or.inl ⟨by rfl, by intro w hSw; (try dsimp only at hSw); (first | (go_simp; done) | (go_simp; with_reducible rfl))⟩) ?_
      try simp only [Act.put, seti, set0, setS]
      refine wpLate_done (by kernel_rfl) ?_ _
      go_wp2_with fail
      go_meet
      exact ⟨_, rfl, rfl, X.out.pick [0, 1, 2, 3, 4, 5] _ [] rfl (by decide) (by simp)⟩
    go_simp
    have X := Lib.hid (X.out.new #[.bool false, .string ⟨#[]⟩, .bool false, .string ⟨#[]⟩] 25)
    refine hK.out _ _ (Or.inr (fun _ => ⟨X.out.c4 (i := 0) rfl, X.out.c4 (i := 4) rfl⟩)) ?_
    clear hK K
    try simp only [Act.put, seti, set0, setS]
    obtain ⟨V13, hV⟩ := wexi X.out
    rw [← hV] at X ⊢
    clear hV
    refine wpLate_one (i := 2) (o := ⟨some 47, _, _, _, _, _⟩) (by kernel_rfl) rfl (fun K hK => ?_)
    go_simp
    (go_at_call 31; refine (HSU.out _).mono ?_; rintro e u14 ⟨rfl, hb9⟩; have X := Lib.hid (X.out.next hb9); clear hb9)
    try go_wp2_with fail
    refine hK.out _ _ (Or.inr (fun _ => ⟨X.out.c4 (i := 0) rfl, X.out.c4 (i := 4) rfl⟩)) ?_
    clear hK K
    try simp only [Act.put, seti, set0, setS]
    refine wpLate_one (i := 5) (o := ⟨some 50, _, _, _, _, _⟩) (by kernel_rfl) rfl (fun K hK => ?_)
    go_simp
    (go_at_call 30; refine (HAD.out _).mono ?_; rintro e u15 ⟨rfl, hb9⟩; have X := Lib.hid (X.out.next hb9); clear hb9)
    try go_wp2_with fail
    refine hK.out _ _ (Or.inr (fun _ => ⟨X.out.c4 (i := 0) rfl, X.out.c4 (i := 4) rfl⟩)) ?_
    clear hK K
    try simp only [Act.put, seti, set0, setS]
    refine wpLate_one (i := 6) (o := ⟨some 51, _, _, _, _, _⟩) (by kernel_rfl) rfl (fun K hK => ?_)
    go_simp
    (go_at_call 49; refine (HS2.out _ (HE.out _ X.out.bel)).mono ?_; rintro e u16 ⟨rfl, hb9⟩; have X := Lib.hid (X.out.next hb9); clear hb9)
    try go_wp2_with fail
    refine hK.out _ _ (Or.inr (fun _ => ⟨X.out.c4 (i := 0) rfl, X.out.c4 (i := 4) rfl⟩)) ?_
    clear hK K
    try simp only [Act.put, seti, set0, setS]
    refine tk (i := 7) (oi := ⟨some 44, _, _, _, _, _⟩) (v := _) rfl (by kernel_rfl) (fun _ _ _ h => h) (⟨X.out.c4 (i := 0) rfl, X.out.c4 (i := 4) rfl⟩) (Or.inl ⟨by rfl, by intro w hSw; (try dsimp only at hSw); (first | (go_simp; done) | (go_simp; with_reducible rfl))⟩) ?_
    try simp only [Act.put, seti, set0, setS]
    refine tk (i := 8) (oi := ⟨some 52, _, _, _, _, _⟩) (v := _) rfl (by kernel_rfl) (fun _ _ _ h => h) (⟨X.out.c4 (i := 0) rfl, X.out.c4 (i := 4) rfl⟩) (Or.inl ⟨by rfl, by intro w hSw; (try dsimp only at hSw); (first | (go_simp; done) | (go_simp; with_reducible rfl))⟩) ?_
    try simp only [Act.put, seti, set0, setS]
    refine tk (i := 9) (oi := ⟨some 53, _, _, _, _, _⟩) (v := _) rfl (by kernel_rfl) (fun _ _ _ h => h) (⟨X.out.c4 (i := 0) rfl, X.out.c4 (i := 4) rfl⟩) (Or.inl ⟨by rfl, by intro w hSw; (try dsimp only at hSw); (first | (go_simp; done) | (go_simp; with_reducible rfl))⟩) ?_
    try simp only [Act.put, seti, set0, setS]
    refine wpLate_one (i := 11) (o := ⟨none, _, _, _, _, _⟩) (by kernel_rfl) rfl (fun K hK => ?_)
    obtain ⟨x0, x1, x2, x3⟩ := X.out.c4 (i := 5) rfl
    obtain ⟨y0, y1, y2, y3⟩ := X.out.f4 (i := 5) rfl
    have X := Lib.hid (X.out.set4 (i := 5) rfl (.bool bl) (.string ml) (.bool false) (.string kl))
    go_simp
    refine hK.out _ _ (Or.inr (fun _ => ⟨X.out.c4 (i := 0) rfl, X.out.c4 (i := 4) rfl⟩)) ?_
    clear hK K x0 x1 x2 x3 y0 y1 y2 y3
    try simp only [Act.put, seti, set0, setS]
    obtain ⟨W17, hV⟩ := wexi X.out
    rw [← hV] at X ⊢
    clear hV
    refine tk (i := 12) (oi := ⟨some 12, _, _, _, _, _⟩) (v := _) rfl (by kernel_rfl) (fun _ _ _ h => h) (⟨X.out.c4 (i := 0) rfl, X.out.c4 (i := 4) rfl⟩) (Or.inl ⟨by rfl, by intro w hSw; (try dsimp only at hSw); (first | (go_simp; done) | (go_simp; with_reducible rfl))⟩) ?_
    try simp only [Act.put, seti, set0, setS]
    refine wpLate_done (by kernel_rfl) ?_ _
    go_wp2_with fail
    go_meet
    exact ⟨_, rfl, rfl, X.out.pick [0, 1, 2, 3, 4, 5] _ [] rfl (by decide) (by simp)⟩
  obtain ⟨g11, rfl, rfl, hX⟩ := hcut
  have X := Lib.hid hX
  clear hX
  obtain ⟨a0, a1, a2, a3⟩ := X.out.c4 (i := 0) rfl
  obtain ⟨c0, c1, c2, c3⟩ := X.out.c4 (i := 1) rfl
  obtain ⟨d0, d1, d2, d3⟩ := X.out.c4 (i := 2) rfl
  obtain ⟨f0, f1, f2, f3⟩ := X.out.c4 (i := 5) rfl
  go_wp2_with fail
  refine (HCK.out _).mono ?_
  rintro e u4 ⟨rfl, hb9⟩
  have X := Lib.hid (X.out.next hb9)
  clear hb9
  clear a0 a1 a2 a3 c0 c1 c2 c3 d0 d1 d2 d3 f0 f1 f2 f3
  obtain ⟨a0, a1, a2, a3⟩ := X.out.c4 (i := 0) rfl
  obtain ⟨c0, c1, c2, c3⟩ := X.out.c4 (i := 1) rfl
  obtain ⟨d0, d1, d2, d3⟩ := X.out.c4 (i := 2) rfl
  obtain ⟨f0, f1, f2, f3⟩ := X.out.c4 (i := 5) rfl
  go_wp2_with fail
  refine (HWI.out _).mono ?_
  rintro e u5 ⟨rfl, hb9⟩
  have X := Lib.hid (X.out.next hb9)
  clear hb9
  clear a0 a1 a2 a3 c0 c1 c2 c3 d0 d1 d2 d3 f0 f1 f2 f3
  obtain ⟨a0, a1, a2, a3⟩ := X.out.c4 (i := 0) rfl
  obtain ⟨f0, f1, f2, f3⟩ := X.out.c4 (i := 5) rfl
  go_wp2
  go_ret
  exact ⟨rfl, X.out.bel⟩

theorem rdeep_walk (n0 e0 : Int) (u0 v0 : Nat) (hn0 : -9223372036854775808 ≤ n0 ∧ n0 ≤ 9223372036854775807) (he0 : -9223372036854775808 ≤ e0 ∧ e0 ≤ 9223372036854775807) (hu0 : u0 < 256) (hv0 : v0 < 256) (n1 e1 : Int) (u1 v1 : Nat) (hn1 : -9223372036854775808 ≤ n1 ∧ n1 ≤ 9223372036854775807) (he1 : -9223372036854775808 ≤ e1 ∧ e1 ≤ 9223372036854775807) (hu1 : u1 < 256) (hv1 : v1 < 256) (w : World) (hE : Env w) :
    Calls Tryz.prog 11 #[.agg #[.int .i64 n0, .int .i64 e0, .int .u8 (u0 : Int), .int .u8 (v0 : Int)], .agg #[.int .i64 n1, .int .i64 e1, .int .u8 (u1 : Int), .int .u8 (v1 : Int)]] w (RetB w (.bool true)) := by
  obtain ⟨ba, ma, ka, ha⟩ := Rq.some_ (fracQ n0 e0 u0 v0)
  have hA := fun V => rat_det n0 e0 u0 v0 ha hn0.1 hn0.2 he0.1 he0.2 hu0 hv0 V
  have za : Sz 16 (fracQ n0 e0 u0 v0) := frac_small n0 e0 u0 v0 hn0.1 hn0.2 he0.1 he0.2
  generalize fracQ n0 e0 u0 v0 = qa at *
  obtain ⟨bb, mb, kb, hb⟩ := Rq.some_ (fracQ n1 e1 u1 v1)
  have hB := fun V => rat_det n1 e1 u1 v1 hb hn1.1 hn1.2 he1.1 he1.2 hu1 hv1 V
  have zb : Sz 16 (fracQ n1 e1 u1 v1) := frac_small n1 e1 u1 v1 hn1.1 hn1.2 he1.1 he1.2
  generalize fracQ n1 e1 u1 v1 = qb at *
  have ya := za.m ha (by omega)
  have yb := zb.m hb (by omega)
  have hC := fun V => rCompare_f ha hb ya.1 yb.1 ya.2 yb.2 V
  have h3 := cmpQ_three qa qb
  by_cases hz : 0 < cmpQ qa qb
  · have hlt : qb < qa := Rat.not_le.1 fun h => by have := cmpQ_le.2 h; omega
    exact rdeep_lt n0 e0 u0 v0 n1 e1 u1 v1 hA hB hC (fun _ => ⟨⟨rfl, rfl, rfl⟩, ⟨rfl, rfl, rfl⟩⟩) (fun h => absurd hz h) hb ha zb za hlt w hE
  · by_cases h0 : cmpQ qa qb = 0
    · exact rdeep_eq n0 e0 u0 v0 n1 e1 u1 v1 hA hB hC hz (fun _ => ⟨⟨rfl, rfl, rfl⟩, ⟨rfl, rfl, rfl⟩⟩) ha hb za zb (cmpQ_zero.1 h0) w hE
    · have hlt : qa < qb := Rat.not_le.1 fun h => by have := cmpQ_ge.2 h; omega
      exact rdeep_lt n0 e0 u0 v0 n1 e1 u1 v1 hA hB hC (fun h => absurd h hz) (fun _ => ⟨⟨rfl, rfl, rfl⟩, ⟨rfl, rfl, rfl⟩⟩) ha hb za zb hlt w hE
end Go.Proofs.YtahehlajpaoiiaaGreatDoor
