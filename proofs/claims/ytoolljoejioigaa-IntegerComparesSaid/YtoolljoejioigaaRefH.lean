/-
  The reference's sign.
-/
import Derived.Test.YtoolljoejioigaaRefG
import Derived.Test.YtoolljoejioigaaLawA
import Derived.Test.YtoolljoejioigaaRefF
import Derived.Deep.RegionWith
import Derived.Deep.DeepCutAuto
namespace Go.Proofs.Ytoolljoejioigaa
open Go.RowKit
attribute [local go_sem ↓] Go.wp_at_zero Go.wp_at_succ

theorem refSign_any (z : Int) (w : World) : Calls Try.prog 23 #[enc z] w (RetB w (.int .i64 z.sign)) := by
  unfold enc
  rcases Int.lt_trichotomy z 0 with h | h | h
  · have h1 : decide (z < 0) = true := by simpa using h
    have h2 : ¬(mag z.natAbs).size = 0 := by rw [mag_zero_iff]; omega
    rw [h1, Int.sign_eq_neg_one_of_neg h]
    generalize mag z.natAbs = m at *
    clear h h1
    go_enter Try.func23, Try.ntmps23
    go_wp2
    go_ret
    exact ⟨rfl, (Below.refl _ _).alloc (Nat.le_refl _) _⟩
  · subst h
    have h2 : (mag (0 : Int).natAbs).size = 0 := by rw [mag_zero_iff]; rfl
    generalize mag (0 : Int).natAbs = m at *
    have h1 : decide ((0 : Int) < 0) = false := rfl
    have h3 : (0 : Int).sign = 0 := rfl
    rw [h1, h3]
    clear h1 h3
    go_enter Try.func23, Try.ntmps23
    go_wp2
    go_ret
    exact ⟨rfl, (Below.refl _ _).alloc (Nat.le_refl _) _⟩
  · have h1 : decide (z < 0) = false := by simp; omega
    have h2 : ¬(mag z.natAbs).size = 0 := by rw [mag_zero_iff]; omega
    rw [h1, Int.sign_eq_one_of_pos h]
    generalize mag z.natAbs = m at *
    clear h h1
    go_enter Try.func23, Try.ntmps23
    go_wp2
    go_ret
    exact ⟨rfl, (Below.refl _ _).alloc (Nat.le_refl _) _⟩

/-- How two integers compare. -/
def cmpZ (x y : Int) : Int := if x < y then -1 else if y < x then 1 else 0

theorem cmpZ_diff {x y : Int} (h : x.sign ≠ y.sign) : cmpZ x y = if x.sign < y.sign then -1 else 1 := by
  unfold cmpZ
  rcases Int.lt_trichotomy x 0 with h1 | h1 | h1 <;> rcases Int.lt_trichotomy y 0 with h2 | h2 | h2 <;>
    simp [Int.sign_eq_neg_one_of_neg, Int.sign_eq_one_of_pos, h1, h2] at h ⊢ <;> omega

theorem cmpZ_same {x y : Int} (h : x.sign = y.sign) : cmpZ x y = ord x.natAbs y.natAbs * x.sign := by
  unfold cmpZ ord
  rcases Int.lt_trichotomy x 0 with h1 | h1 | h1 <;> rcases Int.lt_trichotomy y 0 with h2 | h2 | h2 <;>
    simp [Int.sign_eq_neg_one_of_neg, Int.sign_eq_one_of_pos, h1, h2] at h ⊢
  · split <;> split <;> (try split) <;> (try split) <;> omega
  · split <;> split <;> (try split) <;> (try split) <;> omega

theorem cmpZ_in (x y : Int) : -1 ≤ cmpZ x y ∧ cmpZ x y ≤ 1 := by unfold cmpZ; split <;> (try split) <;> omega
end Go.Proofs.Ytoolljoejioigaa
