import Derived.Test.YtkaefmfophopoaaGRefG
import Derived.Test.YtkaefmfophopoaaGIntM
import Derived.Deep.RegionWith
import Derived.Deep.DeepCutAuto

/-
  The reference's sign.
-/
namespace Go.Proofs.Ytkaefmfophopoaa
open Go.RowKit
attribute [local go_sem ↓] Go.wp_at_zero Go.wp_at_succ

set_option maxRecDepth 100000 in
theorem refSign_any (z : Int) (w : World) : Calls Try.prog 23 #[enc z] w (RetB w (.int .i64 z.sign)) := by
  unfold enc
  rcases Int.lt_trichotomy z 0 with h | h | h
  · have h1 : decide (z < 0) = true := by simpa using h
    have h2 : ¬(mag z.natAbs).size = 0 := by rw [mag_zero_iff]; omega
    rw [h1, Int.sign_eq_neg_one_of_neg h]
    generalize mag z.natAbs = m at *
    clear h h1
    go_enter Try.func23, Try.ntmps23
    go_wp2
    go_ret
    exact ⟨rfl, (Below.refl _ _).alloc (Nat.le_refl _) _⟩
  · subst h
    have h2 : (mag (0 : Int).natAbs).size = 0 := by rw [mag_zero_iff]; rfl
    generalize mag (0 : Int).natAbs = m at *
    have h1 : decide ((0 : Int) < 0) = false := rfl
    have h3 : (0 : Int).sign = 0 := rfl
    rw [h1, h3]
    clear h1 h3
    go_enter Try.func23, Try.ntmps23
    go_wp2
    go_ret
    exact ⟨rfl, (Below.refl _ _).alloc (Nat.le_refl _) _⟩
  · have h1 : decide (z < 0) = false := by simp; omega
    have h2 : ¬(mag z.natAbs).size = 0 := by rw [mag_zero_iff]; omega
    rw [h1, Int.sign_eq_one_of_pos h]
    generalize mag z.natAbs = m at *
    clear h h1
    go_enter Try.func23, Try.ntmps23
    go_wp2
    go_ret
    exact ⟨rfl, (Below.refl _ _).alloc (Nat.le_refl _) _⟩

/-- How two integers compare. -/
def cmpZ (x y : Int) : Int := if x < y then -1 else if y < x then 1 else 0

theorem cmpZ_diff {x y : Int} (h : x.sign ≠ y.sign) : cmpZ x y = if x.sign < y.sign then -1 else 1 := by
  unfold cmpZ
  rcases Int.lt_trichotomy x 0 with h1 | h1 | h1 <;> rcases Int.lt_trichotomy y 0 with h2 | h2 | h2 <;>
    simp [Int.sign_eq_neg_one_of_neg, Int.sign_eq_one_of_pos, h1, h2] at h ⊢ <;> omega

theorem cmpZ_same {x y : Int} (h : x.sign = y.sign) : cmpZ x y = ord x.natAbs y.natAbs * x.sign := by
  unfold cmpZ ord
  rcases Int.lt_trichotomy x 0 with h1 | h1 | h1 <;> rcases Int.lt_trichotomy y 0 with h2 | h2 | h2 <;>
    simp [Int.sign_eq_neg_one_of_neg, Int.sign_eq_one_of_pos, h1, h2] at h ⊢
  · split <;> split <;> (try split) <;> (try split) <;> omega
  · split <;> split <;> (try split) <;> (try split) <;> omega

theorem cmpZ_in (x y : Int) : -1 ≤ cmpZ x y ∧ cmpZ x y ≤ 1 := by unfold cmpZ; split <;> (try split) <;> omega
end Go.Proofs.Ytkaefmfophopoaa


/-
  The reference's comparison.
-/
namespace Go.Proofs.Ytkaefmfophopoaa
open Go.RowKit
attribute [local go_sem ↓] Go.wp_at_zero Go.wp_at_succ

set_option maxHeartbeats 4000000 in
set_option maxRecDepth 100000 in
theorem refCompare_any (x y : Int) (h1 : (mag x.natAbs).size ≤ 100000) (h2 : (mag y.natAbs).size ≤ 100000) (b1 b2 : Bool) (m1 m2 : ByteArray) (e1 : enc x = .agg #[.bool b1, .string m1]) (e2 : enc y = .agg #[.bool b2, .string m2]) (w : World) :
    Calls Try.prog 19 #[.agg #[.bool b1, .string m1], .agg #[.bool b2, .string m2]] w (RetB w (.int .i64 (cmpZ x y))) := by
  have hs1 := fun V => refSign_any x V
  have hs2 := fun V => refSign_any y V
  rw [e1] at hs1
  rw [e2] at hs2
  have g1 : m1 = mag x.natAbs ∧ b1 = decide (x < 0) := by unfold enc at e1; cases e1; exact ⟨rfl, rfl⟩
  have g2 : m2 = mag y.natAbs ∧ b2 = decide (y < 0) := by unfold enc at e2; cases e2; exact ⟨rfl, rfl⟩
  have hd1 := fun V => digits_any b1 m1 V (by rw [g1.1]; omega)
  have hd2 := fun V => digits_any b2 m2 V (by rw [g2.1]; omega)
  rw [g1.1, bval_mag, ← g1.1] at hd1
  rw [g2.1, bval_mag, ← g2.1] at hd2
  have hm1 : m1.size ≤ 100000 := by rw [g1.1]; exact h1
  have hm2 : m2.size ≤ 100000 := by rw [g2.1]; exact h2
  have HS1 := Lib.hid hs1
  have HS2 := Lib.hid hs2
  have HD1 := Lib.hid hd1
  have HD2 := Lib.hid hd2
  have hdf := cmpZ_diff (x := x) (y := y)
  have hsm := cmpZ_same (x := x) (y := y)
  have hin := cmpZ_in x y
  generalize cmpZ x y = r at *
  generalize x.sign = sx at *
  generalize y.sign = sy at *
  generalize x.natAbs = X at *
  generalize y.natAbs = Y at *
  clear hs1 hs2 hd1 hd2 g1 g2 e1 e2 h1 h2
  have hne1 : ¬ (w.heap.size = w.heap.size + 1) := by omega
  have hne2 : ¬ (w.heap.size + 1 = w.heap.size) := by omega
  by_cases hs : sx = sy
  · have hq : (sx != sy) = false := by simpa using hs
    have hr := hsm hs
    subst hs
    obtain ⟨o, ho⟩ : ∃ o, ord X Y = o := ⟨_, rfl⟩
    rw [ho] at hr
    have hwr : IntKind.i64.wrap (o * sx) = r := by rw [← hr]; exact IntWalk.i64_in _ (by omega)
    have HO := Lib.hid ho
    clear hdf hsm hr ho hin
    go_enter Try.func19, Try.ntmps19
    go_wp2_with fail
    go_region_held3 (fun w' => w'.cell? ⟨w.heap.size, 0, none⟩ = some (.bool b1) ∧ w'.cell? ⟨w.heap.size, 1, none⟩ = some (.string m1) ∧ w'.cell? ⟨w.heap.size + 1, 0, none⟩ = some (.bool b2) ∧ w'.cell? ⟨w.heap.size + 1, 1, none⟩ = some (.string m2) ∧ w.heap.size + 2 ≤ w'.heap.size)
      (first
        | go_keep
        | (go_split_ands
           have hb9 := ‹Below _ _ _›
           refine ⟨?_, ?_, ?_, ?_, ?_⟩
           · first | assumption | (rw [hb9.cell (by simp <;> omega)]; first | assumption | simp)
           · first | assumption | (rw [hb9.cell (by simp <;> omega)]; first | assumption | simp)
           · first | assumption | (rw [hb9.cell (by simp <;> omega)]; first | assumption | simp)
           · first | assumption | (rw [hb9.cell (by simp <;> omega)]; first | assumption | simp)
           · first | assumption | (have := hb9.size; simp at this ⊢; omega)))
      (first
        | (go_at_call 23; (with_reducible refine (HS1.out _).mono ?_); rintro e w1 ⟨rfl, hw1⟩)
        | (go_at_call 23; (with_reducible refine (HS2.out _).mono ?_); rintro e w2 ⟨rfl, hw2⟩))
    rename_i hHeld
    obtain ⟨c0, c1, c2, c3, c4⟩ := hHeld
    have B2 : Below w.heap.size w w2 := ((((((Below.refl _ _).alloc (Nat.le_refl _) _).alloc (by simp <;> omega) _).drew).trans (hw1.mono (by simp <;> omega))).trans (hw2.mono (by have := hw1.size; simp at this; omega)))
    have HB2 := Lib.hid B2
    clear hw1 hw2 B2
    go_wp2_with fail
    go_region_held3 (fun w' => w'.cell? ⟨w.heap.size, 0, none⟩ = some (.bool b1) ∧ w'.cell? ⟨w.heap.size, 1, none⟩ = some (.string m1) ∧ w'.cell? ⟨w.heap.size + 1, 0, none⟩ = some (.bool b2) ∧ w'.cell? ⟨w.heap.size + 1, 1, none⟩ = some (.string m2) ∧ w.heap.size + 2 ≤ w'.heap.size)
      (first
        | go_keep
        | (go_split_ands
           have hb9 := ‹Below _ _ _›
           refine ⟨?_, ?_, ?_, ?_, ?_⟩
           · first | assumption | (rw [hb9.cell (by simp <;> omega)]; first | assumption | simp)
           · first | assumption | (rw [hb9.cell (by simp <;> omega)]; first | assumption | simp)
           · first | assumption | (rw [hb9.cell (by simp <;> omega)]; first | assumption | simp)
           · first | assumption | (rw [hb9.cell (by simp <;> omega)]; first | assumption | simp)
           · first | assumption | (have := hb9.size; simp at this ⊢; omega)))
      (first
        | (go_at_call 41; (with_reducible refine (HD1.out _).mono ?_); rintro e w3 ⟨A1, n1, k1, hn1, rfl, hd1, hw3⟩)
        | (go_at_call 41; (with_reducible refine (HD2.out _).mono ?_); rintro e w4 ⟨A2, n2, k2, hn2, rfl, hd2, hw4⟩)
        | (go_at_call 44; refine (order_any A1 A2 n1 n2 k1 k2 X Y _ ?_ ?_ ?_ ?_).mono ?_; (omega); (omega); (exact hd1.below hw4); (exact hd2); rw [HO.out]; rintro e w5 ⟨rfl, rfl⟩)
        | (go_at_call 23; (with_reducible refine (HS1.out _).mono ?_); rintro e w6 ⟨rfl, hw6⟩))
    have B6 : Below w.heap.size w w6 := (((HB2.out.drew).trans (hw3.mono (by simp; omega))).trans (hw4.mono (by have := hw3.size; simp at this; omega))).trans (hw6.mono (by have := hw3.size; have := hw4.size; simp at *; omega))
    have HB6 := Lib.hid B6
    clear hw3 hw4 hw6 B6 hd1 hd2
    go_wp2
    go_ret
    exact ⟨rfl, HB6.out⟩
  · have hq : (sx != sy) = true := by simpa using hs
    have hr := hdf hs
    clear hdf hsm hin
    by_cases hlt : sx < sy
    · have hl : decide (sx < sy) = true := by simpa using hlt
      rw [if_pos hlt] at hr
      subst hr
      go_enter Try.func19, Try.ntmps19
      go_wp2_with fail
      go_region_held3 (fun w' => w'.cell? ⟨w.heap.size, 0, none⟩ = some (.bool b1) ∧ w'.cell? ⟨w.heap.size, 1, none⟩ = some (.string m1) ∧ w'.cell? ⟨w.heap.size + 1, 0, none⟩ = some (.bool b2) ∧ w'.cell? ⟨w.heap.size + 1, 1, none⟩ = some (.string m2) ∧ w.heap.size + 2 ≤ w'.heap.size)
        (first
          | go_keep
          | (go_split_ands
             have hb9 := ‹Below _ _ _›
             refine ⟨?_, ?_, ?_, ?_, ?_⟩
             · first | assumption | (rw [hb9.cell (by simp <;> omega)]; first | assumption | simp)
             · first | assumption | (rw [hb9.cell (by simp <;> omega)]; first | assumption | simp)
             · first | assumption | (rw [hb9.cell (by simp <;> omega)]; first | assumption | simp)
             · first | assumption | (rw [hb9.cell (by simp <;> omega)]; first | assumption | simp)
             · first | assumption | (have := hb9.size; simp at this ⊢; omega)))
        (first
          | (go_at_call 23; (with_reducible refine (HS1.out _).mono ?_); rintro e w1 ⟨rfl, hw1⟩)
          | (go_at_call 23; (with_reducible refine (HS2.out _).mono ?_); rintro e w2 ⟨rfl, hw2⟩))
      rename_i hHeld
      obtain ⟨c0, c1, c2, c3, c4⟩ := hHeld
      have B2 : Below w.heap.size w w2 := ((((((Below.refl _ _).alloc (Nat.le_refl _) _).alloc (by simp <;> omega) _).drew).trans (hw1.mono (by simp <;> omega))).trans (hw2.mono (by have := hw1.size; simp at this; omega)))
      have HB2 := Lib.hid B2
      clear hw1 hw2 B2
      go_wp2_with fail
      go_region_held3 (fun w' => w'.cell? ⟨w.heap.size, 0, none⟩ = some (.bool b1) ∧ w'.cell? ⟨w.heap.size, 1, none⟩ = some (.string m1) ∧ w'.cell? ⟨w.heap.size + 1, 0, none⟩ = some (.bool b2) ∧ w'.cell? ⟨w.heap.size + 1, 1, none⟩ = some (.string m2) ∧ w.heap.size + 2 ≤ w'.heap.size)
        (first
          | go_keep
          | (go_split_ands
             have hb9 := ‹Below _ _ _›
             refine ⟨?_, ?_, ?_, ?_, ?_⟩
             · first | assumption | (rw [hb9.cell (by simp <;> omega)]; first | assumption | simp)
             · first | assumption | (rw [hb9.cell (by simp <;> omega)]; first | assumption | simp)
             · first | assumption | (rw [hb9.cell (by simp <;> omega)]; first | assumption | simp)
             · first | assumption | (rw [hb9.cell (by simp <;> omega)]; first | assumption | simp)
             · first | assumption | (have := hb9.size; simp at this ⊢; omega)))
        (first
          | (go_at_call 23; (with_reducible refine (HS1.out _).mono ?_); rintro e w3 ⟨rfl, hw3⟩)
          | (go_at_call 23; (with_reducible refine (HS2.out _).mono ?_); rintro e w4 ⟨rfl, hw4⟩))
      clear c0 c1 c2 c3
      rename_i hHeld
      obtain ⟨c0, c1, c2, c3, c5⟩ := hHeld
      have B4 : Below w.heap.size w w4 := ((HB2.out.drew).trans (hw3.mono (by simp; omega))).trans (hw4.mono (by have := hw3.size; simp at this; omega))
      have HB4 := Lib.hid B4
      clear hw3 hw4 B4
      go_wp2
      go_ret
      exact ⟨rfl, HB4.out⟩
    · have hl : decide (sx < sy) = false := by simpa using hlt
      rw [if_neg hlt] at hr
      subst hr
      go_enter Try.func19, Try.ntmps19
      go_wp2_with fail
      go_region_held3 (fun w' => w'.cell? ⟨w.heap.size, 0, none⟩ = some (.bool b1) ∧ w'.cell? ⟨w.heap.size, 1, none⟩ = some (.string m1) ∧ w'.cell? ⟨w.heap.size + 1, 0, none⟩ = some (.bool b2) ∧ w'.cell? ⟨w.heap.size + 1, 1, none⟩ = some (.string m2) ∧ w.heap.size + 2 ≤ w'.heap.size)
        (first
          | go_keep
          | (go_split_ands
             have hb9 := ‹Below _ _ _›
             refine ⟨?_, ?_, ?_, ?_, ?_⟩
             · first | assumption | (rw [hb9.cell (by simp <;> omega)]; first | assumption | simp)
             · first | assumption | (rw [hb9.cell (by simp <;> omega)]; first | assumption | simp)
             · first | assumption | (rw [hb9.cell (by simp <;> omega)]; first | assumption | simp)
             · first | assumption | (rw [hb9.cell (by simp <;> omega)]; first | assumption | simp)
             · first | assumption | (have := hb9.size; simp at this ⊢; omega)))
        (first
          | (go_at_call 23; (with_reducible refine (HS1.out _).mono ?_); rintro e w1 ⟨rfl, hw1⟩)
          | (go_at_call 23; (with_reducible refine (HS2.out _).mono ?_); rintro e w2 ⟨rfl, hw2⟩))
      rename_i hHeld
      obtain ⟨c0, c1, c2, c3, c4⟩ := hHeld
      have B2 : Below w.heap.size w w2 := ((((((Below.refl _ _).alloc (Nat.le_refl _) _).alloc (by simp <;> omega) _).drew).trans (hw1.mono (by simp <;> omega))).trans (hw2.mono (by have := hw1.size; simp at this; omega)))
      have HB2 := Lib.hid B2
      clear hw1 hw2 B2
      go_wp2_with fail
      go_region_held3 (fun w' => w'.cell? ⟨w.heap.size, 0, none⟩ = some (.bool b1) ∧ w'.cell? ⟨w.heap.size, 1, none⟩ = some (.string m1) ∧ w'.cell? ⟨w.heap.size + 1, 0, none⟩ = some (.bool b2) ∧ w'.cell? ⟨w.heap.size + 1, 1, none⟩ = some (.string m2) ∧ w.heap.size + 2 ≤ w'.heap.size)
        (first
          | go_keep
          | (go_split_ands
             have hb9 := ‹Below _ _ _›
             refine ⟨?_, ?_, ?_, ?_, ?_⟩
             · first | assumption | (rw [hb9.cell (by simp <;> omega)]; first | assumption | simp)
             · first | assumption | (rw [hb9.cell (by simp <;> omega)]; first | assumption | simp)
             · first | assumption | (rw [hb9.cell (by simp <;> omega)]; first | assumption | simp)
             · first | assumption | (rw [hb9.cell (by simp <;> omega)]; first | assumption | simp)
             · first | assumption | (have := hb9.size; simp at this ⊢; omega)))
        (first
          | (go_at_call 23; (with_reducible refine (HS1.out _).mono ?_); rintro e w3 ⟨rfl, hw3⟩)
          | (go_at_call 23; (with_reducible refine (HS2.out _).mono ?_); rintro e w4 ⟨rfl, hw4⟩))
      clear c0 c1 c2 c3
      rename_i hHeld
      obtain ⟨c0, c1, c2, c3, c5⟩ := hHeld
      have B4 : Below w.heap.size w w4 := ((HB2.out.drew).trans (hw3.mono (by simp; omega))).trans (hw4.mono (by have := hw3.size; simp at this; omega))
      have HB4 := Lib.hid B4
      clear hw3 hw4 B4
      go_wp2
      go_ret
      exact ⟨rfl, HB4.out⟩
end Go.Proofs.Ytkaefmfophopoaa
