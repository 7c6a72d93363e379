import Derived.Test.YtkaefmfophopoaaGLawB
import Derived.Test.YtkaefmfophopoaaGRefG
import Derived.Deep.RegionWith
import Derived.Deep.DeepCutAuto

/-
  The walk of the statement about products.
-/
namespace Go.Proofs.Ytkaefmfophopoaa
open Go.RowKit
attribute [local go_sem ↓] Go.wp_at_zero Go.wp_at_succ

theorem set_two {W : World} {g : Nat} {y0 y1 y2 y3 x0 x1 x2 x3 : Value} (q0 : W.cell? ⟨g, 0, none⟩ = some y0) (q1 : W.cell? ⟨g, 1, none⟩ = some y1) (q2 : W.cell? ⟨g + 1, 0, none⟩ = some y2) (q3 : W.cell? ⟨g + 1, 1, none⟩ = some y3) :
    ((((W.setCell ⟨g, 0, none⟩ x0).setCell ⟨g, 1, none⟩ x1).setCell ⟨g + 1, 0, none⟩ x2).setCell ⟨g + 1, 1, none⟩ x3).cell? ⟨g, 0, none⟩ = some x0 ∧
    ((((W.setCell ⟨g, 0, none⟩ x0).setCell ⟨g, 1, none⟩ x1).setCell ⟨g + 1, 0, none⟩ x2).setCell ⟨g + 1, 1, none⟩ x3).cell? ⟨g, 1, none⟩ = some x1 ∧
    ((((W.setCell ⟨g, 0, none⟩ x0).setCell ⟨g, 1, none⟩ x1).setCell ⟨g + 1, 0, none⟩ x2).setCell ⟨g + 1, 1, none⟩ x3).cell? ⟨g + 1, 0, none⟩ = some x2 ∧
    ((((W.setCell ⟨g, 0, none⟩ x0).setCell ⟨g, 1, none⟩ x1).setCell ⟨g + 1, 0, none⟩ x2).setCell ⟨g + 1, 1, none⟩ x3).cell? ⟨g + 1, 1, none⟩ = some x3 ∧
    ((((W.setCell ⟨g, 0, none⟩ x0).setCell ⟨g, 1, none⟩ x1).setCell ⟨g + 1, 0, none⟩ x2).setCell ⟨g + 1, 1, none⟩ x3).heap.size = W.heap.size := by
  refine ⟨?_, ?_, ?_, ?_, ?_⟩ <;> simp [go_sem, q0, q1, q2, q3]

set_option maxHeartbeats 4000000 in
set_option maxRecDepth 100000 in
theorem multiplies_walk (na nb : Bool) (a b : ByteArray) (w : World) : Calls Try.prog 7 #[.agg #[.bool na, .string a], .agg #[.bool nb, .string b]] w (RetB w (.bool true)) := by
  have HU1 := Lib.hid (fun V => in_any na a V)
  have HU2 := Lib.hid (fun V => in_any nb b V)
  go_enter Try.func7, Try.ntmps7
  go_wp2_with fail
  go_region_with (first
      | (go_at_call 20; (with_reducible refine (HU1.out _).mono ?_); rintro e w1 ⟨x, hx, rfl, hb1⟩; obtain ⟨b1, m1, hbm1⟩ := enc_form x; rw [hbm1]; have HBM1 := Lib.hid hbm1; clear hbm1; obtain ⟨p0, p1, p2, p3⟩ := res2 (g := w.heap.size) (by exact heap_fst _ _ _) hb1 (by simp <;> omega); obtain ⟨p4, p5, p6, p7⟩ := res2 (g := w.heap.size + 1) (by exact heap_two _ _ _) hb1 (by simp <;> omega))
      | (go_at_call 20; (with_reducible refine (HU2.out _).mono ?_); rintro e w2 ⟨y, hy, rfl, hb2⟩; obtain ⟨b2, m2, hbm2⟩ := enc_form y; rw [hbm2]; have HBM2 := Lib.hid hbm2; clear hbm2; obtain ⟨q0, q1, q2, q3⟩ := res2 (g := w.heap.size) (by exact heap_fst _ _ _) (hb1.trans (hb2.mono hb1.size)) (by simp <;> omega); obtain ⟨q4, q5, q6, q7⟩ := res2 (g := w.heap.size + 1) (by exact heap_two _ _ _) (hb1.trans (hb2.mono hb1.size)) (by simp <;> omega)))
  all_goals
    obtain ⟨bz, mz, hbz⟩ := enc_form (x * y)
    have hmul := fun V => mul_any x y (by have := mag_size_le hx; omega) (by have := mag_size_le hy; omega) V
    have hrmul := fun V => refMul_any x y (by have := mag_size_le hx; omega) (by have := mag_size_le hy; omega) V
    rw [HBM1.out, HBM2.out] at hmul hrmul
    unfold RetZ at hmul hrmul
    rw [hbz] at hmul hrmul
    have HMUL := Lib.hid hmul
    have HRMUL := Lib.hid hrmul
    have hbb := hb1.trans (hb2.mono hb1.size)
    have hsz := hbb.size
    have HBB := Lib.hid hbb
    clear hmul hrmul hbz hb1 hb2 hbb p0 p1 p2 p3 p4 p5 p6 p7 hx hy
    have tt := set_two (g := w.heap.size) (x0 := .bool b1) (x1 := .string m1) (x2 := .bool b2) (x3 := .string m2) q0 q1 q4 q5
    obtain ⟨W, hWW⟩ : ∃ W, W = (((w2.setCell ⟨w.heap.size, 0, none⟩ (.bool b1)).setCell ⟨w.heap.size, 1, none⟩ (.string m1)).setCell ⟨w.heap.size + 1, 0, none⟩ (.bool b2)).setCell ⟨w.heap.size + 1, 1, none⟩ (.string m2) := ⟨_, rfl⟩
    have hbW : Below w.heap.size w W := by
      rw [hWW]
      exact ((((Below.trans (((Below.refl _ _).alloc (Nat.le_refl _) _).alloc (by simp <;> omega) _).drew (HBB.out.mono (B' := w.heap.size) (by simp <;> omega))).setCell (by simp <;> omega) _).setCell (by simp <;> omega) _).setCell (by simp <;> omega) _).setCell (by simp <;> omega) _
    rw [← hWW]
    rw [← hWW] at tt
    obtain ⟨t0, t1, t2, t3, t4⟩ := tt
    have hsW : w.heap.size + 2 ≤ W.heap.size := by rw [t4]; simp at hsz; omega
    have HBW := Lib.hid hbW
    clear hWW t4 q0 q1 q2 q3 q4 q5 q6 q7 hsz hbW
    go_wp2_with fail
    go_region_held3 (fun w' => w'.cell? ⟨w.heap.size, 0, none⟩ = some (.bool b1) ∧ w'.cell? ⟨w.heap.size, 1, none⟩ = some (.string m1) ∧ w'.cell? ⟨w.heap.size + 1, 0, none⟩ = some (.bool b2) ∧ w'.cell? ⟨w.heap.size + 1, 1, none⟩ = some (.string m2) ∧ w.heap.size + 2 ≤ w'.heap.size)
      (first
        | go_keep
        | (go_split_ands
           have hb9 := ‹Below _ _ _›
           refine ⟨?_, ?_, ?_, ?_, ?_⟩
           · (rw [hb9.cell (by simp <;> omega)]; first | assumption | simp [t0, t1, t2, t3])
           · (rw [hb9.cell (by simp <;> omega)]; first | assumption | simp [t0, t1, t2, t3])
           · (rw [hb9.cell (by simp <;> omega)]; first | assumption | simp [t0, t1, t2, t3])
           · (rw [hb9.cell (by simp <;> omega)]; first | assumption | simp [t0, t1, t2, t3])
           · (have := hb9.size; simp at this ⊢; omega)))
      (first
        | (go_at_call 13; refine (known_any _).mono ?_; rintro e w3 ⟨rfl, hb3⟩)
        | (go_at_call 34; refine (HMUL.out _).mono ?_; rintro e w4 ⟨rfl, hb4⟩)
        | (go_at_call 35; refine (HRMUL.out _).mono ?_; rintro e w5 ⟨rfl, hb5⟩))
    go_wp2
    go_ret
    have s0 := HBW.out.size
    have s3 := Nat.le_trans s0 hb3.size
    have s4 := Nat.le_trans s3 hb4.size
    exact ⟨rfl, ((HBW.out.drew.trans (hb3.mono s0)).trans (hb4.mono s3)).trans (hb5.mono s4)⟩

theorem multiplies_law (na : Bool) (a : ByteArray) (nb : Bool) (b : ByteArray) (w : World) : Calls Try.prog 7 #[.agg #[.bool na, .string a], .agg #[.bool nb, .string b]] w (RetB w (.bool true)) := multiplies_walk na nb a b w
end Go.Proofs.Ytkaefmfophopoaa
