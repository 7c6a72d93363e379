import Derived.Test.YtkaefmfophopoaaDoorGRefD
import Derived.Test.YtkaefmfophopoaaDoorGIntK

/-
  The reference's product of two integers.
-/
namespace Go.Proofs.YtkaefmfophopoaaDoor
open Go.RowKit
attribute [local go_sem ↓] Go.wp_at_zero Go.wp_at_succ

theorem heap_three_top (w : World) (o1 o2 o3 : Obj) : (((w.alloc o1).alloc o2).alloc o3).heap[w.heap.size + 2]? = some o3 := heap_three w o1 o2 o3

set_option maxHeartbeats 4000000 in
set_option maxRecDepth 100000 in
theorem refMul_pair (na nb : Bool) (a b : ByteArray) (ha : a.size ≤ 100000) (hb : b.size ≤ 100000) (w : World) :
    Calls Tryd.prog 42 #[.agg #[.bool na, .string a], .agg #[.bool nb, .string b]] w (RetZ w (sgn (na != nb) (bval a * bval b))) := by
  have HU1 := Lib.hid (fun V => digits_any na a V (by omega))
  have HU2 := Lib.hid (fun V => digits_any nb b V (by omega))
  have hne1 : ¬ (w.heap.size = w.heap.size + 1 + 1) := by omega
  have hne2 : ¬ (w.heap.size + 1 + 1 = w.heap.size) := by omega
  go_enter Tryd.func42, Tryd.ntmps42
  go_wp2_with fail
  go_region_held3 (fun w' => w'.cell? ⟨w.heap.size, 0, none⟩ = some (.bool na) ∧ w'.cell? ⟨w.heap.size, 1, none⟩ = some (.string a) ∧ w'.cell? ⟨w.heap.size + 1, 0, none⟩ = some (.bool nb) ∧ w'.cell? ⟨w.heap.size + 1, 1, none⟩ = some (.string b) ∧ w.heap.size + 3 ≤ w'.heap.size)
    (first
      | go_keep
      | (go_split_ands
         have hb9 := ‹Below _ _ _›
         refine ⟨?_, ?_, ?_, ?_, ?_⟩
         · (rw [hb9.cell (by simp <;> omega)]; first | assumption | simp)
         · (rw [hb9.cell (by simp <;> omega)]; first | assumption | simp)
         · (rw [hb9.cell (by simp <;> omega)]; first | assumption | simp)
         · (rw [hb9.cell (by simp <;> omega)]; first | assumption | simp)
         · (have := hb9.size; simp at this ⊢; omega)))
    (first
      | (go_at_call 17; (with_reducible refine (HU1.out _).mono ?_); rintro e w1 ⟨A1, n1, c1, hn1, rfl, hd1, hb1⟩)
      | (go_at_call 17; (with_reducible refine (HU2.out _).mono ?_); rintro e w2 ⟨A2, n2, c2, hn2, rfl, hd2, hb2⟩)
      | (go_at_call 70; refine (product_any A1 A2 n1 n2 c1 c2 (bval a) (bval b) _ ?_ ?_ ?_ ?_).mono ?_; (omega); (omega); (exact hd1.below hb2); (exact hd2); rintro e w3 ⟨A3, n3, c3, hn3, rfl, hd3, hb3⟩)
      | (go_at_call 16; refine (number_any _ A3 n3 c3 (bval a * bval b) _ ?_ ?_).mono ?_; (omega); (exact hd3); rintro e w4 ⟨rfl, hb4⟩; obtain ⟨bz, mz, hbm⟩ := enc_form (sgn (!na == nb) (bval a * bval b)); rw [hbm]; have HBM := Lib.hid hbm; clear hbm; obtain ⟨q0, q1, f0, f1⟩ := res2 (g := w.heap.size + 2) (by exact heap_three_top _ _ _ _) (hb1.trans ((hb2.trans ((hb3.trans (hb4.mono hb3.size)).mono hb2.size)).mono hb1.size)) (by simp <;> omega)))
  go_wp2
  refine bodyPost_ret (v := .agg #[.bool bz, .string mz]) (by simp [results, Tryd.results42, go_sem, q0, q1]) rfl ⟨?_, ?_⟩
  · rw [← HBM.out]
    have e : (!na == nb) = (na != nb) := by cases na <;> cases nb <;> rfl
    first | rw [e] | rfl
  · have h0 : Below w.heap.size w (((w.alloc (.cells #[.bool na, .string a] 23)).alloc (.cells #[.bool nb, .string b] 23)).alloc (.cells #[.bool false, .string ⟨#[]⟩] 23)).drew := ((((Below.refl _ _).alloc (Nat.le_refl _) _).alloc (by simp <;> omega) _).alloc (by simp <;> omega) _).drew
    have s1 := Nat.le_trans h0.size hb1.size
    have s2 := Nat.le_trans s1 hb2.size
    have s3 := Nat.le_trans s2 hb3.size
    exact (((((h0.trans (hb1.mono h0.size)).trans (hb2.mono s1)).trans (hb3.mono s2)).trans (hb4.mono s3)).setCell (by simp <;> omega) _).setCell (by simp <;> omega) _

theorem refMul_any (x y : Int) (h1 : (mag x.natAbs).size ≤ 100000) (h2 : (mag y.natAbs).size ≤ 100000) (w : World) : Calls Tryd.prog 42 #[enc x, enc y] w (RetZ w (x * y)) := by
  have h := refMul_pair (decide (x < 0)) (decide (y < 0)) (mag x.natAbs) (mag y.natAbs) (by omega) (by omega) w
  rw [bval_mag, bval_mag, sgn_mul] at h
  exact h
end Go.Proofs.YtkaefmfophopoaaDoor
