import Derived.Test.YtkaefmfophopoaaDoorGRefD
import Derived.Test.YtkaefmfophopoaaDoorGIntK

/-
  The reference's product of two integers.
-/
namespace Go.Proofs.YtkaefmfophopoaaDoor
open Go.RowKit
attribute [local go_sem ↓] Go.wp_at_zero Go.wp_at_succ

theorem heap_three_top (w : World) (o1 o2 o3 : Obj) : (((w.alloc o1).alloc o2).alloc o3).heap[w.heap.size + 2]? = some o3 := heap_three w o1 o2 o3

set_option maxHeartbeats 4000000 in
set_option maxRecDepth 100000 in
theorem refMul_pair (na nb : Bool) (a b : ByteArray) (ha : a.size ≤ 100000) (hb : b.size ≤ 100000) (w : World) :
    Calls Tryd.prog 42 #[.agg #[.bool na, .string a], .agg #[.bool nb, .string b]] w (RetZ w (sgn (na != nb) (bval a * bval b))) := by
  have HU1 := Lib.hid (fun V => digits_any na a V (by omega))
  have HU2 := Lib.hid (fun V => digits_any nb b V (by omega))
  have hne1 : ¬ (w.heap.size = w.heap.size + 1 + 1) := by omega
  have hne2 : ¬ (w.heap.size + 1 + 1 = w.heap.size) := by omega
  go_enter Tryd.func42, Tryd.ntmps42
  go_wp2_with fail
  go_region_held3 (fun w' => w'.cell? ⟨w.heap.size, 0, none⟩ = some (.bool na) ∧ w'.cell? ⟨w.heap.size, 1, none⟩ = some (.string a) ∧ w'.cell? ⟨w.heap.size + 1, 0, none⟩ = some (.bool nb) ∧ w'.cell? ⟨w.heap.size + 1, 1, none⟩ = some (.string b) ∧ w.heap.size + 3 ≤ w'.heap.size)
    (first
      | go_keep
      | (go_split_ands
         have hb9 := ‹Below _ _ _›
         refine ⟨?_, ?_, ?_, ?_, ?_⟩
         · (rw [hb9.cell (by simp <;> omega)]; first | assumption | simp)
         · (rw [hb9.cell (by simp <;> omega)]; first | assumption | simp)
         · (rw [hb9.cell (by simp <;> omega)]; first | assumption | simp)
         · (rw [hb9.cell (by simp <;> omega)]; first | assumption | simp)
         · (have := hb9.size; simp at this ⊢; omega)))
    (first
      | (go_at_call 17; (with_reducible refine (HU1.out _).mono ?_); rintro e w1 ⟨A1, n1, c1, hn1, rfl, hd1, hb1⟩)
      | (go_at_call 17; (with_reducible refine (HU2.out _).mono ?_); rintro e w2 ⟨A2, n2, c2, hn2, rfl, hd2, hb2⟩)
      | (go_at_call 70; refine (product_any A1 A2 n1 n2 c1 c2 (bval a) (bval b) _ ?_ ?_ ?_ ?_).mono ?_; (omega); (omega); (exact hd1.below hb2); (exact hd2); rintro e w3 ⟨A3, n3, c3, hn3, rfl, hd3, hb3⟩)
      | (go_at_call 16; refine (number_any _ A3 n3 c3 (bval a * bval b) _ ?_ ?_).mono ?_; (omega); (exact hd3); rintro e w4 ⟨rfl, hb4⟩; obtain ⟨bz, mz, hbm⟩ := enc_form (sgn (!na == nb) (bval a * bval b)); rw [hbm]; have HBM := Lib.hid hbm; clear hbm; obtain ⟨q0, q1, f0, f1⟩ := res2 (g := w.heap.size + 2) (by exact heap_three_top _ _ _ _) (hb1.trans ((hb2.trans ((hb3.trans (hb4.mono hb3.size)).mono hb2.size)).mono hb1.size)) (by simp <;> omega)))
  go_wp2
  refine bodyPost_ret (v := .agg #[.bool bz, .string mz]) (by simp [results, Tryd.results42, go_sem, q0, q1]) rfl ⟨?_, ?_⟩
  · rw [← HBM.out]
    have e : (!na == nb) = (na != nb) := by cases na <;> cases nb <;> rfl
    first | rw [e] | rfl
  · have h0 : Below w.heap.size w (((w.alloc (.cells #[.bool na, .string a] 23)).alloc (.cells #[.bool nb, .string b] 23)).alloc (.cells #[.bool false, .string ⟨#[]⟩] 23)).drew := ((((Below.refl _ _).alloc (Nat.le_refl _) _).alloc (by simp <;> omega) _).alloc (by simp <;> omega) _).drew
    have s1 := Nat.le_trans h0.size hb1.size
    have s2 := Nat.le_trans s1 hb2.size
    have s3 := Nat.le_trans s2 hb3.size
    exact (((((h0.trans (hb1.mono h0.size)).trans (hb2.mono s1)).trans (hb3.mono s2)).trans (hb4.mono s3)).setCell (by simp <;> omega) _).setCell (by simp <;> omega) _

theorem refMul_any (x y : Int) (h1 : (mag x.natAbs).size ≤ 100000) (h2 : (mag y.natAbs).size ≤ 100000) (w : World) : Calls Tryd.prog 42 #[enc x, enc y] w (RetZ w (x * y)) := by
  have h := refMul_pair (decide (x < 0)) (decide (y < 0)) (mag x.natAbs) (mag y.natAbs) (by omega) (by omega) w
  rw [bval_mag, bval_mag, sgn_mul] at h
  exact h
end Go.Proofs.YtkaefmfophopoaaDoor


/-
  The reference's integer of an int.
-/
namespace Go.Proofs.YtkaefmfophopoaaDoor
open Go.RowKit
attribute [local go_sem ↓] Go.wp_at_zero Go.wp_at_succ

/-- The bytes of the magnitude that are left of n, with n's sign. -/
def left (n : Int) (k : Nat) : Int := if n < 0 then -((n.natAbs / 256 ^ k : Nat) : Int) else ((n.natAbs / 256 ^ k : Nat) : Int)

theorem left_zero (n : Int) : left n 0 = n := by unfold left; split <;> simp <;> omega

theorem digits_end {V k : Nat} (hV : V ≤ 9223372036854775808) (h : V / 256 ^ k ≠ 0) : k < 8 := by
  rcases Nat.lt_or_ge k 8 with h1 | h1
  · exact h1
  · have h2 : (256 : Nat) ^ 8 ≤ 256 ^ k := Nat.pow_le_pow_right (by omega) h1
    have h3 : (256 : Nat) ^ 8 = 18446744073709551616 := by decide
    exact absurd (Nat.div_eq_of_lt (by omega)) h

theorem digits_all {V k : Nat} (h : V / 256 ^ k = 0) : V < 256 ^ k := by
  have hp : 0 < 256 ^ k := Nat.pow_pos (by omega)
  rcases Nat.lt_or_ge V (256 ^ k) with h1 | h1
  · exact h1
  · have := Nat.div_pos h1 hp
    omega

theorem neg_rem (q : Nat) : (-(q : Int)).tmod 256 = -((q % 256 : Nat) : Int) := by rw [Int.neg_tmod]; rfl
theorem neg_quo (q : Nat) : (-(q : Int)).tdiv 256 = -((q / 256 : Nat) : Int) := by rw [Int.neg_tdiv]; rfl

set_option maxHeartbeats 2000000 in
set_option maxRecDepth 100000 in
theorem refFromInt_pos (V : Nat) (hV : V ≤ 9223372036854775807) (w : World) :
    Calls Tryd.prog 39 #[.int .i64 (V : Int)] w (RetZ w V) := by
  obtain ⟨i0, hi, hz0, hz1, hz2⟩ := info_parts intTy_info
  have hn0 : decide ((V : Int) < 0) = false := by simp <;> omega
  go_enter Tryd.func39, Tryd.ntmps39
  go_wp2
  go_loopw [0, 3] (fun nv out wr => ∃ k q : Nat, k ≤ 8 ∧ Hid (V / 256 ^ k = q) ∧ nv = .int .i64 (q : Int) ∧ q ≤ V ∧ wr.ownsRow (w.heap.size + 1) 3 1 out k (nums .i64 (D 256 V) k) ∧ Below (w.heap.size + 1) (w.alloc (.cells #[.bool false, .string ⟨#[]⟩] 23)) wr ∧ w.heap.size + 1 ≤ wr.heap.size)
    (fun nv _ _ => (intOf nv).toNat)
  case atStart => exact ⟨0, V, by omega, by show _ = _; simp, rfl, Nat.le_refl _, World.ownsRow_nil _ _ _ _, by simpa using Below.refl _ _, by simp⟩
  case round =>
    obtain ⟨k, q, hk, HQ, rfl, hqV, hown, hbl, hsz⟩ := hrel
    by_cases h0 : q = 0
    · subst h0
      have hlt := digits_all HQ.out
      obtain ⟨A1, c1, rfl, hr1⟩ := Rd.of_own hown
      have HD := Lib.hid (show Dg wr .i64 256 A1 k V from ⟨hlt, hr1⟩)
      clear hlt hr1 hown
      go_wp2_with fail
      refine (number_any false A1 k c1 V _ (by omega) HD.out).mono fun e w2 h => ?_
      obtain ⟨bz, mz, HZ, rfl, hb2⟩ := h.form
      have hall := hbl.trans (hb2.mono (by omega))
      obtain ⟨q0, q1, f0, f1⟩ := res2 (g := w.heap.size) (by exact heap_one _ _) hall (by simp)
      have HALL := Lib.hid hall
      clear h hb2 hall hbl
      go_wp2
      refine bodyPost_ret (v := .agg #[.bool bz, .string mz]) (by simp [results, Tryd.results39, go_sem, q0, q1]) rfl ⟨by rw [← HZ.out]; rfl, ?_⟩
      exact ((((Below.refl _ _).alloc (Nat.le_refl _) _).trans (HALL.out.mono (by omega))).setCell (by simp) _).setCell (by simp) _
    · have hk8 := digits_end (V := V) (k := k) (by omega) (by rw [HQ.out]; exact h0)
      have hne : ((q : Int) != 0) = true := by simp; omega
      have hd : D 256 V k = q % 256 := by unfold D; rw [HQ.out]
      have hq2 : V / 256 ^ (k + 1) = q / 256 := by rw [Nat.pow_succ, ← Nat.div_div_eq_div_mul, HQ.out]
      have HD := Lib.hid hd
      have HQ2 := Lib.hid hq2
      clear hd hq2
      go_wp2_with (at_builtin; refine wpList_append_own _ rfl _ _ 37 rfl (w.heap.size + 1) 3 i0 (.int .i64 0) 1 8 Tryd.underlying37 hi hz0 hz1 hz2 rfl (by decide) _ _ _ rfl (hown.alloc _) ⟨wr.heap.size, 0, none⟩ 1 1 [.int .i64 ((q % 256 : Nat) : Int)] rfl rfl ?_ ?_ ?_ ?_ ?_ ?_)
      · intro j u hj; exact one_cell j u hj (by go_num)
      · intro u hu; simp at hu; subst hu; rfl
      · unfold maxLen; omega
      · omega
      · simp; omega
      intro v' w2 hown' hgrow _
      have hown2 := own_next hown' HD.out.symm
      have hb2 : Below (w.heap.size + 1) wr w2 := ((Below.refl _ _).alloc hsz _).grown hgrow (by simp; omega) (fun g hg => ((hown.lt) g hg).1)
      have hs2 := hb2.size
      clear hgrow hown' hown
      go_wp2
      go_roundw
      case rel => exact ⟨k + 1, q / 256, by omega, HQ2, by go_num, by omega, hown2, hbl.trans hb2, by omega⟩
      case measure => simp [intOf]; omega
end Go.Proofs.YtkaefmfophopoaaDoor
