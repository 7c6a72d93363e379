import Derived.Test.YtkaefmfophopoaaGRefG
import Derived.Test.YtkaefmfophopoaaGIntM
import Derived.Deep.RegionWith
import Derived.Deep.DeepCutAuto

/-
  The reference's negative numbers from an int.
-/
namespace Go.Proofs.Ytkaefmfophopoaa
open Go.RowKit
attribute [local go_sem ↓] Go.wp_at_zero Go.wp_at_succ

set_option maxHeartbeats 2000000 in
set_option maxRecDepth 100000 in
theorem refFromInt_neg (V : Nat) (hV : V ≤ 9223372036854775808) (hV0 : V ≠ 0) (w : World) :
    Calls Try.prog 18 #[.int .i64 (-(V : Int))] w (RetZ w (-(V : Int))) := by
  obtain ⟨i0, hi, hz0, hz1, hz2⟩ := info_parts intTy_info
  have hn0 : decide (0 < V) = true := by simp; omega
  go_enter Try.func18, Try.ntmps18
  go_wp2
  go_loopw [0, 3] (fun nv out wr => ∃ k q : Nat, k ≤ 8 ∧ Hid (V / 256 ^ k = q) ∧ nv = .int .i64 (-(q : Int)) ∧ q ≤ V ∧ wr.ownsRow (w.heap.size + 1) 3 1 out k (nums .i64 (D 256 V) k) ∧ Below (w.heap.size + 1) (w.alloc (.cells #[.bool false, .string ⟨#[]⟩] 23)) wr ∧ w.heap.size + 1 ≤ wr.heap.size)
    (fun nv _ _ => (-(intOf nv)).toNat)
  case atStart => exact ⟨0, V, by omega, by show _ = _; simp, rfl, Nat.le_refl _, World.ownsRow_nil _ _ _ _, by simpa using Below.refl _ _, by simp⟩
  case round =>
    obtain ⟨k, q, hk, HQ, rfl, hqV, hown, hbl, hsz⟩ := hrel
    by_cases h0 : q = 0
    · subst h0
      have hlt := digits_all HQ.out
      obtain ⟨A1, c1, rfl, hr1⟩ := Rd.of_own hown
      have HD := Lib.hid (show Dg wr .i64 256 A1 k V from ⟨hlt, hr1⟩)
      have e0 : (-((0 : Nat) : Int)) = 0 := rfl
      rw [e0]
      clear hlt hr1 hown e0
      go_wp2_with fail
      refine (number_any true A1 k c1 V _ (by omega) HD.out).mono fun e w2 h => ?_
      obtain ⟨bz, mz, HZ, rfl, hb2⟩ := h.form
      have hall := hbl.trans (hb2.mono (by omega))
      obtain ⟨q0, q1, f0, f1⟩ := res2 (g := w.heap.size) (by exact heap_one _ _) hall (by simp)
      have HALL := Lib.hid hall
      clear h hb2 hall hbl
      go_wp2
      refine bodyPost_ret (v := .agg #[.bool bz, .string mz]) (by simp [results, Try.results18, go_sem, q0, q1]) rfl ⟨by rw [← HZ.out]; rfl, ?_⟩
      exact ((((Below.refl _ _).alloc (Nat.le_refl _) _).trans (HALL.out.mono (by omega))).setCell (by simp) _).setCell (by simp) _
    · have hk8 := digits_end (V := V) (k := k) (by omega) (by rw [HQ.out]; exact h0)
      have hne : ((-(q : Int)) != 0) = true := by simp; omega
      have hd : D 256 V k = q % 256 := by unfold D; rw [HQ.out]
      have hq2 : V / 256 ^ (k + 1) = q / 256 := by rw [Nat.pow_succ, ← Nat.div_div_eq_div_mul, HQ.out]
      have HD := Lib.hid hd
      have HQ2 := Lib.hid hq2
      have hrem := neg_rem q
      have hquo := neg_quo q
      clear hd hq2
      by_cases hk0 : q % 256 = 0
      · have hd0 := HD.out.trans hk0
        go_wp2_with (at_builtin; refine wpList_append_own _ rfl _ _ 48 rfl (w.heap.size + 1) 3 i0 (.int .i64 0) 1 8 Try.underlying48 hi hz0 hz1 hz2 rfl (by decide) _ _ _ rfl (hown.alloc _) ⟨wr.heap.size, 0, none⟩ 1 1 [.int .i64 ((0 : Nat) : Int)] rfl rfl ?_ ?_ ?_ ?_ ?_ ?_)
        · intro j u hj; exact one_cell j u hj (by go_num)
        · intro u hu; simp at hu; subst hu; rfl
        · unfold maxLen; omega
        · omega
        · simp; omega
        intro v' w2 hown' hgrow _
        have hown2 := own_next hown' hd0.symm
        have hb2 : Below (w.heap.size + 1) wr w2 := ((Below.refl _ _).alloc hsz _).grown hgrow (by simp; omega) (fun g hg => ((hown.lt) g hg).1)
        have hs2 := hb2.size
        clear hgrow hown' hown
        go_wp2
        go_roundw
        case rel => exact ⟨k + 1, q / 256, by omega, HQ2, by go_num, by omega, hown2, hbl.trans hb2, by omega⟩
        case measure => simp [intOf]; omega
      · have hkn : 0 < q % 256 := by omega
        go_wp2_with (at_builtin; refine wpList_append_own _ rfl _ _ 48 rfl (w.heap.size + 1) 3 i0 (.int .i64 0) 1 8 Try.underlying48 hi hz0 hz1 hz2 rfl (by decide) _ _ _ rfl (hown.alloc _) ⟨wr.heap.size, 0, none⟩ 1 1 [.int .i64 ((q % 256 : Nat) : Int)] rfl rfl ?_ ?_ ?_ ?_ ?_ ?_)
        · intro j u hj; exact one_cell j u hj (by go_num)
        · intro u hu; simp at hu; subst hu; rfl
        · unfold maxLen; omega
        · omega
        · simp; omega
        intro v' w2 hown' hgrow _
        have hown2 := own_next hown' HD.out.symm
        have hb2 : Below (w.heap.size + 1) wr w2 := ((Below.refl _ _).alloc hsz _).grown hgrow (by simp; omega) (fun g hg => ((hown.lt) g hg).1)
        have hs2 := hb2.size
        clear hgrow hown' hown
        go_wp2
        go_roundw
        case rel => exact ⟨k + 1, q / 256, by omega, HQ2, by go_num, by omega, hown2, hbl.trans hb2, by omega⟩
        case measure => simp [intOf]; omega
end Go.Proofs.Ytkaefmfophopoaa
