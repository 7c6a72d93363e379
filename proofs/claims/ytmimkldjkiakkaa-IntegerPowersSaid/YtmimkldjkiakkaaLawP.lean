/-
  The walk of the statement about powers.
-/
import Derived.Test.YtmimkldjkiakkaaIntP
import Derived.Test.YtmimkldjkiakkaaRefF
import Derived.Test.YtmimkldjkiakkaaRefG
import Derived.Test.YtmimkldjkiakkaaLawC
import Derived.Deep.RegionWith
import Derived.Deep.DeepCutAuto
namespace Go.Proofs.Ytmimkldjkiakkaa
open Go.RowKit
attribute [local go_sem ↓] Go.wp_at_zero Go.wp_at_succ

set_option maxHeartbeats 4000000 in
set_option maxRecDepth 100000 in
theorem powers_walk (na : Bool) (a : ByteArray) (n : Int) (h1 : -9223372036854775808 ≤ n) (h2 : n ≤ 9223372036854775807) (w : World) : Calls Try.prog 10 #[.agg #[.bool na, .string a], .int .i64 n] w (RetB w (.bool true)) := by
  have HU1 := Lib.hid (fun V => canonical_any na a 8 (by omega) V)
  go_enter Try.func10, Try.ntmps10
  go_wp2_with fail
  refine (HU1.out _).mono ?_
  rintro e w1 ⟨x, hx, rfl, hb1⟩
  obtain ⟨b1, m1, hbm1⟩ := enc_form x
  rw [hbm1]
  have HBM1 := Lib.hid hbm1
  have HX := Lib.hid hx
  clear hbm1 hx
  obtain ⟨p0, p1, p2, p3⟩ := res2 (g := w.heap.size) (by exact heap_one _ _) hb1 (by simp <;> omega)
  have hs1 := hb1.size
  have tt := two_cells w1 w.heap.size (.bool b1) (.string m1) p0 p1
  obtain ⟨t0, t1⟩ := tt
  have hbW : Below w.heap.size w ((w1.setCell ⟨w.heap.size, 0, none⟩ (.bool b1)).setCell ⟨w.heap.size, 1, none⟩ (.string m1)) :=
    ((((Below.refl _ _).alloc (Nat.le_refl _) _).trans (hb1.mono (by simp <;> omega))).setCell (Nat.le_refl _) _).setCell (Nat.le_refl _) _
  have hsW : w.heap.size + 1 ≤ ((w1.setCell ⟨w.heap.size, 0, none⟩ (.bool b1)).setCell ⟨w.heap.size, 1, none⟩ (.string m1)).heap.size := by simp at hs1 ⊢; omega
  go_wp2_with fail
  obtain ⟨W, hWW⟩ : ∃ W, W = ((w1.setCell ⟨w.heap.size, 0, none⟩ (.bool b1)).setCell ⟨w.heap.size, 1, none⟩ (.string m1)) := ⟨_, rfl⟩
  rw [← hWW] at t0 t1 hbW hsW
  rw [← hWW]
  clear hWW p0 p1 p2 p3 hb1 hs1
  have HBW := Lib.hid hbW
  clear hbW
  by_cases hn : n < 0 ∨ 64 < n
  · refine (pow_bad n hn h1 h2 _ _ _).mono ?_
    rintro e w2 ⟨bz, mz, HZ, rfl, hb2⟩
    have hz := HZ.out
    rw [enc_zero] at hz
    cases hz
    have hs2 := hb2.size
    have HB2 := Lib.hid hb2
    have hnn : (n < 0 ∨ 64 < n) := hn
    clear hb2
    by_cases hn0 : n < 0
    · have hd0 : decide (n < 0) = true := by simpa using hn0
      go_wp2_with fail
      refine (known_any _).mono ?_
      rintro e w3 ⟨rfl, hb3⟩
      obtain ⟨u0, u1, u2, u3⟩ := res2 (g := w2.heap.size) (by exact heap_one _ _) hb3 (by simp <;> omega)
      have hs3 := hb3.size
      simp at hs3
      have HB3 := Lib.hid hb3
      clear hb3
      go_wp2_with fail
      refine (known_any _).mono ?_
      rintro e w4 ⟨rfl, hb4⟩
      have v0 := (hb4.cell (p := ⟨w2.heap.size, 0, none⟩) (by show w2.heap.size < _; omega)).trans u0
      have v1 := (hb4.cell (p := ⟨w2.heap.size, 1, none⟩) (by show w2.heap.size < _; omega)).trans u1
      have hs4 := hb4.size
      have HB4 := Lib.hid hb4
      clear hb4
      go_wp2
      go_ret
      have e2 : Below w.heap.size w w2 := HBW.out.trans (HB2.out.mono (by omega))
      exact ⟨rfl, ((e2.alloc (by omega) _).trans (HB3.out.mono (by simp; omega))).trans (HB4.out.mono (by omega))⟩
    · have hd0 : decide (n < 0) = false := by simpa using hn0
      have hd1 : decide (64 < n) = true := by simp; omega
      go_wp2_with fail
      refine (known_any _).mono ?_
      rintro e w3 ⟨rfl, hb3⟩
      obtain ⟨u0, u1, u2, u3⟩ := res2 (g := w2.heap.size) (by exact heap_one _ _) hb3 (by simp <;> omega)
      have hs3 := hb3.size
      simp at hs3
      have HB3 := Lib.hid hb3
      clear hb3
      go_wp2_with fail
      refine (known_any _).mono ?_
      rintro e w4 ⟨rfl, hb4⟩
      have v0 := (hb4.cell (p := ⟨w2.heap.size, 0, none⟩) (by show w2.heap.size < _; omega)).trans u0
      have v1 := (hb4.cell (p := ⟨w2.heap.size, 1, none⟩) (by show w2.heap.size < _; omega)).trans u1
      have hs4 := hb4.size
      have HB4 := Lib.hid hb4
      clear hb4
      go_wp2
      go_ret
      have e2 : Below w.heap.size w w2 := HBW.out.trans (HB2.out.mono (by omega))
      exact ⟨rfl, ((e2.alloc (by omega) _).trans (HB3.out.mono (by simp; omega))).trans (HB4.out.mono (by omega))⟩
  · have hd0 : decide (n < 0) = false := by simp; omega
    have hd1 : decide (64 < n) = false := by simp; omega
    obtain ⟨k, rfl⟩ : ∃ k : Nat, n = (k : Int) := ⟨n.toNat, by omega⟩
    have hk : k ≤ 64 := by omega
    refine (pow_any x k HX.out hk _ _ HBM1.out _).mono ?_
    rintro e w2 ⟨bz, mz, HZ, rfl, hb2⟩
    have hs2 := hb2.size
    have HB2 := Lib.hid hb2
    clear hb2
    go_wp2_with fail
    refine (known_any _).mono ?_
    rintro e w3 ⟨rfl, hb3⟩
    obtain ⟨u0, u1, u2, u3⟩ := res2 (g := w2.heap.size) (by exact heap_one _ _) hb3 (by simp <;> omega)
    have c0 := (HB2.out.cell (p := ⟨w.heap.size, 0, none⟩) (by show w.heap.size < _; omega)).trans t0
    have c1 := (HB2.out.cell (p := ⟨w.heap.size, 1, none⟩) (by show w.heap.size < _; omega)).trans t1
    have d0 := (hb3.cell (p := ⟨w.heap.size, 0, none⟩) (by show w.heap.size < _; simp; omega)).trans ((((Below.refl _ _).alloc (Nat.le_refl _) _).cell (by show w.heap.size < w2.heap.size; omega)).trans c0)
    have d1 := (hb3.cell (p := ⟨w.heap.size, 1, none⟩) (by show w.heap.size < _; simp; omega)).trans ((((Below.refl _ _).alloc (Nat.le_refl _) _).cell (by show w.heap.size < w2.heap.size; omega)).trans c1)
    have hs3 := hb3.size
    simp at hs3
    have HB3 := Lib.hid hb3
    clear hb3 c0 c1
    go_wp2_with fail
    refine (refFromInt_pos 1 (by omega) _).mono ?_
    rintro e w4 ⟨rfl, hb4⟩
    rw [show ((1 : Nat) : Int) = 1 from rfl, enc_1]
    have v0 := (hb4.cell (p := ⟨w2.heap.size, 0, none⟩) (by show w2.heap.size < _; omega)).trans u0
    have v1 := (hb4.cell (p := ⟨w2.heap.size, 1, none⟩) (by show w2.heap.size < _; omega)).trans u1
    have f0 := (hb4.cell (p := ⟨w.heap.size, 0, none⟩) (by show w.heap.size < _; omega)).trans d0
    have f1 := (hb4.cell (p := ⟨w.heap.size, 1, none⟩) (by show w.heap.size < _; omega)).trans d1
    have hs4 := hb4.size
    have HB4 := Lib.hid hb4
    clear hb4 d0 d1 u0 u1 u2 u3
    have hxs : (mag x.natAbs).size ≤ 100000 := by
      have := mag_size_le HX.out
      omega
    have XS := Lib.hid hxs
    clear hxs
    go_wp2_with fail
    go_loopw [8] (fun iv wr => ∃ (i : Nat) (bp : Bool) (mp : ByteArray), i ≤ k ∧ iv = .int .i64 (i : Int) ∧ Hid (enc (x ^ i) = .agg #[.bool bp, .string mp]) ∧ wr.cell? ⟨w4.heap.size, 0, none⟩ = some (.bool bp) ∧ wr.cell? ⟨w4.heap.size, 1, none⟩ = some (.string mp) ∧
      wr.frozen? ⟨w4.heap.size, 0, none⟩ = false ∧ wr.frozen? ⟨w4.heap.size, 1, none⟩ = false ∧ Below w4.heap.size w4 wr ∧ w4.heap.size + 1 ≤ wr.heap.size) (fun iv _ => k - (intOf iv).toNat)
    case atStart =>
      refine ⟨0, false, ⟨#[1]⟩, Nat.zero_le _, rfl, ?_, by simp, by simp, by simp, by simp, (Below.refl _ _).alloc (Nat.le_refl _) _, by simp⟩
      show _ = _
      rw [Int.pow_zero, enc_1]
    case round =>
      obtain ⟨i, bp, mp, hi, rfl, HP, c0, c1, f2, f3, hbl, hsz⟩ := hrel
      have hsz0 : w4.heap.size ≤ wr.heap.size := by omega
      have g0 := (hbl.cell (p := ⟨w.heap.size, 0, none⟩) (by show w.heap.size < _; omega)).trans f0
      have g1 := (hbl.cell (p := ⟨w.heap.size, 1, none⟩) (by show w.heap.size < _; omega)).trans f1
      have g2 := (hbl.cell (p := ⟨w2.heap.size, 0, none⟩) (by show w2.heap.size < _; omega)).trans v0
      have g3 := (hbl.cell (p := ⟨w2.heap.size, 1, none⟩) (by show w2.heap.size < _; omega)).trans v1
      rcases Nat.lt_or_ge i k with hik | hik
      · have hcmp : decide ((i : Int) < (k : Int)) = true := by simp; omega
        obtain ⟨bq, mq, hbq⟩ := enc_form (x ^ (i + 1))
        have hm := fun V => refMul_any (x ^ i) x (pow_size HX.out i (by omega)) XS.out V
        rw [HP.out, HBM1.out] at hm
        unfold RetZ at hm
        rw [← Int.pow_succ, hbq] at hm
        have HM := Lib.hid hm
        have HBQ := Lib.hid hbq
        clear hm hbq
        go_wp2_with fail
        refine (HM.out _).mono ?_
        rintro e w5 ⟨rfl, hb5⟩
        have j0 := (hb5.cell (p := ⟨w4.heap.size, 0, none⟩) (by show w4.heap.size < _; omega)).trans c0
        have j1 := (hb5.cell (p := ⟨w4.heap.size, 1, none⟩) (by show w4.heap.size < _; omega)).trans c1
        have j2 := (hb5.frozen (p := ⟨w4.heap.size, 0, none⟩) (by show w4.heap.size < _; omega)).trans f2
        have j3 := (hb5.frozen (p := ⟨w4.heap.size, 1, none⟩) (by show w4.heap.size < _; omega)).trans f3
        have hs5 := hb5.size
        go_wp2_with fail
        refine ⟨⟨i + 1, bq, mq, by omega, rfl, HBQ, ?_, ?_, ?_, ?_, ?_, ?_⟩, ?_⟩
        · exact (two_cells _ _ _ _ j0 j1).1
        · exact (two_cells _ _ _ _ j0 j1).2
        · simp [j2]
        · simp [j3]
        · exact ((hbl.trans (hb5.mono hsz0)).setCell (Nat.le_refl _) _).setCell (Nat.le_refl _) _
        · simp <;> omega
        · simp [intOf] <;> omega
      · have hcmp : decide ((i : Int) < (k : Int)) = false := by simp; omega
        obtain rfl : i = k := by omega
        have hh := HZ.out.symm.trans HP.out
        cases hh
        go_wp2
        go_ret
        have e2 : Below w.heap.size w w2 := HBW.out.trans (HB2.out.mono (by omega))
        have e4 : Below w.heap.size w w4 := ((e2.alloc (by omega) _).trans (HB3.out.mono (by simp; omega))).trans (HB4.out.mono (by omega))
        exact ⟨rfl, e4.trans (hbl.mono (by omega))⟩
end Go.Proofs.Ytmimkldjkiakkaa
