import Derived.Test.YtkaefmfophopoaaGIntK
import Derived.Test.YtkaefmfophopoaaGIntM

/-
  The program's powers.
-/
namespace Go.Proofs.Ytkaefmfophopoaa
open Go.RowKit
attribute [local go_sem ↓] Go.wp_at_zero Go.wp_at_succ

theorem and_one_i64 (q : Nat) (hq : q < 9223372036854775808) : bits .and .i64 (q : Int) 1 = ((q % 2 : Nat) : Int) := by
  show IntKind.i64.wrap ((BitVec.ofInt 64 (q : Int) &&& BitVec.ofInt 64 1).toNat : Int) = _
  have h1 : (BitVec.ofInt 64 1).toNat = 1 := by decide
  rw [BitVec.toNat_and, nat_bits q (by omega), h1, Nat.and_one_is_mod]
  exact IntWalk.i64_in _ (by omega)

theorem len_any (n L : Nat) (h : Lib.bitLen n = L) (hn : n < 18446744073709551616) (w : World) : Calls Try.prog 62 #[.int .u64 (n : Int)] w (RetV w (.int .i64 (L : Int))) :=
  (Try.bits_Len (n : Int) w (by omega) (by omega)).mono fun e w' ⟨he, hw⟩ => ⟨by rw [he, Int.toNat_natCast, h], hw.symm⟩

theorem mag_small {z : Int} {k : Nat} (h : z.natAbs < 256 ^ k) : (mag z.natAbs).size ≤ k := mag_size_le h

theorem pow_small {x : Int} (hx : x.natAbs < 256 ^ 8) (e : Nat) : (x ^ e).natAbs < 256 ^ (8 * e + 1) := by
  rw [Int.natAbs_pow]
  induction e with
  | zero => simp
  | succ e ih =>
    rw [Nat.pow_succ, show 8 * (e + 1) + 1 = (8 * e + 1) + 8 by omega, Nat.pow_add]
    exact Nat.mul_lt_mul'' ih hx

theorem pow_size {x : Int} (hx : x.natAbs < 256 ^ 8) (e : Nat) (he : e ≤ 200) : (mag (x ^ e).natAbs).size ≤ 100000 := by
  have := mag_size_le (pow_small hx e)
  omega

theorem half_pow (x : Int) (n j : Nat) : x ^ (n / 2 ^ j) = if n / 2 ^ j % 2 = 1 then x ^ (n / 2 ^ (j + 1)) * x ^ (n / 2 ^ (j + 1)) * x else x ^ (n / 2 ^ (j + 1)) * x ^ (n / 2 ^ (j + 1)) := by
  have e : n / 2 ^ (j + 1) = n / 2 ^ j / 2 := by rw [Nat.pow_succ, Nat.div_div_eq_div_mul]
  rw [e]
  generalize n / 2 ^ j = q
  split
  · rw [← Int.pow_add, ← Int.pow_succ]; congr 1; omega
  · rw [← Int.pow_add]; congr 1; omega

/-- Two cells of one block written one after the other: what stands in them. -/
theorem two_cells (w : World) (b : Nat) {u0 u1 : Value} (v0 v1 : Value) (h0 : w.cell? ⟨b, 0, none⟩ = some u0) (h1 : w.cell? ⟨b, 1, none⟩ = some u1) :
    ((w.setCell ⟨b, 0, none⟩ v0).setCell ⟨b, 1, none⟩ v1).cell? ⟨b, 0, none⟩ = some v0 ∧ ((w.setCell ⟨b, 0, none⟩ v0).setCell ⟨b, 1, none⟩ v1).cell? ⟨b, 1, none⟩ = some v1 := by
  refine ⟨?_, ?_⟩ <;> simp [go_sem, h0, h1]

/-- A call that hands back an integer and an error. -/
def RetE (w : World) (z : Int) (err : Int) (e : Ending) (w' : World) : Prop := ∃ b m, Hid (enc z = .agg #[.bool b, .string m]) ∧ e = .returned (.tuple #[.agg #[.bool b, .string m], .int .i64 err]) ∧ Below w.heap.size w w'

set_option maxHeartbeats 4000000 in
set_option maxRecDepth 100000 in
theorem pow_any (x : Int) (n : Nat) (hx : x.natAbs < 256 ^ 8) (hn : n ≤ 64) (b0 : Bool) (m0 : ByteArray) (hx0 : enc x = .agg #[.bool b0, .string m0]) (w : World) :
    Calls Try.prog 37 #[.agg #[.bool b0, .string m0], .int .i64 (n : Int)] w (RetE w (x ^ n) 0) := by
  obtain ⟨L, hL⟩ : ∃ L, Lib.bitLen n = L := ⟨_, rfl⟩
  have hL7 : L ≤ 7 := by rw [← hL]; exact Lib.bitLen_le n 7 (by omega) (by omega)
  have hLn : n < 2 ^ L := by
    rw [← hL]
    by_cases h0 : n = 0
    · subst h0; decide
    · exact (bitLen_bounds n h0 (by omega)).2.2
  have hn0 : decide ((n : Int) < 0) = false := by simp <;> omega
  have hn1 : decide ((64 : Int) < (n : Int)) = false := by simp <;> omega
  have HL := Lib.hid hL
  have HLN := Lib.hid hLn
  have HX0 := Lib.hid hx0
  have HX := Lib.hid hx
  clear hL hLn hx0 hx
  go_enter Try.func37, Try.ntmps37
  go_wp2_with fail
  refine (known_from 1 _ enc_1 (by omega) (by omega) _).mono ?_
  rintro e w1 ⟨rfl, hb1⟩
  have hs1 : w.heap.size + 2 ≤ w1.heap.size := by have := hb1.size; simp at this; omega
  have hcc : w1.cell? ⟨w.heap.size, 0, none⟩ = some (.bool b0) ∧ w1.cell? ⟨w.heap.size, 1, none⟩ = some (.string m0) := by
    obtain ⟨p0, p1, _, _⟩ := res2 (g := w.heap.size) (by exact heap_fst _ _ _) hb1 (by simp <;> omega)
    exact ⟨p0, p1⟩
  have HCC := Lib.hid hcc
  have HB1 := Lib.hid hb1
  clear hcc hb1
  go_wp2_with fail
  refine (len_any n L HL.out (by omega) _).mono ?_
  rintro e w' ⟨rfl, rfl⟩
  go_wp2_with fail
  go_loopw [7] (fun iv wr => ∃ (k : Nat) (bp : Bool) (mp : ByteArray), k ≤ L ∧ iv = .int .i64 ((k : Int) - 1) ∧ Hid (enc (x ^ (n / 2 ^ k)) = .agg #[.bool bp, .string mp]) ∧ wr.cell? ⟨w1.heap.size, 0, none⟩ = some (.bool bp) ∧ wr.cell? ⟨w1.heap.size, 1, none⟩ = some (.string mp) ∧
      wr.frozen? ⟨w1.heap.size, 0, none⟩ = false ∧ wr.frozen? ⟨w1.heap.size, 1, none⟩ = false ∧ Below w1.heap.size w1 wr ∧ w1.heap.size + 1 ≤ wr.heap.size) (fun iv _ => (intOf iv + 1).toNat)
  case atStart =>
    refine ⟨L, false, ⟨#[1]⟩, Nat.le_refl _, rfl, ?_, by simp, by simp, by simp, by simp, (Below.refl _ _).alloc (Nat.le_refl _) _, by simp⟩
    show _ = _
    rw [Nat.div_eq_of_lt HLN.out, Int.pow_zero, enc_1]
  case round =>
    obtain ⟨k, bp, mp, hk, rfl, HP, c0, c1, f0, f1, hbl, hsz⟩ := hrel
    rcases k with _ | j
    · have e : (((0 : Nat) : Int) - 1) = -1 := rfl
      rw [e]
      have hP := HP.out
      rw [Nat.pow_zero, Nat.div_one] at hP
      have HP2 := Lib.hid hP
      have hall := HB1.out.trans (hbl.mono HB1.out.size)
      obtain ⟨r0, r1, s0, s1⟩ := res2 (g := w.heap.size + 1) (by exact heap_two _ _ _) hall (by simp <;> omega)
      have HALL := Lib.hid hall
      clear e hP HP hall hbl
      go_wp2
      refine bodyPost_ret (v := .tuple #[.agg #[.bool bp, .string mp], .int .i64 0]) (by simp [results, Try.results37, go_sem, r0, r1]) rfl ⟨bp, mp, HP2, rfl, ?_⟩
      exact ((Below.trans (((Below.refl _ _).alloc (Nat.le_refl _) _).alloc (by simp <;> omega) _) (HALL.out.mono (B' := w.heap.size) (by simp <;> omega))).setCell (by simp <;> omega) _).setCell (by simp <;> omega) _
    · have e : (((j + 1 : Nat) : Int) - 1) = (j : Int) := by omega
      rw [e]
      clear e
      have hsz0 : w1.heap.size ≤ wr.heap.size := by omega
      have hq64 : n / 2 ^ j ≤ n := Nat.div_le_self _ _
      have hq65 : n / 2 ^ (j + 1) ≤ n := Nat.div_le_self _ _
      have hpw := half_pow x n j
      obtain ⟨bq, mq, hbq⟩ := enc_form (x ^ (n / 2 ^ (j + 1)) * x ^ (n / 2 ^ (j + 1)))
      have hm1 := fun V => mul_any (x ^ (n / 2 ^ (j + 1))) (x ^ (n / 2 ^ (j + 1))) (pow_size HX.out _ (by omega)) (pow_size HX.out _ (by omega)) V
      rw [HP.out] at hm1
      unfold RetZ at hm1
      rw [hbq] at hm1
      have HM1 := Lib.hid hm1
      have hsq : (mag (x ^ (n / 2 ^ (j + 1)) * x ^ (n / 2 ^ (j + 1))).natAbs).size ≤ 100000 := by
        rw [← Int.pow_add]
        refine pow_size HX.out _ ?_
        omega
      have hxs : (mag x.natAbs).size ≤ 100000 := by
        have := mag_size_le HX.out
        omega
      have SQ := Lib.hid hsq
      have XS := Lib.hid hxs
      clear hsq hxs
      have ca0 := (hbl.cell (p := ⟨w.heap.size, 0, none⟩) (by show w.heap.size < _; omega)).trans HCC.out.1
      have ca1 := (hbl.cell (p := ⟨w.heap.size, 1, none⟩) (by show w.heap.size < _; omega)).trans HCC.out.2
      obtain ⟨q, hq⟩ : ∃ q, n / 2 ^ j = q := ⟨_, rfl⟩
      have hquo : (n : Int) / 2 ^ j = (q : Int) := by rw [← hq]; simp
      rw [hq] at hq64 hpw
      have HQ := Lib.hid hq
      have hand : bits .and .i64 ((n : Int) / 2 ^ j) 1 = ((q % 2 : Nat) : Int) := by rw [hquo]; exact and_one_i64 q (by omega)
      clear hquo
      have hj0 : (0 : Int) ≤ (j : Int) := by omega
      have hj1 : (j : Int) ≤ 64 := by omega
      have HBQ := Lib.hid hbq
      have HPW := Lib.hid hpw
      clear hm1 hpw hbq hq hq65
      have hpb : enc (x ^ q) = if q % 2 = 1 then enc (x ^ (n / 2 ^ (j + 1)) * x ^ (n / 2 ^ (j + 1)) * x) else .agg #[.bool bq, .string mq] := by
        rw [HPW.out]; split
        · rfl
        · exact HBQ.out
      have HPB := Lib.hid hpb
      clear hpb
      by_cases hbit : q % 2 = 1
      · rw [hbit] at hand
        obtain ⟨br, mr, hbr⟩ := enc_form (x ^ (n / 2 ^ (j + 1)) * x ^ (n / 2 ^ (j + 1)) * x)
        have hm2 := fun V => mul_any (x ^ (n / 2 ^ (j + 1)) * x ^ (n / 2 ^ (j + 1))) x (SQ.out) (XS.out) V
        rw [HBQ.out, HX0.out] at hm2
        unfold RetZ at hm2
        rw [hbr] at hm2
        have hpr : enc (x ^ q) = .agg #[.bool br, .string mr] := by rw [HPB.out, if_pos hbit, hbr]
        have HPR := Lib.hid hpr
        have HM2 := Lib.hid hm2
        clear hm2 hbr hpr
        go_wp2_with fail
        refine (HM1.out _).mono ?_
        rintro e w2 ⟨rfl, hb2⟩
        have d0 := (hb2.cell (p := ⟨w1.heap.size, 0, none⟩) (by show w1.heap.size < _; omega)).trans c0
        have d1 := (hb2.cell (p := ⟨w1.heap.size, 1, none⟩) (by show w1.heap.size < _; omega)).trans c1
        have d2 := (hb2.frozen (p := ⟨w1.heap.size, 0, none⟩) (by show w1.heap.size < _; omega)).trans f0
        have d3 := (hb2.frozen (p := ⟨w1.heap.size, 1, none⟩) (by show w1.heap.size < _; omega)).trans f1
        have d4 := (hb2.cell (p := ⟨w.heap.size, 0, none⟩) (by show w.heap.size < _; omega)).trans ca0
        have d5 := (hb2.cell (p := ⟨w.heap.size, 1, none⟩) (by show w.heap.size < _; omega)).trans ca1
        have d6 := hb2.size
        go_wp2_with fail
        have d7 : w1.heap.size + 1 ≤ w2.heap.size := by omega
        refine (HM2.out _).mono ?_
        rintro e w3 ⟨rfl, hb3⟩
        have hs3 := hb3.size
        simp at hs3
        have g2 : w3.frozen? ⟨w1.heap.size, 0, none⟩ = false := (hb3.frozen (p := ⟨w1.heap.size, 0, none⟩) (by show w1.heap.size < _; simp; omega)).trans (by simp [d2])
        have g3 : w3.frozen? ⟨w1.heap.size, 1, none⟩ = false := (hb3.frozen (p := ⟨w1.heap.size, 1, none⟩) (by show w1.heap.size < _; simp; omega)).trans (by simp [d3])
        have k0 : w3.cell? ⟨w1.heap.size, 0, none⟩ = some (.bool bq) := (hb3.cell (p := ⟨w1.heap.size, 0, none⟩) (by show w1.heap.size < _; simp; omega)).trans (two_cells _ _ _ _ d0 d1).1
        have k1 : w3.cell? ⟨w1.heap.size, 1, none⟩ = some (.string mq) := (hb3.cell (p := ⟨w1.heap.size, 1, none⟩) (by show w1.heap.size < _; simp; omega)).trans (two_cells _ _ _ _ d0 d1).2
        have hall : Below w1.heap.size w1 w3 := (((hbl.trans (hb2.mono hsz0)).setCell (Nat.le_refl _) _).setCell (Nat.le_refl _) _).trans (hb3.mono (by simp; omega))
        have HALL := Lib.hid hall
        clear hall
        go_wp2_with fail
        refine ⟨⟨j, br, mr, by omega, rfl, by rw [HQ.out]; exact HPR.out, ?_, ?_, ?_, ?_, ?_, ?_⟩, ?_⟩
        · exact (two_cells _ _ _ _ k0 k1).1
        · exact (two_cells _ _ _ _ k0 k1).2
        · simp [g2]
        · simp [g3]
        · exact (HALL.out.setCell (Nat.le_refl _) _).setCell (Nat.le_refl _) _
        · simp <;> omega
        · simp [intOf] <;> omega
      · rw [show q % 2 = 0 by omega] at hand
        have hpr : enc (x ^ q) = .agg #[.bool bq, .string mq] := by rw [HPB.out, if_neg hbit]
        have HPR := Lib.hid hpr
        clear hpr
        go_wp2_with fail
        refine (HM1.out _).mono ?_
        rintro e w2 ⟨rfl, hb2⟩
        have d0 := (hb2.cell (p := ⟨w1.heap.size, 0, none⟩) (by show w1.heap.size < _; omega)).trans c0
        have d1 := (hb2.cell (p := ⟨w1.heap.size, 1, none⟩) (by show w1.heap.size < _; omega)).trans c1
        have d2 := (hb2.frozen (p := ⟨w1.heap.size, 0, none⟩) (by show w1.heap.size < _; omega)).trans f0
        have d3 := (hb2.frozen (p := ⟨w1.heap.size, 1, none⟩) (by show w1.heap.size < _; omega)).trans f1
        have d4 := (hb2.cell (p := ⟨w.heap.size, 0, none⟩) (by show w.heap.size < _; omega)).trans ca0
        have d5 := (hb2.cell (p := ⟨w.heap.size, 1, none⟩) (by show w.heap.size < _; omega)).trans ca1
        have d6 := hb2.size
        go_wp2_with fail
        refine ⟨⟨j, bq, mq, by omega, rfl, by rw [HQ.out]; exact HPR.out, ?_, ?_, ?_, ?_, ?_, ?_⟩, ?_⟩
        · exact (two_cells _ _ _ _ d0 d1).1
        · exact (two_cells _ _ _ _ d0 d1).2
        · simp [d2]
        · simp [d3]
        · exact ((hbl.trans (hb2.mono hsz0)).setCell (Nat.le_refl _) _).setCell (Nat.le_refl _) _
        · simp <;> omega
        · simp [intOf] <;> omega

set_option maxHeartbeats 4000000 in
set_option maxRecDepth 100000 in
theorem pow_bad (n : Int) (hn : n < 0 ∨ 64 < n) (h1 : -9223372036854775808 ≤ n) (h2 : n ≤ 9223372036854775807) (b0 : Bool) (m0 : ByteArray) (w : World) :
    Calls Try.prog 37 #[.agg #[.bool b0, .string m0], .int .i64 n] w (RetE w 0 2) := by
  by_cases h0 : n < 0
  · have hn0 : decide (n < 0) = true := by simpa using h0
    go_enter Try.func37, Try.ntmps37
    go_wp2
    refine bodyPost_ret (v := .tuple #[.agg #[.bool false, .string ⟨#[]⟩], .int .i64 2]) (by simp [results, Try.results37, go_sem]) rfl ⟨false, ⟨#[]⟩, enc_zero, rfl, ?_⟩
    exact ((Below.refl _ _).alloc (Nat.le_refl _) _).alloc (by simp <;> omega) _
  · have hn0 : decide (n < 0) = false := by simpa using h0
    have hn1 : decide (64 < n) = true := by simp; omega
    go_enter Try.func37, Try.ntmps37
    go_wp2
    refine bodyPost_ret (v := .tuple #[.agg #[.bool false, .string ⟨#[]⟩], .int .i64 2]) (by simp [results, Try.results37, go_sem]) rfl ⟨false, ⟨#[]⟩, enc_zero, rfl, ?_⟩
    exact ((Below.refl _ _).alloc (Nat.le_refl _) _).alloc (by simp <;> omega) _
end Go.Proofs.Ytkaefmfophopoaa
