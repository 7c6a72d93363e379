/-
  The program's product and quotient of short integers.
-/
import Derived.Test.YtoolljoejioigaaIntE
namespace Go.Proofs.Ytoolljoejioigaa
open Go.RowKit
attribute [local go_sem ↓] Go.wp_at_zero Go.wp_at_succ

theorem mul64_any (x y : Nat) (hx : x < 18446744073709551616) (hy : y < 18446744073709551616) (hi lo : Nat) (h1 : x * y / 18446744073709551616 = hi) (h2 : x * y % 18446744073709551616 = lo) (w : World) :
    Calls Try.prog 53 #[.int .u64 (x : Int), .int .u64 (y : Int)] w (RetV w (.tuple #[.int .u64 (hi : Int), .int .u64 (lo : Int)])) :=
  (Try.bits_Mul64 x y hx hy w).mono fun e w' ⟨he, hw⟩ => ⟨by rw [he, h1, h2], hw.symm⟩

theorem RetQ.form {w : World} {q r err : Int} {e : Ending} {w' : World} (h : RetQ w q r err e w') : ∃ b1 m1 b2 m2, Hid (enc q = .agg #[.bool b1, .string m1]) ∧ Hid (enc r = .agg #[.bool b2, .string m2]) ∧
    e = .returned (.tuple #[.agg #[.bool b1, .string m1], .agg #[.bool b2, .string m2], .int .i64 err]) ∧ Below w.heap.size w w' := ⟨_, _, _, _, rfl, rfl, h.1, h.2⟩

/-- Four new blocks by their number. -/
theorem heap_four (w : World) (o1 o2 o3 o4 : Obj) : ((((w.alloc o1).alloc o2).alloc o3).alloc o4).heap[w.heap.size]? = some o1 ∧ ((((w.alloc o1).alloc o2).alloc o3).alloc o4).heap[w.heap.size + 1]? = some o2 ∧
    ((((w.alloc o1).alloc o2).alloc o3).alloc o4).heap[w.heap.size + 2]? = some o3 ∧ ((((w.alloc o1).alloc o2).alloc o3).alloc o4).heap[w.heap.size + 3]? = some o4 := by
  have h4 := heap_one (((w.alloc o1).alloc o2).alloc o3) o4
  refine ⟨?_, ?_, ?_, by simpa using h4⟩
  · exact (Below.heap_alloc _ _ _ (by simp <;> omega)).trans ((Below.heap_alloc _ _ _ (by simp <;> omega)).trans (heap_fst _ _ _))
  · exact (Below.heap_alloc _ _ _ (by simp <;> omega)).trans ((Below.heap_alloc _ _ _ (by simp <;> omega)).trans (heap_two _ _ _))
  · exact (Below.heap_alloc _ _ _ (by simp <;> omega)).trans (heap_three _ _ _ _)

theorem rd_two (w : World) (g : Nat) (T : TypeId) (a b : Nat) (f : Nat → Nat) (h : w.heap[g]? = some (.cells #[.int .u64 (a : Int), .int .u64 (b : Int)] T (0, 0))) (h0 : f 0 = a) (h1 : f 1 = b) : Rd w .u64 (some ⟨g, 0, none⟩) 2 f := fun _ => by
  refine ⟨g, 0, rfl, (Array.getElem?_eq_some_iff.1 h).1, fun i hi => ?_⟩
  match i, hi with
  | 0, _ => rw [h0]; simp [World.cell?, h]
  | 1, _ => rw [h1]; simp [World.cell?, h]

theorem bval_64 {a : ByteArray} (h : a.size ≤ 8) : bval a < 18446744073709551616 := by
  have h1 := bval_lt a
  have h2 : (256 : Nat) ^ a.size ≤ 256 ^ 8 := Nat.pow_le_pow_right (by omega) h
  have h3 : (256 : Nat) ^ 8 = 18446744073709551616 := by decide
  omega

set_option maxHeartbeats 2000000 in
set_option maxRecDepth 100000 in
theorem mul_short (na nb : Bool) (a b : ByteArray) (ha : a.size ≤ 8) (hb : b.size ≤ 8) (w : World) :
    Calls Try.prog 34 #[.agg #[.bool na, .string a], .agg #[.bool nb, .string b]] w (RetZ w (sgn (na != nb) (bval a * bval b))) := by
  have hx := bval_64 ha
  have hy := bval_64 hb
  have hV : bval a * bval b < B64 ^ 2 := by
    have h1 := Nat.mul_lt_mul'' hx hy
    rw [B64_eq, Nat.pow_two]
    exact h1
  have hlo : D B64 (bval a * bval b) 0 = bval a * bval b % 18446744073709551616 := by simp [D, B64_eq]
  have hhi : D B64 (bval a * bval b) 1 = bval a * bval b / 18446744073709551616 := by
    unfold D
    rw [Nat.pow_one, Nat.mod_eq_of_lt]
    · rw [B64_eq]
    · exact Nat.div_lt_of_lt_mul (by rw [← Nat.pow_two]; exact hV)
  generalize hxa : bval a = x at *
  generalize hyb : bval b = y at *
  generalize hVV : x * y = V at *
  have HVV := Lib.hid hVV
  have HV := Lib.hid hV
  obtain ⟨lo, hl⟩ : ∃ lo, D B64 V 0 = lo := ⟨_, rfl⟩
  obtain ⟨hi, hh⟩ : ∃ hi, D B64 V 1 = hi := ⟨_, rfl⟩
  have HL := Lib.hid hl
  have HH := Lib.hid hh
  have HLO := Lib.hid (hlo.symm.trans hl)
  have HHI := Lib.hid (hhi.symm.trans hh)
  have HX := Lib.hid hxa
  have HY := Lib.hid hyb
  clear hV hlo hhi hxa hyb hVV hl hh
  go_enter Try.func34, Try.ntmps34
  go_wp2_with fail
  refine (words_yes na nb a b ha hb _).mono ?_
  rintro e w1 ⟨rfl, hb1⟩
  obtain ⟨p0, p1, g0, g1⟩ := res2 (g := w.heap.size + 2) (by exact heap_three _ _ _ _) hb1 (by simp)
  rw [HX.out, HY.out]
  go_wp2_with fail
  refine (mul64_any x y hx hy hi lo (by rw [HVV.out]; exact HHI.out) (by rw [HVV.out]; exact HLO.out) _).mono ?_
  rintro e w' ⟨rfl, rfl⟩
  go_wp2_with fail
  refine (pack_any _ _ 2 2 V _ (by omega) ⟨HV.out, by omega, rd_two _ _ _ lo hi _ (heap_one _ _) HL.out HH.out⟩).mono fun e w2 h => ?_
  obtain ⟨b2, m2, HB2, rfl, hb2⟩ := h.form
  have hbA : Below w1.heap.size w1 (w1.alloc (.cells #[.int .u64 (lo : Int), .int .u64 (hi : Int)] 51)) := (Below.refl _ _).alloc (Nat.le_refl _) _
  have hb3 := hb1.trans ((hbA.trans (hb2.mono hbA.size)).mono hb1.size)
  obtain ⟨p0, p1, g0, g1⟩ := res2 (g := w.heap.size + 2) (by exact heap_three _ _ _ _) hb3 (by simp)
  have HB3 := Lib.hid hb3
  clear h hb1 hb2 hb3
  go_wp2
  refine bodyPost_ret (v := .agg #[.bool b2, .string m2]) (by simp [results, Try.results34, go_sem, p0, p1]) rfl ⟨?_, ?_⟩
  · rw [← HB2.out]
    have e : (!na == nb) = (na != nb) := by cases na <;> cases nb <;> rfl
    first | rw [e] | rfl
  · exact ((Below.trans ((((Below.refl _ _).alloc (Nat.le_refl _) _).alloc (by simp <;> omega) _).alloc (by simp <;> omega) _) (HB3.out.mono (B' := w.heap.size) (by simp <;> omega))).setCell (by simp <;> omega) _).setCell (by simp <;> omega) _

set_option maxHeartbeats 2000000 in
set_option maxRecDepth 100000 in
theorem divMod_short (na nb : Bool) (a b : ByteArray) (ha : a.size ≤ 8) (hb : b.size ≤ 8) (h0 : bval b ≠ 0) (w : World) :
    Calls Try.prog 36 #[.agg #[.bool na, .string a], .agg #[.bool nb, .string b]] w (RetQ w (sgn na (bval a) / sgn nb (bval b)) (sgn na (bval a) % sgn nb (bval b)) 0) := by
  have hx := bval_64 ha
  have hy := bval_64 hb
  generalize hxa : bval a = x at *
  generalize hyb : bval b = y at *
  have HX := Lib.hid hxa
  have HY := Lib.hid hyb
  have hne : ((y : Int) != 0) = true := by simp; omega
  clear hxa hyb
  go_enter Try.func36, Try.ntmps36
  go_wp2_with fail
  refine (words_yes na nb a b ha hb _).mono ?_
  rintro e w1 ⟨rfl, hb1⟩
  obtain ⟨k1, k2, k3, k4⟩ := heap_four w (.cells #[.bool na, .string a] 23) (.cells #[.bool nb, .string b] 23) (.cells #[.bool false, .string ⟨#[]⟩] 23) (.cells #[.bool false, .string ⟨#[]⟩] 23)
  have HK3 := Lib.hid k3
  have HK4 := Lib.hid k4
  obtain ⟨c0, c1, d0, d1⟩ := res2 (g := w.heap.size) (by exact k1) hb1 (by simp <;> omega)
  obtain ⟨c2, c3, d2, d3⟩ := res2 (g := w.heap.size + 1) (by exact k2) hb1 (by simp <;> omega)
  clear k1 k2 k3 k4
  rw [HX.out, HY.out]
  go_wp2_with fail
  refine (divModWords_any na nb x y hx hy h0 _).mono fun e w2 h => ?_
  obtain ⟨b1, m1, b2, m2, HB1, HB2, rfl, hb2⟩ := h.form
  have hb3 := hb1.trans (hb2.mono hb1.size)
  obtain ⟨p0, p1, g0, g1⟩ := res2 (g := w.heap.size + 2) (by exact HK3.out) hb3 (by simp <;> omega)
  obtain ⟨q0, q1, f0, f1⟩ := res2 (g := w.heap.size + 3) (by exact HK4.out) hb3 (by simp <;> omega)
  have HB3 := Lib.hid hb3
  clear h hb1 hb2 hb3 c0 c1 d0 d1 c2 c3 d2 d3
  go_wp2
  refine bodyPost_ret (v := .tuple #[.agg #[.bool b1, .string m1], .agg #[.bool b2, .string m2], .int .i64 0]) (by simp [results, Try.results36, go_sem, p0, p1, q0, q1]) rfl ⟨?_, ?_⟩
  · rw [← HB1.out, ← HB2.out]
  · exact ((((Below.trans (((((Below.refl _ _).alloc (Nat.le_refl _) _).alloc (by simp <;> omega) _).alloc (by simp <;> omega) _).alloc (by simp <;> omega) _) (HB3.out.mono (B' := w.heap.size) (by simp <;> omega))).setCell (by simp <;> omega) _).setCell (by simp <;> omega) _).setCell (by simp <;> omega) _).setCell (by simp <;> omega) _
end Go.Proofs.Ytoolljoejioigaa
