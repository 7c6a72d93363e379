import Derived.Test.YtkaefmfophopoaaDoorGDivM
import Derived.Test.YtkaefmfophopoaaDoorGGcN

/-
  The program's digit of a difference of two multiples.
-/
namespace Go.Proofs.YtkaefmfophopoaaDoor
open Go.RowKit
attribute [local go_sem ↓] Go.wp_at_zero Go.wp_at_succ

/-- Block g holds a difference that is under way. -/
def Df (w : World) (g P M c t b : Nat) : Prop := w.heap[g]? = some (.cells #[.int .u64 (P : Int), .int .u64 (M : Int), .int .u64 (c : Int), .int .u64 (t : Int), .int .u64 (b : Int)] 117 (0, 0))

theorem Df.cells {w : World} {g P M c t b : Nat} (h : Df w g P M c t b) : w.cell? ⟨g, 0, none⟩ = some (.int .u64 (P : Int)) ∧ w.cell? ⟨g, 1, none⟩ = some (.int .u64 (M : Int)) ∧ w.cell? ⟨g, 2, none⟩ = some (.int .u64 (c : Int)) ∧
    w.cell? ⟨g, 3, none⟩ = some (.int .u64 (t : Int)) ∧ w.cell? ⟨g, 4, none⟩ = some (.int .u64 (b : Int)) ∧ w.frozen? ⟨g, 2, none⟩ = false ∧ w.frozen? ⟨g, 3, none⟩ = false ∧ w.frozen? ⟨g, 4, none⟩ = false := by
  unfold Df at h
  refine ⟨?_, ?_, ?_, ?_, ?_, ?_, ?_, ?_⟩ <;> simp [World.cell?, World.frozen?, h]
theorem Df.set2 {w : World} {g P M c t b : Nat} (h : Df w g P M c t b) (x : Nat) : Df (w.setCell ⟨g, 2, none⟩ (.int .u64 (x : Int))) g P M x t b := by
  unfold Df at h ⊢
  simp [World.setCell, Array.getElem?_modify, h]
theorem Df.set3 {w : World} {g P M c t b : Nat} (h : Df w g P M c t b) (x : Nat) : Df (w.setCell ⟨g, 3, none⟩ (.int .u64 (x : Int))) g P M c x b := by
  unfold Df at h ⊢
  simp [World.setCell, Array.getElem?_modify, h]
theorem Df.set4 {w : World} {g P M c t b : Nat} (h : Df w g P M c t b) (x : Nat) : Df (w.setCell ⟨g, 4, none⟩ (.int .u64 (x : Int))) g P M c t x := by
  unfold Df at h ⊢
  simp [World.setCell, Array.getElem?_modify, h]
theorem Df.of_block {w w' : World} {g P M c t b : Nat} (h : Df w g P M c t b) (e : w'.heap[g]? = w.heap[g]?) : Df w' g P M c t b := e.trans h
theorem Df.lt {w : World} {g P M c t b : Nat} (h : Df w g P M c t b) : g < w.heap.size := (Array.getElem?_eq_some_iff.1 h).1

/-- A call that hands back a digit and leaves the difference a place further. -/
def RetDg (w : World) (g r P M c t b : Nat) (e : Ending) (w' : World) : Prop := e = .returned (.int .u64 (r : Int)) ∧ Df w' g P M c t b ∧ w.grownBy w' (some g)

/-- A word times a word, and a carry. -/
theorem mul_carry {P x c : Nat} (hP : P < 18446744073709551616) (hx : x < 18446744073709551616) (hc : c < 18446744073709551616) :
    (P * x % 18446744073709551616 + c) % 18446744073709551616 = (P * x + c) % 18446744073709551616 ∧ (P * x + c) / 18446744073709551616 < 18446744073709551616 ∧
    P * x / 18446744073709551616 + (P * x % 18446744073709551616 + c) / 18446744073709551616 = (P * x + c) / 18446744073709551616 := by
  have h1 : P * x ≤ 18446744073709551615 * 18446744073709551615 := Nat.mul_le_mul (by omega) (by omega)
  generalize P * x = p at *
  omega

set_option maxHeartbeats 2000000 in
set_option maxRecDepth 100000 in
theorem digit_any (g P M c t b x y l1 l2 c' t' b' r : Nat) (w : World) (hP : P < 18446744073709551616) (hM : M < 18446744073709551616) (hc : c < 18446744073709551616) (ht : t < 18446744073709551616) (hx : x < 18446744073709551616) (hy : y < 18446744073709551616) (hb : b ≤ 1)
    (hl1 : (P * x + c) % 18446744073709551616 = l1) (hc' : (P * x + c) / 18446744073709551616 = c') (hl2 : (M * y + t) % 18446744073709551616 = l2) (ht' : (M * y + t) / 18446744073709551616 = t')
    (hr : (l1 + 18446744073709551616 - l2 - b) % 18446744073709551616 = r) (hb' : (if l1 < l2 + b then 1 else 0) = b') (hd : Df w g P M c t b) :
    Calls Tryd.prog 88 #[.pointer (some ⟨g, 0, none⟩), .int .u64 (x : Int), .int .u64 (y : Int)] w (RetDg w g r P M c' t' b') := by
  obtain ⟨m1, m2, m3⟩ := mul_carry hP hx hc
  obtain ⟨n1, n2, n3⟩ := mul_carry hM hy ht
  rw [hl1] at m1
  rw [hc'] at m2 m3
  rw [hl2] at n1
  rw [ht'] at n2 n3
  obtain ⟨h1, hh1⟩ : ∃ v, P * x / 18446744073709551616 = v := ⟨_, rfl⟩
  obtain ⟨k1, hk1⟩ : ∃ v, P * x % 18446744073709551616 = v := ⟨_, rfl⟩
  obtain ⟨h2, hh2⟩ : ∃ v, M * y / 18446744073709551616 = v := ⟨_, rfl⟩
  obtain ⟨k2, hk2⟩ : ∃ v, M * y % 18446744073709551616 = v := ⟨_, rfl⟩
  have HM1 := Lib.hid (fun W => mul64_any P x hP hx h1 k1 hh1 hk1 W)
  have HM2 := Lib.hid (fun W => mul64_any M y hM hy h2 k2 hh2 hk2 W)
  rw [hk1] at m1 m3
  rw [hh1] at m3
  rw [hk2] at n1 n3
  rw [hh2] at n3
  obtain ⟨o1, ho1⟩ : ∃ v, (k1 + c) / 18446744073709551616 = v := ⟨_, rfl⟩
  obtain ⟨o2, ho2⟩ : ∃ v, (k2 + t) / 18446744073709551616 = v := ⟨_, rfl⟩
  have ha1 := add64_0 k1 c l1 o1 m1 ho1
  have ha2 := add64_0 k2 t l2 o2 n1 ho2
  have ha3 := fun W => sub64_fn l1 l2 b hb W r b' hr hb'
  rw [ho1] at m3
  rw [ho2] at n3
  have s1 : (h1 : Int) + (o1 : Int) = (c' : Int) := by omega
  have s2 : (h2 : Int) + (o2 : Int) = (t' : Int) := by omega
  have d1 := hd.set2 c'
  have d2 := d1.set3 t'
  have d3 := d2.set4 b'
  obtain ⟨p0, p1, p2, p3, p4, p5, p6, p7⟩ := hd.cells
  obtain ⟨q0, q1, q2, q3, q4, q5, q6, q7⟩ := d1.cells
  obtain ⟨r0, r1, r2, r3, r4, r5, r6, r7⟩ := d2.cells
  have HD3 := Lib.hid d3
  clear hd d1 d2 d3 m1 m3 n1 n3 hh1 hk1 hh2 hk2 ho1 ho2 hl1 hc' hl2 ht' hr hb' p1 p3 p4 p6 p7 q0 q2 q4 q5 q7 r0 r1 r2 r3 r5 r6
  go_enter Tryd.func88, Tryd.ntmps88
  go_wp2_with fail
  refine (HM1.out _).mono ?_
  rintro e w1 ⟨rfl, rfl⟩
  go_wp2_with fail
  refine (HM2.out _).mono ?_
  rintro e w1 ⟨rfl, rfl⟩
  go_wp2
  go_ret
  exact ⟨rfl, HD3.out, grown_set (grown_set (grown_set (World.grownBy.refl _ _) _ _) _ _) _ _⟩
end Go.Proofs.YtkaefmfophopoaaDoor
