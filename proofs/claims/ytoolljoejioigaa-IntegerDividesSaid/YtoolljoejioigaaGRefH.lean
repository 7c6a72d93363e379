/-
  Words for the walks of the statements about two and three integers: what lies in the parameters' blocks behind the first line of each.
-/
import Derived.Test.YtoolljoejioigaaGRefL
import Derived.Test.YtoolljoejioigaaGLawA
import Derived.Deep.RegionWith
import Derived.Deep.DeepCutAuto
namespace Go.Proofs.Ytoolljoejioigaa
open Go.RowKit
attribute [local go_sem ↓] Go.wp_at_zero Go.wp_at_succ

/-- An integer lies in block g. -/
structure Zi (W : World) (g : Nat) (b : Bool) (m : ByteArray) : Prop where
  c0 : W.cell? ⟨g, 0, none⟩ = some (.bool b)
  c1 : W.cell? ⟨g, 1, none⟩ = some (.string m)

theorem Zi.below {W W' : World} {g B : Nat} {b : Bool} {m : ByteArray} (h : Zi W g b m) (hb : Below B W W') (hg : g < B) : Zi W' g b m :=
  ⟨(hb.cell (p := ⟨g, 0, none⟩) hg).trans h.c0, (hb.cell (p := ⟨g, 1, none⟩) hg).trans h.c1⟩

/-- Three boxes of integers, as they were made. -/
structure K3 (w : World) (T : TypeId) (v0 v1 v2 v3 v4 v5 : Value) (w1 : World) : Prop where
  k0 : w1.heap[w.heap.size]? = some (.cells #[v0, v1] T (0, 0))
  k1 : w1.heap[w.heap.size + 1]? = some (.cells #[v2, v3] T (0, 0))
  k2 : w1.heap[w.heap.size + 2]? = some (.cells #[v4, v5] T (0, 0))
  sz : w.heap.size + 3 ≤ w1.heap.size
  bel : Below w.heap.size w w1

theorem K3.start (w : World) (T : TypeId) (v0 v1 v2 v3 v4 v5 : Value) : K3 w T v0 v1 v2 v3 v4 v5 (((w.alloc (.cells #[v0, v1] T)).alloc (.cells #[v2, v3] T)).alloc (.cells #[v4, v5] T)) := by
  obtain ⟨k1, k2, k3⟩ := heap_three_all w (.cells #[v0, v1] T) (.cells #[v2, v3] T) (.cells #[v4, v5] T)
  exact ⟨k1, k2, k3, by simp, (((Below.refl _ _).alloc (Nat.le_refl _) _).alloc (by simp) _).alloc (by simp <;> omega) _⟩

theorem K3.next {w : World} {T : TypeId} {v0 v1 v2 v3 v4 v5 : Value} {w1 w2 : World} (h : K3 w T v0 v1 v2 v3 v4 v5 w1) (hb : Below w1.heap.size w1 w2) : K3 w T v0 v1 v2 v3 v4 v5 w2 := by
  have hs := h.sz
  refine ⟨(hb.block _ (by omega)).trans h.k0, (hb.block _ (by omega)).trans h.k1, (hb.block _ (by omega)).trans h.k2, ?_, h.bel.trans (hb.mono h.bel.size)⟩
  have := hb.size
  omega
theorem K3.drew {w : World} {T : TypeId} {v0 v1 v2 v3 v4 v5 : Value} {w1 : World} (h : K3 w T v0 v1 v2 v3 v4 v5 w1) : K3 w T v0 v1 v2 v3 v4 v5 w1.drew := h.next (Below.refl _ _).drew

/-- Three integers of at most k bytes lie in the three boxes. -/
structure In3 (w : World) (k : Nat) (x y z : Int) (b1 b2 b3 : Bool) (m1 m2 m3 : ByteArray) (wx : World) : Prop where
  sx : x.natAbs < 256 ^ k
  sy : y.natAbs < 256 ^ k
  sz : z.natAbs < 256 ^ k
  ex : Hid (enc x = .agg #[.bool b1, .string m1])
  ey : Hid (enc y = .agg #[.bool b2, .string m2])
  ez : Hid (enc z = .agg #[.bool b3, .string m3])
  zx : Zi wx w.heap.size b1 m1
  zy : Zi wx (w.heap.size + 1) b2 m2
  zz : Zi wx (w.heap.size + 2) b3 m3
  big : w.heap.size + 3 ≤ wx.heap.size
  bel : Below w.heap.size w wx
def In3E (w : World) (k : Nat) (wx : World) : Prop := ∃ x y z b1 b2 b3 m1 m2 m3, In3 w k x y z b1 b2 b3 m1 m2 m3 wx

theorem set_three {W : World} {g : Nat} {T : TypeId} {y0 y1 y2 y3 y4 y5 x0 x1 x2 x3 x4 x5 : Value} (q0 : W.heap[g]? = some (.cells #[y0, y1] T (0, 0))) (q1 : W.heap[g + 1]? = some (.cells #[y2, y3] T (0, 0))) (q2 : W.heap[g + 2]? = some (.cells #[y4, y5] T (0, 0))) (W' : World)
    (hW : W' = ((((((W.setCell ⟨g, 0, none⟩ x0).setCell ⟨g, 1, none⟩ x1).setCell ⟨g + 1, 0, none⟩ x2).setCell ⟨g + 1, 1, none⟩ x3).setCell ⟨g + 2, 0, none⟩ x4).setCell ⟨g + 2, 1, none⟩ x5)) :
    W'.cell? ⟨g, 0, none⟩ = some x0 ∧ W'.cell? ⟨g, 1, none⟩ = some x1 ∧ W'.cell? ⟨g + 1, 0, none⟩ = some x2 ∧ W'.cell? ⟨g + 1, 1, none⟩ = some x3 ∧ W'.cell? ⟨g + 2, 0, none⟩ = some x4 ∧ W'.cell? ⟨g + 2, 1, none⟩ = some x5 ∧ W'.heap.size = W.heap.size := by
  obtain ⟨a0, a1, _, _⟩ := blk_cells q0
  obtain ⟨a2, a3, _, _⟩ := blk_cells q1
  obtain ⟨a4, a5, _, _⟩ := blk_cells q2
  have n1 : ¬ (g = g + 2) := by omega
  have n2 : ¬ (g + 2 = g) := by omega
  have n3 : ¬ (g + 1 = g + 2) := by omega
  have n4 : ¬ (g + 2 = g + 1) := by omega
  subst hW
  refine ⟨?_, ?_, ?_, ?_, ?_, ?_, ?_⟩ <;> simp [go_sem, a0, a1, a2, a3, a4, a5, n1, n2, n3, n4]

theorem In3E.mk {w W : World} {k : Nat} {T : TypeId} {v0 v1 v2 v3 v4 v5 : Value} {x y z : Int} {b1 b2 b3 : Bool} {m1 m2 m3 : ByteArray} (hk : K3 w T v0 v1 v2 v3 v4 v5 W) (sx : x.natAbs < 256 ^ k) (sy : y.natAbs < 256 ^ k) (sz : z.natAbs < 256 ^ k)
    (ex : Hid (enc x = .agg #[.bool b1, .string m1])) (ey : Hid (enc y = .agg #[.bool b2, .string m2])) (ez : Hid (enc z = .agg #[.bool b3, .string m3])) :
    In3E w k ((((((W.setCell ⟨w.heap.size, 0, none⟩ (.bool b1)).setCell ⟨w.heap.size, 1, none⟩ (.string m1)).setCell ⟨w.heap.size + 1, 0, none⟩ (.bool b2)).setCell ⟨w.heap.size + 1, 1, none⟩ (.string m2)).setCell ⟨w.heap.size + 2, 0, none⟩ (.bool b3)).setCell ⟨w.heap.size + 2, 1, none⟩ (.string m3)) := by
  obtain ⟨t0, t1, t2, t3, t4, t5, t6⟩ := set_three (x0 := .bool b1) (x1 := .string m1) (x2 := .bool b2) (x3 := .string m2) (x4 := .bool b3) (x5 := .string m3) hk.k0 hk.k1 hk.k2 _ rfl
  exact ⟨x, y, z, b1, b2, b3, m1, m2, m3, sx, sy, sz, ex, ey, ez, ⟨t0, t1⟩, ⟨t2, t3⟩, ⟨t4, t5⟩, by rw [t6]; exact hk.sz,
    (((((hk.bel.setCell (by show w.heap.size ≤ w.heap.size; omega) _).setCell (by show w.heap.size ≤ w.heap.size; omega) _).setCell (by show w.heap.size ≤ w.heap.size + 1; omega) _).setCell (by show w.heap.size ≤ w.heap.size + 1; omega) _).setCell (by show w.heap.size ≤ w.heap.size + 2; omega) _).setCell (by show w.heap.size ≤ w.heap.size + 2; omega) _⟩

/-- The world so far, behind a call: the three integers lie where they lay. -/
structure S3 (w : World) (b1 b2 b3 : Bool) (m1 m2 m3 : ByteArray) (wc : World) : Prop where
  zx : Zi wc w.heap.size b1 m1
  zy : Zi wc (w.heap.size + 1) b2 m2
  zz : Zi wc (w.heap.size + 2) b3 m3
  big : w.heap.size + 3 ≤ wc.heap.size
  bel : Below w.heap.size w wc
theorem S3.next {w w1 w2 : World} {b1 b2 b3 : Bool} {m1 m2 m3 : ByteArray} (h : S3 w b1 b2 b3 m1 m2 m3 w1) (hb : Below w1.heap.size w1 w2) : S3 w b1 b2 b3 m1 m2 m3 w2 := by
  have := h.big
  exact ⟨h.zx.below hb (by omega), h.zy.below hb (by omega), h.zz.below hb (by omega), Nat.le_trans h.big hb.size, h.bel.trans (hb.mono h.bel.size)⟩
theorem S3.drew {w w1 : World} {b1 b2 b3 : Bool} {m1 m2 m3 : ByteArray} (h : S3 w b1 b2 b3 m1 m2 m3 w1) : S3 w b1 b2 b3 m1 m2 m3 w1.drew := h.next (Below.refl _ _).drew
theorem S3.alloc {w w1 : World} {b1 b2 b3 : Bool} {m1 m2 m3 : ByteArray} (h : S3 w b1 b2 b3 m1 m2 m3 w1) (o : Obj) : S3 w b1 b2 b3 m1 m2 m3 (w1.alloc o) := h.next ((Below.refl _ _).alloc (Nat.le_refl _) _)

/-- An integer in a new block of a world, later. -/
structure Oi (w4 : World) (b : Bool) (m : ByteArray) (wc : World) : Prop where
  z : Zi wc w4.heap.size b m
  big : w4.heap.size + 1 ≤ wc.heap.size
theorem Oi.start (w4 : World) (b : Bool) (m : ByteArray) (T : TypeId) : Oi w4 b m (w4.alloc (.cells #[.bool b, .string m] T)) := by
  obtain ⟨a0, a1, _, _⟩ := blk_cells (heap_one w4 (.cells #[.bool b, .string m] T))
  exact ⟨⟨a0, a1⟩, by simp⟩
theorem Oi.next {w4 w1 w2 : World} {b : Bool} {m : ByteArray} (h : Oi w4 b m w1) (hb : Below w1.heap.size w1 w2) : Oi w4 b m w2 := ⟨h.z.below hb (by have := h.big; omega), Nat.le_trans h.big hb.size⟩
theorem Oi.drew {w4 w1 : World} {b : Bool} {m : ByteArray} (h : Oi w4 b m w1) : Oi w4 b m w1.drew := h.next (Below.refl _ _).drew

theorem sz_add {x y : Int} {k : Nat} (hx : x.natAbs < 256 ^ k) (hy : y.natAbs < 256 ^ k) : (x + y).natAbs < 256 ^ (k + 1) := by
  rw [Nat.pow_succ]
  generalize 256 ^ k = p at *
  omega
theorem sz_sub {x y : Int} {k : Nat} (hx : x.natAbs < 256 ^ k) (hy : y.natAbs < 256 ^ k) : (x - y).natAbs < 256 ^ (k + 1) := by
  rw [Nat.pow_succ]
  generalize 256 ^ k = p at *
  omega
theorem sz_mul {x y : Int} {k j : Nat} (hx : x.natAbs < 256 ^ k) (hy : y.natAbs < 256 ^ j) : (x * y).natAbs < 256 ^ (k + j) := by
  rw [Int.natAbs_mul, Nat.pow_add]
  exact Nat.mul_lt_mul'' hx hy
theorem sz_neg {x : Int} {k : Nat} (hx : x.natAbs < 256 ^ k) : (-x).natAbs < 256 ^ k := by rw [Int.natAbs_neg]; exact hx
end Go.Proofs.Ytoolljoejioigaa

/-
  The reference's integer of an int.
-/
namespace Go.Proofs.Ytoolljoejioigaa
open Go.RowKit
attribute [local go_sem ↓] Go.wp_at_zero Go.wp_at_succ

/-- The bytes of the magnitude that are left of n, with n's sign. -/
def left (n : Int) (k : Nat) : Int := if n < 0 then -((n.natAbs / 256 ^ k : Nat) : Int) else ((n.natAbs / 256 ^ k : Nat) : Int)

theorem left_zero (n : Int) : left n 0 = n := by unfold left; split <;> simp <;> omega

theorem digits_end {V k : Nat} (hV : V ≤ 9223372036854775808) (h : V / 256 ^ k ≠ 0) : k < 8 := by
  rcases Nat.lt_or_ge k 8 with h1 | h1
  · exact h1
  · have h2 : (256 : Nat) ^ 8 ≤ 256 ^ k := Nat.pow_le_pow_right (by omega) h1
    have h3 : (256 : Nat) ^ 8 = 18446744073709551616 := by decide
    exact absurd (Nat.div_eq_of_lt (by omega)) h

theorem digits_all {V k : Nat} (h : V / 256 ^ k = 0) : V < 256 ^ k := by
  have hp : 0 < 256 ^ k := Nat.pow_pos (by omega)
  rcases Nat.lt_or_ge V (256 ^ k) with h1 | h1
  · exact h1
  · have := Nat.div_pos h1 hp
    omega

theorem neg_rem (q : Nat) : (-(q : Int)).tmod 256 = -((q % 256 : Nat) : Int) := by rw [Int.neg_tmod]; rfl
theorem neg_quo (q : Nat) : (-(q : Int)).tdiv 256 = -((q / 256 : Nat) : Int) := by rw [Int.neg_tdiv]; rfl

set_option maxHeartbeats 2000000 in
set_option maxRecDepth 100000 in
theorem refFromInt_pos (V : Nat) (hV : V ≤ 9223372036854775807) (w : World) :
    Calls Try.prog 18 #[.int .i64 (V : Int)] w (RetZ w V) := by
  obtain ⟨i0, hi, hz0, hz1, hz2⟩ := info_parts intTy_info
  have hn0 : decide ((V : Int) < 0) = false := by simp <;> omega
  go_enter Try.func18, Try.ntmps18
  go_wp2
  go_loopw [0, 3] (fun nv out wr => ∃ k q : Nat, k ≤ 8 ∧ Hid (V / 256 ^ k = q) ∧ nv = .int .i64 (q : Int) ∧ q ≤ V ∧ wr.ownsRow (w.heap.size + 1) 3 1 out k (nums .i64 (D 256 V) k) ∧ Below (w.heap.size + 1) (w.alloc (.cells #[.bool false, .string ⟨#[]⟩] 23)) wr ∧ w.heap.size + 1 ≤ wr.heap.size)
    (fun nv _ _ => (intOf nv).toNat)
  case atStart => exact ⟨0, V, by omega, by show _ = _; simp, rfl, Nat.le_refl _, World.ownsRow_nil _ _ _ _, by simpa using Below.refl _ _, by simp⟩
  case round =>
    obtain ⟨k, q, hk, HQ, rfl, hqV, hown, hbl, hsz⟩ := hrel
    by_cases h0 : q = 0
    · subst h0
      have hlt := digits_all HQ.out
      obtain ⟨A1, c1, rfl, hr1⟩ := Rd.of_own hown
      have HD := Lib.hid (show Dg wr .i64 256 A1 k V from ⟨hlt, hr1⟩)
      clear hlt hr1 hown
      go_wp2_with fail
      refine (number_any false A1 k c1 V _ (by omega) HD.out).mono fun e w2 h => ?_
      obtain ⟨bz, mz, HZ, rfl, hb2⟩ := h.form
      have hall := hbl.trans (hb2.mono (by omega))
      obtain ⟨q0, q1, f0, f1⟩ := res2 (g := w.heap.size) (by exact heap_one _ _) hall (by simp)
      have HALL := Lib.hid hall
      clear h hb2 hall hbl
      go_wp2
      refine bodyPost_ret (v := .agg #[.bool bz, .string mz]) (by simp [results, Try.results18, go_sem, q0, q1]) rfl ⟨by rw [← HZ.out]; rfl, ?_⟩
      exact ((((Below.refl _ _).alloc (Nat.le_refl _) _).trans (HALL.out.mono (by omega))).setCell (by simp) _).setCell (by simp) _
    · have hk8 := digits_end (V := V) (k := k) (by omega) (by rw [HQ.out]; exact h0)
      have hne : ((q : Int) != 0) = true := by simp; omega
      have hd : D 256 V k = q % 256 := by unfold D; rw [HQ.out]
      have hq2 : V / 256 ^ (k + 1) = q / 256 := by rw [Nat.pow_succ, ← Nat.div_div_eq_div_mul, HQ.out]
      have HD := Lib.hid hd
      have HQ2 := Lib.hid hq2
      clear hd hq2
      go_wp2_with (at_builtin; refine wpList_append_own _ rfl _ _ 48 rfl (w.heap.size + 1) 3 i0 (.int .i64 0) 1 8 Try.underlying48 hi hz0 hz1 hz2 rfl (by decide) _ _ _ rfl (hown.alloc _) ⟨wr.heap.size, 0, none⟩ 1 1 [.int .i64 ((q % 256 : Nat) : Int)] rfl rfl ?_ ?_ ?_ ?_ ?_ ?_)
      · intro j u hj; exact one_cell j u hj (by go_num)
      · intro u hu; simp at hu; subst hu; rfl
      · unfold maxLen; omega
      · omega
      · simp; omega
      intro v' w2 hown' hgrow _
      have hown2 := own_next hown' HD.out.symm
      have hb2 : Below (w.heap.size + 1) wr w2 := ((Below.refl _ _).alloc hsz _).grown hgrow (by simp; omega) (fun g hg => ((hown.lt) g hg).1)
      have hs2 := hb2.size
      clear hgrow hown' hown
      go_wp2
      go_roundw
      case rel => exact ⟨k + 1, q / 256, by omega, HQ2, by go_num, by omega, hown2, hbl.trans hb2, by omega⟩
      case measure => simp [intOf]; omega
end Go.Proofs.Ytoolljoejioigaa

/-
  The reference's sign.
-/
namespace Go.Proofs.Ytoolljoejioigaa
open Go.RowKit
attribute [local go_sem ↓] Go.wp_at_zero Go.wp_at_succ

theorem refSign_any (z : Int) (w : World) : Calls Try.prog 23 #[enc z] w (RetB w (.int .i64 z.sign)) := by
  unfold enc
  rcases Int.lt_trichotomy z 0 with h | h | h
  · have h1 : decide (z < 0) = true := by simpa using h
    have h2 : ¬(mag z.natAbs).size = 0 := by rw [mag_zero_iff]; omega
    rw [h1, Int.sign_eq_neg_one_of_neg h]
    generalize mag z.natAbs = m at *
    clear h h1
    go_enter Try.func23, Try.ntmps23
    go_wp2
    go_ret
    exact ⟨rfl, (Below.refl _ _).alloc (Nat.le_refl _) _⟩
  · subst h
    have h2 : (mag (0 : Int).natAbs).size = 0 := by rw [mag_zero_iff]; rfl
    generalize mag (0 : Int).natAbs = m at *
    have h1 : decide ((0 : Int) < 0) = false := rfl
    have h3 : (0 : Int).sign = 0 := rfl
    rw [h1, h3]
    clear h1 h3
    go_enter Try.func23, Try.ntmps23
    go_wp2
    go_ret
    exact ⟨rfl, (Below.refl _ _).alloc (Nat.le_refl _) _⟩
  · have h1 : decide (z < 0) = false := by simp; omega
    have h2 : ¬(mag z.natAbs).size = 0 := by rw [mag_zero_iff]; omega
    rw [h1, Int.sign_eq_one_of_pos h]
    generalize mag z.natAbs = m at *
    clear h h1
    go_enter Try.func23, Try.ntmps23
    go_wp2
    go_ret
    exact ⟨rfl, (Below.refl _ _).alloc (Nat.le_refl _) _⟩

/-- How two integers compare. -/
def cmpZ (x y : Int) : Int := if x < y then -1 else if y < x then 1 else 0

theorem cmpZ_diff {x y : Int} (h : x.sign ≠ y.sign) : cmpZ x y = if x.sign < y.sign then -1 else 1 := by
  unfold cmpZ
  rcases Int.lt_trichotomy x 0 with h1 | h1 | h1 <;> rcases Int.lt_trichotomy y 0 with h2 | h2 | h2 <;>
    simp [Int.sign_eq_neg_one_of_neg, Int.sign_eq_one_of_pos, h1, h2] at h ⊢ <;> omega

theorem cmpZ_same {x y : Int} (h : x.sign = y.sign) : cmpZ x y = ord x.natAbs y.natAbs * x.sign := by
  unfold cmpZ ord
  rcases Int.lt_trichotomy x 0 with h1 | h1 | h1 <;> rcases Int.lt_trichotomy y 0 with h2 | h2 | h2 <;>
    simp [Int.sign_eq_neg_one_of_neg, Int.sign_eq_one_of_pos, h1, h2] at h ⊢
  · split <;> split <;> (try split) <;> (try split) <;> omega
  · split <;> split <;> (try split) <;> (try split) <;> omega

theorem cmpZ_in (x y : Int) : -1 ≤ cmpZ x y ∧ cmpZ x y ≤ 1 := by unfold cmpZ; split <;> (try split) <;> omega
end Go.Proofs.Ytoolljoejioigaa
