import Derived.Test.YtkaefmfophopoaaDoorGLawC
import Derived.Test.YtkaefmfophopoaaDoorGRefL

/-
  Words for the walks of the statements about two and three integers: what lies in the parameters' blocks behind the first line of each.
-/
namespace Go.Proofs.YtkaefmfophopoaaDoor
open Go.RowKit
attribute [local go_sem ↓] Go.wp_at_zero Go.wp_at_succ

/-- An integer lies in block g. -/
structure Zi (W : World) (g : Nat) (b : Bool) (m : ByteArray) : Prop where
  c0 : W.cell? ⟨g, 0, none⟩ = some (.bool b)
  c1 : W.cell? ⟨g, 1, none⟩ = some (.string m)

theorem Zi.below {W W' : World} {g B : Nat} {b : Bool} {m : ByteArray} (h : Zi W g b m) (hb : Below B W W') (hg : g < B) : Zi W' g b m :=
  ⟨(hb.cell (p := ⟨g, 0, none⟩) hg).trans h.c0, (hb.cell (p := ⟨g, 1, none⟩) hg).trans h.c1⟩

/-- Three boxes of integers, as they were made. -/
structure K3 (w : World) (T : TypeId) (v0 v1 v2 v3 v4 v5 : Value) (w1 : World) : Prop where
  k0 : w1.heap[w.heap.size]? = some (.cells #[v0, v1] T (0, 0))
  k1 : w1.heap[w.heap.size + 1]? = some (.cells #[v2, v3] T (0, 0))
  k2 : w1.heap[w.heap.size + 2]? = some (.cells #[v4, v5] T (0, 0))
  sz : w.heap.size + 3 ≤ w1.heap.size
  bel : Below w.heap.size w w1

theorem K3.start (w : World) (T : TypeId) (v0 v1 v2 v3 v4 v5 : Value) : K3 w T v0 v1 v2 v3 v4 v5 (((w.alloc (.cells #[v0, v1] T)).alloc (.cells #[v2, v3] T)).alloc (.cells #[v4, v5] T)) := by
  obtain ⟨k1, k2, k3⟩ := heap_three_all w (.cells #[v0, v1] T) (.cells #[v2, v3] T) (.cells #[v4, v5] T)
  exact ⟨k1, k2, k3, by simp, (((Below.refl _ _).alloc (Nat.le_refl _) _).alloc (by simp) _).alloc (by simp <;> omega) _⟩

theorem K3.next {w : World} {T : TypeId} {v0 v1 v2 v3 v4 v5 : Value} {w1 w2 : World} (h : K3 w T v0 v1 v2 v3 v4 v5 w1) (hb : Below w1.heap.size w1 w2) : K3 w T v0 v1 v2 v3 v4 v5 w2 := by
  have hs := h.sz
  refine ⟨(hb.block _ (by omega)).trans h.k0, (hb.block _ (by omega)).trans h.k1, (hb.block _ (by omega)).trans h.k2, ?_, h.bel.trans (hb.mono h.bel.size)⟩
  have := hb.size
  omega
theorem K3.drew {w : World} {T : TypeId} {v0 v1 v2 v3 v4 v5 : Value} {w1 : World} (h : K3 w T v0 v1 v2 v3 v4 v5 w1) : K3 w T v0 v1 v2 v3 v4 v5 w1.drew := h.next (Below.refl _ _).drew

/-- Three integers of at most k bytes lie in the three boxes. -/
structure In3 (w : World) (k : Nat) (x y z : Int) (b1 b2 b3 : Bool) (m1 m2 m3 : ByteArray) (wx : World) : Prop where
  sx : x.natAbs < 256 ^ k
  sy : y.natAbs < 256 ^ k
  sz : z.natAbs < 256 ^ k
  ex : Hid (enc x = .agg #[.bool b1, .string m1])
  ey : Hid (enc y = .agg #[.bool b2, .string m2])
  ez : Hid (enc z = .agg #[.bool b3, .string m3])
  zx : Zi wx w.heap.size b1 m1
  zy : Zi wx (w.heap.size + 1) b2 m2
  zz : Zi wx (w.heap.size + 2) b3 m3
  big : w.heap.size + 3 ≤ wx.heap.size
  bel : Below w.heap.size w wx
def In3E (w : World) (k : Nat) (wx : World) : Prop := ∃ x y z b1 b2 b3 m1 m2 m3, In3 w k x y z b1 b2 b3 m1 m2 m3 wx

theorem set_three {W : World} {g : Nat} {T : TypeId} {y0 y1 y2 y3 y4 y5 x0 x1 x2 x3 x4 x5 : Value} (q0 : W.heap[g]? = some (.cells #[y0, y1] T (0, 0))) (q1 : W.heap[g + 1]? = some (.cells #[y2, y3] T (0, 0))) (q2 : W.heap[g + 2]? = some (.cells #[y4, y5] T (0, 0))) (W' : World)
    (hW : W' = ((((((W.setCell ⟨g, 0, none⟩ x0).setCell ⟨g, 1, none⟩ x1).setCell ⟨g + 1, 0, none⟩ x2).setCell ⟨g + 1, 1, none⟩ x3).setCell ⟨g + 2, 0, none⟩ x4).setCell ⟨g + 2, 1, none⟩ x5)) :
    W'.cell? ⟨g, 0, none⟩ = some x0 ∧ W'.cell? ⟨g, 1, none⟩ = some x1 ∧ W'.cell? ⟨g + 1, 0, none⟩ = some x2 ∧ W'.cell? ⟨g + 1, 1, none⟩ = some x3 ∧ W'.cell? ⟨g + 2, 0, none⟩ = some x4 ∧ W'.cell? ⟨g + 2, 1, none⟩ = some x5 ∧ W'.heap.size = W.heap.size := by
  obtain ⟨a0, a1, _, _⟩ := blk_cells q0
  obtain ⟨a2, a3, _, _⟩ := blk_cells q1
  obtain ⟨a4, a5, _, _⟩ := blk_cells q2
  have n1 : ¬ (g = g + 2) := by omega
  have n2 : ¬ (g + 2 = g) := by omega
  have n3 : ¬ (g + 1 = g + 2) := by omega
  have n4 : ¬ (g + 2 = g + 1) := by omega
  subst hW
  refine ⟨?_, ?_, ?_, ?_, ?_, ?_, ?_⟩ <;> simp [go_sem, a0, a1, a2, a3, a4, a5, n1, n2, n3, n4]

theorem In3E.mk {w W : World} {k : Nat} {T : TypeId} {v0 v1 v2 v3 v4 v5 : Value} {x y z : Int} {b1 b2 b3 : Bool} {m1 m2 m3 : ByteArray} (hk : K3 w T v0 v1 v2 v3 v4 v5 W) (sx : x.natAbs < 256 ^ k) (sy : y.natAbs < 256 ^ k) (sz : z.natAbs < 256 ^ k)
    (ex : Hid (enc x = .agg #[.bool b1, .string m1])) (ey : Hid (enc y = .agg #[.bool b2, .string m2])) (ez : Hid (enc z = .agg #[.bool b3, .string m3])) :
    In3E w k ((((((W.setCell ⟨w.heap.size, 0, none⟩ (.bool b1)).setCell ⟨w.heap.size, 1, none⟩ (.string m1)).setCell ⟨w.heap.size + 1, 0, none⟩ (.bool b2)).setCell ⟨w.heap.size + 1, 1, none⟩ (.string m2)).setCell ⟨w.heap.size + 2, 0, none⟩ (.bool b3)).setCell ⟨w.heap.size + 2, 1, none⟩ (.string m3)) := by
  obtain ⟨t0, t1, t2, t3, t4, t5, t6⟩ := set_three (x0 := .bool b1) (x1 := .string m1) (x2 := .bool b2) (x3 := .string m2) (x4 := .bool b3) (x5 := .string m3) hk.k0 hk.k1 hk.k2 _ rfl
  exact ⟨x, y, z, b1, b2, b3, m1, m2, m3, sx, sy, sz, ex, ey, ez, ⟨t0, t1⟩, ⟨t2, t3⟩, ⟨t4, t5⟩, by rw [t6]; exact hk.sz,
    (((((hk.bel.setCell (by show w.heap.size ≤ w.heap.size; omega) _).setCell (by show w.heap.size ≤ w.heap.size; omega) _).setCell (by show w.heap.size ≤ w.heap.size + 1; omega) _).setCell (by show w.heap.size ≤ w.heap.size + 1; omega) _).setCell (by show w.heap.size ≤ w.heap.size + 2; omega) _).setCell (by show w.heap.size ≤ w.heap.size + 2; omega) _⟩

/-- The world so far, behind a call: the three integers lie where they lay. -/
structure S3 (w : World) (b1 b2 b3 : Bool) (m1 m2 m3 : ByteArray) (wc : World) : Prop where
  zx : Zi wc w.heap.size b1 m1
  zy : Zi wc (w.heap.size + 1) b2 m2
  zz : Zi wc (w.heap.size + 2) b3 m3
  big : w.heap.size + 3 ≤ wc.heap.size
  bel : Below w.heap.size w wc
theorem S3.next {w w1 w2 : World} {b1 b2 b3 : Bool} {m1 m2 m3 : ByteArray} (h : S3 w b1 b2 b3 m1 m2 m3 w1) (hb : Below w1.heap.size w1 w2) : S3 w b1 b2 b3 m1 m2 m3 w2 := by
  have := h.big
  exact ⟨h.zx.below hb (by omega), h.zy.below hb (by omega), h.zz.below hb (by omega), Nat.le_trans h.big hb.size, h.bel.trans (hb.mono h.bel.size)⟩
theorem S3.drew {w w1 : World} {b1 b2 b3 : Bool} {m1 m2 m3 : ByteArray} (h : S3 w b1 b2 b3 m1 m2 m3 w1) : S3 w b1 b2 b3 m1 m2 m3 w1.drew := h.next (Below.refl _ _).drew
theorem S3.alloc {w w1 : World} {b1 b2 b3 : Bool} {m1 m2 m3 : ByteArray} (h : S3 w b1 b2 b3 m1 m2 m3 w1) (o : Obj) : S3 w b1 b2 b3 m1 m2 m3 (w1.alloc o) := h.next ((Below.refl _ _).alloc (Nat.le_refl _) _)

/-- An integer in a new block of a world, later. -/
structure Oi (w4 : World) (b : Bool) (m : ByteArray) (wc : World) : Prop where
  z : Zi wc w4.heap.size b m
  big : w4.heap.size + 1 ≤ wc.heap.size
theorem Oi.start (w4 : World) (b : Bool) (m : ByteArray) (T : TypeId) : Oi w4 b m (w4.alloc (.cells #[.bool b, .string m] T)) := by
  obtain ⟨a0, a1, _, _⟩ := blk_cells (heap_one w4 (.cells #[.bool b, .string m] T))
  exact ⟨⟨a0, a1⟩, by simp⟩
theorem Oi.next {w4 w1 w2 : World} {b : Bool} {m : ByteArray} (h : Oi w4 b m w1) (hb : Below w1.heap.size w1 w2) : Oi w4 b m w2 := ⟨h.z.below hb (by have := h.big; omega), Nat.le_trans h.big hb.size⟩
theorem Oi.drew {w4 w1 : World} {b : Bool} {m : ByteArray} (h : Oi w4 b m w1) : Oi w4 b m w1.drew := h.next (Below.refl _ _).drew

theorem sz_add {x y : Int} {k : Nat} (hx : x.natAbs < 256 ^ k) (hy : y.natAbs < 256 ^ k) : (x + y).natAbs < 256 ^ (k + 1) := by
  rw [Nat.pow_succ]
  generalize 256 ^ k = p at *
  omega
theorem sz_sub {x y : Int} {k : Nat} (hx : x.natAbs < 256 ^ k) (hy : y.natAbs < 256 ^ k) : (x - y).natAbs < 256 ^ (k + 1) := by
  rw [Nat.pow_succ]
  generalize 256 ^ k = p at *
  omega
theorem sz_mul {x y : Int} {k j : Nat} (hx : x.natAbs < 256 ^ k) (hy : y.natAbs < 256 ^ j) : (x * y).natAbs < 256 ^ (k + j) := by
  rw [Int.natAbs_mul, Nat.pow_add]
  exact Nat.mul_lt_mul'' hx hy
theorem sz_neg {x : Int} {k : Nat} (hx : x.natAbs < 256 ^ k) : (-x).natAbs < 256 ^ k := by rw [Int.natAbs_neg]; exact hx
end Go.Proofs.YtkaefmfophopoaaDoor
