import Derived.Test.YtkaefmfophopoaaDoorGIntQ
import Derived.Test.YtkaefmfophopoaaDoorGLawB

/-
  The program's sum, difference, negation and absolute value of integers.
-/
namespace Go.Proofs.YtkaefmfophopoaaDoor
open Go.RowKit
attribute [local go_sem ↓] Go.wp_at_zero Go.wp_at_succ

theorem bval_56 {a : ByteArray} (h : a.size < 8) : bval a < 72057594037927936 := by
  have h1 := bval_lt a
  have h2 : (256 : Nat) ^ a.size ≤ 256 ^ 7 := Nat.pow_le_pow_right (by omega) (by omega)
  have h3 : (256 : Nat) ^ 7 = 72057594037927936 := by decide
  omega

theorem sgn_56 (na : Bool) {X : Nat} (h : X < 72057594037927936) : -72057594037927936 < sgn na X ∧ sgn na X < 72057594037927936 := by cases na <;> simp [sgn] <;> omega

theorem three_keep {w w1 : World} {o1 o2 : Value × Value} {T : TypeId} {o3 : Obj} (hb : Below ((w.alloc (.cells #[o1.1, o1.2] T)).alloc (.cells #[o2.1, o2.2] T) |>.alloc o3).heap.size (((w.alloc (.cells #[o1.1, o1.2] T)).alloc (.cells #[o2.1, o2.2] T)).alloc o3) w1) :
    w1.cell? ⟨w.heap.size, 0, none⟩ = some o1.1 ∧ w1.cell? ⟨w.heap.size, 1, none⟩ = some o1.2 ∧ w1.cell? ⟨w.heap.size + 1, 0, none⟩ = some o2.1 ∧ w1.cell? ⟨w.heap.size + 1, 1, none⟩ = some o2.2 ∧ w1.heap[w.heap.size + 2]? = some o3 ∧ w.heap.size + 3 ≤ w1.heap.size ∧ Below w.heap.size w w1 := by
  obtain ⟨k1, k2, k3⟩ := heap_three_all w (.cells #[o1.1, o1.2] T) (.cells #[o2.1, o2.2] T) o3
  obtain ⟨a0, a1, _, _⟩ := res2 k1 hb (by simp <;> omega)
  obtain ⟨a2, a3, _, _⟩ := res2 k2 hb (by simp <;> omega)
  have h3 := (hb.block (w.heap.size + 2) (by simp <;> omega)).trans k3
  have hs := hb.size
  simp at hs
  refine ⟨a0, a1, a2, a3, h3, by omega, ?_⟩
  exact Below.trans ((((Below.refl _ _).alloc (Nat.le_refl _) _).alloc (by simp) _).alloc (by simp <;> omega) _) (hb.mono (by simp <;> omega))

theorem blk_cells {W : World} {g : Nat} {T : TypeId} {v0 v1 : Value} (h : W.heap[g]? = some (.cells #[v0, v1] T (0, 0))) :
    W.cell? ⟨g, 0, none⟩ = some v0 ∧ W.cell? ⟨g, 1, none⟩ = some v1 ∧ W.frozen? ⟨g, 0, none⟩ = false ∧ W.frozen? ⟨g, 1, none⟩ = false := by
  refine ⟨?_, ?_, ?_, ?_⟩ <;> simp [World.cell?, World.frozen?, h]

/-- The world behind a call in a function of two integers: what it knows of its own blocks. -/
structure Kp (w : World) (T : TypeId) (v0 v1 v2 v3 : Value) (o3 : Obj) (w1 : World) : Prop where
  a0 : w1.cell? ⟨w.heap.size, 0, none⟩ = some v0
  a1 : w1.cell? ⟨w.heap.size, 1, none⟩ = some v1
  a2 : w1.cell? ⟨w.heap.size + 1, 0, none⟩ = some v2
  a3 : w1.cell? ⟨w.heap.size + 1, 1, none⟩ = some v3
  blk : w1.heap[w.heap.size + 2]? = some o3
  sz : w.heap.size + 3 ≤ w1.heap.size
  bel : Below w.heap.size w w1

theorem Kp.start (w : World) (T : TypeId) (v0 v1 v2 v3 : Value) (o3 : Obj) : Kp w T v0 v1 v2 v3 o3 (((w.alloc (.cells #[v0, v1] T)).alloc (.cells #[v2, v3] T)).alloc o3) := by
  obtain ⟨a0, a1, a2, a3, a4, a5, a6⟩ := three_keep (w := w) (o1 := (v0, v1)) (o2 := (v2, v3)) (T := T) (o3 := o3) (Below.refl _ _)
  exact ⟨a0, a1, a2, a3, a4, a5, a6⟩

theorem Kp.next {w : World} {T : TypeId} {v0 v1 v2 v3 : Value} {o3 : Obj} {w1 w2 : World} (h : Kp w T v0 v1 v2 v3 o3 w1) (hb : Below w1.heap.size w1 w2) : Kp w T v0 v1 v2 v3 o3 w2 := by
  have hs := h.sz
  refine ⟨(hb.cell (by show w.heap.size < _; omega)).trans h.a0, (hb.cell (by show w.heap.size < _; omega)).trans h.a1, (hb.cell (by show w.heap.size + 1 < _; omega)).trans h.a2, (hb.cell (by show w.heap.size + 1 < _; omega)).trans h.a3, (hb.block _ (by omega)).trans h.blk, ?_, h.bel.trans (hb.mono h.bel.size)⟩
  have := hb.size
  omega

theorem Kp.res {w : World} {T : TypeId} {v0 v1 v2 v3 r0 r1 : Value} {w1 : World} (h : Kp w T v0 v1 v2 v3 (.cells #[r0, r1] T) w1) :
    w1.cell? ⟨w.heap.size + 2, 0, none⟩ = some r0 ∧ w1.cell? ⟨w.heap.size + 2, 1, none⟩ = some r1 ∧ w1.frozen? ⟨w.heap.size + 2, 0, none⟩ = false ∧ w1.frozen? ⟨w.heap.size + 2, 1, none⟩ = false := blk_cells h.blk

theorem Kp.stored {w : World} {T : TypeId} {v0 v1 v2 v3 : Value} {o3 : Obj} {w1 : World} (h : Kp w T v0 v1 v2 v3 o3 w1) (x y : Value) : Below w.heap.size w ((w1.setCell ⟨w.heap.size + 2, 0, none⟩ x).setCell ⟨w.heap.size + 2, 1, none⟩ y) :=
  (h.bel.setCell (by show w.heap.size ≤ w.heap.size + 2; omega) _).setCell (by show w.heap.size ≤ w.heap.size + 2; omega) _

end Go.Proofs.YtkaefmfophopoaaDoor


/-
  The program's difference, negation and absolute value of integers; contracts of integers as values.
-/
namespace Go.Proofs.YtkaefmfophopoaaDoor
open Go.RowKit
attribute [local go_sem ↓] Go.wp_at_zero Go.wp_at_succ

theorem sgn_not (nb : Bool) (X : Nat) : sgn (!nb) X = - sgn nb X := by cases nb <;> simp [sgn]

/-! Integers as values. -/

theorem enc_parts {x : Int} {b : Bool} {m : ByteArray} (h : enc x = .agg #[.bool b, .string m]) : b = decide (x < 0) ∧ m = mag x.natAbs := by
  unfold enc at h; cases h; exact ⟨rfl, rfl⟩
theorem enc_sgn {x : Int} {b : Bool} {m : ByteArray} (h : enc x = .agg #[.bool b, .string m]) : sgn b (bval m) = x := by
  obtain ⟨rfl, rfl⟩ := enc_parts h
  rw [bval_mag]
  unfold sgn
  by_cases h0 : x < 0 <;> simp [h0] <;> omega
theorem enc_size {x : Int} {b : Bool} {m : ByteArray} (h : enc x = .agg #[.bool b, .string m]) {k : Nat} (hk : x.natAbs < 256 ^ k) : m.size ≤ k := by
  obtain ⟨rfl, rfl⟩ := enc_parts h
  exact mag_size_le hk

theorem enc_neg {x : Int} {b : Bool} {m : ByteArray} (h : enc x = .agg #[.bool b, .string m]) : enc (-x) = .agg #[.bool (!b && decide (0 < m.size)), .string m] := by
  obtain ⟨rfl, rfl⟩ := enc_parts h
  have hz : (mag x.natAbs).size = 0 ↔ x.natAbs = 0 := mag_zero_iff
  unfold enc
  rw [Int.natAbs_neg]
  have e : decide (-x < 0) = (!decide (x < 0) && decide (0 < (mag x.natAbs).size)) := by
    by_cases h0 : x < 0
    · have h4 : ¬ -x < 0 := by omega
      rw [decide_eq_true h0, decide_eq_false h4]
      rfl
    · by_cases h1 : x = 0
      · have h2 : ¬ 0 < (mag x.natAbs).size := by have := hz.2 (by omega); omega
        have h4 : ¬ -x < 0 := by omega
        rw [decide_eq_false h0, decide_eq_false h4, decide_eq_false h2]
        rfl
      · have h2 : 0 < (mag x.natAbs).size := by omega
        have h3 : -x < 0 := by omega
        rw [decide_eq_false h0, decide_eq_true h3, decide_eq_true h2]
        rfl
  rw [e]

theorem enc_abs {x : Int} {b : Bool} {m : ByteArray} (h : enc x = .agg #[.bool b, .string m]) : enc (x.natAbs : Int) = .agg #[.bool false, .string m] := by
  obtain ⟨rfl, rfl⟩ := enc_parts h
  unfold enc
  have : ¬ ((x.natAbs : Int) < 0) := by omega
  simp [this]

/-- A contract over pairs, said of integers. -/
theorem zf1 {F : FuncId} {x z : Int} {b c : Bool} {m k : ByteArray} (hx : enc x = .agg #[.bool b, .string m]) (hz : enc z = .agg #[.bool c, .string k]) {w : World}
    (h : Calls Tryd.prog F #[.agg #[.bool b, .string m]] w (RetZ w z)) : Calls Tryd.prog F #[.agg #[.bool b, .string m]] w (RetB w (.agg #[.bool c, .string k])) := by
  unfold RetZ at h; rw [hz] at h; exact h
theorem zf2 {F : FuncId} {z : Int} {b b' c : Bool} {m m' k : ByteArray} (hz : enc z = .agg #[.bool c, .string k]) {w : World}
    (h : Calls Tryd.prog F #[.agg #[.bool b, .string m], .agg #[.bool b', .string m']] w (RetZ w z)) : Calls Tryd.prog F #[.agg #[.bool b, .string m], .agg #[.bool b', .string m']] w (RetB w (.agg #[.bool c, .string k])) := by
  unfold RetZ at h; rw [hz] at h; exact h

section
variable {x y z : Int} {b1 b2 b3 : Bool} {m1 m2 m3 : ByteArray} (hx : enc x = .agg #[.bool b1, .string m1]) (hy : enc y = .agg #[.bool b2, .string m2]) (s1 : m1.size ≤ 100000) (s2 : m2.size ≤ 100000) (hz : enc z = .agg #[.bool b3, .string m3])
include hx hy s1 s2 hz

theorem mul_f (e : z = x * y) (w : World) : Calls Tryd.prog 10 #[.agg #[.bool b1, .string m1], .agg #[.bool b2, .string m2]] w (RetB w (.agg #[.bool b3, .string m3])) := by
  subst e
  have p1 := (enc_parts hx).2
  have p2 := (enc_parts hy).2
  have h := mul_any x y (by rw [← p1]; exact s1) (by rw [← p2]; exact s2) w
  rw [hx, hy] at h
  exact zf2 hz h
end

set_option maxHeartbeats 1000000 in
set_option maxRecDepth 100000 in
theorem abs_pair (na : Bool) (a : ByteArray) (w : World) :
    Calls Tryd.prog 11 #[.agg #[.bool na, .string a]] w (RetB w (.agg #[.bool false, .string a])) := by
  go_enter Tryd.func11, Tryd.ntmps11
  go_wp2
  refine bodyPost_ret (v := .agg #[.bool false, .string a]) (by simp [results, Tryd.results11, go_sem]) rfl ⟨rfl, ((Below.refl _ _).alloc (Nat.le_refl _) _).alloc (by simp) _⟩

theorem abs_f {x : Int} {b : Bool} {m : ByteArray} {c : Bool} {k : ByteArray} (hx : enc x = .agg #[.bool b, .string m]) (hz : enc (x.natAbs : Int) = .agg #[.bool c, .string k]) (w : World) :
    Calls Tryd.prog 11 #[.agg #[.bool b, .string m]] w (RetB w (.agg #[.bool c, .string k])) := by
  have h := abs_pair b m w
  rw [← enc_abs hx, hz] at h
  exact h
end Go.Proofs.YtkaefmfophopoaaDoor
