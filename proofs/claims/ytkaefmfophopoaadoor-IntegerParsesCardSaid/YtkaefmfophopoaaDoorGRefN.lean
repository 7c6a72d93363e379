import Derived.Test.YtkaefmfophopoaaDoorGRefM
import Derived.Test.YtkaefmfophopoaaDoorGDivL

/-
  The reference's division of numbers that are not negative.
-/
namespace Go.Proofs.YtkaefmfophopoaaDoor
open Go.RowKit
attribute [local go_sem ↓] Go.wp_at_zero Go.wp_at_succ

/-- The four boxes of a function of two integers with two results. -/
structure B4 (w : World) (T : TypeId) (v0 v1 v2 v3 q0 q1 r0 r1 : Value) (w1 : World) : Prop where
  k0 : w1.heap[w.heap.size]? = some (.cells #[v0, v1] T (0, 0))
  k1 : w1.heap[w.heap.size + 1]? = some (.cells #[v2, v3] T (0, 0))
  k2 : w1.heap[w.heap.size + 2]? = some (.cells #[q0, q1] T (0, 0))
  k3 : w1.heap[w.heap.size + 3]? = some (.cells #[r0, r1] T (0, 0))
  sz : w.heap.size + 4 ≤ w1.heap.size
  bel : Below w.heap.size w w1

section
variable {w w1 w2 : World} {T : TypeId} {v0 v1 v2 v3 q0 q1 r0 r1 : Value}
theorem B4.start (w : World) (T : TypeId) (v0 v1 v2 v3 : Value) : B4 w T v0 v1 v2 v3 (.bool false) (.string ⟨#[]⟩) (.bool false) (.string ⟨#[]⟩) ((((w.alloc (.cells #[v0, v1] T)).alloc (.cells #[v2, v3] T)).alloc (.cells #[.bool false, .string ⟨#[]⟩] T)).alloc (.cells #[.bool false, .string ⟨#[]⟩] T)) := by
  have h := K4.start w T v0 v1 v2 v3
  exact ⟨h.k0, h.k1, h.k2, h.k3, h.sz, h.bel⟩
theorem B4.next (h : B4 w T v0 v1 v2 v3 q0 q1 r0 r1 w1) (hb : Below w1.heap.size w1 w2) : B4 w T v0 v1 v2 v3 q0 q1 r0 r1 w2 := by
  have hs := h.sz
  refine ⟨(hb.block _ (by omega)).trans h.k0, (hb.block _ (by omega)).trans h.k1, (hb.block _ (by omega)).trans h.k2, (hb.block _ (by omega)).trans h.k3, ?_, h.bel.trans (hb.mono h.bel.size)⟩
  have := hb.size
  omega
theorem two_set {W : World} {g : Nat} {x0 x1 : Value} (h : W.heap[g]? = some (.cells #[x0, x1] T (0, 0))) (x y : Value) : ((W.setCell ⟨g, 0, none⟩ x).setCell ⟨g, 1, none⟩ y).heap[g]? = some (.cells #[x, y] T (0, 0)) := by
  simp [World.setCell, Array.getElem?_modify, h]
theorem two_other {W : World} {g k : Nat} (hne : k ≠ g) (x y : Value) : ((W.setCell ⟨g, 0, none⟩ x).setCell ⟨g, 1, none⟩ y).heap[k]? = W.heap[k]? :=
  (Below.heap_setCell _ ⟨g, 1, none⟩ y k hne).trans (Below.heap_setCell _ ⟨g, 0, none⟩ x k hne)
theorem two_size {W : World} {g : Nat} (x y : Value) : ((W.setCell ⟨g, 0, none⟩ x).setCell ⟨g, 1, none⟩ y).heap.size = W.heap.size := by simp [World.setCell]
theorem B4.setQ (h : B4 w T v0 v1 v2 v3 q0 q1 r0 r1 w1) (x y : Value) : B4 w T v0 v1 v2 v3 x y r0 r1 ((w1.setCell ⟨w.heap.size + 2, 0, none⟩ x).setCell ⟨w.heap.size + 2, 1, none⟩ y) :=
  ⟨(two_other (by omega) x y).trans h.k0, (two_other (by omega) x y).trans h.k1, two_set h.k2 x y, (two_other (by omega) x y).trans h.k3, by rw [two_size]; exact h.sz, (h.bel.setCell (by show w.heap.size ≤ w.heap.size + 2; omega) _).setCell (by show w.heap.size ≤ w.heap.size + 2; omega) _⟩
theorem B4.setR (h : B4 w T v0 v1 v2 v3 q0 q1 r0 r1 w1) (x y : Value) : B4 w T v0 v1 v2 v3 q0 q1 x y ((w1.setCell ⟨w.heap.size + 3, 0, none⟩ x).setCell ⟨w.heap.size + 3, 1, none⟩ y) :=
  ⟨(two_other (by omega) x y).trans h.k0, (two_other (by omega) x y).trans h.k1, (two_other (by omega) x y).trans h.k2, two_set h.k3 x y, by rw [two_size]; exact h.sz, (h.bel.setCell (by show w.heap.size ≤ w.heap.size + 3; omega) _).setCell (by show w.heap.size ≤ w.heap.size + 3; omega) _⟩
theorem B4.in4 (h : B4 w T v0 v1 v2 v3 q0 q1 r0 r1 w1) : w1.cell? ⟨w.heap.size, 0, none⟩ = some v0 ∧ w1.cell? ⟨w.heap.size, 1, none⟩ = some v1 ∧ w1.cell? ⟨w.heap.size + 1, 0, none⟩ = some v2 ∧ w1.cell? ⟨w.heap.size + 1, 1, none⟩ = some v3 :=
  ⟨(blk_cells h.k0).1, (blk_cells h.k0).2.1, (blk_cells h.k1).1, (blk_cells h.k1).2.1⟩
theorem B4.end4 (h : B4 w T v0 v1 v2 v3 q0 q1 r0 r1 w1) : w1.cell? ⟨w.heap.size, 0, none⟩ = some v0 ∧ w1.cell? ⟨w.heap.size + 1, 0, none⟩ = some v2 ∧ w1.cell? ⟨w.heap.size + 3, 0, none⟩ = some r0 ∧ w1.cell? ⟨w.heap.size + 3, 1, none⟩ = some r1 :=
  ⟨(blk_cells h.k0).1, (blk_cells h.k1).1, (blk_cells h.k3).1, (blk_cells h.k3).2.1⟩
end

set_option maxHeartbeats 8000000 in
set_option maxRecDepth 100000 in
theorem refDivMod_pos (a b : ByteArray) (ha : a.size ≤ 100000) (hb : b.size ≤ 100000) (h0 : 0 < bval b) (bq br : Bool) (mq mr : ByteArray) (hq : enc ((bval a / bval b : Nat) : Int) = .agg #[.bool bq, .string mq]) (hr : enc ((bval a % bval b : Nat) : Int) = .agg #[.bool br, .string mr]) (w : World) :
    Calls Tryd.prog 27 #[.agg #[.bool false, .string a], .agg #[.bool false, .string b]] w (RetB w (.tuple #[.agg #[.bool bq, .string mq], .agg #[.bool br, .string mr]])) := by
  have HU1 := Lib.hid (fun V => digits_any false a V (by omega))
  have HU2 := Lib.hid (fun V => digits_any false b V (by omega))
  have HNQ : Hid (∀ (V : World) (A : Option Addr) (n c : Nat), n ≤ 1000000 → Dg V .i64 256 A n (bval a / bval b) → Calls Tryd.prog 16 #[.bool false, .slice A n c] V (RetB V (.agg #[.bool bq, .string mq]))) := fun V A n c h1 h2 => by
    have h3 := number_any false A n c _ V (by omega) h2
    unfold RetZ at h3
    have e : sgn false (bval a / bval b) = ((bval a / bval b : Nat) : Int) := rfl
    rw [e, hq] at h3
    exact h3
  have HNR : Hid (∀ (V : World) (A : Option Addr) (n c : Nat), n ≤ 1000000 → Dg V .i64 256 A n (bval a % bval b) → Calls Tryd.prog 16 #[.bool false, .slice A n c] V (RetB V (.agg #[.bool br, .string mr]))) := fun V A n c h1 h2 => by
    have h3 := number_any false A n c _ V (by omega) h2
    unfold RetZ at h3
    have e : sgn false (bval a % bval b) = ((bval a % bval b : Nat) : Int) := rfl
    rw [e, hr] at h3
    exact h3
  have H0 := Lib.hid h0
  have BB := Lib.hid (B4.start w 23 (.bool false) (.string a) (.bool false) (.string b))
  have BB := Lib.hid (BB.out.next (Below.refl _ _).drew)
  obtain ⟨t0, t1, t2, t3⟩ := BB.out.in4
  simp only [World.cell?_drew] at t0 t1 t2 t3
  clear hq hr h0
  go_enter Tryd.func27, Tryd.ntmps27
  go_wp2_with fail
  go_region_held3 (fun w' => w'.cell? ⟨w.heap.size, 0, none⟩ = some (.bool false) ∧ w'.cell? ⟨w.heap.size, 1, none⟩ = some (.string a) ∧ w'.cell? ⟨w.heap.size + 1, 0, none⟩ = some (.bool false) ∧ w'.cell? ⟨w.heap.size + 1, 1, none⟩ = some (.string b))
    (first
      | exact BB.out.in4
      | go_keep)
    (first
      | (go_at_call 17; (with_reducible refine (HU1.out _).mono ?_); rintro e w1 ⟨A1, n1, c1, hn1, rfl, hd1, hb1⟩; have BB := Lib.hid (BB.out.next hb1))
      | (go_at_call 17; (with_reducible refine (HU2.out _).mono ?_); rintro e w2 ⟨A2, n2, c2, hn2, rfl, hd2, hb2⟩; have BB := Lib.hid (BB.out.next hb2))
      | (go_at_call 54; refine (refDivide_any A1 A2 n1 n2 c1 c2 (bval a) (bval b) _ ?_ ?_ ?_ ?_ ?_).mono ?_; (omega); (omega); (exact hd1.below hb2); (exact hd2); (exact H0.out); rintro e w3 ⟨A3, c3, A4, n4, c4, rfl, hn4, hd3, hd4, hb3, hf3⟩; have hz2 := BB.out.sz; have BB := Lib.hid (BB.out.next hb3)))
  have HF3 := Lib.hid (show ∀ a, A3 = some a → a.block ≠ w.heap.size + 3 from fun a ha e => by have := hf3 a ha; omega)
  have HD3 := Lib.hid hd3
  have HD4 := Lib.hid hd4
  clear hd1 hd2 hd3 hd4 hb1 hb2 hb3 t0 t1 t2 t3 hf3 hz2
  go_wp2_with fail
  refine (HNR.out _ A4 n4 c4 (by omega) HD4.out).mono ?_
  rintro e w4 ⟨rfl, hb4⟩
  have HD5 := Lib.hid (HD3.out.below hb4)
  have BB := Lib.hid (BB.out.next hb4)
  obtain ⟨p0, p1, p2, p3⟩ := blk_cells BB.out.k3
  obtain ⟨s0, s1, _, _⟩ := blk_cells BB.out.k0
  clear hb4
  go_wp2_with fail
  obtain ⟨W, hW⟩ : ∃ W, W = (w4.setCell ⟨w.heap.size + 1 + 1 + 1, 0, none⟩ (.bool br)).setCell ⟨w.heap.size + 1 + 1 + 1, 1, none⟩ (.string mr) := ⟨_, rfl⟩
  have BR := Lib.hid (show B4 w 23 (.bool false) (.string a) (.bool false) (.string b) (.bool false) (.string ⟨#[]⟩) (.bool br) (.string mr) W by rw [hW]; exact BB.out.setR _ _)
  have hng : Dg W .i64 256 A3 n1 (bval a / bval b) := by
    rw [hW]
    exact (HD5.out.other HF3.out 0 _).other HF3.out 1 _
  have HNG := Lib.hid hng
  rw [← hW]
  clear hng hW p0 p1 p2 p3 s0 s1 BB
  have BB := Lib.hid (BR.out.next (Below.refl _ _).drew)
  obtain ⟨t0, t1, t2, t3⟩ := BB.out.end4
  simp only [World.cell?_drew] at t0 t1 t2 t3
  go_region_held3 (fun w' => w'.cell? ⟨w.heap.size, 0, none⟩ = some (.bool false) ∧ w'.cell? ⟨w.heap.size + 1, 0, none⟩ = some (.bool false) ∧ w'.cell? ⟨w.heap.size + 3, 0, none⟩ = some (.bool br) ∧ w'.cell? ⟨w.heap.size + 3, 1, none⟩ = some (.string mr))
    (first
      | exact KR.out.end4
      | exact KQ.out.end4
      | exact BB.out.end4
      | go_keep)
    (first
      | (go_at_call 16; (with_reducible refine (HNQ.out _ A3 n1 c3 ?_ ?_).mono ?_); (omega); (exact HNG.out.drew); rintro e w5 ⟨rfl, hb5⟩; have BB := Lib.hid (BB.out.next hb5); have KQ := Lib.hid (BB.out.setQ (.bool bq) (.string mq)); have KR := Lib.hid (KQ.out.setR (.bool br) (.string mr)); obtain ⟨p0, p1, p2, p3⟩ := blk_cells BB.out.k2; obtain ⟨s0, s1, s2, s3⟩ := blk_cells BB.out.k3; obtain ⟨x0, x1, x2, x3⟩ := blk_cells KQ.out.k3))
  clear hb5
  go_wp2
  exact bodyPost_ret (v := .tuple #[.agg #[.bool bq, .string mq], .agg #[.bool br, .string mr]]) (by simp [results, Tryd.results27, go_sem, p0, p1, s0, s1]) rfl ⟨rfl, KR.out.bel⟩
end Go.Proofs.YtkaefmfophopoaaDoor
