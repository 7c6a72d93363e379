import Derived.Test.YtkaefmfophopoaaDoorGRefN
import Derived.Test.YtkaefmfophopoaaDoorGRefL
import Derived.Test.YtkaefmfophopoaaDoorGLate
import Derived.Deep.LoopGhost

/-
  The reference's greatest common divisor.
-/
namespace Go.Proofs.YtkaefmfophopoaaDoor
open Go.RowKit
attribute [local go_sem ↓] Go.wp_at_zero Go.wp_at_succ

/-- Three boxes. -/
structure B3 (w : World) (T : TypeId) (a0 a1 b0 b1 c0 c1 : Value) (w1 : World) : Prop where
  k0 : w1.heap[w.heap.size]? = some (.cells #[a0, a1] T (0, 0))
  k1 : w1.heap[w.heap.size + 1]? = some (.cells #[b0, b1] T (0, 0))
  k2 : w1.heap[w.heap.size + 2]? = some (.cells #[c0, c1] T (0, 0))
  sz : w.heap.size + 3 ≤ w1.heap.size
  bel : Below w.heap.size w w1

section
variable {w w1 w2 : World} {T : TypeId} {a0 a1 b0 b1 c0 c1 : Value}
theorem B3.start (w : World) (T : TypeId) (a0 a1 b0 b1 c0 c1 : Value) : B3 w T a0 a1 b0 b1 c0 c1 (((w.alloc (.cells #[a0, a1] T)).alloc (.cells #[b0, b1] T)).alloc (.cells #[c0, c1] T)) := by
  obtain ⟨k1, k2, k3⟩ := heap_three_all w (.cells #[a0, a1] T) (.cells #[b0, b1] T) (.cells #[c0, c1] T)
  exact ⟨k1, k2, k3, by simp, (((Below.refl _ _).alloc (Nat.le_refl _) _).alloc (by simp) _).alloc (by simp <;> omega) _⟩
theorem B3.next (h : B3 w T a0 a1 b0 b1 c0 c1 w1) (hb : Below w1.heap.size w1 w2) : B3 w T a0 a1 b0 b1 c0 c1 w2 := by
  have hs := h.sz
  refine ⟨(hb.block _ (by omega)).trans h.k0, (hb.block _ (by omega)).trans h.k1, (hb.block _ (by omega)).trans h.k2, ?_, h.bel.trans (hb.mono h.bel.size)⟩
  have := hb.size
  omega
theorem B3.setA (h : B3 w T a0 a1 b0 b1 c0 c1 w1) (x y : Value) : B3 w T x y b0 b1 c0 c1 ((w1.setCell ⟨w.heap.size, 0, none⟩ x).setCell ⟨w.heap.size, 1, none⟩ y) :=
  ⟨two_set h.k0 x y, (two_other (by omega) x y).trans h.k1, (two_other (by omega) x y).trans h.k2, by rw [two_size]; exact h.sz, (h.bel.setCell (Nat.le_refl _) _).setCell (Nat.le_refl _) _⟩
theorem B3.setB (h : B3 w T a0 a1 b0 b1 c0 c1 w1) (x y : Value) : B3 w T a0 a1 x y c0 c1 ((w1.setCell ⟨w.heap.size + 1, 0, none⟩ x).setCell ⟨w.heap.size + 1, 1, none⟩ y) :=
  ⟨(two_other (by omega) x y).trans h.k0, two_set h.k1 x y, (two_other (by omega) x y).trans h.k2, by rw [two_size]; exact h.sz, (h.bel.setCell (by show w.heap.size ≤ w.heap.size + 1; omega) _).setCell (by show w.heap.size ≤ w.heap.size + 1; omega) _⟩
theorem B3.setC (h : B3 w T a0 a1 b0 b1 c0 c1 w1) (x y : Value) : B3 w T a0 a1 b0 b1 x y ((w1.setCell ⟨w.heap.size + 2, 0, none⟩ x).setCell ⟨w.heap.size + 2, 1, none⟩ y) :=
  ⟨(two_other (by omega) x y).trans h.k0, (two_other (by omega) x y).trans h.k1, two_set h.k2 x y, by rw [two_size]; exact h.sz, (h.bel.setCell (by show w.heap.size ≤ w.heap.size + 2; omega) _).setCell (by show w.heap.size ≤ w.heap.size + 2; omega) _⟩
theorem B3.in4 (h : B3 w T a0 a1 b0 b1 c0 c1 w1) : w1.cell? ⟨w.heap.size, 0, none⟩ = some a0 ∧ w1.cell? ⟨w.heap.size, 1, none⟩ = some a1 ∧ w1.cell? ⟨w.heap.size + 1, 0, none⟩ = some b0 ∧ w1.cell? ⟨w.heap.size + 1, 1, none⟩ = some b1 :=
  ⟨(blk_cells h.k0).1, (blk_cells h.k0).2.1, (blk_cells h.k1).1, (blk_cells h.k1).2.1⟩
end

theorem enc_nat (n : Nat) : enc (n : Int) = .agg #[.bool false, .string (mag n)] := by
  unfold enc
  have h : decide ((n : Int) < 0) = false := by simp
  rw [h, Int.natAbs_natCast]

set_option maxHeartbeats 8000000 in
set_option maxRecDepth 100000 in
theorem refGcd_any (na nb : Bool) (X Y : Nat) (a b : ByteArray) (ha : a = mag X) (hb : b = mag Y) (sa : a.size ≤ 1000) (sb : b.size ≤ 1000) (w : World) :
    Calls Tryd.prog 9 #[.agg #[.bool na, .string a], .agg #[.bool nb, .string b]] w (RetB w (.agg #[.bool false, .string (mag (Nat.gcd X Y))])) := by
  have BB := Lib.hid (B3.start w 23 (.bool na) (.string a) (.bool nb) (.string b) (.bool false) (.string ⟨#[]⟩))
  have BB := Lib.hid (BB.out.next (Below.refl _ _).drew)
  have HA := Lib.hid ha
  have HB := Lib.hid hb
  obtain ⟨mg, hmg⟩ : ∃ m, mag (Nat.gcd X Y) = m := ⟨_, rfl⟩
  rw [hmg]
  have HMG := Lib.hid hmg
  clear ha hb hmg
  go_enter Tryd.func9, Tryd.ntmps9
  go_wp2_with fail
  refine wp_region_late (S := fun w' => w'.cell? ⟨w.heap.size, 0, none⟩ = some (.bool na) ∧ w'.cell? ⟨w.heap.size, 1, none⟩ = some (.string a) ∧ w'.cell? ⟨w.heap.size + 1, 0, none⟩ = some (.bool nb) ∧ w'.cell? ⟨w.heap.size + 1, 1, none⟩ = some (.string b)) (L := [4, 5]) (by kernel_rfl) ?_
  have hHeld := BB.out.in4
  refine wpLate_take (i := 0) (oi := ⟨some 7, _, _, _, _, _⟩) (v := ?_) rfl (by kernel_rfl) (by kernel_rfl) (by kernel_rfl) (by kernel_rfl) (by kernel_rfl) (fun _ _ _ h => h) (Or.inl ⟨by rfl, ?_⟩) hHeld ?_
  rotate_left
  · intro w hSw; (try dsimp only at hSw); (first | (go_simp; done) | (go_simp; with_reducible rfl))
  try simp only [Act.put, List.setIfInBounds_toArray, List.set_cons_zero, List.set_cons_succ]
  refine wpLate_take (i := 2) (oi := ⟨some 9, _, _, _, _, _⟩) (v := ?_) rfl (by kernel_rfl) (by kernel_rfl) (by kernel_rfl) (by kernel_rfl) (by kernel_rfl) (fun _ _ _ h => h) (Or.inl ⟨by rfl, ?_⟩) hHeld ?_
  rotate_left
  · intro w hSw; (try dsimp only at hSw); (first | (go_simp; done) | (go_simp; with_reducible rfl))
  try simp only [Act.put, List.setIfInBounds_toArray, List.set_cons_zero, List.set_cons_succ]
  refine wpLate_one (i := 1) (o := ⟨some 8, _, _, _, _, _⟩) (by kernel_rfl) rfl (fun K hK => ?_)
  go_simp
  (go_at_call 26; refine (refAbs_pair na a _).mono ?_; rintro e w1 ⟨rfl, hb1⟩; have B1 := Lib.hid (BB.out.next hb1))
  try go_wp2_with fail
  refine hK.out _ _ (Or.inr (fun _ => B1.out.in4)) ?_
  clear hK K
  try simp only [Act.put, List.setIfInBounds_toArray, List.set_cons_zero, List.set_cons_succ]
  refine wpLate_one (i := 3) (o := ⟨some 10, _, _, _, _, _⟩) (by kernel_rfl) rfl (fun K hK => ?_)
  go_simp
  (go_at_call 26; refine (refAbs_pair nb b _).mono ?_; rintro e w2 ⟨rfl, hb2⟩; have B2 := Lib.hid (B1.out.next hb2); have B3' := Lib.hid (B2.out.setA (.bool false) (.string a)); have B4' := Lib.hid (B3'.out.setB (.bool false) (.string b)); obtain ⟨p0, p1, p2, p3⟩ := blk_cells B2.out.k0; obtain ⟨q0, q1, q2, q3⟩ := blk_cells B3'.out.k1; obtain ⟨q4, q5, q6, q7⟩ := blk_cells B2.out.k1)
  try go_wp2_with fail
  refine hK.out _ _ (Or.inr (fun _ => B2.out.in4)) ?_
  clear hK K
  try simp only [Act.put, List.setIfInBounds_toArray, List.set_cons_zero, List.set_cons_succ]
  refine wpLate_one (i := 4) (o := ⟨none, _, _, _, _, _⟩) (by kernel_rfl) rfl (fun K hK => ?_)
  go_simp
  refine hK.out _ _ (Or.inl (by rfl)) ?_
  clear hK K
  try simp only [Act.put, List.setIfInBounds_toArray, List.set_cons_zero, List.set_cons_succ]
  refine wpLate_one (i := 5) (o := ⟨none, _, _, _, _, _⟩) (by kernel_rfl) rfl (fun K hK => ?_)
  go_simp
  refine hK.out _ _ (Or.inl (by rfl)) ?_
  clear hK K
  try simp only [Act.put, List.setIfInBounds_toArray, List.set_cons_zero, List.set_cons_succ]
  refine wpLate_done (by kernel_rfl) ?_ _
  go_wp2_with fail
  go_loopg [5] Y (fun k _ wr => ∃ (x y : Nat) (mx my : ByteArray), Hid (mx = mag x ∧ my = mag y ∧ Nat.gcd x y = Nat.gcd X Y) ∧ mx.size ≤ 1000 ∧ my.size ≤ 1000 ∧ y ≤ k ∧ Hid (B3 w 23 (.bool false) (.string mx) (.bool false) (.string my) (.bool false) (.string ⟨#[]⟩) wr))
  case atStart => exact ⟨X, Y, a, b, ⟨HA.out, HB.out, rfl⟩, sa, sb, Nat.le_refl _, B4'.out⟩
  case round =>
    obtain ⟨x, y, mx, my, HXY, sx, sy, hyk, HW⟩ := hrel
    obtain ⟨a0, a1, b0, b1⟩ := HW.out.in4
    obtain ⟨_, _, g0, g1⟩ := blk_cells HW.out.k0
    by_cases hz : 0 < my.size
    · have hy0 : 0 < y := by
        rcases Nat.eq_zero_or_pos y with h | h
        · have h1 := HXY.out.2.1
          rw [h] at h1
          rw [h1, mag_zero_iff.2 rfl] at hz
          omega
        · exact h
      have hbx : bval mx = x := by rw [HXY.out.1, bval_mag]
      have hby : bval my = y := by rw [HXY.out.2.1, bval_mag]
      obtain ⟨mr, hmr⟩ : ∃ m, m = mag (x % y) := ⟨_, rfl⟩
      obtain ⟨mq, hmq⟩ : ∃ m, m = mag (x / y) := ⟨_, rfl⟩
      have HDM := Lib.hid (fun V => refDivMod_pos mx my (by omega) (by omega) (by rw [hby]; exact hy0) false false mq mr (by rw [hbx, hby, hmq]; exact enc_nat _) (by rw [hbx, hby, hmr]; exact enc_nat _) V)
      have hmod := Nat.mod_lt x hy0
      have hsr : mr.size ≤ 1000 := by
        have h1 : y < 256 ^ my.size := by rw [HXY.out.2.1]; exact lt_of_mag
        have := mag_size_le (Nat.lt_trans hmod h1)
        rw [← hmr] at this
        omega
      have HN := Lib.hid (show my = mag y ∧ mr = mag (x % y) ∧ Nat.gcd y (x % y) = Nat.gcd X Y from ⟨HXY.out.2.1, hmr, by rw [← HXY.out.2.2, Nat.gcd_comm, ← Nat.gcd_rec, Nat.gcd_comm]⟩)
      have hzd : decide (0 < my.size) = true := by simpa using hz
      have hmk : x % y < gk := by omega
      clear hbx hby hmr hmq hmod
      go_wp2_with fail
      refine (HDM.out _).mono ?_
      rintro e w3 ⟨rfl, hb3⟩
      obtain ⟨W, hW⟩ : ∃ W, W = (w3.alloc (.cells #[.bool false, .string mq] 23)).alloc (.cells #[.bool false, .string mr] 23) := ⟨_, rfl⟩
      have hbW : Below w3.heap.size w3 W := by rw [hW]; exact ((Below.refl _ _).alloc (Nat.le_refl _) _).alloc (by simp) _
      have BW := Lib.hid ((HW.out.next hb3).next hbW)
      have hl : W.heap[w3.heap.size + 1]? = some (.cells #[.bool false, .string mr] 23 (0, 0)) := by rw [hW]; exact heap_two _ _ _
      obtain ⟨r0, r1, _, _⟩ := blk_cells hl
      obtain ⟨_, _, c0, c1⟩ := BW.out.in4
      obtain ⟨d0, d1, d2, d3⟩ := blk_cells BW.out.k0
      have hs3 : w.heap.size + 3 ≤ w3.heap.size := by have := (HW.out.next hb3).sz; exact this
      have HS4 := Lib.hid (show W.drew.cell? ⟨w.heap.size + 1, 0, none⟩ = some (.bool false) ∧ W.drew.cell? ⟨w.heap.size + 1, 1, none⟩ = some (.string my) ∧ W.drew.cell? ⟨w3.heap.size + 1, 0, none⟩ = some (.bool false) ∧ W.drew.cell? ⟨w3.heap.size + 1, 1, none⟩ = some (.string mr) from ⟨c0, c1, r0, r1⟩)
      have BD := Lib.hid (BW.out.next (Below.refl _ W).drew)
      have BA := Lib.hid (BD.out.setA (.bool false) (.string my))
      have HS5 := Lib.hid (And.intro BA.out.in4.2.2.1 (And.intro BA.out.in4.2.2.2 (And.intro ((World.cell?_of_block (a := ⟨w3.heap.size + 1, 0, none⟩) (two_other (W := W.drew) (g := w.heap.size) (k := w3.heap.size + 1) (by omega) (.bool false) (.string my))).trans r0) ((World.cell?_of_block (a := ⟨w3.heap.size + 1, 1, none⟩) (two_other (W := W.drew) (g := w.heap.size) (k := w3.heap.size + 1) (by omega) (.bool false) (.string my))).trans r1))))
      have BF := Lib.hid (BA.out.setB (.bool false) (.string mr))
      obtain ⟨e0, e1, e2, e3⟩ := blk_cells BW.out.k0
      obtain ⟨f0, f1, f2, f3⟩ := blk_cells (BW.out.setA (.bool false) (.string my)).k1
      have HWW := Lib.hid hW
      clear hbW hb3 hl hW a0 a1 b0 b1 r0 r1 c0 c1 d0 d1 d2 d3 g0 g1
      go_wp2_with fail
      rw [← HWW.out]
      refine wp_region_late (S := fun w' => w'.cell? ⟨w.heap.size + 1, 0, none⟩ = some (.bool false) ∧ w'.cell? ⟨w.heap.size + 1, 1, none⟩ = some (.string my) ∧ w'.cell? ⟨w3.heap.size + 1, 0, none⟩ = some (.bool false) ∧ w'.cell? ⟨w3.heap.size + 1, 1, none⟩ = some (.string mr)) (L := [3]) (by kernel_rfl) ?_
      have hHeld := HS4.out
      refine wpLate_take (i := 0) (oi := ⟨some 21, _, _, _, _, _⟩) (v := ?_) rfl (by kernel_rfl) (by kernel_rfl) (by kernel_rfl) (by kernel_rfl) (by kernel_rfl) (fun _ _ _ h => h) (Or.inl ⟨by rfl, ?_⟩) hHeld ?_
      rotate_left
      · intro w hSw; (try dsimp only at hSw); (first | (go_simp; done) | (go_simp; with_reducible rfl))
      try simp only [Act.put, List.setIfInBounds_toArray, List.set_cons_zero, List.set_cons_succ]
      refine wpLate_take (i := 1) (oi := ⟨some 22, _, _, _, _, _⟩) (v := ?_) rfl (by kernel_rfl) (by kernel_rfl) (by kernel_rfl) (by kernel_rfl) (by kernel_rfl) (fun _ _ _ h => h) (Or.inl ⟨by rfl, ?_⟩) hHeld ?_
      rotate_left
      · intro w hSw; (try dsimp only at hSw); (first | (go_simp; done) | (go_simp; with_reducible rfl))
      try simp only [Act.put, List.setIfInBounds_toArray, List.set_cons_zero, List.set_cons_succ]
      refine wpLate_one (i := 2) (o := ⟨none, _, _, _, _, _⟩) (by kernel_rfl) rfl (fun K hK => ?_)
      go_simp
      refine hK.out _ _ (Or.inr (fun _ => HS5.out)) ?_
      clear hK K
      try simp only [Act.put, List.setIfInBounds_toArray, List.set_cons_zero, List.set_cons_succ]
      refine wpLate_one (i := 3) (o := ⟨none, _, _, _, _, _⟩) (by kernel_rfl) rfl (fun K hK => ?_)
      go_simp
      refine hK.out _ _ (Or.inl (by rfl)) ?_
      clear hK K
      try simp only [Act.put, List.setIfInBounds_toArray, List.set_cons_zero, List.set_cons_succ]
      refine wpLate_done (by kernel_rfl) ?_ _
      go_wp2
      go_roundg (x % y)
      case measure => exact hmk
      case rel => exact ⟨y, x % y, my, mr, HN.out, sy, hsr, Nat.le_refl _, BF.out⟩
    · have hzd : decide (0 < my.size) = false := by simpa using hz
      have hy0 : y = 0 := by
        have h1 := HXY.out.2.1
        have h2 : my.size = 0 := by omega
        rw [h1] at h2
        exact mag_zero_iff.1 h2
      have hmx : mx = mg := by
        have h1 := HXY.out.2.2
        rw [hy0, Nat.gcd_zero_right] at h1
        rw [HXY.out.1, h1]
        exact HMG.out
      have HMX := Lib.hid hmx
      obtain ⟨p0', p1', p2', p3'⟩ := blk_cells HW.out.k2
      have HC := Lib.hid (HW.out.setC (.bool false) (.string mx))
      clear hy0 hmx
      go_wp2
      exact bodyPost_ret (v := .agg #[.bool false, .string mx]) (by simp [results, Tryd.results9, go_sem, p0', p1']) rfl ⟨by rw [HMX.out], HC.out.bel⟩
end Go.Proofs.YtkaefmfophopoaaDoor
