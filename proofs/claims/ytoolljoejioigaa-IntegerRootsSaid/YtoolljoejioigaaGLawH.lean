/-
  The program's quotient and remainder of any two integers; words for the walk of the statement about them.
-/
import Derived.Test.YtoolljoejioigaaGDivM
import Derived.Test.YtoolljoejioigaaGRtA
namespace Go.Proofs.Ytoolljoejioigaa
open Go.RowKit
attribute [local go_sem ↓] Go.wp_at_zero Go.wp_at_succ

theorem divMod_zero (na nb : Bool) (a b : ByteArray) (ha : a.size ≤ 400000000) (hb : b.size ≤ 400000000) (h0 : bval b = 0) (w : World) :
    Calls Try.prog 36 #[.agg #[.bool na, .string a], .agg #[.bool nb, .string b]] w (RetB w (.tuple #[.agg #[.bool false, .string ⟨#[]⟩], .agg #[.bool false, .string ⟨#[]⟩], .int .i64 6])) := by
  by_cases hs : 8 < a.size ∨ 8 < b.size
  · exact divMod_deep na nb a b ha hb 0 0 false (.inl rfl) (fun V => words_no na nb a b hs V) w _ (fun _ w' hw => ⟨rfl, hw⟩) (fun h => absurd h0 h)
  · exact divMod_deep na nb a b ha hb _ _ true (.inr h0) (fun V => words_yes na nb a b (by omega) (by omega) V) w _ (fun _ w' hw => ⟨rfl, hw⟩) (fun h => absurd h0 h)

theorem divMod_any (na nb : Bool) (a b : ByteArray) (ha : a.size ≤ 400000000) (hb : b.size ≤ 400000000) (h0 : bval b ≠ 0) (w : World) :
    Calls Try.prog 36 #[.agg #[.bool na, .string a], .agg #[.bool nb, .string b]] w (RetQ w (sgn na (bval a) / sgn nb (bval b)) (sgn na (bval a) % sgn nb (bval b)) 0) := by
  by_cases hs : 8 < a.size ∨ 8 < b.size
  · refine divMod_deep na nb a b ha hb 0 0 false (.inl rfl) (fun V => words_no na nb a b hs V) w _ (fun h => absurd h h0) (fun _ w' b1 m1 b2 m2 h1 h2 hw => ⟨?_, hw⟩)
    rw [h1.out, h2.out]
  · exact divMod_short na nb a b (by omega) (by omega) h0 w

section
variable {x y q r : Int} {b1 b2 b3 b4 : Bool} {m1 m2 m3 m4 : ByteArray} (hx : enc x = .agg #[.bool b1, .string m1]) (hy : enc y = .agg #[.bool b2, .string m2]) (s1 : m1.size ≤ 400000000) (s2 : m2.size ≤ 400000000)
include hx hy s1 s2 in
theorem divMod_f (h0 : y ≠ 0) (hq : enc q = .agg #[.bool b3, .string m3]) (hr : enc r = .agg #[.bool b4, .string m4]) (e1 : q = x / y) (e2 : r = x % y) (w : World) :
    Calls Try.prog 36 #[.agg #[.bool b1, .string m1], .agg #[.bool b2, .string m2]] w (RetB w (.tuple #[.agg #[.bool b3, .string m3], .agg #[.bool b4, .string m4], .int .i64 0])) := by
  subst e1
  subst e2
  have hb : bval m2 ≠ 0 := fun h => h0 (by rw [← enc_sgn hy, h]; cases b2 <;> rfl)
  have h := divMod_any b1 b2 m1 m2 s1 s2 hb w
  rw [enc_sgn hx, enc_sgn hy] at h
  unfold RetQ at h
  rw [hq, hr] at h
  exact h
include hy s1 s2 in
theorem divMod_0 (h0 : y = 0) (w : World) :
    Calls Try.prog 36 #[.agg #[.bool b1, .string m1], .agg #[.bool b2, .string m2]] w (RetB w (.tuple #[.agg #[.bool false, .string ⟨#[]⟩], .agg #[.bool false, .string ⟨#[]⟩], .int .i64 6])) := by
  refine divMod_zero b1 b2 m1 m2 s1 s2 ?_ w
  have h := enc_sgn hy
  rw [h0] at h
  unfold sgn at h
  cases b2 <;> simp at h <;> omega
end

/-- The reference's word that an integer is valid, for an integer. -/
theorem valid_f {x : Int} {b : Bool} {m : ByteArray} (hx : enc x = .agg #[.bool b, .string m]) (w : World) : Calls Try.prog 12 #[.agg #[.bool b, .string m]] w (RetB w (.bool true)) := by
  obtain ⟨rfl, rfl⟩ := enc_parts hx
  have hl := lead_mag x.natAbs
  have hz : (mag x.natAbs).size = 0 ↔ x.natAbs = 0 := mag_zero_iff
  have hc : canonB (decide (x < 0)) (mag x.natAbs) = true := by
    unfold canonB
    by_cases h : 0 < (mag x.natAbs).size
    · rw [dif_pos h]
      have := hl h
      simpa using this
    · rw [dif_neg h]
      have := hz.1 (by omega)
      have h2 : ¬ x < 0 := by omega
      simp [h2]
  refine (valid_any _ _ w).mono fun e w' ⟨he, hw⟩ => ⟨by rw [he, hc], ?_⟩
  subst hw
  exact (Below.refl _ _).alloc (Nat.le_refl _) _

/-- The world so far: the two integers, and two of the walk's own, lie where they lay. -/
structure S4 (w : World) (g : Nat) (b1 b2 b3 b4 : Bool) (m1 m2 m3 m4 : ByteArray) (wc : World) : Prop where
  zx : Zi wc w.heap.size b1 m1
  zy : Zi wc (w.heap.size + 1) b2 m2
  zq : Zi wc g b3 m3
  zr : Zi wc (g + 1) b4 m4
  lo : w.heap.size + 2 ≤ g
  big : g + 2 ≤ wc.heap.size
  bel : Below w.heap.size w wc
theorem S4.next {w : World} {g : Nat} {w1 w2 : World} {b1 b2 b3 b4 : Bool} {m1 m2 m3 m4 : ByteArray} (h : S4 w g b1 b2 b3 b4 m1 m2 m3 m4 w1) (hb : Below w1.heap.size w1 w2) : S4 w g b1 b2 b3 b4 m1 m2 m3 m4 w2 := by
  have := h.big
  have := h.lo
  exact ⟨h.zx.below hb (by omega), h.zy.below hb (by omega), h.zq.below hb (by omega), h.zr.below hb (by omega), h.lo, Nat.le_trans h.big hb.size, h.bel.trans (hb.mono h.bel.size)⟩
theorem S4.drew {w : World} {g : Nat} {w1 : World} {b1 b2 b3 b4 : Bool} {m1 m2 m3 m4 : ByteArray} (h : S4 w g b1 b2 b3 b4 m1 m2 m3 m4 w1) : S4 w g b1 b2 b3 b4 m1 m2 m3 m4 w1.drew := h.next (Below.refl _ _).drew
theorem S4.cells {w : World} {g : Nat} {wc : World} {b1 b2 b3 b4 : Bool} {m1 m2 m3 m4 : ByteArray} (h : S4 w g b1 b2 b3 b4 m1 m2 m3 m4 wc) :
    wc.cell? ⟨w.heap.size, 0, none⟩ = some (.bool b1) ∧ wc.cell? ⟨w.heap.size, 1, none⟩ = some (.string m1) ∧ wc.cell? ⟨w.heap.size + 1, 0, none⟩ = some (.bool b2) ∧ wc.cell? ⟨w.heap.size + 1, 1, none⟩ = some (.string m2) ∧
    wc.cell? ⟨g, 0, none⟩ = some (.bool b3) ∧ wc.cell? ⟨g, 1, none⟩ = some (.string m3) ∧ wc.cell? ⟨g + 1, 0, none⟩ = some (.bool b4) ∧ wc.cell? ⟨g + 1, 1, none⟩ = some (.string m4) := ⟨h.zx.c0, h.zx.c1, h.zy.c0, h.zy.c1, h.zq.c0, h.zq.c1, h.zr.c0, h.zr.c1⟩
theorem S4.mk2 {w w1 : World} {b1 b2 b3 b4 : Bool} {m1 m2 m3 m4 : ByteArray} (h : S2 w b1 b2 m1 m2 w1) (T : TypeId) :
    S4 w w1.heap.size b1 b2 b3 b4 m1 m2 m3 m4 ((w1.alloc (.cells #[.bool b3, .string m3] T)).alloc (.cells #[.bool b4, .string m4] T)) := by
  have hk := K2.start w1 T (.bool b3) (.string m3) (.bool b4) (.string m4)
  obtain ⟨a0, a1, a2, a3⟩ := hk.zx
  have h2 := h.next hk.bel
  exact ⟨h2.zx, h2.zy, ⟨a0, a1⟩, ⟨a2, a3⟩, h.big, hk.sz, h2.bel⟩
end Go.Proofs.Ytoolljoejioigaa
