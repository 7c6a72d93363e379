import Derived.Test.YtahehlajpaoiiaaGreatDoorGGcN
import Derived.Test.YtahehlajpaoiiaaGreatDoorGRtA
import Derived.Test.YtahehlajpaoiiaaGreatDoorGRtB
import Derived.Deep.LoopGhost
import Derived.Test.YtahehlajpaoiiaaGreatDoorGRefH
import Derived.Test.YtahehlajpaoiiaaGreatDoorGLawG
import Derived.Test.YtahehlajpaoiiaaGreatDoorGRefM
import Derived.Test.YtahehlajpaoiiaaGreatDoorGDivL

/-
  Words for the fractions: blocks that a call made, fractions as values, and what the program's variables hold.
-/
namespace Go.Proofs.YtahehlajpaoiiaaGreatDoor
open Go.RowKit

theorem qset {W : World} {g : Nat} {T : TypeId} {x0 x1 : Value} (h : W.heap[g]? = some (.cells #[x0, x1] T (0, 0))) (x y : Value) : ((W.setCell ⟨g, 0, none⟩ x).setCell ⟨g, 1, none⟩ y).heap[g]? = some (.cells #[x, y] T (0, 0)) := by
  simp [World.setCell, Array.getElem?_modify, h]
theorem qoth {W : World} {g k : Nat} (hne : k ≠ g) (x y : Value) : ((W.setCell ⟨g, 0, none⟩ x).setCell ⟨g, 1, none⟩ y).heap[k]? = W.heap[k]? :=
  (Below.heap_setCell _ ⟨g, 1, none⟩ y k hne).trans (Below.heap_setCell _ ⟨g, 0, none⟩ x k hne)
theorem qsz {W : World} {g : Nat} (x y : Value) : ((W.setCell ⟨g, 0, none⟩ x).setCell ⟨g, 1, none⟩ y).heap.size = W.heap.size := by simp [World.setCell]

/-- Two blocks that the call made, one behind the other. -/
structure Kb (w : World) (c1 c2 : Array Value) (T1 T2 : TypeId) (wx : World) : Prop where
  k1 : wx.heap[w.heap.size]? = some (.cells c1 T1 (0, 0))
  k2 : wx.heap[w.heap.size + 1]? = some (.cells c2 T2 (0, 0))
  sz : w.heap.size + 2 ≤ wx.heap.size
  bel : Below w.heap.size w wx

/-- Three blocks that the call made, one behind the other. -/
structure Kc (w : World) (c1 c2 c3 : Array Value) (T1 T2 T3 : TypeId) (wx : World) : Prop where
  k1 : wx.heap[w.heap.size]? = some (.cells c1 T1 (0, 0))
  k2 : wx.heap[w.heap.size + 1]? = some (.cells c2 T2 (0, 0))
  k3 : wx.heap[w.heap.size + 2]? = some (.cells c3 T3 (0, 0))
  sz : w.heap.size + 3 ≤ wx.heap.size
  bel : Below w.heap.size w wx

section
variable {w w1 w2 : World} {c1 c2 c3 : Array Value} {T1 T2 T3 : TypeId}
theorem Kb.start (w : World) (c1 c2 : Array Value) (T1 T2 : TypeId) : Kb w c1 c2 T1 T2 ((w.alloc (.cells c1 T1)).alloc (.cells c2 T2)) :=
  ⟨heap_fst _ _ _, heap_two _ _ _, by simp, ((Below.refl _ _).alloc (Nat.le_refl _) _).alloc (by simp) _⟩
theorem Kb.next (h : Kb w c1 c2 T1 T2 w1) (hb : Below w1.heap.size w1 w2) : Kb w c1 c2 T1 T2 w2 := by
  have hs := h.sz
  refine ⟨(hb.block _ (by omega)).trans h.k1, (hb.block _ (by omega)).trans h.k2, ?_, h.bel.trans (hb.mono h.bel.size)⟩
  have := hb.size
  omega
theorem Kb.drew (h : Kb w c1 c2 T1 T2 w1) : Kb w c1 c2 T1 T2 w1.drew := h.next (Below.refl _ _).drew
theorem Kb.drewN (h : Kb w c1 c2 T1 T2 w1) (n : Nat) : Kb w c1 c2 T1 T2 (w1.drewN n) := h.next (below_draws (Below.refl _ _) n)
theorem Kc.start (w : World) (c1 c2 c3 : Array Value) (T1 T2 T3 : TypeId) : Kc w c1 c2 c3 T1 T2 T3 (((w.alloc (.cells c1 T1)).alloc (.cells c2 T2)).alloc (.cells c3 T3)) := by
  obtain ⟨k1, k2, k3⟩ := heap_three_all w (.cells c1 T1) (.cells c2 T2) (.cells c3 T3)
  exact ⟨k1, k2, k3, by simp, (((Below.refl _ _).alloc (Nat.le_refl _) _).alloc (by simp) _).alloc (by simp <;> omega) _⟩
theorem Kc.next (h : Kc w c1 c2 c3 T1 T2 T3 w1) (hb : Below w1.heap.size w1 w2) : Kc w c1 c2 c3 T1 T2 T3 w2 := by
  have hs := h.sz
  refine ⟨(hb.block _ (by omega)).trans h.k1, (hb.block _ (by omega)).trans h.k2, (hb.block _ (by omega)).trans h.k3, ?_, h.bel.trans (hb.mono h.bel.size)⟩
  have := hb.size
  omega
theorem Kc.drew (h : Kc w c1 c2 c3 T1 T2 T3 w1) : Kc w c1 c2 c3 T1 T2 T3 w1.drew := h.next (Below.refl _ _).drew
theorem Kc.drewN (h : Kc w c1 c2 c3 T1 T2 T3 w1) (n : Nat) : Kc w c1 c2 c3 T1 T2 T3 (w1.drewN n) := h.next (below_draws (Below.refl _ _) n)
theorem Kc.set1 {x0 x1 : Value} (h : Kc w #[x0, x1] c2 c3 T1 T2 T3 w1) (x y : Value) : Kc w #[x, y] c2 c3 T1 T2 T3 ((w1.setCell ⟨w.heap.size, 0, none⟩ x).setCell ⟨w.heap.size, 1, none⟩ y) :=
  ⟨qset h.k1 x y, (qoth (by omega) x y).trans h.k2, (qoth (by omega) x y).trans h.k3, by rw [qsz]; exact h.sz, (h.bel.setCell (Nat.le_refl _) _).setCell (Nat.le_refl _) _⟩
theorem Kc.set2 {x0 x1 : Value} (h : Kc w c1 #[x0, x1] c3 T1 T2 T3 w1) (x y : Value) : Kc w c1 #[x, y] c3 T1 T2 T3 ((w1.setCell ⟨w.heap.size + 1, 0, none⟩ x).setCell ⟨w.heap.size + 1, 1, none⟩ y) :=
  ⟨(qoth (by omega) x y).trans h.k1, qset h.k2 x y, (qoth (by omega) x y).trans h.k3, by rw [qsz]; exact h.sz, (h.bel.setCell (by show w.heap.size ≤ w.heap.size + 1; omega) _).setCell (by show w.heap.size ≤ w.heap.size + 1; omega) _⟩
end

theorem blk3 {W : World} {g : Nat} {T : TypeId} {v0 v1 v2 : Value} (h : W.heap[g]? = some (.cells #[v0, v1, v2] T (0, 0))) :
    W.cell? ⟨g, 0, none⟩ = some v0 ∧ W.cell? ⟨g, 1, none⟩ = some v1 ∧ W.cell? ⟨g, 2, none⟩ = some v2 ∧ W.frozen? ⟨g, 0, none⟩ = false ∧ W.frozen? ⟨g, 1, none⟩ = false ∧ W.frozen? ⟨g, 2, none⟩ = false := by
  refine ⟨?_, ?_, ?_, ?_, ?_, ?_⟩ <;> simp [World.cell?, World.frozen?, h]
theorem blk4 {W : World} {g : Nat} {T : TypeId} {v0 v1 v2 v3 : Value} (h : W.heap[g]? = some (.cells #[v0, v1, v2, v3] T (0, 0))) :
    W.cell? ⟨g, 0, none⟩ = some v0 ∧ W.cell? ⟨g, 1, none⟩ = some v1 ∧ W.cell? ⟨g, 2, none⟩ = some v2 ∧ W.cell? ⟨g, 3, none⟩ = some v3 := by
  refine ⟨?_, ?_, ?_, ?_⟩ <;> simp [World.cell?, World.frozen?, h]
theorem fro4 {W : World} {g : Nat} {T : TypeId} {v0 v1 v2 v3 : Value} (h : W.heap[g]? = some (.cells #[v0, v1, v2, v3] T (0, 0))) :
    W.frozen? ⟨g, 0, none⟩ = false ∧ W.frozen? ⟨g, 1, none⟩ = false ∧ W.frozen? ⟨g, 2, none⟩ = false ∧ W.frozen? ⟨g, 3, none⟩ = false := by
  refine ⟨?_, ?_, ?_, ?_⟩ <;> simp [World.cell?, World.frozen?, h]
theorem below_set4 {B : Nat} {a W : World} {g : Nat} (h : Below B a W) (hB : B ≤ g) (x y z u : Value) : Below B a ((((W.setCell ⟨g, 0, none⟩ x).setCell ⟨g, 1, none⟩ y).setCell ⟨g, 2, none⟩ z).setCell ⟨g, 3, none⟩ u) :=
  (((h.setCell hB _).setCell hB _).setCell hB _).setCell hB _
theorem below_set2 {B : Nat} {a W : World} {g : Nat} (h : Below B a W) (hB : B ≤ g) (x y : Value) : Below B a ((W.setCell ⟨g, 0, none⟩ x).setCell ⟨g, 1, none⟩ y) :=
  (h.setCell hB _).setCell hB _

/-- The magnitude of a denominator as it is kept. -/
def dm (d : Nat) : ByteArray := if d = 1 then mag 0 else mag d

/-- The fraction q, as it lies in a value. -/
structure Rq (q : Rat) (b : Bool) (m k : ByteArray) : Prop where
  num : enc q.num = .agg #[.bool b, .string m]
  den : k = dm q.den

theorem Rq.some_ (q : Rat) : ∃ b m k, Rq q b m k := ⟨_, _, _, rfl, rfl⟩

theorem mag_nil : mag 0 = ⟨#[]⟩ := by unfold mag; rw [magL_zero]
theorem dm_one : dm 1 = ⟨#[]⟩ := by unfold dm; rw [if_pos rfl, mag_nil]

/-- What the program's variables hold. -/
structure Env (w : World) : Prop where
  tab : Tab w
  ten : Ten w
  lt : 0 < w.heap.size
  o0 : w.cell? ⟨0, 0, none⟩ = some (.bool false)
  o1 : w.cell? ⟨0, 1, none⟩ = some (.string ⟨#[1]⟩)
theorem Env.below {w w' : World} {B : Nat} (h : Env w) (hb : Below B w w') (hB : w.heap.size ≤ B) : Env w' :=
  ⟨h.tab.below hb (Nat.lt_of_lt_of_le h.tab.lt hB), h.ten.below hb hB, Nat.lt_of_lt_of_le h.lt hb.size, (hb.cell (p := ⟨0, 0, none⟩) (Nat.lt_of_lt_of_le h.lt hB)).trans h.o0, (hb.cell (p := ⟨0, 1, none⟩) (Nat.lt_of_lt_of_le h.lt hB)).trans h.o1⟩
theorem Env.next {w w' : World} (h : Env w) (hb : Below w.heap.size w w') : Env w' := h.below hb (Nat.le_refl _)
theorem Env.drew {w : World} (h : Env w) : Env w.drew := h.next (Below.refl _ _).drew
end Go.Proofs.YtahehlajpaoiiaaGreatDoor


/-
  The program's whole root of digits.
-/
namespace Go.Proofs.YtahehlajpaoiiaaGreatDoor
open Go.RowKit
attribute [local go_sem ↓] Go.wp_at_zero Go.wp_at_succ

theorem rt_self (X : Nat) : rt X ≤ X := by
  apply rt_le
  rw [Nat.add_mul, Nat.one_mul]
  omega
theorem shp {s W p : Nat} (h : s = 64 * W + p) : 2 ^ p * B64 ^ W = 2 ^ s := by
  have e : B64 = 2 ^ 64 := by decide
  rw [e, ← Nat.pow_mul, ← Nat.pow_add, h, Nat.add_comm]

/-- The first guess is not less than the root. -/
theorem guess_first (X P Q : Nat) (hP : P = Q * Q) (hQ : 0 < Q) : rt X ≤ (rt (X / P) + 1) * Q := by
  have hp : 0 < P := by rw [hP]; exact Nat.mul_pos hQ hQ
  have a1 := (rt_spec (X / P)).2
  have a2 : X < (X / P + 1) * P := by
    have := Nat.div_add_mod X P
    have := Nat.mod_lt X hp
    rw [Nat.add_mul, Nat.mul_comm (X / P)]
    omega
  have a3 : (X / P + 1) * P ≤ (rt (X / P) + 1) * (rt (X / P) + 1) * P := Nat.mul_le_mul_right _ a1
  have a4 : (rt (X / P) + 1) * (rt (X / P) + 1) * P = ((rt (X / P) + 1) * Q) * ((rt (X / P) + 1) * Q) := by
    rw [hP, Nat.mul_mul_mul_comm]
  apply rt_le
  exact Nat.lt_of_lt_of_le (Nat.lt_of_lt_of_le a2 (a4 ▸ a3)) (Nat.mul_le_mul (Nat.le_succ _) (Nat.le_succ _))

set_option maxHeartbeats 4000000 in
set_option maxRecDepth 100000 in
theorem root_any (X : Nat) : ∀ (A : Option Addr) (n c : Nat) (w : World) (_ : n ≤ 10000000) (_ : Nm w A n c X), Calls Tryz.prog 141 #[.slice A n c] w (RetN w (rt X) (2 * n + 10)) := by
  induction X using Nat.strongRecOn with
  | _ X ih =>
  intro A n c w hn hx
  by_cases h0 : n = 0
  · subst h0
    have hX : X = 0 := hx.zero.1 rfl
    subst hX
    go_enter Tryz.func141, Tryz.ntmps141
    go_wp2
    go_ret
    exact ⟨none, 0, 0, by omega, rfl, Nm.nil _, Below.refl _ _, fun k hk => by cases hk⟩
  · by_cases h1 : n = 1
    · subst h1
      have hX0 : 0 < X := by
        rcases Nat.eq_zero_or_pos X with h | h
        · exact absurd (hx.zero.2 h) (by decide)
        · exact h
      have hX1 : X < 18446744073709551616 := by have := hx.lt; rw [Nat.pow_one] at this; exact this
      obtain ⟨gx, ox, hA, hgx, hcx⟩ := hx.rd (by omega)
      subst hA
      have hx0 := hcx 0 (by omega)
      have hD : D B64 X 0 = X := by unfold D; rw [Nat.pow_zero, Nat.div_one]; exact Nat.mod_eq_of_lt hX1
      rw [hD, Nat.add_zero] at hx0
      have HW := Lib.hid (fun V => wordRoot_any X hX0 hX1 V)
      clear hcx hD
      go_enter Tryz.func141, Tryz.ntmps141
      go_wp2_with fail
      refine (HW.out _).mono ?_
      rintro e w1 ⟨rfl, q, rfl⟩
      go_wp2_with fail
      go_ret
      have hrl : rt X ≤ X := rt_self X
      refine ⟨some ⟨w.heap.size, 0, none⟩, 1, 1, by omega, rfl, ⟨⟨?_, Nat.le_refl _, rd_one _ _ _ (rt X) _ (heap_one _ _) ?_⟩, fun _ => ?_⟩, (below_draws (Below.refl _ w) _).alloc (Nat.le_refl _) _, fun k hk => by simp [Value.ownBlock] at hk; omega⟩
      · rw [Nat.pow_one, B64_eq]; omega
      · unfold D; rw [Nat.pow_zero, Nat.div_one]; exact Nat.mod_eq_of_lt (by rw [B64_eq]; omega)
      · exact rt_pos hX0
    · have hX0 : 0 < X := by
        rcases Nat.eq_zero_or_pos X with h | h
        · exact absurd (hx.zero.2 h) h0
        · exact h
      obtain ⟨gx, ox, hA, hgx, hcx⟩ := hx.rd (by omega)
      subst hA
      have hxt := hcx (n - 1) (by omega)
      have hdt := D64_lt X (n - 1)
      obtain ⟨t, ht⟩ : ∃ t, D B64 X (n - 1) = t := ⟨_, rfl⟩
      rw [ht] at hxt hdt
      obtain ⟨lz, hlz⟩ : ∃ lz, 64 - Lib.bitLen t = lz := ⟨_, rfl⟩
      have HL := Lib.hid (fun V => lz_any t lz hlz hdt V)
      have hlz64 : lz ≤ 64 := by omega
      obtain ⟨h, hh⟩ : ∃ h, (64 * n - lz) / 4 = h := ⟨_, rfl⟩
      have hh1 : ((64 : Int) * (n : Int) - (lz : Int)) / 4 = (h : Int) := by omega
      have hh16 : 16 ≤ h := by omega
      have hhn : h ≤ 16 * n := by omega
      have e2 : ((2 * h : Nat) : Int) = 2 * (h : Int) := by omega
      have hsr := fun V hV => shiftRight_any (some ⟨gx, ox, none⟩) n c X (2 * h) (2 * h / 64) (2 * h % 64) V (by omega) (by omega) (by omega) (by omega) hV
      rw [shp (s := 2 * h) (by omega), e2] at hsr
      have HSR := Lib.hid hsr
      have HX := Lib.hid hx
      clear hsr hlz ht hh hcx hx
      go_enter Tryz.func141, Tryz.ntmps141
      go_wp2_with fail
      refine (HL.out _).mono ?_
      rintro e w1 ⟨rfl, q, rfl⟩
      go_wp2_with fail
      refine (HSR.out _ HX.out.toNg).mono ?_
      rintro e w1 ⟨A1, n1, c1, hn1, rfl, hm1, hb1, hf1⟩
      have HM1 := Lib.hid hm1
      have HB1 := Lib.hid hb1
      have h2h : 2 ^ 1 ≤ 2 ^ (2 * h) := Nat.pow_le_pow_right (by omega) (by omega)
      have HRT := Lib.hid (ih (X / 2 ^ (2 * h)) (Nat.div_lt_self hX0 h2h) A1 n1 c1 w1 (by omega) hm1)
      clear hm1 hb1 hf1 ih
      go_wp2_with fail
      refine HRT.out.mono ?_
      rintro e w2 ⟨A2, n2, c2, hn2, rfl, hm2, hb2, hf2⟩
      have HM2 := Lib.hid hm2
      have HB2 := Lib.hid hb2
      have hn2x : n2 ≤ 2 * n + 10 := by omega
      have HPL := Lib.hid (fun V (hV : V = w2.alloc (.cells #[.int .u64 1] 106)) => plus_any (.slice none 0 0) 0 A2 (some ⟨w2.heap.size, 0, none⟩) n2 1 c2 1 (rt (X / 2 ^ (2 * h))) 1 V (by omega) (by omega) (Own.nil _ _) (Nat.zero_le _) (by subst hV; exact hm2.toNg.alloc _) (by subst hV; exact ⟨by decide, Nat.le_refl _, rd_one _ _ _ 1 _ (heap_one _ _) (by decide)⟩) (fun z hz e => by simp [Value.ownBlock] at e) (fun z hz e => by simp [Value.ownBlock] at e))
      clear hm2 hb2 hf2
      go_wp2_with fail
      refine (HPL.out _ rfl).mono ?_
      rintro e w3 ⟨A3, n3, c3, hn3, rfl, hm3, hg3, hf3⟩
      have HM3 := Lib.hid hm3
      have hb3 : Below w.heap.size w w3 := (HB1.out.trans (HB2.out.mono HB1.out.size)).trans (((Below.refl _ w2).alloc (Nat.le_refl _) _).trans (below_none (B := w2.heap.size) hg3 (by simp)) |>.mono (Nat.le_trans HB1.out.size HB2.out.size))
      have HB3 := Lib.hid hb3
      obtain ⟨q, hq⟩ : ∃ q, rt (X / 2 ^ (2 * h)) + 1 = q := ⟨_, rfl⟩
      have hq0 : 0 < q := by omega
      have hgs := guess_first X (2 ^ (2 * h)) (2 ^ h) (by rw [← Nat.pow_add]; congr 1; omega) (Nat.pow_pos (by omega))
      rw [hq] at hgs
      have hm3b := hm3
      rw [hq] at hm3b
      have hsl := shiftLeft_any A3 n3 c3 q h (h / 64) (h % 64) w3 (by omega) (by omega) (by omega) (by omega) hm3b.toNg
      rw [shp (s := h) (by omega)] at hsl
      have hGl : q * 2 ^ h < B64 ^ (n3 + h / 64 + 1) := by
        rw [← shp (s := h) (W := h / 64) (p := h % 64) (by omega)]
        have a1 : 2 ^ (h % 64) < B64 := Nat.lt_of_lt_of_le (Nat.pow_lt_pow_right (by omega) (show h % 64 < 64 by omega)) (by decide)
        have a2 : 2 ^ (h % 64) * B64 ^ (h / 64) < B64 * B64 ^ (h / 64) := Nat.mul_lt_mul_of_pos_right a1 (Nat.pow_pos B64_pos)
        have a3 := Nat.mul_lt_mul'' hm3b.lt a2
        have e : B64 ^ (n3 + h / 64 + 1) = B64 ^ n3 * (B64 * B64 ^ (h / 64)) := by rw [Nat.add_assoc, Nat.pow_add, Nat.pow_succ, Nat.mul_comm (B64 ^ (h / 64))]
        omega
      have hG0 : 0 < q * 2 ^ h := Nat.mul_pos hq0 (Nat.pow_pos (by omega))
      have HSL := Lib.hid hsl
      have HGL := Lib.hid hGl
      have HG0 := Lib.hid hG0
      have HGS := Lib.hid hgs
      clear hm3 hm3b hg3 hf3 hb3 hq hgs hsl hGl hG0 HRT HPL
      go_wp2_with fail
      refine (HSL.out).mono ?_
      rintro e w4 ⟨g4, rfl, hl4, hb4, hg4⟩
      obtain ⟨N4, hN4⟩ : ∃ N4, n3 + h / 64 + 1 = N4 := ⟨_, rfl⟩
      rw [hN4] at hl4 HGL
      have hN4b : N4 ≤ 50000000 := by omega
      have HTR := Lib.hid (trim_any (some ⟨g4, 0, none⟩) N4 N4 (q * 2 ^ h) w4 (by omega) ⟨HGL.out, Nat.le_refl _, hl4.rd⟩)
      have HB4 := Lib.hid ((HB3.out).trans (hb4.mono HB3.out.size))
      have hg4b : w.heap.size ≤ g4 := Nat.le_trans HB3.out.size hg4
      rw [hN4]
      clear hl4 hb4 hg4 hN4 HSL HGL
      go_wp2_with fail
      refine (HTR.out).mono ?_
      rintro e w5 ⟨n5, hn5, rfl, hm5, rfl⟩
      have HM5 := Lib.hid hm5
      clear hm5 HTR
      generalize q * 2 ^ h = G at *
      have HX4 := Lib.hid (HX.out.below HB4.out)
      clear HX HM1 HB1 HM2 HB2 HM3 HB3 HL HSR h2h e2 hh1 hxt
      go_wp2_with fail
      go_loopg [5] G (fun k x wr => ∃ A5 n5 c5, x = .slice A5 n5 c5 ∧ Nm wr A5 n5 c5 k ∧ rt X ≤ k ∧ 0 < k ∧ n5 ≤ 50000000 ∧ Below w.heap.size w wr ∧ Nm wr (some ⟨gx, ox, none⟩) n c X ∧ (∀ z, Value.ownBlock (.slice A5 n5 c5) = some z → w.heap.size ≤ z))
      case atStart =>
        exact ⟨_, n5, N4, rfl, HM5.out, HGS.out, HG0.out, by omega, HB4.out, HX4.out, fun z hz => by simp [Value.ownBlock] at hz; omega⟩
      case round =>
        obtain ⟨A6, n6, c6, rfl, hm6, hge6, hpos6, hn6, hb6, hx6, hf6⟩ := hrel
        have hdv := divide_any (some ⟨gx, ox, none⟩) A6 n n6 c c6 X gk wr (by omega) (by omega) hx6 hm6 hpos6
        have HDV := Lib.hid hdv
        have HM6 := Lib.hid hm6
        have HX6 := Lib.hid hx6
        have HB6 := Lib.hid hb6
        have HF6 := Lib.hid hf6
        clear hdv hm6 hx6 hb6 hf6 HM5 HGS HG0 HB4 HX4
        go_wp2_with fail
        refine (HDV.out).mono ?_
        rintro e w6 ⟨Aq, nq, cq, Ar, nr, cr, hnq, hnr, rfl, hmq, hmr, hbq, hfq, hfr⟩
        have hq6 := (HM6.out.below hbq)
        have hHB := Lib.hid (HB6.out.trans (hbq.mono HB6.out.size))
        have hHX := Lib.hid (HX6.out.below hbq)
        have HPL := Lib.hid (plus_any (.slice none 0 0) 0 A6 Aq n6 nq c6 cq gk (X / gk) w6 (by omega) (by omega) (Own.nil _ _) (Nat.zero_le _) hq6.toNg hmq.toNg (fun z hz e => by simp [Value.ownBlock] at e) (fun z hz e => by simp [Value.ownBlock] at e))
        have HM6 := Lib.hid hq6
        clear hmq hmr hbq hfq hfr hq6 HDV HX6 HB6
        go_wp2_with fail
        refine (HPL.out).mono ?_
        rintro e w7 ⟨A7, n7, c7, hn7, rfl, hm7, hg7, hf7⟩
        have hb7 := below_none (B := w6.heap.size) hg7 (Nat.le_refl _)
        have hHB := Lib.hid (hHB.out.trans (hb7.mono hHB.out.size))
        have hHX := Lib.hid (hHX.out.below hb7)
        have HM6 := Lib.hid (HM6.out.below hb7)
        have hsr := shiftRight_any A7 n7 c7 (gk + X / gk) 1 0 1 w7 (by omega) (by omega) (by omega) (by omega) hm7.toNg
        rw [shp (s := 1) (by omega), Nat.pow_one] at hsr
        have HSR := Lib.hid hsr
        clear hm7 hg7 hf7 hb7 hsr HPL
        obtain ⟨N, hN⟩ : ∃ N, (gk + X / gk) / 2 = N := ⟨_, rfl⟩
        have hge := newton_ge (x := X) hpos6
        have hsp := fun h => newton_stop (x := X) hpos6 hge6 h
        rw [hN] at HSR hge hsp
        have HGE := Lib.hid hge
        have HSP := Lib.hid hsp
        clear hge hsp hN
        go_wp2_with fail
        refine (HSR.out).mono ?_
        rintro e w8 ⟨A8, n8, c8, hn8, rfl, hm8, hb8, hf8⟩
        have hF8 := Lib.hid (fun z hz => Nat.le_trans hHB.out.size (hf8 z hz))
        have hHB := Lib.hid (hHB.out.trans (hb8.mono hHB.out.size))
        have hHX := Lib.hid (hHX.out.below hb8)
        have HM6 := Lib.hid (HM6.out.below hb8)
        have HM8 := Lib.hid hm8
        have HCM := Lib.hid (compare_any A8 A6 n8 n6 c8 c6 N gk w8 (by omega) (by omega) hm8 HM6.out)
        clear hm8 hb8 hf8 HSR
        by_cases hst : gk ≤ N
        · obtain ⟨o, ho⟩ : ∃ o, ord N gk = o := ⟨_, rfl⟩
          have ho0 : 0 ≤ o := by
            rcases Nat.lt_or_ge gk N with h1 | h1
            · rw [← ho, ord_gt h1]; decide
            · have : N = gk := by omega
              rw [← ho, this, ord_eq]; decide
          have hod : decide ((0 : Int) ≤ o) = true := decide_eq_true ho0
          rw [ho] at HCM
          have HEQ := Lib.hid (HSP.out hst)
          clear ho ho0 HSP
          go_wp2_with fail
          refine (HCM.out).mono ?_
          rintro e w9 ⟨rfl, qn, rfl⟩
          go_wp2_with fail
          go_ret
          have e := HEQ.out
          subst e
          refine ⟨A6, n6, c6, Nat.le_trans (Nm.le_len hHX.out.toNg HM6.out (rt_self X)) (by omega), rfl, ⟨⟨HM6.out.lt, HM6.out.cap, HM6.out.rd⟩, HM6.out.top⟩, below_draws hHB.out qn, HF6.out⟩
        · have ho : ord N gk = -1 := ord_lt (by omega)
          rw [ho] at HCM
          clear ho HSP
          go_wp2_with fail
          refine (HCM.out).mono ?_
          rintro e w9 ⟨rfl, qn, rfl⟩
          go_wp2_with fail
          go_roundg N
          case measure => omega
          case rel =>
            have h1 := rt_pos hX0
            have h2 := HGE.out
            exact ⟨A8, n8, c8, rfl, ⟨⟨HM8.out.lt, HM8.out.cap, HM8.out.rd⟩, HM8.out.top⟩, h2, by omega, Nat.le_trans (Nm.le_len HM6.out.toNg HM8.out (by omega)) hn6, below_draws hHB.out qn, ⟨⟨hHX.out.lt, hHX.out.cap, hHX.out.rd⟩, hHX.out.top⟩, hF8.out⟩
end Go.Proofs.YtahehlajpaoiiaaGreatDoor


/-
  The program's quotient and remainder of any two integers; words for the walk of the statement about them.
-/
namespace Go.Proofs.YtahehlajpaoiiaaGreatDoor
open Go.RowKit
attribute [local go_sem ↓] Go.wp_at_zero Go.wp_at_succ

theorem divMod_zero (na nb : Bool) (a b : ByteArray) (ha : a.size ≤ 400000000) (hb : b.size ≤ 400000000) (h0 : bval b = 0) (w : World) :
    Calls Tryz.prog 84 #[.agg #[.bool na, .string a], .agg #[.bool nb, .string b]] w (RetB w (.tuple #[.agg #[.bool false, .string ⟨#[]⟩], .agg #[.bool false, .string ⟨#[]⟩], .int .i64 6])) := by
  by_cases hs : 8 < a.size ∨ 8 < b.size
  · exact divMod_deep na nb a b ha hb 0 0 false (.inl rfl) (fun V => words_no na nb a b hs V) w _ (fun _ w' hw => ⟨rfl, hw⟩) (fun h => absurd h0 h)
  · exact divMod_deep na nb a b ha hb _ _ true (.inr h0) (fun V => words_yes na nb a b (by omega) (by omega) V) w _ (fun _ w' hw => ⟨rfl, hw⟩) (fun h => absurd h0 h)

theorem divMod_any (na nb : Bool) (a b : ByteArray) (ha : a.size ≤ 400000000) (hb : b.size ≤ 400000000) (h0 : bval b ≠ 0) (w : World) :
    Calls Tryz.prog 84 #[.agg #[.bool na, .string a], .agg #[.bool nb, .string b]] w (RetQ w (sgn na (bval a) / sgn nb (bval b)) (sgn na (bval a) % sgn nb (bval b)) 0) := by
  by_cases hs : 8 < a.size ∨ 8 < b.size
  · refine divMod_deep na nb a b ha hb 0 0 false (.inl rfl) (fun V => words_no na nb a b hs V) w _ (fun h => absurd h h0) (fun _ w' b1 m1 b2 m2 h1 h2 hw => ⟨?_, hw⟩)
    rw [h1.out, h2.out]
  · exact divMod_short na nb a b (by omega) (by omega) h0 w

section
variable {x y q r : Int} {b1 b2 b3 b4 : Bool} {m1 m2 m3 m4 : ByteArray} (hx : enc x = .agg #[.bool b1, .string m1]) (hy : enc y = .agg #[.bool b2, .string m2]) (s1 : m1.size ≤ 400000000) (s2 : m2.size ≤ 400000000)
include hx hy s1 s2 in
theorem divMod_f (h0 : y ≠ 0) (hq : enc q = .agg #[.bool b3, .string m3]) (hr : enc r = .agg #[.bool b4, .string m4]) (e1 : q = x / y) (e2 : r = x % y) (w : World) :
    Calls Tryz.prog 84 #[.agg #[.bool b1, .string m1], .agg #[.bool b2, .string m2]] w (RetB w (.tuple #[.agg #[.bool b3, .string m3], .agg #[.bool b4, .string m4], .int .i64 0])) := by
  subst e1
  subst e2
  have hb : bval m2 ≠ 0 := fun h => h0 (by rw [← enc_sgn hy, h]; cases b2 <;> rfl)
  have h := divMod_any b1 b2 m1 m2 s1 s2 hb w
  rw [enc_sgn hx, enc_sgn hy] at h
  unfold RetQ at h
  rw [hq, hr] at h
  exact h
include hy s1 s2 in
theorem divMod_0 (h0 : y = 0) (w : World) :
    Calls Tryz.prog 84 #[.agg #[.bool b1, .string m1], .agg #[.bool b2, .string m2]] w (RetB w (.tuple #[.agg #[.bool false, .string ⟨#[]⟩], .agg #[.bool false, .string ⟨#[]⟩], .int .i64 6])) := by
  refine divMod_zero b1 b2 m1 m2 s1 s2 ?_ w
  have h := enc_sgn hy
  rw [h0] at h
  unfold sgn at h
  cases b2 <;> simp at h <;> omega
end

/-- The world so far: the two integers, and two of the walk's own, lie where they lay. -/
structure S4 (w : World) (g : Nat) (b1 b2 b3 b4 : Bool) (m1 m2 m3 m4 : ByteArray) (wc : World) : Prop where
  zx : Zi wc w.heap.size b1 m1
  zy : Zi wc (w.heap.size + 1) b2 m2
  zq : Zi wc g b3 m3
  zr : Zi wc (g + 1) b4 m4
  lo : w.heap.size + 2 ≤ g
  big : g + 2 ≤ wc.heap.size
  bel : Below w.heap.size w wc
theorem S4.next {w : World} {g : Nat} {w1 w2 : World} {b1 b2 b3 b4 : Bool} {m1 m2 m3 m4 : ByteArray} (h : S4 w g b1 b2 b3 b4 m1 m2 m3 m4 w1) (hb : Below w1.heap.size w1 w2) : S4 w g b1 b2 b3 b4 m1 m2 m3 m4 w2 := by
  have := h.big
  have := h.lo
  exact ⟨h.zx.below hb (by omega), h.zy.below hb (by omega), h.zq.below hb (by omega), h.zr.below hb (by omega), h.lo, Nat.le_trans h.big hb.size, h.bel.trans (hb.mono h.bel.size)⟩
theorem S4.drew {w : World} {g : Nat} {w1 : World} {b1 b2 b3 b4 : Bool} {m1 m2 m3 m4 : ByteArray} (h : S4 w g b1 b2 b3 b4 m1 m2 m3 m4 w1) : S4 w g b1 b2 b3 b4 m1 m2 m3 m4 w1.drew := h.next (Below.refl _ _).drew
theorem S4.cells {w : World} {g : Nat} {wc : World} {b1 b2 b3 b4 : Bool} {m1 m2 m3 m4 : ByteArray} (h : S4 w g b1 b2 b3 b4 m1 m2 m3 m4 wc) :
    wc.cell? ⟨w.heap.size, 0, none⟩ = some (.bool b1) ∧ wc.cell? ⟨w.heap.size, 1, none⟩ = some (.string m1) ∧ wc.cell? ⟨w.heap.size + 1, 0, none⟩ = some (.bool b2) ∧ wc.cell? ⟨w.heap.size + 1, 1, none⟩ = some (.string m2) ∧
    wc.cell? ⟨g, 0, none⟩ = some (.bool b3) ∧ wc.cell? ⟨g, 1, none⟩ = some (.string m3) ∧ wc.cell? ⟨g + 1, 0, none⟩ = some (.bool b4) ∧ wc.cell? ⟨g + 1, 1, none⟩ = some (.string m4) := ⟨h.zx.c0, h.zx.c1, h.zy.c0, h.zy.c1, h.zq.c0, h.zq.c1, h.zr.c0, h.zr.c1⟩
theorem S4.mk2 {w w1 : World} {b1 b2 b3 b4 : Bool} {m1 m2 m3 m4 : ByteArray} (h : S2 w b1 b2 m1 m2 w1) (T : TypeId) :
    S4 w w1.heap.size b1 b2 b3 b4 m1 m2 m3 m4 ((w1.alloc (.cells #[.bool b3, .string m3] T)).alloc (.cells #[.bool b4, .string m4] T)) := by
  have hk := K2.start w1 T (.bool b3) (.string m3) (.bool b4) (.string m4)
  obtain ⟨a0, a1, a2, a3⟩ := hk.zx
  have h2 := h.next hk.bel
  exact ⟨h2.zx, h2.zy, ⟨a0, a1⟩, ⟨a2, a3⟩, h.big, hk.sz, h2.bel⟩
end Go.Proofs.YtahehlajpaoiiaaGreatDoor


/-
  The reference's division of numbers that are not negative.
-/
namespace Go.Proofs.YtahehlajpaoiiaaGreatDoor
open Go.RowKit
attribute [local go_sem ↓] Go.wp_at_zero Go.wp_at_succ

/-- The four boxes of a function of two integers with two results. -/
structure B4 (w : World) (T : TypeId) (v0 v1 v2 v3 q0 q1 r0 r1 : Value) (w1 : World) : Prop where
  k0 : w1.heap[w.heap.size]? = some (.cells #[v0, v1] T (0, 0))
  k1 : w1.heap[w.heap.size + 1]? = some (.cells #[v2, v3] T (0, 0))
  k2 : w1.heap[w.heap.size + 2]? = some (.cells #[q0, q1] T (0, 0))
  k3 : w1.heap[w.heap.size + 3]? = some (.cells #[r0, r1] T (0, 0))
  sz : w.heap.size + 4 ≤ w1.heap.size
  bel : Below w.heap.size w w1

section
variable {w w1 w2 : World} {T : TypeId} {v0 v1 v2 v3 q0 q1 r0 r1 : Value}
theorem B4.start (w : World) (T : TypeId) (v0 v1 v2 v3 : Value) : B4 w T v0 v1 v2 v3 (.bool false) (.string ⟨#[]⟩) (.bool false) (.string ⟨#[]⟩) ((((w.alloc (.cells #[v0, v1] T)).alloc (.cells #[v2, v3] T)).alloc (.cells #[.bool false, .string ⟨#[]⟩] T)).alloc (.cells #[.bool false, .string ⟨#[]⟩] T)) := by
  have h := K4.start w T v0 v1 v2 v3
  exact ⟨h.k0, h.k1, h.k2, h.k3, h.sz, h.bel⟩
theorem B4.next (h : B4 w T v0 v1 v2 v3 q0 q1 r0 r1 w1) (hb : Below w1.heap.size w1 w2) : B4 w T v0 v1 v2 v3 q0 q1 r0 r1 w2 := by
  have hs := h.sz
  refine ⟨(hb.block _ (by omega)).trans h.k0, (hb.block _ (by omega)).trans h.k1, (hb.block _ (by omega)).trans h.k2, (hb.block _ (by omega)).trans h.k3, ?_, h.bel.trans (hb.mono h.bel.size)⟩
  have := hb.size
  omega
theorem two_set {W : World} {g : Nat} {x0 x1 : Value} (h : W.heap[g]? = some (.cells #[x0, x1] T (0, 0))) (x y : Value) : ((W.setCell ⟨g, 0, none⟩ x).setCell ⟨g, 1, none⟩ y).heap[g]? = some (.cells #[x, y] T (0, 0)) := by
  simp [World.setCell, Array.getElem?_modify, h]
theorem two_other {W : World} {g k : Nat} (hne : k ≠ g) (x y : Value) : ((W.setCell ⟨g, 0, none⟩ x).setCell ⟨g, 1, none⟩ y).heap[k]? = W.heap[k]? :=
  (Below.heap_setCell _ ⟨g, 1, none⟩ y k hne).trans (Below.heap_setCell _ ⟨g, 0, none⟩ x k hne)
theorem two_size {W : World} {g : Nat} (x y : Value) : ((W.setCell ⟨g, 0, none⟩ x).setCell ⟨g, 1, none⟩ y).heap.size = W.heap.size := by simp [World.setCell]
theorem B4.setQ (h : B4 w T v0 v1 v2 v3 q0 q1 r0 r1 w1) (x y : Value) : B4 w T v0 v1 v2 v3 x y r0 r1 ((w1.setCell ⟨w.heap.size + 2, 0, none⟩ x).setCell ⟨w.heap.size + 2, 1, none⟩ y) :=
  ⟨(two_other (by omega) x y).trans h.k0, (two_other (by omega) x y).trans h.k1, two_set h.k2 x y, (two_other (by omega) x y).trans h.k3, by rw [two_size]; exact h.sz, (h.bel.setCell (by show w.heap.size ≤ w.heap.size + 2; omega) _).setCell (by show w.heap.size ≤ w.heap.size + 2; omega) _⟩
theorem B4.setR (h : B4 w T v0 v1 v2 v3 q0 q1 r0 r1 w1) (x y : Value) : B4 w T v0 v1 v2 v3 q0 q1 x y ((w1.setCell ⟨w.heap.size + 3, 0, none⟩ x).setCell ⟨w.heap.size + 3, 1, none⟩ y) :=
  ⟨(two_other (by omega) x y).trans h.k0, (two_other (by omega) x y).trans h.k1, (two_other (by omega) x y).trans h.k2, two_set h.k3 x y, by rw [two_size]; exact h.sz, (h.bel.setCell (by show w.heap.size ≤ w.heap.size + 3; omega) _).setCell (by show w.heap.size ≤ w.heap.size + 3; omega) _⟩
theorem B4.in4 (h : B4 w T v0 v1 v2 v3 q0 q1 r0 r1 w1) : w1.cell? ⟨w.heap.size, 0, none⟩ = some v0 ∧ w1.cell? ⟨w.heap.size, 1, none⟩ = some v1 ∧ w1.cell? ⟨w.heap.size + 1, 0, none⟩ = some v2 ∧ w1.cell? ⟨w.heap.size + 1, 1, none⟩ = some v3 :=
  ⟨(blk_cells h.k0).1, (blk_cells h.k0).2.1, (blk_cells h.k1).1, (blk_cells h.k1).2.1⟩
theorem B4.end4 (h : B4 w T v0 v1 v2 v3 q0 q1 r0 r1 w1) : w1.cell? ⟨w.heap.size, 0, none⟩ = some v0 ∧ w1.cell? ⟨w.heap.size + 1, 0, none⟩ = some v2 ∧ w1.cell? ⟨w.heap.size + 3, 0, none⟩ = some r0 ∧ w1.cell? ⟨w.heap.size + 3, 1, none⟩ = some r1 :=
  ⟨(blk_cells h.k0).1, (blk_cells h.k1).1, (blk_cells h.k3).1, (blk_cells h.k3).2.1⟩
end

end Go.Proofs.YtahehlajpaoiiaaGreatDoor
