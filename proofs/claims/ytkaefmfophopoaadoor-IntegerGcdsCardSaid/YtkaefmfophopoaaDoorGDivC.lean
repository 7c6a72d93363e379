import Derived.Test.YtkaefmfophopoaaDoorGDivE

/-
  The program's shifts of digits.
-/
namespace Go.Proofs.YtkaefmfophopoaaDoor
open Go.RowKit
attribute [local go_sem ↓] Go.wp_at_zero Go.wp_at_succ

theorem B64_two (p : Nat) (hp : p ≤ 64) : B64 = 2 ^ p * 2 ^ (64 - p) := by
  rw [← Nat.pow_add, show p + (64 - p) = 64 by omega]; rfl

theorem or_sum {h x p : Nat} (hh : h < 2 ^ p) (hp : p ≤ 64) : h ||| x * 2 ^ p % B64 = h + x * 2 ^ p % B64 ∧ h + x * 2 ^ p % B64 < B64 := by
  have e := B64_two p hp
  have e2 : x * 2 ^ p % B64 = 2 ^ p * (x % 2 ^ (64 - p)) := by rw [e, Nat.mul_comm x, Nat.mul_mod_mul_left]
  have hl := Nat.mod_lt x (show 0 < 2 ^ (64 - p) from Nat.pow_pos (by omega))
  have hor : 2 ^ p * (x % 2 ^ (64 - p)) ||| h = 2 ^ p * (x % 2 ^ (64 - p)) + h := (Nat.two_pow_add_eq_or_of_lt hh _).symm
  have hb : 2 ^ p * (x % 2 ^ (64 - p) + 1) ≤ 2 ^ p * 2 ^ (64 - p) := Nat.mul_le_mul_left _ hl
  rw [Nat.mul_add, Nat.mul_one, ← e] at hb
  rw [e2, Nat.or_comm, hor]
  omega

theorem shr_mul {x p : Nat} (hp : p ≤ 64) : x / 2 ^ (64 - p) = x * 2 ^ p / B64 := by
  rw [B64_two p hp, Nat.mul_comm x, Nat.mul_div_mul_left _ _ (Nat.pow_pos (by omega))]

/-- The digits that are shifted so far, a digit further. -/
theorem shl_step {X p W k : Nat} (hp : p < 64) (j : Nat) :
    (if j = k + W + 1 then D B64 X k / 2 ^ (64 - p) else if j = k + W then D B64 (X % B64 ^ k * (2 ^ p * B64 ^ W)) (k + W) ||| D B64 X k * 2 ^ p % B64 else D B64 (X % B64 ^ k * (2 ^ p * B64 ^ W)) j) = D B64 (X % B64 ^ (k + 1) * (2 ^ p * B64 ^ W)) j := by
  have hP : 0 < B64 ^ (k + W) := Nat.pow_pos B64_pos
  have hx := D64_lt X k
  have hU : X % B64 ^ (k + 1) * (2 ^ p * B64 ^ W) = X % B64 ^ k * (2 ^ p * B64 ^ W) + B64 ^ (k + W) * (D B64 X k * 2 ^ p) := by
    rw [mod_succ, Nat.add_mul, Nat.pow_add]
    congr 1
    generalize D B64 X k = x
    generalize B64 ^ k = a
    generalize B64 ^ W = c
    generalize 2 ^ p = t
    ac_rfl
  have hUk : X % B64 ^ k * (2 ^ p * B64 ^ W) < B64 ^ (k + W) * 2 ^ p := by
    have h1 := Nat.mod_lt X (Nat.pow_pos (n := k) B64_pos)
    have h2 := Nat.mul_lt_mul_of_pos_right h1 (show 0 < 2 ^ p * B64 ^ W from Nat.mul_pos (Nat.pow_pos (by omega)) (Nat.pow_pos B64_pos))
    rw [Nat.pow_add]
    have e : B64 ^ k * (2 ^ p * B64 ^ W) = B64 ^ k * B64 ^ W * 2 ^ p := by rw [Nat.mul_comm (2 ^ p), Nat.mul_assoc]
    omega
  generalize D B64 X k = x at *
  generalize X % B64 ^ (k + 1) * (2 ^ p * B64 ^ W) = U' at *
  generalize X % B64 ^ k * (2 ^ p * B64 ^ W) = U at *
  have hh : U / B64 ^ (k + W) < 2 ^ p := Nat.div_lt_of_lt_mul hUk
  have hp2 : 2 ^ p < B64 := by
    have h1 : 2 ^ p ≤ 2 ^ 63 := Nat.pow_le_pow_right (by omega) (by omega)
    have h2 : B64 = 18446744073709551616 := rfl
    omega
  have hdk : D B64 (U) (k + W) = U / B64 ^ (k + W) := by
    unfold D; exact Nat.mod_eq_of_lt (by omega)
  obtain ⟨or1, or2⟩ := or_sum (x := x) hh (by omega)
  have hT : U' / B64 ^ (k + W) = B64 * (x * 2 ^ p / B64) + (U / B64 ^ (k + W) + x * 2 ^ p % B64) := by
    rw [hU, Nat.add_mul_div_left _ _ hP]
    have := Nat.div_add_mod (x * 2 ^ p) B64
    omega
  have hhi : x * 2 ^ p / B64 < B64 := by
    apply Nat.div_lt_of_lt_mul
    exact Nat.mul_lt_mul'' (by rw [B64_eq]; exact hx) hp2
  by_cases e : j = k + W + 1
  · rw [if_pos e, e, D_high (P := U') (k := k + W) (by omega), hT, shr_mul (by omega), show k + W + 1 - (k + W) = 1 by omega]
    unfold D
    rw [Nat.pow_one, Nat.mul_add_div B64_pos, Nat.div_eq_of_lt or2, Nat.add_zero]
    exact (Nat.mod_eq_of_lt hhi).symm
  · rw [if_neg e]
    by_cases e2 : j = k + W
    · rw [if_pos e2, e2, hdk, or1, D_high (P := U') (k := k + W) (by omega), hT, Nat.sub_self]
      unfold D
      rw [Nat.pow_zero, Nat.div_one, Nat.mul_add_mod, Nat.mod_eq_of_lt or2]
    · rw [if_neg e2]
      by_cases e3 : j < k + W
      · rw [hU, D_low B64_pos e3]
      · have hz1 : D B64 (U) j = 0 := by
          refine D_zero_of B64_pos (n := k + W + 1) ?_ (by omega)
          rw [Nat.pow_succ]
          exact Nat.lt_trans hUk (Nat.mul_lt_mul_of_pos_left hp2 hP)
        rw [hz1]
        symm
        rw [D_high (P := U') (k := k + W) (by omega), hT]
        refine D_zero_of B64_pos (n := 2) ?_ (by omega)
        have : B64 * (x * 2 ^ p / B64 + 1) ≤ B64 * B64 := Nat.mul_le_mul_left _ hhi
        rw [Nat.mul_add, Nat.mul_one] at this
        rw [Nat.pow_two]
        omega

/-- A call that hands back n digits in a new block. -/
def RetNew (w : World) (n V : Nat) (e : Ending) (w' : World) : Prop := ∃ g, e = .returned (.slice (some ⟨g, 0, none⟩) n n) ∧ Lies w' g n (D B64 V) ∧ Below w.heap.size w w' ∧ w.heap.size ≤ g

set_option maxHeartbeats 2000000 in
set_option maxRecDepth 100000 in
theorem shiftLeft_any (A : Option Addr) (n c X s W p : Nat) (w : World) (hn : n ≤ 100000000) (hW : W ≤ 100000000) (hs : s = 64 * W + p) (hp : p < 64) (hx : Ng w A n c X) :
    Calls Tryd.prog 75 #[.slice A n c, .int .i64 (s : Int)] w (RetNew w (n + W + 1) (X * (2 ^ p * B64 ^ W))) := by
  have hmk := fun V => run_make_row' (P := Tryd.prog) 47 39 (.int .u64 0) 8 Tryd.underlying47 natInfo rfl .i64 .i64 (n + W + 1) (by omega) (by omega) V
  have ec : ((n + W + 1 : Nat) : Int) = (n : Int) + (W : Int) + 1 := by omega
  rw [ec] at hmk
  have w1 : (s : Int) / 64 = (W : Int) := by omega
  have w2 : (s : Int) % 64 = (p : Int) := by omega
  have hs0 : (0 : Int) ≤ (s : Int) := by omega
  have hsb : (s : Int) ≤ 7000000000 := by omega
  have HX := Lib.hid hx
  clear hx ec hs
  go_enter Tryd.func75, Tryd.ntmps75
  go_wp2_with fail
  rw [w2]
  clear w1 w2
  go_loopw [22] (fun iv wr => ∃ k : Nat, k ≤ n ∧ iv = .int .i64 k ∧ Lies wr w.heap.size (n + W + 1) (D B64 (X % B64 ^ k * (2 ^ p * B64 ^ W))) ∧ Below w.heap.size w wr) (fun iv _ => n - (intOf iv).toNat)
  case atStart =>
    refine ⟨0, Nat.zero_le _, rfl, (Lies.of_made w (n + W + 1)).congr fun i hi => ?_, (Below.refl _ _).alloc (Nat.le_refl _) _⟩
    simp [D, Nat.mod_one]
  case round =>
    obtain ⟨k, hk, rfl, hlies, hbl⟩ := hrel
    by_cases hlt : k < n
    · obtain ⟨gx, ox, hA, hgx, hcx⟩ := HX.out.rd (by omega)
      subst hA
      have hxk := (hbl.cell (p := ⟨gx, ox + k, none⟩) hgx).trans (hcx k hlt)
      have hcell := hlies.cell (i := k + W) (by omega)
      have hfro := hlies.frozen (k + W)
      have hcell2 := hlies.cell (i := k + W + 1) (by omega)
      have hfro2 := hlies.frozen (k + W + 1)
      have hdx := D64_lt X k
      have hdu := D64_lt (X % B64 ^ k * (2 ^ p * B64 ^ W)) (k + W)
      have hst := fun j => shl_step (X := X) (p := p) (W := W) (k := k) hp j
      have HST := Lib.hid hst
      have HLI := Lib.hid hlies
      have HBL := Lib.hid hbl
      obtain ⟨u, hu⟩ : ∃ u, D B64 (X % B64 ^ k * (2 ^ p * B64 ^ W)) (k + W) = u := ⟨_, rfl⟩
      obtain ⟨x, hxx⟩ : ∃ x, D B64 X k = x := ⟨_, rfl⟩
      rw [hu] at hcell hdu
      rw [hxx] at hxk hdx
      have hsl : x * 2 ^ p % B64 < 18446744073709551616 := by have := Nat.mod_lt (x * 2 ^ p) B64_pos; rw [B64_eq] at this ⊢; exact this
      obtain ⟨S, hS⟩ : ∃ S, x * 2 ^ p % B64 = S := ⟨_, rfl⟩
      obtain ⟨R, hR⟩ : ∃ R, x / 2 ^ (64 - p) = R := ⟨_, rfl⟩
      have v1 : IntKind.u64.wrap ((x : Int) * 2 ^ p) = (S : Int) := by rw [shl_word, ← B64_eq, hS]
      rw [hS] at hsl
      have v2 : bits .or .u64 (u : Int) (S : Int) = ((u ||| S : Nat) : Int) := bits_or_u64 u S hdu hsl
      have v3 : (x : Int) / 2 ^ (64 - p) = (R : Int) := by rw [shr_word, hR]
      obtain ⟨O, hO⟩ : ∃ O, u ||| S = O := ⟨_, rfl⟩
      rw [hO] at v2
      have HFIN := Lib.hid (show D B64 (X % B64 ^ k * (2 ^ p * B64 ^ W)) (k + W) ||| D B64 X k * 2 ^ p % B64 = O ∧ D B64 X k / 2 ^ (64 - p) = R from ⟨by rw [hu, hxx, hS, hO], by rw [hxx, hR]⟩)
      have i1 : IntKind.i64.wrap ((k : Int) + (W : Int)) = (k : Int) + (W : Int) := IntWalk.i64_in _ (by omega)
      have i2 : (0 : Int) ≤ (k : Int) + (W : Int) := by omega
      have i3 : (k : Int) + (W : Int) < (n : Int) + (W : Int) + 1 := by omega
      have i4 : ((k : Int) + (W : Int)).toNat = k + W := by omega
      have i5 : (k : Int) < (n : Int) := by omega
      have i6 : (0 : Int) ≤ (k : Int) := by omega
      have i7 : ((k : Int) + (W : Int) + 1).toNat = k + W + 1 := by omega
      have i8 : IntKind.i64.wrap ((k : Int) + (W : Int) + 1) = (k : Int) + (W : Int) + 1 := IntWalk.i64_in _ (by omega)
      clear hcx hst hlies hbl hu hxx hS hR hO
      go_wp2_with fail
      go_region_law (fail)
      all_goals
        have hcellb : ((wr.drew).setCell ⟨w.heap.size, k + W, none⟩ (.int .u64 (O : Int))).cell? ⟨w.heap.size, k + W + 1, none⟩ = some (.int .u64 (D B64 (X % B64 ^ k * (2 ^ p * B64 ^ W)) (k + W + 1) : Int)) := (Lies.set (w := wr.drew) HLI.out (k + W) O).cell (by omega) |>.trans (by simp)
        have hfrob : ((wr.drew).setCell ⟨w.heap.size, k + W, none⟩ (.int .u64 (O : Int))).frozen? ⟨w.heap.size, k + W + 1, none⟩ = false := (Lies.set (w := wr.drew) HLI.out (k + W) O).frozen _
        have hgne : ¬ (gx = w.heap.size) := by omega
        have hgne2 : ¬ (w.heap.size = gx) := by omega
        go_wp2
        go_roundw
        case rel =>
          refine ⟨k + 1, by omega, by go_num, ((Lies.set (w := wr.drew) HLI.out (k + W) O).set (k + W + 1) R).congr fun j hj => ?_, ((HBL.out.drew).setCell (Nat.le_refl _) _).setCell (Nat.le_refl _) _⟩
          rw [← HST.out j, HFIN.out.1, HFIN.out.2]
        case measure => simp [intOf] <;> omega
    · obtain rfl : k = n := by omega
      have hXm : X % B64 ^ k = X := Nat.mod_eq_of_lt HX.out.lt
      rw [hXm] at hlies
      have HLI := Lib.hid hlies
      clear hXm hlies
      go_wp2
      go_ret
      exact ⟨_, by rfl, HLI.out, hbl, Nat.le_refl _⟩

/-! The shift to the right. -/

theorem shr_step {X p W k : Nat} (hp : p < 64) : D B64 (X / (2 ^ p * B64 ^ W)) k = D B64 X (W + k) / 2 ^ p ||| D B64 X (W + k + 1) * 2 ^ (64 - p) % B64 := by
  have e1 : X / (2 ^ p * B64 ^ W) / B64 ^ k = X / B64 ^ (W + k) / 2 ^ p := by
    rw [Nat.div_div_eq_div_mul, Nat.div_div_eq_div_mul, Nat.pow_add]
    congr 1
    ac_rfl
  have h1 := div_D B64 X (W + k)
  have h2 := div_D B64 X (W + k + 1)
  have l1 := D64_lt X (W + k)
  unfold D at h1 h2 l1 ⊢
  rw [e1]
  generalize X / B64 ^ (W + k) % B64 = x0 at *
  generalize X / B64 ^ (W + k + 1) % B64 = x1 at *
  generalize X / B64 ^ (W + k + 1 + 1) = Z at *
  rw [h1, h2]
  have hp0 : 0 < 2 ^ p := Nat.pow_pos (by omega)
  have eb := B64_two p (by omega)
  have hl : x0 / 2 ^ p < 2 ^ (64 - p) := Nat.div_lt_of_lt_mul (by rw [← eb, B64_eq]; exact l1)
  have hx1 : x1 * 2 ^ (64 - p) % B64 = 2 ^ (64 - p) * (x1 % 2 ^ p) := by rw [eb, Nat.mul_comm x1, Nat.mul_comm (2 ^ p), Nat.mul_mod_mul_left]
  have hor : 2 ^ (64 - p) * (x1 % 2 ^ p) ||| x0 / 2 ^ p = 2 ^ (64 - p) * (x1 % 2 ^ p) + x0 / 2 ^ p := (Nat.two_pow_add_eq_or_of_lt hl _).symm
  rw [hx1, Nat.or_comm, hor]
  have hsum : (B64 * (B64 * Z + x1) + x0) / 2 ^ p = 2 ^ (64 - p) * (B64 * Z + x1) + x0 / 2 ^ p := by
    have : B64 * (B64 * Z + x1) = 2 ^ p * (2 ^ (64 - p) * (B64 * Z + x1)) := by
      conv => lhs; rw [eb]
      rw [Nat.mul_assoc, ← eb]
    rw [this, Nat.mul_add_div hp0]
  rw [hsum]
  have hx1d := Nat.div_add_mod x1 (2 ^ p)
  have hq : 2 ^ (64 - p) * (B64 * Z + x1) + x0 / 2 ^ p = B64 * (2 ^ (64 - p) * Z + x1 / 2 ^ p) + (2 ^ (64 - p) * (x1 % 2 ^ p) + x0 / 2 ^ p) := by
    have : 2 ^ (64 - p) * x1 = B64 * (x1 / 2 ^ p) + 2 ^ (64 - p) * (x1 % 2 ^ p) := by
      conv => lhs; rw [← hx1d]
      rw [Nat.mul_add, eb, Nat.mul_comm (2 ^ p) (2 ^ (64 - p)), Nat.mul_assoc]
    rw [Nat.mul_add, Nat.mul_add, this, Nat.mul_left_comm]
    omega
  have hlt : 2 ^ (64 - p) * (x1 % 2 ^ p) + x0 / 2 ^ p < B64 := by
    have hm := Nat.mod_lt x1 hp0
    have : 2 ^ (64 - p) * (x1 % 2 ^ p + 1) ≤ 2 ^ (64 - p) * 2 ^ p := Nat.mul_le_mul_left _ hm
    rw [Nat.mul_add, Nat.mul_one, Nat.mul_comm (2 ^ (64 - p)) (2 ^ p), ← eb] at this
    omega
  rw [hq, Nat.mul_add_mod, Nat.mod_eq_of_lt hlt]
end Go.Proofs.YtkaefmfophopoaaDoor
