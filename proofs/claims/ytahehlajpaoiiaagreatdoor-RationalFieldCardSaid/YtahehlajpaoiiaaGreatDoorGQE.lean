import Derived.Test.YtahehlajpaoiiaaGreatDoorGQD
import Derived.Deep.RegionHeld3
import Derived.Test.YtahehlajpaoiiaaGreatDoorGDivE

/-
  The walk of a digit of the program's quotients.
-/
namespace Go.Proofs.YtahehlajpaoiiaaGreatDoor
open Go.RowKit
attribute [local go_sem ↓] Go.wp_at_zero Go.wp_at_succ

/-- The window's digits behind the call. -/
def wnF (f : Nat → Nat) (o n R j : Nat) : Nat := if o ≤ j ∧ j ≤ o + n then D B64 R (j - o) else f j

/-- A call that hands back a digit of a quotient, and leaves the remainder in the window. -/
def RetQd (w : World) (g N : Nat) (F : Nat → Nat) (q : Nat) (e : Ending) (w' : World) : Prop := e = .returned (.int .u64 (q : Int)) ∧ Lies w' g N F ∧ w.grownBy w' (some g)

theorem grown_drew {a w w' : World} {row : Option Nat} (h : a.grownBy w row) (hd : Drew w w') : a.grownBy w' row := by
  obtain ⟨q, rfl⟩ := hd
  exact ⟨h.os, h.tape, h.output, h.size, h.block⟩
theorem Lies.drew {w w' : World} {g n : Nat} {f : Nat → Nat} (h : Lies w g n f) (hd : Drew w w') : Lies w' g n f := by
  obtain ⟨q, rfl⟩ := hd
  exact h
theorem Rd.drewD {w w' : World} {K : IntKind} {A : Option Addr} {n : Nat} {f : Nat → Nat} (h : Rd w K A n f) (hd : Drew w w') : Rd w' K A n f := by
  obtain ⟨q, rfl⟩ := hd
  exact h

theorem Drew.one (w : World) : Drew w w.drew := ⟨1, rfl⟩

/-- The divisor added once: the carry is one, and what is left is the remainder. -/
theorem add_back (g o N n c : Nat) (f : Nat → Nat) (A : Option Addr) (m cx U X R : Nat) (w : World) (hN : o + m ≤ N) (hn : n = m) (hc : n ≤ c) (hm : m ≤ 1000000000) (hL : Lies w g N f) (hU : ∀ i, i < m → f (o + i) = D B64 U i)
    (hX : Rd w .u64 A m (D B64 X)) (hne : 0 < m → ∀ a, A = some a → a.block ≠ g) (hUl : U < B64 ^ m) (hXl : X < B64 ^ m) (hR : R < B64 ^ m) (he : U + X = R + B64 ^ m) :
    Calls Tryz.prog 134 #[.slice (some ⟨g, o, none⟩) n c, .slice A m cx, .int .u64 1] w (fun e w' => e = .returned (.int .u64 1) ∧ Lies w' g N (fun j => if o ≤ j ∧ j < o + m then D B64 R (j - o) else f j) ∧ w.grownBy w' (some g)) := by
  have h := addMultiple_any g o N n c f A m cx U X 1 w hN hn hc hm hL hU hX hne (by omega)
  have hp : 0 < B64 ^ m := Nat.pow_pos B64_pos
  have hcar : car B64 U 1 X m = 1 := by
    rw [car_end hUl hXl, Nat.one_mul, he, Nat.add_div_right _ hp, Nat.div_eq_of_lt hR]
  refine h.mono fun e w' ⟨h1, h2, h3⟩ => ⟨by rw [h1, hcar]; rfl, h2.congr fun j hj => ?_, h3⟩
  unfold amF
  subst hn
  by_cases e2 : o ≤ j ∧ j < o + n
  · rw [if_pos e2, if_pos e2, Nat.one_mul, he]
    have := D_low (P := R) (Z := 1) B64_pos (show j - o < n by omega)
    rw [Nat.mul_one] at this
    exact this
  · rw [if_neg e2, if_neg e2]

set_option maxHeartbeats 4000000 in
set_option maxRecDepth 100000 in
theorem quotientDigit_any (g o N m c : Nat) (f : Nat → Nat) (A : Option Addr) (d W Y L M : Nat) (w : World) (hL : L = m + 3) (hM : M = m + 2) (hm : m ≤ 100000000) (hN : o + m + 3 ≤ N) (hc : m + 3 ≤ c) (hd : m + 2 ≤ d) (hlies : Lies w g N f) (hwin : ∀ i, i < m + 3 → f (o + i) = D B64 W i) (hW : W < B64 ^ (m + 3))
    (hr : Rd w .u64 A (m + 2) (D B64 Y)) (hY : Y < B64 ^ (m + 2)) (hYt : B64 ^ (m + 2) ≤ 2 * Y) (hWY : W < Y * B64) (hne : ∀ a, A = some a → a.block ≠ g) :
    Calls Tryz.prog 137 #[.slice (some ⟨g, o, none⟩) L c, .slice A M d] w (RetQd w g N (wnF f o (m + 2) (W % Y)) (W / Y)) := by
  subst hL
  subst hM
  obtain ⟨gv, g1, g2, g3, g4⟩ := guess_ok hW hY hYt hWY
  obtain ⟨q, hq⟩ : ∃ q, guess (D B64 W (m + 2)) (D B64 W (m + 1)) (D B64 W m) (D B64 Y (m + 1)) (D B64 Y m) = q := ⟨_, rfl⟩
  rw [hq] at g1 g2 g4
  obtain ⟨h, p, hA, hh, hcy⟩ := hr (by omega)
  have hhg : h ≠ g := hne _ hA
  subst hA
  have hw2 : w.cell? ⟨g, o + m + 2, none⟩ = some (.int .u64 (D B64 W (m + 2) : Int)) := by have := hlies.cell (i := o + (m + 2)) (by omega); rw [hwin (m + 2) (by omega)] at this; exact this
  have hw1 : w.cell? ⟨g, o + m + 1, none⟩ = some (.int .u64 (D B64 W (m + 1) : Int)) := by have := hlies.cell (i := o + (m + 1)) (by omega); rw [hwin (m + 1) (by omega)] at this; exact this
  have hw0 : w.cell? ⟨g, o + m, none⟩ = some (.int .u64 (D B64 W m : Int)) := by have := hlies.cell (i := o + m) (by omega); rw [hwin m (by omega)] at this; exact this
  have hy1 : w.cell? ⟨h, p + m + 1, none⟩ = some (.int .u64 (D B64 Y (m + 1) : Int)) := hcy (m + 1) (by omega)
  have hy0 : w.cell? ⟨h, p + m, none⟩ = some (.int .u64 (D B64 Y m : Int)) := hcy m (by omega)
  have hgs := fun V (hV : Drew w V) (L M : Nat) (hL : L = 3) (hM : M = 2) => guess_any g (o + m) (c - m) h (p + m) (d - m) L M _ _ _ _ _ V hL hM ((hV.cell _).trans hw2) ((hV.cell _).trans hw1) ((hV.cell _).trans hw0) ((hV.cell _).trans hy1) ((hV.cell _).trans hy0) (D64_lt _ _) (D64_lt _ _) (D64_lt _ _) (D64_lt _ _) gv
  rw [hq] at hgs
  have hnt := split1 (m := m + 2) hW
  have hRl := Nat.mod_lt W (show 0 < B64 ^ (m + 2) from Nat.pow_pos B64_pos)
  have hRd : ∀ i, i < m + 2 → f (o + i) = D B64 (W % B64 ^ (m + 2)) i := fun i hi => by
    rw [hwin i (by omega)]
    have h1 := Nat.div_add_mod W (B64 ^ (m + 2))
    have h2 := D_low (P := W % B64 ^ (m + 2)) (Z := W / B64 ^ (m + 2)) B64_pos hi
    rw [← h2]
    congr 1
    omega
  obtain ⟨N1, hN1, hN1d, hN1e⟩ := sub_left (q := q) hRl hY
  obtain ⟨cc, hcc⟩ : ∃ cc, car B64 (cpl (W % B64 ^ (m + 2)) (m + 2)) q Y (m + 2) = cc := ⟨_, rfl⟩
  rw [hcc] at hN1e
  have hccb : cc ≤ 18446744073709551615 := by
    rw [← hcc]
    have := car_lt B64_pos (x := q) g4 (cpl (W % B64 ^ (m + 2)) (m + 2)) Y (m + 2)
    rw [B64_eq] at g4
    omega
  obtain ⟨t, ht⟩ : ∃ t, D B64 W (m + 2) = t := ⟨_, rfl⟩
  rw [ht] at hnt hw2
  have htb : t < 18446744073709551616 := by rw [← ht]; exact D64_lt _ _
  have hmain : W + cc * B64 ^ (m + 2) = N1 + q * Y + t * B64 ^ (m + 2) := by omega
  have hY0 : 0 < Y := by
    rcases Nat.eq_zero_or_pos Y with h0 | h0
    · subst h0; rw [Nat.zero_mul] at hWY; omega
    · exact h0
  have hRW : W % Y < B64 ^ (m + 2) := Nat.lt_of_lt_of_le (Nat.mod_lt _ hY0) (Nat.le_of_lt hY)
  have hsm := fun V (hV : Drew w V) (L : Nat) (hL : L = m + 2) => subtractMultiple_any g o N L c f (some ⟨h, p, none⟩) (m + 2) d (W % B64 ^ (m + 2)) Y q V (by omega) hL (by omega) (by omega) (hlies.drew hV) hRd hRl (hr.drewD hV) (fun _ a ha => by injection ha with ha; subst ha; exact hhg) (by rw [← B64_eq]; exact g4)
  rw [hcc] at hsm
  have hqs : W / Y = q ∨ W / Y + 1 = q := by omega
  have HGS := Lib.hid hgs
  have HSM := Lib.hid hsm
  have HN1 := Lib.hid hN1
  have HN1D := Lib.hid hN1d
  have HMAIN := Lib.hid hmain
  have HWIN := Lib.hid hwin
  have HT := Lib.hid ht
  have HRW := Lib.hid hRW
  have HCY := Lib.hid hcy
  have HY := Lib.hid hY
  have hqb : q ≤ 18446744073709551615 := by rw [B64_eq] at g4; omega
  have i1 : (0 : Int) ≤ (m : Int) := by omega
  have i2 : ¬ (c = m) := by omega
  have i3 : ¬ (d = m) := by omega
  clear hgs hsm hN1 hN1d hmain hwin ht hRW hcy hr hw1 hw0 hy1 hy0 hnt hRl hRd hN1e hcc hq g1 g2 g3 g4 hW hYt hWY gv hlies hY
  rcases hqs with hqe | hqe
  · have hdr := digit_right (Nat.le_of_lt HY.out) hqe hY0 HN1.out HMAIN.out
    obtain ⟨rfl, hNW⟩ := hdr
    have HNW := Lib.hid hNW
    have HQE := Lib.hid hqe
    clear hNW hqe
    go_enter Tryz.func137, Tryz.ntmps137
    go_wp2_with fail
    have sa : IntKind.i64.wrap ((m : Int) + 2 - 2) = (m : Int) := by rw [IntWalk.i64_in _ (by omega)]; omega
    have sb : (m : Int) ≤ (m : Int) + 2 := by omega
    have sc : (m : Int) ≤ (m : Int) + 2 + 1 := by omega
    go_quiet ((go_at_call 155; first | exact quietD (HGS.out _ ⟨_, rfl⟩ _ _ (by omega) (by omega)) | exact quietD2 (HGS.out _ ⟨_, rfl⟩ _ _ (by omega) (by omega))))
    go_wp2_with fail
    refine (HSM.out _ ⟨_, rfl⟩ _ rfl).mono ?_
    rintro e w3 ⟨rfl, hl3, hg3⟩
    have hc3 := hl3.cell (i := o + (m + 2)) (by omega)
    have hf3 := hl3.frozen (o + (m + 2))
    have hv3 : sbF f o (cpl (W % B64 ^ (m + 2)) (m + 2)) q Y (m + 2) (o + (m + 2)) = cc := by
      unfold sbF
      rw [if_neg (by omega), HWIN.out (m + 2) (by omega)]
      exact HT.out
    rw [hv3] at hc3
    have hg3' : w.grownBy w3 (some g) := ⟨hg3.os, hg3.tape, hg3.output, hg3.size, hg3.block⟩
    have HL3 := Lib.hid hl3
    have HG3 := Lib.hid hg3'
    clear hl3 hg3 hv3 hg3'
    have hgt : ¬ cc < cc := Nat.lt_irrefl _
    go_wp2
    go_ret
    refine ⟨by rw [HQE.out]; rfl, (HL3.out.set (o + (m + 2)) 0).congr fun j hj => ?_, grown_set HG3.out _ _⟩
    unfold wnF
    by_cases e1 : j = o + (m + 2)
    · rw [if_pos e1, if_pos (by omega), e1, Nat.add_sub_cancel_left]
      exact (D_zero_of B64_pos HRW.out (Nat.le_refl _)).symm
    · rw [if_neg e1]
      unfold sbF
      by_cases e2 : o ≤ j ∧ j < o + (m + 2)
      · rw [if_pos e2, if_pos (by omega), HN1D.out _ (by omega), HNW.out]
      · rw [if_neg e2, if_neg (by omega)]
  · have hdr := digit_wrong (Nat.le_of_lt HY.out) hqe hY0 HN1.out HMAIN.out
    obtain ⟨rfl, hNW⟩ := hdr
    have HNW := Lib.hid hNW
    have HQE := Lib.hid hqe
    clear hNW hqe
    go_enter Tryz.func137, Tryz.ntmps137
    go_wp2_with fail
    have sa : IntKind.i64.wrap ((m : Int) + 2 - 2) = (m : Int) := by rw [IntWalk.i64_in _ (by omega)]; omega
    have sb : (m : Int) ≤ (m : Int) + 2 := by omega
    have sc : (m : Int) ≤ (m : Int) + 2 + 1 := by omega
    go_quiet ((go_at_call 155; first | exact quietD (HGS.out _ ⟨_, rfl⟩ _ _ (by omega) (by omega)) | exact quietD2 (HGS.out _ ⟨_, rfl⟩ _ _ (by omega) (by omega))))
    go_wp2_with fail
    refine (HSM.out _ ⟨_, rfl⟩ _ rfl).mono ?_
    rintro e w3 ⟨rfl, hl3, hg3⟩
    have hc3 := hl3.cell (i := o + (m + 2)) (by omega)
    have hf3 := hl3.frozen (o + (m + 2))
    have hv3 : sbF f o (cpl (W % B64 ^ (m + 2)) (m + 2)) q Y (m + 2) (o + (m + 2)) = t := by
      unfold sbF
      rw [if_neg (by omega), HWIN.out (m + 2) (by omega)]
      exact HT.out
    rw [hv3] at hc3
    have hg3' : w.grownBy w3 (some g) := ⟨hg3.os, hg3.tape, hg3.output, hg3.size, hg3.block⟩
    have HL3 := Lib.hid hl3
    have HG3 := Lib.hid hg3'
    clear hl3 hg3 hv3 hg3'
    have hgt : t < t + 1 := Nat.lt_succ_self _
    have hw8 : IntKind.u64.wrap ((t : Int) - ((t : Int) + 1)) = 18446744073709551615 := by rw [IntKind.wrap_u64]; omega
    obtain ⟨qn, hqn⟩ : ∃ qn, W / Y = qn := ⟨_, rfl⟩
    have hwq : IntKind.u64.wrap ((q : Int) - 1) = (qn : Int) := wrap_u _ _ (by have := HQE.out; omega)
    have hf4 : Lies (w3.setCell ⟨g, o + (m + 2), none⟩ (.int .u64 18446744073709551615)) g N _ := HL3.out.set (o + (m + 2)) 18446744073709551615
    have hab := fun V (hV : Drew (w3.setCell ⟨g, o + (m + 2), none⟩ (.int .u64 18446744073709551615)) V) (L : Nat) (hL : L = m + 2) => add_back g o N L c _ (some ⟨h, p, none⟩) (m + 2) d N1 Y (W % Y) V (by omega) hL (by omega) (by omega) (hf4.drew hV) (fun i hi => by show (if o + i = o + (m + 2) then _ else _) = _; rw [if_neg (by omega)]; unfold sbF; rw [if_pos (by omega), Nat.add_sub_cancel_left]; exact HN1D.out i hi) (Rd.drewD (fun _ => ⟨h, p, rfl, by have := HG3.out.size; show h < _; simp [World.setCell]; omega, fun i hi => by rw [World.cell?_setCell_other _ _ _ _ (by intro e; injection e with e1; exact hhg e1.symm)]; exact (World.cell?_of_block (w := w) (a := ⟨h, p + i, none⟩) (HG3.out.block h hh (fun e => hhg (by injection e)))).trans (HCY.out i hi)⟩) hV) (fun _ a ha => by injection ha with ha; subst ha; exact hhg) HN1.out HY.out HRW.out HNW.out
    have HAB := Lib.hid hab
    have HF4 := Lib.hid hf4
    have HQN := Lib.hid hqn
    clear hab hf4 hqn
    go_wp2_with fail
    have h18 : IntKind.u64.wrap (18446744073709551615 + 1) = 0 := by decide
    have hcW : (w3.setCell ⟨g, o + (m + 2), none⟩ (.int .u64 18446744073709551615)).cell? ⟨g, o + (m + 2), none⟩ = some (.int .u64 18446744073709551615) := by simp [go_sem, hc3]
    have k1 : (0 : Int) ≤ (m : Int) + 2 := by omega
    have k2 : (m : Int) + 2 < (m : Int) + 3 := by omega
    have k3 : ((m : Int) + 2).toNat = m + 2 := by omega
    have k4 : (m : Int) + 2 ≤ (c : Int) := by omega
    have k5 : (m : Int) + 2 < ((m + 3 : Nat) : Int) := by omega
    have k6 : (m : Int) + 2 < (m : Int) + 2 + 1 := by omega
    go_region_law (go_simp; go_at_call 134; refine (HAB.out _ ?_ _ ?_).mono ?_; (exact Drew.one _); (rfl); rintro e w6 ⟨rfl, hl6, hg6⟩; have hc6 := hl6.cell (i := o + (m + 2)) (by omega); have hf6 := hl6.frozen (o + (m + 2)))
    all_goals
      go_wp2
      go_ret
      refine ⟨by rw [HQN.out]; rfl, (hl6.set (o + (m + 2)) 0).congr fun j hj => ?_, grown_set (grown_none (grown_drew (grown_set HG3.out _ _) (Drew.one _)) hg6 (.inr (.inl rfl))) _ _⟩
      unfold wnF
      by_cases e1 : j = o + (m + 2)
      · rw [if_pos e1, if_pos (by omega), e1, Nat.add_sub_cancel_left]
        exact (D_zero_of B64_pos HRW.out (Nat.le_refl _)).symm
      · rw [if_neg e1]
        by_cases e2 : o ≤ j ∧ j < o + (m + 2)
        · rw [if_pos e2, if_pos (by omega)]
        · first
          | (rw [if_neg e2, if_neg e1]; unfold sbF; rw [if_neg e2, if_neg (by omega)])
          | (rw [if_neg e2]; unfold sbF; rw [if_neg e2, if_neg (by omega)])
end Go.Proofs.YtahehlajpaoiiaaGreatDoor


/-
  The program's shifts of digits.
-/
namespace Go.Proofs.YtahehlajpaoiiaaGreatDoor
open Go.RowKit
attribute [local go_sem ↓] Go.wp_at_zero Go.wp_at_succ

theorem B64_two (p : Nat) (hp : p ≤ 64) : B64 = 2 ^ p * 2 ^ (64 - p) := by
  rw [← Nat.pow_add, show p + (64 - p) = 64 by omega]; rfl

theorem or_sum {h x p : Nat} (hh : h < 2 ^ p) (hp : p ≤ 64) : h ||| x * 2 ^ p % B64 = h + x * 2 ^ p % B64 ∧ h + x * 2 ^ p % B64 < B64 := by
  have e := B64_two p hp
  have e2 : x * 2 ^ p % B64 = 2 ^ p * (x % 2 ^ (64 - p)) := by rw [e, Nat.mul_comm x, Nat.mul_mod_mul_left]
  have hl := Nat.mod_lt x (show 0 < 2 ^ (64 - p) from Nat.pow_pos (by omega))
  have hor : 2 ^ p * (x % 2 ^ (64 - p)) ||| h = 2 ^ p * (x % 2 ^ (64 - p)) + h := (Nat.two_pow_add_eq_or_of_lt hh _).symm
  have hb : 2 ^ p * (x % 2 ^ (64 - p) + 1) ≤ 2 ^ p * 2 ^ (64 - p) := Nat.mul_le_mul_left _ hl
  rw [Nat.mul_add, Nat.mul_one, ← e] at hb
  rw [e2, Nat.or_comm, hor]
  omega

theorem shr_mul {x p : Nat} (hp : p ≤ 64) : x / 2 ^ (64 - p) = x * 2 ^ p / B64 := by
  rw [B64_two p hp, Nat.mul_comm x, Nat.mul_div_mul_left _ _ (Nat.pow_pos (by omega))]

/-- The digits that are shifted so far, a digit further. -/
theorem shl_step {X p W k : Nat} (hp : p < 64) (j : Nat) :
    (if j = k + W + 1 then D B64 X k / 2 ^ (64 - p) else if j = k + W then D B64 (X % B64 ^ k * (2 ^ p * B64 ^ W)) (k + W) ||| D B64 X k * 2 ^ p % B64 else D B64 (X % B64 ^ k * (2 ^ p * B64 ^ W)) j) = D B64 (X % B64 ^ (k + 1) * (2 ^ p * B64 ^ W)) j := by
  have hP : 0 < B64 ^ (k + W) := Nat.pow_pos B64_pos
  have hx := D64_lt X k
  have hU : X % B64 ^ (k + 1) * (2 ^ p * B64 ^ W) = X % B64 ^ k * (2 ^ p * B64 ^ W) + B64 ^ (k + W) * (D B64 X k * 2 ^ p) := by
    rw [mod_succ, Nat.add_mul, Nat.pow_add]
    congr 1
    generalize D B64 X k = x
    generalize B64 ^ k = a
    generalize B64 ^ W = c
    generalize 2 ^ p = t
    ac_rfl
  have hUk : X % B64 ^ k * (2 ^ p * B64 ^ W) < B64 ^ (k + W) * 2 ^ p := by
    have h1 := Nat.mod_lt X (Nat.pow_pos (n := k) B64_pos)
    have h2 := Nat.mul_lt_mul_of_pos_right h1 (show 0 < 2 ^ p * B64 ^ W from Nat.mul_pos (Nat.pow_pos (by omega)) (Nat.pow_pos B64_pos))
    rw [Nat.pow_add]
    have e : B64 ^ k * (2 ^ p * B64 ^ W) = B64 ^ k * B64 ^ W * 2 ^ p := by rw [Nat.mul_comm (2 ^ p), Nat.mul_assoc]
    omega
  generalize D B64 X k = x at *
  generalize X % B64 ^ (k + 1) * (2 ^ p * B64 ^ W) = U' at *
  generalize X % B64 ^ k * (2 ^ p * B64 ^ W) = U at *
  have hh : U / B64 ^ (k + W) < 2 ^ p := Nat.div_lt_of_lt_mul hUk
  have hp2 : 2 ^ p < B64 := by
    have h1 : 2 ^ p ≤ 2 ^ 63 := Nat.pow_le_pow_right (by omega) (by omega)
    have h2 : B64 = 18446744073709551616 := rfl
    omega
  have hdk : D B64 (U) (k + W) = U / B64 ^ (k + W) := by
    unfold D; exact Nat.mod_eq_of_lt (by omega)
  obtain ⟨or1, or2⟩ := or_sum (x := x) hh (by omega)
  have hT : U' / B64 ^ (k + W) = B64 * (x * 2 ^ p / B64) + (U / B64 ^ (k + W) + x * 2 ^ p % B64) := by
    rw [hU, Nat.add_mul_div_left _ _ hP]
    have := Nat.div_add_mod (x * 2 ^ p) B64
    omega
  have hhi : x * 2 ^ p / B64 < B64 := by
    apply Nat.div_lt_of_lt_mul
    exact Nat.mul_lt_mul'' (by rw [B64_eq]; exact hx) hp2
  by_cases e : j = k + W + 1
  · rw [if_pos e, e, D_high (P := U') (k := k + W) (by omega), hT, shr_mul (by omega), show k + W + 1 - (k + W) = 1 by omega]
    unfold D
    rw [Nat.pow_one, Nat.mul_add_div B64_pos, Nat.div_eq_of_lt or2, Nat.add_zero]
    exact (Nat.mod_eq_of_lt hhi).symm
  · rw [if_neg e]
    by_cases e2 : j = k + W
    · rw [if_pos e2, e2, hdk, or1, D_high (P := U') (k := k + W) (by omega), hT, Nat.sub_self]
      unfold D
      rw [Nat.pow_zero, Nat.div_one, Nat.mul_add_mod, Nat.mod_eq_of_lt or2]
    · rw [if_neg e2]
      by_cases e3 : j < k + W
      · rw [hU, D_low B64_pos e3]
      · have hz1 : D B64 (U) j = 0 := by
          refine D_zero_of B64_pos (n := k + W + 1) ?_ (by omega)
          rw [Nat.pow_succ]
          exact Nat.lt_trans hUk (Nat.mul_lt_mul_of_pos_left hp2 hP)
        rw [hz1]
        symm
        rw [D_high (P := U') (k := k + W) (by omega), hT]
        refine D_zero_of B64_pos (n := 2) ?_ (by omega)
        have : B64 * (x * 2 ^ p / B64 + 1) ≤ B64 * B64 := Nat.mul_le_mul_left _ hhi
        rw [Nat.mul_add, Nat.mul_one] at this
        rw [Nat.pow_two]
        omega

/-- A call that hands back n digits in a new block. -/
def RetNew (w : World) (n V : Nat) (e : Ending) (w' : World) : Prop := ∃ g, e = .returned (.slice (some ⟨g, 0, none⟩) n n) ∧ Lies w' g n (D B64 V) ∧ Below w.heap.size w w' ∧ w.heap.size ≤ g

set_option maxHeartbeats 2000000 in
set_option maxRecDepth 100000 in
theorem shiftLeft_any (A : Option Addr) (n c X s W p : Nat) (w : World) (hn : n ≤ 100000000) (hW : W ≤ 100000000) (hs : s = 64 * W + p) (hp : p < 64) (hx : Ng w A n c X) :
    Calls Tryz.prog 136 #[.slice A n c, .int .i64 (s : Int)] w (RetNew w (n + W + 1) (X * (2 ^ p * B64 ^ W))) := by
  have hmk := fun V => run_make_row' (P := Tryz.prog) 114 106 (.int .u64 0) 8 Tryz.underlying114 natInfo rfl .i64 .i64 (n + W + 1) (by omega) (by omega) V
  have ec : ((n + W + 1 : Nat) : Int) = (n : Int) + (W : Int) + 1 := by omega
  rw [ec] at hmk
  have w1 : (s : Int) / 64 = (W : Int) := by omega
  have w2 : (s : Int) % 64 = (p : Int) := by omega
  have hs0 : (0 : Int) ≤ (s : Int) := by omega
  have hsb : (s : Int) ≤ 7000000000 := by omega
  have HX := Lib.hid hx
  clear hx ec hs
  go_enter Tryz.func136, Tryz.ntmps136
  go_wp2_with fail
  rw [w2]
  clear w1 w2
  go_loopw [22] (fun iv wr => ∃ k : Nat, k ≤ n ∧ iv = .int .i64 k ∧ Lies wr w.heap.size (n + W + 1) (D B64 (X % B64 ^ k * (2 ^ p * B64 ^ W))) ∧ Below w.heap.size w wr) (fun iv _ => n - (intOf iv).toNat)
  case atStart =>
    refine ⟨0, Nat.zero_le _, rfl, (Lies.of_made w (n + W + 1)).congr fun i hi => ?_, (Below.refl _ _).alloc (Nat.le_refl _) _⟩
    simp [D, Nat.mod_one]
  case round =>
    obtain ⟨k, hk, rfl, hlies, hbl⟩ := hrel
    by_cases hlt : k < n
    · obtain ⟨gx, ox, hA, hgx, hcx⟩ := HX.out.rd (by omega)
      subst hA
      have hxk := (hbl.cell (p := ⟨gx, ox + k, none⟩) hgx).trans (hcx k hlt)
      have hcell := hlies.cell (i := k + W) (by omega)
      have hfro := hlies.frozen (k + W)
      have hcell2 := hlies.cell (i := k + W + 1) (by omega)
      have hfro2 := hlies.frozen (k + W + 1)
      have hdx := D64_lt X k
      have hdu := D64_lt (X % B64 ^ k * (2 ^ p * B64 ^ W)) (k + W)
      have hst := fun j => shl_step (X := X) (p := p) (W := W) (k := k) hp j
      have HST := Lib.hid hst
      have HLI := Lib.hid hlies
      have HBL := Lib.hid hbl
      obtain ⟨u, hu⟩ : ∃ u, D B64 (X % B64 ^ k * (2 ^ p * B64 ^ W)) (k + W) = u := ⟨_, rfl⟩
      obtain ⟨x, hxx⟩ : ∃ x, D B64 X k = x := ⟨_, rfl⟩
      rw [hu] at hcell hdu
      rw [hxx] at hxk hdx
      have hsl : x * 2 ^ p % B64 < 18446744073709551616 := by have := Nat.mod_lt (x * 2 ^ p) B64_pos; rw [B64_eq] at this ⊢; exact this
      obtain ⟨S, hS⟩ : ∃ S, x * 2 ^ p % B64 = S := ⟨_, rfl⟩
      obtain ⟨R, hR⟩ : ∃ R, x / 2 ^ (64 - p) = R := ⟨_, rfl⟩
      have v1 : IntKind.u64.wrap ((x : Int) * 2 ^ p) = (S : Int) := by rw [shl_word, ← B64_eq, hS]
      rw [hS] at hsl
      have v2 : bits .or .u64 (u : Int) (S : Int) = ((u ||| S : Nat) : Int) := bits_or_u64 u S hdu hsl
      have v3 : (x : Int) / 2 ^ (64 - p) = (R : Int) := by rw [shr_word, hR]
      obtain ⟨O, hO⟩ : ∃ O, u ||| S = O := ⟨_, rfl⟩
      rw [hO] at v2
      have HFIN := Lib.hid (show D B64 (X % B64 ^ k * (2 ^ p * B64 ^ W)) (k + W) ||| D B64 X k * 2 ^ p % B64 = O ∧ D B64 X k / 2 ^ (64 - p) = R from ⟨by rw [hu, hxx, hS, hO], by rw [hxx, hR]⟩)
      have i1 : IntKind.i64.wrap ((k : Int) + (W : Int)) = (k : Int) + (W : Int) := IntWalk.i64_in _ (by omega)
      have i2 : (0 : Int) ≤ (k : Int) + (W : Int) := by omega
      have i3 : (k : Int) + (W : Int) < (n : Int) + (W : Int) + 1 := by omega
      have i4 : ((k : Int) + (W : Int)).toNat = k + W := by omega
      have i5 : (k : Int) < (n : Int) := by omega
      have i6 : (0 : Int) ≤ (k : Int) := by omega
      have i7 : ((k : Int) + (W : Int) + 1).toNat = k + W + 1 := by omega
      have i8 : IntKind.i64.wrap ((k : Int) + (W : Int) + 1) = (k : Int) + (W : Int) + 1 := IntWalk.i64_in _ (by omega)
      clear hcx hst hlies hbl hu hxx hS hR hO
      go_wp2_with fail
      go_region_law (fail)
      all_goals
        have hcellb : ((wr.drew).setCell ⟨w.heap.size, k + W, none⟩ (.int .u64 (O : Int))).cell? ⟨w.heap.size, k + W + 1, none⟩ = some (.int .u64 (D B64 (X % B64 ^ k * (2 ^ p * B64 ^ W)) (k + W + 1) : Int)) := (Lies.set (w := wr.drew) HLI.out (k + W) O).cell (by omega) |>.trans (by simp)
        have hfrob : ((wr.drew).setCell ⟨w.heap.size, k + W, none⟩ (.int .u64 (O : Int))).frozen? ⟨w.heap.size, k + W + 1, none⟩ = false := (Lies.set (w := wr.drew) HLI.out (k + W) O).frozen _
        have hgne : ¬ (gx = w.heap.size) := by omega
        have hgne2 : ¬ (w.heap.size = gx) := by omega
        go_wp2
        go_roundw
        case rel =>
          refine ⟨k + 1, by omega, by go_num, ((Lies.set (w := wr.drew) HLI.out (k + W) O).set (k + W + 1) R).congr fun j hj => ?_, ((HBL.out.drew).setCell (Nat.le_refl _) _).setCell (Nat.le_refl _) _⟩
          rw [← HST.out j, HFIN.out.1, HFIN.out.2]
        case measure => simp [intOf] <;> omega
    · obtain rfl : k = n := by omega
      have hXm : X % B64 ^ k = X := Nat.mod_eq_of_lt HX.out.lt
      rw [hXm] at hlies
      have HLI := Lib.hid hlies
      clear hXm hlies
      go_wp2
      go_ret
      exact ⟨_, by rfl, HLI.out, hbl, Nat.le_refl _⟩

/-! The shift to the right. -/

theorem shr_step {X p W k : Nat} (hp : p < 64) : D B64 (X / (2 ^ p * B64 ^ W)) k = D B64 X (W + k) / 2 ^ p ||| D B64 X (W + k + 1) * 2 ^ (64 - p) % B64 := by
  have e1 : X / (2 ^ p * B64 ^ W) / B64 ^ k = X / B64 ^ (W + k) / 2 ^ p := by
    rw [Nat.div_div_eq_div_mul, Nat.div_div_eq_div_mul, Nat.pow_add]
    congr 1
    ac_rfl
  have h1 := div_D B64 X (W + k)
  have h2 := div_D B64 X (W + k + 1)
  have l1 := D64_lt X (W + k)
  unfold D at h1 h2 l1 ⊢
  rw [e1]
  generalize X / B64 ^ (W + k) % B64 = x0 at *
  generalize X / B64 ^ (W + k + 1) % B64 = x1 at *
  generalize X / B64 ^ (W + k + 1 + 1) = Z at *
  rw [h1, h2]
  have hp0 : 0 < 2 ^ p := Nat.pow_pos (by omega)
  have eb := B64_two p (by omega)
  have hl : x0 / 2 ^ p < 2 ^ (64 - p) := Nat.div_lt_of_lt_mul (by rw [← eb, B64_eq]; exact l1)
  have hx1 : x1 * 2 ^ (64 - p) % B64 = 2 ^ (64 - p) * (x1 % 2 ^ p) := by rw [eb, Nat.mul_comm x1, Nat.mul_comm (2 ^ p), Nat.mul_mod_mul_left]
  have hor : 2 ^ (64 - p) * (x1 % 2 ^ p) ||| x0 / 2 ^ p = 2 ^ (64 - p) * (x1 % 2 ^ p) + x0 / 2 ^ p := (Nat.two_pow_add_eq_or_of_lt hl _).symm
  rw [hx1, Nat.or_comm, hor]
  have hsum : (B64 * (B64 * Z + x1) + x0) / 2 ^ p = 2 ^ (64 - p) * (B64 * Z + x1) + x0 / 2 ^ p := by
    have : B64 * (B64 * Z + x1) = 2 ^ p * (2 ^ (64 - p) * (B64 * Z + x1)) := by
      conv => lhs; rw [eb]
      rw [Nat.mul_assoc, ← eb]
    rw [this, Nat.mul_add_div hp0]
  rw [hsum]
  have hx1d := Nat.div_add_mod x1 (2 ^ p)
  have hq : 2 ^ (64 - p) * (B64 * Z + x1) + x0 / 2 ^ p = B64 * (2 ^ (64 - p) * Z + x1 / 2 ^ p) + (2 ^ (64 - p) * (x1 % 2 ^ p) + x0 / 2 ^ p) := by
    have : 2 ^ (64 - p) * x1 = B64 * (x1 / 2 ^ p) + 2 ^ (64 - p) * (x1 % 2 ^ p) := by
      conv => lhs; rw [← hx1d]
      rw [Nat.mul_add, eb, Nat.mul_comm (2 ^ p) (2 ^ (64 - p)), Nat.mul_assoc]
    rw [Nat.mul_add, Nat.mul_add, this, Nat.mul_left_comm]
    omega
  have hlt : 2 ^ (64 - p) * (x1 % 2 ^ p) + x0 / 2 ^ p < B64 := by
    have hm := Nat.mod_lt x1 hp0
    have : 2 ^ (64 - p) * (x1 % 2 ^ p + 1) ≤ 2 ^ (64 - p) * 2 ^ p := Nat.mul_le_mul_left _ hm
    rw [Nat.mul_add, Nat.mul_one, Nat.mul_comm (2 ^ (64 - p)) (2 ^ p), ← eb] at this
    omega
  rw [hq, Nat.mul_add_mod, Nat.mod_eq_of_lt hlt]
end Go.Proofs.YtahehlajpaoiiaaGreatDoor


/-
  The second reference's quotients: what the digits are.
-/
namespace Go.Proofs.YtahehlajpaoiiaaGreatDoor
open Go.RowKit

/-- A digit more of a quotient. -/
theorem long_step (X : Nat) {Y k : Nat} (hY : 0 < Y) :
    X / 256 ^ k % Y = (256 * (X / 256 ^ (k + 1) % Y) + D 256 X k) % Y ∧ D 256 (X / Y) k = (256 * (X / 256 ^ (k + 1) % Y) + D 256 X k) / Y ∧ 256 * (X / 256 ^ (k + 1) % Y) + D 256 X k < 256 * Y := by
  have h1 := div_D 256 X k
  have h2 := Nat.div_add_mod (X / 256 ^ (k + 1)) Y
  have h3 := Nat.mod_lt (X / 256 ^ (k + 1)) hY
  have h4 := D_lt (b := 256) (by omega) X k
  have e0 : D 256 (X / Y) k = X / 256 ^ k / Y % 256 := by
    unfold D
    rw [Nat.div_div_eq_div_mul, Nat.div_div_eq_div_mul, Nat.mul_comm Y]
  generalize X / 256 ^ (k + 1) / Y = q at *
  generalize X / 256 ^ (k + 1) % Y = r at *
  generalize D 256 X k = e at *
  have e1 : X / 256 ^ k = Y * (256 * q) + (256 * r + e) := by
    rw [h1, ← h2, Nat.mul_add, Nat.mul_left_comm]
    omega
  have h5 : (256 * r + e) / Y < 256 := Nat.div_lt_of_lt_mul (by rw [Nat.mul_comm]; omega)
  refine ⟨?_, ?_, by omega⟩
  · rw [e1, Nat.mul_add_mod]
  · rw [e0, e1, Nat.mul_add_div hY]
    generalize (256 * r + e) / Y = H at *
    clear e0 e1 h1 h2 h3
    omega

/-- A digit in front of a row of digits. -/
theorem D_front (R e : Nat) (he : e < 256) (j : Nat) : D 256 (256 * R + e) j = if j = 0 then e else D 256 R (j - 1) := by
  rcases j with _ | j
  · rw [if_pos rfl]
    unfold D
    rw [Nat.pow_zero, Nat.div_one]
    omega
  · rw [if_neg (by omega), Nat.add_sub_cancel]
    unfold D
    rw [Nat.pow_succ', ← Nat.div_div_eq_div_mul, show (256 * R + e) / 256 = R by omega]

theorem nums_front (R e n : Nat) (he : e < 256) : [Value.int .i64 (e : Int)] ++ nums .i64 (D 256 R) n = nums .i64 (D 256 (256 * R + e)) (n + 1) := by
  apply List.ext_getElem?
  intro i
  rcases i with _ | i
  · rw [nums_get _ _ _ _ (by omega), D_front R e he, if_pos rfl]; rfl
  · rw [List.cons_append, List.nil_append, List.getElem?_cons_succ]
    by_cases hi : i < n
    · rw [nums_get _ _ _ _ hi, nums_get _ _ _ _ (by omega), D_front R e he, if_neg (by omega), Nat.add_sub_cancel]
    · rw [List.getElem?_eq_none (by rw [nums_length]; omega), List.getElem?_eq_none (by rw [nums_length]; omega)]

theorem front_lt {R e n : Nat} (he : e < 256) (h : R < 256 ^ n) : 256 * R + e < 256 ^ (n + 1) := by
  rw [Nat.pow_succ]
  omega

/-- What is taken away t times. -/
theorem take_more {T Y t s : Nat} (h : s * Y ≤ T - t * Y) (ht : t * Y ≤ T) : (t + s) * Y ≤ T ∧ T - t * Y - s * Y = T - (t + s) * Y := by
  rw [Nat.add_mul]
  omega
theorem take_all {T Y t : Nat} (hY : 0 < Y) (ht : t * Y ≤ T) (h : T - t * Y < Y) : t = T / Y ∧ T - t * Y = T % Y := by
  have h1 : T / Y = t := by
    rw [show T = Y * t + (T - t * Y) by rw [Nat.mul_comm Y]; omega, Nat.mul_add_div hY, Nat.div_eq_of_lt h]; omega
  have h2 := Nat.div_add_mod T Y
  rw [h1, Nat.mul_comm] at h2
  exact ⟨h1.symm, by omega⟩
theorem take_le {T Y t : Nat} (hY : 0 < Y) : t * Y ≤ T ↔ t ≤ T / Y := (Nat.le_div_iff_mul_le hY).symm
theorem take_lt {T Y t : Nat} (hY : 0 < Y) (ht : t * Y ≤ T) : Y ≤ T - t * Y ↔ t < T / Y := by
  rw [show t < T / Y ↔ t + 1 ≤ T / Y from Iff.rfl, ← take_le hY, Nat.add_mul]
  omega
end Go.Proofs.YtahehlajpaoiiaaGreatDoor
