import Derived.Test.YtkaefmfophopoaaDoorGDivG
import Derived.Deep.RegionHeld3

/-
  The walk of a digit of the program's quotients.
-/
namespace Go.Proofs.YtkaefmfophopoaaDoor
open Go.RowKit
attribute [local go_sem ↓] Go.wp_at_zero Go.wp_at_succ

/-- The window's digits behind the call. -/
def wnF (f : Nat → Nat) (o n R j : Nat) : Nat := if o ≤ j ∧ j ≤ o + n then D B64 R (j - o) else f j

/-- A call that hands back a digit of a quotient, and leaves the remainder in the window. -/
def RetQd (w : World) (g N : Nat) (F : Nat → Nat) (q : Nat) (e : Ending) (w' : World) : Prop := e = .returned (.int .u64 (q : Int)) ∧ Lies w' g N F ∧ w.grownBy w' (some g)

theorem grown_drew {a w w' : World} {row : Option Nat} (h : a.grownBy w row) (hd : Drew w w') : a.grownBy w' row := by
  obtain ⟨q, rfl⟩ := hd
  exact ⟨h.os, h.tape, h.output, h.size, h.block⟩
theorem Lies.drew {w w' : World} {g n : Nat} {f : Nat → Nat} (h : Lies w g n f) (hd : Drew w w') : Lies w' g n f := by
  obtain ⟨q, rfl⟩ := hd
  exact h
theorem Rd.drewD {w w' : World} {K : IntKind} {A : Option Addr} {n : Nat} {f : Nat → Nat} (h : Rd w K A n f) (hd : Drew w w') : Rd w' K A n f := by
  obtain ⟨q, rfl⟩ := hd
  exact h

theorem Drew.one (w : World) : Drew w w.drew := ⟨1, rfl⟩

/-- The divisor added once: the carry is one, and what is left is the remainder. -/
theorem add_back (g o N n c : Nat) (f : Nat → Nat) (A : Option Addr) (m cx U X R : Nat) (w : World) (hN : o + m ≤ N) (hn : n = m) (hc : n ≤ c) (hm : m ≤ 1000000000) (hL : Lies w g N f) (hU : ∀ i, i < m → f (o + i) = D B64 U i)
    (hX : Rd w .u64 A m (D B64 X)) (hne : 0 < m → ∀ a, A = some a → a.block ≠ g) (hUl : U < B64 ^ m) (hXl : X < B64 ^ m) (hR : R < B64 ^ m) (he : U + X = R + B64 ^ m) :
    Calls Tryd.prog 58 #[.slice (some ⟨g, o, none⟩) n c, .slice A m cx, .int .u64 1] w (fun e w' => e = .returned (.int .u64 1) ∧ Lies w' g N (fun j => if o ≤ j ∧ j < o + m then D B64 R (j - o) else f j) ∧ w.grownBy w' (some g)) := by
  have h := addMultiple_any g o N n c f A m cx U X 1 w hN hn hc hm hL hU hX hne (by omega)
  have hp : 0 < B64 ^ m := Nat.pow_pos B64_pos
  have hcar : car B64 U 1 X m = 1 := by
    rw [car_end hUl hXl, Nat.one_mul, he, Nat.add_div_right _ hp, Nat.div_eq_of_lt hR]
  refine h.mono fun e w' ⟨h1, h2, h3⟩ => ⟨by rw [h1, hcar]; rfl, h2.congr fun j hj => ?_, h3⟩
  unfold amF
  subst hn
  by_cases e2 : o ≤ j ∧ j < o + n
  · rw [if_pos e2, if_pos e2, Nat.one_mul, he]
    have := D_low (P := R) (Z := 1) B64_pos (show j - o < n by omega)
    rw [Nat.mul_one] at this
    exact this
  · rw [if_neg e2, if_neg e2]

set_option maxHeartbeats 4000000 in
set_option maxRecDepth 100000 in
theorem quotientDigit_any (g o N m c : Nat) (f : Nat → Nat) (A : Option Addr) (d W Y L M : Nat) (w : World) (hL : L = m + 3) (hM : M = m + 2) (hm : m ≤ 100000000) (hN : o + m + 3 ≤ N) (hc : m + 3 ≤ c) (hd : m + 2 ≤ d) (hlies : Lies w g N f) (hwin : ∀ i, i < m + 3 → f (o + i) = D B64 W i) (hW : W < B64 ^ (m + 3))
    (hr : Rd w .u64 A (m + 2) (D B64 Y)) (hY : Y < B64 ^ (m + 2)) (hYt : B64 ^ (m + 2) ≤ 2 * Y) (hWY : W < Y * B64) (hne : ∀ a, A = some a → a.block ≠ g) :
    Calls Tryd.prog 76 #[.slice (some ⟨g, o, none⟩) L c, .slice A M d] w (RetQd w g N (wnF f o (m + 2) (W % Y)) (W / Y)) := by
  subst hL
  subst hM
  obtain ⟨gv, g1, g2, g3, g4⟩ := guess_ok hW hY hYt hWY
  obtain ⟨q, hq⟩ : ∃ q, guess (D B64 W (m + 2)) (D B64 W (m + 1)) (D B64 W m) (D B64 Y (m + 1)) (D B64 Y m) = q := ⟨_, rfl⟩
  rw [hq] at g1 g2 g4
  obtain ⟨h, p, hA, hh, hcy⟩ := hr (by omega)
  have hhg : h ≠ g := hne _ hA
  subst hA
  have hw2 : w.cell? ⟨g, o + m + 2, none⟩ = some (.int .u64 (D B64 W (m + 2) : Int)) := by have := hlies.cell (i := o + (m + 2)) (by omega); rw [hwin (m + 2) (by omega)] at this; exact this
  have hw1 : w.cell? ⟨g, o + m + 1, none⟩ = some (.int .u64 (D B64 W (m + 1) : Int)) := by have := hlies.cell (i := o + (m + 1)) (by omega); rw [hwin (m + 1) (by omega)] at this; exact this
  have hw0 : w.cell? ⟨g, o + m, none⟩ = some (.int .u64 (D B64 W m : Int)) := by have := hlies.cell (i := o + m) (by omega); rw [hwin m (by omega)] at this; exact this
  have hy1 : w.cell? ⟨h, p + m + 1, none⟩ = some (.int .u64 (D B64 Y (m + 1) : Int)) := hcy (m + 1) (by omega)
  have hy0 : w.cell? ⟨h, p + m, none⟩ = some (.int .u64 (D B64 Y m : Int)) := hcy m (by omega)
  have hgs := fun V (hV : Drew w V) (L M : Nat) (hL : L = 3) (hM : M = 2) => guess_any g (o + m) (c - m) h (p + m) (d - m) L M _ _ _ _ _ V hL hM ((hV.cell _).trans hw2) ((hV.cell _).trans hw1) ((hV.cell _).trans hw0) ((hV.cell _).trans hy1) ((hV.cell _).trans hy0) (D64_lt _ _) (D64_lt _ _) (D64_lt _ _) (D64_lt _ _) gv
  rw [hq] at hgs
  have hnt := split1 (m := m + 2) hW
  have hRl := Nat.mod_lt W (show 0 < B64 ^ (m + 2) from Nat.pow_pos B64_pos)
  have hRd : ∀ i, i < m + 2 → f (o + i) = D B64 (W % B64 ^ (m + 2)) i := fun i hi => by
    rw [hwin i (by omega)]
    have h1 := Nat.div_add_mod W (B64 ^ (m + 2))
    have h2 := D_low (P := W % B64 ^ (m + 2)) (Z := W / B64 ^ (m + 2)) B64_pos hi
    rw [← h2]
    congr 1
    omega
  obtain ⟨N1, hN1, hN1d, hN1e⟩ := sub_left (q := q) hRl hY
  obtain ⟨cc, hcc⟩ : ∃ cc, car B64 (cpl (W % B64 ^ (m + 2)) (m + 2)) q Y (m + 2) = cc := ⟨_, rfl⟩
  rw [hcc] at hN1e
  have hccb : cc ≤ 18446744073709551615 := by
    rw [← hcc]
    have := car_lt B64_pos (x := q) g4 (cpl (W % B64 ^ (m + 2)) (m + 2)) Y (m + 2)
    rw [B64_eq] at g4
    omega
  obtain ⟨t, ht⟩ : ∃ t, D B64 W (m + 2) = t := ⟨_, rfl⟩
  rw [ht] at hnt hw2
  have htb : t < 18446744073709551616 := by rw [← ht]; exact D64_lt _ _
  have hmain : W + cc * B64 ^ (m + 2) = N1 + q * Y + t * B64 ^ (m + 2) := by omega
  have hY0 : 0 < Y := by
    rcases Nat.eq_zero_or_pos Y with h0 | h0
    · subst h0; rw [Nat.zero_mul] at hWY; omega
    · exact h0
  have hRW : W % Y < B64 ^ (m + 2) := Nat.lt_of_lt_of_le (Nat.mod_lt _ hY0) (Nat.le_of_lt hY)
  have hsm := fun V (hV : Drew w V) (L : Nat) (hL : L = m + 2) => subtractMultiple_any g o N L c f (some ⟨h, p, none⟩) (m + 2) d (W % B64 ^ (m + 2)) Y q V (by omega) hL (by omega) (by omega) (hlies.drew hV) hRd hRl (hr.drewD hV) (fun _ a ha => by injection ha with ha; subst ha; exact hhg) (by rw [← B64_eq]; exact g4)
  rw [hcc] at hsm
  have hqs : W / Y = q ∨ W / Y + 1 = q := by omega
  have HGS := Lib.hid hgs
  have HSM := Lib.hid hsm
  have HN1 := Lib.hid hN1
  have HN1D := Lib.hid hN1d
  have HMAIN := Lib.hid hmain
  have HWIN := Lib.hid hwin
  have HT := Lib.hid ht
  have HRW := Lib.hid hRW
  have HCY := Lib.hid hcy
  have HY := Lib.hid hY
  have hqb : q ≤ 18446744073709551615 := by rw [B64_eq] at g4; omega
  have i1 : (0 : Int) ≤ (m : Int) := by omega
  have i2 : ¬ (c = m) := by omega
  have i3 : ¬ (d = m) := by omega
  clear hgs hsm hN1 hN1d hmain hwin ht hRW hcy hr hw1 hw0 hy1 hy0 hnt hRl hRd hN1e hcc hq g1 g2 g3 g4 hW hYt hWY gv hlies hY
  rcases hqs with hqe | hqe
  · have hdr := digit_right (Nat.le_of_lt HY.out) hqe hY0 HN1.out HMAIN.out
    obtain ⟨rfl, hNW⟩ := hdr
    have HNW := Lib.hid hNW
    have HQE := Lib.hid hqe
    clear hNW hqe
    go_enter Tryd.func76, Tryd.ntmps76
    go_wp2_with fail
    have sa : IntKind.i64.wrap ((m : Int) + 2 - 2) = (m : Int) := by rw [IntWalk.i64_in _ (by omega)]; omega
    have sb : (m : Int) ≤ (m : Int) + 2 := by omega
    have sc : (m : Int) ≤ (m : Int) + 2 + 1 := by omega
    go_quiet ((go_at_call 89; first | exact quietD (HGS.out _ ⟨_, rfl⟩ _ _ (by omega) (by omega)) | exact quietD2 (HGS.out _ ⟨_, rfl⟩ _ _ (by omega) (by omega))))
    go_wp2_with fail
    refine (HSM.out _ ⟨_, rfl⟩ _ rfl).mono ?_
    rintro e w3 ⟨rfl, hl3, hg3⟩
    have hc3 := hl3.cell (i := o + (m + 2)) (by omega)
    have hf3 := hl3.frozen (o + (m + 2))
    have hv3 : sbF f o (cpl (W % B64 ^ (m + 2)) (m + 2)) q Y (m + 2) (o + (m + 2)) = cc := by
      unfold sbF
      rw [if_neg (by omega), HWIN.out (m + 2) (by omega)]
      exact HT.out
    rw [hv3] at hc3
    have hg3' : w.grownBy w3 (some g) := ⟨hg3.os, hg3.tape, hg3.output, hg3.size, hg3.block⟩
    have HL3 := Lib.hid hl3
    have HG3 := Lib.hid hg3'
    clear hl3 hg3 hv3 hg3'
    have hgt : ¬ cc < cc := Nat.lt_irrefl _
    go_wp2
    go_ret
    refine ⟨by rw [HQE.out]; rfl, (HL3.out.set (o + (m + 2)) 0).congr fun j hj => ?_, grown_set HG3.out _ _⟩
    unfold wnF
    by_cases e1 : j = o + (m + 2)
    · rw [if_pos e1, if_pos (by omega), e1, Nat.add_sub_cancel_left]
      exact (D_zero_of B64_pos HRW.out (Nat.le_refl _)).symm
    · rw [if_neg e1]
      unfold sbF
      by_cases e2 : o ≤ j ∧ j < o + (m + 2)
      · rw [if_pos e2, if_pos (by omega), HN1D.out _ (by omega), HNW.out]
      · rw [if_neg e2, if_neg (by omega)]
  · have hdr := digit_wrong (Nat.le_of_lt HY.out) hqe hY0 HN1.out HMAIN.out
    obtain ⟨rfl, hNW⟩ := hdr
    have HNW := Lib.hid hNW
    have HQE := Lib.hid hqe
    clear hNW hqe
    go_enter Tryd.func76, Tryd.ntmps76
    go_wp2_with fail
    have sa : IntKind.i64.wrap ((m : Int) + 2 - 2) = (m : Int) := by rw [IntWalk.i64_in _ (by omega)]; omega
    have sb : (m : Int) ≤ (m : Int) + 2 := by omega
    have sc : (m : Int) ≤ (m : Int) + 2 + 1 := by omega
    go_quiet ((go_at_call 89; first | exact quietD (HGS.out _ ⟨_, rfl⟩ _ _ (by omega) (by omega)) | exact quietD2 (HGS.out _ ⟨_, rfl⟩ _ _ (by omega) (by omega))))
    go_wp2_with fail
    refine (HSM.out _ ⟨_, rfl⟩ _ rfl).mono ?_
    rintro e w3 ⟨rfl, hl3, hg3⟩
    have hc3 := hl3.cell (i := o + (m + 2)) (by omega)
    have hf3 := hl3.frozen (o + (m + 2))
    have hv3 : sbF f o (cpl (W % B64 ^ (m + 2)) (m + 2)) q Y (m + 2) (o + (m + 2)) = t := by
      unfold sbF
      rw [if_neg (by omega), HWIN.out (m + 2) (by omega)]
      exact HT.out
    rw [hv3] at hc3
    have hg3' : w.grownBy w3 (some g) := ⟨hg3.os, hg3.tape, hg3.output, hg3.size, hg3.block⟩
    have HL3 := Lib.hid hl3
    have HG3 := Lib.hid hg3'
    clear hl3 hg3 hv3 hg3'
    have hgt : t < t + 1 := Nat.lt_succ_self _
    have hw8 : IntKind.u64.wrap ((t : Int) - ((t : Int) + 1)) = 18446744073709551615 := by rw [IntKind.wrap_u64]; omega
    obtain ⟨qn, hqn⟩ : ∃ qn, W / Y = qn := ⟨_, rfl⟩
    have hwq : IntKind.u64.wrap ((q : Int) - 1) = (qn : Int) := wrap_u _ _ (by have := HQE.out; omega)
    have hf4 : Lies (w3.setCell ⟨g, o + (m + 2), none⟩ (.int .u64 18446744073709551615)) g N _ := HL3.out.set (o + (m + 2)) 18446744073709551615
    have hab := fun V (hV : Drew (w3.setCell ⟨g, o + (m + 2), none⟩ (.int .u64 18446744073709551615)) V) (L : Nat) (hL : L = m + 2) => add_back g o N L c _ (some ⟨h, p, none⟩) (m + 2) d N1 Y (W % Y) V (by omega) hL (by omega) (by omega) (hf4.drew hV) (fun i hi => by show (if o + i = o + (m + 2) then _ else _) = _; rw [if_neg (by omega)]; unfold sbF; rw [if_pos (by omega), Nat.add_sub_cancel_left]; exact HN1D.out i hi) (Rd.drewD (fun _ => ⟨h, p, rfl, by have := HG3.out.size; show h < _; simp [World.setCell]; omega, fun i hi => by rw [World.cell?_setCell_other _ _ _ _ (by intro e; injection e with e1; exact hhg e1.symm)]; exact (World.cell?_of_block (w := w) (a := ⟨h, p + i, none⟩) (HG3.out.block h hh (fun e => hhg (by injection e)))).trans (HCY.out i hi)⟩) hV) (fun _ a ha => by injection ha with ha; subst ha; exact hhg) HN1.out HY.out HRW.out HNW.out
    have HAB := Lib.hid hab
    have HF4 := Lib.hid hf4
    have HQN := Lib.hid hqn
    clear hab hf4 hqn
    go_wp2_with fail
    have h18 : IntKind.u64.wrap (18446744073709551615 + 1) = 0 := by decide
    have hcW : (w3.setCell ⟨g, o + (m + 2), none⟩ (.int .u64 18446744073709551615)).cell? ⟨g, o + (m + 2), none⟩ = some (.int .u64 18446744073709551615) := by simp [go_sem, hc3]
    have k1 : (0 : Int) ≤ (m : Int) + 2 := by omega
    have k2 : (m : Int) + 2 < (m : Int) + 3 := by omega
    have k3 : ((m : Int) + 2).toNat = m + 2 := by omega
    have k4 : (m : Int) + 2 ≤ (c : Int) := by omega
    have k5 : (m : Int) + 2 < ((m + 3 : Nat) : Int) := by omega
    have k6 : (m : Int) + 2 < (m : Int) + 2 + 1 := by omega
    go_region_law (go_simp; go_at_call 58; refine (HAB.out _ ?_ _ ?_).mono ?_; (exact Drew.one _); (rfl); rintro e w6 ⟨rfl, hl6, hg6⟩; have hc6 := hl6.cell (i := o + (m + 2)) (by omega); have hf6 := hl6.frozen (o + (m + 2)))
    all_goals
      go_wp2
      go_ret
      refine ⟨by rw [HQN.out]; rfl, (hl6.set (o + (m + 2)) 0).congr fun j hj => ?_, grown_set (grown_none (grown_drew (grown_set HG3.out _ _) (Drew.one _)) hg6 (.inr (.inl rfl))) _ _⟩
      unfold wnF
      by_cases e1 : j = o + (m + 2)
      · rw [if_pos e1, if_pos (by omega), e1, Nat.add_sub_cancel_left]
        exact (D_zero_of B64_pos HRW.out (Nat.le_refl _)).symm
      · rw [if_neg e1]
        by_cases e2 : o ≤ j ∧ j < o + (m + 2)
        · rw [if_pos e2, if_pos (by omega)]
        · first
          | (rw [if_neg e2, if_neg e1]; unfold sbF; rw [if_neg e2, if_neg (by omega)])
          | (rw [if_neg e2]; unfold sbF; rw [if_neg e2, if_neg (by omega)])
end Go.Proofs.YtkaefmfophopoaaDoor
