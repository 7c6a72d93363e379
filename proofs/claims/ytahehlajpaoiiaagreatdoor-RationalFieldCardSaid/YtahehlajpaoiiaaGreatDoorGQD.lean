import Derived.Test.YtahehlajpaoiiaaGreatDoorGDivE
import Derived.Test.YtahehlajpaoiiaaGreatDoorGQC
import Derived.Test.YtahehlajpaoiiaaGreatDoorGRefD

/-
  The program's guess of a digit of a quotient.
-/
namespace Go.Proofs.YtahehlajpaoiiaaGreatDoor
open Go.RowKit
attribute [local go_sem ↓] Go.wp_at_zero Go.wp_at_succ

theorem quietD {f : FuncId} {args : Array Value} {w : World} {n : Nat} {v : Value} (h : Calls Tryz.prog f args (w.drewN n) fun e w' => e = .returned v ∧ Drew (w.drewN n) w') :
    Calls Tryz.prog f args (w.drewN n) fun e w'' => e = .returned v ∧ ∃ m, w'' = w.drewN m := h.mono fun _ _ ⟨he, q, hm⟩ => ⟨he, n + q, by rw [hm, World.drewN_drewN]⟩
theorem quietD2 {f : FuncId} {args : Array Value} {w : World} {a n : Nat} {v : Value} (h : Calls Tryz.prog f args (w.drewN (a + n)) fun e w' => e = .returned v ∧ Drew (w.drewN (a + n)) w') :
    Calls Tryz.prog f args (w.drewN (a + n)) fun e w'' => e = .returned v ∧ ∃ m, w'' = w.drewN (a + m) := h.mono fun _ _ ⟨he, q, hm⟩ => ⟨he, n + q, by rw [hm, World.drewN_drewN, Nat.add_assoc]⟩

/-- A call that hands back a word, the world as it was but for draws. -/
def RetWd (w : World) (q : Nat) (e : Ending) (w' : World) : Prop := e = .returned (.int .u64 (q : Int)) ∧ Drew w w'

set_option maxHeartbeats 2000000 in
set_option maxRecDepth 100000 in
theorem guess_top (g o c h p d r2 v1 v0 : Nat) (w : World) (hr2 : w.cell? ⟨g, o + 2, none⟩ = some (.int .u64 (r2 : Int)))
    (hv1 : w.cell? ⟨h, p + 1, none⟩ = some (.int .u64 (v1 : Int))) (hv0 : w.cell? ⟨h, p, none⟩ = some (.int .u64 (v0 : Int))) (hge : v1 ≤ r2) :
    Calls Tryz.prog 155 #[.slice (some ⟨g, o, none⟩) 3 c, .slice (some ⟨h, p, none⟩) 2 d] w (RetWd w 18446744073709551615) := by
  have hged : decide ((v1 : Int) ≤ (r2 : Int)) = true := by simp; omega
  go_enter Tryz.func155, Tryz.ntmps155
  go_wp2_with fail
  go_quiet (fail)
  go_wp2
  go_ret
  exact ⟨rfl, _, rfl⟩

set_option maxHeartbeats 4000000 in
set_option maxRecDepth 100000 in
theorem guess_low (g o c h p d r2 r1 r0 v1 v0 : Nat) (w : World) (hr2 : w.cell? ⟨g, o + 2, none⟩ = some (.int .u64 (r2 : Int))) (hr1 : w.cell? ⟨g, o + 1, none⟩ = some (.int .u64 (r1 : Int))) (hr0 : w.cell? ⟨g, o, none⟩ = some (.int .u64 (r0 : Int)))
    (hv1 : w.cell? ⟨h, p + 1, none⟩ = some (.int .u64 (v1 : Int))) (hv0 : w.cell? ⟨h, p, none⟩ = some (.int .u64 (v0 : Int))) (hlt : r2 < v1)
    (l1 : r1 < 18446744073709551616) (l0 : r0 < 18446744073709551616) (lv1 : v1 < 18446744073709551616) (lv0 : v0 < 18446744073709551616) (hv : 9223372036854775808 ≤ v1) :
    Calls Tryz.prog 155 #[.slice (some ⟨g, o, none⟩) 3 c, .slice (some ⟨h, p, none⟩) 2 d] w (RetWd w (((r2 * B64 + r1) * B64 + r0) / (v1 * B64 + v0))) := by
  have hB := B64_eq
  have hged : decide ((v1 : Int) ≤ (r2 : Int)) = false := by simp; omega
  obtain ⟨u, hu⟩ : ∃ u, r2 * B64 + r1 = u := ⟨_, rfl⟩
  have huv : u < v1 * B64 := by
    have : (r2 + 1) * B64 ≤ v1 * B64 := Nat.mul_le_mul_right _ hlt
    rw [Nat.add_mul, Nat.one_mul] at this
    omega
  obtain ⟨g1, g2, g3⟩ := half_start (b := B64) (y1 := v1) (y0 := v0) (u := u) (d := r0) (by omega) (by omega) (by omega) (by omega) (by omega) (by omega)
  have hY0 : 0 < v1 * B64 + v0 := by omega
  rw [hu]
  obtain ⟨q, hq⟩ : ∃ q, (u * B64 + r0) / (v1 * B64 + v0) = q := ⟨_, rfl⟩
  rw [hq] at g1 g3 ⊢
  have hv1p : 0 < v1 := by omega
  obtain ⟨Qa, eQa⟩ : ∃ Q, u / v1 = Q := ⟨_, rfl⟩
  obtain ⟨Ra, eRa⟩ : ∃ R, u % v1 = R := ⟨_, rfl⟩
  have sa : Qa * v1 + Ra = u := by have h := Nat.div_add_mod u v1; rw [eQa, eRa, Nat.mul_comm] at h; exact h
  have lRa : Ra < v1 := by rw [← eRa]; exact Nat.mod_lt _ hv1p
  have lQa : Qa < B64 := by rw [← eQa, Nat.div_lt_iff_lt_mul hv1p, Nat.mul_comm]; exact huv
  rw [eQa] at g1
  have hdv := fun W => div64_any r2 r1 v1 lv1 l1 hlt W
  rw [← B64_eq, hu, eQa, eRa] at hdv
  have HDV := Lib.hid hdv
  have SA := Lib.hid sa
  have G1 := Lib.hid g1
  have HQ := Lib.hid hq
  have hvB : B64 ≤ 2 * v1 := by omega
  have HY0 := Lib.hid hY0
  have HUV := Lib.hid (show u < v1 * B64 + v0 by omega)
  have hQaB : Qa ≤ 18446744073709551615 := by omega
  have hRaB : Ra ≤ 18446744073709551615 := by omega
  have HBB := Lib.hid hB
  have HVB := Lib.hid hvB
  clear hdv sa g1 hq hu eQa eRa huv hY0 g2 g3 hB lQa lRa hvB
  go_enter Tryz.func155, Tryz.ntmps155
  go_wp2_with fail
  go_quiet (fail)
  go_wp2_with fail
  go_quiet ((go_at_call 142; first | exact quietD (HDV.out _) | exact quietD2 (HDV.out _)))
  go_wp2_with fail
  have hgn : decide (v1 ≤ r2) = false := by simp; omega
  rw [hgn]
  go_loopw [7, 8] (fun a l wr => ∃ Q R : Nat, a = .int .u64 (Q : Int) ∧ l = .int .u64 (R : Int) ∧ Hid (Q * v1 + R = u) ∧ Hid (q ≤ Q) ∧ Q ≤ 18446744073709551615 ∧ R ≤ 18446744073709551615 ∧ Drew w wr) (fun a _ _ => (intOf a).toNat)
  case atStart => exact ⟨Qa, Ra, rfl, rfl, SA, G1, hQaB, hRaB, ((Drew.refl w).drewN _).drewN _⟩
  case round =>
    obtain ⟨Q, R, rfl, rfl, HE, HQ2, hQ, hR, hdr⟩ := hrel
    have hr0w := (hdr.cell ⟨g, o, none⟩).trans hr0
    have hpb : Q * v0 ≤ 18446744073709551615 * 18446744073709551615 := Nat.mul_le_mul hQ (by omega)
    obtain ⟨P, hP⟩ : ∃ P, Q * v0 = P := ⟨_, rfl⟩
    obtain ⟨hi, hhi⟩ : ∃ v, Q * v0 / 18446744073709551616 = v := ⟨_, rfl⟩
    obtain ⟨lo, hlo⟩ : ∃ v, Q * v0 % 18446744073709551616 = v := ⟨_, rfl⟩
    have HM := Lib.hid (fun W => mul64_any Q v0 (by omega) lv0 hi lo hhi hlo W)
    rw [hP] at hhi hlo hpb
    have hPs : P = hi * 18446744073709551616 + lo := by omega
    have llo : lo < 18446744073709551616 := by omega
    by_cases ht : P ≤ B64 * R + r0
    · have hfin := half_done (b := B64) (y1 := v1) (y0 := v0) (u := u) (d := r0) (Q := Q) (R := R) HY0.out HE.out (by rw [hP]; exact ht) (by rw [HQ.out]; exact HQ2.out)
      rw [HQ.out] at hfin
      have HF := Lib.hid hfin
      rw [B64_eq, hPs] at ht
      clear hfin hPs hhi hlo hpb hP
      by_cases hlt1 : hi < R
      · clear ht
        go_wp2_with fail
        refine (HM.out _).mono ?_
        rintro e w' ⟨rfl, rfl⟩
        go_wp2
        go_ret
        exact ⟨by rw [← HF.out]; rfl, hdr⟩
      · obtain rfl : hi = R := by omega
        have hle : lo ≤ r0 := by omega
        have hbl : decide ((hi : Int) < (hi : Int)) = false := by simp
        have hbe : ((hi : Int) == (hi : Int)) = true := by simp
        have hbd : decide ((lo : Int) ≤ (r0 : Int)) = true := by simp; omega
        clear ht hlt1
        go_wp2_with fail
        refine (HM.out _).mono ?_
        rintro e w' ⟨rfl, rfl⟩
        go_wp2
        go_ret
        exact ⟨by rw [← HF.out]; rfl, hdr⟩
    · have hless := half_more (b := B64) (y1 := v1) (y0 := v0) (u := u) (d := r0) (Q := Q) (R := R) (by have := HBB.out; omega) HVB.out (by have := HBB.out; omega) HUV.out (by have := HBB.out; omega) HE.out (.inr (by rw [hP]; omega))
      rw [HQ.out] at hless
      have hbr := fun (h1 : Q - 1 ≤ B64) (h2 : B64 ≤ R + v1) => half_done (b := B64) (y1 := v1) (y0 := v0) (u := u) (d := r0) (Q := Q - 1) (R := R + v1) HY0.out (by have h := HE.out; obtain ⟨m, hm⟩ : ∃ m, Q = m + 1 := ⟨Q - 1, by omega⟩; rw [hm, Nat.add_sub_cancel]; rw [hm, Nat.add_mul] at h; omega) (half_break (by have := HBB.out; omega) h1 h2) (by rw [HQ.out]; omega)
      rw [HQ.out] at hbr
      have hne1 : Hid ((Q - 1) * v1 + (R + v1) = u) := by
        have h := HE.out
        obtain ⟨m, hm⟩ : ∃ m, Q = m + 1 := ⟨Q - 1, by omega⟩
        show _ = _
        rw [hm, Nat.add_sub_cancel]
        rw [hm, Nat.add_mul] at h
        omega
      have hq2 : Hid (q ≤ Q - 1) := by show _ ≤ _; omega
      have hQ1 : Q - 1 ≤ 18446744073709551615 := by omega
      have hQm : Q - 1 < Q := by omega
      have v1e : IntKind.u64.wrap ((Q : Int) - 1) = ((Q - 1 : Nat) : Int) := wrap_u _ _ (by omega)
      obtain ⟨Qn, hQn⟩ : ∃ Qn, Q - 1 = Qn := ⟨_, rfl⟩
      obtain ⟨Rs, hRs⟩ : ∃ s, (R + v1) % 18446744073709551616 = s := ⟨_, rfl⟩
      obtain ⟨Ro, hRo⟩ : ∃ s, (R + v1) / 18446744073709551616 = s := ⟨_, rfl⟩
      have ha := add64_0 R v1 Rs Ro hRs hRo
      rw [hQn] at hbr hne1 hq2 v1e hQ1 hQm
      have HBR := Lib.hid hbr
      have hcase : Hid (Ro = 0 → Rs = R + v1) := by show _ → _; intro h; omega
      have hcase2 : Hid (Ro ≠ 0 → B64 ≤ R + v1) := by show _ → _; intro h; rw [B64_eq]; omega
      have hRsb : Rs ≤ 18446744073709551615 := by omega
      rw [B64_eq, hPs] at ht
      clear hbr hless hPs hhi hlo hpb hP hQn hRs hRo
      have htests : R ≤ hi ∧ (((hi : Int) == (R : Int)) = false ∨ (hi = R ∧ r0 < lo)) := by
        refine ⟨by omega, ?_⟩
        by_cases h : hi = R
        · exact .inr ⟨h, by omega⟩
        · exact .inl (by simp; omega)
      obtain ⟨tb1, tb2⟩ := htests
      have HT := Lib.hid ht
      clear ht
      rcases tb2 with tb2 | ⟨rfl, tb2⟩
      all_goals
        try (have tb3 : ((hi : Int) == (hi : Int)) = true := by simp)
        by_cases hov : Ro = 0
        · have hov0 : ((Ro : Int) != 0) = false := by simp; omega
          have hRR := hcase.out hov
          rw [← hRR] at hne1
          clear hRR hov
          go_wp2_with fail
          refine (HM.out _).mono ?_
          rintro e w' ⟨rfl, rfl⟩
          go_wp2
          go_roundw
          case rel => exact ⟨Qn, Rs, rfl, rfl, hne1, hq2, hQ1, hRsb, hdr⟩
          case measure => simp [intOf] <;> omega
        · have hov0 : ((Ro : Int) != 0) = true := by simp; omega
          have HF := Lib.hid (HBR.out (by have := HBB.out; omega) (hcase2.out hov))
          go_wp2_with fail
          refine (HM.out _).mono ?_
          rintro e w' ⟨rfl, rfl⟩
          go_wp2
          go_ret
          exact ⟨by rw [← HF.out]; rfl, hdr⟩
end Go.Proofs.YtahehlajpaoiiaaGreatDoor


/-
  A digit of the program's quotients.
-/
namespace Go.Proofs.YtahehlajpaoiiaaGreatDoor
open Go.RowKit
attribute [local go_sem ↓] Go.wp_at_zero Go.wp_at_succ

/-- The guess of a digit. -/
def guess (r2 r1 r0 v1 v0 : Nat) : Nat := if v1 ≤ r2 then B64 - 1 else ((r2 * B64 + r1) * B64 + r0) / (v1 * B64 + v0)

theorem guess_any (g o c h p d L M r2 r1 r0 v1 v0 : Nat) (w : World) (hL : L = 3) (hM : M = 2) (hr2 : w.cell? ⟨g, o + 2, none⟩ = some (.int .u64 (r2 : Int))) (hr1 : w.cell? ⟨g, o + 1, none⟩ = some (.int .u64 (r1 : Int))) (hr0 : w.cell? ⟨g, o, none⟩ = some (.int .u64 (r0 : Int)))
    (hv1 : w.cell? ⟨h, p + 1, none⟩ = some (.int .u64 (v1 : Int))) (hv0 : w.cell? ⟨h, p, none⟩ = some (.int .u64 (v0 : Int)))
    (l1 : r1 < 18446744073709551616) (l0 : r0 < 18446744073709551616) (lv1 : v1 < 18446744073709551616) (lv0 : v0 < 18446744073709551616) (hv : 9223372036854775808 ≤ v1) :
    Calls Tryz.prog 155 #[.slice (some ⟨g, o, none⟩) L c, .slice (some ⟨h, p, none⟩) M d] w (RetWd w (guess r2 r1 r0 v1 v0)) := by
  subst hL
  subst hM
  unfold guess
  by_cases hge : v1 ≤ r2
  · rw [if_pos hge]
    exact guess_top g o c h p d r2 v1 v0 w hr2 hv1 hv0 hge
  · rw [if_neg hge]
    exact guess_low g o c h p d r2 r1 r0 v1 v0 w hr2 hr1 hr0 hv1 hv0 (by omega) l1 l0 lv1 lv0 hv

theorem split3 {b V m : Nat} (hV : V < b ^ (m + 3)) : V = ((D b V (m + 2) * b + D b V (m + 1)) * b + D b V m) * b ^ m + V % b ^ m := by
  have h0 := Nat.div_add_mod V (b ^ m)
  have h1 := div_D b V m
  have h2 := div_D b V (m + 1)
  have h3 := div_D b V (m + 2)
  have hz : V / b ^ (m + 2 + 1) = 0 := Nat.div_eq_of_lt hV
  rw [hz, Nat.mul_zero, Nat.zero_add] at h3
  rw [h3] at h2
  rw [h2] at h1
  rw [h1] at h0
  rw [Nat.mul_comm b (D b V (m + 2)), Nat.mul_comm b (D b V (m + 2) * b + D b V (m + 1)), Nat.mul_comm (b ^ m)] at h0
  exact h0.symm
theorem split2 {b V m : Nat} (hV : V < b ^ (m + 2)) : V = (D b V (m + 1) * b + D b V m) * b ^ m + V % b ^ m := by
  have h0 := Nat.div_add_mod V (b ^ m)
  have h1 := div_D b V m
  have h2 := div_D b V (m + 1)
  have hz : V / b ^ (m + 1 + 1) = 0 := Nat.div_eq_of_lt hV
  rw [hz, Nat.mul_zero, Nat.zero_add] at h2
  rw [h2] at h1
  rw [h1] at h0
  rw [Nat.mul_comm b (D b V (m + 1)), Nat.mul_comm (b ^ m)] at h0
  exact h0.symm
theorem split1 {b V m : Nat} (hV : V < b ^ (m + 1)) : V = D b V m * b ^ m + V % b ^ m := by
  have h0 := Nat.div_add_mod V (b ^ m)
  have h1 := div_D b V m
  have hz : V / b ^ (m + 1) = 0 := Nat.div_eq_of_lt hV
  rw [hz, Nat.mul_zero, Nat.zero_add] at h1
  rw [h1, Nat.mul_comm (b ^ m)] at h0
  exact h0.symm

theorem B64_sq : B64 * B64 = 340282366920938463463374607431768211456 := by decide

theorem guess_ok {W Y m : Nat} (hW : W < B64 ^ (m + 3)) (hY : Y < B64 ^ (m + 2)) (hYt : B64 ^ (m + 2) ≤ 2 * Y) (hWY : W < Y * B64) :
    9223372036854775808 ≤ D B64 Y (m + 1) ∧ W / Y ≤ guess (D B64 W (m + 2)) (D B64 W (m + 1)) (D B64 W m) (D B64 Y (m + 1)) (D B64 Y m) ∧
    guess (D B64 W (m + 2)) (D B64 W (m + 1)) (D B64 W m) (D B64 Y (m + 1)) (D B64 Y m) ≤ W / Y + 1 ∧ W / Y < B64 ∧ guess (D B64 W (m + 2)) (D B64 W (m + 1)) (D B64 W m) (D B64 Y (m + 1)) (D B64 Y m) < B64 := by
  have hp : 0 < B64 ^ m := Nat.pow_pos B64_pos
  have hp1 : 0 < B64 ^ (m + 1) := Nat.pow_pos B64_pos
  have hB := B64_eq
  have s3 := split3 hW
  have s2 := split2 hY
  have s1 := split1 (m := m + 1) hY
  have hWl := Nat.mod_lt W hp
  have hYl := Nat.mod_lt Y hp
  have hYl1 := Nat.mod_lt Y hp1
  have t1 := split1 (m := m + 2) hW
  have hv : B64 ≤ 2 * D B64 Y (m + 1) := by
    have h1 : B64 * B64 ^ (m + 1) < (2 * D B64 Y (m + 1) + 2) * B64 ^ (m + 1) := by
      have : B64 ^ (m + 2) = B64 * B64 ^ (m + 1) := Nat.pow_succ'
      rw [Nat.add_mul, Nat.mul_assoc]
      omega
    have h2 := Nat.lt_of_mul_lt_mul_right h1
    omega
  have hYY : B64 * B64 ≤ 2 * (D B64 Y (m + 1) * B64 + D B64 Y m) := by
    have h1 : B64 * B64 ≤ 2 * D B64 Y (m + 1) * B64 := Nat.mul_le_mul_right _ hv
    rw [Nat.mul_assoc] at h1
    omega
  have key := knuth (b := B64) (P := B64 ^ m) (z := (D B64 W (m + 2) * B64 + D B64 W (m + 1)) * B64 + D B64 W m) (zl := W % B64 ^ m) (y := D B64 Y (m + 1) * B64 + D B64 Y m) (yl := Y % B64 ^ m) (by omega) hp hWl hYl hYY (by rw [← s3, ← s2]; exact hWY)
  rw [← s3, ← s2] at key
  obtain ⟨k1, k2, k3⟩ := key
  refine ⟨by omega, ?_⟩
  unfold guess
  by_cases hge : D B64 Y (m + 1) ≤ D B64 W (m + 2)
  · rw [if_pos hge]
    have e : B64 ^ (m + 2) = B64 ^ (m + 1) * B64 := by rw [← Nat.pow_succ]
    rw [e] at t1
    have kt := knuth_top (b := B64) (P := B64 ^ (m + 1)) (r2 := D B64 W (m + 2)) (rl := W % (B64 ^ (m + 1) * B64)) (v1 := D B64 Y (m + 1)) (vl := Y % B64 ^ (m + 1)) (by omega) hp1 hv hYl1 hge (by rw [← t1, ← s1]; exact hWY)
    rw [← t1, ← s1] at kt
    exact ⟨kt.1, kt.2, k3, by omega⟩
  · rw [if_neg hge]
    refine ⟨k1, k2, k3, ?_⟩
    have hr1 := D_lt B64_pos W (m + 1)
    have hr0 := D_lt B64_pos W m
    rw [Nat.div_lt_iff_lt_mul (by have : 1 * B64 ≤ D B64 Y (m + 1) * B64 := Nat.mul_le_mul_right _ (by omega); omega)]
    have h1 : (D B64 W (m + 2) + 1) * B64 ≤ D B64 Y (m + 1) * B64 := Nat.mul_le_mul_right _ (by omega)
    rw [Nat.add_mul, Nat.one_mul] at h1
    have h2 : (D B64 W (m + 2) * B64 + D B64 W (m + 1) + 1) * B64 ≤ (D B64 Y (m + 1) * B64 + D B64 Y m) * B64 := Nat.mul_le_mul_right _ (by omega)
    rw [Nat.add_mul _ 1, Nat.one_mul] at h2
    rw [Nat.mul_comm B64]
    omega

/-- What the subtraction of a multiple leaves: a number, and a borrow. -/
theorem sub_left {R Y q n : Nat} (hR : R < B64 ^ n) (hY : Y < B64 ^ n) : ∃ N, N < B64 ^ n ∧ (∀ i, i < n → B64 - 1 - D B64 (cpl R n + q * Y) i = D B64 N i) ∧ R + car B64 (cpl R n) q Y n * B64 ^ n = N + q * Y := by
  have hp : 0 < B64 ^ n := Nat.pow_pos B64_pos
  have hm := Nat.mod_lt (cpl R n + q * Y) hp
  have hd := Nat.div_add_mod (cpl R n + q * Y) (B64 ^ n)
  refine ⟨cpl ((cpl R n + q * Y) % B64 ^ n) n, cpl_lt, fun i hi => ?_, ?_⟩
  · rw [cpl_digit i hi hm]
    have h2 := D_low (P := (cpl R n + q * Y) % B64 ^ n) (Z := (cpl R n + q * Y) / B64 ^ n) B64_pos hi
    have e : (cpl R n + q * Y) % B64 ^ n + B64 ^ n * ((cpl R n + q * Y) / B64 ^ n) = cpl R n + q * Y := by omega
    rw [e] at h2
    rw [h2]
  · rw [car_end cpl_lt hY, Nat.mul_comm _ (B64 ^ n)]
    generalize (cpl R n + q * Y) / B64 ^ n = c at *
    generalize (cpl R n + q * Y) % B64 ^ n = r at *
    unfold cpl at *
    omega
end Go.Proofs.YtahehlajpaoiiaaGreatDoor


/-
  The second reference's products of digits.
-/
namespace Go.Proofs.YtahehlajpaoiiaaGreatDoor
open Go.RowKit
attribute [local go_sem ↓] Go.wp_at_zero Go.wp_at_succ

theorem prod_rest {X Y i m : Nat} (hY : Y < 256 ^ m) : X % 256 ^ i * Y / 256 ^ i < 256 ^ m := by
  apply Nat.div_lt_of_lt_mul
  exact Nat.mul_lt_mul'' (Nat.mod_lt _ (Nat.pow_pos (by omega))) hY

theorem prod_car {X Y i m k : Nat} (hY : Y < 256 ^ m) (hk : m < k) : car 256 (X % 256 ^ i * Y / 256 ^ i) (D 256 X i) Y k = 0 := by
  have h1 := prod_rest (X := X) (i := i) hY
  have h2 : 256 ^ (m + 1) ≤ 256 ^ k := Nat.pow_le_pow_right (by omega) hk
  have h3 := D_lt (b := 256) (by omega) X i
  have h4 : D 256 X i * Y ≤ 255 * Y := Nat.mul_le_mul_right Y (by omega)
  rw [Nat.pow_succ] at h2
  rw [car_end (by omega) (by omega), Nat.div_eq_of_lt]
  omega

theorem prod_end {X Y i m k : Nat} (hY : Y < 256 ^ m) (hk : m ≤ k) (hz : car 256 (X % 256 ^ i * Y / 256 ^ i) (D 256 X i) Y k = 0) (j : Nat) :
    (if i ≤ j ∧ j < i + k then D 256 (X % 256 ^ i * Y / 256 ^ i + D 256 X i * Y) (j - i) else D 256 (X % 256 ^ i * Y) j) = D 256 (X % 256 ^ (i + 1) * Y) j := by
  have hp : 0 < 256 ^ i := Nat.pow_pos (by omega)
  have hP2 : X % 256 ^ (i + 1) * Y = X % 256 ^ i * Y + 256 ^ i * (D 256 X i * Y) := by rw [mod_succ, Nat.add_mul, Nat.mul_assoc]
  have hU : X % 256 ^ (i + 1) * Y / 256 ^ i = X % 256 ^ i * Y / 256 ^ i + D 256 X i * Y := by rw [hP2, Nat.add_mul_div_left _ _ hp]
  have hmk : 256 ^ m ≤ 256 ^ k := Nat.pow_le_pow_right (by omega) hk
  have hlt := lt_of_car (b := 256) (by omega) (Nat.lt_of_lt_of_le (prod_rest (X := X) (i := i) hY) hmk) (Nat.lt_of_lt_of_le hY hmk) hz
  by_cases e : i ≤ j ∧ j < i + k
  · rw [if_pos e, D_high (P := X % 256 ^ (i + 1) * Y) (k := i) e.1, hU]
  · rw [if_neg e]
    by_cases e3 : j < i
    · rw [hP2, D_low (by omega) e3]
    · rw [D_high (P := X % 256 ^ (i + 1) * Y) (k := i) (by omega), hU, D_zero_of (by omega) hlt (by omega), D_high (P := X % 256 ^ i * Y) (k := i) (by omega), D_zero_of (by omega) (Nat.lt_of_lt_of_le (prod_rest (X := X) (i := i) hY) hmk) (by omega)]

set_option maxHeartbeats 4000000 in
set_option maxRecDepth 100000 in
theorem rtimes (A B : Option Addr) (n m c d X Y : Nat) (w : World) (hn : n ≤ 10000000) (hm : m ≤ 10000000) (hx : Dg w .i64 256 A n X) (hy : Dg w .i64 256 B m Y) :
    Calls Tryz.prog 75 #[.slice A n c, .slice B m d] w (RetTr w (X * Y)) := by
  have HX := Lib.hid hx
  have HY := Lib.hid hy
  clear hx hy
  have hmk := fun W => run_make_row' (P := Tryz.prog) 65 3 (.int .i64 0) 8 Tryz.underlying65 intTy_info rfl .i64 .i64 (n + m + 1) (by omega) (by omega) W
  have ec : ((n + m + 1 : Nat) : Int) = (n : Int) + (m : Int) + 1 := by omega
  rw [ec] at hmk
  clear ec
  go_enter Tryz.func75, Tryz.ntmps75
  go_wp2
  go_loopw [6] (fun iv wr => ∃ i : Nat, i ≤ n ∧ iv = .int .i64 i ∧ wr.rowIs w.heap.size 3 (n + m + 1) (fun j => .int .i64 (D 256 (X % 256 ^ i * Y) j : Int)) ∧ Below w.heap.size w wr) (fun iv _ => n - (intOf iv).toNat)
  case atStart =>
    refine ⟨0, Nat.zero_le _, rfl, (World.rowIs_made w (.int .i64 0) (n + m + 1) 3).congr fun j hj => ?_, (Below.refl _ _).alloc (Nat.le_refl _) _⟩
    simp [D, Nat.mod_one]
  case round =>
    obtain ⟨i, hi, rfl, hrow, hbl⟩ := hrel
    by_cases hlt : i < n
    · obtain ⟨wo, rfl⟩ : ∃ wo : World, wo = wr := ⟨_, rfl⟩
      obtain ⟨g, o, rfl, hg, hcx⟩ := HX.out.rd (by omega)
      have hxi0 := hcx i hlt
      clear hcx
      have hdx := D_lt (b := 256) (by omega) X i
      have HROW := Lib.hid hrow
      have HBL := Lib.hid hbl
      clear hrow hbl
      go_wp2
      go_loopw [7, 8] (fun cy kv wr => ∃ k : Nat, k ≤ m + 1 ∧ kv = .int .i64 k ∧ cy = .int .i64 (car 256 (X % 256 ^ i * Y / 256 ^ i) (D 256 X i) Y k : Nat) ∧
          wr.rowIs w.heap.size 3 (n + m + 1) (fun j => .int .i64 ((if i ≤ j ∧ j < i + k then D 256 (X % 256 ^ i * Y / 256 ^ i + D 256 X i * Y) (j - i) else D 256 (X % 256 ^ i * Y) j : Nat) : Int)) ∧ Below w.heap.size w wr) (fun _ kv _ => m + 2 - (intOf kv).toNat)
      case atStart =>
        refine ⟨0, Nat.zero_le _, rfl, by rw [car_zero]; rfl, HROW.out.congr fun j hj => ?_, HBL.out⟩
        rw [if_neg (by omega)]
      case round =>
        obtain ⟨k, hk, rfl, rfl, hrow, hbl⟩ := hrel
        have HEND := Lib.hid (fun h1 h2 => prod_end (X := X) (i := i) (k := k) HY.out.lt h1 h2)
        have hcp : 0 < car 256 (X % 256 ^ i * Y / 256 ^ i) (D 256 X i) Y k → k ≤ m := fun h => by
          rcases Nat.lt_or_ge m k with h1 | h1
          · rw [prod_car HY.out.lt h1] at h; omega
          · exact h1
        by_cases hgo : k < m ∨ 0 < car 256 (X % 256 ^ i * Y / 256 ^ i) (D 256 X i) Y k
        · have hkm : k ≤ m := by rcases hgo with h | h; omega; exact hcp h
          have hxi : wr.cell? ⟨g, o + i, none⟩ = some (.int .i64 (D 256 X i : Int)) := (hbl.cell (p := ⟨g, o + i, none⟩) hg).trans hxi0
          have hci := hrow.cell (i := i + k) (by omega)
          have hfi := hrow.frozen (i + k)
          rw [if_neg (by omega)] at hci
          have hDh : D 256 (X % 256 ^ i * Y) (i + k) = D 256 (X % 256 ^ i * Y / 256 ^ i) k := by rw [D_high (k := i) (by omega), Nat.add_sub_cancel_left]
          rw [hDh] at hci
          obtain ⟨hs1, hs2⟩ := car_step (b := 256) (by omega) (X % 256 ^ i * Y / 256 ^ i) (D 256 X i) Y k
          have hcl := car_lt (b := 256) (by omega) hdx (X % 256 ^ i * Y / 256 ^ i) Y k
          have hdu := D_lt (b := 256) (by omega) (X % 256 ^ i * Y / 256 ^ i) k
          have hdy := D_lt (b := 256) (by omega) Y k
          have hpb : D 256 X i * D 256 Y k ≤ 255 * 255 := Nat.mul_le_mul (by omega) (by omega)
          have hpe : ((D 256 X i : Nat) : Int) * ((D 256 Y k : Nat) : Int) = ((D 256 X i * D 256 Y k : Nat) : Int) := by simp
          have HP0 := Lib.hid (fun h : m ≤ k => show D 256 X i * D 256 Y k = 0 by rw [D_zero_of (b := 256) (by omega) HY.out.lt h, Nat.mul_zero])
          have HR := Lib.hid hrow
          have hyk : k < m → ∃ g' o', B = some ⟨g', o', none⟩ ∧ wr.cell? ⟨g', o' + k, none⟩ = some (.int .i64 (D 256 Y k : Int)) := fun h => by
            obtain ⟨g', o', e, _, hc⟩ := (HY.out.rd.below hbl) (by omega)
            exact ⟨g', o', e, hc k h⟩
          have HYK := Lib.hid hyk
          clear hyk
          generalize D 256 X i * D 256 Y k = p at *
          generalize car 256 (X % 256 ^ i * Y / 256 ^ i) (D 256 X i) Y k = cy at *
          generalize hug : D 256 (X % 256 ^ i * Y / 256 ^ i) k = u at *
          have HS1 := Lib.hid hs1
          have HS2 := Lib.hid hs2
          have hi1 : (0 : Int) ≤ (i : Int) + (k : Int) := by omega
          have hi2 : (i : Int) + (k : Int) < (n : Int) + (m : Int) + 1 := by omega
          have hi3 : ((i : Int) + (k : Int)).toNat = i + k := by omega
          have HUG := Lib.hid hug
          clear hs1 hs2 hDh hrow hug hcp
          by_cases hkt : k < m
          · obtain ⟨g', o', rfl, hc2⟩ := HYK.out hkt
            have e1 : IntKind.i64.wrap (p : Int) = (p : Int) := IntWalk.i64_in _ (by omega)
            have e2 : IntKind.i64.wrap ((u : Int) + (cy : Int)) = (u : Int) + (cy : Int) := IntWalk.i64_in _ (by omega)
            have e3 : IntKind.i64.wrap ((u : Int) + (cy : Int) + (p : Int)) = (u : Int) + (cy : Int) + (p : Int) := IntWalk.i64_in _ (by omega)
            clear hgo
            go_wp2_with fail
            go_quiet (fail)
            clear e1 e2 e3
            go_wp2
            go_roundw
            case rel =>
              refine ⟨k + 1, by omega, by go_num, by rw [← HS1.out]; go_num, (World.rowIs.set (w := wr.drewN nq) HR.out (i + k) _).congr fun j hj => ?_, (below_draws hbl nq).setCell (Nat.le_refl _) _⟩
              by_cases e : j = i + k
              · rw [if_pos e, if_pos (by omega), e, Nat.add_sub_cancel_left, ← HS2.out]; go_num
              · rw [if_neg e]
                by_cases e2 : i ≤ j ∧ j < i + k
                · rw [if_pos e2, if_pos (by omega)]
                · rw [if_neg e2, if_neg (by omega)]
            case measure => simp [intOf] <;> omega
          · have hcy : 0 < cy := by omega
            clear hgo
            go_wp2
            go_roundw
            case rel =>
              have hp0 := HP0.out (by omega)
              refine ⟨k + 1, by omega, by go_num, by rw [← HS1.out]; go_num, (World.rowIs.set (w := wr) HR.out (i + k) _).congr fun j hj => ?_, hbl.setCell (Nat.le_refl _) _⟩
              by_cases e : j = i + k
              · rw [if_pos e, if_pos (by omega), e, Nat.add_sub_cancel_left, ← HS2.out]; go_num
              · rw [if_neg e]
                by_cases e2 : i ≤ j ∧ j < i + k
                · rw [if_pos e2, if_pos (by omega)]
                · rw [if_neg e2, if_neg (by omega)]
            case measure => simp [intOf] <;> omega
        · have hn2 : wr.rowIs w.heap.size 3 (n + m + 1) (fun j => .int .i64 (D 256 (X % 256 ^ (i + 1) * Y) j : Int)) := hrow.congr fun j hj => by
            rw [HEND.out (by omega) (by omega) j]
          have hk1 : ¬ k < m := by omega
          have hk2 : ¬ 0 < car 256 (X % 256 ^ i * Y / 256 ^ i) (D 256 X i) Y k := by omega
          clear hrow hgo hcp
          go_wp2
          go_roundw
          case rel => exact ⟨i + 1, by omega, by go_num, hn2, hbl⟩
          case measure => simp [intOf] <;> omega
    · obtain rfl : i = n := by omega
      have hXm : X % 256 ^ i = X := Nat.mod_eq_of_lt HX.out.lt
      rw [hXm] at hrow
      have HR := Lib.hid hrow
      clear hXm hrow
      have hd : Dg wr .i64 256 (some ⟨w.heap.size, 0, none⟩) (i + m + 1) (X * Y) := by
        refine ⟨?_, fun _ => ⟨_, 0, rfl, HR.out.lt, fun j hj => ?_⟩⟩
        · rw [Nat.pow_succ, Nat.pow_add]
          have h1 := Nat.mul_lt_mul'' HX.out.lt HY.out.lt
          omega
        · rw [Nat.zero_add]; exact HR.out.cell hj
      have HD := Lib.hid hd
      clear hd
      have HT := Lib.hid (fun W (h : Dg W .i64 256 (some ⟨w.heap.size, 0, none⟩) (i + m + 1) (X * Y)) => rtrim_any (some ⟨w.heap.size, 0, none⟩) (i + m + 1) (i + m + 1) (X * Y) W (by omega) (Nat.le_refl _) h)
      have ec : ((i + m + 1 : Nat) : Int) = (i : Int) + (m : Int) + 1 := by omega
      have HE := Lib.hid ec
      clear ec
      go_wp2_with fail
      refine (HT.out _ HD.out).mono ?_
      rintro e w' ⟨rfl, rfl⟩
      go_wp2
      go_ret
      exact ⟨_, _, _, rfl, Tr.of (Nat.le_refl _) (fun h => by cases h) HD.out, hbl, fun a ha => by injection ha with ha; subst ha; exact Nat.le_refl _⟩
end Go.Proofs.YtahehlajpaoiiaaGreatDoor
