import Derived.Test.YtkaefmfophopoaaDoorGDivI
import Derived.Test.YtkaefmfophopoaaDoorGIntQ

/-
  The program's division of digits: the loop.
-/
namespace Go.Proofs.YtkaefmfophopoaaDoor
open Go.RowKit
attribute [local go_sem ↓] Go.wp_at_zero Go.wp_at_succ

theorem Lies.grown {w w' : World} {g n b : Nat} {f : Nat → Nat} (h : Lies w g n f) (hg : w.grownBy w' (some b)) (hne : g ≠ b) : Lies w' g n f := h.of_block (hg.block g h.lt (fun e => hne (by injection e)))
theorem Lies.other {w : World} {g n b : Nat} {f : Nat → Nat} (h : Lies w g n f) (i : Nat) (v : Value) (hne : g ≠ b) : Lies (w.setCell ⟨b, i, none⟩ v) g n f := h.of_block (Below.heap_setCell w ⟨b, i, none⟩ v g hne)
theorem Lies.take {w : World} {g n m : Nat} {f : Nat → Nat} (h : Lies w g n f) (hm : m ≤ n) : Lies w g m f := by
  obtain ⟨cur, T, hg, hn, hc⟩ := h
  exact ⟨cur, T, hg, by omega, fun i hi => hc i (by omega)⟩

theorem Drew.drew {w w' : World} (h : Drew w w') : Drew w w'.drew := h.drewN 1

/-- The memory of the division: the rest, the divisor, and the quotient. -/
structure Dv (w : World) (B g1 g2 g3 n m Q : Nat) (F1 F2 F3 : Nat → Nat) : Prop where
  l1 : Lies w g1 n F1
  l2 : Lies w g2 m F2
  l3 : Lies w g3 Q F3
  b1 : B ≤ g1
  b12 : g1 < g2
  b23 : g2 < g3

set_option maxHeartbeats 4000000 in
set_option maxRecDepth 100000 in
theorem divide_long_own (A B : Option Addr) (n m2 c d X Y : Nat) (w : World) (hn : n ≤ 100000000) (hx : Nm w A n c X) (hy : Nm w B (m2 + 2) d Y) (hle : Y ≤ X) :
    Calls Tryd.prog 51 #[.slice A n c, .slice B (m2 + 2) d] w (RetQRo w (X / Y) (X % Y) (n + 1) (m2 + 2)) := by
  have hmn : m2 + 2 ≤ n := Nm.le_len hx.toNg hy hle
  have HC := Lib.hid (compare_any A B n (m2 + 2) c d X Y w (by omega) (by omega) hx hy)
  obtain ⟨o, ho, ho0⟩ := ord_ge hle
  rw [ho] at HC
  obtain ⟨s, hs, hs63, hYt, hYl⟩ := top_shift (by omega) hy.lt (hy.top (by omega))
  obtain ⟨g, p, rfl, hg, hcell⟩ := hy.rd (by omega)
  have hct := hcell (m2 + 1) (by omega)
  have hydl := D64_lt Y (m2 + 1)
  have hlz := fun V => lz_any (D B64 Y (m2 + 1)) s hs hydl V
  have hs1 := fun V (hV : Drew w V) => shiftLeft_0 A n c X s V (by omega) hs63 (hx.drew hV).toNg
  have hs2 := fun V (hV : Below w.heap.size w V) => shiftLeft_0 (some ⟨g, p, none⟩) (m2 + 2) d Y s V (by omega) hs63 (hy.toNg.below hV)
  have hp : 0 < 2 ^ s := Nat.pow_pos (by omega)
  have hY0 : 0 < Y * 2 ^ s := by
    have : 0 < B64 ^ (m2 + 2) := Nat.pow_pos B64_pos
    omega
  have hXl : X * 2 ^ s < B64 ^ (n + 1) := by
    rw [Nat.pow_succ]
    have h1 : 2 ^ s ≤ 2 ^ 63 := Nat.pow_le_pow_right (by omega) hs63
    exact Nat.mul_lt_mul'' hx.lt (by rw [B64_eq]; omega)
  have hdv : X * 2 ^ s / (Y * 2 ^ s) = X / Y ∧ X * 2 ^ s % (Y * 2 ^ s) = X % Y * 2 ^ s := ⟨Nat.mul_div_mul_right _ _ hp, Nat.mul_mod_mul_right _ _ _⟩
  have hstart : X * 2 ^ s / B64 ^ (n - (m2 + 2) + 1) < Y * 2 ^ s := by
    apply Nat.div_lt_of_lt_mul
    have h1 : 2 ^ s ≤ 2 ^ 63 := Nat.pow_le_pow_right (by omega) hs63
    have h2 := Nat.mul_lt_mul_of_lt_of_le hx.lt h1 (by omega)
    have h3 : B64 ^ (n - (m2 + 2) + 1) * B64 ^ (m2 + 2) ≤ B64 ^ (n - (m2 + 2) + 1) * (2 * (Y * 2 ^ s)) := Nat.mul_le_mul_left _ hYt
    have e1 : B64 ^ (n - (m2 + 2) + 1) * B64 ^ (m2 + 2) = B64 ^ n * B64 := by
      rw [← Nat.pow_add, ← Nat.pow_succ]; congr 1; omega
    have e2 : B64 ^ n * B64 = 2 * (B64 ^ n * 2 ^ 63) := by
      generalize B64 ^ n = P
      rw [show B64 = 2 * 2 ^ 63 from rfl]
      ac_rfl
    have e3 : B64 ^ (n - (m2 + 2) + 1) * (2 * (Y * 2 ^ s)) = 2 * (B64 ^ (n - (m2 + 2) + 1) * (Y * 2 ^ s)) := by ac_rfl
    omega
  obtain ⟨Q, hQ⟩ : ∃ Q, n - (m2 + 2) + 1 = Q := ⟨_, rfl⟩
  rw [hQ] at hstart
  have hQ1 : Q + m2 + 1 = n := by omega
  have hmk := fun V => run_make_row' (P := Tryd.prog) 47 39 (.int .u64 0) 8 Tryd.underlying47 natInfo rfl .i64 .i64 Q (by omega) (by omega) V
  have ec : ((Q : Nat) : Int) = (n : Int) - ((m2 : Int) + 2) + 1 := by omega
  have hmk2 := hmk
  rw [ec] at hmk2
  have HQ1 := Lib.hid hQ1
  have hQn : Q + m2 + 1 ≤ n := by omega
  have hQn2 : n ≤ Q + m2 + 1 := by omega
  clear hQ hmk ec hQ1
  obtain ⟨X', hX'⟩ : ∃ X', X * 2 ^ s = X' := ⟨_, rfl⟩
  obtain ⟨Y', hY'⟩ : ∃ Y', Y * 2 ^ s = Y' := ⟨_, rfl⟩
  rw [hX'] at hs1 hXl hdv hstart
  rw [hY'] at hs2 hY0 hYt hYl hdv hstart
  have HS1 := Lib.hid hs1
  have HS2 := Lib.hid hs2
  have HLZ := Lib.hid hlz
  have HDV := Lib.hid hdv
  have HST := Lib.hid hstart
  have HYT := Lib.hid hYt
  have HYL := Lib.hid hYl
  have HXL := Lib.hid hXl
  have hp0 := hp
  clear hx hy hcell hs hs1 hs2 hlz hdv hstart hYt hYl hXl hX' hY' hle hp ho
  have HMK := Lib.hid hmk2
  clear hmk2
  have i1 : (0 : Int) ≤ (m2 : Int) + 1 := by omega
  have i2 : (m2 : Int) + 1 < (m2 : Int) + 2 := by omega
  go_enter Tryd.func51, Tryd.ntmps51
  go_wp2_with fail
  refine HC.out.mono ?_
  rintro e w1 ⟨rfl, hd⟩
  have hc1 := (hd.cell ⟨g, p + (m2 + 1), none⟩).trans hct
  have HD := Lib.hid hd
  clear hd
  go_wp2_with fail
  refine (HLZ.out _).mono ?_
  rintro e w' ⟨rfl, rfl⟩
  go_wp2_with fail
  have hw1 : w.heap.size ≤ w1.heap.size := (HD.out.below w.heap.size).size
  have j1 : (0 : Int) ≤ (m2 : Int) + 2 := by omega
  have j2 : (m2 : Int) + 2 ≤ (m2 : Int) + 2 + 1 := by omega
  have j3 : ((m2 : Int) + 2).toNat = m2 + 2 := by omega
  clear hc1 hct hydl i1 i2
  go_region_with (first
    | (go_at_call 75; (with_reducible refine (HS1.out _ ?_).mono ?_); (exact HD.out.drew); rintro e w2 ⟨g1, rfl, hl1, hb2, hg1⟩; have hw2 : w1.heap.size ≤ w2.heap.size := hb2.size; have hg1' : w1.heap.size ≤ g1 := hg1)
    | (go_at_call 75; (with_reducible refine (HS2.out _ ?_).mono ?_); (exact (HD.out.drew.below _).trans (hb2.mono hw1)); rintro e w3 ⟨g2, rfl, hl2, hb3, hg2⟩; have hw3 : w2.heap.size ≤ w3.heap.size := hb3.size))
  have hmk2 := HMK.out
  have hl1' := Lies.below hl1 hb3 hl1.lt
  have hb3' : Below w.heap.size w w3 := ((HD.out.drew.below _).trans (hb2.mono hw1)).trans (hb3.mono (by omega))
  have hl1s := hl1.lt
  have hl2s := hl2.lt
  have HL1 := Lib.hid hl1'
  have HL2 := Lib.hid hl2
  have HB3 := Lib.hid hb3'
  clear hl1 hl1' hl2 hb2 hb3 hb3' j1 j2 j3
  have hg12 : g1 < g2 := by omega
  have hg23 : g2 < w3.heap.size := hl2s
  have hgw : w.heap.size ≤ g1 := by omega
  have hL2m := HL2.out.take (show m2 + 2 ≤ m2 + 2 + 1 by omega)
  have HL2M := Lib.hid hL2m
  have hwY := fun j => step_win (X := X') (Y := Y') (j := j) (m := m2 + 2) hY0 HYL.out
  have HWY := Lib.hid hwY
  clear hL2m hwY hl1s hl2s
  go_wp2
  clear hmk2
  go_loopw [11] (fun iv wr => ∃ k : Nat, k ≤ Q ∧ iv = .int .i64 ((k : Int) - 1) ∧ Dv wr w.heap.size g1 g2 w3.heap.size (n + 1) (m2 + 2) Q (D B64 (rsN X' Y' k)) (D B64 Y') (fun j => if k ≤ j then D B64 (X' / Y') j else 0) ∧ Below w.heap.size w wr) (fun iv _ => (intOf iv + 1).toNat)
  case atStart =>
    have hr0 : rsN X' Y' Q = X' := by
      unfold rsN
      rw [Nat.mod_eq_of_lt HST.out, Nat.mul_comm]
      exact Nat.div_add_mod _ _
    refine ⟨Q, Nat.le_refl _, rfl, ⟨?_, ?_, (Lies.of_made w3 Q).congr fun i hi => by rw [if_neg (by omega)], hgw, hg12, hg23⟩, HB3.out.alloc (by omega) _⟩
    · rw [hr0]
      exact Lies.below HL1.out ((Below.refl _ _).alloc (Nat.le_refl _) _) (by omega)
    · exact Lies.below HL2M.out ((Below.refl _ _).alloc (Nat.le_refl _) _) (by omega)
  case round =>
    obtain ⟨k, hk, rfl, hdv, hbl⟩ := hrel
    rcases k with _ | j
    · have e : (((0 : Nat) : Int) - 1) = -1 := rfl
      rw [e]
      clear e
      have hr0 : rsN X' Y' 0 = X' % Y' := by unfold rsN; rw [Nat.pow_zero, Nat.div_one, Nat.mul_one, Nat.mod_one, Nat.add_zero]
      have hrl : X' % Y' < B64 ^ (m2 + 2) := Nat.lt_trans (Nat.mod_lt _ hY0) HYL.out
      have hql : X' / Y' < B64 ^ Q := by
        rw [Nat.div_lt_iff_lt_mul hY0]
        have h1 := HST.out
        rw [Nat.div_lt_iff_lt_mul (Nat.pow_pos B64_pos)] at h1
        rw [Nat.mul_comm]
        exact h1
      have hnq : Ng wr (some ⟨w3.heap.size, 0, none⟩) Q Q (X' / Y') := ⟨hql, Nat.le_refl _, (hdv.l3.congr fun i _ => by rw [if_pos (Nat.zero_le _)]).rd⟩
      have hnr : Ng wr (some ⟨g1, 0, none⟩) (m2 + 2) (n + 1) (X' % Y') := ⟨hrl, by omega, by have := (hdv.l1.take (show m2 + 2 ≤ n + 1 by omega)).rd; rw [hr0] at this; exact this⟩
      have hD1 := HDV.out.1
      have hD2 := HDV.out.2
      rw [hD1] at hnq
      have HNQ := Lib.hid hnq
      have HNR := Lib.hid hnr
      have HD2 := Lib.hid hD2
      have HBL := Lib.hid hbl
      clear hr0 hrl hql hnq hnr hD1 hD2 hbl hdv
      have j1 : (0 : Int) ≤ (m2 : Int) + 2 := by omega
      have j2 : (m2 : Int) + 2 ≤ (n : Int) + 1 := by omega
      have j3 : ((m2 : Int) + 2).toNat = m2 + 2 := by omega
      go_wp2_with fail
      go_region_with (first
        | (go_at_call 47; (with_reducible refine (trim_any (some ⟨w3.heap.size, 0, none⟩) Q Q (X / Y) _ ?_ ?_).mono ?_); (omega); (exact HNQ.out.drewN 1); rintro e wq ⟨kq, hkq, rfl, hnmq, rfl⟩; have HNMQ := Lib.hid hnmq; clear hnmq)
        | (go_at_call 47; (with_reducible refine (trim_any (some ⟨g1, 0, none⟩) (m2 + 2) (n + 1) (X' % Y') _ ?_ ?_).mono ?_); (omega); (exact HNR.out.drewN 1); rintro e wq ⟨kr, hkr, rfl, hnmr, rfl⟩; have HNMR := Lib.hid hnmr; clear hnmr)
        | (go_at_call 77; (with_reducible refine (shiftRight_0o (some ⟨g1, 0, none⟩) kr (n + 1) (X' % Y') s _ ?_ ?_ ?_).mono ?_); (omega); (omega); (exact HNMR.out.toNg); rintro e w6 ⟨Ar, nr, cr, hnr, rfl, hmr, hb6, hfr, hor⟩))
      have hwr := HBL.out.size
      have hq2 : X' % Y' / 2 ^ s = X % Y := by rw [HD2.out, Nat.mul_div_cancel _ hp0]
      rw [hq2] at hmr hor
      have HOR := Lib.hid (hor.mono (base' := w.heap.size) (show w.heap.size ≤ wr.heap.size from hwr))
      have HMR := Lib.hid hmr
      have HB6 := Lib.hid hb6
      have HFR := Lib.hid hfr
      clear hmr hb6 hfr hq2 hor
      go_wp2
      go_ret2
      refine ⟨_, kq, Q, Ar, nr, cr, by omega, by omega, rfl, ⟨HNMQ.out.toNg.below HB6.out, HNMQ.out.top⟩, HMR.out, HBL.out.drew.trans (HB6.out.mono hwr), fun z hz => ?_, fun z hz => ?_, HOR.out⟩
      · simp [Value.ownBlock] at hz; omega
      · have h9 : wr.heap.size ≤ z := HFR.out z hz
        omega
    · have e : (((j + 1 : Nat) : Int) - 1) = (j : Int) := by omega
      rw [e]
      clear e
      obtain ⟨w1', w2', w3'⟩ := HWY.out j
      obtain ⟨v1, v2⟩ := wd_lt (X := X') (j := j) hY0 HYL.out
      have hqd := fun V (hV : Drew wr V) (L : Nat) (hL : L = m2 + 3) (M : Nat) (hM : M = m2 + 2) => quotientDigit_any g1 j (n + 1) m2 (n + 1 - j) _ (some ⟨g2, 0, none⟩) (m2 + 2 + 1) (wdN X' Y' j) Y' L M V hL hM (by omega) (by omega) (by omega) (by omega) (hdv.l1.drew hV) (fun i hi => w1' i) v2 (hdv.l2.drew hV).rd HYL.out HYT.out v1 (fun a ha => by injection ha with ha; subst ha; show g2 ≠ g1; omega)
      rw [w2'] at hqd
      obtain ⟨qd, hqde⟩ : ∃ q, D B64 (X' / Y') j = q := ⟨_, rfl⟩
      rw [hqde] at hqd
      have HQD := Lib.hid hqd
      have HDV2 := Lib.hid hdv
      have HW3 := Lib.hid w3'
      have HQE := Lib.hid hqde
      have HBL := Lib.hid hbl
      have i1 : (0 : Int) ≤ (j : Int) := by omega
      have i2 : (j : Int) ≤ (j : Int) + ((m2 : Int) + 2) + 1 := by omega
      have i3 : (j : Int) + ((m2 : Int) + 2) + 1 ≤ (n : Int) + 1 := by omega
      have i4 : (j : Int) < (Q : Int) := by omega
      have i5 : ¬ (n + 1 = j) := by omega
      clear hqd w1' w2' w3' v1 v2 hdv hqde hbl
      go_wp2_with fail
      refine (HQD.out _ (Drew.refl _) _ (by omega) _ rfl).mono ?_
      rintro e w5 ⟨rfl, hl5, hg5⟩
      have hl3 := HDV2.out.l3.grown hg5 (by omega)
      have hcs := hl3.cell (i := j) (by omega)
      have hfs := hl3.frozen j
      have hsz5 := hg5.size
      have hwr := HBL.out.size
      have HL3 := Lib.hid hl3
      have HL5 := Lib.hid hl5
      have HG5 := Lib.hid hg5
      clear hl3 hl5 hg5
      go_wp2
      go_roundw
      case rel =>
        refine ⟨j, by omega, by go_num, ⟨(HL5.out.congr fun i _ => HW3.out i).other _ _ (by omega), (HDV2.out.l2.grown HG5.out (by omega)).other _ _ (by omega), (HL3.out.set j qd).congr fun i hi => ?_, hgw, hg12, hg23⟩, (HBL.out.trans (below_of_grown (g := g1) HG5.out (by omega) hgw)).setCell (by show w.heap.size ≤ w3.heap.size; omega) _⟩
        by_cases e : i = j
        · rw [if_pos e, if_pos (by omega), ← HQE.out, e]
        · rw [if_neg e]
          by_cases e2 : j + 1 ≤ i
          · rw [if_pos e2, if_pos (by omega)]
          · rw [if_neg e2, if_neg (by omega)]
      case measure => simp [intOf] <;> omega

theorem divide_long (A B : Option Addr) (n m2 c d X Y : Nat) (w : World) (hn : n ≤ 100000000) (hx : Nm w A n c X) (hy : Nm w B (m2 + 2) d Y) (hle : Y ≤ X) :
    Calls Tryd.prog 51 #[.slice A n c, .slice B (m2 + 2) d] w (RetQR w A (X / Y) (X % Y) (n + 1) (n + 1)) :=
  (divide_long_own A B n m2 c d X Y w hn hx hy hle).mono fun _ _ ⟨Aq, nq, cq, Ar, nr, cr, k1, k2, h1, h2, h3, h4, h5, h6, _⟩ =>
    ⟨Aq, nq, cq, Ar, nr, cr, k1, by have := Nm.le_len hx.toNg hy hle; omega, h1, h2, h3, h4, h5, .inr h6⟩

theorem divide_any (A B : Option Addr) (n m c d X Y : Nat) (w : World) (hn : n ≤ 100000000) (hm : m ≤ 100000000) (hx : Nm w A n c X) (hy : Nm w B m d Y) (h0 : 0 < Y) :
    Calls Tryd.prog 51 #[.slice A n c, .slice B m d] w (RetQR w A (X / Y) (X % Y) (n + 1) (n + 1)) := by
  have mono : ∀ {Q R a b e w'}, a ≤ n + 1 → b ≤ n + 1 → RetQR w A Q R a b e w' → RetQR w A Q R (n + 1) (n + 1) e w' := fun h1 h2 ⟨Aq, nq, cq, Ar, nr, cr, k1, k2, r⟩ => ⟨Aq, nq, cq, Ar, nr, cr, by omega, by omega, r⟩
  by_cases hlt : X < Y
  · exact (divide_less A B n m c d X Y w hn hm hx hy hlt).mono fun e w' => mono (by omega) (by omega)
  · have hmn : m ≤ n := Nm.le_len hx.toNg hy (by omega)
    by_cases h1 : m = 1
    · subst h1
      exact (divide_word A B n c d X Y w hn hx hy (by omega)).mono fun e w' => mono (by omega) (by omega)
    · have hm0 : m ≠ 0 := fun h => by have := hy.zero.1 h; omega
      obtain ⟨m2, rfl⟩ : ∃ m2, m = m2 + 2 := ⟨m - 2, by omega⟩
      exact divide_long A B n m2 c d X Y w hn hx hy (by omega)
end Go.Proofs.YtkaefmfophopoaaDoor


/-
  The program's quotient and remainder of integers.
-/
namespace Go.Proofs.YtkaefmfophopoaaDoor
open Go.RowKit
attribute [local go_sem ↓] Go.wp_at_zero Go.wp_at_succ

/-- Four blocks of a call's own: two boxes of integers, and two results. -/
structure K4 (w : World) (T : TypeId) (v0 v1 v2 v3 : Value) (w1 : World) : Prop where
  k0 : w1.heap[w.heap.size]? = some (.cells #[v0, v1] T (0, 0))
  k1 : w1.heap[w.heap.size + 1]? = some (.cells #[v2, v3] T (0, 0))
  k2 : w1.heap[w.heap.size + 2]? = some (.cells #[.bool false, .string ⟨#[]⟩] T (0, 0))
  k3 : w1.heap[w.heap.size + 3]? = some (.cells #[.bool false, .string ⟨#[]⟩] T (0, 0))
  sz : w.heap.size + 4 ≤ w1.heap.size
  bel : Below w.heap.size w w1
theorem K4.start (w : World) (T : TypeId) (v0 v1 v2 v3 : Value) : K4 w T v0 v1 v2 v3 ((((w.alloc (.cells #[v0, v1] T)).alloc (.cells #[v2, v3] T)).alloc (.cells #[.bool false, .string ⟨#[]⟩] T)).alloc (.cells #[.bool false, .string ⟨#[]⟩] T)) := by
  obtain ⟨a1, a2, a3, a4⟩ := heap_four w (.cells #[v0, v1] T) (.cells #[v2, v3] T) (.cells #[.bool false, .string ⟨#[]⟩] T) (.cells #[.bool false, .string ⟨#[]⟩] T)
  exact ⟨a1, a2, a3, a4, by simp, ((((Below.refl _ _).alloc (Nat.le_refl _) _).alloc (by simp) _).alloc (by simp <;> omega) _).alloc (by simp <;> omega) _⟩
theorem K4.next {w : World} {T : TypeId} {v0 v1 v2 v3 : Value} {w1 w2 : World} {B : Nat} (h : K4 w T v0 v1 v2 v3 w1) (hb : Below B w1 w2) (hB : w.heap.size + 4 ≤ B) : K4 w T v0 v1 v2 v3 w2 := by
  have hs := h.sz
  refine ⟨(hb.block _ (by omega)).trans h.k0, (hb.block _ (by omega)).trans h.k1, (hb.block _ (by omega)).trans h.k2, (hb.block _ (by omega)).trans h.k3, ?_, h.bel.trans (hb.mono (by omega))⟩
  have := hb.size
  omega
theorem K4.stored {w : World} {T : TypeId} {v0 v1 v2 v3 : Value} {w1 : World} (h : K4 w T v0 v1 v2 v3 w1) (x y z u : Value) : Below w.heap.size w ((((w1.setCell ⟨w.heap.size + 2, 0, none⟩ x).setCell ⟨w.heap.size + 2, 1, none⟩ y).setCell ⟨w.heap.size + 3, 0, none⟩ z).setCell ⟨w.heap.size + 3, 1, none⟩ u) :=
  (((h.bel.setCell (by show w.heap.size ≤ w.heap.size + 2; omega) _).setCell (by show w.heap.size ≤ w.heap.size + 2; omega) _).setCell (by show w.heap.size ≤ w.heap.size + 3; omega) _).setCell (by show w.heap.size ≤ w.heap.size + 3; omega) _

/-- What the walk has when the digits of both numbers lie there. -/
structure Up (w : World) (T : TypeId) (v0 v1 v2 v3 : Value) (S : Nat) (A1 A2 : Option Addr) (n1 d1 n2 d2 X Y N1 N2 : Nat) (w3 : World) : Prop where
  k : K4 w T v0 v1 v2 v3 w3
  hS : w.heap.size + 4 ≤ S
  hx : Nm w3 A1 n1 d1 X
  hy : Nm w3 A2 n2 d2 Y
  sp : Is16 w3 (S + 2)
  ax : ∀ a, A1 = some a → a.block ≠ S + 2
  ay : ∀ a, A2 = some a → a.block ≠ S + 2
  n1b : n1 ≤ N1
  n2b : n2 ≤ N2
  sz : S + 3 ≤ w3.heap.size
end Go.Proofs.YtkaefmfophopoaaDoor
