import Derived.Test.YtahehlajpaoiiaaGreatDoorGQE

/-
  The program's shift of digits to the right.
-/
namespace Go.Proofs.YtahehlajpaoiiaaGreatDoor
open Go.RowKit
attribute [local go_sem ↓] Go.wp_at_zero Go.wp_at_succ

/-- A call that hands back digits without zeros at the end, in new memory. -/
def RetN (w : World) (V N : Nat) (e : Ending) (w' : World) : Prop :=
  ∃ A n c, n ≤ N ∧ e = .returned (.slice A n c) ∧ Nm w' A n c V ∧ Below w.heap.size w w' ∧ ∀ k, Value.ownBlock (.slice A n c) = some k → w.heap.size ≤ k

/-- The same, and the memory may be written. -/
def RetNo (w : World) (V N : Nat) (e : Ending) (w' : World) : Prop :=
  ∃ A n c, n ≤ N ∧ e = .returned (.slice A n c) ∧ Nm w' A n c V ∧ Below w.heap.size w w' ∧ (∀ k, Value.ownBlock (.slice A n c) = some k → w.heap.size ≤ k) ∧ Own w' w.heap.size (.slice A n c) n (nums .u64 (D B64 V) n)

theorem Nm.nil (w : World) : Nm w none 0 0 0 := ⟨⟨by decide, Nat.le_refl _, Rd.nil _ _ _ _⟩, fun h => by omega⟩

/-- The digits so far: the first k are shifted. -/
def srF (X V W k j : Nat) : Nat := if j < k then D B64 V j else D B64 X (W + j)

set_option maxHeartbeats 2000000 in
set_option maxRecDepth 100000 in
theorem shiftRight_own (A : Option Addr) (n c X s W p : Nat) (w : World) (hn : n ≤ 100000000) (hW : W ≤ 100000000) (hs : s = 64 * W + p) (hp : p < 64) (hx : Ng w A n c X) :
    Calls Tryz.prog 138 #[.slice A n c, .int .i64 (s : Int)] w (RetNo w (X / (2 ^ p * B64 ^ W)) n) := by
  have q64 : (s : Int) / 64 = (W : Int) := by omega
  have m64 : (s : Int) % 64 = (p : Int) := by omega
  have hs0 : (0 : Int) ≤ (s : Int) := by omega
  have hsb : (s : Int) ≤ 7000000000 := by omega
  have hp0 : 0 < 2 ^ p := Nat.pow_pos (by omega)
  have HX := Lib.hid hx
  clear hx hs
  by_cases hWn : n ≤ W
  · have hz : X / (2 ^ p * B64 ^ W) = 0 := by
      apply Nat.div_eq_of_lt
      have h1 := HX.out.lt
      have h2 : B64 ^ n ≤ B64 ^ W := Nat.pow_le_pow_right B64_pos hWn
      have h3 : 1 * B64 ^ W ≤ 2 ^ p * B64 ^ W := Nat.mul_le_mul_right _ hp0
      omega
    rw [hz]
    clear hz hp0
    have hge : decide ((n : Int) ≤ (W : Int)) = true := by simp; omega
    go_enter Tryz.func138, Tryz.ntmps138
    go_wp2
    go_ret
    exact ⟨none, 0, 0, Nat.zero_le _, rfl, Nm.nil w, Below.refl _ _, fun z hz => by simp [Value.ownBlock] at hz, Own.nil _ _⟩
  · have hge : decide ((n : Int) ≤ (W : Int)) = false := by simp; omega
    obtain ⟨N, hN⟩ : ∃ N, n = N + W := ⟨n - W, by omega⟩
    subst hN
    have hmk := fun V => run_make_row' (P := Tryz.prog) 114 106 (.int .u64 0) 8 Tryz.underlying114 natInfo rfl .i64 .i64 N (by omega) (by omega) V
    obtain ⟨V, hV⟩ : ∃ V, X / (2 ^ p * B64 ^ W) = V := ⟨_, rfl⟩
    have hst := fun k => shr_step (X := X) (p := p) (W := W) (k := k) hp
    rw [hV] at hst
    rw [hV]
    have hVlt : V < B64 ^ N := by
      rw [← hV]
      apply Nat.div_lt_of_lt_mul
      have h1 := HX.out.lt
      rw [Nat.pow_add, Nat.mul_comm] at h1
      have h3 : 1 * B64 ^ W ≤ 2 ^ p * B64 ^ W := Nat.mul_le_mul_right _ hp0
      rw [Nat.one_mul] at h3
      have h4 := Nat.mul_le_mul_right (B64 ^ N) h3
      omega
    have HST := Lib.hid hst
    have HVL := Lib.hid hVlt
    obtain ⟨gx, ox, hA, hgx, hcx⟩ := HX.out.rd (by omega)
    subst hA
    have hcap := HX.out.cap
    have hr : Rd w .u64 (some ⟨gx, ox + W, none⟩) N (fun j => D B64 X (W + j)) := fun _ => ⟨gx, ox + W, rfl, hgx, fun i hi => by
      have := hcx (W + i) (by omega)
      rw [← Nat.add_assoc] at this
      exact this⟩
    have HR := Lib.hid hr
    have j1 : ¬ (c = W) := by omega
    have j2 : (0 : Int) ≤ (W : Int) := by omega
    have j3 : (W : Int) ≤ (N : Int) + (W : Int) := by omega
    have j4 : IntKind.i64.wrap ((N : Int) + (W : Int) - (W : Int)) = (N : Int) := by rw [IntWalk.i64_in _ (by omega)]; omega
    have j5 : (N : Int) + (W : Int) - (W : Int) = (N : Int) := by omega
    have j6 : 0 < N := by omega
    have hge2 : decide ((N : Int) + (W : Int) ≤ (W : Int)) = false := by simp; omega
    clear hp0 hge hcx hr hst hV hVlt hWn
    go_enter Tryz.func138, Tryz.ntmps138
    go_wp2_with (with_reducible refine wpList_copy_lies rfl _ _ rfl w.heap.size N N (some ⟨gx, ox + W, none⟩) N (c - W) ?ca ?cb N (fun _ => 0) (fun j => D B64 X (W + j)) (Lies.of_made w N) (Nat.le_refl _) (Nat.le_refl _) (HR.out.alloc _) ?_)
    case ca => rfl
    case cb =>
      first
      | rfl
      | (simp [Act.eval, Act.put])
    intro w2 hl2 hgr2
    have hl3 : Lies w2 w.heap.size N (srF X V W 0) := hl2.congr fun i hi => by
      show (if i < N then D B64 X (W + i) else 0) = srF X V W 0 i
      unfold srF
      rw [if_pos hi, if_neg (Nat.not_lt_zero _)]
    have hb2 : Below w.heap.size w w2 := ((Below.refl _ _).alloc (Nat.le_refl _) _).trans (below_of_grown (g := w.heap.size) hgr2 (by simp) (Nat.le_refl _))
    have HL3 := Lib.hid hl3
    have HB2 := Lib.hid hb2
    clear hl2 hgr2 hl3 hb2 j1 j2 j3 j4 j5 hge2
    go_wp2
    try rw [m64]
    clear q64 m64
    go_loopw [30] (fun iv wr => ∃ k : Nat, k ≤ N ∧ iv = .int .i64 k ∧ Lies wr w.heap.size N (srF X V W k) ∧ Below w.heap.size w wr) (fun iv _ => N - (intOf iv).toNat)
    case atStart => exact ⟨0, Nat.zero_le _, rfl, HL3.out, HB2.out⟩
    case round =>
      obtain ⟨k, hk, rfl, hlies, hbl⟩ := hrel
      by_cases hlt : k < N
      · have hcell := hlies.cell (i := k) (by omega)
        have hfro := hlies.frozen k
        have hv0 : srF X V W k k = D B64 X (W + k) := by unfold srF; rw [if_neg (by omega)]
        rw [hv0] at hcell
        obtain ⟨x0, hx0⟩ : ∃ x, D B64 X (W + k) = x := ⟨_, rfl⟩
        obtain ⟨x1, hx1⟩ : ∃ x, D B64 X (W + k + 1) = x := ⟨_, rfl⟩
        have l0 : x0 < 18446744073709551616 := by rw [← hx0]; exact D64_lt _ _
        have l1 : x1 < 18446744073709551616 := by rw [← hx1]; exact D64_lt _ _
        obtain ⟨h0, hh0⟩ : ∃ x, x0 / 2 ^ p = x := ⟨_, rfl⟩
        have lh0 : h0 < 18446744073709551616 := by rw [← hh0]; exact Nat.lt_of_le_of_lt (Nat.div_le_self _ _) l0
        have v1 : (x0 : Int) / 2 ^ p = (h0 : Int) := by rw [shr_word, hh0]
        have hfin := HST.out k
        rw [hx0, hx1, hh0] at hfin
        rw [hx0] at hcell
        have hk0 : (0 : Int) ≤ (k : Int) := by omega
        have hk1 : (k : Int) < (N : Int) := by omega
        have hstep : ∀ (O : Nat), O = D B64 V k → ∀ j, j < N → (if j = k then O else srF X V W k j) = srF X V W (k + 1) j := fun O hO j _ => by
          unfold srF
          by_cases e : j = k
          · rw [if_pos e, if_pos (by omega), hO, e]
          · rw [if_neg e]
            by_cases e2 : j < k
            · rw [if_pos e2, if_pos (by omega)]
            · rw [if_neg e2, if_neg (by omega)]
        have HSTEP := Lib.hid hstep
        have HLI := Lib.hid hlies
        have HBL := Lib.hid hbl
        clear hstep hlies hbl hx0 hv0 hh0
        by_cases hlast : k + 1 < N
        · have hc2 := HLI.out.cell (i := k + 1) hlast
          have hv2 : srF X V W k (k + 1) = x1 := by unfold srF; rw [if_neg (by omega), ← Nat.add_assoc, hx1]
          rw [hv2] at hc2
          have hsl : x1 * 2 ^ (64 - p) % B64 < 18446744073709551616 := by have := Nat.mod_lt (x1 * 2 ^ (64 - p)) B64_pos; rw [B64_eq] at this ⊢; exact this
          obtain ⟨S, hS⟩ : ∃ S, x1 * 2 ^ (64 - p) % B64 = S := ⟨_, rfl⟩
          have v2 : IntKind.u64.wrap ((x1 : Int) * 2 ^ min (64 - p) 64) = (S : Int) := by rw [Nat.min_eq_left (by omega), shl_word, ← B64_eq, hS]
          rw [hS] at hsl hfin
          have v3 : bits .or .u64 (h0 : Int) (S : Int) = ((h0 ||| S : Nat) : Int) := bits_or_u64 h0 S lh0 hsl
          obtain ⟨O, hO⟩ : ∃ O, h0 ||| S = O := ⟨_, rfl⟩
          rw [hO] at v3 hfin
          have HF := Lib.hid hfin
          have hk2 : (k : Int) + 1 < (N : Int) := by omega
          have hkd : decide ((k : Int) + 1 < (N : Int)) = true := by simp; omega
          have i1 : IntKind.i64.wrap ((k : Int) + 1) = (k : Int) + 1 := IntWalk.i64_in _ (by omega)
          have i2 : (0 : Int) ≤ (k : Int) + 1 := by omega
          have i3 : ((k : Int) + 1).toNat = k + 1 := by omega
          have hW1 := HLI.out.set k h0
          have hca := hW1.cell (i := k) (by omega)
          have hcb := hW1.cell (i := k + 1) hlast
          have hfa := hW1.frozen k
          have hlen : k + 1 < N := hlast
          rw [if_pos rfl] at hca
          rw [if_neg (by omega), hv2] at hcb
          have HW1 := Lib.hid hW1
          clear hx1 hv2 hS hO hfin hW1 hlast
          go_wp2_with fail
          go_region_law (fail)
          all_goals
            go_wp2
            go_roundw
            case rel =>
              rw [v2, v3]
              refine ⟨k + 1, by omega, by go_num, (Lies.set (w := (wr.setCell ⟨w.heap.size, k, none⟩ (.int .u64 (h0 : Int))).drew) HW1.out k O).congr fun j hj => ?_, ((HBL.out.setCell (Nat.le_refl _) _).drew).setCell (Nat.le_refl _) _⟩
              rw [← HSTEP.out O HF.out.symm j hj]
              by_cases e : j = k
              · rw [if_pos e, if_pos e]
              · rw [if_neg e, if_neg e, if_neg e]
            case measure => simp [intOf] <;> omega
        · have hx10 : x1 = 0 := by rw [← hx1]; exact D_zero_of B64_pos HX.out.lt (by omega)
          rw [hx10, Nat.zero_mul, Nat.zero_mod, Nat.or_zero] at hfin
          have HF := Lib.hid hfin
          have hkd : decide ((k : Int) + 1 < (N : Int)) = false := by simp; omega
          have i1 : IntKind.i64.wrap ((k : Int) + 1) = (k : Int) + 1 := IntWalk.i64_in _ (by omega)
          clear hx1 hx10 hfin
          go_wp2
          go_roundw
          case rel => exact ⟨k + 1, by omega, by go_num, (HLI.out.set k h0).congr (HSTEP.out h0 HF.out.symm), HBL.out.setCell (Nat.le_refl _) _⟩
          case measure => simp [intOf] <;> omega
      · obtain rfl : k = N := by omega
        have hng : Ng wr (some ⟨w.heap.size, 0, none⟩) k k V := ⟨HVL.out, Nat.le_refl _, (hlies.congr fun j hj => by unfold srF; rw [if_pos hj]).rd⟩
        have HNG := Lib.hid hng
        have HBL := Lib.hid hbl
        have HOW : Hid (Own wr w.heap.size (.slice (some ⟨w.heap.size, 0, none⟩) k k) k (nums .u64 (D B64 V) k)) := by
          obtain ⟨cur, T, h1, h2, h3⟩ := hlies.congr (f' := D B64 V) fun j hj => by unfold srF; rw [if_pos hj]
          exact Lib.hid (Own.of_cells h1 (Nat.le_refl _) (Nat.le_refl _) (by unfold maxLen; omega) h2 h3)
        clear hng hlies hbl
        go_wp2_with fail
        refine (trim_any _ k k V _ (by omega) HNG.out).mono ?_
        rintro e w' ⟨q, hq, rfl, hnm, rfl⟩
        have HNM := Lib.hid hnm
        clear hnm
        go_wp2
        go_ret
        exact ⟨_, q, k, by omega, rfl, HNM.out, HBL.out, fun z hz => by simp [Value.ownBlock] at hz; omega, HOW.out.take hq⟩

theorem shiftRight_any (A : Option Addr) (n c X s W p : Nat) (w : World) (hn : n ≤ 100000000) (hW : W ≤ 100000000) (hs : s = 64 * W + p) (hp : p < 64) (hx : Ng w A n c X) :
    Calls Tryz.prog 138 #[.slice A n c, .int .i64 (s : Int)] w (RetN w (X / (2 ^ p * B64 ^ W)) n) :=
  (shiftRight_own A n c X s W p w hn hW hs hp hx).mono fun _ _ ⟨A, n, c, h1, h2, h3, h4, h5, _⟩ => ⟨A, n, c, h1, h2, h3, h4, h5⟩
end Go.Proofs.YtahehlajpaoiiaaGreatDoor
