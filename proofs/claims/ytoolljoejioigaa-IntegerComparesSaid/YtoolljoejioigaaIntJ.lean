/-
  The program's products of digits.
-/
import Derived.Test.YtoolljoejioigaaIntI
namespace Go.Proofs.Ytoolljoejioigaa
open Go.RowKit
attribute [local go_sem ↓] Go.wp_at_zero Go.wp_at_succ

theorem D_low {b P Z k j : Nat} (hb : 0 < b) (hj : j < k) : D b (P + b ^ k * Z) j = D b P j := by
  unfold D
  have e : b ^ k = b ^ j * (b * b ^ (k - j - 1)) := by
    rw [← Nat.pow_succ', ← Nat.pow_add]; congr 1; omega
  rw [e, Nat.mul_assoc, Nat.add_mul_div_left _ _ (Nat.pow_pos hb), Nat.mul_assoc, Nat.add_mul_mod_self_left]

theorem D_high {b P k j : Nat} (hj : k ≤ j) : D b P j = D b (P / b ^ k) (j - k) := by
  unfold D
  rw [Nat.div_div_eq_div_mul, ← Nat.pow_add]
  congr 3
  omega

/-- The product so far, a digit further. -/
theorem times_step {X Y k n m : Nat} (hX : X < B64 ^ n) (hk : k < m) (f : Nat → Nat) (hf : ∀ j, j < n + m → f j = D B64 (X * (Y % B64 ^ k)) j) :
    (∀ i, i < n → f (k + i) = D B64 (X * (Y % B64 ^ k) / B64 ^ k) i) ∧
    ∀ j, j < n + m → (if j = k + n then car B64 (X * (Y % B64 ^ k) / B64 ^ k) (D B64 Y k) X n else amF f k n (X * (Y % B64 ^ k) / B64 ^ k) (D B64 Y k) X n j) = D B64 (X * (Y % B64 ^ (k + 1))) j := by
  have hp : 0 < B64 ^ k := Nat.pow_pos B64_pos
  have hyk : Y % B64 ^ k < B64 ^ k := Nat.mod_lt _ hp
  have hP : X * (Y % B64 ^ k) / B64 ^ k ≤ X := by
    apply Nat.div_le_of_le_mul
    rw [Nat.mul_comm]
    exact Nat.mul_le_mul_right _ (Nat.le_of_lt hyk)
  have hP2 : X * (Y % B64 ^ (k + 1)) = X * (Y % B64 ^ k) + B64 ^ k * (D B64 Y k * X) := by
    rw [mod_succ, Nat.mul_add, Nat.mul_left_comm, Nat.mul_comm X (D B64 Y k)]
  have hU : (X * (Y % B64 ^ (k + 1))) / B64 ^ k = X * (Y % B64 ^ k) / B64 ^ k + D B64 Y k * X := by
    rw [hP2, Nat.add_mul_div_left _ _ hp]
  have hPlt : X * (Y % B64 ^ k) < B64 ^ (n + k) := by rw [Nat.pow_add]; exact Nat.mul_lt_mul'' hX hyk
  have hyk1 : Y % B64 ^ (k + 1) < B64 ^ (k + 1) := Nat.mod_lt _ (Nat.pow_pos B64_pos)
  have hP1lt : X * (Y % B64 ^ (k + 1)) < B64 ^ (n + (k + 1)) := by rw [Nat.pow_add B64 n]; exact Nat.mul_lt_mul'' hX hyk1
  refine ⟨fun i hi => ?_, fun j hj => ?_⟩
  · rw [hf _ (by omega), D_high (k := k) (by omega), Nat.add_sub_cancel_left]
  · by_cases e : j = k + n
    · rw [if_pos e, e, D_high (P := X * (Y % B64 ^ (k + 1))) (k := k) (by omega), hU, Nat.add_sub_cancel_left, car_end (Nat.lt_of_le_of_lt hP hX) hX]
      show _ = (X * (Y % B64 ^ k) / B64 ^ k + D B64 Y k * X) / B64 ^ n % B64
      refine (Nat.mod_eq_of_lt (Nat.div_lt_of_lt_mul ?_)).symm
      have h1 : D B64 Y k * X ≤ (B64 - 1) * X := Nat.mul_le_mul_right _ (Nat.le_sub_one_of_lt (D_lt B64_pos Y k))
      have h2 : (B64 - 1) * X + X = B64 * X := by
        rw [← Nat.succ_mul]; exact congrArg (· * X) (Nat.succ_pred_eq_of_pos B64_pos)
      have h3 : B64 * X < B64 * B64 ^ n := Nat.mul_lt_mul_of_pos_left hX B64_pos
      rw [Nat.mul_comm (B64 ^ n) B64]
      omega
    · rw [if_neg e]
      unfold amF
      by_cases e2 : k ≤ j ∧ j < k + n
      · rw [if_pos e2, D_high (P := X * (Y % B64 ^ (k + 1))) (k := k) e2.1, hU]
      · rw [if_neg e2, hf j hj]
        by_cases e3 : j < k
        · rw [hP2, D_low B64_pos e3]
        · rw [D_zero_of B64_pos hPlt (by omega), D_zero_of B64_pos hP1lt (by omega)]

set_option maxHeartbeats 4000000 in
set_option maxRecDepth 100000 in
theorem times_any (v : Value) (base : Nat) (A Bq : Option Addr) (n m c d X Y : Nat) (w : World) (hn : n ≤ 100000000) (hm : m ≤ 100000000) (h0 : 0 < n + m ∨ v.ownBlock ≠ none) (hv : Own w base v 0 []) (hbase : base ≤ w.heap.size)
    (hx : Ng w A n c X) (hy : Ng w Bq m d Y) (hxa : ∀ a, A = some a → some a.block ≠ v.ownBlock) (hya : ∀ a, Bq = some a → some a.block ≠ v.ownBlock) :
    Calls Try.prog 56 #[v, .slice A n c, .slice Bq m d] w (RetU w v (X * Y) (n + m)) := by
  have HX := Lib.hid hx
  have HY := Lib.hid hy
  have HXA := Lib.hid hxa
  have HYA := Lib.hid hya
  have HV := Lib.hid hv
  have H0 := Lib.hid h0
  clear hx hy hxa hya hv h0
  go_enter Try.func56, Try.ntmps56
  go_wp2_with fail
  rw [show (n : Int) + (m : Int) = ((n + m : Nat) : Int) from by omega]
  refine (room_any v base (n + m) _ (by omega) HV.out H0.out).mono ?_
  rintro e w1 ⟨g, cr, T, cur, rfl, hcr, hgc, hcs, hz, hg1, hgb⟩
  have HL0 := Lib.hid (Lies.of_room hgc hcr hcs hz)
  have HG1 := Lib.hid hg1
  have HGB := Lib.hid hgb
  have hgx : ∀ a, A = some a → a.block < w.heap.size → a.block ≠ g := fun a ha hlt e => by
    rcases HGB.out with h | h
    · exact HXA.out a ha (by rw [e, h])
    · omega
  have hgy : ∀ a, Bq = some a → a.block < w.heap.size → a.block ≠ g := fun a ha hlt e => by
    rcases HGB.out with h | h
    · exact HYA.out a ha (by rw [e, h])
    · omega
  have HGX := Lib.hid hgx
  have HGY := Lib.hid hgy
  clear hgc hcs hz hg1 hgb hgx hgy
  go_wp2
  go_loopw [18] (fun i wr => ∃ k : Nat, k ≤ m ∧ i = .int .i64 k ∧ Lies wr g (n + m) (D B64 (X * (Y % B64 ^ k))) ∧ w1.grownBy wr (some g)) (fun i _ => m - (intOf i).toNat)
  case atStart =>
    refine ⟨0, Nat.zero_le _, rfl, HL0.out.congr fun i hi => ?_, World.grownBy.refl _ _⟩
    simp [D, Nat.mod_one]
  case round =>
    obtain ⟨k, hk, rfl, hlies, hgr⟩ := hrel
    have hg2 : w.grownBy wr v.ownBlock := grown_none HG1.out hgr (by
      rcases HGB.out with h | h
      · exact .inr (.inl h.symm)
      · exact .inr (.inr (fun q hq => by injection hq with hq; omega)))
    have hxr : Rd wr .u64 A n (D B64 X) := HX.out.rd.grown hg2 (fun q hq a ha e => HXA.out a ha (by rw [hq, e]))
    by_cases hlt : k < m
    · obtain ⟨gy, oy, hB, hgy0, hcy0⟩ := HY.out.rd (by omega)
      have hgyn : gy ≠ g := HGY.out _ hB hgy0
      have hyk : wr.cell? ⟨gy, oy + k, none⟩ = some (.int .u64 (D B64 Y k : Int)) := (World.cell?_of_block (w := w) (a := ⟨gy, oy + k, none⟩) (hg2.block gy hgy0 (fun e => HYA.out _ hB e))).trans (hcy0 k hlt)
      have hgyw : gy < wr.heap.size := Nat.lt_of_lt_of_le hgy0 hg2.size
      subst hB
      clear hcy0
      have hdy := D64_lt Y k
      obtain ⟨st1, st2⟩ := times_step (Y := Y) HX.out.lt hlt (D B64 (X * (Y % B64 ^ k))) (fun j hj => rfl)
      have hxne : 0 < n → ∀ a, A = some a → a.block ≠ g := fun h0' a ha => by
        obtain ⟨gx, ox, hA, hgx, _⟩ := HX.out.rd h0'
        rw [hA] at ha
        injection ha with ha
        subst ha
        exact HGX.out _ hA hgx
      have HAM := Lib.hid (fun W (hW : W.heap[g]? = wr.heap[g]?) (hxW : Rd W .u64 A n (D B64 X)) (L : Nat) (hLn : L = n) => addMultiple_any g k (n + m) L (cr - k) (D B64 (X * (Y % B64 ^ k))) A n c (X * (Y % B64 ^ k) / B64 ^ k) X (D B64 Y k) W (by omega) hLn (by omega) (by omega) (hlies.of_block hW) st1 hxW hxne hdy)
      have HST2 := Lib.hid st2
      have HXR := Lib.hid hxr
      have HLI := Lib.hid hlies
      have hi1 : (0 : Int) ≤ (k : Int) := by omega
      have hi2 : (k : Int) < (m : Int) := by omega
      have hi3 : (k : Int) + (n : Int) ≤ (cr : Int) := by omega
      have hi4 : (k : Int) ≤ (k : Int) + (n : Int) := by omega
      have hi6 : ¬ cr = k := by omega
      have hi5 : (k : Int) + (n : Int) < (n : Int) + (m : Int) := by omega
      have hi7 : (0 : Int) ≤ (k : Int) + (n : Int) := by omega
      have hi9 : ((k : Int) + (n : Int)).toNat = k + n := by omega
      have hw1 : IntKind.i64.wrap ((k : Int) + (n : Int)) = (k : Int) + (n : Int) := IntWalk.i64_in _ (by omega)
      clear st1 st2 hxr hlies
      generalize D B64 Y k = yk at *
      go_wp2_with fail
      go_region_held3 (fun w' => w'.cell? ⟨gy, oy + k, none⟩ = some (.int .u64 (yk : Int)))
        (first
          | go_keep
          | exact (World.cell?_of_block (w := wr) (a := ⟨gy, oy + k, none⟩) (hgr2.block gy hgyw (fun e => hgyn (by injection e)))).trans hyk
          | exact (World.cell?_of_block (w := wr) (a := ⟨gy, oy + k, none⟩) ((Below.heap_setCell _ _ _ gy hgyn).trans (hgr2.block gy hgyw (fun e => hgyn (by injection e))))).trans hyk)
        (first
          | (go_at_call 72; refine (HAM.out _ ?_ ?_ _ ?_).mono ?_; (rfl); (exact HXR.out); (omega); rintro e w2 ⟨rfl, hl2, hgr2⟩; have hcs := hl2.cell (i := k + n) (by omega); have hfs := hl2.frozen (k + n)))
      go_wp2
      go_roundw
      case rel =>
        have hd1 : w1.grownBy wr.drew (some g) := ⟨hgr.os, hgr.tape, hgr.output, hgr.size, hgr.block⟩
        exact ⟨k + 1, by omega, by go_num, (hl2.set (k + n) _).congr HST2.out, grown_set (grown_none hd1 hgr2 (.inr (.inl rfl))) _ _⟩
      case measure => simp [intOf] <;> omega
    · obtain rfl : k = m := by omega
      have hYm : Y % B64 ^ k = Y := Nat.mod_eq_of_lt HY.out.lt
      rw [hYm] at hlies
      have hng : Ng wr (some ⟨g, 0, none⟩) (n + k) cr (X * Y) := ⟨by rw [Nat.pow_add]; exact Nat.mul_lt_mul'' HX.out.lt HY.out.lt, hcr, hlies.rd⟩
      have HNG := Lib.hid hng
      clear hYm hlies hng
      go_wp2_with fail
      refine (trim_any (some ⟨g, 0, none⟩) (n + k) cr (X * Y) _ (by omega) HNG.out).mono ?_
      rintro e w' ⟨q, hq, rfl, hnm, rfl⟩
      have HNM := Lib.hid hnm
      clear hnm
      go_wp2
      go_ret
      refine ⟨_, q, cr, hq, rfl, HNM.out, hg2, ?_⟩
      rcases HGB.out with h | h
      · exact .inl (by rw [h]; rfl)
      · exact .inr (fun z hz => by simp [Value.ownBlock] at hz; omega)
end Go.Proofs.Ytoolljoejioigaa
