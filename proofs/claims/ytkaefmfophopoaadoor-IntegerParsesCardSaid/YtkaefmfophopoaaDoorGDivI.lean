import Derived.Test.YtkaefmfophopoaaDoorGDivH
import Derived.Test.YtkaefmfophopoaaDoorGDivD
import Derived.Test.YtkaefmfophopoaaDoorGIntS
import Derived.Deep.RegionWith

/-
  The program's division of digits: the numbers of the loop; the simple cases.
-/
namespace Go.Proofs.YtkaefmfophopoaaDoor
open Go.RowKit
attribute [local go_sem ↓] Go.wp_at_zero Go.wp_at_succ

/-- A call that hands back the digits of a quotient, in new memory, and those of a remainder, in new memory or in the dividend's. -/
def RetQR (w : World) (A : Option Addr) (Q R NQ NR : Nat) (e : Ending) (w' : World) : Prop :=
  ∃ Aq nq cq Ar nr cr, nq ≤ NQ ∧ nr ≤ NR ∧ e = .returned (.tuple #[.slice Aq nq cq, .slice Ar nr cr]) ∧ Nm w' Aq nq cq Q ∧ Nm w' Ar nr cr R ∧ Below w.heap.size w w' ∧
    (∀ k, Value.ownBlock (.slice Aq nq cq) = some k → w.heap.size ≤ k) ∧ (Ar = A ∨ ∀ k, Value.ownBlock (.slice Ar nr cr) = some k → w.heap.size ≤ k)

/-- The same, where the divisor is not greater; the memory of the remainder may be written. -/
def RetQRo (w : World) (Q R NQ NR : Nat) (e : Ending) (w' : World) : Prop :=
  ∃ Aq nq cq Ar nr cr, nq ≤ NQ ∧ nr ≤ NR ∧ e = .returned (.tuple #[.slice Aq nq cq, .slice Ar nr cr]) ∧ Nm w' Aq nq cq Q ∧ Nm w' Ar nr cr R ∧ Below w.heap.size w w' ∧
    (∀ k, Value.ownBlock (.slice Aq nq cq) = some k → w.heap.size ≤ k) ∧ (∀ k, Value.ownBlock (.slice Ar nr cr) = some k → w.heap.size ≤ k) ∧ Own w' w.heap.size (.slice Ar nr cr) nr (nums .u64 (D B64 R) nr)

/-- The rest so far: the digits from place k on are done. -/
def rsN (X Y k : Nat) : Nat := X / B64 ^ k % Y * B64 ^ k + X % B64 ^ k
/-- The window at place j. -/
def wdN (X Y j : Nat) : Nat := X / B64 ^ (j + 1) % Y * B64 + D B64 X j

theorem rs_wd (X Y j : Nat) : rsN X Y (j + 1) = wdN X Y j * B64 ^ j + X % B64 ^ j := by
  unfold rsN wdN
  rw [mod_succ]
  generalize X / B64 ^ (j + 1) % Y = Z
  rw [Nat.pow_succ', Nat.add_mul, Nat.mul_assoc, Nat.mul_comm (B64 ^ j) (D B64 X j)]
  omega

theorem wd_lt {X Y j m : Nat} (hY : 0 < Y) (hYm : Y < B64 ^ m) : wdN X Y j < Y * B64 ∧ wdN X Y j < B64 ^ (m + 1) := by
  have h1 := Nat.mod_lt (X / B64 ^ (j + 1)) hY
  have h2 := D_lt B64_pos X j
  unfold wdN
  generalize X / B64 ^ (j + 1) % Y = Z at *
  have h3 : (Z + 1) * B64 ≤ Y * B64 := Nat.mul_le_mul_right _ h1
  rw [Nat.add_mul, Nat.one_mul] at h3
  have h4 : Y * B64 ≤ B64 ^ m * B64 := Nat.mul_le_mul_right _ (Nat.le_of_lt hYm)
  rw [Nat.pow_succ]
  omega

theorem win_digit {V lo j i : Nat} (hlo : lo < B64 ^ j) : D B64 (V * B64 ^ j + lo) (j + i) = D B64 V i := by
  rw [D_high (k := j) (by omega), Nat.add_sub_cancel_left, Nat.mul_comm V, Nat.mul_add_div (Nat.pow_pos B64_pos), Nat.div_eq_of_lt hlo, Nat.add_zero]
theorem low_digit {V lo j i : Nat} (hi : i < j) : D B64 (V * B64 ^ j + lo) i = D B64 lo i := by
  rw [Nat.add_comm, Nat.mul_comm]
  exact D_low B64_pos hi

/-- The window's digits, the digit of the quotient, and what the step leaves. -/
theorem step_win {X Y j m : Nat} (hY : 0 < Y) (hYm : Y < B64 ^ m) :
    (∀ i, D B64 (rsN X Y (j + 1)) (j + i) = D B64 (wdN X Y j) i) ∧ wdN X Y j / Y = D B64 (X / Y) j ∧ ∀ i, wnF (D B64 (rsN X Y (j + 1))) j m (wdN X Y j % Y) i = D B64 (rsN X Y j) i := by
  have hlo : X % B64 ^ j < B64 ^ j := Nat.mod_lt _ (Nat.pow_pos B64_pos)
  obtain ⟨d1, d2⟩ := dw_step (b := B64) (X := X) (d := Y) (j := j) B64_pos hY
  have hd2 : wdN X Y j % Y = X / B64 ^ j % Y := d2
  refine ⟨fun i => by rw [rs_wd]; exact win_digit hlo, d1, fun i => ?_⟩
  rw [hd2]
  unfold wnF
  by_cases e : j ≤ i ∧ i ≤ j + m
  · rw [if_pos e]
    obtain ⟨r, rfl⟩ : ∃ r, i = j + r := ⟨i - j, by omega⟩
    rw [Nat.add_sub_cancel_left]
    exact (win_digit hlo).symm
  · rw [if_neg e, rs_wd]
    by_cases e2 : i < j
    · rw [low_digit e2]
      exact (low_digit e2).symm
    · obtain ⟨r, rfl⟩ : ∃ r, i = j + r := ⟨i - j, by omega⟩
      rw [win_digit hlo, D_zero_of B64_pos (wd_lt hY hYm).2 (by omega)]
      have h : D B64 (rsN X Y j) (j + r) = D B64 (X / B64 ^ j % Y) r := win_digit hlo
      rw [h, D_zero_of B64_pos (n := m) (Nat.lt_trans (Nat.mod_lt _ hY) hYm) (by omega)]

/-- The divisor's first digit, shifted to its full length. -/
theorem top_shift {Y m : Nat} (hm : 0 < m) (hY : Y < B64 ^ m) (ht : B64 ^ (m - 1) ≤ Y) : ∃ s, 64 - Lib.bitLen (D B64 Y (m - 1)) = s ∧ s ≤ 63 ∧ B64 ^ m ≤ 2 * (Y * 2 ^ s) ∧ Y * 2 ^ s < B64 ^ m := by
  obtain ⟨k, rfl⟩ : ∃ k, m = k + 1 := ⟨m - 1, by omega⟩
  rw [Nat.add_sub_cancel] at *
  have hd0 : D B64 Y k ≠ 0 := D_pos B64_pos ht hY
  have hdl := D64_lt Y k
  obtain ⟨h1, h2, h3⟩ := bitLen_bounds (D B64 Y k) hd0 (by omega)
  have h4 := Lib.bitLen_le (D B64 Y k) 64 (by omega) (by omega)
  have hs := split1 hY
  have hl := Nat.mod_lt Y (show 0 < B64 ^ k from Nat.pow_pos B64_pos)
  generalize Lib.bitLen (D B64 Y k) = l at *
  generalize D B64 Y k = y at *
  generalize Y % B64 ^ k = r at *
  have hp : 0 < 2 ^ (64 - l) := Nat.pow_pos (by omega)
  have eb : B64 ^ (k + 1) = B64 * B64 ^ k := Nat.pow_succ'
  refine ⟨64 - l, rfl, by omega, ?_, ?_⟩
  · have e : 2 * 2 ^ (l - 1) * 2 ^ (64 - l) = B64 := by
      rw [← Nat.pow_succ', ← Nat.pow_add, show l - 1 + 1 + (64 - l) = 64 by omega]; rfl
    have h5 : 2 * 2 ^ (l - 1) * 2 ^ (64 - l) * B64 ^ k ≤ 2 * y * 2 ^ (64 - l) * B64 ^ k := Nat.mul_le_mul_right _ (Nat.mul_le_mul_right _ (Nat.mul_le_mul_left _ h2))
    rw [e, ← eb] at h5
    have h6 : y * B64 ^ k * 2 ^ (64 - l) ≤ Y * 2 ^ (64 - l) := Nat.mul_le_mul_right _ (show y * B64 ^ k ≤ Y by omega)
    have e6 : 2 * y * 2 ^ (64 - l) * B64 ^ k = 2 * (y * B64 ^ k * 2 ^ (64 - l)) := by ac_rfl
    omega
  · have e : 2 ^ l * 2 ^ (64 - l) = B64 := by
      rw [← Nat.pow_add, show l + (64 - l) = 64 by omega]; rfl
    have h5 : (y + 1) * (2 ^ (64 - l) * B64 ^ k) ≤ 2 ^ l * (2 ^ (64 - l) * B64 ^ k) := Nat.mul_le_mul_right _ h3
    rw [← Nat.mul_assoc (2 ^ l), e, ← eb] at h5
    have h6 : Y < (y + 1) * B64 ^ k := by rw [Nat.add_mul, Nat.one_mul]; omega
    have h7 : Y * 2 ^ (64 - l) < (y + 1) * B64 ^ k * 2 ^ (64 - l) := Nat.mul_lt_mul_of_pos_right h6 hp
    have e7 : (y + 1) * B64 ^ k * 2 ^ (64 - l) = (y + 1) * (2 ^ (64 - l) * B64 ^ k) := by ac_rfl
    omega

theorem shiftLeft_0 (A : Option Addr) (n c X s : Nat) (w : World) (hn : n ≤ 100000000) (hs : s ≤ 63) (hx : Ng w A n c X) :
    Calls Tryd.prog 75 #[.slice A n c, .int .i64 (s : Int)] w (RetNew w (n + 1) (X * 2 ^ s)) := by
  have h := shiftLeft_any A n c X s 0 s w hn (by omega) (by omega) (by omega) hx
  rw [Nat.pow_zero, Nat.mul_one] at h
  exact h
theorem shiftRight_0o (A : Option Addr) (n c X s : Nat) (w : World) (hn : n ≤ 100000000) (hs : s ≤ 63) (hx : Ng w A n c X) :
    Calls Tryd.prog 77 #[.slice A n c, .int .i64 (s : Int)] w (RetNo w (X / 2 ^ s) n) := by
  have h := shiftRight_own A n c X s 0 s w hn (by omega) (by omega) (by omega) hx
  rw [Nat.pow_zero, Nat.mul_one] at h
  exact h
theorem shiftRight_0 (A : Option Addr) (n c X s : Nat) (w : World) (hn : n ≤ 100000000) (hs : s ≤ 63) (hx : Ng w A n c X) :
    Calls Tryd.prog 77 #[.slice A n c, .int .i64 (s : Int)] w (RetN w (X / 2 ^ s) n) := by
  have h := shiftRight_any A n c X s 0 s w hn (by omega) (by omega) (by omega) hx
  rw [Nat.pow_zero, Nat.mul_one] at h
  exact h

set_option maxHeartbeats 2000000 in
set_option maxRecDepth 100000 in
theorem divide_less (A B : Option Addr) (n m c d X Y : Nat) (w : World) (hn : n ≤ 100000000) (hm : m ≤ 100000000) (hx : Nm w A n c X) (hy : Nm w B m d Y) (hlt : X < Y) :
    Calls Tryd.prog 51 #[.slice A n c, .slice B m d] w (RetQR w A (X / Y) (X % Y) n n) := by
  have HC := Lib.hid (compare_any A B n m c d X Y w (by omega) (by omega) hx hy)
  rw [ord_lt hlt] at HC
  rw [Nat.div_eq_of_lt hlt, Nat.mod_eq_of_lt hlt]
  have HX := Lib.hid hx
  clear hx hy hlt
  go_enter Tryd.func51, Tryd.ntmps51
  go_wp2_with fail
  refine HC.out.mono ?_
  rintro e w1 ⟨rfl, hd⟩
  go_wp2
  go_ret2
  exact ⟨none, 0, 0, A, n, c, Nat.zero_le _, Nat.le_refl _, rfl, Nm.nil _, HX.out.drew hd, hd.below _, fun z hz => by simp [Value.ownBlock] at hz, .inl rfl⟩

theorem ord_ge {X Y : Nat} (h : Y ≤ X) : ∃ o : Int, ord X Y = o ∧ 0 ≤ o := ⟨_, rfl, by unfold ord; rw [if_neg (by omega)]; split <;> omega⟩

theorem rd_one (w : World) (g : Nat) (T : TypeId) (a : Nat) (f : Nat → Nat) (h : w.heap[g]? = some (.cells #[.int .u64 (a : Int)] T (0, 0))) (h0 : f 0 = a) : Rd w .u64 (some ⟨g, 0, none⟩) 1 f := fun _ => by
  refine ⟨g, 0, rfl, (Array.getElem?_eq_some_iff.1 h).1, fun i hi => ?_⟩
  obtain rfl : i = 0 := by omega
  rw [h0]; simp [World.cell?, h]

set_option maxHeartbeats 2000000 in
set_option maxRecDepth 100000 in
theorem divide_word (A B : Option Addr) (n c d X Y : Nat) (w : World) (hn : n ≤ 100000000) (hx : Nm w A n c X) (hy : Nm w B 1 d Y) (hle : Y ≤ X) :
    Calls Tryd.prog 51 #[.slice A n c, .slice B 1 d] w (RetQR w A (X / Y) (X % Y) n 1) := by
  have HC := Lib.hid (compare_any A B n 1 c d X Y w (by omega) (by omega) hx hy)
  obtain ⟨o, ho, ho0⟩ := ord_ge hle
  rw [ho] at HC
  have hY := hy.lt
  have hY1 := hy.top (by omega)
  rw [Nat.pow_one] at hY
  rw [Nat.sub_self, Nat.pow_zero] at hY1
  obtain ⟨g, p, rfl, hg, hcell⟩ := hy.rd (by omega)
  have hc0 := hcell 0 (by omega)
  have hd0 : D B64 Y 0 = Y := by unfold D; rw [Nat.pow_zero, Nat.div_one, Nat.mod_eq_of_lt hY]
  rw [hd0, Nat.add_zero] at hc0
  have hdw := fun V (hV : Drew w V) => divideWord_any A n c X Y V (by omega) hY1 (by rw [← B64_eq]; exact hY) (hx.drew hV).toNg
  have hR : X % Y < 18446744073709551616 := by have := Nat.mod_lt X hY1; rw [B64_eq] at hY; omega
  have HDW := Lib.hid hdw
  have HRL := Lib.hid (show X % Y < B64 ^ 1 by rw [Nat.pow_one, B64_eq]; exact hR)
  have hDR : D B64 (X % Y) 0 = X % Y := by unfold D; rw [Nat.pow_zero, Nat.div_one, B64_eq, Nat.mod_eq_of_lt hR]
  have HDR := Lib.hid hDR
  clear hdw hx hy hcell hd0 hle ho hDR
  generalize X % Y = R at *
  generalize X / Y = Q at *
  go_enter Tryd.func51, Tryd.ntmps51
  go_wp2_with fail
  refine HC.out.mono ?_
  rintro e w1 ⟨rfl, hd⟩
  have hc1 := (hd.cell ⟨g, p, none⟩).trans hc0
  have HD := Lib.hid hd
  clear hd
  go_wp2_with fail
  refine (HDW.out _ HD.out).mono ?_
  rintro e w2 ⟨Aq, nq, cq, hnq, rfl, hq, hb2, hf2⟩
  have HQ := Lib.hid hq
  have HB2 := Lib.hid hb2
  have HF2 := Lib.hid hf2
  clear hq hb2 hf2 hc1
  go_wp2_with fail
  refine (trim_any (some ⟨w2.heap.size, 0, none⟩) 1 1 R _ (by omega) ⟨HRL.out, Nat.le_refl _, rd_one _ _ _ R _ (heap_one _ _) HDR.out⟩).mono ?_
  rintro e w3 ⟨k, hk, rfl, hnm, rfl⟩
  have HNM := Lib.hid hnm
  clear hnm
  have hbb : Below w2.heap.size w2 (w2.alloc (.cells #[.int .u64 (R : Int)] 39)) := (Below.refl _ _).alloc (Nat.le_refl _) _
  have hss : w.heap.size ≤ w2.heap.size := by have := (HD.out.below w.heap.size).size; have := HB2.out.size; omega
  have hs1 : w.heap.size ≤ w1.heap.size := (HD.out.below w.heap.size).size
  go_wp2
  go_ret2
  refine ⟨Aq, nq, cq, _, k, 1, hnq, hk, rfl, ⟨HQ.out.toNg.below hbb, HQ.out.top⟩, HNM.out, ?_, fun z hz => ?_, .inr fun z hz => ?_⟩
  · exact ((HD.out.below _).trans (HB2.out.mono hs1)).trans (hbb.mono hss)
  · have := HF2.out z hz; omega
  · simp [Value.ownBlock] at hz; omega
end Go.Proofs.YtkaefmfophopoaaDoor
