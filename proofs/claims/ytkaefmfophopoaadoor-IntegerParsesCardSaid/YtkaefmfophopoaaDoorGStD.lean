import Derived.Test.YtkaefmfophopoaaDoorGStC
import Derived.Test.YtkaefmfophopoaaDoorGRefO
import Derived.Test.YtkaefmfophopoaaDoorGRefG

/-
  The reference's decimal digits of an integer.
-/
namespace Go.Proofs.YtkaefmfophopoaaDoor
open Go.RowKit

theorem mag_digit {r : Nat} (h0 : 0 < r) (h : r < 256) : mag r = ⟨#[UInt8.ofNat r]⟩ := by
  unfold mag
  rw [magL_pos (by omega), Nat.div_eq_of_lt h, magL_zero, Nat.mod_eq_of_lt h]
  rfl

set_option maxHeartbeats 8000000 in
set_option maxRecDepth 100000 in
theorem small_any (r : Nat) (h : r < 256) (m : ByteArray) (hm : m = mag r) (w : World) :
    Calls Tryd.prog 40 #[.agg #[.bool false, .string m]] w (RetB w (.int .i64 (r : Int))) := by
  obtain ⟨W, hW⟩ : ∃ W, W = w.alloc (.cells #[.bool false, .string m] 23) := ⟨_, rfl⟩
  have hbl : Below w.heap.size w W := by rw [hW]; exact (Below.refl _ _).alloc (Nat.le_refl _) _
  have hk : W.heap[w.heap.size]? = some (.cells #[.bool false, .string m] 23 (0, 0)) := by rw [hW]; exact heap_alloc_new _ _
  obtain ⟨c0, c1, _, _⟩ := blk_cells hk
  by_cases h0 : r = 0
  · have hz : m.size = 0 := by rw [hm, h0]; exact mag_zero_iff.2 rfl
    subst h0
    clear hm hk
    go_enter Tryd.func40, Tryd.ntmps40
    go_wp2_with fail
    rw [← hW]
    clear hW
    go_loopw [3, 4] (fun n i wr => n = .int .i64 0 ∧ i = .int .i64 0 ∧ wr = W) (fun _ _ _ => 0)
    case atStart => exact ⟨rfl, rfl, rfl⟩
    case round =>
      obtain ⟨rfl, rfl, rfl⟩ := hrel
      go_wp2
      go_ret
      exact ⟨rfl, hbl⟩
  · obtain rfl : m = ⟨#[UInt8.ofNat r]⟩ := by rw [hm]; exact mag_digit (by omega) h
    have hg : ∀ h, ((⟨#[UInt8.ofNat r]⟩ : ByteArray)[0]'h).toNat = r := fun h => by show (UInt8.ofNat r).toNat = r; simp; omega
    clear hm hk
    go_enter Tryd.func40, Tryd.ntmps40
    go_wp2_with fail
    rw [← hW]
    clear hW
    go_loopw [3, 4] (fun n i wr => ∃ k : Nat, k ≤ 1 ∧ i = .int .i64 (k : Int) ∧ n = .int .i64 ((r * k : Nat) : Int) ∧ wr = W) (fun _ i _ => 1 - (RowKit.intOf i).toNat)
    case atStart => exact ⟨0, by omega, rfl, rfl, rfl⟩
    case round =>
      obtain ⟨k, hk, rfl, rfl, rfl⟩ := hrel
      rcases k with _ | _ | k
      · go_wp2_with fail
        exact ⟨⟨1, by omega, rfl, by simp, by first | rfl | trivial⟩, by simp [RowKit.intOf]⟩
      · go_wp2
        go_ret
        exact ⟨by simp, hbl⟩
      · omega

theorem cat_one (x : UInt8) (l : List UInt8) : (⟨#[x]⟩ ++ ⟨l.toArray⟩ : ByteArray) = ⟨(x :: l).toArray⟩ := by
  apply ByteArray.ext
  simp

/-- Three integers of a function that lie in blocks of their own. -/
structure P3 (w : World) (T : TypeId) (ba bt bx : Nat) (a0 a1 t0 t1 x0 x1 : Value) (wr : World) : Prop where
  ka : wr.heap[ba]? = some (.cells #[a0, a1] T (0, 0))
  kt : wr.heap[bt]? = some (.cells #[t0, t1] T (0, 0))
  kx : wr.heap[bx]? = some (.cells #[x0, x1] T (0, 0))
  la : w.heap.size ≤ ba
  lt : ba < bt
  lx : bt < bx
  sz : bx < wr.heap.size
  bel : Below w.heap.size w wr

theorem P3.next {w : World} {T : TypeId} {ba bt bx : Nat} {a0 a1 t0 t1 x0 x1 : Value} {wr w2 : World} (h : P3 w T ba bt bx a0 a1 t0 t1 x0 x1 wr) (hb : Below wr.heap.size wr w2) : P3 w T ba bt bx a0 a1 t0 t1 x0 x1 w2 := by
  have h1 := h.la; have h2 := h.lt; have h3 := h.lx; have h4 := h.sz; have h5 := hb.size
  exact ⟨(hb.block _ (by omega)).trans h.ka, (hb.block _ (by omega)).trans h.kt, (hb.block _ (by omega)).trans h.kx, h1, h2, h3, by omega, h.bel.trans (hb.mono (by omega))⟩

theorem P3.setX {w : World} {T : TypeId} {ba bt bx : Nat} {a0 a1 t0 t1 x0 x1 : Value} {wr : World} (h : P3 w T ba bt bx a0 a1 t0 t1 x0 x1 wr) (x y : Value) : P3 w T ba bt bx a0 a1 t0 t1 x y ((wr.setCell ⟨bx, 0, none⟩ x).setCell ⟨bx, 1, none⟩ y) := by
  have h1 := h.la; have h2 := h.lt; have h3 := h.lx; have h4 := h.sz
  exact ⟨(two_other (by omega) x y).trans h.ka, (two_other (by omega) x y).trans h.kt, two_set h.kx x y, h1, h2, h3, by rw [two_size]; exact h4, (h.bel.setCell (by show w.heap.size ≤ bx; omega) _).setCell (by show w.heap.size ≤ bx; omega) _⟩

/-- What is behind the digits taken so far. -/
def Dd (X R : Nat) (l : List UInt8) : Prop := R ≤ X ∧ (0 < R → Lib.decDigits X = Lib.decDigits R ++ l) ∧ (R = 0 → l = if X = 0 then [] else Lib.decDigits X)

theorem Dd.start (X : Nat) : Dd X X [] := ⟨Nat.le_refl _, fun _ => by simp, fun h => by simp [h]⟩

theorem Dd.len {X R : Nat} {l : List UInt8} (h : Dd X R l) : l.length ≤ Lib.nDigits X := by
  obtain ⟨_, h2, h3⟩ := h
  rcases Nat.eq_zero_or_pos R with h0 | h0
  · rw [h3 h0]
    split
    · simp
    · rw [Lib.decDigits_length]; exact Nat.le_refl _
  · have := congrArg List.length (h2 h0)
    rw [List.length_append, Lib.decDigits_length] at this
    omega

theorem digits_pow {X K : Nat} (h : X < 256 ^ K) : Lib.nDigits X ≤ 3 * K + 1 := by
  have h2 : 256 ^ K ≤ (10 ^ 3) ^ K := Nat.pow_le_pow_left (by decide) K
  rw [← Nat.pow_mul] at h2
  refine nDigits_le (3 * K) X (Nat.lt_of_lt_of_le (Nat.lt_of_lt_of_le h h2) (Nat.pow_le_pow_right (by decide) (by omega)))

theorem digits_few {X : Nat} {m : ByteArray} (hm : m = mag X) (hs : m.size ≤ 1000) : Lib.nDigits X ≤ 3001 := by
  have h1 : X < 256 ^ m.size := by rw [hm]; exact lt_of_mag
  have := digits_pow h1
  omega

theorem Dd.step {X R : Nat} {l : List UInt8} (h : Dd X R l) (hR : 0 < R) : Dd X (R / 10) (UInt8.ofNat (48 + R % 10) :: l) := by
  obtain ⟨h1, h2, _⟩ := h
  have h3 := h2 hR
  refine ⟨by omega, fun h4 => ?_, fun h4 => ?_⟩
  · rw [h3, Lib.decDigits, dif_neg (by omega)]
    simp
  · rw [if_neg (by omega), h3, Lib.decDigits, dif_pos (by omega), Nat.mod_eq_of_lt (by omega)]
    simp

set_option maxHeartbeats 8000000 in
set_option maxRecDepth 100000 in
theorem refPrint_any (neg : Bool) (X : Nat) (m : ByteArray) (hm : m = mag X) (hs : m.size ≤ 1000) (w : World) :
    Calls Tryd.prog 14 #[.agg #[.bool neg, .string m]] w (RetB w (.string ⟨(printed neg X).toArray⟩)) := by
  have HM := Lib.hid hm
  clear hm
  obtain ⟨mt, hmt⟩ : ∃ m, m = mag 10 := ⟨_, rfl⟩
  have hfi : ∀ V, Calls Tryd.prog 39 #[.int .i64 10] V (RetB V (.agg #[.bool false, .string mt])) := fun V => by
    have h := refFromInt_pos 10 (by omega) V
    unfold RetZ at h
    rw [enc_nat, ← hmt] at h
    exact h
  have HFI := Lib.hid hfi
  have HMT := Lib.hid hmt
  have HAB := Lib.hid (fun V => refAbs_pair neg m V)
  clear hfi hmt
  go_enter Tryd.func14, Tryd.ntmps14
  go_wp2_with fail
  refine (HFI.out _).mono ?_
  rintro e w1 ⟨rfl, hb1⟩
  have ka1 : w1.heap[w.heap.size]? = some (.cells #[.bool neg, .string m] 23 (0, 0)) := (hb1.block _ (by simp)).trans (heap_alloc_new _ _)
  have hs1 := hb1.size
  simp at hs1
  have ka2 : (w1.alloc (.cells #[.bool false, .string mt] 23)).heap[w.heap.size]? = some (.cells #[.bool neg, .string m] 23 (0, 0)) := (Below.heap_alloc _ _ _ (by omega)).trans ka1
  have kt2 : (w1.alloc (.cells #[.bool false, .string mt] 23)).heap[w1.heap.size]? = some (.cells #[.bool false, .string mt] 23 (0, 0)) := heap_alloc_new _ _
  have hb2 : Below w.heap.size w (w1.alloc (.cells #[.bool false, .string mt] 23)) := (((Below.refl _ _).alloc (Nat.le_refl _) _).trans (hb1.mono (by simp))).alloc (by omega) _
  obtain ⟨W, hW⟩ : ∃ W, W = w1.alloc (.cells #[.bool false, .string mt] 23) := ⟨_, rfl⟩
  have hsW : W.heap.size = w1.heap.size + 1 := by rw [hW]; simp
  rw [← hW] at ka2 kt2 hb2
  obtain ⟨c0, c1, _, _⟩ := blk_cells ka2
  rw [hW] at c0 c1
  clear ka1 hb1
  go_wp2_with fail
  refine (HAB.out _).mono ?_
  rintro e w2 ⟨rfl, hb3⟩
  rw [← hW] at hb3
  have hs3 := hb3.size
  obtain ⟨bt, hbt⟩ : ∃ bt, bt = w1.heap.size := ⟨_, rfl⟩
  rw [← hbt] at kt2 hsW hs1
  have PP := Lib.hid (show P3 w 23 w.heap.size bt w2.heap.size (.bool neg) (.string m) (.bool false) (.string mt) (.bool false) (.string m) (w2.alloc (.cells #[.bool false, .string m] 23)) from
    ⟨(Below.heap_alloc _ _ _ (by omega)).trans ((hb3.block _ (by omega)).trans ka2), (Below.heap_alloc _ _ _ (by omega)).trans ((hb3.block _ (by omega)).trans kt2), heap_alloc_new _ _, Nat.le_refl _, by omega, by omega, by simp, (hb2.trans (hb3.mono (by omega))).alloc (by omega) _⟩)
  have HBT := Lib.hid hbt
  clear c0 c1 ka2 kt2 hb2 hb3 hW hbt
  go_wp2_with fail
  rw [← HBT.out]
  go_loopg [3] X (fun R sv wr => ∃ (l : List UInt8) (mx : ByteArray), sv = .string ⟨l.toArray⟩ ∧ Hid (mx = mag R ∧ Dd X R l) ∧ mx.size ≤ 1000 ∧ Hid (P3 w 23 w.heap.size bt w2.heap.size (.bool neg) (.string m) (.bool false) (.string mt) (.bool false) (.string mx) wr))
  case atStart => exact ⟨[], m, rfl, ⟨HM.out, Dd.start X⟩, hs, PP⟩
  case round =>
    obtain ⟨l, mx, rfl, HD, hsx, PP⟩ := hrel
    have hll : l.length ≤ 3001 := Nat.le_trans HD.out.2.len (digits_few HM.out hs)
    obtain ⟨a0, a1, _, _⟩ := blk_cells PP.out.ka
    obtain ⟨t0, t1, _, _⟩ := blk_cells PP.out.kt
    obtain ⟨x0, x1, _, _⟩ := blk_cells PP.out.kx
    by_cases hz : 0 < mx.size
    · have hR : 0 < gk := by
        rcases Nat.eq_zero_or_pos gk with h | h
        · have h1 := HD.out.1
          rw [h] at h1
          rw [h1, mag_zero_iff.2 rfl] at hz
          omega
        · exact h
      have hbx : bval mx = gk := by rw [HD.out.1, bval_mag]
      have hbt' : bval mt = 10 := by rw [HMT.out, bval_mag]
      obtain ⟨mr, hmr⟩ : ∃ m, m = mag (gk % 10) := ⟨_, rfl⟩
      obtain ⟨mq, hmq⟩ : ∃ m, m = mag (gk / 10) := ⟨_, rfl⟩
      have hst : mt.size ≤ 1 := by rw [HMT.out]; exact mag_size_le (by decide)
      have HDM := Lib.hid (fun V => refDivMod_pos mx mt (by omega) (by omega) (by rw [hbt']; decide) false false mq mr (by rw [hbx, hbt', hmq]; exact enc_nat _) (by rw [hbx, hbt', hmr]; exact enc_nat _) V)
      have HSM := Lib.hid (fun V => small_any (gk % 10) (by omega) mr hmr V)
      have hsq : mq.size ≤ 1000 := by
        have h1 : gk < 256 ^ mx.size := by rw [HD.out.1]; exact lt_of_mag
        have := mag_size_le (Nat.lt_of_le_of_lt (Nat.div_le_self gk 10) h1)
        rw [← hmq] at this
        omega
      have HMQ := Lib.hid hmq
      have hzd : decide (0 < mx.size) = true := by simpa using hz
      clear hbx hbt' hmr hmq hst
      go_wp2_with fail
      refine (HDM.out _).mono ?_
      rintro e w3 ⟨rfl, hb3⟩
      obtain ⟨V, hV⟩ : ∃ V, V = (w3.alloc (.cells #[.bool false, .string mq] 23)).alloc (.cells #[.bool false, .string mr] 23) := ⟨_, rfl⟩
      have hbV : Below w3.heap.size w3 V := by rw [hV]; exact ((Below.refl _ _).alloc (Nat.le_refl _) _).alloc (by simp) _
      have PV := Lib.hid ((PP.out.next hb3).next hbV)
      have hsV : V.heap.size = w3.heap.size + 2 := by rw [hV]; simp
      have hq3 : V.heap[w3.heap.size]? = some (.cells #[.bool false, .string mq] 23 (0, 0)) := by rw [hV]; exact (Below.heap_alloc _ _ _ (by simp)).trans (heap_alloc_new _ _)
      have hr3 : V.heap[w3.heap.size + 1]? = some (.cells #[.bool false, .string mr] 23 (0, 0)) := by rw [hV]; exact heap_two _ _ _
      obtain ⟨r0, r1, _, _⟩ := blk_cells hr3
      obtain ⟨q0, q1, _, _⟩ := blk_cells hq3
      have HV := Lib.hid hV
      rw [hV] at r0 r1
      obtain ⟨r, hr⟩ : ∃ r, gk % 10 = r := ⟨_, rfl⟩
      have hr10 : r < 10 := by omega
      rw [hr] at HSM
      have HR := Lib.hid hr
      clear a0 a1 t0 t1 x0 x1 hb3 hbV hr3 hV hr
      go_wp2_with fail
      refine (HSM.out _).mono ?_
      rintro e w4 ⟨rfl, hb4⟩
      rw [← HV.out] at hb4
      have P4 := Lib.hid (PV.out.next hb4)
      have hs4 := hb4.size
      have hq4 : w4.heap[w3.heap.size]? = some (.cells #[.bool false, .string mq] 23 (0, 0)) := (hb4.block _ (by omega)).trans hq3
      obtain ⟨x, hx⟩ : ∃ x, UInt8.ofNat (48 + r) = x := ⟨_, rfl⟩
      have hxn : (x.toNat : Int) = 48 + (r : Int) := by rw [← hx]; simp; omega
      have hcv : (convert 34 9 (.slice (some ⟨w4.heap.size, 0, none⟩) 1 1)).run Tryd.prog (w4.alloc (.cells #[.int .u8 (48 + (r : Int))] 5)) = .ok (.string ⟨#[x]⟩) (w4.alloc (.cells #[.int .u8 (48 + (r : Int))] 5)) := by
        have h := run_convert_bytes_back (P := Tryd.prog) (w4.alloc (.cells #[.int .u8 (48 + (r : Int))] 5)) 34 9 5 ⟨w4.heap.size, 0, none⟩ 1 [x] Tryd.underlying34 Tryd.underlying5 Tryd.underlying9 (fun j hj => by
          obtain rfl : j = 0 := by simp at hj; omega
          rw [Lib.add_plain]
          show _ = some (Value.int .u8 (x.toNat : Int))
          rw [hxn]
          simp)
        exact h
      have hb5 : Below w4.heap.size w4 (w4.alloc (.cells #[.int .u8 (48 + (r : Int))] 5)) := (Below.refl _ _).alloc (Nat.le_refl _) _
      have P5 := Lib.hid (P4.out.next hb5)
      have hq5 := (hb5.block _ (by omega)).trans hq4
      obtain ⟨q0, q1, _, _⟩ := blk_cells hq5
      obtain ⟨_, _, y0, y1⟩ := blk_cells P5.out.kx
      have P6 := Lib.hid (P5.out.setX (.bool false) (.string mq))
      have HX := Lib.hid hx
      clear hq3 hb4 hxn hb5 hq5 hq4 hx
      go_wp2_with fail
      go_roundg (gk / 10)
      case measure => exact Nat.div_lt_self hR (by decide)
      case rel => exact ⟨x :: l, mq, by rw [cat_one], ⟨HMQ.out, by rw [← HX.out, ← HR.out]; exact HD.out.2.step hR⟩, hsq, P6.out⟩
    · have hzd : decide (0 < mx.size) = false := by simpa using hz
      have hR : gk = 0 := by
        have h1 := HD.out.1
        have h2 : mx.size = 0 := by omega
        rw [h1] at h2
        exact mag_zero_iff.1 h2
      have hl := HD.out.2.2.2 hR
      by_cases hX : X = 0
      · rw [if_pos hX] at hl
        subst hl
        go_wp2
        go_ret
        exact ⟨by rw [hX]; rfl, PP.out.bel⟩
      · rw [if_neg hX] at hl
        have hne : l ≠ [] := by rw [hl]; intro h; have := Lib.decDigits_length X; rw [h] at this; have := Lib.nDigits_pos X; simp at *; omega
        have hie : l.isEmpty = false := by cases l with | nil => exact absurd rfl hne | cons => rfl
        have hpr : printed neg X = signOf neg ++ l := by rw [hl]; exact printed_pos hX
        have HPR := Lib.hid hpr
        clear hl hpr hX hR hne
        cases neg
        · go_wp2
          go_ret
          exact ⟨by rw [HPR.out]; rfl, PP.out.bel⟩
        · go_wp2
          go_ret
          exact ⟨by rw [HPR.out]; exact congrArg (fun z => Ending.returned (.string z)) (cat_one 45 l), PP.out.bel⟩
end Go.Proofs.YtkaefmfophopoaaDoor
