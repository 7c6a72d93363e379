import Derived.Test.YtkaefmfophopoaaDoorGRefC
import Derived.Test.YtkaefmfophopoaaDoorGLawC
import Derived.Test.YtkaefmfophopoaaDoorGDivI
import Derived.Deep.RegionLaw

/-
  The reference's sum, with the number of its digits; and its quotients, binary digit by binary digit.
-/
namespace Go.Proofs.YtkaefmfophopoaaDoor
open Go.RowKit
attribute [local go_sem ↓] Go.wp_at_zero Go.wp_at_succ

/-- A call that hands back the digits of a sum, no more than are needed behind those of the summands. -/
def RetS (w : World) (n m X Y : Nat) (e : Ending) (w' : World) : Prop :=
  ∃ A k c, e = .returned (.slice A k c) ∧ Dg w' .i64 256 A k (X + Y) ∧ Below w.heap.size w w' ∧ (k ≤ n ∨ k ≤ m ∨ ((k = n + 1 ∨ k = m + 1) ∧ 256 ^ n ≤ X + Y ∧ 256 ^ m ≤ X + Y))

set_option maxHeartbeats 1000000 in
set_option maxRecDepth 100000 in
theorem sum_tight (A B : Option Addr) (n m c d X Y : Nat) (w : World) (hn : n ≤ 100000000000) (hm : m ≤ 100000000000) (hx : Dg w .i64 256 A n X) (hy : Dg w .i64 256 B m Y) :
    Calls Tryd.prog 55 #[.slice A n c, .slice B m d] w (RetS w n m X Y) := by
  have HX := Lib.hid hx
  have HY := Lib.hid hy
  have hcm : ∀ M, n ≤ M → m ≤ M → 0 < car 256 X 1 Y M → 256 ^ M ≤ X + Y := fun M h1 h2 h3 => by
    have p1 : 256 ^ n ≤ 256 ^ M := Nat.pow_le_pow_right (by omega) h1
    have p2 : 256 ^ m ≤ 256 ^ M := Nat.pow_le_pow_right (by omega) h2
    have q1 := hx.lt
    have q2 := hy.lt
    rw [car_end (by omega) (by omega), Nat.one_mul] at h3
    rcases Nat.lt_or_ge (X + Y) (256 ^ M) with h4 | h4
    · rw [Nat.div_eq_of_lt h4] at h3; omega
    · exact h4
  have HCM := Lib.hid hcm
  clear hx hy hcm
  obtain ⟨M, hM1, hM2, hM3⟩ : ∃ M, n ≤ M ∧ m ≤ M ∧ (M = n ∨ M = m) := by
    rcases Nat.le_total n m with h | h
    · exact ⟨m, h, Nat.le_refl _, .inr rfl⟩
    · exact ⟨n, Nat.le_refl _, h, .inl rfl⟩
  obtain ⟨i0, hi, hz0, hz1, hz2⟩ := info_parts intTy_info
  by_cases hnm : n < m
  all_goals
    go_enter Tryd.func55, Tryd.ntmps55
    go_wp2
    go_loopw [5, 6, 7] (fun v cy i wr => ∃ k : Nat, k ≤ n + m + 1 ∧ Hid (k ≤ M ∨ (k = M + 1 ∧ 256 ^ M ≤ X + Y)) ∧ i = .int .i64 k ∧ cy = .int .i64 (car 256 X 1 Y k : Nat) ∧ wr.ownsRow w.heap.size 3 1 v k (nums .i64 (D 256 (X + Y)) k) ∧ Below w.heap.size w wr)
      (fun _ _ i _ => n + m + 2 - (intOf i).toNat)
    case atStart => exact ⟨0, by omega, .inl (Nat.zero_le _), rfl, by rw [car_zero]; rfl, World.ownsRow_nil _ _ _ _, Below.refl _ _⟩
    case round =>
      obtain ⟨k, hk, HKM, rfl, rfl, hown, hnx⟩ := hrel
      have hcl := car_lt (b := 256) (by omega) (x := 1) (by omega) X Y k
      have hcp := car_pos_le (b := 256) (k := k) (by omega) HX.out.lt HY.out.lt
      obtain ⟨hs1, hs2⟩ := car_step (b := 256) (by omega) X 1 Y k
      have hdx := D_lt (b := 256) (by omega) X k
      have hdy := D_lt (b := 256) (by omega) Y k
      have HXr := Lib.hid (HX.out.below hnx)
      have HYr := Lib.hid (HY.out.below hnx)
      have hend : n ≤ k → m ≤ k → car 256 X 1 Y k = 0 → X + Y < 256 ^ k := fun h1 h2 h3 => by
        have p1 : 256 ^ n ≤ 256 ^ k := Nat.pow_le_pow_right (by omega) h1
        have p2 : 256 ^ m ≤ 256 ^ k := Nat.pow_le_pow_right (by omega) h2
        have q1 := HX.out.lt
        have q2 := HY.out.lt
        have := lt_of_car (b := 256) (x := 1) (by omega) (Nat.lt_of_lt_of_le q1 p1) (Nat.lt_of_lt_of_le q2 p2) h3
        omega
      simp only [Nat.one_mul] at hs1 hs2
      generalize hcyy : car 256 X 1 Y k = cy at *
      have hnext : (k < n ∨ k < m) ∨ 0 < cy → Hid (k + 1 ≤ M ∨ (k + 1 = M + 1 ∧ 256 ^ M ≤ X + Y)) := fun h => by
        show _ ∨ _
        rcases HKM.out with h1 | ⟨h1, h2⟩
        · rcases Nat.lt_or_ge k M with h3 | h3
          · exact .inl h3
          · obtain rfl : k = M := by omega
            refine .inr ⟨rfl, HCM.out k hM1 hM2 (by rw [hcyy]; omega)⟩
        · exfalso
          rcases h with h | h
          · omega
          · have := hcp h
            omega
      have HNX := Lib.hid hnext
      have HCY := Lib.hid hcyy
      have HS1 := Lib.hid hs1
      have HS2 := Lib.hid hs2
      have HEND := Lib.hid hend
      clear hcyy hs1 hs2 hend hnext
      by_cases hgo : (k < n ∨ k < m) ∨ 0 < cy
      · have hk1 : k + 1 ≤ n + m + 1 := by omega
        have HP := Lib.hid hcp
        have HGO := Lib.hid hgo
        have HKN := HNX.out hgo
        clear hcp hgo
        by_cases hkm : k < n ∨ k < m
        all_goals
          try (have hcp : ¬ 0 < cy → False := fun h => by have := HGO.out; omega)
          try (have hc0 : 0 < cy := by have := HGO.out; omega)
          try clear hcp
          go_wp2_with fail
          refine (at_any A n c X k _ (by omega) (by omega) HXr.out).mono ?_
          rintro e w' ⟨rfl, rfl⟩
          go_wp2_with fail
          refine (at_any B m d Y k _ (by omega) (by omega) HYr.out).mono ?_
          rintro e w' ⟨rfl, rfl⟩
          go_wp2_with (at_builtin; refine wpList_append_own _ rfl _ _ 37 rfl w.heap.size 3 i0 (.int .i64 0) 1 8 Tryd.underlying37 hi hz0 hz1 hz2 rfl (by decide) _ _ _ rfl (hown.alloc _) ⟨wr.heap.size, 0, none⟩ 1 1 [.int .i64 (((D 256 X k + D 256 Y k + cy) % 256 : Nat) : Int)] rfl rfl ?_ ?_ ?_ ?_ ?_ ?_)
          · intro j u hj; exact one_cell j u hj (by go_num)
          · intro u hu; simp at hu; subst hu; rfl
          · unfold maxLen; omega
          · omega
          · have := hnx.size; simp; omega
          intro v' w1 hown' hgrow _
          have hown2 := own_next hown' HS2.out
          have hb1 : Below w.heap.size wr w1 := ((Below.refl _ _).alloc hnx.size _).grown hgrow (by simp; exact Nat.le_succ_of_le hnx.size) (fun g hg => ((hown.lt) g hg).1)
          clear hgrow hown' hown
          go_wp2
          go_roundw
          case rel => exact ⟨k + 1, by omega, HKN, by go_num, by rw [← HS1.out]; go_num, hown2, hnx.trans hb1⟩
          case measure => simp [intOf] <;> omega
      · have hk1 : n ≤ k := by omega
        have hk2 : m ≤ k := by omega
        have hc0 : ¬ 0 < cy := by omega
        clear hgo hcp
        go_wp2
        go_ret
        obtain ⟨A', c', rfl, hr⟩ := Rd.of_own hown
        refine ⟨A', k, c', rfl, ⟨HEND.out hk1 hk2 (by omega), hr⟩, hnx, ?_⟩
        rcases HKM.out with h1 | ⟨h1, h2⟩
        · omega
        · have p1 : 256 ^ n ≤ 256 ^ M := Nat.pow_le_pow_right (by omega) hM1
          have p2 : 256 ^ m ≤ 256 ^ M := Nat.pow_le_pow_right (by omega) hM2
          exact .inr (.inr ⟨by omega, by omega, by omega⟩)

/-- A call that hands back digits in memory that nobody held before. -/
def RetGn (w : World) (V N : Nat) (e : Ending) (w' : World) : Prop := ∃ A n c, n ≤ N ∧ e = .returned (.slice A n c) ∧ Dg w' .i64 256 A n V ∧ Below w.heap.size w w' ∧ ∀ a, A = some a → w.heap.size ≤ a.block

set_option maxHeartbeats 1000000 in
set_option maxRecDepth 100000 in
theorem difference_new (A B : Option Addr) (n m c d X Y : Nat) (w : World) (hn : n ≤ 100000000000) (hm : m ≤ 100000000000) (hx : Dg w .i64 256 A n X) (hy : Dg w .i64 256 B m Y) (hXY : Y ≤ X) :
    Calls Tryd.prog 69 #[.slice A n c, .slice B m d] w (RetGn w (X - Y) n) := by
  have HX := Lib.hid hx
  have HY := Lib.hid hy
  have HXY := Lib.hid hXY
  clear hx hy hXY
  obtain ⟨i0, hi, hz0, hz1, hz2⟩ := info_parts intTy_info
  go_enter Tryd.func69, Tryd.ntmps69
  go_wp2
  go_loopw [5, 6, 7] (fun v bw i wr => ∃ k : Nat, k ≤ n ∧ i = .int .i64 k ∧ bw = .int .i64 (bor 256 X Y k : Nat) ∧ wr.ownsRow w.heap.size 3 1 v k (nums .i64 (D 256 (X - Y)) k) ∧ Below w.heap.size w wr)
    (fun _ _ i _ => n - (intOf i).toNat)
  case atStart => exact ⟨0, by omega, rfl, by rw [bor_zero]; rfl, World.ownsRow_nil _ _ _ _, Below.refl _ _⟩
  case round =>
    obtain ⟨k, hk, rfl, rfl, hown, hnx⟩ := hrel
    by_cases hlt : k < n
    · have hbl := bor_le 256 X Y k
      have hs1 := bor_step (b := 256) (by omega) X Y k
      have hs2 := dif_digit (b := 256) (by omega) HXY.out k
      have hdx := D_lt (b := 256) (by omega) X k
      have hdy := D_lt (b := 256) (by omega) Y k
      have HXr := Lib.hid (HX.out.below hnx)
      have HYr := Lib.hid (HY.out.below hnx)
      obtain ⟨g, o, rfl, hg, hcell⟩ := (HX.out.below hnx).rd (by omega)
      have hck := hcell k hlt
      clear hcell
      generalize hbb : bor 256 X Y k = bw at *
      have HB := Lib.hid hbb
      have HS1 := Lib.hid hs1
      have HS2 := Lib.hid hs2
      clear hbb hs1 hs2
      by_cases hneg : D 256 X k < D 256 Y k + bw
      all_goals
        have e1 : IntKind.i64.wrap ((D 256 X k : Int) - (D 256 Y k : Int)) = (D 256 X k : Int) - (D 256 Y k : Int) := IntWalk.i64_in _ (by omega)
        have e2 : IntKind.i64.wrap ((D 256 X k : Int) - (D 256 Y k : Int) - (bw : Int)) = (D 256 X k : Int) - (D 256 Y k : Int) - (bw : Int) := IntWalk.i64_in _ (by omega)
        go_wp2_with fail
        go_quiet ((go_at_call 79; exact quietV (at_any B m d Y k _ (by omega) (by omega) (HYr.out.drewN _))))
        clear e1 e2
      · have hd0 : (D 256 X k : Int) - (D 256 Y k : Int) - (bw : Int) < 0 := by omega
        have hownd : ∀ o, ((wr.alloc o).drewN nq).ownsRow w.heap.size 3 1 _ k (nums .i64 (D 256 (X - Y)) k) := fun o => hown.alloc o
        go_wp2_with (at_builtin; refine wpList_append_own _ rfl _ _ 37 rfl w.heap.size 3 i0 (.int .i64 0) 1 8 Tryd.underlying37 hi hz0 hz1 hz2 rfl (by decide) _ _ _ rfl (hownd _) ⟨wr.heap.size, 0, none⟩ 1 1 [.int .i64 ((D 256 X k + 256 - D 256 Y k - bw : Nat) : Int)] rfl rfl ?_ ?_ ?_ ?_ ?_ ?_)
        · intro j u hj; exact one_cell (w := wr) j u hj (by simp; omega)
        · intro u hu; simp at hu; subst hu; rfl
        · unfold maxLen; omega
        · omega
        · have := hnx.size; simp; omega
        intro v' w1 hown' hgrow _
        have hown2 := own_next hown' (by rw [HS2.out]; rw [if_pos hneg])
        have hb1 : Below w.heap.size wr w1 := Below.grown (w := (wr.alloc _).drewN nq) (below_draws ((Below.refl _ _).alloc hnx.size _) nq) hgrow (by have := hnx.size; simp; omega) (fun g hg => ((hown.lt) g hg).1)
        clear hgrow hown' hown hownd
        go_wp2
        go_roundw
        case rel => exact ⟨k + 1, by omega, by go_num, by rw [HS1.out, if_pos hneg]; rfl, hown2, hnx.trans hb1⟩
        case measure => simp [intOf] <;> omega
      · have hd0 : 0 ≤ (D 256 X k : Int) - (D 256 Y k : Int) - (bw : Int) := by omega
        have hownd : ∀ o, ((wr.alloc o).drewN nq).ownsRow w.heap.size 3 1 _ k (nums .i64 (D 256 (X - Y)) k) := fun o => hown.alloc o
        go_wp2_with (at_builtin; refine wpList_append_own _ rfl _ _ 37 rfl w.heap.size 3 i0 (.int .i64 0) 1 8 Tryd.underlying37 hi hz0 hz1 hz2 rfl (by decide) _ _ _ rfl (hownd _) ⟨wr.heap.size, 0, none⟩ 1 1 [.int .i64 ((D 256 X k - D 256 Y k - bw : Nat) : Int)] rfl rfl ?_ ?_ ?_ ?_ ?_ ?_)
        · intro j u hj; exact one_cell (w := wr) j u hj (by simp; omega)
        · intro u hu; simp at hu; subst hu; rfl
        · unfold maxLen; omega
        · omega
        · have := hnx.size; simp; omega
        intro v' w1 hown' hgrow _
        have hown2 := own_next hown' (by rw [HS2.out]; rw [if_neg hneg])
        have hb1 : Below w.heap.size wr w1 := Below.grown (w := (wr.alloc _).drewN nq) (below_draws ((Below.refl _ _).alloc hnx.size _) nq) hgrow (by have := hnx.size; simp; omega) (fun g hg => ((hown.lt) g hg).1)
        clear hgrow hown' hown hownd
        go_wp2
        go_roundw
        case rel => exact ⟨k + 1, by omega, by go_num, by rw [HS1.out, if_neg hneg]; rfl, hown2, hnx.trans hb1⟩
        case measure => simp [intOf] <;> omega
    · obtain rfl : k = n := by omega
      go_wp2
      go_ret
      obtain ⟨A', c', rfl, hr⟩ := Rd.of_own hown
      have := HX.out.lt
      exact ⟨A', _, c', Nat.le_refl _, rfl, ⟨by omega, hr⟩, hnx, fun a ha => (hown.lt a.block (by subst ha; rfl)).1⟩

theorem set_val {u p : Nat} (hu : u < 256) (hp : p < 8) : wrap64 ((u : Int) + wrap64 ((2 : Int) ^ p)) = ((u + 2 ^ p : Nat) : Int) := by
  have : p = 0 ∨ p = 1 ∨ p = 2 ∨ p = 3 ∨ p = 4 ∨ p = 5 ∨ p = 6 ∨ p = 7 := by omega
  rcases this with rfl | rfl | rfl | rfl | rfl | rfl | rfl | rfl <;> (rw [IntWalk.wrap64_in (2 ^ _) (by omega), IntWalk.wrap64_in _ (by omega)]; omega)

theorem Dg.other {w : World} {K : IntKind} {b : Nat} {A : Option Addr} {n V g : Nat} (h : Dg w K b A n V) (hA : ∀ a, A = some a → a.block ≠ g) (i : Nat) (v : Value) : Dg (w.setCell ⟨g, i, none⟩ v) K b A n V := ⟨h.lt, fun hn => by
  obtain ⟨g', o, e, hg, hc⟩ := h.rd hn
  refine ⟨g', o, e, by simpa [World.setCell] using hg, fun j hj => ?_⟩
  exact (World.cell?_of_block (w := w) (Below.heap_setCell w ⟨g, i, none⟩ v g' (by have := hA _ e; exact this))).trans (hc j hj)⟩

/-! The quotient, from the highest binary digit on. -/

theorem bit_step {X Y i : Nat} (hY : 0 < Y) : ∃ e, e = X / 2 ^ i % 2 ∧ X / 2 ^ i = 2 * (X / 2 ^ (i + 1)) + e := by
  refine ⟨_, rfl, ?_⟩
  rw [Nat.pow_succ, ← Nat.div_div_eq_div_mul]
  omega

/-- What a binary digit more makes of the quotient and the remainder. -/
theorem div_bit {Z Y e : Nat} (hY : 0 < Y) (he : e ≤ 1) : (Y ≤ Z % Y + Z % Y + e → (2 * Z + e) % Y = Z % Y + Z % Y + e - Y ∧ (2 * Z + e) / Y = 2 * (Z / Y) + 1) ∧ (Z % Y + Z % Y + e < Y → (2 * Z + e) % Y = Z % Y + Z % Y + e ∧ (2 * Z + e) / Y = 2 * (Z / Y)) := by
  have h1 := Nat.div_add_mod Z Y
  have h2 := Nat.mod_lt Z hY
  generalize Z / Y = q at *
  generalize Z % Y = r at *
  have e1 : 2 * Z + e = Y * (2 * q) + (r + r + e) := by
    rw [← h1, Nat.mul_left_comm]
    omega
  refine ⟨fun h => ?_, fun h => ?_⟩
  · have e2 : 2 * Z + e = Y * (2 * q + 1) + (r + r + e - Y) := by rw [e1, Nat.mul_add]; omega
    rw [e2, Nat.mul_add_mod, Nat.mul_add_div hY, Nat.mod_eq_of_lt (by omega), Nat.div_eq_of_lt (by omega)]
    exact ⟨rfl, rfl⟩
  · rw [e1, Nat.mul_add_mod, Nat.mul_add_div hY, Nat.mod_eq_of_lt h, Nat.div_eq_of_lt h]
    exact ⟨rfl, rfl⟩

/-- A binary digit is one of a digit. -/
theorem bit_digit (X i : Nat) : D 256 X (i / 8) / 2 ^ (i % 8) % 2 = X / 2 ^ i % 2 := by
  unfold D
  have e : (256 : Nat) ^ (i / 8) = 2 ^ (8 * (i / 8)) := by rw [Nat.pow_mul]
  have e2 : (256 : Nat) = 2 ^ (i % 8) * (2 ^ (7 - i % 8) * 2) := by
    rw [← Nat.pow_succ, ← Nat.pow_add]
    have : i % 8 + (7 - i % 8 + 1) = 8 := by omega
    rw [this]
  have e3 : X / 2 ^ i = X / 256 ^ (i / 8) / 2 ^ (i % 8) := by
    rw [e, Nat.div_div_eq_div_mul, ← Nat.pow_add]
    congr 2
    omega
  rw [e3]
  generalize X / 256 ^ (i / 8) = V
  conv => lhs; rw [e2]
  rw [Nat.mod_mul_right_div_self, Nat.mod_mul_left_mod]

theorem set_word {p Q : Nat} (hp : p < 8) : (2 ^ p * (2 * Q) + 2 ^ p) / 256 = 2 ^ p * (2 * Q) / 256 ∧ (2 ^ p * (2 * Q) + 2 ^ p) % 256 = 2 ^ p * (2 * Q) % 256 + 2 ^ p := by
  have : p = 0 ∨ p = 1 ∨ p = 2 ∨ p = 3 ∨ p = 4 ∨ p = 5 ∨ p = 6 ∨ p = 7 := by omega
  rcases this with rfl | rfl | rfl | rfl | rfl | rfl | rfl | rfl <;> (simp only [Nat.reducePow]; omega)

/-- A binary digit is set where there was none. -/
theorem set_bit (Q i j : Nat) : D 256 (2 * Q * 2 ^ i + 2 ^ i) j = if j = i / 8 then D 256 (2 * Q * 2 ^ i) j + 2 ^ (i % 8) else D 256 (2 * Q * 2 ^ i) j := by
  have hP : 0 < 256 ^ (i / 8) := Nat.pow_pos (by omega)
  have e : 2 ^ i = 256 ^ (i / 8) * 2 ^ (i % 8) := by
    have e : (256 : Nat) ^ (i / 8) = 2 ^ (8 * (i / 8)) := by rw [Nat.pow_mul]
    rw [e, ← Nat.pow_add]
    congr 1
    omega
  obtain ⟨w1, w2⟩ := set_word (Q := Q) (Nat.mod_lt i (show 0 < 8 by omega))
  have e1 : 2 * Q * 2 ^ i = 256 ^ (i / 8) * (2 ^ (i % 8) * (2 * Q)) := by rw [e]; ac_rfl
  have e2 : 2 * Q * 2 ^ i + 2 ^ i = 256 ^ (i / 8) * (2 ^ (i % 8) * (2 * Q) + 2 ^ (i % 8)) := by rw [e1, Nat.mul_add, ← e]
  rw [e1, e2] at *
  generalize 2 ^ (i % 8) * (2 * Q) + 2 ^ (i % 8) = V' at *
  generalize 2 ^ (i % 8) * (2 * Q) = V at *
  generalize 2 ^ (i % 8) = t at *
  generalize i / 8 = a at *
  rcases Nat.lt_trichotomy j a with h | h | h
  · rw [if_neg (by omega)]
    have h1 := D_low (b := 256) (P := 0) (Z := V') (k := a) (by omega) h
    have h2 := D_low (b := 256) (P := 0) (Z := V) (k := a) (by omega) h
    rw [Nat.zero_add] at h1 h2
    rw [h1, h2]
  · subst h
    rw [if_pos rfl]
    unfold D
    rw [Nat.mul_div_cancel_left _ hP, Nat.mul_div_cancel_left _ hP]
    exact w2
  · rw [if_neg (by omega), D_high (k := a) (by omega), D_high (P := 256 ^ a * V) (k := a) (by omega), Nat.mul_div_cancel_left _ hP, Nat.mul_div_cancel_left _ hP]
    obtain ⟨d, hd⟩ : ∃ d, j - a = d + 1 := ⟨j - a - 1, by omega⟩
    rw [hd]
    unfold D
    rw [Nat.pow_succ', ← Nat.div_div_eq_div_mul, ← Nat.div_div_eq_div_mul, w1]

theorem dg_one (w : World) (T : TypeId) : Dg (w.alloc (.cells #[.int .i64 1] T)) .i64 256 (some ⟨w.heap.size, 0, none⟩) 1 1 :=
  ⟨by decide, fun _ => ⟨w.heap.size, 0, rfl, by simp, fun j hj => by
    obtain rfl : j = 0 := by omega
    have h := heap_one w (.cells #[.int .i64 1] T)
    exact (cell_of_row _ _ _ _ T (0, 0) h).trans (by simp [D])⟩⟩

/-- A call that hands back a quotient and a remainder, digit by digit. -/
def RetDv (w : World) (n m Q R : Nat) (e : Ending) (w' : World) : Prop :=
  ∃ A1 c1 A2 n2 c2, e = .returned (.tuple #[.slice A1 n c1, .slice A2 n2 c2]) ∧ n2 ≤ m + 1 ∧ Dg w' .i64 256 A1 n Q ∧ Dg w' .i64 256 A2 n2 R ∧ Below w.heap.size w w' ∧ ∀ a, A1 = some a → w.heap.size ≤ a.block

set_option maxHeartbeats 8000000 in
set_option maxRecDepth 100000 in
theorem refDivide_any (A B : Option Addr) (n m c d X Y : Nat) (w : World) (hn : n ≤ 1000000) (hm : m ≤ 1000000) (hx : Dg w .i64 256 A n X) (hy : Dg w .i64 256 B m Y) (h0 : 0 < Y) :
    Calls Tryd.prog 54 #[.slice A n c, .slice B m d] w (RetDv w n m (X / Y) (X % Y)) := by
  have HX := Lib.hid hx
  have HY := Lib.hid hy
  have H0 := Lib.hid h0
  clear hx hy h0
  have hmk := fun W => run_make_row' (P := Tryd.prog) 37 3 (.int .i64 0) 8 Tryd.underlying37 intTy_info rfl .i64 .i64 n (by omega) (by omega) W
  go_enter Tryd.func54, Tryd.ntmps54
  go_wp2
  go_loopw [5, 6] (fun rv iv wr => ∃ (k : Nat) (A2 : Option Addr) (n2 c2 : Nat), k ≤ 8 * n ∧ iv = .int .i64 ((k : Int) - 1) ∧ rv = .slice A2 n2 c2 ∧ n2 ≤ m + 1 ∧ Dg wr .i64 256 A2 n2 (X / 2 ^ k % Y) ∧ wr.rowIs w.heap.size 3 n (fun j => .int .i64 (D 256 (X / 2 ^ k / Y * 2 ^ k) j : Int)) ∧ Below w.heap.size w wr) (fun _ iv _ => (intOf iv + 1).toNat)
  case atStart =>
    have hz : X / 2 ^ (8 * n) = 0 := by
      apply Nat.div_eq_of_lt
      have h1 := HX.out.lt
      rw [show (256 : Nat) ^ n = 2 ^ (8 * n) by rw [Nat.pow_mul]] at h1
      exact h1
    refine ⟨8 * n, none, 0, 0, Nat.le_refl _, ?_, rfl, Nat.zero_le _, ?_, (World.rowIs_made w (.int .i64 0) n 3).congr fun j hj => ?_, (Below.refl _ _).alloc (Nat.le_refl _) _⟩
    · congr 1; omega
    · rw [hz, Nat.zero_mod]; exact ⟨by decide, Rd.nil _ _ _ _⟩
    · rw [hz]; simp [D]
  case round =>
    obtain ⟨k, A2, n2, c2, hk, rfl, rfl, hn2, hr, hrow, hbl⟩ := hrel
    rcases k with _ | i
    · have e : (((0 : Nat) : Int) - 1) = -1 := rfl
      rw [e]
      clear e
      rw [Nat.pow_zero, Nat.mul_one, Nat.div_one] at hrow
      rw [Nat.pow_zero, Nat.div_one] at hr
      have HR := Lib.hid hr
      have HROW := Lib.hid hrow
      have HBL := Lib.hid hbl
      clear hr hrow hbl
      go_wp2
      go_ret2
      exact ⟨_, n, A2, n2, c2, rfl, hn2, ⟨Nat.lt_of_le_of_lt (Nat.div_le_self _ _) HX.out.lt, fun _ => ⟨_, 0, rfl, HROW.out.lt, fun j hj => by rw [Nat.zero_add]; exact HROW.out.cell hj⟩⟩, HR.out, HBL.out, fun a ha => by injection ha with ha; subst ha; exact Nat.le_refl _⟩
    · have e : (((i + 1 : Nat) : Int) - 1) = (i : Int) := by omega
      rw [e]
      clear e
      have hm2 := Nat.mod_lt (X / 2 ^ (i + 1)) H0.out
      obtain ⟨R, hR⟩ : ∃ R, X / 2 ^ (i + 1) % Y = R := ⟨_, rfl⟩
      rw [hR] at hr hm2
      have HR := Lib.hid hR
      have HSM := Lib.hid (sum_tight A2 A2 n2 n2 c2 c2 R R wr (by omega) (by omega) hr hr)
      have HRD := Lib.hid hr
      have HROW := Lib.hid hrow
      have HBL := Lib.hid hbl
      have hrb : R + R < 256 ^ (m + 1) := by
        have := HY.out.lt
        rw [Nat.pow_succ]
        omega
      obtain ⟨q, hq⟩ : ∃ q, i / 8 = q := ⟨_, rfl⟩
      obtain ⟨p, hp⟩ : ∃ p, i % 8 = p := ⟨_, rfl⟩
      have hq1 : (i : Int) / 8 = (q : Int) := by omega
      have hp1 : (i : Int) % 8 = (p : Int) := by omega
      have hq2 : q < n := by omega
      have hp2 : p < 8 := by omega
      have i0 : (0 : Int) ≤ (i : Int) := by omega
      have i1 : (i : Int) ≤ 8000000 := by omega
      have hbd := bit_digit X i
      rw [hq, hp] at hbd
      have HBD := Lib.hid hbd
      have HQP := Lib.hid (And.intro hq hp)
      clear hr hrow hbl hR hbd hq hp
      go_wp2_with fail
      refine HSM.out.mono ?_
      rintro e w2 ⟨A3, n3, c3, rfl, hd3, hb3, hl3⟩
      have hn3 : n3 ≤ m + 1 := by
        rcases hl3 with h | h | ⟨h, h2, _⟩
        · omega
        · omega
        · rcases Nat.lt_or_ge n2 (m + 1) with h3 | h3
          · omega
          · obtain rfl : n2 = m + 1 := by omega
            omega
      obtain ⟨gx, ox, hA, hgx, hcx⟩ := HX.out.rd (by omega)
      subst hA
      have hxb := HBL.out.trans (hb3.mono HBL.out.size)
      have hxc := (hxb.cell (p := ⟨gx, ox + q, none⟩) hgx).trans (hcx q hq2)
      have HD3 := Lib.hid hd3
      have HXB := Lib.hid hxb
      have hdl := D_lt (b := 256) (by omega) X q
      obtain ⟨dx, hdx⟩ : ∃ v, D 256 X q = v := ⟨_, rfl⟩
      rw [hdx] at hxc hdl
      have HDX := Lib.hid hdx
      have HROW2 := Lib.hid (HROW.out.of_block (hb3.block _ HROW.out.lt))
      clear hd3 hl3 hb3 hcx hxb hdx
      obtain ⟨Z, hZ⟩ : ∃ Z, X / 2 ^ (i + 1) = Z := ⟨_, rfl⟩
      obtain ⟨e, he, hXe⟩ := bit_step (X := X) (i := i) H0.out
      have he1 : e ≤ 1 := by omega
      have hdb := div_bit (Z := Z) H0.out he1
      have hRZ := HR.out
      have hbt := HBD.out
      rw [hZ] at hXe hRZ
      rw [hRZ] at hdb
      rw [HDX.out, ← he] at hbt
      have ht : ((dx : Int) / 2 ^ p).tmod 2 = (e : Int) := by
        rw [shr_word]
        generalize dx / 2 ^ p = v at *
        rw [Int.tmod_eq_emod_of_nonneg (by omega)]
        omega
      have hsum : R + R + e < 256 ^ (m + 1) ∧ 0 < m := by
        have h1 := HY.out.lt
        have h2 := H0.out
        refine ⟨by rw [Nat.pow_succ]; omega, ?_⟩
        rcases Nat.eq_zero_or_pos m with h | h
        · subst h; omega
        · exact h
      have HDB := Lib.hid hdb
      have HXE := Lib.hid hXe
      have HZ := Lib.hid hZ
      have HSU := Lib.hid hsum
      clear hdb hXe hRZ hbt he hZ hsum hrb
      have hcase : e = 0 ∨ e = 1 := by omega
      rcases hcase with rfl | rfl
      · obtain ⟨A4, hA4⟩ : ∃ A, A = A3 := ⟨_, rfl⟩
        obtain ⟨n4, hn4e⟩ : ∃ A, A = n3 := ⟨_, rfl⟩
        obtain ⟨c4, hc4⟩ : ∃ A, A = c3 := ⟨_, rfl⟩
        obtain ⟨w4, hw4⟩ : ∃ A, A = w2 := ⟨_, rfl⟩
        subst hA4 hn4e hc4 hw4
        obtain ⟨T, hT⟩ : ∃ T, R + R + 0 = T := ⟨_, rfl⟩
        rw [hT] at HDB HSU
        have hn4 := hn3
        have HD4 := Lib.hid (show Dg w4 .i64 256 A4 n4 T from by rw [← hT]; exact HD3.out)
        have HRO := Lib.hid HROW2.out
        have HBX := Lib.hid HXB.out
        clear hT
        have HOR := Lib.hid (order_any A4 B n4 m c4 d T Y w4 (by omega) (by omega) HD4.out (HY.out.below HBX.out))
        by_cases hge : Y ≤ T
        · obtain ⟨o, ho, ho0⟩ := ord_ge hge
          rw [ho] at HOR
          have hod : decide ((0 : Int) ≤ o) = true := by simpa using ho0
          obtain ⟨f1, f2⟩ := HDB.out.1 hge
          have HF := Lib.hid (And.intro f1 f2)
          have HDF := Lib.hid (difference_new A4 B n4 m c4 d T Y w4 (by omega) (by omega) HD4.out (HY.out.below HBX.out) hge)
          clear ho f1 f2
          go_wp2_with fail
          refine HOR.out.mono ?_
          rintro e w5 ⟨rfl, rfl⟩
          go_wp2_with fail
          refine HDF.out.mono ?_
          rintro e w6 ⟨A6, n6, c6, hn6, rfl, hd6, hb6, hf6⟩
          have hrow6 := HRO.out.of_block (hb6.block _ (by have := HRO.out.lt; exact this))
          have hqc := hrow6.cell (i := q) hq2
          have hqf := hrow6.frozen q
          have HROW6 := Lib.hid hrow6
          have HD6 := Lib.hid hd6
          have HB6 := Lib.hid (HBX.out.trans (hb6.mono HBX.out.size))
          obtain ⟨u, hu⟩ : ∃ u, D 256 (X / 2 ^ (i + 1) / Y * 2 ^ (i + 1)) q = u := ⟨_, rfl⟩
          rw [hu] at hqc
          have hul : u < 256 := by rw [← hu]; exact D_lt (by omega) _ _
          have HU := Lib.hid hu
          have i2 : IntKind.i64.wrap (q : Int) = (q : Int) := IntWalk.i64_in _ (by omega)
          have i3 : (i : Int).tmod 8 = (p : Int) := by rw [Int.tmod_eq_emod_of_nonneg (by omega)]; exact hp1
          have i4 : (0 : Int) ≤ (q : Int) := by omega
          have i5 : (q : Int) < (n : Int) := by omega
          have HF6 := Lib.hid hf6
          clear hd6 hb6 hrow6 hu hf6
          go_wp2_with fail
          go_region_law (fail)
          go_wp2
          go_roundw
          case rel =>
            have hq2' : X / 2 ^ i / Y * 2 ^ i = 2 * (X / 2 ^ (i + 1) / Y) * 2 ^ i + 2 ^ i := by rw [HXE.out, HF.out.2, HZ.out, Nat.add_mul, Nat.one_mul]
            have hq3' : X / 2 ^ (i + 1) / Y * 2 ^ (i + 1) = 2 * (X / 2 ^ (i + 1) / Y) * 2 ^ i := by rw [Nat.pow_succ]; ac_rfl
            have hr2' : X / 2 ^ i % Y = T - Y := by rw [HXE.out]; exact HF.out.1
            have hlt4 : w.heap.size < w4.heap.size := HRO.out.lt
            refine ⟨i, A6, n6, c6, by omega, rfl, rfl, by omega, by rw [hr2']; exact (HD6.out.other (g := w.heap.size) (fun a ha e => by have := HF6.out a ha; omega) _ _).drew, ?_, (HB6.out.setCell (by show w.heap.size ≤ w.heap.size; omega) _).drew⟩
            refine ((HROW6.out.set q _).congr fun j hj => ?_).drew
            show (if j = q then (Value.int .i64 (wrap64 ((u : Int) + wrap64 ((2 : Int) ^ p)))) else _) = Value.int .i64 _
            rw [set_val hul hp2, hq2', set_bit, HQP.out.1, HQP.out.2, ← hq3']
            by_cases e : j = q
            · rw [if_pos e, if_pos e, e, HU.out]
            · rw [if_neg e, if_neg e]
          case measure => simp [intOf] <;> omega
        · have ho := ord_lt (show T < Y by omega)
          rw [ho] at HOR
          obtain ⟨f1, f2⟩ := HDB.out.2 (by omega)
          have HF := Lib.hid (And.intro f1 f2)
          clear ho f1 f2
          go_wp2_with fail
          refine HOR.out.mono ?_
          rintro e w3 ⟨rfl, rfl⟩
          go_wp2
          go_roundw
          case rel =>
            have hq2' : X / 2 ^ i / Y * 2 ^ i = X / 2 ^ (i + 1) / Y * 2 ^ (i + 1) := by rw [HXE.out, HF.out.2, HZ.out, Nat.pow_succ]; ac_rfl
            have hr2' : X / 2 ^ i % Y = T := by rw [HXE.out]; exact HF.out.1
            exact ⟨i, A4, n4, c4, by omega, rfl, rfl, hn4, by rw [hr2']; exact HD4.out, by rw [hq2']; exact HRO.out, HBX.out⟩
          case measure => simp [intOf] <;> omega
      · obtain ⟨T, hT⟩ : ∃ T, R + R + 1 = T := ⟨_, rfl⟩
        rw [hT] at HDB HSU
        have HSM1 := Lib.hid (fun (V : World) (hV : V = w2.alloc (.cells #[.int .i64 1] 3)) => sum_tight A3 (some ⟨w2.heap.size, 0, none⟩) n3 1 c3 1 (R + R) 1 V (by omega) (by omega) (by rw [hV]; exact HD3.out.alloc _) (by rw [hV]; exact dg_one _ _))
        go_wp2_with fail
        refine (HSM1.out _ rfl).mono ?_
        rintro e w4 ⟨A4, n4, c4, rfl, hd4, hb4, hl4⟩
        rw [hT] at hd4 hl4
        have hn4 : n4 ≤ m + 1 := by
          have h1 := HSU.out
          rcases hl4 with h | h | ⟨h, h2, h3⟩
          · omega
          · omega
          · rcases Nat.lt_or_ge n3 (m + 1) with h4 | h4
            · omega
            · obtain rfl : n3 = m + 1 := by omega
              omega
        have hal : Below w2.heap.size w2 (w2.alloc (.cells #[.int .i64 1] 3)) := (Below.refl _ _).alloc (Nat.le_refl _) _
        have hb24 := hal.trans (hb4.mono hal.size)
        have HD4 := Lib.hid hd4
        have HRO := Lib.hid (HROW2.out.of_block (hb24.block _ HROW2.out.lt))
        have HBX := Lib.hid (HXB.out.trans (hb24.mono HXB.out.size))
        clear hd4 hb4 hl4 hT hal hb24
        have HOR := Lib.hid (order_any A4 B n4 m c4 d T Y w4 (by omega) (by omega) HD4.out (HY.out.below HBX.out))
        by_cases hge : Y ≤ T
        · obtain ⟨o, ho, ho0⟩ := ord_ge hge
          rw [ho] at HOR
          have hod : decide ((0 : Int) ≤ o) = true := by simpa using ho0
          obtain ⟨f1, f2⟩ := HDB.out.1 hge
          have HF := Lib.hid (And.intro f1 f2)
          have HDF := Lib.hid (difference_new A4 B n4 m c4 d T Y w4 (by omega) (by omega) HD4.out (HY.out.below HBX.out) hge)
          clear ho f1 f2
          go_wp2_with fail
          refine HOR.out.mono ?_
          rintro e w5 ⟨rfl, rfl⟩
          go_wp2_with fail
          refine HDF.out.mono ?_
          rintro e w6 ⟨A6, n6, c6, hn6, rfl, hd6, hb6, hf6⟩
          have hrow6 := HRO.out.of_block (hb6.block _ (by have := HRO.out.lt; exact this))
          have hqc := hrow6.cell (i := q) hq2
          have hqf := hrow6.frozen q
          have HROW6 := Lib.hid hrow6
          have HD6 := Lib.hid hd6
          have HB6 := Lib.hid (HBX.out.trans (hb6.mono HBX.out.size))
          obtain ⟨u, hu⟩ : ∃ u, D 256 (X / 2 ^ (i + 1) / Y * 2 ^ (i + 1)) q = u := ⟨_, rfl⟩
          rw [hu] at hqc
          have hul : u < 256 := by rw [← hu]; exact D_lt (by omega) _ _
          have HU := Lib.hid hu
          have i2 : IntKind.i64.wrap (q : Int) = (q : Int) := IntWalk.i64_in _ (by omega)
          have i3 : (i : Int).tmod 8 = (p : Int) := by rw [Int.tmod_eq_emod_of_nonneg (by omega)]; exact hp1
          have i4 : (0 : Int) ≤ (q : Int) := by omega
          have i5 : (q : Int) < (n : Int) := by omega
          have HF6 := Lib.hid hf6
          clear hd6 hb6 hrow6 hu hf6
          go_wp2_with fail
          go_region_law (fail)
          go_wp2
          go_roundw
          case rel =>
            have hq2' : X / 2 ^ i / Y * 2 ^ i = 2 * (X / 2 ^ (i + 1) / Y) * 2 ^ i + 2 ^ i := by rw [HXE.out, HF.out.2, HZ.out, Nat.add_mul, Nat.one_mul]
            have hq3' : X / 2 ^ (i + 1) / Y * 2 ^ (i + 1) = 2 * (X / 2 ^ (i + 1) / Y) * 2 ^ i := by rw [Nat.pow_succ]; ac_rfl
            have hr2' : X / 2 ^ i % Y = T - Y := by rw [HXE.out]; exact HF.out.1
            have hlt4 : w.heap.size < w4.heap.size := HRO.out.lt
            refine ⟨i, A6, n6, c6, by omega, rfl, rfl, by omega, by rw [hr2']; exact (HD6.out.other (g := w.heap.size) (fun a ha e => by have := HF6.out a ha; omega) _ _).drew, ?_, (HB6.out.setCell (by show w.heap.size ≤ w.heap.size; omega) _).drew⟩
            refine ((HROW6.out.set q _).congr fun j hj => ?_).drew
            show (if j = q then (Value.int .i64 (wrap64 ((u : Int) + wrap64 ((2 : Int) ^ p)))) else _) = Value.int .i64 _
            rw [set_val hul hp2, hq2', set_bit, HQP.out.1, HQP.out.2, ← hq3']
            by_cases e : j = q
            · rw [if_pos e, if_pos e, e, HU.out]
            · rw [if_neg e, if_neg e]
          case measure => simp [intOf] <;> omega
        · have ho := ord_lt (show T < Y by omega)
          rw [ho] at HOR
          obtain ⟨f1, f2⟩ := HDB.out.2 (by omega)
          have HF := Lib.hid (And.intro f1 f2)
          clear ho f1 f2
          go_wp2_with fail
          refine HOR.out.mono ?_
          rintro e w3 ⟨rfl, rfl⟩
          go_wp2
          go_roundw
          case rel =>
            have hq2' : X / 2 ^ i / Y * 2 ^ i = X / 2 ^ (i + 1) / Y * 2 ^ (i + 1) := by rw [HXE.out, HF.out.2, HZ.out, Nat.pow_succ]; ac_rfl
            have hr2' : X / 2 ^ i % Y = T := by rw [HXE.out]; exact HF.out.1
            exact ⟨i, A4, n4, c4, by omega, rfl, rfl, hn4, by rw [hr2']; exact HD4.out, by rw [hq2']; exact HRO.out, HBX.out⟩
          case measure => simp [intOf] <;> omega
end Go.Proofs.YtkaefmfophopoaaDoor
