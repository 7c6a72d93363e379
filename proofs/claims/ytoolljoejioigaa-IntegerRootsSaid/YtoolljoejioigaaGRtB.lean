/-
  The program's sieve for squares: what it turns away is no square.
-/
import Derived.Test.YtoolljoejioigaaGRtA
import Derived.Test.YtoolljoejioigaaGDivM
namespace Go.Proofs.Ytoolljoejioigaa
open Go.RowKit
attribute [local go_sem ↓] Go.wp_at_zero Go.wp_at_succ

theorem sq64 : ∀ q, q < 64 → 144680414395695635 / 2 ^ (q * q % 64) % 2 = 1 := by decide
theorem sq3 : ∀ q, q < 3 → 3 / 2 ^ (q * q % 3) % 2 = 1 := by decide
theorem sq5 : ∀ q, q < 5 → 19 / 2 ^ (q * q % 5) % 2 = 1 := by decide
theorem sq17 : ∀ q, q < 17 → 107287 / 2 ^ (q * q % 17) % 2 = 1 := by decide
theorem sq_mod (r m : Nat) (hm : 0 < m) : r * r % m = (r % m) * (r % m) % m := Nat.mul_mod r r m
theorem bit_and {a b : Nat} (ha : a % 2 = 1) (hb : b % 2 = 1) : (a &&& b) % 2 = 1 := by
  have h := Nat.and_mod_two_pow (a := a) (b := b) (n := 1)
  rw [Nat.pow_one] at h
  rw [h, ha, hb]
  rfl

def sumB (m : ByteArray) : Nat → Nat
  | 0 => 0
  | k + 1 => sumB m k + (if h : k < m.size then (m[k]'h).toNat else 0)
theorem sumB_succ {m : ByteArray} {k : Nat} (h : k < m.size) : sumB m (k + 1) = sumB m k + (m[k]'h).toNat := by
  show sumB m k + (if h : k < m.size then (m[k]'h).toNat else 0) = _
  rw [dif_pos h]
theorem sumB_le (m : ByteArray) : ∀ k, k ≤ m.size → sumB m k ≤ 255 * k := fun k => by
  induction k with
  | zero => exact fun _ => Nat.le_refl _
  | succ k ih =>
    intro hk
    have := ih (by omega)
    have := UInt8.toNat_lt (m[k]'(by omega))
    rw [sumB_succ (by omega)]
    omega
theorem sumB_mod (m : ByteArray) : ∀ k, k ≤ m.size → sumB m k % 255 = pre m k % 255 := fun k => by
  induction k with
  | zero => exact fun _ => by rw [pre_zero]; rfl
  | succ k ih =>
    intro hk
    have := ih (by omega)
    rw [sumB_succ (by omega), pre_succ m k (by omega)]
    omega

set_option maxHeartbeats 2000000 in
set_option maxRecDepth 100000 in
theorem mayBeSquare_any (m : ByteArray) (hm : m.size ≤ 400000000) : ∃ v : Bool, (∀ r, bval m = r * r → v = true) ∧ ∀ w, Calls Try.prog 64 #[.string m] w (fun e w' => e = .returned (.bool v) ∧ Drew w w') := by
  by_cases h : 0 < m.size
  · have he := empty_no h
    have hidx : m.size - 1 < m.size := by omega
    obtain ⟨c, hc⟩ : ∃ c, (m[m.size - 1]'hidx).toNat = c := ⟨_, rfl⟩
    have hc2 : c < 256 := by rw [← hc]; exact UInt8.toNat_lt _
    have hcv : c = bval m % 256 := by
      have h1 := dig_eq m 0
      unfold dig D at h1
      rw [dif_pos h, Nat.pow_zero, Nat.div_one] at h1
      rw [← h1, ← hc]
      rfl
    obtain ⟨f, hf⟩ : ∃ f, (bits .and .u64 ((144680414395695635 : Int) / 2 ^ (c % 64)) 1 == 0) = f := ⟨_, rfl⟩
    cases f
    · refine ⟨(bits .and .u64 (bits .and .u64 (bits .and .u64 ((3 : Int) / 2 ^ (sumB m m.size % 3)) (19 / 2 ^ (sumB m m.size % 5))) (107287 / 2 ^ (sumB m m.size % 17))) 1 == 1), ?_, fun w => ?_⟩
      rotate_left 1
      · clear hcv hc2
        go_enter Try.func64, Try.ntmps64
        go_wp2_with fail
        go_loop [3, 18] (fun v i => ∃ k : Nat, k ≤ m.size ∧ i = .int .i64 k ∧ v = .int .u64 (sumB m k : Nat)) (fun _ i => m.size - (intOf i).toNat)
        case atStart => exact ⟨0, by omega, rfl, rfl⟩
        case round =>
          obtain ⟨k, hk, rfl, rfl⟩ := hrel
          by_cases hlt : k < m.size
          · have hsb := sumB_le m k hk
            have hss := sumB_succ hlt
            have hsl := sumB_le m (k + 1) hlt
            generalize sumB m k = S at *
            go_wp2
            go_round
            case rel => exact ⟨k + 1, by omega, by go_num, by rw [hss]; first | go_num | rfl⟩
            case measure => simp [intOf]; omega
          · obtain rfl : k = m.size := by omega
            have hsb := sumB_le m m.size (Nat.le_refl _)
            obtain ⟨S, hS⟩ : ∃ S, sumB m m.size = S := ⟨_, rfl⟩
            rw [hS] at hsb
            rw [hS]
            go_wp2
            go_ret
            exact ⟨rfl, Drew.refl _⟩
      · intro r hr
        have hS := sumB_mod m m.size (Nat.le_refl _)
        rw [pre_all, hr] at hS
        have a3 := sq3 (r % 3) (Nat.mod_lt _ (by omega))
        have a5 := sq5 (r % 5) (Nat.mod_lt _ (by omega))
        have a17 := sq17 (r % 17) (Nat.mod_lt _ (by omega))
        rw [← sq_mod r 3 (by omega)] at a3
        rw [← sq_mod r 5 (by omega)] at a5
        rw [← sq_mod r 17 (by omega)] at a17
        generalize sumB m m.size = S at *
        rw [show r * r % 3 = S % 3 by omega] at a3
        rw [show r * r % 5 = S % 5 by omega] at a5
        rw [show r * r % 17 = S % 17 by omega] at a17
        have l3 : 3 / 2 ^ (S % 3) ≤ 3 := Nat.div_le_self _ _
        have l5 : 19 / 2 ^ (S % 5) ≤ 19 := Nat.div_le_self _ _
        have l17 : 107287 / 2 ^ (S % 17) ≤ 107287 := Nat.div_le_self _ _
        have e3 : (3 : Int) / 2 ^ (S % 3) = ((3 / 2 ^ (S % 3) : Nat) : Int) := by simp
        have e5 : (19 : Int) / 2 ^ (S % 5) = ((19 / 2 ^ (S % 5) : Nat) : Int) := by simp
        have e17 : (107287 : Int) / 2 ^ (S % 17) = ((107287 / 2 ^ (S % 17) : Nat) : Int) := by simp
        rw [e3, e5, e17]
        generalize 3 / 2 ^ (S % 3) = p at *
        generalize 19 / 2 ^ (S % 5) = q at *
        generalize 107287 / 2 ^ (S % 17) = t at *
        have k1 : p &&& q ≤ p := Nat.and_le_left
        have k2 : p &&& q &&& t ≤ p &&& q := Nat.and_le_left
        have k3 := bit_and (bit_and a3 a5) a17
        rw [bits_and_u64 _ _ (by omega) (by omega), bits_and_u64 _ _ (by omega) (by omega), show (1 : Int) = ((1 : Nat) : Int) from rfl, bits_and_u64 _ _ (by omega) (by omega), Nat.and_one_is_mod, k3]
        rfl
    · refine ⟨false, fun r hr => ?_, fun w => ?_⟩
      · exfalso
        have h2 := sq64 (r % 64) (Nat.mod_lt _ (by omega))
        rw [← sq_mod r 64 (by omega), ← hr] at h2
        have h3 : c % 64 = bval m % 64 := by omega
        rw [h3] at hf
        have hle : 144680414395695635 / 2 ^ (bval m % 64) ≤ 144680414395695635 := Nat.div_le_self _ _
        have e : (144680414395695635 : Int) / 2 ^ (bval m % 64) = ((144680414395695635 / 2 ^ (bval m % 64) : Nat) : Int) := by simp
        rw [e, show (1 : Int) = ((1 : Nat) : Int) from rfl, bits_and_u64 _ _ (by omega) (by omega), Nat.and_one_is_mod, h2] at hf
        cases hf
      · clear hcv hc2
        go_enter Try.func64, Try.ntmps64
        go_wp2
        go_ret
        exact ⟨rfl, Drew.refl _⟩
  · have he := empty_yes h
    refine ⟨true, fun _ _ => rfl, fun w => ?_⟩
    go_enter Try.func64, Try.ntmps64
    go_wp2
    go_ret
    exact ⟨rfl, Drew.refl _⟩
end Go.Proofs.Ytoolljoejioigaa
