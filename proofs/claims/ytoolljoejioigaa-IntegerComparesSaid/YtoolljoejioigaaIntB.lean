/-
  The program's integer of a word.
-/
import Derived.Test.YtoolljoejioigaaIntA
import Derived.Test.YtoolljoejioigaaShelf
namespace Go.Proofs.Ytoolljoejioigaa
open Go.RowKit
attribute [local go_sem ↓] Go.wp_at_zero Go.wp_at_succ

theorem bitLen_bounds : ∀ x : Nat, x ≠ 0 → x < 2 ^ 64 → 1 ≤ Lib.bitLen x ∧ 2 ^ (Lib.bitLen x - 1) ≤ x ∧ x < 2 ^ Lib.bitLen x := by
  intro x
  induction x using Nat.strongRecOn with
  | _ x ih =>
    intro h0 h
    rw [Lib.bitLen_half x h0 h]
    by_cases e : x / 2 = 0
    · have : x = 1 := by omega
      subst this
      decide
    · obtain ⟨h1, h2, h3⟩ := ih (x / 2) (by omega) e (by omega)
      have e1 : 1 + Lib.bitLen (x / 2) - 1 = (Lib.bitLen (x / 2) - 1) + 1 := by omega
      rw [e1, Nat.pow_succ, Nat.add_comm 1, Nat.pow_succ]
      omega

theorem D_pos {b V n : Nat} (hb : 0 < b) (h1 : b ^ n ≤ V) (h2 : V < b ^ (n + 1)) : D b V n ≠ 0 := by
  unfold D
  have hp : 0 < b ^ n := Nat.pow_pos hb
  have a1 : 1 ≤ V / b ^ n := (Nat.le_div_iff_mul_le hp).2 (by omega)
  have a2 : V / b ^ n < b := Nat.div_lt_of_lt_mul (by rwa [Nat.pow_succ] at h2)
  rw [Nat.mod_eq_of_lt a2]
  omega

theorem sgn_enc {neg : Bool} {f : Nat → Nat} {n V : Nat} (hf : ∀ i, i < n → f i < 256) (h0 : 0 < n → f 0 ≠ 0) (hV : val 256 (fun i => f (n - 1 - i)) n = V) (hn : V ≠ 0) :
    Value.agg #[.bool neg, .string (bytesOf f n)] = enc (sgn neg V) := by
  have hv : bval (bytesOf f n) = V := by rw [bytesOf_val hf, hV]
  refine enc_eq ⟨bytesOf_lead h0 hf, fun h => ?_⟩ (by unfold ival sgn; rw [hv])
  rw [bytesOf_size] at h
  subst h
  rw [← hV] at hn
  simp [val] at hn

/-- The places that a word's bytes need. -/
theorem word_places (v : Nat) (h0 : v ≠ 0) (h : v < 18446744073709551616) : ∃ lz z, z < 8 ∧ 64 - Lib.bitLen v = lz ∧ lz / 8 = z ∧ lz ≤ 63 ∧ 256 ^ (7 - z) ≤ v ∧ v < 256 ^ (8 - z) := by
  obtain ⟨h1, h2, h3⟩ := bitLen_bounds v h0 (by omega)
  have h4 := Lib.bitLen_le v 64 (by omega) (by omega)
  refine ⟨_, (64 - Lib.bitLen v) / 8, by omega, rfl, rfl, by omega, ?_, ?_⟩
  · have e : (256 : Nat) ^ (7 - (64 - Lib.bitLen v) / 8) = 2 ^ (8 * (7 - (64 - Lib.bitLen v) / 8)) := by rw [Nat.pow_mul]
    rw [e]
    exact Nat.le_trans (Nat.pow_le_pow_right (by omega) (by omega)) h2
  · have e : (256 : Nat) ^ (8 - (64 - Lib.bitLen v) / 8) = 2 ^ (8 * (8 - (64 - Lib.bitLen v) / 8)) := by rw [Nat.pow_mul]
    rw [e]
    exact Nat.lt_of_lt_of_le h3 (Nat.pow_le_pow_right (by omega) (by omega))

theorem lz_any (v lz : Nat) (h : 64 - Lib.bitLen v = lz) (hv : v < 18446744073709551616) (w : World) :
    Calls Try.prog 65 #[.int .u64 (v : Int)] w (RetV w (.int .i64 (lz : Int))) :=
  (Try.bits_LeadingZeros64 (v : Int) w (by omega) (by omega)).mono fun e w' ⟨he, hw⟩ => by
    have := Lib.bitLen_le v 64 (by omega) (by omega)
    refine ⟨?_, hw.symm⟩
    rw [he, Int.toNat_natCast, ← h]
    congr 2
    omega

theorem D_shift (v m : Nat) : (v : Int) / 2 ^ (8 * m) % 256 = ((D 256 v m : Nat) : Int) := by
  unfold D
  have e : (256 : Nat) ^ m = 2 ^ (8 * m) := by rw [Nat.pow_mul]
  rw [e]
  simp

theorem len8 : Try.prog.arrayLen 77 = 8 := by kernel_rfl
theorem size8 (w : World) : (sizeOf (Try.prog.elem 77)).run Try.prog w = .ok 1 w := by kernel_rfl
theorem under8 : Try.prog.underlying 77 = some (.array (Try.prog.arrayLen 77) (Try.prog.elem 77)) := by kernel_rfl

theorem slice8 (g z : Nat) (hz : z < 8) (w : World) : (Instr.sliceAt 77 (.pointer (some ⟨g, 0, none⟩)) (some (.int .i64 (z : Int))) none none).run Try.prog w = .ok (.slice (some ⟨g, z, none⟩) (8 - z) (8 - z)) w := by
  have h := run_sliceAt_array_l w 77 ⟨g, 0, none⟩ under8 .i64 (z : Int) (by omega) (by rw [len8]; omega)
  rw [h, size8, len8]
  simp [slicedAt, Result.andThen, Addr.add_lit]
  omega

theorem sgn_zero (neg : Bool) : sgn neg 0 = 0 := by cases neg <;> rfl
theorem enc_zero : enc 0 = .agg #[.bool false, .string ⟨#[]⟩] := by
  have h : (mag 0) = ⟨#[]⟩ := by unfold mag; rw [magL_zero]
  unfold enc
  rw [show (0 : Int).natAbs = 0 from rfl, h]
  rfl

set_option maxHeartbeats 1000000 in
set_option maxRecDepth 100000 in
theorem packWord_any (neg : Bool) (v : Nat) (hv : v < 18446744073709551616) (w : World) :
    Calls Try.prog 42 #[.bool neg, .int .u64 (v : Int)] w (RetZ w (sgn neg v)) := by
  by_cases h0 : v = 0
  · subst h0
    go_enter Try.func42, Try.ntmps42
    go_wp2
    exact bodyPost_ret (v := .agg #[.bool false, .string ⟨#[]⟩]) (by simp [results, Try.results42, go_sem]) rfl ⟨by rw [sgn_zero, enc_zero], (Below.refl _ _).alloc (Nat.le_refl _) _⟩
  · obtain ⟨lz, z, hz, hlz, hzz, hl, hlo, hhi⟩ := word_places v h0 hv
    have HLZ := Lib.hid hlz
    have hq : (lz : Int) / 8 = (z : Int) := by omega
    have HLO := Lib.hid hlo
    have HHI := Lib.hid hhi
    have H0 := Lib.hid h0
    have hne : ((v : Int) == 0) = false := by simp; omega
    clear hzz hlo hhi h0 hlz
    go_enter Try.func42, Try.ntmps42
    go_wp2
    go_loopw [10] (fun i wr => ∃ k : Nat, k ≤ 8 ∧ i = .int .i64 k ∧ wr.rowIs (w.heap.size + 1) 77 8 (fun j => .int .u8 ((if j < k then D 256 v (7 - j) else 0 : Nat) : Int)) ∧
        Below (w.heap.size + 1) (w.alloc (.cells #[.bool false, .string ⟨#[]⟩] 23)) wr) (fun i _ => 8 - (intOf i).toNat)
    case atStart =>
      refine ⟨0, by omega, rfl, ?_, (Below.refl _ _).alloc (by simp) _⟩
      refine ⟨_, heap_two _ _ _, rfl, fun i hi => ?_⟩
      match i, hi with
      | 0, _ | 1, _ | 2, _ | 3, _ | 4, _ | 5, _ | 6, _ | 7, _ => rfl
    case round =>
      obtain ⟨k, hk, rfl, hrow, hbl⟩ := hrel
      by_cases hlt : k < 8
      · have hcs := hrow.cell (i := k) (by omega)
        have hfs := hrow.frozen k
        go_wp2
        go_roundw
        case rel =>
          refine ⟨k + 1, by omega, by go_num, (hrow.set k _).congr fun m hm => ?_, hbl.setCell (by simp) _⟩
          by_cases e : m = k
          · rw [if_pos e, if_pos (by omega), D_shift, e]
          · rw [if_neg e]
            by_cases e2 : m < k
            · rw [if_pos e2, if_pos (by omega)]
            · rw [if_neg e2, if_neg (by omega)]
        case measure => simp [intOf] <;> omega
      · obtain rfl : k = 8 := by omega
        have hstr := str_of_cells wr 76 9 5 Try.underlying76 Try.underlying5 Try.underlying9 (w.heap.size + 1) z (8 - z) (8 - z) (fun i => D 256 v (7 - (z + i))) (fun i hi => D_lt (by omega) _ _) (fun i hi => by
          rw [hrow.cell (by omega), if_pos (by omega)])
        obtain ⟨q0, q1, f0, f1⟩ := res2 (g := w.heap.size) (by exact heap_one _ _) hbl (by simp)
        have hsl := slice8 (w.heap.size + 1) z hz
        go_wp2_with fail
        refine (lz_any v lz HLZ.out hv _).mono ?_
        rintro e w' ⟨rfl, rfl⟩
        go_wp2
        refine bodyPost_ret (v := .agg #[.bool neg, .string (bytesOf (fun i => D 256 v (7 - (z + i))) (8 - z))]) (by simp [results, Try.results42, go_sem, q0, q1]) rfl ⟨?_, ?_⟩
        · refine congrArg Ending.returned (sgn_enc (fun i hi => D_lt (by omega) _ _) (fun h => ?_) ?_ H0.out)
          · exact D_pos (by omega) HLO.out (by have := HHI.out; rwa [show 7 - (z + 0) + 1 = 8 - z by omega])
          · rw [val_congr (g := D 256 v) (fun i hi => by rw [show 7 - (z + (8 - z - 1 - i)) = i by omega]), val_D, Nat.mod_eq_of_lt HHI.out]
        · exact ((((Below.refl _ _).alloc (Nat.le_refl _) _).trans (hbl.mono (by omega))).setCell (by simp) _).setCell (by simp) _
end Go.Proofs.Ytoolljoejioigaa
