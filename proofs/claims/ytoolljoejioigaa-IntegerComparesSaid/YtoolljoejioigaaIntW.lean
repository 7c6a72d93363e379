/-
  The program's and the reference's number of bits of integers.
-/
import Derived.Test.YtoolljoejioigaaIntU
namespace Go.Proofs.Ytoolljoejioigaa
open Go.RowKit
attribute [local go_sem ↓] Go.wp_at_zero Go.wp_at_succ

/-- The number of binary digits of a magnitude. -/
def bitsV (m : ByteArray) : Int := if h : 0 < m.size then (8 : Int) * ((m.size : Int) - (1 : Int)) + ((Lib.bitLen (m[0]'h).toNat : Nat) : Int) else 0

theorem quietN {f : FuncId} {args : Array Value} {w : World} {n : Nat} {v : Value} (h : Calls Try.prog f args (w.drewN n) fun e w' => e = .returned v ∧ w' = w.drewN n) :
    Calls Try.prog f args (w.drewN n) fun e w'' => e = .returned v ∧ ∃ m, w'' = w.drewN m := h.mono fun _ _ ⟨he, hm⟩ => ⟨he, n, hm⟩

set_option maxHeartbeats 1000000 in
set_option maxRecDepth 100000 in
theorem Bits_pair (b : Bool) (m : ByteArray) (hm : m.size ≤ 100000) (w : World) : Calls Try.prog 24 #[.agg #[.bool b, .string m]] w (RetB w (.int .i64 (bitsV m))) := by
  by_cases h : 0 < m.size
  · have he := empty_no h
    have hv : bitsV m = (8 : Int) * ((m.size : Int) - (1 : Int)) + ((Lib.bitLen (m[0]'h).toNat : Nat) : Int) := by unfold bitsV; rw [dif_pos h]
    rw [hv]
    clear hv
    have hb := Lib.bitLen_le8' ((m[0]'h).toNat : Int) (by omega) (by have := UInt8.toNat_lt (m[0]'h); omega)
    rw [Int.toNat_natCast] at hb
    have hl := fun V => Try.bits_Len8 ((m[0]'h).toNat : Int) V (by omega) (by have := UInt8.toNat_lt (m[0]'h); omega)
    rw [Int.toNat_natCast] at hl
    have HL := Lib.hid hl
    have e1 : IntKind.i64.wrap ((m.size : Int) - 1) = (m.size : Int) - 1 := IntWalk.i64_in _ (by omega)
    have e2 : IntKind.i64.wrap ((8 : Int) * ((m.size : Int) - (1 : Int))) = (8 : Int) * ((m.size : Int) - (1 : Int)) := IntWalk.i64_in _ (by omega)
    have e3 : IntKind.i64.wrap ((8 : Int) * ((m.size : Int) - (1 : Int)) + ((Lib.bitLen (m[0]'h).toNat : Nat) : Int)) = (8 : Int) * ((m.size : Int) - (1 : Int)) + ((Lib.bitLen (m[0]'h).toNat : Nat) : Int) := IntWalk.i64_in _ (by omega)
    clear hl hb
    go_enter Try.func24, Try.ntmps24
    go_wp2_with fail
    go_quiet ((go_at_call 47; exact quietN (HL.out _)))
    go_wp2
    go_ret
    exact ⟨rfl, below_draws ((Below.refl _ _).alloc (Nat.le_refl _) _) _⟩
  · have he := empty_yes h
    have hv : bitsV m = 0 := by unfold bitsV; rw [dif_neg h]
    rw [hv]
    clear hv
    go_enter Try.func24, Try.ntmps24
    go_wp2
    go_ret
    exact ⟨rfl, (Below.refl _ _).alloc (Nat.le_refl _) _⟩

set_option maxHeartbeats 1000000 in
set_option maxRecDepth 100000 in
theorem refBits_pair (b : Bool) (m : ByteArray) (hm : m.size ≤ 100000) (w : World) : Calls Try.prog 25 #[.agg #[.bool b, .string m]] w (RetB w (.int .i64 (bitsV m))) := by
  by_cases h : 0 < m.size
  · have hv : bitsV m = (8 : Int) * ((m.size : Int) - (1 : Int)) + ((Lib.bitLen (m[0]'h).toNat : Nat) : Int) := by unfold bitsV; rw [dif_pos h]
    rw [hv]
    clear hv
    have hc := UInt8.toNat_lt (m[0]'h)
    have hb := Lib.bitLen_le8' ((m[0]'h).toNat : Int) (by omega) (by omega)
    rw [Int.toNat_natCast] at hb
    obtain ⟨c, hcc⟩ : ∃ c, (m[0]'h).toNat = c := ⟨_, rfl⟩
    have hnn : ((m[0]'h).toNat : Int) = (c : Int) := by rw [hcc]
    rw [hcc] at hb hc
    rw [hcc]
    have e2 : IntKind.i64.wrap ((8 : Int) * ((m.size : Int) - (1 : Int))) = (8 : Int) * ((m.size : Int) - (1 : Int)) := IntWalk.i64_in _ (by omega)
    obtain ⟨N, hN⟩ : ∃ N : Int, (8 : Int) * ((m.size : Int) - (1 : Int)) = N := ⟨_, rfl⟩
    have hN1 : 0 ≤ N := by omega
    have hN2 : N ≤ 1000000 := by omega
    rw [hN] at e2
    rw [hN]
    clear hcc
    go_enter Try.func25, Try.ntmps25
    go_wp2
    go_loop [3, 4] (fun n k => ∃ (q j : Nat), k = .int .i64 (q : Int) ∧ n = .int .i64 (N + j) ∧ q ≤ c ∧ j ≤ 8 ∧ Hid (j + Lib.bitLen q = Lib.bitLen c)) (fun _ k => (intOf k).toNat)
    case atStart => exact ⟨c, 0, by first | rfl | simp, by first | rfl | simp, Nat.le_refl _, by omega, by show _ = _; omega⟩
    case round =>
      obtain ⟨q, j, rfl, rfl, hq, hj, hjq⟩ := hrel
      by_cases h0 : q = 0
      · subst h0
        go_wp2
        go_ret
        refine ⟨?_, (Below.refl _ _).alloc (Nat.le_refl _) _⟩
        have h9 := hjq.out
        have hz : Lib.bitLen 0 = 0 := by decide
        rw [hz, Nat.add_zero] at h9
        rw [← h9]
        rfl
      · have h9 := hjq.out
        have hh := Lib.bitLen_half q h0 (by omega)
        have hj2 : j + 1 ≤ 8 := by omega
        have h10 : j + 1 + Lib.bitLen (q / 2) = Lib.bitLen c := by omega
        have H10 := Lib.hid h10
        clear h9 hh h10 hjq
        go_wp2
        go_round
        case rel => exact ⟨q / 2, j + 1, by go_num, by go_num, by omega, hj2, H10⟩
        case measure => simp [intOf] <;> omega
  · have hv : bitsV m = 0 := by unfold bitsV; rw [dif_neg h]
    rw [hv]
    clear hv
    go_enter Try.func25, Try.ntmps25
    go_wp2
    go_ret
    exact ⟨rfl, (Below.refl _ _).alloc (Nat.le_refl _) _⟩
end Go.Proofs.Ytoolljoejioigaa
