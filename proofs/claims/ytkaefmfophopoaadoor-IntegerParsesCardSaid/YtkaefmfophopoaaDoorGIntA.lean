import Derived.Test.YtkaefmfophopoaaDoorGRefA
import Derived.Deep.RegionHeld3
import Derived.Deep.DrawnRows
import Derived.Deep.QuietTactic
import Derived.BigQuiet

/-
  The program's words: the number of at most eight bytes, and back.
-/
namespace Go.Proofs.YtkaefmfophopoaaDoor
open Go.RowKit
attribute [local go_sem ↓] Go.wp_at_zero Go.wp_at_succ

theorem RetZ.form {w : World} {z : Int} {e : Ending} {w' : World} (h : RetZ w z e w') : ∃ b m, Hid (enc z = .agg #[.bool b, .string m]) ∧ e = .returned (.agg #[.bool b, .string m]) ∧ Below w.heap.size w w' := ⟨_, _, rfl, h.1, h.2⟩

theorem heap_fst (w : World) (o o' : Obj) : ((w.alloc o).alloc o').heap[w.heap.size]? = some o := (Below.heap_alloc _ _ _ (by simp)).trans (heap_one w o)

theorem nat_bits (a : Nat) (ha : a < 18446744073709551616) : (BitVec.ofInt 64 (a : Int)).toNat = a := by
  rw [BitVec.ofInt_natCast, BitVec.toNat_ofNat]; exact Nat.mod_eq_of_lt (by omega)

theorem bits_or_u64 (a b : Nat) (ha : a < 18446744073709551616) (hb : b < 18446744073709551616) : bits .or .u64 (a : Int) (b : Int) = ((a ||| b : Nat) : Int) := by
  have hx : a ||| b < 2 ^ 64 := Nat.or_lt_two_pow (by omega) (by omega)
  show IntKind.u64.wrap ((BitVec.ofInt 64 (a : Int) ||| BitVec.ofInt 64 (b : Int)).toNat : Int) = _
  rw [BitVec.toNat_or, nat_bits a ha, nat_bits b hb, IntKind.wrap_u64]
  omega

theorem or_byte (v c : Nat) (hv : v < 72057594037927936) (hc : c < 256) : bits .or .u64 (IntKind.u64.wrap ((v : Int) * 256)) (IntKind.u64.wrap (c : Int)) = ((v * 256 + c : Nat) : Int) := by
  have e1 : IntKind.u64.wrap ((v : Int) * 256) = ((2 ^ 8 * v : Nat) : Int) := by rw [IntKind.wrap_u64]; omega
  have e2 : IntKind.u64.wrap (c : Int) = (c : Int) := by rw [IntKind.wrap_u64]; omega
  rw [e1, e2, bits_or_u64 _ _ (by omega) (by omega), ← Nat.two_pow_add_eq_or_of_lt (by omega)]
  omega

/-- The value of the first k bytes. -/
def pre (s : ByteArray) (k : Nat) : Nat := bval s / 256 ^ (s.size - k)

theorem pre_zero (s : ByteArray) : pre s 0 = 0 := by
  unfold pre
  rw [Nat.sub_zero]
  exact Nat.div_eq_of_lt (bval_lt s)
theorem pre_all (s : ByteArray) : pre s s.size = bval s := by simp [pre]
theorem pre_lt (s : ByteArray) (k : Nat) (hk : k ≤ s.size) : pre s k < 256 ^ k := by
  unfold pre
  apply Nat.div_lt_of_lt_mul
  rw [← Nat.pow_add, Nat.sub_add_cancel hk]
  exact bval_lt s
theorem pre_succ (s : ByteArray) (k : Nat) (hk : k < s.size) : pre s (k + 1) = pre s k * 256 + (s[k]).toNat := by
  have h := div_D 256 (bval s) (s.size - (k + 1))
  rw [show s.size - (k + 1) + 1 = s.size - k by omega, ← dig_eq] at h
  have hd : dig s (s.size - (k + 1)) = (s[k]).toNat := by
    unfold dig
    rw [dif_pos (by omega)]
    congr 2
    omega
  rw [hd] at h
  unfold pre
  omega

theorem pow256_7 {k : Nat} (h : k ≤ 7) : (256 : Nat) ^ k ≤ 72057594037927936 := Nat.pow_le_pow_right (n := 256) (by omega) h

set_option maxHeartbeats 1000000 in
set_option maxRecDepth 100000 in
theorem word_any (s : ByteArray) (hs : s.size ≤ 8) (w : World) :
    Calls Tryd.prog 44 #[.string s] w (RetV w (.int .u64 (bval s : Nat))) := by
  go_enter Tryd.func44, Tryd.ntmps44
  go_wp2
  go_loop [3, 7] (fun v i => ∃ k : Nat, k ≤ s.size ∧ i = .int .i64 k ∧ v = .int .u64 (pre s k : Nat)) (fun _ i => s.size - (intOf i).toNat)
  case atStart => exact ⟨0, by omega, rfl, by rw [pre_zero]; rfl⟩
  case round =>
    obtain ⟨k, hk, rfl, rfl⟩ := hrel
    by_cases hlt : k < s.size
    · go_wp2
      go_round
      case rel => exact ⟨k + 1, by omega, by go_num, by rw [or_byte _ _ (Nat.lt_of_lt_of_le (pre_lt s k hk) (pow256_7 (by omega))) (UInt8.toNat_lt _), pre_succ s k hlt]⟩
      case measure => simp [intOf]; omega
    · obtain rfl : k = s.size := by omega
      go_wp2
      go_ret
      exact ⟨by rw [pre_all]; rfl, rfl⟩

/-- The words of two integers, if both are short. -/
def RetW (W : World) (X Y : Nat) (ok : Bool) (e : Ending) (w' : World) : Prop := e = .returned (.tuple #[.int .u64 (X : Int), .int .u64 (Y : Int), .bool ok]) ∧ Below W.heap.size W w'

set_option maxHeartbeats 1000000 in
set_option maxRecDepth 100000 in
theorem words_yes (na nb : Bool) (a b : ByteArray) (ha : a.size ≤ 8) (hb : b.size ≤ 8) (w : World) :
    Calls Tryd.prog 18 #[.agg #[.bool na, .string a], .agg #[.bool nb, .string b]] w (RetW w (bval a) (bval b) true) := by
  go_enter Tryd.func18, Tryd.ntmps18
  go_wp2
  go_quiet ((go_at_call 44; exact quietV (word_any _ (by assumption) _)))
  go_wp2
  go_ret3
  exact ⟨rfl, below_draws (((Below.refl _ _).alloc (Nat.le_refl _) _).alloc (by simp) _) _⟩

set_option maxHeartbeats 1000000 in
set_option maxRecDepth 100000 in
theorem words_no (na nb : Bool) (a b : ByteArray) (h : 8 < a.size ∨ 8 < b.size) (w : World) :
    Calls Tryd.prog 18 #[.agg #[.bool na, .string a], .agg #[.bool nb, .string b]] w (RetW w 0 0 false) := by
  by_cases h1 : 8 < a.size
  all_goals
    go_enter Tryd.func18, Tryd.ntmps18
    go_wp2
    go_ret3
    exact ⟨rfl, ((Below.refl _ _).alloc (Nat.le_refl _) _).alloc (by simp) _⟩
end Go.Proofs.YtkaefmfophopoaaDoor
