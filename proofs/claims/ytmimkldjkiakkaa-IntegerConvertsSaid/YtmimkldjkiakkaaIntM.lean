/-
  The program's way from an integer back to an int.
-/
import Derived.Test.YtmimkldjkiakkaaLawA
namespace Go.Proofs.Ytmimkldjkiakkaa
open Go.RowKit

theorem word_neg {V : Nat} (h : V ≤ 9223372036854775808) : IntKind.i64.wrap (IntKind.u64.wrap (-(V : Int))) = -(V : Int) := by
  simp [IntKind.wrap, IntKind.bits, IntKind.signed]
  omega

theorem word_pos {V : Nat} (h : V ≤ 9223372036854775807) : IntKind.i64.wrap (V : Int) = (V : Int) := by
  simp [IntKind.wrap, IntKind.bits, IntKind.signed]
  omega

theorem toInt_far (neg : Bool) (m : ByteArray) (h : 8 < m.size) (w : World) :
    Calls Try.prog 17 #[.agg #[.bool neg, .string m]] w (RetB w (.tuple #[.int .i64 0, .bool false])) := by
  have hd : decide ((8 : Int) < (m.size : Int)) = true := by simp; omega
  go_enter Try.func17, Try.ntmps17
  go_wp2
  go_ret2
  exact ⟨rfl, (Below.refl _ _).alloc (Nat.le_refl _) _⟩

theorem toInt_big (neg : Bool) (m : ByteArray) (h : m.size ≤ 8) (V : Nat) (hV : bval m = V) (hv : (if neg then 9223372036854775808 else 9223372036854775807) < V) (w : World) :
    Calls Try.prog 17 #[.agg #[.bool neg, .string m]] w (RetB w (.tuple #[.int .i64 0, .bool false])) := by
  have hd : decide ((8 : Int) < (m.size : Int)) = false := by simp; omega
  have HW := Lib.hid (fun U => word_any m h U)
  rw [hV] at HW
  cases neg
  all_goals
    simp at hv
    have hc : (9223372036854775807 : Int) < (V : Int) := by omega
    go_enter Try.func17, Try.ntmps17
    go_wp2_with fail
    refine (HW.out _).mono ?_
    rintro e w' ⟨rfl, rfl⟩
    go_wp2
    go_ret2
    exact ⟨rfl, (Below.refl _ _).alloc (Nat.le_refl _) _⟩

theorem toInt_fits (neg : Bool) (m : ByteArray) (h : m.size ≤ 8) (V : Nat) (hV : bval m = V) (hv : V ≤ (if neg then 9223372036854775808 else 9223372036854775807)) (w : World) :
    Calls Try.prog 17 #[.agg #[.bool neg, .string m]] w (RetB w (.tuple #[.int .i64 (sgn neg V), .bool true])) := by
  have hd : decide ((8 : Int) < (m.size : Int)) = false := by simp; omega
  have HW := Lib.hid (fun U => word_any m h U)
  rw [hV] at HW
  cases neg
  · simp at hv
    have hc : decide ((9223372036854775807 : Int) < (V : Int)) = false := by simp; omega
    have hw := word_pos hv
    go_enter Try.func17, Try.ntmps17
    go_wp2_with fail
    refine (HW.out _).mono ?_
    rintro e w' ⟨rfl, rfl⟩
    go_wp2
    go_ret2
    exact ⟨rfl, (Below.refl _ _).alloc (Nat.le_refl _) _⟩
  · simp at hv
    have hc : decide ((9223372036854775808 : Int) < (V : Int)) = false := by simp; omega
    have hw := word_neg hv
    go_enter Try.func17, Try.ntmps17
    go_wp2_with fail
    refine (HW.out _).mono ?_
    rintro e w' ⟨rfl, rfl⟩
    go_wp2
    go_ret2
    exact ⟨rfl, (Below.refl _ _).alloc (Nat.le_refl _) _⟩
end Go.Proofs.Ytmimkldjkiakkaa
