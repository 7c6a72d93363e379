import Derived.Test.YtkaefmfophopoaaGIntM
import Derived.Test.YtkaefmfophopoaaGRefE
import Derived.StringKeys

/-
  Check of any integer, and the walk of the statement about it.
-/
namespace Go.Proofs.Ytkaefmfophopoaa
open Go.RowKit
attribute [local go_sem ↓] Go.wp_at_zero Go.wp_at_succ

theorem empty_no {s : ByteArray} (h : 0 < s.size) : s.toList.isEmpty = false := by
  rw [ByteArray.toList_eq]
  have : s.data.toList.length = s.size := by simp
  cases hs : s.data.toList with
  | nil => rw [hs] at this; simp at this; omega
  | cons c l => rfl
theorem empty_yes {s : ByteArray} (h : ¬ 0 < s.size) : s.toList.isEmpty = true := by
  rw [ByteArray.toList_eq]
  have : s.data.toList.length = s.size := by simp
  cases hs : s.data.toList with
  | nil => rfl
  | cons c l => rw [hs] at this; simp at this; omega

/-- What Check answers. -/
def checkV (neg : Bool) (s : ByteArray) : Int := if canonB neg s then 0 else 5

set_option maxHeartbeats 1000000 in
set_option maxRecDepth 100000 in
theorem check_any (neg : Bool) (s : ByteArray) (w : World) :
    Calls Try.prog 14 #[.agg #[.bool neg, .string s]] w (RetB w (.int .i64 (checkV neg s))) := by
  by_cases h : 0 < s.size
  · have hv : canonB neg s = ((s[0]'h).toNat != 0) := by unfold canonB; rw [dif_pos h]
    have HV := Lib.hid hv
    clear hv
    have he := empty_no h
    go_enter Try.func14, Try.ntmps14
    go_wp2
    · have ht : (((s[0]'h).toNat : Int) == 0) = true := by assumption
      go_ret
      refine ⟨congrArg (fun z => Ending.returned (.int .i64 z)) ?_, (Below.refl _ _).alloc (Nat.le_refl _) _⟩
      unfold checkV
      rw [HV.out]
      simp at ht
      simp [ht]
    · have ht : (((s[0]'h).toNat : Int) == 0) = false := by assumption
      go_ret
      refine ⟨congrArg (fun z => Ending.returned (.int .i64 z)) ?_, (Below.refl _ _).alloc (Nat.le_refl _) _⟩
      unfold checkV
      rw [HV.out]
      simp at ht
      simp [ht]
  · have hv : canonB neg s = !neg := by unfold canonB; rw [dif_neg h]
    have HV := Lib.hid hv
    clear hv
    have he := empty_yes h
    cases neg
    all_goals
      go_enter Try.func14, Try.ntmps14
      go_wp2
      go_ret
      refine ⟨congrArg (fun z => Ending.returned (.int .i64 z)) ?_, (Below.refl _ _).alloc (Nat.le_refl _) _⟩
      unfold checkV
      rw [HV.out]
      rfl

set_option maxHeartbeats 1000000 in
set_option maxRecDepth 100000 in
theorem checks_cut (neg : Bool) (s t : ByteArray) (w : World) (ht : s.extract 0 (min (s.size : Int) 60).toNat = t) :
    Calls Try.prog 3 #[.agg #[.bool neg, .string s]] w (RetB w (.bool true)) := by
  have hcv : checkV neg t = if canonB neg t then 0 else 5 := rfl
  have HC := Lib.hid hcv
  clear hcv
  cases hc : canonB neg t
  all_goals
    rw [hc] at HC
    have hcc := HC.out
    simp at hcc
    clear HC
    have HCC := Lib.hid hcc
    have HCB := Lib.hid hc
    clear hcc hc
    go_enter Try.func3, Try.ntmps3
    go_wp2_with fail
    try clear ht
    refine (valid_any neg t _).mono ?_
    rw [HCB.out]
    rintro e w1 ⟨rfl, rfl⟩
    go_wp2_with fail
    refine (known_any _).mono ?_
    rintro e w2 ⟨rfl, hb2⟩
    obtain ⟨c0, c1, _, _⟩ := res2 (g := w.heap.size) (by exact heap_fst _ _ _) hb2 (by simp <;> omega)
    go_wp2_with fail
    refine (check_any neg t _).mono ?_
    rw [HCC.out]
    rintro e w3 ⟨rfl, hb3⟩
    go_wp2
    go_ret
    have h0 : Below w.heap.size w ((w.alloc (.cells #[.bool neg, .string t] 23)).alloc (.cells #[.bool neg, .string t] 23)) := (((Below.refl _ _).alloc (Nat.le_refl _) _).alloc (by simp) _)
    exact ⟨rfl, (h0.trans (hb2.mono h0.size)).trans (hb3.mono (Nat.le_trans h0.size hb2.size))⟩

theorem checks_walk (neg : Bool) (s : ByteArray) (w : World) : Calls Try.prog 3 #[.agg #[.bool neg, .string s]] w (RetB w (.bool true)) := checks_cut neg s _ w rfl
end Go.Proofs.Ytkaefmfophopoaa
