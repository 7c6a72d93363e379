import Derived.Test.YtkaefmfophopoaaGIntF

/-
  The examples of the chapter that every statement of layer 1 asks.
-/
namespace Go.Proofs.Ytkaefmfophopoaa
open Go.RowKit
attribute [local go_sem ↓] Go.wp_at_zero Go.wp_at_succ

theorem enc_m300 : enc (-300) = .agg #[.bool true, .string ⟨#[1, 44]⟩] := (enc_eq (neg := true) (s := ⟨#[1, 44]⟩) ⟨fun _ => (by decide : (1 : UInt8).toNat ≠ 0), fun h => by simp [ByteArray.size] at h⟩ (by decide)).symm
theorem enc_m2100 : enc (-2100) = .agg #[.bool true, .string ⟨#[8, 52]⟩] := (enc_eq (neg := true) (s := ⟨#[8, 52]⟩) ⟨fun _ => (by decide : (8 : UInt8).toNat ≠ 0), fun h => by simp [ByteArray.size] at h⟩ (by decide)).symm
theorem enc_m7 : enc (-7) = .agg #[.bool true, .string ⟨#[7]⟩] := (enc_eq (neg := true) (s := ⟨#[7]⟩) ⟨fun _ => (by decide : (7 : UInt8).toNat ≠ 0), fun h => by simp [ByteArray.size] at h⟩ (by decide)).symm
theorem enc_7 : enc 7 = .agg #[.bool false, .string ⟨#[7]⟩] := (enc_eq (neg := false) (s := ⟨#[7]⟩) ⟨fun _ => (by decide : (7 : UInt8).toNat ≠ 0), fun h => by simp [ByteArray.size] at h⟩ (by decide)).symm
theorem enc_2 : enc 2 = .agg #[.bool false, .string ⟨#[2]⟩] := (enc_eq (neg := false) (s := ⟨#[2]⟩) ⟨fun _ => (by decide : (2 : UInt8).toNat ≠ 0), fun h => by simp [ByteArray.size] at h⟩ (by decide)).symm
theorem enc_m4 : enc (-4) = .agg #[.bool true, .string ⟨#[4]⟩] := (enc_eq (neg := true) (s := ⟨#[4]⟩) ⟨fun _ => (by decide : (4 : UInt8).toNat ≠ 0), fun h => by simp [ByteArray.size] at h⟩ (by decide)).symm
theorem enc_1 : enc 1 = .agg #[.bool false, .string ⟨#[1]⟩] := (enc_eq (neg := false) (s := ⟨#[1]⟩) ⟨fun _ => (by decide : (1 : UInt8).toNat ≠ 0), fun h => by simp [ByteArray.size] at h⟩ (by decide)).symm

/-- A call that hands back a given value, and touches nothing that was there. -/
def RetB (w : World) (v : Value) (e : Ending) (w' : World) : Prop := e = .returned v ∧ Below w.heap.size w w'

theorem known_from (n : Int) (v : Value) (h : enc n = v) (h1 : -9223372036854775808 ≤ n) (h2 : n ≤ 9223372036854775807) (w : World) : Calls Try.prog 16 #[.int .i64 n] w (RetB w v) :=
  (fromInt_any n h1 h2 w).mono fun _ _ ⟨he, hb⟩ => ⟨by rw [he, h], hb⟩

theorem known_mul (w : World) : Calls Try.prog 34 #[.agg #[.bool true, .string ⟨#[1, 44]⟩], .agg #[.bool false, .string ⟨#[7]⟩]] w (RetB w (.agg #[.bool true, .string ⟨#[8, 52]⟩])) :=
  (mul_short true false ⟨#[1, 44]⟩ ⟨#[7]⟩ (by decide) (by decide) w).mono fun _ _ ⟨he, hb⟩ => ⟨by
    rw [he, ← enc_m2100]
    exact congrArg (fun z => Ending.returned (enc z)) (by decide), hb⟩

theorem known_div (w : World) : Calls Try.prog 36 #[.agg #[.bool true, .string ⟨#[7]⟩], .agg #[.bool false, .string ⟨#[2]⟩]] w (RetB w (.tuple #[.agg #[.bool true, .string ⟨#[4]⟩], .agg #[.bool false, .string ⟨#[1]⟩], .int .i64 0])) :=
  (divMod_short true false ⟨#[7]⟩ ⟨#[2]⟩ (by decide) (by decide) (by decide) w).mono fun _ _ ⟨he, hb⟩ => ⟨by
    rw [he, ← enc_m4, ← enc_1]
    exact congrArg (fun z : Int × Int => Ending.returned (.tuple #[enc z.1, enc z.2, .int .i64 0])) (by decide : ((sgn true (bval ⟨#[7]⟩) / sgn false (bval ⟨#[2]⟩), sgn true (bval ⟨#[7]⟩) % sgn false (bval ⟨#[2]⟩)) : Int × Int) = (-4, 1)), hb⟩

set_option maxHeartbeats 4000000 in
set_option maxRecDepth 100000 in
theorem known_any (w : World) : Calls Try.prog 13 #[] w (RetB w (.bool true)) := by
  go_enter Try.func13, Try.ntmps13
  go_wp2_with fail
  refine (known_from (-300) _ enc_m300 (by omega) (by omega) _).mono ?_
  rintro e w1 ⟨rfl, hb1⟩
  go_wp2_with fail
  refine (known_from (-7) _ enc_m7 (by omega) (by omega) _).mono ?_
  rintro e w2 ⟨rfl, hb2⟩
  go_wp2_with fail
  refine (known_from 2 _ enc_2 (by omega) (by omega) _).mono ?_
  rintro e w3 ⟨rfl, hb3⟩
  go_wp2_with fail
  refine (known_div _).mono ?_
  rintro e w4 ⟨rfl, hb4⟩
  have hsz : w1.heap.size < w4.heap.size := by
    have a2 := hb2.size
    have a3 := hb3.size
    have a4 := hb4.size
    simp at a2
    omega
  obtain ⟨k0, k1, _, _⟩ := res2 (g := w1.heap.size) (by exact heap_one _ _) ((hb2.trans (hb3.mono hb2.size)).trans (hb4.mono (Nat.le_trans hb2.size hb3.size))) (by simp)
  have hall : Below w.heap.size w w4 := ((hb1.trans (((Below.refl _ _).alloc (Nat.le_refl _) _).mono hb1.size)).trans (((hb2.trans (hb3.mono hb2.size)).trans (hb4.mono (Nat.le_trans hb2.size hb3.size))).mono (by have := hb1.size; simp <;> omega)))
  have HALL := Lib.hid hall
  clear hb1 hb2 hb3 hb4 hall
  go_wp2_with fail
  go_region_held3 (fun w' => w'.cell? ⟨w1.heap.size, 0, none⟩ = some (.bool true) ∧ w'.cell? ⟨w1.heap.size, 1, none⟩ = some (.string ⟨#[1, 44]⟩) ∧
      w'.cell? ⟨w4.heap.size, 0, none⟩ = some (.bool true) ∧ w'.cell? ⟨w4.heap.size, 1, none⟩ = some (.string ⟨#[4]⟩) ∧
      w'.cell? ⟨w4.heap.size + 1, 0, none⟩ = some (.bool false) ∧ w'.cell? ⟨w4.heap.size + 1, 1, none⟩ = some (.string ⟨#[1]⟩) ∧ w4.heap.size + 2 ≤ w'.heap.size)
    (first
      | go_keep
      | (go_split_ands
         have hb9 := ‹Below _ _ _›
         refine ⟨?_, ?_, ?_, ?_, ?_, ?_, ?_⟩
         · (rw [hb9.cell (by simp <;> omega)]; first | assumption | simp [*])
         · (rw [hb9.cell (by simp <;> omega)]; first | assumption | simp [*])
         · (rw [hb9.cell (by simp <;> omega)]; first | assumption | simp [*])
         · (rw [hb9.cell (by simp <;> omega)]; first | assumption | simp [*])
         · (rw [hb9.cell (by simp <;> omega)]; first | assumption | simp [*])
         · (rw [hb9.cell (by simp <;> omega)]; first | assumption | simp [*])
         · (have := hb9.size; simp at this ⊢; omega)))
    (first
      | (go_at_call 16; refine (known_from 7 _ enc_7 ?_ ?_ _).mono ?_; (omega); (omega); rintro e w5 ⟨rfl, hb5⟩)
      | (go_at_call 34; refine (known_mul _).mono ?_; rintro e w6 ⟨rfl, hb6⟩))
  go_wp2
  go_ret
  have hs1 := HALL.out.size
  have h0 : Below w.heap.size w ((w4.alloc (.cells #[.bool true, .string ⟨#[4]⟩] 23)).alloc (.cells #[.bool false, .string ⟨#[1]⟩] 23)).drew := ((HALL.out.alloc hs1 _).alloc (by simp <;> omega) _).drew
  exact ⟨rfl, (h0.trans (hb5.mono h0.size)).trans (hb6.mono (Nat.le_trans h0.size hb5.size))⟩
end Go.Proofs.Ytkaefmfophopoaa


/-
  The program's way from an integer back to an int.
-/
namespace Go.Proofs.Ytkaefmfophopoaa
open Go.RowKit

theorem word_neg {V : Nat} (h : V ≤ 9223372036854775808) : IntKind.i64.wrap (IntKind.u64.wrap (-(V : Int))) = -(V : Int) := by
  simp [IntKind.wrap, IntKind.bits, IntKind.signed]
  omega

theorem word_pos {V : Nat} (h : V ≤ 9223372036854775807) : IntKind.i64.wrap (V : Int) = (V : Int) := by
  simp [IntKind.wrap, IntKind.bits, IntKind.signed]
  omega

set_option maxRecDepth 100000 in
theorem toInt_far (neg : Bool) (m : ByteArray) (h : 8 < m.size) (w : World) :
    Calls Try.prog 17 #[.agg #[.bool neg, .string m]] w (RetB w (.tuple #[.int .i64 0, .bool false])) := by
  have hd : decide ((8 : Int) < (m.size : Int)) = true := by simp; omega
  go_enter Try.func17, Try.ntmps17
  go_wp2
  go_ret2
  exact ⟨rfl, (Below.refl _ _).alloc (Nat.le_refl _) _⟩

set_option maxRecDepth 100000 in
theorem toInt_big (neg : Bool) (m : ByteArray) (h : m.size ≤ 8) (V : Nat) (hV : bval m = V) (hv : (if neg then 9223372036854775808 else 9223372036854775807) < V) (w : World) :
    Calls Try.prog 17 #[.agg #[.bool neg, .string m]] w (RetB w (.tuple #[.int .i64 0, .bool false])) := by
  have hd : decide ((8 : Int) < (m.size : Int)) = false := by simp; omega
  have HW := Lib.hid (fun U => word_any m h U)
  rw [hV] at HW
  cases neg
  all_goals
    simp at hv
    have hc : (9223372036854775807 : Int) < (V : Int) := by omega
    go_enter Try.func17, Try.ntmps17
    go_wp2_with fail
    refine (HW.out _).mono ?_
    rintro e w' ⟨rfl, rfl⟩
    go_wp2
    go_ret2
    exact ⟨rfl, (Below.refl _ _).alloc (Nat.le_refl _) _⟩

set_option maxRecDepth 100000 in
theorem toInt_fits (neg : Bool) (m : ByteArray) (h : m.size ≤ 8) (V : Nat) (hV : bval m = V) (hv : V ≤ (if neg then 9223372036854775808 else 9223372036854775807)) (w : World) :
    Calls Try.prog 17 #[.agg #[.bool neg, .string m]] w (RetB w (.tuple #[.int .i64 (sgn neg V), .bool true])) := by
  have hd : decide ((8 : Int) < (m.size : Int)) = false := by simp; omega
  have HW := Lib.hid (fun U => word_any m h U)
  rw [hV] at HW
  cases neg
  · simp at hv
    have hc : decide ((9223372036854775807 : Int) < (V : Int)) = false := by simp; omega
    have hw := word_pos hv
    go_enter Try.func17, Try.ntmps17
    go_wp2_with fail
    refine (HW.out _).mono ?_
    rintro e w' ⟨rfl, rfl⟩
    go_wp2
    go_ret2
    exact ⟨rfl, (Below.refl _ _).alloc (Nat.le_refl _) _⟩
  · simp at hv
    have hc : decide ((9223372036854775808 : Int) < (V : Int)) = false := by simp; omega
    have hw := word_neg hv
    go_enter Try.func17, Try.ntmps17
    go_wp2_with fail
    refine (HW.out _).mono ?_
    rintro e w' ⟨rfl, rfl⟩
    go_wp2
    go_ret2
    exact ⟨rfl, (Below.refl _ _).alloc (Nat.le_refl _) _⟩
end Go.Proofs.Ytkaefmfophopoaa
