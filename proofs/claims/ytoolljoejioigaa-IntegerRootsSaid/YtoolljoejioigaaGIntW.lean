/-
  The program's and the reference's sign, order and number of bits of integers.
-/
import Derived.Test.YtoolljoejioigaaGIntT
import Derived.Test.YtoolljoejioigaaGRefL
namespace Go.Proofs.Ytoolljoejioigaa
open Go.RowKit
attribute [local go_sem ↓] Go.wp_at_zero Go.wp_at_succ

/-- The sign of a pair. -/
def sgP (b : Bool) (m : ByteArray) : Int := if m.size = 0 then 0 else if b then -1 else 1

theorem sgP_enc {x : Int} {b : Bool} {m : ByteArray} (h : enc x = .agg #[.bool b, .string m]) : sgP b m = x.sign := by
  obtain ⟨rfl, rfl⟩ := enc_parts h
  have hz : (mag x.natAbs).size = 0 ↔ x.natAbs = 0 := mag_zero_iff
  unfold sgP
  rcases Int.lt_trichotomy x 0 with h | h | h
  · rw [Int.sign_eq_neg_one_of_neg h, if_neg (by rw [hz]; omega), decide_eq_true h]; rfl
  · subst h; rw [if_pos (hz.2 rfl)]; rfl
  · rw [Int.sign_eq_one_of_pos h, if_neg (by rw [hz]; omega), decide_eq_false (by omega)]; rfl

set_option maxHeartbeats 1000000 in
set_option maxRecDepth 100000 in
theorem Sign_pair (b : Bool) (m : ByteArray) (w : World) : Calls Try.prog 22 #[.agg #[.bool b, .string m]] w (RetB w (.int .i64 (sgP b m))) := by
  by_cases h : 0 < m.size
  · have he := empty_no h
    have hv : sgP b m = if b then -1 else 1 := by unfold sgP; rw [if_neg (by omega)]
    rw [hv]
    clear hv
    cases b
    all_goals
      go_enter Try.func22, Try.ntmps22
      go_wp2
      go_ret
      exact ⟨rfl, (Below.refl _ _).alloc (Nat.le_refl _) _⟩
  · have he := empty_yes h
    have hv : sgP b m = 0 := by unfold sgP; rw [if_pos (by omega)]
    rw [hv]
    clear hv
    go_enter Try.func22, Try.ntmps22
    go_wp2
    go_ret
    exact ⟨rfl, (Below.refl _ _).alloc (Nat.le_refl _) _⟩

theorem Sign_f {x : Int} {b : Bool} {m : ByteArray} (hx : enc x = .agg #[.bool b, .string m]) (w : World) : Calls Try.prog 22 #[.agg #[.bool b, .string m]] w (RetB w (.int .i64 x.sign)) := by
  rw [← sgP_enc hx]; exact Sign_pair b m w

theorem refSign_f {x : Int} {b : Bool} {m : ByteArray} (hx : enc x = .agg #[.bool b, .string m]) (w : World) : Calls Try.prog 23 #[.agg #[.bool b, .string m]] w (RetB w (.int .i64 x.sign)) := by
  have h := refSign_any x w
  rw [hx] at h
  exact h

theorem lead_enc {x : Int} {b : Bool} {m : ByteArray} (h : enc x = .agg #[.bool b, .string m]) : Lead m := by
  obtain ⟨rfl, rfl⟩ := enc_parts h
  exact lead_mag _

/-- Two boxes of integers, as they were made. -/
structure K2 (w : World) (T : TypeId) (v0 v1 v2 v3 : Value) (w1 : World) : Prop where
  k0 : w1.heap[w.heap.size]? = some (.cells #[v0, v1] T (0, 0))
  k1 : w1.heap[w.heap.size + 1]? = some (.cells #[v2, v3] T (0, 0))
  sz : w.heap.size + 2 ≤ w1.heap.size
  bel : Below w.heap.size w w1
theorem K2.start (w : World) (T : TypeId) (v0 v1 v2 v3 : Value) : K2 w T v0 v1 v2 v3 ((w.alloc (.cells #[v0, v1] T)).alloc (.cells #[v2, v3] T)) :=
  ⟨heap_fst _ _ _, heap_two _ _ _, by simp, ((Below.refl _ _).alloc (Nat.le_refl _) _).alloc (by simp) _⟩
theorem K2.next {w : World} {T : TypeId} {v0 v1 v2 v3 : Value} {w1 w2 : World} (h : K2 w T v0 v1 v2 v3 w1) (hb : Below w1.heap.size w1 w2) : K2 w T v0 v1 v2 v3 w2 := by
  have hs := h.sz
  refine ⟨(hb.block _ (by omega)).trans h.k0, (hb.block _ (by omega)).trans h.k1, ?_, h.bel.trans (hb.mono h.bel.size)⟩
  have := hb.size
  omega
theorem K2.drew {w : World} {T : TypeId} {v0 v1 v2 v3 : Value} {w1 : World} (h : K2 w T v0 v1 v2 v3 w1) : K2 w T v0 v1 v2 v3 w1.drew := h.next (Below.refl _ _).drew
theorem K2.zx {w : World} {T : TypeId} {b1 b2 : Bool} {m1 m2 : ByteArray} {w1 : World} (h : K2 w T (.bool b1) (.string m1) (.bool b2) (.string m2) w1) :
    w1.cell? ⟨w.heap.size, 0, none⟩ = some (.bool b1) ∧ w1.cell? ⟨w.heap.size, 1, none⟩ = some (.string m1) ∧ w1.cell? ⟨w.heap.size + 1, 0, none⟩ = some (.bool b2) ∧ w1.cell? ⟨w.heap.size + 1, 1, none⟩ = some (.string m2) :=
  ⟨(blk_cells h.k0).1, (blk_cells h.k0).2.1, (blk_cells h.k1).1, (blk_cells h.k1).2.1⟩

theorem compareInt_lt {a b : Int} (h : a < b) : Lib.compareInt a b = -1 := by unfold Lib.compareInt; rw [if_pos h]
theorem compareInt_gt {a b : Int} (h : b < a) : Lib.compareInt a b = 1 := by unfold Lib.compareInt; rw [if_neg (by omega), if_pos h]

set_option maxHeartbeats 2000000 in
set_option maxRecDepth 100000 in
theorem Compare_f {x y : Int} {b1 b2 : Bool} {m1 m2 : ByteArray} (hx : enc x = .agg #[.bool b1, .string m1]) (hy : enc y = .agg #[.bool b2, .string m2]) (w : World) :
    Calls Try.prog 21 #[.agg #[.bool b1, .string m1], .agg #[.bool b2, .string m2]] w (RetB w (.int .i64 (cmpZ x y))) := by
  have HS1 := Lib.hid (fun V => Sign_f hx V)
  have HS2 := Lib.hid (fun V => Sign_f hy V)
  have hm := fun V => cmpMag_any m1 m2 (lead_enc hx) (lead_enc hy) V
  have hdf := cmpZ_diff (x := x) (y := y)
  have hsm := cmpZ_same (x := x) (y := y)
  have hin := cmpZ_in x y
  have e1 : bval m1 = x.natAbs := by rw [(enc_parts hx).2, bval_mag]
  have e2 : bval m2 = y.natAbs := by rw [(enc_parts hy).2, bval_mag]
  rw [e1, e2] at hm
  have HM := Lib.hid hm
  have K0 := Lib.hid (K2.start w 23 (.bool b1) (.string m1) (.bool b2) (.string m2))
  generalize cmpZ x y = r at *
  generalize x.sign = sx at *
  generalize y.sign = sy at *
  generalize x.natAbs = X at *
  generalize y.natAbs = Y at *
  clear hm hx hy e1 e2
  have hne1 : ¬ (w.heap.size = w.heap.size + 1) := by omega
  have hne2 : ¬ (w.heap.size + 1 = w.heap.size) := by omega
  have hq : (sx != sy) = decide (sx ≠ sy) := by by_cases h : sx = sy <;> simp [h]
  have HQ := Lib.hid hq
  clear hq
  by_cases hs : sx = sy
  all_goals
    have hq := HQ.out
    first
    | (rw [decide_eq_false (by simpa using hs)] at hq)
    | (rw [decide_eq_true hs] at hq)
    have HSS := Lib.hid hs
    have HDF := Lib.hid hdf
    have HSM := Lib.hid hsm
    clear hs hdf hsm
    go_enter Try.func21, Try.ntmps21
    go_wp2_with fail
    go_region_held3 (fun w' => w'.cell? ⟨w.heap.size, 0, none⟩ = some (.bool b1) ∧ w'.cell? ⟨w.heap.size, 1, none⟩ = some (.string m1) ∧ w'.cell? ⟨w.heap.size + 1, 0, none⟩ = some (.bool b2) ∧ w'.cell? ⟨w.heap.size + 1, 1, none⟩ = some (.string m2))
      (first
        | go_keep
        | exact KB.out.zx
        | exact KA.out.zx)
      (first
        | (go_at_call 22; (with_reducible refine (HS1.out _).mono ?_); rintro e w1 ⟨rfl, hb1⟩; have KA := Lib.hid (K0.out.drew.next hb1))
        | (go_at_call 22; (with_reducible refine (HS2.out _).mono ?_); rintro e w2 ⟨rfl, hb2⟩; have KB := Lib.hid (KA.out.next hb2)))
  · obtain ⟨z0, z1, z2, z3⟩ := KB.out.zx
    obtain ⟨o, ho⟩ : ∃ o, ord X Y = o := ⟨_, rfl⟩
    rw [ho] at HM
    have hr := HSM.out HSS.out
    rw [ho] at hr
    have hw1 : IntKind.i64.wrap (sx * o) = r := by rw [hr, Int.mul_comm]; rw [hr] at hin; exact IntWalk.i64_in _ (by omega)
    have HR := Lib.hid hr
    clear hr ho hb1 hb2
    go_wp2_with fail
    refine (HM.out _).mono ?_
    rintro e w3 ⟨rfl, rfl⟩
    go_wp2
    go_ret
    exact ⟨by first | rfl | (rw [hw1]), KB.out.bel⟩
  · have hr := HDF.out HSS.out
    have hc : Lib.compareInt sx sy = r := by
      rw [hr]
      by_cases h : sx < sy
      · rw [compareInt_lt h, if_pos h]
      · rw [compareInt_gt (by have := HSS.out; omega), if_neg h]
    have HC := Lib.hid (fun V => Try.cmp_Compare_int sx sy V)
    have HCC := Lib.hid hc
    clear hr hc hb1 hb2
    go_wp2_with fail
    refine (HC.out _).mono ?_
    rintro e w3 ⟨rfl, rfl⟩
    go_wp2
    go_ret
    exact ⟨congrArg (fun z => Ending.returned (.int .i64 z)) HCC.out, KB.out.bel⟩
end Go.Proofs.Ytoolljoejioigaa

/-
  The program's and the reference's number of bits of integers.
-/
namespace Go.Proofs.Ytoolljoejioigaa
open Go.RowKit
attribute [local go_sem ↓] Go.wp_at_zero Go.wp_at_succ

/-- The number of binary digits of a magnitude. -/
def bitsV (m : ByteArray) : Int := if h : 0 < m.size then (8 : Int) * ((m.size : Int) - (1 : Int)) + ((Lib.bitLen (m[0]'h).toNat : Nat) : Int) else 0

theorem quietN {f : FuncId} {args : Array Value} {w : World} {n : Nat} {v : Value} (h : Calls Try.prog f args (w.drewN n) fun e w' => e = .returned v ∧ w' = w.drewN n) :
    Calls Try.prog f args (w.drewN n) fun e w'' => e = .returned v ∧ ∃ m, w'' = w.drewN m := h.mono fun _ _ ⟨he, hm⟩ => ⟨he, n, hm⟩

set_option maxHeartbeats 1000000 in
set_option maxRecDepth 100000 in
theorem Bits_pair (b : Bool) (m : ByteArray) (hm : m.size ≤ 100000) (w : World) : Calls Try.prog 24 #[.agg #[.bool b, .string m]] w (RetB w (.int .i64 (bitsV m))) := by
  by_cases h : 0 < m.size
  · have he := empty_no h
    have hv : bitsV m = (8 : Int) * ((m.size : Int) - (1 : Int)) + ((Lib.bitLen (m[0]'h).toNat : Nat) : Int) := by unfold bitsV; rw [dif_pos h]
    rw [hv]
    clear hv
    have hb := Lib.bitLen_le8' ((m[0]'h).toNat : Int) (by omega) (by have := UInt8.toNat_lt (m[0]'h); omega)
    rw [Int.toNat_natCast] at hb
    have hl := fun V => Try.bits_Len8 ((m[0]'h).toNat : Int) V (by omega) (by have := UInt8.toNat_lt (m[0]'h); omega)
    rw [Int.toNat_natCast] at hl
    have HL := Lib.hid hl
    have e1 : IntKind.i64.wrap ((m.size : Int) - 1) = (m.size : Int) - 1 := IntWalk.i64_in _ (by omega)
    have e2 : IntKind.i64.wrap ((8 : Int) * ((m.size : Int) - (1 : Int))) = (8 : Int) * ((m.size : Int) - (1 : Int)) := IntWalk.i64_in _ (by omega)
    have e3 : IntKind.i64.wrap ((8 : Int) * ((m.size : Int) - (1 : Int)) + ((Lib.bitLen (m[0]'h).toNat : Nat) : Int)) = (8 : Int) * ((m.size : Int) - (1 : Int)) + ((Lib.bitLen (m[0]'h).toNat : Nat) : Int) := IntWalk.i64_in _ (by omega)
    clear hl hb
    go_enter Try.func24, Try.ntmps24
    go_wp2_with fail
    go_quiet ((go_at_call 47; exact quietN (HL.out _)))
    go_wp2
    go_ret
    exact ⟨rfl, below_draws ((Below.refl _ _).alloc (Nat.le_refl _) _) _⟩
  · have he := empty_yes h
    have hv : bitsV m = 0 := by unfold bitsV; rw [dif_neg h]
    rw [hv]
    clear hv
    go_enter Try.func24, Try.ntmps24
    go_wp2
    go_ret
    exact ⟨rfl, (Below.refl _ _).alloc (Nat.le_refl _) _⟩

set_option maxHeartbeats 1000000 in
set_option maxRecDepth 100000 in
theorem refBits_pair (b : Bool) (m : ByteArray) (hm : m.size ≤ 100000) (w : World) : Calls Try.prog 25 #[.agg #[.bool b, .string m]] w (RetB w (.int .i64 (bitsV m))) := by
  by_cases h : 0 < m.size
  · have hv : bitsV m = (8 : Int) * ((m.size : Int) - (1 : Int)) + ((Lib.bitLen (m[0]'h).toNat : Nat) : Int) := by unfold bitsV; rw [dif_pos h]
    rw [hv]
    clear hv
    have hc := UInt8.toNat_lt (m[0]'h)
    have hb := Lib.bitLen_le8' ((m[0]'h).toNat : Int) (by omega) (by omega)
    rw [Int.toNat_natCast] at hb
    obtain ⟨c, hcc⟩ : ∃ c, (m[0]'h).toNat = c := ⟨_, rfl⟩
    have hnn : ((m[0]'h).toNat : Int) = (c : Int) := by rw [hcc]
    rw [hcc] at hb hc
    rw [hcc]
    have e2 : IntKind.i64.wrap ((8 : Int) * ((m.size : Int) - (1 : Int))) = (8 : Int) * ((m.size : Int) - (1 : Int)) := IntWalk.i64_in _ (by omega)
    obtain ⟨N, hN⟩ : ∃ N : Int, (8 : Int) * ((m.size : Int) - (1 : Int)) = N := ⟨_, rfl⟩
    have hN1 : 0 ≤ N := by omega
    have hN2 : N ≤ 1000000 := by omega
    rw [hN] at e2
    rw [hN]
    clear hcc
    go_enter Try.func25, Try.ntmps25
    go_wp2
    go_loop [3, 4] (fun n k => ∃ (q j : Nat), k = .int .i64 (q : Int) ∧ n = .int .i64 (N + j) ∧ q ≤ c ∧ j ≤ 8 ∧ Hid (j + Lib.bitLen q = Lib.bitLen c)) (fun _ k => (intOf k).toNat)
    case atStart => exact ⟨c, 0, by first | rfl | simp, by first | rfl | simp, Nat.le_refl _, by omega, by show _ = _; omega⟩
    case round =>
      obtain ⟨q, j, rfl, rfl, hq, hj, hjq⟩ := hrel
      by_cases h0 : q = 0
      · subst h0
        go_wp2
        go_ret
        refine ⟨?_, (Below.refl _ _).alloc (Nat.le_refl _) _⟩
        have h9 := hjq.out
        have hz : Lib.bitLen 0 = 0 := by decide
        rw [hz, Nat.add_zero] at h9
        rw [← h9]
        rfl
      · have h9 := hjq.out
        have hh := Lib.bitLen_half q h0 (by omega)
        have hj2 : j + 1 ≤ 8 := by omega
        have h10 : j + 1 + Lib.bitLen (q / 2) = Lib.bitLen c := by omega
        have H10 := Lib.hid h10
        clear h9 hh h10 hjq
        go_wp2
        go_round
        case rel => exact ⟨q / 2, j + 1, by go_num, by go_num, by omega, hj2, H10⟩
        case measure => simp [intOf] <;> omega
  · have hv : bitsV m = 0 := by unfold bitsV; rw [dif_neg h]
    rw [hv]
    clear hv
    go_enter Try.func25, Try.ntmps25
    go_wp2
    go_ret
    exact ⟨rfl, (Below.refl _ _).alloc (Nat.le_refl _) _⟩
end Go.Proofs.Ytoolljoejioigaa
