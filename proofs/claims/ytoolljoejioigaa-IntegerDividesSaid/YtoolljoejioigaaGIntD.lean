/-
  The program's integer of an int, quotients of words, and trimmed digits.
-/
import Derived.Test.YtoolljoejioigaaGIntB
namespace Go.Proofs.Ytoolljoejioigaa
open Go.RowKit
attribute [local go_sem ↓] Go.wp_at_zero Go.wp_at_succ

set_option maxHeartbeats 1000000 in
set_option maxRecDepth 100000 in
theorem fromInt_any (n : Int) (h1 : -9223372036854775808 ≤ n) (h2 : n ≤ 9223372036854775807) (w : World) :
    Calls Try.prog 16 #[.int .i64 n] w (RetZ w n) := by
  by_cases hn : n < 0
  · obtain ⟨v, rfl⟩ : ∃ v : Nat, n = -(v : Int) := ⟨n.natAbs, by omega⟩
    have e : IntKind.u64.wrap (-IntKind.u64.wrap (-(v : Int))) = (v : Int) := by rw [IntKind.wrap_u64, IntKind.wrap_u64]; omega
    have E := Lib.hid e
    clear e
    go_enter Try.func16, Try.ntmps16
    go_wp2_with fail
    rw [E.out]
    refine (packWord_any true v (by omega) _).mono ?_
    rintro e w1 ⟨rfl, hb1⟩
    obtain ⟨bz, mz, hbm⟩ := enc_form (sgn true v)
    rw [hbm]
    have HBM := Lib.hid hbm
    clear hbm
    obtain ⟨q0, q1, f0, f1⟩ := res2 (g := w.heap.size) (by exact heap_one _ _) hb1 (by simp)
    go_wp2
    refine bodyPost_ret (v := .agg #[.bool bz, .string mz]) (by simp [results, Try.results16, go_sem, q0, q1]) rfl ⟨by rw [← HBM.out]; rfl, ?_⟩
    have h0 : Below w.heap.size w (w.alloc (.cells #[.bool false, .string ⟨#[]⟩] 23)) := (Below.refl _ _).alloc (Nat.le_refl _) _
    exact ((h0.trans (hb1.mono h0.size)).setCell (by simp) _).setCell (by simp) _
  · obtain ⟨v, rfl⟩ : ∃ v : Nat, n = (v : Int) := ⟨n.natAbs, by omega⟩
    go_enter Try.func16, Try.ntmps16
    go_wp2_with fail
    refine (packWord_any false v (by omega) _).mono ?_
    rintro e w1 ⟨rfl, hb1⟩
    obtain ⟨bz, mz, hbm⟩ := enc_form (sgn false v)
    rw [hbm]
    have HBM := Lib.hid hbm
    clear hbm
    obtain ⟨q0, q1, f0, f1⟩ := res2 (g := w.heap.size) (by exact heap_one _ _) hb1 (by simp)
    go_wp2
    refine bodyPost_ret (v := .agg #[.bool bz, .string mz]) (by simp [results, Try.results16, go_sem, q0, q1]) rfl ⟨by rw [← HBM.out]; rfl, ?_⟩
    have h0 : Below w.heap.size w (w.alloc (.cells #[.bool false, .string ⟨#[]⟩] 23)) := (Below.refl _ _).alloc (Nat.le_refl _) _
    exact ((h0.trans (hb1.mono h0.size)).setCell (by simp) _).setCell (by simp) _

/-- Quotient and remainder of two numbers with signs, the remainder not negative. -/
def RetQ (w : World) (q r : Int) (err : Int) (e : Ending) (w' : World) : Prop := e = .returned (.tuple #[enc q, enc r, .int .i64 err]) ∧ Below w.heap.size w w'

theorem div_unique {a b q r : Int} (hb : b ≠ 0) (h : a = b * q + r) (h0 : 0 ≤ r) (h1 : r < b.natAbs) : a / b = q ∧ a % b = r := by
  rcases Int.lt_or_gt_of_ne hb with hneg | hpos
  · have h2 := (Int.ediv_emod_unique (a := a) (b := -b) (r := r) (q := -q) (by omega)).2 ⟨by rw [Int.neg_mul_neg, h]; omega, h0, by omega⟩
    rw [Int.ediv_neg, Int.emod_neg] at h2
    exact ⟨by omega, h2.2⟩
  · exact (Int.ediv_emod_unique hpos).2 ⟨by rw [h]; omega, h0, by omega⟩

/-- The quotient and the remainder of two numbers with signs, out of those of their magnitudes. -/
theorem div_signs (na nb : Bool) {x y q r : Nat} (h : x = y * q + r) (hr : r < y) :
    sgn na x / sgn nb y = (if na ∧ 0 < r then sgn (na != nb) (q + 1) else sgn (na != nb) q) ∧ sgn na x % sgn nb y = (if na ∧ 0 < r then ((y - r : Nat) : Int) else (r : Int)) := by
  have hx : (x : Int) = (y : Int) * (q : Int) + (r : Int) := by rw [h]; simp
  have hm : (y : Int) * ((q : Int) + 1) = (y : Int) * (q : Int) + y := by rw [Int.mul_add, Int.mul_one]
  have hs : ∀ (b : Bool) (v : Nat), sgn b v = if b then -(v : Int) else v := fun _ _ => rfl
  apply div_unique
  · rw [hs]; split <;> omega
  · cases na <;> cases nb <;> simp only [hs] <;> by_cases h0 : 0 < r <;> simp [h0] <;> simp only [Int.mul_neg, Int.neg_mul, Int.neg_neg, hm, hx] <;> omega
  · split <;> omega
  · rw [hs]; split <;> split <;> omega

set_option maxHeartbeats 2000000 in
set_option maxRecDepth 100000 in
theorem divModWords_any (na nb : Bool) (x y : Nat) (hx : x < 18446744073709551616) (hy : y < 18446744073709551616) (h0 : y ≠ 0) (w : World) :
    Calls Try.prog 58 #[.bool na, .bool nb, .int .u64 (x : Int), .int .u64 (y : Int)] w (RetQ w (sgn na x / sgn nb y) (sgn na x % sgn nb y) 0) := by
  obtain ⟨q, r, hq, hr⟩ : ∃ q r, x = y * q + r ∧ r < y := ⟨x / y, x % y, (Nat.div_add_mod x y).symm, Nat.mod_lt _ (by omega)⟩
  have hqx : q ≤ x := by rw [hq]; exact Nat.le_trans (Nat.le_mul_of_pos_left q (by omega)) (Nat.le_add_right _ _)
  have hqr : 0 < r → q + 1 ≤ x := fun h => by
    have : q * 1 ≤ q * y := Nat.mul_le_mul_left _ (by omega)
    rw [hq, Nat.mul_comm]
    omega
  obtain ⟨hd1, hd2⟩ := div_signs na nb hq hr
  have hi : (x : Int) = (y : Int) * (q : Int) + (r : Int) := by rw [hq]; simp
  obtain ⟨e1, e2⟩ := div_unique (a := (x : Int)) (b := (y : Int)) (q := (q : Int)) (r := (r : Int)) (by omega) hi (by omega) (by omega)
  have HD1 := Lib.hid hd1
  have HD2 := Lib.hid hd2
  clear hd1 hd2 hi hq
  have hy1 : 1 ≤ y := by omega
  have hne : ¬ (y : Int) = 0 := by omega
  have e3 : IntKind.u64.wrap (q : Int) = (q : Int) := by rw [IntKind.wrap_u64]; omega
  have e4 : IntKind.u64.wrap (r : Int) = (r : Int) := by rw [IntKind.wrap_u64]; omega
  go_enter Try.func58, Try.ntmps58
  go_wp2
  go_quiet (fail)
  clear e3 e4
  by_cases hr0 : 0 < r
  · cases na
    · clear hqr
      go_wp2_with fail
      refine (packWord_any _ _ (by omega) _).mono fun e w1 h => ?_
      obtain ⟨b1, m1, HB1, rfl, hb1⟩ := h.form
      go_wp2_with fail
      refine (packWord_any _ _ (by omega) _).mono fun e w2 h => ?_
      obtain ⟨b2, m2, HB2, rfl, hb2⟩ := h.form
      have hb3 := hb1.trans (hb2.mono hb1.size)
      obtain ⟨p0, p1, g0, g1⟩ := res2 (g := w.heap.size) (by exact heap_fst _ _ _) hb3 (by show _ < ((w.alloc _).alloc _).heap.size; simp <;> omega)
      obtain ⟨q0, q1, f0, f1⟩ := res2 (g := w.heap.size + 1) (by exact heap_two _ _ _) hb3 (by show _ < ((w.alloc _).alloc _).heap.size; simp <;> omega)
      have HB3 := Lib.hid hb3
      clear h hb1 hb2 hb3 e1 e2
      go_wp2
      refine bodyPost_ret (v := .tuple #[.agg #[.bool b1, .string m1], .agg #[.bool b2, .string m2], .int .i64 0]) (by simp [results, Try.results58, go_sem, p0, p1, q0, q1]) rfl ⟨?_, ?_⟩
      · rw [HD1.out, HD2.out, ← HB1.out, ← HB2.out]
        simp [hr0]
        try rfl
      · have hx0 := HB3.out
        refine ((((Below.trans ?_ (hx0.mono (B' := w.heap.size) (by show _ ≤ ((w.alloc _).alloc _).heap.size; simp <;> omega))).setCell (by simp) _).setCell (by simp) _).setCell (by simp) _).setCell (by simp) _
        exact below_draws (((Below.refl _ _).alloc (Nat.le_refl _) _).alloc (by simp) _) _
    · have hq1 := hqr hr0
      clear hqr
      go_wp2_with fail
      rw [show (q : Int) + 1 = ((q + 1 : Nat) : Int) from by omega]
      refine (packWord_any _ _ (by omega) _).mono fun e w1 h => ?_
      obtain ⟨b1, m1, HB1, rfl, hb1⟩ := h.form
      go_wp2_with fail
      rw [show (y : Int) - (r : Int) = ((y - r : Nat) : Int) from by omega]
      refine (packWord_any _ _ (by omega) _).mono fun e w2 h => ?_
      obtain ⟨b2, m2, HB2, rfl, hb2⟩ := h.form
      have hb3 := hb1.trans (hb2.mono hb1.size)
      obtain ⟨p0, p1, g0, g1⟩ := res2 (g := w.heap.size) (by exact heap_fst _ _ _) hb3 (by show _ < ((w.alloc _).alloc _).heap.size; simp <;> omega)
      obtain ⟨q0, q1, f0, f1⟩ := res2 (g := w.heap.size + 1) (by exact heap_two _ _ _) hb3 (by show _ < ((w.alloc _).alloc _).heap.size; simp <;> omega)
      have HB3 := Lib.hid hb3
      clear h hb1 hb2 hb3 e1 e2
      go_wp2
      refine bodyPost_ret (v := .tuple #[.agg #[.bool b1, .string m1], .agg #[.bool b2, .string m2], .int .i64 0]) (by simp [results, Try.results58, go_sem, p0, p1, q0, q1]) rfl ⟨?_, ?_⟩
      · rw [HD1.out, HD2.out, ← HB1.out, ← HB2.out]
        simp [hr0]
        try rfl
      · have hx0 := HB3.out
        refine ((((Below.trans ?_ (hx0.mono (B' := w.heap.size) (by show _ ≤ ((w.alloc _).alloc _).heap.size; simp <;> omega))).setCell (by simp) _).setCell (by simp) _).setCell (by simp) _).setCell (by simp) _
        exact below_draws (((Below.refl _ _).alloc (Nat.le_refl _) _).alloc (by simp) _) _
  · cases na
    · clear hqr
      go_wp2_with fail
      refine (packWord_any _ _ (by omega) _).mono fun e w1 h => ?_
      obtain ⟨b1, m1, HB1, rfl, hb1⟩ := h.form
      go_wp2_with fail
      refine (packWord_any _ _ (by omega) _).mono fun e w2 h => ?_
      obtain ⟨b2, m2, HB2, rfl, hb2⟩ := h.form
      have hb3 := hb1.trans (hb2.mono hb1.size)
      obtain ⟨p0, p1, g0, g1⟩ := res2 (g := w.heap.size) (by exact heap_fst _ _ _) hb3 (by show _ < ((w.alloc _).alloc _).heap.size; simp <;> omega)
      obtain ⟨q0, q1, f0, f1⟩ := res2 (g := w.heap.size + 1) (by exact heap_two _ _ _) hb3 (by show _ < ((w.alloc _).alloc _).heap.size; simp <;> omega)
      have HB3 := Lib.hid hb3
      clear h hb1 hb2 hb3 e1 e2
      go_wp2
      refine bodyPost_ret (v := .tuple #[.agg #[.bool b1, .string m1], .agg #[.bool b2, .string m2], .int .i64 0]) (by simp [results, Try.results58, go_sem, p0, p1, q0, q1]) rfl ⟨?_, ?_⟩
      · rw [HD1.out, HD2.out, ← HB1.out, ← HB2.out]
        simp [hr0]
        try rfl
      · have hx0 := HB3.out
        refine ((((Below.trans ?_ (hx0.mono (B' := w.heap.size) (by show _ ≤ ((w.alloc _).alloc _).heap.size; simp <;> omega))).setCell (by simp) _).setCell (by simp) _).setCell (by simp) _).setCell (by simp) _
        exact below_draws (((Below.refl _ _).alloc (Nat.le_refl _) _).alloc (by simp) _) _
    · clear hqr
      go_wp2_with fail
      refine (packWord_any _ _ (by omega) _).mono fun e w1 h => ?_
      obtain ⟨b1, m1, HB1, rfl, hb1⟩ := h.form
      go_wp2_with fail
      refine (packWord_any _ _ (by omega) _).mono fun e w2 h => ?_
      obtain ⟨b2, m2, HB2, rfl, hb2⟩ := h.form
      have hb3 := hb1.trans (hb2.mono hb1.size)
      obtain ⟨p0, p1, g0, g1⟩ := res2 (g := w.heap.size) (by exact heap_fst _ _ _) hb3 (by show _ < ((w.alloc _).alloc _).heap.size; simp <;> omega)
      obtain ⟨q0, q1, f0, f1⟩ := res2 (g := w.heap.size + 1) (by exact heap_two _ _ _) hb3 (by show _ < ((w.alloc _).alloc _).heap.size; simp <;> omega)
      have HB3 := Lib.hid hb3
      clear h hb1 hb2 hb3 e1 e2
      go_wp2
      refine bodyPost_ret (v := .tuple #[.agg #[.bool b1, .string m1], .agg #[.bool b2, .string m2], .int .i64 0]) (by simp [results, Try.results58, go_sem, p0, p1, q0, q1]) rfl ⟨?_, ?_⟩
      · rw [HD1.out, HD2.out, ← HB1.out, ← HB2.out]
        simp [hr0]
        try rfl
      · have hx0 := HB3.out
        refine ((((Below.trans ?_ (hx0.mono (B' := w.heap.size) (by show _ ≤ ((w.alloc _).alloc _).heap.size; simp <;> omega))).setCell (by simp) _).setCell (by simp) _).setCell (by simp) _).setCell (by simp) _
        exact below_draws (((Below.refl _ _).alloc (Nat.le_refl _) _).alloc (by simp) _) _
end Go.Proofs.Ytoolljoejioigaa

/-
  The program's digits without zeros at the end, and the integer of some digits.
-/
namespace Go.Proofs.Ytoolljoejioigaa
open Go.RowKit
attribute [local go_sem ↓] Go.wp_at_zero Go.wp_at_succ

/-- The program's base. -/
def B64 : Nat := 18446744073709551616
theorem B64_eq : B64 = 18446744073709551616 := rfl
theorem B64_pos : 0 < B64 := by decide
theorem D64_lt (V i : Nat) : D B64 V i < 18446744073709551616 := D_lt B64_pos V i

/-- The slice at A holds the digits of V in the program's base; its length is n, its capacity c. -/
structure Ng (w : World) (A : Option Addr) (n c V : Nat) : Prop where
  lt : V < B64 ^ n
  cap : n ≤ c
  rd : Rd w .u64 A n (D B64 V)

theorem Ng.below {w w' : World} {A : Option Addr} {n c V : Nat} (h : Ng w A n c V) (hb : Below w.heap.size w w') : Ng w' A n c V := ⟨h.lt, h.cap, h.rd.below hb⟩
theorem Ng.alloc {w : World} {A : Option Addr} {n c V : Nat} (h : Ng w A n c V) (o : Obj) : Ng (w.alloc o) A n c V := ⟨h.lt, h.cap, h.rd.alloc o⟩
theorem Ng.drewN {w : World} {A : Option Addr} {n c V : Nat} (h : Ng w A n c V) (k : Nat) : Ng (w.drewN k) A n c V := ⟨h.lt, h.cap, h.rd⟩

/-- Digits of V, the last one not zero. -/
structure Nm (w : World) (A : Option Addr) (n c V : Nat) : Prop extends Ng w A n c V where
  top : 0 < n → B64 ^ (n - 1) ≤ V

theorem Nm.below {w w' : World} {A : Option Addr} {n c V : Nat} (h : Nm w A n c V) (hb : Below w.heap.size w w') : Nm w' A n c V := ⟨h.toNg.below hb, h.top⟩
theorem Nm.zero {w : World} {A : Option Addr} {n c V : Nat} (h : Nm w A n c V) : n = 0 ↔ V = 0 := by
  constructor
  · rintro rfl; have := h.lt; simpa using this
  · intro h0
    rcases Nat.eq_zero_or_pos n with h1 | h1
    · exact h1
    · have := h.top h1
      have hp : 0 < B64 ^ (n - 1) := Nat.pow_pos B64_pos
      omega

/-- Where the digits end that count. -/
theorem topD {b V n : Nat} (hb : 0 < b) (h : V < b ^ n) : ∃ k, k ≤ n ∧ V < b ^ k ∧ (∀ i, k ≤ i → i < n → D b V i = 0) ∧ (0 < k → D b V (k - 1) ≠ 0 ∧ b ^ (k - 1) ≤ V) := by
  induction n with
  | zero => exact ⟨0, Nat.le_refl _, h, fun i h1 h2 => by omega, fun h => by omega⟩
  | succ n ih =>
    rcases Nat.lt_or_ge V (b ^ n) with h1 | h1
    · obtain ⟨k, a1, a2, a3, a4⟩ := ih h1
      refine ⟨k, by omega, a2, fun i b1 b2 => ?_, a4⟩
      by_cases e : i = n
      · rw [e]; exact D_zero_of hb h1 (Nat.le_refl _)
      · exact a3 i b1 (by omega)
    · exact ⟨n + 1, Nat.le_refl _, h, fun i b1 b2 => by omega, fun _ => ⟨D_pos hb h1 h, h1⟩⟩

/-- A call that cuts a slice to the digits that count, the world as it was. -/
def RetT (w : World) (A : Option Addr) (c n V : Nat) (e : Ending) (w' : World) : Prop := ∃ m, m ≤ n ∧ e = .returned (.slice A m c) ∧ Nm w' A m c V ∧ w = w'

set_option maxHeartbeats 1000000 in
set_option maxRecDepth 100000 in
theorem trim_any (A : Option Addr) (n c V : Nat) (w : World) (hn : n ≤ 1099511627776) (h : Ng w A n c V) :
    Calls Try.prog 70 #[.slice A n c] w (RetT w A c n V) := by
  obtain ⟨k0, hk0, hV, hz, ht⟩ := topD B64_pos h.lt
  have hcap := h.cap
  have HV := Lib.hid hV
  have HZ := Lib.hid hz
  have HT := Lib.hid ht
  have HR := Lib.hid h
  clear hV hz ht h
  go_enter Try.func70, Try.ntmps70
  go_wp2
  go_loop [0] (fun v => ∃ k : Nat, k ≤ n ∧ k0 ≤ k ∧ v = .slice A k c) (fun v => match v with | .slice _ k _ => k | _ => 0)
  case atStart => exact ⟨n, Nat.le_refl _, hk0, rfl⟩
  case round =>
    obtain ⟨k, hk, hkk, rfl⟩ := hrel
    by_cases h0 : k0 < k
    · have hr := HR.out
      obtain ⟨g, o, rfl, hg, hcell⟩ := hr.rd (by omega)
      have hc1 : w.cell? ⟨g, o + (k - 1), none⟩ = some (.int .u64 0) := by rw [hcell (k - 1) (by omega), HZ.out (k - 1) (by omega) (by omega)]; rfl
      clear hcell hr
      go_wp2
      go_round
      case rel => exact ⟨k - 1, by omega, by omega, by first | rfl | simp⟩
      case measure => simp <;> omega
    · obtain rfl : k = k0 := by omega
      by_cases h1 : 0 < k
      · have hr := HR.out
        obtain ⟨g, o, rfl, hg, hcell⟩ := hr.rd (by omega)
        have hc1 : w.cell? ⟨g, o + (k - 1), none⟩ = some (.int .u64 (D B64 V (k - 1) : Int)) := hcell (k - 1) (by omega)
        have hne : ((D B64 V (k - 1) : Int) == 0) = false := by have := (HT.out h1).1; simp; omega
        clear hcell hr
        go_wp2
        go_ret
        exact ⟨k, hk, rfl, ⟨⟨HV.out, by omega, HR.out.rd.take hk⟩, fun h => (HT.out h).2⟩, rfl⟩
      · go_wp2
        go_ret
        exact ⟨k, hk, rfl, ⟨⟨HV.out, by omega, HR.out.rd.take hk⟩, fun h => (HT.out h).2⟩, rfl⟩
end Go.Proofs.Ytoolljoejioigaa
