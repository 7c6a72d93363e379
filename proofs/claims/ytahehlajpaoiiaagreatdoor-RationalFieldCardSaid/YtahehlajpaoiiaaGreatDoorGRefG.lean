import Derived.Test.YtahehlajpaoiiaaGreatDoorGRefD
import Derived.Test.YtahehlajpaoiiaaGreatDoorGQB

/-
  The program's product of any two integers.
-/
namespace Go.Proofs.YtahehlajpaoiiaaGreatDoor
open Go.RowKit
attribute [local go_sem ↓] Go.wp_at_zero Go.wp_at_succ

/-- An array of sixteen words, and where it lies. -/
def arr16 : Obj := .cells #[.int .u64 0, .int .u64 0, .int .u64 0, .int .u64 0, .int .u64 0, .int .u64 0, .int .u64 0, .int .u64 0, .int .u64 0, .int .u64 0, .int .u64 0, .int .u64 0, .int .u64 0, .int .u64 0, .int .u64 0, .int .u64 0] 111

/-- Block g is an array of sixteen words. -/
def Is16 (w : World) (g : Nat) : Prop := ∃ cur, w.heap[g]? = some (.cells cur 111 (0, 0)) ∧ 16 ≤ cur.size

theorem Is16.own {w : World} {g : Nat} (h : Is16 w g) : Own w 0 (.slice (some ⟨g, 0, none⟩) 0 16) 0 [] := by
  obtain ⟨cur, hg, hs⟩ := h
  exact Own.start hg (Nat.zero_le _) hs (by simp [maxLen])
theorem Is16.keep {w w' : World} {g : Nat} (h : Is16 w g) (e : w'.heap[g]? = w.heap[g]?) : Is16 w' g := by
  obtain ⟨cur, hg, hs⟩ := h
  exact ⟨cur, e.trans hg, hs⟩
theorem Is16.lt {w : World} {g : Nat} (h : Is16 w g) : g < w.heap.size := by
  obtain ⟨cur, hg, _⟩ := h
  exact (Array.getElem?_eq_some_iff.1 hg).1

theorem heap_three_all (w : World) (o1 o2 o3 : Obj) : (((w.alloc o1).alloc o2).alloc o3).heap[w.heap.size]? = some o1 ∧ (((w.alloc o1).alloc o2).alloc o3).heap[w.heap.size + 1]? = some o2 ∧ (((w.alloc o1).alloc o2).alloc o3).heap[w.heap.size + 2]? = some o3 :=
  ⟨(Below.heap_alloc _ _ _ (by simp <;> omega)).trans (heap_fst _ _ _), (Below.heap_alloc _ _ _ (by simp <;> omega)).trans (heap_two _ _ _), heap_three _ _ _ _⟩

theorem keep_cell {W w2 : World} {g p o : Nat} {v : Value} (hg : W.grownBy w2 (some g)) (hp : p < W.heap.size) (hne : p ≠ g) (h : W.cell? ⟨p, o, none⟩ = some v) : w2.cell? ⟨p, o, none⟩ = some v :=
  (World.cell?_of_block (w := W) (a := ⟨p, o, none⟩) (hg.block p hp (fun e => hne (by injection e)))).trans h
theorem keep_16 {W w2 : World} {g p : Nat} (hg : W.grownBy w2 (some g)) (hne : p ≠ g) (h : Is16 W p) : Is16 w2 p := h.keep (hg.block p h.lt (fun e => hne (by injection e)))

theorem below_of_grown {a b : World} {B g : Nat} (hg : a.grownBy b (some g)) (hB : B ≤ a.heap.size) (hb : B ≤ g) : Below B a b := (Below.refl B a).grown hg hB (fun k hk => by injection hk with hk; omega)

/-- Digits that lie at the head of block g, or in a block that was new, don't lie in another old block. -/
theorem apart {A : Option Addr} {n c g p S : Nat} (h : Value.ownBlock (.slice A n c) = some g ∨ ∀ k, Value.ownBlock (.slice A n c) = some k → S ≤ k) (hne : g ≠ p) (hS : p < S) : ∀ a, A = some a → a.block ≠ p := fun a ha => by
  subst ha
  rcases h with h | h
  · simp [Value.ownBlock] at h; omega
  · have := h a.block rfl; omega

theorem row_eq {g q : Nat} (h : (Value.slice (some ⟨g, 0, none⟩) 0 16).ownBlock = some q) : g = q := by simpa [Value.ownBlock] using h

/-- Where a result of digits may lie. -/
theorem block_of_own {A : Option Addr} {n c : Nat} {a : Addr} (h : A = some a) : Value.ownBlock (.slice A n c) = some a.block := by subst h; rfl

set_option maxHeartbeats 4000000 in
set_option maxRecDepth 100000 in
theorem mul_long (na nb : Bool) (a b : ByteArray) (ha : a.size ≤ 400000000) (hb : b.size ≤ 400000000) (h : 8 < a.size ∨ 8 < b.size) (w : World) :
    Calls Tryz.prog 79 #[.agg #[.bool na, .string a], .agg #[.bool nb, .string b]] w (RetZ w (sgn (na != nb) (bval a * bval b))) := by
  go_enter Tryz.func79, Tryz.ntmps79
  go_wp2_with fail
  refine (words_no na nb a b h _).mono ?_
  rintro e w1 ⟨rfl, hb1⟩
  obtain ⟨k1, k2, k3⟩ := heap_three_all w (.cells #[.bool na, .string a] 23) (.cells #[.bool nb, .string b] 23) (.cells #[.bool false, .string ⟨#[]⟩] 23)
  have HK3 := Lib.hid k3
  obtain ⟨c0, c1, _, _⟩ := res2 (g := w.heap.size) (by exact k1) hb1 (by simp <;> omega)
  obtain ⟨c2, c3, _, _⟩ := res2 (g := w.heap.size + 1) (by exact k2) hb1 (by simp <;> omega)
  have hsz : w.heap.size + 3 ≤ w1.heap.size := by have := hb1.size; simp at this; omega
  have HB1 := Lib.hid hb1
  clear k1 k2 k3 hb1
  have hw2 : ∃ W, W = ((w1.alloc arr16).alloc arr16).alloc arr16 := ⟨_, rfl⟩
  obtain ⟨W, hW⟩ := hw2
  obtain ⟨l1, l2, l3⟩ := heap_three_all w1 arr16 arr16 arr16
  rw [← hW] at l1 l2 l3
  have hbW : Below w1.heap.size w1 W := by rw [hW]; exact ((((Below.refl _ _).alloc (Nat.le_refl _) _).alloc (by simp) _).alloc (by simp <;> omega) _)
  have hszW : W.heap.size = w1.heap.size + 3 := by rw [hW]; simp
  have iA : Is16 W w1.heap.size := ⟨_, l1, by simp⟩
  have iB : Is16 W (w1.heap.size + 1) := ⟨_, l2, by simp⟩
  have iC : Is16 W (w1.heap.size + 2) := ⟨_, l3, by simp⟩
  have c0' := (hbW.cell (p := ⟨w.heap.size, 0, none⟩) (by show w.heap.size < _; omega)).trans c0
  have c1' := (hbW.cell (p := ⟨w.heap.size, 1, none⟩) (by show w.heap.size < _; omega)).trans c1
  have c2' := (hbW.cell (p := ⟨w.heap.size + 1, 0, none⟩) (by show w.heap.size + 1 < _; omega)).trans c2
  have c3' := (hbW.cell (p := ⟨w.heap.size + 1, 1, none⟩) (by show w.heap.size + 1 < _; omega)).trans c3
  have HU1 := Lib.hid (fun V (hV : Is16 V w1.heap.size) => unpack_any (.slice (some ⟨w1.heap.size, 0, none⟩) 0 16) a 0 V (by omega) (Nat.zero_le _) hV.own)
  have HU2 := Lib.hid (fun V (hV : Is16 V (w1.heap.size + 1)) => unpack_any (.slice (some ⟨w1.heap.size + 1, 0, none⟩) 0 16) b 0 V (by omega) (Nat.zero_le _) hV.own)
  have IA := Lib.hid iA
  have IB := Lib.hid iB
  have IC := Lib.hid iC
  have HW := Lib.hid hW
  have HBW := Lib.hid hbW
  have HSW := Lib.hid hszW
  clear l1 l2 l3 hbW hszW iA iB iC c0 c1 c2 c3 hW
  go_wp2_with fail
  have hw9 : ((w1.alloc arr16).alloc arr16).alloc arr16 = W := HW.out.symm
  unfold arr16 at hw9
  rw [hw9]
  clear hw9
  have hp1 : w.heap.size < W.heap.size := by have := HSW.out; omega
  have hp2 : w.heap.size + 1 < W.heap.size := by have := HSW.out; omega
  go_region_held3 (fun w' => w'.cell? ⟨w.heap.size, 1, none⟩ = some (.string a) ∧ w'.cell? ⟨w.heap.size + 1, 1, none⟩ = some (.string b))
    (first
      | go_keep
      | exact ⟨y1, y2⟩
      | exact ⟨z1, z2⟩)
    (first
      | (go_at_call 104; (with_reducible refine (HU1.out _ ?_).mono ?_); (exact IA.out.keep rfl); rintro e w2 ⟨A1, n1, d1, hn1, rfl, hm1, hg2, hbk1⟩; have z1 := keep_cell (W := W.drew) (g := w1.heap.size) hg2 hp1 (by omega) c1'; have z2 := keep_cell (W := W.drew) (g := w1.heap.size) hg2 hp2 (by omega) c3'; have hq1 := Nat.lt_of_lt_of_le hp1 hg2.size; have hq2 := Nat.lt_of_lt_of_le hp2 hg2.size)
      | (go_at_call 104; (with_reducible refine (HU2.out _ ?_).mono ?_); (exact keep_16 (W := W.drew) (g := w1.heap.size) hg2 (by omega) (IB.out.keep rfl)); rintro e w3 ⟨A2, n2, d2, hn2, rfl, hm2, hg3, hbk2⟩; have y1 := keep_cell (g := w1.heap.size + 1) hg3 hq1 (by omega) z1; have y2 := keep_cell (g := w1.heap.size + 1) hg3 hq2 (by omega) z2))
  have hs2 : W.heap.size ≤ w2.heap.size := hg2.size
  have hs3 : w2.heap.size ≤ w3.heap.size := hg3.size
  have hsW := HSW.out
  have ax := apart (g := w1.heap.size) (p := w1.heap.size + 1) hbk1 (by omega) (by show _ < W.heap.size; omega)
  have axC := apart (g := w1.heap.size) (p := w1.heap.size + 2) hbk1 (by omega) (by show _ < W.heap.size; omega)
  have ayC := apart (g := w1.heap.size + 1) (p := w1.heap.size + 2) hbk2 (by omega) (by omega)
  have hx3 : Ng w3 A1 n1 d1 (bval a) := ⟨hm1.lt, hm1.cap, hm1.rd.grown hg3 (fun q hq z hz e => ax z hz (e.trans (row_eq hq).symm))⟩
  have i2 := keep_16 (W := W.drew) (g := w1.heap.size) hg2 (by omega) (IC.out.keep rfl)
  have i3 := keep_16 (g := w1.heap.size + 1) hg3 (by omega) i2
  have hbl : Below w1.heap.size w1 w3 := ((HBW.out.drew).trans (below_of_grown (g := w1.heap.size) hg2 (by show _ ≤ W.heap.size; omega) (Nat.le_refl _))).trans (below_of_grown (g := w1.heap.size + 1) hg3 (by omega) (by omega))
  have HT := Lib.hid (times_any (.slice (some ⟨w1.heap.size + 2, 0, none⟩) 0 16) 0 A1 A2 n1 n2 d1 d2 (bval a) (bval b) w3 (by omega) (by omega) (.inr (by simp [Value.ownBlock])) i3.own (Nat.zero_le _) hx3 hm2.toNg (fun z hz e => axC z hz (by injection e)) (fun z hz e => ayC z hz (by injection e)))
  have HBL := Lib.hid hbl
  have HN1 := Lib.hid hn1
  have HN2 := Lib.hid hn2
  have HS3 := Lib.hid hs3
  have HS2 := Lib.hid hs2
  clear hg2 hg3 hbk1 hbk2 hm1 hm2 ax axC ayC hx3 i2 i3 hbl hn1 hn2 z1 z2 y1 y2 c0' c1' c2' c3' hq1 hq2 hp1 hp2 hs2 hs3 hsW
  go_wp2_with fail
  refine HT.out.mono ?_
  rintro e w4 ⟨A4, n4, d4, hn4, rfl, hm4, hg4, _⟩
  have HM4 := Lib.hid hm4
  have HG4 := Lib.hid hg4
  have HN4 := Lib.hid hn4
  clear hm4 hg4 hn4
  go_wp2_with fail
  refine (pack_any _ A4 n4 d4 _ _ (by have := HN4.out; have := HN1.out; have := HN2.out; omega) HM4.out.toNg).mono fun e w5 h => ?_
  obtain ⟨b2, m2, HB2, rfl, hb5⟩ := h.form
  have hs4 : w3.heap.size ≤ w4.heap.size := HG4.out.size
  have hbl4 : Below w1.heap.size w1 w5 := (HBL.out.trans (below_of_grown (g := w1.heap.size + 2) HG4.out (by have := HS3.out; have := HS2.out; have := HSW.out; omega) (by omega))).trans (hb5.mono (by have := HS3.out; have := HS2.out; have := HSW.out; omega))
  have hall := HB1.out.trans (hbl4.mono HB1.out.size)
  obtain ⟨p0, p1, g0, g1⟩ := res2 (g := w.heap.size + 2) (by exact HK3.out) hall (by simp <;> omega)
  have HALL := Lib.hid hall
  clear h hb5 hbl4 hall hs4
  go_wp2
  refine bodyPost_ret (v := .agg #[.bool b2, .string m2]) (by simp [results, Tryz.results79, go_sem, p0, p1]) rfl ⟨?_, ?_⟩
  · rw [← HB2.out]
    have e : (!na == nb) = (na != nb) := by cases na <;> cases nb <;> rfl
    first | rw [e] | rfl
  · exact ((Below.trans ((((Below.refl _ _).alloc (Nat.le_refl _) _).alloc (by simp <;> omega) _).alloc (by simp <;> omega) _) (HALL.out.mono (B' := w.heap.size) (by simp <;> omega))).setCell (by simp <;> omega) _).setCell (by simp <;> omega) _

theorem mul_pair (na nb : Bool) (a b : ByteArray) (ha : a.size ≤ 400000000) (hb : b.size ≤ 400000000) (w : World) :
    Calls Tryz.prog 79 #[.agg #[.bool na, .string a], .agg #[.bool nb, .string b]] w (RetZ w (sgn (na != nb) (bval a * bval b))) := by
  by_cases h1 : 8 < a.size
  · exact mul_long na nb a b ha hb (.inl h1) w
  · by_cases h2 : 8 < b.size
    · exact mul_long na nb a b ha hb (.inr h2) w
    · exact mul_short na nb a b (by omega) (by omega) w

theorem sgn_mul (x y : Int) : sgn (decide (x < 0) != decide (y < 0)) (x.natAbs * y.natAbs) = x * y := by
  rcases Int.natAbs_eq x with h | h <;> rcases Int.natAbs_eq y with h' | h' <;> unfold sgn
  all_goals
    generalize x.natAbs = p at *
    generalize y.natAbs = q at *
    subst h
    subst h'
  · have a1 : ¬ ((p : Int) < 0) := by omega
    have a2 : ¬ ((q : Int) < 0) := by omega
    simp [a1, a2]
  · rcases Nat.eq_zero_or_pos q with hq | hq
    · subst hq; simp
    · have : ¬ ((p : Int) < 0) := by omega
      have h2 : (-(q : Int)) < 0 := by omega
      simp [this, h2, hq, Int.mul_neg, Int.neg_mul]
  · rcases Nat.eq_zero_or_pos p with hq | hq
    · subst hq; simp
    · have : ¬ ((q : Int) < 0) := by omega
      have h2 : (-(p : Int)) < 0 := by omega
      simp [this, h2, hq, Int.mul_neg, Int.neg_mul]
  · rcases Nat.eq_zero_or_pos p with hq | hq
    · subst hq; simp
    · rcases Nat.eq_zero_or_pos q with hq' | hq'
      · subst hq'; simp
      · have h1 : (-(q : Int)) < 0 := by omega
        have h2 : (-(p : Int)) < 0 := by omega
        simp [h1, h2, hq, hq', Int.mul_neg, Int.neg_mul]

theorem mul_any (x y : Int) (h1 : (mag x.natAbs).size ≤ 100000) (h2 : (mag y.natAbs).size ≤ 100000) (w : World) : Calls Tryz.prog 79 #[enc x, enc y] w (RetZ w (x * y)) := by
  have h := mul_pair (decide (x < 0)) (decide (y < 0)) (mag x.natAbs) (mag y.natAbs) (by omega) (by omega) w
  rw [bval_mag, bval_mag, sgn_mul] at h
  exact h
end Go.Proofs.YtahehlajpaoiiaaGreatDoor


/-
  The program's powers.
-/
namespace Go.Proofs.YtahehlajpaoiiaaGreatDoor
open Go.RowKit
attribute [local go_sem ↓] Go.wp_at_zero Go.wp_at_succ

theorem and_one_i64 (q : Nat) (hq : q < 9223372036854775808) : bits .and .i64 (q : Int) 1 = ((q % 2 : Nat) : Int) := by
  show IntKind.i64.wrap ((BitVec.ofInt 64 (q : Int) &&& BitVec.ofInt 64 1).toNat : Int) = _
  have h1 : (BitVec.ofInt 64 1).toNat = 1 := by decide
  rw [BitVec.toNat_and, nat_bits q (by omega), h1, Nat.and_one_is_mod]
  exact IntWalk.i64_in _ (by omega)

theorem mag_small {z : Int} {k : Nat} (h : z.natAbs < 256 ^ k) : (mag z.natAbs).size ≤ k := mag_size_le h

theorem pow_small {x : Int} (hx : x.natAbs < 256 ^ 8) (e : Nat) : (x ^ e).natAbs < 256 ^ (8 * e + 1) := by
  rw [Int.natAbs_pow]
  induction e with
  | zero => simp
  | succ e ih =>
    rw [Nat.pow_succ, show 8 * (e + 1) + 1 = (8 * e + 1) + 8 by omega, Nat.pow_add]
    exact Nat.mul_lt_mul'' ih hx

theorem pow_size {x : Int} (hx : x.natAbs < 256 ^ 8) (e : Nat) (he : e ≤ 200) : (mag (x ^ e).natAbs).size ≤ 100000 := by
  have := mag_size_le (pow_small hx e)
  omega

theorem half_pow (x : Int) (n j : Nat) : x ^ (n / 2 ^ j) = if n / 2 ^ j % 2 = 1 then x ^ (n / 2 ^ (j + 1)) * x ^ (n / 2 ^ (j + 1)) * x else x ^ (n / 2 ^ (j + 1)) * x ^ (n / 2 ^ (j + 1)) := by
  have e : n / 2 ^ (j + 1) = n / 2 ^ j / 2 := by rw [Nat.pow_succ, Nat.div_div_eq_div_mul]
  rw [e]
  generalize n / 2 ^ j = q
  split
  · rw [← Int.pow_add, ← Int.pow_succ]; congr 1; omega
  · rw [← Int.pow_add]; congr 1; omega

/-- Two cells of one block written one after the other: what stands in them. -/
theorem two_cells (w : World) (b : Nat) {u0 u1 : Value} (v0 v1 : Value) (h0 : w.cell? ⟨b, 0, none⟩ = some u0) (h1 : w.cell? ⟨b, 1, none⟩ = some u1) :
    ((w.setCell ⟨b, 0, none⟩ v0).setCell ⟨b, 1, none⟩ v1).cell? ⟨b, 0, none⟩ = some v0 ∧ ((w.setCell ⟨b, 0, none⟩ v0).setCell ⟨b, 1, none⟩ v1).cell? ⟨b, 1, none⟩ = some v1 := by
  refine ⟨?_, ?_⟩ <;> simp [go_sem, h0, h1]

/-- A call that hands back an integer and an error. -/
def RetE (w : World) (z : Int) (err : Int) (e : Ending) (w' : World) : Prop := ∃ b m, Hid (enc z = .agg #[.bool b, .string m]) ∧ e = .returned (.tuple #[.agg #[.bool b, .string m], .int .i64 err]) ∧ Below w.heap.size w w'

end Go.Proofs.YtahehlajpaoiiaaGreatDoor


/-
  The reference's product of two integers.
-/
namespace Go.Proofs.YtahehlajpaoiiaaGreatDoor
open Go.RowKit
attribute [local go_sem ↓] Go.wp_at_zero Go.wp_at_succ

theorem heap_three_top (w : World) (o1 o2 o3 : Obj) : (((w.alloc o1).alloc o2).alloc o3).heap[w.heap.size + 2]? = some o3 := heap_three w o1 o2 o3

end Go.Proofs.YtahehlajpaoiiaaGreatDoor


/-
  The reference's integer of an int.
-/
namespace Go.Proofs.YtahehlajpaoiiaaGreatDoor
open Go.RowKit
attribute [local go_sem ↓] Go.wp_at_zero Go.wp_at_succ

/-- The bytes of the magnitude that are left of n, with n's sign. -/
def left (n : Int) (k : Nat) : Int := if n < 0 then -((n.natAbs / 256 ^ k : Nat) : Int) else ((n.natAbs / 256 ^ k : Nat) : Int)

theorem left_zero (n : Int) : left n 0 = n := by unfold left; split <;> simp <;> omega

theorem digits_end {V k : Nat} (hV : V ≤ 9223372036854775808) (h : V / 256 ^ k ≠ 0) : k < 8 := by
  rcases Nat.lt_or_ge k 8 with h1 | h1
  · exact h1
  · have h2 : (256 : Nat) ^ 8 ≤ 256 ^ k := Nat.pow_le_pow_right (by omega) h1
    have h3 : (256 : Nat) ^ 8 = 18446744073709551616 := by decide
    exact absurd (Nat.div_eq_of_lt (by omega)) h

theorem digits_all {V k : Nat} (h : V / 256 ^ k = 0) : V < 256 ^ k := by
  have hp : 0 < 256 ^ k := Nat.pow_pos (by omega)
  rcases Nat.lt_or_ge V (256 ^ k) with h1 | h1
  · exact h1
  · have := Nat.div_pos h1 hp
    omega

theorem neg_rem (q : Nat) : (-(q : Int)).tmod 256 = -((q % 256 : Nat) : Int) := by rw [Int.neg_tmod]; rfl
theorem neg_quo (q : Nat) : (-(q : Int)).tdiv 256 = -((q / 256 : Nat) : Int) := by rw [Int.neg_tdiv]; rfl

end Go.Proofs.YtahehlajpaoiiaaGreatDoor
