/-
  Words for the walks of the statements about two integers; the walk of the statement about comparisons.
-/
import Derived.Test.YtoolljoejioigaaGLawE
import Derived.Test.YtoolljoejioigaaGIntW
namespace Go.Proofs.Ytoolljoejioigaa
open Go.RowKit
attribute [local go_sem ↓] Go.wp_at_zero Go.wp_at_succ

/-- The world so far, behind a call: the two integers lie where they lay. -/
structure S2 (w : World) (b1 b2 : Bool) (m1 m2 : ByteArray) (wc : World) : Prop where
  zx : Zi wc w.heap.size b1 m1
  zy : Zi wc (w.heap.size + 1) b2 m2
  big : w.heap.size + 2 ≤ wc.heap.size
  bel : Below w.heap.size w wc
theorem S2.next {w w1 w2 : World} {b1 b2 : Bool} {m1 m2 : ByteArray} (h : S2 w b1 b2 m1 m2 w1) (hb : Below w1.heap.size w1 w2) : S2 w b1 b2 m1 m2 w2 := by
  have := h.big
  exact ⟨h.zx.below hb (by omega), h.zy.below hb (by omega), Nat.le_trans h.big hb.size, h.bel.trans (hb.mono h.bel.size)⟩
theorem S2.drew {w w1 : World} {b1 b2 : Bool} {m1 m2 : ByteArray} (h : S2 w b1 b2 m1 m2 w1) : S2 w b1 b2 m1 m2 w1.drew := h.next (Below.refl _ _).drew
theorem S2.alloc {w w1 : World} {b1 b2 : Bool} {m1 m2 : ByteArray} (h : S2 w b1 b2 m1 m2 w1) (o : Obj) : S2 w b1 b2 m1 m2 (w1.alloc o) := h.next ((Below.refl _ _).alloc (Nat.le_refl _) _)
theorem S2.cells {w wc : World} {b1 b2 : Bool} {m1 m2 : ByteArray} (h : S2 w b1 b2 m1 m2 wc) :
    wc.cell? ⟨w.heap.size, 0, none⟩ = some (.bool b1) ∧ wc.cell? ⟨w.heap.size, 1, none⟩ = some (.string m1) ∧ wc.cell? ⟨w.heap.size + 1, 0, none⟩ = some (.bool b2) ∧ wc.cell? ⟨w.heap.size + 1, 1, none⟩ = some (.string m2) := ⟨h.zx.c0, h.zx.c1, h.zy.c0, h.zy.c1⟩

/-- Two integers of at most k and j bytes lie in the two boxes. -/
structure In2 (w : World) (k j : Nat) (x y : Int) (b1 b2 : Bool) (m1 m2 : ByteArray) (wx : World) : Prop where
  sx : x.natAbs < 256 ^ k
  sy : y.natAbs < 256 ^ j
  ex : Hid (enc x = .agg #[.bool b1, .string m1])
  ey : Hid (enc y = .agg #[.bool b2, .string m2])
  st : S2 w b1 b2 m1 m2 wx
def In2E (w : World) (k j : Nat) (wx : World) : Prop := ∃ x y b1 b2 m1 m2, In2 w k j x y b1 b2 m1 m2 wx

theorem In2E.mk {w W : World} {k j : Nat} {T : TypeId} {v0 v1 v2 v3 : Value} {x y : Int} {b1 b2 : Bool} {m1 m2 : ByteArray} (hk : K2 w T v0 v1 v2 v3 W) (sx : x.natAbs < 256 ^ k) (sy : y.natAbs < 256 ^ j)
    (ex : Hid (enc x = .agg #[.bool b1, .string m1])) (ey : Hid (enc y = .agg #[.bool b2, .string m2])) :
    In2E w k j ((((W.setCell ⟨w.heap.size, 0, none⟩ (.bool b1)).setCell ⟨w.heap.size, 1, none⟩ (.string m1)).setCell ⟨w.heap.size + 1, 0, none⟩ (.bool b2)).setCell ⟨w.heap.size + 1, 1, none⟩ (.string m2)) := by
  obtain ⟨a0, a1, _, _⟩ := blk_cells hk.k0
  obtain ⟨a2, a3, _, _⟩ := blk_cells hk.k1
  obtain ⟨t0, t1, t2, t3, t4⟩ := set_two (g := w.heap.size) (x0 := .bool b1) (x1 := .string m1) (x2 := .bool b2) (x3 := .string m2) a0 a1 a2 a3
  exact ⟨x, y, b1, b2, m1, m2, sx, sy, ex, ey, ⟨t0, t1⟩, ⟨t2, t3⟩, by rw [t4]; exact hk.sz,
    (((hk.bel.setCell (by show w.heap.size ≤ w.heap.size; omega) _).setCell (by show w.heap.size ≤ w.heap.size; omega) _).setCell (by show w.heap.size ≤ w.heap.size + 1; omega) _).setCell (by show w.heap.size ≤ w.heap.size + 1; omega) _⟩

theorem cmpZ_swap (x y : Int) : cmpZ y x = - cmpZ x y := by
  unfold cmpZ
  rcases Int.lt_trichotomy x y with h | h | h
  · rw [if_neg (by omega), if_pos h, if_pos h]; rfl
  · subst h; simp
  · rw [if_pos h, if_neg (by omega), if_pos h]
theorem cmpZ_self (x : Int) : cmpZ x x = 0 := by unfold cmpZ; simp
theorem cmpZ_sub (x y : Int) : (x - y).sign = cmpZ x y := by
  unfold cmpZ
  rcases Int.lt_trichotomy x y with h | h | h
  · rw [if_pos h, Int.sign_eq_neg_one_of_neg (by omega)]
  · subst h; simp
  · rw [if_neg (by omega), if_pos h, Int.sign_eq_one_of_pos (by omega)]

set_option maxHeartbeats 4000000 in
set_option maxRecDepth 100000 in
theorem compares_walk (na : Bool) (a : ByteArray) (nb : Bool) (b : ByteArray) (w : World) : Calls Try.prog 5 #[.agg #[.bool na, .string a], .agg #[.bool nb, .string b]] w (RetB w (.bool true)) := by
  have HU1 := Lib.hid (fun V => in_any na a V)
  have HU2 := Lib.hid (fun V => in_any nb b V)
  have K0 := Lib.hid (K2.start w 23 (.bool na) (.string a) (.bool nb) (.string b))
  go_enter Try.func5, Try.ntmps5
  go_upto_region 1 with fail
  go_cut [] (fun wx => In2E w 40 40 wx)
  case first =>
    go_region_with (first
      | (go_at_call 20; (with_reducible refine (HU1.out _).mono ?_); rintro e w1 ⟨x, hx, rfl, hb1⟩; obtain ⟨b1, m1, hbm1⟩ := enc_form x; rw [hbm1]; have HBM1 := Lib.hid hbm1; clear hbm1; have KK := Lib.hid (K0.out.drew.next hb1); obtain ⟨p0, p1, p2, p3⟩ := blk_cells KK.out.k0; obtain ⟨p4, p5, p6, p7⟩ := blk_cells KK.out.k1)
      | (go_at_call 20; (with_reducible refine (HU2.out _).mono ?_); rintro e w2 ⟨y, hy, rfl, hb2⟩; obtain ⟨b2, m2, hbm2⟩ := enc_form y; rw [hbm2]; have HBM2 := Lib.hid hbm2; clear hbm2; have KK2 := Lib.hid (KK.out.next hb2); obtain ⟨r0, r1, r2, r3⟩ := blk_cells KK2.out.k0; obtain ⟨r4, r5, r6, r7⟩ := blk_cells KK2.out.k1))
    all_goals
      go_wp2_with fail
      go_meet
      exact In2E.mk KK2.out hx hy HBM1 HBM2
  case rest =>
    obtain ⟨x, y, b1, b2, m1, m2, I⟩ := hcut
    have s1 := enc_size I.ex.out I.sx
    have s2 := enc_size I.ey.out I.sy
    obtain ⟨bd, md, ed⟩ := enc_form (x - y)
    have p1 := (enc_parts I.ex.out).2
    have p2 := (enc_parts I.ey.out).2
    have hrc := fun V => refCompare_any x y (by rw [← p1]; omega) (by rw [← p2]; omega) b1 b2 m1 m2 I.ex.out I.ey.out V
    have hc1 := fun V => Compare_f I.ex.out I.ey.out V
    have hc2 := fun V => Compare_f I.ey.out I.ex.out V
    have hc3 := fun V => Compare_f I.ex.out I.ex.out V
    rw [cmpZ_swap] at hc2
    rw [cmpZ_self] at hc3
    have hsd := fun V => Sign_f ed V
    rw [cmpZ_sub] at hsd
    have hin := cmpZ_in x y
    have HSX := Lib.hid (fun V => Sign_f I.ex.out V)
    have HRS := Lib.hid (fun V => refSign_f I.ex.out V)
    have HBX := Lib.hid (fun V => Bits_pair b1 m1 (by omega) V)
    have HRB := Lib.hid (fun V => refBits_pair b1 m1 (by omega) V)
    have HSB := Lib.hid (fun V => sub_f I.ex.out I.ey.out (by omega) (by omega) ed rfl V)
    have BB := Lib.hid I.st
    have HRC := Lib.hid hrc
    have HC1 := Lib.hid hc1
    have HC2 := Lib.hid hc2
    have HC3 := Lib.hid hc3
    have HSD := Lib.hid hsd
    generalize cmpZ x y = cc at *
    generalize bitsV m1 = bb at *
    generalize x.sign = sx at *
    clear hrc hc1 hc2 hc3 hsd ed p1 p2 s1 s2 I
    have hw1 : IntKind.i64.wrap (-cc) = -cc := IntWalk.i64_in _ (by omega)
    obtain ⟨t0, t1, t2, t3⟩ := BB.out.cells
    go_wp2_with fail
    refine (HRC.out _).mono ?_
    rintro e w3 ⟨rfl, hb3⟩
    have BB := Lib.hid (BB.out.next hb3).drew
    obtain ⟨t0, t1, t2, t3⟩ := BB.out.cells
    simp only [World.cell?_drew] at t0 t1 t2 t3
    clear hb3
    go_wp2_with fail
    go_region_held3 (fun w' => w'.cell? ⟨w.heap.size, 0, none⟩ = some (.bool b1) ∧ w'.cell? ⟨w.heap.size, 1, none⟩ = some (.string m1) ∧ w'.cell? ⟨w.heap.size + 1, 0, none⟩ = some (.bool b2) ∧ w'.cell? ⟨w.heap.size + 1, 1, none⟩ = some (.string m2))
        (first
          | go_keep
          | exact BB.out.cells)
        (first
          | (go_at_call 13; (with_reducible refine (known_any _).mono ?_); rintro e wn ⟨rfl, hbn⟩; have BB := Lib.hid (BB.out.next hbn))
          | (go_at_call 21; (with_reducible refine (HC1.out _).mono ?_); rintro e wn ⟨rfl, hbn⟩; have BB := Lib.hid (BB.out.next hbn))
          | (go_at_call 21; (with_reducible refine (HC2.out _).mono ?_); rintro e wn ⟨rfl, hbn⟩; have BB := Lib.hid (BB.out.next hbn))
          | (go_at_call 21; (with_reducible refine (HC3.out _).mono ?_); rintro e wn ⟨rfl, hbn⟩; have BB := Lib.hid (BB.out.next hbn))
          | (go_at_call 22; (with_reducible refine (HSX.out _).mono ?_); rintro e wn ⟨rfl, hbn⟩; have BB := Lib.hid (BB.out.next hbn))
          | (go_at_call 23; (with_reducible refine (HRS.out _).mono ?_); rintro e wn ⟨rfl, hbn⟩; have BB := Lib.hid (BB.out.next hbn))
          | (go_at_call 24; (with_reducible refine (HBX.out _).mono ?_); rintro e wn ⟨rfl, hbn⟩; have BB := Lib.hid (BB.out.next hbn))
          | (go_at_call 25; (with_reducible refine (HRB.out _).mono ?_); rintro e wn ⟨rfl, hbn⟩; have BB := Lib.hid (BB.out.next hbn))
          | (go_at_call 26; (with_reducible refine (HSB.out _).mono ?_); rintro e wn ⟨rfl, hbn⟩; have BB := Lib.hid (BB.out.next hbn))
          | (go_at_call 22; (with_reducible refine (HSD.out _).mono ?_); rintro e wn ⟨rfl, hbn⟩; have BB := Lib.hid (BB.out.next hbn)))
    go_wp2
    go_ret
    exact ⟨rfl, BB.out.bel⟩
end Go.Proofs.Ytoolljoejioigaa

/-
  Whole roots of numbers, Newton's step, and the program's root of a word.
-/
namespace Go.Proofs.Ytoolljoejioigaa
open Go.RowKit
attribute [local go_sem ↓] Go.wp_at_zero Go.wp_at_succ

/-- The greatest number whose square is at most x. -/
def rt : Nat → Nat
  | 0 => 0
  | n + 1 => if (rt n + 1) * (rt n + 1) ≤ n + 1 then rt n + 1 else rt n

theorem sq_lt {a b : Nat} (h : a * a < b * b) : a < b := by
  rcases Nat.lt_or_ge a b with h1 | h1
  · exact h1
  · exact absurd (Nat.mul_le_mul h1 h1) (by omega)

theorem rt_spec (x : Nat) : rt x * rt x ≤ x ∧ x < (rt x + 1) * (rt x + 1) := by
  induction x with
  | zero => exact ⟨Nat.le_refl _, by decide⟩
  | succ n ih =>
    unfold rt
    split
    · refine ⟨by assumption, ?_⟩
      have e : (rt n + 1 + 1) * (rt n + 1 + 1) = (rt n + 1) * (rt n + 1) + 2 * (rt n + 1) + 1 := by
        generalize rt n + 1 = a
        rw [Nat.add_mul, Nat.mul_add]; omega
      omega
    · omega

theorem rt_unique {x r : Nat} (h1 : r * r ≤ x) (h2 : x < (r + 1) * (r + 1)) : rt x = r := by
  obtain ⟨a1, a2⟩ := rt_spec x
  have b1 := sq_lt (Nat.lt_of_le_of_lt a1 h2)
  have b2 := sq_lt (Nat.lt_of_le_of_lt h1 a2)
  omega

theorem rt_le {x G : Nat} (h : x < (G + 1) * (G + 1)) : rt x ≤ G := by
  have := sq_lt (Nat.lt_of_le_of_lt (rt_spec x).1 h)
  omega

theorem newton_ge {x G : Nat} (h0 : 0 < G) : rt x ≤ (G + x / G) / 2 := by
  obtain ⟨h1, _⟩ := rt_spec x
  generalize rt x = r at *
  have hq : x < G * (x / G + 1) := by
    have := Nat.div_add_mod x G
    have := Nat.mod_lt x h0
    rw [Nat.mul_add]
    omega
  generalize x / G = q at *
  rcases Nat.lt_or_ge (G + q) (2 * r) with h | h
  · exfalso
    rcases Nat.le_total G r with hg | hg
    · obtain ⟨d, rfl⟩ := Nat.le.dest hg
      have a1 : G * (q + 1) ≤ G * (G + 2 * d) := Nat.mul_le_mul_left _ (by omega)
      have a2 : (G + d) * (G + d) = G * (G + 2 * d) + d * d := by
        rw [Nat.add_mul, Nat.mul_add, Nat.mul_add, Nat.mul_add, Nat.mul_comm d G, Nat.mul_left_comm G 2 d]; omega
      omega
    · obtain ⟨d, rfl⟩ := Nat.le.dest hg
      obtain ⟨k, rfl⟩ : ∃ k, r = d + k := ⟨r - d, by omega⟩
      have a1 : (d + k + d) * (q + 1) ≤ (d + k + d) * k := Nat.mul_le_mul_left _ (by omega)
      have a2 : (d + k) * (d + k) = (d + k + d) * k + d * d := by
        simp only [Nat.add_mul, Nat.mul_add, Nat.mul_comm k d]; omega
      omega
  · omega

theorem newton_stop {x G : Nat} (h0 : 0 < G) (h1 : rt x ≤ G) (h2 : G ≤ (G + x / G) / 2) : rt x = G := by
  have a1 : G ≤ x / G := by omega
  have a2 : G * G ≤ x := by
    have := Nat.div_mul_le_self x G
    exact Nat.le_trans (Nat.mul_le_mul_right G a1) this
  have := sq_lt (Nat.lt_of_le_of_lt a2 (rt_spec x).2)
  omega

theorem newton_bound {x G : Nat} (h0 : 0 < G) (h1 : rt x ≤ G) : x / G ≤ G + 2 := by
  have a1 := (rt_spec x).2
  have a2 : (rt x + 1) * (rt x + 1) ≤ (G + 1) * (G + 1) := Nat.mul_le_mul (by omega) (by omega)
  have a3 : (G + 1) * (G + 1) = G * (G + 2) + 1 := by simp only [Nat.add_mul, Nat.mul_add]; omega
  have : x / G < G + 3 := Nat.div_lt_of_lt_mul (by
    have : G * (G + 3) = G * (G + 2) + G := by rw [← Nat.mul_succ]
    omega)
  omega

theorem rt_pos {x : Nat} (h : 0 < x) : 0 < rt x := by
  rcases Nat.eq_zero_or_pos (rt x) with h1 | h1
  · have := (rt_spec x).2
    rw [h1] at this
    omega
  · exact h1

set_option maxHeartbeats 2000000 in
set_option maxRecDepth 100000 in
theorem wordRoot_any (x : Nat) (h0 : 0 < x) (hx : x < 18446744073709551616) (w : World) :
    Calls Try.prog 81 #[.int .u64 (x : Int)] w (fun e w' => e = .returned (.int .u64 ((rt x : Nat) : Int)) ∧ Drew w w') := by
  obtain ⟨l1, l2, l3⟩ := bitLen_bounds x (by omega) hx
  have l4 := Lib.bitLen_le x 64 (by omega) (by omega)
  have hl := fun V => Try.bits_Len64 (x : Int) V (by omega) (by omega)
  simp only [Int.toNat_natCast] at hl
  generalize Lib.bitLen x = L at *
  have HL := Lib.hid hl
  clear hl
  obtain ⟨s, hs⟩ : ∃ s, (L + 1) / 2 = s := ⟨_, rfl⟩
  have hs1 : ((L : Int) + 1) / 2 = (s : Int) := by omega
  have hst : x < 2 ^ s * 2 ^ s := by
    rw [← Nat.pow_add]
    exact Nat.lt_of_lt_of_le l3 (Nat.pow_le_pow_right (by omega) (by omega))
  have hs32 : s ≤ 32 := by omega
  have hp32 : 2 ^ s ≤ 4294967296 := Nat.pow_le_pow_right (n := 2) (by omega) hs32
  have hp0 : 0 < 2 ^ s := Nat.pow_pos (by omega)
  have HST := Lib.hid hst
  clear hst l1 l2 l3 hs
  go_enter Try.func81, Try.ntmps81
  go_wp2_with fail
  refine (HL.out _).mono ?_
  rintro e w1 ⟨rfl, rfl⟩
  go_wp2_with fail
  have hw2 : IntKind.u64.wrap ((2 : Int) ^ s) = ((2 ^ s : Nat) : Int) := by
    have e2 : ((2 ^ s : Nat) : Int) = (2 : Int) ^ s := by simp
    rw [← e2]
    exact IntWalk.u64_in _ (by omega)
  go_loopw [3] (fun m wr => ∃ G : Nat, m = .int .u64 (G : Int) ∧ rt x ≤ G ∧ 0 < G ∧ G ≤ 4294967296 ∧ Drew w1 wr) (fun m _ => (intOf m).toNat)
  case atStart =>
    exact ⟨2 ^ s, by rw [hw2], rt_le (Nat.lt_trans HST.out (Nat.mul_lt_mul'' (Nat.lt_succ_self _) (Nat.lt_succ_self _))), hp0, hp32, Drew.refl _⟩
  case round =>
    obtain ⟨G, rfl, hG, hG0, hG32, hdr⟩ := hrel
    have hb := newton_bound hG0 hG
    have hge := newton_ge (x := x) hG0
    have hsp := fun h => newton_stop hG0 hG h
    have hdv : ((x : Int) / (G : Int)) = ((x / G : Nat) : Int) := by simp
    have hne : ((G : Int) == 0) = false := by simp; omega
    obtain ⟨N, hN⟩ : ∃ N, (G + x / G) / 2 = N := ⟨_, rfl⟩
    rw [hN] at hge hsp
    have hN2 : ((G : Int) + ((x / G : Nat) : Int)) / 2 = (N : Int) := by rw [← hN]; omega
    have hNr : N ≤ 4294967297 := by omega
    have HSP := Lib.hid hsp
    have HGE := Lib.hid hge
    clear hsp hge hN
    generalize x / G = Q at *
    by_cases hst : G ≤ N
    · go_wp2_with fail
      go_ret
      exact ⟨by rw [HSP.out hst]; rfl, hdr⟩
    · go_wp2
      go_roundw
      case rel =>
        have := HGE.out
        have := rt_pos h0
        exact ⟨N, by rw [hN2], HGE.out, by omega, by omega, hdr⟩
      case measure => simp [intOf] <;> omega

end Go.Proofs.Ytoolljoejioigaa
