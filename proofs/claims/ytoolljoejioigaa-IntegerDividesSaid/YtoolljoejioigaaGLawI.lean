/-
  The program's quotient and remainder of any two integers; words for the walk of the statement about them.
-/
import Derived.Test.YtoolljoejioigaaGDivM
import Derived.Test.YtoolljoejioigaaGLawG
namespace Go.Proofs.Ytoolljoejioigaa
open Go.RowKit
attribute [local go_sem ↓] Go.wp_at_zero Go.wp_at_succ

theorem divMod_zero (na nb : Bool) (a b : ByteArray) (ha : a.size ≤ 400000000) (hb : b.size ≤ 400000000) (h0 : bval b = 0) (w : World) :
    Calls Try.prog 36 #[.agg #[.bool na, .string a], .agg #[.bool nb, .string b]] w (RetB w (.tuple #[.agg #[.bool false, .string ⟨#[]⟩], .agg #[.bool false, .string ⟨#[]⟩], .int .i64 6])) := by
  by_cases hs : 8 < a.size ∨ 8 < b.size
  · exact divMod_deep na nb a b ha hb 0 0 false (.inl rfl) (fun V => words_no na nb a b hs V) w _ (fun _ w' hw => ⟨rfl, hw⟩) (fun h => absurd h0 h)
  · exact divMod_deep na nb a b ha hb _ _ true (.inr h0) (fun V => words_yes na nb a b (by omega) (by omega) V) w _ (fun _ w' hw => ⟨rfl, hw⟩) (fun h => absurd h0 h)

theorem divMod_any (na nb : Bool) (a b : ByteArray) (ha : a.size ≤ 400000000) (hb : b.size ≤ 400000000) (h0 : bval b ≠ 0) (w : World) :
    Calls Try.prog 36 #[.agg #[.bool na, .string a], .agg #[.bool nb, .string b]] w (RetQ w (sgn na (bval a) / sgn nb (bval b)) (sgn na (bval a) % sgn nb (bval b)) 0) := by
  by_cases hs : 8 < a.size ∨ 8 < b.size
  · refine divMod_deep na nb a b ha hb 0 0 false (.inl rfl) (fun V => words_no na nb a b hs V) w _ (fun h => absurd h h0) (fun _ w' b1 m1 b2 m2 h1 h2 hw => ⟨?_, hw⟩)
    rw [h1.out, h2.out]
  · exact divMod_short na nb a b (by omega) (by omega) h0 w

section
variable {x y q r : Int} {b1 b2 b3 b4 : Bool} {m1 m2 m3 m4 : ByteArray} (hx : enc x = .agg #[.bool b1, .string m1]) (hy : enc y = .agg #[.bool b2, .string m2]) (s1 : m1.size ≤ 400000000) (s2 : m2.size ≤ 400000000)
include hx hy s1 s2 in
theorem divMod_f (h0 : y ≠ 0) (hq : enc q = .agg #[.bool b3, .string m3]) (hr : enc r = .agg #[.bool b4, .string m4]) (e1 : q = x / y) (e2 : r = x % y) (w : World) :
    Calls Try.prog 36 #[.agg #[.bool b1, .string m1], .agg #[.bool b2, .string m2]] w (RetB w (.tuple #[.agg #[.bool b3, .string m3], .agg #[.bool b4, .string m4], .int .i64 0])) := by
  subst e1
  subst e2
  have hb : bval m2 ≠ 0 := fun h => h0 (by rw [← enc_sgn hy, h]; cases b2 <;> rfl)
  have h := divMod_any b1 b2 m1 m2 s1 s2 hb w
  rw [enc_sgn hx, enc_sgn hy] at h
  unfold RetQ at h
  rw [hq, hr] at h
  exact h
include hy s1 s2 in
theorem divMod_0 (h0 : y = 0) (w : World) :
    Calls Try.prog 36 #[.agg #[.bool b1, .string m1], .agg #[.bool b2, .string m2]] w (RetB w (.tuple #[.agg #[.bool false, .string ⟨#[]⟩], .agg #[.bool false, .string ⟨#[]⟩], .int .i64 6])) := by
  refine divMod_zero b1 b2 m1 m2 s1 s2 ?_ w
  have h := enc_sgn hy
  rw [h0] at h
  unfold sgn at h
  cases b2 <;> simp at h <;> omega
end

/-- The reference's word that an integer is valid, for an integer. -/
theorem valid_f {x : Int} {b : Bool} {m : ByteArray} (hx : enc x = .agg #[.bool b, .string m]) (w : World) : Calls Try.prog 12 #[.agg #[.bool b, .string m]] w (RetB w (.bool true)) := by
  obtain ⟨rfl, rfl⟩ := enc_parts hx
  have hl := lead_mag x.natAbs
  have hz : (mag x.natAbs).size = 0 ↔ x.natAbs = 0 := mag_zero_iff
  have hc : canonB (decide (x < 0)) (mag x.natAbs) = true := by
    unfold canonB
    by_cases h : 0 < (mag x.natAbs).size
    · rw [dif_pos h]
      have := hl h
      simpa using this
    · rw [dif_neg h]
      have := hz.1 (by omega)
      have h2 : ¬ x < 0 := by omega
      simp [h2]
  refine (valid_any _ _ w).mono fun e w' ⟨he, hw⟩ => ⟨by rw [he, hc], ?_⟩
  subst hw
  exact (Below.refl _ _).alloc (Nat.le_refl _) _

/-- The world so far: the two integers, and two of the walk's own, lie where they lay. -/
structure S4 (w : World) (g : Nat) (b1 b2 b3 b4 : Bool) (m1 m2 m3 m4 : ByteArray) (wc : World) : Prop where
  zx : Zi wc w.heap.size b1 m1
  zy : Zi wc (w.heap.size + 1) b2 m2
  zq : Zi wc g b3 m3
  zr : Zi wc (g + 1) b4 m4
  lo : w.heap.size + 2 ≤ g
  big : g + 2 ≤ wc.heap.size
  bel : Below w.heap.size w wc
theorem S4.next {w : World} {g : Nat} {w1 w2 : World} {b1 b2 b3 b4 : Bool} {m1 m2 m3 m4 : ByteArray} (h : S4 w g b1 b2 b3 b4 m1 m2 m3 m4 w1) (hb : Below w1.heap.size w1 w2) : S4 w g b1 b2 b3 b4 m1 m2 m3 m4 w2 := by
  have := h.big
  have := h.lo
  exact ⟨h.zx.below hb (by omega), h.zy.below hb (by omega), h.zq.below hb (by omega), h.zr.below hb (by omega), h.lo, Nat.le_trans h.big hb.size, h.bel.trans (hb.mono h.bel.size)⟩
theorem S4.drew {w : World} {g : Nat} {w1 : World} {b1 b2 b3 b4 : Bool} {m1 m2 m3 m4 : ByteArray} (h : S4 w g b1 b2 b3 b4 m1 m2 m3 m4 w1) : S4 w g b1 b2 b3 b4 m1 m2 m3 m4 w1.drew := h.next (Below.refl _ _).drew
theorem S4.cells {w : World} {g : Nat} {wc : World} {b1 b2 b3 b4 : Bool} {m1 m2 m3 m4 : ByteArray} (h : S4 w g b1 b2 b3 b4 m1 m2 m3 m4 wc) :
    wc.cell? ⟨w.heap.size, 0, none⟩ = some (.bool b1) ∧ wc.cell? ⟨w.heap.size, 1, none⟩ = some (.string m1) ∧ wc.cell? ⟨w.heap.size + 1, 0, none⟩ = some (.bool b2) ∧ wc.cell? ⟨w.heap.size + 1, 1, none⟩ = some (.string m2) ∧
    wc.cell? ⟨g, 0, none⟩ = some (.bool b3) ∧ wc.cell? ⟨g, 1, none⟩ = some (.string m3) ∧ wc.cell? ⟨g + 1, 0, none⟩ = some (.bool b4) ∧ wc.cell? ⟨g + 1, 1, none⟩ = some (.string m4) := ⟨h.zx.c0, h.zx.c1, h.zy.c0, h.zy.c1, h.zq.c0, h.zq.c1, h.zr.c0, h.zr.c1⟩
theorem S4.mk2 {w w1 : World} {b1 b2 b3 b4 : Bool} {m1 m2 m3 m4 : ByteArray} (h : S2 w b1 b2 m1 m2 w1) (T : TypeId) :
    S4 w w1.heap.size b1 b2 b3 b4 m1 m2 m3 m4 ((w1.alloc (.cells #[.bool b3, .string m3] T)).alloc (.cells #[.bool b4, .string m4] T)) := by
  have hk := K2.start w1 T (.bool b3) (.string m3) (.bool b4) (.string m4)
  obtain ⟨a0, a1, a2, a3⟩ := hk.zx
  have h2 := h.next hk.bel
  exact ⟨h2.zx, h2.zy, ⟨a0, a1⟩, ⟨a2, a3⟩, h.big, hk.sz, h2.bel⟩
end Go.Proofs.Ytoolljoejioigaa

/-
  The walk of the statement about quotients and remainders of integers.
-/
namespace Go.Proofs.Ytoolljoejioigaa
open Go.RowKit
attribute [local go_sem ↓] Go.wp_at_zero Go.wp_at_succ

theorem sz_div {x y : Int} {k : Nat} (hx : x.natAbs < 256 ^ k) : (x / y).natAbs < 256 ^ (k + 1) := by
  have h := Int.natAbs_ediv_le_natAbs x y
  rw [Nat.pow_succ]
  generalize 256 ^ k = p at *
  omega
theorem mod_bounds {x y : Int} (hy : y ≠ 0) : 0 ≤ x % y ∧ x % y < y.natAbs := ⟨Int.emod_nonneg _ hy, Int.emod_lt x hy⟩
theorem sz_mod {x y : Int} {k : Nat} (hy : y ≠ 0) (h : y.natAbs < 256 ^ k) : (x % y).natAbs < 256 ^ k := by
  have := mod_bounds (x := x) hy
  generalize x % y = r at *
  omega
theorem mod_sign {x y : Int} (hy : y ≠ 0) : (x % y).sign = 0 ∨ (x % y).sign = 1 := by
  have := mod_bounds (x := x) hy
  generalize x % y = r at *
  rcases Int.lt_trichotomy r 0 with h | h | h
  · omega
  · subst h; exact .inl rfl
  · exact .inr (Int.sign_eq_one_of_pos h)
theorem mod_cmp {x y : Int} (hy : y ≠ 0) : cmpZ (x % y) (y.natAbs : Int) = -1 := by
  have := mod_bounds (x := x) hy
  unfold cmpZ
  rw [if_pos this.2]

set_option maxHeartbeats 4000000 in
set_option maxRecDepth 100000 in
theorem divides_walk (na : Bool) (a : ByteArray) (nb : Bool) (b : ByteArray) (w : World) : Calls Try.prog 9 #[.agg #[.bool na, .string a], .agg #[.bool nb, .string b]] w (RetB w (.bool true)) := by
  have HU1 := Lib.hid (fun V => in_any na a V)
  have HU2 := Lib.hid (fun V => in_any nb b V)
  have K0 := Lib.hid (K2.start w 23 (.bool na) (.string a) (.bool nb) (.string b))
  go_enter Try.func9, Try.ntmps9
  go_upto_region 1 with fail
  go_cut [] (fun wx => In2E w 40 40 wx)
  case first =>
    go_region_with (first
      | (go_at_call 20; (with_reducible refine (HU1.out _).mono ?_); rintro e w1 ⟨x, hx, rfl, hb1⟩; obtain ⟨b1, m1, hbm1⟩ := enc_form x; rw [hbm1]; have HBM1 := Lib.hid hbm1; clear hbm1; have KK := Lib.hid (K0.out.drew.next hb1); obtain ⟨p0, p1, p2, p3⟩ := blk_cells KK.out.k0; obtain ⟨p4, p5, p6, p7⟩ := blk_cells KK.out.k1)
      | (go_at_call 20; (with_reducible refine (HU2.out _).mono ?_); rintro e w2 ⟨y, hy, rfl, hb2⟩; obtain ⟨b2, m2, hbm2⟩ := enc_form y; rw [hbm2]; have HBM2 := Lib.hid hbm2; clear hbm2; have KK2 := Lib.hid (KK.out.next hb2); obtain ⟨r0, r1, r2, r3⟩ := blk_cells KK2.out.k0; obtain ⟨r4, r5, r6, r7⟩ := blk_cells KK2.out.k1))
    all_goals
      go_wp2_with fail
      go_meet
      exact In2E.mk KK2.out hx hy HBM1 HBM2
  case rest =>
    obtain ⟨x, y, b1, b2, m1, m2, I⟩ := hcut
    have s1 := enc_size I.ex.out I.sx
    have s2 := enc_size I.ey.out I.sy
    have HSY := Lib.hid (fun V => refSign_f I.ey.out V)
    have BB := Lib.hid I.st
    obtain ⟨t0, t1, t2, t3⟩ := BB.out.cells
    by_cases hy : y = 0
    · have HD := Lib.hid (fun V => divMod_0 (b1 := b1) (m1 := m1) I.ey.out (by omega) (by omega) hy V)
      have hsy : y.sign = 0 := by rw [hy]; rfl
      rw [hsy] at HSY
      clear s1 s2 I hy hsy
      go_wp2_with fail
      refine (HD.out _).mono ?_
      rintro e w3 ⟨rfl, hb3⟩
      have BB := Lib.hid (BB.out.next hb3)
      obtain ⟨t0, t1, t2, t3⟩ := BB.out.cells
      have BB := Lib.hid (S4.mk2 (b3 := false) (b4 := false) (m3 := ⟨#[]⟩) (m4 := ⟨#[]⟩) BB.out 23)
      clear hb3
      go_wp2_with fail
      refine (known_any _).mono ?_
      rintro e w4 ⟨rfl, hb4⟩
      have BB := Lib.hid (BB.out.next hb4)
      obtain ⟨t0, t1, t2, t3, t4, t5, t6, t7⟩ := BB.out.cells
      clear hb4
      go_wp2_with fail
      refine (HSY.out _).mono ?_
      rintro e w5 ⟨rfl, hb5⟩
      have BB := Lib.hid (BB.out.next hb5)
      obtain ⟨t0, t1, t2, t3, t4, t5, t6, t7⟩ := BB.out.cells
      clear hb5
      go_wp2_with fail
      refine (known_any _).mono ?_
      rintro e w6 ⟨rfl, hb6⟩
      have BB := Lib.hid (BB.out.next hb6)
      obtain ⟨t0, t1, t2, t3, t4, t5, t6, t7⟩ := BB.out.cells
      clear hb6
      go_wp2_with fail
      go_ret
      exact ⟨rfl, BB.out.bel⟩
    · obtain ⟨b3, m3, eq⟩ := enc_form (x / y)
      obtain ⟨b4, m4, er⟩ := enc_form (x % y)
      obtain ⟨b5, m5, ep⟩ := enc_form (x / y * y)
      obtain ⟨b6, m6, ea⟩ := enc_form (y.natAbs : Int)
      have hq3 : (x / y).natAbs < 256 ^ 41 := sz_div I.sx
      have hr3 : (x % y).natAbs < 256 ^ 40 := sz_mod hy I.sy
      have s3 := enc_size eq hq3
      have s4 := enc_size er hr3
      have s5 := enc_size ep (sz_mul hq3 I.sy)
      have s6 := enc_size ea (by rw [Int.natAbs_natCast]; exact I.sy)
      have hrp : (x % y).sign = 0 ∨ (x % y).sign = 1 := mod_sign hy
      have hcm : cmpZ (x % y) (y.natAbs : Int) = -1 := mod_cmp hy
      have HD := Lib.hid (fun V => divMod_f I.ex.out I.ey.out (by omega) (by omega) hy eq er rfl rfl V)
      have HV3 := Lib.hid (fun V => valid_f eq V)
      have HV4 := Lib.hid (fun V => valid_f er V)
      have HMU := Lib.hid (fun V => refMul_f eq I.ey.out (by omega) (by omega) ep rfl V)
      have HAD := Lib.hid (fun V => refAdd_f ep er (by omega) (by omega) I.ex.out (Int.ediv_mul_add_emod x y).symm V)
      have HSR := Lib.hid (fun V => refSign_f er V)
      have HAB := Lib.hid (fun V => refAbs_f I.ey.out ea V)
      have hrc := fun V => refCompare_any (x % y) (y.natAbs : Int) (by rw [← (enc_parts er).2]; omega) (by rw [← (enc_parts ea).2]; omega) b4 b6 m4 m6 er ea V
      rw [hcm] at hrc
      have HRC := Lib.hid hrc
      have hsy : ((y.sign : Int) == 0) = false := by simpa using hy
      have hrd : decide ((0 : Int) ≤ (x % y).sign) = true := decide_eq_true (by omega)
      generalize (x % y).sign = sr at *
      generalize y.sign = sy at *
      clear hrc hcm hrp s1 s2 s3 s4 s5 s6 hq3 hr3 eq er ep ea hy I
      go_wp2_with fail
      refine (HD.out _).mono ?_
      rintro e w3 ⟨rfl, hb3⟩
      have BB := Lib.hid (BB.out.next hb3)
      obtain ⟨t0, t1, t2, t3⟩ := BB.out.cells
      have BB := Lib.hid (S4.mk2 (b3 := b3) (b4 := b4) (m3 := m3) (m4 := m4) BB.out 23)
      clear hb3
      go_wp2_with fail
      refine (known_any _).mono ?_
      rintro e w4 ⟨rfl, hb4⟩
      have BB := Lib.hid (BB.out.next hb4)
      obtain ⟨t0, t1, t2, t3, t4, t5, t6, t7⟩ := BB.out.cells
      clear hb4
      go_wp2_with fail
      refine (HSY.out _).mono ?_
      rintro e w5 ⟨rfl, hb5⟩
      have BB := Lib.hid (BB.out.next hb5).drew
      obtain ⟨t0, t1, t2, t3, t4, t5, t6, t7⟩ := BB.out.cells
      simp only [World.cell?_drew] at t0 t1 t2 t3 t4 t5 t6 t7
      clear hb5
      go_wp2_with fail
      go_region_held3 (fun w' => w'.cell? ⟨w.heap.size, 0, none⟩ = some (.bool b1) ∧ w'.cell? ⟨w.heap.size, 1, none⟩ = some (.string m1) ∧ w'.cell? ⟨w.heap.size + 1, 0, none⟩ = some (.bool b2) ∧ w'.cell? ⟨w.heap.size + 1, 1, none⟩ = some (.string m2) ∧
          w'.cell? ⟨w3.heap.size, 0, none⟩ = some (.bool b3) ∧ w'.cell? ⟨w3.heap.size, 1, none⟩ = some (.string m3) ∧ w'.cell? ⟨w3.heap.size + 1, 0, none⟩ = some (.bool b4) ∧ w'.cell? ⟨w3.heap.size + 1, 1, none⟩ = some (.string m4))
        (first
          | go_keep
          | exact BB.out.cells)
        (first
          | (go_at_call 12; (with_reducible refine (HV3.out _).mono ?_); rintro e wn ⟨rfl, hbn⟩; have BB := Lib.hid (BB.out.next hbn))
          | (go_at_call 12; (with_reducible refine (HV4.out _).mono ?_); rintro e wn ⟨rfl, hbn⟩; have BB := Lib.hid (BB.out.next hbn))
          | (go_at_call 35; (with_reducible refine (HMU.out _).mono ?_); rintro e wn ⟨rfl, hbn⟩; have BB := Lib.hid (BB.out.next hbn))
          | (go_at_call 28; (with_reducible refine (HAD.out _).mono ?_); rintro e wn ⟨rfl, hbn⟩; have BB := Lib.hid (BB.out.next hbn))
          | (go_at_call 23; (with_reducible refine (HSR.out _).mono ?_); rintro e wn ⟨rfl, hbn⟩; have BB := Lib.hid (BB.out.next hbn))
          | (go_at_call 33; (with_reducible refine (HAB.out _).mono ?_); rintro e wn ⟨rfl, hbn⟩; have BB := Lib.hid (BB.out.next hbn))
          | (go_at_call 19; (with_reducible refine (HRC.out _).mono ?_); rintro e wn ⟨rfl, hbn⟩; have BB := Lib.hid (BB.out.next hbn)))
      go_wp2
      go_ret
      exact ⟨rfl, BB.out.bel⟩
end Go.Proofs.Ytoolljoejioigaa
