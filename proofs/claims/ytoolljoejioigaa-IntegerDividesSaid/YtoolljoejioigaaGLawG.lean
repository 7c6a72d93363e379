/-
  Words for the walks of the statements about two integers; the walk of the statement about comparisons.
-/
import Derived.Test.YtoolljoejioigaaGLawE
import Derived.Test.YtoolljoejioigaaGIntW
namespace Go.Proofs.Ytoolljoejioigaa
open Go.RowKit
attribute [local go_sem ↓] Go.wp_at_zero Go.wp_at_succ

/-- The world so far, behind a call: the two integers lie where they lay. -/
structure S2 (w : World) (b1 b2 : Bool) (m1 m2 : ByteArray) (wc : World) : Prop where
  zx : Zi wc w.heap.size b1 m1
  zy : Zi wc (w.heap.size + 1) b2 m2
  big : w.heap.size + 2 ≤ wc.heap.size
  bel : Below w.heap.size w wc
theorem S2.next {w w1 w2 : World} {b1 b2 : Bool} {m1 m2 : ByteArray} (h : S2 w b1 b2 m1 m2 w1) (hb : Below w1.heap.size w1 w2) : S2 w b1 b2 m1 m2 w2 := by
  have := h.big
  exact ⟨h.zx.below hb (by omega), h.zy.below hb (by omega), Nat.le_trans h.big hb.size, h.bel.trans (hb.mono h.bel.size)⟩
theorem S2.drew {w w1 : World} {b1 b2 : Bool} {m1 m2 : ByteArray} (h : S2 w b1 b2 m1 m2 w1) : S2 w b1 b2 m1 m2 w1.drew := h.next (Below.refl _ _).drew
theorem S2.alloc {w w1 : World} {b1 b2 : Bool} {m1 m2 : ByteArray} (h : S2 w b1 b2 m1 m2 w1) (o : Obj) : S2 w b1 b2 m1 m2 (w1.alloc o) := h.next ((Below.refl _ _).alloc (Nat.le_refl _) _)
theorem S2.cells {w wc : World} {b1 b2 : Bool} {m1 m2 : ByteArray} (h : S2 w b1 b2 m1 m2 wc) :
    wc.cell? ⟨w.heap.size, 0, none⟩ = some (.bool b1) ∧ wc.cell? ⟨w.heap.size, 1, none⟩ = some (.string m1) ∧ wc.cell? ⟨w.heap.size + 1, 0, none⟩ = some (.bool b2) ∧ wc.cell? ⟨w.heap.size + 1, 1, none⟩ = some (.string m2) := ⟨h.zx.c0, h.zx.c1, h.zy.c0, h.zy.c1⟩

/-- Two integers of at most k and j bytes lie in the two boxes. -/
structure In2 (w : World) (k j : Nat) (x y : Int) (b1 b2 : Bool) (m1 m2 : ByteArray) (wx : World) : Prop where
  sx : x.natAbs < 256 ^ k
  sy : y.natAbs < 256 ^ j
  ex : Hid (enc x = .agg #[.bool b1, .string m1])
  ey : Hid (enc y = .agg #[.bool b2, .string m2])
  st : S2 w b1 b2 m1 m2 wx
def In2E (w : World) (k j : Nat) (wx : World) : Prop := ∃ x y b1 b2 m1 m2, In2 w k j x y b1 b2 m1 m2 wx

theorem In2E.mk {w W : World} {k j : Nat} {T : TypeId} {v0 v1 v2 v3 : Value} {x y : Int} {b1 b2 : Bool} {m1 m2 : ByteArray} (hk : K2 w T v0 v1 v2 v3 W) (sx : x.natAbs < 256 ^ k) (sy : y.natAbs < 256 ^ j)
    (ex : Hid (enc x = .agg #[.bool b1, .string m1])) (ey : Hid (enc y = .agg #[.bool b2, .string m2])) :
    In2E w k j ((((W.setCell ⟨w.heap.size, 0, none⟩ (.bool b1)).setCell ⟨w.heap.size, 1, none⟩ (.string m1)).setCell ⟨w.heap.size + 1, 0, none⟩ (.bool b2)).setCell ⟨w.heap.size + 1, 1, none⟩ (.string m2)) := by
  obtain ⟨a0, a1, _, _⟩ := blk_cells hk.k0
  obtain ⟨a2, a3, _, _⟩ := blk_cells hk.k1
  obtain ⟨t0, t1, t2, t3, t4⟩ := set_two (g := w.heap.size) (x0 := .bool b1) (x1 := .string m1) (x2 := .bool b2) (x3 := .string m2) a0 a1 a2 a3
  exact ⟨x, y, b1, b2, m1, m2, sx, sy, ex, ey, ⟨t0, t1⟩, ⟨t2, t3⟩, by rw [t4]; exact hk.sz,
    (((hk.bel.setCell (by show w.heap.size ≤ w.heap.size; omega) _).setCell (by show w.heap.size ≤ w.heap.size; omega) _).setCell (by show w.heap.size ≤ w.heap.size + 1; omega) _).setCell (by show w.heap.size ≤ w.heap.size + 1; omega) _⟩

theorem cmpZ_swap (x y : Int) : cmpZ y x = - cmpZ x y := by
  unfold cmpZ
  rcases Int.lt_trichotomy x y with h | h | h
  · rw [if_neg (by omega), if_pos h, if_pos h]; rfl
  · subst h; simp
  · rw [if_pos h, if_neg (by omega), if_pos h]
theorem cmpZ_self (x : Int) : cmpZ x x = 0 := by unfold cmpZ; simp
theorem cmpZ_sub (x y : Int) : (x - y).sign = cmpZ x y := by
  unfold cmpZ
  rcases Int.lt_trichotomy x y with h | h | h
  · rw [if_pos h, Int.sign_eq_neg_one_of_neg (by omega)]
  · subst h; simp
  · rw [if_neg (by omega), if_pos h, Int.sign_eq_one_of_pos (by omega)]

set_option maxHeartbeats 4000000 in
set_option maxRecDepth 100000 in
theorem compares_walk (na : Bool) (a : ByteArray) (nb : Bool) (b : ByteArray) (w : World) : Calls Try.prog 5 #[.agg #[.bool na, .string a], .agg #[.bool nb, .string b]] w (RetB w (.bool true)) := by
  have HU1 := Lib.hid (fun V => in_any na a V)
  have HU2 := Lib.hid (fun V => in_any nb b V)
  have K0 := Lib.hid (K2.start w 23 (.bool na) (.string a) (.bool nb) (.string b))
  go_enter Try.func5, Try.ntmps5
  go_upto_region 1 with fail
  go_cut [] (fun wx => In2E w 40 40 wx)
  case first =>
    go_region_with (first
      | (go_at_call 20; (with_reducible refine (HU1.out _).mono ?_); rintro e w1 ⟨x, hx, rfl, hb1⟩; obtain ⟨b1, m1, hbm1⟩ := enc_form x; rw [hbm1]; have HBM1 := Lib.hid hbm1; clear hbm1; have KK := Lib.hid (K0.out.drew.next hb1); obtain ⟨p0, p1, p2, p3⟩ := blk_cells KK.out.k0; obtain ⟨p4, p5, p6, p7⟩ := blk_cells KK.out.k1)
      | (go_at_call 20; (with_reducible refine (HU2.out _).mono ?_); rintro e w2 ⟨y, hy, rfl, hb2⟩; obtain ⟨b2, m2, hbm2⟩ := enc_form y; rw [hbm2]; have HBM2 := Lib.hid hbm2; clear hbm2; have KK2 := Lib.hid (KK.out.next hb2); obtain ⟨r0, r1, r2, r3⟩ := blk_cells KK2.out.k0; obtain ⟨r4, r5, r6, r7⟩ := blk_cells KK2.out.k1))
    all_goals
      go_wp2_with fail
      go_meet
      exact In2E.mk KK2.out hx hy HBM1 HBM2
  case rest =>
    obtain ⟨x, y, b1, b2, m1, m2, I⟩ := hcut
    have s1 := enc_size I.ex.out I.sx
    have s2 := enc_size I.ey.out I.sy
    obtain ⟨bd, md, ed⟩ := enc_form (x - y)
    have p1 := (enc_parts I.ex.out).2
    have p2 := (enc_parts I.ey.out).2
    have hrc := fun V => refCompare_any x y (by rw [← p1]; omega) (by rw [← p2]; omega) b1 b2 m1 m2 I.ex.out I.ey.out V
    have hc1 := fun V => Compare_f I.ex.out I.ey.out V
    have hc2 := fun V => Compare_f I.ey.out I.ex.out V
    have hc3 := fun V => Compare_f I.ex.out I.ex.out V
    rw [cmpZ_swap] at hc2
    rw [cmpZ_self] at hc3
    have hsd := fun V => Sign_f ed V
    rw [cmpZ_sub] at hsd
    have hin := cmpZ_in x y
    have HSX := Lib.hid (fun V => Sign_f I.ex.out V)
    have HRS := Lib.hid (fun V => refSign_f I.ex.out V)
    have HBX := Lib.hid (fun V => Bits_pair b1 m1 (by omega) V)
    have HRB := Lib.hid (fun V => refBits_pair b1 m1 (by omega) V)
    have HSB := Lib.hid (fun V => sub_f I.ex.out I.ey.out (by omega) (by omega) ed rfl V)
    have BB := Lib.hid I.st
    have HRC := Lib.hid hrc
    have HC1 := Lib.hid hc1
    have HC2 := Lib.hid hc2
    have HC3 := Lib.hid hc3
    have HSD := Lib.hid hsd
    generalize cmpZ x y = cc at *
    generalize bitsV m1 = bb at *
    generalize x.sign = sx at *
    clear hrc hc1 hc2 hc3 hsd ed p1 p2 s1 s2 I
    have hw1 : IntKind.i64.wrap (-cc) = -cc := IntWalk.i64_in _ (by omega)
    obtain ⟨t0, t1, t2, t3⟩ := BB.out.cells
    go_wp2_with fail
    refine (HRC.out _).mono ?_
    rintro e w3 ⟨rfl, hb3⟩
    have BB := Lib.hid (BB.out.next hb3).drew
    obtain ⟨t0, t1, t2, t3⟩ := BB.out.cells
    simp only [World.cell?_drew] at t0 t1 t2 t3
    clear hb3
    go_wp2_with fail
    go_region_held3 (fun w' => w'.cell? ⟨w.heap.size, 0, none⟩ = some (.bool b1) ∧ w'.cell? ⟨w.heap.size, 1, none⟩ = some (.string m1) ∧ w'.cell? ⟨w.heap.size + 1, 0, none⟩ = some (.bool b2) ∧ w'.cell? ⟨w.heap.size + 1, 1, none⟩ = some (.string m2))
        (first
          | go_keep
          | exact BB.out.cells)
        (first
          | (go_at_call 13; (with_reducible refine (known_any _).mono ?_); rintro e wn ⟨rfl, hbn⟩; have BB := Lib.hid (BB.out.next hbn))
          | (go_at_call 21; (with_reducible refine (HC1.out _).mono ?_); rintro e wn ⟨rfl, hbn⟩; have BB := Lib.hid (BB.out.next hbn))
          | (go_at_call 21; (with_reducible refine (HC2.out _).mono ?_); rintro e wn ⟨rfl, hbn⟩; have BB := Lib.hid (BB.out.next hbn))
          | (go_at_call 21; (with_reducible refine (HC3.out _).mono ?_); rintro e wn ⟨rfl, hbn⟩; have BB := Lib.hid (BB.out.next hbn))
          | (go_at_call 22; (with_reducible refine (HSX.out _).mono ?_); rintro e wn ⟨rfl, hbn⟩; have BB := Lib.hid (BB.out.next hbn))
          | (go_at_call 23; (with_reducible refine (HRS.out _).mono ?_); rintro e wn ⟨rfl, hbn⟩; have BB := Lib.hid (BB.out.next hbn))
          | (go_at_call 24; (with_reducible refine (HBX.out _).mono ?_); rintro e wn ⟨rfl, hbn⟩; have BB := Lib.hid (BB.out.next hbn))
          | (go_at_call 25; (with_reducible refine (HRB.out _).mono ?_); rintro e wn ⟨rfl, hbn⟩; have BB := Lib.hid (BB.out.next hbn))
          | (go_at_call 26; (with_reducible refine (HSB.out _).mono ?_); rintro e wn ⟨rfl, hbn⟩; have BB := Lib.hid (BB.out.next hbn))
          | (go_at_call 22; (with_reducible refine (HSD.out _).mono ?_); rintro e wn ⟨rfl, hbn⟩; have BB := Lib.hid (BB.out.next hbn)))
    go_wp2
    go_ret
    exact ⟨rfl, BB.out.bel⟩
end Go.Proofs.Ytoolljoejioigaa
