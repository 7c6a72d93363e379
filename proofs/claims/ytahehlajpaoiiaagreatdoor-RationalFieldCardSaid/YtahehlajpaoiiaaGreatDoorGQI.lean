import Derived.Test.YtahehlajpaoiiaaGreatDoorGQF
import Derived.Test.YtahehlajpaoiiaaGreatDoorGRefN
import Derived.Test.YtahehlajpaoiiaaGreatDoorGStF

/-
  The second reference's fractions in lowest terms.
-/
namespace Go.Proofs.YtahehlajpaoiiaaGreatDoor
open Go.RowKit
attribute [local go_sem ↓] Go.wp_at_zero Go.wp_at_succ

/-- A call that hands back the digits of V, in whatever memory. -/
def RetTo (w : World) (V : Nat) (e : Ending) (w' : World) : Prop := ∃ A n c, e = .returned (.slice A n c) ∧ Tr w' A n c V ∧ Below w.heap.size w w'

set_option maxHeartbeats 4000000 in
set_option maxRecDepth 100000 in
theorem rcommon (A B : Option Addr) (n m c d X Y : Nat) (w : World) (hn : n ≤ 1000000) (hm : m ≤ 1000000) (hx : Tr w A n c X) (hy : Tr w B m d Y) :
    Calls Tryz.prog 58 #[.slice A n c, .slice B m d] w (RetTo w (Nat.gcd X Y)) := by
  have HX := Lib.hid hx
  have HY := Lib.hid hy
  clear hx hy
  go_enter Tryz.func58, Tryz.ntmps58
  go_wp2
  go_loopg [0, 1] Y (fun k av bv wr => ∃ (x y : Nat) (A' : Option Addr) (n' c' : Nat) (B' : Option Addr) (m' d' : Nat), y ≤ k ∧ n' ≤ 1000000 ∧ m' ≤ 1000000 ∧ av = .slice A' n' c' ∧ bv = .slice B' m' d' ∧ Hid (Tr wr A' n' c' x ∧ Tr wr B' m' d' y ∧ Nat.gcd x y = Nat.gcd X Y ∧ Below w.heap.size w wr))
  case atStart => exact ⟨X, Y, A, n, c, B, m, d, Nat.le_refl _, hn, hm, rfl, rfl, HX.out, HY.out, rfl, Below.refl _ _⟩
  case round =>
    obtain ⟨x, y, A', n', c', B', m', d', hyk, hn', hm', rfl, rfl, HH⟩ := hrel
    have hln := HH.out.2.1.ln
    by_cases hz : 0 < m'
    · have hy0 : 0 < y := by
        rcases Nat.eq_zero_or_pos y with h | h
        · rw [h, nd_zero] at hln; omega
        · exact h
      have HDV := Lib.hid (rdivide A' B' n' m' c' d' x y wr hn' hm' HH.out.1 HH.out.2.1 hy0)
      have hmod := Nat.mod_lt x hy0
      have hmk : x % y < gk := by omega
      have hn2 : nd (x % y) ≤ 1000000 := by have := nd_mono (Nat.le_of_lt hmod); omega
      have HN2 := Lib.hid hn2
      have HG := Lib.hid (show Nat.gcd y (x % y) = Nat.gcd X Y by rw [← HH.out.2.2.1, Nat.gcd_comm, ← Nat.gcd_rec, Nat.gcd_comm])
      clear hln hmod hn2
      go_wp2_with fail
      refine HDV.out.mono ?_
      rintro e w' ⟨A1, n1, c1, A2, n2, c2, rfl, ht1, ht2, hb⟩
      have HT := Lib.hid ht2
      have HTY := Lib.hid (HH.out.2.1.below hb)
      have HB := Lib.hid (HH.out.2.2.2.trans (hb.mono HH.out.2.2.2.size))
      have hn2 : n2 ≤ 1000000 := by have := HN2.out; rw [← ht2.ln] at this; exact this
      clear ht1 ht2 hb
      go_wp2
      go_roundg (x % y)
      case measure => exact hmk
      case rel => exact ⟨y, x % y, B', m', d', A2, n2, c2, Nat.le_refl _, hm', hn2, rfl, rfl, HTY.out, HT.out, HG.out, HB.out⟩
    · have hy0 : y = 0 := nd_zero_iff.1 (by omega)
      have hg := HH.out.2.2.1
      rw [hy0, Nat.gcd_zero_right] at hg
      have HG := Lib.hid hg
      clear hg hln hy0
      go_wp2
      go_ret
      exact ⟨A', n', c', rfl, by rw [← HG.out]; exact HH.out.1, HH.out.2.2.2⟩

theorem sgn_natAbs (neg : Bool) (X : Nat) : (sgn neg X).natAbs = X := by cases neg <;> simp [sgn]
theorem sgn_div (neg : Bool) {X g : Nat} (h : g ∣ X) : sgn neg X / (g : Int) = sgn neg ((X / g : Nat)) := by
  cases neg
  · simp [sgn]
  · simp only [sgn, if_true]
    rw [Int.neg_ediv_of_dvd (Int.natCast_dvd_natCast.2 h), Int.natCast_ediv]

/-- What Rq asks of a fraction out of two numbers. -/
theorem Rq.of_mk {neg : Bool} {X Y : Nat} (hY : 0 < Y) {b : Bool} {m k : ByteArray} (h1 : enc (sgn neg ((X / Nat.gcd X Y : Nat))) = .agg #[.bool b, .string m]) (h2 : k = dm (Y / Nat.gcd X Y)) : Rq (mkRat (sgn neg X) Y) b m k := by
  obtain ⟨e1, e2⟩ := mkRat_parts (sgn neg X) (d := Y) (by omega)
  rw [sgn_natAbs] at e1 e2
  refine ⟨?_, ?_⟩
  · rw [e1, sgn_div neg (Nat.gcd_dvd_left X Y)]; exact h1
  · rw [e2]; exact h2

/-- A call that hands back a fraction. -/
def RetR (w : World) (q : Rat) (e : Ending) (w' : World) : Prop := ∃ b m k, e = .returned (.agg #[.bool b, .string m, .bool false, .string k]) ∧ Rq q b m k ∧ Below w.heap.size w w'

theorem enc_nat' (n : Nat) : enc (n : Int) = .agg #[.bool false, .string (mag n)] := by
  unfold enc
  have h : decide ((n : Int) < 0) = false := by simp
  rw [h, Int.natAbs_natCast]

theorem enc_one_nil : enc (sgn false 0) = .agg #[.bool false, .string ⟨#[]⟩] := enc_zero

set_option maxHeartbeats 8000000 in
set_option maxRecDepth 100000 in
theorem rcanonical (neg : Bool) (A B : Option Addr) (n m c d X Y : Nat) (w : World) (hn : n ≤ 1000000) (hm : m ≤ 1000000) (hx : Tr w A n c X) (hy : Tr w B m d Y) (hY : 0 < Y) :
    Calls Tryz.prog 70 #[.agg #[.bool neg, .slice A n c, .slice B m d]] w (RetR w (mkRat (sgn neg X) Y)) := by
  have HX := Lib.hid hx
  have HY := Lib.hid hy
  obtain ⟨G, hG⟩ : ∃ G, Nat.gcd X Y = G := ⟨_, rfl⟩
  have hG0 : 0 < G := hG ▸ Nat.gcd_pos_of_pos_right X hY
  have hGY : G ≤ Y := hG ▸ Nat.gcd_le_right X hY
  have hGn : nd G ≤ 1000000 := by have := nd_mono hGY; rw [← hy.ln] at this; omega
  have hE0 : 0 < Y / G := Nat.div_pos hGY hG0
  obtain ⟨N', hN⟩ : ∃ N', X / G = N' := ⟨_, rfl⟩
  obtain ⟨E', hE⟩ : ∃ E', Y / G = E' := ⟨_, rfl⟩
  have hNn : nd N' ≤ 1000000 := by have := nd_div X G; rw [← hx.ln, hN] at this; omega
  have hEn : nd E' ≤ 1000000 := by have := nd_div Y G; rw [← hy.ln, hE] at this; omega
  rw [hE] at hE0
  have HFIN := Lib.hid (fun b m k (h1 : enc (sgn neg (N' : Nat)) = .agg #[.bool b, .string m]) (h2 : k = dm E') => Rq.of_mk (neg := neg) (X := X) hY (b := b) (m := m) (k := k) (by rw [hG, hN]; exact h1) (by rw [hG, hE]; exact h2))
  have HG := Lib.hid hG
  have HG0 := Lib.hid hG0
  have HGN := Lib.hid hGn
  have HND := Lib.hid (And.intro hN hE)
  have HNN := Lib.hid (And.intro hNn hEn)
  have HE0 := Lib.hid hE0
  obtain ⟨bn, mn, hbn⟩ := enc_form (sgn neg (N' : Nat))
  have HBN := Lib.hid hbn
  have KK := Lib.hid (Kb.start w #[.bool neg, .slice A n c, .slice B m d] #[.bool false, .string ⟨#[]⟩, .bool false, .string ⟨#[]⟩] 75 25)
  have HX1 := Lib.hid (KK.out.bel)
  clear hx hy hG hG0 hGY hGn hE0 hN hE hNn hEn hbn hY
  go_enter Tryz.func70, Tryz.ntmps70
  go_wp2_with fail
  refine (rcommon A B n m c d X Y _ hn hm (HX.out.below HX1.out) (HY.out.below HX1.out)).mono ?_
  rw [HG.out]
  rintro e w1 ⟨A1, n1, c1, rfl, ht1, hb1⟩
  have K1 := Lib.hid (KK.out.next hb1)
  have T1 := Lib.hid ht1
  have hn1 : n1 ≤ 1000000 := by rw [ht1.ln]; exact HGN.out
  obtain ⟨p0, p1, p2, _, _, _⟩ := blk3 K1.out.k1
  clear ht1 hb1 HX1
  go_wp2_with fail
  refine (rdivide A A1 n n1 c c1 X G _ hn hn1 (HX.out.below K1.out.bel) T1.out HG0.out).mono ?_
  rw [HND.out.1]
  rintro e w2 ⟨A2, n2, c2, A3, n3, c3, rfl, ht2, _, hb2⟩
  have K2 := Lib.hid (K1.out.next hb2)
  have T2 := Lib.hid ht2
  have T1' := Lib.hid (T1.out.below hb2)
  have hn2 : n2 ≤ 1000000 := by rw [ht2.ln]; exact HNN.out.1
  obtain ⟨q0, q1, q2, _, _, _⟩ := blk3 K2.out.k1
  clear ht2 hb2 p0 p1 p2
  go_wp2_with fail
  refine (rdivide B A1 m n1 d c1 Y G _ hm hn1 (HY.out.below K2.out.bel) T1'.out HG0.out).mono ?_
  rw [HND.out.2]
  rintro e w3 ⟨A4, n4, c4, A5, n5, c5, rfl, ht4, _, hb4⟩
  have K3 := Lib.hid (K2.out.next hb4)
  have T2' := Lib.hid (T2.out.below hb4)
  have T4 := Lib.hid ht4
  have hn4 : n4 ≤ 1000000 := by rw [ht4.ln]; exact HNN.out.2
  obtain ⟨r0, r1, r2, _, _, _⟩ := blk3 K3.out.k1
  have hl4 := ht4.ln
  have hp4 : 0 < n4 := by rw [hl4]; exact nd_pos HE0.out
  obtain ⟨g, o, rfl, hg, hc⟩ := T4.out.dg.rd hp4
  have hc0 := hc 0 hp4
  have hcase : (E' = 1 ∧ n4 = 1) ∨ (E' ≠ 1 ∧ n4 ≠ 1) ∨ (E' ≠ 1 ∧ n4 = 1 ∧ D 256 E' 0 ≠ 1) := by
    by_cases h1 : E' = 1
    · exact .inl ⟨h1, by rw [hl4, h1, nd_one]⟩
    · by_cases h2 : n4 = 1
      · refine .inr (.inr ⟨h1, h2, ?_⟩)
        have h3 := T4.out.dg.lt
        rw [h2] at h3
        unfold D
        rw [Nat.pow_zero, Nat.div_one]
        omega
      · exact .inr (.inl ⟨h1, h2⟩)
  rw [Nat.add_zero] at hc0
  have HL4 := Lib.hid hl4
  clear ht4 hb4 q0 q1 q2 hc hl4
  rcases hcase with ⟨h1, h2⟩ | ⟨h1, h2⟩ | ⟨h1, h2, h3⟩
  · subst h1
    subst h2
    have hd1 : D 256 1 0 = 1 := by decide
    rw [hd1] at hc0
    clear hd1
    go_wp2_with fail
    refine (rwhole neg A2 n2 c2 N' _ (by omega) T2'.out.cap T2'.out.dg).mono ?_
    rintro e w5 ⟨rfl, hb5⟩
    rw [HBN.out]
    go_wp2_with fail
    refine (rwhole false none 0 0 0 _ (by omega) (Nat.le_refl _) (tr_nil _).dg).mono ?_
    rintro e w6 ⟨rfl, hb6⟩
    rw [enc_one_nil]
    have K6 := Lib.hid ((K3.out.next hb5).next hb6)
    obtain ⟨s0, s1, s2, s3⟩ := blk4 K6.out.k2
    obtain ⟨f0, f1, f2, f3⟩ := fro4 K6.out.k2
    clear hb5 hb6 r0 r1 r2 hc0
    go_wp2
    exact bodyPost_ret (v := .agg #[.bool bn, .string mn, .bool false, .string ⟨#[]⟩]) (by simp [results, Tryz.results70, go_sem, s0, s1, s2, s3]) rfl ⟨bn, mn, _, rfl, HFIN.out bn mn _ HBN.out (by rw [dm_one]), below_set4 K6.out.bel (by omega) _ _ _ _⟩
  · have hne : ((n4 : Int) == 1) = false := by simp; omega
    have HE1 := Lib.hid h1
    clear h1 h2
    go_wp2_with fail
    refine (rwhole neg A2 n2 c2 N' _ (by omega) T2'.out.cap T2'.out.dg).mono ?_
    rintro e w5 ⟨rfl, hb5⟩
    rw [HBN.out]
    go_wp2_with fail
    refine (rwhole false (some ⟨g, o, none⟩) n4 c4 E' _ (by omega) T4.out.cap (T4.out.dg.below hb5)).mono ?_
    rintro e w6 ⟨rfl, hb6⟩
    rw [(show enc (sgn false (E' : Nat)) = .agg #[.bool false, .string (mag E')] from enc_nat' E')]
    have K6 := Lib.hid ((K3.out.next hb5).next hb6)
    obtain ⟨s0, s1, s2, s3⟩ := blk4 K6.out.k2
    obtain ⟨f0, f1, f2, f3⟩ := fro4 K6.out.k2
    clear hb5 hb6 r0 r1 r2 hc0
    go_wp2
    exact bodyPost_ret (v := .agg #[.bool bn, .string mn, .bool false, .string (mag E')]) (by simp [results, Tryz.results70, go_sem, s0, s1, s2, s3]) rfl ⟨bn, mn, _, rfl, HFIN.out bn mn _ HBN.out (by unfold dm; rw [if_neg HE1.out]), below_set4 K6.out.bel (by omega) _ _ _ _⟩
  · subst h2
    have hne : ((D 256 E' 0 : Int) == 1) = false := by simp; omega
    have HE1 := Lib.hid h1
    clear h1 h3
    generalize D 256 E' 0 = dg at *
    go_wp2_with fail
    refine (rwhole neg A2 n2 c2 N' _ (by omega) T2'.out.cap T2'.out.dg).mono ?_
    rintro e w5 ⟨rfl, hb5⟩
    rw [HBN.out]
    go_wp2_with fail
    refine (rwhole false (some ⟨g, o, none⟩) 1 c4 E' _ (by omega) T4.out.cap (T4.out.dg.below hb5)).mono ?_
    rintro e w6 ⟨rfl, hb6⟩
    rw [(show enc (sgn false (E' : Nat)) = .agg #[.bool false, .string (mag E')] from enc_nat' E')]
    have K6 := Lib.hid ((K3.out.next hb5).next hb6)
    obtain ⟨s0, s1, s2, s3⟩ := blk4 K6.out.k2
    obtain ⟨f0, f1, f2, f3⟩ := fro4 K6.out.k2
    clear hb5 hb6 r0 r1 r2 hc0
    go_wp2
    exact bodyPost_ret (v := .agg #[.bool bn, .string mn, .bool false, .string (mag E')]) (by simp [results, Tryz.results70, go_sem, s0, s1, s2, s3]) rfl ⟨bn, mn, _, rfl, HFIN.out bn mn _ HBN.out (by unfold dm; rw [if_neg HE1.out]), below_set4 K6.out.bel (by omega) _ _ _ _⟩
end Go.Proofs.YtahehlajpaoiiaaGreatDoor


/-
  The second reference's fractions as digits, and out of integers.
-/
namespace Go.Proofs.YtahehlajpaoiiaaGreatDoor
open Go.RowKit
attribute [local go_sem ↓] Go.wp_at_zero Go.wp_at_succ

theorem Rq.bval {q : Rat} {b : Bool} {m k : ByteArray} (h : Rq q b m k) : bval m = q.num.natAbs := by rw [h.mag.2, bval_mag]
/-- A call that hands back a fraction as digits. -/
def RetF (w : World) (b : Bool) (N D : Nat) (e : Ending) (w' : World) : Prop :=
  ∃ A n c B m d, e = .returned (.agg #[.bool b, .slice A n c, .slice B m d]) ∧ Tr w' A n c N ∧ Tr w' B m d D ∧ Below w.heap.size w w'

theorem tr_one (w : World) : Tr (w.alloc (.cells #[.int .i64 1] 3)) (some ⟨w.heap.size, 0, none⟩) 1 1 1 := by
  refine ⟨⟨by decide, fun _ => ⟨w.heap.size, 0, rfl, by simp, fun j hj => ?_⟩⟩, nd_one.symm, Nat.le_refl _, fun h => by cases h⟩
  obtain rfl : j = 0 := by omega
  exact (cell_of_row _ _ _ _ 3 (0, 0) (heap_one w _)).trans (by simp [D])

theorem Tr.set3 {W : World} {A : Option Addr} {n c V g : Nat} (h : Tr W A n c V) (hA : ∀ a, A = some a → a.block ≠ g) (x y z : Value) :
    Tr (((W.setCell ⟨g, 0, none⟩ x).setCell ⟨g, 1, none⟩ y).setCell ⟨g, 2, none⟩ z) A n c V :=
  ⟨((h.dg.apart hA _ _).apart hA _ _).apart hA _ _, h.ln, h.cap, h.nil⟩
theorem below_set3 {B : Nat} {a W : World} {g : Nat} (h : Below B a W) (hB : B ≤ g) (x y z : Value) : Below B a (((W.setCell ⟨g, 0, none⟩ x).setCell ⟨g, 1, none⟩ y).setCell ⟨g, 2, none⟩ z) :=
  ((h.setCell hB _).setCell hB _).setCell hB _

set_option maxHeartbeats 4000000 in
set_option maxRecDepth 100000 in
theorem rof {q : Rat} {b : Bool} {m k : ByteArray} (h : Rq q b m k) (hm : m.size ≤ 1000000) (hk : k.size ≤ 1000000) (w : World) :
    Calls Tryz.prog 74 #[.agg #[.bool b, .string m, .bool false, .string k]] w (RetF w b q.num.natAbs q.den) := by
  have HB := Lib.hid h.bval
  have KK := Lib.hid (Kb.start w #[.bool b, .string m, .bool false, .string k] #[.bool false, .slice none 0 0, .slice none 0 0] 25 75)
  have HD1 := Lib.hid (fun V => rdigits b m V (by omega))
  have HD2 := Lib.hid (fun V => rdigits false k V (by omega))
  by_cases hden : q.den = 1
  · have hk1 := h.den1 hden
    have hb0 : Go.Proofs.YtahehlajpaoiiaaGreatDoor.bval k = 0 := by rw [hk1]; rfl
    have HB0 := Lib.hid hb0
    have HDEN := Lib.hid hden
    clear h hden hk1 hb0
    go_enter Tryz.func74, Tryz.ntmps74
    go_wp2_with fail
    refine (HD2.out _).mono ?_
    rw [HB0.out]
    rintro e w1 ⟨A1, n1, c1, rfl, ht1, hb1, _⟩
    have hn1 : n1 = 0 := by rw [ht1.ln, nd_zero]
    subst hn1
    have K1 := Lib.hid (KK.out.next hb1)
    have K2 := Lib.hid ((K1.out.next ((Below.refl _ _).alloc (Nat.le_refl _) (.cells #[.int .i64 1] 3))).drew)
    have T1 := Lib.hid (tr_one w1)
    clear ht1 hb1
    obtain ⟨p0, p1, p2, p3⟩ := blk4 K2.out.k1
    go_wp2_with fail
    go_region_held3 (fun w' => w'.cell? ⟨w.heap.size, 0, none⟩ = some (.bool b) ∧ w'.cell? ⟨w.heap.size, 1, none⟩ = some (.string m))
      (first
        | exact ⟨q0, q1⟩
        | exact ⟨p0, p1⟩
        | go_keep)
      (first
        | (go_at_call 59; (with_reducible refine (HD1.out _).mono ?_); rw [HB.out]; rintro e w3 ⟨A3, n3, c3, rfl, ht3, hb3, hf3⟩; have K3 := Lib.hid (K2.out.next hb3); have T3 := Lib.hid ht3; have T4 := Lib.hid (T1.out.drew.below hb3); obtain ⟨q0, q1, q2, q3⟩ := blk4 K3.out.k1; obtain ⟨s0, s1, s2, f0, f1, f2⟩ := blk3 K3.out.k2))
    have HF := Lib.hid hf3
    have HS1 := Lib.hid K1.out.sz
    have HS2 := Lib.hid K2.out.sz
    clear ht3 hb3 hf3
    go_wp2
    refine bodyPost_ret (v := .agg #[.bool b, .slice A3 n3 c3, .slice (some ⟨w1.heap.size, 0, none⟩) 1 1]) (by simp [results, Tryz.results74, go_sem, s0, s1, s2]) rfl ⟨A3, n3, c3, _, 1, 1, rfl, T3.out.set3 (fun a ha => ?_) _ _ _, ?_, below_set3 K3.out.bel (by omega) _ _ _⟩
    · have h1 := HF.out a ha
      have h2 := HS2.out
      omega
    · rw [HDEN.out]
      exact T4.out.set3 (fun a ha => by injection ha with ha; subst ha; have := HS1.out; show w1.heap.size ≠ _; omega) _ _ _
  · have hb0 : Go.Proofs.YtahehlajpaoiiaaGreatDoor.bval k = q.den := by rw [h.den2 hden, bval_mag]
    have HB0 := Lib.hid hb0
    have HP := Lib.hid q.den_pos
    clear h hden hb0
    go_enter Tryz.func74, Tryz.ntmps74
    go_wp2_with fail
    refine (HD2.out _).mono ?_
    rw [HB0.out]
    rintro e w1 ⟨A1, n1, c1, rfl, ht1, hb1, hf1⟩
    have hn1 : 0 < n1 := by rw [ht1.ln]; exact nd_pos HP.out
    have hne : ((n1 : Int) == 0) = false := by simp; omega
    have K1 := Lib.hid (KK.out.next hb1)
    have K2 := Lib.hid (K1.out.drew)
    have T1 := Lib.hid ht1
    have HF1 := Lib.hid hf1
    have HS0 := Lib.hid KK.out.sz
    clear ht1 hb1 hf1
    obtain ⟨p0, p1, p2, p3⟩ := blk4 K2.out.k1
    go_wp2_with fail
    clear hne
    go_region_held3 (fun w' => w'.cell? ⟨w.heap.size, 0, none⟩ = some (.bool b) ∧ w'.cell? ⟨w.heap.size, 1, none⟩ = some (.string m))
      (first
        | exact ⟨q0, q1⟩
        | exact ⟨p0, p1⟩
        | go_keep)
      (first
        | (go_at_call 59; (with_reducible refine (HD1.out _).mono ?_); rw [HB.out]; rintro e w3 ⟨A3, n3, c3, rfl, ht3, hb3, hf3⟩; have K3 := Lib.hid (K2.out.next hb3); have T3 := Lib.hid ht3; have T4 := Lib.hid (T1.out.drew.below hb3); obtain ⟨q0, q1, q2, q3⟩ := blk4 K3.out.k1; obtain ⟨s0, s1, s2, f0, f1, f2⟩ := blk3 K3.out.k2))
    have HF := Lib.hid hf3
    have HS2 := Lib.hid K2.out.sz
    clear ht3 hb3 hf3
    go_wp2
    refine bodyPost_ret (v := .agg #[.bool b, .slice A3 n3 c3, .slice A1 n1 c1]) (by simp [results, Tryz.results74, go_sem, s0, s1, s2]) rfl ⟨A3, n3, c3, A1, n1, c1, rfl, T3.out.set3 (fun a ha => ?_) _ _ _, T4.out.set3 (fun a ha => ?_) _ _ _, below_set3 K3.out.bel (by omega) _ _ _⟩
    · have h1 := HF.out a ha
      have h2 := HS2.out
      omega
    · have h1 := HF1.out a ha
      have h2 := HS0.out
      omega
end Go.Proofs.YtahehlajpaoiiaaGreatDoor


/-
  The second reference's integers and fractions out of ints.
-/
namespace Go.Proofs.YtahehlajpaoiiaaGreatDoor
open Go.RowKit
attribute [local go_sem ↓] Go.wp_at_zero Go.wp_at_succ

set_option maxHeartbeats 8000000 in
set_option maxRecDepth 100000 in
theorem rmake (b1 b2 : Bool) (m1 m2 : ByteArray) (h1 : m1.size ≤ 1000000) (h2 : m2.size ≤ 1000000) (hY : 0 < bval m2) (w : World) :
    Calls Tryz.prog 26 #[.agg #[.bool b1, .string m1], .agg #[.bool b2, .string m2]] w (RetR w (mkRat (sgn (b1 != b2) (bval m1)) (bval m2))) := by
  have KK := Lib.hid ((Kc.start w #[.bool b1, .string m1] #[.bool b2, .string m2] #[.bool false, .string ⟨#[]⟩, .bool false, .string ⟨#[]⟩] 23 23 25).drew)
  have HD1 := Lib.hid (fun V => rdigits b1 m1 V (by omega))
  have HD2 := Lib.hid (fun V => rdigits b2 m2 V (by omega))
  have HN1 := Lib.hid (nd_le (bval_lt m1))
  have HN2 := Lib.hid (nd_le (bval_lt m2))
  have HYP := Lib.hid hY
  clear hY
  have hne1 : ¬ (w.heap.size = w.heap.size + 1 + 1) := by omega
  have hne2 : ¬ (w.heap.size + 1 + 1 = w.heap.size) := by omega
  have hne3 : ¬ (w.heap.size + 1 = w.heap.size + 1 + 1) := by omega
  have hne4 : ¬ (w.heap.size + 1 + 1 = w.heap.size + 1) := by omega
  obtain ⟨p0, p1, _, _⟩ := blk_cells KK.out.k1
  obtain ⟨p2, p3, _, _⟩ := blk_cells KK.out.k2
  go_enter Tryz.func26, Tryz.ntmps26
  go_wp2_with fail
  go_region_held3 (fun w' => w'.cell? ⟨w.heap.size, 0, none⟩ = some (.bool b1) ∧ w'.cell? ⟨w.heap.size, 1, none⟩ = some (.string m1) ∧ w'.cell? ⟨w.heap.size + 1, 0, none⟩ = some (.bool b2) ∧ w'.cell? ⟨w.heap.size + 1, 1, none⟩ = some (.string m2))
    (first
      | exact ⟨s0, s1, s2, s3⟩
      | exact ⟨r0, r1, r2, r3⟩
      | exact ⟨q0, q1, q2, q3⟩
      | exact ⟨p0, p1, p2, p3⟩
      | go_keep)
    (first
      | (go_at_call 59; (with_reducible refine (HD1.out _).mono ?_); rintro e w1 ⟨A1, n1, c1, rfl, ht1, hb1, _⟩; have K1 := Lib.hid (KK.out.next hb1); have T1 := Lib.hid ht1; obtain ⟨q0, q1, _, _⟩ := blk_cells K1.out.k1; obtain ⟨q2, q3, _, _⟩ := blk_cells K1.out.k2)
      | (go_at_call 59; (with_reducible refine (HD2.out _).mono ?_); rintro e w2 ⟨A2, n2, c2, rfl, ht2, hb2, _⟩; have K2 := Lib.hid (K1.out.next hb2); have T2 := Lib.hid ht2; have T1' := Lib.hid (T1.out.below hb2); obtain ⟨r0, r1, _, _⟩ := blk_cells K2.out.k1; obtain ⟨r2, r3, _, _⟩ := blk_cells K2.out.k2)
      | (go_at_call 70; (with_reducible refine (rcanonical _ A1 A2 n1 n2 c1 c2 (bval m1) (bval m2) _ ?_ ?_ T1'.out T2.out HYP.out).mono ?_); (have h3 := T1'.out.ln; have h4 := HN1.out; omega); (have h3 := T2.out.ln; have h4 := HN2.out; omega); rintro e w3 ⟨b3, m3, k3, rfl, hq3, hb3⟩; have K3 := Lib.hid (K2.out.next hb3); have HQ := Lib.hid hq3; obtain ⟨s0, s1, _, _⟩ := blk_cells K3.out.k1; obtain ⟨s2, s3, _, _⟩ := blk_cells K3.out.k2; obtain ⟨t0, t1, t2, t3⟩ := blk4 K3.out.k3; obtain ⟨f0, f1, f2, f3⟩ := fro4 K3.out.k3))
  clear hb1 hb2 hb3 hq3 ht1 ht2
  go_wp2
  exact bodyPost_ret (v := .agg #[.bool b3, .string m3, .bool false, .string k3]) (by simp [results, Tryz.results26, go_sem, t0, t1, t2, t3]) rfl ⟨b3, m3, k3, rfl, HQ.out, below_set4 K3.out.bel (by omega) _ _ _ _⟩

end Go.Proofs.YtahehlajpaoiiaaGreatDoor
