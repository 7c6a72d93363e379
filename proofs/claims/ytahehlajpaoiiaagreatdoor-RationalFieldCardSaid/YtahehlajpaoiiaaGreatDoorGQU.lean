import Derived.Test.YtahehlajpaoiiaaGreatDoorGQS
import Derived.Test.YtahehlajpaoiiaaGreatDoorGIntT

/-
  The program's order of fractions.
-/
namespace Go.Proofs.YtahehlajpaoiiaaGreatDoor
open Go.RowKit
attribute [local go_sem ↓] Go.wp_at_zero Go.wp_at_succ

/-- The order of two fractions. -/
def cmpQ (a b : Rat) : Int := cmpZ (a.num * (b.den : Int)) (b.num * (a.den : Int))

theorem cmpZ_scale {x y d : Int} (hd : 0 < d) : cmpZ (x * d) (y * d) = cmpZ x y := by
  rcases Int.lt_trichotomy x y with h | h | h
  · rw [cmpZ_lt h, cmpZ_lt (Int.mul_lt_mul_of_pos_right h hd)]
  · rw [cmpZ_eq0 h, cmpZ_eq0 (by rw [h])]
  · rw [cmpZ_gt h, cmpZ_gt (Int.mul_lt_mul_of_pos_right h hd)]

theorem cmpQ_den {p q : Rat} (h : p.den = q.den) : cmpQ p q = cmpZ p.num q.num := by
  unfold cmpQ
  rw [h, cmpZ_scale (by have := q.den_pos; omega)]

theorem sgn3 (x : Int) {d : Int} (hd : 0 < d) : (x < 0 ∧ x.sign = -1 ∧ x * d < 0) ∨ (x = 0 ∧ x.sign = 0 ∧ x * d = 0) ∨ (0 < x ∧ x.sign = 1 ∧ 0 < x * d) := by
  rcases Int.lt_trichotomy x 0 with h | h | h
  · exact .inl ⟨h, Int.sign_eq_neg_one_of_neg h, Int.mul_neg_of_neg_of_pos h hd⟩
  · exact .inr (.inl ⟨h, by rw [h]; rfl, by rw [h, Int.zero_mul]⟩)
  · exact .inr (.inr ⟨h, Int.sign_eq_one_of_pos h, Int.mul_pos h hd⟩)

theorem cmpQ_sign {p q : Rat} (h : p.num.sign ≠ q.num.sign) : cmpQ p q = Lib.compareInt p.num.sign q.num.sign := by
  unfold cmpQ
  have h1 := sgn3 p.num (d := (q.den : Int)) (by have := q.den_pos; omega)
  have h2 := sgn3 q.num (d := (p.den : Int)) (by have := p.den_pos; omega)
  generalize p.num * (q.den : Int) = X at *
  generalize q.num * (p.den : Int) = Y at *
  have h3 : (p.num.sign < q.num.sign ∧ X < Y) ∨ (q.num.sign < p.num.sign ∧ Y < X) := by omega
  rcases h3 with ⟨h4, h5⟩ | ⟨h4, h5⟩
  · rw [cmpZ_lt h5, compareInt_lt h4]
  · rw [cmpZ_gt h5, compareInt_gt h4]

theorem dm_inj {d e : Nat} (h : dm d = dm e) (hd : d ≠ 0) (he : e ≠ 0) : d = e := by
  unfold dm at h
  by_cases h1 : d = 1 <;> by_cases h2 : e = 1
  · omega
  · rw [if_pos h1, if_neg h2] at h
    have := mag_inj h
    omega
  · rw [if_neg h1, if_pos h2] at h
    have := mag_inj h
    omega
  · rw [if_neg h1, if_neg h2] at h
    exact mag_inj h

theorem Rq.eq_of {p q : Rat} {b : Bool} {m k : ByteArray} (hp : Rq p b m k) (hq : Rq q b m k) : p = q := by
  obtain ⟨e1, e2⟩ := enc_parts hp.num
  obtain ⟨e3, e4⟩ := enc_parts hq.num
  have h1 : p.num.natAbs = q.num.natAbs := mag_inj (e2.symm.trans e4)
  have h2 : decide (p.num < 0) = decide (q.num < 0) := e1.symm.trans e3
  have h3 : (p.num < 0) ↔ (q.num < 0) := by simpa using h2
  refine Rat.ext (by omega) ?_
  exact dm_inj (hp.den.symm.trans hq.den) p.den_nz q.den_nz

set_option maxHeartbeats 4000000 in
set_option maxRecDepth 100000 in
theorem ratCompare_f {p q : Rat} {b1 b2 : Bool} {m1 m2 k1 k2 : ByteArray} (hp : Rq p b1 m1 k1) (hq : Rq q b2 m2 k2) (s1 : m1.size ≤ 10000) (s2 : m2.size ≤ 10000) (s3 : (mag p.den).size ≤ 10000) (s4 : (mag q.den).size ≤ 10000) (w : World) (hE : Env w) :
    Calls Tryz.prog 38 #[.agg #[.bool b1, .string m1, .bool false, .string k1], .agg #[.bool b2, .string m2, .bool false, .string k2]] w (RetB w (.int .i64 (cmpQ p q))) := by
  have HS1 := Lib.hid (fun V => ratSign_f hp V)
  have HS2 := Lib.hid (fun V => ratSign_f hq V)
  have HE := Lib.hid (fun V (h : Below w.heap.size w V) => hE.next h)
  have KK := Lib.hid (Kb.start w #[.bool b1, .string m1, .bool false, .string k1] #[.bool b2, .string m2, .bool false, .string k2] 25 25).drew
  have hc : p.num.sign ≠ q.num.sign → cmpQ p q = Lib.compareInt p.num.sign q.num.sign := cmpQ_sign
  have HCS := Lib.hid hc
  have hsb : p.num.sign = q.num.sign → b1 = b2 := fun h => by
    rw [hp.mag.1, hq.mag.1]
    have h1 := sgn3 p.num (d := 1) (by omega)
    have h2 := sgn3 q.num (d := 1) (by omega)
    have h3 : (p.num < 0) ↔ (q.num < 0) := by omega
    simp [h3]
  have hsm : b1 = b2 → m1 = m2 → p.num.sign = q.num.sign := fun h1 h2 => by
    have h3 : enc p.num = enc q.num := by rw [hp.num, hq.num, h1, h2]
    have h4 : p.num = q.num := by
      have e := hp.num
      rw [h1, h2, ← hq.num] at e
      have e1 := (enc_parts hp.num)
      have e2 := (enc_parts hq.num)
      have h5 : p.num.natAbs = q.num.natAbs := mag_inj (e1.2.symm.trans (h2.trans e2.2))
      have h6 : decide (p.num < 0) = decide (q.num < 0) := e1.1.symm.trans (h1.trans e2.1)
      have h7 : (p.num < 0) ↔ (q.num < 0) := by simpa using h6
      omega
    rw [h4]
  have heq : b1 = b2 → m1 = m2 → k1 = k2 → p = q := fun h1 h2 h3 => by subst h1; subst h2; subst h3; exact hp.eq_of hq
  have hkd : k1 = k2 → cmpQ p q = cmpZ p.num q.num := fun h => cmpQ_den (dm_inj (hp.den.symm.trans (h.trans hq.den)) p.den_nz q.den_nz)
  have HN := Lib.hid (fun V => Compare_f hp.num hq.num V)
  obtain ⟨bx, mx, hx⟩ := enc_form (p.num * (q.den : Int))
  obtain ⟨by', my, hy⟩ := enc_form (q.num * (p.den : Int))
  have HD1 := Lib.hid (fun V (hV : Env V) => den_f hq V hV)
  have HD2 := Lib.hid (fun V (hV : Env V) => den_f hp V hV)
  have HT1 := Lib.hid (fun V (hV : Env V) => ratTimes_f hp.num (enc_mag q.den) hx rfl (by omega) (by omega) V hV)
  have HT2 := Lib.hid (fun V (hV : Env V) => ratTimes_f hq.num (enc_mag p.den) hy rfl (by omega) (by omega) V hV)
  have HCC := Lib.hid (fun V => Compare_f hx hy V)
  have HZ := Lib.hid (show cmpZ (p.num * (q.den : Int)) (q.num * (p.den : Int)) = cmpQ p q from rfl)
  have h0 : p = q → cmpQ p q = 0 := fun h => by subst h; unfold cmpQ; exact cmpZ_eq0 rfl
  generalize cmpZ (p.num * (q.den : Int)) (q.num * (p.den : Int)) = zz at *
  generalize cmpZ p.num q.num = zn at *
  generalize cmpQ p q = z at *
  generalize hsp : p.num.sign = sp at *
  generalize hsq : q.num.sign = sq at *
  generalize mag p.den = dp at *
  generalize mag q.den = dq at *
  have hdec : b1 = b2 → m1 = m2 → k1 = k2 → z = 0 := fun h1 h2 h3 => h0 (heq h1 h2 h3)
  clear heq h0 hp hq hx hy hE hc hsp hsq s1 s2 s3 s4
  by_cases hs : sp = sq
  · have hb := hsb hs
    subst hs
    subst hb
    by_cases hk : k1 = k2
    · subst hk
      by_cases hm : m1 = m2
      · subst hm
        have HZ0 := Lib.hid (hdec rfl rfl rfl)
        clear hdec hsm hkd
        have HK1 := Lib.hid hsb
        obtain ⟨p0, p1, p2, p3⟩ := blk4 KK.out.k1
        obtain ⟨p4, p5, p6, p7⟩ := blk4 KK.out.k2
        clear hsb
        go_enter Tryz.func38, Tryz.ntmps38
        go_wp2_with fail
        go_region_held3 (fun w' => w'.cell? ⟨w.heap.size, 0, none⟩ = some (.bool b1) ∧ w'.cell? ⟨w.heap.size, 1, none⟩ = some (.string m1) ∧ w'.cell? ⟨w.heap.size, 2, none⟩ = some (.bool false) ∧ w'.cell? ⟨w.heap.size, 3, none⟩ = some (.string k1) ∧ w'.cell? ⟨w.heap.size + 1, 0, none⟩ = some (.bool b1) ∧ w'.cell? ⟨w.heap.size + 1, 1, none⟩ = some (.string m1) ∧ w'.cell? ⟨w.heap.size + 1, 2, none⟩ = some (.bool false) ∧ w'.cell? ⟨w.heap.size + 1, 3, none⟩ = some (.string k1))
          (first
            | exact ⟨r0, r1, r2, r3, r4, r5, r6, r7⟩
            | exact ⟨q0, q1, q2, q3, q4, q5, q6, q7⟩
            | exact ⟨p0, p1, p2, p3, p4, p5, p6, p7⟩
            | go_keep)
          (first
            | (go_at_call 40; (with_reducible refine (HS1.out _).mono ?_); rintro e w1 ⟨rfl, hb1⟩; have K1 := Lib.hid (KK.out.next hb1); obtain ⟨q0, q1, q2, q3⟩ := blk4 K1.out.k1; obtain ⟨q4, q5, q6, q7⟩ := blk4 K1.out.k2)
            | (go_at_call 40; (with_reducible refine (HS2.out _).mono ?_); rintro e w2 ⟨rfl, hb2⟩; have K2 := Lib.hid (K1.out.next hb2); obtain ⟨r0, r1, r2, r3⟩ := blk4 K2.out.k1; obtain ⟨r4, r5, r6, r7⟩ := blk4 K2.out.k2))
        clear hb1 hb2 p0 p1 p2 p3 p4 p5 p6 p7 q0 q1 q2 q3 q4 q5 q6 q7
        go_wp2
        go_ret
        exact ⟨by rw [HZ0.out]; rfl, K2.out.bel⟩
      · have hml := (str_ne hm).2
        have hmn : ¬ m1.toList = m2.toList := by simpa using hml
        have HKD := Lib.hid (hkd rfl)
        clear hdec hsm hkd hm hml
        have HK1 := Lib.hid hsb
        obtain ⟨p0, p1, p2, p3⟩ := blk4 KK.out.k1
        obtain ⟨p4, p5, p6, p7⟩ := blk4 KK.out.k2
        clear hsb
        go_enter Tryz.func38, Tryz.ntmps38
        go_wp2_with fail
        go_region_held3 (fun w' => w'.cell? ⟨w.heap.size, 0, none⟩ = some (.bool b1) ∧ w'.cell? ⟨w.heap.size, 1, none⟩ = some (.string m1) ∧ w'.cell? ⟨w.heap.size, 2, none⟩ = some (.bool false) ∧ w'.cell? ⟨w.heap.size, 3, none⟩ = some (.string k1) ∧ w'.cell? ⟨w.heap.size + 1, 0, none⟩ = some (.bool b1) ∧ w'.cell? ⟨w.heap.size + 1, 1, none⟩ = some (.string m2) ∧ w'.cell? ⟨w.heap.size + 1, 2, none⟩ = some (.bool false) ∧ w'.cell? ⟨w.heap.size + 1, 3, none⟩ = some (.string k1))
          (first
            | exact ⟨r0, r1, r2, r3, r4, r5, r6, r7⟩
            | exact ⟨q0, q1, q2, q3, q4, q5, q6, q7⟩
            | exact ⟨p0, p1, p2, p3, p4, p5, p6, p7⟩
            | go_keep)
          (first
            | (go_at_call 40; (with_reducible refine (HS1.out _).mono ?_); rintro e w1 ⟨rfl, hb1⟩; have K1 := Lib.hid (KK.out.next hb1); obtain ⟨q0, q1, q2, q3⟩ := blk4 K1.out.k1; obtain ⟨q4, q5, q6, q7⟩ := blk4 K1.out.k2)
            | (go_at_call 40; (with_reducible refine (HS2.out _).mono ?_); rintro e w2 ⟨rfl, hb2⟩; have K2 := Lib.hid (K1.out.next hb2); obtain ⟨r0, r1, r2, r3⟩ := blk4 K2.out.k1; obtain ⟨r4, r5, r6, r7⟩ := blk4 K2.out.k2))
        clear hb1 hb2 p0 p1 p2 p3 p4 p5 p6 p7 q0 q1 q2 q3 q4 q5 q6 q7
        go_wp2_with fail
        refine (HN.out _).mono ?_
        rintro e w3 ⟨rfl, hb3⟩
        have K3 := Lib.hid (K2.out.next hb3)
        clear hb3
        go_wp2
        go_ret
        exact ⟨by rw [HKD.out]; rfl, K3.out.bel⟩
    · have hkl := (str_ne hk).2
      have hkn : ¬ k1.toList = k2.toList := by simpa using hkl
      clear hkl hk
      by_cases hm : m1 = m2
      · subst hm
        clear hdec hsm hkd
        have HK1 := Lib.hid hsb
        obtain ⟨p0, p1, p2, p3⟩ := blk4 KK.out.k1
        obtain ⟨p4, p5, p6, p7⟩ := blk4 KK.out.k2
        clear hsb
        go_enter Tryz.func38, Tryz.ntmps38
        go_wp2_with fail
        go_region_held3 (fun w' => w'.cell? ⟨w.heap.size, 0, none⟩ = some (.bool b1) ∧ w'.cell? ⟨w.heap.size, 1, none⟩ = some (.string m1) ∧ w'.cell? ⟨w.heap.size, 2, none⟩ = some (.bool false) ∧ w'.cell? ⟨w.heap.size, 3, none⟩ = some (.string k1) ∧ w'.cell? ⟨w.heap.size + 1, 0, none⟩ = some (.bool b1) ∧ w'.cell? ⟨w.heap.size + 1, 1, none⟩ = some (.string m1) ∧ w'.cell? ⟨w.heap.size + 1, 2, none⟩ = some (.bool false) ∧ w'.cell? ⟨w.heap.size + 1, 3, none⟩ = some (.string k2))
          (first
            | exact ⟨r0, r1, r2, r3, r4, r5, r6, r7⟩
            | exact ⟨q0, q1, q2, q3, q4, q5, q6, q7⟩
            | exact ⟨p0, p1, p2, p3, p4, p5, p6, p7⟩
            | go_keep)
          (first
            | (go_at_call 40; (with_reducible refine (HS1.out _).mono ?_); rintro e w1 ⟨rfl, hb1⟩; have K1 := Lib.hid (KK.out.next hb1); obtain ⟨q0, q1, q2, q3⟩ := blk4 K1.out.k1; obtain ⟨q4, q5, q6, q7⟩ := blk4 K1.out.k2)
            | (go_at_call 40; (with_reducible refine (HS2.out _).mono ?_); rintro e w2 ⟨rfl, hb2⟩; have K2 := Lib.hid (K1.out.next hb2); obtain ⟨r0, r1, r2, r3⟩ := blk4 K2.out.k1; obtain ⟨r4, r5, r6, r7⟩ := blk4 K2.out.k2))
        clear hb1 hb2 p0 p1 p2 p3 p4 p5 p6 p7 q0 q1 q2 q3 q4 q5 q6 q7
        have K2 := Lib.hid K2.out.drew
        obtain ⟨r0, r1, r2, r3⟩ := blk4 K2.out.k1
        obtain ⟨r4, r5, r6, r7⟩ := blk4 K2.out.k2
        simp only [World.cell?_drew] at r0 r1 r2 r3 r4 r5 r6 r7
        go_wp2_with fail
        go_region_held3 (fun w' => w'.cell? ⟨w.heap.size, 0, none⟩ = some (.bool b1) ∧ w'.cell? ⟨w.heap.size, 1, none⟩ = some (.string m1) ∧ w'.cell? ⟨w.heap.size, 2, none⟩ = some (.bool false) ∧ w'.cell? ⟨w.heap.size, 3, none⟩ = some (.string k1) ∧ w'.cell? ⟨w.heap.size + 1, 0, none⟩ = some (.bool b1) ∧ w'.cell? ⟨w.heap.size + 1, 1, none⟩ = some (.string m1) ∧ w'.cell? ⟨w.heap.size + 1, 2, none⟩ = some (.bool false) ∧ w'.cell? ⟨w.heap.size + 1, 3, none⟩ = some (.string k2))
          (first
            | exact ⟨r0, r1, r2, r3, r4, r5, r6, r7⟩
            | go_keep)
          (first
            | (go_at_call 20; (with_reducible refine (HD1.out _ (HE.out _ K2.out.bel)).mono ?_); rintro e w3 ⟨rfl, hb9⟩; have K2 := Lib.hid (K2.out.next hb9); obtain ⟨r0, r1, r2, r3⟩ := blk4 K2.out.k1; obtain ⟨r4, r5, r6, r7⟩ := blk4 K2.out.k2; clear hb9)
            | (go_at_call 80; (with_reducible refine (HT1.out _ (HE.out _ K2.out.bel)).mono ?_); rintro e w4 ⟨rfl, hb9⟩; have K2 := Lib.hid (K2.out.next hb9); obtain ⟨r0, r1, r2, r3⟩ := blk4 K2.out.k1; obtain ⟨r4, r5, r6, r7⟩ := blk4 K2.out.k2; clear hb9)
            | (go_at_call 20; (with_reducible refine (HD2.out _ (HE.out _ K2.out.bel)).mono ?_); rintro e w5 ⟨rfl, hb9⟩; have K2 := Lib.hid (K2.out.next hb9); obtain ⟨r0, r1, r2, r3⟩ := blk4 K2.out.k1; obtain ⟨r4, r5, r6, r7⟩ := blk4 K2.out.k2; clear hb9)
            | (go_at_call 80; (with_reducible refine (HT2.out _ (HE.out _ K2.out.bel)).mono ?_); rintro e w6 ⟨rfl, hb9⟩; have K2 := Lib.hid (K2.out.next hb9); obtain ⟨r0, r1, r2, r3⟩ := blk4 K2.out.k1; obtain ⟨r4, r5, r6, r7⟩ := blk4 K2.out.k2; clear hb9)
            | (go_at_call 83; (with_reducible refine (HCC.out _).mono ?_); rintro e w7 ⟨rfl, hb9⟩; have K2 := Lib.hid (K2.out.next hb9); obtain ⟨r0, r1, r2, r3⟩ := blk4 K2.out.k1; obtain ⟨r4, r5, r6, r7⟩ := blk4 K2.out.k2; clear hb9))
        go_wp2
        go_ret
        exact ⟨by rw [← HZ.out]; rfl, K2.out.bel⟩
      · have hml := (str_ne hm).2
        have hmn : ¬ m1.toList = m2.toList := by simpa using hml
        clear hdec hsm hkd hm hml
        have HK1 := Lib.hid hsb
        obtain ⟨p0, p1, p2, p3⟩ := blk4 KK.out.k1
        obtain ⟨p4, p5, p6, p7⟩ := blk4 KK.out.k2
        clear hsb
        go_enter Tryz.func38, Tryz.ntmps38
        go_wp2_with fail
        go_region_held3 (fun w' => w'.cell? ⟨w.heap.size, 0, none⟩ = some (.bool b1) ∧ w'.cell? ⟨w.heap.size, 1, none⟩ = some (.string m1) ∧ w'.cell? ⟨w.heap.size, 2, none⟩ = some (.bool false) ∧ w'.cell? ⟨w.heap.size, 3, none⟩ = some (.string k1) ∧ w'.cell? ⟨w.heap.size + 1, 0, none⟩ = some (.bool b1) ∧ w'.cell? ⟨w.heap.size + 1, 1, none⟩ = some (.string m2) ∧ w'.cell? ⟨w.heap.size + 1, 2, none⟩ = some (.bool false) ∧ w'.cell? ⟨w.heap.size + 1, 3, none⟩ = some (.string k2))
          (first
            | exact ⟨r0, r1, r2, r3, r4, r5, r6, r7⟩
            | exact ⟨q0, q1, q2, q3, q4, q5, q6, q7⟩
            | exact ⟨p0, p1, p2, p3, p4, p5, p6, p7⟩
            | go_keep)
          (first
            | (go_at_call 40; (with_reducible refine (HS1.out _).mono ?_); rintro e w1 ⟨rfl, hb1⟩; have K1 := Lib.hid (KK.out.next hb1); obtain ⟨q0, q1, q2, q3⟩ := blk4 K1.out.k1; obtain ⟨q4, q5, q6, q7⟩ := blk4 K1.out.k2)
            | (go_at_call 40; (with_reducible refine (HS2.out _).mono ?_); rintro e w2 ⟨rfl, hb2⟩; have K2 := Lib.hid (K1.out.next hb2); obtain ⟨r0, r1, r2, r3⟩ := blk4 K2.out.k1; obtain ⟨r4, r5, r6, r7⟩ := blk4 K2.out.k2))
        clear hb1 hb2 p0 p1 p2 p3 p4 p5 p6 p7 q0 q1 q2 q3 q4 q5 q6 q7
        have K2 := Lib.hid K2.out.drew
        obtain ⟨r0, r1, r2, r3⟩ := blk4 K2.out.k1
        obtain ⟨r4, r5, r6, r7⟩ := blk4 K2.out.k2
        simp only [World.cell?_drew] at r0 r1 r2 r3 r4 r5 r6 r7
        go_wp2_with fail
        go_region_held3 (fun w' => w'.cell? ⟨w.heap.size, 0, none⟩ = some (.bool b1) ∧ w'.cell? ⟨w.heap.size, 1, none⟩ = some (.string m1) ∧ w'.cell? ⟨w.heap.size, 2, none⟩ = some (.bool false) ∧ w'.cell? ⟨w.heap.size, 3, none⟩ = some (.string k1) ∧ w'.cell? ⟨w.heap.size + 1, 0, none⟩ = some (.bool b1) ∧ w'.cell? ⟨w.heap.size + 1, 1, none⟩ = some (.string m2) ∧ w'.cell? ⟨w.heap.size + 1, 2, none⟩ = some (.bool false) ∧ w'.cell? ⟨w.heap.size + 1, 3, none⟩ = some (.string k2))
          (first
            | exact ⟨r0, r1, r2, r3, r4, r5, r6, r7⟩
            | go_keep)
          (first
            | (go_at_call 20; (with_reducible refine (HD1.out _ (HE.out _ K2.out.bel)).mono ?_); rintro e w3 ⟨rfl, hb9⟩; have K2 := Lib.hid (K2.out.next hb9); obtain ⟨r0, r1, r2, r3⟩ := blk4 K2.out.k1; obtain ⟨r4, r5, r6, r7⟩ := blk4 K2.out.k2; clear hb9)
            | (go_at_call 80; (with_reducible refine (HT1.out _ (HE.out _ K2.out.bel)).mono ?_); rintro e w4 ⟨rfl, hb9⟩; have K2 := Lib.hid (K2.out.next hb9); obtain ⟨r0, r1, r2, r3⟩ := blk4 K2.out.k1; obtain ⟨r4, r5, r6, r7⟩ := blk4 K2.out.k2; clear hb9)
            | (go_at_call 20; (with_reducible refine (HD2.out _ (HE.out _ K2.out.bel)).mono ?_); rintro e w5 ⟨rfl, hb9⟩; have K2 := Lib.hid (K2.out.next hb9); obtain ⟨r0, r1, r2, r3⟩ := blk4 K2.out.k1; obtain ⟨r4, r5, r6, r7⟩ := blk4 K2.out.k2; clear hb9)
            | (go_at_call 80; (with_reducible refine (HT2.out _ (HE.out _ K2.out.bel)).mono ?_); rintro e w6 ⟨rfl, hb9⟩; have K2 := Lib.hid (K2.out.next hb9); obtain ⟨r0, r1, r2, r3⟩ := blk4 K2.out.k1; obtain ⟨r4, r5, r6, r7⟩ := blk4 K2.out.k2; clear hb9)
            | (go_at_call 83; (with_reducible refine (HCC.out _).mono ?_); rintro e w7 ⟨rfl, hb9⟩; have K2 := Lib.hid (K2.out.next hb9); obtain ⟨r0, r1, r2, r3⟩ := blk4 K2.out.k1; obtain ⟨r4, r5, r6, r7⟩ := blk4 K2.out.k2; clear hb9))
        go_wp2
        go_ret
        exact ⟨by rw [← HZ.out]; rfl, K2.out.bel⟩
  · have hne : (sp != sq) = true := by simpa using hs
    have HCZ := Lib.hid (HCS.out hs)
    have hmb : b1 = b2 → ¬ m1.toList = m2.toList := fun h1 h2 => hs (hsm h1 (by cases m1; cases m2; rw [ByteArray.toList_eq, ByteArray.toList_eq] at h2; simp at h2; rw [h2]))
    have HCI := Lib.hid (fun V => Tryz.cmp_Compare_int sp sq V)
    clear hdec hsm hkd hs
    by_cases hb : b1 = b2
    · subst hb
      have hmn := hmb rfl
      clear hmb
      have HK1 := Lib.hid hsb
      obtain ⟨p0, p1, p2, p3⟩ := blk4 KK.out.k1
      obtain ⟨p4, p5, p6, p7⟩ := blk4 KK.out.k2
      clear hsb
      go_enter Tryz.func38, Tryz.ntmps38
      go_wp2_with fail
      go_region_held3 (fun w' => w'.cell? ⟨w.heap.size, 0, none⟩ = some (.bool b1) ∧ w'.cell? ⟨w.heap.size, 1, none⟩ = some (.string m1) ∧ w'.cell? ⟨w.heap.size, 2, none⟩ = some (.bool false) ∧ w'.cell? ⟨w.heap.size, 3, none⟩ = some (.string k1) ∧ w'.cell? ⟨w.heap.size + 1, 0, none⟩ = some (.bool b1) ∧ w'.cell? ⟨w.heap.size + 1, 1, none⟩ = some (.string m2) ∧ w'.cell? ⟨w.heap.size + 1, 2, none⟩ = some (.bool false) ∧ w'.cell? ⟨w.heap.size + 1, 3, none⟩ = some (.string k2))
        (first
          | exact ⟨r0, r1, r2, r3, r4, r5, r6, r7⟩
          | exact ⟨q0, q1, q2, q3, q4, q5, q6, q7⟩
          | exact ⟨p0, p1, p2, p3, p4, p5, p6, p7⟩
          | go_keep)
        (first
          | (go_at_call 40; (with_reducible refine (HS1.out _).mono ?_); rintro e w1 ⟨rfl, hb1⟩; have K1 := Lib.hid (KK.out.next hb1); obtain ⟨q0, q1, q2, q3⟩ := blk4 K1.out.k1; obtain ⟨q4, q5, q6, q7⟩ := blk4 K1.out.k2)
          | (go_at_call 40; (with_reducible refine (HS2.out _).mono ?_); rintro e w2 ⟨rfl, hb2⟩; have K2 := Lib.hid (K1.out.next hb2); obtain ⟨r0, r1, r2, r3⟩ := blk4 K2.out.k1; obtain ⟨r4, r5, r6, r7⟩ := blk4 K2.out.k2))
      clear hb1 hb2 p0 p1 p2 p3 p4 p5 p6 p7 q0 q1 q2 q3 q4 q5 q6 q7
      go_wp2_with fail
      refine (HCI.out _).mono ?_
      rintro e w3 ⟨rfl, rfl⟩
      go_wp2
      go_ret
      exact ⟨by rw [HCZ.out]; rfl, K2.out.bel⟩
    · clear hmb
      have HK1 := Lib.hid hsb
      obtain ⟨p0, p1, p2, p3⟩ := blk4 KK.out.k1
      obtain ⟨p4, p5, p6, p7⟩ := blk4 KK.out.k2
      clear hsb
      go_enter Tryz.func38, Tryz.ntmps38
      go_wp2_with fail
      go_region_held3 (fun w' => w'.cell? ⟨w.heap.size, 0, none⟩ = some (.bool b1) ∧ w'.cell? ⟨w.heap.size, 1, none⟩ = some (.string m1) ∧ w'.cell? ⟨w.heap.size, 2, none⟩ = some (.bool false) ∧ w'.cell? ⟨w.heap.size, 3, none⟩ = some (.string k1) ∧ w'.cell? ⟨w.heap.size + 1, 0, none⟩ = some (.bool b2) ∧ w'.cell? ⟨w.heap.size + 1, 1, none⟩ = some (.string m2) ∧ w'.cell? ⟨w.heap.size + 1, 2, none⟩ = some (.bool false) ∧ w'.cell? ⟨w.heap.size + 1, 3, none⟩ = some (.string k2))
        (first
          | exact ⟨r0, r1, r2, r3, r4, r5, r6, r7⟩
          | exact ⟨q0, q1, q2, q3, q4, q5, q6, q7⟩
          | exact ⟨p0, p1, p2, p3, p4, p5, p6, p7⟩
          | go_keep)
        (first
          | (go_at_call 40; (with_reducible refine (HS1.out _).mono ?_); rintro e w1 ⟨rfl, hb1⟩; have K1 := Lib.hid (KK.out.next hb1); obtain ⟨q0, q1, q2, q3⟩ := blk4 K1.out.k1; obtain ⟨q4, q5, q6, q7⟩ := blk4 K1.out.k2)
          | (go_at_call 40; (with_reducible refine (HS2.out _).mono ?_); rintro e w2 ⟨rfl, hb2⟩; have K2 := Lib.hid (K1.out.next hb2); obtain ⟨r0, r1, r2, r3⟩ := blk4 K2.out.k1; obtain ⟨r4, r5, r6, r7⟩ := blk4 K2.out.k2))
      clear hb1 hb2 p0 p1 p2 p3 p4 p5 p6 p7 q0 q1 q2 q3 q4 q5 q6 q7
      go_wp2_with fail
      refine (HCI.out _).mono ?_
      rintro e w3 ⟨rfl, rfl⟩
      go_wp2
      go_ret
      exact ⟨by rw [HCZ.out]; rfl, K2.out.bel⟩
end Go.Proofs.YtahehlajpaoiiaaGreatDoor
