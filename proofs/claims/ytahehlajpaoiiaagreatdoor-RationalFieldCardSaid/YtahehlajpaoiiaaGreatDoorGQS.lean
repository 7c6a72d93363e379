import Derived.Test.YtahehlajpaoiiaaGreatDoorGStF
import Derived.Test.YtahehlajpaoiiaaGreatDoorGStD
import Derived.Test.YtahehlajpaoiiaaGreatDoorGRaS
import Derived.Test.YtahehlajpaoiiaaGreatDoorGLawG
import Derived.Deep.RegionLaw
import Derived.Test.YtahehlajpaoiiaaGreatDoorGLate

/-
  The program's fraction of two integers, the second of which is negative or zero.
-/
namespace Go.Proofs.YtahehlajpaoiiaaGreatDoor
open Go.RowKit
attribute [local go_sem ↓] Go.wp_at_zero Go.wp_at_succ

set_option maxHeartbeats 8000000 in
set_option maxRecDepth 100000 in
theorem make_neg {x y : Int} {b1 b2 b3 : Bool} {m1 m2 m3 k3 : ByteArray} (hx : enc x = .agg #[.bool b1, .string m1]) (hy : enc y = .agg #[.bool b2, .string m2]) (hq : Rq (Rat.divInt x y) b3 m3 k3) (h0 : y < 0) (s1 : m1.size ≤ 100000) (s2 : m2.size ≤ 100000) (w : World) (hE : Env w) :
    Calls Tryz.prog 18 #[.agg #[.bool b1, .string m1], .agg #[.bool b2, .string m2]] w (RetB w (.tuple #[.agg #[.bool b3, .string m3, .bool false, .string k3], .int .i64 0])) := by
  obtain ⟨d, rfl⟩ : ∃ d : Nat, y = -(d : Int) := ⟨y.natAbs, by omega⟩
  have hd0 : 0 < d := by omega
  obtain ⟨bn, hbn⟩ : ∃ c, enc (-x) = .agg #[.bool c, .string m1] := ⟨_, enc_neg hx⟩
  have hm2 : m2 = mag d := by rw [(enc_parts hy).2]; congr 1; omega
  have hnd : enc (-(-(d : Int))) = .agg #[.bool false, .string (mag d)] := by rw [Int.neg_neg]; exact enc_mag d
  subst hm2
  have hsg : Int.sign (-(d : Int)) = -1 := Int.sign_eq_neg_one_of_neg (by omega)
  have HSG := Lib.hid (fun V => Sign_f hy V)
  rw [hsg] at HSG
  have HN1 := Lib.hid (fun V => negate_f hx hbn V)
  have HN2 := Lib.hid (fun V => negate_f hy hnd V)
  have HE := Lib.hid (fun V (h : Below w.heap.size w V) => hE.next h)
  obtain ⟨G, hG⟩ : ∃ G, Nat.gcd (-x).natAbs d = G := ⟨_, rfl⟩
  have hG0 : 0 < G := hG ▸ Nat.gcd_pos_of_pos_right _ hd0
  obtain ⟨bg, mg, hg⟩ := enc_form (G : Int)
  have hg2 := hg
  rw [enc_mag G] at hg2
  have hbg : false = bg ∧ mag G = mg := by injection hg2 with h; simpa using h
  obtain ⟨rfl, rfl⟩ := hbg
  have sG : (mag G).size ≤ 100000 := by
    have h1 : nd G ≤ nd d := nd_mono (hG ▸ Nat.gcd_le_right _ hd0)
    exact Nat.le_trans h1 s2
  obtain ⟨e1, e2⟩ := divInt_parts x (-(d : Int)) (by omega)
  have HCO := Lib.hid (fun V (hV : Env V) => common_f (d := d) hbn (c := false) (mg := mag G) (by rw [hG]; exact hg) s1 s2 V hV)
  have HQ1 := Lib.hid (fun V (hV : Env V) => quotient_f (d := G) hbn (c := b3) (mz := m3) (z := (-x) / (G : Int)) (by rw [← hG]; have h := hq.num; rw [e1] at h; rw [hsg, Int.natAbs_neg, Int.natAbs_natCast] at h; rw [Int.natAbs_neg, ← Int.neg_one_mul]; exact h) rfl s1 sG (by omega) V hV)
  have HQ2 := Lib.hid (fun V (hV : Env V) => quotient_f (d := G) (enc_mag d) (c := false) (mz := mag (d / G)) (z := ((d / G : Nat) : Int)) (enc_mag _) (by rw [Int.natCast_ediv]) s2 sG (by omega) V hV)
  have hk3 : k3 = dm (d / G) := by rw [hq.den, e2, ← hG]; rw [Int.natAbs_neg, Int.natAbs_neg, Int.natAbs_natCast]
  have HCP := Lib.hid (fun V (hV : Env V) => coprime_f b3 m3 (d / G) V hV)
  rw [← hk3] at HCP
  clear hg hg2 hk3 e1 e2 sG hG hG0
  generalize mag (d / G) = kd at *
  generalize mag G = kg at *
  have KK := Lib.hid (Kc.start w #[.bool b1, .string m1] #[.bool b2, .string (mag d)] #[.bool false, .string ⟨#[]⟩, .bool false, .string ⟨#[]⟩] 23 23 25)
  clear hx hy hq hE h0 hsg hbn hnd
  generalize mag d = k2 at *
  go_enter Tryz.func18, Tryz.ntmps18
  go_wp2_with fail
  refine (HSG.out _).mono ?_
  rintro e w1 ⟨rfl, hb1⟩
  have K1 := Lib.hid (KK.out.next hb1)
  obtain ⟨x0, x1, _, _⟩ := blk_cells K1.out.k2
  clear hb1
  go_wp2_with fail
  refine (HSG.out _).mono ?_
  rintro e w9 ⟨rfl, hb9⟩
  have K9 := Lib.hid (K1.out.next hb9).drew
  have hHeld : w9.drew.cell? ⟨w.heap.size, 0, none⟩ = some (.bool b1) ∧ w9.drew.cell? ⟨w.heap.size, 1, none⟩ = some (.string m1) ∧ w9.drew.cell? ⟨w.heap.size + 1, 0, none⟩ = some (.bool b2) ∧ w9.drew.cell? ⟨w.heap.size + 1, 1, none⟩ = some (.string k2) := ⟨(blk_cells K9.out.k1).1, (blk_cells K9.out.k1).2.1, (blk_cells K9.out.k2).1, (blk_cells K9.out.k2).2.1⟩
  have HHELD := Lib.hid hHeld
  clear hb9 x0 x1 hHeld
  go_wp2_with fail
  refine wp_region_late (S := fun w' => w'.cell? ⟨w.heap.size, 0, none⟩ = some (.bool b1) ∧ w'.cell? ⟨w.heap.size, 1, none⟩ = some (.string m1) ∧ w'.cell? ⟨w.heap.size + 1, 0, none⟩ = some (.bool b2) ∧ w'.cell? ⟨w.heap.size + 1, 1, none⟩ = some (.string k2)) (L := [4, 5]) (by kernel_rfl) ?_
  have hHeld := HHELD.out
  refine wpLate_take (i := 0) (oi := ⟨some 14, _, _, _, _, _⟩) (v := ?_) rfl (by kernel_rfl) (by kernel_rfl) (by kernel_rfl) (by kernel_rfl) (by kernel_rfl) (fun _ _ _ h => h) (Or.inl ⟨by rfl, ?_⟩) hHeld ?_
  rotate_left
  · intro w hSw; (try dsimp only at hSw); (first | (go_simp; done) | (go_simp; with_reducible rfl))
  try simp only [Act.put, List.setIfInBounds_toArray, List.set_cons_zero, List.set_cons_succ]
  refine wpLate_take (i := 2) (oi := ⟨some 16, _, _, _, _, _⟩) (v := ?_) rfl (by kernel_rfl) (by kernel_rfl) (by kernel_rfl) (by kernel_rfl) (by kernel_rfl) (fun _ _ _ h => h) (Or.inl ⟨by rfl, ?_⟩) hHeld ?_
  rotate_left
  · intro w hSw; (try dsimp only at hSw); (first | (go_simp; done) | (go_simp; with_reducible rfl))
  try simp only [Act.put, List.setIfInBounds_toArray, List.set_cons_zero, List.set_cons_succ]
  refine wpLate_one (i := 1) (o := ⟨some 15, _, _, _, _, _⟩) (by kernel_rfl) rfl (fun K hK => ?_)
  go_simp
  (go_at_call 64; refine (HN1.out _).mono ?_; rintro e w10 ⟨rfl, hb10⟩; have K10 := Lib.hid (K9.out.next hb10))
  try go_wp2_with fail
  refine hK.out _ _ (Or.inr (fun _ => ⟨(blk_cells K10.out.k1).1, (blk_cells K10.out.k1).2.1, (blk_cells K10.out.k2).1, (blk_cells K10.out.k2).2.1⟩)) ?_
  clear hK K
  try simp only [Act.put, List.setIfInBounds_toArray, List.set_cons_zero, List.set_cons_succ]
  refine wpLate_one (i := 3) (o := ⟨some 17, _, _, _, _, _⟩) (by kernel_rfl) rfl (fun K hK => ?_)
  go_simp
  (go_at_call 64; refine (HN2.out _).mono ?_; rintro e w11 ⟨rfl, hb11⟩; have K11 := Lib.hid (K10.out.next hb11); have K12 := Lib.hid (K11.out.set1 (.bool bn) (.string m1)); have K2 := Lib.hid (K12.out.set2 (.bool false) (.string k2)); obtain ⟨z0, z1, z2, z3⟩ := blk_cells K11.out.k1; obtain ⟨z4, z5, z6, z7⟩ := blk_cells K12.out.k2; obtain ⟨z8, z9, z10, z11⟩ := blk_cells K11.out.k2)
  try go_wp2_with fail
  refine hK.out _ _ (Or.inr (fun _ => ⟨(blk_cells K11.out.k1).1, (blk_cells K11.out.k1).2.1, (blk_cells K11.out.k2).1, (blk_cells K11.out.k2).2.1⟩)) ?_
  clear hK K
  try simp only [Act.put, List.setIfInBounds_toArray, List.set_cons_zero, List.set_cons_succ]
  refine wpLate_one (i := 4) (o := ⟨none, _, _, _, _, _⟩) (by kernel_rfl) rfl (fun K hK => ?_)
  go_simp
  refine hK.out _ _ (Or.inl (by rfl)) ?_
  clear hK K
  try simp only [Act.put, List.setIfInBounds_toArray, List.set_cons_zero, List.set_cons_succ]
  refine wpLate_one (i := 5) (o := ⟨none, _, _, _, _, _⟩) (by kernel_rfl) rfl (fun K hK => ?_)
  go_simp
  refine hK.out _ _ (Or.inl (by rfl)) ?_
  clear hK K
  try simp only [Act.put, List.setIfInBounds_toArray, List.set_cons_zero, List.set_cons_succ]
  refine wpLate_done (by kernel_rfl) ?_ _
  obtain ⟨w2, hw2⟩ : ∃ W, W = ((((w11.setCell ⟨w.heap.size, 0, none⟩ (.bool bn)).setCell ⟨w.heap.size, 1, none⟩ (.string m1)).setCell ⟨w.heap.size + 1, 0, none⟩ (.bool false)).setCell ⟨w.heap.size + 1, 1, none⟩ (.string k2)) := ⟨_, rfl⟩
  rw [← hw2]
  rw [← hw2] at K2
  clear z0 z1 z2 z3 z4 z5 z6 z7 z8 z9 z10 z11 hb10 hb11 hHeld hw2
  obtain ⟨a0, a1, _, _⟩ := blk_cells K2.out.k1
  obtain ⟨a2, a3, _, _⟩ := blk_cells K2.out.k2
  go_wp2_with fail
  refine (HCO.out _ (HE.out _ K2.out.bel)).mono ?_
  rintro e w3 ⟨rfl, hb3⟩
  have K3 := Lib.hid (K2.out.next hb3)
  have K4 := Lib.hid (K3.out.next (below_new w3 (.cells #[.bool false, .string kg] 23))).drew
  have B4 := Lib.hid (Bq.new w3 #[.bool false, .string kg] 23).drew
  obtain ⟨p0, p1, _, _⟩ := blk_cells K4.out.k1
  obtain ⟨p2, p3, _, _⟩ := blk_cells K4.out.k2
  obtain ⟨p4, p5, _, _⟩ := blk_cells B4.out.k
  have hne5 : w3.heap.size ≠ w.heap.size + 1 + 1 := by have := K3.out.sz; omega
  clear hb3 a0 a1 a2 a3
  go_wp2_with fail
  go_region_held3 (fun w' => w'.cell? ⟨w.heap.size, 0, none⟩ = some (.bool bn) ∧ w'.cell? ⟨w.heap.size, 1, none⟩ = some (.string m1) ∧ w'.cell? ⟨w.heap.size + 1, 0, none⟩ = some (.bool false) ∧ w'.cell? ⟨w.heap.size + 1, 1, none⟩ = some (.string k2) ∧ w'.cell? ⟨w3.heap.size, 0, none⟩ = some (.bool false) ∧ w'.cell? ⟨w3.heap.size, 1, none⟩ = some (.string kg))
    (first
      | exact ⟨v0, v1, v2, v3, v4, v5⟩
      | exact ⟨s0, s1, s2, s3, s4, s5⟩
      | exact ⟨r0, r1, r2, r3, r4, r5⟩
      | exact ⟨q0, q1, q2, q3, q4, q5⟩
      | exact ⟨p0, p1, p2, p3, p4, p5⟩
      | go_keep)
    (first
      | (go_at_call 67; (with_reducible refine (HQ1.out _ (HE.out _ K4.out.bel)).mono ?_); rintro e w5 ⟨rfl, hb5⟩; have K5 := Lib.hid (K4.out.next hb5); have B5 := Lib.hid (B4.out.next hb5); obtain ⟨q0, q1, _, _⟩ := blk_cells K5.out.k1; obtain ⟨q2, q3, _, _⟩ := blk_cells K5.out.k2; obtain ⟨q4, q5, _, _⟩ := blk_cells B5.out.k)
      | (go_at_call 67; (with_reducible refine (HQ2.out _ (HE.out _ K5.out.bel)).mono ?_); rintro e w6 ⟨rfl, hb6⟩; have K6 := Lib.hid (K5.out.next hb6); have B6 := Lib.hid (B5.out.next hb6); obtain ⟨r0, r1, _, _⟩ := blk_cells K6.out.k1; obtain ⟨r2, r3, _, _⟩ := blk_cells K6.out.k2; obtain ⟨r4, r5, _, _⟩ := blk_cells B6.out.k)
      | (go_at_call 66; (with_reducible refine (HCP.out _ (HE.out _ K6.out.bel)).mono ?_); rintro e w7 ⟨rfl, hb7⟩; have K7 := Lib.hid (K6.out.next hb7); have B7 := Lib.hid (B6.out.next hb7); obtain ⟨s0, s1, _, _⟩ := blk_cells K7.out.k1; obtain ⟨s2, s3, _, _⟩ := blk_cells K7.out.k2; obtain ⟨s4, s5, _, _⟩ := blk_cells B7.out.k; obtain ⟨t0, t1, t2, t3⟩ := blk4 K7.out.k3; obtain ⟨f0, f1, f2, f3⟩ := fro4 K7.out.k3; have K8 := Lib.hid (K7.out.setR (.bool b3) (.string m3) (.bool false) (.string k3)); have B8 := Lib.hid (B7.out.set4 hne5 (.bool b3) (.string m3) (.bool false) (.string k3)); obtain ⟨v0, v1, _, _⟩ := blk_cells K8.out.k1; obtain ⟨v2, v3, _, _⟩ := blk_cells K8.out.k2; obtain ⟨v4, v5, _, _⟩ := blk_cells B8.out.k))
  go_wp2
  exact bodyPost_ret (v := .tuple #[.agg #[.bool b3, .string m3, .bool false, .string k3], .int .i64 0]) (by simp [results, Tryz.results18, go_sem, t0, t1, t2, t3]) rfl ⟨rfl, K8.out.bel⟩

set_option maxHeartbeats 2000000 in
set_option maxRecDepth 100000 in
theorem make_zero (b1 b2 : Bool) (m1 : ByteArray) (hy : enc 0 = .agg #[.bool b2, .string ⟨#[]⟩]) (w : World) :
    Calls Tryz.prog 18 #[.agg #[.bool b1, .string m1], .agg #[.bool b2, .string ⟨#[]⟩]] w (RetB w (.tuple #[.agg #[.bool false, .string ⟨#[]⟩, .bool false, .string ⟨#[]⟩], .int .i64 6])) := by
  have HSG := Lib.hid (fun V => Sign_f hy V)
  rw [show Int.sign 0 = 0 from rfl] at HSG
  have KK := Lib.hid (Kc.start w #[.bool b1, .string m1] #[.bool b2, .string ⟨#[]⟩] #[.bool false, .string ⟨#[]⟩, .bool false, .string ⟨#[]⟩] 23 23 25)
  clear hy
  go_enter Tryz.func18, Tryz.ntmps18
  go_wp2_with fail
  refine (HSG.out _).mono ?_
  rintro e w1 ⟨rfl, hb1⟩
  have K1 := Lib.hid (KK.out.next hb1)
  obtain ⟨t0, t1, t2, t3⟩ := blk4 K1.out.k3
  obtain ⟨f0, f1, f2, f3⟩ := fro4 K1.out.k3
  clear hb1
  go_wp2
  exact bodyPost_ret (v := .tuple #[.agg #[.bool false, .string ⟨#[]⟩, .bool false, .string ⟨#[]⟩], .int .i64 6]) (by simp [results, Tryz.results18, go_sem, t0, t1, t2, t3]) rfl ⟨rfl, by first | exact K1.out.bel | exact below_set4 K1.out.bel (by omega) _ _ _ _⟩

/-- Where the second integer is not zero. -/
theorem make_f {x y : Int} {b1 b2 b3 : Bool} {m1 m2 m3 k3 : ByteArray} (hx : enc x = .agg #[.bool b1, .string m1]) (hy : enc y = .agg #[.bool b2, .string m2]) (hq : Rq (Rat.divInt x y) b3 m3 k3) (h0 : y ≠ 0) (s1 : m1.size ≤ 100000) (s2 : m2.size ≤ 100000) (w : World) (hE : Env w) :
    Calls Tryz.prog 18 #[.agg #[.bool b1, .string m1], .agg #[.bool b2, .string m2]] w (RetB w (.tuple #[.agg #[.bool b3, .string m3, .bool false, .string k3], .int .i64 0])) := by
  rcases Int.lt_or_lt_of_ne h0 with h | h
  · exact make_neg hx hy hq h s1 s2 w hE
  · exact make_pos hx hy hq h s1 s2 w hE
end Go.Proofs.YtahehlajpaoiiaaGreatDoor


/-
  Numbers: the numeral and its value.
-/
namespace Go.Proofs.YtahehlajpaoiiaaGreatDoor
open Go.RowKit

theorem digit_byte {r : Nat} (h : r < 10) : digit10 (UInt8.ofNat (48 + r)) ∧ (UInt8.ofNat (48 + r)).toNat - 48 = r := by
  have e : (UInt8.ofNat (48 + r)).toNat = 48 + r := by simp; omega
  unfold digit10
  rw [e]
  omega

theorem dec_digits (X : Nat) : (∀ b ∈ Lib.decDigits X, digit10 b) ∧ val10 (Lib.decDigits X) = X := by
  induction X using Nat.strongRecOn with
  | _ X ih =>
    by_cases h : X < 10
    · rw [Lib.decDigits, dif_pos h]
      refine ⟨fun b hb => ?_, ?_⟩
      · obtain rfl : b = UInt8.ofNat (48 + X) := by simpa using hb
        exact (digit_byte h).1
      · have := (digit_byte h).2
        rw [val10_cons]
        simp only [val10, List.foldl_nil, List.length_nil, Nat.pow_zero, Nat.mul_one, Nat.add_zero]
        exact this
    · obtain ⟨h1, h2⟩ := ih (X / 10) (by omega)
      have hr : X % 10 < 10 := Nat.mod_lt _ (by omega)
      rw [Lib.decDigits, dif_neg h]
      refine ⟨fun b hb => ?_, ?_⟩
      · rcases List.mem_append.1 hb with hb | hb
        · exact h1 b hb
        · obtain rfl : b = UInt8.ofNat (48 + X % 10) := by simpa using hb
          exact (digit_byte hr).1
      · rw [val10_snoc, h2, (digit_byte hr).2]
        omega

theorem dec_ne (X : Nat) : Lib.decDigits X ≠ [] := by
  intro h
  have h1 := Lib.decDigits_length X
  rw [h] at h1
  have := Lib.nDigits_pos X
  simp at h1
  omega

theorem dec_head (X : Nat) (h0 : 0 < X) : (Lib.decDigits X).head? ≠ some 48 := by
  induction X using Nat.strongRecOn with
  | _ X ih =>
    by_cases h : X < 10
    · rw [Lib.decDigits, dif_pos h]
      intro e
      have e2 : UInt8.ofNat (48 + X) = 48 := by simpa using e
      have e3 := congrArg UInt8.toNat e2
      have e4 : (UInt8.ofNat (48 + X)).toNat = 48 + X := by simp; omega
      rw [e4] at e3
      have : (48 : UInt8).toNat = 48 := rfl
      omega
    · have hi := ih (X / 10) (by omega) (by omega)
      rw [Lib.decDigits, dif_neg h]
      cases e : Lib.decDigits (X / 10) with
      | nil => exact absurd e (dec_ne _)
      | cons b l => rw [e] at hi; simpa using hi

theorem dec_numeral (X : Nat) : Numeral (Lib.decDigits X) := by
  refine ⟨(dec_digits X).1, ?_⟩
  rcases Nat.eq_zero_or_pos X with h | h
  · left; rw [h, Lib.decDigits, dif_pos (by omega)]; rfl
  · exact .inr ⟨dec_ne X, dec_head X h⟩

theorem dec_first (X : Nat) : (Lib.decDigits X).head? ≠ some 45 := by
  intro e
  have h1 : (45 : UInt8) ∈ Lib.decDigits X := List.mem_of_mem_head? e
  have h2 := ((dec_digits X).1 _ h1).1
  have : (45 : UInt8).toNat = 45 := rfl
  omega

theorem cut_plain (X : Nat) : Lib.trimPrefix (Lib.decDigits X) [45] = Lib.decDigits X ∧ Lib.hasPrefix (Lib.decDigits X) [45] = false := by
  have h : Lib.hasPrefix (Lib.decDigits X) [45] = false := by
    have h1 := dec_first X
    unfold Lib.hasPrefix
    cases e : Lib.decDigits X with
    | nil => rfl
    | cons b l =>
      rw [e] at h1
      simp only [List.head?_cons, ne_eq, Option.some.injEq] at h1
      simp only [List.isPrefixOf, Bool.and_true, beq_eq_false_iff_ne, ne_eq]
      exact fun e => h1 e.symm
  refine ⟨?_, h⟩
  unfold Lib.trimPrefix
  rw [h]
  rfl

theorem cut_minus (X : Nat) : Lib.trimPrefix (45 :: Lib.decDigits X) [45] = Lib.decDigits X ∧ Lib.hasPrefix (45 :: Lib.decDigits X) [45] = true := by
  have h : Lib.hasPrefix (45 :: Lib.decDigits X) [45] = true := by simp [Lib.hasPrefix, List.isPrefixOf]
  refine ⟨?_, h⟩
  unfold Lib.trimPrefix
  rw [h]
  rfl

theorem dec_len {X : Nat} (hX : X < 256 ^ 24) : (Lib.decDigits X).length ≤ 1000 := by
  rw [Lib.decDigits_length]
  have h1 : X < 10 ^ (71 + 1) := Nat.lt_of_lt_of_le hX (by decide)
  have := nDigits_le 71 X h1
  omega

end Go.Proofs.YtahehlajpaoiiaaGreatDoor


/-
  The program's reading of an integer, where it refuses.
-/
namespace Go.Proofs.YtahehlajpaoiiaaGreatDoor
open Go.RowKit

theorem enc_nought : enc 0 = .agg #[.bool false, .string ⟨#[]⟩] := by
  unfold enc mag
  rw [show (0 : Int).natAbs = 0 from rfl, magL_zero]
  rfl

theorem ret_zero {w W : World} (err : Int) (hb : Below w.heap.size w W) : RetE w 0 err (.returned (.tuple #[.agg #[.bool false, .string ⟨#[]⟩], .int .i64 err])) W := ⟨false, ⟨#[]⟩, enc_nought, rfl, hb⟩

end Go.Proofs.YtahehlajpaoiiaaGreatDoor


/-
  Whether an integer does not exceed an upper end.
-/
namespace Go.Proofs.YtahehlajpaoiiaaGreatDoor
open Go.RowKit
attribute [local go_sem ↓] Go.wp_at_zero Go.wp_at_succ

theorem blk5 {W : World} {g : Nat} {T : TypeId} {v0 v1 v2 v3 v4 : Value} (h : W.heap[g]? = some (.cells #[v0, v1, v2, v3, v4] T (0, 0))) :
    W.cell? ⟨g, 0, none⟩ = some v0 ∧ W.cell? ⟨g, 1, none⟩ = some v1 ∧ W.cell? ⟨g, 2, none⟩ = some v2 ∧ W.cell? ⟨g, 3, none⟩ = some v3 ∧ W.cell? ⟨g, 4, none⟩ = some v4 := by
  refine ⟨?_, ?_, ?_, ?_, ?_⟩ <;> simp [World.cell?, World.frozen?, h]

theorem cmpZ_lt {x y : Int} (h : x < y) : cmpZ x y = -1 := by unfold cmpZ; simp [h]
theorem cmpZ_gt {x y : Int} (h : y < x) : cmpZ x y = 1 := by unfold cmpZ; rw [if_neg (by omega), if_pos h]
theorem cmpZ_eq0 {x y : Int} (h : x = y) : cmpZ x y = 0 := by subst h; unfold cmpZ; simp

set_option maxHeartbeats 4000000 in
set_option maxRecDepth 100000 in
theorem isAbove_all (c d n : Nat) (oc : Bool) (r : Bool) (hr : r = true ↔ Blw c d oc n 1) (s1 : (mag c).size ≤ 10000) (s2 : (mag d).size ≤ 10000) (s3 : (mag n).size ≤ 10000) (w : World) :
    Calls Tryz.prog 117 #[.agg #[.bool false, .string (mag c), .bool false, .string (mag d), .bool oc], .agg #[.bool false, .string (mag n)]] w (RetB w (.bool r)) := by
  have HM := Lib.hid (fun V => mul_f (z := ((n * d : Nat) : Int)) (enc_mag n) (enc_mag d) (by omega) (by omega) (enc_mag _) (by rw [Int.natCast_mul]) V)
  have HC := Lib.hid (fun V => Compare_f (enc_mag (n * d)) (enc_mag c) V)
  have KK := Lib.hid (Kb.start w #[.bool false, .string (mag c), .bool false, .string (mag d), .bool oc] #[.bool false, .string (mag n)] 88 23).drew
  have hcase : (cmpZ ((n * d : Nat) : Int) (c : Int) = -1 ∧ r = true) ∨ (cmpZ ((n * d : Nat) : Int) (c : Int) = 0 ∧ oc = false ∧ r = true) ∨ (cmpZ ((n * d : Nat) : Int) (c : Int) = 0 ∧ oc = true ∧ r = false) ∨ (cmpZ ((n * d : Nat) : Int) (c : Int) = 1 ∧ r = false) := by
    unfold Blw at hr
    rw [Nat.mul_one] at hr
    rcases Nat.lt_trichotomy (n * d) c with h | h | h
    · exact .inl ⟨cmpZ_lt (Int.ofNat_lt.2 h), hr.2 (.inl h)⟩
    · cases oc
      · exact .inr (.inl ⟨cmpZ_eq0 (by rw [h]), rfl, hr.2 (.inr ⟨h, rfl⟩)⟩)
      · refine .inr (.inr (.inl ⟨cmpZ_eq0 (by rw [h]), rfl, ?_⟩))
        cases r
        · rfl
        · rcases hr.1 rfl with h1 | ⟨_, h1⟩
          · omega
          · cases h1
    · refine .inr (.inr (.inr ⟨cmpZ_gt (Int.ofNat_lt.2 h), ?_⟩))
      cases r
      · rfl
      · rcases hr.1 rfl with h1 | ⟨h1, _⟩ <;> omega
  obtain ⟨p0, p1, p2, p3, p4⟩ := blk5 KK.out.k1
  obtain ⟨p5, p6, _, _⟩ := blk_cells KK.out.k2
  generalize cmpZ ((n * d : Nat) : Int) (c : Int) = z at *
  generalize mag (n * d) = mnd at *
  generalize mag n = mn at *
  generalize mag c = mc at *
  generalize mag d = md at *
  clear hr
  rcases hcase with ⟨rfl, rfl⟩ | ⟨rfl, rfl, rfl⟩ | ⟨rfl, rfl, rfl⟩ | ⟨rfl, rfl⟩
  all_goals
    go_enter Tryz.func117, Tryz.ntmps117
    go_wp2_with fail
    go_region_held3 (fun w' => w'.cell? ⟨w.heap.size, 0, none⟩ = some (.bool false) ∧ w'.cell? ⟨w.heap.size, 1, none⟩ = some (.string mc) ∧ w'.cell? ⟨w.heap.size, 2, none⟩ = some (.bool false) ∧ w'.cell? ⟨w.heap.size, 3, none⟩ = some (.string md) ∧ w'.cell? ⟨w.heap.size + 1, 0, none⟩ = some (.bool false) ∧ w'.cell? ⟨w.heap.size + 1, 1, none⟩ = some (.string mn))
      (first
        | exact ⟨r0, r1, r2, r3, r5, r6⟩
        | exact ⟨q0, q1, q2, q3, q5, q6⟩
        | exact ⟨p0, p1, p2, p3, p5, p6⟩
        | go_keep)
      (first
        | (go_at_call 79; (with_reducible refine (HM.out _).mono ?_); rintro e w1 ⟨rfl, hb1⟩; have K1 := Lib.hid (KK.out.next hb1); obtain ⟨q0, q1, q2, q3, q4⟩ := blk5 K1.out.k1; obtain ⟨q5, q6, _, _⟩ := blk_cells K1.out.k2)
        | (go_at_call 83; (with_reducible refine (HC.out _).mono ?_); rintro e w2 ⟨rfl, hb2⟩; have K2 := Lib.hid (K1.out.next hb2); obtain ⟨r0, r1, r2, r3, r4⟩ := blk5 K2.out.k1; obtain ⟨r5, r6, _, _⟩ := blk_cells K2.out.k2))
    go_wp2
    go_ret
    exact ⟨rfl, K2.out.bel⟩
end Go.Proofs.YtahehlajpaoiiaaGreatDoor


/-
  The simplest fraction between two ends: the state of the program.
-/
namespace Go.Proofs.YtahehlajpaoiiaaGreatDoor
open Go.RowKit
attribute [local go_sem ↓] Go.wp_at_zero Go.wp_at_succ

/-- Four blocks that the call made, one behind the other: two ends and two results. -/
structure Kd (w : World) (c1 c2 c3 c4 : Array Value) (wx : World) : Prop where
  k1 : wx.heap[w.heap.size]? = some (.cells c1 88 (0, 0))
  k2 : wx.heap[w.heap.size + 1]? = some (.cells c2 88 (0, 0))
  k3 : wx.heap[w.heap.size + 2]? = some (.cells c3 23 (0, 0))
  k4 : wx.heap[w.heap.size + 3]? = some (.cells c4 23 (0, 0))
  sz : w.heap.size + 4 ≤ wx.heap.size
  bel : Below w.heap.size w wx

section
variable {w w1 w2 : World} {c1 c2 c3 c4 : Array Value}
theorem Kd.start (w : World) (c1 c2 c3 c4 : Array Value) : Kd w c1 c2 c3 c4 ((((w.alloc (.cells c1 88)).alloc (.cells c2 88)).alloc (.cells c3 23)).alloc (.cells c4 23)) := by
  obtain ⟨k1, k2, k3⟩ := heap_three_all w (.cells c1 88) (.cells c2 88) (.cells c3 23)
  have hb := below_new (((w.alloc (.cells c1 88)).alloc (.cells c2 88)).alloc (.cells c3 23)) (.cells c4 23)
  have h4 := heap_one (((w.alloc (.cells c1 88)).alloc (.cells c2 88)).alloc (.cells c3 23)) (.cells c4 23)
  refine ⟨(hb.block _ (by simp <;> omega)).trans k1, (hb.block _ (by simp <;> omega)).trans k2, (hb.block _ (by simp)).trans k3, ?_, by simp, ((((Below.refl _ _).alloc (Nat.le_refl _) _).alloc (by simp) _).alloc (by simp <;> omega) _).alloc (by simp <;> omega) _⟩
  simpa using h4
theorem Kd.next (h : Kd w c1 c2 c3 c4 w1) (hb : Below w1.heap.size w1 w2) : Kd w c1 c2 c3 c4 w2 := by
  have hs := h.sz
  refine ⟨(hb.block _ (by omega)).trans h.k1, (hb.block _ (by omega)).trans h.k2, (hb.block _ (by omega)).trans h.k3, (hb.block _ (by omega)).trans h.k4, ?_, h.bel.trans (hb.mono h.bel.size)⟩
  have := hb.size
  omega
theorem Kd.set3 {x0 x1 : Value} (h : Kd w c1 c2 #[x0, x1] c4 w1) (x y : Value) : Kd w c1 c2 #[x, y] c4 ((w1.setCell ⟨w.heap.size + 2, 0, none⟩ x).setCell ⟨w.heap.size + 2, 1, none⟩ y) :=
  ⟨(qoth (by omega) x y).trans h.k1, (qoth (by omega) x y).trans h.k2, qset h.k3 x y, (qoth (by omega) x y).trans h.k4, by rw [qsz]; exact h.sz, below_set2 h.bel (by omega) _ _⟩
theorem Kd.set4 {x0 x1 : Value} (h : Kd w c1 c2 c3 #[x0, x1] w1) (x y : Value) : Kd w c1 c2 c3 #[x, y] ((w1.setCell ⟨w.heap.size + 3, 0, none⟩ x).setCell ⟨w.heap.size + 3, 1, none⟩ y) :=
  ⟨(qoth (by omega) x y).trans h.k1, (qoth (by omega) x y).trans h.k2, (qoth (by omega) x y).trans h.k3, qset h.k4 x y, by rw [qsz]; exact h.sz, below_set2 h.bel (by omega) _ _⟩
end

/-- A block behind the four, that lies somewhere. -/
structure Bs (w : World) (g : Nat) (cs : Array Value) (wx : World) : Prop where
  k : wx.heap[g]? = some (.cells cs 23 (0, 0))
  lt : g < wx.heap.size
  far : w.heap.size + 4 ≤ g
section
variable {w w1 w2 : World} {g : Nat} {cs : Array Value}
theorem Bs.next (h : Bs w g cs w1) (hb : Below w1.heap.size w1 w2) : Bs w g cs w2 := ⟨(hb.block _ h.lt).trans h.k, Nat.lt_of_lt_of_le h.lt hb.size, h.far⟩
theorem Bs.new (w1 : World) (cs : Array Value) (h : w.heap.size + 4 ≤ w1.heap.size) : Bs w w1.heap.size cs (w1.alloc (.cells cs 23)) := ⟨heap_one _ _, by simp, h⟩
theorem Bs.set3 (h : Bs w g cs w1) (x y : Value) : Bs w g cs ((w1.setCell ⟨w.heap.size + 2, 0, none⟩ x).setCell ⟨w.heap.size + 2, 1, none⟩ y) :=
  ⟨(qoth (by have := h.far; omega) x y).trans h.k, by rw [qsz]; exact h.lt, h.far⟩
theorem Bs.set4 (h : Bs w g cs w1) (x y : Value) : Bs w g cs ((w1.setCell ⟨w.heap.size + 3, 0, none⟩ x).setCell ⟨w.heap.size + 3, 1, none⟩ y) :=
  ⟨(qoth (by have := h.far; omega) x y).trans h.k, by rw [qsz]; exact h.lt, h.far⟩
end

theorem Kd.setFar {w w1 : World} {c1 c2 c3 c4 : Array Value} {g : Nat} (h : Kd w c1 c2 c3 c4 w1) (hg : w.heap.size + 4 ≤ g) (x y : Value) : Kd w c1 c2 c3 c4 ((w1.setCell ⟨g, 0, none⟩ x).setCell ⟨g, 1, none⟩ y) :=
  ⟨(qoth (by omega) x y).trans h.k1, (qoth (by omega) x y).trans h.k2, (qoth (by omega) x y).trans h.k3, (qoth (by omega) x y).trans h.k4, by rw [qsz]; exact h.sz, below_set2 h.bel (by omega) _ _⟩
theorem Bs.setOther {w w1 : World} {g g' : Nat} {cs : Array Value} (h : Bs w g cs w1) (hne : g ≠ g') (x y : Value) : Bs w g cs ((w1.setCell ⟨g', 0, none⟩ x).setCell ⟨g', 1, none⟩ y) :=
  ⟨(qoth hne x y).trans h.k, by rw [qsz]; exact h.lt, h.far⟩
theorem Bs.setSelf {w w1 : World} {g : Nat} {x0 x1 : Value} (h : Bs w g #[x0, x1] w1) (x y : Value) : Bs w g #[x, y] ((w1.setCell ⟨g, 0, none⟩ x).setCell ⟨g, 1, none⟩ y) :=
  ⟨qset h.k x y, by rw [qsz]; exact h.lt, h.far⟩
theorem Bs.third (w w1 : World) (c6 c7 c9 : Array Value) (h : w.heap.size + 4 ≤ w1.heap.size) : Bs w (w1.heap.size + 1 + 1) c9 (((w1.alloc (.cells c6 23)).alloc (.cells c7 23)).alloc (.cells c9 23)) :=
  ⟨heap_three _ _ _ _, by simp, by omega⟩
theorem Bs.second (w w1 : World) (c6 c7 c9 : Array Value) (h : w.heap.size + 4 ≤ w1.heap.size) : Bs w (w1.heap.size + 1) c7 (((w1.alloc (.cells c6 23)).alloc (.cells c7 23)).alloc (.cells c9 23)) :=
  ⟨((below_new _ _).block _ (by simp)).trans (heap_two _ _ _), by simp <;> omega, by omega⟩
theorem Bs.first (w w1 : World) (c6 c7 c9 : Array Value) (h : w.heap.size + 4 ≤ w1.heap.size) : Bs w w1.heap.size c6 (((w1.alloc (.cells c6 23)).alloc (.cells c7 23)).alloc (.cells c9 23)) :=
  (Bs.new w1 c6 h).next (below_two _ _ _)

theorem below_three (w1 : World) (o1 o2 o3 : Obj) : Below w1.heap.size w1 (((w1.alloc o1).alloc o2).alloc o3) := (((Below.refl _ _).alloc (Nat.le_refl _) _).alloc (by simp) _).alloc (by simp <;> omega) _

/-- What a call hands back: the simplest fraction. -/
def RetSm (w : World) (a b : Nat) (oa : Bool) (c d : Nat) (oc : Bool) (e : Ending) (w' : World) : Prop :=
  ∃ n m, e = .returned (.tuple #[.agg #[.bool false, .string (mag n)], .agg #[.bool false, .string (mag m)]]) ∧ Simp a b oa c d oc n m ∧ Below w.heap.size w w'

/-- What is asked of the arguments of a call that is not as far from the end. -/
def Ih (F : Nat) : Prop := ∀ (a b : Nat) (oa : Bool) (c d : Nat) (oc : Bool) (p q : Nat) (w : World), simpFuel a b c d < F → 0 < b → Inn a b oa c d oc p q → (mag a).size ≤ 5000 → (mag b).size ≤ 5000 → (mag c).size ≤ 5000 → (mag d).size ≤ 5000 → (mag p).size ≤ 5000 → (mag q).size ≤ 5000 → Env w →
  Calls Tryz.prog 87 #[.agg #[.bool false, .string (mag a), .bool false, .string (mag b), .bool oa], .agg #[.bool false, .string (mag c), .bool false, .string (mag d), .bool oc]] w (RetSm w a b oa c d oc)

/-- One of two comes up. -/
theorem wpLate_two {P : Program} {ops : Array Oper} {Q : Exit → Act → World → Prop} {md : Region.Mode} {S : World → Prop} {Ls : List Nat} {i j : Nat} {o o' : Oper} {fuel : Nat} {listed : Array Bool} {a : Act} {w : World} (hr : Region.ready md ops listed = [i, j]) (ho : ops[i]? = some o) (ho' : ops[j]? = some o')
    (h : ∀ K' : Act → World → Prop, Shut (∀ a' w', (Ls.contains i = true ∨ (S w → S w')) → wpLate P md ops Q S Ls fuel (listed.setIfInBounds i true) a' w' → K' a' w') → if Region.wanted o (yielded ops a.tmps) = true then Oper.wp P o a w K' Q else K' (a.put o.dst undef) w)
    (h' : ∀ K' : Act → World → Prop, Shut (∀ a' w', (Ls.contains j = true ∨ (S w → S w')) → wpLate P md ops Q S Ls fuel (listed.setIfInBounds j true) a' w' → K' a' w') → if Region.wanted o' (yielded ops a.tmps) = true then Oper.wp P o' a w K' Q else K' (a.put o'.dst undef) w) :
    wpLate P md ops Q S Ls (fuel + 1) listed a w :=
  ⟨fun h0 => (by rw [h0] at hr; cases hr), fun k hk => by
    rw [hr] at hk
    have hk' : k = i ∨ k = j := by simpa using hk
    rcases hk' with rfl | rfl
    · exact wpOp_step ho (fun K' hK => h K' (fun a w hS hW => hK a w ⟨hS, hW⟩))
    · exact wpOp_step ho' (fun K' hK => h' K' (fun a w hS hW => hK a w ⟨hS, hW⟩))⟩

/-- The state ahead of the recursion. -/
structure R7 (w : World) (c1 c2 c6 c7 c10 : Array Value) (g6 g7 g10 : Nat) (wx : World) : Prop where
  k : Kd w c1 c2 #[.bool false, .string ⟨#[]⟩] #[.bool false, .string ⟨#[]⟩] wx
  b6 : Bs w g6 c6 wx
  b7 : Bs w g7 c7 wx
  b10 : Bs w g10 c10 wx
theorem R7.late {w W : World} {c1 c2 c6 c7 : Array Value} {g6 g7 : Nat} (k : Kd w c1 c2 #[.bool false, .string ⟨#[]⟩] #[.bool false, .string ⟨#[]⟩] W) (b6 : Bs w g6 c6 W) (b7 : Bs w g7 c7 W) (c10 : Array Value) : R7 w c1 c2 c6 c7 c10 g6 g7 W.heap.size (W.alloc (.cells c10 23)) :=
  ⟨k.next (below_new _ _), b6.next (below_new _ _), b7.next (below_new _ _), Bs.new W c10 k.sz⟩
theorem R7.early {w W : World} {c1 c2 c6 c7 : Array Value} {g6 g7 g10 : Nat} {x0 x1 : Value} (k : Kd w c1 c2 #[.bool false, .string ⟨#[]⟩] #[.bool false, .string ⟨#[]⟩] W) (b6 : Bs w g6 c6 W) (b7 : Bs w g7 c7 W) (b10 : Bs w g10 #[x0, x1] W) (h6 : g6 < g10) (h7 : g7 < g10) (x y : Value) : R7 w c1 c2 c6 c7 #[x, y] g6 g7 g10 ((W.setCell ⟨g10, 0, none⟩ x).setCell ⟨g10, 1, none⟩ y) :=
  ⟨k.setFar b10.far x y, b6.setOther (by omega) x y, b7.setOther (by omega) x y, b10.setSelf x y⟩

end Go.Proofs.YtahehlajpaoiiaaGreatDoor
