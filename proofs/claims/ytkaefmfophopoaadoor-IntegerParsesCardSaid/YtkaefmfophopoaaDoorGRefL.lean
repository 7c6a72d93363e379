import Derived.Test.YtkaefmfophopoaaDoorGRefG
import Derived.Test.YtkaefmfophopoaaDoorGIntS

/-
  The reference's sum, difference, negation and absolute value of integers.
-/
namespace Go.Proofs.YtkaefmfophopoaaDoor
open Go.RowKit
attribute [local go_sem ↓] Go.wp_at_zero Go.wp_at_succ

theorem Kp.drew {w : World} {T : TypeId} {v0 v1 v2 v3 : Value} {o3 : Obj} {w1 : World} (h : Kp w T v0 v1 v2 v3 o3 w1) : Kp w T v0 v1 v2 v3 o3 w1.drew :=
  h.next (Below.refl _ _).drew

theorem sgn_lt (na : Bool) {X Y : Nat} (h : X < Y) : sgn (!na) (Y - X) = sgn na X + sgn (!na) Y := sgn_add_not2 na (Nat.le_of_lt h)

set_option maxHeartbeats 4000000 in
set_option maxRecDepth 100000 in
theorem refAdd_pair (na nb : Bool) (a b : ByteArray) (ha : a.size ≤ 100000) (hb : b.size ≤ 100000) (w : World) :
    Calls Tryd.prog 41 #[.agg #[.bool na, .string a], .agg #[.bool nb, .string b]] w (RetZ w (sgn na (bval a) + sgn nb (bval b))) := by
  have HU1 := Lib.hid (fun V => digits_any na a V (by omega))
  have HU2 := Lib.hid (fun V => digits_any nb b V (by omega))
  have K0 := Lib.hid (Kp.start w 23 (.bool na) (.string a) (.bool nb) (.string b) (.cells #[.bool false, .string ⟨#[]⟩] 23))
  have hne1 : ¬ (w.heap.size = w.heap.size + 1 + 1) := by omega
  have hne2 : ¬ (w.heap.size + 1 + 1 = w.heap.size) := by omega
  by_cases hs : na = nb
  · subst hs
    go_enter Tryd.func41, Tryd.ntmps41
    go_wp2_with fail
    go_region_held3 (fun w' => w'.cell? ⟨w.heap.size, 0, none⟩ = some (.bool na) ∧ w'.cell? ⟨w.heap.size, 1, none⟩ = some (.string a) ∧ w'.cell? ⟨w.heap.size + 1, 0, none⟩ = some (.bool na) ∧ w'.cell? ⟨w.heap.size + 1, 1, none⟩ = some (.string b))
      (first
        | go_keep
        | exact ⟨K2.out.a0, K2.out.a1, K2.out.a2, K2.out.a3⟩
        | exact ⟨K1.out.a0, K1.out.a1, K1.out.a2, K1.out.a3⟩)
      (first
        | (go_at_call 17; (with_reducible refine (HU1.out _).mono ?_); rintro e w1 ⟨A1, n1, c1, hn1, rfl, hd1, hb1⟩; have K1 := Lib.hid (K0.out.drew.next hb1))
        | (go_at_call 17; (with_reducible refine (HU2.out _).mono ?_); rintro e w2 ⟨A2, n2, c2, hn2, rfl, hd2, hb2⟩; have K2 := Lib.hid (K1.out.next hb2)))
    have HD1 := Lib.hid (hd1.below hb2)
    have HD2 := Lib.hid hd2
    have hn1' : n1 ≤ 100000 := by omega
    have hn2' : n2 ≤ 100000 := by omega
    have q0 := K2.out.a0
    have q2 := K2.out.a2
    clear hd1 hd2 hb1 hb2 K1 K0 hn1 hn2
    generalize bval a = X at *
    generalize bval b = Y at *
    go_wp2_with fail
    go_region_held3 (fun w' => w'.cell? ⟨w.heap.size, 0, none⟩ = some (.bool na))
      (first
        | go_keep
        | exact K5.out.a0
        | exact K4.out.a0)
      (first
        | (go_at_call 55; refine (sum_any A1 A2 n1 n2 c1 c2 X Y _ ?_ ?_ ?_ ?_).mono ?_; (omega); (omega); (exact (HD1.out.drew)); (exact (HD2.out.drew)); rintro e w4 ⟨A3, n3, c3, hn3, rfl, hd3, hb4⟩; have K4 := Lib.hid (K2.out.drew.next hb4))
        | (go_at_call 16; refine (number_any na A3 n3 c3 (X + Y) _ ?_ ?_).mono ?_; (omega); (exact hd3); rintro e w5 ⟨rfl, hb5⟩; have K5 := Lib.hid (K4.out.next hb5); obtain ⟨bz, mz, hbm⟩ := enc_form (sgn na (X + Y)); rw [hbm]; have HBM := Lib.hid hbm; clear hbm; obtain ⟨p0, p1, g0, g1⟩ := K5.out.res))
    go_wp2
    refine bodyPost_ret (v := .agg #[.bool bz, .string mz]) (by simp [results, Tryd.results41, go_sem, p0, p1]) rfl ⟨?_, K5.out.stored _ _⟩
    rw [← HBM.out]
    exact congrArg (fun z => Ending.returned (enc z)) (sgn_add_same na X Y)
  · obtain rfl : nb = !na := by cases na <;> cases nb <;> first | rfl | exact absurd rfl hs
    clear hs
    go_enter Tryd.func41, Tryd.ntmps41
    go_wp2_with fail
    go_region_held3 (fun w' => w'.cell? ⟨w.heap.size, 0, none⟩ = some (.bool na) ∧ w'.cell? ⟨w.heap.size, 1, none⟩ = some (.string a) ∧ w'.cell? ⟨w.heap.size + 1, 0, none⟩ = some (.bool (!na)) ∧ w'.cell? ⟨w.heap.size + 1, 1, none⟩ = some (.string b))
      (first
        | go_keep
        | exact ⟨K2.out.a0, K2.out.a1, K2.out.a2, K2.out.a3⟩
        | exact ⟨K1.out.a0, K1.out.a1, K1.out.a2, K1.out.a3⟩)
      (first
        | (go_at_call 17; (with_reducible refine (HU1.out _).mono ?_); rintro e w1 ⟨A1, n1, c1, hn1, rfl, hd1, hb1⟩; have K1 := Lib.hid (K0.out.drew.next hb1))
        | (go_at_call 17; (with_reducible refine (HU2.out _).mono ?_); rintro e w2 ⟨A2, n2, c2, hn2, rfl, hd2, hb2⟩; have K2 := Lib.hid (K1.out.next hb2)))
    have HD1 := Lib.hid (hd1.below hb2)
    have HD2 := Lib.hid hd2
    have hn1' : n1 ≤ 100000 := by omega
    have hn2' : n2 ≤ 100000 := by omega
    have q0 := K2.out.a0
    have q2 := K2.out.a2
    clear hd1 hd2 hb1 hb2 K1 K0 hn1 hn2
    generalize bval a = X at *
    generalize bval b = Y at *
    have hord := fun V (h1 : Dg V .i64 256 A1 n1 X) (h2 : Dg V .i64 256 A2 n2 Y) => order_any A1 A2 n1 n2 c1 c2 X Y V (by omega) (by omega) h1 h2
    by_cases hlt : X < Y
    · rw [ord_lt hlt] at hord
      have HO := Lib.hid hord
      clear hord
      go_wp2_with fail
      refine (HO.out _ HD1.out HD2.out).mono ?_
      rintro e w3 ⟨rfl, rfl⟩
      go_wp2_with fail
      go_region_held3 (fun w' => w'.cell? ⟨w.heap.size + 1, 0, none⟩ = some (.bool (!na)))
        (first
          | go_keep
          | exact K5.out.a2
          | exact K4.out.a2)
        (first
          | (go_at_call 69; refine (difference_any A2 A1 n2 n1 c2 c1 Y X _ ?_ ?_ ?_ ?_ ?_).mono ?_; (omega); (omega); (exact (HD2.out.drew)); (exact (HD1.out.drew)); (omega); rintro e w4 ⟨A3, n3, c3, hn3, rfl, hd3, hb4⟩; have K4 := Lib.hid (K2.out.drew.next hb4))
          | (go_at_call 16; refine (number_any (!na) A3 n3 c3 (Y - X) _ ?_ ?_).mono ?_; (omega); (exact hd3); rintro e w5 ⟨rfl, hb5⟩; have K5 := Lib.hid (K4.out.next hb5); obtain ⟨bz, mz, hbm⟩ := enc_form (sgn (!na) (Y - X)); rw [hbm]; have HBM := Lib.hid hbm; clear hbm; obtain ⟨p0, p1, g0, g1⟩ := K5.out.res))
      go_wp2
      refine bodyPost_ret (v := .agg #[.bool bz, .string mz]) (by simp [results, Tryd.results41, go_sem, p0, p1]) rfl ⟨?_, K5.out.stored _ _⟩
      rw [← HBM.out]
      exact congrArg (fun z => Ending.returned (enc z)) (sgn_lt na hlt)
    · obtain ⟨o, hoo, ho⟩ : ∃ o : Int, ord X Y = o ∧ 0 ≤ o := ⟨_, rfl, by unfold ord; rw [if_neg hlt]; split <;> omega⟩
      rw [hoo] at hord
      have HO := Lib.hid hord
      clear hord hoo
      go_wp2_with fail
      refine (HO.out _ HD1.out HD2.out).mono ?_
      rintro e w3 ⟨rfl, rfl⟩
      go_wp2_with fail
      go_region_held3 (fun w' => w'.cell? ⟨w.heap.size, 0, none⟩ = some (.bool na))
        (first
          | go_keep
          | exact K5.out.a0
          | exact K4.out.a0)
        (first
          | (go_at_call 69; refine (difference_any A1 A2 n1 n2 c1 c2 X Y _ ?_ ?_ ?_ ?_ ?_).mono ?_; (omega); (omega); (exact (HD1.out.drew)); (exact (HD2.out.drew)); (omega); rintro e w4 ⟨A3, n3, c3, hn3, rfl, hd3, hb4⟩; have K4 := Lib.hid (K2.out.drew.next hb4))
          | (go_at_call 16; refine (number_any na A3 n3 c3 (X - Y) _ ?_ ?_).mono ?_; (omega); (exact hd3); rintro e w5 ⟨rfl, hb5⟩; have K5 := Lib.hid (K4.out.next hb5); obtain ⟨bz, mz, hbm⟩ := enc_form (sgn na (X - Y)); rw [hbm]; have HBM := Lib.hid hbm; clear hbm; obtain ⟨p0, p1, g0, g1⟩ := K5.out.res))
      go_wp2
      refine bodyPost_ret (v := .agg #[.bool bz, .string mz]) (by simp [results, Tryd.results41, go_sem, p0, p1]) rfl ⟨?_, K5.out.stored _ _⟩
      rw [← HBM.out]
      exact congrArg (fun z => Ending.returned (enc z)) (sgn_add_not na (by omega))
end Go.Proofs.YtkaefmfophopoaaDoor


/-
  The reference's negation, absolute value and difference of integers, and its contracts of integers as values.
-/
namespace Go.Proofs.YtkaefmfophopoaaDoor
open Go.RowKit
attribute [local go_sem ↓] Go.wp_at_zero Go.wp_at_succ

set_option maxHeartbeats 1000000 in
set_option maxRecDepth 100000 in
theorem refNegate_pair (na : Bool) (a : ByteArray) (w : World) :
    Calls Tryd.prog 43 #[.agg #[.bool na, .string a]] w (RetB w (.agg #[.bool (!na && decide (0 < a.size)), .string a])) := by
  by_cases h : 0 < a.size
  all_goals
    cases na
    all_goals
      go_enter Tryd.func43, Tryd.ntmps43
      go_wp2
      refine bodyPost_ret (v := .agg #[.bool _, .string a]) (by simp [results, Tryd.results43, go_sem]; rfl) rfl ⟨?_, ((Below.refl _ _).alloc (Nat.le_refl _) _).alloc (by simp) _⟩
      simp [h]

set_option maxHeartbeats 1000000 in
set_option maxRecDepth 100000 in
theorem refAbs_pair (na : Bool) (a : ByteArray) (w : World) :
    Calls Tryd.prog 26 #[.agg #[.bool na, .string a]] w (RetB w (.agg #[.bool false, .string a])) := by
  go_enter Tryd.func26, Tryd.ntmps26
  go_wp2
  refine bodyPost_ret (v := .agg #[.bool false, .string a]) (by simp [results, Tryd.results26, go_sem]) rfl ⟨rfl, ((Below.refl _ _).alloc (Nat.le_refl _) _).alloc (by simp) _⟩

theorem refNegate_f {x : Int} {b : Bool} {m : ByteArray} {c : Bool} {k : ByteArray} (hx : enc x = .agg #[.bool b, .string m]) (hz : enc (-x) = .agg #[.bool c, .string k]) (w : World) :
    Calls Tryd.prog 43 #[.agg #[.bool b, .string m]] w (RetB w (.agg #[.bool c, .string k])) := by
  have h := refNegate_pair b m w
  rw [← enc_neg hx, hz] at h
  exact h
theorem refAbs_f {x : Int} {b : Bool} {m : ByteArray} {c : Bool} {k : ByteArray} (hx : enc x = .agg #[.bool b, .string m]) (hz : enc (x.natAbs : Int) = .agg #[.bool c, .string k]) (w : World) :
    Calls Tryd.prog 26 #[.agg #[.bool b, .string m]] w (RetB w (.agg #[.bool c, .string k])) := by
  have h := refAbs_pair b m w
  rw [← enc_abs hx, hz] at h
  exact h

section
variable {x y z : Int} {b1 b2 b3 : Bool} {m1 m2 m3 : ByteArray} (hx : enc x = .agg #[.bool b1, .string m1]) (hy : enc y = .agg #[.bool b2, .string m2]) (s1 : m1.size ≤ 100000) (s2 : m2.size ≤ 100000) (hz : enc z = .agg #[.bool b3, .string m3])
include hx hy s1 s2 hz

theorem refAdd_f (e : z = x + y) (w : World) : Calls Tryd.prog 41 #[.agg #[.bool b1, .string m1], .agg #[.bool b2, .string m2]] w (RetB w (.agg #[.bool b3, .string m3])) := by
  subst e
  have h := refAdd_pair b1 b2 m1 m2 s1 s2 w
  rw [enc_sgn hx, enc_sgn hy] at h
  exact zf2 hz h

theorem refMul_f (e : z = x * y) (w : World) : Calls Tryd.prog 42 #[.agg #[.bool b1, .string m1], .agg #[.bool b2, .string m2]] w (RetB w (.agg #[.bool b3, .string m3])) := by
  subst e
  have p1 := (enc_parts hx).2
  have p2 := (enc_parts hy).2
  have h := refMul_any x y (by rw [← p1]; exact s1) (by rw [← p2]; exact s2) w
  rw [hx, hy] at h
  exact zf2 hz h

set_option maxHeartbeats 2000000 in
set_option maxRecDepth 100000 in
theorem refSub_f (e : z = x - y) (w : World) : Calls Tryd.prog 56 #[.agg #[.bool b1, .string m1], .agg #[.bool b2, .string m2]] w (RetB w (.agg #[.bool b3, .string m3])) := by
  obtain ⟨b4, m4, h4⟩ := enc_form (-y)
  have HN := Lib.hid (fun V => refNegate_f hy h4 V)
  have hsz : m4.size ≤ 100000 := by
    have a1 := (enc_parts hy).2
    have a2 := (enc_parts h4).2
    rw [Int.natAbs_neg] at a2
    rw [a2, ← a1]
    exact s2
  have HA := Lib.hid (fun V => refAdd_f hx h4 s1 hsz hz (by omega) V)
  have K0 := Lib.hid (Kp.start w 23 (.bool b1) (.string m1) (.bool b2) (.string m2) (.cells #[.bool false, .string ⟨#[]⟩] 23))
  have hne1 : ¬ (w.heap.size = w.heap.size + 1 + 1) := by omega
  have hne2 : ¬ (w.heap.size + 1 + 1 = w.heap.size) := by omega
  clear hx hy hz h4 s1 s2 e hsz
  go_enter Tryd.func56, Tryd.ntmps56
  go_wp2_with fail
  go_region_held3 (fun w' => w'.cell? ⟨w.heap.size, 0, none⟩ = some (.bool b1) ∧ w'.cell? ⟨w.heap.size, 1, none⟩ = some (.string m1) ∧ w'.cell? ⟨w.heap.size + 1, 0, none⟩ = some (.bool b2) ∧ w'.cell? ⟨w.heap.size + 1, 1, none⟩ = some (.string m2))
    (first
      | go_keep
      | exact ⟨K2.out.a0, K2.out.a1, K2.out.a2, K2.out.a3⟩
      | exact ⟨K1.out.a0, K1.out.a1, K1.out.a2, K1.out.a3⟩)
    (first
      | (go_at_call 43; (with_reducible refine (HN.out _).mono ?_); rintro e w1 ⟨rfl, hb1⟩; have K1 := Lib.hid (K0.out.drew.next hb1))
      | (go_at_call 41; (with_reducible refine (HA.out _).mono ?_); rintro e w2 ⟨rfl, hb2⟩; have K2 := Lib.hid (K1.out.next hb2); obtain ⟨p0, p1, g0, g1⟩ := K2.out.res))
  go_wp2
  refine bodyPost_ret (v := .agg #[.bool b3, .string m3]) (by simp [results, Tryd.results56, go_sem, p0, p1]) rfl ⟨rfl, K2.out.stored _ _⟩
end
end Go.Proofs.YtkaefmfophopoaaDoor
