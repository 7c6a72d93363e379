/-
  The reference's negation, absolute value and difference of integers, and its contracts of integers as values.
-/
import Derived.Test.YtoolljoejioigaaRefK
namespace Go.Proofs.Ytoolljoejioigaa
open Go.RowKit
attribute [local go_sem ↓] Go.wp_at_zero Go.wp_at_succ

set_option maxHeartbeats 1000000 in
set_option maxRecDepth 100000 in
theorem refNegate_pair (na : Bool) (a : ByteArray) (w : World) :
    Calls Try.prog 31 #[.agg #[.bool na, .string a]] w (RetB w (.agg #[.bool (!na && decide (0 < a.size)), .string a])) := by
  by_cases h : 0 < a.size
  all_goals
    cases na
    all_goals
      go_enter Try.func31, Try.ntmps31
      go_wp2
      refine bodyPost_ret (v := .agg #[.bool _, .string a]) (by simp [results, Try.results31, go_sem]; rfl) rfl ⟨?_, ((Below.refl _ _).alloc (Nat.le_refl _) _).alloc (by simp) _⟩
      simp [h]

set_option maxHeartbeats 1000000 in
set_option maxRecDepth 100000 in
theorem refAbs_pair (na : Bool) (a : ByteArray) (w : World) :
    Calls Try.prog 33 #[.agg #[.bool na, .string a]] w (RetB w (.agg #[.bool false, .string a])) := by
  go_enter Try.func33, Try.ntmps33
  go_wp2
  refine bodyPost_ret (v := .agg #[.bool false, .string a]) (by simp [results, Try.results33, go_sem]) rfl ⟨rfl, ((Below.refl _ _).alloc (Nat.le_refl _) _).alloc (by simp) _⟩

theorem refNegate_f {x : Int} {b : Bool} {m : ByteArray} {c : Bool} {k : ByteArray} (hx : enc x = .agg #[.bool b, .string m]) (hz : enc (-x) = .agg #[.bool c, .string k]) (w : World) :
    Calls Try.prog 31 #[.agg #[.bool b, .string m]] w (RetB w (.agg #[.bool c, .string k])) := by
  have h := refNegate_pair b m w
  rw [← enc_neg hx, hz] at h
  exact h
theorem refAbs_f {x : Int} {b : Bool} {m : ByteArray} {c : Bool} {k : ByteArray} (hx : enc x = .agg #[.bool b, .string m]) (hz : enc (x.natAbs : Int) = .agg #[.bool c, .string k]) (w : World) :
    Calls Try.prog 33 #[.agg #[.bool b, .string m]] w (RetB w (.agg #[.bool c, .string k])) := by
  have h := refAbs_pair b m w
  rw [← enc_abs hx, hz] at h
  exact h

section
variable {x y z : Int} {b1 b2 b3 : Bool} {m1 m2 m3 : ByteArray} (hx : enc x = .agg #[.bool b1, .string m1]) (hy : enc y = .agg #[.bool b2, .string m2]) (s1 : m1.size ≤ 100000) (s2 : m2.size ≤ 100000) (hz : enc z = .agg #[.bool b3, .string m3])
include hx hy s1 s2 hz

theorem refAdd_f (e : z = x + y) (w : World) : Calls Try.prog 28 #[.agg #[.bool b1, .string m1], .agg #[.bool b2, .string m2]] w (RetB w (.agg #[.bool b3, .string m3])) := by
  subst e
  have h := refAdd_pair b1 b2 m1 m2 s1 s2 w
  rw [enc_sgn hx, enc_sgn hy] at h
  exact zf2 hz h

theorem refMul_f (e : z = x * y) (w : World) : Calls Try.prog 35 #[.agg #[.bool b1, .string m1], .agg #[.bool b2, .string m2]] w (RetB w (.agg #[.bool b3, .string m3])) := by
  subst e
  have p1 := (enc_parts hx).2
  have p2 := (enc_parts hy).2
  have h := refMul_any x y (by rw [← p1]; exact s1) (by rw [← p2]; exact s2) w
  rw [hx, hy] at h
  exact zf2 hz h

set_option maxHeartbeats 2000000 in
set_option maxRecDepth 100000 in
theorem refSub_f (e : z = x - y) (w : World) : Calls Try.prog 29 #[.agg #[.bool b1, .string m1], .agg #[.bool b2, .string m2]] w (RetB w (.agg #[.bool b3, .string m3])) := by
  obtain ⟨b4, m4, h4⟩ := enc_form (-y)
  have HN := Lib.hid (fun V => refNegate_f hy h4 V)
  have hsz : m4.size ≤ 100000 := by
    have a1 := (enc_parts hy).2
    have a2 := (enc_parts h4).2
    rw [Int.natAbs_neg] at a2
    rw [a2, ← a1]
    exact s2
  have HA := Lib.hid (fun V => refAdd_f hx h4 s1 hsz hz (by omega) V)
  have K0 := Lib.hid (Kp.start w 23 (.bool b1) (.string m1) (.bool b2) (.string m2) (.cells #[.bool false, .string ⟨#[]⟩] 23))
  have hne1 : ¬ (w.heap.size = w.heap.size + 1 + 1) := by omega
  have hne2 : ¬ (w.heap.size + 1 + 1 = w.heap.size) := by omega
  clear hx hy hz h4 s1 s2 e hsz
  go_enter Try.func29, Try.ntmps29
  go_wp2_with fail
  go_region_held3 (fun w' => w'.cell? ⟨w.heap.size, 0, none⟩ = some (.bool b1) ∧ w'.cell? ⟨w.heap.size, 1, none⟩ = some (.string m1) ∧ w'.cell? ⟨w.heap.size + 1, 0, none⟩ = some (.bool b2) ∧ w'.cell? ⟨w.heap.size + 1, 1, none⟩ = some (.string m2))
    (first
      | go_keep
      | exact ⟨K2.out.a0, K2.out.a1, K2.out.a2, K2.out.a3⟩
      | exact ⟨K1.out.a0, K1.out.a1, K1.out.a2, K1.out.a3⟩)
    (first
      | (go_at_call 31; (with_reducible refine (HN.out _).mono ?_); rintro e w1 ⟨rfl, hb1⟩; have K1 := Lib.hid (K0.out.drew.next hb1))
      | (go_at_call 28; (with_reducible refine (HA.out _).mono ?_); rintro e w2 ⟨rfl, hb2⟩; have K2 := Lib.hid (K1.out.next hb2); obtain ⟨p0, p1, g0, g1⟩ := K2.out.res))
  go_wp2
  refine bodyPost_ret (v := .agg #[.bool b3, .string m3]) (by simp [results, Try.results29, go_sem, p0, p1]) rfl ⟨rfl, K2.out.stored _ _⟩
end
end Go.Proofs.Ytoolljoejioigaa
