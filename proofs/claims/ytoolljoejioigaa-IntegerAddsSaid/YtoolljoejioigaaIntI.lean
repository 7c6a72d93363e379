/-
  The program's multiples of digits, added to others in place.
-/
import Derived.Test.YtoolljoejioigaaIntH
namespace Go.Proofs.Ytoolljoejioigaa
open Go.RowKit
attribute [local go_sem ↓] Go.wp_at_zero Go.wp_at_succ

/-- One step: the product of two words, a word and a carry make a digit and a carry. -/
theorem step_words (x f s c : Nat) (hx : x < 18446744073709551616) (hf : f < 18446744073709551616) (hs : s < 18446744073709551616) (hc : c < 18446744073709551616) :
    (x * f % 18446744073709551616 + s) / 18446744073709551616 ≤ 1 ∧
    x * f / 18446744073709551616 + (x * f % 18446744073709551616 + s) / 18446744073709551616 < 18446744073709551616 ∧
    ((x * f % 18446744073709551616 + s) % 18446744073709551616 + c) / 18446744073709551616 ≤ 1 ∧
    x * f / 18446744073709551616 + (x * f % 18446744073709551616 + s) / 18446744073709551616 + ((x * f % 18446744073709551616 + s) % 18446744073709551616 + c) / 18446744073709551616 < 18446744073709551616 ∧
    ((x * f % 18446744073709551616 + s) % 18446744073709551616 + c) % 18446744073709551616 = (s + x * f + c) % 18446744073709551616 ∧
    x * f / 18446744073709551616 + (x * f % 18446744073709551616 + s) / 18446744073709551616 + ((x * f % 18446744073709551616 + s) % 18446744073709551616 + c) / 18446744073709551616 = (s + x * f + c) / 18446744073709551616 := by
  have h1 : x * f ≤ 18446744073709551615 * 18446744073709551615 := Nat.mul_le_mul (by omega) (by omega)
  generalize x * f = p at *
  omega

theorem add64_0 (x y s o : Nat) (hs : (x + y) % 18446744073709551616 = s) (ho : (x + y) / 18446744073709551616 = o) (w : World) :
    (callFunc 77 #[.int .u64 (x : Int), .int .u64 (y : Int), .int .u64 0]).run Try.prog w = .ok (.value (.tuple #[.int .u64 (s : Int), .int .u64 (o : Int)])) w :=
  add64_fn x y 0 (by omega) w s o hs ho

/-- A call that adds x * factor to the digits of block g from place o on, and hands back the carry. -/
def RetAM (w : World) (g : Nat) (N : Nat) (F : Nat → Nat) (cy : Nat) (e : Ending) (w' : World) : Prop :=
  e = .returned (.int .u64 (cy : Int)) ∧ Lies w' g N F ∧ w.grownBy w' (some g)

theorem grown_set {a w : World} {g : Nat} (h : a.grownBy w (some g)) (i : Nat) (u : Value) : a.grownBy (w.setCell ⟨g, i, none⟩ u) (some g) :=
  ⟨h.os, h.tape, h.output, by simpa [World.setCell] using h.size, fun k hk hne => (Below.heap_setCell w ⟨g, i, none⟩ u k (fun e => hne (by rw [e]))).trans (h.block k hk hne)⟩

/-- The digits of block g behind the call. -/
def amF (f : Nat → Nat) (o n U fac X : Nat) (k : Nat) (j : Nat) : Nat := if o ≤ j ∧ j < o + k then D B64 (U + fac * X) (j - o) else f j

set_option maxHeartbeats 2000000 in
set_option maxRecDepth 100000 in
theorem addMultiple_any (g o N n c : Nat) (f : Nat → Nat) (A : Option Addr) (m cx U X fac : Nat) (w : World) (hN : o + m ≤ N) (hn : n = m) (hc : n ≤ c) (hm : m ≤ 1000000000) (hL : Lies w g N f) (hU : ∀ i, i < m → f (o + i) = D B64 U i)
    (hX : Rd w .u64 A m (D B64 X)) (hne : 0 < m → ∀ a, A = some a → a.block ≠ g) (hf : fac < 18446744073709551616) :
    Calls Try.prog 72 #[.slice (some ⟨g, o, none⟩) n c, .slice A m cx, .int .u64 (fac : Int)] w (RetAM w g N (amF f o n U fac X m) (car B64 U fac X m)) := by
  subst hn
  have HX := Lib.hid hX
  have HN := Lib.hid hne
  have HU := Lib.hid hU
  have HL := Lib.hid hL
  clear hX hne hU hL
  go_enter Try.func72, Try.ntmps72
  go_wp2
  go_loopw [7, 14] (fun cy i wr => ∃ k : Nat, k ≤ n ∧ i = .int .i64 k ∧ cy = .int .u64 (car B64 U fac X k : Nat) ∧ Lies wr g N (amF f o n U fac X k) ∧ w.grownBy wr (some g)) (fun _ i _ => n - (intOf i).toNat)
  case atStart =>
    refine ⟨0, Nat.zero_le _, rfl, by rw [car_zero]; rfl, HL.out.congr fun i hi => ?_, World.grownBy.refl _ _⟩
    unfold amF
    rw [if_neg (by omega)]
  case round =>
    obtain ⟨k, hk, rfl, rfl, hlies, hg⟩ := hrel
    by_cases hlt : k < n
    · have hxr := (HX.out.grown hg (fun q hq a ha => by injection hq with hq; subst hq; exact HN.out (by omega) a ha))
      obtain ⟨gx, ox, hA, hgx, hcx⟩ := hxr (by omega)
      have hne2 : gx ≠ g := HN.out (by omega) _ hA
      subst hA
      have hxk := hcx k hlt
      have hcell := hlies.cell (i := o + k) (by omega)
      have hfro := hlies.frozen (o + k)
      have hval : amF f o n U fac X k (o + k) = D B64 U k := by unfold amF; rw [if_neg (by omega), HU.out k hlt]
      rw [hval] at hcell
      clear hval hxr hcx
      have hdx := D64_lt X k
      have hdu := D64_lt U k
      have hcl := car_lt B64_pos (x := fac) (by rw [B64_eq]; exact hf) U X k
      obtain ⟨hs1, hs2⟩ := car_step B64_pos U fac X k
      rw [B64_eq] at hs1 hs2
      rw [← B64_eq] at hs1 hs2
      obtain ⟨t1, t2, t3, t4, t5, t6⟩ := step_words (D B64 X k) fac (D B64 U k) (car B64 U fac X k) hdx hf hdu (by omega)
      have hlo1 : D B64 X k * fac % 18446744073709551616 < 18446744073709551616 := Nat.mod_lt _ (by omega)
      obtain ⟨hi, hhi⟩ : ∃ v, D B64 X k * fac / 18446744073709551616 = v := ⟨_, rfl⟩
      obtain ⟨lo, hlo⟩ : ∃ v, D B64 X k * fac % 18446744073709551616 = v := ⟨_, rfl⟩
      rw [hhi, hlo] at t2 t4 t6
      rw [hlo] at t1 t3 t5 hlo1
      obtain ⟨s1, hs1'⟩ : ∃ v, (lo + D B64 U k) % 18446744073709551616 = v := ⟨_, rfl⟩
      obtain ⟨o1, ho1⟩ : ∃ v, (lo + D B64 U k) / 18446744073709551616 = v := ⟨_, rfl⟩
      rw [ho1] at t1 t2 t4 t6
      rw [hs1'] at t3 t4 t5 t6
      obtain ⟨s2, hs2'⟩ : ∃ v, (s1 + car B64 U fac X k) % 18446744073709551616 = v := ⟨_, rfl⟩
      obtain ⟨o2, ho2⟩ : ∃ v, (s1 + car B64 U fac X k) / 18446744073709551616 = v := ⟨_, rfl⟩
      rw [ho2] at t3 t4 t6
      rw [hs2'] at t5
      have hm64 := fun W => mul64_any (D B64 X k) fac hdx hf hi lo hhi hlo W
      have ha1 := add64_0 lo (D B64 U k) s1 o1 hs1' ho1
      have ha2 := add64_0 s1 (car B64 U fac X k) s2 o2 hs2' ho2
      have hdig : s2 = D B64 (U + fac * X) k := by rw [t5, ← hs2, B64_eq, Nat.mul_comm fac]
      have hcar : hi + o1 + o2 = car B64 U fac X (k + 1) := by rw [t6, ← hs1, B64_eq, Nat.mul_comm fac]
      have HM64 := Lib.hid hm64
      have HDIG := Lib.hid hdig
      have HCAR := Lib.hid hcar
      have HL2 := Lib.hid hlies
      clear t5 t6 hs1 hs2 hm64 hdig hcar hhi hlo hs1' ho1 hs2' ho2 hlies
      generalize car B64 U fac X k = cy at *
      generalize D B64 X k = xk at *
      generalize D B64 U k = uk at *
      go_wp2_with fail
      refine (HM64.out _).mono ?_
      rintro e w' ⟨rfl, rfl⟩
      go_wp2
      go_roundw
      case rel =>
        refine ⟨k + 1, by omega, by go_num, by rw [← HCAR.out]; go_num, (HL2.out.set (o + k) s2).congr fun j hj => ?_, grown_set hg _ _⟩
        unfold amF
        by_cases e : j = o + k
        · rw [if_pos e, if_pos (by omega), e, Nat.add_sub_cancel_left, HDIG.out]
        · rw [if_neg e]
          by_cases e2 : o ≤ j ∧ j < o + k
          · rw [if_pos e2, if_pos (by omega)]
          · rw [if_neg e2, if_neg (by omega)]
      case measure => simp [intOf] <;> omega
    · obtain rfl : k = n := by omega
      go_wp2
      go_ret
      exact ⟨rfl, hlies, hg⟩
end Go.Proofs.Ytoolljoejioigaa
