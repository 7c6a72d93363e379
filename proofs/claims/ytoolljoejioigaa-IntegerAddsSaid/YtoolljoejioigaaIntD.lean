/-
  The program's digits without zeros at the end, and the integer of some digits.
-/
import Derived.Test.YtoolljoejioigaaOwn
import Derived.Test.YtoolljoejioigaaIntC
namespace Go.Proofs.Ytoolljoejioigaa
open Go.RowKit
attribute [local go_sem ↓] Go.wp_at_zero Go.wp_at_succ

/-- The program's base. -/
def B64 : Nat := 18446744073709551616
theorem B64_eq : B64 = 18446744073709551616 := rfl
theorem B64_pos : 0 < B64 := by decide
theorem D64_lt (V i : Nat) : D B64 V i < 18446744073709551616 := D_lt B64_pos V i

/-- The slice at A holds the digits of V in the program's base; its length is n, its capacity c. -/
structure Ng (w : World) (A : Option Addr) (n c V : Nat) : Prop where
  lt : V < B64 ^ n
  cap : n ≤ c
  rd : Rd w .u64 A n (D B64 V)

theorem Ng.below {w w' : World} {A : Option Addr} {n c V : Nat} (h : Ng w A n c V) (hb : Below w.heap.size w w') : Ng w' A n c V := ⟨h.lt, h.cap, h.rd.below hb⟩
theorem Ng.alloc {w : World} {A : Option Addr} {n c V : Nat} (h : Ng w A n c V) (o : Obj) : Ng (w.alloc o) A n c V := ⟨h.lt, h.cap, h.rd.alloc o⟩
theorem Ng.drewN {w : World} {A : Option Addr} {n c V : Nat} (h : Ng w A n c V) (k : Nat) : Ng (w.drewN k) A n c V := ⟨h.lt, h.cap, h.rd⟩

/-- Digits of V, the last one not zero. -/
structure Nm (w : World) (A : Option Addr) (n c V : Nat) : Prop extends Ng w A n c V where
  top : 0 < n → B64 ^ (n - 1) ≤ V

theorem Nm.below {w w' : World} {A : Option Addr} {n c V : Nat} (h : Nm w A n c V) (hb : Below w.heap.size w w') : Nm w' A n c V := ⟨h.toNg.below hb, h.top⟩
theorem Nm.zero {w : World} {A : Option Addr} {n c V : Nat} (h : Nm w A n c V) : n = 0 ↔ V = 0 := by
  constructor
  · rintro rfl; have := h.lt; simpa using this
  · intro h0
    rcases Nat.eq_zero_or_pos n with h1 | h1
    · exact h1
    · have := h.top h1
      have hp : 0 < B64 ^ (n - 1) := Nat.pow_pos B64_pos
      omega

/-- Where the digits end that count. -/
theorem topD {b V n : Nat} (hb : 0 < b) (h : V < b ^ n) : ∃ k, k ≤ n ∧ V < b ^ k ∧ (∀ i, k ≤ i → i < n → D b V i = 0) ∧ (0 < k → D b V (k - 1) ≠ 0 ∧ b ^ (k - 1) ≤ V) := by
  induction n with
  | zero => exact ⟨0, Nat.le_refl _, h, fun i h1 h2 => by omega, fun h => by omega⟩
  | succ n ih =>
    rcases Nat.lt_or_ge V (b ^ n) with h1 | h1
    · obtain ⟨k, a1, a2, a3, a4⟩ := ih h1
      refine ⟨k, by omega, a2, fun i b1 b2 => ?_, a4⟩
      by_cases e : i = n
      · rw [e]; exact D_zero_of hb h1 (Nat.le_refl _)
      · exact a3 i b1 (by omega)
    · exact ⟨n + 1, Nat.le_refl _, h, fun i b1 b2 => by omega, fun _ => ⟨D_pos hb h1 h, h1⟩⟩

/-- A call that cuts a slice to the digits that count, the world as it was. -/
def RetT (w : World) (A : Option Addr) (c n V : Nat) (e : Ending) (w' : World) : Prop := ∃ m, m ≤ n ∧ e = .returned (.slice A m c) ∧ Nm w' A m c V ∧ w = w'

set_option maxHeartbeats 1000000 in
set_option maxRecDepth 100000 in
theorem trim_any (A : Option Addr) (n c V : Nat) (w : World) (hn : n ≤ 1099511627776) (h : Ng w A n c V) :
    Calls Try.prog 70 #[.slice A n c] w (RetT w A c n V) := by
  obtain ⟨k0, hk0, hV, hz, ht⟩ := topD B64_pos h.lt
  have hcap := h.cap
  have HV := Lib.hid hV
  have HZ := Lib.hid hz
  have HT := Lib.hid ht
  have HR := Lib.hid h
  clear hV hz ht h
  go_enter Try.func70, Try.ntmps70
  go_wp2
  go_loop [0] (fun v => ∃ k : Nat, k ≤ n ∧ k0 ≤ k ∧ v = .slice A k c) (fun v => match v with | .slice _ k _ => k | _ => 0)
  case atStart => exact ⟨n, Nat.le_refl _, hk0, rfl⟩
  case round =>
    obtain ⟨k, hk, hkk, rfl⟩ := hrel
    by_cases h0 : k0 < k
    · have hr := HR.out
      obtain ⟨g, o, rfl, hg, hcell⟩ := hr.rd (by omega)
      have hc1 : w.cell? ⟨g, o + (k - 1), none⟩ = some (.int .u64 0) := by rw [hcell (k - 1) (by omega), HZ.out (k - 1) (by omega) (by omega)]; rfl
      clear hcell hr
      go_wp2
      go_round
      case rel => exact ⟨k - 1, by omega, by omega, by first | rfl | simp⟩
      case measure => simp <;> omega
    · obtain rfl : k = k0 := by omega
      by_cases h1 : 0 < k
      · have hr := HR.out
        obtain ⟨g, o, rfl, hg, hcell⟩ := hr.rd (by omega)
        have hc1 : w.cell? ⟨g, o + (k - 1), none⟩ = some (.int .u64 (D B64 V (k - 1) : Int)) := hcell (k - 1) (by omega)
        have hne : ((D B64 V (k - 1) : Int) == 0) = false := by have := (HT.out h1).1; simp; omega
        clear hcell hr
        go_wp2
        go_ret
        exact ⟨k, hk, rfl, ⟨⟨HV.out, by omega, HR.out.rd.take hk⟩, fun h => (HT.out h).2⟩, rfl⟩
      · go_wp2
        go_ret
        exact ⟨k, hk, rfl, ⟨⟨HV.out, by omega, HR.out.rd.take hk⟩, fun h => (HT.out h).2⟩, rfl⟩
end Go.Proofs.Ytoolljoejioigaa
