import Derived.Test.YtkaefmfophopoaaDoorGRefC
import Derived.Deep.RegionHeld3
import Derived.Deep.DrawnRows

/-
  The reference's canonical integer of any integer.
-/
namespace Go.Proofs.YtkaefmfophopoaaDoor
open Go.RowKit
attribute [local go_sem ↓] Go.wp_at_zero Go.wp_at_succ

set_option maxHeartbeats 1000000 in
set_option maxRecDepth 100000 in
theorem canonical_cut (neg : Bool) (s t : ByteArray) (k : Nat) (hk : k ≤ 1000) (w : World) (h : (k < s.size ∧ s.extract 0 k = t) ∨ (¬ k < s.size ∧ t = s)) (htk : t.size ≤ 1000) :
    Calls Tryd.prog 6 #[.agg #[.bool neg, .string s], .int .i64 (k : Int)] w (RetZ w (sgn neg (bval t))) := by
  rcases h with ⟨hsk, ht⟩ | ⟨hsk, rfl⟩
  all_goals
    go_enter Tryd.func6, Tryd.ntmps6
    go_wp2
    try clear ht
  all_goals
    go_region_held3 (fun w' => w'.cell? ⟨w.heap.size, 0, none⟩ = some (.bool neg) ∧ w'.cell? ⟨w.heap.size, 1, none⟩ = some (.string t) ∧ w.heap.size + 2 ≤ w'.heap.size)
      (first
        | go_keep
        | (go_split_ands
           have hb9 := ‹Below _ _ _›
           refine ⟨?_, ?_, ?_⟩
           · (rw [hb9.cell (by simp <;> omega)]; first | assumption | simp)
           · (rw [hb9.cell (by simp <;> omega)]; first | assumption | simp)
           · (have := hb9.size; simp at this ⊢; omega)))
      (first
        | (go_at_call 17; refine (digits_any _ _ _ ?_).mono ?_; (omega); rintro e w1 ⟨A1, n1, c1, hn1, rfl, hd1, hb1⟩)
        | (go_at_call 16; refine (number_any _ A1 n1 c1 (bval t) _ ?_ ?_).mono ?_; (omega); (first | exact hd1 | exact hd1.drewN _ | exact hd1.drew); rintro e w2 ⟨rfl, hb2⟩; obtain ⟨bz, mz, hbm⟩ := enc_form (sgn neg (bval t)); rw [hbm]; have HBM := Lib.hid hbm; clear hbm; obtain ⟨q0, q1, f0, f1⟩ := res2 (g := w.heap.size + 1) (by exact heap_two _ _ _) (hb1.trans (hb2.mono hb1.size)) (by simp)))
    go_wp2
    refine bodyPost_ret (v := .agg #[.bool bz, .string mz]) (by simp [results, Tryd.results6, go_sem, q0, q1]) rfl ⟨by rw [HBM.out], ?_⟩
    have h0 : Below w.heap.size w ((w.alloc (.cells #[.bool neg, .string t] 23)).alloc (.cells #[.bool false, .string ⟨#[]⟩] 23)).drew := (((Below.refl _ _).alloc (Nat.le_refl _) _).alloc (by simp) _).drew
    exact (((h0.trans (hb1.mono h0.size)).trans (hb2.mono (Nat.le_trans h0.size hb1.size))).setCell (by simp) _).setCell (by simp) _

theorem ival_extract (neg : Bool) (s : ByteArray) (k : Nat) (hk : k ≤ 1000) (w : World) :
    Calls Tryd.prog 6 #[.agg #[.bool neg, .string s], .int .i64 (k : Int)] w (fun e w' => ∃ v, v < 256 ^ k ∧ RetZ w (sgn neg v) e w') := by
  by_cases h : k < s.size
  · have hs : (s.extract 0 k).size = k := by simp; omega
    exact (canonical_cut neg s (s.extract 0 k) k hk w (.inl ⟨h, rfl⟩) (by omega)).mono fun e w' hr => ⟨_, by have := bval_lt (s.extract 0 k); rwa [hs] at this, hr⟩
  · exact (canonical_cut neg s s k hk w (.inr ⟨h, rfl⟩) (by omega)).mono fun e w' hr => ⟨_, Nat.lt_of_lt_of_le (bval_lt s) (Nat.pow_le_pow_right (by omega) (by omega)), hr⟩

/-- A call that hands back an integer of at most k bytes, and touches nothing that was there. -/
def RetI (w : World) (k : Nat) (e : Ending) (w' : World) : Prop := ∃ z : Int, z.natAbs < 256 ^ k ∧ e = .returned (enc z) ∧ Below w.heap.size w w'

theorem canonical_any (neg : Bool) (s : ByteArray) (k : Nat) (hk : k ≤ 1000) (w : World) :
    Calls Tryd.prog 6 #[.agg #[.bool neg, .string s], .int .i64 (k : Int)] w (RetI w k) :=
  (ival_extract neg s k hk w).mono fun _ _ ⟨v, hv, he, hb⟩ => ⟨sgn neg v, by unfold sgn; split <;> omega, he, hb⟩

/-- Is a pair canonical? -/
def canonB (neg : Bool) (s : ByteArray) : Bool := if h : 0 < s.size then (s[0]'h).toNat != 0 else !neg

end Go.Proofs.YtkaefmfophopoaaDoor
