/-
  The walk of the statement about sums and differences.
-/
import Derived.Test.YtoolljoejioigaaLawC
import Derived.Test.YtoolljoejioigaaRefL
namespace Go.Proofs.Ytoolljoejioigaa
open Go.RowKit
attribute [local go_sem ↓] Go.wp_at_zero Go.wp_at_succ

set_option maxHeartbeats 4000000 in
set_option maxRecDepth 100000 in
theorem adds_walk (na nb : Bool) (a b : ByteArray) (w : World) : Calls Try.prog 6 #[.agg #[.bool na, .string a], .agg #[.bool nb, .string b]] w (RetB w (.bool true)) := by
  have HU1 := Lib.hid (fun V => in_any na a V)
  have HU2 := Lib.hid (fun V => in_any nb b V)
  go_enter Try.func6, Try.ntmps6
  go_wp2_with fail
  go_region_with (first
      | (go_at_call 20; (with_reducible refine (HU1.out _).mono ?_); rintro e w1 ⟨x, hx, rfl, hb1⟩; obtain ⟨b1, m1, hbm1⟩ := enc_form x; rw [hbm1]; have HBM1 := Lib.hid hbm1; clear hbm1; obtain ⟨p0, p1, p2, p3⟩ := res2 (g := w.heap.size) (by exact heap_fst _ _ _) hb1 (by simp <;> omega); obtain ⟨p4, p5, p6, p7⟩ := res2 (g := w.heap.size + 1) (by exact heap_two _ _ _) hb1 (by simp <;> omega))
      | (go_at_call 20; (with_reducible refine (HU2.out _).mono ?_); rintro e w2 ⟨y, hy, rfl, hb2⟩; obtain ⟨b2, m2, hbm2⟩ := enc_form y; rw [hbm2]; have HBM2 := Lib.hid hbm2; clear hbm2; obtain ⟨q0, q1, q2, q3⟩ := res2 (g := w.heap.size) (by exact heap_fst _ _ _) (hb1.trans (hb2.mono hb1.size)) (by simp <;> omega); obtain ⟨q4, q5, q6, q7⟩ := res2 (g := w.heap.size + 1) (by exact heap_two _ _ _) (hb1.trans (hb2.mono hb1.size)) (by simp <;> omega)))
  all_goals
    have s1 := enc_size HBM1.out hx
    have s2 := enc_size HBM2.out hy
    obtain ⟨bs, ms, hs⟩ := enc_form (x + y)
    obtain ⟨bd, md, hd⟩ := enc_form (x - y)
    obtain ⟨bn, mn, hn⟩ := enc_form (-x)
    obtain ⟨ba, ma, ha⟩ := enc_form (x.natAbs : Int)
    have A1 := Lib.hid (fun V => add_f HBM1.out HBM2.out (by omega) (by omega) hs rfl V)
    have A2 := Lib.hid (fun V => refAdd_f HBM1.out HBM2.out (by omega) (by omega) hs rfl V)
    have A3 := Lib.hid (fun V => sub_f HBM1.out HBM2.out (by omega) (by omega) hd rfl V)
    have A4 := Lib.hid (fun V => refSub_f HBM1.out HBM2.out (by omega) (by omega) hd rfl V)
    have A5 := Lib.hid (fun V => negate_f HBM1.out hn V)
    have A6 := Lib.hid (fun V => refNegate_f HBM1.out hn V)
    have A7 := Lib.hid (fun V => abs_f HBM1.out ha V)
    have A8 := Lib.hid (fun V => refAbs_f HBM1.out ha V)
    have hbb := hb1.trans (hb2.mono hb1.size)
    have hsz := hbb.size
    have HBB := Lib.hid hbb
    clear hs hd hn ha hb1 hb2 hbb p0 p1 p2 p3 p4 p5 p6 p7 hx hy s1 s2
    have tt := set_two (g := w.heap.size) (x0 := .bool b1) (x1 := .string m1) (x2 := .bool b2) (x3 := .string m2) q0 q1 q4 q5
    obtain ⟨W, hWW⟩ : ∃ W, W = (((w2.setCell ⟨w.heap.size, 0, none⟩ (.bool b1)).setCell ⟨w.heap.size, 1, none⟩ (.string m1)).setCell ⟨w.heap.size + 1, 0, none⟩ (.bool b2)).setCell ⟨w.heap.size + 1, 1, none⟩ (.string m2) := ⟨_, rfl⟩
    have hbW : Below w.heap.size w W := by
      rw [hWW]
      exact ((((Below.trans (((Below.refl _ _).alloc (Nat.le_refl _) _).alloc (by simp <;> omega) _).drew (HBB.out.mono (B' := w.heap.size) (by simp <;> omega))).setCell (by simp <;> omega) _).setCell (by simp <;> omega) _).setCell (by simp <;> omega) _).setCell (by simp <;> omega) _
    rw [← hWW]
    rw [← hWW] at tt
    obtain ⟨t0, t1, t2, t3, t4⟩ := tt
    have hsW : w.heap.size + 2 ≤ W.heap.size := by rw [t4]; simp at hsz; omega
    have HBW := Lib.hid hbW
    clear hWW t4 q0 q1 q2 q3 q4 q5 q6 q7 hsz hbW
    go_wp2_with fail
    go_region_held3 (fun w' => w'.cell? ⟨w.heap.size, 0, none⟩ = some (.bool b1) ∧ w'.cell? ⟨w.heap.size, 1, none⟩ = some (.string m1) ∧ w'.cell? ⟨w.heap.size + 1, 0, none⟩ = some (.bool b2) ∧ w'.cell? ⟨w.heap.size + 1, 1, none⟩ = some (.string m2) ∧ w.heap.size + 2 ≤ w'.heap.size)
      (first
        | go_keep
        | (go_split_ands
           have hb9 := ‹Below _ _ _›
           refine ⟨?_, ?_, ?_, ?_, ?_⟩
           · (rw [hb9.cell (by simp <;> omega)]; first | assumption | simp [t0, t1, t2, t3])
           · (rw [hb9.cell (by simp <;> omega)]; first | assumption | simp [t0, t1, t2, t3])
           · (rw [hb9.cell (by simp <;> omega)]; first | assumption | simp [t0, t1, t2, t3])
           · (rw [hb9.cell (by simp <;> omega)]; first | assumption | simp [t0, t1, t2, t3])
           · (have := hb9.size; simp at this ⊢; omega)))
      (first
        | (go_at_call 13; refine (known_any _).mono ?_; rintro e w3 ⟨rfl, hb3⟩)
        | (go_at_call 27; refine (A1.out _).mono ?_; rintro e w4 ⟨rfl, hb4⟩)
        | (go_at_call 28; refine (A2.out _).mono ?_; rintro e w5 ⟨rfl, hb5⟩)
        | (go_at_call 26; refine (A3.out _).mono ?_; rintro e w6 ⟨rfl, hb6⟩)
        | (go_at_call 29; refine (A4.out _).mono ?_; rintro e w7 ⟨rfl, hb7⟩)
        | (go_at_call 30; refine (A5.out _).mono ?_; rintro e w8 ⟨rfl, hb8⟩)
        | (go_at_call 31; refine (A6.out _).mono ?_; rintro e w9 ⟨rfl, hb9⟩)
        | (go_at_call 32; refine (A7.out _).mono ?_; rintro e w10 ⟨rfl, hb10⟩)
        | (go_at_call 33; refine (A8.out _).mono ?_; rintro e w11 ⟨rfl, hb11⟩))
    go_wp2
    go_ret
    have s0 := HBW.out.size
    have s3 := Nat.le_trans s0 hb3.size
    have s4 := Nat.le_trans s3 hb4.size
    have s5 := Nat.le_trans s4 hb5.size
    have s6 := Nat.le_trans s5 hb6.size
    have s7 := Nat.le_trans s6 hb7.size
    have s8 := Nat.le_trans s7 hb8.size
    have s9 := Nat.le_trans s8 hb9.size
    have s10 := Nat.le_trans s9 hb10.size
    exact ⟨rfl, ((((((((HBW.out.drew.trans (hb3.mono s0)).trans (hb4.mono s3)).trans (hb5.mono s4)).trans (hb6.mono s5)).trans (hb7.mono s6)).trans (hb8.mono s7)).trans (hb9.mono s8)).trans (hb10.mono s9)).trans (hb11.mono s10)⟩

theorem adds_law (na : Bool) (a : ByteArray) (nb : Bool) (b : ByteArray) (w : World) : Calls Try.prog 6 #[.agg #[.bool na, .string a], .agg #[.bool nb, .string b]] w (RetB w (.bool true)) := adds_walk na nb a b w
end Go.Proofs.Ytoolljoejioigaa
