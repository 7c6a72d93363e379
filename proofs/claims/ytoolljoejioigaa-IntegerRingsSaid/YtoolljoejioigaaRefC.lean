/-
  The reference's difference of two magnitudes, the second one of which is not greater.
-/
import Derived.Test.YtoolljoejioigaaRefB
namespace Go.Proofs.Ytoolljoejioigaa
open Go.RowKit

set_option maxHeartbeats 1000000 in
set_option maxRecDepth 100000 in
theorem difference_any (A B : Option Addr) (n m c d X Y : Nat) (w : World) (hn : n ≤ 100000000000) (hm : m ≤ 100000000000) (hx : Dg w .i64 256 A n X) (hy : Dg w .i64 256 B m Y) (hXY : Y ≤ X) :
    Calls Try.prog 51 #[.slice A n c, .slice B m d] w (RetG w .i64 256 (X - Y) n) := by
  have HX := Lib.hid hx
  have HY := Lib.hid hy
  have HXY := Lib.hid hXY
  clear hx hy hXY
  obtain ⟨i0, hi, hz0, hz1, hz2⟩ := info_parts intTy_info
  go_enter Try.func51, Try.ntmps51
  go_wp2
  go_loopw [5, 6, 7] (fun v bw i wr => ∃ k : Nat, k ≤ n ∧ i = .int .i64 k ∧ bw = .int .i64 (bor 256 X Y k : Nat) ∧ wr.ownsRow w.heap.size 3 1 v k (nums .i64 (D 256 (X - Y)) k) ∧ Below w.heap.size w wr)
    (fun _ _ i _ => n - (intOf i).toNat)
  case atStart => exact ⟨0, by omega, rfl, by rw [bor_zero]; rfl, World.ownsRow_nil _ _ _ _, Below.refl _ _⟩
  case round =>
    obtain ⟨k, hk, rfl, rfl, hown, hnx⟩ := hrel
    by_cases hlt : k < n
    · have hbl := bor_le 256 X Y k
      have hs1 := bor_step (b := 256) (by omega) X Y k
      have hs2 := dif_digit (b := 256) (by omega) HXY.out k
      have hdx := D_lt (b := 256) (by omega) X k
      have hdy := D_lt (b := 256) (by omega) Y k
      have HXr := Lib.hid (HX.out.below hnx)
      have HYr := Lib.hid (HY.out.below hnx)
      obtain ⟨g, o, rfl, hg, hcell⟩ := (HX.out.below hnx).rd (by omega)
      have hck := hcell k hlt
      clear hcell
      generalize hbb : bor 256 X Y k = bw at *
      have HB := Lib.hid hbb
      have HS1 := Lib.hid hs1
      have HS2 := Lib.hid hs2
      clear hbb hs1 hs2
      by_cases hneg : D 256 X k < D 256 Y k + bw
      all_goals
        have e1 : IntKind.i64.wrap ((D 256 X k : Int) - (D 256 Y k : Int)) = (D 256 X k : Int) - (D 256 Y k : Int) := IntWalk.i64_in _ (by omega)
        have e2 : IntKind.i64.wrap ((D 256 X k : Int) - (D 256 Y k : Int) - (bw : Int)) = (D 256 X k : Int) - (D 256 Y k : Int) - (bw : Int) := IntWalk.i64_in _ (by omega)
        go_wp2_with fail
        go_quiet ((go_at_call 66; exact quietV (at_any B m d Y k _ (by omega) (by omega) (HYr.out.drewN _))))
        clear e1 e2
      · have hd0 : (D 256 X k : Int) - (D 256 Y k : Int) - (bw : Int) < 0 := by omega
        have hownd : ∀ o, ((wr.alloc o).drewN nq).ownsRow w.heap.size 3 1 _ k (nums .i64 (D 256 (X - Y)) k) := fun o => hown.alloc o
        go_wp2_with (at_builtin; refine wpList_append_own _ rfl _ _ 48 rfl w.heap.size 3 i0 (.int .i64 0) 1 8 Try.underlying48 hi hz0 hz1 hz2 rfl (by decide) _ _ _ rfl (hownd _) ⟨wr.heap.size, 0, none⟩ 1 1 [.int .i64 ((D 256 X k + 256 - D 256 Y k - bw : Nat) : Int)] rfl rfl ?_ ?_ ?_ ?_ ?_ ?_)
        · intro j u hj; exact one_cell (w := wr) j u hj (by simp; omega)
        · intro u hu; simp at hu; subst hu; rfl
        · unfold maxLen; omega
        · omega
        · have := hnx.size; simp; omega
        intro v' w1 hown' hgrow _
        have hown2 := own_next hown' (by rw [HS2.out]; rw [if_pos hneg])
        have hb1 : Below w.heap.size wr w1 := Below.grown (w := (wr.alloc _).drewN nq) (below_draws ((Below.refl _ _).alloc hnx.size _) nq) hgrow (by have := hnx.size; simp; omega) (fun g hg => ((hown.lt) g hg).1)
        clear hgrow hown' hown hownd
        go_wp2
        go_roundw
        case rel => exact ⟨k + 1, by omega, by go_num, by rw [HS1.out, if_pos hneg]; rfl, hown2, hnx.trans hb1⟩
        case measure => simp [intOf] <;> omega
      · have hd0 : 0 ≤ (D 256 X k : Int) - (D 256 Y k : Int) - (bw : Int) := by omega
        have hownd : ∀ o, ((wr.alloc o).drewN nq).ownsRow w.heap.size 3 1 _ k (nums .i64 (D 256 (X - Y)) k) := fun o => hown.alloc o
        go_wp2_with (at_builtin; refine wpList_append_own _ rfl _ _ 48 rfl w.heap.size 3 i0 (.int .i64 0) 1 8 Try.underlying48 hi hz0 hz1 hz2 rfl (by decide) _ _ _ rfl (hownd _) ⟨wr.heap.size, 0, none⟩ 1 1 [.int .i64 ((D 256 X k - D 256 Y k - bw : Nat) : Int)] rfl rfl ?_ ?_ ?_ ?_ ?_ ?_)
        · intro j u hj; exact one_cell (w := wr) j u hj (by simp; omega)
        · intro u hu; simp at hu; subst hu; rfl
        · unfold maxLen; omega
        · omega
        · have := hnx.size; simp; omega
        intro v' w1 hown' hgrow _
        have hown2 := own_next hown' (by rw [HS2.out]; rw [if_neg hneg])
        have hb1 : Below w.heap.size wr w1 := Below.grown (w := (wr.alloc _).drewN nq) (below_draws ((Below.refl _ _).alloc hnx.size _) nq) hgrow (by have := hnx.size; simp; omega) (fun g hg => ((hown.lt) g hg).1)
        clear hgrow hown' hown hownd
        go_wp2
        go_roundw
        case rel => exact ⟨k + 1, by omega, by go_num, by rw [HS1.out, if_neg hneg]; rfl, hown2, hnx.trans hb1⟩
        case measure => simp [intOf] <;> omega
    · obtain rfl : k = n := by omega
      go_wp2
      go_ret
      obtain ⟨A', c', rfl, hr⟩ := Rd.of_own hown
      have := HX.out.lt
      exact ⟨A', _, c', Nat.le_refl _, rfl, ⟨by omega, hr⟩, hnx⟩
end Go.Proofs.Ytoolljoejioigaa
