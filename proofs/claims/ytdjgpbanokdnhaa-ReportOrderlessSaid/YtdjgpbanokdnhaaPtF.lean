/-
  The reference's order of reports.
-/
import Derived.Test.YtdjgpbanokdnhaaPtC
namespace Go.Proofs.Ytdjgpbanokdnhaa.Pt
open Go.RowKit
attribute [local go_sem ↓] Go.wp_at_zero Go.wp_at_succ

theorem eight {W : World} {g : Nat} {T : TypeId} {a1 a2 a3 a4 a5 a6 a7 a8 : Int} (h : W.heap[g]? = some (.cells #[.int .i64 a1, .int .i64 a2, .int .i64 a3, .int .i64 a4, .int .i64 a5, .int .i64 a6, .int .i64 a7, .int .i64 a8] T (0, 0))) (j : Nat) (hj : j < 8) :
    W.cell? ⟨g, j, none⟩ = some (.int .i64 [a1, a2, a3, a4, a5, a6, a7, a8][j]!) := by
  rw [blkAt h]
  match j, hj with
  | 0, _ => rfl
  | 1, _ => rfl
  | 2, _ => rfl
  | 3, _ => rfl
  | 4, _ => rfl
  | 5, _ => rfl
  | 6, _ => rfl
  | 7, _ => rfl

set_option maxHeartbeats 8000000 in
set_option maxRecDepth 100000 in
theorem lcompare_w (a1 a2 a3 a4 a5 a6 a7 b1 b2 b3 b4 b5 b6 b7 a9 b9 c : Int) (a8 b8 : Bool) (w : World)
    (hc : c = lexc [a1, a2, a3, a5, a6, a7, a4, a9] [b1, b2, b3, b5, b6, b7, b4, b9])
    (HA : ∀ V, Bel w V → Calls Try.prog 39 #[.agg #[.int .i64 a1, .int .i64 a2, .int .i64 a3, .int .i64 a4, .int .i64 a5, .int .i64 a6, .int .i64 a7, .bool a8]] V (RetB V (.agg #[.int .i64 a1, .int .i64 a2, .int .i64 a3, .int .i64 a5, .int .i64 a6, .int .i64 a7, .int .i64 a4, .int .i64 a9])))
    (HB : ∀ V, Bel w V → Calls Try.prog 39 #[.agg #[.int .i64 b1, .int .i64 b2, .int .i64 b3, .int .i64 b4, .int .i64 b5, .int .i64 b6, .int .i64 b7, .bool b8]] V (RetB V (.agg #[.int .i64 b1, .int .i64 b2, .int .i64 b3, .int .i64 b5, .int .i64 b6, .int .i64 b7, .int .i64 b4, .int .i64 b9]))) :
    Calls Try.prog 18 #[.agg #[.int .i64 a1, .int .i64 a2, .int .i64 a3, .int .i64 a4, .int .i64 a5, .int .i64 a6, .int .i64 a7, .bool a8], .agg #[.int .i64 b1, .int .i64 b2, .int .i64 b3, .int .i64 b4, .int .i64 b5, .int .i64 b6, .int .i64 b7, .bool b8]] w (RetB w (.int .i64 c)) := by
  have C1 := Lib.hid HA
  have C2 := Lib.hid HB
  have HC := Lib.hid hc
  have M1 : Hid (∀ {p : Prop} (h : p := by first | exact ⟨_, _, rfl, rfl, X.out.pick [0, 1, 2, 3] _ [] rfl (by decide) (by simp)⟩ | exact ⟨_, _, rfl, rfl, X.out.pick [0, 1, 3, 2] _ [] rfl (by decide) (by simp)⟩), p) := @fun _ h => h
  clear HA HB hc
  go_enter Try.func18, Try.ntmps18
  go_upto_region 1 with fail
  refine gs2 (M := fun W => Code.wp _ _ _ _ W) (fun V X0 => ?_)
  have X := Lib.hid X0
  clear X0
  have F := X.out.facts
  simp only [Facts, cellsAt, List.take_succ_cons, List.take_zero, Nat.reduceAdd, and_true, List.set_cons_succ, List.set_cons_zero, List.cons_append, List.nil_append] at F
  obtain ⟨LL, hLL⟩ := lexi X.out
  go_cut [5, 6] (fun s5 s6 wx => ∃ g5 g6, s5 = .pointer (some ⟨g5, 0, none⟩) ∧ s6 = .pointer (some ⟨g6, 0, none⟩) ∧ Sb w (LL ++ [(g5, #[.int .i64 a1, .int .i64 a2, .int .i64 a3, .int .i64 a5, .int .i64 a6, .int .i64 a7, .int .i64 a4, .int .i64 a9], 53), (g6, #[.int .i64 b1, .int .i64 b2, .int .i64 b3, .int .i64 b5, .int .i64 b6, .int .i64 b7, .int .i64 b4, .int .i64 b9], 53)]) [] wx)
  case rest =>
    clear F X
    obtain ⟨g, h, rfl, rfl, hX⟩ := hcut
    have hlt := hX.lt (x := (g, _, _)) (List.mem_append_right LL (List.mem_cons_self ..))
    have hlt' := hX.lt (x := (h, _, _)) (List.mem_append_right LL (List.mem_cons_of_mem _ (List.mem_cons_self ..)))
    have hA := eight (hX.k _ (List.mem_append_right LL (List.mem_cons_self ..)))
    have hB := eight (hX.k _ (List.mem_append_right LL (List.mem_cons_of_mem _ (List.mem_cons_self ..))))
    have B0 := Lib.hid hX.bel
    have HL := HC.out
    have lA : [a1, a2, a3, a5, a6, a7, a4, a9].length = 8 := rfl
    have lB : [b1, b2, b3, b5, b6, b7, b4, b9].length = 8 := rfl
    clear hX hLL M1 HC C1 C2
    revert hA hB HL lA lB
    generalize [a1, a2, a3, a5, a6, a7, a4, a9] = A
    generalize [b1, b2, b3, b5, b6, b7, b4, b9] = B
    intro hA hB HL lA lB
    have HX := Lib.hid hA
    have HY := Lib.hid hB
    have LA := Lib.hid lA
    have LB := Lib.hid lB
    have HP : Hid (c = lexc (A.drop 0) (B.drop 0)) := Lib.hid HL
    clear hA hB HL lA lB
    go_wp2
    go_loopw [7] (fun i wr => ∃ k : Nat, k ≤ 8 ∧ i = .int .i64 k ∧ c = lexc (A.drop k) (B.drop k) ∧ Bel wc wr) (fun i _ => 8 - (intOf i).toNat)
    case atStart => exact ⟨0, by omega, rfl, HP.out, Bel.refl _⟩
    case round =>
      obtain ⟨k, hk, rfl, hr, hb⟩ := hrel
      have HR := Lib.hid hr
      have HB := Lib.hid hb
      clear hr hb HP
      by_cases hk8 : k < 8
      · have h1 := (HB.out.cell hlt).trans (HX.out k hk8)
        have h2 := (HB.out.cell hlt').trans (HY.out k hk8)
        have hs := lexc_step A B k (by rw [LA.out]; exact hk8) (by rw [LB.out]; exact hk8)
        rw [← HR.out] at hs
        generalize A[k]! = x at h1 hs
        generalize B[k]! = y at h2 hs
        have HS := Lib.hid hs
        clear hs hlt hlt'
        have hi8 : (k : Int) < 8 := by omega
        rcases Int.lt_trichotomy x y with hx | hx | hx
        · have HC := Lib.hid (cmpI_lt hx)
          go_wp2
          go_quiet (fail)
          go_wp2
          go_ret
          refine ⟨res_int ?_, B0.out.trans (HB.out.drewN _)⟩
          rw [HS.out, HC.out]
          rfl
        · have HC := Lib.hid (cmpI_eq hx)
          have hn1 : ¬ x < y := by omega
          have hn2 : ¬ y < x := by omega
          have HN := Lib.hid hx
          clear hx
          go_wp2
          go_quiet (fail)
          go_wp2
          go_quiet (fail)
          go_wp2
          go_roundw
          case rel => exact ⟨k + 1, by omega, by go_num, by rw [HS.out, HC.out]; rfl, HB.out.drewN _⟩
          case measure => simp [intOf]; omega
        · have HC := Lib.hid (cmpI_gt hx)
          have hn1 : ¬ x < y := by omega
          go_wp2
          go_quiet (fail)
          go_wp2
          go_quiet (fail)
          go_wp2
          go_ret
          refine ⟨res_int ?_, B0.out.trans ((HB.out.drewN _).drewN _)⟩
          rw [HS.out, HC.out]
          rfl
      · have hi8 : ¬ ((k : Int) < 8) := by omega
        have hr0 : c = 0 := by
          rw [HR.out, List.drop_of_length_le (by rw [LA.out]; omega)]
          rfl
        have H0 := Lib.hid hr0
        clear hr0
        go_wp2
        go_ret
        exact ⟨res_int H0.out.symm, B0.out.trans HB.out⟩
  all_goals exact wkc
theorem lcompare_f (x y : Rep) (w : World) : Calls Try.prog 18 #[agR x, agR y] w (RetB w (.int .i64 (cmpR x y))) :=
  lcompare_w _ _ _ _ _ _ _ _ _ _ _ _ _ _ x.one y.one _ _ _ w rfl (fun V _ => lfields_f x V) (fun V _ => lfields_f y V)
end Go.Proofs.Ytdjgpbanokdnhaa.Pt
