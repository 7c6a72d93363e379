/-
  The order of reports: the program's and the reference's.
-/
import Derived.Test.YtdjgpbanokdnhaaPtA
namespace Go.Proofs.Ytdjgpbanokdnhaa.Pt
open Go.RowKit
attribute [local go_sem ↓] Go.wp_at_zero Go.wp_at_succ

theorem blkAt {W : World} {g : Nat} {cs : Array Value} {T : TypeId} (h : W.heap[g]? = some (.cells cs T (0, 0))) (j : Nat) : W.cell? ⟨g, j, none⟩ = cs[j]? := by simp [World.cell?, h]
theorem agK_at {W : World} {g : Nat} {r : Rep} {T : TypeId} (h : W.heap[g]? = some (.cells (agK r) T (0, 0))) (j : Nat) (hj : j < 8) : W.cell? ⟨g, j, none⟩ = some (.int .i64 (keyR r)[j]!) := by
  rw [blkAt h]
  match j, hj with
  | 0, _ => rfl
  | 1, _ => rfl
  | 2, _ => rfl
  | 3, _ => rfl
  | 4, _ => rfl
  | 5, _ => rfl
  | 6, _ => rfl
  | 7, _ => rfl
theorem scmp_r (x y : Rep) (V : World) {g h : Nat} {T U : TypeId} (hg : V.heap[g]? = some (.cells (agK x) T (0, 0))) (hh : V.heap[h]? = some (.cells (agK y) U (0, 0))) :
    Calls Try.prog 38 #[.slice (some ⟨g, 0, none⟩) 8 8, .slice (some ⟨h, 0, none⟩) 8 8] V fun e w' => e = .returned (.int .i64 (cmpR x y)) ∧ V = w' :=
  scmp_f (keyR x) (keyR y) rfl rfl g h V (agK_at hg) (agK_at hh)

set_option maxHeartbeats 8000000 in
set_option maxRecDepth 100000 in
theorem compare_w (a1 a2 a3 a4 a5 a6 a7 b1 b2 b3 b4 b5 b6 b7 a9 b9 c : Int) (a8 b8 : Bool) (w : World)
    (HA : ∀ V, Bel w V → Calls Try.prog 37 #[.agg #[.int .i64 a1, .int .i64 a2, .int .i64 a3, .int .i64 a4, .int .i64 a5, .int .i64 a6, .int .i64 a7, .bool a8]] V (RetB V (.agg #[.int .i64 a1, .int .i64 a2, .int .i64 a3, .int .i64 a5, .int .i64 a6, .int .i64 a7, .int .i64 a4, .int .i64 a9])))
    (HB : ∀ V, Bel w V → Calls Try.prog 37 #[.agg #[.int .i64 b1, .int .i64 b2, .int .i64 b3, .int .i64 b4, .int .i64 b5, .int .i64 b6, .int .i64 b7, .bool b8]] V (RetB V (.agg #[.int .i64 b1, .int .i64 b2, .int .i64 b3, .int .i64 b5, .int .i64 b6, .int .i64 b7, .int .i64 b4, .int .i64 b9])))
    (HC : ∀ V, Bel w V → ∀ g h, V.heap[g]? = some (.cells #[.int .i64 a1, .int .i64 a2, .int .i64 a3, .int .i64 a5, .int .i64 a6, .int .i64 a7, .int .i64 a4, .int .i64 a9] 53 (0, 0)) → V.heap[h]? = some (.cells #[.int .i64 b1, .int .i64 b2, .int .i64 b3, .int .i64 b5, .int .i64 b6, .int .i64 b7, .int .i64 b4, .int .i64 b9] 53 (0, 0)) → Calls Try.prog 38 #[.slice (some ⟨g, 0, none⟩) 8 8, .slice (some ⟨h, 0, none⟩) 8 8] V (RetB V (.int .i64 c))) :
    Calls Try.prog 17 #[.agg #[.int .i64 a1, .int .i64 a2, .int .i64 a3, .int .i64 a4, .int .i64 a5, .int .i64 a6, .int .i64 a7, .bool a8], .agg #[.int .i64 b1, .int .i64 b2, .int .i64 b3, .int .i64 b4, .int .i64 b5, .int .i64 b6, .int .i64 b7, .bool b8]] w (RetB w (.int .i64 c)) := by
  have C1 := Lib.hid HA
  have C2 := Lib.hid HB
  have C3 := Lib.hid HC
  have U1 : Hid (∀ {p : Prop} (h : p := by ((fail_if_success (go_not_at_region 1)); (fail_if_success (have := hLL)); obtain ⟨LL, hLL⟩ := lexi X.out; go_cut [5, 6] (fun s5 s6 wx => ∃ g5 g6, s5 = .pointer (some ⟨g5, 0, none⟩) ∧ s6 = .pointer (some ⟨g6, 0, none⟩) ∧ Sb w (LL ++ [(g5, #[.int .i64 a1, .int .i64 a2, .int .i64 a3, .int .i64 a5, .int .i64 a6, .int .i64 a7, .int .i64 a4, .int .i64 a9], 53), (g6, #[.int .i64 b1, .int .i64 b2, .int .i64 b3, .int .i64 b5, .int .i64 b6, .int .i64 b7, .int .i64 b4, .int .i64 b9], 53)]) [] wx); all_goals exact wkc)), p) := @fun _ h => h
  have M1 : Hid (∀ {p : Prop} (h : p := by first | exact ⟨_, _, rfl, rfl, X.out.pick [0, 1, 2, 3] _ [] rfl (by decide) (by simp)⟩ | exact ⟨_, _, rfl, rfl, X.out.pick [0, 1, 3, 2] _ [] rfl (by decide) (by simp)⟩), p) := @fun _ h => h
  clear HA HB HC
  go_enter Try.func17, Try.ntmps17
  exact wk0
end Go.Proofs.Ytdjgpbanokdnhaa.Pt
