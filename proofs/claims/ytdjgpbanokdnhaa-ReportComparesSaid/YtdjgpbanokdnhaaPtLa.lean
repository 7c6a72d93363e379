/-
  The walk of ReportCompares.
-/
import Derived.Test.YtdjgpbanokdnhaaPtKn
import Derived.Test.YtdjgpbanokdnhaaPtF
namespace Go.Proofs.Ytdjgpbanokdnhaa.Pt
open Go.RowKit
attribute [local go_sem ↓] Go.wp_at_zero Go.wp_at_succ

set_option maxHeartbeats 8000000 in
set_option maxRecDepth 100000 in
theorem compares_w (a b c : Rep) (n m p q : Int) (e : Bool) (w : World) (hn : n = -1 ∧ m = 1 ∧ e = false ∨ n = 0 ∧ m = 0 ∧ e = true ∨ n = 1 ∧ m = -1 ∧ e = false) (hq : n ≤ 0 → p ≤ 0 → q ≤ 0)
    (H1 : ∀ V, Bel w V → Calls Try.prog 17 #[agR a, agR b] V (RetB V (.int .i64 n)))
    (H2 : ∀ V, Bel w V → Calls Try.prog 17 #[agR b, agR a] V (RetB V (.int .i64 m)))
    (H3 : ∀ V, Bel w V → Calls Try.prog 17 #[agR b, agR c] V (RetB V (.int .i64 p)))
    (H4 : ∀ V, Bel w V → Calls Try.prog 17 #[agR a, agR c] V (RetB V (.int .i64 q)))
    (H5 : ∀ V, Bel w V → Calls Try.prog 18 #[agR a, agR b] V (RetB V (.int .i64 n)))
    (E : ∀ W, Sem.run Try.prog (binOp .eql 23 (agR a) (agR b)) W = .ok (.bool e) W) :
    Calls Try.prog 4 #[agR a, agR b, agR c] w (RetB w (.bool true)) := by
  have C1 := Lib.hid H1
  have C2 := Lib.hid H2
  have C3 := Lib.hid H3
  have C4 := Lib.hid H4
  have C5 := Lib.hid H5
  have C6 := kn w (fun V => known_f V)
  clear H1 H2 H3 H4 H5
  have hp : p ≤ 0 ∨ 0 < p := by omega
  rcases hn with ⟨rfl, rfl, rfl⟩ | ⟨rfl, rfl, rfl⟩ | ⟨rfl, rfl, rfl⟩
  · rcases hp with hp | hp
    · have hq0 := hq (by omega) hp
      clear hq
      go_enter Try.func4, Try.ntmps4
      exact wk0
    · clear hq
      go_enter Try.func4, Try.ntmps4
      exact wk0
  · rcases hp with hp | hp
    · have hq0 := hq (by omega) hp
      clear hq
      go_enter Try.func4, Try.ntmps4
      exact wk0
    · clear hq
      go_enter Try.func4, Try.ntmps4
      exact wk0
  · clear hq hp
    go_enter Try.func4, Try.ntmps4
    exact wk0
theorem compares_f (a b c : Rep) (w : World) : Calls Try.prog 4 #[agR a, agR b, agR c] w (RetB w (.bool true)) :=
  compares_w a b c (cmpR a b) (cmpR b a) (cmpR b c) (cmpR a c) (decide (a = b)) w
    (by
      have h1 := cmpR_vals a b
      have h2 := cmpR_neg a b
      have h3 := cmpR_zero a b
      rcases h1 with h | h | h
      · exact .inl ⟨h, by omega, decide_eq_false fun e => by rw [h3.2 e] at h; omega⟩
      · exact .inr (.inl ⟨h, by omega, decide_eq_true (h3.1 h)⟩)
      · exact .inr (.inr ⟨h, by omega, decide_eq_false fun e => by rw [h3.2 e] at h; omega⟩))
    cmpR_le (fun V _ => compare_f a b V) (fun V _ => compare_f b a V) (fun V _ => compare_f b c V) (fun V _ => compare_f a c V) (fun V _ => lcompare_f a b V) (eq_rep a b)
end Go.Proofs.Ytdjgpbanokdnhaa.Pt
