/-
  report.Status.
-/
import Derived.Test.YtdjgpbanokdnhaaPtP
import Derived.Test.YtdjgpbanokdnhaaPtG
namespace Go.Proofs.Ytdjgpbanokdnhaa.Pt
open Go.RowKit
attribute [local go_sem ↓] Go.wp_at_zero Go.wp_at_succ

/-- What a report is in a list. -/
def statR (l : List Rep) (r : Rep) : Int := if r ∈ l then (if winB l r = true then (if r.cn = true then 3 else 1) else 2) else 0
theorem look_yes {w : World} {b : Nat} {l : List Rep} (h : MapAt w b l) {o s : Int} {i : Nat} {x : Rep} (hf : findR o s l 0 = some (i, x)) : (Instr.lookup 58 (.map (some b)) (idV o s) false).run Try.prog w = .ok (agR x) w := by
  have h1 := run_look h o s false
  rw [hf] at h1
  exact h1

set_option maxHeartbeats 8000000 in
set_option maxRecDepth 100000 in
theorem status_f (l : List Rep) (r : Rep) (v : Value) (w : World) (hv : IsL w v l) : Calls Try.prog 29 #[v, agR r] w (RetB w (.int .i64 (statR l r))) := by
  have HC : Hid (∀ W, Bel w W → Calls Try.prog 24 #[v, agR r] W (RetB W (.bool (decide (r ∈ l))))) := Lib.hid fun W hb => contains_f l r v W (hv.bel hb)
  have HW : Hid (∀ W, Bel w W → Calls Try.prog 44 #[v] W (RetM W (winP l))) := Lib.hid fun W hb => winners_f l v W (hv.bel hb)
  clear hv
  by_cases hr : r ∈ l
  · rw [decide_eq_true hr] at HC
    obtain ⟨i, x, hf, hx⟩ := winP_find l r hr
    have HF := Lib.hid hf
    clear hf
    by_cases he : x = r
    · have HS : Hid (statR l r = if r.cn = true then 3 else 1) := Lib.hid (by rw [statR, if_pos hr, if_pos (hx.1 he)])
      have E := neq_rep_yes he
      clear hr hx he
      generalize statR l r = res at HS ⊢
      go_enter Try.func29, Try.ntmps29
      go_wp2_with (go_at_call 24; refine (HC.out _ (Bel.new _ _)).mono ?_; rintro e W1 ⟨rfl, hb1⟩; have KK := Lib.hid (And.intro ((Bel.new w _).trans hb1) ((hb1.b.block w.heap.size (by simp)).trans (heap_new w _))); have f0 := blkAt KK.out.2 0; have f1 := blkAt KK.out.2 1; have f2 := blkAt KK.out.2 2; have f3 := blkAt KK.out.2 3; have f4 := blkAt KK.out.2 4; have f5 := blkAt KK.out.2 5; have f6 := blkAt KK.out.2 6; have f7 := blkAt KK.out.2 7; simp only [List.getElem?_toArray, List.getElem?_cons_zero, List.getElem?_cons_succ] at f0 f1 f2 f3 f4 f5 f6 f7; clear hb1)
      have KD := Lib.hid (And.intro KK.out.1.drew (show W1.drew.heap[w.heap.size]? = _ from KK.out.2)); replace KK := KD; clear KD
      go_region_with (first | (go_at_call 44; refine (HW.out _ KK.out.1).mono ?_; rintro e V2 ⟨b, rfl, hm, _, hb2⟩; have hlk := look_yes hm HF.out; have M := Lib.hid hm; replace KK := Lib.hid (And.intro (KK.out.1.trans hb2) ((hb2.b.block _ (Array.getElem?_eq_some_iff.1 KK.out.2).1).trans KK.out.2)); have f0 := blkAt KK.out.2 0; have f1 := blkAt KK.out.2 1; have f2 := blkAt KK.out.2 2; have f3 := blkAt KK.out.2 3; have f4 := blkAt KK.out.2 4; have f5 := blkAt KK.out.2 5; have f6 := blkAt KK.out.2 6; have f7 := blkAt KK.out.2 7; simp only [List.getElem?_toArray, List.getElem?_cons_zero, List.getElem?_cons_succ] at f0 f1 f2 f3 f4 f5 f6 f7; clear hm hb2) | (go_at_call 45; refine (ident_f _ _ _ _ _ _ _ _ _).mono ?_; rintro e V2 ⟨rfl, hb2⟩; replace KK := Lib.hid (And.intro (KK.out.1.trans hb2) ((hb2.b.block _ (Array.getElem?_eq_some_iff.1 KK.out.2).1).trans KK.out.2)); have f0 := blkAt KK.out.2 0; have f1 := blkAt KK.out.2 1; have f2 := blkAt KK.out.2 2; have f3 := blkAt KK.out.2 3; have f4 := blkAt KK.out.2 4; have f5 := blkAt KK.out.2 5; have f6 := blkAt KK.out.2 6; have f7 := blkAt KK.out.2 7; simp only [List.getElem?_toArray, List.getElem?_cons_zero, List.getElem?_cons_succ] at f0 f1 f2 f3 f4 f5 f6 f7; (try (have hlk := look_yes (M.out.bel hb2) HF.out)); clear hb2))
      all_goals
        go_wp2
        all_goals
          go_ret
          refine ⟨?_, KK.out.1⟩
          rw [HS.out]
          first | (rw [if_pos (by assumption)]; rfl) | (rw [if_neg (by assumption)]; rfl) | (rw [if_neg (by simp_all)]; rfl)
    · have HS : Hid (statR l r = 2) := Lib.hid (by rw [statR, if_pos hr, if_neg (fun h => he (hx.2 h))])
      have E := neq_rep_no he
      clear hr hx he
      generalize statR l r = res at HS ⊢
      go_enter Try.func29, Try.ntmps29
      go_wp2_with (go_at_call 24; refine (HC.out _ (Bel.new _ _)).mono ?_; rintro e W1 ⟨rfl, hb1⟩; have KK := Lib.hid (And.intro ((Bel.new w _).trans hb1) ((hb1.b.block w.heap.size (by simp)).trans (heap_new w _))); have f0 := blkAt KK.out.2 0; have f1 := blkAt KK.out.2 1; have f2 := blkAt KK.out.2 2; have f3 := blkAt KK.out.2 3; have f4 := blkAt KK.out.2 4; have f5 := blkAt KK.out.2 5; have f6 := blkAt KK.out.2 6; have f7 := blkAt KK.out.2 7; simp only [List.getElem?_toArray, List.getElem?_cons_zero, List.getElem?_cons_succ] at f0 f1 f2 f3 f4 f5 f6 f7; clear hb1)
      have KD := Lib.hid (And.intro KK.out.1.drew (show W1.drew.heap[w.heap.size]? = _ from KK.out.2)); replace KK := KD; clear KD
      go_region_with (first | (go_at_call 44; refine (HW.out _ KK.out.1).mono ?_; rintro e V2 ⟨b, rfl, hm, _, hb2⟩; have hlk := look_yes hm HF.out; have M := Lib.hid hm; replace KK := Lib.hid (And.intro (KK.out.1.trans hb2) ((hb2.b.block _ (Array.getElem?_eq_some_iff.1 KK.out.2).1).trans KK.out.2)); have f0 := blkAt KK.out.2 0; have f1 := blkAt KK.out.2 1; have f2 := blkAt KK.out.2 2; have f3 := blkAt KK.out.2 3; have f4 := blkAt KK.out.2 4; have f5 := blkAt KK.out.2 5; have f6 := blkAt KK.out.2 6; have f7 := blkAt KK.out.2 7; simp only [List.getElem?_toArray, List.getElem?_cons_zero, List.getElem?_cons_succ] at f0 f1 f2 f3 f4 f5 f6 f7; clear hm hb2) | (go_at_call 45; refine (ident_f _ _ _ _ _ _ _ _ _).mono ?_; rintro e V2 ⟨rfl, hb2⟩; replace KK := Lib.hid (And.intro (KK.out.1.trans hb2) ((hb2.b.block _ (Array.getElem?_eq_some_iff.1 KK.out.2).1).trans KK.out.2)); have f0 := blkAt KK.out.2 0; have f1 := blkAt KK.out.2 1; have f2 := blkAt KK.out.2 2; have f3 := blkAt KK.out.2 3; have f4 := blkAt KK.out.2 4; have f5 := blkAt KK.out.2 5; have f6 := blkAt KK.out.2 6; have f7 := blkAt KK.out.2 7; simp only [List.getElem?_toArray, List.getElem?_cons_zero, List.getElem?_cons_succ] at f0 f1 f2 f3 f4 f5 f6 f7; (try (have hlk := look_yes (M.out.bel hb2) HF.out)); clear hb2))
      all_goals
        go_wp2
        go_ret
        exact ⟨by rw [HS.out]; rfl, KK.out.1⟩
  · rw [decide_eq_false hr] at HC
    have HS : Hid (statR l r = 0) := Lib.hid (by rw [statR, if_neg hr])
    clear hr HW
    generalize statR l r = res at HS ⊢
    go_enter Try.func29, Try.ntmps29
    go_wp2_with (go_at_call 24; refine (HC.out _ (Bel.new _ _)).mono ?_; rintro e W1 ⟨rfl, hb1⟩; have KK := Lib.hid (And.intro ((Bel.new w _).trans hb1) ((hb1.b.block w.heap.size (by simp)).trans (heap_new w _))); have f0 := blkAt KK.out.2 0; have f1 := blkAt KK.out.2 1; have f2 := blkAt KK.out.2 2; have f3 := blkAt KK.out.2 3; have f4 := blkAt KK.out.2 4; have f5 := blkAt KK.out.2 5; have f6 := blkAt KK.out.2 6; have f7 := blkAt KK.out.2 7; simp only [List.getElem?_toArray, List.getElem?_cons_zero, List.getElem?_cons_succ] at f0 f1 f2 f3 f4 f5 f6 f7; clear hb1)
    go_ret
    exact ⟨by rw [HS.out]; rfl, KK.out.1⟩
end Go.Proofs.Ytdjgpbanokdnhaa.Pt
