/-
  slices.Index and slices.Contains over reports.
-/
import Derived.Test.YtdjgpbanokdnhaaPtD
namespace Go.Proofs.Ytdjgpbanokdnhaa.Pt
open Go.RowKit

def RetN (w : World) (P : Int → Prop) (e : Ending) (w' : World) : Prop := ∃ n, e = .returned (.int .i64 n) ∧ P n ∧ Bel w w'

set_option maxRecDepth 100000 in
theorem index_f (l : List Rep) (r : Rep) (v : Value) (w : World) (hv : IsL w v l) :
    Calls Try.prog 55 #[v, agR r] w (RetN w fun n => 0 ≤ n ↔ r ∈ l) := by
  obtain ⟨p, cap, rfl, hc, hm, hl, _⟩ := hv
  unfold maxLen at hm
  have HL := Lib.hid hl
  have HP : Hid (∀ n : Int, 0 ≤ n ∧ r ∈ l ∨ n < 0 ∧ ¬ r ∈ l → (0 ≤ n ↔ r ∈ l)) := Lib.hid fun n h => by
    rcases h with ⟨h1, h2⟩ | ⟨h1, h2⟩
    · simp [h1, h2]
    · simp [h2]; omega
  generalize hP : (fun n : Int => 0 ≤ n ↔ r ∈ l) = P
  have HQ : Hid (∀ n : Int, 0 ≤ n ∧ r ∈ l ∨ n < 0 ∧ ¬ r ∈ l → P n) := Lib.hid (by subst hP; exact HP.out)
  clear hl HP hP
  go_enter Try.func55, Try.ntmps55
  go_wp2
  go_loopw [8] (fun i wr => ∃ k : Nat, k ≤ l.length ∧ i = .int .i64 k ∧ (∀ j, j < k → l[j]! ≠ r) ∧ Sb w [(w.heap.size, #[.int .i64 r.ob, .int .i64 r.sq, .int .i64 r.vs, .int .i64 r.dv, .int .i64 r.tm, .int .i64 r.px, .int .i64 r.py, .bool r.cn], 23)] [] wr) (fun i _ => l.length - (intOf i).toNat)
  case atStart => exact ⟨0, by omega, rfl, fun _ h => by omega, (Sb.start w).new _ _⟩
  case round =>
    obtain ⟨k, hk, rfl, hn, hX⟩ := hrel
    have X := Lib.hid hX
    have N := Lib.hid hn
    clear hX hn
    by_cases hlt : k < l.length
    · obtain ⟨g, o, rfl, hg, hat⟩ := isl_open HL.out hlt
      obtain ⟨c0, c1, c2, c3, c4, c5, c6, c7⟩ := (hat.bel hg X.out.bel).c8 hlt
      have F := X.out.facts
      simp only [Facts, cellsAt, Nat.reduceAdd, and_true] at F
      have hk8 : (k : Int) < l.length := by omega
      have hx0 := get_mem hlt
      have hx1 : ∀ x, l[k]! = x → Hid (l[k]! = x) := fun x h => Lib.hid h
      generalize hx : l[k]! = x at c0 c1 c2 c3 c4 c5 c6 c7 hx0
      have HX := hx1 x hx
      clear hat hx hx1
      by_cases he : r = x
      · have E := eq_rep_yes he
        have R : Hid (r ∈ l) := Lib.hid (by rw [he]; exact hx0)
        clear he hx0
        go_wp2
        go_quiet (fail)
        go_wp2
        go_ret
        exact ⟨k, rfl, HQ.out _ (.inl ⟨by omega, R.out⟩), X.out.bel.drewN _⟩
      · have E := eq_rep_no he
        have HE := Lib.hid he
        clear he hx0
        go_wp2
        go_quiet (fail)
        go_wp2
        go_roundw
        case rel => exact ⟨k + 1, by omega, by go_num, fun j hj => by
          rcases Nat.lt_or_ge j k with h | h
          · exact N.out j h
          · rw [show j = k by omega, HX.out]; exact fun e => HE.out e.symm, X.out.next (Bel.drawnN _ _)⟩
        case measure => simp [intOf]; omega
    · have hk8 : ¬ ((k : Int) < l.length) := by omega
      have R := Lib.hid (not_mem_of (by omega) N.out)
      go_wp2
      go_ret
      exact ⟨-1, rfl, HQ.out _ (.inr ⟨by omega, R.out⟩), X.out.bel⟩

set_option maxRecDepth 100000 in
theorem contains0_f (l : List Rep) (r : Rep) (v : Value) (w : World) (hv : IsL w v l) :
    Calls Try.prog 43 #[v, agR r] w (RetB w (.bool (decide (r ∈ l)))) := by
  have HI : Hid (∀ W, Bel w W → Calls Try.prog 55 #[v, agR r] W (RetN W fun n => 0 ≤ n ↔ r ∈ l)) := Lib.hid fun W hb => index_f l r v W (hv.bel hb)
  have HP : Hid (∀ c, decide (r ∈ l) = c ↔ (c = true ↔ r ∈ l)) := Lib.hid fun b => by cases b <;> simp
  generalize decide (r ∈ l) = res at HP ⊢
  clear hv
  go_enter Try.func43, Try.ntmps43
  go_wp2_with (go_at_call 55; refine (HI.out _ (Bel.new _ _)).mono ?_; rintro e w' ⟨n, rfl, hn, hb⟩; have HN := Lib.hid hn; have HB := Lib.hid hb; clear hn hb)
  go_ret
  exact ⟨congrArg (fun b => Ending.returned (.bool b)) ((HP.out (decide (0 ≤ n))).2 (by simpa using HN.out)).symm, (Bel.new w _).trans HB.out⟩

set_option maxRecDepth 100000 in
theorem contains_f (l : List Rep) (r : Rep) (v : Value) (w : World) (hv : IsL w v l) :
    Calls Try.prog 24 #[v, agR r] w (RetB w (.bool (decide (r ∈ l)))) := by
  have HI : Hid (∀ W, Bel w W → Calls Try.prog 43 #[v, agR r] W (RetB W (.bool (decide (r ∈ l))))) := Lib.hid fun W hb => contains0_f l r v W (hv.bel hb)
  generalize decide (r ∈ l) = res at HI ⊢
  clear hv
  go_enter Try.func24, Try.ntmps24
  go_wp2_with (go_at_call 43; refine (HI.out _ (Bel.new _ _)).mono ?_; rintro e w' ⟨rfl, hb⟩; have HB := Lib.hid hb; clear hb)
  go_ret
  exact ⟨rfl, (Bel.new w _).trans HB.out⟩
end Go.Proofs.Ytdjgpbanokdnhaa.Pt
