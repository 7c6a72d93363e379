/-
  Lists of reports and of numbers compared member by member.
-/
import Derived.Test.YtdjgpbanokdnhaaPtC
namespace Go.Proofs.Ytdjgpbanokdnhaa.Pt
open Go.RowKit

theorem neq_rep (x y : Rep) (w : World) : Sem.run Try.prog (binOp .neq 23 (agR x) (agR y)) w = .ok (.bool (!decide (x = y))) w := by
  have h := eq_rep x y w
  rw [run_eql_struct] at h
  rw [run_neq_struct]
  generalize Sem.run Try.prog (Op.equalIn 10000 23 (agR x) (agR y)) w = q at h ⊢
  cases q with
  | ok b w1 => simp at h; simp [h]
  | halt a b => simp [Result.andThen] at h
theorem neq_rep_yes {x y : Rep} (h : x = y) (w : World) : Sem.run Try.prog (binOp .neq 23 (agR x) (agR y)) w = .ok (.bool false) w := by rw [neq_rep, decide_eq_true h]; rfl
theorem neq_rep_no {x y : Rep} (h : ¬ x = y) (w : World) : Sem.run Try.prog (binOp .neq 23 (agR x) (agR y)) w = .ok (.bool true) w := by rw [neq_rep, decide_eq_false h]; rfl

/-- What lies behind a list's slice, where the list has a member. -/
theorem isl_open {w : World} {p : Option Addr} {l : List Rep} (h : l = [] ∨ ∃ g o, p = some ⟨g, o, none⟩ ∧ g < w.heap.size ∧ LsAt w g o l) {k : Nat} (hk : k < l.length) : ∃ g o, p = some ⟨g, o, none⟩ ∧ g < w.heap.size ∧ LsAt w g o l := by
  rcases h with h | h
  · rw [h] at hk; simp at hk
  · exact h
theorem ext_of {a b : List Rep} (h : a.length = b.length) (k : Nat) (hk : b.length ≤ k) (e : ∀ j, j < k → a[j]! = b[j]!) : a = b :=
  List.ext_getElem h fun j h1 h2 => by
    have := e j (by omega)
    rwa [getElem!_pos a j h1, getElem!_pos b j h2] at this
theorem ne_of {a b : List Rep} {k : Nat} (h : ¬ a[k]! = b[k]!) : ¬ a = b := fun e => h (by rw [e])

set_option maxRecDepth 100000 in
theorem same_f (a b : List Rep) (v u : Value) (w : World) (hv : IsL w v a) (hu : IsL w u b) :
    Calls Try.prog 19 #[v, u] w (RetB w (.bool (decide (a = b)))) := by
  obtain ⟨p, cap, rfl, hc, hm, hl, _⟩ := hv
  obtain ⟨q, cbp, rfl, hd, hn, hr, _⟩ := hu
  unfold maxLen at hm hn
  have HL := Lib.hid hl
  have HM := Lib.hid hr
  clear hl hr
  have HP : Hid (∀ c, decide (a = b) = c ↔ (c = true ↔ a = b)) := Lib.hid fun b => by cases b <;> simp
  generalize decide (a = b) = res at HP ⊢
  by_cases hab : a.length = b.length
  · have HAB := Lib.hid hab
    have hi : ((a.length : Int) == b.length) = true := by simp [hab]
    have hi2 : ((a.length : Int) != b.length) = false := by simp [hab]
    clear hab
    go_enter Try.func19, Try.ntmps19
    go_wp2
    go_loopw [5] (fun i wr => ∃ k : Nat, k ≤ a.length ∧ i = .int .i64 k ∧ (∀ j, j < k → a[j]! = b[j]!) ∧ Sb w [] [] wr) (fun i _ => a.length - (intOf i).toNat)
    case atStart => exact ⟨0, by omega, rfl, fun _ h => by omega, Sb.start w⟩
    case round =>
      obtain ⟨k, hk, rfl, hn, hX⟩ := hrel
      have X := Lib.hid hX
      have N := Lib.hid hn
      clear hX hn
      by_cases hlt : k < a.length
      · have hlt2 : k < b.length := by rw [← HAB.out]; exact hlt
        obtain ⟨g, o, rfl, hg, hat⟩ := isl_open HL.out hlt
        obtain ⟨g', o', rfl, hg', hat'⟩ := isl_open HM.out hlt2
        obtain ⟨c0, c1, c2, c3, c4, c5, c6, c7⟩ := (hat.bel hg X.out.bel).c8 hlt
        obtain ⟨d0, d1, d2, d3, d4, d5, d6, d7⟩ := (hat'.bel hg' X.out.bel).c8 hlt2
        have hk8 : (k : Int) < a.length := by omega
        have hk9 : (k : Int) < b.length := by omega
        have hx1 : ∀ x, a[k]! = x → Hid (a[k]! = x) := fun x h => Lib.hid h
        have hy1 : ∀ x, b[k]! = x → Hid (b[k]! = x) := fun x h => Lib.hid h
        generalize hx : a[k]! = x at c0 c1 c2 c3 c4 c5 c6 c7
        generalize hy : b[k]! = y at d0 d1 d2 d3 d4 d5 d6 d7
        have HX := hx1 x hx
        have HY := hy1 y hy
        clear hat hat' hx hx1 hy hy1
        by_cases he : x = y
        · have E := neq_rep_yes he
          have HE := Lib.hid he
          clear he
          go_wp2
          go_quiet (fail)
          go_wp2
          go_roundw
          case rel => exact ⟨k + 1, by omega, by go_num, fun j hj => by
            rcases Nat.lt_or_ge j k with h | h
            · exact N.out j h
            · rw [show j = k by omega, HX.out, HY.out]; exact HE.out, X.out.next (Bel.drawnN _ _)⟩
          case measure => simp [intOf]; omega
        · have E := neq_rep_no he
          have R : Hid (res = false) := Lib.hid ((HP.out false).2 (by simp; exact ne_of (k := k) (by rw [HX.out, HY.out]; exact he)))
          clear he
          go_wp2
          go_quiet (fail)
          go_wp2
          go_ret
          exact ⟨by rw [R.out]; rfl, X.out.bel.drewN _⟩
      · have hk8 : ¬ ((k : Int) < a.length) := by omega
        have R : Hid (res = true) := Lib.hid ((HP.out true).2 (by simp; exact ext_of HAB.out k (by rw [← HAB.out]; omega) N.out))
        go_wp2
        go_ret
        exact ⟨by rw [R.out]; rfl, X.out.bel⟩
  · have R : Hid (res = false) := Lib.hid ((HP.out false).2 (by simp; exact fun h => hab (by rw [h])))
    have hi : ((a.length : Int) == b.length) = false := by simp; omega
    have hi2 : ((a.length : Int) != b.length) = true := by simp; omega
    go_enter Try.func19, Try.ntmps19
    go_wp2
    go_ret
    exact ⟨by rw [R.out]; rfl, Bel.refl _⟩
end Go.Proofs.Ytdjgpbanokdnhaa.Pt
