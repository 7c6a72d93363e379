/-
  Slices of reports; '==' of reports; lists are told member by member.
-/
import Derived.Test.YtdjgpbanokdnhaaPtB
namespace Go.Proofs.Ytdjgpbanokdnhaa.Pt
open Go.RowKit

theorem compare_f (x y : Rep) (w : World) : Calls Try.prog 17 #[agR x, agR y] w (RetB w (.int .i64 (cmpR x y))) :=
  compare_w _ _ _ _ _ _ _ _ _ _ _ _ _ _ x.one y.one _ _ _ w (fun V _ => fields_f x V) (fun V _ => fields_f y V) (fun V _ _ _ hg hh => (scmp_r x y V hg hh).mono fun _ _ ⟨he, hw⟩ => ⟨he, by rw [← hw]; exact Bel.refl _⟩)

/-- '==' of two reports. -/
theorem eq_rep (x y : Rep) (w : World) : Sem.run Try.prog (binOp .eql 23 (agR x) (agR y)) w = .ok (.bool (decide (x = y))) w := by
  have u3 := Try.underlying3
  have u4 := Try.underlying4
  have hS : Try.prog.underlying 23 = some (.struct (Try.prog.fieldsOf 23)) := by kernel_rfl
  have hp : Try.prog.stoodInHeld 23 = false := by kernel_rfl
  rw [run_eql_struct, show (10000 : Nat) = 9999 + 1 from rfl, run_equalIn_agg w 9999 23 _ _ hS hp]
  simp only [Program.fieldsOf, Try.underlying23]
  have hx : decide (x = y) = (x.ob == y.ob && (x.sq == y.sq && (x.vs == y.vs && (x.dv == y.dv && (x.tm == y.tm && (x.px == y.px && (x.py == y.py && (x.cn == y.cn)))))))) := by
    obtain ⟨a1, a2, a3, a4, a5, a6, a7, a8⟩ := x
    obtain ⟨b1, b2, b3, b4, b5, b6, b7, b8⟩ := y
    rw [Bool.eq_iff_iff]
    simp [Rep.ob, Rep.sq, Rep.vs, Rep.dv, Rep.tm, Rep.px, Rep.py, Rep.cn]
  rw [hx]
  generalize x.ob = a1, x.sq = a2, x.vs = a3, x.dv = a4, x.tm = a5, x.px = a6, x.py = a7, x.cn = a8, y.ob = b1, y.sq = b2, y.vs = b3, y.dv = b4, y.tm = b5, y.px = b6, y.py = b7, y.cn = b8
  clear hx
  go_simp
  repeat' split
  all_goals simp_all
theorem eq_rep_yes {x y : Rep} (h : x = y) (w : World) : Sem.run Try.prog (binOp .eql 23 (agR x) (agR y)) w = .ok (.bool true) w := by rw [eq_rep, decide_eq_true h]
theorem eq_rep_no {x y : Rep} (h : ¬ x = y) (w : World) : Sem.run Try.prog (binOp .eql 23 (agR x) (agR y)) w = .ok (.bool false) w := by rw [eq_rep, decide_eq_false h]

/-- Element by element, the reports of a list lie at a block's cells from o on. -/
def LsAt (w : World) (g o : Nat) (l : List Rep) : Prop := ∀ i, i < l.length → ∀ c, c < 8 → w.cell? ⟨g, o + i * 8 + c, none⟩ = some (encR l[i]!)[c]!
/-- A slice that holds the reports of a list. -/
def IsL (w : World) (v : Value) (l : List Rep) : Prop :=
  ∃ p cap, v = .slice p l.length cap ∧ l.length ≤ cap ∧ cap ≤ maxLen ∧ (l = [] ∨ ∃ g o, p = some ⟨g, o, none⟩ ∧ g < w.heap.size ∧ LsAt w g o l) ∧ (p = none → cap = 0)
theorem LsAt.bel {w w' : World} {g o : Nat} {l : List Rep} (h : LsAt w g o l) (hg : g < w.heap.size) (hb : Bel w w') : LsAt w' g o l := fun i hi c hc => (hb.cell hg).trans (h i hi c hc)
theorem IsL.bel {w w' : World} {v : Value} {l : List Rep} (h : IsL w v l) (hb : Bel w w') : IsL w' v l := by
  obtain ⟨p, cap, h1, h2, h3, h4, h5⟩ := h
  refine ⟨p, cap, h1, h2, h3, ?_, h5⟩
  rcases h4 with h | ⟨g, o, h5, h6, h7⟩
  · exact .inl h
  · exact .inr ⟨g, o, h5, Nat.lt_of_lt_of_le h6 hb.size, h7.bel h6 hb⟩

theorem LsAt.c8 {w : World} {g o : Nat} {l : List Rep} (h : LsAt w g o l) {i : Nat} (hi : i < l.length) : let x := l[i]!
    w.cell? ⟨g, o + i * 8, none⟩ = some (.int .i64 x.ob) ∧ w.cell? ⟨g, o + i * 8 + 1, none⟩ = some (.int .i64 x.sq) ∧ w.cell? ⟨g, o + i * 8 + 2, none⟩ = some (.int .i64 x.vs) ∧ w.cell? ⟨g, o + i * 8 + 3, none⟩ = some (.int .i64 x.dv) ∧
    w.cell? ⟨g, o + i * 8 + 4, none⟩ = some (.int .i64 x.tm) ∧ w.cell? ⟨g, o + i * 8 + 5, none⟩ = some (.int .i64 x.px) ∧ w.cell? ⟨g, o + i * 8 + 6, none⟩ = some (.int .i64 x.py) ∧ w.cell? ⟨g, o + i * 8 + 7, none⟩ = some (.bool x.cn) :=
  ⟨h i hi 0 (by omega), h i hi 1 (by omega), h i hi 2 (by omega), h i hi 3 (by omega), h i hi 4 (by omega), h i hi 5 (by omega), h i hi 6 (by omega), h i hi 7 (by omega)⟩

set_option maxRecDepth 100000 in
theorem has_f (l : List Rep) (r : Rep) (v : Value) (w : World) (hv : IsL w v l) :
    Calls Try.prog 25 #[v, agR r] w (RetB w (.bool (decide (r ∈ l)))) := by
  obtain ⟨p, cap, rfl, hc, hm, hl, _⟩ := hv
  unfold maxLen at hm
  have HL := Lib.hid hl
  clear hl
  have HP : Hid (∀ b, decide (r ∈ l) = b ↔ (b = true ↔ r ∈ l)) := Lib.hid fun b => by cases b <;> simp
  generalize decide (r ∈ l) = res at HP ⊢
  go_enter Try.func25, Try.ntmps25
  go_wp2
  go_loopw [5] (fun i wr => ∃ k : Nat, k ≤ l.length ∧ i = .int .i64 k ∧ (∀ j, j < k → l[j]! ≠ r) ∧ Sb w [(w.heap.size, #[.int .i64 r.ob, .int .i64 r.sq, .int .i64 r.vs, .int .i64 r.dv, .int .i64 r.tm, .int .i64 r.px, .int .i64 r.py, .bool r.cn], 23)] [] wr) (fun i _ => l.length - (intOf i).toNat)
  case atStart => exact ⟨0, by omega, rfl, fun _ h => by omega, (Sb.start w).new _ _⟩
  case round =>
    obtain ⟨k, hk, rfl, hn, hX⟩ := hrel
    have X := Lib.hid hX
    have N := Lib.hid hn
    clear hX hn
    by_cases hlt : k < l.length
    · obtain ⟨g, o, rfl, hg, hat⟩ : ∃ g o, p = some ⟨g, o, none⟩ ∧ g < w.heap.size ∧ LsAt w g o l := by
        rcases HL.out with h | h
        · rw [h] at hlt; simp at hlt
        · exact h
      obtain ⟨c0, c1, c2, c3, c4, c5, c6, c7⟩ := (hat.bel hg X.out.bel).c8 hlt
      have F := X.out.facts
      simp only [Facts, cellsAt, Nat.reduceAdd, and_true] at F
      have hk8 : (k : Int) < l.length := by omega
      have hx0 := get_mem hlt
      have hx1 : ∀ x, l[k]! = x → Hid (l[k]! = x) := fun x h => Lib.hid h
      generalize hx : l[k]! = x at c0 c1 c2 c3 c4 c5 c6 c7 hx0
      have HX := hx1 x hx
      clear hat hx hx1
      by_cases he : x = r
      · have E := eq_rep_yes he
        have R : Hid (res = true) := Lib.hid ((HP.out true).2 ⟨fun _ => by rw [← he]; exact hx0, fun _ => rfl⟩)
        clear he hx0
        go_wp2
        go_quiet (fail)
        go_wp2
        go_ret
        exact ⟨by rw [R.out]; rfl, X.out.bel.drewN _⟩
      · have E := eq_rep_no he
        have HE := Lib.hid he
        clear he hx0
        go_wp2
        go_quiet (fail)
        go_wp2
        go_roundw
        case rel => exact ⟨k + 1, by omega, by go_num, fun j hj => by
          rcases Nat.lt_or_ge j k with h | h
          · exact N.out j h
          · rw [show j = k by omega, HX.out]; exact HE.out, X.out.next (Bel.drawnN _ _)⟩
        case measure => simp [intOf]; omega
    · have hk8 : ¬ ((k : Int) < l.length) := by omega
      have R : Hid (res = false) := Lib.hid ((HP.out false).2 (by simp [not_mem_of (by omega) N.out]))
      go_wp2
      go_ret
      exact ⟨by rw [R.out]; rfl, X.out.bel⟩
end Go.Proofs.Ytdjgpbanokdnhaa.Pt
