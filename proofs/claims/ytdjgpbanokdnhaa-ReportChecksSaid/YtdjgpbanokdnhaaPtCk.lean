/-
  Check and CheckExchange; the walk of ReportChecks.
-/
import Derived.Test.YtdjgpbanokdnhaaPtWi
namespace Go.Proofs.Ytdjgpbanokdnhaa.Pt
open Go.RowKit
attribute [local go_sem ↓] Go.wp_at_zero Go.wp_at_succ

abbrev agX (a b c d e : Int) : Value := .agg #[.int .i64 a, .int .i64 b, .int .i64 c, .int .i64 d, .int .i64 e]
/-- An exchange in a block of the call's own. -/
def Ex (V : World) (g : Nat) (a b c d e : Int) : Prop := V.heap[g]? = some (.cells #[.int .i64 a, .int .i64 b, .int .i64 c, .int .i64 d, .int .i64 e] 25 (0, 0))
theorem Ex.next {V V' : World} {g : Nat} {a b c d e : Int} (h : Ex V g a b c d e) (hb : Bel V V') : Ex V' g a b c d e := (hb.b.block _ (Array.getElem?_eq_some_iff.1 h).1).trans h
theorem Ex.at5 {V : World} {g : Nat} {a b c d e : Int} (h : Ex V g a b c d e) : V.cell? ⟨g, 0, none⟩ = some (.int .i64 a) ∧ V.cell? ⟨g, 1, none⟩ = some (.int .i64 b) ∧ V.cell? ⟨g, 2, none⟩ = some (.int .i64 c) ∧ V.cell? ⟨g, 3, none⟩ = some (.int .i64 d) ∧ V.cell? ⟨g, 4, none⟩ = some (.int .i64 e) :=
  ⟨blkAt h 0, blkAt h 1, blkAt h 2, blkAt h 3, blkAt h 4⟩

def code7 (p1 p2 p3 p4 p5 p6 p7 : Bool) : Int := if p1 = false then 27 else if (p2 && p3 && p4) = false then 2 else if p5 = false then 26 else if (p6 && p7) = false then 2 else 0
def code5 (q1 q2 q3 q4 q5 : Bool) (e : Bool) : Int := if (q1 && q2) = false then 2 else if e = true then 8 else if (q3 && q4 && q5) = false then 26 else 0
def chkR (r : Rep) : Int := code7 (inR r.ob 1 1073741824) (inR r.sq 0 1073741824) (inR r.vs 0 1073741824) (inR r.dv 0 1073741824) (inR r.tm 0 1073741824) (inR r.px (-1048576) 1048576) (inR r.py (-1048576) 1048576)
def chkX (a b c d e : Int) : Int := code5 (inR a 0 1073741824) (inR b 0 1073741824) (inR c 0 1073741824) (inR d 0 1073741824) (inR e 0 1073741824) (a == b)

set_option maxHeartbeats 4000000 in
set_option maxRecDepth 100000 in
theorem check_w (r : Rep) (w : World) (b1 b2 b3 b4 : Bool)
    (H1 : ∀ (W : World) (A : Nat), W.heap.size = A → Calls Try.prog 36 #[.int .i64 1, .int .i64 1073741824, .slice (some ⟨A, 0, none⟩) 1 1] (W.alloc (.cells #[.int .i64 r.ob] 3)) (RetB (W.alloc (.cells #[.int .i64 r.ob] 3)) (.bool b1)))
    (H2 : ∀ (W : World) (A : Nat), W.heap.size = A → Calls Try.prog 36 #[.int .i64 0, .int .i64 1073741824, .slice (some ⟨A, 0, none⟩) 3 3] (W.alloc (.cells #[.int .i64 r.sq, .int .i64 r.vs, .int .i64 r.dv] 3)) (RetB (W.alloc (.cells #[.int .i64 r.sq, .int .i64 r.vs, .int .i64 r.dv] 3)) (.bool b2)))
    (H3 : ∀ (W : World) (A : Nat), W.heap.size = A → Calls Try.prog 36 #[.int .i64 0, .int .i64 1073741824, .slice (some ⟨A, 0, none⟩) 1 1] (W.alloc (.cells #[.int .i64 r.tm] 3)) (RetB (W.alloc (.cells #[.int .i64 r.tm] 3)) (.bool b3)))
    (H4 : ∀ (W : World) (A : Nat), W.heap.size = A → Calls Try.prog 36 #[.int .i64 (-1048576), .int .i64 1048576, .slice (some ⟨A, 0, none⟩) 2 2] (W.alloc (.cells #[.int .i64 r.px, .int .i64 r.py] 3)) (RetB (W.alloc (.cells #[.int .i64 r.px, .int .i64 r.py] 3)) (.bool b4))) :
    Calls Try.prog 15 #[agR r] w (RetB w (.int .i64 (if b1 = false then 27 else if b2 = false then 2 else if b3 = false then 26 else if b4 = false then 2 else 0))) := by
  have C1 := Lib.hid H1
  have C2 := Lib.hid H2
  have C3 := Lib.hid H3
  have C4 := Lib.hid H4
  have B : Hid (Bel w (w.alloc (.cells #[.int .i64 r.ob, .int .i64 r.sq, .int .i64 r.vs, .int .i64 r.dv, .int .i64 r.tm, .int .i64 r.px, .int .i64 r.py, .bool r.cn] 23))) := Lib.hid (Bel.new w _)
  have X : Hid (Bx (w.alloc (.cells #[.int .i64 r.ob, .int .i64 r.sq, .int .i64 r.vs, .int .i64 r.dv, .int .i64 r.tm, .int .i64 r.px, .int .i64 r.py, .bool r.cn] 23)) w.heap.size r) := Lib.hid (heap_new w _)
  clear H1 H2 H3 H4
  cases b1
  · simp only [if_true, if_false, reduceCtorEq, Bool.true_eq_false]
    go_enter Try.func15, Try.ntmps15
    go_wp2_with (go_at_call 36; first
      | ((with_reducible refine (C1.out _ _ (by simp)).mono ?_); rintro e V ⟨rfl, hb⟩; replace B := Lib.hid ((B.out.alloc _).trans hb); replace X := Lib.hid ((X.out.next (Bel.new _ _)).next hb); clear hb; obtain ⟨f0, f1, f2, f3, f4, f5, f6, f7⟩ := X.out.at8)
      | ((with_reducible refine (C2.out _ _ (by simp)).mono ?_); rintro e V ⟨rfl, hb⟩; replace B := Lib.hid ((B.out.alloc _).trans hb); replace X := Lib.hid ((X.out.next (Bel.new _ _)).next hb); clear hb f0 f1 f2 f3 f4 f5 f6 f7; obtain ⟨f0, f1, f2, f3, f4, f5, f6, f7⟩ := X.out.at8)
      | ((with_reducible refine (C3.out _ _ (by simp)).mono ?_); rintro e V ⟨rfl, hb⟩; replace B := Lib.hid ((B.out.alloc _).trans hb); replace X := Lib.hid ((X.out.next (Bel.new _ _)).next hb); clear hb f0 f1 f2 f3 f4 f5 f6 f7; obtain ⟨f0, f1, f2, f3, f4, f5, f6, f7⟩ := X.out.at8)
      | ((with_reducible refine (C4.out _ _ (by simp)).mono ?_); rintro e V ⟨rfl, hb⟩; replace B := Lib.hid ((B.out.alloc _).trans hb); replace X := Lib.hid ((X.out.next (Bel.new _ _)).next hb); clear hb f0 f1 f2 f3 f4 f5 f6 f7; obtain ⟨f0, f1, f2, f3, f4, f5, f6, f7⟩ := X.out.at8))
    go_ret
    exact ⟨rfl, B.out⟩
  · cases b2
    · simp only [if_true, if_false, reduceCtorEq, Bool.true_eq_false]
      go_enter Try.func15, Try.ntmps15
      go_wp2_with (go_at_call 36; first
        | ((with_reducible refine (C1.out _ _ (by simp)).mono ?_); rintro e V ⟨rfl, hb⟩; replace B := Lib.hid ((B.out.alloc _).trans hb); replace X := Lib.hid ((X.out.next (Bel.new _ _)).next hb); clear hb; obtain ⟨f0, f1, f2, f3, f4, f5, f6, f7⟩ := X.out.at8)
        | ((with_reducible refine (C2.out _ _ (by simp)).mono ?_); rintro e V ⟨rfl, hb⟩; replace B := Lib.hid ((B.out.alloc _).trans hb); replace X := Lib.hid ((X.out.next (Bel.new _ _)).next hb); clear hb f0 f1 f2 f3 f4 f5 f6 f7; obtain ⟨f0, f1, f2, f3, f4, f5, f6, f7⟩ := X.out.at8)
        | ((with_reducible refine (C3.out _ _ (by simp)).mono ?_); rintro e V ⟨rfl, hb⟩; replace B := Lib.hid ((B.out.alloc _).trans hb); replace X := Lib.hid ((X.out.next (Bel.new _ _)).next hb); clear hb f0 f1 f2 f3 f4 f5 f6 f7; obtain ⟨f0, f1, f2, f3, f4, f5, f6, f7⟩ := X.out.at8)
        | ((with_reducible refine (C4.out _ _ (by simp)).mono ?_); rintro e V ⟨rfl, hb⟩; replace B := Lib.hid ((B.out.alloc _).trans hb); replace X := Lib.hid ((X.out.next (Bel.new _ _)).next hb); clear hb f0 f1 f2 f3 f4 f5 f6 f7; obtain ⟨f0, f1, f2, f3, f4, f5, f6, f7⟩ := X.out.at8))
      go_ret
      exact ⟨rfl, B.out⟩
    · cases b3
      · simp only [if_true, if_false, reduceCtorEq, Bool.true_eq_false]
        go_enter Try.func15, Try.ntmps15
        go_wp2_with (go_at_call 36; first
          | ((with_reducible refine (C1.out _ _ (by simp)).mono ?_); rintro e V ⟨rfl, hb⟩; replace B := Lib.hid ((B.out.alloc _).trans hb); replace X := Lib.hid ((X.out.next (Bel.new _ _)).next hb); clear hb; obtain ⟨f0, f1, f2, f3, f4, f5, f6, f7⟩ := X.out.at8)
          | ((with_reducible refine (C2.out _ _ (by simp)).mono ?_); rintro e V ⟨rfl, hb⟩; replace B := Lib.hid ((B.out.alloc _).trans hb); replace X := Lib.hid ((X.out.next (Bel.new _ _)).next hb); clear hb f0 f1 f2 f3 f4 f5 f6 f7; obtain ⟨f0, f1, f2, f3, f4, f5, f6, f7⟩ := X.out.at8)
          | ((with_reducible refine (C3.out _ _ (by simp)).mono ?_); rintro e V ⟨rfl, hb⟩; replace B := Lib.hid ((B.out.alloc _).trans hb); replace X := Lib.hid ((X.out.next (Bel.new _ _)).next hb); clear hb f0 f1 f2 f3 f4 f5 f6 f7; obtain ⟨f0, f1, f2, f3, f4, f5, f6, f7⟩ := X.out.at8)
          | ((with_reducible refine (C4.out _ _ (by simp)).mono ?_); rintro e V ⟨rfl, hb⟩; replace B := Lib.hid ((B.out.alloc _).trans hb); replace X := Lib.hid ((X.out.next (Bel.new _ _)).next hb); clear hb f0 f1 f2 f3 f4 f5 f6 f7; obtain ⟨f0, f1, f2, f3, f4, f5, f6, f7⟩ := X.out.at8))
        go_ret
        exact ⟨rfl, B.out⟩
      · cases b4
        · simp only [if_true, if_false, reduceCtorEq, Bool.true_eq_false]
          go_enter Try.func15, Try.ntmps15
          go_wp2_with (go_at_call 36; first
            | ((with_reducible refine (C1.out _ _ (by simp)).mono ?_); rintro e V ⟨rfl, hb⟩; replace B := Lib.hid ((B.out.alloc _).trans hb); replace X := Lib.hid ((X.out.next (Bel.new _ _)).next hb); clear hb; obtain ⟨f0, f1, f2, f3, f4, f5, f6, f7⟩ := X.out.at8)
            | ((with_reducible refine (C2.out _ _ (by simp)).mono ?_); rintro e V ⟨rfl, hb⟩; replace B := Lib.hid ((B.out.alloc _).trans hb); replace X := Lib.hid ((X.out.next (Bel.new _ _)).next hb); clear hb f0 f1 f2 f3 f4 f5 f6 f7; obtain ⟨f0, f1, f2, f3, f4, f5, f6, f7⟩ := X.out.at8)
            | ((with_reducible refine (C3.out _ _ (by simp)).mono ?_); rintro e V ⟨rfl, hb⟩; replace B := Lib.hid ((B.out.alloc _).trans hb); replace X := Lib.hid ((X.out.next (Bel.new _ _)).next hb); clear hb f0 f1 f2 f3 f4 f5 f6 f7; obtain ⟨f0, f1, f2, f3, f4, f5, f6, f7⟩ := X.out.at8)
            | ((with_reducible refine (C4.out _ _ (by simp)).mono ?_); rintro e V ⟨rfl, hb⟩; replace B := Lib.hid ((B.out.alloc _).trans hb); replace X := Lib.hid ((X.out.next (Bel.new _ _)).next hb); clear hb f0 f1 f2 f3 f4 f5 f6 f7; obtain ⟨f0, f1, f2, f3, f4, f5, f6, f7⟩ := X.out.at8))
          go_ret
          exact ⟨rfl, B.out⟩
        · simp only [if_true, if_false, reduceCtorEq, Bool.true_eq_false]
          go_enter Try.func15, Try.ntmps15
          go_wp2_with (go_at_call 36; first
            | ((with_reducible refine (C1.out _ _ (by simp)).mono ?_); rintro e V ⟨rfl, hb⟩; replace B := Lib.hid ((B.out.alloc _).trans hb); replace X := Lib.hid ((X.out.next (Bel.new _ _)).next hb); clear hb; obtain ⟨f0, f1, f2, f3, f4, f5, f6, f7⟩ := X.out.at8)
            | ((with_reducible refine (C2.out _ _ (by simp)).mono ?_); rintro e V ⟨rfl, hb⟩; replace B := Lib.hid ((B.out.alloc _).trans hb); replace X := Lib.hid ((X.out.next (Bel.new _ _)).next hb); clear hb f0 f1 f2 f3 f4 f5 f6 f7; obtain ⟨f0, f1, f2, f3, f4, f5, f6, f7⟩ := X.out.at8)
            | ((with_reducible refine (C3.out _ _ (by simp)).mono ?_); rintro e V ⟨rfl, hb⟩; replace B := Lib.hid ((B.out.alloc _).trans hb); replace X := Lib.hid ((X.out.next (Bel.new _ _)).next hb); clear hb f0 f1 f2 f3 f4 f5 f6 f7; obtain ⟨f0, f1, f2, f3, f4, f5, f6, f7⟩ := X.out.at8)
            | ((with_reducible refine (C4.out _ _ (by simp)).mono ?_); rintro e V ⟨rfl, hb⟩; replace B := Lib.hid ((B.out.alloc _).trans hb); replace X := Lib.hid ((X.out.next (Bel.new _ _)).next hb); clear hb f0 f1 f2 f3 f4 f5 f6 f7; obtain ⟨f0, f1, f2, f3, f4, f5, f6, f7⟩ := X.out.at8))
          go_ret
          exact ⟨rfl, B.out⟩
theorem check_f (r : Rep) (w : World) : Calls Try.prog 15 #[agR r] w (RetB w (.int .i64 (chkR r))) :=
  check_w r w _ _ _ _ (fun W A h => w1_f r.ob 1 1073741824 W A h) (fun W A h => w3_f r.sq r.vs r.dv 0 1073741824 W A h) (fun W A h => w1_f r.tm 0 1073741824 W A h) (fun W A h => w2_f r.px r.py (-1048576) 1048576 W A h)

set_option maxHeartbeats 4000000 in
set_option maxRecDepth 100000 in
theorem checkX_w (x y c d z : Int) (w : World) (b1 b2 : Bool)
    (H1 : ∀ (W : World) (A : Nat), W.heap.size = A → Calls Try.prog 36 #[.int .i64 0, .int .i64 1073741824, .slice (some ⟨A, 0, none⟩) 2 2] (W.alloc (.cells #[.int .i64 x, .int .i64 y] 3)) (RetB (W.alloc (.cells #[.int .i64 x, .int .i64 y] 3)) (.bool b1)))
    (H2 : ∀ (W : World) (A : Nat), W.heap.size = A → Calls Try.prog 36 #[.int .i64 0, .int .i64 1073741824, .slice (some ⟨A, 0, none⟩) 3 3] (W.alloc (.cells #[.int .i64 c, .int .i64 d, .int .i64 z] 3)) (RetB (W.alloc (.cells #[.int .i64 c, .int .i64 d, .int .i64 z] 3)) (.bool b2))) :
    Calls Try.prog 16 #[agX x y c d z] w (RetB w (.int .i64 (if b1 = false then 2 else if (x == y) = true then 8 else if b2 = false then 26 else 0))) := by
  have C1 := Lib.hid H1
  have C2 := Lib.hid H2
  have B : Hid (Bel w (w.alloc (.cells #[.int .i64 x, .int .i64 y, .int .i64 c, .int .i64 d, .int .i64 z] 25))) := Lib.hid (Bel.new w _)
  have X : Hid (Ex (w.alloc (.cells #[.int .i64 x, .int .i64 y, .int .i64 c, .int .i64 d, .int .i64 z] 25)) w.heap.size x y c d z) := Lib.hid (heap_new w _)
  clear H1 H2
  cases b1
  · simp only [if_true, if_false, reduceCtorEq, Bool.true_eq_false]
    go_enter Try.func16, Try.ntmps16
    go_wp2_with (go_at_call 36; ((with_reducible refine (C1.out _ _ (by simp)).mono ?_); rintro e V ⟨rfl, hb⟩; replace B := Lib.hid ((B.out.alloc _).trans hb); replace X := Lib.hid ((X.out.next (Bel.new _ _)).next hb); clear hb; obtain ⟨f0, f1, f2, f3, f4⟩ := X.out.at5))
    go_ret
    exact ⟨rfl, B.out⟩
  · by_cases he : x = y
    · subst he
      simp only [if_true, if_false, reduceCtorEq, Bool.true_eq_false, beq_self_eq_true]
      go_enter Try.func16, Try.ntmps16
      go_wp2_with (go_at_call 36; ((with_reducible refine (C1.out _ _ (by simp)).mono ?_); rintro e V ⟨rfl, hb⟩; replace B := Lib.hid ((B.out.alloc _).trans hb); replace X := Lib.hid ((X.out.next (Bel.new _ _)).next hb); clear hb; obtain ⟨f0, f1, f2, f3, f4⟩ := X.out.at5))
      go_ret
      exact ⟨rfl, B.out⟩
    · have he2 : (x == y) = false := by simp [he]
      rw [he2]
      cases b2
      all_goals
        simp only [if_true, if_false, reduceCtorEq, Bool.true_eq_false, Bool.false_eq_true]
        go_enter Try.func16, Try.ntmps16
        go_wp2_with (go_at_call 36; first
          | ((with_reducible refine (C1.out _ _ (by simp)).mono ?_); rintro e V ⟨rfl, hb⟩; replace B := Lib.hid ((B.out.alloc _).trans hb); replace X := Lib.hid ((X.out.next (Bel.new _ _)).next hb); clear hb; obtain ⟨f0, f1, f2, f3, f4⟩ := X.out.at5)
          | ((with_reducible refine (C2.out _ _ (by simp)).mono ?_); rintro e V ⟨rfl, hb⟩; replace B := Lib.hid ((B.out.alloc _).trans hb); replace X := Lib.hid ((X.out.next (Bel.new _ _)).next hb); clear hb f0 f1 f2 f3 f4; obtain ⟨f0, f1, f2, f3, f4⟩ := X.out.at5))
        go_ret
        exact ⟨rfl, B.out⟩
theorem checkX_f (x y c d z : Int) (w : World) : Calls Try.prog 16 #[agX x y c d z] w (RetB w (.int .i64 (chkX x y c d z))) :=
  checkX_w x y c d z w _ _ (fun W A h => w2_f x y 0 1073741824 W A h) (fun W A h => w3_f c d z 0 1073741824 W A h)
end Go.Proofs.Ytdjgpbanokdnhaa.Pt
