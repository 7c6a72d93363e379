/-
  slices.Compact over reports.
-/
import Derived.Test.YtdjgpbanokdnhaaPtL
namespace Go.Proofs.Ytdjgpbanokdnhaa.Pt
open Go.RowKit

/-- A slice of the caller's own comes back. -/
def RetO (w0 : World) (l : List Rep) (e : Ending) (w' : World) : Prop := ∃ r, e = .returned r ∧ Own w0 w' r l ∧ Bel w0 w'
theorem LsAt.c8at {w : World} {g o : Nat} {l : List Rep} (h : LsAt w g o l) {i : Nat} (hi : i < l.length) {A : Nat} (hA : o + i * 8 = A) : let x := l[i]!
    w.cell? ⟨g, A, none⟩ = some (.int .i64 x.ob) ∧ w.cell? ⟨g, A + 1, none⟩ = some (.int .i64 x.sq) ∧ w.cell? ⟨g, A + 2, none⟩ = some (.int .i64 x.vs) ∧ w.cell? ⟨g, A + 3, none⟩ = some (.int .i64 x.dv) ∧
    w.cell? ⟨g, A + 4, none⟩ = some (.int .i64 x.tm) ∧ w.cell? ⟨g, A + 5, none⟩ = some (.int .i64 x.px) ∧ w.cell? ⟨g, A + 6, none⟩ = some (.int .i64 x.py) ∧ w.cell? ⟨g, A + 7, none⟩ = some (.bool x.cn) := by
  subst hA
  exact h.c8 hi

theorem set_take {m : List Rep} {k : Nat} (hk : k < m.length) {x : Rep} : (m.set k x).take (k + 1) = m.take k ++ [x] := by
  rw [List.take_succ_eq_append_getElem (by rw [List.length_set]; exact hk), List.getElem_set_self]
  congr 1
  refine List.ext_getElem (by simp) fun j h1 h2 => ?_
  rw [List.length_take, List.length_set] at h1
  rw [List.getElem_take, List.getElem_take, List.getElem_set_ne (by omega)]
theorem set_oth {m : List Rep} {k j : Nat} {x : Rep} (h : j ≠ k) : (m.set k x)[j]! = m[j]! := by
  rw [List.getElem!_eq_getElem?_getD, List.getElem!_eq_getElem?_getD, List.getElem?_set_ne (Ne.symm h)]

set_option maxHeartbeats 1000000 in
set_option maxRecDepth 100000 in
theorem compact_f (w0 w : World) (v : Value) (l : List Rep) (hown : Own w0 w v l) (hb : Bel w0 w) (hl : l.length ≤ 1000000) :
    Calls Try.prog 42 #[v] w (RetO w0 (cpt l)) := by
  obtain ⟨p, cap, rfl⟩ := hown.isl.shape
  by_cases h2 : l.length < 2
  · have HO := Lib.hid hown
    have HB := Lib.hid hb
    have HC := Lib.hid (cpt_one l h2)
    have hi2 : (l.length : Int) < 2 := by omega
    clear hown hb
    go_enter Try.func42, Try.ntmps42
    go_wp2
    go_ret
    exact ⟨_, rfl, by rw [HC.out]; exact HO.out, HB.out⟩
  · have hi2 : ¬ (l.length : Int) < 2 := by omega
    obtain ⟨g, rfl, hr, _⟩ := hown.row (by omega)
    have HR := Lib.hid hr
    have HB := Lib.hid hb
    have hc1 := hr.le
    have hm1 := hr.max
    unfold maxLen at hm1
    clear hown hb hr
    go_enter Try.func42, Try.ntmps42
    go_wp2
    go_loopw [3] (fun s wr => ∃ q : Nat, q + 1 ≤ l.length ∧ s = .int .i64 (q + 1 : Nat) ∧ cpt (l.take (q + 1)) = l.take (q + 1) ∧ Row w0 wr g l.length cap l ∧ Bel w0 wr) (fun s _ => l.length - (intOf s).toNat)
    case atStart => exact ⟨0, by omega, rfl, take_one l, HR.out, HB.out⟩
    case round =>
      obtain ⟨q, hq, rfl, ht, hrw, hbl⟩ := hrel
      have T := Lib.hid ht
      have R := Lib.hid hrw
      have B := Lib.hid hbl
      clear ht hrw hbl HR HB
      by_cases hlt : q + 1 < l.length
      · have hi3 : ((q + 1 : Nat) : Int) < l.length := by omega
        obtain ⟨c0, c1, c2, c3, c4, c5, c6, c7⟩ := R.out.at'.c8at hlt (A := (q + 1) * 8) (by omega)
        obtain ⟨d0, d1, d2, d3, d4, d5, d6, d7⟩ := R.out.at'.c8at (i := q) (by omega) (A := q * 8) (by omega)
        have N := Lib.hid (cpt_next l q hlt)
        have K := Lib.hid (take_next l q hlt)
        generalize l[q + 1]! = x at c0 c1 c2 c3 c4 c5 c6 c7 N K
        generalize l[q]! = y at d0 d1 d2 d3 d4 d5 d6 d7 N
        by_cases he : x = y
        · have E := eq_rep_yes he
          have HE := Lib.hid he
          clear he
          go_wp2
          go_quiet (fail)
          go_wp2
          go_loopw [3, 5] (fun s3 s5 wx => ∃ (m : List Rep) (kk r : Nat), s3 = .int .i64 kk ∧ s5 = .int .i64 (r + 1 : Nat) ∧ q + 1 + (r + 1) ≤ l.length ∧ kk ≤ q + 1 + r ∧ m.take kk = cpt (l.take (q + 1 + r + 1)) ∧ (∀ j, q + 1 + r ≤ j → m[j]! = l[j]!) ∧ Row w0 wx g l.length cap m ∧ Bel w0 wx) (fun _ s5 _ => l.length - (intOf s5).toNat)
          case atStart => exact ⟨l, q + 1, 0, rfl, rfl, by omega, by omega, by rw [N.out, if_pos HE.out]; exact T.out.symm, fun _ _ => rfl, R.out.bel (Bel.drawnN _ _), B.out.drewN _⟩
          case round =>
            obtain ⟨m, kk, r, rfl, rfl, hr1, hk1, htk, hmj, hrw, hbl⟩ := hrel
            have TK := Lib.hid htk
            have MJ := Lib.hid hmj
            have RW := Lib.hid hrw
            have BW := Lib.hid hbl
            have ml := hrw.len
            have ML := Lib.hid ml
            clear htk hmj hrw hbl c0 c1 c2 c3 c4 c5 c6 c7 d0 d1 d2 d3 d4 d5 d6 d7 E N K HE T R B ml
            by_cases hlt2 : q + 1 + (r + 1) < l.length
            · have hi4 : ((r + 1 : Nat) : Int) < ((l.length - (q + 1) : Nat) : Int) := by omega
              have hX := MJ.out (q + 1 + (r + 1)) (by omega)
              have hY := MJ.out (q + 1 + r) (by omega)
              obtain ⟨c0, c1, c2, c3, c4, c5, c6, c7⟩ := RW.out.at'.c8at (i := q + 1 + (r + 1)) (by rw [ML.out]; exact hlt2) (A := (q + 1) * 8 + (r + 1) * 8) (by omega)
              obtain ⟨d0, d1, d2, d3, d4, d5, d6, d7⟩ := RW.out.at'.c8at (i := q + 1 + r) (by rw [ML.out]; omega) (A := (q + 1) * 8 + r * 8) (by omega)
              have hn := cpt_next l (q + 1 + r) (by omega)
              rw [hX] at c0 c1 c2 c3 c4 c5 c6 c7
              rw [hY] at d0 d1 d2 d3 d4 d5 d6 d7
              rw [show q + 1 + (r + 1) = q + 1 + r + 1 by omega] at c0 c1 c2 c3 c4 c5 c6 c7 hX
              have N := Lib.hid hn
              have HX := Lib.hid hX
              clear hn hX hY
              generalize l[q + 1 + r + 1]! = x' at c0 c1 c2 c3 c4 c5 c6 c7 N HX
              generalize l[q + 1 + r]! = y' at d0 d1 d2 d3 d4 d5 d6 d7 N
              by_cases he : x' = y'
              · have E := neq_rep_yes he
                have HE := Lib.hid he
                clear he
                go_wp2
                go_quiet (fail)
                go_wp2
                go_roundw
                case rel => exact ⟨m, kk, r + 1, rfl, by go_num, by omega, by omega, by rw [TK.out, show q + 1 + (r + 1) + 1 = q + 1 + r + 2 by omega, N.out, if_pos HE.out], fun j hj => MJ.out j (by omega), RW.out.bel (Bel.drawnN _ _), BW.out.drewN _⟩
                case measure => simp [intOf]; omega
              · have E := neq_rep_no he
                have HE := Lib.hid he
                clear he
                obtain ⟨e0, e1, e2, e3, e4, e5, e6, e7⟩ := RW.out.at'.c8at (i := kk) (by rw [ML.out]; omega) (A := kk * 8) (by omega)
                have f0 := RW.out.fro (kk * 8)
                have f1 := RW.out.fro (kk * 8 + 1)
                have f2 := RW.out.fro (kk * 8 + 2)
                have f3 := RW.out.fro (kk * 8 + 3)
                have f4 := RW.out.fro (kk * 8 + 4)
                have f5 := RW.out.fro (kk * 8 + 5)
                have f6 := RW.out.fro (kk * 8 + 6)
                have f7 := RW.out.fro (kk * 8 + 7)
                have hkk : (kk : Int) < l.length := by omega
                go_wp2
                go_quiet (fail)
                go_wp2
                go_roundw
                case rel =>
                  have hp := fun n => (RW.out.bel (Bel.drawnN wr n)).put (BW.out.drewN n) (k := kk) (by omega) x'
                  exact ⟨m.set kk x', kk + 1, r + 1, by go_num, by go_num, by omega, by omega, by rw [set_take (by rw [ML.out]; omega), TK.out, show q + 1 + (r + 1) + 1 = q + 1 + r + 2 by omega, N.out, if_neg HE.out], fun j hj => (set_oth (by omega)).trans (MJ.out j (by omega)), (hp _).1, (hp _).2.1⟩
                case measure => simp [intOf]; omega
            · have hi4 : ¬ ((r + 1 : Nat) : Int) < ((l.length - (q + 1) : Nat) : Int) := by omega
              obtain ⟨W, hrun, hrow, hbel, _⟩ := RW.out.clr BW.out (k := kk) (by omega) 0 (cap - kk) (some ⟨g, kk * 8, none⟩) (fun _ => rfl)
              have HRUN := Lib.hid hrun
              have HROW := Lib.hid hrow
              have HBEL := Lib.hid hbel
              have HC : Hid (cpt l = m.take kk) := Lib.hid (by rw [TK.out, List.take_of_length_le (by omega)])
              clear hrun hrow hbel
              have hkk : (kk : Int) < l.length := by omega
              go_wp2_with (refine wpList_clr (v := .slice (some ⟨g, kk * 8, none⟩) (l.length - kk) (cap - kk)) rfl _ rfl rfl HRUN.out ?_)
              go_ret
              exact ⟨_, rfl, by rw [HC.out]; exact HROW.out.own, HBEL.out⟩
        · have E := eq_rep_no he
          have HE := Lib.hid he
          clear he
          go_wp2
          go_quiet (fail)
          go_wp2
          go_roundw
          case rel => exact ⟨q + 1, by omega, by go_num, by rw [show q + 1 + 1 = q + 2 by omega, N.out, if_neg HE.out, T.out, K.out], R.out.bel (Bel.drawnN _ _), B.out.drewN _⟩
          case measure => simp [intOf]; omega
      · have hi3 : ¬ ((q + 1 : Nat) : Int) < l.length := by omega
        have e1 : cpt l = l := by
          have h1 : l.take (q + 1) = l := List.take_of_length_le (by omega)
          rw [h1] at T
          exact T.out
        have HC := Lib.hid e1
        clear e1
        go_wp2
        go_ret
        exact ⟨_, rfl, by rw [HC.out]; exact R.out.own, B.out⟩
end Go.Proofs.Ytdjgpbanokdnhaa.Pt
