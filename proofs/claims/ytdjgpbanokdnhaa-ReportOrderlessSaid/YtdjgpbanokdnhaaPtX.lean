/-
  report.winners: the greatest report of each identity, in a map.
-/
import Derived.Test.YtdjgpbanokdnhaaPtW
namespace Go.Proofs.Ytdjgpbanokdnhaa.Pt
open Go.RowKit
attribute [local go_sem ↓] Go.wp_at_zero Go.wp_at_succ

set_option maxRecDepth 100000 in
theorem ident_f (a b c d e f g : Int) (h : Bool) (w : World) :
    Calls Try.prog 45 #[.agg #[.int .i64 a, .int .i64 b, .int .i64 c, .int .i64 d, .int .i64 e, .int .i64 f, .int .i64 g, .bool h]] w (RetB w (.agg #[.int .i64 a, .int .i64 b])) := by
  go_enter Try.func45, Try.ntmps45
  go_wp2
  exact bodyPost_ret (by simp [results, Try.results45, go_sem]) rfl ⟨rfl, ((Bel.refl w).alloc _).alloc _⟩

/-- A report comes to the winners. -/
def stepW (l : List Rep) (r : Rep) : List Rep := match findR r.ob r.sq l 0 with
  | none => updR l r
  | some (_, x) => if 0 < cmpR r x then updR l r else l
def winP (l : List Rep) : List Rep := l.foldl stepW []
theorem winP_next (l : List Rep) (k : Nat) (h : k < l.length) : winP (l.take (k + 1)) = stepW (winP (l.take k)) l[k]! := by
  rw [List.take_succ_eq_append_getElem h, winP, List.foldl_append, getElem!_pos l k h]
  rfl
theorem stepW_none {l : List Rep} {r : Rep} (h : findR r.ob r.sq l 0 = none) : stepW l r = updR l r := by
  unfold stepW
  rw [h]
theorem stepW_gt {l : List Rep} {r x : Rep} {i : Nat} (h : findR r.ob r.sq l 0 = some (i, x)) (hc : 0 < cmpR r x) : stepW l r = updR l r := by
  unfold stepW
  rw [h]
  exact if_pos hc
theorem stepW_le {l : List Rep} {r x : Rep} {i : Nat} (h : findR r.ob r.sq l 0 = some (i, x)) (hc : ¬ 0 < cmpR r x) : stepW l r = l := by
  unfold stepW
  rw [h]
  exact if_neg hc
theorem put_obj {w W : World} {b : Nat} {ob : Obj} {l : List Rep} (hb : Bel w W) (hlt : b < W.heap.size) (hw : w.heap.size ≤ b) (ho : MapO l ob) :
    MapAt { W with heap := W.heap.setIfInBounds b ob } b l ∧ Bel w { W with heap := W.heap.setIfInBounds b ob } :=
  ⟨⟨ob, by simp [hlt], ho⟩, ⟨⟨hb.b.os, hb.b.tape, hb.b.output, by simp; exact hb.size, fun k hk => by
    simp only [Array.getElem?_setIfInBounds]
    rw [if_neg (by omega)]
    exact hb.b.block k hk⟩, hb.d⟩⟩
/-- A map comes back. -/
def RetM (w : World) (l : List Rep) (e : Ending) (w' : World) : Prop := ∃ b, e = .returned (.map (some b)) ∧ MapAt w' b l ∧ w.heap.size ≤ b ∧ Bel w w'

set_option maxHeartbeats 2000000 in
set_option maxRecDepth 100000 in
theorem winners_f (l : List Rep) (v : Value) (w : World) (hv : IsL w v l) : Calls Try.prog 44 #[v] w (RetM w (winP l)) := by
  obtain ⟨p, cap, rfl, hc, hm, hl, _⟩ := hv
  unfold maxLen at hm
  have HL := Lib.hid hl
  clear hl
  have hmm := @run_makeMap Try.prog
  go_enter Try.func44, Try.ntmps44
  go_wp2
  clear hmm
  go_loopw [11] (fun s wr => ∃ k : Nat, k ≤ l.length ∧ s = .int .i64 k ∧ MapAt wr w.heap.size (winP (l.take k)) ∧ Bel w wr) (fun s _ => l.length - (intOf s).toNat)
  case atStart => exact ⟨0, by omega, rfl, ⟨_, heap_new _ _, #[], rfl, rfl⟩, Bel.new _ _⟩
  case round =>
    obtain ⟨k, hk, rfl, hmap, hbl⟩ := hrel
    have M := Lib.hid hmap
    have B := Lib.hid hbl
    clear hmap hbl
    by_cases hlt : k < l.length
    · obtain ⟨g, o, rfl, hg, hat⟩ := isl_open HL.out hlt
      obtain ⟨c0, c1, c2, c3, c4, c5, c6, c7⟩ := (hat.bel hg B.out).c8 hlt
      have hk8 : (k : Int) < l.length := by omega
      have N := Lib.hid (winP_next l k hlt)
      generalize l[k]! = r at c0 c1 c2 c3 c4 c5 c6 c7 N
      clear hat
      generalize winP (l.take k) = ps at M N
      cases hf : findR r.ob r.sq ps 0 with
      | none =>
        have HF := Lib.hid hf
        have HS := Lib.hid (stepW_none hf)
        clear hf
        go_wp2_with (first
          | (go_at_call 45; refine (ident_f _ _ _ _ _ _ _ _ _).mono ?_; rintro e W1 ⟨rfl, hb1⟩; have hm1 := (M.out.bel (Bel.new _ _)).bel hb1; have hlk := run_look hm1 r.ob r.sq true; rw [HF.out] at hlk; have M1 := Lib.hid hm1; have B1 := Lib.hid ((B.out.alloc _).trans hb1); have h5 := Lib.hid ((hb1.b.block wr.heap.size (by simp)).trans (heap_new wr _)); clear hm1 hb1))
        obtain ⟨W, hW⟩ : ∃ W, W = W1.alloc (.cells #[.int .i64 zR.ob, .int .i64 zR.sq, .int .i64 zR.vs, .int .i64 zR.dv, .int .i64 zR.tm, .int .i64 zR.px, .int .i64 zR.py, .bool zR.cn] 23) := ⟨_, rfl⟩
        rw [← hW]
        have MW := Lib.hid (M1.out.bel (Bel.new W1 (.cells #[.int .i64 zR.ob, .int .i64 zR.sq, .int .i64 zR.vs, .int .i64 zR.dv, .int .i64 zR.tm, .int .i64 zR.px, .int .i64 zR.py, .bool zR.cn] 23)))
        have BW := Lib.hid (B1.out.alloc (.cells #[.int .i64 zR.ob, .int .i64 zR.sq, .int .i64 zR.vs, .int .i64 zR.dv, .int .i64 zR.tm, .int .i64 zR.px, .int .i64 zR.py, .bool zR.cn] 23))
        have H5 := Lib.hid (((Bel.new W1 (.cells #[.int .i64 zR.ob, .int .i64 zR.sq, .int .i64 zR.vs, .int .i64 zR.dv, .int .i64 zR.tm, .int .i64 zR.px, .int .i64 zR.py, .bool zR.cn] 23)).b.block _ (Array.getElem?_eq_some_iff.1 h5.out).1).trans h5.out)
        rw [← hW] at MW BW H5
        clear hW h5 M1 B1 hlk M B HL HF
        have f0 := blkAt H5.out 0; have f1 := blkAt H5.out 1; have f2 := blkAt H5.out 2; have f3 := blkAt H5.out 3; have f4 := blkAt H5.out 4; have f5 := blkAt H5.out 5; have f6 := blkAt H5.out 6; have f7 := blkAt H5.out 7; simp only [List.getElem?_toArray, List.getElem?_cons_zero, List.getElem?_cons_succ] at f0 f1 f2 f3 f4 f5 f6 f7
        go_region_with (go_at_call 45; refine (ident_f _ _ _ _ _ _ _ _ _).mono ?_; rintro e W2 ⟨rfl, hb2⟩; have hb3 := (Bel.refl W).drew.trans hb2; obtain ⟨ob, hu, ho⟩ := run_upd (MW.out.bel hb3) r; have k5 := (hb3.b.block _ (Array.getElem?_eq_some_iff.1 H5.out).1).trans H5.out; have f0 := blkAt k5 0; have f1 := blkAt k5 1; have f2 := blkAt k5 2; have f3 := blkAt k5 3; have f4 := blkAt k5 4; have f5 := blkAt k5 5; have f6 := blkAt k5 6; have f7 := blkAt k5 7; simp only [List.getElem?_toArray, List.getElem?_cons_zero, List.getElem?_cons_succ] at f0 f1 f2 f3 f4 f5 f6 f7; have P := Lib.hid (put_obj (BW.out.trans hb3) (MW.out.bel hb3).lt (Nat.le_refl _) ho); clear k5 hb2 hb3 ho)
        all_goals
          go_wp2
          go_roundw
          case rel => exact ⟨k + 1, by omega, by go_num, by rw [N.out, HS.out]; exact P.out.1, P.out.2⟩
          case measure => simp [intOf]; omega
      | some ix =>
        obtain ⟨ii, x⟩ := ix
        have HF := Lib.hid hf
        by_cases hcmp : 0 < cmpR r x
        · have HS := Lib.hid (stepW_gt hf hcmp)
          have HC : Hid (∀ W, Calls Try.prog 17 #[agR r, agR x] W (RetB W (.int .i64 (cmpR r x)))) := Lib.hid (compare_f r x)
          clear hf
          generalize cmpR r x = c at hcmp HC
          go_wp2_with (first
            | (go_at_call 45; refine (ident_f _ _ _ _ _ _ _ _ _).mono ?_; rintro e W1 ⟨rfl, hb1⟩; have hm1 := (M.out.bel (Bel.new _ _)).bel hb1; have hlk := run_look hm1 r.ob r.sq true; rw [HF.out] at hlk; have M1 := Lib.hid hm1; have B1 := Lib.hid ((B.out.alloc _).trans hb1); have h5 := Lib.hid ((hb1.b.block wr.heap.size (by simp)).trans (heap_new wr _)); clear hm1 hb1; have g5 := ((Bel.new W1 (.cells #[.int .i64 x.ob, .int .i64 x.sq, .int .i64 x.vs, .int .i64 x.dv, .int .i64 x.tm, .int .i64 x.px, .int .i64 x.py, .bool x.cn] 23)).b.block _ (Array.getElem?_eq_some_iff.1 h5.out).1).trans h5.out; have f0 := blkAt g5 0; have f1 := blkAt g5 1; have f2 := blkAt g5 2; have f3 := blkAt g5 3; have f4 := blkAt g5 4; have f5 := blkAt g5 5; have f6 := blkAt g5 6; have f7 := blkAt g5 7; simp only [List.getElem?_toArray, List.getElem?_cons_zero, List.getElem?_cons_succ] at f0 f1 f2 f3 f4 f5 f6 f7; clear g5)
            | (go_at_call 17; refine (HC.out _).mono ?_; rintro e W ⟨rfl, hbc⟩; have hbd := (Bel.new W1 (.cells #[.int .i64 x.ob, .int .i64 x.sq, .int .i64 x.vs, .int .i64 x.dv, .int .i64 x.tm, .int .i64 x.px, .int .i64 x.py, .bool x.cn] 23)).trans hbc; have MW := Lib.hid (M1.out.bel hbd); have BW := Lib.hid (B1.out.trans hbd); have H5 := Lib.hid ((hbd.b.block _ (Array.getElem?_eq_some_iff.1 h5.out).1).trans h5.out); clear hbc hbd f0 f1 f2 f3 f4 f5 f6 f7))
          clear h5 M1 B1 hlk M B HL HF HC
          have f0 := blkAt H5.out 0; have f1 := blkAt H5.out 1; have f2 := blkAt H5.out 2; have f3 := blkAt H5.out 3; have f4 := blkAt H5.out 4; have f5 := blkAt H5.out 5; have f6 := blkAt H5.out 6; have f7 := blkAt H5.out 7; simp only [List.getElem?_toArray, List.getElem?_cons_zero, List.getElem?_cons_succ] at f0 f1 f2 f3 f4 f5 f6 f7
          go_region_with (go_at_call 45; refine (ident_f _ _ _ _ _ _ _ _ _).mono ?_; rintro e W2 ⟨rfl, hb2⟩; have hb3 := (Bel.refl W).drew.trans hb2; obtain ⟨ob, hu, ho⟩ := run_upd (MW.out.bel hb3) r; have k5 := (hb3.b.block _ (Array.getElem?_eq_some_iff.1 H5.out).1).trans H5.out; have f0 := blkAt k5 0; have f1 := blkAt k5 1; have f2 := blkAt k5 2; have f3 := blkAt k5 3; have f4 := blkAt k5 4; have f5 := blkAt k5 5; have f6 := blkAt k5 6; have f7 := blkAt k5 7; simp only [List.getElem?_toArray, List.getElem?_cons_zero, List.getElem?_cons_succ] at f0 f1 f2 f3 f4 f5 f6 f7; have P := Lib.hid (put_obj (BW.out.trans hb3) (MW.out.bel hb3).lt (Nat.le_refl _) ho); clear k5 hb2 hb3 ho)
          all_goals
            go_wp2
            go_roundw
            case rel => exact ⟨k + 1, by omega, by go_num, by rw [N.out, HS.out]; exact P.out.1, P.out.2⟩
            case measure => simp [intOf]; omega
        · have HS := Lib.hid (stepW_le hf hcmp)
          have HC : Hid (∀ W, Calls Try.prog 17 #[agR r, agR x] W (RetB W (.int .i64 (cmpR r x)))) := Lib.hid (compare_f r x)
          clear hf
          generalize cmpR r x = c at hcmp HC
          go_wp2_with (first
            | (go_at_call 45; refine (ident_f _ _ _ _ _ _ _ _ _).mono ?_; rintro e W1 ⟨rfl, hb1⟩; have hm1 := (M.out.bel (Bel.new _ _)).bel hb1; have hlk := run_look hm1 r.ob r.sq true; rw [HF.out] at hlk; have M1 := Lib.hid hm1; have B1 := Lib.hid ((B.out.alloc _).trans hb1); have h5 := Lib.hid ((hb1.b.block wr.heap.size (by simp)).trans (heap_new wr _)); clear hm1 hb1; have g5 := ((Bel.new W1 (.cells #[.int .i64 x.ob, .int .i64 x.sq, .int .i64 x.vs, .int .i64 x.dv, .int .i64 x.tm, .int .i64 x.px, .int .i64 x.py, .bool x.cn] 23)).b.block _ (Array.getElem?_eq_some_iff.1 h5.out).1).trans h5.out; have f0 := blkAt g5 0; have f1 := blkAt g5 1; have f2 := blkAt g5 2; have f3 := blkAt g5 3; have f4 := blkAt g5 4; have f5 := blkAt g5 5; have f6 := blkAt g5 6; have f7 := blkAt g5 7; simp only [List.getElem?_toArray, List.getElem?_cons_zero, List.getElem?_cons_succ] at f0 f1 f2 f3 f4 f5 f6 f7; clear g5)
            | (go_at_call 17; refine (HC.out _).mono ?_; rintro e W ⟨rfl, hbc⟩; have hbd := (Bel.new W1 (.cells #[.int .i64 x.ob, .int .i64 x.sq, .int .i64 x.vs, .int .i64 x.dv, .int .i64 x.tm, .int .i64 x.px, .int .i64 x.py, .bool x.cn] 23)).trans hbc; have MW := Lib.hid (M1.out.bel hbd); have BW := Lib.hid (B1.out.trans hbd); clear hbc hbd f0 f1 f2 f3 f4 f5 f6 f7))
          go_roundw
          case rel => exact ⟨k + 1, by omega, by go_num, by rw [N.out, HS.out]; exact MW.out, BW.out⟩
          case measure => simp [intOf]; omega
    · have hk8 : ¬ ((k : Int) < l.length) := by omega
      have e1 : l.take k = l := List.take_of_length_le (by omega)
      rw [e1] at M
      clear e1
      go_wp2
      go_ret
      exact ⟨_, rfl, M.out, Nat.le_refl _, B.out⟩
end Go.Proofs.Ytdjgpbanokdnhaa.Pt
