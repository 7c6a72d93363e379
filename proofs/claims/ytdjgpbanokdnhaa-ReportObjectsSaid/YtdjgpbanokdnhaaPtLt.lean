/-
  report.Last; '!=' of reports.
-/
import Derived.Test.YtdjgpbanokdnhaaPtZo
namespace Go.Proofs.Ytdjgpbanokdnhaa.Pt
open Go.RowKit
attribute [local go_sem ↓] Go.wp_at_zero Go.wp_at_succ

theorem row_put2 {w V : World} {g : Nat} {x : Rep} (h : Row w V g 1 1 [x]) (hb : Bel w V) (y : Rep) {a1 a2 a3 a4 a5 a6 a7 : Int} {a8 : Bool} (h1 : y.ob = a1) (h2 : y.sq = a2) (h3 : y.vs = a3) (h4 : y.dv = a4) (h5 : y.tm = a5) (h6 : y.px = a6) (h7 : y.py = a7) (h8 : y.cn = a8) :
    Row w ((((((((V.setCell ⟨g, 0, none⟩ (.int .i64 a1)).setCell ⟨g, 1, none⟩ (.int .i64 a2)).setCell ⟨g, 2, none⟩ (.int .i64 a3)).setCell ⟨g, 3, none⟩ (.int .i64 a4)).setCell ⟨g, 4, none⟩ (.int .i64 a5)).setCell ⟨g, 5, none⟩ (.int .i64 a6)).setCell ⟨g, 6, none⟩ (.int .i64 a7)).setCell ⟨g, 7, none⟩ (.bool a8)) g 1 1 [y] ∧
    Bel w ((((((((V.setCell ⟨g, 0, none⟩ (.int .i64 a1)).setCell ⟨g, 1, none⟩ (.int .i64 a2)).setCell ⟨g, 2, none⟩ (.int .i64 a3)).setCell ⟨g, 3, none⟩ (.int .i64 a4)).setCell ⟨g, 4, none⟩ (.int .i64 a5)).setCell ⟨g, 5, none⟩ (.int .i64 a6)).setCell ⟨g, 6, none⟩ (.int .i64 a7)).setCell ⟨g, 7, none⟩ (.bool a8)) := by
  subst h1 h2 h3 h4 h5 h6 h7 h8
  have hp := h.put hb (k := 0) (by omega) y
  exact ⟨hp.1, hp.2.1⟩
theorem via {w : World} {g : Nat} {y : Rep} {P : World → Prop} {W : World} (h : Row w W g 1 1 [y] ∧ Bel w W) (k : ∀ W2, Row w W2 g 1 1 [y] → Bel w W2 → P W2) : P W := k W h.1 h.2
/-- The last one, or the zero value. -/
def lastR (l : List Rep) : Rep := match l.length with
  | 0 => zR
  | q + 1 => l[q]!
set_option maxHeartbeats 4000000 in
set_option maxRecDepth 100000 in
theorem last_no (l : List Rep) (o : Int) (v : Value) (w : World) (hv : IsL w v l) (hb : l.length ≤ 1000000) (h0 : cntL (aboutL o l) = []) :
    Calls Try.prog 32 #[v, .int .i64 o] w (RetB w (.tuple #[.agg #[.int .i64 0, .int .i64 0, .int .i64 0, .int .i64 0, .int .i64 0, .int .i64 0, .int .i64 0, .bool false], .bool false])) := by
  have HC : Hid (∀ W, Bel w W → Calls Try.prog 33 #[v, .int .i64 o] W (RetP W fun x W' => Own W W' x [])) := Lib.hid fun W hbl => by
    have := of_f l o v W (hv.bel hbl) hb
    rw [h0] at this
    exact this
  obtain ⟨p, c, rfl⟩ := hv.shape
  clear hv h0
  go_enter Try.func32, Try.ntmps32
  go_wp2_with (go_at_call 33; refine (HC.out _ (Bel.new _ _)).mono ?_; rintro e W1 ⟨x, rfl, hown, hbel⟩; have O1 := Lib.hid hown.isl; have B1 := Lib.hid ((Bel.new w _).trans hbel); have R1 := Lib.hid (Row.bel (row_zero w) hbel); obtain ⟨x0, x1, x2, x3, x4, x5, x6, x7⟩ := row_at8 R1.out; have f0 := R1.out.fro 0; have f1 := R1.out.fro 1; have f2 := R1.out.fro 2; have f3 := R1.out.fro 3; have f4 := R1.out.fro 4; have f5 := R1.out.fro 5; have f6 := R1.out.fro 6; have f7 := R1.out.fro 7; clear hown hbel; obtain ⟨p1, c1, rfl⟩ := O1.out.shape)
  have HP := row_put2 R1.out B1.out zR rfl rfl rfl rfl rfl rfl rfl rfl
  clear x0 x1 x2 x3 x4 x5 x6 x7 f0 f1 f2 f3 f4 f5 f6 f7 R1 B1 O1
  refine via (P := bodyPost _ _ _ _ _) HP ?_
  clear HP
  intro W2 R2 B2
  obtain ⟨x0, x1, x2, x3, x4, x5, x6, x7⟩ := row_at8 R2
  exact bodyPost_ret (by simp [results, Try.results32, go_sem, x0, x1, x2, x3, x4, x5, x6, x7]; exact ⟨rfl, rfl, rfl, rfl, rfl, rfl, rfl, rfl⟩) rfl ⟨rfl, B2⟩
set_option maxHeartbeats 4000000 in
set_option maxRecDepth 100000 in
theorem last_yes (l : List Rep) (o : Int) (v : Value) (w : World) (hv : IsL w v l) (hb : l.length ≤ 1000000) {q : Nat} {y : Rep} (h0 : (cntL (aboutL o l)).length = q + 1) (hy : (cntL (aboutL o l))[q]! = y) :
    Calls Try.prog 32 #[v, .int .i64 o] w (RetB w (.tuple #[agR y, .bool true])) := by
  have HC : Hid (∀ W, Bel w W → Calls Try.prog 33 #[v, .int .i64 o] W (RetP W fun x W' => Own W W' x (cntL (aboutL o l)))) := Lib.hid fun W hbl => of_f l o v W (hv.bel hbl) hb
  have LE : Hid ((cntL (aboutL o l)).length ≤ 1000000) := Lib.hid (Nat.le_trans (List.length_filter_le _ _) (Nat.le_trans (setL_len _) (Nat.le_trans (aboutL_len o l) hb)))
  generalize cntL (aboutL o l) = ls at HC LE h0 hy
  have H0 := Lib.hid h0
  have HY := Lib.hid hy
  obtain ⟨p, c, rfl⟩ := hv.shape
  clear hv h0 hy
  have hz : ((ls.length : Int) == 0) = false := by
    have h1 := H0.out
    simp
    intro h2
    rw [h2] at h1
    simp at h1
  have hw : IntKind.i64.wrap ((ls.length : Int) - 1) = q := by
    have h1 := LE.out
    have h2 := H0.out
    rw [IntWalk.i64_in _ (by omega)]
    omega
  have hq1 : (q : Int) < ls.length := by
    have h2 := H0.out
    omega
  go_enter Try.func32, Try.ntmps32
  go_wp2_with (go_at_call 33; refine (HC.out _ (Bel.new _ _)).mono ?_; rintro e W1 ⟨x, rfl, hown, hbel⟩; have O1 := Lib.hid hown; have B1 := Lib.hid ((Bel.new w _).trans hbel); have R1 := Lib.hid (Row.bel (row_zero w) hbel); obtain ⟨x0, x1, x2, x3, x4, x5, x6, x7⟩ := row_at8 R1.out; have f0 := R1.out.fro 0; have f1 := R1.out.fro 1; have f2 := R1.out.fro 2; have f3 := R1.out.fro 3; have f4 := R1.out.fro 4; have f5 := R1.out.fro 5; have f6 := R1.out.fro 6; have f7 := R1.out.fro 7; clear hown hbel; obtain ⟨p1, c1, rfl⟩ := O1.out.isl.shape; obtain ⟨g1, rfl, hr1, h4⟩ := O1.out.row (by rw [H0.out]; omega); have hat := hr1.at'.at8 (i := q) (by rw [H0.out]; omega); rw [Nat.zero_add, HY.out] at hat; obtain ⟨y0, y1, y2, y3, y4, y5, y6, y7⟩ := hat; clear hr1 h4)
  have HP := row_put2 R1.out B1.out y rfl rfl rfl rfl rfl rfl rfl rfl
  clear x0 x1 x2 x3 x4 x5 x6 x7 f0 f1 f2 f3 f4 f5 f6 f7 y0 y1 y2 y3 y4 y5 y6 y7 R1 B1 O1
  refine via (P := bodyPost _ _ _ _ _) HP ?_
  clear HP
  intro W2 R2 B2
  obtain ⟨x0, x1, x2, x3, x4, x5, x6, x7⟩ := row_at8 R2
  exact bodyPost_ret (by simp [results, Try.results32, go_sem, x0, x1, x2, x3, x4, x5, x6, x7]) rfl ⟨rfl, B2⟩
/-- '!=' of a report and itself. -/
theorem ne_rep (x : Rep) (w : World) : Sem.run Try.prog (binOp .neq 23 (agR x) (agR x)) w = .ok (.bool false) w := by
  have h := eq_rep_yes (rfl : x = x) w
  go_simp
end Go.Proofs.Ytdjgpbanokdnhaa.Pt
