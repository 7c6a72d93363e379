/-
  The walk of ReportCounts.
-/
import Derived.Test.YtdjgpbanokdnhaaPtCo
namespace Go.Proofs.Ytdjgpbanokdnhaa.Pt
open Go.RowKit
attribute [local go_sem ↓] Go.wp_at_zero Go.wp_at_succ

theorem statR_no {l : List Rep} {x : Rep} (h : x ∉ l) : statR l x = 0 := by rw [statR, if_neg h]
theorem statR_counts {l : List Rep} {x : Rep} (h : x ∈ cntL l) : statR l x = 1 := by
  have h2 := (cntL_mem l x).1 h
  rw [statR, if_pos h2.1, if_pos h2.2.1, h2.2.2]
  rfl
theorem statR_withdrawn {l : List Rep} {x : Rep} (h : x ∈ l) (hc : x ∉ cntL l) (hw : winB l x = true) : statR l x = 3 := by
  have h2 : x.cn = true := by
    cases h3 : x.cn with
    | true => rfl
    | false => exact absurd ((cntL_mem l x).2 ⟨h, hw, h3⟩) hc
  rw [statR, if_pos h, if_pos hw, h2]
  rfl
theorem statR_superseded {l : List Rep} {x : Rep} (h : x ∈ l) (hw : winB l x = false) : statR l x = 2 := by
  rw [statR, if_pos h, hw]
  rfl

set_option maxHeartbeats 4000000 in
set_option maxRecDepth 100000 in
theorem counts_no (l : List Rep) (r : Rep) (p : Option Addr) (c : Nat) (w : World) (h : (20 : Int) < l.length) :
    Calls Try.prog 6 #[.slice p l.length c, agR r] w (RetB w (.bool true)) := by
  have B : Hid (Bel w (w.alloc (.cells #[.int .i64 r.ob, .int .i64 r.sq, .int .i64 r.vs, .int .i64 r.dv, .int .i64 r.tm, .int .i64 r.px, .int .i64 r.py, .bool r.cn] 23))) := Lib.hid (Bel.new w _)
  go_enter Try.func6, Try.ntmps6
  go_wp2_with (go_at_call 14; refine (known_f _).mono ?_; rintro e V ⟨rfl, hb⟩; replace B := Lib.hid (B.out.trans hb); clear hb)
  go_ret
  exact ⟨rfl, B.out⟩

set_option maxHeartbeats 8000000 in
set_option maxRecDepth 100000 in
theorem counts_yes (l : List Rep) (r : Rep) (p : Option Addr) (c : Nat) (w : World) (hv : IsL w (.slice p l.length c) l) (h1 : l.length ≤ 20) :
    Calls Try.prog 6 #[.slice p l.length c, agR r] w (RetB w (.bool true)) := by
  have C1 : Hid (∀ V, Bel w V → Calls Try.prog 26 #[.slice p l.length c] V (RetP V fun x W => Own V W x (cntL l))) := Lib.hid fun V hb => lcounting_f l _ V (hv.bel hb) (by omega)
  have C2 : Hid (∀ V, Bel w V → Calls Try.prog 27 #[.slice p l.length c] V (RetP V fun x W => Own V W x (cntL l))) := Lib.hid fun V hb => counting_f l _ V (hv.bel hb) (by omega)
  have SM : Hid (∀ V x y, IsL V x (cntL l) → IsL V y (cntL l) → Calls Try.prog 19 #[x, y] V (RetB V (.bool true))) := Lib.hid fun V x y h3 h4 => by
    have := same_f _ _ x y V h3 h4
    rw [decide_eq_true rfl] at this
    exact this
  have CJ : Hid (∀ V x, Bel w V → IsL V x [r] → Calls Try.prog 23 #[.slice p l.length c, x] V (RetP V fun x W => Own V W x (l ++ [r]))) := Lib.hid fun V x hb h => join_f l [r] _ _ V (hv.bel hb) h (by simp; omega)
  have ST : Hid (∀ V x, Bel w V → Calls Try.prog 29 #[.slice p l.length c, agR x] V (RetB V (.int .i64 (statR l x)))) := Lib.hid fun V x hb => status_f l x _ V (hv.bel hb)
  have HL : Hid (∀ V x, Bel w V → Calls Try.prog 25 #[.slice p l.length c, agR x] V (RetB V (.bool (decide (x ∈ l))))) := Lib.hid fun V x hb => has_f l x _ V (hv.bel hb)
  have HC : Hid (∀ V y x, IsL V y (cntL l) → Calls Try.prog 25 #[y, agR x] V (RetB V (.bool (decide (x ∈ cntL l))))) := Lib.hid fun V y x h => has_f (cntL l) x y V h
  have HW : Hid (∀ V x, Bel w V → Calls Try.prog 28 #[.slice p l.length c, agR x] V (RetB V (.bool (winB l x)))) := Lib.hid fun V x hb => winner_f l x _ V (hv.bel hb)
  have PL : Hid (∀ x, (decide (x ∈ l) = false ∧ statR l x = 0) ∨ (decide (x ∈ l) = true ∧ decide (x ∈ cntL l) = true ∧ statR l x = 1) ∨ (decide (x ∈ l) = true ∧ decide (x ∈ cntL l) = false ∧ winB l x = true ∧ statR l x = 3) ∨ (decide (x ∈ l) = true ∧ decide (x ∈ cntL l) = false ∧ winB l x = false ∧ statR l x = 2)) := Lib.hid fun x => by
    by_cases h1 : x ∈ l
    · by_cases h2 : x ∈ cntL l
      · exact .inr (.inl ⟨decide_eq_true h1, decide_eq_true h2, statR_counts h2⟩)
      · cases h3 : winB l x with
        | true => exact .inr (.inr (.inl ⟨decide_eq_true h1, decide_eq_false h2, rfl, statR_withdrawn h1 h2 h3⟩))
        | false => exact .inr (.inr (.inr ⟨decide_eq_true h1, decide_eq_false h2, rfl, statR_superseded h1 h3⟩))
    · exact .inl ⟨decide_eq_false h1, statR_no h1⟩
  clear hv
  have g1 : ¬ (20 : Int) < l.length := by omega
  have NA : Hid ((l ++ [r]).length ≤ 21) := Lib.hid (by simp; omega)
  clear h1
  generalize l ++ [r] = ar at CJ NA
  have B : Hid (Bel w (w.alloc (.cells #[.int .i64 r.ob, .int .i64 r.sq, .int .i64 r.vs, .int .i64 r.dv, .int .i64 r.tm, .int .i64 r.px, .int .i64 r.py, .bool r.cn] 23))) := Lib.hid (Bel.new w _)
  have X : Hid (Bx (w.alloc (.cells #[.int .i64 r.ob, .int .i64 r.sq, .int .i64 r.vs, .int .i64 r.dv, .int .i64 r.tm, .int .i64 r.px, .int .i64 r.py, .bool r.cn] 23)) w.heap.size r) := Lib.hid (heap_new w _)
  go_enter Try.func6, Try.ntmps6
  go_wp2_with (first
    | (go_at_call 14; refine (known_f _).mono ?_; rintro e V ⟨rfl, hb⟩; replace B := Lib.hid (B.out.trans hb); replace X := Lib.hid (X.out.next hb); clear hb)
    | (go_at_call 26; refine (C1.out _ B.out).mono ?_; rintro e V ⟨xc, rfl, ho, hb⟩; have XC := Lib.hid ho.isl; replace B := Lib.hid (B.out.trans hb); replace X := Lib.hid (X.out.next hb); clear hb ho)
    | (go_at_call 27; refine (C2.out _ B.out).mono ?_; rintro e V ⟨xd, rfl, ho, hb⟩; have XD := Lib.hid ho.isl; replace XC := Lib.hid (XC.out.bel hb); replace B := Lib.hid (B.out.trans hb); replace X := Lib.hid (X.out.next hb); clear hb ho)
    | (go_at_call 19; refine (SM.out _ _ _ XD.out XC.out).mono ?_; rintro e V ⟨rfl, hb⟩; replace XC := Lib.hid (XC.out.bel hb); replace B := Lib.hid (B.out.trans hb); replace X := Lib.hid (X.out.next hb); clear hb XD; obtain ⟨f0, f1, f2, f3, f4, f5, f6, f7⟩ := X.out.at8)
    | (go_at_call 23; (with_reducible refine (CJ.out _ _ (B.out.alloc _) (isl_one r rfl _ 23 rfl)).mono ?_); rintro e V3 ⟨xa, rfl, ho, hb⟩; have XA := Lib.hid ho.isl; replace XC := Lib.hid (XC.out.bel ((Bel.new _ _).trans hb)); replace B := Lib.hid ((B.out.alloc _).trans hb); clear hb ho X f0 f1 f2 f3 f4 f5 f6 f7))
  clear g1 C1 C2 SM CJ
  obtain ⟨p6, c6, rfl⟩ := XA.out.shape
  obtain ⟨_, _, e1, _, _, hla, _⟩ := XA.out
  injection e1 with e1 e2 e3
  subst e1
  clear e2 e3
  have LA := Lib.hid hla
  clear hla XA
  go_loopw [7] (fun s7 wr => ∃ k : Nat, k ≤ ar.length ∧ s7 = .int .i64 k ∧ Bel V3 wr) (fun s7 _ => ar.length - (intOf s7).toNat)
  case atStart => exact ⟨0, by omega, rfl, Bel.refl _⟩
  case round =>
    obtain ⟨k, hk, rfl, hbl⟩ := hrel
    have W3 := Lib.hid hbl
    have BW := Lib.hid (B.out.trans hbl)
    have YC := Lib.hid (XC.out.bel hbl)
    clear hbl
    have hna := NA.out
    by_cases hlt : k < ar.length
    · obtain ⟨g, o, rfl, hg, hat⟩ := isl_open LA.out hlt
      have CC : Hid (∀ V, Bel V3 V → At8 V g (o + k * 8) ar[k]!) := Lib.hid fun V hb => (hat.bel hg hb).at8 hlt
      have hk8 : (k : Int) < ar.length := by omega
      clear hat hg
      generalize ar[k]! = x at CC
      have H1 : Hid (∀ V, Bel w V → Calls Try.prog 25 #[.slice p l.length c, agR x] V (RetB V (.bool (decide (x ∈ l))))) := Lib.hid fun V hb => HL.out V x hb
      have H2 : Hid (∀ V y, IsL V y (cntL l) → Calls Try.prog 25 #[y, agR x] V (RetB V (.bool (decide (x ∈ cntL l))))) := Lib.hid fun V y hb => HC.out V y x hb
      have H3 : Hid (∀ V, Bel w V → Calls Try.prog 28 #[.slice p l.length c, agR x] V (RetB V (.bool (winB l x)))) := Lib.hid fun V hb => HW.out V x hb
      have H4 : Hid (∀ V, Bel w V → Calls Try.prog 29 #[.slice p l.length c, agR x] V (RetB V (.int .i64 (statR l x)))) := Lib.hid fun V hb => ST.out V x hb
      have hp := PL.out x
      obtain ⟨c0, c1, c2, c3, c4, c5, c6', c7⟩ := CC.out wr W3.out
      generalize decide (x ∈ l) = b1 at H1 hp
      generalize decide (x ∈ cntL l) = b2 at H2 hp
      generalize winB l x = b3 at H3 hp
      generalize statR l x = n at H4 hp
      rcases hp with ⟨rfl, rfl⟩ | ⟨rfl, rfl, rfl⟩ | ⟨rfl, rfl, rfl, rfl⟩ | ⟨rfl, rfl, rfl, rfl⟩
      all_goals
        go_wp2_with (first
          | (go_at_call 25; first
            | ((with_reducible refine (H1.out _ BW.out).mono ?_); rintro e V2 ⟨rfl, hb2⟩; replace W3 := Lib.hid (W3.out.trans hb2); replace BW := Lib.hid (BW.out.trans hb2); replace YC := Lib.hid (YC.out.bel hb2); clear hb2 c0 c1 c2 c3 c4 c5 c6' c7; obtain ⟨c0, c1, c2, c3, c4, c5, c6', c7⟩ := CC.out V2 W3.out)
            | ((with_reducible refine (H2.out _ _ YC.out).mono ?_); rintro e V2 ⟨rfl, hb2⟩; replace W3 := Lib.hid (W3.out.trans hb2); replace BW := Lib.hid (BW.out.trans hb2); replace YC := Lib.hid (YC.out.bel hb2); clear hb2 c0 c1 c2 c3 c4 c5 c6' c7; obtain ⟨c0, c1, c2, c3, c4, c5, c6', c7⟩ := CC.out V2 W3.out))
          | (go_at_call 28; refine (H3.out _ BW.out).mono ?_; rintro e V2 ⟨rfl, hb2⟩; replace W3 := Lib.hid (W3.out.trans hb2); replace BW := Lib.hid (BW.out.trans hb2); replace YC := Lib.hid (YC.out.bel hb2); clear hb2 c0 c1 c2 c3 c4 c5 c6' c7; obtain ⟨c0, c1, c2, c3, c4, c5, c6', c7⟩ := CC.out V2 W3.out)
          | (go_at_call 29; refine (H4.out _ BW.out).mono ?_; rintro e V2 ⟨rfl, hb2⟩; replace W3 := Lib.hid (W3.out.trans hb2); replace BW := Lib.hid (BW.out.trans hb2); replace YC := Lib.hid (YC.out.bel hb2); clear hb2 c0 c1 c2 c3 c4 c5 c6' c7))
        go_roundw
        case rel => exact ⟨k + 1, by omega, by go_num, W3.out⟩
        case measure => simp [intOf]; omega
    · have hk8 : ¬ ((k : Int) < ar.length) := by omega
      go_wp2
      go_ret
      exact ⟨rfl, BW.out⟩
theorem counts_f (w : World) (v : Value) (l : List Rep) (hv : IsL w v l) (r : Rep) : Calls Try.prog 6 #[v, agR r] w (RetB w (.bool true)) := by
  obtain ⟨p, c, rfl⟩ := hv.shape
  by_cases h1 : l.length ≤ 20
  · exact counts_yes l r p c w hv h1
  · exact counts_no l r p c w (by omega)
end Go.Proofs.Ytdjgpbanokdnhaa.Pt
