/-
  The walk of ReportObjects.
-/
import Derived.Test.YtdjgpbanokdnhaaPtLt
import Derived.Test.YtdjgpbanokdnhaaPtZi
import Derived.Test.YtdjgpbanokdnhaaPtCo
namespace Go.Proofs.Ytdjgpbanokdnhaa.Pt
open Go.RowKit
attribute [local go_sem ↓] Go.wp_at_zero Go.wp_at_succ

set_option maxHeartbeats 4000000 in
set_option maxRecDepth 100000 in
theorem objs_no (l : List Rep) (o : Int) (p : Option Addr) (c : Nat) (w : World) (h : (20 : Int) < l.length) :
    Calls Try.prog 7 #[.slice p l.length c, .int .i64 o] w (RetB w (.bool true)) := by
  have B := Lib.hid (Bel.refl w)
  go_enter Try.func7, Try.ntmps7
  go_wp2_with (go_at_call 14; refine (known_f _).mono ?_; rintro e V ⟨rfl, hb⟩; replace B := Lib.hid (B.out.trans hb); clear hb)
  go_ret
  exact ⟨rfl, B.out⟩

set_option maxHeartbeats 8000000 in
set_option maxRecDepth 100000 in
theorem objs_yes (l : List Rep) (ob : Int) (p : Option Addr) (c : Nat) (w : World) (hv : IsL w (.slice p l.length c) l) (h1 : l.length ≤ 20) :
    Calls Try.prog 7 #[.slice p l.length c, .int .i64 ob] w (RetB w (.bool true)) := by
  have C1 : Hid (∀ V, Bel w V → Calls Try.prog 26 #[.slice p l.length c] V (RetP V fun x W => Own V W x (cntL l))) := Lib.hid fun V hb => lcounting_f l _ V (hv.bel hb) (by omega)
  have CO : Hid (∀ V, Bel w V → Calls Try.prog 31 #[.slice p l.length c] V (RetP V fun x W => OwnI V W x (objL (cntL l)))) := Lib.hid fun V hb => objects_f l _ V (hv.bel hb) (by omega)
  have SI : Hid (∀ V x y, IsI V x (objL (cntL l)) → IsI V y (objL (cntL l)) → Calls Try.prog 30 #[x, y] V (RetB V (.bool true))) := Lib.hid fun V x y h3 h4 => by
    have := sameInts_f _ _ x y V h3 h4
    rw [decide_eq_true rfl] at this
    exact this
  have OF : Hid (∀ V z, Bel w V → Calls Try.prog 33 #[.slice p l.length c, .int .i64 z] V (RetP V fun x W => Own V W x (cntL (aboutL z l)))) := Lib.hid fun V z hb => of_f l z _ V (hv.bel hb) (by omega)
  have LN : Hid (∀ V z, cntL (aboutL z l) = [] → Bel w V → Calls Try.prog 32 #[.slice p l.length c, .int .i64 z] V (RetB V (.tuple #[.agg #[.int .i64 0, .int .i64 0, .int .i64 0, .int .i64 0, .int .i64 0, .int .i64 0, .int .i64 0, .bool false], .bool false]))) := Lib.hid fun V z h hb => last_no l z _ V (hv.bel hb) (by omega) h
  have LY : Hid (∀ V z q y, (cntL (aboutL z l)).length = q + 1 → (cntL (aboutL z l))[q]! = y → Bel w V → Calls Try.prog 32 #[.slice p l.length c, .int .i64 z] V (RetB V (.tuple #[agR y, .bool true]))) := Lib.hid fun V z q y h h2 hb => last_yes l z _ V (hv.bel hb) (by omega) h h2
  have OA : Hid (∀ z, ownL z (cntL l) (cntL l).length = cntL (aboutL z l)) := Lib.hid fun z => ownL_all z l
  have IC : Hid (Inc (cntL l)) := Lib.hid (cntL_inc l)
  have NC : Hid ((cntL l).length ≤ 20) := Lib.hid (Nat.le_trans (List.length_filter_le _ _) (Nat.le_trans (setL_len _) h1))
  have g1 : ¬ (20 : Int) < l.length := by omega
  clear hv h1
  generalize cntL l = cs at C1 CO SI OA IC NC
  have B := Lib.hid (Bel.refl w)
  go_enter Try.func7, Try.ntmps7
  go_wp2_with (first
    | (go_at_call 14; refine (known_f _).mono ?_; rintro e V ⟨rfl, hb⟩; replace B := Lib.hid (B.out.trans hb); clear hb)
    | (go_at_call 26; refine (C1.out _ B.out).mono ?_; rintro e V1 ⟨xc, rfl, ho, hb⟩; have XC := Lib.hid ho.isl; replace B := Lib.hid (B.out.trans hb); clear hb ho))
  obtain ⟨pc, cc, hc3, hm3, hls⟩ : ∃ p c, xc = .slice p cs.length c ∧ c ≤ maxLen ∧ (cs = [] ∨ ∃ g o, p = some ⟨g, o, none⟩ ∧ g < V1.heap.size ∧ LsAt V1 g o cs) := by
    obtain ⟨p, c, h1, _, h2, h3, _⟩ := XC.out
    exact ⟨p, c, h1, h2, h3⟩
  subst hc3
  have LS := Lib.hid hls
  have BB := Lib.hid B.out
  clear hls g1
  have hnc := NC.out
  go_loopw [6, 7] (fun s6 s7 wr => ∃ k : Nat, k ≤ cs.length ∧ s7 = .int .i64 k ∧ OwnI V1 wr s6 (objL (cs.take k)) ∧ Bel V1 wr) (fun _ s7 _ => cs.length - (intOf s7).toNat)
  case atStart => exact ⟨0, by omega, rfl, by rw [List.take_zero, obj_nil]; exact OwnI.nil _ _, Bel.refl _⟩
  case round =>
    obtain ⟨k, hk, rfl, hown, hbl⟩ := hrel
    have O := Lib.hid hown
    have BW := Lib.hid hbl
    obtain ⟨p6, c6, rfl⟩ := hown.isi.shape
    have hil : (objL (cs.take k)).length ≤ 20 := Nat.le_trans (objL_len _) (by rw [List.length_take]; omega)
    clear hown hbl
    by_cases hlt : k < cs.length
    · obtain ⟨g, o, rfl, hg, hat⟩ := isl_open LS.out hlt
      have CC : Hid (∀ V, Bel V1 V → At8 V g (o + k * 8) cs[k]!) := Lib.hid fun V hb => (hat.bel hg hb).at8 hlt
      have hk8 : (k : Int) < cs.length := by omega
      have st := obj_step IC.out hlt
      clear hat hg
      generalize objL (cs.take k) = ids at O hil st
      generalize cs[k]! = x at CC st
      obtain ⟨c0, c1, c2, c3, c4, c5, c6', c7⟩ := CC.out wr BW.out
      rcases st with ⟨h0, hn⟩ | ⟨q, hq, hne, hn⟩ | ⟨q, hq, he, hn⟩
      · have hz : ((ids.length : Int) == 0) = true := by rw [h0]; rfl
        have N := Lib.hid hn
        clear h0 hn
        go_wp2
        go_quiet (fail)
        go_wp2_with (at_builtin; refine wpList_num (w0 := V1) (v := .slice p6 ids.length c6) (l := ids) (z := x.ob) (A := wr.heap.size) rfl _ _ rfl rfl rfl ((O.out.bel (Bel.drawnN _ _)).bel (Bel.new _ _)) (blkAt (heap_new (wr.drewN _) _) 0) ?b1 ?b2 ?b3)
        case b1 => omega
        case b2 =>
          have := BW.out.size
          simp
          omega
        case b3 =>
          intro v2 w2 hown hgr
          have hb2 := hgr.bel ((BW.out.drewN _).alloc _) O.out.lo
          rw [← N.out] at hown
          have O2 := Lib.hid hown
          have B2 := Lib.hid hb2
          clear hown hb2 hgr
          go_wp2
          go_roundw
          case rel => exact ⟨k + 1, by omega, by go_num, O2.out, B2.out⟩
          case measure => simp [intOf]; omega
      · obtain ⟨g6, o6, rfl, hg6, ha6⟩ := (show ∃ g o, p6 = some ⟨g, o, none⟩ ∧ g < wr.heap.size ∧ IsAt wr g o ids by
          obtain ⟨_, _, e1, _, _, h2, _⟩ := O.out.isi
          injection e1 with e1 e2 e3
          subst e1
          exact isi_open h2 (k := q) (by omega))
        have i0 := ha6 q (by omega)
        have hz : ((ids.length : Int) == 0) = false := by
          rw [hq]
          simp
          omega
        have hw : IntKind.i64.wrap ((ids.length : Int) - 1) = q := by
          rw [IntWalk.i64_in _ (by omega)]
          omega
        have hq1 : (q : Int) < ids.length := by omega
        have N := Lib.hid hn
        have q1 : (ids[q]! != x.ob) = true := bne_iff_ne.2 hne
        generalize ids[q]! = u at i0 q1
        clear hn hq hne ha6 hg6
        go_wp2
        go_quiet (fail)
        go_wp2_with (at_builtin; refine wpList_num (w0 := V1) (v := .slice (some ⟨g6, o6, none⟩) ids.length c6) (l := ids) (z := x.ob) (A := wr.heap.size) rfl _ _ rfl rfl rfl ((O.out.bel (Bel.drawnN _ _)).bel (Bel.new _ _)) (blkAt (heap_new (wr.drewN _) _) 0) ?b1 ?b2 ?b3)
        case b1 => omega
        case b2 =>
          have := BW.out.size
          simp
          omega
        case b3 =>
          intro v2 w2 hown hgr
          have hb2 := hgr.bel ((BW.out.drewN _).alloc _) O.out.lo
          rw [← N.out] at hown
          have O2 := Lib.hid hown
          have B2 := Lib.hid hb2
          clear hown hb2 hgr
          go_wp2
          go_roundw
          case rel => exact ⟨k + 1, by omega, by go_num, O2.out, B2.out⟩
          case measure => simp [intOf]; omega
      · obtain ⟨g6, o6, rfl, hg6, ha6⟩ := (show ∃ g o, p6 = some ⟨g, o, none⟩ ∧ g < wr.heap.size ∧ IsAt wr g o ids by
          obtain ⟨_, _, e1, _, _, h2, _⟩ := O.out.isi
          injection e1 with e1 e2 e3
          subst e1
          exact isi_open h2 (k := q) (by omega))
        have i0 := ha6 q (by omega)
        have hz : ((ids.length : Int) == 0) = false := by
          rw [hq]
          simp
          omega
        have hw : IntKind.i64.wrap ((ids.length : Int) - 1) = q := by
          rw [IntWalk.i64_in _ (by omega)]
          omega
        have hq1 : (q : Int) < ids.length := by omega
        have N := Lib.hid hn
        have q1 : (ids[q]! != x.ob) = false := by rw [he]; simp
        generalize ids[q]! = u at i0 q1
        clear hn hq he ha6 hg6
        go_wp2
        go_quiet (fail)
        go_wp2
        go_roundw
        case rel => exact ⟨k + 1, by omega, by go_num, by rw [N.out]; exact O.out.bel (Bel.drawnN _ _), BW.out.drewN _⟩
        case measure => simp [intOf]; omega
    · have hk8 : ¬ ((k : Int) < cs.length) := by omega
      have e : objL (cs.take k) = objL cs := by rw [List.take_of_length_le (by omega)]
      rw [e] at O hil ⊢
      clear e hk
      generalize objL cs = os at O hil CO SI ⊢
      replace B := Lib.hid (B.out.trans BW.out)
      have HIL := Lib.hid hil
      go_wp2_with (first
        | (go_at_call 31; refine (CO.out _ B.out).mono ?_; rintro e V2 ⟨x1, rfl, ho, hb2⟩; have X := Lib.hid ho.isi; replace O := Lib.hid (O.out.bel hb2); replace B := Lib.hid (B.out.trans hb2); replace BW := Lib.hid (BW.out.trans hb2); clear ho hb2)
        | (go_at_call 30; refine (SI.out _ _ _ X.out O.out.isi).mono ?_; rintro e V3 ⟨rfl, hb2⟩; replace O := Lib.hid (O.out.bel hb2); replace B := Lib.hid (B.out.trans hb2); replace BW := Lib.hid (BW.out.trans hb2); clear hb2 X)
        | (at_builtin; refine wpList_num (w0 := V1) (v := .slice p6 os.length c6) (l := os) (z := ob) (A := V3.heap.size) rfl _ _ rfl rfl rfl (O.out.bel (Bel.new _ _)) (blkAt (heap_new V3 _) 0) ?b1 ?b2 ?b3))
      case b1 => have := HIL.out; omega
      case b2 =>
        have := BW.out.size
        simp
        omega
      case b3 =>
        intro v2 w2 hown hgr
        have hb2 := hgr.bel (BW.out.alloc _) O.out.lo
        have h3 := hgr.bel (B.out.alloc _) (fun g hg => Nat.le_trans BB.out.size (O.out.lo g hg))
        have IX := Lib.hid hown.isi
        have V12 := Lib.hid hb2
        have W12 := Lib.hid h3
        have NL : Hid ((os ++ [ob]).length ≤ 21) := Lib.hid (by have := HIL.out; simp; omega)
        clear hown hb2 h3 hgr O BW hil HIL CO SI
        generalize os ++ [ob] = al at IX NL
        obtain ⟨p7, c7, hc7, hl7⟩ : ∃ p c, v2 = .slice p al.length c ∧ (al = [] ∨ ∃ g o, p = some ⟨g, o, none⟩ ∧ g < w2.heap.size ∧ IsAt w2 g o al) := by
          obtain ⟨p, c, h1, _, _, h3, _⟩ := IX.out
          exact ⟨p, c, h1, h3⟩
        subst hc7
        have LI := Lib.hid hl7
        have hnl := NL.out
        clear hl7 IX
        go_wp2
        go_loopw [8] (fun s8 wr => ∃ i : Nat, i ≤ al.length ∧ s8 = .int .i64 i ∧ Bel w2 wr) (fun s8 _ => al.length - (intOf s8).toNat)
        case atStart => exact ⟨0, by omega, rfl, Bel.refl _⟩
        case round =>
          rename World => w3
          obtain ⟨i, hi, rfl, hbl⟩ := hrel
          have W3 := Lib.hid hbl
          clear hbl
          by_cases hit : i < al.length
          · obtain ⟨g7, o7, rfl, hg7, ha7⟩ := isi_open LI.out hit
            have IC7 : Hid (∀ V, Bel w2 V → V.cell? ⟨g7, o7 + i, none⟩ = some (.int .i64 al[i]!)) := Lib.hid fun V hb => (ha7.bel hg7 hb) i hit
            have hi8 : (i : Int) < al.length := by omega
            generalize al[i]! = z at IC7
            clear ha7 hg7
            go_wp2
            go_loopw [9, 10] (fun s9 s10 wx => ∃ k : Nat, k ≤ cs.length ∧ s10 = .int .i64 k ∧ Own w3 wx s9 (ownL z cs k) ∧ Bel w3 wx) (fun _ s10 _ => cs.length - (intOf s10).toNat)
            case atStart => exact ⟨0, by omega, rfl, Own.nil _ _, Bel.refl _⟩
            case round =>
              obtain ⟨k, hk, rfl, hown, hbl⟩ := hrel
              have O := Lib.hid hown
              have BX := Lib.hid hbl
              obtain ⟨p9, c9, rfl⟩ := hown.isl.shape
              have hol := ownL_len z cs k
              clear hown hbl
              have i0 := IC7.out wr (W3.out.trans BX.out)
              by_cases hlt : k < cs.length
              · obtain ⟨g, o, rfl, hg, hat⟩ := isl_open LS.out hlt
                have hk8 : (k : Int) < cs.length := by omega
                have hc8 := (hat.bel hg (V12.out.trans (W3.out.trans BX.out))).at8 hlt
                have hn := ownL_next z cs k hlt
                clear hat hg
                generalize cs[k]! = x at hc8 hn
                obtain ⟨c0, c1, c2, c3, c4, c5, c6', c7'⟩ := hc8
                generalize ownL z cs k = acc at O hol hn
                by_cases hz : x.ob = z
                · have q1 : (x.ob == z) = true := by simp [hz]
                  rw [if_pos q1] at hn
                  have N := Lib.hid hn
                  clear hz hn
                  go_wp2
                  go_quiet (fail)
                  go_wp2_with (at_builtin; refine wpList_reps (w0 := w3) (v := .slice p9 acc.length c9) (l := acc) (m := [x]) rfl _ _ rfl rfl rfl ((O.out.bel (Bel.drawnN _ _)).bel (Bel.new _ _)) (isl_one x rfl (wr.drewN _) _ rfl) ?b1 ?b2 ?b3)
                  case b1 => simp only [List.length_cons, List.length_nil]; omega
                  case b2 => exact ((BX.out.drewN _).alloc _).size
                  case b3 =>
                    intro v2 w2' hown hgr
                    have hb2 := hgr.bel ((BX.out.drewN _).alloc _) O.out.lo
                    rw [← N.out] at hown
                    have O2 := Lib.hid hown
                    have B2 := Lib.hid hb2
                    clear hown hb2 hgr
                    go_wp2
                    go_roundw
                    case rel => exact ⟨k + 1, by omega, by go_num, O2.out, B2.out⟩
                    case measure => simp [intOf]; omega
                · have q1 : (x.ob == z) = false := by simp [hz]
                  rw [if_neg (by simp [hz])] at hn
                  have N := Lib.hid hn
                  clear hz hn
                  go_wp2
                  go_quiet (fail)
                  go_wp2
                  go_roundw
                  case rel => exact ⟨k + 1, by omega, by go_num, by rw [N.out]; exact O.out.bel (Bel.drawnN _ _), BX.out.drewN _⟩
                  case measure => simp [intOf]; omega
              · have hk8 : ¬ ((k : Int) < cs.length) := by omega
                have e : ownL z cs k = cntL (aboutL z l) := by rw [show k = cs.length by omega]; exact OA.out z
                rw [e] at O hol ⊢
                clear e hk
                have OFz : Hid (∀ V, Bel w V → Calls Try.prog 33 #[.slice p l.length c, .int .i64 z] V (RetP V fun x W => Own V W x (cntL (aboutL z l)))) := Lib.hid fun V hb => OF.out V z hb
                have LNz : Hid (∀ V, cntL (aboutL z l) = [] → Bel w V → Calls Try.prog 32 #[.slice p l.length c, .int .i64 z] V (RetB V (.tuple #[.agg #[.int .i64 0, .int .i64 0, .int .i64 0, .int .i64 0, .int .i64 0, .int .i64 0, .int .i64 0, .bool false], .bool false]))) := Lib.hid fun V h hb => LN.out V z h hb
                have LYz : Hid (∀ V q y, (cntL (aboutL z l)).length = q + 1 → (cntL (aboutL z l))[q]! = y → Bel w V → Calls Try.prog 32 #[.slice p l.length c, .int .i64 z] V (RetB V (.tuple #[agR y, .bool true]))) := Lib.hid fun V q y h h2 hb => LY.out V z q y h h2 hb
                have SM : Hid (∀ V x y, IsL V x (cntL (aboutL z l)) → IsL V y (cntL (aboutL z l)) → Calls Try.prog 19 #[x, y] V (RetB V (.bool true))) := Lib.hid fun V x y h3 h4 => by
                  have := same_f _ _ x y V h3 h4
                  rw [decide_eq_true rfl] at this
                  exact this
                generalize cntL (aboutL z l) = ow at O hol OFz LNz LYz SM ⊢
                have BV := Lib.hid (W12.out.trans (W3.out.trans BX.out))
                have U5 := Lib.hid (W3.out.trans BX.out)
                by_cases h0 : ow.length = 0
                · obtain rfl : ow = [] := List.eq_nil_of_length_eq_zero h0
                  have O9 := Lib.hid O.out.isl
                  clear O BX h0 hol
                  go_wp2_with (go_at_call 32; refine (LNz.out _ rfl BV.out).mono ?_; rintro e V5 ⟨rfl, hb2⟩; have B5 := Lib.hid (BV.out.trans hb2); replace U5 := Lib.hid (U5.out.trans hb2); replace O9 := Lib.hid (O9.out.bel hb2); clear hb2 BV i0)
                  obtain ⟨V6, hV6⟩ : ∃ V6, V6 = V5.alloc (.cells #[.int .i64 0, .int .i64 0, .int .i64 0, .int .i64 0, .int .i64 0, .int .i64 0, .int .i64 0, .bool false] 23) := ⟨_, rfl⟩
                  have BV6 := Lib.hid (show Bel w V6 by rw [hV6]; exact (B5.out.alloc _))
                  have BU := Lib.hid (show Bel w2 V6 by rw [hV6]; exact (U5.out.alloc _))
                  have O6 := Lib.hid (show IsL V6 (.slice p9 0 c9) [] by rw [hV6]; exact (O9.out.bel (Bel.new _ _)))
                  have X6 := Lib.hid (show V6.heap[V5.heap.size]? = some (.cells #[.int .i64 0, .int .i64 0, .int .i64 0, .int .i64 0, .int .i64 0, .int .i64 0, .int .i64 0, .bool false] 23 (0, 0)) by rw [hV6]; exact heap_new _ _)
                  rw [← hV6]
                  have HC : Hid (∀ w', Bel V6 w' → w'.cell? ⟨g7, o7 + i, none⟩ = some (.int .i64 z) ∧ w'.cell? ⟨V5.heap.size, 0, none⟩ = some (.int .i64 0) ∧ w'.cell? ⟨V5.heap.size, 1, none⟩ = some (.int .i64 0) ∧ w'.cell? ⟨V5.heap.size, 2, none⟩ = some (.int .i64 0) ∧ w'.cell? ⟨V5.heap.size, 3, none⟩ = some (.int .i64 0) ∧ w'.cell? ⟨V5.heap.size, 4, none⟩ = some (.int .i64 0) ∧ w'.cell? ⟨V5.heap.size, 5, none⟩ = some (.int .i64 0) ∧ w'.cell? ⟨V5.heap.size, 6, none⟩ = some (.int .i64 0) ∧ w'.cell? ⟨V5.heap.size, 7, none⟩ = some (.bool false)) := Lib.hid fun w' h => by
                    have hx := (h.b.block _ (Array.getElem?_eq_some_iff.1 X6.out).1).trans X6.out
                    exact ⟨IC7.out _ (BU.out.trans h), blkAt hx 0, blkAt hx 1, blkAt hx 2, blkAt hx 3, blkAt hx 4, blkAt hx 5, blkAt hx 6, blkAt hx 7⟩
                  have E0 := ne_rep zR
                  clear hV6 X6 LYz
                  refine late_S (S := fun V => Bel V6 V) (fun V h => h.drew) (Bel.refl _) ?_ rfl ?_
                  kernel_rfl
                  intro V4 hS0
                  have hS := Lib.hid hS0
                  clear hS0
                  repeat' (first
                    | ((first
                        | refine tkF (oi := ⟨some _, _, _, _, _, _⟩) rfl rfl (by kernel_rfl) (fun _ _ _ h => h) (Or.inl ⟨by rfl, by intro w' _; first | (go_simp; done) | (go_simp; with_reducible rfl)⟩) ?_
                        | refine tkN (oi := ⟨some _, _, _, _, _, _⟩) rfl rfl (by decide +kernel) (fun _ _ _ h => h) hS.out (Or.inl ⟨by rfl, by intro w' hSw; obtain ⟨i0, e0, e1, e2, e3, e4, e5, e6, e7⟩ := HC.out _ hSw; first | (go_simp; done) | (go_simp; with_reducible rfl)⟩) ?_
                        | refine tkG (oi := ⟨_, _, _, _, _, _⟩) rfl rfl (by kernel_rfl) (fun _ _ _ h => h) (by rfl) ?_)
                       (try simp only [Act.put, seti, set0, setS]))
                    | ((first | refine one (o := ⟨_, _, _, _, _, _⟩) rfl rfl (by kernel_rfl) (fun K hK => ?_) | refine two (o := ⟨_, _, _, _, _, _⟩) (o' := ⟨_, _, _, _, _, _⟩) rfl rfl rfl (by kernel_rfl) (fun K hK => ?_) (fun K hK => ?_))
                       all_goals (go_simp; first
                         | ((with_reducible refine (OFz.out _ (BV6.out.trans hS.out)).mono ?_); rintro e V4 ⟨x1, rfl, ho, hb2⟩; refine hK.out _ _ (Or.inr fun _ => hS.out.trans hb2) ?_; have X1 := Lib.hid ho.isl; clear ho; replace hS := Lib.hid (hS.out.trans hb2); clear hK K hb2; (try simp only [Act.put, seti, set0, setS]))
                         | ((with_reducible refine (SM.out _ _ _ X1.out (O6.out.bel hS.out)).mono ?_); rintro e V4 ⟨rfl, hb2⟩; refine hK.out _ _ (Or.inr fun _ => hS.out.trans hb2) ?_; replace hS := Lib.hid (hS.out.trans hb2); clear X1; clear hK K hb2; (try simp only [Act.put, seti, set0, setS]))
                         | (refine hK.out _ _ (Or.inr fun h => h) ?_; clear hK K; (try simp only [Act.put, seti, set0, setS]))))
                    | refine done rfl (by kernel_rfl) ?_ _)
                  all_goals
                    go_wp2
                    go_roundw
                    case rel => exact ⟨i + 1, by omega, by go_num, BU.out.trans hS.out⟩
                    case measure => simp [intOf]; omega
                · obtain ⟨q, hq⟩ : ∃ q, ow.length = q + 1 := ⟨ow.length - 1, by omega⟩
                  obtain ⟨y, hy⟩ : ∃ y, ow[q]! = y := ⟨_, rfl⟩
                  have LYy : Hid (∀ V, Bel w V → Calls Try.prog 32 #[.slice p l.length c, .int .i64 z] V (RetB V (.tuple #[agR y, .bool true]))) := Lib.hid fun V hb => LYz.out V q y hq hy hb
                  obtain ⟨g9, rfl, hr9, h4⟩ := O.out.row (by omega)
                  have R9 : Hid (∀ V, Bel wr V → At8 V g9 (q * 8) y) := Lib.hid fun V hb => by
                    have h1 := (hr9.bel hb).at'.at8 (i := q) (by omega)
                    rw [Nat.zero_add, hy] at h1
                    exact h1
                  have hw : IntKind.i64.wrap ((ow.length : Int) - 1) = q := by
                    rw [IntWalk.i64_in _ (by omega)]
                    omega
                  have hq1 : (q : Int) < ow.length := by omega
                  have hq2 : (0 : Int) < ow.length := by omega
                  have hq3 : 0 < ow.length := by omega
                  have hq4 : decide ((0 : Int) < ow.length) = true := decide_eq_true hq2
                  have hq5 : decide (0 < ow.length) = true := decide_eq_true hq3
                  have O9 := Lib.hid O.out.isl
                  clear O BX h0 hol hr9 h4 hq hy LNz LYz
                  have R5 := Lib.hid (Bel.refl wr)
                  go_wp2_with (go_at_call 32; refine (LYy.out _ BV.out).mono ?_; rintro e V5 ⟨rfl, hb2⟩; have B5 := Lib.hid (BV.out.trans hb2); replace U5 := Lib.hid (U5.out.trans hb2); replace O9 := Lib.hid (O9.out.bel hb2); replace R5 := Lib.hid (R5.out.trans hb2); clear hb2 BV i0)
                  obtain ⟨V6, hV6⟩ : ∃ V6, V6 = V5.alloc (.cells #[.int .i64 y.ob, .int .i64 y.sq, .int .i64 y.vs, .int .i64 y.dv, .int .i64 y.tm, .int .i64 y.px, .int .i64 y.py, .bool y.cn] 23) := ⟨_, rfl⟩
                  have BV6 := Lib.hid (show Bel w V6 by rw [hV6]; exact (B5.out.alloc _))
                  have BU := Lib.hid (show Bel w2 V6 by rw [hV6]; exact (U5.out.alloc _))
                  have O6 := Lib.hid (show IsL V6 (.slice (some ⟨g9, 0, none⟩) ow.length c9) ow by rw [hV6]; exact (O9.out.bel (Bel.new _ _)))
                  have X6 := Lib.hid (show V6.heap[V5.heap.size]? = some (.cells #[.int .i64 y.ob, .int .i64 y.sq, .int .i64 y.vs, .int .i64 y.dv, .int .i64 y.tm, .int .i64 y.px, .int .i64 y.py, .bool y.cn] 23 (0, 0)) by rw [hV6]; exact heap_new _ _)
                  rw [← hV6]
                  have R6 := Lib.hid (show Bel wr V6 by rw [hV6]; exact (R5.out.alloc _))
                  have HC : Hid (∀ w', Bel V6 w' → w'.cell? ⟨g7, o7 + i, none⟩ = some (.int .i64 z) ∧ w'.cell? ⟨V5.heap.size, 0, none⟩ = some (.int .i64 y.ob) ∧ w'.cell? ⟨V5.heap.size, 1, none⟩ = some (.int .i64 y.sq) ∧ w'.cell? ⟨V5.heap.size, 2, none⟩ = some (.int .i64 y.vs) ∧ w'.cell? ⟨V5.heap.size, 3, none⟩ = some (.int .i64 y.dv) ∧ w'.cell? ⟨V5.heap.size, 4, none⟩ = some (.int .i64 y.tm) ∧ w'.cell? ⟨V5.heap.size, 5, none⟩ = some (.int .i64 y.px) ∧ w'.cell? ⟨V5.heap.size, 6, none⟩ = some (.int .i64 y.py) ∧ w'.cell? ⟨V5.heap.size, 7, none⟩ = some (.bool y.cn) ∧ w'.cell? ⟨g9, q * 8, none⟩ = some (.int .i64 y.ob) ∧ w'.cell? ⟨g9, q * 8 + 1, none⟩ = some (.int .i64 y.sq) ∧ w'.cell? ⟨g9, q * 8 + 2, none⟩ = some (.int .i64 y.vs) ∧ w'.cell? ⟨g9, q * 8 + 3, none⟩ = some (.int .i64 y.dv) ∧ w'.cell? ⟨g9, q * 8 + 4, none⟩ = some (.int .i64 y.tm) ∧ w'.cell? ⟨g9, q * 8 + 5, none⟩ = some (.int .i64 y.px) ∧ w'.cell? ⟨g9, q * 8 + 6, none⟩ = some (.int .i64 y.py) ∧ w'.cell? ⟨g9, q * 8 + 7, none⟩ = some (.bool y.cn)) := Lib.hid fun w' h => by
                    have hx := (h.b.block _ (Array.getElem?_eq_some_iff.1 X6.out).1).trans X6.out
                    exact ⟨IC7.out _ (BU.out.trans h), blkAt hx 0, blkAt hx 1, blkAt hx 2, blkAt hx 3, blkAt hx 4, blkAt hx 5, blkAt hx 6, blkAt hx 7, R9.out _ (R6.out.trans h)⟩
                  have E1 := ne_rep y
                  clear hV6 X6
                  refine late_S (S := fun V => Bel V6 V) (fun V h => h.drew) (Bel.refl _) ?_ rfl ?_
                  kernel_rfl
                  intro V4 hS0
                  have hS := Lib.hid hS0
                  clear hS0
                  repeat' (first
                    | ((first
                        | refine tkF (oi := ⟨some _, _, _, _, _, _⟩) rfl rfl (by kernel_rfl) (fun _ _ _ h => h) (Or.inl ⟨by rfl, by intro w' _; first | (go_simp; done) | (go_simp; with_reducible rfl)⟩) ?_
                        | refine tkN (oi := ⟨some _, _, _, _, _, _⟩) rfl rfl (by decide +kernel) (fun _ _ _ h => h) hS.out (Or.inl ⟨by rfl, by intro w' hSw; obtain ⟨i0, e0, e1, e2, e3, e4, e5, e6, e7, d0, d1, d2, d3, d4, d5, d6, d7⟩ := HC.out _ hSw; first | (go_simp; done) | (go_simp; with_reducible rfl)⟩) ?_
                        | refine tkG (oi := ⟨_, _, _, _, _, _⟩) rfl rfl (by kernel_rfl) (fun _ _ _ h => h) (by rfl) ?_)
                       (try simp only [Act.put, seti, set0, setS]))
                    | ((first | refine one (o := ⟨_, _, _, _, _, _⟩) rfl rfl (by kernel_rfl) (fun K hK => ?_) | refine two (o := ⟨_, _, _, _, _, _⟩) (o' := ⟨_, _, _, _, _, _⟩) rfl rfl rfl (by kernel_rfl) (fun K hK => ?_) (fun K hK => ?_))
                       all_goals (go_simp; first
                         | ((with_reducible refine (OFz.out _ (BV6.out.trans hS.out)).mono ?_); rintro e V4 ⟨x1, rfl, ho, hb2⟩; refine hK.out _ _ (Or.inr fun _ => hS.out.trans hb2) ?_; have X1 := Lib.hid ho.isl; clear ho; replace hS := Lib.hid (hS.out.trans hb2); clear hK K hb2; (try simp only [Act.put, seti, set0, setS]))
                         | ((with_reducible refine (SM.out _ _ _ X1.out (O6.out.bel hS.out)).mono ?_); rintro e V4 ⟨rfl, hb2⟩; refine hK.out _ _ (Or.inr fun _ => hS.out.trans hb2) ?_; replace hS := Lib.hid (hS.out.trans hb2); clear X1; clear hK K hb2; (try simp only [Act.put, seti, set0, setS]))
                         | (refine hK.out _ _ (Or.inr fun h => h) ?_; clear hK K; (try simp only [Act.put, seti, set0, setS]))))
                    | refine done rfl (by kernel_rfl) ?_ _)
                  all_goals
                    go_wp2
                    go_roundw
                    case rel => exact ⟨i + 1, by omega, by go_num, BU.out.trans hS.out⟩
                    case measure => simp [intOf]; omega
          · have hi8 : ¬ (i : Int) < al.length := by omega
            go_wp2
            go_ret
            exact ⟨rfl, W12.out.trans W3.out⟩
theorem objs_f (w : World) (v : Value) (l : List Rep) (hv : IsL w v l) (o : Int) (_ : -9223372036854775808 ≤ o) (_ : o ≤ 9223372036854775807) : Calls Try.prog 7 #[v, .int .i64 o] w (RetB w (.bool true)) := by
  obtain ⟨p, c, rfl⟩ := hv.shape
  by_cases h1 : l.length ≤ 20
  · exact objs_yes l o p c w hv h1
  · exact objs_no l o p c w (by omega)
end Go.Proofs.Ytdjgpbanokdnhaa.Pt
