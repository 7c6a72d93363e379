/-
  The walk of ReportMerges.
-/
import Derived.Test.YtdjgpbanokdnhaaPtKn
namespace Go.Proofs.Ytdjgpbanokdnhaa.Pt
open Go.RowKit
attribute [local go_sem ↓] Go.wp_at_zero Go.wp_at_succ

/-- The cells of a report. -/
def At8 (V : World) (g A : Nat) (r : Rep) : Prop :=
    V.cell? ⟨g, A, none⟩ = some (.int .i64 r.ob) ∧ V.cell? ⟨g, A + 1, none⟩ = some (.int .i64 r.sq) ∧ V.cell? ⟨g, A + 2, none⟩ = some (.int .i64 r.vs) ∧ V.cell? ⟨g, A + 3, none⟩ = some (.int .i64 r.dv) ∧
    V.cell? ⟨g, A + 4, none⟩ = some (.int .i64 r.tm) ∧ V.cell? ⟨g, A + 5, none⟩ = some (.int .i64 r.px) ∧ V.cell? ⟨g, A + 6, none⟩ = some (.int .i64 r.py) ∧ V.cell? ⟨g, A + 7, none⟩ = some (.bool r.cn)
theorem LsAt.at8 {V : World} {g o : Nat} {l : List Rep} (h : LsAt V g o l) {i : Nat} (hi : i < l.length) : At8 V g (o + i * 8) l[i]! := h.c8 hi

theorem stat_two {l : List Rep} {r : Rep} (h : r ∈ l) : statR l r = 2 ↔ ¬ winB l r = true := by
  rw [statR, if_pos h]
  by_cases hw : winB l r = true
  · rw [if_pos hw]
    constructor
    · intro h2; split at h2 <;> omega
    · intro h2; exact absurd hw h2
  · rw [if_neg hw]
    exact ⟨fun _ => hw, fun _ => rfl⟩
/-- Those of the first k reports of a list that are not superseded. -/
def pk (l : List Rep) (k : Nat) : List Rep := (l.take k).filter fun r => !decide (statR l r = 2)
theorem pk_len (l : List Rep) (k : Nat) : (pk l k).length ≤ l.length := Nat.le_trans (List.length_filter_le _ _) (by rw [List.length_take]; omega)
theorem pk_next (l : List Rep) (k : Nat) (h : k < l.length) : pk l (k + 1) = if statR l l[k]! = 2 then pk l k else pk l k ++ [l[k]!] := by
  unfold pk
  rw [List.take_succ_eq_append_getElem h, List.filter_append, getElem!_pos l k h]
  split <;> simp_all
theorem pk_mem (l : List Rep) (r : Rep) : r ∈ pk l l.length ↔ r ∈ l ∧ winB l r = true := by
  unfold pk
  rw [List.take_length, List.mem_filter]
  constructor
  · rintro ⟨h1, h2⟩
    refine ⟨h1, ?_⟩
    simp only [Bool.not_eq_true', decide_eq_false_iff_not] at h2
    rw [stat_two h1] at h2
    exact Decidable.not_not.1 h2
  · rintro ⟨h1, h2⟩
    refine ⟨h1, ?_⟩
    simp only [Bool.not_eq_true', decide_eq_false_iff_not]
    rw [stat_two h1]
    exact not_not_intro h2
theorem merges_plain (a b : List Rep) : cntL (pk a a.length ++ pk b b.length) = cntL (a ++ b) := by
  refine cntL_of (cntL_inc _) fun r => ?_
  rw [cntL_mem]
  have ha := winP_wn a
  have hb := winP_wn b
  simp only [List.mem_append, pk_mem, winB_iff]
  constructor
  · rintro ⟨h1, h2, h3⟩
    refine ⟨h1.imp And.left And.left, ?_, h3⟩
    rintro q (hq | hq) e
    · obtain ⟨x, hx, e1, hc⟩ := ha.c q hq
      have h4 := (winP_mem a x).1 hx
      rw [winB_iff] at h4
      exact cmpR_le hc (h2 x (.inl h4) (e1.trans e))
    · obtain ⟨x, hx, e1, hc⟩ := hb.c q hq
      have h4 := (winP_mem b x).1 hx
      rw [winB_iff] at h4
      exact cmpR_le hc (h2 x (.inr h4) (e1.trans e))
  · rintro ⟨h1, h2, h3⟩
    refine ⟨?_, fun q hq e => h2 q (hq.imp And.left And.left) e, h3⟩
    rcases h1 with h1 | h1
    · exact .inl ⟨h1, fun q hq e => h2 q (.inl hq) e⟩
    · exact .inr ⟨h1, fun q hq e => h2 q (.inr hq) e⟩

set_option maxHeartbeats 4000000 in
set_option maxRecDepth 100000 in
theorem merges_no (a b : List Rep) (p q : Option Addr) (c d : Nat) (w : World) (h : (20 : Int) < a.length ∨ (a.length : Int) ≤ 20 ∧ (20 : Int) < b.length) :
    Calls Try.prog 12 #[.slice p a.length c, .slice q b.length d] w (RetB w (.bool true)) := by
  have B := Lib.hid (Bel.refl w)
  rcases h with h | ⟨h, h2⟩
  all_goals
    go_enter Try.func12, Try.ntmps12
    go_wp2_with (go_at_call 14; refine (known_f _).mono ?_; rintro e V ⟨rfl, hb⟩; replace B := Lib.hid (B.out.trans hb); clear hb)
    go_ret
    exact ⟨rfl, B.out⟩

set_option maxHeartbeats 8000000 in
set_option maxRecDepth 100000 in
theorem merges_yes (a b : List Rep) (p q : Option Addr) (c d : Nat) (w : World) (hv : IsL w (.slice p a.length c) a) (hu : IsL w (.slice q b.length d) b) (h1 : a.length ≤ 20) (h2 : b.length ≤ 20) :
    Calls Try.prog 12 #[.slice p a.length c, .slice q b.length d] w (RetB w (.bool true)) := by
  have hp := merges_plain a b
  have HA : Hid (∀ V r, Bel w V → Calls Try.prog 29 #[.slice p a.length c, agR r] V (RetB V (.int .i64 (statR a r)))) := Lib.hid fun V r hb => status_f a r _ V (hv.bel hb)
  have HB : Hid (∀ V r, Bel w V → Calls Try.prog 29 #[.slice q b.length d, agR r] V (RetB V (.int .i64 (statR b r)))) := Lib.hid fun V r hb => status_f b r _ V (hu.bel hb)
  have HU : Hid (∀ V, Bel w V → Calls Try.prog 22 #[.slice p a.length c, .slice q b.length d] V (RetP V fun x W => Own V W x (setL (a ++ b)))) := Lib.hid fun V hb => union_f a b _ _ V (hv.bel hb) (hu.bel hb) (by omega)
  have HJ : Hid (∀ V, Bel w V → Calls Try.prog 23 #[.slice q b.length d, .slice p a.length c] V (RetP V fun x W => Own V W x (b ++ a))) := Lib.hid fun V hb => join_f b a _ _ V (hu.bel hb) (hv.bel hb) (by omega)
  have C1 : Hid (∀ V x, IsL V x (setL (a ++ b)) → Calls Try.prog 27 #[x] V (RetP V fun x W => Own V W x (cntL (a ++ b)))) := Lib.hid fun V x h => by
    have := counting_f _ x V h (Nat.le_trans (setL_len _) (by rw [List.length_append]; omega))
    rw [cntL_congr (fun r => setL_mem (a ++ b) r)] at this
    exact this
  have C2 : Hid (∀ V x, IsL V x (b ++ a) → Calls Try.prog 27 #[x] V (RetP V fun x W => Own V W x (cntL (a ++ b)))) := Lib.hid fun V x h => by
    have := counting_f _ x V h (by rw [List.length_append]; omega)
    rw [cntL_congr (a := b ++ a) (b := a ++ b) (fun r => by simp only [List.mem_append]; exact Or.comm)] at this
    exact this
  have C3 : Hid (∀ V x, IsL V x (pk a a.length ++ pk b b.length) → Calls Try.prog 27 #[x] V (RetP V fun x W => Own V W x (cntL (a ++ b)))) := Lib.hid fun V x h => by
    have h3 := pk_len a a.length
    have h4 := pk_len b b.length
    have := counting_f _ x V h (by rw [List.length_append]; omega)
    rw [hp] at this
    exact this
  have SM : Hid (∀ V x y, IsL V x (cntL (a ++ b)) → IsL V y (cntL (a ++ b)) → Calls Try.prog 19 #[x, y] V (RetB V (.bool true))) := Lib.hid fun V x y h3 h4 => by
    have := same_f _ _ x y V h3 h4
    rw [decide_eq_true rfl] at this
    exact this
  obtain ⟨_, _, e1, _, _, hla, _⟩ := hv
  injection e1 with e1 e2 e3
  subst e1
  obtain ⟨_, _, e1, _, _, hlb, _⟩ := hu
  injection e1 with e1 e4 e5
  subst e1
  clear e2 e3 e4 e5
  have LA := Lib.hid hla
  have LB := Lib.hid hlb
  clear hla hlb hp
  generalize cntL (a ++ b) = L at C1 C2 C3 SM
  generalize setL (a ++ b) = L1 at C1 HU
  generalize b ++ a = L2 at C2 HJ
  have g1 : ¬ (20 : Int) < a.length := by omega
  have g2 : ¬ (20 : Int) < b.length := by omega
  have G := Lib.hid (And.intro h1 h2)
  have B := Lib.hid (Bel.refl w)
  clear h1 h2
  go_enter Try.func12, Try.ntmps12
  go_wp2_with (go_at_call 14; refine (known_f _).mono ?_; rintro e V ⟨rfl, hb⟩; replace B := Lib.hid (B.out.trans hb); clear hb)
  clear g1 g2
  go_loopw [5, 6] (fun s5 s6 wr => ∃ k : Nat, k ≤ a.length ∧ s6 = .int .i64 k ∧ Own w wr s5 (pk a k) ∧ Bel w wr) (fun _ s6 _ => a.length - (intOf s6).toNat)
  case atStart => exact ⟨0, by omega, rfl, Own.nil _ _, B.out⟩
  case round =>
    obtain ⟨k, hk, rfl, hown, hbl⟩ := hrel
    have O := Lib.hid hown
    replace B := Lib.hid hbl
    obtain ⟨p5, c5, rfl⟩ := hown.isl.shape
    clear hown hbl
    by_cases hlt : k < a.length
    · obtain ⟨g, o, rfl, hg, hat⟩ := isl_open LA.out hlt
      have CC : Hid (∀ V, Bel w V → At8 V g (o + k * 8) a[k]!) := Lib.hid fun V hb => (hat.bel hg hb).at8 hlt
      have hk8 : (k : Int) < a.length := by omega
      have hl := pk_len a k
      have N := Lib.hid (pk_next a k hlt)
      clear hat hg
      have S1 : Hid (∀ V, Bel w V → Calls Try.prog 29 #[.slice (some ⟨g, o, none⟩) a.length c, agR a[k]!] V (RetB V (.int .i64 (statR a a[k]!)))) := Lib.hid fun V hb => HA.out V _ hb
      generalize a[k]! = r at CC N S1
      generalize pk a k = acc at O N hl
      generalize statR a r = st at N S1
      obtain ⟨c0, c1, c2, c3, c4, c5', c6, c7⟩ := CC.out wr B.out
      by_cases hs : st = 2
      · subst hs
        rw [if_pos rfl] at N
        go_wp2_with (go_at_call 29; refine (S1.out _ B.out).mono ?_; rintro e V2 ⟨rfl, hb2⟩; replace B := Lib.hid (B.out.trans hb2); replace O := Lib.hid (O.out.bel hb2); clear hb2)
        go_roundw
        case rel => exact ⟨k + 1, by omega, by go_num, by rw [N.out]; exact O.out, B.out⟩
        case measure => simp [intOf]; omega
      · rw [if_neg hs] at N
        have hk20 := G.out.1
        go_wp2_with (first
          | (go_at_call 29; refine (S1.out _ B.out).mono ?_; rintro e V2 ⟨rfl, hb2⟩; replace B := Lib.hid (B.out.trans hb2); replace O := Lib.hid (O.out.bel hb2); clear hb2 c0 c1 c2 c3 c4 c5' c6 c7; obtain ⟨c0, c1, c2, c3, c4, c5', c6, c7⟩ := CC.out V2 B.out)
          | (at_builtin; refine wpList_reps (w0 := w) (v := .slice p5 acc.length c5) (l := acc) (m := [r]) rfl _ _ rfl rfl rfl (O.out.bel (Bel.new _ _)) (isl_one r rfl _ _ (by simp)) ?b1 ?b2 ?b3))
        case b1 => simp only [List.length_cons, List.length_nil]; omega
        case b2 => exact (B.out.alloc _).size
        case b3 =>
          intro v2 w2 hown hgr
          have hb2 := hgr.bel (B.out.alloc _) O.out.lo
          have O2 := Lib.hid hown
          have B2 := Lib.hid hb2
          clear hown hb2 hgr
          go_wp2
          go_roundw
          case rel => exact ⟨k + 1, by omega, by go_num, by rw [N.out]; exact O2.out, B2.out⟩
          case measure => simp [intOf]; omega
    · have hk8 : ¬ ((k : Int) < a.length) := by omega
      have hka : k = a.length := by omega
      have hl := pk_len a k
      rw [← hka] at C3
      generalize pk a k = wa at O C3 hl
      have HL := Lib.hid hl
      have HK := Lib.hid hka
      clear hka hl HA LA hk hlt
      go_wp2
      clear hk8
      go_loopw [5, 7] (fun s5 s7 wr => ∃ k : Nat, k ≤ b.length ∧ s7 = .int .i64 k ∧ Own w wr s5 (wa ++ pk b k) ∧ Bel w wr) (fun _ s7 _ => b.length - (intOf s7).toNat)
      case atStart => exact ⟨0, by omega, rfl, by rw [show pk b 0 = [] from rfl, List.append_nil]; exact O.out, B.out⟩
      case round =>
        obtain ⟨k, hk, rfl, hown, hbl⟩ := hrel
        replace O := Lib.hid hown
        replace B := Lib.hid hbl
        obtain ⟨p6, c6, rfl⟩ := hown.isl.shape
        clear hown hbl
        by_cases hlt : k < b.length
        · obtain ⟨g, o, rfl, hg, hat⟩ := isl_open LB.out hlt
          have CC : Hid (∀ V, Bel w V → At8 V g (o + k * 8) b[k]!) := Lib.hid fun V hb => (hat.bel hg hb).at8 hlt
          have hk8 : (k : Int) < b.length := by omega
          have hl : (wa ++ pk b k).length ≤ 40 := by
            have h1 := pk_len b k
            have h2 := HL.out
            have h3 := G.out
            rw [List.length_append]
            omega
          have N : Hid (wa ++ pk b (k + 1) = if statR b b[k]! = 2 then wa ++ pk b k else (wa ++ pk b k) ++ [b[k]!]) := Lib.hid (by
            rw [pk_next b k hlt]
            split
            · rfl
            · rw [List.append_assoc])
          clear hat hg
          have S1 : Hid (∀ V, Bel w V → Calls Try.prog 29 #[.slice (some ⟨g, o, none⟩) b.length d, agR b[k]!] V (RetB V (.int .i64 (statR b b[k]!)))) := Lib.hid fun V hb => HB.out V _ hb
          generalize b[k]! = r at CC N S1
          generalize wa ++ pk b k = acc at O N hl
          generalize statR b r = st at N S1
          obtain ⟨c0, c1, c2, c3, c4, c5', c6', c7⟩ := CC.out wr B.out
          by_cases hs : st = 2
          · subst hs
            rw [if_pos rfl] at N
            go_wp2_with (go_at_call 29; refine (S1.out _ B.out).mono ?_; rintro e V2 ⟨rfl, hb2⟩; replace B := Lib.hid (B.out.trans hb2); replace O := Lib.hid (O.out.bel hb2); clear hb2)
            go_roundw
            case rel => exact ⟨k + 1, by omega, by go_num, by rw [N.out]; exact O.out, B.out⟩
            case measure => simp [intOf]; omega
          · rw [if_neg hs] at N
            go_wp2_with (first
              | (go_at_call 29; refine (S1.out _ B.out).mono ?_; rintro e V2 ⟨rfl, hb2⟩; replace B := Lib.hid (B.out.trans hb2); replace O := Lib.hid (O.out.bel hb2); clear hb2 c0 c1 c2 c3 c4 c5' c6' c7; obtain ⟨c0, c1, c2, c3, c4, c5', c6', c7⟩ := CC.out V2 B.out)
              | (at_builtin; refine wpList_reps (w0 := w) (v := .slice p6 acc.length c6) (l := acc) (m := [r]) rfl _ _ rfl rfl rfl (O.out.bel (Bel.new _ _)) (isl_one r rfl _ _ (by simp)) ?b1 ?b2 ?b3))
            case b1 => simp only [List.length_cons, List.length_nil]; omega
            case b2 => exact (B.out.alloc _).size
            case b3 =>
              intro v2 w2 hown hgr
              have hb2 := hgr.bel (B.out.alloc _) O.out.lo
              have O2 := Lib.hid hown
              have B2 := Lib.hid hb2
              clear hown hb2 hgr
              go_wp2
              go_roundw
              case rel => exact ⟨k + 1, by omega, by go_num, by rw [N.out]; exact O2.out, B2.out⟩
              case measure => simp [intOf]; omega
        · have hk8 : ¬ ((k : Int) < b.length) := by omega
          have hkb : k = b.length := by omega
          rw [← hkb] at C3
          generalize wa ++ pk b k = ws at O C3
          have WS := Lib.hid O.out.isl
          clear O
          go_wp2_with (first
            | (go_at_call 22; refine (HU.out _ B.out).mono ?_; rintro e V2 ⟨x1, rfl, ho, hb2⟩; have X1 := Lib.hid ho.isl; replace B := Lib.hid (B.out.trans hb2); replace WS := Lib.hid (WS.out.bel hb2); clear ho hb2)
            | (go_at_call 23; refine (HJ.out _ B.out).mono ?_; rintro e V2 ⟨x1, rfl, ho, hb2⟩; have X2 := Lib.hid ho.isl; replace B := Lib.hid (B.out.trans hb2); replace WS := Lib.hid (WS.out.bel hb2); clear ho hb2)
            | (go_at_call 27; first
              | (refine (C1.out _ _ X1.out).mono ?_; rintro e V2 ⟨x1, rfl, ho, hb2⟩; have Y1 := Lib.hid ho.isl; replace B := Lib.hid (B.out.trans hb2); replace WS := Lib.hid (WS.out.bel hb2); clear ho hb2 X1)
              | (refine (C2.out _ _ X2.out).mono ?_; rintro e V2 ⟨x1, rfl, ho, hb2⟩; have Y1 := Lib.hid ho.isl; replace B := Lib.hid (B.out.trans hb2); replace WS := Lib.hid (WS.out.bel hb2); clear ho hb2 X2)
              | (refine (C3.out _ _ WS.out).mono ?_; rintro e V2 ⟨x1, rfl, ho, hb2⟩; have Y2 := Lib.hid ho.isl; replace B := Lib.hid (B.out.trans hb2); replace WS := Lib.hid (WS.out.bel hb2); replace Y1 := Lib.hid (Y1.out.bel hb2); clear ho hb2))
            | (go_at_call 19; refine (SM.out _ _ _ Y1.out Y2.out).mono ?_; rintro e V2 ⟨rfl, hb2⟩; replace B := Lib.hid (B.out.trans hb2); replace WS := Lib.hid (WS.out.bel hb2); clear hb2 Y1 Y2))
          go_ret
          exact ⟨rfl, B.out⟩
theorem merges_f (w : World) (v : Value) (a : List Rep) (hv : IsL w v a) (u : Value) (b : List Rep) (hu : IsL w u b) : Calls Try.prog 12 #[v, u] w (RetB w (.bool true)) := by
  obtain ⟨p, c, rfl⟩ := hv.shape
  obtain ⟨q, d, rfl⟩ := hu.shape
  by_cases h1 : a.length ≤ 20
  · by_cases h2 : b.length ≤ 20
    · exact merges_yes a b p q c d w hv hu h1 h2
    · exact merges_no a b p q c d w (.inr ⟨by omega, by omega⟩)
  · exact merges_no a b p q c d w (.inl (by omega))
end Go.Proofs.Ytdjgpbanokdnhaa.Pt
