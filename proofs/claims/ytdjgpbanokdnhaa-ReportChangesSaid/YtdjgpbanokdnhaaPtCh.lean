/-
  The walk of ReportChanges.
-/
import Derived.Test.YtdjgpbanokdnhaaPtWo
import Derived.Test.YtdjgpbanokdnhaaPtCo
namespace Go.Proofs.Ytdjgpbanokdnhaa.Pt
open Go.RowKit
attribute [local go_sem ↓] Go.wp_at_zero Go.wp_at_succ

set_option maxHeartbeats 4000000 in
set_option maxRecDepth 100000 in
theorem chgs_no (a b : List Rep) (p q : Option Addr) (c d : Nat) (w : World) (h : (20 : Int) < a.length ∨ (a.length : Int) ≤ 20 ∧ (20 : Int) < b.length) :
    Calls Try.prog 9 #[.slice p a.length c, .slice q b.length d] w (RetB w (.bool true)) := by
  have B := Lib.hid (Bel.refl w)
  rcases h with h | ⟨h, h2⟩
  all_goals
    go_enter Try.func9, Try.ntmps9
    go_wp2_with (go_at_call 14; refine (known_f _).mono ?_; rintro e V ⟨rfl, hb⟩; replace B := Lib.hid (B.out.trans hb); clear hb)
    go_ret
    exact ⟨rfl, B.out⟩

set_option maxHeartbeats 8000000 in
set_option maxRecDepth 100000 in
theorem chgs_yes (a b : List Rep) (p q : Option Addr) (c d : Nat) (w : World) (hv : IsL w (.slice p a.length c) a) (hu : IsL w (.slice q b.length d) b) (h1 : a.length ≤ 20) (h2 : b.length ≤ 20) :
    Calls Try.prog 9 #[.slice p a.length c, .slice q b.length d] w (RetB w (.bool true)) := by
  have la : (cntL a).length ≤ 20 := Nat.le_trans (List.length_filter_le _ _) (Nat.le_trans (setL_len _) h1)
  have lb : (cntL b).length ≤ 20 := Nat.le_trans (List.length_filter_le _ _) (Nat.le_trans (setL_len _) h2)
  have C1 : Hid (∀ V, Bel w V → Calls Try.prog 26 #[.slice p a.length c] V (RetP V fun x W => Own V W x (cntL a))) := Lib.hid fun V hb => lcounting_f a _ V (hv.bel hb) (by omega)
  have C2 : Hid (∀ V, Bel w V → Calls Try.prog 26 #[.slice q b.length d] V (RetP V fun x W => Own V W x (cntL b))) := Lib.hid fun V hb => lcounting_f b _ V (hu.bel hb) (by omega)
  have CJ : Hid (∀ V x y, IsL V x (cntL a) → IsL V y (cntL b) → Calls Try.prog 23 #[x, y] V (RetP V fun x W => Own V W x (cntL a ++ cntL b))) := Lib.hid fun V x y h3 h4 => join_f _ _ x y V h3 h4 (by omega)
  have CS : Hid (∀ V x, IsL V x (cntL a ++ cntL b) → Calls Try.prog 21 #[x] V (RetP V fun x W => Own V W x (setL (cntL a ++ cntL b)))) := Lib.hid fun V x h => lset_f _ x V h (by rw [List.length_append]; omega)
  have GX : Hid (∀ V y r, IsL V y (cntL a) → Calls Try.prog 25 #[y, agR r] V (RetB V (.bool (decide (r ∈ cntL a))))) := Lib.hid fun V y r h => has_f _ r y V h
  have GY : Hid (∀ V y r, IsL V y (cntL b) → Calls Try.prog 25 #[y, agR r] V (RetB V (.bool (decide (r ∈ cntL b))))) := Lib.hid fun V y r h => has_f _ r y V h
  have H1 : Hid (∀ V, Bel w V → Calls Try.prog 35 #[.slice p a.length c, .slice q b.length d] V (RetP V fun x W => OwnI V W x (chgL a b))) := Lib.hid fun V hb => changed_f a b _ _ V (hv.bel hb) (hu.bel hb) (by omega) (by omega)
  have H2 : Hid (∀ V, Bel w V → Calls Try.prog 35 #[.slice q b.length d, .slice p a.length c] V (RetP V fun x W => OwnI V W x (chgL a b))) := Lib.hid fun V hb => by
    have := changed_f b a _ _ V (hu.bel hb) (hv.bel hb) (by omega) (by omega)
    rw [chg_comm] at this
    exact this
  have EN : Hid (objL (difL (cntL a) (cntL b) (setL (cntL a ++ cntL b)) (setL (cntL a ++ cntL b)).length) = chgL a b) := Lib.hid (chg_law a b)
  have IS : Hid (Inc (setL (cntL a ++ cntL b))) := Lib.hid (setL_inc _)
  have NS : Hid ((setL (cntL a ++ cntL b)).length ≤ 40) := Lib.hid (Nat.le_trans (setL_len _) (by rw [List.length_append]; omega))
  have SI : Hid (∀ V x y, IsI V x (chgL a b) → IsI V y (chgL a b) → Calls Try.prog 30 #[x, y] V (RetB V (.bool true))) := Lib.hid fun V x y h3 h4 => by
    have := sameInts_f _ _ x y V h3 h4
    rw [decide_eq_true rfl] at this
    exact this
  have g1 : ¬ (20 : Int) < a.length := by omega
  have g2 : ¬ (20 : Int) < b.length := by omega
  clear hv hu h1 h2 la lb
  generalize chgL a b = ch at H1 H2 EN SI
  generalize setL (cntL a ++ cntL b) = s at CS EN IS NS
  generalize cntL a ++ cntL b = ab at CJ CS
  generalize cntL a = xs at C1 CJ GX EN
  generalize cntL b = ys at C2 CJ GY EN
  have B := Lib.hid (Bel.refl w)
  go_enter Try.func9, Try.ntmps9
  go_wp2_with (first
    | (go_at_call 14; refine (known_f _).mono ?_; rintro e V ⟨rfl, hb⟩; replace B := Lib.hid (B.out.trans hb); clear hb)
    | (go_at_call 26; first
      | ((with_reducible refine (C1.out _ B.out).mono ?_); rintro e V ⟨xa, rfl, ho, hb2⟩; have XA := Lib.hid ho.isl; replace B := Lib.hid (B.out.trans hb2); clear ho hb2 C1)
      | ((with_reducible refine (C2.out _ B.out).mono ?_); rintro e V ⟨xb, rfl, ho, hb2⟩; have XB := Lib.hid ho.isl; replace XA := Lib.hid (XA.out.bel hb2); replace B := Lib.hid (B.out.trans hb2); clear ho hb2 C2))
    | (go_at_call 23; refine (CJ.out _ _ _ XA.out XB.out).mono ?_; rintro e V ⟨xj, rfl, ho, hb2⟩; have XJ := Lib.hid ho.isl; replace XA := Lib.hid (XA.out.bel hb2); replace XB := Lib.hid (XB.out.bel hb2); replace B := Lib.hid (B.out.trans hb2); clear ho hb2)
    | (go_at_call 21; refine (CS.out _ _ XJ.out).mono ?_; rintro e V1 ⟨x7, rfl, ho, hb2⟩; have X7 := Lib.hid ho.isl; replace XA := Lib.hid (XA.out.bel hb2); replace XB := Lib.hid (XB.out.bel hb2); replace B := Lib.hid (B.out.trans hb2); clear ho hb2 XJ))
  obtain ⟨p7, c7, hc7, hl7⟩ : ∃ p c, x7 = .slice p s.length c ∧ (s = [] ∨ ∃ g o, p = some ⟨g, o, none⟩ ∧ g < V1.heap.size ∧ LsAt V1 g o s) := by
    obtain ⟨p, c, h1, _, _, h3, _⟩ := X7.out
    exact ⟨p, c, h1, h3⟩
  subst hc7
  have LS := Lib.hid hl7
  have hns := NS.out
  clear hl7 X7 g1 g2 CJ CS
  go_loopw [8, 9] (fun s8 s9 wr => ∃ k : Nat, k ≤ s.length ∧ s9 = .int .i64 k ∧ OwnI V1 wr s8 (objL (difL xs ys s k)) ∧ Bel V1 wr) (fun _ s9 _ => s.length - (intOf s9).toNat)
  case atStart => exact ⟨0, by omega, rfl, by rw [show difL xs ys s 0 = [] from rfl, obj_nil]; exact OwnI.nil _ _, Bel.refl _⟩
  case round =>
    obtain ⟨k, hk, rfl, hown, hbl⟩ := hrel
    have O := Lib.hid hown
    have BW := Lib.hid hbl
    obtain ⟨p8, c8, rfl⟩ := hown.isi.shape
    have hil : (objL (difL xs ys s k)).length ≤ 40 := Nat.le_trans (objL_len _) (Nat.le_trans (difL_len _ _ _ _) hns)
    clear hown hbl
    by_cases hlt : k < s.length
    · obtain ⟨g, o, rfl, hg, hat⟩ := isl_open LS.out hlt
      have CC : Hid (∀ V, Bel V1 V → At8 V g (o + k * 8) s[k]!) := Lib.hid fun V hb => (hat.bel hg hb).at8 hlt
      have hk8 : (k : Int) < s.length := by omega
      have hd0 := difL_next xs ys s k hlt
      have hinc := difL_inc (x := xs) (y := ys) IS.out (k + 1)
      clear hat hg
      generalize s[k]! = r at CC hd0
      have HX : Hid (∀ V, Bel V1 V → Calls Try.prog 25 #[xa, agR r] V (RetB V (.bool (decide (r ∈ xs))))) := Lib.hid fun V hb => GX.out V _ r (XA.out.bel hb)
      have HY : Hid (∀ V, Bel V1 V → Calls Try.prog 25 #[xb, agR r] V (RetB V (.bool (decide (r ∈ ys))))) := Lib.hid fun V hb => GY.out V _ r (XB.out.bel hb)
      unfold difB at hd0
      generalize decide (r ∈ xs) = bx at HX hd0
      generalize decide (r ∈ ys) = bz at HY hd0
      rcases Bool.eq_false_or_eq_true bx with rfl | rfl
      · rcases Bool.eq_false_or_eq_true bz with rfl | rfl
        · rw [if_neg (by decide)] at hd0
          have N : Hid (objL (difL xs ys s (k + 1)) = objL (difL xs ys s k)) := Lib.hid (by rw [hd0])
          have HC : Hid (∀ w', Bel wr w' → w'.cell? ⟨g, o + k * 8, none⟩ = some (.int .i64 r.ob) ∧ w'.cell? ⟨g, o + k * 8 + 1, none⟩ = some (.int .i64 r.sq) ∧ w'.cell? ⟨g, o + k * 8 + 2, none⟩ = some (.int .i64 r.vs) ∧ w'.cell? ⟨g, o + k * 8 + 3, none⟩ = some (.int .i64 r.dv) ∧ w'.cell? ⟨g, o + k * 8 + 4, none⟩ = some (.int .i64 r.tm) ∧ w'.cell? ⟨g, o + k * 8 + 5, none⟩ = some (.int .i64 r.px) ∧ w'.cell? ⟨g, o + k * 8 + 6, none⟩ = some (.int .i64 r.py) ∧ w'.cell? ⟨g, o + k * 8 + 7, none⟩ = some (.bool r.cn)) := Lib.hid fun w' h => CC.out _ (BW.out.trans h)
          clear hd0 hinc
          go_wp2
          refine late_S (S := fun V => Bel wr V) (fun V h => h.drew) (Bel.refl wr) ?_ rfl ?_
          kernel_rfl
          intro V4 hS0
          have hS := Lib.hid hS0
          clear hS0
          repeat' (first
            | ((first
                | refine tkF (oi := ⟨some _, _, _, _, _, _⟩) rfl rfl (by kernel_rfl) (fun _ _ _ h => h) (Or.inl ⟨by rfl, by intro w' _; first | (go_simp; done) | (go_simp; with_reducible rfl)⟩) ?_
                | refine tkN (oi := ⟨some _, _, _, _, _, _⟩) rfl rfl (by decide +kernel) (fun _ _ _ h => h) hS.out (Or.inl ⟨by rfl, by intro w' hSw; obtain ⟨y0, y1, y2, y3, y4, y5, y6, y7⟩ := HC.out _ hSw; first | (go_simp; done) | (go_simp; with_reducible rfl)⟩) ?_
                | refine tkG (oi := ⟨_, _, _, _, _, _⟩) rfl rfl (by kernel_rfl) (fun _ _ _ h => h) (by rfl) ?_)
               (try simp only [Act.put, seti, set0, setS]))
            | ((first | refine one (o := ⟨_, _, _, _, _, _⟩) rfl rfl (by kernel_rfl) (fun K hK => ?_) | refine two (o := ⟨_, _, _, _, _, _⟩) (o' := ⟨_, _, _, _, _, _⟩) rfl rfl rfl (by kernel_rfl) (fun K hK => ?_) (fun K hK => ?_))
               all_goals (go_simp; first
                 | ((with_reducible refine (HX.out _ (BW.out.trans hS.out)).mono ?_); rintro e V4 ⟨rfl, hb2⟩; refine hK.out _ _ (Or.inr fun _ => hS.out.trans hb2) ?_; replace hS := Lib.hid (hS.out.trans hb2); clear hK K hb2; (try simp only [Act.put, seti, set0, setS]))
                 | ((with_reducible refine (HY.out _ (BW.out.trans hS.out)).mono ?_); rintro e V4 ⟨rfl, hb2⟩; refine hK.out _ _ (Or.inr fun _ => hS.out.trans hb2) ?_; replace hS := Lib.hid (hS.out.trans hb2); clear hK K hb2; (try simp only [Act.put, seti, set0, setS]))
                 | (refine hK.out _ _ (Or.inr fun h => h) ?_; clear hK K; (try simp only [Act.put, seti, set0, setS]))))
            | refine done rfl (by kernel_rfl) ?_ _)
          all_goals
            go_wp2
            go_roundw
            case rel => exact ⟨k + 1, by omega, by go_num, by rw [N.out]; exact O.out.bel hS.out, BW.out.trans hS.out⟩
            case measure => simp [intOf]; omega
        · rw [if_pos (by decide)] at hd0
          rw [hd0] at hinc
          have hn0 : objL (difL xs ys s (k + 1)) = objL (difL xs ys s k ++ [r]) := by rw [hd0]
          have st := obj_step' hinc
          clear hd0 hinc
          generalize objL (difL xs ys s k ++ [r]) = nx at st hn0
          generalize objL (difL xs ys s k) = ids at O hil st
          rcases st with ⟨h0, hn⟩ | ⟨q, hq, hne, hn⟩ | ⟨q, hq, he, hn⟩
          · have hz : ((ids.length : Int) == 0) = true := by rw [h0]; rfl
            have N := Lib.hid (hn0.trans hn)
            have HC : Hid (∀ w', Bel wr w' → w'.cell? ⟨g, o + k * 8, none⟩ = some (.int .i64 r.ob) ∧ w'.cell? ⟨g, o + k * 8 + 1, none⟩ = some (.int .i64 r.sq) ∧ w'.cell? ⟨g, o + k * 8 + 2, none⟩ = some (.int .i64 r.vs) ∧ w'.cell? ⟨g, o + k * 8 + 3, none⟩ = some (.int .i64 r.dv) ∧ w'.cell? ⟨g, o + k * 8 + 4, none⟩ = some (.int .i64 r.tm) ∧ w'.cell? ⟨g, o + k * 8 + 5, none⟩ = some (.int .i64 r.px) ∧ w'.cell? ⟨g, o + k * 8 + 6, none⟩ = some (.int .i64 r.py) ∧ w'.cell? ⟨g, o + k * 8 + 7, none⟩ = some (.bool r.cn)) := Lib.hid fun w' h => CC.out _ (BW.out.trans h)
            clear h0 hn hn0
            go_wp2
            refine late_S (S := fun V => Bel wr V) (fun V h => h.drew) (Bel.refl wr) ?_ rfl ?_
            kernel_rfl
            intro V4 hS0
            have hS := Lib.hid hS0
            clear hS0
            repeat' (first
              | ((first
                  | refine tkF (oi := ⟨some _, _, _, _, _, _⟩) rfl rfl (by kernel_rfl) (fun _ _ _ h => h) (Or.inl ⟨by rfl, by intro w' _; first | (go_simp; done) | (go_simp; with_reducible rfl)⟩) ?_
                  | refine tkN (oi := ⟨some _, _, _, _, _, _⟩) rfl rfl (by decide +kernel) (fun _ _ _ h => h) hS.out (Or.inl ⟨by rfl, by intro w' hSw; obtain ⟨y0, y1, y2, y3, y4, y5, y6, y7⟩ := HC.out _ hSw; first | (go_simp; done) | (go_simp; with_reducible rfl)⟩) ?_
                  | refine tkG (oi := ⟨_, _, _, _, _, _⟩) rfl rfl (by kernel_rfl) (fun _ _ _ h => h) (by rfl) ?_)
                 (try simp only [Act.put, seti, set0, setS]))
              | ((first | refine one (o := ⟨_, _, _, _, _, _⟩) rfl rfl (by kernel_rfl) (fun K hK => ?_) | refine two (o := ⟨_, _, _, _, _, _⟩) (o' := ⟨_, _, _, _, _, _⟩) rfl rfl rfl (by kernel_rfl) (fun K hK => ?_) (fun K hK => ?_))
                 all_goals (go_simp; first
                   | ((with_reducible refine (HX.out _ (BW.out.trans hS.out)).mono ?_); rintro e V4 ⟨rfl, hb2⟩; refine hK.out _ _ (Or.inr fun _ => hS.out.trans hb2) ?_; replace hS := Lib.hid (hS.out.trans hb2); clear hK K hb2; (try simp only [Act.put, seti, set0, setS]))
                   | ((with_reducible refine (HY.out _ (BW.out.trans hS.out)).mono ?_); rintro e V4 ⟨rfl, hb2⟩; refine hK.out _ _ (Or.inr fun _ => hS.out.trans hb2) ?_; replace hS := Lib.hid (hS.out.trans hb2); clear hK K hb2; (try simp only [Act.put, seti, set0, setS]))
                   | (refine hK.out _ _ (Or.inr fun h => h) ?_; clear hK K; (try simp only [Act.put, seti, set0, setS]))))
              | refine done rfl (by kernel_rfl) ?_ _)
            all_goals
              have O4 := Lib.hid (O.out.bel hS.out)
              have B4 := Lib.hid (BW.out.trans hS.out)
              clear HC
              obtain ⟨y0, y1, y2, y3, y4, y5, y6, y7⟩ := CC.out _ B4.out
              go_wp2_with (at_builtin; refine wpList_num (w0 := V1) (v := .slice p8 ids.length c8) (l := ids) (z := r.ob) (A := V4.heap.size) rfl _ _ rfl rfl rfl (O4.out.bel (Bel.new _ _)) (blkAt (heap_new V4 _) 0) ?b1 ?b2 ?b3)
              case b1 => omega
              case b2 =>
                have := B4.out.size
                simp
                omega
              case b3 =>
                intro v2 w2 hown hgr
                have hb2 := hgr.bel (B4.out.alloc _) O4.out.lo
                rw [← N.out] at hown
                have O2 := Lib.hid hown
                have B2 := Lib.hid hb2
                clear hown hb2 hgr
                go_wp2
                go_roundw
                case rel => exact ⟨k + 1, by omega, by go_num, O2.out, B2.out⟩
                case measure => simp [intOf]; omega
          · obtain ⟨g8, o8, rfl, hg8, ha8⟩ := (show ∃ g o, p8 = some ⟨g, o, none⟩ ∧ g < wr.heap.size ∧ IsAt wr g o ids by
              obtain ⟨_, _, e1, _, _, h2, _⟩ := O.out.isi
              injection e1 with e1 e2 e3
              subst e1
              exact isi_open h2 (k := q) (by omega))
            have hz : ((ids.length : Int) == 0) = false := by
              rw [hq]
              simp
              omega
            have hw : IntKind.i64.wrap ((ids.length : Int) - 1) = q := by
              rw [IntWalk.i64_in _ (by omega)]
              omega
            have hq1 : (q : Int) < ids.length := by omega
            have N := Lib.hid (hn0.trans hn)
            have I8 : Hid (∀ V, Bel wr V → V.cell? ⟨g8, o8 + q, none⟩ = some (.int .i64 ids[q]!)) := Lib.hid fun V hb => (ha8.bel hg8 hb) q (by omega)
            have q1 : (ids[q]! != r.ob) = true := bne_iff_ne.2 hne
            generalize ids[q]! = u at I8 q1
            have HC : Hid (∀ w', Bel wr w' → w'.cell? ⟨g8, o8 + q, none⟩ = some (.int .i64 u) ∧ w'.cell? ⟨g, o + k * 8, none⟩ = some (.int .i64 r.ob) ∧ w'.cell? ⟨g, o + k * 8 + 1, none⟩ = some (.int .i64 r.sq) ∧ w'.cell? ⟨g, o + k * 8 + 2, none⟩ = some (.int .i64 r.vs) ∧ w'.cell? ⟨g, o + k * 8 + 3, none⟩ = some (.int .i64 r.dv) ∧ w'.cell? ⟨g, o + k * 8 + 4, none⟩ = some (.int .i64 r.tm) ∧ w'.cell? ⟨g, o + k * 8 + 5, none⟩ = some (.int .i64 r.px) ∧ w'.cell? ⟨g, o + k * 8 + 6, none⟩ = some (.int .i64 r.py) ∧ w'.cell? ⟨g, o + k * 8 + 7, none⟩ = some (.bool r.cn)) := Lib.hid fun w' h => ⟨I8.out _ h, CC.out _ (BW.out.trans h)⟩
            clear hn hn0 hq hne ha8 hg8
            go_wp2
            refine late_S (S := fun V => Bel wr V) (fun V h => h.drew) (Bel.refl wr) ?_ rfl ?_
            kernel_rfl
            intro V4 hS0
            have hS := Lib.hid hS0
            clear hS0
            repeat' (first
              | ((first
                  | refine tkF (oi := ⟨some _, _, _, _, _, _⟩) rfl rfl (by kernel_rfl) (fun _ _ _ h => h) (Or.inl ⟨by rfl, by intro w' _; first | (go_simp; done) | (go_simp; with_reducible rfl)⟩) ?_
                  | refine tkN (oi := ⟨some _, _, _, _, _, _⟩) rfl rfl (by decide +kernel) (fun _ _ _ h => h) hS.out (Or.inl ⟨by rfl, by intro w' hSw; obtain ⟨i0, y0, y1, y2, y3, y4, y5, y6, y7⟩ := HC.out _ hSw; first | (go_simp; done) | (go_simp; with_reducible rfl)⟩) ?_
                  | refine tkG (oi := ⟨_, _, _, _, _, _⟩) rfl rfl (by kernel_rfl) (fun _ _ _ h => h) (by rfl) ?_)
                 (try simp only [Act.put, seti, set0, setS]))
              | ((first | refine one (o := ⟨_, _, _, _, _, _⟩) rfl rfl (by kernel_rfl) (fun K hK => ?_) | refine two (o := ⟨_, _, _, _, _, _⟩) (o' := ⟨_, _, _, _, _, _⟩) rfl rfl rfl (by kernel_rfl) (fun K hK => ?_) (fun K hK => ?_))
                 all_goals (go_simp; first
                   | ((with_reducible refine (HX.out _ (BW.out.trans hS.out)).mono ?_); rintro e V4 ⟨rfl, hb2⟩; refine hK.out _ _ (Or.inr fun _ => hS.out.trans hb2) ?_; replace hS := Lib.hid (hS.out.trans hb2); clear hK K hb2; (try simp only [Act.put, seti, set0, setS]))
                   | ((with_reducible refine (HY.out _ (BW.out.trans hS.out)).mono ?_); rintro e V4 ⟨rfl, hb2⟩; refine hK.out _ _ (Or.inr fun _ => hS.out.trans hb2) ?_; replace hS := Lib.hid (hS.out.trans hb2); clear hK K hb2; (try simp only [Act.put, seti, set0, setS]))
                   | (refine hK.out _ _ (Or.inr fun h => h) ?_; clear hK K; (try simp only [Act.put, seti, set0, setS]))))
              | refine done rfl (by kernel_rfl) ?_ _)
            all_goals
              have O4 := Lib.hid (O.out.bel hS.out)
              have B4 := Lib.hid (BW.out.trans hS.out)
              clear HC
              obtain ⟨y0, y1, y2, y3, y4, y5, y6, y7⟩ := CC.out _ B4.out
              go_wp2_with (at_builtin; refine wpList_num (w0 := V1) (v := .slice (some ⟨g8, o8, none⟩) ids.length c8) (l := ids) (z := r.ob) (A := V4.heap.size) rfl _ _ rfl rfl rfl (O4.out.bel (Bel.new _ _)) (blkAt (heap_new V4 _) 0) ?b1 ?b2 ?b3)
              case b1 => omega
              case b2 =>
                have := B4.out.size
                simp
                omega
              case b3 =>
                intro v2 w2 hown hgr
                have hb2 := hgr.bel (B4.out.alloc _) O4.out.lo
                rw [← N.out] at hown
                have O2 := Lib.hid hown
                have B2 := Lib.hid hb2
                clear hown hb2 hgr
                go_wp2
                go_roundw
                case rel => exact ⟨k + 1, by omega, by go_num, O2.out, B2.out⟩
                case measure => simp [intOf]; omega
          · obtain ⟨g8, o8, rfl, hg8, ha8⟩ := (show ∃ g o, p8 = some ⟨g, o, none⟩ ∧ g < wr.heap.size ∧ IsAt wr g o ids by
              obtain ⟨_, _, e1, _, _, h2, _⟩ := O.out.isi
              injection e1 with e1 e2 e3
              subst e1
              exact isi_open h2 (k := q) (by omega))
            have hz : ((ids.length : Int) == 0) = false := by
              rw [hq]
              simp
              omega
            have hw : IntKind.i64.wrap ((ids.length : Int) - 1) = q := by
              rw [IntWalk.i64_in _ (by omega)]
              omega
            have hq1 : (q : Int) < ids.length := by omega
            have N := Lib.hid (hn0.trans hn)
            have I8 : Hid (∀ V, Bel wr V → V.cell? ⟨g8, o8 + q, none⟩ = some (.int .i64 ids[q]!)) := Lib.hid fun V hb => (ha8.bel hg8 hb) q (by omega)
            have q1 : (ids[q]! != r.ob) = false := by rw [he]; simp
            generalize ids[q]! = u at I8 q1
            have HC : Hid (∀ w', Bel wr w' → w'.cell? ⟨g8, o8 + q, none⟩ = some (.int .i64 u) ∧ w'.cell? ⟨g, o + k * 8, none⟩ = some (.int .i64 r.ob) ∧ w'.cell? ⟨g, o + k * 8 + 1, none⟩ = some (.int .i64 r.sq) ∧ w'.cell? ⟨g, o + k * 8 + 2, none⟩ = some (.int .i64 r.vs) ∧ w'.cell? ⟨g, o + k * 8 + 3, none⟩ = some (.int .i64 r.dv) ∧ w'.cell? ⟨g, o + k * 8 + 4, none⟩ = some (.int .i64 r.tm) ∧ w'.cell? ⟨g, o + k * 8 + 5, none⟩ = some (.int .i64 r.px) ∧ w'.cell? ⟨g, o + k * 8 + 6, none⟩ = some (.int .i64 r.py) ∧ w'.cell? ⟨g, o + k * 8 + 7, none⟩ = some (.bool r.cn)) := Lib.hid fun w' h => ⟨I8.out _ h, CC.out _ (BW.out.trans h)⟩
            clear hn hn0 hq he ha8 hg8
            go_wp2
            refine late_S (S := fun V => Bel wr V) (fun V h => h.drew) (Bel.refl wr) ?_ rfl ?_
            kernel_rfl
            intro V4 hS0
            have hS := Lib.hid hS0
            clear hS0
            repeat' (first
              | ((first
                  | refine tkF (oi := ⟨some _, _, _, _, _, _⟩) rfl rfl (by kernel_rfl) (fun _ _ _ h => h) (Or.inl ⟨by rfl, by intro w' _; first | (go_simp; done) | (go_simp; with_reducible rfl)⟩) ?_
                  | refine tkN (oi := ⟨some _, _, _, _, _, _⟩) rfl rfl (by decide +kernel) (fun _ _ _ h => h) hS.out (Or.inl ⟨by rfl, by intro w' hSw; obtain ⟨i0, y0, y1, y2, y3, y4, y5, y6, y7⟩ := HC.out _ hSw; first | (go_simp; done) | (go_simp; with_reducible rfl)⟩) ?_
                  | refine tkG (oi := ⟨_, _, _, _, _, _⟩) rfl rfl (by kernel_rfl) (fun _ _ _ h => h) (by rfl) ?_)
                 (try simp only [Act.put, seti, set0, setS]))
              | ((first | refine one (o := ⟨_, _, _, _, _, _⟩) rfl rfl (by kernel_rfl) (fun K hK => ?_) | refine two (o := ⟨_, _, _, _, _, _⟩) (o' := ⟨_, _, _, _, _, _⟩) rfl rfl rfl (by kernel_rfl) (fun K hK => ?_) (fun K hK => ?_))
                 all_goals (go_simp; first
                   | ((with_reducible refine (HX.out _ (BW.out.trans hS.out)).mono ?_); rintro e V4 ⟨rfl, hb2⟩; refine hK.out _ _ (Or.inr fun _ => hS.out.trans hb2) ?_; replace hS := Lib.hid (hS.out.trans hb2); clear hK K hb2; (try simp only [Act.put, seti, set0, setS]))
                   | ((with_reducible refine (HY.out _ (BW.out.trans hS.out)).mono ?_); rintro e V4 ⟨rfl, hb2⟩; refine hK.out _ _ (Or.inr fun _ => hS.out.trans hb2) ?_; replace hS := Lib.hid (hS.out.trans hb2); clear hK K hb2; (try simp only [Act.put, seti, set0, setS]))
                   | (refine hK.out _ _ (Or.inr fun h => h) ?_; clear hK K; (try simp only [Act.put, seti, set0, setS]))))
              | refine done rfl (by kernel_rfl) ?_ _)
            all_goals
              go_wp2
              go_roundw
              case rel => exact ⟨k + 1, by omega, by go_num, by rw [N.out]; exact O.out.bel hS.out, BW.out.trans hS.out⟩
              case measure => simp [intOf]; omega
      · rcases Bool.eq_false_or_eq_true bz with rfl | rfl
        · rw [if_pos (by decide)] at hd0
          rw [hd0] at hinc
          have hn0 : objL (difL xs ys s (k + 1)) = objL (difL xs ys s k ++ [r]) := by rw [hd0]
          have st := obj_step' hinc
          clear hd0 hinc
          generalize objL (difL xs ys s k ++ [r]) = nx at st hn0
          generalize objL (difL xs ys s k) = ids at O hil st
          rcases st with ⟨h0, hn⟩ | ⟨q, hq, hne, hn⟩ | ⟨q, hq, he, hn⟩
          · have hz : ((ids.length : Int) == 0) = true := by rw [h0]; rfl
            have N := Lib.hid (hn0.trans hn)
            have HC : Hid (∀ w', Bel wr w' → w'.cell? ⟨g, o + k * 8, none⟩ = some (.int .i64 r.ob) ∧ w'.cell? ⟨g, o + k * 8 + 1, none⟩ = some (.int .i64 r.sq) ∧ w'.cell? ⟨g, o + k * 8 + 2, none⟩ = some (.int .i64 r.vs) ∧ w'.cell? ⟨g, o + k * 8 + 3, none⟩ = some (.int .i64 r.dv) ∧ w'.cell? ⟨g, o + k * 8 + 4, none⟩ = some (.int .i64 r.tm) ∧ w'.cell? ⟨g, o + k * 8 + 5, none⟩ = some (.int .i64 r.px) ∧ w'.cell? ⟨g, o + k * 8 + 6, none⟩ = some (.int .i64 r.py) ∧ w'.cell? ⟨g, o + k * 8 + 7, none⟩ = some (.bool r.cn)) := Lib.hid fun w' h => CC.out _ (BW.out.trans h)
            clear h0 hn hn0
            go_wp2
            refine late_S (S := fun V => Bel wr V) (fun V h => h.drew) (Bel.refl wr) ?_ rfl ?_
            kernel_rfl
            intro V4 hS0
            have hS := Lib.hid hS0
            clear hS0
            repeat' (first
              | ((first
                  | refine tkF (oi := ⟨some _, _, _, _, _, _⟩) rfl rfl (by kernel_rfl) (fun _ _ _ h => h) (Or.inl ⟨by rfl, by intro w' _; first | (go_simp; done) | (go_simp; with_reducible rfl)⟩) ?_
                  | refine tkN (oi := ⟨some _, _, _, _, _, _⟩) rfl rfl (by decide +kernel) (fun _ _ _ h => h) hS.out (Or.inl ⟨by rfl, by intro w' hSw; obtain ⟨y0, y1, y2, y3, y4, y5, y6, y7⟩ := HC.out _ hSw; first | (go_simp; done) | (go_simp; with_reducible rfl)⟩) ?_
                  | refine tkG (oi := ⟨_, _, _, _, _, _⟩) rfl rfl (by kernel_rfl) (fun _ _ _ h => h) (by rfl) ?_)
                 (try simp only [Act.put, seti, set0, setS]))
              | ((first | refine one (o := ⟨_, _, _, _, _, _⟩) rfl rfl (by kernel_rfl) (fun K hK => ?_) | refine two (o := ⟨_, _, _, _, _, _⟩) (o' := ⟨_, _, _, _, _, _⟩) rfl rfl rfl (by kernel_rfl) (fun K hK => ?_) (fun K hK => ?_))
                 all_goals (go_simp; first
                   | ((with_reducible refine (HX.out _ (BW.out.trans hS.out)).mono ?_); rintro e V4 ⟨rfl, hb2⟩; refine hK.out _ _ (Or.inr fun _ => hS.out.trans hb2) ?_; replace hS := Lib.hid (hS.out.trans hb2); clear hK K hb2; (try simp only [Act.put, seti, set0, setS]))
                   | ((with_reducible refine (HY.out _ (BW.out.trans hS.out)).mono ?_); rintro e V4 ⟨rfl, hb2⟩; refine hK.out _ _ (Or.inr fun _ => hS.out.trans hb2) ?_; replace hS := Lib.hid (hS.out.trans hb2); clear hK K hb2; (try simp only [Act.put, seti, set0, setS]))
                   | (refine hK.out _ _ (Or.inr fun h => h) ?_; clear hK K; (try simp only [Act.put, seti, set0, setS]))))
              | refine done rfl (by kernel_rfl) ?_ _)
            all_goals
              have O4 := Lib.hid (O.out.bel hS.out)
              have B4 := Lib.hid (BW.out.trans hS.out)
              clear HC
              obtain ⟨y0, y1, y2, y3, y4, y5, y6, y7⟩ := CC.out _ B4.out
              go_wp2_with (at_builtin; refine wpList_num (w0 := V1) (v := .slice p8 ids.length c8) (l := ids) (z := r.ob) (A := V4.heap.size) rfl _ _ rfl rfl rfl (O4.out.bel (Bel.new _ _)) (blkAt (heap_new V4 _) 0) ?b1 ?b2 ?b3)
              case b1 => omega
              case b2 =>
                have := B4.out.size
                simp
                omega
              case b3 =>
                intro v2 w2 hown hgr
                have hb2 := hgr.bel (B4.out.alloc _) O4.out.lo
                rw [← N.out] at hown
                have O2 := Lib.hid hown
                have B2 := Lib.hid hb2
                clear hown hb2 hgr
                go_wp2
                go_roundw
                case rel => exact ⟨k + 1, by omega, by go_num, O2.out, B2.out⟩
                case measure => simp [intOf]; omega
          · obtain ⟨g8, o8, rfl, hg8, ha8⟩ := (show ∃ g o, p8 = some ⟨g, o, none⟩ ∧ g < wr.heap.size ∧ IsAt wr g o ids by
              obtain ⟨_, _, e1, _, _, h2, _⟩ := O.out.isi
              injection e1 with e1 e2 e3
              subst e1
              exact isi_open h2 (k := q) (by omega))
            have hz : ((ids.length : Int) == 0) = false := by
              rw [hq]
              simp
              omega
            have hw : IntKind.i64.wrap ((ids.length : Int) - 1) = q := by
              rw [IntWalk.i64_in _ (by omega)]
              omega
            have hq1 : (q : Int) < ids.length := by omega
            have N := Lib.hid (hn0.trans hn)
            have I8 : Hid (∀ V, Bel wr V → V.cell? ⟨g8, o8 + q, none⟩ = some (.int .i64 ids[q]!)) := Lib.hid fun V hb => (ha8.bel hg8 hb) q (by omega)
            have q1 : (ids[q]! != r.ob) = true := bne_iff_ne.2 hne
            generalize ids[q]! = u at I8 q1
            have HC : Hid (∀ w', Bel wr w' → w'.cell? ⟨g8, o8 + q, none⟩ = some (.int .i64 u) ∧ w'.cell? ⟨g, o + k * 8, none⟩ = some (.int .i64 r.ob) ∧ w'.cell? ⟨g, o + k * 8 + 1, none⟩ = some (.int .i64 r.sq) ∧ w'.cell? ⟨g, o + k * 8 + 2, none⟩ = some (.int .i64 r.vs) ∧ w'.cell? ⟨g, o + k * 8 + 3, none⟩ = some (.int .i64 r.dv) ∧ w'.cell? ⟨g, o + k * 8 + 4, none⟩ = some (.int .i64 r.tm) ∧ w'.cell? ⟨g, o + k * 8 + 5, none⟩ = some (.int .i64 r.px) ∧ w'.cell? ⟨g, o + k * 8 + 6, none⟩ = some (.int .i64 r.py) ∧ w'.cell? ⟨g, o + k * 8 + 7, none⟩ = some (.bool r.cn)) := Lib.hid fun w' h => ⟨I8.out _ h, CC.out _ (BW.out.trans h)⟩
            clear hn hn0 hq hne ha8 hg8
            go_wp2
            refine late_S (S := fun V => Bel wr V) (fun V h => h.drew) (Bel.refl wr) ?_ rfl ?_
            kernel_rfl
            intro V4 hS0
            have hS := Lib.hid hS0
            clear hS0
            repeat' (first
              | ((first
                  | refine tkF (oi := ⟨some _, _, _, _, _, _⟩) rfl rfl (by kernel_rfl) (fun _ _ _ h => h) (Or.inl ⟨by rfl, by intro w' _; first | (go_simp; done) | (go_simp; with_reducible rfl)⟩) ?_
                  | refine tkN (oi := ⟨some _, _, _, _, _, _⟩) rfl rfl (by decide +kernel) (fun _ _ _ h => h) hS.out (Or.inl ⟨by rfl, by intro w' hSw; obtain ⟨i0, y0, y1, y2, y3, y4, y5, y6, y7⟩ := HC.out _ hSw; first | (go_simp; done) | (go_simp; with_reducible rfl)⟩) ?_
                  | refine tkG (oi := ⟨_, _, _, _, _, _⟩) rfl rfl (by kernel_rfl) (fun _ _ _ h => h) (by rfl) ?_)
                 (try simp only [Act.put, seti, set0, setS]))
              | ((first | refine one (o := ⟨_, _, _, _, _, _⟩) rfl rfl (by kernel_rfl) (fun K hK => ?_) | refine two (o := ⟨_, _, _, _, _, _⟩) (o' := ⟨_, _, _, _, _, _⟩) rfl rfl rfl (by kernel_rfl) (fun K hK => ?_) (fun K hK => ?_))
                 all_goals (go_simp; first
                   | ((with_reducible refine (HX.out _ (BW.out.trans hS.out)).mono ?_); rintro e V4 ⟨rfl, hb2⟩; refine hK.out _ _ (Or.inr fun _ => hS.out.trans hb2) ?_; replace hS := Lib.hid (hS.out.trans hb2); clear hK K hb2; (try simp only [Act.put, seti, set0, setS]))
                   | ((with_reducible refine (HY.out _ (BW.out.trans hS.out)).mono ?_); rintro e V4 ⟨rfl, hb2⟩; refine hK.out _ _ (Or.inr fun _ => hS.out.trans hb2) ?_; replace hS := Lib.hid (hS.out.trans hb2); clear hK K hb2; (try simp only [Act.put, seti, set0, setS]))
                   | (refine hK.out _ _ (Or.inr fun h => h) ?_; clear hK K; (try simp only [Act.put, seti, set0, setS]))))
              | refine done rfl (by kernel_rfl) ?_ _)
            all_goals
              have O4 := Lib.hid (O.out.bel hS.out)
              have B4 := Lib.hid (BW.out.trans hS.out)
              clear HC
              obtain ⟨y0, y1, y2, y3, y4, y5, y6, y7⟩ := CC.out _ B4.out
              go_wp2_with (at_builtin; refine wpList_num (w0 := V1) (v := .slice (some ⟨g8, o8, none⟩) ids.length c8) (l := ids) (z := r.ob) (A := V4.heap.size) rfl _ _ rfl rfl rfl (O4.out.bel (Bel.new _ _)) (blkAt (heap_new V4 _) 0) ?b1 ?b2 ?b3)
              case b1 => omega
              case b2 =>
                have := B4.out.size
                simp
                omega
              case b3 =>
                intro v2 w2 hown hgr
                have hb2 := hgr.bel (B4.out.alloc _) O4.out.lo
                rw [← N.out] at hown
                have O2 := Lib.hid hown
                have B2 := Lib.hid hb2
                clear hown hb2 hgr
                go_wp2
                go_roundw
                case rel => exact ⟨k + 1, by omega, by go_num, O2.out, B2.out⟩
                case measure => simp [intOf]; omega
          · obtain ⟨g8, o8, rfl, hg8, ha8⟩ := (show ∃ g o, p8 = some ⟨g, o, none⟩ ∧ g < wr.heap.size ∧ IsAt wr g o ids by
              obtain ⟨_, _, e1, _, _, h2, _⟩ := O.out.isi
              injection e1 with e1 e2 e3
              subst e1
              exact isi_open h2 (k := q) (by omega))
            have hz : ((ids.length : Int) == 0) = false := by
              rw [hq]
              simp
              omega
            have hw : IntKind.i64.wrap ((ids.length : Int) - 1) = q := by
              rw [IntWalk.i64_in _ (by omega)]
              omega
            have hq1 : (q : Int) < ids.length := by omega
            have N := Lib.hid (hn0.trans hn)
            have I8 : Hid (∀ V, Bel wr V → V.cell? ⟨g8, o8 + q, none⟩ = some (.int .i64 ids[q]!)) := Lib.hid fun V hb => (ha8.bel hg8 hb) q (by omega)
            have q1 : (ids[q]! != r.ob) = false := by rw [he]; simp
            generalize ids[q]! = u at I8 q1
            have HC : Hid (∀ w', Bel wr w' → w'.cell? ⟨g8, o8 + q, none⟩ = some (.int .i64 u) ∧ w'.cell? ⟨g, o + k * 8, none⟩ = some (.int .i64 r.ob) ∧ w'.cell? ⟨g, o + k * 8 + 1, none⟩ = some (.int .i64 r.sq) ∧ w'.cell? ⟨g, o + k * 8 + 2, none⟩ = some (.int .i64 r.vs) ∧ w'.cell? ⟨g, o + k * 8 + 3, none⟩ = some (.int .i64 r.dv) ∧ w'.cell? ⟨g, o + k * 8 + 4, none⟩ = some (.int .i64 r.tm) ∧ w'.cell? ⟨g, o + k * 8 + 5, none⟩ = some (.int .i64 r.px) ∧ w'.cell? ⟨g, o + k * 8 + 6, none⟩ = some (.int .i64 r.py) ∧ w'.cell? ⟨g, o + k * 8 + 7, none⟩ = some (.bool r.cn)) := Lib.hid fun w' h => ⟨I8.out _ h, CC.out _ (BW.out.trans h)⟩
            clear hn hn0 hq he ha8 hg8
            go_wp2
            refine late_S (S := fun V => Bel wr V) (fun V h => h.drew) (Bel.refl wr) ?_ rfl ?_
            kernel_rfl
            intro V4 hS0
            have hS := Lib.hid hS0
            clear hS0
            repeat' (first
              | ((first
                  | refine tkF (oi := ⟨some _, _, _, _, _, _⟩) rfl rfl (by kernel_rfl) (fun _ _ _ h => h) (Or.inl ⟨by rfl, by intro w' _; first | (go_simp; done) | (go_simp; with_reducible rfl)⟩) ?_
                  | refine tkN (oi := ⟨some _, _, _, _, _, _⟩) rfl rfl (by decide +kernel) (fun _ _ _ h => h) hS.out (Or.inl ⟨by rfl, by intro w' hSw; obtain ⟨i0, y0, y1, y2, y3, y4, y5, y6, y7⟩ := HC.out _ hSw; first | (go_simp; done) | (go_simp; with_reducible rfl)⟩) ?_
                  | refine tkG (oi := ⟨_, _, _, _, _, _⟩) rfl rfl (by kernel_rfl) (fun _ _ _ h => h) (by rfl) ?_)
                 (try simp only [Act.put, seti, set0, setS]))
              | ((first | refine one (o := ⟨_, _, _, _, _, _⟩) rfl rfl (by kernel_rfl) (fun K hK => ?_) | refine two (o := ⟨_, _, _, _, _, _⟩) (o' := ⟨_, _, _, _, _, _⟩) rfl rfl rfl (by kernel_rfl) (fun K hK => ?_) (fun K hK => ?_))
                 all_goals (go_simp; first
                   | ((with_reducible refine (HX.out _ (BW.out.trans hS.out)).mono ?_); rintro e V4 ⟨rfl, hb2⟩; refine hK.out _ _ (Or.inr fun _ => hS.out.trans hb2) ?_; replace hS := Lib.hid (hS.out.trans hb2); clear hK K hb2; (try simp only [Act.put, seti, set0, setS]))
                   | ((with_reducible refine (HY.out _ (BW.out.trans hS.out)).mono ?_); rintro e V4 ⟨rfl, hb2⟩; refine hK.out _ _ (Or.inr fun _ => hS.out.trans hb2) ?_; replace hS := Lib.hid (hS.out.trans hb2); clear hK K hb2; (try simp only [Act.put, seti, set0, setS]))
                   | (refine hK.out _ _ (Or.inr fun h => h) ?_; clear hK K; (try simp only [Act.put, seti, set0, setS]))))
              | refine done rfl (by kernel_rfl) ?_ _)
            all_goals
              go_wp2
              go_roundw
              case rel => exact ⟨k + 1, by omega, by go_num, by rw [N.out]; exact O.out.bel hS.out, BW.out.trans hS.out⟩
              case measure => simp [intOf]; omega
        · rw [if_neg (by decide)] at hd0
          have N : Hid (objL (difL xs ys s (k + 1)) = objL (difL xs ys s k)) := Lib.hid (by rw [hd0])
          have HC : Hid (∀ w', Bel wr w' → w'.cell? ⟨g, o + k * 8, none⟩ = some (.int .i64 r.ob) ∧ w'.cell? ⟨g, o + k * 8 + 1, none⟩ = some (.int .i64 r.sq) ∧ w'.cell? ⟨g, o + k * 8 + 2, none⟩ = some (.int .i64 r.vs) ∧ w'.cell? ⟨g, o + k * 8 + 3, none⟩ = some (.int .i64 r.dv) ∧ w'.cell? ⟨g, o + k * 8 + 4, none⟩ = some (.int .i64 r.tm) ∧ w'.cell? ⟨g, o + k * 8 + 5, none⟩ = some (.int .i64 r.px) ∧ w'.cell? ⟨g, o + k * 8 + 6, none⟩ = some (.int .i64 r.py) ∧ w'.cell? ⟨g, o + k * 8 + 7, none⟩ = some (.bool r.cn)) := Lib.hid fun w' h => CC.out _ (BW.out.trans h)
          clear hd0 hinc
          go_wp2
          refine late_S (S := fun V => Bel wr V) (fun V h => h.drew) (Bel.refl wr) ?_ rfl ?_
          kernel_rfl
          intro V4 hS0
          have hS := Lib.hid hS0
          clear hS0
          repeat' (first
            | ((first
                | refine tkF (oi := ⟨some _, _, _, _, _, _⟩) rfl rfl (by kernel_rfl) (fun _ _ _ h => h) (Or.inl ⟨by rfl, by intro w' _; first | (go_simp; done) | (go_simp; with_reducible rfl)⟩) ?_
                | refine tkN (oi := ⟨some _, _, _, _, _, _⟩) rfl rfl (by decide +kernel) (fun _ _ _ h => h) hS.out (Or.inl ⟨by rfl, by intro w' hSw; obtain ⟨y0, y1, y2, y3, y4, y5, y6, y7⟩ := HC.out _ hSw; first | (go_simp; done) | (go_simp; with_reducible rfl)⟩) ?_
                | refine tkG (oi := ⟨_, _, _, _, _, _⟩) rfl rfl (by kernel_rfl) (fun _ _ _ h => h) (by rfl) ?_)
               (try simp only [Act.put, seti, set0, setS]))
            | ((first | refine one (o := ⟨_, _, _, _, _, _⟩) rfl rfl (by kernel_rfl) (fun K hK => ?_) | refine two (o := ⟨_, _, _, _, _, _⟩) (o' := ⟨_, _, _, _, _, _⟩) rfl rfl rfl (by kernel_rfl) (fun K hK => ?_) (fun K hK => ?_))
               all_goals (go_simp; first
                 | ((with_reducible refine (HX.out _ (BW.out.trans hS.out)).mono ?_); rintro e V4 ⟨rfl, hb2⟩; refine hK.out _ _ (Or.inr fun _ => hS.out.trans hb2) ?_; replace hS := Lib.hid (hS.out.trans hb2); clear hK K hb2; (try simp only [Act.put, seti, set0, setS]))
                 | ((with_reducible refine (HY.out _ (BW.out.trans hS.out)).mono ?_); rintro e V4 ⟨rfl, hb2⟩; refine hK.out _ _ (Or.inr fun _ => hS.out.trans hb2) ?_; replace hS := Lib.hid (hS.out.trans hb2); clear hK K hb2; (try simp only [Act.put, seti, set0, setS]))
                 | (refine hK.out _ _ (Or.inr fun h => h) ?_; clear hK K; (try simp only [Act.put, seti, set0, setS]))))
            | refine done rfl (by kernel_rfl) ?_ _)
          all_goals
            go_wp2
            go_roundw
            case rel => exact ⟨k + 1, by omega, by go_num, by rw [N.out]; exact O.out.bel hS.out, BW.out.trans hS.out⟩
            case measure => simp [intOf]; omega
    · have hk8 : ¬ ((k : Int) < s.length) := by omega
      have e : objL (difL xs ys s k) = ch := by rw [← EN.out, show k = s.length by omega]
      rw [e] at O hil ⊢
      clear e
      replace B := Lib.hid (B.out.trans BW.out)
      replace O := Lib.hid O.out.isi
      go_wp2_with (first
        | (go_at_call 35; first
          | ((with_reducible refine (H1.out _ B.out).mono ?_); rintro e V ⟨z1, rfl, ho, hb2⟩; have Z1 := Lib.hid ho.isi; replace O := Lib.hid (O.out.bel hb2); replace B := Lib.hid (B.out.trans hb2); clear ho hb2 H1)
          | ((with_reducible refine (H2.out _ B.out).mono ?_); rintro e V ⟨z1, rfl, ho, hb2⟩; have Z1 := Lib.hid ho.isi; replace O := Lib.hid (O.out.bel hb2); replace B := Lib.hid (B.out.trans hb2); clear ho hb2 H2))
        | (go_at_call 30; (refine (SI.out _ _ _ Z1.out O.out).mono ?_); rintro e V ⟨rfl, hb2⟩; replace O := Lib.hid (O.out.bel hb2); replace B := Lib.hid (B.out.trans hb2); clear hb2 Z1))
      go_ret
      exact ⟨rfl, B.out⟩
theorem chgs_f (w : World) (v : Value) (a : List Rep) (hv : IsL w v a) (u : Value) (b : List Rep) (hu : IsL w u b) : Calls Try.prog 9 #[v, u] w (RetB w (.bool true)) := by
  obtain ⟨p, c, rfl⟩ := hv.shape
  obtain ⟨q, d, rfl⟩ := hu.shape
  by_cases h1 : a.length ≤ 20
  · by_cases h2 : b.length ≤ 20
    · exact chgs_yes a b p q c d w hv hu h1 h2
    · exact chgs_no a b p q c d w (.inr ⟨by omega, by omega⟩)
  · exact chgs_no a b p q c d w (.inl (by omega))
end Go.Proofs.Ytdjgpbanokdnhaa.Pt
