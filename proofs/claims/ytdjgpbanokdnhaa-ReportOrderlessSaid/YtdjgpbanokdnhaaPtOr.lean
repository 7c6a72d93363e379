/-
  The walk of ReportOrderless.
-/
import Derived.Test.YtdjgpbanokdnhaaPtOl
import Derived.Test.YtdjgpbanokdnhaaPtKn
namespace Go.Proofs.Ytdjgpbanokdnhaa.Pt
open Go.RowKit
attribute [local go_sem ↓] Go.wp_at_zero Go.wp_at_succ

/-- Several orders meet: what comes behind them is shown once. -/
theorem staged {P : Value → Value → World → Prop} {S : World → Prop} {G : Prop} (main : (∀ x y V, S V → P x y V) → G) (key : ∀ x y V, S V → P x y V) : G := main key
theorem listed_eq {P : Program} {md : Region.Mode} {ops : Array Oper} {Q : Exit → Act → World → Prop} {S : World → Prop} {L : List Nat} {n : Nat} {l1 l2 : Array Bool} {a : Act} {w : World} (h : l1 = l2) (k : wpLate P md ops Q S L n l2 a w) : wpLate P md ops Q S L n l1 a w := h ▸ k
theorem own_one (w0 V : World) (h : w0.heap.size ≤ V.heap.size) (r : Rep) : Own w0 (V.alloc (.cells #[.int .i64 r.ob, .int .i64 r.sq, .int .i64 r.vs, .int .i64 r.dv, .int .i64 r.tm, .int .i64 r.px, .int .i64 r.py, .bool r.cn] 23)) (.slice (some ⟨V.heap.size, 0, none⟩) 1 1) [r] :=
  Row.own ⟨rfl, h, Nat.le_refl _, by decide, _, heap_new V _, rfl, rfl⟩

set_option maxHeartbeats 4000000 in
set_option maxRecDepth 100000 in
theorem ordl_no (l : List Rep) (by' tw : Int) (p : Option Addr) (c : Nat) (w : World) (h : (20 : Int) < l.length ∨ (l.length : Int) ≤ 20 ∧ l.length = 0) :
    Calls Try.prog 10 #[.slice p l.length c, .int .u8 by', .int .u8 tw] w (RetB w (.bool true)) := by
  have B := Lib.hid (Bel.refl w)
  rcases h with h | ⟨h, h2⟩
  · go_enter Try.func10, Try.ntmps10
    go_wp2_with (go_at_call 14; refine (known_f _).mono ?_; rintro e V ⟨rfl, hb⟩; replace B := Lib.hid (B.out.trans hb); clear hb)
    go_ret
    exact ⟨rfl, B.out⟩
  · rw [h2]
    clear h h2
    go_enter Try.func10, Try.ntmps10
    go_wp2_with (go_at_call 14; refine (known_f _).mono ?_; rintro e V ⟨rfl, hb⟩; replace B := Lib.hid (B.out.trans hb); clear hb)
    go_ret
    exact ⟨rfl, B.out⟩

set_option maxHeartbeats 8000000 in
set_option maxRecDepth 100000 in
theorem ordl_yes (l : List Rep) (b t : Nat) (hbt : b ≤ 255) (htt : t ≤ 255) (p : Option Addr) (c : Nat) (w : World) (hv : IsL w (.slice p l.length c) l) (h1 : l.length ≤ 20) (h0 : 0 < l.length) :
    Calls Try.prog 10 #[.slice p l.length c, .int .u8 b, .int .u8 t] w (RetB w (.bool true)) := by
  have g1 : ¬ (20 : Int) < l.length := by omega
  have g2 : ((l.length : Int) == 0) = false := by
    simp
    intro h
    rw [h] at h0
    simp at h0
  have g3 : ¬ (l.length : Int) = 0 := by omega
  have g4 : (0 : Int) < l.length := by omega
  have g5 : (l.length : Int) ≤ 20 := by omega
  have g6 : (b : Int) ≤ 255 := by omega
  have g7 : (t : Int) ≤ 255 := by omega
  have HV := Lib.hid hv
  obtain ⟨_, _, e1, _, _, hla, _⟩ := hv
  injection e1 with e1 e2 e3
  subst e1
  clear e2 e3
  have LA := Lib.hid hla
  clear hla
  have B := Lib.hid (Bel.refl w)
  go_enter Try.func10, Try.ntmps10
  go_wp2_with (go_at_call 14; refine (known_f _).mono ?_; rintro e V ⟨rfl, hb⟩; replace B := Lib.hid (B.out.trans hb); clear hb)
  go_loopw [7, 8] (fun s7 s8 wr => ∃ (k : Nat) (ms : List Rep), k ≤ l.length ∧ s8 = .int .i64 k ∧ Turned l b k ms ∧ Own w wr s7 ms ∧ Bel w wr) (fun _ s8 _ => l.length - (intOf s8).toNat)
  case atStart => exact ⟨0, [], by omega, rfl, Turned.nil l b, Own.nil _ _, B.out⟩
  case round =>
    obtain ⟨k, ms, hk, rfl, htu, hown, hbl⟩ := hrel
    have TU := Lib.hid htu
    have O := Lib.hid hown
    replace B := Lib.hid hbl
    obtain ⟨p7, c7, rfl⟩ := hown.isl.shape
    have hml : ms.length = k := htu.1
    have HML := Lib.hid hml
    clear hown hbl htu hml
    by_cases hlt : k < l.length
    · obtain ⟨j, hj⟩ : ∃ j, (k + b) % l.length = j := ⟨_, rfl⟩
      have hjl : j < l.length := by rw [← hj]; exact Nat.mod_lt _ h0
      obtain ⟨g, o, rfl, hg, hat⟩ := isl_open LA.out hjl
      have hc8 := (hat.bel hg B.out).at8 hjl
      have hk8 : (k : Int) < l.length := by omega
      have hj8 : (j : Int) < l.length := by omega
      have hrem := rem_at k b hj
      have hnx := TU.out.next
      rw [hj] at hnx
      have NX := Lib.hid hnx
      clear hat hg hnx hj
      generalize l[j]! = x at hc8 NX
      obtain ⟨y0, y1, y2, y3, y4, y5, y6, y7⟩ := hc8
      go_wp2_with (at_builtin; refine wpList_reps (w0 := w) (v := .slice (some ⟨wr.heap.size, 0, none⟩) 1 1) (l := [x]) (m := ms) rfl _ _ rfl rfl rfl (own_one w wr B.out.size x) (O.out.isl.bel (Bel.new _ _)) ?b1 ?b2 ?b3)
      case b1 =>
        have := HML.out
        simp
        omega
      case b2 => exact (B.out.alloc _).size
      case b3 =>
        intro v2 w2 hown hgr
        have hb2 := hgr.bel (B.out.alloc _) (fun g hg => by injection hg with hg; rw [← hg]; exact B.out.size)
        have O2 := Lib.hid hown
        have B2 := Lib.hid hb2
        clear hown hb2 hgr
        go_wp2
        go_roundw
        case rel => exact ⟨k + 1, _, by omega, by go_num, NX.out, O2.out, B2.out⟩
        case measure => simp [intOf]; omega
    · have hk8 : ¬ ((k : Int) < l.length) := by omega
      have hkl : k = l.length := by omega
      have HM : Hid (ms.length ≤ 20) := Lib.hid (by have := HML.out; omega)
      rw [hkl] at TU
      obtain ⟨j, hj⟩ : ∃ j, t % l.length = j := ⟨_, rfl⟩
      have hjl : j < l.length := by rw [← hj]; exact Nat.mod_lt _ h0
      obtain ⟨i, hi⟩ : ∃ i, b % l.length = i := ⟨_, rfl⟩
      have hil : i < l.length := by rw [← hi]; exact Nat.mod_lt _ h0
      obtain ⟨g, o, rfl, hg, hat⟩ := isl_open LA.out hjl
      have YC : Hid (∀ V, Bel w V → At8 V g (o + j * 8) l[j]!) := Lib.hid fun V hb => (hat.bel hg hb).at8 hjl
      have ZC : Hid (∀ V, Bel w V → At8 V g (o + i * 8) l[i]!) := Lib.hid fun V hb => (hat.bel hg hb).at8 hil
      have hj8 : (j : Int) < l.length := by omega
      have hi8 : (i : Int) < l.length := by omega
      have hr1 := rem_at' t hj
      have hr2 := rem_at' b hi
      have SA := Lib.hid (TU.out.all hjl)
      clear hat hg hj hi hkl hk
      generalize l[j]! = x at YC SA
      generalize l[i]! = r at ZC
      obtain ⟨y0, y1, y2, y3, y4, y5, y6, y7⟩ := YC.out _ B.out
      go_wp2_with (at_builtin; refine wpList_reps (w0 := w) (v := .slice p7 ms.length c7) (l := ms) (m := [x]) rfl _ _ rfl rfl rfl (O.out.bel (Bel.new _ _)) (isl_one x rfl _ _ rfl) ?b1 ?b2 ?b3)
      case b1 =>
        have := HM.out
        simp
        omega
      case b2 =>
        have := B.out.size
        omega
      case b3 =>
        intro v2 w2 hown hgr
        have hb2 := hgr.bel (B.out.alloc _) O.out.lo
        have M := Lib.hid hown.isl
        have B2 := Lib.hid hb2
        have NM : Hid ((ms ++ [x]).length ≤ 21) := Lib.hid (by have := HM.out; simp; omega)
        clear hown hb2 hgr O B y0 y1 y2 y3 y4 y5 y6 y7 YC
        obtain ⟨z0, z1, z2, z3, z4, z5, z6, z7⟩ := ZC.out _ B2.out
        generalize ms ++ [x] = m at SA M NM
        have eS : setL m = setL l := (setL_congr SA.out).symm
        have eC : cntL m = cntL l := (cntL_congr SA.out).symm
        have eF : cntL (aboutL r.ob m) = cntL (aboutL r.ob l) := (cntL_congr (about_congr SA.out r.ob)).symm
        have eM : missR m r.ob 9 = missR l r.ob 9 := (missR_congr SA.out r.ob 9).symm
        have eT : statR m r = statR l r := (statR_congr SA.out r).symm
        have eH : chgL l m = [] := chg_same SA.out
        have hl20 : l.length ≤ 20 := h1
        have hm20 := NM.out
        have A1 : Hid (∀ V, Bel w V → Calls Try.prog 20 #[.slice (some ⟨g, o, none⟩) l.length c] V (RetP V fun x W => Own V W x (setL l))) := Lib.hid fun V hb => set_f l _ V (HV.out.bel hb) (by omega)
        have A2 : Hid (∀ V, IsL V v2 m → Calls Try.prog 20 #[v2] V (RetP V fun x W => Own V W x (setL l))) := Lib.hid fun V hb => by
          have := set_f m _ V hb (by omega)
          rw [eS] at this
          exact this
        have AS : Hid (∀ V x y, IsL V x (setL l) → IsL V y (setL l) → Calls Try.prog 19 #[x, y] V (RetB V (.bool true))) := Lib.hid fun V x y h3 h4 => by
          have := same_f _ _ x y V h3 h4
          rw [decide_eq_true rfl] at this
          exact this
        have B1 : Hid (∀ V, Bel w V → Calls Try.prog 27 #[.slice (some ⟨g, o, none⟩) l.length c] V (RetP V fun x W => Own V W x (cntL l))) := Lib.hid fun V hb => counting_f l _ V (HV.out.bel hb) (by omega)
        have B2' : Hid (∀ V, IsL V v2 m → Calls Try.prog 27 #[v2] V (RetP V fun x W => Own V W x (cntL l))) := Lib.hid fun V hb => by
          have := counting_f m _ V hb (by omega)
          rw [eC] at this
          exact this
        have BS : Hid (∀ V x y, IsL V x (cntL l) → IsL V y (cntL l) → Calls Try.prog 19 #[x, y] V (RetB V (.bool true))) := Lib.hid fun V x y h3 h4 => by
          have := same_f _ _ x y V h3 h4
          rw [decide_eq_true rfl] at this
          exact this
        have O1 : Hid (∀ V, Bel w V → Calls Try.prog 31 #[.slice (some ⟨g, o, none⟩) l.length c] V (RetP V fun x W => OwnI V W x (objL (cntL l)))) := Lib.hid fun V hb => objects_f l _ V (HV.out.bel hb) (by omega)
        have O2 : Hid (∀ V, IsL V v2 m → Calls Try.prog 31 #[v2] V (RetP V fun x W => OwnI V W x (objL (cntL l)))) := Lib.hid fun V hb => by
          have := objects_f m _ V hb (by omega)
          rw [eC] at this
          exact this
        have OS : Hid (∀ V x y, IsI V x (objL (cntL l)) → IsI V y (objL (cntL l)) → Calls Try.prog 30 #[x, y] V (RetB V (.bool true))) := Lib.hid fun V x y h3 h4 => by
          have := sameInts_f _ _ x y V h3 h4
          rw [decide_eq_true rfl] at this
          exact this
        have T1 : Hid (∀ V, Bel w V → Calls Try.prog 29 #[.slice (some ⟨g, o, none⟩) l.length c, agR r] V (RetB V (.int .i64 (statR l r)))) := Lib.hid fun V hb => status_f l r _ V (HV.out.bel hb)
        have T2 : Hid (∀ V, IsL V v2 m → Calls Try.prog 29 #[v2, agR r] V (RetB V (.int .i64 (statR l r)))) := Lib.hid fun V hb => by
          have := status_f m r _ V hb
          rw [eT] at this
          exact this
        have F1 : Hid (∀ V, Bel w V → Calls Try.prog 33 #[.slice (some ⟨g, o, none⟩) l.length c, .int .i64 r.ob] V (RetP V fun x W => Own V W x (cntL (aboutL r.ob l)))) := Lib.hid fun V hb => of_f l r.ob _ V (HV.out.bel hb) (by omega)
        have F2 : Hid (∀ V, IsL V v2 m → Calls Try.prog 33 #[v2, .int .i64 r.ob] V (RetP V fun x W => Own V W x (cntL (aboutL r.ob l)))) := Lib.hid fun V hb => by
          have := of_f m r.ob _ V hb (by omega)
          rw [eF] at this
          exact this
        have FS : Hid (∀ V x y, IsL V x (cntL (aboutL r.ob l)) → IsL V y (cntL (aboutL r.ob l)) → Calls Try.prog 19 #[x, y] V (RetB V (.bool true))) := Lib.hid fun V x y h3 h4 => by
          have := same_f _ _ x y V h3 h4
          rw [decide_eq_true rfl] at this
          exact this
        have G1 : Hid (∀ V, Bel w V → Calls Try.prog 34 #[.slice (some ⟨g, o, none⟩) l.length c, .int .i64 r.ob, .int .i64 9] V (RetP V fun x W => OwnI V W x (missR l r.ob 9))) := Lib.hid fun V hb => missing_f l r.ob 9 _ V (HV.out.bel hb) (by omega) (by omega) (by omega)
        have G2 : Hid (∀ V, IsL V v2 m → Calls Try.prog 34 #[v2, .int .i64 r.ob, .int .i64 9] V (RetP V fun x W => OwnI V W x (missR l r.ob 9))) := Lib.hid fun V hb => by
          have := missing_f m r.ob 9 _ V hb (by omega) (by omega) (by omega)
          rw [eM] at this
          exact this
        have GS : Hid (∀ V x y, IsI V x (missR l r.ob 9) → IsI V y (missR l r.ob 9) → Calls Try.prog 30 #[x, y] V (RetB V (.bool true))) := Lib.hid fun V x y h3 h4 => by
          have := sameInts_f _ _ x y V h3 h4
          rw [decide_eq_true rfl] at this
          exact this
        have H1 : Hid (∀ V, Bel w V → IsL V v2 m → Calls Try.prog 35 #[.slice (some ⟨g, o, none⟩) l.length c, v2] V (RetP V fun x W => OwnI V W x [])) := Lib.hid fun V hb h => by
          have := changed_f l m _ _ V (HV.out.bel hb) h (by omega) (by omega)
          rw [eH] at this
          exact this
        clear eS eC eF eM eT eH hl20 hm20
        generalize setL l = q1 at A1 A2 AS
        generalize cntL (aboutL r.ob l) = q4 at F1 F2 FS
        generalize objL (cntL l) = q3 at O1 O2 OS
        generalize cntL l = q2 at B1 B2' BS
        generalize missR l r.ob 9 = q5 at G1 G2 GS
        generalize statR l r = n at T1 T2
        have B3 := B2
        clear B2
        have B2 := B2'
        clear B2'
        go_wp2
        clear z0 z1 z2 z3 z4 z5 z6 z7
        obtain ⟨V6, hV6⟩ : ∃ V6, V6 = w2.alloc (.cells #[.int .i64 r.ob, .int .i64 r.sq, .int .i64 r.vs, .int .i64 r.dv, .int .i64 r.tm, .int .i64 r.px, .int .i64 r.py, .bool r.cn] 23) := ⟨_, rfl⟩
        have BV6 := Lib.hid (show Bel w V6 by rw [hV6]; exact (B3.out.alloc _))
        have M6 := Lib.hid (show IsL V6 v2 m by rw [hV6]; exact (M.out.bel (Bel.new _ _)))
        have X6 := Lib.hid (show V6.heap[w2.heap.size]? = some (.cells #[.int .i64 r.ob, .int .i64 r.sq, .int .i64 r.vs, .int .i64 r.dv, .int .i64 r.tm, .int .i64 r.px, .int .i64 r.py, .bool r.cn] 23 (0, 0)) by rw [hV6]; exact heap_new _ _)
        rw [← hV6]
        have HC : Hid (∀ w', Bel V6 w' → w'.cell? ⟨w2.heap.size, 0, none⟩ = some (.int .i64 r.ob) ∧ w'.cell? ⟨w2.heap.size, 1, none⟩ = some (.int .i64 r.sq) ∧ w'.cell? ⟨w2.heap.size, 2, none⟩ = some (.int .i64 r.vs) ∧ w'.cell? ⟨w2.heap.size, 3, none⟩ = some (.int .i64 r.dv) ∧ w'.cell? ⟨w2.heap.size, 4, none⟩ = some (.int .i64 r.tm) ∧ w'.cell? ⟨w2.heap.size, 5, none⟩ = some (.int .i64 r.px) ∧ w'.cell? ⟨w2.heap.size, 6, none⟩ = some (.int .i64 r.py) ∧ w'.cell? ⟨w2.heap.size, 7, none⟩ = some (.bool r.cn)) := Lib.hid fun w' h => by
          have hx := (h.b.block _ (Array.getElem?_eq_some_iff.1 X6.out).1).trans X6.out
          exact ⟨blkAt hx 0, blkAt hx 1, blkAt hx 2, blkAt hx 3, blkAt hx 4, blkAt hx 5, blkAt hx 6, blkAt hx 7⟩
        clear hV6 X6 B3 M ZC HV LA SA
        refine late_S (S := fun V => Bel V6 V) (fun V h => h.drew) (Bel.refl _) ?_ rfl ?_
        kernel_rfl
        intro V4 hS0
        have hS : Hid (Bel V6 V4) := Lib.hid hS0
        clear hS0
        refine' staged (S := fun V => Bel V6 V) (fun key => ?_) (fun z0a z0b V hS0 => ?_)
        rotate_left
        · skip
          repeat' (first
            | ((first
                | refine tkF (oi := ⟨some _, _, _, _, _, _⟩) rfl rfl (by kernel_rfl) (fun _ _ _ h => h) (Or.inl ⟨by rfl, by intro w' _; first | (go_simp; done) | (go_simp; with_reducible rfl)⟩) ?_
                | refine tkN (oi := ⟨some _, _, _, _, _, _⟩) rfl rfl (by decide +kernel) (fun _ _ _ h => h) hS.out (Or.inl ⟨by rfl, by intro w' hSw; obtain ⟨e0, e1, e2, e3, e4, e5, e6, e7⟩ := HC.out _ hSw; first | (go_simp; done) | (go_simp; with_reducible rfl)⟩) ?_
                | refine tkG (oi := ⟨_, _, _, _, _, _⟩) rfl rfl (by kernel_rfl) (fun _ _ _ h => h) (by rfl) ?_)
               (try simp only [Act.put, seti, set0, setS]))
            | ((first | refine one (o := ⟨_, _, _, _, _, _⟩) rfl rfl (by kernel_rfl) (fun K hK => ?_) | refine two (o := ⟨_, _, _, _, _, _⟩) (o' := ⟨_, _, _, _, _, _⟩) rfl rfl rfl (by kernel_rfl) (fun K hK => ?_) (fun K hK => ?_))
               all_goals (go_simp; first
                 | ((with_reducible refine (A1.out _ (BV6.out.trans hS.out)).mono ?_); rintro e V4 ⟨xl, rfl, ho, hb2⟩; refine hK.out _ _ (Or.inr fun _ => hS.out.trans hb2) ?_; (try (replace XA := Lib.hid (XA.out.bel hb2))); (try (replace XB := Lib.hid (XB.out.bel hb2))); replace hS := Lib.hid (hS.out.trans hb2); have XA := Lib.hid ho.isl; clear ho; clear hK K hb2; (try simp only [Act.put, seti, set0, setS]))
                 | ((with_reducible refine (A2.out _ (M6.out.bel hS.out)).mono ?_); rintro e V4 ⟨xm, rfl, ho, hb2⟩; refine hK.out _ _ (Or.inr fun _ => hS.out.trans hb2) ?_; (try (replace XA := Lib.hid (XA.out.bel hb2))); (try (replace XB := Lib.hid (XB.out.bel hb2))); replace hS := Lib.hid (hS.out.trans hb2); have XB := Lib.hid ho.isl; clear ho; clear hK K hb2; (try simp only [Act.put, seti, set0, setS]))
                 | ((with_reducible refine (AS.out _ _ _ XA.out XB.out).mono ?_); rintro e V4 ⟨rfl, hb2⟩; refine hK.out _ _ (Or.inr fun _ => hS.out.trans hb2) ?_; (try (replace XA := Lib.hid (XA.out.bel hb2))); (try (replace XB := Lib.hid (XB.out.bel hb2))); replace hS := Lib.hid (hS.out.trans hb2); clear hK K hb2; (try simp only [Act.put, seti, set0, setS]); clear XA XB; (first | exact listed_eq (by kernel_rfl) (key xl xm V4 hS.out) | exact listed_eq rfl (key xl xm V4 hS.out)))
                 | (refine hK.out _ _ (Or.inr fun h => h) ?_; clear hK K; (try simp only [Act.put, seti, set0, setS])))))
        clear hS
        rename World => V4
        have hS : Hid (Bel V6 V4) := Lib.hid hS0
        clear hS0

        refine' staged (S := fun V => Bel V6 V) (fun key => ?_) (fun z1a z1b V hS0 => ?_)
        rotate_left
        · skip
          repeat' (first
            | ((first
                | refine tkF (oi := ⟨some _, _, _, _, _, _⟩) rfl rfl (by kernel_rfl) (fun _ _ _ h => h) (Or.inl ⟨by rfl, by intro w' _; first | (go_simp; done) | (go_simp; with_reducible rfl)⟩) ?_
                | refine tkN (oi := ⟨some _, _, _, _, _, _⟩) rfl rfl (by decide +kernel) (fun _ _ _ h => h) hS.out (Or.inl ⟨by rfl, by intro w' hSw; obtain ⟨e0, e1, e2, e3, e4, e5, e6, e7⟩ := HC.out _ hSw; first | (go_simp; done) | (go_simp; with_reducible rfl)⟩) ?_
                | refine tkG (oi := ⟨_, _, _, _, _, _⟩) rfl rfl (by kernel_rfl) (fun _ _ _ h => h) (by rfl) ?_)
               (try simp only [Act.put, seti, set0, setS]))
            | ((first | refine one (o := ⟨_, _, _, _, _, _⟩) rfl rfl (by kernel_rfl) (fun K hK => ?_) | refine two (o := ⟨_, _, _, _, _, _⟩) (o' := ⟨_, _, _, _, _, _⟩) rfl rfl rfl (by kernel_rfl) (fun K hK => ?_) (fun K hK => ?_))
               all_goals (go_simp; first
                 | ((with_reducible refine (B1.out _ (BV6.out.trans hS.out)).mono ?_); rintro e V4 ⟨xl, rfl, ho, hb2⟩; refine hK.out _ _ (Or.inr fun _ => hS.out.trans hb2) ?_; (try (replace XA := Lib.hid (XA.out.bel hb2))); (try (replace XB := Lib.hid (XB.out.bel hb2))); replace hS := Lib.hid (hS.out.trans hb2); have XA := Lib.hid ho.isl; clear ho; clear hK K hb2; (try simp only [Act.put, seti, set0, setS]))
                 | ((with_reducible refine (B2.out _ (M6.out.bel hS.out)).mono ?_); rintro e V4 ⟨xm, rfl, ho, hb2⟩; refine hK.out _ _ (Or.inr fun _ => hS.out.trans hb2) ?_; (try (replace XA := Lib.hid (XA.out.bel hb2))); (try (replace XB := Lib.hid (XB.out.bel hb2))); replace hS := Lib.hid (hS.out.trans hb2); have XB := Lib.hid ho.isl; clear ho; clear hK K hb2; (try simp only [Act.put, seti, set0, setS]))
                 | ((with_reducible refine (BS.out _ _ _ XA.out XB.out).mono ?_); rintro e V4 ⟨rfl, hb2⟩; refine hK.out _ _ (Or.inr fun _ => hS.out.trans hb2) ?_; (try (replace XA := Lib.hid (XA.out.bel hb2))); (try (replace XB := Lib.hid (XB.out.bel hb2))); replace hS := Lib.hid (hS.out.trans hb2); clear hK K hb2; (try simp only [Act.put, seti, set0, setS]); clear XA XB; (first | exact listed_eq (by kernel_rfl) (key xl xm V4 hS.out) | exact listed_eq rfl (key xl xm V4 hS.out)))
                 | (refine hK.out _ _ (Or.inr fun h => h) ?_; clear hK K; (try simp only [Act.put, seti, set0, setS])))))
        clear hS
        rename World => V4
        have hS : Hid (Bel V6 V4) := Lib.hid hS0
        clear hS0

        refine' staged (S := fun V => Bel V6 V) (fun key => ?_) (fun z2a z2b V hS0 => ?_)
        rotate_left
        · skip
          repeat' (first
            | ((first
                | refine tkF (oi := ⟨some _, _, _, _, _, _⟩) rfl rfl (by kernel_rfl) (fun _ _ _ h => h) (Or.inl ⟨by rfl, by intro w' _; first | (go_simp; done) | (go_simp; with_reducible rfl)⟩) ?_
                | refine tkN (oi := ⟨some _, _, _, _, _, _⟩) rfl rfl (by decide +kernel) (fun _ _ _ h => h) hS.out (Or.inl ⟨by rfl, by intro w' hSw; obtain ⟨e0, e1, e2, e3, e4, e5, e6, e7⟩ := HC.out _ hSw; first | (go_simp; done) | (go_simp; with_reducible rfl)⟩) ?_
                | refine tkG (oi := ⟨_, _, _, _, _, _⟩) rfl rfl (by kernel_rfl) (fun _ _ _ h => h) (by rfl) ?_)
               (try simp only [Act.put, seti, set0, setS]))
            | ((first | refine one (o := ⟨_, _, _, _, _, _⟩) rfl rfl (by kernel_rfl) (fun K hK => ?_) | refine two (o := ⟨_, _, _, _, _, _⟩) (o' := ⟨_, _, _, _, _, _⟩) rfl rfl rfl (by kernel_rfl) (fun K hK => ?_) (fun K hK => ?_))
               all_goals (go_simp; first
                 | ((with_reducible refine (O1.out _ (BV6.out.trans hS.out)).mono ?_); rintro e V4 ⟨xli, rfl, ho, hb2⟩; refine hK.out _ _ (Or.inr fun _ => hS.out.trans hb2) ?_; (try (replace XA := Lib.hid (XA.out.bel hb2))); (try (replace XB := Lib.hid (XB.out.bel hb2))); replace hS := Lib.hid (hS.out.trans hb2); have XA := Lib.hid ho.isi; clear ho; clear hK K hb2; (try simp only [Act.put, seti, set0, setS]))
                 | ((with_reducible refine (O2.out _ (M6.out.bel hS.out)).mono ?_); rintro e V4 ⟨xmi, rfl, ho, hb2⟩; refine hK.out _ _ (Or.inr fun _ => hS.out.trans hb2) ?_; (try (replace XA := Lib.hid (XA.out.bel hb2))); (try (replace XB := Lib.hid (XB.out.bel hb2))); replace hS := Lib.hid (hS.out.trans hb2); have XB := Lib.hid ho.isi; clear ho; clear hK K hb2; (try simp only [Act.put, seti, set0, setS]))
                 | ((with_reducible refine (OS.out _ _ _ XA.out XB.out).mono ?_); rintro e V4 ⟨rfl, hb2⟩; refine hK.out _ _ (Or.inr fun _ => hS.out.trans hb2) ?_; (try (replace XA := Lib.hid (XA.out.bel hb2))); (try (replace XB := Lib.hid (XB.out.bel hb2))); replace hS := Lib.hid (hS.out.trans hb2); clear hK K hb2; (try simp only [Act.put, seti, set0, setS]); clear XA XB; (first | exact listed_eq (by kernel_rfl) (key xli xmi V4 hS.out) | exact listed_eq rfl (key xli xmi V4 hS.out)))
                 | (refine hK.out _ _ (Or.inr fun h => h) ?_; clear hK K; (try simp only [Act.put, seti, set0, setS])))))
        clear hS
        rename World => V4
        have hS : Hid (Bel V6 V4) := Lib.hid hS0
        clear hS0

        refine' staged (S := fun V => Bel V6 V) (fun key => ?_) (fun z3a z3b V hS0 => ?_)
        rotate_left
        · skip
          repeat' (first
            | ((first
                | refine tkF (oi := ⟨some _, _, _, _, _, _⟩) rfl rfl (by kernel_rfl) (fun _ _ _ h => h) (Or.inl ⟨by rfl, by intro w' _; first | (go_simp; done) | (go_simp; with_reducible rfl)⟩) ?_
                | refine tkN (oi := ⟨some _, _, _, _, _, _⟩) rfl rfl (by decide +kernel) (fun _ _ _ h => h) hS.out (Or.inl ⟨by rfl, by intro w' hSw; obtain ⟨e0, e1, e2, e3, e4, e5, e6, e7⟩ := HC.out _ hSw; first | (go_simp; done) | (go_simp; with_reducible rfl)⟩) ?_
                | refine tkG (oi := ⟨_, _, _, _, _, _⟩) rfl rfl (by kernel_rfl) (fun _ _ _ h => h) (by rfl) ?_)
               (try simp only [Act.put, seti, set0, setS]))
            | ((first | refine one (o := ⟨_, _, _, _, _, _⟩) rfl rfl (by kernel_rfl) (fun K hK => ?_) | refine two (o := ⟨_, _, _, _, _, _⟩) (o' := ⟨_, _, _, _, _, _⟩) rfl rfl rfl (by kernel_rfl) (fun K hK => ?_) (fun K hK => ?_))
               all_goals (go_simp; first
                 | ((with_reducible refine (T1.out _ (BV6.out.trans hS.out)).mono ?_); rintro e V4 ⟨rfl, hb2⟩; refine hK.out _ _ (Or.inr fun _ => hS.out.trans hb2) ?_; (try (replace XA := Lib.hid (XA.out.bel hb2))); (try (replace XB := Lib.hid (XB.out.bel hb2))); replace hS := Lib.hid (hS.out.trans hb2); clear hK K hb2; (try simp only [Act.put, seti, set0, setS]))
                 | ((with_reducible refine (T2.out _ (M6.out.bel hS.out)).mono ?_); rintro e V4 ⟨rfl, hb2⟩; refine hK.out _ _ (Or.inr fun _ => hS.out.trans hb2) ?_; (try (replace XA := Lib.hid (XA.out.bel hb2))); (try (replace XB := Lib.hid (XB.out.bel hb2))); replace hS := Lib.hid (hS.out.trans hb2); clear hK K hb2; (try simp only [Act.put, seti, set0, setS]))
                 | ((with_reducible refine (F1.out _ (BV6.out.trans hS.out)).mono ?_); rintro e V4 ⟨xl, rfl, ho, hb2⟩; refine hK.out _ _ (Or.inr fun _ => hS.out.trans hb2) ?_; (try (replace XA := Lib.hid (XA.out.bel hb2))); (try (replace XB := Lib.hid (XB.out.bel hb2))); replace hS := Lib.hid (hS.out.trans hb2); have XA := Lib.hid ho.isl; clear ho; clear hK K hb2; (try simp only [Act.put, seti, set0, setS]))
                 | ((with_reducible refine (F2.out _ (M6.out.bel hS.out)).mono ?_); rintro e V4 ⟨xm, rfl, ho, hb2⟩; refine hK.out _ _ (Or.inr fun _ => hS.out.trans hb2) ?_; (try (replace XA := Lib.hid (XA.out.bel hb2))); (try (replace XB := Lib.hid (XB.out.bel hb2))); replace hS := Lib.hid (hS.out.trans hb2); have XB := Lib.hid ho.isl; clear ho; clear hK K hb2; (try simp only [Act.put, seti, set0, setS]))
                 | ((with_reducible refine (FS.out _ _ _ XA.out XB.out).mono ?_); rintro e V4 ⟨rfl, hb2⟩; refine hK.out _ _ (Or.inr fun _ => hS.out.trans hb2) ?_; (try (replace XA := Lib.hid (XA.out.bel hb2))); (try (replace XB := Lib.hid (XB.out.bel hb2))); replace hS := Lib.hid (hS.out.trans hb2); clear hK K hb2; (try simp only [Act.put, seti, set0, setS]); clear XA XB; (first | exact listed_eq (by kernel_rfl) (key xl xm V4 hS.out) | exact listed_eq rfl (key xl xm V4 hS.out)))
                 | (refine hK.out _ _ (Or.inr fun h => h) ?_; clear hK K; (try simp only [Act.put, seti, set0, setS])))))
        clear hS
        rename World => V4
        have hS : Hid (Bel V6 V4) := Lib.hid hS0
        clear hS0

        refine' staged (S := fun V => Bel V6 V) (fun key => ?_) (fun z4a z4b V hS0 => ?_)
        rotate_left
        · skip
          repeat' (first
            | ((first
                | refine tkF (oi := ⟨some _, _, _, _, _, _⟩) rfl rfl (by kernel_rfl) (fun _ _ _ h => h) (Or.inl ⟨by rfl, by intro w' _; first | (go_simp; done) | (go_simp; with_reducible rfl)⟩) ?_
                | refine tkN (oi := ⟨some _, _, _, _, _, _⟩) rfl rfl (by decide +kernel) (fun _ _ _ h => h) hS.out (Or.inl ⟨by rfl, by intro w' hSw; obtain ⟨e0, e1, e2, e3, e4, e5, e6, e7⟩ := HC.out _ hSw; first | (go_simp; done) | (go_simp; with_reducible rfl)⟩) ?_
                | refine tkG (oi := ⟨_, _, _, _, _, _⟩) rfl rfl (by kernel_rfl) (fun _ _ _ h => h) (by rfl) ?_)
               (try simp only [Act.put, seti, set0, setS]))
            | ((first | refine one (o := ⟨_, _, _, _, _, _⟩) rfl rfl (by kernel_rfl) (fun K hK => ?_) | refine two (o := ⟨_, _, _, _, _, _⟩) (o' := ⟨_, _, _, _, _, _⟩) rfl rfl rfl (by kernel_rfl) (fun K hK => ?_) (fun K hK => ?_))
               all_goals (go_simp; first
                 | ((with_reducible refine (G1.out _ (BV6.out.trans hS.out)).mono ?_); rintro e V4 ⟨xli, rfl, ho, hb2⟩; refine hK.out _ _ (Or.inr fun _ => hS.out.trans hb2) ?_; (try (replace XA := Lib.hid (XA.out.bel hb2))); (try (replace XB := Lib.hid (XB.out.bel hb2))); replace hS := Lib.hid (hS.out.trans hb2); have XA := Lib.hid ho.isi; clear ho; clear hK K hb2; (try simp only [Act.put, seti, set0, setS]))
                 | ((with_reducible refine (G2.out _ (M6.out.bel hS.out)).mono ?_); rintro e V4 ⟨xmi, rfl, ho, hb2⟩; refine hK.out _ _ (Or.inr fun _ => hS.out.trans hb2) ?_; (try (replace XA := Lib.hid (XA.out.bel hb2))); (try (replace XB := Lib.hid (XB.out.bel hb2))); replace hS := Lib.hid (hS.out.trans hb2); have XB := Lib.hid ho.isi; clear ho; clear hK K hb2; (try simp only [Act.put, seti, set0, setS]))
                 | ((with_reducible refine (GS.out _ _ _ XA.out XB.out).mono ?_); rintro e V4 ⟨rfl, hb2⟩; refine hK.out _ _ (Or.inr fun _ => hS.out.trans hb2) ?_; (try (replace XA := Lib.hid (XA.out.bel hb2))); (try (replace XB := Lib.hid (XB.out.bel hb2))); replace hS := Lib.hid (hS.out.trans hb2); clear hK K hb2; (try simp only [Act.put, seti, set0, setS]); clear XA XB; (first | exact listed_eq (by kernel_rfl) (key xli xmi V4 hS.out) | exact listed_eq rfl (key xli xmi V4 hS.out)))
                 | (refine hK.out _ _ (Or.inr fun h => h) ?_; clear hK K; (try simp only [Act.put, seti, set0, setS])))))
        clear hS
        rename World => V4
        have hS : Hid (Bel V6 V4) := Lib.hid hS0
        clear hS0

        repeat' (first
          | ((first
              | refine tkF (oi := ⟨some _, _, _, _, _, _⟩) rfl rfl (by kernel_rfl) (fun _ _ _ h => h) (Or.inl ⟨by rfl, by intro w' _; first | (go_simp; done) | (go_simp; with_reducible rfl)⟩) ?_
              | refine tkN (oi := ⟨some _, _, _, _, _, _⟩) rfl rfl (by decide +kernel) (fun _ _ _ h => h) hS.out (Or.inl ⟨by rfl, by intro w' hSw; obtain ⟨e0, e1, e2, e3, e4, e5, e6, e7⟩ := HC.out _ hSw; first | (go_simp; done) | (go_simp; with_reducible rfl)⟩) ?_
              | refine tkG (oi := ⟨_, _, _, _, _, _⟩) rfl rfl (by kernel_rfl) (fun _ _ _ h => h) (by rfl) ?_)
             (try simp only [Act.put, seti, set0, setS]))
          | ((first | refine one (o := ⟨_, _, _, _, _, _⟩) rfl rfl (by kernel_rfl) (fun K hK => ?_) | refine two (o := ⟨_, _, _, _, _, _⟩) (o' := ⟨_, _, _, _, _, _⟩) rfl rfl rfl (by kernel_rfl) (fun K hK => ?_) (fun K hK => ?_))
             all_goals (go_simp; first
               | ((with_reducible refine (H1.out _ (BV6.out.trans hS.out) (M6.out.bel hS.out)).mono ?_); rintro e V4 ⟨xc, rfl, ho, hb2⟩; refine hK.out _ _ (Or.inr fun _ => hS.out.trans hb2) ?_; replace hS := Lib.hid (hS.out.trans hb2); obtain ⟨pc, cc, rfl⟩ := ho.isi.shape; clear hK K hb2 ho; (try simp only [Act.put, seti, set0, setS]))
               | (refine hK.out _ _ (Or.inr fun h => h) ?_; clear hK K; (try simp only [Act.put, seti, set0, setS]))))
          | refine done rfl (by kernel_rfl) ?_ _)
        all_goals
          go_wp2
          go_ret
          exact ⟨rfl, BV6.out.trans hS.out⟩
theorem ordl_f (w : World) (v : Value) (l : List Rep) (hv : IsL w v l) (x : Int) (x0 : 0 ≤ x) (x1 : x ≤ 255) (y : Int) (y0 : 0 ≤ y) (y1 : y ≤ 255) : Calls Try.prog 10 #[v, .int .u8 x, .int .u8 y] w (RetB w (.bool true)) := by
  obtain ⟨p, c, rfl⟩ := hv.shape
  obtain ⟨b, rfl⟩ := Int.eq_ofNat_of_zero_le x0
  obtain ⟨t, rfl⟩ := Int.eq_ofNat_of_zero_le y0
  by_cases h1 : l.length ≤ 20
  · by_cases h0 : l.length = 0
    · exact ordl_no l b t p c w (.inr ⟨by omega, h0⟩)
    · exact ordl_yes l b t (by omega) (by omega) p c w hv h1 (by omega)
  · exact ordl_no l b t p c w (.inl (by omega))
end Go.Proofs.Ytdjgpbanokdnhaa.Pt
