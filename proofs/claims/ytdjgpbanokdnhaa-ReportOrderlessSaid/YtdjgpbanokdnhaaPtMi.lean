/-
  report.Missing.
-/
import Derived.Test.YtdjgpbanokdnhaaPtAb
import Derived.Test.YtdjgpbanokdnhaaPtU
import Derived.Test.YtdjgpbanokdnhaaPtIn
import Derived.Test.YtdjgpbanokdnhaaPtG2
namespace Go.Proofs.Ytdjgpbanokdnhaa.Pt
open Go.RowKit

/-- The numbers that are missing of an object. -/
def missR (l : List Rep) (o most : Int) : List Int := missL (sqs (aboutL o l)) most
theorem setAb_ob (l : List Rep) (o : Int) : ∀ r ∈ setL (aboutL o l), r.ob = o := fun r hr => ((aboutL_mem o l r).1 ((setL_mem _ r).1 hr)).2
theorem setAb_sqs (l : List Rep) (o most : Int) : missL (sqs (setL (aboutL o l))) most = missR l o most :=
  missL_congr (fun x => by simp only [sqs, List.mem_map, setL_mem]) most
theorem sqs_get {s : List Rep} {k : Nat} (h : k < s.length) : s[k]!.sq ∈ sqs s := List.mem_map.2 ⟨_, get_mem h, rfl⟩
theorem cptF_len (a : Rep) : ∀ l : List Rep, (cptF a l).length ≤ l.length
  | [] => by simp [cptF]
  | b :: l => by
    have h1 := cptF_len a l
    have h2 := cptF_len b l
    simp only [cptF]
    split <;> simp <;> omega
theorem setL_len (l : List Rep) : (setL l).length ≤ l.length := by
  have h := srt_len l
  rw [setL]
  cases hs : srt l with
  | nil => simp [cpt]
  | cons a t =>
    have h1 := cptF_len a t
    rw [hs] at h
    simp only [cpt, List.length_cons] at h ⊢
    omega

set_option maxHeartbeats 4000000 in
set_option maxRecDepth 100000 in
theorem missing_f (l : List Rep) (o most : Int) (v : Value) (w : World) (hv : IsL w v l) (hb : l.length ≤ 1000000) (hm1 : -1 ≤ most) (hm2 : most ≤ 1000000) :
    Calls Try.prog 34 #[v, .int .i64 o, .int .i64 most] w (RetP w fun x W => OwnI w W x (missR l o most)) := by
  have HC : Hid (∀ W, Bel w W → Calls Try.prog 47 #[v, .int .i64 o] W (RetP W fun x W' => Own W W' x (aboutL o l))) := Lib.hid fun W hbl => about_f l o v W (hv.bel hbl) hb
  have HD : Hid (∀ W x, IsL W x (aboutL o l) → Calls Try.prog 20 #[x] W (RetP W fun x W' => Own W W' x (setL (aboutL o l)))) := Lib.hid fun W x h => set_f _ x W h (Nat.le_trans (aboutL_len o l) hb)
  have HI := Lib.hid (setL_inc (aboutL o l))
  have HO := Lib.hid (setAb_ob l o)
  have HQ := Lib.hid (setAb_sqs l o most)
  have hsl : (setL (aboutL o l)).length ≤ 1000000 := Nat.le_trans (setL_len _) (Nat.le_trans (aboutL_len o l) hb)
  obtain ⟨p, c, rfl⟩ := hv.shape
  clear hv
  generalize setL (aboutL o l) = s at HD HI HO HQ hsl
  go_enter Try.func34, Try.ntmps34
  go_wp2_with (first
    | (go_at_call 47; refine (HC.out _ (Bel.refl _)).mono ?_; rintro e w1 ⟨x, rfl, hown, hbel⟩; have O1 := Lib.hid hown; have B1 := Lib.hid hbel; clear hown hbel)
    | (go_at_call 20; refine (HD.out _ _ O1.out.isl).mono ?_; rintro e w2 ⟨y, rfl, hown, hbel⟩; obtain ⟨p2, c2, rfl⟩ := hown.isl.shape; have O2 := Lib.hid hown.isl; have B2 := Lib.hid (B1.out.trans hbel); clear hown hbel O1 B1))
  obtain ⟨_, _, e0, hc2, hmx, hl2, _⟩ := O2.out
  injection e0 with e1 e2 e3
  subst e1 e3
  unfold maxLen at hmx
  have HL := Lib.hid hl2
  clear hl2 e2 O2 HC HD
  go_loopw [7, 8, 17] (fun s7 s8 s17 wr => ∃ (k : Nat) (last : Int) (acc : List Int), s17 = .int .i64 k ∧ s8 = .int .i64 last ∧ k ≤ s.length ∧ -1 ≤ last ∧ acc = (gapL (sqs s) (last + 1)).take most.toNat ∧ ((acc.length : Int) < most → last + 1 ≤ acc.length + k) ∧ (∀ j, j < k → s[j]!.sq ≤ last) ∧ (last = -1 ∨ last ∈ sqs s) ∧ OwnI w2 wr s7 acc ∧ Bel w2 wr) (fun _ _ s17 _ => s.length - (intOf s17).toNat)
  case atStart => exact ⟨0, -1, [], rfl, rfl, by omega, by omega, by rw [gapL_neg (by omega), List.take_nil], fun _ => by simp, fun _ h => by omega, .inl rfl, OwnI.nil _ _, Bel.refl _⟩
  case round =>
    obtain ⟨k, last, acc, rfl, rfl, hk, hl1, hac, hj, hll, hlm, how, hbw⟩ := hrel
    have J := Lib.hid hj
    have AC := Lib.hid hac
    have LL := Lib.hid hll
    have LM := Lib.hid hlm
    have OW := Lib.hid how
    have BW := Lib.hid hbw
    have hacl0 : acc.length ≤ most.toNat := by rw [hac, List.length_take]; omega
    clear hj hac hll hlm how hbw
    by_cases hlt : k < s.length
    · obtain ⟨g, o', rfl, hg, hat⟩ := isl_open HL.out hlt
      obtain ⟨c0, c1, c2, c3, c4, c5, c6, c7⟩ := (hat.bel hg BW.out).c8 hlt
      have hk8 : (k : Int) < s.length := by omega
      have NG := Lib.hid (miss_new HI.out HO.out hlt LL.out)
      have QS := Lib.hid (sqs_get hlt)
      have hx1 : ∀ x, s[k]! = x → Hid (s[k]! = x) := fun x h => Lib.hid h
      generalize hx : s[k]! = x at c0 c1 c2 c3 c4 c5 c6 c7 NG QS
      have HX := hx1 x hx
      clear hat hx hx1
      have AP : Hid (∀ v, OwnI w2 wr v acc → v.ownBlock ≠ some wr.heap.size) := Lib.hid (fun v h e => by have := (h.lt _ e).2; omega)
      have AP := Lib.hid (AP.out _ OW.out)
      by_cases hA : (acc.length : Int) < most
      · have hla := J.out hA
        have hl3 : last ≤ 3000000 := by omega
        go_wp2
        rename World => wo
        go_loopw [7, 11] (fun s7 s11 wx => ∃ (z n : Int) (ac : List Int), s11 = .int .i64 z ∧ last + 1 ≤ n ∧ (n ≤ last + 1 ∨ n ≤ x.sq) ∧ ac = (gapL (sqs s) n).take most.toNat ∧ ((ac.length : Int) < most → z = n ∧ n ≤ ac.length + k) ∧ OwnI w2 wx s7 ac ∧ Bel w2 wx ∧ wx.heap[wo.heap.size]? = some (.cells #[.int .i64 x.ob, .int .i64 x.sq, .int .i64 x.vs, .int .i64 x.dv, .int .i64 x.tm, .int .i64 x.px, .int .i64 x.py, .bool x.cn] 23 (0, 0)) ∧ s7.ownBlock ≠ some wo.heap.size) (fun _ s11 _ => (x.sq - intOf s11).toNat)
        case atStart => exact ⟨_, last + 1, acc, rfl, Int.le_refl _, .inl (Int.le_refl _), AC.out, fun h => ⟨rfl, J.out h⟩, OW.out.bel (Bel.new _ _), BW.out.alloc _, heap_new _ _, AP.out⟩
        case round =>
          obtain ⟨z, n, ac, rfl, hn1, hn2, hac, hzn, how, hbw, h10, hap⟩ := hrel
          obtain ⟨p7, c7, rfl⟩ := how.isi.shape
          have A1 := Lib.hid hac
          have Z1 := Lib.hid hzn
          have OW1 := Lib.hid how
          have BW1 := Lib.hid hbw
          have H10 := Lib.hid h10
          have AP1 := Lib.hid hap
          have N1 := Lib.hid hn1
          have N2 := Lib.hid hn2
          have q1 := blkAt h10 1
          simp only [List.getElem?_toArray, List.getElem?_cons_zero, List.getElem?_cons_succ] at q1
          have hacl : ac.length ≤ most.toNat := by rw [hac, List.length_take]; omega
          clear hac hzn how hbw h10 hap hn1 hn2 OW BW AP J AC
          by_cases hB : (ac.length : Int) < most
          · obtain ⟨e1, e2⟩ := Z1.out hB
            subst e1
            by_cases hnq : z < x.sq
            · have hz0 : 0 ≤ z := by have := N1.out; omega
              have hz1 : z ≤ 3000000 := by omega
              go_wp2_with (at_builtin; refine wpList_num (w0 := w2) (v := .slice p7 ac.length c7) (l := ac) (z := z) (A := wr.heap.size) rfl _ _ rfl rfl rfl (OW1.out.bel (Bel.new _ _)) (by simp [go_sem]) ?b1 ?b2 ?b3)
              case b1 => omega
              case b2 => exact Nat.le_succ_of_le BW1.out.size
              case b3 =>
                intro v2 w3 hown hgr
                have hb3 := hgr.bel (BW1.out.alloc _) OW1.out.lo
                have O3 := Lib.hid hown
                have B3 := Lib.hid hb3
                have H3 : Hid (w3.heap[wo.heap.size]? = some (.cells #[.int .i64 x.ob, .int .i64 x.sq, .int .i64 x.vs, .int .i64 x.dv, .int .i64 x.tm, .int .i64 x.px, .int .i64 x.py, .bool x.cn] 23 (0, 0))) := Lib.hid (by
                  have h1 := fun o => ((Bel.new wr o).b.block _ (Array.getElem?_eq_some_iff.1 H10.out).1).trans H10.out
                  exact (hgr.g.block _ (Array.getElem?_eq_some_iff.1 (h1 _)).1 (Ne.symm AP1.out)).trans (h1 _))
                have P3 : Hid (v2.ownBlock ≠ some wo.heap.size) := Lib.hid (by
                  have h5 := (Array.getElem?_eq_some_iff.1 H10.out).1
                  rcases hgr.o with h1 | h1
                  · rw [h1]; exact AP1.out
                  · rw [h1]
                    intro e
                    injection e with e
                    simp at e
                    omega)
                clear hown hgr hb3
                go_wp2
                go_roundw
                case rel => exact ⟨z + 1, z + 1, ac ++ [z], rfl, by have := N1.out; omega, .inr (by omega), miss_step hz0 (NG.out z N1.out hnq) A1.out hB, fun _ => ⟨rfl, by rw [List.length_append]; simp; omega⟩, O3.out, B3.out, H3.out, P3.out⟩
                case measure => simp [intOf]; omega
            · have ME := Lib.hid (miss_end (k := k) N1.out N2.out QS.out hl1 A1.out (fun _ => ⟨by omega, e2⟩))
              go_wp2
              go_roundw
              case rel => exact ⟨k + 1, max last x.sq, ac, by go_num, by go_num, by omega, by omega, ME.out.1, ME.out.2, fun j hj => by
                rcases Nat.lt_or_ge j k with h | h
                · have := LL.out j h; omega
                · rw [show j = k by omega, HX.out]; omega, by
                rcases Int.le_total last x.sq with h | h
                · rw [Int.max_eq_right h]; exact .inr QS.out
                · rw [Int.max_eq_left h]; exact LM.out, OW1.out, BW1.out⟩
              case measure => simp [intOf]; omega
          · have ME := Lib.hid (miss_end (k := k) N1.out N2.out QS.out hl1 A1.out (fun h => absurd h hB))
            by_cases hnq : z < x.sq
            all_goals
              go_wp2
              go_roundw
              case rel => exact ⟨k + 1, max last x.sq, ac, by go_num, by go_num, by omega, by omega, ME.out.1, ME.out.2, fun j hj => by
                rcases Nat.lt_or_ge j k with h | h
                · have := LL.out j h; omega
                · rw [show j = k by omega, HX.out]; omega, by
                rcases Int.le_total last x.sq with h | h
                · rw [Int.max_eq_right h]; exact .inr QS.out
                · rw [Int.max_eq_left h]; exact LM.out, OW1.out, BW1.out⟩
              case measure => simp [intOf]; omega

      · go_wp2
        rename World => wo
        go_loopw [7, 11] (fun s7 s11 wx => ∃ (z n : Int) (ac : List Int), s11 = .int .i64 z ∧ last + 1 ≤ n ∧ (n ≤ last + 1 ∨ n ≤ x.sq) ∧ ac = (gapL (sqs s) n).take most.toNat ∧ ((ac.length : Int) < most → z = n ∧ n ≤ ac.length + k) ∧ OwnI w2 wx s7 ac ∧ Bel w2 wx ∧ wx.heap[wo.heap.size]? = some (.cells #[.int .i64 x.ob, .int .i64 x.sq, .int .i64 x.vs, .int .i64 x.dv, .int .i64 x.tm, .int .i64 x.px, .int .i64 x.py, .bool x.cn] 23 (0, 0)) ∧ s7.ownBlock ≠ some wo.heap.size) (fun _ s11 _ => (x.sq - intOf s11).toNat)
        case atStart => exact ⟨_, last + 1, acc, rfl, Int.le_refl _, .inl (Int.le_refl _), AC.out, fun h => by omega, OW.out.bel (Bel.new _ _), BW.out.alloc _, heap_new _ _, AP.out⟩
        case round =>
          obtain ⟨z, n, ac, rfl, hn1, hn2, hac, hzn, how, hbw, h10, hap⟩ := hrel
          obtain ⟨p7, c7, rfl⟩ := how.isi.shape
          have A1 := Lib.hid hac
          have Z1 := Lib.hid hzn
          have OW1 := Lib.hid how
          have BW1 := Lib.hid hbw
          have H10 := Lib.hid h10
          have AP1 := Lib.hid hap
          have N1 := Lib.hid hn1
          have N2 := Lib.hid hn2
          have q1 := blkAt h10 1
          simp only [List.getElem?_toArray, List.getElem?_cons_zero, List.getElem?_cons_succ] at q1
          have hacl : ac.length ≤ most.toNat := by rw [hac, List.length_take]; omega
          clear hac hzn how hbw h10 hap hn1 hn2 OW BW AP J AC
          by_cases hB : (ac.length : Int) < most
          · obtain ⟨e1, e2⟩ := Z1.out hB
            subst e1
            by_cases hnq : z < x.sq
            · have hz0 : 0 ≤ z := by have := N1.out; omega
              have hz1 : z ≤ 3000000 := by omega
              go_wp2_with (at_builtin; refine wpList_num (w0 := w2) (v := .slice p7 ac.length c7) (l := ac) (z := z) (A := wr.heap.size) rfl _ _ rfl rfl rfl (OW1.out.bel (Bel.new _ _)) (by simp [go_sem]) ?b1 ?b2 ?b3)
              case b1 => omega
              case b2 => exact Nat.le_succ_of_le BW1.out.size
              case b3 =>
                intro v2 w3 hown hgr
                have hb3 := hgr.bel (BW1.out.alloc _) OW1.out.lo
                have O3 := Lib.hid hown
                have B3 := Lib.hid hb3
                have H3 : Hid (w3.heap[wo.heap.size]? = some (.cells #[.int .i64 x.ob, .int .i64 x.sq, .int .i64 x.vs, .int .i64 x.dv, .int .i64 x.tm, .int .i64 x.px, .int .i64 x.py, .bool x.cn] 23 (0, 0))) := Lib.hid (by
                  have h1 := fun o => ((Bel.new wr o).b.block _ (Array.getElem?_eq_some_iff.1 H10.out).1).trans H10.out
                  exact (hgr.g.block _ (Array.getElem?_eq_some_iff.1 (h1 _)).1 (Ne.symm AP1.out)).trans (h1 _))
                have P3 : Hid (v2.ownBlock ≠ some wo.heap.size) := Lib.hid (by
                  have h5 := (Array.getElem?_eq_some_iff.1 H10.out).1
                  rcases hgr.o with h1 | h1
                  · rw [h1]; exact AP1.out
                  · rw [h1]
                    intro e
                    injection e with e
                    simp at e
                    omega)
                clear hown hgr hb3
                go_wp2
                go_roundw
                case rel => exact ⟨z + 1, z + 1, ac ++ [z], rfl, by have := N1.out; omega, .inr (by omega), miss_step hz0 (NG.out z N1.out hnq) A1.out hB, fun _ => ⟨rfl, by rw [List.length_append]; simp; omega⟩, O3.out, B3.out, H3.out, P3.out⟩
                case measure => simp [intOf]; omega
            · have ME := Lib.hid (miss_end (k := k) N1.out N2.out QS.out hl1 A1.out (fun _ => ⟨by omega, e2⟩))
              go_wp2
              go_roundw
              case rel => exact ⟨k + 1, max last x.sq, ac, by go_num, by go_num, by omega, by omega, ME.out.1, ME.out.2, fun j hj => by
                rcases Nat.lt_or_ge j k with h | h
                · have := LL.out j h; omega
                · rw [show j = k by omega, HX.out]; omega, by
                rcases Int.le_total last x.sq with h | h
                · rw [Int.max_eq_right h]; exact .inr QS.out
                · rw [Int.max_eq_left h]; exact LM.out, OW1.out, BW1.out⟩
              case measure => simp [intOf]; omega
          · have ME := Lib.hid (miss_end (k := k) N1.out N2.out QS.out hl1 A1.out (fun h => absurd h hB))
            by_cases hnq : z < x.sq
            all_goals
              go_wp2
              go_roundw
              case rel => exact ⟨k + 1, max last x.sq, ac, by go_num, by go_num, by omega, by omega, ME.out.1, ME.out.2, fun j hj => by
                rcases Nat.lt_or_ge j k with h | h
                · have := LL.out j h; omega
                · rw [show j = k by omega, HX.out]; omega, by
                rcases Int.le_total last x.sq with h | h
                · rw [Int.max_eq_right h]; exact .inr QS.out
                · rw [Int.max_eq_left h]; exact LM.out, OW1.out, BW1.out⟩
              case measure => simp [intOf]; omega

    · have hk8 : ¬ ((k : Int) < s.length) := by omega
      have HR : Hid (acc = missR l o most) := Lib.hid (by
        rw [← HQ.out, AC.out]
        exact missL_of LM.out (fun y hy => by
          obtain ⟨r, hr, e⟩ := List.mem_map.1 hy
          obtain ⟨j, hj, e2⟩ := mem_get hr
          have := LL.out j (by omega)
          rw [e2, e] at this
          exact this) hl1)
      go_wp2
      go_ret
      exact ⟨_, rfl, by rw [← HR.out]; exact ownI_base OW.out B2.out.size, B2.out.trans BW.out⟩
end Go.Proofs.Ytdjgpbanokdnhaa.Pt
