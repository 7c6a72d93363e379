/-
  The walk of ReportMisses.
-/
import Derived.Test.YtdjgpbanokdnhaaPtMg
namespace Go.Proofs.Ytdjgpbanokdnhaa.Pt
open Go.RowKit

theorem mostOf_snoc (l : List Int) (a : Int) : mostOf (l ++ [a]) = max (mostOf l) a := by
  induction l with
  | nil => rfl
  | cons b l ih => simp only [List.cons_append, mostOf, ih]; omega
/-- The numbers of an object's reports among the first i ones. -/
def sqTo (l : List Rep) (o : Int) (i : Nat) : List Int := sqs (aboutL o (l.take i))
theorem sqTo_next (l : List Rep) (o : Int) (i : Nat) (h : i < l.length) : sqTo l o (i + 1) = if l[i]!.ob = o then sqTo l o i ++ [l[i]!.sq] else sqTo l o i := by
  unfold sqTo aboutL keepL sqs
  rw [List.take_succ_eq_append_getElem h, List.filter_append, List.map_append, getElem!_pos l i h]
  by_cases e : l[i].ob = o
  · rw [if_pos e]; simp [otherB, e]
  · rw [if_neg e]; simp [otherB, e]
theorem sqTo_all (l : List Rep) (o : Int) : sqTo l o l.length = sqs (aboutL o l) := by rw [sqTo, List.take_length]
theorem cnt_step (S : List Int) (k : Int) (h : 0 ≤ k) : S.countP (fun s => decide (0 ≤ s ∧ s < k)) + (if k ∈ S then 1 else 0) ≤ S.countP (fun s => decide (0 ≤ s ∧ s < k + 1)) := by
  induction S with
  | nil => simp
  | cons a S ih =>
    simp only [List.countP_cons, List.mem_cons]
    by_cases e : k = a
    · subst e
      have h1 : decide (0 ≤ k ∧ k < k) = false := decide_eq_false (by omega)
      have h2 : decide (0 ≤ k ∧ k < k + 1) = true := decide_eq_true (by omega)
      rw [h1, h2]
      simp only [true_or, if_true]
      have : S.countP (fun s => decide (0 ≤ s ∧ s < k)) ≤ S.countP (fun s => decide (0 ≤ s ∧ s < k + 1)) := by
        split at ih <;> omega
      simp only [if_neg (show ¬ (false = true) by decide)]
      omega
    · have h3 : (k = a ∨ k ∈ S) ↔ k ∈ S := ⟨fun h => h.resolve_left e, .inr⟩
      simp only [h3]
      have h4 : (if decide (0 ≤ a ∧ a < k) = true then 1 else 0) ≤ (if decide (0 ≤ a ∧ a < k + 1) = true then 1 else 0) := by
        by_cases h5 : 0 ≤ a ∧ a < k
        · rw [if_pos (decide_eq_true h5), if_pos (decide_eq_true (by omega))]; exact Nat.le_refl _
        · rw [if_neg (by simpa using h5)]; exact Nat.zero_le _
      omega
theorem gap_cnt (S : List Int) : ∀ k : Nat, k ≤ (gapL S k).length + S.countP (fun s => decide (0 ≤ s ∧ s < (k : Int)))
  | 0 => Nat.zero_le _
  | k + 1 => by
    have h1 := gap_cnt S k
    have h2 := cnt_step S k (by omega)
    have h3 := gapL_next (S := S) (g := k) (by omega)
    have e : ((k + 1 : Nat) : Int) = (k : Int) + 1 := by omega
    rw [e, h3]
    split
    · rename_i hk
      rw [if_pos hk] at h2
      omega
    · rename_i hk
      rw [if_neg hk] at h2
      rw [List.length_append]
      simp only [List.length_cons, List.length_nil]
      omega
theorem gap_bound {S : List Int} {m k : Nat} {acc : List Int} (ha : acc = (gapL S k).take m) (hl : acc.length < m) : k ≤ acc.length + S.length := by
  have h1 := gap_cnt S k
  have h2 := List.countP_le_length (p := fun s => decide (0 ≤ s ∧ s < (k : Int))) (l := S)
  rw [ha, List.length_take] at hl ⊢
  omega
theorem gap_step {S : List Int} {m k : Nat} {acc : List Int} (ha : acc = (gapL S k).take m) (hl : acc.length < m) : (gapL S ((k + 1 : Nat) : Int)).take m = if (k : Int) ∈ S then acc else acc ++ [(k : Int)] := by
  rw [show ((k + 1 : Nat) : Int) = (k : Int) + 1 by omega, gapL_next (by omega)]
  split
  · exact ha.symm
  · rw [take_more (by rw [← ha]; exact hl), ← ha]
theorem gap_end {S : List Int} {n : Int} {k : Nat} {acc : List Int} (ha : acc = (gapL S k).take n.toNat) (hk : (k : Int) ≤ max 0 (mostOf S)) (h : (mostOf S ≤ (k : Int)) ∨ n.toNat ≤ acc.length) : acc = missL S n := by
  unfold missL
  have hc : (k : Int) ≤ mostOf S ∨ (k = 0 ∧ mostOf S ≤ 0) := by omega
  rcases hc with hc | ⟨rfl, hc⟩
  · rcases h with h | h
    · rw [ha, show (k : Int) = mostOf S by omega]
    · rw [gapL_full hc (by rw [← ha]; exact h)]
      exact ha
  · rw [gapL_neg hc, ha, gapL_neg (by simp)]

set_option maxHeartbeats 4000000 in
set_option maxRecDepth 100000 in
theorem misses_no (l : List Rep) (o y : Int) (p : Option Addr) (c : Nat) (w : World) (h : (20 : Int) < l.length) :
    Calls Try.prog 8 #[.slice p l.length c, .int .i64 o, .int .u8 y] w (RetB w (.bool true)) := by
  have B := Lib.hid (Bel.refl w)
  go_enter Try.func8, Try.ntmps8
  go_wp2_with (go_at_call 14; refine (known_f _).mono ?_; rintro e V ⟨rfl, hb⟩; replace B := Lib.hid (B.out.trans hb); clear hb)
  go_ret
  exact ⟨rfl, B.out⟩

set_option maxHeartbeats 8000000 in
set_option maxRecDepth 100000 in
theorem misses_yes (l : List Rep) (o y : Int) (y0 : 0 ≤ y) (y1 : y ≤ 255) (p : Option Addr) (c : Nat) (w : World) (hv : IsL w (.slice p l.length c) l) (h1 : l.length ≤ 20) :
    Calls Try.prog 8 #[.slice p l.length c, .int .i64 o, .int .u8 y] w (RetB w (.bool true)) := by
  have g1 : ¬ (20 : Int) < l.length := by omega
  have t1 : y.tmod 102 = y % 102 := Int.tmod_eq_emod_of_nonneg y0
  have t2 : 0 ≤ y % 102 := Int.emod_nonneg _ (by omega)
  have t3 : y % 102 ≤ 101 := by omega
  have HM : Hid (∀ V n, Bel w V → -1 ≤ n → n ≤ 100 → Calls Try.prog 34 #[.slice p l.length c, .int .i64 o, .int .i64 n] V (RetP V fun x W => OwnI V W x (missR l o n))) := Lib.hid fun V n hb hn1 hn2 => missing_f l o n _ V (hv.bel hb) (by omega) hn1 (by omega)
  obtain ⟨_, _, e1, _, _, hla, _⟩ := hv
  injection e1 with e1 e2 e3
  subst e1
  clear e2 e3
  have LA := Lib.hid hla
  clear hla
  generalize y % 102 = z at t1 t2 t3
  have B := Lib.hid (Bel.refl w)
  go_enter Try.func8, Try.ntmps8
  go_wp2_with (go_at_call 14; refine (known_f _).mono ?_; rintro e V ⟨rfl, hb⟩; replace B := Lib.hid (B.out.trans hb); clear hb)
  clear t1
  have HS : Hid (∀ i, sqTo l o i = sqTo l o i) := Lib.hid fun _ => rfl
  go_loopw [9, 10] (fun s9 s10 wr => ∃ i : Nat, i ≤ l.length ∧ s10 = .int .i64 i ∧ s9 = .int .i64 (mostOf (sqTo l o i)) ∧ Bel w wr) (fun _ s10 _ => l.length - (intOf s10).toNat)
  case atStart => exact ⟨0, by omega, rfl, rfl, B.out⟩
  case round =>
    obtain ⟨k, hk, rfl, rfl, hbl⟩ := hrel
    replace B := Lib.hid hbl
    clear hbl
    by_cases hlt : k < l.length
    · obtain ⟨g, o', rfl, hg, hat⟩ := isl_open LA.out hlt
      have CC := (hat.bel hg B.out).at8 hlt
      have hk8 : (k : Int) < l.length := by omega
      have N := Lib.hid (sqTo_next l o k hlt)
      clear hat hg
      generalize l[k]! = x at CC N
      obtain ⟨c0, c1, c2, c3, c4, c5, c6, c7⟩ := CC
      by_cases he : x.ob = o
      · rw [if_pos he] at N
        have M : Hid (mostOf (sqTo l o (k + 1)) = max (mostOf (sqTo l o k)) x.sq) := Lib.hid (by rw [N.out, mostOf_snoc])
        generalize mostOf (sqTo l o k) = m at M
        go_wp2
        go_roundw
        case rel => exact ⟨k + 1, by omega, by go_num, by rw [M.out], B.out⟩
        case measure => simp [intOf]; omega
      · rw [if_neg he] at N
        have M : Hid (mostOf (sqTo l o (k + 1)) = mostOf (sqTo l o k)) := Lib.hid (by rw [N.out])
        generalize mostOf (sqTo l o k) = m at M
        go_wp2
        go_roundw
        case rel => exact ⟨k + 1, by omega, by go_num, by rw [M.out], B.out⟩
        case measure => simp [intOf]; omega
    · have hk8 : ¬ ((k : Int) < l.length) := by omega
      have hkl : k = l.length := by omega
      have HE : Hid (sqTo l o l.length = sqs (aboutL o l)) := Lib.hid (sqTo_all l o)
      have HR : Hid (∀ n, missR l o n = missL (sqTo l o l.length) n) := Lib.hid fun n => by rw [sqTo_all]; rfl
      have HZ : Hid ((sqTo l o l.length).length ≤ 20) := Lib.hid (by rw [sqTo_all]; exact Nat.le_trans (by rw [sqs, List.length_map]; exact aboutL_len o l) h1)
      subst hkl
      clear HE
      obtain ⟨S, hS⟩ : ∃ S, sqTo l o l.length = S := ⟨_, rfl⟩
      have SE := Lib.hid hS
      rw [hS] at HR HZ ⊢
      clear hS
      have GR : Hid (mostOf S = mostOf S) := Lib.hid rfl
      obtain ⟨gr, hgr⟩ : ∃ gr, mostOf S = gr := ⟨_, rfl⟩
      replace GR := Lib.hid hgr
      rw [hgr]
      clear hgr
      go_wp2
      clear hk8
      go_loopw [8, 11] (fun s8 s11 wr => ∃ (k : Nat) (acc : List Int), s11 = .int .i64 k ∧ acc = (gapL S k).take (z - 1).toNat ∧ (k : Int) ≤ max 0 gr ∧ OwnI w wr s8 acc ∧ Bel w wr) (fun _ s11 _ => (gr - intOf s11).toNat)
      case atStart => exact ⟨0, [], rfl, by rw [gapL_neg (by simp), List.take_nil], by omega, OwnI.nil _ _, B.out⟩
      case round =>
        obtain ⟨k, acc, rfl, hac, hkm, how, hbl⟩ := hrel
        replace B := Lib.hid hbl
        obtain ⟨p8, c8, rfl⟩ := how.isi.shape
        have OW := Lib.hid how
        have AC := Lib.hid hac
        have hal : acc.length ≤ (z - 1).toNat := by rw [hac, List.length_take]; omega
        clear hbl how hac
        by_cases hkg : (k : Int) < gr
        · by_cases hA : (acc.length : Int) < z - 1
          · have hkb : k ≤ 130 := by
              have h2 := gap_bound AC.out (by omega)
              have h3 := HZ.out
              omega
            have ST := Lib.hid (gap_step AC.out (by omega))
            go_wp2
            go_loopw [12, 13] (fun s12 s13 wx => ∃ (i : Nat) (t : Bool), i ≤ l.length ∧ s13 = .int .i64 i ∧ s12 = .bool t ∧ (t = true ↔ (k : Int) ∈ sqTo l o i) ∧ OwnI w wx (.slice p8 acc.length c8) acc ∧ Bel w wx) (fun _ s13 _ => l.length - (intOf s13).toNat)
            case atStart => exact ⟨0, false, by omega, rfl, rfl, by simp [sqTo, sqs, aboutL, keepL], OW.out, B.out⟩
            case round =>
              obtain ⟨i, t, hi, rfl, rfl, ht, how, hbl⟩ := hrel
              replace OW := Lib.hid how
              replace B := Lib.hid hbl
              have HT := Lib.hid ht
              clear how hbl ht
              by_cases hlt : i < l.length
              · obtain ⟨g, o', rfl, hg, hat⟩ := isl_open LA.out hlt
                have CC := (hat.bel hg B.out).at8 hlt
                have hk8 : (i : Int) < l.length := by omega
                have N := Lib.hid (sqTo_next l o i hlt)
                clear hat hg
                generalize l[i]! = x at CC N
                obtain ⟨c0, c1, c2, c3, c4, c5, c6, c7⟩ := CC
                cases t with
                | true =>
                  have NT : Hid ((k : Int) ∈ sqTo l o (i + 1)) := Lib.hid (by
                    rw [N.out]
                    split
                    · exact List.mem_append_left _ (HT.out.1 rfl)
                    · exact HT.out.1 rfl)
                  go_wp2
                  go_roundw
                  case rel => exact ⟨i + 1, true, by omega, by go_num, rfl, ⟨fun _ => NT.out, fun _ => rfl⟩, OW.out, B.out⟩
                  case measure => simp [intOf]; omega
                | false =>
                  have NF : Hid (¬ (k : Int) ∈ sqTo l o i) := Lib.hid fun h => by cases HT.out.2 h
                  by_cases he : x.ob = o
                  · rw [if_pos he] at N
                    by_cases hq : x.sq = k
                    · have NT : Hid ((k : Int) ∈ sqTo l o (i + 1)) := Lib.hid (by rw [N.out, hq]; simp)
                      go_wp2
                      go_roundw
                      case rel => exact ⟨i + 1, true, by omega, by go_num, rfl, ⟨fun _ => NT.out, fun _ => rfl⟩, OW.out, B.out⟩
                      case measure => simp [intOf]; omega
                    · have NT : Hid (¬ (k : Int) ∈ sqTo l o (i + 1)) := Lib.hid (by rw [N.out]; simp [NF.out]; omega)
                      go_wp2
                      go_roundw
                      case rel => exact ⟨i + 1, false, by omega, by go_num, by first | rfl | simp [hq], ⟨fun h => (by cases h), fun h => absurd h NT.out⟩, OW.out, B.out⟩
                      case measure => simp [intOf]; omega
                  · rw [if_neg he] at N
                    go_wp2
                    go_roundw
                    case rel => exact ⟨i + 1, false, by omega, by go_num, rfl, by rw [N.out]; exact HT.out, OW.out, B.out⟩
                    case measure => simp [intOf]; omega
              · have hk8 : ¬ ((i : Int) < l.length) := by omega
                have hil : i = l.length := by omega
                subst hil
                rw [SE.out] at HT
                cases t with
                | true =>
                  have NX : Hid ((gapL S ((k + 1 : Nat) : Int)).take (z - 1).toNat = acc) := Lib.hid (by rw [ST.out, if_pos (HT.out.1 rfl)])
                  go_wp2
                  go_roundw
                  case rel => exact ⟨k + 1, acc, by go_num, NX.out.symm, by omega, OW.out, B.out⟩
                  case measure => simp [intOf]; omega
                | false =>
                  have NX : Hid ((gapL S ((k + 1 : Nat) : Int)).take (z - 1).toNat = acc ++ [(k : Int)]) := Lib.hid (by rw [ST.out, if_neg (fun h => by cases HT.out.2 h)])
                  go_wp2_with (at_builtin; refine wpList_num (w0 := w) (v := .slice p8 acc.length c8) (l := acc) (z := (k : Int)) (A := wr.heap.size) rfl _ _ rfl rfl rfl (OW.out.bel (Bel.new _ _)) (by simp [go_sem]) ?b1 ?b2 ?b3)
                  case b1 => omega
                  case b2 => exact Nat.le_succ_of_le B.out.size
                  case b3 =>
                    intro v2 w3 hown hgr
                    have hb3 := hgr.bel (B.out.alloc _) OW.out.lo
                    have O3 := Lib.hid hown
                    have B3 := Lib.hid hb3
                    clear hown hgr hb3
                    go_wp2
                    go_roundw
                    case rel => exact ⟨k + 1, acc ++ [(k : Int)], by go_num, NX.out.symm, by omega, O3.out, B3.out⟩
                    case measure => simp [intOf]; omega
          · have EQ : Hid (acc = missL S (z - 1)) := Lib.hid (gap_end AC.out (by rw [GR.out]; exact hkm) (.inr (by omega)))
            have HM2 : Hid (∀ V, Bel w V → Calls Try.prog 34 #[.slice p l.length c, .int .i64 o, .int .i64 (z - 1)] V (RetP V fun x W => OwnI V W x acc)) := Lib.hid fun V hb => by
              have := HM.out V (z - 1) hb (by omega) (by omega)
              rw [HR.out, ← EQ.out] at this
              exact this
            have SM : Hid (∀ V x y, IsI V x acc → IsI V y acc → Calls Try.prog 30 #[x, y] V (RetB V (.bool true))) := Lib.hid fun V x y h3 h4 => by
              have := sameInts_f acc acc x y V h3 h4
              rw [decide_eq_true rfl] at this
              exact this
            clear HM HR
            go_wp2_with (first
              | (go_at_call 34; refine (HM2.out _ B.out).mono ?_; rintro e V2 ⟨x1, rfl, ho, hb2⟩; have X1 := Lib.hid ho.isi; replace B := Lib.hid (B.out.trans hb2); replace OW := Lib.hid (OW.out.bel hb2); clear ho hb2)
              | (go_at_call 30; refine (SM.out _ _ _ X1.out OW.out.isi).mono ?_; rintro e V2 ⟨rfl, hb2⟩; replace B := Lib.hid (B.out.trans hb2); clear hb2))
            go_ret
            exact ⟨rfl, B.out⟩
        · have EQ : Hid (acc = missL S (z - 1)) := Lib.hid (gap_end AC.out (by rw [GR.out]; exact hkm) (.inl (by rw [GR.out]; omega)))
          have HM2 : Hid (∀ V, Bel w V → Calls Try.prog 34 #[.slice p l.length c, .int .i64 o, .int .i64 (z - 1)] V (RetP V fun x W => OwnI V W x acc)) := Lib.hid fun V hb => by
            have := HM.out V (z - 1) hb (by omega) (by omega)
            rw [HR.out, ← EQ.out] at this
            exact this
          have SM : Hid (∀ V x y, IsI V x acc → IsI V y acc → Calls Try.prog 30 #[x, y] V (RetB V (.bool true))) := Lib.hid fun V x y h3 h4 => by
            have := sameInts_f acc acc x y V h3 h4
            rw [decide_eq_true rfl] at this
            exact this
          clear HM HR
          go_wp2_with (first
            | (go_at_call 34; refine (HM2.out _ B.out).mono ?_; rintro e V2 ⟨x1, rfl, ho, hb2⟩; have X1 := Lib.hid ho.isi; replace B := Lib.hid (B.out.trans hb2); replace OW := Lib.hid (OW.out.bel hb2); clear ho hb2)
            | (go_at_call 30; refine (SM.out _ _ _ X1.out OW.out.isi).mono ?_; rintro e V2 ⟨rfl, hb2⟩; replace B := Lib.hid (B.out.trans hb2); clear hb2))
          go_ret
          exact ⟨rfl, B.out⟩
theorem misses_f (w : World) (v : Value) (l : List Rep) (hv : IsL w v l) (o : Int) (_ : -9223372036854775808 ≤ o) (_ : o ≤ 9223372036854775807) (y : Int) (y0 : 0 ≤ y) (y1 : y ≤ 255) : Calls Try.prog 8 #[v, .int .i64 o, .int .u8 y] w (RetB w (.bool true)) := by
  obtain ⟨p, c, rfl⟩ := hv.shape
  by_cases h1 : l.length ≤ 20
  · exact misses_yes l o y y0 y1 p c w hv h1
  · exact misses_no l o y p c w (by omega)
end Go.Proofs.Ytdjgpbanokdnhaa.Pt
