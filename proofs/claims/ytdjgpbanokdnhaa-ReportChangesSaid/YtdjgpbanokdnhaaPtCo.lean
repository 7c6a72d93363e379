/-
  The reference's counting.
-/
import Derived.Test.YtdjgpbanokdnhaaPtSe
import Derived.Test.YtdjgpbanokdnhaaPtCn
namespace Go.Proofs.Ytdjgpbanokdnhaa.Pt
open Go.RowKit
attribute [local go_sem ↓] Go.wp_at_zero Go.wp_at_succ

set_option maxHeartbeats 8000000 in
set_option maxRecDepth 100000 in
theorem lcounting_f (l : List Rep) (v : Value) (w : World) (hv : IsL w v l) (hb : l.length ≤ 1000000) : Calls Try.prog 26 #[v] w (RetP w fun x W => Own w W x (cntL l)) := by
  have C1 : Hid (Calls Try.prog 21 #[v] w (RetP w fun x W => Own w W x (setL l))) := Lib.hid (lset_f l v w hv hb)
  have HW : Hid (∀ V x r, IsL V x (setL l) → Calls Try.prog 28 #[x, agR r] V (RetB V (.bool (winB (setL l) r)))) := Lib.hid fun V x r h => winner_f _ r x V h
  have E : Hid (ck (setL l) (setL l).length = cntL l) := Lib.hid (ck_all l)
  have SL : Hid ((setL l).length ≤ 1000000) := Lib.hid (Nat.le_trans (setL_len l) hb)
  clear hv hb
  generalize cntL l = res at E ⊢
  generalize setL l = s at C1 HW E SL
  go_enter Try.func26, Try.ntmps26
  go_wp2_with (go_at_call 21; refine C1.out.mono ?_; rintro e V1 ⟨x1, rfl, ho, hb1⟩; have S := Lib.hid ho.isl; have BW := Lib.hid hb1; clear ho hb1 C1)
  obtain ⟨p3, c3, hc3, hm3, hls⟩ : ∃ p c, x1 = .slice p s.length c ∧ c ≤ maxLen ∧ (s = [] ∨ ∃ g o, p = some ⟨g, o, none⟩ ∧ g < V1.heap.size ∧ LsAt V1 g o s) := by
    obtain ⟨p, c, h1, _, h2, h3, _⟩ := S.out
    exact ⟨p, c, h1, h2, h3⟩
  subst hc3
  have LS := Lib.hid hls
  have SN : (s.length : Int) ≤ 1000000 := by have := SL.out; omega
  clear hls
  go_loopw [4, 5] (fun s4 s5 wr => ∃ k : Nat, k ≤ s.length ∧ s5 = .int .i64 k ∧ Own V1 wr s4 (ck s k) ∧ Bel V1 wr) (fun _ s5 _ => s.length - (intOf s5).toNat)
  case atStart => exact ⟨0, by omega, rfl, Own.nil _ _, Bel.refl _⟩
  case round =>
    obtain ⟨k, hk, rfl, hown, hbl⟩ := hrel
    have O := Lib.hid hown
    have B := Lib.hid hbl
    obtain ⟨p4, c4, rfl⟩ := hown.isl.shape
    clear hown hbl
    by_cases hlt : k < s.length
    · obtain ⟨g, o, rfl, hg, hat⟩ := isl_open LS.out hlt
      obtain ⟨r, hr⟩ : ∃ r, s[k]! = r := ⟨_, rfl⟩
      obtain ⟨z, hz⟩ : ∃ z, r.cn = z := ⟨_, rfl⟩
      obtain ⟨b, hb⟩ : ∃ b, winB s r = b := ⟨_, rfl⟩
      have CC : Hid (∀ V, Bel V1 V → V.cell? ⟨g, o + k * 8, none⟩ = some (.int .i64 r.ob) ∧ V.cell? ⟨g, o + k * 8 + 1, none⟩ = some (.int .i64 r.sq) ∧ V.cell? ⟨g, o + k * 8 + 2, none⟩ = some (.int .i64 r.vs) ∧ V.cell? ⟨g, o + k * 8 + 3, none⟩ = some (.int .i64 r.dv) ∧ V.cell? ⟨g, o + k * 8 + 4, none⟩ = some (.int .i64 r.tm) ∧ V.cell? ⟨g, o + k * 8 + 5, none⟩ = some (.int .i64 r.px) ∧ V.cell? ⟨g, o + k * 8 + 6, none⟩ = some (.int .i64 r.py) ∧ V.cell? ⟨g, o + k * 8 + 7, none⟩ = some (.bool z)) := Lib.hid fun V hb => by
        have h1 := (hat.bel hg hb).at8 hlt
        rw [hr] at h1
        rw [← hz]
        exact h1
      have S1 : Hid (∀ V, Bel V1 V → Calls Try.prog 28 #[.slice (some ⟨g, o, none⟩) s.length c3, .agg #[.int .i64 r.ob, .int .i64 r.sq, .int .i64 r.vs, .int .i64 r.dv, .int .i64 r.tm, .int .i64 r.px, .int .i64 r.py, .bool z]] V (RetB V (.bool b))) := Lib.hid fun V hv => by
        have h1 := HW.out V _ r (S.out.bel hv)
        rw [hb] at h1
        rw [← hz]
        exact h1
      have hk8 : (k : Int) < s.length := by omega
      have hl : (ck s k).length ≤ 1000000 := Nat.le_trans (ck_len s k) SL.out
      have N : Hid (ck s (k + 1) = if (b && !z) = true then ck s k ++ [r] else ck s k) := Lib.hid (by rw [ck_next s k hlt, hr, hb, hz])
      have HZ := Lib.hid hz
      clear hat hg hr hz hb
      generalize ck s k = acc at O N hl
      obtain ⟨c0, c1, c2, c3', c4', c5, c6, c7⟩ := CC.out wr B.out
      cases b
      · go_wp2_with (go_at_call 28; refine (S1.out _ B.out).mono ?_; rintro e V2 ⟨rfl, hb2⟩; replace B := Lib.hid (B.out.trans hb2); replace O := Lib.hid (O.out.bel hb2); clear hb2)
        go_roundw
        case rel => exact ⟨k + 1, by omega, by go_num, by rw [N.out]; exact O.out, B.out⟩
        case measure => simp [intOf]; omega
      · cases z
        · go_wp2_with (first
            | (go_at_call 28; refine (S1.out _ B.out).mono ?_; rintro e V2 ⟨rfl, hb2⟩; replace B := Lib.hid (B.out.trans hb2); replace O := Lib.hid (O.out.bel hb2); clear hb2 c0 c1 c2 c3' c4' c5 c6 c7; obtain ⟨c0, c1, c2, c3', c4', c5, c6, c7⟩ := CC.out V2 B.out)
            | (at_builtin; refine wpList_reps (w0 := V1) (v := .slice p4 acc.length c4) (l := acc) (m := [r]) rfl _ _ rfl rfl rfl (O.out.bel (Bel.new _ _)) (isl_one r HZ.out _ _ (by simp)) ?b1 ?b2 ?b3))
          case b1 => simp only [List.length_cons, List.length_nil]; omega
          case b2 => exact (B.out.alloc _).size
          case b3 =>
            intro v2 w2 hown hgr
            have hb2 := hgr.bel (B.out.alloc _) O.out.lo
            have O2 := Lib.hid hown
            have B2 := Lib.hid hb2
            clear hown hb2 hgr
            go_wp2
            go_roundw
            case rel => exact ⟨k + 1, by omega, by go_num, by rw [N.out]; exact O2.out, B2.out⟩
            case measure => simp [intOf]; omega
        · go_wp2_with (go_at_call 28; refine (S1.out _ B.out).mono ?_; rintro e V2 ⟨rfl, hb2⟩; replace B := Lib.hid (B.out.trans hb2); replace O := Lib.hid (O.out.bel hb2); clear hb2 c0 c1 c2 c3' c4' c5 c6 c7; obtain ⟨c0, c1, c2, c3', c4', c5, c6, c7⟩ := CC.out V2 B.out)
          go_roundw
          case rel => exact ⟨k + 1, by omega, by go_num, by rw [N.out]; exact O.out, B.out⟩
          case measure => simp [intOf]; omega
    · have hk8 : ¬ ((k : Int) < s.length) := by omega
      have hkl : k = s.length := by omega
      rw [hkl] at O
      have R : Hid (Own V1 wr (.slice p4 (ck s k).length c4) res) := Lib.hid (by rw [← E.out, hkl]; exact O.out)
      clear hkl O
      go_wp2
      go_ret
      exact ⟨_, rfl, own_base R.out BW.out.size, BW.out.trans B.out⟩
end Go.Proofs.Ytdjgpbanokdnhaa.Pt
