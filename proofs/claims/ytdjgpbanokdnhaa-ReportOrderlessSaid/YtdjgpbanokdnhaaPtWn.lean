/-
  The reference's winner.
-/
import Derived.Test.YtdjgpbanokdnhaaPtAd
import Derived.Test.YtdjgpbanokdnhaaPtF
namespace Go.Proofs.Ytdjgpbanokdnhaa.Pt
open Go.RowKit
attribute [local go_sem ↓] Go.wp_at_zero Go.wp_at_succ

/-- A report of the same identity that is greater. -/
def beats (r q : Rep) : Prop := (q.ob = r.ob ∧ q.sq = r.sq) ∧ 0 < cmpR q r
theorem winB_beats (l : List Rep) (r : Rep) : winB l r = true ↔ ∀ q ∈ l, ¬ beats r q := by
  rw [winB_iff]
  constructor
  · intro h q hq hb
    have := h q hq (by simp [idOf, hb.1.1, hb.1.2])
    have := hb.2
    omega
  · intro h q hq e
    have h1 := h q hq
    simp only [idOf, Prod.mk.injEq] at e
    by_cases h2 : 0 < cmpR q r
    · exact absurd ⟨e, h2⟩ h1
    · omega

set_option maxHeartbeats 4000000 in
set_option maxRecDepth 100000 in
theorem winner_f (l : List Rep) (r : Rep) (v : Value) (w : World) (hv : IsL w v l) : Calls Try.prog 28 #[v, agR r] w (RetB w (.bool (winB l r))) := by
  obtain ⟨p, cap, rfl, hc, hm, hl, _⟩ := hv
  unfold maxLen at hm
  have LA := Lib.hid hl
  clear hl
  have HP := Lib.hid (winB_beats l r)
  generalize winB l r = res at HP ⊢
  go_enter Try.func28, Try.ntmps28
  go_wp2
  go_loopw [5] (fun s5 wr => ∃ k : Nat, k ≤ l.length ∧ s5 = .int .i64 k ∧ (∀ j, j < k → ¬ beats r l[j]!) ∧ (Bel w wr ∧ Bx wr w.heap.size r)) (fun s5 _ => l.length - (intOf s5).toNat)
  case atStart => exact ⟨0, by omega, rfl, fun _ h => by omega, Bel.new w _, heap_new w _⟩
  case round =>
    obtain ⟨k, hk, rfl, hn, hS1⟩ := hrel
    have K1 := Lib.hid hS1
    have N := Lib.hid hn
    clear hS1 hn
    by_cases hlt : k < l.length
    · obtain ⟨g, o, rfl, hg, hat⟩ := isl_open LA.out hlt
      have CC : Hid (∀ V, Bel w V → At8 V g (o + k * 8) l[k]!) := Lib.hid fun V hb => (hat.bel hg hb).at8 hlt
      have hk8 : (k : Int) < l.length := by omega
      have IN := Lib.hid (get_mem hlt)
      clear hat hg
      obtain ⟨x, hx⟩ : ∃ x, l[k]! = x := ⟨_, rfl⟩
      have HX := Lib.hid hx
      rw [hx] at CC IN
      clear hx
      have H16 : Hid (∀ w', (Bel w w' ∧ Bx w' w.heap.size r) → w'.cell? ⟨g, o + k * 8, none⟩ = some (.int .i64 x.ob) ∧ w'.cell? ⟨g, o + k * 8 + 1, none⟩ = some (.int .i64 x.sq) ∧ w'.cell? ⟨g, o + k * 8 + 2, none⟩ = some (.int .i64 x.vs) ∧ w'.cell? ⟨g, o + k * 8 + 3, none⟩ = some (.int .i64 x.dv) ∧ w'.cell? ⟨g, o + k * 8 + 4, none⟩ = some (.int .i64 x.tm) ∧ w'.cell? ⟨g, o + k * 8 + 5, none⟩ = some (.int .i64 x.px) ∧ w'.cell? ⟨g, o + k * 8 + 6, none⟩ = some (.int .i64 x.py) ∧ w'.cell? ⟨g, o + k * 8 + 7, none⟩ = some (.bool x.cn) ∧ w'.cell? ⟨w.heap.size, 0, none⟩ = some (.int .i64 r.ob) ∧ w'.cell? ⟨w.heap.size, 1, none⟩ = some (.int .i64 r.sq) ∧ w'.cell? ⟨w.heap.size, 2, none⟩ = some (.int .i64 r.vs) ∧ w'.cell? ⟨w.heap.size, 3, none⟩ = some (.int .i64 r.dv) ∧ w'.cell? ⟨w.heap.size, 4, none⟩ = some (.int .i64 r.tm) ∧ w'.cell? ⟨w.heap.size, 5, none⟩ = some (.int .i64 r.px) ∧ w'.cell? ⟨w.heap.size, 6, none⟩ = some (.int .i64 r.py) ∧ w'.cell? ⟨w.heap.size, 7, none⟩ = some (.bool r.cn)) := Lib.hid fun w' h => kp16 (CC.out _ h.1) h.2.at8
      have CO : Hid (∀ V, (Bel w V ∧ Bx V w.heap.size r) → Calls Try.prog 18 #[agR x, agR r] V (fun e V' => e = .returned (.int .i64 (cmpR x r)) ∧ (Bel w V' ∧ Bx V' w.heap.size r))) := Lib.hid fun V h => (lcompare_f x r V).mono fun e V' ⟨h1, h2⟩ => ⟨h1, h.1.trans h2, h.2.next h2⟩
      by_cases h1 : x.ob = r.ob
      · have q1 : (x.ob == r.ob) = true := by simp [h1]
        by_cases h2 : x.sq = r.sq
        · have q2 : (x.sq == r.sq) = true := by simp [h2]
          by_cases h3 : 0 < cmpR x r
          · have R : Hid (res = false) := Lib.hid (by
              cases res with
              | false => rfl
              | true => exact absurd ⟨⟨h1, h2⟩, h3⟩ (HP.out.1 rfl x IN.out))
            clear h1 h2
            generalize cmpR x r = n at CO h3
            go_wp2
            refine late_S (S := fun V => Bel w V ∧ Bx V w.heap.size r) (fun V h => ⟨h.1.drew, h.2.next (Bel.refl _).drew⟩) K1.out ?_ rfl ?_
            kernel_rfl
            intro V hS0
            have hS := Lib.hid hS0
            clear hS0
            repeat' (first
              | ((first
                  | refine tkF (oi := ⟨some _, _, _, _, _, _⟩) rfl rfl (by kernel_rfl) (fun _ _ _ h => h) (Or.inl ⟨by rfl, by intro w' _; first | (go_simp; done) | (go_simp; with_reducible rfl)⟩) ?_
                  | refine tkN (oi := ⟨some _, _, _, _, _, _⟩) rfl rfl (by decide +kernel) (fun _ _ _ h => h) hS.out (Or.inl ⟨by rfl, by intro w' hSw; obtain ⟨e0, e1, e2, e3, e4, e5, e6, e7, e8, e9, e10, e11, e12, e13, e14, e15⟩ := H16.out _ hSw; first | (go_simp; done) | (go_simp; with_reducible rfl)⟩) ?_
                  | refine tkG (oi := ⟨_, _, _, _, _, _⟩) rfl rfl (by kernel_rfl) (fun _ _ _ h => h) (by rfl) ?_)
                 (try simp only [Act.put, seti, set0, setS]))
              | ((first | refine one (o := ⟨_, _, _, _, _, _⟩) rfl rfl (by kernel_rfl) (fun K hK => ?_) | refine two (o := ⟨_, _, _, _, _, _⟩) (o' := ⟨_, _, _, _, _, _⟩) rfl rfl rfl (by kernel_rfl) (fun K hK => ?_) (fun K hK => ?_))
                 all_goals (go_simp; first
                   | ((with_reducible refine (CO.out _ hS.out).mono ?_); rintro e V4 ⟨rfl, hS1⟩; refine hK.out _ _ (Or.inr fun _ => hS1) ?_; clear hK K hS; have hS := Lib.hid hS1; clear hS1; (try simp only [Act.put, seti, set0, setS]))))
              | refine done rfl (by kernel_rfl) ?_ _)
            all_goals
              go_wp2
              go_ret
              exact ⟨by rw [R.out]; rfl, hS.out.1⟩
          · have NO : Hid (¬ beats r l[k]!) := Lib.hid fun hb => by rw [HX.out] at hb; exact h3 hb.2
            clear h1 h2
            generalize cmpR x r = n at CO h3
            go_wp2
            refine late_S (S := fun V => Bel w V ∧ Bx V w.heap.size r) (fun V h => ⟨h.1.drew, h.2.next (Bel.refl _).drew⟩) K1.out ?_ rfl ?_
            kernel_rfl
            intro V hS0
            have hS := Lib.hid hS0
            clear hS0
            repeat' (first
              | ((first
                  | refine tkF (oi := ⟨some _, _, _, _, _, _⟩) rfl rfl (by kernel_rfl) (fun _ _ _ h => h) (Or.inl ⟨by rfl, by intro w' _; first | (go_simp; done) | (go_simp; with_reducible rfl)⟩) ?_
                  | refine tkN (oi := ⟨some _, _, _, _, _, _⟩) rfl rfl (by decide +kernel) (fun _ _ _ h => h) hS.out (Or.inl ⟨by rfl, by intro w' hSw; obtain ⟨e0, e1, e2, e3, e4, e5, e6, e7, e8, e9, e10, e11, e12, e13, e14, e15⟩ := H16.out _ hSw; first | (go_simp; done) | (go_simp; with_reducible rfl)⟩) ?_
                  | refine tkG (oi := ⟨_, _, _, _, _, _⟩) rfl rfl (by kernel_rfl) (fun _ _ _ h => h) (by rfl) ?_)
                 (try simp only [Act.put, seti, set0, setS]))
              | ((first | refine one (o := ⟨_, _, _, _, _, _⟩) rfl rfl (by kernel_rfl) (fun K hK => ?_) | refine two (o := ⟨_, _, _, _, _, _⟩) (o' := ⟨_, _, _, _, _, _⟩) rfl rfl rfl (by kernel_rfl) (fun K hK => ?_) (fun K hK => ?_))
                 all_goals (go_simp; first
                   | ((with_reducible refine (CO.out _ hS.out).mono ?_); rintro e V4 ⟨rfl, hS1⟩; refine hK.out _ _ (Or.inr fun _ => hS1) ?_; clear hK K hS; have hS := Lib.hid hS1; clear hS1; (try simp only [Act.put, seti, set0, setS]))))
              | refine done rfl (by kernel_rfl) ?_ _)
            all_goals
              go_wp2
              go_roundw
              case rel => exact ⟨k + 1, by omega, by go_num, fun j hj => by
                rcases Nat.lt_or_ge j k with h | h
                · exact N.out j h
                · rw [show j = k by omega]; exact NO.out, hS.out⟩
              case measure => simp [intOf]; omega
        · have q2 : (x.sq == r.sq) = false := by simp [h2]
          have NO : Hid (¬ beats r l[k]!) := Lib.hid fun hb => by rw [HX.out] at hb; exact h2 hb.1.2
          clear h1 h2
          go_wp2
          refine late_S (S := fun V => Bel w V ∧ Bx V w.heap.size r) (fun V h => ⟨h.1.drew, h.2.next (Bel.refl _).drew⟩) K1.out ?_ rfl ?_
          kernel_rfl
          intro V hS0
          have hS := Lib.hid hS0
          clear hS0
          repeat' (first
            | ((first
                | refine tkF (oi := ⟨some _, _, _, _, _, _⟩) rfl rfl (by kernel_rfl) (fun _ _ _ h => h) (Or.inl ⟨by rfl, by intro w' _; first | (go_simp; done) | (go_simp; with_reducible rfl)⟩) ?_
                | refine tkN (oi := ⟨some _, _, _, _, _, _⟩) rfl rfl (by decide +kernel) (fun _ _ _ h => h) hS.out (Or.inl ⟨by rfl, by intro w' hSw; obtain ⟨e0, e1, e2, e3, e4, e5, e6, e7, e8, e9, e10, e11, e12, e13, e14, e15⟩ := H16.out _ hSw; first | (go_simp; done) | (go_simp; with_reducible rfl)⟩) ?_
                | refine tkG (oi := ⟨_, _, _, _, _, _⟩) rfl rfl (by kernel_rfl) (fun _ _ _ h => h) (by rfl) ?_)
               (try simp only [Act.put, seti, set0, setS]))
            | ((first | refine one (o := ⟨_, _, _, _, _, _⟩) rfl rfl (by kernel_rfl) (fun K hK => ?_) | refine two (o := ⟨_, _, _, _, _, _⟩) (o' := ⟨_, _, _, _, _, _⟩) rfl rfl rfl (by kernel_rfl) (fun K hK => ?_) (fun K hK => ?_))
               all_goals (go_simp; first
                 | ((with_reducible refine (CO.out _ hS.out).mono ?_); rintro e V4 ⟨rfl, hS1⟩; refine hK.out _ _ (Or.inr fun _ => hS1) ?_; clear hK K hS; have hS := Lib.hid hS1; clear hS1; (try simp only [Act.put, seti, set0, setS]))))
            | refine done rfl (by kernel_rfl) ?_ _)
          all_goals
            go_wp2
            go_roundw
            case rel => exact ⟨k + 1, by omega, by go_num, fun j hj => by
              rcases Nat.lt_or_ge j k with h | h
              · exact N.out j h
              · rw [show j = k by omega]; exact NO.out, hS.out⟩
            case measure => simp [intOf]; omega
      · have q1 : (x.ob == r.ob) = false := by simp [h1]
        have NO : Hid (¬ beats r l[k]!) := Lib.hid fun hb => by rw [HX.out] at hb; exact h1 hb.1.1
        clear h1
        go_wp2
        refine late_S (S := fun V => Bel w V ∧ Bx V w.heap.size r) (fun V h => ⟨h.1.drew, h.2.next (Bel.refl _).drew⟩) K1.out ?_ rfl ?_
        kernel_rfl
        intro V hS0
        have hS := Lib.hid hS0
        clear hS0
        repeat' (first
          | ((first
              | refine tkF (oi := ⟨some _, _, _, _, _, _⟩) rfl rfl (by kernel_rfl) (fun _ _ _ h => h) (Or.inl ⟨by rfl, by intro w' _; first | (go_simp; done) | (go_simp; with_reducible rfl)⟩) ?_
              | refine tkN (oi := ⟨some _, _, _, _, _, _⟩) rfl rfl (by decide +kernel) (fun _ _ _ h => h) hS.out (Or.inl ⟨by rfl, by intro w' hSw; obtain ⟨e0, e1, e2, e3, e4, e5, e6, e7, e8, e9, e10, e11, e12, e13, e14, e15⟩ := H16.out _ hSw; first | (go_simp; done) | (go_simp; with_reducible rfl)⟩) ?_
              | refine tkG (oi := ⟨_, _, _, _, _, _⟩) rfl rfl (by kernel_rfl) (fun _ _ _ h => h) (by rfl) ?_)
             (try simp only [Act.put, seti, set0, setS]))
          | ((first | refine one (o := ⟨_, _, _, _, _, _⟩) rfl rfl (by kernel_rfl) (fun K hK => ?_) | refine two (o := ⟨_, _, _, _, _, _⟩) (o' := ⟨_, _, _, _, _, _⟩) rfl rfl rfl (by kernel_rfl) (fun K hK => ?_) (fun K hK => ?_))
             all_goals (go_simp; first
               | ((with_reducible refine (CO.out _ hS.out).mono ?_); rintro e V4 ⟨rfl, hS1⟩; refine hK.out _ _ (Or.inr fun _ => hS1) ?_; clear hK K hS; have hS := Lib.hid hS1; clear hS1; (try simp only [Act.put, seti, set0, setS]))))
          | refine done rfl (by kernel_rfl) ?_ _)
        all_goals
          go_wp2
          go_roundw
          case rel => exact ⟨k + 1, by omega, by go_num, fun j hj => by
            rcases Nat.lt_or_ge j k with h | h
            · exact N.out j h
            · rw [show j = k by omega]; exact NO.out, hS.out⟩
          case measure => simp [intOf]; omega
    · have hk8 : ¬ ((k : Int) < l.length) := by omega
      have R : Hid (res = true) := Lib.hid (HP.out.2 fun q hq hb => by
        obtain ⟨j, hj, e⟩ := mem_get hq
        exact N.out j (by omega) (by rw [e]; exact hb))
      go_wp2
      go_ret
      exact ⟨by rw [R.out]; rfl, K1.out.1⟩
end Go.Proofs.Ytdjgpbanokdnhaa.Pt
