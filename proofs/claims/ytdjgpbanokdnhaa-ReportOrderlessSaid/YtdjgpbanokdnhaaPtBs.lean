/-
  slices.BinarySearchFunc over a list of reports in order; report.without.
-/
import Derived.Test.YtdjgpbanokdnhaaPtBp
import Derived.Test.YtdjgpbanokdnhaaPtAd
namespace Go.Proofs.Ytdjgpbanokdnhaa.Pt
open Go.RowKit
attribute [local go_sem ↓] Go.wp_at_zero Go.wp_at_succ

/-- A function that hands back a number and whether it was found. -/
def RetF (w : World) (b : Bool) (e : Ending) (w' : World) : Prop := ∃ n : Int, e = .returned (.tuple #[.int .i64 n, .bool b]) ∧ Bel w w'
set_option maxHeartbeats 8000000 in
set_option maxRecDepth 100000 in
theorem bsearch_f (l : List Rep) (x : Rep) (v : Value) (w : World) (hv : IsL w v l) (hi : Inc l) (hb : l.length ≤ 1000000) :
    Calls Try.prog 62 #[v, agR x, .func (.func 17) #[] #[]] w (RetF w (decide (x ∈ l))) := by
  obtain ⟨p, cap, rfl, hc, hm, hl, _⟩ := hv
  unfold maxLen at hm
  have LA := Lib.hid hl
  have HI := Lib.hid hi
  have HE : Hid (∀ i, i ≤ l.length → (∀ k, k < i → cmpR l[k]! x < 0) → (∀ k, i ≤ k → k < l.length → 0 ≤ cmpR l[k]! x) → (x ∈ l ↔ (i < l.length ∧ cmpR l[i]! x = 0))) := Lib.hid fun i h1 h2 h3 => search_end h1 h2 (fun k hk hk2 => Int.not_lt.2 (h3 k hk hk2)) hi
  have HP : Hid (∀ c, decide (x ∈ l) = c ↔ (c = true ↔ x ∈ l)) := Lib.hid fun b => by cases b <;> simp
  generalize decide (x ∈ l) = res at HP ⊢
  have eg : ∀ args w, (callFunc 17 args).run Try.prog w = .ok (.enter 17 args) w := enters_of Try.func17 (by kernel_rfl) rfl
  clear hl hi
  go_enter Try.func62, Try.ntmps62
  go_wp2
  go_loopw [9, 10] (fun s9 s10 wr => ∃ lo hi : Nat, s9 = .int .i64 lo ∧ s10 = .int .i64 hi ∧ lo ≤ hi ∧ hi ≤ l.length ∧ (∀ k, k < lo → cmpR l[k]! x < 0) ∧ (∀ k, hi ≤ k → k < l.length → 0 ≤ cmpR l[k]! x) ∧ (Bel w wr ∧ Bx wr w.heap.size x)) (fun s9 s10 _ => (intOf s10).toNat - (intOf s9).toNat)
  case atStart => exact ⟨0, l.length, rfl, rfl, by omega, by omega, fun _ h => by omega, fun _ h1 h2 => by omega, Bel.new w _, heap_new w _⟩
  case round =>
    obtain ⟨lo, hi, rfl, rfl, hlh, hin, h1, h2, hS1⟩ := hrel
    have K1 := Lib.hid hS1
    have I1 := Lib.hid h1
    have I2 := Lib.hid h2
    clear h1 h2 hS1
    by_cases hlt : lo < hi
    · obtain ⟨m, hm0⟩ : ∃ m, (lo + hi) / 2 = m := ⟨_, rfl⟩
      have hml : m < l.length := by omega
      have hmz : ((lo : Int) + (hi : Int)) / 2 = (m : Int) := by omega
      have hm1 : lo ≤ m := by omega
      have hm2 : m < hi := by omega
      have hm8 : (m : Int) < l.length := by omega
      obtain ⟨g, o, rfl, hg, hat⟩ := isl_open LA.out hml
      have YC : Hid (∀ V, Bel w V → At8 V g (o + m * 8) l[m]!) := Lib.hid fun V hb => (hat.bel hg hb).at8 hml
      clear hat hg
      obtain ⟨y, hy⟩ : ∃ y, l[m]! = y := ⟨_, rfl⟩
      have HY := Lib.hid hy
      rw [hy] at YC
      have M0 := Lib.hid hm0
      clear hy hm0
      have CP : Hid (∀ V, Calls Try.prog 17 #[agR y, agR x] V (RetB V (.int .i64 (cmpR y x)))) := Lib.hid fun V => compare_f y x V
      have HC : Hid (∀ w', (Bel w w' ∧ Bx w' w.heap.size x) → w'.cell? ⟨g, o + m * 8, none⟩ = some (.int .i64 y.ob) ∧ w'.cell? ⟨g, o + m * 8 + 1, none⟩ = some (.int .i64 y.sq) ∧ w'.cell? ⟨g, o + m * 8 + 2, none⟩ = some (.int .i64 y.vs) ∧ w'.cell? ⟨g, o + m * 8 + 3, none⟩ = some (.int .i64 y.dv) ∧ w'.cell? ⟨g, o + m * 8 + 4, none⟩ = some (.int .i64 y.tm) ∧ w'.cell? ⟨g, o + m * 8 + 5, none⟩ = some (.int .i64 y.px) ∧ w'.cell? ⟨g, o + m * 8 + 6, none⟩ = some (.int .i64 y.py) ∧ w'.cell? ⟨g, o + m * 8 + 7, none⟩ = some (.bool y.cn) ∧ w'.cell? ⟨w.heap.size, 0, none⟩ = some (.int .i64 x.ob) ∧ w'.cell? ⟨w.heap.size, 1, none⟩ = some (.int .i64 x.sq) ∧ w'.cell? ⟨w.heap.size, 2, none⟩ = some (.int .i64 x.vs) ∧ w'.cell? ⟨w.heap.size, 3, none⟩ = some (.int .i64 x.dv) ∧ w'.cell? ⟨w.heap.size, 4, none⟩ = some (.int .i64 x.tm) ∧ w'.cell? ⟨w.heap.size, 5, none⟩ = some (.int .i64 x.px) ∧ w'.cell? ⟨w.heap.size, 6, none⟩ = some (.int .i64 x.py) ∧ w'.cell? ⟨w.heap.size, 7, none⟩ = some (.bool x.cn)) := Lib.hid fun w' h => kp16 (YC.out _ h.1) h.2.at8
      by_cases hyx : cmpR y x < 0
      · have J1 : Hid (∀ k, k < m + 1 → cmpR l[k]! x < 0) := Lib.hid fun k hk => inc_lt HI.out (i := k) (j := m) (by omega) hml (by rw [HY.out]; exact hyx)
        generalize cmpR y x = n1 at CP hyx
        have hn1 : decide (n1 < 0) = true := decide_eq_true hyx
        go_wp2
        refine late_S (S := fun V => Bel w V ∧ Bx V w.heap.size x) (fun V h => ⟨h.1.drew, h.2.next (Bel.refl _).drew⟩) K1.out ?_ rfl ?_
        kernel_rfl
        intro V4 hS0
        have hS := Lib.hid hS0
        clear hS0
        repeat' (first
          | ((first
              | refine tkF (oi := ⟨some _, _, _, _, _, _⟩) rfl rfl (by kernel_rfl) (fun _ _ _ h => h) (Or.inl ⟨by rfl, by intro w' _; first | (go_simp; done) | (go_simp; with_reducible rfl)⟩) ?_
              | refine tkN (oi := ⟨some _, _, _, _, _, _⟩) rfl rfl (by decide +kernel) (fun _ _ _ h => h) hS.out (Or.inl ⟨by rfl, by intro w' hSw; obtain ⟨y0, y1, y2, y3, y4, y5, y6, y7, x0, x1, x2, x3, x4, x5, x6, x7⟩ := HC.out _ hSw; first | (go_simp; done) | (go_simp; with_reducible rfl)⟩) ?_
              | refine tkG (oi := ⟨_, _, _, _, _, _⟩) rfl rfl (by kernel_rfl) (fun _ _ _ h => h) (by rfl) ?_)
             (try simp only [Act.put, seti, set0, setS]))
          | ((first | refine one (o := ⟨_, _, _, _, _, _⟩) rfl rfl (by kernel_rfl) (fun K hK => ?_) | refine two (o := ⟨_, _, _, _, _, _⟩) (o' := ⟨_, _, _, _, _, _⟩) rfl rfl rfl (by kernel_rfl) (fun K hK => ?_) (fun K hK => ?_))
             all_goals (go_simp; first
               | ((with_reducible refine (CP.out _).mono ?_); rintro e V4 ⟨rfl, hb2⟩; refine hK.out _ _ (Or.inr fun _ => ⟨hS.out.1.trans hb2, hS.out.2.next hb2⟩) ?_; replace hS := Lib.hid (And.intro (hS.out.1.trans hb2) (hS.out.2.next hb2)); clear hK K hb2; (try simp only [Act.put, seti, set0, setS]))
               | (refine hK.out _ _ (Or.inr fun h => h) ?_; clear hK K; (try simp only [Act.put, seti, set0, setS]))))
          | refine done rfl (by kernel_rfl) ?_ _)
        all_goals
          go_wp2
          go_roundw
          case rel => exact ⟨m + 1, hi, by go_num, rfl, by omega, by omega, J1.out, I2.out, hS.out⟩
          case measure => simp [intOf]; omega
      · have J2 : Hid (∀ k, m ≤ k → k < l.length → 0 ≤ cmpR l[k]! x) := Lib.hid fun k hk hk2 => Int.not_lt.1 (inc_ge HI.out (i := m) (j := k) hk hk2 (by rw [HY.out]; exact hyx))
        generalize cmpR y x = n1 at CP hyx
        have hn1 : decide (n1 < 0) = false := decide_eq_false hyx
        have hn2 : (0 : Int) ≤ n1 := by omega
        clear hyx
        go_wp2
        refine late_S (S := fun V => Bel w V ∧ Bx V w.heap.size x) (fun V h => ⟨h.1.drew, h.2.next (Bel.refl _).drew⟩) K1.out ?_ rfl ?_
        kernel_rfl
        intro V4 hS0
        have hS := Lib.hid hS0
        clear hS0
        repeat' (first
          | ((first
              | refine tkF (oi := ⟨some _, _, _, _, _, _⟩) rfl rfl (by kernel_rfl) (fun _ _ _ h => h) (Or.inl ⟨by rfl, by intro w' _; first | (go_simp; done) | (go_simp; with_reducible rfl)⟩) ?_
              | refine tkN (oi := ⟨some _, _, _, _, _, _⟩) rfl rfl (by decide +kernel) (fun _ _ _ h => h) hS.out (Or.inl ⟨by rfl, by intro w' hSw; obtain ⟨y0, y1, y2, y3, y4, y5, y6, y7, x0, x1, x2, x3, x4, x5, x6, x7⟩ := HC.out _ hSw; first | (go_simp; done) | (go_simp; with_reducible rfl)⟩) ?_
              | refine tkG (oi := ⟨_, _, _, _, _, _⟩) rfl rfl (by kernel_rfl) (fun _ _ _ h => h) (by rfl) ?_)
             (try simp only [Act.put, seti, set0, setS]))
          | ((first | refine one (o := ⟨_, _, _, _, _, _⟩) rfl rfl (by kernel_rfl) (fun K hK => ?_) | refine two (o := ⟨_, _, _, _, _, _⟩) (o' := ⟨_, _, _, _, _, _⟩) rfl rfl rfl (by kernel_rfl) (fun K hK => ?_) (fun K hK => ?_))
             all_goals (go_simp; first
               | ((with_reducible refine (CP.out _).mono ?_); rintro e V4 ⟨rfl, hb2⟩; refine hK.out _ _ (Or.inr fun _ => ⟨hS.out.1.trans hb2, hS.out.2.next hb2⟩) ?_; replace hS := Lib.hid (And.intro (hS.out.1.trans hb2) (hS.out.2.next hb2)); clear hK K hb2; (try simp only [Act.put, seti, set0, setS]))
               | (refine hK.out _ _ (Or.inr fun h => h) ?_; clear hK K; (try simp only [Act.put, seti, set0, setS]))))
          | refine done rfl (by kernel_rfl) ?_ _)
        all_goals
          go_wp2
          go_roundw
          case rel => exact ⟨lo, m, rfl, rfl, by omega, by omega, I1.out, J2.out, hS.out⟩
          case measure => simp [intOf]; omega
    · obtain rfl : lo = hi := by omega
      have hlh' : ¬ ((lo : Int) < (lo : Int)) := by omega
      have E := Lib.hid (HE.out lo hin I1.out I2.out)
      by_cases hln : lo < l.length
      · have hl8 : (lo : Int) < l.length := by omega
        obtain ⟨g, o, rfl, hg, hat⟩ := isl_open LA.out hln
        have YC : Hid (∀ V, Bel w V → At8 V g (o + lo * 8) l[lo]!) := Lib.hid fun V hb => (hat.bel hg hb).at8 hln
        clear hat hg
        obtain ⟨y, hy⟩ : ∃ y, l[lo]! = y := ⟨_, rfl⟩
        rw [hy] at YC
        have E2 : Hid (x ∈ l ↔ cmpR y x = 0) := Lib.hid (by rw [E.out, hy]; exact ⟨And.right, fun h => ⟨hln, h⟩⟩)
        clear hy E
        have CP : Hid (∀ V, Calls Try.prog 17 #[agR y, agR x] V (RetB V (.int .i64 (cmpR y x)))) := Lib.hid fun V => compare_f y x V
        have HC : Hid (∀ w', (Bel w w' ∧ Bx w' w.heap.size x) → w'.cell? ⟨g, o + lo * 8, none⟩ = some (.int .i64 y.ob) ∧ w'.cell? ⟨g, o + lo * 8 + 1, none⟩ = some (.int .i64 y.sq) ∧ w'.cell? ⟨g, o + lo * 8 + 2, none⟩ = some (.int .i64 y.vs) ∧ w'.cell? ⟨g, o + lo * 8 + 3, none⟩ = some (.int .i64 y.dv) ∧ w'.cell? ⟨g, o + lo * 8 + 4, none⟩ = some (.int .i64 y.tm) ∧ w'.cell? ⟨g, o + lo * 8 + 5, none⟩ = some (.int .i64 y.px) ∧ w'.cell? ⟨g, o + lo * 8 + 6, none⟩ = some (.int .i64 y.py) ∧ w'.cell? ⟨g, o + lo * 8 + 7, none⟩ = some (.bool y.cn) ∧ w'.cell? ⟨w.heap.size, 0, none⟩ = some (.int .i64 x.ob) ∧ w'.cell? ⟨w.heap.size, 1, none⟩ = some (.int .i64 x.sq) ∧ w'.cell? ⟨w.heap.size, 2, none⟩ = some (.int .i64 x.vs) ∧ w'.cell? ⟨w.heap.size, 3, none⟩ = some (.int .i64 x.dv) ∧ w'.cell? ⟨w.heap.size, 4, none⟩ = some (.int .i64 x.tm) ∧ w'.cell? ⟨w.heap.size, 5, none⟩ = some (.int .i64 x.px) ∧ w'.cell? ⟨w.heap.size, 6, none⟩ = some (.int .i64 x.py) ∧ w'.cell? ⟨w.heap.size, 7, none⟩ = some (.bool x.cn)) := Lib.hid fun w' h => kp16 (YC.out _ h.1) h.2.at8
        by_cases he : cmpR y x = 0
        · have R : Hid (res = true) := Lib.hid ((HP.out true).2 ⟨fun _ => E2.out.2 he, fun _ => rfl⟩)
          generalize cmpR y x = n1 at CP he
          have hn1 : (n1 == 0) = true := by simp [he]
          clear he E2
          go_wp2
          refine late_S (S := fun V => Bel w V ∧ Bx V w.heap.size x) (fun V h => ⟨h.1.drew, h.2.next (Bel.refl _).drew⟩) K1.out ?_ rfl ?_
          kernel_rfl
          intro V4 hS0
          have hS := Lib.hid hS0
          clear hS0
          repeat' (first
            | ((first
                | refine tkF (oi := ⟨some _, _, _, _, _, _⟩) rfl rfl (by kernel_rfl) (fun _ _ _ h => h) (Or.inl ⟨by rfl, by intro w' _; first | (go_simp; done) | (go_simp; with_reducible rfl)⟩) ?_
                | refine tkN (oi := ⟨some _, _, _, _, _, _⟩) rfl rfl (by decide +kernel) (fun _ _ _ h => h) hS.out (Or.inl ⟨by rfl, by intro w' hSw; obtain ⟨y0, y1, y2, y3, y4, y5, y6, y7, x0, x1, x2, x3, x4, x5, x6, x7⟩ := HC.out _ hSw; first | (go_simp; done) | (go_simp; with_reducible rfl)⟩) ?_
                | refine tkG (oi := ⟨_, _, _, _, _, _⟩) rfl rfl (by kernel_rfl) (fun _ _ _ h => h) (by rfl) ?_)
               (try simp only [Act.put, seti, set0, setS]))
            | ((first | refine one (o := ⟨_, _, _, _, _, _⟩) rfl rfl (by kernel_rfl) (fun K hK => ?_) | refine two (o := ⟨_, _, _, _, _, _⟩) (o' := ⟨_, _, _, _, _, _⟩) rfl rfl rfl (by kernel_rfl) (fun K hK => ?_) (fun K hK => ?_))
               all_goals (go_simp; first
                 | ((with_reducible refine (CP.out _).mono ?_); rintro e V4 ⟨rfl, hb2⟩; refine hK.out _ _ (Or.inr fun _ => ⟨hS.out.1.trans hb2, hS.out.2.next hb2⟩) ?_; replace hS := Lib.hid (And.intro (hS.out.1.trans hb2) (hS.out.2.next hb2)); clear hK K hb2; (try simp only [Act.put, seti, set0, setS]))
                 | (refine hK.out _ _ (Or.inr fun h => h) ?_; clear hK K; (try simp only [Act.put, seti, set0, setS]))))
            | refine done rfl (by kernel_rfl) ?_ _)
          all_goals
            go_wp2
            go_ret2
            exact ⟨_, by rw [R.out]; rfl, hS.out.1⟩
        · have R : Hid (res = false) := Lib.hid ((HP.out false).2 ⟨fun h => (by cases h), fun h => absurd (E2.out.1 h) he⟩)
          generalize cmpR y x = n1 at CP he
          have hn1 : (n1 == 0) = false := by simp [he]
          clear he E2
          go_wp2
          refine late_S (S := fun V => Bel w V ∧ Bx V w.heap.size x) (fun V h => ⟨h.1.drew, h.2.next (Bel.refl _).drew⟩) K1.out ?_ rfl ?_
          kernel_rfl
          intro V4 hS0
          have hS := Lib.hid hS0
          clear hS0
          repeat' (first
            | ((first
                | refine tkF (oi := ⟨some _, _, _, _, _, _⟩) rfl rfl (by kernel_rfl) (fun _ _ _ h => h) (Or.inl ⟨by rfl, by intro w' _; first | (go_simp; done) | (go_simp; with_reducible rfl)⟩) ?_
                | refine tkN (oi := ⟨some _, _, _, _, _, _⟩) rfl rfl (by decide +kernel) (fun _ _ _ h => h) hS.out (Or.inl ⟨by rfl, by intro w' hSw; obtain ⟨y0, y1, y2, y3, y4, y5, y6, y7, x0, x1, x2, x3, x4, x5, x6, x7⟩ := HC.out _ hSw; first | (go_simp; done) | (go_simp; with_reducible rfl)⟩) ?_
                | refine tkG (oi := ⟨_, _, _, _, _, _⟩) rfl rfl (by kernel_rfl) (fun _ _ _ h => h) (by rfl) ?_)
               (try simp only [Act.put, seti, set0, setS]))
            | ((first | refine one (o := ⟨_, _, _, _, _, _⟩) rfl rfl (by kernel_rfl) (fun K hK => ?_) | refine two (o := ⟨_, _, _, _, _, _⟩) (o' := ⟨_, _, _, _, _, _⟩) rfl rfl rfl (by kernel_rfl) (fun K hK => ?_) (fun K hK => ?_))
               all_goals (go_simp; first
                 | ((with_reducible refine (CP.out _).mono ?_); rintro e V4 ⟨rfl, hb2⟩; refine hK.out _ _ (Or.inr fun _ => ⟨hS.out.1.trans hb2, hS.out.2.next hb2⟩) ?_; replace hS := Lib.hid (And.intro (hS.out.1.trans hb2) (hS.out.2.next hb2)); clear hK K hb2; (try simp only [Act.put, seti, set0, setS]))
                 | (refine hK.out _ _ (Or.inr fun h => h) ?_; clear hK K; (try simp only [Act.put, seti, set0, setS]))))
            | refine done rfl (by kernel_rfl) ?_ _)
          all_goals
            go_wp2
            go_ret2
            exact ⟨_, by rw [R.out]; rfl, hS.out.1⟩
      · have hl8 : ¬ ((lo : Int) < l.length) := by omega
        have hl9 : decide ((lo : Int) < l.length) = false := decide_eq_false hl8
        have hl11 : decide (lo < l.length) = false := decide_eq_false hln
        have hl12 : l.length ≤ lo := by omega
        have R : Hid (res = false) := Lib.hid ((HP.out false).2 ⟨fun h => (by cases h), fun h => absurd (E.out.1 h).1 hln⟩)
        have HC := Lib.hid (fun (w' : World) (_ : Bel w w' ∧ Bx w' w.heap.size x) => (⟨trivial, trivial⟩ : True ∧ True))
        have CP := Lib.hid (fun (V : World) => compare_f x x V)
        clear hln E
        go_wp2
        refine late_S (S := fun V => Bel w V ∧ Bx V w.heap.size x) (fun V h => ⟨h.1.drew, h.2.next (Bel.refl _).drew⟩) K1.out ?_ rfl ?_
        kernel_rfl
        intro V4 hS0
        have hS := Lib.hid hS0
        clear hS0
        repeat' (first
          | ((first
              | refine tkF (oi := ⟨some _, _, _, _, _, _⟩) rfl rfl (by kernel_rfl) (fun _ _ _ h => h) (Or.inl ⟨by rfl, by intro w' _; first | (go_simp; done) | (go_simp; with_reducible rfl)⟩) ?_
              | refine tkN (oi := ⟨some _, _, _, _, _, _⟩) rfl rfl (by decide +kernel) (fun _ _ _ h => h) hS.out (Or.inl ⟨by rfl, by intro w' hSw; obtain ⟨t1, t2⟩ := HC.out _ hSw; first | (go_simp; done) | (go_simp; with_reducible rfl)⟩) ?_
              | refine tkG (oi := ⟨_, _, _, _, _, _⟩) rfl rfl (by kernel_rfl) (fun _ _ _ h => h) (by rfl) ?_)
             (try simp only [Act.put, seti, set0, setS]))
          | ((first | refine one (o := ⟨_, _, _, _, _, _⟩) rfl rfl (by kernel_rfl) (fun K hK => ?_) | refine two (o := ⟨_, _, _, _, _, _⟩) (o' := ⟨_, _, _, _, _, _⟩) rfl rfl rfl (by kernel_rfl) (fun K hK => ?_) (fun K hK => ?_))
             all_goals (go_simp; first
               | ((with_reducible refine (CP.out _).mono ?_); rintro e V4 ⟨rfl, hb2⟩; refine hK.out _ _ (Or.inr fun _ => ⟨hS.out.1.trans hb2, hS.out.2.next hb2⟩) ?_; replace hS := Lib.hid (And.intro (hS.out.1.trans hb2) (hS.out.2.next hb2)); clear hK K hb2; (try simp only [Act.put, seti, set0, setS]))
               | (refine hK.out _ _ (Or.inr fun h => h) ?_; clear hK K; (try simp only [Act.put, seti, set0, setS]))))
          | refine done rfl (by kernel_rfl) ?_ _)
        all_goals
          go_wp2
          go_ret2
          exact ⟨_, by rw [R.out]; rfl, hS.out.1⟩
end Go.Proofs.Ytdjgpbanokdnhaa.Pt
