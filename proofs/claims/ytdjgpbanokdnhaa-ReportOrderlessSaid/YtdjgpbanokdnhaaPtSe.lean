/-
  The reference's set.
-/
import Derived.Test.YtdjgpbanokdnhaaPtWn
import Derived.Test.YtdjgpbanokdnhaaPtF
import Derived.Test.YtdjgpbanokdnhaaPtSp
namespace Go.Proofs.Ytdjgpbanokdnhaa.Pt
open Go.RowKit
attribute [local go_sem ↓] Go.wp_at_zero Go.wp_at_succ

/-- What the inner loop knows of the first i reports: whether one of them comes next, and which is the least. -/
def Nx (l s : List Rep) (m i : Nat) (f : Bool) (x : Rep) : Prop :=
  (f = false ∧ ∀ j, j < i → ¬ gtP s m l[j]!) ∨ (f = true ∧ x ∈ l ∧ gtP s m x ∧ ∀ j, j < i → gtP s m l[j]! → cmpR x l[j]! ≤ 0)
theorem below_next {i j : Nat} (h : j < i + 1) : j < i ∨ j = i := by omega
theorem nx_skip {l s : List Rep} {m i : Nat} {f : Bool} {x : Rep} (h : Nx l s m i f x) (hn : ¬ gtP s m l[i]!) : Nx l s m (i + 1) f x := by
  rcases h with ⟨h1, h2⟩ | ⟨h1, h2, h3, h4⟩
  · refine .inl ⟨h1, fun j hj => ?_⟩
    rcases below_next hj with h | rfl
    · exact h2 j h
    · exact hn
  · refine .inr ⟨h1, h2, h3, fun j hj => ?_⟩
    rcases below_next hj with h | rfl
    · exact h4 j h
    · exact fun hg => absurd hg hn
theorem nx_first {l s : List Rep} {m i : Nat} {x : Rep} (h : Nx l s m i false x) (hi : i < l.length) (hg : gtP s m l[i]!) : Nx l s m (i + 1) true l[i]! := by
  rcases h with ⟨_, h2⟩ | ⟨h1, _⟩
  · refine .inr ⟨rfl, get_mem hi, hg, fun j hj hgj => ?_⟩
    rcases below_next hj with h | rfl
    · exact absurd hgj (h2 j h)
    · rw [cmpR_self]; omega
  · cases h1
theorem nx_less {l s : List Rep} {m i : Nat} {x : Rep} (h : Nx l s m i true x) (hi : i < l.length) (hg : gtP s m l[i]!) (hl : cmpR l[i]! x < 0) : Nx l s m (i + 1) true l[i]! := by
  rcases h with ⟨h1, _⟩ | ⟨_, h2, h3, h4⟩
  · cases h1
  · refine .inr ⟨rfl, get_mem hi, hg, fun j hj hgj => ?_⟩
    rcases below_next hj with h | rfl
    · exact cmpR_le (by omega) (h4 j h hgj)
    · rw [cmpR_self]; omega
theorem nx_more {l s : List Rep} {m i : Nat} {x : Rep} (h : Nx l s m i true x) (hl : ¬ cmpR l[i]! x < 0) : Nx l s m (i + 1) true x := by
  rcases h with ⟨h1, _⟩ | ⟨_, h2, h3, h4⟩
  · cases h1
  · refine .inr ⟨rfl, h2, h3, fun j hj hgj => ?_⟩
    rcases below_next hj with h | rfl
    · exact h4 j h hgj
    · have := cmpR_neg l[j]! x
      omega
theorem nx_no {l : List Rep} {m i : Nat} {x : Rep} (h : Nx l (setL l) m i false x) (hm : m ≤ (setL l).length) (hi : i = l.length) : m = (setL l).length := by
  rcases h with ⟨_, h2⟩ | ⟨h1, _⟩
  · refine set_done hm fun y hy => ?_
    obtain ⟨j, hj, e⟩ := mem_get hy
    rw [← e]
    exact h2 j (by omega)
  · cases h1
theorem nx_yes {l : List Rep} {m i : Nat} {x : Rep} (h : Nx l (setL l) m i true x) (hm : m ≤ (setL l).length) (hi : i = l.length) : m < (setL l).length ∧ (setL l)[m]! = x := by
  rcases h with ⟨h1, _⟩ | ⟨_, h2, h3, h4⟩
  · cases h1
  · refine set_found hm h2 h3 fun y hy hg => ?_
    obtain ⟨j, hj, e⟩ := mem_get hy
    rw [← e] at hg ⊢
    exact h4 j (by omega) hg
theorem take_one {s : List Rep} {m : Nat} (h : m < s.length) : s.take (m + 1) = s.take m ++ [s[m]!] := by
  rw [List.take_succ_eq_append_getElem h, getElem!_pos s m h]
theorem take_len {s : List Rep} {m : Nat} (h : m ≤ s.length) : (s.take m).length = m := by
  rw [List.length_take]
  omega
theorem row_zero (w : World) : Row w (w.alloc (.cells #[.int .i64 0, .int .i64 0, .int .i64 0, .int .i64 0, .int .i64 0, .int .i64 0, .int .i64 0, .bool false] 23)) w.heap.size 1 1 [zR] := ⟨rfl, Nat.le_refl _, Nat.le_refl _, by decide, _, heap_new w _, rfl, rfl⟩
def lenV : Value → Nat
  | .slice _ n _ => n
  | _ => 0
theorem row_at8 {w V : World} {g : Nat} {x : Rep} (h : Row w V g 1 1 [x]) : V.cell? ⟨g, 0, none⟩ = some (.int .i64 x.ob) ∧ V.cell? ⟨g, 1, none⟩ = some (.int .i64 x.sq) ∧ V.cell? ⟨g, 2, none⟩ = some (.int .i64 x.vs) ∧ V.cell? ⟨g, 3, none⟩ = some (.int .i64 x.dv) ∧
    V.cell? ⟨g, 4, none⟩ = some (.int .i64 x.tm) ∧ V.cell? ⟨g, 5, none⟩ = some (.int .i64 x.px) ∧ V.cell? ⟨g, 6, none⟩ = some (.int .i64 x.py) ∧ V.cell? ⟨g, 7, none⟩ = some (.bool x.cn) := by
  have := h.at'.c8 (i := 0) (by simp)
  exact this
theorem row_put1 {w V : World} {g : Nat} {x : Rep} (h : Row w V g 1 1 [x]) (hb : Bel w V) (y : Rep) :
    Row w ((((((((V.setCell ⟨g, 0, none⟩ (.int .i64 y.ob)).setCell ⟨g, 1, none⟩ (.int .i64 y.sq)).setCell ⟨g, 2, none⟩ (.int .i64 y.vs)).setCell ⟨g, 3, none⟩ (.int .i64 y.dv)).setCell ⟨g, 4, none⟩ (.int .i64 y.tm)).setCell ⟨g, 5, none⟩ (.int .i64 y.px)).setCell ⟨g, 6, none⟩ (.int .i64 y.py)).setCell ⟨g, 7, none⟩ (.bool y.cn)).drew g 1 1 [y] ∧
    Bel w ((((((((V.setCell ⟨g, 0, none⟩ (.int .i64 y.ob)).setCell ⟨g, 1, none⟩ (.int .i64 y.sq)).setCell ⟨g, 2, none⟩ (.int .i64 y.vs)).setCell ⟨g, 3, none⟩ (.int .i64 y.dv)).setCell ⟨g, 4, none⟩ (.int .i64 y.tm)).setCell ⟨g, 5, none⟩ (.int .i64 y.px)).setCell ⟨g, 6, none⟩ (.int .i64 y.py)).setCell ⟨g, 7, none⟩ (.bool y.cn)).drew := by
  have hp := h.put hb (k := 0) (by omega) y
  exact ⟨Row.bel (m := [y]) hp.1 (Bel.refl _).drew, hp.2.1.drew⟩
theorem kp24 {a0 b0 c0 a1 b1 c1 a2 b2 c2 a3 b3 c3 a4 b4 c4 a5 b5 c5 a6 b6 c6 a7 b7 c7 : Prop} : (a0 ∧ a1 ∧ a2 ∧ a3 ∧ a4 ∧ a5 ∧ a6 ∧ a7) → (b0 ∧ b1 ∧ b2 ∧ b3 ∧ b4 ∧ b5 ∧ b6 ∧ b7) → (c0 ∧ c1 ∧ c2 ∧ c3 ∧ c4 ∧ c5 ∧ c6 ∧ c7) → a0 ∧ a1 ∧ a2 ∧ a3 ∧ a4 ∧ a5 ∧ a6 ∧ a7 ∧ b0 ∧ b1 ∧ b2 ∧ b3 ∧ b4 ∧ b5 ∧ b6 ∧ b7 ∧ c0 ∧ c1 ∧ c2 ∧ c3 ∧ c4 ∧ c5 ∧ c6 ∧ c7 :=
  fun ⟨h1, h2, h3, h4, h5, h6, h7, h8⟩ ⟨i1, i2, i3, i4, i5, i6, i7, i8⟩ h9 => ⟨h1, h2, h3, h4, h5, h6, h7, h8, i1, i2, i3, i4, i5, i6, i7, i8, h9⟩

set_option maxHeartbeats 8000000 in
set_option maxRecDepth 100000 in
/-- A round of the inner loop, the list of what came out as a slice s3. -/
theorem lset_f (l : List Rep) (v : Value) (w : World) (hv : IsL w v l) (hb : l.length ≤ 1000000) : Calls Try.prog 21 #[v] w (RetP w fun x W => Own w W x (setL l)) := by
  obtain ⟨p, cap, rfl, hc, hm, hl, _⟩ := hv
  unfold maxLen at hm
  have LA := Lib.hid hl
  have SL := Lib.hid (setL_len l)
  have NO := Lib.hid (fun m i x (h : Nx l (setL l) m i false x) => nx_no h)
  have YES := Lib.hid (fun m i x (h : Nx l (setL l) m i true x) => nx_yes h)
  clear hl
  generalize setL l = s at SL NO YES ⊢
  go_enter Try.func21, Try.ntmps21
  go_wp2
  go_loopw [3] (fun s3 wr => ∃ (m : Nat) (p3 : Option Addr) (c3 : Nat), m ≤ s.length ∧ s3 = .slice p3 m c3 ∧ Own w wr s3 (s.take m) ∧ Bel w wr) (fun s3 _ => l.length + 1 - lenV s3)
  case atStart => exact ⟨0, none, 0, by omega, rfl, Own.nil _ _, Bel.refl w⟩
  case round =>
    rename World => w1
    obtain ⟨m, p3, c3, hms, rfl, hown, hbl⟩ := hrel
    have O := Lib.hid hown
    have B := Lib.hid hbl
    have hml : (m : Int) ≤ l.length := by have := SL.out; omega
    have MS := Lib.hid hms
    have R0 := Lib.hid (row_zero w1)
    have B0 := Lib.hid (Bel.new w1 (.cells #[.int .i64 0, .int .i64 0, .int .i64 0, .int .i64 0, .int .i64 0, .int .i64 0, .int .i64 0, .bool false] 23))
    clear hown hbl hms
    go_wp2
    clear hml
    go_loopw [4, 6] (fun s4 s6 wx => ∃ (k : Nat) (f : Bool) (x : Rep), k ≤ l.length ∧ s4 = .bool f ∧ s6 = .int .i64 k ∧ Nx l s m k f x ∧ Row w1 wx w1.heap.size 1 1 [x] ∧ Bel w1 wx) (fun _ s6 _ => l.length - (intOf s6).toNat)
    case atStart => exact ⟨0, false, zR, by omega, rfl, rfl, .inl ⟨rfl, fun _ h => by omega⟩, R0.out, B0.out⟩
    case round =>
      obtain ⟨k, f, x, hk, rfl, rfl, hnx, hrow, hbx⟩ := hrel
      have NX := Lib.hid hnx
      have K1 := Lib.hid (And.intro hbx hrow)
      clear hnx hrow hbx R0 B0
      by_cases hlt : k < l.length
      · obtain ⟨g, o, rfl, hg, hat⟩ := isl_open LA.out hlt
        have YC : Hid (∀ V, Bel w1 V → At8 V g (o + k * 8) l[k]!) := Lib.hid fun V hb => (hat.bel hg (B.out.trans hb)).at8 hlt
        have hk8 : (k : Int) < l.length := by omega
        clear hat hg
        obtain ⟨y, hy⟩ : ∃ y, l[k]! = y := ⟨_, rfl⟩
        have HY := Lib.hid hy
        rw [hy] at YC
        clear hy

        by_cases hm0 : m = 0
        · have G : Hid (gtP s m y) := Lib.hid (.inl hm0)
          have hmz : ((m : Int) == 0) = true := by simp [hm0]
          clear hm0
          have C2 : Hid (∀ V, (Bel w1 V ∧ Row w1 V w1.heap.size 1 1 [x]) → Calls Try.prog 18 #[agR y, agR x] V (fun e V' => e = .returned (.int .i64 (cmpR y x)) ∧ (Bel w1 V' ∧ Row w1 V' w1.heap.size 1 1 [x]))) := Lib.hid fun V h => (lcompare_f y x V).mono fun e V' ⟨h1, h2⟩ => ⟨h1, h.1.trans h2, h.2.bel h2⟩
          have C1 := C2
          have HC : Hid (∀ w', (Bel w1 w' ∧ Row w1 w' w1.heap.size 1 1 [x]) → w'.cell? ⟨g, o + k * 8, none⟩ = some (.int .i64 y.ob) ∧ w'.cell? ⟨g, o + k * 8 + 1, none⟩ = some (.int .i64 y.sq) ∧ w'.cell? ⟨g, o + k * 8 + 2, none⟩ = some (.int .i64 y.vs) ∧ w'.cell? ⟨g, o + k * 8 + 3, none⟩ = some (.int .i64 y.dv) ∧ w'.cell? ⟨g, o + k * 8 + 4, none⟩ = some (.int .i64 y.tm) ∧ w'.cell? ⟨g, o + k * 8 + 5, none⟩ = some (.int .i64 y.px) ∧ w'.cell? ⟨g, o + k * 8 + 6, none⟩ = some (.int .i64 y.py) ∧ w'.cell? ⟨g, o + k * 8 + 7, none⟩ = some (.bool y.cn) ∧ w'.cell? ⟨w1.heap.size, 0, none⟩ = some (.int .i64 x.ob) ∧ w'.cell? ⟨w1.heap.size, 1, none⟩ = some (.int .i64 x.sq) ∧ w'.cell? ⟨w1.heap.size, 2, none⟩ = some (.int .i64 x.vs) ∧ w'.cell? ⟨w1.heap.size, 3, none⟩ = some (.int .i64 x.dv) ∧ w'.cell? ⟨w1.heap.size, 4, none⟩ = some (.int .i64 x.tm) ∧ w'.cell? ⟨w1.heap.size, 5, none⟩ = some (.int .i64 x.px) ∧ w'.cell? ⟨w1.heap.size, 6, none⟩ = some (.int .i64 x.py) ∧ w'.cell? ⟨w1.heap.size, 7, none⟩ = some (.bool x.cn)) := Lib.hid fun w' h => kp16 (YC.out _ h.1) (row_at8 h.2)
          cases f
          · have NN : Hid (Nx l s m (k + 1) true y) := Lib.hid (by have := nx_first NX.out hlt (by rw [HY.out]; exact G.out); rw [HY.out] at this; exact this)
            go_wp2
            refine late_S (S := fun V => Bel w1 V ∧ Row w1 V w1.heap.size 1 1 [x]) (fun V h => ⟨h.1.drew, h.2.bel (Bel.refl _).drew⟩) K1.out ?_ rfl ?_
            kernel_rfl
            intro V hS0
            have hS := Lib.hid hS0
            clear hS0
            repeat' (first
              | ((first
                  | refine tkF (oi := ⟨some _, _, _, _, _, _⟩) rfl rfl (by kernel_rfl) (fun _ _ _ h => h) (Or.inl ⟨by rfl, by intro w' _; first | (go_simp; done) | (go_simp; with_reducible rfl)⟩) ?_
                  | refine tkN (oi := ⟨some _, _, _, _, _, _⟩) rfl rfl (by decide +kernel) (fun _ _ _ h => h) hS.out (Or.inl ⟨by rfl, by intro w' hSw; obtain ⟨y0, y1, y2, y3, y4, y5, y6, y7, x0, x1, x2, x3, x4, x5, x6, x7⟩ := HC.out _ hSw; first | (go_simp; done) | (go_simp; with_reducible rfl)⟩) ?_
                  | refine tkG (oi := ⟨_, _, _, _, _, _⟩) rfl rfl (by kernel_rfl) (fun _ _ _ h => h) (by rfl) ?_)
                 (try simp only [Act.put, seti, set0, setS]))
              | ((first | refine one (o := ⟨_, _, _, _, _, _⟩) rfl rfl (by kernel_rfl) (fun K hK => ?_) | refine two (o := ⟨_, _, _, _, _, _⟩) (o' := ⟨_, _, _, _, _, _⟩) rfl rfl rfl (by kernel_rfl) (fun K hK => ?_) (fun K hK => ?_))
                 all_goals (go_simp; first
                   | ((with_reducible refine (C1.out _ hS.out).mono ?_); rintro e V4 ⟨rfl, hS1⟩; refine hK.out _ _ (Or.inr fun _ => hS1) ?_; clear hK K hS; have hS := Lib.hid hS1; clear hS1; (try simp only [Act.put, seti, set0, setS]))
                   | ((with_reducible refine (C2.out _ hS.out).mono ?_); rintro e V4 ⟨rfl, hS1⟩; refine hK.out _ _ (Or.inr fun _ => hS1) ?_; clear hK K hS; have hS := Lib.hid hS1; clear hS1; (try simp only [Act.put, seti, set0, setS]))
                   | (refine hK.out _ _ (Or.inr fun h => h) ?_; clear hK K; (try simp only [Act.put, seti, set0, setS]))))
              | refine done rfl (by kernel_rfl) ?_ _)
            all_goals
              obtain ⟨B1, R1⟩ := hS.out
              have B2 := Lib.hid B1
              have R2 := Lib.hid R1
              clear B1 R1 C1 C2
              obtain ⟨y0, y1, y2, y3, y4, y5, y6, y7⟩ := YC.out _ B2.out
              obtain ⟨x0, x1, x2, x3, x4, x5, x6, x7⟩ := row_at8 R2.out
              have f0 := R2.out.fro 0
              have f1 := R2.out.fro 1
              have f2 := R2.out.fro 2
              have f3 := R2.out.fro 3
              have f4 := R2.out.fro 4
              have f5 := R2.out.fro 5
              have f6 := R2.out.fro 6
              have f7 := R2.out.fro 7
              go_wp2
              trace_state
              go_region
              all_goals
                go_wp2
                go_roundw
                case rel =>
                  have hp := row_put1 R2.out B2.out y
                  exact ⟨k + 1, true, y, by omega, rfl, by go_num, NN.out, hp.1, hp.2⟩
                case measure => simp [intOf]; omega
          · by_cases hl : cmpR y x < 0
            · have NN : Hid (Nx l s m (k + 1) true y) := Lib.hid (by have := nx_less NX.out hlt (by rw [HY.out]; exact G.out) (by rw [HY.out]; exact hl); rw [HY.out] at this; exact this)
              generalize cmpR y x = n2 at C1 C2 hl
              go_wp2
              refine late_S (S := fun V => Bel w1 V ∧ Row w1 V w1.heap.size 1 1 [x]) (fun V h => ⟨h.1.drew, h.2.bel (Bel.refl _).drew⟩) K1.out ?_ rfl ?_
              kernel_rfl
              intro V hS0
              have hS := Lib.hid hS0
              clear hS0
              repeat' (first
                | ((first
                    | refine tkF (oi := ⟨some _, _, _, _, _, _⟩) rfl rfl (by kernel_rfl) (fun _ _ _ h => h) (Or.inl ⟨by rfl, by intro w' _; first | (go_simp; done) | (go_simp; with_reducible rfl)⟩) ?_
                    | refine tkN (oi := ⟨some _, _, _, _, _, _⟩) rfl rfl (by decide +kernel) (fun _ _ _ h => h) hS.out (Or.inl ⟨by rfl, by intro w' hSw; obtain ⟨y0, y1, y2, y3, y4, y5, y6, y7, x0, x1, x2, x3, x4, x5, x6, x7⟩ := HC.out _ hSw; first | (go_simp; done) | (go_simp; with_reducible rfl)⟩) ?_
                    | refine tkG (oi := ⟨_, _, _, _, _, _⟩) rfl rfl (by kernel_rfl) (fun _ _ _ h => h) (by rfl) ?_)
                   (try simp only [Act.put, seti, set0, setS]))
                | ((first | refine one (o := ⟨_, _, _, _, _, _⟩) rfl rfl (by kernel_rfl) (fun K hK => ?_) | refine two (o := ⟨_, _, _, _, _, _⟩) (o' := ⟨_, _, _, _, _, _⟩) rfl rfl rfl (by kernel_rfl) (fun K hK => ?_) (fun K hK => ?_))
                   all_goals (go_simp; first
                     | ((with_reducible refine (C1.out _ hS.out).mono ?_); rintro e V4 ⟨rfl, hS1⟩; refine hK.out _ _ (Or.inr fun _ => hS1) ?_; clear hK K hS; have hS := Lib.hid hS1; clear hS1; (try simp only [Act.put, seti, set0, setS]))
                     | ((with_reducible refine (C2.out _ hS.out).mono ?_); rintro e V4 ⟨rfl, hS1⟩; refine hK.out _ _ (Or.inr fun _ => hS1) ?_; clear hK K hS; have hS := Lib.hid hS1; clear hS1; (try simp only [Act.put, seti, set0, setS]))
                     | (refine hK.out _ _ (Or.inr fun h => h) ?_; clear hK K; (try simp only [Act.put, seti, set0, setS]))))
                | refine done rfl (by kernel_rfl) ?_ _)
              all_goals
                obtain ⟨B1, R1⟩ := hS.out
                have B2 := Lib.hid B1
                have R2 := Lib.hid R1
                clear B1 R1 C1 C2
                obtain ⟨y0, y1, y2, y3, y4, y5, y6, y7⟩ := YC.out _ B2.out
                obtain ⟨x0, x1, x2, x3, x4, x5, x6, x7⟩ := row_at8 R2.out
                have f0 := R2.out.fro 0
                have f1 := R2.out.fro 1
                have f2 := R2.out.fro 2
                have f3 := R2.out.fro 3
                have f4 := R2.out.fro 4
                have f5 := R2.out.fro 5
                have f6 := R2.out.fro 6
                have f7 := R2.out.fro 7
                go_wp2
                trace_state
                go_region
                all_goals
                  go_wp2
                  go_roundw
                  case rel =>
                    have hp := row_put1 R2.out B2.out y
                    exact ⟨k + 1, true, y, by omega, rfl, by go_num, NN.out, hp.1, hp.2⟩
                  case measure => simp [intOf]; omega
            · have NN : Hid (Nx l s m (k + 1) true x) := Lib.hid (nx_more NX.out (by rw [HY.out]; exact hl))
              generalize cmpR y x = n2 at C1 C2 hl
              have hl1 : decide (n2 < 0) = false := decide_eq_false hl
              have hl2 : (0 : Int) ≤ n2 := by omega
              clear hl
              go_wp2
              refine late_S (S := fun V => Bel w1 V ∧ Row w1 V w1.heap.size 1 1 [x]) (fun V h => ⟨h.1.drew, h.2.bel (Bel.refl _).drew⟩) K1.out ?_ rfl ?_
              kernel_rfl
              intro V hS0
              have hS := Lib.hid hS0
              clear hS0
              repeat' (first
                | ((first
                    | refine tkF (oi := ⟨some _, _, _, _, _, _⟩) rfl rfl (by kernel_rfl) (fun _ _ _ h => h) (Or.inl ⟨by rfl, by intro w' _; first | (go_simp; done) | (go_simp; with_reducible rfl)⟩) ?_
                    | refine tkN (oi := ⟨some _, _, _, _, _, _⟩) rfl rfl (by decide +kernel) (fun _ _ _ h => h) hS.out (Or.inl ⟨by rfl, by intro w' hSw; obtain ⟨y0, y1, y2, y3, y4, y5, y6, y7, x0, x1, x2, x3, x4, x5, x6, x7⟩ := HC.out _ hSw; first | (go_simp; done) | (go_simp; with_reducible rfl)⟩) ?_
                    | refine tkG (oi := ⟨_, _, _, _, _, _⟩) rfl rfl (by kernel_rfl) (fun _ _ _ h => h) (by rfl) ?_)
                   (try simp only [Act.put, seti, set0, setS]))
                | ((first | refine one (o := ⟨_, _, _, _, _, _⟩) rfl rfl (by kernel_rfl) (fun K hK => ?_) | refine two (o := ⟨_, _, _, _, _, _⟩) (o' := ⟨_, _, _, _, _, _⟩) rfl rfl rfl (by kernel_rfl) (fun K hK => ?_) (fun K hK => ?_))
                   all_goals (go_simp; first
                     | ((with_reducible refine (C1.out _ hS.out).mono ?_); rintro e V4 ⟨rfl, hS1⟩; refine hK.out _ _ (Or.inr fun _ => hS1) ?_; clear hK K hS; have hS := Lib.hid hS1; clear hS1; (try simp only [Act.put, seti, set0, setS]))
                     | ((with_reducible refine (C2.out _ hS.out).mono ?_); rintro e V4 ⟨rfl, hS1⟩; refine hK.out _ _ (Or.inr fun _ => hS1) ?_; clear hK K hS; have hS := Lib.hid hS1; clear hS1; (try simp only [Act.put, seti, set0, setS]))
                     | (refine hK.out _ _ (Or.inr fun h => h) ?_; clear hK K; (try simp only [Act.put, seti, set0, setS]))))
                | refine done rfl (by kernel_rfl) ?_ _)
              all_goals
                go_wp2
                go_roundw
                case rel => exact ⟨k + 1, true, x, by omega, rfl, by go_num, NN.out, hS.out.2, hS.out.1⟩
                case measure => simp [intOf]; omega
        · obtain ⟨q, hq⟩ : ∃ q, m = q + 1 := ⟨m - 1, by omega⟩
          have hmz : ((m : Int) == 0) = false := by simp [hm0]
          obtain ⟨g3, rfl, hr3, h4⟩ := O.out.row (by rw [take_len MS.out]; omega)
          obtain ⟨z, hz⟩ : ∃ z, s[q]! = z := ⟨_, rfl⟩
          have GT : Hid (gtP s m y ↔ cmpR y z > 0) := Lib.hid (by
            unfold gtP
            rw [show m - 1 = q by omega, hz]
            exact ⟨fun h => h.resolve_left hm0, .inr⟩)
          have ZC : Hid (∀ V, Bel w1 V → At8 V g3 (q * 8) z) := Lib.hid fun V hb => by
            have h1 := (hr3.bel hb).at'.at8 (i := q) (by rw [take_len MS.out]; omega)
            rw [Nat.zero_add, take_get (by omega), hz] at h1
            exact h1
          have hw : IntKind.i64.wrap ((m : Int) - 1) = q := by
            have h1 := MS.out
            have h2 := SL.out
            rw [IntWalk.i64_in _ (by omega)]
            omega
          have hq1 : (q : Int) < m := by omega
          have HQ := Lib.hid hq
          clear hq hm0
          clear hr3 hz h4
          have C2 : Hid (∀ V, (Bel w1 V ∧ Row w1 V w1.heap.size 1 1 [x]) → Calls Try.prog 18 #[agR y, agR x] V (fun e V' => e = .returned (.int .i64 (cmpR y x)) ∧ (Bel w1 V' ∧ Row w1 V' w1.heap.size 1 1 [x]))) := Lib.hid fun V h => (lcompare_f y x V).mono fun e V' ⟨h1, h2⟩ => ⟨h1, h.1.trans h2, h.2.bel h2⟩
          have C1 : Hid (∀ V, (Bel w1 V ∧ Row w1 V w1.heap.size 1 1 [x]) → Calls Try.prog 18 #[agR y, agR z] V (fun e V' => e = .returned (.int .i64 (cmpR y z)) ∧ (Bel w1 V' ∧ Row w1 V' w1.heap.size 1 1 [x]))) := Lib.hid fun V h => (lcompare_f y z V).mono fun e V' ⟨h1, h2⟩ => ⟨h1, h.1.trans h2, h.2.bel h2⟩
          have HC : Hid (∀ w', (Bel w1 w' ∧ Row w1 w' w1.heap.size 1 1 [x]) → w'.cell? ⟨g, o + k * 8, none⟩ = some (.int .i64 y.ob) ∧ w'.cell? ⟨g, o + k * 8 + 1, none⟩ = some (.int .i64 y.sq) ∧ w'.cell? ⟨g, o + k * 8 + 2, none⟩ = some (.int .i64 y.vs) ∧ w'.cell? ⟨g, o + k * 8 + 3, none⟩ = some (.int .i64 y.dv) ∧ w'.cell? ⟨g, o + k * 8 + 4, none⟩ = some (.int .i64 y.tm) ∧ w'.cell? ⟨g, o + k * 8 + 5, none⟩ = some (.int .i64 y.px) ∧ w'.cell? ⟨g, o + k * 8 + 6, none⟩ = some (.int .i64 y.py) ∧ w'.cell? ⟨g, o + k * 8 + 7, none⟩ = some (.bool y.cn) ∧ w'.cell? ⟨w1.heap.size, 0, none⟩ = some (.int .i64 x.ob) ∧ w'.cell? ⟨w1.heap.size, 1, none⟩ = some (.int .i64 x.sq) ∧ w'.cell? ⟨w1.heap.size, 2, none⟩ = some (.int .i64 x.vs) ∧ w'.cell? ⟨w1.heap.size, 3, none⟩ = some (.int .i64 x.dv) ∧ w'.cell? ⟨w1.heap.size, 4, none⟩ = some (.int .i64 x.tm) ∧ w'.cell? ⟨w1.heap.size, 5, none⟩ = some (.int .i64 x.px) ∧ w'.cell? ⟨w1.heap.size, 6, none⟩ = some (.int .i64 x.py) ∧ w'.cell? ⟨w1.heap.size, 7, none⟩ = some (.bool x.cn) ∧ w'.cell? ⟨g3, q * 8, none⟩ = some (.int .i64 z.ob) ∧ w'.cell? ⟨g3, q * 8 + 1, none⟩ = some (.int .i64 z.sq) ∧ w'.cell? ⟨g3, q * 8 + 2, none⟩ = some (.int .i64 z.vs) ∧ w'.cell? ⟨g3, q * 8 + 3, none⟩ = some (.int .i64 z.dv) ∧ w'.cell? ⟨g3, q * 8 + 4, none⟩ = some (.int .i64 z.tm) ∧ w'.cell? ⟨g3, q * 8 + 5, none⟩ = some (.int .i64 z.px) ∧ w'.cell? ⟨g3, q * 8 + 6, none⟩ = some (.int .i64 z.py) ∧ w'.cell? ⟨g3, q * 8 + 7, none⟩ = some (.bool z.cn)) := Lib.hid fun w' h => kp24 (YC.out _ h.1) (row_at8 h.2) (ZC.out _ h.1)
          by_cases hg : cmpR y z > 0
          · have G : Hid (gtP s m y) := Lib.hid (GT.out.2 hg)
            cases f
            · have NN : Hid (Nx l s m (k + 1) true y) := Lib.hid (by have := nx_first NX.out hlt (by rw [HY.out]; exact G.out); rw [HY.out] at this; exact this)
              generalize cmpR y z = n1 at C1 hg
              go_wp2
              refine late_S (S := fun V => Bel w1 V ∧ Row w1 V w1.heap.size 1 1 [x]) (fun V h => ⟨h.1.drew, h.2.bel (Bel.refl _).drew⟩) K1.out ?_ rfl ?_
              kernel_rfl
              intro V hS0
              have hS := Lib.hid hS0
              clear hS0
              repeat' (first
                | ((first
                    | refine tkF (oi := ⟨some _, _, _, _, _, _⟩) rfl rfl (by kernel_rfl) (fun _ _ _ h => h) (Or.inl ⟨by rfl, by intro w' _; first | (go_simp; done) | (go_simp; with_reducible rfl)⟩) ?_
                    | refine tkN (oi := ⟨some _, _, _, _, _, _⟩) rfl rfl (by decide +kernel) (fun _ _ _ h => h) hS.out (Or.inl ⟨by rfl, by intro w' hSw; obtain ⟨y0, y1, y2, y3, y4, y5, y6, y7, x0, x1, x2, x3, x4, x5, x6, x7, z0, z1, z2, z3, z4, z5, z6, z7⟩ := HC.out _ hSw; first | (go_simp; done) | (go_simp; with_reducible rfl)⟩) ?_
                    | refine tkG (oi := ⟨_, _, _, _, _, _⟩) rfl rfl (by kernel_rfl) (fun _ _ _ h => h) (by rfl) ?_)
                   (try simp only [Act.put, seti, set0, setS]))
                | ((first | refine one (o := ⟨_, _, _, _, _, _⟩) rfl rfl (by kernel_rfl) (fun K hK => ?_) | refine two (o := ⟨_, _, _, _, _, _⟩) (o' := ⟨_, _, _, _, _, _⟩) rfl rfl rfl (by kernel_rfl) (fun K hK => ?_) (fun K hK => ?_))
                   all_goals (go_simp; first
                     | ((with_reducible refine (C1.out _ hS.out).mono ?_); rintro e V4 ⟨rfl, hS1⟩; refine hK.out _ _ (Or.inr fun _ => hS1) ?_; clear hK K hS; have hS := Lib.hid hS1; clear hS1; (try simp only [Act.put, seti, set0, setS]))
                     | ((with_reducible refine (C2.out _ hS.out).mono ?_); rintro e V4 ⟨rfl, hS1⟩; refine hK.out _ _ (Or.inr fun _ => hS1) ?_; clear hK K hS; have hS := Lib.hid hS1; clear hS1; (try simp only [Act.put, seti, set0, setS]))
                     | (refine hK.out _ _ (Or.inr fun h => h) ?_; clear hK K; (try simp only [Act.put, seti, set0, setS]))))
                | refine done rfl (by kernel_rfl) ?_ _)
              all_goals
                obtain ⟨B1, R1⟩ := hS.out
                have B2 := Lib.hid B1
                have R2 := Lib.hid R1
                clear B1 R1 C1 C2
                obtain ⟨y0, y1, y2, y3, y4, y5, y6, y7⟩ := YC.out _ B2.out
                obtain ⟨x0, x1, x2, x3, x4, x5, x6, x7⟩ := row_at8 R2.out
                have f0 := R2.out.fro 0
                have f1 := R2.out.fro 1
                have f2 := R2.out.fro 2
                have f3 := R2.out.fro 3
                have f4 := R2.out.fro 4
                have f5 := R2.out.fro 5
                have f6 := R2.out.fro 6
                have f7 := R2.out.fro 7
                go_wp2
                trace_state
                go_region
                all_goals
                  go_wp2
                  go_roundw
                  case rel =>
                    have hp := row_put1 R2.out B2.out y
                    exact ⟨k + 1, true, y, by omega, rfl, by go_num, NN.out, hp.1, hp.2⟩
                  case measure => simp [intOf]; omega
            · by_cases hl : cmpR y x < 0
              · have NN : Hid (Nx l s m (k + 1) true y) := Lib.hid (by have := nx_less NX.out hlt (by rw [HY.out]; exact G.out) (by rw [HY.out]; exact hl); rw [HY.out] at this; exact this)
                generalize cmpR y z = n1 at C1 hg
                generalize cmpR y x = n2 at C2 hl
                go_wp2
                refine late_S (S := fun V => Bel w1 V ∧ Row w1 V w1.heap.size 1 1 [x]) (fun V h => ⟨h.1.drew, h.2.bel (Bel.refl _).drew⟩) K1.out ?_ rfl ?_
                kernel_rfl
                intro V hS0
                have hS := Lib.hid hS0
                clear hS0
                repeat' (first
                  | ((first
                      | refine tkF (oi := ⟨some _, _, _, _, _, _⟩) rfl rfl (by kernel_rfl) (fun _ _ _ h => h) (Or.inl ⟨by rfl, by intro w' _; first | (go_simp; done) | (go_simp; with_reducible rfl)⟩) ?_
                      | refine tkN (oi := ⟨some _, _, _, _, _, _⟩) rfl rfl (by decide +kernel) (fun _ _ _ h => h) hS.out (Or.inl ⟨by rfl, by intro w' hSw; obtain ⟨y0, y1, y2, y3, y4, y5, y6, y7, x0, x1, x2, x3, x4, x5, x6, x7, z0, z1, z2, z3, z4, z5, z6, z7⟩ := HC.out _ hSw; first | (go_simp; done) | (go_simp; with_reducible rfl)⟩) ?_
                      | refine tkG (oi := ⟨_, _, _, _, _, _⟩) rfl rfl (by kernel_rfl) (fun _ _ _ h => h) (by rfl) ?_)
                     (try simp only [Act.put, seti, set0, setS]))
                  | ((first | refine one (o := ⟨_, _, _, _, _, _⟩) rfl rfl (by kernel_rfl) (fun K hK => ?_) | refine two (o := ⟨_, _, _, _, _, _⟩) (o' := ⟨_, _, _, _, _, _⟩) rfl rfl rfl (by kernel_rfl) (fun K hK => ?_) (fun K hK => ?_))
                     all_goals (go_simp; first
                       | ((with_reducible refine (C1.out _ hS.out).mono ?_); rintro e V4 ⟨rfl, hS1⟩; refine hK.out _ _ (Or.inr fun _ => hS1) ?_; clear hK K hS; have hS := Lib.hid hS1; clear hS1; (try simp only [Act.put, seti, set0, setS]))
                       | ((with_reducible refine (C2.out _ hS.out).mono ?_); rintro e V4 ⟨rfl, hS1⟩; refine hK.out _ _ (Or.inr fun _ => hS1) ?_; clear hK K hS; have hS := Lib.hid hS1; clear hS1; (try simp only [Act.put, seti, set0, setS]))
                       | (refine hK.out _ _ (Or.inr fun h => h) ?_; clear hK K; (try simp only [Act.put, seti, set0, setS]))))
                  | refine done rfl (by kernel_rfl) ?_ _)
                all_goals
                  obtain ⟨B1, R1⟩ := hS.out
                  have B2 := Lib.hid B1
                  have R2 := Lib.hid R1
                  clear B1 R1 C1 C2
                  obtain ⟨y0, y1, y2, y3, y4, y5, y6, y7⟩ := YC.out _ B2.out
                  obtain ⟨x0, x1, x2, x3, x4, x5, x6, x7⟩ := row_at8 R2.out
                  have f0 := R2.out.fro 0
                  have f1 := R2.out.fro 1
                  have f2 := R2.out.fro 2
                  have f3 := R2.out.fro 3
                  have f4 := R2.out.fro 4
                  have f5 := R2.out.fro 5
                  have f6 := R2.out.fro 6
                  have f7 := R2.out.fro 7
                  go_wp2
                  trace_state
                  go_region
                  all_goals
                    go_wp2
                    go_roundw
                    case rel =>
                      have hp := row_put1 R2.out B2.out y
                      exact ⟨k + 1, true, y, by omega, rfl, by go_num, NN.out, hp.1, hp.2⟩
                    case measure => simp [intOf]; omega
              · have NN : Hid (Nx l s m (k + 1) true x) := Lib.hid (nx_more NX.out (by rw [HY.out]; exact hl))
                generalize cmpR y z = n1 at C1 hg
                generalize cmpR y x = n2 at C2 hl
                have hl1 : decide (n2 < 0) = false := decide_eq_false hl
                have hl2 : (0 : Int) ≤ n2 := by omega
                clear hl
                go_wp2
                refine late_S (S := fun V => Bel w1 V ∧ Row w1 V w1.heap.size 1 1 [x]) (fun V h => ⟨h.1.drew, h.2.bel (Bel.refl _).drew⟩) K1.out ?_ rfl ?_
                kernel_rfl
                intro V hS0
                have hS := Lib.hid hS0
                clear hS0
                repeat' (first
                  | ((first
                      | refine tkF (oi := ⟨some _, _, _, _, _, _⟩) rfl rfl (by kernel_rfl) (fun _ _ _ h => h) (Or.inl ⟨by rfl, by intro w' _; first | (go_simp; done) | (go_simp; with_reducible rfl)⟩) ?_
                      | refine tkN (oi := ⟨some _, _, _, _, _, _⟩) rfl rfl (by decide +kernel) (fun _ _ _ h => h) hS.out (Or.inl ⟨by rfl, by intro w' hSw; obtain ⟨y0, y1, y2, y3, y4, y5, y6, y7, x0, x1, x2, x3, x4, x5, x6, x7, z0, z1, z2, z3, z4, z5, z6, z7⟩ := HC.out _ hSw; first | (go_simp; done) | (go_simp; with_reducible rfl)⟩) ?_
                      | refine tkG (oi := ⟨_, _, _, _, _, _⟩) rfl rfl (by kernel_rfl) (fun _ _ _ h => h) (by rfl) ?_)
                     (try simp only [Act.put, seti, set0, setS]))
                  | ((first | refine one (o := ⟨_, _, _, _, _, _⟩) rfl rfl (by kernel_rfl) (fun K hK => ?_) | refine two (o := ⟨_, _, _, _, _, _⟩) (o' := ⟨_, _, _, _, _, _⟩) rfl rfl rfl (by kernel_rfl) (fun K hK => ?_) (fun K hK => ?_))
                     all_goals (go_simp; first
                       | ((with_reducible refine (C1.out _ hS.out).mono ?_); rintro e V4 ⟨rfl, hS1⟩; refine hK.out _ _ (Or.inr fun _ => hS1) ?_; clear hK K hS; have hS := Lib.hid hS1; clear hS1; (try simp only [Act.put, seti, set0, setS]))
                       | ((with_reducible refine (C2.out _ hS.out).mono ?_); rintro e V4 ⟨rfl, hS1⟩; refine hK.out _ _ (Or.inr fun _ => hS1) ?_; clear hK K hS; have hS := Lib.hid hS1; clear hS1; (try simp only [Act.put, seti, set0, setS]))
                       | (refine hK.out _ _ (Or.inr fun h => h) ?_; clear hK K; (try simp only [Act.put, seti, set0, setS]))))
                  | refine done rfl (by kernel_rfl) ?_ _)
                all_goals
                  go_wp2
                  go_roundw
                  case rel => exact ⟨k + 1, true, x, by omega, rfl, by go_num, NN.out, hS.out.2, hS.out.1⟩
                  case measure => simp [intOf]; omega
          · have NN := Lib.hid (nx_skip NX.out (by rw [HY.out]; exact fun h => hg (GT.out.1 h)))
            generalize cmpR y z = n1 at C1 hg
            have hg1 : decide (0 < n1) = false := decide_eq_false hg
            have hg2 : n1 ≤ 0 := by omega
            clear hg
            go_wp2
            refine late_S (S := fun V => Bel w1 V ∧ Row w1 V w1.heap.size 1 1 [x]) (fun V h => ⟨h.1.drew, h.2.bel (Bel.refl _).drew⟩) K1.out ?_ rfl ?_
            kernel_rfl
            intro V hS0
            have hS := Lib.hid hS0
            clear hS0
            repeat' (first
              | ((first
                  | refine tkF (oi := ⟨some _, _, _, _, _, _⟩) rfl rfl (by kernel_rfl) (fun _ _ _ h => h) (Or.inl ⟨by rfl, by intro w' _; first | (go_simp; done) | (go_simp; with_reducible rfl)⟩) ?_
                  | refine tkN (oi := ⟨some _, _, _, _, _, _⟩) rfl rfl (by decide +kernel) (fun _ _ _ h => h) hS.out (Or.inl ⟨by rfl, by intro w' hSw; obtain ⟨y0, y1, y2, y3, y4, y5, y6, y7, x0, x1, x2, x3, x4, x5, x6, x7, z0, z1, z2, z3, z4, z5, z6, z7⟩ := HC.out _ hSw; first | (go_simp; done) | (go_simp; with_reducible rfl)⟩) ?_
                  | refine tkG (oi := ⟨_, _, _, _, _, _⟩) rfl rfl (by kernel_rfl) (fun _ _ _ h => h) (by rfl) ?_)
                 (try simp only [Act.put, seti, set0, setS]))
              | ((first | refine one (o := ⟨_, _, _, _, _, _⟩) rfl rfl (by kernel_rfl) (fun K hK => ?_) | refine two (o := ⟨_, _, _, _, _, _⟩) (o' := ⟨_, _, _, _, _, _⟩) rfl rfl rfl (by kernel_rfl) (fun K hK => ?_) (fun K hK => ?_))
                 all_goals (go_simp; first
                   | ((with_reducible refine (C1.out _ hS.out).mono ?_); rintro e V4 ⟨rfl, hS1⟩; refine hK.out _ _ (Or.inr fun _ => hS1) ?_; clear hK K hS; have hS := Lib.hid hS1; clear hS1; (try simp only [Act.put, seti, set0, setS]))
                   | ((with_reducible refine (C2.out _ hS.out).mono ?_); rintro e V4 ⟨rfl, hS1⟩; refine hK.out _ _ (Or.inr fun _ => hS1) ?_; clear hK K hS; have hS := Lib.hid hS1; clear hS1; (try simp only [Act.put, seti, set0, setS]))
                   | (refine hK.out _ _ (Or.inr fun h => h) ?_; clear hK K; (try simp only [Act.put, seti, set0, setS]))))
              | refine done rfl (by kernel_rfl) ?_ _)
            all_goals
              go_wp2
              go_roundw
              case rel => exact ⟨k + 1, f, x, by omega, rfl, by go_num, NN.out, hS.out.2, hS.out.1⟩
              case measure => simp [intOf]; omega
      · have hk8 : ¬ ((k : Int) < l.length) := by omega
        have hkl : k = l.length := by omega
        cases f
        · have E := Lib.hid (NO.out m k x NX.out MS.out hkl)
          clear hkl
          go_wp2
          go_ret
          exact ⟨_, rfl, by
            have h1 := O.out.bel K1.out.1
            rw [List.take_of_length_le (by rw [E.out]; exact Nat.le_refl _)] at h1
            exact h1, B.out.trans K1.out.1⟩
        · have E := Lib.hid (YES.out m k x NX.out MS.out hkl)
          have T : Hid (s.take m ++ [x] = s.take (m + 1)) := Lib.hid (by rw [take_one E.out.1, E.out.2])
          clear hkl
          obtain ⟨x0, x1, x2, x3, x4, x5, x6, x7⟩ := row_at8 K1.out.2
          have B3 := Lib.hid (B.out.trans K1.out.1)
          have O3 := Lib.hid (O.out.bel K1.out.1)
          clear NX K1 O
          go_wp2_with (at_builtin; refine wpList_reps (w0 := w) (v := .slice p3 m c3) (l := s.take m) (m := [x]) rfl _ _ rfl rfl rfl (O3.out.bel (Bel.new _ _)) (isl_one x rfl _ _ (by simp)) ?b1 ?b2 ?b3)
          case b1 =>
            have h1 := SL.out
            have h2 := MS.out
            omega
          case b2 =>
            have h1 := B3.out.size
            omega
          case b3 =>
            intro v2 w2 hown hgr
            have hb2 := hgr.bel (B3.out.alloc _) O3.out.lo
            rw [T.out] at hown
            obtain ⟨p4, c4, e4⟩ := hown.isl.shape
            rw [take_len (by have := E.out.1; omega)] at e4
            subst e4
            have O4 := Lib.hid hown
            have B4 := Lib.hid hb2
            have hml : m < l.length := by
              have h1 := E.out.1
              have h2 := SL.out
              omega
            clear hown hb2 hgr
            go_wp2
            go_roundw
            case rel => exact ⟨m + 1, p4, c4, by have := E.out.1; omega, rfl, O4.out, B4.out⟩
            case measure => simp [lenV]; omega
end Go.Proofs.Ytdjgpbanokdnhaa.Pt
