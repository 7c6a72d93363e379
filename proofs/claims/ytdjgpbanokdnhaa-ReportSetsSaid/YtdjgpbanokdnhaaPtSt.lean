/-
  The walk of ReportSets.
-/
import Derived.Test.YtdjgpbanokdnhaaPtSe
namespace Go.Proofs.Ytdjgpbanokdnhaa.Pt
open Go.RowKit
attribute [local go_sem ↓] Go.wp_at_zero Go.wp_at_succ

set_option maxHeartbeats 4000000 in
set_option maxRecDepth 100000 in
theorem sets_no (a b : List Rep) (r : Rep) (p q : Option Addr) (c d : Nat) (w : World) (h : (20 : Int) < a.length ∨ (a.length : Int) ≤ 20 ∧ (20 : Int) < b.length) :
    Calls Try.prog 5 #[.slice p a.length c, .slice q b.length d, agR r] w (RetB w (.bool true)) := by
  have B : Hid (Bel w (w.alloc (.cells #[.int .i64 r.ob, .int .i64 r.sq, .int .i64 r.vs, .int .i64 r.dv, .int .i64 r.tm, .int .i64 r.px, .int .i64 r.py, .bool r.cn] 23))) := Lib.hid (Bel.new w _)
  rcases h with h | ⟨h, h2⟩
  all_goals
    go_enter Try.func5, Try.ntmps5
    go_wp2_with (go_at_call 14; refine (known_f _).mono ?_; rintro e V ⟨rfl, hb⟩; replace B := Lib.hid (B.out.trans hb); clear hb)
    go_ret
    exact ⟨rfl, B.out⟩

set_option maxHeartbeats 8000000 in
set_option maxRecDepth 100000 in
theorem sets_yes (a b : List Rep) (r : Rep) (p q : Option Addr) (c d : Nat) (w : World) (hv : IsL w (.slice p a.length c) a) (hu : IsL w (.slice q b.length d) b) (h1 : a.length ≤ 20) (h2 : b.length ≤ 20) :
    Calls Try.prog 5 #[.slice p a.length c, .slice q b.length d, agR r] w (RetB w (.bool true)) := by
  have C1 : Hid (∀ V, Bel w V → Calls Try.prog 20 #[.slice p a.length c] V (RetP V fun x W => Own V W x (setL a))) := Lib.hid fun V hb => set_f a _ V (hv.bel hb) (by omega)
  have C2 : Hid (∀ V, Bel w V → Calls Try.prog 21 #[.slice p a.length c] V (RetP V fun x W => Own V W x (setL a))) := Lib.hid fun V hb => lset_f a _ V (hv.bel hb) (by omega)
  have CU : Hid (∀ V, Bel w V → Calls Try.prog 22 #[.slice p a.length c, .slice q b.length d] V (RetP V fun x W => Own V W x (setL (a ++ b)))) := Lib.hid fun V hb => union_f a b _ _ V (hv.bel hb) (hu.bel hb) (by omega)
  have CJ : Hid (∀ V, Bel w V → Calls Try.prog 23 #[.slice p a.length c, .slice q b.length d] V (RetP V fun x W => Own V W x (a ++ b))) := Lib.hid fun V hb => join_f a b _ _ V (hv.bel hb) (hu.bel hb) (by omega)
  have C5 : Hid (∀ V x, IsL V x (a ++ b) → Calls Try.prog 21 #[x] V (RetP V fun x W => Own V W x (setL (a ++ b)))) := Lib.hid fun V x h => lset_f (a ++ b) x V h (by rw [List.length_append]; omega)
  have SA : Hid (∀ V x y, IsL V x (setL a) → IsL V y (setL a) → Calls Try.prog 19 #[x, y] V (RetB V (.bool true))) := Lib.hid fun V x y h3 h4 => by
    have := same_f _ _ x y V h3 h4
    rw [decide_eq_true rfl] at this
    exact this
  have SB : Hid (∀ V x y, IsL V x (setL (a ++ b)) → IsL V y (setL (a ++ b)) → Calls Try.prog 19 #[x, y] V (RetB V (.bool true))) := Lib.hid fun V x y h3 h4 => by
    have := same_f _ _ x y V h3 h4
    rw [decide_eq_true rfl] at this
    exact this
  have CC : Hid (∀ V, Bel w V → Calls Try.prog 24 #[.slice p a.length c, agR r] V (RetB V (.bool (decide (r ∈ a))))) := Lib.hid fun V hb => contains_f a r _ V (hv.bel hb)
  have CH : Hid (∀ V, Bel w V → Calls Try.prog 25 #[.slice p a.length c, agR r] V (RetB V (.bool (decide (r ∈ a))))) := Lib.hid fun V hb => has_f a r _ V (hv.bel hb)
  have CR : Hid (∀ V x, Bel w V → IsL V x [r] → Calls Try.prog 23 #[.slice p a.length c, x] V (RetP V fun x W => Own V W x (a ++ [r]))) := Lib.hid fun V x hb h => join_f a [r] _ _ V (hv.bel hb) h (by simp; omega)
  have CD : Hid (∀ V x, IsL V x (a ++ [r]) → Calls Try.prog 24 #[x, agR r] V (RetB V (.bool true))) := Lib.hid fun V x h => by
    have := contains_f (a ++ [r]) r x V h
    rw [decide_eq_true (by simp)] at this
    exact this
  clear hv hu
  generalize setL (a ++ b) = s2 at CU C5 SB
  generalize a ++ b = ab at CJ C5
  generalize a ++ [r] = ar at CR CD
  generalize setL a = s1 at C1 C2 SA
  generalize decide (r ∈ a) = z at CC CH
  have g1 : ¬ (20 : Int) < a.length := by omega
  have g2 : ¬ (20 : Int) < b.length := by omega
  have B : Hid (Bel w (w.alloc (.cells #[.int .i64 r.ob, .int .i64 r.sq, .int .i64 r.vs, .int .i64 r.dv, .int .i64 r.tm, .int .i64 r.px, .int .i64 r.py, .bool r.cn] 23))) := Lib.hid (Bel.new w _)
  have X : Hid (Bx (w.alloc (.cells #[.int .i64 r.ob, .int .i64 r.sq, .int .i64 r.vs, .int .i64 r.dv, .int .i64 r.tm, .int .i64 r.px, .int .i64 r.py, .bool r.cn] 23)) w.heap.size r) := Lib.hid (heap_new w _)
  clear h1 h2
  go_enter Try.func5, Try.ntmps5
  go_wp2_with (go_at_call 14; refine (known_f _).mono ?_; rintro e V ⟨rfl, hb⟩; replace B := Lib.hid (B.out.trans hb); replace X := Lib.hid (X.out.next hb); clear hb)
  have K1 := Lib.hid (And.intro B.out X.out)
  have HC : Hid (∀ w', (Bel w w' ∧ Bx w' w.heap.size r) → w'.cell? ⟨w.heap.size, 0, none⟩ = some (.int .i64 r.ob) ∧ w'.cell? ⟨w.heap.size, 1, none⟩ = some (.int .i64 r.sq) ∧ w'.cell? ⟨w.heap.size, 2, none⟩ = some (.int .i64 r.vs) ∧ w'.cell? ⟨w.heap.size, 3, none⟩ = some (.int .i64 r.dv) ∧ w'.cell? ⟨w.heap.size, 4, none⟩ = some (.int .i64 r.tm) ∧ w'.cell? ⟨w.heap.size, 5, none⟩ = some (.int .i64 r.px) ∧ w'.cell? ⟨w.heap.size, 6, none⟩ = some (.int .i64 r.py) ∧ w'.cell? ⟨w.heap.size, 7, none⟩ = some (.bool r.cn)) := Lib.hid fun w' h => h.2.at8
  clear B X g1 g2
  refine late_S (S := fun V => Bel w V ∧ Bx V w.heap.size r) (fun V h => ⟨h.1.drew, h.2.next (Bel.refl _).drew⟩) K1.out ?_ rfl ?_
  kernel_rfl
  clear K1
  intro V4 hS0
  have hS := Lib.hid hS0
  clear hS0
  repeat' (first
    | ((first
        | refine tkF (oi := ⟨some _, _, _, _, _, _⟩) rfl rfl (by kernel_rfl) (fun _ _ _ h => h) (Or.inl ⟨by rfl, by intro w' _; first | (go_simp; done) | (go_simp; with_reducible rfl)⟩) ?_
        | refine tkN (oi := ⟨some _, _, _, _, _, _⟩) rfl rfl (by decide +kernel) (fun _ _ _ h => h) hS.out (Or.inl ⟨by rfl, by intro w' hSw; obtain ⟨e0, e1, e2, e3, e4, e5, e6, e7⟩ := HC.out _ hSw; first | (go_simp; done) | (go_simp; with_reducible rfl)⟩) ?_
        | refine tkG (oi := ⟨_, _, _, _, _, _⟩) rfl rfl (by kernel_rfl) (fun _ _ _ h => h) (by rfl) ?_)
       (try simp only [Act.put, seti, set0, setS]))
    | ((first | refine one (o := ⟨_, _, _, _, _, _⟩) rfl rfl (by kernel_rfl) (fun K hK => ?_) | refine two (o := ⟨_, _, _, _, _, _⟩) (o' := ⟨_, _, _, _, _, _⟩) rfl rfl rfl (by kernel_rfl) (fun K hK => ?_) (fun K hK => ?_))
       all_goals (go_simp; first
         | ((with_reducible refine (C1.out _ hS.out.1).mono ?_); rintro e V4 ⟨x1, rfl, ho, hb2⟩; refine hK.out _ _ (Or.inr fun _ => ⟨hS.out.1.trans hb2, hS.out.2.next hb2⟩) ?_; (try (replace XA := Lib.hid (XA.out.bel hb2))); (try (replace XB := Lib.hid (XB.out.bel hb2))); (try (replace YA := Lib.hid (YA.out.bel hb2))); (try (replace JA := Lib.hid (JA.out.bel hb2))); (try (replace YB := Lib.hid (YB.out.bel hb2))); (try (replace S1 := Lib.hid (S1.out.bel hb2))); (try (replace JR := Lib.hid (JR.out.bel hb2))); replace hS := Lib.hid (And.intro (hS.out.1.trans hb2) (hS.out.2.next hb2)); have XA := Lib.hid ho.isl; clear hK K hb2 ho; (try simp only [Act.put, seti, set0, setS]))
         | ((with_reducible refine (C2.out _ hS.out.1).mono ?_); rintro e V4 ⟨x1, rfl, ho, hb2⟩; refine hK.out _ _ (Or.inr fun _ => ⟨hS.out.1.trans hb2, hS.out.2.next hb2⟩) ?_; (try (replace XA := Lib.hid (XA.out.bel hb2))); (try (replace XB := Lib.hid (XB.out.bel hb2))); (try (replace YA := Lib.hid (YA.out.bel hb2))); (try (replace JA := Lib.hid (JA.out.bel hb2))); (try (replace YB := Lib.hid (YB.out.bel hb2))); (try (replace S1 := Lib.hid (S1.out.bel hb2))); (try (replace JR := Lib.hid (JR.out.bel hb2))); replace hS := Lib.hid (And.intro (hS.out.1.trans hb2) (hS.out.2.next hb2)); have XB := Lib.hid ho.isl; clear hK K hb2 ho; (try simp only [Act.put, seti, set0, setS]))
         | ((with_reducible refine (SA.out _ _ _ XA.out XB.out).mono ?_); rintro e V4 ⟨rfl, hb2⟩; refine hK.out _ _ (Or.inr fun _ => ⟨hS.out.1.trans hb2, hS.out.2.next hb2⟩) ?_; (try (replace XA := Lib.hid (XA.out.bel hb2))); (try (replace XB := Lib.hid (XB.out.bel hb2))); (try (replace YA := Lib.hid (YA.out.bel hb2))); (try (replace JA := Lib.hid (JA.out.bel hb2))); (try (replace YB := Lib.hid (YB.out.bel hb2))); (try (replace S1 := Lib.hid (S1.out.bel hb2))); (try (replace JR := Lib.hid (JR.out.bel hb2))); replace hS := Lib.hid (And.intro (hS.out.1.trans hb2) (hS.out.2.next hb2)); clear hK K hb2 XA XB; (try simp only [Act.put, seti, set0, setS]))
         | ((with_reducible refine (CU.out _ hS.out.1).mono ?_); rintro e V4 ⟨x1, rfl, ho, hb2⟩; refine hK.out _ _ (Or.inr fun _ => ⟨hS.out.1.trans hb2, hS.out.2.next hb2⟩) ?_; (try (replace XA := Lib.hid (XA.out.bel hb2))); (try (replace XB := Lib.hid (XB.out.bel hb2))); (try (replace YA := Lib.hid (YA.out.bel hb2))); (try (replace JA := Lib.hid (JA.out.bel hb2))); (try (replace YB := Lib.hid (YB.out.bel hb2))); (try (replace S1 := Lib.hid (S1.out.bel hb2))); (try (replace JR := Lib.hid (JR.out.bel hb2))); replace hS := Lib.hid (And.intro (hS.out.1.trans hb2) (hS.out.2.next hb2)); have YA := Lib.hid ho.isl; clear hK K hb2 ho; (try simp only [Act.put, seti, set0, setS]))
         | ((with_reducible refine (CJ.out _ hS.out.1).mono ?_); rintro e V4 ⟨x1, rfl, ho, hb2⟩; refine hK.out _ _ (Or.inr fun _ => ⟨hS.out.1.trans hb2, hS.out.2.next hb2⟩) ?_; (try (replace XA := Lib.hid (XA.out.bel hb2))); (try (replace XB := Lib.hid (XB.out.bel hb2))); (try (replace YA := Lib.hid (YA.out.bel hb2))); (try (replace JA := Lib.hid (JA.out.bel hb2))); (try (replace YB := Lib.hid (YB.out.bel hb2))); (try (replace S1 := Lib.hid (S1.out.bel hb2))); (try (replace JR := Lib.hid (JR.out.bel hb2))); replace hS := Lib.hid (And.intro (hS.out.1.trans hb2) (hS.out.2.next hb2)); have JA := Lib.hid ho.isl; clear hK K hb2 ho; (try simp only [Act.put, seti, set0, setS]))
         | ((with_reducible refine (C5.out _ _ JA.out).mono ?_); rintro e V4 ⟨x1, rfl, ho, hb2⟩; refine hK.out _ _ (Or.inr fun _ => ⟨hS.out.1.trans hb2, hS.out.2.next hb2⟩) ?_; (try (replace XA := Lib.hid (XA.out.bel hb2))); (try (replace XB := Lib.hid (XB.out.bel hb2))); (try (replace YA := Lib.hid (YA.out.bel hb2))); (try (replace JA := Lib.hid (JA.out.bel hb2))); (try (replace YB := Lib.hid (YB.out.bel hb2))); (try (replace S1 := Lib.hid (S1.out.bel hb2))); (try (replace JR := Lib.hid (JR.out.bel hb2))); replace hS := Lib.hid (And.intro (hS.out.1.trans hb2) (hS.out.2.next hb2)); have YB := Lib.hid ho.isl; clear hK K hb2 ho JA; (try simp only [Act.put, seti, set0, setS]))
         | ((with_reducible refine (SB.out _ _ _ YA.out YB.out).mono ?_); rintro e V4 ⟨rfl, hb2⟩; refine hK.out _ _ (Or.inr fun _ => ⟨hS.out.1.trans hb2, hS.out.2.next hb2⟩) ?_; (try (replace XA := Lib.hid (XA.out.bel hb2))); (try (replace XB := Lib.hid (XB.out.bel hb2))); (try (replace YA := Lib.hid (YA.out.bel hb2))); (try (replace JA := Lib.hid (JA.out.bel hb2))); (try (replace YB := Lib.hid (YB.out.bel hb2))); (try (replace S1 := Lib.hid (S1.out.bel hb2))); (try (replace JR := Lib.hid (JR.out.bel hb2))); replace hS := Lib.hid (And.intro (hS.out.1.trans hb2) (hS.out.2.next hb2)); clear hK K hb2 YA YB; (try simp only [Act.put, seti, set0, setS]))
         | ((with_reducible refine (CC.out _ hS.out.1).mono ?_); rintro e V4 ⟨rfl, hb2⟩; refine hK.out _ _ (Or.inr fun _ => ⟨hS.out.1.trans hb2, hS.out.2.next hb2⟩) ?_; (try (replace XA := Lib.hid (XA.out.bel hb2))); (try (replace XB := Lib.hid (XB.out.bel hb2))); (try (replace YA := Lib.hid (YA.out.bel hb2))); (try (replace JA := Lib.hid (JA.out.bel hb2))); (try (replace YB := Lib.hid (YB.out.bel hb2))); (try (replace S1 := Lib.hid (S1.out.bel hb2))); (try (replace JR := Lib.hid (JR.out.bel hb2))); replace hS := Lib.hid (And.intro (hS.out.1.trans hb2) (hS.out.2.next hb2)); clear hK K hb2; (try simp only [Act.put, seti, set0, setS]))
         | ((with_reducible refine (CH.out _ hS.out.1).mono ?_); rintro e V4 ⟨rfl, hb2⟩; refine hK.out _ _ (Or.inr fun _ => ⟨hS.out.1.trans hb2, hS.out.2.next hb2⟩) ?_; (try (replace XA := Lib.hid (XA.out.bel hb2))); (try (replace XB := Lib.hid (XB.out.bel hb2))); (try (replace YA := Lib.hid (YA.out.bel hb2))); (try (replace JA := Lib.hid (JA.out.bel hb2))); (try (replace YB := Lib.hid (YB.out.bel hb2))); (try (replace S1 := Lib.hid (S1.out.bel hb2))); (try (replace JR := Lib.hid (JR.out.bel hb2))); replace hS := Lib.hid (And.intro (hS.out.1.trans hb2) (hS.out.2.next hb2)); clear hK K hb2; (try simp only [Act.put, seti, set0, setS]))
         | ((with_reducible refine (CR.out _ _ hS.out.1 S1.out).mono ?_); rintro e V4 ⟨x1, rfl, ho, hb2⟩; refine hK.out _ _ (Or.inr fun _ => ⟨hS.out.1.trans hb2, hS.out.2.next hb2⟩) ?_; (try (replace XA := Lib.hid (XA.out.bel hb2))); (try (replace XB := Lib.hid (XB.out.bel hb2))); (try (replace YA := Lib.hid (YA.out.bel hb2))); (try (replace JA := Lib.hid (JA.out.bel hb2))); (try (replace YB := Lib.hid (YB.out.bel hb2))); (try (replace S1 := Lib.hid (S1.out.bel hb2))); (try (replace JR := Lib.hid (JR.out.bel hb2))); replace hS := Lib.hid (And.intro (hS.out.1.trans hb2) (hS.out.2.next hb2)); have JR := Lib.hid ho.isl; clear hK K hb2 ho S1; (try simp only [Act.put, seti, set0, setS]))
         | ((with_reducible refine (CD.out _ _ JR.out).mono ?_); rintro e V4 ⟨rfl, hb2⟩; refine hK.out _ _ (Or.inr fun _ => ⟨hS.out.1.trans hb2, hS.out.2.next hb2⟩) ?_; (try (replace XA := Lib.hid (XA.out.bel hb2))); (try (replace XB := Lib.hid (XB.out.bel hb2))); (try (replace YA := Lib.hid (YA.out.bel hb2))); (try (replace JA := Lib.hid (JA.out.bel hb2))); (try (replace YB := Lib.hid (YB.out.bel hb2))); (try (replace S1 := Lib.hid (S1.out.bel hb2))); (try (replace JR := Lib.hid (JR.out.bel hb2))); replace hS := Lib.hid (And.intro (hS.out.1.trans hb2) (hS.out.2.next hb2)); clear hK K hb2 JR; (try simp only [Act.put, seti, set0, setS]))
         | (refine hK.out _ _ (Or.inr fun hs => ⟨hs.1.alloc _, hs.2.next (Bel.new _ _)⟩) ?_; have hb2 := Bel.new V4 (.cells #[.int .i64 r.ob, .int .i64 r.sq, .int .i64 r.vs, .int .i64 r.dv, .int .i64 r.tm, .int .i64 r.px, .int .i64 r.py, .bool r.cn] 23); have S1 := Lib.hid (isl_one r rfl V4 23 rfl); replace hS := Lib.hid (And.intro (hS.out.1.trans hb2) (hS.out.2.next hb2)); clear hK K hb2; (try simp only [Act.put, seti, set0, setS]))))
    | refine done rfl (by kernel_rfl) ?_ _)
  all_goals
    cases z
    all_goals
      go_wp2
      go_ret
      exact ⟨rfl, hS.out.1⟩
theorem sets_f (w : World) (v : Value) (a : List Rep) (hv : IsL w v a) (u : Value) (b : List Rep) (hu : IsL w u b) (r : Rep) : Calls Try.prog 5 #[v, u, agR r] w (RetB w (.bool true)) := by
  obtain ⟨p, c, rfl⟩ := hv.shape
  obtain ⟨q, d, rfl⟩ := hu.shape
  by_cases h1 : a.length ≤ 20
  · by_cases h2 : b.length ≤ 20
    · exact sets_yes a b r p q c d w hv hu h1 h2
    · exact sets_no a b r p q c d w (.inr ⟨by omega, by omega⟩)
  · exact sets_no a b r p q c d w (.inl (by omega))
end Go.Proofs.Ytdjgpbanokdnhaa.Pt
