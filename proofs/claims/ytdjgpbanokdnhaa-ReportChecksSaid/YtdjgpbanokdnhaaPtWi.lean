/-
  Check and CheckExchange: contracts.
-/
import Derived.Test.YtdjgpbanokdnhaaPtAd
namespace Go.Proofs.Ytdjgpbanokdnhaa.Pt
open Go.RowKit
attribute [local go_sem ↓] Go.wp_at_zero Go.wp_at_succ

/-- Whether a number lies between two others. -/
def inR (n a b : Int) : Bool := decide (a ≤ n) && decide (n ≤ b)
theorem lwithin_f (n a b : Int) (w : World) : Calls Try.prog 13 #[.int .i64 n, .int .i64 a, .int .i64 b] w (RetB w (.bool (inR n a b))) := by
  by_cases h1 : a ≤ n
  · by_cases h2 : n ≤ b
    · have hr : inR n a b = true := by simp [inR, h1, h2]
      rw [hr]
      go_enter Try.func13, Try.ntmps13
      go_wp2
      go_ret
      exact ⟨rfl, Bel.refl _⟩
    · have hr : inR n a b = false := by simp [inR, h2]
      rw [hr]
      go_enter Try.func13, Try.ntmps13
      go_wp2
      go_ret
      exact ⟨rfl, Bel.refl _⟩
  · have hr : inR n a b = false := by simp [inR, h1]
    rw [hr]
    go_enter Try.func13, Try.ntmps13
    go_wp2
    go_ret
    exact ⟨rfl, Bel.refl _⟩

def mnL : List Int → Int
  | [] => 0
  | a :: t => t.foldl min a
def mxL : List Int → Int
  | [] => 0
  | a :: t => t.foldl max a
theorem mnL_next (l : List Int) (k : Nat) (h0 : 0 < k) (h : k < l.length) : mnL (l.take (k + 1)) = min (mnL (l.take k)) l[k]! := by
  rw [List.take_succ_eq_append_getElem h, getElem!_pos l k h]
  match l, h with
  | a :: t, _ =>
    obtain ⟨j, rfl⟩ : ∃ j, k = j + 1 := ⟨k - 1, by omega⟩
    simp only [List.take_succ_cons, List.cons_append, mnL, List.foldl_append, List.foldl_cons, List.foldl_nil]
theorem mxL_next (l : List Int) (k : Nat) (h0 : 0 < k) (h : k < l.length) : mxL (l.take (k + 1)) = max (mxL (l.take k)) l[k]! := by
  rw [List.take_succ_eq_append_getElem h, getElem!_pos l k h]
  match l, h with
  | a :: t, _ =>
    obtain ⟨j, rfl⟩ : ∃ j, k = j + 1 := ⟨k - 1, by omega⟩
    simp only [List.take_succ_cons, List.cons_append, mxL, List.foldl_append, List.foldl_cons, List.foldl_nil]
theorem mnL_one (l : List Int) (h : 0 < l.length) : mnL (l.take 1) = l[0]! := by
  match l, h with
  | a :: t, _ => rfl
theorem mxL_one (l : List Int) (h : 0 < l.length) : mxL (l.take 1) = l[0]! := by
  match l, h with
  | a :: t, _ => rfl

set_option maxRecDepth 100000 in
theorem min_f (l : List Int) (v : Value) (w : World) (hv : IsI w v l) (h0 : 0 < l.length) : Calls Try.prog 49 #[v] w (RetB w (.int .i64 (mnL l))) := by
  obtain ⟨p, cap, rfl, hc, hm, hl, _⟩ := hv
  unfold maxLen at hm
  obtain ⟨g, o, rfl, hg, hat⟩ := isi_open hl h0
  have H0 := Lib.hid (mnL_one l h0)
  have HN : Hid (∀ k, 0 < k → k < l.length → mnL (l.take (k + 1)) = min (mnL (l.take k)) l[k]!) := Lib.hid (mnL_next l)
  have HE : Hid (mnL (l.take l.length) = mnL l) := Lib.hid (by rw [List.take_length])
  have c0 := hat 0 h0
  rw [Nat.add_zero] at c0
  have hz : (0 : Int) < l.length := by omega
  have hz1 : ¬ (l.length : Int) < 1 := by omega
  have AT := Lib.hid hat
  clear hl hat
  generalize l[0]! = x0 at c0 H0
  generalize mnL l = res at HE ⊢
  go_enter Try.func49, Try.ntmps49
  go_wp2
  go_loopw [3, 4] (fun s3 s4 wr => ∃ k : Nat, 0 < k ∧ k ≤ l.length ∧ s4 = .int .i64 k ∧ s3 = .int .i64 (mnL (l.take k)) ∧ Bel w wr) (fun _ s4 _ => l.length - (intOf s4).toNat)
  case atStart => exact ⟨1, by omega, by omega, rfl, by rw [H0.out], Bel.refl _⟩
  case round =>
    obtain ⟨k, hk0, hk, rfl, rfl, hbl⟩ := hrel
    have B := Lib.hid hbl
    clear hbl
    by_cases hlt : k < l.length
    · have c1 := AT.out.bel hg B.out k hlt
      have hk8 : (k : Int) < l.length := by omega
      have N := Lib.hid (HN.out k hk0 hlt)
      generalize l[k]! = x at c1 N
      generalize mnL (l.take k) = m at N
      go_wp2
      go_roundw
      case rel => exact ⟨k + 1, by omega, by omega, by go_num, by rw [N.out], B.out⟩
      case measure => simp [intOf]; omega
    · have hk8 : ¬ ((k : Int) < l.length) := by omega
      have hkl : k = l.length := by omega
      rw [← hkl] at HE
      generalize mnL (l.take k) = m at HE
      clear hkl
      go_wp2
      go_ret
      exact ⟨by rw [HE.out]; rfl, B.out⟩
set_option maxRecDepth 100000 in
theorem max_f (l : List Int) (v : Value) (w : World) (hv : IsI w v l) (h0 : 0 < l.length) : Calls Try.prog 50 #[v] w (RetB w (.int .i64 (mxL l))) := by
  obtain ⟨p, cap, rfl, hc, hm, hl, _⟩ := hv
  unfold maxLen at hm
  obtain ⟨g, o, rfl, hg, hat⟩ := isi_open hl h0
  have H0 := Lib.hid (mxL_one l h0)
  have HN : Hid (∀ k, 0 < k → k < l.length → mxL (l.take (k + 1)) = max (mxL (l.take k)) l[k]!) := Lib.hid (mxL_next l)
  have HE : Hid (mxL (l.take l.length) = mxL l) := Lib.hid (by rw [List.take_length])
  have c0 := hat 0 h0
  rw [Nat.add_zero] at c0
  have hz : (0 : Int) < l.length := by omega
  have hz1 : ¬ (l.length : Int) < 1 := by omega
  have AT := Lib.hid hat
  clear hl hat
  generalize l[0]! = x0 at c0 H0
  generalize mxL l = res at HE ⊢
  go_enter Try.func50, Try.ntmps50
  go_wp2
  go_loopw [3, 4] (fun s3 s4 wr => ∃ k : Nat, 0 < k ∧ k ≤ l.length ∧ s4 = .int .i64 k ∧ s3 = .int .i64 (mxL (l.take k)) ∧ Bel w wr) (fun _ s4 _ => l.length - (intOf s4).toNat)
  case atStart => exact ⟨1, by omega, by omega, rfl, by rw [H0.out], Bel.refl _⟩
  case round =>
    obtain ⟨k, hk0, hk, rfl, rfl, hbl⟩ := hrel
    have B := Lib.hid hbl
    clear hbl
    by_cases hlt : k < l.length
    · have c1 := AT.out.bel hg B.out k hlt
      have hk8 : (k : Int) < l.length := by omega
      have N := Lib.hid (HN.out k hk0 hlt)
      generalize l[k]! = x at c1 N
      generalize mxL (l.take k) = m at N
      go_wp2
      go_roundw
      case rel => exact ⟨k + 1, by omega, by omega, by go_num, by rw [N.out], B.out⟩
      case measure => simp [intOf]; omega
    · have hk8 : ¬ ((k : Int) < l.length) := by omega
      have hkl : k = l.length := by omega
      rw [← hkl] at HE
      generalize mxL (l.take k) = m at HE
      clear hkl
      go_wp2
      go_ret
      exact ⟨by rw [HE.out]; rfl, B.out⟩

set_option maxRecDepth 100000 in
theorem within_f (lo hi : Int) (l : List Int) (v : Value) (w : World) (hv : IsI w v l) (h0 : 0 < l.length) (b : Bool) (hb : (b = true ↔ lo ≤ mnL l ∧ mxL l ≤ hi)) :
    Calls Try.prog 36 #[.int .i64 lo, .int .i64 hi, v] w (RetB w (.bool b)) := by
  have HA : Hid (∀ V, Bel w V → Calls Try.prog 49 #[v] V (RetB V (.int .i64 (mnL l)))) := Lib.hid fun V h => min_f l v V (hv.bel h) h0
  have HB : Hid (∀ V, Bel w V → Calls Try.prog 50 #[v] V (RetB V (.int .i64 (mxL l)))) := Lib.hid fun V h => max_f l v V (hv.bel h) h0
  have B := Lib.hid (Bel.refl w)
  clear hv
  generalize mnL l = m at HA hb
  generalize mxL l = n at HB hb
  have HP := Lib.hid hb
  clear hb
  by_cases h1 : lo ≤ m
  · by_cases h2 : n ≤ hi
    · have hr : b = true := HP.out.2 ⟨h1, h2⟩
      subst hr
      go_enter Try.func36, Try.ntmps36
      go_wp2_with (first
        | (go_at_call 49; refine (HA.out _ B.out).mono ?_; rintro e V ⟨rfl, hb⟩; replace B := Lib.hid (B.out.trans hb); clear hb)
        | (go_at_call 50; refine (HB.out _ B.out).mono ?_; rintro e V ⟨rfl, hb⟩; replace B := Lib.hid (B.out.trans hb); clear hb))
      go_ret
      exact ⟨rfl, B.out⟩
    · have hr : b = false := by
        cases b with
        | false => rfl
        | true => exact absurd (HP.out.1 rfl).2 h2
      subst hr
      go_enter Try.func36, Try.ntmps36
      go_wp2_with (first
        | (go_at_call 49; refine (HA.out _ B.out).mono ?_; rintro e V ⟨rfl, hb⟩; replace B := Lib.hid (B.out.trans hb); clear hb)
        | (go_at_call 50; refine (HB.out _ B.out).mono ?_; rintro e V ⟨rfl, hb⟩; replace B := Lib.hid (B.out.trans hb); clear hb))
      go_ret
      exact ⟨by rw [decide_eq_false (show ¬ n ≤ hi by omega)]; rfl, B.out⟩
  · have hr : b = false := by
      cases b with
      | false => rfl
      | true => exact absurd (HP.out.1 rfl).1 h1
    subst hr
    go_enter Try.func36, Try.ntmps36
    go_wp2_with (first
      | (go_at_call 49; refine (HA.out _ B.out).mono ?_; rintro e V ⟨rfl, hb⟩; replace B := Lib.hid (B.out.trans hb); clear hb))
    go_ret
    exact ⟨rfl, B.out⟩

theorem isi1 (x : Int) (W : World) (T : TypeId) {A : Nat} (hA : W.heap.size = A) : IsI (W.alloc (.cells #[.int .i64 x] T)) (.slice (some ⟨A, 0, none⟩) 1 1) [x] := by
  subst hA
  refine ⟨_, 1, rfl, Nat.le_refl _, by unfold maxLen; omega, .inr ⟨W.heap.size, 0, rfl, by simp, fun i hi => ?_⟩, fun h => by cases h⟩
  rw [blkAt (heap_new W _)]
  match i, hi with
  | 0, _ => rfl
theorem isi2 (x y : Int) (W : World) (T : TypeId) {A : Nat} (hA : W.heap.size = A) : IsI (W.alloc (.cells #[.int .i64 x, .int .i64 y] T)) (.slice (some ⟨A, 0, none⟩) 2 2) [x, y] := by
  subst hA
  refine ⟨_, 2, rfl, Nat.le_refl _, by unfold maxLen; omega, .inr ⟨W.heap.size, 0, rfl, by simp, fun i hi => ?_⟩, fun h => by cases h⟩
  rw [blkAt (heap_new W _)]
  match i, hi with
  | 0, _ => rfl
  | 1, _ => rfl
theorem isi3 (x y z : Int) (W : World) (T : TypeId) {A : Nat} (hA : W.heap.size = A) : IsI (W.alloc (.cells #[.int .i64 x, .int .i64 y, .int .i64 z] T)) (.slice (some ⟨A, 0, none⟩) 3 3) [x, y, z] := by
  subst hA
  refine ⟨_, 3, rfl, Nat.le_refl _, by unfold maxLen; omega, .inr ⟨W.heap.size, 0, rfl, by simp, fun i hi => ?_⟩, fun h => by cases h⟩
  rw [blkAt (heap_new W _)]
  match i, hi with
  | 0, _ => rfl
  | 1, _ => rfl
  | 2, _ => rfl
theorem w1_f (x lo hi : Int) (W : World) (A : Nat) (hA : W.heap.size = A) : Calls Try.prog 36 #[.int .i64 lo, .int .i64 hi, .slice (some ⟨A, 0, none⟩) 1 1] (W.alloc (.cells #[.int .i64 x] 3)) (RetB (W.alloc (.cells #[.int .i64 x] 3)) (.bool (inR x lo hi))) :=
  within_f lo hi [x] _ _ (isi1 x W _ hA) (by simp) _ (by simp [inR, mnL, mxL])
theorem w2_f (x y lo hi : Int) (W : World) (A : Nat) (hA : W.heap.size = A) : Calls Try.prog 36 #[.int .i64 lo, .int .i64 hi, .slice (some ⟨A, 0, none⟩) 2 2] (W.alloc (.cells #[.int .i64 x, .int .i64 y] 3)) (RetB (W.alloc (.cells #[.int .i64 x, .int .i64 y] 3)) (.bool (inR x lo hi && inR y lo hi))) :=
  within_f lo hi [x, y] _ _ (isi2 x y W _ hA) (by simp) _ (by simp only [inR, mnL, mxL, List.foldl_cons, List.foldl_nil, Bool.and_eq_true, decide_eq_true_eq]; omega)
theorem w3_f (x y z lo hi : Int) (W : World) (A : Nat) (hA : W.heap.size = A) : Calls Try.prog 36 #[.int .i64 lo, .int .i64 hi, .slice (some ⟨A, 0, none⟩) 3 3] (W.alloc (.cells #[.int .i64 x, .int .i64 y, .int .i64 z] 3)) (RetB (W.alloc (.cells #[.int .i64 x, .int .i64 y, .int .i64 z] 3)) (.bool ((inR x lo hi && inR y lo hi) && inR z lo hi))) :=
  within_f lo hi [x, y, z] _ _ (isi3 x y z W _ hA) (by simp) _ (by simp only [inR, mnL, mxL, List.foldl_cons, List.foldl_nil, Bool.and_eq_true, decide_eq_true_eq]; omega)
end Go.Proofs.Ytdjgpbanokdnhaa.Pt
