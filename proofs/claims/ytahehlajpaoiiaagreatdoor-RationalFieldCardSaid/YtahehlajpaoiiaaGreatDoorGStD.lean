import Derived.Test.YtahehlajpaoiiaaGreatDoorGStF
import Derived.Deep.RegionLaw
import Derived.Test.YtahehlajpaoiiaaGreatDoorGRtB
import Derived.Test.YtahehlajpaoiiaaGreatDoorGRefO
import Derived.Test.YtahehlajpaoiiaaGreatDoorGRefG

/-
  The program's signs, products with one, and whether a fraction is canonical.
-/
namespace Go.Proofs.YtahehlajpaoiiaaGreatDoor
open Go.RowKit
attribute [local go_sem ↓] Go.wp_at_zero Go.wp_at_succ

set_option maxHeartbeats 1000000 in
set_option maxRecDepth 100000 in
theorem ratSign_f {q : Rat} {b : Bool} {m k : ByteArray} (h : Rq q b m k) (w : World) : Calls Tryz.prog 40 #[.agg #[.bool b, .string m, .bool false, .string k]] w (RetB w (.int .i64 q.num.sign)) := by
  have HS := Lib.hid (fun V => Sign_f h.num V)
  have HB := Lib.hid (below_new w (.cells #[.bool b, .string m, .bool false, .string k] 25))
  generalize q.num.sign = s at *
  clear h
  go_enter Tryz.func40, Tryz.ntmps40
  go_wp2_with fail
  refine (HS.out _).mono ?_
  rintro e w1 ⟨rfl, hb1⟩
  have B1 := Lib.hid (below_step HB.out (Nat.le_refl _) hb1)
  clear hb1
  go_wp2
  go_ret
  exact ⟨rfl, B1.out⟩

theorem one_of {x : Int} {b : Bool} {m : ByteArray} (h : enc x = .agg #[.bool b, .string m]) (h1 : x = 1) : b = false ∧ m = ⟨#[1]⟩ := by
  obtain ⟨e1, e2⟩ := enc_parts h
  subst h1
  exact ⟨by rw [e1]; rfl, by rw [e2]; exact mag_one⟩
theorem not_one {x : Int} {b : Bool} {m : ByteArray} (h : enc x = .agg #[.bool b, .string m]) (h1 : x ≠ 1) : b = true ∨ (b = false ∧ ¬ m.toList = [1] ∧ ¬ [1] = m.toList) := by
  obtain ⟨e1, e2⟩ := enc_parts h
  cases b
  · right
    have h2 : ¬ x < 0 := of_decide_eq_false e1.symm
    have h3 : m ≠ ⟨#[1]⟩ := by rw [e2]; exact mag_no_one (by omega)
    have h4 := toList_ne (l := [1]) h3
    exact ⟨rfl, h4, fun e => h4 e.symm⟩
  · exact .inl rfl

set_option maxHeartbeats 2000000 in
set_option maxRecDepth 100000 in
theorem ratTimes_f {x y z : Int} {b1 b2 b3 : Bool} {m1 m2 m3 : ByteArray} (hx : enc x = .agg #[.bool b1, .string m1]) (hy : enc y = .agg #[.bool b2, .string m2]) (hz : enc z = .agg #[.bool b3, .string m3]) (e : z = x * y) (s1 : m1.size ≤ 100000) (s2 : m2.size ≤ 100000) (w : World) (hE : Env w) :
    Calls Tryz.prog 80 #[.agg #[.bool b1, .string m1], .agg #[.bool b2, .string m2]] w (RetB w (.agg #[.bool b3, .string m3])) := by
  have KK := Lib.hid (Kc.start w #[.bool b1, .string m1] #[.bool b2, .string m2] #[.bool false, .string ⟨#[]⟩] 23 23 23)
  have hlt := hE.lt
  have hE0 := hE.next KK.out.bel
  have g0 := hE0.o0
  have g1 := hE0.o1
  clear hE hE0
  by_cases hx1 : x = 1
  · obtain ⟨rfl, rfl⟩ := one_of hx hx1
    rw [e, hx1, Int.one_mul, hy] at hz
    have hc : b2 = b3 ∧ m2 = m3 := by injection hz with hz; simpa using hz
    obtain ⟨rfl, rfl⟩ := hc
    obtain ⟨p0, p1, f0, f1⟩ := blk_cells KK.out.k3
    clear hx hy hz hx1 e
    go_enter Tryz.func80, Tryz.ntmps80
    go_wp2
    exact bodyPost_ret (v := .agg #[.bool b2, .string m2]) (by simp [results, Tryz.results80, go_sem, p0, p1]) rfl ⟨rfl, (Kc.start w _ _ _ _ _ _).bel⟩
  · by_cases hy1 : y = 1
    · obtain ⟨rfl, rfl⟩ := one_of hy hy1
      rw [e, hy1, Int.mul_one, hx] at hz
      have hc : b1 = b3 ∧ m1 = m3 := by injection hz with hz; simpa using hz
      obtain ⟨rfl, rfl⟩ := hc
      obtain ⟨p0, p1, f0, f1⟩ := blk_cells KK.out.k3
      have hno := not_one hx hx1
      clear hx hy hz hx1 hy1 e
      rcases hno with rfl | ⟨rfl, hn1, hn2⟩
      all_goals
        go_enter Tryz.func80, Tryz.ntmps80
        go_wp2
        exact bodyPost_ret (v := .agg #[.bool _, .string m1]) (by simp [results, Tryz.results80, go_sem, p0, p1]) rfl ⟨rfl, (Kc.start w _ _ _ _ _ _).bel⟩
    · have HM := Lib.hid (fun V => mul_f hx hy (by omega) (by omega) hz e V)
      have hno := not_one hx hx1
      have hno2 := not_one hy hy1
      clear hx hy hz hx1 hy1 e
      rcases hno with rfl | ⟨rfl, hn1, hn2⟩ <;> rcases hno2 with rfl | ⟨rfl, hn3, hn4⟩
      all_goals
        go_enter Tryz.func80, Tryz.ntmps80
        go_wp2_with fail
        refine (HM.out _).mono ?_
        rintro e w1 ⟨rfl, hb1⟩
        have K1 := Lib.hid (KK.out.next hb1)
        obtain ⟨p0, p1, f0, f1⟩ := blk_cells K1.out.k3
        clear hb1 g0 g1
        go_wp2
        exact bodyPost_ret (v := .agg #[.bool b3, .string m3]) (by simp [results, Tryz.results80, go_sem, p0, p1]) rfl ⟨rfl, below_set2 K1.out.bel (by omega) _ _⟩

theorem canon_enc {x : Int} {b : Bool} {m : ByteArray} (h : enc x = .agg #[.bool b, .string m]) : checkV b m = 0 := by
  obtain ⟨e1, e2⟩ := enc_parts h
  unfold checkV
  rw [if_pos]
  unfold canonB
  split
  · rename_i h1
    have h2 := lead_enc h h1
    simpa using h2
  · rename_i h1
    have h2 : x.natAbs = 0 := mag_zero_iff.1 (by rw [← e2]; omega)
    have h3 : x = 0 := by omega
    rw [e1, h3]; rfl

set_option maxHeartbeats 4000000 in
set_option maxRecDepth 100000 in
theorem ratCheck_f {q : Rat} {b : Bool} {m k : ByteArray} (h : Rq q b m k) (s1 : m.size ≤ 100000) (s2 : k.size ≤ 100000) (w : World) (hE : Env w) :
    Calls Tryz.prog 17 #[.agg #[.bool b, .string m, .bool false, .string k]] w (RetB w (.int .i64 0)) := by
  have HC1 := Lib.hid (fun V => check_any b m V)
  rw [canon_enc h.num] at HC1
  have hk : checkV false k = 0 := by
    rw [h.den]
    unfold dm
    split
    · exact canon_enc (enc_mag 0)
    · exact canon_enc (enc_mag q.den)
  have HC2 := Lib.hid (fun V => check_any false k V)
  rw [hk] at HC2
  have HE := Lib.hid (fun V (hb : Below w.heap.size w V) => hE.next hb)
  have KK := Lib.hid (Bq.new w #[.bool b, .string m, .bool false, .string k] 25)
  have BB := Lib.hid (below_new w (.cells #[.bool b, .string m, .bool false, .string k] 25))
  by_cases hden : q.den = 1
  · obtain rfl := h.den1 hden
    clear h hk hE hden
    go_enter Tryz.func17, Tryz.ntmps17
    go_wp2_with fail
    refine (HC1.out _).mono ?_
    rintro e w1 ⟨rfl, hb1⟩
    have K1 := Lib.hid (KK.out.next hb1)
    have B1 := Lib.hid (below_step BB.out (Nat.le_refl _) hb1)
    obtain ⟨p0, p1, p2, p3⟩ := blk4 K1.out.k
    clear hb1
    go_wp2_with fail
    refine (HC2.out _).mono ?_
    rintro e w2 ⟨rfl, hb2⟩
    have K2 := Lib.hid (K1.out.next hb2)
    have B2 := Lib.hid (below_step B1.out (Nat.le_refl _) hb2)
    obtain ⟨q0, q1, q2, q3⟩ := blk4 K2.out.k
    clear hb2 p0 p1 p2 p3
    go_wp2_with fail
    refine (isInteger_yes b m _).mono ?_
    rintro e w3 ⟨rfl, hb3⟩
    have B3 := Lib.hid (below_step B2.out (Nat.le_refl _) hb3)
    clear hb3
    go_wp2
    go_ret
    exact ⟨rfl, B3.out⟩
  · obtain rfl := h.den2 hden
    have HNO := Lib.hid (isInteger_no b m (mag q.den) (mag_no_nil q.den_nz))
    have hk1 := toList_ne (l := [1]) (mag_no_one hden)
    have hg : Nat.gcd q.num.natAbs q.den = 1 := q.reduced
    have HG := Lib.hid (fun V (hV : Env V) => gcd_f h.num (enc_mag q.den) (bg := false) (mg := ⟨#[1]⟩) (by rw [Int.natAbs_natCast, hg, ← mag_one]; exact enc_mag 1) (by omega) (by omega) V hV.tab)
    generalize Go.Proofs.YtahehlajpaoiiaaGreatDoor.mag q.den = k at *
    clear h hk hE hden hg
    go_enter Tryz.func17, Tryz.ntmps17
    go_wp2_with fail
    refine (HC1.out _).mono ?_
    rintro e w1 ⟨rfl, hb1⟩
    have K1 := Lib.hid (KK.out.next hb1)
    have B1 := Lib.hid (below_step BB.out (Nat.le_refl _) hb1)
    obtain ⟨p0, p1, p2, p3⟩ := blk4 K1.out.k
    clear hb1
    go_wp2_with fail
    refine (HC2.out _).mono ?_
    rintro e w2 ⟨rfl, hb2⟩
    have K2 := Lib.hid (K1.out.next hb2)
    have B2 := Lib.hid (below_step B1.out (Nat.le_refl _) hb2)
    obtain ⟨q0, q1, q2, q3⟩ := blk4 K2.out.k
    clear hb2 p0 p1 p2 p3
    go_wp2_with fail
    refine (HNO.out _).mono ?_
    rintro e w3 ⟨rfl, hb3⟩
    have K3 := Lib.hid (K2.out.next hb3).drew
    have B3 := Lib.hid (below_step B2.out (Nat.le_refl _) hb3).drew
    have E3 := Lib.hid (HE.out _ B3.out)
    obtain ⟨r0, r1, r2, r3⟩ := blk4 K3.out.k
    have g0 := E3.out.o0
    have g1 := E3.out.o1
    simp only [World.cell?_drew] at r0 r1 r2 r3 g0 g1
    clear hb3 q0 q1 q2 q3
    go_wp2_with fail
    go_region_held3 (fun w' => w'.cell? ⟨w.heap.size, 0, none⟩ = some (.bool b) ∧ w'.cell? ⟨w.heap.size, 1, none⟩ = some (.string m) ∧ w'.cell? ⟨w.heap.size, 2, none⟩ = some (.bool false) ∧ w'.cell? ⟨w.heap.size, 3, none⟩ = some (.string k) ∧ w'.cell? ⟨0, 0, none⟩ = some (.bool false) ∧ w'.cell? ⟨0, 1, none⟩ = some (.string ⟨#[1]⟩))
      (first
        | exact ⟨s0, s1, s2, s3, E4.out.o0, E4.out.o1⟩
        | exact ⟨r0, r1, r2, r3, g0, g1⟩
        | go_keep)
      (first
        | (go_at_call 62; (with_reducible refine (HG.out _ E3.out).mono ?_); rintro e w4 ⟨rfl, hb4⟩; have K4 := Lib.hid (K3.out.next hb4); have B4 := Lib.hid (below_step B3.out (Nat.le_refl _) hb4); have E4 := Lib.hid (HE.out _ B4.out); obtain ⟨s0, s1, s2, s3⟩ := blk4 K4.out.k))
    go_wp2
    go_ret
    exact ⟨rfl, B4.out⟩
end Go.Proofs.YtahehlajpaoiiaaGreatDoor


/-
  The program's numerals: what their digits add up to.
-/
namespace Go.Proofs.YtahehlajpaoiiaaGreatDoor
open Go.RowKit
attribute [local go_sem ↓] Go.wp_at_zero Go.wp_at_succ

/-- The numeral in block g: the value ahead of the last digits, these, and the power of ten behind them. -/
structure Nu (g v l s : Nat) (wx : World) : Prop where
  k : wx.heap[g]? = some (.cells #[.bool false, .string (mag v), .int .i64 (l : Int), .int .i64 (s : Int)] 99 (0, 0))
  lt : g < wx.heap.size
theorem Nu.next {g v l s : Nat} {w1 w2 : World} (h : Nu g v l s w1) (hb : Below w1.heap.size w1 w2) : Nu g v l s w2 := ⟨(hb.block _ h.lt).trans h.k, Nat.lt_of_lt_of_le h.lt hb.size⟩

set_option maxHeartbeats 2000000 in
set_option maxRecDepth 100000 in
theorem empty_all (g v l s : Nat) (r : Bool) (hr : r = decide (s = 0)) (w : World) (h : Nu g v l s w) :
    Calls Tryz.prog 94 #[.pointer (some ⟨g, 0, none⟩)] w (RetV w (.bool r)) := by
  obtain ⟨a0, a1, a2, a3⟩ := blk4 h.k
  have hs : ((s : Int) == 0) = r := by
    rw [hr]
    by_cases h0 : s = 0
    · subst h0; rfl
    · rw [decide_eq_false h0]; simp; omega
  clear hr h
  go_enter Tryz.func94, Tryz.ntmps94
  go_wp2
  go_ret
  exact ⟨rfl, rfl⟩

set_option maxHeartbeats 4000000 in
set_option maxRecDepth 100000 in
theorem total_all (g v l s : Nat) (hl : l ≤ 1000000000000000000) (hs : s ≤ 1000000000000000000) (hv : (mag v).size ≤ 10000) (w : World) (h : Nu g v l s w) :
    Calls Tryz.prog 95 #[.pointer (some ⟨g, 0, none⟩)] w (RetB w (.agg #[.bool false, .string (mag (v * s + l))])) := by
  have e8 : (mag s).size ≤ 8 := mag_size_le (by omega)
  have e9 : (mag l).size ≤ 8 := mag_size_le (by omega)
  have hvs : (mag (v * s)).size ≤ 10008 := Nat.le_trans (nd_mul v s) (by unfold nd; omega)
  have HF1 := Lib.hid (fun V => fromInt_any (s : Int) (by omega) (by omega) V)
  have HF2 := Lib.hid (fun V => fromInt_any (l : Int) (by omega) (by omega) V)
  have HM := Lib.hid (fun V => mul_f (z := ((v * s : Nat) : Int)) (enc_mag v) (enc_mag s) (by omega) (by omega) (enc_mag _) (by rw [Int.natCast_mul]) V)
  have HA := Lib.hid (fun V => add_f (z := ((v * s + l : Nat) : Int)) (enc_mag (v * s)) (enc_mag l) (by omega) (by omega) (enc_mag _) (by rw [Int.natCast_add]) V)
  have HN := Lib.hid ((h.next (below_new w (.cells #[.bool false, .string ⟨#[]⟩] 23))).next (Below.refl _ _).drew)
  have KR := Lib.hid (Bq.new w #[.bool false, .string ⟨#[]⟩] 23).drew
  have BB := Lib.hid (below_new w (.cells #[.bool false, .string ⟨#[]⟩] 23)).drew
  have hlt := h.lt
  obtain ⟨a0, a1, a2, a3⟩ := blk4 HN.out.k
  have HE1 := Lib.hid (enc_mag s)
  have HE2 := Lib.hid (enc_mag l)
  generalize mag (v * s + l) = mr at *
  generalize mag (v * s) = mvs at *
  clear h hl hs hv e8 e9 hvs
  go_enter Tryz.func95, Tryz.ntmps95
  go_wp2_with fail
  go_region_held3 (fun w' => w'.cell? ⟨g, 0, none⟩ = some (.bool false) ∧ w'.cell? ⟨g, 1, none⟩ = some (.string (mag v)) ∧ w'.cell? ⟨g, 2, none⟩ = some (.int .i64 (l : Int)) ∧ w'.cell? ⟨g, 3, none⟩ = some (.int .i64 (s : Int)))
    (first
      | exact ⟨a0, a1, a2, a3⟩
      | go_keep)
    (first
      | (go_at_call 69; (with_reducible refine (HF1.out _).mono ?_); rintro e w1 ⟨rfl, hb9⟩; rw [HE1.out]; have HN := Lib.hid (HN.out.next hb9); have KR := Lib.hid (KR.out.next hb9); have BB := Lib.hid (below_step BB.out (Nat.le_refl _) hb9); obtain ⟨a0, a1, a2, a3⟩ := blk4 HN.out.k; clear hb9)
      | (go_at_call 79; (with_reducible refine (HM.out _).mono ?_); rintro e w2 ⟨rfl, hb9⟩; have HN := Lib.hid (HN.out.next hb9); have KR := Lib.hid (KR.out.next hb9); have BB := Lib.hid (below_step BB.out (Nat.le_refl _) hb9); obtain ⟨a0, a1, a2, a3⟩ := blk4 HN.out.k; clear hb9)
      | (go_at_call 69; (with_reducible refine (HF2.out _).mono ?_); rintro e w3 ⟨rfl, hb9⟩; rw [HE2.out]; have HN := Lib.hid (HN.out.next hb9); have KR := Lib.hid (KR.out.next hb9); have BB := Lib.hid (below_step BB.out (Nat.le_refl _) hb9); obtain ⟨a0, a1, a2, a3⟩ := blk4 HN.out.k; clear hb9)
      | (go_at_call 72; (with_reducible refine (HA.out _).mono ?_); rintro e w4 ⟨rfl, hb9⟩; have HN := Lib.hid (HN.out.next hb9); have KR := Lib.hid (KR.out.next hb9); have BB := Lib.hid (below_step BB.out (Nat.le_refl _) hb9); obtain ⟨a0, a1, a2, a3⟩ := blk4 HN.out.k; obtain ⟨p0, p1, f0, f1⟩ := blk_cells KR.out.k; have hne : ¬ (g = w.heap.size) := (by omega); have hne2 : ¬ (w.heap.size = g) := (by omega); clear hb9))
  go_wp2
  exact bodyPost_ret (v := .agg #[.bool false, .string mr]) (by simp [results, Tryz.results95, go_sem, p0, p1]) rfl ⟨rfl, below_set2 BB.out (Nat.le_refl _) _ _⟩
end Go.Proofs.YtahehlajpaoiiaaGreatDoor


/-
  The program's numerals: a digit behind the others.
-/
namespace Go.Proofs.YtahehlajpaoiiaaGreatDoor
open Go.RowKit
attribute [local go_sem ↓] Go.wp_at_zero Go.wp_at_succ

/-- A call that leaves numeral g with other parts, and touches nothing else that lay above block B. -/
def RetAd (w : World) (g v l s : Nat) (e : Ending) (w' : World) : Prop := e = .returned (.tuple #[]) ∧ Nu g v l s w' ∧ (∀ k, k ≠ g → k < w.heap.size → w'.heap[k]? = w.heap[k]?) ∧ w.heap.size ≤ w'.heap.size ∧ Below g w w'

theorem nu_set {W : World} {g v l s : Nat} (h : Nu g v l s W) (l' s' : Nat) :
    (Nu g v l' s' ((W.setCell ⟨g, 2, none⟩ (.int .i64 (l' : Int))).setCell ⟨g, 3, none⟩ (.int .i64 (s' : Int))) ∧ (∀ k, k ≠ g → k < W.heap.size → ((W.setCell ⟨g, 2, none⟩ (.int .i64 (l' : Int))).setCell ⟨g, 3, none⟩ (.int .i64 (s' : Int))).heap[k]? = W.heap[k]?) ∧ W.heap.size ≤ ((W.setCell ⟨g, 2, none⟩ (.int .i64 (l' : Int))).setCell ⟨g, 3, none⟩ (.int .i64 (s' : Int))).heap.size ∧ Below g W ((W.setCell ⟨g, 2, none⟩ (.int .i64 (l' : Int))).setCell ⟨g, 3, none⟩ (.int .i64 (s' : Int)))) ∧
    (Nu g v l' s' ((W.setCell ⟨g, 3, none⟩ (.int .i64 (s' : Int))).setCell ⟨g, 2, none⟩ (.int .i64 (l' : Int))) ∧ (∀ k, k ≠ g → k < W.heap.size → ((W.setCell ⟨g, 3, none⟩ (.int .i64 (s' : Int))).setCell ⟨g, 2, none⟩ (.int .i64 (l' : Int))).heap[k]? = W.heap[k]?) ∧ W.heap.size ≤ ((W.setCell ⟨g, 3, none⟩ (.int .i64 (s' : Int))).setCell ⟨g, 2, none⟩ (.int .i64 (l' : Int))).heap.size ∧ Below g W ((W.setCell ⟨g, 3, none⟩ (.int .i64 (s' : Int))).setCell ⟨g, 2, none⟩ (.int .i64 (l' : Int)))) := by
  have hk := h.k
  have hl := h.lt
  refine ⟨⟨⟨by simp [World.setCell, Array.getElem?_modify, hk], by simpa [World.setCell] using hl⟩, fun k hne _ => (Below.heap_setCell _ ⟨g, 3, none⟩ _ k hne).trans (Below.heap_setCell _ ⟨g, 2, none⟩ _ k hne), by simp [World.setCell], ((Below.refl g W).setCell (Nat.le_refl _) _).setCell (Nat.le_refl _) _⟩,
    ⟨⟨by simp [World.setCell, Array.getElem?_modify, hk], by simpa [World.setCell] using hl⟩, fun k hne _ => (Below.heap_setCell _ ⟨g, 2, none⟩ _ k hne).trans (Below.heap_setCell _ ⟨g, 3, none⟩ _ k hne), by simp [World.setCell], ((Below.refl g W).setCell (Nat.le_refl _) _).setCell (Nat.le_refl _) _⟩⟩

set_option maxHeartbeats 4000000 in
set_option maxRecDepth 100000 in
theorem add_small (g v l s d t : Nat) (hd : d ≤ 9) (ht : (s = 0 ∧ t = 1) ∨ (1 ≤ s ∧ t = s)) (hs : s ≤ 100000000000000000) (hl : l ≤ 200000000000000000) (w : World) (h : Nu g v l s w) :
    Calls Tryz.prog 93 #[.pointer (some ⟨g, 0, none⟩), .int .i64 (d : Int)] w (RetAd w g v (l * 10 + d) (t * 10)) := by
  obtain ⟨a0, a1, a2, a3⟩ := blk4 h.k
  obtain ⟨f0, f1, f2, f3⟩ := fro4 h.k
  have HN := Lib.hid (nu_set (W := w) ⟨h.k, h.lt⟩ (l * 10 + d) (t * 10))
  have e1 : ((s : Int) == 1000000000000000000) = false := by simp; omega
  have hv1 : ((l * 10 + d : Nat) : Int) = (l : Int) * 10 + (d : Int) := by omega
  have hv2 : ((t * 10 : Nat) : Int) = (t : Int) * 10 := by omega
  rw [hv1, hv2] at HN
  have w1 : IntKind.i64.wrap ((l : Int) * 10) = (l : Int) * 10 := IntWalk.i64_in _ (by omega)
  have w2 : IntKind.i64.wrap ((l : Int) * 10 + (d : Int)) = (l : Int) * 10 + (d : Int) := IntWalk.i64_in _ (by omega)
  have w3 : IntKind.i64.wrap ((t : Int) * 10) = (t : Int) * 10 := IntWalk.i64_in _ (by omega)
  clear h hv1 hv2
  rcases ht with ⟨rfl, rfl⟩ | ⟨h1, rfl⟩
  · have hm : max (0 : Int) 1 = 1 := by decide
    have hm2 : max ((0 : Nat) : Int) 1 = 1 := by decide
    go_enter Tryz.func93, Tryz.ntmps93
    go_wp2_with fail
    go_region_law (fail)
    all_goals
      go_end0
      first | exact ⟨rfl, ⟨HN.out.1.1.k, HN.out.1.1.lt⟩, HN.out.1.2.1, HN.out.1.2.2.1, HN.out.1.2.2.2.drew⟩ | exact ⟨rfl, ⟨HN.out.2.1.k, HN.out.2.1.lt⟩, HN.out.2.2.1, HN.out.2.2.2.1, HN.out.2.2.2.2.drew⟩
  · have hm : max (t : Int) 1 = (t : Int) := by omega
    go_enter Tryz.func93, Tryz.ntmps93
    go_wp2_with fail
    go_region_law (fail)
    all_goals
      go_end0
      first | exact ⟨rfl, ⟨HN.out.1.1.k, HN.out.1.1.lt⟩, HN.out.1.2.1, HN.out.1.2.2.1, HN.out.1.2.2.2.drew⟩ | exact ⟨rfl, ⟨HN.out.2.1.k, HN.out.2.1.lt⟩, HN.out.2.2.1, HN.out.2.2.2.1, HN.out.2.2.2.2.drew⟩
end Go.Proofs.YtahehlajpaoiiaaGreatDoor


/-
  The program's numerals: a digit behind eighteen others.
-/
namespace Go.Proofs.YtahehlajpaoiiaaGreatDoor
open Go.RowKit
attribute [local go_sem ↓] Go.wp_at_zero Go.wp_at_succ

set_option maxHeartbeats 4000000 in
set_option maxRecDepth 100000 in
theorem add_big (g v l d : Nat) (hd : d ≤ 9) (hl : l ≤ 1000000000000000000) (hv : (mag v).size ≤ 10000) (w : World) (h : Nu g v l 1000000000000000000 w) :
    Calls Tryz.prog 93 #[.pointer (some ⟨g, 0, none⟩), .int .i64 (d : Int)] w (RetAd w g (v * 1000000000000000000 + l) d 10) := by
  obtain ⟨a0, a1, a2, a3⟩ := blk4 h.k
  obtain ⟨f0, f1, f2, f3⟩ := fro4 h.k
  have HT := Lib.hid (fun V (hV : Nu g v l 1000000000000000000 V) => total_all g v l 1000000000000000000 hl (by omega) hv V hV)
  have HN := Lib.hid h
  have HLT := Lib.hid (Nat.le_of_lt h.lt)
  have w2 : IntKind.i64.wrap (d : Int) = (d : Int) := IntWalk.i64_in _ (by omega)
  have e1 : (((1000000000000000000 : Nat) : Int) == 1000000000000000000) = true := by decide
  generalize hmr : mag (v * 1000000000000000000 + l) = mr at HT
  have hmr := Lib.hid hmr
  clear h hl hv
  go_enter Tryz.func93, Tryz.ntmps93
  go_wp2_with fail
  refine (HT.out _ HN.out).mono ?_
  rintro e w1 ⟨rfl, hb9⟩
  have HN := Lib.hid (HN.out.next hb9)
  have BB := Lib.hid hb9
  obtain ⟨a0, a1, a2, a3⟩ := blk4 HN.out.k
  obtain ⟨f0, f1, f2, f3⟩ := fro4 HN.out.k
  clear hb9
  go_wp2_with fail
  obtain ⟨W, hWW⟩ : ∃ W, W = (((w1.setCell ⟨g, 0, none⟩ (.bool false)).setCell ⟨g, 1, none⟩ (.string mr)).setCell ⟨g, 2, none⟩ (.int .i64 0)).setCell ⟨g, 3, none⟩ (.int .i64 1) := ⟨_, rfl⟩
  rw [← hWW]
  have hk := HN.out.k
  have hl := HN.out.lt
  have NW : Nu g (v * 1000000000000000000 + l) 0 1 W := by
    subst hWW
    exact ⟨by simp [World.setCell, Array.getElem?_modify, hk, hmr.out], by simpa [World.setCell] using hl⟩
  have OW : (∀ k, k ≠ g → k < w.heap.size → W.heap[k]? = w.heap[k]?) ∧ w.heap.size ≤ W.heap.size ∧ Below g w W := by
    subst hWW
    refine ⟨fun k hne hlt => ?_, ?_, ((((BB.out.mono HLT.out).setCell (Nat.le_refl _) _).setCell (Nat.le_refl _) _).setCell (Nat.le_refl _) _).setCell (Nat.le_refl _) _⟩
    · exact (Below.heap_setCell _ ⟨g, 3, none⟩ _ k hne).trans ((Below.heap_setCell _ ⟨g, 2, none⟩ _ k hne).trans ((Below.heap_setCell _ ⟨g, 1, none⟩ _ k hne).trans ((Below.heap_setCell _ ⟨g, 0, none⟩ _ k hne).trans (BB.out.block _ hlt))))
    · have := BB.out.size
      simpa [World.setCell] using this
  have OW := Lib.hid OW
  clear hWW hk hl HN BB a0 a1 a2 a3 f0 f1 f2 f3
  obtain ⟨a0, a1, a2, a3⟩ := blk4 NW.k
  obtain ⟨f0, f1, f2, f3⟩ := fro4 NW.k
  have HN := Lib.hid (nu_set (W := W) ⟨NW.k, NW.lt⟩ d 10)
  have hm : max (1 : Int) 1 = 1 := by decide
  have hm2 : max ((1 : Nat) : Int) 1 = 1 := by decide
  have w4 : IntKind.i64.wrap 0 = 0 := IntWalk.i64_in _ (by omega)
  have w5 : IntKind.i64.wrap 10 = 10 := IntWalk.i64_in _ (by omega)
  clear NW
  go_wp2_with fail
  go_region_law (fail)
  all_goals
    go_end0
    try simp only [w4, w5, w2, Int.zero_add]
    first
      | exact ⟨rfl, ⟨HN.out.1.1.k, HN.out.1.1.lt⟩, fun k a b => (HN.out.1.2.1 k a (Nat.lt_of_lt_of_le b OW.out.2.1)).trans (OW.out.1 k a b), Nat.le_trans OW.out.2.1 HN.out.1.2.2.1, (OW.out.2.2.trans HN.out.1.2.2.2).drew⟩
      | exact ⟨rfl, ⟨HN.out.2.1.k, HN.out.2.1.lt⟩, fun k a b => (HN.out.2.2.1 k a (Nat.lt_of_lt_of_le b OW.out.2.1)).trans (OW.out.1 k a b), Nat.le_trans OW.out.2.1 HN.out.2.2.2.1, (OW.out.2.2.trans HN.out.2.2.2.2).drew⟩
      | trace_state
end Go.Proofs.YtahehlajpaoiiaaGreatDoor


/-
  The reference's decimal digits of an integer.
-/
namespace Go.Proofs.YtahehlajpaoiiaaGreatDoor
open Go.RowKit

theorem mag_digit {r : Nat} (h0 : 0 < r) (h : r < 256) : mag r = ⟨#[UInt8.ofNat r]⟩ := by
  unfold mag
  rw [magL_pos (by omega), Nat.div_eq_of_lt h, magL_zero, Nat.mod_eq_of_lt h]
  rfl

theorem cat_one (x : UInt8) (l : List UInt8) : (⟨#[x]⟩ ++ ⟨l.toArray⟩ : ByteArray) = ⟨(x :: l).toArray⟩ := by
  apply ByteArray.ext
  simp

/-- Three integers of a function that lie in blocks of their own. -/
structure P3 (w : World) (T : TypeId) (ba bt bx : Nat) (a0 a1 t0 t1 x0 x1 : Value) (wr : World) : Prop where
  ka : wr.heap[ba]? = some (.cells #[a0, a1] T (0, 0))
  kt : wr.heap[bt]? = some (.cells #[t0, t1] T (0, 0))
  kx : wr.heap[bx]? = some (.cells #[x0, x1] T (0, 0))
  la : w.heap.size ≤ ba
  lt : ba < bt
  lx : bt < bx
  sz : bx < wr.heap.size
  bel : Below w.heap.size w wr

theorem P3.next {w : World} {T : TypeId} {ba bt bx : Nat} {a0 a1 t0 t1 x0 x1 : Value} {wr w2 : World} (h : P3 w T ba bt bx a0 a1 t0 t1 x0 x1 wr) (hb : Below wr.heap.size wr w2) : P3 w T ba bt bx a0 a1 t0 t1 x0 x1 w2 := by
  have h1 := h.la; have h2 := h.lt; have h3 := h.lx; have h4 := h.sz; have h5 := hb.size
  exact ⟨(hb.block _ (by omega)).trans h.ka, (hb.block _ (by omega)).trans h.kt, (hb.block _ (by omega)).trans h.kx, h1, h2, h3, by omega, h.bel.trans (hb.mono (by omega))⟩

theorem P3.setX {w : World} {T : TypeId} {ba bt bx : Nat} {a0 a1 t0 t1 x0 x1 : Value} {wr : World} (h : P3 w T ba bt bx a0 a1 t0 t1 x0 x1 wr) (x y : Value) : P3 w T ba bt bx a0 a1 t0 t1 x y ((wr.setCell ⟨bx, 0, none⟩ x).setCell ⟨bx, 1, none⟩ y) := by
  have h1 := h.la; have h2 := h.lt; have h3 := h.lx; have h4 := h.sz
  exact ⟨(two_other (by omega) x y).trans h.ka, (two_other (by omega) x y).trans h.kt, two_set h.kx x y, h1, h2, h3, by rw [two_size]; exact h4, (h.bel.setCell (by show w.heap.size ≤ bx; omega) _).setCell (by show w.heap.size ≤ bx; omega) _⟩

/-- What is behind the digits taken so far. -/
def Dd (X R : Nat) (l : List UInt8) : Prop := R ≤ X ∧ (0 < R → Lib.decDigits X = Lib.decDigits R ++ l) ∧ (R = 0 → l = if X = 0 then [] else Lib.decDigits X)

theorem Dd.start (X : Nat) : Dd X X [] := ⟨Nat.le_refl _, fun _ => by simp, fun h => by simp [h]⟩

theorem Dd.len {X R : Nat} {l : List UInt8} (h : Dd X R l) : l.length ≤ Lib.nDigits X := by
  obtain ⟨_, h2, h3⟩ := h
  rcases Nat.eq_zero_or_pos R with h0 | h0
  · rw [h3 h0]
    split
    · simp
    · rw [Lib.decDigits_length]; exact Nat.le_refl _
  · have := congrArg List.length (h2 h0)
    rw [List.length_append, Lib.decDigits_length] at this
    omega

theorem digits_pow {X K : Nat} (h : X < 256 ^ K) : Lib.nDigits X ≤ 3 * K + 1 := by
  have h2 : 256 ^ K ≤ (10 ^ 3) ^ K := Nat.pow_le_pow_left (by decide) K
  rw [← Nat.pow_mul] at h2
  refine nDigits_le (3 * K) X (Nat.lt_of_lt_of_le (Nat.lt_of_lt_of_le h h2) (Nat.pow_le_pow_right (by decide) (by omega)))

theorem digits_few {X : Nat} {m : ByteArray} (hm : m = mag X) (hs : m.size ≤ 1000) : Lib.nDigits X ≤ 3001 := by
  have h1 : X < 256 ^ m.size := by rw [hm]; exact lt_of_mag
  have := digits_pow h1
  omega

theorem Dd.step {X R : Nat} {l : List UInt8} (h : Dd X R l) (hR : 0 < R) : Dd X (R / 10) (UInt8.ofNat (48 + R % 10) :: l) := by
  obtain ⟨h1, h2, _⟩ := h
  have h3 := h2 hR
  refine ⟨by omega, fun h4 => ?_, fun h4 => ?_⟩
  · rw [h3, Lib.decDigits, dif_neg (by omega)]
    simp
  · rw [if_neg (by omega), h3, Lib.decDigits, dif_pos (by omega), Nat.mod_eq_of_lt (by omega)]
    simp

end Go.Proofs.YtahehlajpaoiiaaGreatDoor
