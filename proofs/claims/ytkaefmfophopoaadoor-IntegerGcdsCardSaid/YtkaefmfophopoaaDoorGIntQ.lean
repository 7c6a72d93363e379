import Derived.Test.YtkaefmfophopoaaDoorGIntN

/-
  The program's differences of digits.
-/
namespace Go.Proofs.YtkaefmfophopoaaDoor
open Go.RowKit
attribute [local go_sem ↓] Go.wp_at_zero Go.wp_at_succ

/-- A digit of a difference so far: the first k are done. -/
def mnF (X Y k j : Nat) : Nat := if j < k then D B64 (X - Y) j else D B64 X j

theorem mn_step {X Y k N : Nat} (g : Nat → Nat) (hg : ∀ j, j < N → g j = mnF X Y k j) (s : Nat) (hs : s = D B64 (X - Y) k) : ∀ j, j < N → (if j = k then s else g j) = mnF X Y (k + 1) j := by
  intro j hj
  unfold mnF
  by_cases e : j = k
  · rw [if_pos e, if_pos (by omega), hs, e]
  · rw [if_neg e, hg j hj]
    unfold mnF
    by_cases e2 : j < k
    · rw [if_pos e2, if_pos (by omega)]
    · rw [if_neg e2, if_neg (by omega)]

/-- No borrow is left, and the second number has ended: the digits are done. -/
theorem mn_end {X Y k m : Nat} (hXY : Y ≤ X) (hY : Y < B64 ^ m) (hk : m ≤ k) (hc : bor B64 X Y k = 0) (j : Nat) : mnF X Y k j = D B64 (X - Y) j := by
  unfold mnF
  by_cases h : j < k
  · rw [if_pos h]
  · rw [if_neg h]
    have hYk : Y < B64 ^ k := Nat.lt_of_lt_of_le hY (Nat.pow_le_pow_right B64_pos hk)
    have hp : 0 < B64 ^ k := Nat.pow_pos B64_pos
    have hc2 : Y ≤ X % B64 ^ k := by
      unfold bor at hc
      rw [Nat.mod_eq_of_lt hYk] at hc
      by_cases h1 : X % B64 ^ k < Y
      · rw [if_pos h1] at hc; omega
      · omega
    have hd : (X - Y) / B64 ^ k = X / B64 ^ k := by
      have h1 := Nat.div_add_mod X (B64 ^ k)
      have h2 := Nat.mod_lt X hp
      have e : X - Y = (X % B64 ^ k - Y) + B64 ^ k * (X / B64 ^ k) := by omega
      rw [e, Nat.add_mul_div_left _ _ hp, Nat.div_eq_of_lt (by omega), Nat.zero_add]
    rw [D_high (P := X) (k := k) (by omega), D_high (P := X - Y) (k := k) (by omega), hd]

theorem bor_up {X Y n k : Nat} (hX : X < B64 ^ n) (hXY : Y ≤ X) (h : bor B64 X Y k ≠ 0) : k < n := by
  rcases Nat.lt_or_ge k n with h1 | h1
  · exact h1
  · have h2 : B64 ^ n ≤ B64 ^ k := Nat.pow_le_pow_right B64_pos h1
    unfold bor at h
    rw [Nat.mod_eq_of_lt (by omega), Nat.mod_eq_of_lt (by omega), if_neg (by omega)] at h
    exact absurd rfl h

theorem sub_digit {x y b d : Nat} (hx : x < 18446744073709551616) (hy : y < 18446744073709551616) (hb : b ≤ 1) (hd : d = if x < y + b then x + B64 - y - b else x - y - b) : (x + 18446744073709551616 - y - b) % 18446744073709551616 = d := by
  rw [B64_eq] at hd
  subst hd
  split <;> omega

theorem sub64_m (x b : Nat) (hb : b ≤ 1) (w : World) (d o : Nat) (hd : (x + 18446744073709551616 - 0 - b) % 18446744073709551616 = d) (ho : (if x < 0 + b then 1 else 0) = o) :
    (callFunc 78 #[.int .u64 (x : Int), .int .u64 0, .int .u64 (b : Int)]).run Tryd.prog w = .ok (.value (.tuple #[.int .u64 (d : Int), .int .u64 (o : Int)])) w :=
  sub64_fn x 0 b hb w d o hd ho

set_option maxHeartbeats 4000000 in
set_option maxRecDepth 100000 in
theorem minus_any (v : Value) (base : Nat) (A Bq : Option Addr) (n m c d X Y : Nat) (w : World) (hn : n ≤ 100000000) (hmn : m ≤ n) (h0 : 0 < n ∨ v.ownBlock ≠ none) (hXY : Y ≤ X) (hv : Own w base v 0 []) (hbase : base ≤ w.heap.size)
    (hx : Ng w A n c X) (hy : Ng w Bq m d Y) (hxa : ∀ a, A = some a → some a.block ≠ v.ownBlock) (hya : ∀ a, Bq = some a → some a.block ≠ v.ownBlock) :
    Calls Tryd.prog 53 #[v, .slice A n c, .slice Bq m d] w (RetU w v (X - Y) n) := by
  have HX := Lib.hid hx
  have HY := Lib.hid hy
  have HXA := Lib.hid hxa
  have HYA := Lib.hid hya
  have HV := Lib.hid hv
  have H0 := Lib.hid h0
  have HXY := Lib.hid hXY
  have hm : m ≤ 100000000 := by omega
  clear hx hy hxa hya hv h0 hXY
  go_enter Tryd.func53, Tryd.ntmps53
  go_wp2_with fail
  refine (room_any v base n _ (by omega) HV.out H0.out).mono ?_
  rintro e w1 ⟨g, cr, T, cur, rfl, hcr, hgc, hcs, hz, hg1, hgb⟩
  have HL0 := Lib.hid (Lies.of_room hgc hcr hcs hz)
  have HG1 := Lib.hid hg1
  have HGB := Lib.hid hgb
  have HXR := Lib.hid (HX.out.rd.grown hg1 (fun q hq a ha e => HXA.out a ha (by rw [hq, e])))
  have hgy : ∀ a, Bq = some a → a.block < w.heap.size → a.block ≠ g := fun a ha hlt e => by
    rcases HGB.out with h | h
    · exact HYA.out a ha (by rw [e, h])
    · omega
  have HGY := Lib.hid hgy
  clear hgc hcs hz hg1 hgb hgy
  go_wp2_with (with_reducible refine wpList_copy_lies rfl _ _ rfl g n cr A n c rfl rfl n (fun _ => 0) (D B64 X) HL0.out (Nat.le_refl _) (Nat.le_refl _) HXR.out ?_)
  intro w2 hl2 hgr2
  have HL2 := Lib.hid hl2
  have HGR2 := Lib.hid hgr2
  have hgrow : ∀ (wr : World), w2.grownBy wr (some g) → w.grownBy wr v.ownBlock := fun wr hg => grown_none (grown_none HG1.out HGR2.out (by
    rcases HGB.out with h | h
    · exact .inr (.inl h.symm)
    · exact .inr (.inr (fun q hq => by injection hq with hq; omega)))) hg (by
    rcases HGB.out with h | h
    · exact .inr (.inl h.symm)
    · exact .inr (.inr (fun q hq => by injection hq with hq; omega)))
  have HGROW := Lib.hid hgrow
  clear hl2 hgr2 hgrow
  go_wp2
  go_loopw [8, 20] (fun bw i wr => ∃ k : Nat, k ≤ m ∧ i = .int .i64 k ∧ bw = .int .u64 (bor B64 X Y k : Nat) ∧ Lies wr g n (mnF X Y k) ∧ w2.grownBy wr (some g)) (fun _ i _ => m - (intOf i).toNat)
  case atStart =>
    refine ⟨0, Nat.zero_le _, rfl, by rw [bor_zero]; rfl, HL2.out.congr fun i hi => ?_, World.grownBy.refl _ _⟩
    show (if i < n then D B64 X i else 0) = if i < 0 then D B64 (X - Y) i else D B64 X i
    rw [if_pos hi, if_neg (Nat.not_lt_zero _)]
  case round =>
    obtain ⟨k, hk, rfl, rfl, hlies, hg⟩ := hrel
    by_cases hlt : k < m
    · have hgw := HGROW.out _ hg
      obtain ⟨gy, oy, hB, hgy0, hcy0⟩ := HY.out.rd (by omega)
      have hgyn : gy ≠ g := HGY.out _ hB hgy0
      have hyk : wr.cell? ⟨gy, oy + k, none⟩ = some (.int .u64 (D B64 Y k : Int)) := (World.cell?_of_block (w := w) (a := ⟨gy, oy + k, none⟩) (hgw.block gy hgy0 (fun e => HYA.out _ hB e))).trans (hcy0 k hlt)
      subst hB
      clear hcy0 hgw
      have hcell := hlies.cell (i := k) (by omega)
      have hfro := hlies.frozen k
      have hval : mnF X Y k k = D B64 X k := by unfold mnF; rw [if_neg (by omega)]
      rw [hval] at hcell
      have hdx := D64_lt X k
      have hdy := D64_lt Y k
      have hbl := bor_le B64 X Y k
      have hs1 := bor_step B64_pos X Y k
      have hs2 := sub_digit hdx hdy hbl (dif_digit B64_pos HXY.out k)
      have HLI := Lib.hid hlies
      have ha := fun W => sub64_fn (D B64 X k) (D B64 Y k) (bor B64 X Y k) hbl W (D B64 (X - Y) k) (bor B64 X Y (k + 1)) hs2 hs1.symm
      have hk0 : (0 : Int) ≤ (k : Int) := by omega
      have hk1 : (k : Int) < (m : Int) := by omega
      have hk2 : (k : Int) < (n : Int) := by omega
      clear hs1 hs2 hval hlies
      go_wp2_with fail
      go_region_law (fail)
      all_goals
        go_wp2
        go_roundw
        case rel => exact ⟨k + 1, by omega, by go_num, rfl, (HLI.out.set k (D B64 (X - Y) k)).congr (mn_step _ (fun _ _ => rfl) _ rfl), grown_set (w := wr.drew) ⟨hg.os, hg.tape, hg.output, hg.size, hg.block⟩ _ _⟩
        case measure => simp [intOf] <;> omega
    · obtain rfl : k = m := by omega
      have HLI := Lib.hid hlies
      have HGW := Lib.hid hg
      clear hlies hg
      obtain ⟨wo, rfl⟩ : ∃ wo : World, wo = wr := ⟨_, rfl⟩
      go_wp2
      go_loopw [8, 10] (fun bw i wr => ∃ q : Nat, k ≤ q ∧ q ≤ n + 1 ∧ i = .int .i64 q ∧ bw = .int .u64 (bor B64 X Y q : Nat) ∧ Lies wr g n (mnF X Y q) ∧ w2.grownBy wr (some g)) (fun _ i _ => n + 2 - (intOf i).toNat)
      case atStart => exact ⟨k, Nat.le_refl _, by omega, rfl, rfl, HLI.out, HGW.out⟩
      case round =>
        obtain ⟨q, hq1, hq2, rfl, rfl, hlies, hg⟩ := hrel
        by_cases hc0 : bor B64 X Y q = 0
        · have hng : Ng wr (some ⟨g, 0, none⟩) n cr (X - Y) := ⟨Nat.lt_of_le_of_lt (Nat.sub_le _ _) HX.out.lt, hcr, (hlies.congr (fun j _ => mn_end HXY.out HY.out.lt hq1 hc0 j)).rd⟩
          have hgw := HGROW.out _ hg
          rw [hc0]
          have HNG := Lib.hid hng
          have HGZ := Lib.hid hgw
          clear hc0 hng hgw hlies hg
          go_wp2_with fail
          refine (trim_any (some ⟨g, 0, none⟩) n cr (X - Y) _ (by omega) HNG.out).mono ?_
          rintro e w' ⟨z, hz, rfl, hnm, rfl⟩
          have HNM := Lib.hid hnm
          clear hnm
          go_wp2
          go_ret
          refine ⟨_, z, cr, hz, rfl, HNM.out, HGZ.out, ?_⟩
          rcases HGB.out with h | h
          · exact .inl (by rw [h]; rfl)
          · exact .inr (fun z hz => by simp [Value.ownBlock] at hz; omega)
        · have hqn := bor_up HX.out.lt HXY.out hc0
          have hcell := hlies.cell (i := q) (by omega)
          have hfro := hlies.frozen q
          have hval : mnF X Y q q = D B64 X q := by unfold mnF; rw [if_neg (by omega)]
          have hyq : D B64 Y q = 0 := D_zero_of B64_pos HY.out.lt (by omega)
          rw [hval] at hcell
          have hdx := D64_lt X q
          have hbl := bor_le B64 X Y q
          have hs1 := bor_step B64_pos X Y q
          have hs2 := sub_digit hdx (D64_lt Y q) hbl (dif_digit B64_pos HXY.out q)
          rw [hyq] at hs1 hs2
          have hne : ((bor B64 X Y q : Int) != 0) = true := by simp; omega
          have HLJ := Lib.hid hlies
          have ha := fun W => sub64_m (D B64 X q) (bor B64 X Y q) hbl W (D B64 (X - Y) q) (bor B64 X Y (q + 1)) hs2 hs1.symm
          have hk0 : (0 : Int) ≤ (q : Int) := by omega
          have hk2 : (q : Int) < (n : Int) := by omega
          clear hs1 hs2 hval hlies hyq hc0
          go_wp2
          go_roundw
          case rel => exact ⟨q + 1, by omega, by omega, by go_num, rfl, (HLJ.out.set q (D B64 (X - Y) q)).congr (mn_step _ (fun _ _ => rfl) _ rfl), grown_set hg _ _⟩
          case measure => simp [intOf] <;> omega
end Go.Proofs.YtkaefmfophopoaaDoor


/-
  The program's sum of two integers by their digits.
-/
namespace Go.Proofs.YtkaefmfophopoaaDoor
open Go.RowKit
attribute [local go_sem ↓] Go.wp_at_zero Go.wp_at_succ

theorem heap_six (w : World) (o1 o2 o3 o4 o5 o6 : Obj) : (((((((w.alloc o1).alloc o2).alloc o3).alloc o4).alloc o5).alloc o6).heap[w.heap.size]? = some o1 ∧ ((((((w.alloc o1).alloc o2).alloc o3).alloc o4).alloc o5).alloc o6).heap[w.heap.size + 1]? = some o2 ∧
    ((((((w.alloc o1).alloc o2).alloc o3).alloc o4).alloc o5).alloc o6).heap[w.heap.size + 2]? = some o3 ∧ ((((((w.alloc o1).alloc o2).alloc o3).alloc o4).alloc o5).alloc o6).heap[w.heap.size + 3]? = some o4) ∧
    ((((((w.alloc o1).alloc o2).alloc o3).alloc o4).alloc o5).alloc o6).heap[w.heap.size + 4]? = some o5 ∧ ((((((w.alloc o1).alloc o2).alloc o3).alloc o4).alloc o5).alloc o6).heap[w.heap.size + 5]? = some o6 := by
  obtain ⟨a1, a2, a3, a4⟩ := heap_four w o1 o2 o3 o4
  have h5 := heap_one ((((w.alloc o1).alloc o2).alloc o3).alloc o4) o5
  have h6 := heap_one (((((w.alloc o1).alloc o2).alloc o3).alloc o4).alloc o5) o6
  have up : ∀ k, k < w.heap.size + 4 → ((((((w.alloc o1).alloc o2).alloc o3).alloc o4).alloc o5).alloc o6).heap[k]? = ((((w.alloc o1).alloc o2).alloc o3).alloc o4).heap[k]? := fun k hk =>
    (Below.heap_alloc _ _ _ (by simp <;> omega)).trans (Below.heap_alloc _ _ _ (by simp <;> omega))
  refine ⟨⟨(up _ (by omega)).trans a1, (up _ (by omega)).trans a2, (up _ (by omega)).trans a3, (up _ (by omega)).trans a4⟩, ?_, by simpa using h6⟩
  exact (Below.heap_alloc _ _ _ (by simp <;> omega)).trans (by simpa using h5)

theorem sgn_add_same (na : Bool) (X Y : Nat) : sgn na (X + Y) = sgn na X + sgn na Y := by cases na <;> simp [sgn] <;> omega
theorem sgn_add_not (na : Bool) {X Y : Nat} (h : Y ≤ X) : sgn na (X - Y) = sgn na X + sgn (!na) Y := by cases na <;> simp [sgn] <;> omega

theorem sgn_add_not2 (na : Bool) {X Y : Nat} (h : X ≤ Y) : sgn (!na) (Y - X) = sgn na X + sgn (!na) Y := by cases na <;> simp [sgn] <;> omega

theorem Nm.le_len {w w' : World} {A B : Option Addr} {n m c d X Y : Nat} (hx : Ng w A n c X) (hy : Nm w' B m d Y) (h : Y ≤ X) : m ≤ n := by
  rcases Nat.lt_or_ge n m with h1 | h1
  · have h2 : B64 ^ n ≤ B64 ^ (m - 1) := Nat.pow_le_pow_right B64_pos (by omega)
    have h3 := hy.top (by omega)
    have h4 := hx.lt
    omega
  · exact h1

theorem Nm.drew {w w' : World} {A : Option Addr} {n c V : Nat} (h : Nm w A n c V) (hd : Drew w w') : Nm w' A n c V := by
  obtain ⟨q, rfl⟩ := hd
  exact ⟨h.toNg.drewN q, h.top⟩

end Go.Proofs.YtkaefmfophopoaaDoor
