import Derived.Test.YtahehlajpaoiiaaGreatDoorGRefG
import Derived.Laws.CopyOwn
import Derived.Test.YtahehlajpaoiiaaGreatDoorGQB

/-
  The program's comparison of digits; copies of digits.
-/
namespace Go.Proofs.YtahehlajpaoiiaaGreatDoor
open Go.RowKit
attribute [local go_sem ↓] Go.wp_at_zero Go.wp_at_succ

set_option maxRecDepth 100000 in
theorem sign_true (w : World) : Calls Tryz.prog 151 #[.bool true] w (RetV w (.int .i64 1)) := by
  go_enter Tryz.func151, Tryz.ntmps151
  go_wp2
  go_ret
  exact ⟨rfl, rfl⟩
set_option maxRecDepth 100000 in
theorem sign_false (w : World) : Calls Tryz.prog 151 #[.bool false] w (RetV w (.int .i64 (-1))) := by
  go_enter Tryz.func151, Tryz.ntmps151
  go_wp2
  go_ret
  exact ⟨rfl, rfl⟩

/-- The sign of a Bool, as the program has it. -/
def sgB (b : Bool) : Int := if b then 1 else -1
theorem sign_any (b : Bool) (w : World) : Calls Tryz.prog 151 #[.bool b] w (RetV w (.int .i64 (sgB b))) := by
  cases b
  · exact sign_false w
  · exact sign_true w

/-- The world behind some draws. -/
def Drew (w w' : World) : Prop := ∃ q, w' = w.drewN q
theorem Drew.refl (w : World) : Drew w w := ⟨0, rfl⟩
theorem Drew.drewN {w w' : World} (h : Drew w w') (k : Nat) : Drew w (w'.drewN k) := by
  obtain ⟨q, rfl⟩ := h
  exact ⟨q + k, by rw [World.drewN_drewN]⟩
theorem Drew.below {w w' : World} (h : Drew w w') (B : Nat) : Below B w w' := by
  obtain ⟨q, rfl⟩ := h
  exact below_draws (Below.refl _ _) q
theorem Drew.cell {w w' : World} (h : Drew w w') (a : Addr) : w'.cell? a = w.cell? a := by
  obtain ⟨q, rfl⟩ := h
  rfl

/-- A call that compares, the world as it was but for draws. -/
def RetO (w : World) (z : Int) (e : Ending) (w' : World) : Prop := e = .returned (.int .i64 z) ∧ Drew w w'

theorem ord_of_len {A B : Option Addr} {n m c d X Y : Nat} {w : World} (hx : Nm w A n c X) (hy : Nm w B m d Y) (h : n ≠ m) : ord X Y = sgB (decide (m < n)) := by
  have key : ∀ {p q P Q : Nat}, p < q → P < B64 ^ p → (0 < q → B64 ^ (q - 1) ≤ Q) → P < Q := fun {p q P Q} h1 h2 h3 => by
    have h4 : B64 ^ p ≤ B64 ^ (q - 1) := Nat.pow_le_pow_right B64_pos (by omega)
    have h5 := h3 (by omega)
    omega
  unfold sgB
  by_cases hlt : m < n
  · rw [decide_eq_true hlt, ord_gt (key hlt hy.lt hx.top)]; rfl
  · rw [decide_eq_false hlt, ord_lt (key (by omega) hx.lt hy.top)]; rfl

set_option maxHeartbeats 2000000 in
set_option maxRecDepth 100000 in
theorem compare_any (A B : Option Addr) (n m c d X Y : Nat) (w : World) (hn : n ≤ 1000000000) (hm : m ≤ 1000000000) (hx : Nm w A n c X) (hy : Nm w B m d Y) :
    Calls Tryz.prog 131 #[.slice A n c, .slice B m d] w (RetO w (ord X Y)) := by
  by_cases hlen : n = m
  · subst hlen
    have hstep : ∀ j, X / B64 ^ (j + 1) = Y / B64 ^ (j + 1) → D B64 X j = D B64 Y j → X / B64 ^ j = Y / B64 ^ j := fun j h1 h2 => by rw [div_D B64 X j, div_D B64 Y j, h1, h2]
    have hst : X / B64 ^ n = Y / B64 ^ n := by rw [Nat.div_eq_of_lt hx.lt, Nat.div_eq_of_lt hy.lt]
    have HX := Lib.hid hx
    have HY := Lib.hid hy
    have HS := Lib.hid hstep
    have HT := Lib.hid hst
    clear hx hy hstep hst
    go_enter Tryz.func131, Tryz.ntmps131
    go_wp2
    go_loopw [5] (fun i wr => ∃ k : Nat, k ≤ n ∧ i = .int .i64 ((k : Int) - 1) ∧ Hid (X / B64 ^ k = Y / B64 ^ k) ∧ Drew w wr) (fun i _ => (intOf i + 1).toNat)
    case atStart => exact ⟨n, Nat.le_refl _, rfl, HT, Drew.refl _⟩
    case round =>
      obtain ⟨k, hk, rfl, HE, HD⟩ := hrel
      rcases k with _ | j
      · have e : (((0 : Nat) : Int) - 1) = -1 := rfl
        rw [e]
        go_wp2
        go_ret
        have h := HE.out
        simp at h
        subst h
        exact ⟨congrArg (fun z => Ending.returned (.int .i64 z)) (ord_eq X).symm, HD⟩
      · have e : (((j + 1 : Nat) : Int) - 1) = (j : Int) := by omega
        rw [e]
        clear e
        obtain ⟨g1, o1, rfl, hg1, hc1⟩ := HX.out.rd (by omega)
        obtain ⟨g2, o2, rfl, hg2, hc2⟩ := HY.out.rd (by omega)
        have hc1j := (HD.cell ⟨g1, o1 + j, none⟩).trans (hc1 j (by omega))
        have hc2j := (HD.cell ⟨g2, o2 + j, none⟩).trans (hc2 j (by omega))
        have hj0 : (0 : Int) ≤ (j : Int) := by omega
        have hj1 : (j : Int) < (n : Int) := by omega
        have hlo := fun h2 => ord_lt (lt_of_digit HE.out (b := B64) (X := X) (Y := Y) (k := j) h2)
        have hhi := fun h2 => ord_gt (lt_of_digit HE.out.symm (b := B64) (X := Y) (Y := X) (k := j) h2)
        have hst := HS.out j HE.out
        have HLO := Lib.hid hlo
        have HHI := Lib.hid hhi
        have HST := Lib.hid hst
        clear hc1 hc2 hlo hhi hst
        generalize D B64 X j = x at *
        generalize D B64 Y j = y at *
        by_cases hxy : x = y
        · subst hxy
          have hne : ((x : Int) != (x : Int)) = false := by simp
          go_wp2_with fail
          go_quiet (fail)
          go_wp2
          go_roundw
          case rel => exact ⟨j, by omega, by go_num, HST.out trivial, HD.drewN _⟩
          case measure => simp [intOf] <;> omega
        · have hne : ((x : Int) != (y : Int)) = true := by simp; omega
          obtain ⟨b, hb⟩ : ∃ b, decide (y < x) = b := ⟨_, rfl⟩
          have hgt : decide ((y : Int) < (x : Int)) = b := by rw [← hb]; simp
          have HB := Lib.hid hb
          have HNE := Lib.hid hxy
          clear hb hxy
          go_wp2_with fail
          go_quiet (fail)
          go_wp2_with fail
          go_quiet ((go_at_call 151; first | exact quietV (sign_any _ _) | exact (sign_any _ _).mono fun _ _ ⟨he, hm⟩ => ⟨he, by rw [← hm]; exact ⟨_, by rw [World.drewN_drewN]⟩⟩ | exact (sign_any _ _).mono fun _ _ ⟨he, hm⟩ => ⟨he, _, hm.symm⟩))
          go_wp2
          go_ret
          refine ⟨congrArg (fun z => Ending.returned (.int .i64 z)) ?_, (HD.drewN _).drewN _⟩
          have hb := HB.out
          have hxy := HNE.out
          by_cases hlt : y < x
          · rw [HHI.out hlt, decide_eq_true hlt]; rfl
          · rw [HLO.out (by omega), decide_eq_false hlt]; rfl
  · have hne : ((n : Int) != (m : Int)) = true := by simp; omega
    have hv := ord_of_len hx hy hlen
    obtain ⟨b, hb⟩ : ∃ b, decide (m < n) = b := ⟨_, rfl⟩
    rw [hb] at hv
    have HV := Lib.hid hv
    clear hv hx hy hlen
    go_enter Tryz.func131, Tryz.ntmps131
    go_wp2_with fail
    refine (sign_any _ _).mono ?_
    rintro e w' ⟨rfl, rfl⟩
    go_wp2
    go_ret
    exact ⟨congrArg (fun z => Ending.returned (.int .i64 z)) HV.out.symm, Drew.refl _⟩

set_option maxRecDepth 100000 in
/-- A call of the built-in copy to the head of a block that holds numbers. -/
theorem wpList_copy_lies {w : World} {ops : Array Oper} {rest : List Oper} {o : Oper} {a : Act} {Q : Exit → Act → World → Prop} (hgd : o.guard = none) (d s : Operand)
    (ho : o.op = .call { callee := .builtin .copy, args := #[d, s], argTypes := #[114, 114] })
    (g dLen dCap : Nat) (A : Option Addr) (n c : Nat) (hd : a.eval d = .slice (some ⟨g, 0, none⟩) dLen dCap) (hs : a.eval s = .slice A n c) (N : Nat) (F f : Nat → Nat)
    (hl : Lies w g N F) (hn : n ≤ dLen) (hN : dLen ≤ N) (hr : Rd w .u64 A n f)
    (h : ∀ w', Lies w' g N (fun i => if i < n then f i else F i) → w.grownBy w' (some g) → wpList Tryz.prog ops Q rest (a.put o.dst (goInt n)) w') : wpList Tryz.prog ops Q (o :: rest) a w := by
  have hu : Tryz.prog.underlying 114 = some (.slice 106) := Tryz.underlying114
  have hsz : (Tryz.prog.info? 106).map (·.size) = some 1 := by kernel_rfl
  by_cases h0 : n = 0
  · subst h0
    refine wpList_copy_nothing hgd d s _ _ ho 106 hu hsz _ _ _ _ _ _ hd hs (Nat.min_eq_left (Nat.zero_le _)) ?_
    exact h w (hl.congr fun i hi => by rw [if_neg (by omega)]) (World.grownBy.refl _ _)
  · obtain ⟨cur, T, hg, hcs, hcell⟩ := hl
    obtain ⟨gx, ox, rfl, hgx, hcx⟩ := hr (by omega)
    have hnl : (nums .u64 f n).length = n := nums_length _ _ _
    refine wpList_copy_own hgd d s _ _ ho 106 hu hsz g 0 _ _ _ _ _ hd hs cur T hg (nums .u64 f n) (by rw [hnl]; exact (Nat.min_eq_left hn).symm) ?_ (by rw [hnl]; omega) ?_ ?_
    · intro j v hj
      have hjn : j < n := by
        rcases Nat.lt_or_ge j n with h1 | h1
        · exact h1
        · rw [List.getElem?_eq_none (by rw [hnl]; exact h1)] at hj; cases hj
      rw [nums_get _ _ _ _ hjn] at hj
      injection hj with hj
      subst hj
      rw [Addr.add_lit]
      exact hcx j hjn
    · intro v hv
      unfold nums at hv
      obtain ⟨_, _, rfl⟩ := List.mem_map.1 hv
      rfl
    · rw [hnl]
      refine h _ ⟨_, T, setRow_heap w g cur _ T _ hg, ?_, fun i hi => ?_⟩ ⟨rfl, rfl, rfl, by simp [World.setRow], fun k _ hk => setRow_other w g k _ (fun e => hk (by rw [e]))⟩
      · simp; omega
      · by_cases hi2 : i < n
        · show _ = some (Value.int .u64 ((if i < n then f i else F i : Nat) : Int))
          rw [if_pos hi2]
          have := nums_get .u64 f n i hi2
          have e3 : (nums .u64 f n)[i]'(by rw [hnl]; exact hi2) = Value.int .u64 (f i : Int) := by
            have h3 := List.getElem?_eq_getElem (l := nums .u64 f n) (i := i) (by rw [hnl]; exact hi2)
            rw [h3] at this
            injection this
          simp [List.getElem?_append, hnl, hi2, e3]
        · show _ = some (Value.int .u64 ((if i < n then f i else F i : Nat) : Int))
          rw [if_neg hi2]
          have := hcell i hi
          have e : n + (i - n) = i := by omega
          simp [List.getElem?_append, hnl, hi2, e, this]
end Go.Proofs.YtahehlajpaoiiaaGreatDoor


/-
  The second reference's sums and differences of digits.
-/
namespace Go.Proofs.YtahehlajpaoiiaaGreatDoor
open Go.RowKit
attribute [local go_sem ↓] Go.wp_at_zero Go.wp_at_succ

set_option maxHeartbeats 4000000 in
set_option maxRecDepth 100000 in
theorem rplus (A B : Option Addr) (n m c d X Y : Nat) (w : World) (hn : n ≤ 100000000) (hm : m ≤ 100000000) (hx : Dg w .i64 256 A n X) (hy : Dg w .i64 256 B m Y) :
    Calls Tryz.prog 76 #[.slice A n c, .slice B m d] w (RetTr w (X + Y)) := by
  have HX := Lib.hid hx
  have HY := Lib.hid hy
  clear hx hy
  obtain ⟨i0, hi, hz0, hz1, hz2⟩ := info_parts intTy_info
  go_enter Tryz.func76, Tryz.ntmps76
  go_wp2
  go_loopw [5, 6, 7] (fun v cy i wr => ∃ k : Nat, k ≤ n + m + 1 ∧ i = .int .i64 k ∧ cy = .int .i64 (car 256 X 1 Y k : Nat) ∧ wr.ownsRow w.heap.size 3 1 v k (nums .i64 (D 256 (X + Y)) k) ∧ Below w.heap.size w wr)
    (fun _ _ i _ => n + m + 2 - (intOf i).toNat)
  case atStart => exact ⟨0, by omega, rfl, by rw [car_zero]; rfl, World.ownsRow_nil _ _ _ _, Below.refl _ _⟩
  case round =>
    obtain ⟨k, hk, rfl, rfl, hown, hnx⟩ := hrel
    have hcl := car_lt (b := 256) (by omega) (x := 1) (by omega) X Y k
    have hcp := car_pos_le (b := 256) (k := k) (by omega) HX.out.lt HY.out.lt
    obtain ⟨hs1, hs2⟩ := car_step (b := 256) (by omega) X 1 Y k
    have hdx := D_lt (b := 256) (by omega) X k
    have hdy := D_lt (b := 256) (by omega) Y k
    have HX0 := Lib.hid (fun h : n ≤ k => D_zero_of (b := 256) (by omega) HX.out.lt (i := k) h)
    have HY0 := Lib.hid (fun h : m ≤ k => D_zero_of (b := 256) (by omega) HY.out.lt (i := k) h)
    have hend : n ≤ k → m ≤ k → car 256 X 1 Y k = 0 → X + Y < 256 ^ k := fun h1 h2 h3 => by
      have p1 : 256 ^ n ≤ 256 ^ k := Nat.pow_le_pow_right (by omega) h1
      have p2 : 256 ^ m ≤ 256 ^ k := Nat.pow_le_pow_right (by omega) h2
      have q1 := HX.out.lt
      have q2 := HY.out.lt
      have := lt_of_car (b := 256) (x := 1) (by omega) (Nat.lt_of_lt_of_le q1 p1) (Nat.lt_of_lt_of_le q2 p2) h3
      omega
    simp only [Nat.one_mul] at hs1 hs2
    generalize hcyy : car 256 X 1 Y k = cy at *
    generalize hpp : D 256 X k = p at *
    generalize hqq : D 256 Y k = q at *
    have HCY := Lib.hid hcyy
    have Hp := Lib.hid hpp
    have Hq := Lib.hid hqq
    have HS1 := Lib.hid hs1
    have HS2 := Lib.hid hs2
    have HEND := Lib.hid hend
    have hgo1 : (k < n ∨ k < m) ∨ 0 < cy → k + 1 ≤ n + m + 1 := fun h => by
      rcases h with h | h
      · omega
      · have := hcp h; omega
    have HGO := Lib.hid hgo1
    clear hcyy hpp hqq hs1 hs2 hend hcp hgo1
    by_cases h1 : k < n
    · by_cases h2 : k < m
      · obtain ⟨g, o, rfl, hgg, hcellg⟩ := (HX.out.rd.below hnx) (by omega)
        have hc1 : wr.cell? ⟨g, o + k, none⟩ = some (.int .i64 (p : Int)) := by rw [hcellg k (by omega), Hp.out]
        clear hcellg
        obtain ⟨g', o', rfl, hgg', hcellg'⟩ := (HY.out.rd.below hnx) (by omega)
        have hc2 : wr.cell? ⟨g', o' + k, none⟩ = some (.int .i64 (q : Int)) := by rw [hcellg' k (by omega), Hq.out]
        clear hcellg'
        have hk1 := HGO.out (by omega)
        go_wp2_with (at_builtin; refine wpList_append_own _ rfl _ _ 65 rfl w.heap.size 3 i0 (.int .i64 0) 1 8 Tryz.underlying65 hi hz0 hz1 hz2 rfl (by decide) _ _ _ rfl (hown.alloc _) ⟨wr.heap.size, 0, none⟩ 1 1 [.int .i64 (((cy + p + q) % 256 : Nat) : Int)] rfl rfl ?_ ?_ ?_ ?_ ?_ ?_)
        · intro j u hj; exact one_cell j u hj (by go_num)
        · intro u hu; simp at hu; subst hu; rfl
        · unfold maxLen; omega
        · omega
        · have := hnx.size; simp; omega
        intro v' w1 hown' hgrow _
        have hown2 := own_next hown' (by rw [← HS2.out]; congr 1; omega)
        have hb1 : Below w.heap.size wr w1 := ((Below.refl _ _).alloc hnx.size _).grown hgrow (by simp; exact Nat.le_succ_of_le hnx.size) (fun g hg => ((hown.lt) g hg).1)
        clear hgrow hown' hown
        go_wp2
        go_roundw
        case rel => exact ⟨k + 1, by omega, by go_num, by rw [← HS1.out]; go_num, hown2, hnx.trans hb1⟩
        case measure => simp [intOf] <;> omega
      · obtain ⟨g, o, rfl, hgg, hcellg⟩ := (HX.out.rd.below hnx) (by omega)
        have hc1 : wr.cell? ⟨g, o + k, none⟩ = some (.int .i64 (p : Int)) := by rw [hcellg k (by omega), Hp.out]
        clear hcellg
        have hk1 := HGO.out (by omega)
        go_wp2_with (at_builtin; refine wpList_append_own _ rfl _ _ 65 rfl w.heap.size 3 i0 (.int .i64 0) 1 8 Tryz.underlying65 hi hz0 hz1 hz2 rfl (by decide) _ _ _ rfl (hown.alloc _) ⟨wr.heap.size, 0, none⟩ 1 1 [.int .i64 (((cy + p + q) % 256 : Nat) : Int)] rfl rfl ?_ ?_ ?_ ?_ ?_ ?_)
        · intro j u hj; exact one_cell j u hj (by have hq0 := HY0.out (by omega); go_num)
        · intro u hu; simp at hu; subst hu; rfl
        · unfold maxLen; omega
        · omega
        · have := hnx.size; simp; omega
        intro v' w1 hown' hgrow _
        have hown2 := own_next hown' (by rw [← HS2.out]; congr 1; omega)
        have hb1 : Below w.heap.size wr w1 := ((Below.refl _ _).alloc hnx.size _).grown hgrow (by simp; exact Nat.le_succ_of_le hnx.size) (fun g hg => ((hown.lt) g hg).1)
        clear hgrow hown' hown
        go_wp2
        go_roundw
        case rel => exact ⟨k + 1, by omega, by go_num, by rw [← HS1.out]; have hq0 := HY0.out (by omega); go_num, hown2, hnx.trans hb1⟩
        case measure => simp [intOf] <;> omega
    · by_cases h2 : k < m
      · obtain ⟨g', o', rfl, hgg', hcellg'⟩ := (HY.out.rd.below hnx) (by omega)
        have hc2 : wr.cell? ⟨g', o' + k, none⟩ = some (.int .i64 (q : Int)) := by rw [hcellg' k (by omega), Hq.out]
        clear hcellg'
        have hk1 := HGO.out (by omega)
        go_wp2_with (at_builtin; refine wpList_append_own _ rfl _ _ 65 rfl w.heap.size 3 i0 (.int .i64 0) 1 8 Tryz.underlying65 hi hz0 hz1 hz2 rfl (by decide) _ _ _ rfl (hown.alloc _) ⟨wr.heap.size, 0, none⟩ 1 1 [.int .i64 (((cy + p + q) % 256 : Nat) : Int)] rfl rfl ?_ ?_ ?_ ?_ ?_ ?_)
        · intro j u hj; exact one_cell j u hj (by have hp0 := HX0.out (by omega); go_num)
        · intro u hu; simp at hu; subst hu; rfl
        · unfold maxLen; omega
        · omega
        · have := hnx.size; simp; omega
        intro v' w1 hown' hgrow _
        have hown2 := own_next hown' (by rw [← HS2.out]; congr 1; omega)
        have hb1 : Below w.heap.size wr w1 := ((Below.refl _ _).alloc hnx.size _).grown hgrow (by simp; exact Nat.le_succ_of_le hnx.size) (fun g hg => ((hown.lt) g hg).1)
        clear hgrow hown' hown
        go_wp2
        go_roundw
        case rel => exact ⟨k + 1, by omega, by go_num, by rw [← HS1.out]; have hp0 := HX0.out (by omega); go_num, hown2, hnx.trans hb1⟩
        case measure => simp [intOf] <;> omega
      · by_cases h3 : 0 < cy
        · have hcy : 0 < cy := h3
          have hk1 := HGO.out (by omega)
          go_wp2_with (at_builtin; refine wpList_append_own _ rfl _ _ 65 rfl w.heap.size 3 i0 (.int .i64 0) 1 8 Tryz.underlying65 hi hz0 hz1 hz2 rfl (by decide) _ _ _ rfl (hown.alloc _) ⟨wr.heap.size, 0, none⟩ 1 1 [.int .i64 (((cy + p + q) % 256 : Nat) : Int)] rfl rfl ?_ ?_ ?_ ?_ ?_ ?_)
          · intro j u hj; exact one_cell j u hj (by have hp0 := HX0.out (by omega); have hq0 := HY0.out (by omega); go_num)
          · intro u hu; simp at hu; subst hu; rfl
          · unfold maxLen; omega
          · omega
          · have := hnx.size; simp; omega
          intro v' w1 hown' hgrow _
          have hown2 := own_next hown' (by rw [← HS2.out]; congr 1; omega)
          have hb1 : Below w.heap.size wr w1 := ((Below.refl _ _).alloc hnx.size _).grown hgrow (by simp; exact Nat.le_succ_of_le hnx.size) (fun g hg => ((hown.lt) g hg).1)
          clear hgrow hown' hown
          go_wp2
          go_roundw
          case rel => exact ⟨k + 1, by omega, by go_num, by rw [← HS1.out]; have hp0 := HX0.out (by omega); have hq0 := HY0.out (by omega); go_num, hown2, hnx.trans hb1⟩
          case measure => simp [intOf] <;> omega
        · obtain ⟨A', c', rfl, hc', hn', hr, hnew⟩ := own_form hown
          have HW := Lib.hid hnew
          clear hnew
          have hd : Dg wr .i64 256 A' k (X + Y) := ⟨HEND.out (by omega) (by omega) (by omega), hr⟩
          have HD := Lib.hid hd
          have HN := Lib.hid hn'
          clear hr hd hown hn'
          go_wp2_with fail
          refine (rtrim_any A' k c' (X + Y) _ (by omega) hc' HD.out).mono ?_
          rintro e w' ⟨rfl, rfl⟩
          go_wp2
          go_ret
          exact ⟨A', _, c', rfl, Tr.of hc' HN.out HD.out, hnx, HW.out⟩

set_option maxHeartbeats 4000000 in
set_option maxRecDepth 100000 in
theorem rminus (A B : Option Addr) (n m c d X Y : Nat) (w : World) (hn : n ≤ 100000000) (hm : m ≤ 100000000) (hx : Dg w .i64 256 A n X) (hy : Dg w .i64 256 B m Y) (hXY : Y ≤ X) :
    Calls Tryz.prog 78 #[.slice A n c, .slice B m d] w (RetTr w (X - Y)) := by
  have HX := Lib.hid hx
  have HY := Lib.hid hy
  have HXY := Lib.hid hXY
  clear hx hy hXY
  obtain ⟨i0, hi, hz0, hz1, hz2⟩ := info_parts intTy_info
  go_enter Tryz.func78, Tryz.ntmps78
  go_wp2
  go_loopw [5, 6, 7] (fun v bw i wr => ∃ k : Nat, k ≤ n ∧ i = .int .i64 k ∧ bw = .int .i64 (bor 256 X Y k : Nat) ∧ wr.ownsRow w.heap.size 3 1 v k (nums .i64 (D 256 (X - Y)) k) ∧ Below w.heap.size w wr)
    (fun _ _ i _ => n - (intOf i).toNat)
  case atStart => exact ⟨0, by omega, rfl, by rw [bor_zero]; rfl, World.ownsRow_nil _ _ _ _, Below.refl _ _⟩
  case round =>
    obtain ⟨k, hk, rfl, rfl, hown, hnx⟩ := hrel
    by_cases hlt : k < n
    · have hbl := bor_le 256 X Y k
      have hs1 := bor_step (b := 256) (by omega) X Y k
      have hs2 := dif_digit (b := 256) (by omega) HXY.out k
      have hdx := D_lt (b := 256) (by omega) X k
      have hdy := D_lt (b := 256) (by omega) Y k
      have HY0 := Lib.hid (fun h : m ≤ k => D_zero_of (b := 256) (by omega) HY.out.lt (i := k) h)
      generalize hbb : bor 256 X Y k = bw at *
      generalize hpp : D 256 X k = p at *
      generalize hqq : D 256 Y k = q at *
      have HB := Lib.hid hbb
      have Hp := Lib.hid hpp
      have Hq := Lib.hid hqq
      have HS1 := Lib.hid hs1
      have HS2 := Lib.hid hs2
      clear hbb hs1 hs2 hpp hqq
      obtain ⟨g, o, rfl, hgg, hcellg⟩ := (HX.out.rd.below hnx) (by omega)
      have hc1 : wr.cell? ⟨g, o + k, none⟩ = some (.int .i64 (p : Int)) := by rw [hcellg k (by omega), Hp.out]
      clear hcellg
      by_cases hneg : p < q + bw
      · by_cases h2 : k < m
        · obtain ⟨g', o', rfl, hgg', hcellg'⟩ := (HY.out.rd.below hnx) (by omega)
          have hc2 : wr.cell? ⟨g', o' + k, none⟩ = some (.int .i64 (q : Int)) := by rw [hcellg' k (by omega), Hq.out]
          clear hcellg'
          have hd0 : (p : Int) - (bw : Int) - (q : Int) < 0 := by omega
          go_wp2_with (at_builtin; refine wpList_append_own _ rfl _ _ 65 rfl w.heap.size 3 i0 (.int .i64 0) 1 8 Tryz.underlying65 hi hz0 hz1 hz2 rfl (by decide) _ _ _ rfl (hown.alloc _) ⟨wr.heap.size, 0, none⟩ 1 1 [.int .i64 ((p + 256 - q - bw : Nat) : Int)] rfl rfl ?_ ?_ ?_ ?_ ?_ ?_)
          · intro j u hj; exact one_cell j u hj (by simp <;> omega)
          · intro u hu; simp at hu; subst hu; rfl
          · unfold maxLen; omega
          · omega
          · have := hnx.size; simp; omega
          intro v' w1 hown' hgrow _
          have hown2 := own_next hown' (by rw [HS2.out, if_pos hneg])
          have hb1 : Below w.heap.size wr w1 := ((Below.refl _ _).alloc hnx.size _).grown hgrow (by simp; exact Nat.le_succ_of_le hnx.size) (fun g hg => ((hown.lt) g hg).1)
          clear hgrow hown' hown
          go_wp2
          go_roundw
          case rel => exact ⟨k + 1, by omega, by go_num, by rw [HS1.out, if_pos hneg]; rfl, hown2, hnx.trans hb1⟩
          case measure => simp [intOf] <;> omega
        · have hd0 : (p : Int) - (bw : Int) < 0 := by have hq0 := HY0.out (by omega); omega
          go_wp2_with (at_builtin; refine wpList_append_own _ rfl _ _ 65 rfl w.heap.size 3 i0 (.int .i64 0) 1 8 Tryz.underlying65 hi hz0 hz1 hz2 rfl (by decide) _ _ _ rfl (hown.alloc _) ⟨wr.heap.size, 0, none⟩ 1 1 [.int .i64 ((p + 256 - q - bw : Nat) : Int)] rfl rfl ?_ ?_ ?_ ?_ ?_ ?_)
          · intro j u hj; exact one_cell j u hj (by have hq0 := HY0.out (by omega); simp <;> omega)
          · intro u hu; simp at hu; subst hu; rfl
          · unfold maxLen; omega
          · omega
          · have := hnx.size; simp; omega
          intro v' w1 hown' hgrow _
          have hown2 := own_next hown' (by rw [HS2.out, if_pos hneg])
          have hb1 : Below w.heap.size wr w1 := ((Below.refl _ _).alloc hnx.size _).grown hgrow (by simp; exact Nat.le_succ_of_le hnx.size) (fun g hg => ((hown.lt) g hg).1)
          clear hgrow hown' hown
          go_wp2
          go_roundw
          case rel => exact ⟨k + 1, by omega, by go_num, by rw [HS1.out, if_pos hneg]; rfl, hown2, hnx.trans hb1⟩
          case measure => simp [intOf] <;> omega
      · by_cases h2 : k < m
        · obtain ⟨g', o', rfl, hgg', hcellg'⟩ := (HY.out.rd.below hnx) (by omega)
          have hc2 : wr.cell? ⟨g', o' + k, none⟩ = some (.int .i64 (q : Int)) := by rw [hcellg' k (by omega), Hq.out]
          clear hcellg'
          have hd0 : 0 ≤ (p : Int) - (bw : Int) - (q : Int) := by omega
          go_wp2_with (at_builtin; refine wpList_append_own _ rfl _ _ 65 rfl w.heap.size 3 i0 (.int .i64 0) 1 8 Tryz.underlying65 hi hz0 hz1 hz2 rfl (by decide) _ _ _ rfl (hown.alloc _) ⟨wr.heap.size, 0, none⟩ 1 1 [.int .i64 ((p - q - bw : Nat) : Int)] rfl rfl ?_ ?_ ?_ ?_ ?_ ?_)
          · intro j u hj; exact one_cell j u hj (by simp <;> omega)
          · intro u hu; simp at hu; subst hu; rfl
          · unfold maxLen; omega
          · omega
          · have := hnx.size; simp; omega
          intro v' w1 hown' hgrow _
          have hown2 := own_next hown' (by rw [HS2.out, if_neg hneg])
          have hb1 : Below w.heap.size wr w1 := ((Below.refl _ _).alloc hnx.size _).grown hgrow (by simp; exact Nat.le_succ_of_le hnx.size) (fun g hg => ((hown.lt) g hg).1)
          clear hgrow hown' hown
          go_wp2
          go_roundw
          case rel => exact ⟨k + 1, by omega, by go_num, by rw [HS1.out, if_neg hneg]; rfl, hown2, hnx.trans hb1⟩
          case measure => simp [intOf] <;> omega
        · have hd0 : 0 ≤ (p : Int) - (bw : Int) := by have hq0 := HY0.out (by omega); omega
          go_wp2_with (at_builtin; refine wpList_append_own _ rfl _ _ 65 rfl w.heap.size 3 i0 (.int .i64 0) 1 8 Tryz.underlying65 hi hz0 hz1 hz2 rfl (by decide) _ _ _ rfl (hown.alloc _) ⟨wr.heap.size, 0, none⟩ 1 1 [.int .i64 ((p - q - bw : Nat) : Int)] rfl rfl ?_ ?_ ?_ ?_ ?_ ?_)
          · intro j u hj; exact one_cell j u hj (by have hq0 := HY0.out (by omega); simp <;> omega)
          · intro u hu; simp at hu; subst hu; rfl
          · unfold maxLen; omega
          · omega
          · have := hnx.size; simp; omega
          intro v' w1 hown' hgrow _
          have hown2 := own_next hown' (by rw [HS2.out, if_neg hneg])
          have hb1 : Below w.heap.size wr w1 := ((Below.refl _ _).alloc hnx.size _).grown hgrow (by simp; exact Nat.le_succ_of_le hnx.size) (fun g hg => ((hown.lt) g hg).1)
          clear hgrow hown' hown
          go_wp2
          go_roundw
          case rel => exact ⟨k + 1, by omega, by go_num, by rw [HS1.out, if_neg hneg]; rfl, hown2, hnx.trans hb1⟩
          case measure => simp [intOf] <;> omega
    · obtain rfl : k = n := by omega
      obtain ⟨A', c', rfl, hc', hn', hr, hnew⟩ := own_form hown
      have HW := Lib.hid hnew
      clear hnew
      have hd : Dg wr .i64 256 A' k (X - Y) := ⟨by have := HX.out.lt; omega, hr⟩
      have HD := Lib.hid hd
      have HN := Lib.hid hn'
      clear hr hd hown hn'
      go_wp2_with fail
      refine (rtrim_any A' k c' (X - Y) _ (by omega) hc' HD.out).mono ?_
      rintro e w' ⟨rfl, rfl⟩
      go_wp2
      go_ret
      exact ⟨A', _, c', rfl, Tr.of hc' HN.out HD.out, hnx, HW.out⟩
end Go.Proofs.YtahehlajpaoiiaaGreatDoor
