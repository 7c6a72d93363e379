import Derived.Test.YtkaefmfophopoaaDoorGDivL

/-
  The walk of the program's quotient and remainder of integers.
-/
namespace Go.Proofs.YtkaefmfophopoaaDoor
open Go.RowKit
attribute [local go_sem ↓] Go.wp_at_zero Go.wp_at_succ

theorem below_none {a b : World} {B : Nat} (hg : a.grownBy b none) (hB : B ≤ a.heap.size) : Below B a b := (Below.refl B a).grown hg hB (fun k hk => by cases hk)

set_option maxHeartbeats 4000000 in
set_option maxRecDepth 100000 in
theorem divMod_deep (na nb : Bool) (a b : ByteArray) (ha : a.size ≤ 400000000) (hb : b.size ≤ 400000000) (xw yw : Nat) (ok : Bool) (hok : ok = false ∨ yw = 0)
    (hwd : ∀ V, Calls Tryd.prog 18 #[.agg #[.bool na, .string a], .agg #[.bool nb, .string b]] V (RetW V xw yw ok)) (w : World) (R : Ending → World → Prop)
    (hR0 : bval b = 0 → ∀ w', Below w.heap.size w w' → R (.returned (.tuple #[.agg #[.bool false, .string ⟨#[]⟩], .agg #[.bool false, .string ⟨#[]⟩], .int .i64 6])) w')
    (hR1 : bval b ≠ 0 → ∀ w' b1 m1 b2 m2, Hid (enc (sgn na (bval a) / sgn nb (bval b)) = .agg #[.bool b1, .string m1]) → Hid (enc (sgn na (bval a) % sgn nb (bval b)) = .agg #[.bool b2, .string m2]) → Below w.heap.size w w' → R (.returned (.tuple #[.agg #[.bool b1, .string m1], .agg #[.bool b2, .string m2], .int .i64 0])) w') :
    Calls Tryd.prog 25 #[.agg #[.bool na, .string a], .agg #[.bool nb, .string b]] w R := by
  have K0 := Lib.hid (K4.start w 23 (.bool na) (.string a) (.bool nb) (.string b))
  have HWD := Lib.hid hwd
  have HR0 := Lib.hid hR0
  have HR1 := Lib.hid hR1
  clear hwd hR0 hR1
  have hok2 : ok = true → yw = 0 := fun h => by rcases hok with h1 | h1 <;> simp_all
  go_enter Tryd.func25, Tryd.ntmps25
  go_wp2_with fail
  refine (HWD.out _).mono ?_
  rintro e w1 ⟨rfl, hb1⟩
  have K1 := Lib.hid (K0.out.next hb1 (by simp <;> omega))
  obtain ⟨c0, c1, _, _⟩ := blk_cells K1.out.k0
  obtain ⟨c2, c3, _, _⟩ := blk_cells K1.out.k1
  have hsz := K1.out.sz
  have hw2 : ∃ W, W = ((w1.alloc arr16).alloc arr16).alloc arr16 := ⟨_, rfl⟩
  obtain ⟨W, hW⟩ := hw2
  obtain ⟨l1, l2, l3⟩ := heap_three_all w1 arr16 arr16 arr16
  rw [← hW] at l1 l2 l3
  have hbW : Below w1.heap.size w1 W := by rw [hW]; exact ((((Below.refl _ _).alloc (Nat.le_refl _) _).alloc (by simp) _).alloc (by simp <;> omega) _)
  have hszW : W.heap.size = w1.heap.size + 3 := by rw [hW]; simp
  have iA : Is16 W w1.heap.size := ⟨_, l1, by simp⟩
  have iB : Is16 W (w1.heap.size + 1) := ⟨_, l2, by simp⟩
  have iC : Is16 W (w1.heap.size + 2) := ⟨_, l3, by simp⟩
  have c0' := (hbW.cell (p := ⟨w.heap.size, 0, none⟩) (by show w.heap.size < _; omega)).trans c0
  have c1' := (hbW.cell (p := ⟨w.heap.size, 1, none⟩) (by show w.heap.size < _; omega)).trans c1
  have c2' := (hbW.cell (p := ⟨w.heap.size + 1, 0, none⟩) (by show w.heap.size + 1 < _; omega)).trans c2
  have c3' := (hbW.cell (p := ⟨w.heap.size + 1, 1, none⟩) (by show w.heap.size + 1 < _; omega)).trans c3
  have HU1 := Lib.hid (fun V (hV : Is16 V w1.heap.size) => unpack_any (.slice (some ⟨w1.heap.size, 0, none⟩) 0 16) a 0 V (by omega) (Nat.zero_le _) hV.own)
  have HU2 := Lib.hid (fun V (hV : Is16 V (w1.heap.size + 1)) => unpack_any (.slice (some ⟨w1.heap.size + 1, 0, none⟩) 0 16) b 0 V (by omega) (Nat.zero_le _) hV.own)
  have KW := Lib.hid (K1.out.next hbW hsz)
  have IA := Lib.hid iA
  have IB := Lib.hid iB
  have IC := Lib.hid iC
  have HW := Lib.hid hW
  have HBW := Lib.hid hbW
  have HSW := Lib.hid hszW
  clear l1 l2 l3 hbW hszW iA iB iC c0 c1 c2 c3 hW hb1
  rcases ok with _ | _
  all_goals
    first
    | (obtain rfl : yw = 0 := hok2 rfl)
    | skip
    clear hok hok2
    go_wp2_with fail
    have hw9 : ((w1.alloc arr16).alloc arr16).alloc arr16 = W := HW.out.symm
    unfold arr16 at hw9
    rw [hw9]
    clear hw9
    have hp1 : w.heap.size < W.heap.size := by have := HSW.out; omega
    have hp2 : w.heap.size + 1 < W.heap.size := by have := HSW.out; omega
    go_region_held3 (fun w' => w'.cell? ⟨w.heap.size, 1, none⟩ = some (.string a) ∧ w'.cell? ⟨w.heap.size + 1, 1, none⟩ = some (.string b))
      (first
        | go_keep
        | exact ⟨y1, y2⟩
        | exact ⟨z1, z2⟩)
      (first
        | (go_at_call 23; (with_reducible refine (HU1.out _ ?_).mono ?_); (exact IA.out.keep rfl); rintro e w2 ⟨A1, n1, d1, hn1, rfl, hm1, hg2, hbk1⟩; have z1 := keep_cell (W := W.drew) (g := w1.heap.size) hg2 hp1 (by omega) c1'; have z2 := keep_cell (W := W.drew) (g := w1.heap.size) hg2 hp2 (by omega) c3'; have hq1 := Nat.lt_of_lt_of_le hp1 hg2.size; have hq2 := Nat.lt_of_lt_of_le hp2 hg2.size)
        | (go_at_call 23; (with_reducible refine (HU2.out _ ?_).mono ?_); (exact keep_16 (W := W.drew) (g := w1.heap.size) hg2 (by omega) (IB.out.keep rfl)); rintro e w3 ⟨A2, n2, d2, hn2, rfl, hm2, hg3, hbk2⟩; have y1 := keep_cell (g := w1.heap.size + 1) hg3 hq1 (by omega) z1; have y2 := keep_cell (g := w1.heap.size + 1) hg3 hq2 (by omega) z2))
    have hs2 : W.heap.size ≤ w2.heap.size := hg2.size
    have hs3 : w2.heap.size ≤ w3.heap.size := hg3.size
    have hsW := HSW.out
    have ax := apart (g := w1.heap.size) (p := w1.heap.size + 1) hbk1 (by omega) (by show _ < W.heap.size; omega)
    have axC := apart (g := w1.heap.size) (p := w1.heap.size + 2) hbk1 (by omega) (by show _ < W.heap.size; omega)
    have ayC := apart (g := w1.heap.size + 1) (p := w1.heap.size + 2) hbk2 (by omega) (by omega)
    have hbl : Below w1.heap.size W w3 := ((Below.refl _ W).drew.trans (below_of_grown (g := w1.heap.size) hg2 (by show _ ≤ W.heap.size; omega) (Nat.le_refl _))).trans (below_of_grown (g := w1.heap.size + 1) hg3 (by omega) (by omega))
    have UP := Lib.hid (show Up w 23 (.bool na) (.string a) (.bool nb) (.string b) w1.heap.size A1 A2 n1 d1 n2 d2 (bval a) (bval b) _ _ w3 from
      ⟨KW.out.next hbl (by omega), hsz, ⟨⟨hm1.lt, hm1.cap, hm1.rd.grown hg3 (fun q hq z hz e => ax z hz (e.trans (row_eq hq).symm))⟩, hm1.top⟩, hm2, keep_16 (g := w1.heap.size + 1) hg3 (by omega) (keep_16 (W := W.drew) (g := w1.heap.size) hg2 (by omega) (IC.out.keep rfl)), axC, ayC, hn1, hn2, by omega⟩)
    clear hg2 hg3 hbk1 hbk2 hm1 hm2 ax axC ayC hn1 hn2 z1 z2 y1 y2 c0' c1' c2' c3' hq1 hq2 hp1 hp2 hs2 hs3 hsW hbl HU1 HU2 IA IB IC HW HBW HSW KW K1
    generalize bval a = X at *
    generalize bval b = Y at *
    by_cases hY : Y = 0
    · have hn0 : n2 = 0 := UP.out.hy.zero.2 hY
      have HR := Lib.hid (HR0.out hY)
      subst hn0
      clear hY
      obtain ⟨p0, p1, p2, p3⟩ := blk_cells UP.out.k.k2
      obtain ⟨q0, q1, q2, q3⟩ := blk_cells UP.out.k.k3
      go_wp2
      exact bodyPost_ret (v := .tuple #[.agg #[.bool false, .string ⟨#[]⟩], .agg #[.bool false, .string ⟨#[]⟩], .int .i64 6]) (by simp [results, Tryd.results25, go_sem, p0, p1, q0, q1]) rfl (HR.out _ (by first | exact UP.out.k.bel | exact UP.out.k.stored _ _ _ _))
    · have hn0 : n2 ≠ 0 := fun h => hY (UP.out.hy.zero.1 h)
      have hn0b : ((n2 : Int) == 0) = false := by simp; omega
      have hn0c : 0 < n2 := by omega
      have HR := Lib.hid (HR1.out hY)
      obtain ⟨hd1, hd2⟩ := div_signs na nb (x := X) (y := Y) (q := X / Y) (r := X % Y) (Nat.div_add_mod X Y).symm (Nat.mod_lt _ (by omega))
      have HD1 := Lib.hid hd1
      have HD2 := Lib.hid hd2
      have HYP := Lib.hid (show 0 < Y by omega)
      have hrY : X % Y ≤ Y := Nat.le_of_lt (Nat.mod_lt _ (by omega))
      have HRY := Lib.hid hrY
      have hn1b := UP.out.n1b
      have hn2b := UP.out.n2b
      have HDV := Lib.hid (divide_any A1 A2 n1 n2 d1 d2 X Y w3 (by omega) (by omega) UP.out.hx UP.out.hy HYP.out)
      clear hd1 hd2 hn0 hY HR0 HR1 hrY
      generalize X / Y = q at *
      generalize X % Y = r at *
      have hwy : ∀ (z : Nat), ((z : Int) != 0) = true ∨ True := fun _ => .inr trivial
      clear hwy
      go_wp2_with fail
      refine HDV.out.mono ?_
      rintro e w4 ⟨Aq, nq, cq, Ar, nr, cr, hnq, hnr, rfl, hmq, hmr, hb4, hfq, hfr⟩
      have hs4 := hb4.size
      have hS := UP.out.hS
      have hSz := UP.out.sz
      have K4' := Lib.hid (UP.out.k.next hb4 (by omega))
      obtain ⟨c0, c1, _, _⟩ := blk_cells K4'.out.k0
      obtain ⟨c2, c3, _, _⟩ := blk_cells K4'.out.k1
      have hqS : ∀ a, Aq = some a → a.block ≠ w1.heap.size + 2 := fun a h => by subst h; have := hfq a.block rfl; omega
      have hrS : ∀ a, Ar = some a → a.block ≠ w1.heap.size + 2 := fun a h => by
        rcases hfr with h2 | h2
        · rw [h2] at h; exact UP.out.ax a h
        · subst h; have := h2 a.block rfl; omega
      have HMQ := Lib.hid hmq
      have HMR := Lib.hid hmr
      have HB4 := Lib.hid hb4
      have HQS := Lib.hid hqS
      have HRS := Lib.hid hrS
      clear hmq hmr hb4 hqS hrS hfq hfr
      by_cases hneg : na = true ∧ 0 < nr
      · obtain ⟨rfl, hnr0⟩ := hneg
        have hr0 : 0 < r := by
          rcases Nat.eq_zero_or_pos r with h | h
          · have := HMR.out.zero.2 h; omega
          · exact h
        have hnrd : decide ((0 : Int) < (nr : Int)) = true := by simp; omega
        have hi4 := UP.out.sp.keep (HB4.out.block (w1.heap.size + 2) (by omega))
        have hpl := fun V T (hV : V = w4.alloc (.cells #[.int .u64 1] T)) => plus_any (.slice (some ⟨w1.heap.size + 2, 0, none⟩) 0 16) 0 Aq (some ⟨w4.heap.size, 0, none⟩) nq 1 cq 1 q 1 V (by omega) (by omega) (by subst hV; exact (hi4.keep (Below.heap_alloc _ _ _ hi4.lt)).own) (Nat.zero_le _) (by subst hV; exact HMQ.out.toNg.alloc _) (by subst hV; exact ⟨by decide, Nat.le_refl _, rd_one _ _ T 1 _ (heap_one _ _) (by decide)⟩) (fun z hz e => HQS.out z hz (by injection e)) (fun z hz e => by injection hz with hz; subst hz; injection e with e; have : w4.heap.size = w1.heap.size + 2 := e; omega)
        have HPL := Lib.hid hpl
        clear hpl hi4
        go_wp2_with fail
        refine (HPL.out _ _ rfl).mono ?_
        rintro e w5 ⟨A5, n5, c5, hn5, rfl, hm5, hg5, hf5⟩
        have hal : Below w4.heap.size w4 (w4.alloc (.cells #[.int .u64 1] 39)) := (Below.refl _ _).alloc (Nat.le_refl _) _
        have hs5 : w4.heap.size ≤ w5.heap.size := by have := hg5.size; simp at this; omega
        have hy4 := (UP.out.hy.below HB4.out).below hal
        have hr4 := HMR.out.below hal
        have hy5 : Nm w5 A2 n2 d2 Y := ⟨⟨hy4.lt, hy4.cap, hy4.rd.grown hg5 (fun k hk a ha e => UP.out.ay a ha (by rw [e]; simp [Value.ownBlock] at hk; omega))⟩, hy4.top⟩
        have hr5 : Nm w5 Ar nr cr r := ⟨⟨hr4.lt, hr4.cap, hr4.rd.grown hg5 (fun k hk a ha e => HRS.out a ha (by rw [e]; simp [Value.ownBlock] at hk; omega))⟩, hr4.top⟩
        have HMI := Lib.hid (minus_any (.slice none 0 0) 0 A2 Ar n2 nr d2 cr Y r w5 (by omega) (Nm.le_len hy5.toNg hr5 HRY.out) (.inl hn0c) HRY.out (Own.nil _ _) (Nat.zero_le _) hy5.toNg hr5.toNg (fun z hz e => by simp [Value.ownBlock] at e) (fun z hz e => by simp [Value.ownBlock] at e))
        have K5 := Lib.hid ((K4'.out.next hal (by omega)).next (below_of_grown (B := w1.heap.size) (g := w1.heap.size + 2) hg5 (by simp; omega) (by omega)) (by omega))
        have HM5 := Lib.hid hm5
        clear hm5 hg5 hf5 hal hy4 hr4 hy5 hr5 c0 c1 c2 c3
        go_wp2_with fail
        refine HMI.out.mono ?_
        rintro e w6 ⟨A6, n6, c6, hn6, rfl, hm6, hg6, hf6⟩
        have K6 := Lib.hid (K5.out.next (below_none (B := w5.heap.size) hg6 (Nat.le_refl _)) (by have := K5.out.sz; omega))
        have HQ6 := Lib.hid (show Nm w6 A5 n5 c5 (q + 1) from ⟨⟨HM5.out.lt, HM5.out.cap, HM5.out.rd.grown hg6 (fun k hk => by simp [Value.ownBlock] at hk)⟩, HM5.out.top⟩)
        have HR6 := Lib.hid hm6
        clear hm6 hg6 hf6
        have c00 := (blk_cells K6.out.k0).1
        have c20 := (blk_cells K6.out.k1).1
        go_wp2_with fail
        refine (pack_any _ A5 n5 c5 (q + 1) _ (by omega) HQ6.out.toNg).mono fun e w7 h7 => ?_
        obtain ⟨b7, m7, HB7, rfl, hb7⟩ := h7.form
        have HN7 := Lib.hid (Nm.below HR6.out hb7)
        have hs7 := hb7.size
        have K7 := Lib.hid (K6.out.next hb7 (by have := K6.out.sz; omega))
        clear h7 hb7 c00 c20
        go_wp2_with fail
        refine (pack_any _ A6 n6 c6 (Y - r) _ (by omega) HN7.out.toNg).mono fun e w8 h8 => ?_
        obtain ⟨b8, m8, HB8, rfl, hb8⟩ := h8.form
        have K8 := Lib.hid (K7.out.next hb8 (by have := K7.out.sz; omega))
        obtain ⟨p0, p1, p2, p3⟩ := blk_cells K8.out.k2
        obtain ⟨q0, q1, q2, q3⟩ := blk_cells K8.out.k3
        have HF1 := Lib.hid (show enc (_ / _) = .agg #[.bool b7, .string m7] by rw [HD1.out, ← HB7.out]; (rw [if_pos ⟨trivial, hr0⟩]; cases nb <;> rfl))
        have HF2 := Lib.hid (show enc (_ % _) = .agg #[.bool b8, .string m8] by rw [HD2.out, ← HB8.out]; (rw [if_pos ⟨trivial, hr0⟩]; rfl))
        clear h8 hb8
        go_wp2
        exact bodyPost_ret (v := .tuple #[.agg #[.bool b7, .string m7], .agg #[.bool b8, .string m8], .int .i64 0]) (by simp [results, Tryd.results25, go_sem, p0, p1, q0, q1]) rfl (HR.out _ _ _ _ _ HF1 HF2 (K8.out.stored _ _ _ _))
      · have hnr2 : ¬ (na = true ∧ 0 < r) := fun ⟨h1, h2⟩ => hneg ⟨h1, by
          rcases Nat.eq_zero_or_pos nr with h | h
          · have := HMR.out.zero.1 h; omega
          · exact h⟩
        cases na
        · clear hneg c1 c2 c3
          have c00 := (blk_cells K4'.out.k0).1
          have c20 := (blk_cells K4'.out.k1).1
          go_wp2_with fail
          refine (pack_any _ Aq nq cq q _ (by omega) HMQ.out.toNg).mono fun e w7 h7 => ?_
          obtain ⟨b7, m7, HB7, rfl, hb7⟩ := h7.form
          have HN7 := Lib.hid (Nm.below HMR.out hb7)
          have hs7 := hb7.size
          have K7 := Lib.hid (K4'.out.next hb7 (by have := K4'.out.sz; omega))
          clear h7 hb7 c00 c20
          go_wp2_with fail
          refine (pack_any _ Ar nr cr r _ (by omega) HN7.out.toNg).mono fun e w8 h8 => ?_
          obtain ⟨b8, m8, HB8, rfl, hb8⟩ := h8.form
          have K8 := Lib.hid (K7.out.next hb8 (by have := K7.out.sz; omega))
          obtain ⟨p0, p1, p2, p3⟩ := blk_cells K8.out.k2
          obtain ⟨q0, q1, q2, q3⟩ := blk_cells K8.out.k3
          have HF1 := Lib.hid (show enc (_ / _) = .agg #[.bool b7, .string m7] by rw [HD1.out, ← HB7.out]; (rw [if_neg hnr2]; cases nb <;> rfl))
          have HF2 := Lib.hid (show enc (_ % _) = .agg #[.bool b8, .string m8] by rw [HD2.out, ← HB8.out]; (rw [if_neg hnr2]; rfl))
          clear h8 hb8
          go_wp2
          exact bodyPost_ret (v := .tuple #[.agg #[.bool b7, .string m7], .agg #[.bool b8, .string m8], .int .i64 0]) (by simp [results, Tryd.results25, go_sem, p0, p1, q0, q1]) rfl (HR.out _ _ _ _ _ HF1 HF2 (K8.out.stored _ _ _ _))
        · have hnr3 : nr = 0 := by
            rcases Nat.eq_zero_or_pos nr with h | h
            · exact h
            · exact absurd ⟨rfl, h⟩ hneg
          have hnrd : decide ((0 : Int) < (nr : Int)) = false := by simp; omega
          have hnrd2 : ¬ 0 < nr := by omega
          clear hneg hnr3 c1 c2 c3
          have c00 := (blk_cells K4'.out.k0).1
          have c20 := (blk_cells K4'.out.k1).1
          go_wp2_with fail
          refine (pack_any _ Aq nq cq q _ (by omega) HMQ.out.toNg).mono fun e w7 h7 => ?_
          obtain ⟨b7, m7, HB7, rfl, hb7⟩ := h7.form
          have HN7 := Lib.hid (Nm.below HMR.out hb7)
          have hs7 := hb7.size
          have K7 := Lib.hid (K4'.out.next hb7 (by have := K4'.out.sz; omega))
          clear h7 hb7 c00 c20
          go_wp2_with fail
          refine (pack_any _ Ar nr cr r _ (by omega) HN7.out.toNg).mono fun e w8 h8 => ?_
          obtain ⟨b8, m8, HB8, rfl, hb8⟩ := h8.form
          have K8 := Lib.hid (K7.out.next hb8 (by have := K7.out.sz; omega))
          obtain ⟨p0, p1, p2, p3⟩ := blk_cells K8.out.k2
          obtain ⟨q0, q1, q2, q3⟩ := blk_cells K8.out.k3
          have HF1 := Lib.hid (show enc (_ / _) = .agg #[.bool b7, .string m7] by rw [HD1.out, ← HB7.out]; (rw [if_neg hnr2]; cases nb <;> rfl))
          have HF2 := Lib.hid (show enc (_ % _) = .agg #[.bool b8, .string m8] by rw [HD2.out, ← HB8.out]; (rw [if_neg hnr2]; rfl))
          clear h8 hb8
          go_wp2
          exact bodyPost_ret (v := .tuple #[.agg #[.bool b7, .string m7], .agg #[.bool b8, .string m8], .int .i64 0]) (by simp [results, Tryd.results25, go_sem, p0, p1, q0, q1]) rfl (HR.out _ _ _ _ _ HF1 HF2 (K8.out.stored _ _ _ _))
end Go.Proofs.YtkaefmfophopoaaDoor
