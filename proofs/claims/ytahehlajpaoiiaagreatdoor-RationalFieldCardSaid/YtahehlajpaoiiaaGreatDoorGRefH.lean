import Derived.Test.YtahehlajpaoiiaaGreatDoorGDivL
import Derived.Test.YtahehlajpaoiiaaGreatDoorGGcN
import Derived.Test.YtahehlajpaoiiaaGreatDoorGLawB
import Derived.Test.YtahehlajpaoiiaaGreatDoorGRefG
import Derived.Deep.RegionWith
import Derived.Deep.DeepCutAuto
import Derived.Test.YtahehlajpaoiiaaGreatDoorGRefL
import Derived.Test.YtahehlajpaoiiaaGreatDoorGQB

/-
  The walk of the program's quotient and remainder of integers.
-/
namespace Go.Proofs.YtahehlajpaoiiaaGreatDoor
open Go.RowKit
attribute [local go_sem ↓] Go.wp_at_zero Go.wp_at_succ

theorem below_none {a b : World} {B : Nat} (hg : a.grownBy b none) (hB : B ≤ a.heap.size) : Below B a b := (Below.refl B a).grown hg hB (fun k hk => by cases hk)

set_option maxHeartbeats 4000000 in
set_option maxRecDepth 100000 in
theorem divMod_deep (na nb : Bool) (a b : ByteArray) (ha : a.size ≤ 400000000) (hb : b.size ≤ 400000000) (xw yw : Nat) (ok : Bool) (hok : ok = false ∨ yw = 0)
    (hwd : ∀ V, Calls Tryz.prog 99 #[.agg #[.bool na, .string a], .agg #[.bool nb, .string b]] V (RetW V xw yw ok)) (w : World) (R : Ending → World → Prop)
    (hR0 : bval b = 0 → ∀ w', Below w.heap.size w w' → R (.returned (.tuple #[.agg #[.bool false, .string ⟨#[]⟩], .agg #[.bool false, .string ⟨#[]⟩], .int .i64 6])) w')
    (hR1 : bval b ≠ 0 → ∀ w' b1 m1 b2 m2, Hid (enc (sgn na (bval a) / sgn nb (bval b)) = .agg #[.bool b1, .string m1]) → Hid (enc (sgn na (bval a) % sgn nb (bval b)) = .agg #[.bool b2, .string m2]) → Below w.heap.size w w' → R (.returned (.tuple #[.agg #[.bool b1, .string m1], .agg #[.bool b2, .string m2], .int .i64 0])) w') :
    Calls Tryz.prog 84 #[.agg #[.bool na, .string a], .agg #[.bool nb, .string b]] w R := by
  have K0 := Lib.hid (K4.start w 23 (.bool na) (.string a) (.bool nb) (.string b))
  have HWD := Lib.hid hwd
  have HR0 := Lib.hid hR0
  have HR1 := Lib.hid hR1
  clear hwd hR0 hR1
  have hok2 : ok = true → yw = 0 := fun h => by rcases hok with h1 | h1 <;> simp_all
  go_enter Tryz.func84, Tryz.ntmps84
  go_wp2_with fail
  refine (HWD.out _).mono ?_
  rintro e w1 ⟨rfl, hb1⟩
  have K1 := Lib.hid (K0.out.next hb1 (by simp <;> omega))
  obtain ⟨c0, c1, _, _⟩ := blk_cells K1.out.k0
  obtain ⟨c2, c3, _, _⟩ := blk_cells K1.out.k1
  have hsz := K1.out.sz
  have hw2 : ∃ W, W = ((w1.alloc arr16).alloc arr16).alloc arr16 := ⟨_, rfl⟩
  obtain ⟨W, hW⟩ := hw2
  obtain ⟨l1, l2, l3⟩ := heap_three_all w1 arr16 arr16 arr16
  rw [← hW] at l1 l2 l3
  have hbW : Below w1.heap.size w1 W := by rw [hW]; exact ((((Below.refl _ _).alloc (Nat.le_refl _) _).alloc (by simp) _).alloc (by simp <;> omega) _)
  have hszW : W.heap.size = w1.heap.size + 3 := by rw [hW]; simp
  have iA : Is16 W w1.heap.size := ⟨_, l1, by simp⟩
  have iB : Is16 W (w1.heap.size + 1) := ⟨_, l2, by simp⟩
  have iC : Is16 W (w1.heap.size + 2) := ⟨_, l3, by simp⟩
  have c0' := (hbW.cell (p := ⟨w.heap.size, 0, none⟩) (by show w.heap.size < _; omega)).trans c0
  have c1' := (hbW.cell (p := ⟨w.heap.size, 1, none⟩) (by show w.heap.size < _; omega)).trans c1
  have c2' := (hbW.cell (p := ⟨w.heap.size + 1, 0, none⟩) (by show w.heap.size + 1 < _; omega)).trans c2
  have c3' := (hbW.cell (p := ⟨w.heap.size + 1, 1, none⟩) (by show w.heap.size + 1 < _; omega)).trans c3
  have HU1 := Lib.hid (fun V (hV : Is16 V w1.heap.size) => unpack_any (.slice (some ⟨w1.heap.size, 0, none⟩) 0 16) a 0 V (by omega) (Nat.zero_le _) hV.own)
  have HU2 := Lib.hid (fun V (hV : Is16 V (w1.heap.size + 1)) => unpack_any (.slice (some ⟨w1.heap.size + 1, 0, none⟩) 0 16) b 0 V (by omega) (Nat.zero_le _) hV.own)
  have KW := Lib.hid (K1.out.next hbW hsz)
  have IA := Lib.hid iA
  have IB := Lib.hid iB
  have IC := Lib.hid iC
  have HW := Lib.hid hW
  have HBW := Lib.hid hbW
  have HSW := Lib.hid hszW
  clear l1 l2 l3 hbW hszW iA iB iC c0 c1 c2 c3 hW hb1
  rcases ok with _ | _
  all_goals
    first
    | (obtain rfl : yw = 0 := hok2 rfl)
    | skip
    clear hok hok2
    go_wp2_with fail
    have hw9 : ((w1.alloc arr16).alloc arr16).alloc arr16 = W := HW.out.symm
    unfold arr16 at hw9
    rw [hw9]
    clear hw9
    have hp1 : w.heap.size < W.heap.size := by have := HSW.out; omega
    have hp2 : w.heap.size + 1 < W.heap.size := by have := HSW.out; omega
    go_region_held3 (fun w' => w'.cell? ⟨w.heap.size, 1, none⟩ = some (.string a) ∧ w'.cell? ⟨w.heap.size + 1, 1, none⟩ = some (.string b))
      (first
        | go_keep
        | exact ⟨y1, y2⟩
        | exact ⟨z1, z2⟩)
      (first
        | (go_at_call 104; (with_reducible refine (HU1.out _ ?_).mono ?_); (exact IA.out.keep rfl); rintro e w2 ⟨A1, n1, d1, hn1, rfl, hm1, hg2, hbk1⟩; have z1 := keep_cell (W := W.drew) (g := w1.heap.size) hg2 hp1 (by omega) c1'; have z2 := keep_cell (W := W.drew) (g := w1.heap.size) hg2 hp2 (by omega) c3'; have hq1 := Nat.lt_of_lt_of_le hp1 hg2.size; have hq2 := Nat.lt_of_lt_of_le hp2 hg2.size)
        | (go_at_call 104; (with_reducible refine (HU2.out _ ?_).mono ?_); (exact keep_16 (W := W.drew) (g := w1.heap.size) hg2 (by omega) (IB.out.keep rfl)); rintro e w3 ⟨A2, n2, d2, hn2, rfl, hm2, hg3, hbk2⟩; have y1 := keep_cell (g := w1.heap.size + 1) hg3 hq1 (by omega) z1; have y2 := keep_cell (g := w1.heap.size + 1) hg3 hq2 (by omega) z2))
    have hs2 : W.heap.size ≤ w2.heap.size := hg2.size
    have hs3 : w2.heap.size ≤ w3.heap.size := hg3.size
    have hsW := HSW.out
    have ax := apart (g := w1.heap.size) (p := w1.heap.size + 1) hbk1 (by omega) (by show _ < W.heap.size; omega)
    have axC := apart (g := w1.heap.size) (p := w1.heap.size + 2) hbk1 (by omega) (by show _ < W.heap.size; omega)
    have ayC := apart (g := w1.heap.size + 1) (p := w1.heap.size + 2) hbk2 (by omega) (by omega)
    have hbl : Below w1.heap.size W w3 := ((Below.refl _ W).drew.trans (below_of_grown (g := w1.heap.size) hg2 (by show _ ≤ W.heap.size; omega) (Nat.le_refl _))).trans (below_of_grown (g := w1.heap.size + 1) hg3 (by omega) (by omega))
    have UP := Lib.hid (show Up w 23 (.bool na) (.string a) (.bool nb) (.string b) w1.heap.size A1 A2 n1 d1 n2 d2 (bval a) (bval b) _ _ w3 from
      ⟨KW.out.next hbl (by omega), hsz, ⟨⟨hm1.lt, hm1.cap, hm1.rd.grown hg3 (fun q hq z hz e => ax z hz (e.trans (row_eq hq).symm))⟩, hm1.top⟩, hm2, keep_16 (g := w1.heap.size + 1) hg3 (by omega) (keep_16 (W := W.drew) (g := w1.heap.size) hg2 (by omega) (IC.out.keep rfl)), axC, ayC, hn1, hn2, by omega⟩)
    clear hg2 hg3 hbk1 hbk2 hm1 hm2 ax axC ayC hn1 hn2 z1 z2 y1 y2 c0' c1' c2' c3' hq1 hq2 hp1 hp2 hs2 hs3 hsW hbl HU1 HU2 IA IB IC HW HBW HSW KW K1
    generalize bval a = X at *
    generalize bval b = Y at *
    by_cases hY : Y = 0
    · have hn0 : n2 = 0 := UP.out.hy.zero.2 hY
      have HR := Lib.hid (HR0.out hY)
      subst hn0
      clear hY
      obtain ⟨p0, p1, p2, p3⟩ := blk_cells UP.out.k.k2
      obtain ⟨q0, q1, q2, q3⟩ := blk_cells UP.out.k.k3
      go_wp2
      exact bodyPost_ret (v := .tuple #[.agg #[.bool false, .string ⟨#[]⟩], .agg #[.bool false, .string ⟨#[]⟩], .int .i64 6]) (by simp [results, Tryz.results84, go_sem, p0, p1, q0, q1]) rfl (HR.out _ (by first | exact UP.out.k.bel | exact UP.out.k.stored _ _ _ _))
    · have hn0 : n2 ≠ 0 := fun h => hY (UP.out.hy.zero.1 h)
      have hn0b : ((n2 : Int) == 0) = false := by simp; omega
      have hn0c : 0 < n2 := by omega
      have HR := Lib.hid (HR1.out hY)
      obtain ⟨hd1, hd2⟩ := div_signs na nb (x := X) (y := Y) (q := X / Y) (r := X % Y) (Nat.div_add_mod X Y).symm (Nat.mod_lt _ (by omega))
      have HD1 := Lib.hid hd1
      have HD2 := Lib.hid hd2
      have HYP := Lib.hid (show 0 < Y by omega)
      have hrY : X % Y ≤ Y := Nat.le_of_lt (Nat.mod_lt _ (by omega))
      have HRY := Lib.hid hrY
      have hn1b := UP.out.n1b
      have hn2b := UP.out.n2b
      have HDV := Lib.hid (divide_any A1 A2 n1 n2 d1 d2 X Y w3 (by omega) (by omega) UP.out.hx UP.out.hy HYP.out)
      clear hd1 hd2 hn0 hY HR0 HR1 hrY
      generalize X / Y = q at *
      generalize X % Y = r at *
      have hwy : ∀ (z : Nat), ((z : Int) != 0) = true ∨ True := fun _ => .inr trivial
      clear hwy
      go_wp2_with fail
      refine HDV.out.mono ?_
      rintro e w4 ⟨Aq, nq, cq, Ar, nr, cr, hnq, hnr, rfl, hmq, hmr, hb4, hfq, hfr⟩
      have hs4 := hb4.size
      have hS := UP.out.hS
      have hSz := UP.out.sz
      have K4' := Lib.hid (UP.out.k.next hb4 (by omega))
      obtain ⟨c0, c1, _, _⟩ := blk_cells K4'.out.k0
      obtain ⟨c2, c3, _, _⟩ := blk_cells K4'.out.k1
      have hqS : ∀ a, Aq = some a → a.block ≠ w1.heap.size + 2 := fun a h => by subst h; have := hfq a.block rfl; omega
      have hrS : ∀ a, Ar = some a → a.block ≠ w1.heap.size + 2 := fun a h => by
        rcases hfr with h2 | h2
        · rw [h2] at h; exact UP.out.ax a h
        · subst h; have := h2 a.block rfl; omega
      have HMQ := Lib.hid hmq
      have HMR := Lib.hid hmr
      have HB4 := Lib.hid hb4
      have HQS := Lib.hid hqS
      have HRS := Lib.hid hrS
      clear hmq hmr hb4 hqS hrS hfq hfr
      by_cases hneg : na = true ∧ 0 < nr
      · obtain ⟨rfl, hnr0⟩ := hneg
        have hr0 : 0 < r := by
          rcases Nat.eq_zero_or_pos r with h | h
          · have := HMR.out.zero.2 h; omega
          · exact h
        have hnrd : decide ((0 : Int) < (nr : Int)) = true := by simp; omega
        have hi4 := UP.out.sp.keep (HB4.out.block (w1.heap.size + 2) (by omega))
        have hpl := fun V T (hV : V = w4.alloc (.cells #[.int .u64 1] T)) => plus_any (.slice (some ⟨w1.heap.size + 2, 0, none⟩) 0 16) 0 Aq (some ⟨w4.heap.size, 0, none⟩) nq 1 cq 1 q 1 V (by omega) (by omega) (by subst hV; exact (hi4.keep (Below.heap_alloc _ _ _ hi4.lt)).own) (Nat.zero_le _) (by subst hV; exact HMQ.out.toNg.alloc _) (by subst hV; exact ⟨by decide, Nat.le_refl _, rd_one _ _ T 1 _ (heap_one _ _) (by decide)⟩) (fun z hz e => HQS.out z hz (by injection e)) (fun z hz e => by injection hz with hz; subst hz; injection e with e; have : w4.heap.size = w1.heap.size + 2 := e; omega)
        have HPL := Lib.hid hpl
        clear hpl hi4
        go_wp2_with fail
        refine (HPL.out _ _ rfl).mono ?_
        rintro e w5 ⟨A5, n5, c5, hn5, rfl, hm5, hg5, hf5⟩
        have hal : Below w4.heap.size w4 (w4.alloc (.cells #[.int .u64 1] 106)) := (Below.refl _ _).alloc (Nat.le_refl _) _
        have hs5 : w4.heap.size ≤ w5.heap.size := by have := hg5.size; simp at this; omega
        have hy4 := (UP.out.hy.below HB4.out).below hal
        have hr4 := HMR.out.below hal
        have hy5 : Nm w5 A2 n2 d2 Y := ⟨⟨hy4.lt, hy4.cap, hy4.rd.grown hg5 (fun k hk a ha e => UP.out.ay a ha (by rw [e]; simp [Value.ownBlock] at hk; omega))⟩, hy4.top⟩
        have hr5 : Nm w5 Ar nr cr r := ⟨⟨hr4.lt, hr4.cap, hr4.rd.grown hg5 (fun k hk a ha e => HRS.out a ha (by rw [e]; simp [Value.ownBlock] at hk; omega))⟩, hr4.top⟩
        have HMI := Lib.hid (minus_any (.slice none 0 0) 0 A2 Ar n2 nr d2 cr Y r w5 (by omega) (Nm.le_len hy5.toNg hr5 HRY.out) (.inl hn0c) HRY.out (Own.nil _ _) (Nat.zero_le _) hy5.toNg hr5.toNg (fun z hz e => by simp [Value.ownBlock] at e) (fun z hz e => by simp [Value.ownBlock] at e))
        have K5 := Lib.hid ((K4'.out.next hal (by omega)).next (below_of_grown (B := w1.heap.size) (g := w1.heap.size + 2) hg5 (by simp; omega) (by omega)) (by omega))
        have HM5 := Lib.hid hm5
        clear hm5 hg5 hf5 hal hy4 hr4 hy5 hr5 c0 c1 c2 c3
        go_wp2_with fail
        refine HMI.out.mono ?_
        rintro e w6 ⟨A6, n6, c6, hn6, rfl, hm6, hg6, hf6⟩
        have K6 := Lib.hid (K5.out.next (below_none (B := w5.heap.size) hg6 (Nat.le_refl _)) (by have := K5.out.sz; omega))
        have HQ6 := Lib.hid (show Nm w6 A5 n5 c5 (q + 1) from ⟨⟨HM5.out.lt, HM5.out.cap, HM5.out.rd.grown hg6 (fun k hk => by simp [Value.ownBlock] at hk)⟩, HM5.out.top⟩)
        have HR6 := Lib.hid hm6
        clear hm6 hg6 hf6
        have c00 := (blk_cells K6.out.k0).1
        have c20 := (blk_cells K6.out.k1).1
        go_wp2_with fail
        refine (pack_any _ A5 n5 c5 (q + 1) _ (by omega) HQ6.out.toNg).mono fun e w7 h7 => ?_
        obtain ⟨b7, m7, HB7, rfl, hb7⟩ := h7.form
        have HN7 := Lib.hid (Nm.below HR6.out hb7)
        have hs7 := hb7.size
        have K7 := Lib.hid (K6.out.next hb7 (by have := K6.out.sz; omega))
        clear h7 hb7 c00 c20
        go_wp2_with fail
        refine (pack_any _ A6 n6 c6 (Y - r) _ (by omega) HN7.out.toNg).mono fun e w8 h8 => ?_
        obtain ⟨b8, m8, HB8, rfl, hb8⟩ := h8.form
        have K8 := Lib.hid (K7.out.next hb8 (by have := K7.out.sz; omega))
        obtain ⟨p0, p1, p2, p3⟩ := blk_cells K8.out.k2
        obtain ⟨q0, q1, q2, q3⟩ := blk_cells K8.out.k3
        have HF1 := Lib.hid (show enc (_ / _) = .agg #[.bool b7, .string m7] by rw [HD1.out, ← HB7.out]; (rw [if_pos ⟨trivial, hr0⟩]; cases nb <;> rfl))
        have HF2 := Lib.hid (show enc (_ % _) = .agg #[.bool b8, .string m8] by rw [HD2.out, ← HB8.out]; (rw [if_pos ⟨trivial, hr0⟩]; rfl))
        clear h8 hb8
        go_wp2
        exact bodyPost_ret (v := .tuple #[.agg #[.bool b7, .string m7], .agg #[.bool b8, .string m8], .int .i64 0]) (by simp [results, Tryz.results84, go_sem, p0, p1, q0, q1]) rfl (HR.out _ _ _ _ _ HF1 HF2 (K8.out.stored _ _ _ _))
      · have hnr2 : ¬ (na = true ∧ 0 < r) := fun ⟨h1, h2⟩ => hneg ⟨h1, by
          rcases Nat.eq_zero_or_pos nr with h | h
          · have := HMR.out.zero.1 h; omega
          · exact h⟩
        cases na
        · clear hneg c1 c2 c3
          have c00 := (blk_cells K4'.out.k0).1
          have c20 := (blk_cells K4'.out.k1).1
          go_wp2_with fail
          refine (pack_any _ Aq nq cq q _ (by omega) HMQ.out.toNg).mono fun e w7 h7 => ?_
          obtain ⟨b7, m7, HB7, rfl, hb7⟩ := h7.form
          have HN7 := Lib.hid (Nm.below HMR.out hb7)
          have hs7 := hb7.size
          have K7 := Lib.hid (K4'.out.next hb7 (by have := K4'.out.sz; omega))
          clear h7 hb7 c00 c20
          go_wp2_with fail
          refine (pack_any _ Ar nr cr r _ (by omega) HN7.out.toNg).mono fun e w8 h8 => ?_
          obtain ⟨b8, m8, HB8, rfl, hb8⟩ := h8.form
          have K8 := Lib.hid (K7.out.next hb8 (by have := K7.out.sz; omega))
          obtain ⟨p0, p1, p2, p3⟩ := blk_cells K8.out.k2
          obtain ⟨q0, q1, q2, q3⟩ := blk_cells K8.out.k3
          have HF1 := Lib.hid (show enc (_ / _) = .agg #[.bool b7, .string m7] by rw [HD1.out, ← HB7.out]; (rw [if_neg hnr2]; cases nb <;> rfl))
          have HF2 := Lib.hid (show enc (_ % _) = .agg #[.bool b8, .string m8] by rw [HD2.out, ← HB8.out]; (rw [if_neg hnr2]; rfl))
          clear h8 hb8
          go_wp2
          exact bodyPost_ret (v := .tuple #[.agg #[.bool b7, .string m7], .agg #[.bool b8, .string m8], .int .i64 0]) (by simp [results, Tryz.results84, go_sem, p0, p1, q0, q1]) rfl (HR.out _ _ _ _ _ HF1 HF2 (K8.out.stored _ _ _ _))
        · have hnr3 : nr = 0 := by
            rcases Nat.eq_zero_or_pos nr with h | h
            · exact h
            · exact absurd ⟨rfl, h⟩ hneg
          have hnrd : decide ((0 : Int) < (nr : Int)) = false := by simp; omega
          have hnrd2 : ¬ 0 < nr := by omega
          clear hneg hnr3 c1 c2 c3
          have c00 := (blk_cells K4'.out.k0).1
          have c20 := (blk_cells K4'.out.k1).1
          go_wp2_with fail
          refine (pack_any _ Aq nq cq q _ (by omega) HMQ.out.toNg).mono fun e w7 h7 => ?_
          obtain ⟨b7, m7, HB7, rfl, hb7⟩ := h7.form
          have HN7 := Lib.hid (Nm.below HMR.out hb7)
          have hs7 := hb7.size
          have K7 := Lib.hid (K4'.out.next hb7 (by have := K4'.out.sz; omega))
          clear h7 hb7 c00 c20
          go_wp2_with fail
          refine (pack_any _ Ar nr cr r _ (by omega) HN7.out.toNg).mono fun e w8 h8 => ?_
          obtain ⟨b8, m8, HB8, rfl, hb8⟩ := h8.form
          have K8 := Lib.hid (K7.out.next hb8 (by have := K7.out.sz; omega))
          obtain ⟨p0, p1, p2, p3⟩ := blk_cells K8.out.k2
          obtain ⟨q0, q1, q2, q3⟩ := blk_cells K8.out.k3
          have HF1 := Lib.hid (show enc (_ / _) = .agg #[.bool b7, .string m7] by rw [HD1.out, ← HB7.out]; (rw [if_neg hnr2]; cases nb <;> rfl))
          have HF2 := Lib.hid (show enc (_ % _) = .agg #[.bool b8, .string m8] by rw [HD2.out, ← HB8.out]; (rw [if_neg hnr2]; rfl))
          clear h8 hb8
          go_wp2
          exact bodyPost_ret (v := .tuple #[.agg #[.bool b7, .string m7], .agg #[.bool b8, .string m8], .int .i64 0]) (by simp [results, Tryz.results84, go_sem, p0, p1, q0, q1]) rfl (HR.out _ _ _ _ _ HF1 HF2 (K8.out.stored _ _ _ _))
end Go.Proofs.YtahehlajpaoiiaaGreatDoor


/-
  The program's digit of a difference of two multiples.
-/
namespace Go.Proofs.YtahehlajpaoiiaaGreatDoor
open Go.RowKit
attribute [local go_sem ↓] Go.wp_at_zero Go.wp_at_succ

/-- Block g holds a difference that is under way. -/
def Df (w : World) (g P M c t b : Nat) : Prop := w.heap[g]? = some (.cells #[.int .u64 (P : Int), .int .u64 (M : Int), .int .u64 (c : Int), .int .u64 (t : Int), .int .u64 (b : Int)] 181 (0, 0))

theorem Df.cells {w : World} {g P M c t b : Nat} (h : Df w g P M c t b) : w.cell? ⟨g, 0, none⟩ = some (.int .u64 (P : Int)) ∧ w.cell? ⟨g, 1, none⟩ = some (.int .u64 (M : Int)) ∧ w.cell? ⟨g, 2, none⟩ = some (.int .u64 (c : Int)) ∧
    w.cell? ⟨g, 3, none⟩ = some (.int .u64 (t : Int)) ∧ w.cell? ⟨g, 4, none⟩ = some (.int .u64 (b : Int)) ∧ w.frozen? ⟨g, 2, none⟩ = false ∧ w.frozen? ⟨g, 3, none⟩ = false ∧ w.frozen? ⟨g, 4, none⟩ = false := by
  unfold Df at h
  refine ⟨?_, ?_, ?_, ?_, ?_, ?_, ?_, ?_⟩ <;> simp [World.cell?, World.frozen?, h]
theorem Df.set2 {w : World} {g P M c t b : Nat} (h : Df w g P M c t b) (x : Nat) : Df (w.setCell ⟨g, 2, none⟩ (.int .u64 (x : Int))) g P M x t b := by
  unfold Df at h ⊢
  simp [World.setCell, Array.getElem?_modify, h]
theorem Df.set3 {w : World} {g P M c t b : Nat} (h : Df w g P M c t b) (x : Nat) : Df (w.setCell ⟨g, 3, none⟩ (.int .u64 (x : Int))) g P M c x b := by
  unfold Df at h ⊢
  simp [World.setCell, Array.getElem?_modify, h]
theorem Df.set4 {w : World} {g P M c t b : Nat} (h : Df w g P M c t b) (x : Nat) : Df (w.setCell ⟨g, 4, none⟩ (.int .u64 (x : Int))) g P M c t x := by
  unfold Df at h ⊢
  simp [World.setCell, Array.getElem?_modify, h]
theorem Df.of_block {w w' : World} {g P M c t b : Nat} (h : Df w g P M c t b) (e : w'.heap[g]? = w.heap[g]?) : Df w' g P M c t b := e.trans h
theorem Df.lt {w : World} {g P M c t b : Nat} (h : Df w g P M c t b) : g < w.heap.size := (Array.getElem?_eq_some_iff.1 h).1

/-- A call that hands back a digit and leaves the difference a place further. -/
def RetDg (w : World) (g r P M c t b : Nat) (e : Ending) (w' : World) : Prop := e = .returned (.int .u64 (r : Int)) ∧ Df w' g P M c t b ∧ w.grownBy w' (some g)

/-- A word times a word, and a carry. -/
theorem mul_carry {P x c : Nat} (hP : P < 18446744073709551616) (hx : x < 18446744073709551616) (hc : c < 18446744073709551616) :
    (P * x % 18446744073709551616 + c) % 18446744073709551616 = (P * x + c) % 18446744073709551616 ∧ (P * x + c) / 18446744073709551616 < 18446744073709551616 ∧
    P * x / 18446744073709551616 + (P * x % 18446744073709551616 + c) / 18446744073709551616 = (P * x + c) / 18446744073709551616 := by
  have h1 : P * x ≤ 18446744073709551615 * 18446744073709551615 := Nat.mul_le_mul (by omega) (by omega)
  generalize P * x = p at *
  omega

set_option maxHeartbeats 2000000 in
set_option maxRecDepth 100000 in
theorem digit_any (g P M c t b x y l1 l2 c' t' b' r : Nat) (w : World) (hP : P < 18446744073709551616) (hM : M < 18446744073709551616) (hc : c < 18446744073709551616) (ht : t < 18446744073709551616) (hx : x < 18446744073709551616) (hy : y < 18446744073709551616) (hb : b ≤ 1)
    (hl1 : (P * x + c) % 18446744073709551616 = l1) (hc' : (P * x + c) / 18446744073709551616 = c') (hl2 : (M * y + t) % 18446744073709551616 = l2) (ht' : (M * y + t) / 18446744073709551616 = t')
    (hr : (l1 + 18446744073709551616 - l2 - b) % 18446744073709551616 = r) (hb' : (if l1 < l2 + b then 1 else 0) = b') (hd : Df w g P M c t b) :
    Calls Tryz.prog 165 #[.pointer (some ⟨g, 0, none⟩), .int .u64 (x : Int), .int .u64 (y : Int)] w (RetDg w g r P M c' t' b') := by
  obtain ⟨m1, m2, m3⟩ := mul_carry hP hx hc
  obtain ⟨n1, n2, n3⟩ := mul_carry hM hy ht
  rw [hl1] at m1
  rw [hc'] at m2 m3
  rw [hl2] at n1
  rw [ht'] at n2 n3
  obtain ⟨h1, hh1⟩ : ∃ v, P * x / 18446744073709551616 = v := ⟨_, rfl⟩
  obtain ⟨k1, hk1⟩ : ∃ v, P * x % 18446744073709551616 = v := ⟨_, rfl⟩
  obtain ⟨h2, hh2⟩ : ∃ v, M * y / 18446744073709551616 = v := ⟨_, rfl⟩
  obtain ⟨k2, hk2⟩ : ∃ v, M * y % 18446744073709551616 = v := ⟨_, rfl⟩
  have HM1 := Lib.hid (fun W => mul64_any P x hP hx h1 k1 hh1 hk1 W)
  have HM2 := Lib.hid (fun W => mul64_any M y hM hy h2 k2 hh2 hk2 W)
  rw [hk1] at m1 m3
  rw [hh1] at m3
  rw [hk2] at n1 n3
  rw [hh2] at n3
  obtain ⟨o1, ho1⟩ : ∃ v, (k1 + c) / 18446744073709551616 = v := ⟨_, rfl⟩
  obtain ⟨o2, ho2⟩ : ∃ v, (k2 + t) / 18446744073709551616 = v := ⟨_, rfl⟩
  have ha1 := add64_0 k1 c l1 o1 m1 ho1
  have ha2 := add64_0 k2 t l2 o2 n1 ho2
  have ha3 := fun W => sub64_fn l1 l2 b hb W r b' hr hb'
  rw [ho1] at m3
  rw [ho2] at n3
  have s1 : (h1 : Int) + (o1 : Int) = (c' : Int) := by omega
  have s2 : (h2 : Int) + (o2 : Int) = (t' : Int) := by omega
  have d1 := hd.set2 c'
  have d2 := d1.set3 t'
  have d3 := d2.set4 b'
  obtain ⟨p0, p1, p2, p3, p4, p5, p6, p7⟩ := hd.cells
  obtain ⟨q0, q1, q2, q3, q4, q5, q6, q7⟩ := d1.cells
  obtain ⟨r0, r1, r2, r3, r4, r5, r6, r7⟩ := d2.cells
  have HD3 := Lib.hid d3
  clear hd d1 d2 d3 m1 m3 n1 n3 hh1 hk1 hh2 hk2 ho1 ho2 hl1 hc' hl2 ht' hr hb' p1 p3 p4 p6 p7 q0 q2 q4 q5 q7 r0 r1 r2 r3 r5 r6
  go_enter Tryz.func165, Tryz.ntmps165
  go_wp2_with fail
  refine (HM1.out _).mono ?_
  rintro e w1 ⟨rfl, rfl⟩
  go_wp2_with fail
  refine (HM2.out _).mono ?_
  rintro e w1 ⟨rfl, rfl⟩
  go_wp2
  go_ret
  exact ⟨rfl, HD3.out, grown_set (grown_set (grown_set (World.grownBy.refl _ _) _ _) _ _) _ _⟩
end Go.Proofs.YtahehlajpaoiiaaGreatDoor


/-
  The walk of the statement about products.
-/
namespace Go.Proofs.YtahehlajpaoiiaaGreatDoor
open Go.RowKit
attribute [local go_sem ↓] Go.wp_at_zero Go.wp_at_succ

theorem set_two {W : World} {g : Nat} {y0 y1 y2 y3 x0 x1 x2 x3 : Value} (q0 : W.cell? ⟨g, 0, none⟩ = some y0) (q1 : W.cell? ⟨g, 1, none⟩ = some y1) (q2 : W.cell? ⟨g + 1, 0, none⟩ = some y2) (q3 : W.cell? ⟨g + 1, 1, none⟩ = some y3) :
    ((((W.setCell ⟨g, 0, none⟩ x0).setCell ⟨g, 1, none⟩ x1).setCell ⟨g + 1, 0, none⟩ x2).setCell ⟨g + 1, 1, none⟩ x3).cell? ⟨g, 0, none⟩ = some x0 ∧
    ((((W.setCell ⟨g, 0, none⟩ x0).setCell ⟨g, 1, none⟩ x1).setCell ⟨g + 1, 0, none⟩ x2).setCell ⟨g + 1, 1, none⟩ x3).cell? ⟨g, 1, none⟩ = some x1 ∧
    ((((W.setCell ⟨g, 0, none⟩ x0).setCell ⟨g, 1, none⟩ x1).setCell ⟨g + 1, 0, none⟩ x2).setCell ⟨g + 1, 1, none⟩ x3).cell? ⟨g + 1, 0, none⟩ = some x2 ∧
    ((((W.setCell ⟨g, 0, none⟩ x0).setCell ⟨g, 1, none⟩ x1).setCell ⟨g + 1, 0, none⟩ x2).setCell ⟨g + 1, 1, none⟩ x3).cell? ⟨g + 1, 1, none⟩ = some x3 ∧
    ((((W.setCell ⟨g, 0, none⟩ x0).setCell ⟨g, 1, none⟩ x1).setCell ⟨g + 1, 0, none⟩ x2).setCell ⟨g + 1, 1, none⟩ x3).heap.size = W.heap.size := by
  refine ⟨?_, ?_, ?_, ?_, ?_⟩ <;> simp [go_sem, q0, q1, q2, q3]

end Go.Proofs.YtahehlajpaoiiaaGreatDoor


/-
  Words for the walks of the statements about two and three integers: what lies in the parameters' blocks behind the first line of each.
-/
namespace Go.Proofs.YtahehlajpaoiiaaGreatDoor
open Go.RowKit
attribute [local go_sem ↓] Go.wp_at_zero Go.wp_at_succ

/-- An integer lies in block g. -/
structure Zi (W : World) (g : Nat) (b : Bool) (m : ByteArray) : Prop where
  c0 : W.cell? ⟨g, 0, none⟩ = some (.bool b)
  c1 : W.cell? ⟨g, 1, none⟩ = some (.string m)

theorem Zi.below {W W' : World} {g B : Nat} {b : Bool} {m : ByteArray} (h : Zi W g b m) (hb : Below B W W') (hg : g < B) : Zi W' g b m :=
  ⟨(hb.cell (p := ⟨g, 0, none⟩) hg).trans h.c0, (hb.cell (p := ⟨g, 1, none⟩) hg).trans h.c1⟩

/-- Three boxes of integers, as they were made. -/
structure K3 (w : World) (T : TypeId) (v0 v1 v2 v3 v4 v5 : Value) (w1 : World) : Prop where
  k0 : w1.heap[w.heap.size]? = some (.cells #[v0, v1] T (0, 0))
  k1 : w1.heap[w.heap.size + 1]? = some (.cells #[v2, v3] T (0, 0))
  k2 : w1.heap[w.heap.size + 2]? = some (.cells #[v4, v5] T (0, 0))
  sz : w.heap.size + 3 ≤ w1.heap.size
  bel : Below w.heap.size w w1

theorem K3.start (w : World) (T : TypeId) (v0 v1 v2 v3 v4 v5 : Value) : K3 w T v0 v1 v2 v3 v4 v5 (((w.alloc (.cells #[v0, v1] T)).alloc (.cells #[v2, v3] T)).alloc (.cells #[v4, v5] T)) := by
  obtain ⟨k1, k2, k3⟩ := heap_three_all w (.cells #[v0, v1] T) (.cells #[v2, v3] T) (.cells #[v4, v5] T)
  exact ⟨k1, k2, k3, by simp, (((Below.refl _ _).alloc (Nat.le_refl _) _).alloc (by simp) _).alloc (by simp <;> omega) _⟩

theorem K3.next {w : World} {T : TypeId} {v0 v1 v2 v3 v4 v5 : Value} {w1 w2 : World} (h : K3 w T v0 v1 v2 v3 v4 v5 w1) (hb : Below w1.heap.size w1 w2) : K3 w T v0 v1 v2 v3 v4 v5 w2 := by
  have hs := h.sz
  refine ⟨(hb.block _ (by omega)).trans h.k0, (hb.block _ (by omega)).trans h.k1, (hb.block _ (by omega)).trans h.k2, ?_, h.bel.trans (hb.mono h.bel.size)⟩
  have := hb.size
  omega
theorem K3.drew {w : World} {T : TypeId} {v0 v1 v2 v3 v4 v5 : Value} {w1 : World} (h : K3 w T v0 v1 v2 v3 v4 v5 w1) : K3 w T v0 v1 v2 v3 v4 v5 w1.drew := h.next (Below.refl _ _).drew

/-- Three integers of at most k bytes lie in the three boxes. -/
structure In3 (w : World) (k : Nat) (x y z : Int) (b1 b2 b3 : Bool) (m1 m2 m3 : ByteArray) (wx : World) : Prop where
  sx : x.natAbs < 256 ^ k
  sy : y.natAbs < 256 ^ k
  sz : z.natAbs < 256 ^ k
  ex : Hid (enc x = .agg #[.bool b1, .string m1])
  ey : Hid (enc y = .agg #[.bool b2, .string m2])
  ez : Hid (enc z = .agg #[.bool b3, .string m3])
  zx : Zi wx w.heap.size b1 m1
  zy : Zi wx (w.heap.size + 1) b2 m2
  zz : Zi wx (w.heap.size + 2) b3 m3
  big : w.heap.size + 3 ≤ wx.heap.size
  bel : Below w.heap.size w wx
def In3E (w : World) (k : Nat) (wx : World) : Prop := ∃ x y z b1 b2 b3 m1 m2 m3, In3 w k x y z b1 b2 b3 m1 m2 m3 wx

theorem set_three {W : World} {g : Nat} {T : TypeId} {y0 y1 y2 y3 y4 y5 x0 x1 x2 x3 x4 x5 : Value} (q0 : W.heap[g]? = some (.cells #[y0, y1] T (0, 0))) (q1 : W.heap[g + 1]? = some (.cells #[y2, y3] T (0, 0))) (q2 : W.heap[g + 2]? = some (.cells #[y4, y5] T (0, 0))) (W' : World)
    (hW : W' = ((((((W.setCell ⟨g, 0, none⟩ x0).setCell ⟨g, 1, none⟩ x1).setCell ⟨g + 1, 0, none⟩ x2).setCell ⟨g + 1, 1, none⟩ x3).setCell ⟨g + 2, 0, none⟩ x4).setCell ⟨g + 2, 1, none⟩ x5)) :
    W'.cell? ⟨g, 0, none⟩ = some x0 ∧ W'.cell? ⟨g, 1, none⟩ = some x1 ∧ W'.cell? ⟨g + 1, 0, none⟩ = some x2 ∧ W'.cell? ⟨g + 1, 1, none⟩ = some x3 ∧ W'.cell? ⟨g + 2, 0, none⟩ = some x4 ∧ W'.cell? ⟨g + 2, 1, none⟩ = some x5 ∧ W'.heap.size = W.heap.size := by
  obtain ⟨a0, a1, _, _⟩ := blk_cells q0
  obtain ⟨a2, a3, _, _⟩ := blk_cells q1
  obtain ⟨a4, a5, _, _⟩ := blk_cells q2
  have n1 : ¬ (g = g + 2) := by omega
  have n2 : ¬ (g + 2 = g) := by omega
  have n3 : ¬ (g + 1 = g + 2) := by omega
  have n4 : ¬ (g + 2 = g + 1) := by omega
  subst hW
  refine ⟨?_, ?_, ?_, ?_, ?_, ?_, ?_⟩ <;> simp [go_sem, a0, a1, a2, a3, a4, a5, n1, n2, n3, n4]

theorem In3E.mk {w W : World} {k : Nat} {T : TypeId} {v0 v1 v2 v3 v4 v5 : Value} {x y z : Int} {b1 b2 b3 : Bool} {m1 m2 m3 : ByteArray} (hk : K3 w T v0 v1 v2 v3 v4 v5 W) (sx : x.natAbs < 256 ^ k) (sy : y.natAbs < 256 ^ k) (sz : z.natAbs < 256 ^ k)
    (ex : Hid (enc x = .agg #[.bool b1, .string m1])) (ey : Hid (enc y = .agg #[.bool b2, .string m2])) (ez : Hid (enc z = .agg #[.bool b3, .string m3])) :
    In3E w k ((((((W.setCell ⟨w.heap.size, 0, none⟩ (.bool b1)).setCell ⟨w.heap.size, 1, none⟩ (.string m1)).setCell ⟨w.heap.size + 1, 0, none⟩ (.bool b2)).setCell ⟨w.heap.size + 1, 1, none⟩ (.string m2)).setCell ⟨w.heap.size + 2, 0, none⟩ (.bool b3)).setCell ⟨w.heap.size + 2, 1, none⟩ (.string m3)) := by
  obtain ⟨t0, t1, t2, t3, t4, t5, t6⟩ := set_three (x0 := .bool b1) (x1 := .string m1) (x2 := .bool b2) (x3 := .string m2) (x4 := .bool b3) (x5 := .string m3) hk.k0 hk.k1 hk.k2 _ rfl
  exact ⟨x, y, z, b1, b2, b3, m1, m2, m3, sx, sy, sz, ex, ey, ez, ⟨t0, t1⟩, ⟨t2, t3⟩, ⟨t4, t5⟩, by rw [t6]; exact hk.sz,
    (((((hk.bel.setCell (by show w.heap.size ≤ w.heap.size; omega) _).setCell (by show w.heap.size ≤ w.heap.size; omega) _).setCell (by show w.heap.size ≤ w.heap.size + 1; omega) _).setCell (by show w.heap.size ≤ w.heap.size + 1; omega) _).setCell (by show w.heap.size ≤ w.heap.size + 2; omega) _).setCell (by show w.heap.size ≤ w.heap.size + 2; omega) _⟩

/-- The world so far, behind a call: the three integers lie where they lay. -/
structure S3 (w : World) (b1 b2 b3 : Bool) (m1 m2 m3 : ByteArray) (wc : World) : Prop where
  zx : Zi wc w.heap.size b1 m1
  zy : Zi wc (w.heap.size + 1) b2 m2
  zz : Zi wc (w.heap.size + 2) b3 m3
  big : w.heap.size + 3 ≤ wc.heap.size
  bel : Below w.heap.size w wc
theorem S3.next {w w1 w2 : World} {b1 b2 b3 : Bool} {m1 m2 m3 : ByteArray} (h : S3 w b1 b2 b3 m1 m2 m3 w1) (hb : Below w1.heap.size w1 w2) : S3 w b1 b2 b3 m1 m2 m3 w2 := by
  have := h.big
  exact ⟨h.zx.below hb (by omega), h.zy.below hb (by omega), h.zz.below hb (by omega), Nat.le_trans h.big hb.size, h.bel.trans (hb.mono h.bel.size)⟩
theorem S3.drew {w w1 : World} {b1 b2 b3 : Bool} {m1 m2 m3 : ByteArray} (h : S3 w b1 b2 b3 m1 m2 m3 w1) : S3 w b1 b2 b3 m1 m2 m3 w1.drew := h.next (Below.refl _ _).drew
theorem S3.alloc {w w1 : World} {b1 b2 b3 : Bool} {m1 m2 m3 : ByteArray} (h : S3 w b1 b2 b3 m1 m2 m3 w1) (o : Obj) : S3 w b1 b2 b3 m1 m2 m3 (w1.alloc o) := h.next ((Below.refl _ _).alloc (Nat.le_refl _) _)

/-- An integer in a new block of a world, later. -/
structure Oi (w4 : World) (b : Bool) (m : ByteArray) (wc : World) : Prop where
  z : Zi wc w4.heap.size b m
  big : w4.heap.size + 1 ≤ wc.heap.size
theorem Oi.start (w4 : World) (b : Bool) (m : ByteArray) (T : TypeId) : Oi w4 b m (w4.alloc (.cells #[.bool b, .string m] T)) := by
  obtain ⟨a0, a1, _, _⟩ := blk_cells (heap_one w4 (.cells #[.bool b, .string m] T))
  exact ⟨⟨a0, a1⟩, by simp⟩
theorem Oi.next {w4 w1 w2 : World} {b : Bool} {m : ByteArray} (h : Oi w4 b m w1) (hb : Below w1.heap.size w1 w2) : Oi w4 b m w2 := ⟨h.z.below hb (by have := h.big; omega), Nat.le_trans h.big hb.size⟩
theorem Oi.drew {w4 w1 : World} {b : Bool} {m : ByteArray} (h : Oi w4 b m w1) : Oi w4 b m w1.drew := h.next (Below.refl _ _).drew

theorem sz_add {x y : Int} {k : Nat} (hx : x.natAbs < 256 ^ k) (hy : y.natAbs < 256 ^ k) : (x + y).natAbs < 256 ^ (k + 1) := by
  rw [Nat.pow_succ]
  generalize 256 ^ k = p at *
  omega
theorem sz_sub {x y : Int} {k : Nat} (hx : x.natAbs < 256 ^ k) (hy : y.natAbs < 256 ^ k) : (x - y).natAbs < 256 ^ (k + 1) := by
  rw [Nat.pow_succ]
  generalize 256 ^ k = p at *
  omega
theorem sz_mul {x y : Int} {k j : Nat} (hx : x.natAbs < 256 ^ k) (hy : y.natAbs < 256 ^ j) : (x * y).natAbs < 256 ^ (k + j) := by
  rw [Int.natAbs_mul, Nat.pow_add]
  exact Nat.mul_lt_mul'' hx hy
theorem sz_neg {x : Int} {k : Nat} (hx : x.natAbs < 256 ^ k) : (-x).natAbs < 256 ^ k := by rw [Int.natAbs_neg]; exact hx
end Go.Proofs.YtahehlajpaoiiaaGreatDoor


/-
  The reference's sign.
-/
namespace Go.Proofs.YtahehlajpaoiiaaGreatDoor
open Go.RowKit
attribute [local go_sem ↓] Go.wp_at_zero Go.wp_at_succ

/-- How two integers compare. -/
def cmpZ (x y : Int) : Int := if x < y then -1 else if y < x then 1 else 0

theorem cmpZ_diff {x y : Int} (h : x.sign ≠ y.sign) : cmpZ x y = if x.sign < y.sign then -1 else 1 := by
  unfold cmpZ
  rcases Int.lt_trichotomy x 0 with h1 | h1 | h1 <;> rcases Int.lt_trichotomy y 0 with h2 | h2 | h2 <;>
    simp [Int.sign_eq_neg_one_of_neg, Int.sign_eq_one_of_pos, h1, h2] at h ⊢ <;> omega

theorem cmpZ_same {x y : Int} (h : x.sign = y.sign) : cmpZ x y = ord x.natAbs y.natAbs * x.sign := by
  unfold cmpZ ord
  rcases Int.lt_trichotomy x 0 with h1 | h1 | h1 <;> rcases Int.lt_trichotomy y 0 with h2 | h2 | h2 <;>
    simp [Int.sign_eq_neg_one_of_neg, Int.sign_eq_one_of_pos, h1, h2] at h ⊢
  · split <;> split <;> (try split) <;> (try split) <;> omega
  · split <;> split <;> (try split) <;> (try split) <;> omega

theorem cmpZ_in (x y : Int) : -1 ≤ cmpZ x y ∧ cmpZ x y ≤ 1 := by unfold cmpZ; split <;> (try split) <;> omega
end Go.Proofs.YtahehlajpaoiiaaGreatDoor
