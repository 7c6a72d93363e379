/-
  The walk of the statement about whole roots of integers.
-/
import Derived.Test.YtoolljoejioigaaGRtD
import Derived.Deep.RegionLaw
namespace Go.Proofs.Ytoolljoejioigaa
open Go.RowKit
attribute [local go_sem ↓] Go.wp_at_zero Go.wp_at_succ

/-- An integer lies in block g, which is there. -/
structure Bx (g : Nat) (b : Bool) (m : ByteArray) (wc : World) : Prop where
  z : Zi wc g b m
  lt : g < wc.heap.size
theorem Bx.next {g : Nat} {b : Bool} {m : ByteArray} {w1 w2 : World} (h : Bx g b m w1) (hb : Below w1.heap.size w1 w2) : Bx g b m w2 := ⟨h.z.below hb h.lt, Nat.lt_of_lt_of_le h.lt hb.size⟩
theorem Bx.mk2 (w1 : World) (b : Bool) (m : ByteArray) (T : TypeId) : Bx w1.heap.size b m (w1.alloc (.cells #[.bool b, .string m] T)) := by
  obtain ⟨a0, a1, _, _⟩ := blk_cells (heap_one w1 (.cells #[.bool b, .string m] T))
  exact ⟨⟨a0, a1⟩, by simp⟩
theorem below_step {B : Nat} {w w1 w2 : World} (h : Below B w w1) (hB : B ≤ w.heap.size) (hb : Below w1.heap.size w1 w2) : Below B w w2 := h.trans (hb.mono (Nat.le_trans hB h.size))
theorem below_new (w1 : World) (o : Obj) : Below w1.heap.size w1 (w1.alloc o) := (Below.refl _ _).alloc (Nat.le_refl _) _
theorem st_drew {V w7 : World} (hb : Below V.drew.heap.size V.drew w7) : Below V.heap.size V w7 := (Below.refl _ V).drew.trans (hb.mono (Nat.le_refl _))
theorem st_new {V w7 : World} {o : Obj} (hb : Below (V.alloc o).heap.size (V.alloc o) w7) : Below V.heap.size V w7 := (below_new V o).trans (hb.mono (below_new V o).size)
theorem st_new_drew {V w7 : World} {o : Obj} (hb : Below (V.alloc o).drew.heap.size (V.alloc o).drew w7) : Below V.heap.size V w7 := st_new (st_drew hb)
theorem Bx.set {g g' : Nat} {b : Bool} {m : ByteArray} {w1 : World} (h : Bx g b m w1) (hne : ¬ g = g') (u v : Value) : Bx g b m ((w1.setCell ⟨g', 0, none⟩ u).setCell ⟨g', 1, none⟩ v) := by
  have h1 := h.z.c0
  have h2 := h.z.c1
  have h3 := h.lt
  have hne2 : ¬ g' = g := fun e => hne e.symm
  exact ⟨⟨by simp [go_sem, h1, hne, hne2], by simp [go_sem, h2, hne, hne2]⟩, by simp [h3]⟩
/-- What region 9 leaves. -/
structure R9 (w : World) (g1 g3 g5 g9 : Nat) (b1 b3 b5 b9 : Bool) (m1 m3 m5 m9 : ByteArray) (wx : World) : Prop where
  a1 : Bx g1 b1 m1 wx
  a3 : Bx g3 b3 m3 wx
  a5 : Bx g5 b5 m5 wx
  a9 : Bx g9 b9 m9 wx
  bel : Below w.heap.size w wx
theorem R9.next {w w1 w2 : World} {g1 g3 g5 g9 : Nat} {b1 b3 b5 b9 : Bool} {m1 m3 m5 m9 : ByteArray} (h : R9 w g1 g3 g5 g9 b1 b3 b5 b9 m1 m3 m5 m9 w1) (hb : Below w1.heap.size w1 w2) : R9 w g1 g3 g5 g9 b1 b3 b5 b9 m1 m3 m5 m9 w2 :=
  ⟨h.a1.next hb, h.a3.next hb, h.a5.next hb, h.a9.next hb, h.bel.trans (hb.mono h.bel.size)⟩
theorem R9.cells {w w1 : World} {g1 g3 g5 g9 : Nat} {b1 b3 b5 b9 : Bool} {m1 m3 m5 m9 : ByteArray} (h : R9 w g1 g3 g5 g9 b1 b3 b5 b9 m1 m3 m5 m9 w1) :
    w1.cell? ⟨g1, 0, none⟩ = some (.bool b1) ∧ w1.cell? ⟨g1, 1, none⟩ = some (.string m1) ∧ w1.cell? ⟨g3, 0, none⟩ = some (.bool b3) ∧ w1.cell? ⟨g3, 1, none⟩ = some (.string m3) ∧
    w1.cell? ⟨g5, 0, none⟩ = some (.bool b5) ∧ w1.cell? ⟨g5, 1, none⟩ = some (.string m5) ∧ w1.cell? ⟨g9, 0, none⟩ = some (.bool b9) ∧ w1.cell? ⟨g9, 1, none⟩ = some (.string m9) :=
  ⟨h.a1.z.c0, h.a1.z.c1, h.a3.z.c0, h.a3.z.c1, h.a5.z.c0, h.a5.z.c1, h.a9.z.c0, h.a9.z.c1⟩
theorem R9.late {w w8 : World} {g1 g3 g5 : Nat} {b1 b3 b5 b9 : Bool} {m1 m3 m5 m9 : ByteArray} (h1 : Bx g1 b1 m1 w8) (h3 : Bx g3 b3 m3 w8) (h5 : Bx g5 b5 m5 w8) (hb : Below w.heap.size w w8) (T : TypeId) :
    R9 w g1 g3 g5 w8.heap.size b1 b3 b5 b9 m1 m3 m5 m9 (w8.alloc (.cells #[.bool b9, .string m9] T)) :=
  ⟨h1.next (below_new _ _), h3.next (below_new _ _), h5.next (below_new _ _), Bx.mk2 _ _ _ _, hb.trans ((below_new _ _).mono hb.size)⟩
theorem R9.early {w w8 : World} {g1 g3 g5 g9 : Nat} {b1 b3 b5 b9 : Bool} {m1 m3 m5 m9 : ByteArray} (h1 : Bx g1 b1 m1 w8) (h3 : Bx g3 b3 m3 w8) (h5 : Bx g5 b5 m5 w8) (hb : Below w.heap.size w w8) {c0 c1 : Value}
    (p0 : w8.cell? ⟨g9, 0, none⟩ = some c0) (p1 : w8.cell? ⟨g9, 1, none⟩ = some c1) (n1 : ¬ g1 = g9) (n3 : ¬ g3 = g9) (n5 : ¬ g5 = g9) (n9 : g9 < w8.heap.size) (nw : w.heap.size ≤ g9) :
    R9 w g1 g3 g5 g9 b1 b3 b5 b9 m1 m3 m5 m9 ((w8.setCell ⟨g9, 0, none⟩ (.bool b9)).setCell ⟨g9, 1, none⟩ (.string m9)) :=
  ⟨h1.set n1 _ _, h3.set n3 _ _, h5.set n5 _ _, ⟨⟨(two_cells w8 g9 _ _ p0 p1).1, (two_cells w8 g9 _ _ p0 p1).2⟩, by simpa using n9⟩, (hb.setCell (by show w.heap.size ≤ g9; exact nw) _).setCell (by show w.heap.size ≤ g9; exact nw) _⟩
theorem new_cells {V w7 : World} {T : TypeId} (hb : Below (V.alloc (.cells #[.bool false, .string ⟨#[]⟩] T)).heap.size (V.alloc (.cells #[.bool false, .string ⟨#[]⟩] T)) w7) : w7.heap[V.heap.size]? = some (.cells #[.bool false, .string ⟨#[]⟩] T (0, 0)) :=
  (hb.block _ (by simp)).trans (heap_one _ _)

theorem rt_sq (n : Nat) : rt (n * n) = n := rt_unique (Nat.le_refl _) (by rw [Nat.add_mul, Nat.mul_add]; omega)
theorem sq_abs (x : Int) : (x * x).natAbs = x.natAbs * x.natAbs := Int.natAbs_mul x x

/-- The test for squares at a square. -/
theorem isSquare_sq {x : Int} {bs ba : Bool} {ms ma : ByteArray} (hs : enc (x * x) = .agg #[.bool bs, .string ms]) (ha : enc (x.natAbs : Int) = .agg #[.bool ba, .string ma]) (s1 : ms.size ≤ 40000) (s2 : ma.size ≤ 40000) (w : World) :
    Calls Try.prog 39 #[.agg #[.bool bs, .string ms]] w (RetIs w ba ma true) := by
  have h0 : 0 ≤ x * x := by
    have h2 : ((x.natAbs * x.natAbs : Nat) : Int) = x * x := by rw [Int.natCast_mul]; exact Int.natAbs_mul_self' x
    rw [← h2]
    exact Int.natCast_nonneg _
  have hr : rt (x * x).natAbs = x.natAbs := by rw [sq_abs, rt_sq]
  have hp : enc (((rt (x * x).natAbs : Nat) : Int) * ((rt (x * x).natAbs : Nat) : Int)) = .agg #[.bool bs, .string ms] := by rw [hr, Int.natAbs_mul_self' x, hs]
  have h := isSquare_f hs h0 s1 (br := ba) (mr := ma) (by rw [hr, ha]) hp s2 w
  refine h.mono fun e w' h2 => ?_
  rw [if_pos (by rw [hr]; exact Int.natAbs_mul_self' x)] at h2
  exact h2

set_option maxHeartbeats 4000000 in
set_option maxRecDepth 100000 in
theorem roots_walk (na : Bool) (a : ByteArray) (w : World) : Calls Try.prog 11 #[.agg #[.bool na, .string a]] w (RetB w (.bool true)) := by
  have HU1 := Lib.hid (fun V => canonical_any na a 24 (by omega) V)
  go_enter Try.func11, Try.ntmps11
  go_wp2_with fail
  refine (HU1.out _).mono ?_
  rintro e w1 ⟨x, hx, rfl, hb1⟩
  obtain ⟨b1, m1, hbm1⟩ := enc_form x
  rw [hbm1]
  have s1 := enc_size hbm1 hx
  obtain ⟨bs, ms, es⟩ := enc_form (x * x)
  obtain ⟨ba, ma, ea⟩ := enc_form (x.natAbs : Int)
  have s2 := enc_size es (sz_mul hx hx)
  have s3 := enc_size ea (by rw [Int.natAbs_natCast]; exact hx)
  have HAA := Lib.hid (fun V => refMul_f hbm1 hbm1 (by omega) (by omega) es rfl V)
  have HSQ := Lib.hid (fun V => isSquare_sq es ea (by omega) (by omega) V)
  have HAB := Lib.hid (fun V => refAbs_f hbm1 ea V)
  have HSG := Lib.hid (fun V => refSign_f hbm1 V)
  clear s2 s3 es ea
  obtain ⟨p0, p1, p2, p3⟩ := res2 (g := w.heap.size) (by exact heap_one _ _) hb1 (by simp <;> omega)
  have hs1 := hb1.size
  have tt := two_cells w1 w.heap.size (.bool b1) (.string m1) p0 p1
  have hbW : Below w.heap.size w ((w1.setCell ⟨w.heap.size, 0, none⟩ (.bool b1)).setCell ⟨w.heap.size, 1, none⟩ (.string m1)) :=
    ((((Below.refl _ _).alloc (Nat.le_refl _) _).trans (hb1.mono (by simp <;> omega))).setCell (Nat.le_refl _) _).setCell (Nat.le_refl _) _
  have hsW : w.heap.size + 1 ≤ ((w1.setCell ⟨w.heap.size, 0, none⟩ (.bool b1)).setCell ⟨w.heap.size, 1, none⟩ (.string m1)).heap.size := by simp at hs1 ⊢; omega
  obtain ⟨t0, t1⟩ := tt
  go_wp2_with fail
  obtain ⟨W, hWW⟩ : ∃ W, W = ((w1.setCell ⟨w.heap.size, 0, none⟩ (.bool b1)).setCell ⟨w.heap.size, 1, none⟩ (.string m1)) := ⟨_, rfl⟩
  rw [← hWW] at t0 t1 hbW hsW
  rw [← hWW]
  have BB := Lib.hid hbW
  have A1 := Lib.hid (show Bx w.heap.size b1 m1 W from ⟨⟨t0, t1⟩, by omega⟩)
  have HSZ := Lib.hid (Nat.le_refl w.heap.size)
  clear hWW p0 p1 p2 p3 hb1 hs1 hbW hsW t0 t1
  by_cases hneg : x < 0
  · have HQ := Lib.hid (fun V => sqrt_neg hbm1 hneg V)
    have HI := Lib.hid (fun V => isSquare_neg hbm1 hneg V)
    unfold RetIs at HI HSQ
    rw [neg_sign hneg] at HSG
    clear hbm1 hx s1 hneg
    refine (HQ.out _).mono ?_
    rintro e w2 ⟨rfl, hb2⟩
    have BB := Lib.hid (below_step (below_step BB.out (Nat.le_refl _) hb2) (Nat.le_refl _) (below_new w2 (.cells #[.bool false, .string ⟨#[]⟩] 23)))
    have A3 := Lib.hid (Bx.mk2 w2 false ⟨#[]⟩ 23)
    have A1 := Lib.hid ((A1.out.next hb2).next (below_new w2 (.cells #[.bool false, .string ⟨#[]⟩] 23)))
    have t0 := A1.out.z.c0
    have t1 := A1.out.z.c1
    clear hb2
    go_wp2_with fail
    refine (HI.out _).mono ?_
    rintro e w3 ⟨rfl, hb3⟩
    have BB := Lib.hid (below_step (below_step BB.out (Nat.le_refl _) hb3) (Nat.le_refl _) (below_new w3 (.cells #[.bool false, .string ⟨#[]⟩] 23)))
    have A1 := Lib.hid ((A1.out.next hb3).next (below_new w3 (.cells #[.bool false, .string ⟨#[]⟩] 23)))
    have A3 := Lib.hid ((A3.out.next hb3).next (below_new w3 (.cells #[.bool false, .string ⟨#[]⟩] 23)))
    have A5 := Lib.hid (Bx.mk2 w3 false ⟨#[]⟩ 23)
    have t0 := A1.out.z.c0
    have t1 := A1.out.z.c1
    clear hb3
    go_wp2_with fail
    refine (HAA.out _).mono ?_
    rintro e w4 ⟨rfl, hb4⟩
    have BB := Lib.hid (below_step BB.out (Nat.le_refl _) hb4)
    have A1 := Lib.hid (A1.out.next hb4)
    have A3 := Lib.hid (A3.out.next hb4)
    have A5 := Lib.hid (A5.out.next hb4)
    clear hb4
    go_wp2_with fail
    refine (HSQ.out _).mono ?_
    rintro e w5 ⟨rfl, hb5⟩
    have BB := Lib.hid (below_step (below_step (below_step BB.out (Nat.le_refl _) hb5) (Nat.le_refl _) (below_new w5 (.cells #[.bool ba, .string ma] 23))) (Nat.le_refl _) (Below.refl _ _).drew)
    have A1 := Lib.hid (((A1.out.next hb5).next (below_new w5 (.cells #[.bool ba, .string ma] 23))).next (Below.refl _ _).drew)
    have A3 := Lib.hid (((A3.out.next hb5).next (below_new w5 (.cells #[.bool ba, .string ma] 23))).next (Below.refl _ _).drew)
    have A5 := Lib.hid (((A5.out.next hb5).next (below_new w5 (.cells #[.bool ba, .string ma] 23))).next (Below.refl _ _).drew)
    have A7 := Lib.hid ((Bx.mk2 w5 ba ma 23).next (Below.refl _ _).drew)
    have t0 := A1.out.z.c0
    have t1 := A1.out.z.c1
    have t6 := A7.out.z.c0
    have t7 := A7.out.z.c1
    simp only [World.cell?_drew] at t0 t1 t6 t7
    clear hb5
    go_wp2_with fail
    go_region_held3 (fun w' => w'.cell? ⟨w.heap.size, 0, none⟩ = some (.bool b1) ∧ w'.cell? ⟨w.heap.size, 1, none⟩ = some (.string m1) ∧ w'.cell? ⟨w5.heap.size, 0, none⟩ = some (.bool ba) ∧ w'.cell? ⟨w5.heap.size, 1, none⟩ = some (.string ma))
      (first
        | go_keep
        | exact ⟨A1.out.z.c0, A1.out.z.c1, A7.out.z.c0, A7.out.z.c1⟩)
      (first
        | (go_at_call 13; (with_reducible refine (known_any _).mono ?_); rintro e wn ⟨rfl, hbn⟩; have BB := Lib.hid (below_step BB.out (Nat.le_refl _) hbn); have A1 := Lib.hid (A1.out.next hbn); have A3 := Lib.hid (A3.out.next hbn); have A5 := Lib.hid (A5.out.next hbn); have A7 := Lib.hid (A7.out.next hbn))
        | (go_at_call 33; (with_reducible refine (HAB.out _).mono ?_); rintro e wn ⟨rfl, hbn⟩; have BB := Lib.hid (below_step BB.out (Nat.le_refl _) hbn); have A1 := Lib.hid (A1.out.next hbn); have A3 := Lib.hid (A3.out.next hbn); have A5 := Lib.hid (A5.out.next hbn); have A7 := Lib.hid (A7.out.next hbn)))
    have t0 := A1.out.z.c0
    have t1 := A1.out.z.c1
    go_wp2_with fail
    refine (HSG.out _).mono ?_
    rintro e w6 ⟨rfl, hb6⟩
    have BB := Lib.hid (below_step BB.out (Nat.le_refl _) hb6)
    have A1 := Lib.hid (A1.out.next hb6)
    have A3 := Lib.hid (A3.out.next hb6)
    have A5 := Lib.hid (A5.out.next hb6)
    have t0 := A1.out.z.c0
    have t1 := A1.out.z.c1
    have t2 := A3.out.z.c0
    have t3 := A3.out.z.c1
    have t4 := A5.out.z.c0
    have t5 := A5.out.z.c1
    clear hb6
    go_wp2_with fail
    go_ret
    exact ⟨rfl, BB.out⟩
  · have h0 : 0 ≤ x := by omega
    have hrs := rt_spec x.natAbs
    obtain ⟨r, hr⟩ : ∃ r, rt x.natAbs = r := ⟨_, rfl⟩
    have hrl : r ≤ x.natAbs := by rw [← hr]; exact rt_self _
    obtain ⟨br, mr, er⟩ := enc_form (r : Int)
    obtain ⟨bp, mp, ep⟩ := enc_form ((r : Int) * (r : Int))
    obtain ⟨bn, mn, en⟩ := enc_form ((r : Int) + 1)
    obtain ⟨bq, mq, eq⟩ := enc_form (((r : Int) + 1) * ((r : Int) + 1))
    have hr24 : (r : Int).natAbs < 256 ^ 24 := by rw [Int.natAbs_natCast]; omega
    have hn25 : ((r : Int) + 1).natAbs < 256 ^ 25 := sz_add (k := 24) hr24 (by decide)
    have z1 := enc_size er hr24
    have z2 := enc_size ep (sz_mul hr24 hr24)
    have z3 := enc_size en hn25
    have z4 := enc_size eq (sz_mul hn25 hn25)
    have HQ := Lib.hid (fun V => sqrt_f hbm1 h0 (by omega) (by rw [hr]; exact er) V)
    have hI := fun V => isSquare_f hbm1 h0 (by omega) (br := br) (mr := mr) (bp := bp) (mp := mp) (by rw [hr]; exact er) (by rw [hr]; exact ep) (by omega) V
    rw [hr] at hI hrs
    have HV := Lib.hid (fun V => valid_f er V)
    have HSR := Lib.hid (fun V => refSign_f er V)
    have hsr := nonneg_sign (x := (r : Int)) (by omega)
    have HRR := Lib.hid (fun V => refMul_f er er (by omega) (by omega) ep rfl V)
    have HNN := Lib.hid (fun V => refMul_f en en (by omega) (by omega) eq rfl V)
    have HAD := Lib.hid (fun V => refAdd_f er enc_1 (by omega) (by decide) en rfl V)
    have HF := Lib.hid (fun V => (show Calls Try.prog 18 #[.int .i64 1] V (RetB V (.agg #[.bool false, .string ⟨#[1]⟩])) from by have h := refFromInt_pos 1 (by omega) V; rw [show ((1 : Nat) : Int) = 1 from rfl] at h; unfold RetZ at h; rw [enc_1] at h; exact h))
    have hcr := fun V => refCompare_any ((r : Int) * (r : Int)) x (by rw [← (enc_parts ep).2]; omega) (by rw [← (enc_parts hbm1).2]; omega) bp b1 mp m1 ep hbm1 V
    have hcn := fun V => refCompare_any (((r : Int) + 1) * ((r : Int) + 1)) x (by rw [← (enc_parts eq).2]; omega) (by rw [← (enc_parts hbm1).2]; omega) bq b1 mq m1 eq hbm1 V
    have hle : (r : Int) * (r : Int) ≤ x := by have h5 : ((r * r : Nat) : Int) = (r : Int) * (r : Int) := Int.natCast_mul r r; omega
    have hgt : x < ((r : Int) + 1) * ((r : Int) + 1) := by have h5 : (((r + 1) * (r + 1) : Nat) : Int) = ((r : Int) + 1) * ((r : Int) + 1) := by rw [Int.natCast_mul]; rfl
                                                           omega
    rw [show cmpZ (((r : Int) + 1) * ((r : Int) + 1)) x = 1 by unfold cmpZ; rw [if_neg (by omega), if_pos hgt]] at hcn
    have HCN := Lib.hid hcn
    have eb : b1 = false := by rw [(enc_parts hbm1).1]; exact decide_eq_false hneg
    have ebp : bp = false := by rw [(enc_parts ep).1]; exact decide_eq_false (by have h5 : ((r * r : Nat) : Int) = (r : Int) * (r : Int) := Int.natCast_mul r r; omega)
    have hsx := nonneg_sign h0
    generalize x.sign = sx at *
    generalize (r : Int).sign = sr at *
    clear hcn hgt z1 z2 z3 z4 hr24 hn25 hrs hrl hx s1
    by_cases he : (r : Int) * (r : Int) = x
    · simp only [if_pos he] at hI
      rw [show cmpZ ((r : Int) * (r : Int)) x = 0 by unfold cmpZ; rw [if_neg (by omega), if_neg (by omega)]] at hcr
      obtain ⟨rfl, rfl⟩ : bp = b1 ∧ mp = m1 := by have h5 : Value.agg #[.bool bp, .string mp] = .agg #[.bool b1, .string m1] := by rw [← ep, he, hbm1]
                                                  injection h5 with h6; simpa using h6
      have HI := Lib.hid hI
      unfold RetIs at HI HSQ
      have HCR := Lib.hid hcr
      clear hI hcr hle er ep en eq hbm1 he hneg h0 eb ebp hr
      refine (HQ.out _).mono ?_
      rintro e w2 ⟨rfl, hb2⟩
      have BB := Lib.hid (below_step (below_step BB.out (Nat.le_refl _) hb2) (Nat.le_refl _) (below_new w2 (.cells #[.bool br, .string mr] 23)))
      have A3 := Lib.hid (Bx.mk2 w2 br mr 23)
      have A1 := Lib.hid ((A1.out.next hb2).next (below_new w2 (.cells #[.bool br, .string mr] 23)))
      have t0 := A1.out.z.c0
      have t1 := A1.out.z.c1
      clear hb2
      go_wp2_with fail
      refine (HI.out _).mono ?_
      rintro e w3 ⟨rfl, hb3⟩
      have BB := Lib.hid (below_step (below_step BB.out (Nat.le_refl _) hb3) (Nat.le_refl _) (below_new w3 (.cells #[.bool br, .string mr] 23)))
      have A1 := Lib.hid ((A1.out.next hb3).next (below_new w3 (.cells #[.bool br, .string mr] 23)))
      have A3 := Lib.hid ((A3.out.next hb3).next (below_new w3 (.cells #[.bool br, .string mr] 23)))
      have A5 := Lib.hid (Bx.mk2 w3 br mr 23)
      have t0 := A1.out.z.c0
      have t1 := A1.out.z.c1
      clear hb3
      go_wp2_with fail
      refine (HAA.out _).mono ?_
      rintro e w4 ⟨rfl, hb4⟩
      have BB := Lib.hid (below_step BB.out (Nat.le_refl _) hb4)
      have A1 := Lib.hid (A1.out.next hb4)
      have A3 := Lib.hid (A3.out.next hb4)
      have A5 := Lib.hid (A5.out.next hb4)
      clear hb4
      go_wp2_with fail
      refine (HSQ.out _).mono ?_
      rintro e w5 ⟨rfl, hb5⟩
      have BB := Lib.hid (below_step (below_step (below_step BB.out (Nat.le_refl _) hb5) (Nat.le_refl _) (below_new w5 (.cells #[.bool ba, .string ma] 23))) (Nat.le_refl _) (Below.refl _ _).drew)
      have A1 := Lib.hid (((A1.out.next hb5).next (below_new w5 (.cells #[.bool ba, .string ma] 23))).next (Below.refl _ _).drew)
      have A3 := Lib.hid (((A3.out.next hb5).next (below_new w5 (.cells #[.bool ba, .string ma] 23))).next (Below.refl _ _).drew)
      have A5 := Lib.hid (((A5.out.next hb5).next (below_new w5 (.cells #[.bool ba, .string ma] 23))).next (Below.refl _ _).drew)
      have A7 := Lib.hid ((Bx.mk2 w5 ba ma 23).next (Below.refl _ _).drew)
      have t0 := A1.out.z.c0
      have t1 := A1.out.z.c1
      have t6 := A7.out.z.c0
      have t7 := A7.out.z.c1
      simp only [World.cell?_drew] at t0 t1 t6 t7
      clear hb5
      go_wp2_with fail
      go_region_held3 (fun w' => w'.cell? ⟨w.heap.size, 0, none⟩ = some (.bool bp) ∧ w'.cell? ⟨w.heap.size, 1, none⟩ = some (.string mp) ∧ w'.cell? ⟨w5.heap.size, 0, none⟩ = some (.bool ba) ∧ w'.cell? ⟨w5.heap.size, 1, none⟩ = some (.string ma))
        (first
          | go_keep
          | exact ⟨A1.out.z.c0, A1.out.z.c1, A7.out.z.c0, A7.out.z.c1⟩)
        (first
          | (go_at_call 13; (with_reducible refine (known_any _).mono ?_); rintro e wn ⟨rfl, hbn⟩; have BB := Lib.hid (below_step BB.out (Nat.le_refl _) hbn); have A1 := Lib.hid (A1.out.next hbn); have A3 := Lib.hid (A3.out.next hbn); have A5 := Lib.hid (A5.out.next hbn); have A7 := Lib.hid (A7.out.next hbn))
          | (go_at_call 33; (with_reducible refine (HAB.out _).mono ?_); rintro e wn ⟨rfl, hbn⟩; have BB := Lib.hid (below_step BB.out (Nat.le_refl _) hbn); have A1 := Lib.hid (A1.out.next hbn); have A3 := Lib.hid (A3.out.next hbn); have A5 := Lib.hid (A5.out.next hbn); have A7 := Lib.hid (A7.out.next hbn)))
      have t0 := A1.out.z.c0
      have t1 := A1.out.z.c1
      go_wp2_with fail
      refine (HSG.out _).mono ?_
      rintro e w6 ⟨rfl, hb6⟩
      have BB := Lib.hid (below_step BB.out (Nat.le_refl _) hb6)
      have A1 := Lib.hid (A1.out.next hb6)
      have A3 := Lib.hid (A3.out.next hb6)
      have A5 := Lib.hid (A5.out.next hb6)
      have t0 := A1.out.z.c0
      have t1 := A1.out.z.c1
      have t2 := A3.out.z.c0
      have t3 := A3.out.z.c1
      have t4 := A5.out.z.c0
      have t5 := A5.out.z.c1
      clear hb6
      go_upto_region 9 with fail
      have L1 : w.heap.size < w6.heap.size := A1.out.lt
      have L3 : w2.heap.size < w6.heap.size := A3.out.lt
      have L5 : w3.heap.size < w6.heap.size := A5.out.lt
      go_cut [9] (fun s9 wx => ∃ g9, s9 = .pointer (some ⟨g9, 0, none⟩) ∧ R9 w w.heap.size w2.heap.size w3.heap.size g9 bp br br bn mp mr mr mn wx)
      case first =>
        go_region_law (first
          | (go_simp; go_at_call 18; (with_reducible refine (HF.out _).mono ?_); rintro e w7 ⟨rfl, hb7⟩; (first | (have hs7 := st_drew (V := w6) hb7) | (have hs7 := st_new_drew (V := w6) hb7; have NN := Lib.hid (new_cells (V := w6) (st_drew hb7)))); have A1 := Lib.hid (A1.out.next hs7); have A3 := Lib.hid (A3.out.next hs7); have A5 := Lib.hid (A5.out.next hs7); have BB := Lib.hid (below_step BB.out (Nat.le_refl _) hs7); have t2 := A3.out.z.c0; have t3 := A3.out.z.c1; have M7 := hs7.size; have u2 := (A3.out.next (below_new w7 (.cells #[.bool false, .string ⟨#[]⟩] 23))).z.c0; have u3 := (A3.out.next (below_new w7 (.cells #[.bool false, .string ⟨#[]⟩] 23))).z.c1; clear hb7 hs7)
          | (go_simp; go_at_call 28; (with_reducible refine (HAD.out _).mono ?_); rintro e w8 ⟨rfl, hb8⟩; (first
              | (have A1 := Lib.hid (A1.out.next hb8); have A3 := Lib.hid (A3.out.next hb8); have A5 := Lib.hid (A5.out.next hb8); have BB := Lib.hid (below_step BB.out (Nat.le_refl _) hb8); have M8 := hb8.size; (first | (have NN := Lib.hid ((hb8.block _ (by have := (Array.getElem?_eq_some_iff.1 NN.out).1; exact this)).trans NN.out); obtain ⟨p0, p1, p2, p3⟩ := blk_cells NN.out) | skip); clear hb8)
              | (have hs8 := st_new (V := w7) hb8; have NN := Lib.hid (new_cells hb8); obtain ⟨p0, p1, p2, p3⟩ := blk_cells NN.out; have A1 := Lib.hid (A1.out.next hs8); have A3 := Lib.hid (A3.out.next hs8); have A5 := Lib.hid (A5.out.next hs8); have BB := Lib.hid (below_step BB.out (Nat.le_refl _) hs8); have M8 := hs8.size; clear hb8 hs8))))
        all_goals
          go_wp2_with fail
          go_meet
          first
          | exact ⟨_, rfl, R9.late A1.out A3.out A5.out BB.out _⟩
          | exact ⟨_, rfl, R9.early A1.out A3.out A5.out BB.out p0 p1 (by omega) (by omega) (by omega) (Array.getElem?_eq_some_iff.1 NN.out).1 (by omega)⟩
      case rest =>
        obtain ⟨g9, rfl, hR⟩ := hcut
        have RR := Lib.hid (hR.next (Below.refl _ _).drew)
        obtain ⟨t0, t1, t2, t3, t4, t5, t6, t7⟩ := RR.out.cells
        simp only [World.cell?_drew] at t0 t1 t2 t3 t4 t5 t6 t7
        clear hR A1 A3 A5 BB
        go_wp2_with fail
        go_region_held3 (fun w' => w'.cell? ⟨w.heap.size, 0, none⟩ = some (.bool bp) ∧ w'.cell? ⟨w.heap.size, 1, none⟩ = some (.string mp) ∧ w'.cell? ⟨w2.heap.size, 0, none⟩ = some (.bool br) ∧ w'.cell? ⟨w2.heap.size, 1, none⟩ = some (.string mr) ∧ w'.cell? ⟨w3.heap.size, 0, none⟩ = some (.bool br) ∧ w'.cell? ⟨w3.heap.size, 1, none⟩ = some (.string mr) ∧ w'.cell? ⟨g9, 0, none⟩ = some (.bool bn) ∧ w'.cell? ⟨g9, 1, none⟩ = some (.string mn))
          (first
            | go_keep
            | exact RR.out.cells)
          (first
            | (go_at_call 12; (with_reducible refine (HV.out _).mono ?_); rintro e wn ⟨rfl, hbn⟩; have RR := Lib.hid (RR.out.next hbn))
            | (go_at_call 23; (with_reducible refine (HSR.out _).mono ?_); rintro e wn ⟨rfl, hbn⟩; have RR := Lib.hid (RR.out.next hbn))
            | (go_at_call 35; (with_reducible refine (HRR.out _).mono ?_); rintro e wn ⟨rfl, hbn⟩; have RR := Lib.hid (RR.out.next hbn))
            | (go_at_call 35; (with_reducible refine (HNN.out _).mono ?_); rintro e wn ⟨rfl, hbn⟩; have RR := Lib.hid (RR.out.next hbn))
            | (go_at_call 19; (with_reducible refine (HCR.out _).mono ?_); rintro e wn ⟨rfl, hbn⟩; have RR := Lib.hid (RR.out.next hbn))
            | (go_at_call 19; (with_reducible refine (HCN.out _).mono ?_); rintro e wn ⟨rfl, hbn⟩; have RR := Lib.hid (RR.out.next hbn)))
        have RR := Lib.hid (RR.out.next (Below.refl _ _).drew)
        obtain ⟨t0, t1, t2, t3, t4, t5, t6, t7⟩ := RR.out.cells
        simp only [World.cell?_drew] at t0 t1 t2 t3 t4 t5 t6 t7
        go_wp2_with fail
        go_region_held3 (fun w' => w'.cell? ⟨w.heap.size, 0, none⟩ = some (.bool bp) ∧ w'.cell? ⟨w.heap.size, 1, none⟩ = some (.string mp) ∧ w'.cell? ⟨w2.heap.size, 0, none⟩ = some (.bool br) ∧ w'.cell? ⟨w2.heap.size, 1, none⟩ = some (.string mr) ∧ w'.cell? ⟨w3.heap.size, 0, none⟩ = some (.bool br) ∧ w'.cell? ⟨w3.heap.size, 1, none⟩ = some (.string mr) ∧ w'.cell? ⟨g9, 0, none⟩ = some (.bool bn) ∧ w'.cell? ⟨g9, 1, none⟩ = some (.string mn))
          (first
            | go_keep
            | exact RR.out.cells)
          (first
            | (go_at_call 35; (with_reducible refine (HRR.out _).mono ?_); rintro e wn ⟨rfl, hbn⟩; have RR := Lib.hid (RR.out.next hbn)))
        obtain ⟨t0, t1, t2, t3, t4, t5, t6, t7⟩ := RR.out.cells
        go_wp2_with fail
        go_ret
        exact ⟨rfl, RR.out.bel⟩
    · simp only [if_neg he] at hI
      rw [show cmpZ ((r : Int) * (r : Int)) x = -1 by unfold cmpZ; rw [if_pos (by omega)]] at hcr
      have hne : ¬ (bp = b1 ∧ mp = m1) := fun ⟨h1, h2⟩ => he (by rw [← enc_sgn ep, ← enc_sgn hbm1, h1, h2])
      have HI := Lib.hid hI
      unfold RetIs at HI HSQ
      have HCR := Lib.hid hcr
      clear hI hcr hle er ep en eq hbm1 he hneg h0 hr
      subst eb
      subst ebp
      have hne2 : ¬ mp = m1 := fun e => hne ⟨rfl, e⟩
      have hnt : ¬ mp.data.toList = m1.data.toList := fun e => hne2 (by cases mp; cases m1; simp at e; rw [e])
      have hnl : (mp.data.toList == m1.data.toList) = false := by simpa using hnt
      have hnk : (mp.toList == m1.toList) = false := by rw [ByteArray.toList_eq, ByteArray.toList_eq]; exact hnl
      clear hne hne2 hnt
      refine (HQ.out _).mono ?_
      rintro e w2 ⟨rfl, hb2⟩
      have BB := Lib.hid (below_step (below_step BB.out (Nat.le_refl _) hb2) (Nat.le_refl _) (below_new w2 (.cells #[.bool br, .string mr] 23)))
      have A3 := Lib.hid (Bx.mk2 w2 br mr 23)
      have A1 := Lib.hid ((A1.out.next hb2).next (below_new w2 (.cells #[.bool br, .string mr] 23)))
      have t0 := A1.out.z.c0
      have t1 := A1.out.z.c1
      clear hb2
      go_wp2_with fail
      refine (HI.out _).mono ?_
      rintro e w3 ⟨rfl, hb3⟩
      have BB := Lib.hid (below_step (below_step BB.out (Nat.le_refl _) hb3) (Nat.le_refl _) (below_new w3 (.cells #[.bool false, .string ⟨#[]⟩] 23)))
      have A1 := Lib.hid ((A1.out.next hb3).next (below_new w3 (.cells #[.bool false, .string ⟨#[]⟩] 23)))
      have A3 := Lib.hid ((A3.out.next hb3).next (below_new w3 (.cells #[.bool false, .string ⟨#[]⟩] 23)))
      have A5 := Lib.hid (Bx.mk2 w3 false ⟨#[]⟩ 23)
      have t0 := A1.out.z.c0
      have t1 := A1.out.z.c1
      clear hb3
      go_wp2_with fail
      refine (HAA.out _).mono ?_
      rintro e w4 ⟨rfl, hb4⟩
      have BB := Lib.hid (below_step BB.out (Nat.le_refl _) hb4)
      have A1 := Lib.hid (A1.out.next hb4)
      have A3 := Lib.hid (A3.out.next hb4)
      have A5 := Lib.hid (A5.out.next hb4)
      clear hb4
      go_wp2_with fail
      refine (HSQ.out _).mono ?_
      rintro e w5 ⟨rfl, hb5⟩
      have BB := Lib.hid (below_step (below_step (below_step BB.out (Nat.le_refl _) hb5) (Nat.le_refl _) (below_new w5 (.cells #[.bool ba, .string ma] 23))) (Nat.le_refl _) (Below.refl _ _).drew)
      have A1 := Lib.hid (((A1.out.next hb5).next (below_new w5 (.cells #[.bool ba, .string ma] 23))).next (Below.refl _ _).drew)
      have A3 := Lib.hid (((A3.out.next hb5).next (below_new w5 (.cells #[.bool ba, .string ma] 23))).next (Below.refl _ _).drew)
      have A5 := Lib.hid (((A5.out.next hb5).next (below_new w5 (.cells #[.bool ba, .string ma] 23))).next (Below.refl _ _).drew)
      have A7 := Lib.hid ((Bx.mk2 w5 ba ma 23).next (Below.refl _ _).drew)
      have t0 := A1.out.z.c0
      have t1 := A1.out.z.c1
      have t6 := A7.out.z.c0
      have t7 := A7.out.z.c1
      simp only [World.cell?_drew] at t0 t1 t6 t7
      clear hb5
      go_wp2_with fail
      go_region_held3 (fun w' => w'.cell? ⟨w.heap.size, 0, none⟩ = some (.bool false) ∧ w'.cell? ⟨w.heap.size, 1, none⟩ = some (.string m1) ∧ w'.cell? ⟨w5.heap.size, 0, none⟩ = some (.bool ba) ∧ w'.cell? ⟨w5.heap.size, 1, none⟩ = some (.string ma))
        (first
          | go_keep
          | exact ⟨A1.out.z.c0, A1.out.z.c1, A7.out.z.c0, A7.out.z.c1⟩)
        (first
          | (go_at_call 13; (with_reducible refine (known_any _).mono ?_); rintro e wn ⟨rfl, hbn⟩; have BB := Lib.hid (below_step BB.out (Nat.le_refl _) hbn); have A1 := Lib.hid (A1.out.next hbn); have A3 := Lib.hid (A3.out.next hbn); have A5 := Lib.hid (A5.out.next hbn); have A7 := Lib.hid (A7.out.next hbn))
          | (go_at_call 33; (with_reducible refine (HAB.out _).mono ?_); rintro e wn ⟨rfl, hbn⟩; have BB := Lib.hid (below_step BB.out (Nat.le_refl _) hbn); have A1 := Lib.hid (A1.out.next hbn); have A3 := Lib.hid (A3.out.next hbn); have A5 := Lib.hid (A5.out.next hbn); have A7 := Lib.hid (A7.out.next hbn)))
      have t0 := A1.out.z.c0
      have t1 := A1.out.z.c1
      go_wp2_with fail
      refine (HSG.out _).mono ?_
      rintro e w6 ⟨rfl, hb6⟩
      have BB := Lib.hid (below_step BB.out (Nat.le_refl _) hb6)
      have A1 := Lib.hid (A1.out.next hb6)
      have A3 := Lib.hid (A3.out.next hb6)
      have A5 := Lib.hid (A5.out.next hb6)
      have t0 := A1.out.z.c0
      have t1 := A1.out.z.c1
      have t2 := A3.out.z.c0
      have t3 := A3.out.z.c1
      have t4 := A5.out.z.c0
      have t5 := A5.out.z.c1
      clear hb6
      go_upto_region 9 with fail
      have L1 : w.heap.size < w6.heap.size := A1.out.lt
      have L3 : w2.heap.size < w6.heap.size := A3.out.lt
      have L5 : w3.heap.size < w6.heap.size := A5.out.lt
      go_cut [9] (fun s9 wx => ∃ g9, s9 = .pointer (some ⟨g9, 0, none⟩) ∧ R9 w w.heap.size w2.heap.size w3.heap.size g9 false br false bn m1 mr ⟨#[]⟩ mn wx)
      case first =>
        go_region_law (first
          | (go_simp; go_at_call 18; (with_reducible refine (HF.out _).mono ?_); rintro e w7 ⟨rfl, hb7⟩; (first | (have hs7 := st_drew (V := w6) hb7) | (have hs7 := st_new_drew (V := w6) hb7; have NN := Lib.hid (new_cells (V := w6) (st_drew hb7)))); have A1 := Lib.hid (A1.out.next hs7); have A3 := Lib.hid (A3.out.next hs7); have A5 := Lib.hid (A5.out.next hs7); have BB := Lib.hid (below_step BB.out (Nat.le_refl _) hs7); have t2 := A3.out.z.c0; have t3 := A3.out.z.c1; have M7 := hs7.size; have u2 := (A3.out.next (below_new w7 (.cells #[.bool false, .string ⟨#[]⟩] 23))).z.c0; have u3 := (A3.out.next (below_new w7 (.cells #[.bool false, .string ⟨#[]⟩] 23))).z.c1; clear hb7 hs7)
          | (go_simp; go_at_call 28; (with_reducible refine (HAD.out _).mono ?_); rintro e w8 ⟨rfl, hb8⟩; (first
              | (have A1 := Lib.hid (A1.out.next hb8); have A3 := Lib.hid (A3.out.next hb8); have A5 := Lib.hid (A5.out.next hb8); have BB := Lib.hid (below_step BB.out (Nat.le_refl _) hb8); have M8 := hb8.size; (first | (have NN := Lib.hid ((hb8.block _ (by have := (Array.getElem?_eq_some_iff.1 NN.out).1; exact this)).trans NN.out); obtain ⟨p0, p1, p2, p3⟩ := blk_cells NN.out) | skip); clear hb8)
              | (have hs8 := st_new (V := w7) hb8; have NN := Lib.hid (new_cells hb8); obtain ⟨p0, p1, p2, p3⟩ := blk_cells NN.out; have A1 := Lib.hid (A1.out.next hs8); have A3 := Lib.hid (A3.out.next hs8); have A5 := Lib.hid (A5.out.next hs8); have BB := Lib.hid (below_step BB.out (Nat.le_refl _) hs8); have M8 := hs8.size; clear hb8 hs8))))
        all_goals
          go_wp2_with fail
          go_meet
          first
          | exact ⟨_, rfl, R9.late A1.out A3.out A5.out BB.out _⟩
          | exact ⟨_, rfl, R9.early A1.out A3.out A5.out BB.out p0 p1 (by omega) (by omega) (by omega) (Array.getElem?_eq_some_iff.1 NN.out).1 (by omega)⟩
      case rest =>
        obtain ⟨g9, rfl, hR⟩ := hcut
        have RR := Lib.hid (hR.next (Below.refl _ _).drew)
        obtain ⟨t0, t1, t2, t3, t4, t5, t6, t7⟩ := RR.out.cells
        simp only [World.cell?_drew] at t0 t1 t2 t3 t4 t5 t6 t7
        clear hR A1 A3 A5 BB
        go_wp2_with fail
        go_region_held3 (fun w' => w'.cell? ⟨w.heap.size, 0, none⟩ = some (.bool false) ∧ w'.cell? ⟨w.heap.size, 1, none⟩ = some (.string m1) ∧ w'.cell? ⟨w2.heap.size, 0, none⟩ = some (.bool br) ∧ w'.cell? ⟨w2.heap.size, 1, none⟩ = some (.string mr) ∧ w'.cell? ⟨w3.heap.size, 0, none⟩ = some (.bool false) ∧ w'.cell? ⟨w3.heap.size, 1, none⟩ = some (.string ⟨#[]⟩) ∧ w'.cell? ⟨g9, 0, none⟩ = some (.bool bn) ∧ w'.cell? ⟨g9, 1, none⟩ = some (.string mn))
          (first
            | go_keep
            | exact RR.out.cells)
          (first
            | (go_at_call 12; (with_reducible refine (HV.out _).mono ?_); rintro e wn ⟨rfl, hbn⟩; have RR := Lib.hid (RR.out.next hbn))
            | (go_at_call 23; (with_reducible refine (HSR.out _).mono ?_); rintro e wn ⟨rfl, hbn⟩; have RR := Lib.hid (RR.out.next hbn))
            | (go_at_call 35; (with_reducible refine (HRR.out _).mono ?_); rintro e wn ⟨rfl, hbn⟩; have RR := Lib.hid (RR.out.next hbn))
            | (go_at_call 35; (with_reducible refine (HNN.out _).mono ?_); rintro e wn ⟨rfl, hbn⟩; have RR := Lib.hid (RR.out.next hbn))
            | (go_at_call 19; (with_reducible refine (HCR.out _).mono ?_); rintro e wn ⟨rfl, hbn⟩; have RR := Lib.hid (RR.out.next hbn))
            | (go_at_call 19; (with_reducible refine (HCN.out _).mono ?_); rintro e wn ⟨rfl, hbn⟩; have RR := Lib.hid (RR.out.next hbn)))
        have RR := Lib.hid (RR.out.next (Below.refl _ _).drew)
        obtain ⟨t0, t1, t2, t3, t4, t5, t6, t7⟩ := RR.out.cells
        simp only [World.cell?_drew] at t0 t1 t2 t3 t4 t5 t6 t7
        go_wp2_with fail
        go_region_held3 (fun w' => w'.cell? ⟨w.heap.size, 0, none⟩ = some (.bool false) ∧ w'.cell? ⟨w.heap.size, 1, none⟩ = some (.string m1) ∧ w'.cell? ⟨w2.heap.size, 0, none⟩ = some (.bool br) ∧ w'.cell? ⟨w2.heap.size, 1, none⟩ = some (.string mr) ∧ w'.cell? ⟨w3.heap.size, 0, none⟩ = some (.bool false) ∧ w'.cell? ⟨w3.heap.size, 1, none⟩ = some (.string ⟨#[]⟩) ∧ w'.cell? ⟨g9, 0, none⟩ = some (.bool bn) ∧ w'.cell? ⟨g9, 1, none⟩ = some (.string mn))
          (first
            | go_keep
            | exact RR.out.cells)
          (first
            | (go_at_call 35; (with_reducible refine (HRR.out _).mono ?_); rintro e wn ⟨rfl, hbn⟩; have RR := Lib.hid (RR.out.next hbn)))
        obtain ⟨t0, t1, t2, t3, t4, t5, t6, t7⟩ := RR.out.cells
        go_wp2_with fail
        go_ret
        exact ⟨rfl, RR.out.bel⟩
end Go.Proofs.Ytoolljoejioigaa
