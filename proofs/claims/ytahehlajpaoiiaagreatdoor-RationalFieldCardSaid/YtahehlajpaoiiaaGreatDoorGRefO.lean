import Derived.Test.YtahehlajpaoiiaaGreatDoorGRefN
import Derived.Deep.RegionWith
import Derived.Deep.RegionLaw
import Derived.Test.YtahehlajpaoiiaaGreatDoorGRefL
import Derived.Test.YtahehlajpaoiiaaGreatDoorGLate
import Derived.Deep.LoopGhost

/-
  The program's whole root of integers, and its test for squares.
-/
namespace Go.Proofs.YtahehlajpaoiiaaGreatDoor
open Go.RowKit
attribute [local go_sem ↓] Go.wp_at_zero Go.wp_at_succ

/-- Two blocks of a call's own: the box of an integer, and a result. -/
theorem neg_sign {x : Int} (h : x < 0) : x.sign = -1 := Int.sign_eq_neg_one_of_neg h
theorem nonneg_sign {x : Int} (h : 0 ≤ x) : decide (x.sign < 0) = false := by
  have : ¬ x.sign < 0 := by
    rcases Int.lt_trichotomy x 0 with h1 | h1 | h1
    · omega
    · subst h1; decide
    · rw [Int.sign_eq_one_of_pos h1]; decide
  exact decide_eq_false this

set_option maxHeartbeats 2000000 in
set_option maxRecDepth 100000 in
theorem sqrt_neg {x : Int} {b : Bool} {m : ByteArray} (hx : enc x = .agg #[.bool b, .string m]) (h : x < 0) (w : World) :
    Calls Tryz.prog 119 #[.agg #[.bool b, .string m]] w (RetB w (.tuple #[.agg #[.bool false, .string ⟨#[]⟩], .int .i64 2])) := by
  have hs := fun V => Sign_f hx V
  rw [neg_sign h] at hs
  have HS := Lib.hid hs
  have K0 := Lib.hid (K2.start w 23 (.bool b) (.string m) (.bool false) (.string ⟨#[]⟩))
  clear hs hx h
  go_enter Tryz.func119, Tryz.ntmps119
  go_wp2_with fail
  refine (HS.out _).mono ?_
  rintro e w1 ⟨rfl, hb1⟩
  have K1 := Lib.hid (K0.out.next hb1)
  obtain ⟨p0, p1, p2, p3⟩ := blk_cells K1.out.k1
  clear hb1
  go_wp2
  exact bodyPost_ret (v := .tuple #[.agg #[.bool false, .string ⟨#[]⟩], .int .i64 2]) (by simp [results, Tryz.results119, go_sem, p0, p1]) rfl ⟨rfl, by first | exact K1.out.bel | exact (K1.out.bel.setCell (by show w.heap.size ≤ w.heap.size + 1; omega) _).setCell (by show w.heap.size ≤ w.heap.size + 1; omega) _⟩

set_option maxHeartbeats 4000000 in
set_option maxRecDepth 100000 in
theorem sqrt_f {x : Int} {b br : Bool} {m mr : ByteArray} (hx : enc x = .agg #[.bool b, .string m]) (h : 0 ≤ x) (hm : m.size ≤ 40000000) (hr : enc ((rt x.natAbs : Nat) : Int) = .agg #[.bool br, .string mr]) (w : World) :
    Calls Tryz.prog 119 #[.agg #[.bool b, .string m]] w (RetB w (.tuple #[.agg #[.bool br, .string mr], .int .i64 0])) := by
  have hs := fun V => Sign_f hx V
  have hd := nonneg_sign h
  generalize x.sign = sx at *
  have HS := Lib.hid hs
  have hbv : bval m = x.natAbs := by rw [(enc_parts hx).2, bval_mag]
  have K0 := Lib.hid (K2.start w 23 (.bool b) (.string m) (.bool false) (.string ⟨#[]⟩))
  have HR := Lib.hid hr
  have HBV := Lib.hid hbv
  clear hs hx h hr hbv
  go_enter Tryz.func119, Tryz.ntmps119
  go_wp2_with fail
  refine (HS.out _).mono ?_
  rintro e w1 ⟨rfl, hb1⟩
  have K1 := Lib.hid (K0.out.next hb1)
  obtain ⟨c0, c1, p0, p1⟩ := K1.out.zx
  clear hb1
  go_wp2_with fail
  obtain ⟨W, hW⟩ : ∃ W, W = w1.alloc arr16 := ⟨_, rfl⟩
  have l1 : W.heap[w1.heap.size]? = some arr16 := by rw [hW]; exact heap_one _ _
  have hbW : Below w1.heap.size w1 W := by rw [hW]; exact (Below.refl _ _).alloc (Nat.le_refl _) _
  have hszW : W.heap.size = w1.heap.size + 1 := by rw [hW]; simp
  have hsz1 := K1.out.sz
  have c1' := (hbW.cell (p := ⟨w.heap.size, 1, none⟩) (by show w.heap.size < _; omega)).trans c1
  have HI := Lib.hid (show Is16 W w1.heap.size from ⟨_, l1, by simp⟩)
  have HU := Lib.hid (fun V (hV : Is16 V w1.heap.size) => unpack_any (.slice (some ⟨w1.heap.size, 0, none⟩) 0 16) m 0 V (by omega) (Nat.zero_le _) hV.own)
  have HP : ∀ (V : World) (A : Option Addr) (n c : Nat), n ≤ 1000000000 → Ng V A n c (rt (bval m)) → Calls Tryz.prog 102 #[.bool false, .slice A n c] V (RetB V (.agg #[.bool br, .string mr])) := fun V A n c h1 h2 => by
    have h3 := pack_any false A n c _ V h1 h2
    have e : sgn false (rt (bval m)) = ((rt x.natAbs : Nat) : Int) := by rw [HBV.out]; rfl
    unfold RetZ at h3
    rw [e, HR.out] at h3
    exact h3
  have HP := Lib.hid HP
  have HBW := Lib.hid hbW
  have hw9 : w1.alloc arr16 = W := hW.symm
  unfold arr16 at hw9
  rw [hw9]
  clear hw9 hW hbW c0 c1 p0 p1 l1
  go_region_with (first
    | (go_at_call 104; (with_reducible refine (HU.out _ ?_).mono ?_); (exact HI.out.keep rfl); rintro e w2 ⟨A1, n1, d1, hn1, rfl, hm1, hg1, hbk1⟩)
    | (go_at_call 141; (with_reducible refine (root_any _ A1 n1 d1 _ (by omega) hm1).mono ?_); rintro e w3 ⟨A2, n2, d2, hn2, rfl, hm2, hb2, hf2⟩)
    | (go_at_call 102; (with_reducible refine (HP.out _ _ _ _ (by omega) hm2.toNg).mono ?_); rintro e w4 ⟨rfl, hb4⟩; have K4 := Lib.hid (((K1.out.next (HBW.out.drew.trans (below_of_grown (B := w1.heap.size) (g := w1.heap.size) hg1 (by show _ ≤ W.heap.size; omega) (Nat.le_refl _)))).next hb2).next hb4); obtain ⟨p0, p1, p2, p3⟩ := blk_cells K4.out.k1))
  all_goals
    go_wp2
    exact bodyPost_ret (v := .tuple #[.agg #[.bool br, .string mr], .int .i64 0]) (by simp [results, Tryz.results119, go_sem, p0, p1]) rfl ⟨rfl, (K4.out.bel.setCell (by show w.heap.size ≤ w.heap.size + 1; omega) _).setCell (by show w.heap.size ≤ w.heap.size + 1; omega) _⟩

/-- The memory of the test: the box of the integer, the result, and the root. -/
structure IsS (w : World) (T : TypeId) (g : Nat) (b br : Bool) (m mr : ByteArray) (wc : World) : Prop where
  k : K2 w T (.bool b) (.string m) (.bool false) (.string ⟨#[]⟩) wc
  z : Zi wc g br mr
  lo : w.heap.size + 2 ≤ g
  big : g + 1 ≤ wc.heap.size
theorem IsS.next {w w1 w2 : World} {T : TypeId} {g : Nat} {b br : Bool} {m mr : ByteArray} (h : IsS w T g b br m mr w1) (hb : Below w1.heap.size w1 w2) : IsS w T g b br m mr w2 := by
  have := h.big
  exact ⟨h.k.next hb, h.z.below hb (by omega), h.lo, Nat.le_trans h.big hb.size⟩
theorem IsS.cells {w w1 : World} {T : TypeId} {g : Nat} {b br : Bool} {m mr : ByteArray} (h : IsS w T g b br m mr w1) : w1.cell? ⟨w.heap.size, 0, none⟩ = some (.bool b) ∧ w1.cell? ⟨w.heap.size, 1, none⟩ = some (.string m) ∧ w1.cell? ⟨g, 0, none⟩ = some (.bool br) ∧ w1.cell? ⟨g, 1, none⟩ = some (.string mr) :=
  ⟨h.k.zx.1, h.k.zx.2.1, h.z.c0, h.z.c1⟩
theorem IsS.mk2 {w w1 : World} {T : TypeId} {b br : Bool} {m mr : ByteArray} (h : K2 w T (.bool b) (.string m) (.bool false) (.string ⟨#[]⟩) w1) (U : TypeId) : IsS w T w1.heap.size b br m mr (w1.alloc (.cells #[.bool br, .string mr] U)) := by
  obtain ⟨a0, a1, _, _⟩ := blk_cells (heap_one w1 (.cells #[.bool br, .string mr] U))
  exact ⟨h.next ((Below.refl _ _).alloc (Nat.le_refl _) _), ⟨a0, a1⟩, h.sz, by simp⟩

/-- A call that hands back an integer and a word whether. -/
def RetIs (w : World) (b : Bool) (m : ByteArray) (v : Bool) (e : Ending) (w' : World) : Prop := RetB w (.tuple #[.agg #[.bool b, .string m], .bool v]) e w'

set_option maxHeartbeats 4000000 in
set_option maxRecDepth 100000 in
theorem isSquare_neg {x : Int} {b : Bool} {m : ByteArray} (hx : enc x = .agg #[.bool b, .string m]) (h : x < 0) (w : World) :
    Calls Tryz.prog 89 #[.agg #[.bool b, .string m]] w (RetIs w false ⟨#[]⟩ false) := by
  have hs := fun V => Sign_f hx V
  rw [neg_sign h] at hs
  have HS := Lib.hid hs
  have K0 := Lib.hid (K2.start w 23 (.bool b) (.string m) (.bool false) (.string ⟨#[]⟩))
  clear hs hx h
  go_enter Tryz.func89, Tryz.ntmps89
  go_wp2_with fail
  refine (HS.out _).mono ?_
  rintro e w1 ⟨rfl, hb1⟩
  have K1 := Lib.hid (K0.out.next hb1)
  obtain ⟨p0, p1, p2, p3⟩ := blk_cells K1.out.k1
  clear hb1
  go_wp2
  exact bodyPost_ret (v := .tuple #[.agg #[.bool false, .string ⟨#[]⟩], .bool false]) (by simp [results, Tryz.results89, go_sem, p0, p1]) rfl ⟨rfl, by first | exact K1.out.bel | exact (K1.out.bel.setCell (by show w.heap.size ≤ w.heap.size + 1; omega) _).setCell (by show w.heap.size ≤ w.heap.size + 1; omega) _⟩

set_option maxHeartbeats 4000000 in
set_option maxRecDepth 100000 in
theorem isSquare_f {x : Int} {b br bp : Bool} {m mr mp : ByteArray} (hx : enc x = .agg #[.bool b, .string m]) (h : 0 ≤ x) (hm : m.size ≤ 40000) (hr : enc ((rt x.natAbs : Nat) : Int) = .agg #[.bool br, .string mr])
    (hp : enc (((rt x.natAbs : Nat) : Int) * ((rt x.natAbs : Nat) : Int)) = .agg #[.bool bp, .string mp]) (hmr : mr.size ≤ 40000) (w : World) :
    Calls Tryz.prog 89 #[.agg #[.bool b, .string m]] w (fun e w' => if ((rt x.natAbs : Nat) : Int) * ((rt x.natAbs : Nat) : Int) = x then RetIs w br mr true e w' else RetIs w false ⟨#[]⟩ false e w') := by
  have hs := fun V => Sign_f hx V
  have hd := nonneg_sign h
  have HQ := Lib.hid (fun V => sqrt_f hx h (by omega) hr V)
  have HM := Lib.hid (fun V => mul_f hr hr (by omega) (by omega) hp rfl V)
  have hbv : bval m = x.natAbs := by rw [(enc_parts hx).2, bval_mag]
  obtain ⟨v, hv, hvc⟩ := mayBeSquare_any m (by omega)
  have HV := Lib.hid hvc
  have K0 := Lib.hid (K2.start w 23 (.bool b) (.string m) (.bool false) (.string ⟨#[]⟩))
  generalize x.sign = sx at *
  have HS := Lib.hid hs
  clear hvc hs
  cases v
  · have hns : ¬ ((rt x.natAbs : Nat) : Int) * ((rt x.natAbs : Nat) : Int) = x := fun e => by
      have h2 := hv (rt x.natAbs) (by rw [hbv]; omega)
      cases h2
    simp only [if_neg hns]
    clear hns hv hbv hx hr hp h
    go_enter Tryz.func89, Tryz.ntmps89
    go_wp2_with fail
    refine (HS.out _).mono ?_
    rintro e w1 ⟨rfl, hb1⟩
    have K1 := Lib.hid (K0.out.next hb1)
    obtain ⟨c0, c1, p0, p1⟩ := K1.out.zx
    clear hb1
    go_wp2_with fail
    refine (HV.out _).mono ?_
    rintro e w2 ⟨rfl, q, rfl⟩
    obtain ⟨p0, p1, p2, p3⟩ := blk_cells K1.out.k1
    go_wp2
    exact bodyPost_ret (v := .tuple #[.agg #[.bool false, .string ⟨#[]⟩], .bool false]) (by simp [results, Tryz.results89, go_sem, p0, p1]) rfl ⟨rfl, by first | exact below_draws K1.out.bel q | exact ((below_draws K1.out.bel q).setCell (by show w.heap.size ≤ w.heap.size + 1; omega) _).setCell (by show w.heap.size ≤ w.heap.size + 1; omega) _⟩
  · clear hv hbv
    by_cases he : ((rt x.natAbs : Nat) : Int) * ((rt x.natAbs : Nat) : Int) = x
    · have h5 : Value.agg #[.bool bp, .string mp] = .agg #[.bool b, .string m] := by rw [← hp, he, hx]
      obtain ⟨rfl, rfl⟩ : bp = b ∧ mp = m := by injection h5 with h6; simpa using h6
      simp only [if_pos he]
      clear he hx hp hr h5 h
      go_enter Tryz.func89, Tryz.ntmps89
      go_wp2_with fail
      refine (HS.out _).mono ?_
      rintro e w1 ⟨rfl, hb1⟩
      have K1 := Lib.hid (K0.out.next hb1)
      obtain ⟨c0, c1, p0, p1⟩ := K1.out.zx
      clear hb1
      go_wp2_with fail
      refine (HV.out _).mono ?_
      rintro e w2 ⟨rfl, q, rfl⟩
      go_wp2_with fail
      refine (HQ.out _).mono ?_
      rintro e w3 ⟨rfl, hb3⟩
      have K3 := Lib.hid ((K1.out.next (below_draws (Below.refl _ w1) q)).next hb3)
      have BB := Lib.hid (IsS.mk2 (br := br) (mr := mr) K3.out 23)
      have BB := Lib.hid (BB.out.next (Below.refl _ _).drew)
      obtain ⟨t0, t1, t2, t3⟩ := BB.out.cells
      simp only [World.cell?_drew] at t0 t1 t2 t3
      clear hb3 c0 c1 p0 p1
      go_wp2_with fail
      go_region_held3 (fun w' => w'.cell? ⟨w.heap.size, 0, none⟩ = some (.bool bp) ∧ w'.cell? ⟨w.heap.size, 1, none⟩ = some (.string mp) ∧ w'.cell? ⟨w3.heap.size, 0, none⟩ = some (.bool br) ∧ w'.cell? ⟨w3.heap.size, 1, none⟩ = some (.string mr))
        (first
          | go_keep
          | exact BB.out.cells)
        (first
          | (go_at_call 79; (with_reducible refine (HM.out _).mono ?_); rintro e wn ⟨rfl, hbn⟩; have BB := Lib.hid (BB.out.next hbn)))
      obtain ⟨t0, t1, t2, t3⟩ := BB.out.cells
      obtain ⟨p0, p1, p2, p3⟩ := blk_cells BB.out.k.k1
      go_wp2
      exact bodyPost_ret (v := .tuple #[.agg #[.bool br, .string mr], .bool true]) (by simp [results, Tryz.results89, go_sem, p0, p1]) rfl ⟨rfl, (BB.out.k.bel.setCell (by show w.heap.size ≤ w.heap.size + 1; omega) _).setCell (by show w.heap.size ≤ w.heap.size + 1; omega) _⟩
    · have hne : ¬ (bp = b ∧ mp = m) := fun ⟨h1, h2⟩ => he (by rw [← enc_sgn hp, ← enc_sgn hx, h1, h2])
      have e1 : b = false := by rw [(enc_parts hx).1]; exact decide_eq_false (by omega)
      have e2 : bp = false := by rw [(enc_parts hp).1]; exact decide_eq_false (by have := Int.natCast_nonneg (rt x.natAbs * rt x.natAbs); rw [Int.natCast_mul] at this; omega)
      simp only [if_neg he]
      clear he hx hp hr
      subst e1
      subst e2
      have hne2 : ¬ mp = m := fun e => hne ⟨rfl, e⟩
      clear hne
      clear h
      go_enter Tryz.func89, Tryz.ntmps89
      go_wp2_with fail
      refine (HS.out _).mono ?_
      rintro e w1 ⟨rfl, hb1⟩
      have K1 := Lib.hid (K0.out.next hb1)
      obtain ⟨c0, c1, p0, p1⟩ := K1.out.zx
      clear hb1
      go_wp2_with fail
      refine (HV.out _).mono ?_
      rintro e w2 ⟨rfl, q, rfl⟩
      go_wp2_with fail
      refine (HQ.out _).mono ?_
      rintro e w3 ⟨rfl, hb3⟩
      have K3 := Lib.hid ((K1.out.next (below_draws (Below.refl _ w1) q)).next hb3)
      have BB := Lib.hid (IsS.mk2 (br := br) (mr := mr) K3.out 23)
      have BB := Lib.hid (BB.out.next (Below.refl _ _).drew)
      obtain ⟨t0, t1, t2, t3⟩ := BB.out.cells
      simp only [World.cell?_drew] at t0 t1 t2 t3
      clear hb3 c0 c1 p0 p1
      have hnt : ¬ mp.data.toList = m.data.toList := fun e => hne2 (by cases mp; cases m; simp at e; rw [e])
      have hnl : (mp.data.toList == m.data.toList) = false := by simpa using hnt
      have hnk : (mp.toList == m.toList) = false := by rw [ByteArray.toList_eq, ByteArray.toList_eq]; exact hnl
      clear hnt hne2
      go_wp2_with fail
      go_region_held3 (fun w' => w'.cell? ⟨w.heap.size, 0, none⟩ = some (.bool false) ∧ w'.cell? ⟨w.heap.size, 1, none⟩ = some (.string m) ∧ w'.cell? ⟨w3.heap.size, 0, none⟩ = some (.bool br) ∧ w'.cell? ⟨w3.heap.size, 1, none⟩ = some (.string mr))
        (first
          | go_keep
          | exact BB.out.cells)
        (first
          | (go_at_call 79; (with_reducible refine (HM.out _).mono ?_); rintro e wn ⟨rfl, hbn⟩; have BB := Lib.hid (BB.out.next hbn)))
      obtain ⟨p0, p1, p2, p3⟩ := blk_cells BB.out.k.k1
      go_wp2
      exact bodyPost_ret (v := .tuple #[.agg #[.bool false, .string ⟨#[]⟩], .bool false]) (by simp [results, Tryz.results89, go_sem, p0, p1]) rfl ⟨rfl, by first | exact BB.out.k.bel | exact (BB.out.k.bel.setCell (by show w.heap.size ≤ w.heap.size + 1; omega) _).setCell (by show w.heap.size ≤ w.heap.size + 1; omega) _⟩
end Go.Proofs.YtahehlajpaoiiaaGreatDoor


/-
  The walk of the statement about whole roots of integers.
-/
namespace Go.Proofs.YtahehlajpaoiiaaGreatDoor
open Go.RowKit
attribute [local go_sem ↓] Go.wp_at_zero Go.wp_at_succ

/-- An integer lies in block g, which is there. -/
structure Bx (g : Nat) (b : Bool) (m : ByteArray) (wc : World) : Prop where
  z : Zi wc g b m
  lt : g < wc.heap.size
theorem Bx.next {g : Nat} {b : Bool} {m : ByteArray} {w1 w2 : World} (h : Bx g b m w1) (hb : Below w1.heap.size w1 w2) : Bx g b m w2 := ⟨h.z.below hb h.lt, Nat.lt_of_lt_of_le h.lt hb.size⟩
theorem Bx.mk2 (w1 : World) (b : Bool) (m : ByteArray) (T : TypeId) : Bx w1.heap.size b m (w1.alloc (.cells #[.bool b, .string m] T)) := by
  obtain ⟨a0, a1, _, _⟩ := blk_cells (heap_one w1 (.cells #[.bool b, .string m] T))
  exact ⟨⟨a0, a1⟩, by simp⟩
theorem below_step {B : Nat} {w w1 w2 : World} (h : Below B w w1) (hB : B ≤ w.heap.size) (hb : Below w1.heap.size w1 w2) : Below B w w2 := h.trans (hb.mono (Nat.le_trans hB h.size))
theorem below_new (w1 : World) (o : Obj) : Below w1.heap.size w1 (w1.alloc o) := (Below.refl _ _).alloc (Nat.le_refl _) _
theorem st_drew {V w7 : World} (hb : Below V.drew.heap.size V.drew w7) : Below V.heap.size V w7 := (Below.refl _ V).drew.trans (hb.mono (Nat.le_refl _))
theorem st_new {V w7 : World} {o : Obj} (hb : Below (V.alloc o).heap.size (V.alloc o) w7) : Below V.heap.size V w7 := (below_new V o).trans (hb.mono (below_new V o).size)
theorem st_new_drew {V w7 : World} {o : Obj} (hb : Below (V.alloc o).drew.heap.size (V.alloc o).drew w7) : Below V.heap.size V w7 := st_new (st_drew hb)
theorem Bx.set {g g' : Nat} {b : Bool} {m : ByteArray} {w1 : World} (h : Bx g b m w1) (hne : ¬ g = g') (u v : Value) : Bx g b m ((w1.setCell ⟨g', 0, none⟩ u).setCell ⟨g', 1, none⟩ v) := by
  have h1 := h.z.c0
  have h2 := h.z.c1
  have h3 := h.lt
  have hne2 : ¬ g' = g := fun e => hne e.symm
  exact ⟨⟨by simp [go_sem, h1, hne, hne2], by simp [go_sem, h2, hne, hne2]⟩, by simp [h3]⟩
/-- What region 9 leaves. -/
structure R9 (w : World) (g1 g3 g5 g9 : Nat) (b1 b3 b5 b9 : Bool) (m1 m3 m5 m9 : ByteArray) (wx : World) : Prop where
  a1 : Bx g1 b1 m1 wx
  a3 : Bx g3 b3 m3 wx
  a5 : Bx g5 b5 m5 wx
  a9 : Bx g9 b9 m9 wx
  bel : Below w.heap.size w wx
theorem R9.next {w w1 w2 : World} {g1 g3 g5 g9 : Nat} {b1 b3 b5 b9 : Bool} {m1 m3 m5 m9 : ByteArray} (h : R9 w g1 g3 g5 g9 b1 b3 b5 b9 m1 m3 m5 m9 w1) (hb : Below w1.heap.size w1 w2) : R9 w g1 g3 g5 g9 b1 b3 b5 b9 m1 m3 m5 m9 w2 :=
  ⟨h.a1.next hb, h.a3.next hb, h.a5.next hb, h.a9.next hb, h.bel.trans (hb.mono h.bel.size)⟩
theorem R9.cells {w w1 : World} {g1 g3 g5 g9 : Nat} {b1 b3 b5 b9 : Bool} {m1 m3 m5 m9 : ByteArray} (h : R9 w g1 g3 g5 g9 b1 b3 b5 b9 m1 m3 m5 m9 w1) :
    w1.cell? ⟨g1, 0, none⟩ = some (.bool b1) ∧ w1.cell? ⟨g1, 1, none⟩ = some (.string m1) ∧ w1.cell? ⟨g3, 0, none⟩ = some (.bool b3) ∧ w1.cell? ⟨g3, 1, none⟩ = some (.string m3) ∧
    w1.cell? ⟨g5, 0, none⟩ = some (.bool b5) ∧ w1.cell? ⟨g5, 1, none⟩ = some (.string m5) ∧ w1.cell? ⟨g9, 0, none⟩ = some (.bool b9) ∧ w1.cell? ⟨g9, 1, none⟩ = some (.string m9) :=
  ⟨h.a1.z.c0, h.a1.z.c1, h.a3.z.c0, h.a3.z.c1, h.a5.z.c0, h.a5.z.c1, h.a9.z.c0, h.a9.z.c1⟩
theorem R9.late {w w8 : World} {g1 g3 g5 : Nat} {b1 b3 b5 b9 : Bool} {m1 m3 m5 m9 : ByteArray} (h1 : Bx g1 b1 m1 w8) (h3 : Bx g3 b3 m3 w8) (h5 : Bx g5 b5 m5 w8) (hb : Below w.heap.size w w8) (T : TypeId) :
    R9 w g1 g3 g5 w8.heap.size b1 b3 b5 b9 m1 m3 m5 m9 (w8.alloc (.cells #[.bool b9, .string m9] T)) :=
  ⟨h1.next (below_new _ _), h3.next (below_new _ _), h5.next (below_new _ _), Bx.mk2 _ _ _ _, hb.trans ((below_new _ _).mono hb.size)⟩
theorem R9.early {w w8 : World} {g1 g3 g5 g9 : Nat} {b1 b3 b5 b9 : Bool} {m1 m3 m5 m9 : ByteArray} (h1 : Bx g1 b1 m1 w8) (h3 : Bx g3 b3 m3 w8) (h5 : Bx g5 b5 m5 w8) (hb : Below w.heap.size w w8) {c0 c1 : Value}
    (p0 : w8.cell? ⟨g9, 0, none⟩ = some c0) (p1 : w8.cell? ⟨g9, 1, none⟩ = some c1) (n1 : ¬ g1 = g9) (n3 : ¬ g3 = g9) (n5 : ¬ g5 = g9) (n9 : g9 < w8.heap.size) (nw : w.heap.size ≤ g9) :
    R9 w g1 g3 g5 g9 b1 b3 b5 b9 m1 m3 m5 m9 ((w8.setCell ⟨g9, 0, none⟩ (.bool b9)).setCell ⟨g9, 1, none⟩ (.string m9)) :=
  ⟨h1.set n1 _ _, h3.set n3 _ _, h5.set n5 _ _, ⟨⟨(two_cells w8 g9 _ _ p0 p1).1, (two_cells w8 g9 _ _ p0 p1).2⟩, by simpa using n9⟩, (hb.setCell (by show w.heap.size ≤ g9; exact nw) _).setCell (by show w.heap.size ≤ g9; exact nw) _⟩
theorem new_cells {V w7 : World} {T : TypeId} (hb : Below (V.alloc (.cells #[.bool false, .string ⟨#[]⟩] T)).heap.size (V.alloc (.cells #[.bool false, .string ⟨#[]⟩] T)) w7) : w7.heap[V.heap.size]? = some (.cells #[.bool false, .string ⟨#[]⟩] T (0, 0)) :=
  (hb.block _ (by simp)).trans (heap_one _ _)

theorem rt_sq (n : Nat) : rt (n * n) = n := rt_unique (Nat.le_refl _) (by rw [Nat.add_mul, Nat.mul_add]; omega)
theorem sq_abs (x : Int) : (x * x).natAbs = x.natAbs * x.natAbs := Int.natAbs_mul x x

/-- The test for squares at a square. -/
theorem isSquare_sq {x : Int} {bs ba : Bool} {ms ma : ByteArray} (hs : enc (x * x) = .agg #[.bool bs, .string ms]) (ha : enc (x.natAbs : Int) = .agg #[.bool ba, .string ma]) (s1 : ms.size ≤ 40000) (s2 : ma.size ≤ 40000) (w : World) :
    Calls Tryz.prog 89 #[.agg #[.bool bs, .string ms]] w (RetIs w ba ma true) := by
  have h0 : 0 ≤ x * x := by
    have h2 : ((x.natAbs * x.natAbs : Nat) : Int) = x * x := by rw [Int.natCast_mul]; exact Int.natAbs_mul_self' x
    rw [← h2]
    exact Int.natCast_nonneg _
  have hr : rt (x * x).natAbs = x.natAbs := by rw [sq_abs, rt_sq]
  have hp : enc (((rt (x * x).natAbs : Nat) : Int) * ((rt (x * x).natAbs : Nat) : Int)) = .agg #[.bool bs, .string ms] := by rw [hr, Int.natAbs_mul_self' x, hs]
  have h := isSquare_f hs h0 s1 (br := ba) (mr := ma) (by rw [hr, ha]) hp s2 w
  refine h.mono fun e w' h2 => ?_
  rw [if_pos (by rw [hr]; exact Int.natAbs_mul_self' x)] at h2
  exact h2

end Go.Proofs.YtahehlajpaoiiaaGreatDoor


/-
  The reference's greatest common divisor.
-/
namespace Go.Proofs.YtahehlajpaoiiaaGreatDoor
open Go.RowKit
attribute [local go_sem ↓] Go.wp_at_zero Go.wp_at_succ

/-- Three boxes. -/
structure B3 (w : World) (T : TypeId) (a0 a1 b0 b1 c0 c1 : Value) (w1 : World) : Prop where
  k0 : w1.heap[w.heap.size]? = some (.cells #[a0, a1] T (0, 0))
  k1 : w1.heap[w.heap.size + 1]? = some (.cells #[b0, b1] T (0, 0))
  k2 : w1.heap[w.heap.size + 2]? = some (.cells #[c0, c1] T (0, 0))
  sz : w.heap.size + 3 ≤ w1.heap.size
  bel : Below w.heap.size w w1

section
variable {w w1 w2 : World} {T : TypeId} {a0 a1 b0 b1 c0 c1 : Value}
theorem B3.start (w : World) (T : TypeId) (a0 a1 b0 b1 c0 c1 : Value) : B3 w T a0 a1 b0 b1 c0 c1 (((w.alloc (.cells #[a0, a1] T)).alloc (.cells #[b0, b1] T)).alloc (.cells #[c0, c1] T)) := by
  obtain ⟨k1, k2, k3⟩ := heap_three_all w (.cells #[a0, a1] T) (.cells #[b0, b1] T) (.cells #[c0, c1] T)
  exact ⟨k1, k2, k3, by simp, (((Below.refl _ _).alloc (Nat.le_refl _) _).alloc (by simp) _).alloc (by simp <;> omega) _⟩
theorem B3.next (h : B3 w T a0 a1 b0 b1 c0 c1 w1) (hb : Below w1.heap.size w1 w2) : B3 w T a0 a1 b0 b1 c0 c1 w2 := by
  have hs := h.sz
  refine ⟨(hb.block _ (by omega)).trans h.k0, (hb.block _ (by omega)).trans h.k1, (hb.block _ (by omega)).trans h.k2, ?_, h.bel.trans (hb.mono h.bel.size)⟩
  have := hb.size
  omega
theorem B3.setA (h : B3 w T a0 a1 b0 b1 c0 c1 w1) (x y : Value) : B3 w T x y b0 b1 c0 c1 ((w1.setCell ⟨w.heap.size, 0, none⟩ x).setCell ⟨w.heap.size, 1, none⟩ y) :=
  ⟨two_set h.k0 x y, (two_other (by omega) x y).trans h.k1, (two_other (by omega) x y).trans h.k2, by rw [two_size]; exact h.sz, (h.bel.setCell (Nat.le_refl _) _).setCell (Nat.le_refl _) _⟩
theorem B3.setB (h : B3 w T a0 a1 b0 b1 c0 c1 w1) (x y : Value) : B3 w T a0 a1 x y c0 c1 ((w1.setCell ⟨w.heap.size + 1, 0, none⟩ x).setCell ⟨w.heap.size + 1, 1, none⟩ y) :=
  ⟨(two_other (by omega) x y).trans h.k0, two_set h.k1 x y, (two_other (by omega) x y).trans h.k2, by rw [two_size]; exact h.sz, (h.bel.setCell (by show w.heap.size ≤ w.heap.size + 1; omega) _).setCell (by show w.heap.size ≤ w.heap.size + 1; omega) _⟩
theorem B3.setC (h : B3 w T a0 a1 b0 b1 c0 c1 w1) (x y : Value) : B3 w T a0 a1 b0 b1 x y ((w1.setCell ⟨w.heap.size + 2, 0, none⟩ x).setCell ⟨w.heap.size + 2, 1, none⟩ y) :=
  ⟨(two_other (by omega) x y).trans h.k0, (two_other (by omega) x y).trans h.k1, two_set h.k2 x y, by rw [two_size]; exact h.sz, (h.bel.setCell (by show w.heap.size ≤ w.heap.size + 2; omega) _).setCell (by show w.heap.size ≤ w.heap.size + 2; omega) _⟩
theorem B3.in4 (h : B3 w T a0 a1 b0 b1 c0 c1 w1) : w1.cell? ⟨w.heap.size, 0, none⟩ = some a0 ∧ w1.cell? ⟨w.heap.size, 1, none⟩ = some a1 ∧ w1.cell? ⟨w.heap.size + 1, 0, none⟩ = some b0 ∧ w1.cell? ⟨w.heap.size + 1, 1, none⟩ = some b1 :=
  ⟨(blk_cells h.k0).1, (blk_cells h.k0).2.1, (blk_cells h.k1).1, (blk_cells h.k1).2.1⟩
end

theorem enc_nat (n : Nat) : enc (n : Int) = .agg #[.bool false, .string (mag n)] := by
  unfold enc
  have h : decide ((n : Int) < 0) = false := by simp
  rw [h, Int.natAbs_natCast]

end Go.Proofs.YtahehlajpaoiiaaGreatDoor
