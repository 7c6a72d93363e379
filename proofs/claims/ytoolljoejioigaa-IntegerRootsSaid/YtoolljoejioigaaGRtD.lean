/-
  The program's whole root of integers, and its test for squares.
-/
import Derived.Test.YtoolljoejioigaaGRtC
import Derived.Test.YtoolljoejioigaaGLawH
import Derived.Deep.RegionWith
namespace Go.Proofs.Ytoolljoejioigaa
open Go.RowKit
attribute [local go_sem ↓] Go.wp_at_zero Go.wp_at_succ

/-- Two blocks of a call's own: the box of an integer, and a result. -/
theorem neg_sign {x : Int} (h : x < 0) : x.sign = -1 := Int.sign_eq_neg_one_of_neg h
theorem nonneg_sign {x : Int} (h : 0 ≤ x) : decide (x.sign < 0) = false := by
  have : ¬ x.sign < 0 := by
    rcases Int.lt_trichotomy x 0 with h1 | h1 | h1
    · omega
    · subst h1; decide
    · rw [Int.sign_eq_one_of_pos h1]; decide
  exact decide_eq_false this

set_option maxHeartbeats 2000000 in
set_option maxRecDepth 100000 in
theorem sqrt_neg {x : Int} {b : Bool} {m : ByteArray} (hx : enc x = .agg #[.bool b, .string m]) (h : x < 0) (w : World) :
    Calls Try.prog 38 #[.agg #[.bool b, .string m]] w (RetB w (.tuple #[.agg #[.bool false, .string ⟨#[]⟩], .int .i64 2])) := by
  have hs := fun V => Sign_f hx V
  rw [neg_sign h] at hs
  have HS := Lib.hid hs
  have K0 := Lib.hid (K2.start w 23 (.bool b) (.string m) (.bool false) (.string ⟨#[]⟩))
  clear hs hx h
  go_enter Try.func38, Try.ntmps38
  go_wp2_with fail
  refine (HS.out _).mono ?_
  rintro e w1 ⟨rfl, hb1⟩
  have K1 := Lib.hid (K0.out.next hb1)
  obtain ⟨p0, p1, p2, p3⟩ := blk_cells K1.out.k1
  clear hb1
  go_wp2
  exact bodyPost_ret (v := .tuple #[.agg #[.bool false, .string ⟨#[]⟩], .int .i64 2]) (by simp [results, Try.results38, go_sem, p0, p1]) rfl ⟨rfl, by first | exact K1.out.bel | exact (K1.out.bel.setCell (by show w.heap.size ≤ w.heap.size + 1; omega) _).setCell (by show w.heap.size ≤ w.heap.size + 1; omega) _⟩

set_option maxHeartbeats 4000000 in
set_option maxRecDepth 100000 in
theorem sqrt_f {x : Int} {b br : Bool} {m mr : ByteArray} (hx : enc x = .agg #[.bool b, .string m]) (h : 0 ≤ x) (hm : m.size ≤ 40000000) (hr : enc ((rt x.natAbs : Nat) : Int) = .agg #[.bool br, .string mr]) (w : World) :
    Calls Try.prog 38 #[.agg #[.bool b, .string m]] w (RetB w (.tuple #[.agg #[.bool br, .string mr], .int .i64 0])) := by
  have hs := fun V => Sign_f hx V
  have hd := nonneg_sign h
  generalize x.sign = sx at *
  have HS := Lib.hid hs
  have hbv : bval m = x.natAbs := by rw [(enc_parts hx).2, bval_mag]
  have K0 := Lib.hid (K2.start w 23 (.bool b) (.string m) (.bool false) (.string ⟨#[]⟩))
  have HR := Lib.hid hr
  have HBV := Lib.hid hbv
  clear hs hx h hr hbv
  go_enter Try.func38, Try.ntmps38
  go_wp2_with fail
  refine (HS.out _).mono ?_
  rintro e w1 ⟨rfl, hb1⟩
  have K1 := Lib.hid (K0.out.next hb1)
  obtain ⟨c0, c1, p0, p1⟩ := K1.out.zx
  clear hb1
  go_wp2_with fail
  obtain ⟨W, hW⟩ : ∃ W, W = w1.alloc arr16 := ⟨_, rfl⟩
  have l1 : W.heap[w1.heap.size]? = some arr16 := by rw [hW]; exact heap_one _ _
  have hbW : Below w1.heap.size w1 W := by rw [hW]; exact (Below.refl _ _).alloc (Nat.le_refl _) _
  have hszW : W.heap.size = w1.heap.size + 1 := by rw [hW]; simp
  have hsz1 := K1.out.sz
  have c1' := (hbW.cell (p := ⟨w.heap.size, 1, none⟩) (by show w.heap.size < _; omega)).trans c1
  have HI := Lib.hid (show Is16 W w1.heap.size from ⟨_, l1, by simp⟩)
  have HU := Lib.hid (fun V (hV : Is16 V w1.heap.size) => unpack_any (.slice (some ⟨w1.heap.size, 0, none⟩) 0 16) m 0 V (by omega) (Nat.zero_le _) hV.own)
  have HP : ∀ (V : World) (A : Option Addr) (n c : Nat), n ≤ 1000000000 → Ng V A n c (rt (bval m)) → Calls Try.prog 54 #[.bool false, .slice A n c] V (RetB V (.agg #[.bool br, .string mr])) := fun V A n c h1 h2 => by
    have h3 := pack_any false A n c _ V h1 h2
    have e : sgn false (rt (bval m)) = ((rt x.natAbs : Nat) : Int) := by rw [HBV.out]; rfl
    unfold RetZ at h3
    rw [e, HR.out] at h3
    exact h3
  have HP := Lib.hid HP
  have HBW := Lib.hid hbW
  have hw9 : w1.alloc arr16 = W := hW.symm
  unfold arr16 at hw9
  rw [hw9]
  clear hw9 hW hbW c0 c1 p0 p1 l1
  go_region_with (first
    | (go_at_call 55; (with_reducible refine (HU.out _ ?_).mono ?_); (exact HI.out.keep rfl); rintro e w2 ⟨A1, n1, d1, hn1, rfl, hm1, hg1, hbk1⟩)
    | (go_at_call 63; (with_reducible refine (root_any _ A1 n1 d1 _ (by omega) hm1).mono ?_); rintro e w3 ⟨A2, n2, d2, hn2, rfl, hm2, hb2, hf2⟩)
    | (go_at_call 54; (with_reducible refine (HP.out _ _ _ _ (by omega) hm2.toNg).mono ?_); rintro e w4 ⟨rfl, hb4⟩; have K4 := Lib.hid (((K1.out.next (HBW.out.drew.trans (below_of_grown (B := w1.heap.size) (g := w1.heap.size) hg1 (by show _ ≤ W.heap.size; omega) (Nat.le_refl _)))).next hb2).next hb4); obtain ⟨p0, p1, p2, p3⟩ := blk_cells K4.out.k1))
  all_goals
    go_wp2
    exact bodyPost_ret (v := .tuple #[.agg #[.bool br, .string mr], .int .i64 0]) (by simp [results, Try.results38, go_sem, p0, p1]) rfl ⟨rfl, (K4.out.bel.setCell (by show w.heap.size ≤ w.heap.size + 1; omega) _).setCell (by show w.heap.size ≤ w.heap.size + 1; omega) _⟩

/-- The memory of the test: the box of the integer, the result, and the root. -/
structure IsS (w : World) (T : TypeId) (g : Nat) (b br : Bool) (m mr : ByteArray) (wc : World) : Prop where
  k : K2 w T (.bool b) (.string m) (.bool false) (.string ⟨#[]⟩) wc
  z : Zi wc g br mr
  lo : w.heap.size + 2 ≤ g
  big : g + 1 ≤ wc.heap.size
theorem IsS.next {w w1 w2 : World} {T : TypeId} {g : Nat} {b br : Bool} {m mr : ByteArray} (h : IsS w T g b br m mr w1) (hb : Below w1.heap.size w1 w2) : IsS w T g b br m mr w2 := by
  have := h.big
  exact ⟨h.k.next hb, h.z.below hb (by omega), h.lo, Nat.le_trans h.big hb.size⟩
theorem IsS.cells {w w1 : World} {T : TypeId} {g : Nat} {b br : Bool} {m mr : ByteArray} (h : IsS w T g b br m mr w1) : w1.cell? ⟨w.heap.size, 0, none⟩ = some (.bool b) ∧ w1.cell? ⟨w.heap.size, 1, none⟩ = some (.string m) ∧ w1.cell? ⟨g, 0, none⟩ = some (.bool br) ∧ w1.cell? ⟨g, 1, none⟩ = some (.string mr) :=
  ⟨h.k.zx.1, h.k.zx.2.1, h.z.c0, h.z.c1⟩
theorem IsS.mk2 {w w1 : World} {T : TypeId} {b br : Bool} {m mr : ByteArray} (h : K2 w T (.bool b) (.string m) (.bool false) (.string ⟨#[]⟩) w1) (U : TypeId) : IsS w T w1.heap.size b br m mr (w1.alloc (.cells #[.bool br, .string mr] U)) := by
  obtain ⟨a0, a1, _, _⟩ := blk_cells (heap_one w1 (.cells #[.bool br, .string mr] U))
  exact ⟨h.next ((Below.refl _ _).alloc (Nat.le_refl _) _), ⟨a0, a1⟩, h.sz, by simp⟩

/-- A call that hands back an integer and a word whether. -/
def RetIs (w : World) (b : Bool) (m : ByteArray) (v : Bool) (e : Ending) (w' : World) : Prop := RetB w (.tuple #[.agg #[.bool b, .string m], .bool v]) e w'

set_option maxHeartbeats 4000000 in
set_option maxRecDepth 100000 in
theorem isSquare_neg {x : Int} {b : Bool} {m : ByteArray} (hx : enc x = .agg #[.bool b, .string m]) (h : x < 0) (w : World) :
    Calls Try.prog 39 #[.agg #[.bool b, .string m]] w (RetIs w false ⟨#[]⟩ false) := by
  have hs := fun V => Sign_f hx V
  rw [neg_sign h] at hs
  have HS := Lib.hid hs
  have K0 := Lib.hid (K2.start w 23 (.bool b) (.string m) (.bool false) (.string ⟨#[]⟩))
  clear hs hx h
  go_enter Try.func39, Try.ntmps39
  go_wp2_with fail
  refine (HS.out _).mono ?_
  rintro e w1 ⟨rfl, hb1⟩
  have K1 := Lib.hid (K0.out.next hb1)
  obtain ⟨p0, p1, p2, p3⟩ := blk_cells K1.out.k1
  clear hb1
  go_wp2
  exact bodyPost_ret (v := .tuple #[.agg #[.bool false, .string ⟨#[]⟩], .bool false]) (by simp [results, Try.results39, go_sem, p0, p1]) rfl ⟨rfl, by first | exact K1.out.bel | exact (K1.out.bel.setCell (by show w.heap.size ≤ w.heap.size + 1; omega) _).setCell (by show w.heap.size ≤ w.heap.size + 1; omega) _⟩

set_option maxHeartbeats 4000000 in
set_option maxRecDepth 100000 in
theorem isSquare_f {x : Int} {b br bp : Bool} {m mr mp : ByteArray} (hx : enc x = .agg #[.bool b, .string m]) (h : 0 ≤ x) (hm : m.size ≤ 40000) (hr : enc ((rt x.natAbs : Nat) : Int) = .agg #[.bool br, .string mr])
    (hp : enc (((rt x.natAbs : Nat) : Int) * ((rt x.natAbs : Nat) : Int)) = .agg #[.bool bp, .string mp]) (hmr : mr.size ≤ 40000) (w : World) :
    Calls Try.prog 39 #[.agg #[.bool b, .string m]] w (fun e w' => if ((rt x.natAbs : Nat) : Int) * ((rt x.natAbs : Nat) : Int) = x then RetIs w br mr true e w' else RetIs w false ⟨#[]⟩ false e w') := by
  have hs := fun V => Sign_f hx V
  have hd := nonneg_sign h
  have HQ := Lib.hid (fun V => sqrt_f hx h (by omega) hr V)
  have HM := Lib.hid (fun V => mul_f hr hr (by omega) (by omega) hp rfl V)
  have hbv : bval m = x.natAbs := by rw [(enc_parts hx).2, bval_mag]
  obtain ⟨v, hv, hvc⟩ := mayBeSquare_any m (by omega)
  have HV := Lib.hid hvc
  have K0 := Lib.hid (K2.start w 23 (.bool b) (.string m) (.bool false) (.string ⟨#[]⟩))
  generalize x.sign = sx at *
  have HS := Lib.hid hs
  clear hvc hs
  cases v
  · have hns : ¬ ((rt x.natAbs : Nat) : Int) * ((rt x.natAbs : Nat) : Int) = x := fun e => by
      have h2 := hv (rt x.natAbs) (by rw [hbv]; omega)
      cases h2
    simp only [if_neg hns]
    clear hns hv hbv hx hr hp h
    go_enter Try.func39, Try.ntmps39
    go_wp2_with fail
    refine (HS.out _).mono ?_
    rintro e w1 ⟨rfl, hb1⟩
    have K1 := Lib.hid (K0.out.next hb1)
    obtain ⟨c0, c1, p0, p1⟩ := K1.out.zx
    clear hb1
    go_wp2_with fail
    refine (HV.out _).mono ?_
    rintro e w2 ⟨rfl, q, rfl⟩
    obtain ⟨p0, p1, p2, p3⟩ := blk_cells K1.out.k1
    go_wp2
    exact bodyPost_ret (v := .tuple #[.agg #[.bool false, .string ⟨#[]⟩], .bool false]) (by simp [results, Try.results39, go_sem, p0, p1]) rfl ⟨rfl, by first | exact below_draws K1.out.bel q | exact ((below_draws K1.out.bel q).setCell (by show w.heap.size ≤ w.heap.size + 1; omega) _).setCell (by show w.heap.size ≤ w.heap.size + 1; omega) _⟩
  · clear hv hbv
    by_cases he : ((rt x.natAbs : Nat) : Int) * ((rt x.natAbs : Nat) : Int) = x
    · have h5 : Value.agg #[.bool bp, .string mp] = .agg #[.bool b, .string m] := by rw [← hp, he, hx]
      obtain ⟨rfl, rfl⟩ : bp = b ∧ mp = m := by injection h5 with h6; simpa using h6
      simp only [if_pos he]
      clear he hx hp hr h5 h
      go_enter Try.func39, Try.ntmps39
      go_wp2_with fail
      refine (HS.out _).mono ?_
      rintro e w1 ⟨rfl, hb1⟩
      have K1 := Lib.hid (K0.out.next hb1)
      obtain ⟨c0, c1, p0, p1⟩ := K1.out.zx
      clear hb1
      go_wp2_with fail
      refine (HV.out _).mono ?_
      rintro e w2 ⟨rfl, q, rfl⟩
      go_wp2_with fail
      refine (HQ.out _).mono ?_
      rintro e w3 ⟨rfl, hb3⟩
      have K3 := Lib.hid ((K1.out.next (below_draws (Below.refl _ w1) q)).next hb3)
      have BB := Lib.hid (IsS.mk2 (br := br) (mr := mr) K3.out 23)
      have BB := Lib.hid (BB.out.next (Below.refl _ _).drew)
      obtain ⟨t0, t1, t2, t3⟩ := BB.out.cells
      simp only [World.cell?_drew] at t0 t1 t2 t3
      clear hb3 c0 c1 p0 p1
      go_wp2_with fail
      go_region_held3 (fun w' => w'.cell? ⟨w.heap.size, 0, none⟩ = some (.bool bp) ∧ w'.cell? ⟨w.heap.size, 1, none⟩ = some (.string mp) ∧ w'.cell? ⟨w3.heap.size, 0, none⟩ = some (.bool br) ∧ w'.cell? ⟨w3.heap.size, 1, none⟩ = some (.string mr))
        (first
          | go_keep
          | exact BB.out.cells)
        (first
          | (go_at_call 34; (with_reducible refine (HM.out _).mono ?_); rintro e wn ⟨rfl, hbn⟩; have BB := Lib.hid (BB.out.next hbn)))
      obtain ⟨t0, t1, t2, t3⟩ := BB.out.cells
      obtain ⟨p0, p1, p2, p3⟩ := blk_cells BB.out.k.k1
      go_wp2
      exact bodyPost_ret (v := .tuple #[.agg #[.bool br, .string mr], .bool true]) (by simp [results, Try.results39, go_sem, p0, p1]) rfl ⟨rfl, (BB.out.k.bel.setCell (by show w.heap.size ≤ w.heap.size + 1; omega) _).setCell (by show w.heap.size ≤ w.heap.size + 1; omega) _⟩
    · have hne : ¬ (bp = b ∧ mp = m) := fun ⟨h1, h2⟩ => he (by rw [← enc_sgn hp, ← enc_sgn hx, h1, h2])
      have e1 : b = false := by rw [(enc_parts hx).1]; exact decide_eq_false (by omega)
      have e2 : bp = false := by rw [(enc_parts hp).1]; exact decide_eq_false (by have := Int.natCast_nonneg (rt x.natAbs * rt x.natAbs); rw [Int.natCast_mul] at this; omega)
      simp only [if_neg he]
      clear he hx hp hr
      subst e1
      subst e2
      have hne2 : ¬ mp = m := fun e => hne ⟨rfl, e⟩
      clear hne
      clear h
      go_enter Try.func39, Try.ntmps39
      go_wp2_with fail
      refine (HS.out _).mono ?_
      rintro e w1 ⟨rfl, hb1⟩
      have K1 := Lib.hid (K0.out.next hb1)
      obtain ⟨c0, c1, p0, p1⟩ := K1.out.zx
      clear hb1
      go_wp2_with fail
      refine (HV.out _).mono ?_
      rintro e w2 ⟨rfl, q, rfl⟩
      go_wp2_with fail
      refine (HQ.out _).mono ?_
      rintro e w3 ⟨rfl, hb3⟩
      have K3 := Lib.hid ((K1.out.next (below_draws (Below.refl _ w1) q)).next hb3)
      have BB := Lib.hid (IsS.mk2 (br := br) (mr := mr) K3.out 23)
      have BB := Lib.hid (BB.out.next (Below.refl _ _).drew)
      obtain ⟨t0, t1, t2, t3⟩ := BB.out.cells
      simp only [World.cell?_drew] at t0 t1 t2 t3
      clear hb3 c0 c1 p0 p1
      have hnt : ¬ mp.data.toList = m.data.toList := fun e => hne2 (by cases mp; cases m; simp at e; rw [e])
      have hnl : (mp.data.toList == m.data.toList) = false := by simpa using hnt
      have hnk : (mp.toList == m.toList) = false := by rw [ByteArray.toList_eq, ByteArray.toList_eq]; exact hnl
      clear hnt hne2
      go_wp2_with fail
      go_region_held3 (fun w' => w'.cell? ⟨w.heap.size, 0, none⟩ = some (.bool false) ∧ w'.cell? ⟨w.heap.size, 1, none⟩ = some (.string m) ∧ w'.cell? ⟨w3.heap.size, 0, none⟩ = some (.bool br) ∧ w'.cell? ⟨w3.heap.size, 1, none⟩ = some (.string mr))
        (first
          | go_keep
          | exact BB.out.cells)
        (first
          | (go_at_call 34; (with_reducible refine (HM.out _).mono ?_); rintro e wn ⟨rfl, hbn⟩; have BB := Lib.hid (BB.out.next hbn)))
      obtain ⟨p0, p1, p2, p3⟩ := blk_cells BB.out.k.k1
      go_wp2
      exact bodyPost_ret (v := .tuple #[.agg #[.bool false, .string ⟨#[]⟩], .bool false]) (by simp [results, Try.results39, go_sem, p0, p1]) rfl ⟨rfl, by first | exact BB.out.k.bel | exact (BB.out.k.bel.setCell (by show w.heap.size ≤ w.heap.size + 1; omega) _).setCell (by show w.heap.size ≤ w.heap.size + 1; omega) _⟩
end Go.Proofs.Ytoolljoejioigaa
