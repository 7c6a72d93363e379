import Derived.Test.YtkaefmfophopoaaDoorGStH
import Derived.Test.YtkaefmfophopoaaDoorGLawE

/-
  The walk of the statement about printing.
-/
namespace Go.Proofs.YtkaefmfophopoaaDoor
open Go.RowKit
attribute [local go_sem ↓] Go.wp_at_zero Go.wp_at_succ

/-- Two integers of the function's own. -/
structure A2 (w : World) (bx : Nat) (a0 a1 x0 x1 : Value) (wr : World) : Prop where
  ka : wr.heap[w.heap.size]? = some (.cells #[a0, a1] 23 (0, 0))
  kx : wr.heap[bx]? = some (.cells #[x0, x1] 23 (0, 0))
  lt : w.heap.size < bx
  sz : bx < wr.heap.size
  bel : Below w.heap.size w wr

theorem A2.next {w wr w2 : World} {bx : Nat} {a0 a1 x0 x1 : Value} (h : A2 w bx a0 a1 x0 x1 wr) (hb : Below wr.heap.size wr w2) : A2 w bx a0 a1 x0 x1 w2 := by
  have h1 := h.lt; have h2 := h.sz; have h3 := hb.size
  exact ⟨(hb.block _ (by omega)).trans h.ka, (hb.block _ (by omega)).trans h.kx, h1, by omega, h.bel.trans (hb.mono (by omega))⟩

set_option maxHeartbeats 8000000 in
set_option maxRecDepth 100000 in
theorem prints_walk (na : Bool) (a : ByteArray) (w : World) (hT : Ten w) : Calls Tryd.prog 4 #[.agg #[.bool na, .string a]] w (RetB w (.bool true)) := by
  have HU1 : Hid (∀ V, Calls Tryd.prog 6 #[.agg #[.bool na, .string a], .int .i64 24] V (RetI V 24)) := fun V => canonical_any na a 24 (by omega) V
  have HT := Lib.hid (fun (V : World) (hV : Below w.heap.size w V) => hT.below hV (Nat.le_refl _))
  clear hT
  go_enter Tryd.func4, Tryd.ntmps4
  go_wp2_with fail
  refine (HU1.out _).mono ?_
  rintro e w1 ⟨x, hx, rfl, hb1⟩
  obtain ⟨b, m, hbm⟩ := enc_form x
  rw [hbm]
  obtain ⟨hb, hm⟩ := enc_parts hbm
  have hsz := enc_size hbm hx
  obtain ⟨X, hX⟩ : ∃ X, x.natAbs = X := ⟨_, rfl⟩
  rw [hX] at hm hx
  have hsg : sgn b X = x := by rw [hb, ← hX]; unfold sgn; split <;> simp_all <;> omega
  obtain ⟨S, hS⟩ : ∃ S : ByteArray, ⟨(printed b X).toArray⟩ = S := ⟨_, rfl⟩
  have hpr : ∀ V, Ten V → Calls Tryd.prog 12 #[.agg #[.bool b, .string m]] V (RetB V (.string S)) := fun V hV => by
    have h := print_any b m V (by omega) hV
    rw [hm, bval_mag, hS] at h
    rw [hm]
    exact h
  have hrp : ∀ V, Calls Tryd.prog 14 #[.agg #[.bool b, .string m]] V (RetB V (.string S)) := fun V => by
    have h := refPrint_any b X m hm (by omega) V
    rw [hS] at h
    exact h
  have hpa : ∀ V, Calls Tryd.prog 13 #[.string S] V (RetB V (.tuple #[.agg #[.bool b, .string m], .int .i64 0])) := fun V => by
    have h := parse_printed b X hx (fun h => by rw [hb]; simp; omega) V
    rw [hS, hsg] at h
    refine h.mono ?_
    rintro e w' ⟨b', m', he, rfl, hb'⟩
    have he' := he.out
    rw [hbm] at he'
    rw [← he']
    exact ⟨rfl, hb'⟩
  have HPR := Lib.hid hpr
  have HRP := Lib.hid hrp
  have HPA := Lib.hid hpa
  have hk1 : w1.heap[w.heap.size]? = some (.cells #[.bool na, .string a] 23 (0, 0)) := (hb1.block _ (by simp)).trans (heap_alloc_new _ _)
  have hk2 := two_set hk1 (.bool b) (.string m)
  obtain ⟨k0, k1, k2, k3⟩ := blk_cells hk1
  obtain ⟨l0, l1, _, _⟩ := blk_cells hk2
  have hbel : Below w.heap.size w w1 := ((Below.refl _ _).alloc (Nat.le_refl _) _).trans (hb1.mono (by simp))
  have hbel2 := (hbel.setCell (p := ⟨w.heap.size, 0, none⟩) (Nat.le_refl _) (.bool b)).setCell (p := ⟨w.heap.size, 1, none⟩) (Nat.le_refl _) (.string m)
  obtain ⟨W, hW⟩ : ∃ W, W = (w1.setCell ⟨w.heap.size, 0, none⟩ (.bool b)).setCell ⟨w.heap.size, 1, none⟩ (.string m) := ⟨_, rfl⟩
  have HW := Lib.hid hW
  have HBW := Lib.hid (show Below w.heap.size w W ∧ W.heap[w.heap.size]? = some (.cells #[.bool b, .string m] 23 (0, 0)) from by rw [hW]; exact ⟨hbel2, hk2⟩)
  clear hbm hb hm hx hX hsg hS hpr hrp hpa hk1 hk2 hbel hbel2 hb1 hW
  go_wp2_with fail
  rw [← HW.out]
  refine (HPR.out _ (HT.out _ HBW.out.1)).mono ?_
  rintro e w2 ⟨rfl, hb2⟩
  have hsW : w.heap.size < W.heap.size := (Array.getElem?_eq_some_iff.1 HBW.out.2).1
  have hs2 := hb2.size
  have HB2 := Lib.hid hb2
  clear hb2 k0 k1 k2 k3 l0 l1
  go_wp2_with fail
  refine (HPA.out _).mono ?_
  rintro e w3 ⟨rfl, hb3⟩
  have hs3 := hb3.size
  have AA := Lib.hid (show A2 w w3.heap.size (.bool b) (.string m) (.bool b) (.string m) (w3.alloc (.cells #[.bool b, .string m] 23)) from
    ⟨(Below.heap_alloc _ _ _ (by omega)).trans ((hb3.block _ (by omega)).trans ((HB2.out.block _ hsW).trans HBW.out.2)), heap_alloc_new _ _, by omega, by simp,
      ((HBW.out.1.trans (HB2.out.mono (by omega))).trans (hb3.mono (by omega))).alloc (by omega) _⟩)
  clear hb3
  go_wp2_with fail
  refine (known_any _).mono ?_
  rintro e w4 ⟨rfl, hb4⟩
  have AA := Lib.hid (AA.out.next hb4)
  obtain ⟨c0, c1, _, _⟩ := blk_cells AA.out.ka
  obtain ⟨d0, d1, _, _⟩ := blk_cells AA.out.kx
  clear hb4
  go_wp2_with fail
  refine (HRP.out _).mono ?_
  rintro e w5 ⟨rfl, hb5⟩
  have AA := Lib.hid (AA.out.next hb5)
  clear hb5 c0 c1 d0 d1
  obtain ⟨c0, c1, _, _⟩ := blk_cells AA.out.ka
  obtain ⟨d0, d1, _, _⟩ := blk_cells AA.out.kx
  go_wp2
  go_ret
  exact ⟨rfl, AA.out.bel⟩
end Go.Proofs.YtkaefmfophopoaaDoor
