/-
  The chapter's examples (known), which every law of this layer asks.
-/
import Derived.Test.YtdjgpbanokdnhaaPtMi
import Derived.Test.YtdjgpbanokdnhaaPtT
namespace Go.Proofs.Ytdjgpbanokdnhaa.Pt
open Go.RowKit
attribute [local go_sem ↓] Go.wp_at_zero Go.wp_at_succ

abbrev k0 : Rep := (1, 5, 0, 0, 0, 10, 0, false)
abbrev k1 : Rep := (1, 5, 1, 0, 0, 11, 0, false)
abbrev k2 : Rep := (1, 6, 0, 0, 0, 12, 0, true)
def L3 : List Rep := [k0, k1, k2]
theorem L3_cnt : cntL L3 = [k1] := by
  refine (cntL_of (by simp [Inc]) fun r => ?_).symm
  constructor
  · intro h
    simp at h
    subst h
    decide
  · rintro ⟨h1, h2, h3⟩
    simp only [L3, List.mem_cons, List.not_mem_nil, or_false] at h1
    rcases h1 with rfl | rfl | rfl
    · exact absurd h2 (by decide)
    · simp
    · exact absurd h3 (by decide)
theorem L3_s0 : statR L3 k0 = 2 := by decide
theorem L3_s2 : statR L3 k2 = 3 := by decide
theorem L3_m : missR L3 1 3 = [0, 1, 2] := by decide
theorem L3_at {V : World} {g : Nat} (h : LsAt V g 0 L3) :
    (V.cell? ⟨g, 0, none⟩ = some (.int .i64 1) ∧ V.cell? ⟨g, 1, none⟩ = some (.int .i64 5) ∧ V.cell? ⟨g, 2, none⟩ = some (.int .i64 0) ∧ V.cell? ⟨g, 3, none⟩ = some (.int .i64 0) ∧ V.cell? ⟨g, 4, none⟩ = some (.int .i64 0) ∧ V.cell? ⟨g, 5, none⟩ = some (.int .i64 10) ∧ V.cell? ⟨g, 6, none⟩ = some (.int .i64 0) ∧ V.cell? ⟨g, 7, none⟩ = some (.bool false)) ∧
    (V.cell? ⟨g, 8, none⟩ = some (.int .i64 1) ∧ V.cell? ⟨g, 9, none⟩ = some (.int .i64 5) ∧ V.cell? ⟨g, 10, none⟩ = some (.int .i64 1) ∧ V.cell? ⟨g, 11, none⟩ = some (.int .i64 0) ∧ V.cell? ⟨g, 12, none⟩ = some (.int .i64 0) ∧ V.cell? ⟨g, 13, none⟩ = some (.int .i64 11) ∧ V.cell? ⟨g, 14, none⟩ = some (.int .i64 0) ∧ V.cell? ⟨g, 15, none⟩ = some (.bool false)) ∧
    (V.cell? ⟨g, 16, none⟩ = some (.int .i64 1) ∧ V.cell? ⟨g, 17, none⟩ = some (.int .i64 6) ∧ V.cell? ⟨g, 18, none⟩ = some (.int .i64 0) ∧ V.cell? ⟨g, 19, none⟩ = some (.int .i64 0) ∧ V.cell? ⟨g, 20, none⟩ = some (.int .i64 0) ∧ V.cell? ⟨g, 21, none⟩ = some (.int .i64 12) ∧ V.cell? ⟨g, 22, none⟩ = some (.int .i64 0) ∧ V.cell? ⟨g, 23, none⟩ = some (.bool true)) :=
  ⟨h.c8at (i := 0) (by decide) (A := 0) rfl, h.c8at (i := 1) (by decide) (A := 8) rfl, h.c8at (i := 2) (by decide) (A := 16) rfl⟩
theorem K1_at {V : World} {g : Nat} (h : LsAt V g 0 [k1]) :
    (V.cell? ⟨g, 0, none⟩ = some (.int .i64 1) ∧ V.cell? ⟨g, 1, none⟩ = some (.int .i64 5) ∧ V.cell? ⟨g, 2, none⟩ = some (.int .i64 1) ∧ V.cell? ⟨g, 3, none⟩ = some (.int .i64 0) ∧ V.cell? ⟨g, 4, none⟩ = some (.int .i64 0) ∧ V.cell? ⟨g, 5, none⟩ = some (.int .i64 11) ∧ V.cell? ⟨g, 6, none⟩ = some (.int .i64 0) ∧ V.cell? ⟨g, 7, none⟩ = some (.bool false)) := h.c8at (i := 0) (by decide) (A := 0) rfl

theorem isl_flat (l : List Rep) (W : World) (T : TypeId) (hm : l.length ≤ maxLen) : IsL (W.alloc (.cells (flat l).toArray T)) (.slice (some ⟨W.heap.size, 0, none⟩) l.length l.length) l := by
  refine ⟨_, l.length, rfl, Nat.le_refl _, hm, .inr ⟨W.heap.size, 0, rfl, by simp, fun i hi c hc => ?_⟩, fun h => by cases h⟩
  rw [blkAt (heap_new W _), Nat.zero_add, List.getElem?_toArray]
  exact flat_at l i c hi hc
theorem isl_of {V : World} {g n : Nat} {l : List Rep} (h : LsAt V g 0 l) (hg : g < V.heap.size) (hn : l.length = n) (hm : n ≤ maxLen) : IsL V (.slice (some ⟨g, 0, none⟩) n n) l := by
  subst hn
  exact ⟨_, _, rfl, Nat.le_refl _, hm, .inr ⟨g, 0, rfl, hg, h⟩, fun h => by cases h⟩
theorem at_of {V : World} {g n c : Nat} {l : List Rep} (h : IsL V (.slice (some ⟨g, 0, none⟩) n c) l) (h0 : 0 < l.length) : LsAt V g 0 l ∧ g < V.heap.size := by
  obtain ⟨p, cap, e, _, _, hl, _⟩ := h
  injection e with e1 e2 e3
  subst e1
  obtain ⟨g', o', e, hg, hat⟩ := isl_open hl h0
  injection e with e
  injection e with e1 e2
  subst e1 e2
  exact ⟨hat, hg⟩
theorem isi_new (W : World) (T : TypeId) {A : Nat} (hA : W.heap.size = A) : IsI (W.alloc (.cells #[.int .i64 0, .int .i64 1, .int .i64 2] T)) (.slice (some ⟨A, 0, none⟩) 3 3) [0, 1, 2] := by
  subst hA
  refine ⟨_, 3, rfl, Nat.le_refl _, by unfold maxLen; omega, .inr ⟨W.heap.size, 0, rfl, by simp, fun i hi => ?_⟩, fun h => by cases h⟩
  rw [blkAt (heap_new W _)]
  match i, hi with
  | 0, _ => rfl
  | 1, _ => rfl
  | 2, _ => rfl
/-- What stays known while the examples are asked. -/
structure Kn (w V : World) (g h : Nat) : Prop where
  b : Bel w V
  a : LsAt V g 0 L3
  c : LsAt V h 0 [k1]
  g : g < V.heap.size
  h : h < V.heap.size
theorem Kn.next {w V V' : World} {g h : Nat} (k : Kn w V g h) (hb : Bel V V') : Kn w V' g h := ⟨k.b.trans hb, k.a.bel k.g hb, k.c.bel k.h hb, Nat.lt_of_lt_of_le k.g hb.size, Nat.lt_of_lt_of_le k.h hb.size⟩

set_option maxHeartbeats 8000000 in
set_option maxRecDepth 100000 in
theorem known_f (w : World) : Calls Try.prog 14 #[] w (RetB w (.bool true)) := by
  have h3 : IsL (w.alloc (.cells #[.int .i64 1, .int .i64 5, .int .i64 0, .int .i64 0, .int .i64 0, .int .i64 10, .int .i64 0, .bool false, .int .i64 1, .int .i64 5, .int .i64 1, .int .i64 0, .int .i64 0, .int .i64 11, .int .i64 0, .bool false, .int .i64 1, .int .i64 6, .int .i64 0, .int .i64 0, .int .i64 0, .int .i64 12, .int .i64 0, .bool true] 23)) (.slice (some ⟨w.heap.size, 0, none⟩) 3 3) L3 := isl_flat L3 w 23 (by decide)
  have HC := Lib.hid (counting_f L3 _ _ h3 (by decide))
  rw [L3_cnt] at HC
  have H3 := Lib.hid h3
  have S0 : Hid (∀ V h, Kn w V w.heap.size h → Calls Try.prog 29 #[.slice (some ⟨w.heap.size, 0, none⟩) 3 3, .agg #[.int .i64 1, .int .i64 5, .int .i64 0, .int .i64 0, .int .i64 0, .int .i64 10, .int .i64 0, .bool false]] V (RetB V (.int .i64 2))) := Lib.hid fun V h k => by
    have := status_f L3 k0 _ V (isl_of k.a k.g (n := 3) rfl (by decide))
    rw [L3_s0] at this
    exact this
  have S2 : Hid (∀ V h, Kn w V w.heap.size h → Calls Try.prog 29 #[.slice (some ⟨w.heap.size, 0, none⟩) 3 3, .agg #[.int .i64 1, .int .i64 6, .int .i64 0, .int .i64 0, .int .i64 0, .int .i64 12, .int .i64 0, .bool true]] V (RetB V (.int .i64 3))) := Lib.hid fun V h k => by
    have := status_f L3 k2 _ V (isl_of k.a k.g (n := 3) rfl (by decide))
    rw [L3_s2] at this
    exact this
  have HM : Hid (∀ V h, Kn w V w.heap.size h → Calls Try.prog 34 #[.slice (some ⟨w.heap.size, 0, none⟩) 3 3, .int .i64 1, .int .i64 3] V (RetP V fun x W => OwnI V W x [0, 1, 2])) := Lib.hid fun V h k => by
    have := missing_f L3 1 3 _ V (isl_of k.a k.g (n := 3) rfl (by decide)) (by decide) (by decide) (by decide)
    rw [L3_m] at this
    exact this
  have E : ∀ w, Sem.run Try.prog (binOp .eql 23 (.agg #[.int .i64 1, .int .i64 5, .int .i64 1, .int .i64 0, .int .i64 0, .int .i64 11, .int .i64 0, .bool false]) (.agg #[.int .i64 1, .int .i64 5, .int .i64 1, .int .i64 0, .int .i64 0, .int .i64 11, .int .i64 0, .bool false])) w = .ok (.bool true) w := eq_rep_yes (x := k1) (y := k1) rfl
  clear h3
  go_enter Try.func14, Try.ntmps14
  go_wp2_with (go_at_call 27; refine HC.out.mono ?_; rintro e w1 ⟨x, rfl, hown, hbel⟩; obtain ⟨p, c, rfl⟩ := hown.isl.shape; obtain ⟨g, rfl, hr, _⟩ := hown.row (by decide); have KK : Hid (Kn w w1 w.heap.size g) := Lib.hid ⟨(Bel.new w _).trans hbel, (at_of H3.out (by decide)).1.bel (at_of H3.out (by decide)).2 hbel, hr.at', Nat.lt_of_lt_of_le (at_of H3.out (by decide)).2 hbel.size, hr.lt⟩; clear hown hbel hr)
  have KD := Lib.hid (KK.out.next (Bel.refl w1).drew)
  replace KK := KD
  clear KD HC H3
  obtain ⟨⟨a0, a1, a2, a3, a4, a5, a6, a7⟩, ⟨a8, a9, a10, a11, a12, a13, a14, a15⟩, ⟨a16, a17, a18, a19, a20, a21, a22, a23⟩⟩ := L3_at KK.out.a; obtain ⟨d0, d1, d2, d3, d4, d5, d6, d7⟩ := K1_at KK.out.c
  go_region_with (first
    | (go_at_call 29; first | ((with_reducible refine (S0.out _ _ KK.out).mono ?_); rintro e V2 ⟨rfl, hb2⟩; replace KK := Lib.hid (KK.out.next hb2); obtain ⟨⟨a0, a1, a2, a3, a4, a5, a6, a7⟩, ⟨a8, a9, a10, a11, a12, a13, a14, a15⟩, ⟨a16, a17, a18, a19, a20, a21, a22, a23⟩⟩ := L3_at KK.out.a; obtain ⟨d0, d1, d2, d3, d4, d5, d6, d7⟩ := K1_at KK.out.c; clear hb2) | ((with_reducible refine (S2.out _ _ KK.out).mono ?_); rintro e V2 ⟨rfl, hb2⟩; replace KK := Lib.hid (KK.out.next hb2); obtain ⟨⟨a0, a1, a2, a3, a4, a5, a6, a7⟩, ⟨a8, a9, a10, a11, a12, a13, a14, a15⟩, ⟨a16, a17, a18, a19, a20, a21, a22, a23⟩⟩ := L3_at KK.out.a; obtain ⟨d0, d1, d2, d3, d4, d5, d6, d7⟩ := K1_at KK.out.c; clear hb2))
    | (go_at_call 34; first | ((with_reducible refine (HM.out _ _ KK.out).mono ?_); rintro e V2 ⟨x, rfl, ho, hb2⟩; obtain ⟨q1, q2, rfl⟩ := ho.isi.shape; have MI := Lib.hid ho.isi; replace KK := Lib.hid (KK.out.next hb2); clear hb2 ho) | ((with_reducible refine (HM.out _ _ (KK.out.next (Bel.new _ _))).mono ?_); rintro e V2 ⟨x, rfl, ho, hb2⟩; obtain ⟨q1, q2, rfl⟩ := ho.isi.shape; have MI := Lib.hid ho.isi; have MJ := Lib.hid ((isi_new _ _ rfl).bel hb2); replace KK := Lib.hid ((KK.out.next (Bel.new _ _)).next hb2); clear hb2 ho))
    | (go_at_call 30; first | (refine (sameInts_f [0, 1, 2] [0, 1, 2] _ _ _ MI.out MJ.out).mono ?_; rintro e V2 ⟨rfl, hb2⟩; replace KK := Lib.hid (KK.out.next hb2); clear hb2) | (refine (sameInts_f [0, 1, 2] [0, 1, 2] _ _ _ (MI.out.bel (Bel.new _ _)) (isi_new _ _ rfl)).mono ?_; rintro e V2 ⟨rfl, hb2⟩; replace KK := Lib.hid ((KK.out.next (Bel.new _ _)).next hb2); clear hb2)))
  all_goals
    go_wp2
    go_ret
    exact ⟨rfl, KK.out.b⟩
end Go.Proofs.Ytdjgpbanokdnhaa.Pt
