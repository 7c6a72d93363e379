/-
  Rows of reports that a call makes; the reference's join.
-/
import Derived.Test.YtdjgpbanokdnhaaPtH
import Derived.Test.YtdjgpbanokdnhaaPtD
import Derived.Laws.AppendOwnNone
namespace Go.Proofs.Ytdjgpbanokdnhaa.Pt
open Go.RowKit

/-- The cells of a list of reports, one after the other. -/
def flat (l : List Rep) : List Value := l.flatMap encR
theorem flat_len (l : List Rep) : (flat l).length = l.length * 8 := by
  induction l with
  | nil => rfl
  | cons a l ih => simp only [flat, List.flatMap_cons, List.length_append, List.length_cons] at ih ⊢; rw [ih, encR_len]; omega
theorem flat_app (a b : List Rep) : flat (a ++ b) = flat a ++ flat b := by simp [flat]
theorem flat_at : ∀ (l : List Rep) (i c : Nat), i < l.length → c < 8 → (flat l)[i * 8 + c]? = some (encR l[i]!)[c]!
  | [], i, c, h, _ => by simp at h
  | a :: l, 0, c, _, hc => by
    have h1 : c < (encR a).length := hc
    simp only [flat, List.flatMap_cons, Nat.zero_mul, Nat.zero_add, List.getElem!_cons_zero]
    rw [List.getElem?_append_left h1, getElem!_pos (encR a) c h1]
    exact List.getElem?_eq_getElem h1
  | a :: l, i + 1, c, h, hc => by
    simp only [flat, List.flatMap_cons]
    rw [List.getElem?_append_right (by rw [encR_len]; omega), encR_len, show (i + 1) * 8 + c - 8 = i * 8 + c by omega]
    simpa [flat] using flat_at l i c (by simpa using h) hc
theorem flat_one (l : List Rep) (v : Value) (h : v ∈ flat l) : v.oneCell' = true := by
  obtain ⟨r, _, hr⟩ := List.mem_flatMap.1 h
  exact encR_one r v hr

/-- A slice of the call's own (made behind w0) that holds these reports. -/
def Own (w0 w : World) (v : Value) (l : List Rep) : Prop := w.ownsRow w0.heap.size 23 8 v l.length (flat l)
theorem Own.nil (w0 w : World) : Own w0 w (.slice none 0 0) [] := World.ownsRow_nil w _ _ _
theorem Own.lo {w0 w : World} {v : Value} {l : List Rep} (h : Own w0 w v l) (k : Nat) (hk : v.ownBlock = some k) : w0.heap.size ≤ k := (h.lt k hk).1
theorem own_base {w0 w1 w : World} {v : Value} {l : List Rep} (h : Own w1 w v l) (hb : w0.heap.size ≤ w1.heap.size) : Own w0 w v l := by
  obtain ⟨h1, h2⟩ := h
  refine ⟨h1, h2.imp id ?_⟩
  rintro ⟨g, cap, cur, e, hl, hr⟩
  exact ⟨g, cap, cur, e, Nat.le_trans hb hl, hr⟩
theorem take_at {cur : Array Value} {n : Nat} {xs : List Value} (h : cur.toList.take n = xs) {j : Nat} (hj : j < n) : cur[j]? = xs[j]? := by
  rw [← h, List.getElem?_take_of_lt hj]
  simp
theorem Own.isl {w0 w : World} {v : Value} {l : List Rep} (h : Own w0 w v l) : IsL w v l := by
  obtain ⟨h1, h2⟩ := h
  rcases h2 with ⟨rfl, h0⟩ | ⟨g, cap, cur, rfl, hb, hg, hc, hm, hs, ht⟩
  · have : l = [] := List.eq_nil_of_length_eq_zero h0
    subst this
    exact ⟨none, 0, rfl, by simp, by simp, .inl rfl, fun _ => rfl⟩
  · refine ⟨_, cap, rfl, hc, hm, .inr ⟨g, 0, rfl, (Array.getElem?_eq_some_iff.1 hg).1, fun i hi c hc => ?_⟩, fun h => by cases h⟩
    rw [blkAt hg, Nat.zero_add, take_at ht (by omega)]
    exact flat_at l i c hi hc
theorem Own.bel {w0 w w' : World} {v : Value} {l : List Rep} (h : Own w0 w v l) (hb : Bel w w') : Own w0 w' v l := by
  obtain ⟨h1, h2⟩ := h
  refine ⟨h1, h2.imp id ?_⟩
  rintro ⟨g, cap, cur, e, hb', hg, hr⟩
  exact ⟨g, cap, cur, e, hb', (hb.b.block g (Array.getElem?_eq_some_iff.1 hg).1).trans hg, hr⟩
theorem src_at {w : World} {g o : Nat} {l : List Rep} (h : LsAt w g o l) (j : Nat) (u : Value) (hu : (flat l)[j]? = some u) : w.cell? ((⟨g, o, none⟩ : Addr).add j) = some u := by
  have hj : j < (flat l).length := (List.getElem?_eq_some_iff.1 hu).1
  rw [flat_len] at hj
  have hi : j / 8 < l.length := by omega
  have h1 := h (j / 8) hi (j % 8) (by omega)
  have h2 := flat_at l (j / 8) (j % 8) hi (by omega)
  rw [show j / 8 * 8 + j % 8 = j by omega, hu] at h2
  injection h2 with h2
  rw [h2, ← h1, Addr.add_lit, show o + j = o + j / 8 * 8 + j % 8 by omega]

theorem info_rep0 : (Try.prog.info? 23).map (fun i => (i.zero, i.size, i.bytes)) = some (some (.agg #[.int .i64 0, .int .i64 0, .int .i64 0, .int .i64 0, .int .i64 0, .int .i64 0, .int .i64 0, .bool false]), 8, 64) := by kernel_rfl

set_option maxRecDepth 100000 in
/-- append(v, u...) on a row of the call's own. -/
theorem wpList_reps {w0 w : World} {ops : Array Oper} {rest : List Oper} {o : Oper} {a : Act} {Q : Exit → Act → World → Prop} (hgd : o.guard = none) (s x : Operand)
    (ho : o.op = .call { callee := .builtin .append, args := #[s, x], argTypes := #[34, 34] })
    {v u : Value} {l m : List Rep} (hs : a.eval s = v) (hx : a.eval x = u) (hown : Own w0 w v l) (hsrc : IsL w u m) (hb : l.length + m.length ≤ 2000000000000) (h0 : w0.heap.size ≤ w.heap.size)
    (h : ∀ v' w', Own w0 w' v' (l ++ m) → Grown w w' v v' → wpList Try.prog ops Q rest (a.put o.dst v') w') : wpList Try.prog ops Q (o :: rest) a w := by
  obtain ⟨i, hi, hz, h8, h64⟩ := info_parts info_rep0
  obtain ⟨p, cap, rfl, hc, hm, hl, hn⟩ := hsrc
  cases p with
  | none =>
    obtain rfl := hn rfl
    have hm0 : m = [] := by
      rcases hl with h | ⟨_, _, h, _⟩
      · exact h
      · cases h
    subst hm0
    refine wpList_append_own_none hgd s x _ ho w0.heap.size _ i 8 Try.underlying34 hi v l.length (flat l) hs hown (by rw [hx]; rfl) (h v w (by simpa using hown) ⟨⟨rfl, rfl, rfl, Nat.le_refl _, fun _ _ _ => rfl⟩, Nat.le_refl _, .inl rfl⟩)
  | some ad =>
    have hnews : ∀ j y, (flat m)[j]? = some y → w.cell? (ad.add j) = some y := by
      intro j y hy
      rcases hl with h | ⟨g, o, h, _, hat⟩
      · subst h; simp [flat] at hy
      · injection h with h; subst h; exact src_at hat j y hy
    refine wpList_app hgd s x _ ho w0.heap.size _ i _ 8 64 Try.underlying34 hi hz h8 h64 rfl (by decide) v l.length (flat l) hs hown ad m.length cap (flat m) hx (flat_len m) hnews (flat_one m) (by unfold maxLen; omega) (by omega) h0 fun v' w' h1 h2 => h v' w' ?_ h2
    unfold Own
    rw [flat_app, List.length_append]
    exact h1

theorem own_made (w0 w : World) (h : Bel w0 w) : Own w0 (w.alloc (.cells #[] 23)) (.slice (some ⟨w.heap.size, 0, none⟩) 0 0) [] := World.ownsRow_made w #[] 0 h.size (by simp) rfl
theorem bound2 {a b : List Rep} {n : Nat} (h : a.length + b.length ≤ n) : ([] ++ a : List Rep).length + b.length ≤ n := by simpa using h

theorem IsL.shape {w : World} {v : Value} {l : List Rep} (h : IsL w v l) : ∃ p c, v = .slice p l.length c := by
  obtain ⟨p, c, e, _⟩ := h
  exact ⟨p, c, e⟩

set_option maxRecDepth 100000 in
theorem join_f (a b : List Rep) (v u : Value) (w : World) (hv : IsL w v a) (hu : IsL w u b) (hb : a.length + b.length ≤ 1000000) :
    Calls Try.prog 23 #[v, u] w (RetP w fun x W => Own w W x (a ++ b)) := by
  obtain ⟨p, c, rfl⟩ := hv.shape
  obtain ⟨q, d, rfl⟩ := hu.shape
  have HV := Lib.hid hv
  have HU := Lib.hid hu
  clear hv hu
  go_enter Try.func23, Try.ntmps23
  go_wp2_with (at_builtin; refine wpList_reps (w0 := w) (l := []) (m := a) rfl _ _ rfl rfl rfl (own_made w w (Bel.refl w)) (HV.out.bel (Bel.new _ _)) ?b1 ?b2 ?b3)
  case b1 => simp; omega
  case b2 => simp
  case b3 =>
    intro v1 w1 hown hg
    obtain ⟨p1, c1, rfl⟩ := hown.isl.shape
    have O1 := Lib.hid hown
    have B1 := Lib.hid (hg.bel (Bel.new w _) (own_made w w (Bel.refl w)).lo)
    clear hown hg
    go_wp2_with (at_builtin; refine wpList_reps (w0 := w) (v := .slice p1 a.length c1) (l := a) (m := b) rfl _ _ rfl rfl rfl O1.out (HU.out.bel B1.out) ?b4 B1.out.size ?b5)
    case b4 => omega
    case b5 =>
      intro v2 w2 hown hg
      have B2 := Lib.hid (hg.bel B1.out O1.out.lo)
      have O2 := Lib.hid hown
      clear hown hg
      go_wp2
      go_ret
      exact ⟨_, rfl, O2.out, B2.out⟩
end Go.Proofs.Ytdjgpbanokdnhaa.Pt
