/-
  A row of reports of the call's own: an element written, the end cleared, the slice cut.
-/
import Derived.Test.YtdjgpbanokdnhaaPtI
import Derived.Sort.Row
import Derived.Shelf.GgSortFunc.RowK
namespace Go.Proofs.Ytdjgpbanokdnhaa.Pt
open Go.RowKit Go.Sort

/-- A slice whose block is known: the row's first form. -/
structure Row (w0 w : World) (g n cap : Nat) (m : List Rep) : Prop where
  len : m.length = n
  lo : w0.heap.size ≤ g
  le : n ≤ cap
  max : cap ≤ maxLen
  cur : ∃ cur, w.heap[g]? = some (.cells cur 23 (0, 0)) ∧ cur.size = cap * 8 ∧ cur.toList.take (n * 8) = flat m
theorem Row.own {w0 w : World} {g n cap : Nat} {m : List Rep} (h : Row w0 w g n cap m) : Own w0 w (.slice (some ⟨g, 0, none⟩) n cap) m := by
  obtain ⟨cur, h1, h2, h3⟩ := h.cur
  refine ⟨flat_len m, .inr ⟨g, cap, cur, by rw [h.len], h.lo, h1, by rw [h.len]; exact h.le, h.max, h2, by rw [h.len]; exact h3⟩⟩
theorem Own.row {w0 w : World} {p : Option Addr} {n cap : Nat} {m : List Rep} (h : Own w0 w (.slice p n cap) m) (h0 : 0 < m.length) : ∃ g, p = some ⟨g, 0, none⟩ ∧ Row w0 w g m.length cap m ∧ n = m.length := by
  obtain ⟨_, h2⟩ := h
  rcases h2 with ⟨_, e⟩ | ⟨g, c, cur, e, hb, hg, hc, hm, hs, ht⟩
  · omega
  · injection e with e1 e2 e3
    subst e1 e2 e3
    exact ⟨g, rfl, ⟨rfl, hb, hc, hm, cur, hg, hs, ht⟩, rfl⟩
theorem Row.lt {w0 w : World} {g n cap : Nat} {m : List Rep} (h : Row w0 w g n cap m) : g < w.heap.size := by
  obtain ⟨cur, h1, _⟩ := h.cur
  exact (Array.getElem?_eq_some_iff.1 h1).1
theorem Row.bel {w0 w w' : World} {g n cap : Nat} {m : List Rep} (h : Row w0 w g n cap m) (hb : Bel w w') : Row w0 w' g n cap m := by
  obtain ⟨cur, h1, h2, h3⟩ := h.cur
  exact ⟨h.len, h.lo, h.le, h.max, cur, (hb.b.block g h.lt).trans h1, h2, h3⟩
theorem Row.at' {w0 w : World} {g n cap : Nat} {m : List Rep} (h : Row w0 w g n cap m) : LsAt w g 0 m := by
  obtain ⟨cur, h1, h2, h3⟩ := h.cur
  intro i hi c hc
  have := h.len
  rw [blkAt h1, Nat.zero_add, take_at h3 (by omega)]
  exact flat_at m i c hi hc
theorem Row.fro {w0 w : World} {g n cap : Nat} {m : List Rep} (h : Row w0 w g n cap m) (j : Nat) : w.frozen? ⟨g, j, none⟩ = false := by
  obtain ⟨cur, h1, _⟩ := h.cur
  simp [World.frozen?, h1]
theorem Row.cut {w0 w : World} {g n cap : Nat} {m : List Rep} (h : Row w0 w g n cap m) {k : Nat} (hk : k ≤ n) : Row w0 w g k cap (m.take k) := by
  obtain ⟨cur, h1, h2, h3⟩ := h.cur
  have hl := h.len
  refine ⟨by rw [List.length_take]; omega, h.lo, Nat.le_trans hk h.le, h.max, cur, h1, h2, ?_⟩
  have h4 : flat m = flat (m.take k) ++ flat (m.drop k) := by rw [← flat_app, List.take_append_drop]
  have h5 : (cur.toList.take (n * 8)).take (k * 8) = cur.toList.take (k * 8) := by
    rw [List.take_take, Nat.min_eq_left (by omega)]
  rw [← h5, h3, h4]
  have h6 : (flat (m.take k)).length = k * 8 := by rw [flat_len, List.length_take]; omega
  rw [← h6, List.take_left]

theorem flat_set (m : List Rep) (k : Nat) (x : Rep) (hk : k < m.length) (j : Nat) (hj : j < m.length * 8) : (flat (m.set k x))[j]? = if k * 8 ≤ j ∧ j < k * 8 + 8 then some (encR x)[j - k * 8]! else (flat m)[j]? := by
  have h1 := flat_at (m.set k x) (j / 8) (j % 8) (by rw [List.length_set]; omega) (by omega)
  have h2 := flat_at m (j / 8) (j % 8) (by omega) (by omega)
  rw [show j / 8 * 8 + j % 8 = j by omega] at h1 h2
  rw [h1]
  by_cases h : j / 8 = k
  · have e1 : (m.set k x)[j / 8]! = x := by rw [h, getElem!_pos (m.set k x) k (by rw [List.length_set]; exact hk), List.getElem_set_self]
    rw [if_pos (by omega), e1, show j % 8 = j - k * 8 by omega]
  · have e1 : (m.set k x)[j / 8]! = m[j / 8]! := by rw [getElem!_pos (m.set k x) (j / 8) (by rw [List.length_set]; omega), getElem!_pos m (j / 8) (by omega), List.getElem_set_ne (Ne.symm h)]
    rw [if_neg (by omega), h2, e1]
theorem puts_map (g : Nat) : ∀ (ys : List Value) (k : Nat) (W : World), puts W g k ys = mapBlock W g fun c => setMany c k ys
  | [], k, W => (mapBlock_id W g _ (fun _ _ _ _ => rfl)).symm
  | y :: ys, k, W => by
    rw [puts, puts_map g ys (k + 1), setCell_eq, mapBlock_mapBlock]
    rfl
/-- An element of the row written. -/
theorem Row.put {w0 w : World} {g n cap : Nat} {m : List Rep} (h : Row w0 w g n cap m) (hb : Bel w0 w) {k : Nat} (hk : k < n) (x : Rep) :
    Row w0 (puts w g (k * 8) (encR x)) g n cap (m.set k x) ∧ Bel w0 (puts w g (k * 8) (encR x)) ∧ (puts w g (k * 8) (encR x)).heap.size = w.heap.size ∧ ∀ j, j ≠ g → (puts w g (k * 8) (encR x)).heap[j]? = w.heap[j]? := by
  obtain ⟨cur, h1, h2, h3⟩ := h.cur
  have hl := h.len
  have hle := h.le
  have ho : ∀ j, j ≠ g → (puts w g (k * 8) (encR x)).heap[j]? = w.heap[j]? := puts_oth _ _ _
  have hs := puts_size (g := g) (encR x) (k * 8) w
  have hg : (puts w g (k * 8) (encR x)).heap[g]? = some (.cells (setMany cur (k * 8) (encR x)) 23 (0, 0)) := by
    rw [puts_map]
    simp only [mapBlock, Array.getElem?_modify, if_true, h1]
    rfl
  have hd := puts_drawn (g := g) (encR x) (k * 8) w
  have hbb := puts_below h.lo (encR x) (k * 8) w0 w hb.b
  generalize puts w g (k * 8) (encR x) = W at ho hs hg hd hbb ⊢
  refine ⟨⟨by rw [List.length_set]; exact hl, h.lo, h.le, h.max, _, hg, by rw [size_setMany]; exact h2, ?_⟩, ⟨hbb, by rw [hd]; exact hb.d⟩, hs, ho⟩
  refine List.ext_getElem? fun j => ?_
  rw [List.getElem?_take]
  by_cases hj : j < n * 8
  · rw [if_pos hj, flat_set m k x (by omega) j (by omega)]
    have hj2 : j < cur.size := by rw [h2]; omega
    have h4 := get_setMany (encR x) (k * 8) cur j hj2
    have h5 : (setMany cur (k * 8) (encR x)).toList[j]? = some (setMany cur (k * 8) (encR x))[j]! := by
      rw [Array.getElem?_toList, Array.getElem?_eq_getElem (by rw [size_setMany]; exact hj2), getElem!_pos _ j (by rw [size_setMany]; exact hj2)]
    rw [h5, h4, encR_len]
    by_cases hc : k * 8 ≤ j ∧ j < k * 8 + 8
    · rw [if_pos hc, if_pos hc]
    · rw [if_neg hc, if_neg hc, ← take_at h3 hj, Array.getElem?_eq_getElem hj2, getElem!_pos cur j hj2]
  · rw [if_neg hj, List.getElem?_eq_none (by rw [flat_len, List.length_set]; omega)]

abbrev zR : Rep := (0, 0, 0, 0, 0, 0, 0, false)
theorem zeros_flat (n : Nat) : (Builtin.zeroCells (Value.cells (.agg #[.int .i64 0, .int .i64 0, .int .i64 0, .int .i64 0, .int .i64 0, .int .i64 0, .int .i64 0, .bool false])) n).toList = flat (List.replicate n zR) := by
  refine List.ext_getElem (by rw [flat_len]; simp [Builtin.zeroCells, Value.cells]) fun j h1 h2 => ?_
  have hj : j < n * 8 := by rw [flat_len] at h2; simpa using h2
  have h3 := flat_at (List.replicate n zR) (j / 8) (j % 8) (by simp; omega) (by omega)
  rw [show j / 8 * 8 + j % 8 = j by omega, List.getElem?_eq_getElem h2] at h3
  injection h3 with h3
  rw [h3, getElem!_pos (List.replicate n zR) (j / 8) (by simp; omega)]
  simp only [List.getElem_replicate]
  simp [Builtin.zeroCells, Value.cells]
  have h8 : j % 8 < 8 := by omega
  generalize j % 8 = c at h8
  match c, h8 with
  | 0, _ => rfl
  | 1, _ => rfl
  | 2, _ => rfl
  | 3, _ => rfl
  | 4, _ => rfl
  | 5, _ => rfl
  | 6, _ => rfl
  | 7, _ => rfl

set_option maxRecDepth 100000 in
/-- clear(s[k:]) on a row. -/
theorem Row.clr {w0 w : World} {g n cap : Nat} {m : List Rep} (h : Row w0 w g n cap m) (hb : Bel w0 w) {k : Nat} (hk : k ≤ n) (ty : TypeId) (c' : Nat) (p' : Option Addr) (hp : k < n → p' = some ⟨g, k * 8, none⟩) :
    ∃ W, (Builtin.clear_ #[34] ty #[.slice p' (n - k) c']).run Try.prog w = .ok (.tuple #[]) W ∧ Row w0 W g k cap (m.take k) ∧ Bel w0 W ∧ W.heap.size = w.heap.size ∧ ∀ j, j ≠ g → W.heap[j]? = w.heap[j]? := by
  by_cases hkn : k = n
  · subst hkn
    refine ⟨w, ?_, h.cut (Nat.le_refl _), hb, rfl, fun _ _ => rfl⟩
    rw [Nat.sub_self]
    cases p' <;> simp [Builtin.clear_, run_underlying Try.underlying34]
  · obtain rfl := hp (by omega)
    obtain ⟨cur, h1, h2, h3⟩ := h.cur
    have hl := h.len
    have hle := h.le
    obtain ⟨i, hi, hz, h8, h64⟩ := info_parts info_rep0
    have hv : ∀ w, (zeroValue 23).run Try.prog w = .ok (.agg #[.int .i64 0, .int .i64 0, .int .i64 0, .int .i64 0, .int .i64 0, .int .i64 0, .int .i64 0, .bool false]) w := fun w => by simp [zeroValue, typeInfo, hi, hz]
    have hst := run_storeCells_at Try.prog g (k * 8) 23 (flat (List.replicate (n - k) zR)) 0 cur w h1 (by rw [flat_len, List.length_replicate, h2]; omega) (flat_one _)
    obtain ⟨d, hd⟩ : ∃ d, n - k = d + 1 := ⟨n - k - 1, by omega⟩
    rw [hd] at hst ⊢
    refine ⟨_, by simp only [Builtin.clear_]; simp [run_underlying Try.underlying34, hv, zeros_flat, hst]; rfl, ?_, ?_, ?_, ?_⟩
    · refine ⟨by rw [List.length_take]; omega, h.lo, by omega, h.max, _, setRow_heap w g cur _ 23 _ h1, ?_, ?_⟩
      · rw [List.size_toArray, List.length_append, List.length_append, List.length_take, List.length_drop, flat_len, List.length_replicate, Array.length_toList, h2]
        omega
      · have h6 : flat (m.take k) = cur.toList.take (k * 8) := by
          obtain ⟨cur', g1, g2, g3⟩ := (h.cut hk).cur
          rw [h1] at g1
          injection g1 with g1
          injection g1 with g1
          rw [g1, g3]
        simp only [Nat.add_zero]
        rw [h6]
        try rw [List.append_assoc]
        rw [List.take_append_of_le_length (by simp; omega), List.take_take, Nat.min_self]
    · exact ⟨⟨hb.b.os, hb.b.tape, hb.b.output, by simp [World.setRow]; exact hb.size, fun j hj => (setRow_other w g j _ (by have := h.lo; omega)).trans (hb.b.block j hj)⟩, hb.d⟩
    · simp [World.setRow]
    · exact fun j hj => setRow_other w g j _ hj
theorem wpList_clr {w : World} {ops : Array Oper} {rest : List Oper} {o : Oper} {a : Act} {Q : Exit → Act → World → Prop} (hgd : o.guard = none) (s : Operand)
    (ho : o.op = .call { callee := .builtin .clear, args := #[s], argTypes := #[34] })
    {v : Value} {W : World} (hs : a.eval s = v) (hr : (Builtin.clear_ #[34] o.type #[v]).run Try.prog w = .ok (.tuple #[]) W)
    (h : wpList Try.prog ops Q rest (a.put o.dst (.tuple #[])) W) : wpList Try.prog ops Q (o :: rest) a w :=
  wpList_plain hgd fun K hK => by
    unfold Oper.wp execOp
    simp only [ho, resolve, invoke, builtin, Sem.run_bind, Sem.run_pure, Result.andThen_ok, List.map_toArray, List.map_cons, List.map_nil, hs, hr]
    exact hK _ _ h
end Go.Proofs.Ytdjgpbanokdnhaa.Pt
