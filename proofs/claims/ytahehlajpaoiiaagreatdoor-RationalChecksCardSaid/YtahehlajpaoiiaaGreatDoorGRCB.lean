import Derived.Test.YtahehlajpaoiiaaGreatDoorGRKB

/-
  Words for stores into blocks that a call made.
-/
namespace Go.Proofs.YtahehlajpaoiiaaGreatDoor
open Go.RowKit

section
variable {W : World} {g g' : Nat} {cs : Array Value} {T : TypeId} {x0 x1 x2 x3 : Value}
theorem Bq.set2 (h : Bq g cs T W) (hne : g ≠ g') (x y : Value) : Bq g cs T ((W.setCell ⟨g', 0, none⟩ x).setCell ⟨g', 1, none⟩ y) :=
  ⟨(qoth hne x y).trans h.k, by rw [qsz]; exact h.lt⟩
theorem Bq.self2 (h : Bq g #[x0, x1] T W) (x y : Value) : Bq g #[x, y] T ((W.setCell ⟨g, 0, none⟩ x).setCell ⟨g, 1, none⟩ y) :=
  ⟨qset h.k x y, by rw [qsz]; exact h.lt⟩
theorem qsz3 (x y z : Value) : (((W.setCell ⟨g, 0, none⟩ x).setCell ⟨g, 1, none⟩ y).setCell ⟨g, 2, none⟩ z).heap.size = W.heap.size := by simp [World.setCell]
theorem Bq.set3 (h : Bq g cs T W) (hne : g ≠ g') (x y z : Value) : Bq g cs T (((W.setCell ⟨g', 0, none⟩ x).setCell ⟨g', 1, none⟩ y).setCell ⟨g', 2, none⟩ z) :=
  ⟨((Below.heap_setCell _ ⟨g', 2, none⟩ z g hne).trans (qoth hne x y)).trans h.k, by rw [qsz3]; exact h.lt⟩
theorem Bq.self3 (h : Bq g #[x0, x1, x2] T W) (x y z : Value) : Bq g #[x, y, z] T (((W.setCell ⟨g, 0, none⟩ x).setCell ⟨g, 1, none⟩ y).setCell ⟨g, 2, none⟩ z) :=
  ⟨by have hk := h.k; simp [World.setCell, Array.getElem?_modify, hk], by rw [qsz3]; exact h.lt⟩
theorem Bq.self4 (h : Bq g #[x0, x1, x2, x3] T W) (x y z u : Value) : Bq g #[x, y, z, u] T ((((W.setCell ⟨g, 0, none⟩ x).setCell ⟨g, 1, none⟩ y).setCell ⟨g, 2, none⟩ z).setCell ⟨g, 3, none⟩ u) :=
  ⟨by have hk := h.k; simp [World.setCell, Array.getElem?_modify, hk], by rw [qsz4]; exact h.lt⟩
end
end Go.Proofs.YtahehlajpaoiiaaGreatDoor


/-
  Blocks and rows of digits that a call made, told together; the moves of a region that draws its order, in few words. No function of the program stands here.
-/

namespace Go.Proofs.YtahehlajpaoiiaaGreatDoor
open Go.RowKit

/-- Blocks with their cells (l), rows of digits (rs): what stands in W, behind the world w in which the call began. -/
structure Sb (w : World) (l : List (Nat × Array Value × TypeId)) (rs : List (Option Addr × Nat × Nat × Nat)) (W : World) : Prop where
  k : ∀ x ∈ l, W.heap[x.1]? = some (.cells x.2.1 x.2.2 (0, 0))
  lo : ∀ x ∈ l, w.heap.size ≤ x.1
  ne : ∀ (i j : Nat) (x y : Nat × Array Value × TypeId), l[i]? = some x → l[j]? = some y → i ≠ j → x.1 ≠ y.1
  tr : ∀ r ∈ rs, Tr W r.1 r.2.1 r.2.2.1 r.2.2.2
  ap : ∀ r ∈ rs, ∀ x ∈ l, 0 < r.2.1 → ∀ a, r.1 = some a → a.block ≠ x.1
  bel : Below w.heap.size w W

theorem Tr.block_lt {W : World} {A : Option Addr} {n c V : Nat} (h : Tr W A n c V) (hn : 0 < n) {a : Addr} (e : A = some a) : a.block < W.heap.size := by
  obtain ⟨g, o, e', hg, _⟩ := h.dg.rd hn
  rw [e] at e'
  injection e' with e'
  subst e'
  exact hg
theorem Tr.keep {W W2 : World} {A : Option Addr} {n c V : Nat} (h : Tr W A n c V) (hk : 0 < n → ∀ a, A = some a → W2.heap[a.block]? = W.heap[a.block]?) (hs : W.heap.size ≤ W2.heap.size) : Tr W2 A n c V :=
  ⟨⟨h.dg.lt, fun hn => by
    obtain ⟨g, o, e, hg, hc⟩ := h.dg.rd hn
    exact ⟨g, o, e, Nat.lt_of_lt_of_le hg hs, fun j hj => (World.cell?_of_block (w := W) (a := ⟨g, o + j, none⟩) (by have h1 := hk hn _ e; exact h1)).trans (hc j hj)⟩⟩, h.ln, h.cap, h.nil⟩

section
variable {w W W2 : World} {l l' : List (Nat × Array Value × TypeId)} {rs rs' : List (Option Addr × Nat × Nat × Nat)} {g : Nat} {cs cs' : Array Value} {T : TypeId}
theorem Sb.lt (h : Sb w l rs W) {x : Nat × Array Value × TypeId} (hx : x ∈ l) : x.1 < W.heap.size := (Array.getElem?_eq_some_iff.1 (h.k x hx)).1
theorem Sb.start (w : World) : Sb w [] [] w := ⟨fun _ h => by simp at h, fun _ h => by simp at h, fun _ _ _ _ h => by simp at h, fun _ h => by simp at h, fun _ h => by simp at h, Below.refl _ _⟩
theorem Sb.next (h : Sb w l rs W) (hb : Below W.heap.size W W2) : Sb w l rs W2 :=
  ⟨fun x hx => (hb.block _ (h.lt hx)).trans (h.k x hx), h.lo, h.ne, fun r hr => (h.tr r hr).below hb, h.ap, h.bel.trans (hb.mono h.bel.size)⟩
theorem Sb.drew (h : Sb w l rs W) : Sb w l rs W.drew := h.next (Below.refl _ _).drew
theorem Sb.new (h : Sb w l rs W) (cs : Array Value) (T : TypeId) : Sb w (l ++ [(W.heap.size, cs, T)]) rs (W.alloc (.cells cs T)) := by
  have hn := h.next (below_new W (.cells cs T))
  refine ⟨fun x hx => ?_, fun x hx => ?_, fun i j x y hi hj hij => ?_, hn.tr, fun r hr x hx hn a ha => ?_, hn.bel⟩
  · rcases List.mem_append.1 hx with h1 | h1
    · exact hn.k x h1
    · obtain rfl : x = _ := by simpa using h1
      exact heap_one _ _
  · rcases List.mem_append.1 hx with h1 | h1
    · exact h.lo x h1
    · obtain rfl : x = _ := by simpa using h1
      exact h.bel.size
  · have key : ∀ {i x}, (l ++ [(W.heap.size, cs, T)])[i]? = some x → (i < l.length ∧ l[i]? = some x) ∨ (i = l.length ∧ x.1 = W.heap.size) := by
      intro i x hi
      rcases Nat.lt_trichotomy i l.length with h1 | h1 | h1
      · rw [List.getElem?_append_left h1] at hi
        exact .inl ⟨h1, hi⟩
      · subst h1
        rw [List.getElem?_append_right (Nat.le_refl _)] at hi
        simp at hi
        exact .inr ⟨rfl, by rw [← hi]⟩
      · rw [List.getElem?_append_right (by omega)] at hi
        have : i - l.length ≠ 0 := by omega
        obtain ⟨m, hm⟩ : ∃ m, i - l.length = m + 1 := ⟨i - l.length - 1, by omega⟩
        rw [hm] at hi
        simp at hi
    rcases key hi with ⟨h1, h2⟩ | ⟨h1, h2⟩ <;> rcases key hj with ⟨h3, h4⟩ | ⟨h3, h4⟩
    · exact h.ne i j x y h2 h4 hij
    · have := h.lt (List.mem_of_getElem? h2); omega
    · have := h.lt (List.mem_of_getElem? h4); omega
    · omega
  · rcases List.mem_append.1 hx with h1 | h1
    · exact h.ap r hr x h1 hn a ha
    · obtain rfl : x = _ := by simpa using h1
      have := (h.tr r hr).block_lt hn ha
      show a.block ≠ W.heap.size
      omega
theorem Sb.row (h : Sb w l rs W) (hb : Below W.heap.size W W2) {A : Option Addr} {n c V : Nat} (ht : Tr W2 A n c V) (hf : ∀ a, A = some a → W.heap.size ≤ a.block) : Sb w l (rs ++ [(A, n, c, V)]) W2 := by
  have hn := h.next hb
  refine ⟨hn.k, hn.lo, hn.ne, fun r hr => ?_, fun r hr x hx h0 a ha => ?_, hn.bel⟩
  · rcases List.mem_append.1 hr with h1 | h1
    · exact hn.tr r h1
    · obtain rfl : r = _ := by simpa using h1
      exact ht
  · rcases List.mem_append.1 hr with h1 | h1
    · exact h.ap r h1 x hx h0 a ha
    · obtain rfl : r = _ := by simpa using h1
      have h2 := hf a ha
      have h3 := h.lt hx
      omega
theorem Sb.row2 (h : Sb w l rs W) (hb : Below W.heap.size W W2) {A B : Option Addr} {n c V m d U : Nat} (ht : Tr W2 A n c V) (hu : Tr W2 B m d U) (hf : ∀ a, A = some a → W.heap.size ≤ a.block) (hg : ∀ a, B = some a → W.heap.size ≤ a.block) : Sb w l (rs ++ [(A, n, c, V), (B, m, d, U)]) W2 := by
  have hn := h.next hb
  refine ⟨hn.k, hn.lo, hn.ne, fun r hr => ?_, fun r hr x hx h0 a ha => ?_, hn.bel⟩
  · rcases List.mem_append.1 hr with h1 | h1
    · exact hn.tr r h1
    · rcases (by simpa using h1 : r = _ ∨ r = _) with rfl | rfl
      · exact ht
      · exact hu
  · rcases List.mem_append.1 hr with h1 | h1
    · exact h.ap r h1 x hx h0 a ha
    · have h3 := h.lt hx
      rcases (by simpa using h1 : r = _ ∨ r = _) with rfl | rfl
      · have h2 := hf a ha
        omega
      · have h2 := hg a ha
        omega
theorem Sb.put (h : Sb w l rs W) {i : Nat} (hl : l[i]? = some (g, cs, T)) (hk : W2.heap[g]? = some (.cells cs' T (0, 0))) (ho : ∀ k, k ≠ g → W2.heap[k]? = W.heap[k]?) (hs : W.heap.size ≤ W2.heap.size) (hb : Below w.heap.size W W2) : Sb w (l.set i (g, cs', T)) rs W2 := by
  have hi : i < l.length := (List.getElem?_eq_some_iff.1 hl).1
  have hm := List.mem_of_getElem? hl
  have key : ∀ {j x}, (l.set i (g, cs', T))[j]? = some x → ∃ y, l[j]? = some y ∧ x.1 = y.1 ∧ (j ≠ i → x = y) ∧ (j = i → x = (g, cs', T)) := by
    intro j x hj
    rw [List.getElem?_set] at hj
    split at hj
    · rename_i h1
      subst h1
      try rw [if_pos hi] at hj
      injection hj with hj
      exact ⟨_, hl, by rw [← hj], fun h => absurd rfl h, fun _ => hj.symm⟩
    · rename_i h1
      exact ⟨x, hj, rfl, fun _ => rfl, fun h => absurd h.symm h1⟩
  have mem : ∀ {x}, x ∈ l.set i (g, cs', T) → ∃ j, (l.set i (g, cs', T))[j]? = some x := fun hx => List.getElem?_of_mem hx
  refine ⟨fun x hx => ?_, fun x hx => ?_, fun j j' x y hx hy hne => ?_, fun r hr => ?_, fun r hr x hx h0 a ha => ?_, h.bel.trans hb⟩
  · obtain ⟨j, hj⟩ := mem hx
    obtain ⟨y, h1, h2, h3, h4⟩ := key hj
    by_cases hji : j = i
    · rw [h4 hji]; exact hk
    · rw [h3 hji]
      exact (ho _ (h.ne j i y _ h1 hl hji)).trans (h.k y (List.mem_of_getElem? h1))
  · obtain ⟨j, hj⟩ := mem hx
    obtain ⟨y, h1, h2, h3, h4⟩ := key hj
    rw [h2]
    exact h.lo y (List.mem_of_getElem? h1)
  · obtain ⟨x', h1, h2, _, _⟩ := key hx
    obtain ⟨y', h3, h4, _, _⟩ := key hy
    rw [h2, h4]
    exact h.ne j j' x' y' h1 h3 hne
  · exact (h.tr r hr).keep (fun h0 a ha => ho _ (h.ap r hr _ hm h0 a ha)) hs
  · obtain ⟨j, hj⟩ := mem hx
    obtain ⟨y, h1, h2, h3, h4⟩ := key hj
    rw [h2]
    exact h.ap r hr y (List.mem_of_getElem? h1) h0 a ha
theorem Sb.set2 (h : Sb w l rs W) {i : Nat} {x0 x1 : Value} (hl : l[i]? = some (g, #[x0, x1], T)) (x y : Value) : Sb w (l.set i (g, #[x, y], T)) rs ((W.setCell ⟨g, 0, none⟩ x).setCell ⟨g, 1, none⟩ y) :=
  h.put hl (qset (h.k _ (List.mem_of_getElem? hl)) x y) (fun k hk => qoth hk x y) (Nat.le_of_eq (qsz x y).symm) (below_set2 (Below.refl _ _) (h.lo _ (List.mem_of_getElem? hl)) x y)
theorem Sb.set3 (h : Sb w l rs W) {i : Nat} {x0 x1 x2 : Value} (hl : l[i]? = some (g, #[x0, x1, x2], T)) (x y z : Value) : Sb w (l.set i (g, #[x, y, z], T)) rs (((W.setCell ⟨g, 0, none⟩ x).setCell ⟨g, 1, none⟩ y).setCell ⟨g, 2, none⟩ z) :=
  h.put hl (Bq.self3 ⟨h.k _ (List.mem_of_getElem? hl), h.lt (List.mem_of_getElem? hl)⟩ x y z).k (fun k hk => (Below.heap_setCell _ ⟨g, 2, none⟩ z k hk).trans (qoth hk x y)) (Nat.le_of_eq (qsz3 x y z).symm) (below_set3 (Below.refl _ _) (h.lo _ (List.mem_of_getElem? hl)) x y z)
theorem Sb.set4 (h : Sb w l rs W) {i : Nat} {x0 x1 x2 x3 : Value} (hl : l[i]? = some (g, #[x0, x1, x2, x3], T)) (x y z u : Value) : Sb w (l.set i (g, #[x, y, z, u], T)) rs ((((W.setCell ⟨g, 0, none⟩ x).setCell ⟨g, 1, none⟩ y).setCell ⟨g, 2, none⟩ z).setCell ⟨g, 3, none⟩ u) :=
  h.put hl (Bq.self4 ⟨h.k _ (List.mem_of_getElem? hl), h.lt (List.mem_of_getElem? hl)⟩ x y z u).k (fun k hk => qoth4 hk x y z u) (Nat.le_of_eq (qsz4 x y z u).symm) (below_set4 (Below.refl _ _) (h.lo _ (List.mem_of_getElem? hl)) x y z u)
theorem Sb.pick (h : Sb w l rs W) (is : List Nat) (l' : List (Nat × Array Value × TypeId)) (rs' : List (Option Addr × Nat × Nat × Nat)) (hl : is.map (fun i : Nat => l[i]?) = l'.map some) (hn : is.Nodup) (hr : ∀ r ∈ rs', r ∈ rs) : Sb w l' rs' W := by
  have at' : ∀ {j : Nat} {x : Nat × Array Value × TypeId}, l'[j]? = some x → ∃ i, is[j]? = some i ∧ l[i]? = some x := by
    intro j x hj
    have h1 : (l'.map some)[j]? = some (some x) := by rw [List.getElem?_map, hj]; rfl
    rw [← hl, List.getElem?_map] at h1
    obtain ⟨i, h2, h3⟩ := Option.map_eq_some_iff.1 h1
    exact ⟨i, h2, h3⟩
  have mem : ∀ {x : Nat × Array Value × TypeId}, x ∈ l' → x ∈ l := fun hx => by
    obtain ⟨j, hj⟩ := List.getElem?_of_mem hx
    obtain ⟨i, _, h2⟩ := at' hj
    exact List.mem_of_getElem? h2
  refine ⟨fun x hx => h.k x (mem hx), fun x hx => h.lo x (mem hx), fun j j' x y hx hy hne => ?_, fun r hr' => h.tr r (hr r hr'), fun r hr' x hx => h.ap r (hr r hr') x (mem hx), h.bel⟩
  obtain ⟨i, h1, h2⟩ := at' hx
  obtain ⟨i', h3, h4⟩ := at' hy
  refine h.ne i i' x y h2 h4 fun e => hne ?_
  subst e
  obtain ⟨ha, hb⟩ := List.getElem?_eq_some_iff.1 h1
  obtain ⟨hc, hd⟩ := List.getElem?_eq_some_iff.1 h3
  exact (List.getElem_inj hn).1 (hb.trans hd.symm)
theorem wexi (_ : Sb w l rs W) : ∃ V, V = W := ⟨_, rfl⟩
theorem Sb.rw (h : Sb w l rs W) {i n c V : Nat} {A : Option Addr} (hl : rs[i]? = some (A, n, c, V)) : Tr W A n c V := h.tr _ (List.mem_of_getElem? hl)
theorem Sb.at (h : Sb w l rs W) {i : Nat} (hl : l[i]? = some (g, cs, T)) : W.heap[g]? = some (.cells cs T (0, 0)) := h.k _ (List.mem_of_getElem? hl)
theorem Sb.c2 (h : Sb w l rs W) {i : Nat} {x0 x1 : Value} (hl : l[i]? = some (g, #[x0, x1], T)) : W.cell? ⟨g, 0, none⟩ = some x0 ∧ W.cell? ⟨g, 1, none⟩ = some x1 := ⟨(blk_cells (h.at hl)).1, (blk_cells (h.at hl)).2.1⟩
theorem Sb.f2 (h : Sb w l rs W) {i : Nat} {x0 x1 : Value} (hl : l[i]? = some (g, #[x0, x1], T)) : W.frozen? ⟨g, 0, none⟩ = false ∧ W.frozen? ⟨g, 1, none⟩ = false := ⟨(blk_cells (h.at hl)).2.2.1, (blk_cells (h.at hl)).2.2.2⟩
theorem Sb.c3 (h : Sb w l rs W) {i : Nat} {x0 x1 x2 : Value} (hl : l[i]? = some (g, #[x0, x1, x2], T)) : W.cell? ⟨g, 0, none⟩ = some x0 ∧ W.cell? ⟨g, 1, none⟩ = some x1 ∧ W.cell? ⟨g, 2, none⟩ = some x2 := ⟨(blk3 (h.at hl)).1, (blk3 (h.at hl)).2.1, (blk3 (h.at hl)).2.2.1⟩
theorem Sb.f3 (h : Sb w l rs W) {i : Nat} {x0 x1 x2 : Value} (hl : l[i]? = some (g, #[x0, x1, x2], T)) : W.frozen? ⟨g, 0, none⟩ = false ∧ W.frozen? ⟨g, 1, none⟩ = false ∧ W.frozen? ⟨g, 2, none⟩ = false := (blk3 (h.at hl)).2.2.2
theorem Sb.c4 (h : Sb w l rs W) {i : Nat} {x0 x1 x2 x3 : Value} (hl : l[i]? = some (g, #[x0, x1, x2, x3], T)) : W.cell? ⟨g, 0, none⟩ = some x0 ∧ W.cell? ⟨g, 1, none⟩ = some x1 ∧ W.cell? ⟨g, 2, none⟩ = some x2 ∧ W.cell? ⟨g, 3, none⟩ = some x3 := blk4 (h.at hl)
theorem Sb.f4 (h : Sb w l rs W) {i : Nat} {x0 x1 x2 x3 : Value} (hl : l[i]? = some (g, #[x0, x1, x2, x3], T)) : W.frozen? ⟨g, 0, none⟩ = false ∧ W.frozen? ⟨g, 1, none⟩ = false ∧ W.frozen? ⟨g, 2, none⟩ = false ∧ W.frozen? ⟨g, 3, none⟩ = false := fro4 (h.at hl)
end

/-! The moves, in few words. -/

/-- May number i be taken first here? -/
def takeB (md : Region.Mode) (ops : Array Oper) (L : List Nat) (listed : Array Bool) (i : Nat) : Bool :=
  Region.noSelect ops && Region.free md ops listed i && (Region.ready md ops listed).contains i && closedB md ops listed && L.all (fun j => waits md ops i ops.size j)
theorem tk {P : Program} {ops : Array Oper} {Q : Exit → Act → World → Prop} {md : Region.Mode} {S : World → Prop} {L : List Nat} {i : Nat} {oi : Oper} {v : Value} {fuel : Nat} {listed : Array Bool} {a : Act} {w : World} (hi : ops[i]? = some oi) (hb : takeB md ops L listed i = true)
    (hQ : ∀ c a w, Q (.panic c) (a.put oi.dst v) w → Q (.panic c) a w) (hS : S w) (hy : YieldsIf P ops S oi v a)
    (h : wpLate P md ops Q S L fuel (listed.setIfInBounds i true) (a.put oi.dst v) w) : wpLate P md ops Q S L (fuel + 1) listed a w := by
  simp only [takeB, Bool.and_eq_true] at hb
  obtain ⟨⟨⟨⟨h1, h2⟩, h3⟩, h4⟩, h5⟩ := hb
  exact wpLate_take hi h1 h2 h3 h4 h5 hQ hy hS h
theorem pId {Q : Exit → Act → World → Prop} {f : Act → Act} (h : ∀ c a w, Q (.panic c) (f a) w = Q (.panic c) a w) : ∀ c a w, Q (.panic c) (f a) w → Q (.panic c) a w := fun c a w hq => (h c a w) ▸ hq
theorem seti {α : Type} (xs : List α) (i : Nat) (a : α) : xs.toArray.setIfInBounds i a = (xs.set i a).toArray := List.setIfInBounds_toArray ..
theorem set0 {α : Type} (x y : α) (xs : List α) : (x :: xs).set 0 y = y :: xs := rfl
theorem setS {α : Type} (x y : α) (xs : List α) (n : Nat) : (x :: xs).set (n + 1) y = x :: xs.set n y := rfl
end Go.Proofs.YtahehlajpaoiiaaGreatDoor


/-
  Small functions of the program and of the second reference: integers as fractions, what is canonical, a fraction of two integers.
-/
namespace Go.Proofs.YtahehlajpaoiiaaGreatDoor
open Go.RowKit
attribute [local go_sem ↓] Go.wp_at_zero Go.wp_at_succ

set_option maxHeartbeats 2000000 in
set_option maxRecDepth 100000 in
theorem fromInts_zero (x : Int) (x1 : -9223372036854775808 ≤ x) (x2 : x ≤ 9223372036854775807) (w : World) :
    Calls Tryz.prog 22 #[.int .i64 x, .int .i64 0] w (RetB w (.tuple #[.agg #[.bool false, .string ⟨#[]⟩, .bool false, .string ⟨#[]⟩], .int .i64 6])) := by
  obtain ⟨bx, mx, hx⟩ := enc_form x
  have HM := Lib.hid (fun V => make_zero bx false mx enc_nought V)
  have HX := Lib.hid hx
  have HY := Lib.hid enc_nought
  have KR := Lib.hid (Bq.new w #[.bool false, .string ⟨#[]⟩, .bool false, .string ⟨#[]⟩] 25)
  have HB := Lib.hid (below_new w (.cells #[.bool false, .string ⟨#[]⟩, .bool false, .string ⟨#[]⟩] 25))
  clear hx
  go_enter Tryz.func22, Tryz.ntmps22
  go_wp2_with fail
  refine (fromInt_any x x1 x2 _).mono ?_
  rintro e w1 ⟨rfl, hb1⟩
  rw [HX.out]
  have K1 := Lib.hid (KR.out.next hb1)
  have B1 := Lib.hid (below_step HB.out (Nat.le_refl _) hb1)
  clear hb1
  go_wp2_with fail
  refine (fromInt_any 0 (by omega) (by omega) _).mono ?_
  rintro e w2 ⟨rfl, hb2⟩
  rw [HY.out]
  have K2 := Lib.hid (K1.out.next hb2)
  have B2 := Lib.hid (below_step B1.out (Nat.le_refl _) hb2)
  clear hb2
  go_wp2_with fail
  refine (HM.out _).mono ?_
  rintro e w3 ⟨rfl, hb3⟩
  have K3 := Lib.hid (K2.out.next hb3)
  have B3 := Lib.hid (below_step B2.out (Nat.le_refl _) hb3)
  obtain ⟨t0, t1, t2, t3⟩ := blk4 K3.out.k
  obtain ⟨f0, f1, f2, f3⟩ := fro4 K3.out.k
  clear hb3
  go_wp2
  exact bodyPost_ret (v := .tuple #[.agg #[.bool false, .string ⟨#[]⟩, .bool false, .string ⟨#[]⟩], .int .i64 6]) (by simp [results, Tryz.results22, go_sem, t0, t1, t2, t3]) rfl ⟨rfl, below_set4 B3.out (Nat.le_refl _) _ _ _ _⟩

theorem rq_int {x : Int} {b : Bool} {m : ByteArray} (h : enc x = .agg #[.bool b, .string m]) : Rq (x : Rat) b m ⟨#[]⟩ := ⟨by rw [Rat.num_intCast]; exact h, by rw [Rat.den_intCast, dm_one]⟩
theorem divInt_1 (x : Int) : Rat.divInt x 1 = (x : Rat) := by
  rw [show (1 : Int) = ((1 : Nat) : Int) from rfl, Rat.divInt_ofNat]
  exact Rat.mkRat_one x

set_option maxHeartbeats 2000000 in
set_option maxRecDepth 100000 in
theorem rFromInt_f {x : Int} {b : Bool} {m : ByteArray} (hx : enc x = .agg #[.bool b, .string m]) (x1 : -9223372036854775808 ≤ x) (x2 : x ≤ 9223372036854775807) (w : World) :
    Calls Tryz.prog 24 #[.int .i64 x] w (RetB w (.agg #[.bool b, .string m, .bool false, .string ⟨#[]⟩])) := by
  have HX := Lib.hid hx
  have KR := Lib.hid (Bq.new w #[.bool false, .string ⟨#[]⟩, .bool false, .string ⟨#[]⟩] 25)
  have HB := Lib.hid (below_new w (.cells #[.bool false, .string ⟨#[]⟩, .bool false, .string ⟨#[]⟩] 25))
  clear hx
  go_enter Tryz.func24, Tryz.ntmps24
  go_wp2_with fail
  refine (fromInt_any x x1 x2 _).mono ?_
  rintro e w1 ⟨rfl, hb1⟩
  rw [HX.out]
  have K3 := Lib.hid (KR.out.next hb1)
  have B3 := Lib.hid (below_step HB.out (Nat.le_refl _) hb1)
  obtain ⟨t0, t1, t2, t3⟩ := blk4 K3.out.k
  obtain ⟨f0, f1, f2, f3⟩ := fro4 K3.out.k
  clear hb1
  go_wp2
  exact bodyPost_ret (v := .agg #[.bool b, .string m, .bool false, .string ⟨#[]⟩]) (by simp [results, Tryz.results24, go_sem, t0, t1, t2, t3]) rfl ⟨rfl, below_set4 B3.out (Nat.le_refl _) _ _ _ _⟩

theorem canon_form {b : Bool} {m : ByteArray} (h : canonB b m = true) : ∃ x, enc x = .agg #[.bool b, .string m] := by
  refine ⟨ival b m, (enc_eq ⟨?_, ?_⟩ rfl).symm⟩
  · intro h0
    unfold canonB at h
    rw [dif_pos h0] at h
    simpa using h
  · intro h0
    unfold canonB at h
    rw [dif_neg (by omega)] at h
    simpa using h
theorem canon_yes {x : Int} {b : Bool} {m : ByteArray} (h : enc x = .agg #[.bool b, .string m]) : canonB b m = true := by
  have h1 := canon_enc h
  unfold checkV at h1
  cases hc : canonB b m
  · rw [hc] at h1; cases h1
  · rfl

set_option maxHeartbeats 1000000 in
set_option maxRecDepth 100000 in
theorem isInt_any (neg : Bool) (s : ByteArray) (w : World) :
    Calls Tryz.prog 25 #[.agg #[.bool neg, .string s]] w (RetB w (.bool (canonB neg s))) := by
  by_cases h : 0 < s.size
  · have hv : canonB neg s = ((s[0]'h).toNat != 0) := by unfold canonB; rw [dif_pos h]
    have he := empty_no h
    rw [hv]
    clear hv
    have HB := Lib.hid (below_new w (.cells #[.bool neg, .string s] 23))
    go_enter Tryz.func25, Tryz.ntmps25
    go_wp2
    go_ret
    refine ⟨?_, HB.out⟩
    have hb : (((s[0]'h).toNat : Int) != 0) = ((s[0]'h).toNat != 0) := by rw [Bool.eq_iff_iff]; simp
    exact congrArg (fun b => Ending.returned (.bool b)) hb
  · have hv : canonB neg s = !neg := by unfold canonB; rw [dif_neg h]
    have he := empty_yes h
    have h0 : s.size = 0 := by omega
    rw [hv]
    clear hv
    have HB := Lib.hid (below_new w (.cells #[.bool neg, .string s] 23))
    go_enter Tryz.func25, Tryz.ntmps25
    go_wp2
    go_ret
    exact ⟨rfl, HB.out⟩

theorem rmake_f {x y : Int} {b1 b2 b3 : Bool} {m1 m2 m3 k3 : ByteArray} (hx : enc x = .agg #[.bool b1, .string m1]) (hy : enc y = .agg #[.bool b2, .string m2]) (hq : Rq (Rat.divInt x y) b3 m3 k3) (h0 : y ≠ 0) (s1 : m1.size ≤ 1000000) (s2 : m2.size ≤ 1000000) (w : World) :
    Calls Tryz.prog 26 #[.agg #[.bool b1, .string m1], .agg #[.bool b2, .string m2]] w (RetB w (.agg #[.bool b3, .string m3, .bool false, .string k3])) := by
  have vx : bval m1 = x.natAbs := by rw [(enc_parts hx).2, bval_mag]
  have vy : bval m2 = y.natAbs := by rw [(enc_parts hy).2, bval_mag]
  have hmk := rmake b1 b2 m1 m2 s1 s2 (by rw [vy]; omega) w
  rw [vx, vy, (enc_parts hx).1, (enc_parts hy).1, mk_divInt x y h0, ← (enc_parts hx).1, ← (enc_parts hy).1] at hmk
  refine hmk.mono ?_
  rintro e w3 ⟨b4, m4, k4, rfl, hq4, hb3⟩
  obtain ⟨rfl, rfl, rfl⟩ := hq.inj hq4
  exact ⟨rfl, hb3⟩
end Go.Proofs.YtahehlajpaoiiaaGreatDoor


/-
  Is a fraction canonical? The program's Check and the second reference's, of whatever fraction.
-/
namespace Go.Proofs.YtahehlajpaoiiaaGreatDoor
open Go.RowKit
attribute [local go_sem ↓] Go.wp_at_zero Go.wp_at_succ
attribute [local go_sem] undef yielded

set_option maxHeartbeats 1000000 in
set_option maxRecDepth 100000 in
theorem isInteger_neg (b : Bool) (m k : ByteArray) (w : World) : Calls Tryz.prog 61 #[.agg #[.bool b, .string m, .bool true, .string k]] w (RetB w (.bool false)) := by
  go_enter Tryz.func61, Tryz.ntmps61
  go_wp2
  go_ret
  exact ⟨rfl, below_new _ _⟩

/-- What a fraction is: canonical, or why it is not. -/
theorem rq_cases (b : Bool) (m : ByteArray) (c : Bool) (k : ByteArray) :
    (c = false ∧ ∃ q, Rq q b m k) ∨ canonB b m = false ∨ (canonB b m = true ∧ canonB c k = false) ∨ (canonB b m = true ∧ canonB c k = true ∧ c = true) ∨ (canonB b m = true ∧ canonB c k = true ∧ c = false ∧ k = ⟨#[1]⟩) ∨
    (∃ (x : Int) (d : Nat), enc x = .agg #[.bool b, .string m] ∧ c = false ∧ k = mag d ∧ 2 ≤ d ∧ Nat.gcd x.natAbs d ≠ 1) := by
  cases h1 : canonB b m
  · exact .inr (.inl rfl)
  cases h2 : canonB c k
  · exact .inr (.inr (.inl ⟨rfl, rfl⟩))
  obtain ⟨x, hx⟩ := canon_form h1
  obtain ⟨y, hy⟩ := canon_form h2
  cases c
  · obtain ⟨e1, e2⟩ := enc_parts hy
    have hy0 : ¬ y < 0 := of_decide_eq_false e1.symm
    obtain ⟨d, rfl⟩ : ∃ d : Nat, y = (d : Int) := ⟨y.natAbs, by omega⟩
    rw [Int.natAbs_natCast] at e2
    rcases Nat.lt_or_ge d 2 with hd | hd
    · rcases Nat.lt_or_ge d 1 with hd1 | hd1
      · obtain rfl : d = 0 := by omega
        exact .inl ⟨rfl, _, by rw [e2, mag_nil]; exact rq_int hx⟩
      · obtain rfl : d = 1 := by omega
        exact .inr (.inr (.inr (.inr (.inl ⟨rfl, rfl, rfl, by rw [e2, mag_one]⟩))))
    · by_cases hg : Nat.gcd x.natAbs d = 1
      · obtain ⟨n1, d1⟩ := rat_of_coprime (n := x) (d := d) (by omega) hg
        exact .inl ⟨rfl, mkRat x d, by rw [n1]; exact hx, by rw [d1, e2]; unfold dm; rw [if_neg (by omega)]⟩
      · exact .inr (.inr (.inr (.inr (.inr ⟨x, d, hx, rfl, e2, hd, hg⟩))))
  · exact .inr (.inr (.inr (.inl ⟨rfl, rfl, rfl⟩)))

theorem checkV_of {b : Bool} {m : ByteArray} (h : canonB b m = true) : checkV b m = 0 := by unfold checkV; rw [h]; rfl
theorem checkV_no {b : Bool} {m : ByteArray} (h : canonB b m = false) : checkV b m = 5 := by unfold checkV; rw [h]; rfl

set_option maxHeartbeats 16000000 in
set_option maxRecDepth 100000 in
theorem ratCheck_no (b : Bool) (m : ByteArray) (c : Bool) (k : ByteArray) (s1 : m.size ≤ 100000) (s2 : k.size ≤ 100000) (hno : ¬ (c = false ∧ ∃ q, Rq q b m k)) (w : World) (hE : Env w) :
    Calls Tryz.prog 17 #[.agg #[.bool b, .string m, .bool c, .string k]] w (RetB w (.int .i64 5)) := by
  have HC1 := Lib.hid (fun V => check_any b m V)
  have HC2 := Lib.hid (fun V => check_any c k V)
  have HE := Lib.hid (fun V (h : Below w.heap.size w V) => hE.next h)
  clear hE
  rcases rq_cases b m c k with h | h | ⟨h1, h2⟩ | ⟨h1, h2, h3⟩ | ⟨h1, h2, h3, h4⟩ | ⟨x, d, hx, h3, h4, h5, h6⟩
  · exact absurd h hno
  · rw [checkV_no h] at HC1
    clear h hno
    have X := Lib.hid ((Sb.start w).new #[.bool b, .string m, .bool c, .string k] 25)
    have X := Lib.hid (X.out.pick [0] [(w.heap.size, #[.bool b, .string m, .bool c, .string k], 25)] [] (by simp) (by decide) (by simp))
    obtain ⟨a0, a1, a2, a3⟩ := X.out.c4 (i := 0) rfl
    go_enter Tryz.func17, Tryz.ntmps17
    go_wp2_with fail
    refine (HC1.out _).mono ?_
    rintro e w1 ⟨rfl, hb9⟩
    have X := Lib.hid (X.out.next hb9)
    clear hb9
    clear a0 a1 a2 a3
    go_wp2
    go_ret
    exact ⟨rfl, X.out.bel⟩
  · rw [checkV_of h1] at HC1
    rw [checkV_no h2] at HC2
    clear h1 h2 hno
    have X := Lib.hid ((Sb.start w).new #[.bool b, .string m, .bool c, .string k] 25)
    have X := Lib.hid (X.out.pick [0] [(w.heap.size, #[.bool b, .string m, .bool c, .string k], 25)] [] (by simp) (by decide) (by simp))
    obtain ⟨a0, a1, a2, a3⟩ := X.out.c4 (i := 0) rfl
    go_enter Tryz.func17, Tryz.ntmps17
    go_wp2_with fail
    refine (HC1.out _).mono ?_
    rintro e w1 ⟨rfl, hb9⟩
    have X := Lib.hid (X.out.next hb9)
    clear hb9
    clear a0 a1 a2 a3
    obtain ⟨a0, a1, a2, a3⟩ := X.out.c4 (i := 0) rfl
    go_wp2_with fail
    refine (HC2.out _).mono ?_
    rintro e w2 ⟨rfl, hb9⟩
    have X := Lib.hid (X.out.next hb9)
    clear hb9
    clear a0 a1 a2 a3
    go_wp2
    go_ret
    exact ⟨rfl, X.out.bel⟩
  · rw [checkV_of h1] at HC1
    rw [checkV_of h2] at HC2
    clear h1 h2 hno
    subst h3
    have HI := Lib.hid (fun V => isInteger_neg b m k V)
    have X := Lib.hid ((Sb.start w).new #[.bool b, .string m, .bool true, .string k] 25)
    have X := Lib.hid (X.out.pick [0] [(w.heap.size, #[.bool b, .string m, .bool true, .string k], 25)] [] (by simp) (by decide) (by simp))
    obtain ⟨a0, a1, a2, a3⟩ := X.out.c4 (i := 0) rfl
    go_enter Tryz.func17, Tryz.ntmps17
    go_wp2_with fail
    refine (HC1.out _).mono ?_
    rintro e w1 ⟨rfl, hb9⟩
    have X := Lib.hid (X.out.next hb9)
    clear hb9
    clear a0 a1 a2 a3
    obtain ⟨a0, a1, a2, a3⟩ := X.out.c4 (i := 0) rfl
    go_wp2_with fail
    refine (HC2.out _).mono ?_
    rintro e w2 ⟨rfl, hb9⟩
    have X := Lib.hid (X.out.next hb9)
    clear hb9
    clear a0 a1 a2 a3
    obtain ⟨a0, a1, a2, a3⟩ := X.out.c4 (i := 0) rfl
    go_wp2_with fail
    refine (HI.out _).mono ?_
    rintro e w3 ⟨rfl, hb9⟩
    have X := Lib.hid (X.out.next hb9)
    clear hb9
    clear a0 a1 a2 a3
    go_upto_region 5 with fail
    refine wp_region_late (S := fun w' => (w'.cell? ⟨w.heap.size, 0, none⟩ = some (.bool b) ∧ w'.cell? ⟨w.heap.size, 1, none⟩ = some (.string m) ∧ w'.cell? ⟨w.heap.size, 2, none⟩ = some (.bool true) ∧ w'.cell? ⟨w.heap.size, 3, none⟩ = some (.string k)) ∧ (w'.cell? ⟨0, 0, none⟩ = some (.bool false) ∧ w'.cell? ⟨0, 1, none⟩ = some (.string ⟨#[1]⟩))) (L := []) (by kernel_rfl) ?_
    have X := Lib.hid X.out.drew
    obtain ⟨V0, hV⟩ := wexi X.out
    rw [← hV] at X ⊢
    clear hV
    refine tk (i := 0) (oi := ⟨some 18, _, _, _, _, _⟩) (v := _) rfl (by kernel_rfl) (fun _ _ _ h => h) (⟨X.out.c4 (i := 0) rfl, ⟨(HE.out _ X.out.bel).o0, (HE.out _ X.out.bel).o1⟩⟩) (Or.inl ⟨by rfl, by intro w hSw; (try dsimp only at hSw); (first | (go_simp; done) | (go_simp; with_reducible rfl))⟩) ?_
    try simp only [Act.put, seti, set0, setS]
    refine tk (i := 1) (oi := ⟨some 19, _, _, _, _, _⟩) (v := _) rfl (by kernel_rfl) (fun _ _ _ h => h) (⟨X.out.c4 (i := 0) rfl, ⟨(HE.out _ X.out.bel).o0, (HE.out _ X.out.bel).o1⟩⟩) (Or.inl ⟨by rfl, by intro w hSw; (try dsimp only at hSw); (first | (go_simp; done) | (go_simp; with_reducible rfl))⟩) ?_
    try simp only [Act.put, seti, set0, setS]
    refine tk (i := 2) (oi := ⟨some 20, _, _, _, _, _⟩) (v := _) rfl (by kernel_rfl) (fun _ _ _ h => h) (⟨X.out.c4 (i := 0) rfl, ⟨(HE.out _ X.out.bel).o0, (HE.out _ X.out.bel).o1⟩⟩) (Or.inl ⟨by rfl, by intro w hSw; (try dsimp only at hSw); (first | (go_simp; done) | (go_simp; with_reducible rfl))⟩) ?_
    try simp only [Act.put, seti, set0, setS]
    refine tk (i := 3) (oi := ⟨some 21, _, _, _, _, _⟩) (v := _) rfl (by kernel_rfl) (fun _ _ _ h => h) (⟨X.out.c4 (i := 0) rfl, ⟨(HE.out _ X.out.bel).o0, (HE.out _ X.out.bel).o1⟩⟩) (Or.inl ⟨by rfl, by intro w hSw; (try dsimp only at hSw); (first | (go_simp; done) | (go_simp; with_reducible rfl))⟩) ?_
    try simp only [Act.put, seti, set0, setS]
    refine tk (i := 4) (oi := ⟨some 22, _, _, _, _, _⟩) (v := undef) rfl (by kernel_rfl) (fun _ _ _ h => h) (⟨X.out.c4 (i := 0) rfl, ⟨(HE.out _ X.out.bel).o0, (HE.out _ X.out.bel).o1⟩⟩) (Or.inr ⟨by rfl, rfl⟩) ?_
    try simp only [Act.put, seti, set0, setS]
    refine tk (i := 5) (oi := ⟨some 23, _, _, _, _, _⟩) (v := undef) rfl (by kernel_rfl) (fun _ _ _ h => h) (⟨X.out.c4 (i := 0) rfl, ⟨(HE.out _ X.out.bel).o0, (HE.out _ X.out.bel).o1⟩⟩) (Or.inr ⟨by rfl, rfl⟩) ?_
    try simp only [Act.put, seti, set0, setS]
    refine tk (i := 6) (oi := ⟨some 24, _, _, _, _, _⟩) (v := undef) rfl (by kernel_rfl) (fun _ _ _ h => h) (⟨X.out.c4 (i := 0) rfl, ⟨(HE.out _ X.out.bel).o0, (HE.out _ X.out.bel).o1⟩⟩) (Or.inr ⟨by rfl, rfl⟩) ?_
    try simp only [Act.put, seti, set0, setS]
    refine tk (i := 7) (oi := ⟨some 25, _, _, _, _, _⟩) (v := undef) rfl (by kernel_rfl) (fun _ _ _ h => h) (⟨X.out.c4 (i := 0) rfl, ⟨(HE.out _ X.out.bel).o0, (HE.out _ X.out.bel).o1⟩⟩) (Or.inr ⟨by rfl, rfl⟩) ?_
    try simp only [Act.put, seti, set0, setS]
    refine tk (i := 8) (oi := ⟨some 26, _, _, _, _, _⟩) (v := _) rfl (by kernel_rfl) (fun _ _ _ h => h) (⟨X.out.c4 (i := 0) rfl, ⟨(HE.out _ X.out.bel).o0, (HE.out _ X.out.bel).o1⟩⟩) (Or.inl ⟨by rfl, by intro w hSw; (try dsimp only at hSw); (first | (go_simp; done) | (go_simp; with_reducible rfl))⟩) ?_
    try simp only [Act.put, seti, set0, setS]
    refine tk (i := 9) (oi := ⟨some 27, _, _, _, _, _⟩) (v := _) rfl (by kernel_rfl) (fun _ _ _ h => h) (⟨X.out.c4 (i := 0) rfl, ⟨(HE.out _ X.out.bel).o0, (HE.out _ X.out.bel).o1⟩⟩) (Or.inl ⟨by rfl, by intro w hSw; (try dsimp only at hSw); (first | (go_simp; done) | (go_simp; with_reducible rfl))⟩) ?_
    try simp only [Act.put, seti, set0, setS]
    refine tk (i := 10) (oi := ⟨some 28, _, _, _, _, _⟩) (v := undef) rfl (by kernel_rfl) (fun _ _ _ h => h) (⟨X.out.c4 (i := 0) rfl, ⟨(HE.out _ X.out.bel).o0, (HE.out _ X.out.bel).o1⟩⟩) (Or.inr ⟨by rfl, rfl⟩) ?_
    try simp only [Act.put, seti, set0, setS]
    refine tk (i := 11) (oi := ⟨some 29, _, _, _, _, _⟩) (v := undef) rfl (by kernel_rfl) (fun _ _ _ h => h) (⟨X.out.c4 (i := 0) rfl, ⟨(HE.out _ X.out.bel).o0, (HE.out _ X.out.bel).o1⟩⟩) (Or.inr ⟨by rfl, rfl⟩) ?_
    try simp only [Act.put, seti, set0, setS]
    refine tk (i := 12) (oi := ⟨some 30, _, _, _, _, _⟩) (v := undef) rfl (by kernel_rfl) (fun _ _ _ h => h) (⟨X.out.c4 (i := 0) rfl, ⟨(HE.out _ X.out.bel).o0, (HE.out _ X.out.bel).o1⟩⟩) (Or.inr ⟨by rfl, rfl⟩) ?_
    try simp only [Act.put, seti, set0, setS]
    refine tk (i := 13) (oi := ⟨some 31, _, _, _, _, _⟩) (v := undef) rfl (by kernel_rfl) (fun _ _ _ h => h) (⟨X.out.c4 (i := 0) rfl, ⟨(HE.out _ X.out.bel).o0, (HE.out _ X.out.bel).o1⟩⟩) (Or.inr ⟨by rfl, rfl⟩) ?_
    try simp only [Act.put, seti, set0, setS]
    refine tk (i := 14) (oi := ⟨some 32, _, _, _, _, _⟩) (v := undef) rfl (by kernel_rfl) (fun _ _ _ h => h) (⟨X.out.c4 (i := 0) rfl, ⟨(HE.out _ X.out.bel).o0, (HE.out _ X.out.bel).o1⟩⟩) (Or.inr ⟨by rfl, rfl⟩) ?_
    try simp only [Act.put, seti, set0, setS]
    refine tk (i := 15) (oi := ⟨some 33, _, _, _, _, _⟩) (v := undef) rfl (by kernel_rfl) (fun _ _ _ h => h) (⟨X.out.c4 (i := 0) rfl, ⟨(HE.out _ X.out.bel).o0, (HE.out _ X.out.bel).o1⟩⟩) (Or.inr ⟨by rfl, rfl⟩) ?_
    try simp only [Act.put, seti, set0, setS]
    refine tk (i := 16) (oi := ⟨some 34, _, _, _, _, _⟩) (v := undef) rfl (by kernel_rfl) (fun _ _ _ h => h) (⟨X.out.c4 (i := 0) rfl, ⟨(HE.out _ X.out.bel).o0, (HE.out _ X.out.bel).o1⟩⟩) (Or.inr ⟨by rfl, rfl⟩) ?_
    try simp only [Act.put, seti, set0, setS]
    refine tk (i := 17) (oi := ⟨some 35, _, _, _, _, _⟩) (v := _) rfl (by kernel_rfl) (fun _ _ _ h => h) (⟨X.out.c4 (i := 0) rfl, ⟨(HE.out _ X.out.bel).o0, (HE.out _ X.out.bel).o1⟩⟩) (Or.inl ⟨by rfl, by intro w hSw; (try dsimp only at hSw); (first | (go_simp; done) | (go_simp; with_reducible rfl))⟩) ?_
    try simp only [Act.put, seti, set0, setS]
    refine tk (i := 18) (oi := ⟨some 17, _, _, _, _, _⟩) (v := _) rfl (by kernel_rfl) (fun _ _ _ h => h) (⟨X.out.c4 (i := 0) rfl, ⟨(HE.out _ X.out.bel).o0, (HE.out _ X.out.bel).o1⟩⟩) (Or.inl ⟨by rfl, by intro w hSw; (try dsimp only at hSw); (first | (go_simp; done) | (go_simp; with_reducible rfl))⟩) ?_
    try simp only [Act.put, seti, set0, setS]
    refine wpLate_done (by kernel_rfl) ?_ _
    go_wp2
    go_ret
    exact ⟨rfl, X.out.bel⟩
  · rw [checkV_of h1] at HC1
    rw [checkV_of h2] at HC2
    subst h3
    have HI := Lib.hid (fun V => isInteger_no b m k (by rw [h4]; exact fun h => by cases h) V)
    have hl1 : k.toList = [1] := by rw [h4, ByteArray.toList_eq]
    clear h1 h2 hno h4
    have X := Lib.hid ((Sb.start w).new #[.bool b, .string m, .bool false, .string k] 25)
    have X := Lib.hid (X.out.pick [0] [(w.heap.size, #[.bool b, .string m, .bool false, .string k], 25)] [] (by simp) (by decide) (by simp))
    obtain ⟨a0, a1, a2, a3⟩ := X.out.c4 (i := 0) rfl
    go_enter Tryz.func17, Tryz.ntmps17
    go_wp2_with fail
    refine (HC1.out _).mono ?_
    rintro e w1 ⟨rfl, hb9⟩
    have X := Lib.hid (X.out.next hb9)
    clear hb9
    clear a0 a1 a2 a3
    obtain ⟨a0, a1, a2, a3⟩ := X.out.c4 (i := 0) rfl
    go_wp2_with fail
    refine (HC2.out _).mono ?_
    rintro e w2 ⟨rfl, hb9⟩
    have X := Lib.hid (X.out.next hb9)
    clear hb9
    clear a0 a1 a2 a3
    obtain ⟨a0, a1, a2, a3⟩ := X.out.c4 (i := 0) rfl
    go_wp2_with fail
    refine (HI.out _).mono ?_
    rintro e w3 ⟨rfl, hb9⟩
    have X := Lib.hid (X.out.next hb9)
    clear hb9
    clear a0 a1 a2 a3
    go_upto_region 5 with fail
    refine wp_region_late (S := fun w' => (w'.cell? ⟨w.heap.size, 0, none⟩ = some (.bool b) ∧ w'.cell? ⟨w.heap.size, 1, none⟩ = some (.string m) ∧ w'.cell? ⟨w.heap.size, 2, none⟩ = some (.bool false) ∧ w'.cell? ⟨w.heap.size, 3, none⟩ = some (.string k)) ∧ (w'.cell? ⟨0, 0, none⟩ = some (.bool false) ∧ w'.cell? ⟨0, 1, none⟩ = some (.string ⟨#[1]⟩))) (L := []) (by kernel_rfl) ?_
    have X := Lib.hid X.out.drew
    obtain ⟨V0, hV⟩ := wexi X.out
    rw [← hV] at X ⊢
    clear hV
    refine tk (i := 0) (oi := ⟨some 18, _, _, _, _, _⟩) (v := _) rfl (by kernel_rfl) (fun _ _ _ h => h) (⟨X.out.c4 (i := 0) rfl, ⟨(HE.out _ X.out.bel).o0, (HE.out _ X.out.bel).o1⟩⟩) (Or.inl ⟨by rfl, by intro w hSw; (try dsimp only at hSw); (first | (go_simp; done) | (go_simp; with_reducible rfl))⟩) ?_
    try simp only [Act.put, seti, set0, setS]
    refine tk (i := 1) (oi := ⟨some 19, _, _, _, _, _⟩) (v := _) rfl (by kernel_rfl) (fun _ _ _ h => h) (⟨X.out.c4 (i := 0) rfl, ⟨(HE.out _ X.out.bel).o0, (HE.out _ X.out.bel).o1⟩⟩) (Or.inl ⟨by rfl, by intro w hSw; (try dsimp only at hSw); (first | (go_simp; done) | (go_simp; with_reducible rfl))⟩) ?_
    try simp only [Act.put, seti, set0, setS]
    refine tk (i := 2) (oi := ⟨some 20, _, _, _, _, _⟩) (v := _) rfl (by kernel_rfl) (fun _ _ _ h => h) (⟨X.out.c4 (i := 0) rfl, ⟨(HE.out _ X.out.bel).o0, (HE.out _ X.out.bel).o1⟩⟩) (Or.inl ⟨by rfl, by intro w hSw; (try dsimp only at hSw); (first | (go_simp; done) | (go_simp; with_reducible rfl))⟩) ?_
    try simp only [Act.put, seti, set0, setS]
    refine tk (i := 3) (oi := ⟨some 21, _, _, _, _, _⟩) (v := _) rfl (by kernel_rfl) (fun _ _ _ h => h) (⟨X.out.c4 (i := 0) rfl, ⟨(HE.out _ X.out.bel).o0, (HE.out _ X.out.bel).o1⟩⟩) (Or.inl ⟨by rfl, by intro w hSw; (try dsimp only at hSw); (first | (go_simp; done) | (go_simp; with_reducible rfl))⟩) ?_
    try simp only [Act.put, seti, set0, setS]
    refine tk (i := 4) (oi := ⟨some 22, _, _, _, _, _⟩) (v := _) rfl (by kernel_rfl) (fun _ _ _ h => h) (⟨X.out.c4 (i := 0) rfl, ⟨(HE.out _ X.out.bel).o0, (HE.out _ X.out.bel).o1⟩⟩) (Or.inl ⟨by rfl, by intro w hSw; (try dsimp only at hSw); (first | (go_simp; done) | (go_simp; with_reducible rfl))⟩) ?_
    try simp only [Act.put, seti, set0, setS]
    refine tk (i := 5) (oi := ⟨some 23, _, _, _, _, _⟩) (v := _) rfl (by kernel_rfl) (fun _ _ _ h => h) (⟨X.out.c4 (i := 0) rfl, ⟨(HE.out _ X.out.bel).o0, (HE.out _ X.out.bel).o1⟩⟩) (Or.inl ⟨by rfl, by intro w hSw; (try dsimp only at hSw); (first | (go_simp; done) | (go_simp; with_reducible rfl))⟩) ?_
    try simp only [Act.put, seti, set0, setS]
    refine tk (i := 6) (oi := ⟨some 24, _, _, _, _, _⟩) (v := _) rfl (by kernel_rfl) (fun _ _ _ h => h) (⟨X.out.c4 (i := 0) rfl, ⟨(HE.out _ X.out.bel).o0, (HE.out _ X.out.bel).o1⟩⟩) (Or.inl ⟨by rfl, by intro w hSw; (try dsimp only at hSw); (first | (go_simp; done) | (go_simp; with_reducible rfl))⟩) ?_
    try simp only [Act.put, seti, set0, setS]
    refine tk (i := 7) (oi := ⟨some 25, _, _, _, _, _⟩) (v := _) rfl (by kernel_rfl) (fun _ _ _ h => h) (⟨X.out.c4 (i := 0) rfl, ⟨(HE.out _ X.out.bel).o0, (HE.out _ X.out.bel).o1⟩⟩) (Or.inl ⟨by rfl, by intro w hSw; (try dsimp only at hSw); (first | (go_simp; done) | (go_simp; with_reducible rfl))⟩) ?_
    try simp only [Act.put, seti, set0, setS]
    refine tk (i := 8) (oi := ⟨some 26, _, _, _, _, _⟩) (v := _) rfl (by kernel_rfl) (fun _ _ _ h => h) (⟨X.out.c4 (i := 0) rfl, ⟨(HE.out _ X.out.bel).o0, (HE.out _ X.out.bel).o1⟩⟩) (Or.inl ⟨by rfl, by intro w hSw; (try dsimp only at hSw); (first | (go_simp; done) | (go_simp; with_reducible rfl))⟩) ?_
    try simp only [Act.put, seti, set0, setS]
    refine tk (i := 9) (oi := ⟨some 27, _, _, _, _, _⟩) (v := _) rfl (by kernel_rfl) (fun _ _ _ h => h) (⟨X.out.c4 (i := 0) rfl, ⟨(HE.out _ X.out.bel).o0, (HE.out _ X.out.bel).o1⟩⟩) (Or.inl ⟨by rfl, by intro w hSw; (try dsimp only at hSw); (first | (go_simp; done) | (go_simp; with_reducible rfl))⟩) ?_
    try simp only [Act.put, seti, set0, setS]
    refine tk (i := 10) (oi := ⟨some 28, _, _, _, _, _⟩) (v := undef) rfl (by kernel_rfl) (fun _ _ _ h => h) (⟨X.out.c4 (i := 0) rfl, ⟨(HE.out _ X.out.bel).o0, (HE.out _ X.out.bel).o1⟩⟩) (Or.inr ⟨by rfl, rfl⟩) ?_
    try simp only [Act.put, seti, set0, setS]
    refine tk (i := 11) (oi := ⟨some 29, _, _, _, _, _⟩) (v := undef) rfl (by kernel_rfl) (fun _ _ _ h => h) (⟨X.out.c4 (i := 0) rfl, ⟨(HE.out _ X.out.bel).o0, (HE.out _ X.out.bel).o1⟩⟩) (Or.inr ⟨by rfl, rfl⟩) ?_
    try simp only [Act.put, seti, set0, setS]
    refine tk (i := 12) (oi := ⟨some 30, _, _, _, _, _⟩) (v := undef) rfl (by kernel_rfl) (fun _ _ _ h => h) (⟨X.out.c4 (i := 0) rfl, ⟨(HE.out _ X.out.bel).o0, (HE.out _ X.out.bel).o1⟩⟩) (Or.inr ⟨by rfl, rfl⟩) ?_
    try simp only [Act.put, seti, set0, setS]
    refine tk (i := 13) (oi := ⟨some 31, _, _, _, _, _⟩) (v := undef) rfl (by kernel_rfl) (fun _ _ _ h => h) (⟨X.out.c4 (i := 0) rfl, ⟨(HE.out _ X.out.bel).o0, (HE.out _ X.out.bel).o1⟩⟩) (Or.inr ⟨by rfl, rfl⟩) ?_
    try simp only [Act.put, seti, set0, setS]
    refine tk (i := 14) (oi := ⟨some 32, _, _, _, _, _⟩) (v := undef) rfl (by kernel_rfl) (fun _ _ _ h => h) (⟨X.out.c4 (i := 0) rfl, ⟨(HE.out _ X.out.bel).o0, (HE.out _ X.out.bel).o1⟩⟩) (Or.inr ⟨by rfl, rfl⟩) ?_
    try simp only [Act.put, seti, set0, setS]
    refine tk (i := 15) (oi := ⟨some 33, _, _, _, _, _⟩) (v := undef) rfl (by kernel_rfl) (fun _ _ _ h => h) (⟨X.out.c4 (i := 0) rfl, ⟨(HE.out _ X.out.bel).o0, (HE.out _ X.out.bel).o1⟩⟩) (Or.inr ⟨by rfl, rfl⟩) ?_
    try simp only [Act.put, seti, set0, setS]
    refine tk (i := 16) (oi := ⟨some 34, _, _, _, _, _⟩) (v := undef) rfl (by kernel_rfl) (fun _ _ _ h => h) (⟨X.out.c4 (i := 0) rfl, ⟨(HE.out _ X.out.bel).o0, (HE.out _ X.out.bel).o1⟩⟩) (Or.inr ⟨by rfl, rfl⟩) ?_
    try simp only [Act.put, seti, set0, setS]
    refine tk (i := 17) (oi := ⟨some 35, _, _, _, _, _⟩) (v := _) rfl (by kernel_rfl) (fun _ _ _ h => h) (⟨X.out.c4 (i := 0) rfl, ⟨(HE.out _ X.out.bel).o0, (HE.out _ X.out.bel).o1⟩⟩) (Or.inl ⟨by rfl, by intro w hSw; (try dsimp only at hSw); (first | (go_simp; done) | (go_simp; with_reducible rfl))⟩) ?_
    try simp only [Act.put, seti, set0, setS]
    refine tk (i := 18) (oi := ⟨some 17, _, _, _, _, _⟩) (v := _) rfl (by kernel_rfl) (fun _ _ _ h => h) (⟨X.out.c4 (i := 0) rfl, ⟨(HE.out _ X.out.bel).o0, (HE.out _ X.out.bel).o1⟩⟩) (Or.inl ⟨by rfl, by intro w hSw; (try dsimp only at hSw); (first | (go_simp; done) | (go_simp; with_reducible rfl))⟩) ?_
    try simp only [Act.put, seti, set0, setS]
    refine wpLate_done (by kernel_rfl) ?_ _
    go_wp2
    go_ret
    exact ⟨rfl, X.out.bel⟩
  · rw [checkV_of (canon_yes hx)] at HC1
    subst h3
    have hyd : enc ((d : Nat) : Int) = .agg #[.bool false, .string k] := by rw [h4]; exact enc_mag d
    rw [checkV_of (canon_yes hyd)] at HC2
    have HI := Lib.hid (fun V => isInteger_no b m k (by rw [h4]; exact mag_no_nil (by omega)) V)
    have hkn := toList_ne (l := [1]) (show k ≠ ⟨#[1]⟩ from by rw [h4]; exact mag_no_one (by omega))
    have hkn2 : ¬ [1] = k.toList := fun e => hkn e.symm
    have HG := Lib.hid (fun V (hV : Env V) => gcd_f hx hyd (bg := false) (mg := mag (Nat.gcd x.natAbs d)) (by rw [Int.natAbs_natCast]; exact enc_mag _) (by omega) (by omega) V hV.tab)
    have hgn := toList_ne (l := [1]) (mag_no_one h6)
    have hgn2 : ¬ [1] = (mag (Nat.gcd x.natAbs d)).toList := fun e => hgn e.symm
    generalize mag (Nat.gcd x.natAbs d) = mg at *
    clear hno h4 h5 h6 hx hyd
    have X := Lib.hid ((Sb.start w).new #[.bool b, .string m, .bool false, .string k] 25)
    have X := Lib.hid (X.out.pick [0] [(w.heap.size, #[.bool b, .string m, .bool false, .string k], 25)] [] (by simp) (by decide) (by simp))
    obtain ⟨a0, a1, a2, a3⟩ := X.out.c4 (i := 0) rfl
    go_enter Tryz.func17, Tryz.ntmps17
    go_wp2_with fail
    refine (HC1.out _).mono ?_
    rintro e w1 ⟨rfl, hb9⟩
    have X := Lib.hid (X.out.next hb9)
    clear hb9
    clear a0 a1 a2 a3
    obtain ⟨a0, a1, a2, a3⟩ := X.out.c4 (i := 0) rfl
    go_wp2_with fail
    refine (HC2.out _).mono ?_
    rintro e w2 ⟨rfl, hb9⟩
    have X := Lib.hid (X.out.next hb9)
    clear hb9
    clear a0 a1 a2 a3
    obtain ⟨a0, a1, a2, a3⟩ := X.out.c4 (i := 0) rfl
    go_wp2_with fail
    refine (HI.out _).mono ?_
    rintro e w3 ⟨rfl, hb9⟩
    have X := Lib.hid (X.out.next hb9)
    clear hb9
    clear a0 a1 a2 a3
    go_upto_region 5 with fail
    refine wp_region_late (S := fun w' => (w'.cell? ⟨w.heap.size, 0, none⟩ = some (.bool b) ∧ w'.cell? ⟨w.heap.size, 1, none⟩ = some (.string m) ∧ w'.cell? ⟨w.heap.size, 2, none⟩ = some (.bool false) ∧ w'.cell? ⟨w.heap.size, 3, none⟩ = some (.string k)) ∧ (w'.cell? ⟨0, 0, none⟩ = some (.bool false) ∧ w'.cell? ⟨0, 1, none⟩ = some (.string ⟨#[1]⟩))) (L := []) (by kernel_rfl) ?_
    have X := Lib.hid X.out.drew
    obtain ⟨V0, hV⟩ := wexi X.out
    rw [← hV] at X ⊢
    clear hV
    refine tk (i := 0) (oi := ⟨some 18, _, _, _, _, _⟩) (v := _) rfl (by kernel_rfl) (fun _ _ _ h => h) (⟨X.out.c4 (i := 0) rfl, ⟨(HE.out _ X.out.bel).o0, (HE.out _ X.out.bel).o1⟩⟩) (Or.inl ⟨by rfl, by intro w hSw; (try dsimp only at hSw); (first | (go_simp; done) | (go_simp; with_reducible rfl))⟩) ?_
    try simp only [Act.put, seti, set0, setS]
    refine tk (i := 1) (oi := ⟨some 19, _, _, _, _, _⟩) (v := _) rfl (by kernel_rfl) (fun _ _ _ h => h) (⟨X.out.c4 (i := 0) rfl, ⟨(HE.out _ X.out.bel).o0, (HE.out _ X.out.bel).o1⟩⟩) (Or.inl ⟨by rfl, by intro w hSw; (try dsimp only at hSw); (first | (go_simp; done) | (go_simp; with_reducible rfl))⟩) ?_
    try simp only [Act.put, seti, set0, setS]
    refine tk (i := 2) (oi := ⟨some 20, _, _, _, _, _⟩) (v := _) rfl (by kernel_rfl) (fun _ _ _ h => h) (⟨X.out.c4 (i := 0) rfl, ⟨(HE.out _ X.out.bel).o0, (HE.out _ X.out.bel).o1⟩⟩) (Or.inl ⟨by rfl, by intro w hSw; (try dsimp only at hSw); (first | (go_simp; done) | (go_simp; with_reducible rfl))⟩) ?_
    try simp only [Act.put, seti, set0, setS]
    refine tk (i := 3) (oi := ⟨some 21, _, _, _, _, _⟩) (v := _) rfl (by kernel_rfl) (fun _ _ _ h => h) (⟨X.out.c4 (i := 0) rfl, ⟨(HE.out _ X.out.bel).o0, (HE.out _ X.out.bel).o1⟩⟩) (Or.inl ⟨by rfl, by intro w hSw; (try dsimp only at hSw); (first | (go_simp; done) | (go_simp; with_reducible rfl))⟩) ?_
    try simp only [Act.put, seti, set0, setS]
    refine tk (i := 4) (oi := ⟨some 22, _, _, _, _, _⟩) (v := _) rfl (by kernel_rfl) (fun _ _ _ h => h) (⟨X.out.c4 (i := 0) rfl, ⟨(HE.out _ X.out.bel).o0, (HE.out _ X.out.bel).o1⟩⟩) (Or.inl ⟨by rfl, by intro w hSw; (try dsimp only at hSw); (first | (go_simp; done) | (go_simp; with_reducible rfl))⟩) ?_
    try simp only [Act.put, seti, set0, setS]
    refine tk (i := 5) (oi := ⟨some 23, _, _, _, _, _⟩) (v := _) rfl (by kernel_rfl) (fun _ _ _ h => h) (⟨X.out.c4 (i := 0) rfl, ⟨(HE.out _ X.out.bel).o0, (HE.out _ X.out.bel).o1⟩⟩) (Or.inl ⟨by rfl, by intro w hSw; (try dsimp only at hSw); (first | (go_simp; done) | (go_simp; with_reducible rfl))⟩) ?_
    try simp only [Act.put, seti, set0, setS]
    refine tk (i := 6) (oi := ⟨some 24, _, _, _, _, _⟩) (v := _) rfl (by kernel_rfl) (fun _ _ _ h => h) (⟨X.out.c4 (i := 0) rfl, ⟨(HE.out _ X.out.bel).o0, (HE.out _ X.out.bel).o1⟩⟩) (Or.inl ⟨by rfl, by intro w hSw; (try dsimp only at hSw); (first | (go_simp; done) | (go_simp; with_reducible rfl))⟩) ?_
    try simp only [Act.put, seti, set0, setS]
    refine tk (i := 7) (oi := ⟨some 25, _, _, _, _, _⟩) (v := _) rfl (by kernel_rfl) (fun _ _ _ h => h) (⟨X.out.c4 (i := 0) rfl, ⟨(HE.out _ X.out.bel).o0, (HE.out _ X.out.bel).o1⟩⟩) (Or.inl ⟨by rfl, by intro w hSw; (try dsimp only at hSw); (first | (go_simp; done) | (go_simp; with_reducible rfl))⟩) ?_
    try simp only [Act.put, seti, set0, setS]
    refine tk (i := 8) (oi := ⟨some 26, _, _, _, _, _⟩) (v := _) rfl (by kernel_rfl) (fun _ _ _ h => h) (⟨X.out.c4 (i := 0) rfl, ⟨(HE.out _ X.out.bel).o0, (HE.out _ X.out.bel).o1⟩⟩) (Or.inl ⟨by rfl, by intro w hSw; (try dsimp only at hSw); (first | (go_simp; done) | (go_simp; with_reducible rfl))⟩) ?_
    try simp only [Act.put, seti, set0, setS]
    refine tk (i := 9) (oi := ⟨some 27, _, _, _, _, _⟩) (v := _) rfl (by kernel_rfl) (fun _ _ _ h => h) (⟨X.out.c4 (i := 0) rfl, ⟨(HE.out _ X.out.bel).o0, (HE.out _ X.out.bel).o1⟩⟩) (Or.inl ⟨by rfl, by intro w hSw; (try dsimp only at hSw); (first | (go_simp; done) | (go_simp; with_reducible rfl))⟩) ?_
    try simp only [Act.put, seti, set0, setS]
    refine tk (i := 10) (oi := ⟨some 28, _, _, _, _, _⟩) (v := _) rfl (by kernel_rfl) (fun _ _ _ h => h) (⟨X.out.c4 (i := 0) rfl, ⟨(HE.out _ X.out.bel).o0, (HE.out _ X.out.bel).o1⟩⟩) (Or.inl ⟨by rfl, by intro w hSw; (try dsimp only at hSw); (first | (go_simp; done) | (go_simp; with_reducible rfl))⟩) ?_
    try simp only [Act.put, seti, set0, setS]
    refine tk (i := 11) (oi := ⟨some 29, _, _, _, _, _⟩) (v := _) rfl (by kernel_rfl) (fun _ _ _ h => h) (⟨X.out.c4 (i := 0) rfl, ⟨(HE.out _ X.out.bel).o0, (HE.out _ X.out.bel).o1⟩⟩) (Or.inl ⟨by rfl, by intro w hSw; (try dsimp only at hSw); (first | (go_simp; done) | (go_simp; with_reducible rfl))⟩) ?_
    try simp only [Act.put, seti, set0, setS]
    refine tk (i := 12) (oi := ⟨some 30, _, _, _, _, _⟩) (v := _) rfl (by kernel_rfl) (fun _ _ _ h => h) (⟨X.out.c4 (i := 0) rfl, ⟨(HE.out _ X.out.bel).o0, (HE.out _ X.out.bel).o1⟩⟩) (Or.inl ⟨by rfl, by intro w hSw; (try dsimp only at hSw); (first | (go_simp; done) | (go_simp; with_reducible rfl))⟩) ?_
    try simp only [Act.put, seti, set0, setS]
    refine tk (i := 13) (oi := ⟨some 31, _, _, _, _, _⟩) (v := _) rfl (by kernel_rfl) (fun _ _ _ h => h) (⟨X.out.c4 (i := 0) rfl, ⟨(HE.out _ X.out.bel).o0, (HE.out _ X.out.bel).o1⟩⟩) (Or.inl ⟨by rfl, by intro w hSw; (try dsimp only at hSw); (first | (go_simp; done) | (go_simp; with_reducible rfl))⟩) ?_
    try simp only [Act.put, seti, set0, setS]
    refine tk (i := 15) (oi := ⟨some 33, _, _, _, _, _⟩) (v := _) rfl (by kernel_rfl) (fun _ _ _ h => h) (⟨X.out.c4 (i := 0) rfl, ⟨(HE.out _ X.out.bel).o0, (HE.out _ X.out.bel).o1⟩⟩) (Or.inl ⟨by rfl, by intro w hSw; (try dsimp only at hSw); (first | (go_simp; done) | (go_simp; with_reducible rfl))⟩) ?_
    try simp only [Act.put, seti, set0, setS]
    refine wpLate_one (i := 14) (o := ⟨some 32, _, _, _, _, _⟩) (by kernel_rfl) rfl (fun K hK => ?_)
    go_simp
    (go_at_call 62; refine (HG.out _ (HE.out _ X.out.bel)).mono ?_; rintro e u1 ⟨rfl, hb9⟩; have X := Lib.hid (X.out.next hb9); clear hb9)
    try go_wp2_with fail
    refine hK.out _ _ (Or.inr (fun _ => ⟨X.out.c4 (i := 0) rfl, ⟨(HE.out _ X.out.bel).o0, (HE.out _ X.out.bel).o1⟩⟩)) ?_
    clear hK K
    try simp only [Act.put, seti, set0, setS]
    refine tk (i := 16) (oi := ⟨some 34, _, _, _, _, _⟩) (v := _) rfl (by kernel_rfl) (fun _ _ _ h => h) (⟨X.out.c4 (i := 0) rfl, ⟨(HE.out _ X.out.bel).o0, (HE.out _ X.out.bel).o1⟩⟩) (Or.inl ⟨by rfl, by intro w hSw; (try dsimp only at hSw); (first | (go_simp; done) | (go_simp; with_reducible rfl))⟩) ?_
    try simp only [Act.put, seti, set0, setS]
    refine tk (i := 17) (oi := ⟨some 35, _, _, _, _, _⟩) (v := _) rfl (by kernel_rfl) (fun _ _ _ h => h) (⟨X.out.c4 (i := 0) rfl, ⟨(HE.out _ X.out.bel).o0, (HE.out _ X.out.bel).o1⟩⟩) (Or.inl ⟨by rfl, by intro w hSw; (try dsimp only at hSw); (first | (go_simp; done) | (go_simp; with_reducible rfl))⟩) ?_
    try simp only [Act.put, seti, set0, setS]
    refine tk (i := 18) (oi := ⟨some 17, _, _, _, _, _⟩) (v := _) rfl (by kernel_rfl) (fun _ _ _ h => h) (⟨X.out.c4 (i := 0) rfl, ⟨(HE.out _ X.out.bel).o0, (HE.out _ X.out.bel).o1⟩⟩) (Or.inl ⟨by rfl, by intro w hSw; (try dsimp only at hSw); (first | (go_simp; done) | (go_simp; with_reducible rfl))⟩) ?_
    try simp only [Act.put, seti, set0, setS]
    refine wpLate_done (by kernel_rfl) ?_ _
    go_wp2
    go_ret
    exact ⟨rfl, X.out.bel⟩
end Go.Proofs.YtahehlajpaoiiaaGreatDoor


/-
  Is a fraction canonical? The second reference's Check, of whatever fraction.
-/
namespace Go.Proofs.YtahehlajpaoiiaaGreatDoor
open Go.RowKit
attribute [local go_sem ↓] Go.wp_at_zero Go.wp_at_succ
attribute [local go_sem] undef yielded

set_option maxHeartbeats 16000000 in
set_option maxRecDepth 100000 in
theorem rCheck_no (b : Bool) (m : ByteArray) (c : Bool) (k : ByteArray) (s1 : m.size ≤ 100000) (s2 : k.size ≤ 100000) (hno : ¬ (c = false ∧ ∃ q, Rq q b m k)) (w : World) :
    Calls Tryz.prog 16 #[.agg #[.bool b, .string m, .bool c, .string k]] w (RetB w (.bool false)) := by
  have HC1 := Lib.hid (fun V => isInt_any b m V)
  have HC2 := Lib.hid (fun V => isInt_any c k V)
  rcases rq_cases b m c k with h | h | ⟨h1, h2⟩ | ⟨h1, h2, h3⟩ | ⟨h1, h2, h3, h4⟩ | ⟨x, d, hx, h3, h4, h5, h6⟩
  · exact absurd h hno
  · rw [h] at HC1
    clear h hno
    have X := Lib.hid ((Sb.start w).new #[.bool b, .string m, .bool c, .string k] 25)
    have X := Lib.hid (X.out.pick [0] [(w.heap.size, #[.bool b, .string m, .bool c, .string k], 25)] [] (by simp) (by decide) (by simp))
    obtain ⟨a0, a1, a2, a3⟩ := X.out.c4 (i := 0) rfl
    go_enter Tryz.func16, Tryz.ntmps16
    go_wp2_with fail
    refine (HC1.out _).mono ?_
    rintro e w1 ⟨rfl, hb9⟩
    have X := Lib.hid (X.out.next hb9)
    clear hb9
    clear a0 a1 a2 a3
    go_wp2
    go_ret
    exact ⟨rfl, X.out.bel⟩
  · rw [h1] at HC1
    rw [h2] at HC2
    clear h1 h2 hno
    have X := Lib.hid ((Sb.start w).new #[.bool b, .string m, .bool c, .string k] 25)
    have X := Lib.hid (X.out.pick [0] [(w.heap.size, #[.bool b, .string m, .bool c, .string k], 25)] [] (by simp) (by decide) (by simp))
    obtain ⟨a0, a1, a2, a3⟩ := X.out.c4 (i := 0) rfl
    go_enter Tryz.func16, Tryz.ntmps16
    go_wp2_with fail
    refine (HC1.out _).mono ?_
    rintro e w1 ⟨rfl, hb9⟩
    have X := Lib.hid (X.out.next hb9)
    clear hb9
    clear a0 a1 a2 a3
    obtain ⟨a0, a1, a2, a3⟩ := X.out.c4 (i := 0) rfl
    go_wp2_with fail
    refine (HC2.out _).mono ?_
    rintro e w2 ⟨rfl, hb9⟩
    have X := Lib.hid (X.out.next hb9)
    clear hb9
    clear a0 a1 a2 a3
    obtain ⟨a0, a1, a2, a3⟩ := X.out.c4 (i := 0) rfl
    go_wp2
    go_ret
    exact ⟨rfl, X.out.bel⟩
  · rw [h1] at HC1
    rw [h2] at HC2
    clear h1 h2 hno
    subst h3
    have X := Lib.hid ((Sb.start w).new #[.bool b, .string m, .bool true, .string k] 25)
    have X := Lib.hid (X.out.pick [0] [(w.heap.size, #[.bool b, .string m, .bool true, .string k], 25)] [] (by simp) (by decide) (by simp))
    obtain ⟨a0, a1, a2, a3⟩ := X.out.c4 (i := 0) rfl
    go_enter Tryz.func16, Tryz.ntmps16
    go_wp2_with fail
    refine (HC1.out _).mono ?_
    rintro e w1 ⟨rfl, hb9⟩
    have X := Lib.hid (X.out.next hb9)
    clear hb9
    clear a0 a1 a2 a3
    obtain ⟨a0, a1, a2, a3⟩ := X.out.c4 (i := 0) rfl
    go_wp2_with fail
    refine (HC2.out _).mono ?_
    rintro e w2 ⟨rfl, hb9⟩
    have X := Lib.hid (X.out.next hb9)
    clear hb9
    clear a0 a1 a2 a3
    obtain ⟨a0, a1, a2, a3⟩ := X.out.c4 (i := 0) rfl
    go_wp2
    go_ret
    exact ⟨rfl, X.out.bel⟩
  · rw [h1] at HC1
    rw [h2] at HC2
    subst h3
    have hl1 : k.toList = [1] := by rw [h4, ByteArray.toList_eq]
    have hk0 : k.toList.isEmpty = false := by rw [hl1]; rfl
    have HD1 := Lib.hid (fun V => rdigits b m V (by omega))
    have HD2 := Lib.hid (fun V => rdigits false k V (by omega))
    have HN0 := Lib.hid (show nd (bval m) ≤ 100000 from Nat.le_trans (nd_le (bval_lt m)) s1)
    have HN1 := Lib.hid (show nd (bval k) ≤ 100000 from Nat.le_trans (nd_le (bval_lt k)) s2)
    clear h1 h2 hno h4
    have X := Lib.hid ((Sb.start w).new #[.bool b, .string m, .bool false, .string k] 25)
    have X := Lib.hid (X.out.pick [0] [(w.heap.size, #[.bool b, .string m, .bool false, .string k], 25)] [] (by simp) (by decide) (by simp))
    obtain ⟨a0, a1, a2, a3⟩ := X.out.c4 (i := 0) rfl
    go_enter Tryz.func16, Tryz.ntmps16
    go_wp2_with fail
    refine (HC1.out _).mono ?_
    rintro e w1 ⟨rfl, hb9⟩
    have X := Lib.hid (X.out.next hb9)
    clear hb9
    clear a0 a1 a2 a3
    obtain ⟨a0, a1, a2, a3⟩ := X.out.c4 (i := 0) rfl
    go_wp2_with fail
    refine (HC2.out _).mono ?_
    rintro e w2 ⟨rfl, hb9⟩
    have X := Lib.hid (X.out.next hb9)
    clear hb9
    clear a0 a1 a2 a3
    obtain ⟨a0, a1, a2, a3⟩ := X.out.c4 (i := 0) rfl
    go_upto_region 5 with fail
    clear a0 a1 a2 a3
    refine wp_region_late (S := fun w' => (w'.cell? ⟨w.heap.size, 0, none⟩ = some (.bool b) ∧ w'.cell? ⟨w.heap.size, 1, none⟩ = some (.string m) ∧ w'.cell? ⟨w.heap.size, 2, none⟩ = some (.bool false) ∧ w'.cell? ⟨w.heap.size, 3, none⟩ = some (.string k))) (L := []) (by kernel_rfl) ?_
    have X := Lib.hid X.out.drew
    obtain ⟨V0, hV⟩ := wexi X.out
    rw [← hV] at X ⊢
    clear hV
    refine tk (i := 0) (oi := ⟨some 23, _, _, _, _, _⟩) (v := _) rfl (by kernel_rfl) (fun _ _ _ h => h) (X.out.c4 (i := 0) rfl) (Or.inl ⟨by rfl, by intro w hSw; (try dsimp only at hSw); (first | (go_simp; done) | (go_simp; with_reducible rfl))⟩) ?_
    try simp only [Act.put, seti, set0, setS]
    refine tk (i := 1) (oi := ⟨some 24, _, _, _, _, _⟩) (v := _) rfl (by kernel_rfl) (fun _ _ _ h => h) (X.out.c4 (i := 0) rfl) (Or.inl ⟨by rfl, by intro w hSw; (try dsimp only at hSw); (first | (go_simp; done) | (go_simp; with_reducible rfl))⟩) ?_
    try simp only [Act.put, seti, set0, setS]
    refine tk (i := 3) (oi := ⟨some 26, _, _, _, _, _⟩) (v := _) rfl (by kernel_rfl) (fun _ _ _ h => h) (X.out.c4 (i := 0) rfl) (Or.inl ⟨by rfl, by intro w hSw; (try dsimp only at hSw); (first | (go_simp; done) | (go_simp; with_reducible rfl))⟩) ?_
    try simp only [Act.put, seti, set0, setS]
    refine tk (i := 4) (oi := ⟨some 27, _, _, _, _, _⟩) (v := _) rfl (by kernel_rfl) (fun _ _ _ h => h) (X.out.c4 (i := 0) rfl) (Or.inl ⟨by rfl, by intro w hSw; (try dsimp only at hSw); (first | (go_simp; done) | (go_simp; with_reducible rfl))⟩) ?_
    try simp only [Act.put, seti, set0, setS]
    refine wpLate_one (i := 2) (o := ⟨some 25, _, _, _, _, _⟩) (by kernel_rfl) rfl (fun K hK => ?_)
    go_simp
    (go_at_call 59; refine (HD1.out _).mono ?_; rintro e u1 ⟨A1, n1, c1, rfl, ht9, hb9, hf9⟩; have X := Lib.hid (X.out.row hb9 ht9 hf9); clear hb9 ht9 hf9)
    try go_wp2_with fail
    refine hK.out _ _ (Or.inr (fun _ => X.out.c4 (i := 0) rfl)) ?_
    clear hK K
    try simp only [Act.put, seti, set0, setS]
    refine wpLate_one (i := 5) (o := ⟨some 28, _, _, _, _, _⟩) (by kernel_rfl) rfl (fun K hK => ?_)
    go_simp
    (go_at_call 59; refine (HD2.out _).mono ?_; rintro e u2 ⟨A2, n2, c2, rfl, ht9, hb9, hf9⟩; have X := Lib.hid (X.out.row hb9 ht9 hf9); clear hb9 ht9 hf9)
    try go_wp2_with fail
    refine hK.out _ _ (Or.inr (fun _ => X.out.c4 (i := 0) rfl)) ?_
    clear hK K
    try simp only [Act.put, seti, set0, setS]
    refine wpLate_one (i := 6) (o := ⟨some 29, _, _, _, _, _⟩) (by kernel_rfl) rfl (fun K hK => ?_)
    go_simp
    (go_at_call 58; refine (rcommon _ _ _ _ _ _ _ _ _ (by have h := (X.out.rw (i := 0) rfl).ln; have h2 := HN0.out; omega) (by have h := (X.out.rw (i := 1) rfl).ln; have h2 := HN1.out; omega) (X.out.rw (i := 0) rfl) (X.out.rw (i := 1) rfl)).mono ?_; rintro e u3 ⟨A3, n3, c3, rfl, ht9, hb9⟩; have TG := Lib.hid ht9; have X := Lib.hid (X.out.next hb9); clear hb9 ht9)
    try go_wp2_with fail
    refine hK.out _ _ (Or.inr (fun _ => X.out.c4 (i := 0) rfl)) ?_
    clear hK K
    try simp only [Act.put, seti, set0, setS]
    refine tk (i := 7) (oi := ⟨some 3, _, _, _, _, _⟩) (v := _) rfl (by kernel_rfl) (fun _ _ _ h => h) (X.out.c4 (i := 0) rfl) (Or.inl ⟨by rfl, by intro w hSw; (try dsimp only at hSw); (first | (go_simp; done) | (go_simp; with_reducible rfl))⟩) ?_
    try simp only [Act.put, seti, set0, setS]
    refine wpLate_done (by kernel_rfl) ?_ _
    obtain ⟨AG, hAG⟩ : ∃ A, A = A3 := ⟨_, rfl⟩
    obtain ⟨nG, hnG⟩ : ∃ A, A = n3 := ⟨_, rfl⟩
    rw [← hAG, ← hnG] at TG ⊢
    clear hAG hnG
    obtain ⟨a0, a1, a2, a3⟩ := X.out.c4 (i := 0) rfl
    clear hk0
    go_wp2
    go_ret
    exact ⟨rfl, X.out.bel⟩
  · rw [canon_yes hx] at HC1
    subst h3
    have hyd : enc ((d : Nat) : Int) = .agg #[.bool false, .string k] := by rw [h4]; exact enc_mag d
    rw [canon_yes hyd] at HC2
    have hkn := toList_ne (l := [1]) (show k ≠ ⟨#[1]⟩ from by rw [h4]; exact mag_no_one (by omega))
    have hkn2 : ¬ [1] = k.toList := fun e => hkn e.symm
    have hk0 : k.toList.isEmpty = false := by
      rw [List.isEmpty_eq_false_iff]
      exact toList_ne (l := []) (by rw [h4]; exact mag_no_nil (by omega))
    have hg6 : Nat.gcd (bval m) (bval k) ≠ 1 := by rw [(enc_parts hx).2, h4, bval_mag, bval_mag]; exact h6
    have hg0 : 0 < Nat.gcd (bval m) (bval k) := by rw [h4, bval_mag]; exact Nat.gcd_pos_of_pos_right _ (by omega)
    have HD1 := Lib.hid (fun V => rdigits b m V (by omega))
    have HD2 := Lib.hid (fun V => rdigits false k V (by omega))
    have HN0 := Lib.hid (show nd (bval m) ≤ 100000 from Nat.le_trans (nd_le (bval_lt m)) s1)
    have HN1 := Lib.hid (show nd (bval k) ≤ 100000 from Nat.le_trans (nd_le (bval_lt k)) s2)
    have HG6 := Lib.hid (And.intro hg6 hg0)
    clear hno h4 h5 h6 hx hyd hg6 hg0
    have X := Lib.hid ((Sb.start w).new #[.bool b, .string m, .bool false, .string k] 25)
    have X := Lib.hid (X.out.pick [0] [(w.heap.size, #[.bool b, .string m, .bool false, .string k], 25)] [] (by simp) (by decide) (by simp))
    obtain ⟨a0, a1, a2, a3⟩ := X.out.c4 (i := 0) rfl
    go_enter Tryz.func16, Tryz.ntmps16
    go_wp2_with fail
    refine (HC1.out _).mono ?_
    rintro e w1 ⟨rfl, hb9⟩
    have X := Lib.hid (X.out.next hb9)
    clear hb9
    clear a0 a1 a2 a3
    obtain ⟨a0, a1, a2, a3⟩ := X.out.c4 (i := 0) rfl
    go_wp2_with fail
    refine (HC2.out _).mono ?_
    rintro e w2 ⟨rfl, hb9⟩
    have X := Lib.hid (X.out.next hb9)
    clear hb9
    clear a0 a1 a2 a3
    obtain ⟨a0, a1, a2, a3⟩ := X.out.c4 (i := 0) rfl
    go_upto_region 5 with fail
    clear a0 a1 a2 a3
    refine wp_region_late (S := fun w' => (w'.cell? ⟨w.heap.size, 0, none⟩ = some (.bool b) ∧ w'.cell? ⟨w.heap.size, 1, none⟩ = some (.string m) ∧ w'.cell? ⟨w.heap.size, 2, none⟩ = some (.bool false) ∧ w'.cell? ⟨w.heap.size, 3, none⟩ = some (.string k))) (L := []) (by kernel_rfl) ?_
    have X := Lib.hid X.out.drew
    obtain ⟨V0, hV⟩ := wexi X.out
    rw [← hV] at X ⊢
    clear hV
    refine tk (i := 0) (oi := ⟨some 23, _, _, _, _, _⟩) (v := _) rfl (by kernel_rfl) (fun _ _ _ h => h) (X.out.c4 (i := 0) rfl) (Or.inl ⟨by rfl, by intro w hSw; (try dsimp only at hSw); (first | (go_simp; done) | (go_simp; with_reducible rfl))⟩) ?_
    try simp only [Act.put, seti, set0, setS]
    refine tk (i := 1) (oi := ⟨some 24, _, _, _, _, _⟩) (v := _) rfl (by kernel_rfl) (fun _ _ _ h => h) (X.out.c4 (i := 0) rfl) (Or.inl ⟨by rfl, by intro w hSw; (try dsimp only at hSw); (first | (go_simp; done) | (go_simp; with_reducible rfl))⟩) ?_
    try simp only [Act.put, seti, set0, setS]
    refine tk (i := 3) (oi := ⟨some 26, _, _, _, _, _⟩) (v := _) rfl (by kernel_rfl) (fun _ _ _ h => h) (X.out.c4 (i := 0) rfl) (Or.inl ⟨by rfl, by intro w hSw; (try dsimp only at hSw); (first | (go_simp; done) | (go_simp; with_reducible rfl))⟩) ?_
    try simp only [Act.put, seti, set0, setS]
    refine tk (i := 4) (oi := ⟨some 27, _, _, _, _, _⟩) (v := _) rfl (by kernel_rfl) (fun _ _ _ h => h) (X.out.c4 (i := 0) rfl) (Or.inl ⟨by rfl, by intro w hSw; (try dsimp only at hSw); (first | (go_simp; done) | (go_simp; with_reducible rfl))⟩) ?_
    try simp only [Act.put, seti, set0, setS]
    refine wpLate_one (i := 2) (o := ⟨some 25, _, _, _, _, _⟩) (by kernel_rfl) rfl (fun K hK => ?_)
    go_simp
    (go_at_call 59; refine (HD1.out _).mono ?_; rintro e u1 ⟨A1, n1, c1, rfl, ht9, hb9, hf9⟩; have X := Lib.hid (X.out.row hb9 ht9 hf9); clear hb9 ht9 hf9)
    try go_wp2_with fail
    refine hK.out _ _ (Or.inr (fun _ => X.out.c4 (i := 0) rfl)) ?_
    clear hK K
    try simp only [Act.put, seti, set0, setS]
    refine wpLate_one (i := 5) (o := ⟨some 28, _, _, _, _, _⟩) (by kernel_rfl) rfl (fun K hK => ?_)
    go_simp
    (go_at_call 59; refine (HD2.out _).mono ?_; rintro e u2 ⟨A2, n2, c2, rfl, ht9, hb9, hf9⟩; have X := Lib.hid (X.out.row hb9 ht9 hf9); clear hb9 ht9 hf9)
    try go_wp2_with fail
    refine hK.out _ _ (Or.inr (fun _ => X.out.c4 (i := 0) rfl)) ?_
    clear hK K
    try simp only [Act.put, seti, set0, setS]
    refine wpLate_one (i := 6) (o := ⟨some 29, _, _, _, _, _⟩) (by kernel_rfl) rfl (fun K hK => ?_)
    go_simp
    (go_at_call 58; refine (rcommon _ _ _ _ _ _ _ _ _ (by have h := (X.out.rw (i := 0) rfl).ln; have h2 := HN0.out; omega) (by have h := (X.out.rw (i := 1) rfl).ln; have h2 := HN1.out; omega) (X.out.rw (i := 0) rfl) (X.out.rw (i := 1) rfl)).mono ?_; rintro e u3 ⟨A3, n3, c3, rfl, ht9, hb9⟩; have TG := Lib.hid ht9; have X := Lib.hid (X.out.next hb9); clear hb9 ht9)
    try go_wp2_with fail
    refine hK.out _ _ (Or.inr (fun _ => X.out.c4 (i := 0) rfl)) ?_
    clear hK K
    try simp only [Act.put, seti, set0, setS]
    refine tk (i := 7) (oi := ⟨some 3, _, _, _, _, _⟩) (v := _) rfl (by kernel_rfl) (fun _ _ _ h => h) (X.out.c4 (i := 0) rfl) (Or.inl ⟨by rfl, by intro w hSw; (try dsimp only at hSw); (first | (go_simp; done) | (go_simp; with_reducible rfl))⟩) ?_
    try simp only [Act.put, seti, set0, setS]
    refine wpLate_done (by kernel_rfl) ?_ _
    obtain ⟨AG, hAG⟩ : ∃ A, A = A3 := ⟨_, rfl⟩
    obtain ⟨nG, hnG⟩ : ∃ A, A = n3 := ⟨_, rfl⟩
    rw [← hAG, ← hnG] at TG ⊢
    clear hAG hnG
    obtain ⟨a0, a1, a2, a3⟩ := X.out.c4 (i := 0) rfl
    have hn0 : 0 < nG := by rw [TG.out.ln]; exact nd_pos HG6.out.2
    obtain ⟨gb, go, rfl, _, hcl⟩ := TG.out.dg.rd hn0
    have hc0 := hcl 0 hn0
    rw [Nat.add_zero] at hc0
    by_cases hn1 : nG = 1
    · have hne : ((D 256 (Nat.gcd (bval m) (bval k)) 0 : Int) == 1) = false := by
        have h1 := TG.out.ln
        have h2 := nd_lt (Nat.gcd (bval m) (bval k))
        rw [← h1, hn1] at h2
        have h3 : D 256 (Nat.gcd (bval m) (bval k)) 0 = Nat.gcd (bval m) (bval k) := by unfold D; rw [Nat.pow_zero, Nat.div_one]; exact Nat.mod_eq_of_lt (by omega)
        rw [h3]
        have h4 := HG6.out.1
        simp
        omega
      have hlen : ((nG : Int) == 1) = true := by rw [hn1]; rfl
      generalize D 256 (Nat.gcd (bval m) (bval k)) 0 = dg at *
      clear HG6 hcl
      go_wp2
      go_ret
      exact ⟨rfl, X.out.bel⟩
    · have hlen : ((nG : Int) == 1) = false := by simp; omega
      clear HG6 hcl
      go_wp2
      go_ret
      exact ⟨rfl, X.out.bel⟩

set_option maxHeartbeats 16000000 in
set_option maxRecDepth 100000 in
theorem rCheck_yes {q : Rat} {b : Bool} {m k : ByteArray} (hq : Rq q b m k) (s1 : m.size ≤ 100000) (s2 : k.size ≤ 100000) (w : World) :
    Calls Tryz.prog 16 #[.agg #[.bool b, .string m, .bool false, .string k]] w (RetB w (.bool true)) := by
  have HC1 := Lib.hid (fun V => isInt_any b m V)
  have HC2 := Lib.hid (fun V => isInt_any false k V)
  rw [canon_yes hq.num] at HC1
  by_cases hd : q.den = 1
  · obtain rfl := hq.den1 hd
    rw [canon_yes (enc_nought)] at HC2
    clear hd hq
    have X := Lib.hid ((Sb.start w).new #[.bool b, .string m, .bool false, .string ⟨#[]⟩] 25)
    have X := Lib.hid (X.out.pick [0] [(w.heap.size, #[.bool b, .string m, .bool false, .string ⟨#[]⟩], 25)] [] (by simp) (by decide) (by simp))
    obtain ⟨a0, a1, a2, a3⟩ := X.out.c4 (i := 0) rfl
    go_enter Tryz.func16, Tryz.ntmps16
    go_wp2_with fail
    refine (HC1.out _).mono ?_
    rintro e w1 ⟨rfl, hb9⟩
    have X := Lib.hid (X.out.next hb9)
    clear hb9
    clear a0 a1 a2 a3
    obtain ⟨a0, a1, a2, a3⟩ := X.out.c4 (i := 0) rfl
    go_wp2_with fail
    refine (HC2.out _).mono ?_
    rintro e w2 ⟨rfl, hb9⟩
    have X := Lib.hid (X.out.next hb9)
    clear hb9
    clear a0 a1 a2 a3
    obtain ⟨a0, a1, a2, a3⟩ := X.out.c4 (i := 0) rfl
    go_wp2
    go_ret
    exact ⟨rfl, X.out.bel⟩
  · have hk := hq.den2 hd
    have hyd : enc ((q.den : Nat) : Int) = .agg #[.bool false, .string k] := by rw [hk]; exact enc_mag q.den
    rw [canon_yes hyd] at HC2
    have hkn := toList_ne (l := [1]) (show k ≠ ⟨#[1]⟩ from by rw [hk]; exact mag_no_one hd)
    have hkn2 : ¬ [1] = k.toList := fun e => hkn e.symm
    have hk0 : k.toList.isEmpty = false := by
      rw [List.isEmpty_eq_false_iff]
      exact toList_ne (l := []) (by rw [hk]; exact mag_no_nil q.den_nz)
    have hg6 : Nat.gcd (bval m) (bval k) = 1 := by rw [hq.bval, hk, bval_mag]; exact q.reduced
    have HD1 := Lib.hid (fun V => rdigits b m V (by omega))
    have HD2 := Lib.hid (fun V => rdigits false k V (by omega))
    have HN0 := Lib.hid (show nd (bval m) ≤ 100000 from Nat.le_trans (nd_le (bval_lt m)) s1)
    have HN1 := Lib.hid (show nd (bval k) ≤ 100000 from Nat.le_trans (nd_le (bval_lt k)) s2)
    have HG6 := Lib.hid hg6
    clear hd hk hyd hq hg6
    have X := Lib.hid ((Sb.start w).new #[.bool b, .string m, .bool false, .string k] 25)
    have X := Lib.hid (X.out.pick [0] [(w.heap.size, #[.bool b, .string m, .bool false, .string k], 25)] [] (by simp) (by decide) (by simp))
    obtain ⟨a0, a1, a2, a3⟩ := X.out.c4 (i := 0) rfl
    go_enter Tryz.func16, Tryz.ntmps16
    go_wp2_with fail
    refine (HC1.out _).mono ?_
    rintro e w1 ⟨rfl, hb9⟩
    have X := Lib.hid (X.out.next hb9)
    clear hb9
    clear a0 a1 a2 a3
    obtain ⟨a0, a1, a2, a3⟩ := X.out.c4 (i := 0) rfl
    go_wp2_with fail
    refine (HC2.out _).mono ?_
    rintro e w2 ⟨rfl, hb9⟩
    have X := Lib.hid (X.out.next hb9)
    clear hb9
    clear a0 a1 a2 a3
    obtain ⟨a0, a1, a2, a3⟩ := X.out.c4 (i := 0) rfl
    go_upto_region 5 with fail
    clear a0 a1 a2 a3
    refine wp_region_late (S := fun w' => (w'.cell? ⟨w.heap.size, 0, none⟩ = some (.bool b) ∧ w'.cell? ⟨w.heap.size, 1, none⟩ = some (.string m) ∧ w'.cell? ⟨w.heap.size, 2, none⟩ = some (.bool false) ∧ w'.cell? ⟨w.heap.size, 3, none⟩ = some (.string k))) (L := []) (by kernel_rfl) ?_
    have X := Lib.hid X.out.drew
    obtain ⟨V0, hV⟩ := wexi X.out
    rw [← hV] at X ⊢
    clear hV
    refine tk (i := 0) (oi := ⟨some 23, _, _, _, _, _⟩) (v := _) rfl (by kernel_rfl) (fun _ _ _ h => h) (X.out.c4 (i := 0) rfl) (Or.inl ⟨by rfl, by intro w hSw; (try dsimp only at hSw); (first | (go_simp; done) | (go_simp; with_reducible rfl))⟩) ?_
    try simp only [Act.put, seti, set0, setS]
    refine tk (i := 1) (oi := ⟨some 24, _, _, _, _, _⟩) (v := _) rfl (by kernel_rfl) (fun _ _ _ h => h) (X.out.c4 (i := 0) rfl) (Or.inl ⟨by rfl, by intro w hSw; (try dsimp only at hSw); (first | (go_simp; done) | (go_simp; with_reducible rfl))⟩) ?_
    try simp only [Act.put, seti, set0, setS]
    refine tk (i := 3) (oi := ⟨some 26, _, _, _, _, _⟩) (v := _) rfl (by kernel_rfl) (fun _ _ _ h => h) (X.out.c4 (i := 0) rfl) (Or.inl ⟨by rfl, by intro w hSw; (try dsimp only at hSw); (first | (go_simp; done) | (go_simp; with_reducible rfl))⟩) ?_
    try simp only [Act.put, seti, set0, setS]
    refine tk (i := 4) (oi := ⟨some 27, _, _, _, _, _⟩) (v := _) rfl (by kernel_rfl) (fun _ _ _ h => h) (X.out.c4 (i := 0) rfl) (Or.inl ⟨by rfl, by intro w hSw; (try dsimp only at hSw); (first | (go_simp; done) | (go_simp; with_reducible rfl))⟩) ?_
    try simp only [Act.put, seti, set0, setS]
    refine wpLate_one (i := 2) (o := ⟨some 25, _, _, _, _, _⟩) (by kernel_rfl) rfl (fun K hK => ?_)
    go_simp
    (go_at_call 59; refine (HD1.out _).mono ?_; rintro e u1 ⟨A1, n1, c1, rfl, ht9, hb9, hf9⟩; have X := Lib.hid (X.out.row hb9 ht9 hf9); clear hb9 ht9 hf9)
    try go_wp2_with fail
    refine hK.out _ _ (Or.inr (fun _ => X.out.c4 (i := 0) rfl)) ?_
    clear hK K
    try simp only [Act.put, seti, set0, setS]
    refine wpLate_one (i := 5) (o := ⟨some 28, _, _, _, _, _⟩) (by kernel_rfl) rfl (fun K hK => ?_)
    go_simp
    (go_at_call 59; refine (HD2.out _).mono ?_; rintro e u2 ⟨A2, n2, c2, rfl, ht9, hb9, hf9⟩; have X := Lib.hid (X.out.row hb9 ht9 hf9); clear hb9 ht9 hf9)
    try go_wp2_with fail
    refine hK.out _ _ (Or.inr (fun _ => X.out.c4 (i := 0) rfl)) ?_
    clear hK K
    try simp only [Act.put, seti, set0, setS]
    refine wpLate_one (i := 6) (o := ⟨some 29, _, _, _, _, _⟩) (by kernel_rfl) rfl (fun K hK => ?_)
    go_simp
    (go_at_call 58; refine (rcommon _ _ _ _ _ _ _ _ _ (by have h := (X.out.rw (i := 0) rfl).ln; have h2 := HN0.out; omega) (by have h := (X.out.rw (i := 1) rfl).ln; have h2 := HN1.out; omega) (X.out.rw (i := 0) rfl) (X.out.rw (i := 1) rfl)).mono ?_; rintro e u3 ⟨A3, n3, c3, rfl, ht9, hb9⟩; have TG := Lib.hid ht9; have X := Lib.hid (X.out.next hb9); clear hb9 ht9)
    try go_wp2_with fail
    refine hK.out _ _ (Or.inr (fun _ => X.out.c4 (i := 0) rfl)) ?_
    clear hK K
    try simp only [Act.put, seti, set0, setS]
    refine tk (i := 7) (oi := ⟨some 3, _, _, _, _, _⟩) (v := _) rfl (by kernel_rfl) (fun _ _ _ h => h) (X.out.c4 (i := 0) rfl) (Or.inl ⟨by rfl, by intro w hSw; (try dsimp only at hSw); (first | (go_simp; done) | (go_simp; with_reducible rfl))⟩) ?_
    try simp only [Act.put, seti, set0, setS]
    refine wpLate_done (by kernel_rfl) ?_ _
    obtain ⟨AG, hAG⟩ : ∃ A, A = A3 := ⟨_, rfl⟩
    obtain ⟨nG, hnG⟩ : ∃ A, A = n3 := ⟨_, rfl⟩
    rw [← hAG, ← hnG] at TG ⊢
    clear hAG hnG
    obtain ⟨a0, a1, a2, a3⟩ := X.out.c4 (i := 0) rfl
    have TG := TG
    rw [HG6.out] at TG
    have hn1 : nG = 1 := by rw [TG.out.ln]; exact nd_one
    have hn0 : 0 < nG := by omega
    obtain ⟨gb, go, rfl, _, hcl⟩ := TG.out.dg.rd hn0
    have hc0 := hcl 0 hn0
    rw [Nat.add_zero] at hc0
    have hd1 : (D 256 1 0 : Nat) = 1 := by decide
    rw [hd1] at hc0
    have hlen : ((nG : Int) == 1) = true := by rw [hn1]; rfl
    clear hcl
    go_wp2
    go_ret
    have hkb : (k.toList == [1]) = false := by simpa using hkn
    exact ⟨by show Ending.returned (.bool (!(k.toList == [1]))) = _; rw [hkb]; rfl, X.out.bel⟩
end Go.Proofs.YtahehlajpaoiiaaGreatDoor
