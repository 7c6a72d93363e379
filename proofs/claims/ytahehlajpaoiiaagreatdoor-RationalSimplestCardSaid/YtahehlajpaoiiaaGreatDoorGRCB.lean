import Derived.Test.YtahehlajpaoiiaaGreatDoorGRKB
import Derived.Test.YtahehlajpaoiiaaGreatDoorGQT2

namespace Go.Proofs.YtahehlajpaoiiaaGreatDoor
open Go.RowKit

section
variable {W : World} {g g' : Nat} {cs : Array Value} {T : TypeId} {x0 x1 x2 x3 : Value}
theorem Bq.set2 (h : Bq g cs T W) (hne : g ≠ g') (x y : Value) : Bq g cs T ((W.setCell ⟨g', 0, none⟩ x).setCell ⟨g', 1, none⟩ y) :=
  ⟨(qoth hne x y).trans h.k, by rw [qsz]; exact h.lt⟩
theorem qsz3 (x y z : Value) : (((W.setCell ⟨g, 0, none⟩ x).setCell ⟨g, 1, none⟩ y).setCell ⟨g, 2, none⟩ z).heap.size = W.heap.size := by simp [World.setCell]
theorem Bq.set3 (h : Bq g cs T W) (hne : g ≠ g') (x y z : Value) : Bq g cs T (((W.setCell ⟨g', 0, none⟩ x).setCell ⟨g', 1, none⟩ y).setCell ⟨g', 2, none⟩ z) :=
  ⟨((Below.heap_setCell _ ⟨g', 2, none⟩ z g hne).trans (qoth hne x y)).trans h.k, by rw [qsz3]; exact h.lt⟩
theorem Bq.self3 (h : Bq g #[x0, x1, x2] T W) (x y z : Value) : Bq g #[x, y, z] T (((W.setCell ⟨g, 0, none⟩ x).setCell ⟨g, 1, none⟩ y).setCell ⟨g, 2, none⟩ z) :=
  ⟨by have hk := h.k; simp [World.setCell, Array.getElem?_modify, hk], by rw [qsz3]; exact h.lt⟩
theorem Bq.self4 (h : Bq g #[x0, x1, x2, x3] T W) (x y z u : Value) : Bq g #[x, y, z, u] T ((((W.setCell ⟨g, 0, none⟩ x).setCell ⟨g, 1, none⟩ y).setCell ⟨g, 2, none⟩ z).setCell ⟨g, 3, none⟩ u) :=
  ⟨by have hk := h.k; simp [World.setCell, Array.getElem?_modify, hk], by rw [qsz4]; exact h.lt⟩
end
end Go.Proofs.YtahehlajpaoiiaaGreatDoor



namespace Go.Proofs.YtahehlajpaoiiaaGreatDoor
open Go.RowKit

structure Sb (w : World) (l : List (Nat × Array Value × TypeId)) (rs : List (Option Addr × Nat × Nat × Nat)) (W : World) : Prop where
  k : ∀ x ∈ l, W.heap[x.1]? = some (.cells x.2.1 x.2.2 (0, 0))
  lo : ∀ x ∈ l, w.heap.size ≤ x.1
  ne : ∀ (i j : Nat) (x y : Nat × Array Value × TypeId), l[i]? = some x → l[j]? = some y → i ≠ j → x.1 ≠ y.1
  tr : ∀ r ∈ rs, Tr W r.1 r.2.1 r.2.2.1 r.2.2.2
  ap : ∀ r ∈ rs, ∀ x ∈ l, 0 < r.2.1 → ∀ a, r.1 = some a → a.block ≠ x.1
  bel : Below w.heap.size w W

theorem Tr.block_lt {W : World} {A : Option Addr} {n c V : Nat} (h : Tr W A n c V) (hn : 0 < n) {a : Addr} (e : A = some a) : a.block < W.heap.size := by
  obtain ⟨g, o, e', hg, _⟩ := h.dg.rd hn
  rw [e] at e'
  injection e' with e'
  subst e'
  exact hg
theorem Tr.keep {W W2 : World} {A : Option Addr} {n c V : Nat} (h : Tr W A n c V) (hk : 0 < n → ∀ a, A = some a → W2.heap[a.block]? = W.heap[a.block]?) (hs : W.heap.size ≤ W2.heap.size) : Tr W2 A n c V :=
  ⟨⟨h.dg.lt, fun hn => by
    obtain ⟨g, o, e, hg, hc⟩ := h.dg.rd hn
    exact ⟨g, o, e, Nat.lt_of_lt_of_le hg hs, fun j hj => (World.cell?_of_block (w := W) (a := ⟨g, o + j, none⟩) (by have h1 := hk hn _ e; exact h1)).trans (hc j hj)⟩⟩, h.ln, h.cap, h.nil⟩

section
variable {w W W2 : World} {l l' : List (Nat × Array Value × TypeId)} {rs rs' : List (Option Addr × Nat × Nat × Nat)} {g : Nat} {cs cs' : Array Value} {T : TypeId}
theorem Sb.lt (h : Sb w l rs W) {x : Nat × Array Value × TypeId} (hx : x ∈ l) : x.1 < W.heap.size := (Array.getElem?_eq_some_iff.1 (h.k x hx)).1
theorem Sb.start (w : World) : Sb w [] [] w := ⟨fun _ h => by simp at h, fun _ h => by simp at h, fun _ _ _ _ h => by simp at h, fun _ h => by simp at h, fun _ h => by simp at h, Below.refl _ _⟩
theorem Sb.next (h : Sb w l rs W) (hb : Below W.heap.size W W2) : Sb w l rs W2 :=
  ⟨fun x hx => (hb.block _ (h.lt hx)).trans (h.k x hx), h.lo, h.ne, fun r hr => (h.tr r hr).below hb, h.ap, h.bel.trans (hb.mono h.bel.size)⟩
theorem Sb.drew (h : Sb w l rs W) : Sb w l rs W.drew := h.next (Below.refl _ _).drew
theorem Sb.new (h : Sb w l rs W) (cs : Array Value) (T : TypeId) : Sb w (l ++ [(W.heap.size, cs, T)]) rs (W.alloc (.cells cs T)) := by
  have hn := h.next (below_new W (.cells cs T))
  refine ⟨fun x hx => ?_, fun x hx => ?_, fun i j x y hi hj hij => ?_, hn.tr, fun r hr x hx hn a ha => ?_, hn.bel⟩
  · rcases List.mem_append.1 hx with h1 | h1
    · exact hn.k x h1
    · obtain rfl : x = _ := by simpa using h1
      exact heap_one _ _
  · rcases List.mem_append.1 hx with h1 | h1
    · exact h.lo x h1
    · obtain rfl : x = _ := by simpa using h1
      exact h.bel.size
  · have key : ∀ {i x}, (l ++ [(W.heap.size, cs, T)])[i]? = some x → (i < l.length ∧ l[i]? = some x) ∨ (i = l.length ∧ x.1 = W.heap.size) := by
      intro i x hi
      rcases Nat.lt_trichotomy i l.length with h1 | h1 | h1
      · rw [List.getElem?_append_left h1] at hi
        exact .inl ⟨h1, hi⟩
      · subst h1
        rw [List.getElem?_append_right (Nat.le_refl _)] at hi
        simp at hi
        exact .inr ⟨rfl, by rw [← hi]⟩
      · rw [List.getElem?_append_right (by omega)] at hi
        have : i - l.length ≠ 0 := by omega
        obtain ⟨m, hm⟩ : ∃ m, i - l.length = m + 1 := ⟨i - l.length - 1, by omega⟩
        rw [hm] at hi
        simp at hi
    rcases key hi with ⟨h1, h2⟩ | ⟨h1, h2⟩ <;> rcases key hj with ⟨h3, h4⟩ | ⟨h3, h4⟩
    · exact h.ne i j x y h2 h4 hij
    · have := h.lt (List.mem_of_getElem? h2); omega
    · have := h.lt (List.mem_of_getElem? h4); omega
    · omega
  · rcases List.mem_append.1 hx with h1 | h1
    · exact h.ap r hr x h1 hn a ha
    · obtain rfl : x = _ := by simpa using h1
      have := (h.tr r hr).block_lt hn ha
      show a.block ≠ W.heap.size
      omega
theorem Sb.row (h : Sb w l rs W) (hb : Below W.heap.size W W2) {A : Option Addr} {n c V : Nat} (ht : Tr W2 A n c V) (hf : ∀ a, A = some a → W.heap.size ≤ a.block) : Sb w l (rs ++ [(A, n, c, V)]) W2 := by
  have hn := h.next hb
  refine ⟨hn.k, hn.lo, hn.ne, fun r hr => ?_, fun r hr x hx h0 a ha => ?_, hn.bel⟩
  · rcases List.mem_append.1 hr with h1 | h1
    · exact hn.tr r h1
    · obtain rfl : r = _ := by simpa using h1
      exact ht
  · rcases List.mem_append.1 hr with h1 | h1
    · exact h.ap r h1 x hx h0 a ha
    · obtain rfl : r = _ := by simpa using h1
      have h2 := hf a ha
      have h3 := h.lt hx
      omega
theorem Sb.row2 (h : Sb w l rs W) (hb : Below W.heap.size W W2) {A B : Option Addr} {n c V m d U : Nat} (ht : Tr W2 A n c V) (hu : Tr W2 B m d U) (hf : ∀ a, A = some a → W.heap.size ≤ a.block) (hg : ∀ a, B = some a → W.heap.size ≤ a.block) : Sb w l (rs ++ [(A, n, c, V), (B, m, d, U)]) W2 := by
  have hn := h.next hb
  refine ⟨hn.k, hn.lo, hn.ne, fun r hr => ?_, fun r hr x hx h0 a ha => ?_, hn.bel⟩
  · rcases List.mem_append.1 hr with h1 | h1
    · exact hn.tr r h1
    · rcases (by simpa using h1 : r = _ ∨ r = _) with rfl | rfl
      · exact ht
      · exact hu
  · rcases List.mem_append.1 hr with h1 | h1
    · exact h.ap r h1 x hx h0 a ha
    · have h3 := h.lt hx
      rcases (by simpa using h1 : r = _ ∨ r = _) with rfl | rfl
      · have h2 := hf a ha
        omega
      · have h2 := hg a ha
        omega
theorem Sb.put (h : Sb w l rs W) {i : Nat} (hl : l[i]? = some (g, cs, T)) (hk : W2.heap[g]? = some (.cells cs' T (0, 0))) (ho : ∀ k, k ≠ g → W2.heap[k]? = W.heap[k]?) (hs : W.heap.size ≤ W2.heap.size) (hb : Below w.heap.size W W2) : Sb w (l.set i (g, cs', T)) rs W2 := by
  have hi : i < l.length := (List.getElem?_eq_some_iff.1 hl).1
  have hm := List.mem_of_getElem? hl
  have key : ∀ {j x}, (l.set i (g, cs', T))[j]? = some x → ∃ y, l[j]? = some y ∧ x.1 = y.1 ∧ (j ≠ i → x = y) ∧ (j = i → x = (g, cs', T)) := by
    intro j x hj
    rw [List.getElem?_set] at hj
    split at hj
    · rename_i h1
      subst h1
      try rw [if_pos hi] at hj
      injection hj with hj
      exact ⟨_, hl, by rw [← hj], fun h => absurd rfl h, fun _ => hj.symm⟩
    · rename_i h1
      exact ⟨x, hj, rfl, fun _ => rfl, fun h => absurd h.symm h1⟩
  have mem : ∀ {x}, x ∈ l.set i (g, cs', T) → ∃ j, (l.set i (g, cs', T))[j]? = some x := fun hx => List.getElem?_of_mem hx
  refine ⟨fun x hx => ?_, fun x hx => ?_, fun j j' x y hx hy hne => ?_, fun r hr => ?_, fun r hr x hx h0 a ha => ?_, h.bel.trans hb⟩
  · obtain ⟨j, hj⟩ := mem hx
    obtain ⟨y, h1, h2, h3, h4⟩ := key hj
    by_cases hji : j = i
    · rw [h4 hji]; exact hk
    · rw [h3 hji]
      exact (ho _ (h.ne j i y _ h1 hl hji)).trans (h.k y (List.mem_of_getElem? h1))
  · obtain ⟨j, hj⟩ := mem hx
    obtain ⟨y, h1, h2, h3, h4⟩ := key hj
    rw [h2]
    exact h.lo y (List.mem_of_getElem? h1)
  · obtain ⟨x', h1, h2, _, _⟩ := key hx
    obtain ⟨y', h3, h4, _, _⟩ := key hy
    rw [h2, h4]
    exact h.ne j j' x' y' h1 h3 hne
  · exact (h.tr r hr).keep (fun h0 a ha => ho _ (h.ap r hr _ hm h0 a ha)) hs
  · obtain ⟨j, hj⟩ := mem hx
    obtain ⟨y, h1, h2, h3, h4⟩ := key hj
    rw [h2]
    exact h.ap r hr y (List.mem_of_getElem? h1) h0 a ha
theorem Sb.set2 (h : Sb w l rs W) {i : Nat} {x0 x1 : Value} (hl : l[i]? = some (g, #[x0, x1], T)) (x y : Value) : Sb w (l.set i (g, #[x, y], T)) rs ((W.setCell ⟨g, 0, none⟩ x).setCell ⟨g, 1, none⟩ y) :=
  h.put hl (qset (h.k _ (List.mem_of_getElem? hl)) x y) (fun k hk => qoth hk x y) (Nat.le_of_eq (qsz x y).symm) (below_set2 (Below.refl _ _) (h.lo _ (List.mem_of_getElem? hl)) x y)
theorem Sb.set3 (h : Sb w l rs W) {i : Nat} {x0 x1 x2 : Value} (hl : l[i]? = some (g, #[x0, x1, x2], T)) (x y z : Value) : Sb w (l.set i (g, #[x, y, z], T)) rs (((W.setCell ⟨g, 0, none⟩ x).setCell ⟨g, 1, none⟩ y).setCell ⟨g, 2, none⟩ z) :=
  h.put hl (Bq.self3 ⟨h.k _ (List.mem_of_getElem? hl), h.lt (List.mem_of_getElem? hl)⟩ x y z).k (fun k hk => (Below.heap_setCell _ ⟨g, 2, none⟩ z k hk).trans (qoth hk x y)) (Nat.le_of_eq (qsz3 x y z).symm) (below_set3 (Below.refl _ _) (h.lo _ (List.mem_of_getElem? hl)) x y z)
theorem Sb.set4 (h : Sb w l rs W) {i : Nat} {x0 x1 x2 x3 : Value} (hl : l[i]? = some (g, #[x0, x1, x2, x3], T)) (x y z u : Value) : Sb w (l.set i (g, #[x, y, z, u], T)) rs ((((W.setCell ⟨g, 0, none⟩ x).setCell ⟨g, 1, none⟩ y).setCell ⟨g, 2, none⟩ z).setCell ⟨g, 3, none⟩ u) :=
  h.put hl (Bq.self4 ⟨h.k _ (List.mem_of_getElem? hl), h.lt (List.mem_of_getElem? hl)⟩ x y z u).k (fun k hk => qoth4 hk x y z u) (Nat.le_of_eq (qsz4 x y z u).symm) (below_set4 (Below.refl _ _) (h.lo _ (List.mem_of_getElem? hl)) x y z u)
theorem Sb.pick (h : Sb w l rs W) (is : List Nat) (l' : List (Nat × Array Value × TypeId)) (rs' : List (Option Addr × Nat × Nat × Nat)) (hl : is.map (fun i : Nat => l[i]?) = l'.map some) (hn : is.Nodup) (hr : ∀ r ∈ rs', r ∈ rs) : Sb w l' rs' W := by
  have at' : ∀ {j : Nat} {x : Nat × Array Value × TypeId}, l'[j]? = some x → ∃ i, is[j]? = some i ∧ l[i]? = some x := by
    intro j x hj
    have h1 : (l'.map some)[j]? = some (some x) := by rw [List.getElem?_map, hj]; rfl
    rw [← hl, List.getElem?_map] at h1
    obtain ⟨i, h2, h3⟩ := Option.map_eq_some_iff.1 h1
    exact ⟨i, h2, h3⟩
  have mem : ∀ {x : Nat × Array Value × TypeId}, x ∈ l' → x ∈ l := fun hx => by
    obtain ⟨j, hj⟩ := List.getElem?_of_mem hx
    obtain ⟨i, _, h2⟩ := at' hj
    exact List.mem_of_getElem? h2
  refine ⟨fun x hx => h.k x (mem hx), fun x hx => h.lo x (mem hx), fun j j' x y hx hy hne => ?_, fun r hr' => h.tr r (hr r hr'), fun r hr' x hx => h.ap r (hr r hr') x (mem hx), h.bel⟩
  obtain ⟨i, h1, h2⟩ := at' hx
  obtain ⟨i', h3, h4⟩ := at' hy
  refine h.ne i i' x y h2 h4 fun e => hne ?_
  subst e
  obtain ⟨ha, hb⟩ := List.getElem?_eq_some_iff.1 h1
  obtain ⟨hc, hd⟩ := List.getElem?_eq_some_iff.1 h3
  exact (List.getElem_inj hn).1 (hb.trans hd.symm)
theorem wexi (_ : Sb w l rs W) : ∃ V, V = W := ⟨_, rfl⟩
theorem Sb.rw (h : Sb w l rs W) {i n c V : Nat} {A : Option Addr} (hl : rs[i]? = some (A, n, c, V)) : Tr W A n c V := h.tr _ (List.mem_of_getElem? hl)
theorem Sb.at (h : Sb w l rs W) {i : Nat} (hl : l[i]? = some (g, cs, T)) : W.heap[g]? = some (.cells cs T (0, 0)) := h.k _ (List.mem_of_getElem? hl)
theorem Sb.c2 (h : Sb w l rs W) {i : Nat} {x0 x1 : Value} (hl : l[i]? = some (g, #[x0, x1], T)) : W.cell? ⟨g, 0, none⟩ = some x0 ∧ W.cell? ⟨g, 1, none⟩ = some x1 := ⟨(blk_cells (h.at hl)).1, (blk_cells (h.at hl)).2.1⟩
theorem Sb.f2 (h : Sb w l rs W) {i : Nat} {x0 x1 : Value} (hl : l[i]? = some (g, #[x0, x1], T)) : W.frozen? ⟨g, 0, none⟩ = false ∧ W.frozen? ⟨g, 1, none⟩ = false := ⟨(blk_cells (h.at hl)).2.2.1, (blk_cells (h.at hl)).2.2.2⟩
theorem Sb.c3 (h : Sb w l rs W) {i : Nat} {x0 x1 x2 : Value} (hl : l[i]? = some (g, #[x0, x1, x2], T)) : W.cell? ⟨g, 0, none⟩ = some x0 ∧ W.cell? ⟨g, 1, none⟩ = some x1 ∧ W.cell? ⟨g, 2, none⟩ = some x2 := ⟨(blk3 (h.at hl)).1, (blk3 (h.at hl)).2.1, (blk3 (h.at hl)).2.2.1⟩
theorem Sb.f3 (h : Sb w l rs W) {i : Nat} {x0 x1 x2 : Value} (hl : l[i]? = some (g, #[x0, x1, x2], T)) : W.frozen? ⟨g, 0, none⟩ = false ∧ W.frozen? ⟨g, 1, none⟩ = false ∧ W.frozen? ⟨g, 2, none⟩ = false := (blk3 (h.at hl)).2.2.2
theorem Sb.c4 (h : Sb w l rs W) {i : Nat} {x0 x1 x2 x3 : Value} (hl : l[i]? = some (g, #[x0, x1, x2, x3], T)) : W.cell? ⟨g, 0, none⟩ = some x0 ∧ W.cell? ⟨g, 1, none⟩ = some x1 ∧ W.cell? ⟨g, 2, none⟩ = some x2 ∧ W.cell? ⟨g, 3, none⟩ = some x3 := blk4 (h.at hl)
theorem Sb.f4 (h : Sb w l rs W) {i : Nat} {x0 x1 x2 x3 : Value} (hl : l[i]? = some (g, #[x0, x1, x2, x3], T)) : W.frozen? ⟨g, 0, none⟩ = false ∧ W.frozen? ⟨g, 1, none⟩ = false ∧ W.frozen? ⟨g, 2, none⟩ = false ∧ W.frozen? ⟨g, 3, none⟩ = false := fro4 (h.at hl)
end


def takeB (md : Region.Mode) (ops : Array Oper) (L : List Nat) (listed : Array Bool) (i : Nat) : Bool :=
  Region.noSelect ops && Region.free md ops listed i && (Region.ready md ops listed).contains i && closedB md ops listed && L.all (fun j => waits md ops i ops.size j)
theorem tk {P : Program} {ops : Array Oper} {Q : Exit → Act → World → Prop} {md : Region.Mode} {S : World → Prop} {L : List Nat} {i : Nat} {oi : Oper} {v : Value} {fuel : Nat} {listed : Array Bool} {a : Act} {w : World} (hi : ops[i]? = some oi) (hb : takeB md ops L listed i = true)
    (hQ : ∀ c a w, Q (.panic c) (a.put oi.dst v) w → Q (.panic c) a w) (hS : S w) (hy : YieldsIf P ops S oi v a)
    (h : wpLate P md ops Q S L fuel (listed.setIfInBounds i true) (a.put oi.dst v) w) : wpLate P md ops Q S L (fuel + 1) listed a w := by
  simp only [takeB, Bool.and_eq_true] at hb
  obtain ⟨⟨⟨⟨h1, h2⟩, h3⟩, h4⟩, h5⟩ := hb
  exact wpLate_take hi h1 h2 h3 h4 h5 hQ hy hS h
theorem seti {α : Type} (xs : List α) (i : Nat) (a : α) : xs.toArray.setIfInBounds i a = (xs.set i a).toArray := List.setIfInBounds_toArray ..
theorem set0 {α : Type} (x y : α) (xs : List α) : (x :: xs).set 0 y = y :: xs := rfl
theorem setS {α : Type} (x y : α) (xs : List α) (n : Nat) : (x :: xs).set (n + 1) y = x :: xs.set n y := rfl
end Go.Proofs.YtahehlajpaoiiaaGreatDoor


namespace Go.Proofs.YtahehlajpaoiiaaGreatDoor
open Go.RowKit

inductive Eff
  | val (v : Value)
  | new (cs : Array Value) (T : TypeId)
  | rel (p : Value → World → Prop)

structure Rg (w0 : World) (a0 : Act) (ef : List Eff) (ds : List Nat) (listed : Array Bool) (a : Act) (w : World) : Prop where
  bel : Below w0.heap.size w0 w
  sz : a.tmps.size = a0.tmps.size
  df : a.defers = a0.defers
  keep : ∀ k, k ∉ ds → a.tmps.getD k undef = a0.tmps.getD k undef
  val : ∀ i v, listed.getD i false = true → ef[i]? = some (.val v) → a.tmps.getD (ds.getD i 0) undef = v
  new : ∀ i cs T, listed.getD i false = true → ef[i]? = some (.new cs T) → ∃ g, a.tmps.getD (ds.getD i 0) undef = .pointer (some ⟨g, 0, none⟩) ∧ w0.heap.size ≤ g ∧ w.heap[g]? = some (.cells cs T (0, 0))
  rel : ∀ i p, listed.getD i false = true → ef[i]? = some (.rel p) → p (a.tmps.getD (ds.getD i 0) undef) w
  ne : ∀ i j cs T cs' T' g, i ≠ j → listed.getD i false = true → listed.getD j false = true → ef[i]? = some (.new cs T) → ef[j]? = some (.new cs' T') → a.tmps.getD (ds.getD i 0) undef = .pointer (some ⟨g, 0, none⟩) → a.tmps.getD (ds.getD j 0) undef ≠ .pointer (some ⟨g, 0, none⟩)

def Did (ef : List Eff) (i : Nat) (w : World) (v : Value) (w' : World) : Prop :=
  (ef[i]? = some (.val v) ∧ Below w.heap.size w w') ∨ (∃ cs T, ef[i]? = some (.new cs T) ∧ v = .pointer (some ⟨w.heap.size, 0, none⟩) ∧ w' = w.alloc (.cells cs T)) ∨ (∃ p, ef[i]? = some (.rel p) ∧ p v w' ∧ Below w.heap.size w w')

def Stays (ef : List Eff) : Prop := ∀ (i : Nat) (p : Value → World → Prop), ef[i]? = some (.rel p) → ∀ v w w', p v w → Below w.heap.size w w' → p v w'

theorem put_at (a : Act) (d : Nat) (v : Value) (h : d < a.tmps.size) : (a.put (some d) v).tmps.getD d undef = v := by
  simp [Act.put, Array.getD_eq_getD_getElem?, h]
theorem put_not (a : Act) {d k : Nat} (v : Value) (h : d ≠ k) : (a.put (some d) v).tmps.getD k undef = a.tmps.getD k undef := by
  simp [Act.put, Array.getD_eq_getD_getElem?, Array.getElem?_setIfInBounds_ne h]
theorem put_size (a : Act) (d : Nat) (v : Value) : (a.put (some d) v).tmps.size = a.tmps.size := by simp [Act.put]

section
variable {w0 w w' : World} {a0 a : Act} {ef : List Eff} {ds : List Nat} {listed : Array Bool} {i d : Nat}
theorem nodup_ne (hnd : ds.Nodup) (hi : ds[i]? = some d) {j : Nat} (hj : j < ds.length) (hne : j ≠ i) : ds.getD j 0 ≠ d := by
  intro e
  obtain ⟨h1, h2⟩ := List.getElem?_eq_some_iff.1 hi
  have h3 : ds[j] = ds[i] := by
    rw [h2, ← e]
    simp [List.getD, hj]
  exact hne ((List.getElem_inj hnd).1 h3)

theorem Rg.step (h : Rg w0 a0 ef ds listed a w) (hst : Stays ef) (hnd : ds.Nodup) (hlen : ef.length = ds.length) (hi : ds[i]? = some d) (hd : d < a0.tmps.size) (hl : listed.getD i false = false) (hs : i < listed.size) {v : Value} (hdid : Did ef i w v w') :
    Rg w0 a0 ef ds (listed.setIfInBounds i true) (a.put (some d) v) w' := by
  have hdi : ds.getD i 0 = d := by simp [List.getD, hi]
  have hmem : d ∈ ds := List.mem_of_getElem? hi
  have hda : d < a.tmps.size := by rw [h.sz]; exact hd
  have hb : Below w.heap.size w w' := by
    rcases hdid with ⟨_, hb⟩ | ⟨cs, T, _, _, rfl⟩ | ⟨p, _, _, hb⟩
    · exact hb
    · exact below_new _ _
    · exact hb
  have was : ∀ {j : Nat}, j ≠ i → (listed.setIfInBounds i true).getD j false = true → listed.getD j false = true := fun hne hj => by
    rw [getD_set_ne false (Ne.symm hne)] at hj
    exact hj
  have other : ∀ {j : Nat} {x : Eff}, j ≠ i → ef[j]? = some x → (a.put (some d) v).tmps.getD (ds.getD j 0) undef = a.tmps.getD (ds.getD j 0) undef := fun hne hj => by
    have hjl := (List.getElem?_eq_some_iff.1 hj).1
    exact put_not a v (Ne.symm (nodup_ne hnd hi (by omega) hne))
  refine ⟨h.bel.trans (hb.mono h.bel.size), (put_size a d v).trans h.sz, h.df, fun k hk => ?_, fun j u hj he => ?_, fun j cs T hj he => ?_, fun j p hj he => ?_, fun j k cs T cs' T' g hne hj hk he hf hg => ?_⟩
  · rw [put_not a (k := k) v (fun e : d = k => hk (by rw [← e]; exact hmem))]
    exact h.keep k hk
  · by_cases hji : j = i
    · subst hji
      rw [hdi, put_at a d v hda]
      rcases hdid with ⟨h1, _⟩ | ⟨cs, T, h1, _, _⟩ | ⟨p, h1, _, _⟩
      · rw [he] at h1; injection h1 with h1; injection h1 with h1; exact h1.symm
      · rw [he] at h1; injection h1 with h1; cases h1
      · rw [he] at h1; injection h1 with h1; cases h1
    · rw [other hji he]
      exact h.val j u (was hji hj) he
  · by_cases hji : j = i
    · subst hji
      rw [hdi, put_at a d v hda]
      rcases hdid with ⟨h1, _⟩ | ⟨cs', T', h1, hv, hw⟩ | ⟨p, h1, _, _⟩
      · rw [he] at h1; injection h1 with h1; cases h1
      rotate_left
      · rw [he] at h1; injection h1 with h1; cases h1
      · rw [he] at h1
        injection h1 with h1
        injection h1 with h1 h2
        subst h1
        subst h2
        subst hv
        subst hw
        exact ⟨_, rfl, h.bel.size, heap_one _ _⟩
    · rw [other hji he]
      obtain ⟨g, h1, h2, h3⟩ := h.new j cs T (was hji hj) he
      exact ⟨g, h1, h2, (hb.block _ (Array.getElem?_eq_some_iff.1 h3).1).trans h3⟩
  · by_cases hji : j = i
    · subst hji
      rw [hdi, put_at a d v hda]
      rcases hdid with ⟨h1, _⟩ | ⟨cs, T, h1, _, _⟩ | ⟨p', h1, hp, _⟩
      · rw [he] at h1; injection h1 with h1; cases h1
      · rw [he] at h1; injection h1 with h1; cases h1
      · rw [he] at h1
        injection h1 with h1
        injection h1 with h1
        subst h1
        exact hp
    · rw [other hji he]
      exact hst j p he _ _ _ (h.rel j p (was hji hj) he) hb
  · by_cases hji : j = i
    · subst hji
      have hki : k ≠ j := Ne.symm hne
      rw [other hki hf]
      rw [hdi, put_at a d v hda] at hg
      rcases hdid with ⟨h1, _⟩ | ⟨cs2, T2, h1, hv, hw⟩ | ⟨p, h1, _, _⟩
      · rw [he] at h1; injection h1 with h1; cases h1
      rotate_left
      · rw [he] at h1; injection h1 with h1; cases h1
      · obtain ⟨g', h2, h3, h4⟩ := h.new k cs' T' (was hki hk) hf
        rw [h2]
        rw [hv] at hg
        intro e
        rw [← hg] at e
        injection e with e
        injection e with e
        injection e with e
        have := (Array.getElem?_eq_some_iff.1 h4).1
        omega
    · by_cases hki : k = i
      · subst hki
        rw [other hji he] at hg
        rw [hdi, put_at a d v hda]
        rcases hdid with ⟨h1, _⟩ | ⟨cs2, T2, h1, hv, hw⟩ | ⟨p, h1, _, _⟩
        · rw [hf] at h1; injection h1 with h1; cases h1
        rotate_left
        · rw [hf] at h1; injection h1 with h1; cases h1
        · obtain ⟨g', h2, h3, h4⟩ := h.new j cs T (was hji hj) he
          rw [h2] at hg
          rw [hv]
          intro e
          rw [← hg] at e
          injection e with e
          injection e with e
          injection e with e
          have := (Array.getElem?_eq_some_iff.1 h4).1
          omega
      · rw [other hji he] at hg
        rw [other hki hf]
        exact h.ne j k cs T cs' T' g hne (was hji hj) (was hki hk) he hf hg
end

def okOps (md : Region.Mode) (ops : Array Oper) (ds : List Nat) : Bool :=
  (List.range ops.size).all (fun j => match ops[j]? with
    | some o => if j < ds.length then decide (o.dst = some (ds.getD j 0)) && o.guard.isNone && o.after.all (fun e => !Region.binds md e || decide (e.on < j))
      else (List.range ds.length).all (fun i => waits md ops i ops.size j)
    | none => false) && decide (ds.length ≤ ops.size)

def deps (md : Region.Mode) (o : Oper) : List Nat := (o.after.toList.filter (Region.binds md)).map (·.on)

def mark (n m : Nat) : Array Bool := ((List.range n).map (fun i => decide (i < m))).toArray

theorem rg_run {P : Program} {md : Region.Mode} {ops : Array Oper} {Q : Exit → Act → World → Prop} {w0 : World} {a0 : Act} {ef : List Eff} {ds : List Nat} (hok : okOps md ops ds = true) (hst : Stays ef) (hnd : ds.Nodup) (hlen : ef.length = ds.length) (hsz : ∀ d ∈ ds, d < a0.tmps.size)
    (hop : ∀ i d o, ds[i]? = some d → ops[i]? = some o → ∀ (listed : Array Bool) (a : Act) (w : World), Rg w0 a0 ef ds listed a w → (∀ j ∈ deps md o, listed.getD j false = true) → ∀ K : Act → World → Prop, (∀ v w', Did ef i w v w' → K (a.put (some d) v) w') → Oper.wp P o a w K Q)
    (f : Nat) (hfin : ∀ a w, Rg w0 a0 ef ds (mark ops.size ds.length) a w → wpAny P md ops Q f (mark ops.size ds.length) a w) :
    wpAny P md ops Q (ds.length + f) (Array.replicate ops.size false) a0 w0 := by
  simp only [okOps, Bool.and_eq_true, List.all_eq_true, List.mem_range, decide_eq_true_eq] at hok
  obtain ⟨hok, hle⟩ := hok
  have first : ∀ {j o}, ops[j]? = some o → j < ds.length → o.dst = some (ds.getD j 0) ∧ o.guard = none ∧ ∀ e ∈ o.after, Region.binds md e = true → e.on < j := by
    intro j o ho hj
    have h1 := hok j (Array.getElem?_eq_some_iff.1 ho).1
    rw [ho] at h1
    simp only [hj, if_true, Bool.and_eq_true, decide_eq_true_eq] at h1
    refine ⟨h1.1.1, by simpa using h1.1.2, fun e he hb => ?_⟩
    have h2 := Array.all_eq_true_iff_forall_mem.1 h1.2 e he
    simpa [hb] using h2
  have later : ∀ {j o}, ops[j]? = some o → ds.length ≤ j → ∀ i, i < ds.length → waits md ops i ops.size j = true := by
    intro j o ho hj i hi
    have h1 := hok j (Array.getElem?_eq_some_iff.1 ho).1
    rw [ho] at h1
    simp only [show ¬ j < ds.length by omega, if_false, List.all_eq_true, List.mem_range] at h1
    exact h1 i hi
  have key : ∀ (n : Nat) (L : List Nat) (listed : Array Bool) (a : Act) (w : World), L.length = n → L.Nodup → (∀ i, i ∈ L ↔ i < ds.length ∧ listed.getD i false = false) → listed.size = ops.size → (∀ j, ds.length ≤ j → listed.getD j false = false) → Closed md ops listed → Rg w0 a0 ef ds listed a w → wpAny P md ops Q (n + f) listed a w := by
    intro n
    induction n with
    | zero =>
      intro L listed a w hL _ hmem hs hz hc hr
      have hnil : L = [] := List.eq_nil_of_length_eq_zero hL
      have he : listed = mark ops.size ds.length := by
        apply Array.ext
        · simp [mark, hs]
        · intro i h1 h2
          have h3 : listed.getD i false = listed[i] := by simp [Array.getD, h1]
          by_cases hi : i < ds.length
          · have h4 : listed.getD i false = true := by
              cases hg : listed.getD i false
              · have := (hmem i).2 ⟨hi, hg⟩
                rw [hnil] at this
                simp at this
              · rfl
            rw [h3] at h4
            simp [mark, hi, h4]
          · have h4 := hz i (by omega)
            rw [h3] at h4
            simp [mark, hi, h4]
      subst he
      rw [Nat.zero_add]
      exact hfin a w hr
    | succ n ih =>
      intro L listed a w hL hndL hmem hs hz hc hr
      rw [show n + 1 + f = (n + f) + 1 by omega]
      have one : ∀ i, i < ds.length → listed.getD i false = false → ∃ j, j ∈ Region.ready md ops listed := by
        intro i
        induction i using Nat.strongRecOn with
        | ind i ihi =>
          intro hi hl
          have ho : ∃ o, ops[i]? = some o := ⟨ops[i]'(by omega), Array.getElem?_eq_getElem _⟩
          obtain ⟨o, ho⟩ := ho
          by_cases hall : ∀ e ∈ o.after, Region.binds md e = true → listed.getD e.on false = true
          · refine ⟨i, mem_ready.2 ⟨?_, o, ho, hall⟩⟩
            have h1 : i < listed.size := by omega
            simp [Array.getD, h1] at hl ⊢
            exact hl
          · have h1 : ∃ e, e ∈ o.after ∧ Region.binds md e = true ∧ listed.getD e.on false = false := by
              apply Classical.byContradiction
              intro hno
              apply hall
              intro e he hb
              cases hg : listed.getD e.on false
              · exact absurd ⟨e, he, hb, hg⟩ hno
              · rfl
            obtain ⟨e, he, hb, hg⟩ := h1
            have h2 := (first ho hi).2.2 e he hb
            exact ihi e.on h2 (by omega) hg
      have hne : ∃ i, i ∈ L := by
        cases L with
        | nil => simp at hL
        | cons x t => exact ⟨x, by simp⟩
      obtain ⟨i0, hi0⟩ := hne
      have hi0' := (hmem i0).1 hi0
      refine ⟨fun h0 => ?_, fun j hj => ?_⟩
      · obtain ⟨j, hj⟩ := one i0 hi0'.1 hi0'.2
        rw [h0] at hj
        simp at hj
      · obtain ⟨hju, o, ho, hall⟩ := mem_ready.1 hj
        have hjs : j < listed.size := by have := (Array.getElem?_eq_some_iff.1 ho).1; omega
        have hjl : j < ds.length := by
          rcases Nat.lt_or_ge j ds.length with h | h
          · exact h
          · exfalso
            have hw := later ho h i0 hi0'.1
            -- what it waits for has come up
            have h1 : listed.getD i0 false = true := by
              cases hf : ops.size with
              | zero => rw [hf] at hw; simp [waits] at hw
              | succ m =>
                rw [hf] at hw
                unfold waits at hw
                rw [ho] at hw
                obtain ⟨e, he, hb⟩ := Array.any_eq_true'.1 hw
                simp only [Bool.and_eq_true, Bool.or_eq_true, beq_iff_eq] at hb
                have h2 := hall e he hb.1
                rcases hb.2 with h3 | h3
                · rw [← h3]; exact h2
                · exact waits_listed hc m e.on h3 h2
            rw [hi0'.2] at h1
            cases h1
        have hjf : listed.getD j false = false := by
          simp [Array.getD, hjs] at hju ⊢
          exact hju
        have hdj : ds[j]? = some (ds.getD j 0) := by simp [List.getD, hjl]
        obtain ⟨f1, f2, _⟩ := first ho hjl
        refine wpOp_step ho (fun K' hK => ?_)
        rw [if_pos (by unfold Region.wanted; rw [f2])]
        refine hop j _ o hdj ho listed a w hr (fun k hk => ?_) K' (fun v w' hd => ?_)
        · obtain ⟨e, he, rfl⟩ := List.mem_map.1 hk
          rw [List.mem_filter] at he
          exact hall e (by simpa using he.1) he.2
        have hr2 := hr.step hst hnd hlen hdj (hsz _ (List.mem_of_getElem? hdj)) hjf hjs hd
        refine hK _ _ (ih (L.erase j) _ _ _ ?_ (hndL.erase j) (fun i => ?_) (by simp [hs]) (fun k hk => ?_) (closed_set hc hj) hr2)
        · rw [List.length_erase_of_mem ((hmem j).2 ⟨hjl, hjf⟩), hL]; rfl
        · rw [hndL.mem_erase_iff, hmem i]
          constructor
          · rintro ⟨h1, h2, h3⟩
            exact ⟨h2, by rw [getD_set_ne false (Ne.symm h1)]; exact h3⟩
          · rintro ⟨h2, h3⟩
            have h1 : i ≠ j := by
              rintro rfl
              simp [Array.getD, hjs] at h3
            rw [getD_set_ne false (Ne.symm h1)] at h3
            exact ⟨h1, h2, h3⟩
        · rw [getD_set_ne false (by omega)]
          exact hz k hk
  have hb0 : ∀ j, (Array.replicate ops.size false).getD j false = false := fun j => by
    by_cases h : j < ops.size <;> simp [Array.getD, h]
  refine key ds.length (List.range ds.length) _ a0 w0 (by simp) List.nodup_range (fun i => ?_) (by simp) (fun j _ => hb0 j) (fun j o _ hj => ?_) ⟨Below.refl _ _, rfl, rfl, fun _ _ => rfl, fun j v hj => ?_, fun j cs T hj => ?_, fun j p hj => ?_, fun j k cs T cs' T' g _ hj => ?_⟩
  · rw [List.mem_range, hb0]
    simp
  · rw [hb0] at hj; cases hj
  · rw [hb0] at hj; cases hj
  · rw [hb0] at hj; cases hj
  · rw [hb0] at hj; cases hj
  · rw [hb0] at hj; cases hj

theorem arr_fold {ds : List Nat} : ∀ {t t0 : Array Value}, t.size = t0.size → (∀ k, k ∉ ds → t.getD k undef = t0.getD k undef) → t = ds.foldl (fun b d => b.setIfInBounds d (t.getD d undef)) t0 := by
  induction ds with
  | nil =>
    intro t t0 hs hk
    apply Array.ext hs
    intro i h1 h2
    have h := hk i (by simp)
    simpa [Array.getD, h1, h2] using h
  | cons d ds ih =>
    intro t t0 hs hk
    rw [List.foldl_cons]
    refine ih (by simpa using hs) fun k hkd => ?_
    by_cases h : k = d
    · subst h
      by_cases h1 : k < t0.size
      · simp [Array.getD_eq_getD_getElem?, h1]
      · have h2 : ¬ k < t.size := by omega
        simp [Array.getD_eq_getD_getElem?, h1, h2]
    · rw [hk k (by simp [h, hkd])]
      simp [Array.getD_eq_getD_getElem?, Array.getElem?_setIfInBounds_ne (Ne.symm h)]

theorem Rg.act {w0 w : World} {a0 a : Act} {ef : List Eff} {ds : List Nat} {listed : Array Bool} (h : Rg w0 a0 ef ds listed a w) : a = ⟨ds.foldl (fun b d => b.setIfInBounds d (a.tmps.getD d undef)) a0.tmps, a0.defers⟩ := by
  have h1 := arr_fold h.sz h.keep
  have h2 := h.df
  cases a
  simp only at h1 h2
  rw [h2]
  congr 1

theorem Sb.add {w W0 W : World} {l : List (Nat × Array Value × TypeId)} {rs : List (Option Addr × Nat × Nat × Nat)} {g : Nat} {cs : Array Value} {T : TypeId} (h : Sb w l rs W0) (hb : Below W0.heap.size W0 W) (hg : W0.heap.size ≤ g) (hk : W.heap[g]? = some (.cells cs T (0, 0))) : Sb w (l ++ [(g, cs, T)]) rs W := by
  have hn := h.next hb
  refine ⟨fun x hx => ?_, fun x hx => ?_, fun i j x y hi hj hij => ?_, hn.tr, fun r hr x hx h0 a ha => ?_, hn.bel⟩
  · rcases List.mem_append.1 hx with h1 | h1
    · exact hn.k x h1
    · obtain rfl : x = _ := by simpa using h1
      exact hk
  · rcases List.mem_append.1 hx with h1 | h1
    · exact h.lo x h1
    · obtain rfl : x = _ := by simpa using h1
      exact Nat.le_trans h.bel.size hg
  · have key : ∀ {i x}, (l ++ [(g, cs, T)])[i]? = some x → (i < l.length ∧ l[i]? = some x) ∨ (i = l.length ∧ x.1 = g) := by
      intro i x hi
      rcases Nat.lt_trichotomy i l.length with h1 | h1 | h1
      · rw [List.getElem?_append_left h1] at hi
        exact .inl ⟨h1, hi⟩
      · subst h1
        rw [List.getElem?_append_right (Nat.le_refl _)] at hi
        simp at hi
        exact .inr ⟨rfl, by rw [← hi]⟩
      · rw [List.getElem?_append_right (by omega)] at hi
        obtain ⟨m, hm⟩ : ∃ m, i - l.length = m + 1 := ⟨i - l.length - 1, by omega⟩
        rw [hm] at hi
        simp at hi
    rcases key hi with ⟨h1, h2⟩ | ⟨h1, h2⟩ <;> rcases key hj with ⟨h3, h4⟩ | ⟨h3, h4⟩
    · exact h.ne i j x y h2 h4 hij
    · have := h.lt (List.mem_of_getElem? h2); omega
    · have := h.lt (List.mem_of_getElem? h4); omega
    · omega
  · rcases List.mem_append.1 hx with h1 | h1
    · exact h.ap r hr x h1 h0 a ha
    · obtain rfl : x = _ := by simpa using h1
      have h2 := (h.tr r hr).block_lt h0 ha
      show a.block ≠ g
      omega
theorem Sb.add2 {w W0 W : World} {l : List (Nat × Array Value × TypeId)} {rs : List (Option Addr × Nat × Nat × Nat)} {g g' : Nat} {cs cs' : Array Value} {T T' : TypeId} (h : Sb w l rs W0) (hb : Below W0.heap.size W0 W) (hg : W0.heap.size ≤ g) (hk : W.heap[g]? = some (.cells cs T (0, 0))) (hg' : W0.heap.size ≤ g') (hk' : W.heap[g']? = some (.cells cs' T' (0, 0))) (hne : g ≠ g') : Sb w (l ++ [(g, cs, T), (g', cs', T')]) rs W := by
  have h1 := h.add hb hg hk
  have h2 := h.add hb hg' hk'
  refine ⟨fun x hx => ?_, fun x hx => ?_, fun i j x y hi hj hij => ?_, h1.tr, fun r hr x hx => ?_, h1.bel⟩
  · rcases List.mem_append.1 hx with h3 | h3
    · exact h1.k x (by simp [h3])
    · rcases (by simpa using h3 : x = _ ∨ x = _) with rfl | rfl
      · exact h1.k _ (by simp)
      · exact h2.k _ (by simp)
  · rcases List.mem_append.1 hx with h3 | h3
    · exact h1.lo x (by simp [h3])
    · rcases (by simpa using h3 : x = _ ∨ x = _) with rfl | rfl
      · exact h1.lo _ (by simp)
      · exact h2.lo _ (by simp)
  · have key : ∀ {i x}, (l ++ [(g, cs, T), (g', cs', T')])[i]? = some x → (i < l.length ∧ l[i]? = some x) ∨ (i = l.length ∧ x.1 = g) ∨ (i = l.length + 1 ∧ x.1 = g') := by
      intro i x hi
      rcases Nat.lt_or_ge i l.length with h3 | h3
      · rw [List.getElem?_append_left h3] at hi
        exact .inl ⟨h3, hi⟩
      · rw [List.getElem?_append_right h3] at hi
        rcases Nat.lt_trichotomy (i - l.length) 1 with h4 | h4 | h4
        · rw [show i - l.length = 0 by omega] at hi
          simp at hi
          exact .inr (.inl ⟨by omega, by rw [← hi]⟩)
        · rw [h4] at hi
          simp at hi
          exact .inr (.inr ⟨by omega, by rw [← hi]⟩)
        · obtain ⟨m, hm⟩ : ∃ m, i - l.length = m + 2 := ⟨i - l.length - 2, by omega⟩
          rw [hm] at hi
          simp at hi
    have lo : ∀ {i : Nat} {x : Nat × Array Value × TypeId}, l[i]? = some x → x.1 < W0.heap.size := fun hi => h.lt (List.mem_of_getElem? hi)
    rcases key hi with ⟨h3, h4⟩ | ⟨h3, h4⟩ | ⟨h3, h4⟩ <;> rcases key hj with ⟨h5, h6⟩ | ⟨h5, h6⟩ | ⟨h5, h6⟩
    · exact h.ne i j x y h4 h6 hij
    · have := lo h4; omega
    · have := lo h4; omega
    · have := lo h6; omega
    · omega
    · omega
    · have := lo h6; omega
    · omega
    · omega
  · rcases List.mem_append.1 hx with h3 | h3
    · exact h1.ap r hr x (by simp [h3])
    · rcases (by simpa using h3 : x = _ ∨ x = _) with rfl | rfl
      · exact h1.ap r hr _ (by simp)
      · exact h2.ap r hr _ (by simp)

theorem stays_none {ef : List Eff} (h : ∀ e ∈ ef, ∀ p, e ≠ .rel p) : Stays ef := fun _ p he => absurd rfl (h _ (List.mem_of_getElem? he) p)

def Fine : Eff → Prop
  | .rel p => ∀ v w w', p v w → Below w.heap.size w w' → p v w'
  | _ => True
theorem stays_of {ef : List Eff} (h : ∀ e ∈ ef, Fine e) : Stays ef := fun _ _ he => h _ (List.mem_of_getElem? he)

def NoInt (cs : Array Value) : Prop := ∀ (j : Nat) (k : IntKind) (n : Int), cs[j]? ≠ some (.int k n)
theorem row_apart {W : World} {A : Option Addr} {n c V g : Nat} {cs : Array Value} {T : TypeId} (ht : Tr W A n c V) (hk : W.heap[g]? = some (.cells cs T (0, 0))) (hno : NoInt cs) (hn : 0 < n) (a : Addr) (ha : A = some a) : a.block ≠ g := by
  intro e
  obtain ⟨g', o, e', _, hc⟩ := ht.dg.rd hn
  rw [ha] at e'
  injection e' with e'
  subst e'
  have h1 := hc 0 hn
  have e2 : g' = g := e
  subst e2
  simp only [World.cell?, hk] at h1
  exact hno _ _ _ h1
theorem Sb.rows {w W : World} {l : List (Nat × Array Value × TypeId)} {rs : List (Option Addr × Nat × Nat × Nat)} (h : Sb w l rs W) (rs2 : List (Option Addr × Nat × Nat × Nat)) (ht : ∀ r ∈ rs2, Tr W r.1 r.2.1 r.2.2.1 r.2.2.2) (hno : ∀ x ∈ l, NoInt x.2.1) : Sb w l (rs ++ rs2) W :=
  ⟨h.k, h.lo, h.ne, fun r hr => (List.mem_append.1 hr).elim (h.tr r) (ht r), fun r hr x hx h0 a ha => (List.mem_append.1 hr).elim (fun h1 => h.ap r h1 x hx h0 a ha) (fun h1 => row_apart (ht r h1) (h.k x hx) (hno x hx) h0 a ha), h.bel⟩
end Go.Proofs.YtahehlajpaoiiaaGreatDoor


namespace Go.Proofs.YtahehlajpaoiiaaGreatDoor
open Go.RowKit
attribute [local go_sem ↓] Go.wp_at_zero Go.wp_at_succ

theorem rq_int {x : Int} {b : Bool} {m : ByteArray} (h : enc x = .agg #[.bool b, .string m]) : Rq (x : Rat) b m ⟨#[]⟩ := ⟨by rw [Rat.num_intCast]; exact h, by rw [Rat.den_intCast, dm_one]⟩
theorem divInt_1 (x : Int) : Rat.divInt x 1 = (x : Rat) := by
  rw [show (1 : Int) = ((1 : Nat) : Int) from rfl, Rat.divInt_ofNat]
  exact Rat.mkRat_one x

end Go.Proofs.YtahehlajpaoiiaaGreatDoor


namespace Go.Proofs.YtahehlajpaoiiaaGreatDoor
open Go.RowKit
attribute [local go_sem ↓] Go.wp_at_zero Go.wp_at_succ

def RetF2 (w : World) (b : Bool) (N D : Nat) (e : Ending) (w' : World) : Prop :=
  ∃ A n c B m d, e = .returned (.agg #[.bool b, .slice A n c, .slice B m d]) ∧ Tr w' A n c N ∧ Tr w' B m d D ∧ Below w.heap.size w w' ∧ (∀ a, A = some a → w.heap.size ≤ a.block) ∧ (∀ a, B = some a → w.heap.size ≤ a.block)

set_option maxHeartbeats 4000000 in
set_option maxRecDepth 100000 in
theorem rof2 {q : Rat} {b : Bool} {m k : ByteArray} (h : Rq q b m k) (hm : m.size ≤ 1000000) (hk : k.size ≤ 1000000) (w : World) :
    Calls Tryz.prog 74 #[.agg #[.bool b, .string m, .bool false, .string k]] w (RetF2 w b q.num.natAbs q.den) := by
  have HB := Lib.hid h.bval
  have KK := Lib.hid (Kb.start w #[.bool b, .string m, .bool false, .string k] #[.bool false, .slice none 0 0, .slice none 0 0] 25 75)
  have HD1 := Lib.hid (fun V => rdigits b m V (by omega))
  have HD2 := Lib.hid (fun V => rdigits false k V (by omega))
  by_cases hden : q.den = 1
  · have hk1 := h.den1 hden
    have hb0 : Go.Proofs.YtahehlajpaoiiaaGreatDoor.bval k = 0 := by rw [hk1]; rfl
    have HB0 := Lib.hid hb0
    have HDEN := Lib.hid hden
    clear h hden hk1 hb0
    go_enter Tryz.func74, Tryz.ntmps74
    go_wp2_with fail
    refine (HD2.out _).mono ?_
    rw [HB0.out]
    rintro e w1 ⟨A1, n1, c1, rfl, ht1, hb1, _⟩
    have hn1 : n1 = 0 := by rw [ht1.ln, nd_zero]
    subst hn1
    have K1 := Lib.hid (KK.out.next hb1)
    have K2 := Lib.hid ((K1.out.next ((Below.refl _ _).alloc (Nat.le_refl _) (.cells #[.int .i64 1] 3))).drew)
    have T1 := Lib.hid (tr_one w1)
    clear ht1 hb1
    obtain ⟨p0, p1, p2, p3⟩ := blk4 K2.out.k1
    go_wp2_with fail
    go_region_held3 (fun w' => w'.cell? ⟨w.heap.size, 0, none⟩ = some (.bool b) ∧ w'.cell? ⟨w.heap.size, 1, none⟩ = some (.string m))
      (first
        | exact ⟨q0, q1⟩
        | exact ⟨p0, p1⟩
        | go_keep)
      (first
        | (go_at_call 59; (with_reducible refine (HD1.out _).mono ?_); rw [HB.out]; rintro e w3 ⟨A3, n3, c3, rfl, ht3, hb3, hf3⟩; have K3 := Lib.hid (K2.out.next hb3); have T3 := Lib.hid ht3; have T4 := Lib.hid (T1.out.drew.below hb3); obtain ⟨q0, q1, q2, q3⟩ := blk4 K3.out.k1; obtain ⟨s0, s1, s2, f0, f1, f2⟩ := blk3 K3.out.k2))
    have HF := Lib.hid hf3
    have HS1 := Lib.hid K1.out.sz
    have HS2 := Lib.hid K2.out.sz
    clear ht3 hb3 hf3
    go_wp2
    refine bodyPost_ret (v := .agg #[.bool b, .slice A3 n3 c3, .slice (some ⟨w1.heap.size, 0, none⟩) 1 1]) (by simp [results, Tryz.results74, go_sem, s0, s1, s2]) rfl ⟨A3, n3, c3, _, 1, 1, rfl, T3.out.set3 (fun a ha => ?_) _ _ _, ?_, below_set3 K3.out.bel (by omega) _ _ _, fun a ha => by have h1 := HF.out a ha; have h2 := HS2.out; omega, fun a ha => by injection ha with ha; subst ha; have h1 := HS1.out; show _ ≤ w1.heap.size; omega⟩
    · have h1 := HF.out a ha
      have h2 := HS2.out
      omega
    · rw [HDEN.out]
      exact T4.out.set3 (fun a ha => by injection ha with ha; subst ha; have := HS1.out; show w1.heap.size ≠ _; omega) _ _ _
  · have hb0 : Go.Proofs.YtahehlajpaoiiaaGreatDoor.bval k = q.den := by rw [h.den2 hden, bval_mag]
    have HB0 := Lib.hid hb0
    have HP := Lib.hid q.den_pos
    clear h hden hb0
    go_enter Tryz.func74, Tryz.ntmps74
    go_wp2_with fail
    refine (HD2.out _).mono ?_
    rw [HB0.out]
    rintro e w1 ⟨A1, n1, c1, rfl, ht1, hb1, hf1⟩
    have hn1 : 0 < n1 := by rw [ht1.ln]; exact nd_pos HP.out
    have hne : ((n1 : Int) == 0) = false := by simp; omega
    have K1 := Lib.hid (KK.out.next hb1)
    have K2 := Lib.hid (K1.out.drew)
    have T1 := Lib.hid ht1
    have HF1 := Lib.hid hf1
    have HS0 := Lib.hid KK.out.sz
    clear ht1 hb1 hf1
    obtain ⟨p0, p1, p2, p3⟩ := blk4 K2.out.k1
    go_wp2_with fail
    clear hne
    go_region_held3 (fun w' => w'.cell? ⟨w.heap.size, 0, none⟩ = some (.bool b) ∧ w'.cell? ⟨w.heap.size, 1, none⟩ = some (.string m))
      (first
        | exact ⟨q0, q1⟩
        | exact ⟨p0, p1⟩
        | go_keep)
      (first
        | (go_at_call 59; (with_reducible refine (HD1.out _).mono ?_); rw [HB.out]; rintro e w3 ⟨A3, n3, c3, rfl, ht3, hb3, hf3⟩; have K3 := Lib.hid (K2.out.next hb3); have T3 := Lib.hid ht3; have T4 := Lib.hid (T1.out.drew.below hb3); obtain ⟨q0, q1, q2, q3⟩ := blk4 K3.out.k1; obtain ⟨s0, s1, s2, f0, f1, f2⟩ := blk3 K3.out.k2))
    have HF := Lib.hid hf3
    have HS2 := Lib.hid K2.out.sz
    clear ht3 hb3 hf3
    go_wp2
    refine bodyPost_ret (v := .agg #[.bool b, .slice A3 n3 c3, .slice A1 n1 c1]) (by simp [results, Tryz.results74, go_sem, s0, s1, s2]) rfl ⟨A3, n3, c3, A1, n1, c1, rfl, T3.out.set3 (fun a ha => ?_) _ _ _, T4.out.set3 (fun a ha => ?_) _ _ _, below_set3 K3.out.bel (by omega) _ _ _, fun a ha => by have h1 := HF.out a ha; have h2 := HS2.out; omega, fun a ha => by have h1 := HF1.out a ha; have h2 := HS0.out; omega⟩
    · have h1 := HF.out a ha
      have h2 := HS2.out
      omega
    · have h1 := HF1.out a ha
      have h2 := HS0.out
      omega

set_option maxHeartbeats 1000000 in
set_option maxRecDepth 100000 in
theorem rSign_f {q : Rat} {b : Bool} {m k : ByteArray} (h : Rq q b m k) (w : World) : Calls Tryz.prog 36 #[.agg #[.bool b, .string m, .bool false, .string k]] w (RetB w (.int .i64 q.num.sign)) := by
  have HB := Lib.hid (below_new w (.cells #[.bool b, .string m, .bool false, .string k] 25))
  obtain ⟨e1, e2⟩ := h.mag
  rcases Int.lt_trichotomy q.num 0 with h0 | h0 | h0
  · have hb : b = true := by rw [e1]; exact decide_eq_true h0
    have hne := toList_ne (l := []) (show m ≠ ⟨#[]⟩ from by rw [e2]; exact mag_no_nil (by omega))
    have hem : m.toList.isEmpty = false := by rw [List.isEmpty_eq_false_iff]; exact hne
    rw [Int.sign_eq_neg_one_of_neg h0]
    subst hb
    clear h e1 e2 h0
    go_enter Tryz.func36, Tryz.ntmps36
    go_wp2
    go_ret
    exact ⟨rfl, HB.out⟩
  · have hm : m = ⟨#[]⟩ := by rw [e2, h0]; exact mag_nil
    have hl : m.toList = [] := by rw [hm, ByteArray.toList_eq]
    have hem : m.toList.isEmpty = true := by rw [hl]; rfl
    rw [h0]
    clear h e1 e2 h0 hm
    go_enter Tryz.func36, Tryz.ntmps36
    go_wp2
    go_ret
    exact ⟨rfl, HB.out⟩
  · have hb : b = false := by rw [e1]; exact decide_eq_false (by omega)
    have hne := toList_ne (l := []) (show m ≠ ⟨#[]⟩ from by rw [e2]; exact mag_no_nil (by omega))
    have hem : m.toList.isEmpty = false := by rw [List.isEmpty_eq_false_iff]; exact hne
    rw [Int.sign_eq_one_of_pos h0]
    subst hb
    clear h e1 e2 h0
    go_enter Tryz.func36, Tryz.ntmps36
    go_wp2
    go_ret
    exact ⟨rfl, HB.out⟩

def FracP (b : Bool) (N D : Nat) (v : Value) (w : World) : Prop := ∃ A n c B m d, v = .agg #[.bool b, .slice A n c, .slice B m d] ∧ Tr w A n c N ∧ Tr w B m d D
theorem fine_frac (b : Bool) (N D : Nat) : Fine (.rel (FracP b N D)) := fun _ _ _ ⟨A, n, c, B, m, d, h, ht, hu⟩ hb => ⟨A, n, c, B, m, d, h, ht.below hb, hu.below hb⟩
end Go.Proofs.YtahehlajpaoiiaaGreatDoor


namespace Go.Proofs.YtahehlajpaoiiaaGreatDoor
open Go.RowKit
attribute [local go_sem ↓] Go.wp_at_zero Go.wp_at_succ

theorem Rq.turned {q r : Rat} {b1 b2 : Bool} {m1 m2 k1 k2 : ByteArray} (h : Rq q b1 m1 k1) (g : Rq r b2 m2 k2) (e : r.num.natAbs = q.num.natAbs) (d : r.den = q.den) : m2 = m1 ∧ k1 = k2 := by
  refine ⟨by rw [g.mag.2, h.mag.2, e], ?_⟩
  by_cases hd : q.den = 1
  · rw [h.den1 hd, g.den1 (d ▸ hd)]
  · rw [h.den2 hd, g.den2 (d ▸ hd), d]

set_option maxHeartbeats 1000000 in
set_option maxRecDepth 100000 in
theorem rNeg_f {q : Rat} {b b2 : Bool} {m k m2 k2 : ByteArray} (h : Rq q b m k) (g : Rq (-q) b2 m2 k2) (w : World) : Calls Tryz.prog 42 #[.agg #[.bool b, .string m, .bool false, .string k]] w (RetB w (.agg #[.bool b2, .string m2, .bool false, .string k2])) := by
  obtain ⟨rfl, rfl⟩ := h.turned g (by rw [Rat.neg_num, Int.natAbs_neg]) (Rat.neg_den q)
  obtain ⟨e1, e2⟩ := h.mag
  obtain ⟨f1, -⟩ := g.mag
  rw [Rat.neg_num] at f1
  rcases Int.lt_trichotomy q.num 0 with h0 | h0 | h0
  · have hb : b = true := by rw [e1]; exact decide_eq_true h0
    have hc : b2 = false := by rw [f1]; exact decide_eq_false (by omega)
    subst hb hc
    clear h g e1 e2 f1 h0
    go_enter Tryz.func42, Tryz.ntmps42
    go_wp2
    exact bodyPost_ret (v := .agg #[.bool false, .string m2, .bool false, .string k]) (by simp [results, Tryz.results42, go_sem]) rfl ⟨rfl, (((Sb.start w).new _ _).new _ _).bel⟩
  · have hb : b = false := by rw [e1, h0]; rfl
    have hc : b2 = false := by rw [f1, h0]; rfl
    have hm : m2 = ⟨#[]⟩ := by rw [e2, h0]; exact mag_nil
    have hl : m2.toList = [] := by rw [hm, ByteArray.toList_eq]
    have hem : m2.toList.isEmpty = true := by rw [hl]; rfl
    subst hb hc
    clear h g e1 e2 f1 h0 hm
    go_enter Tryz.func42, Tryz.ntmps42
    go_wp2
    exact bodyPost_ret (v := .agg #[.bool false, .string m2, .bool false, .string k]) (by simp [results, Tryz.results42, go_sem]) rfl ⟨rfl, (((Sb.start w).new _ _).new _ _).bel⟩
  · have hb : b = false := by rw [e1]; exact decide_eq_false (by omega)
    have hc : b2 = true := by rw [f1]; exact decide_eq_true (by omega)
    have hne := toList_ne (l := []) (show m2 ≠ ⟨#[]⟩ from by rw [e2]; exact mag_no_nil (by omega))
    have hem : m2.toList.isEmpty = false := by rw [List.isEmpty_eq_false_iff]; exact hne
    subst hb hc
    clear h g e1 e2 f1 h0
    go_enter Tryz.func42, Tryz.ntmps42
    go_wp2
    exact bodyPost_ret (v := .agg #[.bool true, .string m2, .bool false, .string k]) (by simp [results, Tryz.results42, go_sem]) rfl ⟨rfl, (((Sb.start w).new _ _).new _ _).bel⟩

set_option maxHeartbeats 4000000 in
set_option maxRecDepth 100000 in
theorem ratNeg_f {q : Rat} {b b2 : Bool} {m k m2 k2 : ByteArray} (h : Rq q b m k) (g : Rq (-q) b2 m2 k2) (w : World) : Calls Tryz.prog 41 #[.agg #[.bool b, .string m, .bool false, .string k]] w (RetB w (.agg #[.bool b2, .string m2, .bool false, .string k2])) := by
  obtain ⟨-, rfl⟩ := h.turned g (by rw [Rat.neg_num, Int.natAbs_neg]) (Rat.neg_den q)
  have hz := g.num
  rw [Rat.neg_num] at hz
  have HS := Lib.hid (fun V => negate_f h.num hz V)
  have X := Lib.hid (((Sb.start w).new #[.bool b, .string m, .bool false, .string k] 25).new #[.bool false, .string ⟨#[]⟩, .bool false, .string ⟨#[]⟩] 25)
  have X := Lib.hid (X.out.pick [0, 1] [(w.heap.size, #[.bool b, .string m, .bool false, .string k], 25), (w.heap.size + 1, #[.bool false, .string ⟨#[]⟩, .bool false, .string ⟨#[]⟩], 25)] [] (by simp) (by decide) (by simp))
  clear h g hz
  go_enter Tryz.func41, Tryz.ntmps41
  go_upto_region 1 with fail
  refine wp_region_late (S := fun w' => (w'.cell? ⟨w.heap.size, 0, none⟩ = some (.bool b) ∧ w'.cell? ⟨w.heap.size, 1, none⟩ = some (.string m) ∧ w'.cell? ⟨w.heap.size, 2, none⟩ = some (.bool false) ∧ w'.cell? ⟨w.heap.size, 3, none⟩ = some (.string k))) (L := []) (by kernel_rfl) ?_
  have X := Lib.hid X.out.drew
  obtain ⟨V0, hV⟩ := wexi X.out
  rw [← hV] at X ⊢
  clear hV
  refine tk (i := 0) (oi := ⟨some 3, _, _, _, _, _⟩) (v := _) rfl (by kernel_rfl) (fun _ _ _ h => h) (X.out.c4 (i := 0) rfl) (Or.inl ⟨by rfl, by intro w hSw; (try dsimp only at hSw); (first | (go_simp; done) | (go_simp; with_reducible rfl))⟩) ?_
  try simp only [Act.put, seti, set0, setS]
  refine tk (i := 1) (oi := ⟨some 4, _, _, _, _, _⟩) (v := _) rfl (by kernel_rfl) (fun _ _ _ h => h) (X.out.c4 (i := 0) rfl) (Or.inl ⟨by rfl, by intro w hSw; (try dsimp only at hSw); (first | (go_simp; done) | (go_simp; with_reducible rfl))⟩) ?_
  try simp only [Act.put, seti, set0, setS]
  refine tk (i := 3) (oi := ⟨some 6, _, _, _, _, _⟩) (v := _) rfl (by kernel_rfl) (fun _ _ _ h => h) (X.out.c4 (i := 0) rfl) (Or.inl ⟨by rfl, by intro w hSw; (try dsimp only at hSw); (first | (go_simp; done) | (go_simp; with_reducible rfl))⟩) ?_
  try simp only [Act.put, seti, set0, setS]
  refine tk (i := 4) (oi := ⟨some 7, _, _, _, _, _⟩) (v := _) rfl (by kernel_rfl) (fun _ _ _ h => h) (X.out.c4 (i := 0) rfl) (Or.inl ⟨by rfl, by intro w hSw; (try dsimp only at hSw); (first | (go_simp; done) | (go_simp; with_reducible rfl))⟩) ?_
  try simp only [Act.put, seti, set0, setS]
  refine wpLate_one (i := 2) (o := ⟨some 5, _, _, _, _, _⟩) (by kernel_rfl) rfl (fun K hK => ?_)
  go_simp
  (go_at_call 64; refine (HS.out _).mono ?_; rintro e u1 ⟨rfl, hb9⟩; have X := Lib.hid (X.out.next hb9); clear hb9)
  try go_wp2_with fail
  refine hK.out _ _ (Or.inr (fun _ => X.out.c4 (i := 0) rfl)) ?_
  clear hK K
  try simp only [Act.put, seti, set0, setS]
  refine tk (i := 5) (oi := ⟨some 8, _, _, _, _, _⟩) (v := _) rfl (by kernel_rfl) (fun _ _ _ h => h) (X.out.c4 (i := 0) rfl) (Or.inl ⟨by rfl, by intro w hSw; (try dsimp only at hSw); (first | (go_simp; done) | (go_simp; with_reducible rfl))⟩) ?_
  try simp only [Act.put, seti, set0, setS]
  refine wpLate_one (i := 6) (o := ⟨none, _, _, _, _, _⟩) (by kernel_rfl) rfl (fun K hK => ?_)
  obtain ⟨x0, x1, x2, x3⟩ := X.out.c4 (i := 1) rfl
  obtain ⟨y0, y1, y2, y3⟩ := X.out.f4 (i := 1) rfl
  have X := Lib.hid (X.out.set4 (i := 1) rfl (.bool b2) (.string m2) (.bool false) (.string k))
  go_simp
  refine hK.out _ _ (Or.inr (fun _ => X.out.c4 (i := 0) rfl)) ?_
  clear hK K x0 x1 x2 x3 y0 y1 y2 y3
  try simp only [Act.put, seti, set0, setS]
  obtain ⟨W2, hV⟩ := wexi X.out
  rw [← hV] at X ⊢
  clear hV
  refine wpLate_done (by kernel_rfl) ?_ _
  go_wp2
  obtain ⟨p0, p1, p2, p3⟩ := X.out.c4 (i := 1) rfl
  exact bodyPost_ret (v := .agg #[.bool b2, .string m2, .bool false, .string k]) (by simp [results, Tryz.results41, go_sem, p0, p1, p2, p3]) rfl ⟨rfl, X.out.bel⟩

end Go.Proofs.YtahehlajpaoiiaaGreatDoor


namespace Go.Proofs.YtahehlajpaoiiaaGreatDoor
open Go.RowKit
attribute [local go_sem ↓] Go.wp_at_zero Go.wp_at_succ

structure Fr (w : World) (g4 g5 : Nat) (num den : Int) (u v : Nat) (b1 b2 : Bool) (s t : ByteArray) (wr : World) : Prop where
  k1 : wr.heap[w.heap.size]? = some (.cells #[.int .i64 num, .int .i64 den, .int .u8 (u : Int), .int .u8 (v : Int)] 41 (0, 0))
  k2 : wr.heap[w.heap.size + 1]? = some (.cells #[.bool false, .string ⟨#[]⟩, .bool false, .string ⟨#[]⟩] 25 (0, 0))
  k4 : wr.heap[g4]? = some (.cells #[.bool b1, .string s] 23 (0, 0))
  k5 : wr.heap[g5]? = some (.cells #[.bool b2, .string t] 23 (0, 0))
  lt4 : w.heap.size + 2 ≤ g4
  lt5 : g4 < g5
  sz : g5 < wr.heap.size
  bel : Below w.heap.size w wr

theorem one_set {W : World} {g : Nat} {T : TypeId} {x0 x1 : Value} (h : W.heap[g]? = some (.cells #[x0, x1] T (0, 0))) (y : Value) : (W.setCell ⟨g, 1, none⟩ y).heap[g]? = some (.cells #[x0, y] T (0, 0)) := by
  simp [World.setCell, Array.getElem?_modify, h]
theorem Fr.set4 {w wr : World} {g4 g5 : Nat} {num den : Int} {u v : Nat} {b1 b2 : Bool} {s t : ByteArray} (h : Fr w g4 g5 num den u v b1 b2 s t wr) (s' : ByteArray) : Fr w g4 g5 num den u v b1 b2 s' t (wr.setCell ⟨g4, 1, none⟩ (.string s')) := by
  have h4 := h.lt4
  have h5 := h.lt5
  exact ⟨(Below.heap_setCell _ ⟨g4, 1, none⟩ _ _ (by show _ ≠ g4; omega)).trans h.k1, (Below.heap_setCell _ ⟨g4, 1, none⟩ _ _ (by show _ ≠ g4; omega)).trans h.k2, one_set h.k4 _, (Below.heap_setCell _ ⟨g4, 1, none⟩ _ _ (by show _ ≠ g4; omega)).trans h.k5, h.lt4, h.lt5, by simpa [World.setCell] using h.sz, h.bel.setCell (by show w.heap.size ≤ g4; omega) _⟩
theorem Fr.set5 {w wr : World} {g4 g5 : Nat} {num den : Int} {u v : Nat} {b1 b2 : Bool} {s t : ByteArray} (h : Fr w g4 g5 num den u v b1 b2 s t wr) (t' : ByteArray) : Fr w g4 g5 num den u v b1 b2 s t' (wr.setCell ⟨g5, 1, none⟩ (.string t')) := by
  have h4 := h.lt4
  have h5 := h.lt5
  exact ⟨(Below.heap_setCell _ ⟨g5, 1, none⟩ _ _ (by show _ ≠ g5; omega)).trans h.k1, (Below.heap_setCell _ ⟨g5, 1, none⟩ _ _ (by show _ ≠ g5; omega)).trans h.k2, (Below.heap_setCell _ ⟨g5, 1, none⟩ _ _ (by show _ ≠ g5; omega)).trans h.k4, one_set h.k5 _, h.lt4, h.lt5, by simpa [World.setCell] using h.sz, h.bel.setCell (by show w.heap.size ≤ g5; omega) _⟩

end Go.Proofs.YtahehlajpaoiiaaGreatDoor


namespace Go.Proofs.YtahehlajpaoiiaaGreatDoor
open Go.RowKit
attribute [local go_sem ↓] Go.wp_at_zero Go.wp_at_succ

end Go.Proofs.YtahehlajpaoiiaaGreatDoor


namespace Go.Proofs.YtahehlajpaoiiaaGreatDoor

def Sz (n : Nat) (q : Rat) : Prop := q.num.natAbs < 256 ^ n ∧ q.den < 256 ^ n

theorem mkRat_le (x : Int) {d : Nat} (hd : d ≠ 0) : (mkRat x d).num.natAbs ≤ x.natAbs ∧ (mkRat x d).den ≤ d := by
  obtain ⟨h1, h2⟩ := mkRat_parts x hd
  rw [h1, h2]
  refine ⟨?_, Nat.div_le_self _ _⟩
  rw [Int.natAbs_ediv_of_dvd (int_gcd_dvd x d), Int.natAbs_natCast]
  exact Nat.div_le_self _ _
theorem Sz.mul {n m : Nat} {p q : Rat} (hp : Sz n p) (hq : Sz m q) : Sz (n + m) (p * q) := by
  rw [Rat.mul_def']
  obtain ⟨h1, h2⟩ := mkRat_le (p.num * q.num) (d := p.den * q.den) (Nat.mul_ne_zero p.den_nz q.den_nz)
  unfold Sz
  rw [Nat.pow_add]
  refine ⟨Nat.lt_of_le_of_lt h1 ?_, Nat.lt_of_le_of_lt h2 (Nat.mul_lt_mul'' hp.2 hq.2)⟩
  rw [Int.natAbs_mul]
  exact Nat.mul_lt_mul'' hp.1 hq.1
theorem Sz.add {n m : Nat} {p q : Rat} (hp : Sz n p) (hq : Sz m q) : Sz (n + m + 1) (p + q) := by
  rw [Rat.add_def']
  obtain ⟨h1, h2⟩ := mkRat_le (p.num * q.den + q.num * p.den) (d := p.den * q.den) (Nat.mul_ne_zero p.den_nz q.den_nz)
  have h3 := Int.natAbs_add_le (p.num * (q.den : Int)) (q.num * (p.den : Int))
  rw [Int.natAbs_mul, Int.natAbs_mul, Int.natAbs_natCast, Int.natAbs_natCast] at h3
  have h4 : p.num.natAbs * q.den < 256 ^ n * 256 ^ m := Nat.mul_lt_mul'' hp.1 hq.2
  have h5 : q.num.natAbs * p.den < 256 ^ m * 256 ^ n := Nat.mul_lt_mul'' hq.1 hp.2
  have h6 : p.den * q.den < 256 ^ n * 256 ^ m := Nat.mul_lt_mul'' hp.2 hq.2
  rw [Nat.mul_comm (256 ^ m)] at h5
  unfold Sz
  rw [Nat.pow_succ, Nat.pow_add]
  omega
theorem Sz.m {n : Nat} {q : Rat} (h : Sz n q) {b : Bool} {m k : ByteArray} (hq : Rq q b m k) (hn : n ≤ 10000) : m.size ≤ 10000 ∧ (mag q.den).size ≤ 10000 := by
  refine ⟨?_, Nat.le_trans (mag_size_le h.2) hn⟩
  rw [hq.mag.2]
  exact Nat.le_trans (mag_size_le h.1) hn
theorem Sz.minus {n : Nat} {q : Rat} (h : Sz n q) : Sz n (-q) := by
  unfold Sz
  rw [Rat.neg_num, Rat.neg_den, Int.natAbs_neg]
  exact h
end Go.Proofs.YtahehlajpaoiiaaGreatDoor


namespace Go.Proofs.YtahehlajpaoiiaaGreatDoor
open Go.RowKit
attribute [local go_sem ↓] Go.wp_at_zero Go.wp_at_succ

theorem divInt_self2 (q : Rat) : Rat.divInt q.num (q.den : Int) = q := by rw [Rat.divInt_ofNat]; exact Rat.mkRat_self q

set_option maxHeartbeats 16000000 in
set_option maxRecDepth 100000 in
theorem rMul_f {p q : Rat} {b1 b2 b3 : Bool} {m1 m2 m3 k1 k2 k3 : ByteArray} (hp : Rq p b1 m1 k1) (hq : Rq q b2 m2 k2) (hr : Rq (p * q) b3 m3 k3) (s1 : m1.size ≤ 10000) (s2 : m2.size ≤ 10000) (s3 : (mag p.den).size ≤ 10000) (s4 : (mag q.den).size ≤ 10000) (w : World) :
    Calls Tryz.prog 35 #[.agg #[.bool b1, .string m1, .bool false, .string k1], .agg #[.bool b2, .string m2, .bool false, .string k2]] w (RetB w (.agg #[.bool b3, .string m3, .bool false, .string k3])) := by
  have ks : ∀ {x : Rat} {b : Bool} {m k : ByteArray}, Rq x b m k → (mag x.den).size ≤ 10000 → k.size ≤ 10000 := fun {x b m k} h hs => by
    by_cases hd : x.den = 1
    · rw [h.den1 hd]; exact Nat.zero_le _
    · rw [h.den2 hd]; exact hs
  have HF1 := Lib.hid (fun V => rof2 hp (by omega) (by have := ks hp s3; omega) V)
  have HF2 := Lib.hid (fun V => rof2 hq (by omega) (by have := ks hq s4; omega) V)
  have n0 : nd p.num.natAbs ≤ 10000 := by unfold nd; rw [← hp.mag.2]; exact s1
  have n1 : nd p.den ≤ 10000 := s3
  have n2 : nd q.num.natAbs ≤ 10000 := by unfold nd; rw [← hq.mag.2]; exact s2
  have n3 : nd q.den ≤ 10000 := s4
  have HN0 := Lib.hid n0
  have HN1 := Lib.hid n1
  have HN2 := Lib.hid n2
  have HN3 := Lib.hid n3
  have n4 := nd_mul p.num.natAbs q.num.natAbs
  have n5 := nd_mul p.den q.den
  have hr' : Rq (mkRat (sgn (b1 != b2) (p.num.natAbs * q.num.natAbs)) (p.den * q.den)) b3 m3 k3 := by
    rw [hp.mag.1, hq.mag.1, sgn_mul, ← Rat.mul_def']
    exact hr
  have hY : 0 < p.den * q.den := Nat.mul_pos p.den_pos q.den_pos
  have hcn : ∀ (A B : Option Addr) (n m c d : Nat) (V : World), Tr V A n c (p.num.natAbs * q.num.natAbs) → Tr V B m d (p.den * q.den) → Calls Tryz.prog 70 #[.agg #[.bool (b1 != b2), .slice A n c, .slice B m d]] V (RetB V (.agg #[.bool b3, .string m3, .bool false, .string k3])) := by
    intro A B n m c d V hA hB
    refine (rcanonical (b1 != b2) A B n m c d _ _ V (by have := hA.ln; omega) (by have := hB.ln; omega) hA hB hY).mono ?_
    rintro e w3 ⟨b4, m4, k4, rfl, hq4, hb3⟩
    obtain ⟨rfl, rfl, rfl⟩ := hr'.inj hq4
    exact ⟨rfl, hb3⟩
  have HCN := Lib.hid hcn
  have X := Lib.hid ((((Sb.start w).new #[.bool b1, .string m1, .bool false, .string k1] 25).new #[.bool b2, .string m2, .bool false, .string k2] 25).new #[.bool false, .string ⟨#[]⟩, .bool false, .string ⟨#[]⟩] 25)
  have X := Lib.hid (X.out.pick [0, 1, 2] [(w.heap.size, #[.bool b1, .string m1, .bool false, .string k1], 25), (w.heap.size + 1, #[.bool b2, .string m2, .bool false, .string k2], 25), (w.heap.size + 1 + 1, #[.bool false, .string ⟨#[]⟩, .bool false, .string ⟨#[]⟩], 25)] [] (by simp) (by decide) (by simp))
  clear hp hq hr hr' hcn hY n0 n1 n2 n3 n4 n5 s1 s2 s3 s4 ks
  go_enter Tryz.func35, Tryz.ntmps35
  go_upto_region 1 with fail
  go_cut [5, 6] (fun s5 s6 wx => ∃ g5 g6 A1 n1 c1 B1 x1 d1 A3 n3 c3 B3 x3 d3, s5 = .pointer (some ⟨g5, 0, none⟩) ∧ s6 = .pointer (some ⟨g6, 0, none⟩) ∧ Sb w [(w.heap.size + 1 + 1, #[.bool false, .string ⟨#[]⟩, .bool false, .string ⟨#[]⟩], 25), (g5, #[.bool b1, .slice A1 n1 c1, .slice B1 x1 d1], 75), (g6, #[.bool b2, .slice A3 n3 c3, .slice B3 x3 d3], 75)] [(A1, n1, c1, p.num.natAbs), (B1, x1, d1, p.den), (A3, n3, c3, q.num.natAbs), (B3, x3, d3, q.den)] wx)
  case first =>
    refine wp_region_any (by kernel_rfl) ?_
    have X := Lib.hid X.out.drew
    obtain ⟨W0, hV⟩ := wexi X.out
    rw [show ∀ v : World, { v with drawn := v.drawn + 1 } = v.drew from fun _ => rfl, ← hV]
    rw [← hV] at X
    clear hV
    refine rg_run (ef := [.val (.agg #[.bool b1, .string m1, .bool false, .string k1]), .rel (FracP b1 p.num.natAbs p.den), .val (.agg #[.bool b2, .string m2, .bool false, .string k2]), .rel (FracP b2 q.num.natAbs q.den), .new #[.bool false, .slice none 0 0, .slice none 0 0] 75, .new #[.bool false, .slice none 0 0, .slice none 0 0] 75]) (ds := [7, 8, 9, 10, 5, 6]) (by kernel_rfl) (stays_of (List.forall_mem_cons.2 ⟨trivial, (List.forall_mem_cons.2 ⟨fine_frac _ _ _, (List.forall_mem_cons.2 ⟨trivial, (List.forall_mem_cons.2 ⟨fine_frac _ _ _, (List.forall_mem_cons.2 ⟨trivial, (List.forall_mem_cons.2 ⟨trivial, (fun _ h => by simp at h)⟩)⟩)⟩)⟩)⟩)⟩)) (by decide) rfl (by intro d hd; simp at hd ⊢; omega) (fun i d o hd ho listed a w1 hR hdep K hK => ?_) 2 (fun a w1 hR => ?_)
    · have X := Lib.hid (X.out.next hR.bel)
      have HKt := Lib.hid hK
      have HDp := Lib.hid hdep
      have sl2 : a.tmps.getD 2 undef = .pointer (some ⟨w.heap.size, 0, none⟩) := hR.keep 2 (by decide)
      have sl3 : a.tmps.getD 3 undef = .pointer (some ⟨w.heap.size + 1, 0, none⟩) := hR.keep 3 (by decide)
      have HRg := Lib.hid hR
      clear hK hdep hR
      rcases i with _ | _ | _ | _ | _ | _ | i
      · cases hd
        cases ho
        obtain ⟨x00, x01, x02, x03⟩ := X.out.c4 (i := 0) rfl
        obtain ⟨x10, x11, x12, x13⟩ := X.out.c4 (i := 1) rfl
        go_simp
        exact HKt.out _ _ (Or.inl ⟨rfl, Below.refl _ _⟩)
      · cases hd
        cases ho
        have dd0 : a.tmps.getD 7 undef = .agg #[.bool b1, .string m1, .bool false, .string k1] := HRg.out.val 0 _ (HDp.out 0 (by decide)) rfl
        go_simp
        (go_at_call 74; refine (HF1.out _).mono ?_; rintro e u ⟨A9, n9, c9, B9, m9, d9, rfl, hT9, hU9, hb9, _, _⟩)
        try go_wp2_with fail
        exact HKt.out _ _ (Or.inr (Or.inr ⟨_, rfl, ⟨A9, n9, c9, B9, m9, d9, rfl, hT9, hU9⟩, hb9⟩))
      · cases hd
        cases ho
        obtain ⟨x00, x01, x02, x03⟩ := X.out.c4 (i := 0) rfl
        obtain ⟨x10, x11, x12, x13⟩ := X.out.c4 (i := 1) rfl
        go_simp
        exact HKt.out _ _ (Or.inl ⟨rfl, Below.refl _ _⟩)
      · cases hd
        cases ho
        have dd2 : a.tmps.getD 9 undef = .agg #[.bool b2, .string m2, .bool false, .string k2] := HRg.out.val 2 _ (HDp.out 2 (by decide)) rfl
        go_simp
        (go_at_call 74; refine (HF2.out _).mono ?_; rintro e u ⟨A9, n9, c9, B9, m9, d9, rfl, hT9, hU9, hb9, _, _⟩)
        try go_wp2_with fail
        exact HKt.out _ _ (Or.inr (Or.inr ⟨_, rfl, ⟨A9, n9, c9, B9, m9, d9, rfl, hT9, hU9⟩, hb9⟩))
      · cases hd
        cases ho
        go_simp
        exact HKt.out _ _ (Or.inr (Or.inl ⟨_, _, rfl, rfl, rfl⟩))
      · cases hd
        cases ho
        go_simp
        exact HKt.out _ _ (Or.inr (Or.inl ⟨_, _, rfl, rfl, rfl⟩))
      · cases hd
    obtain ⟨g4, hg4, lg4, kg4⟩ := hR.new 4 _ _ (by rfl) rfl
    obtain ⟨g5, hg5, lg5, kg5⟩ := hR.new 5 _ _ (by rfl) rfl
    have vv0 : a.tmps.getD 7 undef = .agg #[.bool b1, .string m1, .bool false, .string k1] := hR.val 0 _ (by rfl) rfl
    obtain ⟨A1, n1, c1, B1, m1, d1, vv1, hT1, hU1⟩ := hR.rel 1 _ (by rfl) rfl
    replace vv1 : a.tmps.getD 8 undef = .agg #[.bool b1, .slice A1 n1 c1, .slice B1 m1 d1] := vv1
    have vv2 : a.tmps.getD 9 undef = .agg #[.bool b2, .string m2, .bool false, .string k2] := hR.val 2 _ (by rfl) rfl
    obtain ⟨A3, n3, c3, B3, m3, d3, vv3, hT3, hU3⟩ := hR.rel 3 _ (by rfl) rfl
    replace vv3 : a.tmps.getD 10 undef = .agg #[.bool b2, .slice A3 n3 c3, .slice B3 m3 d3] := vv3
    replace hg4 : a.tmps.getD 5 undef = .pointer (some ⟨g4, 0, none⟩) := hg4
    replace hg5 : a.tmps.getD 6 undef = .pointer (some ⟨g5, 0, none⟩) := hg5
    have hne : g4 ≠ g5 := fun e => hR.ne 4 5 _ _ _ _ g4 (by decide) (by rfl) (by rfl) rfl rfl hg4 (by rw [e]; exact hg5)
    have X := Lib.hid (X.out.add2 hR.bel lg4 kg4 lg5 kg5 hne)
    have X := Lib.hid (X.out.rows [(A1, n1, c1, p.num.natAbs), (B1, m1, d1, p.den), (A3, n3, c3, q.num.natAbs), (B3, m3, d3, q.den)] (List.forall_mem_cons.2 ⟨hT1, List.forall_mem_cons.2 ⟨hU1, (List.forall_mem_cons.2 ⟨hT3, List.forall_mem_cons.2 ⟨hU3, (fun _ h => by simp at h)⟩⟩)⟩⟩) (by intro x hx; simp at hx; rcases hx with rfl | rfl | rfl | rfl | rfl <;> (intro j k n; rcases j with _ | _ | _ | _ | _ | j <;> simp)))
    have ha := hR.act
    simp only [List.foldl_cons, List.foldl_nil, seti, set0, setS, vv0, vv1, vv2, vv3, hg4, hg5] at ha
    subst ha
    clear hR vv0 vv1 vv2 vv3 hg4 lg4 kg4 hg5 lg5 kg5 hne
    refine wpAny_of_late (S := fun _ => True) (L := []) _ _ _ _ ?_
    refine wpLate_one (i := 6) (o := ⟨none, _, _, _, _, _⟩) (by kernel_rfl) rfl (fun K hK => ?_)
    obtain ⟨x0, x1, x2⟩ := X.out.c3 (i := 3) rfl
    obtain ⟨y0, y1, y2⟩ := X.out.f3 (i := 3) rfl
    have X := Lib.hid (X.out.set3 (i := 3) rfl (.bool b1) (.slice A1 n1 c1) (.slice B1 m1 d1))
    go_simp
    refine hK.out _ _ (Or.inr fun _ => trivial) ?_
    clear hK K x0 x1 x2 y0 y1 y2
    obtain ⟨W6, hV⟩ := wexi X.out
    rw [← hV] at X ⊢
    clear hV
    try simp only [Act.put]
    refine wpLate_one (i := 7) (o := ⟨none, _, _, _, _, _⟩) (by kernel_rfl) rfl (fun K hK => ?_)
    obtain ⟨x0, x1, x2⟩ := X.out.c3 (i := 4) rfl
    obtain ⟨y0, y1, y2⟩ := X.out.f3 (i := 4) rfl
    have X := Lib.hid (X.out.set3 (i := 4) rfl (.bool b2) (.slice A3 n3 c3) (.slice B3 m3 d3))
    go_simp
    refine hK.out _ _ (Or.inr fun _ => trivial) ?_
    clear hK K x0 x1 x2 y0 y1 y2
    obtain ⟨W7, hV⟩ := wexi X.out
    rw [← hV] at X ⊢
    clear hV
    try simp only [Act.put]
    refine wpLate_done (by kernel_rfl) ?_ _
    go_wp2_with fail
    go_meet
    exact ⟨_, _, _, _, _, _, _, _, _, _, _, _, _, _, rfl, rfl, X.out.pick [2, 3, 4] _ _ rfl (by decide) (fun _ h => h)⟩
  obtain ⟨g5, g6, A1, n1, c1, B1, x1, d1, A3, n3, c3, B3, x3, d3, rfl, rfl, hX⟩ := hcut
  have X := Lib.hid hX
  clear hX
  go_upto_region 2 with fail
  refine wp_region_late (S := fun w' => (w'.cell? ⟨g5, 0, none⟩ = some (.bool b1) ∧ w'.cell? ⟨g5, 1, none⟩ = some (.slice A1 n1 c1) ∧ w'.cell? ⟨g5, 2, none⟩ = some (.slice B1 x1 d1)) ∧ (w'.cell? ⟨g6, 0, none⟩ = some (.bool b2) ∧ w'.cell? ⟨g6, 1, none⟩ = some (.slice A3 n3 c3) ∧ w'.cell? ⟨g6, 2, none⟩ = some (.slice B3 x3 d3))) (L := []) (by kernel_rfl) ?_
  have X := Lib.hid X.out.drew
  obtain ⟨V0, hV⟩ := wexi X.out
  rw [← hV] at X ⊢
  clear hV
  refine tk (i := 0) (oi := ⟨some 11, _, _, _, _, _⟩) (v := _) rfl (by kernel_rfl) (fun _ _ _ h => h) (⟨X.out.c3 (i := 1) rfl, X.out.c3 (i := 2) rfl⟩) (Or.inl ⟨by rfl, by intro w hSw; (try dsimp only at hSw); (first | (go_simp; done) | (go_simp; with_reducible rfl))⟩) ?_
  try simp only [Act.put, seti, set0, setS]
  refine tk (i := 1) (oi := ⟨some 12, _, _, _, _, _⟩) (v := _) rfl (by kernel_rfl) (fun _ _ _ h => h) (⟨X.out.c3 (i := 1) rfl, X.out.c3 (i := 2) rfl⟩) (Or.inl ⟨by rfl, by intro w hSw; (try dsimp only at hSw); (first | (go_simp; done) | (go_simp; with_reducible rfl))⟩) ?_
  try simp only [Act.put, seti, set0, setS]
  refine tk (i := 2) (oi := ⟨some 13, _, _, _, _, _⟩) (v := _) rfl (by kernel_rfl) (fun _ _ _ h => h) (⟨X.out.c3 (i := 1) rfl, X.out.c3 (i := 2) rfl⟩) (Or.inl ⟨by rfl, by intro w hSw; (try dsimp only at hSw); (first | (go_simp; done) | (go_simp; with_reducible rfl))⟩) ?_
  try simp only [Act.put, seti, set0, setS]
  refine tk (i := 3) (oi := ⟨some 14, _, _, _, _, _⟩) (v := _) rfl (by kernel_rfl) (fun _ _ _ h => h) (⟨X.out.c3 (i := 1) rfl, X.out.c3 (i := 2) rfl⟩) (Or.inl ⟨by rfl, by intro w hSw; (try dsimp only at hSw); (first | (go_simp; done) | (go_simp; with_reducible rfl))⟩) ?_
  try simp only [Act.put, seti, set0, setS]
  refine tk (i := 4) (oi := ⟨some 15, _, _, _, _, _⟩) (v := _) rfl (by kernel_rfl) (fun _ _ _ h => h) (⟨X.out.c3 (i := 1) rfl, X.out.c3 (i := 2) rfl⟩) (Or.inl ⟨by rfl, by intro w hSw; (try dsimp only at hSw); (first | (go_simp; done) | (go_simp; with_reducible rfl))⟩) ?_
  try simp only [Act.put, seti, set0, setS]
  refine tk (i := 5) (oi := ⟨some 16, _, _, _, _, _⟩) (v := _) rfl (by kernel_rfl) (fun _ _ _ h => h) (⟨X.out.c3 (i := 1) rfl, X.out.c3 (i := 2) rfl⟩) (Or.inl ⟨by rfl, by intro w hSw; (try dsimp only at hSw); (first | (go_simp; done) | (go_simp; with_reducible rfl))⟩) ?_
  try simp only [Act.put, seti, set0, setS]
  refine tk (i := 6) (oi := ⟨some 17, _, _, _, _, _⟩) (v := _) rfl (by kernel_rfl) (fun _ _ _ h => h) (⟨X.out.c3 (i := 1) rfl, X.out.c3 (i := 2) rfl⟩) (Or.inl ⟨by rfl, by intro w hSw; (try dsimp only at hSw); (first | (go_simp; done) | (go_simp; with_reducible rfl))⟩) ?_
  try simp only [Act.put, seti, set0, setS]
  refine tk (i := 7) (oi := ⟨some 18, _, _, _, _, _⟩) (v := _) rfl (by kernel_rfl) (fun _ _ _ h => h) (⟨X.out.c3 (i := 1) rfl, X.out.c3 (i := 2) rfl⟩) (Or.inl ⟨by rfl, by intro w hSw; (try dsimp only at hSw); (first | (go_simp; done) | (go_simp; with_reducible rfl))⟩) ?_
  try simp only [Act.put, seti, set0, setS]
  refine tk (i := 8) (oi := ⟨some 19, _, _, _, _, _⟩) (v := _) rfl (by kernel_rfl) (fun _ _ _ h => h) (⟨X.out.c3 (i := 1) rfl, X.out.c3 (i := 2) rfl⟩) (Or.inl ⟨by rfl, by intro w hSw; (try dsimp only at hSw); (first | (go_simp; done) | (go_simp; with_reducible rfl))⟩) ?_
  try simp only [Act.put, seti, set0, setS]
  refine tk (i := 10) (oi := ⟨some 21, _, _, _, _, _⟩) (v := _) rfl (by kernel_rfl) (fun _ _ _ h => h) (⟨X.out.c3 (i := 1) rfl, X.out.c3 (i := 2) rfl⟩) (Or.inl ⟨by rfl, by intro w hSw; (try dsimp only at hSw); (first | (go_simp; done) | (go_simp; with_reducible rfl))⟩) ?_
  try simp only [Act.put, seti, set0, setS]
  refine tk (i := 11) (oi := ⟨some 22, _, _, _, _, _⟩) (v := _) rfl (by kernel_rfl) (fun _ _ _ h => h) (⟨X.out.c3 (i := 1) rfl, X.out.c3 (i := 2) rfl⟩) (Or.inl ⟨by rfl, by intro w hSw; (try dsimp only at hSw); (first | (go_simp; done) | (go_simp; with_reducible rfl))⟩) ?_
  try simp only [Act.put, seti, set0, setS]
  refine tk (i := 12) (oi := ⟨some 23, _, _, _, _, _⟩) (v := _) rfl (by kernel_rfl) (fun _ _ _ h => h) (⟨X.out.c3 (i := 1) rfl, X.out.c3 (i := 2) rfl⟩) (Or.inl ⟨by rfl, by intro w hSw; (try dsimp only at hSw); (first | (go_simp; done) | (go_simp; with_reducible rfl))⟩) ?_
  try simp only [Act.put, seti, set0, setS]
  refine tk (i := 13) (oi := ⟨some 24, _, _, _, _, _⟩) (v := _) rfl (by kernel_rfl) (fun _ _ _ h => h) (⟨X.out.c3 (i := 1) rfl, X.out.c3 (i := 2) rfl⟩) (Or.inl ⟨by rfl, by intro w hSw; (try dsimp only at hSw); (first | (go_simp; done) | (go_simp; with_reducible rfl))⟩) ?_
  try simp only [Act.put, seti, set0, setS]
  refine wpLate_one (i := 9) (o := ⟨some 20, _, _, _, _, _⟩) (by kernel_rfl) rfl (fun K hK => ?_)
  go_simp
  (go_at_call 75; refine (rtimes _ _ _ _ _ _ _ _ _ (by have h := (X.out.rw (i := 0) rfl).ln; have h2 := HN0.out; omega) (by have h := (X.out.rw (i := 2) rfl).ln; have h2 := HN2.out; omega) (X.out.rw (i := 0) rfl).dg (X.out.rw (i := 2) rfl).dg).mono ?_; rintro e u1 ⟨A1, n1, c1, rfl, ht9, hb9, hf9⟩; have X := Lib.hid (X.out.row hb9 ht9 hf9); clear hb9 ht9 hf9)
  try go_wp2_with fail
  refine hK.out _ _ (Or.inr (fun _ => ⟨X.out.c3 (i := 1) rfl, X.out.c3 (i := 2) rfl⟩)) ?_
  clear hK K
  try simp only [Act.put, seti, set0, setS]
  refine wpLate_one (i := 14) (o := ⟨some 25, _, _, _, _, _⟩) (by kernel_rfl) rfl (fun K hK => ?_)
  go_simp
  (go_at_call 75; refine (rtimes _ _ _ _ _ _ _ _ _ (by have h := (X.out.rw (i := 1) rfl).ln; have h2 := HN1.out; omega) (by have h := (X.out.rw (i := 3) rfl).ln; have h2 := HN3.out; omega) (X.out.rw (i := 1) rfl).dg (X.out.rw (i := 3) rfl).dg).mono ?_; rintro e u2 ⟨A2, n2, c2, rfl, ht9, hb9, hf9⟩; have X := Lib.hid (X.out.row hb9 ht9 hf9); clear hb9 ht9 hf9)
  try go_wp2_with fail
  refine hK.out _ _ (Or.inr (fun _ => ⟨X.out.c3 (i := 1) rfl, X.out.c3 (i := 2) rfl⟩)) ?_
  clear hK K
  try simp only [Act.put, seti, set0, setS]
  refine tk (i := 15) (oi := ⟨some 26, _, _, _, _, _⟩) (v := _) rfl (by kernel_rfl) (fun _ _ _ h => h) (⟨X.out.c3 (i := 1) rfl, X.out.c3 (i := 2) rfl⟩) (Or.inl ⟨by rfl, by intro w hSw; (try dsimp only at hSw); (first | (go_simp; done) | (go_simp; with_reducible rfl))⟩) ?_
  try simp only [Act.put, seti, set0, setS]
  refine wpLate_one (i := 16) (o := ⟨some 27, _, _, _, _, _⟩) (by kernel_rfl) rfl (fun K hK => ?_)
  go_simp
  (go_at_call 70; refine (HCN.out _ _ _ _ _ _ _ (X.out.rw (i := 4) rfl) (X.out.rw (i := 5) rfl)).mono ?_; rintro e u3 ⟨rfl, hb9⟩; have X := Lib.hid (X.out.next hb9); clear hb9)
  try go_wp2_with fail
  refine hK.out _ _ (Or.inr (fun _ => ⟨X.out.c3 (i := 1) rfl, X.out.c3 (i := 2) rfl⟩)) ?_
  clear hK K
  try simp only [Act.put, seti, set0, setS]
  refine wpLate_one (i := 17) (o := ⟨none, _, _, _, _, _⟩) (by kernel_rfl) rfl (fun K hK => ?_)
  obtain ⟨x0, x1, x2, x3⟩ := X.out.c4 (i := 0) rfl
  obtain ⟨y0, y1, y2, y3⟩ := X.out.f4 (i := 0) rfl
  have X := Lib.hid (X.out.set4 (i := 0) rfl (.bool b3) (.string m3) (.bool false) (.string k3))
  go_simp
  refine hK.out _ _ (Or.inr (fun _ => ⟨X.out.c3 (i := 1) rfl, X.out.c3 (i := 2) rfl⟩)) ?_
  clear hK K x0 x1 x2 x3 y0 y1 y2 y3
  try simp only [Act.put, seti, set0, setS]
  obtain ⟨W4, hV⟩ := wexi X.out
  rw [← hV] at X ⊢
  clear hV
  refine wpLate_done (by kernel_rfl) ?_ _
  go_wp2
  obtain ⟨p0, p1, p2, p3⟩ := X.out.c4 (i := 0) rfl
  exact bodyPost_ret (v := .agg #[.bool b3, .string m3, .bool false, .string k3]) (by simp [results, Tryz.results35, go_sem, p0, p1, p2, p3]) rfl ⟨rfl, X.out.bel⟩

set_option maxHeartbeats 16000000 in
set_option maxRecDepth 100000 in
theorem rDiv_f {p q : Rat} {b1 b2 b3 : Bool} {m1 m2 m3 k1 k2 k3 : ByteArray} (hp : Rq p b1 m1 k1) (hq : Rq q b2 m2 k2) (hr : Rq (p / q) b3 m3 k3) (h0 : q.num ≠ 0) (s1 : m1.size ≤ 10000) (s2 : m2.size ≤ 10000) (s3 : (mag p.den).size ≤ 10000) (s4 : (mag q.den).size ≤ 10000) (w : World) :
    Calls Tryz.prog 37 #[.agg #[.bool b1, .string m1, .bool false, .string k1], .agg #[.bool b2, .string m2, .bool false, .string k2]] w (RetB w (.agg #[.bool b3, .string m3, .bool false, .string k3])) := by
  have ks : ∀ {x : Rat} {b : Bool} {m k : ByteArray}, Rq x b m k → (mag x.den).size ≤ 10000 → k.size ≤ 10000 := fun {x b m k} h hs => by
    by_cases hd : x.den = 1
    · rw [h.den1 hd]; exact Nat.zero_le _
    · rw [h.den2 hd]; exact hs
  have HF1 := Lib.hid (fun V => rof2 hp (by omega) (by have := ks hp s3; omega) V)
  have HF2 := Lib.hid (fun V => rof2 hq (by omega) (by have := ks hq s4; omega) V)
  have n0 : nd p.num.natAbs ≤ 10000 := by unfold nd; rw [← hp.mag.2]; exact s1
  have n1 : nd p.den ≤ 10000 := s3
  have n2 : nd q.num.natAbs ≤ 10000 := by unfold nd; rw [← hq.mag.2]; exact s2
  have n3 : nd q.den ≤ 10000 := s4
  have HN0 := Lib.hid n0
  have HN1 := Lib.hid n1
  have HN2 := Lib.hid n2
  have HN3 := Lib.hid n3
  have n4 := nd_mul p.num.natAbs q.den
  have n5 := nd_mul p.den q.num.natAbs
  have hr' : Rq (mkRat (sgn (b1 != b2) (p.num.natAbs * q.den)) (p.den * q.num.natAbs)) b3 m3 k3 := by
    have h1 := mk_divInt (p.num * (q.den : Int)) ((p.den : Int) * q.num) (Int.mul_ne_zero (by have := p.den_nz; omega) h0)
    have e1 : decide (p.num * (q.den : Int) < 0) = b1 := by
      rw [hp.mag.1]
      have := q.den_pos
      exact decide_eq_decide.2 ⟨fun h => by rcases Int.lt_or_le p.num 0 with h2 | h2; exact h2; exact absurd h (by have := Int.mul_nonneg h2 (show (0 : Int) ≤ q.den by omega); omega), fun h => Int.mul_neg_of_neg_of_pos h (by omega)⟩
    have e2 : decide ((p.den : Int) * q.num < 0) = b2 := by
      rw [hq.mag.1]
      have := p.den_pos
      exact decide_eq_decide.2 ⟨fun h => by rcases Int.lt_or_le q.num 0 with h2 | h2; exact h2; exact absurd h (by have := Int.mul_nonneg (show (0 : Int) ≤ p.den by omega) h2; omega), fun h => Int.mul_neg_of_pos_of_neg (by omega) h⟩
    rw [e1, e2, Int.natAbs_mul, Int.natAbs_mul, Int.natAbs_natCast, Int.natAbs_natCast] at h1
    rw [h1]
    have h2 : p / q = Rat.divInt (p.num * (q.den : Int)) ((p.den : Int) * q.num) := by
      rw [Rat.div_def, Rat.inv_def]
      conv => lhs; lhs; rw [← divInt_self2 p]
      exact Rat.divInt_mul_divInt _ _
    rw [← h2]
    exact hr
  have hY : 0 < p.den * q.num.natAbs := Nat.mul_pos p.den_pos (by omega)
  have hcn : ∀ (A B : Option Addr) (n m c d : Nat) (V : World), Tr V A n c (p.num.natAbs * q.den) → Tr V B m d (p.den * q.num.natAbs) → Calls Tryz.prog 70 #[.agg #[.bool (b1 != b2), .slice A n c, .slice B m d]] V (RetB V (.agg #[.bool b3, .string m3, .bool false, .string k3])) := by
    intro A B n m c d V hA hB
    refine (rcanonical (b1 != b2) A B n m c d _ _ V (by have := hA.ln; omega) (by have := hB.ln; omega) hA hB hY).mono ?_
    rintro e w3 ⟨b4, m4, k4, rfl, hq4, hb3⟩
    obtain ⟨rfl, rfl, rfl⟩ := hr'.inj hq4
    exact ⟨rfl, hb3⟩
  have HCN := Lib.hid hcn
  have X := Lib.hid ((((Sb.start w).new #[.bool b1, .string m1, .bool false, .string k1] 25).new #[.bool b2, .string m2, .bool false, .string k2] 25).new #[.bool false, .string ⟨#[]⟩, .bool false, .string ⟨#[]⟩] 25)
  have X := Lib.hid (X.out.pick [0, 1, 2] [(w.heap.size, #[.bool b1, .string m1, .bool false, .string k1], 25), (w.heap.size + 1, #[.bool b2, .string m2, .bool false, .string k2], 25), (w.heap.size + 1 + 1, #[.bool false, .string ⟨#[]⟩, .bool false, .string ⟨#[]⟩], 25)] [] (by simp) (by decide) (by simp))
  clear hp hq hr hr' hcn hY n0 n1 n2 n3 n4 n5 s1 s2 s3 s4 ks h0
  go_enter Tryz.func37, Tryz.ntmps37
  go_upto_region 1 with fail
  go_cut [5, 6] (fun s5 s6 wx => ∃ g5 g6 A1 n1 c1 B1 x1 d1 A3 n3 c3 B3 x3 d3, s5 = .pointer (some ⟨g5, 0, none⟩) ∧ s6 = .pointer (some ⟨g6, 0, none⟩) ∧ Sb w [(w.heap.size + 1 + 1, #[.bool false, .string ⟨#[]⟩, .bool false, .string ⟨#[]⟩], 25), (g5, #[.bool b1, .slice A1 n1 c1, .slice B1 x1 d1], 75), (g6, #[.bool b2, .slice A3 n3 c3, .slice B3 x3 d3], 75)] [(A1, n1, c1, p.num.natAbs), (B1, x1, d1, p.den), (A3, n3, c3, q.num.natAbs), (B3, x3, d3, q.den)] wx)
  case first =>
    refine wp_region_any (by kernel_rfl) ?_
    have X := Lib.hid X.out.drew
    obtain ⟨W0, hV⟩ := wexi X.out
    rw [show ∀ v : World, { v with drawn := v.drawn + 1 } = v.drew from fun _ => rfl, ← hV]
    rw [← hV] at X
    clear hV
    refine rg_run (ef := [.val (.agg #[.bool b1, .string m1, .bool false, .string k1]), .rel (FracP b1 p.num.natAbs p.den), .val (.agg #[.bool b2, .string m2, .bool false, .string k2]), .rel (FracP b2 q.num.natAbs q.den), .new #[.bool false, .slice none 0 0, .slice none 0 0] 75, .new #[.bool false, .slice none 0 0, .slice none 0 0] 75]) (ds := [7, 8, 9, 10, 5, 6]) (by kernel_rfl) (stays_of (List.forall_mem_cons.2 ⟨trivial, (List.forall_mem_cons.2 ⟨fine_frac _ _ _, (List.forall_mem_cons.2 ⟨trivial, (List.forall_mem_cons.2 ⟨fine_frac _ _ _, (List.forall_mem_cons.2 ⟨trivial, (List.forall_mem_cons.2 ⟨trivial, (fun _ h => by simp at h)⟩)⟩)⟩)⟩)⟩)⟩)) (by decide) rfl (by intro d hd; simp at hd ⊢; omega) (fun i d o hd ho listed a w1 hR hdep K hK => ?_) 2 (fun a w1 hR => ?_)
    · have X := Lib.hid (X.out.next hR.bel)
      have HKt := Lib.hid hK
      have HDp := Lib.hid hdep
      have sl2 : a.tmps.getD 2 undef = .pointer (some ⟨w.heap.size, 0, none⟩) := hR.keep 2 (by decide)
      have sl3 : a.tmps.getD 3 undef = .pointer (some ⟨w.heap.size + 1, 0, none⟩) := hR.keep 3 (by decide)
      have HRg := Lib.hid hR
      clear hK hdep hR
      rcases i with _ | _ | _ | _ | _ | _ | i
      · cases hd
        cases ho
        obtain ⟨x00, x01, x02, x03⟩ := X.out.c4 (i := 0) rfl
        obtain ⟨x10, x11, x12, x13⟩ := X.out.c4 (i := 1) rfl
        go_simp
        exact HKt.out _ _ (Or.inl ⟨rfl, Below.refl _ _⟩)
      · cases hd
        cases ho
        have dd0 : a.tmps.getD 7 undef = .agg #[.bool b1, .string m1, .bool false, .string k1] := HRg.out.val 0 _ (HDp.out 0 (by decide)) rfl
        go_simp
        (go_at_call 74; refine (HF1.out _).mono ?_; rintro e u ⟨A9, n9, c9, B9, m9, d9, rfl, hT9, hU9, hb9, _, _⟩)
        try go_wp2_with fail
        exact HKt.out _ _ (Or.inr (Or.inr ⟨_, rfl, ⟨A9, n9, c9, B9, m9, d9, rfl, hT9, hU9⟩, hb9⟩))
      · cases hd
        cases ho
        obtain ⟨x00, x01, x02, x03⟩ := X.out.c4 (i := 0) rfl
        obtain ⟨x10, x11, x12, x13⟩ := X.out.c4 (i := 1) rfl
        go_simp
        exact HKt.out _ _ (Or.inl ⟨rfl, Below.refl _ _⟩)
      · cases hd
        cases ho
        have dd2 : a.tmps.getD 9 undef = .agg #[.bool b2, .string m2, .bool false, .string k2] := HRg.out.val 2 _ (HDp.out 2 (by decide)) rfl
        go_simp
        (go_at_call 74; refine (HF2.out _).mono ?_; rintro e u ⟨A9, n9, c9, B9, m9, d9, rfl, hT9, hU9, hb9, _, _⟩)
        try go_wp2_with fail
        exact HKt.out _ _ (Or.inr (Or.inr ⟨_, rfl, ⟨A9, n9, c9, B9, m9, d9, rfl, hT9, hU9⟩, hb9⟩))
      · cases hd
        cases ho
        go_simp
        exact HKt.out _ _ (Or.inr (Or.inl ⟨_, _, rfl, rfl, rfl⟩))
      · cases hd
        cases ho
        go_simp
        exact HKt.out _ _ (Or.inr (Or.inl ⟨_, _, rfl, rfl, rfl⟩))
      · cases hd
    obtain ⟨g4, hg4, lg4, kg4⟩ := hR.new 4 _ _ (by rfl) rfl
    obtain ⟨g5, hg5, lg5, kg5⟩ := hR.new 5 _ _ (by rfl) rfl
    have vv0 : a.tmps.getD 7 undef = .agg #[.bool b1, .string m1, .bool false, .string k1] := hR.val 0 _ (by rfl) rfl
    obtain ⟨A1, n1, c1, B1, m1, d1, vv1, hT1, hU1⟩ := hR.rel 1 _ (by rfl) rfl
    replace vv1 : a.tmps.getD 8 undef = .agg #[.bool b1, .slice A1 n1 c1, .slice B1 m1 d1] := vv1
    have vv2 : a.tmps.getD 9 undef = .agg #[.bool b2, .string m2, .bool false, .string k2] := hR.val 2 _ (by rfl) rfl
    obtain ⟨A3, n3, c3, B3, m3, d3, vv3, hT3, hU3⟩ := hR.rel 3 _ (by rfl) rfl
    replace vv3 : a.tmps.getD 10 undef = .agg #[.bool b2, .slice A3 n3 c3, .slice B3 m3 d3] := vv3
    replace hg4 : a.tmps.getD 5 undef = .pointer (some ⟨g4, 0, none⟩) := hg4
    replace hg5 : a.tmps.getD 6 undef = .pointer (some ⟨g5, 0, none⟩) := hg5
    have hne : g4 ≠ g5 := fun e => hR.ne 4 5 _ _ _ _ g4 (by decide) (by rfl) (by rfl) rfl rfl hg4 (by rw [e]; exact hg5)
    have X := Lib.hid (X.out.add2 hR.bel lg4 kg4 lg5 kg5 hne)
    have X := Lib.hid (X.out.rows [(A1, n1, c1, p.num.natAbs), (B1, m1, d1, p.den), (A3, n3, c3, q.num.natAbs), (B3, m3, d3, q.den)] (List.forall_mem_cons.2 ⟨hT1, List.forall_mem_cons.2 ⟨hU1, (List.forall_mem_cons.2 ⟨hT3, List.forall_mem_cons.2 ⟨hU3, (fun _ h => by simp at h)⟩⟩)⟩⟩) (by intro x hx; simp at hx; rcases hx with rfl | rfl | rfl | rfl | rfl <;> (intro j k n; rcases j with _ | _ | _ | _ | _ | j <;> simp)))
    have ha := hR.act
    simp only [List.foldl_cons, List.foldl_nil, seti, set0, setS, vv0, vv1, vv2, vv3, hg4, hg5] at ha
    subst ha
    clear hR vv0 vv1 vv2 vv3 hg4 lg4 kg4 hg5 lg5 kg5 hne
    refine wpAny_of_late (S := fun _ => True) (L := []) _ _ _ _ ?_
    refine wpLate_one (i := 6) (o := ⟨none, _, _, _, _, _⟩) (by kernel_rfl) rfl (fun K hK => ?_)
    obtain ⟨x0, x1, x2⟩ := X.out.c3 (i := 3) rfl
    obtain ⟨y0, y1, y2⟩ := X.out.f3 (i := 3) rfl
    have X := Lib.hid (X.out.set3 (i := 3) rfl (.bool b1) (.slice A1 n1 c1) (.slice B1 m1 d1))
    go_simp
    refine hK.out _ _ (Or.inr fun _ => trivial) ?_
    clear hK K x0 x1 x2 y0 y1 y2
    obtain ⟨W6, hV⟩ := wexi X.out
    rw [← hV] at X ⊢
    clear hV
    try simp only [Act.put]
    refine wpLate_one (i := 7) (o := ⟨none, _, _, _, _, _⟩) (by kernel_rfl) rfl (fun K hK => ?_)
    obtain ⟨x0, x1, x2⟩ := X.out.c3 (i := 4) rfl
    obtain ⟨y0, y1, y2⟩ := X.out.f3 (i := 4) rfl
    have X := Lib.hid (X.out.set3 (i := 4) rfl (.bool b2) (.slice A3 n3 c3) (.slice B3 m3 d3))
    go_simp
    refine hK.out _ _ (Or.inr fun _ => trivial) ?_
    clear hK K x0 x1 x2 y0 y1 y2
    obtain ⟨W7, hV⟩ := wexi X.out
    rw [← hV] at X ⊢
    clear hV
    try simp only [Act.put]
    refine wpLate_done (by kernel_rfl) ?_ _
    go_wp2_with fail
    go_meet
    exact ⟨_, _, _, _, _, _, _, _, _, _, _, _, _, _, rfl, rfl, X.out.pick [2, 3, 4] _ _ rfl (by decide) (fun _ h => h)⟩
  obtain ⟨g5, g6, A1, n1, c1, B1, x1, d1, A3, n3, c3, B3, x3, d3, rfl, rfl, hX⟩ := hcut
  have X := Lib.hid hX
  clear hX
  go_upto_region 2 with fail
  refine wp_region_late (S := fun w' => (w'.cell? ⟨g5, 0, none⟩ = some (.bool b1) ∧ w'.cell? ⟨g5, 1, none⟩ = some (.slice A1 n1 c1) ∧ w'.cell? ⟨g5, 2, none⟩ = some (.slice B1 x1 d1)) ∧ (w'.cell? ⟨g6, 0, none⟩ = some (.bool b2) ∧ w'.cell? ⟨g6, 1, none⟩ = some (.slice A3 n3 c3) ∧ w'.cell? ⟨g6, 2, none⟩ = some (.slice B3 x3 d3))) (L := []) (by kernel_rfl) ?_
  have X := Lib.hid X.out.drew
  obtain ⟨V0, hV⟩ := wexi X.out
  rw [← hV] at X ⊢
  clear hV
  refine tk (i := 0) (oi := ⟨some 11, _, _, _, _, _⟩) (v := _) rfl (by kernel_rfl) (fun _ _ _ h => h) (⟨X.out.c3 (i := 1) rfl, X.out.c3 (i := 2) rfl⟩) (Or.inl ⟨by rfl, by intro w hSw; (try dsimp only at hSw); (first | (go_simp; done) | (go_simp; with_reducible rfl))⟩) ?_
  try simp only [Act.put, seti, set0, setS]
  refine tk (i := 1) (oi := ⟨some 12, _, _, _, _, _⟩) (v := _) rfl (by kernel_rfl) (fun _ _ _ h => h) (⟨X.out.c3 (i := 1) rfl, X.out.c3 (i := 2) rfl⟩) (Or.inl ⟨by rfl, by intro w hSw; (try dsimp only at hSw); (first | (go_simp; done) | (go_simp; with_reducible rfl))⟩) ?_
  try simp only [Act.put, seti, set0, setS]
  refine tk (i := 2) (oi := ⟨some 13, _, _, _, _, _⟩) (v := _) rfl (by kernel_rfl) (fun _ _ _ h => h) (⟨X.out.c3 (i := 1) rfl, X.out.c3 (i := 2) rfl⟩) (Or.inl ⟨by rfl, by intro w hSw; (try dsimp only at hSw); (first | (go_simp; done) | (go_simp; with_reducible rfl))⟩) ?_
  try simp only [Act.put, seti, set0, setS]
  refine tk (i := 3) (oi := ⟨some 14, _, _, _, _, _⟩) (v := _) rfl (by kernel_rfl) (fun _ _ _ h => h) (⟨X.out.c3 (i := 1) rfl, X.out.c3 (i := 2) rfl⟩) (Or.inl ⟨by rfl, by intro w hSw; (try dsimp only at hSw); (first | (go_simp; done) | (go_simp; with_reducible rfl))⟩) ?_
  try simp only [Act.put, seti, set0, setS]
  refine tk (i := 4) (oi := ⟨some 15, _, _, _, _, _⟩) (v := _) rfl (by kernel_rfl) (fun _ _ _ h => h) (⟨X.out.c3 (i := 1) rfl, X.out.c3 (i := 2) rfl⟩) (Or.inl ⟨by rfl, by intro w hSw; (try dsimp only at hSw); (first | (go_simp; done) | (go_simp; with_reducible rfl))⟩) ?_
  try simp only [Act.put, seti, set0, setS]
  refine tk (i := 5) (oi := ⟨some 16, _, _, _, _, _⟩) (v := _) rfl (by kernel_rfl) (fun _ _ _ h => h) (⟨X.out.c3 (i := 1) rfl, X.out.c3 (i := 2) rfl⟩) (Or.inl ⟨by rfl, by intro w hSw; (try dsimp only at hSw); (first | (go_simp; done) | (go_simp; with_reducible rfl))⟩) ?_
  try simp only [Act.put, seti, set0, setS]
  refine tk (i := 6) (oi := ⟨some 17, _, _, _, _, _⟩) (v := _) rfl (by kernel_rfl) (fun _ _ _ h => h) (⟨X.out.c3 (i := 1) rfl, X.out.c3 (i := 2) rfl⟩) (Or.inl ⟨by rfl, by intro w hSw; (try dsimp only at hSw); (first | (go_simp; done) | (go_simp; with_reducible rfl))⟩) ?_
  try simp only [Act.put, seti, set0, setS]
  refine tk (i := 7) (oi := ⟨some 18, _, _, _, _, _⟩) (v := _) rfl (by kernel_rfl) (fun _ _ _ h => h) (⟨X.out.c3 (i := 1) rfl, X.out.c3 (i := 2) rfl⟩) (Or.inl ⟨by rfl, by intro w hSw; (try dsimp only at hSw); (first | (go_simp; done) | (go_simp; with_reducible rfl))⟩) ?_
  try simp only [Act.put, seti, set0, setS]
  refine tk (i := 8) (oi := ⟨some 19, _, _, _, _, _⟩) (v := _) rfl (by kernel_rfl) (fun _ _ _ h => h) (⟨X.out.c3 (i := 1) rfl, X.out.c3 (i := 2) rfl⟩) (Or.inl ⟨by rfl, by intro w hSw; (try dsimp only at hSw); (first | (go_simp; done) | (go_simp; with_reducible rfl))⟩) ?_
  try simp only [Act.put, seti, set0, setS]
  refine tk (i := 10) (oi := ⟨some 21, _, _, _, _, _⟩) (v := _) rfl (by kernel_rfl) (fun _ _ _ h => h) (⟨X.out.c3 (i := 1) rfl, X.out.c3 (i := 2) rfl⟩) (Or.inl ⟨by rfl, by intro w hSw; (try dsimp only at hSw); (first | (go_simp; done) | (go_simp; with_reducible rfl))⟩) ?_
  try simp only [Act.put, seti, set0, setS]
  refine tk (i := 11) (oi := ⟨some 22, _, _, _, _, _⟩) (v := _) rfl (by kernel_rfl) (fun _ _ _ h => h) (⟨X.out.c3 (i := 1) rfl, X.out.c3 (i := 2) rfl⟩) (Or.inl ⟨by rfl, by intro w hSw; (try dsimp only at hSw); (first | (go_simp; done) | (go_simp; with_reducible rfl))⟩) ?_
  try simp only [Act.put, seti, set0, setS]
  refine tk (i := 12) (oi := ⟨some 23, _, _, _, _, _⟩) (v := _) rfl (by kernel_rfl) (fun _ _ _ h => h) (⟨X.out.c3 (i := 1) rfl, X.out.c3 (i := 2) rfl⟩) (Or.inl ⟨by rfl, by intro w hSw; (try dsimp only at hSw); (first | (go_simp; done) | (go_simp; with_reducible rfl))⟩) ?_
  try simp only [Act.put, seti, set0, setS]
  refine tk (i := 13) (oi := ⟨some 24, _, _, _, _, _⟩) (v := _) rfl (by kernel_rfl) (fun _ _ _ h => h) (⟨X.out.c3 (i := 1) rfl, X.out.c3 (i := 2) rfl⟩) (Or.inl ⟨by rfl, by intro w hSw; (try dsimp only at hSw); (first | (go_simp; done) | (go_simp; with_reducible rfl))⟩) ?_
  try simp only [Act.put, seti, set0, setS]
  refine wpLate_one (i := 9) (o := ⟨some 20, _, _, _, _, _⟩) (by kernel_rfl) rfl (fun K hK => ?_)
  go_simp
  (go_at_call 75; refine (rtimes _ _ _ _ _ _ _ _ _ (by have h := (X.out.rw (i := 0) rfl).ln; have h2 := HN0.out; omega) (by have h := (X.out.rw (i := 3) rfl).ln; have h2 := HN3.out; omega) (X.out.rw (i := 0) rfl).dg (X.out.rw (i := 3) rfl).dg).mono ?_; rintro e u1 ⟨A1, n1, c1, rfl, ht9, hb9, hf9⟩; have X := Lib.hid (X.out.row hb9 ht9 hf9); clear hb9 ht9 hf9)
  try go_wp2_with fail
  refine hK.out _ _ (Or.inr (fun _ => ⟨X.out.c3 (i := 1) rfl, X.out.c3 (i := 2) rfl⟩)) ?_
  clear hK K
  try simp only [Act.put, seti, set0, setS]
  refine wpLate_one (i := 14) (o := ⟨some 25, _, _, _, _, _⟩) (by kernel_rfl) rfl (fun K hK => ?_)
  go_simp
  (go_at_call 75; refine (rtimes _ _ _ _ _ _ _ _ _ (by have h := (X.out.rw (i := 1) rfl).ln; have h2 := HN1.out; omega) (by have h := (X.out.rw (i := 2) rfl).ln; have h2 := HN2.out; omega) (X.out.rw (i := 1) rfl).dg (X.out.rw (i := 2) rfl).dg).mono ?_; rintro e u2 ⟨A2, n2, c2, rfl, ht9, hb9, hf9⟩; have X := Lib.hid (X.out.row hb9 ht9 hf9); clear hb9 ht9 hf9)
  try go_wp2_with fail
  refine hK.out _ _ (Or.inr (fun _ => ⟨X.out.c3 (i := 1) rfl, X.out.c3 (i := 2) rfl⟩)) ?_
  clear hK K
  try simp only [Act.put, seti, set0, setS]
  refine tk (i := 15) (oi := ⟨some 26, _, _, _, _, _⟩) (v := _) rfl (by kernel_rfl) (fun _ _ _ h => h) (⟨X.out.c3 (i := 1) rfl, X.out.c3 (i := 2) rfl⟩) (Or.inl ⟨by rfl, by intro w hSw; (try dsimp only at hSw); (first | (go_simp; done) | (go_simp; with_reducible rfl))⟩) ?_
  try simp only [Act.put, seti, set0, setS]
  refine wpLate_one (i := 16) (o := ⟨some 27, _, _, _, _, _⟩) (by kernel_rfl) rfl (fun K hK => ?_)
  go_simp
  (go_at_call 70; refine (HCN.out _ _ _ _ _ _ _ (X.out.rw (i := 4) rfl) (X.out.rw (i := 5) rfl)).mono ?_; rintro e u3 ⟨rfl, hb9⟩; have X := Lib.hid (X.out.next hb9); clear hb9)
  try go_wp2_with fail
  refine hK.out _ _ (Or.inr (fun _ => ⟨X.out.c3 (i := 1) rfl, X.out.c3 (i := 2) rfl⟩)) ?_
  clear hK K
  try simp only [Act.put, seti, set0, setS]
  refine wpLate_one (i := 17) (o := ⟨none, _, _, _, _, _⟩) (by kernel_rfl) rfl (fun K hK => ?_)
  obtain ⟨x0, x1, x2, x3⟩ := X.out.c4 (i := 0) rfl
  obtain ⟨y0, y1, y2, y3⟩ := X.out.f4 (i := 0) rfl
  have X := Lib.hid (X.out.set4 (i := 0) rfl (.bool b3) (.string m3) (.bool false) (.string k3))
  go_simp
  refine hK.out _ _ (Or.inr (fun _ => ⟨X.out.c3 (i := 1) rfl, X.out.c3 (i := 2) rfl⟩)) ?_
  clear hK K x0 x1 x2 x3 y0 y1 y2 y3
  try simp only [Act.put, seti, set0, setS]
  obtain ⟨W4, hV⟩ := wexi X.out
  rw [← hV] at X ⊢
  clear hV
  refine wpLate_done (by kernel_rfl) ?_ _
  go_wp2
  obtain ⟨p0, p1, p2, p3⟩ := X.out.c4 (i := 0) rfl
  exact bodyPost_ret (v := .agg #[.bool b3, .string m3, .bool false, .string k3]) (by simp [results, Tryz.results37, go_sem, p0, p1, p2, p3]) rfl ⟨rfl, X.out.bel⟩
end Go.Proofs.YtahehlajpaoiiaaGreatDoor


namespace Go.Proofs.YtahehlajpaoiiaaGreatDoor
open Go.RowKit
attribute [local go_sem ↓] Go.wp_at_zero Go.wp_at_succ
attribute [local go_sem] undef yielded

end Go.Proofs.YtahehlajpaoiiaaGreatDoor


namespace Go.Proofs.YtahehlajpaoiiaaGreatDoor
open Go.RowKit
attribute [local go_sem ↓] Go.wp_at_zero Go.wp_at_succ
attribute [local go_sem] undef yielded

end Go.Proofs.YtahehlajpaoiiaaGreatDoor
