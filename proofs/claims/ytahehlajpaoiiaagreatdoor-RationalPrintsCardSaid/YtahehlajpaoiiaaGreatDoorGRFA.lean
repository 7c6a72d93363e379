import Derived.Test.YtahehlajpaoiiaaGreatDoorGRKB
import Derived.Test.YtahehlajpaoiiaaGreatDoorGQW
import Derived.Test.YtahehlajpaoiiaaGreatDoorGQR
import Derived.Test.YtahehlajpaoiiaaGreatDoorGQV

namespace Go.Proofs.YtahehlajpaoiiaaGreatDoor
open Go.RowKit

section
variable {W : World} {g g' : Nat} {cs : Array Value} {T : TypeId} {x0 x1 x2 x3 : Value}
theorem Bq.set2 (h : Bq g cs T W) (hne : g ≠ g') (x y : Value) : Bq g cs T ((W.setCell ⟨g', 0, none⟩ x).setCell ⟨g', 1, none⟩ y) :=
  ⟨(qoth hne x y).trans h.k, by rw [qsz]; exact h.lt⟩
theorem qsz3 (x y z : Value) : (((W.setCell ⟨g, 0, none⟩ x).setCell ⟨g, 1, none⟩ y).setCell ⟨g, 2, none⟩ z).heap.size = W.heap.size := by simp [World.setCell]
theorem Bq.set3 (h : Bq g cs T W) (hne : g ≠ g') (x y z : Value) : Bq g cs T (((W.setCell ⟨g', 0, none⟩ x).setCell ⟨g', 1, none⟩ y).setCell ⟨g', 2, none⟩ z) :=
  ⟨((Below.heap_setCell _ ⟨g', 2, none⟩ z g hne).trans (qoth hne x y)).trans h.k, by rw [qsz3]; exact h.lt⟩
theorem Bq.self3 (h : Bq g #[x0, x1, x2] T W) (x y z : Value) : Bq g #[x, y, z] T (((W.setCell ⟨g, 0, none⟩ x).setCell ⟨g, 1, none⟩ y).setCell ⟨g, 2, none⟩ z) :=
  ⟨by have hk := h.k; simp [World.setCell, Array.getElem?_modify, hk], by rw [qsz3]; exact h.lt⟩
theorem Bq.self4 (h : Bq g #[x0, x1, x2, x3] T W) (x y z u : Value) : Bq g #[x, y, z, u] T ((((W.setCell ⟨g, 0, none⟩ x).setCell ⟨g, 1, none⟩ y).setCell ⟨g, 2, none⟩ z).setCell ⟨g, 3, none⟩ u) :=
  ⟨by have hk := h.k; simp [World.setCell, Array.getElem?_modify, hk], by rw [qsz4]; exact h.lt⟩
end
end Go.Proofs.YtahehlajpaoiiaaGreatDoor



namespace Go.Proofs.YtahehlajpaoiiaaGreatDoor
open Go.RowKit

structure Sb (w : World) (l : List (Nat × Array Value × TypeId)) (rs : List (Option Addr × Nat × Nat × Nat)) (W : World) : Prop where
  k : ∀ x ∈ l, W.heap[x.1]? = some (.cells x.2.1 x.2.2 (0, 0))
  lo : ∀ x ∈ l, w.heap.size ≤ x.1
  ne : ∀ (i j : Nat) (x y : Nat × Array Value × TypeId), l[i]? = some x → l[j]? = some y → i ≠ j → x.1 ≠ y.1
  tr : ∀ r ∈ rs, Tr W r.1 r.2.1 r.2.2.1 r.2.2.2
  ap : ∀ r ∈ rs, ∀ x ∈ l, 0 < r.2.1 → ∀ a, r.1 = some a → a.block ≠ x.1
  bel : Below w.heap.size w W

theorem Tr.block_lt {W : World} {A : Option Addr} {n c V : Nat} (h : Tr W A n c V) (hn : 0 < n) {a : Addr} (e : A = some a) : a.block < W.heap.size := by
  obtain ⟨g, o, e', hg, _⟩ := h.dg.rd hn
  rw [e] at e'
  injection e' with e'
  subst e'
  exact hg
theorem Tr.keep {W W2 : World} {A : Option Addr} {n c V : Nat} (h : Tr W A n c V) (hk : 0 < n → ∀ a, A = some a → W2.heap[a.block]? = W.heap[a.block]?) (hs : W.heap.size ≤ W2.heap.size) : Tr W2 A n c V :=
  ⟨⟨h.dg.lt, fun hn => by
    obtain ⟨g, o, e, hg, hc⟩ := h.dg.rd hn
    exact ⟨g, o, e, Nat.lt_of_lt_of_le hg hs, fun j hj => (World.cell?_of_block (w := W) (a := ⟨g, o + j, none⟩) (by have h1 := hk hn _ e; exact h1)).trans (hc j hj)⟩⟩, h.ln, h.cap, h.nil⟩

section
variable {w W W2 : World} {l l' : List (Nat × Array Value × TypeId)} {rs rs' : List (Option Addr × Nat × Nat × Nat)} {g : Nat} {cs cs' : Array Value} {T : TypeId}
theorem Sb.lt (h : Sb w l rs W) {x : Nat × Array Value × TypeId} (hx : x ∈ l) : x.1 < W.heap.size := (Array.getElem?_eq_some_iff.1 (h.k x hx)).1
theorem Sb.start (w : World) : Sb w [] [] w := ⟨fun _ h => by simp at h, fun _ h => by simp at h, fun _ _ _ _ h => by simp at h, fun _ h => by simp at h, fun _ h => by simp at h, Below.refl _ _⟩
theorem Sb.next (h : Sb w l rs W) (hb : Below W.heap.size W W2) : Sb w l rs W2 :=
  ⟨fun x hx => (hb.block _ (h.lt hx)).trans (h.k x hx), h.lo, h.ne, fun r hr => (h.tr r hr).below hb, h.ap, h.bel.trans (hb.mono h.bel.size)⟩
theorem Sb.drew (h : Sb w l rs W) : Sb w l rs W.drew := h.next (Below.refl _ _).drew
theorem Sb.new (h : Sb w l rs W) (cs : Array Value) (T : TypeId) : Sb w (l ++ [(W.heap.size, cs, T)]) rs (W.alloc (.cells cs T)) := by
  have hn := h.next (below_new W (.cells cs T))
  refine ⟨fun x hx => ?_, fun x hx => ?_, fun i j x y hi hj hij => ?_, hn.tr, fun r hr x hx hn a ha => ?_, hn.bel⟩
  · rcases List.mem_append.1 hx with h1 | h1
    · exact hn.k x h1
    · obtain rfl : x = _ := by simpa using h1
      exact heap_one _ _
  · rcases List.mem_append.1 hx with h1 | h1
    · exact h.lo x h1
    · obtain rfl : x = _ := by simpa using h1
      exact h.bel.size
  · have key : ∀ {i x}, (l ++ [(W.heap.size, cs, T)])[i]? = some x → (i < l.length ∧ l[i]? = some x) ∨ (i = l.length ∧ x.1 = W.heap.size) := by
      intro i x hi
      rcases Nat.lt_trichotomy i l.length with h1 | h1 | h1
      · rw [List.getElem?_append_left h1] at hi
        exact .inl ⟨h1, hi⟩
      · subst h1
        rw [List.getElem?_append_right (Nat.le_refl _)] at hi
        simp at hi
        exact .inr ⟨rfl, by rw [← hi]⟩
      · rw [List.getElem?_append_right (by omega)] at hi
        have : i - l.length ≠ 0 := by omega
        obtain ⟨m, hm⟩ : ∃ m, i - l.length = m + 1 := ⟨i - l.length - 1, by omega⟩
        rw [hm] at hi
        simp at hi
    rcases key hi with ⟨h1, h2⟩ | ⟨h1, h2⟩ <;> rcases key hj with ⟨h3, h4⟩ | ⟨h3, h4⟩
    · exact h.ne i j x y h2 h4 hij
    · have := h.lt (List.mem_of_getElem? h2); omega
    · have := h.lt (List.mem_of_getElem? h4); omega
    · omega
  · rcases List.mem_append.1 hx with h1 | h1
    · exact h.ap r hr x h1 hn a ha
    · obtain rfl : x = _ := by simpa using h1
      have := (h.tr r hr).block_lt hn ha
      show a.block ≠ W.heap.size
      omega
theorem Sb.row (h : Sb w l rs W) (hb : Below W.heap.size W W2) {A : Option Addr} {n c V : Nat} (ht : Tr W2 A n c V) (hf : ∀ a, A = some a → W.heap.size ≤ a.block) : Sb w l (rs ++ [(A, n, c, V)]) W2 := by
  have hn := h.next hb
  refine ⟨hn.k, hn.lo, hn.ne, fun r hr => ?_, fun r hr x hx h0 a ha => ?_, hn.bel⟩
  · rcases List.mem_append.1 hr with h1 | h1
    · exact hn.tr r h1
    · obtain rfl : r = _ := by simpa using h1
      exact ht
  · rcases List.mem_append.1 hr with h1 | h1
    · exact h.ap r h1 x hx h0 a ha
    · obtain rfl : r = _ := by simpa using h1
      have h2 := hf a ha
      have h3 := h.lt hx
      omega
theorem Sb.put (h : Sb w l rs W) {i : Nat} (hl : l[i]? = some (g, cs, T)) (hk : W2.heap[g]? = some (.cells cs' T (0, 0))) (ho : ∀ k, k ≠ g → W2.heap[k]? = W.heap[k]?) (hs : W.heap.size ≤ W2.heap.size) (hb : Below w.heap.size W W2) : Sb w (l.set i (g, cs', T)) rs W2 := by
  have hi : i < l.length := (List.getElem?_eq_some_iff.1 hl).1
  have hm := List.mem_of_getElem? hl
  have key : ∀ {j x}, (l.set i (g, cs', T))[j]? = some x → ∃ y, l[j]? = some y ∧ x.1 = y.1 ∧ (j ≠ i → x = y) ∧ (j = i → x = (g, cs', T)) := by
    intro j x hj
    rw [List.getElem?_set] at hj
    split at hj
    · rename_i h1
      subst h1
      try rw [if_pos hi] at hj
      injection hj with hj
      exact ⟨_, hl, by rw [← hj], fun h => absurd rfl h, fun _ => hj.symm⟩
    · rename_i h1
      exact ⟨x, hj, rfl, fun _ => rfl, fun h => absurd h.symm h1⟩
  have mem : ∀ {x}, x ∈ l.set i (g, cs', T) → ∃ j, (l.set i (g, cs', T))[j]? = some x := fun hx => List.getElem?_of_mem hx
  refine ⟨fun x hx => ?_, fun x hx => ?_, fun j j' x y hx hy hne => ?_, fun r hr => ?_, fun r hr x hx h0 a ha => ?_, h.bel.trans hb⟩
  · obtain ⟨j, hj⟩ := mem hx
    obtain ⟨y, h1, h2, h3, h4⟩ := key hj
    by_cases hji : j = i
    · rw [h4 hji]; exact hk
    · rw [h3 hji]
      exact (ho _ (h.ne j i y _ h1 hl hji)).trans (h.k y (List.mem_of_getElem? h1))
  · obtain ⟨j, hj⟩ := mem hx
    obtain ⟨y, h1, h2, h3, h4⟩ := key hj
    rw [h2]
    exact h.lo y (List.mem_of_getElem? h1)
  · obtain ⟨x', h1, h2, _, _⟩ := key hx
    obtain ⟨y', h3, h4, _, _⟩ := key hy
    rw [h2, h4]
    exact h.ne j j' x' y' h1 h3 hne
  · exact (h.tr r hr).keep (fun h0 a ha => ho _ (h.ap r hr _ hm h0 a ha)) hs
  · obtain ⟨j, hj⟩ := mem hx
    obtain ⟨y, h1, h2, h3, h4⟩ := key hj
    rw [h2]
    exact h.ap r hr y (List.mem_of_getElem? h1) h0 a ha
theorem Sb.set2 (h : Sb w l rs W) {i : Nat} {x0 x1 : Value} (hl : l[i]? = some (g, #[x0, x1], T)) (x y : Value) : Sb w (l.set i (g, #[x, y], T)) rs ((W.setCell ⟨g, 0, none⟩ x).setCell ⟨g, 1, none⟩ y) :=
  h.put hl (qset (h.k _ (List.mem_of_getElem? hl)) x y) (fun k hk => qoth hk x y) (Nat.le_of_eq (qsz x y).symm) (below_set2 (Below.refl _ _) (h.lo _ (List.mem_of_getElem? hl)) x y)
theorem Sb.set3 (h : Sb w l rs W) {i : Nat} {x0 x1 x2 : Value} (hl : l[i]? = some (g, #[x0, x1, x2], T)) (x y z : Value) : Sb w (l.set i (g, #[x, y, z], T)) rs (((W.setCell ⟨g, 0, none⟩ x).setCell ⟨g, 1, none⟩ y).setCell ⟨g, 2, none⟩ z) :=
  h.put hl (Bq.self3 ⟨h.k _ (List.mem_of_getElem? hl), h.lt (List.mem_of_getElem? hl)⟩ x y z).k (fun k hk => (Below.heap_setCell _ ⟨g, 2, none⟩ z k hk).trans (qoth hk x y)) (Nat.le_of_eq (qsz3 x y z).symm) (below_set3 (Below.refl _ _) (h.lo _ (List.mem_of_getElem? hl)) x y z)
theorem Sb.set4 (h : Sb w l rs W) {i : Nat} {x0 x1 x2 x3 : Value} (hl : l[i]? = some (g, #[x0, x1, x2, x3], T)) (x y z u : Value) : Sb w (l.set i (g, #[x, y, z, u], T)) rs ((((W.setCell ⟨g, 0, none⟩ x).setCell ⟨g, 1, none⟩ y).setCell ⟨g, 2, none⟩ z).setCell ⟨g, 3, none⟩ u) :=
  h.put hl (Bq.self4 ⟨h.k _ (List.mem_of_getElem? hl), h.lt (List.mem_of_getElem? hl)⟩ x y z u).k (fun k hk => qoth4 hk x y z u) (Nat.le_of_eq (qsz4 x y z u).symm) (below_set4 (Below.refl _ _) (h.lo _ (List.mem_of_getElem? hl)) x y z u)
theorem Sb.pick (h : Sb w l rs W) (is : List Nat) (l' : List (Nat × Array Value × TypeId)) (rs' : List (Option Addr × Nat × Nat × Nat)) (hl : is.map (fun i : Nat => l[i]?) = l'.map some) (hn : is.Nodup) (hr : ∀ r ∈ rs', r ∈ rs) : Sb w l' rs' W := by
  have at' : ∀ {j : Nat} {x : Nat × Array Value × TypeId}, l'[j]? = some x → ∃ i, is[j]? = some i ∧ l[i]? = some x := by
    intro j x hj
    have h1 : (l'.map some)[j]? = some (some x) := by rw [List.getElem?_map, hj]; rfl
    rw [← hl, List.getElem?_map] at h1
    obtain ⟨i, h2, h3⟩ := Option.map_eq_some_iff.1 h1
    exact ⟨i, h2, h3⟩
  have mem : ∀ {x : Nat × Array Value × TypeId}, x ∈ l' → x ∈ l := fun hx => by
    obtain ⟨j, hj⟩ := List.getElem?_of_mem hx
    obtain ⟨i, _, h2⟩ := at' hj
    exact List.mem_of_getElem? h2
  refine ⟨fun x hx => h.k x (mem hx), fun x hx => h.lo x (mem hx), fun j j' x y hx hy hne => ?_, fun r hr' => h.tr r (hr r hr'), fun r hr' x hx => h.ap r (hr r hr') x (mem hx), h.bel⟩
  obtain ⟨i, h1, h2⟩ := at' hx
  obtain ⟨i', h3, h4⟩ := at' hy
  refine h.ne i i' x y h2 h4 fun e => hne ?_
  subst e
  obtain ⟨ha, hb⟩ := List.getElem?_eq_some_iff.1 h1
  obtain ⟨hc, hd⟩ := List.getElem?_eq_some_iff.1 h3
  exact (List.getElem_inj hn).1 (hb.trans hd.symm)
theorem wexi (_ : Sb w l rs W) : ∃ V, V = W := ⟨_, rfl⟩
theorem Sb.rw (h : Sb w l rs W) {i n c V : Nat} {A : Option Addr} (hl : rs[i]? = some (A, n, c, V)) : Tr W A n c V := h.tr _ (List.mem_of_getElem? hl)
theorem Sb.at (h : Sb w l rs W) {i : Nat} (hl : l[i]? = some (g, cs, T)) : W.heap[g]? = some (.cells cs T (0, 0)) := h.k _ (List.mem_of_getElem? hl)
theorem Sb.c2 (h : Sb w l rs W) {i : Nat} {x0 x1 : Value} (hl : l[i]? = some (g, #[x0, x1], T)) : W.cell? ⟨g, 0, none⟩ = some x0 ∧ W.cell? ⟨g, 1, none⟩ = some x1 := ⟨(blk_cells (h.at hl)).1, (blk_cells (h.at hl)).2.1⟩
theorem Sb.f2 (h : Sb w l rs W) {i : Nat} {x0 x1 : Value} (hl : l[i]? = some (g, #[x0, x1], T)) : W.frozen? ⟨g, 0, none⟩ = false ∧ W.frozen? ⟨g, 1, none⟩ = false := ⟨(blk_cells (h.at hl)).2.2.1, (blk_cells (h.at hl)).2.2.2⟩
theorem Sb.c3 (h : Sb w l rs W) {i : Nat} {x0 x1 x2 : Value} (hl : l[i]? = some (g, #[x0, x1, x2], T)) : W.cell? ⟨g, 0, none⟩ = some x0 ∧ W.cell? ⟨g, 1, none⟩ = some x1 ∧ W.cell? ⟨g, 2, none⟩ = some x2 := ⟨(blk3 (h.at hl)).1, (blk3 (h.at hl)).2.1, (blk3 (h.at hl)).2.2.1⟩
theorem Sb.f3 (h : Sb w l rs W) {i : Nat} {x0 x1 x2 : Value} (hl : l[i]? = some (g, #[x0, x1, x2], T)) : W.frozen? ⟨g, 0, none⟩ = false ∧ W.frozen? ⟨g, 1, none⟩ = false ∧ W.frozen? ⟨g, 2, none⟩ = false := (blk3 (h.at hl)).2.2.2
theorem Sb.c4 (h : Sb w l rs W) {i : Nat} {x0 x1 x2 x3 : Value} (hl : l[i]? = some (g, #[x0, x1, x2, x3], T)) : W.cell? ⟨g, 0, none⟩ = some x0 ∧ W.cell? ⟨g, 1, none⟩ = some x1 ∧ W.cell? ⟨g, 2, none⟩ = some x2 ∧ W.cell? ⟨g, 3, none⟩ = some x3 := blk4 (h.at hl)
theorem Sb.f4 (h : Sb w l rs W) {i : Nat} {x0 x1 x2 x3 : Value} (hl : l[i]? = some (g, #[x0, x1, x2, x3], T)) : W.frozen? ⟨g, 0, none⟩ = false ∧ W.frozen? ⟨g, 1, none⟩ = false ∧ W.frozen? ⟨g, 2, none⟩ = false ∧ W.frozen? ⟨g, 3, none⟩ = false := fro4 (h.at hl)
end


def takeB (md : Region.Mode) (ops : Array Oper) (L : List Nat) (listed : Array Bool) (i : Nat) : Bool :=
  Region.noSelect ops && Region.free md ops listed i && (Region.ready md ops listed).contains i && closedB md ops listed && L.all (fun j => waits md ops i ops.size j)
theorem tk {P : Program} {ops : Array Oper} {Q : Exit → Act → World → Prop} {md : Region.Mode} {S : World → Prop} {L : List Nat} {i : Nat} {oi : Oper} {v : Value} {fuel : Nat} {listed : Array Bool} {a : Act} {w : World} (hi : ops[i]? = some oi) (hb : takeB md ops L listed i = true)
    (hQ : ∀ c a w, Q (.panic c) (a.put oi.dst v) w → Q (.panic c) a w) (hS : S w) (hy : YieldsIf P ops S oi v a)
    (h : wpLate P md ops Q S L fuel (listed.setIfInBounds i true) (a.put oi.dst v) w) : wpLate P md ops Q S L (fuel + 1) listed a w := by
  simp only [takeB, Bool.and_eq_true] at hb
  obtain ⟨⟨⟨⟨h1, h2⟩, h3⟩, h4⟩, h5⟩ := hb
  exact wpLate_take hi h1 h2 h3 h4 h5 hQ hy hS h
theorem seti {α : Type} (xs : List α) (i : Nat) (a : α) : xs.toArray.setIfInBounds i a = (xs.set i a).toArray := List.setIfInBounds_toArray ..
theorem set0 {α : Type} (x y : α) (xs : List α) : (x :: xs).set 0 y = y :: xs := rfl
theorem setS {α : Type} (x y : α) (xs : List α) (n : Nat) : (x :: xs).set (n + 1) y = x :: xs.set n y := rfl
end Go.Proofs.YtahehlajpaoiiaaGreatDoor


namespace Go.Proofs.YtahehlajpaoiiaaGreatDoor
open Go.RowKit

inductive Eff
  | val (v : Value)
  | new (cs : Array Value) (T : TypeId)
  | rel (p : Value → World → Prop)

structure Rg (w0 : World) (a0 : Act) (ef : List Eff) (ds : List Nat) (listed : Array Bool) (a : Act) (w : World) : Prop where
  bel : Below w0.heap.size w0 w
  sz : a.tmps.size = a0.tmps.size
  df : a.defers = a0.defers
  keep : ∀ k, k ∉ ds → a.tmps.getD k undef = a0.tmps.getD k undef
  val : ∀ i v, listed.getD i false = true → ef[i]? = some (.val v) → a.tmps.getD (ds.getD i 0) undef = v
  new : ∀ i cs T, listed.getD i false = true → ef[i]? = some (.new cs T) → ∃ g, a.tmps.getD (ds.getD i 0) undef = .pointer (some ⟨g, 0, none⟩) ∧ w0.heap.size ≤ g ∧ w.heap[g]? = some (.cells cs T (0, 0))
  rel : ∀ i p, listed.getD i false = true → ef[i]? = some (.rel p) → p (a.tmps.getD (ds.getD i 0) undef) w
  ne : ∀ i j cs T cs' T' g, i ≠ j → listed.getD i false = true → listed.getD j false = true → ef[i]? = some (.new cs T) → ef[j]? = some (.new cs' T') → a.tmps.getD (ds.getD i 0) undef = .pointer (some ⟨g, 0, none⟩) → a.tmps.getD (ds.getD j 0) undef ≠ .pointer (some ⟨g, 0, none⟩)

def Did (ef : List Eff) (i : Nat) (w : World) (v : Value) (w' : World) : Prop :=
  (ef[i]? = some (.val v) ∧ Below w.heap.size w w') ∨ (∃ cs T, ef[i]? = some (.new cs T) ∧ v = .pointer (some ⟨w.heap.size, 0, none⟩) ∧ w' = w.alloc (.cells cs T)) ∨ (∃ p, ef[i]? = some (.rel p) ∧ p v w' ∧ Below w.heap.size w w')

def Stays (ef : List Eff) : Prop := ∀ (i : Nat) (p : Value → World → Prop), ef[i]? = some (.rel p) → ∀ v w w', p v w → Below w.heap.size w w' → p v w'

theorem put_at (a : Act) (d : Nat) (v : Value) (h : d < a.tmps.size) : (a.put (some d) v).tmps.getD d undef = v := by
  simp [Act.put, Array.getD_eq_getD_getElem?, h]
theorem put_not (a : Act) {d k : Nat} (v : Value) (h : d ≠ k) : (a.put (some d) v).tmps.getD k undef = a.tmps.getD k undef := by
  simp [Act.put, Array.getD_eq_getD_getElem?, Array.getElem?_setIfInBounds_ne h]
theorem put_size (a : Act) (d : Nat) (v : Value) : (a.put (some d) v).tmps.size = a.tmps.size := by simp [Act.put]

section
variable {w0 w w' : World} {a0 a : Act} {ef : List Eff} {ds : List Nat} {listed : Array Bool} {i d : Nat}
theorem nodup_ne (hnd : ds.Nodup) (hi : ds[i]? = some d) {j : Nat} (hj : j < ds.length) (hne : j ≠ i) : ds.getD j 0 ≠ d := by
  intro e
  obtain ⟨h1, h2⟩ := List.getElem?_eq_some_iff.1 hi
  have h3 : ds[j] = ds[i] := by
    rw [h2, ← e]
    simp [List.getD, hj]
  exact hne ((List.getElem_inj hnd).1 h3)

theorem Rg.step (h : Rg w0 a0 ef ds listed a w) (hst : Stays ef) (hnd : ds.Nodup) (hlen : ef.length = ds.length) (hi : ds[i]? = some d) (hd : d < a0.tmps.size) (hl : listed.getD i false = false) (hs : i < listed.size) {v : Value} (hdid : Did ef i w v w') :
    Rg w0 a0 ef ds (listed.setIfInBounds i true) (a.put (some d) v) w' := by
  have hdi : ds.getD i 0 = d := by simp [List.getD, hi]
  have hmem : d ∈ ds := List.mem_of_getElem? hi
  have hda : d < a.tmps.size := by rw [h.sz]; exact hd
  have hb : Below w.heap.size w w' := by
    rcases hdid with ⟨_, hb⟩ | ⟨cs, T, _, _, rfl⟩ | ⟨p, _, _, hb⟩
    · exact hb
    · exact below_new _ _
    · exact hb
  have was : ∀ {j : Nat}, j ≠ i → (listed.setIfInBounds i true).getD j false = true → listed.getD j false = true := fun hne hj => by
    rw [getD_set_ne false (Ne.symm hne)] at hj
    exact hj
  have other : ∀ {j : Nat} {x : Eff}, j ≠ i → ef[j]? = some x → (a.put (some d) v).tmps.getD (ds.getD j 0) undef = a.tmps.getD (ds.getD j 0) undef := fun hne hj => by
    have hjl := (List.getElem?_eq_some_iff.1 hj).1
    exact put_not a v (Ne.symm (nodup_ne hnd hi (by omega) hne))
  refine ⟨h.bel.trans (hb.mono h.bel.size), (put_size a d v).trans h.sz, h.df, fun k hk => ?_, fun j u hj he => ?_, fun j cs T hj he => ?_, fun j p hj he => ?_, fun j k cs T cs' T' g hne hj hk he hf hg => ?_⟩
  · rw [put_not a (k := k) v (fun e : d = k => hk (by rw [← e]; exact hmem))]
    exact h.keep k hk
  · by_cases hji : j = i
    · subst hji
      rw [hdi, put_at a d v hda]
      rcases hdid with ⟨h1, _⟩ | ⟨cs, T, h1, _, _⟩ | ⟨p, h1, _, _⟩
      · rw [he] at h1; injection h1 with h1; injection h1 with h1; exact h1.symm
      · rw [he] at h1; injection h1 with h1; cases h1
      · rw [he] at h1; injection h1 with h1; cases h1
    · rw [other hji he]
      exact h.val j u (was hji hj) he
  · by_cases hji : j = i
    · subst hji
      rw [hdi, put_at a d v hda]
      rcases hdid with ⟨h1, _⟩ | ⟨cs', T', h1, hv, hw⟩ | ⟨p, h1, _, _⟩
      · rw [he] at h1; injection h1 with h1; cases h1
      rotate_left
      · rw [he] at h1; injection h1 with h1; cases h1
      · rw [he] at h1
        injection h1 with h1
        injection h1 with h1 h2
        subst h1
        subst h2
        subst hv
        subst hw
        exact ⟨_, rfl, h.bel.size, heap_one _ _⟩
    · rw [other hji he]
      obtain ⟨g, h1, h2, h3⟩ := h.new j cs T (was hji hj) he
      exact ⟨g, h1, h2, (hb.block _ (Array.getElem?_eq_some_iff.1 h3).1).trans h3⟩
  · by_cases hji : j = i
    · subst hji
      rw [hdi, put_at a d v hda]
      rcases hdid with ⟨h1, _⟩ | ⟨cs, T, h1, _, _⟩ | ⟨p', h1, hp, _⟩
      · rw [he] at h1; injection h1 with h1; cases h1
      · rw [he] at h1; injection h1 with h1; cases h1
      · rw [he] at h1
        injection h1 with h1
        injection h1 with h1
        subst h1
        exact hp
    · rw [other hji he]
      exact hst j p he _ _ _ (h.rel j p (was hji hj) he) hb
  · by_cases hji : j = i
    · subst hji
      have hki : k ≠ j := Ne.symm hne
      rw [other hki hf]
      rw [hdi, put_at a d v hda] at hg
      rcases hdid with ⟨h1, _⟩ | ⟨cs2, T2, h1, hv, hw⟩ | ⟨p, h1, _, _⟩
      · rw [he] at h1; injection h1 with h1; cases h1
      rotate_left
      · rw [he] at h1; injection h1 with h1; cases h1
      · obtain ⟨g', h2, h3, h4⟩ := h.new k cs' T' (was hki hk) hf
        rw [h2]
        rw [hv] at hg
        intro e
        rw [← hg] at e
        injection e with e
        injection e with e
        injection e with e
        have := (Array.getElem?_eq_some_iff.1 h4).1
        omega
    · by_cases hki : k = i
      · subst hki
        rw [other hji he] at hg
        rw [hdi, put_at a d v hda]
        rcases hdid with ⟨h1, _⟩ | ⟨cs2, T2, h1, hv, hw⟩ | ⟨p, h1, _, _⟩
        · rw [hf] at h1; injection h1 with h1; cases h1
        rotate_left
        · rw [hf] at h1; injection h1 with h1; cases h1
        · obtain ⟨g', h2, h3, h4⟩ := h.new j cs T (was hji hj) he
          rw [h2] at hg
          rw [hv]
          intro e
          rw [← hg] at e
          injection e with e
          injection e with e
          injection e with e
          have := (Array.getElem?_eq_some_iff.1 h4).1
          omega
      · rw [other hji he] at hg
        rw [other hki hf]
        exact h.ne j k cs T cs' T' g hne (was hji hj) (was hki hk) he hf hg
end

theorem Sb.add {w W0 W : World} {l : List (Nat × Array Value × TypeId)} {rs : List (Option Addr × Nat × Nat × Nat)} {g : Nat} {cs : Array Value} {T : TypeId} (h : Sb w l rs W0) (hb : Below W0.heap.size W0 W) (hg : W0.heap.size ≤ g) (hk : W.heap[g]? = some (.cells cs T (0, 0))) : Sb w (l ++ [(g, cs, T)]) rs W := by
  have hn := h.next hb
  refine ⟨fun x hx => ?_, fun x hx => ?_, fun i j x y hi hj hij => ?_, hn.tr, fun r hr x hx h0 a ha => ?_, hn.bel⟩
  · rcases List.mem_append.1 hx with h1 | h1
    · exact hn.k x h1
    · obtain rfl : x = _ := by simpa using h1
      exact hk
  · rcases List.mem_append.1 hx with h1 | h1
    · exact h.lo x h1
    · obtain rfl : x = _ := by simpa using h1
      exact Nat.le_trans h.bel.size hg
  · have key : ∀ {i x}, (l ++ [(g, cs, T)])[i]? = some x → (i < l.length ∧ l[i]? = some x) ∨ (i = l.length ∧ x.1 = g) := by
      intro i x hi
      rcases Nat.lt_trichotomy i l.length with h1 | h1 | h1
      · rw [List.getElem?_append_left h1] at hi
        exact .inl ⟨h1, hi⟩
      · subst h1
        rw [List.getElem?_append_right (Nat.le_refl _)] at hi
        simp at hi
        exact .inr ⟨rfl, by rw [← hi]⟩
      · rw [List.getElem?_append_right (by omega)] at hi
        obtain ⟨m, hm⟩ : ∃ m, i - l.length = m + 1 := ⟨i - l.length - 1, by omega⟩
        rw [hm] at hi
        simp at hi
    rcases key hi with ⟨h1, h2⟩ | ⟨h1, h2⟩ <;> rcases key hj with ⟨h3, h4⟩ | ⟨h3, h4⟩
    · exact h.ne i j x y h2 h4 hij
    · have := h.lt (List.mem_of_getElem? h2); omega
    · have := h.lt (List.mem_of_getElem? h4); omega
    · omega
  · rcases List.mem_append.1 hx with h1 | h1
    · exact h.ap r hr x h1 h0 a ha
    · obtain rfl : x = _ := by simpa using h1
      have h2 := (h.tr r hr).block_lt h0 ha
      show a.block ≠ g
      omega
end Go.Proofs.YtahehlajpaoiiaaGreatDoor


namespace Go.Proofs.YtahehlajpaoiiaaGreatDoor
open Go.RowKit
attribute [local go_sem ↓] Go.wp_at_zero Go.wp_at_succ

theorem wrap_dig : ∀ d : Nat, d < 10 → IntKind.i64.wrap (IntKind.u8.wrap (48 + (d : Int) - 48)) = (d : Int) := by decide
theorem dg_at {W : World} {g d : Nat} {T : TypeId} (h : W.heap[g]? = some (.cells #[.int .i64 (d : Int)] T (0, 0))) (hd : d < 256) : Dg W .i64 256 (some ⟨g, 0, none⟩) 1 d := by
  refine ⟨by omega, fun _ => ⟨g, 0, rfl, (Array.getElem?_eq_some_iff.1 h).1, fun j hj => ?_⟩⟩
  obtain rfl : j = 0 := by omega
  have h2 : d % 256 = d := Nat.mod_eq_of_lt hd
  simp [World.cell?, h, D, h2]
theorem tr_at {W : World} {g k : Nat} {T : TypeId} (h : W.heap[g]? = some (.cells #[.int .i64 (k : Int)] T (0, 0))) (h0 : 0 < k) (h1 : k < 256) : Tr W (some ⟨g, 0, none⟩) 1 1 k :=
  ⟨dg_at h h1, (nd_lit h0 h1).symm, Nat.le_refl _, fun h => by cases h⟩
theorem dg_nd {W : World} {A : Option Addr} {n V : Nat} (h : Dg W .i64 256 A n V) : Dg W .i64 256 A (nd V) V := by
  have hle := nd_le h.lt
  refine ⟨nd_lt V, fun h0 => ?_⟩
  obtain ⟨g, o, e, hg, hc⟩ := h.rd (by omega)
  exact ⟨g, o, e, hg, fun i hi => hc i (by omega)⟩
theorem trim_b (A : Option Addr) (n c V : Nat) (w : World) (hn : n ≤ 1000000000) (hc : n ≤ c) (h : Dg w .i64 256 A n V) :
    Calls Tryz.prog 98 #[.slice A n c] w (RetB w (.slice A (nd V) c)) := by
  refine (rtrim_any A n c V w hn hc h).mono ?_
  rintro e w' ⟨rfl, rfl⟩
  exact ⟨rfl, Below.refl _ _⟩
theorem Sb.row0 {w : World} {A : Option Addr} {n c V : Nat} (h : Tr w A n c V) : Sb w [] [(A, n, c, V)] w :=
  ⟨fun _ h => by simp at h, fun _ h => by simp at h, fun _ _ _ _ h => by simp at h, fun r hr => by obtain rfl : r = (A, n, c, V) := by simpa using hr
                                                                                                   exact h, fun _ _ _ h => by simp at h, Below.refl _ _⟩
theorem nd_val10 {l : List UInt8} (h : ∀ b ∈ l, digit10 b) : nd (val10 l) ≤ l.length := by
  unfold nd
  exact mag_size_le (Nat.lt_of_lt_of_le (val10_lt l h) (Nat.pow_le_pow_left (by decide) _))

def RetNu (w : World) (l : List UInt8) (e : Ending) (w' : World) : Prop :=
  ∃ A n c ok, e = .returned (.tuple #[.slice A n c, .bool ok]) ∧ (ok = true ↔ Dgs l) ∧ (ok = true → Tr w' A n c (val10 l)) ∧ Below w.heap.size w w'

set_option maxHeartbeats 8000000 in
set_option maxRecDepth 100000 in
theorem rnumber (s : ByteArray) (w : World) (hs : s.size ≤ 5000) :
    Calls Tryz.prog 96 #[.string s] w (RetNu w s.data.toList) := by
  go_enter Tryz.func96, Tryz.ntmps96
  go_wp2
  go_loopg [4, 5] s.size (fun k ov iv wr => ∃ (i v : Nat) (A' : Option Addr) (n' c' : Nat), ov = .slice A' n' c' ∧ iv = .int .i64 (i : Int) ∧ Hid (i ≤ s.size ∧ s.size ≤ i + k ∧ (∀ b ∈ s.data.toList.take i, digit10 b) ∧ v = val10 (s.data.toList.take i)) ∧ Tr wr A' n' c' v ∧ Below w.heap.size w wr)
  case atStart => exact ⟨0, 0, none, 0, 0, rfl, rfl, ⟨Nat.zero_le _, by omega, fun b hb => by simp at hb, by simp [val10]⟩, tr_nil _, Below.refl _ _⟩
  case round =>
    obtain ⟨i, v, A', n', c', rfl, rfl, HC, hHH⟩ := hrel
    have HH := Lib.hid hHH
    clear hHH
    by_cases hlt : i < s.size
    · have hkl : i < s.data.toList.length := hlt
      have hget : ∀ h, (s[i]'h).toNat = (s.data.toList[i]'hkl).toNat := fun h => rfl
      obtain ⟨b, hb⟩ : ∃ b, (s.data.toList[i]'hkl) = b := ⟨_, rfl⟩
      have hmem : b ∈ s.data.toList := by rw [← hb]; exact List.getElem_mem hkl
      rw [hb] at hget
      have HTK := Lib.hid (List.take_succ_eq_append_getElem hkl)
      have HB := Lib.hid hb
      have HMEM := Lib.hid hmem
      obtain ⟨x, hx⟩ : ∃ x, b.toNat = x := ⟨_, rfl⟩
      rw [hx] at hget
      have HX := Lib.hid hx
      clear hb hmem hx
      by_cases h1 : x < 48
      · have HN := Lib.hid (show ¬ Dgs s.data.toList from fun h => by have := (h.2 b HMEM.out).1; rw [HX.out] at this; omega)
        go_wp2
        exact bodyPost_ret (v := .tuple #[.slice none 0 0, .bool false]) (by simp [results, Tryz.results96, go_sem]) rfl ⟨none, 0, 0, false, rfl, by simp [HN.out], (fun h => by cases h), HH.out.2⟩
      · by_cases h2 : 57 < x
        · have HN := Lib.hid (show ¬ Dgs s.data.toList from fun h => by have := (h.2 b HMEM.out).2; rw [HX.out] at this; omega)
          go_wp2
          exact bodyPost_ret (v := .tuple #[.slice none 0 0, .bool false]) (by simp [results, Tryz.results96, go_sem]) rfl ⟨none, 0, 0, false, rfl, by simp [HN.out], (fun h => by cases h), HH.out.2⟩
        · obtain ⟨d, rfl⟩ : ∃ d, x = 48 + d := ⟨x - 48, by omega⟩
          have hd : d < 10 := by omega
          have hwr : IntKind.i64.wrap (IntKind.u8.wrap (48 + (d : Int) - 48)) = (d : Int) := wrap_dig d hd
          have HD10 := Lib.hid (show d < 256 by omega)
          have hn1 : nd v ≤ 5000 := by
            have h3 := nd_val10 HC.out.2.2.1
            rw [← HC.out.2.2.2, List.length_take] at h3
            omega
          have HNB := Lib.hid (show n' ≤ 5000 by have := HH.out.1.ln; omega)
          have HNT := Lib.hid (show nd (v * 10) ≤ 6000 by have h3 := nd_mul v 10; have h4 := nd_lit (k := 10) (by omega) (by omega); omega)
          have HND := Lib.hid (show nd d ≤ 1 by unfold nd; exact mag_size_le (by omega))
          have hnx : i + 1 ≤ s.size ∧ s.size ≤ i + 1 + (s.size - (i + 1)) ∧ (∀ b ∈ s.data.toList.take (i + 1), digit10 b) ∧ v * 10 + d = val10 (s.data.toList.take (i + 1)) := by
            refine ⟨hlt, by omega, fun c hc => ?_, ?_⟩
            · rw [HTK.out, HB.out, List.mem_append] at hc
              rcases hc with hc | hc
              · exact HC.out.2.2.1 c hc
              · obtain rfl : c = b := by simpa using hc
                exact ⟨by rw [HX.out]; omega, by rw [HX.out]; omega⟩
            · rw [HTK.out, HB.out, val10_snoc, ← HC.out.2.2.2, HX.out]
              omega
          have HNX := Lib.hid hnx
          have X := Lib.hid (Sb.row0 HH.out.1)
          clear hnx hn1 HX HTK HB HMEM
          go_upto_region 7 with fail
          refine wp_region_late (S := fun _ => True) (L := []) (by kernel_rfl) ?_
          have X := Lib.hid X.out.drew
          obtain ⟨V0, hV⟩ := wexi X.out
          rw [← hV] at X ⊢
          clear hV
          refine tk (i := 0) (oi := ⟨some 22, _, _, _, _, _⟩) (v := _) rfl (by kernel_rfl) (fun _ _ _ h => h) (trivial) (Or.inl ⟨by rfl, by intro w hSw; (try dsimp only at hSw); (first | (go_simp; done) | (go_simp; with_reducible rfl))⟩) ?_
          try simp only [Act.put, seti, set0, setS]
          refine tk (i := 3) (oi := ⟨some 25, _, _, _, _, _⟩) (v := _) rfl (by kernel_rfl) (fun _ _ _ h => h) (trivial) (Or.inl ⟨by rfl, by intro w hSw; (try dsimp only at hSw); (first | (go_simp; done) | (go_simp; with_reducible rfl))⟩) ?_
          try simp only [Act.put, seti, set0, setS]
          refine tk (i := 4) (oi := ⟨some 26, _, _, _, _, _⟩) (v := _) rfl (by kernel_rfl) (fun _ _ _ h => h) (trivial) (Or.inl ⟨by rfl, by intro w hSw; (try dsimp only at hSw); (first | (go_simp; done) | (go_simp; with_reducible rfl))⟩) ?_
          try simp only [Act.put, seti, set0, setS]
          refine tk (i := 5) (oi := ⟨some 27, _, _, _, _, _⟩) (v := _) rfl (by kernel_rfl) (fun _ _ _ h => h) (trivial) (Or.inl ⟨by rfl, by intro w hSw; (try dsimp only at hSw); (first | (go_simp; done) | (go_simp; with_reducible rfl))⟩) ?_
          try simp only [Act.put, seti, set0, setS]
          refine tk (i := 6) (oi := ⟨some 28, _, _, _, _, _⟩) (v := _) rfl (by kernel_rfl) (fun _ _ _ h => h) (trivial) (Or.inl ⟨by rfl, by intro w hSw; (try dsimp only at hSw); (first | (go_simp; done) | (go_simp; with_reducible rfl))⟩) ?_
          try simp only [Act.put, seti, set0, setS]
          refine tk (i := 7) (oi := ⟨some 29, _, _, _, _, _⟩) (v := _) rfl (by kernel_rfl) (fun _ _ _ h => h) (trivial) (Or.inl ⟨by rfl, by intro w hSw; (try dsimp only at hSw); (first | (go_simp; done) | (go_simp; with_reducible rfl))⟩) ?_
          try simp only [Act.put, seti, set0, setS]
          refine wpLate_two (i := 1) (j := 8) (o := ⟨some 23, _, _, _, _, _⟩) (o' := ⟨some 30, _, _, _, _, _⟩) (by kernel_rfl) rfl rfl (fun K hK => ?_) (fun K hK => ?_)
          · as_aux_lemma =>
            go_simp
            have X := Lib.hid (X.out.new #[.int .i64 10] 3)
            refine hK.out _ _ (Or.inr (fun _ => trivial)) ?_
            clear hK K
            try simp only [Act.put, seti, set0, setS]
            obtain ⟨V1, hV⟩ := wexi X.out
            rw [← hV] at X ⊢
            clear hV
            refine wpLate_two (i := 2) (j := 8) (o := ⟨some 24, _, _, _, _, _⟩) (o' := ⟨some 30, _, _, _, _, _⟩) (by kernel_rfl) rfl rfl (fun K hK => ?_) (fun K hK => ?_)
            go_simp
            (go_at_call 75; refine (rtimes A' (some ⟨V0.heap.size, 0, none⟩) n' 1 c' 1 v 10 _ (by have := HNB.out; omega) (by omega) (X.out.rw (i := 0) rfl).dg (tr_at (k := 10) (X.out.at (i := 0) rfl) (by omega) (by omega)).dg).mono ?_; rintro e u2 ⟨A2, n2, c2, rfl, ht9, hb9, hf9⟩; have X := Lib.hid (X.out.row hb9 ht9 hf9); clear hb9 ht9 hf9)
            try go_wp2_with fail
            refine hK.out _ _ (Or.inr (fun _ => trivial)) ?_
            clear hK K
            try simp only [Act.put, seti, set0, setS]
            refine wpLate_one (i := 8) (o := ⟨some 30, _, _, _, _, _⟩) (by kernel_rfl) rfl (fun K hK => ?_)
            go_simp
            have X := Lib.hid (X.out.new #[.int .i64 (d : Int)] 3)
            refine hK.out _ _ (Or.inr (fun _ => trivial)) ?_
            clear hK K
            try simp only [Act.put, seti, set0, setS]
            obtain ⟨V3, hV⟩ := wexi X.out
            rw [← hV] at X ⊢
            clear hV
            refine wpLate_one (i := 9) (o := ⟨some 31, _, _, _, _, _⟩) (by kernel_rfl) rfl (fun K hK => ?_)
            go_simp
            (go_at_call 98; refine (trim_b (some ⟨u2.heap.size, 0, none⟩) 1 1 d _ (by omega) (by omega) (dg_at (X.out.at (i := 1) rfl) HD10.out)).mono ?_; rintro e u4 ⟨rfl, hb9⟩; have X := Lib.hid (X.out.next hb9); clear hb9)
            try go_wp2_with fail
            refine hK.out _ _ (Or.inr (fun _ => trivial)) ?_
            clear hK K
            try simp only [Act.put, seti, set0, setS]
            refine wpLate_one (i := 10) (o := ⟨some 32, _, _, _, _, _⟩) (by kernel_rfl) rfl (fun K hK => ?_)
            go_simp
            (go_at_call 76; refine (rplus _ (some ⟨u2.heap.size, 0, none⟩) _ (nd d) _ 1 (v * 10) d _ (by have h := (X.out.rw (i := 1) rfl).ln; have := HNT.out; omega) (by have := HND.out; omega) (X.out.rw (i := 1) rfl).dg (dg_nd (dg_at (X.out.at (i := 1) rfl) HD10.out))).mono ?_; rintro e u5 ⟨A5, n5, c5, rfl, ht9, hb9, hf9⟩; have X := Lib.hid (X.out.row hb9 ht9 hf9); clear hb9 ht9 hf9)
            try go_wp2_with fail
            refine hK.out _ _ (Or.inr (fun _ => trivial)) ?_
            clear hK K
            try simp only [Act.put, seti, set0, setS]
            refine tk (i := 11) (oi := ⟨some 4, _, _, _, _, _⟩) (v := _) rfl (by kernel_rfl) (fun _ _ _ h => h) (trivial) (Or.inl ⟨by rfl, by intro w hSw; (try dsimp only at hSw); (first | (go_simp; done) | (go_simp; with_reducible rfl))⟩) ?_
            try simp only [Act.put, seti, set0, setS]
            refine wpLate_done (by kernel_rfl) ?_ _
            go_wp2_with fail
            go_roundg (s.size - (i + 1))
            case measure => have := HC.out.2.1; omega
            case rel => exact ⟨i + 1, _, _, _, _, rfl, rfl, HNX.out, (X.out.rw (i := 2) rfl), HH.out.2.trans (X.out.bel.mono HH.out.2.size)⟩
            go_simp
            have X := Lib.hid (X.out.new #[.int .i64 (d : Int)] 3)
            refine hK.out _ _ (Or.inr (fun _ => trivial)) ?_
            clear hK K
            try simp only [Act.put, seti, set0, setS]
            obtain ⟨V6, hV⟩ := wexi X.out
            rw [← hV] at X ⊢
            clear hV
            refine wpLate_one (i := 2) (o := ⟨some 24, _, _, _, _, _⟩) (by kernel_rfl) rfl (fun K hK => ?_)
            go_simp
            (go_at_call 75; refine (rtimes A' (some ⟨V0.heap.size, 0, none⟩) n' 1 c' 1 v 10 _ (by have := HNB.out; omega) (by omega) (X.out.rw (i := 0) rfl).dg (tr_at (k := 10) (X.out.at (i := 0) rfl) (by omega) (by omega)).dg).mono ?_; rintro e u7 ⟨A7, n7, c7, rfl, ht9, hb9, hf9⟩; have X := Lib.hid (X.out.row hb9 ht9 hf9); clear hb9 ht9 hf9)
            try go_wp2_with fail
            refine hK.out _ _ (Or.inr (fun _ => trivial)) ?_
            clear hK K
            try simp only [Act.put, seti, set0, setS]
            refine wpLate_one (i := 9) (o := ⟨some 31, _, _, _, _, _⟩) (by kernel_rfl) rfl (fun K hK => ?_)
            go_simp
            (go_at_call 98; refine (trim_b (some ⟨V1.heap.size, 0, none⟩) 1 1 d _ (by omega) (by omega) (dg_at (X.out.at (i := 1) rfl) HD10.out)).mono ?_; rintro e u8 ⟨rfl, hb9⟩; have X := Lib.hid (X.out.next hb9); clear hb9)
            try go_wp2_with fail
            refine hK.out _ _ (Or.inr (fun _ => trivial)) ?_
            clear hK K
            try simp only [Act.put, seti, set0, setS]
            refine wpLate_one (i := 10) (o := ⟨some 32, _, _, _, _, _⟩) (by kernel_rfl) rfl (fun K hK => ?_)
            go_simp
            (go_at_call 76; refine (rplus _ (some ⟨V1.heap.size, 0, none⟩) _ (nd d) _ 1 (v * 10) d _ (by have h := (X.out.rw (i := 1) rfl).ln; have := HNT.out; omega) (by have := HND.out; omega) (X.out.rw (i := 1) rfl).dg (dg_nd (dg_at (X.out.at (i := 1) rfl) HD10.out))).mono ?_; rintro e u9 ⟨A9, n9, c9, rfl, ht9, hb9, hf9⟩; have X := Lib.hid (X.out.row hb9 ht9 hf9); clear hb9 ht9 hf9)
            try go_wp2_with fail
            refine hK.out _ _ (Or.inr (fun _ => trivial)) ?_
            clear hK K
            try simp only [Act.put, seti, set0, setS]
            refine tk (i := 11) (oi := ⟨some 4, _, _, _, _, _⟩) (v := _) rfl (by kernel_rfl) (fun _ _ _ h => h) (trivial) (Or.inl ⟨by rfl, by intro w hSw; (try dsimp only at hSw); (first | (go_simp; done) | (go_simp; with_reducible rfl))⟩) ?_
            try simp only [Act.put, seti, set0, setS]
            refine wpLate_done (by kernel_rfl) ?_ _
            go_wp2_with fail
            go_roundg (s.size - (i + 1))
            case measure => have := HC.out.2.1; omega
            case rel => exact ⟨i + 1, _, _, _, _, rfl, rfl, HNX.out, (X.out.rw (i := 2) rfl), HH.out.2.trans (X.out.bel.mono HH.out.2.size)⟩
          go_simp
          have X := Lib.hid (X.out.new #[.int .i64 (d : Int)] 3)
          refine hK.out _ _ (Or.inr (fun _ => trivial)) ?_
          clear hK K
          try simp only [Act.put, seti, set0, setS]
          obtain ⟨V10, hV⟩ := wexi X.out
          rw [← hV] at X ⊢
          clear hV
          refine wpLate_one (i := 1) (o := ⟨some 23, _, _, _, _, _⟩) (by kernel_rfl) rfl (fun K hK => ?_)
          go_simp
          have X := Lib.hid (X.out.new #[.int .i64 10] 3)
          refine hK.out _ _ (Or.inr (fun _ => trivial)) ?_
          clear hK K
          try simp only [Act.put, seti, set0, setS]
          obtain ⟨V11, hV⟩ := wexi X.out
          rw [← hV] at X ⊢
          clear hV
          refine wpLate_one (i := 2) (o := ⟨some 24, _, _, _, _, _⟩) (by kernel_rfl) rfl (fun K hK => ?_)
          go_simp
          (go_at_call 75; refine (rtimes A' (some ⟨V10.heap.size, 0, none⟩) n' 1 c' 1 v 10 _ (by have := HNB.out; omega) (by omega) (X.out.rw (i := 0) rfl).dg (tr_at (k := 10) (X.out.at (i := 1) rfl) (by omega) (by omega)).dg).mono ?_; rintro e u12 ⟨A12, n12, c12, rfl, ht9, hb9, hf9⟩; have X := Lib.hid (X.out.row hb9 ht9 hf9); clear hb9 ht9 hf9)
          try go_wp2_with fail
          refine hK.out _ _ (Or.inr (fun _ => trivial)) ?_
          clear hK K
          try simp only [Act.put, seti, set0, setS]
          refine wpLate_one (i := 9) (o := ⟨some 31, _, _, _, _, _⟩) (by kernel_rfl) rfl (fun K hK => ?_)
          go_simp
          (go_at_call 98; refine (trim_b (some ⟨V0.heap.size, 0, none⟩) 1 1 d _ (by omega) (by omega) (dg_at (X.out.at (i := 0) rfl) HD10.out)).mono ?_; rintro e u13 ⟨rfl, hb9⟩; have X := Lib.hid (X.out.next hb9); clear hb9)
          try go_wp2_with fail
          refine hK.out _ _ (Or.inr (fun _ => trivial)) ?_
          clear hK K
          try simp only [Act.put, seti, set0, setS]
          refine wpLate_one (i := 10) (o := ⟨some 32, _, _, _, _, _⟩) (by kernel_rfl) rfl (fun K hK => ?_)
          go_simp
          (go_at_call 76; refine (rplus _ (some ⟨V0.heap.size, 0, none⟩) _ (nd d) _ 1 (v * 10) d _ (by have h := (X.out.rw (i := 1) rfl).ln; have := HNT.out; omega) (by have := HND.out; omega) (X.out.rw (i := 1) rfl).dg (dg_nd (dg_at (X.out.at (i := 0) rfl) HD10.out))).mono ?_; rintro e u14 ⟨A14, n14, c14, rfl, ht9, hb9, hf9⟩; have X := Lib.hid (X.out.row hb9 ht9 hf9); clear hb9 ht9 hf9)
          try go_wp2_with fail
          refine hK.out _ _ (Or.inr (fun _ => trivial)) ?_
          clear hK K
          try simp only [Act.put, seti, set0, setS]
          refine tk (i := 11) (oi := ⟨some 4, _, _, _, _, _⟩) (v := _) rfl (by kernel_rfl) (fun _ _ _ h => h) (trivial) (Or.inl ⟨by rfl, by intro w hSw; (try dsimp only at hSw); (first | (go_simp; done) | (go_simp; with_reducible rfl))⟩) ?_
          try simp only [Act.put, seti, set0, setS]
          refine wpLate_done (by kernel_rfl) ?_ _
          go_wp2_with fail
          go_roundg (s.size - (i + 1))
          case measure => have := HC.out.2.1; omega
          case rel => exact ⟨i + 1, _, _, _, _, rfl, rfl, HNX.out, (X.out.rw (i := 2) rfl), HH.out.2.trans (X.out.bel.mono HH.out.2.size)⟩
    · obtain rfl : i = s.size := by have := HC.out.1; omega
      have htk : s.data.toList.take s.size = s.data.toList := List.take_of_length_le (Nat.le_refl _)
      have hc := HC.out.2.2
      rw [htk] at hc
      by_cases h0 : 0 < s.size
      · have hne : s.data.toList ≠ [] := fun e => by
          have h3 : s.data.toList.length = s.size := rfl
          rw [e] at h3
          simp at h3
          omega
        have HDG := Lib.hid (show Dgs s.data.toList from ⟨hne, hc.1⟩)
        have HV := Lib.hid hc.2
        clear hc htk hne
        go_wp2
        exact bodyPost_ret (v := .tuple #[.slice A' n' c', .bool true]) (by simp [results, Tryz.results96, go_sem]) rfl ⟨A', n', c', true, rfl, by simp [HDG.out], fun _ => by rw [← HV.out]; exact HH.out.1, HH.out.2⟩
      · have hne : s.data.toList = [] := List.length_eq_zero_iff.1 (show s.data.toList.length = 0 from by have h3 : s.data.toList.length = s.size := rfl; omega)
        have HDG := Lib.hid (show ¬ Dgs s.data.toList from fun h => h.1 hne)
        have h0' : s.size = 0 := by omega
        clear hc htk hne
        go_wp2
        exact bodyPost_ret (v := .tuple #[.slice A' n' c', .bool false]) (by simp [results, Tryz.results96, go_sem]) rfl ⟨A', n', c', false, rfl, by simp [HDG.out], (fun h => by cases h), HH.out.2⟩
end Go.Proofs.YtahehlajpaoiiaaGreatDoor


namespace Go.Proofs.YtahehlajpaoiiaaGreatDoor
open Go.RowKit
attribute [local go_sem ↓] Go.wp_at_zero Go.wp_at_succ

theorem tail_one (d : List UInt8) : (⟨(45 :: d).toArray⟩ : ByteArray).extract 1 (⟨(45 :: d).toArray⟩ : ByteArray).size = ⟨d.toArray⟩ := by
  apply ByteArray.ext
  simp [ByteArray.size]
theorem ext_take (t : ByteArray) (i : Nat) : (t.extract 0 i).data.toList = t.data.toList.take i := by simp
theorem ext_drop (t : ByteArray) (i : Nat) : (t.extract i t.size).data.toList = t.data.toList.drop i := by
  simp
  exact List.take_of_length_le (by rw [List.length_drop]; exact Nat.le_refl _)
theorem ext_size (t : ByteArray) (i j : Nat) : (t.extract i j).size = min j t.size - i := by simp
theorem slash_first {p r p' r' : List UInt8} (h : p ++ 47 :: r = p' ++ 47 :: r') (hp : ∀ b ∈ p, b ≠ 47) (hp' : ∀ b ∈ p', b ≠ 47) : p = p' ∧ r = r' := by
  induction p generalizing p' with
  | nil =>
    cases p' with
    | nil => simpa using h
    | cons b t =>
      simp only [List.nil_append, List.cons_append, List.cons.injEq] at h
      exact absurd h.1.symm (hp' b (by simp))
  | cons a s ih =>
    cases p' with
    | nil =>
      simp only [List.nil_append, List.cons_append, List.cons.injEq] at h
      exact absurd h.1 (hp a (by simp))
    | cons b t =>
      simp only [List.cons_append, List.cons.injEq] at h
      obtain ⟨h1, h2⟩ := ih h.2 (fun x hx => hp x (by simp [hx])) (fun x hx => hp' x (by simp [hx]))
      exact ⟨by rw [h.1, h1], h2⟩
theorem size_list (s : ByteArray) : s.data.toList.length = s.size := rfl

set_option maxHeartbeats 8000000 in
set_option maxRecDepth 100000 in
theorem rParse_in (s : ByteArray) (neg : Bool) (d : List UInt8) (hsd : (neg = true ∧ s = ⟨(45 :: d).toArray⟩) ∨ (neg = false ∧ s = ⟨d.toArray⟩ ∧ ∀ r, d ≠ 45 :: r)) (hs : s.size ≤ 4096) (q : Rat) (e0 : Int) (hq : Pq neg d q e0) (w : World) :
    Calls Tryz.prog 56 #[.string s] w (RetPq w q e0) := by
  have X := Lib.hid ((Sb.start w).new #[.bool false, .string ⟨#[]⟩, .bool false, .string ⟨#[]⟩] 25)
  have X := Lib.hid (X.out.pick [0] [(w.heap.size, #[.bool false, .string ⟨#[]⟩, .bool false, .string ⟨#[]⟩], 25)] [] (by simp) (by decide) (by simp))
  obtain ⟨t, ht⟩ : ∃ t : ByteArray, ⟨d.toArray⟩ = t := ⟨_, rfl⟩
  have HSD := Lib.hid hsd
  have HT := Lib.hid ht
  have HQ := Lib.hid hq
  have hns : ¬ 4096 < (s.size : Int) := by omega
  have HSZ := Lib.hid hs
  clear hsd ht hq
  go_enter Tryz.func56, Tryz.ntmps56
  go_upto_region 3 with fail
  go_cut [4] (fun s4 wx => s4 = .bool neg ∧ Sb w [(w.heap.size, #[.bool false, .string ⟨#[]⟩, .bool false, .string ⟨#[]⟩], 25)] [] wx)
  case first =>
    rcases HSD.out with ⟨rfl, rfl⟩ | ⟨rfl, rfl, hno⟩
    · have h0 : (0 : Int) < ((⟨(45 :: d).toArray⟩ : ByteArray).size : Int) := by simp [ByteArray.size]
      have h1 : 0 < (⟨(45 :: d).toArray⟩ : ByteArray).size := by omega
      have hget : ∀ h, ((⟨(45 :: d).toArray⟩ : ByteArray)[0]'h).toNat = 45 := fun h => rfl
      go_wp2_with fail
      go_meet
      exact ⟨rfl, X.out⟩
    · cases d with
      | nil =>
        go_wp2_with fail
        go_meet
        exact ⟨rfl, X.out⟩
      | cons b r =>
        have hb : ¬ b.toNat = 45 := fun h => hno r (by rw [show b = 45 from UInt8.toNat_inj.1 h])
        have h0 : (0 : Int) < ((⟨(b :: r).toArray⟩ : ByteArray).size : Int) := by simp [ByteArray.size]
        have h1 : 0 < (⟨(b :: r).toArray⟩ : ByteArray).size := by omega
        obtain ⟨x, hx⟩ : ∃ x, b.toNat = x := ⟨_, rfl⟩
        have hget : ∀ h, ((⟨(b :: r).toArray⟩ : ByteArray)[0]'h).toNat = x := fun h => hx
        rw [hx] at hb
        go_wp2_with fail
        go_meet
        exact ⟨congrArg Value.bool (by have h2 : ¬ (x : Int) = 45 := by omega
                                       simpa using h2), X.out⟩
  obtain ⟨rfl, hX⟩ := hcut
  have X := Lib.hid hX
  clear hX
  go_upto_if 21 with fail
  go_cut [0] (fun s0 wx => s0 = .string t ∧ Sb w [(w.heap.size, #[.bool false, .string ⟨#[]⟩, .bool false, .string ⟨#[]⟩], 25)] [] wx)
  case first =>
    rcases HSD.out with ⟨rfl, rfl⟩ | ⟨rfl, rfl, hno⟩
    · have h1 : 1 ≤ (⟨(45 :: d).toArray⟩ : ByteArray).size := by simp [ByteArray.size]
      have h0 : (1 : Int) ≤ ((⟨(45 :: d).toArray⟩ : ByteArray).size : Int) := by omega
      go_wp2_with fail
      go_meet
      exact ⟨by rw [← HT.out]; exact congrArg Value.string (tail_one d), X.out⟩
    · go_wp2_with fail
      go_meet
      exact ⟨by rw [← HT.out], X.out⟩
  obtain ⟨rfl, hX⟩ := hcut
  have X := Lib.hid hX
  clear hX
  have hdl : d.length = t.size := by rw [← HT.out]; rfl
  have htd : t.data.toList = d := by rw [← HT.out]
  have hts : t.size ≤ 4096 := by
    rcases HSD.out with ⟨_, h⟩ | ⟨_, h, _⟩
    · have h1 := HSZ.out
      rw [h] at h1
      simp [ByteArray.size] at h1
      omega
    · have h1 := HSZ.out
      rw [h] at h1
      simp [ByteArray.size] at h1
      omega
  have HTD := Lib.hid htd
  have HTS := Lib.hid hts
  clear hdl htd HSD hns HSZ hs
  apply_assumption
  go_wp2
  go_loopg [5] t.size (fun k iv wr => ∃ i : Nat, iv = .int .i64 (i : Int) ∧ Hid (i ≤ t.size ∧ t.size ≤ i + k ∧ (∀ b ∈ t.data.toList.take i, b ≠ 47)) ∧ Hid (Sb w [(w.heap.size, #[.bool false, .string ⟨#[]⟩, .bool false, .string ⟨#[]⟩], 25)] [] wr))
  case atStart => exact ⟨0, rfl, ⟨Nat.zero_le _, by omega, fun b hb => by simp at hb⟩, X.out⟩
  case round =>
    clear X
    obtain ⟨i, rfl, HC, X⟩ := hrel
    by_cases hlt : i < t.size
    · have hkl : i < t.data.toList.length := hlt
      have hget : ∀ h, (t[i]'h).toNat = (t.data.toList[i]'hkl).toNat := fun h => rfl
      obtain ⟨b, hb⟩ : ∃ b, (t.data.toList[i]'hkl) = b := ⟨_, rfl⟩
      rw [hb] at hget
      have HTK := Lib.hid (List.take_succ_eq_append_getElem hkl)
      have HDR := Lib.hid (List.drop_eq_getElem_cons hkl)
      have HB := Lib.hid hb
      obtain ⟨x, hx⟩ : ∃ x, b.toNat = x := ⟨_, rfl⟩
      rw [hx] at hget
      have HX := Lib.hid hx
      clear hb hx
      by_cases h47 : x = 47
      · subst h47
        have HL := Lib.hid (show t.data.toList = t.data.toList.take i ++ 47 :: t.data.toList.drop (i + 1) from by
          have h1 := List.take_append_drop i t.data.toList
          rw [HDR.out, HB.out, show b = 47 from UInt8.toNat_inj.1 HX.out] at h1
          exact h1.symm)
        clear HTK HDR HB HX
        go_wp2_with fail
        refine (rnumber (t.extract 0 i) wr (by rw [ext_size]; have := HTS.out; omega)).mono ?_
        rintro e u1 ⟨A1, n1, c1, ok1, rfl, hok1, htr1, hb9⟩
        have X := Lib.hid (X.out.next hb9)
        have HOK1 := Lib.hid hok1
        have HTR1 := Lib.hid htr1
        clear hb9 hok1 htr1
        have X := Lib.hid (X.out.next ((Below.refl _ _).alloc (Nat.le_refl _) (.cells #[.int .i64 1] 3)))
        obtain ⟨p, hp⟩ : ∃ p, t.data.toList.take i = p := ⟨_, rfl⟩
        obtain ⟨r, hr⟩ : ∃ r, t.data.toList.drop (i + 1) = r := ⟨_, rfl⟩
        have HPL := Lib.hid (show (t.extract 0 i).data.toList = p from by rw [ext_take, hp])
        have HRL := Lib.hid (show (t.extract (i + 1) t.size).data.toList = r from by rw [ext_drop, hr])
        have HDL := Lib.hid (show d = p ++ 47 :: r from by rw [← HTD.out, ← hp, ← hr]; exact HL.out)
        have HNP := Lib.hid (show ∀ b ∈ p, b ≠ 47 from by rw [← hp]; exact HC.out.2.2)
        clear hp hr
        rw [HPL.out] at HOK1 HTR1
        cases ok1
        case' false =>
          obtain ⟨x0, x1, x2, x3⟩ := X.out.c4 (i := 0) rfl
          obtain ⟨y0, y1, y2, y3⟩ := X.out.f4 (i := 0) rfl
          have HP := Lib.hid (HQ.out.one (Pq.bad (fun h => absurd (h.2 47 (by rw [HDL.out]; simp)) (fun h => absurd h.1 (by decide))) (fun p' r' e hp' => absurd (HOK1.out.2 (by rw [(slash_first (HDL.out.symm.trans e) HNP.out (fun b hb => digit_no_slash (hp'.2 b hb))).1]; exact hp')) (by decide))))
          go_wp2
          have X := Lib.hid (X.out.set4 (i := 0) rfl (.bool false) (.string ⟨#[]⟩) (.bool false) (.string ⟨#[]⟩))
          obtain ⟨p0, p1, p2, p3⟩ := X.out.c4 (i := 0) rfl
          exact bodyPost_ret (v := .tuple #[.agg #[.bool false, .string ⟨#[]⟩, .bool false, .string ⟨#[]⟩], .int .i64 15]) (by simp [results, Tryz.results56, go_sem, p0, p1, p2, p3]) rfl ⟨false, ⟨#[]⟩, ⟨#[]⟩, by rw [HP.out.2], by rw [HP.out.1]; exact rq_zero, X.out.bel⟩
        go_wp2_with fail
        refine (rnumber (t.extract (i + 1) t.size) _ (by rw [ext_size]; have := HTS.out; omega)).mono ?_
        rintro e u2 ⟨A2, n2, c2, ok2, rfl, hok2, htr2, hb9⟩
        have X := Lib.hid (X.out.next hb9)
        have HOK2 := Lib.hid hok2
        have HTR2 := Lib.hid htr2
        rw [HRL.out] at HOK2 HTR2
        have HT1 := Lib.hid (((HTR1.out (by first | rfl | trivial)).alloc (.cells #[.int .i64 1] 3)).below hb9)
        have hpb : n1 ≤ 5000 := by
          have h1 := (HTR1.out (by first | rfl | trivial)).ln
          have h2 := nd_val10 (HOK1.out.1 (by first | rfl | trivial)).2
          have h3 := congrArg List.length HPL.out
          rw [size_list, ext_size] at h3
          have := HTS.out
          omega
        have HPB := Lib.hid hpb
        clear hb9 hok2 htr2 hpb
        cases ok2
        case' false =>
          obtain ⟨x0, x1, x2, x3⟩ := X.out.c4 (i := 0) rfl
          obtain ⟨y0, y1, y2, y3⟩ := X.out.f4 (i := 0) rfl
          have HP := Lib.hid (HQ.out.one (Pq.bad (fun h => absurd (h.2 47 (by rw [HDL.out]; simp)) (fun h => absurd h.1 (by decide))) (fun p' r' e hp' hr' => absurd (HOK2.out.2 (by rw [(slash_first (HDL.out.symm.trans e) HNP.out (fun b hb => digit_no_slash (hp'.2 b hb))).2]; exact hr')) (by decide))))
          go_wp2
          have X := Lib.hid (X.out.set4 (i := 0) rfl (.bool false) (.string ⟨#[]⟩) (.bool false) (.string ⟨#[]⟩))
          obtain ⟨p0, p1, p2, p3⟩ := X.out.c4 (i := 0) rfl
          exact bodyPost_ret (v := .tuple #[.agg #[.bool false, .string ⟨#[]⟩, .bool false, .string ⟨#[]⟩], .int .i64 15]) (by simp [results, Tryz.results56, go_sem, p0, p1, p2, p3]) rfl ⟨false, ⟨#[]⟩, ⟨#[]⟩, by rw [HP.out.2], by rw [HP.out.1]; exact rq_zero, X.out.bel⟩
        have hrb : n2 ≤ 5000 := by
          have h1 := (HTR2.out (by first | rfl | trivial)).ln
          have h2 := nd_val10 (HOK2.out.1 (by first | rfl | trivial)).2
          have h3 := congrArg List.length HRL.out
          rw [size_list, ext_size] at h3
          have := HTS.out
          omega
        have HRB := Lib.hid hrb
        clear hrb
        by_cases hz : val10 r = 0
        · have hn2 : n2 = 0 := by rw [(HTR2.out (by first | rfl | trivial)).ln, hz, nd_zero]
          subst hn2
          obtain ⟨x0, x1, x2, x3⟩ := X.out.c4 (i := 0) rfl
          obtain ⟨y0, y1, y2, y3⟩ := X.out.f4 (i := 0) rfl
          have HP := Lib.hid (HQ.out.one (Pq.zero p r HDL.out (HOK1.out.1 (by first | rfl | trivial)) (HOK2.out.1 (by first | rfl | trivial)) hz))
          go_wp2
          have X := Lib.hid (X.out.set4 (i := 0) rfl (.bool false) (.string ⟨#[]⟩) (.bool false) (.string ⟨#[]⟩))
          obtain ⟨p0, p1, p2, p3⟩ := X.out.c4 (i := 0) rfl
          exact bodyPost_ret (v := .tuple #[.agg #[.bool false, .string ⟨#[]⟩, .bool false, .string ⟨#[]⟩], .int .i64 6]) (by simp [results, Tryz.results56, go_sem, p0, p1, p2, p3]) rfl ⟨false, ⟨#[]⟩, ⟨#[]⟩, by rw [HP.out.2], by rw [HP.out.1]; exact rq_zero, X.out.bel⟩
        · have hn2 : ¬ (n2 : Int) = 0 := by
            have h1 := (HTR2.out (by first | rfl | trivial)).ln
            have h2 := nd_pos (show 0 < val10 r by omega)
            omega
          have hn3 : ((n2 : Int) == 0) = false := by simpa using hn2
          go_wp2_with fail
          refine (rcanonical neg A1 A2 n1 n2 c1 c2 (val10 p) (val10 r) _ (by have := HPB.out; omega) (by have := HRB.out; omega) HT1.out (HTR2.out (by first | rfl | trivial)) (by omega)).mono ?_
          rintro e u9 ⟨b4, m4, k4, rfl, hq4, hb9⟩
          have X := Lib.hid (X.out.next hb9)
          have HP := Lib.hid (HQ.out.one (Pq.frac p r HDL.out (HOK1.out.1 (by first | rfl | trivial)) (HOK2.out.1 (by first | rfl | trivial)) hz))
          have HQ4 := Lib.hid hq4
          clear hb9 hq4
          obtain ⟨x0, x1, x2, x3⟩ := X.out.c4 (i := 0) rfl
          obtain ⟨y0, y1, y2, y3⟩ := X.out.f4 (i := 0) rfl
          go_wp2
          have X := Lib.hid (X.out.set4 (i := 0) rfl (.bool b4) (.string m4) (.bool false) (.string k4))
          obtain ⟨p0, p1, p2, p3⟩ := X.out.c4 (i := 0) rfl
          exact bodyPost_ret (v := .tuple #[.agg #[.bool b4, .string m4, .bool false, .string k4], .int .i64 0]) (by simp [results, Tryz.results56, go_sem, p0, p1, p2, p3]) rfl ⟨b4, m4, k4, by rw [HP.out.2], by rw [HP.out.1]; rw [Rat.divInt_ofNat]; exact HQ4.out, X.out.bel⟩
      · have hxb : ((x : Int) == 47) = false := by
          have h2 : ¬ (x : Int) = 47 := by omega
          simpa using h2
        have hx2 : ¬ (x : Int) = 47 := by omega
        go_wp2
        go_roundg (t.size - (i + 1))
        case measure => have := HC.out.2.1; omega
        case rel =>
          refine ⟨i + 1, rfl, ⟨hlt, by omega, fun c hc => ?_⟩, X.out⟩
          rw [HTK.out, HB.out, List.mem_append] at hc
          rcases hc with hc | hc
          · exact HC.out.2.2 c hc
          · obtain rfl : c = b := by simpa using hc
            intro e
            rw [e] at HX
            exact h47 HX.out.symm
    · obtain rfl : i = t.size := by have := HC.out.1; omega
      have HNS := Lib.hid (show ∀ b ∈ d, b ≠ 47 from by
        have h := HC.out.2.2
        rw [show t.data.toList.take t.size = t.data.toList from List.take_of_length_le (Nat.le_refl _), HTD.out] at h
        exact h)
      go_wp2_with fail
      refine (rnumber t wr (by have := HTS.out; omega)).mono ?_
      rintro e u1 ⟨A1, n1, c1, ok1, rfl, hok1, htr1, hb9⟩
      have X := Lib.hid (X.out.next hb9)
      have HOK1 := Lib.hid hok1
      have HTR1 := Lib.hid htr1
      clear hb9 hok1 htr1
      have X := Lib.hid (X.out.next ((Below.refl _ _).alloc (Nat.le_refl _) (.cells #[.int .i64 1] 3)))
      have HD1 := Lib.hid (show ok1 = true ↔ Dgs d from by rw [← HTD.out]; exact HOK1.out)
      cases ok1
      case' false =>
        obtain ⟨x0, x1, x2, x3⟩ := X.out.c4 (i := 0) rfl
        obtain ⟨y0, y1, y2, y3⟩ := X.out.f4 (i := 0) rfl
        have HP := Lib.hid (HQ.out.one (Pq.bad (fun h => by have := HD1.out.2 h; cases this) (fun p r e hp => absurd rfl (HNS.out 47 (by rw [e]; simp)))))
        go_wp2
        have X := Lib.hid (X.out.set4 (i := 0) rfl (.bool false) (.string ⟨#[]⟩) (.bool false) (.string ⟨#[]⟩))
        obtain ⟨p0, p1, p2, p3⟩ := X.out.c4 (i := 0) rfl
        exact bodyPost_ret (v := .tuple #[.agg #[.bool false, .string ⟨#[]⟩, .bool false, .string ⟨#[]⟩], .int .i64 15]) (by simp [results, Tryz.results56, go_sem, p0, p1, p2, p3]) rfl ⟨false, ⟨#[]⟩, ⟨#[]⟩, by rw [HP.out.2], by rw [HP.out.1]; exact rq_zero, X.out.bel⟩
      go_wp2_with fail
      refine (rcanonical neg A1 (some ⟨u1.heap.size, 0, none⟩) n1 1 c1 1 (val10 t.data.toList) 1 _ (by have h1 := (HTR1.out (by first | rfl | trivial)).ln; have h2 := nd_val10 (HOK1.out.1 (by first | rfl | trivial)).2; have h3 := size_list t; have := HTS.out; omega) (by omega) ((HTR1.out (by first | rfl | trivial)).alloc _) (tr_lit u1 1 (by omega) (by omega)) (by omega)).mono ?_
      rintro e u9 ⟨b4, m4, k4, rfl, hq4, hb9⟩
      have X := Lib.hid (X.out.next hb9)
      have HP := Lib.hid (HQ.out.one (Pq.int (HD1.out.1 (by first | rfl | trivial))))
      have HQ4 := Lib.hid hq4
      clear hb9 hq4
      obtain ⟨x0, x1, x2, x3⟩ := X.out.c4 (i := 0) rfl
      obtain ⟨y0, y1, y2, y3⟩ := X.out.f4 (i := 0) rfl
      go_wp2
      have X := Lib.hid (X.out.set4 (i := 0) rfl (.bool b4) (.string m4) (.bool false) (.string k4))
      obtain ⟨p0, p1, p2, p3⟩ := X.out.c4 (i := 0) rfl
      exact bodyPost_ret (v := .tuple #[.agg #[.bool b4, .string m4, .bool false, .string k4], .int .i64 0]) (by simp [results, Tryz.results56, go_sem, p0, p1, p2, p3]) rfl ⟨b4, m4, k4, by rw [HP.out.2], by rw [HP.out.1]; have h := HQ4.out; rw [Rat.mkRat_one, HTD.out] at h; exact h, X.out.bel⟩
end Go.Proofs.YtahehlajpaoiiaaGreatDoor


namespace Go.Proofs.YtahehlajpaoiiaaGreatDoor
open Go.RowKit
attribute [local go_sem ↓] Go.wp_at_zero Go.wp_at_succ

end Go.Proofs.YtahehlajpaoiiaaGreatDoor


namespace Go.Proofs.YtahehlajpaoiiaaGreatDoor
open Go.RowKit
attribute [local go_sem ↓] Go.wp_at_zero Go.wp_at_succ

end Go.Proofs.YtahehlajpaoiiaaGreatDoor


namespace Go.Proofs.YtahehlajpaoiiaaGreatDoor
open Go.RowKit
attribute [local go_sem ↓] Go.wp_at_zero Go.wp_at_succ

end Go.Proofs.YtahehlajpaoiiaaGreatDoor


namespace Go.Proofs.YtahehlajpaoiiaaGreatDoor
open Go.RowKit
attribute [local go_sem ↓] Go.wp_at_zero Go.wp_at_succ

end Go.Proofs.YtahehlajpaoiiaaGreatDoor


namespace Go.Proofs.YtahehlajpaoiiaaGreatDoor
open Go.RowKit
attribute [local go_sem ↓] Go.wp_at_zero Go.wp_at_succ

theorem Rq.sg {q : Rat} {b : Bool} {m k : ByteArray} (h : Rq q b m k) : q.num = sgn b q.num.natAbs := by
  rw [h.mag.1, sgn_self]

end Go.Proofs.YtahehlajpaoiiaaGreatDoor


namespace Go.Proofs.YtahehlajpaoiiaaGreatDoor
open Go.RowKit
attribute [local go_sem ↓] Go.wp_at_zero Go.wp_at_succ

theorem nd_bval (s : ByteArray) : nd (bval s) ≤ s.size := by
  unfold nd
  exact mag_size_le (bval_lt s)

set_option maxHeartbeats 4000000 in
set_option maxRecDepth 100000 in
theorem rPrint_pi {m P1 : ByteArray} {N : Nat} (hN : bval m = N) (hP1 : P1 = ⟨(printed false N).toArray⟩) (z1 : P1.size ≤ 4000) (s1 : m.size ≤ 900) (w : World) :
    Calls Tryz.prog 57 #[.agg #[.bool false, .string m, .bool false, .string ⟨#[]⟩]] w (RetB w (.string P1)) := by
  have HD1 := Lib.hid (fun V => rdigits false m V (by omega))
  rw [hN] at HD1
  have l1 : nd N ≤ 900 := by rw [← hN]; exact Nat.le_trans (nd_bval m) s1
  have HC1 := Lib.hid (fun (A : Option Addr) (n c : Nat) (V : World) (ht : Tr V A n c N) => rdecimal A n c N V (by have := ht.ln; omega) ht)
  rw [← hP1] at HC1
  have X := Lib.hid ((Sb.start w).new #[.bool false, .string m, .bool false, .string ⟨#[]⟩] 25)
  have X := Lib.hid (X.out.pick [0] [(w.heap.size, #[.bool false, .string m, .bool false, .string ⟨#[]⟩], 25)] [] (by simp) (by decide) (by simp))
  clear hN hP1 s1 l1
  go_enter Tryz.func57, Tryz.ntmps57
  obtain ⟨a0, a1, a2, a3⟩ := X.out.c4 (i := 0) rfl
  go_wp2_with fail
  refine (HD1.out _).mono ?_
  rintro e u1 ⟨A1, n1, c1, rfl, ht9, hb9, -⟩
  have X := Lib.hid (X.out.next hb9)
  have T1 := Lib.hid ht9
  clear hb9 ht9
  clear a0 a1 a2 a3
  go_wp2_with fail
  refine (HC1.out _ _ _ _ T1.out).mono ?_
  rintro e u2 ⟨rfl, hb9⟩
  have X := Lib.hid (X.out.next hb9)
  clear hb9
  obtain ⟨a0, a1, a2, a3⟩ := X.out.c4 (i := 0) rfl
  go_wp2
  go_ret
  exact ⟨rfl, X.out.bel⟩

set_option maxHeartbeats 4000000 in
set_option maxRecDepth 100000 in
theorem rPrint_ni {m P1 : ByteArray} {N : Nat} (hN : bval m = N) (hP1 : P1 = ⟨(printed false N).toArray⟩) (z1 : P1.size ≤ 4000) (s1 : m.size ≤ 900) (w : World) :
    Calls Tryz.prog 57 #[.agg #[.bool true, .string m, .bool false, .string ⟨#[]⟩]] w (RetB w (.string (⟨#[45]⟩ ++ P1))) := by
  have HD1 := Lib.hid (fun V => rdigits true m V (by omega))
  rw [hN] at HD1
  have l1 : nd N ≤ 900 := by rw [← hN]; exact Nat.le_trans (nd_bval m) s1
  have HC1 := Lib.hid (fun (A : Option Addr) (n c : Nat) (V : World) (ht : Tr V A n c N) => rdecimal A n c N V (by have := ht.ln; omega) ht)
  rw [← hP1] at HC1
  have X := Lib.hid ((Sb.start w).new #[.bool true, .string m, .bool false, .string ⟨#[]⟩] 25)
  have X := Lib.hid (X.out.pick [0] [(w.heap.size, #[.bool true, .string m, .bool false, .string ⟨#[]⟩], 25)] [] (by simp) (by decide) (by simp))
  clear hN hP1 s1 l1
  go_enter Tryz.func57, Tryz.ntmps57
  obtain ⟨a0, a1, a2, a3⟩ := X.out.c4 (i := 0) rfl
  go_wp2_with fail
  refine (HD1.out _).mono ?_
  rintro e u1 ⟨A1, n1, c1, rfl, ht9, hb9, -⟩
  have X := Lib.hid (X.out.next hb9)
  have T1 := Lib.hid ht9
  clear hb9 ht9
  clear a0 a1 a2 a3
  go_wp2_with fail
  refine (HC1.out _ _ _ _ T1.out).mono ?_
  rintro e u2 ⟨rfl, hb9⟩
  have X := Lib.hid (X.out.next hb9)
  clear hb9
  obtain ⟨a0, a1, a2, a3⟩ := X.out.c4 (i := 0) rfl
  go_wp2
  go_ret
  exact ⟨rfl, X.out.bel⟩

set_option maxHeartbeats 4000000 in
set_option maxRecDepth 100000 in
theorem rPrint_pf {m k P1 P2 : ByteArray} {N D : Nat} (hN : bval m = N) (hD : bval k = D) (hP1 : P1 = ⟨(printed false N).toArray⟩) (hP2 : P2 = ⟨(printed false D).toArray⟩) (z1 : P1.size ≤ 4000) (z2 : P2.size ≤ 4000) (s1 : m.size ≤ 900) (s2 : k.size ≤ 900) (hk : k ≠ ⟨#[]⟩) (w : World) :
    Calls Tryz.prog 57 #[.agg #[.bool false, .string m, .bool false, .string k]] w (RetB w (.string ((P1 ++ ⟨#[47]⟩) ++ P2))) := by
  have HD1 := Lib.hid (fun V => rdigits false m V (by omega))
  have HD2 := Lib.hid (fun V => rdigits false k V (by omega))
  rw [hN] at HD1
  rw [hD] at HD2
  have l1 : nd N ≤ 900 := by rw [← hN]; exact Nat.le_trans (nd_bval m) s1
  have l2 : nd D ≤ 900 := by rw [← hD]; exact Nat.le_trans (nd_bval k) s2
  have HC1 := Lib.hid (fun (A : Option Addr) (n c : Nat) (V : World) (ht : Tr V A n c N) => rdecimal A n c N V (by have := ht.ln; omega) ht)
  have HC2 := Lib.hid (fun (A : Option Addr) (n c : Nat) (V : World) (ht : Tr V A n c D) => rdecimal A n c D V (by have := ht.ln; omega) ht)
  rw [← hP1] at HC1
  rw [← hP2] at HC2
  have hem : k.toList.isEmpty = false := by rw [List.isEmpty_eq_false_iff]; exact toList_ne (l := []) hk
  have hne : ¬ k.toList = [] := toList_ne (l := []) hk
  have X := Lib.hid ((Sb.start w).new #[.bool false, .string m, .bool false, .string k] 25)
  have X := Lib.hid (X.out.pick [0] [(w.heap.size, #[.bool false, .string m, .bool false, .string k], 25)] [] (by simp) (by decide) (by simp))
  clear hN hP1 s1 l1 hD hP2 s2 l2 hk
  go_enter Tryz.func57, Tryz.ntmps57
  obtain ⟨a0, a1, a2, a3⟩ := X.out.c4 (i := 0) rfl
  go_wp2_with fail
  refine (HD1.out _).mono ?_
  rintro e u1 ⟨A1, n1, c1, rfl, ht9, hb9, -⟩
  have X := Lib.hid (X.out.next hb9)
  have T1 := Lib.hid ht9
  clear hb9 ht9
  clear a0 a1 a2 a3
  go_wp2_with fail
  refine (HC1.out _ _ _ _ T1.out).mono ?_
  rintro e u2 ⟨rfl, hb9⟩
  have X := Lib.hid (X.out.next hb9)
  clear hb9
  obtain ⟨a0, a1, a2, a3⟩ := X.out.c4 (i := 0) rfl
  go_wp2_with fail
  clear a0 a1 a2 a3
  refine (HD2.out _).mono ?_
  rintro e u3 ⟨A3, n3, c3, rfl, ht9, hb9, -⟩
  have X := Lib.hid (X.out.next hb9)
  have T3 := Lib.hid ht9
  clear hb9 ht9
  go_wp2_with fail
  refine (HC2.out _ _ _ _ T3.out).mono ?_
  rintro e u4 ⟨rfl, hb9⟩
  have X := Lib.hid (X.out.next hb9)
  clear hb9
  go_wp2
  go_ret
  exact ⟨rfl, X.out.bel⟩

set_option maxHeartbeats 4000000 in
set_option maxRecDepth 100000 in
theorem rPrint_nf {m k P1 P2 : ByteArray} {N D : Nat} (hN : bval m = N) (hD : bval k = D) (hP1 : P1 = ⟨(printed false N).toArray⟩) (hP2 : P2 = ⟨(printed false D).toArray⟩) (z1 : P1.size ≤ 4000) (z2 : P2.size ≤ 4000) (s1 : m.size ≤ 900) (s2 : k.size ≤ 900) (hk : k ≠ ⟨#[]⟩) (w : World) :
    Calls Tryz.prog 57 #[.agg #[.bool true, .string m, .bool false, .string k]] w (RetB w (.string (((⟨#[45]⟩ ++ P1) ++ ⟨#[47]⟩) ++ P2))) := by
  have HD1 := Lib.hid (fun V => rdigits true m V (by omega))
  have HD2 := Lib.hid (fun V => rdigits false k V (by omega))
  rw [hN] at HD1
  rw [hD] at HD2
  have l1 : nd N ≤ 900 := by rw [← hN]; exact Nat.le_trans (nd_bval m) s1
  have l2 : nd D ≤ 900 := by rw [← hD]; exact Nat.le_trans (nd_bval k) s2
  have HC1 := Lib.hid (fun (A : Option Addr) (n c : Nat) (V : World) (ht : Tr V A n c N) => rdecimal A n c N V (by have := ht.ln; omega) ht)
  have HC2 := Lib.hid (fun (A : Option Addr) (n c : Nat) (V : World) (ht : Tr V A n c D) => rdecimal A n c D V (by have := ht.ln; omega) ht)
  rw [← hP1] at HC1
  rw [← hP2] at HC2
  have hem : k.toList.isEmpty = false := by rw [List.isEmpty_eq_false_iff]; exact toList_ne (l := []) hk
  have hne : ¬ k.toList = [] := toList_ne (l := []) hk
  have X := Lib.hid ((Sb.start w).new #[.bool true, .string m, .bool false, .string k] 25)
  have X := Lib.hid (X.out.pick [0] [(w.heap.size, #[.bool true, .string m, .bool false, .string k], 25)] [] (by simp) (by decide) (by simp))
  clear hN hP1 s1 l1 hD hP2 s2 l2 hk
  go_enter Tryz.func57, Tryz.ntmps57
  obtain ⟨a0, a1, a2, a3⟩ := X.out.c4 (i := 0) rfl
  go_wp2_with fail
  refine (HD1.out _).mono ?_
  rintro e u1 ⟨A1, n1, c1, rfl, ht9, hb9, -⟩
  have X := Lib.hid (X.out.next hb9)
  have T1 := Lib.hid ht9
  clear hb9 ht9
  clear a0 a1 a2 a3
  go_wp2_with fail
  refine (HC1.out _ _ _ _ T1.out).mono ?_
  rintro e u2 ⟨rfl, hb9⟩
  have X := Lib.hid (X.out.next hb9)
  clear hb9
  obtain ⟨a0, a1, a2, a3⟩ := X.out.c4 (i := 0) rfl
  go_wp2_with fail
  clear a0 a1 a2 a3
  refine (HD2.out _).mono ?_
  rintro e u3 ⟨A3, n3, c3, rfl, ht9, hb9, -⟩
  have X := Lib.hid (X.out.next hb9)
  have T3 := Lib.hid ht9
  clear hb9 ht9
  go_wp2_with fail
  refine (HC2.out _ _ _ _ T3.out).mono ?_
  rintro e u4 ⟨rfl, hb9⟩
  have X := Lib.hid (X.out.next hb9)
  clear hb9
  go_wp2
  go_ret
  exact ⟨rfl, X.out.bel⟩

theorem printed_nat (X : Nat) : printed false X = Lib.decDigits X := by
  unfold printed
  by_cases h : X = 0
  · rw [if_pos h, h, Lib.decDigits_one (by decide)]
    rfl
  · rw [if_neg h]
    rfl
theorem printed_neg {X : Nat} (h : X ≠ 0) : printed true X = 45 :: printed false X := by
  unfold printed
  rw [if_neg h, if_neg h]
  rfl
theorem trim_yes (l : List UInt8) : Lib.trimPrefix (45 :: l) [45] = l ∧ Lib.hasPrefix (45 :: l) [45] = true := by
  have h : Lib.hasPrefix (45 :: l) [45] = true := by simp [Lib.hasPrefix]
  exact ⟨by unfold Lib.trimPrefix; rw [if_pos h]; rfl, h⟩
theorem trim_not {l : List UInt8} (h : ∀ r, l ≠ 45 :: r) : Lib.trimPrefix l [45] = l ∧ Lib.hasPrefix l [45] = false := by
  have h1 : Lib.hasPrefix l [45] = false := by
    cases l with
    | nil => rfl
    | cons b r =>
      have h2 : b ≠ 45 := fun e => h r (by rw [e])
      show ((45 == b) && ([] : List UInt8).isPrefixOf r) = false
      rw [show ((45 : UInt8) == b) = false from beq_eq_false_iff_ne.2 (fun e => h2 (Eq.symm e))]
      rfl
  exact ⟨by unfold Lib.trimPrefix; rw [if_neg (by rw [h1]; decide)], h1⟩
theorem dec_no (X : Nat) (t : List UInt8) : ∀ r, Lib.decDigits X ++ t ≠ 45 :: r := by
  intro r h
  have h1 := dec_ne X
  have h2 := dec_first X
  cases hd : Lib.decDigits X with
  | nil => exact h1 hd
  | cons b l =>
    rw [hd] at h h2
    simp at h h2
    exact h2 h.1
theorem pq_some (neg : Bool) (d : List UInt8) : ∃ q e, Pq neg d q e := by
  by_cases h1 : Dgs d
  · exact ⟨_, _, .int h1⟩
  · by_cases h2 : ∃ p r, d = p ++ 47 :: r ∧ Dgs p ∧ Dgs r
    · obtain ⟨p, r, e, hp, hr⟩ := h2
      by_cases h0 : val10 r = 0
      · exact ⟨_, _, .zero p r e hp hr h0⟩
      · exact ⟨_, _, .frac p r e hp hr h0⟩
    · exact ⟨_, _, .bad h1 fun p r e hp hr => h2 ⟨p, r, e, hp, hr⟩⟩
theorem pq_printed (q : Rat) (b : Bool) (hb : q.num = sgn b q.num.natAbs) : Pq b (if q.den = 1 then Lib.decDigits q.num.natAbs else Lib.decDigits q.num.natAbs ++ 47 :: Lib.decDigits q.den) q 0 := by
  have h1 := dec_digits q.num.natAbs
  have h2 := dec_digits q.den
  have d1 : Dgs (Lib.decDigits q.num.natAbs) := ⟨dec_ne _, h1.1⟩
  have d2 : Dgs (Lib.decDigits q.den) := ⟨dec_ne _, h2.1⟩
  by_cases hd : q.den = 1
  · rw [if_pos hd]
    have h := Pq.int (neg := b) d1
    rw [h1.2, ← hb, ← int_of_den hd] at h
    exact h
  · rw [if_neg hd]
    have h := Pq.frac (neg := b) _ _ rfl d1 d2 (by rw [h2.2]; exact q.den_nz)
    rw [h1.2, h2.2, ← hb, Rat.num_divInt_den] at h
    exact h

theorem cat_two (a b : List UInt8) : (⟨a.toArray⟩ ++ ⟨#[47]⟩ ++ ⟨b.toArray⟩ : ByteArray) = ⟨(a ++ 47 :: b).toArray⟩ := by
  apply ByteArray.ext
  simp
theorem text_size (l : List UInt8) : (⟨l.toArray⟩ : ByteArray).size = l.length := by simp [ByteArray.size]

theorem print_pair {q : Rat} {b : Bool} {m k : ByteArray} (h : Rq q b m k) (z1 : q.num.natAbs < 256 ^ 30) (z2 : q.den < 256 ^ 30) :
    ∃ tx : ByteArray, (∀ V, Env V → Calls Tryz.prog 54 #[.agg #[.bool b, .string m, .bool false, .string k]] V (RetB V (.string tx))) ∧ (∀ V, Calls Tryz.prog 57 #[.agg #[.bool b, .string m, .bool false, .string k]] V (RetB V (.string tx))) ∧
      (∀ V, Env V → Calls Tryz.prog 55 #[.string tx] V (RetB V (.tuple #[.agg #[.bool b, .string m, .bool false, .string k], .int .i64 0]))) := by
  have hsg := h.sg
  have hm := h.mag.2
  have s1 : m.size ≤ 30 := by rw [hm]; exact mag_size_le z1
  have hN : bval m = q.num.natAbs := by rw [hm, bval_mag]
  have l1 := printed_len false z1
  have l2 := printed_len false z2
  have l3 := printed_len b z1
  have hpq := pq_printed q b hsg
  have hread : ∀ (tx : ByteArray) (d : List UInt8), Lib.trimPrefix tx.data.toList [45] = d → Lib.hasPrefix tx.data.toList [45] = b → tx.size ≤ 4096 → d.length ≤ 4096 → Pq b d q 0 → ∀ V, Env V → Calls Tryz.prog 55 #[.string tx] V (RetB V (.tuple #[.agg #[.bool b, .string m, .bool false, .string k], .int .i64 0])) := fun tx d h1 h2 h3 h4 h5 V hV =>
    (ratParse_in tx V hV d b h1 h2 h3 h4 q 0 h5).mono (by
      rintro e w' ⟨b2, m2, k2, rfl, hq2, hb⟩
      obtain ⟨rfl, rfl, rfl⟩ := hq2.inj h
      exact ⟨rfl, hb⟩)
  have hnz : b = true → q.num.natAbs ≠ 0 := fun hb e => by
    have h1 := h.mag.1
    rw [hb] at h1
    have h2 := of_decide_eq_true h1.symm
    omega
  rw [printed_nat] at l1 l2
  by_cases hd : q.den = 1
  · obtain rfl := h.den1 hd
    rw [if_pos hd] at hpq
    refine ⟨⟨(printed b q.num.natAbs).toArray⟩, fun V hV => ratPrint_int h hd (by omega) V hV, fun V => ?_, ?_⟩
    · cases b
      · exact rPrint_pi hN rfl (by rw [text_size]; omega) (by omega) V
      · rw [printed_neg (hnz rfl), ← cat_one]
        exact rPrint_ni hN rfl (by rw [text_size, printed_nat]; omega) (by omega) V
    · cases b
      · have ht := trim_not (l := Lib.decDigits q.num.natAbs) (by have := dec_no q.num.natAbs []; rwa [List.append_nil] at this)
        rw [printed_nat]
        exact hread _ _ ht.1 ht.2 (by rw [text_size]; omega) (by omega) hpq
      · have ht := trim_yes (Lib.decDigits q.num.natAbs)
        rw [printed_neg (hnz rfl), printed_nat]
        exact hread _ _ ht.1 ht.2 (by rw [text_size, List.length_cons]; omega) (by omega) hpq
  · have hk := h.den2 hd
    have s2 : k.size ≤ 30 := by rw [hk]; exact mag_size_le z2
    have hD : bval k = q.den := by rw [hk, bval_mag]
    have hk0 : k ≠ ⟨#[]⟩ := by rw [hk]; exact mag_no_nil q.den_nz
    rw [if_neg hd] at hpq
    refine ⟨((⟨(printed b q.num.natAbs).toArray⟩ ++ ⟨#[47]⟩) ++ ⟨(printed false q.den).toArray⟩), fun V hV => ratPrint_part h hd (by omega) (by omega) V hV, fun V => ?_, ?_⟩
    · cases b
      · exact rPrint_pf hN hD rfl rfl (by rw [text_size, printed_nat]; omega) (by rw [text_size, printed_nat]; omega) (by omega) (by omega) hk0 V
      · rw [printed_neg (hnz rfl), ← cat_one]
        exact rPrint_nf hN hD rfl rfl (by rw [text_size, printed_nat]; omega) (by rw [text_size, printed_nat]; omega) (by omega) (by omega) hk0 V
    · rw [cat_two, printed_nat q.den]
      have hl : (Lib.decDigits q.num.natAbs ++ 47 :: Lib.decDigits q.den).length ≤ 4000 := by
        rw [List.length_append, List.length_cons]
        omega
      cases b
      · have ht := trim_not (dec_no q.num.natAbs (47 :: Lib.decDigits q.den))
        rw [printed_nat]
        exact hread _ _ ht.1 ht.2 (by rw [text_size]; omega) (by omega) hpq
      · have ht := trim_yes (Lib.decDigits q.num.natAbs ++ 47 :: Lib.decDigits q.den)
        rw [printed_neg (hnz rfl), printed_nat, List.cons_append]
        exact hread _ _ ht.1 ht.2 (by rw [text_size, List.length_cons]; omega) (by omega) hpq
end Go.Proofs.YtahehlajpaoiiaaGreatDoor


namespace Go.Proofs.YtahehlajpaoiiaaGreatDoor
open Go.RowKit
attribute [local go_sem ↓] Go.wp_at_zero Go.wp_at_succ

def fracQ (num den : Int) (u v : Nat) : Rat := if den = 0 then mkRat (sgn (decide (num < 0) != decide ((1 : Int) < 0)) (num.natAbs * 256 ^ (u % 9))) ((1 : Int).natAbs * 256 ^ (v % 9)) else mkRat (sgn (decide (num < 0) != decide (den < 0)) (num.natAbs * 256 ^ (u % 9))) (den.natAbs * 256 ^ (v % 9))

set_option maxHeartbeats 8000000 in
set_option maxRecDepth 100000 in
theorem rat_det (num den : Int) (u v : Nat) {b0 : Bool} {m0 k0 : ByteArray} (hq0 : Rq (fracQ num den u v) b0 m0 k0) (x1 : -9223372036854775808 ≤ num) (x2 : num ≤ 9223372036854775807) (y1 : -9223372036854775808 ≤ den) (y2 : den ≤ 9223372036854775807) (hu : u < 256) (hv : v < 256) (w : World) :
    Calls Tryz.prog 27 #[.agg #[.int .i64 num, .int .i64 den, .int .u8 (u : Int), .int .u8 (v : Int)]] w (RetB w (.agg #[.bool b0, .string m0, .bool false, .string k0])) := by
  obtain ⟨d, hd0, hd1, hd2, hdd⟩ : ∃ d : Int, d ≠ 0 ∧ -9223372036854775808 ≤ d ∧ d ≤ 9223372036854775807 ∧ ((den = 0 ∧ d = 1) ∨ (((den : Int) == 0) = false ∧ d = den)) := by
    by_cases h : den = 0
    · exact ⟨1, by omega, by omega, by omega, .inl ⟨h, rfl⟩⟩
    · exact ⟨den, h, y1, y2, .inr ⟨by simpa using h, rfl⟩⟩
  have hfq : fracQ num den u v = mkRat (sgn (decide (num < 0) != decide (d < 0)) (num.natAbs * 256 ^ (u % 9))) (d.natAbs * 256 ^ (v % 9)) := by
    unfold fracQ
    rcases hdd with ⟨h1, h2⟩ | ⟨h1, h2⟩
    · rw [if_pos h1, h2]
    · rw [if_neg (by simpa using h1), h2]
  rw [hfq] at hq0
  clear hfq
  obtain ⟨bn, mn, hn⟩ := enc_form num
  obtain ⟨bd, md, hm⟩ := enc_form d
  have sn : mn.size ≤ 8 := by rw [(enc_parts hn).2]; exact i64_size x1 x2
  have sd : md.size ≤ 8 := by rw [(enc_parts hm).2]; exact i64_size hd1 hd2
  have hd3 : 0 < bval md := by rw [(enc_parts hm).2, bval_mag]; omega
  rw [← (enc_parts hn).1, ← (enc_parts hm).1, show num.natAbs = bval mn by rw [(enc_parts hn).2, bval_mag], show d.natAbs = bval md by rw [(enc_parts hm).2, bval_mag]] at hq0
  have HN := Lib.hid hn
  have HM := Lib.hid hm
  have HD3 := Lib.hid hd3
  have HI1 := Lib.hid (fun V => rint_any num x1 x2 V)
  have HI2 := Lib.hid (fun V => rint_any d hd1 hd2 V)
  have KK := Lib.hid (Kb.start w #[.int .i64 num, .int .i64 den, .int .u8 (u : Int), .int .u8 (v : Int)] #[.bool false, .string ⟨#[]⟩, .bool false, .string ⟨#[]⟩] 41 25)
  obtain ⟨ru, hru⟩ : ∃ r, u % 9 = r := ⟨_, rfl⟩
  obtain ⟨rv, hrv⟩ : ∃ r, v % 9 = r := ⟨_, rfl⟩
  have hru1 : ru ≤ 8 := by omega
  have hrv1 : rv ≤ 8 := by omega
  have HU := Lib.hid (show (u : Int) % 9 = (ru : Int) by omega)
  have HV := Lib.hid (show (v : Int) % 9 = (rv : Int) by omega)
  rw [hru, hrv] at hq0
  have HQ0 := Lib.hid hq0
  clear hn hm hd3 hd0 hru hrv hq0
  rcases hdd with ⟨rfl, rfl⟩ | ⟨hd, rfl⟩
  all_goals
    go_enter Tryz.func27, Tryz.ntmps27
    go_wp2_with fail
    refine (HI1.out _).mono ?_
    rintro e w1 ⟨rfl, hb1⟩
    rw [HN.out]
    have K1 := Lib.hid (KK.out.next hb1)
    clear hb1
    go_wp2_with fail
    refine (HI2.out _).mono ?_
    rintro e w2 ⟨rfl, hb2⟩
    rw [HM.out]
    have K2 := Lib.hid (K1.out.next hb2)
    have FF := Lib.hid (show Fr w w2.heap.size (w2.heap.size + 1) num _ u v bn bd mn md ((w2.alloc (.cells #[.bool bn, .string mn] 23)).alloc (.cells #[.bool bd, .string md] 23)) from
      ⟨(K2.out.next (below_two' w2 _ _)).k1, (K2.out.next (below_two' w2 _ _)).k2, heap_fst _ _ _, heap_two _ _ _, K2.out.sz, by omega, by simp, (K2.out.next (below_two' w2 _ _)).bel⟩)
    clear hb2
    go_upto_region 6 with fail
    obtain ⟨W, hW⟩ : ∃ W, W = ((w2.alloc (.cells #[.bool bn, .string mn] 23)).alloc (.cells #[.bool bd, .string md] 23)) := ⟨_, rfl⟩
    rw [← hW] at FF
    rw [← hW]
    clear hW K1 K2
    go_loopw [6] (fun iv wr => ∃ (i : Nat) (s : ByteArray), i ≤ ru ∧ iv = .int .u8 (i : Int) ∧ s.size ≤ 8 + i ∧ Hid (bval s = bval mn * 256 ^ i) ∧ Hid (Fr w w2.heap.size (w2.heap.size + 1) num _ u v bn bd s md wr)) (fun iv _ => 9 - (intOf iv).toNat)
    case atStart => exact ⟨0, mn, Nat.zero_le _, rfl, by omega, Lib.hid (by rw [Nat.pow_zero, Nat.mul_one]), FF.out⟩
    case round =>
      obtain ⟨i, s, hi, rfl, hs, HBS, HF⟩ := hrel
      obtain ⟨f0, f1, f2, f3⟩ := blk4 HF.out.k1
      obtain ⟨g0, g1, g2, g3⟩ := blk_cells HF.out.k4
      have hU := HU.out
      by_cases hlt : i < ru ∧ 0 < s.size
      · obtain ⟨hlt, hsz⟩ := hlt
        have he := empty_no hsz
        have hcat : ¬ 9223372036854775807 < s.size + 1 := by omega
        have HF2 := Lib.hid (HF.out.set4 (s ++ ⟨#[0]⟩))
        have HSZ := Lib.hid (zero_size s)
        have HBN := Lib.hid (show bval (s ++ ByteArray.mk #[0]) = bval mn * 256 ^ (i + 1) by rw [bval_zero_behind, HBS.out, Nat.pow_succ]; rw [Nat.mul_comm 256, Nat.mul_assoc])
        go_wp2
        go_roundw
        case rel => exact ⟨i + 1, s ++ ByteArray.mk #[0], by omega, by go_num, by rw [HSZ.out]; omega, HBN.out, HF2.out⟩
        case measure => simp [intOf] <;> omega
      · have hend : (ru ≤ i) ∨ (i < ru ∧ s.toList.isEmpty = true) := by
          rcases Nat.lt_or_ge i ru with h | h
          · exact .inr ⟨h, empty_yes (fun h1 => hlt ⟨h, h1⟩)⟩
          · exact .inl h
        clear hlt
        have hs16 : s.size ≤ 16 := by omega
        have HSV := Lib.hid (show bval s = bval mn * 256 ^ ru by
          rcases hend with h | ⟨h, he⟩
          · rw [HBS.out, show i = ru by omega]
          · have h1 : bval s = 0 := by rw [show s = ⟨#[]⟩ from ByteArray.ext (by rw [List.isEmpty_iff, ByteArray.toList_eq] at he; exact Array.toList_inj.1 he)]; rfl
            have h2 := HBS.out
            rw [h1] at h2
            have h3 : bval mn = 0 := by
              rcases Nat.mul_eq_zero.1 h2.symm with h4 | h4
              · exact h4
              · exact absurd h4 (Nat.ne_of_gt (Nat.pow_pos (by omega)))
            rw [h1, h3, Nat.zero_mul])
        clear hs
        rcases hend with h | ⟨h, he⟩
        all_goals
          go_upto_region 10 with fail
          clear hU f0 f1 f2 f3 g0 g1 g2 g3
          try clear he
          go_loopw [7] (fun jv wr => ∃ (j : Nat) (t : ByteArray), j ≤ rv ∧ jv = .int .u8 (j : Int) ∧ t.size ≤ 8 + j ∧ Hid (0 < bval t) ∧ Hid (bval t = bval md * 256 ^ j) ∧ Hid (Fr w w2.heap.size (w2.heap.size + 1) num _ u v bn bd s t wr)) (fun jv _ => 9 - (intOf jv).toNat)
          case atStart => exact ⟨0, md, Nat.zero_le _, rfl, by omega, HD3.out, Lib.hid (by rw [Nat.pow_zero, Nat.mul_one]), HF.out⟩
          case round =>
            obtain ⟨j, t, hj, rfl, ht, HP, HBT, HG⟩ := hrel
            obtain ⟨f0, f1, f2, f3⟩ := blk4 HG.out.k1
            obtain ⟨g0, g1, g2, g3⟩ := blk_cells HG.out.k5
            have hV := HV.out
            by_cases hlt : j < rv
            · have hcat : ¬ 9223372036854775807 < t.size + 1 := by omega
              have HG2 := Lib.hid (HG.out.set5 (t ++ ByteArray.mk #[0]))
              have HSZ := Lib.hid (zero_size t)
              have HBV := Lib.hid (bval_zero_behind t)
              have HTN := Lib.hid (show bval (t ++ ByteArray.mk #[0]) = bval md * 256 ^ (j + 1) by rw [bval_zero_behind, HBT.out, Nat.pow_succ]; rw [Nat.mul_comm 256, Nat.mul_assoc])
              go_wp2
              go_roundw
              case rel => exact ⟨j + 1, t ++ ByteArray.mk #[0], by omega, by go_num, by rw [HSZ.out]; omega, by show 0 < _; rw [HBV.out]; have := HP.out; omega, HTN.out, HG2.out⟩
              case measure => simp [intOf] <;> omega
            · have ht16 : t.size ≤ 16 := by omega
              have htv := HBT.out
              rw [show j = rv by omega] at htv
              have HTV := Lib.hid htv
              clear htv
              have HMK := Lib.hid (fun V => rmake bn bd s t (by omega) (by omega) HP.out V)
              obtain ⟨g4, g5, g6, g7⟩ := blk_cells HG.out.k4
              go_wp2_with fail
              refine (HMK.out _).mono ?_
              rintro e w9 ⟨b3, m3, k3, rfl, hq, hb9⟩
              have hk2 := (hb9.block _ (by have := HG.out.sz; have := HG.out.lt5; have := HG.out.lt4; omega)).trans HG.out.k2
              obtain ⟨t0, t1, t2, t3⟩ := blk4 hk2
              obtain ⟨z0, z1, z2, z3⟩ := fro4 hk2
              have HB9 := Lib.hid (HG.out.bel.trans (hb9.mono HG.out.bel.size))
              have hq' := hq
              rw [HSV.out, HTV.out] at hq'
              obtain ⟨h1, h2, h3⟩ := HQ0.out.inj hq'
              subst h1
              subst h2
              subst h3
              clear hq hq' hb9 hk2 f0 f1 f2 f3 g0 g1 g2 g3 g4 g5 g6 g7 hV
              go_wp2
              exact bodyPost_ret (v := .agg #[.bool b0, .string m0, .bool false, .string k0]) (by simp [results, Tryz.results27, go_sem, t0, t1, t2, t3]) rfl ⟨rfl, below_set4 HB9.out (by omega) _ _ _ _⟩

theorem frac_small (num den : Int) (u v : Nat) (x1 : -9223372036854775808 ≤ num) (x2 : num ≤ 9223372036854775807) (y1 : -9223372036854775808 ≤ den) (y2 : den ≤ 9223372036854775807) : (fracQ num den u v).num.natAbs < 256 ^ 16 ∧ (fracQ num den u v).den < 256 ^ 16 := by
  have p : ∀ (x : Int) (r : Nat), -9223372036854775808 ≤ x → x ≤ 9223372036854775807 → x.natAbs * 256 ^ (r % 9) < 256 ^ 16 := by
    intro x r h1 h2
    have h3 : 256 ^ (r % 9) ≤ 256 ^ 8 := Nat.pow_le_pow_right (by omega) (by omega)
    have h4 : x.natAbs * 256 ^ (r % 9) ≤ 9223372036854775808 * 256 ^ 8 := Nat.mul_le_mul (by omega) h3
    exact Nat.lt_of_le_of_lt h4 (by decide)
  have q : ∀ (x : Int) (r : Nat), x ≠ 0 → 0 < x.natAbs * 256 ^ (r % 9) := fun x r h => Nat.mul_pos (by omega) (Nat.pow_pos (by omega))
  unfold fracQ
  split
  · exact mk_small (p num u x1 x2) (p 1 v (by omega) (by omega)) (q 1 v (by omega))
  · rename_i h
    exact mk_small (p num u x1 x2) (p den v y1 y2) (q den v h)
end Go.Proofs.YtahehlajpaoiiaaGreatDoor
