/-
  Numbers in increasing order as plain data; what slices.Sort and slices.Compact leave.
-/
import Derived.Test.YtdjgpbanokdnhaaPtN
import Derived.Lib.SlicesCompact
namespace Go.Proofs.Ytdjgpbanokdnhaa.Pt

/-- In increasing order, each once. -/
def IncI (l : List Int) : Prop := l.Pairwise (· < ·)
theorem incI_unique : ∀ {a b : List Int}, IncI a → IncI b → (∀ z, z ∈ a ↔ z ∈ b) → a = b
  | [], [], _, _, _ => rfl
  | [], y :: b, _, _, h => by have := (h y).2 (by simp); simp at this
  | x :: a, [], _, _, h => by have := (h x).1 (by simp); simp at this
  | x :: a, y :: b, ha, hb, h => by
    have ha' := List.pairwise_cons.1 ha
    have hb' := List.pairwise_cons.1 hb
    have e : x = y := by
      rcases List.mem_cons.1 ((h x).1 (by simp)) with e | e
      · exact e
      · rcases List.mem_cons.1 ((h y).2 (by simp)) with e' | e'
        · exact e'.symm
        · have h1 := hb'.1 x e
          have h2 := ha'.1 y e'
          omega
    subst e
    refine congrArg (x :: ·) (incI_unique ha'.2 hb'.2 fun r => ?_)
    constructor
    · intro hr
      rcases List.mem_cons.1 ((h r).1 (by simp [hr])) with e | e
      · subst e
        have := ha'.1 r hr
        omega
      · exact e
    · intro hr
      rcases List.mem_cons.1 ((h r).2 (by simp [hr])) with e | e
      · subst e
        have := hb'.1 r hr
        omega
      · exact e

theorem upTo_ok (d : Array Int) (hd : ∀ i j, i < j → j < d.size → d[i]! ≤ d[j]!) : ∀ m, m ≤ d.size → IncI (Lib.compactUpTo d m) ∧ ∀ z, z ∈ Lib.compactUpTo d m ↔ ∃ j, j < m ∧ d[j]! = z := by
  intro m
  induction m with
  | zero =>
    intro _
    have e : Lib.compactUpTo d 0 = [] := by simp [Lib.compactUpTo]
    rw [e]
    exact ⟨List.Pairwise.nil, fun z => by simp⟩
  | succ m ih =>
    intro hm
    obtain ⟨h1, h2⟩ := ih (by omega)
    rw [Lib.compactUpTo_succ]
    cases hk : Lib.keeps d m with
    | true =>
      simp only [Lib.keeps, decide_eq_true_eq] at hk
      rw [if_pos rfl]
      refine ⟨List.pairwise_append.2 ⟨h1, List.pairwise_singleton _ _, fun x hx y hy => ?_⟩, fun z => ?_⟩
      · rw [List.mem_singleton.1 hy]
        obtain ⟨j, hj, e⟩ := (h2 x).1 hx
        rcases hk with hk | hk
        · omega
        · have h3 := hd (m - 1) m (by omega) (by omega)
          by_cases h4 : j = m - 1
          · rw [← e, h4]; omega
          · have h5 := hd j (m - 1) (by omega) (by omega)
            omega
      · rw [List.mem_append, List.mem_singleton, h2]
        constructor
        · rintro (⟨j, hj, e⟩ | e)
          · exact ⟨j, by omega, e⟩
          · exact ⟨m, by omega, e.symm⟩
        · rintro ⟨j, hj, e⟩
          by_cases h : j = m
          · exact .inr (by rw [← e, h])
          · exact .inl ⟨j, by omega, e⟩
    | false =>
      simp only [Lib.keeps, decide_eq_false_iff_not, not_or, Decidable.not_not] at hk
      obtain ⟨k1, k2⟩ := hk
      rw [if_neg (by simp), List.append_nil]
      refine ⟨h1, fun z => (h2 z).trans ?_⟩
      constructor
      · rintro ⟨j, hj, e⟩
        exact ⟨j, by omega, e⟩
      · rintro ⟨j, hj, e⟩
        by_cases h : j = m
        · exact ⟨m - 1, by omega, by rw [← k2, ← h]; exact e⟩
        · exact ⟨j, by omega, e⟩
def sortI (l : List Int) : List Int := l.mergeSort fun x y => decide (x ≤ y)
theorem sortI_mem (l : List Int) (z : Int) : z ∈ sortI l ↔ z ∈ l := (List.mergeSort_perm l _).mem_iff
theorem sortI_len (l : List Int) : (sortI l).length = l.length := List.length_mergeSort l
theorem sortI_le (l : List Int) : (sortI l).Pairwise (· ≤ ·) := by
  have h := List.pairwise_mergeSort (le := fun x y : Int => decide (x ≤ y)) (fun a b c h1 h2 => by simp only [decide_eq_true_eq] at h1 h2 ⊢; omega) (fun a b => by simp only [Bool.or_eq_true, decide_eq_true_eq]; omega) l
  exact h.imp fun h => by simpa using h
/-- The objects of some reports, in increasing order, each once. -/
def objL (l : List Rep) : List Int := Lib.compact (sortI (l.map Rep.ob))
theorem objL_ok (l : List Rep) : IncI (objL l) ∧ ∀ z, z ∈ objL l ↔ ∃ r ∈ l, r.ob = z := by
  have h := upTo_ok (sortI (l.map Rep.ob)).toArray (fun i j hij hj => by
    have h1 := List.pairwise_iff_getElem.1 (sortI_le (l.map Rep.ob)) i j (by simpa using Nat.lt_trans hij hj) (by simpa using hj) hij
    simpa [getElem!_pos (sortI (l.map Rep.ob)) i (by simpa using Nat.lt_trans hij hj), getElem!_pos (sortI (l.map Rep.ob)) j (by simpa using hj)] using h1) (sortI (l.map Rep.ob)).length (by simp)
  refine ⟨h.1, fun z => (h.2 z).trans ?_⟩
  have h2 : (∃ r ∈ l, r.ob = z) ↔ z ∈ sortI (l.map Rep.ob) := by rw [sortI_mem, List.mem_map]
  rw [h2]
  constructor
  · rintro ⟨j, hj, e⟩
    rw [← e]
    simp [getElem!_pos (sortI (l.map Rep.ob)) j hj]
  · intro hz
    obtain ⟨j, hj, e⟩ := List.getElem_of_mem hz
    exact ⟨j, hj, by simpa [getElem!_pos (sortI (l.map Rep.ob)) j hj] using e⟩
theorem objL_inc (l : List Rep) : IncI (objL l) := (objL_ok l).1
theorem objL_mem (l : List Rep) (z : Int) : z ∈ objL l ↔ ∃ r ∈ l, r.ob = z := (objL_ok l).2 z
theorem objL_of {l : List Rep} {s : List Int} (h : IncI s) (hm : ∀ z, z ∈ s ↔ ∃ r ∈ l, r.ob = z) : s = objL l := incI_unique h (objL_inc l) fun z => (hm z).trans (objL_mem l z).symm
theorem compact_len (l : List Int) : (Lib.compact l).length ≤ l.length := by
  unfold Lib.compact Lib.compactUpTo
  rw [List.length_map]
  exact Nat.le_trans (List.length_filter_le _ _) (by simp)
theorem objL_len (l : List Rep) : (objL l).length ≤ l.length := by
  have h := compact_len (sortI (l.map Rep.ob))
  rw [sortI_len, List.length_map] at h
  exact h
end Go.Proofs.Ytdjgpbanokdnhaa.Pt
