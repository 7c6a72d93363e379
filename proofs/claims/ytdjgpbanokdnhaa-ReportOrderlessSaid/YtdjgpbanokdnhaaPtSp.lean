/-
  The reference's set as plain data: the next report is the least one that is greater than the last one.
-/
import Derived.Test.YtdjgpbanokdnhaaPtN
namespace Go.Proofs.Ytdjgpbanokdnhaa.Pt

theorem inc_get {s : List Rep} (h : Inc s) {i j : Nat} (hij : i < j) (hj : j < s.length) : cmpR s[i]! s[j]! < 0 := by
  rw [getElem!_pos s i (by omega), getElem!_pos s j hj]
  exact List.pairwise_iff_getElem.1 h i j (by omega) hj hij
/-- Greater than the first m of a list in order. -/
def gtP (s : List Rep) (m : Nat) (x : Rep) : Prop := m = 0 ∨ 0 < cmpR x s[m - 1]!
theorem gtP_self {s : List Rep} (h : Inc s) {m : Nat} (hm : m < s.length) : gtP s m s[m]! := by
  by_cases h0 : m = 0
  · exact .inl h0
  · have h1 := inc_get h (i := m - 1) (j := m) (by omega) hm
    have h2 := cmpR_neg s[m - 1]! s[m]!
    exact .inr (by omega)
theorem set_done {l : List Rep} {m : Nat} (hm : m ≤ (setL l).length) (hn : ∀ y ∈ l, ¬ gtP (setL l) m y) : m = (setL l).length := by
  by_cases h : m < (setL l).length
  · exact absurd (gtP_self (setL_inc l) h) (hn _ ((setL_mem l _).1 (get_mem h)))
  · omega
theorem set_found {l : List Rep} {m : Nat} {x : Rep} (hm : m ≤ (setL l).length) (hx : x ∈ l) (hp : gtP (setL l) m x) (hmin : ∀ y ∈ l, gtP (setL l) m y → cmpR x y ≤ 0) : m < (setL l).length ∧ (setL l)[m]! = x := by
  have hi := setL_inc l
  obtain ⟨q, hq, e⟩ := mem_get ((setL_mem l x).2 hx)
  have hmq : m ≤ q := by
    by_cases h : q < m
    · rcases hp with hp | hp
      · omega
      · by_cases h2 : q = m - 1
        · rw [← h2, e, cmpR_self] at hp
          omega
        · have h1 := inc_get hi (i := q) (j := m - 1) (by omega) (by omega)
          rw [e] at h1
          omega
    · omega
  have hml : m < (setL l).length := by omega
  refine ⟨hml, ?_⟩
  by_cases h : m = q
  · rw [h]; exact e
  · have h1 := inc_get hi (i := m) (j := q) (by omega) hq
    rw [e] at h1
    have h2 := hmin _ ((setL_mem l _).1 (get_mem hml)) (gtP_self hi hml)
    have h3 := cmpR_neg (setL l)[m]! x
    omega
end Go.Proofs.Ytdjgpbanokdnhaa.Pt
