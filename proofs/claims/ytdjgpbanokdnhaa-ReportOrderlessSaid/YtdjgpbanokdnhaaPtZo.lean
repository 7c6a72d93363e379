/-
  Objects of lists in order, what counts about one object, what changed: as plain data.
-/
import Derived.Test.YtdjgpbanokdnhaaPtZp
import Derived.Test.YtdjgpbanokdnhaaPtAb
import Derived.Test.YtdjgpbanokdnhaaPtSe
namespace Go.Proofs.Ytdjgpbanokdnhaa.Pt

theorem cmpR_ob {a b : Rep} (h : cmpR a b ≤ 0) : a.ob ≤ b.ob := by
  unfold cmpR keyR at h
  simp only [lexc] at h
  by_cases h1 : a.ob < b.ob
  · omega
  · by_cases h2 : b.ob < a.ob
    · simp [h1, h2] at h
    · omega
theorem obj_nil : objL [] = [] := by simp [objL, sortI, Lib.compact, Lib.compactUpTo]
theorem incI_max {s : List Int} (h : IncI s) {z : Int} (hz : z ∈ s) (hm : ∀ y ∈ s, y ≤ z) : ∃ q, s.length = q + 1 ∧ s[q]! = z := by
  obtain ⟨j, hj, e⟩ := List.getElem_of_mem hz
  refine ⟨s.length - 1, by omega, ?_⟩
  by_cases h1 : j = s.length - 1
  · rw [← h1, getElem!_pos s j hj]; exact e
  · have h2 := List.pairwise_iff_getElem.1 h j (s.length - 1) hj (by omega) (by omega)
    have h3 := hm _ (List.getElem_mem (show s.length - 1 < s.length by omega))
    omega
theorem take_mem {l : List Rep} {k : Nat} {r : Rep} (h : r ∈ l.take k) : ∃ j, j < k ∧ j < l.length ∧ l[j]! = r := by
  obtain ⟨j, hj, e⟩ := mem_get h
  rw [List.length_take] at hj
  exact ⟨j, by omega, by omega, by rw [← e, take_get (by omega)]⟩
theorem mem_take {l : List Rep} {k j : Nat} (h : j < k) (hj : j < l.length) : l[j]! ∈ l.take k := by
  have h1 := get_mem (l := l.take k) (k := j) (by rw [List.length_take]; omega)
  rwa [take_get h] at h1
/-- The next report of a list in order: a new object, or the last one. -/
theorem obj_step {c : List Rep} (hc : Inc c) {k : Nat} (hk : k < c.length) :
    (objL (c.take k) = [] ∧ objL (c.take (k + 1)) = objL (c.take k) ++ [c[k]!.ob]) ∨
    (∃ q, (objL (c.take k)).length = q + 1 ∧ (objL (c.take k))[q]! ≠ c[k]!.ob ∧ objL (c.take (k + 1)) = objL (c.take k) ++ [c[k]!.ob]) ∨
    (∃ q, (objL (c.take k)).length = q + 1 ∧ (objL (c.take k))[q]! = c[k]!.ob ∧ objL (c.take (k + 1)) = objL (c.take k)) := by
  have hle : ∀ y ∈ objL (c.take k), y ≤ c[k]!.ob := by
    intro y hy
    obtain ⟨r, hr, e⟩ := (objL_mem _ y).1 hy
    obtain ⟨j, hj, hj2, e2⟩ := take_mem hr
    have h1 := inc_get hc hj hk
    rw [← e, ← e2]
    exact cmpR_ob (by omega)
  have grow : (∀ y ∈ objL (c.take k), y ≠ c[k]!.ob) → objL (c.take (k + 1)) = objL (c.take k) ++ [c[k]!.ob] := by
    intro hne
    refine (objL_of (List.pairwise_append.2 ⟨objL_inc _, List.pairwise_singleton _ _, fun x hx y hy => ?_⟩) fun z => ?_).symm
    · rw [List.mem_singleton.1 hy]
      have h1 := hle x hx
      have h2 := hne x hx
      omega
    · rw [List.mem_append, List.mem_singleton, objL_mem, take_one hk]
      simp only [List.mem_append, List.mem_singleton]
      constructor
      · rintro (⟨r, hr, e⟩ | e)
        · exact ⟨r, .inl hr, e⟩
        · exact ⟨_, .inr rfl, e.symm⟩
      · rintro ⟨r, hr | hr, e⟩
        · exact .inl ⟨r, hr, e⟩
        · exact .inr (by rw [← e, hr])
  by_cases h0 : k = 0
  · have h1 : objL (c.take k) = [] := by rw [h0, List.take_zero]; exact obj_nil
    exact .inl ⟨h1, grow fun y hy => by rw [h1] at hy; simp at hy⟩
  · have hin : c[k - 1]!.ob ∈ objL (c.take k) := (objL_mem _ _).2 ⟨_, mem_take (show k - 1 < k by omega) (by omega), rfl⟩
    have hmx : ∀ y ∈ objL (c.take k), y ≤ c[k - 1]!.ob := by
      intro y hy
      obtain ⟨r, hr, e⟩ := (objL_mem _ y).1 hy
      obtain ⟨j, hj, hj2, e2⟩ := take_mem hr
      rw [← e, ← e2]
      by_cases h1 : j = k - 1
      · rw [h1]; omega
      · have h2 := inc_get hc (i := j) (j := k - 1) (by omega) (by omega)
        exact cmpR_ob (by omega)
    obtain ⟨q, hq, e⟩ := incI_max (objL_inc _) hin hmx
    by_cases hz : (objL (c.take k))[q]! = c[k]!.ob
    · refine .inr (.inr ⟨q, hq, hz, (objL_of (objL_inc _) fun z => ?_).symm⟩)
      rw [objL_mem, take_one hk]
      simp only [List.mem_append, List.mem_singleton]
      constructor
      · rintro ⟨r, hr, e⟩
        exact ⟨r, .inl hr, e⟩
      · rintro ⟨r, hr | hr, e2⟩
        · exact ⟨r, hr, e2⟩
        · exact ⟨_, mem_take (show k - 1 < k by omega) (by omega), by rw [← e, hz, ← e2, hr]⟩
    · refine .inr (.inl ⟨q, hq, hz, grow fun y hy h2 => hz ?_⟩)
      have h3 := hmx y hy
      have h4 := hle _ hin
      rw [e]
      omega

/-- What counts about one object. -/
def ownL (o : Int) (c : List Rep) (k : Nat) : List Rep := (c.take k).filter fun r => r.ob == o
theorem ownL_len (o : Int) (c : List Rep) (k : Nat) : (ownL o c k).length ≤ c.length := Nat.le_trans (List.length_filter_le _ _) (by rw [List.length_take]; omega)
theorem ownL_next (o : Int) (c : List Rep) (k : Nat) (h : k < c.length) : ownL o c (k + 1) = if (c[k]!.ob == o) = true then ownL o c k ++ [c[k]!] else ownL o c k := by
  unfold ownL
  rw [take_one h, List.filter_append]
  split <;> simp_all
theorem ownL_all (o : Int) (l : List Rep) : ownL o (cntL l) (cntL l).length = cntL (aboutL o l) := by
  unfold ownL
  rw [List.take_length]
  refine cntL_of ((cntL_inc l).filter _) fun r => ?_
  rw [List.mem_filter, cntL_mem, aboutL_mem, winB_iff, winB_iff]
  simp only [beq_iff_eq]
  constructor
  · rintro ⟨⟨h1, h2, h3⟩, h4⟩
    exact ⟨⟨h1, h4⟩, fun q hq e => h2 q ((aboutL_mem o l q).1 hq).1 e, h3⟩
  · rintro ⟨⟨h1, h4⟩, h2, h3⟩
    refine ⟨⟨h1, fun q hq e => h2 q ((aboutL_mem o l q).2 ⟨hq, ?_⟩) e, h3⟩, h4⟩
    simp only [idOf, Prod.mk.injEq] at e
    rw [e.1, h4]
end Go.Proofs.Ytdjgpbanokdnhaa.Pt
