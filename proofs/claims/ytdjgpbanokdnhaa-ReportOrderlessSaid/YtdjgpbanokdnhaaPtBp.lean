/-
  Binary search in a list in order, as plain data.
-/
import Derived.Test.YtdjgpbanokdnhaaPtZo
namespace Go.Proofs.Ytdjgpbanokdnhaa.Pt

theorem inc_lt {l : List Rep} (h : Inc l) {x : Rep} {i j : Nat} (hij : i ≤ j) (hj : j < l.length) (hc : cmpR l[j]! x < 0) : cmpR l[i]! x < 0 := by
  by_cases e : i = j
  · rw [e]; exact hc
  · exact cmpR_lt (inc_get h (by omega) hj) hc
theorem inc_ge {l : List Rep} (h : Inc l) {x : Rep} {i j : Nat} (hij : i ≤ j) (hj : j < l.length) (hc : ¬ cmpR l[i]! x < 0) : ¬ cmpR l[j]! x < 0 := fun h2 => hc (inc_lt h hij hj h2)
/-- All before i are less, all from j on are not: where i and j meet, x stands there or nowhere. -/
theorem search_end {l : List Rep} {x : Rep} {i : Nat} (hi : i ≤ l.length) (h1 : ∀ k, k < i → cmpR l[k]! x < 0) (h2 : ∀ k, i ≤ k → k < l.length → ¬ cmpR l[k]! x < 0) (h : Inc l) : x ∈ l ↔ (i < l.length ∧ cmpR l[i]! x = 0) := by
  constructor
  · intro hm
    obtain ⟨k, hk, e⟩ := mem_get hm
    have hk1 : ¬ k < i := fun hlt => by
      have := h1 k hlt
      rw [e, cmpR_self] at this
      omega
    have hk2 : k = i := by
      by_cases hki : k = i
      · exact hki
      · have h3 := inc_get h (i := i) (j := k) (by omega) hk
        rw [e] at h3
        exact absurd h3 (h2 i (Nat.le_refl _) (by omega))
    rw [← hk2, e, cmpR_self]
    exact ⟨hk, rfl⟩
  · rintro ⟨hlt, he⟩
    rw [← cmpR_eq he]
    exact get_mem hlt
theorem objL_congr {a b : List Rep} (h : ∀ r, r ∈ a ↔ r ∈ b) : objL a = objL b := objL_of (objL_inc a) fun z => by
  rw [objL_mem]
  exact ⟨fun ⟨r, hr, e⟩ => ⟨r, (h r).1 hr, e⟩, fun ⟨r, hr, e⟩ => ⟨r, (h r).2 hr, e⟩⟩
theorem obj_step' {d : List Rep} {z : Rep} (h : Inc (d ++ [z])) :
    (objL d = [] ∧ objL (d ++ [z]) = objL d ++ [z.ob]) ∨
    (∃ q, (objL d).length = q + 1 ∧ (objL d)[q]! ≠ z.ob ∧ objL (d ++ [z]) = objL d ++ [z.ob]) ∨
    (∃ q, (objL d).length = q + 1 ∧ (objL d)[q]! = z.ob ∧ objL (d ++ [z]) = objL d) := by
  have h1 := obj_step h (k := d.length) (by simp)
  have e1 : (d ++ [z]).take d.length = d := by rw [List.take_left]
  have e2 : (d ++ [z]).take (d.length + 1) = d ++ [z] := List.take_of_length_le (by simp)
  have e3 : (d ++ [z])[d.length]! = z := by
    rw [getElem!_pos (d ++ [z]) d.length (by simp)]
    simp
  rw [e1, e2, e3] at h1
  exact h1
/-- One of both has it, the other one has not. -/
def difB (x y : List Rep) (r : Rep) : Bool := decide (r ∈ x) != decide (r ∈ y)
def difL (x y s : List Rep) (k : Nat) : List Rep := (s.take k).filter (difB x y)
theorem difL_next (x y s : List Rep) (k : Nat) (h : k < s.length) : difL x y s (k + 1) = if difB x y s[k]! = true then difL x y s k ++ [s[k]!] else difL x y s k := by
  unfold difL
  rw [take_one h, List.filter_append]
  split <;> simp_all
theorem difL_inc {x y s : List Rep} (h : Inc s) (k : Nat) : Inc (difL x y s k) := (h.sublist (List.take_sublist k s)).filter _
theorem difL_len (x y s : List Rep) (k : Nat) : (difL x y s k).length ≤ s.length := Nat.le_trans (List.length_filter_le _ _) (by rw [List.length_take]; omega)
/-- The reports of a list that another one lacks. -/
def lackL (l o : List Rep) : List Rep := keepL (fun r => decide (r ∈ o)) l
theorem lackL_mem (l o : List Rep) (r : Rep) : r ∈ lackL l o ↔ r ∈ l ∧ r ∉ o := by simp [lackL, keepL]
theorem lackL_len (l o : List Rep) : (lackL l o).length ≤ l.length := List.length_filter_le _ _
/-- What Changed returns. -/
def chgL (a b : List Rep) : List Int := objL (lackL (cntL a) (cntL b) ++ lackL (cntL b) (cntL a))
theorem chg_law (a b : List Rep) : objL (difL (cntL a) (cntL b) (setL (cntL a ++ cntL b)) (setL (cntL a ++ cntL b)).length) = chgL a b := by
  refine objL_congr fun r => ?_
  unfold difL difB
  rw [List.take_length, List.mem_filter, setL_mem, List.mem_append, List.mem_append, lackL_mem, lackL_mem]
  by_cases h1 : r ∈ cntL a <;> by_cases h2 : r ∈ cntL b <;> simp [h1, h2]
theorem chg_comm (a b : List Rep) : chgL b a = chgL a b := objL_congr fun r => by
  rw [List.mem_append, List.mem_append]
  exact Or.comm
theorem chg_same {a b : List Rep} (h : ∀ r, r ∈ a ↔ r ∈ b) : chgL a b = [] := by
  unfold chgL
  rw [cntL_congr h]
  have e : lackL (cntL b) (cntL b) = [] := by
    refine List.eq_nil_iff_forall_not_mem.2 fun r hr => ?_
    have := (lackL_mem _ _ r).1 hr
    exact this.2 this.1
  rw [e]
  exact obj_nil
end Go.Proofs.Ytdjgpbanokdnhaa.Pt
