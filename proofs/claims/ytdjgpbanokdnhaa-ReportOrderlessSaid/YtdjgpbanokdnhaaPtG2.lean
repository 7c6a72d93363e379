/-
  The numbers that are missing, as plain data. No function of the program stands here.
-/
import Derived.Test.YtdjgpbanokdnhaaPtN
namespace Go.Proofs.Ytdjgpbanokdnhaa.Pt

/-- The numbers from 0 to below g that a list lacks. -/
def gapL (S : List Int) (g : Int) : List Int := ((List.range g.toNat).map fun k : Nat => (k : Int)).filter fun k => !S.contains k
theorem gapL_neg {S : List Int} {g : Int} (h : g ≤ 0) : gapL S g = [] := by
  rw [gapL, show g.toNat = 0 by omega]
  rfl
theorem gapL_next {S : List Int} {g : Int} (h : 0 ≤ g) : gapL S (g + 1) = if g ∈ S then gapL S g else gapL S g ++ [g] := by
  rw [gapL, show (g + 1).toNat = g.toNat + 1 by omega, List.range_succ, List.map_append, List.filter_append]
  have e : ((g.toNat : Nat) : Int) = g := by omega
  simp only [List.map_cons, List.map_nil, e]
  by_cases hg : g ∈ S
  · rw [if_pos hg]
    simp [gapL, hg]
  · rw [if_neg hg]
    simp [gapL, hg]
theorem gapL_prefix {S : List Int} : ∀ (d : Nat) (g : Int), ∃ t, gapL S (g + d) = gapL S g ++ t
  | 0, g => ⟨[], by simp⟩
  | d + 1, g => by
    obtain ⟨t, ht⟩ := gapL_prefix (S := S) d g
    by_cases h : 0 ≤ g + d
    · have h1 := gapL_next (S := S) h
      rw [show g + ((d + 1 : Nat) : Int) = g + d + 1 by omega, h1]
      split
      · exact ⟨t, ht⟩
      · exact ⟨t ++ [g + d], by rw [ht, List.append_assoc]⟩
    · exact ⟨[], by rw [gapL_neg (by omega), gapL_neg (by omega)]; rfl⟩
theorem gapL_full {S : List Int} {g h : Int} {m : Nat} (hgh : g ≤ h) (hl : m ≤ ((gapL S g).take m).length) : (gapL S h).take m = (gapL S g).take m := by
  obtain ⟨t, ht⟩ := gapL_prefix (S := S) (h - g).toNat g
  rw [show g + ((h - g).toNat : Int) = h by omega] at ht
  rw [List.length_take] at hl
  rw [ht, List.take_append_of_le_length (by omega)]
theorem take_more {l : List Int} {m : Nat} {x : Int} (h : (l.take m).length < m) : (l ++ [x]).take m = l.take m ++ [x] := by
  rw [List.length_take] at h
  rw [List.take_of_length_le (l := l) (by omega), List.take_of_length_le (by rw [List.length_append]; simp; omega)]
/-- The reports' numbers. -/
def sqs (l : List Rep) : List Int := l.map Rep.sq
def mostOf : List Int → Int
  | [] => -1
  | a :: l => max (mostOf l) a
theorem mostOf_le : ∀ (l : List Int) (a : Int), a ∈ l → a ≤ mostOf l
  | [], a, h => by simp at h
  | b :: l, a, h => by
    simp only [mostOf]
    rcases List.mem_cons.1 h with h | h
    · omega
    · have := mostOf_le l a h
      omega
theorem mostOf_lo : ∀ l : List Int, -1 ≤ mostOf l
  | [] => by simp [mostOf]
  | a :: l => by
    have := mostOf_lo l
    simp only [mostOf]
    omega
theorem mostOf_mem : ∀ l : List Int, mostOf l = -1 ∨ mostOf l ∈ l
  | [] => .inl rfl
  | a :: l => by
    simp only [mostOf]
    rcases mostOf_mem l with h | h
    · rcases Int.le_total (mostOf l) a with h1 | h1
      · exact .inr (by rw [Int.max_eq_right h1]; simp)
      · exact .inl (by rw [Int.max_eq_left h1]; exact h)
    · rcases Int.le_total (mostOf l) a with h1 | h1
      · exact .inr (by rw [Int.max_eq_right h1]; simp)
      · exact .inr (by rw [Int.max_eq_left h1]; simp [h])
theorem mostOf_congr {a b : List Int} (h : ∀ x, x ∈ a ↔ x ∈ b) : mostOf a = mostOf b := by
  have h1 := mostOf_mem a
  have h2 := mostOf_mem b
  have h3 := mostOf_lo a
  have h4 := mostOf_lo b
  rcases h1 with h1 | h1 <;> rcases h2 with h2 | h2
  · omega
  · have := mostOf_le a _ ((h _).2 h2); omega
  · have := mostOf_le b _ ((h _).1 h1); omega
  · have := mostOf_le a _ ((h _).2 h2)
    have := mostOf_le b _ ((h _).1 h1)
    omega
theorem gapL_congr {a b : List Int} (h : ∀ x, x ∈ a ↔ x ∈ b) (g : Int) : gapL a g = gapL b g := by
  rw [gapL, gapL]
  refine List.filter_congr fun x _ => ?_
  have : a.contains x = b.contains x := by
    rw [Bool.eq_iff_iff]
    simp [h x]
  rw [this]
/-- The first numbers that are missing before the greatest. -/
def missL (S : List Int) (most : Int) : List Int := (gapL S (mostOf S)).take most.toNat
theorem missL_congr {a b : List Int} (h : ∀ x, x ∈ a ↔ x ∈ b) (most : Int) : missL a most = missL b most := by
  rw [missL, missL, mostOf_congr h, gapL_congr h]
theorem missL_of {S : List Int} {last most : Int} (h1 : last = -1 ∨ last ∈ S) (h2 : ∀ x ∈ S, x ≤ last) (h3 : -1 ≤ last) : (gapL S (last + 1)).take most.toNat = missL S most := by
  have e : mostOf S = last := by
    have h4 := mostOf_lo S
    have h5 : mostOf S ≤ last := by
      rcases mostOf_mem S with h | h
      · omega
      · exact h2 _ h
    rcases h1 with h | h
    · omega
    · have := mostOf_le S _ h
      omega
  rw [missL, e]
  rcases h1 with h | h
  · subst h
    rw [gapL_neg (by omega), gapL_neg (by omega)]
  · by_cases h0 : 0 ≤ last
    · rw [gapL_next h0, if_pos h]
    · rw [gapL_neg (by omega), gapL_neg (by omega)]
/-- The numbers of one object's reports in order do not decrease. -/
theorem sq_mono {s : List Rep} (hs : Inc s) (o : Int) (ho : ∀ r ∈ s, r.ob = o) {i j : Nat} (hij : i ≤ j) (hj : j < s.length) : s[i]!.sq ≤ s[j]!.sq := by
  rcases Nat.lt_or_ge i j with h | h
  · have h1 := List.pairwise_iff_getElem.1 hs i j (by omega) hj h
    have h2 := ho _ (List.getElem_mem (l := s) (n := i) (by omega))
    have h3 := ho _ (List.getElem_mem (l := s) (n := j) hj)
    rw [getElem!_pos s i (by omega), getElem!_pos s j hj]
    generalize s[i]'_ = a at h1 h2
    generalize s[j]'_ = b at h1 h3
    have h4 : cmpR a b = if a.ob < b.ob then -1 else if b.ob < a.ob then 1 else if a.sq < b.sq then -1 else if b.sq < a.sq then 1 else lexc [a.vs, a.tm, a.px, a.py, a.dv, a.one] [b.vs, b.tm, b.px, b.py, b.dv, b.one] := rfl
    rw [h4, if_neg (by omega), if_neg (by omega)] at h1
    by_cases h5 : a.sq < b.sq
    · omega
    · rw [if_neg h5] at h1
      by_cases h6 : b.sq < a.sq
      · rw [if_pos h6] at h1
        omega
      · omega
  · rw [show i = j by omega]
    exact Int.le_refl _
theorem miss_end {S acc : List Int} {last q n most : Int} {k : Nat} (h1 : last + 1 ≤ n) (h2 : n ≤ last + 1 ∨ n ≤ q) (hq : q ∈ S) (hl : -1 ≤ last) (ha : acc = (gapL S n).take most.toNat) (hx : (acc.length : Int) < most → q ≤ n ∧ n ≤ acc.length + k) :
    acc = (gapL S (max last q + 1)).take most.toNat ∧ ((acc.length : Int) < most → max last q + 1 ≤ acc.length + (k + 1 : Nat)) := by
  by_cases hB : (acc.length : Int) < most
  · obtain ⟨h3, h4⟩ := hx hB
    refine ⟨?_, fun _ => by omega⟩
    by_cases h5 : last < q
    · have e : n = q := by omega
      subst e
      rw [Int.max_eq_right (by omega), gapL_next (by omega), if_pos hq, ha]
    · rw [Int.max_eq_left (by omega), show last + 1 = n by omega, ha]
  · refine ⟨?_, fun h => absurd h hB⟩
    have h6 : most.toNat ≤ ((gapL S n).take most.toNat).length := by rw [← ha]; omega
    rw [gapL_full (g := n) (by omega) h6, ha]
theorem miss_step {S acc : List Int} {n most : Int} (h0 : 0 ≤ n) (hn : ¬ n ∈ S) (ha : acc = (gapL S n).take most.toNat) (hB : (acc.length : Int) < most) : acc ++ [n] = (gapL S (n + 1)).take most.toNat := by
  rw [gapL_next h0, if_neg hn, take_more (by rw [← ha]; omega), ha]
theorem miss_new {s : List Rep} (hs : Inc s) {o : Int} (ho : ∀ r ∈ s, r.ob = o) {k : Nat} (hk : k < s.length) {last : Int} (hl : ∀ j, j < k → s[j]!.sq ≤ last) (n : Int) (h1 : last + 1 ≤ n) (h2 : n < s[k]!.sq) : ¬ n ∈ sqs s := by
  intro hm
  obtain ⟨r, hr, e⟩ := List.mem_map.1 hm
  obtain ⟨j, hj, e2⟩ := mem_get hr
  rcases Nat.lt_or_ge j k with h | h
  · have := hl j h
    rw [e2, e] at this
    omega
  · have := sq_mono hs o ho h hj
    rw [e2, e] at this
    omega
end Go.Proofs.Ytdjgpbanokdnhaa.Pt
