/-
  What a list and its turned copy have in common, as plain data.
-/
import Derived.Test.YtdjgpbanokdnhaaPtWo
namespace Go.Proofs.Ytdjgpbanokdnhaa.Pt

theorem statR_congr {a b : List Rep} (h : ∀ r, r ∈ a ↔ r ∈ b) (r : Rep) : statR a r = statR b r := by
  unfold statR
  rw [winB_congr h r]
  by_cases h1 : r ∈ a
  · rw [if_pos h1, if_pos ((h r).1 h1)]
  · rw [if_neg h1, if_neg fun h2 => h1 ((h r).2 h2)]
theorem about_congr {a b : List Rep} (h : ∀ r, r ∈ a ↔ r ∈ b) (o : Int) (r : Rep) : r ∈ aboutL o a ↔ r ∈ aboutL o b := by
  rw [aboutL_mem, aboutL_mem, h r]
theorem missR_congr {a b : List Rep} (h : ∀ r, r ∈ a ↔ r ∈ b) (o most : Int) : missR a o most = missR b o most := by
  rw [← setAb_sqs, ← setAb_sqs, setL_congr (about_congr h o)]
theorem turn_at {j n b : Nat} (hj : j < n) : ∃ i, i < n ∧ (i + b) % n = j := by
  refine ⟨(j + (n - b % n)) % n, Nat.mod_lt _ (by omega), ?_⟩
  have h1 := Nat.div_add_mod b n
  have h2 : b % n < n := Nat.mod_lt _ (by omega)
  have h3 : j + (n - b % n) + b = j + n * (b / n + 1) := by
    rw [Nat.mul_add, Nat.mul_one]
    omega
  rw [Nat.mod_add_mod, h3, Nat.add_mul_mod_self_left, Nat.mod_eq_of_lt hj]
/-- The first k reports of a list turned by b. -/
def Turned (l : List Rep) (b k : Nat) (ms : List Rep) : Prop := ms.length = k ∧ ∀ r, r ∈ ms ↔ ∃ i, i < k ∧ l[(i + b) % l.length]! = r
theorem Turned.nil (l : List Rep) (b : Nat) : Turned l b 0 [] := ⟨rfl, fun r => by simp⟩
theorem Turned.next {l ms : List Rep} {b k : Nat} (h : Turned l b k ms) : Turned l b (k + 1) ([l[(k + b) % l.length]!] ++ ms) := by
  refine ⟨by simp [h.1], fun r => ?_⟩
  rw [List.mem_append, List.mem_singleton, h.2]
  constructor
  · rintro (e | ⟨i, hi, e⟩)
    · exact ⟨k, by omega, e.symm⟩
    · exact ⟨i, by omega, e⟩
  · rintro ⟨i, hi, e⟩
    by_cases h1 : i = k
    · exact .inl (by rw [← e, h1])
    · exact .inr ⟨i, by omega, e⟩
theorem Turned.all {l ms : List Rep} {b t : Nat} (h : Turned l b l.length ms) (ht : t < l.length) (r : Rep) : r ∈ l ↔ r ∈ ms ++ [l[t]!] := by
  rw [List.mem_append, List.mem_singleton, h.2]
  constructor
  · intro hr
    obtain ⟨j, hj, e⟩ := mem_get hr
    obtain ⟨i, hi, e2⟩ := turn_at (b := b) hj
    exact .inl ⟨i, hi, by rw [e2]; exact e⟩
  · rintro (⟨i, hi, e⟩ | e)
    · rw [← e]
      exact get_mem (Nat.mod_lt _ (by omega))
    · rw [e]
      exact get_mem ht
theorem rem_at (k b : Nat) {n j : Nat} (h : (k + b) % n = j) : ((k : Int) + (b : Int)).tmod (n : Int) = (j : Int) := by
  rw [← h, ← Int.natCast_add, Int.tmod_eq_emod_of_nonneg (by omega)]
  rfl
theorem rem_at' (b : Nat) {n j : Nat} (h : b % n = j) : (b : Int).tmod (n : Int) = (j : Int) := by
  rw [← h, Int.tmod_eq_emod_of_nonneg (by omega)]
  rfl
end Go.Proofs.Ytdjgpbanokdnhaa.Pt
