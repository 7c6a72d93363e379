import Derived.Test.YtahehlajpaoiiaaGreatDoorGStF
import Derived.Test.YtahehlajpaoiiaaGreatDoorGGcN

/-
  What a string denotes as a fraction, in plain words: digits, perhaps a slash and digits.
-/
namespace Go.Proofs.YtahehlajpaoiiaaGreatDoor

/-- Digits, at least one. -/
def Dgs (l : List UInt8) : Prop := l ≠ [] ∧ ∀ b ∈ l, digit10 b

/-- What the digits, perhaps with a slash between them, denote, or the error. -/
inductive Pq (neg : Bool) (l : List UInt8) : Rat → Int → Prop
  | int (h : Dgs l) : Pq neg l ((sgn neg (val10 l) : Int) : Rat) 0
  | frac (p r : List UInt8) (e : l = p ++ 47 :: r) (hp : Dgs p) (hr : Dgs r) (h0 : val10 r ≠ 0) : Pq neg l (Rat.divInt (sgn neg (val10 p)) (val10 r : Int)) 0
  | zero (p r : List UInt8) (e : l = p ++ 47 :: r) (hp : Dgs p) (hr : Dgs r) (h0 : val10 r = 0) : Pq neg l 0 6
  | bad (h1 : ¬ Dgs l) (h2 : ∀ p r, l = p ++ 47 :: r → Dgs p → ¬ Dgs r) : Pq neg l 0 15

theorem digit_no_slash {b : UInt8} (h : digit10 b) : b ≠ 47 := by
  rintro rfl
  exact absurd h.1 (by decide)

/-- The slash behind digits is found in one way. -/
theorem slash_one {p r p' r' : List UInt8} (h : p ++ 47 :: r = p' ++ 47 :: r') (hp : ∀ b ∈ p, digit10 b) (hp' : ∀ b ∈ p', digit10 b) : p = p' ∧ r = r' := by
  induction p generalizing p' with
  | nil =>
    cases p' with
    | nil => simpa using h
    | cons b t =>
      simp only [List.nil_append, List.cons_append, List.cons.injEq] at h
      exact absurd h.1.symm (digit_no_slash (hp' b (by simp)))
  | cons a s ih =>
    cases p' with
    | nil =>
      simp only [List.nil_append, List.cons_append, List.cons.injEq] at h
      exact absurd h.1 (digit_no_slash (hp a (by simp)))
    | cons b t =>
      simp only [List.cons_append, List.cons.injEq] at h
      obtain ⟨h1, h2⟩ := ih h.2 (fun x hx => hp x (by simp [hx])) (fun x hx => hp' x (by simp [hx]))
      exact ⟨by rw [h.1, h1], h2⟩

theorem no_slash {l p r : List UInt8} (h : ∀ b ∈ l, digit10 b) : l ≠ p ++ 47 :: r := fun e =>
  digit_no_slash (h 47 (by rw [e]; simp)) rfl

theorem Pq.one {neg : Bool} {l : List UInt8} {q q' : Rat} {e e' : Int} (h : Pq neg l q e) (h' : Pq neg l q' e') : q = q' ∧ e = e' := by
  cases h with
  | int h =>
    cases h' with
    | int _ => exact ⟨rfl, rfl⟩
    | frac p r e => exact absurd e (no_slash h.2)
    | zero p r e => exact absurd e (no_slash h.2)
    | bad h1 _ => exact absurd h h1
  | frac p r e hp hr h0 =>
    cases h' with
    | int h => exact absurd e (no_slash h.2)
    | frac p' r' e' hp' hr' h0' =>
      obtain ⟨rfl, rfl⟩ := slash_one (e.symm.trans e') hp.2 hp'.2
      exact ⟨rfl, rfl⟩
    | zero p' r' e' hp' hr' h0' =>
      obtain ⟨rfl, rfl⟩ := slash_one (e.symm.trans e') hp.2 hp'.2
      exact absurd h0' h0
    | bad _ h2 => exact absurd hr (h2 p r e hp)
  | zero p r e hp hr h0 =>
    cases h' with
    | int h => exact absurd e (no_slash h.2)
    | frac p' r' e' hp' hr' h0' =>
      obtain ⟨rfl, rfl⟩ := slash_one (e.symm.trans e') hp.2 hp'.2
      exact absurd h0 h0'
    | zero p' r' e' hp' hr' h0' => exact ⟨rfl, rfl⟩
    | bad _ h2 => exact absurd hr (h2 p r e hp)
  | bad h1 h2 =>
    cases h' with
    | int h => exact absurd h h1
    | frac p' r' e' hp' hr' h0' => exact absurd hr' (h2 p' r' e' hp')
    | zero p' r' e' hp' hr' h0' => exact absurd hr' (h2 p' r' e' hp')
    | bad _ _ => exact ⟨rfl, rfl⟩

/-- How far the loop over the text has come: the digits ahead of the slash, and, if it has come by, those behind it. -/
inductive Seen : List UInt8 → Bool → List UInt8 → List UInt8 → Prop
  | num {l : List UInt8} (h : ∀ b ∈ l, digit10 b) : Seen l false l []
  | den {p r : List UInt8} (hp : ∀ b ∈ p, digit10 b) (hr : ∀ b ∈ r, digit10 b) : Seen (p ++ 47 :: r) true p r

theorem seen_nil : Seen [] false [] [] := .num (fun b hb => by simp at hb)
theorem Seen.digit_num {l p r : List UInt8} (h : Seen l false p r) {b : UInt8} (hb : digit10 b) : Seen (l ++ [b]) false (p ++ [b]) [] := by
  cases h with
  | num h => exact .num (fun x hx => by rcases List.mem_append.1 hx with h1 | h1; exact h x h1; obtain rfl : x = b := (by simpa using h1); exact hb)
theorem Seen.slash {l p r : List UInt8} (h : Seen l false p r) : Seen (l ++ [47]) true p [] := by
  cases h with
  | num h => exact .den h (fun b hb => by simp at hb)
theorem Seen.digit_den {l p r : List UInt8} (h : Seen l true p r) {b : UInt8} (hb : digit10 b) : Seen (l ++ [b]) true p (r ++ [b]) := by
  cases h with
  | den hp hr =>
    rw [List.append_assoc, List.cons_append]
    exact .den hp (fun x hx => by rcases List.mem_append.1 hx with h1 | h1; exact hr x h1; obtain rfl : x = b := (by simpa using h1); exact hb)

/-- A byte that is no digit, and no first slash. -/
theorem Seen.stop {l p r : List UInt8} {s : Bool} (h : Seen l s p r) {b : UInt8} (hb : ¬ digit10 b) (hs : s = true ∨ b ≠ 47) (t : List UInt8) (neg : Bool) : Pq neg (l ++ b :: t) 0 15 := by
  refine .bad (fun hd => hb (hd.2 b (by simp))) fun p' r' e hp hr => ?_
  cases h with
  | num h =>
    have hs : b ≠ 47 := by simpa using hs
    -- the first byte that is no digit is b in one reading, the slash in the other
    have key : ∀ (l p' : List UInt8), l ++ b :: t = p' ++ 47 :: r' → (∀ x ∈ l, digit10 x) → (∀ x ∈ p', digit10 x) → False := by
      intro l
      induction l with
      | nil =>
        intro p' e hl hp'
        cases p' with
        | nil => simp only [List.nil_append, List.cons.injEq] at e; exact hs e.1
        | cons c u => simp only [List.nil_append, List.cons_append, List.cons.injEq] at e; exact hb (by rw [e.1]; exact hp' c (by simp))
      | cons a u ih =>
        intro p' e hl hp'
        cases p' with
        | nil => simp only [List.nil_append, List.cons_append, List.cons.injEq] at e; exact digit_no_slash (hl a (by simp)) e.1
        | cons c v =>
          simp only [List.cons_append, List.cons.injEq] at e
          exact ih v e.2 (fun x hx => hl x (by simp [hx])) (fun x hx => hp' x (by simp [hx]))
    exact key l p' e h hp.2
  | den hp2 hr2 =>
    rw [List.append_assoc, List.cons_append] at e
    obtain ⟨_, h2⟩ := slash_one e hp2 hp.2
    exact hb (hr.2 b (by rw [← h2]; simp))

/-- The text's end without digits where there must be some. -/
theorem Seen.empty {l p r : List UInt8} {s : Bool} (h : Seen l s p r) (he : p = [] ∨ (s = true ∧ r = [])) (neg : Bool) : Pq neg l 0 15 := by
  cases h with
  | num h =>
    have hl : l = [] := by simpa using he
    subst hl
    exact .bad (fun hd => hd.1 rfl) fun p' r' e _ _ => by simp at e
  | den hp hr =>
    refine .bad (fun hd => digit_no_slash (hd.2 47 (by simp)) rfl) fun p' r' e hp' hr' => ?_
    obtain ⟨rfl, rfl⟩ := slash_one e hp hp'.2
    rcases he with rfl | ⟨_, rfl⟩
    · exact hp'.1 rfl
    · exact hr'.1 rfl

theorem Seen.whole {l p r : List UInt8} (h : Seen l false p r) (hp : p ≠ []) (neg : Bool) : Pq neg l ((sgn neg (val10 p) : Int) : Rat) 0 := by
  cases h with
  | num h => exact .int ⟨hp, h⟩
theorem Seen.parts {l p r : List UInt8} (h : Seen l true p r) (hp : p ≠ []) (hr : r ≠ []) (neg : Bool) : (val10 r ≠ 0 ∧ Pq neg l (Rat.divInt (sgn neg (val10 p)) (val10 r : Int)) 0) ∨ (val10 r = 0 ∧ Pq neg l 0 6) := by
  cases h with
  | den h1 h2 =>
    by_cases h0 : val10 r = 0
    · exact .inr ⟨h0, .zero _ _ rfl ⟨hp, h1⟩ ⟨hr, h2⟩ h0⟩
    · exact .inl ⟨h0, .frac _ _ rfl ⟨hp, h1⟩ ⟨hr, h2⟩ h0⟩
theorem Seen.len {l p r : List UInt8} {s : Bool} (h : Seen l s p r) : p.length ≤ l.length ∧ r.length ≤ l.length := by
  cases h with
  | num h => exact ⟨Nat.le_refl _, by simp⟩
  | den hp hr => simp only [List.length_append, List.length_cons]; omega

/-- The parts of a numeral that holds n digits with the value V. -/
inductive Nq : Nat → Nat → Nat → Nat → Nat → Prop
  | none : Nq 0 0 0 0 0
  | some (j n V v l : Nat) (h1 : 1 ≤ j) (h2 : j ≤ 18) (hn : j ≤ n) (hl : l < 10 ^ j) (hV : V = v * 10 ^ j + l) (hv : v < 10 ^ (n - j)) : Nq n V v l (10 ^ j)

theorem Nq.zero {n V v l : Nat} (h : Nq n V v l 0) : n = 0 ∧ V = 0 ∧ v = 0 ∧ l = 0 := by
  generalize hs : 0 = s at h
  cases h with
  | none => exact ⟨rfl, rfl, rfl, rfl⟩
  | some j n V v l => have := Nat.pow_pos (n := j) (show 0 < 10 by omega); omega
theorem Nq.empty {n V v l s : Nat} (h : Nq n V v l s) : s = 0 ↔ n = 0 := by
  cases h with
  | none => simp
  | some j n V v l h1 h2 hn => have := Nat.pow_pos (n := j) (show 0 < 10 by omega); omega
theorem pow10_18 {j : Nat} (h : j ≤ 18) : 10 ^ j ≤ 1000000000000000000 := by
  have : 10 ^ j ≤ 10 ^ 18 := Nat.pow_le_pow_right (by omega) h
  simpa using this
theorem Nq.total {n V v l s : Nat} (h : Nq n V v l s) : v * s + l = V ∧ s ≤ 1000000000000000000 ∧ l ≤ 1000000000000000000 ∧ v < 10 ^ n := by
  cases h with
  | none => simp
  | some j n V v l h1 h2 hn hl hV hv =>
    have := pow10_18 h2
    refine ⟨hV.symm, this, by omega, Nat.lt_of_lt_of_le hv (Nat.pow_le_pow_right (by omega) (by omega))⟩
/-- A digit behind the others: while there is room, and where there is none. -/
theorem Nq.add {n V v l s d : Nat} (h : Nq n V v l s) (hd : d ≤ 9) :
    (∃ t, ((s = 0 ∧ t = 1) ∨ (1 ≤ s ∧ t = s)) ∧ s ≤ 100000000000000000 ∧ l ≤ 200000000000000000 ∧ Nq (n + 1) (V * 10 + d) v (l * 10 + d) (t * 10)) ∨
    (s = 1000000000000000000 ∧ l ≤ 1000000000000000000 ∧ Nq (n + 1) (V * 10 + d) (v * 1000000000000000000 + l) d 10) := by
  cases h with
  | none =>
    left
    refine ⟨1, .inl ⟨rfl, rfl⟩, by omega, by omega, ?_⟩
    have := Nq.some 1 1 (0 * 10 + d) 0 (0 * 10 + d) (by omega) (by omega) (by omega) (by omega) (by omega) (by decide)
    simpa using this
  | some j n V v l h1 h2 hn hl hV hv =>
    by_cases hj : j = 18
    · subst hj
      right
      have e18 : (10 : Nat) ^ 18 = 1000000000000000000 := by decide
      refine ⟨e18, by omega, ?_⟩
      have hb : v * 1000000000000000000 + l < 10 ^ (n + 1 - 1) := by
        have : v * 10 ^ 18 + l < 10 ^ (n - 18) * 10 ^ 18 := by
          have h3 : (v + 1) * 10 ^ 18 ≤ 10 ^ (n - 18) * 10 ^ 18 := Nat.mul_le_mul_right _ hv
          rw [Nat.add_mul] at h3
          omega
        rw [← Nat.pow_add, show n - 18 + 18 = n + 1 - 1 by omega, e18] at this
        exact this
      have := Nq.some 1 (n + 1) (V * 10 + d) (v * 1000000000000000000 + l) d (by omega) (by omega) (by omega) (by omega) (by rw [hV, e18]) hb
      simpa using this
    · left
      have h17 : 10 ^ j ≤ 100000000000000000 := by
        have : 10 ^ j ≤ 10 ^ 17 := Nat.pow_le_pow_right (by omega) (by omega)
        simpa using this
      have hp := Nat.pow_pos (n := j) (show 0 < 10 by omega)
      refine ⟨10 ^ j, .inr ⟨by omega, rfl⟩, h17, by omega, ?_⟩
      rw [← Nat.pow_succ]
      refine Nq.some (j + 1) (n + 1) _ v _ (by omega) (by omega) (by omega) (by rw [Nat.pow_succ]; omega) ?_ (by rw [show n + 1 - (j + 1) = n - j by omega]; exact hv)
      rw [hV, Nat.pow_succ, Nat.add_mul, ← Nat.mul_assoc]
      omega
end Go.Proofs.YtahehlajpaoiiaaGreatDoor
