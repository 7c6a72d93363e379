/-
  The winners as plain data: they are the reports that no other one of their identity exceeds.
-/
import Derived.Test.YtdjgpbanokdnhaaPtX
namespace Go.Proofs.Ytdjgpbanokdnhaa.Pt

def idOf (r : Rep) : Int × Int := (r.ob, r.sq)
theorem sameId_iff (a b : Rep) : sameId a b = true ↔ idOf a = idOf b := by simp [sameId, idOf]
structure Wn (l ps : List Rep) : Prop where
  a : ∀ x ∈ ps, x ∈ l
  b : (ps.map idOf).Nodup
  c : ∀ r ∈ l, ∃ x ∈ ps, idOf x = idOf r ∧ cmpR r x ≤ 0
theorem Wn.step {l ps : List Rep} (h : Wn l ps) (r : Rep) : Wn (l ++ [r]) (stepW ps r) := by
  unfold stepW updR
  cases hf : findR r.ob r.sq ps 0 with
  | none =>
    have hn := findR_none hf
    refine ⟨fun x hx => ?_, ?_, fun q hq => ?_⟩
    · rcases List.mem_append.1 hx with h1 | h1
      · exact List.mem_append_left _ (h.a x h1)
      · exact List.mem_append_right _ h1
    · rw [List.map_append, List.nodup_append]
      refine ⟨h.b, by simp, fun x hx y hy => ?_⟩
      obtain ⟨z, hz, rfl⟩ := List.mem_map.1 hx
      simp at hy
      subst hy
      intro e
      exact hn z hz (by simpa [idOf] using e)
    · rcases List.mem_append.1 hq with h1 | h1
      · obtain ⟨x, h2, h3⟩ := h.c q h1
        exact ⟨x, List.mem_append_left _ h2, h3⟩
      · simp at h1
        subst h1
        exact ⟨q, by simp, rfl, by rw [cmpR_self]; omega⟩
  | some ix =>
    obtain ⟨i, x⟩ := ix
    obtain ⟨_, g2, g3, g4⟩ := findR_some hf
    rw [Nat.sub_zero] at g2
    have hxm : x ∈ ps := List.mem_of_getElem? g2
    have hi : i < ps.length := (List.getElem?_eq_some_iff.1 g2).1
    have hxi : idOf x = idOf r := by simp [idOf, g3, g4]
    simp only
    split
    · rename_i hc
      refine ⟨fun y hy => ?_, ?_, fun q hq => ?_⟩
      · rcases List.mem_or_eq_of_mem_set hy with h1 | h1
        · exact List.mem_append_left _ (h.a y h1)
        · simp [h1]
      · have e : (ps.set i r).map idOf = ps.map idOf := by
          rw [List.map_set]
          refine List.ext_getElem? fun j => ?_
          rw [List.getElem?_set]
          split
          · rename_i hj
            subst hj
            simp [hi, ← hxi]
            have := (List.getElem?_eq_some_iff.1 g2).2
            rw [this]
          · rfl
        rw [e]
        exact h.b
      · have key : ∀ q, (∃ y ∈ ps, idOf y = idOf q ∧ cmpR q y ≤ 0) → ∃ y ∈ ps.set i r, idOf y = idOf q ∧ cmpR q y ≤ 0 := by
          rintro q ⟨y, h1, h2, h3⟩
          obtain ⟨j, hj⟩ := List.getElem?_of_mem h1
          by_cases hji : j = i
          · subst hji
            rw [g2] at hj
            injection hj with hj
            subst hj
            refine ⟨r, List.mem_iff_getElem?.2 ⟨j, by simp [hi]⟩, hxi.symm.trans h2, ?_⟩
            have := cmpR_neg r x
            exact Int.le_of_lt (cmpR_le_lt h3 (by omega))
          · exact ⟨y, List.mem_iff_getElem?.2 ⟨j, by rw [List.getElem?_set_ne (Ne.symm hji)]; exact hj⟩, h2, h3⟩
        rcases List.mem_append.1 hq with h1 | h1
        · exact key q (h.c q h1)
        · simp at h1
          subst h1
          exact ⟨q, List.mem_iff_getElem?.2 ⟨i, by simp [hi]⟩, rfl, by rw [cmpR_self]; omega⟩
    · rename_i hc
      refine ⟨fun y hy => List.mem_append_left _ (h.a y hy), h.b, fun q hq => ?_⟩
      rcases List.mem_append.1 hq with h1 | h1
      · exact h.c q h1
      · simp at h1
        subst h1
        exact ⟨x, hxm, hxi, by omega⟩
theorem winP_wn (l : List Rep) : Wn l (winP l) := by
  have key : ∀ (m l1 ps : List Rep), Wn l1 ps → Wn (l1 ++ m) (m.foldl stepW ps) := by
    intro m
    induction m with
    | nil => intro l1 ps h; simpa using h
    | cons r m ih =>
      intro l1 ps h
      have := ih (l1 ++ [r]) _ (h.step r)
      simpa using this
  have := key l [] [] ⟨by simp, by simp, by simp⟩
  simpa [winP] using this
theorem Wn.inj {l ps : List Rep} (h : Wn l ps) {x y : Rep} (hx : x ∈ ps) (hy : y ∈ ps) (e : idOf x = idOf y) : x = y := by
  have hb := h.b
  clear h
  induction ps with
  | nil => simp at hx
  | cons a ps ih =>
    rw [List.map_cons, List.nodup_cons] at hb
    rcases List.mem_cons.1 hx with h1 | h1 <;> rcases List.mem_cons.1 hy with h2 | h2
    · rw [h1, h2]
    · exact absurd (List.mem_map.2 ⟨y, h2, by rw [← e, h1]⟩) hb.1
    · exact absurd (List.mem_map.2 ⟨x, h1, by rw [e, h2]⟩) hb.1
    · exact ih h1 h2 hb.2
theorem winB_iff (l : List Rep) (r : Rep) : winB l r = true ↔ ∀ q ∈ l, idOf q = idOf r → cmpR q r ≤ 0 := by
  simp only [winB, List.all_eq_true, Bool.not_eq_true', Bool.and_eq_false_iff, decide_eq_false_iff_not]
  constructor
  · intro h q hq e
    rcases h q hq with h1 | h1
    · rw [(sameId_iff q r).2 e] at h1
      cases h1
    · omega
  · intro h q hq
    by_cases e : idOf q = idOf r
    · exact .inr (by have := h q hq e; omega)
    · refine .inl ?_
      cases hs : sameId q r
      · rfl
      · exact absurd ((sameId_iff q r).1 hs) e
theorem winP_mem (l : List Rep) (x : Rep) : x ∈ winP l ↔ x ∈ l ∧ winB l x = true := by
  have h := winP_wn l
  rw [winB_iff]
  constructor
  · refine fun hx => ⟨h.a x hx, fun q hq e => ?_⟩
    obtain ⟨y, hy, h1, h2⟩ := h.c q hq
    rw [← h.inj hy hx (h1.trans e)]
    exact h2
  · rintro ⟨hx, hw⟩
    obtain ⟨y, hy, h1, h2⟩ := h.c x hx
    have h3 := hw y (h.a y hy) h1
    have h4 := cmpR_neg x y
    have h5 : cmpR x y = 0 := by omega
    rw [cmpR_eq h5]
    exact hy
theorem nodup_of_map {α β : Type} {f : α → β} : ∀ {l : List α}, (l.map f).Nodup → l.Nodup
  | [], _ => by simp
  | a :: l, h => by
    rw [List.map_cons, List.nodup_cons] at h
    rw [List.nodup_cons]
    exact ⟨fun ha => h.1 (List.mem_map.2 ⟨a, ha, rfl⟩), nodup_of_map h.2⟩
theorem winP_nodup (l : List Rep) : (winP l).Nodup := nodup_of_map (winP_wn l).b
/-- What the map holds under a report's identity. -/
theorem winP_find (l : List Rep) (r : Rep) (h : r ∈ l) : ∃ i x, findR r.ob r.sq (winP l) 0 = some (i, x) ∧ (x = r ↔ winB l r = true) := by
  have hw := winP_wn l
  cases hf : findR r.ob r.sq (winP l) 0 with
  | none =>
    obtain ⟨x, hx, h1, _⟩ := hw.c r h
    exact absurd (by simpa [idOf] using h1) (findR_none hf x hx)
  | some ix =>
    obtain ⟨i, x⟩ := ix
    obtain ⟨_, g2, g3, g4⟩ := findR_some hf
    have hx : x ∈ winP l := List.mem_of_getElem? g2
    refine ⟨i, x, rfl, fun e => ?_, fun hb => ?_⟩
    · rw [e] at hx
      exact ((winP_mem l r).1 hx).2
    · exact hw.inj hx ((winP_mem l r).2 ⟨h, hb⟩) (by simp [idOf, g3, g4])

theorem pigeon : ∀ (n : Nat) (s : List Nat), s.Nodup → (∀ i ∈ s, i < n) → s.length ≤ n
  | 0, s, _, h => by
    cases s with
    | nil => simp
    | cons a s => exact absurd (h a (by simp)) (by omega)
  | n + 1, s, hn, h => by
    by_cases hm : n ∈ s
    · have h1 := pigeon n (s.erase n) (hn.erase n) fun i hi => by
        have h2 := (hn.mem_erase_iff).1 hi
        have h3 := h i h2.2
        have h4 := h2.1
        omega
      rw [List.length_erase_of_mem hm] at h1
      omega
    · have h1 := pigeon n s hn fun i hi => by
        have h3 := h i hi
        have h4 : i ≠ n := fun e => hm (by rw [← e]; exact hi)
        omega
      omega

/-- The places of a list that have been seen, in their order, and what has been kept. -/
structure Seen (ps : List Rep) (s : List Nat) (ls : List Rep) : Prop where
  n : s.Nodup
  lt : ∀ i ∈ s, i < ps.length
  eq : ls = (s.map fun i => ps[i]!).filter fun r => !r.cn
theorem Seen.nil (ps : List Rep) : Seen ps [] [] := ⟨by simp, by simp, rfl⟩
theorem Seen.len {ps : List Rep} {s : List Nat} {ls : List Rep} (h : Seen ps s ls) : s.length ≤ ps.length := by
  exact pigeon _ _ h.n h.lt
theorem Seen.next {ps : List Rep} {s : List Nat} {ls : List Rep} (h : Seen ps s ls) {i : Nat} (hi : i < ps.length) (hn : ¬ i ∈ s) : Seen ps (s ++ [i]) (if ps[i]!.cn = true then ls else ls ++ [ps[i]!]) := by
  refine ⟨?_, fun j hj => ?_, ?_⟩
  · rw [List.nodup_append]
    refine ⟨h.n, by simp, fun x hx y hy => ?_⟩
    simp at hy
    subst hy
    exact fun e => hn (by rw [← e]; exact hx)
  · rcases List.mem_append.1 hj with h1 | h1
    · exact h.lt j h1
    · simp at h1
      omega
  · rw [h.eq, List.map_append, List.filter_append]
    simp only [List.map_cons, List.map_nil]
    generalize ps[i]! = x
    cases hc : x.cn <;> simp [hc]
theorem Seen.all {l : List Rep} {s : List Nat} {ls : List Rep} (h : Seen (winP l) s ls) (ha : ∀ i, i < (winP l).length → i ∈ s) : srt ls = cntL l := by
  have hm : ∀ r, r ∈ ls ↔ r ∈ l ∧ winB l r = true ∧ r.cn = false := by
    intro r
    rw [h.eq, List.mem_filter, ← and_assoc, ← winP_mem]
    simp only [List.mem_map, Bool.not_eq_true']
    constructor
    · rintro ⟨⟨i, hi, rfl⟩, hc⟩
      exact ⟨get_mem (h.lt i hi), hc⟩
    · rintro ⟨hr, hc⟩
      obtain ⟨k, hk, e⟩ := mem_get hr
      exact ⟨⟨k, ha k hk, e⟩, hc⟩
  have hn : ls.Nodup := by
    rw [h.eq]
    refine List.Pairwise.filter _ ?_
    show (List.map _ s).Nodup
    have hp := winP_nodup l
    have hlt := h.lt
    have hs := h.n
    clear h ha hm
    induction s with
    | nil => simp
    | cons i s ih =>
      rw [List.nodup_cons] at hs
      rw [List.map_cons, List.nodup_cons]
      refine ⟨fun hx => ?_, ih (fun j hj => hlt j (by simp [hj])) hs.2⟩
      obtain ⟨j, hj, e⟩ := List.mem_map.1 hx
      have h1 := hlt i (by simp)
      have h2 := hlt j (by simp [hj])
      rw [getElem!_pos _ i h1, getElem!_pos _ j h2] at e
      have := (List.getElem_inj hp).1 e
      exact hs.1 (by rw [← this]; exact hj)
  exact cntL_of (srt_inc hn) fun r => (srt_mem ls r).trans (hm r)
end Go.Proofs.Ytdjgpbanokdnhaa.Pt
