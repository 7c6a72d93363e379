/-
  Reports as plain data: their order, sets of them, and which of them count. No function of the program stands here.
-/
import Derived.Sort.LotA
namespace Go.Proofs.Ytdjgpbanokdnhaa

abbrev Rep := Int × Int × Int × Int × Int × Int × Int × Bool
namespace Rep
def ob (r : Rep) : Int := r.1
def sq (r : Rep) : Int := r.2.1
def vs (r : Rep) : Int := r.2.2.1
def dv (r : Rep) : Int := r.2.2.2.1
def tm (r : Rep) : Int := r.2.2.2.2.1
def px (r : Rep) : Int := r.2.2.2.2.2.1
def py (r : Rep) : Int := r.2.2.2.2.2.2.1
def cn (r : Rep) : Bool := r.2.2.2.2.2.2.2
def one (r : Rep) : Int := if r.cn = true then 1 else 0
end Rep
def keyR (r : Rep) : List Int := [r.ob, r.sq, r.vs, r.tm, r.px, r.py, r.dv, r.one]
theorem keyR_len (r : Rep) : (keyR r).length = 8 := rfl
theorem keyR_inj {a b : Rep} (h : keyR a = keyR b) : a = b := by
  obtain ⟨a1, a2, a3, a4, a5, a6, a7, a8⟩ := a
  obtain ⟨b1, b2, b3, b4, b5, b6, b7, b8⟩ := b
  simp only [keyR, Rep.ob, Rep.sq, Rep.vs, Rep.dv, Rep.tm, Rep.px, Rep.py, Rep.one, Rep.cn, List.cons.injEq] at h
  obtain ⟨rfl, rfl, rfl, rfl, rfl, rfl, rfl, h8, _⟩ := h
  cases a8 <;> cases b8 <;> simp at h8 ⊢

/-- The order of lists of numbers. -/
def lexc : List Int → List Int → Int
  | a :: u, b :: v => if a < b then -1 else if b < a then 1 else lexc u v
  | _, _ => 0
theorem lexc_vals : ∀ a b : List Int, lexc a b = -1 ∨ lexc a b = 0 ∨ lexc a b = 1
  | [], _ => by simp [lexc]
  | _ :: _, [] => by simp [lexc]
  | a :: u, b :: v => by
    simp only [lexc]
    split
    · simp
    · split
      · simp
      · exact lexc_vals u v
theorem lexc_neg : ∀ a b : List Int, lexc b a = -lexc a b
  | [], [] => by simp [lexc]
  | [], _ :: _ => by simp [lexc]
  | _ :: _, [] => by simp [lexc]
  | a :: u, b :: v => by
    simp only [lexc]
    have := lexc_neg u v
    split <;> split <;> first | omega | (split <;> omega)
theorem lexc_zero : ∀ a b : List Int, a.length = b.length → lexc a b = 0 → a = b
  | [], [], _, _ => rfl
  | [], _ :: _, h, _ => by simp at h
  | _ :: _, [], h, _ => by simp at h
  | a :: u, b :: v, h, e => by
    simp only [lexc] at e
    split at e
    · simp at e
    · split at e
      · simp at e
      · rw [lexc_zero u v (by simpa using h) e, show a = b by omega]
theorem lexc_self : ∀ a : List Int, lexc a a = 0
  | [] => rfl
  | a :: as => by simp [lexc, lexc_self as]
theorem lexc_trans : ∀ a b c : List Int, a.length = b.length → b.length = c.length → lexc a b ≤ 0 → lexc b c ≤ 0 → lexc a c ≤ 0 ∧ (lexc a b < 0 ∨ lexc b c < 0 → lexc a c < 0)
  | [], [], [], _, _, _, _ => by simp [lexc]
  | [], _ :: _, _, h, _, _, _ => by simp at h
  | _ :: _, [], _, h, _, _, _ => by simp at h
  | [], [], _ :: _, _, h, _, _ => by simp at h
  | _ :: _, _ :: _, [], _, h, _, _ => by simp at h
  | a :: u, b :: v, c :: cs, h1, h2, e1, e2 => by
    simp only [lexc] at e1 e2 ⊢
    have ih := lexc_trans u v cs (by simpa using h1) (by simpa using h2)
    by_cases p1 : a < b
    · by_cases p2 : b < c
      · simp [show a < c by omega]
      · by_cases p3 : c < b
        · simp [p2, p3] at e2
        · simp [show a < c by omega]
    · by_cases p4 : b < a
      · simp [p1, p4] at e1
      · obtain rfl : a = b := by omega
        by_cases p2 : a < c
        · simp [p2]
        · by_cases p3 : c < a
          · simp [p2, p3] at e2
          · simp only [p2, p3, if_false, Int.lt_irrefl] at e1 e2 ⊢
            exact ih e1 e2

/-- The order of reports. -/
def cmpR (a b : Rep) : Int := lexc (keyR a) (keyR b)
theorem cmpR_vals (a b : Rep) : cmpR a b = -1 ∨ cmpR a b = 0 ∨ cmpR a b = 1 := lexc_vals _ _
theorem cmpR_neg (a b : Rep) : cmpR b a = -cmpR a b := lexc_neg _ _
theorem cmpR_self (a : Rep) : cmpR a a = 0 := lexc_self _
theorem cmpR_eq {a b : Rep} (h : cmpR a b = 0) : a = b := keyR_inj (lexc_zero _ _ rfl h)
theorem cmpR_zero (a b : Rep) : cmpR a b = 0 ↔ a = b := ⟨cmpR_eq, fun h => by rw [h]; exact cmpR_self b⟩
instance : DecidableEq Rep := fun a b => if h : cmpR a b = 0 then .isTrue (cmpR_eq h) else .isFalse fun e => h (by rw [e]; exact cmpR_self b)
theorem cmpR_le {a b c : Rep} (h1 : cmpR a b ≤ 0) (h2 : cmpR b c ≤ 0) : cmpR a c ≤ 0 := (lexc_trans (keyR a) (keyR b) (keyR c) rfl rfl h1 h2).1
theorem cmpR_lt {a b c : Rep} (h1 : cmpR a b < 0) (h2 : cmpR b c < 0) : cmpR a c < 0 := (lexc_trans (keyR a) (keyR b) (keyR c) rfl rfl (Int.le_of_lt h1) (Int.le_of_lt h2)).2 (.inl h1)
theorem cmpR_lt_le {a b c : Rep} (h1 : cmpR a b < 0) (h2 : cmpR b c ≤ 0) : cmpR a c < 0 := (lexc_trans (keyR a) (keyR b) (keyR c) rfl rfl (Int.le_of_lt h1) h2).2 (.inl h1)
theorem cmpR_le_lt {a b c : Rep} (h1 : cmpR a b ≤ 0) (h2 : cmpR b c < 0) : cmpR a c < 0 := (lexc_trans (keyR a) (keyR b) (keyR c) rfl rfl h1 (Int.le_of_lt h2)).2 (.inr h2)
abbrev ltR (a b : Rep) : Bool := decide (cmpR a b < 0)
theorem ltR_iff (a b : Rep) : (ltR a b = true) ↔ cmpR a b < 0 := by simp [ltR]
theorem cmpR_swo : Go.Sort.SWO ltR where
  irrefl x := by simp [ltR, cmpR_self]
  trans x y z h1 h2 := by
    rw [ltR_iff] at *
    exact cmpR_lt h1 h2
  ntrans x y z h1 h2 := by
    have e : ∀ a b : Rep, ltR a b = false ↔ cmpR b a ≤ 0 := fun a b => by
      have := cmpR_neg a b
      simp [ltR]
      omega
    rw [e] at *
    exact cmpR_le h2 h1
theorem cmpR_tot (x y : Rep) (h1 : ltR x y = false) (h2 : ltR y x = false) : x = y := by
  have := cmpR_neg x y
  simp [ltR] at h1 h2
  exact cmpR_eq (by omega)

/-- In increasing order, each once. -/
def Inc (l : List Rep) : Prop := l.Pairwise fun a b => cmpR a b < 0
theorem Inc.nodup {l : List Rep} (h : Inc l) : l.Nodup := h.imp fun hab e => by subst e; rw [cmpR_self] at hab; omega
/-- Two lists in increasing order with the same members are equal. -/
theorem inc_unique : ∀ {a b : List Rep}, Inc a → Inc b → (∀ r, r ∈ a ↔ r ∈ b) → a = b
  | [], [], _, _, _ => rfl
  | [], y :: b, _, _, h => by have := (h y).2 (by simp); simp at this
  | x :: a, [], _, _, h => by have := (h x).1 (by simp); simp at this
  | x :: a, y :: b, ha, hb, h => by
    have ha' := List.pairwise_cons.1 ha
    have hb' := List.pairwise_cons.1 hb
    have e : x = y := by
      rcases List.mem_cons.1 ((h x).1 (by simp)) with e | e
      · exact e
      · rcases List.mem_cons.1 ((h y).2 (by simp)) with e' | e'
        · exact e'.symm
        · have h1 := hb'.1 x e
          have h2 := ha'.1 y e'
          have := cmpR_neg x y
          omega
    subst e
    refine congrArg (x :: ·) (inc_unique ha'.2 hb'.2 fun r => ?_)
    constructor
    · intro hr
      rcases List.mem_cons.1 ((h r).1 (by simp [hr])) with e | e
      · subst e
        have := ha'.1 r hr
        rw [cmpR_self] at this
        omega
      · exact e
    · intro hr
      rcases List.mem_cons.1 ((h r).2 (by simp [hr])) with e | e
      · subst e
        have := hb'.1 r hr
        rw [cmpR_self] at this
        omega
      · exact e

/-- What the library's sort leaves. -/
def srt (l : List Rep) : List Rep := l.mergeSort fun x y => !ltR y x
theorem srt_mem (l : List Rep) (r : Rep) : r ∈ srt l ↔ r ∈ l := (List.mergeSort_perm l _).mem_iff
theorem srt_len (l : List Rep) : (srt l).length = l.length := List.length_mergeSort l
theorem srt_le (l : List Rep) : (srt l).Pairwise fun a b => cmpR a b ≤ 0 := by
  have e : ∀ a b : Rep, (!ltR b a) = true ↔ cmpR a b ≤ 0 := fun a b => by
    have := cmpR_neg a b
    simp [ltR]
    omega
  have h := List.pairwise_mergeSort (le := fun x y => !ltR y x)
    (fun a b c h1 h2 => by rw [e] at *; exact cmpR_le h1 h2)
    (fun a b => by
      have := cmpR_neg a b
      have h1 := e a b
      have h2 := e b a
      by_cases h : cmpR a b ≤ 0
      · simp [h1.2 h]
      · simp [h2.2 (by omega)]) l
  exact h.imp fun hab => (e _ _).1 hab
theorem srt_inc {l : List Rep} (h : l.Nodup) : Inc (srt l) := by
  have hn : (srt l).Nodup := (List.mergeSort_perm l _).nodup_iff.2 h
  refine (srt_le l).imp₂ (fun a b h1 h2 => ?_) hn
  have := cmpR_vals a b
  have h0 : cmpR a b ≠ 0 := fun e => h2 (cmpR_eq e)
  omega
/-- What slices.Compact leaves: of equal neighbours the first one. -/
def cptF (a : Rep) : List Rep → List Rep
  | [] => []
  | b :: l => if b = a then cptF a l else b :: cptF b l
def cpt : List Rep → List Rep
  | [] => []
  | a :: l => a :: cptF a l
theorem cptF_mem (a : Rep) : ∀ (l : List Rep) (r : Rep), r ∈ cptF a l → r ∈ l
  | [], r, h => by simp [cptF] at h
  | b :: l, r, h => by
    simp only [cptF] at h
    split at h
    · simp [cptF_mem a l r h]
    · rcases List.mem_cons.1 h with e | e
      · simp [e]
      · simp [cptF_mem b l r e]
theorem mem_cptF (a : Rep) : ∀ (l : List Rep) (r : Rep), r ∈ l → r ≠ a → r ∈ cptF a l
  | [], r, h, _ => by simp at h
  | b :: l, r, h, n => by
    simp only [cptF]
    split
    · rename_i e
      rcases List.mem_cons.1 h with e' | e'
      · exact absurd (e'.trans e) n
      · exact mem_cptF a l r e' n
    · rcases List.mem_cons.1 h with e' | e'
      · simp [e']
      · by_cases hb : r = b
        · simp [hb]
        · simp [mem_cptF b l r e' hb]
theorem cpt_mem (l : List Rep) (r : Rep) : r ∈ cpt l ↔ r ∈ l := by
  cases l with
  | nil => simp [cpt]
  | cons a l =>
    simp only [cpt, List.mem_cons]
    constructor
    · rintro (h | h)
      · exact .inl h
      · exact .inr (cptF_mem a l r h)
    · rintro (h | h)
      · exact .inl h
      · by_cases e : r = a
        · exact .inl e
        · exact .inr (mem_cptF a l r h e)
theorem cptF_inc (a : Rep) : ∀ l : List Rep, (a :: l).Pairwise (fun a b => cmpR a b ≤ 0) → Inc (a :: cptF a l)
  | [], _ => by simp [cptF, Inc]
  | b :: l, h => by
    have h1 := List.pairwise_cons.1 h
    have h2 := List.pairwise_cons.1 h1.2
    simp only [cptF]
    split
    · exact cptF_inc a l (List.pairwise_cons.2 ⟨fun r hr => h1.1 r (by simp [hr]), h2.2⟩)
    · rename_i n
      have ih := cptF_inc b l h1.2
      have hab : cmpR a b < 0 := by
        have := h1.1 b (by simp)
        have h0 : cmpR a b ≠ 0 := fun e => n (cmpR_eq e).symm
        omega
      refine List.pairwise_cons.2 ⟨fun r hr => ?_, ih⟩
      rcases List.mem_cons.1 hr with e | e
      · rw [e]; exact hab
      · exact cmpR_lt hab ((List.pairwise_cons.1 ih).1 r e)
theorem cpt_inc {l : List Rep} (h : l.Pairwise fun a b => cmpR a b ≤ 0) : Inc (cpt l) := by
  cases l with
  | nil => simp [cpt, Inc]
  | cons a l => exact cptF_inc a l h

theorem cptF_snoc (x : Rep) : ∀ (l : List Rep) (a : Rep), cptF a (l ++ [x]) = if x = (a :: l).getLast (by simp) then cptF a l else cptF a l ++ [x]
  | [], a => by
    by_cases h : x = a <;> simp [cptF, h]
  | b :: l, a => by
    have ih := cptF_snoc x l
    simp only [List.cons_append, cptF, List.getLast_cons_cons]
    split
    · rename_i h
      subst h
      exact ih b
    · rw [ih b]
      split <;> simp
theorem cpt_snoc (x : Rep) (l : List Rep) (h : l ≠ []) : cpt (l ++ [x]) = if x = l.getLast h then cpt l else cpt l ++ [x] := by
  cases l with
  | nil => exact absurd rfl h
  | cons a l =>
    simp only [List.cons_append, cpt, cptF_snoc]
    split <;> simp
/-- One element more. -/
theorem cpt_next (l : List Rep) (q : Nat) (h : q + 1 < l.length) : cpt (l.take (q + 2)) = if l[q + 1]! = l[q]! then cpt (l.take (q + 1)) else cpt (l.take (q + 1)) ++ [l[q + 1]!] := by
  have e : l.take (q + 2) = l.take (q + 1) ++ [l[q + 1]!] := by
    rw [List.take_succ_eq_append_getElem h, getElem!_pos l (q + 1) h]
  have hne : l.take (q + 1) ≠ [] := fun h0 => by
    have h1 : (l.take (q + 1)).length = 0 := by rw [h0]; rfl
    rw [List.length_take] at h1
    omega
  have hl : (l.take (q + 1)).getLast hne = l[q]! := by
    rw [List.getLast_eq_getElem, getElem!_pos l q (by omega), List.getElem_take]
    congr 1
    rw [List.length_take]
    omega
  rw [e, cpt_snoc _ _ hne, hl]
theorem cpt_one (l : List Rep) (h : l.length < 2) : cpt l = l := by
  match l, h with
  | [], _ => rfl
  | [a], _ => rfl
theorem take_one (l : List Rep) : cpt (l.take 1) = l.take 1 := cpt_one _ (by rw [List.length_take]; omega)
theorem take_next (l : List Rep) (q : Nat) (h : q + 1 < l.length) : l.take (q + 2) = l.take (q + 1) ++ [l[q + 1]!] := by
  rw [List.take_succ_eq_append_getElem h, getElem!_pos l (q + 1) h]

/-- The reports of a list in order, each once. -/
def setL (l : List Rep) : List Rep := cpt (srt l)
theorem setL_inc (l : List Rep) : Inc (setL l) := cpt_inc (srt_le l)
theorem setL_mem (l : List Rep) (r : Rep) : r ∈ setL l ↔ r ∈ l := (cpt_mem _ r).trans (srt_mem l r)
theorem setL_of {l s : List Rep} (h : Inc s) (hm : ∀ r, r ∈ s ↔ r ∈ l) : s = setL l := inc_unique h (setL_inc l) fun r => (hm r).trans (setL_mem l r).symm
theorem setL_congr {a b : List Rep} (h : ∀ r, r ∈ a ↔ r ∈ b) : setL a = setL b := setL_of (setL_inc a) fun r => (setL_mem a r).trans (h r)
theorem setL_self {l : List Rep} (h : Inc l) : setL l = l := (setL_of h fun _ => Iff.rfl).symm

/-- Two reports of one identity. -/
def sameId (a b : Rep) : Bool := a.ob == b.ob && a.sq == b.sq
/-- No report of the list with this identity is greater. -/
def winB (l : List Rep) (r : Rep) : Bool := l.all fun q => !(sameId q r && decide (0 < cmpR q r))
theorem winB_congr {a b : List Rep} (h : ∀ r, r ∈ a ↔ r ∈ b) (r : Rep) : winB a r = winB b r := by
  rw [Bool.eq_iff_iff]
  simp only [winB, List.all_eq_true]
  exact ⟨fun k q hq => k q ((h q).2 hq), fun k q hq => k q ((h q).1 hq)⟩
/-- The reports that count. -/
def cntL (l : List Rep) : List Rep := (setL l).filter fun r => winB l r && !r.cn
theorem cntL_inc (l : List Rep) : Inc (cntL l) := (setL_inc l).filter _
theorem cntL_mem (l : List Rep) (r : Rep) : r ∈ cntL l ↔ r ∈ l ∧ winB l r = true ∧ r.cn = false := by
  simp [cntL, setL_mem]
theorem cntL_of {l s : List Rep} (h : Inc s) (hm : ∀ r, r ∈ s ↔ r ∈ l ∧ winB l r = true ∧ r.cn = false) : s = cntL l := inc_unique h (cntL_inc l) fun r => (hm r).trans (cntL_mem l r).symm
theorem cntL_congr {a b : List Rep} (h : ∀ r, r ∈ a ↔ r ∈ b) : cntL a = cntL b := cntL_of (cntL_inc a) fun r => by
  rw [cntL_mem, h r, winB_congr h r]
theorem get_mem {l : List Rep} {k : Nat} (h : k < l.length) : l[k]! ∈ l := by
  rw [getElem!_pos l k h]
  exact List.getElem_mem h
theorem mem_get {l : List Rep} {r : Rep} (h : r ∈ l) : ∃ k, k < l.length ∧ l[k]! = r := by
  obtain ⟨j, hj, e⟩ := List.getElem_of_mem h
  exact ⟨j, hj, by rw [getElem!_pos l j hj]; exact e⟩
theorem not_mem_of {l : List Rep} {r : Rep} {k : Nat} (hk : l.length ≤ k) (h : ∀ j, j < k → l[j]! ≠ r) : ¬ r ∈ l := fun hm => by
  obtain ⟨j, hj, e⟩ := mem_get hm
  exact h j (by omega) e
end Go.Proofs.Ytdjgpbanokdnhaa
