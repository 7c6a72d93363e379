import Derived.Test.YtahehlajpaoiiaaGreatDoorGNum
import Derived.Test.YtahehlajpaoiiaaGreatDoorChecked
import Derived.WalkKit
import Derived.WalkSpells
import Derived.WalkLawsBesides
import Derived.Lib.Hide
import Derived.Deep.QuietTactic
import Derived.Deep.OwnRows

/-
  Words for memory: a slice value whose cells are numbers by place, and what keeps that. No function of the program stands here.
-/
namespace Go.Proofs.YtahehlajpaoiiaaGreatDoor
open Go.RowKit

/-- The slice at address A, of length n, holds the numbers f 0 .. f (n - 1) of kind K. -/
def Rd (w : World) (K : IntKind) (A : Option Addr) (n : Nat) (f : Nat → Nat) : Prop :=
  0 < n → ∃ g o, A = some ⟨g, o, none⟩ ∧ g < w.heap.size ∧ ∀ i, i < n → w.cell? ⟨g, o + i, none⟩ = some (.int K (f i : Int))

section
variable {w w' : World} {K : IntKind} {A : Option Addr} {n : Nat} {f g : Nat → Nat}

theorem Rd.nil (w : World) (K : IntKind) (A : Option Addr) (f : Nat → Nat) : Rd w K A 0 f := fun h => absurd h (by omega)

theorem Rd.below (h : Rd w K A n f) (hb : Below w.heap.size w w') : Rd w' K A n f := fun hn => by
  obtain ⟨g, o, e, hg, hc⟩ := h hn
  exact ⟨g, o, e, Nat.lt_of_lt_of_le hg hb.size, fun i hi => (hb.cell (p := ⟨g, o + i, none⟩) hg).trans (hc i hi)⟩

theorem Rd.alloc (h : Rd w K A n f) (o : Obj) : Rd (w.alloc o) K A n f := h.below ((Below.refl _ _).alloc (Nat.le_refl _) o)
theorem Rd.drew (h : Rd w K A n f) : Rd w.drew K A n f := h
theorem Rd.drewN (h : Rd w K A n f) (k : Nat) : Rd (w.drewN k) K A n f := h

theorem Rd.congr (h : Rd w K A n f) (e : ∀ i, i < n → f i = g i) : Rd w K A n g := fun hn => by
  obtain ⟨b, o, h1, hg, hc⟩ := h hn
  exact ⟨b, o, h1, hg, fun i hi => by rw [hc i hi, e i hi]⟩

theorem Rd.take (h : Rd w K A n f) {m : Nat} (hm : m ≤ n) : Rd w K A m f := fun hn => by
  obtain ⟨b, o, h1, hg, hc⟩ := h (by omega)
  exact ⟨b, o, h1, hg, fun i hi => hc i (by omega)⟩
end

/-- The cells of numbers by place, as a list. -/
def nums (K : IntKind) (f : Nat → Nat) (n : Nat) : List Value := (List.range n).map fun i => .int K (f i : Int)

theorem nums_succ (K : IntKind) (f : Nat → Nat) (n : Nat) : nums K f (n + 1) = nums K f n ++ [.int K (f n : Int)] := by
  simp [nums, List.range_succ]
theorem nums_length (K : IntKind) (f : Nat → Nat) (n : Nat) : (nums K f n).length = n := by simp [nums]
theorem nums_get (K : IntKind) (f : Nat → Nat) (n i : Nat) (h : i < n) : (nums K f n)[i]? = some (.int K (f i : Int)) := by
  simp [nums, h]
theorem nums_congr {K : IntKind} {f g : Nat → Nat} {n : Nat} (h : ∀ i, i < n → f i = g i) : nums K f n = nums K g n := by
  apply List.ext_getElem?
  intro i
  by_cases hi : i < n
  · rw [nums_get _ _ _ _ hi, nums_get _ _ _ _ hi, h i hi]
  · rw [List.getElem?_eq_none (by rw [nums_length]; omega), List.getElem?_eq_none (by rw [nums_length]; omega)]

/-- What the call owns reads by place. -/
theorem Rd.of_own {w : World} {base : Nat} {E : TypeId} {K : IntKind} {v : Value} {n : Nat} {f : Nat → Nat} (h : w.ownsRow base E 1 v n (nums K f n)) :
    ∃ A c, v = .slice A n c ∧ Rd w K A n f := by
  rcases h.2 with ⟨rfl, rfl⟩ | ⟨g, cap, cur, rfl, hb, hg, _, _, _, ht⟩
  · exact ⟨none, 0, rfl, Rd.nil _ _ _ _⟩
  · refine ⟨_, cap, rfl, fun _ => ⟨g, 0, rfl, (Array.getElem?_eq_some_iff.1 hg).1, fun i hi => ?_⟩⟩
    rw [Nat.zero_add, cell_of_row w g i cur E (0, 0) hg]
    have := nums_get K f n i hi
    rw [← ht, List.getElem?_take] at this
    split at this
    · simpa using this
    · cases this

/-- A pair of a sign and a magnitude, as a value; and the value of an integer. -/
def pair (neg : Bool) (s : ByteArray) : Value := .agg #[.bool neg, .string s]
def enc (z : Int) : Value := .agg #[.bool (decide (z < 0)), .string (mag z.natAbs)]

theorem enc_of {neg : Bool} {s : ByteArray} (h : Canon neg s) : Value.agg #[.bool neg, .string s] = enc (ival neg s) := by
  obtain ⟨h1, h2⟩ := canon_eq h
  unfold enc
  rw [← h1, ← h2]

theorem enc_form (z : Int) : ∃ b m, enc z = .agg #[.bool b, .string m] := ⟨_, _, rfl⟩

theorem enc_eq {neg : Bool} {s : ByteArray} {z : Int} (h : Canon neg s) (hz : ival neg s = z) : Value.agg #[.bool neg, .string s] = enc z := by rw [← hz]; exact enc_of h

theorem below_draws {B : Nat} {a w : World} (h : Below B a w) (n : Nat) : Below B a (w.drewN n) := ⟨h.os, h.tape, h.output, h.size, h.block⟩

/-- The slice at A, of length n, holds the digits of V in base b, and no more are needed. -/
structure Dg (w : World) (K : IntKind) (b : Nat) (A : Option Addr) (n V : Nat) : Prop where
  lt : V < b ^ n
  rd : Rd w K A n (D b V)

theorem Dg.below {w w' : World} {K : IntKind} {b : Nat} {A : Option Addr} {n V : Nat} (h : Dg w K b A n V) (hb : Below w.heap.size w w') : Dg w' K b A n V := ⟨h.lt, h.rd.below hb⟩
theorem Dg.alloc {w : World} {K : IntKind} {b : Nat} {A : Option Addr} {n V : Nat} (h : Dg w K b A n V) (o : Obj) : Dg (w.alloc o) K b A n V := ⟨h.lt, h.rd.alloc o⟩
theorem Dg.drewN {w : World} {K : IntKind} {b : Nat} {A : Option Addr} {n V : Nat} (h : Dg w K b A n V) (k : Nat) : Dg (w.drewN k) K b A n V := ⟨h.lt, h.rd⟩
theorem Dg.drew {w : World} {K : IntKind} {b : Nat} {A : Option Addr} {n V : Nat} (h : Dg w K b A n V) : Dg w.drew K b A n V := ⟨h.lt, h.rd⟩

/-- A call that hands back a slice of at most N digits of V, in memory that nobody held before. -/
def RetG (w : World) (K : IntKind) (b V N : Nat) (e : Ending) (w' : World) : Prop := ∃ A n c, n ≤ N ∧ e = .returned (.slice A n c) ∧ Dg w' K b A n V ∧ Below w.heap.size w w'

/-- A call that hands back an integer, and touches nothing that was there. -/
def RetZ (w : World) (z : Int) (e : Ending) (w' : World) : Prop := e = .returned (enc z) ∧ Below w.heap.size w w'

/-- A call that hands back a value, the world as it was. -/
def RetV (w : World) (v : Value) (e : Ending) (w' : World) : Prop := e = .returned v ∧ w = w'

/-- The string of the bytes f 0 .. f (n - 1). -/
def bytesOf (f : Nat → Nat) (n : Nat) : ByteArray := ⟨((List.range n).map fun i => UInt8.ofNat (f i)).toArray⟩

theorem bytesOf_size (f : Nat → Nat) (n : Nat) : (bytesOf f n).size = n := by simp [bytesOf, ByteArray.size]
theorem bytesOf_get (f : Nat → Nat) (n i : Nat) (h : i < (bytesOf f n).size) : (bytesOf f n)[i] = UInt8.ofNat (f i) := by
  simp [bytesOf, ByteArray.getElem_eq_getElem_data]
theorem bytesOf_dig {f : Nat → Nat} {n : Nat} (hf : ∀ i, i < n → f i < 256) (i : Nat) (h : i < n) : dig (bytesOf f n) i = f (n - 1 - i) := by
  unfold dig
  rw [dif_pos (by rw [bytesOf_size]; exact h), bytesOf_get]
  simp only [bytesOf_size, UInt8.toNat_ofNat']
  exact Nat.mod_eq_of_lt (hf _ (by omega))
theorem bytesOf_val {f : Nat → Nat} {n : Nat} (hf : ∀ i, i < n → f i < 256) : bval (bytesOf f n) = val 256 (fun i => f (n - 1 - i)) n := by
  unfold bval
  rw [bytesOf_size]
  exact val_congr fun i hi => bytesOf_dig hf i hi
theorem bytesOf_lead {f : Nat → Nat} {n : Nat} (h0 : 0 < n → f 0 ≠ 0) (hf : ∀ i, i < n → f i < 256) : Lead (bytesOf f n) := by
  intro h
  rw [bytesOf_get]
  rw [bytesOf_size] at h
  simp only [UInt8.toNat_ofNat']
  rw [Nat.mod_eq_of_lt (hf 0 h)]
  exact h0 h

/-- What a slice of bytes is as a string. -/
theorem str_of_cells (w : World) (src dst E : TypeId) (hs : Tryz.prog.underlying src = some (.slice E)) (he : Tryz.prog.underlying E = some (.int .u8)) (hd : Tryz.prog.underlying dst = some .string) (g o n c : Nat) (f : Nat → Nat) (hf : ∀ i, i < n → f i < 256)
    (hc : ∀ i, i < n → w.cell? ⟨g, o + i, none⟩ = some (.int .u8 (f i : Int))) : (convert src dst (.slice (some ⟨g, o, none⟩) n c)).run Tryz.prog w = .ok (.string (bytesOf f n)) w := by
  have h := run_convert_bytes_back (P := Tryz.prog) w src dst E ⟨g, o, none⟩ c ((List.range n).map fun i => UInt8.ofNat (f i)) hs he hd (fun j hj => by
    have hj' : j < n := by simpa using hj
    rw [Addr.add_lit, hc j hj']
    simp [Nat.mod_eq_of_lt (hf j hj')])
  simpa [bytesOf] using h

/-- A number with a sign. -/
def sgn (neg : Bool) (v : Nat) : Int := if neg then -(v : Int) else v


theorem intTy_info : (Tryz.prog.info? 3).map (fun i => (i.zero, i.size, i.bytes)) = some (some (.int .i64 0), 1, 8) := by kernel_rfl
theorem u64Ty_info : (Tryz.prog.info? 106).map (fun i => (i.zero, i.size, i.bytes)) = some (some (.int .u64 0), 1, 8) := by kernel_rfl
theorem byteTy_info : (Tryz.prog.info? 5).map (fun i => (i.zero, i.size, i.bytes)) = some (some (.int .u8 0), 1, 1) := by kernel_rfl

theorem quietV {f : FuncId} {args : Array Value} {w : World} {n : Nat} {v : Value} (h : Calls Tryz.prog f args (w.drewN n) (RetV (w.drewN n) v)) :
    Calls Tryz.prog f args (w.drewN n) fun e w'' => e = .returned v ∧ ∃ m, w'' = w.drewN m := h.mono fun _ _ ⟨he, hm⟩ => ⟨he, n, hm.symm⟩

/-- New blocks by their number. -/
theorem heap_one (w : World) (o : Obj) : (w.alloc o).heap[w.heap.size]? = some o := heap_alloc_new w o
theorem heap_two (w : World) (o o' : Obj) : ((w.alloc o).alloc o').heap[w.heap.size + 1]? = some o' := by
  have := heap_alloc_new (w.alloc o) o'
  simpa using this
theorem heap_three (w : World) (o o' o'' : Obj) : (((w.alloc o).alloc o').alloc o'').heap[w.heap.size + 2]? = some o'' := by
  have := heap_alloc_new ((w.alloc o).alloc o') o''
  simpa using this

/-- A block of two cells that is as it was made: its cells, and that they may be written. -/
theorem res2 {W w : World} {B g : Nat} {T : TypeId} {v0 v1 : Value} (h0 : W.heap[g]? = some (.cells #[v0, v1] T (0, 0))) (hb : Below B W w) (hg : g < B) :
    w.cell? ⟨g, 0, none⟩ = some v0 ∧ w.cell? ⟨g, 1, none⟩ = some v1 ∧ w.frozen? ⟨g, 0, none⟩ = false ∧ w.frozen? ⟨g, 1, none⟩ = false := by
  have h : w.heap[g]? = some (.cells #[v0, v1] T (0, 0)) := (hb.block g hg).trans h0
  refine ⟨?_, ?_, ?_, ?_⟩ <;> simp [World.cell?, World.frozen?, h]

end Go.Proofs.YtahehlajpaoiiaaGreatDoor


/-
  The reference's digits of a magnitude.
-/
namespace Go.Proofs.YtahehlajpaoiiaaGreatDoor
open Go.RowKit

theorem own_mono {w : World} {base base' : Nat} {e : TypeId} {size : Nat} {v : Value} {n : Nat} {xs : List Value} (h : w.ownsRow base e size v n xs) (hb : base' ≤ base) : w.ownsRow base' e size v n xs := by
  refine ⟨h.1, ?_⟩
  rcases h.2 with h2 | ⟨g, cap, cur, hv, hg, r⟩
  · exact Or.inl h2
  · exact Or.inr ⟨g, cap, cur, hv, by omega, r⟩

theorem number_value {neg : Bool} {f : Nat → Nat} {k n : Nat} (hf : ∀ i, i < n → f i < 256) (hk : k ≤ n) (hz : ∀ i, k ≤ i → i < n → f i = 0) (ht : 0 < k → f (k - 1) ≠ 0) :
    Value.agg #[.bool (neg && decide ((0 : Int) < k)), .string (bytesOf (fun j => f (k - 1 - j)) k)] = enc (sgn neg (val 256 f n)) := by
  have hv : bval (bytesOf (fun j => f (k - 1 - j)) k) = val 256 f n := by
    rw [bytesOf_val (fun i hi => hf _ (by omega)), val_zeros hk hz]
    exact val_congr fun i hi => by rw [show k - 1 - (k - 1 - i) = i by omega]
  refine enc_eq ⟨bytesOf_lead (fun h => by simpa using ht h) (fun i hi => hf _ (by omega)), fun h => ?_⟩ ?_
  · rw [bytesOf_size] at h; simp [h]
  · unfold ival sgn
    rw [hv]
    by_cases h0 : 0 < k
    · simp [h0]
    · have : k = 0 := by omega
      subst this
      rw [val_zeros (Nat.zero_le n) hz]
      simp [val]

/-- Where the digits end that count. -/
theorem top_of (f : Nat → Nat) (n : Nat) : ∃ k, k ≤ n ∧ (∀ i, k ≤ i → i < n → f i = 0) ∧ (0 < k → f (k - 1) ≠ 0) := by
  induction n with
  | zero => exact ⟨0, Nat.le_refl _, fun i h1 h2 => by omega, fun h => by omega⟩
  | succ n ih =>
    by_cases e : f n = 0
    · obtain ⟨k, h1, h2, h3⟩ := ih
      refine ⟨k, by omega, fun i h4 h5 => ?_, h3⟩
      by_cases ei : i = n
      · rw [ei, e]
      · exact h2 i h4 (by omega)
    · exact ⟨n + 1, Nat.le_refl _, fun i h1 h2 => by omega, fun _ => e⟩

end Go.Proofs.YtahehlajpaoiiaaGreatDoor


/-
  Plain numbers: the simplest fraction of an interval of numbers that are not negative, as it is found by whole parts. Nothing of the program stands here.
-/
namespace Go.Proofs.YtahehlajpaoiiaaGreatDoor

/-- The fraction p / q lies above a / b (o: the end is left out), and below c / d (d = 0: there is no end). -/
def Abv (a b : Nat) (o : Bool) (p q : Nat) : Prop := a * q < p * b ∨ (a * q = p * b ∧ o = false)
def Blw (c d : Nat) (o : Bool) (p q : Nat) : Prop := p * d < c * q ∨ (p * d = c * q ∧ o = false)
def Inn (a b : Nat) (oa : Bool) (c d : Nat) (oc : Bool) (p q : Nat) : Prop := 0 < q ∧ Abv a b oa p q ∧ Blw c d oc p q

/-- The least integer above the lower end. -/
def leastOf (a b : Nat) (o : Bool) : Nat := if o = true ∨ 0 < a % b then a / b + 1 else a / b

theorem least_above {a b : Nat} (hb : 0 < b) (o : Bool) : Abv a b o (leastOf a b o) 1 := by
  unfold Abv leastOf
  have h := Nat.div_add_mod a b
  have h2 := Nat.mod_lt a hb
  split
  · left
    rw [Nat.add_mul, Nat.mul_comm (a / b) b]
    omega
  · rename_i hn
    have h3 : a % b = 0 := by omega
    have h4 : o = false := by cases o <;> simp_all
    right
    rw [Nat.mul_comm (a / b) b]
    exact ⟨by omega, h4⟩

/-- What lies above the lower end has a numerator that is not less than that of the least integer. -/
theorem least_num {a b : Nat} (hb : 0 < b) {o : Bool} {p q : Nat} (hq : 0 < q) (h : Abv a b o p q) : leastOf a b o ≤ p := by
  unfold leastOf
  have e := Nat.div_add_mod a b
  have h2 := Nat.mod_lt a hb
  have hge : a / b * q ≤ p := by
    have h3 : a * q ≤ p * b := by rcases h with h | h <;> omega
    have h4 : b * (a / b) * q ≤ p * b := Nat.le_trans (Nat.mul_le_mul_right q (by omega)) h3
    have h5 : a / b * q * b ≤ p * b := by rw [Nat.mul_right_comm, Nat.mul_comm (a / b) b]; exact h4
    exact Nat.le_of_mul_le_mul_right h5 hb
  have hq2 : a / b ≤ a / b * q := Nat.le_mul_of_pos_right _ hq
  split
  · rename_i hc
    rcases Nat.lt_or_ge (a / b) p with h6 | h6
    · omega
    · exfalso
      have h7 : p = a / b * q := by omega
      have h8 : p * b = b * (a / b) * q := by rw [h7, Nat.mul_right_comm, Nat.mul_comm (a / b) b]
      have h9 : a * q = b * (a / b) * q + a % b * q := by rw [← Nat.add_mul, e]
      rcases h with h | ⟨h, ho⟩
      · omega
      · have h10 : a % b * q = 0 := by omega
        rcases hc with hc | hc
        · rw [hc] at ho; cases ho
        · have := Nat.mul_pos hc hq
          omega
  · omega

/-- Where no integer lies between, what is above the whole part lies between, too, turned over. -/
theorem inn_turn {a b : Nat} (hb : 0 < b) {oa : Bool} {c d : Nat} {oc : Bool} {p q : Nat} (h : Inn a b oa c d oc p q) (hn : ¬ Blw c d oc (leastOf a b oa) 1) :
    a / b * q < p ∧ a / b * d < c ∧ Inn d (c - a / b * d) oc b (a % b) oa q (p - a / b * q) ∧ p < (a / b + 1) * q := by
  obtain ⟨hq, hA, hB⟩ := h
  have e := Nat.div_add_mod a b
  have h2 := Nat.mod_lt a hb
  have hfl : b * (a / b) * q = a / b * q * b := by rw [Nat.mul_right_comm (a / b) q b, Nat.mul_comm (a / b) b]
  have haq : a * q = a / b * q * b + a % b * q := by rw [← hfl, ← Nat.add_mul, e]
  have hn1 : c ≤ leastOf a b oa * d := by
    unfold Blw at hn
    rcases Nat.lt_or_ge (leastOf a b oa * d) c with h3 | h3
    · exact absurd (.inl (by omega)) hn
    · exact h3
  -- the fraction lies strictly above the whole part
  have hlow : a / b * q < p := by
    have hge : a / b * q ≤ p := by
      have h3 : a * q ≤ p * b := by rcases hA with h | h <;> omega
      exact Nat.le_of_mul_le_mul_right (show a / b * q * b ≤ p * b by omega) hb
    rcases Nat.lt_or_ge (a / b * q) p with h3 | h3
    · exact h3
    · exfalso
      have h4 : p = a / b * q := by omega
      have h5 : a % b * q = 0 ∧ oa = false := by
        rcases hA with h | ⟨h, ho⟩
        · rw [h4] at h; omega
        · rw [h4] at h; exact ⟨by omega, ho⟩
      have h6 : a % b = 0 := by
        rcases Nat.eq_zero_or_pos (a % b) with h | h
        · exact h
        · have := Nat.mul_pos h hq; omega
      have h7 : leastOf a b oa = a / b := by unfold leastOf; rw [if_neg (by simp [h5.2, h6])]
      rw [h7] at hn hn1
      apply hn
      unfold Blw
      have h8 : a / b * q * d ≤ c * q := by rw [h4] at hB; rcases hB with h | h <;> omega
      have h9 : a / b * d ≤ c := by
        apply Nat.le_of_mul_le_mul_right _ hq
        rw [Nat.mul_right_comm]; exact h8
      have h10 : a / b * d = c := by omega
      rcases hB with h | ⟨h, ho⟩
      · rw [h4, Nat.mul_right_comm, h10] at h; omega
      · exact .inr ⟨by omega, ho⟩
  have hleast : leastOf a b oa ≤ a / b + 1 := by unfold leastOf; split <;> omega
  have hcd : a / b * d < c := by
    have h3 : p * d ≤ c * q := by rcases hB with h | h <;> omega
    have h4 : a / b * q * d ≤ p * d := Nat.mul_le_mul_right d (by omega)
    rcases Nat.eq_zero_or_pos d with hd | hd
    · subst hd
      rcases Nat.eq_zero_or_pos c with hc | hc
      · subst hc
        exfalso
        apply hn
        rcases hB with h | ⟨_, ho⟩
        · omega
        · exact .inr ⟨by omega, ho⟩
      · omega
    · have h5 : a / b * q * d < p * d := (Nat.mul_lt_mul_right hd).2 hlow
      apply Nat.lt_of_mul_lt_mul_right (a := q)
      rw [Nat.mul_right_comm]; omega
  have hhi : p < (a / b + 1) * q := by
    rcases Nat.lt_or_ge p ((a / b + 1) * q) with h3 | h3
    · exact h3
    · exfalso
      apply hn
      have h4 : leastOf a b oa * q ≤ p := Nat.le_trans (Nat.mul_le_mul_right q hleast) h3
      have h5 : leastOf a b oa * d * q ≤ p * d := by rw [Nat.mul_right_comm]; exact Nat.mul_le_mul_right d h4
      unfold Blw
      rcases Nat.lt_or_ge (leastOf a b oa * d) (c * 1) with h6 | h6
      · exact .inl h6
      · have h7 : c * q ≤ leastOf a b oa * d * q := Nat.mul_le_mul_right q (by omega)
        rcases hB with h | ⟨h, ho⟩
        · omega
        · refine .inr ⟨?_, ho⟩
          have h8 : leastOf a b oa * d * q = c * q := by omega
          have h9 := Nat.eq_of_mul_eq_mul_right hq h8
          omega
  refine ⟨hlow, hcd, ⟨by omega, ?_, ?_⟩, hhi⟩
  · unfold Abv
    have h3 : q * (c - a / b * d) = c * q - a / b * d * q := by rw [Nat.mul_sub, Nat.mul_comm q c, Nat.mul_comm q (a / b * d)]
    have h4 : d * (p - a / b * q) = p * d - a / b * d * q := by rw [Nat.mul_sub, Nat.mul_comm d p, Nat.mul_left_comm, ← Nat.mul_assoc, Nat.mul_right_comm]
    have h5 : a / b * d * q ≤ p * d := by rw [Nat.mul_right_comm]; exact Nat.mul_le_mul_right d (by omega)
    have h6 : a / b * d * q ≤ c * q := Nat.mul_le_mul_right q (by omega)
    rw [h3, h4]
    rcases hB with h | ⟨h, ho⟩
    · left; omega
    · right; exact ⟨by omega, ho⟩
  · unfold Blw
    have h3 : b * (p - a / b * q) = p * b - a / b * q * b := by rw [Nat.mul_sub, Nat.mul_comm b p, Nat.mul_comm b]
    have h4 : a / b * q * b ≤ p * b := Nat.mul_le_mul_right b (by omega)
    rw [h3, Nat.mul_comm q (a % b)]
    rcases hA with h | ⟨h, ho⟩
    · left; omega
    · right; exact ⟨by omega, ho⟩

/-- The simplest fraction: it lies between, in lowest terms, and none between has a lesser numerator or a lesser denominator. -/
structure Simp (a b : Nat) (oa : Bool) (c d : Nat) (oc : Bool) (n m : Nat) : Prop where
  inn : Inn a b oa c d oc n m
  cop : Nat.gcd n m = 1
  min : ∀ p q, Inn a b oa c d oc p q → n ≤ p ∧ m ≤ q

theorem simp_int {a b : Nat} (hb : 0 < b) {oa : Bool} {c d : Nat} {oc : Bool} (h : Blw c d oc (leastOf a b oa) 1) : Simp a b oa c d oc (leastOf a b oa) 1 :=
  ⟨⟨by omega, least_above hb oa, h⟩, Nat.gcd_one_right _, fun _ _ hp => ⟨least_num hb hp.1 hp.2.1, hp.1⟩⟩

theorem simp_turn {a b : Nat} (hb : 0 < b) {oa : Bool} {c d : Nat} {oc : Bool} {p q n m : Nat} (hi : Inn a b oa c d oc p q) (hn : ¬ Blw c d oc (leastOf a b oa) 1) (h : Simp d (c - a / b * d) oc b (a % b) oa n m) : Simp a b oa c d oc (a / b * n + m) n := by
  obtain ⟨_, hcd, _, _⟩ := inn_turn hb hi hn
  obtain ⟨⟨hm, hA, hB⟩, hg, hmin⟩ := h
  have e := Nat.div_add_mod a b
  have hn0 : 0 < n := by
    rcases Nat.eq_zero_or_pos n with h0 | h0
    · subst h0
      exfalso
      unfold Abv at hA
      have hd : d * m = 0 := by rcases hA with h | h <;> omega
      have hd0 : d = 0 := by
        rcases Nat.eq_zero_or_pos d with h | h
        · exact h
        · have := Nat.mul_pos h hm; omega
      subst hd0
      apply hn
      unfold Blw
      left
      omega
    · exact h0
  have h1 : d * m = m * d := Nat.mul_comm _ _
  have h2 : n * (c - a / b * d) = c * n - a / b * n * d := by rw [Nat.mul_sub, Nat.mul_comm n c, Nat.mul_comm n, Nat.mul_right_comm]
  have h3 : a / b * n * d ≤ c * n := by rw [Nat.mul_right_comm]; exact Nat.mul_le_mul_right n (by omega)
  refine ⟨⟨hn0, ?_, ?_⟩, ?_, fun p q hp => ?_⟩
  · unfold Abv
    unfold Blw at hB
    have h4 : a * n = a / b * n * b + n * (a % b) := by
      rw [Nat.mul_right_comm (a / b) n b, Nat.mul_comm (a / b) b, Nat.mul_comm n (a % b), ← Nat.add_mul, e]
    rw [h4, Nat.add_mul, Nat.mul_comm m b]
    rcases hB with h | ⟨h, ho⟩
    · left; omega
    · right; exact ⟨by omega, ho⟩
  · unfold Blw
    unfold Abv at hA
    rw [Nat.add_mul]
    rcases hA with h | ⟨h, ho⟩
    · left; omega
    · right; exact ⟨by omega, ho⟩
  · rw [Nat.gcd_comm, Nat.gcd_mul_right_add_right]
    exact hg
  · obtain ⟨hl, _, hi2, _⟩ := inn_turn hb hp hn
    obtain ⟨k1, k2⟩ := hmin _ _ hi2
    refine ⟨?_, k1⟩
    have := Nat.mul_le_mul_left (a / b) k1
    omega

/-- How long it takes. -/
def simpFuel (a b c d : Nat) : Nat := 2 * (a + b + c + d) + (if a < b then 1 else 0)

theorem simp_less {a b : Nat} (hb : 0 < b) {oa : Bool} {c d : Nat} {oc : Bool} {p q : Nat} (hi : Inn a b oa c d oc p q) (hn : ¬ Blw c d oc (leastOf a b oa) 1) : simpFuel d (c - a / b * d) b (a % b) < simpFuel a b c d := by
  obtain ⟨_, hcd, _, _⟩ := inn_turn hb hi hn
  have e := Nat.div_add_mod a b
  unfold simpFuel
  by_cases hab : a < b
  · rw [if_pos hab, Nat.div_eq_of_lt hab, Nat.mod_eq_of_lt hab, Nat.zero_mul]
    have h1 : c ≤ d := by
      have h2 : leastOf a b oa ≤ 1 := by unfold leastOf; rw [Nat.div_eq_of_lt hab]; split <;> omega
      rcases Nat.lt_or_ge d c with h3 | h3
      · exfalso
        apply hn
        left
        have := Nat.mul_le_mul_right d h2
        omega
      · exact h3
    rw [if_neg (by omega)]
    omega
  · rw [if_neg hab]
    have h1 : 0 < a / b := Nat.div_pos (by omega) hb
    have h2 : b ≤ b * (a / b) := Nat.le_mul_of_pos_right _ h1
    split <;> omega
end Go.Proofs.YtahehlajpaoiiaaGreatDoor
