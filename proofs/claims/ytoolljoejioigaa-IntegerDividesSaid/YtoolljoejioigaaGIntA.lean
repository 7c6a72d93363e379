/-
  Plain numbers of division: a half step of a long division, with the quotient guessed from leading digits. Nothing of the program stands here.
-/
import Derived.Test.YtoolljoejioigaaGNum
import Derived.Test.YtoolljoejioigaaChecked
import Derived.WalkKit
import Derived.WalkSpells
import Derived.WalkLawsBesides
import Derived.Lib.Hide
import Derived.Deep.QuietTactic
import Derived.Deep.OwnRows
import Derived.Deep.RegionHeld3
import Derived.Deep.DrawnRows
import Derived.BigQuiet
namespace Go.Proofs.Ytoolljoejioigaa

/-- The guess lies between the quotient and two more. -/
theorem half_start {b y1 y0 u d : Nat} (hb : 2 ≤ b) (h1 : b ≤ 2 * y1) (h2 : y1 < b) (h0 : y0 < b) (hu : u < y1 * b + y0) (hd : d < b) :
    (u * b + d) / (y1 * b + y0) ≤ u / y1 ∧ u / y1 ≤ b + 1 ∧ (u * b + d) / (y1 * b + y0) < b := by
  have hp : 0 < y1 := by omega
  have hy : 0 < y1 * b + y0 := by omega
  refine ⟨?_, ?_, ?_⟩
  · rw [Nat.le_div_iff_mul_le hp]
    have hq := Nat.div_mul_le_self (u * b + d) (y1 * b + y0)
    generalize (u * b + d) / (y1 * b + y0) = q at *
    have e : q * (y1 * b + y0) = q * y1 * b + q * y0 := by rw [Nat.mul_add, Nat.mul_assoc]
    rw [e] at hq
    rcases Nat.lt_or_ge u (q * y1) with h | h
    · have : (u + 1) * b ≤ q * y1 * b := Nat.mul_le_mul_right _ h
      rw [Nat.add_mul] at this
      omega
    · exact h
  · have : u / y1 < b + 2 := by
      rw [Nat.div_lt_iff_lt_mul hp, Nat.add_mul, Nat.mul_comm b y1]
      omega
    omega
  · rw [Nat.div_lt_iff_lt_mul hy]
    have : (u + 1) * b ≤ (y1 * b + y0) * b := Nat.mul_le_mul_right _ hu
    rw [Nat.add_mul] at this
    have e : b * (y1 * b + y0) = (y1 * b + y0) * b := Nat.mul_comm _ _
    omega

/-- Where the test says that the guess is too great, it is. -/
theorem half_more {b y1 y0 u d Q R : Nat} (hb : 2 ≤ b) (h1 : b ≤ 2 * y1) (h0 : y0 < b) (hu : u < y1 * b + y0) (hd : d < b) (he : Q * y1 + R = u) (ht : b ≤ Q ∨ b * R + d < Q * y0) :
    (u * b + d) / (y1 * b + y0) < Q := by
  have hy : 0 < y1 * b + y0 := by omega
  rw [Nat.div_lt_iff_lt_mul hy]
  rcases ht with ht | ht
  · have h3 : b * (y1 * b + y0) ≤ Q * (y1 * b + y0) := Nat.mul_le_mul_right _ ht
    have h4 : (u + 1) * b ≤ (y1 * b + y0) * b := Nat.mul_le_mul_right _ hu
    rw [Nat.add_mul] at h4
    rw [Nat.mul_comm (y1 * b + y0) b] at h4
    omega
  · have e : Q * (y1 * b + y0) = Q * y1 * b + Q * y0 := by rw [Nat.mul_add, Nat.mul_assoc]
    rw [e, ← he, Nat.add_mul, Nat.mul_comm R b]
    omega

/-- Where the test says that it is not, it isn't. -/
theorem half_done {b y1 y0 u d Q R : Nat} (hy : 0 < y1 * b + y0) (he : Q * y1 + R = u) (ht : Q * y0 ≤ b * R + d) (hq : (u * b + d) / (y1 * b + y0) ≤ Q) :
    Q = (u * b + d) / (y1 * b + y0) := by
  refine Nat.le_antisymm ?_ hq
  rw [Nat.le_div_iff_mul_le hy]
  have e : Q * (y1 * b + y0) = Q * y1 * b + Q * y0 := by rw [Nat.mul_add, Nat.mul_assoc]
  rw [e, ← he, Nat.add_mul, Nat.mul_comm R b]
  omega

/-- Nor is it where the rest has become as great as the base. -/
theorem half_break {b y0 d Q R : Nat} (h0 : y0 < b) (hQ : Q ≤ b) (hR : b ≤ R) : Q * y0 ≤ b * R + d := by
  have h1 : Q * y0 ≤ b * y0 := Nat.mul_le_mul_right _ hQ
  have h2 : b * y0 ≤ b * R := Nat.mul_le_mul_left _ (by omega)
  omega

/-- Two half steps make a whole one. -/
theorem two_halves {b y u d1 d0 q1 r1 q0 r0 : Nat} (e1 : u * b + d1 = q1 * y + r1) (e0 : r1 * b + d0 = q0 * y + r0) : u * (b * b) + (d1 * b + d0) = (q1 * b + q0) * y + r0 := by
  have h1 : (u * b + d1) * b = (q1 * y + r1) * b := by rw [e1]
  rw [Nat.add_mul, Nat.add_mul, Nat.mul_assoc] at h1
  have e : (q1 * b + q0) * y = q1 * y * b + q0 * y := by rw [Nat.add_mul, Nat.mul_right_comm]
  rw [e]
  omega
end Go.Proofs.Ytoolljoejioigaa

/-
  Words for memory: a slice value whose cells are numbers by place, and what keeps that. No function of the program stands here.
-/
namespace Go.Proofs.Ytoolljoejioigaa
open Go.RowKit

/-- The slice at address A, of length n, holds the numbers f 0 .. f (n - 1) of kind K. -/
def Rd (w : World) (K : IntKind) (A : Option Addr) (n : Nat) (f : Nat → Nat) : Prop :=
  0 < n → ∃ g o, A = some ⟨g, o, none⟩ ∧ g < w.heap.size ∧ ∀ i, i < n → w.cell? ⟨g, o + i, none⟩ = some (.int K (f i : Int))

section
variable {w w' : World} {K : IntKind} {A : Option Addr} {n : Nat} {f g : Nat → Nat}

theorem Rd.nil (w : World) (K : IntKind) (A : Option Addr) (f : Nat → Nat) : Rd w K A 0 f := fun h => absurd h (by omega)

theorem Rd.below (h : Rd w K A n f) (hb : Below w.heap.size w w') : Rd w' K A n f := fun hn => by
  obtain ⟨g, o, e, hg, hc⟩ := h hn
  exact ⟨g, o, e, Nat.lt_of_lt_of_le hg hb.size, fun i hi => (hb.cell (p := ⟨g, o + i, none⟩) hg).trans (hc i hi)⟩

theorem Rd.alloc (h : Rd w K A n f) (o : Obj) : Rd (w.alloc o) K A n f := h.below ((Below.refl _ _).alloc (Nat.le_refl _) o)
theorem Rd.drew (h : Rd w K A n f) : Rd w.drew K A n f := h
theorem Rd.drewN (h : Rd w K A n f) (k : Nat) : Rd (w.drewN k) K A n f := h

theorem Rd.congr (h : Rd w K A n f) (e : ∀ i, i < n → f i = g i) : Rd w K A n g := fun hn => by
  obtain ⟨b, o, h1, hg, hc⟩ := h hn
  exact ⟨b, o, h1, hg, fun i hi => by rw [hc i hi, e i hi]⟩

theorem Rd.take (h : Rd w K A n f) {m : Nat} (hm : m ≤ n) : Rd w K A m f := fun hn => by
  obtain ⟨b, o, h1, hg, hc⟩ := h (by omega)
  exact ⟨b, o, h1, hg, fun i hi => hc i (by omega)⟩
end

/-- The cells of numbers by place, as a list. -/
def nums (K : IntKind) (f : Nat → Nat) (n : Nat) : List Value := (List.range n).map fun i => .int K (f i : Int)

theorem nums_succ (K : IntKind) (f : Nat → Nat) (n : Nat) : nums K f (n + 1) = nums K f n ++ [.int K (f n : Int)] := by
  simp [nums, List.range_succ]
theorem nums_length (K : IntKind) (f : Nat → Nat) (n : Nat) : (nums K f n).length = n := by simp [nums]
theorem nums_get (K : IntKind) (f : Nat → Nat) (n i : Nat) (h : i < n) : (nums K f n)[i]? = some (.int K (f i : Int)) := by
  simp [nums, h]
theorem nums_congr {K : IntKind} {f g : Nat → Nat} {n : Nat} (h : ∀ i, i < n → f i = g i) : nums K f n = nums K g n := by
  apply List.ext_getElem?
  intro i
  by_cases hi : i < n
  · rw [nums_get _ _ _ _ hi, nums_get _ _ _ _ hi, h i hi]
  · rw [List.getElem?_eq_none (by rw [nums_length]; omega), List.getElem?_eq_none (by rw [nums_length]; omega)]

/-- What the call owns reads by place. -/
theorem Rd.of_own {w : World} {base : Nat} {E : TypeId} {K : IntKind} {v : Value} {n : Nat} {f : Nat → Nat} (h : w.ownsRow base E 1 v n (nums K f n)) :
    ∃ A c, v = .slice A n c ∧ Rd w K A n f := by
  rcases h.2 with ⟨rfl, rfl⟩ | ⟨g, cap, cur, rfl, hb, hg, _, _, _, ht⟩
  · exact ⟨none, 0, rfl, Rd.nil _ _ _ _⟩
  · refine ⟨_, cap, rfl, fun _ => ⟨g, 0, rfl, (Array.getElem?_eq_some_iff.1 hg).1, fun i hi => ?_⟩⟩
    rw [Nat.zero_add, cell_of_row w g i cur E (0, 0) hg]
    have := nums_get K f n i hi
    rw [← ht, List.getElem?_take] at this
    split at this
    · simpa using this
    · cases this

/-- A pair of a sign and a magnitude, as a value; and the value of an integer. -/
def pair (neg : Bool) (s : ByteArray) : Value := .agg #[.bool neg, .string s]
def enc (z : Int) : Value := .agg #[.bool (decide (z < 0)), .string (mag z.natAbs)]

theorem enc_of {neg : Bool} {s : ByteArray} (h : Canon neg s) : Value.agg #[.bool neg, .string s] = enc (ival neg s) := by
  obtain ⟨h1, h2⟩ := canon_eq h
  unfold enc
  rw [← h1, ← h2]

theorem enc_form (z : Int) : ∃ b m, enc z = .agg #[.bool b, .string m] := ⟨_, _, rfl⟩

theorem enc_eq {neg : Bool} {s : ByteArray} {z : Int} (h : Canon neg s) (hz : ival neg s = z) : Value.agg #[.bool neg, .string s] = enc z := by rw [← hz]; exact enc_of h

theorem below_draws {B : Nat} {a w : World} (h : Below B a w) (n : Nat) : Below B a (w.drewN n) := ⟨h.os, h.tape, h.output, h.size, h.block⟩

/-- The slice at A, of length n, holds the digits of V in base b, and no more are needed. -/
structure Dg (w : World) (K : IntKind) (b : Nat) (A : Option Addr) (n V : Nat) : Prop where
  lt : V < b ^ n
  rd : Rd w K A n (D b V)

theorem Dg.below {w w' : World} {K : IntKind} {b : Nat} {A : Option Addr} {n V : Nat} (h : Dg w K b A n V) (hb : Below w.heap.size w w') : Dg w' K b A n V := ⟨h.lt, h.rd.below hb⟩
theorem Dg.alloc {w : World} {K : IntKind} {b : Nat} {A : Option Addr} {n V : Nat} (h : Dg w K b A n V) (o : Obj) : Dg (w.alloc o) K b A n V := ⟨h.lt, h.rd.alloc o⟩
theorem Dg.drewN {w : World} {K : IntKind} {b : Nat} {A : Option Addr} {n V : Nat} (h : Dg w K b A n V) (k : Nat) : Dg (w.drewN k) K b A n V := ⟨h.lt, h.rd⟩
theorem Dg.drew {w : World} {K : IntKind} {b : Nat} {A : Option Addr} {n V : Nat} (h : Dg w K b A n V) : Dg w.drew K b A n V := ⟨h.lt, h.rd⟩

/-- A call that hands back a slice of at most N digits of V, in memory that nobody held before. -/
def RetG (w : World) (K : IntKind) (b V N : Nat) (e : Ending) (w' : World) : Prop := ∃ A n c, n ≤ N ∧ e = .returned (.slice A n c) ∧ Dg w' K b A n V ∧ Below w.heap.size w w'

/-- A call that hands back an integer, and touches nothing that was there. -/
def RetZ (w : World) (z : Int) (e : Ending) (w' : World) : Prop := e = .returned (enc z) ∧ Below w.heap.size w w'

/-- A call that hands back a value, the world as it was. -/
def RetV (w : World) (v : Value) (e : Ending) (w' : World) : Prop := e = .returned v ∧ w = w'

/-- The string of the bytes f 0 .. f (n - 1). -/
def bytesOf (f : Nat → Nat) (n : Nat) : ByteArray := ⟨((List.range n).map fun i => UInt8.ofNat (f i)).toArray⟩

theorem bytesOf_size (f : Nat → Nat) (n : Nat) : (bytesOf f n).size = n := by simp [bytesOf, ByteArray.size]
theorem bytesOf_get (f : Nat → Nat) (n i : Nat) (h : i < (bytesOf f n).size) : (bytesOf f n)[i] = UInt8.ofNat (f i) := by
  simp [bytesOf, ByteArray.getElem_eq_getElem_data]
theorem bytesOf_dig {f : Nat → Nat} {n : Nat} (hf : ∀ i, i < n → f i < 256) (i : Nat) (h : i < n) : dig (bytesOf f n) i = f (n - 1 - i) := by
  unfold dig
  rw [dif_pos (by rw [bytesOf_size]; exact h), bytesOf_get]
  simp only [bytesOf_size, UInt8.toNat_ofNat']
  exact Nat.mod_eq_of_lt (hf _ (by omega))
theorem bytesOf_val {f : Nat → Nat} {n : Nat} (hf : ∀ i, i < n → f i < 256) : bval (bytesOf f n) = val 256 (fun i => f (n - 1 - i)) n := by
  unfold bval
  rw [bytesOf_size]
  exact val_congr fun i hi => bytesOf_dig hf i hi
theorem bytesOf_lead {f : Nat → Nat} {n : Nat} (h0 : 0 < n → f 0 ≠ 0) (hf : ∀ i, i < n → f i < 256) : Lead (bytesOf f n) := by
  intro h
  rw [bytesOf_get]
  rw [bytesOf_size] at h
  simp only [UInt8.toNat_ofNat']
  rw [Nat.mod_eq_of_lt (hf 0 h)]
  exact h0 h

/-- What a slice of bytes is as a string. -/
theorem str_of_cells (w : World) (src dst E : TypeId) (hs : Try.prog.underlying src = some (.slice E)) (he : Try.prog.underlying E = some (.int .u8)) (hd : Try.prog.underlying dst = some .string) (g o n c : Nat) (f : Nat → Nat) (hf : ∀ i, i < n → f i < 256)
    (hc : ∀ i, i < n → w.cell? ⟨g, o + i, none⟩ = some (.int .u8 (f i : Int))) : (convert src dst (.slice (some ⟨g, o, none⟩) n c)).run Try.prog w = .ok (.string (bytesOf f n)) w := by
  have h := run_convert_bytes_back (P := Try.prog) w src dst E ⟨g, o, none⟩ c ((List.range n).map fun i => UInt8.ofNat (f i)) hs he hd (fun j hj => by
    have hj' : j < n := by simpa using hj
    rw [Addr.add_lit, hc j hj']
    simp [Nat.mod_eq_of_lt (hf j hj')])
  simpa [bytesOf] using h

/-- A number with a sign. -/
def sgn (neg : Bool) (v : Nat) : Int := if neg then -(v : Int) else v


theorem intTy_info : (Try.prog.info? 3).map (fun i => (i.zero, i.size, i.bytes)) = some (some (.int .i64 0), 1, 8) := by kernel_rfl
theorem u64Ty_info : (Try.prog.info? 51).map (fun i => (i.zero, i.size, i.bytes)) = some (some (.int .u64 0), 1, 8) := by kernel_rfl
theorem byteTy_info : (Try.prog.info? 5).map (fun i => (i.zero, i.size, i.bytes)) = some (some (.int .u8 0), 1, 1) := by kernel_rfl

theorem quietV {f : FuncId} {args : Array Value} {w : World} {n : Nat} {v : Value} (h : Calls Try.prog f args (w.drewN n) (RetV (w.drewN n) v)) :
    Calls Try.prog f args (w.drewN n) fun e w'' => e = .returned v ∧ ∃ m, w'' = w.drewN m := h.mono fun _ _ ⟨he, hm⟩ => ⟨he, n, hm.symm⟩

/-- New blocks by their number. -/
theorem heap_one (w : World) (o : Obj) : (w.alloc o).heap[w.heap.size]? = some o := heap_alloc_new w o
theorem heap_two (w : World) (o o' : Obj) : ((w.alloc o).alloc o').heap[w.heap.size + 1]? = some o' := by
  have := heap_alloc_new (w.alloc o) o'
  simpa using this
theorem heap_three (w : World) (o o' o'' : Obj) : (((w.alloc o).alloc o').alloc o'').heap[w.heap.size + 2]? = some o'' := by
  have := heap_alloc_new ((w.alloc o).alloc o') o''
  simpa using this

/-- A block of two cells that is as it was made: its cells, and that they may be written. -/
theorem res2 {W w : World} {B g : Nat} {T : TypeId} {v0 v1 : Value} (h0 : W.heap[g]? = some (.cells #[v0, v1] T (0, 0))) (hb : Below B W w) (hg : g < B) :
    w.cell? ⟨g, 0, none⟩ = some v0 ∧ w.cell? ⟨g, 1, none⟩ = some v1 ∧ w.frozen? ⟨g, 0, none⟩ = false ∧ w.frozen? ⟨g, 1, none⟩ = false := by
  have h : w.heap[g]? = some (.cells #[v0, v1] T (0, 0)) := (hb.block g hg).trans h0
  refine ⟨?_, ?_, ?_, ?_⟩ <;> simp [World.cell?, World.frozen?, h]

end Go.Proofs.Ytoolljoejioigaa

/-
  The program's words: the number of at most eight bytes, and back.
-/
namespace Go.Proofs.Ytoolljoejioigaa
open Go.RowKit
attribute [local go_sem ↓] Go.wp_at_zero Go.wp_at_succ

theorem RetZ.form {w : World} {z : Int} {e : Ending} {w' : World} (h : RetZ w z e w') : ∃ b m, Hid (enc z = .agg #[.bool b, .string m]) ∧ e = .returned (.agg #[.bool b, .string m]) ∧ Below w.heap.size w w' := ⟨_, _, rfl, h.1, h.2⟩

theorem heap_fst (w : World) (o o' : Obj) : ((w.alloc o).alloc o').heap[w.heap.size]? = some o := (Below.heap_alloc _ _ _ (by simp)).trans (heap_one w o)

theorem nat_bits (a : Nat) (ha : a < 18446744073709551616) : (BitVec.ofInt 64 (a : Int)).toNat = a := by
  rw [BitVec.ofInt_natCast, BitVec.toNat_ofNat]; exact Nat.mod_eq_of_lt (by omega)

theorem bits_or_u64 (a b : Nat) (ha : a < 18446744073709551616) (hb : b < 18446744073709551616) : bits .or .u64 (a : Int) (b : Int) = ((a ||| b : Nat) : Int) := by
  have hx : a ||| b < 2 ^ 64 := Nat.or_lt_two_pow (by omega) (by omega)
  show IntKind.u64.wrap ((BitVec.ofInt 64 (a : Int) ||| BitVec.ofInt 64 (b : Int)).toNat : Int) = _
  rw [BitVec.toNat_or, nat_bits a ha, nat_bits b hb, IntKind.wrap_u64]
  omega

theorem or_byte (v c : Nat) (hv : v < 72057594037927936) (hc : c < 256) : bits .or .u64 (IntKind.u64.wrap ((v : Int) * 256)) (IntKind.u64.wrap (c : Int)) = ((v * 256 + c : Nat) : Int) := by
  have e1 : IntKind.u64.wrap ((v : Int) * 256) = ((2 ^ 8 * v : Nat) : Int) := by rw [IntKind.wrap_u64]; omega
  have e2 : IntKind.u64.wrap (c : Int) = (c : Int) := by rw [IntKind.wrap_u64]; omega
  rw [e1, e2, bits_or_u64 _ _ (by omega) (by omega), ← Nat.two_pow_add_eq_or_of_lt (by omega)]
  omega

/-- The value of the first k bytes. -/
def pre (s : ByteArray) (k : Nat) : Nat := bval s / 256 ^ (s.size - k)

theorem pre_zero (s : ByteArray) : pre s 0 = 0 := by
  unfold pre
  rw [Nat.sub_zero]
  exact Nat.div_eq_of_lt (bval_lt s)
theorem pre_all (s : ByteArray) : pre s s.size = bval s := by simp [pre]
theorem pre_lt (s : ByteArray) (k : Nat) (hk : k ≤ s.size) : pre s k < 256 ^ k := by
  unfold pre
  apply Nat.div_lt_of_lt_mul
  rw [← Nat.pow_add, Nat.sub_add_cancel hk]
  exact bval_lt s
theorem pre_succ (s : ByteArray) (k : Nat) (hk : k < s.size) : pre s (k + 1) = pre s k * 256 + (s[k]).toNat := by
  have h := div_D 256 (bval s) (s.size - (k + 1))
  rw [show s.size - (k + 1) + 1 = s.size - k by omega, ← dig_eq] at h
  have hd : dig s (s.size - (k + 1)) = (s[k]).toNat := by
    unfold dig
    rw [dif_pos (by omega)]
    congr 2
    omega
  rw [hd] at h
  unfold pre
  omega

theorem pow256_7 {k : Nat} (h : k ≤ 7) : (256 : Nat) ^ k ≤ 72057594037927936 := Nat.pow_le_pow_right (n := 256) (by omega) h

set_option maxHeartbeats 1000000 in
set_option maxRecDepth 100000 in
theorem word_any (s : ByteArray) (hs : s.size ≤ 8) (w : World) :
    Calls Try.prog 43 #[.string s] w (RetV w (.int .u64 (bval s : Nat))) := by
  go_enter Try.func43, Try.ntmps43
  go_wp2
  go_loop [3, 7] (fun v i => ∃ k : Nat, k ≤ s.size ∧ i = .int .i64 k ∧ v = .int .u64 (pre s k : Nat)) (fun _ i => s.size - (intOf i).toNat)
  case atStart => exact ⟨0, by omega, rfl, by rw [pre_zero]; rfl⟩
  case round =>
    obtain ⟨k, hk, rfl, rfl⟩ := hrel
    by_cases hlt : k < s.size
    · go_wp2
      go_round
      case rel => exact ⟨k + 1, by omega, by go_num, by rw [or_byte _ _ (Nat.lt_of_lt_of_le (pre_lt s k hk) (pow256_7 (by omega))) (UInt8.toNat_lt _), pre_succ s k hlt]⟩
      case measure => simp [intOf]; omega
    · obtain rfl : k = s.size := by omega
      go_wp2
      go_ret
      exact ⟨by rw [pre_all]; rfl, rfl⟩

/-- The words of two integers, if both are short. -/
def RetW (W : World) (X Y : Nat) (ok : Bool) (e : Ending) (w' : World) : Prop := e = .returned (.tuple #[.int .u64 (X : Int), .int .u64 (Y : Int), .bool ok]) ∧ Below W.heap.size W w'

set_option maxHeartbeats 1000000 in
set_option maxRecDepth 100000 in
theorem words_yes (na nb : Bool) (a b : ByteArray) (ha : a.size ≤ 8) (hb : b.size ≤ 8) (w : World) :
    Calls Try.prog 52 #[.agg #[.bool na, .string a], .agg #[.bool nb, .string b]] w (RetW w (bval a) (bval b) true) := by
  go_enter Try.func52, Try.ntmps52
  go_wp2
  go_quiet ((go_at_call 43; exact quietV (word_any _ (by assumption) _)))
  go_wp2
  go_ret3
  exact ⟨rfl, below_draws (((Below.refl _ _).alloc (Nat.le_refl _) _).alloc (by simp) _) _⟩

set_option maxHeartbeats 1000000 in
set_option maxRecDepth 100000 in
theorem words_no (na nb : Bool) (a b : ByteArray) (h : 8 < a.size ∨ 8 < b.size) (w : World) :
    Calls Try.prog 52 #[.agg #[.bool na, .string a], .agg #[.bool nb, .string b]] w (RetW w 0 0 false) := by
  by_cases h1 : 8 < a.size
  all_goals
    go_enter Try.func52, Try.ntmps52
    go_wp2
    go_ret3
    exact ⟨rfl, ((Below.refl _ _).alloc (Nat.le_refl _) _).alloc (by simp) _⟩
end Go.Proofs.Ytoolljoejioigaa
