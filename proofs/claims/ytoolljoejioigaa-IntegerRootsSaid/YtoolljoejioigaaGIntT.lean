/-
  The order of strings of bytes; the program's comparison, sign and number of bits of integers.
-/
import Derived.Test.YtoolljoejioigaaGIntS
import Derived.Test.YtoolljoejioigaaGRefJ
import Derived.WalkLawsBesides
namespace Go.Proofs.Ytoolljoejioigaa
open Go.RowKit
attribute [local go_sem ↓] Go.wp_at_zero Go.wp_at_succ

/-- The value of bytes in a list, the most significant one first. -/
def bvL : List UInt8 → Nat
  | [] => 0
  | c :: l => c.toNat * 256 ^ l.length + bvL l

theorem bvL_lt : ∀ l : List UInt8, bvL l < 256 ^ l.length
  | [] => by simp [bvL]
  | c :: l => by
    have h1 := bvL_lt l
    have h2 := UInt8.toNat_lt c
    have h3 : (c.toNat + 1) * 256 ^ l.length ≤ 256 * 256 ^ l.length := Nat.mul_le_mul_right _ h2
    rw [Nat.add_mul] at h3
    simp only [bvL, List.length_cons, Nat.pow_succ]
    rw [Nat.mul_comm (256 ^ l.length) 256]
    omega

theorem bvL_snoc (c : UInt8) : ∀ l : List UInt8, bvL (l ++ [c]) = bvL l * 256 + c.toNat
  | [] => by simp [bvL]
  | d :: l => by
    simp only [List.cons_append, bvL, bvL_snoc c l, List.length_append, List.length_cons, List.length_nil, Nat.zero_add]
    rw [Nat.pow_succ, Nat.add_mul, Nat.mul_assoc]
    omega

theorem bvL_take (s : ByteArray) : ∀ k, k ≤ s.size → bvL (s.data.toList.take k) = pre s k
  | 0, _ => by simp [bvL, pre_zero]
  | k + 1, hk => by
    have hl : k < s.data.toList.length := by have : s.data.toList.length = s.size := by simp
                                             omega
    rw [List.take_succ_eq_append_getElem hl, bvL_snoc, bvL_take s k (by omega), pre_succ s k (by omega)]
    rfl

theorem bvL_bval (s : ByteArray) : bvL s.toList = bval s := by
  rw [ByteArray.toList_eq, ← pre_all s, ← bvL_take s s.size (Nat.le_refl _)]
  have : s.data.toList.length = s.size := by simp
  rw [← this, List.take_length]

theorem bytesLess_val : ∀ (l k : List UInt8), l.length = k.length → Op.bytesLess l k = decide (bvL l < bvL k)
  | [], [], _ => by simp [Op.bytesLess, bvL]
  | a :: l, b :: k, h => by
    have hl : l.length = k.length := by simpa using h
    have ih := bytesLess_val l k hl
    have h1 := bvL_lt l
    have h2 := bvL_lt k
    simp only [Op.bytesLess, ih, bvL, ← hl]
    rw [← hl] at h2
    generalize bvL l = p at *
    generalize bvL k = q at *
    have hlt : (a < b) ↔ a.toNat < b.toNat := UInt8.lt_iff_toNat_lt
    have heq : (a = b) ↔ a.toNat = b.toNat := UInt8.toNat_inj.symm
    generalize 256 ^ l.length = r at *
    by_cases c1 : a.toNat < b.toNat
    · have c2 : a < b := hlt.2 c1
      have : (a.toNat + 1) * r ≤ b.toNat * r := Nat.mul_le_mul_right _ c1
      rw [Nat.add_mul] at this
      have c3 : a.toNat * r + p < b.toNat * r + q := by omega
      simp [c2, c3]
    · have c2 : ¬ a < b := fun h => c1 (hlt.1 h)
      by_cases c3 : a.toNat = b.toNat
      · have c4 : a = b := heq.2 c3
        subst c4
        simp
      · have c4 : ¬ a = b := fun h => c3 (heq.1 h)
        have : (b.toNat + 1) * r ≤ a.toNat * r := Nat.mul_le_mul_right _ (by omega)
        rw [Nat.add_mul] at this
        have c5 : ¬ a.toNat * r + p < b.toNat * r + q := by omega
        simp [c2, c4, c5]

theorem less_val {s t : ByteArray} (h : s.size = t.size) : Op.bytesLess s.toList t.toList = decide (bval s < bval t) := by
  rw [bytesLess_val, bvL_bval, bvL_bval]
  rw [ByteArray.toList_eq, ByteArray.toList_eq]
  simpa using h

theorem eq_val {s t : ByteArray} (h : s.size = t.size) : (s.toList == t.toList) = decide (bval s = bval t) := by
  have hl := less_val h
  have hr := less_val h.symm
  by_cases e : bval s = bval t
  · have : s = t := by
      refine ext_bytes h fun i h1 h2 => ?_
      have hv : val 256 (dig s) s.size = val 256 (dig t) s.size := by
        have h4 : bval s = val 256 (dig s) s.size := rfl
        have h5 : bval t = val 256 (dig t) t.size := rfl
        rw [← h4, e, h5, h]
      have hd := val_inj (fun i _ => dig_lt s i) (fun i _ => dig_lt t i) hv (s.size - 1 - i) (by omega)
      unfold dig at hd
      rw [dif_pos (by omega), dif_pos (by omega)] at hd
      have e1 : s.size - 1 - (s.size - 1 - i) = i := by omega
      have e2 : t.size - 1 - (s.size - 1 - i) = i := by omega
      have hd' : (s[i]).toNat = (t[i]).toNat := by simpa [e1, e2] using hd
      exact UInt8.toNat_inj.1 hd'
    subst this
    simp
  · rw [decide_eq_false e]
    cases hb : s.toList == t.toList with
    | false => rfl
    | true =>
      have : s.toList = t.toList := by simpa using hb
      rw [← bvL_bval, ← bvL_bval, this] at e
      exact absurd rfl e

theorem nan_str (s : ByteArray) (w : World) : Calls Try.prog 82 #[.string s] w (RetV w (.bool false)) := by
  go_enter Try.func82, Try.ntmps82
  go_wp2
  go_ret
  exact ⟨by simp, rfl⟩

set_option maxHeartbeats 1000000 in
set_option maxRecDepth 100000 in
theorem cmp_str (s t : ByteArray) (h : s.size = t.size) (w : World) : Calls Try.prog 68 #[.string s, .string t] w (RetV w (.int .i64 (ord (bval s) (bval t)))) := by
  have hl := less_val h
  have he := eq_val h
  have HN := Lib.hid (fun x V => nan_str x V)
  rcases Nat.lt_trichotomy (bval s) (bval t) with c | c | c
  · rw [decide_eq_true c] at hl
    rw [ord_lt c]
    clear c he h
    go_enter Try.func68, Try.ntmps68
    go_wp2_with fail
    refine (HN.out _ _).mono ?_
    rintro e w' ⟨rfl, rfl⟩
    go_wp2_with fail
    refine (HN.out _ _).mono ?_
    rintro e w' ⟨rfl, rfl⟩
    go_wp2
    go_ret
    exact ⟨rfl, rfl⟩
  · rw [decide_eq_false (by omega)] at hl
    rw [decide_eq_true c] at he
    rw [c, ord_eq]
    clear c h
    go_enter Try.func68, Try.ntmps68
    go_wp2_with fail
    refine (HN.out _ _).mono ?_
    rintro e w' ⟨rfl, rfl⟩
    go_wp2_with fail
    refine (HN.out _ _).mono ?_
    rintro e w' ⟨rfl, rfl⟩
    go_wp2
    go_ret
    exact ⟨rfl, rfl⟩
  · rw [decide_eq_false (by omega)] at hl he
    rw [ord_gt c]
    clear c h
    go_enter Try.func68, Try.ntmps68
    go_wp2_with fail
    refine (HN.out _ _).mono ?_
    rintro e w' ⟨rfl, rfl⟩
    go_wp2_with fail
    refine (HN.out _ _).mono ?_
    rintro e w' ⟨rfl, rfl⟩
    go_wp2
    go_ret
    exact ⟨rfl, rfl⟩

theorem ord_size {s t : ByteArray} (hs : Lead s) (ht : Lead t) (h : s.size ≠ t.size) : ord (bval s) (bval t) = Lib.compareInt s.size t.size := by
  have key : ∀ {s t : ByteArray}, Lead t → s.size < t.size → bval s < bval t := fun {s t} ht hlt => by
    have h1 := bval_lt s
    have h2 := val_pos (b := 256) (f := dig t) (n := t.size) (by omega) (by omega) (dig_top ht (by omega))
    have h3 : 256 ^ s.size ≤ 256 ^ (t.size - 1) := Nat.pow_le_pow_right (by omega) (by omega)
    have h4 : bval t = val 256 (dig t) t.size := rfl
    omega
  unfold Lib.compareInt
  by_cases c : s.size < t.size
  · rw [ord_lt (key ht c), if_pos (by omega)]
  · rw [ord_gt (key hs (by omega)), if_neg (by omega), if_pos (by omega)]

set_option maxHeartbeats 1000000 in
set_option maxRecDepth 100000 in
theorem cmpMag_any (s t : ByteArray) (hs : Lead s) (ht : Lead t) (w : World) : Calls Try.prog 46 #[.string s, .string t] w (RetV w (.int .i64 (ord (bval s) (bval t)))) := by
  by_cases h : s.size = t.size
  · have hne : ((s.size : Int) != (t.size : Int)) = false := by simp; omega
    have HC := Lib.hid (fun V => cmp_str s t h V)
    generalize ord (bval s) (bval t) = o at *
    clear h hs ht
    go_enter Try.func46, Try.ntmps46
    go_wp2_with fail
    refine (HC.out _).mono ?_
    rintro e w' ⟨rfl, rfl⟩
    go_wp2
    go_ret
    exact ⟨rfl, rfl⟩
  · have hne : ((s.size : Int) != (t.size : Int)) = true := by simp; omega
    have HC := Lib.hid (fun V => Try.cmp_Compare_int (s.size : Int) (t.size : Int) V)
    rw [ord_size hs ht h]
    clear h hs ht
    go_enter Try.func46, Try.ntmps46
    go_wp2_with fail
    refine (HC.out _).mono ?_
    rintro e w' ⟨rfl, rfl⟩
    go_wp2
    go_ret
    exact ⟨rfl, rfl⟩
end Go.Proofs.Ytoolljoejioigaa
