import Derived.Test.YtkaefmfophopoaaDoorGStF
import Derived.Test.YtkaefmfophopoaaDoorGStD

/-
  Numbers: the numeral and its value.
-/
namespace Go.Proofs.YtkaefmfophopoaaDoor
open Go.RowKit

theorem digit_byte {r : Nat} (h : r < 10) : digit10 (UInt8.ofNat (48 + r)) ∧ (UInt8.ofNat (48 + r)).toNat - 48 = r := by
  have e : (UInt8.ofNat (48 + r)).toNat = 48 + r := by simp; omega
  unfold digit10
  rw [e]
  omega

theorem dec_digits (X : Nat) : (∀ b ∈ Lib.decDigits X, digit10 b) ∧ val10 (Lib.decDigits X) = X := by
  induction X using Nat.strongRecOn with
  | _ X ih =>
    by_cases h : X < 10
    · rw [Lib.decDigits, dif_pos h]
      refine ⟨fun b hb => ?_, ?_⟩
      · obtain rfl : b = UInt8.ofNat (48 + X) := by simpa using hb
        exact (digit_byte h).1
      · have := (digit_byte h).2
        rw [val10_cons]
        simp only [val10, List.foldl_nil, List.length_nil, Nat.pow_zero, Nat.mul_one, Nat.add_zero]
        exact this
    · obtain ⟨h1, h2⟩ := ih (X / 10) (by omega)
      have hr : X % 10 < 10 := Nat.mod_lt _ (by omega)
      rw [Lib.decDigits, dif_neg h]
      refine ⟨fun b hb => ?_, ?_⟩
      · rcases List.mem_append.1 hb with hb | hb
        · exact h1 b hb
        · obtain rfl : b = UInt8.ofNat (48 + X % 10) := by simpa using hb
          exact (digit_byte hr).1
      · rw [val10_snoc, h2, (digit_byte hr).2]
        omega

theorem dec_ne (X : Nat) : Lib.decDigits X ≠ [] := by
  intro h
  have h1 := Lib.decDigits_length X
  rw [h] at h1
  have := Lib.nDigits_pos X
  simp at h1
  omega

theorem dec_head (X : Nat) (h0 : 0 < X) : (Lib.decDigits X).head? ≠ some 48 := by
  induction X using Nat.strongRecOn with
  | _ X ih =>
    by_cases h : X < 10
    · rw [Lib.decDigits, dif_pos h]
      intro e
      have e2 : UInt8.ofNat (48 + X) = 48 := by simpa using e
      have e3 := congrArg UInt8.toNat e2
      have e4 : (UInt8.ofNat (48 + X)).toNat = 48 + X := by simp; omega
      rw [e4] at e3
      have : (48 : UInt8).toNat = 48 := rfl
      omega
    · have hi := ih (X / 10) (by omega) (by omega)
      rw [Lib.decDigits, dif_neg h]
      cases e : Lib.decDigits (X / 10) with
      | nil => exact absurd e (dec_ne _)
      | cons b l => rw [e] at hi; simpa using hi

theorem dec_numeral (X : Nat) : Numeral (Lib.decDigits X) := by
  refine ⟨(dec_digits X).1, ?_⟩
  rcases Nat.eq_zero_or_pos X with h | h
  · left; rw [h, Lib.decDigits, dif_pos (by omega)]; rfl
  · exact .inr ⟨dec_ne X, dec_head X h⟩

theorem dec_first (X : Nat) : (Lib.decDigits X).head? ≠ some 45 := by
  intro e
  have h1 : (45 : UInt8) ∈ Lib.decDigits X := List.mem_of_mem_head? e
  have h2 := ((dec_digits X).1 _ h1).1
  have : (45 : UInt8).toNat = 45 := rfl
  omega

theorem cut_plain (X : Nat) : Lib.trimPrefix (Lib.decDigits X) [45] = Lib.decDigits X ∧ Lib.hasPrefix (Lib.decDigits X) [45] = false := by
  have h : Lib.hasPrefix (Lib.decDigits X) [45] = false := by
    have h1 := dec_first X
    unfold Lib.hasPrefix
    cases e : Lib.decDigits X with
    | nil => rfl
    | cons b l =>
      rw [e] at h1
      simp only [List.head?_cons, ne_eq, Option.some.injEq] at h1
      simp only [List.isPrefixOf, Bool.and_true, beq_eq_false_iff_ne, ne_eq]
      exact fun e => h1 e.symm
  refine ⟨?_, h⟩
  unfold Lib.trimPrefix
  rw [h]
  rfl

theorem cut_minus (X : Nat) : Lib.trimPrefix (45 :: Lib.decDigits X) [45] = Lib.decDigits X ∧ Lib.hasPrefix (45 :: Lib.decDigits X) [45] = true := by
  have h : Lib.hasPrefix (45 :: Lib.decDigits X) [45] = true := by simp [Lib.hasPrefix, List.isPrefixOf]
  refine ⟨?_, h⟩
  unfold Lib.trimPrefix
  rw [h]
  rfl

theorem dec_len {X : Nat} (hX : X < 256 ^ 24) : (Lib.decDigits X).length ≤ 1000 := by
  rw [Lib.decDigits_length]
  have h1 : X < 10 ^ (71 + 1) := Nat.lt_of_lt_of_le hX (by decide)
  have := nDigits_le 71 X h1
  omega

/-- What is printed is read again. -/
theorem parse_printed (neg : Bool) (X : Nat) (hX : X < 256 ^ 24) (hz : X = 0 → neg = false) (w : World) :
    Calls Tryd.prog 13 #[.string ⟨(printed neg X).toArray⟩] w (RetE w (sgn neg X) 0) := by
  have hv := (dec_digits X).2
  have hne : ∀ l : List UInt8, l ≠ [] → (ByteArray.mk l.toArray).toList.isEmpty = false := fun l hl => by
    rw [ByteArray.toList_eq, List.isEmpty_eq_false_iff]
    simpa using hl
  cases neg
  · have hp : printed false X = Lib.decDigits X := by
      by_cases h : X = 0
      · rw [h, printed, if_pos rfl, Lib.decDigits, dif_pos (by omega)]; rfl
      · rw [printed_pos h]; rfl
    rw [hp]
    have h := parse_ok ⟨(Lib.decDigits X).toArray⟩ w (Lib.decDigits X) false (by simpa using (cut_plain X).1) (by simpa using (cut_plain X).2) (hne _ (dec_ne X)) (dec_len hX) (dec_numeral X) (by simp)
    rw [hv] at h
    exact h
  · have h0 : X ≠ 0 := fun h => by cases hz h
    have hp : printed true X = 45 :: Lib.decDigits X := by rw [printed_pos h0]; rfl
    rw [hp]
    have h := parse_ok ⟨(45 :: Lib.decDigits X).toArray⟩ w (Lib.decDigits X) true (by simpa using (cut_minus X).1) (by simpa using (cut_minus X).2) (hne _ (by simp)) (dec_len hX) (dec_numeral X) (fun _ e => by
      rw [e] at hv
      exact h0 hv.symm)
    rw [hv] at h
    exact h

end Go.Proofs.YtkaefmfophopoaaDoor


/-
  The program's reading of an integer, where it refuses.
-/
namespace Go.Proofs.YtkaefmfophopoaaDoor
open Go.RowKit

theorem enc_nought : enc 0 = .agg #[.bool false, .string ⟨#[]⟩] := by
  unfold enc mag
  rw [show (0 : Int).natAbs = 0 from rfl, magL_zero]
  rfl

theorem ret_zero {w W : World} (err : Int) (hb : Below w.heap.size w W) : RetE w 0 err (.returned (.tuple #[.agg #[.bool false, .string ⟨#[]⟩], .int .i64 err])) W := ⟨false, ⟨#[]⟩, enc_nought, rfl, hb⟩

set_option maxHeartbeats 8000000 in
set_option maxRecDepth 100000 in
theorem parse_empty (w : World) : Calls Tryd.prog 13 #[.string ⟨#[]⟩] w (RetE w 0 10) := by
  have HCP := Lib.hid (fun W => Tryd.strings_CutPrefix ⟨#[]⟩ ⟨#[45]⟩ W)
  have HB := Lib.hid ((Below.refl w.heap.size w).alloc (Nat.le_refl _) (.cells #[.bool false, .string ⟨#[]⟩] 23))
  go_enter Tryd.func13, Tryd.ntmps13
  go_wp2_with fail
  refine (HCP.out _).mono ?_
  rintro e w1 ⟨rfl, rfl⟩
  go_wp2_with fail
  exact bodyPost_ret (v := .tuple #[.agg #[.bool false, .string ⟨#[]⟩], .int .i64 10]) (by simp [results, Tryd.results13, go_sem]) rfl (ret_zero 10 HB.out)

set_option maxHeartbeats 8000000 in
set_option maxRecDepth 100000 in
theorem parse_long (s : ByteArray) (w : World) (d : List UInt8) (neg : Bool) (hd : Lib.trimPrefix s.data.toList [45] = d) (hn : Lib.hasPrefix s.data.toList [45] = neg)
    (h0 : s.toList.isEmpty = false) (hlen : 1000 < d.length) (hbig : d.length ≤ 1000000) :
    Calls Tryd.prog 13 #[.string s] w (RetE w 0 28) := by
  have hcp := fun W => Tryd.strings_CutPrefix s ⟨#[45]⟩ W
  have e45 : (ByteArray.mk #[45]).data.toList = [45] := rfl
  rw [e45, hd, hn] at hcp
  obtain ⟨t, ht⟩ : ∃ t : ByteArray, ⟨d.toArray⟩ = t := ⟨_, rfl⟩
  have hts : 1000 < t.size := by rw [← ht]; exact hlen
  have htb : t.size ≤ 1000000 := by rw [← ht]; exact hbig
  rw [ht] at hcp
  have HCP := Lib.hid hcp
  have hs0 : ¬ s.toList = [] := by rw [List.isEmpty_eq_false_iff] at h0; exact h0
  have HB := Lib.hid ((Below.refl w.heap.size w).alloc (Nat.le_refl _) (.cells #[.bool false, .string ⟨#[]⟩] 23))
  clear hcp ht e45 hd hn hlen hbig
  go_enter Tryd.func13, Tryd.ntmps13
  go_wp2_with fail
  refine (HCP.out _).mono ?_
  rintro e w1 ⟨rfl, rfl⟩
  go_wp2_with fail
  exact bodyPost_ret (v := .tuple #[.agg #[.bool false, .string ⟨#[]⟩], .int .i64 28]) (by simp [results, Tryd.results13, go_sem]) rfl (ret_zero 28 HB.out)

set_option maxHeartbeats 8000000 in
set_option maxRecDepth 100000 in
theorem parse_bad (s : ByteArray) (w : World) (d : List UInt8) (neg : Bool) (hd : Lib.trimPrefix s.data.toList [45] = d) (hn : Lib.hasPrefix s.data.toList [45] = neg)
    (h0 : s.toList.isEmpty = false) (hlen : d.length ≤ 1000) (hN : ¬ Numeral d ∨ (neg = true ∧ d = [48])) :
    Calls Tryd.prog 13 #[.string s] w (RetE w 0 15) := by
  have hcp := fun W => Tryd.strings_CutPrefix s ⟨#[45]⟩ W
  have e45 : (ByteArray.mk #[45]).data.toList = [45] := rfl
  rw [e45, hd, hn] at hcp
  obtain ⟨t, ht⟩ : ∃ t : ByteArray, ⟨d.toArray⟩ = t := ⟨_, rfl⟩
  have htd : t.data.toList = d := by rw [← ht]
  have hts : t.size ≤ 1000 := by rw [← ht]; exact hlen
  rw [ht] at hcp
  have hin := fun W => isNumeral_any t W (by omega)
  rw [htd] at hin
  have HCP := Lib.hid hcp
  have HIN := Lib.hid hin
  have HNU := Lib.hid hN
  have HTD := Lib.hid htd
  have hs0 : ¬ s.toList = [] := by rw [List.isEmpty_eq_false_iff] at h0; exact h0
  have HB := Lib.hid ((Below.refl w.heap.size w).alloc (Nat.le_refl _) (.cells #[.bool false, .string ⟨#[]⟩] 23))
  clear hcp hin hN htd ht e45 hd hn hlen
  go_enter Tryd.func13, Tryd.ntmps13
  go_wp2_with fail
  refine (HCP.out _).mono ?_
  rintro e w1 ⟨rfl, rfl⟩
  go_wp2_with fail
  refine (HIN.out _).mono ?_
  rintro e w1 ⟨r, rfl, hr, rfl⟩
  cases r
  · clear hr
    go_wp2_with fail
    exact bodyPost_ret (v := .tuple #[.agg #[.bool false, .string ⟨#[]⟩], .int .i64 15]) (by simp [results, Tryd.results13, go_sem]) rfl (ret_zero 15 HB.out)
  · have hnum : Numeral d := hr.1 rfl
    obtain ⟨rfl, h48⟩ : neg = true ∧ d = [48] := by
      rcases HNU.out with h | h
      · exact absurd hnum h
      · exact h
    have ht48 : t.toList = [48] := by rw [ByteArray.toList_eq, HTD.out, h48]
    clear hr hnum h48
    go_wp2_with fail
    exact bodyPost_ret (v := .tuple #[.agg #[.bool false, .string ⟨#[]⟩], .int .i64 15]) (by simp [results, Tryd.results13, go_sem]) rfl (ret_zero 15 HB.out)

end Go.Proofs.YtkaefmfophopoaaDoor
