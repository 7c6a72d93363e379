import Derived.Test.YtkaefmfophopoaaDoorGStI
import Derived.Test.YtkaefmfophopoaaDoorGLawT

/-
  The walk of the statement about parsing.
-/
namespace Go.Proofs.YtkaefmfophopoaaDoor
open Go.RowKit
attribute [local go_sem ↓] Go.wp_at_zero Go.wp_at_succ

set_option maxHeartbeats 8000000 in
set_option maxRecDepth 100000 in
theorem refParse_empty (w : World) : Calls Tryd.prog 15 #[.string ⟨#[]⟩] w (RetE w 0 10) := by
  have HB := Lib.hid ((Below.refl w.heap.size w).alloc (Nat.le_refl _) (.cells #[.bool false, .string ⟨#[]⟩] 23))
  go_enter Tryd.func15, Tryd.ntmps15
  go_wp2_with fail
  exact bodyPost_ret (v := .tuple #[.agg #[.bool false, .string ⟨#[]⟩], .int .i64 10]) (by simp [results, Tryd.results15, go_sem]) rfl (ret_zero 10 HB.out)

/-- Both programs read a short string alike. -/
theorem parse_both (u : ByteArray) (hu : u.size ≤ 60) : ∃ z err, (∀ V, Calls Tryd.prog 13 #[.string u] V (RetE V z err)) ∧ (∀ V, Calls Tryd.prog 15 #[.string u] V (RetE V z err)) := by
  by_cases h0 : u.toList = []
  · have e : u = ⟨#[]⟩ := by
      apply ByteArray.ext
      rw [← Array.toList_inj, ← ByteArray.toList_eq, h0]
    subst e
    exact ⟨0, 10, fun V => parse_empty V, fun V => refParse_empty V⟩
  · have h1 : u.toList.isEmpty = false := by rw [List.isEmpty_eq_false_iff]; exact h0
    obtain ⟨z, err, hP⟩ := Pz.some_ (Lib.trimPrefix u.data.toList [45]) (Lib.hasPrefix u.data.toList [45])
    have hl : (Lib.trimPrefix u.data.toList [45]).length ≤ 60 := by
      have h2 : u.data.toList.length = u.size := rfl
      unfold Lib.trimPrefix
      split
      · rw [List.length_drop]; omega
      · omega
    exact ⟨z, err, fun V => parse_all u V _ _ z err rfl rfl h1 (by omega) hP, fun V => refParse_any u V _ _ z err rfl rfl h1 hl hP⟩

/-- A row of one digit. -/
def row (q j : Nat) : List UInt8 := List.replicate j (UInt8.ofNat (48 + q))

theorem row_digits {q j : Nat} (hq : q ≤ 9) : ∀ b ∈ row q j, digit10 b := fun b hb => by
  obtain rfl := List.eq_of_mem_replicate hb
  exact (digit_byte (by omega)).1

theorem row_val {q j : Nat} (hq : q ≤ 9) (h0 : 0 < q) : 10 ^ j ≤ val10 (row q (j + 1)) ∧ val10 (row q (j + 1)) < 10 ^ (j + 1) := by
  constructor
  · unfold row
    rw [List.replicate_succ, val10_cons, (digit_byte (by omega : q < 10)).2, List.length_replicate]
    have : 1 * 10 ^ j ≤ q * 10 ^ j := Nat.mul_le_mul_right _ h0
    omega
  · have h := val10_lt (row q (j + 1)) (row_digits hq)
    simpa [row] using h

theorem long_list (q j : Nat) : ((⟨#[45]⟩ : ByteArray) ++ bytesOf (fun _ => 48 + q) j).data.toList = 45 :: row q j := by
  have e : (bytesOf (fun _ => 48 + q) j).data.toList = row q j := by
    simp [bytesOf, row, List.map_const']
  simp only [ByteArray.data_append, Array.toList_append, e]
  rfl

theorem long_cut (q j : Nat) : Lib.trimPrefix (45 :: row q j) [45] = row q j ∧ Lib.hasPrefix (45 :: row q j) [45] = true := by
  have h : Lib.hasPrefix (45 :: row q j) [45] = true := by simp [Lib.hasPrefix, List.isPrefixOf]
  refine ⟨?_, h⟩
  unfold Lib.trimPrefix
  rw [h]
  rfl

theorem long_ne (q j : Nat) : ((⟨#[45]⟩ : ByteArray) ++ bytesOf (fun _ => 48 + q) j).toList.isEmpty = false := by
  rw [ByteArray.toList_eq, long_list]
  rfl

/-- Too long. -/
theorem long_much (q j : Nat) (h1 : 1000 < j) (h2 : j ≤ 1002) (V : World) : Calls Tryd.prog 13 #[.string (⟨#[45]⟩ ++ bytesOf (fun _ => 48 + q) j)] V (RetB V (.tuple #[.agg #[.bool false, .string ⟨#[]⟩], .int .i64 28])) := by
  have h := parse_long (⟨#[45]⟩ ++ bytesOf (fun _ => 48 + q) j) V (row q j) true (by rw [long_list]; exact (long_cut q j).1) (by rw [long_list]; exact (long_cut q j).2) (long_ne q j) (by simpa [row] using h1) (by simp [row]; omega)
  refine h.mono ?_
  rintro e w' ⟨b, m, he, rfl, hb⟩
  rw [← he.out, enc_nought]
  exact ⟨rfl, hb⟩

/-- Zeros ahead. -/
theorem long_zero (j : Nat) (h1 : 2 ≤ j) (h2 : j ≤ 1000) (V : World) : Calls Tryd.prog 13 #[.string (⟨#[45]⟩ ++ bytesOf (fun _ => 48 + 0) j)] V (RetB V (.tuple #[.agg #[.bool false, .string ⟨#[]⟩], .int .i64 15])) := by
  have hn : ¬ Numeral (row 0 j) := fun h => by
    obtain ⟨i, rfl⟩ : ∃ i, j = i + 2 := ⟨j - 2, by omega⟩
    rcases h.2 with h | ⟨_, h⟩
    · have := congrArg List.length h
      simp [row] at this
    · apply h
      simp [row, List.replicate_succ]
  have h := parse_bad (⟨#[45]⟩ ++ bytesOf (fun _ => 48 + 0) j) V (row 0 j) true (by rw [long_list]; exact (long_cut 0 j).1) (by rw [long_list]; exact (long_cut 0 j).2) (long_ne 0 j) (by simpa [row] using h2) (.inl hn)
  refine h.mono ?_
  rintro e w' ⟨b, m, he, rfl, hb⟩
  rw [← he.out, enc_nought]
  exact ⟨rfl, hb⟩

/-- A number of j digits. -/
theorem long_good (q j : Nat) (hq : q ≤ 9) (h0 : 0 < q) (h1 : 2 ≤ j) (h2 : j ≤ 1000) :
    ∃ ml S : ByteArray, 0 < ml.size ∧ S.size = j + 1 ∧ (∀ V, Calls Tryd.prog 13 #[.string (⟨#[45]⟩ ++ bytesOf (fun _ => 48 + q) j)] V (RetB V (.tuple #[.agg #[.bool true, .string ml], .int .i64 0]))) ∧
      (∀ V, Ten V → Calls Tryd.prog 12 #[.agg #[.bool true, .string ml]] V (RetB V (.string S))) := by
  obtain ⟨i, rfl⟩ : ∃ i, j = i + 1 := ⟨j - 1, by omega⟩
  obtain ⟨hv1, hv2⟩ := row_val (j := i) hq h0
  have hpos : 0 < val10 (row q (i + 1)) := Nat.lt_of_lt_of_le (Nat.pow_pos (by decide)) hv1
  have hX : val10 (row q (i + 1)) ≠ 0 := by omega
  have hhead : (row q (i + 1)).head? ≠ some 48 := by
    unfold row
    rw [List.replicate_succ, List.head?_cons]
    intro e
    injection e with e
    have e2 := (digit_byte (by omega : q < 10)).2
    rw [e] at e2
    have : (48 : UInt8).toNat = 48 := rfl
    omega
  have hnum : Numeral (row q (i + 1)) := ⟨row_digits hq, .inr ⟨by simp [row], hhead⟩⟩
  have hsz : (mag (val10 (row q (i + 1)))).size ≤ i + 1 := mag_size_le (Nat.lt_of_lt_of_le hv2 (Nat.pow_le_pow_left (by decide) _))
  refine ⟨mag (val10 (row q (i + 1))), ⟨(printed true (val10 (row q (i + 1)))).toArray⟩, ?_, ?_, fun V => ?_, fun V hV => ?_⟩
  · rcases Nat.eq_zero_or_pos (mag (val10 (row q (i + 1)))).size with h | h
    · exact absurd (mag_zero_iff.1 h) hX
    · exact h
  · rw [printed_pos hX]
    show (signOf true ++ Lib.decDigits (val10 (row q (i + 1)))).toArray.size = _
    rw [List.size_toArray, List.length_append, Lib.decDigits_length, Lib.nDigits_unique i _ hv1 hv2]
    simp [signOf]
    omega
  · have h := parse_ok (⟨#[45]⟩ ++ bytesOf (fun _ => 48 + q) (i + 1)) V (row q (i + 1)) true (by rw [long_list]; exact (long_cut q _).1) (by rw [long_list]; exact (long_cut q _).2) (long_ne q _) (by simp [row]; omega) hnum (fun _ e => by
      rw [e] at hhead
      exact hhead rfl)
    refine h.mono ?_
    rintro e w' ⟨b, m, he, rfl, hb⟩
    rw [← he.out]
    have e2 : enc (sgn true (val10 (row q (i + 1)))) = .agg #[.bool true, .string (mag (val10 (row q (i + 1))))] := by
      unfold enc sgn
      have h3 : decide (-((val10 (row q (i + 1)) : Nat) : Int) < 0) = true := by simp; exact hpos
      simp only [if_true, h3, Int.natAbs_neg, Int.natAbs_natCast]
    rw [e2]
    exact ⟨rfl, hb⟩
  · have h := print_any true (mag (val10 (row q (i + 1)))) V (by omega) hV
    rw [bval_mag] at h
    exact h

set_option maxHeartbeats 8000000 in
set_option maxRecDepth 100000 in
theorem parses_walk (s : ByteArray) (more digit : Nat) (hm : more < 256) (hdg : digit < 256) (w : World) (hT : Ten w) : Calls Tryd.prog 5 #[.string s, .int .u8 (more : Int), .int .u8 (digit : Int)] w (RetB w (.bool true)) := by
  obtain ⟨u, hu⟩ : ∃ u, s.extract 0 (min (s.size : Int) 60).toNat = u := ⟨_, rfl⟩
  have hu60 : u.size ≤ 60 := by rw [← hu, ByteArray.size_extract]; omega
  obtain ⟨z, err, hp, hr⟩ := parse_both u hu60
  have HPI := Lib.hid hp
  have HPR := Lib.hid hr
  obtain ⟨N, hN⟩ : ∃ N, 998 + more % 5 = N := ⟨_, rfl⟩
  have hNi : 998 + (more : Int) % 5 = (N : Int) := by omega
  obtain ⟨q, hq⟩ : ∃ q, digit % 10 = q := ⟨_, rfl⟩
  have hqi : (digit : Int) % 10 = (q : Int) := by omega
  have hq9 : q ≤ 9 := by omega
  have hN1 : 998 ≤ N := by omega
  have hN2 : N ≤ 1002 := by omega
  have hmk := fun W => run_make_row' (P := Tryd.prog) 34 5 (.int .u8 0) 1 Tryd.underlying34 byteTy_info rfl .i64 .i64 N (by omega) (by omega) W
  have HT := Lib.hid (fun (V : World) (hV : Below w.heap.size w V) => hT.below hV (Nat.le_refl _))
  clear hp hr hN hq hT
  go_enter Tryd.func5, Tryd.ntmps5
  go_wp2_with fail
  refine (HPI.out _).mono ?_
  rintro e w1 ⟨b1, m1, he1, rfl, hb1⟩
  go_wp2_with fail
  refine (HPR.out _).mono ?_
  rintro e w2 ⟨b2, m2, he2, rfl, hb2⟩
  have hbb : b1 = b2 ∧ m1 = m2 := by
    have h := he1.out.symm.trans he2.out
    injection h with h
    injection h with h
    injection h with h1 h2
    injection h2 with h2 _
    injection h1 with h1
    injection h2 with h2
    exact ⟨h1, h2⟩
  obtain ⟨rfl, rfl⟩ := hbb
  go_wp2_with fail
  go_loopw [13] (fun i wr => ∃ j : Nat, j ≤ N ∧ i = .int .i64 (j : Int) ∧ wr.rowIs (w2.heap.size + 1) 5 N (fun m => .int .u8 ((if m < j then 48 + q else 0 : Nat) : Int)) ∧
      Below (w2.heap.size + 1) (w2.alloc (.cells #[.bool b1, .string m1] 23)) wr) (fun i _ => N - (intOf i).toNat)
  case atStart => exact ⟨0, Nat.zero_le _, rfl, by simpa using World.rowIs_made (w2.alloc (.cells #[.bool b1, .string m1] 23)) (.int .u8 0) N 5, (Below.refl _ _).alloc (by simp) _⟩
  case round =>
    obtain ⟨j, hj, rfl, hrow, hbl⟩ := hrel
    by_cases hjk : j < N
    · have hcs := hrow.cell (i := j) (by omega)
      have hfs := hrow.frozen j
      go_wp2
      go_roundw
      case rel =>
        refine ⟨j + 1, by omega, by go_num, (hrow.set j _).congr fun m hm => ?_, hbl.setCell (by simp) _⟩
        by_cases e : m = j
        · rw [if_pos e, if_pos (by omega)]
          go_num
        · rw [if_neg e]
          by_cases e2 : m < j
          · rw [if_pos e2, if_pos (by omega)]
          · rw [if_neg e2, if_neg (by omega)]
      case measure => simp [intOf]; omega
    · obtain rfl : j = N := by omega
      have hstr := str_of_cells wr 34 9 5 Tryd.underlying34 Tryd.underlying5 Tryd.underlying9 (w2.heap.size + 1) 0 j j (fun _ => 48 + q) (fun i hi => by omega) (fun i hi => by
        rw [Nat.zero_add, hrow.cell hi, if_pos hi])
      have hss : (bytesOf (fun _ => 48 + q) j).size = j := by simp [bytesOf, ByteArray.size]
      have hs1 := hb1.size
      have hs2 := hb2.size
      have hs3 := hbl.size
      simp only [World.size_alloc] at hs2 hs3
      have kx : wr.heap[w1.heap.size]? = some (.cells #[.bool b1, .string m1] 23 (0, 0)) :=
        (hbl.block _ (by omega)).trans ((Below.heap_alloc _ _ _ (by omega)).trans ((hb2.block _ (by simp)).trans (heap_alloc_new _ _)))
      have ky : wr.heap[w2.heap.size]? = some (.cells #[.bool b1, .string m1] 23 (0, 0)) := (hbl.block _ (by omega)).trans (heap_alloc_new _ _)
      have hbw : Below w.heap.size w wr := ((((hb1.alloc hs1 _).trans (hb2.mono (by simp; omega))).alloc (by omega) _)).trans (hbl.mono (by omega))
      have HST := Lib.hid (fun (w3 : World) (bl : Bool) (ml : ByteArray) (h3 : Below wr.heap.size wr w3) => show P3 w 23 w1.heap.size w2.heap.size w3.heap.size (.bool b1) (.string m1) (.bool b1) (.string m1) (.bool bl) (.string ml) (w3.alloc (.cells #[.bool bl, .string ml] 23)) from by
        have h4 := h3.size
        exact ⟨(Below.heap_alloc _ _ _ (by omega)).trans ((h3.block _ (by omega)).trans kx), (Below.heap_alloc _ _ _ (by omega)).trans ((h3.block _ (by omega)).trans ky), heap_alloc_new _ _, by omega, by omega, by omega, by simp, (hbw.trans (h3.mono (by omega))).alloc (by omega) _⟩)
      clear kx ky hbw hbl hrow hb1 hb2 hs2 hs3
      by_cases hj1 : 1000 < j
      · have HL := Lib.hid (fun V => long_much q j hj1 hN2 V)
        go_wp2_with fail
        refine (HL.out _).mono ?_
        rintro e w3 ⟨rfl, hb3⟩
        have PP := Lib.hid (HST.out w3 false ⟨#[]⟩ hb3)
        clear hb3 hstr
        go_wp2_with fail
        refine (known_any _).mono ?_
        rintro e w4 ⟨rfl, hb4⟩
        have PP := Lib.hid (PP.out.next hb4)
        obtain ⟨a0, a1, _, _⟩ := blk_cells PP.out.ka
        obtain ⟨t0, t1, _, _⟩ := blk_cells PP.out.kt
        obtain ⟨x0, x1, _, _⟩ := blk_cells PP.out.kx
        clear hb4
        go_wp2
        go_ret
        exact ⟨rfl, PP.out.bel⟩
      · by_cases hq0 : q = 0
        · subst hq0
          have HL := Lib.hid (fun V => long_zero j (by omega) (by omega) V)
          have hdz : ((digit : Int) % 10 == 0) = true := by simp; omega
          go_wp2_with fail
          refine (HL.out _).mono ?_
          rintro e w3 ⟨rfl, hb3⟩
          have PP := Lib.hid (HST.out w3 false ⟨#[]⟩ hb3)
          clear hb3 hstr
          go_wp2_with fail
          refine (known_any _).mono ?_
          rintro e w4 ⟨rfl, hb4⟩
          have PP := Lib.hid (PP.out.next hb4)
          obtain ⟨a0, a1, _, _⟩ := blk_cells PP.out.ka
          obtain ⟨t0, t1, _, _⟩ := blk_cells PP.out.kt
          obtain ⟨x0, x1, _, _⟩ := blk_cells PP.out.kx
          clear hb4
          go_wp2
          go_ret
          exact ⟨rfl, PP.out.bel⟩
        · obtain ⟨ml, S, hml, hS, hpl, hpp⟩ := long_good q j hq9 (by omega) (by omega) (by omega)
          have HL := Lib.hid hpl
          have HPP := Lib.hid hpp
          have hqz : ((q : Int) == 0) = false := by simp; omega
          clear hpl hpp
          go_wp2_with fail
          refine (HL.out _).mono ?_
          rintro e w3 ⟨rfl, hb3⟩
          have PP := Lib.hid (HST.out w3 true ml hb3)
          clear hb3 hstr
          go_wp2_with fail
          refine (known_any _).mono ?_
          rintro e w4 ⟨rfl, hb4⟩
          have PP := Lib.hid (PP.out.next hb4)
          obtain ⟨a0, a1, _, _⟩ := blk_cells PP.out.ka
          obtain ⟨t0, t1, _, _⟩ := blk_cells PP.out.kt
          obtain ⟨x0, x1, _, _⟩ := blk_cells PP.out.kx
          clear hb4
          go_wp2_with fail
          refine (HPP.out _ (HT.out _ PP.out.bel)).mono ?_
          rintro e w5 ⟨rfl, hb5⟩
          have PP := Lib.hid (PP.out.next hb5)
          clear hb5 a0 a1 t0 t1 x0 x1
          go_wp2
          go_ret
          exact ⟨rfl, PP.out.bel⟩
end Go.Proofs.YtkaefmfophopoaaDoor
