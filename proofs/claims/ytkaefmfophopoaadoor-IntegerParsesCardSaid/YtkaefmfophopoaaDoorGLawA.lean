import Derived.Test.YtkaefmfophopoaaDoorGIntG

/-
  The program's integer of some digits.
-/
namespace Go.Proofs.YtkaefmfophopoaaDoor
open Go.RowKit
attribute [local go_sem ↓] Go.wp_at_zero Go.wp_at_succ

theorem len128 : Tryd.prog.arrayLen 79 = 128 := by kernel_rfl

/-- Bytes of a digit are bytes of the number. -/
theorem D_byte (V i r : Nat) (hr : r < 8) : D 256 (D B64 V i) r = D 256 V (8 * i + r) := by
  have e : B64 = 256 ^ 8 := by decide
  unfold D
  rw [e, ← Nat.pow_mul, Nat.pow_add, ← Nat.div_div_eq_div_mul]
  generalize V / 256 ^ (8 * i) = X
  have e2 : (256 : Nat) ^ 8 = 256 ^ r * (256 * 256 ^ (7 - r)) := by
    rw [← Nat.mul_assoc, ← Nat.pow_succ, ← Nat.pow_add]
    congr 1
    omega
  rw [e2, Nat.mod_mul_right_div_self, Nat.mod_mul_right_mod]

theorem pack_places (k V : Nat) (hk : 0 < k) (hV : V < B64 ^ k) (ht : B64 ^ (k - 1) ≤ V) : ∃ lz z, z < 8 ∧ 64 - Lib.bitLen (D B64 V (k - 1)) = lz ∧ lz / 8 = z ∧ lz ≤ 63 ∧ V < 256 ^ (8 * k - z) ∧ D 256 V (8 * k - 1 - z) ≠ 0 := by
  have e : B64 = 256 ^ 8 := by decide
  have hp : 0 < B64 ^ (k - 1) := Nat.pow_pos B64_pos
  have hk1 : B64 ^ k = B64 ^ (k - 1 + 1) := by rw [Nat.sub_add_cancel hk]
  have hd0 : D B64 V (k - 1) ≠ 0 := D_pos B64_pos ht (by rw [← hk1]; exact hV)
  obtain ⟨lz, z, h1, h2, h3, h4, h5, h6⟩ := word_places (D B64 V (k - 1)) hd0 (D64_lt _ _)
  have hd : V / B64 ^ (k - 1) = D B64 V (k - 1) := by
    unfold D
    rw [Nat.mod_eq_of_lt]
    exact Nat.div_lt_of_lt_mul (by rw [← Nat.pow_succ, ← hk1]; exact hV)
  have q1 : V < 256 ^ (8 * k - z) := by
    have a : V < B64 ^ (k - 1) * 256 ^ (8 - z) := by
      rw [← hd] at h6
      have := (Nat.div_lt_iff_lt_mul hp).1 h6
      rwa [Nat.mul_comm]
    rw [e, ← Nat.pow_mul, ← Nat.pow_add, show 8 * (k - 1) + (8 - z) = 8 * k - z by omega] at a
    exact a
  have q2 : 256 ^ (8 * k - 1 - z) ≤ V := by
    have a : 256 ^ (7 - z) * B64 ^ (k - 1) ≤ V := by
      rw [← hd] at h5
      exact (Nat.le_div_iff_mul_le hp).1 h5
    rw [e, ← Nat.pow_mul, ← Nat.pow_add, show 7 - z + 8 * (k - 1) = 8 * k - 1 - z by omega] at a
    exact a
  exact ⟨lz, z, h1, h2, h3, h4, q1, D_pos (by omega) q2 (by rwa [show 8 * k - 1 - z + 1 = 8 * k - z by omega])⟩

theorem nums_append (K : IntKind) (f : Nat → Nat) (a b : Nat) : nums K f (a + b) = nums K f a ++ nums K (fun i => f (a + i)) b := by
  induction b with
  | zero => simp [nums]
  | succ b ih => rw [← Nat.add_assoc, nums_succ, nums_succ, ih, List.append_assoc]

theorem cells_new (w : World) (C : Array Value) (T : TypeId) (l : List Value) (h : C.toList = l) : ∀ j u, l[j]? = some u → (w.alloc (.cells C T)).cell? ((⟨w.heap.size, 0, none⟩ : Addr).add j) = some u := by
  intro j u hj
  rw [Addr.add_lit, Nat.zero_add, cell_of_row _ w.heap.size j C T (0, 0) (heap_alloc_new w _)]
  subst h
  simpa using hj

theorem bytes8 (d : Nat) (hd : d < 18446744073709551616) : #[Value.int .u8 ((d : Int) / 72057594037927936), .int .u8 ((d : Int) / 281474976710656 % 256), .int .u8 ((d : Int) / 1099511627776 % 256), .int .u8 ((d : Int) / 4294967296 % 256),
    .int .u8 ((d : Int) / 16777216 % 256), .int .u8 ((d : Int) / 65536 % 256), .int .u8 ((d : Int) / 256 % 256), .int .u8 ((d : Int) % 256)].toList = nums .u8 (fun p => D 256 d (7 - p)) 8 := by
  simp [nums, List.range_succ, D]
  omega

set_option maxHeartbeats 2000000 in
set_option maxRecDepth 100000 in
theorem pack_any (neg : Bool) (A : Option Addr) (n c V : Nat) (w : World) (hn : n ≤ 1000000000) (h : Ng w A n c V) :
    Calls Tryd.prog 21 #[.bool neg, .slice A n c] w (RetZ w (sgn neg V)) := by
  have HR := Lib.hid h
  clear h
  obtain ⟨i0, hi, hz0, hz1, hz2⟩ := info_parts byteTy_info
  go_enter Tryd.func21, Tryd.ntmps21
  go_wp2_with fail
  refine (trim_any A n c V _ (by omega) (HR.out.alloc _)).mono ?_
  rintro e w1 ⟨k, hk, rfl, hm, rfl⟩
  have HM := Lib.hid hm
  clear hm
  by_cases h0 : 0 < k
  · obtain ⟨lz, z, hz, hlz, hzz, hl, hhi, htop⟩ := pack_places k V h0 HM.out.lt (HM.out.top h0)
    have HLZ := Lib.hid hlz
    have HHI := Lib.hid hhi
    have HTOP := Lib.hid htop
    have hq : (lz : Int) / 8 = (z : Int) := by omega
    clear hlz hhi htop hzz
    have hk0 : ((k : Int) == 0) = false := by simp; omega
    go_wp2
    go_loopw [6, 7] (fun v i wr => ∃ j : Nat, j ≤ k ∧ i = .int .i64 ((k : Int) - 1 - j) ∧ Own wr (w.heap.size + 1) v (8 * j) (nums .u8 (fun p => D 256 V (8 * k - 1 - p)) (8 * j)) ∧
        Below (w.heap.size + 1) (w.alloc (.cells #[.bool false, .string ⟨#[]⟩] 23)) wr ∧ w.heap.size + 2 ≤ wr.heap.size) (fun _ i _ => (intOf i + 1).toNat)
    case atStart => exact ⟨0, by omega, by simp, Own.start (heap_two _ _ _) (Nat.le_refl _) (by simp) (by simp [maxLen]), (Below.refl _ _).alloc (by simp) _, by simp⟩
    case round =>
      obtain ⟨j, hj, rfl, hown, hbl, hsz⟩ := hrel
      by_cases hlt : j < k
      · have hnr := HM.out.below (hbl.mono (by simp))
        obtain ⟨g, o, rfl, hg, hcell⟩ := hnr.rd (by omega)
        have hcj : wr.cell? ⟨g, o + (k - 1 - j), none⟩ = some (.int .u64 (D B64 V (k - 1 - j) : Int)) := hcell _ (by omega)
        have hd := D64_lt V (k - 1 - j)
        have hD := Lib.hid (D_byte V (k - 1 - j))
        clear hcell hnr
        generalize D B64 V (k - 1 - j) = d at *
        go_wp2_with (at_builtin; refine wpList_append_Own _ rfl _ _ 34 rfl (w.heap.size + 1) 5 i0 (.int .u8 0) 1 Tryd.underlying34 hi hz0 hz1 hz2 rfl _ _ _ rfl (hown.alloc _) ⟨wr.heap.size, 0, none⟩ 8 8 (nums .u8 (fun p => D 256 d (7 - p)) 8) rfl (by rw [nums_length]) (by omega) ?_ ?_ ?_ ?_ ?_ ?_)
        · exact cells_new wr _ _ _ (bytes8 d hd)
        · intro u hu; unfold nums at hu; obtain ⟨_, _, rfl⟩ := List.mem_map.1 hu; rfl
        · unfold maxLen; omega
        · omega
        · simp; omega
        intro v' w2 hown' hgrow hat
        have hown2 : Own w2 (w.heap.size + 1) v' (8 * (j + 1)) (nums .u8 (fun p => D 256 V (8 * k - 1 - p)) (8 * (j + 1))) := by
          have e : nums .u8 (fun p => D 256 d (7 - p)) 8 = nums .u8 (fun i => D 256 V (8 * k - 1 - (8 * j + i))) 8 := nums_congr fun p hp => by
            rw [hD.out (7 - p) (by omega)]
            congr 1
            omega
          rw [show 8 * (j + 1) = 8 * j + 8 by omega, nums_append, ← e]
          exact hown'
        have hbl1 : Below (w.heap.size + 1) wr w2 := ((Below.refl _ _).alloc (by omega) _).grown hgrow (by simp; omega) (fun g hg => ((hown.lt) g hg).1)
        have hsz2 := hbl1.size
        clear hgrow hown' hown hat
        go_wp2
        go_roundw
        case rel => exact ⟨j + 1, by omega, by go_num, hown2, hbl.trans hbl1, by omega⟩
        case measure => simp [intOf] <;> omega
      · obtain rfl : j = k := by omega
        have hnr := HM.out.below (hbl.mono (by simp))
        obtain ⟨g, o, rfl, hg, hcell⟩ := hnr.rd (by omega)
        have hcj : wr.cell? ⟨g, o + (j - 1), none⟩ = some (.int .u64 (D B64 V (j - 1) : Int)) := hcell _ (by omega)
        have hd := D64_lt V (j - 1)
        have ho := hown
        obtain ⟨A2, c2, rfl, hc2, hr2⟩ := hown.rd
        obtain ⟨g2, o2, rfl, hg2, hcell2⟩ := hr2 (by omega)
        have hstr := str_of_cells wr 34 9 5 Tryd.underlying34 Tryd.underlying5 Tryd.underlying9 g2 (o2 + z) (8 * j - z) (c2 - z) (fun p => D 256 V (8 * j - 1 - (z + p))) (fun i hi => D_lt (by omega) _ _) (fun i hi => by
          rw [Nat.add_assoc, hcell2 (z + i) (by omega)])
        obtain ⟨q0, q1, f0, f1⟩ := res2 (g := w.heap.size) (by exact heap_one _ _) hbl (by simp)
        clear hcell hnr hown ho hr2 hcell2
        generalize D B64 V (j - 1) = d at *
        go_wp2_with fail
        refine (lz_any d lz HLZ.out hd _).mono ?_
        rintro e w' ⟨rfl, rfl⟩
        go_wp2
        refine bodyPost_ret (v := .agg #[.bool neg, .string (bytesOf (fun p => D 256 V (8 * j - 1 - (z + p))) (8 * j - z))]) (by simp [results, Tryd.results21, go_sem, q0, q1]) rfl ⟨?_, ?_⟩
        · refine congrArg Ending.returned (sgn_enc (fun i hi => D_lt (by omega) _ _) (fun _ => by rw [Nat.add_zero]; exact HTOP.out) ?_ ?_)
          · rw [val_congr (g := D 256 V) (fun i hi => by rw [show 8 * j - 1 - (z + (8 * j - z - 1 - i)) = i by omega]), val_D, Nat.mod_eq_of_lt HHI.out]
          · intro h
            have := HTOP.out
            rw [h] at this
            simp [D] at this
        · exact ((((Below.refl _ _).alloc (Nat.le_refl _) _).trans (hbl.mono (by omega))).setCell (by simp) _).setCell (by simp) _
  · go_wp2
    refine bodyPost_ret (v := .agg #[.bool false, .string ⟨#[]⟩]) (by simp [results, Tryd.results21, go_sem]) rfl ⟨?_, (Below.refl _ _).alloc (Nat.le_refl _) _⟩
    have hV : V = 0 := HM.out.zero.1 (by omega)
    rw [hV, sgn_zero, enc_zero]
end Go.Proofs.YtkaefmfophopoaaDoor


/-
  The program's product and quotient of short integers.
-/
namespace Go.Proofs.YtkaefmfophopoaaDoor
open Go.RowKit
attribute [local go_sem ↓] Go.wp_at_zero Go.wp_at_succ

theorem mul64_any (x y : Nat) (hx : x < 18446744073709551616) (hy : y < 18446744073709551616) (hi lo : Nat) (h1 : x * y / 18446744073709551616 = hi) (h2 : x * y % 18446744073709551616 = lo) (w : World) :
    Calls Tryd.prog 28 #[.int .u64 (x : Int), .int .u64 (y : Int)] w (RetV w (.tuple #[.int .u64 (hi : Int), .int .u64 (lo : Int)])) :=
  (Tryd.bits_Mul64 x y hx hy w).mono fun e w' ⟨he, hw⟩ => ⟨by rw [he, h1, h2], hw.symm⟩

theorem RetQ.form {w : World} {q r err : Int} {e : Ending} {w' : World} (h : RetQ w q r err e w') : ∃ b1 m1 b2 m2, Hid (enc q = .agg #[.bool b1, .string m1]) ∧ Hid (enc r = .agg #[.bool b2, .string m2]) ∧
    e = .returned (.tuple #[.agg #[.bool b1, .string m1], .agg #[.bool b2, .string m2], .int .i64 err]) ∧ Below w.heap.size w w' := ⟨_, _, _, _, rfl, rfl, h.1, h.2⟩

/-- Four new blocks by their number. -/
theorem heap_four (w : World) (o1 o2 o3 o4 : Obj) : ((((w.alloc o1).alloc o2).alloc o3).alloc o4).heap[w.heap.size]? = some o1 ∧ ((((w.alloc o1).alloc o2).alloc o3).alloc o4).heap[w.heap.size + 1]? = some o2 ∧
    ((((w.alloc o1).alloc o2).alloc o3).alloc o4).heap[w.heap.size + 2]? = some o3 ∧ ((((w.alloc o1).alloc o2).alloc o3).alloc o4).heap[w.heap.size + 3]? = some o4 := by
  have h4 := heap_one (((w.alloc o1).alloc o2).alloc o3) o4
  refine ⟨?_, ?_, ?_, by simpa using h4⟩
  · exact (Below.heap_alloc _ _ _ (by simp <;> omega)).trans ((Below.heap_alloc _ _ _ (by simp <;> omega)).trans (heap_fst _ _ _))
  · exact (Below.heap_alloc _ _ _ (by simp <;> omega)).trans ((Below.heap_alloc _ _ _ (by simp <;> omega)).trans (heap_two _ _ _))
  · exact (Below.heap_alloc _ _ _ (by simp <;> omega)).trans (heap_three _ _ _ _)

theorem rd_two (w : World) (g : Nat) (T : TypeId) (a b : Nat) (f : Nat → Nat) (h : w.heap[g]? = some (.cells #[.int .u64 (a : Int), .int .u64 (b : Int)] T (0, 0))) (h0 : f 0 = a) (h1 : f 1 = b) : Rd w .u64 (some ⟨g, 0, none⟩) 2 f := fun _ => by
  refine ⟨g, 0, rfl, (Array.getElem?_eq_some_iff.1 h).1, fun i hi => ?_⟩
  match i, hi with
  | 0, _ => rw [h0]; simp [World.cell?, h]
  | 1, _ => rw [h1]; simp [World.cell?, h]

theorem bval_64 {a : ByteArray} (h : a.size ≤ 8) : bval a < 18446744073709551616 := by
  have h1 := bval_lt a
  have h2 : (256 : Nat) ^ a.size ≤ 256 ^ 8 := Nat.pow_le_pow_right (by omega) h
  have h3 : (256 : Nat) ^ 8 = 18446744073709551616 := by decide
  omega

set_option maxHeartbeats 2000000 in
set_option maxRecDepth 100000 in
theorem mul_short (na nb : Bool) (a b : ByteArray) (ha : a.size ≤ 8) (hb : b.size ≤ 8) (w : World) :
    Calls Tryd.prog 10 #[.agg #[.bool na, .string a], .agg #[.bool nb, .string b]] w (RetZ w (sgn (na != nb) (bval a * bval b))) := by
  have hx := bval_64 ha
  have hy := bval_64 hb
  have hV : bval a * bval b < B64 ^ 2 := by
    have h1 := Nat.mul_lt_mul'' hx hy
    rw [B64_eq, Nat.pow_two]
    exact h1
  have hlo : D B64 (bval a * bval b) 0 = bval a * bval b % 18446744073709551616 := by simp [D, B64_eq]
  have hhi : D B64 (bval a * bval b) 1 = bval a * bval b / 18446744073709551616 := by
    unfold D
    rw [Nat.pow_one, Nat.mod_eq_of_lt]
    · rw [B64_eq]
    · exact Nat.div_lt_of_lt_mul (by rw [← Nat.pow_two]; exact hV)
  generalize hxa : bval a = x at *
  generalize hyb : bval b = y at *
  generalize hVV : x * y = V at *
  have HVV := Lib.hid hVV
  have HV := Lib.hid hV
  obtain ⟨lo, hl⟩ : ∃ lo, D B64 V 0 = lo := ⟨_, rfl⟩
  obtain ⟨hi, hh⟩ : ∃ hi, D B64 V 1 = hi := ⟨_, rfl⟩
  have HL := Lib.hid hl
  have HH := Lib.hid hh
  have HLO := Lib.hid (hlo.symm.trans hl)
  have HHI := Lib.hid (hhi.symm.trans hh)
  have HX := Lib.hid hxa
  have HY := Lib.hid hyb
  clear hV hlo hhi hxa hyb hVV hl hh
  go_enter Tryd.func10, Tryd.ntmps10
  go_wp2_with fail
  refine (words_yes na nb a b ha hb _).mono ?_
  rintro e w1 ⟨rfl, hb1⟩
  obtain ⟨p0, p1, g0, g1⟩ := res2 (g := w.heap.size + 2) (by exact heap_three _ _ _ _) hb1 (by simp)
  rw [HX.out, HY.out]
  go_wp2_with fail
  refine (mul64_any x y hx hy hi lo (by rw [HVV.out]; exact HHI.out) (by rw [HVV.out]; exact HLO.out) _).mono ?_
  rintro e w' ⟨rfl, rfl⟩
  go_wp2_with fail
  refine (pack_any _ _ 2 2 V _ (by omega) ⟨HV.out, by omega, rd_two _ _ _ lo hi _ (heap_one _ _) HL.out HH.out⟩).mono fun e w2 h => ?_
  obtain ⟨b2, m2, HB2, rfl, hb2⟩ := h.form
  have hbA : Below w1.heap.size w1 (w1.alloc (.cells #[.int .u64 (lo : Int), .int .u64 (hi : Int)] 39)) := (Below.refl _ _).alloc (Nat.le_refl _) _
  have hb3 := hb1.trans ((hbA.trans (hb2.mono hbA.size)).mono hb1.size)
  obtain ⟨p0, p1, g0, g1⟩ := res2 (g := w.heap.size + 2) (by exact heap_three _ _ _ _) hb3 (by simp)
  have HB3 := Lib.hid hb3
  clear h hb1 hb2 hb3
  go_wp2
  refine bodyPost_ret (v := .agg #[.bool b2, .string m2]) (by simp [results, Tryd.results10, go_sem, p0, p1]) rfl ⟨?_, ?_⟩
  · rw [← HB2.out]
    have e : (!na == nb) = (na != nb) := by cases na <;> cases nb <;> rfl
    first | rw [e] | rfl
  · exact ((Below.trans ((((Below.refl _ _).alloc (Nat.le_refl _) _).alloc (by simp <;> omega) _).alloc (by simp <;> omega) _) (HB3.out.mono (B' := w.heap.size) (by simp <;> omega))).setCell (by simp <;> omega) _).setCell (by simp <;> omega) _

set_option maxHeartbeats 2000000 in
set_option maxRecDepth 100000 in
theorem divMod_short (na nb : Bool) (a b : ByteArray) (ha : a.size ≤ 8) (hb : b.size ≤ 8) (h0 : bval b ≠ 0) (w : World) :
    Calls Tryd.prog 25 #[.agg #[.bool na, .string a], .agg #[.bool nb, .string b]] w (RetQ w (sgn na (bval a) / sgn nb (bval b)) (sgn na (bval a) % sgn nb (bval b)) 0) := by
  have hx := bval_64 ha
  have hy := bval_64 hb
  generalize hxa : bval a = x at *
  generalize hyb : bval b = y at *
  have HX := Lib.hid hxa
  have HY := Lib.hid hyb
  have hne : ((y : Int) != 0) = true := by simp; omega
  clear hxa hyb
  go_enter Tryd.func25, Tryd.ntmps25
  go_wp2_with fail
  refine (words_yes na nb a b ha hb _).mono ?_
  rintro e w1 ⟨rfl, hb1⟩
  obtain ⟨k1, k2, k3, k4⟩ := heap_four w (.cells #[.bool na, .string a] 23) (.cells #[.bool nb, .string b] 23) (.cells #[.bool false, .string ⟨#[]⟩] 23) (.cells #[.bool false, .string ⟨#[]⟩] 23)
  have HK3 := Lib.hid k3
  have HK4 := Lib.hid k4
  obtain ⟨c0, c1, d0, d1⟩ := res2 (g := w.heap.size) (by exact k1) hb1 (by simp <;> omega)
  obtain ⟨c2, c3, d2, d3⟩ := res2 (g := w.heap.size + 1) (by exact k2) hb1 (by simp <;> omega)
  clear k1 k2 k3 k4
  rw [HX.out, HY.out]
  go_wp2_with fail
  refine (divModWords_any na nb x y hx hy h0 _).mono fun e w2 h => ?_
  obtain ⟨b1, m1, b2, m2, HB1, HB2, rfl, hb2⟩ := h.form
  have hb3 := hb1.trans (hb2.mono hb1.size)
  obtain ⟨p0, p1, g0, g1⟩ := res2 (g := w.heap.size + 2) (by exact HK3.out) hb3 (by simp <;> omega)
  obtain ⟨q0, q1, f0, f1⟩ := res2 (g := w.heap.size + 3) (by exact HK4.out) hb3 (by simp <;> omega)
  have HB3 := Lib.hid hb3
  clear h hb1 hb2 hb3 c0 c1 d0 d1 c2 c3 d2 d3
  go_wp2
  refine bodyPost_ret (v := .tuple #[.agg #[.bool b1, .string m1], .agg #[.bool b2, .string m2], .int .i64 0]) (by simp [results, Tryd.results25, go_sem, p0, p1, q0, q1]) rfl ⟨?_, ?_⟩
  · rw [← HB1.out, ← HB2.out]
  · exact ((((Below.trans (((((Below.refl _ _).alloc (Nat.le_refl _) _).alloc (by simp <;> omega) _).alloc (by simp <;> omega) _).alloc (by simp <;> omega) _) (HB3.out.mono (B' := w.heap.size) (by simp <;> omega))).setCell (by simp <;> omega) _).setCell (by simp <;> omega) _).setCell (by simp <;> omega) _).setCell (by simp <;> omega) _
end Go.Proofs.YtkaefmfophopoaaDoor


/-
  The examples of the chapter that every statement of layer 1 asks.
-/
namespace Go.Proofs.YtkaefmfophopoaaDoor
open Go.RowKit
attribute [local go_sem ↓] Go.wp_at_zero Go.wp_at_succ

theorem enc_m300 : enc (-300) = .agg #[.bool true, .string ⟨#[1, 44]⟩] := (enc_eq (neg := true) (s := ⟨#[1, 44]⟩) ⟨fun _ => (by decide : (1 : UInt8).toNat ≠ 0), fun h => by simp [ByteArray.size] at h⟩ (by decide)).symm
theorem enc_m2100 : enc (-2100) = .agg #[.bool true, .string ⟨#[8, 52]⟩] := (enc_eq (neg := true) (s := ⟨#[8, 52]⟩) ⟨fun _ => (by decide : (8 : UInt8).toNat ≠ 0), fun h => by simp [ByteArray.size] at h⟩ (by decide)).symm
theorem enc_m7 : enc (-7) = .agg #[.bool true, .string ⟨#[7]⟩] := (enc_eq (neg := true) (s := ⟨#[7]⟩) ⟨fun _ => (by decide : (7 : UInt8).toNat ≠ 0), fun h => by simp [ByteArray.size] at h⟩ (by decide)).symm
theorem enc_7 : enc 7 = .agg #[.bool false, .string ⟨#[7]⟩] := (enc_eq (neg := false) (s := ⟨#[7]⟩) ⟨fun _ => (by decide : (7 : UInt8).toNat ≠ 0), fun h => by simp [ByteArray.size] at h⟩ (by decide)).symm
theorem enc_2 : enc 2 = .agg #[.bool false, .string ⟨#[2]⟩] := (enc_eq (neg := false) (s := ⟨#[2]⟩) ⟨fun _ => (by decide : (2 : UInt8).toNat ≠ 0), fun h => by simp [ByteArray.size] at h⟩ (by decide)).symm
theorem enc_m4 : enc (-4) = .agg #[.bool true, .string ⟨#[4]⟩] := (enc_eq (neg := true) (s := ⟨#[4]⟩) ⟨fun _ => (by decide : (4 : UInt8).toNat ≠ 0), fun h => by simp [ByteArray.size] at h⟩ (by decide)).symm
theorem enc_1 : enc 1 = .agg #[.bool false, .string ⟨#[1]⟩] := (enc_eq (neg := false) (s := ⟨#[1]⟩) ⟨fun _ => (by decide : (1 : UInt8).toNat ≠ 0), fun h => by simp [ByteArray.size] at h⟩ (by decide)).symm

/-- A call that hands back a given value, and touches nothing that was there. -/
def RetB (w : World) (v : Value) (e : Ending) (w' : World) : Prop := e = .returned v ∧ Below w.heap.size w w'

theorem known_from (n : Int) (v : Value) (h : enc n = v) (h1 : -9223372036854775808 ≤ n) (h2 : n ≤ 9223372036854775807) (w : World) : Calls Tryd.prog 24 #[.int .i64 n] w (RetB w v) :=
  (fromInt_any n h1 h2 w).mono fun _ _ ⟨he, hb⟩ => ⟨by rw [he, h], hb⟩

theorem known_mul (w : World) : Calls Tryd.prog 10 #[.agg #[.bool true, .string ⟨#[1, 44]⟩], .agg #[.bool false, .string ⟨#[7]⟩]] w (RetB w (.agg #[.bool true, .string ⟨#[8, 52]⟩])) :=
  (mul_short true false ⟨#[1, 44]⟩ ⟨#[7]⟩ (by decide) (by decide) w).mono fun _ _ ⟨he, hb⟩ => ⟨by
    rw [he, ← enc_m2100]
    exact congrArg (fun z => Ending.returned (enc z)) (by decide), hb⟩

theorem known_div (w : World) : Calls Tryd.prog 25 #[.agg #[.bool true, .string ⟨#[7]⟩], .agg #[.bool false, .string ⟨#[2]⟩]] w (RetB w (.tuple #[.agg #[.bool true, .string ⟨#[4]⟩], .agg #[.bool false, .string ⟨#[1]⟩], .int .i64 0])) :=
  (divMod_short true false ⟨#[7]⟩ ⟨#[2]⟩ (by decide) (by decide) (by decide) w).mono fun _ _ ⟨he, hb⟩ => ⟨by
    rw [he, ← enc_m4, ← enc_1]
    exact congrArg (fun z : Int × Int => Ending.returned (.tuple #[enc z.1, enc z.2, .int .i64 0])) (by decide : ((sgn true (bval ⟨#[7]⟩) / sgn false (bval ⟨#[2]⟩), sgn true (bval ⟨#[7]⟩) % sgn false (bval ⟨#[2]⟩)) : Int × Int) = (-4, 1)), hb⟩

set_option maxHeartbeats 4000000 in
set_option maxRecDepth 100000 in
theorem known_any (w : World) : Calls Tryd.prog 8 #[] w (RetB w (.bool true)) := by
  go_enter Tryd.func8, Tryd.ntmps8
  go_wp2_with fail
  refine (known_from (-300) _ enc_m300 (by omega) (by omega) _).mono ?_
  rintro e w1 ⟨rfl, hb1⟩
  go_wp2_with fail
  refine (known_from (-7) _ enc_m7 (by omega) (by omega) _).mono ?_
  rintro e w2 ⟨rfl, hb2⟩
  go_wp2_with fail
  refine (known_from 2 _ enc_2 (by omega) (by omega) _).mono ?_
  rintro e w3 ⟨rfl, hb3⟩
  go_wp2_with fail
  refine (known_div _).mono ?_
  rintro e w4 ⟨rfl, hb4⟩
  have hsz : w1.heap.size < w4.heap.size := by
    have a2 := hb2.size
    have a3 := hb3.size
    have a4 := hb4.size
    simp at a2
    omega
  obtain ⟨k0, k1, _, _⟩ := res2 (g := w1.heap.size) (by exact heap_one _ _) ((hb2.trans (hb3.mono hb2.size)).trans (hb4.mono (Nat.le_trans hb2.size hb3.size))) (by simp)
  have hall : Below w.heap.size w w4 := ((hb1.trans (((Below.refl _ _).alloc (Nat.le_refl _) _).mono hb1.size)).trans (((hb2.trans (hb3.mono hb2.size)).trans (hb4.mono (Nat.le_trans hb2.size hb3.size))).mono (by have := hb1.size; simp <;> omega)))
  have HALL := Lib.hid hall
  clear hb1 hb2 hb3 hb4 hall
  go_wp2_with fail
  go_region_held3 (fun w' => w'.cell? ⟨w1.heap.size, 0, none⟩ = some (.bool true) ∧ w'.cell? ⟨w1.heap.size, 1, none⟩ = some (.string ⟨#[1, 44]⟩) ∧
      w'.cell? ⟨w4.heap.size, 0, none⟩ = some (.bool true) ∧ w'.cell? ⟨w4.heap.size, 1, none⟩ = some (.string ⟨#[4]⟩) ∧
      w'.cell? ⟨w4.heap.size + 1, 0, none⟩ = some (.bool false) ∧ w'.cell? ⟨w4.heap.size + 1, 1, none⟩ = some (.string ⟨#[1]⟩) ∧ w4.heap.size + 2 ≤ w'.heap.size)
    (first
      | go_keep
      | (go_split_ands
         have hb9 := ‹Below _ _ _›
         refine ⟨?_, ?_, ?_, ?_, ?_, ?_, ?_⟩
         · (rw [hb9.cell (by simp <;> omega)]; first | assumption | simp [*])
         · (rw [hb9.cell (by simp <;> omega)]; first | assumption | simp [*])
         · (rw [hb9.cell (by simp <;> omega)]; first | assumption | simp [*])
         · (rw [hb9.cell (by simp <;> omega)]; first | assumption | simp [*])
         · (rw [hb9.cell (by simp <;> omega)]; first | assumption | simp [*])
         · (rw [hb9.cell (by simp <;> omega)]; first | assumption | simp [*])
         · (have := hb9.size; simp at this ⊢; omega)))
    (first
      | (go_at_call 24; refine (known_from 7 _ enc_7 ?_ ?_ _).mono ?_; (omega); (omega); rintro e w5 ⟨rfl, hb5⟩)
      | (go_at_call 10; refine (known_mul _).mono ?_; rintro e w6 ⟨rfl, hb6⟩))
  go_wp2
  go_ret
  have hs1 := HALL.out.size
  have h0 : Below w.heap.size w ((w4.alloc (.cells #[.bool true, .string ⟨#[4]⟩] 23)).alloc (.cells #[.bool false, .string ⟨#[1]⟩] 23)).drew := ((HALL.out.alloc hs1 _).alloc (by simp <;> omega) _).drew
  exact ⟨rfl, (h0.trans (hb5.mono h0.size)).trans (hb6.mono (Nat.le_trans h0.size hb5.size))⟩
end Go.Proofs.YtkaefmfophopoaaDoor
