/-
  The program's integer of some digits.
-/
import Derived.Test.YtoolljoejioigaaIntD
namespace Go.Proofs.Ytoolljoejioigaa
open Go.RowKit
attribute [local go_sem ↓] Go.wp_at_zero Go.wp_at_succ

theorem len128 : Try.prog.arrayLen 82 = 128 := by kernel_rfl

/-- Bytes of a digit are bytes of the number. -/
theorem D_byte (V i r : Nat) (hr : r < 8) : D 256 (D B64 V i) r = D 256 V (8 * i + r) := by
  have e : B64 = 256 ^ 8 := by decide
  unfold D
  rw [e, ← Nat.pow_mul, Nat.pow_add, ← Nat.div_div_eq_div_mul]
  generalize V / 256 ^ (8 * i) = X
  have e2 : (256 : Nat) ^ 8 = 256 ^ r * (256 * 256 ^ (7 - r)) := by
    rw [← Nat.mul_assoc, ← Nat.pow_succ, ← Nat.pow_add]
    congr 1
    omega
  rw [e2, Nat.mod_mul_right_div_self, Nat.mod_mul_right_mod]

theorem pack_places (k V : Nat) (hk : 0 < k) (hV : V < B64 ^ k) (ht : B64 ^ (k - 1) ≤ V) : ∃ lz z, z < 8 ∧ 64 - Lib.bitLen (D B64 V (k - 1)) = lz ∧ lz / 8 = z ∧ lz ≤ 63 ∧ V < 256 ^ (8 * k - z) ∧ D 256 V (8 * k - 1 - z) ≠ 0 := by
  have e : B64 = 256 ^ 8 := by decide
  have hp : 0 < B64 ^ (k - 1) := Nat.pow_pos B64_pos
  have hk1 : B64 ^ k = B64 ^ (k - 1 + 1) := by rw [Nat.sub_add_cancel hk]
  have hd0 : D B64 V (k - 1) ≠ 0 := D_pos B64_pos ht (by rw [← hk1]; exact hV)
  obtain ⟨lz, z, h1, h2, h3, h4, h5, h6⟩ := word_places (D B64 V (k - 1)) hd0 (D64_lt _ _)
  have hd : V / B64 ^ (k - 1) = D B64 V (k - 1) := by
    unfold D
    rw [Nat.mod_eq_of_lt]
    exact Nat.div_lt_of_lt_mul (by rw [← Nat.pow_succ, ← hk1]; exact hV)
  have q1 : V < 256 ^ (8 * k - z) := by
    have a : V < B64 ^ (k - 1) * 256 ^ (8 - z) := by
      rw [← hd] at h6
      have := (Nat.div_lt_iff_lt_mul hp).1 h6
      rwa [Nat.mul_comm]
    rw [e, ← Nat.pow_mul, ← Nat.pow_add, show 8 * (k - 1) + (8 - z) = 8 * k - z by omega] at a
    exact a
  have q2 : 256 ^ (8 * k - 1 - z) ≤ V := by
    have a : 256 ^ (7 - z) * B64 ^ (k - 1) ≤ V := by
      rw [← hd] at h5
      exact (Nat.le_div_iff_mul_le hp).1 h5
    rw [e, ← Nat.pow_mul, ← Nat.pow_add, show 7 - z + 8 * (k - 1) = 8 * k - 1 - z by omega] at a
    exact a
  exact ⟨lz, z, h1, h2, h3, h4, q1, D_pos (by omega) q2 (by rwa [show 8 * k - 1 - z + 1 = 8 * k - z by omega])⟩

theorem nums_append (K : IntKind) (f : Nat → Nat) (a b : Nat) : nums K f (a + b) = nums K f a ++ nums K (fun i => f (a + i)) b := by
  induction b with
  | zero => simp [nums]
  | succ b ih => rw [← Nat.add_assoc, nums_succ, nums_succ, ih, List.append_assoc]

theorem cells_new (w : World) (C : Array Value) (T : TypeId) (l : List Value) (h : C.toList = l) : ∀ j u, l[j]? = some u → (w.alloc (.cells C T)).cell? ((⟨w.heap.size, 0, none⟩ : Addr).add j) = some u := by
  intro j u hj
  rw [Addr.add_lit, Nat.zero_add, cell_of_row _ w.heap.size j C T (0, 0) (heap_alloc_new w _)]
  subst h
  simpa using hj

theorem bytes8 (d : Nat) (hd : d < 18446744073709551616) : #[Value.int .u8 ((d : Int) / 72057594037927936), .int .u8 ((d : Int) / 281474976710656 % 256), .int .u8 ((d : Int) / 1099511627776 % 256), .int .u8 ((d : Int) / 4294967296 % 256),
    .int .u8 ((d : Int) / 16777216 % 256), .int .u8 ((d : Int) / 65536 % 256), .int .u8 ((d : Int) / 256 % 256), .int .u8 ((d : Int) % 256)].toList = nums .u8 (fun p => D 256 d (7 - p)) 8 := by
  simp [nums, List.range_succ, D]
  omega

set_option maxHeartbeats 2000000 in
set_option maxRecDepth 100000 in
theorem pack_any (neg : Bool) (A : Option Addr) (n c V : Nat) (w : World) (hn : n ≤ 1000000000) (h : Ng w A n c V) :
    Calls Try.prog 54 #[.bool neg, .slice A n c] w (RetZ w (sgn neg V)) := by
  have HR := Lib.hid h
  clear h
  obtain ⟨i0, hi, hz0, hz1, hz2⟩ := info_parts byteTy_info
  go_enter Try.func54, Try.ntmps54
  go_wp2_with fail
  refine (trim_any A n c V _ (by omega) (HR.out.alloc _)).mono ?_
  rintro e w1 ⟨k, hk, rfl, hm, rfl⟩
  have HM := Lib.hid hm
  clear hm
  by_cases h0 : 0 < k
  · obtain ⟨lz, z, hz, hlz, hzz, hl, hhi, htop⟩ := pack_places k V h0 HM.out.lt (HM.out.top h0)
    have HLZ := Lib.hid hlz
    have HHI := Lib.hid hhi
    have HTOP := Lib.hid htop
    have hq : (lz : Int) / 8 = (z : Int) := by omega
    clear hlz hhi htop hzz
    have hk0 : ((k : Int) == 0) = false := by simp; omega
    go_wp2
    go_loopw [6, 7] (fun v i wr => ∃ j : Nat, j ≤ k ∧ i = .int .i64 ((k : Int) - 1 - j) ∧ Own wr (w.heap.size + 1) v (8 * j) (nums .u8 (fun p => D 256 V (8 * k - 1 - p)) (8 * j)) ∧
        Below (w.heap.size + 1) (w.alloc (.cells #[.bool false, .string ⟨#[]⟩] 23)) wr ∧ w.heap.size + 2 ≤ wr.heap.size) (fun _ i _ => (intOf i + 1).toNat)
    case atStart => exact ⟨0, by omega, by simp, Own.start (heap_two _ _ _) (Nat.le_refl _) (by simp) (by simp [maxLen]), (Below.refl _ _).alloc (by simp) _, by simp⟩
    case round =>
      obtain ⟨j, hj, rfl, hown, hbl, hsz⟩ := hrel
      by_cases hlt : j < k
      · have hnr := HM.out.below (hbl.mono (by simp))
        obtain ⟨g, o, rfl, hg, hcell⟩ := hnr.rd (by omega)
        have hcj : wr.cell? ⟨g, o + (k - 1 - j), none⟩ = some (.int .u64 (D B64 V (k - 1 - j) : Int)) := hcell _ (by omega)
        have hd := D64_lt V (k - 1 - j)
        have hD := Lib.hid (D_byte V (k - 1 - j))
        clear hcell hnr
        generalize D B64 V (k - 1 - j) = d at *
        go_wp2_with (at_builtin; refine wpList_append_Own _ rfl _ _ 76 rfl (w.heap.size + 1) 5 i0 (.int .u8 0) 1 Try.underlying76 hi hz0 hz1 hz2 rfl _ _ _ rfl (hown.alloc _) ⟨wr.heap.size, 0, none⟩ 8 8 (nums .u8 (fun p => D 256 d (7 - p)) 8) rfl (by rw [nums_length]) (by omega) ?_ ?_ ?_ ?_ ?_ ?_)
        · exact cells_new wr _ _ _ (bytes8 d hd)
        · intro u hu; unfold nums at hu; obtain ⟨_, _, rfl⟩ := List.mem_map.1 hu; rfl
        · unfold maxLen; omega
        · omega
        · simp; omega
        intro v' w2 hown' hgrow hat
        have hown2 : Own w2 (w.heap.size + 1) v' (8 * (j + 1)) (nums .u8 (fun p => D 256 V (8 * k - 1 - p)) (8 * (j + 1))) := by
          have e : nums .u8 (fun p => D 256 d (7 - p)) 8 = nums .u8 (fun i => D 256 V (8 * k - 1 - (8 * j + i))) 8 := nums_congr fun p hp => by
            rw [hD.out (7 - p) (by omega)]
            congr 1
            omega
          rw [show 8 * (j + 1) = 8 * j + 8 by omega, nums_append, ← e]
          exact hown'
        have hbl1 : Below (w.heap.size + 1) wr w2 := ((Below.refl _ _).alloc (by omega) _).grown hgrow (by simp; omega) (fun g hg => ((hown.lt) g hg).1)
        have hsz2 := hbl1.size
        clear hgrow hown' hown hat
        go_wp2
        go_roundw
        case rel => exact ⟨j + 1, by omega, by go_num, hown2, hbl.trans hbl1, by omega⟩
        case measure => simp [intOf] <;> omega
      · obtain rfl : j = k := by omega
        have hnr := HM.out.below (hbl.mono (by simp))
        obtain ⟨g, o, rfl, hg, hcell⟩ := hnr.rd (by omega)
        have hcj : wr.cell? ⟨g, o + (j - 1), none⟩ = some (.int .u64 (D B64 V (j - 1) : Int)) := hcell _ (by omega)
        have hd := D64_lt V (j - 1)
        have ho := hown
        obtain ⟨A2, c2, rfl, hc2, hr2⟩ := hown.rd
        obtain ⟨g2, o2, rfl, hg2, hcell2⟩ := hr2 (by omega)
        have hstr := str_of_cells wr 76 9 5 Try.underlying76 Try.underlying5 Try.underlying9 g2 (o2 + z) (8 * j - z) (c2 - z) (fun p => D 256 V (8 * j - 1 - (z + p))) (fun i hi => D_lt (by omega) _ _) (fun i hi => by
          rw [Nat.add_assoc, hcell2 (z + i) (by omega)])
        obtain ⟨q0, q1, f0, f1⟩ := res2 (g := w.heap.size) (by exact heap_one _ _) hbl (by simp)
        clear hcell hnr hown ho hr2 hcell2
        generalize D B64 V (j - 1) = d at *
        go_wp2_with fail
        refine (lz_any d lz HLZ.out hd _).mono ?_
        rintro e w' ⟨rfl, rfl⟩
        go_wp2
        refine bodyPost_ret (v := .agg #[.bool neg, .string (bytesOf (fun p => D 256 V (8 * j - 1 - (z + p))) (8 * j - z))]) (by simp [results, Try.results54, go_sem, q0, q1]) rfl ⟨?_, ?_⟩
        · refine congrArg Ending.returned (sgn_enc (fun i hi => D_lt (by omega) _ _) (fun _ => by rw [Nat.add_zero]; exact HTOP.out) ?_ ?_)
          · rw [val_congr (g := D 256 V) (fun i hi => by rw [show 8 * j - 1 - (z + (8 * j - z - 1 - i)) = i by omega]), val_D, Nat.mod_eq_of_lt HHI.out]
          · intro h
            have := HTOP.out
            rw [h] at this
            simp [D] at this
        · exact ((((Below.refl _ _).alloc (Nat.le_refl _) _).trans (hbl.mono (by omega))).setCell (by simp) _).setCell (by simp) _
  · go_wp2
    refine bodyPost_ret (v := .agg #[.bool false, .string ⟨#[]⟩]) (by simp [results, Try.results54, go_sem]) rfl ⟨?_, (Below.refl _ _).alloc (Nat.le_refl _) _⟩
    have hV : V = 0 := HM.out.zero.1 (by omega)
    rw [hV, sgn_zero, enc_zero]
end Go.Proofs.Ytoolljoejioigaa
