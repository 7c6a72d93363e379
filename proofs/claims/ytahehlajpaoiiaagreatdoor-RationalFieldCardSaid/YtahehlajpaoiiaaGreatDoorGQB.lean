import Derived.Test.YtahehlajpaoiiaaGreatDoorGIntE
import Derived.Test.YtahehlajpaoiiaaGreatDoorGQA

/-
  The program's product and quotient of short integers.
-/
namespace Go.Proofs.YtahehlajpaoiiaaGreatDoor
open Go.RowKit
attribute [local go_sem ↓] Go.wp_at_zero Go.wp_at_succ

theorem mul64_any (x y : Nat) (hx : x < 18446744073709551616) (hy : y < 18446744073709551616) (hi lo : Nat) (h1 : x * y / 18446744073709551616 = hi) (h2 : x * y % 18446744073709551616 = lo) (w : World) :
    Calls Tryz.prog 107 #[.int .u64 (x : Int), .int .u64 (y : Int)] w (RetV w (.tuple #[.int .u64 (hi : Int), .int .u64 (lo : Int)])) :=
  (Tryz.bits_Mul64 x y hx hy w).mono fun e w' ⟨he, hw⟩ => ⟨by rw [he, h1, h2], hw.symm⟩

theorem RetQ.form {w : World} {q r err : Int} {e : Ending} {w' : World} (h : RetQ w q r err e w') : ∃ b1 m1 b2 m2, Hid (enc q = .agg #[.bool b1, .string m1]) ∧ Hid (enc r = .agg #[.bool b2, .string m2]) ∧
    e = .returned (.tuple #[.agg #[.bool b1, .string m1], .agg #[.bool b2, .string m2], .int .i64 err]) ∧ Below w.heap.size w w' := ⟨_, _, _, _, rfl, rfl, h.1, h.2⟩

/-- Four new blocks by their number. -/
theorem heap_four (w : World) (o1 o2 o3 o4 : Obj) : ((((w.alloc o1).alloc o2).alloc o3).alloc o4).heap[w.heap.size]? = some o1 ∧ ((((w.alloc o1).alloc o2).alloc o3).alloc o4).heap[w.heap.size + 1]? = some o2 ∧
    ((((w.alloc o1).alloc o2).alloc o3).alloc o4).heap[w.heap.size + 2]? = some o3 ∧ ((((w.alloc o1).alloc o2).alloc o3).alloc o4).heap[w.heap.size + 3]? = some o4 := by
  have h4 := heap_one (((w.alloc o1).alloc o2).alloc o3) o4
  refine ⟨?_, ?_, ?_, by simpa using h4⟩
  · exact (Below.heap_alloc _ _ _ (by simp <;> omega)).trans ((Below.heap_alloc _ _ _ (by simp <;> omega)).trans (heap_fst _ _ _))
  · exact (Below.heap_alloc _ _ _ (by simp <;> omega)).trans ((Below.heap_alloc _ _ _ (by simp <;> omega)).trans (heap_two _ _ _))
  · exact (Below.heap_alloc _ _ _ (by simp <;> omega)).trans (heap_three _ _ _ _)

theorem rd_two (w : World) (g : Nat) (T : TypeId) (a b : Nat) (f : Nat → Nat) (h : w.heap[g]? = some (.cells #[.int .u64 (a : Int), .int .u64 (b : Int)] T (0, 0))) (h0 : f 0 = a) (h1 : f 1 = b) : Rd w .u64 (some ⟨g, 0, none⟩) 2 f := fun _ => by
  refine ⟨g, 0, rfl, (Array.getElem?_eq_some_iff.1 h).1, fun i hi => ?_⟩
  match i, hi with
  | 0, _ => rw [h0]; simp [World.cell?, h]
  | 1, _ => rw [h1]; simp [World.cell?, h]

theorem bval_64 {a : ByteArray} (h : a.size ≤ 8) : bval a < 18446744073709551616 := by
  have h1 := bval_lt a
  have h2 : (256 : Nat) ^ a.size ≤ 256 ^ 8 := Nat.pow_le_pow_right (by omega) h
  have h3 : (256 : Nat) ^ 8 = 18446744073709551616 := by decide
  omega

set_option maxHeartbeats 2000000 in
set_option maxRecDepth 100000 in
theorem mul_short (na nb : Bool) (a b : ByteArray) (ha : a.size ≤ 8) (hb : b.size ≤ 8) (w : World) :
    Calls Tryz.prog 79 #[.agg #[.bool na, .string a], .agg #[.bool nb, .string b]] w (RetZ w (sgn (na != nb) (bval a * bval b))) := by
  have hx := bval_64 ha
  have hy := bval_64 hb
  have hV : bval a * bval b < B64 ^ 2 := by
    have h1 := Nat.mul_lt_mul'' hx hy
    rw [B64_eq, Nat.pow_two]
    exact h1
  have hlo : D B64 (bval a * bval b) 0 = bval a * bval b % 18446744073709551616 := by simp [D, B64_eq]
  have hhi : D B64 (bval a * bval b) 1 = bval a * bval b / 18446744073709551616 := by
    unfold D
    rw [Nat.pow_one, Nat.mod_eq_of_lt]
    · rw [B64_eq]
    · exact Nat.div_lt_of_lt_mul (by rw [← Nat.pow_two]; exact hV)
  generalize hxa : bval a = x at *
  generalize hyb : bval b = y at *
  generalize hVV : x * y = V at *
  have HVV := Lib.hid hVV
  have HV := Lib.hid hV
  obtain ⟨lo, hl⟩ : ∃ lo, D B64 V 0 = lo := ⟨_, rfl⟩
  obtain ⟨hi, hh⟩ : ∃ hi, D B64 V 1 = hi := ⟨_, rfl⟩
  have HL := Lib.hid hl
  have HH := Lib.hid hh
  have HLO := Lib.hid (hlo.symm.trans hl)
  have HHI := Lib.hid (hhi.symm.trans hh)
  have HX := Lib.hid hxa
  have HY := Lib.hid hyb
  clear hV hlo hhi hxa hyb hVV hl hh
  go_enter Tryz.func79, Tryz.ntmps79
  go_wp2_with fail
  refine (words_yes na nb a b ha hb _).mono ?_
  rintro e w1 ⟨rfl, hb1⟩
  obtain ⟨p0, p1, g0, g1⟩ := res2 (g := w.heap.size + 2) (by exact heap_three _ _ _ _) hb1 (by simp)
  rw [HX.out, HY.out]
  go_wp2_with fail
  refine (mul64_any x y hx hy hi lo (by rw [HVV.out]; exact HHI.out) (by rw [HVV.out]; exact HLO.out) _).mono ?_
  rintro e w' ⟨rfl, rfl⟩
  go_wp2_with fail
  refine (pack_any _ _ 2 2 V _ (by omega) ⟨HV.out, by omega, rd_two _ _ _ lo hi _ (heap_one _ _) HL.out HH.out⟩).mono fun e w2 h => ?_
  obtain ⟨b2, m2, HB2, rfl, hb2⟩ := h.form
  have hbA : Below w1.heap.size w1 (w1.alloc (.cells #[.int .u64 (lo : Int), .int .u64 (hi : Int)] 106)) := (Below.refl _ _).alloc (Nat.le_refl _) _
  have hb3 := hb1.trans ((hbA.trans (hb2.mono hbA.size)).mono hb1.size)
  obtain ⟨p0, p1, g0, g1⟩ := res2 (g := w.heap.size + 2) (by exact heap_three _ _ _ _) hb3 (by simp)
  have HB3 := Lib.hid hb3
  clear h hb1 hb2 hb3
  go_wp2
  refine bodyPost_ret (v := .agg #[.bool b2, .string m2]) (by simp [results, Tryz.results79, go_sem, p0, p1]) rfl ⟨?_, ?_⟩
  · rw [← HB2.out]
    have e : (!na == nb) = (na != nb) := by cases na <;> cases nb <;> rfl
    first | rw [e] | rfl
  · exact ((Below.trans ((((Below.refl _ _).alloc (Nat.le_refl _) _).alloc (by simp <;> omega) _).alloc (by simp <;> omega) _) (HB3.out.mono (B' := w.heap.size) (by simp <;> omega))).setCell (by simp <;> omega) _).setCell (by simp <;> omega) _

set_option maxHeartbeats 2000000 in
set_option maxRecDepth 100000 in
theorem divMod_short (na nb : Bool) (a b : ByteArray) (ha : a.size ≤ 8) (hb : b.size ≤ 8) (h0 : bval b ≠ 0) (w : World) :
    Calls Tryz.prog 84 #[.agg #[.bool na, .string a], .agg #[.bool nb, .string b]] w (RetQ w (sgn na (bval a) / sgn nb (bval b)) (sgn na (bval a) % sgn nb (bval b)) 0) := by
  have hx := bval_64 ha
  have hy := bval_64 hb
  generalize hxa : bval a = x at *
  generalize hyb : bval b = y at *
  have HX := Lib.hid hxa
  have HY := Lib.hid hyb
  have hne : ((y : Int) != 0) = true := by simp; omega
  clear hxa hyb
  go_enter Tryz.func84, Tryz.ntmps84
  go_wp2_with fail
  refine (words_yes na nb a b ha hb _).mono ?_
  rintro e w1 ⟨rfl, hb1⟩
  obtain ⟨k1, k2, k3, k4⟩ := heap_four w (.cells #[.bool na, .string a] 23) (.cells #[.bool nb, .string b] 23) (.cells #[.bool false, .string ⟨#[]⟩] 23) (.cells #[.bool false, .string ⟨#[]⟩] 23)
  have HK3 := Lib.hid k3
  have HK4 := Lib.hid k4
  obtain ⟨c0, c1, d0, d1⟩ := res2 (g := w.heap.size) (by exact k1) hb1 (by simp <;> omega)
  obtain ⟨c2, c3, d2, d3⟩ := res2 (g := w.heap.size + 1) (by exact k2) hb1 (by simp <;> omega)
  clear k1 k2 k3 k4
  rw [HX.out, HY.out]
  go_wp2_with fail
  refine (divModWords_any na nb x y hx hy h0 _).mono fun e w2 h => ?_
  obtain ⟨b1, m1, b2, m2, HB1, HB2, rfl, hb2⟩ := h.form
  have hb3 := hb1.trans (hb2.mono hb1.size)
  obtain ⟨p0, p1, g0, g1⟩ := res2 (g := w.heap.size + 2) (by exact HK3.out) hb3 (by simp <;> omega)
  obtain ⟨q0, q1, f0, f1⟩ := res2 (g := w.heap.size + 3) (by exact HK4.out) hb3 (by simp <;> omega)
  have HB3 := Lib.hid hb3
  clear h hb1 hb2 hb3 c0 c1 d0 d1 c2 c3 d2 d3
  go_wp2
  refine bodyPost_ret (v := .tuple #[.agg #[.bool b1, .string m1], .agg #[.bool b2, .string m2], .int .i64 0]) (by simp [results, Tryz.results84, go_sem, p0, p1, q0, q1]) rfl ⟨?_, ?_⟩
  · rw [← HB1.out, ← HB2.out]
  · exact ((((Below.trans (((((Below.refl _ _).alloc (Nat.le_refl _) _).alloc (by simp <;> omega) _).alloc (by simp <;> omega) _).alloc (by simp <;> omega) _) (HB3.out.mono (B' := w.heap.size) (by simp <;> omega))).setCell (by simp <;> omega) _).setCell (by simp <;> omega) _).setCell (by simp <;> omega) _).setCell (by simp <;> omega) _
end Go.Proofs.YtahehlajpaoiiaaGreatDoor


/-
  The examples of the chapter that every statement of layer 1 asks.
-/
namespace Go.Proofs.YtahehlajpaoiiaaGreatDoor
open Go.RowKit
attribute [local go_sem ↓] Go.wp_at_zero Go.wp_at_succ

theorem enc_m300 : enc (-300) = .agg #[.bool true, .string ⟨#[1, 44]⟩] := (enc_eq (neg := true) (s := ⟨#[1, 44]⟩) ⟨fun _ => (by decide : (1 : UInt8).toNat ≠ 0), fun h => by simp [ByteArray.size] at h⟩ (by decide)).symm
theorem enc_m2100 : enc (-2100) = .agg #[.bool true, .string ⟨#[8, 52]⟩] := (enc_eq (neg := true) (s := ⟨#[8, 52]⟩) ⟨fun _ => (by decide : (8 : UInt8).toNat ≠ 0), fun h => by simp [ByteArray.size] at h⟩ (by decide)).symm
theorem enc_m7 : enc (-7) = .agg #[.bool true, .string ⟨#[7]⟩] := (enc_eq (neg := true) (s := ⟨#[7]⟩) ⟨fun _ => (by decide : (7 : UInt8).toNat ≠ 0), fun h => by simp [ByteArray.size] at h⟩ (by decide)).symm
theorem enc_7 : enc 7 = .agg #[.bool false, .string ⟨#[7]⟩] := (enc_eq (neg := false) (s := ⟨#[7]⟩) ⟨fun _ => (by decide : (7 : UInt8).toNat ≠ 0), fun h => by simp [ByteArray.size] at h⟩ (by decide)).symm
theorem enc_2 : enc 2 = .agg #[.bool false, .string ⟨#[2]⟩] := (enc_eq (neg := false) (s := ⟨#[2]⟩) ⟨fun _ => (by decide : (2 : UInt8).toNat ≠ 0), fun h => by simp [ByteArray.size] at h⟩ (by decide)).symm
theorem enc_m4 : enc (-4) = .agg #[.bool true, .string ⟨#[4]⟩] := (enc_eq (neg := true) (s := ⟨#[4]⟩) ⟨fun _ => (by decide : (4 : UInt8).toNat ≠ 0), fun h => by simp [ByteArray.size] at h⟩ (by decide)).symm
theorem enc_1 : enc 1 = .agg #[.bool false, .string ⟨#[1]⟩] := (enc_eq (neg := false) (s := ⟨#[1]⟩) ⟨fun _ => (by decide : (1 : UInt8).toNat ≠ 0), fun h => by simp [ByteArray.size] at h⟩ (by decide)).symm

/-- A call that hands back a given value, and touches nothing that was there. -/
def RetB (w : World) (v : Value) (e : Ending) (w' : World) : Prop := e = .returned v ∧ Below w.heap.size w w'

theorem known_from (n : Int) (v : Value) (h : enc n = v) (h1 : -9223372036854775808 ≤ n) (h2 : n ≤ 9223372036854775807) (w : World) : Calls Tryz.prog 69 #[.int .i64 n] w (RetB w v) :=
  (fromInt_any n h1 h2 w).mono fun _ _ ⟨he, hb⟩ => ⟨by rw [he, h], hb⟩

theorem known_mul (w : World) : Calls Tryz.prog 79 #[.agg #[.bool true, .string ⟨#[1, 44]⟩], .agg #[.bool false, .string ⟨#[7]⟩]] w (RetB w (.agg #[.bool true, .string ⟨#[8, 52]⟩])) :=
  (mul_short true false ⟨#[1, 44]⟩ ⟨#[7]⟩ (by decide) (by decide) w).mono fun _ _ ⟨he, hb⟩ => ⟨by
    rw [he, ← enc_m2100]
    exact congrArg (fun z => Ending.returned (enc z)) (by decide), hb⟩

theorem known_div (w : World) : Calls Tryz.prog 84 #[.agg #[.bool true, .string ⟨#[7]⟩], .agg #[.bool false, .string ⟨#[2]⟩]] w (RetB w (.tuple #[.agg #[.bool true, .string ⟨#[4]⟩], .agg #[.bool false, .string ⟨#[1]⟩], .int .i64 0])) :=
  (divMod_short true false ⟨#[7]⟩ ⟨#[2]⟩ (by decide) (by decide) (by decide) w).mono fun _ _ ⟨he, hb⟩ => ⟨by
    rw [he, ← enc_m4, ← enc_1]
    exact congrArg (fun z : Int × Int => Ending.returned (.tuple #[enc z.1, enc z.2, .int .i64 0])) (by decide : ((sgn true (bval ⟨#[7]⟩) / sgn false (bval ⟨#[2]⟩), sgn true (bval ⟨#[7]⟩) % sgn false (bval ⟨#[2]⟩)) : Int × Int) = (-4, 1)), hb⟩

end Go.Proofs.YtahehlajpaoiiaaGreatDoor


/-
  The second reference's integers out of digits, and the order of digits.
-/
namespace Go.Proofs.YtahehlajpaoiiaaGreatDoor
open Go.RowKit
attribute [local go_sem ↓] Go.wp_at_zero Go.wp_at_succ

set_option maxHeartbeats 1000000 in
set_option maxRecDepth 100000 in
theorem rwhole (neg : Bool) (A : Option Addr) (n c V : Nat) (w : World) (hn : n ≤ 1000000000) (hcc : n ≤ c) (hr : Dg w .i64 256 A n V) :
    Calls Tryz.prog 86 #[.slice A n c, .bool neg] w (RetZ w (sgn neg V)) := by
  have hnv := number_value (neg := neg) (f := D 256 V) (k := nd V) (n := nd V) (fun i _ => D_lt (by omega) V i) (Nat.le_refl _) (fun i h1 h2 => by omega) (fun h => nd_top h)
  rw [val_D, Nat.mod_eq_of_lt (nd_lt V)] at hnv
  have hle := nd_le hr.lt
  have HRT := Lib.hid (fun W (h : Dg W .i64 256 A n V) => rtrim_any A n c V W hn hcc h)
  have HF := Lib.hid (fun i => D_lt (b := 256) (by omega) V i)
  have HV := Lib.hid hnv
  have HR := Lib.hid (hr.rd.take hle)
  have HD := Lib.hid hr
  clear hnv hr
  generalize nd V = k at *
  generalize hf : D 256 V = f at *
  clear hf
  have hmk := fun W => run_make_row' (P := Tryz.prog) 130 5 (.int .u8 0) 1 Tryz.underlying130 byteTy_info rfl .i64 .i64 k (by omega) (by omega) W
  go_enter Tryz.func86, Tryz.ntmps86
  go_wp2_with fail
  refine (HRT.out _ (HD.out.alloc _)).mono ?_
  rintro e w' ⟨rfl, rfl⟩
  by_cases h1 : 0 < k
  · obtain ⟨g, o, rfl, hg, hcell⟩ := HR.out h1
    have HC := Lib.hid hcell
    clear hcell
    go_wp2
    go_loopw [6] (fun i wr => ∃ j : Nat, j ≤ k ∧ i = .int .i64 j ∧ wr.rowIs (w.heap.size + 1) 5 k (fun m => .int .u8 ((if k - 1 - m < j then f (k - 1 - m) else 0 : Nat) : Int)) ∧
        Below (w.heap.size + 1) (w.alloc (.cells #[.bool false, .string ⟨#[]⟩] 23)) wr) (fun i _ => k - (intOf i).toNat)
    case atStart => exact ⟨0, Nat.zero_le _, rfl, by simpa using World.rowIs_made (w.alloc (.cells #[.bool false, .string ⟨#[]⟩] 23)) (.int .u8 0) k 5, (Below.refl _ _).alloc (by simp) _⟩
    case round =>
      obtain ⟨j, hj, rfl, hrow, hbl⟩ := hrel
      by_cases hjk : j < k
      · have hcj : wr.cell? ⟨g, o + j, none⟩ = some (.int .i64 (f j : Int)) := by
          rw [hbl.cell (p := ⟨g, o + j, none⟩) (by show g < _; omega), World.cell?_alloc_past _ _ _ hg]; exact HC.out j (by omega)
        have hcs := hrow.cell (i := k - 1 - j) (by omega)
        have hfs := hrow.frozen (k - 1 - j)
        have hfj := HF.out j
        go_wp2
        go_roundw
        case rel =>
          refine ⟨j + 1, by omega, by go_num, (hrow.set (k - 1 - j) _).congr fun m hm => ?_, hbl.setCell (by simp) _⟩
          by_cases e : m = k - 1 - j
          · rw [if_pos e, if_pos (by omega), show k - 1 - m = j by omega]
          · rw [if_neg e]
            by_cases e2 : k - 1 - m < j
            · rw [if_pos e2, if_pos (by omega)]
            · rw [if_neg e2, if_neg (by omega)]
        case measure => simp [intOf]; omega
      · obtain rfl : j = k := by omega
        have hstr := str_of_cells wr 130 9 5 Tryz.underlying130 Tryz.underlying5 Tryz.underlying9 (w.heap.size + 1) 0 j j (fun i => f (j - 1 - i)) (fun i hi => HF.out _) (fun i hi => by
          rw [Nat.zero_add, hrow.cell hi, if_pos (by omega)])
        have hc0 : wr.cell? ⟨w.heap.size, 0, none⟩ = some (.bool false) := (hbl.cell (p := ⟨w.heap.size, 0, none⟩) (by simp)).trans (by simp)
        have hc1 : wr.cell? ⟨w.heap.size, 1, none⟩ = some (.string ⟨#[]⟩) := (hbl.cell (p := ⟨w.heap.size, 1, none⟩) (by simp)).trans (by simp)
        have hf0 : wr.frozen? ⟨w.heap.size, 0, none⟩ = false := (hbl.frozen (p := ⟨w.heap.size, 0, none⟩) (by simp)).trans (by simp)
        have hf1 : wr.frozen? ⟨w.heap.size, 1, none⟩ = false := (hbl.frozen (p := ⟨w.heap.size, 1, none⟩) (by simp)).trans (by simp)
        have hbelow : Below w.heap.size w ((wr.setCell ⟨w.heap.size, 0, none⟩ (.bool neg)).setCell ⟨w.heap.size, 1, none⟩ (.string (bytesOf (fun i => f (j - 1 - i)) j))) := ((((Below.refl _ _).alloc (Nat.le_refl _) _).trans (hbl.mono (by omega))).setCell (by simp) _).setCell (by simp) _
        cases neg
        all_goals
          go_wp2
          refine bodyPost_ret (v := .agg #[_, .string (bytesOf (fun i => f (j - 1 - i)) j)]) (by simp [results, Tryz.results86, go_sem, hc0, hc1]; rfl) rfl ⟨?_, hbelow⟩
          have hv := HV.out
          simp [h1] at hv
          rw [hv]
  · go_wp2
    go_loopw [6] (fun i wr => i = .int .i64 0 ∧ wr = (w.alloc (.cells #[.bool false, .string ⟨#[]⟩] 23)).alloc (.cells (madeCells #[.int .u8 0] k) 5)) (fun _ _ => 0)
    case atStart => exact ⟨rfl, rfl⟩
    case round =>
      obtain ⟨rfl, rfl⟩ := hrel
      have hstr := fun W => str_of_cells W 130 9 5 Tryz.underlying130 Tryz.underlying5 Tryz.underlying9 (w.heap.size + 1) 0 k k (fun i => f (k - 1 - i)) (fun i hi => by omega) (fun i hi => by omega)
      cases neg
      all_goals
        go_wp2
        refine bodyPost_ret (v := .agg #[_, .string (bytesOf (fun i => f (k - 1 - i)) k)]) (by simp [results, Tryz.results86, go_sem]; rfl) rfl ⟨?_, ?_⟩
        · have hv := HV.out
          simp [h1] at hv
          rw [hv]
        · exact ((Below.refl _ _).alloc (Nat.le_refl _) _).alloc (by simp) _

/-- A call that hands back a value, the world as it was but for draws. -/
def RetDw (w : World) (v : Value) (e : Ending) (w' : World) : Prop := e = .returned v ∧ ∃ n, w' = w.drewN n

theorem qd {w wr : World} {k : Nat} (h : ∃ q, wr = w.drewN q) : ∃ n, wr.drewN k = w.drewN n := by
  obtain ⟨q, rfl⟩ := h
  exact ⟨q + k, by simp⟩

set_option maxHeartbeats 1000000 in
set_option maxRecDepth 100000 in
theorem rcompare_any (A B : Option Addr) (n m c d X Y : Nat) (w : World) (hn : n ≤ 1000000000) (hm : m ≤ 1000000000) (hx : Tr w A n c X) (hy : Tr w B m d Y) :
    Calls Tryz.prog 77 #[.slice A n c, .slice B m d] w (RetDw w (.int .i64 (ord X Y))) := by
  have hnX := hx.ln
  have hmY := hy.ln
  rcases Nat.lt_trichotomy n m with h | h | h
  · have hlt : ord X Y = -1 := ord_lt (lt_of_nd (by omega))
    rw [hlt]
    have h1 : ((n : Int) != (m : Int)) = true := by simp; omega
    have h2 : decide (n < m) = true := by simpa using h
    clear hlt hnX hmY hx hy
    go_enter Tryz.func77, Tryz.ntmps77
    go_wp2
    go_ret
    exact ⟨rfl, 0, rfl⟩
  · subst h
    have hstep : ∀ j, X / 256 ^ (j + 1) = Y / 256 ^ (j + 1) → D 256 X j = D 256 Y j → X / 256 ^ j = Y / 256 ^ j := fun j h1 h2 => by rw [div_D 256 X j, div_D 256 Y j, h1, h2]
    have hlo : ∀ j, X / 256 ^ (j + 1) = Y / 256 ^ (j + 1) → D 256 X j < D 256 Y j → ord X Y = -1 := fun j h1 h2 => ord_lt (lt_of_digit h1 h2)
    have hhi : ∀ j, X / 256 ^ (j + 1) = Y / 256 ^ (j + 1) → D 256 Y j < D 256 X j → ord X Y = 1 := fun j h1 h2 => ord_gt (lt_of_digit h1.symm h2)
    have hst : X / 256 ^ n = Y / 256 ^ n := by rw [Nat.div_eq_of_lt hx.dg.lt, Nat.div_eq_of_lt hy.dg.lt]
    have HX := Lib.hid hx.dg.rd
    have HY := Lib.hid hy.dg.rd
    have HS := Lib.hid hstep
    have HL := Lib.hid hlo
    have HH := Lib.hid hhi
    have HT := Lib.hid hst
    clear hx hy hstep hlo hhi hst hnX hmY
    go_enter Tryz.func77, Tryz.ntmps77
    go_wp2
    go_loopw [5] (fun i wr => ∃ k : Nat, k ≤ n ∧ i = .int .i64 ((k : Int) - 1) ∧ Hid (X / 256 ^ k = Y / 256 ^ k) ∧ Hid (∃ q, wr = w.drewN q)) (fun i _ => (intOf i + 1).toNat)
    case atStart => exact ⟨n, Nat.le_refl _, rfl, HT.out, 0, rfl⟩
    case round =>
      obtain ⟨k, hk, rfl, HE, HQ⟩ := hrel
      rcases k with _ | j
      · have e : (((0 : Nat) : Int) - 1) = -1 := rfl
        rw [e]
        go_wp2
        go_ret
        have h := HE.out
        simp at h
        subst h
        exact ⟨congrArg (fun z => Ending.returned (.int .i64 z)) (ord_eq X).symm, HQ.out⟩
      · have e : (((j + 1 : Nat) : Int) - 1) = (j : Int) := by omega
        rw [e]
        clear e
        obtain ⟨g, o, rfl, hg, hcell⟩ := HX.out (by omega)
        obtain ⟨g', o', rfl, hg', hcell'⟩ := HY.out (by omega)
        have hc1 : wr.cell? ⟨g, o + j, none⟩ = some (.int .i64 (D 256 X j : Int)) := by obtain ⟨q, hq⟩ := HQ.out; rw [hq, World.cell?_drewN]; exact hcell j (by omega)
        have hc2 : wr.cell? ⟨g', o' + j, none⟩ = some (.int .i64 (D 256 Y j : Int)) := by obtain ⟨q, hq⟩ := HQ.out; rw [hq, World.cell?_drewN]; exact hcell' j (by omega)
        have HJ := Lib.hid (HS.out j HE.out)
        have HJ1 := Lib.hid (HL.out j HE.out)
        have HJ2 := Lib.hid (HH.out j HE.out)
        clear hcell hcell'
        generalize D 256 X j = p at *
        generalize D 256 Y j = q at *
        rcases Nat.lt_trichotomy p q with h | h | h
        · have h1 : decide (p < q) = true := by simpa using h
          go_wp2_with fail
          go_quiet (fail)
          go_wp2
          go_ret
          exact ⟨congrArg (fun z => Ending.returned (.int .i64 z)) (HJ1.out h).symm, by first | exact qd HQ.out | exact qd (qd HQ.out)⟩
        · subst h
          go_wp2_with fail
          go_quiet (fail)
          go_wp2_with fail
          go_quiet (fail)
          go_wp2
          go_roundw
          case rel => exact ⟨j, by omega, rfl, HJ.out (by first | rfl | trivial), by first | exact qd HQ.out | exact qd (qd HQ.out)⟩
          case measure => simp [intOf]
        · go_wp2_with fail
          go_quiet (fail)
          go_wp2_with fail
          go_quiet (fail)
          go_wp2
          go_ret
          exact ⟨congrArg (fun z => Ending.returned (.int .i64 z)) (HJ2.out h).symm, by first | exact qd HQ.out | exact qd (qd HQ.out)⟩
  · have hlt : ord X Y = 1 := ord_gt (lt_of_nd (by omega))
    rw [hlt]
    have h1 : ((n : Int) != (m : Int)) = true := by simp; omega
    have h2 : decide (n < m) = false := by simp; omega
    clear hlt hnX hmY hx hy
    go_enter Tryz.func77, Tryz.ntmps77
    go_wp2
    go_ret
    exact ⟨rfl, 0, rfl⟩
end Go.Proofs.YtahehlajpaoiiaaGreatDoor
