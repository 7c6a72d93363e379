import Derived.Test.YtahehlajpaoiiaaGreatDoorGRPD
import Derived.Test.YtahehlajpaoiiaaGreatDoorGQX
import Derived.Test.YtahehlajpaoiiaaGreatDoorGQV

/-
  The fractions that the chapter's examples speak of.
-/
namespace Go.Proofs.YtahehlajpaoiiaaGreatDoor
open Go.RowKit
attribute [local go_sem ↓] Go.wp_at_zero Go.wp_at_succ

theorem bval_lit (c : UInt8) : bval ⟨#[c]⟩ = c.toNat := by
  show 0 + dig ⟨#[c]⟩ 0 * 256 ^ 0 = c.toNat
  rw [show dig ⟨#[c]⟩ 0 = c.toNat from rfl]
  simp
theorem lit_one (neg : Bool) (c : UInt8) (x : Int) (hc : c.toNat ≠ 0) (hx : x = sgn neg c.toNat) : enc x = .agg #[.bool neg, .string ⟨#[c]⟩] := by
  rw [hx]
  have h := enc_eq (neg := neg) (s := ⟨#[c]⟩) ⟨fun _ => hc, fun h => by simp [ByteArray.size] at h⟩ (z := sgn neg c.toNat) (by unfold ival sgn; rw [bval_lit c])
  exact h.symm
theorem rq_lit {q : Rat} {b : Bool} {c d : UInt8} (N : Int) (hc : c.toNat ≠ 0) (hd : d.toNat ≠ 0) (hN : N = sgn b c.toNat) (hn : q.num = N) (h1 : d.toNat ≠ 1) (hden : q.den = d.toNat) : Rq q b ⟨#[c]⟩ ⟨#[d]⟩ := by
  refine ⟨by rw [hn]; exact lit_one b c N hc hN, ?_⟩
  rw [hden]
  unfold dm
  rw [if_neg h1]
  have h := lit_one false d d.toNat hd rfl
  exact ((enc_parts h).2.trans (by rw [Int.natAbs_natCast]))
theorem rq_m32 : Rq (Rat.divInt 6 (-4)) true ⟨#[3]⟩ ⟨#[2]⟩ := rq_lit (-3) (by decide) (by decide) (by decide) (by decide +kernel) (by decide) (by decide +kernel)
theorem rq_m32b : Rq (Rat.divInt (-3) 2) true ⟨#[3]⟩ ⟨#[2]⟩ := rq_lit (-3) (by decide) (by decide) (by decide) (by decide +kernel) (by decide) (by decide +kernel)
theorem rq_13 : Rq (Rat.divInt 1 3) false ⟨#[1]⟩ ⟨#[3]⟩ := rq_lit 1 (by decide) (by decide) (by decide) (by decide +kernel) (by decide) (by decide +kernel)
theorem rq_12 : Rq (Rat.divInt 1 2) false ⟨#[1]⟩ ⟨#[2]⟩ := rq_lit 1 (by decide) (by decide) (by decide) (by decide +kernel) (by decide) (by decide +kernel)
theorem rq_94 : Rq (Rat.divInt 9 4) false ⟨#[9]⟩ ⟨#[4]⟩ := rq_lit 9 (by decide) (by decide) (by decide) (by decide +kernel) (by decide) (by decide +kernel)
theorem rq_32 : Rq (Rat.divInt 3 2) false ⟨#[3]⟩ ⟨#[2]⟩ := rq_lit 3 (by decide) (by decide) (by decide) (by decide +kernel) (by decide) (by decide +kernel)
theorem rq_25 : Rq (Rat.divInt 2 5) false ⟨#[2]⟩ ⟨#[5]⟩ := rq_lit 2 (by decide) (by decide) (by decide) (by decide +kernel) (by decide) (by decide +kernel)

theorem mag_lit (c : UInt8) (hc : c.toNat ≠ 0) : mag c.toNat = ⟨#[c]⟩ := by
  have h := lit_one false c c.toNat hc rfl
  exact ((enc_parts h).2.trans (by rw [Int.natAbs_natCast])).symm
theorem mag_2 : mag 2 = ⟨#[2]⟩ := mag_lit 2 (by decide)
theorem mag_3 : mag 3 = ⟨#[3]⟩ := mag_lit 3 (by decide)
theorem mag_5 : mag 5 = ⟨#[5]⟩ := mag_lit 5 (by decide)

/-- What the program does between two blocks that it made before. -/
theorem known_parse (w : World) (hE : Env w) : Calls Tryz.prog 55 #[.string ⟨#[45, 48, 54, 47, 52]⟩] w (RetB w (.tuple #[.agg #[.bool true, .string ⟨#[3]⟩, .bool false, .string ⟨#[2]⟩], .int .i64 0])) := by
  have hp : Pq true [48, 54, 47, 52] (Rat.divInt (sgn true (val10 [48, 54])) (val10 [52] : Int)) 0 := .frac [48, 54] [52] rfl ⟨by simp, fun b hb => by simp at hb; rcases hb with rfl | rfl <;> exact ⟨by decide, by decide⟩⟩ ⟨by simp, fun b hb => by simp at hb; rcases hb with rfl; exact ⟨by decide, by decide⟩⟩ (by decide)
  refine (ratParse_in ⟨#[45, 48, 54, 47, 52]⟩ w hE [48, 54, 47, 52] true (by decide) (by decide) (by decide) (by decide) _ _ hp).mono ?_
  rintro e w' ⟨b, m, k, rfl, hq, hb⟩
  have h6 : Rat.divInt (sgn true (val10 [48, 54])) (val10 [52] : Int) = Rat.divInt 6 (-4) := by decide +kernel
  rw [h6] at hq
  obtain ⟨rfl, rfl, rfl⟩ := rq_m32.inj hq
  exact ⟨rfl, hb⟩

theorem known_simplest (w : World) (hE : Env w) : Calls Tryz.prog 49 #[.agg #[.bool false, .string ⟨#[1]⟩, .bool false, .string ⟨#[3]⟩], .agg #[.bool false, .string ⟨#[1]⟩, .bool false, .string ⟨#[2]⟩], .bool true, .bool true] w (RetB w (.tuple #[.agg #[.bool false, .string ⟨#[2]⟩, .bool false, .string ⟨#[5]⟩], .int .i64 0])) := by
  have n1 : (Rat.divInt 1 3).num = 1 := by decide +kernel
  have d1 : (Rat.divInt 1 3).den = 3 := by decide +kernel
  have n2 : (Rat.divInt 1 2).num = 1 := by decide +kernel
  have d2 : (Rat.divInt 1 2).den = 2 := by decide +kernel
  refine (simplest_pos rq_13 rq_12 true true (by rw [n1]; omega) (by rw [n2]; omega) (by decide +kernel) (by decide) (by decide) (by rw [d1, mag_3]; decide) (by rw [d2, mag_2]; decide) (by decide) (by decide) w hE).mono ?_
  rintro e w' ⟨n, m, rfl, hs, hb⟩
  rw [n1, d1, n2, d2] at hs
  have h1 := hs.min 2 5 ⟨by omega, by unfold Abv; first | decide | (left; decide), by unfold Blw; first | decide | (left; decide)⟩
  have h2 := hs.inn.1
  have h3 := hs.inn.2.1
  have h4 := hs.inn.2.2
  unfold Abv at h3
  unfold Blw at h4
  simp at h3 h4
  obtain ⟨rfl, rfl⟩ : n = 2 ∧ m = 5 := by omega
  refine ⟨?_, hb⟩
  have : dm 5 = ⟨#[5]⟩ := by unfold dm; rw [if_neg (by decide), mag_5]
  rw [mag_2, this]

theorem known_root (w : World) (hE : Env w) : Calls Tryz.prog 52 #[.agg #[.bool false, .string ⟨#[9]⟩, .bool false, .string ⟨#[4]⟩]] w (RetB w (.tuple #[.agg #[.bool false, .string ⟨#[3]⟩, .bool false, .string ⟨#[2]⟩], .bool true])) := by
  have h := ratRoot_yes rq_94 (N := 3) (D := 2) (by decide +kernel) (by decide +kernel) (Nat.le_trans (mag_size_le (k := 1) (by decide)) (by decide)) (Nat.le_trans (mag_size_le (k := 1) (by decide)) (by decide)) w hE
  have : dm 2 = ⟨#[2]⟩ := by unfold dm; rw [if_neg (by decide), mag_2]
  rw [mag_3, this] at h
  exact h

theorem known_print (w : World) (hE : Env w) : Calls Tryz.prog 54 #[.agg #[.bool true, .string ⟨#[3]⟩, .bool false, .string ⟨#[2]⟩]] w (RetB w (.string ⟨#[45, 51, 47, 50]⟩)) := by
  have n1 : (Rat.divInt 6 (-4)).num = -3 := by decide +kernel
  have d1 : (Rat.divInt 6 (-4)).den = 2 := by decide +kernel
  have h := ratPrint_part rq_m32 (by rw [d1]; decide) (by decide) (by decide) w hE
  rw [n1, d1] at h
  have e : ((⟨(printed true (-3 : Int).natAbs).toArray⟩ ++ ⟨#[47]⟩) ++ ⟨(printed false 2).toArray⟩ : ByteArray) = ⟨#[45, 51, 47, 50]⟩ := by decide +kernel
  rw [e] at h
  exact h

theorem known_compare (w : World) (hE : Env w) : Calls Tryz.prog 38 #[.agg #[.bool true, .string ⟨#[3]⟩, .bool false, .string ⟨#[2]⟩], .agg #[.bool false, .string ⟨#[3]⟩, .bool false, .string ⟨#[2]⟩]] w (RetB w (.int .i64 (-1))) := by
  have h := ratCompare_f rq_m32 rq_32 (by decide) (by decide) (by rw [show (Rat.divInt 6 (-4)).den = 2 by decide +kernel, mag_2]; decide) (by rw [show (Rat.divInt 3 2).den = 2 by decide +kernel, mag_2]; decide) w hE
  have e : cmpQ (Rat.divInt 6 (-4)) (Rat.divInt 3 2) = -1 := by decide +kernel
  rw [e] at h
  exact h
end Go.Proofs.YtahehlajpaoiiaaGreatDoor


/-
  The examples of the chapter that every statement of layer 2 asks.
-/
namespace Go.Proofs.YtahehlajpaoiiaaGreatDoor
open Go.RowKit
attribute [local go_sem ↓] Go.wp_at_zero Go.wp_at_succ

set_option maxHeartbeats 8000000 in
set_option maxRecDepth 100000 in
theorem rknown_any (w : World) (hE : Env w) : Calls Tryz.prog 14 #[] w (RetB w (.bool true)) := by
  have HF := Lib.hid (fun V (hV : Env V) => fromInts_f rq_m32 (by omega) (by omega) (by omega) (by omega) (by omega) V hV)
  have H13 := Lib.hid (fun V => rOf_f rq_13 (by omega) (by omega) (by omega) (by omega) (by omega) V)
  have H12 := Lib.hid (fun V => rOf_f rq_12 (by omega) (by omega) (by omega) (by omega) (by omega) V)
  have H94 := Lib.hid (fun V => rOf_f rq_94 (by omega) (by omega) (by omega) (by omega) (by omega) V)
  have H25 := Lib.hid (fun V => rOf_f rq_25 (by omega) (by omega) (by omega) (by omega) (by omega) V)
  have H32 := Lib.hid (fun V => rOf_f rq_32 (by omega) (by omega) (by omega) (by omega) (by omega) V)
  have Hm32 := Lib.hid (fun V => rOf_f rq_m32b (by omega) (by omega) (by omega) (by omega) (by omega) V)
  have HS := Lib.hid (fun V (hV : Env V) => known_simplest V hV)
  have HR := Lib.hid (fun V (hV : Env V) => known_root V hV)
  have HP := Lib.hid (fun V (hV : Env V) => known_parse V hV)
  have HPr := Lib.hid (fun V (hV : Env V) => known_print V hV)
  have HC := Lib.hid (fun V (hV : Env V) => known_compare V hV)
  have HE := Lib.hid (fun V (hb : Below w.heap.size w V) => hE.next hb)
  have BB := Lib.hid (Below.refl w.heap.size w)
  clear hE
  go_enter Tryz.func14, Tryz.ntmps14
  go_wp2_with fail
  refine (HF.out _ (HE.out _ BB.out)).mono ?_
  rintro e w1 ⟨rfl, hb9⟩
  have BB := Lib.hid (below_step BB.out (Nat.le_refl _) hb9)
  clear hb9
  have NB := below_new w1 (.cells #[.bool true, .string ⟨#[3]⟩, .bool false, .string ⟨#[2]⟩] 25)
  have A := Lib.hid (Bq.new w1 #[.bool true, .string ⟨#[3]⟩, .bool false, .string ⟨#[2]⟩] 25)
  have BB := Lib.hid (below_step BB.out (Nat.le_refl _) NB)
  clear NB
  go_wp2_with fail
  refine (H13.out _).mono ?_
  rintro e w2 ⟨rfl, hb9⟩
  have A := Lib.hid (A.out.next hb9)
  have BB := Lib.hid (below_step BB.out (Nat.le_refl _) hb9)
  clear hb9
  go_wp2_with fail
  refine (H12.out _).mono ?_
  rintro e w3 ⟨rfl, hb9⟩
  have A := Lib.hid (A.out.next hb9)
  have BB := Lib.hid (below_step BB.out (Nat.le_refl _) hb9)
  clear hb9
  go_wp2_with fail
  refine (HS.out _ (HE.out _ BB.out)).mono ?_
  rintro e w4 ⟨rfl, hb9⟩
  have A := Lib.hid (A.out.next hb9)
  have BB := Lib.hid (below_step BB.out (Nat.le_refl _) hb9)
  clear hb9
  have NB := below_new w4 (.cells #[.bool false, .string ⟨#[2]⟩, .bool false, .string ⟨#[5]⟩] 25)
  have A := Lib.hid (A.out.next NB)
  have B := Lib.hid (Bq.new w4 #[.bool false, .string ⟨#[2]⟩, .bool false, .string ⟨#[5]⟩] 25)
  have BB := Lib.hid (below_step BB.out (Nat.le_refl _) NB)
  clear NB
  go_wp2_with fail
  refine (H94.out _).mono ?_
  rintro e w5 ⟨rfl, hb9⟩
  have A := Lib.hid (A.out.next hb9)
  have B := Lib.hid (B.out.next hb9)
  have BB := Lib.hid (below_step BB.out (Nat.le_refl _) hb9)
  clear hb9
  go_wp2_with fail
  refine (HR.out _ (HE.out _ BB.out)).mono ?_
  rintro e w6 ⟨rfl, hb9⟩
  have A := Lib.hid (A.out.next hb9)
  have B := Lib.hid (B.out.next hb9)
  have BB := Lib.hid (below_step BB.out (Nat.le_refl _) hb9)
  clear hb9
  have NB := below_new w6 (.cells #[.bool false, .string ⟨#[3]⟩, .bool false, .string ⟨#[2]⟩] 25)
  have A := Lib.hid (A.out.next NB)
  have B := Lib.hid (B.out.next NB)
  have C := Lib.hid (Bq.new w6 #[.bool false, .string ⟨#[3]⟩, .bool false, .string ⟨#[2]⟩] 25)
  have BB := Lib.hid (below_step BB.out (Nat.le_refl _) NB)
  clear NB
  go_wp2_with fail
  refine (HP.out _ (HE.out _ BB.out)).mono ?_
  rintro e w7 ⟨rfl, hb9⟩
  have A := Lib.hid (A.out.next hb9)
  have B := Lib.hid (B.out.next hb9)
  have C := Lib.hid (C.out.next hb9)
  have BB := Lib.hid (below_step BB.out (Nat.le_refl _) hb9)
  clear hb9
  have NB := below_new w7 (.cells #[.bool true, .string ⟨#[3]⟩, .bool false, .string ⟨#[2]⟩] 25)
  have A := Lib.hid (A.out.next NB)
  have B := Lib.hid (B.out.next NB)
  have C := Lib.hid (C.out.next NB)
  have D := Lib.hid (Bq.new w7 #[.bool true, .string ⟨#[3]⟩, .bool false, .string ⟨#[2]⟩] 25)
  have BB := Lib.hid (below_step BB.out (Nat.le_refl _) NB)
  clear NB
  have A := Lib.hid A.out.drew
  have B := Lib.hid B.out.drew
  have C := Lib.hid C.out.drew
  have D := Lib.hid D.out.drew
  have BB := Lib.hid BB.out.drew
  obtain ⟨a0, a1, a2, a3⟩ := blk4 A.out.k
  obtain ⟨b0, b1, b2, b3⟩ := blk4 B.out.k
  obtain ⟨c0, c1, c2, c3⟩ := blk4 C.out.k
  obtain ⟨d0, d1, d2, d3⟩ := blk4 D.out.k
  simp only [World.cell?_drew] at a0 a1 a2 a3 b0 b1 b2 b3 c0 c1 c2 c3 d0 d1 d2 d3
  go_wp2_with fail
  go_region_held3 (fun w' => w'.cell? ⟨w1.heap.size, 0, none⟩ = some (.bool true) ∧ w'.cell? ⟨w1.heap.size, 1, none⟩ = some (.string ⟨#[3]⟩) ∧ w'.cell? ⟨w1.heap.size, 2, none⟩ = some (.bool false) ∧ w'.cell? ⟨w1.heap.size, 3, none⟩ = some (.string ⟨#[2]⟩) ∧ w'.cell? ⟨w4.heap.size, 0, none⟩ = some (.bool false) ∧ w'.cell? ⟨w4.heap.size, 1, none⟩ = some (.string ⟨#[2]⟩) ∧ w'.cell? ⟨w4.heap.size, 2, none⟩ = some (.bool false) ∧ w'.cell? ⟨w4.heap.size, 3, none⟩ = some (.string ⟨#[5]⟩) ∧ w'.cell? ⟨w6.heap.size, 0, none⟩ = some (.bool false) ∧ w'.cell? ⟨w6.heap.size, 1, none⟩ = some (.string ⟨#[3]⟩) ∧ w'.cell? ⟨w6.heap.size, 2, none⟩ = some (.bool false) ∧ w'.cell? ⟨w6.heap.size, 3, none⟩ = some (.string ⟨#[2]⟩) ∧ w'.cell? ⟨w7.heap.size, 0, none⟩ = some (.bool true) ∧ w'.cell? ⟨w7.heap.size, 1, none⟩ = some (.string ⟨#[3]⟩) ∧ w'.cell? ⟨w7.heap.size, 2, none⟩ = some (.bool false) ∧ w'.cell? ⟨w7.heap.size, 3, none⟩ = some (.string ⟨#[2]⟩))
    (first
      | exact ⟨(blk4 A.out.k).1, (blk4 A.out.k).2.1, (blk4 A.out.k).2.2.1, (blk4 A.out.k).2.2.2, (blk4 B.out.k).1, (blk4 B.out.k).2.1, (blk4 B.out.k).2.2.1, (blk4 B.out.k).2.2.2, (blk4 C.out.k).1, (blk4 C.out.k).2.1, (blk4 C.out.k).2.2.1, (blk4 C.out.k).2.2.2, (blk4 D.out.k).1, (blk4 D.out.k).2.1, (blk4 D.out.k).2.2.1, (blk4 D.out.k).2.2.2⟩
      | go_keep)
    (first
      | (go_at_call 23; (with_reducible refine (Hm32.out _).mono ?_); rintro e v1 ⟨rfl, hb9⟩; have A := Lib.hid (A.out.next hb9); have B := Lib.hid (B.out.next hb9); have C := Lib.hid (C.out.next hb9); have D := Lib.hid (D.out.next hb9); have BB := Lib.hid (below_step BB.out (Nat.le_refl _) hb9); clear hb9)
      | (go_at_call 54; (with_reducible refine (HPr.out _ (HE.out _ BB.out)).mono ?_); rintro e v2 ⟨rfl, hb9⟩; have A := Lib.hid (A.out.next hb9); have B := Lib.hid (B.out.next hb9); have C := Lib.hid (C.out.next hb9); have D := Lib.hid (D.out.next hb9); have BB := Lib.hid (below_step BB.out (Nat.le_refl _) hb9); clear hb9)
      | (go_at_call 23; (with_reducible refine (H25.out _).mono ?_); rintro e v3 ⟨rfl, hb9⟩; have A := Lib.hid (A.out.next hb9); have B := Lib.hid (B.out.next hb9); have C := Lib.hid (C.out.next hb9); have D := Lib.hid (D.out.next hb9); have BB := Lib.hid (below_step BB.out (Nat.le_refl _) hb9); clear hb9)
      | (go_at_call 23; (with_reducible refine (H32.out _).mono ?_); rintro e v4 ⟨rfl, hb9⟩; have A := Lib.hid (A.out.next hb9); have B := Lib.hid (B.out.next hb9); have C := Lib.hid (C.out.next hb9); have D := Lib.hid (D.out.next hb9); have BB := Lib.hid (below_step BB.out (Nat.le_refl _) hb9); clear hb9)
      | (go_at_call 38; (with_reducible refine (HC.out _ (HE.out _ BB.out)).mono ?_); rintro e v5 ⟨rfl, hb9⟩; have A := Lib.hid (A.out.next hb9); have B := Lib.hid (B.out.next hb9); have C := Lib.hid (C.out.next hb9); have D := Lib.hid (D.out.next hb9); have BB := Lib.hid (below_step BB.out (Nat.le_refl _) hb9); clear hb9))
  go_wp2
  go_ret
  exact ⟨rfl, BB.out⟩
end Go.Proofs.YtahehlajpaoiiaaGreatDoor
