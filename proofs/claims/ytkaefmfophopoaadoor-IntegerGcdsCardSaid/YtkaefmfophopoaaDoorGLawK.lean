import Derived.Test.YtkaefmfophopoaaDoorGGcG
import Derived.Test.YtkaefmfophopoaaDoorGRefO
import Derived.Test.YtkaefmfophopoaaDoorGLawE

/-
  The walk of the statement about greatest common divisors.
-/
namespace Go.Proofs.YtkaefmfophopoaaDoor
open Go.RowKit
attribute [local go_sem ↓] Go.wp_at_zero Go.wp_at_succ

set_option maxHeartbeats 8000000 in
set_option maxRecDepth 100000 in
theorem gcds_walk (na : Bool) (a : ByteArray) (nb : Bool) (b : ByteArray) (nc : Bool) (c : ByteArray) (w : World) (hT : Tab w) : Calls Tryd.prog 3 #[.agg #[.bool na, .string a], .agg #[.bool nb, .string b], .agg #[.bool nc, .string c]] w (RetB w (.bool true)) := by
  have HU1 : Hid (∀ V, Calls Tryd.prog 6 #[.agg #[.bool na, .string a], .int .i64 24] V (RetI V 24)) := fun V => canonical_any na a 24 (by omega) V
  have HU2 : Hid (∀ V, Calls Tryd.prog 6 #[.agg #[.bool nb, .string b], .int .i64 24] V (RetI V 24)) := fun V => canonical_any nb b 24 (by omega) V
  have HU3 : Hid (∀ V, Calls Tryd.prog 6 #[.agg #[.bool nc, .string c], .int .i64 4] V (RetI V 4)) := fun V => canonical_any nc c 4 (by omega) V
  have K0 := Lib.hid (K3.start w 23 (.bool na) (.string a) (.bool nb) (.string b) (.bool nc) (.string c))
  have hlt := hT.lt
  have HT := Lib.hid (fun (V : World) (hV : Below w.heap.size w V) => hT.below hV hlt)
  clear hT hlt
  go_enter Tryd.func3, Tryd.ntmps3
  go_upto_region 1 with fail
  go_cut [] (fun wx => In3E w 24 wx)
  case first =>
    have hne1 : ¬ (w.heap.size = w.heap.size + 1 + 1) := by omega
    have hne2 : ¬ (w.heap.size + 1 + 1 = w.heap.size) := by omega
    go_region_with (first
      | (go_at_call 6; (with_reducible refine (HU1.out _).mono ?_); rintro e w1 ⟨x, hx, rfl, hb1⟩; obtain ⟨b1, m1, hbm1⟩ := enc_form x; rw [hbm1]; have HBM1 := Lib.hid hbm1; clear hbm1; have KK := Lib.hid (K0.out.drew.next hb1); obtain ⟨p0, p1, p2, p3⟩ := blk_cells KK.out.k0; obtain ⟨p4, p5, p6, p7⟩ := blk_cells KK.out.k1; obtain ⟨p8, p9, p10, p11⟩ := blk_cells KK.out.k2)
      | (go_at_call 6; (with_reducible refine (HU2.out _).mono ?_); rintro e w2 ⟨y, hy, rfl, hb2⟩; obtain ⟨b2, m2, hbm2⟩ := enc_form y; rw [hbm2]; have HBM2 := Lib.hid hbm2; clear hbm2; have KK2 := Lib.hid (KK.out.next hb2); obtain ⟨r0, r1, r2, r3⟩ := blk_cells KK2.out.k0; obtain ⟨r4, r5, r6, r7⟩ := blk_cells KK2.out.k1; obtain ⟨r8, r9, r10, r11⟩ := blk_cells KK2.out.k2)
      | (go_at_call 6; (with_reducible refine (HU3.out _).mono ?_); rintro e w3 ⟨z, hz, rfl, hb3⟩; obtain ⟨b3, m3, hbm3⟩ := enc_form z; rw [hbm3]; have HBM3 := Lib.hid hbm3; clear hbm3; have KK3 := Lib.hid (KK2.out.next hb3); obtain ⟨s0, s1, s2, s3⟩ := blk_cells KK3.out.k0; obtain ⟨s4, s5, s6, s7⟩ := blk_cells KK3.out.k1; obtain ⟨s8, s9, s10, s11⟩ := blk_cells KK3.out.k2))
    all_goals
      go_wp2_with fail
      go_meet
      exact In3E.mk KK3.out hx hy (Nat.lt_of_lt_of_le hz (Nat.pow_le_pow_right (by omega) (by omega))) HBM1 HBM2 HBM3
  case rest =>
    obtain ⟨x, y, z, b1, b2, b3, m1, m2, m3, I⟩ := hcut
    have s1 := enc_size I.ex.out I.sx
    have s2 := enc_size I.ey.out I.sy
    have s3 := enc_size I.ez.out I.sz
    obtain ⟨bg, mg, eg⟩ := enc_form ((Nat.gcd x.natAbs y.natAbs : Nat) : Int)
    have hgl : ((Nat.gcd x.natAbs y.natAbs : Nat) : Int).natAbs < 256 ^ 24 := by
      rw [Int.natAbs_natCast]
      rcases Nat.eq_zero_or_pos x.natAbs with h | h
      · rw [h, Nat.gcd_zero_left]; exact I.sy
      · exact Nat.lt_of_le_of_lt (Nat.gcd_le_left _ h) I.sx
    have zg := enc_size eg hgl
    obtain ⟨bp, mp, ep⟩ := enc_form (x * z)
    have zp := enc_size ep (sz_mul I.sx I.sz)
    obtain ⟨bq, mq, eq⟩ := enc_form (y * z)
    have zq := enc_size eq (sz_mul I.sy I.sz)
    obtain ⟨ba, ma, ea⟩ := enc_form (z.natAbs : Int)
    have za := enc_size ea (by rw [Int.natAbs_natCast]; exact I.sz)
    obtain ⟨be, me, ee⟩ := enc_form ((Nat.gcd (x * z).natAbs (y * z).natAbs : Nat) : Int)
    have hmul : ((Nat.gcd (x * z).natAbs (y * z).natAbs : Nat) : Int) = ((Nat.gcd x.natAbs y.natAbs : Nat) : Int) * (z.natAbs : Int) := by
      rw [Int.natAbs_mul, Int.natAbs_mul, Nat.gcd_mul_right, Int.natCast_mul]
    have hmgg : bg = false ∧ mg = mag (Nat.gcd x.natAbs y.natAbs) := by
      have h := eg
      rw [enc_nat] at h
      injection h with h
      injection h with h
      injection h with h1 h2
      injection h2 with h2 h3
      injection h1 with h1
      injection h2 with h2
      exact ⟨h1.symm, h2.symm⟩
    have Gxy := Lib.hid (fun V hV => gcd_f I.ex.out I.ey.out eg (by omega) (by omega) V (HT.out V hV))
    have Gyx := Lib.hid (fun V hV => gcd_f I.ey.out I.ex.out (by rw [Nat.gcd_comm]; exact eg) (by omega) (by omega) V (HT.out V hV))
    have Gm := Lib.hid (fun V hV => gcd_f ep eq ee (by omega) (by omega) V (HT.out V hV))
    have hrg : ∀ V, Calls Tryd.prog 9 #[.agg #[.bool b1, .string m1], .agg #[.bool b2, .string m2]] V (RetB V (.agg #[.bool bg, .string mg])) := fun V => by
      have h := refGcd_any b1 b2 x.natAbs y.natAbs m1 m2 (enc_parts I.ex.out).2 (enc_parts I.ey.out).2 (by omega) (by omega) V
      rw [← hmgg.2, ← hmgg.1] at h
      exact h
    have Rg := Lib.hid hrg
    have Mxz := Lib.hid (fun V => mul_f I.ex.out I.ez.out (by omega) (by omega) ep rfl V)
    have Myz := Lib.hid (fun V => mul_f I.ey.out I.ez.out (by omega) (by omega) eq rfl V)
    have Az := Lib.hid (fun V => abs_f I.ez.out ea V)
    have Mga := Lib.hid (fun V => mul_f eg ea (by omega) (by omega) ee hmul V)
    have BB := Lib.hid (⟨I.zx, I.zy, I.zz, I.big, I.bel⟩ : S3 w b1 b2 b3 m1 m2 m3 _)
    have t0 := I.zx.c0
    have t1 := I.zx.c1
    have t2 := I.zy.c0
    have t3 := I.zy.c1
    clear s1 s2 s3 eg hgl zg ep zp eq zq ea za ee hmul hmgg hrg I
    go_wp2_with fail
    refine (Gxy.out _ BB.out.bel).mono ?_
    rintro e w4 ⟨rfl, hb4⟩
    have BB := Lib.hid (BB.out.next hb4)
    have BB := Lib.hid ((BB.out.alloc (.cells #[.bool bg, .string mg] 23)).drew)
    have OO := Lib.hid (Oi.start w4 bg mg 23).drew
    clear hb4 t0 t1 t2 t3
    have t0 := BB.out.zx.c0
    have t1 := BB.out.zx.c1
    have t2 := BB.out.zy.c0
    have t3 := BB.out.zy.c1
    have t4 := BB.out.zz.c0
    have t5 := BB.out.zz.c1
    simp only [World.cell?_drew] at t0 t1 t2 t3 t4 t5
    go_wp2_with fail
    go_region_held3 (fun w' => w'.cell? ⟨w.heap.size, 0, none⟩ = some (.bool b1) ∧ w'.cell? ⟨w.heap.size, 1, none⟩ = some (.string m1) ∧ w'.cell? ⟨w.heap.size + 1, 0, none⟩ = some (.bool b2) ∧ w'.cell? ⟨w.heap.size + 1, 1, none⟩ = some (.string m2) ∧ w'.cell? ⟨w.heap.size + 2, 0, none⟩ = some (.bool b3) ∧ w'.cell? ⟨w.heap.size + 2, 1, none⟩ = some (.string m3) ∧ w'.cell? ⟨w4.heap.size, 0, none⟩ = some (.bool bg) ∧ w'.cell? ⟨w4.heap.size, 1, none⟩ = some (.string mg))
        (first
          | exact ⟨BB.out.zx.c0, BB.out.zx.c1, BB.out.zy.c0, BB.out.zy.c1, BB.out.zz.c0, BB.out.zz.c1, OO.out.z.c0, OO.out.z.c1⟩
          | go_keep)
        (first
          | (go_at_call 8; (with_reducible refine (known_any _).mono ?_); rintro e wn ⟨rfl, hbn⟩; have OO := Lib.hid (OO.out.next hbn); have BB := Lib.hid (BB.out.next hbn))
          | (go_at_call 9; (with_reducible refine (Rg.out _).mono ?_); rintro e wn ⟨rfl, hbn⟩; have OO := Lib.hid (OO.out.next hbn); have BB := Lib.hid (BB.out.next hbn))
          | (go_at_call 7; (with_reducible refine (Gyx.out _ BB.out.bel).mono ?_); rintro e wn ⟨rfl, hbn⟩; have OO := Lib.hid (OO.out.next hbn); have BB := Lib.hid (BB.out.next hbn))
          | (go_at_call 10; (with_reducible refine (Mxz.out _).mono ?_); rintro e wn ⟨rfl, hbn⟩; have OO := Lib.hid (OO.out.next hbn); have BB := Lib.hid (BB.out.next hbn))
          | (go_at_call 10; (with_reducible refine (Myz.out _).mono ?_); rintro e wn ⟨rfl, hbn⟩; have OO := Lib.hid (OO.out.next hbn); have BB := Lib.hid (BB.out.next hbn))
          | (go_at_call 7; (with_reducible refine (Gm.out _ BB.out.bel).mono ?_); rintro e wn ⟨rfl, hbn⟩; have OO := Lib.hid (OO.out.next hbn); have BB := Lib.hid (BB.out.next hbn))
          | (go_at_call 11; (with_reducible refine (Az.out _).mono ?_); rintro e wn ⟨rfl, hbn⟩; have OO := Lib.hid (OO.out.next hbn); have BB := Lib.hid (BB.out.next hbn))
          | (go_at_call 10; (with_reducible refine (Mga.out _).mono ?_); rintro e wn ⟨rfl, hbn⟩; have OO := Lib.hid (OO.out.next hbn); have BB := Lib.hid (BB.out.next hbn)))
    go_wp2
    go_ret
    exact ⟨rfl, BB.out.bel⟩
end Go.Proofs.YtkaefmfophopoaaDoor
