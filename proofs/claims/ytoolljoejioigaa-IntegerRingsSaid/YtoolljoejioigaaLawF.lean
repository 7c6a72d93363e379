/-
  The walk of the statement about the laws of a ring.
-/
import Derived.Test.YtoolljoejioigaaLawE
namespace Go.Proofs.Ytoolljoejioigaa
open Go.RowKit
attribute [local go_sem ↓] Go.wp_at_zero Go.wp_at_succ

set_option maxHeartbeats 4000000 in
set_option maxRecDepth 100000 in
theorem rings_walk (na : Bool) (a : ByteArray) (nb : Bool) (b : ByteArray) (nc : Bool) (c : ByteArray) (w : World) : Calls Try.prog 8 #[.agg #[.bool na, .string a], .agg #[.bool nb, .string b], .agg #[.bool nc, .string c]] w (RetB w (.bool true)) := by
  have HU1 := Lib.hid (fun V => in_any na a V)
  have HU2 := Lib.hid (fun V => in_any nb b V)
  have HU3 := Lib.hid (fun V => in_any nc c V)
  have K0 := Lib.hid (K3.start w 23 (.bool na) (.string a) (.bool nb) (.string b) (.bool nc) (.string c))
  go_enter Try.func8, Try.ntmps8
  go_upto_region 1 with fail
  go_cut [] (fun wx => In3E w 40 wx)
  case first =>
    have hne1 : ¬ (w.heap.size = w.heap.size + 1 + 1) := by omega
    have hne2 : ¬ (w.heap.size + 1 + 1 = w.heap.size) := by omega
    go_region_with (first
      | (go_at_call 20; (with_reducible refine (HU1.out _).mono ?_); rintro e w1 ⟨x, hx, rfl, hb1⟩; obtain ⟨b1, m1, hbm1⟩ := enc_form x; rw [hbm1]; have HBM1 := Lib.hid hbm1; clear hbm1; have KK := Lib.hid (K0.out.drew.next hb1); obtain ⟨p0, p1, p2, p3⟩ := blk_cells KK.out.k0; obtain ⟨p4, p5, p6, p7⟩ := blk_cells KK.out.k1; obtain ⟨p8, p9, p10, p11⟩ := blk_cells KK.out.k2)
      | (go_at_call 20; (with_reducible refine (HU2.out _).mono ?_); rintro e w2 ⟨y, hy, rfl, hb2⟩; obtain ⟨b2, m2, hbm2⟩ := enc_form y; rw [hbm2]; have HBM2 := Lib.hid hbm2; clear hbm2; have KK2 := Lib.hid (KK.out.next hb2); obtain ⟨r0, r1, r2, r3⟩ := blk_cells KK2.out.k0; obtain ⟨r4, r5, r6, r7⟩ := blk_cells KK2.out.k1; obtain ⟨r8, r9, r10, r11⟩ := blk_cells KK2.out.k2)
      | (go_at_call 20; (with_reducible refine (HU3.out _).mono ?_); rintro e w3 ⟨z, hz, rfl, hb3⟩; obtain ⟨b3, m3, hbm3⟩ := enc_form z; rw [hbm3]; have HBM3 := Lib.hid hbm3; clear hbm3; have KK3 := Lib.hid (KK2.out.next hb3); obtain ⟨s0, s1, s2, s3⟩ := blk_cells KK3.out.k0; obtain ⟨s4, s5, s6, s7⟩ := blk_cells KK3.out.k1; obtain ⟨s8, s9, s10, s11⟩ := blk_cells KK3.out.k2))
    all_goals
      go_wp2_with fail
      go_meet
      exact In3E.mk KK3.out hx hy hz HBM1 HBM2 HBM3
  case rest =>
    obtain ⟨x, y, z, b1, b2, b3, m1, m2, m3, I⟩ := hcut
    have s1 := enc_size I.ex.out I.sx
    have s2 := enc_size I.ey.out I.sy
    have s3 := enc_size I.ez.out I.sz
    obtain ⟨bs, ms, es⟩ := enc_form (x + y)
    have zs := enc_size es (sz_add I.sx I.sy)
    obtain ⟨bt, mt, et⟩ := enc_form (y + z)
    have zt := enc_size et (sz_add I.sy I.sz)
    obtain ⟨bu, mu, eu⟩ := enc_form (x + y + z)
    have zu := enc_size eu (sz_add (sz_add I.sx I.sy) (Nat.lt_of_lt_of_le I.sz (Nat.pow_le_pow_right (by omega) (by omega))))
    obtain ⟨bp, mp, ep⟩ := enc_form (x * y)
    have zp := enc_size ep (sz_mul I.sx I.sy)
    obtain ⟨bq, mq, eq⟩ := enc_form (y * z)
    have zq := enc_size eq (sz_mul I.sy I.sz)
    obtain ⟨br, mr, er⟩ := enc_form (x * z)
    have zr := enc_size er (sz_mul I.sx I.sz)
    obtain ⟨bv, mv, ev⟩ := enc_form (x * y * z)
    have zv := enc_size ev (sz_mul (sz_mul I.sx I.sy) I.sz)
    obtain ⟨bd, md, ed⟩ := enc_form (x * (y + z))
    have zd := enc_size ed (sz_mul I.sx (sz_add I.sy I.sz))
    obtain ⟨bn, mn, en⟩ := enc_form (-x)
    have zn := enc_size en (sz_neg I.sx)
    have Axy := Lib.hid (fun V => add_f I.ex.out I.ey.out (by omega) (by omega) es rfl V)
    have Ayx := Lib.hid (fun V => add_f I.ey.out I.ex.out (by omega) (by omega) es (by omega) V)
    have Mxy := Lib.hid (fun V => mul_f I.ex.out I.ey.out (by omega) (by omega) ep rfl V)
    have Myx := Lib.hid (fun V => mul_f I.ey.out I.ex.out (by omega) (by omega) ep (Int.mul_comm _ _) V)
    have Asz := Lib.hid (fun V => add_f es I.ez.out (by omega) (by omega) eu rfl V)
    have Ayz := Lib.hid (fun V => add_f I.ey.out I.ez.out (by omega) (by omega) et rfl V)
    have Axt := Lib.hid (fun V => add_f I.ex.out et (by omega) (by omega) eu (by omega) V)
    have Mpz := Lib.hid (fun V => mul_f ep I.ez.out (by omega) (by omega) ev rfl V)
    have Myz := Lib.hid (fun V => mul_f I.ey.out I.ez.out (by omega) (by omega) eq rfl V)
    have Mxq := Lib.hid (fun V => mul_f I.ex.out eq (by omega) (by omega) ev (Int.mul_assoc _ _ _) V)
    have Mxt := Lib.hid (fun V => mul_f I.ex.out et (by omega) (by omega) ed rfl V)
    have Mxz := Lib.hid (fun V => mul_f I.ex.out I.ez.out (by omega) (by omega) er rfl V)
    have Apr := Lib.hid (fun V => add_f ep er (by omega) (by omega) ed (Int.mul_add _ _ _) V)
    have M1 := Lib.hid (fun V => mul_f I.ex.out enc_1 (by omega) (by decide) I.ex.out (by omega) V)
    have Nx := Lib.hid (fun V => negate_f I.ex.out en V)
    have A0 := Lib.hid (fun V => add_f I.ex.out en (by omega) (by omega) enc_zero (by omega) V)
    have F1 := Lib.hid (fun V => known_from 1 _ enc_1 (by omega) (by omega) V)
    have t0 := I.zx.c0
    have t1 := I.zx.c1
    have t2 := I.zy.c0
    have t3 := I.zy.c1
    have t4 := I.zz.c0
    have t5 := I.zz.c1
    have hsW := I.big
    have BB := Lib.hid (S3.drew ⟨I.zx, I.zy, I.zz, I.big, I.bel⟩)
    clear s1 s2 s3 es zs et zt eu zu ep zp eq zq er zr ev zv ed zd en zn I
    go_wp2_with fail
    go_region_held3 (fun w' => w'.cell? ⟨w.heap.size, 0, none⟩ = some (.bool b1) ∧ w'.cell? ⟨w.heap.size, 1, none⟩ = some (.string m1) ∧ w'.cell? ⟨w.heap.size + 1, 0, none⟩ = some (.bool b2) ∧ w'.cell? ⟨w.heap.size + 1, 1, none⟩ = some (.string m2) ∧ w'.cell? ⟨w.heap.size + 2, 0, none⟩ = some (.bool b3) ∧ w'.cell? ⟨w.heap.size + 2, 1, none⟩ = some (.string m3))
        (first
          | go_keep
          | exact ⟨BB.out.zx.c0, BB.out.zx.c1, BB.out.zy.c0, BB.out.zy.c1, BB.out.zz.c0, BB.out.zz.c1⟩)
        (first
          | (go_at_call 13; (with_reducible refine (known_any _).mono ?_); rintro e wn ⟨rfl, hbn⟩; have BB := Lib.hid (BB.out.next hbn))
          | (go_at_call 27; (with_reducible refine (Axy.out _).mono ?_); rintro e wn ⟨rfl, hbn⟩; have BB := Lib.hid (BB.out.next hbn))
          | (go_at_call 27; (with_reducible refine (Ayx.out _).mono ?_); rintro e wn ⟨rfl, hbn⟩; have BB := Lib.hid (BB.out.next hbn))
          | (go_at_call 34; (with_reducible refine (Mxy.out _).mono ?_); rintro e wn ⟨rfl, hbn⟩; have BB := Lib.hid (BB.out.next hbn))
          | (go_at_call 34; (with_reducible refine (Myx.out _).mono ?_); rintro e wn ⟨rfl, hbn⟩; have BB := Lib.hid (BB.out.next hbn)))
    clear t0 t1 t2 t3 t4 t5 hsW
    go_wp2_with fail
    refine (F1.out _).mono ?_
    rintro e w4 ⟨rfl, hb4⟩
    have BB := Lib.hid (BB.out.next hb4)
    have BB := Lib.hid ((BB.out.alloc (.cells #[.bool false, .string ⟨#[1]⟩] 23)).drew)
    have OO := Lib.hid (Oi.start w4 false ⟨#[1]⟩ 23).drew
    have hs4 := hb4.size
    have hs5 := BB.out.big
    have t0 := BB.out.zx.c0
    have t1 := BB.out.zx.c1
    have t2 := BB.out.zy.c0
    have t3 := BB.out.zy.c1
    have t4 := BB.out.zz.c0
    have t5 := BB.out.zz.c1
    simp only [World.cell?_drew] at t0 t1 t2 t3 t4 t5
    clear hb4 hs4 hs5
    go_wp2_with fail
    go_region_held3 (fun w' => w'.cell? ⟨w.heap.size, 0, none⟩ = some (.bool b1) ∧ w'.cell? ⟨w.heap.size, 1, none⟩ = some (.string m1) ∧ w'.cell? ⟨w.heap.size + 1, 0, none⟩ = some (.bool b2) ∧ w'.cell? ⟨w.heap.size + 1, 1, none⟩ = some (.string m2) ∧ w'.cell? ⟨w.heap.size + 2, 0, none⟩ = some (.bool b3) ∧ w'.cell? ⟨w.heap.size + 2, 1, none⟩ = some (.string m3) ∧ w'.cell? ⟨w4.heap.size, 0, none⟩ = some (.bool false) ∧ w'.cell? ⟨w4.heap.size, 1, none⟩ = some (.string ⟨#[1]⟩))
        (first
          | go_keep
          | exact ⟨BB.out.zx.c0, BB.out.zx.c1, BB.out.zy.c0, BB.out.zy.c1, BB.out.zz.c0, BB.out.zz.c1, OO.out.z.c0, OO.out.z.c1⟩)
        (first
          | (go_at_call 27; (with_reducible refine (Axy.out _).mono ?_); rintro e wn ⟨rfl, hbn⟩; have OO := Lib.hid (OO.out.next hbn); have BB := Lib.hid (BB.out.next hbn))
          | (go_at_call 27; (with_reducible refine (Asz.out _).mono ?_); rintro e wn ⟨rfl, hbn⟩; have OO := Lib.hid (OO.out.next hbn); have BB := Lib.hid (BB.out.next hbn))
          | (go_at_call 27; (with_reducible refine (Ayz.out _).mono ?_); rintro e wn ⟨rfl, hbn⟩; have OO := Lib.hid (OO.out.next hbn); have BB := Lib.hid (BB.out.next hbn))
          | (go_at_call 27; (with_reducible refine (Axt.out _).mono ?_); rintro e wn ⟨rfl, hbn⟩; have OO := Lib.hid (OO.out.next hbn); have BB := Lib.hid (BB.out.next hbn))
          | (go_at_call 34; (with_reducible refine (Mxy.out _).mono ?_); rintro e wn ⟨rfl, hbn⟩; have OO := Lib.hid (OO.out.next hbn); have BB := Lib.hid (BB.out.next hbn))
          | (go_at_call 34; (with_reducible refine (Mpz.out _).mono ?_); rintro e wn ⟨rfl, hbn⟩; have OO := Lib.hid (OO.out.next hbn); have BB := Lib.hid (BB.out.next hbn))
          | (go_at_call 34; (with_reducible refine (Myz.out _).mono ?_); rintro e wn ⟨rfl, hbn⟩; have OO := Lib.hid (OO.out.next hbn); have BB := Lib.hid (BB.out.next hbn))
          | (go_at_call 34; (with_reducible refine (Mxq.out _).mono ?_); rintro e wn ⟨rfl, hbn⟩; have OO := Lib.hid (OO.out.next hbn); have BB := Lib.hid (BB.out.next hbn))
          | (go_at_call 34; (with_reducible refine (Mxt.out _).mono ?_); rintro e wn ⟨rfl, hbn⟩; have OO := Lib.hid (OO.out.next hbn); have BB := Lib.hid (BB.out.next hbn))
          | (go_at_call 34; (with_reducible refine (Mxz.out _).mono ?_); rintro e wn ⟨rfl, hbn⟩; have OO := Lib.hid (OO.out.next hbn); have BB := Lib.hid (BB.out.next hbn))
          | (go_at_call 27; (with_reducible refine (Apr.out _).mono ?_); rintro e wn ⟨rfl, hbn⟩; have OO := Lib.hid (OO.out.next hbn); have BB := Lib.hid (BB.out.next hbn))
          | (go_at_call 34; (with_reducible refine (M1.out _).mono ?_); rintro e wn ⟨rfl, hbn⟩; have OO := Lib.hid (OO.out.next hbn); have BB := Lib.hid (BB.out.next hbn))
          | (go_at_call 30; (with_reducible refine (Nx.out _).mono ?_); rintro e wn ⟨rfl, hbn⟩; have OO := Lib.hid (OO.out.next hbn); have BB := Lib.hid (BB.out.next hbn))
          | (go_at_call 27; (with_reducible refine (A0.out _).mono ?_); rintro e wn ⟨rfl, hbn⟩; have OO := Lib.hid (OO.out.next hbn); have BB := Lib.hid (BB.out.next hbn)))
    go_wp2
    go_ret
    exact ⟨rfl, BB.out.bel⟩
end Go.Proofs.Ytoolljoejioigaa
