import Derived.Test.YtahehlajpaoiiaaGreatDoorGQW
import Derived.Test.YtahehlajpaoiiaaGreatDoorGRKB

namespace Go.Proofs.YtahehlajpaoiiaaGreatDoor
open Go.RowKit
attribute [local go_sem ↓] Go.wp_at_zero Go.wp_at_succ

def fracQ (num den : Int) (u v : Nat) : Rat := if den = 0 then mkRat (sgn (decide (num < 0) != decide ((1 : Int) < 0)) (num.natAbs * 256 ^ (u % 9))) ((1 : Int).natAbs * 256 ^ (v % 9)) else mkRat (sgn (decide (num < 0) != decide (den < 0)) (num.natAbs * 256 ^ (u % 9))) (den.natAbs * 256 ^ (v % 9))

set_option maxHeartbeats 8000000 in
set_option maxRecDepth 100000 in
theorem rat_det (num den : Int) (u v : Nat) {b0 : Bool} {m0 k0 : ByteArray} (hq0 : Rq (fracQ num den u v) b0 m0 k0) (x1 : -9223372036854775808 ≤ num) (x2 : num ≤ 9223372036854775807) (y1 : -9223372036854775808 ≤ den) (y2 : den ≤ 9223372036854775807) (hu : u < 256) (hv : v < 256) (w : World) :
    Calls Tryz.prog 27 #[.agg #[.int .i64 num, .int .i64 den, .int .u8 (u : Int), .int .u8 (v : Int)]] w (RetB w (.agg #[.bool b0, .string m0, .bool false, .string k0])) := by
  obtain ⟨d, hd0, hd1, hd2, hdd⟩ : ∃ d : Int, d ≠ 0 ∧ -9223372036854775808 ≤ d ∧ d ≤ 9223372036854775807 ∧ ((den = 0 ∧ d = 1) ∨ (((den : Int) == 0) = false ∧ d = den)) := by
    by_cases h : den = 0
    · exact ⟨1, by omega, by omega, by omega, .inl ⟨h, rfl⟩⟩
    · exact ⟨den, h, y1, y2, .inr ⟨by simpa using h, rfl⟩⟩
  have hfq : fracQ num den u v = mkRat (sgn (decide (num < 0) != decide (d < 0)) (num.natAbs * 256 ^ (u % 9))) (d.natAbs * 256 ^ (v % 9)) := by
    unfold fracQ
    rcases hdd with ⟨h1, h2⟩ | ⟨h1, h2⟩
    · rw [if_pos h1, h2]
    · rw [if_neg (by simpa using h1), h2]
  rw [hfq] at hq0
  clear hfq
  obtain ⟨bn, mn, hn⟩ := enc_form num
  obtain ⟨bd, md, hm⟩ := enc_form d
  have sn : mn.size ≤ 8 := by rw [(enc_parts hn).2]; exact i64_size x1 x2
  have sd : md.size ≤ 8 := by rw [(enc_parts hm).2]; exact i64_size hd1 hd2
  have hd3 : 0 < bval md := by rw [(enc_parts hm).2, bval_mag]; omega
  rw [← (enc_parts hn).1, ← (enc_parts hm).1, show num.natAbs = bval mn by rw [(enc_parts hn).2, bval_mag], show d.natAbs = bval md by rw [(enc_parts hm).2, bval_mag]] at hq0
  have HN := Lib.hid hn
  have HM := Lib.hid hm
  have HD3 := Lib.hid hd3
  have HI1 := Lib.hid (fun V => rint_any num x1 x2 V)
  have HI2 := Lib.hid (fun V => rint_any d hd1 hd2 V)
  have KK := Lib.hid (Kb.start w #[.int .i64 num, .int .i64 den, .int .u8 (u : Int), .int .u8 (v : Int)] #[.bool false, .string ⟨#[]⟩, .bool false, .string ⟨#[]⟩] 41 25)
  obtain ⟨ru, hru⟩ : ∃ r, u % 9 = r := ⟨_, rfl⟩
  obtain ⟨rv, hrv⟩ : ∃ r, v % 9 = r := ⟨_, rfl⟩
  have hru1 : ru ≤ 8 := by omega
  have hrv1 : rv ≤ 8 := by omega
  have HU := Lib.hid (show (u : Int) % 9 = (ru : Int) by omega)
  have HV := Lib.hid (show (v : Int) % 9 = (rv : Int) by omega)
  rw [hru, hrv] at hq0
  have HQ0 := Lib.hid hq0
  clear hn hm hd3 hd0 hru hrv hq0
  rcases hdd with ⟨rfl, rfl⟩ | ⟨hd, rfl⟩
  all_goals
    go_enter Tryz.func27, Tryz.ntmps27
    go_wp2_with fail
    refine (HI1.out _).mono ?_
    rintro e w1 ⟨rfl, hb1⟩
    rw [HN.out]
    have K1 := Lib.hid (KK.out.next hb1)
    clear hb1
    go_wp2_with fail
    refine (HI2.out _).mono ?_
    rintro e w2 ⟨rfl, hb2⟩
    rw [HM.out]
    have K2 := Lib.hid (K1.out.next hb2)
    have FF := Lib.hid (show Fr w w2.heap.size (w2.heap.size + 1) num _ u v bn bd mn md ((w2.alloc (.cells #[.bool bn, .string mn] 23)).alloc (.cells #[.bool bd, .string md] 23)) from
      ⟨(K2.out.next (below_two' w2 _ _)).k1, (K2.out.next (below_two' w2 _ _)).k2, heap_fst _ _ _, heap_two _ _ _, K2.out.sz, by omega, by simp, (K2.out.next (below_two' w2 _ _)).bel⟩)
    clear hb2
    go_upto_region 6 with fail
    obtain ⟨W, hW⟩ : ∃ W, W = ((w2.alloc (.cells #[.bool bn, .string mn] 23)).alloc (.cells #[.bool bd, .string md] 23)) := ⟨_, rfl⟩
    rw [← hW] at FF
    rw [← hW]
    clear hW K1 K2
    go_loopw [6] (fun iv wr => ∃ (i : Nat) (s : ByteArray), i ≤ ru ∧ iv = .int .u8 (i : Int) ∧ s.size ≤ 8 + i ∧ Hid (bval s = bval mn * 256 ^ i) ∧ Hid (Fr w w2.heap.size (w2.heap.size + 1) num _ u v bn bd s md wr)) (fun iv _ => 9 - (intOf iv).toNat)
    case atStart => exact ⟨0, mn, Nat.zero_le _, rfl, by omega, Lib.hid (by rw [Nat.pow_zero, Nat.mul_one]), FF.out⟩
    case round =>
      obtain ⟨i, s, hi, rfl, hs, HBS, HF⟩ := hrel
      obtain ⟨f0, f1, f2, f3⟩ := blk4 HF.out.k1
      obtain ⟨g0, g1, g2, g3⟩ := blk_cells HF.out.k4
      have hU := HU.out
      by_cases hlt : i < ru ∧ 0 < s.size
      · obtain ⟨hlt, hsz⟩ := hlt
        have he := empty_no hsz
        have hcat : ¬ 9223372036854775807 < s.size + 1 := by omega
        have HF2 := Lib.hid (HF.out.set4 (s ++ ⟨#[0]⟩))
        have HSZ := Lib.hid (zero_size s)
        have HBN := Lib.hid (show bval (s ++ ByteArray.mk #[0]) = bval mn * 256 ^ (i + 1) by rw [bval_zero_behind, HBS.out, Nat.pow_succ]; rw [Nat.mul_comm 256, Nat.mul_assoc])
        go_wp2
        go_roundw
        case rel => exact ⟨i + 1, s ++ ByteArray.mk #[0], by omega, by go_num, by rw [HSZ.out]; omega, HBN.out, HF2.out⟩
        case measure => simp [intOf] <;> omega
      · have hend : (ru ≤ i) ∨ (i < ru ∧ s.toList.isEmpty = true) := by
          rcases Nat.lt_or_ge i ru with h | h
          · exact .inr ⟨h, empty_yes (fun h1 => hlt ⟨h, h1⟩)⟩
          · exact .inl h
        clear hlt
        have hs16 : s.size ≤ 16 := by omega
        have HSV := Lib.hid (show bval s = bval mn * 256 ^ ru by
          rcases hend with h | ⟨h, he⟩
          · rw [HBS.out, show i = ru by omega]
          · have h1 : bval s = 0 := by rw [show s = ⟨#[]⟩ from ByteArray.ext (by rw [List.isEmpty_iff, ByteArray.toList_eq] at he; exact Array.toList_inj.1 he)]; rfl
            have h2 := HBS.out
            rw [h1] at h2
            have h3 : bval mn = 0 := by
              rcases Nat.mul_eq_zero.1 h2.symm with h4 | h4
              · exact h4
              · exact absurd h4 (Nat.ne_of_gt (Nat.pow_pos (by omega)))
            rw [h1, h3, Nat.zero_mul])
        clear hs
        rcases hend with h | ⟨h, he⟩
        all_goals
          go_upto_region 10 with fail
          clear hU f0 f1 f2 f3 g0 g1 g2 g3
          try clear he
          go_loopw [7] (fun jv wr => ∃ (j : Nat) (t : ByteArray), j ≤ rv ∧ jv = .int .u8 (j : Int) ∧ t.size ≤ 8 + j ∧ Hid (0 < bval t) ∧ Hid (bval t = bval md * 256 ^ j) ∧ Hid (Fr w w2.heap.size (w2.heap.size + 1) num _ u v bn bd s t wr)) (fun jv _ => 9 - (intOf jv).toNat)
          case atStart => exact ⟨0, md, Nat.zero_le _, rfl, by omega, HD3.out, Lib.hid (by rw [Nat.pow_zero, Nat.mul_one]), HF.out⟩
          case round =>
            obtain ⟨j, t, hj, rfl, ht, HP, HBT, HG⟩ := hrel
            obtain ⟨f0, f1, f2, f3⟩ := blk4 HG.out.k1
            obtain ⟨g0, g1, g2, g3⟩ := blk_cells HG.out.k5
            have hV := HV.out
            by_cases hlt : j < rv
            · have hcat : ¬ 9223372036854775807 < t.size + 1 := by omega
              have HG2 := Lib.hid (HG.out.set5 (t ++ ByteArray.mk #[0]))
              have HSZ := Lib.hid (zero_size t)
              have HBV := Lib.hid (bval_zero_behind t)
              have HTN := Lib.hid (show bval (t ++ ByteArray.mk #[0]) = bval md * 256 ^ (j + 1) by rw [bval_zero_behind, HBT.out, Nat.pow_succ]; rw [Nat.mul_comm 256, Nat.mul_assoc])
              go_wp2
              go_roundw
              case rel => exact ⟨j + 1, t ++ ByteArray.mk #[0], by omega, by go_num, by rw [HSZ.out]; omega, by show 0 < _; rw [HBV.out]; have := HP.out; omega, HTN.out, HG2.out⟩
              case measure => simp [intOf] <;> omega
            · have ht16 : t.size ≤ 16 := by omega
              have htv := HBT.out
              rw [show j = rv by omega] at htv
              have HTV := Lib.hid htv
              clear htv
              have HMK := Lib.hid (fun V => rmake bn bd s t (by omega) (by omega) HP.out V)
              obtain ⟨g4, g5, g6, g7⟩ := blk_cells HG.out.k4
              go_wp2_with fail
              refine (HMK.out _).mono ?_
              rintro e w9 ⟨b3, m3, k3, rfl, hq, hb9⟩
              have hk2 := (hb9.block _ (by have := HG.out.sz; have := HG.out.lt5; have := HG.out.lt4; omega)).trans HG.out.k2
              obtain ⟨t0, t1, t2, t3⟩ := blk4 hk2
              obtain ⟨z0, z1, z2, z3⟩ := fro4 hk2
              have HB9 := Lib.hid (HG.out.bel.trans (hb9.mono HG.out.bel.size))
              have hq' := hq
              rw [HSV.out, HTV.out] at hq'
              obtain ⟨h1, h2, h3⟩ := HQ0.out.inj hq'
              subst h1
              subst h2
              subst h3
              clear hq hq' hb9 hk2 f0 f1 f2 f3 g0 g1 g2 g3 g4 g5 g6 g7 hV
              go_wp2
              exact bodyPost_ret (v := .agg #[.bool b0, .string m0, .bool false, .string k0]) (by simp [results, Tryz.results27, go_sem, t0, t1, t2, t3]) rfl ⟨rfl, below_set4 HB9.out (by omega) _ _ _ _⟩

theorem frac_small (num den : Int) (u v : Nat) (x1 : -9223372036854775808 ≤ num) (x2 : num ≤ 9223372036854775807) (y1 : -9223372036854775808 ≤ den) (y2 : den ≤ 9223372036854775807) : (fracQ num den u v).num.natAbs < 256 ^ 16 ∧ (fracQ num den u v).den < 256 ^ 16 := by
  have p : ∀ (x : Int) (r : Nat), -9223372036854775808 ≤ x → x ≤ 9223372036854775807 → x.natAbs * 256 ^ (r % 9) < 256 ^ 16 := by
    intro x r h1 h2
    have h3 : 256 ^ (r % 9) ≤ 256 ^ 8 := Nat.pow_le_pow_right (by omega) (by omega)
    have h4 : x.natAbs * 256 ^ (r % 9) ≤ 9223372036854775808 * 256 ^ 8 := Nat.mul_le_mul (by omega) h3
    exact Nat.lt_of_le_of_lt h4 (by decide)
  have q : ∀ (x : Int) (r : Nat), x ≠ 0 → 0 < x.natAbs * 256 ^ (r % 9) := fun x r h => Nat.mul_pos (by omega) (Nat.pow_pos (by omega))
  unfold fracQ
  split
  · exact mk_small (p num u x1 x2) (p 1 v (by omega) (by omega)) (q 1 v (by omega))
  · rename_i h
    exact mk_small (p num u x1 x2) (p den v y1 y2) (q den v h)
end Go.Proofs.YtahehlajpaoiiaaGreatDoor


namespace Go.Proofs.YtahehlajpaoiiaaGreatDoor

def Sz (n : Nat) (q : Rat) : Prop := q.num.natAbs < 256 ^ n ∧ q.den < 256 ^ n

theorem mkRat_le (x : Int) {d : Nat} (hd : d ≠ 0) : (mkRat x d).num.natAbs ≤ x.natAbs ∧ (mkRat x d).den ≤ d := by
  obtain ⟨h1, h2⟩ := mkRat_parts x hd
  rw [h1, h2]
  refine ⟨?_, Nat.div_le_self _ _⟩
  rw [Int.natAbs_ediv_of_dvd (int_gcd_dvd x d), Int.natAbs_natCast]
  exact Nat.div_le_self _ _
theorem Sz.add {n m : Nat} {p q : Rat} (hp : Sz n p) (hq : Sz m q) : Sz (n + m + 1) (p + q) := by
  rw [Rat.add_def']
  obtain ⟨h1, h2⟩ := mkRat_le (p.num * q.den + q.num * p.den) (d := p.den * q.den) (Nat.mul_ne_zero p.den_nz q.den_nz)
  have h3 := Int.natAbs_add_le (p.num * (q.den : Int)) (q.num * (p.den : Int))
  rw [Int.natAbs_mul, Int.natAbs_mul, Int.natAbs_natCast, Int.natAbs_natCast] at h3
  have h4 : p.num.natAbs * q.den < 256 ^ n * 256 ^ m := Nat.mul_lt_mul'' hp.1 hq.2
  have h5 : q.num.natAbs * p.den < 256 ^ m * 256 ^ n := Nat.mul_lt_mul'' hq.1 hp.2
  have h6 : p.den * q.den < 256 ^ n * 256 ^ m := Nat.mul_lt_mul'' hp.2 hq.2
  rw [Nat.mul_comm (256 ^ m)] at h5
  unfold Sz
  rw [Nat.pow_succ, Nat.pow_add]
  omega
theorem Sz.m {n : Nat} {q : Rat} (h : Sz n q) {b : Bool} {m k : ByteArray} (hq : Rq q b m k) (hn : n ≤ 10000) : m.size ≤ 10000 ∧ (mag q.den).size ≤ 10000 := by
  refine ⟨?_, Nat.le_trans (mag_size_le h.2) hn⟩
  rw [hq.mag.2]
  exact Nat.le_trans (mag_size_le h.1) hn
theorem Sz.minus {n : Nat} {q : Rat} (h : Sz n q) : Sz n (-q) := by
  unfold Sz
  rw [Rat.neg_num, Rat.neg_den, Int.natAbs_neg]
  exact h
end Go.Proofs.YtahehlajpaoiiaaGreatDoor


namespace Go.Proofs.YtahehlajpaoiiaaGreatDoor
open Go.RowKit
attribute [local go_sem ↓] Go.wp_at_zero Go.wp_at_succ

set_option maxHeartbeats 32000000 in
set_option maxRecDepth 100000 in
theorem radds_walk (n0 e0 : Int) (u0 v0 : Nat) (hn0 : -9223372036854775808 ≤ n0 ∧ n0 ≤ 9223372036854775807) (he0 : -9223372036854775808 ≤ e0 ∧ e0 ≤ 9223372036854775807) (hu0 : u0 < 256) (hv0 : v0 < 256) (n1 e1 : Int) (u1 v1 : Nat) (hn1 : -9223372036854775808 ≤ n1 ∧ n1 ≤ 9223372036854775807) (he1 : -9223372036854775808 ≤ e1 ∧ e1 ≤ 9223372036854775807) (hu1 : u1 < 256) (hv1 : v1 < 256) (w : World) (hE : Env w) :
    Calls Tryz.prog 5 #[.agg #[.int .i64 n0, .int .i64 e0, .int .u8 (u0 : Int), .int .u8 (v0 : Int)], .agg #[.int .i64 n1, .int .i64 e1, .int .u8 (u1 : Int), .int .u8 (v1 : Int)]] w (RetB w (.bool true)) := by
  obtain ⟨ba, ma, ka, ha⟩ := Rq.some_ (fracQ n0 e0 u0 v0)
  have HA := Lib.hid (fun V => rat_det n0 e0 u0 v0 ha hn0.1 hn0.2 he0.1 he0.2 hu0 hv0 V)
  have za : Sz 16 (fracQ n0 e0 u0 v0) := frac_small n0 e0 u0 v0 hn0.1 hn0.2 he0.1 he0.2
  generalize fracQ n0 e0 u0 v0 = qa at *
  obtain ⟨bb, mb, kb, hb⟩ := Rq.some_ (fracQ n1 e1 u1 v1)
  have HB := Lib.hid (fun V => rat_det n1 e1 u1 v1 hb hn1.1 hn1.2 he1.1 he1.2 hu1 hv1 V)
  have zb : Sz 16 (fracQ n1 e1 u1 v1) := frac_small n1 e1 u1 v1 hn1.1 hn1.2 he1.1 he1.2
  generalize fracQ n1 e1 u1 v1 = qb at *
  obtain ⟨bs, ms, ks, hs⟩ := Rq.some_ (qa + qb)
  obtain ⟨bd, md, kd, hd⟩ := Rq.some_ (qa - qb)
  have zs := za.add zb
  have zd : Sz 33 (qa - qb) := by
    rw [Rat.sub_eq_add_neg]
    exact za.add zb.minus
  have ya := za.m ha (by omega)
  have yb := zb.m hb (by omega)
  have ys := zs.m hs (by omega)
  have yd := zd.m hd (by omega)
  have HS := Lib.hid (fun V (hV : Env V) => ratAdd_f ha hb hs ya.1 yb.1 ya.2 yb.2 V hV)
  have HD := Lib.hid (fun V (hV : Env V) => ratSub_f ha hb hd ya.1 yb.1 ya.2 yb.2 V hV)
  have H5 := Lib.hid (fun V => rAdd_f ha hb hs ya.1 yb.1 ya.2 yb.2 V)
  have H12 := Lib.hid (fun V => rSub_f ha hb hd ya.1 yb.1 ya.2 yb.2 V)
  have H18 := Lib.hid (fun V (hV : Env V) => ratAdd_f hb ha (by rw [Rat.add_comm]; exact hs) yb.1 ya.1 yb.2 ya.2 V hV)
  have H25 := Lib.hid (fun V (hV : Env V) => ratSub_f hs hb (by rw [Rat.sub_eq_add_neg, Rat.add_assoc, Rat.add_neg_cancel, Rat.add_zero]; exact ha) ys.1 yb.1 ys.2 yb.2 V hV)
  have H32 := Lib.hid (fun V (hV : Env V) => ratAdd_f hd hb (by rw [Rat.sub_eq_add_neg, Rat.add_assoc, Rat.neg_add_cancel, Rat.add_zero]; exact ha) yd.1 yb.1 yd.2 yb.2 V hV)
  have HV := Lib.hid (fun (V : World) (g : Nat) {T : TypeId} (h : V.heap[g]? = some (.cells #[.bool bs, .string ms, .bool false, .string ks, .bool bd, .string md, .bool false, .string kd] T)) => valid2B hs hd ys yd V g h)
  have HKN := Lib.hid (fun V (hV : Env V) => rknown_any V hV)
  have HE := Lib.hid (fun V (h : Below w.heap.size w V) => hE.next h)
  have X := Lib.hid (((Sb.start w).new #[.int .i64 n0, .int .i64 e0, .int .u8 (u0 : Int), .int .u8 (v0 : Int)] 41).new #[.int .i64 n1, .int .i64 e1, .int .u8 (u1 : Int), .int .u8 (v1 : Int)] 41)
  have X := Lib.hid (X.out.pick [0, 1] [(w.heap.size, #[.int .i64 n0, .int .i64 e0, .int .u8 (u0 : Int), .int .u8 (v0 : Int)], 41), (w.heap.size + 1, #[.int .i64 n1, .int .i64 e1, .int .u8 (u1 : Int), .int .u8 (v1 : Int)], 41)] [] (by simp) (by decide) (by simp))
  clear ha hb hs hd za zb zs zd ya yb ys yd hE hn0 he0 hu0 hv0 hn1 he1 hu1 hv1
  go_enter Tryz.func5, Tryz.ntmps5
  go_upto_region 1 with fail
  go_cut [5, 6] (fun s5 s6 wx => ∃ g5 g6, s5 = .pointer (some ⟨g5, 0, none⟩) ∧ s6 = .pointer (some ⟨g6, 0, none⟩) ∧ Sb w [(g5, #[.bool ba, .string ma, .bool false, .string ka], 25), (g6, #[.bool bb, .string mb, .bool false, .string kb], 25)] [] wx)
  case first =>
    refine wp_region_any (by kernel_rfl) ?_
    have X := Lib.hid X.out.drew
    obtain ⟨W0, hV⟩ := wexi X.out
    rw [show ∀ v : World, { v with drawn := v.drawn + 1 } = v.drew from fun _ => rfl, ← hV]
    rw [← hV] at X
    clear hV
    refine rg_run (ef := [.val (.agg #[.int .i64 n0, .int .i64 e0, .int .u8 (u0 : Int), .int .u8 (v0 : Int)]), .val (.agg #[.bool ba, .string ma, .bool false, .string ka]), .val (.agg #[.int .i64 n1, .int .i64 e1, .int .u8 (u1 : Int), .int .u8 (v1 : Int)]), .val (.agg #[.bool bb, .string mb, .bool false, .string kb]), .new #[.bool false, .string ⟨#[]⟩, .bool false, .string ⟨#[]⟩] 25, .new #[.bool false, .string ⟨#[]⟩, .bool false, .string ⟨#[]⟩] 25]) (ds := [9, 10, 11, 12, 5, 6]) (by kernel_rfl) (stays_none (by simp)) (by decide) rfl (by intro d hd; simp at hd ⊢; omega) (fun i d o hd ho listed a w1 hR hdep K hK => ?_) 2 (fun a w1 hR => ?_)
    · have X := Lib.hid (X.out.next hR.bel)
      have HKt := Lib.hid hK
      have HDp := Lib.hid hdep
      have sl2 : a.tmps.getD 2 undef = .pointer (some ⟨w.heap.size, 0, none⟩) := hR.keep 2 (by decide)
      have sl3 : a.tmps.getD 3 undef = .pointer (some ⟨w.heap.size + 1, 0, none⟩) := hR.keep 3 (by decide)
      have HRg := Lib.hid hR
      clear hK hdep hR
      rcases i with _ | _ | _ | _ | _ | _ | i
      · cases hd
        cases ho
        obtain ⟨x00, x01, x02, x03⟩ := X.out.c4 (i := 0) rfl
        obtain ⟨x10, x11, x12, x13⟩ := X.out.c4 (i := 1) rfl
        go_simp
        exact HKt.out _ _ (Or.inl ⟨rfl, Below.refl _ _⟩)
      · cases hd
        cases ho
        have dd0 : a.tmps.getD 9 undef = .agg #[.int .i64 n0, .int .i64 e0, .int .u8 (u0 : Int), .int .u8 (v0 : Int)] := HRg.out.val 0 _ (HDp.out 0 (by decide)) rfl
        go_simp
        (go_at_call 27; refine (HA.out _).mono ?_; rintro e u ⟨rfl, hb9⟩)
        try go_wp2_with fail
        exact HKt.out _ _ (Or.inl ⟨rfl, hb9⟩)
      · cases hd
        cases ho
        obtain ⟨x00, x01, x02, x03⟩ := X.out.c4 (i := 0) rfl
        obtain ⟨x10, x11, x12, x13⟩ := X.out.c4 (i := 1) rfl
        go_simp
        exact HKt.out _ _ (Or.inl ⟨rfl, Below.refl _ _⟩)
      · cases hd
        cases ho
        have dd1 : a.tmps.getD 10 undef = .agg #[.bool ba, .string ma, .bool false, .string ka] := HRg.out.val 1 _ (HDp.out 1 (by decide)) rfl
        have dd2 : a.tmps.getD 11 undef = .agg #[.int .i64 n1, .int .i64 e1, .int .u8 (u1 : Int), .int .u8 (v1 : Int)] := HRg.out.val 2 _ (HDp.out 2 (by decide)) rfl
        go_simp
        (go_at_call 27; refine (HB.out _).mono ?_; rintro e u ⟨rfl, hb9⟩)
        try go_wp2_with fail
        exact HKt.out _ _ (Or.inl ⟨rfl, hb9⟩)
      · cases hd
        cases ho
        go_simp
        exact HKt.out _ _ (Or.inr (Or.inl ⟨_, _, rfl, rfl, rfl⟩))
      · cases hd
        cases ho
        go_simp
        exact HKt.out _ _ (Or.inr (Or.inl ⟨_, _, rfl, rfl, rfl⟩))
      · cases hd
    obtain ⟨g4, hg4, lg4, kg4⟩ := hR.new 4 _ _ (by rfl) rfl
    obtain ⟨g5, hg5, lg5, kg5⟩ := hR.new 5 _ _ (by rfl) rfl
    have vv0 : a.tmps.getD 9 undef = .agg #[.int .i64 n0, .int .i64 e0, .int .u8 (u0 : Int), .int .u8 (v0 : Int)] := hR.val 0 _ (by rfl) rfl
    have vv1 : a.tmps.getD 10 undef = .agg #[.bool ba, .string ma, .bool false, .string ka] := hR.val 1 _ (by rfl) rfl
    have vv2 : a.tmps.getD 11 undef = .agg #[.int .i64 n1, .int .i64 e1, .int .u8 (u1 : Int), .int .u8 (v1 : Int)] := hR.val 2 _ (by rfl) rfl
    have vv3 : a.tmps.getD 12 undef = .agg #[.bool bb, .string mb, .bool false, .string kb] := hR.val 3 _ (by rfl) rfl
    replace hg4 : a.tmps.getD 5 undef = .pointer (some ⟨g4, 0, none⟩) := hg4
    replace hg5 : a.tmps.getD 6 undef = .pointer (some ⟨g5, 0, none⟩) := hg5
    have hne : g4 ≠ g5 := fun e => hR.ne 4 5 _ _ _ _ g4 (by decide) (by rfl) (by rfl) rfl rfl hg4 (by rw [e]; exact hg5)
    have X := Lib.hid (X.out.add2 hR.bel lg4 kg4 lg5 kg5 hne)
    have ha := hR.act
    simp only [List.foldl_cons, List.foldl_nil, seti, set0, setS, vv0, vv1, vv2, vv3, hg4, hg5] at ha
    subst ha
    clear hR vv0 vv1 vv2 vv3 hg4 lg4 kg4 hg5 lg5 kg5 hne
    refine wpAny_of_late (S := fun _ => True) (L := []) _ _ _ _ ?_
    refine wpLate_one (i := 6) (o := ⟨none, _, _, _, _, _⟩) (by kernel_rfl) rfl (fun K hK => ?_)
    obtain ⟨x0, x1, x2, x3⟩ := X.out.c4 (i := 2) rfl
    obtain ⟨y0, y1, y2, y3⟩ := X.out.f4 (i := 2) rfl
    have X := Lib.hid (X.out.set4 (i := 2) rfl (.bool ba) (.string ma) (.bool false) (.string ka))
    go_simp
    refine hK.out _ _ (Or.inr fun _ => trivial) ?_
    clear hK K x0 x1 x2 x3 y0 y1 y2 y3
    obtain ⟨W6, hV⟩ := wexi X.out
    rw [← hV] at X ⊢
    clear hV
    try simp only [Act.put]
    refine wpLate_one (i := 7) (o := ⟨none, _, _, _, _, _⟩) (by kernel_rfl) rfl (fun K hK => ?_)
    obtain ⟨x0, x1, x2, x3⟩ := X.out.c4 (i := 3) rfl
    obtain ⟨y0, y1, y2, y3⟩ := X.out.f4 (i := 3) rfl
    have X := Lib.hid (X.out.set4 (i := 3) rfl (.bool bb) (.string mb) (.bool false) (.string kb))
    go_simp
    refine hK.out _ _ (Or.inr fun _ => trivial) ?_
    clear hK K x0 x1 x2 x3 y0 y1 y2 y3
    obtain ⟨W7, hV⟩ := wexi X.out
    rw [← hV] at X ⊢
    clear hV
    try simp only [Act.put]
    refine wpLate_done (by kernel_rfl) ?_ _
    go_wp2_with fail
    go_meet
    exact ⟨_, _, rfl, rfl, X.out.pick [2, 3] _ [] rfl (by decide) (by simp)⟩
  obtain ⟨g5, g6, rfl, rfl, hX⟩ := hcut
  have X := Lib.hid hX
  clear hX
  go_upto_region 2 with fail
  go_cut [7, 8] (fun s7 s8 wx => ∃ g7 g8, s7 = .pointer (some ⟨g7, 0, none⟩) ∧ s8 = .pointer (some ⟨g8, 0, none⟩) ∧ Sb w [(g5, #[.bool ba, .string ma, .bool false, .string ka], 25), (g6, #[.bool bb, .string mb, .bool false, .string kb], 25), (g7, #[.bool bs, .string ms, .bool false, .string ks], 25), (g8, #[.bool bd, .string md, .bool false, .string kd], 25)] [] wx)
  case first =>
    refine wp_region_any (by kernel_rfl) ?_
    have X := Lib.hid X.out.drew
    obtain ⟨W0, hV⟩ := wexi X.out
    rw [show ∀ v : World, { v with drawn := v.drawn + 1 } = v.drew from fun _ => rfl, ← hV]
    rw [← hV] at X
    clear hV
    refine rg_run (ef := [.val (.agg #[.bool ba, .string ma, .bool false, .string ka]), .val (.agg #[.bool bb, .string mb, .bool false, .string kb]), .val (.agg #[.bool bs, .string ms, .bool false, .string ks]), .val (.agg #[.bool ba, .string ma, .bool false, .string ka]), .val (.agg #[.bool bb, .string mb, .bool false, .string kb]), .val (.agg #[.bool bd, .string md, .bool false, .string kd]), .new #[.bool false, .string ⟨#[]⟩, .bool false, .string ⟨#[]⟩] 25, .new #[.bool false, .string ⟨#[]⟩, .bool false, .string ⟨#[]⟩] 25]) (ds := [13, 14, 15, 16, 17, 18, 7, 8]) (by kernel_rfl) (stays_none (by simp)) (by decide) rfl (by intro d hd; simp at hd ⊢; omega) (fun i d o hd ho listed a w1 hR hdep K hK => ?_) 2 (fun a w1 hR => ?_)
    · have X := Lib.hid (X.out.next hR.bel)
      have HKt := Lib.hid hK
      have HDp := Lib.hid hdep
      have sl5 : a.tmps.getD 5 undef = .pointer (some ⟨g5, 0, none⟩) := hR.keep 5 (by decide)
      have sl6 : a.tmps.getD 6 undef = .pointer (some ⟨g6, 0, none⟩) := hR.keep 6 (by decide)
      have HRg := Lib.hid hR
      clear hK hdep hR
      rcases i with _ | _ | _ | _ | _ | _ | _ | _ | i
      · cases hd
        cases ho
        obtain ⟨x00, x01, x02, x03⟩ := X.out.c4 (i := 0) rfl
        obtain ⟨x10, x11, x12, x13⟩ := X.out.c4 (i := 1) rfl
        go_simp
        exact HKt.out _ _ (Or.inl ⟨rfl, Below.refl _ _⟩)
      · cases hd
        cases ho
        obtain ⟨x00, x01, x02, x03⟩ := X.out.c4 (i := 0) rfl
        obtain ⟨x10, x11, x12, x13⟩ := X.out.c4 (i := 1) rfl
        go_simp
        exact HKt.out _ _ (Or.inl ⟨rfl, Below.refl _ _⟩)
      · cases hd
        cases ho
        have dd0 : a.tmps.getD 13 undef = .agg #[.bool ba, .string ma, .bool false, .string ka] := HRg.out.val 0 _ (HDp.out 0 (by decide)) rfl
        have dd1 : a.tmps.getD 14 undef = .agg #[.bool bb, .string mb, .bool false, .string kb] := HRg.out.val 1 _ (HDp.out 1 (by decide)) rfl
        go_simp
        (go_at_call 28; refine (HS.out _ (HE.out _ X.out.bel)).mono ?_; rintro e u ⟨rfl, hb9⟩)
        try go_wp2_with fail
        exact HKt.out _ _ (Or.inl ⟨rfl, hb9⟩)
      · cases hd
        cases ho
        obtain ⟨x00, x01, x02, x03⟩ := X.out.c4 (i := 0) rfl
        obtain ⟨x10, x11, x12, x13⟩ := X.out.c4 (i := 1) rfl
        go_simp
        exact HKt.out _ _ (Or.inl ⟨rfl, Below.refl _ _⟩)
      · cases hd
        cases ho
        obtain ⟨x00, x01, x02, x03⟩ := X.out.c4 (i := 0) rfl
        obtain ⟨x10, x11, x12, x13⟩ := X.out.c4 (i := 1) rfl
        go_simp
        exact HKt.out _ _ (Or.inl ⟨rfl, Below.refl _ _⟩)
      · cases hd
        cases ho
        have dd2 : a.tmps.getD 15 undef = .agg #[.bool bs, .string ms, .bool false, .string ks] := HRg.out.val 2 _ (HDp.out 2 (by decide)) rfl
        have dd3 : a.tmps.getD 16 undef = .agg #[.bool ba, .string ma, .bool false, .string ka] := HRg.out.val 3 _ (HDp.out 3 (by decide)) rfl
        have dd4 : a.tmps.getD 17 undef = .agg #[.bool bb, .string mb, .bool false, .string kb] := HRg.out.val 4 _ (HDp.out 4 (by decide)) rfl
        go_simp
        (go_at_call 29; refine (HD.out _ (HE.out _ X.out.bel)).mono ?_; rintro e u ⟨rfl, hb9⟩)
        try go_wp2_with fail
        exact HKt.out _ _ (Or.inl ⟨rfl, hb9⟩)
      · cases hd
        cases ho
        go_simp
        exact HKt.out _ _ (Or.inr (Or.inl ⟨_, _, rfl, rfl, rfl⟩))
      · cases hd
        cases ho
        go_simp
        exact HKt.out _ _ (Or.inr (Or.inl ⟨_, _, rfl, rfl, rfl⟩))
      · cases hd
    obtain ⟨g6, hg6, lg6, kg6⟩ := hR.new 6 _ _ (by rfl) rfl
    obtain ⟨g7, hg7, lg7, kg7⟩ := hR.new 7 _ _ (by rfl) rfl
    have vv0 : a.tmps.getD 13 undef = .agg #[.bool ba, .string ma, .bool false, .string ka] := hR.val 0 _ (by rfl) rfl
    have vv1 : a.tmps.getD 14 undef = .agg #[.bool bb, .string mb, .bool false, .string kb] := hR.val 1 _ (by rfl) rfl
    have vv2 : a.tmps.getD 15 undef = .agg #[.bool bs, .string ms, .bool false, .string ks] := hR.val 2 _ (by rfl) rfl
    have vv3 : a.tmps.getD 16 undef = .agg #[.bool ba, .string ma, .bool false, .string ka] := hR.val 3 _ (by rfl) rfl
    have vv4 : a.tmps.getD 17 undef = .agg #[.bool bb, .string mb, .bool false, .string kb] := hR.val 4 _ (by rfl) rfl
    have vv5 : a.tmps.getD 18 undef = .agg #[.bool bd, .string md, .bool false, .string kd] := hR.val 5 _ (by rfl) rfl
    replace hg6 : a.tmps.getD 7 undef = .pointer (some ⟨g6, 0, none⟩) := hg6
    replace hg7 : a.tmps.getD 8 undef = .pointer (some ⟨g7, 0, none⟩) := hg7
    have hne : g6 ≠ g7 := fun e => hR.ne 6 7 _ _ _ _ g6 (by decide) (by rfl) (by rfl) rfl rfl hg6 (by rw [e]; exact hg7)
    have X := Lib.hid (X.out.add2 hR.bel lg6 kg6 lg7 kg7 hne)
    have ha := hR.act
    simp only [List.foldl_cons, List.foldl_nil, seti, set0, setS, vv0, vv1, vv2, vv3, vv4, vv5, hg6, hg7] at ha
    subst ha
    clear hR vv0 vv1 vv2 vv3 vv4 vv5 hg6 lg6 kg6 hg7 lg7 kg7 hne
    refine wpAny_of_late (S := fun _ => True) (L := []) _ _ _ _ ?_
    refine wpLate_one (i := 8) (o := ⟨none, _, _, _, _, _⟩) (by kernel_rfl) rfl (fun K hK => ?_)
    obtain ⟨x0, x1, x2, x3⟩ := X.out.c4 (i := 2) rfl
    obtain ⟨y0, y1, y2, y3⟩ := X.out.f4 (i := 2) rfl
    have X := Lib.hid (X.out.set4 (i := 2) rfl (.bool bs) (.string ms) (.bool false) (.string ks))
    go_simp
    refine hK.out _ _ (Or.inr fun _ => trivial) ?_
    clear hK K x0 x1 x2 x3 y0 y1 y2 y3
    obtain ⟨W8, hV⟩ := wexi X.out
    rw [← hV] at X ⊢
    clear hV
    try simp only [Act.put]
    refine wpLate_one (i := 9) (o := ⟨none, _, _, _, _, _⟩) (by kernel_rfl) rfl (fun K hK => ?_)
    obtain ⟨x0, x1, x2, x3⟩ := X.out.c4 (i := 3) rfl
    obtain ⟨y0, y1, y2, y3⟩ := X.out.f4 (i := 3) rfl
    have X := Lib.hid (X.out.set4 (i := 3) rfl (.bool bd) (.string md) (.bool false) (.string kd))
    go_simp
    refine hK.out _ _ (Or.inr fun _ => trivial) ?_
    clear hK K x0 x1 x2 x3 y0 y1 y2 y3
    obtain ⟨W9, hV⟩ := wexi X.out
    rw [← hV] at X ⊢
    clear hV
    try simp only [Act.put]
    refine wpLate_done (by kernel_rfl) ?_ _
    go_wp2_with fail
    go_meet
    exact ⟨_, _, rfl, rfl, X.out.pick [0, 1, 2, 3] _ [] rfl (by decide) (by simp)⟩
  obtain ⟨g7, g8, rfl, rfl, hX⟩ := hcut
  have X := Lib.hid hX
  clear hX
  go_upto_region 3 with fail
  refine wp_region_late (S := fun w' => (w'.cell? ⟨g5, 0, none⟩ = some (.bool ba) ∧ w'.cell? ⟨g5, 1, none⟩ = some (.string ma) ∧ w'.cell? ⟨g5, 2, none⟩ = some (.bool false) ∧ w'.cell? ⟨g5, 3, none⟩ = some (.string ka)) ∧ (w'.cell? ⟨g6, 0, none⟩ = some (.bool bb) ∧ w'.cell? ⟨g6, 1, none⟩ = some (.string mb) ∧ w'.cell? ⟨g6, 2, none⟩ = some (.bool false) ∧ w'.cell? ⟨g6, 3, none⟩ = some (.string kb)) ∧ (w'.cell? ⟨g7, 0, none⟩ = some (.bool bs) ∧ w'.cell? ⟨g7, 1, none⟩ = some (.string ms) ∧ w'.cell? ⟨g7, 2, none⟩ = some (.bool false) ∧ w'.cell? ⟨g7, 3, none⟩ = some (.string ks)) ∧ (w'.cell? ⟨g8, 0, none⟩ = some (.bool bd) ∧ w'.cell? ⟨g8, 1, none⟩ = some (.string md) ∧ w'.cell? ⟨g8, 2, none⟩ = some (.bool false) ∧ w'.cell? ⟨g8, 3, none⟩ = some (.string kd))) (L := []) (by kernel_rfl) ?_
  have X := Lib.hid X.out.drew
  obtain ⟨V0, hV⟩ := wexi X.out
  rw [← hV] at X ⊢
  clear hV
  refine wpLate_one (i := 0) (o := ⟨some 19, _, _, _, _, _⟩) (by kernel_rfl) rfl (fun K hK => ?_)
  go_simp
  (go_at_call 14; refine (HKN.out _ (HE.out _ X.out.bel)).mono ?_; rintro e u1 ⟨rfl, hb9⟩; have X := Lib.hid (X.out.next hb9); clear hb9)
  try go_wp2_with fail
  refine hK.out _ _ (Or.inr (fun _ => ⟨X.out.c4 (i := 0) rfl, X.out.c4 (i := 1) rfl, X.out.c4 (i := 2) rfl, X.out.c4 (i := 3) rfl⟩)) ?_
  clear hK K
  try simp only [Act.put, seti, set0, setS]
  refine tk (i := 1) (oi := ⟨some 20, _, _, _, _, _⟩) (v := _) rfl (by kernel_rfl) (fun _ _ _ h => h) (⟨X.out.c4 (i := 0) rfl, X.out.c4 (i := 1) rfl, X.out.c4 (i := 2) rfl, X.out.c4 (i := 3) rfl⟩) (Or.inl ⟨by rfl, by intro w hSw; (try dsimp only at hSw); (first | (go_simp; done) | (go_simp; with_reducible rfl))⟩) ?_
  try simp only [Act.put, seti, set0, setS]
  refine tk (i := 2) (oi := ⟨some 21, _, _, _, _, _⟩) (v := _) rfl (by kernel_rfl) (fun _ _ _ h => h) (⟨X.out.c4 (i := 0) rfl, X.out.c4 (i := 1) rfl, X.out.c4 (i := 2) rfl, X.out.c4 (i := 3) rfl⟩) (Or.inl ⟨by rfl, by intro w hSw; (try dsimp only at hSw); (first | (go_simp; done) | (go_simp; with_reducible rfl))⟩) ?_
  try simp only [Act.put, seti, set0, setS]
  refine tk (i := 3) (oi := ⟨some 22, _, _, _, _, _⟩) (v := _) rfl (by kernel_rfl) (fun _ _ _ h => h) (⟨X.out.c4 (i := 0) rfl, X.out.c4 (i := 1) rfl, X.out.c4 (i := 2) rfl, X.out.c4 (i := 3) rfl⟩) (Or.inl ⟨by rfl, by intro w hSw; (try dsimp only at hSw); (first | (go_simp; done) | (go_simp; with_reducible rfl))⟩) ?_
  try simp only [Act.put, seti, set0, setS]
  refine tk (i := 4) (oi := ⟨some 23, _, _, _, _, _⟩) (v := _) rfl (by kernel_rfl) (fun _ _ _ h => h) (⟨X.out.c4 (i := 0) rfl, X.out.c4 (i := 1) rfl, X.out.c4 (i := 2) rfl, X.out.c4 (i := 3) rfl⟩) (Or.inl ⟨by rfl, by intro w hSw; (try dsimp only at hSw); (first | (go_simp; done) | (go_simp; with_reducible rfl))⟩) ?_
  try simp only [Act.put, seti, set0, setS]
  refine wpLate_one (i := 5) (o := ⟨some 24, _, _, _, _, _⟩) (by kernel_rfl) rfl (fun K hK => ?_)
  go_simp
  (go_at_call 30; refine (H5.out _).mono ?_; rintro e u2 ⟨rfl, hb9⟩; have X := Lib.hid (X.out.next hb9); clear hb9)
  try go_wp2_with fail
  refine hK.out _ _ (Or.inr (fun _ => ⟨X.out.c4 (i := 0) rfl, X.out.c4 (i := 1) rfl, X.out.c4 (i := 2) rfl, X.out.c4 (i := 3) rfl⟩)) ?_
  clear hK K
  try simp only [Act.put, seti, set0, setS]
  refine tk (i := 6) (oi := ⟨some 25, _, _, _, _, _⟩) (v := _) rfl (by kernel_rfl) (fun _ _ _ h => h) (⟨X.out.c4 (i := 0) rfl, X.out.c4 (i := 1) rfl, X.out.c4 (i := 2) rfl, X.out.c4 (i := 3) rfl⟩) (Or.inl ⟨by rfl, by intro w hSw; (try dsimp only at hSw); (first | (go_simp; done) | (go_simp; with_reducible rfl))⟩) ?_
  try simp only [Act.put, seti, set0, setS]
  refine tk (i := 7) (oi := ⟨some 26, _, _, _, _, _⟩) (v := _) rfl (by kernel_rfl) (fun _ _ _ h => h) (⟨X.out.c4 (i := 0) rfl, X.out.c4 (i := 1) rfl, X.out.c4 (i := 2) rfl, X.out.c4 (i := 3) rfl⟩) (Or.inl ⟨by rfl, by intro w hSw; (try dsimp only at hSw); (first | (go_simp; done) | (go_simp; with_reducible rfl))⟩) ?_
  try simp only [Act.put, seti, set0, setS]
  refine tk (i := 8) (oi := ⟨some 27, _, _, _, _, _⟩) (v := _) rfl (by kernel_rfl) (fun _ _ _ h => h) (⟨X.out.c4 (i := 0) rfl, X.out.c4 (i := 1) rfl, X.out.c4 (i := 2) rfl, X.out.c4 (i := 3) rfl⟩) (Or.inl ⟨by rfl, by intro w hSw; (try dsimp only at hSw); (first | (go_simp; done) | (go_simp; with_reducible rfl))⟩) ?_
  try simp only [Act.put, seti, set0, setS]
  refine tk (i := 9) (oi := ⟨some 28, _, _, _, _, _⟩) (v := _) rfl (by kernel_rfl) (fun _ _ _ h => h) (⟨X.out.c4 (i := 0) rfl, X.out.c4 (i := 1) rfl, X.out.c4 (i := 2) rfl, X.out.c4 (i := 3) rfl⟩) (Or.inl ⟨by rfl, by intro w hSw; (try dsimp only at hSw); (first | (go_simp; done) | (go_simp; with_reducible rfl))⟩) ?_
  try simp only [Act.put, seti, set0, setS]
  refine tk (i := 10) (oi := ⟨some 29, _, _, _, _, _⟩) (v := _) rfl (by kernel_rfl) (fun _ _ _ h => h) (⟨X.out.c4 (i := 0) rfl, X.out.c4 (i := 1) rfl, X.out.c4 (i := 2) rfl, X.out.c4 (i := 3) rfl⟩) (Or.inl ⟨by rfl, by intro w hSw; (try dsimp only at hSw); (first | (go_simp; done) | (go_simp; with_reducible rfl))⟩) ?_
  try simp only [Act.put, seti, set0, setS]
  refine tk (i := 11) (oi := ⟨some 30, _, _, _, _, _⟩) (v := _) rfl (by kernel_rfl) (fun _ _ _ h => h) (⟨X.out.c4 (i := 0) rfl, X.out.c4 (i := 1) rfl, X.out.c4 (i := 2) rfl, X.out.c4 (i := 3) rfl⟩) (Or.inl ⟨by rfl, by intro w hSw; (try dsimp only at hSw); (first | (go_simp; done) | (go_simp; with_reducible rfl))⟩) ?_
  try simp only [Act.put, seti, set0, setS]
  refine wpLate_one (i := 12) (o := ⟨some 31, _, _, _, _, _⟩) (by kernel_rfl) rfl (fun K hK => ?_)
  go_simp
  (go_at_call 31; refine (H12.out _).mono ?_; rintro e u3 ⟨rfl, hb9⟩; have X := Lib.hid (X.out.next hb9); clear hb9)
  try go_wp2_with fail
  refine hK.out _ _ (Or.inr (fun _ => ⟨X.out.c4 (i := 0) rfl, X.out.c4 (i := 1) rfl, X.out.c4 (i := 2) rfl, X.out.c4 (i := 3) rfl⟩)) ?_
  clear hK K
  try simp only [Act.put, seti, set0, setS]
  refine tk (i := 13) (oi := ⟨some 32, _, _, _, _, _⟩) (v := _) rfl (by kernel_rfl) (fun _ _ _ h => h) (⟨X.out.c4 (i := 0) rfl, X.out.c4 (i := 1) rfl, X.out.c4 (i := 2) rfl, X.out.c4 (i := 3) rfl⟩) (Or.inl ⟨by rfl, by intro w hSw; (try dsimp only at hSw); (first | (go_simp; done) | (go_simp; with_reducible rfl))⟩) ?_
  try simp only [Act.put, seti, set0, setS]
  refine tk (i := 14) (oi := ⟨some 33, _, _, _, _, _⟩) (v := _) rfl (by kernel_rfl) (fun _ _ _ h => h) (⟨X.out.c4 (i := 0) rfl, X.out.c4 (i := 1) rfl, X.out.c4 (i := 2) rfl, X.out.c4 (i := 3) rfl⟩) (Or.inl ⟨by rfl, by intro w hSw; (try dsimp only at hSw); (first | (go_simp; done) | (go_simp; with_reducible rfl))⟩) ?_
  try simp only [Act.put, seti, set0, setS]
  refine tk (i := 15) (oi := ⟨some 34, _, _, _, _, _⟩) (v := _) rfl (by kernel_rfl) (fun _ _ _ h => h) (⟨X.out.c4 (i := 0) rfl, X.out.c4 (i := 1) rfl, X.out.c4 (i := 2) rfl, X.out.c4 (i := 3) rfl⟩) (Or.inl ⟨by rfl, by intro w hSw; (try dsimp only at hSw); (first | (go_simp; done) | (go_simp; with_reducible rfl))⟩) ?_
  try simp only [Act.put, seti, set0, setS]
  refine tk (i := 16) (oi := ⟨some 35, _, _, _, _, _⟩) (v := _) rfl (by kernel_rfl) (fun _ _ _ h => h) (⟨X.out.c4 (i := 0) rfl, X.out.c4 (i := 1) rfl, X.out.c4 (i := 2) rfl, X.out.c4 (i := 3) rfl⟩) (Or.inl ⟨by rfl, by intro w hSw; (try dsimp only at hSw); (first | (go_simp; done) | (go_simp; with_reducible rfl))⟩) ?_
  try simp only [Act.put, seti, set0, setS]
  refine tk (i := 17) (oi := ⟨some 36, _, _, _, _, _⟩) (v := _) rfl (by kernel_rfl) (fun _ _ _ h => h) (⟨X.out.c4 (i := 0) rfl, X.out.c4 (i := 1) rfl, X.out.c4 (i := 2) rfl, X.out.c4 (i := 3) rfl⟩) (Or.inl ⟨by rfl, by intro w hSw; (try dsimp only at hSw); (first | (go_simp; done) | (go_simp; with_reducible rfl))⟩) ?_
  try simp only [Act.put, seti, set0, setS]
  refine tk (i := 19) (oi := ⟨some 38, _, _, _, _, _⟩) (v := _) rfl (by kernel_rfl) (fun _ _ _ h => h) (⟨X.out.c4 (i := 0) rfl, X.out.c4 (i := 1) rfl, X.out.c4 (i := 2) rfl, X.out.c4 (i := 3) rfl⟩) (Or.inl ⟨by rfl, by intro w hSw; (try dsimp only at hSw); (first | (go_simp; done) | (go_simp; with_reducible rfl))⟩) ?_
  try simp only [Act.put, seti, set0, setS]
  refine wpLate_one (i := 18) (o := ⟨some 37, _, _, _, _, _⟩) (by kernel_rfl) rfl (fun K hK => ?_)
  go_simp
  (go_at_call 28; refine (H18.out _ (HE.out _ X.out.bel)).mono ?_; rintro e u4 ⟨rfl, hb9⟩; have X := Lib.hid (X.out.next hb9); clear hb9)
  try go_wp2_with fail
  refine hK.out _ _ (Or.inr (fun _ => ⟨X.out.c4 (i := 0) rfl, X.out.c4 (i := 1) rfl, X.out.c4 (i := 2) rfl, X.out.c4 (i := 3) rfl⟩)) ?_
  clear hK K
  try simp only [Act.put, seti, set0, setS]
  refine tk (i := 20) (oi := ⟨some 39, _, _, _, _, _⟩) (v := _) rfl (by kernel_rfl) (fun _ _ _ h => h) (⟨X.out.c4 (i := 0) rfl, X.out.c4 (i := 1) rfl, X.out.c4 (i := 2) rfl, X.out.c4 (i := 3) rfl⟩) (Or.inl ⟨by rfl, by intro w hSw; (try dsimp only at hSw); (first | (go_simp; done) | (go_simp; with_reducible rfl))⟩) ?_
  try simp only [Act.put, seti, set0, setS]
  refine tk (i := 21) (oi := ⟨some 40, _, _, _, _, _⟩) (v := _) rfl (by kernel_rfl) (fun _ _ _ h => h) (⟨X.out.c4 (i := 0) rfl, X.out.c4 (i := 1) rfl, X.out.c4 (i := 2) rfl, X.out.c4 (i := 3) rfl⟩) (Or.inl ⟨by rfl, by intro w hSw; (try dsimp only at hSw); (first | (go_simp; done) | (go_simp; with_reducible rfl))⟩) ?_
  try simp only [Act.put, seti, set0, setS]
  refine tk (i := 22) (oi := ⟨some 41, _, _, _, _, _⟩) (v := _) rfl (by kernel_rfl) (fun _ _ _ h => h) (⟨X.out.c4 (i := 0) rfl, X.out.c4 (i := 1) rfl, X.out.c4 (i := 2) rfl, X.out.c4 (i := 3) rfl⟩) (Or.inl ⟨by rfl, by intro w hSw; (try dsimp only at hSw); (first | (go_simp; done) | (go_simp; with_reducible rfl))⟩) ?_
  try simp only [Act.put, seti, set0, setS]
  refine tk (i := 23) (oi := ⟨some 42, _, _, _, _, _⟩) (v := _) rfl (by kernel_rfl) (fun _ _ _ h => h) (⟨X.out.c4 (i := 0) rfl, X.out.c4 (i := 1) rfl, X.out.c4 (i := 2) rfl, X.out.c4 (i := 3) rfl⟩) (Or.inl ⟨by rfl, by intro w hSw; (try dsimp only at hSw); (first | (go_simp; done) | (go_simp; with_reducible rfl))⟩) ?_
  try simp only [Act.put, seti, set0, setS]
  refine tk (i := 24) (oi := ⟨some 43, _, _, _, _, _⟩) (v := _) rfl (by kernel_rfl) (fun _ _ _ h => h) (⟨X.out.c4 (i := 0) rfl, X.out.c4 (i := 1) rfl, X.out.c4 (i := 2) rfl, X.out.c4 (i := 3) rfl⟩) (Or.inl ⟨by rfl, by intro w hSw; (try dsimp only at hSw); (first | (go_simp; done) | (go_simp; with_reducible rfl))⟩) ?_
  try simp only [Act.put, seti, set0, setS]
  refine tk (i := 26) (oi := ⟨some 45, _, _, _, _, _⟩) (v := _) rfl (by kernel_rfl) (fun _ _ _ h => h) (⟨X.out.c4 (i := 0) rfl, X.out.c4 (i := 1) rfl, X.out.c4 (i := 2) rfl, X.out.c4 (i := 3) rfl⟩) (Or.inl ⟨by rfl, by intro w hSw; (try dsimp only at hSw); (first | (go_simp; done) | (go_simp; with_reducible rfl))⟩) ?_
  try simp only [Act.put, seti, set0, setS]
  refine wpLate_one (i := 25) (o := ⟨some 44, _, _, _, _, _⟩) (by kernel_rfl) rfl (fun K hK => ?_)
  go_simp
  (go_at_call 29; refine (H25.out _ (HE.out _ X.out.bel)).mono ?_; rintro e u5 ⟨rfl, hb9⟩; have X := Lib.hid (X.out.next hb9); clear hb9)
  try go_wp2_with fail
  refine hK.out _ _ (Or.inr (fun _ => ⟨X.out.c4 (i := 0) rfl, X.out.c4 (i := 1) rfl, X.out.c4 (i := 2) rfl, X.out.c4 (i := 3) rfl⟩)) ?_
  clear hK K
  try simp only [Act.put, seti, set0, setS]
  refine tk (i := 27) (oi := ⟨some 46, _, _, _, _, _⟩) (v := _) rfl (by kernel_rfl) (fun _ _ _ h => h) (⟨X.out.c4 (i := 0) rfl, X.out.c4 (i := 1) rfl, X.out.c4 (i := 2) rfl, X.out.c4 (i := 3) rfl⟩) (Or.inl ⟨by rfl, by intro w hSw; (try dsimp only at hSw); (first | (go_simp; done) | (go_simp; with_reducible rfl))⟩) ?_
  try simp only [Act.put, seti, set0, setS]
  refine tk (i := 28) (oi := ⟨some 47, _, _, _, _, _⟩) (v := _) rfl (by kernel_rfl) (fun _ _ _ h => h) (⟨X.out.c4 (i := 0) rfl, X.out.c4 (i := 1) rfl, X.out.c4 (i := 2) rfl, X.out.c4 (i := 3) rfl⟩) (Or.inl ⟨by rfl, by intro w hSw; (try dsimp only at hSw); (first | (go_simp; done) | (go_simp; with_reducible rfl))⟩) ?_
  try simp only [Act.put, seti, set0, setS]
  refine tk (i := 29) (oi := ⟨some 48, _, _, _, _, _⟩) (v := _) rfl (by kernel_rfl) (fun _ _ _ h => h) (⟨X.out.c4 (i := 0) rfl, X.out.c4 (i := 1) rfl, X.out.c4 (i := 2) rfl, X.out.c4 (i := 3) rfl⟩) (Or.inl ⟨by rfl, by intro w hSw; (try dsimp only at hSw); (first | (go_simp; done) | (go_simp; with_reducible rfl))⟩) ?_
  try simp only [Act.put, seti, set0, setS]
  refine tk (i := 30) (oi := ⟨some 49, _, _, _, _, _⟩) (v := _) rfl (by kernel_rfl) (fun _ _ _ h => h) (⟨X.out.c4 (i := 0) rfl, X.out.c4 (i := 1) rfl, X.out.c4 (i := 2) rfl, X.out.c4 (i := 3) rfl⟩) (Or.inl ⟨by rfl, by intro w hSw; (try dsimp only at hSw); (first | (go_simp; done) | (go_simp; with_reducible rfl))⟩) ?_
  try simp only [Act.put, seti, set0, setS]
  refine tk (i := 31) (oi := ⟨some 50, _, _, _, _, _⟩) (v := _) rfl (by kernel_rfl) (fun _ _ _ h => h) (⟨X.out.c4 (i := 0) rfl, X.out.c4 (i := 1) rfl, X.out.c4 (i := 2) rfl, X.out.c4 (i := 3) rfl⟩) (Or.inl ⟨by rfl, by intro w hSw; (try dsimp only at hSw); (first | (go_simp; done) | (go_simp; with_reducible rfl))⟩) ?_
  try simp only [Act.put, seti, set0, setS]
  refine tk (i := 33) (oi := ⟨some 52, _, _, _, _, _⟩) (v := _) rfl (by kernel_rfl) (fun _ _ _ h => h) (⟨X.out.c4 (i := 0) rfl, X.out.c4 (i := 1) rfl, X.out.c4 (i := 2) rfl, X.out.c4 (i := 3) rfl⟩) (Or.inl ⟨by rfl, by intro w hSw; (try dsimp only at hSw); (first | (go_simp; done) | (go_simp; with_reducible rfl))⟩) ?_
  try simp only [Act.put, seti, set0, setS]
  refine wpLate_one (i := 32) (o := ⟨some 51, _, _, _, _, _⟩) (by kernel_rfl) rfl (fun K hK => ?_)
  go_simp
  (go_at_call 28; refine (H32.out _ (HE.out _ X.out.bel)).mono ?_; rintro e u6 ⟨rfl, hb9⟩; have X := Lib.hid (X.out.next hb9); clear hb9)
  try go_wp2_with fail
  refine hK.out _ _ (Or.inr (fun _ => ⟨X.out.c4 (i := 0) rfl, X.out.c4 (i := 1) rfl, X.out.c4 (i := 2) rfl, X.out.c4 (i := 3) rfl⟩)) ?_
  clear hK K
  try simp only [Act.put, seti, set0, setS]
  refine tk (i := 34) (oi := ⟨some 53, _, _, _, _, _⟩) (v := _) rfl (by kernel_rfl) (fun _ _ _ h => h) (⟨X.out.c4 (i := 0) rfl, X.out.c4 (i := 1) rfl, X.out.c4 (i := 2) rfl, X.out.c4 (i := 3) rfl⟩) (Or.inl ⟨by rfl, by intro w hSw; (try dsimp only at hSw); (first | (go_simp; done) | (go_simp; with_reducible rfl))⟩) ?_
  try simp only [Act.put, seti, set0, setS]
  refine tk (i := 35) (oi := ⟨some 54, _, _, _, _, _⟩) (v := _) rfl (by kernel_rfl) (fun _ _ _ h => h) (⟨X.out.c4 (i := 0) rfl, X.out.c4 (i := 1) rfl, X.out.c4 (i := 2) rfl, X.out.c4 (i := 3) rfl⟩) (Or.inl ⟨by rfl, by intro w hSw; (try dsimp only at hSw); (first | (go_simp; done) | (go_simp; with_reducible rfl))⟩) ?_
  try simp only [Act.put, seti, set0, setS]
  refine tk (i := 36) (oi := ⟨some 55, _, _, _, _, _⟩) (v := _) rfl (by kernel_rfl) (fun _ _ _ h => h) (⟨X.out.c4 (i := 0) rfl, X.out.c4 (i := 1) rfl, X.out.c4 (i := 2) rfl, X.out.c4 (i := 3) rfl⟩) (Or.inl ⟨by rfl, by intro w hSw; (try dsimp only at hSw); (first | (go_simp; done) | (go_simp; with_reducible rfl))⟩) ?_
  try simp only [Act.put, seti, set0, setS]
  refine tk (i := 37) (oi := ⟨some 56, _, _, _, _, _⟩) (v := _) rfl (by kernel_rfl) (fun _ _ _ h => h) (⟨X.out.c4 (i := 0) rfl, X.out.c4 (i := 1) rfl, X.out.c4 (i := 2) rfl, X.out.c4 (i := 3) rfl⟩) (Or.inl ⟨by rfl, by intro w hSw; (try dsimp only at hSw); (first | (go_simp; done) | (go_simp; with_reducible rfl))⟩) ?_
  try simp only [Act.put, seti, set0, setS]
  refine tk (i := 38) (oi := ⟨some 57, _, _, _, _, _⟩) (v := _) rfl (by kernel_rfl) (fun _ _ _ h => h) (⟨X.out.c4 (i := 0) rfl, X.out.c4 (i := 1) rfl, X.out.c4 (i := 2) rfl, X.out.c4 (i := 3) rfl⟩) (Or.inl ⟨by rfl, by intro w hSw; (try dsimp only at hSw); (first | (go_simp; done) | (go_simp; with_reducible rfl))⟩) ?_
  try simp only [Act.put, seti, set0, setS]
  refine wpLate_one (i := 39) (o := ⟨some 58, _, _, _, _, _⟩) (by kernel_rfl) rfl (fun K hK => ?_)
  go_simp
  have X := Lib.hid (X.out.new #[.bool bs, .string ms, .bool false, .string ks, .bool bd, .string md, .bool false, .string kd] 25)
  refine hK.out _ _ (Or.inr (fun _ => ⟨X.out.c4 (i := 0) rfl, X.out.c4 (i := 1) rfl, X.out.c4 (i := 2) rfl, X.out.c4 (i := 3) rfl⟩)) ?_
  clear hK K
  try simp only [Act.put, seti, set0, setS]
  obtain ⟨V7, hV⟩ := wexi X.out
  rw [← hV] at X ⊢
  clear hV
  refine wpLate_one (i := 40) (o := ⟨some 59, _, _, _, _, _⟩) (by kernel_rfl) rfl (fun K hK => ?_)
  go_simp
  (go_at_call 32; refine (HV.out _ _ (X.out.at (i := 4) rfl)).mono ?_; rintro e u8 ⟨rfl, hb9⟩; have X := Lib.hid (X.out.next hb9); clear hb9)
  try go_wp2_with fail
  refine hK.out _ _ (Or.inr (fun _ => ⟨X.out.c4 (i := 0) rfl, X.out.c4 (i := 1) rfl, X.out.c4 (i := 2) rfl, X.out.c4 (i := 3) rfl⟩)) ?_
  clear hK K
  try simp only [Act.put, seti, set0, setS]
  refine tk (i := 41) (oi := ⟨some 60, _, _, _, _, _⟩) (v := _) rfl (by kernel_rfl) (fun _ _ _ h => h) (⟨X.out.c4 (i := 0) rfl, X.out.c4 (i := 1) rfl, X.out.c4 (i := 2) rfl, X.out.c4 (i := 3) rfl⟩) (Or.inl ⟨by rfl, by intro w hSw; (try dsimp only at hSw); (first | (go_simp; done) | (go_simp; with_reducible rfl))⟩) ?_
  try simp only [Act.put, seti, set0, setS]
  refine tk (i := 42) (oi := ⟨some 4, _, _, _, _, _⟩) (v := _) rfl (by kernel_rfl) (fun _ _ _ h => h) (⟨X.out.c4 (i := 0) rfl, X.out.c4 (i := 1) rfl, X.out.c4 (i := 2) rfl, X.out.c4 (i := 3) rfl⟩) (Or.inl ⟨by rfl, by intro w hSw; (try dsimp only at hSw); (first | (go_simp; done) | (go_simp; with_reducible rfl))⟩) ?_
  try simp only [Act.put, seti, set0, setS]
  refine wpLate_done (by kernel_rfl) ?_ _
  go_wp2
  go_ret
  exact ⟨rfl, X.out.bel⟩
end Go.Proofs.YtahehlajpaoiiaaGreatDoor
