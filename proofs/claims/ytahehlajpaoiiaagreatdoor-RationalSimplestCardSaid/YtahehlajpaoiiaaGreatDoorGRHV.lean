import Derived.Test.YtahehlajpaoiiaaGreatDoorGRHU
import Derived.Test.YtahehlajpaoiiaaGreatDoorGRKB
import Derived.IntWalk

namespace Go.Proofs.YtahehlajpaoiiaaGreatDoor
open Go.RowKit
attribute [local go_sem ↓] Go.wp_at_zero Go.wp_at_succ

theorem void_ne {p q : Rat} {oa ob : Bool} (h : voidB (cmpQ p q) oa ob = false) : p < q ∨ (p = q ∧ oa = false ∧ ob = false) := by
  rcases void_not h (cmpQ_three p q) with h1 | ⟨h1, h2, h3⟩
  · exact .inl (Rat.not_le.1 fun h2 => by have := cmpQ_ge.2 h2; omega)
  · exact .inr ⟨cmpQ_zero.1 h1, h2, h3⟩
theorem of_some2 (x y : Int) (hx : -401 ≤ x ∧ x ≤ 401) (hy : 1 ≤ y ∧ y ≤ 24) (w : World) :
    Calls Tryz.prog 23 #[.int .i64 x, .int .i64 y] w (fun e w' => ∃ (q : Rat) (b : Bool) (m k : ByteArray), e = .returned (.agg #[.bool b, .string m, .bool false, .string k]) ∧ Rq q b m k ∧ Sz 8 q ∧ q.den ≤ 24 ∧ Below w.heap.size w w') := by
  obtain ⟨b, m, k, h⟩ := Rq.some_ (Rat.divInt x y)
  obtain ⟨n, rfl⟩ : ∃ n : Nat, y = (n : Int) := ⟨y.toNat, by omega⟩
  have hs := divInt_small x (Y := n) (by omega)
  refine (rOf_f h (by omega) (by omega) (by omega) (by omega) (by omega) w).mono ?_
  rintro e w' ⟨rfl, hb⟩
  refine ⟨_, b, m, k, rfl, h, ⟨Nat.lt_of_le_of_lt hs.1 (Nat.lt_of_lt_of_le (show x.natAbs < 1000 by omega) (by decide)), Nat.lt_of_le_of_lt hs.2 (Nat.lt_of_lt_of_le (show n < 1000 by omega) (by decide))⟩, by omega, hb⟩
theorem rem_num (x : Int) : -401 ≤ x.tmod 401 ∧ x.tmod 401 ≤ 401 := by
  have h1 := Int.tmod_lt_of_pos x (show (0 : Int) < 401 by decide)
  have h2 := Int.lt_tmod_of_pos x (show (0 : Int) < 401 by decide)
  omega
theorem w64_in (n : Int) (h : -9223372036854775808 ≤ n ∧ n ≤ 9223372036854775807) : RowKit.wrap64 n = n := by
  rw [← IntWalk.i64_left]
  exact IntWalk.i64_in n h
theorem u16_small (x : Int) : 0 ≤ IntKind.u16.wrap x ∧ IntKind.u16.wrap x ≤ 65535 := by
  simp [IntKind.wrap, IntKind.bits, IntKind.signed]
  omega
theorem rem_den (x : Int) : 1 ≤ RowKit.wrap64 (1 + (RowKit.wrap64 (IntKind.u16.wrap x)).tmod 24) ∧ RowKit.wrap64 (1 + (RowKit.wrap64 (IntKind.u16.wrap x)).tmod 24) ≤ 24 := by
  have h1 := u16_small x
  generalize IntKind.u16.wrap x = u at *
  rw [w64_in u (by omega), Int.tmod_eq_emod_of_nonneg h1.1, w64_in _ (by omega)]
  omega

set_option maxHeartbeats 32000000 in
set_option maxRecDepth 100000 in
theorem rsimplest_walk (x0 x1 x2 x3 : Int) (hx0 : -32768 ≤ x0 ∧ x0 ≤ 32767) (hx1 : -32768 ≤ x1 ∧ x1 ≤ 32767) (hx2 : -32768 ≤ x2 ∧ x2 ≤ 32767) (hx3 : -32768 ≤ x3 ∧ x3 ≤ 32767) (oa ob : Bool) (w : World) (hE : Env w) :
    Calls Tryz.prog 10 #[.agg #[.int .i16 x0, .int .i16 x1, .int .i16 x2, .int .i16 x3], .bool oa, .bool ob] w (RetB w (.bool true)) := by
  have HKN := Lib.hid (fun V (hV : Env V) => rknown_any V hV)
  have HE := Lib.hid (fun V (h : Below w.heap.size w V) => hE.next h)
  have X := Lib.hid ((Sb.start w).new #[.int .i16 x0, .int .i16 x1, .int .i16 x2, .int .i16 x3] 53)
  have X := Lib.hid (X.out.pick [0] [(w.heap.size, #[.int .i16 x0, .int .i16 x1, .int .i16 x2, .int .i16 x3], 53)] [] (by simp) (by decide) (by simp))
  clear hE
  go_enter Tryz.func10, Tryz.ntmps10
  go_wp2_with fail
  refine (HKN.out _ (HE.out _ X.out.bel)).mono ?_
  rintro e u0 ⟨rfl, hb9⟩
  have X := Lib.hid (X.out.next hb9)
  clear hb9
  go_upto_region 3 with fail
  go_cut [7] (fun s7 wx => ∃ g7 p ba ma ka, s7 = .pointer (some ⟨g7, 0, none⟩) ∧ Rq p ba ma ka ∧ Sz 8 p ∧ p.den ≤ 24 ∧ Sb w [(w.heap.size, #[.int .i16 x0, .int .i16 x1, .int .i16 x2, .int .i16 x3], 53), (g7, #[.bool ba, .string ma, .bool false, .string ka], 25)] [] wx)
  case first =>
    obtain ⟨y0, y1, y2, y3⟩ := X.out.c4 (i := 0) rfl
    go_wp2_with fail
    refine (of_some2 _ _ (rem_num x0) (rem_den x1) _).mono ?_
    rintro e u1 ⟨q9, b9, m9, k9, rfl, hq9, hz9, hd9, hb9⟩
    have X := Lib.hid (X.out.next hb9)
    have H9 := Lib.hid (And.intro hq9 (And.intro hz9 hd9))
    clear hb9 hq9 hz9 hd9 y0 y1 y2 y3
    go_wp2_with fail
    have X := Lib.hid (X.out.new #[.bool b9, .string m9, .bool false, .string k9] 25)
    go_meet
    exact ⟨_, q9, b9, m9, k9, rfl, H9.out.1, H9.out.2.1, H9.out.2.2, X.out⟩
  obtain ⟨g7, p, ba, ma, ka, rfl, hp, zp, dp, hX⟩ := hcut
  have X := Lib.hid hX
  clear hX
  go_upto_region 4 with fail
  go_cut [8] (fun s8 wx => ∃ g8 q bb mb kb, s8 = .pointer (some ⟨g8, 0, none⟩) ∧ Rq q bb mb kb ∧ Sz 8 q ∧ q.den ≤ 24 ∧ Sb w [(w.heap.size, #[.int .i16 x0, .int .i16 x1, .int .i16 x2, .int .i16 x3], 53), (g7, #[.bool ba, .string ma, .bool false, .string ka], 25), (g8, #[.bool bb, .string mb, .bool false, .string kb], 25)] [] wx)
  case first =>
    obtain ⟨y0, y1, y2, y3⟩ := X.out.c4 (i := 0) rfl
    go_wp2_with fail
    refine (of_some2 _ _ (rem_num x2) (rem_den x3) _).mono ?_
    rintro e u1 ⟨q9, b9, m9, k9, rfl, hq9, hz9, hd9, hb9⟩
    have X := Lib.hid (X.out.next hb9)
    have H9 := Lib.hid (And.intro hq9 (And.intro hz9 hd9))
    clear hb9 hq9 hz9 hd9 y0 y1 y2 y3
    go_wp2_with fail
    have X := Lib.hid (X.out.new #[.bool b9, .string m9, .bool false, .string k9] 25)
    go_meet
    exact ⟨_, q9, b9, m9, k9, rfl, H9.out.1, H9.out.2.1, H9.out.2.2, X.out⟩
  obtain ⟨g8, q, bb, mb, kb, rfl, hq, zq, dq, hX⟩ := hcut
  have X := Lib.hid hX
  clear hX
  have X := Lib.hid (X.out.pick [1, 2] [(g7, #[.bool ba, .string ma, .bool false, .string ka], 25), (g8, #[.bool bb, .string mb, .bool false, .string kb], 25)] [] rfl (by decide) (by simp))
  have yp := zp.m hp (by omega)
  have yq := zq.m hq (by omega)
  have yp2 := sz_m2 zp hp (by omega)
  have yq2 := sz_m2 zq hq (by omega)
  have hcm := fun V => rCompare_f hp hq yp.1 yq.1 yp.2 yq.2 V
  have hsg := fun V (hV : Env V) => simplest_gen hp hq oa ob yp2.1 yq2.1 yp2.2 yq2.2 V hV
  have hz3 := cmpQ_three p q
  have HZ3 := Lib.hid hz3
  have HCM := Lib.hid hcm
  obtain ⟨v, hv⟩ : ∃ v, v = voidB (cmpQ p q) oa ob := ⟨_, rfl⟩
  have HV := Lib.hid hv
  clear hcm
  cases v
  case' true =>
    have HSG := Lib.hid (fun V (hV : Env V) => (hsg V hV).mono (fun e w' h => void_ret hv.symm h))
    clear hp zp dp hq zq dq yp yq yp2 yq2 hsg hz3 hv
    generalize cmpQ p q = z at *
    go_upto_region 5 with fail
    go_cut [9, 10] (fun s9 s10 wx => ∃ g9, s9 = .pointer (some ⟨g9, 0, none⟩) ∧ s10 = .int .i64 10 ∧ Sb w [(g7, #[.bool ba, .string ma, .bool false, .string ka], 25), (g8, #[.bool bb, .string mb, .bool false, .string kb], 25), (g9, #[.bool false, .string ⟨#[]⟩, .bool false, .string ⟨#[]⟩], 25)] [] wx)
    case first =>
      obtain ⟨a0, a1, a2, a3⟩ := X.out.c4 (i := 0) rfl
      obtain ⟨c0, c1, c2, c3⟩ := X.out.c4 (i := 1) rfl
      go_wp2_with fail
      refine (HSG.out _ (HE.out _ X.out.bel)).mono ?_
      rintro e u1 ⟨rfl, hb9⟩
      have X := Lib.hid (X.out.next hb9)
      clear hb9
      clear a0 a1 a2 a3 c0 c1 c2 c3
      go_wp2_with fail
      have X := Lib.hid (X.out.new #[.bool false, .string ⟨#[]⟩, .bool false, .string ⟨#[]⟩] 25)
      go_meet
      exact ⟨_, rfl, rfl, X.out⟩
    obtain ⟨g9, rfl, rfl, hX⟩ := hcut
    have X := Lib.hid hX
    clear hX
    go_upto_region 6 with fail
    go_cut [11] (fun s11 wx => s11 = .int .i64 z ∧ Sb w [(g7, #[.bool ba, .string ma, .bool false, .string ka], 25), (g8, #[.bool bb, .string mb, .bool false, .string kb], 25), (g9, #[.bool false, .string ⟨#[]⟩, .bool false, .string ⟨#[]⟩], 25)] [] wx)
    case first =>
      obtain ⟨a0, a1, a2, a3⟩ := X.out.c4 (i := 0) rfl
      obtain ⟨c0, c1, c2, c3⟩ := X.out.c4 (i := 1) rfl
      go_wp2_with fail
      refine (HCM.out _).mono ?_
      rintro e u1 ⟨rfl, hb9⟩
      have X := Lib.hid (X.out.next hb9)
      clear hb9
      clear a0 a1 a2 a3 c0 c1 c2 c3
      go_wp2_with fail
      go_meet
      exact ⟨rfl, X.out⟩
    obtain ⟨rfl, hX⟩ := hcut
    have X := Lib.hid hX
    clear hX
    go_upto_region 7 with fail
    go_cut [60] (fun s60 wx => s60 = .bool true ∧ Sb w [(g7, #[.bool ba, .string ma, .bool false, .string ka], 25), (g8, #[.bool bb, .string mb, .bool false, .string kb], 25), (g9, #[.bool false, .string ⟨#[]⟩, .bool false, .string ⟨#[]⟩], 25)] [] wx)
    case first =>
      rcases HZ3.out with rfl | rfl | rfl <;> cases oa <;> cases ob <;> (go_wp2_with fail; go_meet; exact ⟨by rw [HV.out] <;> rfl, X.out⟩)
    obtain ⟨rfl, hX⟩ := hcut
    have X := Lib.hid hX
    clear hX
    apply_assumption
    obtain ⟨a0, a1, a2, a3⟩ := X.out.c4 (i := 2) rfl
    go_wp2
    go_ret
    exact ⟨rfl, X.out.bel⟩
  have hne := void_ne hv.symm
  have hpq := hsg
  have HSG := Lib.hid (fun V (hV : Env V) => (hsg V hV).mono (fun e w' h => best_of hne h))
  clear hsg hpq
  go_upto_region 5 with fail
  go_cut [9, 10] (fun s9 s10 wx => ∃ g9 r br mr kr, s9 = .pointer (some ⟨g9, 0, none⟩) ∧ s10 = .int .i64 0 ∧ Rq r br mr kr ∧ Ins p q oa ob r ∧ (∀ t, Ins p q oa ob t → r.num.natAbs ≤ t.num.natAbs ∧ r.den ≤ t.den) ∧ (r.num.natAbs ≤ p.num.natAbs + q.num.natAbs ∧ r.den ≤ p.den + q.den) ∧ Sb w [(g7, #[.bool ba, .string ma, .bool false, .string ka], 25), (g8, #[.bool bb, .string mb, .bool false, .string kb], 25), (g9, #[.bool br, .string mr, .bool false, .string kr], 25)] [] wx)
  case first =>
    have HP9 := Lib.hid (And.intro hp (And.intro zp (And.intro dp (And.intro hq (And.intro zq dq)))))
    clear hp zp dp hq zq dq yp yq yp2 yq2 hz3 hv hne
    obtain ⟨a0, a1, a2, a3⟩ := X.out.c4 (i := 0) rfl
    obtain ⟨c0, c1, c2, c3⟩ := X.out.c4 (i := 1) rfl
    go_wp2_with fail
    refine (HSG.out _ (HE.out _ X.out.bel)).mono ?_
    rintro e u1 ⟨r, br, mr, kr, ⟨rfl, hb9⟩, h1, h2, h3, h4, h5⟩
    have X := Lib.hid (X.out.next hb9)
    have H9 := Lib.hid (And.intro h1 (And.intro h2 (And.intro h3 (And.intro h4 h5))))
    clear hb9 h1 h2 h3 h4 h5
    clear a0 a1 a2 a3 c0 c1 c2 c3
    go_wp2_with fail
    have X := Lib.hid (X.out.new #[.bool br, .string mr, .bool false, .string kr] 25)
    go_meet
    exact ⟨_, r, br, mr, kr, rfl, rfl, H9.out.1, H9.out.2.1, H9.out.2.2.1, H9.out.2.2.2, X.out⟩
  obtain ⟨g9, r, br, mr, kr, rfl, rfl, hr, hin, hmin, hbd, hX⟩ := hcut
  have X := Lib.hid hX
  have ysr : mr.size ≤ 10000 ∧ (mag r.den).size ≤ 10000 := mid_small (zp.le (by omega)) (zq.le (by omega)) hr hbd.1 hbd.2
  have HSP := Lib.hid (fun V => rSimplest_f hp hq hr zp zq hin hmin (by omega) V)
  have HWI := Lib.hid (fun V => rWithin_f hr hp hq hin ysr yp yq V)
  clear hX HSG hp zp dp hq zq dq yp yq yp2 yq2 hz3 hv hne hr hin hmin hbd ysr
  generalize cmpQ p q = z at *
  go_upto_region 6 with fail
  go_cut [11] (fun s11 wx => s11 = .int .i64 z ∧ Sb w [(g7, #[.bool ba, .string ma, .bool false, .string ka], 25), (g8, #[.bool bb, .string mb, .bool false, .string kb], 25), (g9, #[.bool br, .string mr, .bool false, .string kr], 25)] [] wx)
  case first =>
    obtain ⟨a0, a1, a2, a3⟩ := X.out.c4 (i := 0) rfl
    obtain ⟨c0, c1, c2, c3⟩ := X.out.c4 (i := 1) rfl
    go_wp2_with fail
    refine (HCM.out _).mono ?_
    rintro e u1 ⟨rfl, hb9⟩
    have X := Lib.hid (X.out.next hb9)
    clear hb9
    clear a0 a1 a2 a3 c0 c1 c2 c3
    go_wp2_with fail
    go_meet
    exact ⟨rfl, X.out⟩
  obtain ⟨rfl, hX⟩ := hcut
  have X := Lib.hid hX
  clear hX
  go_upto_region 7 with fail
  go_cut [60] (fun s60 wx => s60 = .bool false ∧ Sb w [(g7, #[.bool ba, .string ma, .bool false, .string ka], 25), (g8, #[.bool bb, .string mb, .bool false, .string kb], 25), (g9, #[.bool br, .string mr, .bool false, .string kr], 25)] [] wx)
  case first =>
    rcases HZ3.out with rfl | rfl | rfl <;> cases oa <;> cases ob <;> (go_wp2_with fail; go_meet; exact ⟨by rw [HV.out] <;> rfl, X.out⟩)
  obtain ⟨rfl, hX⟩ := hcut
  have X := Lib.hid hX
  clear hX
  go_upto_region 9 with fail
  go_cut [12, 13] (fun s12 s13 wx => ∃ g12, s12 = .pointer (some ⟨g12, 0, none⟩) ∧ s13 = .bool true ∧ Sb w [(g7, #[.bool ba, .string ma, .bool false, .string ka], 25), (g8, #[.bool bb, .string mb, .bool false, .string kb], 25), (g9, #[.bool br, .string mr, .bool false, .string kr], 25), (g12, #[.bool br, .string mr, .bool false, .string kr], 25)] [] wx)
  case first =>
    obtain ⟨a0, a1, a2, a3⟩ := X.out.c4 (i := 0) rfl
    obtain ⟨c0, c1, c2, c3⟩ := X.out.c4 (i := 1) rfl
    go_wp2_with fail
    refine (HSP.out _).mono ?_
    rintro e u1 ⟨rfl, hb9⟩
    have X := Lib.hid (X.out.next hb9)
    clear hb9
    clear a0 a1 a2 a3 c0 c1 c2 c3
    go_wp2_with fail
    have X := Lib.hid (X.out.new #[.bool br, .string mr, .bool false, .string kr] 25)
    go_meet
    exact ⟨_, rfl, rfl, X.out⟩
  obtain ⟨g12, rfl, rfl, hX⟩ := hcut
  have X := Lib.hid hX
  clear hX
  obtain ⟨a0, a1, a2, a3⟩ := X.out.c4 (i := 0) rfl
  obtain ⟨c0, c1, c2, c3⟩ := X.out.c4 (i := 1) rfl
  obtain ⟨d0, d1, d2, d3⟩ := X.out.c4 (i := 2) rfl
  obtain ⟨f0, f1, f2, f3⟩ := X.out.c4 (i := 3) rfl
  go_wp2_with fail
  refine (HWI.out _).mono ?_
  rintro e u2 ⟨rfl, hb9⟩
  have X := Lib.hid (X.out.next hb9)
  clear hb9
  go_wp2
  go_ret
  exact ⟨rfl, X.out.bel⟩
end Go.Proofs.YtahehlajpaoiiaaGreatDoor
