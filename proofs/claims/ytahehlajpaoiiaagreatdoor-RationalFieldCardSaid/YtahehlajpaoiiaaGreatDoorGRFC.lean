import Derived.Test.YtahehlajpaoiiaaGreatDoorGRFB

/-
  The walk of the statement about the laws of a field.
-/
namespace Go.Proofs.YtahehlajpaoiiaaGreatDoor
open Go.RowKit
attribute [local go_sem ↓] Go.wp_at_zero Go.wp_at_succ

set_option maxHeartbeats 32000000 in
set_option maxRecDepth 100000 in
theorem rfield_walk (n0 e0 : Int) (u0 v0 : Nat) (hn0 : -9223372036854775808 ≤ n0 ∧ n0 ≤ 9223372036854775807) (he0 : -9223372036854775808 ≤ e0 ∧ e0 ≤ 9223372036854775807) (hu0 : u0 < 256) (hv0 : v0 < 256) (n1 e1 : Int) (u1 v1 : Nat) (hn1 : -9223372036854775808 ≤ n1 ∧ n1 ≤ 9223372036854775807) (he1 : -9223372036854775808 ≤ e1 ∧ e1 ≤ 9223372036854775807) (hu1 : u1 < 256) (hv1 : v1 < 256) (n2 e2 : Int) (u2 v2 : Nat) (hn2 : -9223372036854775808 ≤ n2 ∧ n2 ≤ 9223372036854775807) (he2 : -9223372036854775808 ≤ e2 ∧ e2 ≤ 9223372036854775807) (hu2 : u2 < 256) (hv2 : v2 < 256) (w : World) (hE : Env w) :
    Calls Tryz.prog 7 #[.agg #[.int .i64 n0, .int .i64 e0, .int .u8 (u0 : Int), .int .u8 (v0 : Int)], .agg #[.int .i64 n1, .int .i64 e1, .int .u8 (u1 : Int), .int .u8 (v1 : Int)], .agg #[.int .i64 n2, .int .i64 e2, .int .u8 (u2 : Int), .int .u8 (v2 : Int)]] w (RetB w (.bool true)) := by
  obtain ⟨ba, ma, ka, ha⟩ := Rq.some_ (fracQ n0 e0 u0 v0)
  have HA := Lib.hid (fun V => rat_det n0 e0 u0 v0 ha hn0.1 hn0.2 he0.1 he0.2 hu0 hv0 V)
  have za : Sz 16 (fracQ n0 e0 u0 v0) := frac_small n0 e0 u0 v0 hn0.1 hn0.2 he0.1 he0.2
  generalize fracQ n0 e0 u0 v0 = qa at *
  obtain ⟨bb, mb, kb, hb⟩ := Rq.some_ (fracQ n1 e1 u1 v1)
  have HB := Lib.hid (fun V => rat_det n1 e1 u1 v1 hb hn1.1 hn1.2 he1.1 he1.2 hu1 hv1 V)
  have zb : Sz 16 (fracQ n1 e1 u1 v1) := frac_small n1 e1 u1 v1 hn1.1 hn1.2 he1.1 he1.2
  generalize fracQ n1 e1 u1 v1 = qb at *
  obtain ⟨bc, mc, kc, hc⟩ := Rq.some_ (fracQ n2 e2 u2 v2)
  have HC := Lib.hid (fun V => rat_det n2 e2 u2 v2 hc hn2.1 hn2.2 he2.1 he2.2 hu2 hv2 V)
  have zc : Sz 16 (fracQ n2 e2 u2 v2) := frac_small n2 e2 u2 v2 hn2.1 hn2.2 he2.1 he2.2
  generalize fracQ n2 e2 u2 v2 = qc at *
  obtain ⟨bs, ms, ks, hs⟩ := Rq.some_ (qb + qc)
  obtain ⟨bp, mp, kp, hp⟩ := Rq.some_ (qb * qc)
  obtain ⟨bx4, mx4, kx4, hx4⟩ := Rq.some_ (qa + (qb + qc))
  obtain ⟨bx7, mx7, kx7, hx7⟩ := Rq.some_ (qa + qb)
  obtain ⟨bx15, mx15, kx15, hx15⟩ := Rq.some_ (qa * (qb * qc))
  obtain ⟨bx18, mx18, kx18, hx18⟩ := Rq.some_ (qa * qb)
  obtain ⟨bx26, mx26, kx26, hx26⟩ := Rq.some_ (qa * (qb + qc))
  obtain ⟨bx32, mx32, kx32, hx32⟩ := Rq.some_ (qa * qc)
  have zs := zb.add zc
  have zp := zb.mul zc
  have z7 := za.add zb
  have z18 := za.mul zb
  have z32 := za.mul zc
  have ya := za.m ha (by omega)
  have yb := zb.m hb (by omega)
  have yc := zc.m hc (by omega)
  have ys := zs.m hs (by omega)
  have yp := zp.m hp (by omega)
  have y7 := z7.m hx7 (by omega)
  have y18 := z18.m hx18 (by omega)
  have y32 := z32.m hx32 (by omega)
  have HS := Lib.hid (fun V (hV : Env V) => ratAdd_f hb hc hs yb.1 yc.1 yb.2 yc.2 V hV)
  have HP := Lib.hid (fun V (hV : Env V) => ratMul_f hb hc hp yb.1 yc.1 yb.2 yc.2 V hV)
  have H4 := Lib.hid (fun V (hV : Env V) => ratAdd_f ha hs hx4 ya.1 ys.1 ya.2 ys.2 V hV)
  have H7 := Lib.hid (fun V (hV : Env V) => ratAdd_f ha hb hx7 ya.1 yb.1 ya.2 yb.2 V hV)
  have H9 := Lib.hid (fun V (hV : Env V) => ratAdd_f hx7 hc (by rw [Rat.add_assoc]; exact hx4) y7.1 yc.1 y7.2 yc.2 V hV)
  have H15 := Lib.hid (fun V (hV : Env V) => ratMul_f ha hp hx15 ya.1 yp.1 ya.2 yp.2 V hV)
  have H18 := Lib.hid (fun V (hV : Env V) => ratMul_f ha hb hx18 ya.1 yb.1 ya.2 yb.2 V hV)
  have H20 := Lib.hid (fun V (hV : Env V) => ratMul_f hx18 hc (by rw [Rat.mul_assoc]; exact hx15) y18.1 yc.1 y18.2 yc.2 V hV)
  have H26 := Lib.hid (fun V (hV : Env V) => ratMul_f ha hs hx26 ya.1 ys.1 ya.2 ys.2 V hV)
  have H32 := Lib.hid (fun V (hV : Env V) => ratMul_f ha hc hx32 ya.1 yc.1 ya.2 yc.2 V hV)
  have H33 := Lib.hid (fun V (hV : Env V) => ratAdd_f hx18 hx32 (by rw [← Rat.mul_add]; exact hx26) y18.1 y32.1 y18.2 y32.2 V hV)
  have HKN := Lib.hid (fun V (hV : Env V) => rknown_any V hV)
  have HE := Lib.hid (fun V (h : Below w.heap.size w V) => hE.next h)
  have X := Lib.hid ((((Sb.start w).new #[.int .i64 n0, .int .i64 e0, .int .u8 (u0 : Int), .int .u8 (v0 : Int)] 41).new #[.int .i64 n1, .int .i64 e1, .int .u8 (u1 : Int), .int .u8 (v1 : Int)] 41).new #[.int .i64 n2, .int .i64 e2, .int .u8 (u2 : Int), .int .u8 (v2 : Int)] 41)
  have X := Lib.hid (X.out.pick [0, 1, 2] [(w.heap.size, #[.int .i64 n0, .int .i64 e0, .int .u8 (u0 : Int), .int .u8 (v0 : Int)], 41), (w.heap.size + 1, #[.int .i64 n1, .int .i64 e1, .int .u8 (u1 : Int), .int .u8 (v1 : Int)], 41), (w.heap.size + 1 + 1, #[.int .i64 n2, .int .i64 e2, .int .u8 (u2 : Int), .int .u8 (v2 : Int)], 41)] [] (by simp) (by decide) (by simp))
  clear ha hb hc hs hp hx4 hx7 hx15 hx18 hx26 hx32 za zb zc zs zp z7 z18 z32 ya yb yc ys yp y7 y18 y32 hE hn0 he0 hu0 hv0 hn1 he1 hu1 hv1 hn2 he2 hu2 hv2
  go_enter Tryz.func7, Tryz.ntmps7
  go_upto_region 1 with fail
  go_cut [7, 8, 9] (fun s7 s8 s9 wx => ∃ g7 g8 g9, s7 = .pointer (some ⟨g7, 0, none⟩) ∧ s8 = .pointer (some ⟨g8, 0, none⟩) ∧ s9 = .pointer (some ⟨g9, 0, none⟩) ∧ Sb w [(g7, #[.bool ba, .string ma, .bool false, .string ka], 25), (g8, #[.bool bb, .string mb, .bool false, .string kb], 25), (g9, #[.bool bc, .string mc, .bool false, .string kc], 25)] [] wx)
  case first =>
    refine wp_region_any (by kernel_rfl) ?_
    have X := Lib.hid X.out.drew
    obtain ⟨W0, hV⟩ := wexi X.out
    rw [show ∀ v : World, { v with drawn := v.drawn + 1 } = v.drew from fun _ => rfl, ← hV]
    rw [← hV] at X
    clear hV
    refine rg_run (ef := [.val (.agg #[.int .i64 n0, .int .i64 e0, .int .u8 (u0 : Int), .int .u8 (v0 : Int)]), .val (.agg #[.bool ba, .string ma, .bool false, .string ka]), .val (.agg #[.int .i64 n1, .int .i64 e1, .int .u8 (u1 : Int), .int .u8 (v1 : Int)]), .val (.agg #[.bool bb, .string mb, .bool false, .string kb]), .val (.agg #[.int .i64 n2, .int .i64 e2, .int .u8 (u2 : Int), .int .u8 (v2 : Int)]), .val (.agg #[.bool bc, .string mc, .bool false, .string kc]), .new #[.bool false, .string ⟨#[]⟩, .bool false, .string ⟨#[]⟩] 25, .new #[.bool false, .string ⟨#[]⟩, .bool false, .string ⟨#[]⟩] 25, .new #[.bool false, .string ⟨#[]⟩, .bool false, .string ⟨#[]⟩] 25]) (ds := [12, 13, 14, 15, 16, 17, 7, 8, 9]) (by kernel_rfl) (by decide) rfl (by intro d hd; simp at hd ⊢; omega) (fun i d o hd ho listed a w1 hR hdep K hK => ?_) 3 (fun a w1 hR => ?_)
    · have X := Lib.hid (X.out.next hR.bel)
      have HKt := Lib.hid hK
      have HDp := Lib.hid hdep
      have sl3 : a.tmps.getD 3 undef = .pointer (some ⟨w.heap.size, 0, none⟩) := hR.keep 3 (by decide)
      have sl4 : a.tmps.getD 4 undef = .pointer (some ⟨w.heap.size + 1, 0, none⟩) := hR.keep 4 (by decide)
      have sl5 : a.tmps.getD 5 undef = .pointer (some ⟨w.heap.size + 1 + 1, 0, none⟩) := hR.keep 5 (by decide)
      have HRg := Lib.hid hR
      clear hK hdep hR
      rcases i with _ | _ | _ | _ | _ | _ | _ | _ | _ | i
      · cases hd
        cases ho
        obtain ⟨x00, x01, x02, x03⟩ := X.out.c4 (i := 0) rfl
        obtain ⟨x10, x11, x12, x13⟩ := X.out.c4 (i := 1) rfl
        obtain ⟨x20, x21, x22, x23⟩ := X.out.c4 (i := 2) rfl
        go_simp
        exact HKt.out _ _ (Or.inl ⟨rfl, Below.refl _ _⟩)
      · cases hd
        cases ho
        have dd0 : a.tmps.getD 12 undef = .agg #[.int .i64 n0, .int .i64 e0, .int .u8 (u0 : Int), .int .u8 (v0 : Int)] := HRg.out.val 0 _ (HDp.out 0 (by decide)) rfl
        go_simp
        (go_at_call 27; refine (HA.out _).mono ?_; rintro e u ⟨rfl, hb9⟩)
        try go_wp2_with fail
        exact HKt.out _ _ (Or.inl ⟨rfl, hb9⟩)
      · cases hd
        cases ho
        obtain ⟨x00, x01, x02, x03⟩ := X.out.c4 (i := 0) rfl
        obtain ⟨x10, x11, x12, x13⟩ := X.out.c4 (i := 1) rfl
        obtain ⟨x20, x21, x22, x23⟩ := X.out.c4 (i := 2) rfl
        go_simp
        exact HKt.out _ _ (Or.inl ⟨rfl, Below.refl _ _⟩)
      · cases hd
        cases ho
        have dd1 : a.tmps.getD 13 undef = .agg #[.bool ba, .string ma, .bool false, .string ka] := HRg.out.val 1 _ (HDp.out 1 (by decide)) rfl
        have dd2 : a.tmps.getD 14 undef = .agg #[.int .i64 n1, .int .i64 e1, .int .u8 (u1 : Int), .int .u8 (v1 : Int)] := HRg.out.val 2 _ (HDp.out 2 (by decide)) rfl
        go_simp
        (go_at_call 27; refine (HB.out _).mono ?_; rintro e u ⟨rfl, hb9⟩)
        try go_wp2_with fail
        exact HKt.out _ _ (Or.inl ⟨rfl, hb9⟩)
      · cases hd
        cases ho
        obtain ⟨x00, x01, x02, x03⟩ := X.out.c4 (i := 0) rfl
        obtain ⟨x10, x11, x12, x13⟩ := X.out.c4 (i := 1) rfl
        obtain ⟨x20, x21, x22, x23⟩ := X.out.c4 (i := 2) rfl
        go_simp
        exact HKt.out _ _ (Or.inl ⟨rfl, Below.refl _ _⟩)
      · cases hd
        cases ho
        have dd3 : a.tmps.getD 15 undef = .agg #[.bool bb, .string mb, .bool false, .string kb] := HRg.out.val 3 _ (HDp.out 3 (by decide)) rfl
        have dd4 : a.tmps.getD 16 undef = .agg #[.int .i64 n2, .int .i64 e2, .int .u8 (u2 : Int), .int .u8 (v2 : Int)] := HRg.out.val 4 _ (HDp.out 4 (by decide)) rfl
        go_simp
        (go_at_call 27; refine (HC.out _).mono ?_; rintro e u ⟨rfl, hb9⟩)
        try go_wp2_with fail
        exact HKt.out _ _ (Or.inl ⟨rfl, hb9⟩)
      · cases hd
        cases ho
        go_simp
        exact HKt.out _ _ (Or.inr ⟨_, _, rfl, rfl, rfl⟩)
      · cases hd
        cases ho
        go_simp
        exact HKt.out _ _ (Or.inr ⟨_, _, rfl, rfl, rfl⟩)
      · cases hd
        cases ho
        go_simp
        exact HKt.out _ _ (Or.inr ⟨_, _, rfl, rfl, rfl⟩)
      · cases hd
    obtain ⟨g6, hg6, lg6, kg6⟩ := hR.new 6 _ _ (by rfl) rfl
    obtain ⟨g7, hg7, lg7, kg7⟩ := hR.new 7 _ _ (by rfl) rfl
    obtain ⟨g8, hg8, lg8, kg8⟩ := hR.new 8 _ _ (by rfl) rfl
    have vv0 : a.tmps.getD 12 undef = .agg #[.int .i64 n0, .int .i64 e0, .int .u8 (u0 : Int), .int .u8 (v0 : Int)] := hR.val 0 _ (by rfl) rfl
    have vv1 : a.tmps.getD 13 undef = .agg #[.bool ba, .string ma, .bool false, .string ka] := hR.val 1 _ (by rfl) rfl
    have vv2 : a.tmps.getD 14 undef = .agg #[.int .i64 n1, .int .i64 e1, .int .u8 (u1 : Int), .int .u8 (v1 : Int)] := hR.val 2 _ (by rfl) rfl
    have vv3 : a.tmps.getD 15 undef = .agg #[.bool bb, .string mb, .bool false, .string kb] := hR.val 3 _ (by rfl) rfl
    have vv4 : a.tmps.getD 16 undef = .agg #[.int .i64 n2, .int .i64 e2, .int .u8 (u2 : Int), .int .u8 (v2 : Int)] := hR.val 4 _ (by rfl) rfl
    have vv5 : a.tmps.getD 17 undef = .agg #[.bool bc, .string mc, .bool false, .string kc] := hR.val 5 _ (by rfl) rfl
    replace hg6 : a.tmps.getD 7 undef = .pointer (some ⟨g6, 0, none⟩) := hg6
    replace hg7 : a.tmps.getD 8 undef = .pointer (some ⟨g7, 0, none⟩) := hg7
    replace hg8 : a.tmps.getD 9 undef = .pointer (some ⟨g8, 0, none⟩) := hg8
    have hne67 : g6 ≠ g7 := fun e => hR.ne 6 7 _ _ _ _ g6 (by decide) (by rfl) (by rfl) rfl rfl hg6 (by rw [e]; exact hg7)
    have hne68 : g6 ≠ g8 := fun e => hR.ne 6 8 _ _ _ _ g6 (by decide) (by rfl) (by rfl) rfl rfl hg6 (by rw [e]; exact hg8)
    have hne78 : g7 ≠ g8 := fun e => hR.ne 7 8 _ _ _ _ g7 (by decide) (by rfl) (by rfl) rfl rfl hg7 (by rw [e]; exact hg8)
    have X := Lib.hid (X.out.add3 hR.bel lg6 kg6 lg7 kg7 lg8 kg8 hne67 hne68 hne78)
    have ha := hR.act
    simp only [List.foldl_cons, List.foldl_nil, seti, set0, setS, vv0, vv1, vv2, vv3, vv4, vv5, hg6, hg7, hg8] at ha
    subst ha
    clear hR vv0 vv1 vv2 vv3 vv4 vv5 hg6 lg6 kg6 hg7 lg7 kg7 hg8 lg8 kg8
    refine wpAny_of_late (S := fun _ => True) (L := []) _ _ _ _ ?_
    refine wpLate_one (i := 9) (o := ⟨none, _, _, _, _, _⟩) (by kernel_rfl) rfl (fun K hK => ?_)
    obtain ⟨x0, x1, x2, x3⟩ := X.out.c4 (i := 3) rfl
    obtain ⟨y0, y1, y2, y3⟩ := X.out.f4 (i := 3) rfl
    have X := Lib.hid (X.out.set4 (i := 3) rfl (.bool ba) (.string ma) (.bool false) (.string ka))
    go_simp
    refine hK.out _ _ (Or.inr fun _ => trivial) ?_
    clear hK K x0 x1 x2 x3 y0 y1 y2 y3
    obtain ⟨W9, hV⟩ := wexi X.out
    rw [← hV] at X ⊢
    clear hV
    try simp only [Act.put]
    refine wpLate_one (i := 10) (o := ⟨none, _, _, _, _, _⟩) (by kernel_rfl) rfl (fun K hK => ?_)
    obtain ⟨x0, x1, x2, x3⟩ := X.out.c4 (i := 4) rfl
    obtain ⟨y0, y1, y2, y3⟩ := X.out.f4 (i := 4) rfl
    have X := Lib.hid (X.out.set4 (i := 4) rfl (.bool bb) (.string mb) (.bool false) (.string kb))
    go_simp
    refine hK.out _ _ (Or.inr fun _ => trivial) ?_
    clear hK K x0 x1 x2 x3 y0 y1 y2 y3
    obtain ⟨W10, hV⟩ := wexi X.out
    rw [← hV] at X ⊢
    clear hV
    try simp only [Act.put]
    refine wpLate_one (i := 11) (o := ⟨none, _, _, _, _, _⟩) (by kernel_rfl) rfl (fun K hK => ?_)
    obtain ⟨x0, x1, x2, x3⟩ := X.out.c4 (i := 5) rfl
    obtain ⟨y0, y1, y2, y3⟩ := X.out.f4 (i := 5) rfl
    have X := Lib.hid (X.out.set4 (i := 5) rfl (.bool bc) (.string mc) (.bool false) (.string kc))
    go_simp
    refine hK.out _ _ (Or.inr fun _ => trivial) ?_
    clear hK K x0 x1 x2 x3 y0 y1 y2 y3
    obtain ⟨W11, hV⟩ := wexi X.out
    rw [← hV] at X ⊢
    clear hV
    try simp only [Act.put]
    refine wpLate_done (by kernel_rfl) ?_ _
    go_wp2_with fail
    go_meet
    exact ⟨_, _, _, rfl, rfl, rfl, X.out.pick [3, 4, 5] _ [] rfl (by decide) (by simp)⟩
  obtain ⟨g7, g8, g9, rfl, rfl, rfl, hX⟩ := hcut
  have X := Lib.hid hX
  clear hX
  go_upto_region 2 with fail
  go_cut [10, 11] (fun s10 s11 wx => ∃ g10 g11, s10 = .pointer (some ⟨g10, 0, none⟩) ∧ s11 = .pointer (some ⟨g11, 0, none⟩) ∧ Sb w [(g7, #[.bool ba, .string ma, .bool false, .string ka], 25), (g8, #[.bool bb, .string mb, .bool false, .string kb], 25), (g9, #[.bool bc, .string mc, .bool false, .string kc], 25), (g10, #[.bool bs, .string ms, .bool false, .string ks], 25), (g11, #[.bool bp, .string mp, .bool false, .string kp], 25)] [] wx)
  case first =>
    refine wp_region_any (by kernel_rfl) ?_
    have X := Lib.hid X.out.drew
    obtain ⟨W0, hV⟩ := wexi X.out
    rw [show ∀ v : World, { v with drawn := v.drawn + 1 } = v.drew from fun _ => rfl, ← hV]
    rw [← hV] at X
    clear hV
    refine rg_run (ef := [.val (.agg #[.bool bb, .string mb, .bool false, .string kb]), .val (.agg #[.bool bc, .string mc, .bool false, .string kc]), .val (.agg #[.bool bs, .string ms, .bool false, .string ks]), .val (.agg #[.bool bb, .string mb, .bool false, .string kb]), .val (.agg #[.bool bc, .string mc, .bool false, .string kc]), .val (.agg #[.bool bp, .string mp, .bool false, .string kp]), .new #[.bool false, .string ⟨#[]⟩, .bool false, .string ⟨#[]⟩] 25, .new #[.bool false, .string ⟨#[]⟩, .bool false, .string ⟨#[]⟩] 25]) (ds := [18, 19, 20, 21, 22, 23, 10, 11]) (by kernel_rfl) (by decide) rfl (by intro d hd; simp at hd ⊢; omega) (fun i d o hd ho listed a w1 hR hdep K hK => ?_) 2 (fun a w1 hR => ?_)
    · have X := Lib.hid (X.out.next hR.bel)
      have HKt := Lib.hid hK
      have HDp := Lib.hid hdep
      have sl7 : a.tmps.getD 7 undef = .pointer (some ⟨g7, 0, none⟩) := hR.keep 7 (by decide)
      have sl8 : a.tmps.getD 8 undef = .pointer (some ⟨g8, 0, none⟩) := hR.keep 8 (by decide)
      have sl9 : a.tmps.getD 9 undef = .pointer (some ⟨g9, 0, none⟩) := hR.keep 9 (by decide)
      have HRg := Lib.hid hR
      clear hK hdep hR
      rcases i with _ | _ | _ | _ | _ | _ | _ | _ | i
      · cases hd
        cases ho
        obtain ⟨x00, x01, x02, x03⟩ := X.out.c4 (i := 0) rfl
        obtain ⟨x10, x11, x12, x13⟩ := X.out.c4 (i := 1) rfl
        obtain ⟨x20, x21, x22, x23⟩ := X.out.c4 (i := 2) rfl
        go_simp
        exact HKt.out _ _ (Or.inl ⟨rfl, Below.refl _ _⟩)
      · cases hd
        cases ho
        obtain ⟨x00, x01, x02, x03⟩ := X.out.c4 (i := 0) rfl
        obtain ⟨x10, x11, x12, x13⟩ := X.out.c4 (i := 1) rfl
        obtain ⟨x20, x21, x22, x23⟩ := X.out.c4 (i := 2) rfl
        go_simp
        exact HKt.out _ _ (Or.inl ⟨rfl, Below.refl _ _⟩)
      · cases hd
        cases ho
        have dd0 : a.tmps.getD 18 undef = .agg #[.bool bb, .string mb, .bool false, .string kb] := HRg.out.val 0 _ (HDp.out 0 (by decide)) rfl
        have dd1 : a.tmps.getD 19 undef = .agg #[.bool bc, .string mc, .bool false, .string kc] := HRg.out.val 1 _ (HDp.out 1 (by decide)) rfl
        go_simp
        (go_at_call 28; refine (HS.out _ (HE.out _ X.out.bel)).mono ?_; rintro e u ⟨rfl, hb9⟩)
        try go_wp2_with fail
        exact HKt.out _ _ (Or.inl ⟨rfl, hb9⟩)
      · cases hd
        cases ho
        obtain ⟨x00, x01, x02, x03⟩ := X.out.c4 (i := 0) rfl
        obtain ⟨x10, x11, x12, x13⟩ := X.out.c4 (i := 1) rfl
        obtain ⟨x20, x21, x22, x23⟩ := X.out.c4 (i := 2) rfl
        go_simp
        exact HKt.out _ _ (Or.inl ⟨rfl, Below.refl _ _⟩)
      · cases hd
        cases ho
        obtain ⟨x00, x01, x02, x03⟩ := X.out.c4 (i := 0) rfl
        obtain ⟨x10, x11, x12, x13⟩ := X.out.c4 (i := 1) rfl
        obtain ⟨x20, x21, x22, x23⟩ := X.out.c4 (i := 2) rfl
        go_simp
        exact HKt.out _ _ (Or.inl ⟨rfl, Below.refl _ _⟩)
      · cases hd
        cases ho
        have dd2 : a.tmps.getD 20 undef = .agg #[.bool bs, .string ms, .bool false, .string ks] := HRg.out.val 2 _ (HDp.out 2 (by decide)) rfl
        have dd3 : a.tmps.getD 21 undef = .agg #[.bool bb, .string mb, .bool false, .string kb] := HRg.out.val 3 _ (HDp.out 3 (by decide)) rfl
        have dd4 : a.tmps.getD 22 undef = .agg #[.bool bc, .string mc, .bool false, .string kc] := HRg.out.val 4 _ (HDp.out 4 (by decide)) rfl
        go_simp
        (go_at_call 33; refine (HP.out _ (HE.out _ X.out.bel)).mono ?_; rintro e u ⟨rfl, hb9⟩)
        try go_wp2_with fail
        exact HKt.out _ _ (Or.inl ⟨rfl, hb9⟩)
      · cases hd
        cases ho
        go_simp
        exact HKt.out _ _ (Or.inr ⟨_, _, rfl, rfl, rfl⟩)
      · cases hd
        cases ho
        go_simp
        exact HKt.out _ _ (Or.inr ⟨_, _, rfl, rfl, rfl⟩)
      · cases hd
    obtain ⟨g6, hg6, lg6, kg6⟩ := hR.new 6 _ _ (by rfl) rfl
    obtain ⟨g7, hg7, lg7, kg7⟩ := hR.new 7 _ _ (by rfl) rfl
    have vv0 : a.tmps.getD 18 undef = .agg #[.bool bb, .string mb, .bool false, .string kb] := hR.val 0 _ (by rfl) rfl
    have vv1 : a.tmps.getD 19 undef = .agg #[.bool bc, .string mc, .bool false, .string kc] := hR.val 1 _ (by rfl) rfl
    have vv2 : a.tmps.getD 20 undef = .agg #[.bool bs, .string ms, .bool false, .string ks] := hR.val 2 _ (by rfl) rfl
    have vv3 : a.tmps.getD 21 undef = .agg #[.bool bb, .string mb, .bool false, .string kb] := hR.val 3 _ (by rfl) rfl
    have vv4 : a.tmps.getD 22 undef = .agg #[.bool bc, .string mc, .bool false, .string kc] := hR.val 4 _ (by rfl) rfl
    have vv5 : a.tmps.getD 23 undef = .agg #[.bool bp, .string mp, .bool false, .string kp] := hR.val 5 _ (by rfl) rfl
    replace hg6 : a.tmps.getD 10 undef = .pointer (some ⟨g6, 0, none⟩) := hg6
    replace hg7 : a.tmps.getD 11 undef = .pointer (some ⟨g7, 0, none⟩) := hg7
    have hne : g6 ≠ g7 := fun e => hR.ne 6 7 _ _ _ _ g6 (by decide) (by rfl) (by rfl) rfl rfl hg6 (by rw [e]; exact hg7)
    have X := Lib.hid (X.out.add2 hR.bel lg6 kg6 lg7 kg7 hne)
    have ha := hR.act
    simp only [List.foldl_cons, List.foldl_nil, seti, set0, setS, vv0, vv1, vv2, vv3, vv4, vv5, hg6, hg7] at ha
    subst ha
    clear hR vv0 vv1 vv2 vv3 vv4 vv5 hg6 lg6 kg6 hg7 lg7 kg7 hne
    refine wpAny_of_late (S := fun _ => True) (L := []) _ _ _ _ ?_
    refine wpLate_one (i := 8) (o := ⟨none, _, _, _, _, _⟩) (by kernel_rfl) rfl (fun K hK => ?_)
    obtain ⟨x0, x1, x2, x3⟩ := X.out.c4 (i := 3) rfl
    obtain ⟨y0, y1, y2, y3⟩ := X.out.f4 (i := 3) rfl
    have X := Lib.hid (X.out.set4 (i := 3) rfl (.bool bs) (.string ms) (.bool false) (.string ks))
    go_simp
    refine hK.out _ _ (Or.inr fun _ => trivial) ?_
    clear hK K x0 x1 x2 x3 y0 y1 y2 y3
    obtain ⟨W8, hV⟩ := wexi X.out
    rw [← hV] at X ⊢
    clear hV
    try simp only [Act.put]
    refine wpLate_one (i := 9) (o := ⟨none, _, _, _, _, _⟩) (by kernel_rfl) rfl (fun K hK => ?_)
    obtain ⟨x0, x1, x2, x3⟩ := X.out.c4 (i := 4) rfl
    obtain ⟨y0, y1, y2, y3⟩ := X.out.f4 (i := 4) rfl
    have X := Lib.hid (X.out.set4 (i := 4) rfl (.bool bp) (.string mp) (.bool false) (.string kp))
    go_simp
    refine hK.out _ _ (Or.inr fun _ => trivial) ?_
    clear hK K x0 x1 x2 x3 y0 y1 y2 y3
    obtain ⟨W9, hV⟩ := wexi X.out
    rw [← hV] at X ⊢
    clear hV
    try simp only [Act.put]
    refine wpLate_done (by kernel_rfl) ?_ _
    go_wp2_with fail
    go_meet
    exact ⟨_, _, rfl, rfl, X.out.pick [0, 1, 2, 3, 4] _ [] rfl (by decide) (by simp)⟩
  obtain ⟨g10, g11, rfl, rfl, hX⟩ := hcut
  have X := Lib.hid hX
  clear hX
  go_upto_region 3 with fail
  refine wp_region_late (S := fun w' => (w'.cell? ⟨g7, 0, none⟩ = some (.bool ba) ∧ w'.cell? ⟨g7, 1, none⟩ = some (.string ma) ∧ w'.cell? ⟨g7, 2, none⟩ = some (.bool false) ∧ w'.cell? ⟨g7, 3, none⟩ = some (.string ka)) ∧ (w'.cell? ⟨g8, 0, none⟩ = some (.bool bb) ∧ w'.cell? ⟨g8, 1, none⟩ = some (.string mb) ∧ w'.cell? ⟨g8, 2, none⟩ = some (.bool false) ∧ w'.cell? ⟨g8, 3, none⟩ = some (.string kb)) ∧ (w'.cell? ⟨g9, 0, none⟩ = some (.bool bc) ∧ w'.cell? ⟨g9, 1, none⟩ = some (.string mc) ∧ w'.cell? ⟨g9, 2, none⟩ = some (.bool false) ∧ w'.cell? ⟨g9, 3, none⟩ = some (.string kc)) ∧ (w'.cell? ⟨g10, 0, none⟩ = some (.bool bs) ∧ w'.cell? ⟨g10, 1, none⟩ = some (.string ms) ∧ w'.cell? ⟨g10, 2, none⟩ = some (.bool false) ∧ w'.cell? ⟨g10, 3, none⟩ = some (.string ks)) ∧ (w'.cell? ⟨g11, 0, none⟩ = some (.bool bp) ∧ w'.cell? ⟨g11, 1, none⟩ = some (.string mp) ∧ w'.cell? ⟨g11, 2, none⟩ = some (.bool false) ∧ w'.cell? ⟨g11, 3, none⟩ = some (.string kp))) (L := []) (by kernel_rfl) ?_
  have X := Lib.hid X.out.drew
  obtain ⟨V0, hV⟩ := wexi X.out
  rw [← hV] at X ⊢
  clear hV
  refine wpLate_one (i := 0) (o := ⟨some 24, _, _, _, _, _⟩) (by kernel_rfl) rfl (fun K hK => ?_)
  go_simp
  (go_at_call 14; refine (HKN.out _ (HE.out _ X.out.bel)).mono ?_; rintro e u1 ⟨rfl, hb9⟩; have X := Lib.hid (X.out.next hb9); clear hb9)
  try go_wp2_with fail
  refine hK.out _ _ (Or.inr (fun _ => ⟨X.out.c4 (i := 0) rfl, X.out.c4 (i := 1) rfl, X.out.c4 (i := 2) rfl, X.out.c4 (i := 3) rfl, X.out.c4 (i := 4) rfl⟩)) ?_
  clear hK K
  try simp only [Act.put, seti, set0, setS]
  refine tk (i := 1) (oi := ⟨some 25, _, _, _, _, _⟩) (v := _) rfl (by kernel_rfl) (fun _ _ _ h => h) (⟨X.out.c4 (i := 0) rfl, X.out.c4 (i := 1) rfl, X.out.c4 (i := 2) rfl, X.out.c4 (i := 3) rfl, X.out.c4 (i := 4) rfl⟩) (Or.inl ⟨by rfl, by intro w hSw; (try dsimp only at hSw); (first | (go_simp; done) | (go_simp; with_reducible rfl))⟩) ?_
  try simp only [Act.put, seti, set0, setS]
  refine tk (i := 2) (oi := ⟨some 26, _, _, _, _, _⟩) (v := _) rfl (by kernel_rfl) (fun _ _ _ h => h) (⟨X.out.c4 (i := 0) rfl, X.out.c4 (i := 1) rfl, X.out.c4 (i := 2) rfl, X.out.c4 (i := 3) rfl, X.out.c4 (i := 4) rfl⟩) (Or.inl ⟨by rfl, by intro w hSw; (try dsimp only at hSw); (first | (go_simp; done) | (go_simp; with_reducible rfl))⟩) ?_
  try simp only [Act.put, seti, set0, setS]
  refine tk (i := 3) (oi := ⟨some 27, _, _, _, _, _⟩) (v := _) rfl (by kernel_rfl) (fun _ _ _ h => h) (⟨X.out.c4 (i := 0) rfl, X.out.c4 (i := 1) rfl, X.out.c4 (i := 2) rfl, X.out.c4 (i := 3) rfl, X.out.c4 (i := 4) rfl⟩) (Or.inl ⟨by rfl, by intro w hSw; (try dsimp only at hSw); (first | (go_simp; done) | (go_simp; with_reducible rfl))⟩) ?_
  try simp only [Act.put, seti, set0, setS]
  refine tk (i := 5) (oi := ⟨some 29, _, _, _, _, _⟩) (v := _) rfl (by kernel_rfl) (fun _ _ _ h => h) (⟨X.out.c4 (i := 0) rfl, X.out.c4 (i := 1) rfl, X.out.c4 (i := 2) rfl, X.out.c4 (i := 3) rfl, X.out.c4 (i := 4) rfl⟩) (Or.inl ⟨by rfl, by intro w hSw; (try dsimp only at hSw); (first | (go_simp; done) | (go_simp; with_reducible rfl))⟩) ?_
  try simp only [Act.put, seti, set0, setS]
  refine tk (i := 6) (oi := ⟨some 30, _, _, _, _, _⟩) (v := _) rfl (by kernel_rfl) (fun _ _ _ h => h) (⟨X.out.c4 (i := 0) rfl, X.out.c4 (i := 1) rfl, X.out.c4 (i := 2) rfl, X.out.c4 (i := 3) rfl, X.out.c4 (i := 4) rfl⟩) (Or.inl ⟨by rfl, by intro w hSw; (try dsimp only at hSw); (first | (go_simp; done) | (go_simp; with_reducible rfl))⟩) ?_
  try simp only [Act.put, seti, set0, setS]
  refine tk (i := 8) (oi := ⟨some 32, _, _, _, _, _⟩) (v := _) rfl (by kernel_rfl) (fun _ _ _ h => h) (⟨X.out.c4 (i := 0) rfl, X.out.c4 (i := 1) rfl, X.out.c4 (i := 2) rfl, X.out.c4 (i := 3) rfl, X.out.c4 (i := 4) rfl⟩) (Or.inl ⟨by rfl, by intro w hSw; (try dsimp only at hSw); (first | (go_simp; done) | (go_simp; with_reducible rfl))⟩) ?_
  try simp only [Act.put, seti, set0, setS]
  refine wpLate_one (i := 4) (o := ⟨some 28, _, _, _, _, _⟩) (by kernel_rfl) rfl (fun K hK => ?_)
  go_simp
  (go_at_call 28; refine (H4.out _ (HE.out _ X.out.bel)).mono ?_; rintro e u2 ⟨rfl, hb9⟩; have X := Lib.hid (X.out.next hb9); clear hb9)
  try go_wp2_with fail
  refine hK.out _ _ (Or.inr (fun _ => ⟨X.out.c4 (i := 0) rfl, X.out.c4 (i := 1) rfl, X.out.c4 (i := 2) rfl, X.out.c4 (i := 3) rfl, X.out.c4 (i := 4) rfl⟩)) ?_
  clear hK K
  try simp only [Act.put, seti, set0, setS]
  refine wpLate_one (i := 7) (o := ⟨some 31, _, _, _, _, _⟩) (by kernel_rfl) rfl (fun K hK => ?_)
  go_simp
  (go_at_call 28; refine (H7.out _ (HE.out _ X.out.bel)).mono ?_; rintro e u3 ⟨rfl, hb9⟩; have X := Lib.hid (X.out.next hb9); clear hb9)
  try go_wp2_with fail
  refine hK.out _ _ (Or.inr (fun _ => ⟨X.out.c4 (i := 0) rfl, X.out.c4 (i := 1) rfl, X.out.c4 (i := 2) rfl, X.out.c4 (i := 3) rfl, X.out.c4 (i := 4) rfl⟩)) ?_
  clear hK K
  try simp only [Act.put, seti, set0, setS]
  refine wpLate_one (i := 9) (o := ⟨some 33, _, _, _, _, _⟩) (by kernel_rfl) rfl (fun K hK => ?_)
  go_simp
  (go_at_call 28; refine (H9.out _ (HE.out _ X.out.bel)).mono ?_; rintro e u4 ⟨rfl, hb9⟩; have X := Lib.hid (X.out.next hb9); clear hb9)
  try go_wp2_with fail
  refine hK.out _ _ (Or.inr (fun _ => ⟨X.out.c4 (i := 0) rfl, X.out.c4 (i := 1) rfl, X.out.c4 (i := 2) rfl, X.out.c4 (i := 3) rfl, X.out.c4 (i := 4) rfl⟩)) ?_
  clear hK K
  try simp only [Act.put, seti, set0, setS]
  refine tk (i := 10) (oi := ⟨some 34, _, _, _, _, _⟩) (v := _) rfl (by kernel_rfl) (fun _ _ _ h => h) (⟨X.out.c4 (i := 0) rfl, X.out.c4 (i := 1) rfl, X.out.c4 (i := 2) rfl, X.out.c4 (i := 3) rfl, X.out.c4 (i := 4) rfl⟩) (Or.inl ⟨by rfl, by intro w hSw; (try dsimp only at hSw); (first | (go_simp; done) | (go_simp; with_reducible rfl))⟩) ?_
  try simp only [Act.put, seti, set0, setS]
  refine tk (i := 11) (oi := ⟨some 35, _, _, _, _, _⟩) (v := _) rfl (by kernel_rfl) (fun _ _ _ h => h) (⟨X.out.c4 (i := 0) rfl, X.out.c4 (i := 1) rfl, X.out.c4 (i := 2) rfl, X.out.c4 (i := 3) rfl, X.out.c4 (i := 4) rfl⟩) (Or.inl ⟨by rfl, by intro w hSw; (try dsimp only at hSw); (first | (go_simp; done) | (go_simp; with_reducible rfl))⟩) ?_
  try simp only [Act.put, seti, set0, setS]
  refine tk (i := 12) (oi := ⟨some 36, _, _, _, _, _⟩) (v := _) rfl (by kernel_rfl) (fun _ _ _ h => h) (⟨X.out.c4 (i := 0) rfl, X.out.c4 (i := 1) rfl, X.out.c4 (i := 2) rfl, X.out.c4 (i := 3) rfl, X.out.c4 (i := 4) rfl⟩) (Or.inl ⟨by rfl, by intro w hSw; (try dsimp only at hSw); (first | (go_simp; done) | (go_simp; with_reducible rfl))⟩) ?_
  try simp only [Act.put, seti, set0, setS]
  refine tk (i := 13) (oi := ⟨some 37, _, _, _, _, _⟩) (v := _) rfl (by kernel_rfl) (fun _ _ _ h => h) (⟨X.out.c4 (i := 0) rfl, X.out.c4 (i := 1) rfl, X.out.c4 (i := 2) rfl, X.out.c4 (i := 3) rfl, X.out.c4 (i := 4) rfl⟩) (Or.inl ⟨by rfl, by intro w hSw; (try dsimp only at hSw); (first | (go_simp; done) | (go_simp; with_reducible rfl))⟩) ?_
  try simp only [Act.put, seti, set0, setS]
  refine tk (i := 14) (oi := ⟨some 38, _, _, _, _, _⟩) (v := _) rfl (by kernel_rfl) (fun _ _ _ h => h) (⟨X.out.c4 (i := 0) rfl, X.out.c4 (i := 1) rfl, X.out.c4 (i := 2) rfl, X.out.c4 (i := 3) rfl, X.out.c4 (i := 4) rfl⟩) (Or.inl ⟨by rfl, by intro w hSw; (try dsimp only at hSw); (first | (go_simp; done) | (go_simp; with_reducible rfl))⟩) ?_
  try simp only [Act.put, seti, set0, setS]
  refine tk (i := 16) (oi := ⟨some 40, _, _, _, _, _⟩) (v := _) rfl (by kernel_rfl) (fun _ _ _ h => h) (⟨X.out.c4 (i := 0) rfl, X.out.c4 (i := 1) rfl, X.out.c4 (i := 2) rfl, X.out.c4 (i := 3) rfl, X.out.c4 (i := 4) rfl⟩) (Or.inl ⟨by rfl, by intro w hSw; (try dsimp only at hSw); (first | (go_simp; done) | (go_simp; with_reducible rfl))⟩) ?_
  try simp only [Act.put, seti, set0, setS]
  refine tk (i := 17) (oi := ⟨some 41, _, _, _, _, _⟩) (v := _) rfl (by kernel_rfl) (fun _ _ _ h => h) (⟨X.out.c4 (i := 0) rfl, X.out.c4 (i := 1) rfl, X.out.c4 (i := 2) rfl, X.out.c4 (i := 3) rfl, X.out.c4 (i := 4) rfl⟩) (Or.inl ⟨by rfl, by intro w hSw; (try dsimp only at hSw); (first | (go_simp; done) | (go_simp; with_reducible rfl))⟩) ?_
  try simp only [Act.put, seti, set0, setS]
  refine tk (i := 19) (oi := ⟨some 43, _, _, _, _, _⟩) (v := _) rfl (by kernel_rfl) (fun _ _ _ h => h) (⟨X.out.c4 (i := 0) rfl, X.out.c4 (i := 1) rfl, X.out.c4 (i := 2) rfl, X.out.c4 (i := 3) rfl, X.out.c4 (i := 4) rfl⟩) (Or.inl ⟨by rfl, by intro w hSw; (try dsimp only at hSw); (first | (go_simp; done) | (go_simp; with_reducible rfl))⟩) ?_
  try simp only [Act.put, seti, set0, setS]
  refine wpLate_one (i := 15) (o := ⟨some 39, _, _, _, _, _⟩) (by kernel_rfl) rfl (fun K hK => ?_)
  go_simp
  (go_at_call 33; refine (H15.out _ (HE.out _ X.out.bel)).mono ?_; rintro e u5 ⟨rfl, hb9⟩; have X := Lib.hid (X.out.next hb9); clear hb9)
  try go_wp2_with fail
  refine hK.out _ _ (Or.inr (fun _ => ⟨X.out.c4 (i := 0) rfl, X.out.c4 (i := 1) rfl, X.out.c4 (i := 2) rfl, X.out.c4 (i := 3) rfl, X.out.c4 (i := 4) rfl⟩)) ?_
  clear hK K
  try simp only [Act.put, seti, set0, setS]
  refine wpLate_one (i := 18) (o := ⟨some 42, _, _, _, _, _⟩) (by kernel_rfl) rfl (fun K hK => ?_)
  go_simp
  (go_at_call 33; refine (H18.out _ (HE.out _ X.out.bel)).mono ?_; rintro e u6 ⟨rfl, hb9⟩; have X := Lib.hid (X.out.next hb9); clear hb9)
  try go_wp2_with fail
  refine hK.out _ _ (Or.inr (fun _ => ⟨X.out.c4 (i := 0) rfl, X.out.c4 (i := 1) rfl, X.out.c4 (i := 2) rfl, X.out.c4 (i := 3) rfl, X.out.c4 (i := 4) rfl⟩)) ?_
  clear hK K
  try simp only [Act.put, seti, set0, setS]
  refine wpLate_one (i := 20) (o := ⟨some 44, _, _, _, _, _⟩) (by kernel_rfl) rfl (fun K hK => ?_)
  go_simp
  (go_at_call 33; refine (H20.out _ (HE.out _ X.out.bel)).mono ?_; rintro e u7 ⟨rfl, hb9⟩; have X := Lib.hid (X.out.next hb9); clear hb9)
  try go_wp2_with fail
  refine hK.out _ _ (Or.inr (fun _ => ⟨X.out.c4 (i := 0) rfl, X.out.c4 (i := 1) rfl, X.out.c4 (i := 2) rfl, X.out.c4 (i := 3) rfl, X.out.c4 (i := 4) rfl⟩)) ?_
  clear hK K
  try simp only [Act.put, seti, set0, setS]
  refine tk (i := 21) (oi := ⟨some 45, _, _, _, _, _⟩) (v := _) rfl (by kernel_rfl) (fun _ _ _ h => h) (⟨X.out.c4 (i := 0) rfl, X.out.c4 (i := 1) rfl, X.out.c4 (i := 2) rfl, X.out.c4 (i := 3) rfl, X.out.c4 (i := 4) rfl⟩) (Or.inl ⟨by rfl, by intro w hSw; (try dsimp only at hSw); (first | (go_simp; done) | (go_simp; with_reducible rfl))⟩) ?_
  try simp only [Act.put, seti, set0, setS]
  refine tk (i := 22) (oi := ⟨some 46, _, _, _, _, _⟩) (v := _) rfl (by kernel_rfl) (fun _ _ _ h => h) (⟨X.out.c4 (i := 0) rfl, X.out.c4 (i := 1) rfl, X.out.c4 (i := 2) rfl, X.out.c4 (i := 3) rfl, X.out.c4 (i := 4) rfl⟩) (Or.inl ⟨by rfl, by intro w hSw; (try dsimp only at hSw); (first | (go_simp; done) | (go_simp; with_reducible rfl))⟩) ?_
  try simp only [Act.put, seti, set0, setS]
  refine tk (i := 23) (oi := ⟨some 47, _, _, _, _, _⟩) (v := _) rfl (by kernel_rfl) (fun _ _ _ h => h) (⟨X.out.c4 (i := 0) rfl, X.out.c4 (i := 1) rfl, X.out.c4 (i := 2) rfl, X.out.c4 (i := 3) rfl, X.out.c4 (i := 4) rfl⟩) (Or.inl ⟨by rfl, by intro w hSw; (try dsimp only at hSw); (first | (go_simp; done) | (go_simp; with_reducible rfl))⟩) ?_
  try simp only [Act.put, seti, set0, setS]
  refine tk (i := 24) (oi := ⟨some 48, _, _, _, _, _⟩) (v := _) rfl (by kernel_rfl) (fun _ _ _ h => h) (⟨X.out.c4 (i := 0) rfl, X.out.c4 (i := 1) rfl, X.out.c4 (i := 2) rfl, X.out.c4 (i := 3) rfl, X.out.c4 (i := 4) rfl⟩) (Or.inl ⟨by rfl, by intro w hSw; (try dsimp only at hSw); (first | (go_simp; done) | (go_simp; with_reducible rfl))⟩) ?_
  try simp only [Act.put, seti, set0, setS]
  refine tk (i := 25) (oi := ⟨some 49, _, _, _, _, _⟩) (v := _) rfl (by kernel_rfl) (fun _ _ _ h => h) (⟨X.out.c4 (i := 0) rfl, X.out.c4 (i := 1) rfl, X.out.c4 (i := 2) rfl, X.out.c4 (i := 3) rfl, X.out.c4 (i := 4) rfl⟩) (Or.inl ⟨by rfl, by intro w hSw; (try dsimp only at hSw); (first | (go_simp; done) | (go_simp; with_reducible rfl))⟩) ?_
  try simp only [Act.put, seti, set0, setS]
  refine tk (i := 27) (oi := ⟨some 51, _, _, _, _, _⟩) (v := _) rfl (by kernel_rfl) (fun _ _ _ h => h) (⟨X.out.c4 (i := 0) rfl, X.out.c4 (i := 1) rfl, X.out.c4 (i := 2) rfl, X.out.c4 (i := 3) rfl, X.out.c4 (i := 4) rfl⟩) (Or.inl ⟨by rfl, by intro w hSw; (try dsimp only at hSw); (first | (go_simp; done) | (go_simp; with_reducible rfl))⟩) ?_
  try simp only [Act.put, seti, set0, setS]
  refine tk (i := 28) (oi := ⟨some 52, _, _, _, _, _⟩) (v := _) rfl (by kernel_rfl) (fun _ _ _ h => h) (⟨X.out.c4 (i := 0) rfl, X.out.c4 (i := 1) rfl, X.out.c4 (i := 2) rfl, X.out.c4 (i := 3) rfl, X.out.c4 (i := 4) rfl⟩) (Or.inl ⟨by rfl, by intro w hSw; (try dsimp only at hSw); (first | (go_simp; done) | (go_simp; with_reducible rfl))⟩) ?_
  try simp only [Act.put, seti, set0, setS]
  refine tk (i := 30) (oi := ⟨some 54, _, _, _, _, _⟩) (v := _) rfl (by kernel_rfl) (fun _ _ _ h => h) (⟨X.out.c4 (i := 0) rfl, X.out.c4 (i := 1) rfl, X.out.c4 (i := 2) rfl, X.out.c4 (i := 3) rfl, X.out.c4 (i := 4) rfl⟩) (Or.inl ⟨by rfl, by intro w hSw; (try dsimp only at hSw); (first | (go_simp; done) | (go_simp; with_reducible rfl))⟩) ?_
  try simp only [Act.put, seti, set0, setS]
  refine tk (i := 31) (oi := ⟨some 55, _, _, _, _, _⟩) (v := _) rfl (by kernel_rfl) (fun _ _ _ h => h) (⟨X.out.c4 (i := 0) rfl, X.out.c4 (i := 1) rfl, X.out.c4 (i := 2) rfl, X.out.c4 (i := 3) rfl, X.out.c4 (i := 4) rfl⟩) (Or.inl ⟨by rfl, by intro w hSw; (try dsimp only at hSw); (first | (go_simp; done) | (go_simp; with_reducible rfl))⟩) ?_
  try simp only [Act.put, seti, set0, setS]
  refine wpLate_one (i := 26) (o := ⟨some 50, _, _, _, _, _⟩) (by kernel_rfl) rfl (fun K hK => ?_)
  go_simp
  (go_at_call 33; refine (H26.out _ (HE.out _ X.out.bel)).mono ?_; rintro e u8 ⟨rfl, hb9⟩; have X := Lib.hid (X.out.next hb9); clear hb9)
  try go_wp2_with fail
  refine hK.out _ _ (Or.inr (fun _ => ⟨X.out.c4 (i := 0) rfl, X.out.c4 (i := 1) rfl, X.out.c4 (i := 2) rfl, X.out.c4 (i := 3) rfl, X.out.c4 (i := 4) rfl⟩)) ?_
  clear hK K
  try simp only [Act.put, seti, set0, setS]
  refine wpLate_one (i := 29) (o := ⟨some 53, _, _, _, _, _⟩) (by kernel_rfl) rfl (fun K hK => ?_)
  go_simp
  (go_at_call 33; refine (H18.out _ (HE.out _ X.out.bel)).mono ?_; rintro e u9 ⟨rfl, hb9⟩; have X := Lib.hid (X.out.next hb9); clear hb9)
  try go_wp2_with fail
  refine hK.out _ _ (Or.inr (fun _ => ⟨X.out.c4 (i := 0) rfl, X.out.c4 (i := 1) rfl, X.out.c4 (i := 2) rfl, X.out.c4 (i := 3) rfl, X.out.c4 (i := 4) rfl⟩)) ?_
  clear hK K
  try simp only [Act.put, seti, set0, setS]
  refine wpLate_one (i := 32) (o := ⟨some 56, _, _, _, _, _⟩) (by kernel_rfl) rfl (fun K hK => ?_)
  go_simp
  (go_at_call 33; refine (H32.out _ (HE.out _ X.out.bel)).mono ?_; rintro e u10 ⟨rfl, hb9⟩; have X := Lib.hid (X.out.next hb9); clear hb9)
  try go_wp2_with fail
  refine hK.out _ _ (Or.inr (fun _ => ⟨X.out.c4 (i := 0) rfl, X.out.c4 (i := 1) rfl, X.out.c4 (i := 2) rfl, X.out.c4 (i := 3) rfl, X.out.c4 (i := 4) rfl⟩)) ?_
  clear hK K
  try simp only [Act.put, seti, set0, setS]
  refine wpLate_one (i := 33) (o := ⟨some 57, _, _, _, _, _⟩) (by kernel_rfl) rfl (fun K hK => ?_)
  go_simp
  (go_at_call 28; refine (H33.out _ (HE.out _ X.out.bel)).mono ?_; rintro e u11 ⟨rfl, hb9⟩; have X := Lib.hid (X.out.next hb9); clear hb9)
  try go_wp2_with fail
  refine hK.out _ _ (Or.inr (fun _ => ⟨X.out.c4 (i := 0) rfl, X.out.c4 (i := 1) rfl, X.out.c4 (i := 2) rfl, X.out.c4 (i := 3) rfl, X.out.c4 (i := 4) rfl⟩)) ?_
  clear hK K
  try simp only [Act.put, seti, set0, setS]
  refine tk (i := 34) (oi := ⟨some 58, _, _, _, _, _⟩) (v := _) rfl (by kernel_rfl) (fun _ _ _ h => h) (⟨X.out.c4 (i := 0) rfl, X.out.c4 (i := 1) rfl, X.out.c4 (i := 2) rfl, X.out.c4 (i := 3) rfl, X.out.c4 (i := 4) rfl⟩) (Or.inl ⟨by rfl, by intro w hSw; (try dsimp only at hSw); (first | (go_simp; done) | (go_simp; with_reducible rfl))⟩) ?_
  try simp only [Act.put, seti, set0, setS]
  refine tk (i := 35) (oi := ⟨some 59, _, _, _, _, _⟩) (v := _) rfl (by kernel_rfl) (fun _ _ _ h => h) (⟨X.out.c4 (i := 0) rfl, X.out.c4 (i := 1) rfl, X.out.c4 (i := 2) rfl, X.out.c4 (i := 3) rfl, X.out.c4 (i := 4) rfl⟩) (Or.inl ⟨by rfl, by intro w hSw; (try dsimp only at hSw); (first | (go_simp; done) | (go_simp; with_reducible rfl))⟩) ?_
  try simp only [Act.put, seti, set0, setS]
  refine tk (i := 36) (oi := ⟨some 6, _, _, _, _, _⟩) (v := _) rfl (by kernel_rfl) (fun _ _ _ h => h) (⟨X.out.c4 (i := 0) rfl, X.out.c4 (i := 1) rfl, X.out.c4 (i := 2) rfl, X.out.c4 (i := 3) rfl, X.out.c4 (i := 4) rfl⟩) (Or.inl ⟨by rfl, by intro w hSw; (try dsimp only at hSw); (first | (go_simp; done) | (go_simp; with_reducible rfl))⟩) ?_
  try simp only [Act.put, seti, set0, setS]
  refine wpLate_done (by kernel_rfl) ?_ _
  go_wp2
  go_ret
  exact ⟨rfl, X.out.bel⟩
end Go.Proofs.YtahehlajpaoiiaaGreatDoor
