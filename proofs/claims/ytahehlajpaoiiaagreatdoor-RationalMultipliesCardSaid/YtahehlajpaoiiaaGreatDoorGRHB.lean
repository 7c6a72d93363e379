import Derived.Test.YtahehlajpaoiiaaGreatDoorGRFB

namespace Go.Proofs.YtahehlajpaoiiaaGreatDoor
open Go.RowKit
attribute [local go_sem ↓] Go.wp_at_zero Go.wp_at_succ

theorem Sz.quo {n m : Nat} {p q : Rat} (hp : Sz n p) (hq : Sz m q) (h0 : ¬ q.num = 0) : Sz (n + m) (p / q) := by
  rw [Rat.div_def]
  refine hp.mul ?_
  have h1 : q⁻¹.den = q.num.natAbs := by rw [Rat.den_inv, if_neg h0]
  have h2 := Rat.num_inv q
  unfold Sz
  rw [h1, h2, Int.natAbs_mul, Int.natAbs_natCast, Int.natAbs_sign_of_ne_zero h0, Nat.one_mul]
  exact ⟨hq.2, hq.1⟩
theorem rq_zero0 : Rq (0 : Rat) false ⟨#[]⟩ ⟨#[]⟩ := ⟨enc_zero, by rw [show (0 : Rat).den = 1 from rfl, dm_one]⟩
theorem sz_zero0 : Sz 1 (0 : Rat) := ⟨by decide, by decide⟩

set_option maxHeartbeats 32000000 in
set_option maxRecDepth 100000 in
theorem rmul_yes (n0 e0 : Int) (u0 v0 : Nat) (hn0 : -9223372036854775808 ≤ n0 ∧ n0 ≤ 9223372036854775807) (he0 : -9223372036854775808 ≤ e0 ∧ e0 ≤ 9223372036854775807) (hu0 : u0 < 256) (hv0 : v0 < 256) (n1 e1 : Int) (u1 v1 : Nat) (hn1 : -9223372036854775808 ≤ n1 ∧ n1 ≤ 9223372036854775807) (he1 : -9223372036854775808 ≤ e1 ∧ e1 ≤ 9223372036854775807) (hu1 : u1 < 256) (hv1 : v1 < 256) (h0 : ¬ (fracQ n1 e1 u1 v1).num = 0) (w : World) (hE : Env w) :
    Calls Tryz.prog 6 #[.agg #[.int .i64 n0, .int .i64 e0, .int .u8 (u0 : Int), .int .u8 (v0 : Int)], .agg #[.int .i64 n1, .int .i64 e1, .int .u8 (u1 : Int), .int .u8 (v1 : Int)]] w (RetB w (.bool true)) := by
  obtain ⟨ba, ma, ka, ha⟩ := Rq.some_ (fracQ n0 e0 u0 v0)
  have HA := Lib.hid (fun V => rat_det n0 e0 u0 v0 ha hn0.1 hn0.2 he0.1 he0.2 hu0 hv0 V)
  have za : Sz 16 (fracQ n0 e0 u0 v0) := frac_small n0 e0 u0 v0 hn0.1 hn0.2 he0.1 he0.2
  generalize fracQ n0 e0 u0 v0 = qa at *
  obtain ⟨bb, mb, kb, hb⟩ := Rq.some_ (fracQ n1 e1 u1 v1)
  have HB := Lib.hid (fun V => rat_det n1 e1 u1 v1 hb hn1.1 hn1.2 he1.1 he1.2 hu1 hv1 V)
  have zb : Sz 16 (fracQ n1 e1 u1 v1) := frac_small n1 e1 u1 v1 hn1.1 hn1.2 he1.1 he1.2
  generalize fracQ n1 e1 u1 v1 = qb at *
  obtain ⟨bp, mp, kp, hp⟩ := Rq.some_ (qa * qb)
  have zp := za.mul zb
  obtain ⟨bq, mq, kq, hq⟩ := Rq.some_ (qa / qb)
  have zq := za.quo zb h0
  have hne : qb ≠ 0 := fun e => h0 (by rw [e]; rfl)
  have ya := za.m ha (by omega)
  have yb := zb.m hb (by omega)
  have yp := zp.m hp (by omega)
  have yq := zq.m hq (by omega)
  have HM := Lib.hid (fun V (hV : Env V) => ratMul_f ha hb hp ya.1 yb.1 ya.2 yb.2 V hV)
  have H6 := Lib.hid (fun V => rMul_f ha hb hp ya.1 yb.1 ya.2 yb.2 V)
  have H12 := Lib.hid (fun V (hV : Env V) => ratMul_f hb ha (by rw [Rat.mul_comm]; exact hp) yb.1 ya.1 yb.2 ya.2 V hV)
  have HD := Lib.hid (fun V (hV : Env V) => ratDiv_f ha hb hq h0 ya.1 yb.1 ya.2 yb.2 V hV)
  have HDb := Lib.hid (fun V (hV : Env V) => ratDiv_f hp hb (by rw [Rat.div_def, Rat.mul_assoc, Rat.mul_inv_cancel _ hne, Rat.mul_one]; exact ha) h0 yp.1 yb.1 yp.2 yb.2 V hV)
  have HDr := Lib.hid (fun V => rDiv_f ha hb hq h0 ya.1 yb.1 ya.2 yb.2 V)
  have HMq := Lib.hid (fun V (hV : Env V) => ratMul_f hq hb (by rw [Rat.div_def, Rat.mul_assoc, Rat.inv_mul_cancel _ hne, Rat.mul_one]; exact ha) yq.1 yb.1 yq.2 yb.2 V hV)
  have hsg := fun V => rSign_f hb V
  have hs0 : ¬ qb.num.sign = 0 := by rw [Int.sign_eq_zero_iff_zero]; exact h0
  generalize qb.num.sign = sg at hsg hs0
  have HSG := Lib.hid hsg
  have hs1 : (sg == (0 : Int)) = false := by simpa using hs0
  have HV := Lib.hid (fun (V : World) (g : Nat) {T : TypeId} (h : V.heap[g]? = some (.cells #[.bool bp, .string mp, .bool false, .string kp, .bool bq, .string mq, .bool false, .string kq] T)) => valid2B hp hq yp yq V g h)
  have HKN := Lib.hid (fun V (hV : Env V) => rknown_any V hV)
  have HE := Lib.hid (fun V (h : Below w.heap.size w V) => hE.next h)
  have X := Lib.hid (((Sb.start w).new #[.int .i64 n0, .int .i64 e0, .int .u8 (u0 : Int), .int .u8 (v0 : Int)] 41).new #[.int .i64 n1, .int .i64 e1, .int .u8 (u1 : Int), .int .u8 (v1 : Int)] 41)
  have X := Lib.hid (X.out.pick [0, 1] [(w.heap.size, #[.int .i64 n0, .int .i64 e0, .int .u8 (u0 : Int), .int .u8 (v0 : Int)], 41), (w.heap.size + 1, #[.int .i64 n1, .int .i64 e1, .int .u8 (u1 : Int), .int .u8 (v1 : Int)], 41)] [] (by simp) (by decide) (by simp))
  clear ha hb hp hq za zb zp zq ya yb yp yq hE hsg h0 hne hn0 he0 hu0 hv0 hn1 he1 hu1 hv1
  go_enter Tryz.func6, Tryz.ntmps6
  go_upto_region 1 with fail
  go_cut [5, 6] (fun s5 s6 wx => ∃ g5 g6, s5 = .pointer (some ⟨g5, 0, none⟩) ∧ s6 = .pointer (some ⟨g6, 0, none⟩) ∧ Sb w [(g5, #[.bool ba, .string ma, .bool false, .string ka], 25), (g6, #[.bool bb, .string mb, .bool false, .string kb], 25)] [] wx)
  case first =>
    refine wp_region_any (by kernel_rfl) ?_
    have X := Lib.hid X.out.drew
    obtain ⟨W0, hV⟩ := wexi X.out
    rw [show ∀ v : World, { v with drawn := v.drawn + 1 } = v.drew from fun _ => rfl, ← hV]
    rw [← hV] at X
    clear hV
    refine rg_run (ef := [.val (.agg #[.int .i64 n0, .int .i64 e0, .int .u8 (u0 : Int), .int .u8 (v0 : Int)]), .val (.agg #[.bool ba, .string ma, .bool false, .string ka]), .val (.agg #[.int .i64 n1, .int .i64 e1, .int .u8 (u1 : Int), .int .u8 (v1 : Int)]), .val (.agg #[.bool bb, .string mb, .bool false, .string kb]), .new #[.bool false, .string ⟨#[]⟩, .bool false, .string ⟨#[]⟩] 25, .new #[.bool false, .string ⟨#[]⟩, .bool false, .string ⟨#[]⟩] 25]) (ds := [12, 13, 14, 15, 5, 6]) (by kernel_rfl) (stays_none (by simp)) (by decide) rfl (by intro d hd; simp at hd ⊢; omega) (fun i d o hd ho listed a w1 hR hdep K hK => ?_) 2 (fun a w1 hR => ?_)
    · have X := Lib.hid (X.out.next hR.bel)
      have HKt := Lib.hid hK
      have HDp := Lib.hid hdep
      have sl2 : a.tmps.getD 2 undef = .pointer (some ⟨w.heap.size, 0, none⟩) := hR.keep 2 (by decide)
      have sl3 : a.tmps.getD 3 undef = .pointer (some ⟨w.heap.size + 1, 0, none⟩) := hR.keep 3 (by decide)
      have HRg := Lib.hid hR
      clear hK hdep hR
      rcases i with _ | _ | _ | _ | _ | _ | i
      · cases hd
        cases ho
        obtain ⟨x00, x01, x02, x03⟩ := X.out.c4 (i := 0) rfl
        obtain ⟨x10, x11, x12, x13⟩ := X.out.c4 (i := 1) rfl
        go_simp
        exact HKt.out _ _ (Or.inl ⟨rfl, Below.refl _ _⟩)
      · cases hd
        cases ho
        have dd0 : a.tmps.getD 12 undef = .agg #[.int .i64 n0, .int .i64 e0, .int .u8 (u0 : Int), .int .u8 (v0 : Int)] := HRg.out.val 0 _ (HDp.out 0 (by decide)) rfl
        go_simp
        (go_at_call 27; refine (HA.out _).mono ?_; rintro e u ⟨rfl, hb9⟩)
        try go_wp2_with fail
        exact HKt.out _ _ (Or.inl ⟨rfl, hb9⟩)
      · cases hd
        cases ho
        obtain ⟨x00, x01, x02, x03⟩ := X.out.c4 (i := 0) rfl
        obtain ⟨x10, x11, x12, x13⟩ := X.out.c4 (i := 1) rfl
        go_simp
        exact HKt.out _ _ (Or.inl ⟨rfl, Below.refl _ _⟩)
      · cases hd
        cases ho
        have dd1 : a.tmps.getD 13 undef = .agg #[.bool ba, .string ma, .bool false, .string ka] := HRg.out.val 1 _ (HDp.out 1 (by decide)) rfl
        have dd2 : a.tmps.getD 14 undef = .agg #[.int .i64 n1, .int .i64 e1, .int .u8 (u1 : Int), .int .u8 (v1 : Int)] := HRg.out.val 2 _ (HDp.out 2 (by decide)) rfl
        go_simp
        (go_at_call 27; refine (HB.out _).mono ?_; rintro e u ⟨rfl, hb9⟩)
        try go_wp2_with fail
        exact HKt.out _ _ (Or.inl ⟨rfl, hb9⟩)
      · cases hd
        cases ho
        go_simp
        exact HKt.out _ _ (Or.inr (Or.inl ⟨_, _, rfl, rfl, rfl⟩))
      · cases hd
        cases ho
        go_simp
        exact HKt.out _ _ (Or.inr (Or.inl ⟨_, _, rfl, rfl, rfl⟩))
      · cases hd
    obtain ⟨g4, hg4, lg4, kg4⟩ := hR.new 4 _ _ (by rfl) rfl
    obtain ⟨g5, hg5, lg5, kg5⟩ := hR.new 5 _ _ (by rfl) rfl
    have vv0 : a.tmps.getD 12 undef = .agg #[.int .i64 n0, .int .i64 e0, .int .u8 (u0 : Int), .int .u8 (v0 : Int)] := hR.val 0 _ (by rfl) rfl
    have vv1 : a.tmps.getD 13 undef = .agg #[.bool ba, .string ma, .bool false, .string ka] := hR.val 1 _ (by rfl) rfl
    have vv2 : a.tmps.getD 14 undef = .agg #[.int .i64 n1, .int .i64 e1, .int .u8 (u1 : Int), .int .u8 (v1 : Int)] := hR.val 2 _ (by rfl) rfl
    have vv3 : a.tmps.getD 15 undef = .agg #[.bool bb, .string mb, .bool false, .string kb] := hR.val 3 _ (by rfl) rfl
    replace hg4 : a.tmps.getD 5 undef = .pointer (some ⟨g4, 0, none⟩) := hg4
    replace hg5 : a.tmps.getD 6 undef = .pointer (some ⟨g5, 0, none⟩) := hg5
    have hne : g4 ≠ g5 := fun e => hR.ne 4 5 _ _ _ _ g4 (by decide) (by rfl) (by rfl) rfl rfl hg4 (by rw [e]; exact hg5)
    have X := Lib.hid (X.out.add2 hR.bel lg4 kg4 lg5 kg5 hne)
    have ha := hR.act
    simp only [List.foldl_cons, List.foldl_nil, seti, set0, setS, vv0, vv1, vv2, vv3, hg4, hg5] at ha
    subst ha
    clear hR vv0 vv1 vv2 vv3 hg4 lg4 kg4 hg5 lg5 kg5 hne
    refine wpAny_of_late (S := fun _ => True) (L := []) _ _ _ _ ?_
    refine wpLate_one (i := 6) (o := ⟨none, _, _, _, _, _⟩) (by kernel_rfl) rfl (fun K hK => ?_)
    obtain ⟨x0, x1, x2, x3⟩ := X.out.c4 (i := 2) rfl
    obtain ⟨y0, y1, y2, y3⟩ := X.out.f4 (i := 2) rfl
    have X := Lib.hid (X.out.set4 (i := 2) rfl (.bool ba) (.string ma) (.bool false) (.string ka))
    go_simp
    refine hK.out _ _ (Or.inr fun _ => trivial) ?_
    clear hK K x0 x1 x2 x3 y0 y1 y2 y3
    obtain ⟨W6, hV⟩ := wexi X.out
    rw [← hV] at X ⊢
    clear hV
    try simp only [Act.put]
    refine wpLate_one (i := 7) (o := ⟨none, _, _, _, _, _⟩) (by kernel_rfl) rfl (fun K hK => ?_)
    obtain ⟨x0, x1, x2, x3⟩ := X.out.c4 (i := 3) rfl
    obtain ⟨y0, y1, y2, y3⟩ := X.out.f4 (i := 3) rfl
    have X := Lib.hid (X.out.set4 (i := 3) rfl (.bool bb) (.string mb) (.bool false) (.string kb))
    go_simp
    refine hK.out _ _ (Or.inr fun _ => trivial) ?_
    clear hK K x0 x1 x2 x3 y0 y1 y2 y3
    obtain ⟨W7, hV⟩ := wexi X.out
    rw [← hV] at X ⊢
    clear hV
    try simp only [Act.put]
    refine wpLate_done (by kernel_rfl) ?_ _
    go_wp2_with fail
    go_meet
    exact ⟨_, _, rfl, rfl, X.out.pick [2, 3] _ [] rfl (by decide) (by simp)⟩
  obtain ⟨g5, g6, rfl, rfl, hX⟩ := hcut
  have X := Lib.hid hX
  clear hX
  go_upto_region 2 with fail
  go_cut [7] (fun s7 wx => ∃ g7, s7 = .pointer (some ⟨g7, 0, none⟩) ∧ Sb w [(g5, #[.bool ba, .string ma, .bool false, .string ka], 25), (g6, #[.bool bb, .string mb, .bool false, .string kb], 25), (g7, #[.bool bp, .string mp, .bool false, .string kp], 25)] [] wx)
  case first =>
    obtain ⟨a0, a1, a2, a3⟩ := X.out.c4 (i := 0) rfl
    obtain ⟨c0, c1, c2, c3⟩ := X.out.c4 (i := 1) rfl
    go_wp2_with fail
    refine (HM.out _ (HE.out _ X.out.bel)).mono ?_
    rintro e u1 ⟨rfl, hb9⟩
    have X := Lib.hid (X.out.next hb9)
    clear hb9
    clear a0 a1 a2 a3 c0 c1 c2 c3
    go_wp2_with fail
    have X := Lib.hid (X.out.new #[.bool bp, .string mp, .bool false, .string kp] 25)
    go_meet
    exact ⟨_, rfl, X.out⟩
  obtain ⟨g7, rfl, hX⟩ := hcut
  have X := Lib.hid hX
  clear hX
  go_upto_region 3 with fail
  go_cut [8, 9] (fun s8 s9 wx => ∃ g8, s8 = .pointer (some ⟨g8, 0, none⟩) ∧ s9 = .int .i64 0 ∧ Sb w [(g5, #[.bool ba, .string ma, .bool false, .string ka], 25), (g6, #[.bool bb, .string mb, .bool false, .string kb], 25), (g7, #[.bool bp, .string mp, .bool false, .string kp], 25), (g8, #[.bool bq, .string mq, .bool false, .string kq], 25)] [] wx)
  case first =>
    obtain ⟨a0, a1, a2, a3⟩ := X.out.c4 (i := 0) rfl
    obtain ⟨c0, c1, c2, c3⟩ := X.out.c4 (i := 1) rfl
    go_wp2_with fail
    refine (HD.out _ (HE.out _ X.out.bel)).mono ?_
    rintro e u1 ⟨rfl, hb9⟩
    have X := Lib.hid (X.out.next hb9)
    clear hb9
    clear a0 a1 a2 a3 c0 c1 c2 c3
    go_wp2_with fail
    have X := Lib.hid (X.out.new #[.bool bq, .string mq, .bool false, .string kq] 25)
    go_meet
    exact ⟨_, rfl, rfl, X.out⟩
  obtain ⟨g8, rfl, rfl, hX⟩ := hcut
  have X := Lib.hid hX
  clear hX
  go_upto_region 4 with fail
  go_cut [47] (fun s47 wx => s47 = .bool false ∧ Sb w [(g5, #[.bool ba, .string ma, .bool false, .string ka], 25), (g6, #[.bool bb, .string mb, .bool false, .string kb], 25), (g7, #[.bool bp, .string mp, .bool false, .string kp], 25), (g8, #[.bool bq, .string mq, .bool false, .string kq], 25)] [] wx)
  case first =>
    refine wp_region_late (S := fun w' => (w'.cell? ⟨g5, 0, none⟩ = some (.bool ba) ∧ w'.cell? ⟨g5, 1, none⟩ = some (.string ma) ∧ w'.cell? ⟨g5, 2, none⟩ = some (.bool false) ∧ w'.cell? ⟨g5, 3, none⟩ = some (.string ka)) ∧ (w'.cell? ⟨g6, 0, none⟩ = some (.bool bb) ∧ w'.cell? ⟨g6, 1, none⟩ = some (.string mb) ∧ w'.cell? ⟨g6, 2, none⟩ = some (.bool false) ∧ w'.cell? ⟨g6, 3, none⟩ = some (.string kb)) ∧ (w'.cell? ⟨g7, 0, none⟩ = some (.bool bp) ∧ w'.cell? ⟨g7, 1, none⟩ = some (.string mp) ∧ w'.cell? ⟨g7, 2, none⟩ = some (.bool false) ∧ w'.cell? ⟨g7, 3, none⟩ = some (.string kp)) ∧ (w'.cell? ⟨g8, 0, none⟩ = some (.bool bq) ∧ w'.cell? ⟨g8, 1, none⟩ = some (.string mq) ∧ w'.cell? ⟨g8, 2, none⟩ = some (.bool false) ∧ w'.cell? ⟨g8, 3, none⟩ = some (.string kq))) (L := []) (by kernel_rfl) ?_
    have X := Lib.hid X.out.drew
    obtain ⟨V0, hV⟩ := wexi X.out
    rw [← hV] at X ⊢
    clear hV
    refine wpLate_one (i := 0) (o := ⟨some 25, _, _, _, _, _⟩) (by kernel_rfl) rfl (fun K hK => ?_)
    go_simp
    (go_at_call 14; refine (HKN.out _ (HE.out _ X.out.bel)).mono ?_; rintro e u1 ⟨rfl, hb9⟩; have X := Lib.hid (X.out.next hb9); clear hb9)
    try go_wp2_with fail
    refine hK.out _ _ (Or.inr (fun _ => ⟨X.out.c4 (i := 0) rfl, X.out.c4 (i := 1) rfl, X.out.c4 (i := 2) rfl, X.out.c4 (i := 3) rfl⟩)) ?_
    clear hK K
    try simp only [Act.put, seti, set0, setS]
    refine tk (i := 1) (oi := ⟨some 26, _, _, _, _, _⟩) (v := _) rfl (by kernel_rfl) (fun _ _ _ h => h) (⟨X.out.c4 (i := 0) rfl, X.out.c4 (i := 1) rfl, X.out.c4 (i := 2) rfl, X.out.c4 (i := 3) rfl⟩) (Or.inl ⟨by rfl, by intro w hSw; (try dsimp only at hSw); (first | (go_simp; done) | (go_simp; with_reducible rfl))⟩) ?_
    try simp only [Act.put, seti, set0, setS]
    refine tk (i := 2) (oi := ⟨some 27, _, _, _, _, _⟩) (v := _) rfl (by kernel_rfl) (fun _ _ _ h => h) (⟨X.out.c4 (i := 0) rfl, X.out.c4 (i := 1) rfl, X.out.c4 (i := 2) rfl, X.out.c4 (i := 3) rfl⟩) (Or.inl ⟨by rfl, by intro w hSw; (try dsimp only at hSw); (first | (go_simp; done) | (go_simp; with_reducible rfl))⟩) ?_
    try simp only [Act.put, seti, set0, setS]
    refine tk (i := 3) (oi := ⟨some 28, _, _, _, _, _⟩) (v := _) rfl (by kernel_rfl) (fun _ _ _ h => h) (⟨X.out.c4 (i := 0) rfl, X.out.c4 (i := 1) rfl, X.out.c4 (i := 2) rfl, X.out.c4 (i := 3) rfl⟩) (Or.inl ⟨by rfl, by intro w hSw; (try dsimp only at hSw); (first | (go_simp; done) | (go_simp; with_reducible rfl))⟩) ?_
    try simp only [Act.put, seti, set0, setS]
    refine tk (i := 4) (oi := ⟨some 29, _, _, _, _, _⟩) (v := _) rfl (by kernel_rfl) (fun _ _ _ h => h) (⟨X.out.c4 (i := 0) rfl, X.out.c4 (i := 1) rfl, X.out.c4 (i := 2) rfl, X.out.c4 (i := 3) rfl⟩) (Or.inl ⟨by rfl, by intro w hSw; (try dsimp only at hSw); (first | (go_simp; done) | (go_simp; with_reducible rfl))⟩) ?_
    try simp only [Act.put, seti, set0, setS]
    refine tk (i := 5) (oi := ⟨some 30, _, _, _, _, _⟩) (v := _) rfl (by kernel_rfl) (fun _ _ _ h => h) (⟨X.out.c4 (i := 0) rfl, X.out.c4 (i := 1) rfl, X.out.c4 (i := 2) rfl, X.out.c4 (i := 3) rfl⟩) (Or.inl ⟨by rfl, by intro w hSw; (try dsimp only at hSw); (first | (go_simp; done) | (go_simp; with_reducible rfl))⟩) ?_
    try simp only [Act.put, seti, set0, setS]
    refine wpLate_one (i := 6) (o := ⟨some 31, _, _, _, _, _⟩) (by kernel_rfl) rfl (fun K hK => ?_)
    go_simp
    (go_at_call 35; refine (H6.out _).mono ?_; rintro e u2 ⟨rfl, hb9⟩; have X := Lib.hid (X.out.next hb9); clear hb9)
    try go_wp2_with fail
    refine hK.out _ _ (Or.inr (fun _ => ⟨X.out.c4 (i := 0) rfl, X.out.c4 (i := 1) rfl, X.out.c4 (i := 2) rfl, X.out.c4 (i := 3) rfl⟩)) ?_
    clear hK K
    try simp only [Act.put, seti, set0, setS]
    refine tk (i := 7) (oi := ⟨some 32, _, _, _, _, _⟩) (v := _) rfl (by kernel_rfl) (fun _ _ _ h => h) (⟨X.out.c4 (i := 0) rfl, X.out.c4 (i := 1) rfl, X.out.c4 (i := 2) rfl, X.out.c4 (i := 3) rfl⟩) (Or.inl ⟨by rfl, by intro w hSw; (try dsimp only at hSw); (first | (go_simp; done) | (go_simp; with_reducible rfl))⟩) ?_
    try simp only [Act.put, seti, set0, setS]
    refine tk (i := 8) (oi := ⟨some 33, _, _, _, _, _⟩) (v := _) rfl (by kernel_rfl) (fun _ _ _ h => h) (⟨X.out.c4 (i := 0) rfl, X.out.c4 (i := 1) rfl, X.out.c4 (i := 2) rfl, X.out.c4 (i := 3) rfl⟩) (Or.inl ⟨by rfl, by intro w hSw; (try dsimp only at hSw); (first | (go_simp; done) | (go_simp; with_reducible rfl))⟩) ?_
    try simp only [Act.put, seti, set0, setS]
    refine tk (i := 9) (oi := ⟨some 34, _, _, _, _, _⟩) (v := _) rfl (by kernel_rfl) (fun _ _ _ h => h) (⟨X.out.c4 (i := 0) rfl, X.out.c4 (i := 1) rfl, X.out.c4 (i := 2) rfl, X.out.c4 (i := 3) rfl⟩) (Or.inl ⟨by rfl, by intro w hSw; (try dsimp only at hSw); (first | (go_simp; done) | (go_simp; with_reducible rfl))⟩) ?_
    try simp only [Act.put, seti, set0, setS]
    refine tk (i := 10) (oi := ⟨some 35, _, _, _, _, _⟩) (v := _) rfl (by kernel_rfl) (fun _ _ _ h => h) (⟨X.out.c4 (i := 0) rfl, X.out.c4 (i := 1) rfl, X.out.c4 (i := 2) rfl, X.out.c4 (i := 3) rfl⟩) (Or.inl ⟨by rfl, by intro w hSw; (try dsimp only at hSw); (first | (go_simp; done) | (go_simp; with_reducible rfl))⟩) ?_
    try simp only [Act.put, seti, set0, setS]
    refine tk (i := 11) (oi := ⟨some 36, _, _, _, _, _⟩) (v := _) rfl (by kernel_rfl) (fun _ _ _ h => h) (⟨X.out.c4 (i := 0) rfl, X.out.c4 (i := 1) rfl, X.out.c4 (i := 2) rfl, X.out.c4 (i := 3) rfl⟩) (Or.inl ⟨by rfl, by intro w hSw; (try dsimp only at hSw); (first | (go_simp; done) | (go_simp; with_reducible rfl))⟩) ?_
    try simp only [Act.put, seti, set0, setS]
    refine tk (i := 13) (oi := ⟨some 38, _, _, _, _, _⟩) (v := _) rfl (by kernel_rfl) (fun _ _ _ h => h) (⟨X.out.c4 (i := 0) rfl, X.out.c4 (i := 1) rfl, X.out.c4 (i := 2) rfl, X.out.c4 (i := 3) rfl⟩) (Or.inl ⟨by rfl, by intro w hSw; (try dsimp only at hSw); (first | (go_simp; done) | (go_simp; with_reducible rfl))⟩) ?_
    try simp only [Act.put, seti, set0, setS]
    refine wpLate_one (i := 12) (o := ⟨some 37, _, _, _, _, _⟩) (by kernel_rfl) rfl (fun K hK => ?_)
    go_simp
    (go_at_call 33; refine (H12.out _ (HE.out _ X.out.bel)).mono ?_; rintro e u3 ⟨rfl, hb9⟩; have X := Lib.hid (X.out.next hb9); clear hb9)
    try go_wp2_with fail
    refine hK.out _ _ (Or.inr (fun _ => ⟨X.out.c4 (i := 0) rfl, X.out.c4 (i := 1) rfl, X.out.c4 (i := 2) rfl, X.out.c4 (i := 3) rfl⟩)) ?_
    clear hK K
    try simp only [Act.put, seti, set0, setS]
    refine tk (i := 14) (oi := ⟨some 39, _, _, _, _, _⟩) (v := _) rfl (by kernel_rfl) (fun _ _ _ h => h) (⟨X.out.c4 (i := 0) rfl, X.out.c4 (i := 1) rfl, X.out.c4 (i := 2) rfl, X.out.c4 (i := 3) rfl⟩) (Or.inl ⟨by rfl, by intro w hSw; (try dsimp only at hSw); (first | (go_simp; done) | (go_simp; with_reducible rfl))⟩) ?_
    try simp only [Act.put, seti, set0, setS]
    refine tk (i := 15) (oi := ⟨some 40, _, _, _, _, _⟩) (v := _) rfl (by kernel_rfl) (fun _ _ _ h => h) (⟨X.out.c4 (i := 0) rfl, X.out.c4 (i := 1) rfl, X.out.c4 (i := 2) rfl, X.out.c4 (i := 3) rfl⟩) (Or.inl ⟨by rfl, by intro w hSw; (try dsimp only at hSw); (first | (go_simp; done) | (go_simp; with_reducible rfl))⟩) ?_
    try simp only [Act.put, seti, set0, setS]
    refine tk (i := 16) (oi := ⟨some 41, _, _, _, _, _⟩) (v := _) rfl (by kernel_rfl) (fun _ _ _ h => h) (⟨X.out.c4 (i := 0) rfl, X.out.c4 (i := 1) rfl, X.out.c4 (i := 2) rfl, X.out.c4 (i := 3) rfl⟩) (Or.inl ⟨by rfl, by intro w hSw; (try dsimp only at hSw); (first | (go_simp; done) | (go_simp; with_reducible rfl))⟩) ?_
    try simp only [Act.put, seti, set0, setS]
    refine tk (i := 17) (oi := ⟨some 42, _, _, _, _, _⟩) (v := _) rfl (by kernel_rfl) (fun _ _ _ h => h) (⟨X.out.c4 (i := 0) rfl, X.out.c4 (i := 1) rfl, X.out.c4 (i := 2) rfl, X.out.c4 (i := 3) rfl⟩) (Or.inl ⟨by rfl, by intro w hSw; (try dsimp only at hSw); (first | (go_simp; done) | (go_simp; with_reducible rfl))⟩) ?_
    try simp only [Act.put, seti, set0, setS]
    refine tk (i := 18) (oi := ⟨some 43, _, _, _, _, _⟩) (v := _) rfl (by kernel_rfl) (fun _ _ _ h => h) (⟨X.out.c4 (i := 0) rfl, X.out.c4 (i := 1) rfl, X.out.c4 (i := 2) rfl, X.out.c4 (i := 3) rfl⟩) (Or.inl ⟨by rfl, by intro w hSw; (try dsimp only at hSw); (first | (go_simp; done) | (go_simp; with_reducible rfl))⟩) ?_
    try simp only [Act.put, seti, set0, setS]
    refine wpLate_one (i := 19) (o := ⟨some 44, _, _, _, _, _⟩) (by kernel_rfl) rfl (fun K hK => ?_)
    go_simp
    have X := Lib.hid (X.out.new #[.bool bp, .string mp, .bool false, .string kp, .bool bq, .string mq, .bool false, .string kq] 25)
    refine hK.out _ _ (Or.inr (fun _ => ⟨X.out.c4 (i := 0) rfl, X.out.c4 (i := 1) rfl, X.out.c4 (i := 2) rfl, X.out.c4 (i := 3) rfl⟩)) ?_
    clear hK K
    try simp only [Act.put, seti, set0, setS]
    obtain ⟨V4, hV⟩ := wexi X.out
    rw [← hV] at X ⊢
    clear hV
    refine wpLate_one (i := 20) (o := ⟨some 45, _, _, _, _, _⟩) (by kernel_rfl) rfl (fun K hK => ?_)
    go_simp
    (go_at_call 32; refine (HV.out _ _ (X.out.at (i := 4) rfl)).mono ?_; rintro e u5 ⟨rfl, hb9⟩; have X := Lib.hid (X.out.next hb9); clear hb9)
    try go_wp2_with fail
    refine hK.out _ _ (Or.inr (fun _ => ⟨X.out.c4 (i := 0) rfl, X.out.c4 (i := 1) rfl, X.out.c4 (i := 2) rfl, X.out.c4 (i := 3) rfl⟩)) ?_
    clear hK K
    try simp only [Act.put, seti, set0, setS]
    refine tk (i := 21) (oi := ⟨some 46, _, _, _, _, _⟩) (v := _) rfl (by kernel_rfl) (fun _ _ _ h => h) (⟨X.out.c4 (i := 0) rfl, X.out.c4 (i := 1) rfl, X.out.c4 (i := 2) rfl, X.out.c4 (i := 3) rfl⟩) (Or.inl ⟨by rfl, by intro w hSw; (try dsimp only at hSw); (first | (go_simp; done) | (go_simp; with_reducible rfl))⟩) ?_
    try simp only [Act.put, seti, set0, setS]
    refine tk (i := 22) (oi := ⟨some 47, _, _, _, _, _⟩) (v := _) rfl (by kernel_rfl) (fun _ _ _ h => h) (⟨X.out.c4 (i := 0) rfl, X.out.c4 (i := 1) rfl, X.out.c4 (i := 2) rfl, X.out.c4 (i := 3) rfl⟩) (Or.inl ⟨by rfl, by intro w hSw; (try dsimp only at hSw); (first | (go_simp; done) | (go_simp; with_reducible rfl))⟩) ?_
    try simp only [Act.put, seti, set0, setS]
    refine wpLate_done (by kernel_rfl) ?_ _
    go_wp2_with fail
    go_meet
    exact ⟨rfl, X.out.pick [0, 1, 2, 3] _ [] rfl (by decide) (by simp)⟩
  obtain ⟨rfl, hX⟩ := hcut
  have X := Lib.hid hX
  clear hX
  obtain ⟨c0, c1, c2, c3⟩ := X.out.c4 (i := 1) rfl
  go_wp2_with fail
  refine (HSG.out _).mono ?_
  rintro e u1 ⟨rfl, hb9⟩
  have X := Lib.hid (X.out.next hb9)
  clear hb9
  clear c0 c1 c2 c3
  go_upto_region 8 with fail
  go_cut [10, 11] (fun s10 s11 wx => ∃ g10, s10 = .pointer (some ⟨g10, 0, none⟩) ∧ s11 = .int .i64 0 ∧ Sb w [(g5, #[.bool ba, .string ma, .bool false, .string ka], 25), (g6, #[.bool bb, .string mb, .bool false, .string kb], 25), (g7, #[.bool bp, .string mp, .bool false, .string kp], 25), (g8, #[.bool bq, .string mq, .bool false, .string kq], 25), (g10, #[.bool ba, .string ma, .bool false, .string ka], 25)] [] wx)
  case first =>
    obtain ⟨a0, a1, a2, a3⟩ := X.out.c4 (i := 2) rfl
    obtain ⟨c0, c1, c2, c3⟩ := X.out.c4 (i := 1) rfl
    go_wp2_with fail
    refine (HDb.out _ (HE.out _ X.out.bel)).mono ?_
    rintro e u1 ⟨rfl, hb9⟩
    have X := Lib.hid (X.out.next hb9)
    clear hb9
    clear a0 a1 a2 a3 c0 c1 c2 c3
    go_wp2_with fail
    have X := Lib.hid (X.out.new #[.bool ba, .string ma, .bool false, .string ka] 25)
    go_meet
    exact ⟨_, rfl, rfl, X.out⟩
  obtain ⟨g10, rfl, rfl, hX⟩ := hcut
  have X := Lib.hid hX
  clear hX
  go_upto_region 9 with fail
  refine wp_region_late (S := fun w' => (w'.cell? ⟨g5, 0, none⟩ = some (.bool ba) ∧ w'.cell? ⟨g5, 1, none⟩ = some (.string ma) ∧ w'.cell? ⟨g5, 2, none⟩ = some (.bool false) ∧ w'.cell? ⟨g5, 3, none⟩ = some (.string ka)) ∧ (w'.cell? ⟨g6, 0, none⟩ = some (.bool bb) ∧ w'.cell? ⟨g6, 1, none⟩ = some (.string mb) ∧ w'.cell? ⟨g6, 2, none⟩ = some (.bool false) ∧ w'.cell? ⟨g6, 3, none⟩ = some (.string kb)) ∧ (w'.cell? ⟨g7, 0, none⟩ = some (.bool bp) ∧ w'.cell? ⟨g7, 1, none⟩ = some (.string mp) ∧ w'.cell? ⟨g7, 2, none⟩ = some (.bool false) ∧ w'.cell? ⟨g7, 3, none⟩ = some (.string kp)) ∧ (w'.cell? ⟨g8, 0, none⟩ = some (.bool bq) ∧ w'.cell? ⟨g8, 1, none⟩ = some (.string mq) ∧ w'.cell? ⟨g8, 2, none⟩ = some (.bool false) ∧ w'.cell? ⟨g8, 3, none⟩ = some (.string kq)) ∧ (w'.cell? ⟨g10, 0, none⟩ = some (.bool ba) ∧ w'.cell? ⟨g10, 1, none⟩ = some (.string ma) ∧ w'.cell? ⟨g10, 2, none⟩ = some (.bool false) ∧ w'.cell? ⟨g10, 3, none⟩ = some (.string ka))) (L := []) (by kernel_rfl) ?_
  have X := Lib.hid X.out.drew
  obtain ⟨V0, hV⟩ := wexi X.out
  rw [← hV] at X ⊢
  clear hV
  refine tk (i := 0) (oi := ⟨some 64, _, _, _, _, _⟩) (v := _) rfl (by kernel_rfl) (fun _ _ _ h => h) (⟨X.out.c4 (i := 0) rfl, X.out.c4 (i := 1) rfl, X.out.c4 (i := 2) rfl, X.out.c4 (i := 3) rfl, X.out.c4 (i := 4) rfl⟩) (Or.inl ⟨by rfl, by intro w hSw; (try dsimp only at hSw); (first | (go_simp; done) | (go_simp; with_reducible rfl))⟩) ?_
  try simp only [Act.put, seti, set0, setS]
  refine tk (i := 1) (oi := ⟨some 65, _, _, _, _, _⟩) (v := _) rfl (by kernel_rfl) (fun _ _ _ h => h) (⟨X.out.c4 (i := 0) rfl, X.out.c4 (i := 1) rfl, X.out.c4 (i := 2) rfl, X.out.c4 (i := 3) rfl, X.out.c4 (i := 4) rfl⟩) (Or.inl ⟨by rfl, by intro w hSw; (try dsimp only at hSw); (first | (go_simp; done) | (go_simp; with_reducible rfl))⟩) ?_
  try simp only [Act.put, seti, set0, setS]
  refine tk (i := 2) (oi := ⟨some 66, _, _, _, _, _⟩) (v := _) rfl (by kernel_rfl) (fun _ _ _ h => h) (⟨X.out.c4 (i := 0) rfl, X.out.c4 (i := 1) rfl, X.out.c4 (i := 2) rfl, X.out.c4 (i := 3) rfl, X.out.c4 (i := 4) rfl⟩) (Or.inl ⟨by rfl, by intro w hSw; (try dsimp only at hSw); (first | (go_simp; done) | (go_simp; with_reducible rfl))⟩) ?_
  try simp only [Act.put, seti, set0, setS]
  refine tk (i := 3) (oi := ⟨some 67, _, _, _, _, _⟩) (v := _) rfl (by kernel_rfl) (fun _ _ _ h => h) (⟨X.out.c4 (i := 0) rfl, X.out.c4 (i := 1) rfl, X.out.c4 (i := 2) rfl, X.out.c4 (i := 3) rfl, X.out.c4 (i := 4) rfl⟩) (Or.inl ⟨by rfl, by intro w hSw; (try dsimp only at hSw); (first | (go_simp; done) | (go_simp; with_reducible rfl))⟩) ?_
  try simp only [Act.put, seti, set0, setS]
  refine tk (i := 4) (oi := ⟨some 68, _, _, _, _, _⟩) (v := _) rfl (by kernel_rfl) (fun _ _ _ h => h) (⟨X.out.c4 (i := 0) rfl, X.out.c4 (i := 1) rfl, X.out.c4 (i := 2) rfl, X.out.c4 (i := 3) rfl, X.out.c4 (i := 4) rfl⟩) (Or.inl ⟨by rfl, by intro w hSw; (try dsimp only at hSw); (first | (go_simp; done) | (go_simp; with_reducible rfl))⟩) ?_
  try simp only [Act.put, seti, set0, setS]
  refine tk (i := 5) (oi := ⟨some 69, _, _, _, _, _⟩) (v := _) rfl (by kernel_rfl) (fun _ _ _ h => h) (⟨X.out.c4 (i := 0) rfl, X.out.c4 (i := 1) rfl, X.out.c4 (i := 2) rfl, X.out.c4 (i := 3) rfl, X.out.c4 (i := 4) rfl⟩) (Or.inl ⟨by rfl, by intro w hSw; (try dsimp only at hSw); (first | (go_simp; done) | (go_simp; with_reducible rfl))⟩) ?_
  try simp only [Act.put, seti, set0, setS]
  refine wpLate_one (i := 6) (o := ⟨some 70, _, _, _, _, _⟩) (by kernel_rfl) rfl (fun K hK => ?_)
  go_simp
  (go_at_call 37; refine (HDr.out _).mono ?_; rintro e u1 ⟨rfl, hb9⟩; have X := Lib.hid (X.out.next hb9); clear hb9)
  try go_wp2_with fail
  refine hK.out _ _ (Or.inr (fun _ => ⟨X.out.c4 (i := 0) rfl, X.out.c4 (i := 1) rfl, X.out.c4 (i := 2) rfl, X.out.c4 (i := 3) rfl, X.out.c4 (i := 4) rfl⟩)) ?_
  clear hK K
  try simp only [Act.put, seti, set0, setS]
  refine tk (i := 7) (oi := ⟨some 71, _, _, _, _, _⟩) (v := _) rfl (by kernel_rfl) (fun _ _ _ h => h) (⟨X.out.c4 (i := 0) rfl, X.out.c4 (i := 1) rfl, X.out.c4 (i := 2) rfl, X.out.c4 (i := 3) rfl, X.out.c4 (i := 4) rfl⟩) (Or.inl ⟨by rfl, by intro w hSw; (try dsimp only at hSw); (first | (go_simp; done) | (go_simp; with_reducible rfl))⟩) ?_
  try simp only [Act.put, seti, set0, setS]
  refine tk (i := 8) (oi := ⟨some 72, _, _, _, _, _⟩) (v := _) rfl (by kernel_rfl) (fun _ _ _ h => h) (⟨X.out.c4 (i := 0) rfl, X.out.c4 (i := 1) rfl, X.out.c4 (i := 2) rfl, X.out.c4 (i := 3) rfl, X.out.c4 (i := 4) rfl⟩) (Or.inl ⟨by rfl, by intro w hSw; (try dsimp only at hSw); (first | (go_simp; done) | (go_simp; with_reducible rfl))⟩) ?_
  try simp only [Act.put, seti, set0, setS]
  refine tk (i := 9) (oi := ⟨some 73, _, _, _, _, _⟩) (v := _) rfl (by kernel_rfl) (fun _ _ _ h => h) (⟨X.out.c4 (i := 0) rfl, X.out.c4 (i := 1) rfl, X.out.c4 (i := 2) rfl, X.out.c4 (i := 3) rfl, X.out.c4 (i := 4) rfl⟩) (Or.inl ⟨by rfl, by intro w hSw; (try dsimp only at hSw); (first | (go_simp; done) | (go_simp; with_reducible rfl))⟩) ?_
  try simp only [Act.put, seti, set0, setS]
  refine tk (i := 10) (oi := ⟨some 74, _, _, _, _, _⟩) (v := _) rfl (by kernel_rfl) (fun _ _ _ h => h) (⟨X.out.c4 (i := 0) rfl, X.out.c4 (i := 1) rfl, X.out.c4 (i := 2) rfl, X.out.c4 (i := 3) rfl, X.out.c4 (i := 4) rfl⟩) (Or.inl ⟨by rfl, by intro w hSw; (try dsimp only at hSw); (first | (go_simp; done) | (go_simp; with_reducible rfl))⟩) ?_
  try simp only [Act.put, seti, set0, setS]
  refine tk (i := 11) (oi := ⟨some 75, _, _, _, _, _⟩) (v := _) rfl (by kernel_rfl) (fun _ _ _ h => h) (⟨X.out.c4 (i := 0) rfl, X.out.c4 (i := 1) rfl, X.out.c4 (i := 2) rfl, X.out.c4 (i := 3) rfl, X.out.c4 (i := 4) rfl⟩) (Or.inl ⟨by rfl, by intro w hSw; (try dsimp only at hSw); (first | (go_simp; done) | (go_simp; with_reducible rfl))⟩) ?_
  try simp only [Act.put, seti, set0, setS]
  refine tk (i := 12) (oi := ⟨some 76, _, _, _, _, _⟩) (v := _) rfl (by kernel_rfl) (fun _ _ _ h => h) (⟨X.out.c4 (i := 0) rfl, X.out.c4 (i := 1) rfl, X.out.c4 (i := 2) rfl, X.out.c4 (i := 3) rfl, X.out.c4 (i := 4) rfl⟩) (Or.inl ⟨by rfl, by intro w hSw; (try dsimp only at hSw); (first | (go_simp; done) | (go_simp; with_reducible rfl))⟩) ?_
  try simp only [Act.put, seti, set0, setS]
  refine tk (i := 13) (oi := ⟨some 77, _, _, _, _, _⟩) (v := _) rfl (by kernel_rfl) (fun _ _ _ h => h) (⟨X.out.c4 (i := 0) rfl, X.out.c4 (i := 1) rfl, X.out.c4 (i := 2) rfl, X.out.c4 (i := 3) rfl, X.out.c4 (i := 4) rfl⟩) (Or.inl ⟨by rfl, by intro w hSw; (try dsimp only at hSw); (first | (go_simp; done) | (go_simp; with_reducible rfl))⟩) ?_
  try simp only [Act.put, seti, set0, setS]
  refine tk (i := 14) (oi := ⟨some 78, _, _, _, _, _⟩) (v := _) rfl (by kernel_rfl) (fun _ _ _ h => h) (⟨X.out.c4 (i := 0) rfl, X.out.c4 (i := 1) rfl, X.out.c4 (i := 2) rfl, X.out.c4 (i := 3) rfl, X.out.c4 (i := 4) rfl⟩) (Or.inl ⟨by rfl, by intro w hSw; (try dsimp only at hSw); (first | (go_simp; done) | (go_simp; with_reducible rfl))⟩) ?_
  try simp only [Act.put, seti, set0, setS]
  refine tk (i := 15) (oi := ⟨some 79, _, _, _, _, _⟩) (v := _) rfl (by kernel_rfl) (fun _ _ _ h => h) (⟨X.out.c4 (i := 0) rfl, X.out.c4 (i := 1) rfl, X.out.c4 (i := 2) rfl, X.out.c4 (i := 3) rfl, X.out.c4 (i := 4) rfl⟩) (Or.inl ⟨by rfl, by intro w hSw; (try dsimp only at hSw); (first | (go_simp; done) | (go_simp; with_reducible rfl))⟩) ?_
  try simp only [Act.put, seti, set0, setS]
  refine tk (i := 16) (oi := ⟨some 80, _, _, _, _, _⟩) (v := _) rfl (by kernel_rfl) (fun _ _ _ h => h) (⟨X.out.c4 (i := 0) rfl, X.out.c4 (i := 1) rfl, X.out.c4 (i := 2) rfl, X.out.c4 (i := 3) rfl, X.out.c4 (i := 4) rfl⟩) (Or.inl ⟨by rfl, by intro w hSw; (try dsimp only at hSw); (first | (go_simp; done) | (go_simp; with_reducible rfl))⟩) ?_
  try simp only [Act.put, seti, set0, setS]
  refine tk (i := 17) (oi := ⟨some 81, _, _, _, _, _⟩) (v := _) rfl (by kernel_rfl) (fun _ _ _ h => h) (⟨X.out.c4 (i := 0) rfl, X.out.c4 (i := 1) rfl, X.out.c4 (i := 2) rfl, X.out.c4 (i := 3) rfl, X.out.c4 (i := 4) rfl⟩) (Or.inl ⟨by rfl, by intro w hSw; (try dsimp only at hSw); (first | (go_simp; done) | (go_simp; with_reducible rfl))⟩) ?_
  try simp only [Act.put, seti, set0, setS]
  refine tk (i := 18) (oi := ⟨some 82, _, _, _, _, _⟩) (v := _) rfl (by kernel_rfl) (fun _ _ _ h => h) (⟨X.out.c4 (i := 0) rfl, X.out.c4 (i := 1) rfl, X.out.c4 (i := 2) rfl, X.out.c4 (i := 3) rfl, X.out.c4 (i := 4) rfl⟩) (Or.inl ⟨by rfl, by intro w hSw; (try dsimp only at hSw); (first | (go_simp; done) | (go_simp; with_reducible rfl))⟩) ?_
  try simp only [Act.put, seti, set0, setS]
  refine tk (i := 19) (oi := ⟨some 83, _, _, _, _, _⟩) (v := _) rfl (by kernel_rfl) (fun _ _ _ h => h) (⟨X.out.c4 (i := 0) rfl, X.out.c4 (i := 1) rfl, X.out.c4 (i := 2) rfl, X.out.c4 (i := 3) rfl, X.out.c4 (i := 4) rfl⟩) (Or.inl ⟨by rfl, by intro w hSw; (try dsimp only at hSw); (first | (go_simp; done) | (go_simp; with_reducible rfl))⟩) ?_
  try simp only [Act.put, seti, set0, setS]
  refine tk (i := 20) (oi := ⟨some 84, _, _, _, _, _⟩) (v := _) rfl (by kernel_rfl) (fun _ _ _ h => h) (⟨X.out.c4 (i := 0) rfl, X.out.c4 (i := 1) rfl, X.out.c4 (i := 2) rfl, X.out.c4 (i := 3) rfl, X.out.c4 (i := 4) rfl⟩) (Or.inl ⟨by rfl, by intro w hSw; (try dsimp only at hSw); (first | (go_simp; done) | (go_simp; with_reducible rfl))⟩) ?_
  try simp only [Act.put, seti, set0, setS]
  refine tk (i := 22) (oi := ⟨some 86, _, _, _, _, _⟩) (v := _) rfl (by kernel_rfl) (fun _ _ _ h => h) (⟨X.out.c4 (i := 0) rfl, X.out.c4 (i := 1) rfl, X.out.c4 (i := 2) rfl, X.out.c4 (i := 3) rfl, X.out.c4 (i := 4) rfl⟩) (Or.inl ⟨by rfl, by intro w hSw; (try dsimp only at hSw); (first | (go_simp; done) | (go_simp; with_reducible rfl))⟩) ?_
  try simp only [Act.put, seti, set0, setS]
  refine wpLate_one (i := 21) (o := ⟨some 85, _, _, _, _, _⟩) (by kernel_rfl) rfl (fun K hK => ?_)
  go_simp
  (go_at_call 33; refine (HMq.out _ (HE.out _ X.out.bel)).mono ?_; rintro e u2 ⟨rfl, hb9⟩; have X := Lib.hid (X.out.next hb9); clear hb9)
  try go_wp2_with fail
  refine hK.out _ _ (Or.inr (fun _ => ⟨X.out.c4 (i := 0) rfl, X.out.c4 (i := 1) rfl, X.out.c4 (i := 2) rfl, X.out.c4 (i := 3) rfl, X.out.c4 (i := 4) rfl⟩)) ?_
  clear hK K
  try simp only [Act.put, seti, set0, setS]
  refine tk (i := 23) (oi := ⟨some 87, _, _, _, _, _⟩) (v := _) rfl (by kernel_rfl) (fun _ _ _ h => h) (⟨X.out.c4 (i := 0) rfl, X.out.c4 (i := 1) rfl, X.out.c4 (i := 2) rfl, X.out.c4 (i := 3) rfl, X.out.c4 (i := 4) rfl⟩) (Or.inl ⟨by rfl, by intro w hSw; (try dsimp only at hSw); (first | (go_simp; done) | (go_simp; with_reducible rfl))⟩) ?_
  try simp only [Act.put, seti, set0, setS]
  refine tk (i := 24) (oi := ⟨some 88, _, _, _, _, _⟩) (v := _) rfl (by kernel_rfl) (fun _ _ _ h => h) (⟨X.out.c4 (i := 0) rfl, X.out.c4 (i := 1) rfl, X.out.c4 (i := 2) rfl, X.out.c4 (i := 3) rfl, X.out.c4 (i := 4) rfl⟩) (Or.inl ⟨by rfl, by intro w hSw; (try dsimp only at hSw); (first | (go_simp; done) | (go_simp; with_reducible rfl))⟩) ?_
  try simp only [Act.put, seti, set0, setS]
  refine tk (i := 25) (oi := ⟨some 4, _, _, _, _, _⟩) (v := _) rfl (by kernel_rfl) (fun _ _ _ h => h) (⟨X.out.c4 (i := 0) rfl, X.out.c4 (i := 1) rfl, X.out.c4 (i := 2) rfl, X.out.c4 (i := 3) rfl, X.out.c4 (i := 4) rfl⟩) (Or.inl ⟨by rfl, by intro w hSw; (try dsimp only at hSw); (first | (go_simp; done) | (go_simp; with_reducible rfl))⟩) ?_
  try simp only [Act.put, seti, set0, setS]
  refine wpLate_done (by kernel_rfl) ?_ _
  go_wp2
  go_ret
  exact ⟨rfl, X.out.bel⟩

set_option maxHeartbeats 32000000 in
set_option maxRecDepth 100000 in
theorem rmul_no (n0 e0 : Int) (u0 v0 : Nat) (hn0 : -9223372036854775808 ≤ n0 ∧ n0 ≤ 9223372036854775807) (he0 : -9223372036854775808 ≤ e0 ∧ e0 ≤ 9223372036854775807) (hu0 : u0 < 256) (hv0 : v0 < 256) (n1 e1 : Int) (u1 v1 : Nat) (hn1 : -9223372036854775808 ≤ n1 ∧ n1 ≤ 9223372036854775807) (he1 : -9223372036854775808 ≤ e1 ∧ e1 ≤ 9223372036854775807) (hu1 : u1 < 256) (hv1 : v1 < 256) (h0 : (fracQ n1 e1 u1 v1).num = 0) (w : World) (hE : Env w) :
    Calls Tryz.prog 6 #[.agg #[.int .i64 n0, .int .i64 e0, .int .u8 (u0 : Int), .int .u8 (v0 : Int)], .agg #[.int .i64 n1, .int .i64 e1, .int .u8 (u1 : Int), .int .u8 (v1 : Int)]] w (RetB w (.bool true)) := by
  obtain ⟨ba, ma, ka, ha⟩ := Rq.some_ (fracQ n0 e0 u0 v0)
  have HA := Lib.hid (fun V => rat_det n0 e0 u0 v0 ha hn0.1 hn0.2 he0.1 he0.2 hu0 hv0 V)
  have za : Sz 16 (fracQ n0 e0 u0 v0) := frac_small n0 e0 u0 v0 hn0.1 hn0.2 he0.1 he0.2
  generalize fracQ n0 e0 u0 v0 = qa at *
  obtain ⟨bb, mb, kb, hb⟩ := Rq.some_ (fracQ n1 e1 u1 v1)
  have HB := Lib.hid (fun V => rat_det n1 e1 u1 v1 hb hn1.1 hn1.2 he1.1 he1.2 hu1 hv1 V)
  have zb : Sz 16 (fracQ n1 e1 u1 v1) := frac_small n1 e1 u1 v1 hn1.1 hn1.2 he1.1 he1.2
  generalize fracQ n1 e1 u1 v1 = qb at *
  obtain ⟨bp, mp, kp, hp⟩ := Rq.some_ (qa * qb)
  have zp := za.mul zb
  have hq : Rq (0 : Rat) false ⟨#[]⟩ ⟨#[]⟩ := rq_zero0
  have zq : Sz 1 (0 : Rat) := sz_zero0
  have ya := za.m ha (by omega)
  have yb := zb.m hb (by omega)
  have yp := zp.m hp (by omega)
  have yq := zq.m hq (by omega)
  have HM := Lib.hid (fun V (hV : Env V) => ratMul_f ha hb hp ya.1 yb.1 ya.2 yb.2 V hV)
  have H6 := Lib.hid (fun V => rMul_f ha hb hp ya.1 yb.1 ya.2 yb.2 V)
  have H12 := Lib.hid (fun V (hV : Env V) => ratMul_f hb ha (by rw [Rat.mul_comm]; exact hp) yb.1 ya.1 yb.2 ya.2 V hV)
  have HD := Lib.hid (fun V (hV : Env V) => ratDiv_0 (p := qa) (b1 := ba) (m1 := ma) (k1 := ka) hb h0 V)
  have hsg := fun V => rSign_f hb V
  rw [h0] at hsg
  have HSG := Lib.hid hsg
  have HV := Lib.hid (fun (V : World) (g : Nat) {T : TypeId} (h : V.heap[g]? = some (.cells #[.bool bp, .string mp, .bool false, .string kp, .bool false, .string ⟨#[]⟩, .bool false, .string ⟨#[]⟩] T)) => valid2B hp hq yp yq V g h)
  have HKN := Lib.hid (fun V (hV : Env V) => rknown_any V hV)
  have HE := Lib.hid (fun V (h : Below w.heap.size w V) => hE.next h)
  have X := Lib.hid (((Sb.start w).new #[.int .i64 n0, .int .i64 e0, .int .u8 (u0 : Int), .int .u8 (v0 : Int)] 41).new #[.int .i64 n1, .int .i64 e1, .int .u8 (u1 : Int), .int .u8 (v1 : Int)] 41)
  have X := Lib.hid (X.out.pick [0, 1] [(w.heap.size, #[.int .i64 n0, .int .i64 e0, .int .u8 (u0 : Int), .int .u8 (v0 : Int)], 41), (w.heap.size + 1, #[.int .i64 n1, .int .i64 e1, .int .u8 (u1 : Int), .int .u8 (v1 : Int)], 41)] [] (by simp) (by decide) (by simp))
  clear ha hb hp hq za zb zp zq ya yb yp yq hE hsg h0 hn0 he0 hu0 hv0 hn1 he1 hu1 hv1
  go_enter Tryz.func6, Tryz.ntmps6
  go_upto_region 1 with fail
  go_cut [5, 6] (fun s5 s6 wx => ∃ g5 g6, s5 = .pointer (some ⟨g5, 0, none⟩) ∧ s6 = .pointer (some ⟨g6, 0, none⟩) ∧ Sb w [(g5, #[.bool ba, .string ma, .bool false, .string ka], 25), (g6, #[.bool bb, .string mb, .bool false, .string kb], 25)] [] wx)
  case first =>
    refine wp_region_any (by kernel_rfl) ?_
    have X := Lib.hid X.out.drew
    obtain ⟨W0, hV⟩ := wexi X.out
    rw [show ∀ v : World, { v with drawn := v.drawn + 1 } = v.drew from fun _ => rfl, ← hV]
    rw [← hV] at X
    clear hV
    refine rg_run (ef := [.val (.agg #[.int .i64 n0, .int .i64 e0, .int .u8 (u0 : Int), .int .u8 (v0 : Int)]), .val (.agg #[.bool ba, .string ma, .bool false, .string ka]), .val (.agg #[.int .i64 n1, .int .i64 e1, .int .u8 (u1 : Int), .int .u8 (v1 : Int)]), .val (.agg #[.bool bb, .string mb, .bool false, .string kb]), .new #[.bool false, .string ⟨#[]⟩, .bool false, .string ⟨#[]⟩] 25, .new #[.bool false, .string ⟨#[]⟩, .bool false, .string ⟨#[]⟩] 25]) (ds := [12, 13, 14, 15, 5, 6]) (by kernel_rfl) (stays_none (by simp)) (by decide) rfl (by intro d hd; simp at hd ⊢; omega) (fun i d o hd ho listed a w1 hR hdep K hK => ?_) 2 (fun a w1 hR => ?_)
    · have X := Lib.hid (X.out.next hR.bel)
      have HKt := Lib.hid hK
      have HDp := Lib.hid hdep
      have sl2 : a.tmps.getD 2 undef = .pointer (some ⟨w.heap.size, 0, none⟩) := hR.keep 2 (by decide)
      have sl3 : a.tmps.getD 3 undef = .pointer (some ⟨w.heap.size + 1, 0, none⟩) := hR.keep 3 (by decide)
      have HRg := Lib.hid hR
      clear hK hdep hR
      rcases i with _ | _ | _ | _ | _ | _ | i
      · cases hd
        cases ho
        obtain ⟨x00, x01, x02, x03⟩ := X.out.c4 (i := 0) rfl
        obtain ⟨x10, x11, x12, x13⟩ := X.out.c4 (i := 1) rfl
        go_simp
        exact HKt.out _ _ (Or.inl ⟨rfl, Below.refl _ _⟩)
      · cases hd
        cases ho
        have dd0 : a.tmps.getD 12 undef = .agg #[.int .i64 n0, .int .i64 e0, .int .u8 (u0 : Int), .int .u8 (v0 : Int)] := HRg.out.val 0 _ (HDp.out 0 (by decide)) rfl
        go_simp
        (go_at_call 27; refine (HA.out _).mono ?_; rintro e u ⟨rfl, hb9⟩)
        try go_wp2_with fail
        exact HKt.out _ _ (Or.inl ⟨rfl, hb9⟩)
      · cases hd
        cases ho
        obtain ⟨x00, x01, x02, x03⟩ := X.out.c4 (i := 0) rfl
        obtain ⟨x10, x11, x12, x13⟩ := X.out.c4 (i := 1) rfl
        go_simp
        exact HKt.out _ _ (Or.inl ⟨rfl, Below.refl _ _⟩)
      · cases hd
        cases ho
        have dd1 : a.tmps.getD 13 undef = .agg #[.bool ba, .string ma, .bool false, .string ka] := HRg.out.val 1 _ (HDp.out 1 (by decide)) rfl
        have dd2 : a.tmps.getD 14 undef = .agg #[.int .i64 n1, .int .i64 e1, .int .u8 (u1 : Int), .int .u8 (v1 : Int)] := HRg.out.val 2 _ (HDp.out 2 (by decide)) rfl
        go_simp
        (go_at_call 27; refine (HB.out _).mono ?_; rintro e u ⟨rfl, hb9⟩)
        try go_wp2_with fail
        exact HKt.out _ _ (Or.inl ⟨rfl, hb9⟩)
      · cases hd
        cases ho
        go_simp
        exact HKt.out _ _ (Or.inr (Or.inl ⟨_, _, rfl, rfl, rfl⟩))
      · cases hd
        cases ho
        go_simp
        exact HKt.out _ _ (Or.inr (Or.inl ⟨_, _, rfl, rfl, rfl⟩))
      · cases hd
    obtain ⟨g4, hg4, lg4, kg4⟩ := hR.new 4 _ _ (by rfl) rfl
    obtain ⟨g5, hg5, lg5, kg5⟩ := hR.new 5 _ _ (by rfl) rfl
    have vv0 : a.tmps.getD 12 undef = .agg #[.int .i64 n0, .int .i64 e0, .int .u8 (u0 : Int), .int .u8 (v0 : Int)] := hR.val 0 _ (by rfl) rfl
    have vv1 : a.tmps.getD 13 undef = .agg #[.bool ba, .string ma, .bool false, .string ka] := hR.val 1 _ (by rfl) rfl
    have vv2 : a.tmps.getD 14 undef = .agg #[.int .i64 n1, .int .i64 e1, .int .u8 (u1 : Int), .int .u8 (v1 : Int)] := hR.val 2 _ (by rfl) rfl
    have vv3 : a.tmps.getD 15 undef = .agg #[.bool bb, .string mb, .bool false, .string kb] := hR.val 3 _ (by rfl) rfl
    replace hg4 : a.tmps.getD 5 undef = .pointer (some ⟨g4, 0, none⟩) := hg4
    replace hg5 : a.tmps.getD 6 undef = .pointer (some ⟨g5, 0, none⟩) := hg5
    have hne : g4 ≠ g5 := fun e => hR.ne 4 5 _ _ _ _ g4 (by decide) (by rfl) (by rfl) rfl rfl hg4 (by rw [e]; exact hg5)
    have X := Lib.hid (X.out.add2 hR.bel lg4 kg4 lg5 kg5 hne)
    have ha := hR.act
    simp only [List.foldl_cons, List.foldl_nil, seti, set0, setS, vv0, vv1, vv2, vv3, hg4, hg5] at ha
    subst ha
    clear hR vv0 vv1 vv2 vv3 hg4 lg4 kg4 hg5 lg5 kg5 hne
    refine wpAny_of_late (S := fun _ => True) (L := []) _ _ _ _ ?_
    refine wpLate_one (i := 6) (o := ⟨none, _, _, _, _, _⟩) (by kernel_rfl) rfl (fun K hK => ?_)
    obtain ⟨x0, x1, x2, x3⟩ := X.out.c4 (i := 2) rfl
    obtain ⟨y0, y1, y2, y3⟩ := X.out.f4 (i := 2) rfl
    have X := Lib.hid (X.out.set4 (i := 2) rfl (.bool ba) (.string ma) (.bool false) (.string ka))
    go_simp
    refine hK.out _ _ (Or.inr fun _ => trivial) ?_
    clear hK K x0 x1 x2 x3 y0 y1 y2 y3
    obtain ⟨W6, hV⟩ := wexi X.out
    rw [← hV] at X ⊢
    clear hV
    try simp only [Act.put]
    refine wpLate_one (i := 7) (o := ⟨none, _, _, _, _, _⟩) (by kernel_rfl) rfl (fun K hK => ?_)
    obtain ⟨x0, x1, x2, x3⟩ := X.out.c4 (i := 3) rfl
    obtain ⟨y0, y1, y2, y3⟩ := X.out.f4 (i := 3) rfl
    have X := Lib.hid (X.out.set4 (i := 3) rfl (.bool bb) (.string mb) (.bool false) (.string kb))
    go_simp
    refine hK.out _ _ (Or.inr fun _ => trivial) ?_
    clear hK K x0 x1 x2 x3 y0 y1 y2 y3
    obtain ⟨W7, hV⟩ := wexi X.out
    rw [← hV] at X ⊢
    clear hV
    try simp only [Act.put]
    refine wpLate_done (by kernel_rfl) ?_ _
    go_wp2_with fail
    go_meet
    exact ⟨_, _, rfl, rfl, X.out.pick [2, 3] _ [] rfl (by decide) (by simp)⟩
  obtain ⟨g5, g6, rfl, rfl, hX⟩ := hcut
  have X := Lib.hid hX
  clear hX
  go_upto_region 2 with fail
  go_cut [7] (fun s7 wx => ∃ g7, s7 = .pointer (some ⟨g7, 0, none⟩) ∧ Sb w [(g5, #[.bool ba, .string ma, .bool false, .string ka], 25), (g6, #[.bool bb, .string mb, .bool false, .string kb], 25), (g7, #[.bool bp, .string mp, .bool false, .string kp], 25)] [] wx)
  case first =>
    obtain ⟨a0, a1, a2, a3⟩ := X.out.c4 (i := 0) rfl
    obtain ⟨c0, c1, c2, c3⟩ := X.out.c4 (i := 1) rfl
    go_wp2_with fail
    refine (HM.out _ (HE.out _ X.out.bel)).mono ?_
    rintro e u1 ⟨rfl, hb9⟩
    have X := Lib.hid (X.out.next hb9)
    clear hb9
    clear a0 a1 a2 a3 c0 c1 c2 c3
    go_wp2_with fail
    have X := Lib.hid (X.out.new #[.bool bp, .string mp, .bool false, .string kp] 25)
    go_meet
    exact ⟨_, rfl, X.out⟩
  obtain ⟨g7, rfl, hX⟩ := hcut
  have X := Lib.hid hX
  clear hX
  go_upto_region 3 with fail
  go_cut [8, 9] (fun s8 s9 wx => ∃ g8, s8 = .pointer (some ⟨g8, 0, none⟩) ∧ s9 = .int .i64 6 ∧ Sb w [(g5, #[.bool ba, .string ma, .bool false, .string ka], 25), (g6, #[.bool bb, .string mb, .bool false, .string kb], 25), (g7, #[.bool bp, .string mp, .bool false, .string kp], 25), (g8, #[.bool false, .string ⟨#[]⟩, .bool false, .string ⟨#[]⟩], 25)] [] wx)
  case first =>
    obtain ⟨a0, a1, a2, a3⟩ := X.out.c4 (i := 0) rfl
    obtain ⟨c0, c1, c2, c3⟩ := X.out.c4 (i := 1) rfl
    go_wp2_with fail
    refine (HD.out _ (HE.out _ X.out.bel)).mono ?_
    rintro e u1 ⟨rfl, hb9⟩
    have X := Lib.hid (X.out.next hb9)
    clear hb9
    clear a0 a1 a2 a3 c0 c1 c2 c3
    go_wp2_with fail
    have X := Lib.hid (X.out.new #[.bool false, .string ⟨#[]⟩, .bool false, .string ⟨#[]⟩] 25)
    go_meet
    exact ⟨_, rfl, rfl, X.out⟩
  obtain ⟨g8, rfl, rfl, hX⟩ := hcut
  have X := Lib.hid hX
  clear hX
  go_upto_region 4 with fail
  go_cut [47] (fun s47 wx => s47 = .bool false ∧ Sb w [(g5, #[.bool ba, .string ma, .bool false, .string ka], 25), (g6, #[.bool bb, .string mb, .bool false, .string kb], 25), (g7, #[.bool bp, .string mp, .bool false, .string kp], 25), (g8, #[.bool false, .string ⟨#[]⟩, .bool false, .string ⟨#[]⟩], 25)] [] wx)
  case first =>
    refine wp_region_late (S := fun w' => (w'.cell? ⟨g5, 0, none⟩ = some (.bool ba) ∧ w'.cell? ⟨g5, 1, none⟩ = some (.string ma) ∧ w'.cell? ⟨g5, 2, none⟩ = some (.bool false) ∧ w'.cell? ⟨g5, 3, none⟩ = some (.string ka)) ∧ (w'.cell? ⟨g6, 0, none⟩ = some (.bool bb) ∧ w'.cell? ⟨g6, 1, none⟩ = some (.string mb) ∧ w'.cell? ⟨g6, 2, none⟩ = some (.bool false) ∧ w'.cell? ⟨g6, 3, none⟩ = some (.string kb)) ∧ (w'.cell? ⟨g7, 0, none⟩ = some (.bool bp) ∧ w'.cell? ⟨g7, 1, none⟩ = some (.string mp) ∧ w'.cell? ⟨g7, 2, none⟩ = some (.bool false) ∧ w'.cell? ⟨g7, 3, none⟩ = some (.string kp)) ∧ (w'.cell? ⟨g8, 0, none⟩ = some (.bool false) ∧ w'.cell? ⟨g8, 1, none⟩ = some (.string ⟨#[]⟩) ∧ w'.cell? ⟨g8, 2, none⟩ = some (.bool false) ∧ w'.cell? ⟨g8, 3, none⟩ = some (.string ⟨#[]⟩))) (L := []) (by kernel_rfl) ?_
    have X := Lib.hid X.out.drew
    obtain ⟨V0, hV⟩ := wexi X.out
    rw [← hV] at X ⊢
    clear hV
    refine wpLate_one (i := 0) (o := ⟨some 25, _, _, _, _, _⟩) (by kernel_rfl) rfl (fun K hK => ?_)
    go_simp
    (go_at_call 14; refine (HKN.out _ (HE.out _ X.out.bel)).mono ?_; rintro e u1 ⟨rfl, hb9⟩; have X := Lib.hid (X.out.next hb9); clear hb9)
    try go_wp2_with fail
    refine hK.out _ _ (Or.inr (fun _ => ⟨X.out.c4 (i := 0) rfl, X.out.c4 (i := 1) rfl, X.out.c4 (i := 2) rfl, X.out.c4 (i := 3) rfl⟩)) ?_
    clear hK K
    try simp only [Act.put, seti, set0, setS]
    refine tk (i := 1) (oi := ⟨some 26, _, _, _, _, _⟩) (v := _) rfl (by kernel_rfl) (fun _ _ _ h => h) (⟨X.out.c4 (i := 0) rfl, X.out.c4 (i := 1) rfl, X.out.c4 (i := 2) rfl, X.out.c4 (i := 3) rfl⟩) (Or.inl ⟨by rfl, by intro w hSw; (try dsimp only at hSw); (first | (go_simp; done) | (go_simp; with_reducible rfl))⟩) ?_
    try simp only [Act.put, seti, set0, setS]
    refine tk (i := 2) (oi := ⟨some 27, _, _, _, _, _⟩) (v := _) rfl (by kernel_rfl) (fun _ _ _ h => h) (⟨X.out.c4 (i := 0) rfl, X.out.c4 (i := 1) rfl, X.out.c4 (i := 2) rfl, X.out.c4 (i := 3) rfl⟩) (Or.inl ⟨by rfl, by intro w hSw; (try dsimp only at hSw); (first | (go_simp; done) | (go_simp; with_reducible rfl))⟩) ?_
    try simp only [Act.put, seti, set0, setS]
    refine tk (i := 3) (oi := ⟨some 28, _, _, _, _, _⟩) (v := _) rfl (by kernel_rfl) (fun _ _ _ h => h) (⟨X.out.c4 (i := 0) rfl, X.out.c4 (i := 1) rfl, X.out.c4 (i := 2) rfl, X.out.c4 (i := 3) rfl⟩) (Or.inl ⟨by rfl, by intro w hSw; (try dsimp only at hSw); (first | (go_simp; done) | (go_simp; with_reducible rfl))⟩) ?_
    try simp only [Act.put, seti, set0, setS]
    refine tk (i := 4) (oi := ⟨some 29, _, _, _, _, _⟩) (v := _) rfl (by kernel_rfl) (fun _ _ _ h => h) (⟨X.out.c4 (i := 0) rfl, X.out.c4 (i := 1) rfl, X.out.c4 (i := 2) rfl, X.out.c4 (i := 3) rfl⟩) (Or.inl ⟨by rfl, by intro w hSw; (try dsimp only at hSw); (first | (go_simp; done) | (go_simp; with_reducible rfl))⟩) ?_
    try simp only [Act.put, seti, set0, setS]
    refine tk (i := 5) (oi := ⟨some 30, _, _, _, _, _⟩) (v := _) rfl (by kernel_rfl) (fun _ _ _ h => h) (⟨X.out.c4 (i := 0) rfl, X.out.c4 (i := 1) rfl, X.out.c4 (i := 2) rfl, X.out.c4 (i := 3) rfl⟩) (Or.inl ⟨by rfl, by intro w hSw; (try dsimp only at hSw); (first | (go_simp; done) | (go_simp; with_reducible rfl))⟩) ?_
    try simp only [Act.put, seti, set0, setS]
    refine wpLate_one (i := 6) (o := ⟨some 31, _, _, _, _, _⟩) (by kernel_rfl) rfl (fun K hK => ?_)
    go_simp
    (go_at_call 35; refine (H6.out _).mono ?_; rintro e u2 ⟨rfl, hb9⟩; have X := Lib.hid (X.out.next hb9); clear hb9)
    try go_wp2_with fail
    refine hK.out _ _ (Or.inr (fun _ => ⟨X.out.c4 (i := 0) rfl, X.out.c4 (i := 1) rfl, X.out.c4 (i := 2) rfl, X.out.c4 (i := 3) rfl⟩)) ?_
    clear hK K
    try simp only [Act.put, seti, set0, setS]
    refine tk (i := 7) (oi := ⟨some 32, _, _, _, _, _⟩) (v := _) rfl (by kernel_rfl) (fun _ _ _ h => h) (⟨X.out.c4 (i := 0) rfl, X.out.c4 (i := 1) rfl, X.out.c4 (i := 2) rfl, X.out.c4 (i := 3) rfl⟩) (Or.inl ⟨by rfl, by intro w hSw; (try dsimp only at hSw); (first | (go_simp; done) | (go_simp; with_reducible rfl))⟩) ?_
    try simp only [Act.put, seti, set0, setS]
    refine tk (i := 8) (oi := ⟨some 33, _, _, _, _, _⟩) (v := _) rfl (by kernel_rfl) (fun _ _ _ h => h) (⟨X.out.c4 (i := 0) rfl, X.out.c4 (i := 1) rfl, X.out.c4 (i := 2) rfl, X.out.c4 (i := 3) rfl⟩) (Or.inl ⟨by rfl, by intro w hSw; (try dsimp only at hSw); (first | (go_simp; done) | (go_simp; with_reducible rfl))⟩) ?_
    try simp only [Act.put, seti, set0, setS]
    refine tk (i := 9) (oi := ⟨some 34, _, _, _, _, _⟩) (v := _) rfl (by kernel_rfl) (fun _ _ _ h => h) (⟨X.out.c4 (i := 0) rfl, X.out.c4 (i := 1) rfl, X.out.c4 (i := 2) rfl, X.out.c4 (i := 3) rfl⟩) (Or.inl ⟨by rfl, by intro w hSw; (try dsimp only at hSw); (first | (go_simp; done) | (go_simp; with_reducible rfl))⟩) ?_
    try simp only [Act.put, seti, set0, setS]
    refine tk (i := 10) (oi := ⟨some 35, _, _, _, _, _⟩) (v := _) rfl (by kernel_rfl) (fun _ _ _ h => h) (⟨X.out.c4 (i := 0) rfl, X.out.c4 (i := 1) rfl, X.out.c4 (i := 2) rfl, X.out.c4 (i := 3) rfl⟩) (Or.inl ⟨by rfl, by intro w hSw; (try dsimp only at hSw); (first | (go_simp; done) | (go_simp; with_reducible rfl))⟩) ?_
    try simp only [Act.put, seti, set0, setS]
    refine tk (i := 11) (oi := ⟨some 36, _, _, _, _, _⟩) (v := _) rfl (by kernel_rfl) (fun _ _ _ h => h) (⟨X.out.c4 (i := 0) rfl, X.out.c4 (i := 1) rfl, X.out.c4 (i := 2) rfl, X.out.c4 (i := 3) rfl⟩) (Or.inl ⟨by rfl, by intro w hSw; (try dsimp only at hSw); (first | (go_simp; done) | (go_simp; with_reducible rfl))⟩) ?_
    try simp only [Act.put, seti, set0, setS]
    refine tk (i := 13) (oi := ⟨some 38, _, _, _, _, _⟩) (v := _) rfl (by kernel_rfl) (fun _ _ _ h => h) (⟨X.out.c4 (i := 0) rfl, X.out.c4 (i := 1) rfl, X.out.c4 (i := 2) rfl, X.out.c4 (i := 3) rfl⟩) (Or.inl ⟨by rfl, by intro w hSw; (try dsimp only at hSw); (first | (go_simp; done) | (go_simp; with_reducible rfl))⟩) ?_
    try simp only [Act.put, seti, set0, setS]
    refine wpLate_one (i := 12) (o := ⟨some 37, _, _, _, _, _⟩) (by kernel_rfl) rfl (fun K hK => ?_)
    go_simp
    (go_at_call 33; refine (H12.out _ (HE.out _ X.out.bel)).mono ?_; rintro e u3 ⟨rfl, hb9⟩; have X := Lib.hid (X.out.next hb9); clear hb9)
    try go_wp2_with fail
    refine hK.out _ _ (Or.inr (fun _ => ⟨X.out.c4 (i := 0) rfl, X.out.c4 (i := 1) rfl, X.out.c4 (i := 2) rfl, X.out.c4 (i := 3) rfl⟩)) ?_
    clear hK K
    try simp only [Act.put, seti, set0, setS]
    refine tk (i := 14) (oi := ⟨some 39, _, _, _, _, _⟩) (v := _) rfl (by kernel_rfl) (fun _ _ _ h => h) (⟨X.out.c4 (i := 0) rfl, X.out.c4 (i := 1) rfl, X.out.c4 (i := 2) rfl, X.out.c4 (i := 3) rfl⟩) (Or.inl ⟨by rfl, by intro w hSw; (try dsimp only at hSw); (first | (go_simp; done) | (go_simp; with_reducible rfl))⟩) ?_
    try simp only [Act.put, seti, set0, setS]
    refine tk (i := 15) (oi := ⟨some 40, _, _, _, _, _⟩) (v := _) rfl (by kernel_rfl) (fun _ _ _ h => h) (⟨X.out.c4 (i := 0) rfl, X.out.c4 (i := 1) rfl, X.out.c4 (i := 2) rfl, X.out.c4 (i := 3) rfl⟩) (Or.inl ⟨by rfl, by intro w hSw; (try dsimp only at hSw); (first | (go_simp; done) | (go_simp; with_reducible rfl))⟩) ?_
    try simp only [Act.put, seti, set0, setS]
    refine tk (i := 16) (oi := ⟨some 41, _, _, _, _, _⟩) (v := _) rfl (by kernel_rfl) (fun _ _ _ h => h) (⟨X.out.c4 (i := 0) rfl, X.out.c4 (i := 1) rfl, X.out.c4 (i := 2) rfl, X.out.c4 (i := 3) rfl⟩) (Or.inl ⟨by rfl, by intro w hSw; (try dsimp only at hSw); (first | (go_simp; done) | (go_simp; with_reducible rfl))⟩) ?_
    try simp only [Act.put, seti, set0, setS]
    refine tk (i := 17) (oi := ⟨some 42, _, _, _, _, _⟩) (v := _) rfl (by kernel_rfl) (fun _ _ _ h => h) (⟨X.out.c4 (i := 0) rfl, X.out.c4 (i := 1) rfl, X.out.c4 (i := 2) rfl, X.out.c4 (i := 3) rfl⟩) (Or.inl ⟨by rfl, by intro w hSw; (try dsimp only at hSw); (first | (go_simp; done) | (go_simp; with_reducible rfl))⟩) ?_
    try simp only [Act.put, seti, set0, setS]
    refine tk (i := 18) (oi := ⟨some 43, _, _, _, _, _⟩) (v := _) rfl (by kernel_rfl) (fun _ _ _ h => h) (⟨X.out.c4 (i := 0) rfl, X.out.c4 (i := 1) rfl, X.out.c4 (i := 2) rfl, X.out.c4 (i := 3) rfl⟩) (Or.inl ⟨by rfl, by intro w hSw; (try dsimp only at hSw); (first | (go_simp; done) | (go_simp; with_reducible rfl))⟩) ?_
    try simp only [Act.put, seti, set0, setS]
    refine wpLate_one (i := 19) (o := ⟨some 44, _, _, _, _, _⟩) (by kernel_rfl) rfl (fun K hK => ?_)
    go_simp
    have X := Lib.hid (X.out.new #[.bool bp, .string mp, .bool false, .string kp, .bool false, .string ⟨#[]⟩, .bool false, .string ⟨#[]⟩] 25)
    refine hK.out _ _ (Or.inr (fun _ => ⟨X.out.c4 (i := 0) rfl, X.out.c4 (i := 1) rfl, X.out.c4 (i := 2) rfl, X.out.c4 (i := 3) rfl⟩)) ?_
    clear hK K
    try simp only [Act.put, seti, set0, setS]
    obtain ⟨V4, hV⟩ := wexi X.out
    rw [← hV] at X ⊢
    clear hV
    refine wpLate_one (i := 20) (o := ⟨some 45, _, _, _, _, _⟩) (by kernel_rfl) rfl (fun K hK => ?_)
    go_simp
    (go_at_call 32; refine (HV.out _ _ (X.out.at (i := 4) rfl)).mono ?_; rintro e u5 ⟨rfl, hb9⟩; have X := Lib.hid (X.out.next hb9); clear hb9)
    try go_wp2_with fail
    refine hK.out _ _ (Or.inr (fun _ => ⟨X.out.c4 (i := 0) rfl, X.out.c4 (i := 1) rfl, X.out.c4 (i := 2) rfl, X.out.c4 (i := 3) rfl⟩)) ?_
    clear hK K
    try simp only [Act.put, seti, set0, setS]
    refine tk (i := 21) (oi := ⟨some 46, _, _, _, _, _⟩) (v := _) rfl (by kernel_rfl) (fun _ _ _ h => h) (⟨X.out.c4 (i := 0) rfl, X.out.c4 (i := 1) rfl, X.out.c4 (i := 2) rfl, X.out.c4 (i := 3) rfl⟩) (Or.inl ⟨by rfl, by intro w hSw; (try dsimp only at hSw); (first | (go_simp; done) | (go_simp; with_reducible rfl))⟩) ?_
    try simp only [Act.put, seti, set0, setS]
    refine tk (i := 22) (oi := ⟨some 47, _, _, _, _, _⟩) (v := _) rfl (by kernel_rfl) (fun _ _ _ h => h) (⟨X.out.c4 (i := 0) rfl, X.out.c4 (i := 1) rfl, X.out.c4 (i := 2) rfl, X.out.c4 (i := 3) rfl⟩) (Or.inl ⟨by rfl, by intro w hSw; (try dsimp only at hSw); (first | (go_simp; done) | (go_simp; with_reducible rfl))⟩) ?_
    try simp only [Act.put, seti, set0, setS]
    refine wpLate_done (by kernel_rfl) ?_ _
    go_wp2_with fail
    go_meet
    exact ⟨rfl, X.out.pick [0, 1, 2, 3] _ [] rfl (by decide) (by simp)⟩
  obtain ⟨rfl, hX⟩ := hcut
  have X := Lib.hid hX
  clear hX
  obtain ⟨c0, c1, c2, c3⟩ := X.out.c4 (i := 1) rfl
  go_wp2_with fail
  refine (HSG.out _).mono ?_
  rintro e u1 ⟨rfl, hb9⟩
  have X := Lib.hid (X.out.next hb9)
  clear hb9
  clear c0 c1 c2 c3
  obtain ⟨c0, c1, c2, c3⟩ := X.out.c4 (i := 3) rfl
  go_wp2
  go_ret
  exact ⟨rfl, X.out.bel⟩

theorem rmultiplies_walk (n0 e0 : Int) (u0 v0 : Nat) (hn0 : -9223372036854775808 ≤ n0 ∧ n0 ≤ 9223372036854775807) (he0 : -9223372036854775808 ≤ e0 ∧ e0 ≤ 9223372036854775807) (hu0 : u0 < 256) (hv0 : v0 < 256) (n1 e1 : Int) (u1 v1 : Nat) (hn1 : -9223372036854775808 ≤ n1 ∧ n1 ≤ 9223372036854775807) (he1 : -9223372036854775808 ≤ e1 ∧ e1 ≤ 9223372036854775807) (hu1 : u1 < 256) (hv1 : v1 < 256) (w : World) (hE : Env w) :
    Calls Tryz.prog 6 #[.agg #[.int .i64 n0, .int .i64 e0, .int .u8 (u0 : Int), .int .u8 (v0 : Int)], .agg #[.int .i64 n1, .int .i64 e1, .int .u8 (u1 : Int), .int .u8 (v1 : Int)]] w (RetB w (.bool true)) := by
  by_cases h0 : (fracQ n1 e1 u1 v1).num = 0
  · exact rmul_no n0 e0 u0 v0 hn0 he0 hu0 hv0 n1 e1 u1 v1 hn1 he1 hu1 hv1 h0 w hE
  · exact rmul_yes n0 e0 u0 v0 hn0 he0 hu0 hv0 n1 e1 u1 v1 hn1 he1 hu1 hv1 h0 w hE
end Go.Proofs.YtahehlajpaoiiaaGreatDoor
