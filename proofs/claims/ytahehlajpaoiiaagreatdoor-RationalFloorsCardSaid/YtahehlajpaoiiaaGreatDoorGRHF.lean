import Derived.Test.YtahehlajpaoiiaaGreatDoorGRHE
import Derived.Test.YtahehlajpaoiiaaGreatDoorGRGH

namespace Go.Proofs.YtahehlajpaoiiaaGreatDoor
open Go.RowKit
attribute [local go_sem ↓] Go.wp_at_zero Go.wp_at_succ

theorem floor_facts (q : Rat) : cmpQ ((q.num / (q.den : Int) : Int) : Rat) q ≤ 0 ∧ cmpQ q (((q.num / (q.den : Int) : Int) : Rat) + 1) < 0 := by
  have e := Rat.floor_def q
  have h1 := Rat.floor_le q
  have h2 := @Rat.lt_floor q
  rw [e] at h1 h2
  refine ⟨cmpQ_le.2 h1, ?_⟩
  have h3 : ¬ (0 ≤ cmpQ q (((q.num / (q.den : Int) : Int) : Rat) + 1)) := fun h => by
    have h4 := cmpQ_ge.1 h
    rw [← @Rat.add_le_add_right _ _ (-1), Rat.add_assoc, Rat.add_neg_cancel, Rat.add_zero, ← Rat.sub_eq_add_neg] at h4
    exact Rat.not_le.2 h2 h4
  omega
theorem ceil_facts (q : Rat) : cmpQ q ((-((-q).num / ((-q).den : Int)) : Int) : Rat) ≤ 0 ∧ cmpQ (((-((-q).num / ((-q).den : Int)) : Int) : Rat) - 1) q < 0 := by
  obtain ⟨h1, h2⟩ := floor_facts (-q)
  generalize ((-q).num / ((-q).den : Int)) = f at *
  rw [Rat.intCast_neg]
  constructor
  · have h3 := cmpQ_le.1 h1
    have h4 := Rat.neg_le_neg h3
    rw [Rat.neg_neg] at h4
    exact cmpQ_le.2 h4
  · have h3 : ¬ (0 ≤ cmpQ (-(f : Rat) - 1) q) := fun h => by
      have h4 := Rat.neg_le_neg (cmpQ_ge.1 h)
      rw [Rat.sub_eq_add_neg, Rat.neg_add, Rat.neg_neg, Rat.neg_neg] at h4
      have h5 := cmpQ_ge.2 h4
      omega
    omega
theorem sz_whole {n : Nat} {x : Int} (h : x.natAbs < 256 ^ n) (hn : 0 < n) : Sz n (x : Rat) := by
  refine ⟨by rw [Rat.num_intCast]; exact h, ?_⟩
  rw [Rat.den_intCast]
  exact Nat.one_lt_pow (by omega) (by omega)
theorem floor_small {n : Nat} {q : Rat} (h : Sz n q) (hn : 0 < n) : Sz n ((q.num / (q.den : Int) : Int) : Rat) :=
  sz_whole (Nat.lt_of_le_of_lt (Int.natAbs_ediv_le_natAbs _ _) h.1) hn

set_option maxHeartbeats 32000000 in
set_option maxRecDepth 100000 in
theorem rfloors_walk (n0 e0 : Int) (u0 v0 : Nat) (hn0 : -9223372036854775808 ≤ n0 ∧ n0 ≤ 9223372036854775807) (he0 : -9223372036854775808 ≤ e0 ∧ e0 ≤ 9223372036854775807) (hu0 : u0 < 256) (hv0 : v0 < 256) (w : World) (hE : Env w) :
    Calls Tryz.prog 9 #[.agg #[.int .i64 n0, .int .i64 e0, .int .u8 (u0 : Int), .int .u8 (v0 : Int)]] w (RetB w (.bool true)) := by
  obtain ⟨ba, ma, ka, ha⟩ := Rq.some_ (fracQ n0 e0 u0 v0)
  have HA := Lib.hid (fun V => rat_det n0 e0 u0 v0 ha hn0.1 hn0.2 he0.1 he0.2 hu0 hv0 V)
  have za : Sz 16 (fracQ n0 e0 u0 v0) := frac_small n0 e0 u0 v0 hn0.1 hn0.2 he0.1 he0.2
  generalize fracQ n0 e0 u0 v0 = qa at *
  obtain ⟨bl, ml, hl⟩ := enc_form (qa.num / (qa.den : Int))
  obtain ⟨bu, mu, hu⟩ := enc_form (-((-qa).num / ((-qa).den : Int)))
  have zl := floor_small za (by omega)
  have zu : Sz 16 ((-((-qa).num / ((-qa).den : Int)) : Int) : Rat) := by
    refine sz_whole ?_ (by omega)
    rw [Int.natAbs_neg]
    have h := (floor_small za.minus (by omega)).1
    rw [Rat.num_intCast] at h
    exact h
  obtain ⟨f1, f2⟩ := floor_facts qa
  obtain ⟨f3, f4⟩ := ceil_facts qa
  obtain ⟨b1, m1, k1, h1⟩ := Rq.some_ (1 : Rat)
  have z1 : Sz 1 (1 : Rat) := ⟨by decide, by decide⟩
  have hlq := rq_int hl
  have huq := rq_int hu
  have ya := za.m ha (by omega)
  have HFL := Lib.hid (fun V => ratFloor_f ha hl (by omega) (by omega) V)
  have HCE := Lib.hid (fun V => ratCeil_f ha hu (by omega) (by omega) V)
  have ya9 := (show ma.size ≤ 9000 ∧ (mag qa.den).size ≤ 9000 from by
    refine ⟨?_, Nat.le_trans (mag_size_le za.2) (by omega)⟩
    rw [ha.mag.2]
    exact Nat.le_trans (mag_size_le za.1) (by omega))
  have HRF := Lib.hid (fun V => rFloor_f ha hl ya9.1 ya9.2 V)
  generalize (qa.num / (qa.den : Int)) = fl at *
  generalize (-((-qa).num / ((-qa).den : Int))) = cl at *
  obtain ⟨bs, ms, ks, hs⟩ := Rq.some_ ((fl : Rat) + 1)
  obtain ⟨bd, md, kd, hd⟩ := Rq.some_ ((cl : Rat) - 1)
  have yl := zl.m hlq (by omega)
  have yu := zu.m huq (by omega)
  have y1 := z1.m h1 (by omega)
  have ys := (zl.add z1).m hs (by omega)
  have zd : Sz 18 ((cl : Rat) - 1) := by
    rw [Rat.sub_eq_add_neg]
    exact zu.add z1.minus
  have yd := zd.m hd (by omega)
  have HOF := Lib.hid (fun V => rOf_f (x := 1) (y := 1) (by rw [divInt_1]; exact h1) (by decide) (by decide) (by decide) (by decide) (by decide) V)
  have h7 := fun V => rCompare_f hlq ha yl.1 ya.1 yl.2 ya.2 V
  have h14 := fun V => rAdd_f hlq h1 hs yl.1 y1.1 yl.2 y1.2 V
  have h15 := fun V => rCompare_f ha hs ya.1 ys.1 ya.2 ys.2 V
  have h21 := fun V => rCompare_f ha huq ya.1 yu.1 ya.2 yu.2 V
  have h28 := fun V => rSub_f huq h1 hd yu.1 y1.1 yu.2 y1.2 V
  have h29 := fun V => rCompare_f hd ha yd.1 ya.1 yd.2 ya.2 V
  generalize cmpQ (fl : Rat) qa = x1 at *
  generalize cmpQ qa ((fl : Rat) + 1) = x2 at *
  generalize cmpQ qa (cl : Rat) = x3 at *
  generalize cmpQ ((cl : Rat) - 1) qa = x4 at *
  have H7 := Lib.hid h7
  have H14 := Lib.hid h14
  have H15 := Lib.hid h15
  have H21 := Lib.hid h21
  have H28 := Lib.hid h28
  have H29 := Lib.hid h29
  have HV := Lib.hid (fun (V : World) (g : Nat) {T : TypeId} (h : V.heap[g]? = some (.cells #[.bool bl, .string ml, .bool false, .string ⟨#[]⟩, .bool bu, .string mu, .bool false, .string ⟨#[]⟩] T)) => valid2B hlq huq yl yu V g h)
  have HKN := Lib.hid (fun V (hV : Env V) => rknown_any V hV)
  have HE := Lib.hid (fun V (h : Below w.heap.size w V) => hE.next h)
  have d1 := decide_eq_true f1
  have d2 := decide_eq_true f2
  have d3 := decide_eq_true f3
  have d4 := decide_eq_true f4
  have X := Lib.hid ((Sb.start w).new #[.int .i64 n0, .int .i64 e0, .int .u8 (u0 : Int), .int .u8 (v0 : Int)] 41)
  have X := Lib.hid (X.out.pick [0] [(w.heap.size, #[.int .i64 n0, .int .i64 e0, .int .u8 (u0 : Int), .int .u8 (v0 : Int)], 41)] [] (by simp) (by decide) (by simp))
  clear ha za zl zu z1 zd hlq huq ya ya9 hs hd yl yu y1 ys yd h1 h7 h14 h15 h21 h28 h29 hE hl hu hn0 he0 hu0 hv0
  go_enter Tryz.func9, Tryz.ntmps9
  go_upto_region 1 with fail
  go_cut [3] (fun s3 wx => ∃ g3, s3 = .pointer (some ⟨g3, 0, none⟩) ∧ Sb w [(g3, #[.bool ba, .string ma, .bool false, .string ka], 25)] [] wx)
  case first =>
    obtain ⟨a0, a1, a2, a3⟩ := X.out.c4 (i := 0) rfl
    go_wp2_with fail
    refine (HA.out _).mono ?_
    rintro e u1 ⟨rfl, hb9⟩
    have X := Lib.hid (X.out.next hb9)
    clear hb9
    clear a0 a1 a2 a3
    go_wp2_with fail
    have X := Lib.hid (X.out.new #[.bool ba, .string ma, .bool false, .string ka] 25)
    go_meet
    exact ⟨_, rfl, X.out.pick [1] _ [] rfl (by decide) (by simp)⟩
  obtain ⟨g3, rfl, hX⟩ := hcut
  have X := Lib.hid hX
  clear hX
  go_upto_region 2 with fail
  go_cut [4, 5] (fun s4 s5 wx => ∃ g4 g5, s4 = .pointer (some ⟨g4, 0, none⟩) ∧ s5 = .pointer (some ⟨g5, 0, none⟩) ∧ Sb w [(g3, #[.bool ba, .string ma, .bool false, .string ka], 25), (g4, #[.bool bl, .string ml, .bool false, .string ⟨#[]⟩], 25), (g5, #[.bool bu, .string mu, .bool false, .string ⟨#[]⟩], 25)] [] wx)
  case first =>
    refine wp_region_late (S := fun w' => (w'.cell? ⟨g3, 0, none⟩ = some (.bool ba) ∧ w'.cell? ⟨g3, 1, none⟩ = some (.string ma) ∧ w'.cell? ⟨g3, 2, none⟩ = some (.bool false) ∧ w'.cell? ⟨g3, 3, none⟩ = some (.string ka))) (L := []) (by kernel_rfl) ?_
    have X := Lib.hid X.out.drew
    obtain ⟨V0, hV⟩ := wexi X.out
    rw [← hV] at X ⊢
    clear hV
    refine tk (i := 0) (oi := ⟨some 9, _, _, _, _, _⟩) (v := _) rfl (by kernel_rfl) (fun _ _ _ h => h) (X.out.c4 (i := 0) rfl) (Or.inl ⟨by rfl, by intro w hSw; (try dsimp only at hSw); (first | (go_simp; done) | (go_simp; with_reducible rfl))⟩) ?_
    try simp only [Act.put, seti, set0, setS]
    refine tk (i := 3) (oi := ⟨some 12, _, _, _, _, _⟩) (v := _) rfl (by kernel_rfl) (fun _ _ _ h => h) (X.out.c4 (i := 0) rfl) (Or.inl ⟨by rfl, by intro w hSw; (try dsimp only at hSw); (first | (go_simp; done) | (go_simp; with_reducible rfl))⟩) ?_
    try simp only [Act.put, seti, set0, setS]
    refine wpLate_three (i := 1) (j := 6) (k := 7) (o := ⟨some 10, _, _, _, _, _⟩) (o' := ⟨some 4, _, _, _, _, _⟩) (o'' := ⟨some 5, _, _, _, _, _⟩) (by kernel_rfl) rfl rfl rfl (fun K hK => ?_) (fun K hK => ?_) (fun K hK => ?_)
    · as_aux_lemma =>
      go_simp
      (go_at_call 46; refine (HFL.out _).mono ?_; rintro e u1 ⟨rfl, hb9⟩; have X := Lib.hid (X.out.next hb9); clear hb9)
      try go_wp2_with fail
      refine hK.out _ _ (Or.inr (fun _ => X.out.c4 (i := 0) rfl)) ?_
      clear hK K
      try simp only [Act.put, seti, set0, setS]
      refine tk (i := 2) (oi := ⟨some 11, _, _, _, _, _⟩) (v := _) rfl (by kernel_rfl) (fun _ _ _ h => h) (X.out.c4 (i := 0) rfl) (Or.inl ⟨by rfl, by intro w hSw; (try dsimp only at hSw); (first | (go_simp; done) | (go_simp; with_reducible rfl))⟩) ?_
      try simp only [Act.put, seti, set0, setS]
      refine wpLate_three (i := 4) (j := 6) (k := 7) (o := ⟨some 13, _, _, _, _, _⟩) (o' := ⟨some 4, _, _, _, _, _⟩) (o'' := ⟨some 5, _, _, _, _, _⟩) (by kernel_rfl) rfl rfl rfl (fun K hK => ?_) (fun K hK => ?_) (fun K hK => ?_)
      · as_aux_lemma =>
        go_simp
        (go_at_call 47; refine (HCE.out _).mono ?_; rintro e u2 ⟨rfl, hb9⟩; have X := Lib.hid (X.out.next hb9); clear hb9)
        try go_wp2_with fail
        refine hK.out _ _ (Or.inr (fun _ => X.out.c4 (i := 0) rfl)) ?_
        clear hK K
        try simp only [Act.put, seti, set0, setS]
        refine tk (i := 5) (oi := ⟨some 14, _, _, _, _, _⟩) (v := _) rfl (by kernel_rfl) (fun _ _ _ h => h) (X.out.c4 (i := 0) rfl) (Or.inl ⟨by rfl, by intro w hSw; (try dsimp only at hSw); (first | (go_simp; done) | (go_simp; with_reducible rfl))⟩) ?_
        try simp only [Act.put, seti, set0, setS]
        refine wpLate_two (i := 6) (j := 7) (o := ⟨some 4, _, _, _, _, _⟩) (o' := ⟨some 5, _, _, _, _, _⟩) (by kernel_rfl) rfl rfl (fun K hK => ?_) (fun K hK => ?_)
        go_simp
        have X := Lib.hid (X.out.new #[.bool false, .string ⟨#[]⟩, .bool false, .string ⟨#[]⟩] 25)
        refine hK.out _ _ (Or.inr (fun _ => X.out.c4 (i := 0) rfl)) ?_
        clear hK K
        try simp only [Act.put, seti, set0, setS]
        obtain ⟨V3, hV⟩ := wexi X.out
        rw [← hV] at X ⊢
        clear hV
        refine wpLate_one (i := 7) (o := ⟨some 5, _, _, _, _, _⟩) (by kernel_rfl) rfl (fun K hK => ?_)
        go_simp
        have X := Lib.hid (X.out.new #[.bool false, .string ⟨#[]⟩, .bool false, .string ⟨#[]⟩] 25)
        refine hK.out _ _ (Or.inr (fun _ => X.out.c4 (i := 0) rfl)) ?_
        clear hK K
        try simp only [Act.put, seti, set0, setS]
        obtain ⟨V4, hV⟩ := wexi X.out
        rw [← hV] at X ⊢
        clear hV
        refine wpLate_one (i := 8) (o := ⟨none, _, _, _, _, _⟩) (by kernel_rfl) rfl (fun K hK => ?_)
        obtain ⟨x0, x1, x2, x3⟩ := X.out.c4 (i := 1) rfl
        obtain ⟨y0, y1, y2, y3⟩ := X.out.f4 (i := 1) rfl
        have X := Lib.hid (X.out.set4 (i := 1) rfl (.bool bl) (.string ml) (.bool false) (.string ⟨#[]⟩))
        go_simp
        refine hK.out _ _ (Or.inr (fun _ => X.out.c4 (i := 0) rfl)) ?_
        clear hK K x0 x1 x2 x3 y0 y1 y2 y3
        try simp only [Act.put, seti, set0, setS]
        obtain ⟨W5, hV⟩ := wexi X.out
        rw [← hV] at X ⊢
        clear hV
        refine wpLate_one (i := 9) (o := ⟨none, _, _, _, _, _⟩) (by kernel_rfl) rfl (fun K hK => ?_)
        obtain ⟨x0, x1, x2, x3⟩ := X.out.c4 (i := 2) rfl
        obtain ⟨y0, y1, y2, y3⟩ := X.out.f4 (i := 2) rfl
        have X := Lib.hid (X.out.set4 (i := 2) rfl (.bool bu) (.string mu) (.bool false) (.string ⟨#[]⟩))
        go_simp
        refine hK.out _ _ (Or.inr (fun _ => X.out.c4 (i := 0) rfl)) ?_
        clear hK K x0 x1 x2 x3 y0 y1 y2 y3
        try simp only [Act.put, seti, set0, setS]
        obtain ⟨W6, hV⟩ := wexi X.out
        rw [← hV] at X ⊢
        clear hV
        refine wpLate_done (by kernel_rfl) ?_ _
        go_wp2_with fail
        go_meet
        exact ⟨_, _, rfl, rfl, X.out.pick [0, 1, 2] _ [] rfl (by decide) (by simp)⟩
        go_simp
        have X := Lib.hid (X.out.new #[.bool false, .string ⟨#[]⟩, .bool false, .string ⟨#[]⟩] 25)
        refine hK.out _ _ (Or.inr (fun _ => X.out.c4 (i := 0) rfl)) ?_
        clear hK K
        try simp only [Act.put, seti, set0, setS]
        obtain ⟨V7, hV⟩ := wexi X.out
        rw [← hV] at X ⊢
        clear hV
        refine wpLate_one (i := 6) (o := ⟨some 4, _, _, _, _, _⟩) (by kernel_rfl) rfl (fun K hK => ?_)
        go_simp
        have X := Lib.hid (X.out.new #[.bool false, .string ⟨#[]⟩, .bool false, .string ⟨#[]⟩] 25)
        refine hK.out _ _ (Or.inr (fun _ => X.out.c4 (i := 0) rfl)) ?_
        clear hK K
        try simp only [Act.put, seti, set0, setS]
        obtain ⟨V8, hV⟩ := wexi X.out
        rw [← hV] at X ⊢
        clear hV
        refine wpLate_one (i := 8) (o := ⟨none, _, _, _, _, _⟩) (by kernel_rfl) rfl (fun K hK => ?_)
        obtain ⟨x0, x1, x2, x3⟩ := X.out.c4 (i := 2) rfl
        obtain ⟨y0, y1, y2, y3⟩ := X.out.f4 (i := 2) rfl
        have X := Lib.hid (X.out.set4 (i := 2) rfl (.bool bl) (.string ml) (.bool false) (.string ⟨#[]⟩))
        go_simp
        refine hK.out _ _ (Or.inr (fun _ => X.out.c4 (i := 0) rfl)) ?_
        clear hK K x0 x1 x2 x3 y0 y1 y2 y3
        try simp only [Act.put, seti, set0, setS]
        obtain ⟨W9, hV⟩ := wexi X.out
        rw [← hV] at X ⊢
        clear hV
        refine wpLate_one (i := 9) (o := ⟨none, _, _, _, _, _⟩) (by kernel_rfl) rfl (fun K hK => ?_)
        obtain ⟨x0, x1, x2, x3⟩ := X.out.c4 (i := 1) rfl
        obtain ⟨y0, y1, y2, y3⟩ := X.out.f4 (i := 1) rfl
        have X := Lib.hid (X.out.set4 (i := 1) rfl (.bool bu) (.string mu) (.bool false) (.string ⟨#[]⟩))
        go_simp
        refine hK.out _ _ (Or.inr (fun _ => X.out.c4 (i := 0) rfl)) ?_
        clear hK K x0 x1 x2 x3 y0 y1 y2 y3
        try simp only [Act.put, seti, set0, setS]
        obtain ⟨W10, hV⟩ := wexi X.out
        rw [← hV] at X ⊢
        clear hV
        refine wpLate_done (by kernel_rfl) ?_ _
        go_wp2_with fail
        go_meet
        exact ⟨_, _, rfl, rfl, X.out.pick [0, 2, 1] _ [] rfl (by decide) (by simp)⟩
      · as_aux_lemma =>
        go_simp
        have X := Lib.hid (X.out.new #[.bool false, .string ⟨#[]⟩, .bool false, .string ⟨#[]⟩] 25)
        refine hK.out _ _ (Or.inr (fun _ => X.out.c4 (i := 0) rfl)) ?_
        clear hK K
        try simp only [Act.put, seti, set0, setS]
        obtain ⟨V11, hV⟩ := wexi X.out
        rw [← hV] at X ⊢
        clear hV
        refine wpLate_two (i := 4) (j := 7) (o := ⟨some 13, _, _, _, _, _⟩) (o' := ⟨some 5, _, _, _, _, _⟩) (by kernel_rfl) rfl rfl (fun K hK => ?_) (fun K hK => ?_)
        go_simp
        (go_at_call 47; refine (HCE.out _).mono ?_; rintro e u12 ⟨rfl, hb9⟩; have X := Lib.hid (X.out.next hb9); clear hb9)
        try go_wp2_with fail
        refine hK.out _ _ (Or.inr (fun _ => X.out.c4 (i := 0) rfl)) ?_
        clear hK K
        try simp only [Act.put, seti, set0, setS]
        refine tk (i := 5) (oi := ⟨some 14, _, _, _, _, _⟩) (v := _) rfl (by kernel_rfl) (fun _ _ _ h => h) (X.out.c4 (i := 0) rfl) (Or.inl ⟨by rfl, by intro w hSw; (try dsimp only at hSw); (first | (go_simp; done) | (go_simp; with_reducible rfl))⟩) ?_
        try simp only [Act.put, seti, set0, setS]
        refine wpLate_one (i := 7) (o := ⟨some 5, _, _, _, _, _⟩) (by kernel_rfl) rfl (fun K hK => ?_)
        go_simp
        have X := Lib.hid (X.out.new #[.bool false, .string ⟨#[]⟩, .bool false, .string ⟨#[]⟩] 25)
        refine hK.out _ _ (Or.inr (fun _ => X.out.c4 (i := 0) rfl)) ?_
        clear hK K
        try simp only [Act.put, seti, set0, setS]
        obtain ⟨V13, hV⟩ := wexi X.out
        rw [← hV] at X ⊢
        clear hV
        refine wpLate_one (i := 8) (o := ⟨none, _, _, _, _, _⟩) (by kernel_rfl) rfl (fun K hK => ?_)
        obtain ⟨x0, x1, x2, x3⟩ := X.out.c4 (i := 1) rfl
        obtain ⟨y0, y1, y2, y3⟩ := X.out.f4 (i := 1) rfl
        have X := Lib.hid (X.out.set4 (i := 1) rfl (.bool bl) (.string ml) (.bool false) (.string ⟨#[]⟩))
        go_simp
        refine hK.out _ _ (Or.inr (fun _ => X.out.c4 (i := 0) rfl)) ?_
        clear hK K x0 x1 x2 x3 y0 y1 y2 y3
        try simp only [Act.put, seti, set0, setS]
        obtain ⟨W14, hV⟩ := wexi X.out
        rw [← hV] at X ⊢
        clear hV
        refine wpLate_one (i := 9) (o := ⟨none, _, _, _, _, _⟩) (by kernel_rfl) rfl (fun K hK => ?_)
        obtain ⟨x0, x1, x2, x3⟩ := X.out.c4 (i := 2) rfl
        obtain ⟨y0, y1, y2, y3⟩ := X.out.f4 (i := 2) rfl
        have X := Lib.hid (X.out.set4 (i := 2) rfl (.bool bu) (.string mu) (.bool false) (.string ⟨#[]⟩))
        go_simp
        refine hK.out _ _ (Or.inr (fun _ => X.out.c4 (i := 0) rfl)) ?_
        clear hK K x0 x1 x2 x3 y0 y1 y2 y3
        try simp only [Act.put, seti, set0, setS]
        obtain ⟨W15, hV⟩ := wexi X.out
        rw [← hV] at X ⊢
        clear hV
        refine wpLate_done (by kernel_rfl) ?_ _
        go_wp2_with fail
        go_meet
        exact ⟨_, _, rfl, rfl, X.out.pick [0, 1, 2] _ [] rfl (by decide) (by simp)⟩
        go_simp
        have X := Lib.hid (X.out.new #[.bool false, .string ⟨#[]⟩, .bool false, .string ⟨#[]⟩] 25)
        refine hK.out _ _ (Or.inr (fun _ => X.out.c4 (i := 0) rfl)) ?_
        clear hK K
        try simp only [Act.put, seti, set0, setS]
        obtain ⟨V16, hV⟩ := wexi X.out
        rw [← hV] at X ⊢
        clear hV
        refine wpLate_one (i := 4) (o := ⟨some 13, _, _, _, _, _⟩) (by kernel_rfl) rfl (fun K hK => ?_)
        go_simp
        (go_at_call 47; refine (HCE.out _).mono ?_; rintro e u17 ⟨rfl, hb9⟩; have X := Lib.hid (X.out.next hb9); clear hb9)
        try go_wp2_with fail
        refine hK.out _ _ (Or.inr (fun _ => X.out.c4 (i := 0) rfl)) ?_
        clear hK K
        try simp only [Act.put, seti, set0, setS]
        refine tk (i := 5) (oi := ⟨some 14, _, _, _, _, _⟩) (v := _) rfl (by kernel_rfl) (fun _ _ _ h => h) (X.out.c4 (i := 0) rfl) (Or.inl ⟨by rfl, by intro w hSw; (try dsimp only at hSw); (first | (go_simp; done) | (go_simp; with_reducible rfl))⟩) ?_
        try simp only [Act.put, seti, set0, setS]
        refine wpLate_one (i := 8) (o := ⟨none, _, _, _, _, _⟩) (by kernel_rfl) rfl (fun K hK => ?_)
        obtain ⟨x0, x1, x2, x3⟩ := X.out.c4 (i := 1) rfl
        obtain ⟨y0, y1, y2, y3⟩ := X.out.f4 (i := 1) rfl
        have X := Lib.hid (X.out.set4 (i := 1) rfl (.bool bl) (.string ml) (.bool false) (.string ⟨#[]⟩))
        go_simp
        refine hK.out _ _ (Or.inr (fun _ => X.out.c4 (i := 0) rfl)) ?_
        clear hK K x0 x1 x2 x3 y0 y1 y2 y3
        try simp only [Act.put, seti, set0, setS]
        obtain ⟨W18, hV⟩ := wexi X.out
        rw [← hV] at X ⊢
        clear hV
        refine wpLate_one (i := 9) (o := ⟨none, _, _, _, _, _⟩) (by kernel_rfl) rfl (fun K hK => ?_)
        obtain ⟨x0, x1, x2, x3⟩ := X.out.c4 (i := 2) rfl
        obtain ⟨y0, y1, y2, y3⟩ := X.out.f4 (i := 2) rfl
        have X := Lib.hid (X.out.set4 (i := 2) rfl (.bool bu) (.string mu) (.bool false) (.string ⟨#[]⟩))
        go_simp
        refine hK.out _ _ (Or.inr (fun _ => X.out.c4 (i := 0) rfl)) ?_
        clear hK K x0 x1 x2 x3 y0 y1 y2 y3
        try simp only [Act.put, seti, set0, setS]
        obtain ⟨W19, hV⟩ := wexi X.out
        rw [← hV] at X ⊢
        clear hV
        refine wpLate_done (by kernel_rfl) ?_ _
        go_wp2_with fail
        go_meet
        exact ⟨_, _, rfl, rfl, X.out.pick [0, 1, 2] _ [] rfl (by decide) (by simp)⟩
      · as_aux_lemma =>
        go_simp
        have X := Lib.hid (X.out.new #[.bool false, .string ⟨#[]⟩, .bool false, .string ⟨#[]⟩] 25)
        refine hK.out _ _ (Or.inr (fun _ => X.out.c4 (i := 0) rfl)) ?_
        clear hK K
        try simp only [Act.put, seti, set0, setS]
        obtain ⟨V20, hV⟩ := wexi X.out
        rw [← hV] at X ⊢
        clear hV
        refine wpLate_two (i := 4) (j := 6) (o := ⟨some 13, _, _, _, _, _⟩) (o' := ⟨some 4, _, _, _, _, _⟩) (by kernel_rfl) rfl rfl (fun K hK => ?_) (fun K hK => ?_)
        go_simp
        (go_at_call 47; refine (HCE.out _).mono ?_; rintro e u21 ⟨rfl, hb9⟩; have X := Lib.hid (X.out.next hb9); clear hb9)
        try go_wp2_with fail
        refine hK.out _ _ (Or.inr (fun _ => X.out.c4 (i := 0) rfl)) ?_
        clear hK K
        try simp only [Act.put, seti, set0, setS]
        refine tk (i := 5) (oi := ⟨some 14, _, _, _, _, _⟩) (v := _) rfl (by kernel_rfl) (fun _ _ _ h => h) (X.out.c4 (i := 0) rfl) (Or.inl ⟨by rfl, by intro w hSw; (try dsimp only at hSw); (first | (go_simp; done) | (go_simp; with_reducible rfl))⟩) ?_
        try simp only [Act.put, seti, set0, setS]
        refine wpLate_one (i := 6) (o := ⟨some 4, _, _, _, _, _⟩) (by kernel_rfl) rfl (fun K hK => ?_)
        go_simp
        have X := Lib.hid (X.out.new #[.bool false, .string ⟨#[]⟩, .bool false, .string ⟨#[]⟩] 25)
        refine hK.out _ _ (Or.inr (fun _ => X.out.c4 (i := 0) rfl)) ?_
        clear hK K
        try simp only [Act.put, seti, set0, setS]
        obtain ⟨V22, hV⟩ := wexi X.out
        rw [← hV] at X ⊢
        clear hV
        refine wpLate_one (i := 8) (o := ⟨none, _, _, _, _, _⟩) (by kernel_rfl) rfl (fun K hK => ?_)
        obtain ⟨x0, x1, x2, x3⟩ := X.out.c4 (i := 2) rfl
        obtain ⟨y0, y1, y2, y3⟩ := X.out.f4 (i := 2) rfl
        have X := Lib.hid (X.out.set4 (i := 2) rfl (.bool bl) (.string ml) (.bool false) (.string ⟨#[]⟩))
        go_simp
        refine hK.out _ _ (Or.inr (fun _ => X.out.c4 (i := 0) rfl)) ?_
        clear hK K x0 x1 x2 x3 y0 y1 y2 y3
        try simp only [Act.put, seti, set0, setS]
        obtain ⟨W23, hV⟩ := wexi X.out
        rw [← hV] at X ⊢
        clear hV
        refine wpLate_one (i := 9) (o := ⟨none, _, _, _, _, _⟩) (by kernel_rfl) rfl (fun K hK => ?_)
        obtain ⟨x0, x1, x2, x3⟩ := X.out.c4 (i := 1) rfl
        obtain ⟨y0, y1, y2, y3⟩ := X.out.f4 (i := 1) rfl
        have X := Lib.hid (X.out.set4 (i := 1) rfl (.bool bu) (.string mu) (.bool false) (.string ⟨#[]⟩))
        go_simp
        refine hK.out _ _ (Or.inr (fun _ => X.out.c4 (i := 0) rfl)) ?_
        clear hK K x0 x1 x2 x3 y0 y1 y2 y3
        try simp only [Act.put, seti, set0, setS]
        obtain ⟨W24, hV⟩ := wexi X.out
        rw [← hV] at X ⊢
        clear hV
        refine wpLate_done (by kernel_rfl) ?_ _
        go_wp2_with fail
        go_meet
        exact ⟨_, _, rfl, rfl, X.out.pick [0, 2, 1] _ [] rfl (by decide) (by simp)⟩
        go_simp
        have X := Lib.hid (X.out.new #[.bool false, .string ⟨#[]⟩, .bool false, .string ⟨#[]⟩] 25)
        refine hK.out _ _ (Or.inr (fun _ => X.out.c4 (i := 0) rfl)) ?_
        clear hK K
        try simp only [Act.put, seti, set0, setS]
        obtain ⟨V25, hV⟩ := wexi X.out
        rw [← hV] at X ⊢
        clear hV
        refine wpLate_one (i := 4) (o := ⟨some 13, _, _, _, _, _⟩) (by kernel_rfl) rfl (fun K hK => ?_)
        go_simp
        (go_at_call 47; refine (HCE.out _).mono ?_; rintro e u26 ⟨rfl, hb9⟩; have X := Lib.hid (X.out.next hb9); clear hb9)
        try go_wp2_with fail
        refine hK.out _ _ (Or.inr (fun _ => X.out.c4 (i := 0) rfl)) ?_
        clear hK K
        try simp only [Act.put, seti, set0, setS]
        refine tk (i := 5) (oi := ⟨some 14, _, _, _, _, _⟩) (v := _) rfl (by kernel_rfl) (fun _ _ _ h => h) (X.out.c4 (i := 0) rfl) (Or.inl ⟨by rfl, by intro w hSw; (try dsimp only at hSw); (first | (go_simp; done) | (go_simp; with_reducible rfl))⟩) ?_
        try simp only [Act.put, seti, set0, setS]
        refine wpLate_one (i := 8) (o := ⟨none, _, _, _, _, _⟩) (by kernel_rfl) rfl (fun K hK => ?_)
        obtain ⟨x0, x1, x2, x3⟩ := X.out.c4 (i := 2) rfl
        obtain ⟨y0, y1, y2, y3⟩ := X.out.f4 (i := 2) rfl
        have X := Lib.hid (X.out.set4 (i := 2) rfl (.bool bl) (.string ml) (.bool false) (.string ⟨#[]⟩))
        go_simp
        refine hK.out _ _ (Or.inr (fun _ => X.out.c4 (i := 0) rfl)) ?_
        clear hK K x0 x1 x2 x3 y0 y1 y2 y3
        try simp only [Act.put, seti, set0, setS]
        obtain ⟨W27, hV⟩ := wexi X.out
        rw [← hV] at X ⊢
        clear hV
        refine wpLate_one (i := 9) (o := ⟨none, _, _, _, _, _⟩) (by kernel_rfl) rfl (fun K hK => ?_)
        obtain ⟨x0, x1, x2, x3⟩ := X.out.c4 (i := 1) rfl
        obtain ⟨y0, y1, y2, y3⟩ := X.out.f4 (i := 1) rfl
        have X := Lib.hid (X.out.set4 (i := 1) rfl (.bool bu) (.string mu) (.bool false) (.string ⟨#[]⟩))
        go_simp
        refine hK.out _ _ (Or.inr (fun _ => X.out.c4 (i := 0) rfl)) ?_
        clear hK K x0 x1 x2 x3 y0 y1 y2 y3
        try simp only [Act.put, seti, set0, setS]
        obtain ⟨W28, hV⟩ := wexi X.out
        rw [← hV] at X ⊢
        clear hV
        refine wpLate_done (by kernel_rfl) ?_ _
        go_wp2_with fail
        go_meet
        exact ⟨_, _, rfl, rfl, X.out.pick [0, 2, 1] _ [] rfl (by decide) (by simp)⟩
    · as_aux_lemma =>
      go_simp
      have X := Lib.hid (X.out.new #[.bool false, .string ⟨#[]⟩, .bool false, .string ⟨#[]⟩] 25)
      refine hK.out _ _ (Or.inr (fun _ => X.out.c4 (i := 0) rfl)) ?_
      clear hK K
      try simp only [Act.put, seti, set0, setS]
      obtain ⟨V29, hV⟩ := wexi X.out
      rw [← hV] at X ⊢
      clear hV
      refine wpLate_two (i := 1) (j := 7) (o := ⟨some 10, _, _, _, _, _⟩) (o' := ⟨some 5, _, _, _, _, _⟩) (by kernel_rfl) rfl rfl (fun K hK => ?_) (fun K hK => ?_)
      · as_aux_lemma =>
        go_simp
        (go_at_call 46; refine (HFL.out _).mono ?_; rintro e u30 ⟨rfl, hb9⟩; have X := Lib.hid (X.out.next hb9); clear hb9)
        try go_wp2_with fail
        refine hK.out _ _ (Or.inr (fun _ => X.out.c4 (i := 0) rfl)) ?_
        clear hK K
        try simp only [Act.put, seti, set0, setS]
        refine tk (i := 2) (oi := ⟨some 11, _, _, _, _, _⟩) (v := _) rfl (by kernel_rfl) (fun _ _ _ h => h) (X.out.c4 (i := 0) rfl) (Or.inl ⟨by rfl, by intro w hSw; (try dsimp only at hSw); (first | (go_simp; done) | (go_simp; with_reducible rfl))⟩) ?_
        try simp only [Act.put, seti, set0, setS]
        refine wpLate_two (i := 4) (j := 7) (o := ⟨some 13, _, _, _, _, _⟩) (o' := ⟨some 5, _, _, _, _, _⟩) (by kernel_rfl) rfl rfl (fun K hK => ?_) (fun K hK => ?_)
        go_simp
        (go_at_call 47; refine (HCE.out _).mono ?_; rintro e u31 ⟨rfl, hb9⟩; have X := Lib.hid (X.out.next hb9); clear hb9)
        try go_wp2_with fail
        refine hK.out _ _ (Or.inr (fun _ => X.out.c4 (i := 0) rfl)) ?_
        clear hK K
        try simp only [Act.put, seti, set0, setS]
        refine tk (i := 5) (oi := ⟨some 14, _, _, _, _, _⟩) (v := _) rfl (by kernel_rfl) (fun _ _ _ h => h) (X.out.c4 (i := 0) rfl) (Or.inl ⟨by rfl, by intro w hSw; (try dsimp only at hSw); (first | (go_simp; done) | (go_simp; with_reducible rfl))⟩) ?_
        try simp only [Act.put, seti, set0, setS]
        refine wpLate_one (i := 7) (o := ⟨some 5, _, _, _, _, _⟩) (by kernel_rfl) rfl (fun K hK => ?_)
        go_simp
        have X := Lib.hid (X.out.new #[.bool false, .string ⟨#[]⟩, .bool false, .string ⟨#[]⟩] 25)
        refine hK.out _ _ (Or.inr (fun _ => X.out.c4 (i := 0) rfl)) ?_
        clear hK K
        try simp only [Act.put, seti, set0, setS]
        obtain ⟨V32, hV⟩ := wexi X.out
        rw [← hV] at X ⊢
        clear hV
        refine wpLate_one (i := 8) (o := ⟨none, _, _, _, _, _⟩) (by kernel_rfl) rfl (fun K hK => ?_)
        obtain ⟨x0, x1, x2, x3⟩ := X.out.c4 (i := 1) rfl
        obtain ⟨y0, y1, y2, y3⟩ := X.out.f4 (i := 1) rfl
        have X := Lib.hid (X.out.set4 (i := 1) rfl (.bool bl) (.string ml) (.bool false) (.string ⟨#[]⟩))
        go_simp
        refine hK.out _ _ (Or.inr (fun _ => X.out.c4 (i := 0) rfl)) ?_
        clear hK K x0 x1 x2 x3 y0 y1 y2 y3
        try simp only [Act.put, seti, set0, setS]
        obtain ⟨W33, hV⟩ := wexi X.out
        rw [← hV] at X ⊢
        clear hV
        refine wpLate_one (i := 9) (o := ⟨none, _, _, _, _, _⟩) (by kernel_rfl) rfl (fun K hK => ?_)
        obtain ⟨x0, x1, x2, x3⟩ := X.out.c4 (i := 2) rfl
        obtain ⟨y0, y1, y2, y3⟩ := X.out.f4 (i := 2) rfl
        have X := Lib.hid (X.out.set4 (i := 2) rfl (.bool bu) (.string mu) (.bool false) (.string ⟨#[]⟩))
        go_simp
        refine hK.out _ _ (Or.inr (fun _ => X.out.c4 (i := 0) rfl)) ?_
        clear hK K x0 x1 x2 x3 y0 y1 y2 y3
        try simp only [Act.put, seti, set0, setS]
        obtain ⟨W34, hV⟩ := wexi X.out
        rw [← hV] at X ⊢
        clear hV
        refine wpLate_done (by kernel_rfl) ?_ _
        go_wp2_with fail
        go_meet
        exact ⟨_, _, rfl, rfl, X.out.pick [0, 1, 2] _ [] rfl (by decide) (by simp)⟩
        go_simp
        have X := Lib.hid (X.out.new #[.bool false, .string ⟨#[]⟩, .bool false, .string ⟨#[]⟩] 25)
        refine hK.out _ _ (Or.inr (fun _ => X.out.c4 (i := 0) rfl)) ?_
        clear hK K
        try simp only [Act.put, seti, set0, setS]
        obtain ⟨V35, hV⟩ := wexi X.out
        rw [← hV] at X ⊢
        clear hV
        refine wpLate_one (i := 4) (o := ⟨some 13, _, _, _, _, _⟩) (by kernel_rfl) rfl (fun K hK => ?_)
        go_simp
        (go_at_call 47; refine (HCE.out _).mono ?_; rintro e u36 ⟨rfl, hb9⟩; have X := Lib.hid (X.out.next hb9); clear hb9)
        try go_wp2_with fail
        refine hK.out _ _ (Or.inr (fun _ => X.out.c4 (i := 0) rfl)) ?_
        clear hK K
        try simp only [Act.put, seti, set0, setS]
        refine tk (i := 5) (oi := ⟨some 14, _, _, _, _, _⟩) (v := _) rfl (by kernel_rfl) (fun _ _ _ h => h) (X.out.c4 (i := 0) rfl) (Or.inl ⟨by rfl, by intro w hSw; (try dsimp only at hSw); (first | (go_simp; done) | (go_simp; with_reducible rfl))⟩) ?_
        try simp only [Act.put, seti, set0, setS]
        refine wpLate_one (i := 8) (o := ⟨none, _, _, _, _, _⟩) (by kernel_rfl) rfl (fun K hK => ?_)
        obtain ⟨x0, x1, x2, x3⟩ := X.out.c4 (i := 1) rfl
        obtain ⟨y0, y1, y2, y3⟩ := X.out.f4 (i := 1) rfl
        have X := Lib.hid (X.out.set4 (i := 1) rfl (.bool bl) (.string ml) (.bool false) (.string ⟨#[]⟩))
        go_simp
        refine hK.out _ _ (Or.inr (fun _ => X.out.c4 (i := 0) rfl)) ?_
        clear hK K x0 x1 x2 x3 y0 y1 y2 y3
        try simp only [Act.put, seti, set0, setS]
        obtain ⟨W37, hV⟩ := wexi X.out
        rw [← hV] at X ⊢
        clear hV
        refine wpLate_one (i := 9) (o := ⟨none, _, _, _, _, _⟩) (by kernel_rfl) rfl (fun K hK => ?_)
        obtain ⟨x0, x1, x2, x3⟩ := X.out.c4 (i := 2) rfl
        obtain ⟨y0, y1, y2, y3⟩ := X.out.f4 (i := 2) rfl
        have X := Lib.hid (X.out.set4 (i := 2) rfl (.bool bu) (.string mu) (.bool false) (.string ⟨#[]⟩))
        go_simp
        refine hK.out _ _ (Or.inr (fun _ => X.out.c4 (i := 0) rfl)) ?_
        clear hK K x0 x1 x2 x3 y0 y1 y2 y3
        try simp only [Act.put, seti, set0, setS]
        obtain ⟨W38, hV⟩ := wexi X.out
        rw [← hV] at X ⊢
        clear hV
        refine wpLate_done (by kernel_rfl) ?_ _
        go_wp2_with fail
        go_meet
        exact ⟨_, _, rfl, rfl, X.out.pick [0, 1, 2] _ [] rfl (by decide) (by simp)⟩
      go_simp
      have X := Lib.hid (X.out.new #[.bool false, .string ⟨#[]⟩, .bool false, .string ⟨#[]⟩] 25)
      refine hK.out _ _ (Or.inr (fun _ => X.out.c4 (i := 0) rfl)) ?_
      clear hK K
      try simp only [Act.put, seti, set0, setS]
      obtain ⟨V39, hV⟩ := wexi X.out
      rw [← hV] at X ⊢
      clear hV
      refine wpLate_one (i := 1) (o := ⟨some 10, _, _, _, _, _⟩) (by kernel_rfl) rfl (fun K hK => ?_)
      go_simp
      (go_at_call 46; refine (HFL.out _).mono ?_; rintro e u40 ⟨rfl, hb9⟩; have X := Lib.hid (X.out.next hb9); clear hb9)
      try go_wp2_with fail
      refine hK.out _ _ (Or.inr (fun _ => X.out.c4 (i := 0) rfl)) ?_
      clear hK K
      try simp only [Act.put, seti, set0, setS]
      refine tk (i := 2) (oi := ⟨some 11, _, _, _, _, _⟩) (v := _) rfl (by kernel_rfl) (fun _ _ _ h => h) (X.out.c4 (i := 0) rfl) (Or.inl ⟨by rfl, by intro w hSw; (try dsimp only at hSw); (first | (go_simp; done) | (go_simp; with_reducible rfl))⟩) ?_
      try simp only [Act.put, seti, set0, setS]
      refine wpLate_one (i := 4) (o := ⟨some 13, _, _, _, _, _⟩) (by kernel_rfl) rfl (fun K hK => ?_)
      go_simp
      (go_at_call 47; refine (HCE.out _).mono ?_; rintro e u41 ⟨rfl, hb9⟩; have X := Lib.hid (X.out.next hb9); clear hb9)
      try go_wp2_with fail
      refine hK.out _ _ (Or.inr (fun _ => X.out.c4 (i := 0) rfl)) ?_
      clear hK K
      try simp only [Act.put, seti, set0, setS]
      refine tk (i := 5) (oi := ⟨some 14, _, _, _, _, _⟩) (v := _) rfl (by kernel_rfl) (fun _ _ _ h => h) (X.out.c4 (i := 0) rfl) (Or.inl ⟨by rfl, by intro w hSw; (try dsimp only at hSw); (first | (go_simp; done) | (go_simp; with_reducible rfl))⟩) ?_
      try simp only [Act.put, seti, set0, setS]
      refine wpLate_one (i := 8) (o := ⟨none, _, _, _, _, _⟩) (by kernel_rfl) rfl (fun K hK => ?_)
      obtain ⟨x0, x1, x2, x3⟩ := X.out.c4 (i := 1) rfl
      obtain ⟨y0, y1, y2, y3⟩ := X.out.f4 (i := 1) rfl
      have X := Lib.hid (X.out.set4 (i := 1) rfl (.bool bl) (.string ml) (.bool false) (.string ⟨#[]⟩))
      go_simp
      refine hK.out _ _ (Or.inr (fun _ => X.out.c4 (i := 0) rfl)) ?_
      clear hK K x0 x1 x2 x3 y0 y1 y2 y3
      try simp only [Act.put, seti, set0, setS]
      obtain ⟨W42, hV⟩ := wexi X.out
      rw [← hV] at X ⊢
      clear hV
      refine wpLate_one (i := 9) (o := ⟨none, _, _, _, _, _⟩) (by kernel_rfl) rfl (fun K hK => ?_)
      obtain ⟨x0, x1, x2, x3⟩ := X.out.c4 (i := 2) rfl
      obtain ⟨y0, y1, y2, y3⟩ := X.out.f4 (i := 2) rfl
      have X := Lib.hid (X.out.set4 (i := 2) rfl (.bool bu) (.string mu) (.bool false) (.string ⟨#[]⟩))
      go_simp
      refine hK.out _ _ (Or.inr (fun _ => X.out.c4 (i := 0) rfl)) ?_
      clear hK K x0 x1 x2 x3 y0 y1 y2 y3
      try simp only [Act.put, seti, set0, setS]
      obtain ⟨W43, hV⟩ := wexi X.out
      rw [← hV] at X ⊢
      clear hV
      refine wpLate_done (by kernel_rfl) ?_ _
      go_wp2_with fail
      go_meet
      exact ⟨_, _, rfl, rfl, X.out.pick [0, 1, 2] _ [] rfl (by decide) (by simp)⟩
    · as_aux_lemma =>
      go_simp
      have X := Lib.hid (X.out.new #[.bool false, .string ⟨#[]⟩, .bool false, .string ⟨#[]⟩] 25)
      refine hK.out _ _ (Or.inr (fun _ => X.out.c4 (i := 0) rfl)) ?_
      clear hK K
      try simp only [Act.put, seti, set0, setS]
      obtain ⟨V44, hV⟩ := wexi X.out
      rw [← hV] at X ⊢
      clear hV
      refine wpLate_two (i := 1) (j := 6) (o := ⟨some 10, _, _, _, _, _⟩) (o' := ⟨some 4, _, _, _, _, _⟩) (by kernel_rfl) rfl rfl (fun K hK => ?_) (fun K hK => ?_)
      · as_aux_lemma =>
        go_simp
        (go_at_call 46; refine (HFL.out _).mono ?_; rintro e u45 ⟨rfl, hb9⟩; have X := Lib.hid (X.out.next hb9); clear hb9)
        try go_wp2_with fail
        refine hK.out _ _ (Or.inr (fun _ => X.out.c4 (i := 0) rfl)) ?_
        clear hK K
        try simp only [Act.put, seti, set0, setS]
        refine tk (i := 2) (oi := ⟨some 11, _, _, _, _, _⟩) (v := _) rfl (by kernel_rfl) (fun _ _ _ h => h) (X.out.c4 (i := 0) rfl) (Or.inl ⟨by rfl, by intro w hSw; (try dsimp only at hSw); (first | (go_simp; done) | (go_simp; with_reducible rfl))⟩) ?_
        try simp only [Act.put, seti, set0, setS]
        refine wpLate_two (i := 4) (j := 6) (o := ⟨some 13, _, _, _, _, _⟩) (o' := ⟨some 4, _, _, _, _, _⟩) (by kernel_rfl) rfl rfl (fun K hK => ?_) (fun K hK => ?_)
        go_simp
        (go_at_call 47; refine (HCE.out _).mono ?_; rintro e u46 ⟨rfl, hb9⟩; have X := Lib.hid (X.out.next hb9); clear hb9)
        try go_wp2_with fail
        refine hK.out _ _ (Or.inr (fun _ => X.out.c4 (i := 0) rfl)) ?_
        clear hK K
        try simp only [Act.put, seti, set0, setS]
        refine tk (i := 5) (oi := ⟨some 14, _, _, _, _, _⟩) (v := _) rfl (by kernel_rfl) (fun _ _ _ h => h) (X.out.c4 (i := 0) rfl) (Or.inl ⟨by rfl, by intro w hSw; (try dsimp only at hSw); (first | (go_simp; done) | (go_simp; with_reducible rfl))⟩) ?_
        try simp only [Act.put, seti, set0, setS]
        refine wpLate_one (i := 6) (o := ⟨some 4, _, _, _, _, _⟩) (by kernel_rfl) rfl (fun K hK => ?_)
        go_simp
        have X := Lib.hid (X.out.new #[.bool false, .string ⟨#[]⟩, .bool false, .string ⟨#[]⟩] 25)
        refine hK.out _ _ (Or.inr (fun _ => X.out.c4 (i := 0) rfl)) ?_
        clear hK K
        try simp only [Act.put, seti, set0, setS]
        obtain ⟨V47, hV⟩ := wexi X.out
        rw [← hV] at X ⊢
        clear hV
        refine wpLate_one (i := 8) (o := ⟨none, _, _, _, _, _⟩) (by kernel_rfl) rfl (fun K hK => ?_)
        obtain ⟨x0, x1, x2, x3⟩ := X.out.c4 (i := 2) rfl
        obtain ⟨y0, y1, y2, y3⟩ := X.out.f4 (i := 2) rfl
        have X := Lib.hid (X.out.set4 (i := 2) rfl (.bool bl) (.string ml) (.bool false) (.string ⟨#[]⟩))
        go_simp
        refine hK.out _ _ (Or.inr (fun _ => X.out.c4 (i := 0) rfl)) ?_
        clear hK K x0 x1 x2 x3 y0 y1 y2 y3
        try simp only [Act.put, seti, set0, setS]
        obtain ⟨W48, hV⟩ := wexi X.out
        rw [← hV] at X ⊢
        clear hV
        refine wpLate_one (i := 9) (o := ⟨none, _, _, _, _, _⟩) (by kernel_rfl) rfl (fun K hK => ?_)
        obtain ⟨x0, x1, x2, x3⟩ := X.out.c4 (i := 1) rfl
        obtain ⟨y0, y1, y2, y3⟩ := X.out.f4 (i := 1) rfl
        have X := Lib.hid (X.out.set4 (i := 1) rfl (.bool bu) (.string mu) (.bool false) (.string ⟨#[]⟩))
        go_simp
        refine hK.out _ _ (Or.inr (fun _ => X.out.c4 (i := 0) rfl)) ?_
        clear hK K x0 x1 x2 x3 y0 y1 y2 y3
        try simp only [Act.put, seti, set0, setS]
        obtain ⟨W49, hV⟩ := wexi X.out
        rw [← hV] at X ⊢
        clear hV
        refine wpLate_done (by kernel_rfl) ?_ _
        go_wp2_with fail
        go_meet
        exact ⟨_, _, rfl, rfl, X.out.pick [0, 2, 1] _ [] rfl (by decide) (by simp)⟩
        go_simp
        have X := Lib.hid (X.out.new #[.bool false, .string ⟨#[]⟩, .bool false, .string ⟨#[]⟩] 25)
        refine hK.out _ _ (Or.inr (fun _ => X.out.c4 (i := 0) rfl)) ?_
        clear hK K
        try simp only [Act.put, seti, set0, setS]
        obtain ⟨V50, hV⟩ := wexi X.out
        rw [← hV] at X ⊢
        clear hV
        refine wpLate_one (i := 4) (o := ⟨some 13, _, _, _, _, _⟩) (by kernel_rfl) rfl (fun K hK => ?_)
        go_simp
        (go_at_call 47; refine (HCE.out _).mono ?_; rintro e u51 ⟨rfl, hb9⟩; have X := Lib.hid (X.out.next hb9); clear hb9)
        try go_wp2_with fail
        refine hK.out _ _ (Or.inr (fun _ => X.out.c4 (i := 0) rfl)) ?_
        clear hK K
        try simp only [Act.put, seti, set0, setS]
        refine tk (i := 5) (oi := ⟨some 14, _, _, _, _, _⟩) (v := _) rfl (by kernel_rfl) (fun _ _ _ h => h) (X.out.c4 (i := 0) rfl) (Or.inl ⟨by rfl, by intro w hSw; (try dsimp only at hSw); (first | (go_simp; done) | (go_simp; with_reducible rfl))⟩) ?_
        try simp only [Act.put, seti, set0, setS]
        refine wpLate_one (i := 8) (o := ⟨none, _, _, _, _, _⟩) (by kernel_rfl) rfl (fun K hK => ?_)
        obtain ⟨x0, x1, x2, x3⟩ := X.out.c4 (i := 2) rfl
        obtain ⟨y0, y1, y2, y3⟩ := X.out.f4 (i := 2) rfl
        have X := Lib.hid (X.out.set4 (i := 2) rfl (.bool bl) (.string ml) (.bool false) (.string ⟨#[]⟩))
        go_simp
        refine hK.out _ _ (Or.inr (fun _ => X.out.c4 (i := 0) rfl)) ?_
        clear hK K x0 x1 x2 x3 y0 y1 y2 y3
        try simp only [Act.put, seti, set0, setS]
        obtain ⟨W52, hV⟩ := wexi X.out
        rw [← hV] at X ⊢
        clear hV
        refine wpLate_one (i := 9) (o := ⟨none, _, _, _, _, _⟩) (by kernel_rfl) rfl (fun K hK => ?_)
        obtain ⟨x0, x1, x2, x3⟩ := X.out.c4 (i := 1) rfl
        obtain ⟨y0, y1, y2, y3⟩ := X.out.f4 (i := 1) rfl
        have X := Lib.hid (X.out.set4 (i := 1) rfl (.bool bu) (.string mu) (.bool false) (.string ⟨#[]⟩))
        go_simp
        refine hK.out _ _ (Or.inr (fun _ => X.out.c4 (i := 0) rfl)) ?_
        clear hK K x0 x1 x2 x3 y0 y1 y2 y3
        try simp only [Act.put, seti, set0, setS]
        obtain ⟨W53, hV⟩ := wexi X.out
        rw [← hV] at X ⊢
        clear hV
        refine wpLate_done (by kernel_rfl) ?_ _
        go_wp2_with fail
        go_meet
        exact ⟨_, _, rfl, rfl, X.out.pick [0, 2, 1] _ [] rfl (by decide) (by simp)⟩
      go_simp
      have X := Lib.hid (X.out.new #[.bool false, .string ⟨#[]⟩, .bool false, .string ⟨#[]⟩] 25)
      refine hK.out _ _ (Or.inr (fun _ => X.out.c4 (i := 0) rfl)) ?_
      clear hK K
      try simp only [Act.put, seti, set0, setS]
      obtain ⟨V54, hV⟩ := wexi X.out
      rw [← hV] at X ⊢
      clear hV
      refine wpLate_one (i := 1) (o := ⟨some 10, _, _, _, _, _⟩) (by kernel_rfl) rfl (fun K hK => ?_)
      go_simp
      (go_at_call 46; refine (HFL.out _).mono ?_; rintro e u55 ⟨rfl, hb9⟩; have X := Lib.hid (X.out.next hb9); clear hb9)
      try go_wp2_with fail
      refine hK.out _ _ (Or.inr (fun _ => X.out.c4 (i := 0) rfl)) ?_
      clear hK K
      try simp only [Act.put, seti, set0, setS]
      refine tk (i := 2) (oi := ⟨some 11, _, _, _, _, _⟩) (v := _) rfl (by kernel_rfl) (fun _ _ _ h => h) (X.out.c4 (i := 0) rfl) (Or.inl ⟨by rfl, by intro w hSw; (try dsimp only at hSw); (first | (go_simp; done) | (go_simp; with_reducible rfl))⟩) ?_
      try simp only [Act.put, seti, set0, setS]
      refine wpLate_one (i := 4) (o := ⟨some 13, _, _, _, _, _⟩) (by kernel_rfl) rfl (fun K hK => ?_)
      go_simp
      (go_at_call 47; refine (HCE.out _).mono ?_; rintro e u56 ⟨rfl, hb9⟩; have X := Lib.hid (X.out.next hb9); clear hb9)
      try go_wp2_with fail
      refine hK.out _ _ (Or.inr (fun _ => X.out.c4 (i := 0) rfl)) ?_
      clear hK K
      try simp only [Act.put, seti, set0, setS]
      refine tk (i := 5) (oi := ⟨some 14, _, _, _, _, _⟩) (v := _) rfl (by kernel_rfl) (fun _ _ _ h => h) (X.out.c4 (i := 0) rfl) (Or.inl ⟨by rfl, by intro w hSw; (try dsimp only at hSw); (first | (go_simp; done) | (go_simp; with_reducible rfl))⟩) ?_
      try simp only [Act.put, seti, set0, setS]
      refine wpLate_one (i := 8) (o := ⟨none, _, _, _, _, _⟩) (by kernel_rfl) rfl (fun K hK => ?_)
      obtain ⟨x0, x1, x2, x3⟩ := X.out.c4 (i := 2) rfl
      obtain ⟨y0, y1, y2, y3⟩ := X.out.f4 (i := 2) rfl
      have X := Lib.hid (X.out.set4 (i := 2) rfl (.bool bl) (.string ml) (.bool false) (.string ⟨#[]⟩))
      go_simp
      refine hK.out _ _ (Or.inr (fun _ => X.out.c4 (i := 0) rfl)) ?_
      clear hK K x0 x1 x2 x3 y0 y1 y2 y3
      try simp only [Act.put, seti, set0, setS]
      obtain ⟨W57, hV⟩ := wexi X.out
      rw [← hV] at X ⊢
      clear hV
      refine wpLate_one (i := 9) (o := ⟨none, _, _, _, _, _⟩) (by kernel_rfl) rfl (fun K hK => ?_)
      obtain ⟨x0, x1, x2, x3⟩ := X.out.c4 (i := 1) rfl
      obtain ⟨y0, y1, y2, y3⟩ := X.out.f4 (i := 1) rfl
      have X := Lib.hid (X.out.set4 (i := 1) rfl (.bool bu) (.string mu) (.bool false) (.string ⟨#[]⟩))
      go_simp
      refine hK.out _ _ (Or.inr (fun _ => X.out.c4 (i := 0) rfl)) ?_
      clear hK K x0 x1 x2 x3 y0 y1 y2 y3
      try simp only [Act.put, seti, set0, setS]
      obtain ⟨W58, hV⟩ := wexi X.out
      rw [← hV] at X ⊢
      clear hV
      refine wpLate_done (by kernel_rfl) ?_ _
      go_wp2_with fail
      go_meet
      exact ⟨_, _, rfl, rfl, X.out.pick [0, 2, 1] _ [] rfl (by decide) (by simp)⟩
  obtain ⟨g4, g5, rfl, rfl, hX⟩ := hcut
  have X := Lib.hid hX
  clear hX
  go_upto_region 3 with fail
  go_cut [6] (fun s6 wx => ∃ g6, s6 = .pointer (some ⟨g6, 0, none⟩) ∧ Sb w [(g3, #[.bool ba, .string ma, .bool false, .string ka], 25), (g4, #[.bool bl, .string ml, .bool false, .string ⟨#[]⟩], 25), (g5, #[.bool bu, .string mu, .bool false, .string ⟨#[]⟩], 25), (g6, #[.bool b1, .string m1, .bool false, .string k1], 25)] [] wx)
  case first =>
    go_wp2_with fail
    refine (HOF.out _).mono ?_
    rintro e u1 ⟨rfl, hb9⟩
    have X := Lib.hid (X.out.next hb9)
    clear hb9
    go_wp2_with fail
    have X := Lib.hid (X.out.new #[.bool b1, .string m1, .bool false, .string k1] 25)
    go_meet
    exact ⟨_, rfl, X.out⟩
  obtain ⟨g6, rfl, hX⟩ := hcut
  have X := Lib.hid hX
  clear hX
  go_upto_region 4 with fail
  go_cut [24] (fun s24 wx => s24 = .bool false ∧ Sb w [(g3, #[.bool ba, .string ma, .bool false, .string ka], 25), (g4, #[.bool bl, .string ml, .bool false, .string ⟨#[]⟩], 25), (g5, #[.bool bu, .string mu, .bool false, .string ⟨#[]⟩], 25), (g6, #[.bool b1, .string m1, .bool false, .string k1], 25)] [] wx)
  case first =>
    go_wp2_with fail
    refine (HKN.out _ (HE.out _ X.out.bel)).mono ?_
    rintro e u1 ⟨rfl, hb9⟩
    have X := Lib.hid (X.out.next hb9)
    clear hb9
    obtain ⟨a0, a1, a2, a3⟩ := X.out.c4 (i := 1) rfl
    obtain ⟨c0, c1, c2, c3⟩ := X.out.c4 (i := 2) rfl
    go_wp2_with fail
    have X := Lib.hid (X.out.new #[.bool bl, .string ml, .bool false, .string ⟨#[]⟩, .bool bu, .string mu, .bool false, .string ⟨#[]⟩] 25)
    refine (HV.out _ _ (X.out.at (i := 4) rfl)).mono ?_
    rintro e u2 ⟨rfl, hb9⟩
    have X := Lib.hid (X.out.next hb9)
    clear hb9
    go_wp2_with fail
    go_meet
    exact ⟨rfl, X.out.pick [0, 1, 2, 3] _ [] rfl (by decide) (by simp)⟩
  obtain ⟨rfl, hX⟩ := hcut
  have X := Lib.hid hX
  clear hX
  go_upto_region 6 with fail
  refine wp_region_late (S := fun w' => (w'.cell? ⟨g3, 0, none⟩ = some (.bool ba) ∧ w'.cell? ⟨g3, 1, none⟩ = some (.string ma) ∧ w'.cell? ⟨g3, 2, none⟩ = some (.bool false) ∧ w'.cell? ⟨g3, 3, none⟩ = some (.string ka)) ∧ (w'.cell? ⟨g4, 0, none⟩ = some (.bool bl) ∧ w'.cell? ⟨g4, 1, none⟩ = some (.string ml) ∧ w'.cell? ⟨g4, 2, none⟩ = some (.bool false) ∧ w'.cell? ⟨g4, 3, none⟩ = some (.string ⟨#[]⟩)) ∧ (w'.cell? ⟨g5, 0, none⟩ = some (.bool bu) ∧ w'.cell? ⟨g5, 1, none⟩ = some (.string mu) ∧ w'.cell? ⟨g5, 2, none⟩ = some (.bool false) ∧ w'.cell? ⟨g5, 3, none⟩ = some (.string ⟨#[]⟩)) ∧ (w'.cell? ⟨g6, 0, none⟩ = some (.bool b1) ∧ w'.cell? ⟨g6, 1, none⟩ = some (.string m1) ∧ w'.cell? ⟨g6, 2, none⟩ = some (.bool false) ∧ w'.cell? ⟨g6, 3, none⟩ = some (.string k1))) (L := []) (by kernel_rfl) ?_
  have X := Lib.hid X.out.drew
  obtain ⟨V0, hV⟩ := wexi X.out
  rw [← hV] at X ⊢
  clear hV
  refine tk (i := 0) (oi := ⟨some 25, _, _, _, _, _⟩) (v := _) rfl (by kernel_rfl) (fun _ _ _ h => h) (⟨X.out.c4 (i := 0) rfl, X.out.c4 (i := 1) rfl, X.out.c4 (i := 2) rfl, X.out.c4 (i := 3) rfl⟩) (Or.inl ⟨by rfl, by intro w hSw; (try dsimp only at hSw); (first | (go_simp; done) | (go_simp; with_reducible rfl))⟩) ?_
  try simp only [Act.put, seti, set0, setS]
  refine tk (i := 1) (oi := ⟨some 26, _, _, _, _, _⟩) (v := _) rfl (by kernel_rfl) (fun _ _ _ h => h) (⟨X.out.c4 (i := 0) rfl, X.out.c4 (i := 1) rfl, X.out.c4 (i := 2) rfl, X.out.c4 (i := 3) rfl⟩) (Or.inl ⟨by rfl, by intro w hSw; (try dsimp only at hSw); (first | (go_simp; done) | (go_simp; with_reducible rfl))⟩) ?_
  try simp only [Act.put, seti, set0, setS]
  refine wpLate_one (i := 2) (o := ⟨some 27, _, _, _, _, _⟩) (by kernel_rfl) rfl (fun K hK => ?_)
  go_simp
  (go_at_call 48; refine (HRF.out _).mono ?_; rintro e u1 ⟨rfl, hb9⟩; have X := Lib.hid (X.out.next hb9); clear hb9)
  try go_wp2_with fail
  refine hK.out _ _ (Or.inr (fun _ => ⟨X.out.c4 (i := 0) rfl, X.out.c4 (i := 1) rfl, X.out.c4 (i := 2) rfl, X.out.c4 (i := 3) rfl⟩)) ?_
  clear hK K
  try simp only [Act.put, seti, set0, setS]
  refine tk (i := 3) (oi := ⟨some 28, _, _, _, _, _⟩) (v := _) rfl (by kernel_rfl) (fun _ _ _ h => h) (⟨X.out.c4 (i := 0) rfl, X.out.c4 (i := 1) rfl, X.out.c4 (i := 2) rfl, X.out.c4 (i := 3) rfl⟩) (Or.inl ⟨by rfl, by intro w hSw; (try dsimp only at hSw); (first | (go_simp; done) | (go_simp; with_reducible rfl))⟩) ?_
  try simp only [Act.put, seti, set0, setS]
  refine tk (i := 4) (oi := ⟨some 29, _, _, _, _, _⟩) (v := _) rfl (by kernel_rfl) (fun _ _ _ h => h) (⟨X.out.c4 (i := 0) rfl, X.out.c4 (i := 1) rfl, X.out.c4 (i := 2) rfl, X.out.c4 (i := 3) rfl⟩) (Or.inl ⟨by rfl, by intro w hSw; (try dsimp only at hSw); (first | (go_simp; done) | (go_simp; with_reducible rfl))⟩) ?_
  try simp only [Act.put, seti, set0, setS]
  refine tk (i := 5) (oi := ⟨some 30, _, _, _, _, _⟩) (v := _) rfl (by kernel_rfl) (fun _ _ _ h => h) (⟨X.out.c4 (i := 0) rfl, X.out.c4 (i := 1) rfl, X.out.c4 (i := 2) rfl, X.out.c4 (i := 3) rfl⟩) (Or.inl ⟨by rfl, by intro w hSw; (try dsimp only at hSw); (first | (go_simp; done) | (go_simp; with_reducible rfl))⟩) ?_
  try simp only [Act.put, seti, set0, setS]
  refine tk (i := 6) (oi := ⟨some 31, _, _, _, _, _⟩) (v := _) rfl (by kernel_rfl) (fun _ _ _ h => h) (⟨X.out.c4 (i := 0) rfl, X.out.c4 (i := 1) rfl, X.out.c4 (i := 2) rfl, X.out.c4 (i := 3) rfl⟩) (Or.inl ⟨by rfl, by intro w hSw; (try dsimp only at hSw); (first | (go_simp; done) | (go_simp; with_reducible rfl))⟩) ?_
  try simp only [Act.put, seti, set0, setS]
  refine wpLate_one (i := 7) (o := ⟨some 32, _, _, _, _, _⟩) (by kernel_rfl) rfl (fun K hK => ?_)
  go_simp
  (go_at_call 39; refine (H7.out _).mono ?_; rintro e u2 ⟨rfl, hb9⟩; have X := Lib.hid (X.out.next hb9); clear hb9)
  try go_wp2_with fail
  refine hK.out _ _ (Or.inr (fun _ => ⟨X.out.c4 (i := 0) rfl, X.out.c4 (i := 1) rfl, X.out.c4 (i := 2) rfl, X.out.c4 (i := 3) rfl⟩)) ?_
  clear hK K
  try simp only [Act.put, seti, set0, setS]
  refine tk (i := 8) (oi := ⟨some 33, _, _, _, _, _⟩) (v := _) rfl (by kernel_rfl) (fun _ _ _ h => h) (⟨X.out.c4 (i := 0) rfl, X.out.c4 (i := 1) rfl, X.out.c4 (i := 2) rfl, X.out.c4 (i := 3) rfl⟩) (Or.inl ⟨by rfl, by intro w hSw; (try dsimp only at hSw); (first | (go_simp; done) | (go_simp; with_reducible rfl))⟩) ?_
  try simp only [Act.put, seti, set0, setS]
  refine tk (i := 9) (oi := ⟨some 34, _, _, _, _, _⟩) (v := _) rfl (by kernel_rfl) (fun _ _ _ h => h) (⟨X.out.c4 (i := 0) rfl, X.out.c4 (i := 1) rfl, X.out.c4 (i := 2) rfl, X.out.c4 (i := 3) rfl⟩) (Or.inl ⟨by rfl, by intro w hSw; (try dsimp only at hSw); (first | (go_simp; done) | (go_simp; with_reducible rfl))⟩) ?_
  try simp only [Act.put, seti, set0, setS]
  refine tk (i := 10) (oi := ⟨some 35, _, _, _, _, _⟩) (v := _) rfl (by kernel_rfl) (fun _ _ _ h => h) (⟨X.out.c4 (i := 0) rfl, X.out.c4 (i := 1) rfl, X.out.c4 (i := 2) rfl, X.out.c4 (i := 3) rfl⟩) (Or.inl ⟨by rfl, by intro w hSw; (try dsimp only at hSw); (first | (go_simp; done) | (go_simp; with_reducible rfl))⟩) ?_
  try simp only [Act.put, seti, set0, setS]
  refine tk (i := 11) (oi := ⟨some 36, _, _, _, _, _⟩) (v := _) rfl (by kernel_rfl) (fun _ _ _ h => h) (⟨X.out.c4 (i := 0) rfl, X.out.c4 (i := 1) rfl, X.out.c4 (i := 2) rfl, X.out.c4 (i := 3) rfl⟩) (Or.inl ⟨by rfl, by intro w hSw; (try dsimp only at hSw); (first | (go_simp; done) | (go_simp; with_reducible rfl))⟩) ?_
  try simp only [Act.put, seti, set0, setS]
  refine tk (i := 12) (oi := ⟨some 37, _, _, _, _, _⟩) (v := _) rfl (by kernel_rfl) (fun _ _ _ h => h) (⟨X.out.c4 (i := 0) rfl, X.out.c4 (i := 1) rfl, X.out.c4 (i := 2) rfl, X.out.c4 (i := 3) rfl⟩) (Or.inl ⟨by rfl, by intro w hSw; (try dsimp only at hSw); (first | (go_simp; done) | (go_simp; with_reducible rfl))⟩) ?_
  try simp only [Act.put, seti, set0, setS]
  refine tk (i := 13) (oi := ⟨some 38, _, _, _, _, _⟩) (v := _) rfl (by kernel_rfl) (fun _ _ _ h => h) (⟨X.out.c4 (i := 0) rfl, X.out.c4 (i := 1) rfl, X.out.c4 (i := 2) rfl, X.out.c4 (i := 3) rfl⟩) (Or.inl ⟨by rfl, by intro w hSw; (try dsimp only at hSw); (first | (go_simp; done) | (go_simp; with_reducible rfl))⟩) ?_
  try simp only [Act.put, seti, set0, setS]
  refine wpLate_one (i := 14) (o := ⟨some 39, _, _, _, _, _⟩) (by kernel_rfl) rfl (fun K hK => ?_)
  go_simp
  (go_at_call 30; refine (H14.out _).mono ?_; rintro e u3 ⟨rfl, hb9⟩; have X := Lib.hid (X.out.next hb9); clear hb9)
  try go_wp2_with fail
  refine hK.out _ _ (Or.inr (fun _ => ⟨X.out.c4 (i := 0) rfl, X.out.c4 (i := 1) rfl, X.out.c4 (i := 2) rfl, X.out.c4 (i := 3) rfl⟩)) ?_
  clear hK K
  try simp only [Act.put, seti, set0, setS]
  refine wpLate_one (i := 15) (o := ⟨some 40, _, _, _, _, _⟩) (by kernel_rfl) rfl (fun K hK => ?_)
  go_simp
  (go_at_call 39; refine (H15.out _).mono ?_; rintro e u4 ⟨rfl, hb9⟩; have X := Lib.hid (X.out.next hb9); clear hb9)
  try go_wp2_with fail
  refine hK.out _ _ (Or.inr (fun _ => ⟨X.out.c4 (i := 0) rfl, X.out.c4 (i := 1) rfl, X.out.c4 (i := 2) rfl, X.out.c4 (i := 3) rfl⟩)) ?_
  clear hK K
  try simp only [Act.put, seti, set0, setS]
  refine tk (i := 16) (oi := ⟨some 41, _, _, _, _, _⟩) (v := _) rfl (by kernel_rfl) (fun _ _ _ h => h) (⟨X.out.c4 (i := 0) rfl, X.out.c4 (i := 1) rfl, X.out.c4 (i := 2) rfl, X.out.c4 (i := 3) rfl⟩) (Or.inl ⟨by rfl, by intro w hSw; (try dsimp only at hSw); (first | (go_simp; done) | (go_simp; with_reducible rfl))⟩) ?_
  try simp only [Act.put, seti, set0, setS]
  refine tk (i := 17) (oi := ⟨some 42, _, _, _, _, _⟩) (v := _) rfl (by kernel_rfl) (fun _ _ _ h => h) (⟨X.out.c4 (i := 0) rfl, X.out.c4 (i := 1) rfl, X.out.c4 (i := 2) rfl, X.out.c4 (i := 3) rfl⟩) (Or.inl ⟨by rfl, by intro w hSw; (try dsimp only at hSw); (first | (go_simp; done) | (go_simp; with_reducible rfl))⟩) ?_
  try simp only [Act.put, seti, set0, setS]
  refine tk (i := 18) (oi := ⟨some 43, _, _, _, _, _⟩) (v := _) rfl (by kernel_rfl) (fun _ _ _ h => h) (⟨X.out.c4 (i := 0) rfl, X.out.c4 (i := 1) rfl, X.out.c4 (i := 2) rfl, X.out.c4 (i := 3) rfl⟩) (Or.inl ⟨by rfl, by intro w hSw; (try dsimp only at hSw); (first | (go_simp; done) | (go_simp; with_reducible rfl))⟩) ?_
  try simp only [Act.put, seti, set0, setS]
  refine tk (i := 19) (oi := ⟨some 44, _, _, _, _, _⟩) (v := _) rfl (by kernel_rfl) (fun _ _ _ h => h) (⟨X.out.c4 (i := 0) rfl, X.out.c4 (i := 1) rfl, X.out.c4 (i := 2) rfl, X.out.c4 (i := 3) rfl⟩) (Or.inl ⟨by rfl, by intro w hSw; (try dsimp only at hSw); (first | (go_simp; done) | (go_simp; with_reducible rfl))⟩) ?_
  try simp only [Act.put, seti, set0, setS]
  refine tk (i := 20) (oi := ⟨some 45, _, _, _, _, _⟩) (v := _) rfl (by kernel_rfl) (fun _ _ _ h => h) (⟨X.out.c4 (i := 0) rfl, X.out.c4 (i := 1) rfl, X.out.c4 (i := 2) rfl, X.out.c4 (i := 3) rfl⟩) (Or.inl ⟨by rfl, by intro w hSw; (try dsimp only at hSw); (first | (go_simp; done) | (go_simp; with_reducible rfl))⟩) ?_
  try simp only [Act.put, seti, set0, setS]
  refine wpLate_one (i := 21) (o := ⟨some 46, _, _, _, _, _⟩) (by kernel_rfl) rfl (fun K hK => ?_)
  go_simp
  (go_at_call 39; refine (H21.out _).mono ?_; rintro e u5 ⟨rfl, hb9⟩; have X := Lib.hid (X.out.next hb9); clear hb9)
  try go_wp2_with fail
  refine hK.out _ _ (Or.inr (fun _ => ⟨X.out.c4 (i := 0) rfl, X.out.c4 (i := 1) rfl, X.out.c4 (i := 2) rfl, X.out.c4 (i := 3) rfl⟩)) ?_
  clear hK K
  try simp only [Act.put, seti, set0, setS]
  refine tk (i := 22) (oi := ⟨some 47, _, _, _, _, _⟩) (v := _) rfl (by kernel_rfl) (fun _ _ _ h => h) (⟨X.out.c4 (i := 0) rfl, X.out.c4 (i := 1) rfl, X.out.c4 (i := 2) rfl, X.out.c4 (i := 3) rfl⟩) (Or.inl ⟨by rfl, by intro w hSw; (try dsimp only at hSw); (first | (go_simp; done) | (go_simp; with_reducible rfl))⟩) ?_
  try simp only [Act.put, seti, set0, setS]
  refine tk (i := 23) (oi := ⟨some 48, _, _, _, _, _⟩) (v := _) rfl (by kernel_rfl) (fun _ _ _ h => h) (⟨X.out.c4 (i := 0) rfl, X.out.c4 (i := 1) rfl, X.out.c4 (i := 2) rfl, X.out.c4 (i := 3) rfl⟩) (Or.inl ⟨by rfl, by intro w hSw; (try dsimp only at hSw); (first | (go_simp; done) | (go_simp; with_reducible rfl))⟩) ?_
  try simp only [Act.put, seti, set0, setS]
  refine tk (i := 24) (oi := ⟨some 49, _, _, _, _, _⟩) (v := _) rfl (by kernel_rfl) (fun _ _ _ h => h) (⟨X.out.c4 (i := 0) rfl, X.out.c4 (i := 1) rfl, X.out.c4 (i := 2) rfl, X.out.c4 (i := 3) rfl⟩) (Or.inl ⟨by rfl, by intro w hSw; (try dsimp only at hSw); (first | (go_simp; done) | (go_simp; with_reducible rfl))⟩) ?_
  try simp only [Act.put, seti, set0, setS]
  refine tk (i := 25) (oi := ⟨some 50, _, _, _, _, _⟩) (v := _) rfl (by kernel_rfl) (fun _ _ _ h => h) (⟨X.out.c4 (i := 0) rfl, X.out.c4 (i := 1) rfl, X.out.c4 (i := 2) rfl, X.out.c4 (i := 3) rfl⟩) (Or.inl ⟨by rfl, by intro w hSw; (try dsimp only at hSw); (first | (go_simp; done) | (go_simp; with_reducible rfl))⟩) ?_
  try simp only [Act.put, seti, set0, setS]
  refine tk (i := 26) (oi := ⟨some 51, _, _, _, _, _⟩) (v := _) rfl (by kernel_rfl) (fun _ _ _ h => h) (⟨X.out.c4 (i := 0) rfl, X.out.c4 (i := 1) rfl, X.out.c4 (i := 2) rfl, X.out.c4 (i := 3) rfl⟩) (Or.inl ⟨by rfl, by intro w hSw; (try dsimp only at hSw); (first | (go_simp; done) | (go_simp; with_reducible rfl))⟩) ?_
  try simp only [Act.put, seti, set0, setS]
  refine tk (i := 28) (oi := ⟨some 53, _, _, _, _, _⟩) (v := _) rfl (by kernel_rfl) (fun _ _ _ h => h) (⟨X.out.c4 (i := 0) rfl, X.out.c4 (i := 1) rfl, X.out.c4 (i := 2) rfl, X.out.c4 (i := 3) rfl⟩) (Or.inl ⟨by rfl, by intro w hSw; (try dsimp only at hSw); (first | (go_simp; done) | (go_simp; with_reducible rfl))⟩) ?_
  try simp only [Act.put, seti, set0, setS]
  refine wpLate_one (i := 27) (o := ⟨some 52, _, _, _, _, _⟩) (by kernel_rfl) rfl (fun K hK => ?_)
  go_simp
  (go_at_call 31; refine (H28.out _).mono ?_; rintro e u6 ⟨rfl, hb9⟩; have X := Lib.hid (X.out.next hb9); clear hb9)
  try go_wp2_with fail
  refine hK.out _ _ (Or.inr (fun _ => ⟨X.out.c4 (i := 0) rfl, X.out.c4 (i := 1) rfl, X.out.c4 (i := 2) rfl, X.out.c4 (i := 3) rfl⟩)) ?_
  clear hK K
  try simp only [Act.put, seti, set0, setS]
  refine wpLate_one (i := 29) (o := ⟨some 54, _, _, _, _, _⟩) (by kernel_rfl) rfl (fun K hK => ?_)
  go_simp
  (go_at_call 39; refine (H29.out _).mono ?_; rintro e u7 ⟨rfl, hb9⟩; have X := Lib.hid (X.out.next hb9); clear hb9)
  try go_wp2_with fail
  refine hK.out _ _ (Or.inr (fun _ => ⟨X.out.c4 (i := 0) rfl, X.out.c4 (i := 1) rfl, X.out.c4 (i := 2) rfl, X.out.c4 (i := 3) rfl⟩)) ?_
  clear hK K
  try simp only [Act.put, seti, set0, setS]
  refine tk (i := 30) (oi := ⟨some 55, _, _, _, _, _⟩) (v := _) rfl (by kernel_rfl) (fun _ _ _ h => h) (⟨X.out.c4 (i := 0) rfl, X.out.c4 (i := 1) rfl, X.out.c4 (i := 2) rfl, X.out.c4 (i := 3) rfl⟩) (Or.inl ⟨by rfl, by intro w hSw; (try dsimp only at hSw); (first | (go_simp; done) | (go_simp; with_reducible rfl))⟩) ?_
  try simp only [Act.put, seti, set0, setS]
  refine tk (i := 31) (oi := ⟨some 56, _, _, _, _, _⟩) (v := _) rfl (by kernel_rfl) (fun _ _ _ h => h) (⟨X.out.c4 (i := 0) rfl, X.out.c4 (i := 1) rfl, X.out.c4 (i := 2) rfl, X.out.c4 (i := 3) rfl⟩) (Or.inl ⟨by rfl, by intro w hSw; (try dsimp only at hSw); (first | (go_simp; done) | (go_simp; with_reducible rfl))⟩) ?_
  try simp only [Act.put, seti, set0, setS]
  refine tk (i := 32) (oi := ⟨some 2, _, _, _, _, _⟩) (v := _) rfl (by kernel_rfl) (fun _ _ _ h => h) (⟨X.out.c4 (i := 0) rfl, X.out.c4 (i := 1) rfl, X.out.c4 (i := 2) rfl, X.out.c4 (i := 3) rfl⟩) (Or.inl ⟨by rfl, by intro w hSw; (try dsimp only at hSw); (first | (go_simp; done) | (go_simp; with_reducible rfl))⟩) ?_
  try simp only [Act.put, seti, set0, setS]
  refine wpLate_done (by kernel_rfl) ?_ _
  go_wp2
  go_ret
  exact ⟨rfl, X.out.bel⟩
end Go.Proofs.YtahehlajpaoiiaaGreatDoor
