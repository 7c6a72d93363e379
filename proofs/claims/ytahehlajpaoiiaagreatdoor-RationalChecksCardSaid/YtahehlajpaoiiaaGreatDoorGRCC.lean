import Derived.Test.YtahehlajpaoiiaaGreatDoorGRCB

/-
  The walk of the statement about canonical fractions.
-/
namespace Go.Proofs.YtahehlajpaoiiaaGreatDoor
open Go.RowKit
attribute [local go_sem ↓] Go.wp_at_zero Go.wp_at_succ
attribute [local go_sem] undef yielded

set_option maxHeartbeats 1000000 in
set_option maxRecDepth 100000 in
theorem short_any (b : Bool) (m : ByteArray) (c : Bool) (k : ByteArray) (r : Bool) (hr : r = (decide (m.size ≤ 40) && decide (k.size ≤ 40))) (w : World) : Calls Tryz.prog 15 #[.agg #[.bool b, .string m, .bool c, .string k]] w (RetB w (.bool r)) := by
  have HB := Lib.hid (below_new w (.cells #[.bool b, .string m, .bool c, .string k] 25))
  by_cases h1 : m.size ≤ 40
  · by_cases h2 : k.size ≤ 40
    · rw [decide_eq_true h1, decide_eq_true h2] at hr
      subst hr
      go_enter Tryz.func15, Tryz.ntmps15
      go_wp2
      go_ret
      exact ⟨by first | rfl | (simp [h1, h2]; done) | (simp [h1, h2]; omega), HB.out⟩
    · rw [decide_eq_true h1, decide_eq_false h2] at hr
      subst hr
      go_enter Tryz.func15, Tryz.ntmps15
      go_wp2
      go_ret
      exact ⟨by first | rfl | (simp [h1, h2]; done) | (simp [h1, h2]; omega), HB.out⟩
  · rw [decide_eq_false h1, Bool.false_and] at hr
    subst hr
    go_enter Tryz.func15, Tryz.ntmps15
    go_wp2
    go_ret
    exact ⟨by first | rfl | (simp [h1]; done) | (simp [h1]; omega), HB.out⟩

set_option maxHeartbeats 1000000 in
set_option maxRecDepth 100000 in
theorem num_any (b : Bool) (m : ByteArray) (c : Bool) (k : ByteArray) (w : World) : Calls Tryz.prog 19 #[.agg #[.bool b, .string m, .bool c, .string k]] w (RetB w (.agg #[.bool b, .string m])) := by
  have KK := Lib.hid (Kb.start w #[.bool b, .string m, .bool c, .string k] #[.bool false, .string ⟨#[]⟩] 25 23)
  obtain ⟨p0, p1, p2, p3⟩ := blk4 KK.out.k1
  obtain ⟨t0, t1, f0, f1⟩ := blk_cells KK.out.k2
  go_enter Tryz.func19, Tryz.ntmps19
  go_wp2
  exact bodyPost_ret (v := .agg #[.bool b, .string m]) (by simp [results, Tryz.results19, go_sem, t0, t1]) rfl ⟨rfl, (Kb.start w _ _ _ _).bel⟩

set_option maxHeartbeats 1000000 in
set_option maxRecDepth 100000 in
theorem lawDen_f {q : Rat} {b : Bool} {m k : ByteArray} (h : Rq q b m k) (w : World) : Calls Tryz.prog 21 #[.agg #[.bool b, .string m, .bool false, .string k]] w (RetB w (.agg #[.bool false, .string (mag q.den)])) := by
  have KK := Lib.hid (Kb.start w #[.bool b, .string m, .bool false, .string k] #[.bool false, .string ⟨#[]⟩] 25 23)
  by_cases hd : q.den = 1
  · obtain rfl := h.den1 hd
    have HI := Lib.hid (fun V => rint_any 1 (by omega) (by omega) V)
    have H1 := Lib.hid (show enc 1 = .agg #[.bool false, .string ⟨#[1]⟩] from by rw [← mag_one]; exact enc_mag 1)
    have hm : mag q.den = ⟨#[1]⟩ := by rw [hd]; exact mag_one
    rw [hm]
    clear h hd hm
    go_enter Tryz.func21, Tryz.ntmps21
    go_wp2_with fail
    refine (HI.out _).mono ?_
    rintro e w1 ⟨rfl, hb1⟩
    rw [H1.out]
    have K1 := Lib.hid (KK.out.next hb1)
    obtain ⟨t0, t1, f0, f1⟩ := blk_cells K1.out.k2
    clear hb1
    go_wp2
    exact bodyPost_ret (v := .agg #[.bool false, .string ⟨#[1]⟩]) (by simp [results, Tryz.results21, go_sem, t0, t1]) rfl ⟨rfl, below_set2 K1.out.bel (by omega) _ _⟩
  · have hk := h.den2 hd
    rw [← hk]
    have hne := toList_ne (l := []) (show k ≠ ⟨#[]⟩ from by rw [hk]; exact mag_no_nil q.den_nz)
    have hem : k.toList.isEmpty = false := by rw [List.isEmpty_eq_false_iff]; exact hne
    obtain ⟨p0, p1, p2, p3⟩ := blk4 KK.out.k1
    obtain ⟨t0, t1, f0, f1⟩ := blk_cells KK.out.k2
    clear h hd hk
    go_enter Tryz.func21, Tryz.ntmps21
    go_wp2
    exact bodyPost_ret (v := .agg #[.bool false, .string k]) (by simp [results, Tryz.results21, go_sem, t0, t1]) rfl ⟨rfl, (Kb.start w _ _ _ _).bel⟩

theorem divInt_self (q : Rat) : Rat.divInt q.num (q.den : Int) = q := by rw [Rat.divInt_ofNat]; exact Rat.mkRat_self q

set_option maxHeartbeats 16000000 in
set_option maxRecDepth 100000 in
theorem rchecks_walk (b : Bool) (m : ByteArray) (c : Bool) (k : ByteArray) (w : World) (hE : Env w) :
    Calls Tryz.prog 3 #[.agg #[.bool b, .string m, .bool c, .string k]] w (RetB w (.bool true)) := by
  have HKN := Lib.hid (fun V (hV : Env V) => rknown_any V hV)
  have HE := Lib.hid (fun V (h : Below w.heap.size w V) => hE.next h)
  clear hE
  by_cases hs : m.size ≤ 40 ∧ k.size ≤ 40
  · have HSH := Lib.hid (fun V => short_any b m c k true (by rw [decide_eq_true hs.1, decide_eq_true hs.2]; rfl) V)
    by_cases hq : c = false ∧ ∃ q, Rq q b m k
    · obtain ⟨rfl, q, hq⟩ := hq
      have HRC := Lib.hid (fun V => rCheck_yes hq (by omega) (by omega) V)
      have HC := Lib.hid (fun V (hV : Env V) => ratCheck_f hq (by omega) (by omega) V hV)
      have HN := Lib.hid (fun V => num_any b m false k V)
      have HD := Lib.hid (fun V (hV : Env V) => den_f hq V hV)
      have HLD := Lib.hid (fun V => lawDen_f hq V)
      have hds : (mag q.den).size ≤ 100000 := by
        by_cases h1 : q.den = 1
        · rw [h1, mag_one]; decide
        · rw [← hq.den2 h1]; omega
      have HM := Lib.hid (fun V (hV : Env V) => make_f hq.num (enc_mag q.den) (by rw [divInt_self]; exact hq) (by have := q.den_nz; omega) (by omega) hds V hV)
      generalize mag q.den = md at *
      clear hs hq hds
      have X := Lib.hid ((Sb.start w).new #[.bool b, .string m, .bool false, .string k] 25)
      have X := Lib.hid (X.out.pick [0] [(w.heap.size, #[.bool b, .string m, .bool false, .string k], 25)] [] (by simp) (by decide) (by simp))
      obtain ⟨a0, a1, a2, a3⟩ := X.out.c4 (i := 0) rfl
      go_enter Tryz.func3, Tryz.ntmps3
      go_wp2_with fail
      refine (HKN.out _ (HE.out _ X.out.bel)).mono ?_
      rintro e w1 ⟨rfl, hb9⟩
      have X := Lib.hid (X.out.next hb9)
      clear hb9
      clear a0 a1 a2 a3
      obtain ⟨a0, a1, a2, a3⟩ := X.out.c4 (i := 0) rfl
      go_wp2_with fail
      refine (HSH.out _).mono ?_
      rintro e w2 ⟨rfl, hb9⟩
      have X := Lib.hid (X.out.next hb9)
      clear hb9
      clear a0 a1 a2 a3
      obtain ⟨a0, a1, a2, a3⟩ := X.out.c4 (i := 0) rfl
      go_wp2_with fail
      refine (HRC.out _).mono ?_
      rintro e w3 ⟨rfl, hb9⟩
      have X := Lib.hid (X.out.next hb9)
      clear hb9
      clear a0 a1 a2 a3
      go_upto_region 5 with fail
      go_cut [3, 4] (fun s3 s4 wx => ∃ g3, s3 = .pointer (some ⟨g3, 0, none⟩) ∧ s4 = .int .i64 0 ∧ Sb w [(w.heap.size, #[.bool b, .string m, .bool false, .string k], 25), (g3, #[.bool b, .string m, .bool false, .string k], 25)] [] wx)
      case first =>
        refine wp_region_late (S := fun w' => (w'.cell? ⟨w.heap.size, 0, none⟩ = some (.bool b) ∧ w'.cell? ⟨w.heap.size, 1, none⟩ = some (.string m) ∧ w'.cell? ⟨w.heap.size, 2, none⟩ = some (.bool false) ∧ w'.cell? ⟨w.heap.size, 3, none⟩ = some (.string k))) (L := []) (by kernel_rfl) ?_
        have X := Lib.hid X.out.drew
        obtain ⟨V0, hV⟩ := wexi X.out
        rw [← hV] at X ⊢
        clear hV
        refine tk (i := 0) (oi := ⟨some 20, _, _, _, _, _⟩) (v := _) rfl (by kernel_rfl) (fun _ _ _ h => h) (X.out.c4 (i := 0) rfl) (Or.inl ⟨by rfl, by intro w hSw; (try dsimp only at hSw); (first | (go_simp; done) | (go_simp; with_reducible rfl))⟩) ?_
        try simp only [Act.put, seti, set0, setS]
        refine tk (i := 2) (oi := ⟨some 22, _, _, _, _, _⟩) (v := _) rfl (by kernel_rfl) (fun _ _ _ h => h) (X.out.c4 (i := 0) rfl) (Or.inl ⟨by rfl, by intro w hSw; (try dsimp only at hSw); (first | (go_simp; done) | (go_simp; with_reducible rfl))⟩) ?_
        try simp only [Act.put, seti, set0, setS]
        refine wpLate_two (i := 1) (j := 8) (o := ⟨some 21, _, _, _, _, _⟩) (o' := ⟨some 3, _, _, _, _, _⟩) (by kernel_rfl) rfl rfl (fun K hK => ?_) (fun K hK => ?_)
        · as_aux_lemma =>
          go_simp
          (go_at_call 19; refine (HN.out _).mono ?_; rintro e u1 ⟨rfl, hb9⟩; have X := Lib.hid (X.out.next hb9); clear hb9)
          try go_wp2_with fail
          refine hK.out _ _ (Or.inr (fun _ => X.out.c4 (i := 0) rfl)) ?_
          clear hK K
          try simp only [Act.put, seti, set0, setS]
          refine wpLate_two (i := 3) (j := 8) (o := ⟨some 23, _, _, _, _, _⟩) (o' := ⟨some 3, _, _, _, _, _⟩) (by kernel_rfl) rfl rfl (fun K hK => ?_) (fun K hK => ?_)
          go_simp
          (go_at_call 20; refine (HD.out _ (HE.out _ X.out.bel)).mono ?_; rintro e u2 ⟨rfl, hb9⟩; have X := Lib.hid (X.out.next hb9); clear hb9)
          try go_wp2_with fail
          refine hK.out _ _ (Or.inr (fun _ => X.out.c4 (i := 0) rfl)) ?_
          clear hK K
          try simp only [Act.put, seti, set0, setS]
          refine wpLate_two (i := 4) (j := 8) (o := ⟨some 24, _, _, _, _, _⟩) (o' := ⟨some 3, _, _, _, _, _⟩) (by kernel_rfl) rfl rfl (fun K hK => ?_) (fun K hK => ?_)
          go_simp
          (go_at_call 18; refine (HM.out _ (HE.out _ X.out.bel)).mono ?_; rintro e u3 ⟨rfl, hb9⟩; have X := Lib.hid (X.out.next hb9); clear hb9)
          try go_wp2_with fail
          refine hK.out _ _ (Or.inr (fun _ => X.out.c4 (i := 0) rfl)) ?_
          clear hK K
          try simp only [Act.put, seti, set0, setS]
          refine tk (i := 5) (oi := ⟨some 19, _, _, _, _, _⟩) (v := _) rfl (by kernel_rfl) (fun _ _ _ h => h) (X.out.c4 (i := 0) rfl) (Or.inl ⟨by rfl, by intro w hSw; (try dsimp only at hSw); (first | (go_simp; done) | (go_simp; with_reducible rfl))⟩) ?_
          try simp only [Act.put, seti, set0, setS]
          refine tk (i := 6) (oi := ⟨some 25, _, _, _, _, _⟩) (v := _) rfl (by kernel_rfl) (fun _ _ _ h => h) (X.out.c4 (i := 0) rfl) (Or.inl ⟨by rfl, by intro w hSw; (try dsimp only at hSw); (first | (go_simp; done) | (go_simp; with_reducible rfl))⟩) ?_
          try simp only [Act.put, seti, set0, setS]
          refine tk (i := 7) (oi := ⟨some 26, _, _, _, _, _⟩) (v := _) rfl (by kernel_rfl) (fun _ _ _ h => h) (X.out.c4 (i := 0) rfl) (Or.inl ⟨by rfl, by intro w hSw; (try dsimp only at hSw); (first | (go_simp; done) | (go_simp; with_reducible rfl))⟩) ?_
          try simp only [Act.put, seti, set0, setS]
          refine wpLate_one (i := 8) (o := ⟨some 3, _, _, _, _, _⟩) (by kernel_rfl) rfl (fun K hK => ?_)
          go_simp
          have X := Lib.hid (X.out.new #[.bool false, .string ⟨#[]⟩, .bool false, .string ⟨#[]⟩] 25)
          refine hK.out _ _ (Or.inr (fun _ => X.out.c4 (i := 0) rfl)) ?_
          clear hK K
          try simp only [Act.put, seti, set0, setS]
          obtain ⟨V4, hV⟩ := wexi X.out
          rw [← hV] at X ⊢
          clear hV
          refine wpLate_one (i := 9) (o := ⟨none, _, _, _, _, _⟩) (by kernel_rfl) rfl (fun K hK => ?_)
          obtain ⟨x0, x1, x2, x3⟩ := X.out.c4 (i := 1) rfl
          obtain ⟨y0, y1, y2, y3⟩ := X.out.f4 (i := 1) rfl
          have X := Lib.hid (X.out.set4 (i := 1) rfl (.bool b) (.string m) (.bool false) (.string k))
          go_simp
          refine hK.out _ _ (Or.inr (fun _ => X.out.c4 (i := 0) rfl)) ?_
          clear hK K x0 x1 x2 x3 y0 y1 y2 y3
          try simp only [Act.put, seti, set0, setS]
          obtain ⟨W5, hV⟩ := wexi X.out
          rw [← hV] at X ⊢
          clear hV
          refine tk (i := 10) (oi := ⟨some 4, _, _, _, _, _⟩) (v := _) rfl (by kernel_rfl) (fun _ _ _ h => h) (X.out.c4 (i := 0) rfl) (Or.inl ⟨by rfl, by intro w hSw; (try dsimp only at hSw); (first | (go_simp; done) | (go_simp; with_reducible rfl))⟩) ?_
          try simp only [Act.put, seti, set0, setS]
          refine wpLate_done (by kernel_rfl) ?_ _
          go_wp2_with fail
          go_meet
          exact ⟨_, rfl, rfl, X.out.pick [0, 1] _ [] rfl (by decide) (by simp)⟩
          go_simp
          have X := Lib.hid (X.out.new #[.bool false, .string ⟨#[]⟩, .bool false, .string ⟨#[]⟩] 25)
          refine hK.out _ _ (Or.inr (fun _ => X.out.c4 (i := 0) rfl)) ?_
          clear hK K
          try simp only [Act.put, seti, set0, setS]
          obtain ⟨V6, hV⟩ := wexi X.out
          rw [← hV] at X ⊢
          clear hV
          refine wpLate_one (i := 4) (o := ⟨some 24, _, _, _, _, _⟩) (by kernel_rfl) rfl (fun K hK => ?_)
          go_simp
          (go_at_call 18; refine (HM.out _ (HE.out _ X.out.bel)).mono ?_; rintro e u7 ⟨rfl, hb9⟩; have X := Lib.hid (X.out.next hb9); clear hb9)
          try go_wp2_with fail
          refine hK.out _ _ (Or.inr (fun _ => X.out.c4 (i := 0) rfl)) ?_
          clear hK K
          try simp only [Act.put, seti, set0, setS]
          refine tk (i := 5) (oi := ⟨some 19, _, _, _, _, _⟩) (v := _) rfl (by kernel_rfl) (fun _ _ _ h => h) (X.out.c4 (i := 0) rfl) (Or.inl ⟨by rfl, by intro w hSw; (try dsimp only at hSw); (first | (go_simp; done) | (go_simp; with_reducible rfl))⟩) ?_
          try simp only [Act.put, seti, set0, setS]
          refine tk (i := 6) (oi := ⟨some 25, _, _, _, _, _⟩) (v := _) rfl (by kernel_rfl) (fun _ _ _ h => h) (X.out.c4 (i := 0) rfl) (Or.inl ⟨by rfl, by intro w hSw; (try dsimp only at hSw); (first | (go_simp; done) | (go_simp; with_reducible rfl))⟩) ?_
          try simp only [Act.put, seti, set0, setS]
          refine tk (i := 7) (oi := ⟨some 26, _, _, _, _, _⟩) (v := _) rfl (by kernel_rfl) (fun _ _ _ h => h) (X.out.c4 (i := 0) rfl) (Or.inl ⟨by rfl, by intro w hSw; (try dsimp only at hSw); (first | (go_simp; done) | (go_simp; with_reducible rfl))⟩) ?_
          try simp only [Act.put, seti, set0, setS]
          refine wpLate_one (i := 9) (o := ⟨none, _, _, _, _, _⟩) (by kernel_rfl) rfl (fun K hK => ?_)
          obtain ⟨x0, x1, x2, x3⟩ := X.out.c4 (i := 1) rfl
          obtain ⟨y0, y1, y2, y3⟩ := X.out.f4 (i := 1) rfl
          have X := Lib.hid (X.out.set4 (i := 1) rfl (.bool b) (.string m) (.bool false) (.string k))
          go_simp
          refine hK.out _ _ (Or.inr (fun _ => X.out.c4 (i := 0) rfl)) ?_
          clear hK K x0 x1 x2 x3 y0 y1 y2 y3
          try simp only [Act.put, seti, set0, setS]
          obtain ⟨W8, hV⟩ := wexi X.out
          rw [← hV] at X ⊢
          clear hV
          refine tk (i := 10) (oi := ⟨some 4, _, _, _, _, _⟩) (v := _) rfl (by kernel_rfl) (fun _ _ _ h => h) (X.out.c4 (i := 0) rfl) (Or.inl ⟨by rfl, by intro w hSw; (try dsimp only at hSw); (first | (go_simp; done) | (go_simp; with_reducible rfl))⟩) ?_
          try simp only [Act.put, seti, set0, setS]
          refine wpLate_done (by kernel_rfl) ?_ _
          go_wp2_with fail
          go_meet
          exact ⟨_, rfl, rfl, X.out.pick [0, 1] _ [] rfl (by decide) (by simp)⟩
          go_simp
          have X := Lib.hid (X.out.new #[.bool false, .string ⟨#[]⟩, .bool false, .string ⟨#[]⟩] 25)
          refine hK.out _ _ (Or.inr (fun _ => X.out.c4 (i := 0) rfl)) ?_
          clear hK K
          try simp only [Act.put, seti, set0, setS]
          obtain ⟨V9, hV⟩ := wexi X.out
          rw [← hV] at X ⊢
          clear hV
          refine wpLate_one (i := 3) (o := ⟨some 23, _, _, _, _, _⟩) (by kernel_rfl) rfl (fun K hK => ?_)
          go_simp
          (go_at_call 20; refine (HD.out _ (HE.out _ X.out.bel)).mono ?_; rintro e u10 ⟨rfl, hb9⟩; have X := Lib.hid (X.out.next hb9); clear hb9)
          try go_wp2_with fail
          refine hK.out _ _ (Or.inr (fun _ => X.out.c4 (i := 0) rfl)) ?_
          clear hK K
          try simp only [Act.put, seti, set0, setS]
          refine wpLate_one (i := 4) (o := ⟨some 24, _, _, _, _, _⟩) (by kernel_rfl) rfl (fun K hK => ?_)
          go_simp
          (go_at_call 18; refine (HM.out _ (HE.out _ X.out.bel)).mono ?_; rintro e u11 ⟨rfl, hb9⟩; have X := Lib.hid (X.out.next hb9); clear hb9)
          try go_wp2_with fail
          refine hK.out _ _ (Or.inr (fun _ => X.out.c4 (i := 0) rfl)) ?_
          clear hK K
          try simp only [Act.put, seti, set0, setS]
          refine tk (i := 5) (oi := ⟨some 19, _, _, _, _, _⟩) (v := _) rfl (by kernel_rfl) (fun _ _ _ h => h) (X.out.c4 (i := 0) rfl) (Or.inl ⟨by rfl, by intro w hSw; (try dsimp only at hSw); (first | (go_simp; done) | (go_simp; with_reducible rfl))⟩) ?_
          try simp only [Act.put, seti, set0, setS]
          refine tk (i := 6) (oi := ⟨some 25, _, _, _, _, _⟩) (v := _) rfl (by kernel_rfl) (fun _ _ _ h => h) (X.out.c4 (i := 0) rfl) (Or.inl ⟨by rfl, by intro w hSw; (try dsimp only at hSw); (first | (go_simp; done) | (go_simp; with_reducible rfl))⟩) ?_
          try simp only [Act.put, seti, set0, setS]
          refine tk (i := 7) (oi := ⟨some 26, _, _, _, _, _⟩) (v := _) rfl (by kernel_rfl) (fun _ _ _ h => h) (X.out.c4 (i := 0) rfl) (Or.inl ⟨by rfl, by intro w hSw; (try dsimp only at hSw); (first | (go_simp; done) | (go_simp; with_reducible rfl))⟩) ?_
          try simp only [Act.put, seti, set0, setS]
          refine wpLate_one (i := 9) (o := ⟨none, _, _, _, _, _⟩) (by kernel_rfl) rfl (fun K hK => ?_)
          obtain ⟨x0, x1, x2, x3⟩ := X.out.c4 (i := 1) rfl
          obtain ⟨y0, y1, y2, y3⟩ := X.out.f4 (i := 1) rfl
          have X := Lib.hid (X.out.set4 (i := 1) rfl (.bool b) (.string m) (.bool false) (.string k))
          go_simp
          refine hK.out _ _ (Or.inr (fun _ => X.out.c4 (i := 0) rfl)) ?_
          clear hK K x0 x1 x2 x3 y0 y1 y2 y3
          try simp only [Act.put, seti, set0, setS]
          obtain ⟨W12, hV⟩ := wexi X.out
          rw [← hV] at X ⊢
          clear hV
          refine tk (i := 10) (oi := ⟨some 4, _, _, _, _, _⟩) (v := _) rfl (by kernel_rfl) (fun _ _ _ h => h) (X.out.c4 (i := 0) rfl) (Or.inl ⟨by rfl, by intro w hSw; (try dsimp only at hSw); (first | (go_simp; done) | (go_simp; with_reducible rfl))⟩) ?_
          try simp only [Act.put, seti, set0, setS]
          refine wpLate_done (by kernel_rfl) ?_ _
          go_wp2_with fail
          go_meet
          exact ⟨_, rfl, rfl, X.out.pick [0, 1] _ [] rfl (by decide) (by simp)⟩
        go_simp
        have X := Lib.hid (X.out.new #[.bool false, .string ⟨#[]⟩, .bool false, .string ⟨#[]⟩] 25)
        refine hK.out _ _ (Or.inr (fun _ => X.out.c4 (i := 0) rfl)) ?_
        clear hK K
        try simp only [Act.put, seti, set0, setS]
        obtain ⟨V13, hV⟩ := wexi X.out
        rw [← hV] at X ⊢
        clear hV
        refine wpLate_one (i := 1) (o := ⟨some 21, _, _, _, _, _⟩) (by kernel_rfl) rfl (fun K hK => ?_)
        go_simp
        (go_at_call 19; refine (HN.out _).mono ?_; rintro e u14 ⟨rfl, hb9⟩; have X := Lib.hid (X.out.next hb9); clear hb9)
        try go_wp2_with fail
        refine hK.out _ _ (Or.inr (fun _ => X.out.c4 (i := 0) rfl)) ?_
        clear hK K
        try simp only [Act.put, seti, set0, setS]
        refine wpLate_one (i := 3) (o := ⟨some 23, _, _, _, _, _⟩) (by kernel_rfl) rfl (fun K hK => ?_)
        go_simp
        (go_at_call 20; refine (HD.out _ (HE.out _ X.out.bel)).mono ?_; rintro e u15 ⟨rfl, hb9⟩; have X := Lib.hid (X.out.next hb9); clear hb9)
        try go_wp2_with fail
        refine hK.out _ _ (Or.inr (fun _ => X.out.c4 (i := 0) rfl)) ?_
        clear hK K
        try simp only [Act.put, seti, set0, setS]
        refine wpLate_one (i := 4) (o := ⟨some 24, _, _, _, _, _⟩) (by kernel_rfl) rfl (fun K hK => ?_)
        go_simp
        (go_at_call 18; refine (HM.out _ (HE.out _ X.out.bel)).mono ?_; rintro e u16 ⟨rfl, hb9⟩; have X := Lib.hid (X.out.next hb9); clear hb9)
        try go_wp2_with fail
        refine hK.out _ _ (Or.inr (fun _ => X.out.c4 (i := 0) rfl)) ?_
        clear hK K
        try simp only [Act.put, seti, set0, setS]
        refine tk (i := 5) (oi := ⟨some 19, _, _, _, _, _⟩) (v := _) rfl (by kernel_rfl) (fun _ _ _ h => h) (X.out.c4 (i := 0) rfl) (Or.inl ⟨by rfl, by intro w hSw; (try dsimp only at hSw); (first | (go_simp; done) | (go_simp; with_reducible rfl))⟩) ?_
        try simp only [Act.put, seti, set0, setS]
        refine tk (i := 6) (oi := ⟨some 25, _, _, _, _, _⟩) (v := _) rfl (by kernel_rfl) (fun _ _ _ h => h) (X.out.c4 (i := 0) rfl) (Or.inl ⟨by rfl, by intro w hSw; (try dsimp only at hSw); (first | (go_simp; done) | (go_simp; with_reducible rfl))⟩) ?_
        try simp only [Act.put, seti, set0, setS]
        refine tk (i := 7) (oi := ⟨some 26, _, _, _, _, _⟩) (v := _) rfl (by kernel_rfl) (fun _ _ _ h => h) (X.out.c4 (i := 0) rfl) (Or.inl ⟨by rfl, by intro w hSw; (try dsimp only at hSw); (first | (go_simp; done) | (go_simp; with_reducible rfl))⟩) ?_
        try simp only [Act.put, seti, set0, setS]
        refine wpLate_one (i := 9) (o := ⟨none, _, _, _, _, _⟩) (by kernel_rfl) rfl (fun K hK => ?_)
        obtain ⟨x0, x1, x2, x3⟩ := X.out.c4 (i := 1) rfl
        obtain ⟨y0, y1, y2, y3⟩ := X.out.f4 (i := 1) rfl
        have X := Lib.hid (X.out.set4 (i := 1) rfl (.bool b) (.string m) (.bool false) (.string k))
        go_simp
        refine hK.out _ _ (Or.inr (fun _ => X.out.c4 (i := 0) rfl)) ?_
        clear hK K x0 x1 x2 x3 y0 y1 y2 y3
        try simp only [Act.put, seti, set0, setS]
        obtain ⟨W17, hV⟩ := wexi X.out
        rw [← hV] at X ⊢
        clear hV
        refine tk (i := 10) (oi := ⟨some 4, _, _, _, _, _⟩) (v := _) rfl (by kernel_rfl) (fun _ _ _ h => h) (X.out.c4 (i := 0) rfl) (Or.inl ⟨by rfl, by intro w hSw; (try dsimp only at hSw); (first | (go_simp; done) | (go_simp; with_reducible rfl))⟩) ?_
        try simp only [Act.put, seti, set0, setS]
        refine wpLate_done (by kernel_rfl) ?_ _
        go_wp2_with fail
        go_meet
        exact ⟨_, rfl, rfl, X.out.pick [0, 1] _ [] rfl (by decide) (by simp)⟩
      obtain ⟨g3, rfl, rfl, hX⟩ := hcut
      have X := Lib.hid hX
      clear hX
      go_upto_region 6 with fail
      refine wp_region_late (S := fun w' => (w'.cell? ⟨w.heap.size, 0, none⟩ = some (.bool b) ∧ w'.cell? ⟨w.heap.size, 1, none⟩ = some (.string m) ∧ w'.cell? ⟨w.heap.size, 2, none⟩ = some (.bool false) ∧ w'.cell? ⟨w.heap.size, 3, none⟩ = some (.string k)) ∧ (w'.cell? ⟨g3, 0, none⟩ = some (.bool b) ∧ w'.cell? ⟨g3, 1, none⟩ = some (.string m) ∧ w'.cell? ⟨g3, 2, none⟩ = some (.bool false) ∧ w'.cell? ⟨g3, 3, none⟩ = some (.string k))) (L := []) (by kernel_rfl) ?_
      have X := Lib.hid X.out.drew
      obtain ⟨V0, hV⟩ := wexi X.out
      rw [← hV] at X ⊢
      clear hV
      refine tk (i := 0) (oi := ⟨some 27, _, _, _, _, _⟩) (v := _) rfl (by kernel_rfl) (fun _ _ _ h => h) (⟨X.out.c4 (i := 0) rfl, X.out.c4 (i := 1) rfl⟩) (Or.inl ⟨by rfl, by intro w hSw; (try dsimp only at hSw); (first | (go_simp; done) | (go_simp; with_reducible rfl))⟩) ?_
      try simp only [Act.put, seti, set0, setS]
      refine wpLate_one (i := 1) (o := ⟨some 28, _, _, _, _, _⟩) (by kernel_rfl) rfl (fun K hK => ?_)
      go_simp
      (go_at_call 17; refine (HC.out _ (HE.out _ X.out.bel)).mono ?_; rintro e u1 ⟨rfl, hb9⟩; have X := Lib.hid (X.out.next hb9); clear hb9)
      try go_wp2_with fail
      refine hK.out _ _ (Or.inr (fun _ => ⟨X.out.c4 (i := 0) rfl, X.out.c4 (i := 1) rfl⟩)) ?_
      clear hK K
      try simp only [Act.put, seti, set0, setS]
      refine tk (i := 2) (oi := ⟨some 29, _, _, _, _, _⟩) (v := _) rfl (by kernel_rfl) (fun _ _ _ h => h) (⟨X.out.c4 (i := 0) rfl, X.out.c4 (i := 1) rfl⟩) (Or.inl ⟨by rfl, by intro w hSw; (try dsimp only at hSw); (first | (go_simp; done) | (go_simp; with_reducible rfl))⟩) ?_
      try simp only [Act.put, seti, set0, setS]
      refine tk (i := 3) (oi := ⟨some 30, _, _, _, _, _⟩) (v := _) rfl (by kernel_rfl) (fun _ _ _ h => h) (⟨X.out.c4 (i := 0) rfl, X.out.c4 (i := 1) rfl⟩) (Or.inl ⟨by rfl, by intro w hSw; (try dsimp only at hSw); (first | (go_simp; done) | (go_simp; with_reducible rfl))⟩) ?_
      try simp only [Act.put, seti, set0, setS]
      refine tk (i := 4) (oi := ⟨some 31, _, _, _, _, _⟩) (v := _) rfl (by kernel_rfl) (fun _ _ _ h => h) (⟨X.out.c4 (i := 0) rfl, X.out.c4 (i := 1) rfl⟩) (Or.inl ⟨by rfl, by intro w hSw; (try dsimp only at hSw); (first | (go_simp; done) | (go_simp; with_reducible rfl))⟩) ?_
      try simp only [Act.put, seti, set0, setS]
      refine tk (i := 5) (oi := ⟨some 32, _, _, _, _, _⟩) (v := _) rfl (by kernel_rfl) (fun _ _ _ h => h) (⟨X.out.c4 (i := 0) rfl, X.out.c4 (i := 1) rfl⟩) (Or.inl ⟨by rfl, by intro w hSw; (try dsimp only at hSw); (first | (go_simp; done) | (go_simp; with_reducible rfl))⟩) ?_
      try simp only [Act.put, seti, set0, setS]
      refine tk (i := 6) (oi := ⟨some 33, _, _, _, _, _⟩) (v := _) rfl (by kernel_rfl) (fun _ _ _ h => h) (⟨X.out.c4 (i := 0) rfl, X.out.c4 (i := 1) rfl⟩) (Or.inl ⟨by rfl, by intro w hSw; (try dsimp only at hSw); (first | (go_simp; done) | (go_simp; with_reducible rfl))⟩) ?_
      try simp only [Act.put, seti, set0, setS]
      refine tk (i := 7) (oi := ⟨some 34, _, _, _, _, _⟩) (v := _) rfl (by kernel_rfl) (fun _ _ _ h => h) (⟨X.out.c4 (i := 0) rfl, X.out.c4 (i := 1) rfl⟩) (Or.inl ⟨by rfl, by intro w hSw; (try dsimp only at hSw); (first | (go_simp; done) | (go_simp; with_reducible rfl))⟩) ?_
      try simp only [Act.put, seti, set0, setS]
      refine tk (i := 8) (oi := ⟨some 35, _, _, _, _, _⟩) (v := _) rfl (by kernel_rfl) (fun _ _ _ h => h) (⟨X.out.c4 (i := 0) rfl, X.out.c4 (i := 1) rfl⟩) (Or.inl ⟨by rfl, by intro w hSw; (try dsimp only at hSw); (first | (go_simp; done) | (go_simp; with_reducible rfl))⟩) ?_
      try simp only [Act.put, seti, set0, setS]
      refine tk (i := 9) (oi := ⟨some 36, _, _, _, _, _⟩) (v := _) rfl (by kernel_rfl) (fun _ _ _ h => h) (⟨X.out.c4 (i := 0) rfl, X.out.c4 (i := 1) rfl⟩) (Or.inl ⟨by rfl, by intro w hSw; (try dsimp only at hSw); (first | (go_simp; done) | (go_simp; with_reducible rfl))⟩) ?_
      try simp only [Act.put, seti, set0, setS]
      refine tk (i := 10) (oi := ⟨some 37, _, _, _, _, _⟩) (v := _) rfl (by kernel_rfl) (fun _ _ _ h => h) (⟨X.out.c4 (i := 0) rfl, X.out.c4 (i := 1) rfl⟩) (Or.inl ⟨by rfl, by intro w hSw; (try dsimp only at hSw); (first | (go_simp; done) | (go_simp; with_reducible rfl))⟩) ?_
      try simp only [Act.put, seti, set0, setS]
      refine tk (i := 11) (oi := ⟨some 38, _, _, _, _, _⟩) (v := _) rfl (by kernel_rfl) (fun _ _ _ h => h) (⟨X.out.c4 (i := 0) rfl, X.out.c4 (i := 1) rfl⟩) (Or.inl ⟨by rfl, by intro w hSw; (try dsimp only at hSw); (first | (go_simp; done) | (go_simp; with_reducible rfl))⟩) ?_
      try simp only [Act.put, seti, set0, setS]
      refine tk (i := 12) (oi := ⟨some 39, _, _, _, _, _⟩) (v := _) rfl (by kernel_rfl) (fun _ _ _ h => h) (⟨X.out.c4 (i := 0) rfl, X.out.c4 (i := 1) rfl⟩) (Or.inl ⟨by rfl, by intro w hSw; (try dsimp only at hSw); (first | (go_simp; done) | (go_simp; with_reducible rfl))⟩) ?_
      try simp only [Act.put, seti, set0, setS]
      refine tk (i := 13) (oi := ⟨some 40, _, _, _, _, _⟩) (v := _) rfl (by kernel_rfl) (fun _ _ _ h => h) (⟨X.out.c4 (i := 0) rfl, X.out.c4 (i := 1) rfl⟩) (Or.inl ⟨by rfl, by intro w hSw; (try dsimp only at hSw); (first | (go_simp; done) | (go_simp; with_reducible rfl))⟩) ?_
      try simp only [Act.put, seti, set0, setS]
      refine tk (i := 15) (oi := ⟨some 42, _, _, _, _, _⟩) (v := _) rfl (by kernel_rfl) (fun _ _ _ h => h) (⟨X.out.c4 (i := 0) rfl, X.out.c4 (i := 1) rfl⟩) (Or.inl ⟨by rfl, by intro w hSw; (try dsimp only at hSw); (first | (go_simp; done) | (go_simp; with_reducible rfl))⟩) ?_
      try simp only [Act.put, seti, set0, setS]
      refine tk (i := 16) (oi := ⟨some 43, _, _, _, _, _⟩) (v := _) rfl (by kernel_rfl) (fun _ _ _ h => h) (⟨X.out.c4 (i := 0) rfl, X.out.c4 (i := 1) rfl⟩) (Or.inl ⟨by rfl, by intro w hSw; (try dsimp only at hSw); (first | (go_simp; done) | (go_simp; with_reducible rfl))⟩) ?_
      try simp only [Act.put, seti, set0, setS]
      refine wpLate_one (i := 14) (o := ⟨some 41, _, _, _, _, _⟩) (by kernel_rfl) rfl (fun K hK => ?_)
      go_simp
      (go_at_call 19; refine (HN.out _).mono ?_; rintro e u2 ⟨rfl, hb9⟩; have X := Lib.hid (X.out.next hb9); clear hb9)
      try go_wp2_with fail
      refine hK.out _ _ (Or.inr (fun _ => ⟨X.out.c4 (i := 0) rfl, X.out.c4 (i := 1) rfl⟩)) ?_
      clear hK K
      try simp only [Act.put, seti, set0, setS]
      refine tk (i := 17) (oi := ⟨some 44, _, _, _, _, _⟩) (v := _) rfl (by kernel_rfl) (fun _ _ _ h => h) (⟨X.out.c4 (i := 0) rfl, X.out.c4 (i := 1) rfl⟩) (Or.inl ⟨by rfl, by intro w hSw; (try dsimp only at hSw); (first | (go_simp; done) | (go_simp; with_reducible rfl))⟩) ?_
      try simp only [Act.put, seti, set0, setS]
      refine tk (i := 18) (oi := ⟨some 45, _, _, _, _, _⟩) (v := _) rfl (by kernel_rfl) (fun _ _ _ h => h) (⟨X.out.c4 (i := 0) rfl, X.out.c4 (i := 1) rfl⟩) (Or.inl ⟨by rfl, by intro w hSw; (try dsimp only at hSw); (first | (go_simp; done) | (go_simp; with_reducible rfl))⟩) ?_
      try simp only [Act.put, seti, set0, setS]
      refine tk (i := 19) (oi := ⟨some 46, _, _, _, _, _⟩) (v := _) rfl (by kernel_rfl) (fun _ _ _ h => h) (⟨X.out.c4 (i := 0) rfl, X.out.c4 (i := 1) rfl⟩) (Or.inl ⟨by rfl, by intro w hSw; (try dsimp only at hSw); (first | (go_simp; done) | (go_simp; with_reducible rfl))⟩) ?_
      try simp only [Act.put, seti, set0, setS]
      refine tk (i := 20) (oi := ⟨some 47, _, _, _, _, _⟩) (v := _) rfl (by kernel_rfl) (fun _ _ _ h => h) (⟨X.out.c4 (i := 0) rfl, X.out.c4 (i := 1) rfl⟩) (Or.inl ⟨by rfl, by intro w hSw; (try dsimp only at hSw); (first | (go_simp; done) | (go_simp; with_reducible rfl))⟩) ?_
      try simp only [Act.put, seti, set0, setS]
      refine tk (i := 22) (oi := ⟨some 49, _, _, _, _, _⟩) (v := _) rfl (by kernel_rfl) (fun _ _ _ h => h) (⟨X.out.c4 (i := 0) rfl, X.out.c4 (i := 1) rfl⟩) (Or.inl ⟨by rfl, by intro w hSw; (try dsimp only at hSw); (first | (go_simp; done) | (go_simp; with_reducible rfl))⟩) ?_
      try simp only [Act.put, seti, set0, setS]
      refine wpLate_one (i := 21) (o := ⟨some 48, _, _, _, _, _⟩) (by kernel_rfl) rfl (fun K hK => ?_)
      go_simp
      (go_at_call 20; refine (HD.out _ (HE.out _ X.out.bel)).mono ?_; rintro e u3 ⟨rfl, hb9⟩; have X := Lib.hid (X.out.next hb9); clear hb9)
      try go_wp2_with fail
      refine hK.out _ _ (Or.inr (fun _ => ⟨X.out.c4 (i := 0) rfl, X.out.c4 (i := 1) rfl⟩)) ?_
      clear hK K
      try simp only [Act.put, seti, set0, setS]
      refine wpLate_one (i := 23) (o := ⟨some 50, _, _, _, _, _⟩) (by kernel_rfl) rfl (fun K hK => ?_)
      go_simp
      (go_at_call 21; refine (HLD.out _).mono ?_; rintro e u4 ⟨rfl, hb9⟩; have X := Lib.hid (X.out.next hb9); clear hb9)
      try go_wp2_with fail
      refine hK.out _ _ (Or.inr (fun _ => ⟨X.out.c4 (i := 0) rfl, X.out.c4 (i := 1) rfl⟩)) ?_
      clear hK K
      try simp only [Act.put, seti, set0, setS]
      refine tk (i := 24) (oi := ⟨some 51, _, _, _, _, _⟩) (v := _) rfl (by kernel_rfl) (fun _ _ _ h => h) (⟨X.out.c4 (i := 0) rfl, X.out.c4 (i := 1) rfl⟩) (Or.inl ⟨by rfl, by intro w hSw; (try dsimp only at hSw); (first | (go_simp; done) | (go_simp; with_reducible rfl))⟩) ?_
      try simp only [Act.put, seti, set0, setS]
      refine tk (i := 25) (oi := ⟨some 52, _, _, _, _, _⟩) (v := _) rfl (by kernel_rfl) (fun _ _ _ h => h) (⟨X.out.c4 (i := 0) rfl, X.out.c4 (i := 1) rfl⟩) (Or.inl ⟨by rfl, by intro w hSw; (try dsimp only at hSw); (first | (go_simp; done) | (go_simp; with_reducible rfl))⟩) ?_
      try simp only [Act.put, seti, set0, setS]
      refine tk (i := 26) (oi := ⟨some 2, _, _, _, _, _⟩) (v := _) rfl (by kernel_rfl) (fun _ _ _ h => h) (⟨X.out.c4 (i := 0) rfl, X.out.c4 (i := 1) rfl⟩) (Or.inl ⟨by rfl, by intro w hSw; (try dsimp only at hSw); (first | (go_simp; done) | (go_simp; with_reducible rfl))⟩) ?_
      try simp only [Act.put, seti, set0, setS]
      refine wpLate_done (by kernel_rfl) ?_ _
      go_wp2
      go_ret
      exact ⟨rfl, X.out.bel⟩
    · have HRC := Lib.hid (fun V => rCheck_no b m c k (by omega) (by omega) hq V)
      have HC := Lib.hid (fun V (hV : Env V) => ratCheck_no b m c k (by omega) (by omega) hq V hV)
      clear hs hq
      have X := Lib.hid ((Sb.start w).new #[.bool b, .string m, .bool c, .string k] 25)
      have X := Lib.hid (X.out.pick [0] [(w.heap.size, #[.bool b, .string m, .bool c, .string k], 25)] [] (by simp) (by decide) (by simp))
      obtain ⟨a0, a1, a2, a3⟩ := X.out.c4 (i := 0) rfl
      go_enter Tryz.func3, Tryz.ntmps3
      go_wp2_with fail
      refine (HKN.out _ (HE.out _ X.out.bel)).mono ?_
      rintro e w1 ⟨rfl, hb9⟩
      have X := Lib.hid (X.out.next hb9)
      clear hb9
      clear a0 a1 a2 a3
      obtain ⟨a0, a1, a2, a3⟩ := X.out.c4 (i := 0) rfl
      go_wp2_with fail
      refine (HSH.out _).mono ?_
      rintro e w2 ⟨rfl, hb9⟩
      have X := Lib.hid (X.out.next hb9)
      clear hb9
      clear a0 a1 a2 a3
      obtain ⟨a0, a1, a2, a3⟩ := X.out.c4 (i := 0) rfl
      go_wp2_with fail
      refine (HRC.out _).mono ?_
      rintro e w3 ⟨rfl, hb9⟩
      have X := Lib.hid (X.out.next hb9)
      clear hb9
      clear a0 a1 a2 a3
      obtain ⟨a0, a1, a2, a3⟩ := X.out.c4 (i := 0) rfl
      go_wp2_with fail
      refine (HC.out _ (HE.out _ X.out.bel)).mono ?_
      rintro e w4 ⟨rfl, hb9⟩
      have X := Lib.hid (X.out.next hb9)
      clear hb9
      clear a0 a1 a2 a3
      go_wp2
      go_ret
      exact ⟨rfl, X.out.bel⟩
  · have HSH := Lib.hid (fun V => short_any b m c k false (by
      by_cases h1 : m.size ≤ 40
      · have h2 : ¬ k.size ≤ 40 := fun h => hs ⟨h1, h⟩
        rw [decide_eq_false h2, Bool.and_false]
      · rw [decide_eq_false h1]; rfl) V)
    clear hs
    have X := Lib.hid ((Sb.start w).new #[.bool b, .string m, .bool c, .string k] 25)
    have X := Lib.hid (X.out.pick [0] [(w.heap.size, #[.bool b, .string m, .bool c, .string k], 25)] [] (by simp) (by decide) (by simp))
    obtain ⟨a0, a1, a2, a3⟩ := X.out.c4 (i := 0) rfl
    go_enter Tryz.func3, Tryz.ntmps3
    go_wp2_with fail
    refine (HKN.out _ (HE.out _ X.out.bel)).mono ?_
    rintro e w1 ⟨rfl, hb9⟩
    have X := Lib.hid (X.out.next hb9)
    clear hb9
    clear a0 a1 a2 a3
    obtain ⟨a0, a1, a2, a3⟩ := X.out.c4 (i := 0) rfl
    go_wp2_with fail
    refine (HSH.out _).mono ?_
    rintro e w2 ⟨rfl, hb9⟩
    have X := Lib.hid (X.out.next hb9)
    clear hb9
    clear a0 a1 a2 a3
    go_wp2_with fail
    refine (HKN.out _ (HE.out _ X.out.bel)).mono ?_
    rintro e w3 ⟨rfl, hb9⟩
    have X := Lib.hid (X.out.next hb9)
    clear hb9
    go_wp2
    go_ret
    exact ⟨rfl, X.out.bel⟩
end Go.Proofs.YtahehlajpaoiiaaGreatDoor
