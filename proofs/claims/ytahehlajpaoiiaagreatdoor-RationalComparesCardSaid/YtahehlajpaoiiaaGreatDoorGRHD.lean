import Derived.Test.YtahehlajpaoiiaaGreatDoorGRTC
import Derived.Test.YtahehlajpaoiiaaGreatDoorGRFB

namespace Go.Proofs.YtahehlajpaoiiaaGreatDoor
open Go.RowKit
attribute [local go_sem ↓] Go.wp_at_zero Go.wp_at_succ

theorem ite3 {p q r : Prop} [Decidable p] [Decidable q] [Decidable r] (w : World) : (if p then if q then if r then (Result.ok (Next.value (Value.bool true)) w : Result Next) else Result.ok (Next.value (Value.bool false)) w else Result.ok (Next.value (Value.bool false)) w else Result.ok (Next.value (Value.bool false)) w) = Result.ok (Next.value (Value.bool (decide (p ∧ q ∧ r)))) w := by
  by_cases h1 : p <;> by_cases h2 : q <;> by_cases h3 : r <;> simp [h1, h2, h3]
theorem of_lists {s t : ByteArray} (h : s.toList = t.toList) : s = t := by
  cases s
  cases t
  rw [ByteArray.toList_eq, ByteArray.toList_eq] at h
  simp at h
  rw [h]
theorem hole11 {z : Int} {ba bb : Bool} {ma mb ka kb : ByteArray} (h1 : z = 0 → ba = bb ∧ ma = mb ∧ ka = kb) (h2 : ¬ z = 0 → ¬ (ba = bb ∧ ma = mb ∧ ka = kb)) :
    (Value.bool !(z == 0) == (decide (ba = bb) && (decide (ma.toList = mb.toList) && decide (ka.toList = kb.toList)))) = Value.bool false := by
  by_cases hz : z = 0
  · obtain ⟨rfl, rfl, rfl⟩ := h1 hz
    simp [hz]
  · have h3 : ¬ (ba = bb ∧ ma.toList = mb.toList ∧ ka.toList = kb.toList) := fun h => h2 hz ⟨h.1, of_lists h.2.1, of_lists h.2.2⟩
    have h4 : (decide (ba = bb) && (decide (ma.toList = mb.toList) && decide (ka.toList = kb.toList))) = false := by
      rw [← Bool.decide_and, ← Bool.decide_and]
      exact decide_eq_false h3
    rw [h4, show (z == 0) = false from by simpa using hz]
    rfl
theorem low_of {p q : Rat} {ba bb : Bool} {ma mb ka kb : ByteArray} (hc : ∀ V, Env V → Calls Tryz.prog 38 #[.agg #[.bool ba, .string ma, .bool false, .string ka], .agg #[.bool bb, .string mb, .bool false, .string kb]] V (RetB V (.int .i64 (cmpQ p q)))) :
    ∃ bl ml kl, (∀ V, Env V → Calls Tryz.prog 43 #[.agg #[.bool ba, .string ma, .bool false, .string ka], .agg #[.bool bb, .string mb, .bool false, .string kb]] V (RetB V (.agg #[.bool bl, .string ml, .bool false, .string kl]))) ∧ (0 < cmpQ p q → bb = bl ∧ mb = ml ∧ kb = kl) ∧ (¬ 0 < cmpQ p q → ba = bl ∧ ma = ml ∧ ka = kl) := by
  by_cases h : 0 < cmpQ p q
  · exact ⟨bb, mb, kb, fun V hV => ratMin_2 hc h V hV, fun _ => ⟨rfl, rfl, rfl⟩, fun e => absurd h e⟩
  · exact ⟨ba, ma, ka, fun V hV => ratMin_1 hc (by omega) V hV, fun e => absurd e h, fun _ => ⟨rfl, rfl, rfl⟩⟩
theorem high_of {p q : Rat} {ba bb : Bool} {ma mb ka kb : ByteArray} (hp : Rq p ba ma ka) (hq : Rq q bb mb kb) (hc : ∀ V, Env V → Calls Tryz.prog 38 #[.agg #[.bool ba, .string ma, .bool false, .string ka], .agg #[.bool bb, .string mb, .bool false, .string kb]] V (RetB V (.int .i64 (cmpQ p q)))) :
    ∃ bl ml kl, (∀ V, Env V → Calls Tryz.prog 44 #[.agg #[.bool ba, .string ma, .bool false, .string ka], .agg #[.bool bb, .string mb, .bool false, .string kb]] V (RetB V (.agg #[.bool bl, .string ml, .bool false, .string kl]))) ∧ (0 < cmpQ p q → ba = bl ∧ ma = ml ∧ ka = kl) ∧ (¬ 0 < cmpQ p q → bb = bl ∧ mb = ml ∧ kb = kl) := by
  by_cases h : cmpQ p q < 0
  · exact ⟨bb, mb, kb, fun V hV => ratMax_2 hc h V hV, fun e => by omega, fun _ => ⟨rfl, rfl, rfl⟩⟩
  · refine ⟨ba, ma, ka, fun V hV => ratMax_1 hc (by omega) V hV, fun _ => ⟨rfl, rfl, rfl⟩, fun e => ?_⟩
    obtain rfl := cmpQ_zero.1 (show cmpQ p q = 0 by omega)
    obtain ⟨rfl, rfl, rfl⟩ := hp.inj hq
    exact ⟨rfl, rfl, rfl⟩
theorem abs_of {p : Rat} {ba bn : Bool} {ma mn ka kn : ByteArray} (hp : Rq p ba ma ka) (hn : Rq (-p) bn mn kn) :
    ∃ bx mx kx, (∀ V, Calls Tryz.prog 45 #[.agg #[.bool ba, .string ma, .bool false, .string ka]] V (RetB V (.agg #[.bool bx, .string mx, .bool false, .string kx]))) ∧ (p.num.sign < 0 → bn = bx ∧ mn = mx ∧ kn = kx) ∧ (¬ p.num.sign < 0 → ba = bx ∧ ma = mx ∧ ka = kx) := by
  have hs := sgn3 p.num (d := 1) (by omega)
  by_cases h : p.num < 0
  · exact ⟨bn, mn, kn, fun V => ratAbs_f hp hn (by rw [Rat.neg_num]; omega) (Rat.neg_den p) V, fun _ => ⟨rfl, rfl, rfl⟩, fun e => by omega⟩
  · exact ⟨ba, ma, ka, fun V => ratAbs_f hp hp (by omega) rfl V, fun e => by omega, fun _ => ⟨rfl, rfl, rfl⟩⟩

set_option maxHeartbeats 32000000 in
set_option maxRecDepth 100000 in
theorem rcompares_walk (n0 e0 : Int) (u0 v0 : Nat) (hn0 : -9223372036854775808 ≤ n0 ∧ n0 ≤ 9223372036854775807) (he0 : -9223372036854775808 ≤ e0 ∧ e0 ≤ 9223372036854775807) (hu0 : u0 < 256) (hv0 : v0 < 256) (n1 e1 : Int) (u1 v1 : Nat) (hn1 : -9223372036854775808 ≤ n1 ∧ n1 ≤ 9223372036854775807) (he1 : -9223372036854775808 ≤ e1 ∧ e1 ≤ 9223372036854775807) (hu1 : u1 < 256) (hv1 : v1 < 256) (n2 e2 : Int) (u2 v2 : Nat) (hn2 : -9223372036854775808 ≤ n2 ∧ n2 ≤ 9223372036854775807) (he2 : -9223372036854775808 ≤ e2 ∧ e2 ≤ 9223372036854775807) (hu2 : u2 < 256) (hv2 : v2 < 256) (w : World) (hE : Env w) :
    Calls Tryz.prog 8 #[.agg #[.int .i64 n0, .int .i64 e0, .int .u8 (u0 : Int), .int .u8 (v0 : Int)], .agg #[.int .i64 n1, .int .i64 e1, .int .u8 (u1 : Int), .int .u8 (v1 : Int)], .agg #[.int .i64 n2, .int .i64 e2, .int .u8 (u2 : Int), .int .u8 (v2 : Int)]] w (RetB w (.bool true)) := by
  obtain ⟨ba, ma, ka, ha⟩ := Rq.some_ (fracQ n0 e0 u0 v0)
  have HA := Lib.hid (fun V => rat_det n0 e0 u0 v0 ha hn0.1 hn0.2 he0.1 he0.2 hu0 hv0 V)
  have za : Sz 16 (fracQ n0 e0 u0 v0) := frac_small n0 e0 u0 v0 hn0.1 hn0.2 he0.1 he0.2
  generalize fracQ n0 e0 u0 v0 = qa at *
  obtain ⟨bb, mb, kb, hb⟩ := Rq.some_ (fracQ n1 e1 u1 v1)
  have HB := Lib.hid (fun V => rat_det n1 e1 u1 v1 hb hn1.1 hn1.2 he1.1 he1.2 hu1 hv1 V)
  have zb : Sz 16 (fracQ n1 e1 u1 v1) := frac_small n1 e1 u1 v1 hn1.1 hn1.2 he1.1 he1.2
  generalize fracQ n1 e1 u1 v1 = qb at *
  obtain ⟨bc, mc, kc, hc⟩ := Rq.some_ (fracQ n2 e2 u2 v2)
  have HC := Lib.hid (fun V => rat_det n2 e2 u2 v2 hc hn2.1 hn2.2 he2.1 he2.2 hu2 hv2 V)
  have zc : Sz 16 (fracQ n2 e2 u2 v2) := frac_small n2 e2 u2 v2 hn2.1 hn2.2 he2.1 he2.2
  generalize fracQ n2 e2 u2 v2 = qc at *
  obtain ⟨bn, mn, kn, hn⟩ := Rq.some_ (-qa)
  obtain ⟨bs, ms, ks, hs⟩ := Rq.some_ (qa + qc)
  obtain ⟨bt, mt, kt, ht⟩ := Rq.some_ (qb + qc)
  have zs := za.add zc
  have zt := zb.add zc
  have ya := za.m ha (by omega)
  have yb := zb.m hb (by omega)
  have yc := zc.m hc (by omega)
  have ys := zs.m hs (by omega)
  have yt := zt.m ht (by omega)
  have hC1 := fun V (hV : Env V) => ratCompare_f ha hb ya.1 yb.1 ya.2 yb.2 V hV
  obtain ⟨bl, ml, kl, hmin, hl1, hl2⟩ := low_of hC1
  obtain ⟨bh, mh, kh, hmax, hh1, hh2⟩ := high_of ha hb hC1
  obtain ⟨bx, mx, kx, habs, hx1, hx2⟩ := abs_of ha hn
  have hC2 := fun V (hV : Env V) => ratCompare_f hb ha yb.1 ya.1 yb.2 ya.2 V hV
  rw [cmpQ_anti qa qb] at hC2
  have hC4 := fun V (hV : Env V) => ratCompare_f hs ht ys.1 yt.1 ys.2 yt.2 V hV
  rw [cmpQ_plus] at hC4
  have hR1 := fun V => rCompare_f ha hb ya.1 yb.1 ya.2 yb.2 V
  have hC3 := fun V (hV : Env V) => ratCompare_f hb hc yb.1 yc.1 yb.2 yc.2 V hV
  have hC5 := fun V (hV : Env V) => ratCompare_f ha hc ya.1 yc.1 ya.2 yc.2 V hV
  have hSA := fun V => ratSign_f ha V
  have hSR := fun V => rSign_f ha V
  have HN := Lib.hid (fun V => ratNeg_f ha hn V)
  have HNR := Lib.hid (fun V => rNeg_f ha hn V)
  have HAC := Lib.hid (fun V (hV : Env V) => ratAdd_f ha hc hs ya.1 yc.1 ya.2 yc.2 V hV)
  have HBC := Lib.hid (fun V (hV : Env V) => ratAdd_f hb hc ht yb.1 yc.1 yb.2 yc.2 V hV)
  have htr : cmpQ qa qb ≤ 0 → cmpQ qb qc ≤ 0 → cmpQ qa qc ≤ 0 := cmpQ_trans
  have hz3 := cmpQ_three qa qb
  have heq0 : cmpQ qa qb = 0 → ba = bb ∧ ma = mb ∧ ka = kb := fun e => by
    obtain rfl := cmpQ_zero.1 e
    exact ha.inj hb
  have hne0 : ¬ cmpQ qa qb = 0 → ¬ (ba = bb ∧ ma = mb ∧ ka = kb) := fun e h => by
    obtain ⟨rfl, rfl, rfl⟩ := h
    exact e (cmpQ_zero.2 (ha.eq_of hb))
  generalize cmpQ qa qb = z at *
  generalize cmpQ qb qc = y at *
  generalize cmpQ qa qc = x at *
  generalize qa.num.sign = sg at *
  have HC1 := Lib.hid hC1
  have HC2 := Lib.hid hC2
  have HC3 := Lib.hid hC3
  have HC4 := Lib.hid hC4
  have HC5 := Lib.hid hC5
  have HR1 := Lib.hid hR1
  have HSA := Lib.hid hSA
  have HSR := Lib.hid hSR
  have HMIN := Lib.hid hmin
  have HMAX := Lib.hid hmax
  have HABS := Lib.hid habs
  have HEQ := Lib.hid heq0
  have HNE := Lib.hid hne0
  have HL1 := Lib.hid hl1
  have HL2 := Lib.hid hl2
  have HH1 := Lib.hid hh1
  have HH2 := Lib.hid hh2
  have HX1 := Lib.hid hx1
  have HX2 := Lib.hid hx2
  have HTR := Lib.hid htr
  have HKN := Lib.hid (fun V (hV : Env V) => rknown_any V hV)
  have HE := Lib.hid (fun V (h : Below w.heap.size w V) => hE.next h)
  have X := Lib.hid ((((Sb.start w).new #[.int .i64 n0, .int .i64 e0, .int .u8 (u0 : Int), .int .u8 (v0 : Int)] 41).new #[.int .i64 n1, .int .i64 e1, .int .u8 (u1 : Int), .int .u8 (v1 : Int)] 41).new #[.int .i64 n2, .int .i64 e2, .int .u8 (u2 : Int), .int .u8 (v2 : Int)] 41)
  have X := Lib.hid (X.out.pick [0, 1, 2] [(w.heap.size, #[.int .i64 n0, .int .i64 e0, .int .u8 (u0 : Int), .int .u8 (v0 : Int)], 41), (w.heap.size + 1, #[.int .i64 n1, .int .i64 e1, .int .u8 (u1 : Int), .int .u8 (v1 : Int)], 41), (w.heap.size + 1 + 1, #[.int .i64 n2, .int .i64 e2, .int .u8 (u2 : Int), .int .u8 (v2 : Int)], 41)] [] (by simp) (by decide) (by simp))
  have HZ3 := Lib.hid hz3
  have hw1 : IntKind.i64.wrap (-z) = -z := by rcases hz3 with rfl | rfl | rfl <;> rfl
  have hw2 : IntKind.i64.wrap (0 - z) = -z := by rcases hz3 with rfl | rfl | rfl <;> rfl
  clear ha hb hc hn hs ht za zb zc zs zt ya yb yc ys yt hE hC1 hC2 hC3 hC4 hC5 hR1 hSA hSR hmin hmax habs hl1 hl2 hh1 hh2 hx1 hx2 htr hz3 heq0 hne0 hn0 he0 hu0 hv0 hn1 he1 hu1 hv1 hn2 he2 hu2 hv2
  go_enter Tryz.func8, Tryz.ntmps8
  go_upto_region 1 with fail
  go_cut [7, 8, 9] (fun s7 s8 s9 wx => ∃ g7 g8 g9, s7 = .pointer (some ⟨g7, 0, none⟩) ∧ s8 = .pointer (some ⟨g8, 0, none⟩) ∧ s9 = .pointer (some ⟨g9, 0, none⟩) ∧ Sb w [(g7, #[.bool ba, .string ma, .bool false, .string ka], 25), (g8, #[.bool bb, .string mb, .bool false, .string kb], 25), (g9, #[.bool bc, .string mc, .bool false, .string kc], 25)] [] wx)
  case first =>
    refine wp_region_any (by kernel_rfl) ?_
    have X := Lib.hid X.out.drew
    obtain ⟨W0, hV⟩ := wexi X.out
    rw [show ∀ v : World, { v with drawn := v.drawn + 1 } = v.drew from fun _ => rfl, ← hV]
    rw [← hV] at X
    clear hV
    refine rg_run (ef := [.val (.agg #[.int .i64 n0, .int .i64 e0, .int .u8 (u0 : Int), .int .u8 (v0 : Int)]), .val (.agg #[.bool ba, .string ma, .bool false, .string ka]), .val (.agg #[.int .i64 n1, .int .i64 e1, .int .u8 (u1 : Int), .int .u8 (v1 : Int)]), .val (.agg #[.bool bb, .string mb, .bool false, .string kb]), .val (.agg #[.int .i64 n2, .int .i64 e2, .int .u8 (u2 : Int), .int .u8 (v2 : Int)]), .val (.agg #[.bool bc, .string mc, .bool false, .string kc]), .new #[.bool false, .string ⟨#[]⟩, .bool false, .string ⟨#[]⟩] 25, .new #[.bool false, .string ⟨#[]⟩, .bool false, .string ⟨#[]⟩] 25, .new #[.bool false, .string ⟨#[]⟩, .bool false, .string ⟨#[]⟩] 25]) (ds := [15, 16, 17, 18, 19, 20, 7, 8, 9]) (by kernel_rfl) (stays_none (by simp)) (by decide) rfl (by intro d hd; simp at hd ⊢; omega) (fun i d o hd ho listed a w1 hR hdep K hK => ?_) 3 (fun a w1 hR => ?_)
    · have X := Lib.hid (X.out.next hR.bel)
      have HKt := Lib.hid hK
      have HDp := Lib.hid hdep
      have sl3 : a.tmps.getD 3 undef = .pointer (some ⟨w.heap.size, 0, none⟩) := hR.keep 3 (by decide)
      have sl4 : a.tmps.getD 4 undef = .pointer (some ⟨w.heap.size + 1, 0, none⟩) := hR.keep 4 (by decide)
      have sl5 : a.tmps.getD 5 undef = .pointer (some ⟨w.heap.size + 1 + 1, 0, none⟩) := hR.keep 5 (by decide)
      have HRg := Lib.hid hR
      clear hK hdep hR
      rcases i with _ | _ | _ | _ | _ | _ | _ | _ | _ | i
      · cases hd
        cases ho
        obtain ⟨x00, x01, x02, x03⟩ := X.out.c4 (i := 0) rfl
        obtain ⟨x10, x11, x12, x13⟩ := X.out.c4 (i := 1) rfl
        obtain ⟨x20, x21, x22, x23⟩ := X.out.c4 (i := 2) rfl
        go_simp
        exact HKt.out _ _ (Or.inl ⟨rfl, Below.refl _ _⟩)
      · cases hd
        cases ho
        have dd0 : a.tmps.getD 15 undef = .agg #[.int .i64 n0, .int .i64 e0, .int .u8 (u0 : Int), .int .u8 (v0 : Int)] := HRg.out.val 0 _ (HDp.out 0 (by decide)) rfl
        go_simp
        (go_at_call 27; refine (HA.out _).mono ?_; rintro e u ⟨rfl, hb9⟩)
        try go_wp2_with fail
        exact HKt.out _ _ (Or.inl ⟨rfl, hb9⟩)
      · cases hd
        cases ho
        obtain ⟨x00, x01, x02, x03⟩ := X.out.c4 (i := 0) rfl
        obtain ⟨x10, x11, x12, x13⟩ := X.out.c4 (i := 1) rfl
        obtain ⟨x20, x21, x22, x23⟩ := X.out.c4 (i := 2) rfl
        go_simp
        exact HKt.out _ _ (Or.inl ⟨rfl, Below.refl _ _⟩)
      · cases hd
        cases ho
        have dd1 : a.tmps.getD 16 undef = .agg #[.bool ba, .string ma, .bool false, .string ka] := HRg.out.val 1 _ (HDp.out 1 (by decide)) rfl
        have dd2 : a.tmps.getD 17 undef = .agg #[.int .i64 n1, .int .i64 e1, .int .u8 (u1 : Int), .int .u8 (v1 : Int)] := HRg.out.val 2 _ (HDp.out 2 (by decide)) rfl
        go_simp
        (go_at_call 27; refine (HB.out _).mono ?_; rintro e u ⟨rfl, hb9⟩)
        try go_wp2_with fail
        exact HKt.out _ _ (Or.inl ⟨rfl, hb9⟩)
      · cases hd
        cases ho
        obtain ⟨x00, x01, x02, x03⟩ := X.out.c4 (i := 0) rfl
        obtain ⟨x10, x11, x12, x13⟩ := X.out.c4 (i := 1) rfl
        obtain ⟨x20, x21, x22, x23⟩ := X.out.c4 (i := 2) rfl
        go_simp
        exact HKt.out _ _ (Or.inl ⟨rfl, Below.refl _ _⟩)
      · cases hd
        cases ho
        have dd3 : a.tmps.getD 18 undef = .agg #[.bool bb, .string mb, .bool false, .string kb] := HRg.out.val 3 _ (HDp.out 3 (by decide)) rfl
        have dd4 : a.tmps.getD 19 undef = .agg #[.int .i64 n2, .int .i64 e2, .int .u8 (u2 : Int), .int .u8 (v2 : Int)] := HRg.out.val 4 _ (HDp.out 4 (by decide)) rfl
        go_simp
        (go_at_call 27; refine (HC.out _).mono ?_; rintro e u ⟨rfl, hb9⟩)
        try go_wp2_with fail
        exact HKt.out _ _ (Or.inl ⟨rfl, hb9⟩)
      · cases hd
        cases ho
        go_simp
        exact HKt.out _ _ (Or.inr (Or.inl ⟨_, _, rfl, rfl, rfl⟩))
      · cases hd
        cases ho
        go_simp
        exact HKt.out _ _ (Or.inr (Or.inl ⟨_, _, rfl, rfl, rfl⟩))
      · cases hd
        cases ho
        go_simp
        exact HKt.out _ _ (Or.inr (Or.inl ⟨_, _, rfl, rfl, rfl⟩))
      · cases hd
    obtain ⟨g6, hg6, lg6, kg6⟩ := hR.new 6 _ _ (by rfl) rfl
    obtain ⟨g7, hg7, lg7, kg7⟩ := hR.new 7 _ _ (by rfl) rfl
    obtain ⟨g8, hg8, lg8, kg8⟩ := hR.new 8 _ _ (by rfl) rfl
    have vv0 : a.tmps.getD 15 undef = .agg #[.int .i64 n0, .int .i64 e0, .int .u8 (u0 : Int), .int .u8 (v0 : Int)] := hR.val 0 _ (by rfl) rfl
    have vv1 : a.tmps.getD 16 undef = .agg #[.bool ba, .string ma, .bool false, .string ka] := hR.val 1 _ (by rfl) rfl
    have vv2 : a.tmps.getD 17 undef = .agg #[.int .i64 n1, .int .i64 e1, .int .u8 (u1 : Int), .int .u8 (v1 : Int)] := hR.val 2 _ (by rfl) rfl
    have vv3 : a.tmps.getD 18 undef = .agg #[.bool bb, .string mb, .bool false, .string kb] := hR.val 3 _ (by rfl) rfl
    have vv4 : a.tmps.getD 19 undef = .agg #[.int .i64 n2, .int .i64 e2, .int .u8 (u2 : Int), .int .u8 (v2 : Int)] := hR.val 4 _ (by rfl) rfl
    have vv5 : a.tmps.getD 20 undef = .agg #[.bool bc, .string mc, .bool false, .string kc] := hR.val 5 _ (by rfl) rfl
    replace hg6 : a.tmps.getD 7 undef = .pointer (some ⟨g6, 0, none⟩) := hg6
    replace hg7 : a.tmps.getD 8 undef = .pointer (some ⟨g7, 0, none⟩) := hg7
    replace hg8 : a.tmps.getD 9 undef = .pointer (some ⟨g8, 0, none⟩) := hg8
    have hne67 : g6 ≠ g7 := fun e => hR.ne 6 7 _ _ _ _ g6 (by decide) (by rfl) (by rfl) rfl rfl hg6 (by rw [e]; exact hg7)
    have hne68 : g6 ≠ g8 := fun e => hR.ne 6 8 _ _ _ _ g6 (by decide) (by rfl) (by rfl) rfl rfl hg6 (by rw [e]; exact hg8)
    have hne78 : g7 ≠ g8 := fun e => hR.ne 7 8 _ _ _ _ g7 (by decide) (by rfl) (by rfl) rfl rfl hg7 (by rw [e]; exact hg8)
    have X := Lib.hid (X.out.add3 hR.bel lg6 kg6 lg7 kg7 lg8 kg8 hne67 hne68 hne78)
    have ha := hR.act
    simp only [List.foldl_cons, List.foldl_nil, seti, set0, setS, vv0, vv1, vv2, vv3, vv4, vv5, hg6, hg7, hg8] at ha
    subst ha
    clear hR vv0 vv1 vv2 vv3 vv4 vv5 hg6 lg6 kg6 hg7 lg7 kg7 hg8 lg8 kg8
    refine wpAny_of_late (S := fun _ => True) (L := []) _ _ _ _ ?_
    refine wpLate_one (i := 9) (o := ⟨none, _, _, _, _, _⟩) (by kernel_rfl) rfl (fun K hK => ?_)
    obtain ⟨x0, x1, x2, x3⟩ := X.out.c4 (i := 3) rfl
    obtain ⟨y0, y1, y2, y3⟩ := X.out.f4 (i := 3) rfl
    have X := Lib.hid (X.out.set4 (i := 3) rfl (.bool ba) (.string ma) (.bool false) (.string ka))
    go_simp
    refine hK.out _ _ (Or.inr fun _ => trivial) ?_
    clear hK K x0 x1 x2 x3 y0 y1 y2 y3
    obtain ⟨W9, hV⟩ := wexi X.out
    rw [← hV] at X ⊢
    clear hV
    try simp only [Act.put]
    refine wpLate_one (i := 10) (o := ⟨none, _, _, _, _, _⟩) (by kernel_rfl) rfl (fun K hK => ?_)
    obtain ⟨x0, x1, x2, x3⟩ := X.out.c4 (i := 4) rfl
    obtain ⟨y0, y1, y2, y3⟩ := X.out.f4 (i := 4) rfl
    have X := Lib.hid (X.out.set4 (i := 4) rfl (.bool bb) (.string mb) (.bool false) (.string kb))
    go_simp
    refine hK.out _ _ (Or.inr fun _ => trivial) ?_
    clear hK K x0 x1 x2 x3 y0 y1 y2 y3
    obtain ⟨W10, hV⟩ := wexi X.out
    rw [← hV] at X ⊢
    clear hV
    try simp only [Act.put]
    refine wpLate_one (i := 11) (o := ⟨none, _, _, _, _, _⟩) (by kernel_rfl) rfl (fun K hK => ?_)
    obtain ⟨x0, x1, x2, x3⟩ := X.out.c4 (i := 5) rfl
    obtain ⟨y0, y1, y2, y3⟩ := X.out.f4 (i := 5) rfl
    have X := Lib.hid (X.out.set4 (i := 5) rfl (.bool bc) (.string mc) (.bool false) (.string kc))
    go_simp
    refine hK.out _ _ (Or.inr fun _ => trivial) ?_
    clear hK K x0 x1 x2 x3 y0 y1 y2 y3
    obtain ⟨W11, hV⟩ := wexi X.out
    rw [← hV] at X ⊢
    clear hV
    try simp only [Act.put]
    refine wpLate_done (by kernel_rfl) ?_ _
    go_wp2_with fail
    go_meet
    exact ⟨_, _, _, rfl, rfl, rfl, X.out.pick [3, 4, 5] _ [] rfl (by decide) (by simp)⟩
  obtain ⟨g7, g8, g9, rfl, rfl, rfl, hX⟩ := hcut
  have X := Lib.hid hX
  clear hX
  go_upto_region 2 with fail
  go_cut [10] (fun s10 wx => s10 = .int .i64 z ∧ Sb w [(g7, #[.bool ba, .string ma, .bool false, .string ka], 25), (g8, #[.bool bb, .string mb, .bool false, .string kb], 25), (g9, #[.bool bc, .string mc, .bool false, .string kc], 25)] [] wx)
  case first =>
    obtain ⟨a0, a1, a2, a3⟩ := X.out.c4 (i := 0) rfl
    obtain ⟨c0, c1, c2, c3⟩ := X.out.c4 (i := 1) rfl
    go_wp2_with fail
    refine (HC1.out _ (HE.out _ X.out.bel)).mono ?_
    rintro e u1 ⟨rfl, hb9⟩
    have X := Lib.hid (X.out.next hb9)
    clear hb9
    clear a0 a1 a2 a3 c0 c1 c2 c3
    go_wp2_with fail
    go_meet
    exact ⟨rfl, X.out⟩
  obtain ⟨rfl, hX⟩ := hcut
  have X := Lib.hid hX
  clear hX
  go_upto_region 3 with fail
  go_cut [54] (fun s54 wx => s54 = .bool false ∧ Sb w [(g7, #[.bool ba, .string ma, .bool false, .string ka], 25), (g8, #[.bool bb, .string mb, .bool false, .string kb], 25), (g9, #[.bool bc, .string mc, .bool false, .string kc], 25)] [] wx)
  case first =>
    as_aux_lemma =>
      refine wp_region_late (S := fun w' => (w'.cell? ⟨g7, 0, none⟩ = some (.bool ba) ∧ w'.cell? ⟨g7, 1, none⟩ = some (.string ma) ∧ w'.cell? ⟨g7, 2, none⟩ = some (.bool false) ∧ w'.cell? ⟨g7, 3, none⟩ = some (.string ka)) ∧ (w'.cell? ⟨g8, 0, none⟩ = some (.bool bb) ∧ w'.cell? ⟨g8, 1, none⟩ = some (.string mb) ∧ w'.cell? ⟨g8, 2, none⟩ = some (.bool false) ∧ w'.cell? ⟨g8, 3, none⟩ = some (.string kb))) (L := []) (by kernel_rfl) ?_
      have X := Lib.hid X.out.drew
      obtain ⟨V0, hV⟩ := wexi X.out
      rw [← hV] at X ⊢
      clear hV
      refine wpLate_one (i := 0) (o := ⟨some 24, _, _, _, _, _⟩) (by kernel_rfl) rfl (fun K hK => ?_)
      go_simp
      (go_at_call 14; refine (HKN.out _ (HE.out _ X.out.bel)).mono ?_; rintro e u1 ⟨rfl, hb9⟩; have X := Lib.hid (X.out.next hb9); clear hb9)
      try go_wp2_with fail
      refine hK.out _ _ (Or.inr (fun _ => ⟨X.out.c4 (i := 0) rfl, X.out.c4 (i := 1) rfl⟩)) ?_
      clear hK K
      try simp only [Act.put, seti, set0, setS]
      refine tk (i := 1) (oi := ⟨some 25, _, _, _, _, _⟩) (v := _) rfl (by kernel_rfl) (fun _ _ _ h => h) (⟨X.out.c4 (i := 0) rfl, X.out.c4 (i := 1) rfl⟩) (Or.inl ⟨by rfl, by intro w hSw; (try dsimp only at hSw); (first | (go_simp; done) | (go_simp; with_reducible rfl))⟩) ?_
      try simp only [Act.put, seti, set0, setS]
      refine tk (i := 2) (oi := ⟨some 26, _, _, _, _, _⟩) (v := _) rfl (by kernel_rfl) (fun _ _ _ h => h) (⟨X.out.c4 (i := 0) rfl, X.out.c4 (i := 1) rfl⟩) (Or.inl ⟨by rfl, by intro w hSw; (try dsimp only at hSw); (first | (go_simp; done) | (go_simp; with_reducible rfl))⟩) ?_
      try simp only [Act.put, seti, set0, setS]
      refine tk (i := 3) (oi := ⟨some 27, _, _, _, _, _⟩) (v := _) rfl (by kernel_rfl) (fun _ _ _ h => h) (⟨X.out.c4 (i := 0) rfl, X.out.c4 (i := 1) rfl⟩) (Or.inl ⟨by rfl, by intro w hSw; (try dsimp only at hSw); (first | (go_simp; done) | (go_simp; with_reducible rfl))⟩) ?_
      try simp only [Act.put, seti, set0, setS]
      refine tk (i := 4) (oi := ⟨some 28, _, _, _, _, _⟩) (v := _) rfl (by kernel_rfl) (fun _ _ _ h => h) (⟨X.out.c4 (i := 0) rfl, X.out.c4 (i := 1) rfl⟩) (Or.inl ⟨by rfl, by intro w hSw; (try dsimp only at hSw); (first | (go_simp; done) | (go_simp; with_reducible rfl))⟩) ?_
      try simp only [Act.put, seti, set0, setS]
      refine tk (i := 5) (oi := ⟨some 29, _, _, _, _, _⟩) (v := _) rfl (by kernel_rfl) (fun _ _ _ h => h) (⟨X.out.c4 (i := 0) rfl, X.out.c4 (i := 1) rfl⟩) (Or.inl ⟨by rfl, by intro w hSw; (try dsimp only at hSw); (first | (go_simp; done) | (go_simp; with_reducible rfl))⟩) ?_
      try simp only [Act.put, seti, set0, setS]
      refine wpLate_one (i := 6) (o := ⟨some 30, _, _, _, _, _⟩) (by kernel_rfl) rfl (fun K hK => ?_)
      go_simp
      (go_at_call 39; refine (HR1.out _).mono ?_; rintro e u2 ⟨rfl, hb9⟩; have X := Lib.hid (X.out.next hb9); clear hb9)
      try go_wp2_with fail
      refine hK.out _ _ (Or.inr (fun _ => ⟨X.out.c4 (i := 0) rfl, X.out.c4 (i := 1) rfl⟩)) ?_
      clear hK K
      try simp only [Act.put, seti, set0, setS]
      refine tk (i := 7) (oi := ⟨some 31, _, _, _, _, _⟩) (v := _) rfl (by kernel_rfl) (fun _ _ _ h => h) (⟨X.out.c4 (i := 0) rfl, X.out.c4 (i := 1) rfl⟩) (Or.inl ⟨by rfl, by intro w hSw; (try dsimp only at hSw); (first | (go_simp; done) | (go_simp; with_reducible rfl))⟩) ?_
      try simp only [Act.put, seti, set0, setS]
      refine tk (i := 8) (oi := ⟨some 32, _, _, _, _, _⟩) (v := _) rfl (by kernel_rfl) (fun _ _ _ h => h) (⟨X.out.c4 (i := 0) rfl, X.out.c4 (i := 1) rfl⟩) (Or.inl ⟨by rfl, by intro w hSw; (try dsimp only at hSw); (first | (go_simp; done) | (go_simp; with_reducible rfl))⟩) ?_
      try simp only [Act.put, seti, set0, setS]
      refine tk (i := 9) (oi := ⟨some 33, _, _, _, _, _⟩) (v := _) rfl (by kernel_rfl) (fun _ _ _ h => h) (⟨X.out.c4 (i := 0) rfl, X.out.c4 (i := 1) rfl⟩) (Or.inl ⟨by rfl, by intro w hSw; (try dsimp only at hSw); (first | (go_simp; done) | (go_simp; with_reducible rfl))⟩) ?_
      try simp only [Act.put, seti, set0, setS]
      refine tk (i := 10) (oi := ⟨some 34, _, _, _, _, _⟩) (v := _) rfl (by kernel_rfl) (fun _ _ _ h => h) (⟨X.out.c4 (i := 0) rfl, X.out.c4 (i := 1) rfl⟩) (Or.inl ⟨by rfl, by intro w hSw; (try dsimp only at hSw); (first | (go_simp; done) | (go_simp; with_reducible rfl))⟩) ?_
      try simp only [Act.put, seti, set0, setS]
      refine tk (i := 11) (oi := ⟨some 35, _, _, _, _, _⟩) (v := _) rfl (by kernel_rfl) (fun _ _ _ h => h) (⟨X.out.c4 (i := 0) rfl, X.out.c4 (i := 1) rfl⟩) (Or.inl ⟨by rfl, by intro w hSw; (try dsimp only at hSw); (first | (go_simp; done) | (go_simp; with_reducible rfl))⟩) ?_
      try simp only [Act.put, seti, set0, setS]
      refine tk (i := 13) (oi := ⟨some 37, _, _, _, _, _⟩) (v := _) rfl (by kernel_rfl) (fun _ _ _ h => h) (⟨X.out.c4 (i := 0) rfl, X.out.c4 (i := 1) rfl⟩) (Or.inl ⟨by rfl, by intro w hSw; (try dsimp only at hSw); (first | (go_simp; done) | (go_simp; with_reducible rfl))⟩) ?_
      try simp only [Act.put, seti, set0, setS]
      refine tk (i := 14) (oi := ⟨some 38, _, _, _, _, _⟩) (v := _) rfl (by kernel_rfl) (fun _ _ _ h => h) (⟨X.out.c4 (i := 0) rfl, X.out.c4 (i := 1) rfl⟩) (Or.inl ⟨by rfl, by intro w hSw; (try dsimp only at hSw); (first | (go_simp; done) | (go_simp; with_reducible rfl))⟩) ?_
      try simp only [Act.put, seti, set0, setS]
      refine wpLate_one (i := 12) (o := ⟨some 36, _, _, _, _, _⟩) (by kernel_rfl) rfl (fun K hK => ?_)
      go_simp
      (go_at_call 38; refine (HC2.out _ (HE.out _ X.out.bel)).mono ?_; rintro e u3 ⟨rfl, hb9⟩; have X := Lib.hid (X.out.next hb9); clear hb9)
      try go_wp2_with fail
      refine hK.out _ _ (Or.inr (fun _ => ⟨X.out.c4 (i := 0) rfl, X.out.c4 (i := 1) rfl⟩)) ?_
      clear hK K
      try simp only [Act.put, seti, set0, setS]
      refine tk (i := 15) (oi := ⟨some 39, _, _, _, _, _⟩) (v := _) rfl (by kernel_rfl) (fun _ _ _ h => h) (⟨X.out.c4 (i := 0) rfl, X.out.c4 (i := 1) rfl⟩) (Or.inl ⟨by rfl, by intro w hSw; (try dsimp only at hSw); (first | (go_simp; done) | (go_simp; with_reducible rfl))⟩) ?_
      try simp only [Act.put, seti, set0, setS]
      refine tk (i := 16) (oi := ⟨some 40, _, _, _, _, _⟩) (v := _) rfl (by kernel_rfl) (fun _ _ _ h => h) (⟨X.out.c4 (i := 0) rfl, X.out.c4 (i := 1) rfl⟩) (Or.inl ⟨by rfl, by intro w hSw; (try dsimp only at hSw); (first | (go_simp; done) | (go_simp; with_reducible rfl))⟩) ?_
      try simp only [Act.put, seti, set0, setS]
      refine tk (i := 17) (oi := ⟨some 41, _, _, _, _, _⟩) (v := _) rfl (by kernel_rfl) (fun _ _ _ h => h) (⟨X.out.c4 (i := 0) rfl, X.out.c4 (i := 1) rfl⟩) (Or.inl ⟨by rfl, by intro w hSw; (try dsimp only at hSw); (first | (go_simp; done) | (go_simp; with_reducible rfl))⟩) ?_
      try simp only [Act.put, seti, set0, setS]
      refine tk (i := 18) (oi := ⟨some 42, _, _, _, _, _⟩) (v := _) rfl (by kernel_rfl) (fun _ _ _ h => h) (⟨X.out.c4 (i := 0) rfl, X.out.c4 (i := 1) rfl⟩) (Or.inl ⟨by rfl, by intro w hSw; (try dsimp only at hSw); (first | (go_simp; done) | (go_simp; with_reducible rfl))⟩) ?_
      try simp only [Act.put, seti, set0, setS]
      refine tk (i := 20) (oi := ⟨some 44, _, _, _, _, _⟩) (v := _) rfl (by kernel_rfl) (fun _ _ _ h => h) (⟨X.out.c4 (i := 0) rfl, X.out.c4 (i := 1) rfl⟩) (Or.inl ⟨by rfl, by intro w hSw; (try dsimp only at hSw); (first | (go_simp; done) | (go_simp; with_reducible rfl))⟩) ?_
      try simp only [Act.put, seti, set0, setS]
      refine wpLate_one (i := 19) (o := ⟨some 43, _, _, _, _, _⟩) (by kernel_rfl) rfl (fun K hK => ?_)
      go_simp
      (go_at_call 40; refine (HSA.out _).mono ?_; rintro e u4 ⟨rfl, hb9⟩; have X := Lib.hid (X.out.next hb9); clear hb9)
      try go_wp2_with fail
      refine hK.out _ _ (Or.inr (fun _ => ⟨X.out.c4 (i := 0) rfl, X.out.c4 (i := 1) rfl⟩)) ?_
      clear hK K
      try simp only [Act.put, seti, set0, setS]
      refine wpLate_one (i := 21) (o := ⟨some 45, _, _, _, _, _⟩) (by kernel_rfl) rfl (fun K hK => ?_)
      go_simp
      (go_at_call 36; refine (HSR.out _).mono ?_; rintro e u5 ⟨rfl, hb9⟩; have X := Lib.hid (X.out.next hb9); clear hb9)
      try go_wp2_with fail
      refine hK.out _ _ (Or.inr (fun _ => ⟨X.out.c4 (i := 0) rfl, X.out.c4 (i := 1) rfl⟩)) ?_
      clear hK K
      try simp only [Act.put, seti, set0, setS]
      refine tk (i := 22) (oi := ⟨some 46, _, _, _, _, _⟩) (v := _) rfl (by kernel_rfl) (fun _ _ _ h => h) (⟨X.out.c4 (i := 0) rfl, X.out.c4 (i := 1) rfl⟩) (Or.inl ⟨by rfl, by intro w hSw; (try dsimp only at hSw); (first | (go_simp; done) | (go_simp; with_reducible rfl))⟩) ?_
      try simp only [Act.put, seti, set0, setS]
      refine tk (i := 23) (oi := ⟨some 47, _, _, _, _, _⟩) (v := _) rfl (by kernel_rfl) (fun _ _ _ h => h) (⟨X.out.c4 (i := 0) rfl, X.out.c4 (i := 1) rfl⟩) (Or.inl ⟨by rfl, by intro w hSw; (try dsimp only at hSw); (first | (go_simp; done) | (go_simp; with_reducible rfl))⟩) ?_
      try simp only [Act.put, seti, set0, setS]
      refine tk (i := 24) (oi := ⟨some 48, _, _, _, _, _⟩) (v := _) rfl (by kernel_rfl) (fun _ _ _ h => h) (⟨X.out.c4 (i := 0) rfl, X.out.c4 (i := 1) rfl⟩) (Or.inl ⟨by rfl, by intro w hSw; (try dsimp only at hSw); (first | (go_simp; done) | (go_simp; with_reducible rfl))⟩) ?_
      try simp only [Act.put, seti, set0, setS]
      refine tk (i := 25) (oi := ⟨some 49, _, _, _, _, _⟩) (v := _) rfl (by kernel_rfl) (fun _ _ _ h => h) (⟨X.out.c4 (i := 0) rfl, X.out.c4 (i := 1) rfl⟩) (Or.inl ⟨by rfl, by intro w hSw; (try dsimp only at hSw); (first | (go_simp; done) | (go_simp; with_reducible rfl))⟩) ?_
      try simp only [Act.put, seti, set0, setS]
      refine tk (i := 27) (oi := ⟨some 51, _, _, _, _, _⟩) (v := _) rfl (by kernel_rfl) (fun _ _ _ h => h) (⟨X.out.c4 (i := 0) rfl, X.out.c4 (i := 1) rfl⟩) (Or.inl ⟨by rfl, by intro w hSw; (try dsimp only at hSw); (first | (go_simp; done) | (go_simp; with_reducible rfl))⟩) ?_
      try simp only [Act.put, seti, set0, setS]
      refine wpLate_one (i := 26) (o := ⟨some 50, _, _, _, _, _⟩) (by kernel_rfl) rfl (fun K hK => ?_)
      go_simp
      (go_at_call 41; refine (HN.out _).mono ?_; rintro e u6 ⟨rfl, hb9⟩; have X := Lib.hid (X.out.next hb9); clear hb9)
      try go_wp2_with fail
      refine hK.out _ _ (Or.inr (fun _ => ⟨X.out.c4 (i := 0) rfl, X.out.c4 (i := 1) rfl⟩)) ?_
      clear hK K
      try simp only [Act.put, seti, set0, setS]
      refine wpLate_one (i := 28) (o := ⟨some 52, _, _, _, _, _⟩) (by kernel_rfl) rfl (fun K hK => ?_)
      go_simp
      (go_at_call 42; refine (HNR.out _).mono ?_; rintro e u7 ⟨rfl, hb9⟩; have X := Lib.hid (X.out.next hb9); clear hb9)
      try go_wp2_with fail
      refine hK.out _ _ (Or.inr (fun _ => ⟨X.out.c4 (i := 0) rfl, X.out.c4 (i := 1) rfl⟩)) ?_
      clear hK K
      try simp only [Act.put, seti, set0, setS]
      refine tk (i := 29) (oi := ⟨some 53, _, _, _, _, _⟩) (v := _) rfl (by kernel_rfl) (fun _ _ _ h => h) (⟨X.out.c4 (i := 0) rfl, X.out.c4 (i := 1) rfl⟩) (Or.inl ⟨by rfl, by intro w hSw; (try dsimp only at hSw); (first | (go_simp; done) | (go_simp; with_reducible rfl))⟩) ?_
      try simp only [Act.put, seti, set0, setS]
      refine tk (i := 30) (oi := ⟨some 54, _, _, _, _, _⟩) (v := _) rfl (by kernel_rfl) (fun _ _ _ h => h) (⟨X.out.c4 (i := 0) rfl, X.out.c4 (i := 1) rfl⟩) (Or.inl ⟨by rfl, by intro w hSw; (try dsimp only at hSw); (first | (go_simp; done) | (go_simp; with_reducible rfl))⟩) ?_
      try simp only [Act.put, seti, set0, setS]
      refine wpLate_done (by kernel_rfl) ?_ _
      go_wp2_with fail
      go_meet
      exact ⟨rfl, X.out.pick [0, 1, 2] _ [] rfl (by decide) (by simp)⟩
  obtain ⟨rfl, hX⟩ := hcut
  have X := Lib.hid hX
  clear hX
  clear hw1 hw2
  go_upto_region 5 with fail
  go_cut [11, 12] (fun s11 s12 wx => ∃ g11 g12, s11 = .pointer (some ⟨g11, 0, none⟩) ∧ s12 = .pointer (some ⟨g12, 0, none⟩) ∧ Sb w [(g7, #[.bool ba, .string ma, .bool false, .string ka], 25), (g8, #[.bool bb, .string mb, .bool false, .string kb], 25), (g9, #[.bool bc, .string mc, .bool false, .string kc], 25), (g11, #[.bool ba, .string ma, .bool false, .string ka], 25), (g12, #[.bool bb, .string mb, .bool false, .string kb], 25)] [] wx)
  case first =>
    refine wp_region_late (S := fun w' => (w'.cell? ⟨g7, 0, none⟩ = some (.bool ba) ∧ w'.cell? ⟨g7, 1, none⟩ = some (.string ma) ∧ w'.cell? ⟨g7, 2, none⟩ = some (.bool false) ∧ w'.cell? ⟨g7, 3, none⟩ = some (.string ka)) ∧ (w'.cell? ⟨g8, 0, none⟩ = some (.bool bb) ∧ w'.cell? ⟨g8, 1, none⟩ = some (.string mb) ∧ w'.cell? ⟨g8, 2, none⟩ = some (.bool false) ∧ w'.cell? ⟨g8, 3, none⟩ = some (.string kb))) (L := []) (by kernel_rfl) ?_
    have X := Lib.hid X.out.drew
    obtain ⟨V0, hV⟩ := wexi X.out
    rw [← hV] at X ⊢
    clear hV
    refine tk (i := 0) (oi := ⟨some 55, _, _, _, _, _⟩) (v := _) rfl (by kernel_rfl) (fun _ _ _ h => h) (⟨X.out.c4 (i := 0) rfl, X.out.c4 (i := 1) rfl⟩) (Or.inl ⟨by rfl, by intro w hSw; (try dsimp only at hSw); (first | (go_simp; done) | (go_simp; with_reducible rfl))⟩) ?_
    try simp only [Act.put, seti, set0, setS]
    refine tk (i := 1) (oi := ⟨some 56, _, _, _, _, _⟩) (v := _) rfl (by kernel_rfl) (fun _ _ _ h => h) (⟨X.out.c4 (i := 0) rfl, X.out.c4 (i := 1) rfl⟩) (Or.inl ⟨by rfl, by intro w hSw; (try dsimp only at hSw); (first | (go_simp; done) | (go_simp; with_reducible rfl))⟩) ?_
    try simp only [Act.put, seti, set0, setS]
    refine wpLate_two (i := 2) (j := 3) (o := ⟨some 11, _, _, _, _, _⟩) (o' := ⟨some 12, _, _, _, _, _⟩) (by kernel_rfl) rfl rfl (fun K hK => ?_) (fun K hK => ?_)
    go_simp
    have X := Lib.hid (X.out.new #[.bool false, .string ⟨#[]⟩, .bool false, .string ⟨#[]⟩] 25)
    refine hK.out _ _ (Or.inr (fun _ => ⟨X.out.c4 (i := 0) rfl, X.out.c4 (i := 1) rfl⟩)) ?_
    clear hK K
    try simp only [Act.put, seti, set0, setS]
    obtain ⟨V1, hV⟩ := wexi X.out
    rw [← hV] at X ⊢
    clear hV
    refine wpLate_one (i := 3) (o := ⟨some 12, _, _, _, _, _⟩) (by kernel_rfl) rfl (fun K hK => ?_)
    go_simp
    have X := Lib.hid (X.out.new #[.bool false, .string ⟨#[]⟩, .bool false, .string ⟨#[]⟩] 25)
    refine hK.out _ _ (Or.inr (fun _ => ⟨X.out.c4 (i := 0) rfl, X.out.c4 (i := 1) rfl⟩)) ?_
    clear hK K
    try simp only [Act.put, seti, set0, setS]
    obtain ⟨V2, hV⟩ := wexi X.out
    rw [← hV] at X ⊢
    clear hV
    refine wpLate_one (i := 4) (o := ⟨none, _, _, _, _, _⟩) (by kernel_rfl) rfl (fun K hK => ?_)
    obtain ⟨x0, x1, x2, x3⟩ := X.out.c4 (i := 3) rfl
    obtain ⟨y0, y1, y2, y3⟩ := X.out.f4 (i := 3) rfl
    have X := Lib.hid (X.out.set4 (i := 3) rfl (.bool ba) (.string ma) (.bool false) (.string ka))
    go_simp
    refine hK.out _ _ (Or.inr (fun _ => ⟨X.out.c4 (i := 0) rfl, X.out.c4 (i := 1) rfl⟩)) ?_
    clear hK K x0 x1 x2 x3 y0 y1 y2 y3
    try simp only [Act.put, seti, set0, setS]
    obtain ⟨W3, hV⟩ := wexi X.out
    rw [← hV] at X ⊢
    clear hV
    refine wpLate_one (i := 5) (o := ⟨none, _, _, _, _, _⟩) (by kernel_rfl) rfl (fun K hK => ?_)
    obtain ⟨x0, x1, x2, x3⟩ := X.out.c4 (i := 4) rfl
    obtain ⟨y0, y1, y2, y3⟩ := X.out.f4 (i := 4) rfl
    have X := Lib.hid (X.out.set4 (i := 4) rfl (.bool bb) (.string mb) (.bool false) (.string kb))
    go_simp
    refine hK.out _ _ (Or.inr (fun _ => ⟨X.out.c4 (i := 0) rfl, X.out.c4 (i := 1) rfl⟩)) ?_
    clear hK K x0 x1 x2 x3 y0 y1 y2 y3
    try simp only [Act.put, seti, set0, setS]
    obtain ⟨W4, hV⟩ := wexi X.out
    rw [← hV] at X ⊢
    clear hV
    refine wpLate_done (by kernel_rfl) ?_ _
    go_wp2_with fail
    go_meet
    exact ⟨_, _, rfl, rfl, X.out.pick [0, 1, 2, 3, 4] _ [] rfl (by decide) (by simp)⟩
    go_simp
    have X := Lib.hid (X.out.new #[.bool false, .string ⟨#[]⟩, .bool false, .string ⟨#[]⟩] 25)
    refine hK.out _ _ (Or.inr (fun _ => ⟨X.out.c4 (i := 0) rfl, X.out.c4 (i := 1) rfl⟩)) ?_
    clear hK K
    try simp only [Act.put, seti, set0, setS]
    obtain ⟨V5, hV⟩ := wexi X.out
    rw [← hV] at X ⊢
    clear hV
    refine wpLate_one (i := 2) (o := ⟨some 11, _, _, _, _, _⟩) (by kernel_rfl) rfl (fun K hK => ?_)
    go_simp
    have X := Lib.hid (X.out.new #[.bool false, .string ⟨#[]⟩, .bool false, .string ⟨#[]⟩] 25)
    refine hK.out _ _ (Or.inr (fun _ => ⟨X.out.c4 (i := 0) rfl, X.out.c4 (i := 1) rfl⟩)) ?_
    clear hK K
    try simp only [Act.put, seti, set0, setS]
    obtain ⟨V6, hV⟩ := wexi X.out
    rw [← hV] at X ⊢
    clear hV
    refine wpLate_one (i := 4) (o := ⟨none, _, _, _, _, _⟩) (by kernel_rfl) rfl (fun K hK => ?_)
    obtain ⟨x0, x1, x2, x3⟩ := X.out.c4 (i := 4) rfl
    obtain ⟨y0, y1, y2, y3⟩ := X.out.f4 (i := 4) rfl
    have X := Lib.hid (X.out.set4 (i := 4) rfl (.bool ba) (.string ma) (.bool false) (.string ka))
    go_simp
    refine hK.out _ _ (Or.inr (fun _ => ⟨X.out.c4 (i := 0) rfl, X.out.c4 (i := 1) rfl⟩)) ?_
    clear hK K x0 x1 x2 x3 y0 y1 y2 y3
    try simp only [Act.put, seti, set0, setS]
    obtain ⟨W7, hV⟩ := wexi X.out
    rw [← hV] at X ⊢
    clear hV
    refine wpLate_one (i := 5) (o := ⟨none, _, _, _, _, _⟩) (by kernel_rfl) rfl (fun K hK => ?_)
    obtain ⟨x0, x1, x2, x3⟩ := X.out.c4 (i := 3) rfl
    obtain ⟨y0, y1, y2, y3⟩ := X.out.f4 (i := 3) rfl
    have X := Lib.hid (X.out.set4 (i := 3) rfl (.bool bb) (.string mb) (.bool false) (.string kb))
    go_simp
    refine hK.out _ _ (Or.inr (fun _ => ⟨X.out.c4 (i := 0) rfl, X.out.c4 (i := 1) rfl⟩)) ?_
    clear hK K x0 x1 x2 x3 y0 y1 y2 y3
    try simp only [Act.put, seti, set0, setS]
    obtain ⟨W8, hV⟩ := wexi X.out
    rw [← hV] at X ⊢
    clear hV
    refine wpLate_done (by kernel_rfl) ?_ _
    go_wp2_with fail
    go_meet
    exact ⟨_, _, rfl, rfl, X.out.pick [0, 1, 2, 4, 3] _ [] rfl (by decide) (by simp)⟩
  obtain ⟨g11, g12, rfl, rfl, hX⟩ := hcut
  have X := Lib.hid hX
  clear hX
  go_upto_if 58 with fail
  go_cut [] (fun wx => Sb w [(g7, #[.bool ba, .string ma, .bool false, .string ka], 25), (g8, #[.bool bb, .string mb, .bool false, .string kb], 25), (g9, #[.bool bc, .string mc, .bool false, .string kc], 25), (g11, #[.bool bl, .string ml, .bool false, .string kl], 25), (g12, #[.bool bh, .string mh, .bool false, .string kh], 25)] [] wx)
  case first =>
    by_cases hz : 0 < z
    · have hzd := decide_eq_true hz
      obtain ⟨rfl, rfl, rfl⟩ := HL1.out (by omega)
      obtain ⟨rfl, rfl, rfl⟩ := HH1.out (by omega)
      go_upto_region 7 with fail
      refine wp_region_late (S := fun w' => (w'.cell? ⟨g7, 0, none⟩ = some (.bool ba) ∧ w'.cell? ⟨g7, 1, none⟩ = some (.string ma) ∧ w'.cell? ⟨g7, 2, none⟩ = some (.bool false) ∧ w'.cell? ⟨g7, 3, none⟩ = some (.string ka)) ∧ (w'.cell? ⟨g8, 0, none⟩ = some (.bool bb) ∧ w'.cell? ⟨g8, 1, none⟩ = some (.string mb) ∧ w'.cell? ⟨g8, 2, none⟩ = some (.bool false) ∧ w'.cell? ⟨g8, 3, none⟩ = some (.string kb))) (L := []) (by kernel_rfl) ?_
      have X := Lib.hid X.out.drew
      obtain ⟨V0, hV⟩ := wexi X.out
      rw [← hV] at X ⊢
      clear hV
      refine tk (i := 0) (oi := ⟨some 59, _, _, _, _, _⟩) (v := _) rfl (by kernel_rfl) (fun _ _ _ h => h) (⟨X.out.c4 (i := 0) rfl, X.out.c4 (i := 1) rfl⟩) (Or.inl ⟨by rfl, by intro w hSw; (try dsimp only at hSw); (first | (go_simp; done) | (go_simp; with_reducible rfl))⟩) ?_
      try simp only [Act.put, seti, set0, setS]
      refine tk (i := 1) (oi := ⟨some 60, _, _, _, _, _⟩) (v := _) rfl (by kernel_rfl) (fun _ _ _ h => h) (⟨X.out.c4 (i := 0) rfl, X.out.c4 (i := 1) rfl⟩) (Or.inl ⟨by rfl, by intro w hSw; (try dsimp only at hSw); (first | (go_simp; done) | (go_simp; with_reducible rfl))⟩) ?_
      try simp only [Act.put, seti, set0, setS]
      refine wpLate_one (i := 2) (o := ⟨none, _, _, _, _, _⟩) (by kernel_rfl) rfl (fun K hK => ?_)
      obtain ⟨x0, x1, x2, x3⟩ := X.out.c4 (i := 3) rfl
      obtain ⟨y0, y1, y2, y3⟩ := X.out.f4 (i := 3) rfl
      have X := Lib.hid (X.out.set4 (i := 3) rfl (.bool bb) (.string mb) (.bool false) (.string kb))
      go_simp
      refine hK.out _ _ (Or.inr (fun _ => ⟨X.out.c4 (i := 0) rfl, X.out.c4 (i := 1) rfl⟩)) ?_
      clear hK K x0 x1 x2 x3 y0 y1 y2 y3
      try simp only [Act.put, seti, set0, setS]
      obtain ⟨W1, hV⟩ := wexi X.out
      rw [← hV] at X ⊢
      clear hV
      refine wpLate_one (i := 3) (o := ⟨none, _, _, _, _, _⟩) (by kernel_rfl) rfl (fun K hK => ?_)
      obtain ⟨x0, x1, x2, x3⟩ := X.out.c4 (i := 4) rfl
      obtain ⟨y0, y1, y2, y3⟩ := X.out.f4 (i := 4) rfl
      have X := Lib.hid (X.out.set4 (i := 4) rfl (.bool ba) (.string ma) (.bool false) (.string ka))
      go_simp
      refine hK.out _ _ (Or.inr (fun _ => ⟨X.out.c4 (i := 0) rfl, X.out.c4 (i := 1) rfl⟩)) ?_
      clear hK K x0 x1 x2 x3 y0 y1 y2 y3
      try simp only [Act.put, seti, set0, setS]
      obtain ⟨W2, hV⟩ := wexi X.out
      rw [← hV] at X ⊢
      clear hV
      refine wpLate_done (by kernel_rfl) ?_ _
      go_wp2_with fail
      go_meet
      exact X.out.pick [0, 1, 2, 3, 4] _ [] rfl (by decide) (by simp)
    · have hzd := decide_eq_false hz
      obtain ⟨rfl, rfl, rfl⟩ := HL2.out (by omega)
      obtain ⟨rfl, rfl, rfl⟩ := HH2.out (by omega)
      go_wp2_with fail
      go_meet
      exact X.out
  have hX := hcut
  have X := Lib.hid hX
  clear hX hcut
  clear HL1 HL2 HH1 HH2
  go_upto_region 8 with fail
  go_cut [13] (fun s13 wx => ∃ g13, s13 = .pointer (some ⟨g13, 0, none⟩) ∧ Sb w [(g7, #[.bool ba, .string ma, .bool false, .string ka], 25), (g8, #[.bool bb, .string mb, .bool false, .string kb], 25), (g9, #[.bool bc, .string mc, .bool false, .string kc], 25), (g11, #[.bool bl, .string ml, .bool false, .string kl], 25), (g12, #[.bool bh, .string mh, .bool false, .string kh], 25), (g13, #[.bool ba, .string ma, .bool false, .string ka], 25)] [] wx)
  case first =>
    obtain ⟨a0, a1, a2, a3⟩ := X.out.c4 (i := 0) rfl
    go_wp2_with fail
    have X := Lib.hid (X.out.new #[.bool ba, .string ma, .bool false, .string ka] 25)
    go_meet
    exact ⟨_, rfl, X.out⟩
  obtain ⟨g13, rfl, hX⟩ := hcut
  have X := Lib.hid hX
  clear hX
  obtain ⟨a0, a1, a2, a3⟩ := X.out.c4 (i := 0) rfl
  go_upto_if 64 with (first | (refine (HSR.out _).mono ?_; rintro e u1 ⟨rfl, hb9⟩; have X := Lib.hid (X.out.next hb9); clear hb9))
  clear a0 a1 a2 a3
  go_cut [] (fun wx => Sb w [(g7, #[.bool ba, .string ma, .bool false, .string ka], 25), (g8, #[.bool bb, .string mb, .bool false, .string kb], 25), (g9, #[.bool bc, .string mc, .bool false, .string kc], 25), (g11, #[.bool bl, .string ml, .bool false, .string kl], 25), (g12, #[.bool bh, .string mh, .bool false, .string kh], 25), (g13, #[.bool bx, .string mx, .bool false, .string kx], 25)] [] wx)
  case first =>
    by_cases hs : sg < 0
    · have hsd := decide_eq_true hs
      obtain ⟨rfl, rfl, rfl⟩ := HX1.out (by omega)
      obtain ⟨a0, a1, a2, a3⟩ := X.out.c4 (i := 0) rfl
      go_wp2_with fail
      refine (HNR.out _).mono ?_
      rintro e u2 ⟨rfl, hb9⟩
      have X := Lib.hid (X.out.next hb9)
      clear hb9
      clear a0 a1 a2 a3
      obtain ⟨x0, x1, x2, x3⟩ := X.out.c4 (i := 5) rfl
      obtain ⟨y0, y1, y2, y3⟩ := X.out.f4 (i := 5) rfl
      go_wp2_with fail
      have X := Lib.hid (X.out.set4 (i := 5) rfl (.bool bn) (.string mn) (.bool false) (.string kn))
      go_meet
      exact X.out
    · have hsd := decide_eq_false hs
      obtain ⟨rfl, rfl, rfl⟩ := HX2.out (by omega)
      go_wp2_with fail
      go_meet
      exact X.out
  have hX := hcut
  have X := Lib.hid hX
  clear hX hcut
  clear HX1 HX2
  go_upto_region 11 with fail
  go_cut [92] (fun s92 wx => s92 = .bool false ∧ Sb w [(g7, #[.bool ba, .string ma, .bool false, .string ka], 25), (g8, #[.bool bb, .string mb, .bool false, .string kb], 25), (g9, #[.bool bc, .string mc, .bool false, .string kc], 25), (g11, #[.bool bl, .string ml, .bool false, .string kl], 25), (g12, #[.bool bh, .string mh, .bool false, .string kh], 25), (g13, #[.bool bx, .string mx, .bool false, .string kx], 25)] [] wx)
  case first =>
    as_aux_lemma =>
      refine wp_region_late (S := fun w' => (w'.cell? ⟨g7, 0, none⟩ = some (.bool ba) ∧ w'.cell? ⟨g7, 1, none⟩ = some (.string ma) ∧ w'.cell? ⟨g7, 2, none⟩ = some (.bool false) ∧ w'.cell? ⟨g7, 3, none⟩ = some (.string ka)) ∧ (w'.cell? ⟨g8, 0, none⟩ = some (.bool bb) ∧ w'.cell? ⟨g8, 1, none⟩ = some (.string mb) ∧ w'.cell? ⟨g8, 2, none⟩ = some (.bool false) ∧ w'.cell? ⟨g8, 3, none⟩ = some (.string kb)) ∧ (w'.cell? ⟨g11, 0, none⟩ = some (.bool bl) ∧ w'.cell? ⟨g11, 1, none⟩ = some (.string ml) ∧ w'.cell? ⟨g11, 2, none⟩ = some (.bool false) ∧ w'.cell? ⟨g11, 3, none⟩ = some (.string kl)) ∧ (w'.cell? ⟨g12, 0, none⟩ = some (.bool bh) ∧ w'.cell? ⟨g12, 1, none⟩ = some (.string mh) ∧ w'.cell? ⟨g12, 2, none⟩ = some (.bool false) ∧ w'.cell? ⟨g12, 3, none⟩ = some (.string kh)) ∧ (w'.cell? ⟨g13, 0, none⟩ = some (.bool bx) ∧ w'.cell? ⟨g13, 1, none⟩ = some (.string mx) ∧ w'.cell? ⟨g13, 2, none⟩ = some (.bool false) ∧ w'.cell? ⟨g13, 3, none⟩ = some (.string kx))) (L := []) (by kernel_rfl) ?_
      have X := Lib.hid X.out.drew
      obtain ⟨V0, hV⟩ := wexi X.out
      rw [← hV] at X ⊢
      clear hV
      refine tk (i := 0) (oi := ⟨some 67, _, _, _, _, _⟩) (v := _) rfl (by kernel_rfl) (fun _ _ _ h => h) (⟨X.out.c4 (i := 0) rfl, X.out.c4 (i := 1) rfl, X.out.c4 (i := 3) rfl, X.out.c4 (i := 4) rfl, X.out.c4 (i := 5) rfl⟩) (Or.inl ⟨by rfl, by intro w hSw; (try dsimp only at hSw); (first | (go_simp; done) | (go_simp; with_reducible rfl))⟩) ?_
      try simp only [Act.put, seti, set0, setS]
      refine tk (i := 1) (oi := ⟨some 68, _, _, _, _, _⟩) (v := _) rfl (by kernel_rfl) (fun _ _ _ h => h) (⟨X.out.c4 (i := 0) rfl, X.out.c4 (i := 1) rfl, X.out.c4 (i := 3) rfl, X.out.c4 (i := 4) rfl, X.out.c4 (i := 5) rfl⟩) (Or.inl ⟨by rfl, by intro w hSw; (try dsimp only at hSw); (first | (go_simp; done) | (go_simp; with_reducible rfl))⟩) ?_
      try simp only [Act.put, seti, set0, setS]
      refine tk (i := 3) (oi := ⟨some 70, _, _, _, _, _⟩) (v := _) rfl (by kernel_rfl) (fun _ _ _ h => h) (⟨X.out.c4 (i := 0) rfl, X.out.c4 (i := 1) rfl, X.out.c4 (i := 3) rfl, X.out.c4 (i := 4) rfl, X.out.c4 (i := 5) rfl⟩) (Or.inl ⟨by rfl, by intro w hSw; (try dsimp only at hSw); (first | (go_simp; done) | (go_simp; with_reducible rfl))⟩) ?_
      try simp only [Act.put, seti, set0, setS]
      refine wpLate_one (i := 2) (o := ⟨some 69, _, _, _, _, _⟩) (by kernel_rfl) rfl (fun K hK => ?_)
      go_simp
      (go_at_call 43; refine (HMIN.out _ (HE.out _ X.out.bel)).mono ?_; rintro e u1 ⟨rfl, hb9⟩; have X := Lib.hid (X.out.next hb9); clear hb9)
      try go_wp2_with fail
      refine hK.out _ _ (Or.inr (fun _ => ⟨X.out.c4 (i := 0) rfl, X.out.c4 (i := 1) rfl, X.out.c4 (i := 3) rfl, X.out.c4 (i := 4) rfl, X.out.c4 (i := 5) rfl⟩)) ?_
      clear hK K
      try simp only [Act.put, seti, set0, setS]
      refine tk (i := 4) (oi := ⟨some 71, _, _, _, _, _⟩) (v := _) rfl (by kernel_rfl) (fun _ _ _ h => h) (⟨X.out.c4 (i := 0) rfl, X.out.c4 (i := 1) rfl, X.out.c4 (i := 3) rfl, X.out.c4 (i := 4) rfl, X.out.c4 (i := 5) rfl⟩) (Or.inl ⟨by rfl, by intro w hSw; (try dsimp only at hSw); (first | (go_simp; done) | (go_simp; with_reducible rfl))⟩) ?_
      try simp only [Act.put, seti, set0, setS]
      refine tk (i := 5) (oi := ⟨some 72, _, _, _, _, _⟩) (v := _) rfl (by kernel_rfl) (fun _ _ _ h => h) (⟨X.out.c4 (i := 0) rfl, X.out.c4 (i := 1) rfl, X.out.c4 (i := 3) rfl, X.out.c4 (i := 4) rfl, X.out.c4 (i := 5) rfl⟩) (Or.inl ⟨by rfl, by intro w hSw; (try dsimp only at hSw); (first | (go_simp; done) | (go_simp; with_reducible rfl))⟩) ?_
      try simp only [Act.put, seti, set0, setS]
      refine tk (i := 6) (oi := ⟨some 73, _, _, _, _, _⟩) (v := _) rfl (by kernel_rfl) (fun _ _ _ h => h) (⟨X.out.c4 (i := 0) rfl, X.out.c4 (i := 1) rfl, X.out.c4 (i := 3) rfl, X.out.c4 (i := 4) rfl, X.out.c4 (i := 5) rfl⟩) (Or.inl ⟨by rfl, by intro w hSw; (try dsimp only at hSw); (first | (go_simp; done) | (go_simp; with_reducible rfl))⟩) ?_
      try simp only [Act.put, seti, set0, setS]
      refine tk (i := 7) (oi := ⟨some 74, _, _, _, _, _⟩) (v := _) rfl (by kernel_rfl) (fun _ _ _ h => h) (⟨X.out.c4 (i := 0) rfl, X.out.c4 (i := 1) rfl, X.out.c4 (i := 3) rfl, X.out.c4 (i := 4) rfl, X.out.c4 (i := 5) rfl⟩) (Or.inl ⟨by rfl, by intro w hSw; (try dsimp only at hSw); (first | (go_simp; done) | (go_simp; with_reducible rfl))⟩) ?_
      try simp only [Act.put, seti, set0, setS]
      refine tk (i := 9) (oi := ⟨some 76, _, _, _, _, _⟩) (v := _) rfl (by kernel_rfl) (fun _ _ _ h => h) (⟨X.out.c4 (i := 0) rfl, X.out.c4 (i := 1) rfl, X.out.c4 (i := 3) rfl, X.out.c4 (i := 4) rfl, X.out.c4 (i := 5) rfl⟩) (Or.inl ⟨by rfl, by intro w hSw; (try dsimp only at hSw); (first | (go_simp; done) | (go_simp; with_reducible rfl))⟩) ?_
      try simp only [Act.put, seti, set0, setS]
      refine wpLate_one (i := 8) (o := ⟨some 75, _, _, _, _, _⟩) (by kernel_rfl) rfl (fun K hK => ?_)
      go_simp
      (go_at_call 44; refine (HMAX.out _ (HE.out _ X.out.bel)).mono ?_; rintro e u2 ⟨rfl, hb9⟩; have X := Lib.hid (X.out.next hb9); clear hb9)
      try go_wp2_with fail
      refine hK.out _ _ (Or.inr (fun _ => ⟨X.out.c4 (i := 0) rfl, X.out.c4 (i := 1) rfl, X.out.c4 (i := 3) rfl, X.out.c4 (i := 4) rfl, X.out.c4 (i := 5) rfl⟩)) ?_
      clear hK K
      try simp only [Act.put, seti, set0, setS]
      refine tk (i := 10) (oi := ⟨some 77, _, _, _, _, _⟩) (v := _) rfl (by kernel_rfl) (fun _ _ _ h => h) (⟨X.out.c4 (i := 0) rfl, X.out.c4 (i := 1) rfl, X.out.c4 (i := 3) rfl, X.out.c4 (i := 4) rfl, X.out.c4 (i := 5) rfl⟩) (Or.inl ⟨by rfl, by intro w hSw; (try dsimp only at hSw); (first | (go_simp; done) | (go_simp; with_reducible rfl))⟩) ?_
      try simp only [Act.put, seti, set0, setS]
      refine tk (i := 11) (oi := ⟨some 78, _, _, _, _, _⟩) (v := _) rfl (by kernel_rfl) (fun _ _ _ h => h) (⟨X.out.c4 (i := 0) rfl, X.out.c4 (i := 1) rfl, X.out.c4 (i := 3) rfl, X.out.c4 (i := 4) rfl, X.out.c4 (i := 5) rfl⟩) (Or.inl ⟨by rfl, by intro w hSw; (try dsimp only at hSw); (first | (go_simp; done) | (go_simp; with_reducible rfl))⟩) ?_
      try simp only [Act.put, seti, set0, setS]
      refine tk (i := 12) (oi := ⟨some 79, _, _, _, _, _⟩) (v := _) rfl (by kernel_rfl) (fun _ _ _ h => h) (⟨X.out.c4 (i := 0) rfl, X.out.c4 (i := 1) rfl, X.out.c4 (i := 3) rfl, X.out.c4 (i := 4) rfl, X.out.c4 (i := 5) rfl⟩) (Or.inl ⟨by rfl, by intro w hSw; (try dsimp only at hSw); (first | (go_simp; done) | (go_simp; with_reducible rfl))⟩) ?_
      try simp only [Act.put, seti, set0, setS]
      refine tk (i := 13) (oi := ⟨some 80, _, _, _, _, _⟩) (v := _) rfl (by kernel_rfl) (fun _ _ _ h => h) (⟨X.out.c4 (i := 0) rfl, X.out.c4 (i := 1) rfl, X.out.c4 (i := 3) rfl, X.out.c4 (i := 4) rfl, X.out.c4 (i := 5) rfl⟩) (Or.inl ⟨by rfl, by intro w hSw; (try dsimp only at hSw); (first | (go_simp; done) | (go_simp; with_reducible rfl))⟩) ?_
      try simp only [Act.put, seti, set0, setS]
      refine tk (i := 15) (oi := ⟨some 82, _, _, _, _, _⟩) (v := _) rfl (by kernel_rfl) (fun _ _ _ h => h) (⟨X.out.c4 (i := 0) rfl, X.out.c4 (i := 1) rfl, X.out.c4 (i := 3) rfl, X.out.c4 (i := 4) rfl, X.out.c4 (i := 5) rfl⟩) (Or.inl ⟨by rfl, by intro w hSw; (try dsimp only at hSw); (first | (go_simp; done) | (go_simp; with_reducible rfl))⟩) ?_
      try simp only [Act.put, seti, set0, setS]
      refine wpLate_one (i := 14) (o := ⟨some 81, _, _, _, _, _⟩) (by kernel_rfl) rfl (fun K hK => ?_)
      go_simp
      (go_at_call 45; refine (HABS.out _).mono ?_; rintro e u3 ⟨rfl, hb9⟩; have X := Lib.hid (X.out.next hb9); clear hb9)
      try go_wp2_with fail
      refine hK.out _ _ (Or.inr (fun _ => ⟨X.out.c4 (i := 0) rfl, X.out.c4 (i := 1) rfl, X.out.c4 (i := 3) rfl, X.out.c4 (i := 4) rfl, X.out.c4 (i := 5) rfl⟩)) ?_
      clear hK K
      try simp only [Act.put, seti, set0, setS]
      refine tk (i := 16) (oi := ⟨some 83, _, _, _, _, _⟩) (v := _) rfl (by kernel_rfl) (fun _ _ _ h => h) (⟨X.out.c4 (i := 0) rfl, X.out.c4 (i := 1) rfl, X.out.c4 (i := 3) rfl, X.out.c4 (i := 4) rfl, X.out.c4 (i := 5) rfl⟩) (Or.inl ⟨by rfl, by intro w hSw; (try dsimp only at hSw); (first | (go_simp; done) | (go_simp; with_reducible rfl))⟩) ?_
      try simp only [Act.put, seti, set0, setS]
      refine tk (i := 17) (oi := ⟨some 84, _, _, _, _, _⟩) (v := _) rfl (by kernel_rfl) (fun _ _ _ h => h) (⟨X.out.c4 (i := 0) rfl, X.out.c4 (i := 1) rfl, X.out.c4 (i := 3) rfl, X.out.c4 (i := 4) rfl, X.out.c4 (i := 5) rfl⟩) (Or.inl ⟨by rfl, by intro w hSw; (try dsimp only at hSw); (first | (go_simp; done) | (go_simp; with_reducible rfl))⟩) ?_
      try simp only [Act.put, seti, set0, setS]
      refine tk (i := 18) (oi := ⟨some 85, _, _, _, _, _⟩) (v := _) rfl (by kernel_rfl) (fun _ _ _ h => h) (⟨X.out.c4 (i := 0) rfl, X.out.c4 (i := 1) rfl, X.out.c4 (i := 3) rfl, X.out.c4 (i := 4) rfl, X.out.c4 (i := 5) rfl⟩) (Or.inl ⟨by rfl, by intro w hSw; (try dsimp only at hSw); (first | (go_simp; done) | (go_simp; with_reducible rfl))⟩) ?_
      try simp only [Act.put, seti, set0, setS]
      refine tk (i := 19) (oi := ⟨some 86, _, _, _, _, _⟩) (v := _) rfl (by kernel_rfl) (fun _ _ _ h => h) (⟨X.out.c4 (i := 0) rfl, X.out.c4 (i := 1) rfl, X.out.c4 (i := 3) rfl, X.out.c4 (i := 4) rfl, X.out.c4 (i := 5) rfl⟩) (Or.inl ⟨by rfl, by intro w hSw; (try dsimp only at hSw); (first | (go_simp; done) | (go_simp; with_reducible rfl))⟩) ?_
      try simp only [Act.put, seti, set0, setS]
      refine tk (i := 20) (oi := ⟨some 87, _, _, _, _, _⟩) (v := _) rfl (by kernel_rfl) (fun _ _ _ h => h) (⟨X.out.c4 (i := 0) rfl, X.out.c4 (i := 1) rfl, X.out.c4 (i := 3) rfl, X.out.c4 (i := 4) rfl, X.out.c4 (i := 5) rfl⟩) (Or.inl ⟨by rfl, by intro w hSw; (try dsimp only at hSw); (first | (go_simp; done) | (go_simp; with_reducible rfl))⟩) ?_
      try simp only [Act.put, seti, set0, setS]
      refine tk (i := 21) (oi := ⟨some 88, _, _, _, _, _⟩) (v := _) rfl (by kernel_rfl) (fun _ _ _ h => h) (⟨X.out.c4 (i := 0) rfl, X.out.c4 (i := 1) rfl, X.out.c4 (i := 3) rfl, X.out.c4 (i := 4) rfl, X.out.c4 (i := 5) rfl⟩) (Or.inl ⟨by rfl, by intro w hSw; (try dsimp only at hSw); (first | (go_simp; done) | (go_simp; with_reducible rfl))⟩) ?_
      try simp only [Act.put, seti, set0, setS]
      refine tk (i := 22) (oi := ⟨some 89, _, _, _, _, _⟩) (v := _) rfl (by kernel_rfl) (fun _ _ _ h => h) (⟨X.out.c4 (i := 0) rfl, X.out.c4 (i := 1) rfl, X.out.c4 (i := 3) rfl, X.out.c4 (i := 4) rfl, X.out.c4 (i := 5) rfl⟩) (Or.inl ⟨by rfl, by intro w hSw; (try dsimp only at hSw); (first | (go_simp; done) | (go_simp; with_reducible rfl))⟩) ?_
      try simp only [Act.put, seti, set0, setS]
      refine tk (i := 23) (oi := ⟨some 90, _, _, _, _, _⟩) (v := _) rfl (by kernel_rfl) (fun _ _ _ h => h) (⟨X.out.c4 (i := 0) rfl, X.out.c4 (i := 1) rfl, X.out.c4 (i := 3) rfl, X.out.c4 (i := 4) rfl, X.out.c4 (i := 5) rfl⟩) (Or.inl ⟨by rfl, by intro w hSw; (try dsimp only at hSw); go_simp; exact ite3 _⟩) ?_
      try simp only [Act.put, seti, set0, setS]
      refine tk (i := 24) (oi := ⟨some 91, _, _, _, _, _⟩) (v := _) rfl (by kernel_rfl) (fun _ _ _ h => h) (⟨X.out.c4 (i := 0) rfl, X.out.c4 (i := 1) rfl, X.out.c4 (i := 3) rfl, X.out.c4 (i := 4) rfl, X.out.c4 (i := 5) rfl⟩) (Or.inl ⟨by rfl, by intro w hSw; (try dsimp only at hSw); (first | (go_simp; done) | (go_simp; with_reducible rfl))⟩) ?_
      try simp only [Act.put, seti, set0, setS]
      refine tk (i := 25) (oi := ⟨some 92, _, _, _, _, _⟩) (v := _) rfl (by kernel_rfl) (fun _ _ _ h => h) (⟨X.out.c4 (i := 0) rfl, X.out.c4 (i := 1) rfl, X.out.c4 (i := 3) rfl, X.out.c4 (i := 4) rfl, X.out.c4 (i := 5) rfl⟩) (Or.inl ⟨by rfl, by intro w hSw; (try dsimp only at hSw); (first | (go_simp; done) | (go_simp; with_reducible rfl))⟩) ?_
      try simp only [Act.put, seti, set0, setS]
      refine wpLate_done (by kernel_rfl) ?_ _
      go_wp2_with fail
      go_meet
      refine ⟨?_, X.out.pick [0, 1, 2, 3, 4, 5] _ [] rfl (by decide) (by simp)⟩
      exact hole11 HEQ.out HNE.out
  obtain ⟨rfl, hX⟩ := hcut
  have X := Lib.hid hX
  clear hX
  have X := Lib.hid (X.out.pick [0, 1, 2] [(g7, #[.bool ba, .string ma, .bool false, .string ka], 25), (g8, #[.bool bb, .string mb, .bool false, .string kb], 25), (g9, #[.bool bc, .string mc, .bool false, .string kc], 25)] [] rfl (by decide) (by simp))
  go_upto_region 13 with fail
  go_cut [14] (fun s14 wx => s14 = .int .i64 y ∧ Sb w [(g7, #[.bool ba, .string ma, .bool false, .string ka], 25), (g8, #[.bool bb, .string mb, .bool false, .string kb], 25), (g9, #[.bool bc, .string mc, .bool false, .string kc], 25)] [] wx)
  case first =>
    obtain ⟨a0, a1, a2, a3⟩ := X.out.c4 (i := 1) rfl
    obtain ⟨c0, c1, c2, c3⟩ := X.out.c4 (i := 2) rfl
    go_wp2_with fail
    refine (HC3.out _ (HE.out _ X.out.bel)).mono ?_
    rintro e u1 ⟨rfl, hb9⟩
    have X := Lib.hid (X.out.next hb9)
    clear hb9
    clear a0 a1 a2 a3 c0 c1 c2 c3
    go_wp2_with fail
    go_meet
    exact ⟨rfl, X.out⟩
  obtain ⟨rfl, hX⟩ := hcut
  have X := Lib.hid hX
  clear hX
  go_upto_region 14 with fail
  by_cases hz : 0 < z
  · have hzd := decide_eq_true hz
    as_aux_lemma =>
      refine wp_region_late (S := fun w' => (w'.cell? ⟨g7, 0, none⟩ = some (.bool ba) ∧ w'.cell? ⟨g7, 1, none⟩ = some (.string ma) ∧ w'.cell? ⟨g7, 2, none⟩ = some (.bool false) ∧ w'.cell? ⟨g7, 3, none⟩ = some (.string ka)) ∧ (w'.cell? ⟨g8, 0, none⟩ = some (.bool bb) ∧ w'.cell? ⟨g8, 1, none⟩ = some (.string mb) ∧ w'.cell? ⟨g8, 2, none⟩ = some (.bool false) ∧ w'.cell? ⟨g8, 3, none⟩ = some (.string kb)) ∧ (w'.cell? ⟨g9, 0, none⟩ = some (.bool bc) ∧ w'.cell? ⟨g9, 1, none⟩ = some (.string mc) ∧ w'.cell? ⟨g9, 2, none⟩ = some (.bool false) ∧ w'.cell? ⟨g9, 3, none⟩ = some (.string kc))) (L := []) (by kernel_rfl) ?_
      have X := Lib.hid X.out.drew
      obtain ⟨V0, hV⟩ := wexi X.out
      rw [← hV] at X ⊢
      clear hV
      refine tk (i := 0) (oi := ⟨some 96, _, _, _, _, _⟩) (v := _) rfl (by kernel_rfl) (fun _ _ _ h => h) (⟨X.out.c4 (i := 0) rfl, X.out.c4 (i := 1) rfl, X.out.c4 (i := 2) rfl⟩) (Or.inl ⟨by rfl, by intro w hSw; (try dsimp only at hSw); (first | (go_simp; done) | (go_simp; with_reducible rfl))⟩) ?_
      try simp only [Act.put, seti, set0, setS]
      refine tk (i := 1) (oi := ⟨some 97, _, _, _, _, _⟩) (v := _) rfl (by kernel_rfl) (fun _ _ _ h => h) (⟨X.out.c4 (i := 0) rfl, X.out.c4 (i := 1) rfl, X.out.c4 (i := 2) rfl⟩) (Or.inl ⟨by rfl, by intro w hSw; (try dsimp only at hSw); (first | (go_simp; done) | (go_simp; with_reducible rfl))⟩) ?_
      try simp only [Act.put, seti, set0, setS]
      refine tk (i := 3) (oi := ⟨some 99, _, _, _, _, _⟩) (v := _) rfl (by kernel_rfl) (fun _ _ _ h => h) (⟨X.out.c4 (i := 0) rfl, X.out.c4 (i := 1) rfl, X.out.c4 (i := 2) rfl⟩) (Or.inl ⟨by rfl, by intro w hSw; (try dsimp only at hSw); (first | (go_simp; done) | (go_simp; with_reducible rfl))⟩) ?_
      try simp only [Act.put, seti, set0, setS]
      refine tk (i := 4) (oi := ⟨some 100, _, _, _, _, _⟩) (v := _) rfl (by kernel_rfl) (fun _ _ _ h => h) (⟨X.out.c4 (i := 0) rfl, X.out.c4 (i := 1) rfl, X.out.c4 (i := 2) rfl⟩) (Or.inl ⟨by rfl, by intro w hSw; (try dsimp only at hSw); (first | (go_simp; done) | (go_simp; with_reducible rfl))⟩) ?_
      try simp only [Act.put, seti, set0, setS]
      refine tk (i := 7) (oi := ⟨some 103, _, _, _, _, _⟩) (v := _) rfl (by kernel_rfl) (fun _ _ _ h => h) (⟨X.out.c4 (i := 0) rfl, X.out.c4 (i := 1) rfl, X.out.c4 (i := 2) rfl⟩) (Or.inl ⟨by rfl, by intro w hSw; (try dsimp only at hSw); (first | (go_simp; done) | (go_simp; with_reducible rfl))⟩) ?_
      try simp only [Act.put, seti, set0, setS]
      refine wpLate_one (i := 2) (o := ⟨some 98, _, _, _, _, _⟩) (by kernel_rfl) rfl (fun K hK => ?_)
      go_simp
      (go_at_call 28; refine (HAC.out _ (HE.out _ X.out.bel)).mono ?_; rintro e u1 ⟨rfl, hb9⟩; have X := Lib.hid (X.out.next hb9); clear hb9)
      try go_wp2_with fail
      refine hK.out _ _ (Or.inr (fun _ => ⟨X.out.c4 (i := 0) rfl, X.out.c4 (i := 1) rfl, X.out.c4 (i := 2) rfl⟩)) ?_
      clear hK K
      try simp only [Act.put, seti, set0, setS]
      refine wpLate_one (i := 5) (o := ⟨some 101, _, _, _, _, _⟩) (by kernel_rfl) rfl (fun K hK => ?_)
      go_simp
      (go_at_call 28; refine (HBC.out _ (HE.out _ X.out.bel)).mono ?_; rintro e u2 ⟨rfl, hb9⟩; have X := Lib.hid (X.out.next hb9); clear hb9)
      try go_wp2_with fail
      refine hK.out _ _ (Or.inr (fun _ => ⟨X.out.c4 (i := 0) rfl, X.out.c4 (i := 1) rfl, X.out.c4 (i := 2) rfl⟩)) ?_
      clear hK K
      try simp only [Act.put, seti, set0, setS]
      refine wpLate_one (i := 6) (o := ⟨some 102, _, _, _, _, _⟩) (by kernel_rfl) rfl (fun K hK => ?_)
      go_simp
      (go_at_call 38; refine (HC4.out _ (HE.out _ X.out.bel)).mono ?_; rintro e u3 ⟨rfl, hb9⟩; have X := Lib.hid (X.out.next hb9); clear hb9)
      try go_wp2_with fail
      refine hK.out _ _ (Or.inr (fun _ => ⟨X.out.c4 (i := 0) rfl, X.out.c4 (i := 1) rfl, X.out.c4 (i := 2) rfl⟩)) ?_
      clear hK K
      try simp only [Act.put, seti, set0, setS]
      refine tk (i := 8) (oi := ⟨some 104, _, _, _, _, _⟩) (v := _) rfl (by kernel_rfl) (fun _ _ _ h => h) (⟨X.out.c4 (i := 0) rfl, X.out.c4 (i := 1) rfl, X.out.c4 (i := 2) rfl⟩) (Or.inl ⟨by rfl, by intro w hSw; (try dsimp only at hSw); (first | (go_simp; done) | (go_simp; with_reducible rfl))⟩) ?_
      try simp only [Act.put, seti, set0, setS]
      refine tk (i := 9) (oi := ⟨some 105, _, _, _, _, _⟩) (v := _) rfl (by kernel_rfl) (fun _ _ _ h => h) (⟨X.out.c4 (i := 0) rfl, X.out.c4 (i := 1) rfl, X.out.c4 (i := 2) rfl⟩) (Or.inl ⟨by rfl, by intro w hSw; (try dsimp only at hSw); (first | (go_simp; done) | (go_simp; with_reducible rfl))⟩) ?_
      try simp only [Act.put, seti, set0, setS]
      refine tk (i := 10) (oi := ⟨some 106, _, _, _, _, _⟩) (v := _) rfl (by kernel_rfl) (fun _ _ _ h => h) (⟨X.out.c4 (i := 0) rfl, X.out.c4 (i := 1) rfl, X.out.c4 (i := 2) rfl⟩) (Or.inl ⟨by rfl, by intro w hSw; (try dsimp only at hSw); (first | (go_simp; done) | (go_simp; with_reducible rfl))⟩) ?_
      try simp only [Act.put, seti, set0, setS]
      refine tk (i := 11) (oi := ⟨some 107, _, _, _, _, _⟩) (v := _) rfl (by kernel_rfl) (fun _ _ _ h => h) (⟨X.out.c4 (i := 0) rfl, X.out.c4 (i := 1) rfl, X.out.c4 (i := 2) rfl⟩) (Or.inl ⟨by rfl, by intro w hSw; (try dsimp only at hSw); (first | (go_simp; done) | (go_simp; with_reducible rfl))⟩) ?_
      try simp only [Act.put, seti, set0, setS]
      refine tk (i := 12) (oi := ⟨some 108, _, _, _, _, _⟩) (v := _) rfl (by kernel_rfl) (fun _ _ _ h => h) (⟨X.out.c4 (i := 0) rfl, X.out.c4 (i := 1) rfl, X.out.c4 (i := 2) rfl⟩) (Or.inl ⟨by rfl, by intro w hSw; (try dsimp only at hSw); (first | (go_simp; done) | (go_simp; with_reducible rfl))⟩) ?_
      try simp only [Act.put, seti, set0, setS]
      refine tk (i := 13) (oi := ⟨some 109, _, _, _, _, _⟩) (v := undef) rfl (by kernel_rfl) (fun _ _ _ h => h) (⟨X.out.c4 (i := 0) rfl, X.out.c4 (i := 1) rfl, X.out.c4 (i := 2) rfl⟩) (Or.inr ⟨by rfl, rfl⟩) ?_
      try simp only [Act.put, seti, set0, setS]
      refine tk (i := 14) (oi := ⟨some 110, _, _, _, _, _⟩) (v := undef) rfl (by kernel_rfl) (fun _ _ _ h => h) (⟨X.out.c4 (i := 0) rfl, X.out.c4 (i := 1) rfl, X.out.c4 (i := 2) rfl⟩) (Or.inr ⟨by rfl, rfl⟩) ?_
      try simp only [Act.put, seti, set0, setS]
      refine tk (i := 15) (oi := ⟨some 111, _, _, _, _, _⟩) (v := _) rfl (by kernel_rfl) (fun _ _ _ h => h) (⟨X.out.c4 (i := 0) rfl, X.out.c4 (i := 1) rfl, X.out.c4 (i := 2) rfl⟩) (Or.inl ⟨by rfl, by intro w hSw; (try dsimp only at hSw); (first | (go_simp; done) | (go_simp; with_reducible rfl))⟩) ?_
      try simp only [Act.put, seti, set0, setS]
      refine tk (i := 16) (oi := ⟨some 112, _, _, _, _, _⟩) (v := _) rfl (by kernel_rfl) (fun _ _ _ h => h) (⟨X.out.c4 (i := 0) rfl, X.out.c4 (i := 1) rfl, X.out.c4 (i := 2) rfl⟩) (Or.inl ⟨by rfl, by intro w hSw; (try dsimp only at hSw); (first | (go_simp; done) | (go_simp; with_reducible rfl))⟩) ?_
      try simp only [Act.put, seti, set0, setS]
      refine tk (i := 17) (oi := ⟨some 113, _, _, _, _, _⟩) (v := undef) rfl (by kernel_rfl) (fun _ _ _ h => h) (⟨X.out.c4 (i := 0) rfl, X.out.c4 (i := 1) rfl, X.out.c4 (i := 2) rfl⟩) (Or.inr ⟨by rfl, rfl⟩) ?_
      try simp only [Act.put, seti, set0, setS]
      refine tk (i := 18) (oi := ⟨some 114, _, _, _, _, _⟩) (v := undef) rfl (by kernel_rfl) (fun _ _ _ h => h) (⟨X.out.c4 (i := 0) rfl, X.out.c4 (i := 1) rfl, X.out.c4 (i := 2) rfl⟩) (Or.inr ⟨by rfl, rfl⟩) ?_
      try simp only [Act.put, seti, set0, setS]
      refine tk (i := 19) (oi := ⟨some 115, _, _, _, _, _⟩) (v := undef) rfl (by kernel_rfl) (fun _ _ _ h => h) (⟨X.out.c4 (i := 0) rfl, X.out.c4 (i := 1) rfl, X.out.c4 (i := 2) rfl⟩) (Or.inr ⟨by rfl, rfl⟩) ?_
      try simp only [Act.put, seti, set0, setS]
      refine tk (i := 20) (oi := ⟨some 116, _, _, _, _, _⟩) (v := undef) rfl (by kernel_rfl) (fun _ _ _ h => h) (⟨X.out.c4 (i := 0) rfl, X.out.c4 (i := 1) rfl, X.out.c4 (i := 2) rfl⟩) (Or.inr ⟨by rfl, rfl⟩) ?_
      try simp only [Act.put, seti, set0, setS]
      refine tk (i := 21) (oi := ⟨some 117, _, _, _, _, _⟩) (v := _) rfl (by kernel_rfl) (fun _ _ _ h => h) (⟨X.out.c4 (i := 0) rfl, X.out.c4 (i := 1) rfl, X.out.c4 (i := 2) rfl⟩) (Or.inl ⟨by rfl, by intro w hSw; (try dsimp only at hSw); (first | (go_simp; done) | (go_simp; with_reducible rfl))⟩) ?_
      try simp only [Act.put, seti, set0, setS]
      refine tk (i := 22) (oi := ⟨some 118, _, _, _, _, _⟩) (v := _) rfl (by kernel_rfl) (fun _ _ _ h => h) (⟨X.out.c4 (i := 0) rfl, X.out.c4 (i := 1) rfl, X.out.c4 (i := 2) rfl⟩) (Or.inl ⟨by rfl, by intro w hSw; (try dsimp only at hSw); (first | (go_simp; done) | (go_simp; with_reducible rfl))⟩) ?_
      try simp only [Act.put, seti, set0, setS]
      refine tk (i := 23) (oi := ⟨some 6, _, _, _, _, _⟩) (v := _) rfl (by kernel_rfl) (fun _ _ _ h => h) (⟨X.out.c4 (i := 0) rfl, X.out.c4 (i := 1) rfl, X.out.c4 (i := 2) rfl⟩) (Or.inl ⟨by rfl, by intro w hSw; (try dsimp only at hSw); (first | (go_simp; done) | (go_simp; with_reducible rfl))⟩) ?_
      try simp only [Act.put, seti, set0, setS]
      refine wpLate_done (by kernel_rfl) ?_ _
      go_wp2
      go_ret
      exact ⟨rfl, X.out.bel⟩
  · have hzd := decide_eq_false hz
    by_cases hy : 0 < y
    · have hyd := decide_eq_true hy
      as_aux_lemma =>
        refine wp_region_late (S := fun w' => (w'.cell? ⟨g7, 0, none⟩ = some (.bool ba) ∧ w'.cell? ⟨g7, 1, none⟩ = some (.string ma) ∧ w'.cell? ⟨g7, 2, none⟩ = some (.bool false) ∧ w'.cell? ⟨g7, 3, none⟩ = some (.string ka)) ∧ (w'.cell? ⟨g8, 0, none⟩ = some (.bool bb) ∧ w'.cell? ⟨g8, 1, none⟩ = some (.string mb) ∧ w'.cell? ⟨g8, 2, none⟩ = some (.bool false) ∧ w'.cell? ⟨g8, 3, none⟩ = some (.string kb)) ∧ (w'.cell? ⟨g9, 0, none⟩ = some (.bool bc) ∧ w'.cell? ⟨g9, 1, none⟩ = some (.string mc) ∧ w'.cell? ⟨g9, 2, none⟩ = some (.bool false) ∧ w'.cell? ⟨g9, 3, none⟩ = some (.string kc))) (L := []) (by kernel_rfl) ?_
        have X := Lib.hid X.out.drew
        obtain ⟨V0, hV⟩ := wexi X.out
        rw [← hV] at X ⊢
        clear hV
        refine tk (i := 0) (oi := ⟨some 96, _, _, _, _, _⟩) (v := _) rfl (by kernel_rfl) (fun _ _ _ h => h) (⟨X.out.c4 (i := 0) rfl, X.out.c4 (i := 1) rfl, X.out.c4 (i := 2) rfl⟩) (Or.inl ⟨by rfl, by intro w hSw; (try dsimp only at hSw); (first | (go_simp; done) | (go_simp; with_reducible rfl))⟩) ?_
        try simp only [Act.put, seti, set0, setS]
        refine tk (i := 1) (oi := ⟨some 97, _, _, _, _, _⟩) (v := _) rfl (by kernel_rfl) (fun _ _ _ h => h) (⟨X.out.c4 (i := 0) rfl, X.out.c4 (i := 1) rfl, X.out.c4 (i := 2) rfl⟩) (Or.inl ⟨by rfl, by intro w hSw; (try dsimp only at hSw); (first | (go_simp; done) | (go_simp; with_reducible rfl))⟩) ?_
        try simp only [Act.put, seti, set0, setS]
        refine tk (i := 3) (oi := ⟨some 99, _, _, _, _, _⟩) (v := _) rfl (by kernel_rfl) (fun _ _ _ h => h) (⟨X.out.c4 (i := 0) rfl, X.out.c4 (i := 1) rfl, X.out.c4 (i := 2) rfl⟩) (Or.inl ⟨by rfl, by intro w hSw; (try dsimp only at hSw); (first | (go_simp; done) | (go_simp; with_reducible rfl))⟩) ?_
        try simp only [Act.put, seti, set0, setS]
        refine tk (i := 4) (oi := ⟨some 100, _, _, _, _, _⟩) (v := _) rfl (by kernel_rfl) (fun _ _ _ h => h) (⟨X.out.c4 (i := 0) rfl, X.out.c4 (i := 1) rfl, X.out.c4 (i := 2) rfl⟩) (Or.inl ⟨by rfl, by intro w hSw; (try dsimp only at hSw); (first | (go_simp; done) | (go_simp; with_reducible rfl))⟩) ?_
        try simp only [Act.put, seti, set0, setS]
        refine tk (i := 7) (oi := ⟨some 103, _, _, _, _, _⟩) (v := _) rfl (by kernel_rfl) (fun _ _ _ h => h) (⟨X.out.c4 (i := 0) rfl, X.out.c4 (i := 1) rfl, X.out.c4 (i := 2) rfl⟩) (Or.inl ⟨by rfl, by intro w hSw; (try dsimp only at hSw); (first | (go_simp; done) | (go_simp; with_reducible rfl))⟩) ?_
        try simp only [Act.put, seti, set0, setS]
        refine wpLate_one (i := 2) (o := ⟨some 98, _, _, _, _, _⟩) (by kernel_rfl) rfl (fun K hK => ?_)
        go_simp
        (go_at_call 28; refine (HAC.out _ (HE.out _ X.out.bel)).mono ?_; rintro e u1 ⟨rfl, hb9⟩; have X := Lib.hid (X.out.next hb9); clear hb9)
        try go_wp2_with fail
        refine hK.out _ _ (Or.inr (fun _ => ⟨X.out.c4 (i := 0) rfl, X.out.c4 (i := 1) rfl, X.out.c4 (i := 2) rfl⟩)) ?_
        clear hK K
        try simp only [Act.put, seti, set0, setS]
        refine wpLate_one (i := 5) (o := ⟨some 101, _, _, _, _, _⟩) (by kernel_rfl) rfl (fun K hK => ?_)
        go_simp
        (go_at_call 28; refine (HBC.out _ (HE.out _ X.out.bel)).mono ?_; rintro e u2 ⟨rfl, hb9⟩; have X := Lib.hid (X.out.next hb9); clear hb9)
        try go_wp2_with fail
        refine hK.out _ _ (Or.inr (fun _ => ⟨X.out.c4 (i := 0) rfl, X.out.c4 (i := 1) rfl, X.out.c4 (i := 2) rfl⟩)) ?_
        clear hK K
        try simp only [Act.put, seti, set0, setS]
        refine wpLate_one (i := 6) (o := ⟨some 102, _, _, _, _, _⟩) (by kernel_rfl) rfl (fun K hK => ?_)
        go_simp
        (go_at_call 38; refine (HC4.out _ (HE.out _ X.out.bel)).mono ?_; rintro e u3 ⟨rfl, hb9⟩; have X := Lib.hid (X.out.next hb9); clear hb9)
        try go_wp2_with fail
        refine hK.out _ _ (Or.inr (fun _ => ⟨X.out.c4 (i := 0) rfl, X.out.c4 (i := 1) rfl, X.out.c4 (i := 2) rfl⟩)) ?_
        clear hK K
        try simp only [Act.put, seti, set0, setS]
        refine tk (i := 8) (oi := ⟨some 104, _, _, _, _, _⟩) (v := _) rfl (by kernel_rfl) (fun _ _ _ h => h) (⟨X.out.c4 (i := 0) rfl, X.out.c4 (i := 1) rfl, X.out.c4 (i := 2) rfl⟩) (Or.inl ⟨by rfl, by intro w hSw; (try dsimp only at hSw); (first | (go_simp; done) | (go_simp; with_reducible rfl))⟩) ?_
        try simp only [Act.put, seti, set0, setS]
        refine tk (i := 9) (oi := ⟨some 105, _, _, _, _, _⟩) (v := _) rfl (by kernel_rfl) (fun _ _ _ h => h) (⟨X.out.c4 (i := 0) rfl, X.out.c4 (i := 1) rfl, X.out.c4 (i := 2) rfl⟩) (Or.inl ⟨by rfl, by intro w hSw; (try dsimp only at hSw); (first | (go_simp; done) | (go_simp; with_reducible rfl))⟩) ?_
        try simp only [Act.put, seti, set0, setS]
        refine tk (i := 10) (oi := ⟨some 106, _, _, _, _, _⟩) (v := _) rfl (by kernel_rfl) (fun _ _ _ h => h) (⟨X.out.c4 (i := 0) rfl, X.out.c4 (i := 1) rfl, X.out.c4 (i := 2) rfl⟩) (Or.inl ⟨by rfl, by intro w hSw; (try dsimp only at hSw); (first | (go_simp; done) | (go_simp; with_reducible rfl))⟩) ?_
        try simp only [Act.put, seti, set0, setS]
        refine tk (i := 11) (oi := ⟨some 107, _, _, _, _, _⟩) (v := _) rfl (by kernel_rfl) (fun _ _ _ h => h) (⟨X.out.c4 (i := 0) rfl, X.out.c4 (i := 1) rfl, X.out.c4 (i := 2) rfl⟩) (Or.inl ⟨by rfl, by intro w hSw; (try dsimp only at hSw); (first | (go_simp; done) | (go_simp; with_reducible rfl))⟩) ?_
        try simp only [Act.put, seti, set0, setS]
        refine tk (i := 12) (oi := ⟨some 108, _, _, _, _, _⟩) (v := _) rfl (by kernel_rfl) (fun _ _ _ h => h) (⟨X.out.c4 (i := 0) rfl, X.out.c4 (i := 1) rfl, X.out.c4 (i := 2) rfl⟩) (Or.inl ⟨by rfl, by intro w hSw; (try dsimp only at hSw); (first | (go_simp; done) | (go_simp; with_reducible rfl))⟩) ?_
        try simp only [Act.put, seti, set0, setS]
        refine tk (i := 13) (oi := ⟨some 109, _, _, _, _, _⟩) (v := _) rfl (by kernel_rfl) (fun _ _ _ h => h) (⟨X.out.c4 (i := 0) rfl, X.out.c4 (i := 1) rfl, X.out.c4 (i := 2) rfl⟩) (Or.inl ⟨by rfl, by intro w hSw; (try dsimp only at hSw); (first | (go_simp; done) | (go_simp; with_reducible rfl))⟩) ?_
        try simp only [Act.put, seti, set0, setS]
        refine tk (i := 14) (oi := ⟨some 110, _, _, _, _, _⟩) (v := _) rfl (by kernel_rfl) (fun _ _ _ h => h) (⟨X.out.c4 (i := 0) rfl, X.out.c4 (i := 1) rfl, X.out.c4 (i := 2) rfl⟩) (Or.inl ⟨by rfl, by intro w hSw; (try dsimp only at hSw); (first | (go_simp; done) | (go_simp; with_reducible rfl))⟩) ?_
        try simp only [Act.put, seti, set0, setS]
        refine tk (i := 15) (oi := ⟨some 111, _, _, _, _, _⟩) (v := _) rfl (by kernel_rfl) (fun _ _ _ h => h) (⟨X.out.c4 (i := 0) rfl, X.out.c4 (i := 1) rfl, X.out.c4 (i := 2) rfl⟩) (Or.inl ⟨by rfl, by intro w hSw; (try dsimp only at hSw); (first | (go_simp; done) | (go_simp; with_reducible rfl))⟩) ?_
        try simp only [Act.put, seti, set0, setS]
        refine tk (i := 16) (oi := ⟨some 112, _, _, _, _, _⟩) (v := _) rfl (by kernel_rfl) (fun _ _ _ h => h) (⟨X.out.c4 (i := 0) rfl, X.out.c4 (i := 1) rfl, X.out.c4 (i := 2) rfl⟩) (Or.inl ⟨by rfl, by intro w hSw; (try dsimp only at hSw); (first | (go_simp; done) | (go_simp; with_reducible rfl))⟩) ?_
        try simp only [Act.put, seti, set0, setS]
        refine tk (i := 17) (oi := ⟨some 113, _, _, _, _, _⟩) (v := undef) rfl (by kernel_rfl) (fun _ _ _ h => h) (⟨X.out.c4 (i := 0) rfl, X.out.c4 (i := 1) rfl, X.out.c4 (i := 2) rfl⟩) (Or.inr ⟨by rfl, rfl⟩) ?_
        try simp only [Act.put, seti, set0, setS]
        refine tk (i := 18) (oi := ⟨some 114, _, _, _, _, _⟩) (v := undef) rfl (by kernel_rfl) (fun _ _ _ h => h) (⟨X.out.c4 (i := 0) rfl, X.out.c4 (i := 1) rfl, X.out.c4 (i := 2) rfl⟩) (Or.inr ⟨by rfl, rfl⟩) ?_
        try simp only [Act.put, seti, set0, setS]
        refine tk (i := 19) (oi := ⟨some 115, _, _, _, _, _⟩) (v := undef) rfl (by kernel_rfl) (fun _ _ _ h => h) (⟨X.out.c4 (i := 0) rfl, X.out.c4 (i := 1) rfl, X.out.c4 (i := 2) rfl⟩) (Or.inr ⟨by rfl, rfl⟩) ?_
        try simp only [Act.put, seti, set0, setS]
        refine tk (i := 20) (oi := ⟨some 116, _, _, _, _, _⟩) (v := undef) rfl (by kernel_rfl) (fun _ _ _ h => h) (⟨X.out.c4 (i := 0) rfl, X.out.c4 (i := 1) rfl, X.out.c4 (i := 2) rfl⟩) (Or.inr ⟨by rfl, rfl⟩) ?_
        try simp only [Act.put, seti, set0, setS]
        refine tk (i := 21) (oi := ⟨some 117, _, _, _, _, _⟩) (v := _) rfl (by kernel_rfl) (fun _ _ _ h => h) (⟨X.out.c4 (i := 0) rfl, X.out.c4 (i := 1) rfl, X.out.c4 (i := 2) rfl⟩) (Or.inl ⟨by rfl, by intro w hSw; (try dsimp only at hSw); (first | (go_simp; done) | (go_simp; with_reducible rfl))⟩) ?_
        try simp only [Act.put, seti, set0, setS]
        refine tk (i := 22) (oi := ⟨some 118, _, _, _, _, _⟩) (v := _) rfl (by kernel_rfl) (fun _ _ _ h => h) (⟨X.out.c4 (i := 0) rfl, X.out.c4 (i := 1) rfl, X.out.c4 (i := 2) rfl⟩) (Or.inl ⟨by rfl, by intro w hSw; (try dsimp only at hSw); (first | (go_simp; done) | (go_simp; with_reducible rfl))⟩) ?_
        try simp only [Act.put, seti, set0, setS]
        refine tk (i := 23) (oi := ⟨some 6, _, _, _, _, _⟩) (v := _) rfl (by kernel_rfl) (fun _ _ _ h => h) (⟨X.out.c4 (i := 0) rfl, X.out.c4 (i := 1) rfl, X.out.c4 (i := 2) rfl⟩) (Or.inl ⟨by rfl, by intro w hSw; (try dsimp only at hSw); (first | (go_simp; done) | (go_simp; with_reducible rfl))⟩) ?_
        try simp only [Act.put, seti, set0, setS]
        refine wpLate_done (by kernel_rfl) ?_ _
        go_wp2
        go_ret
        exact ⟨rfl, X.out.bel⟩
    · have hyd := decide_eq_false hy
      have hx := HTR.out (by omega) (by omega)
      have hxd := decide_eq_true hx
      as_aux_lemma =>
        refine wp_region_late (S := fun w' => (w'.cell? ⟨g7, 0, none⟩ = some (.bool ba) ∧ w'.cell? ⟨g7, 1, none⟩ = some (.string ma) ∧ w'.cell? ⟨g7, 2, none⟩ = some (.bool false) ∧ w'.cell? ⟨g7, 3, none⟩ = some (.string ka)) ∧ (w'.cell? ⟨g8, 0, none⟩ = some (.bool bb) ∧ w'.cell? ⟨g8, 1, none⟩ = some (.string mb) ∧ w'.cell? ⟨g8, 2, none⟩ = some (.bool false) ∧ w'.cell? ⟨g8, 3, none⟩ = some (.string kb)) ∧ (w'.cell? ⟨g9, 0, none⟩ = some (.bool bc) ∧ w'.cell? ⟨g9, 1, none⟩ = some (.string mc) ∧ w'.cell? ⟨g9, 2, none⟩ = some (.bool false) ∧ w'.cell? ⟨g9, 3, none⟩ = some (.string kc))) (L := []) (by kernel_rfl) ?_
        have X := Lib.hid X.out.drew
        obtain ⟨V0, hV⟩ := wexi X.out
        rw [← hV] at X ⊢
        clear hV
        refine tk (i := 0) (oi := ⟨some 96, _, _, _, _, _⟩) (v := _) rfl (by kernel_rfl) (fun _ _ _ h => h) (⟨X.out.c4 (i := 0) rfl, X.out.c4 (i := 1) rfl, X.out.c4 (i := 2) rfl⟩) (Or.inl ⟨by rfl, by intro w hSw; (try dsimp only at hSw); (first | (go_simp; done) | (go_simp; with_reducible rfl))⟩) ?_
        try simp only [Act.put, seti, set0, setS]
        refine tk (i := 1) (oi := ⟨some 97, _, _, _, _, _⟩) (v := _) rfl (by kernel_rfl) (fun _ _ _ h => h) (⟨X.out.c4 (i := 0) rfl, X.out.c4 (i := 1) rfl, X.out.c4 (i := 2) rfl⟩) (Or.inl ⟨by rfl, by intro w hSw; (try dsimp only at hSw); (first | (go_simp; done) | (go_simp; with_reducible rfl))⟩) ?_
        try simp only [Act.put, seti, set0, setS]
        refine tk (i := 3) (oi := ⟨some 99, _, _, _, _, _⟩) (v := _) rfl (by kernel_rfl) (fun _ _ _ h => h) (⟨X.out.c4 (i := 0) rfl, X.out.c4 (i := 1) rfl, X.out.c4 (i := 2) rfl⟩) (Or.inl ⟨by rfl, by intro w hSw; (try dsimp only at hSw); (first | (go_simp; done) | (go_simp; with_reducible rfl))⟩) ?_
        try simp only [Act.put, seti, set0, setS]
        refine tk (i := 4) (oi := ⟨some 100, _, _, _, _, _⟩) (v := _) rfl (by kernel_rfl) (fun _ _ _ h => h) (⟨X.out.c4 (i := 0) rfl, X.out.c4 (i := 1) rfl, X.out.c4 (i := 2) rfl⟩) (Or.inl ⟨by rfl, by intro w hSw; (try dsimp only at hSw); (first | (go_simp; done) | (go_simp; with_reducible rfl))⟩) ?_
        try simp only [Act.put, seti, set0, setS]
        refine tk (i := 7) (oi := ⟨some 103, _, _, _, _, _⟩) (v := _) rfl (by kernel_rfl) (fun _ _ _ h => h) (⟨X.out.c4 (i := 0) rfl, X.out.c4 (i := 1) rfl, X.out.c4 (i := 2) rfl⟩) (Or.inl ⟨by rfl, by intro w hSw; (try dsimp only at hSw); (first | (go_simp; done) | (go_simp; with_reducible rfl))⟩) ?_
        try simp only [Act.put, seti, set0, setS]
        refine wpLate_one (i := 2) (o := ⟨some 98, _, _, _, _, _⟩) (by kernel_rfl) rfl (fun K hK => ?_)
        go_simp
        (go_at_call 28; refine (HAC.out _ (HE.out _ X.out.bel)).mono ?_; rintro e u1 ⟨rfl, hb9⟩; have X := Lib.hid (X.out.next hb9); clear hb9)
        try go_wp2_with fail
        refine hK.out _ _ (Or.inr (fun _ => ⟨X.out.c4 (i := 0) rfl, X.out.c4 (i := 1) rfl, X.out.c4 (i := 2) rfl⟩)) ?_
        clear hK K
        try simp only [Act.put, seti, set0, setS]
        refine wpLate_one (i := 5) (o := ⟨some 101, _, _, _, _, _⟩) (by kernel_rfl) rfl (fun K hK => ?_)
        go_simp
        (go_at_call 28; refine (HBC.out _ (HE.out _ X.out.bel)).mono ?_; rintro e u2 ⟨rfl, hb9⟩; have X := Lib.hid (X.out.next hb9); clear hb9)
        try go_wp2_with fail
        refine hK.out _ _ (Or.inr (fun _ => ⟨X.out.c4 (i := 0) rfl, X.out.c4 (i := 1) rfl, X.out.c4 (i := 2) rfl⟩)) ?_
        clear hK K
        try simp only [Act.put, seti, set0, setS]
        refine wpLate_one (i := 6) (o := ⟨some 102, _, _, _, _, _⟩) (by kernel_rfl) rfl (fun K hK => ?_)
        go_simp
        (go_at_call 38; refine (HC4.out _ (HE.out _ X.out.bel)).mono ?_; rintro e u3 ⟨rfl, hb9⟩; have X := Lib.hid (X.out.next hb9); clear hb9)
        try go_wp2_with fail
        refine hK.out _ _ (Or.inr (fun _ => ⟨X.out.c4 (i := 0) rfl, X.out.c4 (i := 1) rfl, X.out.c4 (i := 2) rfl⟩)) ?_
        clear hK K
        try simp only [Act.put, seti, set0, setS]
        refine tk (i := 8) (oi := ⟨some 104, _, _, _, _, _⟩) (v := _) rfl (by kernel_rfl) (fun _ _ _ h => h) (⟨X.out.c4 (i := 0) rfl, X.out.c4 (i := 1) rfl, X.out.c4 (i := 2) rfl⟩) (Or.inl ⟨by rfl, by intro w hSw; (try dsimp only at hSw); (first | (go_simp; done) | (go_simp; with_reducible rfl))⟩) ?_
        try simp only [Act.put, seti, set0, setS]
        refine tk (i := 9) (oi := ⟨some 105, _, _, _, _, _⟩) (v := _) rfl (by kernel_rfl) (fun _ _ _ h => h) (⟨X.out.c4 (i := 0) rfl, X.out.c4 (i := 1) rfl, X.out.c4 (i := 2) rfl⟩) (Or.inl ⟨by rfl, by intro w hSw; (try dsimp only at hSw); (first | (go_simp; done) | (go_simp; with_reducible rfl))⟩) ?_
        try simp only [Act.put, seti, set0, setS]
        refine tk (i := 10) (oi := ⟨some 106, _, _, _, _, _⟩) (v := _) rfl (by kernel_rfl) (fun _ _ _ h => h) (⟨X.out.c4 (i := 0) rfl, X.out.c4 (i := 1) rfl, X.out.c4 (i := 2) rfl⟩) (Or.inl ⟨by rfl, by intro w hSw; (try dsimp only at hSw); (first | (go_simp; done) | (go_simp; with_reducible rfl))⟩) ?_
        try simp only [Act.put, seti, set0, setS]
        refine tk (i := 11) (oi := ⟨some 107, _, _, _, _, _⟩) (v := _) rfl (by kernel_rfl) (fun _ _ _ h => h) (⟨X.out.c4 (i := 0) rfl, X.out.c4 (i := 1) rfl, X.out.c4 (i := 2) rfl⟩) (Or.inl ⟨by rfl, by intro w hSw; (try dsimp only at hSw); (first | (go_simp; done) | (go_simp; with_reducible rfl))⟩) ?_
        try simp only [Act.put, seti, set0, setS]
        refine tk (i := 12) (oi := ⟨some 108, _, _, _, _, _⟩) (v := _) rfl (by kernel_rfl) (fun _ _ _ h => h) (⟨X.out.c4 (i := 0) rfl, X.out.c4 (i := 1) rfl, X.out.c4 (i := 2) rfl⟩) (Or.inl ⟨by rfl, by intro w hSw; (try dsimp only at hSw); (first | (go_simp; done) | (go_simp; with_reducible rfl))⟩) ?_
        try simp only [Act.put, seti, set0, setS]
        refine tk (i := 13) (oi := ⟨some 109, _, _, _, _, _⟩) (v := _) rfl (by kernel_rfl) (fun _ _ _ h => h) (⟨X.out.c4 (i := 0) rfl, X.out.c4 (i := 1) rfl, X.out.c4 (i := 2) rfl⟩) (Or.inl ⟨by rfl, by intro w hSw; (try dsimp only at hSw); (first | (go_simp; done) | (go_simp; with_reducible rfl))⟩) ?_
        try simp only [Act.put, seti, set0, setS]
        refine tk (i := 14) (oi := ⟨some 110, _, _, _, _, _⟩) (v := _) rfl (by kernel_rfl) (fun _ _ _ h => h) (⟨X.out.c4 (i := 0) rfl, X.out.c4 (i := 1) rfl, X.out.c4 (i := 2) rfl⟩) (Or.inl ⟨by rfl, by intro w hSw; (try dsimp only at hSw); (first | (go_simp; done) | (go_simp; with_reducible rfl))⟩) ?_
        try simp only [Act.put, seti, set0, setS]
        refine tk (i := 15) (oi := ⟨some 111, _, _, _, _, _⟩) (v := _) rfl (by kernel_rfl) (fun _ _ _ h => h) (⟨X.out.c4 (i := 0) rfl, X.out.c4 (i := 1) rfl, X.out.c4 (i := 2) rfl⟩) (Or.inl ⟨by rfl, by intro w hSw; (try dsimp only at hSw); (first | (go_simp; done) | (go_simp; with_reducible rfl))⟩) ?_
        try simp only [Act.put, seti, set0, setS]
        refine tk (i := 16) (oi := ⟨some 112, _, _, _, _, _⟩) (v := _) rfl (by kernel_rfl) (fun _ _ _ h => h) (⟨X.out.c4 (i := 0) rfl, X.out.c4 (i := 1) rfl, X.out.c4 (i := 2) rfl⟩) (Or.inl ⟨by rfl, by intro w hSw; (try dsimp only at hSw); (first | (go_simp; done) | (go_simp; with_reducible rfl))⟩) ?_
        try simp only [Act.put, seti, set0, setS]
        refine tk (i := 17) (oi := ⟨some 113, _, _, _, _, _⟩) (v := _) rfl (by kernel_rfl) (fun _ _ _ h => h) (⟨X.out.c4 (i := 0) rfl, X.out.c4 (i := 1) rfl, X.out.c4 (i := 2) rfl⟩) (Or.inl ⟨by rfl, by intro w hSw; (try dsimp only at hSw); (first | (go_simp; done) | (go_simp; with_reducible rfl))⟩) ?_
        try simp only [Act.put, seti, set0, setS]
        refine tk (i := 18) (oi := ⟨some 114, _, _, _, _, _⟩) (v := _) rfl (by kernel_rfl) (fun _ _ _ h => h) (⟨X.out.c4 (i := 0) rfl, X.out.c4 (i := 1) rfl, X.out.c4 (i := 2) rfl⟩) (Or.inl ⟨by rfl, by intro w hSw; (try dsimp only at hSw); (first | (go_simp; done) | (go_simp; with_reducible rfl))⟩) ?_
        try simp only [Act.put, seti, set0, setS]
        refine wpLate_one (i := 19) (o := ⟨some 115, _, _, _, _, _⟩) (by kernel_rfl) rfl (fun K hK => ?_)
        go_simp
        (go_at_call 38; refine (HC5.out _ (HE.out _ X.out.bel)).mono ?_; rintro e u4 ⟨rfl, hb9⟩; have X := Lib.hid (X.out.next hb9); clear hb9)
        try go_wp2_with fail
        refine hK.out _ _ (Or.inr (fun _ => ⟨X.out.c4 (i := 0) rfl, X.out.c4 (i := 1) rfl, X.out.c4 (i := 2) rfl⟩)) ?_
        clear hK K
        try simp only [Act.put, seti, set0, setS]
        refine tk (i := 20) (oi := ⟨some 116, _, _, _, _, _⟩) (v := _) rfl (by kernel_rfl) (fun _ _ _ h => h) (⟨X.out.c4 (i := 0) rfl, X.out.c4 (i := 1) rfl, X.out.c4 (i := 2) rfl⟩) (Or.inl ⟨by rfl, by intro w hSw; (try dsimp only at hSw); (first | (go_simp; done) | (go_simp; with_reducible rfl))⟩) ?_
        try simp only [Act.put, seti, set0, setS]
        refine tk (i := 21) (oi := ⟨some 117, _, _, _, _, _⟩) (v := _) rfl (by kernel_rfl) (fun _ _ _ h => h) (⟨X.out.c4 (i := 0) rfl, X.out.c4 (i := 1) rfl, X.out.c4 (i := 2) rfl⟩) (Or.inl ⟨by rfl, by intro w hSw; (try dsimp only at hSw); (first | (go_simp; done) | (go_simp; with_reducible rfl))⟩) ?_
        try simp only [Act.put, seti, set0, setS]
        refine tk (i := 22) (oi := ⟨some 118, _, _, _, _, _⟩) (v := _) rfl (by kernel_rfl) (fun _ _ _ h => h) (⟨X.out.c4 (i := 0) rfl, X.out.c4 (i := 1) rfl, X.out.c4 (i := 2) rfl⟩) (Or.inl ⟨by rfl, by intro w hSw; (try dsimp only at hSw); (first | (go_simp; done) | (go_simp; with_reducible rfl))⟩) ?_
        try simp only [Act.put, seti, set0, setS]
        refine tk (i := 23) (oi := ⟨some 6, _, _, _, _, _⟩) (v := _) rfl (by kernel_rfl) (fun _ _ _ h => h) (⟨X.out.c4 (i := 0) rfl, X.out.c4 (i := 1) rfl, X.out.c4 (i := 2) rfl⟩) (Or.inl ⟨by rfl, by intro w hSw; (try dsimp only at hSw); (first | (go_simp; done) | (go_simp; with_reducible rfl))⟩) ?_
        try simp only [Act.put, seti, set0, setS]
        refine wpLate_done (by kernel_rfl) ?_ _
        go_wp2
        go_ret
        exact ⟨rfl, X.out.bel⟩
end Go.Proofs.YtahehlajpaoiiaaGreatDoor
