import Derived.Test.YtahehlajpaoiiaaGreatDoorGIntO

/-
  The program's sum of two integers by their digits.
-/
namespace Go.Proofs.YtahehlajpaoiiaaGreatDoor
open Go.RowKit
attribute [local go_sem ↓] Go.wp_at_zero Go.wp_at_succ

theorem heap_six (w : World) (o1 o2 o3 o4 o5 o6 : Obj) : (((((((w.alloc o1).alloc o2).alloc o3).alloc o4).alloc o5).alloc o6).heap[w.heap.size]? = some o1 ∧ ((((((w.alloc o1).alloc o2).alloc o3).alloc o4).alloc o5).alloc o6).heap[w.heap.size + 1]? = some o2 ∧
    ((((((w.alloc o1).alloc o2).alloc o3).alloc o4).alloc o5).alloc o6).heap[w.heap.size + 2]? = some o3 ∧ ((((((w.alloc o1).alloc o2).alloc o3).alloc o4).alloc o5).alloc o6).heap[w.heap.size + 3]? = some o4) ∧
    ((((((w.alloc o1).alloc o2).alloc o3).alloc o4).alloc o5).alloc o6).heap[w.heap.size + 4]? = some o5 ∧ ((((((w.alloc o1).alloc o2).alloc o3).alloc o4).alloc o5).alloc o6).heap[w.heap.size + 5]? = some o6 := by
  obtain ⟨a1, a2, a3, a4⟩ := heap_four w o1 o2 o3 o4
  have h5 := heap_one ((((w.alloc o1).alloc o2).alloc o3).alloc o4) o5
  have h6 := heap_one (((((w.alloc o1).alloc o2).alloc o3).alloc o4).alloc o5) o6
  have up : ∀ k, k < w.heap.size + 4 → ((((((w.alloc o1).alloc o2).alloc o3).alloc o4).alloc o5).alloc o6).heap[k]? = ((((w.alloc o1).alloc o2).alloc o3).alloc o4).heap[k]? := fun k hk =>
    (Below.heap_alloc _ _ _ (by simp <;> omega)).trans (Below.heap_alloc _ _ _ (by simp <;> omega))
  refine ⟨⟨(up _ (by omega)).trans a1, (up _ (by omega)).trans a2, (up _ (by omega)).trans a3, (up _ (by omega)).trans a4⟩, ?_, by simpa using h6⟩
  exact (Below.heap_alloc _ _ _ (by simp <;> omega)).trans (by simpa using h5)

theorem sgn_add_same (na : Bool) (X Y : Nat) : sgn na (X + Y) = sgn na X + sgn na Y := by cases na <;> simp [sgn] <;> omega
theorem sgn_add_not (na : Bool) {X Y : Nat} (h : Y ≤ X) : sgn na (X - Y) = sgn na X + sgn (!na) Y := by cases na <;> simp [sgn] <;> omega

theorem sgn_add_not2 (na : Bool) {X Y : Nat} (h : X ≤ Y) : sgn (!na) (Y - X) = sgn na X + sgn (!na) Y := by cases na <;> simp [sgn] <;> omega

theorem Nm.le_len {w w' : World} {A B : Option Addr} {n m c d X Y : Nat} (hx : Ng w A n c X) (hy : Nm w' B m d Y) (h : Y ≤ X) : m ≤ n := by
  rcases Nat.lt_or_ge n m with h1 | h1
  · have h2 : B64 ^ n ≤ B64 ^ (m - 1) := Nat.pow_le_pow_right B64_pos (by omega)
    have h3 := hy.top (by omega)
    have h4 := hx.lt
    omega
  · exact h1

theorem Nm.drew {w w' : World} {A : Option Addr} {n c V : Nat} (h : Nm w A n c V) (hd : Drew w w') : Nm w' A n c V := by
  obtain ⟨q, rfl⟩ := hd
  exact ⟨h.toNg.drewN q, h.top⟩

set_option maxHeartbeats 4000000 in
set_option maxRecDepth 100000 in
theorem combine_any (na nb nc : Bool) (a b : ByteArray) (ha : a.size ≤ 400000000) (hb : b.size ≤ 400000000) (w : World) :
    Calls Tryz.prog 106 #[.agg #[.bool na, .string a], .agg #[.bool nc, .string b], .bool nb] w (RetZ w (sgn na (bval a) + sgn nb (bval b))) := by
  obtain ⟨⟨k1, k2, k3, k4⟩, k5, k6⟩ := heap_six w (.cells #[.bool na, .string a] 23) (.cells #[.bool nc, .string b] 23) (.cells #[.bool false, .string ⟨#[]⟩] 23) arr16 arr16 arr16
  obtain ⟨W, hW⟩ : ∃ W, W = (((((w.alloc (.cells #[.bool na, .string a] 23)).alloc (.cells #[.bool nc, .string b] 23)).alloc (.cells #[.bool false, .string ⟨#[]⟩] 23)).alloc arr16).alloc arr16).alloc arr16 := ⟨_, rfl⟩
  rw [← hW] at k1 k2 k3 k4 k5 k6
  have hbW : Below w.heap.size w W := by
    rw [hW]
    exact ((((((Below.refl _ _).alloc (Nat.le_refl _) _).alloc (by simp) _).alloc (by simp <;> omega) _).alloc (by simp <;> omega) _).alloc (by simp <;> omega) _).alloc (by simp <;> omega) _
  have hszW : W.heap.size = w.heap.size + 6 := by rw [hW]; simp
  have iA : Is16 W (w.heap.size + 3) := ⟨_, k4, by simp⟩
  have iB : Is16 W (w.heap.size + 4) := ⟨_, k5, by simp⟩
  have iC : Is16 W (w.heap.size + 5) := ⟨_, k6, by simp⟩
  obtain ⟨c0, c1, _, _⟩ := res2 (g := w.heap.size) (by exact k1) (Below.refl W.heap.size W) (by omega)
  obtain ⟨c2, c3, _, _⟩ := res2 (g := w.heap.size + 1) (by exact k2) (Below.refl W.heap.size W) (by omega)
  have HU1 := Lib.hid (fun V (hV : Is16 V (w.heap.size + 3)) => unpack_any (.slice (some ⟨w.heap.size + 3, 0, none⟩) 0 16) a 0 V (by omega) (Nat.zero_le _) hV.own)
  have HU2 := Lib.hid (fun V (hV : Is16 V (w.heap.size + 4)) => unpack_any (.slice (some ⟨w.heap.size + 4, 0, none⟩) 0 16) b 0 V (by omega) (Nat.zero_le _) hV.own)
  have IA := Lib.hid iA
  have IB := Lib.hid iB
  have IC := Lib.hid iC
  have HW := Lib.hid hW
  have HBW := Lib.hid hbW
  have HSW := Lib.hid hszW
  have HK3 := Lib.hid k3
  clear k1 k2 k3 k4 k5 k6 hbW hszW iA iB iC hW
  go_enter Tryz.func106, Tryz.ntmps106
  go_wp2_with fail
  have hw9 := HW.out.symm
  unfold arr16 at hw9
  rw [hw9]
  clear hw9
  have hp1 : w.heap.size < W.heap.size := by have := HSW.out; omega
  have hp2 : w.heap.size + 1 < W.heap.size := by have := HSW.out; omega
  go_region_held3 (fun w' => w'.cell? ⟨w.heap.size, 1, none⟩ = some (.string a) ∧ w'.cell? ⟨w.heap.size + 1, 1, none⟩ = some (.string b))
    (first
      | go_keep
      | exact ⟨y1, y2⟩
      | exact ⟨z1, z2⟩)
    (first
      | (go_at_call 104; (with_reducible refine (HU1.out _ ?_).mono ?_); (exact IA.out.keep rfl); rintro e w2 ⟨A1, n1, d1, hn1, rfl, hm1, hg2, hbk1⟩; have z1 := keep_cell (W := W.drew) (g := w.heap.size + 3) hg2 hp1 (by omega) c1; have z2 := keep_cell (W := W.drew) (g := w.heap.size + 3) hg2 hp2 (by omega) c3; have hq1 := Nat.lt_of_lt_of_le hp1 hg2.size; have hq2 := Nat.lt_of_lt_of_le hp2 hg2.size)
      | (go_at_call 104; (with_reducible refine (HU2.out _ ?_).mono ?_); (exact keep_16 (W := W.drew) (g := w.heap.size + 3) hg2 (by omega) (IB.out.keep rfl)); rintro e w3 ⟨A2, n2, d2, hn2, rfl, hm2, hg3, hbk2⟩; have y1 := keep_cell (g := w.heap.size + 4) hg3 hq1 (by omega) z1; have y2 := keep_cell (g := w.heap.size + 4) hg3 hq2 (by omega) z2))
  have hs2 : W.heap.size ≤ w2.heap.size := hg2.size
  have hs3 : w2.heap.size ≤ w3.heap.size := hg3.size
  have hsW := HSW.out
  have ax := apart (g := w.heap.size + 3) (p := w.heap.size + 4) hbk1 (by omega) (by show _ < W.heap.size; omega)
  have axC := apart (g := w.heap.size + 3) (p := w.heap.size + 5) hbk1 (by omega) (by show _ < W.heap.size; omega)
  have ayC := apart (g := w.heap.size + 4) (p := w.heap.size + 5) hbk2 (by omega) (by omega)
  have hx3 : Nm w3 A1 n1 d1 (bval a) := ⟨⟨hm1.lt, hm1.cap, hm1.rd.grown hg3 (fun q hq z hz e => ax z hz (e.trans (row_eq hq).symm))⟩, hm1.top⟩
  have i2 := keep_16 (W := W.drew) (g := w.heap.size + 3) hg2 (by omega) (IC.out.keep rfl)
  have i3 := keep_16 (g := w.heap.size + 4) hg3 (by omega) i2
  have e0 := keep_cell (g := w.heap.size + 4) hg3 hq1 (by omega) (keep_cell (W := W.drew) (g := w.heap.size + 3) hg2 hp1 (by omega) c0)
  have hbl : Below (w.heap.size + 3) W w3 := ((Below.refl _ W).drew.trans (below_of_grown (g := w.heap.size + 3) hg2 (by show _ ≤ W.heap.size; omega) (Nat.le_refl _))).trans (below_of_grown (g := w.heap.size + 4) hg3 (by omega) (by omega))
  have HX3 := Lib.hid hx3
  have HY3 := Lib.hid hm2
  have I3 := Lib.hid i3
  have HBL := Lib.hid hbl
  have HAXC := Lib.hid axC
  have HAYC := Lib.hid ayC
  have HN1 := Lib.hid hn1
  have HN2 := Lib.hid hn2
  have hsz3 : w.heap.size + 6 ≤ w3.heap.size := by omega
  clear hg2 hg3 hbk1 hbk2 hm1 hm2 ax axC ayC hx3 i2 i3 hbl hn1 hn2 z1 z2 y1 y2 c0 c1 c2 c3 hq1 hq2 hp1 hp2 hs2 hs3 hsW
  have HCMP := Lib.hid (compare_any A1 A2 n1 n2 d1 d2 (bval a) (bval b) w3 (by have := HN1.out; omega) (by have := HN2.out; omega) HX3.out HY3.out)
  generalize bval a = X at *
  generalize bval b = Y at *
  by_cases hlt : X < Y
  · have hord := ord_lt hlt
    rw [hord] at HCMP
    have hle : X ≤ Y := by omega
    clear hord hlt
    by_cases hs : na = nb
    · subst hs
      go_wp2_with fail
      refine HCMP.out.mono ?_
      rintro e w4 ⟨rfl, hd4⟩
      have ho4 := (I3.out.keep ((hd4.below w3.heap.size).block _ (by omega))).own
      have ha4 := HY3.out.drew hd4
      have hb4 := HX3.out.drew hd4
      have hs4 : w3.heap.size ≤ w4.heap.size := (hd4.below w3.heap.size).size
      have HOP := Lib.hid (plus_any (.slice (some ⟨w.heap.size + 5, 0, none⟩) 0 16) 0 A2 A1 n2 n1 d2 d1 Y X w4 (by have := HN1.out; have := HN2.out; omega) (by have := HN1.out; have := HN2.out; omega) ho4 (Nat.zero_le _) ha4.toNg hb4.toNg (fun z hz e => HAYC.out z hz (by injection e)) (fun z hz e => HAXC.out z hz (by injection e)))
      have HD4 := Lib.hid hd4
      clear ho4 ha4 hb4 hd4
      go_wp2_with fail
      refine HOP.out.mono ?_
      rintro e w5 ⟨A5, n5, d5, hn5, rfl, hm5, hg5, _⟩
      have HM5 := Lib.hid hm5
      have HG5 := Lib.hid hg5
      have HN5 := Lib.hid hn5
      have hs5 : w4.heap.size ≤ w5.heap.size := hg5.size
      clear hm5 hg5 hn5
      go_wp2_with fail
      refine (pack_any _ A5 n5 d5 _ _ (by have := HN5.out; have := HN1.out; have := HN2.out; omega) HM5.out.toNg).mono fun e w6 h => ?_
      obtain ⟨b2, m2, HB2, rfl, hb6⟩ := h.form
      have hall : Below (w.heap.size + 3) W w6 := ((HBL.out.trans (HD4.out.below _)).trans (below_of_grown (g := w.heap.size + 5) HG5.out (by omega) (by omega))).trans (hb6.mono (by omega))
      obtain ⟨p0, p1, g0, g1⟩ := res2 (g := w.heap.size + 2) (by exact HK3.out) hall (by omega)
      have HALL := Lib.hid hall
      clear h hb6 hall
      go_wp2
      refine bodyPost_ret (v := .agg #[.bool b2, .string m2]) (by simp [results, Tryz.results106, go_sem, p0, p1]) rfl ⟨?_, ?_⟩
      · rw [← HB2.out]
        exact congrArg (fun z => Ending.returned (enc z)) (by rw [Nat.add_comm, sgn_add_same])
      · exact ((HBW.out.trans (HALL.out.mono (by omega))).setCell (by simp <;> omega) _).setCell (by simp <;> omega) _
    · obtain rfl : nb = !na := by cases na <;> cases nb <;> first | rfl | exact absurd rfl hs
      clear hs
      go_wp2_with fail
      refine HCMP.out.mono ?_
      rintro e w4 ⟨rfl, hd4⟩
      have ho4 := (I3.out.keep ((hd4.below w3.heap.size).block _ (by omega))).own
      have ha4 := HY3.out.drew hd4
      have hb4 := HX3.out.drew hd4
      have hs4 : w3.heap.size ≤ w4.heap.size := (hd4.below w3.heap.size).size
      have HOP := Lib.hid (minus_any (.slice (some ⟨w.heap.size + 5, 0, none⟩) 0 16) 0 A2 A1 n2 n1 d2 d1 Y X w4 (by have := HN1.out; have := HN2.out; omega) (Nm.le_len ha4.toNg hb4 (by omega)) (.inr (by simp [Value.ownBlock])) (by omega) ho4 (Nat.zero_le _) ha4.toNg hb4.toNg (fun z hz e => HAYC.out z hz (by injection e)) (fun z hz e => HAXC.out z hz (by injection e)))
      have HD4 := Lib.hid hd4
      clear ho4 ha4 hb4 hd4
      go_wp2_with fail
      refine HOP.out.mono ?_
      rintro e w5 ⟨A5, n5, d5, hn5, rfl, hm5, hg5, _⟩
      have HM5 := Lib.hid hm5
      have HG5 := Lib.hid hg5
      have HN5 := Lib.hid hn5
      have hs5 : w4.heap.size ≤ w5.heap.size := hg5.size
      clear hm5 hg5 hn5
      go_wp2_with fail
      refine (pack_any _ A5 n5 d5 _ _ (by have := HN5.out; have := HN1.out; have := HN2.out; omega) HM5.out.toNg).mono fun e w6 h => ?_
      obtain ⟨b2, m2, HB2, rfl, hb6⟩ := h.form
      have hall : Below (w.heap.size + 3) W w6 := ((HBL.out.trans (HD4.out.below _)).trans (below_of_grown (g := w.heap.size + 5) HG5.out (by omega) (by omega))).trans (hb6.mono (by omega))
      obtain ⟨p0, p1, g0, g1⟩ := res2 (g := w.heap.size + 2) (by exact HK3.out) hall (by omega)
      have HALL := Lib.hid hall
      clear h hb6 hall
      go_wp2
      refine bodyPost_ret (v := .agg #[.bool b2, .string m2]) (by simp [results, Tryz.results106, go_sem, p0, p1]) rfl ⟨?_, ?_⟩
      · rw [← HB2.out]
        exact congrArg (fun z => Ending.returned (enc z)) (sgn_add_not2 na hle)
      · exact ((HBW.out.trans (HALL.out.mono (by omega))).setCell (by simp <;> omega) _).setCell (by simp <;> omega) _
  · obtain ⟨o, hord, ho⟩ : ∃ o : Int, ord X Y = o ∧ 0 ≤ o := ⟨_, rfl, by unfold ord; rw [if_neg hlt]; split <;> omega⟩
    rw [hord] at HCMP
    have hle : Y ≤ X := by omega
    clear hord hlt
    by_cases hs : na = nb
    · subst hs
      go_wp2_with fail
      refine HCMP.out.mono ?_
      rintro e w4 ⟨rfl, hd4⟩
      have ho4 := (I3.out.keep ((hd4.below w3.heap.size).block _ (by omega))).own
      have ha4 := HX3.out.drew hd4
      have hb4 := HY3.out.drew hd4
      have hs4 : w3.heap.size ≤ w4.heap.size := (hd4.below w3.heap.size).size
      have HOP := Lib.hid (plus_any (.slice (some ⟨w.heap.size + 5, 0, none⟩) 0 16) 0 A1 A2 n1 n2 d1 d2 X Y w4 (by have := HN1.out; have := HN2.out; omega) (by have := HN1.out; have := HN2.out; omega) ho4 (Nat.zero_le _) ha4.toNg hb4.toNg (fun z hz e => HAXC.out z hz (by injection e)) (fun z hz e => HAYC.out z hz (by injection e)))
      have HD4 := Lib.hid hd4
      clear ho4 ha4 hb4 hd4
      go_wp2_with fail
      refine HOP.out.mono ?_
      rintro e w5 ⟨A5, n5, d5, hn5, rfl, hm5, hg5, _⟩
      have HM5 := Lib.hid hm5
      have HG5 := Lib.hid hg5
      have HN5 := Lib.hid hn5
      have hs5 : w4.heap.size ≤ w5.heap.size := hg5.size
      clear hm5 hg5 hn5
      go_wp2_with fail
      refine (pack_any _ A5 n5 d5 _ _ (by have := HN5.out; have := HN1.out; have := HN2.out; omega) HM5.out.toNg).mono fun e w6 h => ?_
      obtain ⟨b2, m2, HB2, rfl, hb6⟩ := h.form
      have hall : Below (w.heap.size + 3) W w6 := ((HBL.out.trans (HD4.out.below _)).trans (below_of_grown (g := w.heap.size + 5) HG5.out (by omega) (by omega))).trans (hb6.mono (by omega))
      obtain ⟨p0, p1, g0, g1⟩ := res2 (g := w.heap.size + 2) (by exact HK3.out) hall (by omega)
      have HALL := Lib.hid hall
      clear h hb6 hall
      go_wp2
      refine bodyPost_ret (v := .agg #[.bool b2, .string m2]) (by simp [results, Tryz.results106, go_sem, p0, p1]) rfl ⟨?_, ?_⟩
      · rw [← HB2.out]
        exact congrArg (fun z => Ending.returned (enc z)) (sgn_add_same na X Y)
      · exact ((HBW.out.trans (HALL.out.mono (by omega))).setCell (by simp <;> omega) _).setCell (by simp <;> omega) _
    · obtain rfl : nb = !na := by cases na <;> cases nb <;> first | rfl | exact absurd rfl hs
      clear hs
      go_wp2_with fail
      refine HCMP.out.mono ?_
      rintro e w4 ⟨rfl, hd4⟩
      have ho4 := (I3.out.keep ((hd4.below w3.heap.size).block _ (by omega))).own
      have ha4 := HX3.out.drew hd4
      have hb4 := HY3.out.drew hd4
      have hs4 : w3.heap.size ≤ w4.heap.size := (hd4.below w3.heap.size).size
      have HOP := Lib.hid (minus_any (.slice (some ⟨w.heap.size + 5, 0, none⟩) 0 16) 0 A1 A2 n1 n2 d1 d2 X Y w4 (by have := HN1.out; have := HN2.out; omega) (Nm.le_len ha4.toNg hb4 (by omega)) (.inr (by simp [Value.ownBlock])) (by omega) ho4 (Nat.zero_le _) ha4.toNg hb4.toNg (fun z hz e => HAXC.out z hz (by injection e)) (fun z hz e => HAYC.out z hz (by injection e)))
      have HD4 := Lib.hid hd4
      clear ho4 ha4 hb4 hd4
      go_wp2_with fail
      refine HOP.out.mono ?_
      rintro e w5 ⟨A5, n5, d5, hn5, rfl, hm5, hg5, _⟩
      have HM5 := Lib.hid hm5
      have HG5 := Lib.hid hg5
      have HN5 := Lib.hid hn5
      have hs5 : w4.heap.size ≤ w5.heap.size := hg5.size
      clear hm5 hg5 hn5
      go_wp2_with fail
      refine (pack_any _ A5 n5 d5 _ _ (by have := HN5.out; have := HN1.out; have := HN2.out; omega) HM5.out.toNg).mono fun e w6 h => ?_
      obtain ⟨b2, m2, HB2, rfl, hb6⟩ := h.form
      have hall : Below (w.heap.size + 3) W w6 := ((HBL.out.trans (HD4.out.below _)).trans (below_of_grown (g := w.heap.size + 5) HG5.out (by omega) (by omega))).trans (hb6.mono (by omega))
      obtain ⟨p0, p1, g0, g1⟩ := res2 (g := w.heap.size + 2) (by exact HK3.out) hall (by omega)
      have HALL := Lib.hid hall
      clear h hb6 hall
      go_wp2
      refine bodyPost_ret (v := .agg #[.bool b2, .string m2]) (by simp [results, Tryz.results106, go_sem, p0, p1]) rfl ⟨?_, ?_⟩
      · rw [← HB2.out]
        exact congrArg (fun z => Ending.returned (enc z)) (sgn_add_not na hle)
      · exact ((HBW.out.trans (HALL.out.mono (by omega))).setCell (by simp <;> omega) _).setCell (by simp <;> omega) _
end Go.Proofs.YtahehlajpaoiiaaGreatDoor
