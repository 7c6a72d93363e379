import Derived.Test.YtahehlajpaoiiaaGreatDoorGQV

namespace Go.Proofs.YtahehlajpaoiiaaGreatDoor
open Go.RowKit
attribute [local go_sem ↓] Go.wp_at_zero Go.wp_at_succ

section
variable {w w1 W : World} {c1 c2 c3 : Array Value} {T1 T2 T3 : TypeId}
theorem Kc.in8 {a0 a1 a2 a3 b0 b1 b2 b3 : Value} (h : Kc w #[a0, a1, a2, a3] #[b0, b1, b2, b3] c3 T1 T2 T3 w1) :
    w1.cell? ⟨w.heap.size, 0, none⟩ = some a0 ∧ w1.cell? ⟨w.heap.size, 1, none⟩ = some a1 ∧ w1.cell? ⟨w.heap.size, 2, none⟩ = some a2 ∧ w1.cell? ⟨w.heap.size, 3, none⟩ = some a3 ∧ w1.cell? ⟨w.heap.size + 1, 0, none⟩ = some b0 ∧ w1.cell? ⟨w.heap.size + 1, 1, none⟩ = some b1 ∧ w1.cell? ⟨w.heap.size + 1, 2, none⟩ = some b2 ∧ w1.cell? ⟨w.heap.size + 1, 3, none⟩ = some b3 :=
  ⟨(blk4 h.k1).1, (blk4 h.k1).2.1, (blk4 h.k1).2.2.1, (blk4 h.k1).2.2.2, (blk4 h.k2).1, (blk4 h.k2).2.1, (blk4 h.k2).2.2.1, (blk4 h.k2).2.2.2⟩
theorem fro5 {g : Nat} {T : TypeId} {v0 v1 v2 v3 v4 : Value} (h : W.heap[g]? = some (.cells #[v0, v1, v2, v3, v4] T (0, 0))) :
    W.frozen? ⟨g, 0, none⟩ = false ∧ W.frozen? ⟨g, 1, none⟩ = false ∧ W.frozen? ⟨g, 2, none⟩ = false ∧ W.frozen? ⟨g, 3, none⟩ = false ∧ W.frozen? ⟨g, 4, none⟩ = false := by
  refine ⟨?_, ?_, ?_, ?_, ?_⟩ <;> simp [World.cell?, World.frozen?, h]
theorem qoth5 {g k : Nat} (hne : k ≠ g) (a b c d e : Value) : (((((W.setCell ⟨g, 0, none⟩ a).setCell ⟨g, 1, none⟩ b).setCell ⟨g, 2, none⟩ c).setCell ⟨g, 3, none⟩ d).setCell ⟨g, 4, none⟩ e).heap[k]? = W.heap[k]? :=
  (Below.heap_setCell _ ⟨g, 4, none⟩ e k hne).trans (qoth4 hne a b c d)
theorem qsz5 {g : Nat} (a b c d e : Value) : (((((W.setCell ⟨g, 0, none⟩ a).setCell ⟨g, 1, none⟩ b).setCell ⟨g, 2, none⟩ c).setCell ⟨g, 3, none⟩ d).setCell ⟨g, 4, none⟩ e).heap.size = W.heap.size := by simp [World.setCell]
theorem Kc.far5 {g : Nat} (h : Kc w c1 c2 c3 T1 T2 T3 W) (hg : w.heap.size + 3 ≤ g) (a b c d e : Value) : Kc w c1 c2 c3 T1 T2 T3 (((((W.setCell ⟨g, 0, none⟩ a).setCell ⟨g, 1, none⟩ b).setCell ⟨g, 2, none⟩ c).setCell ⟨g, 3, none⟩ d).setCell ⟨g, 4, none⟩ e) :=
  ⟨(qoth5 (by omega) a b c d e).trans h.k1, (qoth5 (by omega) a b c d e).trans h.k2, (qoth5 (by omega) a b c d e).trans h.k3, by rw [qsz5]; exact h.sz, (below_set4 h.bel (by omega) a b c d).setCell (by show w.heap.size ≤ g; omega) e⟩
theorem Bq.other5 {g g' : Nat} {cs : Array Value} {T : TypeId} (h : Bq g cs T W) (hne : g ≠ g') (a b c d e : Value) : Bq g cs T (((((W.setCell ⟨g', 0, none⟩ a).setCell ⟨g', 1, none⟩ b).setCell ⟨g', 2, none⟩ c).setCell ⟨g', 3, none⟩ d).setCell ⟨g', 4, none⟩ e) :=
  ⟨(qoth5 hne a b c d e).trans h.k, by rw [qsz5]; exact h.lt⟩
theorem Bq.self5 {g : Nat} {T : TypeId} {x0 x1 x2 x3 x4 : Value} (h : Bq g #[x0, x1, x2, x3, x4] T W) (a b c d e : Value) : Bq g #[a, b, c, d, e] T (((((W.setCell ⟨g, 0, none⟩ a).setCell ⟨g, 1, none⟩ b).setCell ⟨g, 2, none⟩ c).setCell ⟨g, 3, none⟩ d).setCell ⟨g, 4, none⟩ e) :=
  ⟨by have hk := h.k; simp [World.setCell, Array.getElem?_modify, hk], by rw [qsz5]; exact h.lt⟩
end

theorem wpLate_three {P : Program} {ops : Array Oper} {Q : Exit → Act → World → Prop} {md : Region.Mode} {S : World → Prop} {Ls : List Nat} {i j k : Nat} {o o' o'' : Oper} {fuel : Nat} {listed : Array Bool} {a : Act} {w : World} (hr : Region.ready md ops listed = [i, j, k]) (ho : ops[i]? = some o) (ho' : ops[j]? = some o') (ho'' : ops[k]? = some o'')
    (h : ∀ K' : Act → World → Prop, Shut (∀ a' w', (Ls.contains i = true ∨ (S w → S w')) → wpLate P md ops Q S Ls fuel (listed.setIfInBounds i true) a' w' → K' a' w') → if Region.wanted o (yielded ops a.tmps) = true then Oper.wp P o a w K' Q else K' (a.put o.dst undef) w)
    (h' : ∀ K' : Act → World → Prop, Shut (∀ a' w', (Ls.contains j = true ∨ (S w → S w')) → wpLate P md ops Q S Ls fuel (listed.setIfInBounds j true) a' w' → K' a' w') → if Region.wanted o' (yielded ops a.tmps) = true then Oper.wp P o' a w K' Q else K' (a.put o'.dst undef) w)
    (h'' : ∀ K' : Act → World → Prop, Shut (∀ a' w', (Ls.contains k = true ∨ (S w → S w')) → wpLate P md ops Q S Ls fuel (listed.setIfInBounds k true) a' w' → K' a' w') → if Region.wanted o'' (yielded ops a.tmps) = true then Oper.wp P o'' a w K' Q else K' (a.put o''.dst undef) w) :
    wpLate P md ops Q S Ls (fuel + 1) listed a w :=
  ⟨fun h0 => (by rw [h0] at hr; cases hr), fun l hl => by
    rw [hr] at hl
    have hl' : l = i ∨ l = j ∨ l = k := by simpa using hl
    rcases hl' with rfl | rfl | rfl
    · exact wpOp_step ho (fun K' hK => h K' (fun a w hS hW => hK a w ⟨hS, hW⟩))
    · exact wpOp_step ho' (fun K' hK => h' K' (fun a w hS hW => hK a w ⟨hS, hW⟩))
    · exact wpOp_step ho'' (fun K' hK => h'' K' (fun a w hS hW => hK a w ⟨hS, hW⟩))⟩

theorem cmpZ_neg {x y : Int} (h : cmpZ x y = -1) : x < y := by
  rcases Int.lt_trichotomy x y with h1 | h1 | h1
  · exact h1
  · rw [cmpZ_eq0 h1] at h; cases h
  · rw [cmpZ_gt h1] at h; cases h

theorem inn_mid {a b c d : Nat} (hb : 0 < b) (h : a * d < c * b) (oa oc : Bool) : Inn a b oa c d oc (a + c) (b + d) := by
  refine ⟨by omega, .inl ?_, .inl ?_⟩
  · rw [Nat.mul_add, Nat.add_mul]; omega
  · rw [Nat.mul_add, Nat.add_mul]; omega

def RetSq (w : World) (p q : Rat) (oa ob : Bool) (e : Ending) (w' : World) : Prop :=
  ∃ n m, e = .returned (.tuple #[.agg #[.bool false, .string (mag n), .bool false, .string (dm m)], .int .i64 0]) ∧ Simp p.num.natAbs p.den oa q.num.natAbs q.den ob n m ∧ Below w.heap.size w w'

set_option maxHeartbeats 16000000 in
set_option maxRecDepth 100000 in
theorem simplest_pos {p q : Rat} {b1 b2 : Bool} {m1 m2 k1 k2 : ByteArray} (hp : Rq p b1 m1 k1) (hq : Rq q b2 m2 k2) (oa ob : Bool) (hp0 : 0 < p.num) (hq0 : 0 < q.num) (hlt : cmpQ p q = -1) (s1 : m1.size ≤ 2000) (s2 : m2.size ≤ 2000) (s3 : (mag p.den).size ≤ 2000) (s4 : (mag q.den).size ≤ 2000) (s5 : k1.size ≤ 2000) (s6 : k2.size ≤ 2000) (w : World) (hE : Env w) :
    Calls Tryz.prog 49 #[.agg #[.bool b1, .string m1, .bool false, .string k1], .agg #[.bool b2, .string m2, .bool false, .string k2], .bool oa, .bool ob] w (RetSq w p q oa ob) := by
  have HC1 := Lib.hid (fun V (hV : Env V) => ratCheck_f hp (by omega) (by omega) V hV)
  have HC2 := Lib.hid (fun V (hV : Env V) => ratCheck_f hq (by omega) (by omega) V hV)
  have HD1 := Lib.hid (fun V (hV : Env V) => den_f hp V hV)
  have HD2 := Lib.hid (fun V (hV : Env V) => den_f hq V hV)
  have HCM := Lib.hid (fun V (hV : Env V) => ratCompare_f hp hq (by omega) (by omega) (by omega) (by omega) V hV)
  rw [hlt] at HCM
  have HS1 := Lib.hid (fun V => ratSign_f hp V)
  have HS2 := Lib.hid (fun V => ratSign_f hq V)
  rw [Int.sign_eq_one_of_pos hp0] at HS1
  rw [Int.sign_eq_one_of_pos hq0] at HS2
  have hb1 : b1 = false := by rw [hp.mag.1]; exact decide_eq_false (by omega)
  have hb2 : b2 = false := by rw [hq.mag.1]; exact decide_eq_false (by omega)
  have hm1 := hp.mag.2
  have hm2 := hq.mag.2
  have hcr : p.num.natAbs * q.den < q.num.natAbs * p.den := by
    have h1 := cmpZ_neg hlt
    have e1 : p.num = (p.num.natAbs : Int) := by omega
    have e2 : q.num = (q.num.natAbs : Int) := by omega
    rw [e1, e2, ← Int.natCast_mul, ← Int.natCast_mul] at h1
    exact Int.ofNat_lt.1 h1
  have HSM := Lib.hid (fun V (hV : Env V) => simplest_ih (simpFuel p.num.natAbs p.den q.num.natAbs q.den + 1) p.num.natAbs p.den oa q.num.natAbs q.den ob (p.num.natAbs + q.num.natAbs) (p.den + q.den) V (by omega) p.den_pos (inn_mid p.den_pos hcr oa ob)
    (by rw [← hm1]; omega) (by omega) (by rw [← hm2]; omega) (by omega)
    (Nat.le_trans (nd_add _ _) (by unfold nd; rw [← hm1, ← hm2]; omega)) (Nat.le_trans (nd_add _ _) (by unfold nd; omega)) hV)
  have HCP := Lib.hid (fun n m V (hV : Env V) => coprime_f false (mag n) m V hV)
  rw [← hm1, ← hm2] at HSM
  subst hb1
  subst hb2
  clear hm1 hm2 hcr
  have HE := Lib.hid (fun V (h : Below w.heap.size w V) => hE.next h)
  have hKX := (Kc.start w #[.bool false, .string m1, .bool false, .string k1] #[.bool false, .string m2, .bool false, .string k2] #[.bool false, .string ⟨#[]⟩, .bool false, .string ⟨#[]⟩] 25 25 25)
  have KX := Lib.hid hKX
  clear hKX
  generalize hd1 : mag p.den = d1 at *
  generalize hd2 : mag q.den = d2 at *
  have HDD := Lib.hid (And.intro hd1 hd2)
  have HPQ := Lib.hid (And.intro hp (And.intro hq (And.intro hp0 (And.intro hq0 hlt))))
  clear hp hq hp0 hq0 hlt hE hd1 hd2
  go_enter Tryz.func49, Tryz.ntmps49
  go_wp2_with fail
  refine (HC1.out _ (HE.out _ KX.out.bel)).mono ?_
  rintro e w1 ⟨rfl, hb1⟩
  have KX := Lib.hid (KX.out.next hb1)
  obtain ⟨a0, a1, a2, a3, a4, a5, a6, a7⟩ := KX.out.in8
  clear hb1
  go_wp2_with fail
  refine (HC2.out _ (HE.out _ KX.out.bel)).mono ?_
  rintro e w2 ⟨rfl, hb2⟩
  have KX := Lib.hid (KX.out.next hb2)
  clear hb2 a0 a1 a2 a3 a4 a5 a6 a7
  go_upto_region 3 with fail
  go_cut [10, 11] (fun s10 s11 wx => ∃ g10 g11, s10 = .pointer (some ⟨g10, 0, none⟩) ∧ s11 = .pointer (some ⟨g11, 0, none⟩) ∧ Kc w #[.bool false, .string m1, .bool false, .string k1] #[.bool false, .string m2, .bool false, .string k2] #[.bool false, .string ⟨#[]⟩, .bool false, .string ⟨#[]⟩] 25 25 25 wx ∧ Bq g10 #[.bool false, .string m1, .bool false, .string d1, .bool oa] 88 wx ∧ Bq g11 #[.bool false, .string m2, .bool false, .string d2, .bool ob] 88 wx)
  case first =>
    refine wp_region_late (S := fun w' => w'.cell? ⟨w.heap.size, 0, none⟩ = some (.bool false) ∧ w'.cell? ⟨w.heap.size, 1, none⟩ = some (.string m1) ∧ w'.cell? ⟨w.heap.size, 2, none⟩ = some (.bool false) ∧ w'.cell? ⟨w.heap.size, 3, none⟩ = some (.string k1) ∧ w'.cell? ⟨w.heap.size + 1, 0, none⟩ = some (.bool false) ∧ w'.cell? ⟨w.heap.size + 1, 1, none⟩ = some (.string m2) ∧ w'.cell? ⟨w.heap.size + 1, 2, none⟩ = some (.bool false) ∧ w'.cell? ⟨w.heap.size + 1, 3, none⟩ = some (.string k2)) (L := []) (by kernel_rfl) ?_
    have KX := Lib.hid KX.out.drew
    obtain ⟨V0, hV0⟩ : ∃ V, V = w2.drew := ⟨_, rfl⟩
    rw [← hV0] at KX ⊢
    clear hV0
    refine wpLate_take (i := 0) (oi := ⟨some 24, _, _, _, _, _⟩) (v := ?_) rfl (by kernel_rfl) (by kernel_rfl) (by kernel_rfl) (by kernel_rfl) (by kernel_rfl) (fun _ _ _ h => h) (Or.inl ⟨by rfl, ?_⟩) KX.out.in8 ?_
    rotate_left
    · intro w hSw; (try dsimp only at hSw); (first | (go_simp; done) | (go_simp; with_reducible rfl))
    try simp only [Act.put, List.setIfInBounds_toArray, List.set_cons_zero, List.set_cons_succ]
    refine wpLate_take (i := 1) (oi := ⟨some 25, _, _, _, _, _⟩) (v := ?_) rfl (by kernel_rfl) (by kernel_rfl) (by kernel_rfl) (by kernel_rfl) (by kernel_rfl) (fun _ _ _ h => h) (Or.inl ⟨by rfl, ?_⟩) KX.out.in8 ?_
    rotate_left
    · intro w hSw; (try dsimp only at hSw); (first | (go_simp; done) | (go_simp; with_reducible rfl))
    try simp only [Act.put, List.setIfInBounds_toArray, List.set_cons_zero, List.set_cons_succ]
    refine wpLate_take (i := 2) (oi := ⟨some 26, _, _, _, _, _⟩) (v := ?_) rfl (by kernel_rfl) (by kernel_rfl) (by kernel_rfl) (by kernel_rfl) (by kernel_rfl) (fun _ _ _ h => h) (Or.inl ⟨by rfl, ?_⟩) KX.out.in8 ?_
    rotate_left
    · intro w hSw; (try dsimp only at hSw); (first | (go_simp; done) | (go_simp; with_reducible rfl))
    try simp only [Act.put, List.setIfInBounds_toArray, List.set_cons_zero, List.set_cons_succ]
    refine wpLate_take (i := 4) (oi := ⟨some 28, _, _, _, _, _⟩) (v := ?_) rfl (by kernel_rfl) (by kernel_rfl) (by kernel_rfl) (by kernel_rfl) (by kernel_rfl) (fun _ _ _ h => h) (Or.inl ⟨by rfl, ?_⟩) KX.out.in8 ?_
    rotate_left
    · intro w hSw; (try dsimp only at hSw); (first | (go_simp; done) | (go_simp; with_reducible rfl))
    try simp only [Act.put, List.setIfInBounds_toArray, List.set_cons_zero, List.set_cons_succ]
    refine wpLate_take (i := 6) (oi := ⟨some 30, _, _, _, _, _⟩) (v := ?_) rfl (by kernel_rfl) (by kernel_rfl) (by kernel_rfl) (by kernel_rfl) (by kernel_rfl) (fun _ _ _ h => h) (Or.inl ⟨by rfl, ?_⟩) KX.out.in8 ?_
    rotate_left
    · intro w hSw; (try dsimp only at hSw); (first | (go_simp; done) | (go_simp; with_reducible rfl))
    try simp only [Act.put, List.setIfInBounds_toArray, List.set_cons_zero, List.set_cons_succ]
    refine wpLate_take (i := 7) (oi := ⟨some 31, _, _, _, _, _⟩) (v := ?_) rfl (by kernel_rfl) (by kernel_rfl) (by kernel_rfl) (by kernel_rfl) (by kernel_rfl) (fun _ _ _ h => h) (Or.inl ⟨by rfl, ?_⟩) KX.out.in8 ?_
    rotate_left
    · intro w hSw; (try dsimp only at hSw); (first | (go_simp; done) | (go_simp; with_reducible rfl))
    try simp only [Act.put, List.setIfInBounds_toArray, List.set_cons_zero, List.set_cons_succ]
    refine wpLate_take (i := 8) (oi := ⟨some 32, _, _, _, _, _⟩) (v := ?_) rfl (by kernel_rfl) (by kernel_rfl) (by kernel_rfl) (by kernel_rfl) (by kernel_rfl) (fun _ _ _ h => h) (Or.inl ⟨by rfl, ?_⟩) KX.out.in8 ?_
    rotate_left
    · intro w hSw; (try dsimp only at hSw); (first | (go_simp; done) | (go_simp; with_reducible rfl))
    try simp only [Act.put, List.setIfInBounds_toArray, List.set_cons_zero, List.set_cons_succ]
    refine wpLate_take (i := 10) (oi := ⟨some 34, _, _, _, _, _⟩) (v := ?_) rfl (by kernel_rfl) (by kernel_rfl) (by kernel_rfl) (by kernel_rfl) (by kernel_rfl) (fun _ _ _ h => h) (Or.inl ⟨by rfl, ?_⟩) KX.out.in8 ?_
    rotate_left
    · intro w hSw; (try dsimp only at hSw); (first | (go_simp; done) | (go_simp; with_reducible rfl))
    try simp only [Act.put, List.setIfInBounds_toArray, List.set_cons_zero, List.set_cons_succ]
    refine wpLate_three (i := 3) (j := 12) (k := 13) (o := ⟨some 27, _, _, _, _, _⟩) (o' := ⟨some 10, _, _, _, _, _⟩) (o'' := ⟨some 11, _, _, _, _, _⟩) (by kernel_rfl) rfl rfl rfl (fun K hK => ?_) (fun K hK => ?_) (fun K hK => ?_) 
    · go_simp
      (go_at_call 20; refine (HD1.out _ (HE.out _ KX.out.bel)).mono ?_; rintro e u1 ⟨rfl, hb9⟩; have KX := Lib.hid (KX.out.next hb9); clear hb9)
      try go_wp2_with fail
      refine hK.out _ _ (Or.inr (fun _ => KX.out.in8)) ?_
      clear hK K
      try simp only [Act.put, List.setIfInBounds_toArray, List.set_cons_zero, List.set_cons_succ]
      refine wpLate_take (i := 5) (oi := ⟨some 29, _, _, _, _, _⟩) (v := ?_) rfl (by kernel_rfl) (by kernel_rfl) (by kernel_rfl) (by kernel_rfl) (by kernel_rfl) (fun _ _ _ h => h) (Or.inl ⟨by rfl, ?_⟩) KX.out.in8 ?_
      rotate_left
      · intro w hSw; (try dsimp only at hSw); (first | (go_simp; done) | (go_simp; with_reducible rfl))
      try simp only [Act.put, List.setIfInBounds_toArray, List.set_cons_zero, List.set_cons_succ]
      refine wpLate_three (i := 9) (j := 12) (k := 13) (o := ⟨some 33, _, _, _, _, _⟩) (o' := ⟨some 10, _, _, _, _, _⟩) (o'' := ⟨some 11, _, _, _, _, _⟩) (by kernel_rfl) rfl rfl rfl (fun K hK => ?_) (fun K hK => ?_) (fun K hK => ?_) 
      · go_simp
        (go_at_call 20; refine (HD2.out _ (HE.out _ KX.out.bel)).mono ?_; rintro e u2 ⟨rfl, hb9⟩; have KX := Lib.hid (KX.out.next hb9); clear hb9)
        try go_wp2_with fail
        refine hK.out _ _ (Or.inr (fun _ => KX.out.in8)) ?_
        clear hK K
        try simp only [Act.put, List.setIfInBounds_toArray, List.set_cons_zero, List.set_cons_succ]
        refine wpLate_take (i := 11) (oi := ⟨some 35, _, _, _, _, _⟩) (v := ?_) rfl (by kernel_rfl) (by kernel_rfl) (by kernel_rfl) (by kernel_rfl) (by kernel_rfl) (fun _ _ _ h => h) (Or.inl ⟨by rfl, ?_⟩) KX.out.in8 ?_
        rotate_left
        · intro w hSw; (try dsimp only at hSw); (first | (go_simp; done) | (go_simp; with_reducible rfl))
        try simp only [Act.put, List.setIfInBounds_toArray, List.set_cons_zero, List.set_cons_succ]
        refine wpLate_two (i := 12) (j := 13) (o := ⟨some 10, _, _, _, _, _⟩) (o' := ⟨some 11, _, _, _, _, _⟩) (by kernel_rfl) rfl rfl (fun K hK => ?_) (fun K hK => ?_) 
        · go_simp
          refine hK.out _ _ (Or.inr (fun _ => (KX.out.next (below_new u2 (.cells #[.bool false, .string ⟨#[]⟩, .bool false, .string ⟨#[]⟩, .bool false] 88))).in8)) ?_
          clear hK K
          try simp only [Act.put, List.setIfInBounds_toArray, List.set_cons_zero, List.set_cons_succ]
          have FMA := KX.out.sz
          have MA := Lib.hid (Bq.new u2 #[.bool false, .string ⟨#[]⟩, .bool false, .string ⟨#[]⟩, .bool false] 88)
          have KX := Lib.hid (KX.out.next (below_new u2 (.cells #[.bool false, .string ⟨#[]⟩, .bool false, .string ⟨#[]⟩, .bool false] 88)))
          obtain ⟨V3, hV⟩ : ∃ V, V = u2.alloc (.cells #[.bool false, .string ⟨#[]⟩, .bool false, .string ⟨#[]⟩, .bool false] 88) := ⟨_, rfl⟩
          rw [← hV] at MA KX ⊢
          clear hV
          refine wpLate_one (i := 13) (o := ⟨some 11, _, _, _, _, _⟩) (by kernel_rfl) rfl (fun K hK => ?_) 
          go_simp
          refine hK.out _ _ (Or.inr (fun _ => (KX.out.next (below_new V3 (.cells #[.bool false, .string ⟨#[]⟩, .bool false, .string ⟨#[]⟩, .bool false] 88))).in8)) ?_
          clear hK K
          try simp only [Act.put, List.setIfInBounds_toArray, List.set_cons_zero, List.set_cons_succ]
          have FMB := KX.out.sz
          have MB := Lib.hid (Bq.new V3 #[.bool false, .string ⟨#[]⟩, .bool false, .string ⟨#[]⟩, .bool false] 88)
          have NE := MA.out.lt
          have MA := Lib.hid (MA.out.next (below_new V3 (.cells #[.bool false, .string ⟨#[]⟩, .bool false, .string ⟨#[]⟩, .bool false] 88)))
          have KX := Lib.hid (KX.out.next (below_new V3 (.cells #[.bool false, .string ⟨#[]⟩, .bool false, .string ⟨#[]⟩, .bool false] 88)))
          obtain ⟨V4, hV⟩ : ∃ V, V = V3.alloc (.cells #[.bool false, .string ⟨#[]⟩, .bool false, .string ⟨#[]⟩, .bool false] 88) := ⟨_, rfl⟩
          rw [← hV] at MB KX MA ⊢
          clear hV
          obtain ⟨x0, x1, x2, x3, x4⟩ := blk5 MA.out.k
          obtain ⟨y0, y1, y2, y3, y4⟩ := fro5 MA.out.k
          have KX2 := Lib.hid (KX.out.far5 FMA (.bool false) (.string m1) (.bool false) (.string d1) (.bool oa))
          have MA2 := Lib.hid (MA.out.self5 (.bool false) (.string m1) (.bool false) (.string d1) (.bool oa))
          have MB2 := Lib.hid (MB.out.other5 (g' := u2.heap.size) (by omega) (.bool false) (.string m1) (.bool false) (.string d1) (.bool oa))
          refine wpLate_one (i := 14) (o := ⟨none, _, _, _, _, _⟩) (by kernel_rfl) rfl (fun K hK => ?_)
          go_simp
          refine hK.out _ _ (Or.inr (fun _ => KX2.out.in8)) ?_
          clear hK K x0 x1 x2 x3 x4 y0 y1 y2 y3 y4
          try simp only [Act.put, List.setIfInBounds_toArray, List.set_cons_zero, List.set_cons_succ]
          obtain ⟨x0, x1, x2, x3, x4⟩ := blk5 MB2.out.k
          obtain ⟨y0, y1, y2, y3, y4⟩ := fro5 MB2.out.k
          have KX3 := Lib.hid (KX2.out.far5 FMB (.bool false) (.string m2) (.bool false) (.string d2) (.bool ob))
          have MA3 := Lib.hid (MA2.out.other5 (g' := V3.heap.size) (by omega) (.bool false) (.string m2) (.bool false) (.string d2) (.bool ob))
          have MB3 := Lib.hid (MB2.out.self5 (.bool false) (.string m2) (.bool false) (.string d2) (.bool ob))
          refine wpLate_one (i := 15) (o := ⟨none, _, _, _, _, _⟩) (by kernel_rfl) rfl (fun K hK => ?_)
          go_simp
          refine hK.out _ _ (Or.inr (fun _ => KX3.out.in8)) ?_
          clear hK K x0 x1 x2 x3 x4 y0 y1 y2 y3 y4
          try simp only [Act.put, List.setIfInBounds_toArray, List.set_cons_zero, List.set_cons_succ]
          refine wpLate_done (by kernel_rfl) ?_ _
          go_wp2_with fail
          go_meet
          exact ⟨_, _, rfl, rfl, KX3.out, MA3.out, MB3.out⟩
        · go_simp
          refine hK.out _ _ (Or.inr (fun _ => (KX.out.next (below_new u2 (.cells #[.bool false, .string ⟨#[]⟩, .bool false, .string ⟨#[]⟩, .bool false] 88))).in8)) ?_
          clear hK K
          try simp only [Act.put, List.setIfInBounds_toArray, List.set_cons_zero, List.set_cons_succ]
          have FMB := KX.out.sz
          have MB := Lib.hid (Bq.new u2 #[.bool false, .string ⟨#[]⟩, .bool false, .string ⟨#[]⟩, .bool false] 88)
          have KX := Lib.hid (KX.out.next (below_new u2 (.cells #[.bool false, .string ⟨#[]⟩, .bool false, .string ⟨#[]⟩, .bool false] 88)))
          obtain ⟨V5, hV⟩ : ∃ V, V = u2.alloc (.cells #[.bool false, .string ⟨#[]⟩, .bool false, .string ⟨#[]⟩, .bool false] 88) := ⟨_, rfl⟩
          rw [← hV] at MB KX ⊢
          clear hV
          refine wpLate_one (i := 12) (o := ⟨some 10, _, _, _, _, _⟩) (by kernel_rfl) rfl (fun K hK => ?_) 
          go_simp
          refine hK.out _ _ (Or.inr (fun _ => (KX.out.next (below_new V5 (.cells #[.bool false, .string ⟨#[]⟩, .bool false, .string ⟨#[]⟩, .bool false] 88))).in8)) ?_
          clear hK K
          try simp only [Act.put, List.setIfInBounds_toArray, List.set_cons_zero, List.set_cons_succ]
          have FMA := KX.out.sz
          have MA := Lib.hid (Bq.new V5 #[.bool false, .string ⟨#[]⟩, .bool false, .string ⟨#[]⟩, .bool false] 88)
          have NE := MB.out.lt
          have MB := Lib.hid (MB.out.next (below_new V5 (.cells #[.bool false, .string ⟨#[]⟩, .bool false, .string ⟨#[]⟩, .bool false] 88)))
          have KX := Lib.hid (KX.out.next (below_new V5 (.cells #[.bool false, .string ⟨#[]⟩, .bool false, .string ⟨#[]⟩, .bool false] 88)))
          obtain ⟨V6, hV⟩ : ∃ V, V = V5.alloc (.cells #[.bool false, .string ⟨#[]⟩, .bool false, .string ⟨#[]⟩, .bool false] 88) := ⟨_, rfl⟩
          rw [← hV] at MA KX MB ⊢
          clear hV
          obtain ⟨x0, x1, x2, x3, x4⟩ := blk5 MA.out.k
          obtain ⟨y0, y1, y2, y3, y4⟩ := fro5 MA.out.k
          have KX2 := Lib.hid (KX.out.far5 FMA (.bool false) (.string m1) (.bool false) (.string d1) (.bool oa))
          have MA2 := Lib.hid (MA.out.self5 (.bool false) (.string m1) (.bool false) (.string d1) (.bool oa))
          have MB2 := Lib.hid (MB.out.other5 (g' := V5.heap.size) (by omega) (.bool false) (.string m1) (.bool false) (.string d1) (.bool oa))
          refine wpLate_one (i := 14) (o := ⟨none, _, _, _, _, _⟩) (by kernel_rfl) rfl (fun K hK => ?_)
          go_simp
          refine hK.out _ _ (Or.inr (fun _ => KX2.out.in8)) ?_
          clear hK K x0 x1 x2 x3 x4 y0 y1 y2 y3 y4
          try simp only [Act.put, List.setIfInBounds_toArray, List.set_cons_zero, List.set_cons_succ]
          obtain ⟨x0, x1, x2, x3, x4⟩ := blk5 MB2.out.k
          obtain ⟨y0, y1, y2, y3, y4⟩ := fro5 MB2.out.k
          have KX3 := Lib.hid (KX2.out.far5 FMB (.bool false) (.string m2) (.bool false) (.string d2) (.bool ob))
          have MA3 := Lib.hid (MA2.out.other5 (g' := u2.heap.size) (by omega) (.bool false) (.string m2) (.bool false) (.string d2) (.bool ob))
          have MB3 := Lib.hid (MB2.out.self5 (.bool false) (.string m2) (.bool false) (.string d2) (.bool ob))
          refine wpLate_one (i := 15) (o := ⟨none, _, _, _, _, _⟩) (by kernel_rfl) rfl (fun K hK => ?_)
          go_simp
          refine hK.out _ _ (Or.inr (fun _ => KX3.out.in8)) ?_
          clear hK K x0 x1 x2 x3 x4 y0 y1 y2 y3 y4
          try simp only [Act.put, List.setIfInBounds_toArray, List.set_cons_zero, List.set_cons_succ]
          refine wpLate_done (by kernel_rfl) ?_ _
          go_wp2_with fail
          go_meet
          exact ⟨_, _, rfl, rfl, KX3.out, MA3.out, MB3.out⟩
      · go_simp
        refine hK.out _ _ (Or.inr (fun _ => (KX.out.next (below_new u1 (.cells #[.bool false, .string ⟨#[]⟩, .bool false, .string ⟨#[]⟩, .bool false] 88))).in8)) ?_
        clear hK K
        try simp only [Act.put, List.setIfInBounds_toArray, List.set_cons_zero, List.set_cons_succ]
        have FMA := KX.out.sz
        have MA := Lib.hid (Bq.new u1 #[.bool false, .string ⟨#[]⟩, .bool false, .string ⟨#[]⟩, .bool false] 88)
        have KX := Lib.hid (KX.out.next (below_new u1 (.cells #[.bool false, .string ⟨#[]⟩, .bool false, .string ⟨#[]⟩, .bool false] 88)))
        obtain ⟨V7, hV⟩ : ∃ V, V = u1.alloc (.cells #[.bool false, .string ⟨#[]⟩, .bool false, .string ⟨#[]⟩, .bool false] 88) := ⟨_, rfl⟩
        rw [← hV] at MA KX ⊢
        clear hV
        refine wpLate_two (i := 9) (j := 13) (o := ⟨some 33, _, _, _, _, _⟩) (o' := ⟨some 11, _, _, _, _, _⟩) (by kernel_rfl) rfl rfl (fun K hK => ?_) (fun K hK => ?_) 
        · go_simp
          (go_at_call 20; refine (HD2.out _ (HE.out _ KX.out.bel)).mono ?_; rintro e u8 ⟨rfl, hb9⟩; have KX := Lib.hid (KX.out.next hb9); have MA := Lib.hid (MA.out.next hb9); clear hb9)
          try go_wp2_with fail
          refine hK.out _ _ (Or.inr (fun _ => KX.out.in8)) ?_
          clear hK K
          try simp only [Act.put, List.setIfInBounds_toArray, List.set_cons_zero, List.set_cons_succ]
          refine wpLate_take (i := 11) (oi := ⟨some 35, _, _, _, _, _⟩) (v := ?_) rfl (by kernel_rfl) (by kernel_rfl) (by kernel_rfl) (by kernel_rfl) (by kernel_rfl) (fun _ _ _ h => h) (Or.inl ⟨by rfl, ?_⟩) KX.out.in8 ?_
          rotate_left
          · intro w hSw; (try dsimp only at hSw); (first | (go_simp; done) | (go_simp; with_reducible rfl))
          try simp only [Act.put, List.setIfInBounds_toArray, List.set_cons_zero, List.set_cons_succ]
          refine wpLate_one (i := 13) (o := ⟨some 11, _, _, _, _, _⟩) (by kernel_rfl) rfl (fun K hK => ?_) 
          go_simp
          refine hK.out _ _ (Or.inr (fun _ => (KX.out.next (below_new u8 (.cells #[.bool false, .string ⟨#[]⟩, .bool false, .string ⟨#[]⟩, .bool false] 88))).in8)) ?_
          clear hK K
          try simp only [Act.put, List.setIfInBounds_toArray, List.set_cons_zero, List.set_cons_succ]
          have FMB := KX.out.sz
          have MB := Lib.hid (Bq.new u8 #[.bool false, .string ⟨#[]⟩, .bool false, .string ⟨#[]⟩, .bool false] 88)
          have NE := MA.out.lt
          have MA := Lib.hid (MA.out.next (below_new u8 (.cells #[.bool false, .string ⟨#[]⟩, .bool false, .string ⟨#[]⟩, .bool false] 88)))
          have KX := Lib.hid (KX.out.next (below_new u8 (.cells #[.bool false, .string ⟨#[]⟩, .bool false, .string ⟨#[]⟩, .bool false] 88)))
          obtain ⟨V9, hV⟩ : ∃ V, V = u8.alloc (.cells #[.bool false, .string ⟨#[]⟩, .bool false, .string ⟨#[]⟩, .bool false] 88) := ⟨_, rfl⟩
          rw [← hV] at MB KX MA ⊢
          clear hV
          obtain ⟨x0, x1, x2, x3, x4⟩ := blk5 MA.out.k
          obtain ⟨y0, y1, y2, y3, y4⟩ := fro5 MA.out.k
          have KX2 := Lib.hid (KX.out.far5 FMA (.bool false) (.string m1) (.bool false) (.string d1) (.bool oa))
          have MA2 := Lib.hid (MA.out.self5 (.bool false) (.string m1) (.bool false) (.string d1) (.bool oa))
          have MB2 := Lib.hid (MB.out.other5 (g' := u1.heap.size) (by omega) (.bool false) (.string m1) (.bool false) (.string d1) (.bool oa))
          refine wpLate_one (i := 14) (o := ⟨none, _, _, _, _, _⟩) (by kernel_rfl) rfl (fun K hK => ?_)
          go_simp
          refine hK.out _ _ (Or.inr (fun _ => KX2.out.in8)) ?_
          clear hK K x0 x1 x2 x3 x4 y0 y1 y2 y3 y4
          try simp only [Act.put, List.setIfInBounds_toArray, List.set_cons_zero, List.set_cons_succ]
          obtain ⟨x0, x1, x2, x3, x4⟩ := blk5 MB2.out.k
          obtain ⟨y0, y1, y2, y3, y4⟩ := fro5 MB2.out.k
          have KX3 := Lib.hid (KX2.out.far5 FMB (.bool false) (.string m2) (.bool false) (.string d2) (.bool ob))
          have MA3 := Lib.hid (MA2.out.other5 (g' := u8.heap.size) (by omega) (.bool false) (.string m2) (.bool false) (.string d2) (.bool ob))
          have MB3 := Lib.hid (MB2.out.self5 (.bool false) (.string m2) (.bool false) (.string d2) (.bool ob))
          refine wpLate_one (i := 15) (o := ⟨none, _, _, _, _, _⟩) (by kernel_rfl) rfl (fun K hK => ?_)
          go_simp
          refine hK.out _ _ (Or.inr (fun _ => KX3.out.in8)) ?_
          clear hK K x0 x1 x2 x3 x4 y0 y1 y2 y3 y4
          try simp only [Act.put, List.setIfInBounds_toArray, List.set_cons_zero, List.set_cons_succ]
          refine wpLate_done (by kernel_rfl) ?_ _
          go_wp2_with fail
          go_meet
          exact ⟨_, _, rfl, rfl, KX3.out, MA3.out, MB3.out⟩
        · go_simp
          refine hK.out _ _ (Or.inr (fun _ => (KX.out.next (below_new V7 (.cells #[.bool false, .string ⟨#[]⟩, .bool false, .string ⟨#[]⟩, .bool false] 88))).in8)) ?_
          clear hK K
          try simp only [Act.put, List.setIfInBounds_toArray, List.set_cons_zero, List.set_cons_succ]
          have FMB := KX.out.sz
          have MB := Lib.hid (Bq.new V7 #[.bool false, .string ⟨#[]⟩, .bool false, .string ⟨#[]⟩, .bool false] 88)
          have NE := MA.out.lt
          have MA := Lib.hid (MA.out.next (below_new V7 (.cells #[.bool false, .string ⟨#[]⟩, .bool false, .string ⟨#[]⟩, .bool false] 88)))
          have KX := Lib.hid (KX.out.next (below_new V7 (.cells #[.bool false, .string ⟨#[]⟩, .bool false, .string ⟨#[]⟩, .bool false] 88)))
          obtain ⟨V10, hV⟩ : ∃ V, V = V7.alloc (.cells #[.bool false, .string ⟨#[]⟩, .bool false, .string ⟨#[]⟩, .bool false] 88) := ⟨_, rfl⟩
          rw [← hV] at MB KX MA ⊢
          clear hV
          refine wpLate_one (i := 9) (o := ⟨some 33, _, _, _, _, _⟩) (by kernel_rfl) rfl (fun K hK => ?_) 
          go_simp
          (go_at_call 20; refine (HD2.out _ (HE.out _ KX.out.bel)).mono ?_; rintro e u11 ⟨rfl, hb9⟩; have KX := Lib.hid (KX.out.next hb9); have MA := Lib.hid (MA.out.next hb9); have MB := Lib.hid (MB.out.next hb9); clear hb9)
          try go_wp2_with fail
          refine hK.out _ _ (Or.inr (fun _ => KX.out.in8)) ?_
          clear hK K
          try simp only [Act.put, List.setIfInBounds_toArray, List.set_cons_zero, List.set_cons_succ]
          refine wpLate_take (i := 11) (oi := ⟨some 35, _, _, _, _, _⟩) (v := ?_) rfl (by kernel_rfl) (by kernel_rfl) (by kernel_rfl) (by kernel_rfl) (by kernel_rfl) (fun _ _ _ h => h) (Or.inl ⟨by rfl, ?_⟩) KX.out.in8 ?_
          rotate_left
          · intro w hSw; (try dsimp only at hSw); (first | (go_simp; done) | (go_simp; with_reducible rfl))
          try simp only [Act.put, List.setIfInBounds_toArray, List.set_cons_zero, List.set_cons_succ]
          obtain ⟨x0, x1, x2, x3, x4⟩ := blk5 MA.out.k
          obtain ⟨y0, y1, y2, y3, y4⟩ := fro5 MA.out.k
          have KX2 := Lib.hid (KX.out.far5 FMA (.bool false) (.string m1) (.bool false) (.string d1) (.bool oa))
          have MA2 := Lib.hid (MA.out.self5 (.bool false) (.string m1) (.bool false) (.string d1) (.bool oa))
          have MB2 := Lib.hid (MB.out.other5 (g' := u1.heap.size) (by omega) (.bool false) (.string m1) (.bool false) (.string d1) (.bool oa))
          refine wpLate_one (i := 14) (o := ⟨none, _, _, _, _, _⟩) (by kernel_rfl) rfl (fun K hK => ?_)
          go_simp
          refine hK.out _ _ (Or.inr (fun _ => KX2.out.in8)) ?_
          clear hK K x0 x1 x2 x3 x4 y0 y1 y2 y3 y4
          try simp only [Act.put, List.setIfInBounds_toArray, List.set_cons_zero, List.set_cons_succ]
          obtain ⟨x0, x1, x2, x3, x4⟩ := blk5 MB2.out.k
          obtain ⟨y0, y1, y2, y3, y4⟩ := fro5 MB2.out.k
          have KX3 := Lib.hid (KX2.out.far5 FMB (.bool false) (.string m2) (.bool false) (.string d2) (.bool ob))
          have MA3 := Lib.hid (MA2.out.other5 (g' := V7.heap.size) (by omega) (.bool false) (.string m2) (.bool false) (.string d2) (.bool ob))
          have MB3 := Lib.hid (MB2.out.self5 (.bool false) (.string m2) (.bool false) (.string d2) (.bool ob))
          refine wpLate_one (i := 15) (o := ⟨none, _, _, _, _, _⟩) (by kernel_rfl) rfl (fun K hK => ?_)
          go_simp
          refine hK.out _ _ (Or.inr (fun _ => KX3.out.in8)) ?_
          clear hK K x0 x1 x2 x3 x4 y0 y1 y2 y3 y4
          try simp only [Act.put, List.setIfInBounds_toArray, List.set_cons_zero, List.set_cons_succ]
          refine wpLate_done (by kernel_rfl) ?_ _
          go_wp2_with fail
          go_meet
          exact ⟨_, _, rfl, rfl, KX3.out, MA3.out, MB3.out⟩
      · go_simp
        refine hK.out _ _ (Or.inr (fun _ => (KX.out.next (below_new u1 (.cells #[.bool false, .string ⟨#[]⟩, .bool false, .string ⟨#[]⟩, .bool false] 88))).in8)) ?_
        clear hK K
        try simp only [Act.put, List.setIfInBounds_toArray, List.set_cons_zero, List.set_cons_succ]
        have FMB := KX.out.sz
        have MB := Lib.hid (Bq.new u1 #[.bool false, .string ⟨#[]⟩, .bool false, .string ⟨#[]⟩, .bool false] 88)
        have KX := Lib.hid (KX.out.next (below_new u1 (.cells #[.bool false, .string ⟨#[]⟩, .bool false, .string ⟨#[]⟩, .bool false] 88)))
        obtain ⟨V12, hV⟩ : ∃ V, V = u1.alloc (.cells #[.bool false, .string ⟨#[]⟩, .bool false, .string ⟨#[]⟩, .bool false] 88) := ⟨_, rfl⟩
        rw [← hV] at MB KX ⊢
        clear hV
        refine wpLate_two (i := 9) (j := 12) (o := ⟨some 33, _, _, _, _, _⟩) (o' := ⟨some 10, _, _, _, _, _⟩) (by kernel_rfl) rfl rfl (fun K hK => ?_) (fun K hK => ?_) 
        · go_simp
          (go_at_call 20; refine (HD2.out _ (HE.out _ KX.out.bel)).mono ?_; rintro e u13 ⟨rfl, hb9⟩; have KX := Lib.hid (KX.out.next hb9); have MB := Lib.hid (MB.out.next hb9); clear hb9)
          try go_wp2_with fail
          refine hK.out _ _ (Or.inr (fun _ => KX.out.in8)) ?_
          clear hK K
          try simp only [Act.put, List.setIfInBounds_toArray, List.set_cons_zero, List.set_cons_succ]
          refine wpLate_take (i := 11) (oi := ⟨some 35, _, _, _, _, _⟩) (v := ?_) rfl (by kernel_rfl) (by kernel_rfl) (by kernel_rfl) (by kernel_rfl) (by kernel_rfl) (fun _ _ _ h => h) (Or.inl ⟨by rfl, ?_⟩) KX.out.in8 ?_
          rotate_left
          · intro w hSw; (try dsimp only at hSw); (first | (go_simp; done) | (go_simp; with_reducible rfl))
          try simp only [Act.put, List.setIfInBounds_toArray, List.set_cons_zero, List.set_cons_succ]
          refine wpLate_one (i := 12) (o := ⟨some 10, _, _, _, _, _⟩) (by kernel_rfl) rfl (fun K hK => ?_) 
          go_simp
          refine hK.out _ _ (Or.inr (fun _ => (KX.out.next (below_new u13 (.cells #[.bool false, .string ⟨#[]⟩, .bool false, .string ⟨#[]⟩, .bool false] 88))).in8)) ?_
          clear hK K
          try simp only [Act.put, List.setIfInBounds_toArray, List.set_cons_zero, List.set_cons_succ]
          have FMA := KX.out.sz
          have MA := Lib.hid (Bq.new u13 #[.bool false, .string ⟨#[]⟩, .bool false, .string ⟨#[]⟩, .bool false] 88)
          have NE := MB.out.lt
          have MB := Lib.hid (MB.out.next (below_new u13 (.cells #[.bool false, .string ⟨#[]⟩, .bool false, .string ⟨#[]⟩, .bool false] 88)))
          have KX := Lib.hid (KX.out.next (below_new u13 (.cells #[.bool false, .string ⟨#[]⟩, .bool false, .string ⟨#[]⟩, .bool false] 88)))
          obtain ⟨V14, hV⟩ : ∃ V, V = u13.alloc (.cells #[.bool false, .string ⟨#[]⟩, .bool false, .string ⟨#[]⟩, .bool false] 88) := ⟨_, rfl⟩
          rw [← hV] at MA KX MB ⊢
          clear hV
          obtain ⟨x0, x1, x2, x3, x4⟩ := blk5 MA.out.k
          obtain ⟨y0, y1, y2, y3, y4⟩ := fro5 MA.out.k
          have KX2 := Lib.hid (KX.out.far5 FMA (.bool false) (.string m1) (.bool false) (.string d1) (.bool oa))
          have MA2 := Lib.hid (MA.out.self5 (.bool false) (.string m1) (.bool false) (.string d1) (.bool oa))
          have MB2 := Lib.hid (MB.out.other5 (g' := u13.heap.size) (by omega) (.bool false) (.string m1) (.bool false) (.string d1) (.bool oa))
          refine wpLate_one (i := 14) (o := ⟨none, _, _, _, _, _⟩) (by kernel_rfl) rfl (fun K hK => ?_)
          go_simp
          refine hK.out _ _ (Or.inr (fun _ => KX2.out.in8)) ?_
          clear hK K x0 x1 x2 x3 x4 y0 y1 y2 y3 y4
          try simp only [Act.put, List.setIfInBounds_toArray, List.set_cons_zero, List.set_cons_succ]
          obtain ⟨x0, x1, x2, x3, x4⟩ := blk5 MB2.out.k
          obtain ⟨y0, y1, y2, y3, y4⟩ := fro5 MB2.out.k
          have KX3 := Lib.hid (KX2.out.far5 FMB (.bool false) (.string m2) (.bool false) (.string d2) (.bool ob))
          have MA3 := Lib.hid (MA2.out.other5 (g' := u1.heap.size) (by omega) (.bool false) (.string m2) (.bool false) (.string d2) (.bool ob))
          have MB3 := Lib.hid (MB2.out.self5 (.bool false) (.string m2) (.bool false) (.string d2) (.bool ob))
          refine wpLate_one (i := 15) (o := ⟨none, _, _, _, _, _⟩) (by kernel_rfl) rfl (fun K hK => ?_)
          go_simp
          refine hK.out _ _ (Or.inr (fun _ => KX3.out.in8)) ?_
          clear hK K x0 x1 x2 x3 x4 y0 y1 y2 y3 y4
          try simp only [Act.put, List.setIfInBounds_toArray, List.set_cons_zero, List.set_cons_succ]
          refine wpLate_done (by kernel_rfl) ?_ _
          go_wp2_with fail
          go_meet
          exact ⟨_, _, rfl, rfl, KX3.out, MA3.out, MB3.out⟩
        · go_simp
          refine hK.out _ _ (Or.inr (fun _ => (KX.out.next (below_new V12 (.cells #[.bool false, .string ⟨#[]⟩, .bool false, .string ⟨#[]⟩, .bool false] 88))).in8)) ?_
          clear hK K
          try simp only [Act.put, List.setIfInBounds_toArray, List.set_cons_zero, List.set_cons_succ]
          have FMA := KX.out.sz
          have MA := Lib.hid (Bq.new V12 #[.bool false, .string ⟨#[]⟩, .bool false, .string ⟨#[]⟩, .bool false] 88)
          have NE := MB.out.lt
          have MB := Lib.hid (MB.out.next (below_new V12 (.cells #[.bool false, .string ⟨#[]⟩, .bool false, .string ⟨#[]⟩, .bool false] 88)))
          have KX := Lib.hid (KX.out.next (below_new V12 (.cells #[.bool false, .string ⟨#[]⟩, .bool false, .string ⟨#[]⟩, .bool false] 88)))
          obtain ⟨V15, hV⟩ : ∃ V, V = V12.alloc (.cells #[.bool false, .string ⟨#[]⟩, .bool false, .string ⟨#[]⟩, .bool false] 88) := ⟨_, rfl⟩
          rw [← hV] at MA KX MB ⊢
          clear hV
          refine wpLate_one (i := 9) (o := ⟨some 33, _, _, _, _, _⟩) (by kernel_rfl) rfl (fun K hK => ?_) 
          go_simp
          (go_at_call 20; refine (HD2.out _ (HE.out _ KX.out.bel)).mono ?_; rintro e u16 ⟨rfl, hb9⟩; have KX := Lib.hid (KX.out.next hb9); have MB := Lib.hid (MB.out.next hb9); have MA := Lib.hid (MA.out.next hb9); clear hb9)
          try go_wp2_with fail
          refine hK.out _ _ (Or.inr (fun _ => KX.out.in8)) ?_
          clear hK K
          try simp only [Act.put, List.setIfInBounds_toArray, List.set_cons_zero, List.set_cons_succ]
          refine wpLate_take (i := 11) (oi := ⟨some 35, _, _, _, _, _⟩) (v := ?_) rfl (by kernel_rfl) (by kernel_rfl) (by kernel_rfl) (by kernel_rfl) (by kernel_rfl) (fun _ _ _ h => h) (Or.inl ⟨by rfl, ?_⟩) KX.out.in8 ?_
          rotate_left
          · intro w hSw; (try dsimp only at hSw); (first | (go_simp; done) | (go_simp; with_reducible rfl))
          try simp only [Act.put, List.setIfInBounds_toArray, List.set_cons_zero, List.set_cons_succ]
          obtain ⟨x0, x1, x2, x3, x4⟩ := blk5 MA.out.k
          obtain ⟨y0, y1, y2, y3, y4⟩ := fro5 MA.out.k
          have KX2 := Lib.hid (KX.out.far5 FMA (.bool false) (.string m1) (.bool false) (.string d1) (.bool oa))
          have MA2 := Lib.hid (MA.out.self5 (.bool false) (.string m1) (.bool false) (.string d1) (.bool oa))
          have MB2 := Lib.hid (MB.out.other5 (g' := V12.heap.size) (by omega) (.bool false) (.string m1) (.bool false) (.string d1) (.bool oa))
          refine wpLate_one (i := 14) (o := ⟨none, _, _, _, _, _⟩) (by kernel_rfl) rfl (fun K hK => ?_)
          go_simp
          refine hK.out _ _ (Or.inr (fun _ => KX2.out.in8)) ?_
          clear hK K x0 x1 x2 x3 x4 y0 y1 y2 y3 y4
          try simp only [Act.put, List.setIfInBounds_toArray, List.set_cons_zero, List.set_cons_succ]
          obtain ⟨x0, x1, x2, x3, x4⟩ := blk5 MB2.out.k
          obtain ⟨y0, y1, y2, y3, y4⟩ := fro5 MB2.out.k
          have KX3 := Lib.hid (KX2.out.far5 FMB (.bool false) (.string m2) (.bool false) (.string d2) (.bool ob))
          have MA3 := Lib.hid (MA2.out.other5 (g' := u1.heap.size) (by omega) (.bool false) (.string m2) (.bool false) (.string d2) (.bool ob))
          have MB3 := Lib.hid (MB2.out.self5 (.bool false) (.string m2) (.bool false) (.string d2) (.bool ob))
          refine wpLate_one (i := 15) (o := ⟨none, _, _, _, _, _⟩) (by kernel_rfl) rfl (fun K hK => ?_)
          go_simp
          refine hK.out _ _ (Or.inr (fun _ => KX3.out.in8)) ?_
          clear hK K x0 x1 x2 x3 x4 y0 y1 y2 y3 y4
          try simp only [Act.put, List.setIfInBounds_toArray, List.set_cons_zero, List.set_cons_succ]
          refine wpLate_done (by kernel_rfl) ?_ _
          go_wp2_with fail
          go_meet
          exact ⟨_, _, rfl, rfl, KX3.out, MA3.out, MB3.out⟩
    · go_simp
      refine hK.out _ _ (Or.inr (fun _ => (KX.out.next (below_new V0 (.cells #[.bool false, .string ⟨#[]⟩, .bool false, .string ⟨#[]⟩, .bool false] 88))).in8)) ?_
      clear hK K
      try simp only [Act.put, List.setIfInBounds_toArray, List.set_cons_zero, List.set_cons_succ]
      have FMA := KX.out.sz
      have MA := Lib.hid (Bq.new V0 #[.bool false, .string ⟨#[]⟩, .bool false, .string ⟨#[]⟩, .bool false] 88)
      have KX := Lib.hid (KX.out.next (below_new V0 (.cells #[.bool false, .string ⟨#[]⟩, .bool false, .string ⟨#[]⟩, .bool false] 88)))
      obtain ⟨V17, hV⟩ : ∃ V, V = V0.alloc (.cells #[.bool false, .string ⟨#[]⟩, .bool false, .string ⟨#[]⟩, .bool false] 88) := ⟨_, rfl⟩
      rw [← hV] at MA KX ⊢
      clear hV
      refine wpLate_two (i := 3) (j := 13) (o := ⟨some 27, _, _, _, _, _⟩) (o' := ⟨some 11, _, _, _, _, _⟩) (by kernel_rfl) rfl rfl (fun K hK => ?_) (fun K hK => ?_) 
      · go_simp
        (go_at_call 20; refine (HD1.out _ (HE.out _ KX.out.bel)).mono ?_; rintro e u18 ⟨rfl, hb9⟩; have KX := Lib.hid (KX.out.next hb9); have MA := Lib.hid (MA.out.next hb9); clear hb9)
        try go_wp2_with fail
        refine hK.out _ _ (Or.inr (fun _ => KX.out.in8)) ?_
        clear hK K
        try simp only [Act.put, List.setIfInBounds_toArray, List.set_cons_zero, List.set_cons_succ]
        refine wpLate_take (i := 5) (oi := ⟨some 29, _, _, _, _, _⟩) (v := ?_) rfl (by kernel_rfl) (by kernel_rfl) (by kernel_rfl) (by kernel_rfl) (by kernel_rfl) (fun _ _ _ h => h) (Or.inl ⟨by rfl, ?_⟩) KX.out.in8 ?_
        rotate_left
        · intro w hSw; (try dsimp only at hSw); (first | (go_simp; done) | (go_simp; with_reducible rfl))
        try simp only [Act.put, List.setIfInBounds_toArray, List.set_cons_zero, List.set_cons_succ]
        refine wpLate_two (i := 9) (j := 13) (o := ⟨some 33, _, _, _, _, _⟩) (o' := ⟨some 11, _, _, _, _, _⟩) (by kernel_rfl) rfl rfl (fun K hK => ?_) (fun K hK => ?_) 
        · go_simp
          (go_at_call 20; refine (HD2.out _ (HE.out _ KX.out.bel)).mono ?_; rintro e u19 ⟨rfl, hb9⟩; have KX := Lib.hid (KX.out.next hb9); have MA := Lib.hid (MA.out.next hb9); clear hb9)
          try go_wp2_with fail
          refine hK.out _ _ (Or.inr (fun _ => KX.out.in8)) ?_
          clear hK K
          try simp only [Act.put, List.setIfInBounds_toArray, List.set_cons_zero, List.set_cons_succ]
          refine wpLate_take (i := 11) (oi := ⟨some 35, _, _, _, _, _⟩) (v := ?_) rfl (by kernel_rfl) (by kernel_rfl) (by kernel_rfl) (by kernel_rfl) (by kernel_rfl) (fun _ _ _ h => h) (Or.inl ⟨by rfl, ?_⟩) KX.out.in8 ?_
          rotate_left
          · intro w hSw; (try dsimp only at hSw); (first | (go_simp; done) | (go_simp; with_reducible rfl))
          try simp only [Act.put, List.setIfInBounds_toArray, List.set_cons_zero, List.set_cons_succ]
          refine wpLate_one (i := 13) (o := ⟨some 11, _, _, _, _, _⟩) (by kernel_rfl) rfl (fun K hK => ?_) 
          go_simp
          refine hK.out _ _ (Or.inr (fun _ => (KX.out.next (below_new u19 (.cells #[.bool false, .string ⟨#[]⟩, .bool false, .string ⟨#[]⟩, .bool false] 88))).in8)) ?_
          clear hK K
          try simp only [Act.put, List.setIfInBounds_toArray, List.set_cons_zero, List.set_cons_succ]
          have FMB := KX.out.sz
          have MB := Lib.hid (Bq.new u19 #[.bool false, .string ⟨#[]⟩, .bool false, .string ⟨#[]⟩, .bool false] 88)
          have NE := MA.out.lt
          have MA := Lib.hid (MA.out.next (below_new u19 (.cells #[.bool false, .string ⟨#[]⟩, .bool false, .string ⟨#[]⟩, .bool false] 88)))
          have KX := Lib.hid (KX.out.next (below_new u19 (.cells #[.bool false, .string ⟨#[]⟩, .bool false, .string ⟨#[]⟩, .bool false] 88)))
          obtain ⟨V20, hV⟩ : ∃ V, V = u19.alloc (.cells #[.bool false, .string ⟨#[]⟩, .bool false, .string ⟨#[]⟩, .bool false] 88) := ⟨_, rfl⟩
          rw [← hV] at MB KX MA ⊢
          clear hV
          obtain ⟨x0, x1, x2, x3, x4⟩ := blk5 MA.out.k
          obtain ⟨y0, y1, y2, y3, y4⟩ := fro5 MA.out.k
          have KX2 := Lib.hid (KX.out.far5 FMA (.bool false) (.string m1) (.bool false) (.string d1) (.bool oa))
          have MA2 := Lib.hid (MA.out.self5 (.bool false) (.string m1) (.bool false) (.string d1) (.bool oa))
          have MB2 := Lib.hid (MB.out.other5 (g' := V0.heap.size) (by omega) (.bool false) (.string m1) (.bool false) (.string d1) (.bool oa))
          refine wpLate_one (i := 14) (o := ⟨none, _, _, _, _, _⟩) (by kernel_rfl) rfl (fun K hK => ?_)
          go_simp
          refine hK.out _ _ (Or.inr (fun _ => KX2.out.in8)) ?_
          clear hK K x0 x1 x2 x3 x4 y0 y1 y2 y3 y4
          try simp only [Act.put, List.setIfInBounds_toArray, List.set_cons_zero, List.set_cons_succ]
          obtain ⟨x0, x1, x2, x3, x4⟩ := blk5 MB2.out.k
          obtain ⟨y0, y1, y2, y3, y4⟩ := fro5 MB2.out.k
          have KX3 := Lib.hid (KX2.out.far5 FMB (.bool false) (.string m2) (.bool false) (.string d2) (.bool ob))
          have MA3 := Lib.hid (MA2.out.other5 (g' := u19.heap.size) (by omega) (.bool false) (.string m2) (.bool false) (.string d2) (.bool ob))
          have MB3 := Lib.hid (MB2.out.self5 (.bool false) (.string m2) (.bool false) (.string d2) (.bool ob))
          refine wpLate_one (i := 15) (o := ⟨none, _, _, _, _, _⟩) (by kernel_rfl) rfl (fun K hK => ?_)
          go_simp
          refine hK.out _ _ (Or.inr (fun _ => KX3.out.in8)) ?_
          clear hK K x0 x1 x2 x3 x4 y0 y1 y2 y3 y4
          try simp only [Act.put, List.setIfInBounds_toArray, List.set_cons_zero, List.set_cons_succ]
          refine wpLate_done (by kernel_rfl) ?_ _
          go_wp2_with fail
          go_meet
          exact ⟨_, _, rfl, rfl, KX3.out, MA3.out, MB3.out⟩
        · go_simp
          refine hK.out _ _ (Or.inr (fun _ => (KX.out.next (below_new u18 (.cells #[.bool false, .string ⟨#[]⟩, .bool false, .string ⟨#[]⟩, .bool false] 88))).in8)) ?_
          clear hK K
          try simp only [Act.put, List.setIfInBounds_toArray, List.set_cons_zero, List.set_cons_succ]
          have FMB := KX.out.sz
          have MB := Lib.hid (Bq.new u18 #[.bool false, .string ⟨#[]⟩, .bool false, .string ⟨#[]⟩, .bool false] 88)
          have NE := MA.out.lt
          have MA := Lib.hid (MA.out.next (below_new u18 (.cells #[.bool false, .string ⟨#[]⟩, .bool false, .string ⟨#[]⟩, .bool false] 88)))
          have KX := Lib.hid (KX.out.next (below_new u18 (.cells #[.bool false, .string ⟨#[]⟩, .bool false, .string ⟨#[]⟩, .bool false] 88)))
          obtain ⟨V21, hV⟩ : ∃ V, V = u18.alloc (.cells #[.bool false, .string ⟨#[]⟩, .bool false, .string ⟨#[]⟩, .bool false] 88) := ⟨_, rfl⟩
          rw [← hV] at MB KX MA ⊢
          clear hV
          refine wpLate_one (i := 9) (o := ⟨some 33, _, _, _, _, _⟩) (by kernel_rfl) rfl (fun K hK => ?_) 
          go_simp
          (go_at_call 20; refine (HD2.out _ (HE.out _ KX.out.bel)).mono ?_; rintro e u22 ⟨rfl, hb9⟩; have KX := Lib.hid (KX.out.next hb9); have MA := Lib.hid (MA.out.next hb9); have MB := Lib.hid (MB.out.next hb9); clear hb9)
          try go_wp2_with fail
          refine hK.out _ _ (Or.inr (fun _ => KX.out.in8)) ?_
          clear hK K
          try simp only [Act.put, List.setIfInBounds_toArray, List.set_cons_zero, List.set_cons_succ]
          refine wpLate_take (i := 11) (oi := ⟨some 35, _, _, _, _, _⟩) (v := ?_) rfl (by kernel_rfl) (by kernel_rfl) (by kernel_rfl) (by kernel_rfl) (by kernel_rfl) (fun _ _ _ h => h) (Or.inl ⟨by rfl, ?_⟩) KX.out.in8 ?_
          rotate_left
          · intro w hSw; (try dsimp only at hSw); (first | (go_simp; done) | (go_simp; with_reducible rfl))
          try simp only [Act.put, List.setIfInBounds_toArray, List.set_cons_zero, List.set_cons_succ]
          obtain ⟨x0, x1, x2, x3, x4⟩ := blk5 MA.out.k
          obtain ⟨y0, y1, y2, y3, y4⟩ := fro5 MA.out.k
          have KX2 := Lib.hid (KX.out.far5 FMA (.bool false) (.string m1) (.bool false) (.string d1) (.bool oa))
          have MA2 := Lib.hid (MA.out.self5 (.bool false) (.string m1) (.bool false) (.string d1) (.bool oa))
          have MB2 := Lib.hid (MB.out.other5 (g' := V0.heap.size) (by omega) (.bool false) (.string m1) (.bool false) (.string d1) (.bool oa))
          refine wpLate_one (i := 14) (o := ⟨none, _, _, _, _, _⟩) (by kernel_rfl) rfl (fun K hK => ?_)
          go_simp
          refine hK.out _ _ (Or.inr (fun _ => KX2.out.in8)) ?_
          clear hK K x0 x1 x2 x3 x4 y0 y1 y2 y3 y4
          try simp only [Act.put, List.setIfInBounds_toArray, List.set_cons_zero, List.set_cons_succ]
          obtain ⟨x0, x1, x2, x3, x4⟩ := blk5 MB2.out.k
          obtain ⟨y0, y1, y2, y3, y4⟩ := fro5 MB2.out.k
          have KX3 := Lib.hid (KX2.out.far5 FMB (.bool false) (.string m2) (.bool false) (.string d2) (.bool ob))
          have MA3 := Lib.hid (MA2.out.other5 (g' := u18.heap.size) (by omega) (.bool false) (.string m2) (.bool false) (.string d2) (.bool ob))
          have MB3 := Lib.hid (MB2.out.self5 (.bool false) (.string m2) (.bool false) (.string d2) (.bool ob))
          refine wpLate_one (i := 15) (o := ⟨none, _, _, _, _, _⟩) (by kernel_rfl) rfl (fun K hK => ?_)
          go_simp
          refine hK.out _ _ (Or.inr (fun _ => KX3.out.in8)) ?_
          clear hK K x0 x1 x2 x3 x4 y0 y1 y2 y3 y4
          try simp only [Act.put, List.setIfInBounds_toArray, List.set_cons_zero, List.set_cons_succ]
          refine wpLate_done (by kernel_rfl) ?_ _
          go_wp2_with fail
          go_meet
          exact ⟨_, _, rfl, rfl, KX3.out, MA3.out, MB3.out⟩
      · go_simp
        refine hK.out _ _ (Or.inr (fun _ => (KX.out.next (below_new V17 (.cells #[.bool false, .string ⟨#[]⟩, .bool false, .string ⟨#[]⟩, .bool false] 88))).in8)) ?_
        clear hK K
        try simp only [Act.put, List.setIfInBounds_toArray, List.set_cons_zero, List.set_cons_succ]
        have FMB := KX.out.sz
        have MB := Lib.hid (Bq.new V17 #[.bool false, .string ⟨#[]⟩, .bool false, .string ⟨#[]⟩, .bool false] 88)
        have NE := MA.out.lt
        have MA := Lib.hid (MA.out.next (below_new V17 (.cells #[.bool false, .string ⟨#[]⟩, .bool false, .string ⟨#[]⟩, .bool false] 88)))
        have KX := Lib.hid (KX.out.next (below_new V17 (.cells #[.bool false, .string ⟨#[]⟩, .bool false, .string ⟨#[]⟩, .bool false] 88)))
        obtain ⟨V23, hV⟩ : ∃ V, V = V17.alloc (.cells #[.bool false, .string ⟨#[]⟩, .bool false, .string ⟨#[]⟩, .bool false] 88) := ⟨_, rfl⟩
        rw [← hV] at MB KX MA ⊢
        clear hV
        refine wpLate_one (i := 3) (o := ⟨some 27, _, _, _, _, _⟩) (by kernel_rfl) rfl (fun K hK => ?_) 
        go_simp
        (go_at_call 20; refine (HD1.out _ (HE.out _ KX.out.bel)).mono ?_; rintro e u24 ⟨rfl, hb9⟩; have KX := Lib.hid (KX.out.next hb9); have MA := Lib.hid (MA.out.next hb9); have MB := Lib.hid (MB.out.next hb9); clear hb9)
        try go_wp2_with fail
        refine hK.out _ _ (Or.inr (fun _ => KX.out.in8)) ?_
        clear hK K
        try simp only [Act.put, List.setIfInBounds_toArray, List.set_cons_zero, List.set_cons_succ]
        refine wpLate_take (i := 5) (oi := ⟨some 29, _, _, _, _, _⟩) (v := ?_) rfl (by kernel_rfl) (by kernel_rfl) (by kernel_rfl) (by kernel_rfl) (by kernel_rfl) (fun _ _ _ h => h) (Or.inl ⟨by rfl, ?_⟩) KX.out.in8 ?_
        rotate_left
        · intro w hSw; (try dsimp only at hSw); (first | (go_simp; done) | (go_simp; with_reducible rfl))
        try simp only [Act.put, List.setIfInBounds_toArray, List.set_cons_zero, List.set_cons_succ]
        refine wpLate_one (i := 9) (o := ⟨some 33, _, _, _, _, _⟩) (by kernel_rfl) rfl (fun K hK => ?_) 
        go_simp
        (go_at_call 20; refine (HD2.out _ (HE.out _ KX.out.bel)).mono ?_; rintro e u25 ⟨rfl, hb9⟩; have KX := Lib.hid (KX.out.next hb9); have MA := Lib.hid (MA.out.next hb9); have MB := Lib.hid (MB.out.next hb9); clear hb9)
        try go_wp2_with fail
        refine hK.out _ _ (Or.inr (fun _ => KX.out.in8)) ?_
        clear hK K
        try simp only [Act.put, List.setIfInBounds_toArray, List.set_cons_zero, List.set_cons_succ]
        refine wpLate_take (i := 11) (oi := ⟨some 35, _, _, _, _, _⟩) (v := ?_) rfl (by kernel_rfl) (by kernel_rfl) (by kernel_rfl) (by kernel_rfl) (by kernel_rfl) (fun _ _ _ h => h) (Or.inl ⟨by rfl, ?_⟩) KX.out.in8 ?_
        rotate_left
        · intro w hSw; (try dsimp only at hSw); (first | (go_simp; done) | (go_simp; with_reducible rfl))
        try simp only [Act.put, List.setIfInBounds_toArray, List.set_cons_zero, List.set_cons_succ]
        obtain ⟨x0, x1, x2, x3, x4⟩ := blk5 MA.out.k
        obtain ⟨y0, y1, y2, y3, y4⟩ := fro5 MA.out.k
        have KX2 := Lib.hid (KX.out.far5 FMA (.bool false) (.string m1) (.bool false) (.string d1) (.bool oa))
        have MA2 := Lib.hid (MA.out.self5 (.bool false) (.string m1) (.bool false) (.string d1) (.bool oa))
        have MB2 := Lib.hid (MB.out.other5 (g' := V0.heap.size) (by omega) (.bool false) (.string m1) (.bool false) (.string d1) (.bool oa))
        refine wpLate_one (i := 14) (o := ⟨none, _, _, _, _, _⟩) (by kernel_rfl) rfl (fun K hK => ?_)
        go_simp
        refine hK.out _ _ (Or.inr (fun _ => KX2.out.in8)) ?_
        clear hK K x0 x1 x2 x3 x4 y0 y1 y2 y3 y4
        try simp only [Act.put, List.setIfInBounds_toArray, List.set_cons_zero, List.set_cons_succ]
        obtain ⟨x0, x1, x2, x3, x4⟩ := blk5 MB2.out.k
        obtain ⟨y0, y1, y2, y3, y4⟩ := fro5 MB2.out.k
        have KX3 := Lib.hid (KX2.out.far5 FMB (.bool false) (.string m2) (.bool false) (.string d2) (.bool ob))
        have MA3 := Lib.hid (MA2.out.other5 (g' := V17.heap.size) (by omega) (.bool false) (.string m2) (.bool false) (.string d2) (.bool ob))
        have MB3 := Lib.hid (MB2.out.self5 (.bool false) (.string m2) (.bool false) (.string d2) (.bool ob))
        refine wpLate_one (i := 15) (o := ⟨none, _, _, _, _, _⟩) (by kernel_rfl) rfl (fun K hK => ?_)
        go_simp
        refine hK.out _ _ (Or.inr (fun _ => KX3.out.in8)) ?_
        clear hK K x0 x1 x2 x3 x4 y0 y1 y2 y3 y4
        try simp only [Act.put, List.setIfInBounds_toArray, List.set_cons_zero, List.set_cons_succ]
        refine wpLate_done (by kernel_rfl) ?_ _
        go_wp2_with fail
        go_meet
        exact ⟨_, _, rfl, rfl, KX3.out, MA3.out, MB3.out⟩
    · go_simp
      refine hK.out _ _ (Or.inr (fun _ => (KX.out.next (below_new V0 (.cells #[.bool false, .string ⟨#[]⟩, .bool false, .string ⟨#[]⟩, .bool false] 88))).in8)) ?_
      clear hK K
      try simp only [Act.put, List.setIfInBounds_toArray, List.set_cons_zero, List.set_cons_succ]
      have FMB := KX.out.sz
      have MB := Lib.hid (Bq.new V0 #[.bool false, .string ⟨#[]⟩, .bool false, .string ⟨#[]⟩, .bool false] 88)
      have KX := Lib.hid (KX.out.next (below_new V0 (.cells #[.bool false, .string ⟨#[]⟩, .bool false, .string ⟨#[]⟩, .bool false] 88)))
      obtain ⟨V26, hV⟩ : ∃ V, V = V0.alloc (.cells #[.bool false, .string ⟨#[]⟩, .bool false, .string ⟨#[]⟩, .bool false] 88) := ⟨_, rfl⟩
      rw [← hV] at MB KX ⊢
      clear hV
      refine wpLate_two (i := 3) (j := 12) (o := ⟨some 27, _, _, _, _, _⟩) (o' := ⟨some 10, _, _, _, _, _⟩) (by kernel_rfl) rfl rfl (fun K hK => ?_) (fun K hK => ?_) 
      · go_simp
        (go_at_call 20; refine (HD1.out _ (HE.out _ KX.out.bel)).mono ?_; rintro e u27 ⟨rfl, hb9⟩; have KX := Lib.hid (KX.out.next hb9); have MB := Lib.hid (MB.out.next hb9); clear hb9)
        try go_wp2_with fail
        refine hK.out _ _ (Or.inr (fun _ => KX.out.in8)) ?_
        clear hK K
        try simp only [Act.put, List.setIfInBounds_toArray, List.set_cons_zero, List.set_cons_succ]
        refine wpLate_take (i := 5) (oi := ⟨some 29, _, _, _, _, _⟩) (v := ?_) rfl (by kernel_rfl) (by kernel_rfl) (by kernel_rfl) (by kernel_rfl) (by kernel_rfl) (fun _ _ _ h => h) (Or.inl ⟨by rfl, ?_⟩) KX.out.in8 ?_
        rotate_left
        · intro w hSw; (try dsimp only at hSw); (first | (go_simp; done) | (go_simp; with_reducible rfl))
        try simp only [Act.put, List.setIfInBounds_toArray, List.set_cons_zero, List.set_cons_succ]
        refine wpLate_two (i := 9) (j := 12) (o := ⟨some 33, _, _, _, _, _⟩) (o' := ⟨some 10, _, _, _, _, _⟩) (by kernel_rfl) rfl rfl (fun K hK => ?_) (fun K hK => ?_) 
        · go_simp
          (go_at_call 20; refine (HD2.out _ (HE.out _ KX.out.bel)).mono ?_; rintro e u28 ⟨rfl, hb9⟩; have KX := Lib.hid (KX.out.next hb9); have MB := Lib.hid (MB.out.next hb9); clear hb9)
          try go_wp2_with fail
          refine hK.out _ _ (Or.inr (fun _ => KX.out.in8)) ?_
          clear hK K
          try simp only [Act.put, List.setIfInBounds_toArray, List.set_cons_zero, List.set_cons_succ]
          refine wpLate_take (i := 11) (oi := ⟨some 35, _, _, _, _, _⟩) (v := ?_) rfl (by kernel_rfl) (by kernel_rfl) (by kernel_rfl) (by kernel_rfl) (by kernel_rfl) (fun _ _ _ h => h) (Or.inl ⟨by rfl, ?_⟩) KX.out.in8 ?_
          rotate_left
          · intro w hSw; (try dsimp only at hSw); (first | (go_simp; done) | (go_simp; with_reducible rfl))
          try simp only [Act.put, List.setIfInBounds_toArray, List.set_cons_zero, List.set_cons_succ]
          refine wpLate_one (i := 12) (o := ⟨some 10, _, _, _, _, _⟩) (by kernel_rfl) rfl (fun K hK => ?_) 
          go_simp
          refine hK.out _ _ (Or.inr (fun _ => (KX.out.next (below_new u28 (.cells #[.bool false, .string ⟨#[]⟩, .bool false, .string ⟨#[]⟩, .bool false] 88))).in8)) ?_
          clear hK K
          try simp only [Act.put, List.setIfInBounds_toArray, List.set_cons_zero, List.set_cons_succ]
          have FMA := KX.out.sz
          have MA := Lib.hid (Bq.new u28 #[.bool false, .string ⟨#[]⟩, .bool false, .string ⟨#[]⟩, .bool false] 88)
          have NE := MB.out.lt
          have MB := Lib.hid (MB.out.next (below_new u28 (.cells #[.bool false, .string ⟨#[]⟩, .bool false, .string ⟨#[]⟩, .bool false] 88)))
          have KX := Lib.hid (KX.out.next (below_new u28 (.cells #[.bool false, .string ⟨#[]⟩, .bool false, .string ⟨#[]⟩, .bool false] 88)))
          obtain ⟨V29, hV⟩ : ∃ V, V = u28.alloc (.cells #[.bool false, .string ⟨#[]⟩, .bool false, .string ⟨#[]⟩, .bool false] 88) := ⟨_, rfl⟩
          rw [← hV] at MA KX MB ⊢
          clear hV
          obtain ⟨x0, x1, x2, x3, x4⟩ := blk5 MA.out.k
          obtain ⟨y0, y1, y2, y3, y4⟩ := fro5 MA.out.k
          have KX2 := Lib.hid (KX.out.far5 FMA (.bool false) (.string m1) (.bool false) (.string d1) (.bool oa))
          have MA2 := Lib.hid (MA.out.self5 (.bool false) (.string m1) (.bool false) (.string d1) (.bool oa))
          have MB2 := Lib.hid (MB.out.other5 (g' := u28.heap.size) (by omega) (.bool false) (.string m1) (.bool false) (.string d1) (.bool oa))
          refine wpLate_one (i := 14) (o := ⟨none, _, _, _, _, _⟩) (by kernel_rfl) rfl (fun K hK => ?_)
          go_simp
          refine hK.out _ _ (Or.inr (fun _ => KX2.out.in8)) ?_
          clear hK K x0 x1 x2 x3 x4 y0 y1 y2 y3 y4
          try simp only [Act.put, List.setIfInBounds_toArray, List.set_cons_zero, List.set_cons_succ]
          obtain ⟨x0, x1, x2, x3, x4⟩ := blk5 MB2.out.k
          obtain ⟨y0, y1, y2, y3, y4⟩ := fro5 MB2.out.k
          have KX3 := Lib.hid (KX2.out.far5 FMB (.bool false) (.string m2) (.bool false) (.string d2) (.bool ob))
          have MA3 := Lib.hid (MA2.out.other5 (g' := V0.heap.size) (by omega) (.bool false) (.string m2) (.bool false) (.string d2) (.bool ob))
          have MB3 := Lib.hid (MB2.out.self5 (.bool false) (.string m2) (.bool false) (.string d2) (.bool ob))
          refine wpLate_one (i := 15) (o := ⟨none, _, _, _, _, _⟩) (by kernel_rfl) rfl (fun K hK => ?_)
          go_simp
          refine hK.out _ _ (Or.inr (fun _ => KX3.out.in8)) ?_
          clear hK K x0 x1 x2 x3 x4 y0 y1 y2 y3 y4
          try simp only [Act.put, List.setIfInBounds_toArray, List.set_cons_zero, List.set_cons_succ]
          refine wpLate_done (by kernel_rfl) ?_ _
          go_wp2_with fail
          go_meet
          exact ⟨_, _, rfl, rfl, KX3.out, MA3.out, MB3.out⟩
        · go_simp
          refine hK.out _ _ (Or.inr (fun _ => (KX.out.next (below_new u27 (.cells #[.bool false, .string ⟨#[]⟩, .bool false, .string ⟨#[]⟩, .bool false] 88))).in8)) ?_
          clear hK K
          try simp only [Act.put, List.setIfInBounds_toArray, List.set_cons_zero, List.set_cons_succ]
          have FMA := KX.out.sz
          have MA := Lib.hid (Bq.new u27 #[.bool false, .string ⟨#[]⟩, .bool false, .string ⟨#[]⟩, .bool false] 88)
          have NE := MB.out.lt
          have MB := Lib.hid (MB.out.next (below_new u27 (.cells #[.bool false, .string ⟨#[]⟩, .bool false, .string ⟨#[]⟩, .bool false] 88)))
          have KX := Lib.hid (KX.out.next (below_new u27 (.cells #[.bool false, .string ⟨#[]⟩, .bool false, .string ⟨#[]⟩, .bool false] 88)))
          obtain ⟨V30, hV⟩ : ∃ V, V = u27.alloc (.cells #[.bool false, .string ⟨#[]⟩, .bool false, .string ⟨#[]⟩, .bool false] 88) := ⟨_, rfl⟩
          rw [← hV] at MA KX MB ⊢
          clear hV
          refine wpLate_one (i := 9) (o := ⟨some 33, _, _, _, _, _⟩) (by kernel_rfl) rfl (fun K hK => ?_) 
          go_simp
          (go_at_call 20; refine (HD2.out _ (HE.out _ KX.out.bel)).mono ?_; rintro e u31 ⟨rfl, hb9⟩; have KX := Lib.hid (KX.out.next hb9); have MB := Lib.hid (MB.out.next hb9); have MA := Lib.hid (MA.out.next hb9); clear hb9)
          try go_wp2_with fail
          refine hK.out _ _ (Or.inr (fun _ => KX.out.in8)) ?_
          clear hK K
          try simp only [Act.put, List.setIfInBounds_toArray, List.set_cons_zero, List.set_cons_succ]
          refine wpLate_take (i := 11) (oi := ⟨some 35, _, _, _, _, _⟩) (v := ?_) rfl (by kernel_rfl) (by kernel_rfl) (by kernel_rfl) (by kernel_rfl) (by kernel_rfl) (fun _ _ _ h => h) (Or.inl ⟨by rfl, ?_⟩) KX.out.in8 ?_
          rotate_left
          · intro w hSw; (try dsimp only at hSw); (first | (go_simp; done) | (go_simp; with_reducible rfl))
          try simp only [Act.put, List.setIfInBounds_toArray, List.set_cons_zero, List.set_cons_succ]
          obtain ⟨x0, x1, x2, x3, x4⟩ := blk5 MA.out.k
          obtain ⟨y0, y1, y2, y3, y4⟩ := fro5 MA.out.k
          have KX2 := Lib.hid (KX.out.far5 FMA (.bool false) (.string m1) (.bool false) (.string d1) (.bool oa))
          have MA2 := Lib.hid (MA.out.self5 (.bool false) (.string m1) (.bool false) (.string d1) (.bool oa))
          have MB2 := Lib.hid (MB.out.other5 (g' := u27.heap.size) (by omega) (.bool false) (.string m1) (.bool false) (.string d1) (.bool oa))
          refine wpLate_one (i := 14) (o := ⟨none, _, _, _, _, _⟩) (by kernel_rfl) rfl (fun K hK => ?_)
          go_simp
          refine hK.out _ _ (Or.inr (fun _ => KX2.out.in8)) ?_
          clear hK K x0 x1 x2 x3 x4 y0 y1 y2 y3 y4
          try simp only [Act.put, List.setIfInBounds_toArray, List.set_cons_zero, List.set_cons_succ]
          obtain ⟨x0, x1, x2, x3, x4⟩ := blk5 MB2.out.k
          obtain ⟨y0, y1, y2, y3, y4⟩ := fro5 MB2.out.k
          have KX3 := Lib.hid (KX2.out.far5 FMB (.bool false) (.string m2) (.bool false) (.string d2) (.bool ob))
          have MA3 := Lib.hid (MA2.out.other5 (g' := V0.heap.size) (by omega) (.bool false) (.string m2) (.bool false) (.string d2) (.bool ob))
          have MB3 := Lib.hid (MB2.out.self5 (.bool false) (.string m2) (.bool false) (.string d2) (.bool ob))
          refine wpLate_one (i := 15) (o := ⟨none, _, _, _, _, _⟩) (by kernel_rfl) rfl (fun K hK => ?_)
          go_simp
          refine hK.out _ _ (Or.inr (fun _ => KX3.out.in8)) ?_
          clear hK K x0 x1 x2 x3 x4 y0 y1 y2 y3 y4
          try simp only [Act.put, List.setIfInBounds_toArray, List.set_cons_zero, List.set_cons_succ]
          refine wpLate_done (by kernel_rfl) ?_ _
          go_wp2_with fail
          go_meet
          exact ⟨_, _, rfl, rfl, KX3.out, MA3.out, MB3.out⟩
      · go_simp
        refine hK.out _ _ (Or.inr (fun _ => (KX.out.next (below_new V26 (.cells #[.bool false, .string ⟨#[]⟩, .bool false, .string ⟨#[]⟩, .bool false] 88))).in8)) ?_
        clear hK K
        try simp only [Act.put, List.setIfInBounds_toArray, List.set_cons_zero, List.set_cons_succ]
        have FMA := KX.out.sz
        have MA := Lib.hid (Bq.new V26 #[.bool false, .string ⟨#[]⟩, .bool false, .string ⟨#[]⟩, .bool false] 88)
        have NE := MB.out.lt
        have MB := Lib.hid (MB.out.next (below_new V26 (.cells #[.bool false, .string ⟨#[]⟩, .bool false, .string ⟨#[]⟩, .bool false] 88)))
        have KX := Lib.hid (KX.out.next (below_new V26 (.cells #[.bool false, .string ⟨#[]⟩, .bool false, .string ⟨#[]⟩, .bool false] 88)))
        obtain ⟨V32, hV⟩ : ∃ V, V = V26.alloc (.cells #[.bool false, .string ⟨#[]⟩, .bool false, .string ⟨#[]⟩, .bool false] 88) := ⟨_, rfl⟩
        rw [← hV] at MA KX MB ⊢
        clear hV
        refine wpLate_one (i := 3) (o := ⟨some 27, _, _, _, _, _⟩) (by kernel_rfl) rfl (fun K hK => ?_) 
        go_simp
        (go_at_call 20; refine (HD1.out _ (HE.out _ KX.out.bel)).mono ?_; rintro e u33 ⟨rfl, hb9⟩; have KX := Lib.hid (KX.out.next hb9); have MB := Lib.hid (MB.out.next hb9); have MA := Lib.hid (MA.out.next hb9); clear hb9)
        try go_wp2_with fail
        refine hK.out _ _ (Or.inr (fun _ => KX.out.in8)) ?_
        clear hK K
        try simp only [Act.put, List.setIfInBounds_toArray, List.set_cons_zero, List.set_cons_succ]
        refine wpLate_take (i := 5) (oi := ⟨some 29, _, _, _, _, _⟩) (v := ?_) rfl (by kernel_rfl) (by kernel_rfl) (by kernel_rfl) (by kernel_rfl) (by kernel_rfl) (fun _ _ _ h => h) (Or.inl ⟨by rfl, ?_⟩) KX.out.in8 ?_
        rotate_left
        · intro w hSw; (try dsimp only at hSw); (first | (go_simp; done) | (go_simp; with_reducible rfl))
        try simp only [Act.put, List.setIfInBounds_toArray, List.set_cons_zero, List.set_cons_succ]
        refine wpLate_one (i := 9) (o := ⟨some 33, _, _, _, _, _⟩) (by kernel_rfl) rfl (fun K hK => ?_) 
        go_simp
        (go_at_call 20; refine (HD2.out _ (HE.out _ KX.out.bel)).mono ?_; rintro e u34 ⟨rfl, hb9⟩; have KX := Lib.hid (KX.out.next hb9); have MB := Lib.hid (MB.out.next hb9); have MA := Lib.hid (MA.out.next hb9); clear hb9)
        try go_wp2_with fail
        refine hK.out _ _ (Or.inr (fun _ => KX.out.in8)) ?_
        clear hK K
        try simp only [Act.put, List.setIfInBounds_toArray, List.set_cons_zero, List.set_cons_succ]
        refine wpLate_take (i := 11) (oi := ⟨some 35, _, _, _, _, _⟩) (v := ?_) rfl (by kernel_rfl) (by kernel_rfl) (by kernel_rfl) (by kernel_rfl) (by kernel_rfl) (fun _ _ _ h => h) (Or.inl ⟨by rfl, ?_⟩) KX.out.in8 ?_
        rotate_left
        · intro w hSw; (try dsimp only at hSw); (first | (go_simp; done) | (go_simp; with_reducible rfl))
        try simp only [Act.put, List.setIfInBounds_toArray, List.set_cons_zero, List.set_cons_succ]
        obtain ⟨x0, x1, x2, x3, x4⟩ := blk5 MA.out.k
        obtain ⟨y0, y1, y2, y3, y4⟩ := fro5 MA.out.k
        have KX2 := Lib.hid (KX.out.far5 FMA (.bool false) (.string m1) (.bool false) (.string d1) (.bool oa))
        have MA2 := Lib.hid (MA.out.self5 (.bool false) (.string m1) (.bool false) (.string d1) (.bool oa))
        have MB2 := Lib.hid (MB.out.other5 (g' := V26.heap.size) (by omega) (.bool false) (.string m1) (.bool false) (.string d1) (.bool oa))
        refine wpLate_one (i := 14) (o := ⟨none, _, _, _, _, _⟩) (by kernel_rfl) rfl (fun K hK => ?_)
        go_simp
        refine hK.out _ _ (Or.inr (fun _ => KX2.out.in8)) ?_
        clear hK K x0 x1 x2 x3 x4 y0 y1 y2 y3 y4
        try simp only [Act.put, List.setIfInBounds_toArray, List.set_cons_zero, List.set_cons_succ]
        obtain ⟨x0, x1, x2, x3, x4⟩ := blk5 MB2.out.k
        obtain ⟨y0, y1, y2, y3, y4⟩ := fro5 MB2.out.k
        have KX3 := Lib.hid (KX2.out.far5 FMB (.bool false) (.string m2) (.bool false) (.string d2) (.bool ob))
        have MA3 := Lib.hid (MA2.out.other5 (g' := V0.heap.size) (by omega) (.bool false) (.string m2) (.bool false) (.string d2) (.bool ob))
        have MB3 := Lib.hid (MB2.out.self5 (.bool false) (.string m2) (.bool false) (.string d2) (.bool ob))
        refine wpLate_one (i := 15) (o := ⟨none, _, _, _, _, _⟩) (by kernel_rfl) rfl (fun K hK => ?_)
        go_simp
        refine hK.out _ _ (Or.inr (fun _ => KX3.out.in8)) ?_
        clear hK K x0 x1 x2 x3 x4 y0 y1 y2 y3 y4
        try simp only [Act.put, List.setIfInBounds_toArray, List.set_cons_zero, List.set_cons_succ]
        refine wpLate_done (by kernel_rfl) ?_ _
        go_wp2_with fail
        go_meet
        exact ⟨_, _, rfl, rfl, KX3.out, MA3.out, MB3.out⟩
  case rest =>
    obtain ⟨g10, g11, rfl, rfl, hK, hA, hB⟩ := hcut
    have KX := Lib.hid hK
    have MA := Lib.hid hA
    have MB := Lib.hid hB
    obtain ⟨a0, a1, a2, a3, a4, a5, a6, a7⟩ := KX.out.in8
    clear hK hA hB
    go_wp2_with fail
    refine (HCM.out _ (HE.out _ KX.out.bel)).mono ?_
    rintro e w3 ⟨rfl, hb3⟩
    have KX := Lib.hid (KX.out.next hb3).drew
    have MA := Lib.hid (MA.out.next hb3).drew
    have MB := Lib.hid (MB.out.next hb3).drew
    clear hb3 a0 a1 a2 a3 a4 a5 a6 a7
    obtain ⟨a0, a1, a2, a3, a4, a5, a6, a7⟩ := KX.out.in8
    simp only [World.cell?_drew] at a0 a1 a2 a3 a4 a5 a6 a7
    go_wp2_with fail
    go_region_held3 (fun w' => w'.cell? ⟨w.heap.size, 0, none⟩ = some (.bool false) ∧ w'.cell? ⟨w.heap.size, 1, none⟩ = some (.string m1) ∧ w'.cell? ⟨w.heap.size, 2, none⟩ = some (.bool false) ∧ w'.cell? ⟨w.heap.size, 3, none⟩ = some (.string k1) ∧ w'.cell? ⟨w.heap.size + 1, 0, none⟩ = some (.bool false) ∧ w'.cell? ⟨w.heap.size + 1, 1, none⟩ = some (.string m2) ∧ w'.cell? ⟨w.heap.size + 1, 2, none⟩ = some (.bool false) ∧ w'.cell? ⟨w.heap.size + 1, 3, none⟩ = some (.string k2))
      (first
        | exact KX.out.in8
        | go_keep)
      (first
        | (go_at_call 40; (with_reducible refine (HS1.out _).mono ?_); rintro e w4 ⟨rfl, hb4⟩; have KX := Lib.hid (KX.out.next hb4); have MA := Lib.hid (MA.out.next hb4); have MB := Lib.hid (MB.out.next hb4))
        | (go_at_call 40; (with_reducible refine (HS2.out _).mono ?_); rintro e w5 ⟨rfl, hb5⟩; have KX := Lib.hid (KX.out.next hb5); have MA := Lib.hid (MA.out.next hb5); have MB := Lib.hid (MB.out.next hb5)))
    clear hb4 hb5 a0 a1 a2 a3 a4 a5 a6 a7
    obtain ⟨x0, x1, x2, x3, x4⟩ := blk5 MA.out.k
    obtain ⟨y0, y1, y2, y3, y4⟩ := blk5 MB.out.k
    go_wp2_with fail
    refine (HSM.out _ (HE.out _ KX.out.bel)).mono ?_
    rintro e w6 ⟨n, m, rfl, hsm, hb6⟩
    have KX := Lib.hid (KX.out.next hb6)
    have HSI := Lib.hid hsm
    clear hb6 hsm x0 x1 x2 x3 x4 y0 y1 y2 y3 y4
    go_wp2_with fail
    refine (HCP.out n m _ (HE.out _ KX.out.bel)).mono ?_
    rintro e w7 ⟨rfl, hb7⟩
    have KX := Lib.hid (KX.out.next hb7)
    obtain ⟨t0, t1, t2, t3⟩ := blk4 KX.out.k3
    obtain ⟨z0, z1, z2, z3⟩ := fro4 KX.out.k3
    clear hb7
    go_wp2
    exact bodyPost_ret (v := .tuple #[.agg #[.bool false, .string (mag n), .bool false, .string (dm m)], .int .i64 0]) (by simp [results, Tryz.results49, go_sem, t0, t1, t2, t3]) rfl ⟨n, m, rfl, HSI.out, below_set4 KX.out.bel (by omega) _ _ _ _⟩
end Go.Proofs.YtahehlajpaoiiaaGreatDoor
