import Derived.Test.YtahehlajpaoiiaaGreatDoorGRSA

/-
  The walk of the statement about fractions of integers.
-/
namespace Go.Proofs.YtahehlajpaoiiaaGreatDoor
open Go.RowKit
attribute [local go_sem ↓] Go.wp_at_zero Go.wp_at_succ
attribute [local go_sem] undef yielded

set_option maxHeartbeats 16000000 in
set_option maxRecDepth 100000 in
theorem rmakes_walk (num : Int) (x1 : -9223372036854775808 ≤ num) (x2 : num ≤ 9223372036854775807) (den : Int) (y1 : -9223372036854775808 ≤ den) (y2 : den ≤ 9223372036854775807) (c0 : Bool) (t0 : ByteArray) (c1 : Bool) (t1 : ByteArray) (w : World) (hE : Env w) :
    Calls Tryz.prog 4 #[.int .i64 num, .int .i64 den, .agg #[.bool c0, .string t0, .bool c1, .string t1]] w (RetB w (.bool true)) := by
  have HKN := Lib.hid (fun V (hV : Env V) => rknown_any V hV)
  have HE := Lib.hid (fun V (hb : Below w.heap.size w V) => hE.next hb)
  have X := Lib.hid (Bq.new w #[.bool c0, .string t0, .bool c1, .string t1] 33)
  have BB := Lib.hid (below_new w (.cells #[.bool c0, .string t0, .bool c1, .string t1] 33))
  obtain ⟨bn, mn, hn⟩ := enc_form num
  have HF1 := Lib.hid (fun V => rFromInt_f hn x1 x2 V)
  have HO1 := Lib.hid (fun V => rOf_f (x := num) (y := 1) (by rw [divInt_1]; exact rq_int hn) (by omega) x1 x2 (by omega) (by omega) V)
  clear hE hn
  by_cases hd : den = 0
  · subst hd
    have HFI := Lib.hid (fun V => fromInts_zero num x1 x2 V)
    clear x1 x2 y1 y2
    go_enter Tryz.func4, Tryz.ntmps4
    go_wp2_with fail
    refine (HKN.out _ (HE.out _ BB.out)).mono ?_
    rintro e w1 ⟨rfl, hb9⟩
    have X := Lib.hid (X.out.next hb9)
    have BB := Lib.hid (below_step BB.out (Nat.le_refl _) hb9)
    clear hb9
    go_wp2_with fail
    refine (HFI.out _).mono ?_
    rintro e w2 ⟨rfl, hb9⟩
    have X := Lib.hid (X.out.next hb9)
    have BB := Lib.hid (below_step BB.out (Nat.le_refl _) hb9)
    clear hb9
    have NB := below_new w2 (.cells #[.bool false, .string ⟨#[]⟩, .bool false, .string ⟨#[]⟩] 25)
    have X := Lib.hid (X.out.next NB)
    have A := Lib.hid (Bq.new w2 #[.bool false, .string ⟨#[]⟩, .bool false, .string ⟨#[]⟩] 25)
    have BB := Lib.hid (below_step BB.out (Nat.le_refl _) NB)
    clear NB
    obtain ⟨a0, a1, a2, a3⟩ := blk4 A.out.k
    go_wp2_with fail
    clear a0 a1 a2 a3
    have X := Lib.hid X.out.drew
    have A := Lib.hid A.out.drew
    have BB := Lib.hid BB.out.drew
    obtain ⟨a0, a1, a2, a3⟩ := blk4 A.out.k
    simp only [World.cell?_drew] at a0 a1 a2 a3
    refine wp_region_late (S := fun w' => w'.cell? ⟨w2.heap.size, 0, none⟩ = some (.bool false) ∧ w'.cell? ⟨w2.heap.size, 1, none⟩ = some (.string ⟨#[]⟩) ∧ w'.cell? ⟨w2.heap.size, 2, none⟩ = some (.bool false) ∧ w'.cell? ⟨w2.heap.size, 3, none⟩ = some (.string ⟨#[]⟩)) (L := []) (by kernel_rfl) ?_
    refine wpLate_take (i := 0) (oi := ⟨some 19, _, _, _, _, _⟩) (v := ?_) rfl (by kernel_rfl) (by kernel_rfl) (by kernel_rfl) (by kernel_rfl) (by kernel_rfl) (fun _ _ _ h => h) (Or.inl ⟨by rfl, ?_⟩) ⟨(blk4 A.out.k).1, (blk4 A.out.k).2.1, (blk4 A.out.k).2.2.1, (blk4 A.out.k).2.2.2⟩ ?_
    rotate_left
    · intro w hSw; (try dsimp only at hSw); (first | (go_simp; done) | (go_simp; with_reducible rfl))
    try simp only [Act.put, List.setIfInBounds_toArray, List.set_cons_zero, List.set_cons_succ]
    refine wpLate_take (i := 1) (oi := ⟨some 20, _, _, _, _, _⟩) (v := ?_) rfl (by kernel_rfl) (by kernel_rfl) (by kernel_rfl) (by kernel_rfl) (by kernel_rfl) (fun _ _ _ h => h) (Or.inl ⟨by rfl, ?_⟩) ⟨(blk4 A.out.k).1, (blk4 A.out.k).2.1, (blk4 A.out.k).2.2.1, (blk4 A.out.k).2.2.2⟩ ?_
    rotate_left
    · intro w hSw; (try dsimp only at hSw); (first | (go_simp; done) | (go_simp; with_reducible rfl))
    try simp only [Act.put, List.setIfInBounds_toArray, List.set_cons_zero, List.set_cons_succ]
    refine wpLate_take (i := 2) (oi := ⟨some 21, _, _, _, _, _⟩) (v := ?_) rfl (by kernel_rfl) (by kernel_rfl) (by kernel_rfl) (by kernel_rfl) (by kernel_rfl) (fun _ _ _ h => h) (Or.inl ⟨by rfl, ?_⟩) ⟨(blk4 A.out.k).1, (blk4 A.out.k).2.1, (blk4 A.out.k).2.2.1, (blk4 A.out.k).2.2.2⟩ ?_
    rotate_left
    · intro w hSw; (try dsimp only at hSw); (first | (go_simp; done) | (go_simp; with_reducible rfl))
    try simp only [Act.put, List.setIfInBounds_toArray, List.set_cons_zero, List.set_cons_succ]
    refine wpLate_take (i := 3) (oi := ⟨some 22, _, _, _, _, _⟩) (v := ?_) rfl (by kernel_rfl) (by kernel_rfl) (by kernel_rfl) (by kernel_rfl) (by kernel_rfl) (fun _ _ _ h => h) (Or.inl ⟨by rfl, ?_⟩) ⟨(blk4 A.out.k).1, (blk4 A.out.k).2.1, (blk4 A.out.k).2.2.1, (blk4 A.out.k).2.2.2⟩ ?_
    rotate_left
    · intro w hSw; (try dsimp only at hSw); (first | (go_simp; done) | (go_simp; with_reducible rfl))
    try simp only [Act.put, List.setIfInBounds_toArray, List.set_cons_zero, List.set_cons_succ]
    refine wpLate_take (i := 4) (oi := ⟨some 23, _, _, _, _, _⟩) (v := ?_) rfl (by kernel_rfl) (by kernel_rfl) (by kernel_rfl) (by kernel_rfl) (by kernel_rfl) (fun _ _ _ h => h) (Or.inl ⟨by rfl, ?_⟩) ⟨(blk4 A.out.k).1, (blk4 A.out.k).2.1, (blk4 A.out.k).2.2.1, (blk4 A.out.k).2.2.2⟩ ?_
    rotate_left
    · intro w hSw; (try dsimp only at hSw); (first | (go_simp; done) | (go_simp; with_reducible rfl))
    try simp only [Act.put, List.setIfInBounds_toArray, List.set_cons_zero, List.set_cons_succ]
    refine wpLate_take (i := 5) (oi := ⟨some 24, _, _, _, _, _⟩) (v := ?_) rfl (by kernel_rfl) (by kernel_rfl) (by kernel_rfl) (by kernel_rfl) (by kernel_rfl) (fun _ _ _ h => h) (Or.inl ⟨by rfl, ?_⟩) ⟨(blk4 A.out.k).1, (blk4 A.out.k).2.1, (blk4 A.out.k).2.2.1, (blk4 A.out.k).2.2.2⟩ ?_
    rotate_left
    · intro w hSw; (try dsimp only at hSw); (first | (go_simp; done) | (go_simp; with_reducible rfl))
    try simp only [Act.put, List.setIfInBounds_toArray, List.set_cons_zero, List.set_cons_succ]
    refine wpLate_take (i := 6) (oi := ⟨some 25, _, _, _, _, _⟩) (v := ?_) rfl (by kernel_rfl) (by kernel_rfl) (by kernel_rfl) (by kernel_rfl) (by kernel_rfl) (fun _ _ _ h => h) (Or.inl ⟨by rfl, ?_⟩) ⟨(blk4 A.out.k).1, (blk4 A.out.k).2.1, (blk4 A.out.k).2.2.1, (blk4 A.out.k).2.2.2⟩ ?_
    rotate_left
    · intro w hSw; (try dsimp only at hSw); (first | (go_simp; done) | (go_simp; with_reducible rfl))
    try simp only [Act.put, List.setIfInBounds_toArray, List.set_cons_zero, List.set_cons_succ]
    refine wpLate_take (i := 7) (oi := ⟨some 26, _, _, _, _, _⟩) (v := ?_) rfl (by kernel_rfl) (by kernel_rfl) (by kernel_rfl) (by kernel_rfl) (by kernel_rfl) (fun _ _ _ h => h) (Or.inl ⟨by rfl, ?_⟩) ⟨(blk4 A.out.k).1, (blk4 A.out.k).2.1, (blk4 A.out.k).2.2.1, (blk4 A.out.k).2.2.2⟩ ?_
    rotate_left
    · intro w hSw; (try dsimp only at hSw); (first | (go_simp; done) | (go_simp; with_reducible rfl))
    try simp only [Act.put, List.setIfInBounds_toArray, List.set_cons_zero, List.set_cons_succ]
    refine wpLate_take (i := 8) (oi := ⟨some 27, _, _, _, _, _⟩) (v := ?_) rfl (by kernel_rfl) (by kernel_rfl) (by kernel_rfl) (by kernel_rfl) (by kernel_rfl) (fun _ _ _ h => h) (Or.inl ⟨by rfl, ?_⟩) ⟨(blk4 A.out.k).1, (blk4 A.out.k).2.1, (blk4 A.out.k).2.2.1, (blk4 A.out.k).2.2.2⟩ ?_
    rotate_left
    · intro w hSw; (try dsimp only at hSw); (first | (go_simp; done) | (go_simp; with_reducible rfl))
    try simp only [Act.put, List.setIfInBounds_toArray, List.set_cons_zero, List.set_cons_succ]
    refine wpLate_take (i := 9) (oi := ⟨some 28, _, _, _, _, _⟩) (v := ?_) rfl (by kernel_rfl) (by kernel_rfl) (by kernel_rfl) (by kernel_rfl) (by kernel_rfl) (fun _ _ _ h => h) (Or.inl ⟨by rfl, ?_⟩) ⟨(blk4 A.out.k).1, (blk4 A.out.k).2.1, (blk4 A.out.k).2.2.1, (blk4 A.out.k).2.2.2⟩ ?_
    rotate_left
    · intro w hSw; (try dsimp only at hSw); (first | (go_simp; done) | (go_simp; with_reducible rfl))
    try simp only [Act.put, List.setIfInBounds_toArray, List.set_cons_zero, List.set_cons_succ]
    refine wpLate_take (i := 10) (oi := ⟨some 29, _, _, _, _, _⟩) (v := ?_) rfl (by kernel_rfl) (by kernel_rfl) (by kernel_rfl) (by kernel_rfl) (by kernel_rfl) (fun _ _ _ h => h) (Or.inl ⟨by rfl, ?_⟩) ⟨(blk4 A.out.k).1, (blk4 A.out.k).2.1, (blk4 A.out.k).2.2.1, (blk4 A.out.k).2.2.2⟩ ?_
    rotate_left
    · intro w hSw; (try dsimp only at hSw); (first | (go_simp; done) | (go_simp; with_reducible rfl))
    try simp only [Act.put, List.setIfInBounds_toArray, List.set_cons_zero, List.set_cons_succ]
    refine wpLate_take (i := 11) (oi := ⟨some 30, _, _, _, _, _⟩) (v := ?_) rfl (by kernel_rfl) (by kernel_rfl) (by kernel_rfl) (by kernel_rfl) (by kernel_rfl) (fun _ _ _ h => h) (Or.inl ⟨by rfl, ?_⟩) ⟨(blk4 A.out.k).1, (blk4 A.out.k).2.1, (blk4 A.out.k).2.2.1, (blk4 A.out.k).2.2.2⟩ ?_
    rotate_left
    · intro w hSw; (try dsimp only at hSw); (first | (go_simp; done) | (go_simp; with_reducible rfl))
    try simp only [Act.put, List.setIfInBounds_toArray, List.set_cons_zero, List.set_cons_succ]
    refine wpLate_take (i := 12) (oi := ⟨some 31, _, _, _, _, _⟩) (v := ?_) rfl (by kernel_rfl) (by kernel_rfl) (by kernel_rfl) (by kernel_rfl) (by kernel_rfl) (fun _ _ _ h => h) (Or.inl ⟨by rfl, ?_⟩) ⟨(blk4 A.out.k).1, (blk4 A.out.k).2.1, (blk4 A.out.k).2.2.1, (blk4 A.out.k).2.2.2⟩ ?_
    rotate_left
    · intro w hSw; (try dsimp only at hSw); (first | (go_simp; done) | (go_simp; with_reducible rfl))
    try simp only [Act.put, List.setIfInBounds_toArray, List.set_cons_zero, List.set_cons_succ]
    refine wpLate_take (i := 13) (oi := ⟨some 32, _, _, _, _, _⟩) (v := ?_) rfl (by kernel_rfl) (by kernel_rfl) (by kernel_rfl) (by kernel_rfl) (by kernel_rfl) (fun _ _ _ h => h) (Or.inl ⟨by rfl, ?_⟩) ⟨(blk4 A.out.k).1, (blk4 A.out.k).2.1, (blk4 A.out.k).2.2.1, (blk4 A.out.k).2.2.2⟩ ?_
    rotate_left
    · intro w hSw; (try dsimp only at hSw); (first | (go_simp; done) | (go_simp; with_reducible rfl))
    try simp only [Act.put, List.setIfInBounds_toArray, List.set_cons_zero, List.set_cons_succ]
    refine wpLate_take (i := 14) (oi := ⟨some 33, _, _, _, _, _⟩) (v := ?_) rfl (by kernel_rfl) (by kernel_rfl) (by kernel_rfl) (by kernel_rfl) (by kernel_rfl) (fun _ _ _ h => h) (Or.inl ⟨by rfl, ?_⟩) ⟨(blk4 A.out.k).1, (blk4 A.out.k).2.1, (blk4 A.out.k).2.2.1, (blk4 A.out.k).2.2.2⟩ ?_
    rotate_left
    · intro w hSw; (try dsimp only at hSw); (first | (go_simp; done) | (go_simp; with_reducible rfl))
    try simp only [Act.put, List.setIfInBounds_toArray, List.set_cons_zero, List.set_cons_succ]
    refine wpLate_take (i := 15) (oi := ⟨some 34, _, _, _, _, _⟩) (v := undef) rfl (by kernel_rfl) (by kernel_rfl) (by kernel_rfl) (by kernel_rfl) (by kernel_rfl) (fun _ _ _ h => h) (Or.inr ⟨by rfl, rfl⟩) ⟨(blk4 A.out.k).1, (blk4 A.out.k).2.1, (blk4 A.out.k).2.2.1, (blk4 A.out.k).2.2.2⟩ ?_
    try simp only [Act.put, List.setIfInBounds_toArray, List.set_cons_zero, List.set_cons_succ]
    refine wpLate_take (i := 16) (oi := ⟨some 35, _, _, _, _, _⟩) (v := undef) rfl (by kernel_rfl) (by kernel_rfl) (by kernel_rfl) (by kernel_rfl) (by kernel_rfl) (fun _ _ _ h => h) (Or.inr ⟨by rfl, rfl⟩) ⟨(blk4 A.out.k).1, (blk4 A.out.k).2.1, (blk4 A.out.k).2.2.1, (blk4 A.out.k).2.2.2⟩ ?_
    try simp only [Act.put, List.setIfInBounds_toArray, List.set_cons_zero, List.set_cons_succ]
    refine wpLate_take (i := 17) (oi := ⟨some 36, _, _, _, _, _⟩) (v := undef) rfl (by kernel_rfl) (by kernel_rfl) (by kernel_rfl) (by kernel_rfl) (by kernel_rfl) (fun _ _ _ h => h) (Or.inr ⟨by rfl, rfl⟩) ⟨(blk4 A.out.k).1, (blk4 A.out.k).2.1, (blk4 A.out.k).2.2.1, (blk4 A.out.k).2.2.2⟩ ?_
    try simp only [Act.put, List.setIfInBounds_toArray, List.set_cons_zero, List.set_cons_succ]
    refine wpLate_one (i := 18) (o := ⟨some 37, _, _, _, _, _⟩) (by kernel_rfl) rfl (fun K hK => ?_)
    rw [if_neg (show ¬ (Region.wanted _ _ = true) from by intro h; cases h)]
    refine hK.out _ _ (Or.inr (fun h => h)) ?_
    clear hK K
    try simp only [Act.put, List.setIfInBounds_toArray, List.set_cons_zero, List.set_cons_succ]
    refine wpLate_take (i := 19) (oi := ⟨some 38, _, _, _, _, _⟩) (v := undef) rfl (by kernel_rfl) (by kernel_rfl) (by kernel_rfl) (by kernel_rfl) (by kernel_rfl) (fun _ _ _ h => h) (Or.inr ⟨by rfl, rfl⟩) ⟨(blk4 A.out.k).1, (blk4 A.out.k).2.1, (blk4 A.out.k).2.2.1, (blk4 A.out.k).2.2.2⟩ ?_
    try simp only [Act.put, List.setIfInBounds_toArray, List.set_cons_zero, List.set_cons_succ]
    refine wpLate_take (i := 20) (oi := ⟨some 39, _, _, _, _, _⟩) (v := undef) rfl (by kernel_rfl) (by kernel_rfl) (by kernel_rfl) (by kernel_rfl) (by kernel_rfl) (fun _ _ _ h => h) (Or.inr ⟨by rfl, rfl⟩) ⟨(blk4 A.out.k).1, (blk4 A.out.k).2.1, (blk4 A.out.k).2.2.1, (blk4 A.out.k).2.2.2⟩ ?_
    try simp only [Act.put, List.setIfInBounds_toArray, List.set_cons_zero, List.set_cons_succ]
    refine wpLate_take (i := 21) (oi := ⟨some 40, _, _, _, _, _⟩) (v := undef) rfl (by kernel_rfl) (by kernel_rfl) (by kernel_rfl) (by kernel_rfl) (by kernel_rfl) (fun _ _ _ h => h) (Or.inr ⟨by rfl, rfl⟩) ⟨(blk4 A.out.k).1, (blk4 A.out.k).2.1, (blk4 A.out.k).2.2.1, (blk4 A.out.k).2.2.2⟩ ?_
    try simp only [Act.put, List.setIfInBounds_toArray, List.set_cons_zero, List.set_cons_succ]
    refine wpLate_take (i := 22) (oi := ⟨some 41, _, _, _, _, _⟩) (v := undef) rfl (by kernel_rfl) (by kernel_rfl) (by kernel_rfl) (by kernel_rfl) (by kernel_rfl) (fun _ _ _ h => h) (Or.inr ⟨by rfl, rfl⟩) ⟨(blk4 A.out.k).1, (blk4 A.out.k).2.1, (blk4 A.out.k).2.2.1, (blk4 A.out.k).2.2.2⟩ ?_
    try simp only [Act.put, List.setIfInBounds_toArray, List.set_cons_zero, List.set_cons_succ]
    refine wpLate_take (i := 23) (oi := ⟨some 42, _, _, _, _, _⟩) (v := undef) rfl (by kernel_rfl) (by kernel_rfl) (by kernel_rfl) (by kernel_rfl) (by kernel_rfl) (fun _ _ _ h => h) (Or.inr ⟨by rfl, rfl⟩) ⟨(blk4 A.out.k).1, (blk4 A.out.k).2.1, (blk4 A.out.k).2.2.1, (blk4 A.out.k).2.2.2⟩ ?_
    try simp only [Act.put, List.setIfInBounds_toArray, List.set_cons_zero, List.set_cons_succ]
    refine wpLate_take (i := 24) (oi := ⟨some 43, _, _, _, _, _⟩) (v := ?_) rfl (by kernel_rfl) (by kernel_rfl) (by kernel_rfl) (by kernel_rfl) (by kernel_rfl) (fun _ _ _ h => h) (Or.inl ⟨by rfl, ?_⟩) ⟨(blk4 A.out.k).1, (blk4 A.out.k).2.1, (blk4 A.out.k).2.2.1, (blk4 A.out.k).2.2.2⟩ ?_
    rotate_left
    · intro w hSw; (try dsimp only at hSw); (first | (go_simp; done) | (go_simp; with_reducible rfl))
    try simp only [Act.put, List.setIfInBounds_toArray, List.set_cons_zero, List.set_cons_succ]
    refine wpLate_take (i := 25) (oi := ⟨some 44, _, _, _, _, _⟩) (v := ?_) rfl (by kernel_rfl) (by kernel_rfl) (by kernel_rfl) (by kernel_rfl) (by kernel_rfl) (fun _ _ _ h => h) (Or.inl ⟨by rfl, ?_⟩) ⟨(blk4 A.out.k).1, (blk4 A.out.k).2.1, (blk4 A.out.k).2.2.1, (blk4 A.out.k).2.2.2⟩ ?_
    rotate_left
    · intro w hSw; (try dsimp only at hSw); (first | (go_simp; done) | (go_simp; with_reducible rfl))
    try simp only [Act.put, List.setIfInBounds_toArray, List.set_cons_zero, List.set_cons_succ]
    refine wpLate_take (i := 26) (oi := ⟨some 45, _, _, _, _, _⟩) (v := ?_) rfl (by kernel_rfl) (by kernel_rfl) (by kernel_rfl) (by kernel_rfl) (by kernel_rfl) (fun _ _ _ h => h) (Or.inl ⟨by rfl, ?_⟩) ⟨(blk4 A.out.k).1, (blk4 A.out.k).2.1, (blk4 A.out.k).2.2.1, (blk4 A.out.k).2.2.2⟩ ?_
    rotate_left
    · intro w hSw; (try dsimp only at hSw); (first | (go_simp; done) | (go_simp; with_reducible rfl))
    try simp only [Act.put, List.setIfInBounds_toArray, List.set_cons_zero, List.set_cons_succ]
    refine wpLate_take (i := 27) (oi := ⟨some 46, _, _, _, _, _⟩) (v := ?_) rfl (by kernel_rfl) (by kernel_rfl) (by kernel_rfl) (by kernel_rfl) (by kernel_rfl) (fun _ _ _ h => h) (Or.inl ⟨by rfl, ?_⟩) ⟨(blk4 A.out.k).1, (blk4 A.out.k).2.1, (blk4 A.out.k).2.2.1, (blk4 A.out.k).2.2.2⟩ ?_
    rotate_left
    · intro w hSw; (try dsimp only at hSw); (first | (go_simp; done) | (go_simp; with_reducible rfl))
    try simp only [Act.put, List.setIfInBounds_toArray, List.set_cons_zero, List.set_cons_succ]
    refine wpLate_take (i := 29) (oi := ⟨some 48, _, _, _, _, _⟩) (v := ?_) rfl (by kernel_rfl) (by kernel_rfl) (by kernel_rfl) (by kernel_rfl) (by kernel_rfl) (fun _ _ _ h => h) (Or.inl ⟨by rfl, ?_⟩) ⟨(blk4 A.out.k).1, (blk4 A.out.k).2.1, (blk4 A.out.k).2.2.1, (blk4 A.out.k).2.2.2⟩ ?_
    rotate_left
    · intro w hSw; (try dsimp only at hSw); (first | (go_simp; done) | (go_simp; with_reducible rfl))
    try simp only [Act.put, List.setIfInBounds_toArray, List.set_cons_zero, List.set_cons_succ]
    refine wpLate_one (i := 28) (o := ⟨some 47, _, _, _, _, _⟩) (by kernel_rfl) rfl (fun K hK => ?_)
    go_simp
    (go_at_call 24; (with_reducible refine (HF1.out _).mono ?_); rintro e w4 ⟨rfl, hb9⟩; have X := Lib.hid (X.out.next hb9); have A := Lib.hid (A.out.next hb9); have BB := Lib.hid (below_step BB.out (Nat.le_refl _) hb9); clear hb9)
    try go_wp2_with fail
    refine hK.out _ _ (Or.inr (fun _ => ⟨(blk4 A.out.k).1, (blk4 A.out.k).2.1, (blk4 A.out.k).2.2.1, (blk4 A.out.k).2.2.2⟩)) ?_
    clear hK K
    try simp only [Act.put, List.setIfInBounds_toArray, List.set_cons_zero, List.set_cons_succ]
    refine wpLate_one (i := 30) (o := ⟨some 49, _, _, _, _, _⟩) (by kernel_rfl) rfl (fun K hK => ?_)
    go_simp
    (go_at_call 23; (with_reducible refine (HO1.out _).mono ?_); rintro e w5 ⟨rfl, hb9⟩; have X := Lib.hid (X.out.next hb9); have A := Lib.hid (A.out.next hb9); have BB := Lib.hid (below_step BB.out (Nat.le_refl _) hb9); clear hb9)
    try go_wp2_with fail
    refine hK.out _ _ (Or.inr (fun _ => ⟨(blk4 A.out.k).1, (blk4 A.out.k).2.1, (blk4 A.out.k).2.2.1, (blk4 A.out.k).2.2.2⟩)) ?_
    clear hK K
    try simp only [Act.put, List.setIfInBounds_toArray, List.set_cons_zero, List.set_cons_succ]
    refine wpLate_take (i := 31) (oi := ⟨some 50, _, _, _, _, _⟩) (v := ?_) rfl (by kernel_rfl) (by kernel_rfl) (by kernel_rfl) (by kernel_rfl) (by kernel_rfl) (fun _ _ _ h => h) (Or.inl ⟨by rfl, ?_⟩) ⟨(blk4 A.out.k).1, (blk4 A.out.k).2.1, (blk4 A.out.k).2.2.1, (blk4 A.out.k).2.2.2⟩ ?_
    rotate_left
    · intro w hSw; (try dsimp only at hSw); (first | (go_simp; done) | (go_simp; with_reducible rfl))
    try simp only [Act.put, List.setIfInBounds_toArray, List.set_cons_zero, List.set_cons_succ]
    refine wpLate_take (i := 32) (oi := ⟨some 51, _, _, _, _, _⟩) (v := ?_) rfl (by kernel_rfl) (by kernel_rfl) (by kernel_rfl) (by kernel_rfl) (by kernel_rfl) (fun _ _ _ h => h) (Or.inl ⟨by rfl, ?_⟩) ⟨(blk4 A.out.k).1, (blk4 A.out.k).2.1, (blk4 A.out.k).2.2.1, (blk4 A.out.k).2.2.2⟩ ?_
    rotate_left
    · intro w hSw; (try dsimp only at hSw); (first | (go_simp; done) | (go_simp; with_reducible rfl))
    try simp only [Act.put, List.setIfInBounds_toArray, List.set_cons_zero, List.set_cons_succ]
    refine wpLate_done (by kernel_rfl) ?_ _
    clear a0 a1 a2 a3
    have HI0 := Lib.hid (fun V => isInt_any c0 t0 V)
    have HI1 := Lib.hid (fun V => isInt_any c1 t1 V)
    obtain ⟨x0, x1, x2, x3⟩ := blk4 X.out.k
    cases hc0 : canonB c0 t0
    case false =>
      rw [hc0] at HI0
      go_wp2_with fail
      refine (HI0.out _).mono ?_
      rintro e v1 ⟨rfl, hb9⟩
      have X := Lib.hid (X.out.next hb9)
      have BB := Lib.hid (below_step BB.out (Nat.le_refl _) hb9)
      clear hb9
      go_wp2
      go_ret
      exact ⟨rfl, BB.out⟩
    rw [hc0] at HI0
    cases hc1 : canonB c1 t1
    case false =>
      rw [hc1] at HI1
      go_wp2_with fail
      refine (HI0.out _).mono ?_
      rintro e v1 ⟨rfl, hb9⟩
      have X := Lib.hid (X.out.next hb9)
      have BB := Lib.hid (below_step BB.out (Nat.le_refl _) hb9)
      clear hb9
      obtain ⟨x0, x1, x2, x3⟩ := blk4 X.out.k
      go_wp2_with fail
      refine (HI1.out _).mono ?_
      rintro e v2 ⟨rfl, hb9⟩
      have X := Lib.hid (X.out.next hb9)
      have BB := Lib.hid (below_step BB.out (Nat.le_refl _) hb9)
      clear hb9
      obtain ⟨x0, x1, x2, x3⟩ := blk4 X.out.k
      go_wp2
      go_ret
      exact ⟨rfl, BB.out⟩
    rw [hc1] at HI1
    obtain ⟨x, hx⟩ := canon_form hc0
    obtain ⟨y, hy⟩ := canon_form hc1
    by_cases hs0 : 40 < t0.size
    · go_wp2_with fail
      refine (HI0.out _).mono ?_
      rintro e v1 ⟨rfl, hb9⟩
      have X := Lib.hid (X.out.next hb9)
      have BB := Lib.hid (below_step BB.out (Nat.le_refl _) hb9)
      clear hb9
      obtain ⟨x0, x1, x2, x3⟩ := blk4 X.out.k
      go_wp2_with fail
      refine (HI1.out _).mono ?_
      rintro e v2 ⟨rfl, hb9⟩
      have X := Lib.hid (X.out.next hb9)
      have BB := Lib.hid (below_step BB.out (Nat.le_refl _) hb9)
      clear hb9
      obtain ⟨x0, x1, x2, x3⟩ := blk4 X.out.k
      go_wp2
      go_ret
      exact ⟨rfl, BB.out⟩
    by_cases hs1 : 40 < t1.size
    · go_wp2_with fail
      refine (HI0.out _).mono ?_
      rintro e v1 ⟨rfl, hb9⟩
      have X := Lib.hid (X.out.next hb9)
      have BB := Lib.hid (below_step BB.out (Nat.le_refl _) hb9)
      clear hb9
      obtain ⟨x0, x1, x2, x3⟩ := blk4 X.out.k
      go_wp2_with fail
      refine (HI1.out _).mono ?_
      rintro e v2 ⟨rfl, hb9⟩
      have X := Lib.hid (X.out.next hb9)
      have BB := Lib.hid (below_step BB.out (Nat.le_refl _) hb9)
      clear hb9
      obtain ⟨x0, x1, x2, x3⟩ := blk4 X.out.k
      go_wp2
      go_ret
      exact ⟨rfl, BB.out⟩
    by_cases hy0 : y = 0
    · have h1 : c1 = false ∧ t1 = ⟨#[]⟩ := by
        have h := (hy0 ▸ hy).symm.trans enc_nought
        injection h with h
        simpa using h
      have hmk := fun V => make_zero c0 false t0 enc_nought V
      rw [← h1.2, ← h1.1] at hmk
      have HMK := Lib.hid (fun V => (hmk V).mono (fun e w' h => (by rw [h1.1, h1.2] at h; exact h : RetB V (.tuple #[.agg #[.bool false, .string ⟨#[]⟩, .bool false, .string ⟨#[]⟩], .int .i64 6]) e w')))
      have hnil : t1.toList = [] := by rw [h1.2, ByteArray.toList_eq]
      have hemp : t1.toList.isEmpty = true := by rw [hnil]; rfl
      clear hc0 hc1 hx hy hy0 h1 hmk
      go_wp2_with fail
      refine (HI0.out _).mono ?_
      rintro e v1 ⟨rfl, hb9⟩
      have X := Lib.hid (X.out.next hb9)
      have BB := Lib.hid (below_step BB.out (Nat.le_refl _) hb9)
      clear hb9
      obtain ⟨x0, x1, x2, x3⟩ := blk4 X.out.k
      go_wp2_with fail
      refine (HI1.out _).mono ?_
      rintro e v2 ⟨rfl, hb9⟩
      have X := Lib.hid (X.out.next hb9)
      have BB := Lib.hid (below_step BB.out (Nat.le_refl _) hb9)
      clear hb9
      obtain ⟨x0, x1, x2, x3⟩ := blk4 X.out.k
      go_wp2_with fail
      refine (HMK.out _).mono ?_
      rintro e v3 ⟨rfl, hb9⟩
      have X := Lib.hid (X.out.next hb9)
      have BB := Lib.hid (below_step BB.out (Nat.le_refl _) hb9)
      clear hb9
      have NB := below_new v3 (.cells #[.bool false, .string ⟨#[]⟩, .bool false, .string ⟨#[]⟩] 25)
      have X := Lib.hid (X.out.next NB)
      have B := Lib.hid (Bq.new v3 #[.bool false, .string ⟨#[]⟩, .bool false, .string ⟨#[]⟩] 25)
      have BB := Lib.hid (below_step BB.out (Nat.le_refl _) NB)
      clear NB
      obtain ⟨x0, x1, x2, x3⟩ := blk4 X.out.k
      obtain ⟨b0, b1, b2, b3⟩ := blk4 B.out.k
      go_wp2
      go_ret
      exact ⟨rfl, BB.out⟩
    have hne := toList_ne (l := []) (show t1 ≠ ⟨#[]⟩ from by
      rw [(enc_parts hy).2]
      exact mag_no_nil (by omega))
    have hemp : t1.toList.isEmpty = false := by rw [List.isEmpty_eq_false_iff]; exact hne
    obtain ⟨b5, m5, k5, hq5⟩ := Rq.some_ (Rat.divInt x y)
    have HMK := Lib.hid (fun V (hV : Env V) => make_f hx hy hq5 hy0 (by omega) (by omega) V hV)
    have HRM := Lib.hid (fun V => rmake_f hx hy hq5 hy0 (by omega) (by omega) V)
    clear hc0 hc1 hx hy hy0 hq5
    go_wp2_with fail
    refine (HI0.out _).mono ?_
    rintro e v1 ⟨rfl, hb9⟩
    have X := Lib.hid (X.out.next hb9)
    have BB := Lib.hid (below_step BB.out (Nat.le_refl _) hb9)
    clear hb9
    obtain ⟨x0, x1, x2, x3⟩ := blk4 X.out.k
    go_wp2_with fail
    refine (HI1.out _).mono ?_
    rintro e v2 ⟨rfl, hb9⟩
    have X := Lib.hid (X.out.next hb9)
    have BB := Lib.hid (below_step BB.out (Nat.le_refl _) hb9)
    clear hb9
    obtain ⟨x0, x1, x2, x3⟩ := blk4 X.out.k
    go_wp2_with fail
    refine (HMK.out _ (HE.out _ BB.out)).mono ?_
    rintro e v3 ⟨rfl, hb9⟩
    have X := Lib.hid (X.out.next hb9)
    have BB := Lib.hid (below_step BB.out (Nat.le_refl _) hb9)
    clear hb9
    have NB := below_new v3 (.cells #[.bool b5, .string m5, .bool false, .string k5] 25)
    have X := Lib.hid (X.out.next NB)
    have B := Lib.hid (Bq.new v3 #[.bool b5, .string m5, .bool false, .string k5] 25)
    have BB := Lib.hid (below_step BB.out (Nat.le_refl _) NB)
    clear NB
    obtain ⟨x0, x1, x2, x3⟩ := blk4 X.out.k
    obtain ⟨b0, b1, b2, b3⟩ := blk4 B.out.k
    go_wp2_with fail
    clear x0 x1 x2 x3 b0 b1 b2 b3
    have X := Lib.hid X.out.drew
    have B := Lib.hid B.out.drew
    have BB := Lib.hid BB.out.drew
    obtain ⟨x0, x1, x2, x3⟩ := blk4 X.out.k
    obtain ⟨b0, b1, b2, b3⟩ := blk4 B.out.k
    simp only [World.cell?_drew] at x0 x1 x2 x3 b0 b1 b2 b3
    refine wp_region_late (S := fun w' => w'.cell? ⟨w.heap.size, 0, none⟩ = some (.bool c0) ∧ w'.cell? ⟨w.heap.size, 1, none⟩ = some (.string t0) ∧ w'.cell? ⟨w.heap.size, 2, none⟩ = some (.bool c1) ∧ w'.cell? ⟨w.heap.size, 3, none⟩ = some (.string t1) ∧ w'.cell? ⟨v3.heap.size, 0, none⟩ = some (.bool b5) ∧ w'.cell? ⟨v3.heap.size, 1, none⟩ = some (.string m5) ∧ w'.cell? ⟨v3.heap.size, 2, none⟩ = some (.bool false) ∧ w'.cell? ⟨v3.heap.size, 3, none⟩ = some (.string k5)) (L := []) (by kernel_rfl) ?_
    refine wpLate_take (i := 0) (oi := ⟨some 95, _, _, _, _, _⟩) (v := ?_) rfl (by kernel_rfl) (by kernel_rfl) (by kernel_rfl) (by kernel_rfl) (by kernel_rfl) (fun _ _ _ h => h) (Or.inl ⟨by rfl, ?_⟩) ⟨(blk4 X.out.k).1, (blk4 X.out.k).2.1, (blk4 X.out.k).2.2.1, (blk4 X.out.k).2.2.2, (blk4 B.out.k).1, (blk4 B.out.k).2.1, (blk4 B.out.k).2.2.1, (blk4 B.out.k).2.2.2⟩ ?_
    rotate_left
    · intro w hSw; (try dsimp only at hSw); (first | (go_simp; done) | (go_simp; with_reducible rfl))
    try simp only [Act.put, List.setIfInBounds_toArray, List.set_cons_zero, List.set_cons_succ]
    refine wpLate_take (i := 1) (oi := ⟨some 96, _, _, _, _, _⟩) (v := ?_) rfl (by kernel_rfl) (by kernel_rfl) (by kernel_rfl) (by kernel_rfl) (by kernel_rfl) (fun _ _ _ h => h) (Or.inl ⟨by rfl, ?_⟩) ⟨(blk4 X.out.k).1, (blk4 X.out.k).2.1, (blk4 X.out.k).2.2.1, (blk4 X.out.k).2.2.2, (blk4 B.out.k).1, (blk4 B.out.k).2.1, (blk4 B.out.k).2.2.1, (blk4 B.out.k).2.2.2⟩ ?_
    rotate_left
    · intro w hSw; (try dsimp only at hSw); (first | (go_simp; done) | (go_simp; with_reducible rfl))
    try simp only [Act.put, List.setIfInBounds_toArray, List.set_cons_zero, List.set_cons_succ]
    refine wpLate_take (i := 2) (oi := ⟨some 97, _, _, _, _, _⟩) (v := ?_) rfl (by kernel_rfl) (by kernel_rfl) (by kernel_rfl) (by kernel_rfl) (by kernel_rfl) (fun _ _ _ h => h) (Or.inl ⟨by rfl, ?_⟩) ⟨(blk4 X.out.k).1, (blk4 X.out.k).2.1, (blk4 X.out.k).2.2.1, (blk4 X.out.k).2.2.2, (blk4 B.out.k).1, (blk4 B.out.k).2.1, (blk4 B.out.k).2.2.1, (blk4 B.out.k).2.2.2⟩ ?_
    rotate_left
    · intro w hSw; (try dsimp only at hSw); (first | (go_simp; done) | (go_simp; with_reducible rfl))
    try simp only [Act.put, List.setIfInBounds_toArray, List.set_cons_zero, List.set_cons_succ]
    refine wpLate_take (i := 3) (oi := ⟨some 98, _, _, _, _, _⟩) (v := ?_) rfl (by kernel_rfl) (by kernel_rfl) (by kernel_rfl) (by kernel_rfl) (by kernel_rfl) (fun _ _ _ h => h) (Or.inl ⟨by rfl, ?_⟩) ⟨(blk4 X.out.k).1, (blk4 X.out.k).2.1, (blk4 X.out.k).2.2.1, (blk4 X.out.k).2.2.2, (blk4 B.out.k).1, (blk4 B.out.k).2.1, (blk4 B.out.k).2.2.1, (blk4 B.out.k).2.2.2⟩ ?_
    rotate_left
    · intro w hSw; (try dsimp only at hSw); (first | (go_simp; done) | (go_simp; with_reducible rfl))
    try simp only [Act.put, List.setIfInBounds_toArray, List.set_cons_zero, List.set_cons_succ]
    refine wpLate_take (i := 4) (oi := ⟨some 99, _, _, _, _, _⟩) (v := ?_) rfl (by kernel_rfl) (by kernel_rfl) (by kernel_rfl) (by kernel_rfl) (by kernel_rfl) (fun _ _ _ h => h) (Or.inl ⟨by rfl, ?_⟩) ⟨(blk4 X.out.k).1, (blk4 X.out.k).2.1, (blk4 X.out.k).2.2.1, (blk4 X.out.k).2.2.2, (blk4 B.out.k).1, (blk4 B.out.k).2.1, (blk4 B.out.k).2.2.1, (blk4 B.out.k).2.2.2⟩ ?_
    rotate_left
    · intro w hSw; (try dsimp only at hSw); (first | (go_simp; done) | (go_simp; with_reducible rfl))
    try simp only [Act.put, List.setIfInBounds_toArray, List.set_cons_zero, List.set_cons_succ]
    refine wpLate_one (i := 5) (o := ⟨some 100, _, _, _, _, _⟩) (by kernel_rfl) rfl (fun K hK => ?_)
    go_simp
    (go_at_call 26; (with_reducible refine (HRM.out _).mono ?_); rintro e v4 ⟨rfl, hb9⟩; have X := Lib.hid (X.out.next hb9); have B := Lib.hid (B.out.next hb9); have BB := Lib.hid (below_step BB.out (Nat.le_refl _) hb9); clear hb9)
    try go_wp2_with fail
    refine hK.out _ _ (Or.inr (fun _ => ⟨(blk4 X.out.k).1, (blk4 X.out.k).2.1, (blk4 X.out.k).2.2.1, (blk4 X.out.k).2.2.2, (blk4 B.out.k).1, (blk4 B.out.k).2.1, (blk4 B.out.k).2.2.1, (blk4 B.out.k).2.2.2⟩)) ?_
    clear hK K
    try simp only [Act.put, List.setIfInBounds_toArray, List.set_cons_zero, List.set_cons_succ]
    refine wpLate_take (i := 6) (oi := ⟨some 101, _, _, _, _, _⟩) (v := ?_) rfl (by kernel_rfl) (by kernel_rfl) (by kernel_rfl) (by kernel_rfl) (by kernel_rfl) (fun _ _ _ h => h) (Or.inl ⟨by rfl, ?_⟩) ⟨(blk4 X.out.k).1, (blk4 X.out.k).2.1, (blk4 X.out.k).2.2.1, (blk4 X.out.k).2.2.2, (blk4 B.out.k).1, (blk4 B.out.k).2.1, (blk4 B.out.k).2.2.1, (blk4 B.out.k).2.2.2⟩ ?_
    rotate_left
    · intro w hSw; (try dsimp only at hSw); (first | (go_simp; done) | (go_simp; with_reducible rfl))
    try simp only [Act.put, List.setIfInBounds_toArray, List.set_cons_zero, List.set_cons_succ]
    refine wpLate_take (i := 7) (oi := ⟨some 102, _, _, _, _, _⟩) (v := ?_) rfl (by kernel_rfl) (by kernel_rfl) (by kernel_rfl) (by kernel_rfl) (by kernel_rfl) (fun _ _ _ h => h) (Or.inl ⟨by rfl, ?_⟩) ⟨(blk4 X.out.k).1, (blk4 X.out.k).2.1, (blk4 X.out.k).2.2.1, (blk4 X.out.k).2.2.2, (blk4 B.out.k).1, (blk4 B.out.k).2.1, (blk4 B.out.k).2.2.1, (blk4 B.out.k).2.2.2⟩ ?_
    rotate_left
    · intro w hSw; (try dsimp only at hSw); (first | (go_simp; done) | (go_simp; with_reducible rfl))
    try simp only [Act.put, List.setIfInBounds_toArray, List.set_cons_zero, List.set_cons_succ]
    refine wpLate_take (i := 8) (oi := ⟨some 103, _, _, _, _, _⟩) (v := ?_) rfl (by kernel_rfl) (by kernel_rfl) (by kernel_rfl) (by kernel_rfl) (by kernel_rfl) (fun _ _ _ h => h) (Or.inl ⟨by rfl, ?_⟩) ⟨(blk4 X.out.k).1, (blk4 X.out.k).2.1, (blk4 X.out.k).2.2.1, (blk4 X.out.k).2.2.2, (blk4 B.out.k).1, (blk4 B.out.k).2.1, (blk4 B.out.k).2.2.1, (blk4 B.out.k).2.2.2⟩ ?_
    rotate_left
    · intro w hSw; (try dsimp only at hSw); (first | (go_simp; done) | (go_simp; with_reducible rfl))
    try simp only [Act.put, List.setIfInBounds_toArray, List.set_cons_zero, List.set_cons_succ]
    refine wpLate_take (i := 9) (oi := ⟨some 104, _, _, _, _, _⟩) (v := ?_) rfl (by kernel_rfl) (by kernel_rfl) (by kernel_rfl) (by kernel_rfl) (by kernel_rfl) (fun _ _ _ h => h) (Or.inl ⟨by rfl, ?_⟩) ⟨(blk4 X.out.k).1, (blk4 X.out.k).2.1, (blk4 X.out.k).2.2.1, (blk4 X.out.k).2.2.2, (blk4 B.out.k).1, (blk4 B.out.k).2.1, (blk4 B.out.k).2.2.1, (blk4 B.out.k).2.2.2⟩ ?_
    rotate_left
    · intro w hSw; (try dsimp only at hSw); (first | (go_simp; done) | (go_simp; with_reducible rfl))
    try simp only [Act.put, List.setIfInBounds_toArray, List.set_cons_zero, List.set_cons_succ]
    refine wpLate_take (i := 10) (oi := ⟨some 105, _, _, _, _, _⟩) (v := ?_) rfl (by kernel_rfl) (by kernel_rfl) (by kernel_rfl) (by kernel_rfl) (by kernel_rfl) (fun _ _ _ h => h) (Or.inl ⟨by rfl, ?_⟩) ⟨(blk4 X.out.k).1, (blk4 X.out.k).2.1, (blk4 X.out.k).2.2.1, (blk4 X.out.k).2.2.2, (blk4 B.out.k).1, (blk4 B.out.k).2.1, (blk4 B.out.k).2.2.1, (blk4 B.out.k).2.2.2⟩ ?_
    rotate_left
    · intro w hSw; (try dsimp only at hSw); (first | (go_simp; done) | (go_simp; with_reducible rfl))
    try simp only [Act.put, List.setIfInBounds_toArray, List.set_cons_zero, List.set_cons_succ]
    refine wpLate_take (i := 11) (oi := ⟨some 6, _, _, _, _, _⟩) (v := ?_) rfl (by kernel_rfl) (by kernel_rfl) (by kernel_rfl) (by kernel_rfl) (by kernel_rfl) (fun _ _ _ h => h) (Or.inl ⟨by rfl, ?_⟩) ⟨(blk4 X.out.k).1, (blk4 X.out.k).2.1, (blk4 X.out.k).2.2.1, (blk4 X.out.k).2.2.2, (blk4 B.out.k).1, (blk4 B.out.k).2.1, (blk4 B.out.k).2.2.1, (blk4 B.out.k).2.2.2⟩ ?_
    rotate_left
    · intro w hSw; (try dsimp only at hSw); (first | (go_simp; done) | (go_simp; with_reducible rfl))
    try simp only [Act.put, List.setIfInBounds_toArray, List.set_cons_zero, List.set_cons_succ]
    refine wpLate_done (by kernel_rfl) ?_ _
    go_wp2
    go_ret
    exact ⟨rfl, BB.out⟩
  obtain ⟨b3, m3, k3, hq3⟩ := Rq.some_ (Rat.divInt num den)
  have HFI := Lib.hid (fun V (hV : Env V) => fromInts_f hq3 hd x1 x2 y1 y2 V hV)
  have HOF := Lib.hid (fun V => rOf_f hq3 hd x1 x2 y1 y2 V)
  have hd' : (den == 0) = false := by simpa using hd
  have hd2 : (den != 0) = true := by simp [hd]
  clear x1 x2 y1 y2 hq3
  go_enter Tryz.func4, Tryz.ntmps4
  go_wp2_with fail
  refine (HKN.out _ (HE.out _ BB.out)).mono ?_
  rintro e w1 ⟨rfl, hb9⟩
  have X := Lib.hid (X.out.next hb9)
  have BB := Lib.hid (below_step BB.out (Nat.le_refl _) hb9)
  clear hb9
  go_wp2_with fail
  refine (HFI.out _ (HE.out _ BB.out)).mono ?_
  rintro e w2 ⟨rfl, hb9⟩
  have X := Lib.hid (X.out.next hb9)
  have BB := Lib.hid (below_step BB.out (Nat.le_refl _) hb9)
  clear hb9
  have NB := below_new w2 (.cells #[.bool b3, .string m3, .bool false, .string k3] 25)
  have X := Lib.hid (X.out.next NB)
  have A := Lib.hid (Bq.new w2 #[.bool b3, .string m3, .bool false, .string k3] 25)
  have BB := Lib.hid (below_step BB.out (Nat.le_refl _) NB)
  clear NB
  obtain ⟨a0, a1, a2, a3⟩ := blk4 A.out.k
  go_wp2_with fail
  clear a0 a1 a2 a3
  have X := Lib.hid X.out.drew
  have A := Lib.hid A.out.drew
  have BB := Lib.hid BB.out.drew
  obtain ⟨a0, a1, a2, a3⟩ := blk4 A.out.k
  simp only [World.cell?_drew] at a0 a1 a2 a3
  refine wp_region_late (S := fun w' => w'.cell? ⟨w2.heap.size, 0, none⟩ = some (.bool b3) ∧ w'.cell? ⟨w2.heap.size, 1, none⟩ = some (.string m3) ∧ w'.cell? ⟨w2.heap.size, 2, none⟩ = some (.bool false) ∧ w'.cell? ⟨w2.heap.size, 3, none⟩ = some (.string k3)) (L := []) (by kernel_rfl) ?_
  refine wpLate_take (i := 0) (oi := ⟨some 19, _, _, _, _, _⟩) (v := ?_) rfl (by kernel_rfl) (by kernel_rfl) (by kernel_rfl) (by kernel_rfl) (by kernel_rfl) (fun _ _ _ h => h) (Or.inl ⟨by rfl, ?_⟩) ⟨(blk4 A.out.k).1, (blk4 A.out.k).2.1, (blk4 A.out.k).2.2.1, (blk4 A.out.k).2.2.2⟩ ?_
  rotate_left
  · intro w hSw; (try dsimp only at hSw); (first | (go_simp; done) | (go_simp; with_reducible rfl))
  try simp only [Act.put, List.setIfInBounds_toArray, List.set_cons_zero, List.set_cons_succ]
  refine wpLate_take (i := 1) (oi := ⟨some 20, _, _, _, _, _⟩) (v := ?_) rfl (by kernel_rfl) (by kernel_rfl) (by kernel_rfl) (by kernel_rfl) (by kernel_rfl) (fun _ _ _ h => h) (Or.inl ⟨by rfl, ?_⟩) ⟨(blk4 A.out.k).1, (blk4 A.out.k).2.1, (blk4 A.out.k).2.2.1, (blk4 A.out.k).2.2.2⟩ ?_
  rotate_left
  · intro w hSw; (try dsimp only at hSw); (first | (go_simp; done) | (go_simp; with_reducible rfl))
  try simp only [Act.put, List.setIfInBounds_toArray, List.set_cons_zero, List.set_cons_succ]
  refine wpLate_take (i := 2) (oi := ⟨some 21, _, _, _, _, _⟩) (v := ?_) rfl (by kernel_rfl) (by kernel_rfl) (by kernel_rfl) (by kernel_rfl) (by kernel_rfl) (fun _ _ _ h => h) (Or.inl ⟨by rfl, ?_⟩) ⟨(blk4 A.out.k).1, (blk4 A.out.k).2.1, (blk4 A.out.k).2.2.1, (blk4 A.out.k).2.2.2⟩ ?_
  rotate_left
  · intro w hSw; (try dsimp only at hSw); (first | (go_simp; done) | (go_simp; with_reducible rfl))
  try simp only [Act.put, List.setIfInBounds_toArray, List.set_cons_zero, List.set_cons_succ]
  refine wpLate_take (i := 3) (oi := ⟨some 22, _, _, _, _, _⟩) (v := undef) rfl (by kernel_rfl) (by kernel_rfl) (by kernel_rfl) (by kernel_rfl) (by kernel_rfl) (fun _ _ _ h => h) (Or.inr ⟨by rfl, rfl⟩) ⟨(blk4 A.out.k).1, (blk4 A.out.k).2.1, (blk4 A.out.k).2.2.1, (blk4 A.out.k).2.2.2⟩ ?_
  try simp only [Act.put, List.setIfInBounds_toArray, List.set_cons_zero, List.set_cons_succ]
  refine wpLate_take (i := 4) (oi := ⟨some 23, _, _, _, _, _⟩) (v := undef) rfl (by kernel_rfl) (by kernel_rfl) (by kernel_rfl) (by kernel_rfl) (by kernel_rfl) (fun _ _ _ h => h) (Or.inr ⟨by rfl, rfl⟩) ⟨(blk4 A.out.k).1, (blk4 A.out.k).2.1, (blk4 A.out.k).2.2.1, (blk4 A.out.k).2.2.2⟩ ?_
  try simp only [Act.put, List.setIfInBounds_toArray, List.set_cons_zero, List.set_cons_succ]
  refine wpLate_take (i := 5) (oi := ⟨some 24, _, _, _, _, _⟩) (v := undef) rfl (by kernel_rfl) (by kernel_rfl) (by kernel_rfl) (by kernel_rfl) (by kernel_rfl) (fun _ _ _ h => h) (Or.inr ⟨by rfl, rfl⟩) ⟨(blk4 A.out.k).1, (blk4 A.out.k).2.1, (blk4 A.out.k).2.2.1, (blk4 A.out.k).2.2.2⟩ ?_
  try simp only [Act.put, List.setIfInBounds_toArray, List.set_cons_zero, List.set_cons_succ]
  refine wpLate_take (i := 6) (oi := ⟨some 25, _, _, _, _, _⟩) (v := undef) rfl (by kernel_rfl) (by kernel_rfl) (by kernel_rfl) (by kernel_rfl) (by kernel_rfl) (fun _ _ _ h => h) (Or.inr ⟨by rfl, rfl⟩) ⟨(blk4 A.out.k).1, (blk4 A.out.k).2.1, (blk4 A.out.k).2.2.1, (blk4 A.out.k).2.2.2⟩ ?_
  try simp only [Act.put, List.setIfInBounds_toArray, List.set_cons_zero, List.set_cons_succ]
  refine wpLate_take (i := 7) (oi := ⟨some 26, _, _, _, _, _⟩) (v := undef) rfl (by kernel_rfl) (by kernel_rfl) (by kernel_rfl) (by kernel_rfl) (by kernel_rfl) (fun _ _ _ h => h) (Or.inr ⟨by rfl, rfl⟩) ⟨(blk4 A.out.k).1, (blk4 A.out.k).2.1, (blk4 A.out.k).2.2.1, (blk4 A.out.k).2.2.2⟩ ?_
  try simp only [Act.put, List.setIfInBounds_toArray, List.set_cons_zero, List.set_cons_succ]
  refine wpLate_take (i := 8) (oi := ⟨some 27, _, _, _, _, _⟩) (v := undef) rfl (by kernel_rfl) (by kernel_rfl) (by kernel_rfl) (by kernel_rfl) (by kernel_rfl) (fun _ _ _ h => h) (Or.inr ⟨by rfl, rfl⟩) ⟨(blk4 A.out.k).1, (blk4 A.out.k).2.1, (blk4 A.out.k).2.2.1, (blk4 A.out.k).2.2.2⟩ ?_
  try simp only [Act.put, List.setIfInBounds_toArray, List.set_cons_zero, List.set_cons_succ]
  refine wpLate_take (i := 9) (oi := ⟨some 28, _, _, _, _, _⟩) (v := undef) rfl (by kernel_rfl) (by kernel_rfl) (by kernel_rfl) (by kernel_rfl) (by kernel_rfl) (fun _ _ _ h => h) (Or.inr ⟨by rfl, rfl⟩) ⟨(blk4 A.out.k).1, (blk4 A.out.k).2.1, (blk4 A.out.k).2.2.1, (blk4 A.out.k).2.2.2⟩ ?_
  try simp only [Act.put, List.setIfInBounds_toArray, List.set_cons_zero, List.set_cons_succ]
  refine wpLate_take (i := 10) (oi := ⟨some 29, _, _, _, _, _⟩) (v := ?_) rfl (by kernel_rfl) (by kernel_rfl) (by kernel_rfl) (by kernel_rfl) (by kernel_rfl) (fun _ _ _ h => h) (Or.inl ⟨by rfl, ?_⟩) ⟨(blk4 A.out.k).1, (blk4 A.out.k).2.1, (blk4 A.out.k).2.2.1, (blk4 A.out.k).2.2.2⟩ ?_
  rotate_left
  · intro w hSw; (try dsimp only at hSw); (first | (go_simp; done) | (go_simp; with_reducible rfl))
  try simp only [Act.put, List.setIfInBounds_toArray, List.set_cons_zero, List.set_cons_succ]
  refine wpLate_take (i := 11) (oi := ⟨some 30, _, _, _, _, _⟩) (v := ?_) rfl (by kernel_rfl) (by kernel_rfl) (by kernel_rfl) (by kernel_rfl) (by kernel_rfl) (fun _ _ _ h => h) (Or.inl ⟨by rfl, ?_⟩) ⟨(blk4 A.out.k).1, (blk4 A.out.k).2.1, (blk4 A.out.k).2.2.1, (blk4 A.out.k).2.2.2⟩ ?_
  rotate_left
  · intro w hSw; (try dsimp only at hSw); (first | (go_simp; done) | (go_simp; with_reducible rfl))
  try simp only [Act.put, List.setIfInBounds_toArray, List.set_cons_zero, List.set_cons_succ]
  refine wpLate_take (i := 12) (oi := ⟨some 31, _, _, _, _, _⟩) (v := ?_) rfl (by kernel_rfl) (by kernel_rfl) (by kernel_rfl) (by kernel_rfl) (by kernel_rfl) (fun _ _ _ h => h) (Or.inl ⟨by rfl, ?_⟩) ⟨(blk4 A.out.k).1, (blk4 A.out.k).2.1, (blk4 A.out.k).2.2.1, (blk4 A.out.k).2.2.2⟩ ?_
  rotate_left
  · intro w hSw; (try dsimp only at hSw); (first | (go_simp; done) | (go_simp; with_reducible rfl))
  try simp only [Act.put, List.setIfInBounds_toArray, List.set_cons_zero, List.set_cons_succ]
  refine wpLate_take (i := 13) (oi := ⟨some 32, _, _, _, _, _⟩) (v := ?_) rfl (by kernel_rfl) (by kernel_rfl) (by kernel_rfl) (by kernel_rfl) (by kernel_rfl) (fun _ _ _ h => h) (Or.inl ⟨by rfl, ?_⟩) ⟨(blk4 A.out.k).1, (blk4 A.out.k).2.1, (blk4 A.out.k).2.2.1, (blk4 A.out.k).2.2.2⟩ ?_
  rotate_left
  · intro w hSw; (try dsimp only at hSw); (first | (go_simp; done) | (go_simp; with_reducible rfl))
  try simp only [Act.put, List.setIfInBounds_toArray, List.set_cons_zero, List.set_cons_succ]
  refine wpLate_take (i := 14) (oi := ⟨some 33, _, _, _, _, _⟩) (v := ?_) rfl (by kernel_rfl) (by kernel_rfl) (by kernel_rfl) (by kernel_rfl) (by kernel_rfl) (fun _ _ _ h => h) (Or.inl ⟨by rfl, ?_⟩) ⟨(blk4 A.out.k).1, (blk4 A.out.k).2.1, (blk4 A.out.k).2.2.1, (blk4 A.out.k).2.2.2⟩ ?_
  rotate_left
  · intro w hSw; (try dsimp only at hSw); (first | (go_simp; done) | (go_simp; with_reducible rfl))
  try simp only [Act.put, List.setIfInBounds_toArray, List.set_cons_zero, List.set_cons_succ]
  refine wpLate_take (i := 15) (oi := ⟨some 34, _, _, _, _, _⟩) (v := ?_) rfl (by kernel_rfl) (by kernel_rfl) (by kernel_rfl) (by kernel_rfl) (by kernel_rfl) (fun _ _ _ h => h) (Or.inl ⟨by rfl, ?_⟩) ⟨(blk4 A.out.k).1, (blk4 A.out.k).2.1, (blk4 A.out.k).2.2.1, (blk4 A.out.k).2.2.2⟩ ?_
  rotate_left
  · intro w hSw; (try dsimp only at hSw); (first | (go_simp; done) | (go_simp; with_reducible rfl))
  try simp only [Act.put, List.setIfInBounds_toArray, List.set_cons_zero, List.set_cons_succ]
  refine wpLate_take (i := 16) (oi := ⟨some 35, _, _, _, _, _⟩) (v := ?_) rfl (by kernel_rfl) (by kernel_rfl) (by kernel_rfl) (by kernel_rfl) (by kernel_rfl) (fun _ _ _ h => h) (Or.inl ⟨by rfl, ?_⟩) ⟨(blk4 A.out.k).1, (blk4 A.out.k).2.1, (blk4 A.out.k).2.2.1, (blk4 A.out.k).2.2.2⟩ ?_
  rotate_left
  · intro w hSw; (try dsimp only at hSw); (first | (go_simp; done) | (go_simp; with_reducible rfl))
  try simp only [Act.put, List.setIfInBounds_toArray, List.set_cons_zero, List.set_cons_succ]
  refine wpLate_take (i := 17) (oi := ⟨some 36, _, _, _, _, _⟩) (v := ?_) rfl (by kernel_rfl) (by kernel_rfl) (by kernel_rfl) (by kernel_rfl) (by kernel_rfl) (fun _ _ _ h => h) (Or.inl ⟨by rfl, ?_⟩) ⟨(blk4 A.out.k).1, (blk4 A.out.k).2.1, (blk4 A.out.k).2.2.1, (blk4 A.out.k).2.2.2⟩ ?_
  rotate_left
  · intro w hSw; (try dsimp only at hSw); (first | (go_simp; done) | (go_simp; with_reducible rfl))
  try simp only [Act.put, List.setIfInBounds_toArray, List.set_cons_zero, List.set_cons_succ]
  refine wpLate_one (i := 18) (o := ⟨some 37, _, _, _, _, _⟩) (by kernel_rfl) rfl (fun K hK => ?_)
  go_simp
  (go_at_call 23; (with_reducible refine (HOF.out _).mono ?_); rintro e w3 ⟨rfl, hb9⟩; have X := Lib.hid (X.out.next hb9); have A := Lib.hid (A.out.next hb9); have BB := Lib.hid (below_step BB.out (Nat.le_refl _) hb9); clear hb9)
  try go_wp2_with fail
  refine hK.out _ _ (Or.inr (fun _ => ⟨(blk4 A.out.k).1, (blk4 A.out.k).2.1, (blk4 A.out.k).2.2.1, (blk4 A.out.k).2.2.2⟩)) ?_
  clear hK K
  try simp only [Act.put, List.setIfInBounds_toArray, List.set_cons_zero, List.set_cons_succ]
  refine wpLate_take (i := 19) (oi := ⟨some 38, _, _, _, _, _⟩) (v := ?_) rfl (by kernel_rfl) (by kernel_rfl) (by kernel_rfl) (by kernel_rfl) (by kernel_rfl) (fun _ _ _ h => h) (Or.inl ⟨by rfl, ?_⟩) ⟨(blk4 A.out.k).1, (blk4 A.out.k).2.1, (blk4 A.out.k).2.2.1, (blk4 A.out.k).2.2.2⟩ ?_
  rotate_left
  · intro w hSw; (try dsimp only at hSw); (first | (go_simp; done) | (go_simp; with_reducible rfl))
  try simp only [Act.put, List.setIfInBounds_toArray, List.set_cons_zero, List.set_cons_succ]
  refine wpLate_take (i := 20) (oi := ⟨some 39, _, _, _, _, _⟩) (v := ?_) rfl (by kernel_rfl) (by kernel_rfl) (by kernel_rfl) (by kernel_rfl) (by kernel_rfl) (fun _ _ _ h => h) (Or.inl ⟨by rfl, ?_⟩) ⟨(blk4 A.out.k).1, (blk4 A.out.k).2.1, (blk4 A.out.k).2.2.1, (blk4 A.out.k).2.2.2⟩ ?_
  rotate_left
  · intro w hSw; (try dsimp only at hSw); (first | (go_simp; done) | (go_simp; with_reducible rfl))
  try simp only [Act.put, List.setIfInBounds_toArray, List.set_cons_zero, List.set_cons_succ]
  refine wpLate_take (i := 21) (oi := ⟨some 40, _, _, _, _, _⟩) (v := ?_) rfl (by kernel_rfl) (by kernel_rfl) (by kernel_rfl) (by kernel_rfl) (by kernel_rfl) (fun _ _ _ h => h) (Or.inl ⟨by rfl, ?_⟩) ⟨(blk4 A.out.k).1, (blk4 A.out.k).2.1, (blk4 A.out.k).2.2.1, (blk4 A.out.k).2.2.2⟩ ?_
  rotate_left
  · intro w hSw; (try dsimp only at hSw); (first | (go_simp; done) | (go_simp; with_reducible rfl))
  try simp only [Act.put, List.setIfInBounds_toArray, List.set_cons_zero, List.set_cons_succ]
  refine wpLate_take (i := 22) (oi := ⟨some 41, _, _, _, _, _⟩) (v := ?_) rfl (by kernel_rfl) (by kernel_rfl) (by kernel_rfl) (by kernel_rfl) (by kernel_rfl) (fun _ _ _ h => h) (Or.inl ⟨by rfl, ?_⟩) ⟨(blk4 A.out.k).1, (blk4 A.out.k).2.1, (blk4 A.out.k).2.2.1, (blk4 A.out.k).2.2.2⟩ ?_
  rotate_left
  · intro w hSw; (try dsimp only at hSw); (first | (go_simp; done) | (go_simp; with_reducible rfl))
  try simp only [Act.put, List.setIfInBounds_toArray, List.set_cons_zero, List.set_cons_succ]
  refine wpLate_take (i := 23) (oi := ⟨some 42, _, _, _, _, _⟩) (v := ?_) rfl (by kernel_rfl) (by kernel_rfl) (by kernel_rfl) (by kernel_rfl) (by kernel_rfl) (fun _ _ _ h => h) (Or.inl ⟨by rfl, ?_⟩) ⟨(blk4 A.out.k).1, (blk4 A.out.k).2.1, (blk4 A.out.k).2.2.1, (blk4 A.out.k).2.2.2⟩ ?_
  rotate_left
  · intro w hSw; (try dsimp only at hSw); (first | (go_simp; done) | (go_simp; with_reducible rfl))
  try simp only [Act.put, List.setIfInBounds_toArray, List.set_cons_zero, List.set_cons_succ]
  refine wpLate_take (i := 24) (oi := ⟨some 43, _, _, _, _, _⟩) (v := ?_) rfl (by kernel_rfl) (by kernel_rfl) (by kernel_rfl) (by kernel_rfl) (by kernel_rfl) (fun _ _ _ h => h) (Or.inl ⟨by rfl, ?_⟩) ⟨(blk4 A.out.k).1, (blk4 A.out.k).2.1, (blk4 A.out.k).2.2.1, (blk4 A.out.k).2.2.2⟩ ?_
  rotate_left
  · intro w hSw; (try dsimp only at hSw); (first | (go_simp; done) | (go_simp; with_reducible rfl))
  try simp only [Act.put, List.setIfInBounds_toArray, List.set_cons_zero, List.set_cons_succ]
  refine wpLate_take (i := 25) (oi := ⟨some 44, _, _, _, _, _⟩) (v := ?_) rfl (by kernel_rfl) (by kernel_rfl) (by kernel_rfl) (by kernel_rfl) (by kernel_rfl) (fun _ _ _ h => h) (Or.inl ⟨by rfl, ?_⟩) ⟨(blk4 A.out.k).1, (blk4 A.out.k).2.1, (blk4 A.out.k).2.2.1, (blk4 A.out.k).2.2.2⟩ ?_
  rotate_left
  · intro w hSw; (try dsimp only at hSw); (first | (go_simp; done) | (go_simp; with_reducible rfl))
  try simp only [Act.put, List.setIfInBounds_toArray, List.set_cons_zero, List.set_cons_succ]
  refine wpLate_take (i := 26) (oi := ⟨some 45, _, _, _, _, _⟩) (v := ?_) rfl (by kernel_rfl) (by kernel_rfl) (by kernel_rfl) (by kernel_rfl) (by kernel_rfl) (fun _ _ _ h => h) (Or.inl ⟨by rfl, ?_⟩) ⟨(blk4 A.out.k).1, (blk4 A.out.k).2.1, (blk4 A.out.k).2.2.1, (blk4 A.out.k).2.2.2⟩ ?_
  rotate_left
  · intro w hSw; (try dsimp only at hSw); (first | (go_simp; done) | (go_simp; with_reducible rfl))
  try simp only [Act.put, List.setIfInBounds_toArray, List.set_cons_zero, List.set_cons_succ]
  refine wpLate_take (i := 27) (oi := ⟨some 46, _, _, _, _, _⟩) (v := ?_) rfl (by kernel_rfl) (by kernel_rfl) (by kernel_rfl) (by kernel_rfl) (by kernel_rfl) (fun _ _ _ h => h) (Or.inl ⟨by rfl, ?_⟩) ⟨(blk4 A.out.k).1, (blk4 A.out.k).2.1, (blk4 A.out.k).2.2.1, (blk4 A.out.k).2.2.2⟩ ?_
  rotate_left
  · intro w hSw; (try dsimp only at hSw); (first | (go_simp; done) | (go_simp; with_reducible rfl))
  try simp only [Act.put, List.setIfInBounds_toArray, List.set_cons_zero, List.set_cons_succ]
  refine wpLate_take (i := 29) (oi := ⟨some 48, _, _, _, _, _⟩) (v := ?_) rfl (by kernel_rfl) (by kernel_rfl) (by kernel_rfl) (by kernel_rfl) (by kernel_rfl) (fun _ _ _ h => h) (Or.inl ⟨by rfl, ?_⟩) ⟨(blk4 A.out.k).1, (blk4 A.out.k).2.1, (blk4 A.out.k).2.2.1, (blk4 A.out.k).2.2.2⟩ ?_
  rotate_left
  · intro w hSw; (try dsimp only at hSw); (first | (go_simp; done) | (go_simp; with_reducible rfl))
  try simp only [Act.put, List.setIfInBounds_toArray, List.set_cons_zero, List.set_cons_succ]
  refine wpLate_one (i := 28) (o := ⟨some 47, _, _, _, _, _⟩) (by kernel_rfl) rfl (fun K hK => ?_)
  go_simp
  (go_at_call 24; (with_reducible refine (HF1.out _).mono ?_); rintro e w4 ⟨rfl, hb9⟩; have X := Lib.hid (X.out.next hb9); have A := Lib.hid (A.out.next hb9); have BB := Lib.hid (below_step BB.out (Nat.le_refl _) hb9); clear hb9)
  try go_wp2_with fail
  refine hK.out _ _ (Or.inr (fun _ => ⟨(blk4 A.out.k).1, (blk4 A.out.k).2.1, (blk4 A.out.k).2.2.1, (blk4 A.out.k).2.2.2⟩)) ?_
  clear hK K
  try simp only [Act.put, List.setIfInBounds_toArray, List.set_cons_zero, List.set_cons_succ]
  refine wpLate_one (i := 30) (o := ⟨some 49, _, _, _, _, _⟩) (by kernel_rfl) rfl (fun K hK => ?_)
  go_simp
  (go_at_call 23; (with_reducible refine (HO1.out _).mono ?_); rintro e w5 ⟨rfl, hb9⟩; have X := Lib.hid (X.out.next hb9); have A := Lib.hid (A.out.next hb9); have BB := Lib.hid (below_step BB.out (Nat.le_refl _) hb9); clear hb9)
  try go_wp2_with fail
  refine hK.out _ _ (Or.inr (fun _ => ⟨(blk4 A.out.k).1, (blk4 A.out.k).2.1, (blk4 A.out.k).2.2.1, (blk4 A.out.k).2.2.2⟩)) ?_
  clear hK K
  try simp only [Act.put, List.setIfInBounds_toArray, List.set_cons_zero, List.set_cons_succ]
  refine wpLate_take (i := 31) (oi := ⟨some 50, _, _, _, _, _⟩) (v := ?_) rfl (by kernel_rfl) (by kernel_rfl) (by kernel_rfl) (by kernel_rfl) (by kernel_rfl) (fun _ _ _ h => h) (Or.inl ⟨by rfl, ?_⟩) ⟨(blk4 A.out.k).1, (blk4 A.out.k).2.1, (blk4 A.out.k).2.2.1, (blk4 A.out.k).2.2.2⟩ ?_
  rotate_left
  · intro w hSw; (try dsimp only at hSw); (first | (go_simp; done) | (go_simp; with_reducible rfl))
  try simp only [Act.put, List.setIfInBounds_toArray, List.set_cons_zero, List.set_cons_succ]
  refine wpLate_take (i := 32) (oi := ⟨some 51, _, _, _, _, _⟩) (v := ?_) rfl (by kernel_rfl) (by kernel_rfl) (by kernel_rfl) (by kernel_rfl) (by kernel_rfl) (fun _ _ _ h => h) (Or.inl ⟨by rfl, ?_⟩) ⟨(blk4 A.out.k).1, (blk4 A.out.k).2.1, (blk4 A.out.k).2.2.1, (blk4 A.out.k).2.2.2⟩ ?_
  rotate_left
  · intro w hSw; (try dsimp only at hSw); (first | (go_simp; done) | (go_simp; with_reducible rfl))
  try simp only [Act.put, List.setIfInBounds_toArray, List.set_cons_zero, List.set_cons_succ]
  refine wpLate_done (by kernel_rfl) ?_ _
  clear a0 a1 a2 a3
  clear hd hd' hd2
  have HI0 := Lib.hid (fun V => isInt_any c0 t0 V)
  have HI1 := Lib.hid (fun V => isInt_any c1 t1 V)
  obtain ⟨x0, x1, x2, x3⟩ := blk4 X.out.k
  cases hc0 : canonB c0 t0
  case false =>
    rw [hc0] at HI0
    go_wp2_with fail
    refine (HI0.out _).mono ?_
    rintro e v1 ⟨rfl, hb9⟩
    have X := Lib.hid (X.out.next hb9)
    have BB := Lib.hid (below_step BB.out (Nat.le_refl _) hb9)
    clear hb9
    go_wp2
    go_ret
    exact ⟨rfl, BB.out⟩
  rw [hc0] at HI0
  cases hc1 : canonB c1 t1
  case false =>
    rw [hc1] at HI1
    go_wp2_with fail
    refine (HI0.out _).mono ?_
    rintro e v1 ⟨rfl, hb9⟩
    have X := Lib.hid (X.out.next hb9)
    have BB := Lib.hid (below_step BB.out (Nat.le_refl _) hb9)
    clear hb9
    obtain ⟨x0, x1, x2, x3⟩ := blk4 X.out.k
    go_wp2_with fail
    refine (HI1.out _).mono ?_
    rintro e v2 ⟨rfl, hb9⟩
    have X := Lib.hid (X.out.next hb9)
    have BB := Lib.hid (below_step BB.out (Nat.le_refl _) hb9)
    clear hb9
    obtain ⟨x0, x1, x2, x3⟩ := blk4 X.out.k
    go_wp2
    go_ret
    exact ⟨rfl, BB.out⟩
  rw [hc1] at HI1
  obtain ⟨x, hx⟩ := canon_form hc0
  obtain ⟨y, hy⟩ := canon_form hc1
  by_cases hs0 : 40 < t0.size
  · go_wp2_with fail
    refine (HI0.out _).mono ?_
    rintro e v1 ⟨rfl, hb9⟩
    have X := Lib.hid (X.out.next hb9)
    have BB := Lib.hid (below_step BB.out (Nat.le_refl _) hb9)
    clear hb9
    obtain ⟨x0, x1, x2, x3⟩ := blk4 X.out.k
    go_wp2_with fail
    refine (HI1.out _).mono ?_
    rintro e v2 ⟨rfl, hb9⟩
    have X := Lib.hid (X.out.next hb9)
    have BB := Lib.hid (below_step BB.out (Nat.le_refl _) hb9)
    clear hb9
    obtain ⟨x0, x1, x2, x3⟩ := blk4 X.out.k
    go_wp2
    go_ret
    exact ⟨rfl, BB.out⟩
  by_cases hs1 : 40 < t1.size
  · go_wp2_with fail
    refine (HI0.out _).mono ?_
    rintro e v1 ⟨rfl, hb9⟩
    have X := Lib.hid (X.out.next hb9)
    have BB := Lib.hid (below_step BB.out (Nat.le_refl _) hb9)
    clear hb9
    obtain ⟨x0, x1, x2, x3⟩ := blk4 X.out.k
    go_wp2_with fail
    refine (HI1.out _).mono ?_
    rintro e v2 ⟨rfl, hb9⟩
    have X := Lib.hid (X.out.next hb9)
    have BB := Lib.hid (below_step BB.out (Nat.le_refl _) hb9)
    clear hb9
    obtain ⟨x0, x1, x2, x3⟩ := blk4 X.out.k
    go_wp2
    go_ret
    exact ⟨rfl, BB.out⟩
  by_cases hy0 : y = 0
  · have h1 : c1 = false ∧ t1 = ⟨#[]⟩ := by
      have h := (hy0 ▸ hy).symm.trans enc_nought
      injection h with h
      simpa using h
    have hmk := fun V => make_zero c0 false t0 enc_nought V
    rw [← h1.2, ← h1.1] at hmk
    have HMK := Lib.hid (fun V => (hmk V).mono (fun e w' h => (by rw [h1.1, h1.2] at h; exact h : RetB V (.tuple #[.agg #[.bool false, .string ⟨#[]⟩, .bool false, .string ⟨#[]⟩], .int .i64 6]) e w')))
    have hnil : t1.toList = [] := by rw [h1.2, ByteArray.toList_eq]
    have hemp : t1.toList.isEmpty = true := by rw [hnil]; rfl
    clear hc0 hc1 hx hy hy0 h1 hmk
    go_wp2_with fail
    refine (HI0.out _).mono ?_
    rintro e v1 ⟨rfl, hb9⟩
    have X := Lib.hid (X.out.next hb9)
    have BB := Lib.hid (below_step BB.out (Nat.le_refl _) hb9)
    clear hb9
    obtain ⟨x0, x1, x2, x3⟩ := blk4 X.out.k
    go_wp2_with fail
    refine (HI1.out _).mono ?_
    rintro e v2 ⟨rfl, hb9⟩
    have X := Lib.hid (X.out.next hb9)
    have BB := Lib.hid (below_step BB.out (Nat.le_refl _) hb9)
    clear hb9
    obtain ⟨x0, x1, x2, x3⟩ := blk4 X.out.k
    go_wp2_with fail
    refine (HMK.out _).mono ?_
    rintro e v3 ⟨rfl, hb9⟩
    have X := Lib.hid (X.out.next hb9)
    have BB := Lib.hid (below_step BB.out (Nat.le_refl _) hb9)
    clear hb9
    have NB := below_new v3 (.cells #[.bool false, .string ⟨#[]⟩, .bool false, .string ⟨#[]⟩] 25)
    have X := Lib.hid (X.out.next NB)
    have B := Lib.hid (Bq.new v3 #[.bool false, .string ⟨#[]⟩, .bool false, .string ⟨#[]⟩] 25)
    have BB := Lib.hid (below_step BB.out (Nat.le_refl _) NB)
    clear NB
    obtain ⟨x0, x1, x2, x3⟩ := blk4 X.out.k
    obtain ⟨b0, b1, b2, b3⟩ := blk4 B.out.k
    go_wp2
    go_ret
    exact ⟨rfl, BB.out⟩
  have hne := toList_ne (l := []) (show t1 ≠ ⟨#[]⟩ from by
    rw [(enc_parts hy).2]
    exact mag_no_nil (by omega))
  have hemp : t1.toList.isEmpty = false := by rw [List.isEmpty_eq_false_iff]; exact hne
  obtain ⟨b5, m5, k5, hq5⟩ := Rq.some_ (Rat.divInt x y)
  have HMK := Lib.hid (fun V (hV : Env V) => make_f hx hy hq5 hy0 (by omega) (by omega) V hV)
  have HRM := Lib.hid (fun V => rmake_f hx hy hq5 hy0 (by omega) (by omega) V)
  clear hc0 hc1 hx hy hy0 hq5
  go_wp2_with fail
  refine (HI0.out _).mono ?_
  rintro e v1 ⟨rfl, hb9⟩
  have X := Lib.hid (X.out.next hb9)
  have BB := Lib.hid (below_step BB.out (Nat.le_refl _) hb9)
  clear hb9
  obtain ⟨x0, x1, x2, x3⟩ := blk4 X.out.k
  go_wp2_with fail
  refine (HI1.out _).mono ?_
  rintro e v2 ⟨rfl, hb9⟩
  have X := Lib.hid (X.out.next hb9)
  have BB := Lib.hid (below_step BB.out (Nat.le_refl _) hb9)
  clear hb9
  obtain ⟨x0, x1, x2, x3⟩ := blk4 X.out.k
  go_wp2_with fail
  refine (HMK.out _ (HE.out _ BB.out)).mono ?_
  rintro e v3 ⟨rfl, hb9⟩
  have X := Lib.hid (X.out.next hb9)
  have BB := Lib.hid (below_step BB.out (Nat.le_refl _) hb9)
  clear hb9
  have NB := below_new v3 (.cells #[.bool b5, .string m5, .bool false, .string k5] 25)
  have X := Lib.hid (X.out.next NB)
  have B := Lib.hid (Bq.new v3 #[.bool b5, .string m5, .bool false, .string k5] 25)
  have BB := Lib.hid (below_step BB.out (Nat.le_refl _) NB)
  clear NB
  obtain ⟨x0, x1, x2, x3⟩ := blk4 X.out.k
  obtain ⟨b0, b1, b2, b3⟩ := blk4 B.out.k
  go_wp2_with fail
  clear x0 x1 x2 x3 b0 b1 b2 b3
  have X := Lib.hid X.out.drew
  have B := Lib.hid B.out.drew
  have BB := Lib.hid BB.out.drew
  obtain ⟨x0, x1, x2, x3⟩ := blk4 X.out.k
  obtain ⟨b0, b1, b2, b3⟩ := blk4 B.out.k
  simp only [World.cell?_drew] at x0 x1 x2 x3 b0 b1 b2 b3
  refine wp_region_late (S := fun w' => w'.cell? ⟨w.heap.size, 0, none⟩ = some (.bool c0) ∧ w'.cell? ⟨w.heap.size, 1, none⟩ = some (.string t0) ∧ w'.cell? ⟨w.heap.size, 2, none⟩ = some (.bool c1) ∧ w'.cell? ⟨w.heap.size, 3, none⟩ = some (.string t1) ∧ w'.cell? ⟨v3.heap.size, 0, none⟩ = some (.bool b5) ∧ w'.cell? ⟨v3.heap.size, 1, none⟩ = some (.string m5) ∧ w'.cell? ⟨v3.heap.size, 2, none⟩ = some (.bool false) ∧ w'.cell? ⟨v3.heap.size, 3, none⟩ = some (.string k5)) (L := []) (by kernel_rfl) ?_
  refine wpLate_take (i := 0) (oi := ⟨some 95, _, _, _, _, _⟩) (v := ?_) rfl (by kernel_rfl) (by kernel_rfl) (by kernel_rfl) (by kernel_rfl) (by kernel_rfl) (fun _ _ _ h => h) (Or.inl ⟨by rfl, ?_⟩) ⟨(blk4 X.out.k).1, (blk4 X.out.k).2.1, (blk4 X.out.k).2.2.1, (blk4 X.out.k).2.2.2, (blk4 B.out.k).1, (blk4 B.out.k).2.1, (blk4 B.out.k).2.2.1, (blk4 B.out.k).2.2.2⟩ ?_
  rotate_left
  · intro w hSw; (try dsimp only at hSw); (first | (go_simp; done) | (go_simp; with_reducible rfl))
  try simp only [Act.put, List.setIfInBounds_toArray, List.set_cons_zero, List.set_cons_succ]
  refine wpLate_take (i := 1) (oi := ⟨some 96, _, _, _, _, _⟩) (v := ?_) rfl (by kernel_rfl) (by kernel_rfl) (by kernel_rfl) (by kernel_rfl) (by kernel_rfl) (fun _ _ _ h => h) (Or.inl ⟨by rfl, ?_⟩) ⟨(blk4 X.out.k).1, (blk4 X.out.k).2.1, (blk4 X.out.k).2.2.1, (blk4 X.out.k).2.2.2, (blk4 B.out.k).1, (blk4 B.out.k).2.1, (blk4 B.out.k).2.2.1, (blk4 B.out.k).2.2.2⟩ ?_
  rotate_left
  · intro w hSw; (try dsimp only at hSw); (first | (go_simp; done) | (go_simp; with_reducible rfl))
  try simp only [Act.put, List.setIfInBounds_toArray, List.set_cons_zero, List.set_cons_succ]
  refine wpLate_take (i := 2) (oi := ⟨some 97, _, _, _, _, _⟩) (v := ?_) rfl (by kernel_rfl) (by kernel_rfl) (by kernel_rfl) (by kernel_rfl) (by kernel_rfl) (fun _ _ _ h => h) (Or.inl ⟨by rfl, ?_⟩) ⟨(blk4 X.out.k).1, (blk4 X.out.k).2.1, (blk4 X.out.k).2.2.1, (blk4 X.out.k).2.2.2, (blk4 B.out.k).1, (blk4 B.out.k).2.1, (blk4 B.out.k).2.2.1, (blk4 B.out.k).2.2.2⟩ ?_
  rotate_left
  · intro w hSw; (try dsimp only at hSw); (first | (go_simp; done) | (go_simp; with_reducible rfl))
  try simp only [Act.put, List.setIfInBounds_toArray, List.set_cons_zero, List.set_cons_succ]
  refine wpLate_take (i := 3) (oi := ⟨some 98, _, _, _, _, _⟩) (v := ?_) rfl (by kernel_rfl) (by kernel_rfl) (by kernel_rfl) (by kernel_rfl) (by kernel_rfl) (fun _ _ _ h => h) (Or.inl ⟨by rfl, ?_⟩) ⟨(blk4 X.out.k).1, (blk4 X.out.k).2.1, (blk4 X.out.k).2.2.1, (blk4 X.out.k).2.2.2, (blk4 B.out.k).1, (blk4 B.out.k).2.1, (blk4 B.out.k).2.2.1, (blk4 B.out.k).2.2.2⟩ ?_
  rotate_left
  · intro w hSw; (try dsimp only at hSw); (first | (go_simp; done) | (go_simp; with_reducible rfl))
  try simp only [Act.put, List.setIfInBounds_toArray, List.set_cons_zero, List.set_cons_succ]
  refine wpLate_take (i := 4) (oi := ⟨some 99, _, _, _, _, _⟩) (v := ?_) rfl (by kernel_rfl) (by kernel_rfl) (by kernel_rfl) (by kernel_rfl) (by kernel_rfl) (fun _ _ _ h => h) (Or.inl ⟨by rfl, ?_⟩) ⟨(blk4 X.out.k).1, (blk4 X.out.k).2.1, (blk4 X.out.k).2.2.1, (blk4 X.out.k).2.2.2, (blk4 B.out.k).1, (blk4 B.out.k).2.1, (blk4 B.out.k).2.2.1, (blk4 B.out.k).2.2.2⟩ ?_
  rotate_left
  · intro w hSw; (try dsimp only at hSw); (first | (go_simp; done) | (go_simp; with_reducible rfl))
  try simp only [Act.put, List.setIfInBounds_toArray, List.set_cons_zero, List.set_cons_succ]
  refine wpLate_one (i := 5) (o := ⟨some 100, _, _, _, _, _⟩) (by kernel_rfl) rfl (fun K hK => ?_)
  go_simp
  (go_at_call 26; (with_reducible refine (HRM.out _).mono ?_); rintro e v4 ⟨rfl, hb9⟩; have X := Lib.hid (X.out.next hb9); have B := Lib.hid (B.out.next hb9); have BB := Lib.hid (below_step BB.out (Nat.le_refl _) hb9); clear hb9)
  try go_wp2_with fail
  refine hK.out _ _ (Or.inr (fun _ => ⟨(blk4 X.out.k).1, (blk4 X.out.k).2.1, (blk4 X.out.k).2.2.1, (blk4 X.out.k).2.2.2, (blk4 B.out.k).1, (blk4 B.out.k).2.1, (blk4 B.out.k).2.2.1, (blk4 B.out.k).2.2.2⟩)) ?_
  clear hK K
  try simp only [Act.put, List.setIfInBounds_toArray, List.set_cons_zero, List.set_cons_succ]
  refine wpLate_take (i := 6) (oi := ⟨some 101, _, _, _, _, _⟩) (v := ?_) rfl (by kernel_rfl) (by kernel_rfl) (by kernel_rfl) (by kernel_rfl) (by kernel_rfl) (fun _ _ _ h => h) (Or.inl ⟨by rfl, ?_⟩) ⟨(blk4 X.out.k).1, (blk4 X.out.k).2.1, (blk4 X.out.k).2.2.1, (blk4 X.out.k).2.2.2, (blk4 B.out.k).1, (blk4 B.out.k).2.1, (blk4 B.out.k).2.2.1, (blk4 B.out.k).2.2.2⟩ ?_
  rotate_left
  · intro w hSw; (try dsimp only at hSw); (first | (go_simp; done) | (go_simp; with_reducible rfl))
  try simp only [Act.put, List.setIfInBounds_toArray, List.set_cons_zero, List.set_cons_succ]
  refine wpLate_take (i := 7) (oi := ⟨some 102, _, _, _, _, _⟩) (v := ?_) rfl (by kernel_rfl) (by kernel_rfl) (by kernel_rfl) (by kernel_rfl) (by kernel_rfl) (fun _ _ _ h => h) (Or.inl ⟨by rfl, ?_⟩) ⟨(blk4 X.out.k).1, (blk4 X.out.k).2.1, (blk4 X.out.k).2.2.1, (blk4 X.out.k).2.2.2, (blk4 B.out.k).1, (blk4 B.out.k).2.1, (blk4 B.out.k).2.2.1, (blk4 B.out.k).2.2.2⟩ ?_
  rotate_left
  · intro w hSw; (try dsimp only at hSw); (first | (go_simp; done) | (go_simp; with_reducible rfl))
  try simp only [Act.put, List.setIfInBounds_toArray, List.set_cons_zero, List.set_cons_succ]
  refine wpLate_take (i := 8) (oi := ⟨some 103, _, _, _, _, _⟩) (v := ?_) rfl (by kernel_rfl) (by kernel_rfl) (by kernel_rfl) (by kernel_rfl) (by kernel_rfl) (fun _ _ _ h => h) (Or.inl ⟨by rfl, ?_⟩) ⟨(blk4 X.out.k).1, (blk4 X.out.k).2.1, (blk4 X.out.k).2.2.1, (blk4 X.out.k).2.2.2, (blk4 B.out.k).1, (blk4 B.out.k).2.1, (blk4 B.out.k).2.2.1, (blk4 B.out.k).2.2.2⟩ ?_
  rotate_left
  · intro w hSw; (try dsimp only at hSw); (first | (go_simp; done) | (go_simp; with_reducible rfl))
  try simp only [Act.put, List.setIfInBounds_toArray, List.set_cons_zero, List.set_cons_succ]
  refine wpLate_take (i := 9) (oi := ⟨some 104, _, _, _, _, _⟩) (v := ?_) rfl (by kernel_rfl) (by kernel_rfl) (by kernel_rfl) (by kernel_rfl) (by kernel_rfl) (fun _ _ _ h => h) (Or.inl ⟨by rfl, ?_⟩) ⟨(blk4 X.out.k).1, (blk4 X.out.k).2.1, (blk4 X.out.k).2.2.1, (blk4 X.out.k).2.2.2, (blk4 B.out.k).1, (blk4 B.out.k).2.1, (blk4 B.out.k).2.2.1, (blk4 B.out.k).2.2.2⟩ ?_
  rotate_left
  · intro w hSw; (try dsimp only at hSw); (first | (go_simp; done) | (go_simp; with_reducible rfl))
  try simp only [Act.put, List.setIfInBounds_toArray, List.set_cons_zero, List.set_cons_succ]
  refine wpLate_take (i := 10) (oi := ⟨some 105, _, _, _, _, _⟩) (v := ?_) rfl (by kernel_rfl) (by kernel_rfl) (by kernel_rfl) (by kernel_rfl) (by kernel_rfl) (fun _ _ _ h => h) (Or.inl ⟨by rfl, ?_⟩) ⟨(blk4 X.out.k).1, (blk4 X.out.k).2.1, (blk4 X.out.k).2.2.1, (blk4 X.out.k).2.2.2, (blk4 B.out.k).1, (blk4 B.out.k).2.1, (blk4 B.out.k).2.2.1, (blk4 B.out.k).2.2.2⟩ ?_
  rotate_left
  · intro w hSw; (try dsimp only at hSw); (first | (go_simp; done) | (go_simp; with_reducible rfl))
  try simp only [Act.put, List.setIfInBounds_toArray, List.set_cons_zero, List.set_cons_succ]
  refine wpLate_take (i := 11) (oi := ⟨some 6, _, _, _, _, _⟩) (v := ?_) rfl (by kernel_rfl) (by kernel_rfl) (by kernel_rfl) (by kernel_rfl) (by kernel_rfl) (fun _ _ _ h => h) (Or.inl ⟨by rfl, ?_⟩) ⟨(blk4 X.out.k).1, (blk4 X.out.k).2.1, (blk4 X.out.k).2.2.1, (blk4 X.out.k).2.2.2, (blk4 B.out.k).1, (blk4 B.out.k).2.1, (blk4 B.out.k).2.2.1, (blk4 B.out.k).2.2.2⟩ ?_
  rotate_left
  · intro w hSw; (try dsimp only at hSw); (first | (go_simp; done) | (go_simp; with_reducible rfl))
  try simp only [Act.put, List.setIfInBounds_toArray, List.set_cons_zero, List.set_cons_succ]
  refine wpLate_done (by kernel_rfl) ?_ _
  go_wp2
  go_ret
  exact ⟨rfl, BB.out⟩
end Go.Proofs.YtahehlajpaoiiaaGreatDoor
