import Derived.Test.YtahehlajpaoiiaaGreatDoorGRCA
import Derived.Test.YtahehlajpaoiiaaGreatDoorGQS
import Derived.Test.YtahehlajpaoiiaaGreatDoorGQT2
import Derived.Test.YtahehlajpaoiiaaGreatDoorGRKB

namespace Go.Proofs.YtahehlajpaoiiaaGreatDoor
open Go.RowKit
attribute [local go_sem ↓] Go.wp_at_zero Go.wp_at_succ

set_option maxHeartbeats 16000000 in
set_option maxRecDepth 100000 in
theorem ratDiv_pos {p q r : Rat} {b1 b3 : Bool} {m1 m2 m3 k1 k2 k3 k4 mq : ByteArray} (hp : Rq p b1 m1 k1) (hq : Rq q false m2 k2) (hi : Rq r false mq k4) (hr : Rq (p * r) b3 m3 k3) (hmq : mq = mag q.den) (hnum : r.num = q.num.sign * (q.den : Int)) (hden : r.den = q.num.natAbs) (h0 : q.num.sign ≠ 0) (s1 : m1.size ≤ 10000) (s2 : m2.size ≤ 10000) (s3 : (mag p.den).size ≤ 10000) (s4 : (mag q.den).size ≤ 10000) (w : World) (hE : Env w) :
    Calls Tryz.prog 34 #[.agg #[.bool b1, .string m1, .bool false, .string k1], .agg #[.bool false, .string m2, .bool false, .string k2]] w (RetB w (.tuple #[.agg #[.bool b3, .string m3, .bool false, .string k3], .int .i64 0])) := by
  have HS := Lib.hid (fun V => ratSign_f hq V)
  have hD := fun V (hV : Env V) => den_f hq V hV
  rw [← hmq] at hD
  have HD := Lib.hid hD
  have hab := fun V => abs_f hq.num (enc_mag q.num.natAbs) V
  have HAB := Lib.hid hab
  have hcp := fun V (hV : Env V) => coprime_f false mq q.num.natAbs V hV
  rw [← hden, ← hi.den] at hcp
  rw [hden, ← hq.mag.2] at hcp
  have HCP := Lib.hid hcp
  have HM := Lib.hid (fun V (hV : Env V) => ratMul_f hp hi hr s1 (by rw [hmq]; exact s4) s3 (by rw [hden, ← hq.mag.2]; exact s2) V hV)
  have HE := Lib.hid (fun V (h : Below w.heap.size w V) => hE.next h)
  rw [← hq.mag.2] at HAB
  generalize q.num.sign = s at *
  generalize hd : r.den = rd at *
  clear hp hq hi hr hmq hnum hden hD hab hcp s1 s2 s3 s4 hE hd
  have X := Lib.hid ((((Sb.start w).new #[.bool b1, .string m1, .bool false, .string k1] 25).new #[.bool false, .string m2, .bool false, .string k2] 25).new #[.bool false, .string ⟨#[]⟩, .bool false, .string ⟨#[]⟩] 25)
  have X := Lib.hid (X.out.pick [0, 1, 2] [(w.heap.size, #[.bool b1, .string m1, .bool false, .string k1], 25), (w.heap.size + 1, #[.bool false, .string m2, .bool false, .string k2], 25), (w.heap.size + 1 + 1, #[.bool false, .string ⟨#[]⟩, .bool false, .string ⟨#[]⟩], 25)] [] (by simp) (by decide) (by simp))
  go_enter Tryz.func34, Tryz.ntmps34
  go_upto_region 1 with fail
  obtain ⟨a0, a1, a2, a3⟩ := X.out.c4 (i := 1) rfl
  go_wp2_with fail
  refine (HS.out _).mono ?_
  rintro e u1 ⟨rfl, hb9⟩
  have X := Lib.hid (X.out.next hb9)
  clear hb9 a0 a1 a2 a3
  go_upto_region 3 with fail
  go_cut [6] (fun s6 wx => ∃ g, s6 = .pointer (some ⟨g, 0, none⟩) ∧ Sb w [(w.heap.size, #[.bool b1, .string m1, .bool false, .string k1], 25), (w.heap.size + 1, #[.bool false, .string m2, .bool false, .string k2], 25), (w.heap.size + 1 + 1, #[.bool false, .string ⟨#[]⟩, .bool false, .string ⟨#[]⟩], 25), (g, #[.bool false, .string mq], 23)] [] wx)
  case first =>
    obtain ⟨a0, a1, a2, a3⟩ := X.out.c4 (i := 1) rfl
    go_wp2_with fail
    refine (HD.out _ (HE.out _ X.out.bel)).mono ?_
    rintro e u2 ⟨rfl, hb9⟩
    have X := Lib.hid (X.out.next hb9)
    clear hb9 a0 a1 a2 a3
    have X := Lib.hid (X.out.new #[.bool false, .string mq] 23)
    go_wp2_with fail
    go_meet
    exact ⟨_, rfl, X.out⟩
  obtain ⟨g, rfl, hX⟩ := hcut
  have X := Lib.hid hX
  clear hX
  obtain ⟨a0, a1, a2, a3⟩ := X.out.c4 (i := 1) rfl
  obtain ⟨c0, c1⟩ := X.out.c2 (i := 3) rfl
  go_upto_region 6 with fail
  clear a0 a1 a2 a3 c0 c1
  refine wp_region_late (S := fun w' => (w'.cell? ⟨w.heap.size, 0, none⟩ = some (.bool b1) ∧ w'.cell? ⟨w.heap.size, 1, none⟩ = some (.string m1) ∧ w'.cell? ⟨w.heap.size, 2, none⟩ = some (.bool false) ∧ w'.cell? ⟨w.heap.size, 3, none⟩ = some (.string k1)) ∧ (w'.cell? ⟨g, 0, none⟩ = some (.bool false) ∧ w'.cell? ⟨g, 1, none⟩ = some (.string mq)) ∧ (w'.cell? ⟨w.heap.size + 1, 0, none⟩ = some (.bool false) ∧ w'.cell? ⟨w.heap.size + 1, 1, none⟩ = some (.string m2) ∧ w'.cell? ⟨w.heap.size + 1, 2, none⟩ = some (.bool false) ∧ w'.cell? ⟨w.heap.size + 1, 3, none⟩ = some (.string k2))) (L := []) (by kernel_rfl) ?_
  have X := Lib.hid X.out.drew
  obtain ⟨V0, hV⟩ := wexi X.out
  rw [← hV] at X ⊢
  clear hV
  refine tk (i := 0) (oi := ⟨some 18, _, _, _, _, _⟩) (v := _) rfl (by kernel_rfl) (fun _ _ _ h => h) (⟨X.out.c4 (i := 0) rfl, X.out.c2 (i := 3) rfl, X.out.c4 (i := 1) rfl⟩) (Or.inl ⟨by rfl, by intro w hSw; (try dsimp only at hSw); (first | (go_simp; done) | (go_simp; with_reducible rfl))⟩) ?_
  try simp only [Act.put, seti, set0, setS]
  refine tk (i := 1) (oi := ⟨some 19, _, _, _, _, _⟩) (v := _) rfl (by kernel_rfl) (fun _ _ _ h => h) (⟨X.out.c4 (i := 0) rfl, X.out.c2 (i := 3) rfl, X.out.c4 (i := 1) rfl⟩) (Or.inl ⟨by rfl, by intro w hSw; (try dsimp only at hSw); (first | (go_simp; done) | (go_simp; with_reducible rfl))⟩) ?_
  try simp only [Act.put, seti, set0, setS]
  refine tk (i := 2) (oi := ⟨some 20, _, _, _, _, _⟩) (v := _) rfl (by kernel_rfl) (fun _ _ _ h => h) (⟨X.out.c4 (i := 0) rfl, X.out.c2 (i := 3) rfl, X.out.c4 (i := 1) rfl⟩) (Or.inl ⟨by rfl, by intro w hSw; (try dsimp only at hSw); (first | (go_simp; done) | (go_simp; with_reducible rfl))⟩) ?_
  try simp only [Act.put, seti, set0, setS]
  refine tk (i := 3) (oi := ⟨some 21, _, _, _, _, _⟩) (v := _) rfl (by kernel_rfl) (fun _ _ _ h => h) (⟨X.out.c4 (i := 0) rfl, X.out.c2 (i := 3) rfl, X.out.c4 (i := 1) rfl⟩) (Or.inl ⟨by rfl, by intro w hSw; (try dsimp only at hSw); (first | (go_simp; done) | (go_simp; with_reducible rfl))⟩) ?_
  try simp only [Act.put, seti, set0, setS]
  refine wpLate_one (i := 4) (o := ⟨some 22, _, _, _, _, _⟩) (by kernel_rfl) rfl (fun K hK => ?_)
  go_simp
  (go_at_call 81; refine (HAB.out _).mono ?_; rintro e u1 ⟨rfl, hb9⟩; have X := Lib.hid (X.out.next hb9); clear hb9)
  try go_wp2_with fail
  refine hK.out _ _ (Or.inr (fun _ => ⟨X.out.c4 (i := 0) rfl, X.out.c2 (i := 3) rfl, X.out.c4 (i := 1) rfl⟩)) ?_
  clear hK K
  try simp only [Act.put, seti, set0, setS]
  refine wpLate_one (i := 5) (o := ⟨some 23, _, _, _, _, _⟩) (by kernel_rfl) rfl (fun K hK => ?_)
  go_simp
  (go_at_call 66; refine (HCP.out _ (HE.out _ X.out.bel)).mono ?_; rintro e u2 ⟨rfl, hb9⟩; have X := Lib.hid (X.out.next hb9); clear hb9)
  try go_wp2_with fail
  refine hK.out _ _ (Or.inr (fun _ => ⟨X.out.c4 (i := 0) rfl, X.out.c2 (i := 3) rfl, X.out.c4 (i := 1) rfl⟩)) ?_
  clear hK K
  try simp only [Act.put, seti, set0, setS]
  refine wpLate_one (i := 6) (o := ⟨some 24, _, _, _, _, _⟩) (by kernel_rfl) rfl (fun K hK => ?_)
  go_simp
  (go_at_call 33; refine (HM.out _ (HE.out _ X.out.bel)).mono ?_; rintro e u3 ⟨rfl, hb9⟩; have X := Lib.hid (X.out.next hb9); clear hb9)
  try go_wp2_with fail
  refine hK.out _ _ (Or.inr (fun _ => ⟨X.out.c4 (i := 0) rfl, X.out.c2 (i := 3) rfl, X.out.c4 (i := 1) rfl⟩)) ?_
  clear hK K
  try simp only [Act.put, seti, set0, setS]
  refine wpLate_one (i := 7) (o := ⟨none, _, _, _, _, _⟩) (by kernel_rfl) rfl (fun K hK => ?_)
  obtain ⟨x0, x1, x2, x3⟩ := X.out.c4 (i := 2) rfl
  obtain ⟨y0, y1, y2, y3⟩ := X.out.f4 (i := 2) rfl
  have X := Lib.hid (X.out.set4 (i := 2) rfl (.bool b3) (.string m3) (.bool false) (.string k3))
  go_simp
  refine hK.out _ _ (Or.inr (fun _ => ⟨X.out.c4 (i := 0) rfl, X.out.c2 (i := 3) rfl, X.out.c4 (i := 1) rfl⟩)) ?_
  clear hK K x0 x1 x2 x3 y0 y1 y2 y3
  try simp only [Act.put, seti, set0, setS]
  obtain ⟨W4, hV⟩ := wexi X.out
  rw [← hV] at X ⊢
  clear hV
  refine tk (i := 8) (oi := ⟨some 5, _, _, _, _, _⟩) (v := _) rfl (by kernel_rfl) (fun _ _ _ h => h) (⟨X.out.c4 (i := 0) rfl, X.out.c2 (i := 3) rfl, X.out.c4 (i := 1) rfl⟩) (Or.inl ⟨by rfl, by intro w hSw; (try dsimp only at hSw); (first | (go_simp; done) | (go_simp; with_reducible rfl))⟩) ?_
  try simp only [Act.put, seti, set0, setS]
  refine wpLate_done (by kernel_rfl) ?_ _
  go_wp2
  obtain ⟨p0, p1, p2, p3⟩ := X.out.c4 (i := 2) rfl
  exact bodyPost_ret (v := .tuple #[.agg #[.bool b3, .string m3, .bool false, .string k3], .int .i64 0]) (by simp [results, Tryz.results34, go_sem, p0, p1, p2, p3]) rfl ⟨rfl, X.out.bel⟩

set_option maxHeartbeats 16000000 in
set_option maxRecDepth 100000 in
theorem ratDiv_neg {p q r : Rat} {b1 b3 : Bool} {m1 m2 m3 k1 k2 k3 k4 mq : ByteArray} (hp : Rq p b1 m1 k1) (hq : Rq q true m2 k2) (hi : Rq r true mq k4) (hr : Rq (p * r) b3 m3 k3) (hmq : mq = mag q.den) (hnum : r.num = q.num.sign * (q.den : Int)) (hden : r.den = q.num.natAbs) (h0 : q.num.sign ≠ 0) (s1 : m1.size ≤ 10000) (s2 : m2.size ≤ 10000) (s3 : (mag p.den).size ≤ 10000) (s4 : (mag q.den).size ≤ 10000) (w : World) (hE : Env w) :
    Calls Tryz.prog 34 #[.agg #[.bool b1, .string m1, .bool false, .string k1], .agg #[.bool true, .string m2, .bool false, .string k2]] w (RetB w (.tuple #[.agg #[.bool b3, .string m3, .bool false, .string k3], .int .i64 0])) := by
  have HS := Lib.hid (fun V => ratSign_f hq V)
  have hD := fun V (hV : Env V) => den_f hq V hV
  rw [← hmq] at hD
  have HD := Lib.hid hD
  have hab := fun V => abs_f hq.num (enc_mag q.num.natAbs) V
  have HAB := Lib.hid hab
  have hcp := fun V (hV : Env V) => coprime_f true mq q.num.natAbs V hV
  rw [← hden, ← hi.den] at hcp
  rw [hden, ← hq.mag.2] at hcp
  have HCP := Lib.hid hcp
  have HM := Lib.hid (fun V (hV : Env V) => ratMul_f hp hi hr s1 (by rw [hmq]; exact s4) s3 (by rw [hden, ← hq.mag.2]; exact s2) V hV)
  have HE := Lib.hid (fun V (h : Below w.heap.size w V) => hE.next h)
  have HN := Lib.hid (fun V => negate_f (enc_mag q.den) (show enc (-(q.den : Int)) = .agg #[.bool true, .string mq] from by
    have h1 := hi.num
    rw [hnum] at h1
    have h2 : q.num.sign = -1 := Int.sign_eq_neg_one_of_neg (of_decide_eq_true hq.mag.1.symm)
    rw [h2, Int.neg_one_mul] at h1
    exact h1) V)
  rw [← hmq] at HN
  rw [← hq.mag.2] at HAB
  generalize q.num.sign = s at *
  generalize hd : r.den = rd at *
  clear hp hq hi hr hmq hnum hden hD hab hcp s1 s2 s3 s4 hE hd
  have X := Lib.hid ((((Sb.start w).new #[.bool b1, .string m1, .bool false, .string k1] 25).new #[.bool true, .string m2, .bool false, .string k2] 25).new #[.bool false, .string ⟨#[]⟩, .bool false, .string ⟨#[]⟩] 25)
  have X := Lib.hid (X.out.pick [0, 1, 2] [(w.heap.size, #[.bool b1, .string m1, .bool false, .string k1], 25), (w.heap.size + 1, #[.bool true, .string m2, .bool false, .string k2], 25), (w.heap.size + 1 + 1, #[.bool false, .string ⟨#[]⟩, .bool false, .string ⟨#[]⟩], 25)] [] (by simp) (by decide) (by simp))
  go_enter Tryz.func34, Tryz.ntmps34
  go_upto_region 1 with fail
  obtain ⟨a0, a1, a2, a3⟩ := X.out.c4 (i := 1) rfl
  go_wp2_with fail
  refine (HS.out _).mono ?_
  rintro e u1 ⟨rfl, hb9⟩
  have X := Lib.hid (X.out.next hb9)
  clear hb9 a0 a1 a2 a3
  go_upto_region 3 with fail
  go_cut [6] (fun s6 wx => ∃ g, s6 = .pointer (some ⟨g, 0, none⟩) ∧ Sb w [(w.heap.size, #[.bool b1, .string m1, .bool false, .string k1], 25), (w.heap.size + 1, #[.bool true, .string m2, .bool false, .string k2], 25), (w.heap.size + 1 + 1, #[.bool false, .string ⟨#[]⟩, .bool false, .string ⟨#[]⟩], 25), (g, #[.bool false, .string mq], 23)] [] wx)
  case first =>
    obtain ⟨a0, a1, a2, a3⟩ := X.out.c4 (i := 1) rfl
    go_wp2_with fail
    refine (HD.out _ (HE.out _ X.out.bel)).mono ?_
    rintro e u2 ⟨rfl, hb9⟩
    have X := Lib.hid (X.out.next hb9)
    clear hb9 a0 a1 a2 a3
    have X := Lib.hid (X.out.new #[.bool false, .string mq] 23)
    go_wp2_with fail
    go_meet
    exact ⟨_, rfl, X.out⟩
  obtain ⟨g, rfl, hX⟩ := hcut
  have X := Lib.hid hX
  clear hX
  obtain ⟨a0, a1, a2, a3⟩ := X.out.c4 (i := 1) rfl
  obtain ⟨c0, c1⟩ := X.out.c2 (i := 3) rfl
  obtain ⟨d0, d1⟩ := X.out.f2 (i := 3) rfl
  go_wp2_with fail
  refine (HN.out _).mono ?_
  rintro e u3 ⟨rfl, hb9⟩
  have X := Lib.hid (X.out.next hb9)
  clear hb9 a0 a1 a2 a3 c0 c1 d0 d1
  obtain ⟨c0, c1⟩ := X.out.c2 (i := 3) rfl
  obtain ⟨d0, d1⟩ := X.out.f2 (i := 3) rfl
  go_upto_region 6 with fail
  have X := Lib.hid (X.out.set2 (i := 3) rfl (.bool true) (.string mq))
  clear c0 c1 d0 d1
  refine wp_region_late (S := fun w' => (w'.cell? ⟨w.heap.size, 0, none⟩ = some (.bool b1) ∧ w'.cell? ⟨w.heap.size, 1, none⟩ = some (.string m1) ∧ w'.cell? ⟨w.heap.size, 2, none⟩ = some (.bool false) ∧ w'.cell? ⟨w.heap.size, 3, none⟩ = some (.string k1)) ∧ (w'.cell? ⟨g, 0, none⟩ = some (.bool true) ∧ w'.cell? ⟨g, 1, none⟩ = some (.string mq)) ∧ (w'.cell? ⟨w.heap.size + 1, 0, none⟩ = some (.bool true) ∧ w'.cell? ⟨w.heap.size + 1, 1, none⟩ = some (.string m2) ∧ w'.cell? ⟨w.heap.size + 1, 2, none⟩ = some (.bool false) ∧ w'.cell? ⟨w.heap.size + 1, 3, none⟩ = some (.string k2))) (L := []) (by kernel_rfl) ?_
  have X := Lib.hid X.out.drew
  obtain ⟨V0, hV⟩ := wexi X.out
  rw [← hV] at X ⊢
  clear hV
  refine tk (i := 0) (oi := ⟨some 18, _, _, _, _, _⟩) (v := _) rfl (by kernel_rfl) (fun _ _ _ h => h) (⟨X.out.c4 (i := 0) rfl, X.out.c2 (i := 3) rfl, X.out.c4 (i := 1) rfl⟩) (Or.inl ⟨by rfl, by intro w hSw; (try dsimp only at hSw); (first | (go_simp; done) | (go_simp; with_reducible rfl))⟩) ?_
  try simp only [Act.put, seti, set0, setS]
  refine tk (i := 1) (oi := ⟨some 19, _, _, _, _, _⟩) (v := _) rfl (by kernel_rfl) (fun _ _ _ h => h) (⟨X.out.c4 (i := 0) rfl, X.out.c2 (i := 3) rfl, X.out.c4 (i := 1) rfl⟩) (Or.inl ⟨by rfl, by intro w hSw; (try dsimp only at hSw); (first | (go_simp; done) | (go_simp; with_reducible rfl))⟩) ?_
  try simp only [Act.put, seti, set0, setS]
  refine tk (i := 2) (oi := ⟨some 20, _, _, _, _, _⟩) (v := _) rfl (by kernel_rfl) (fun _ _ _ h => h) (⟨X.out.c4 (i := 0) rfl, X.out.c2 (i := 3) rfl, X.out.c4 (i := 1) rfl⟩) (Or.inl ⟨by rfl, by intro w hSw; (try dsimp only at hSw); (first | (go_simp; done) | (go_simp; with_reducible rfl))⟩) ?_
  try simp only [Act.put, seti, set0, setS]
  refine tk (i := 3) (oi := ⟨some 21, _, _, _, _, _⟩) (v := _) rfl (by kernel_rfl) (fun _ _ _ h => h) (⟨X.out.c4 (i := 0) rfl, X.out.c2 (i := 3) rfl, X.out.c4 (i := 1) rfl⟩) (Or.inl ⟨by rfl, by intro w hSw; (try dsimp only at hSw); (first | (go_simp; done) | (go_simp; with_reducible rfl))⟩) ?_
  try simp only [Act.put, seti, set0, setS]
  refine wpLate_one (i := 4) (o := ⟨some 22, _, _, _, _, _⟩) (by kernel_rfl) rfl (fun K hK => ?_)
  go_simp
  (go_at_call 81; refine (HAB.out _).mono ?_; rintro e u1 ⟨rfl, hb9⟩; have X := Lib.hid (X.out.next hb9); clear hb9)
  try go_wp2_with fail
  refine hK.out _ _ (Or.inr (fun _ => ⟨X.out.c4 (i := 0) rfl, X.out.c2 (i := 3) rfl, X.out.c4 (i := 1) rfl⟩)) ?_
  clear hK K
  try simp only [Act.put, seti, set0, setS]
  refine wpLate_one (i := 5) (o := ⟨some 23, _, _, _, _, _⟩) (by kernel_rfl) rfl (fun K hK => ?_)
  go_simp
  (go_at_call 66; refine (HCP.out _ (HE.out _ X.out.bel)).mono ?_; rintro e u2 ⟨rfl, hb9⟩; have X := Lib.hid (X.out.next hb9); clear hb9)
  try go_wp2_with fail
  refine hK.out _ _ (Or.inr (fun _ => ⟨X.out.c4 (i := 0) rfl, X.out.c2 (i := 3) rfl, X.out.c4 (i := 1) rfl⟩)) ?_
  clear hK K
  try simp only [Act.put, seti, set0, setS]
  refine wpLate_one (i := 6) (o := ⟨some 24, _, _, _, _, _⟩) (by kernel_rfl) rfl (fun K hK => ?_)
  go_simp
  (go_at_call 33; refine (HM.out _ (HE.out _ X.out.bel)).mono ?_; rintro e u3 ⟨rfl, hb9⟩; have X := Lib.hid (X.out.next hb9); clear hb9)
  try go_wp2_with fail
  refine hK.out _ _ (Or.inr (fun _ => ⟨X.out.c4 (i := 0) rfl, X.out.c2 (i := 3) rfl, X.out.c4 (i := 1) rfl⟩)) ?_
  clear hK K
  try simp only [Act.put, seti, set0, setS]
  refine wpLate_one (i := 7) (o := ⟨none, _, _, _, _, _⟩) (by kernel_rfl) rfl (fun K hK => ?_)
  obtain ⟨x0, x1, x2, x3⟩ := X.out.c4 (i := 2) rfl
  obtain ⟨y0, y1, y2, y3⟩ := X.out.f4 (i := 2) rfl
  have X := Lib.hid (X.out.set4 (i := 2) rfl (.bool b3) (.string m3) (.bool false) (.string k3))
  go_simp
  refine hK.out _ _ (Or.inr (fun _ => ⟨X.out.c4 (i := 0) rfl, X.out.c2 (i := 3) rfl, X.out.c4 (i := 1) rfl⟩)) ?_
  clear hK K x0 x1 x2 x3 y0 y1 y2 y3
  try simp only [Act.put, seti, set0, setS]
  obtain ⟨W4, hV⟩ := wexi X.out
  rw [← hV] at X ⊢
  clear hV
  refine tk (i := 8) (oi := ⟨some 5, _, _, _, _, _⟩) (v := _) rfl (by kernel_rfl) (fun _ _ _ h => h) (⟨X.out.c4 (i := 0) rfl, X.out.c2 (i := 3) rfl, X.out.c4 (i := 1) rfl⟩) (Or.inl ⟨by rfl, by intro w hSw; (try dsimp only at hSw); (first | (go_simp; done) | (go_simp; with_reducible rfl))⟩) ?_
  try simp only [Act.put, seti, set0, setS]
  refine wpLate_done (by kernel_rfl) ?_ _
  go_wp2
  obtain ⟨p0, p1, p2, p3⟩ := X.out.c4 (i := 2) rfl
  exact bodyPost_ret (v := .tuple #[.agg #[.bool b3, .string m3, .bool false, .string k3], .int .i64 0]) (by simp [results, Tryz.results34, go_sem, p0, p1, p2, p3]) rfl ⟨rfl, X.out.bel⟩

theorem ratDiv_f {p q : Rat} {b1 b2 b3 : Bool} {m1 m2 m3 k1 k2 k3 : ByteArray} (hp : Rq p b1 m1 k1) (hq : Rq q b2 m2 k2) (hr : Rq (p / q) b3 m3 k3) (h0 : q.num ≠ 0) (s1 : m1.size ≤ 10000) (s2 : m2.size ≤ 10000) (s3 : (mag p.den).size ≤ 10000) (s4 : (mag q.den).size ≤ 10000) (w : World) (hE : Env w) :
    Calls Tryz.prog 34 #[.agg #[.bool b1, .string m1, .bool false, .string k1], .agg #[.bool b2, .string m2, .bool false, .string k2]] w (RetB w (.tuple #[.agg #[.bool b3, .string m3, .bool false, .string k3], .int .i64 0])) := by
  have hden : (q⁻¹).den = q.num.natAbs := by rw [Rat.den_inv, if_neg h0]
  have hnum := Rat.num_inv q
  have hs : q.num.sign ≠ 0 := by rw [ne_eq, Int.sign_eq_zero_iff_zero]; exact h0
  rw [Rat.div_def] at hr
  have hb := hq.mag.1
  rcases Int.lt_or_lt_of_ne h0 with h | h
  · rw [decide_eq_true h] at hb
    subst hb
    have hi : Rq (q⁻¹) true (mag q.den) (dm (q⁻¹).den) := ⟨by
      rw [hnum, Int.sign_eq_neg_one_of_neg h, Int.neg_one_mul]
      have := q.den_pos
      unfold enc
      rw [decide_eq_true (show -(q.den : Int) < 0 by omega), Int.natAbs_neg, Int.natAbs_natCast], rfl⟩
    exact ratDiv_neg hp hq hi hr rfl hnum hden hs s1 s2 s3 s4 w hE
  · rw [decide_eq_false (by omega)] at hb
    subst hb
    have hi : Rq (q⁻¹) false (mag q.den) (dm (q⁻¹).den) := ⟨by rw [hnum, Int.sign_eq_one_of_pos h, Int.one_mul]; exact enc_mag q.den, rfl⟩
    exact ratDiv_pos hp hq hi hr rfl hnum hden hs s1 s2 s3 s4 w hE

set_option maxHeartbeats 4000000 in
set_option maxRecDepth 100000 in
theorem ratDiv_0 {p q : Rat} {b1 b2 : Bool} {m1 m2 k1 k2 : ByteArray} (hq : Rq q b2 m2 k2) (h0 : q.num = 0) (w : World) :
    Calls Tryz.prog 34 #[.agg #[.bool b1, .string m1, .bool false, .string k1], .agg #[.bool b2, .string m2, .bool false, .string k2]] w (RetB w (.tuple #[.agg #[.bool false, .string ⟨#[]⟩, .bool false, .string ⟨#[]⟩], .int .i64 6])) := by
  have hS := fun V => ratSign_f hq V
  rw [h0] at hS
  have HS := Lib.hid hS
  have X := Lib.hid ((((Sb.start w).new #[.bool b1, .string m1, .bool false, .string k1] 25).new #[.bool b2, .string m2, .bool false, .string k2] 25).new #[.bool false, .string ⟨#[]⟩, .bool false, .string ⟨#[]⟩] 25)
  have X := Lib.hid (X.out.pick [0, 1, 2] [(w.heap.size, #[.bool b1, .string m1, .bool false, .string k1], 25), (w.heap.size + 1, #[.bool b2, .string m2, .bool false, .string k2], 25), (w.heap.size + 1 + 1, #[.bool false, .string ⟨#[]⟩, .bool false, .string ⟨#[]⟩], 25)] [] (by simp) (by decide) (by simp))
  clear hq h0 hS
  go_enter Tryz.func34, Tryz.ntmps34
  go_upto_region 1 with fail
  obtain ⟨a0, a1, a2, a3⟩ := X.out.c4 (i := 1) rfl
  go_wp2_with fail
  refine (HS.out _).mono ?_
  rintro e u1 ⟨rfl, hb9⟩
  have X := Lib.hid (X.out.next hb9)
  clear hb9 a0 a1 a2 a3
  obtain ⟨x0, x1, x2, x3⟩ := X.out.c4 (i := 2) rfl
  obtain ⟨y0, y1, y2, y3⟩ := X.out.f4 (i := 2) rfl
  have X := Lib.hid (X.out.set4 (i := 2) rfl (.bool false) (.string ⟨#[]⟩) (.bool false) (.string ⟨#[]⟩))
  go_wp2
  clear x0 x1 x2 x3
  obtain ⟨p0, p1, p2, p3⟩ := X.out.c4 (i := 2) rfl
  exact bodyPost_ret (v := .tuple #[.agg #[.bool false, .string ⟨#[]⟩, .bool false, .string ⟨#[]⟩], .int .i64 6]) (by simp [results, Tryz.results34, go_sem, p0, p1, p2, p3]) rfl ⟨rfl, X.out.bel⟩
end Go.Proofs.YtahehlajpaoiiaaGreatDoor


namespace Go.Proofs.YtahehlajpaoiiaaGreatDoor
open Go.RowKit
attribute [local go_sem ↓] Go.wp_at_zero Go.wp_at_succ

theorem divInt_self2 (q : Rat) : Rat.divInt q.num (q.den : Int) = q := by rw [Rat.divInt_ofNat]; exact Rat.mkRat_self q

set_option maxHeartbeats 16000000 in
set_option maxRecDepth 100000 in
theorem rMul_f {p q : Rat} {b1 b2 b3 : Bool} {m1 m2 m3 k1 k2 k3 : ByteArray} (hp : Rq p b1 m1 k1) (hq : Rq q b2 m2 k2) (hr : Rq (p * q) b3 m3 k3) (s1 : m1.size ≤ 10000) (s2 : m2.size ≤ 10000) (s3 : (mag p.den).size ≤ 10000) (s4 : (mag q.den).size ≤ 10000) (w : World) :
    Calls Tryz.prog 35 #[.agg #[.bool b1, .string m1, .bool false, .string k1], .agg #[.bool b2, .string m2, .bool false, .string k2]] w (RetB w (.agg #[.bool b3, .string m3, .bool false, .string k3])) := by
  have ks : ∀ {x : Rat} {b : Bool} {m k : ByteArray}, Rq x b m k → (mag x.den).size ≤ 10000 → k.size ≤ 10000 := fun {x b m k} h hs => by
    by_cases hd : x.den = 1
    · rw [h.den1 hd]; exact Nat.zero_le _
    · rw [h.den2 hd]; exact hs
  have HF1 := Lib.hid (fun V => rof2 hp (by omega) (by have := ks hp s3; omega) V)
  have HF2 := Lib.hid (fun V => rof2 hq (by omega) (by have := ks hq s4; omega) V)
  have n0 : nd p.num.natAbs ≤ 10000 := by unfold nd; rw [← hp.mag.2]; exact s1
  have n1 : nd p.den ≤ 10000 := s3
  have n2 : nd q.num.natAbs ≤ 10000 := by unfold nd; rw [← hq.mag.2]; exact s2
  have n3 : nd q.den ≤ 10000 := s4
  have HN0 := Lib.hid n0
  have HN1 := Lib.hid n1
  have HN2 := Lib.hid n2
  have HN3 := Lib.hid n3
  have n4 := nd_mul p.num.natAbs q.num.natAbs
  have n5 := nd_mul p.den q.den
  have hr' : Rq (mkRat (sgn (b1 != b2) (p.num.natAbs * q.num.natAbs)) (p.den * q.den)) b3 m3 k3 := by
    rw [hp.mag.1, hq.mag.1, sgn_mul, ← Rat.mul_def']
    exact hr
  have hY : 0 < p.den * q.den := Nat.mul_pos p.den_pos q.den_pos
  have hcn : ∀ (A B : Option Addr) (n m c d : Nat) (V : World), Tr V A n c (p.num.natAbs * q.num.natAbs) → Tr V B m d (p.den * q.den) → Calls Tryz.prog 70 #[.agg #[.bool (b1 != b2), .slice A n c, .slice B m d]] V (RetB V (.agg #[.bool b3, .string m3, .bool false, .string k3])) := by
    intro A B n m c d V hA hB
    refine (rcanonical (b1 != b2) A B n m c d _ _ V (by have := hA.ln; omega) (by have := hB.ln; omega) hA hB hY).mono ?_
    rintro e w3 ⟨b4, m4, k4, rfl, hq4, hb3⟩
    obtain ⟨rfl, rfl, rfl⟩ := hr'.inj hq4
    exact ⟨rfl, hb3⟩
  have HCN := Lib.hid hcn
  have X := Lib.hid ((((Sb.start w).new #[.bool b1, .string m1, .bool false, .string k1] 25).new #[.bool b2, .string m2, .bool false, .string k2] 25).new #[.bool false, .string ⟨#[]⟩, .bool false, .string ⟨#[]⟩] 25)
  have X := Lib.hid (X.out.pick [0, 1, 2] [(w.heap.size, #[.bool b1, .string m1, .bool false, .string k1], 25), (w.heap.size + 1, #[.bool b2, .string m2, .bool false, .string k2], 25), (w.heap.size + 1 + 1, #[.bool false, .string ⟨#[]⟩, .bool false, .string ⟨#[]⟩], 25)] [] (by simp) (by decide) (by simp))
  clear hp hq hr hr' hcn hY n0 n1 n2 n3 n4 n5 s1 s2 s3 s4 ks
  go_enter Tryz.func35, Tryz.ntmps35
  go_upto_region 1 with fail
  go_cut [5, 6] (fun s5 s6 wx => ∃ g5 g6 A1 n1 c1 B1 x1 d1 A3 n3 c3 B3 x3 d3, s5 = .pointer (some ⟨g5, 0, none⟩) ∧ s6 = .pointer (some ⟨g6, 0, none⟩) ∧ Sb w [(w.heap.size + 1 + 1, #[.bool false, .string ⟨#[]⟩, .bool false, .string ⟨#[]⟩], 25), (g5, #[.bool b1, .slice A1 n1 c1, .slice B1 x1 d1], 75), (g6, #[.bool b2, .slice A3 n3 c3, .slice B3 x3 d3], 75)] [(A1, n1, c1, p.num.natAbs), (B1, x1, d1, p.den), (A3, n3, c3, q.num.natAbs), (B3, x3, d3, q.den)] wx)
  case first =>
    refine wp_region_any (by kernel_rfl) ?_
    have X := Lib.hid X.out.drew
    obtain ⟨W0, hV⟩ := wexi X.out
    rw [show ∀ v : World, { v with drawn := v.drawn + 1 } = v.drew from fun _ => rfl, ← hV]
    rw [← hV] at X
    clear hV
    refine rg_run (ef := [.val (.agg #[.bool b1, .string m1, .bool false, .string k1]), .rel (FracP b1 p.num.natAbs p.den), .val (.agg #[.bool b2, .string m2, .bool false, .string k2]), .rel (FracP b2 q.num.natAbs q.den), .new #[.bool false, .slice none 0 0, .slice none 0 0] 75, .new #[.bool false, .slice none 0 0, .slice none 0 0] 75]) (ds := [7, 8, 9, 10, 5, 6]) (by kernel_rfl) (stays_of (List.forall_mem_cons.2 ⟨trivial, (List.forall_mem_cons.2 ⟨fine_frac _ _ _, (List.forall_mem_cons.2 ⟨trivial, (List.forall_mem_cons.2 ⟨fine_frac _ _ _, (List.forall_mem_cons.2 ⟨trivial, (List.forall_mem_cons.2 ⟨trivial, (fun _ h => by simp at h)⟩)⟩)⟩)⟩)⟩)⟩)) (by decide) rfl (by intro d hd; simp at hd ⊢; omega) (fun i d o hd ho listed a w1 hR hdep K hK => ?_) 2 (fun a w1 hR => ?_)
    · have X := Lib.hid (X.out.next hR.bel)
      have HKt := Lib.hid hK
      have HDp := Lib.hid hdep
      have sl2 : a.tmps.getD 2 undef = .pointer (some ⟨w.heap.size, 0, none⟩) := hR.keep 2 (by decide)
      have sl3 : a.tmps.getD 3 undef = .pointer (some ⟨w.heap.size + 1, 0, none⟩) := hR.keep 3 (by decide)
      have HRg := Lib.hid hR
      clear hK hdep hR
      rcases i with _ | _ | _ | _ | _ | _ | i
      · cases hd
        cases ho
        obtain ⟨x00, x01, x02, x03⟩ := X.out.c4 (i := 0) rfl
        obtain ⟨x10, x11, x12, x13⟩ := X.out.c4 (i := 1) rfl
        go_simp
        exact HKt.out _ _ (Or.inl ⟨rfl, Below.refl _ _⟩)
      · cases hd
        cases ho
        have dd0 : a.tmps.getD 7 undef = .agg #[.bool b1, .string m1, .bool false, .string k1] := HRg.out.val 0 _ (HDp.out 0 (by decide)) rfl
        go_simp
        (go_at_call 74; refine (HF1.out _).mono ?_; rintro e u ⟨A9, n9, c9, B9, m9, d9, rfl, hT9, hU9, hb9, _, _⟩)
        try go_wp2_with fail
        exact HKt.out _ _ (Or.inr (Or.inr ⟨_, rfl, ⟨A9, n9, c9, B9, m9, d9, rfl, hT9, hU9⟩, hb9⟩))
      · cases hd
        cases ho
        obtain ⟨x00, x01, x02, x03⟩ := X.out.c4 (i := 0) rfl
        obtain ⟨x10, x11, x12, x13⟩ := X.out.c4 (i := 1) rfl
        go_simp
        exact HKt.out _ _ (Or.inl ⟨rfl, Below.refl _ _⟩)
      · cases hd
        cases ho
        have dd2 : a.tmps.getD 9 undef = .agg #[.bool b2, .string m2, .bool false, .string k2] := HRg.out.val 2 _ (HDp.out 2 (by decide)) rfl
        go_simp
        (go_at_call 74; refine (HF2.out _).mono ?_; rintro e u ⟨A9, n9, c9, B9, m9, d9, rfl, hT9, hU9, hb9, _, _⟩)
        try go_wp2_with fail
        exact HKt.out _ _ (Or.inr (Or.inr ⟨_, rfl, ⟨A9, n9, c9, B9, m9, d9, rfl, hT9, hU9⟩, hb9⟩))
      · cases hd
        cases ho
        go_simp
        exact HKt.out _ _ (Or.inr (Or.inl ⟨_, _, rfl, rfl, rfl⟩))
      · cases hd
        cases ho
        go_simp
        exact HKt.out _ _ (Or.inr (Or.inl ⟨_, _, rfl, rfl, rfl⟩))
      · cases hd
    obtain ⟨g4, hg4, lg4, kg4⟩ := hR.new 4 _ _ (by rfl) rfl
    obtain ⟨g5, hg5, lg5, kg5⟩ := hR.new 5 _ _ (by rfl) rfl
    have vv0 : a.tmps.getD 7 undef = .agg #[.bool b1, .string m1, .bool false, .string k1] := hR.val 0 _ (by rfl) rfl
    obtain ⟨A1, n1, c1, B1, m1, d1, vv1, hT1, hU1⟩ := hR.rel 1 _ (by rfl) rfl
    replace vv1 : a.tmps.getD 8 undef = .agg #[.bool b1, .slice A1 n1 c1, .slice B1 m1 d1] := vv1
    have vv2 : a.tmps.getD 9 undef = .agg #[.bool b2, .string m2, .bool false, .string k2] := hR.val 2 _ (by rfl) rfl
    obtain ⟨A3, n3, c3, B3, m3, d3, vv3, hT3, hU3⟩ := hR.rel 3 _ (by rfl) rfl
    replace vv3 : a.tmps.getD 10 undef = .agg #[.bool b2, .slice A3 n3 c3, .slice B3 m3 d3] := vv3
    replace hg4 : a.tmps.getD 5 undef = .pointer (some ⟨g4, 0, none⟩) := hg4
    replace hg5 : a.tmps.getD 6 undef = .pointer (some ⟨g5, 0, none⟩) := hg5
    have hne : g4 ≠ g5 := fun e => hR.ne 4 5 _ _ _ _ g4 (by decide) (by rfl) (by rfl) rfl rfl hg4 (by rw [e]; exact hg5)
    have X := Lib.hid (X.out.add2 hR.bel lg4 kg4 lg5 kg5 hne)
    have X := Lib.hid (X.out.rows [(A1, n1, c1, p.num.natAbs), (B1, m1, d1, p.den), (A3, n3, c3, q.num.natAbs), (B3, m3, d3, q.den)] (List.forall_mem_cons.2 ⟨hT1, List.forall_mem_cons.2 ⟨hU1, (List.forall_mem_cons.2 ⟨hT3, List.forall_mem_cons.2 ⟨hU3, (fun _ h => by simp at h)⟩⟩)⟩⟩) (by intro x hx; simp at hx; rcases hx with rfl | rfl | rfl | rfl | rfl <;> (intro j k n; rcases j with _ | _ | _ | _ | _ | j <;> simp)))
    have ha := hR.act
    simp only [List.foldl_cons, List.foldl_nil, seti, set0, setS, vv0, vv1, vv2, vv3, hg4, hg5] at ha
    subst ha
    clear hR vv0 vv1 vv2 vv3 hg4 lg4 kg4 hg5 lg5 kg5 hne
    refine wpAny_of_late (S := fun _ => True) (L := []) _ _ _ _ ?_
    refine wpLate_one (i := 6) (o := ⟨none, _, _, _, _, _⟩) (by kernel_rfl) rfl (fun K hK => ?_)
    obtain ⟨x0, x1, x2⟩ := X.out.c3 (i := 3) rfl
    obtain ⟨y0, y1, y2⟩ := X.out.f3 (i := 3) rfl
    have X := Lib.hid (X.out.set3 (i := 3) rfl (.bool b1) (.slice A1 n1 c1) (.slice B1 m1 d1))
    go_simp
    refine hK.out _ _ (Or.inr fun _ => trivial) ?_
    clear hK K x0 x1 x2 y0 y1 y2
    obtain ⟨W6, hV⟩ := wexi X.out
    rw [← hV] at X ⊢
    clear hV
    try simp only [Act.put]
    refine wpLate_one (i := 7) (o := ⟨none, _, _, _, _, _⟩) (by kernel_rfl) rfl (fun K hK => ?_)
    obtain ⟨x0, x1, x2⟩ := X.out.c3 (i := 4) rfl
    obtain ⟨y0, y1, y2⟩ := X.out.f3 (i := 4) rfl
    have X := Lib.hid (X.out.set3 (i := 4) rfl (.bool b2) (.slice A3 n3 c3) (.slice B3 m3 d3))
    go_simp
    refine hK.out _ _ (Or.inr fun _ => trivial) ?_
    clear hK K x0 x1 x2 y0 y1 y2
    obtain ⟨W7, hV⟩ := wexi X.out
    rw [← hV] at X ⊢
    clear hV
    try simp only [Act.put]
    refine wpLate_done (by kernel_rfl) ?_ _
    go_wp2_with fail
    go_meet
    exact ⟨_, _, _, _, _, _, _, _, _, _, _, _, _, _, rfl, rfl, X.out.pick [2, 3, 4] _ _ rfl (by decide) (fun _ h => h)⟩
  obtain ⟨g5, g6, A1, n1, c1, B1, x1, d1, A3, n3, c3, B3, x3, d3, rfl, rfl, hX⟩ := hcut
  have X := Lib.hid hX
  clear hX
  go_upto_region 2 with fail
  refine wp_region_late (S := fun w' => (w'.cell? ⟨g5, 0, none⟩ = some (.bool b1) ∧ w'.cell? ⟨g5, 1, none⟩ = some (.slice A1 n1 c1) ∧ w'.cell? ⟨g5, 2, none⟩ = some (.slice B1 x1 d1)) ∧ (w'.cell? ⟨g6, 0, none⟩ = some (.bool b2) ∧ w'.cell? ⟨g6, 1, none⟩ = some (.slice A3 n3 c3) ∧ w'.cell? ⟨g6, 2, none⟩ = some (.slice B3 x3 d3))) (L := []) (by kernel_rfl) ?_
  have X := Lib.hid X.out.drew
  obtain ⟨V0, hV⟩ := wexi X.out
  rw [← hV] at X ⊢
  clear hV
  refine tk (i := 0) (oi := ⟨some 11, _, _, _, _, _⟩) (v := _) rfl (by kernel_rfl) (fun _ _ _ h => h) (⟨X.out.c3 (i := 1) rfl, X.out.c3 (i := 2) rfl⟩) (Or.inl ⟨by rfl, by intro w hSw; (try dsimp only at hSw); (first | (go_simp; done) | (go_simp; with_reducible rfl))⟩) ?_
  try simp only [Act.put, seti, set0, setS]
  refine tk (i := 1) (oi := ⟨some 12, _, _, _, _, _⟩) (v := _) rfl (by kernel_rfl) (fun _ _ _ h => h) (⟨X.out.c3 (i := 1) rfl, X.out.c3 (i := 2) rfl⟩) (Or.inl ⟨by rfl, by intro w hSw; (try dsimp only at hSw); (first | (go_simp; done) | (go_simp; with_reducible rfl))⟩) ?_
  try simp only [Act.put, seti, set0, setS]
  refine tk (i := 2) (oi := ⟨some 13, _, _, _, _, _⟩) (v := _) rfl (by kernel_rfl) (fun _ _ _ h => h) (⟨X.out.c3 (i := 1) rfl, X.out.c3 (i := 2) rfl⟩) (Or.inl ⟨by rfl, by intro w hSw; (try dsimp only at hSw); (first | (go_simp; done) | (go_simp; with_reducible rfl))⟩) ?_
  try simp only [Act.put, seti, set0, setS]
  refine tk (i := 3) (oi := ⟨some 14, _, _, _, _, _⟩) (v := _) rfl (by kernel_rfl) (fun _ _ _ h => h) (⟨X.out.c3 (i := 1) rfl, X.out.c3 (i := 2) rfl⟩) (Or.inl ⟨by rfl, by intro w hSw; (try dsimp only at hSw); (first | (go_simp; done) | (go_simp; with_reducible rfl))⟩) ?_
  try simp only [Act.put, seti, set0, setS]
  refine tk (i := 4) (oi := ⟨some 15, _, _, _, _, _⟩) (v := _) rfl (by kernel_rfl) (fun _ _ _ h => h) (⟨X.out.c3 (i := 1) rfl, X.out.c3 (i := 2) rfl⟩) (Or.inl ⟨by rfl, by intro w hSw; (try dsimp only at hSw); (first | (go_simp; done) | (go_simp; with_reducible rfl))⟩) ?_
  try simp only [Act.put, seti, set0, setS]
  refine tk (i := 5) (oi := ⟨some 16, _, _, _, _, _⟩) (v := _) rfl (by kernel_rfl) (fun _ _ _ h => h) (⟨X.out.c3 (i := 1) rfl, X.out.c3 (i := 2) rfl⟩) (Or.inl ⟨by rfl, by intro w hSw; (try dsimp only at hSw); (first | (go_simp; done) | (go_simp; with_reducible rfl))⟩) ?_
  try simp only [Act.put, seti, set0, setS]
  refine tk (i := 6) (oi := ⟨some 17, _, _, _, _, _⟩) (v := _) rfl (by kernel_rfl) (fun _ _ _ h => h) (⟨X.out.c3 (i := 1) rfl, X.out.c3 (i := 2) rfl⟩) (Or.inl ⟨by rfl, by intro w hSw; (try dsimp only at hSw); (first | (go_simp; done) | (go_simp; with_reducible rfl))⟩) ?_
  try simp only [Act.put, seti, set0, setS]
  refine tk (i := 7) (oi := ⟨some 18, _, _, _, _, _⟩) (v := _) rfl (by kernel_rfl) (fun _ _ _ h => h) (⟨X.out.c3 (i := 1) rfl, X.out.c3 (i := 2) rfl⟩) (Or.inl ⟨by rfl, by intro w hSw; (try dsimp only at hSw); (first | (go_simp; done) | (go_simp; with_reducible rfl))⟩) ?_
  try simp only [Act.put, seti, set0, setS]
  refine tk (i := 8) (oi := ⟨some 19, _, _, _, _, _⟩) (v := _) rfl (by kernel_rfl) (fun _ _ _ h => h) (⟨X.out.c3 (i := 1) rfl, X.out.c3 (i := 2) rfl⟩) (Or.inl ⟨by rfl, by intro w hSw; (try dsimp only at hSw); (first | (go_simp; done) | (go_simp; with_reducible rfl))⟩) ?_
  try simp only [Act.put, seti, set0, setS]
  refine tk (i := 10) (oi := ⟨some 21, _, _, _, _, _⟩) (v := _) rfl (by kernel_rfl) (fun _ _ _ h => h) (⟨X.out.c3 (i := 1) rfl, X.out.c3 (i := 2) rfl⟩) (Or.inl ⟨by rfl, by intro w hSw; (try dsimp only at hSw); (first | (go_simp; done) | (go_simp; with_reducible rfl))⟩) ?_
  try simp only [Act.put, seti, set0, setS]
  refine tk (i := 11) (oi := ⟨some 22, _, _, _, _, _⟩) (v := _) rfl (by kernel_rfl) (fun _ _ _ h => h) (⟨X.out.c3 (i := 1) rfl, X.out.c3 (i := 2) rfl⟩) (Or.inl ⟨by rfl, by intro w hSw; (try dsimp only at hSw); (first | (go_simp; done) | (go_simp; with_reducible rfl))⟩) ?_
  try simp only [Act.put, seti, set0, setS]
  refine tk (i := 12) (oi := ⟨some 23, _, _, _, _, _⟩) (v := _) rfl (by kernel_rfl) (fun _ _ _ h => h) (⟨X.out.c3 (i := 1) rfl, X.out.c3 (i := 2) rfl⟩) (Or.inl ⟨by rfl, by intro w hSw; (try dsimp only at hSw); (first | (go_simp; done) | (go_simp; with_reducible rfl))⟩) ?_
  try simp only [Act.put, seti, set0, setS]
  refine tk (i := 13) (oi := ⟨some 24, _, _, _, _, _⟩) (v := _) rfl (by kernel_rfl) (fun _ _ _ h => h) (⟨X.out.c3 (i := 1) rfl, X.out.c3 (i := 2) rfl⟩) (Or.inl ⟨by rfl, by intro w hSw; (try dsimp only at hSw); (first | (go_simp; done) | (go_simp; with_reducible rfl))⟩) ?_
  try simp only [Act.put, seti, set0, setS]
  refine wpLate_one (i := 9) (o := ⟨some 20, _, _, _, _, _⟩) (by kernel_rfl) rfl (fun K hK => ?_)
  go_simp
  (go_at_call 75; refine (rtimes _ _ _ _ _ _ _ _ _ (by have h := (X.out.rw (i := 0) rfl).ln; have h2 := HN0.out; omega) (by have h := (X.out.rw (i := 2) rfl).ln; have h2 := HN2.out; omega) (X.out.rw (i := 0) rfl).dg (X.out.rw (i := 2) rfl).dg).mono ?_; rintro e u1 ⟨A1, n1, c1, rfl, ht9, hb9, hf9⟩; have X := Lib.hid (X.out.row hb9 ht9 hf9); clear hb9 ht9 hf9)
  try go_wp2_with fail
  refine hK.out _ _ (Or.inr (fun _ => ⟨X.out.c3 (i := 1) rfl, X.out.c3 (i := 2) rfl⟩)) ?_
  clear hK K
  try simp only [Act.put, seti, set0, setS]
  refine wpLate_one (i := 14) (o := ⟨some 25, _, _, _, _, _⟩) (by kernel_rfl) rfl (fun K hK => ?_)
  go_simp
  (go_at_call 75; refine (rtimes _ _ _ _ _ _ _ _ _ (by have h := (X.out.rw (i := 1) rfl).ln; have h2 := HN1.out; omega) (by have h := (X.out.rw (i := 3) rfl).ln; have h2 := HN3.out; omega) (X.out.rw (i := 1) rfl).dg (X.out.rw (i := 3) rfl).dg).mono ?_; rintro e u2 ⟨A2, n2, c2, rfl, ht9, hb9, hf9⟩; have X := Lib.hid (X.out.row hb9 ht9 hf9); clear hb9 ht9 hf9)
  try go_wp2_with fail
  refine hK.out _ _ (Or.inr (fun _ => ⟨X.out.c3 (i := 1) rfl, X.out.c3 (i := 2) rfl⟩)) ?_
  clear hK K
  try simp only [Act.put, seti, set0, setS]
  refine tk (i := 15) (oi := ⟨some 26, _, _, _, _, _⟩) (v := _) rfl (by kernel_rfl) (fun _ _ _ h => h) (⟨X.out.c3 (i := 1) rfl, X.out.c3 (i := 2) rfl⟩) (Or.inl ⟨by rfl, by intro w hSw; (try dsimp only at hSw); (first | (go_simp; done) | (go_simp; with_reducible rfl))⟩) ?_
  try simp only [Act.put, seti, set0, setS]
  refine wpLate_one (i := 16) (o := ⟨some 27, _, _, _, _, _⟩) (by kernel_rfl) rfl (fun K hK => ?_)
  go_simp
  (go_at_call 70; refine (HCN.out _ _ _ _ _ _ _ (X.out.rw (i := 4) rfl) (X.out.rw (i := 5) rfl)).mono ?_; rintro e u3 ⟨rfl, hb9⟩; have X := Lib.hid (X.out.next hb9); clear hb9)
  try go_wp2_with fail
  refine hK.out _ _ (Or.inr (fun _ => ⟨X.out.c3 (i := 1) rfl, X.out.c3 (i := 2) rfl⟩)) ?_
  clear hK K
  try simp only [Act.put, seti, set0, setS]
  refine wpLate_one (i := 17) (o := ⟨none, _, _, _, _, _⟩) (by kernel_rfl) rfl (fun K hK => ?_)
  obtain ⟨x0, x1, x2, x3⟩ := X.out.c4 (i := 0) rfl
  obtain ⟨y0, y1, y2, y3⟩ := X.out.f4 (i := 0) rfl
  have X := Lib.hid (X.out.set4 (i := 0) rfl (.bool b3) (.string m3) (.bool false) (.string k3))
  go_simp
  refine hK.out _ _ (Or.inr (fun _ => ⟨X.out.c3 (i := 1) rfl, X.out.c3 (i := 2) rfl⟩)) ?_
  clear hK K x0 x1 x2 x3 y0 y1 y2 y3
  try simp only [Act.put, seti, set0, setS]
  obtain ⟨W4, hV⟩ := wexi X.out
  rw [← hV] at X ⊢
  clear hV
  refine wpLate_done (by kernel_rfl) ?_ _
  go_wp2
  obtain ⟨p0, p1, p2, p3⟩ := X.out.c4 (i := 0) rfl
  exact bodyPost_ret (v := .agg #[.bool b3, .string m3, .bool false, .string k3]) (by simp [results, Tryz.results35, go_sem, p0, p1, p2, p3]) rfl ⟨rfl, X.out.bel⟩

set_option maxHeartbeats 16000000 in
set_option maxRecDepth 100000 in
theorem rDiv_f {p q : Rat} {b1 b2 b3 : Bool} {m1 m2 m3 k1 k2 k3 : ByteArray} (hp : Rq p b1 m1 k1) (hq : Rq q b2 m2 k2) (hr : Rq (p / q) b3 m3 k3) (h0 : q.num ≠ 0) (s1 : m1.size ≤ 10000) (s2 : m2.size ≤ 10000) (s3 : (mag p.den).size ≤ 10000) (s4 : (mag q.den).size ≤ 10000) (w : World) :
    Calls Tryz.prog 37 #[.agg #[.bool b1, .string m1, .bool false, .string k1], .agg #[.bool b2, .string m2, .bool false, .string k2]] w (RetB w (.agg #[.bool b3, .string m3, .bool false, .string k3])) := by
  have ks : ∀ {x : Rat} {b : Bool} {m k : ByteArray}, Rq x b m k → (mag x.den).size ≤ 10000 → k.size ≤ 10000 := fun {x b m k} h hs => by
    by_cases hd : x.den = 1
    · rw [h.den1 hd]; exact Nat.zero_le _
    · rw [h.den2 hd]; exact hs
  have HF1 := Lib.hid (fun V => rof2 hp (by omega) (by have := ks hp s3; omega) V)
  have HF2 := Lib.hid (fun V => rof2 hq (by omega) (by have := ks hq s4; omega) V)
  have n0 : nd p.num.natAbs ≤ 10000 := by unfold nd; rw [← hp.mag.2]; exact s1
  have n1 : nd p.den ≤ 10000 := s3
  have n2 : nd q.num.natAbs ≤ 10000 := by unfold nd; rw [← hq.mag.2]; exact s2
  have n3 : nd q.den ≤ 10000 := s4
  have HN0 := Lib.hid n0
  have HN1 := Lib.hid n1
  have HN2 := Lib.hid n2
  have HN3 := Lib.hid n3
  have n4 := nd_mul p.num.natAbs q.den
  have n5 := nd_mul p.den q.num.natAbs
  have hr' : Rq (mkRat (sgn (b1 != b2) (p.num.natAbs * q.den)) (p.den * q.num.natAbs)) b3 m3 k3 := by
    have h1 := mk_divInt (p.num * (q.den : Int)) ((p.den : Int) * q.num) (Int.mul_ne_zero (by have := p.den_nz; omega) h0)
    have e1 : decide (p.num * (q.den : Int) < 0) = b1 := by
      rw [hp.mag.1]
      have := q.den_pos
      exact decide_eq_decide.2 ⟨fun h => by rcases Int.lt_or_le p.num 0 with h2 | h2; exact h2; exact absurd h (by have := Int.mul_nonneg h2 (show (0 : Int) ≤ q.den by omega); omega), fun h => Int.mul_neg_of_neg_of_pos h (by omega)⟩
    have e2 : decide ((p.den : Int) * q.num < 0) = b2 := by
      rw [hq.mag.1]
      have := p.den_pos
      exact decide_eq_decide.2 ⟨fun h => by rcases Int.lt_or_le q.num 0 with h2 | h2; exact h2; exact absurd h (by have := Int.mul_nonneg (show (0 : Int) ≤ p.den by omega) h2; omega), fun h => Int.mul_neg_of_pos_of_neg (by omega) h⟩
    rw [e1, e2, Int.natAbs_mul, Int.natAbs_mul, Int.natAbs_natCast, Int.natAbs_natCast] at h1
    rw [h1]
    have h2 : p / q = Rat.divInt (p.num * (q.den : Int)) ((p.den : Int) * q.num) := by
      rw [Rat.div_def, Rat.inv_def]
      conv => lhs; lhs; rw [← divInt_self2 p]
      exact Rat.divInt_mul_divInt _ _
    rw [← h2]
    exact hr
  have hY : 0 < p.den * q.num.natAbs := Nat.mul_pos p.den_pos (by omega)
  have hcn : ∀ (A B : Option Addr) (n m c d : Nat) (V : World), Tr V A n c (p.num.natAbs * q.den) → Tr V B m d (p.den * q.num.natAbs) → Calls Tryz.prog 70 #[.agg #[.bool (b1 != b2), .slice A n c, .slice B m d]] V (RetB V (.agg #[.bool b3, .string m3, .bool false, .string k3])) := by
    intro A B n m c d V hA hB
    refine (rcanonical (b1 != b2) A B n m c d _ _ V (by have := hA.ln; omega) (by have := hB.ln; omega) hA hB hY).mono ?_
    rintro e w3 ⟨b4, m4, k4, rfl, hq4, hb3⟩
    obtain ⟨rfl, rfl, rfl⟩ := hr'.inj hq4
    exact ⟨rfl, hb3⟩
  have HCN := Lib.hid hcn
  have X := Lib.hid ((((Sb.start w).new #[.bool b1, .string m1, .bool false, .string k1] 25).new #[.bool b2, .string m2, .bool false, .string k2] 25).new #[.bool false, .string ⟨#[]⟩, .bool false, .string ⟨#[]⟩] 25)
  have X := Lib.hid (X.out.pick [0, 1, 2] [(w.heap.size, #[.bool b1, .string m1, .bool false, .string k1], 25), (w.heap.size + 1, #[.bool b2, .string m2, .bool false, .string k2], 25), (w.heap.size + 1 + 1, #[.bool false, .string ⟨#[]⟩, .bool false, .string ⟨#[]⟩], 25)] [] (by simp) (by decide) (by simp))
  clear hp hq hr hr' hcn hY n0 n1 n2 n3 n4 n5 s1 s2 s3 s4 ks h0
  go_enter Tryz.func37, Tryz.ntmps37
  go_upto_region 1 with fail
  go_cut [5, 6] (fun s5 s6 wx => ∃ g5 g6 A1 n1 c1 B1 x1 d1 A3 n3 c3 B3 x3 d3, s5 = .pointer (some ⟨g5, 0, none⟩) ∧ s6 = .pointer (some ⟨g6, 0, none⟩) ∧ Sb w [(w.heap.size + 1 + 1, #[.bool false, .string ⟨#[]⟩, .bool false, .string ⟨#[]⟩], 25), (g5, #[.bool b1, .slice A1 n1 c1, .slice B1 x1 d1], 75), (g6, #[.bool b2, .slice A3 n3 c3, .slice B3 x3 d3], 75)] [(A1, n1, c1, p.num.natAbs), (B1, x1, d1, p.den), (A3, n3, c3, q.num.natAbs), (B3, x3, d3, q.den)] wx)
  case first =>
    refine wp_region_any (by kernel_rfl) ?_
    have X := Lib.hid X.out.drew
    obtain ⟨W0, hV⟩ := wexi X.out
    rw [show ∀ v : World, { v with drawn := v.drawn + 1 } = v.drew from fun _ => rfl, ← hV]
    rw [← hV] at X
    clear hV
    refine rg_run (ef := [.val (.agg #[.bool b1, .string m1, .bool false, .string k1]), .rel (FracP b1 p.num.natAbs p.den), .val (.agg #[.bool b2, .string m2, .bool false, .string k2]), .rel (FracP b2 q.num.natAbs q.den), .new #[.bool false, .slice none 0 0, .slice none 0 0] 75, .new #[.bool false, .slice none 0 0, .slice none 0 0] 75]) (ds := [7, 8, 9, 10, 5, 6]) (by kernel_rfl) (stays_of (List.forall_mem_cons.2 ⟨trivial, (List.forall_mem_cons.2 ⟨fine_frac _ _ _, (List.forall_mem_cons.2 ⟨trivial, (List.forall_mem_cons.2 ⟨fine_frac _ _ _, (List.forall_mem_cons.2 ⟨trivial, (List.forall_mem_cons.2 ⟨trivial, (fun _ h => by simp at h)⟩)⟩)⟩)⟩)⟩)⟩)) (by decide) rfl (by intro d hd; simp at hd ⊢; omega) (fun i d o hd ho listed a w1 hR hdep K hK => ?_) 2 (fun a w1 hR => ?_)
    · have X := Lib.hid (X.out.next hR.bel)
      have HKt := Lib.hid hK
      have HDp := Lib.hid hdep
      have sl2 : a.tmps.getD 2 undef = .pointer (some ⟨w.heap.size, 0, none⟩) := hR.keep 2 (by decide)
      have sl3 : a.tmps.getD 3 undef = .pointer (some ⟨w.heap.size + 1, 0, none⟩) := hR.keep 3 (by decide)
      have HRg := Lib.hid hR
      clear hK hdep hR
      rcases i with _ | _ | _ | _ | _ | _ | i
      · cases hd
        cases ho
        obtain ⟨x00, x01, x02, x03⟩ := X.out.c4 (i := 0) rfl
        obtain ⟨x10, x11, x12, x13⟩ := X.out.c4 (i := 1) rfl
        go_simp
        exact HKt.out _ _ (Or.inl ⟨rfl, Below.refl _ _⟩)
      · cases hd
        cases ho
        have dd0 : a.tmps.getD 7 undef = .agg #[.bool b1, .string m1, .bool false, .string k1] := HRg.out.val 0 _ (HDp.out 0 (by decide)) rfl
        go_simp
        (go_at_call 74; refine (HF1.out _).mono ?_; rintro e u ⟨A9, n9, c9, B9, m9, d9, rfl, hT9, hU9, hb9, _, _⟩)
        try go_wp2_with fail
        exact HKt.out _ _ (Or.inr (Or.inr ⟨_, rfl, ⟨A9, n9, c9, B9, m9, d9, rfl, hT9, hU9⟩, hb9⟩))
      · cases hd
        cases ho
        obtain ⟨x00, x01, x02, x03⟩ := X.out.c4 (i := 0) rfl
        obtain ⟨x10, x11, x12, x13⟩ := X.out.c4 (i := 1) rfl
        go_simp
        exact HKt.out _ _ (Or.inl ⟨rfl, Below.refl _ _⟩)
      · cases hd
        cases ho
        have dd2 : a.tmps.getD 9 undef = .agg #[.bool b2, .string m2, .bool false, .string k2] := HRg.out.val 2 _ (HDp.out 2 (by decide)) rfl
        go_simp
        (go_at_call 74; refine (HF2.out _).mono ?_; rintro e u ⟨A9, n9, c9, B9, m9, d9, rfl, hT9, hU9, hb9, _, _⟩)
        try go_wp2_with fail
        exact HKt.out _ _ (Or.inr (Or.inr ⟨_, rfl, ⟨A9, n9, c9, B9, m9, d9, rfl, hT9, hU9⟩, hb9⟩))
      · cases hd
        cases ho
        go_simp
        exact HKt.out _ _ (Or.inr (Or.inl ⟨_, _, rfl, rfl, rfl⟩))
      · cases hd
        cases ho
        go_simp
        exact HKt.out _ _ (Or.inr (Or.inl ⟨_, _, rfl, rfl, rfl⟩))
      · cases hd
    obtain ⟨g4, hg4, lg4, kg4⟩ := hR.new 4 _ _ (by rfl) rfl
    obtain ⟨g5, hg5, lg5, kg5⟩ := hR.new 5 _ _ (by rfl) rfl
    have vv0 : a.tmps.getD 7 undef = .agg #[.bool b1, .string m1, .bool false, .string k1] := hR.val 0 _ (by rfl) rfl
    obtain ⟨A1, n1, c1, B1, m1, d1, vv1, hT1, hU1⟩ := hR.rel 1 _ (by rfl) rfl
    replace vv1 : a.tmps.getD 8 undef = .agg #[.bool b1, .slice A1 n1 c1, .slice B1 m1 d1] := vv1
    have vv2 : a.tmps.getD 9 undef = .agg #[.bool b2, .string m2, .bool false, .string k2] := hR.val 2 _ (by rfl) rfl
    obtain ⟨A3, n3, c3, B3, m3, d3, vv3, hT3, hU3⟩ := hR.rel 3 _ (by rfl) rfl
    replace vv3 : a.tmps.getD 10 undef = .agg #[.bool b2, .slice A3 n3 c3, .slice B3 m3 d3] := vv3
    replace hg4 : a.tmps.getD 5 undef = .pointer (some ⟨g4, 0, none⟩) := hg4
    replace hg5 : a.tmps.getD 6 undef = .pointer (some ⟨g5, 0, none⟩) := hg5
    have hne : g4 ≠ g5 := fun e => hR.ne 4 5 _ _ _ _ g4 (by decide) (by rfl) (by rfl) rfl rfl hg4 (by rw [e]; exact hg5)
    have X := Lib.hid (X.out.add2 hR.bel lg4 kg4 lg5 kg5 hne)
    have X := Lib.hid (X.out.rows [(A1, n1, c1, p.num.natAbs), (B1, m1, d1, p.den), (A3, n3, c3, q.num.natAbs), (B3, m3, d3, q.den)] (List.forall_mem_cons.2 ⟨hT1, List.forall_mem_cons.2 ⟨hU1, (List.forall_mem_cons.2 ⟨hT3, List.forall_mem_cons.2 ⟨hU3, (fun _ h => by simp at h)⟩⟩)⟩⟩) (by intro x hx; simp at hx; rcases hx with rfl | rfl | rfl | rfl | rfl <;> (intro j k n; rcases j with _ | _ | _ | _ | _ | j <;> simp)))
    have ha := hR.act
    simp only [List.foldl_cons, List.foldl_nil, seti, set0, setS, vv0, vv1, vv2, vv3, hg4, hg5] at ha
    subst ha
    clear hR vv0 vv1 vv2 vv3 hg4 lg4 kg4 hg5 lg5 kg5 hne
    refine wpAny_of_late (S := fun _ => True) (L := []) _ _ _ _ ?_
    refine wpLate_one (i := 6) (o := ⟨none, _, _, _, _, _⟩) (by kernel_rfl) rfl (fun K hK => ?_)
    obtain ⟨x0, x1, x2⟩ := X.out.c3 (i := 3) rfl
    obtain ⟨y0, y1, y2⟩ := X.out.f3 (i := 3) rfl
    have X := Lib.hid (X.out.set3 (i := 3) rfl (.bool b1) (.slice A1 n1 c1) (.slice B1 m1 d1))
    go_simp
    refine hK.out _ _ (Or.inr fun _ => trivial) ?_
    clear hK K x0 x1 x2 y0 y1 y2
    obtain ⟨W6, hV⟩ := wexi X.out
    rw [← hV] at X ⊢
    clear hV
    try simp only [Act.put]
    refine wpLate_one (i := 7) (o := ⟨none, _, _, _, _, _⟩) (by kernel_rfl) rfl (fun K hK => ?_)
    obtain ⟨x0, x1, x2⟩ := X.out.c3 (i := 4) rfl
    obtain ⟨y0, y1, y2⟩ := X.out.f3 (i := 4) rfl
    have X := Lib.hid (X.out.set3 (i := 4) rfl (.bool b2) (.slice A3 n3 c3) (.slice B3 m3 d3))
    go_simp
    refine hK.out _ _ (Or.inr fun _ => trivial) ?_
    clear hK K x0 x1 x2 y0 y1 y2
    obtain ⟨W7, hV⟩ := wexi X.out
    rw [← hV] at X ⊢
    clear hV
    try simp only [Act.put]
    refine wpLate_done (by kernel_rfl) ?_ _
    go_wp2_with fail
    go_meet
    exact ⟨_, _, _, _, _, _, _, _, _, _, _, _, _, _, rfl, rfl, X.out.pick [2, 3, 4] _ _ rfl (by decide) (fun _ h => h)⟩
  obtain ⟨g5, g6, A1, n1, c1, B1, x1, d1, A3, n3, c3, B3, x3, d3, rfl, rfl, hX⟩ := hcut
  have X := Lib.hid hX
  clear hX
  go_upto_region 2 with fail
  refine wp_region_late (S := fun w' => (w'.cell? ⟨g5, 0, none⟩ = some (.bool b1) ∧ w'.cell? ⟨g5, 1, none⟩ = some (.slice A1 n1 c1) ∧ w'.cell? ⟨g5, 2, none⟩ = some (.slice B1 x1 d1)) ∧ (w'.cell? ⟨g6, 0, none⟩ = some (.bool b2) ∧ w'.cell? ⟨g6, 1, none⟩ = some (.slice A3 n3 c3) ∧ w'.cell? ⟨g6, 2, none⟩ = some (.slice B3 x3 d3))) (L := []) (by kernel_rfl) ?_
  have X := Lib.hid X.out.drew
  obtain ⟨V0, hV⟩ := wexi X.out
  rw [← hV] at X ⊢
  clear hV
  refine tk (i := 0) (oi := ⟨some 11, _, _, _, _, _⟩) (v := _) rfl (by kernel_rfl) (fun _ _ _ h => h) (⟨X.out.c3 (i := 1) rfl, X.out.c3 (i := 2) rfl⟩) (Or.inl ⟨by rfl, by intro w hSw; (try dsimp only at hSw); (first | (go_simp; done) | (go_simp; with_reducible rfl))⟩) ?_
  try simp only [Act.put, seti, set0, setS]
  refine tk (i := 1) (oi := ⟨some 12, _, _, _, _, _⟩) (v := _) rfl (by kernel_rfl) (fun _ _ _ h => h) (⟨X.out.c3 (i := 1) rfl, X.out.c3 (i := 2) rfl⟩) (Or.inl ⟨by rfl, by intro w hSw; (try dsimp only at hSw); (first | (go_simp; done) | (go_simp; with_reducible rfl))⟩) ?_
  try simp only [Act.put, seti, set0, setS]
  refine tk (i := 2) (oi := ⟨some 13, _, _, _, _, _⟩) (v := _) rfl (by kernel_rfl) (fun _ _ _ h => h) (⟨X.out.c3 (i := 1) rfl, X.out.c3 (i := 2) rfl⟩) (Or.inl ⟨by rfl, by intro w hSw; (try dsimp only at hSw); (first | (go_simp; done) | (go_simp; with_reducible rfl))⟩) ?_
  try simp only [Act.put, seti, set0, setS]
  refine tk (i := 3) (oi := ⟨some 14, _, _, _, _, _⟩) (v := _) rfl (by kernel_rfl) (fun _ _ _ h => h) (⟨X.out.c3 (i := 1) rfl, X.out.c3 (i := 2) rfl⟩) (Or.inl ⟨by rfl, by intro w hSw; (try dsimp only at hSw); (first | (go_simp; done) | (go_simp; with_reducible rfl))⟩) ?_
  try simp only [Act.put, seti, set0, setS]
  refine tk (i := 4) (oi := ⟨some 15, _, _, _, _, _⟩) (v := _) rfl (by kernel_rfl) (fun _ _ _ h => h) (⟨X.out.c3 (i := 1) rfl, X.out.c3 (i := 2) rfl⟩) (Or.inl ⟨by rfl, by intro w hSw; (try dsimp only at hSw); (first | (go_simp; done) | (go_simp; with_reducible rfl))⟩) ?_
  try simp only [Act.put, seti, set0, setS]
  refine tk (i := 5) (oi := ⟨some 16, _, _, _, _, _⟩) (v := _) rfl (by kernel_rfl) (fun _ _ _ h => h) (⟨X.out.c3 (i := 1) rfl, X.out.c3 (i := 2) rfl⟩) (Or.inl ⟨by rfl, by intro w hSw; (try dsimp only at hSw); (first | (go_simp; done) | (go_simp; with_reducible rfl))⟩) ?_
  try simp only [Act.put, seti, set0, setS]
  refine tk (i := 6) (oi := ⟨some 17, _, _, _, _, _⟩) (v := _) rfl (by kernel_rfl) (fun _ _ _ h => h) (⟨X.out.c3 (i := 1) rfl, X.out.c3 (i := 2) rfl⟩) (Or.inl ⟨by rfl, by intro w hSw; (try dsimp only at hSw); (first | (go_simp; done) | (go_simp; with_reducible rfl))⟩) ?_
  try simp only [Act.put, seti, set0, setS]
  refine tk (i := 7) (oi := ⟨some 18, _, _, _, _, _⟩) (v := _) rfl (by kernel_rfl) (fun _ _ _ h => h) (⟨X.out.c3 (i := 1) rfl, X.out.c3 (i := 2) rfl⟩) (Or.inl ⟨by rfl, by intro w hSw; (try dsimp only at hSw); (first | (go_simp; done) | (go_simp; with_reducible rfl))⟩) ?_
  try simp only [Act.put, seti, set0, setS]
  refine tk (i := 8) (oi := ⟨some 19, _, _, _, _, _⟩) (v := _) rfl (by kernel_rfl) (fun _ _ _ h => h) (⟨X.out.c3 (i := 1) rfl, X.out.c3 (i := 2) rfl⟩) (Or.inl ⟨by rfl, by intro w hSw; (try dsimp only at hSw); (first | (go_simp; done) | (go_simp; with_reducible rfl))⟩) ?_
  try simp only [Act.put, seti, set0, setS]
  refine tk (i := 10) (oi := ⟨some 21, _, _, _, _, _⟩) (v := _) rfl (by kernel_rfl) (fun _ _ _ h => h) (⟨X.out.c3 (i := 1) rfl, X.out.c3 (i := 2) rfl⟩) (Or.inl ⟨by rfl, by intro w hSw; (try dsimp only at hSw); (first | (go_simp; done) | (go_simp; with_reducible rfl))⟩) ?_
  try simp only [Act.put, seti, set0, setS]
  refine tk (i := 11) (oi := ⟨some 22, _, _, _, _, _⟩) (v := _) rfl (by kernel_rfl) (fun _ _ _ h => h) (⟨X.out.c3 (i := 1) rfl, X.out.c3 (i := 2) rfl⟩) (Or.inl ⟨by rfl, by intro w hSw; (try dsimp only at hSw); (first | (go_simp; done) | (go_simp; with_reducible rfl))⟩) ?_
  try simp only [Act.put, seti, set0, setS]
  refine tk (i := 12) (oi := ⟨some 23, _, _, _, _, _⟩) (v := _) rfl (by kernel_rfl) (fun _ _ _ h => h) (⟨X.out.c3 (i := 1) rfl, X.out.c3 (i := 2) rfl⟩) (Or.inl ⟨by rfl, by intro w hSw; (try dsimp only at hSw); (first | (go_simp; done) | (go_simp; with_reducible rfl))⟩) ?_
  try simp only [Act.put, seti, set0, setS]
  refine tk (i := 13) (oi := ⟨some 24, _, _, _, _, _⟩) (v := _) rfl (by kernel_rfl) (fun _ _ _ h => h) (⟨X.out.c3 (i := 1) rfl, X.out.c3 (i := 2) rfl⟩) (Or.inl ⟨by rfl, by intro w hSw; (try dsimp only at hSw); (first | (go_simp; done) | (go_simp; with_reducible rfl))⟩) ?_
  try simp only [Act.put, seti, set0, setS]
  refine wpLate_one (i := 9) (o := ⟨some 20, _, _, _, _, _⟩) (by kernel_rfl) rfl (fun K hK => ?_)
  go_simp
  (go_at_call 75; refine (rtimes _ _ _ _ _ _ _ _ _ (by have h := (X.out.rw (i := 0) rfl).ln; have h2 := HN0.out; omega) (by have h := (X.out.rw (i := 3) rfl).ln; have h2 := HN3.out; omega) (X.out.rw (i := 0) rfl).dg (X.out.rw (i := 3) rfl).dg).mono ?_; rintro e u1 ⟨A1, n1, c1, rfl, ht9, hb9, hf9⟩; have X := Lib.hid (X.out.row hb9 ht9 hf9); clear hb9 ht9 hf9)
  try go_wp2_with fail
  refine hK.out _ _ (Or.inr (fun _ => ⟨X.out.c3 (i := 1) rfl, X.out.c3 (i := 2) rfl⟩)) ?_
  clear hK K
  try simp only [Act.put, seti, set0, setS]
  refine wpLate_one (i := 14) (o := ⟨some 25, _, _, _, _, _⟩) (by kernel_rfl) rfl (fun K hK => ?_)
  go_simp
  (go_at_call 75; refine (rtimes _ _ _ _ _ _ _ _ _ (by have h := (X.out.rw (i := 1) rfl).ln; have h2 := HN1.out; omega) (by have h := (X.out.rw (i := 2) rfl).ln; have h2 := HN2.out; omega) (X.out.rw (i := 1) rfl).dg (X.out.rw (i := 2) rfl).dg).mono ?_; rintro e u2 ⟨A2, n2, c2, rfl, ht9, hb9, hf9⟩; have X := Lib.hid (X.out.row hb9 ht9 hf9); clear hb9 ht9 hf9)
  try go_wp2_with fail
  refine hK.out _ _ (Or.inr (fun _ => ⟨X.out.c3 (i := 1) rfl, X.out.c3 (i := 2) rfl⟩)) ?_
  clear hK K
  try simp only [Act.put, seti, set0, setS]
  refine tk (i := 15) (oi := ⟨some 26, _, _, _, _, _⟩) (v := _) rfl (by kernel_rfl) (fun _ _ _ h => h) (⟨X.out.c3 (i := 1) rfl, X.out.c3 (i := 2) rfl⟩) (Or.inl ⟨by rfl, by intro w hSw; (try dsimp only at hSw); (first | (go_simp; done) | (go_simp; with_reducible rfl))⟩) ?_
  try simp only [Act.put, seti, set0, setS]
  refine wpLate_one (i := 16) (o := ⟨some 27, _, _, _, _, _⟩) (by kernel_rfl) rfl (fun K hK => ?_)
  go_simp
  (go_at_call 70; refine (HCN.out _ _ _ _ _ _ _ (X.out.rw (i := 4) rfl) (X.out.rw (i := 5) rfl)).mono ?_; rintro e u3 ⟨rfl, hb9⟩; have X := Lib.hid (X.out.next hb9); clear hb9)
  try go_wp2_with fail
  refine hK.out _ _ (Or.inr (fun _ => ⟨X.out.c3 (i := 1) rfl, X.out.c3 (i := 2) rfl⟩)) ?_
  clear hK K
  try simp only [Act.put, seti, set0, setS]
  refine wpLate_one (i := 17) (o := ⟨none, _, _, _, _, _⟩) (by kernel_rfl) rfl (fun K hK => ?_)
  obtain ⟨x0, x1, x2, x3⟩ := X.out.c4 (i := 0) rfl
  obtain ⟨y0, y1, y2, y3⟩ := X.out.f4 (i := 0) rfl
  have X := Lib.hid (X.out.set4 (i := 0) rfl (.bool b3) (.string m3) (.bool false) (.string k3))
  go_simp
  refine hK.out _ _ (Or.inr (fun _ => ⟨X.out.c3 (i := 1) rfl, X.out.c3 (i := 2) rfl⟩)) ?_
  clear hK K x0 x1 x2 x3 y0 y1 y2 y3
  try simp only [Act.put, seti, set0, setS]
  obtain ⟨W4, hV⟩ := wexi X.out
  rw [← hV] at X ⊢
  clear hV
  refine wpLate_done (by kernel_rfl) ?_ _
  go_wp2
  obtain ⟨p0, p1, p2, p3⟩ := X.out.c4 (i := 0) rfl
  exact bodyPost_ret (v := .agg #[.bool b3, .string m3, .bool false, .string k3]) (by simp [results, Tryz.results37, go_sem, p0, p1, p2, p3]) rfl ⟨rfl, X.out.bel⟩
end Go.Proofs.YtahehlajpaoiiaaGreatDoor


namespace Go.Proofs.YtahehlajpaoiiaaGreatDoor
open Go.RowKit
attribute [local go_sem ↓] Go.wp_at_zero Go.wp_at_succ
attribute [local go_sem] undef yielded

set_option maxHeartbeats 16000000 in
set_option maxRecDepth 100000 in
theorem rCheck_yes {q : Rat} {b : Bool} {m k : ByteArray} (hq : Rq q b m k) (s1 : m.size ≤ 100000) (s2 : k.size ≤ 100000) (w : World) :
    Calls Tryz.prog 16 #[.agg #[.bool b, .string m, .bool false, .string k]] w (RetB w (.bool true)) := by
  have HC1 := Lib.hid (fun V => isInt_any b m V)
  have HC2 := Lib.hid (fun V => isInt_any false k V)
  rw [canon_yes hq.num] at HC1
  by_cases hd : q.den = 1
  · obtain rfl := hq.den1 hd
    rw [canon_yes (enc_nought)] at HC2
    clear hd hq
    have X := Lib.hid ((Sb.start w).new #[.bool b, .string m, .bool false, .string ⟨#[]⟩] 25)
    have X := Lib.hid (X.out.pick [0] [(w.heap.size, #[.bool b, .string m, .bool false, .string ⟨#[]⟩], 25)] [] (by simp) (by decide) (by simp))
    obtain ⟨a0, a1, a2, a3⟩ := X.out.c4 (i := 0) rfl
    go_enter Tryz.func16, Tryz.ntmps16
    go_wp2_with fail
    refine (HC1.out _).mono ?_
    rintro e w1 ⟨rfl, hb9⟩
    have X := Lib.hid (X.out.next hb9)
    clear hb9
    clear a0 a1 a2 a3
    obtain ⟨a0, a1, a2, a3⟩ := X.out.c4 (i := 0) rfl
    go_wp2_with fail
    refine (HC2.out _).mono ?_
    rintro e w2 ⟨rfl, hb9⟩
    have X := Lib.hid (X.out.next hb9)
    clear hb9
    clear a0 a1 a2 a3
    obtain ⟨a0, a1, a2, a3⟩ := X.out.c4 (i := 0) rfl
    go_wp2
    go_ret
    exact ⟨rfl, X.out.bel⟩
  · have hk := hq.den2 hd
    have hyd : enc ((q.den : Nat) : Int) = .agg #[.bool false, .string k] := by rw [hk]; exact enc_mag q.den
    rw [canon_yes hyd] at HC2
    have hkn := toList_ne (l := [1]) (show k ≠ ⟨#[1]⟩ from by rw [hk]; exact mag_no_one hd)
    have hkn2 : ¬ [1] = k.toList := fun e => hkn e.symm
    have hk0 : k.toList.isEmpty = false := by
      rw [List.isEmpty_eq_false_iff]
      exact toList_ne (l := []) (by rw [hk]; exact mag_no_nil q.den_nz)
    have hg6 : Nat.gcd (bval m) (bval k) = 1 := by rw [hq.bval, hk, bval_mag]; exact q.reduced
    have HD1 := Lib.hid (fun V => rdigits b m V (by omega))
    have HD2 := Lib.hid (fun V => rdigits false k V (by omega))
    have HN0 := Lib.hid (show nd (bval m) ≤ 100000 from Nat.le_trans (nd_le (bval_lt m)) s1)
    have HN1 := Lib.hid (show nd (bval k) ≤ 100000 from Nat.le_trans (nd_le (bval_lt k)) s2)
    have HG6 := Lib.hid hg6
    clear hd hk hyd hq hg6
    have X := Lib.hid ((Sb.start w).new #[.bool b, .string m, .bool false, .string k] 25)
    have X := Lib.hid (X.out.pick [0] [(w.heap.size, #[.bool b, .string m, .bool false, .string k], 25)] [] (by simp) (by decide) (by simp))
    obtain ⟨a0, a1, a2, a3⟩ := X.out.c4 (i := 0) rfl
    go_enter Tryz.func16, Tryz.ntmps16
    go_wp2_with fail
    refine (HC1.out _).mono ?_
    rintro e w1 ⟨rfl, hb9⟩
    have X := Lib.hid (X.out.next hb9)
    clear hb9
    clear a0 a1 a2 a3
    obtain ⟨a0, a1, a2, a3⟩ := X.out.c4 (i := 0) rfl
    go_wp2_with fail
    refine (HC2.out _).mono ?_
    rintro e w2 ⟨rfl, hb9⟩
    have X := Lib.hid (X.out.next hb9)
    clear hb9
    clear a0 a1 a2 a3
    obtain ⟨a0, a1, a2, a3⟩ := X.out.c4 (i := 0) rfl
    go_upto_region 5 with fail
    clear a0 a1 a2 a3
    refine wp_region_late (S := fun w' => (w'.cell? ⟨w.heap.size, 0, none⟩ = some (.bool b) ∧ w'.cell? ⟨w.heap.size, 1, none⟩ = some (.string m) ∧ w'.cell? ⟨w.heap.size, 2, none⟩ = some (.bool false) ∧ w'.cell? ⟨w.heap.size, 3, none⟩ = some (.string k))) (L := []) (by kernel_rfl) ?_
    have X := Lib.hid X.out.drew
    obtain ⟨V0, hV⟩ := wexi X.out
    rw [← hV] at X ⊢
    clear hV
    refine tk (i := 0) (oi := ⟨some 23, _, _, _, _, _⟩) (v := _) rfl (by kernel_rfl) (fun _ _ _ h => h) (X.out.c4 (i := 0) rfl) (Or.inl ⟨by rfl, by intro w hSw; (try dsimp only at hSw); (first | (go_simp; done) | (go_simp; with_reducible rfl))⟩) ?_
    try simp only [Act.put, seti, set0, setS]
    refine tk (i := 1) (oi := ⟨some 24, _, _, _, _, _⟩) (v := _) rfl (by kernel_rfl) (fun _ _ _ h => h) (X.out.c4 (i := 0) rfl) (Or.inl ⟨by rfl, by intro w hSw; (try dsimp only at hSw); (first | (go_simp; done) | (go_simp; with_reducible rfl))⟩) ?_
    try simp only [Act.put, seti, set0, setS]
    refine tk (i := 3) (oi := ⟨some 26, _, _, _, _, _⟩) (v := _) rfl (by kernel_rfl) (fun _ _ _ h => h) (X.out.c4 (i := 0) rfl) (Or.inl ⟨by rfl, by intro w hSw; (try dsimp only at hSw); (first | (go_simp; done) | (go_simp; with_reducible rfl))⟩) ?_
    try simp only [Act.put, seti, set0, setS]
    refine tk (i := 4) (oi := ⟨some 27, _, _, _, _, _⟩) (v := _) rfl (by kernel_rfl) (fun _ _ _ h => h) (X.out.c4 (i := 0) rfl) (Or.inl ⟨by rfl, by intro w hSw; (try dsimp only at hSw); (first | (go_simp; done) | (go_simp; with_reducible rfl))⟩) ?_
    try simp only [Act.put, seti, set0, setS]
    refine wpLate_one (i := 2) (o := ⟨some 25, _, _, _, _, _⟩) (by kernel_rfl) rfl (fun K hK => ?_)
    go_simp
    (go_at_call 59; refine (HD1.out _).mono ?_; rintro e u1 ⟨A1, n1, c1, rfl, ht9, hb9, hf9⟩; have X := Lib.hid (X.out.row hb9 ht9 hf9); clear hb9 ht9 hf9)
    try go_wp2_with fail
    refine hK.out _ _ (Or.inr (fun _ => X.out.c4 (i := 0) rfl)) ?_
    clear hK K
    try simp only [Act.put, seti, set0, setS]
    refine wpLate_one (i := 5) (o := ⟨some 28, _, _, _, _, _⟩) (by kernel_rfl) rfl (fun K hK => ?_)
    go_simp
    (go_at_call 59; refine (HD2.out _).mono ?_; rintro e u2 ⟨A2, n2, c2, rfl, ht9, hb9, hf9⟩; have X := Lib.hid (X.out.row hb9 ht9 hf9); clear hb9 ht9 hf9)
    try go_wp2_with fail
    refine hK.out _ _ (Or.inr (fun _ => X.out.c4 (i := 0) rfl)) ?_
    clear hK K
    try simp only [Act.put, seti, set0, setS]
    refine wpLate_one (i := 6) (o := ⟨some 29, _, _, _, _, _⟩) (by kernel_rfl) rfl (fun K hK => ?_)
    go_simp
    (go_at_call 58; refine (rcommon _ _ _ _ _ _ _ _ _ (by have h := (X.out.rw (i := 0) rfl).ln; have h2 := HN0.out; omega) (by have h := (X.out.rw (i := 1) rfl).ln; have h2 := HN1.out; omega) (X.out.rw (i := 0) rfl) (X.out.rw (i := 1) rfl)).mono ?_; rintro e u3 ⟨A3, n3, c3, rfl, ht9, hb9⟩; have TG := Lib.hid ht9; have X := Lib.hid (X.out.next hb9); clear hb9 ht9)
    try go_wp2_with fail
    refine hK.out _ _ (Or.inr (fun _ => X.out.c4 (i := 0) rfl)) ?_
    clear hK K
    try simp only [Act.put, seti, set0, setS]
    refine tk (i := 7) (oi := ⟨some 3, _, _, _, _, _⟩) (v := _) rfl (by kernel_rfl) (fun _ _ _ h => h) (X.out.c4 (i := 0) rfl) (Or.inl ⟨by rfl, by intro w hSw; (try dsimp only at hSw); (first | (go_simp; done) | (go_simp; with_reducible rfl))⟩) ?_
    try simp only [Act.put, seti, set0, setS]
    refine wpLate_done (by kernel_rfl) ?_ _
    obtain ⟨AG, hAG⟩ : ∃ A, A = A3 := ⟨_, rfl⟩
    obtain ⟨nG, hnG⟩ : ∃ A, A = n3 := ⟨_, rfl⟩
    rw [← hAG, ← hnG] at TG ⊢
    clear hAG hnG
    obtain ⟨a0, a1, a2, a3⟩ := X.out.c4 (i := 0) rfl
    have TG := TG
    rw [HG6.out] at TG
    have hn1 : nG = 1 := by rw [TG.out.ln]; exact nd_one
    have hn0 : 0 < nG := by omega
    obtain ⟨gb, go, rfl, _, hcl⟩ := TG.out.dg.rd hn0
    have hc0 := hcl 0 hn0
    rw [Nat.add_zero] at hc0
    have hd1 : (D 256 1 0 : Nat) = 1 := by decide
    rw [hd1] at hc0
    have hlen : ((nG : Int) == 1) = true := by rw [hn1]; rfl
    clear hcl
    go_wp2
    go_ret
    have hkb : (k.toList == [1]) = false := by simpa using hkn
    exact ⟨by show Ending.returned (.bool (!(k.toList == [1]))) = _; rw [hkb]; rfl, X.out.bel⟩
end Go.Proofs.YtahehlajpaoiiaaGreatDoor


namespace Go.Proofs.YtahehlajpaoiiaaGreatDoor
open Go.RowKit
attribute [local go_sem ↓] Go.wp_at_zero Go.wp_at_succ

set_option maxHeartbeats 4000000 in
set_option maxRecDepth 100000 in
theorem valid2 {p q : Rat} {b1 b2 : Bool} {m1 m2 k1 k2 : ByteArray} (hp : Rq p b1 m1 k1) (hq : Rq q b2 m2 k2) (s1 : m1.size ≤ 100000) (s2 : m2.size ≤ 100000) (s3 : k1.size ≤ 100000) (s4 : k2.size ≤ 100000) (g : Nat) (w : World) (hg : g < w.heap.size)
    (c0 : w.cell? ⟨g, 0, none⟩ = some (.bool b1)) (c1 : w.cell? ⟨g, 1, none⟩ = some (.string m1)) (c2 : w.cell? ⟨g, 2, none⟩ = some (.bool false)) (c3 : w.cell? ⟨g, 3, none⟩ = some (.string k1))
    (d0 : w.cell? ⟨g, 4, none⟩ = some (.bool b2)) (d1 : w.cell? ⟨g, 5, none⟩ = some (.string m2)) (d2 : w.cell? ⟨g, 6, none⟩ = some (.bool false)) (d3 : w.cell? ⟨g, 7, none⟩ = some (.string k2)) :
    Calls Tryz.prog 32 #[.slice (some ⟨g, 0, none⟩) 2 2] w (RetB w (.bool true)) := by
  have HC1 := Lib.hid (fun V => rCheck_yes hp s1 s3 V)
  have HC2 := Lib.hid (fun V => rCheck_yes hq s2 s4 V)
  have hall : ∀ V, Below w.heap.size w V → (V.cell? ⟨g, 0, none⟩ = some (.bool b1) ∧ V.cell? ⟨g, 1, none⟩ = some (.string m1) ∧ V.cell? ⟨g, 2, none⟩ = some (.bool false) ∧ V.cell? ⟨g, 3, none⟩ = some (.string k1)) ∧ (V.cell? ⟨g, 4, none⟩ = some (.bool b2) ∧ V.cell? ⟨g, 5, none⟩ = some (.string m2) ∧ V.cell? ⟨g, 6, none⟩ = some (.bool false) ∧ V.cell? ⟨g, 7, none⟩ = some (.string k2)) := fun V hb =>
    ⟨⟨(hb.cell (p := ⟨g, 0, none⟩) hg).trans c0, (hb.cell (p := ⟨g, 1, none⟩) hg).trans c1, (hb.cell (p := ⟨g, 2, none⟩) hg).trans c2, (hb.cell (p := ⟨g, 3, none⟩) hg).trans c3⟩, (hb.cell (p := ⟨g, 4, none⟩) hg).trans d0, (hb.cell (p := ⟨g, 5, none⟩) hg).trans d1, (hb.cell (p := ⟨g, 6, none⟩) hg).trans d2, (hb.cell (p := ⟨g, 7, none⟩) hg).trans d3⟩
  have HA := Lib.hid hall
  clear hall c0 c1 c2 c3 d0 d1 d2 d3 hp hq s1 s2 s3 s4
  go_enter Tryz.func32, Tryz.ntmps32
  go_wp2
  go_loopw [3] (fun i wr => ∃ k : Nat, k ≤ 2 ∧ i = .int .i64 (k : Int) ∧ Hid (Below w.heap.size w wr)) (fun i _ => (2 - intOf i).toNat)
  case atStart => exact ⟨0, by omega, rfl, Below.refl _ _⟩
  case round =>
    obtain ⟨k, hk, rfl, HB⟩ := hrel
    obtain ⟨⟨c0, c1, c2, c3⟩, d0, d1, d2, d3⟩ := HA.out _ HB.out
    rcases k with _ | _ | _ | k
    · rw [show (((0 : Nat) : Int)) = 0 from rfl]
      go_wp2_with fail
      refine (HC1.out _).mono ?_
      rintro e w1 ⟨rfl, hb1⟩
      have B1 := Lib.hid (below_step HB.out (Nat.le_refl _) hb1)
      clear hb1
      go_wp2
      go_roundw
      case rel => exact ⟨1, by omega, rfl, B1.out⟩
      case measure => simp [intOf]
    · rw [show (((0 + 1 : Nat) : Int)) = 1 from rfl]
      go_wp2_with fail
      refine (HC2.out _).mono ?_
      rintro e w1 ⟨rfl, hb1⟩
      have B1 := Lib.hid (below_step HB.out (Nat.le_refl _) hb1)
      clear hb1
      go_wp2
      go_roundw
      case rel => exact ⟨2, by omega, rfl, B1.out⟩
      case measure => simp [intOf]
    · rw [show (((0 + 1 + 1 : Nat) : Int)) = 2 from rfl]
      go_wp2
      go_ret
      exact ⟨rfl, HB.out⟩
    · omega
theorem valid2B {p q : Rat} {b1 b2 : Bool} {m1 m2 k1 k2 : ByteArray} (hp : Rq p b1 m1 k1) (hq : Rq q b2 m2 k2) (s1 : m1.size ≤ 10000 ∧ (mag p.den).size ≤ 10000) (s2 : m2.size ≤ 10000 ∧ (mag q.den).size ≤ 10000) (w : World) (g : Nat) {T : TypeId}
    (h : w.heap[g]? = some (.cells #[.bool b1, .string m1, .bool false, .string k1, .bool b2, .string m2, .bool false, .string k2] T (0, 0))) :
    Calls Tryz.prog 32 #[.slice (some ⟨g, 0, none⟩) 2 2] w (RetB w (.bool true)) := by
  have ks : ∀ {x : Rat} {b : Bool} {m k : ByteArray}, Rq x b m k → (mag x.den).size ≤ 10000 → k.size ≤ 100000 := fun {x b m k} h hs => by
    by_cases hd : x.den = 1
    · rw [h.den1 hd]; exact Nat.zero_le _
    · rw [h.den2 hd]; omega
  refine valid2 hp hq (by omega) (by omega) (ks hp s1.2) (ks hq s2.2) g w (Array.getElem?_eq_some_iff.1 h).1 ?_ ?_ ?_ ?_ ?_ ?_ ?_ ?_ <;> simp [World.cell?, h]
end Go.Proofs.YtahehlajpaoiiaaGreatDoor


namespace Go.Proofs.YtahehlajpaoiiaaGreatDoor
open Go.RowKit
attribute [local go_sem ↓] Go.wp_at_zero Go.wp_at_succ

theorem zero_size (s : ByteArray) : (s ++ ⟨#[0]⟩).size = s.size + 1 := by simp [ByteArray.size_append]; rfl

theorem bval_zero_behind (s : ByteArray) : bval (s ++ ⟨#[0]⟩) = 256 * bval s := by
  unfold bval
  rw [zero_size, val_head]
  have h0 : dig (s ++ ⟨#[0]⟩) 0 = 0 := by
    unfold dig
    rw [dif_pos (by rw [zero_size]; omega)]
    have : (s ++ ⟨#[0]⟩).size - 1 - 0 = s.size := by rw [zero_size]; omega
    simp only [this]
    rw [ByteArray.getElem_append_right (Nat.le_refl _)]
    simp
    rfl
  rw [h0, Nat.zero_add]
  congr 1
  refine val_congr fun i hi => ?_
  unfold dig
  rw [dif_pos (by rw [zero_size]; omega), dif_pos hi]
  have : (s ++ ⟨#[0]⟩).size - 1 - (i + 1) = s.size - 1 - i := by rw [zero_size]; omega
  simp only [this]
  rw [ByteArray.getElem_append_left (by omega)]

theorem below_two' (w1 : World) (o1 o2 : Obj) : Below w1.heap.size w1 ((w1.alloc o1).alloc o2) := ((Below.refl _ _).alloc (Nat.le_refl _) _).alloc (by simp) _

theorem mk_small {neg : Bool} {X Y n : Nat} (hX : X < 256 ^ n) (hY : Y < 256 ^ n) (hY0 : 0 < Y) : (mkRat (sgn neg X) Y).num.natAbs < 256 ^ n ∧ (mkRat (sgn neg X) Y).den < 256 ^ n := by
  obtain ⟨e1, e2⟩ := mkRat_parts (sgn neg X) (d := Y) (by omega)
  rw [sgn_natAbs] at e1 e2
  rw [e1, e2, sgn_div neg (Nat.gcd_dvd_left X Y), sgn_natAbs]
  have h1 := Nat.div_le_self X (Nat.gcd X Y)
  have h2 := Nat.div_le_self Y (Nat.gcd X Y)
  omega

structure Fr (w : World) (g4 g5 : Nat) (num den : Int) (u v : Nat) (b1 b2 : Bool) (s t : ByteArray) (wr : World) : Prop where
  k1 : wr.heap[w.heap.size]? = some (.cells #[.int .i64 num, .int .i64 den, .int .u8 (u : Int), .int .u8 (v : Int)] 41 (0, 0))
  k2 : wr.heap[w.heap.size + 1]? = some (.cells #[.bool false, .string ⟨#[]⟩, .bool false, .string ⟨#[]⟩] 25 (0, 0))
  k4 : wr.heap[g4]? = some (.cells #[.bool b1, .string s] 23 (0, 0))
  k5 : wr.heap[g5]? = some (.cells #[.bool b2, .string t] 23 (0, 0))
  lt4 : w.heap.size + 2 ≤ g4
  lt5 : g4 < g5
  sz : g5 < wr.heap.size
  bel : Below w.heap.size w wr

theorem one_set {W : World} {g : Nat} {T : TypeId} {x0 x1 : Value} (h : W.heap[g]? = some (.cells #[x0, x1] T (0, 0))) (y : Value) : (W.setCell ⟨g, 1, none⟩ y).heap[g]? = some (.cells #[x0, y] T (0, 0)) := by
  simp [World.setCell, Array.getElem?_modify, h]
theorem Fr.set4 {w wr : World} {g4 g5 : Nat} {num den : Int} {u v : Nat} {b1 b2 : Bool} {s t : ByteArray} (h : Fr w g4 g5 num den u v b1 b2 s t wr) (s' : ByteArray) : Fr w g4 g5 num den u v b1 b2 s' t (wr.setCell ⟨g4, 1, none⟩ (.string s')) := by
  have h4 := h.lt4
  have h5 := h.lt5
  exact ⟨(Below.heap_setCell _ ⟨g4, 1, none⟩ _ _ (by show _ ≠ g4; omega)).trans h.k1, (Below.heap_setCell _ ⟨g4, 1, none⟩ _ _ (by show _ ≠ g4; omega)).trans h.k2, one_set h.k4 _, (Below.heap_setCell _ ⟨g4, 1, none⟩ _ _ (by show _ ≠ g4; omega)).trans h.k5, h.lt4, h.lt5, by simpa [World.setCell] using h.sz, h.bel.setCell (by show w.heap.size ≤ g4; omega) _⟩
theorem Fr.set5 {w wr : World} {g4 g5 : Nat} {num den : Int} {u v : Nat} {b1 b2 : Bool} {s t : ByteArray} (h : Fr w g4 g5 num den u v b1 b2 s t wr) (t' : ByteArray) : Fr w g4 g5 num den u v b1 b2 s t' (wr.setCell ⟨g5, 1, none⟩ (.string t')) := by
  have h4 := h.lt4
  have h5 := h.lt5
  exact ⟨(Below.heap_setCell _ ⟨g5, 1, none⟩ _ _ (by show _ ≠ g5; omega)).trans h.k1, (Below.heap_setCell _ ⟨g5, 1, none⟩ _ _ (by show _ ≠ g5; omega)).trans h.k2, (Below.heap_setCell _ ⟨g5, 1, none⟩ _ _ (by show _ ≠ g5; omega)).trans h.k4, one_set h.k5 _, h.lt4, h.lt5, by simpa [World.setCell] using h.sz, h.bel.setCell (by show w.heap.size ≤ g5; omega) _⟩

end Go.Proofs.YtahehlajpaoiiaaGreatDoor


namespace Go.Proofs.YtahehlajpaoiiaaGreatDoor
open Go.RowKit
attribute [local go_sem ↓] Go.wp_at_zero Go.wp_at_succ

def fracQ (num den : Int) (u v : Nat) : Rat := if den = 0 then mkRat (sgn (decide (num < 0) != decide ((1 : Int) < 0)) (num.natAbs * 256 ^ (u % 9))) ((1 : Int).natAbs * 256 ^ (v % 9)) else mkRat (sgn (decide (num < 0) != decide (den < 0)) (num.natAbs * 256 ^ (u % 9))) (den.natAbs * 256 ^ (v % 9))

set_option maxHeartbeats 8000000 in
set_option maxRecDepth 100000 in
theorem rat_det (num den : Int) (u v : Nat) {b0 : Bool} {m0 k0 : ByteArray} (hq0 : Rq (fracQ num den u v) b0 m0 k0) (x1 : -9223372036854775808 ≤ num) (x2 : num ≤ 9223372036854775807) (y1 : -9223372036854775808 ≤ den) (y2 : den ≤ 9223372036854775807) (hu : u < 256) (hv : v < 256) (w : World) :
    Calls Tryz.prog 27 #[.agg #[.int .i64 num, .int .i64 den, .int .u8 (u : Int), .int .u8 (v : Int)]] w (RetB w (.agg #[.bool b0, .string m0, .bool false, .string k0])) := by
  obtain ⟨d, hd0, hd1, hd2, hdd⟩ : ∃ d : Int, d ≠ 0 ∧ -9223372036854775808 ≤ d ∧ d ≤ 9223372036854775807 ∧ ((den = 0 ∧ d = 1) ∨ (((den : Int) == 0) = false ∧ d = den)) := by
    by_cases h : den = 0
    · exact ⟨1, by omega, by omega, by omega, .inl ⟨h, rfl⟩⟩
    · exact ⟨den, h, y1, y2, .inr ⟨by simpa using h, rfl⟩⟩
  have hfq : fracQ num den u v = mkRat (sgn (decide (num < 0) != decide (d < 0)) (num.natAbs * 256 ^ (u % 9))) (d.natAbs * 256 ^ (v % 9)) := by
    unfold fracQ
    rcases hdd with ⟨h1, h2⟩ | ⟨h1, h2⟩
    · rw [if_pos h1, h2]
    · rw [if_neg (by simpa using h1), h2]
  rw [hfq] at hq0
  clear hfq
  obtain ⟨bn, mn, hn⟩ := enc_form num
  obtain ⟨bd, md, hm⟩ := enc_form d
  have sn : mn.size ≤ 8 := by rw [(enc_parts hn).2]; exact i64_size x1 x2
  have sd : md.size ≤ 8 := by rw [(enc_parts hm).2]; exact i64_size hd1 hd2
  have hd3 : 0 < bval md := by rw [(enc_parts hm).2, bval_mag]; omega
  rw [← (enc_parts hn).1, ← (enc_parts hm).1, show num.natAbs = bval mn by rw [(enc_parts hn).2, bval_mag], show d.natAbs = bval md by rw [(enc_parts hm).2, bval_mag]] at hq0
  have HN := Lib.hid hn
  have HM := Lib.hid hm
  have HD3 := Lib.hid hd3
  have HI1 := Lib.hid (fun V => rint_any num x1 x2 V)
  have HI2 := Lib.hid (fun V => rint_any d hd1 hd2 V)
  have KK := Lib.hid (Kb.start w #[.int .i64 num, .int .i64 den, .int .u8 (u : Int), .int .u8 (v : Int)] #[.bool false, .string ⟨#[]⟩, .bool false, .string ⟨#[]⟩] 41 25)
  obtain ⟨ru, hru⟩ : ∃ r, u % 9 = r := ⟨_, rfl⟩
  obtain ⟨rv, hrv⟩ : ∃ r, v % 9 = r := ⟨_, rfl⟩
  have hru1 : ru ≤ 8 := by omega
  have hrv1 : rv ≤ 8 := by omega
  have HU := Lib.hid (show (u : Int) % 9 = (ru : Int) by omega)
  have HV := Lib.hid (show (v : Int) % 9 = (rv : Int) by omega)
  rw [hru, hrv] at hq0
  have HQ0 := Lib.hid hq0
  clear hn hm hd3 hd0 hru hrv hq0
  rcases hdd with ⟨rfl, rfl⟩ | ⟨hd, rfl⟩
  all_goals
    go_enter Tryz.func27, Tryz.ntmps27
    go_wp2_with fail
    refine (HI1.out _).mono ?_
    rintro e w1 ⟨rfl, hb1⟩
    rw [HN.out]
    have K1 := Lib.hid (KK.out.next hb1)
    clear hb1
    go_wp2_with fail
    refine (HI2.out _).mono ?_
    rintro e w2 ⟨rfl, hb2⟩
    rw [HM.out]
    have K2 := Lib.hid (K1.out.next hb2)
    have FF := Lib.hid (show Fr w w2.heap.size (w2.heap.size + 1) num _ u v bn bd mn md ((w2.alloc (.cells #[.bool bn, .string mn] 23)).alloc (.cells #[.bool bd, .string md] 23)) from
      ⟨(K2.out.next (below_two' w2 _ _)).k1, (K2.out.next (below_two' w2 _ _)).k2, heap_fst _ _ _, heap_two _ _ _, K2.out.sz, by omega, by simp, (K2.out.next (below_two' w2 _ _)).bel⟩)
    clear hb2
    go_upto_region 6 with fail
    obtain ⟨W, hW⟩ : ∃ W, W = ((w2.alloc (.cells #[.bool bn, .string mn] 23)).alloc (.cells #[.bool bd, .string md] 23)) := ⟨_, rfl⟩
    rw [← hW] at FF
    rw [← hW]
    clear hW K1 K2
    go_loopw [6] (fun iv wr => ∃ (i : Nat) (s : ByteArray), i ≤ ru ∧ iv = .int .u8 (i : Int) ∧ s.size ≤ 8 + i ∧ Hid (bval s = bval mn * 256 ^ i) ∧ Hid (Fr w w2.heap.size (w2.heap.size + 1) num _ u v bn bd s md wr)) (fun iv _ => 9 - (intOf iv).toNat)
    case atStart => exact ⟨0, mn, Nat.zero_le _, rfl, by omega, Lib.hid (by rw [Nat.pow_zero, Nat.mul_one]), FF.out⟩
    case round =>
      obtain ⟨i, s, hi, rfl, hs, HBS, HF⟩ := hrel
      obtain ⟨f0, f1, f2, f3⟩ := blk4 HF.out.k1
      obtain ⟨g0, g1, g2, g3⟩ := blk_cells HF.out.k4
      have hU := HU.out
      by_cases hlt : i < ru ∧ 0 < s.size
      · obtain ⟨hlt, hsz⟩ := hlt
        have he := empty_no hsz
        have hcat : ¬ 9223372036854775807 < s.size + 1 := by omega
        have HF2 := Lib.hid (HF.out.set4 (s ++ ⟨#[0]⟩))
        have HSZ := Lib.hid (zero_size s)
        have HBN := Lib.hid (show bval (s ++ ByteArray.mk #[0]) = bval mn * 256 ^ (i + 1) by rw [bval_zero_behind, HBS.out, Nat.pow_succ]; rw [Nat.mul_comm 256, Nat.mul_assoc])
        go_wp2
        go_roundw
        case rel => exact ⟨i + 1, s ++ ByteArray.mk #[0], by omega, by go_num, by rw [HSZ.out]; omega, HBN.out, HF2.out⟩
        case measure => simp [intOf] <;> omega
      · have hend : (ru ≤ i) ∨ (i < ru ∧ s.toList.isEmpty = true) := by
          rcases Nat.lt_or_ge i ru with h | h
          · exact .inr ⟨h, empty_yes (fun h1 => hlt ⟨h, h1⟩)⟩
          · exact .inl h
        clear hlt
        have hs16 : s.size ≤ 16 := by omega
        have HSV := Lib.hid (show bval s = bval mn * 256 ^ ru by
          rcases hend with h | ⟨h, he⟩
          · rw [HBS.out, show i = ru by omega]
          · have h1 : bval s = 0 := by rw [show s = ⟨#[]⟩ from ByteArray.ext (by rw [List.isEmpty_iff, ByteArray.toList_eq] at he; exact Array.toList_inj.1 he)]; rfl
            have h2 := HBS.out
            rw [h1] at h2
            have h3 : bval mn = 0 := by
              rcases Nat.mul_eq_zero.1 h2.symm with h4 | h4
              · exact h4
              · exact absurd h4 (Nat.ne_of_gt (Nat.pow_pos (by omega)))
            rw [h1, h3, Nat.zero_mul])
        clear hs
        rcases hend with h | ⟨h, he⟩
        all_goals
          go_upto_region 10 with fail
          clear hU f0 f1 f2 f3 g0 g1 g2 g3
          try clear he
          go_loopw [7] (fun jv wr => ∃ (j : Nat) (t : ByteArray), j ≤ rv ∧ jv = .int .u8 (j : Int) ∧ t.size ≤ 8 + j ∧ Hid (0 < bval t) ∧ Hid (bval t = bval md * 256 ^ j) ∧ Hid (Fr w w2.heap.size (w2.heap.size + 1) num _ u v bn bd s t wr)) (fun jv _ => 9 - (intOf jv).toNat)
          case atStart => exact ⟨0, md, Nat.zero_le _, rfl, by omega, HD3.out, Lib.hid (by rw [Nat.pow_zero, Nat.mul_one]), HF.out⟩
          case round =>
            obtain ⟨j, t, hj, rfl, ht, HP, HBT, HG⟩ := hrel
            obtain ⟨f0, f1, f2, f3⟩ := blk4 HG.out.k1
            obtain ⟨g0, g1, g2, g3⟩ := blk_cells HG.out.k5
            have hV := HV.out
            by_cases hlt : j < rv
            · have hcat : ¬ 9223372036854775807 < t.size + 1 := by omega
              have HG2 := Lib.hid (HG.out.set5 (t ++ ByteArray.mk #[0]))
              have HSZ := Lib.hid (zero_size t)
              have HBV := Lib.hid (bval_zero_behind t)
              have HTN := Lib.hid (show bval (t ++ ByteArray.mk #[0]) = bval md * 256 ^ (j + 1) by rw [bval_zero_behind, HBT.out, Nat.pow_succ]; rw [Nat.mul_comm 256, Nat.mul_assoc])
              go_wp2
              go_roundw
              case rel => exact ⟨j + 1, t ++ ByteArray.mk #[0], by omega, by go_num, by rw [HSZ.out]; omega, by show 0 < _; rw [HBV.out]; have := HP.out; omega, HTN.out, HG2.out⟩
              case measure => simp [intOf] <;> omega
            · have ht16 : t.size ≤ 16 := by omega
              have htv := HBT.out
              rw [show j = rv by omega] at htv
              have HTV := Lib.hid htv
              clear htv
              have HMK := Lib.hid (fun V => rmake bn bd s t (by omega) (by omega) HP.out V)
              obtain ⟨g4, g5, g6, g7⟩ := blk_cells HG.out.k4
              go_wp2_with fail
              refine (HMK.out _).mono ?_
              rintro e w9 ⟨b3, m3, k3, rfl, hq, hb9⟩
              have hk2 := (hb9.block _ (by have := HG.out.sz; have := HG.out.lt5; have := HG.out.lt4; omega)).trans HG.out.k2
              obtain ⟨t0, t1, t2, t3⟩ := blk4 hk2
              obtain ⟨z0, z1, z2, z3⟩ := fro4 hk2
              have HB9 := Lib.hid (HG.out.bel.trans (hb9.mono HG.out.bel.size))
              have hq' := hq
              rw [HSV.out, HTV.out] at hq'
              obtain ⟨h1, h2, h3⟩ := HQ0.out.inj hq'
              subst h1
              subst h2
              subst h3
              clear hq hq' hb9 hk2 f0 f1 f2 f3 g0 g1 g2 g3 g4 g5 g6 g7 hV
              go_wp2
              exact bodyPost_ret (v := .agg #[.bool b0, .string m0, .bool false, .string k0]) (by simp [results, Tryz.results27, go_sem, t0, t1, t2, t3]) rfl ⟨rfl, below_set4 HB9.out (by omega) _ _ _ _⟩

theorem frac_small (num den : Int) (u v : Nat) (x1 : -9223372036854775808 ≤ num) (x2 : num ≤ 9223372036854775807) (y1 : -9223372036854775808 ≤ den) (y2 : den ≤ 9223372036854775807) : (fracQ num den u v).num.natAbs < 256 ^ 16 ∧ (fracQ num den u v).den < 256 ^ 16 := by
  have p : ∀ (x : Int) (r : Nat), -9223372036854775808 ≤ x → x ≤ 9223372036854775807 → x.natAbs * 256 ^ (r % 9) < 256 ^ 16 := by
    intro x r h1 h2
    have h3 : 256 ^ (r % 9) ≤ 256 ^ 8 := Nat.pow_le_pow_right (by omega) (by omega)
    have h4 : x.natAbs * 256 ^ (r % 9) ≤ 9223372036854775808 * 256 ^ 8 := Nat.mul_le_mul (by omega) h3
    exact Nat.lt_of_le_of_lt h4 (by decide)
  have q : ∀ (x : Int) (r : Nat), x ≠ 0 → 0 < x.natAbs * 256 ^ (r % 9) := fun x r h => Nat.mul_pos (by omega) (Nat.pow_pos (by omega))
  unfold fracQ
  split
  · exact mk_small (p num u x1 x2) (p 1 v (by omega) (by omega)) (q 1 v (by omega))
  · rename_i h
    exact mk_small (p num u x1 x2) (p den v y1 y2) (q den v h)
end Go.Proofs.YtahehlajpaoiiaaGreatDoor


namespace Go.Proofs.YtahehlajpaoiiaaGreatDoor

def Sz (n : Nat) (q : Rat) : Prop := q.num.natAbs < 256 ^ n ∧ q.den < 256 ^ n

theorem mkRat_le (x : Int) {d : Nat} (hd : d ≠ 0) : (mkRat x d).num.natAbs ≤ x.natAbs ∧ (mkRat x d).den ≤ d := by
  obtain ⟨h1, h2⟩ := mkRat_parts x hd
  rw [h1, h2]
  refine ⟨?_, Nat.div_le_self _ _⟩
  rw [Int.natAbs_ediv_of_dvd (int_gcd_dvd x d), Int.natAbs_natCast]
  exact Nat.div_le_self _ _
theorem Sz.mul {n m : Nat} {p q : Rat} (hp : Sz n p) (hq : Sz m q) : Sz (n + m) (p * q) := by
  rw [Rat.mul_def']
  obtain ⟨h1, h2⟩ := mkRat_le (p.num * q.num) (d := p.den * q.den) (Nat.mul_ne_zero p.den_nz q.den_nz)
  unfold Sz
  rw [Nat.pow_add]
  refine ⟨Nat.lt_of_le_of_lt h1 ?_, Nat.lt_of_le_of_lt h2 (Nat.mul_lt_mul'' hp.2 hq.2)⟩
  rw [Int.natAbs_mul]
  exact Nat.mul_lt_mul'' hp.1 hq.1
theorem Sz.add {n m : Nat} {p q : Rat} (hp : Sz n p) (hq : Sz m q) : Sz (n + m + 1) (p + q) := by
  rw [Rat.add_def']
  obtain ⟨h1, h2⟩ := mkRat_le (p.num * q.den + q.num * p.den) (d := p.den * q.den) (Nat.mul_ne_zero p.den_nz q.den_nz)
  have h3 := Int.natAbs_add_le (p.num * (q.den : Int)) (q.num * (p.den : Int))
  rw [Int.natAbs_mul, Int.natAbs_mul, Int.natAbs_natCast, Int.natAbs_natCast] at h3
  have h4 : p.num.natAbs * q.den < 256 ^ n * 256 ^ m := Nat.mul_lt_mul'' hp.1 hq.2
  have h5 : q.num.natAbs * p.den < 256 ^ m * 256 ^ n := Nat.mul_lt_mul'' hq.1 hp.2
  have h6 : p.den * q.den < 256 ^ n * 256 ^ m := Nat.mul_lt_mul'' hp.2 hq.2
  rw [Nat.mul_comm (256 ^ m)] at h5
  unfold Sz
  rw [Nat.pow_succ, Nat.pow_add]
  omega
theorem Sz.m {n : Nat} {q : Rat} (h : Sz n q) {b : Bool} {m k : ByteArray} (hq : Rq q b m k) (hn : n ≤ 10000) : m.size ≤ 10000 ∧ (mag q.den).size ≤ 10000 := by
  refine ⟨?_, Nat.le_trans (mag_size_le h.2) hn⟩
  rw [hq.mag.2]
  exact Nat.le_trans (mag_size_le h.1) hn
end Go.Proofs.YtahehlajpaoiiaaGreatDoor
