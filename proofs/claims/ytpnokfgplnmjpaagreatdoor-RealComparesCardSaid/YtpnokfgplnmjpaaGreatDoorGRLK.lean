import Derived.Test.YtpnokfgplnmjpaaGreatDoorGRFB
import Derived.Test.YtpnokfgplnmjpaaGreatDoorGRTD
import Derived.Test.YtpnokfgplnmjpaaGreatDoorGRHE
import Derived.Test.YtpnokfgplnmjpaaGreatDoorGQT
set_option linter.unusedSimpArgs false
set_option linter.unusedVariables false

namespace Go.Proofs.YtpnokfgplnmjpaaGreatDoor
open Go.RowKit
attribute [local go_sem ↓] Go.wp_at_zero Go.wp_at_succ
attribute [local go_sem] undef yielded

set_option maxHeartbeats 1000000 in
set_option maxRecDepth 100000 in
theorem isInteger_neg (b : Bool) (m k : ByteArray) (w : World) : Calls Tryz.prog 125 #[.agg #[.bool b, .string m, .bool true, .string k]] w (RetB w (.bool false)) := by
  go_enter Tryz.func125, Tryz.ntmps125
  go_wp2
  go_ret
  exact ⟨rfl, below_new _ _⟩

theorem rq_cases (b : Bool) (m : ByteArray) (c : Bool) (k : ByteArray) :
    (c = false ∧ ∃ q, Rq q b m k) ∨ canonB b m = false ∨ (canonB b m = true ∧ canonB c k = false) ∨ (canonB b m = true ∧ canonB c k = true ∧ c = true) ∨ (canonB b m = true ∧ canonB c k = true ∧ c = false ∧ k = ⟨#[1]⟩) ∨
    (∃ (x : Int) (d : Nat), enc x = .agg #[.bool b, .string m] ∧ c = false ∧ k = mag d ∧ 2 ≤ d ∧ Nat.gcd x.natAbs d ≠ 1) := by
  cases h1 : canonB b m
  · exact .inr (.inl rfl)
  cases h2 : canonB c k
  · exact .inr (.inr (.inl ⟨rfl, rfl⟩))
  obtain ⟨x, hx⟩ := canon_form h1
  obtain ⟨y, hy⟩ := canon_form h2
  cases c
  · obtain ⟨e1, e2⟩ := enc_parts hy
    have hy0 : ¬ y < 0 := of_decide_eq_false e1.symm
    obtain ⟨d, rfl⟩ : ∃ d : Nat, y = (d : Int) := ⟨y.natAbs, by omega⟩
    rw [Int.natAbs_natCast] at e2
    rcases Nat.lt_or_ge d 2 with hd | hd
    · rcases Nat.lt_or_ge d 1 with hd1 | hd1
      · obtain rfl : d = 0 := by omega
        exact .inl ⟨rfl, _, by rw [e2, mag_nil]; exact rq_int hx⟩
      · obtain rfl : d = 1 := by omega
        exact .inr (.inr (.inr (.inr (.inl ⟨rfl, rfl, rfl, by rw [e2, mag_one]⟩))))
    · by_cases hg : Nat.gcd x.natAbs d = 1
      · obtain ⟨n1, d1⟩ := rat_of_coprime (n := x) (d := d) (by omega) hg
        exact .inl ⟨rfl, mkRat x d, by rw [n1]; exact hx, by rw [d1, e2]; unfold dm; rw [if_neg (by omega)]⟩
      · exact .inr (.inr (.inr (.inr (.inr ⟨x, d, hx, rfl, e2, hd, hg⟩))))
  · exact .inr (.inr (.inr (.inl ⟨rfl, rfl, rfl⟩)))

theorem checkV_of {b : Bool} {m : ByteArray} (h : canonB b m = true) : checkV b m = 0 := by unfold checkV; rw [h]; rfl
theorem checkV_no {b : Bool} {m : ByteArray} (h : canonB b m = false) : checkV b m = 5 := by unfold checkV; rw [h]; rfl

set_option maxHeartbeats 16000000 in
set_option maxRecDepth 100000 in
theorem ratCheck_no (b : Bool) (m : ByteArray) (c : Bool) (k : ByteArray) (s1 : m.size ≤ 100000) (s2 : k.size ≤ 100000) (hno : ¬ (c = false ∧ ∃ q, Rq q b m k)) (w : World) (hE : Env w) :
    Calls Tryz.prog 69 #[.agg #[.bool b, .string m, .bool c, .string k]] w (RetB w (.int .i64 5)) := by
  have HC1 := Lib.hid (fun V => check_any b m V)
  have HC2 := Lib.hid (fun V => check_any c k V)
  have HE := Lib.hid (fun V (h : Below w.heap.size w V) => hE.next h)
  clear hE
  rcases rq_cases b m c k with h | h | ⟨h1, h2⟩ | ⟨h1, h2, h3⟩ | ⟨h1, h2, h3, h4⟩ | ⟨x, d, hx, h3, h4, h5, h6⟩
  · exact absurd h hno
  · rw [checkV_no h] at HC1
    clear h hno
    have X := Lib.hid ((Sb.start w).new #[.bool b, .string m, .bool c, .string k] 25)
    have X := Lib.hid (X.out.pick [0] [(w.heap.size, #[.bool b, .string m, .bool c, .string k], 25)] [] (by simp) (by decide) (by simp))
    obtain ⟨a0, a1, a2, a3⟩ := X.out.c4 (i := 0) rfl
    go_enter Tryz.func69, Tryz.ntmps69
    go_wp2_with fail
    refine (HC1.out _).mono ?_
    rintro e w1 ⟨rfl, hb9⟩
    have X := Lib.hid (X.out.next hb9)
    clear hb9
    clear a0 a1 a2 a3
    go_wp2
    go_ret
    exact ⟨rfl, X.out.bel⟩
  · rw [checkV_of h1] at HC1
    rw [checkV_no h2] at HC2
    clear h1 h2 hno
    have X := Lib.hid ((Sb.start w).new #[.bool b, .string m, .bool c, .string k] 25)
    have X := Lib.hid (X.out.pick [0] [(w.heap.size, #[.bool b, .string m, .bool c, .string k], 25)] [] (by simp) (by decide) (by simp))
    obtain ⟨a0, a1, a2, a3⟩ := X.out.c4 (i := 0) rfl
    go_enter Tryz.func69, Tryz.ntmps69
    go_wp2_with fail
    refine (HC1.out _).mono ?_
    rintro e w1 ⟨rfl, hb9⟩
    have X := Lib.hid (X.out.next hb9)
    clear hb9
    clear a0 a1 a2 a3
    obtain ⟨a0, a1, a2, a3⟩ := X.out.c4 (i := 0) rfl
    go_wp2_with fail
    refine (HC2.out _).mono ?_
    rintro e w2 ⟨rfl, hb9⟩
    have X := Lib.hid (X.out.next hb9)
    clear hb9
    clear a0 a1 a2 a3
    go_wp2
    go_ret
    exact ⟨rfl, X.out.bel⟩
  · rw [checkV_of h1] at HC1
    rw [checkV_of h2] at HC2
    clear h1 h2 hno
    subst h3
    have HI := Lib.hid (fun V => isInteger_neg b m k V)
    have X := Lib.hid ((Sb.start w).new #[.bool b, .string m, .bool true, .string k] 25)
    have X := Lib.hid (X.out.pick [0] [(w.heap.size, #[.bool b, .string m, .bool true, .string k], 25)] [] (by simp) (by decide) (by simp))
    obtain ⟨a0, a1, a2, a3⟩ := X.out.c4 (i := 0) rfl
    go_enter Tryz.func69, Tryz.ntmps69
    go_wp2_with fail
    refine (HC1.out _).mono ?_
    rintro e w1 ⟨rfl, hb9⟩
    have X := Lib.hid (X.out.next hb9)
    clear hb9
    clear a0 a1 a2 a3
    obtain ⟨a0, a1, a2, a3⟩ := X.out.c4 (i := 0) rfl
    go_wp2_with fail
    refine (HC2.out _).mono ?_
    rintro e w2 ⟨rfl, hb9⟩
    have X := Lib.hid (X.out.next hb9)
    clear hb9
    clear a0 a1 a2 a3
    obtain ⟨a0, a1, a2, a3⟩ := X.out.c4 (i := 0) rfl
    go_wp2_with fail
    refine (HI.out _).mono ?_
    rintro e w3 ⟨rfl, hb9⟩
    have X := Lib.hid (X.out.next hb9)
    clear hb9
    clear a0 a1 a2 a3
    go_upto_region 5 with fail
    refine wp_region_late (S := fun w' => (w'.cell? ⟨w.heap.size, 0, none⟩ = some (.bool b) ∧ w'.cell? ⟨w.heap.size, 1, none⟩ = some (.string m) ∧ w'.cell? ⟨w.heap.size, 2, none⟩ = some (.bool true) ∧ w'.cell? ⟨w.heap.size, 3, none⟩ = some (.string k)) ∧ (w'.cell? ⟨0, 0, none⟩ = some (.bool false) ∧ w'.cell? ⟨0, 1, none⟩ = some (.string ⟨#[1]⟩))) (L := []) (by kernel_rfl) ?_
    have X := Lib.hid X.out.drew
    obtain ⟨V0, hV⟩ := wexi X.out
    rw [← hV] at X ⊢
    clear hV
    refine tk (i := 0) (oi := ⟨some 18, _, _, _, _, _⟩) (v := _) rfl (by kernel_rfl) (fun _ _ _ h => h) (⟨X.out.c4 (i := 0) rfl, ⟨(HE.out _ X.out.bel).o0, (HE.out _ X.out.bel).o1⟩⟩) (Or.inl ⟨by rfl, by intro w hSw; (try dsimp only at hSw); (first | (go_simp; done) | (go_simp; with_reducible rfl))⟩) ?_
    try simp only [Act.put, seti, set0, setS]
    refine tk (i := 1) (oi := ⟨some 19, _, _, _, _, _⟩) (v := _) rfl (by kernel_rfl) (fun _ _ _ h => h) (⟨X.out.c4 (i := 0) rfl, ⟨(HE.out _ X.out.bel).o0, (HE.out _ X.out.bel).o1⟩⟩) (Or.inl ⟨by rfl, by intro w hSw; (try dsimp only at hSw); (first | (go_simp; done) | (go_simp; with_reducible rfl))⟩) ?_
    try simp only [Act.put, seti, set0, setS]
    refine tk (i := 2) (oi := ⟨some 20, _, _, _, _, _⟩) (v := _) rfl (by kernel_rfl) (fun _ _ _ h => h) (⟨X.out.c4 (i := 0) rfl, ⟨(HE.out _ X.out.bel).o0, (HE.out _ X.out.bel).o1⟩⟩) (Or.inl ⟨by rfl, by intro w hSw; (try dsimp only at hSw); (first | (go_simp; done) | (go_simp; with_reducible rfl))⟩) ?_
    try simp only [Act.put, seti, set0, setS]
    refine tk (i := 3) (oi := ⟨some 21, _, _, _, _, _⟩) (v := _) rfl (by kernel_rfl) (fun _ _ _ h => h) (⟨X.out.c4 (i := 0) rfl, ⟨(HE.out _ X.out.bel).o0, (HE.out _ X.out.bel).o1⟩⟩) (Or.inl ⟨by rfl, by intro w hSw; (try dsimp only at hSw); (first | (go_simp; done) | (go_simp; with_reducible rfl))⟩) ?_
    try simp only [Act.put, seti, set0, setS]
    refine tk (i := 4) (oi := ⟨some 22, _, _, _, _, _⟩) (v := undef) rfl (by kernel_rfl) (fun _ _ _ h => h) (⟨X.out.c4 (i := 0) rfl, ⟨(HE.out _ X.out.bel).o0, (HE.out _ X.out.bel).o1⟩⟩) (Or.inr ⟨by rfl, rfl⟩) ?_
    try simp only [Act.put, seti, set0, setS]
    refine tk (i := 5) (oi := ⟨some 23, _, _, _, _, _⟩) (v := undef) rfl (by kernel_rfl) (fun _ _ _ h => h) (⟨X.out.c4 (i := 0) rfl, ⟨(HE.out _ X.out.bel).o0, (HE.out _ X.out.bel).o1⟩⟩) (Or.inr ⟨by rfl, rfl⟩) ?_
    try simp only [Act.put, seti, set0, setS]
    refine tk (i := 6) (oi := ⟨some 24, _, _, _, _, _⟩) (v := undef) rfl (by kernel_rfl) (fun _ _ _ h => h) (⟨X.out.c4 (i := 0) rfl, ⟨(HE.out _ X.out.bel).o0, (HE.out _ X.out.bel).o1⟩⟩) (Or.inr ⟨by rfl, rfl⟩) ?_
    try simp only [Act.put, seti, set0, setS]
    refine tk (i := 7) (oi := ⟨some 25, _, _, _, _, _⟩) (v := undef) rfl (by kernel_rfl) (fun _ _ _ h => h) (⟨X.out.c4 (i := 0) rfl, ⟨(HE.out _ X.out.bel).o0, (HE.out _ X.out.bel).o1⟩⟩) (Or.inr ⟨by rfl, rfl⟩) ?_
    try simp only [Act.put, seti, set0, setS]
    refine tk (i := 8) (oi := ⟨some 26, _, _, _, _, _⟩) (v := _) rfl (by kernel_rfl) (fun _ _ _ h => h) (⟨X.out.c4 (i := 0) rfl, ⟨(HE.out _ X.out.bel).o0, (HE.out _ X.out.bel).o1⟩⟩) (Or.inl ⟨by rfl, by intro w hSw; (try dsimp only at hSw); (first | (go_simp; done) | (go_simp; with_reducible rfl))⟩) ?_
    try simp only [Act.put, seti, set0, setS]
    refine tk (i := 9) (oi := ⟨some 27, _, _, _, _, _⟩) (v := _) rfl (by kernel_rfl) (fun _ _ _ h => h) (⟨X.out.c4 (i := 0) rfl, ⟨(HE.out _ X.out.bel).o0, (HE.out _ X.out.bel).o1⟩⟩) (Or.inl ⟨by rfl, by intro w hSw; (try dsimp only at hSw); (first | (go_simp; done) | (go_simp; with_reducible rfl))⟩) ?_
    try simp only [Act.put, seti, set0, setS]
    refine tk (i := 10) (oi := ⟨some 28, _, _, _, _, _⟩) (v := undef) rfl (by kernel_rfl) (fun _ _ _ h => h) (⟨X.out.c4 (i := 0) rfl, ⟨(HE.out _ X.out.bel).o0, (HE.out _ X.out.bel).o1⟩⟩) (Or.inr ⟨by rfl, rfl⟩) ?_
    try simp only [Act.put, seti, set0, setS]
    refine tk (i := 11) (oi := ⟨some 29, _, _, _, _, _⟩) (v := undef) rfl (by kernel_rfl) (fun _ _ _ h => h) (⟨X.out.c4 (i := 0) rfl, ⟨(HE.out _ X.out.bel).o0, (HE.out _ X.out.bel).o1⟩⟩) (Or.inr ⟨by rfl, rfl⟩) ?_
    try simp only [Act.put, seti, set0, setS]
    refine tk (i := 12) (oi := ⟨some 30, _, _, _, _, _⟩) (v := undef) rfl (by kernel_rfl) (fun _ _ _ h => h) (⟨X.out.c4 (i := 0) rfl, ⟨(HE.out _ X.out.bel).o0, (HE.out _ X.out.bel).o1⟩⟩) (Or.inr ⟨by rfl, rfl⟩) ?_
    try simp only [Act.put, seti, set0, setS]
    refine tk (i := 13) (oi := ⟨some 31, _, _, _, _, _⟩) (v := undef) rfl (by kernel_rfl) (fun _ _ _ h => h) (⟨X.out.c4 (i := 0) rfl, ⟨(HE.out _ X.out.bel).o0, (HE.out _ X.out.bel).o1⟩⟩) (Or.inr ⟨by rfl, rfl⟩) ?_
    try simp only [Act.put, seti, set0, setS]
    refine tk (i := 14) (oi := ⟨some 32, _, _, _, _, _⟩) (v := undef) rfl (by kernel_rfl) (fun _ _ _ h => h) (⟨X.out.c4 (i := 0) rfl, ⟨(HE.out _ X.out.bel).o0, (HE.out _ X.out.bel).o1⟩⟩) (Or.inr ⟨by rfl, rfl⟩) ?_
    try simp only [Act.put, seti, set0, setS]
    refine tk (i := 15) (oi := ⟨some 33, _, _, _, _, _⟩) (v := undef) rfl (by kernel_rfl) (fun _ _ _ h => h) (⟨X.out.c4 (i := 0) rfl, ⟨(HE.out _ X.out.bel).o0, (HE.out _ X.out.bel).o1⟩⟩) (Or.inr ⟨by rfl, rfl⟩) ?_
    try simp only [Act.put, seti, set0, setS]
    refine tk (i := 16) (oi := ⟨some 34, _, _, _, _, _⟩) (v := undef) rfl (by kernel_rfl) (fun _ _ _ h => h) (⟨X.out.c4 (i := 0) rfl, ⟨(HE.out _ X.out.bel).o0, (HE.out _ X.out.bel).o1⟩⟩) (Or.inr ⟨by rfl, rfl⟩) ?_
    try simp only [Act.put, seti, set0, setS]
    refine tk (i := 17) (oi := ⟨some 35, _, _, _, _, _⟩) (v := _) rfl (by kernel_rfl) (fun _ _ _ h => h) (⟨X.out.c4 (i := 0) rfl, ⟨(HE.out _ X.out.bel).o0, (HE.out _ X.out.bel).o1⟩⟩) (Or.inl ⟨by rfl, by intro w hSw; (try dsimp only at hSw); (first | (go_simp; done) | (go_simp; with_reducible rfl))⟩) ?_
    try simp only [Act.put, seti, set0, setS]
    refine tk (i := 18) (oi := ⟨some 17, _, _, _, _, _⟩) (v := _) rfl (by kernel_rfl) (fun _ _ _ h => h) (⟨X.out.c4 (i := 0) rfl, ⟨(HE.out _ X.out.bel).o0, (HE.out _ X.out.bel).o1⟩⟩) (Or.inl ⟨by rfl, by intro w hSw; (try dsimp only at hSw); (first | (go_simp; done) | (go_simp; with_reducible rfl))⟩) ?_
    try simp only [Act.put, seti, set0, setS]
    refine wpLate_done (by kernel_rfl) ?_ _
    go_wp2
    go_ret
    exact ⟨rfl, X.out.bel⟩
  · rw [checkV_of h1] at HC1
    rw [checkV_of h2] at HC2
    subst h3
    have HI := Lib.hid (fun V => isInteger_no b m k (by rw [h4]; exact fun h => by cases h) V)
    have hl1 : k.toList = [1] := by rw [h4, ByteArray.toList_eq]
    clear h1 h2 hno h4
    have X := Lib.hid ((Sb.start w).new #[.bool b, .string m, .bool false, .string k] 25)
    have X := Lib.hid (X.out.pick [0] [(w.heap.size, #[.bool b, .string m, .bool false, .string k], 25)] [] (by simp) (by decide) (by simp))
    obtain ⟨a0, a1, a2, a3⟩ := X.out.c4 (i := 0) rfl
    go_enter Tryz.func69, Tryz.ntmps69
    go_wp2_with fail
    refine (HC1.out _).mono ?_
    rintro e w1 ⟨rfl, hb9⟩
    have X := Lib.hid (X.out.next hb9)
    clear hb9
    clear a0 a1 a2 a3
    obtain ⟨a0, a1, a2, a3⟩ := X.out.c4 (i := 0) rfl
    go_wp2_with fail
    refine (HC2.out _).mono ?_
    rintro e w2 ⟨rfl, hb9⟩
    have X := Lib.hid (X.out.next hb9)
    clear hb9
    clear a0 a1 a2 a3
    obtain ⟨a0, a1, a2, a3⟩ := X.out.c4 (i := 0) rfl
    go_wp2_with fail
    refine (HI.out _).mono ?_
    rintro e w3 ⟨rfl, hb9⟩
    have X := Lib.hid (X.out.next hb9)
    clear hb9
    clear a0 a1 a2 a3
    go_upto_region 5 with fail
    refine wp_region_late (S := fun w' => (w'.cell? ⟨w.heap.size, 0, none⟩ = some (.bool b) ∧ w'.cell? ⟨w.heap.size, 1, none⟩ = some (.string m) ∧ w'.cell? ⟨w.heap.size, 2, none⟩ = some (.bool false) ∧ w'.cell? ⟨w.heap.size, 3, none⟩ = some (.string k)) ∧ (w'.cell? ⟨0, 0, none⟩ = some (.bool false) ∧ w'.cell? ⟨0, 1, none⟩ = some (.string ⟨#[1]⟩))) (L := []) (by kernel_rfl) ?_
    have X := Lib.hid X.out.drew
    obtain ⟨V0, hV⟩ := wexi X.out
    rw [← hV] at X ⊢
    clear hV
    refine tk (i := 0) (oi := ⟨some 18, _, _, _, _, _⟩) (v := _) rfl (by kernel_rfl) (fun _ _ _ h => h) (⟨X.out.c4 (i := 0) rfl, ⟨(HE.out _ X.out.bel).o0, (HE.out _ X.out.bel).o1⟩⟩) (Or.inl ⟨by rfl, by intro w hSw; (try dsimp only at hSw); (first | (go_simp; done) | (go_simp; with_reducible rfl))⟩) ?_
    try simp only [Act.put, seti, set0, setS]
    refine tk (i := 1) (oi := ⟨some 19, _, _, _, _, _⟩) (v := _) rfl (by kernel_rfl) (fun _ _ _ h => h) (⟨X.out.c4 (i := 0) rfl, ⟨(HE.out _ X.out.bel).o0, (HE.out _ X.out.bel).o1⟩⟩) (Or.inl ⟨by rfl, by intro w hSw; (try dsimp only at hSw); (first | (go_simp; done) | (go_simp; with_reducible rfl))⟩) ?_
    try simp only [Act.put, seti, set0, setS]
    refine tk (i := 2) (oi := ⟨some 20, _, _, _, _, _⟩) (v := _) rfl (by kernel_rfl) (fun _ _ _ h => h) (⟨X.out.c4 (i := 0) rfl, ⟨(HE.out _ X.out.bel).o0, (HE.out _ X.out.bel).o1⟩⟩) (Or.inl ⟨by rfl, by intro w hSw; (try dsimp only at hSw); (first | (go_simp; done) | (go_simp; with_reducible rfl))⟩) ?_
    try simp only [Act.put, seti, set0, setS]
    refine tk (i := 3) (oi := ⟨some 21, _, _, _, _, _⟩) (v := _) rfl (by kernel_rfl) (fun _ _ _ h => h) (⟨X.out.c4 (i := 0) rfl, ⟨(HE.out _ X.out.bel).o0, (HE.out _ X.out.bel).o1⟩⟩) (Or.inl ⟨by rfl, by intro w hSw; (try dsimp only at hSw); (first | (go_simp; done) | (go_simp; with_reducible rfl))⟩) ?_
    try simp only [Act.put, seti, set0, setS]
    refine tk (i := 4) (oi := ⟨some 22, _, _, _, _, _⟩) (v := _) rfl (by kernel_rfl) (fun _ _ _ h => h) (⟨X.out.c4 (i := 0) rfl, ⟨(HE.out _ X.out.bel).o0, (HE.out _ X.out.bel).o1⟩⟩) (Or.inl ⟨by rfl, by intro w hSw; (try dsimp only at hSw); (first | (go_simp; done) | (go_simp; with_reducible rfl))⟩) ?_
    try simp only [Act.put, seti, set0, setS]
    refine tk (i := 5) (oi := ⟨some 23, _, _, _, _, _⟩) (v := _) rfl (by kernel_rfl) (fun _ _ _ h => h) (⟨X.out.c4 (i := 0) rfl, ⟨(HE.out _ X.out.bel).o0, (HE.out _ X.out.bel).o1⟩⟩) (Or.inl ⟨by rfl, by intro w hSw; (try dsimp only at hSw); (first | (go_simp; done) | (go_simp; with_reducible rfl))⟩) ?_
    try simp only [Act.put, seti, set0, setS]
    refine tk (i := 6) (oi := ⟨some 24, _, _, _, _, _⟩) (v := _) rfl (by kernel_rfl) (fun _ _ _ h => h) (⟨X.out.c4 (i := 0) rfl, ⟨(HE.out _ X.out.bel).o0, (HE.out _ X.out.bel).o1⟩⟩) (Or.inl ⟨by rfl, by intro w hSw; (try dsimp only at hSw); (first | (go_simp; done) | (go_simp; with_reducible rfl))⟩) ?_
    try simp only [Act.put, seti, set0, setS]
    refine tk (i := 7) (oi := ⟨some 25, _, _, _, _, _⟩) (v := _) rfl (by kernel_rfl) (fun _ _ _ h => h) (⟨X.out.c4 (i := 0) rfl, ⟨(HE.out _ X.out.bel).o0, (HE.out _ X.out.bel).o1⟩⟩) (Or.inl ⟨by rfl, by intro w hSw; (try dsimp only at hSw); (first | (go_simp; done) | (go_simp; with_reducible rfl))⟩) ?_
    try simp only [Act.put, seti, set0, setS]
    refine tk (i := 8) (oi := ⟨some 26, _, _, _, _, _⟩) (v := _) rfl (by kernel_rfl) (fun _ _ _ h => h) (⟨X.out.c4 (i := 0) rfl, ⟨(HE.out _ X.out.bel).o0, (HE.out _ X.out.bel).o1⟩⟩) (Or.inl ⟨by rfl, by intro w hSw; (try dsimp only at hSw); (first | (go_simp; done) | (go_simp; with_reducible rfl))⟩) ?_
    try simp only [Act.put, seti, set0, setS]
    refine tk (i := 9) (oi := ⟨some 27, _, _, _, _, _⟩) (v := _) rfl (by kernel_rfl) (fun _ _ _ h => h) (⟨X.out.c4 (i := 0) rfl, ⟨(HE.out _ X.out.bel).o0, (HE.out _ X.out.bel).o1⟩⟩) (Or.inl ⟨by rfl, by intro w hSw; (try dsimp only at hSw); (first | (go_simp; done) | (go_simp; with_reducible rfl))⟩) ?_
    try simp only [Act.put, seti, set0, setS]
    refine tk (i := 10) (oi := ⟨some 28, _, _, _, _, _⟩) (v := undef) rfl (by kernel_rfl) (fun _ _ _ h => h) (⟨X.out.c4 (i := 0) rfl, ⟨(HE.out _ X.out.bel).o0, (HE.out _ X.out.bel).o1⟩⟩) (Or.inr ⟨by rfl, rfl⟩) ?_
    try simp only [Act.put, seti, set0, setS]
    refine tk (i := 11) (oi := ⟨some 29, _, _, _, _, _⟩) (v := undef) rfl (by kernel_rfl) (fun _ _ _ h => h) (⟨X.out.c4 (i := 0) rfl, ⟨(HE.out _ X.out.bel).o0, (HE.out _ X.out.bel).o1⟩⟩) (Or.inr ⟨by rfl, rfl⟩) ?_
    try simp only [Act.put, seti, set0, setS]
    refine tk (i := 12) (oi := ⟨some 30, _, _, _, _, _⟩) (v := undef) rfl (by kernel_rfl) (fun _ _ _ h => h) (⟨X.out.c4 (i := 0) rfl, ⟨(HE.out _ X.out.bel).o0, (HE.out _ X.out.bel).o1⟩⟩) (Or.inr ⟨by rfl, rfl⟩) ?_
    try simp only [Act.put, seti, set0, setS]
    refine tk (i := 13) (oi := ⟨some 31, _, _, _, _, _⟩) (v := undef) rfl (by kernel_rfl) (fun _ _ _ h => h) (⟨X.out.c4 (i := 0) rfl, ⟨(HE.out _ X.out.bel).o0, (HE.out _ X.out.bel).o1⟩⟩) (Or.inr ⟨by rfl, rfl⟩) ?_
    try simp only [Act.put, seti, set0, setS]
    refine tk (i := 14) (oi := ⟨some 32, _, _, _, _, _⟩) (v := undef) rfl (by kernel_rfl) (fun _ _ _ h => h) (⟨X.out.c4 (i := 0) rfl, ⟨(HE.out _ X.out.bel).o0, (HE.out _ X.out.bel).o1⟩⟩) (Or.inr ⟨by rfl, rfl⟩) ?_
    try simp only [Act.put, seti, set0, setS]
    refine tk (i := 15) (oi := ⟨some 33, _, _, _, _, _⟩) (v := undef) rfl (by kernel_rfl) (fun _ _ _ h => h) (⟨X.out.c4 (i := 0) rfl, ⟨(HE.out _ X.out.bel).o0, (HE.out _ X.out.bel).o1⟩⟩) (Or.inr ⟨by rfl, rfl⟩) ?_
    try simp only [Act.put, seti, set0, setS]
    refine tk (i := 16) (oi := ⟨some 34, _, _, _, _, _⟩) (v := undef) rfl (by kernel_rfl) (fun _ _ _ h => h) (⟨X.out.c4 (i := 0) rfl, ⟨(HE.out _ X.out.bel).o0, (HE.out _ X.out.bel).o1⟩⟩) (Or.inr ⟨by rfl, rfl⟩) ?_
    try simp only [Act.put, seti, set0, setS]
    refine tk (i := 17) (oi := ⟨some 35, _, _, _, _, _⟩) (v := _) rfl (by kernel_rfl) (fun _ _ _ h => h) (⟨X.out.c4 (i := 0) rfl, ⟨(HE.out _ X.out.bel).o0, (HE.out _ X.out.bel).o1⟩⟩) (Or.inl ⟨by rfl, by intro w hSw; (try dsimp only at hSw); (first | (go_simp; done) | (go_simp; with_reducible rfl))⟩) ?_
    try simp only [Act.put, seti, set0, setS]
    refine tk (i := 18) (oi := ⟨some 17, _, _, _, _, _⟩) (v := _) rfl (by kernel_rfl) (fun _ _ _ h => h) (⟨X.out.c4 (i := 0) rfl, ⟨(HE.out _ X.out.bel).o0, (HE.out _ X.out.bel).o1⟩⟩) (Or.inl ⟨by rfl, by intro w hSw; (try dsimp only at hSw); (first | (go_simp; done) | (go_simp; with_reducible rfl))⟩) ?_
    try simp only [Act.put, seti, set0, setS]
    refine wpLate_done (by kernel_rfl) ?_ _
    go_wp2
    go_ret
    exact ⟨rfl, X.out.bel⟩
  · rw [checkV_of (canon_yes hx)] at HC1
    subst h3
    have hyd : enc ((d : Nat) : Int) = .agg #[.bool false, .string k] := by rw [h4]; exact enc_mag d
    rw [checkV_of (canon_yes hyd)] at HC2
    have HI := Lib.hid (fun V => isInteger_no b m k (by rw [h4]; exact mag_no_nil (by omega)) V)
    have hkn := toList_ne (l := [1]) (show k ≠ ⟨#[1]⟩ from by rw [h4]; exact mag_no_one (by omega))
    have hkn2 : ¬ [1] = k.toList := fun e => hkn e.symm
    have HG := Lib.hid (fun V (hV : Env V) => gcd_f hx hyd (bg := false) (mg := mag (Nat.gcd x.natAbs d)) (by rw [Int.natAbs_natCast]; exact enc_mag _) (by omega) (by omega) V hV.tab)
    have hgn := toList_ne (l := [1]) (mag_no_one h6)
    have hgn2 : ¬ [1] = (mag (Nat.gcd x.natAbs d)).toList := fun e => hgn e.symm
    generalize mag (Nat.gcd x.natAbs d) = mg at *
    clear hno h4 h5 h6 hx hyd
    have X := Lib.hid ((Sb.start w).new #[.bool b, .string m, .bool false, .string k] 25)
    have X := Lib.hid (X.out.pick [0] [(w.heap.size, #[.bool b, .string m, .bool false, .string k], 25)] [] (by simp) (by decide) (by simp))
    obtain ⟨a0, a1, a2, a3⟩ := X.out.c4 (i := 0) rfl
    go_enter Tryz.func69, Tryz.ntmps69
    go_wp2_with fail
    refine (HC1.out _).mono ?_
    rintro e w1 ⟨rfl, hb9⟩
    have X := Lib.hid (X.out.next hb9)
    clear hb9
    clear a0 a1 a2 a3
    obtain ⟨a0, a1, a2, a3⟩ := X.out.c4 (i := 0) rfl
    go_wp2_with fail
    refine (HC2.out _).mono ?_
    rintro e w2 ⟨rfl, hb9⟩
    have X := Lib.hid (X.out.next hb9)
    clear hb9
    clear a0 a1 a2 a3
    obtain ⟨a0, a1, a2, a3⟩ := X.out.c4 (i := 0) rfl
    go_wp2_with fail
    refine (HI.out _).mono ?_
    rintro e w3 ⟨rfl, hb9⟩
    have X := Lib.hid (X.out.next hb9)
    clear hb9
    clear a0 a1 a2 a3
    go_upto_region 5 with fail
    refine wp_region_late (S := fun w' => (w'.cell? ⟨w.heap.size, 0, none⟩ = some (.bool b) ∧ w'.cell? ⟨w.heap.size, 1, none⟩ = some (.string m) ∧ w'.cell? ⟨w.heap.size, 2, none⟩ = some (.bool false) ∧ w'.cell? ⟨w.heap.size, 3, none⟩ = some (.string k)) ∧ (w'.cell? ⟨0, 0, none⟩ = some (.bool false) ∧ w'.cell? ⟨0, 1, none⟩ = some (.string ⟨#[1]⟩))) (L := []) (by kernel_rfl) ?_
    have X := Lib.hid X.out.drew
    obtain ⟨V0, hV⟩ := wexi X.out
    rw [← hV] at X ⊢
    clear hV
    refine tk (i := 0) (oi := ⟨some 18, _, _, _, _, _⟩) (v := _) rfl (by kernel_rfl) (fun _ _ _ h => h) (⟨X.out.c4 (i := 0) rfl, ⟨(HE.out _ X.out.bel).o0, (HE.out _ X.out.bel).o1⟩⟩) (Or.inl ⟨by rfl, by intro w hSw; (try dsimp only at hSw); (first | (go_simp; done) | (go_simp; with_reducible rfl))⟩) ?_
    try simp only [Act.put, seti, set0, setS]
    refine tk (i := 1) (oi := ⟨some 19, _, _, _, _, _⟩) (v := _) rfl (by kernel_rfl) (fun _ _ _ h => h) (⟨X.out.c4 (i := 0) rfl, ⟨(HE.out _ X.out.bel).o0, (HE.out _ X.out.bel).o1⟩⟩) (Or.inl ⟨by rfl, by intro w hSw; (try dsimp only at hSw); (first | (go_simp; done) | (go_simp; with_reducible rfl))⟩) ?_
    try simp only [Act.put, seti, set0, setS]
    refine tk (i := 2) (oi := ⟨some 20, _, _, _, _, _⟩) (v := _) rfl (by kernel_rfl) (fun _ _ _ h => h) (⟨X.out.c4 (i := 0) rfl, ⟨(HE.out _ X.out.bel).o0, (HE.out _ X.out.bel).o1⟩⟩) (Or.inl ⟨by rfl, by intro w hSw; (try dsimp only at hSw); (first | (go_simp; done) | (go_simp; with_reducible rfl))⟩) ?_
    try simp only [Act.put, seti, set0, setS]
    refine tk (i := 3) (oi := ⟨some 21, _, _, _, _, _⟩) (v := _) rfl (by kernel_rfl) (fun _ _ _ h => h) (⟨X.out.c4 (i := 0) rfl, ⟨(HE.out _ X.out.bel).o0, (HE.out _ X.out.bel).o1⟩⟩) (Or.inl ⟨by rfl, by intro w hSw; (try dsimp only at hSw); (first | (go_simp; done) | (go_simp; with_reducible rfl))⟩) ?_
    try simp only [Act.put, seti, set0, setS]
    refine tk (i := 4) (oi := ⟨some 22, _, _, _, _, _⟩) (v := _) rfl (by kernel_rfl) (fun _ _ _ h => h) (⟨X.out.c4 (i := 0) rfl, ⟨(HE.out _ X.out.bel).o0, (HE.out _ X.out.bel).o1⟩⟩) (Or.inl ⟨by rfl, by intro w hSw; (try dsimp only at hSw); (first | (go_simp; done) | (go_simp; with_reducible rfl))⟩) ?_
    try simp only [Act.put, seti, set0, setS]
    refine tk (i := 5) (oi := ⟨some 23, _, _, _, _, _⟩) (v := _) rfl (by kernel_rfl) (fun _ _ _ h => h) (⟨X.out.c4 (i := 0) rfl, ⟨(HE.out _ X.out.bel).o0, (HE.out _ X.out.bel).o1⟩⟩) (Or.inl ⟨by rfl, by intro w hSw; (try dsimp only at hSw); (first | (go_simp; done) | (go_simp; with_reducible rfl))⟩) ?_
    try simp only [Act.put, seti, set0, setS]
    refine tk (i := 6) (oi := ⟨some 24, _, _, _, _, _⟩) (v := _) rfl (by kernel_rfl) (fun _ _ _ h => h) (⟨X.out.c4 (i := 0) rfl, ⟨(HE.out _ X.out.bel).o0, (HE.out _ X.out.bel).o1⟩⟩) (Or.inl ⟨by rfl, by intro w hSw; (try dsimp only at hSw); (first | (go_simp; done) | (go_simp; with_reducible rfl))⟩) ?_
    try simp only [Act.put, seti, set0, setS]
    refine tk (i := 7) (oi := ⟨some 25, _, _, _, _, _⟩) (v := _) rfl (by kernel_rfl) (fun _ _ _ h => h) (⟨X.out.c4 (i := 0) rfl, ⟨(HE.out _ X.out.bel).o0, (HE.out _ X.out.bel).o1⟩⟩) (Or.inl ⟨by rfl, by intro w hSw; (try dsimp only at hSw); (first | (go_simp; done) | (go_simp; with_reducible rfl))⟩) ?_
    try simp only [Act.put, seti, set0, setS]
    refine tk (i := 8) (oi := ⟨some 26, _, _, _, _, _⟩) (v := _) rfl (by kernel_rfl) (fun _ _ _ h => h) (⟨X.out.c4 (i := 0) rfl, ⟨(HE.out _ X.out.bel).o0, (HE.out _ X.out.bel).o1⟩⟩) (Or.inl ⟨by rfl, by intro w hSw; (try dsimp only at hSw); (first | (go_simp; done) | (go_simp; with_reducible rfl))⟩) ?_
    try simp only [Act.put, seti, set0, setS]
    refine tk (i := 9) (oi := ⟨some 27, _, _, _, _, _⟩) (v := _) rfl (by kernel_rfl) (fun _ _ _ h => h) (⟨X.out.c4 (i := 0) rfl, ⟨(HE.out _ X.out.bel).o0, (HE.out _ X.out.bel).o1⟩⟩) (Or.inl ⟨by rfl, by intro w hSw; (try dsimp only at hSw); (first | (go_simp; done) | (go_simp; with_reducible rfl))⟩) ?_
    try simp only [Act.put, seti, set0, setS]
    refine tk (i := 10) (oi := ⟨some 28, _, _, _, _, _⟩) (v := _) rfl (by kernel_rfl) (fun _ _ _ h => h) (⟨X.out.c4 (i := 0) rfl, ⟨(HE.out _ X.out.bel).o0, (HE.out _ X.out.bel).o1⟩⟩) (Or.inl ⟨by rfl, by intro w hSw; (try dsimp only at hSw); (first | (go_simp; done) | (go_simp; with_reducible rfl))⟩) ?_
    try simp only [Act.put, seti, set0, setS]
    refine tk (i := 11) (oi := ⟨some 29, _, _, _, _, _⟩) (v := _) rfl (by kernel_rfl) (fun _ _ _ h => h) (⟨X.out.c4 (i := 0) rfl, ⟨(HE.out _ X.out.bel).o0, (HE.out _ X.out.bel).o1⟩⟩) (Or.inl ⟨by rfl, by intro w hSw; (try dsimp only at hSw); (first | (go_simp; done) | (go_simp; with_reducible rfl))⟩) ?_
    try simp only [Act.put, seti, set0, setS]
    refine tk (i := 12) (oi := ⟨some 30, _, _, _, _, _⟩) (v := _) rfl (by kernel_rfl) (fun _ _ _ h => h) (⟨X.out.c4 (i := 0) rfl, ⟨(HE.out _ X.out.bel).o0, (HE.out _ X.out.bel).o1⟩⟩) (Or.inl ⟨by rfl, by intro w hSw; (try dsimp only at hSw); (first | (go_simp; done) | (go_simp; with_reducible rfl))⟩) ?_
    try simp only [Act.put, seti, set0, setS]
    refine tk (i := 13) (oi := ⟨some 31, _, _, _, _, _⟩) (v := _) rfl (by kernel_rfl) (fun _ _ _ h => h) (⟨X.out.c4 (i := 0) rfl, ⟨(HE.out _ X.out.bel).o0, (HE.out _ X.out.bel).o1⟩⟩) (Or.inl ⟨by rfl, by intro w hSw; (try dsimp only at hSw); (first | (go_simp; done) | (go_simp; with_reducible rfl))⟩) ?_
    try simp only [Act.put, seti, set0, setS]
    refine tk (i := 15) (oi := ⟨some 33, _, _, _, _, _⟩) (v := _) rfl (by kernel_rfl) (fun _ _ _ h => h) (⟨X.out.c4 (i := 0) rfl, ⟨(HE.out _ X.out.bel).o0, (HE.out _ X.out.bel).o1⟩⟩) (Or.inl ⟨by rfl, by intro w hSw; (try dsimp only at hSw); (first | (go_simp; done) | (go_simp; with_reducible rfl))⟩) ?_
    try simp only [Act.put, seti, set0, setS]
    refine wpLate_one (i := 14) (o := ⟨some 32, _, _, _, _, _⟩) (by kernel_rfl) rfl (fun K hK => ?_)
    go_simp
    (go_at_call 126; refine (HG.out _ (HE.out _ X.out.bel)).mono ?_; rintro e u1 ⟨rfl, hb9⟩; have X := Lib.hid (X.out.next hb9); clear hb9)
    try go_wp2_with fail
    refine hK.out _ _ (Or.inr (fun _ => ⟨X.out.c4 (i := 0) rfl, ⟨(HE.out _ X.out.bel).o0, (HE.out _ X.out.bel).o1⟩⟩)) ?_
    clear hK K
    try simp only [Act.put, seti, set0, setS]
    refine tk (i := 16) (oi := ⟨some 34, _, _, _, _, _⟩) (v := _) rfl (by kernel_rfl) (fun _ _ _ h => h) (⟨X.out.c4 (i := 0) rfl, ⟨(HE.out _ X.out.bel).o0, (HE.out _ X.out.bel).o1⟩⟩) (Or.inl ⟨by rfl, by intro w hSw; (try dsimp only at hSw); (first | (go_simp; done) | (go_simp; with_reducible rfl))⟩) ?_
    try simp only [Act.put, seti, set0, setS]
    refine tk (i := 17) (oi := ⟨some 35, _, _, _, _, _⟩) (v := _) rfl (by kernel_rfl) (fun _ _ _ h => h) (⟨X.out.c4 (i := 0) rfl, ⟨(HE.out _ X.out.bel).o0, (HE.out _ X.out.bel).o1⟩⟩) (Or.inl ⟨by rfl, by intro w hSw; (try dsimp only at hSw); (first | (go_simp; done) | (go_simp; with_reducible rfl))⟩) ?_
    try simp only [Act.put, seti, set0, setS]
    refine tk (i := 18) (oi := ⟨some 17, _, _, _, _, _⟩) (v := _) rfl (by kernel_rfl) (fun _ _ _ h => h) (⟨X.out.c4 (i := 0) rfl, ⟨(HE.out _ X.out.bel).o0, (HE.out _ X.out.bel).o1⟩⟩) (Or.inl ⟨by rfl, by intro w hSw; (try dsimp only at hSw); (first | (go_simp; done) | (go_simp; with_reducible rfl))⟩) ?_
    try simp only [Act.put, seti, set0, setS]
    refine wpLate_done (by kernel_rfl) ?_ _
    go_wp2
    go_ret
    exact ⟨rfl, X.out.bel⟩
end Go.Proofs.YtpnokfgplnmjpaaGreatDoor


namespace Go.Proofs.YtpnokfgplnmjpaaGreatDoor
open Go.RowKit
attribute [local go_sem ↓] Go.wp_at_zero Go.wp_at_succ

theorem Rq.dsize {q : Rat} {b : Bool} {m k : ByteArray} {n : Nat} (h : Rq q b m k) (hs : (Go.Proofs.YtpnokfgplnmjpaaGreatDoor.mag q.den).size ≤ n) : k.size ≤ n := by
  by_cases hd : q.den = 1
  · rw [h.den1 hd]; exact Nat.zero_le _
  · rw [h.den2 hd]; exact hs

set_option maxHeartbeats 8000000 in
set_option maxRecDepth 100000 in
theorem fmk_sq {p q r : Rat} {b1 b2 b3 b6 : Bool} {m1 k1 m2 k2 m3 k3 m6 k6 : ByteArray} (hp : Rq p b1 m1 k1) (hq : Rq q b2 m2 k2) (hr : Rq r b3 m3 k3) (hs : Sg.Sq r) (h6 : Rq (p + q * Sg.rt r) b6 m6 k6) (zp : Sz 2000 p) (zq : Sz 2000 q) (zr : Sz (7999 + 1) r) (w : World) :
    Calls Tryz.prog 29 #[.agg #[.bool b1, .string m1, .bool false, .string k1], .agg #[.bool b2, .string m2, .bool false, .string k2], .agg #[.bool b3, .string m3, .bool false, .string k3]] w (RetB w (.agg #[.bool b6, .string m6, .bool false, .string k6, .bool false, .string ⟨#[]⟩, .bool false, .string ⟨#[]⟩, .bool false])) := by
  obtain ⟨b4, m4, k4, h4⟩ := Rq.some_ (Sg.rt r)
  obtain ⟨b5, m5, k5, h5⟩ := Rq.some_ (q * Sg.rt r)
  have z4 := zr.root
  have z5 : Sz 10000 (q * Sg.rt r) := zq.mul z4
  have C1 := kn w ((root_yes_z hr (zr.up (by omega)) hs h4).2)
  have C2 := kn w (rmul_z hq h4 h5 (zq.up (by omega)) (z4.up (by omega)))
  have C3 := kn w (radd_z hp h5 h6 (zp.up (by omega)) z5)
  have RS := Lib.hid Tryz.results29
  clear hp hq hr hs h6 zp zq zr h4 h5 z4 z5
  go_enter Tryz.func29, Tryz.ntmps29
  exact wk0

set_option maxHeartbeats 8000000 in
set_option maxRecDepth 100000 in
theorem fmk_zero {r : Rat} {b1 b3 : Bool} {m1 k1 m3 k3 : ByteArray} (hr : Rq r b3 m3 k3) (hs : ¬ Sg.Sq r) (zr : Sz 9000 r) (w : World) :
    Calls Tryz.prog 29 #[.agg #[.bool b1, .string m1, .bool false, .string k1], .agg #[.bool false, .string ⟨#[]⟩, .bool false, .string ⟨#[]⟩], .agg #[.bool b3, .string m3, .bool false, .string k3]] w (RetB w (.agg #[.bool b1, .string m1, .bool false, .string k1, .bool false, .string ⟨#[]⟩, .bool false, .string ⟨#[]⟩, .bool false])) := by
  have C1 := kn w ((root_no_z hr zr hs).2)
  have C2 := kn w (zero_any)
  have RS := Lib.hid Tryz.results29
  clear hr hs zr
  go_enter Tryz.func29, Tryz.ntmps29
  exact wk0

set_option maxHeartbeats 8000000 in
set_option maxRecDepth 100000 in
theorem fmk_irr_true {q r : Rat} {b1 b3 b5 : Bool} {m1 k1 m3 k3 m5 k5 : ByteArray} {m2 k2 : ByteArray} (hq : Rq q true m2 k2) (hq0 : q ≠ 0) (hr : Rq r b3 m3 k3) (hs : ¬ Sg.Sq r) (h5 : Rq (q * q * r) b5 m5 k5) (zq : Sz 2000 q) (zr : Sz 2000 r) (w : World) :
    Calls Tryz.prog 29 #[.agg #[.bool b1, .string m1, .bool false, .string k1], .agg #[.bool true, .string m2, .bool false, .string k2], .agg #[.bool b3, .string m3, .bool false, .string k3]] w (RetB w (.agg #[.bool b1, .string m1, .bool false, .string k1, .bool b5, .string m5, .bool false, .string k5, .bool (decide (Sg.sgq q < 0))])) := by
  obtain ⟨b4, m4, k4, h4⟩ := Rq.some_ (q * q)
  have hn := hq.ne hq0
  obtain ⟨e1, e2⟩ := str_ne hn
  have e3 := empty_no (size_pos hn)
  have z4 := zq.mul zq
  have C1 := kn w ((root_no_z hr (zr.up (by omega)) hs).2)
  have C2 := kn w (zero_any)
  have C3 := kn w (rmul_z hq hq h4 (zq.up (by omega)) (zq.up (by omega)))
  have C4 := kn w (rmul_z h4 hr h5 (z4.up (by omega)) (zr.up (by omega)))
  have C5 := kn w (rsign_z hq)
  have RS := Lib.hid Tryz.results29
  clear hq hq0 hr hs h5 zq zr h4 hn z4
  go_enter Tryz.func29, Tryz.ntmps29
  exact wk0

set_option maxHeartbeats 8000000 in
set_option maxRecDepth 100000 in
theorem fmk_irr_false {q r : Rat} {b1 b3 b5 : Bool} {m1 k1 m3 k3 m5 k5 : ByteArray} {m2 k2 : ByteArray} (hq : Rq q false m2 k2) (hq0 : q ≠ 0) (hr : Rq r b3 m3 k3) (hs : ¬ Sg.Sq r) (h5 : Rq (q * q * r) b5 m5 k5) (zq : Sz 2000 q) (zr : Sz 2000 r) (w : World) :
    Calls Tryz.prog 29 #[.agg #[.bool b1, .string m1, .bool false, .string k1], .agg #[.bool false, .string m2, .bool false, .string k2], .agg #[.bool b3, .string m3, .bool false, .string k3]] w (RetB w (.agg #[.bool b1, .string m1, .bool false, .string k1, .bool b5, .string m5, .bool false, .string k5, .bool (decide (Sg.sgq q < 0))])) := by
  obtain ⟨b4, m4, k4, h4⟩ := Rq.some_ (q * q)
  have hn := hq.ne hq0
  obtain ⟨e1, e2⟩ := str_ne hn
  have e3 := empty_no (size_pos hn)
  have z4 := zq.mul zq
  have C1 := kn w ((root_no_z hr (zr.up (by omega)) hs).2)
  have C2 := kn w (zero_any)
  have C3 := kn w (rmul_z hq hq h4 (zq.up (by omega)) (zq.up (by omega)))
  have C4 := kn w (rmul_z h4 hr h5 (z4.up (by omega)) (zr.up (by omega)))
  have C5 := kn w (rsign_z hq)
  have RS := Lib.hid Tryz.results29
  clear hq hq0 hr hs h5 zq zr h4 hn z4
  go_enter Tryz.func29, Tryz.ntmps29
  exact wk0

theorem sgq_lt {q : Rat} : Sg.sgq q < 0 ↔ q < 0 := by
  rcases Sg.sgq_three q with ⟨h, e⟩ | ⟨h, e⟩ | ⟨h, e⟩ <;> rw [e]
  · simp [h]
  · subst h; simp
  · constructor
    · intro h1; omega
    · intro h1; grind
theorem fmk_f {p q r : Rat} {b1 b2 b3 : Bool} {m1 k1 m2 k2 m3 k3 : ByteArray} {b6 c6 s6 : Bool} {m6 k6 n6 l6 : ByteArray} (hp : Rq p b1 m1 k1) (hq : Rq q b2 m2 k2) (hr : Rq r b3 m3 k3) (zp : Sz 2000 p) (zq : Sz 2000 q) (zr : Sz 2000 r) (h6 : Rv (Sg.mkR p q r) b6 m6 k6 c6 n6 l6 s6) (w : World) :
    Calls Tryz.prog 29 #[.agg #[.bool b1, .string m1, .bool false, .string k1], .agg #[.bool b2, .string m2, .bool false, .string k2], .agg #[.bool b3, .string m3, .bool false, .string k3]] w (RetB w (.agg #[.bool b6, .string m6, .bool false, .string k6, .bool c6, .string n6, .bool false, .string l6, .bool s6])) := by
  unfold Sg.mkR at h6
  by_cases hs : Sg.Sq r
  · rw [if_pos hs] at h6
    obtain ⟨rfl, rfl, rfl⟩ := h6.r.nought.1 rfl
    obtain rfl : s6 = false := h6.neg
    exact fmk_sq hp hq hr hs h6.p zp zq (zr.up (by omega)) w
  · rw [if_neg hs] at h6
    by_cases hq0 : q = 0
    · rw [if_pos hq0] at h6
      obtain ⟨rfl, rfl, rfl⟩ := h6.r.nought.1 rfl
      obtain rfl : s6 = false := h6.neg
      obtain ⟨rfl, rfl, rfl⟩ := hq.nought.1 hq0
      obtain ⟨rfl, rfl, rfl⟩ := h6.p.inj hp
      exact fmk_zero hr hs (zr.up (by omega)) w
    · rw [if_neg hq0] at h6
      obtain ⟨rfl, rfl, rfl⟩ := h6.p.inj hp
      obtain rfl : s6 = decide (Sg.sgq q < 0) := by
        rw [h6.neg]
        by_cases h : q < 0
        · simp [h, sgq_lt.2 h]
        · have h' : ¬ Sg.sgq q < 0 := fun e => h (sgq_lt.1 e)
          simp [h, h']
      cases b2
      · exact fmk_irr_false hq hq0 hr hs h6.r zq zr w
      · exact fmk_irr_true hq hq0 hr hs h6.r zq zr w

set_option maxHeartbeats 8000000 in
set_option maxRecDepth 100000 in
theorem rchk_rat {p : Rat} {b1 : Bool} {m1 k1 : ByteArray} (hp : Rq p b1 m1 k1) (zp : Sz 10000 p) (w : World) (hE : Env w) :
    Calls Tryz.prog 18 #[.agg #[.bool b1, .string m1, .bool false, .string k1, .bool false, .string ⟨#[]⟩, .bool false, .string ⟨#[]⟩, .bool false]] w (RetB w (.int .i64 0)) := by
  have t1 := (zp.m hp (Nat.le_refl _)).1
  have t2 := hp.dsize (zp.m hp (Nat.le_refl _)).2
  have C1 := ke hE (ratCheck_f hp (by omega) (by omega))
  have C2 := ke hE (ratCheck_f Rq.zero (by decide) (by decide))
  have C3 := kn w (isRat_yes b1 false m1 k1)
  clear hp zp t1 t2 hE
  go_enter Tryz.func18, Tryz.ntmps18
  exact wk0

set_option maxHeartbeats 8000000 in
set_option maxRecDepth 100000 in
theorem rchk_irr {x : Sg.Rl} {b1 c1 s1 : Bool} {m1 k1 n1 l1 : ByteArray} (hx : Rv x b1 m1 k1 c1 n1 l1 s1) (hx0 : 0 < x.a) (hn : ¬ Sg.Sq x.a) (zx : Rz 9000 x) (w : World) (hE : Env w) :
    Calls Tryz.prog 18 #[.agg #[.bool b1, .string m1, .bool false, .string k1, .bool c1, .string n1, .bool false, .string l1, .bool s1]] w (RetB w (.int .i64 0)) := by
  have t1 := ((zx.p.up (by omega)).m hx.p (Nat.le_refl _)).1
  have t2 := hx.p.dsize ((zx.p.up (by omega)).m hx.p (Nat.le_refl _)).2
  have t3 := ((zx.r.up (by omega)).m hx.r (Nat.le_refl _)).1
  have t4 := hx.r.dsize ((zx.r.up (by omega)).m hx.r (Nat.le_refl _)).2
  have hne : x.a ≠ 0 := by grind
  have C4 := Lib.hid (fun V (_ : Below w.heap.size w V) => sign_z hx.r V)
  rw [Sg.sgq_pos hx0] at C4
  have C1 := ke hE (ratCheck_f hx.p (by omega) (by omega))
  have C2 := ke hE (ratCheck_f hx.r (by omega) (by omega))
  have C3 := kn w (isRat_no hx hne)
  have C5 := ke hE ((root_no_z hx.r zx.r hn).1)
  clear hx hx0 hn zx t1 t2 t3 t4 hne hE
  go_enter Tryz.func18, Tryz.ntmps18
  exact wk0

theorem rchk_ok {x : Sg.Rl} {b1 c1 s1 : Bool} {m1 k1 n1 l1 : ByteArray} (hx : Rv x b1 m1 k1 c1 n1 l1 s1) (ok : x.Ok) (zx : Rz 9000 x) (w : World) (hE : Env w) : Calls Tryz.prog 18 #[.agg #[.bool b1, .string m1, .bool false, .string k1, .bool c1, .string n1, .bool false, .string l1, .bool s1]] w (RetB w (.int .i64 0)) := by
  rcases Sg.ok_cases ok with ⟨ha, e⟩ | ⟨ha, hn⟩
  · obtain ⟨rfl, rfl, rfl⟩ := hx.r.nought.1 ha
    obtain rfl : s1 = false := by rw [hx.neg, e]; rfl
    exact rchk_rat hx.p (zx.p.up (by omega)) w hE
  · exact rchk_irr hx ha hn zx w hE
end Go.Proofs.YtpnokfgplnmjpaaGreatDoor


namespace Go.Proofs.YtpnokfgplnmjpaaGreatDoor
open Go.RowKit
attribute [local go_sem ↓] Go.wp_at_zero Go.wp_at_succ

theorem at_ {M : World → Prop} (g : Nat) (k : Nat) {W : World} {y : Value} (h : M (W.setCell ⟨g, k, none⟩ y)) : M (W.setCell ⟨g, k, none⟩ y) := h

set_option maxHeartbeats 8000000 in
set_option maxRecDepth 100000 in
theorem simp_next (w : World) {z1 : Bool} {y1 : ByteArray} {b1 c1 s1 : Bool} {m1 k1 n1 l1 : ByteArray} {b2 c2 s2 : Bool} {m2 k2 n2 l2 : ByteArray} {b3 : Bool} {m3 k3 : ByteArray} {c : Int} (hc : 0 < c) (HF : ∀ V, Below w.heap.size w V → Calls Tryz.prog 52 #[.agg #[.bool b1, .string m1, .bool false, .string k1, .bool c1, .string n1, .bool false, .string l1, .bool s1]] V (RetB V (.agg #[.bool z1, .string y1]))) (HW : ∀ V, Below w.heap.size w V → Calls Tryz.prog 73 #[.int .i64 (1)] V (RetB V (.agg #[.bool false, .string ⟨#[1]⟩, .bool false, .string ⟨#[]⟩]))) (HA : ∀ V, Below w.heap.size w V → Calls Tryz.prog 89 #[.agg #[.bool z1, .string y1, .bool false, .string ⟨#[]⟩], .agg #[.bool false, .string ⟨#[1]⟩, .bool false, .string ⟨#[]⟩]] V (RetB V (.agg #[.bool b3, .string m3, .bool false, .string k3]))) (HC : ∀ V, Below w.heap.size w V → Calls Tryz.prog 38 #[.agg #[.bool b2, .string m2, .bool false, .string k2, .bool c2, .string n2, .bool false, .string l2, .bool s2], .agg #[.bool b3, .string m3, .bool false, .string k3]] V (RetB V (.int .i64 c))) :
    Calls Tryz.prog 109 #[.agg #[.bool b1, .string m1, .bool false, .string k1, .bool c1, .string n1, .bool false, .string l1, .bool s1], .agg #[.bool b2, .string m2, .bool false, .string k2, .bool c2, .string n2, .bool false, .string l2, .bool s2]] w (RetB w (.agg #[.bool b3, .string m3, .bool false, .string k3])) := by
  have C1 := Lib.hid HF
  have C2 := Lib.hid HW
  have C3 := Lib.hid HA
  have C4 := Lib.hid HC
  have U1 : Hid (∀ {p : Prop} (h : p := by ((fail_if_success (go_not_at_region 2)); (fail_if_success (have := hLL)); obtain ⟨LL, hLL⟩ := lexi X.out; go_cut [6] (fun s0 wx => ∃ g0, s0 = .pointer (some ⟨g0, 0, none⟩) ∧ Sb w (LL ++ [(g0, #[.bool b3, .string m3, .bool false, .string k3], 25)]) [] wx); all_goals exact wkc)), p) := @fun _ h => h
  have RS := Lib.hid Tryz.results109
  clear HF HW HA HC 
  go_enter Tryz.func109, Tryz.ntmps109
  exact wk0

set_option maxHeartbeats 8000000 in
set_option maxRecDepth 100000 in
theorem simp_rec (w : World) {z1 : Bool} {y1 : ByteArray} {b1 c1 s1 : Bool} {m1 k1 n1 l1 : ByteArray} {b2 c2 s2 : Bool} {m2 k2 n2 l2 : ByteArray} {b5 c5 s5 : Bool} {m5 k5 n5 l5 : ByteArray} {b6 c6 s6 : Bool} {m6 k6 n6 l6 : ByteArray} {b7 c7 s7 : Bool} {m7 k7 n7 l7 : ByteArray} {b8 c8 s8 : Bool} {m8 k8 n8 l8 : ByteArray} {b3 b4 b9 b10 b11 : Bool} {m3 k3 m4 k4 m9 k9 m10 k10 m11 k11 : ByteArray} {c : Int} (hc : ¬ 0 < c) (HF : ∀ V, Below w.heap.size w V → Calls Tryz.prog 52 #[.agg #[.bool b1, .string m1, .bool false, .string k1, .bool c1, .string n1, .bool false, .string l1, .bool s1]] V (RetB V (.agg #[.bool z1, .string y1]))) (HW : ∀ V, Below w.heap.size w V → Calls Tryz.prog 73 #[.int .i64 (1)] V (RetB V (.agg #[.bool false, .string ⟨#[1]⟩, .bool false, .string ⟨#[]⟩]))) (HA : ∀ V, Below w.heap.size w V → Calls Tryz.prog 89 #[.agg #[.bool z1, .string y1, .bool false, .string ⟨#[]⟩], .agg #[.bool false, .string ⟨#[1]⟩, .bool false, .string ⟨#[]⟩]] V (RetB V (.agg #[.bool b3, .string m3, .bool false, .string k3]))) (HC : ∀ V, Below w.heap.size w V → Calls Tryz.prog 38 #[.agg #[.bool b2, .string m2, .bool false, .string k2, .bool c2, .string n2, .bool false, .string l2, .bool s2], .agg #[.bool b3, .string m3, .bool false, .string k3]] V (RetB V (.int .i64 c))) (HN : ∀ V, Below w.heap.size w V → Calls Tryz.prog 80 #[.agg #[.bool z1, .string y1, .bool false, .string ⟨#[]⟩]] V (RetB V (.agg #[.bool b4, .string m4, .bool false, .string k4]))) (HS1 : ∀ V, Below w.heap.size w V → Calls Tryz.prog 44 #[.agg #[.bool b1, .string m1, .bool false, .string k1, .bool c1, .string n1, .bool false, .string l1, .bool s1], .agg #[.bool b4, .string m4, .bool false, .string k4]] V (RetB V (.agg #[.bool b5, .string m5, .bool false, .string k5, .bool c5, .string n5, .bool false, .string l5, .bool s5]))) (HS2 : ∀ V, Below w.heap.size w V → Calls Tryz.prog 44 #[.agg #[.bool b2, .string m2, .bool false, .string k2, .bool c2, .string n2, .bool false, .string l2, .bool s2], .agg #[.bool b4, .string m4, .bool false, .string k4]] V (RetB V (.agg #[.bool b6, .string m6, .bool false, .string k6, .bool c6, .string n6, .bool false, .string l6, .bool s6]))) (HI1 : ∀ V, Below w.heap.size w V → Calls Tryz.prog 50 #[.agg #[.bool b6, .string m6, .bool false, .string k6, .bool c6, .string n6, .bool false, .string l6, .bool s6]] V (RetB V (.tuple #[.agg #[.bool b7, .string m7, .bool false, .string k7, .bool c7, .string n7, .bool false, .string l7, .bool s7], .int .i64 0]))) (HI2 : ∀ V, Below w.heap.size w V → Calls Tryz.prog 50 #[.agg #[.bool b5, .string m5, .bool false, .string k5, .bool c5, .string n5, .bool false, .string l5, .bool s5]] V (RetB V (.tuple #[.agg #[.bool b8, .string m8, .bool false, .string k8, .bool c8, .string n8, .bool false, .string l8, .bool s8], .int .i64 0]))) (HR : ∀ V, Below w.heap.size w V → Calls Tryz.prog 109 #[.agg #[.bool b7, .string m7, .bool false, .string k7, .bool c7, .string n7, .bool false, .string l7, .bool s7], .agg #[.bool b8, .string m8, .bool false, .string k8, .bool c8, .string n8, .bool false, .string l8, .bool s8]] V (RetB V (.agg #[.bool b9, .string m9, .bool false, .string k9]))) (HD : ∀ V, Below w.heap.size w V → Calls Tryz.prog 79 #[.agg #[.bool false, .string ⟨#[1]⟩, .bool false, .string ⟨#[]⟩], .agg #[.bool b9, .string m9, .bool false, .string k9]] V (RetB V (.agg #[.bool b10, .string m10, .bool false, .string k10]))) (HZ : ∀ V, Below w.heap.size w V → Calls Tryz.prog 89 #[.agg #[.bool z1, .string y1, .bool false, .string ⟨#[]⟩], .agg #[.bool b10, .string m10, .bool false, .string k10]] V (RetB V (.agg #[.bool b11, .string m11, .bool false, .string k11]))) :
    Calls Tryz.prog 109 #[.agg #[.bool b1, .string m1, .bool false, .string k1, .bool c1, .string n1, .bool false, .string l1, .bool s1], .agg #[.bool b2, .string m2, .bool false, .string k2, .bool c2, .string n2, .bool false, .string l2, .bool s2]] w (RetB w (.agg #[.bool b11, .string m11, .bool false, .string k11])) := by
  have C1 := Lib.hid HF
  have C2 := Lib.hid HW
  have C3 := Lib.hid HA
  have C4 := Lib.hid HC
  have C5 := Lib.hid HN
  have C6 := Lib.hid HS1
  have C7 := Lib.hid HS2
  have C8 := Lib.hid HI1
  have C9 := Lib.hid HI2
  have C10 := Lib.hid HR
  have C11 := Lib.hid HD
  have C12 := Lib.hid HZ
  have U1 : Hid (∀ {p : Prop} (h : p := by ((fail_if_success (go_not_at_region 2)); (fail_if_success (have := hLL)); obtain ⟨LL, hLL⟩ := lexi X.out; go_cut [6] (fun s0 wx => ∃ g0, s0 = .pointer (some ⟨g0, 0, none⟩) ∧ Sb w (LL ++ [(g0, #[.bool b3, .string m3, .bool false, .string k3], 25)]) [] wx); all_goals exact wkc)), p) := @fun _ h => h
  have RS := Lib.hid Tryz.results109
  clear HF HW HA HC HN HS1 HS2 HI1 HI2 HR HD HZ 
  go_enter Tryz.func109, Tryz.ntmps109
  exact wk0

set_option maxHeartbeats 8000000 in
set_option maxRecDepth 100000 in
theorem simp_open (w : World) {z1 : Bool} {y1 : ByteArray} {b1 c1 s1 : Bool} {m1 k1 n1 l1 : ByteArray} {b2 c2 s2 : Bool} {m2 k2 n2 l2 : ByteArray} {b5 c5 s5 : Bool} {m5 k5 n5 l5 : ByteArray} {b6 c6 s6 : Bool} {m6 k6 n6 l6 : ByteArray} {b7 c7 s7 : Bool} {m7 k7 n7 l7 : ByteArray} {b8 c8 s8 : Bool} {m8 k8 n8 l8 : ByteArray} {b3 b4 b9 b10 b11 : Bool} {m3 k3 m4 k4 m9 k9 m10 k10 m11 k11 : ByteArray} {c : Int} (hc : ¬ 0 < c) (HF : ∀ V, Below w.heap.size w V → Calls Tryz.prog 52 #[.agg #[.bool b1, .string m1, .bool false, .string k1, .bool c1, .string n1, .bool false, .string l1, .bool s1]] V (RetB V (.agg #[.bool z1, .string y1]))) (HW : ∀ V, Below w.heap.size w V → Calls Tryz.prog 73 #[.int .i64 (1)] V (RetB V (.agg #[.bool false, .string ⟨#[1]⟩, .bool false, .string ⟨#[]⟩]))) (HA : ∀ V, Below w.heap.size w V → Calls Tryz.prog 89 #[.agg #[.bool z1, .string y1, .bool false, .string ⟨#[]⟩], .agg #[.bool false, .string ⟨#[1]⟩, .bool false, .string ⟨#[]⟩]] V (RetB V (.agg #[.bool b3, .string m3, .bool false, .string k3]))) (HC : ∀ V, Below w.heap.size w V → Calls Tryz.prog 38 #[.agg #[.bool b2, .string m2, .bool false, .string k2, .bool c2, .string n2, .bool false, .string l2, .bool s2], .agg #[.bool b3, .string m3, .bool false, .string k3]] V (RetB V (.int .i64 c))) (HN : ∀ V, Below w.heap.size w V → Calls Tryz.prog 80 #[.agg #[.bool z1, .string y1, .bool false, .string ⟨#[]⟩]] V (RetB V (.agg #[.bool b4, .string m4, .bool false, .string k4]))) (HS1 : ∀ V, Below w.heap.size w V → Calls Tryz.prog 44 #[.agg #[.bool b1, .string m1, .bool false, .string k1, .bool c1, .string n1, .bool false, .string l1, .bool s1], .agg #[.bool b4, .string m4, .bool false, .string k4]] V (RetB V (.agg #[.bool b5, .string m5, .bool false, .string k5, .bool c5, .string n5, .bool false, .string l5, .bool s5]))) (HS2 : ∀ V, Below w.heap.size w V → Calls Tryz.prog 44 #[.agg #[.bool b2, .string m2, .bool false, .string k2, .bool c2, .string n2, .bool false, .string l2, .bool s2], .agg #[.bool b4, .string m4, .bool false, .string k4]] V (RetB V (.agg #[.bool b6, .string m6, .bool false, .string k6, .bool c6, .string n6, .bool false, .string l6, .bool s6]))) (HI1 : ∀ V, Below w.heap.size w V → Calls Tryz.prog 50 #[.agg #[.bool b6, .string m6, .bool false, .string k6, .bool c6, .string n6, .bool false, .string l6, .bool s6]] V (RetB V (.tuple #[.agg #[.bool b7, .string m7, .bool false, .string k7, .bool c7, .string n7, .bool false, .string l7, .bool s7], .int .i64 0]))) (HI2 : ∀ V, Below w.heap.size w V → Calls Tryz.prog 50 #[.agg #[.bool b5, .string m5, .bool false, .string k5, .bool c5, .string n5, .bool false, .string l5, .bool s5]] V (RetB V (.tuple #[.agg #[.bool false, .string ⟨#[]⟩, .bool false, .string ⟨#[]⟩, .bool false, .string ⟨#[]⟩, .bool false, .string ⟨#[]⟩, .bool false], .int .i64 6]))) (HW2 : ∀ V, Below w.heap.size w V → Calls Tryz.prog 73 #[.int .i64 (2)] V (RetB V (.agg #[.bool false, .string ⟨#[2]⟩, .bool false, .string ⟨#[]⟩]))) (HS3 : ∀ V, Below w.heap.size w V → Calls Tryz.prog 44 #[.agg #[.bool b7, .string m7, .bool false, .string k7, .bool c7, .string n7, .bool false, .string l7, .bool s7], .agg #[.bool false, .string ⟨#[2]⟩, .bool false, .string ⟨#[]⟩]] V (RetB V (.agg #[.bool b8, .string m8, .bool false, .string k8, .bool c8, .string n8, .bool false, .string l8, .bool s8]))) (HR : ∀ V, Below w.heap.size w V → Calls Tryz.prog 109 #[.agg #[.bool b7, .string m7, .bool false, .string k7, .bool c7, .string n7, .bool false, .string l7, .bool s7], .agg #[.bool b8, .string m8, .bool false, .string k8, .bool c8, .string n8, .bool false, .string l8, .bool s8]] V (RetB V (.agg #[.bool b9, .string m9, .bool false, .string k9]))) (HD : ∀ V, Below w.heap.size w V → Calls Tryz.prog 79 #[.agg #[.bool false, .string ⟨#[1]⟩, .bool false, .string ⟨#[]⟩], .agg #[.bool b9, .string m9, .bool false, .string k9]] V (RetB V (.agg #[.bool b10, .string m10, .bool false, .string k10]))) (HZ : ∀ V, Below w.heap.size w V → Calls Tryz.prog 89 #[.agg #[.bool z1, .string y1, .bool false, .string ⟨#[]⟩], .agg #[.bool b10, .string m10, .bool false, .string k10]] V (RetB V (.agg #[.bool b11, .string m11, .bool false, .string k11]))) :
    Calls Tryz.prog 109 #[.agg #[.bool b1, .string m1, .bool false, .string k1, .bool c1, .string n1, .bool false, .string l1, .bool s1], .agg #[.bool b2, .string m2, .bool false, .string k2, .bool c2, .string n2, .bool false, .string l2, .bool s2]] w (RetB w (.agg #[.bool b11, .string m11, .bool false, .string k11])) := by
  have C1 := Lib.hid HF
  have C2 := Lib.hid HW
  have C3 := Lib.hid HA
  have C4 := Lib.hid HC
  have C5 := Lib.hid HN
  have C6 := Lib.hid HS1
  have C7 := Lib.hid HS2
  have C8 := Lib.hid HI1
  have C9 := Lib.hid HI2
  have C10 := Lib.hid HW2
  have C11 := Lib.hid HS3
  have C12 := Lib.hid HR
  have C13 := Lib.hid HD
  have C14 := Lib.hid HZ
  have U1 : Hid (∀ {p : Prop} (h : p := by ((fail_if_success (go_not_at_region 2)); (fail_if_success (have := hLL)); obtain ⟨LL, hLL⟩ := lexi X.out; go_cut [6] (fun s0 wx => ∃ g0, s0 = .pointer (some ⟨g0, 0, none⟩) ∧ Sb w (LL ++ [(g0, #[.bool b3, .string m3, .bool false, .string k3], 25)]) [] wx); all_goals exact wkc)), p) := @fun _ h => h
  have RS := Lib.hid Tryz.results109
  clear HF HW HA HC HN HS1 HS2 HI1 HI2 HW2 HS3 HR HD HZ 
  go_enter Tryz.func109, Tryz.ntmps109
  exact wk0

set_option maxHeartbeats 8000000 in
set_option maxRecDepth 100000 in
theorem btw_pos (w : World) {b1 c1 s1 : Bool} {m1 k1 n1 l1 : ByteArray} {b2 c2 s2 : Bool} {m2 k2 n2 l2 : ByteArray} {b3 : Bool} {m3 k3 : ByteArray} {c s : Int} (hc : c < 0) (hs : 0 ≤ s) (HC1 : ∀ V, Below w.heap.size w V → Calls Tryz.prog 18 #[.agg #[.bool b1, .string m1, .bool false, .string k1, .bool c1, .string n1, .bool false, .string l1, .bool s1]] V (RetB V (.int .i64 (0)))) (HC2 : ∀ V, Below w.heap.size w V → Calls Tryz.prog 18 #[.agg #[.bool b2, .string m2, .bool false, .string k2, .bool c2, .string n2, .bool false, .string l2, .bool s2]] V (RetB V (.int .i64 (0)))) (HC : ∀ V, Below w.heap.size w V → Calls Tryz.prog 34 #[.agg #[.bool b1, .string m1, .bool false, .string k1, .bool c1, .string n1, .bool false, .string l1, .bool s1], .agg #[.bool b2, .string m2, .bool false, .string k2, .bool c2, .string n2, .bool false, .string l2, .bool s2]] V (RetB V (.int .i64 c))) (HI : ∀ V, Below w.heap.size w V → Calls Tryz.prog 70 #[.agg #[.bool b1, .string m1, .bool false, .string k1, .bool c1, .string n1, .bool false, .string l1, .bool s1]] V (RetB V (.bool false))) (HS : ∀ V, Below w.heap.size w V → Calls Tryz.prog 39 #[.agg #[.bool b1, .string m1, .bool false, .string k1, .bool c1, .string n1, .bool false, .string l1, .bool s1]] V (RetB V (.int .i64 s))) (HR : ∀ V, Below w.heap.size w V → Calls Tryz.prog 109 #[.agg #[.bool b1, .string m1, .bool false, .string k1, .bool c1, .string n1, .bool false, .string l1, .bool s1], .agg #[.bool b2, .string m2, .bool false, .string k2, .bool c2, .string n2, .bool false, .string l2, .bool s2]] V (RetB V (.agg #[.bool b3, .string m3, .bool false, .string k3]))) :
    Calls Tryz.prog 56 #[.agg #[.bool b1, .string m1, .bool false, .string k1, .bool c1, .string n1, .bool false, .string l1, .bool s1], .agg #[.bool b2, .string m2, .bool false, .string k2, .bool c2, .string n2, .bool false, .string l2, .bool s2]] w (RetB w (.tuple #[.agg #[.bool b3, .string m3, .bool false, .string k3], .int .i64 0])) := by
  have C1 := Lib.hid HC1
  have C2 := Lib.hid HC2
  have C3 := Lib.hid HC
  have C4 := Lib.hid HI
  have C5 := Lib.hid HS
  have C6 := Lib.hid HR
  have RS := Lib.hid Tryz.results56
  clear HC1 HC2 HC HI HS HR 
  go_enter Tryz.func56, Tryz.ntmps56
  exact wk0
end Go.Proofs.YtpnokfgplnmjpaaGreatDoor
