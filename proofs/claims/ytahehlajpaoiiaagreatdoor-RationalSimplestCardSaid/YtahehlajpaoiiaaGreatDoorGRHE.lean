import Derived.Test.YtahehlajpaoiiaaGreatDoorGRHK
import Derived.Test.YtahehlajpaoiiaaGreatDoorGRCB

namespace Go.Proofs.YtahehlajpaoiiaaGreatDoor

def Ins (p q : Rat) (oa ob : Bool) (t : Rat) : Prop := (p < t ∨ (p = t ∧ oa = false)) ∧ (t < q ∨ (t = q ∧ ob = false))

theorem nat_num {q : Rat} (h : 0 ≤ q.num) : q.num = (q.num.natAbs : Int) := by omega
theorem lt_nat {p t : Rat} (hp : 0 ≤ p.num) (ht : 0 ≤ t.num) : p < t ↔ p.num.natAbs * t.den < t.num.natAbs * p.den := by
  rw [Rat.lt_iff, nat_num hp, nat_num ht, ← Int.natCast_mul, ← Int.natCast_mul, Int.ofNat_lt]
  simp only [Int.natAbs_natCast]
theorem eq_nat {p t : Rat} (hp : 0 ≤ p.num) (ht : 0 ≤ t.num) : p = t ↔ p.num.natAbs * t.den = t.num.natAbs * p.den := by
  rw [Rat.eq_iff_mul_eq_mul, nat_num hp, nat_num ht, ← Int.natCast_mul, ← Int.natCast_mul, Int.natCast_inj]
  simp only [Int.natAbs_natCast]
theorem ins_iff {p q t : Rat} (hp : 0 ≤ p.num) (hq : 0 ≤ q.num) (ht : 0 ≤ t.num) (oa ob : Bool) : Ins p q oa ob t ↔ Inn p.num.natAbs p.den oa q.num.natAbs q.den ob t.num.natAbs t.den := by
  unfold Ins Inn Abv Blw
  rw [lt_nat hp ht, eq_nat hp ht, lt_nat ht hq, eq_nat ht hq]
  exact ⟨fun h => ⟨t.den_pos, h⟩, fun h => h.2⟩
theorem num_nonneg_of_le {p t : Rat} (hp : 0 ≤ p.num) (h : p ≤ t) : 0 ≤ t.num := Rat.num_nonneg.2 (Rat.le_trans (Rat.num_nonneg.1 hp) h)
theorem ins_le {p q t : Rat} {oa ob : Bool} (h : Ins p q oa ob t) : p ≤ t := by
  rcases h.1 with h | ⟨h, _⟩
  · exact Rat.le_of_lt h
  · rw [h]; exact Rat.le_refl
theorem parts_of {n m : Nat} (hc : Nat.gcd n m = 1) (hm : 0 < m) : ∃ r : Rat, r.num = (n : Int) ∧ r.den = m := by
  refine ⟨mkRat (n : Int) m, ?_⟩
  obtain ⟨h1, h2⟩ := mkRat_parts (n : Int) (d := m) (by omega)
  rw [Int.natAbs_natCast, hc] at h1 h2
  exact ⟨by rw [h1]; simp, by rw [h2]; simp⟩
theorem simp_ins {p q : Rat} {oa ob : Bool} {n m : Nat} (hp : 0 ≤ p.num) (hne : p < q ∨ (p = q ∧ oa = false ∧ ob = false)) (h : Simp p.num.natAbs p.den oa q.num.natAbs q.den ob n m) :
    ∃ r : Rat, r.num = (n : Int) ∧ r.den = m ∧ Ins p q oa ob r ∧ (∀ t, Ins p q oa ob t → r.num.natAbs ≤ t.num.natAbs ∧ r.den ≤ t.den) ∧ r.num.natAbs ≤ p.num.natAbs + q.num.natAbs ∧ r.den ≤ p.den + q.den := by
  obtain ⟨r, h1, h2⟩ := parts_of h.cop h.inn.1
  have hpq : p ≤ q := by
    rcases hne with h | ⟨h, _⟩
    · exact Rat.le_of_lt h
    · rw [h]; exact Rat.le_refl
  have hq := num_nonneg_of_le hp hpq
  have hr : 0 ≤ r.num := by omega
  have hn : r.num.natAbs = n := by omega
  have hin := h.inn
  rw [← hn, ← h2] at hin
  have hcr : p.num.natAbs * q.den < q.num.natAbs * p.den ∨ (p.num.natAbs * q.den = q.num.natAbs * p.den ∧ oa = false ∧ ob = false) := by
    rw [← lt_nat hp hq, ← eq_nat hp hq]
    exact hne
  obtain ⟨x, y, h3, h4, h5⟩ := inn_some p.den_pos hcr
  have h6 := h.min x y h3
  refine ⟨r, h1, h2, (ins_iff hp hq hr oa ob).2 hin, fun t ht => ?_, by omega, by omega⟩
  have ht0 := num_nonneg_of_le hp (ins_le ht)
  have h7 := h.min _ _ ((ins_iff hp hq ht0 oa ob).1 ht)
  omega
theorem neg_lt2 {a b : Rat} : -a < -b ↔ b < a := ⟨fun h => by have := Rat.neg_lt_neg h; rwa [Rat.neg_neg, Rat.neg_neg] at this, Rat.neg_lt_neg⟩
theorem neg_inj2 {a b : Rat} : -a = -b ↔ b = a := ⟨fun h => by rw [← Rat.neg_neg a, h, Rat.neg_neg], fun h => by rw [h]⟩
theorem ins_neg {p q t : Rat} {oa ob : Bool} : Ins (-q) (-p) ob oa (-t) ↔ Ins p q oa ob t := by
  unfold Ins
  rw [neg_lt2, neg_lt2, neg_inj2, neg_inj2]
  exact And.comm
theorem sign_neg {q : Rat} : q.num.sign < 0 ↔ q < 0 := by
  rw [sign_cmp, ← Rat.not_le, ← cmpQ_ge]
  omega
theorem sign_pos {q : Rat} : 0 < q.num.sign ↔ 0 < q := by
  rw [sign_cmp, ← Rat.not_le, ← cmpQ_le]
  omega
theorem sign_zero {q : Rat} : q.num.sign = 0 ↔ q = 0 := by
  rw [sign_cmp]
  exact cmpQ_zero

theorem best_of {w w' : World} {p q : Rat} {oa ob : Bool} {e : Ending} (hne : p < q ∨ (p = q ∧ oa = false ∧ ob = false)) (h : RetSx w p q oa ob e w') :
    ∃ (r : Rat) (b : Bool) (m k : ByteArray), RetB w (.tuple #[.agg #[.bool b, .string m, .bool false, .string k], .int .i64 0]) e w' ∧ Rq r b m k ∧ Ins p q oa ob r ∧ (∀ t, Ins p q oa ob t → r.num.natAbs ≤ t.num.natAbs ∧ r.den ≤ t.den) ∧ r.num.natAbs ≤ p.num.natAbs + q.num.natAbs ∧ r.den ≤ p.den + q.den := by
  have hv : voidB (cmpQ p q) oa ob = false := by
    have hle : cmpQ p q ≤ 0 := cmpQ_le.2 (by
      rcases hne with h | ⟨h, _⟩
      · exact Rat.le_of_lt h
      · rw [h]; exact Rat.le_refl)
    unfold voidB
    rcases hne with h1 | ⟨h1, rfl, rfl⟩
    · have h2 : ¬ 0 ≤ cmpQ p q := fun h2 => Rat.not_le.2 h1 (cmpQ_ge.1 h2)
      simp
      omega
    · simp
      omega
  rcases h with ⟨h1, _⟩ | ⟨_, h8, hr⟩ | ⟨_, h8, hs, n, m, hr, hm⟩ | ⟨_, h8, hs, n, m, hr, hm⟩
  · rw [hv] at h1
    cases h1
  · refine ⟨0, false, ⟨#[]⟩, ⟨#[]⟩, hr, ⟨enc_zero, by rw [show (0 : Rat).den = 1 from rfl, dm_one]⟩, ?_, fun t _ => ⟨Nat.zero_le _, t.den_pos⟩, Nat.zero_le _, ?_⟩
    · unfold zeroB at h8
      simp only [Bool.and_eq_true, Bool.or_eq_true, decide_eq_true_eq, Bool.not_eq_true', sign_neg, sign_pos, sign_zero] at h8
      exact ⟨h8.1, h8.2.imp id fun h => ⟨h.1.symm, h.2⟩⟩
    · have := p.den_pos
      show 1 ≤ _
      omega
  · have hq0 := zero_not h8 hs (sign_three q.num)
    have hq1 : 0 ≤ (-q).num := by
      have g := sgn3 q.num (d := 1) (by omega)
      rw [Rat.neg_num]
      omega
    have hne2 : -q < -p ∨ (-q = -p ∧ ob = false ∧ oa = false) := by
      rw [neg_lt2, neg_inj2]
      exact hne.imp id fun h => ⟨h.1, h.2.2, h.2.1⟩
    have hm2 : Simp (-q).num.natAbs (-q).den ob (-p).num.natAbs (-p).den oa n m := by
      rw [Rat.neg_num, Rat.neg_num, Rat.neg_den, Rat.neg_den, Int.natAbs_neg, Int.natAbs_neg]
      exact hm
    obtain ⟨r, h1, h2, h3, h4, h5, h6⟩ := simp_ins hq1 hne2 hm2
    rw [Rat.neg_num, Rat.neg_num, Int.natAbs_neg, Int.natAbs_neg] at h5
    rw [Rat.neg_den, Rat.neg_den] at h6
    have hrn : (-r).num.natAbs = r.num.natAbs := by rw [Rat.neg_num, Int.natAbs_neg]
    refine ⟨-r, decide (0 < n), mag n, dm m, hr, ⟨?_, by rw [Rat.neg_den, h2]⟩, ?_, fun t ht => ?_, by rw [hrn]; omega, by rw [Rat.neg_den]; omega⟩
    · rw [Rat.neg_num, h1]
      unfold enc
      rw [Int.natAbs_neg, Int.natAbs_natCast, show decide (-(n : Int) < 0) = decide (0 < n) from decide_eq_decide.2 (by omega)]
    · rw [← ins_neg, Rat.neg_neg]
      exact h3
    · have h7 := h4 (-t) (ins_neg.2 ht)
      rw [Rat.neg_num, Int.natAbs_neg, Rat.neg_den] at h7
      rw [hrn, Rat.neg_den]
      exact h7
  · have hp0 : 0 ≤ p.num := by
      have g := sgn3 p.num (d := 1) (by omega)
      omega
    obtain ⟨r, h1, h2, h3, h4, h5, h6⟩ := simp_ins hp0 hne hm
    refine ⟨r, false, mag n, dm m, hr, ⟨by rw [h1]; exact enc_mag n, by rw [h2]⟩, h3, h4, h5, h6⟩

theorem divInt_num {X Y : Int} (hY : 0 < Y) : (Rat.divInt X Y).num * Y = X * ((Rat.divInt X Y).den : Int) := by
  have h := Rat.num_divInt_den (Rat.divInt X Y)
  have hd := (Rat.divInt X Y).den_pos
  exact (Rat.divInt_eq_divInt_iff (by omega) (by omega)).1 h
theorem divInt_le {X Y : Int} (hY : 0 < Y) (t : Rat) : Rat.divInt X Y ≤ t ↔ X * (t.den : Int) ≤ t.num * Y := by
  have h := divInt_num (X := X) hY
  have hd := (Rat.divInt X Y).den_pos
  rw [Rat.le_iff]
  generalize (Rat.divInt X Y).num = N at *
  generalize (Rat.divInt X Y).den = E at *
  have h1 : N * (t.den : Int) * Y = X * (t.den : Int) * (E : Int) := by rw [Int.mul_right_comm, h, Int.mul_right_comm]
  have h2 : t.num * (E : Int) * Y = t.num * Y * (E : Int) := Int.mul_right_comm _ _ _
  constructor
  · intro h3
    have h4 := Int.mul_le_mul_of_nonneg_right h3 (show 0 ≤ Y by omega)
    rw [h1, h2] at h4
    exact Int.le_of_mul_le_mul_right h4 (by omega)
  · intro h3
    have h4 := Int.mul_le_mul_of_nonneg_right h3 (show (0 : Int) ≤ (E : Int) by omega)
    rw [← h1, ← h2] at h4
    exact Int.le_of_mul_le_mul_right h4 hY
theorem le_divInt {X Y : Int} (hY : 0 < Y) (t : Rat) : t ≤ Rat.divInt X Y ↔ t.num * Y ≤ X * (t.den : Int) := by
  have h := divInt_num (X := X) hY
  have hd := (Rat.divInt X Y).den_pos
  rw [Rat.le_iff]
  generalize (Rat.divInt X Y).num = N at *
  generalize (Rat.divInt X Y).den = E at *
  have h1 : N * (t.den : Int) * Y = X * (t.den : Int) * (E : Int) := by rw [Int.mul_right_comm, h, Int.mul_right_comm]
  have h2 : t.num * (E : Int) * Y = t.num * Y * (E : Int) := Int.mul_right_comm _ _ _
  constructor
  · intro h3
    have h4 := Int.mul_le_mul_of_nonneg_right h3 (show 0 ≤ Y by omega)
    rw [h1, h2] at h4
    exact Int.le_of_mul_le_mul_right h4 (by omega)
  · intro h3
    have h4 := Int.mul_le_mul_of_nonneg_right h3 (show (0 : Int) ≤ (E : Int) by omega)
    rw [← h1, ← h2] at h4
    exact Int.le_of_mul_le_mul_right h4 hY

end Go.Proofs.YtahehlajpaoiiaaGreatDoor


namespace Go.Proofs.YtahehlajpaoiiaaGreatDoor
open Go.RowKit
attribute [local go_sem ↓] Go.wp_at_zero Go.wp_at_succ

theorem sz_m2 {n : Nat} {q : Rat} (h : Sz n q) {b : Bool} {m k : ByteArray} (hq : Rq q b m k) (hn : n ≤ 2000) : m.size ≤ 2000 ∧ (mag q.den).size ≤ 2000 := by
  refine ⟨?_, Nat.le_trans (mag_size_le h.2) hn⟩
  rw [hq.mag.2]
  exact Nat.le_trans (mag_size_le h.1) hn
theorem mid_small {p q r : Rat} (hp : Sz 16 p) (hq : Sz 16 q) {b : Bool} {m k : ByteArray} (hr : Rq r b m k) (h1 : r.num.natAbs ≤ p.num.natAbs + q.num.natAbs) (h2 : r.den ≤ p.den + q.den) : m.size ≤ 10000 ∧ (mag r.den).size ≤ 10000 := by
  have h3 : Sz 17 r := by
    have := hp.1
    have := hp.2
    have := hq.1
    have := hq.2
    unfold Sz
    rw [Nat.pow_succ]
    omega
  exact h3.m hr (by omega)
theorem void_ret {w w' : World} {p q : Rat} {oa ob : Bool} {e : Ending} (hv : voidB (cmpQ p q) oa ob = true) (h : RetSx w p q oa ob e w') : RetB w (.tuple #[.agg #[.bool false, .string ⟨#[]⟩, .bool false, .string ⟨#[]⟩], .int .i64 10]) e w' := by
  rcases h with ⟨_, h⟩ | ⟨h, _⟩ | ⟨h, _⟩ | ⟨h, _⟩
  · exact h
  all_goals (rw [hv] at h; cases h)
theorem sz_whole {n : Nat} {x : Int} (h : x.natAbs < 256 ^ n) (hn : 0 < n) : Sz n (x : Rat) := by
  refine ⟨by rw [Rat.num_intCast]; exact h, ?_⟩
  rw [Rat.den_intCast]
  exact Nat.one_lt_pow (by omega) (by omega)
theorem Sz.quo {n m : Nat} {p q : Rat} (hp : Sz n p) (hq : Sz m q) (h0 : ¬ q.num = 0) : Sz (n + m) (p / q) := by
  rw [Rat.div_def]
  refine hp.mul ?_
  have h1 : q⁻¹.den = q.num.natAbs := by rw [Rat.den_inv, if_neg h0]
  have h2 := Rat.num_inv q
  unfold Sz
  rw [h1, h2, Int.natAbs_mul, Int.natAbs_natCast, Int.natAbs_sign_of_ne_zero h0, Nat.one_mul]
  exact ⟨hq.2, hq.1⟩

theorem ins_bools {p q t : Rat} {oa ob : Bool} (h : Ins p q oa ob t) : (cmpQ p t = -1 ∨ (cmpQ p t = 0 ∧ oa = false)) ∧ (cmpQ t q = -1 ∨ (cmpQ t q = 0 ∧ ob = false)) := by
  have key : ∀ {x y : Rat} {o : Bool}, (x < y ∨ (x = y ∧ o = false)) → (cmpQ x y = -1 ∨ (cmpQ x y = 0 ∧ o = false)) := fun {x y o} h => by
    rcases h with h | ⟨h, ho⟩
    · have h1 := cmpQ_three x y
      have h2 : ¬ 0 ≤ cmpQ x y := fun e => Rat.not_le.2 h (cmpQ_ge.1 e)
      omega
    · exact .inr ⟨cmpQ_zero.2 h, ho⟩
  exact ⟨key h.1, key h.2⟩

set_option maxHeartbeats 8000000 in
set_option maxRecDepth 100000 in
theorem rWithin_f {x p q : Rat} {bx ba bb : Bool} {mx ma mb kx ka kb : ByteArray} (hx : Rq x bx mx kx) (hp : Rq p ba ma ka) (hq : Rq q bb mb kb) {oa ob : Bool} (h : Ins p q oa ob x) (yx : mx.size ≤ 10000 ∧ (mag x.den).size ≤ 10000) (yp : ma.size ≤ 10000 ∧ (mag p.den).size ≤ 10000) (yq : mb.size ≤ 10000 ∧ (mag q.den).size ≤ 10000) (w : World) :
    Calls Tryz.prog 51 #[.agg #[.bool bx, .string mx, .bool false, .string kx], .agg #[.bool ba, .string ma, .bool false, .string ka], .agg #[.bool bb, .string mb, .bool false, .string kb], .bool oa, .bool ob] w (RetB w (.bool true)) := by
  obtain ⟨h1, h2⟩ := ins_bools h
  have HL := Lib.hid (fun V => rCompare_f hp hx yp.1 yx.1 yp.2 yx.2 V)
  have HR := Lib.hid (fun V => rCompare_f hx hq yx.1 yq.1 yx.2 yq.2 V)
  generalize cmpQ p x = l at *
  generalize cmpQ x q = r at *
  have X := Lib.hid ((((Sb.start w).new #[.bool bx, .string mx, .bool false, .string kx] 25).new #[.bool ba, .string ma, .bool false, .string ka] 25).new #[.bool bb, .string mb, .bool false, .string kb] 25)
  have X := Lib.hid (X.out.pick [0, 1, 2] [(w.heap.size, #[.bool bx, .string mx, .bool false, .string kx], 25), (w.heap.size + 1, #[.bool ba, .string ma, .bool false, .string ka], 25), (w.heap.size + 1 + 1, #[.bool bb, .string mb, .bool false, .string kb], 25)] [] (by simp) (by decide) (by simp))
  have H12 := Lib.hid (And.intro h1 h2)
  clear hx hp hq h yx yp yq h1 h2
  go_enter Tryz.func51, Tryz.ntmps51
  go_upto_region 1 with fail
  go_cut [11, 12] (fun s11 s12 wx => s11 = .int .i64 l ∧ s12 = .int .i64 r ∧ Sb w [(w.heap.size, #[.bool bx, .string mx, .bool false, .string kx], 25), (w.heap.size + 1, #[.bool ba, .string ma, .bool false, .string ka], 25), (w.heap.size + 1 + 1, #[.bool bb, .string mb, .bool false, .string kb], 25)] [] wx)
  case first =>
    refine wp_region_late (S := fun w' => (w'.cell? ⟨w.heap.size, 0, none⟩ = some (.bool bx) ∧ w'.cell? ⟨w.heap.size, 1, none⟩ = some (.string mx) ∧ w'.cell? ⟨w.heap.size, 2, none⟩ = some (.bool false) ∧ w'.cell? ⟨w.heap.size, 3, none⟩ = some (.string kx)) ∧ (w'.cell? ⟨w.heap.size + 1, 0, none⟩ = some (.bool ba) ∧ w'.cell? ⟨w.heap.size + 1, 1, none⟩ = some (.string ma) ∧ w'.cell? ⟨w.heap.size + 1, 2, none⟩ = some (.bool false) ∧ w'.cell? ⟨w.heap.size + 1, 3, none⟩ = some (.string ka)) ∧ (w'.cell? ⟨w.heap.size + 1 + 1, 0, none⟩ = some (.bool bb) ∧ w'.cell? ⟨w.heap.size + 1 + 1, 1, none⟩ = some (.string mb) ∧ w'.cell? ⟨w.heap.size + 1 + 1, 2, none⟩ = some (.bool false) ∧ w'.cell? ⟨w.heap.size + 1 + 1, 3, none⟩ = some (.string kb))) (L := []) (by kernel_rfl) ?_
    have X := Lib.hid X.out.drew
    obtain ⟨V0, hV⟩ := wexi X.out
    rw [← hV] at X ⊢
    clear hV
    refine tk (i := 0) (oi := ⟨some 13, _, _, _, _, _⟩) (v := _) rfl (by kernel_rfl) (fun _ _ _ h => h) (⟨X.out.c4 (i := 0) rfl, X.out.c4 (i := 1) rfl, X.out.c4 (i := 2) rfl⟩) (Or.inl ⟨by rfl, by intro w hSw; (try dsimp only at hSw); (first | (go_simp; done) | (go_simp; with_reducible rfl))⟩) ?_
    try simp only [Act.put, seti, set0, setS]
    refine tk (i := 1) (oi := ⟨some 14, _, _, _, _, _⟩) (v := _) rfl (by kernel_rfl) (fun _ _ _ h => h) (⟨X.out.c4 (i := 0) rfl, X.out.c4 (i := 1) rfl, X.out.c4 (i := 2) rfl⟩) (Or.inl ⟨by rfl, by intro w hSw; (try dsimp only at hSw); (first | (go_simp; done) | (go_simp; with_reducible rfl))⟩) ?_
    try simp only [Act.put, seti, set0, setS]
    refine tk (i := 3) (oi := ⟨some 16, _, _, _, _, _⟩) (v := _) rfl (by kernel_rfl) (fun _ _ _ h => h) (⟨X.out.c4 (i := 0) rfl, X.out.c4 (i := 1) rfl, X.out.c4 (i := 2) rfl⟩) (Or.inl ⟨by rfl, by intro w hSw; (try dsimp only at hSw); (first | (go_simp; done) | (go_simp; with_reducible rfl))⟩) ?_
    try simp only [Act.put, seti, set0, setS]
    refine tk (i := 4) (oi := ⟨some 17, _, _, _, _, _⟩) (v := _) rfl (by kernel_rfl) (fun _ _ _ h => h) (⟨X.out.c4 (i := 0) rfl, X.out.c4 (i := 1) rfl, X.out.c4 (i := 2) rfl⟩) (Or.inl ⟨by rfl, by intro w hSw; (try dsimp only at hSw); (first | (go_simp; done) | (go_simp; with_reducible rfl))⟩) ?_
    try simp only [Act.put, seti, set0, setS]
    refine wpLate_one (i := 2) (o := ⟨some 15, _, _, _, _, _⟩) (by kernel_rfl) rfl (fun K hK => ?_)
    go_simp
    (go_at_call 39; refine (HL.out _).mono ?_; rintro e u1 ⟨rfl, hb9⟩; have X := Lib.hid (X.out.next hb9); clear hb9)
    try go_wp2_with fail
    refine hK.out _ _ (Or.inr (fun _ => ⟨X.out.c4 (i := 0) rfl, X.out.c4 (i := 1) rfl, X.out.c4 (i := 2) rfl⟩)) ?_
    clear hK K
    try simp only [Act.put, seti, set0, setS]
    refine wpLate_one (i := 5) (o := ⟨some 18, _, _, _, _, _⟩) (by kernel_rfl) rfl (fun K hK => ?_)
    go_simp
    (go_at_call 39; refine (HR.out _).mono ?_; rintro e u2 ⟨rfl, hb9⟩; have X := Lib.hid (X.out.next hb9); clear hb9)
    try go_wp2_with fail
    refine hK.out _ _ (Or.inr (fun _ => ⟨X.out.c4 (i := 0) rfl, X.out.c4 (i := 1) rfl, X.out.c4 (i := 2) rfl⟩)) ?_
    clear hK K
    try simp only [Act.put, seti, set0, setS]
    refine tk (i := 6) (oi := ⟨some 11, _, _, _, _, _⟩) (v := _) rfl (by kernel_rfl) (fun _ _ _ h => h) (⟨X.out.c4 (i := 0) rfl, X.out.c4 (i := 1) rfl, X.out.c4 (i := 2) rfl⟩) (Or.inl ⟨by rfl, by intro w hSw; (try dsimp only at hSw); (first | (go_simp; done) | (go_simp; with_reducible rfl))⟩) ?_
    try simp only [Act.put, seti, set0, setS]
    refine tk (i := 7) (oi := ⟨some 12, _, _, _, _, _⟩) (v := _) rfl (by kernel_rfl) (fun _ _ _ h => h) (⟨X.out.c4 (i := 0) rfl, X.out.c4 (i := 1) rfl, X.out.c4 (i := 2) rfl⟩) (Or.inl ⟨by rfl, by intro w hSw; (try dsimp only at hSw); (first | (go_simp; done) | (go_simp; with_reducible rfl))⟩) ?_
    try simp only [Act.put, seti, set0, setS]
    refine wpLate_done (by kernel_rfl) ?_ _
    go_wp2_with fail
    go_meet
    exact ⟨rfl, rfl, X.out⟩
  obtain ⟨rfl, rfl, hX⟩ := hcut
  have X := Lib.hid hX
  clear hX
  obtain ⟨h1, h2⟩ := H12.out
  rcases h1 with rfl | ⟨rfl, rfl⟩
  · rcases h2 with rfl | ⟨rfl, rfl⟩
    · cases oa <;> cases ob <;> (go_wp2; go_ret; exact ⟨rfl, X.out.bel⟩)
    · cases oa <;> (go_wp2; go_ret; exact ⟨rfl, X.out.bel⟩)
  · rcases h2 with rfl | ⟨rfl, rfl⟩
    · cases ob <;> (go_wp2; go_ret; exact ⟨rfl, X.out.bel⟩)
    · go_wp2
      go_ret
      exact ⟨rfl, X.out.bel⟩

end Go.Proofs.YtahehlajpaoiiaaGreatDoor


namespace Go.Proofs.YtahehlajpaoiiaaGreatDoor
open Go.RowKit
attribute [local go_sem ↓] Go.wp_at_zero Go.wp_at_succ

def insB (l r : Int) (oa ob : Bool) : Bool := (decide (l < 0) || (decide (l = 0) && !oa)) && (decide (r < 0) || (decide (r = 0) && !ob))
theorem insB_iff {p q t : Rat} {oa ob : Bool} : insB (cmpQ p t) (cmpQ t q) oa ob = true ↔ Ins p q oa ob t := by
  have key : ∀ {x y : Rat} {o : Bool}, ((decide (cmpQ x y < 0) || (decide (cmpQ x y = 0) && !o)) = true) ↔ (x < y ∨ (x = y ∧ o = false)) := fun {x y o} => by
    have h1 : cmpQ x y < 0 ↔ x < y := by
      rw [← Rat.not_le, ← cmpQ_ge]
      omega
    simp only [Bool.or_eq_true, Bool.and_eq_true, decide_eq_true_eq, Bool.not_eq_true', h1, cmpQ_zero]
  unfold insB Ins
  rw [Bool.and_eq_true, key, key]

set_option maxHeartbeats 16000000 in
set_option maxRecDepth 100000 in
theorem rWithin_g {x p q : Rat} {bx ba bb : Bool} {mx ma mb kx ka kb : ByteArray} (hx : Rq x bx mx kx) (hp : Rq p ba ma ka) (hq : Rq q bb mb kb) (oa ob : Bool) (yx : mx.size ≤ 10000 ∧ (mag x.den).size ≤ 10000) (yp : ma.size ≤ 10000 ∧ (mag p.den).size ≤ 10000) (yq : mb.size ≤ 10000 ∧ (mag q.den).size ≤ 10000) (w : World) :
    Calls Tryz.prog 51 #[.agg #[.bool bx, .string mx, .bool false, .string kx], .agg #[.bool ba, .string ma, .bool false, .string ka], .agg #[.bool bb, .string mb, .bool false, .string kb], .bool oa, .bool ob] w (RetB w (.bool (insB (cmpQ p x) (cmpQ x q) oa ob))) := by
  have HL := Lib.hid (fun V => rCompare_f hp hx yp.1 yx.1 yp.2 yx.2 V)
  have HR := Lib.hid (fun V => rCompare_f hx hq yx.1 yq.1 yx.2 yq.2 V)
  have hl3 := cmpQ_three p x
  have hr3 := cmpQ_three x q
  generalize cmpQ p x = l at *
  generalize cmpQ x q = r at *
  obtain ⟨i, hi⟩ : ∃ i, i = insB l r oa ob := ⟨_, rfl⟩
  rw [← hi]
  have HI := Lib.hid hi
  have H3 := Lib.hid (And.intro hl3 hr3)
  have X := Lib.hid ((((Sb.start w).new #[.bool bx, .string mx, .bool false, .string kx] 25).new #[.bool ba, .string ma, .bool false, .string ka] 25).new #[.bool bb, .string mb, .bool false, .string kb] 25)
  have X := Lib.hid (X.out.pick [0, 1, 2] [(w.heap.size, #[.bool bx, .string mx, .bool false, .string kx], 25), (w.heap.size + 1, #[.bool ba, .string ma, .bool false, .string ka], 25), (w.heap.size + 1 + 1, #[.bool bb, .string mb, .bool false, .string kb], 25)] [] (by simp) (by decide) (by simp))
  clear hx hp hq yx yp yq hl3 hr3 hi
  go_enter Tryz.func51, Tryz.ntmps51
  go_upto_region 1 with fail
  go_cut [11, 12] (fun s11 s12 wx => s11 = .int .i64 l ∧ s12 = .int .i64 r ∧ Sb w [(w.heap.size, #[.bool bx, .string mx, .bool false, .string kx], 25), (w.heap.size + 1, #[.bool ba, .string ma, .bool false, .string ka], 25), (w.heap.size + 1 + 1, #[.bool bb, .string mb, .bool false, .string kb], 25)] [] wx)
  case first =>
    refine wp_region_late (S := fun w' => (w'.cell? ⟨w.heap.size, 0, none⟩ = some (.bool bx) ∧ w'.cell? ⟨w.heap.size, 1, none⟩ = some (.string mx) ∧ w'.cell? ⟨w.heap.size, 2, none⟩ = some (.bool false) ∧ w'.cell? ⟨w.heap.size, 3, none⟩ = some (.string kx)) ∧ (w'.cell? ⟨w.heap.size + 1, 0, none⟩ = some (.bool ba) ∧ w'.cell? ⟨w.heap.size + 1, 1, none⟩ = some (.string ma) ∧ w'.cell? ⟨w.heap.size + 1, 2, none⟩ = some (.bool false) ∧ w'.cell? ⟨w.heap.size + 1, 3, none⟩ = some (.string ka)) ∧ (w'.cell? ⟨w.heap.size + 1 + 1, 0, none⟩ = some (.bool bb) ∧ w'.cell? ⟨w.heap.size + 1 + 1, 1, none⟩ = some (.string mb) ∧ w'.cell? ⟨w.heap.size + 1 + 1, 2, none⟩ = some (.bool false) ∧ w'.cell? ⟨w.heap.size + 1 + 1, 3, none⟩ = some (.string kb))) (L := []) (by kernel_rfl) ?_
    have X := Lib.hid X.out.drew
    obtain ⟨V0, hV⟩ := wexi X.out
    rw [← hV] at X ⊢
    clear hV
    refine tk (i := 0) (oi := ⟨some 13, _, _, _, _, _⟩) (v := _) rfl (by kernel_rfl) (fun _ _ _ h => h) (⟨X.out.c4 (i := 0) rfl, X.out.c4 (i := 1) rfl, X.out.c4 (i := 2) rfl⟩) (Or.inl ⟨by rfl, by intro w hSw; (try dsimp only at hSw); (first | (go_simp; done) | (go_simp; with_reducible rfl))⟩) ?_
    try simp only [Act.put, seti, set0, setS]
    refine tk (i := 1) (oi := ⟨some 14, _, _, _, _, _⟩) (v := _) rfl (by kernel_rfl) (fun _ _ _ h => h) (⟨X.out.c4 (i := 0) rfl, X.out.c4 (i := 1) rfl, X.out.c4 (i := 2) rfl⟩) (Or.inl ⟨by rfl, by intro w hSw; (try dsimp only at hSw); (first | (go_simp; done) | (go_simp; with_reducible rfl))⟩) ?_
    try simp only [Act.put, seti, set0, setS]
    refine tk (i := 3) (oi := ⟨some 16, _, _, _, _, _⟩) (v := _) rfl (by kernel_rfl) (fun _ _ _ h => h) (⟨X.out.c4 (i := 0) rfl, X.out.c4 (i := 1) rfl, X.out.c4 (i := 2) rfl⟩) (Or.inl ⟨by rfl, by intro w hSw; (try dsimp only at hSw); (first | (go_simp; done) | (go_simp; with_reducible rfl))⟩) ?_
    try simp only [Act.put, seti, set0, setS]
    refine tk (i := 4) (oi := ⟨some 17, _, _, _, _, _⟩) (v := _) rfl (by kernel_rfl) (fun _ _ _ h => h) (⟨X.out.c4 (i := 0) rfl, X.out.c4 (i := 1) rfl, X.out.c4 (i := 2) rfl⟩) (Or.inl ⟨by rfl, by intro w hSw; (try dsimp only at hSw); (first | (go_simp; done) | (go_simp; with_reducible rfl))⟩) ?_
    try simp only [Act.put, seti, set0, setS]
    refine wpLate_one (i := 2) (o := ⟨some 15, _, _, _, _, _⟩) (by kernel_rfl) rfl (fun K hK => ?_)
    go_simp
    (go_at_call 39; refine (HL.out _).mono ?_; rintro e u1 ⟨rfl, hb9⟩; have X := Lib.hid (X.out.next hb9); clear hb9)
    try go_wp2_with fail
    refine hK.out _ _ (Or.inr (fun _ => ⟨X.out.c4 (i := 0) rfl, X.out.c4 (i := 1) rfl, X.out.c4 (i := 2) rfl⟩)) ?_
    clear hK K
    try simp only [Act.put, seti, set0, setS]
    refine wpLate_one (i := 5) (o := ⟨some 18, _, _, _, _, _⟩) (by kernel_rfl) rfl (fun K hK => ?_)
    go_simp
    (go_at_call 39; refine (HR.out _).mono ?_; rintro e u2 ⟨rfl, hb9⟩; have X := Lib.hid (X.out.next hb9); clear hb9)
    try go_wp2_with fail
    refine hK.out _ _ (Or.inr (fun _ => ⟨X.out.c4 (i := 0) rfl, X.out.c4 (i := 1) rfl, X.out.c4 (i := 2) rfl⟩)) ?_
    clear hK K
    try simp only [Act.put, seti, set0, setS]
    refine tk (i := 6) (oi := ⟨some 11, _, _, _, _, _⟩) (v := _) rfl (by kernel_rfl) (fun _ _ _ h => h) (⟨X.out.c4 (i := 0) rfl, X.out.c4 (i := 1) rfl, X.out.c4 (i := 2) rfl⟩) (Or.inl ⟨by rfl, by intro w hSw; (try dsimp only at hSw); (first | (go_simp; done) | (go_simp; with_reducible rfl))⟩) ?_
    try simp only [Act.put, seti, set0, setS]
    refine tk (i := 7) (oi := ⟨some 12, _, _, _, _, _⟩) (v := _) rfl (by kernel_rfl) (fun _ _ _ h => h) (⟨X.out.c4 (i := 0) rfl, X.out.c4 (i := 1) rfl, X.out.c4 (i := 2) rfl⟩) (Or.inl ⟨by rfl, by intro w hSw; (try dsimp only at hSw); (first | (go_simp; done) | (go_simp; with_reducible rfl))⟩) ?_
    try simp only [Act.put, seti, set0, setS]
    refine wpLate_done (by kernel_rfl) ?_ _
    go_wp2_with fail
    go_meet
    exact ⟨rfl, rfl, X.out⟩
  obtain ⟨rfl, rfl, hX⟩ := hcut
  have X := Lib.hid hX
  clear hX
  obtain ⟨h1, h2⟩ := H3.out
  rcases h1 with rfl | rfl | rfl
  · rcases h2 with rfl | rfl | rfl
    · cases oa <;> cases ob <;> (go_wp2; go_ret; exact ⟨by rw [HI.out]; rfl, X.out.bel⟩)
    · cases oa <;> cases ob <;> (go_wp2; go_ret; exact ⟨by rw [HI.out]; rfl, X.out.bel⟩)
    · cases oa <;> cases ob <;> (go_wp2; go_ret; exact ⟨by rw [HI.out]; rfl, X.out.bel⟩)
  · rcases h2 with rfl | rfl | rfl
    · cases oa <;> cases ob <;> (go_wp2; go_ret; exact ⟨by rw [HI.out]; rfl, X.out.bel⟩)
    · cases oa <;> cases ob <;> (go_wp2; go_ret; exact ⟨by rw [HI.out]; rfl, X.out.bel⟩)
    · cases oa <;> cases ob <;> (go_wp2; go_ret; exact ⟨by rw [HI.out]; rfl, X.out.bel⟩)
  · rcases h2 with rfl | rfl | rfl
    · cases oa <;> cases ob <;> (go_wp2; go_ret; exact ⟨by rw [HI.out]; rfl, X.out.bel⟩)
    · cases oa <;> cases ob <;> (go_wp2; go_ret; exact ⟨by rw [HI.out]; rfl, X.out.bel⟩)
    · cases oa <;> cases ob <;> (go_wp2; go_ret; exact ⟨by rw [HI.out]; rfl, X.out.bel⟩)

def flQ (p : Rat) (Y : Nat) : Int := (p * ((Y : Int) : Rat)).num / ((p * ((Y : Int) : Rat)).den : Int)
theorem flQ_spec (p : Rat) {Y : Nat} (hY : 0 < Y) : flQ p Y * (p.den : Int) ≤ p.num * (Y : Int) ∧ p.num * (Y : Int) < (flQ p Y + 1) * (p.den : Int) := by
  have hd := p.den_pos
  have e : p * ((Y : Int) : Rat) = Rat.divInt (p.num * (Y : Int)) (p.den : Int) := by
    have h := Rat.num_divInt_den p
    rw [← divInt_1 (Y : Int)]
    rw [show p * Rat.divInt (Y : Int) 1 = Rat.divInt p.num p.den * Rat.divInt (Y : Int) 1 from by rw [h], Rat.divInt_mul_divInt, Int.mul_one]
  unfold flQ
  rw [e]
  have h1 := divInt_num (X := p.num * (Y : Int)) (Y := (p.den : Int)) (by omega)
  have h2 := (Rat.divInt (p.num * (Y : Int)) (p.den : Int)).den_pos
  generalize (Rat.divInt (p.num * (Y : Int)) (p.den : Int)).num = N at *
  generalize (Rat.divInt (p.num * (Y : Int)) (p.den : Int)).den = E at *
  generalize p.num * (Y : Int) = M at *
  have h3 := Int.mul_ediv_add_emod N (E : Int)
  have h4 := Int.emod_nonneg N (show (E : Int) ≠ 0 by omega)
  have h5 := Int.emod_lt_of_pos N (show (0 : Int) < (E : Int) by omega)
  generalize N / (E : Int) = f at *
  have h6 : f * (E : Int) ≤ N := by rw [Int.mul_comm]; omega
  have h7 : N < (f + 1) * (E : Int) := by rw [Int.add_mul, Int.mul_comm f, Int.one_mul]; omega
  constructor
  · have h8 := Int.mul_le_mul_of_nonneg_right h6 (show (0 : Int) ≤ (p.den : Int) by omega)
    rw [h1, Int.mul_right_comm] at h8
    exact Int.le_of_mul_le_mul_right h8 (by omega)
  · have h8 := Int.mul_lt_mul_of_pos_right h7 (show (0 : Int) < (p.den : Int) by omega)
    rw [h1, Int.mul_right_comm] at h8
    exact Int.lt_of_mul_lt_mul_right h8 (by omega)
theorem divInt_small (x : Int) {Y : Nat} (hY : 0 < Y) : (Rat.divInt x (Y : Int)).num.natAbs ≤ x.natAbs ∧ (Rat.divInt x (Y : Int)).den ≤ Y := by
  rw [Rat.divInt_ofNat]
  exact mkRat_le x (by omega)
theorem lt_divInt {X Y : Int} (hY : 0 < Y) (t : Rat) : t < Rat.divInt X Y ↔ t.num * Y < X * (t.den : Int) := by
  rw [← Rat.not_le, divInt_le hY]
  omega
theorem divInt_lt {X Y : Int} (hY : 0 < Y) (t : Rat) : Rat.divInt X Y < t ↔ X * (t.den : Int) < t.num * Y := by
  rw [← Rat.not_le, le_divInt hY]
  omega
theorem le_nums {p r : Rat} (h : p ≤ r) : p.num * (r.den : Int) ≤ r.num * (p.den : Int) := (Rat.le_iff p r).1 h
theorem cand_of {p q : Rat} {oa ob : Bool} {r : Rat} (hin : Ins p q oa ob r) (hmin : ∀ t, Ins p q oa ob t → r.num.natAbs ≤ t.num.natAbs ∧ r.den ≤ t.den) :
    r.num = 0 ∨ r.num = flQ p r.den ∨ r.num = flQ p r.den + 1 ∨ r.num = flQ q r.den ∨ r.num = flQ q r.den - 1 := by
  have hY := r.den_pos
  obtain ⟨a1, a2⟩ := flQ_spec p hY
  obtain ⟨b1, b2⟩ := flQ_spec q hY
  have hp := p.den_pos
  have hq := q.den_pos
  have key : ∀ {x y : Rat} {o : Bool}, (x < y ∨ (x = y ∧ o = false)) → x ≤ y := fun {x y o} h => by
    rcases h with h | ⟨h, _⟩
    · exact Rat.le_of_lt h
    · rw [h]; exact Rat.le_refl
  have c1 := le_nums (key hin.1)
  have c2 := le_nums (key hin.2)
  have er := Rat.num_divInt_den r
  rcases Int.lt_trichotomy r.num 0 with h | h | h
  · have s := divInt_small (r.num + 1) hY
    have hlt : r < Rat.divInt (r.num + 1) (r.den : Int) := by
      rw [lt_divInt (by omega), Int.add_mul]
      omega
    have hn : ¬ Ins p q oa ob (Rat.divInt (r.num + 1) (r.den : Int)) := fun hi => by
      have := (hmin _ hi).1
      omega
    have hge : q ≤ Rat.divInt (r.num + 1) (r.den : Int) := Rat.not_lt.1 fun h2 => hn ⟨.inl (by
      rcases hin.1 with h3 | ⟨h3, _⟩
      · exact Rat.not_le.1 fun h4 => Rat.not_le.2 hlt (Rat.le_trans h4 (Rat.le_of_lt h3))
      · rw [h3]; exact hlt), .inl h2⟩
    rw [le_divInt (by omega)] at hge
    have d1 : flQ q r.den * (q.den : Int) ≤ (r.num + 1) * (q.den : Int) := Int.le_trans b1 hge
    have d2 := Int.le_of_mul_le_mul_right d1 (by omega)
    have d3 : r.num * (q.den : Int) < (flQ q r.den + 1) * (q.den : Int) := Int.lt_of_le_of_lt c2 b2
    have d4 := Int.lt_of_mul_lt_mul_right d3 (by omega)
    omega
  · exact .inl h
  · have s := divInt_small (r.num - 1) hY
    have hlt : Rat.divInt (r.num - 1) (r.den : Int) < r := by
      rw [divInt_lt (by omega), Int.sub_mul]
      omega
    have hn : ¬ Ins p q oa ob (Rat.divInt (r.num - 1) (r.den : Int)) := fun hi => by
      have := (hmin _ hi).1
      omega
    have hge : Rat.divInt (r.num - 1) (r.den : Int) ≤ p := Rat.not_lt.1 fun h2 => hn ⟨.inl h2, .inl (by
      rcases hin.2 with h3 | ⟨h3, _⟩
      · exact Rat.not_le.1 fun h4 => Rat.not_le.2 h3 (Rat.le_trans h4 (Rat.le_of_lt hlt))
      · rw [← h3]; exact hlt)⟩
    rw [divInt_le (by omega)] at hge
    have d1 : (r.num - 1) * (p.den : Int) < (flQ p r.den + 1) * (p.den : Int) := Int.lt_of_le_of_lt hge a2
    have d2 := Int.lt_of_mul_lt_mul_right d1 (by omega)
    have d3 : flQ p r.den * (p.den : Int) ≤ r.num * (p.den : Int) := Int.le_trans a1 c1
    have d4 := Int.le_of_mul_le_mul_right d3 (by omega)
    omega
theorem sq_le {x y : Rat} (hd : x.den = y.den) (h : cmpQ (x * x) (y * y) ≤ 0) : x.num.natAbs ≤ y.num.natAbs := by
  have h1 := cmpQ_le.1 h
  rw [Rat.le_iff, (sq_parts x).1, (sq_parts x).2, (sq_parts y).1, (sq_parts y).2, hd, ← Int.natCast_mul, ← Int.natCast_mul, Int.ofNat_le] at h1
  have h2 := Nat.le_of_mul_le_mul_right h1 (Nat.mul_pos y.den_pos y.den_pos)
  rcases Nat.lt_or_ge y.num.natAbs x.num.natAbs with h3 | h3
  · have h4 := Nat.mul_lt_mul'' h3 h3
    omega
  · exact h3
theorem simplest_only {p q : Rat} {oa ob : Bool} {r t : Rat} (hin : Ins p q oa ob r) (hmin : ∀ t, Ins p q oa ob t → r.num.natAbs ≤ t.num.natAbs ∧ r.den ≤ t.den) (ht : Ins p q oa ob t) (hd : t.den ≤ r.den) (hs : cmpQ (t * t) (r * r) ≤ 0) : t = r := by
  have h1 := hmin t ht
  have hde : t.den = r.den := by omega
  have h2 := sq_le hde hs
  rcases Int.natAbs_eq_natAbs_iff.1 (show t.num.natAbs = r.num.natAbs by omega) with h3 | h3
  · exact Rat.ext h3 hde
  · by_cases h0 : r.num = 0
    · exact Rat.ext (by omega) hde
    · exfalso
      have e : t = -r := Rat.ext (by rw [Rat.neg_num]; exact h3) (by rw [Rat.neg_den]; exact hde)
      have hz : Ins p q oa ob 0 := by
        have key : ∀ {x : Rat}, Ins p q oa ob x → Ins p q oa ob (-x) → x < 0 → Ins p q oa ob 0 := fun {x} i1 i2 hx => by
          have hy : 0 < -x := by
            have := Rat.neg_lt_neg hx
            rwa [show -(0 : Rat) = 0 from rfl] at this
          refine ⟨.inl ?_, .inl ?_⟩
          · rcases i1.1 with h | ⟨h, _⟩
            · exact Rat.not_le.1 fun h4 => Rat.not_le.2 h (Rat.le_trans (Rat.le_of_lt hx) h4)
            · rw [h]; exact hx
          · rcases i2.2 with h | ⟨h, _⟩
            · exact Rat.not_le.1 fun h4 => Rat.not_le.2 h (Rat.le_trans h4 (Rat.le_of_lt hy))
            · rw [← h]; exact hy
        rcases Int.lt_or_lt_of_ne h0 with h4 | h4
        · refine key hin (e ▸ ht) ?_
          rw [← sign_neg, Int.sign_eq_neg_one_of_neg h4]
          decide
        · refine key ht (by rw [e, Rat.neg_neg]; exact hin) ?_
          rw [← sign_neg, h3, Int.sign_neg, Int.sign_eq_one_of_pos h4]
          decide
      have h5 := (hmin 0 hz).1
      have h6 : (0 : Rat).num.natAbs = 0 := rfl
      omega
end Go.Proofs.YtahehlajpaoiiaaGreatDoor


namespace Go.Proofs.YtahehlajpaoiiaaGreatDoor
open Go.RowKit
attribute [local go_sem ↓] Go.wp_at_zero Go.wp_at_succ

theorem floor_parts (b : Bool) {x : Int} {N D : Nat} (hx : x = sgn b N) (hD : 0 < D) :
    (b = false → x / (D : Int) = sgn b (N / D)) ∧ (b = true → N % D = 0 → x / (D : Int) = sgn b (N / D)) ∧ (b = true → 0 < N % D → x / (D : Int) = sgn b (N / D) - 1) := by
  subst hx
  have h1 := Nat.div_add_mod N D
  have h2 := Nat.mod_lt N hD
  refine ⟨?_, ?_, ?_⟩
  · rintro rfl
    simp [sgn]
  · rintro rfl h0
    have h3 : (N : Int) = (D : Int) * ((N / D : Nat) : Int) := by
      rw [h0, Nat.add_zero] at h1
      rw [← Int.natCast_mul, h1]
    simp only [sgn, if_true]
    rw [h3, Int.neg_ediv_of_dvd ⟨_, rfl⟩, Int.mul_ediv_cancel_left _ (by omega)]
  · rintro rfl h0
    have h3 : -(N : Int) = ((D : Int) - ((N % D : Nat) : Int)) + (-((N / D : Nat) : Int) - 1) * (D : Int) := by
      have h4 : (N : Int) = (D : Int) * ((N / D : Nat) : Int) + ((N % D : Nat) : Int) := by
        rw [← Int.natCast_mul, ← Int.natCast_add, h1]
      rw [Int.sub_mul, Int.neg_mul, Int.mul_comm (((N / D : Nat) : Int)), Int.one_mul]
      omega
    simp only [sgn, if_true]
    rw [h3, Int.add_mul_ediv_right _ _ (by omega), Int.ediv_eq_zero_of_lt (by omega) (by omega), Int.zero_add]

set_option maxHeartbeats 8000000 in
set_option maxRecDepth 100000 in
theorem rFloor_pos {p : Rat} {bz : Bool} {m k mz : ByteArray} (h : Rq p false m k) (hz : enc (p.num / (p.den : Int)) = .agg #[.bool bz, .string mz]) (s1 : m.size ≤ 9000) (s2 : (mag p.den).size ≤ 9000) (w : World) :
    Calls Tryz.prog 48 #[.agg #[.bool false, .string m, .bool false, .string k]] w (RetB w (.agg #[.bool bz, .string mz, .bool false, .string ⟨#[]⟩])) := by
  have hk : k.size ≤ 9000 := by
    by_cases hd : p.den = 1
    · rw [h.den1 hd]; exact Nat.zero_le _
    · rw [h.den2 hd]; exact s2
  have HF := Lib.hid (fun V => rof2 h (by omega) (by omega) V)
  have n0 : nd p.num.natAbs ≤ 9000 := by unfold nd; rw [← h.mag.2]; exact s1
  have n1' : nd p.den ≤ 9000 := s2
  have hfl := floor_parts false h.sg p.den_pos
  obtain ⟨bo, mo, ho⟩ := enc_form (sgn false (p.num.natAbs / p.den))
  rw [hfl.1 rfl, ho] at hz
  obtain ⟨rfl, rfl⟩ : bz = bo ∧ mz = mo := by cases hz; exact ⟨rfl, rfl⟩
  have HPOS := Lib.hid p.den_pos
  have HWH := Lib.hid (fun (A : Option Addr) (n c : Nat) (V : World) (ht : Tr V A n c (p.num.natAbs / p.den)) => rwhole false A n c (p.num.natAbs / p.den) V (by have := ht.ln; have := nd_div p.num.natAbs p.den; omega) ht.cap ht.dg)
  have hwh := fun (A : Option Addr) (n c : Nat) (V : World) (ht : Tr V A n c (p.num.natAbs / p.den)) => rwhole false A n c (p.num.natAbs / p.den) V (by have := ht.ln; have := nd_div p.num.natAbs p.den; omega) ht.cap ht.dg
  unfold RetZ at hwh
  simp only [ho] at hwh
  have HWH := Lib.hid hwh
  have HN0 := Lib.hid n0
  have HN1 := Lib.hid n1'
  have X := Lib.hid (((Sb.start w).new #[.bool false, .string m, .bool false, .string k] 25).new #[.bool false, .string ⟨#[]⟩, .bool false, .string ⟨#[]⟩] 25)
  have X := Lib.hid (X.out.pick [0, 1] [(w.heap.size, #[.bool false, .string m, .bool false, .string k], 25), (w.heap.size + 1, #[.bool false, .string ⟨#[]⟩, .bool false, .string ⟨#[]⟩], 25)] [] (by simp) (by decide) (by simp))
  clear h hz hfl ho hk n0 n1' s1 s2 hwh
  generalize p.num.natAbs = NN at *
  generalize p.den = DD at *
  go_enter Tryz.func48, Tryz.ntmps48
  obtain ⟨a0, a1, a2, a3⟩ := X.out.c4 (i := 0) rfl
  go_wp2_with fail
  refine (HF.out _).mono ?_
  rintro e u1 ⟨A1, n1, c1, B1, n2, c2, rfl, ht9, hu9, hb9, hf9, hg9⟩
  have X := Lib.hid (X.out.row2 hb9 ht9 hu9 hf9 hg9)
  clear hb9 ht9 hu9 hf9 hg9 a0 a1 a2 a3
  go_upto_region 2 with fail
  have X := Lib.hid (X.out.new #[.bool false, .slice A1 n1 c1, .slice B1 n2 c2] 75)
  obtain ⟨gF, hgF⟩ : ∃ g, g = u1.heap.size := ⟨_, rfl⟩
  rw [← hgF] at X ⊢
  obtain ⟨W1, hV⟩ := wexi X.out
  rw [← hV] at X ⊢
  clear hV
  clear hgF
  obtain ⟨f0, f1, f2⟩ := X.out.c3 (i := 2) rfl
  go_wp2_with fail
  refine (rdivide _ _ _ _ _ _ _ _ _ (by have := (X.out.rw (i := 0) rfl).ln; have := HN0.out; omega) (by have := (X.out.rw (i := 1) rfl).ln; have := HN1.out; omega) (X.out.rw (i := 0) rfl) (X.out.rw (i := 1) rfl) HPOS.out).mono ?_
  rintro e u2 ⟨A4, n4, c4, A5, n5, c5, rfl, ht4, ht5, hb9⟩
  have X := Lib.hid (X.out.next hb9)
  have T4 := Lib.hid ht4
  have hn5 := ht5.ln
  clear hb9 ht4 ht5 f0 f1 f2
  clear hn5
  obtain ⟨f0, f1, f2⟩ := X.out.c3 (i := 2) rfl
  go_wp2_with fail
  refine (HWH.out _ _ _ _ T4.out).mono ?_
  rintro e u3 ⟨rfl, hb9⟩
  have X := Lib.hid (X.out.next hb9)
  clear hb9 f0 f1 f2
  go_upto_region 4 with fail
  have X := Lib.hid (X.out.new #[.bool bz, .string mz, .bool false, .string ⟨#[]⟩] 25)
  obtain ⟨gO, hgO⟩ : ∃ g, g = u3.heap.size := ⟨_, rfl⟩
  rw [← hgO] at X ⊢
  obtain ⟨W2, hV⟩ := wexi X.out
  rw [← hV] at X ⊢
  clear hV
  clear hgO
  obtain ⟨f0, f1, f2⟩ := X.out.c3 (i := 2) rfl
  obtain ⟨o0, o1, o2, o3⟩ := X.out.c4 (i := 3) rfl
  obtain ⟨x0, x1, x2, x3⟩ := X.out.c4 (i := 1) rfl
  obtain ⟨y0, y1, y2, y3⟩ := X.out.f4 (i := 1) rfl
  go_wp2
  have X := Lib.hid (X.out.set4 (i := 1) rfl (.bool bz) (.string mz) (.bool false) (.string ⟨#[]⟩))
  obtain ⟨p0, p1, p2, p3⟩ := X.out.c4 (i := 1) rfl
  exact bodyPost_ret (v := .agg #[.bool bz, .string mz, .bool false, .string ⟨#[]⟩]) (by simp [results, Tryz.results48, go_sem, p0, p1, p2, p3]) rfl ⟨rfl, X.out.bel⟩

set_option maxHeartbeats 8000000 in
set_option maxRecDepth 100000 in
theorem rFloor_neg {p : Rat} {bz : Bool} {m k mz : ByteArray} (h : Rq p true m k) (hrem : p.num.natAbs % p.den = 0) (hz : enc (p.num / (p.den : Int)) = .agg #[.bool bz, .string mz]) (s1 : m.size ≤ 9000) (s2 : (mag p.den).size ≤ 9000) (w : World) :
    Calls Tryz.prog 48 #[.agg #[.bool true, .string m, .bool false, .string k]] w (RetB w (.agg #[.bool bz, .string mz, .bool false, .string ⟨#[]⟩])) := by
  have hk : k.size ≤ 9000 := by
    by_cases hd : p.den = 1
    · rw [h.den1 hd]; exact Nat.zero_le _
    · rw [h.den2 hd]; exact s2
  have HF := Lib.hid (fun V => rof2 h (by omega) (by omega) V)
  have n0 : nd p.num.natAbs ≤ 9000 := by unfold nd; rw [← h.mag.2]; exact s1
  have n1' : nd p.den ≤ 9000 := s2
  have hfl := floor_parts true h.sg p.den_pos
  obtain ⟨bo, mo, ho⟩ := enc_form (sgn true (p.num.natAbs / p.den))
  rw [hfl.2.1 rfl hrem, ho] at hz
  obtain ⟨rfl, rfl⟩ : bz = bo ∧ mz = mo := by cases hz; exact ⟨rfl, rfl⟩
  have hr0 : nd (p.num.natAbs % p.den) = 0 := by rw [hrem]; exact nd_zero
  have HPOS := Lib.hid p.den_pos
  have HWH := Lib.hid (fun (A : Option Addr) (n c : Nat) (V : World) (ht : Tr V A n c (p.num.natAbs / p.den)) => rwhole true A n c (p.num.natAbs / p.den) V (by have := ht.ln; have := nd_div p.num.natAbs p.den; omega) ht.cap ht.dg)
  have hwh := fun (A : Option Addr) (n c : Nat) (V : World) (ht : Tr V A n c (p.num.natAbs / p.den)) => rwhole true A n c (p.num.natAbs / p.den) V (by have := ht.ln; have := nd_div p.num.natAbs p.den; omega) ht.cap ht.dg
  unfold RetZ at hwh
  simp only [ho] at hwh
  have HWH := Lib.hid hwh
  have HN0 := Lib.hid n0
  have HN1 := Lib.hid n1'
  have HR0 := Lib.hid hr0
  have X := Lib.hid (((Sb.start w).new #[.bool true, .string m, .bool false, .string k] 25).new #[.bool false, .string ⟨#[]⟩, .bool false, .string ⟨#[]⟩] 25)
  have X := Lib.hid (X.out.pick [0, 1] [(w.heap.size, #[.bool true, .string m, .bool false, .string k], 25), (w.heap.size + 1, #[.bool false, .string ⟨#[]⟩, .bool false, .string ⟨#[]⟩], 25)] [] (by simp) (by decide) (by simp))
  clear h hz hfl ho hk n0 n1' s1 s2 hwh hrem hr0
  generalize p.num.natAbs = NN at *
  generalize p.den = DD at *
  go_enter Tryz.func48, Tryz.ntmps48
  obtain ⟨a0, a1, a2, a3⟩ := X.out.c4 (i := 0) rfl
  go_wp2_with fail
  refine (HF.out _).mono ?_
  rintro e u1 ⟨A1, n1, c1, B1, n2, c2, rfl, ht9, hu9, hb9, hf9, hg9⟩
  have X := Lib.hid (X.out.row2 hb9 ht9 hu9 hf9 hg9)
  clear hb9 ht9 hu9 hf9 hg9 a0 a1 a2 a3
  go_upto_region 2 with fail
  have X := Lib.hid (X.out.new #[.bool true, .slice A1 n1 c1, .slice B1 n2 c2] 75)
  obtain ⟨gF, hgF⟩ : ∃ g, g = u1.heap.size := ⟨_, rfl⟩
  rw [← hgF] at X ⊢
  obtain ⟨W1, hV⟩ := wexi X.out
  rw [← hV] at X ⊢
  clear hV
  clear hgF
  obtain ⟨f0, f1, f2⟩ := X.out.c3 (i := 2) rfl
  go_wp2_with fail
  refine (rdivide _ _ _ _ _ _ _ _ _ (by have := (X.out.rw (i := 0) rfl).ln; have := HN0.out; omega) (by have := (X.out.rw (i := 1) rfl).ln; have := HN1.out; omega) (X.out.rw (i := 0) rfl) (X.out.rw (i := 1) rfl) HPOS.out).mono ?_
  rintro e u2 ⟨A4, n4, c4, A5, n5, c5, rfl, ht4, ht5, hb9⟩
  have X := Lib.hid (X.out.next hb9)
  have T4 := Lib.hid ht4
  have hn5 := ht5.ln
  clear hb9 ht4 ht5 f0 f1 f2
  obtain rfl : n5 = 0 := by rw [hn5]; exact HR0.out
  clear hn5
  obtain ⟨f0, f1, f2⟩ := X.out.c3 (i := 2) rfl
  go_wp2_with fail
  refine (HWH.out _ _ _ _ T4.out).mono ?_
  rintro e u3 ⟨rfl, hb9⟩
  have X := Lib.hid (X.out.next hb9)
  clear hb9 f0 f1 f2
  go_upto_region 4 with fail
  have X := Lib.hid (X.out.new #[.bool bz, .string mz, .bool false, .string ⟨#[]⟩] 25)
  obtain ⟨gO, hgO⟩ : ∃ g, g = u3.heap.size := ⟨_, rfl⟩
  rw [← hgO] at X ⊢
  obtain ⟨W2, hV⟩ := wexi X.out
  rw [← hV] at X ⊢
  clear hV
  clear hgO
  obtain ⟨f0, f1, f2⟩ := X.out.c3 (i := 2) rfl
  obtain ⟨o0, o1, o2, o3⟩ := X.out.c4 (i := 3) rfl
  obtain ⟨x0, x1, x2, x3⟩ := X.out.c4 (i := 1) rfl
  obtain ⟨y0, y1, y2, y3⟩ := X.out.f4 (i := 1) rfl
  go_wp2
  have X := Lib.hid (X.out.set4 (i := 1) rfl (.bool bz) (.string mz) (.bool false) (.string ⟨#[]⟩))
  obtain ⟨p0, p1, p2, p3⟩ := X.out.c4 (i := 1) rfl
  exact bodyPost_ret (v := .agg #[.bool bz, .string mz, .bool false, .string ⟨#[]⟩]) (by simp [results, Tryz.results48, go_sem, p0, p1, p2, p3]) rfl ⟨rfl, X.out.bel⟩

set_option maxHeartbeats 8000000 in
set_option maxRecDepth 100000 in
theorem rFloor_rem {p : Rat} {bz : Bool} {m k mz : ByteArray} (h : Rq p true m k) (hrem : 0 < p.num.natAbs % p.den) (hz : enc (p.num / (p.den : Int)) = .agg #[.bool bz, .string mz]) (s1 : m.size ≤ 9000) (s2 : (mag p.den).size ≤ 9000) (w : World) :
    Calls Tryz.prog 48 #[.agg #[.bool true, .string m, .bool false, .string k]] w (RetB w (.agg #[.bool bz, .string mz, .bool false, .string ⟨#[]⟩])) := by
  have hk : k.size ≤ 9000 := by
    by_cases hd : p.den = 1
    · rw [h.den1 hd]; exact Nat.zero_le _
    · rw [h.den2 hd]; exact s2
  have HF := Lib.hid (fun V => rof2 h (by omega) (by omega) V)
  have n0 : nd p.num.natAbs ≤ 9000 := by unfold nd; rw [← h.mag.2]; exact s1
  have n1' : nd p.den ≤ 9000 := s2
  have hfl := floor_parts true h.sg p.den_pos
  obtain ⟨bo, mo, ho⟩ := enc_form (sgn true (p.num.natAbs / p.den))
  have h1 := rq_int ho
  have h2 := rq_int hz
  obtain ⟨b1, m1, k1, h3⟩ := Rq.some_ (1 : Rat)
  have h1s : Sz 1 (1 : Rat) := ⟨by decide, by decide⟩
  have y3 := h1s.m h3 (by omega)
  have hmo : mo.size ≤ 10000 := by
    rw [(enc_parts ho).2, sgn_natAbs]
    exact Nat.le_trans (nd_div p.num.natAbs p.den) (by omega)
  have hd1 : (mag ((sgn true (p.num.natAbs / p.den) : Int) : Rat).den).size ≤ 10000 := by rw [Rat.den_intCast]; exact (h1s.m h3 (by omega)).2
  have HOF := Lib.hid (fun V => rOf_f (x := 1) (y := 1) (by rw [divInt_1]; exact h3) (by decide) (by decide) (by decide) (by decide) (by decide) V)
  have HSB := Lib.hid (fun V => rSub_f h1 h3 (by rw [hfl.2.2 rfl hrem] at h2; rw [show ((sgn true (p.num.natAbs / p.den) : Int) : Rat) - 1 = ((sgn true (p.num.natAbs / p.den) - 1 : Int) : Rat) from (Rat.intCast_sub _ 1).symm]; exact h2) hmo y3.1 hd1 y3.2 V)
  have hr0 : 0 < nd (p.num.natAbs % p.den) := nd_pos hrem
  have HPOS := Lib.hid p.den_pos
  have HWH := Lib.hid (fun (A : Option Addr) (n c : Nat) (V : World) (ht : Tr V A n c (p.num.natAbs / p.den)) => rwhole true A n c (p.num.natAbs / p.den) V (by have := ht.ln; have := nd_div p.num.natAbs p.den; omega) ht.cap ht.dg)
  have hwh := fun (A : Option Addr) (n c : Nat) (V : World) (ht : Tr V A n c (p.num.natAbs / p.den)) => rwhole true A n c (p.num.natAbs / p.den) V (by have := ht.ln; have := nd_div p.num.natAbs p.den; omega) ht.cap ht.dg
  unfold RetZ at hwh
  simp only [ho] at hwh
  have HWH := Lib.hid hwh
  have HN0 := Lib.hid n0
  have HN1 := Lib.hid n1'
  have HR0 := Lib.hid hr0
  have X := Lib.hid (((Sb.start w).new #[.bool true, .string m, .bool false, .string k] 25).new #[.bool false, .string ⟨#[]⟩, .bool false, .string ⟨#[]⟩] 25)
  have X := Lib.hid (X.out.pick [0, 1] [(w.heap.size, #[.bool true, .string m, .bool false, .string k], 25), (w.heap.size + 1, #[.bool false, .string ⟨#[]⟩, .bool false, .string ⟨#[]⟩], 25)] [] (by simp) (by decide) (by simp))
  clear h hz hfl ho hk n0 n1' s1 s2 hwh hrem hr0 h1 h2 h3 h1s y3 hmo hd1
  generalize p.num.natAbs = NN at *
  generalize p.den = DD at *
  go_enter Tryz.func48, Tryz.ntmps48
  obtain ⟨a0, a1, a2, a3⟩ := X.out.c4 (i := 0) rfl
  go_wp2_with fail
  refine (HF.out _).mono ?_
  rintro e u1 ⟨A1, n1, c1, B1, n2, c2, rfl, ht9, hu9, hb9, hf9, hg9⟩
  have X := Lib.hid (X.out.row2 hb9 ht9 hu9 hf9 hg9)
  clear hb9 ht9 hu9 hf9 hg9 a0 a1 a2 a3
  go_upto_region 2 with fail
  have X := Lib.hid (X.out.new #[.bool true, .slice A1 n1 c1, .slice B1 n2 c2] 75)
  obtain ⟨gF, hgF⟩ : ∃ g, g = u1.heap.size := ⟨_, rfl⟩
  rw [← hgF] at X ⊢
  obtain ⟨W1, hV⟩ := wexi X.out
  rw [← hV] at X ⊢
  clear hV
  clear hgF
  obtain ⟨f0, f1, f2⟩ := X.out.c3 (i := 2) rfl
  go_wp2_with fail
  refine (rdivide _ _ _ _ _ _ _ _ _ (by have := (X.out.rw (i := 0) rfl).ln; have := HN0.out; omega) (by have := (X.out.rw (i := 1) rfl).ln; have := HN1.out; omega) (X.out.rw (i := 0) rfl) (X.out.rw (i := 1) rfl) HPOS.out).mono ?_
  rintro e u2 ⟨A4, n4, c4, A5, n5, c5, rfl, ht4, ht5, hb9⟩
  have X := Lib.hid (X.out.next hb9)
  have T4 := Lib.hid ht4
  have hn5 := ht5.ln
  clear hb9 ht4 ht5 f0 f1 f2
  have hn6 : 0 < n5 := by rw [hn5]; exact HR0.out
  have hn7 : decide (0 < (n5 : Int)) = true := decide_eq_true (by omega)
  clear hn5
  obtain ⟨f0, f1, f2⟩ := X.out.c3 (i := 2) rfl
  go_wp2_with fail
  refine (HWH.out _ _ _ _ T4.out).mono ?_
  rintro e u3 ⟨rfl, hb9⟩
  have X := Lib.hid (X.out.next hb9)
  clear hb9 f0 f1 f2
  go_upto_region 4 with fail
  have X := Lib.hid (X.out.new #[.bool bo, .string mo, .bool false, .string ⟨#[]⟩] 25)
  obtain ⟨gO, hgO⟩ : ∃ g, g = u3.heap.size := ⟨_, rfl⟩
  rw [← hgO] at X ⊢
  obtain ⟨W2, hV⟩ := wexi X.out
  rw [← hV] at X ⊢
  clear hV
  clear hgO
  obtain ⟨f0, f1, f2⟩ := X.out.c3 (i := 2) rfl
  go_upto_region 5 with fail
  clear f0 f1 f2
  refine wp_region_late (S := fun w' => (w'.cell? ⟨gO, 0, none⟩ = some (.bool bo) ∧ w'.cell? ⟨gO, 1, none⟩ = some (.string mo) ∧ w'.cell? ⟨gO, 2, none⟩ = some (.bool false) ∧ w'.cell? ⟨gO, 3, none⟩ = some (.string ⟨#[]⟩))) (L := [3]) (by kernel_rfl) ?_
  have X := Lib.hid X.out.drew
  obtain ⟨V0, hV⟩ := wexi X.out
  rw [← hV] at X ⊢
  clear hV
  refine tk (i := 0) (oi := ⟨some 29, _, _, _, _, _⟩) (v := _) rfl (by kernel_rfl) (fun _ _ _ h => h) (X.out.c4 (i := 3) rfl) (Or.inl ⟨by rfl, by intro w hSw; (try dsimp only at hSw); (first | (go_simp; done) | (go_simp; with_reducible rfl))⟩) ?_
  try simp only [Act.put, seti, set0, setS]
  refine wpLate_one (i := 1) (o := ⟨some 30, _, _, _, _, _⟩) (by kernel_rfl) rfl (fun K hK => ?_)
  go_simp
  (go_at_call 23; refine (HOF.out _).mono ?_; rintro e u1 ⟨rfl, hb9⟩; have X := Lib.hid (X.out.next hb9); clear hb9)
  try go_wp2_with fail
  refine hK.out _ _ (Or.inr (fun _ => X.out.c4 (i := 3) rfl)) ?_
  clear hK K
  try simp only [Act.put, seti, set0, setS]
  refine wpLate_one (i := 2) (o := ⟨some 31, _, _, _, _, _⟩) (by kernel_rfl) rfl (fun K hK => ?_)
  go_simp
  (go_at_call 31; refine (HSB.out _).mono ?_; rintro e u2 ⟨rfl, hb9⟩; have X := Lib.hid (X.out.next hb9); clear hb9)
  try go_wp2_with fail
  refine hK.out _ _ (Or.inr (fun _ => X.out.c4 (i := 3) rfl)) ?_
  clear hK K
  try simp only [Act.put, seti, set0, setS]
  refine wpLate_one (i := 3) (o := ⟨none, _, _, _, _, _⟩) (by kernel_rfl) rfl (fun K hK => ?_)
  obtain ⟨x0, x1, x2, x3⟩ := X.out.c4 (i := 3) rfl
  obtain ⟨y0, y1, y2, y3⟩ := X.out.f4 (i := 3) rfl
  have X := Lib.hid (X.out.set4 (i := 3) rfl (.bool bz) (.string mz) (.bool false) (.string ⟨#[]⟩))
  go_simp
  refine hK.out _ _ (Or.inl (by rfl)) ?_
  clear hK K x0 x1 x2 x3 y0 y1 y2 y3
  try simp only [Act.put, seti, set0, setS]
  obtain ⟨W3, hV⟩ := wexi X.out
  rw [← hV] at X ⊢
  clear hV
  refine wpLate_done (by kernel_rfl) ?_ _
  obtain ⟨o0, o1, o2, o3⟩ := X.out.c4 (i := 3) rfl
  obtain ⟨x0, x1, x2, x3⟩ := X.out.c4 (i := 1) rfl
  obtain ⟨y0, y1, y2, y3⟩ := X.out.f4 (i := 1) rfl
  go_wp2
  have X := Lib.hid (X.out.set4 (i := 1) rfl (.bool bz) (.string mz) (.bool false) (.string ⟨#[]⟩))
  obtain ⟨p0, p1, p2, p3⟩ := X.out.c4 (i := 1) rfl
  exact bodyPost_ret (v := .agg #[.bool bz, .string mz, .bool false, .string ⟨#[]⟩]) (by simp [results, Tryz.results48, go_sem, p0, p1, p2, p3]) rfl ⟨rfl, X.out.bel⟩

theorem rFloor_f {p : Rat} {b bz : Bool} {m k mz : ByteArray} (h : Rq p b m k) (hz : enc (p.num / (p.den : Int)) = .agg #[.bool bz, .string mz]) (s1 : m.size ≤ 9000) (s2 : (mag p.den).size ≤ 9000) (w : World) :
    Calls Tryz.prog 48 #[.agg #[.bool b, .string m, .bool false, .string k]] w (RetB w (.agg #[.bool bz, .string mz, .bool false, .string ⟨#[]⟩])) := by
  cases b
  · exact rFloor_pos h hz s1 s2 w
  · rcases Nat.eq_zero_or_pos (p.num.natAbs % p.den) with e | e
    · exact rFloor_neg h e hz s1 s2 w
    · exact rFloor_rem h e hz s1 s2 w
end Go.Proofs.YtahehlajpaoiiaaGreatDoor
