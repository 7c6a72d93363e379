import Derived.Test.YtahehlajpaoiiaaGreatDoorGRFA
import Derived.Test.YtahehlajpaoiiaaGreatDoorGRKB

namespace Go.Proofs.YtahehlajpaoiiaaGreatDoor

def Sz (n : Nat) (q : Rat) : Prop := q.num.natAbs < 256 ^ n ∧ q.den < 256 ^ n

theorem mkRat_le (x : Int) {d : Nat} (hd : d ≠ 0) : (mkRat x d).num.natAbs ≤ x.natAbs ∧ (mkRat x d).den ≤ d := by
  obtain ⟨h1, h2⟩ := mkRat_parts x hd
  rw [h1, h2]
  refine ⟨?_, Nat.div_le_self _ _⟩
  rw [Int.natAbs_ediv_of_dvd (int_gcd_dvd x d), Int.natAbs_natCast]
  exact Nat.div_le_self _ _
theorem Sz.add {n m : Nat} {p q : Rat} (hp : Sz n p) (hq : Sz m q) : Sz (n + m + 1) (p + q) := by
  rw [Rat.add_def']
  obtain ⟨h1, h2⟩ := mkRat_le (p.num * q.den + q.num * p.den) (d := p.den * q.den) (Nat.mul_ne_zero p.den_nz q.den_nz)
  have h3 := Int.natAbs_add_le (p.num * (q.den : Int)) (q.num * (p.den : Int))
  rw [Int.natAbs_mul, Int.natAbs_mul, Int.natAbs_natCast, Int.natAbs_natCast] at h3
  have h4 : p.num.natAbs * q.den < 256 ^ n * 256 ^ m := Nat.mul_lt_mul'' hp.1 hq.2
  have h5 : q.num.natAbs * p.den < 256 ^ m * 256 ^ n := Nat.mul_lt_mul'' hq.1 hp.2
  have h6 : p.den * q.den < 256 ^ n * 256 ^ m := Nat.mul_lt_mul'' hp.2 hq.2
  rw [Nat.mul_comm (256 ^ m)] at h5
  unfold Sz
  rw [Nat.pow_succ, Nat.pow_add]
  omega
theorem Sz.m {n : Nat} {q : Rat} (h : Sz n q) {b : Bool} {m k : ByteArray} (hq : Rq q b m k) (hn : n ≤ 10000) : m.size ≤ 10000 ∧ (mag q.den).size ≤ 10000 := by
  refine ⟨?_, Nat.le_trans (mag_size_le h.2) hn⟩
  rw [hq.mag.2]
  exact Nat.le_trans (mag_size_le h.1) hn
end Go.Proofs.YtahehlajpaoiiaaGreatDoor


namespace Go.Proofs.YtahehlajpaoiiaaGreatDoor
open Go.RowKit
attribute [local go_sem ↓] Go.wp_at_zero Go.wp_at_succ

theorem of_some {P : Prop} {w : World} {q : Rat} {b : Bool} {m k : ByteArray} {e0 : Int} {e : Ending} {w' : World} (hq : Rq q b m k) (h : RetPq w q e0 e w') : RetB w (.tuple #[.agg #[.bool b, .string m, .bool false, .string k], .int .i64 e0]) e w' := by
  obtain ⟨b2, m2, k2, rfl, hq2, hb⟩ := h
  obtain ⟨rfl, rfl, rfl⟩ := hq2.inj hq
  exact ⟨rfl, hb⟩
theorem parse_pair (t : ByteArray) (ht : t.size ≤ 4096) : ∃ (b : Bool) (m k : ByteArray) (e0 : Int), (∀ V, Env V → Calls Tryz.prog 55 #[.string t] V (RetB V (.tuple #[.agg #[.bool b, .string m, .bool false, .string k], .int .i64 e0]))) ∧ (∀ V, Calls Tryz.prog 56 #[.string t] V (RetB V (.tuple #[.agg #[.bool b, .string m, .bool false, .string k], .int .i64 e0]))) := by
  by_cases h : ∃ r, t.data.toList = 45 :: r
  · obtain ⟨r, hr⟩ := h
    obtain ⟨q, e0, hpq⟩ := pq_some true r
    obtain ⟨b, m, k, hq⟩ := Rq.some_ q
    have h1 := trim_yes r
    rw [← hr] at h1
    have hl := congrArg List.length hr
    rw [size_list, List.length_cons] at hl
    refine ⟨b, m, k, e0, fun V hV => (ratParse_in t V hV r true h1.1 h1.2 ht (by omega) q e0 hpq).mono fun e w' h => of_some (P := True) hq h, fun V => (rParse_in t true r (.inl ⟨rfl, ?_⟩) ht q e0 hpq V).mono fun e w' h => of_some (P := True) hq h⟩
    rw [← hr]
  · have h2 : ∀ r, t.data.toList ≠ 45 :: r := fun r e => h ⟨r, e⟩
    obtain ⟨q, e0, hpq⟩ := pq_some false t.data.toList
    obtain ⟨b, m, k, hq⟩ := Rq.some_ q
    have h1 := trim_not h2
    exact ⟨b, m, k, e0, fun V hV => (ratParse_in t V hV t.data.toList false h1.1 h1.2 ht (by rw [size_list]; omega) q e0 hpq).mono fun e w' h => of_some (P := True) hq h, fun V => (rParse_in t false t.data.toList (.inr ⟨rfl, rfl, h2⟩) ht q e0 hpq V).mono fun e w' h => of_some (P := True) hq h⟩

set_option maxHeartbeats 16000000 in
set_option maxRecDepth 100000 in
theorem rprints_walk (n0 e0 : Int) (u0 v0 : Nat) (hn0 : -9223372036854775808 ≤ n0 ∧ n0 ≤ 9223372036854775807) (he0 : -9223372036854775808 ≤ e0 ∧ e0 ≤ 9223372036854775807) (hu0 : u0 < 256) (hv0 : v0 < 256) (s : ByteArray) (w : World) (hE : Env w) :
    Calls Tryz.prog 13 #[.agg #[.int .i64 n0, .int .i64 e0, .int .u8 (u0 : Int), .int .u8 (v0 : Int)], .string s] w (RetB w (.bool true)) := by
  obtain ⟨ba, ma, ka, ha⟩ := Rq.some_ (fracQ n0 e0 u0 v0)
  have HA := Lib.hid (fun V => rat_det n0 e0 u0 v0 ha hn0.1 hn0.2 he0.1 he0.2 hu0 hv0 V)
  have za : Sz 16 (fracQ n0 e0 u0 v0) := frac_small n0 e0 u0 v0 hn0.1 hn0.2 he0.1 he0.2
  generalize fracQ n0 e0 u0 v0 = qa at *
  obtain ⟨tx, hp1, hp2, hp3⟩ := print_pair ha (Nat.lt_trans za.1 (by decide)) (Nat.lt_trans za.2 (by decide))
  have HP1 := Lib.hid hp1
  have HP2 := Lib.hid hp2
  have HP3 := Lib.hid hp3
  obtain ⟨t, ht⟩ : ∃ t, s.extract 0 (min s.size 60) = t := ⟨_, rfl⟩
  have hts : t.size ≤ 60 := by rw [← ht, ext_size]; omega
  obtain ⟨bq, mq, kq, eq0, hr1, hr2⟩ := parse_pair t (by omega)
  have HR1 := Lib.hid hr1
  have HR2 := Lib.hid hr2
  have HT := Lib.hid ht
  have HKN := Lib.hid (fun V (hV : Env V) => rknown_any V hV)
  have HE := Lib.hid (fun V (h : Below w.heap.size w V) => hE.next h)
  have X := Lib.hid ((Sb.start w).new #[.int .i64 n0, .int .i64 e0, .int .u8 (u0 : Int), .int .u8 (v0 : Int)] 41)
  have X := Lib.hid (X.out.pick [0] [(w.heap.size, #[.int .i64 n0, .int .i64 e0, .int .u8 (u0 : Int), .int .u8 (v0 : Int)], 41)] [] (by simp) (by decide) (by simp))
  clear ha za hp1 hp2 hp3 ht hts hr1 hr2 hE hn0 he0 hu0 hv0
  go_enter Tryz.func13, Tryz.ntmps13
  go_upto_region 1 with fail
  go_cut [5] (fun s5 wx => ∃ g5, s5 = .pointer (some ⟨g5, 0, none⟩) ∧ Sb w [(g5, #[.bool ba, .string ma, .bool false, .string ka], 25)] [] wx)
  case first =>
    obtain ⟨a0, a1, a2, a3⟩ := X.out.c4 (i := 0) rfl
    go_wp2_with fail
    refine (HA.out _).mono ?_
    rintro e u1 ⟨rfl, hb9⟩
    have X := Lib.hid (X.out.next hb9)
    clear hb9
    clear a0 a1 a2 a3
    go_wp2_with fail
    have X := Lib.hid (X.out.new #[.bool ba, .string ma, .bool false, .string ka] 25)
    go_meet
    exact ⟨_, rfl, X.out.pick [1] _ [] rfl (by decide) (by simp)⟩
  obtain ⟨g5, rfl, hX⟩ := hcut
  have X := Lib.hid hX
  clear hX
  go_upto_region 2 with fail
  go_cut [1] (fun s1 wx => s1 = .string t ∧ Sb w [(g5, #[.bool ba, .string ma, .bool false, .string ka], 25)] [] wx)
  case first =>
    go_wp2_with fail
    go_meet
    exact ⟨by rw [show (min (s.size : Int) 60).toNat = min s.size 60 from by omega, HT.out], X.out⟩
  obtain ⟨rfl, hX⟩ := hcut
  have X := Lib.hid hX
  clear hX
  go_upto_region 3 with fail
  go_cut [6] (fun s6 wx => s6 = .string tx ∧ Sb w [(g5, #[.bool ba, .string ma, .bool false, .string ka], 25)] [] wx)
  case first =>
    obtain ⟨a0, a1, a2, a3⟩ := X.out.c4 (i := 0) rfl
    go_wp2_with fail
    refine (HP1.out _ (HE.out _ X.out.bel)).mono ?_
    rintro e u1 ⟨rfl, hb9⟩
    have X := Lib.hid (X.out.next hb9)
    clear hb9
    clear a0 a1 a2 a3
    go_wp2_with fail
    go_meet
    exact ⟨rfl, X.out⟩
  obtain ⟨rfl, hX⟩ := hcut
  have X := Lib.hid hX
  clear hX
  go_upto_region 4 with fail
  go_cut [7, 8] (fun s7 s8 wx => ∃ g7, s7 = .pointer (some ⟨g7, 0, none⟩) ∧ s8 = .int .i64 0 ∧ Sb w [(g5, #[.bool ba, .string ma, .bool false, .string ka], 25), (g7, #[.bool ba, .string ma, .bool false, .string ka], 25)] [] wx)
  case first =>
    go_wp2_with fail
    refine (HP3.out _ (HE.out _ X.out.bel)).mono ?_
    rintro e u1 ⟨rfl, hb9⟩
    have X := Lib.hid (X.out.next hb9)
    clear hb9
    go_wp2_with fail
    have X := Lib.hid (X.out.new #[.bool ba, .string ma, .bool false, .string ka] 25)
    go_meet
    exact ⟨_, rfl, rfl, X.out⟩
  obtain ⟨g7, rfl, rfl, hX⟩ := hcut
  have X := Lib.hid hX
  clear hX
  go_upto_region 5 with fail
  go_cut [9, 10] (fun s9 s10 wx => ∃ g9, s9 = .pointer (some ⟨g9, 0, none⟩) ∧ s10 = .int .i64 eq0 ∧ Sb w [(g5, #[.bool ba, .string ma, .bool false, .string ka], 25), (g7, #[.bool ba, .string ma, .bool false, .string ka], 25), (g9, #[.bool bq, .string mq, .bool false, .string kq], 25)] [] wx)
  case first =>
    go_wp2_with fail
    refine (HR1.out _ (HE.out _ X.out.bel)).mono ?_
    rintro e u1 ⟨rfl, hb9⟩
    have X := Lib.hid (X.out.next hb9)
    clear hb9
    go_wp2_with fail
    have X := Lib.hid (X.out.new #[.bool bq, .string mq, .bool false, .string kq] 25)
    go_meet
    exact ⟨_, rfl, rfl, X.out⟩
  obtain ⟨g9, rfl, rfl, hX⟩ := hcut
  have X := Lib.hid hX
  clear hX
  go_upto_region 6 with fail
  go_cut [11, 12] (fun s11 s12 wx => ∃ g11, s11 = .pointer (some ⟨g11, 0, none⟩) ∧ s12 = .int .i64 eq0 ∧ Sb w [(g5, #[.bool ba, .string ma, .bool false, .string ka], 25), (g7, #[.bool ba, .string ma, .bool false, .string ka], 25), (g9, #[.bool bq, .string mq, .bool false, .string kq], 25), (g11, #[.bool bq, .string mq, .bool false, .string kq], 25)] [] wx)
  case first =>
    go_wp2_with fail
    refine (HR2.out _).mono ?_
    rintro e u1 ⟨rfl, hb9⟩
    have X := Lib.hid (X.out.next hb9)
    clear hb9
    go_wp2_with fail
    have X := Lib.hid (X.out.new #[.bool bq, .string mq, .bool false, .string kq] 25)
    go_meet
    exact ⟨_, rfl, rfl, X.out⟩
  obtain ⟨g11, rfl, rfl, hX⟩ := hcut
  have X := Lib.hid hX
  clear hX
  go_wp2_with fail
  refine (HKN.out _ (HE.out _ X.out.bel)).mono ?_
  rintro e u1 ⟨rfl, hb9⟩
  have X := Lib.hid (X.out.next hb9)
  clear hb9
  obtain ⟨a0, a1, a2, a3⟩ := X.out.c4 (i := 0) rfl
  obtain ⟨c0, c1, c2, c3⟩ := X.out.c4 (i := 1) rfl
  obtain ⟨d0, d1, d2, d3⟩ := X.out.c4 (i := 2) rfl
  obtain ⟨f0, f1, f2, f3⟩ := X.out.c4 (i := 3) rfl
  go_wp2_with fail
  refine (HP2.out _).mono ?_
  rintro e u2 ⟨rfl, hb9⟩
  have X := Lib.hid (X.out.next hb9)
  clear hb9
  clear a0 a1 a2 a3 c0 c1 c2 c3 d0 d1 d2 d3 f0 f1 f2 f3
  obtain ⟨a0, a1, a2, a3⟩ := X.out.c4 (i := 0) rfl
  obtain ⟨c0, c1, c2, c3⟩ := X.out.c4 (i := 1) rfl
  obtain ⟨d0, d1, d2, d3⟩ := X.out.c4 (i := 2) rfl
  obtain ⟨f0, f1, f2, f3⟩ := X.out.c4 (i := 3) rfl
  go_wp2
  go_ret
  exact ⟨rfl, X.out.bel⟩
end Go.Proofs.YtahehlajpaoiiaaGreatDoor
