import Derived.Test.YtahehlajpaoiiaaGreatDoorGQI
import Derived.Test.YtahehlajpaoiiaaGreatDoorGQS
import Derived.Test.YtahehlajpaoiiaaGreatDoorGQU
import Derived.Test.YtahehlajpaoiiaaGreatDoorGRefO
import Derived.Test.YtahehlajpaoiiaaGreatDoorGStD

/-
  The second reference's integers out of ints.
-/
namespace Go.Proofs.YtahehlajpaoiiaaGreatDoor
open Go.RowKit
attribute [local go_sem ↓] Go.wp_at_zero Go.wp_at_succ

theorem div_256_pos {N k : Nat} (hN : N ≤ 9223372036854775808) (h : 0 < N / 256 ^ k) : k < 8 := by
  rcases Nat.lt_or_ge k 8 with h1 | h1
  · exact h1
  · have h2 : 256 ^ 8 ≤ 256 ^ k := Nat.pow_le_pow_right (by omega) h1
    rw [Nat.div_eq_of_lt (by omega)] at h
    omega

/-- The state while an int is taken to digits. -/
structure Li (w : World) (N k : Nat) (v : Value) (wr : World) : Prop where
  top : 0 < k → N / 256 ^ (k - 1) ≠ 0
  own : wr.ownsRow (w.heap.size + 1) 3 1 v k (nums .i64 (D 256 N) k)
  res : wr.heap[w.heap.size]? = some (.cells #[.bool false, .string ⟨#[]⟩] 23 (0, 0))
  sz : w.heap.size + 1 ≤ wr.heap.size
  bel : Below w.heap.size w wr

theorem Li.start (w : World) (N : Nat) : Li w N 0 (.slice none 0 0) (w.alloc (.cells #[.bool false, .string ⟨#[]⟩] 23)) :=
  ⟨fun h => absurd h (by omega), World.ownsRow_nil _ _ _ _, heap_one _ _, by simp, (Below.refl _ _).alloc (Nat.le_refl _) _⟩

theorem Li.next {w wr w1 : World} {N k d : Nat} {v v' o : Value} (h : Li w N k v wr) (hd : d = N / 256 ^ k % 256) (hp : N / 256 ^ k ≠ 0)
    (hown' : w1.ownsRow (w.heap.size + 1) 3 1 v' (k + 1) (nums .i64 (D 256 N) k ++ [.int .i64 (d : Int)])) (hgrow : (wr.alloc (.cells #[o] 3)).grownBy w1 v.ownBlock) : Li w N (k + 1) v' w1 := by
  have hb1 : Below (w.heap.size + 1) wr w1 := ((Below.refl _ _).alloc h.sz _).grown hgrow (by have := h.sz; simp; omega) (fun g hg => ((h.own.lt) g hg).1)
  have hs := hb1.size
  have hs2 := h.sz
  exact ⟨fun _ => by rw [Nat.add_sub_cancel]; exact hp, own_next hown' hd, (hb1.block _ (by omega)).trans h.res, by omega, h.bel.trans (hb1.mono (by omega))⟩

theorem Li.done {w wr : World} {N k : Nat} {v : Value} (h : Li w N k v wr) (hz : N / 256 ^ k = 0) : ∃ A c, v = .slice A k c ∧ Tr wr A k c N := by
  obtain ⟨A, c, rfl, hc, hn, hr, _⟩ := own_form h.own
  have hlt : N < 256 ^ k := Nat.lt_of_div_eq_zero (Nat.pow_pos (by omega)) hz
  refine ⟨A, c, rfl, ⟨hlt, hr⟩, nd_of hlt fun h0 => ?_, hc, hn⟩
  have h1 := h.top h0
  have h2 := div_256 N (k - 1)
  rw [Nat.sub_add_cancel h0, hz] at h2
  omega

set_option maxHeartbeats 8000000 in
set_option maxRecDepth 100000 in
theorem rint_pos (N : Nat) (hN : N ≤ 9223372036854775807) (w : World) : Calls Tryz.prog 68 #[.int .i64 (N : Int)] w (RetZ w (N : Int)) := by
  obtain ⟨i0, hi, hz0, hz1, hz2⟩ := info_parts intTy_info
  obtain ⟨bz, mz, hbz⟩ := enc_form (N : Int)
  have HBZ := Lib.hid hbz
  clear hbz
  go_enter Tryz.func68, Tryz.ntmps68
  go_wp2
  go_loopw [3, 4] (fun v nv wr => ∃ k : Nat, nv = .int .i64 ((N / 256 ^ k : Nat) : Int) ∧ Hid (Li w N k v wr)) (fun _ nv _ => (intOf nv).toNat)
  case atStart => exact ⟨0, by rw [Nat.pow_zero, Nat.div_one], Li.start w N⟩
  case round =>
    obtain ⟨k, rfl, HL⟩ := hrel
    have hle : N / 256 ^ k ≤ N := Nat.div_le_self _ _
    have hk8 := div_256_pos (N := N) (k := k) (by omega)
    have hq2 : N / 256 ^ k / 256 = N / 256 ^ (k + 1) := by rw [Nat.div_div_eq_div_mul, Nat.pow_succ]
    generalize hq : N / 256 ^ k = q at *
    have HQ := Lib.hid hq
    have HQ2 := Lib.hid hq2
    clear hq hq2
    by_cases hlt : 0 < q
    · have hk := hk8 hlt
      have hne : ((q : Int) != 0) = true := by simp; omega
      have hsz := HL.out.sz
      have hown := HL.out.own
      go_wp2_with (at_builtin; refine wpList_append_own _ rfl _ _ 65 rfl (w.heap.size + 1) 3 i0 (.int .i64 0) 1 8 Tryz.underlying65 hi hz0 hz1 hz2 rfl (by decide) _ _ _ rfl (hown.alloc _) ⟨wr.heap.size, 0, none⟩ 1 1 [.int .i64 ((q % 256 : Nat) : Int)] rfl rfl ?_ ?_ ?_ ?_ ?_ ?_)
      · intro j u hj; exact one_cell j u hj (by first | (go_num; done) | (simp; rfl))
      · intro u hu; simp at hu; subst hu; rfl
      · unfold maxLen; omega
      · omega
      · simp; omega
      intro v' w1 hown' hgrow _
      have HL2 := Lib.hid (HL.out.next (d := q % 256) (by rw [HQ.out]) (by rw [HQ.out]; omega) hown' hgrow)
      clear hgrow hown' hown hne
      go_wp2
      go_roundw
      case rel => exact ⟨k + 1, by rw [← HQ2.out]; go_num, HL2.out⟩
      case measure => simp [intOf]; omega
    · obtain rfl : q = 0 := by omega
      obtain ⟨A, c, rfl, ht⟩ := HL.out.done HQ.out
      have HT := Lib.hid ht
      clear ht
      have hk : k ≤ 1000000 := by
        have h1 := HT.out.ln
        have h2 : nd N ≤ 8 := nd_le (by omega)
        omega
      have hn0 : decide ((N : Int) < 0) = false := by simp
      go_wp2_with fail
      refine (rwhole false A k c N _ (by omega) HT.out.cap HT.out.dg).mono ?_
      rintro e w2 ⟨rfl, hb2⟩
      rw [show enc (sgn false N) = .agg #[.bool bz, .string mz] from HBZ.out]
      obtain ⟨p0, p1, f0, f1⟩ := blk_cells ((hb2.block _ (by have := HL.out.sz; omega)).trans HL.out.res)
      have HB := Lib.hid (HL.out.bel.trans (hb2.mono HL.out.bel.size))
      clear hb2
      go_wp2
      exact bodyPost_ret (v := .agg #[.bool bz, .string mz]) (by simp [results, Tryz.results68, go_sem, p0, p1]) rfl ⟨by rw [HBZ.out], below_set2 HB.out (Nat.le_refl _) _ _⟩
set_option maxHeartbeats 8000000 in
set_option maxRecDepth 100000 in
theorem rint_neg (N : Nat) (h0 : 0 < N) (hN : N ≤ 9223372036854775808) (w : World) : Calls Tryz.prog 68 #[.int .i64 (-(N : Int))] w (RetZ w (-(N : Int))) := by
  obtain ⟨i0, hi, hz0, hz1, hz2⟩ := info_parts intTy_info
  obtain ⟨bz, mz, hbz⟩ := enc_form (-(N : Int))
  have HBZ := Lib.hid hbz
  clear hbz
  go_enter Tryz.func68, Tryz.ntmps68
  go_wp2
  go_loopw [3, 4] (fun v nv wr => ∃ k : Nat, nv = .int .i64 (-((N / 256 ^ k : Nat) : Int)) ∧ Hid (Li w N k v wr)) (fun _ nv _ => (-(intOf nv)).toNat)
  case atStart => exact ⟨0, by rw [Nat.pow_zero, Nat.div_one], Li.start w N⟩
  case round =>
    obtain ⟨k, rfl, HL⟩ := hrel
    have hle : N / 256 ^ k ≤ N := Nat.div_le_self _ _
    have hk8 := div_256_pos (N := N) (k := k) (by omega)
    have hq2 : N / 256 ^ k / 256 = N / 256 ^ (k + 1) := by rw [Nat.div_div_eq_div_mul, Nat.pow_succ]
    generalize hq : N / 256 ^ k = q at *
    have HQ := Lib.hid hq
    have HQ2 := Lib.hid hq2
    clear hq hq2
    by_cases hlt : 0 < q
    · have hk := hk8 hlt
      have hne : (-(q : Int) != 0) = true := by simp; omega
      obtain ⟨r, hr⟩ : ∃ r, q % 256 = r := ⟨_, rfl⟩
      obtain ⟨s, hs⟩ : ∃ s, q / 256 = s := ⟨_, rfl⟩
      have hr1 : r < 256 := by omega
      have hs1 : s ≤ q := by omega
      have hsq : s < q := by omega
      have HR := Lib.hid hr
      have HS := Lib.hid hs
      have HTM := Lib.hid (show (-(q : Int)).tmod 256 = -(r : Int) by rw [Int.neg_tmod, Int.tmod_eq_emod_of_nonneg (by omega)]; omega)
      have HTD := Lib.hid (show (-(q : Int)).tdiv 256 = -(s : Int) by rw [Int.neg_tdiv, Int.tdiv_eq_ediv_of_nonneg (by omega)]; omega)
      clear hr hs
      rcases Nat.eq_zero_or_pos r with hr0 | hr0
      · subst hr0
        have htm : (-(q : Int)).tmod 256 = 0 := by rw [HTM.out]; rfl
        have hsz := HL.out.sz
        have hown := HL.out.own
        go_wp2_with (at_builtin; refine wpList_append_own _ rfl _ _ 65 rfl (w.heap.size + 1) 3 i0 (.int .i64 0) 1 8 Tryz.underlying65 hi hz0 hz1 hz2 rfl (by decide) _ _ _ rfl (hown.alloc _) ⟨wr.heap.size, 0, none⟩ 1 1 [.int .i64 ((0 : Nat) : Int)] rfl rfl ?_ ?_ ?_ ?_ ?_ ?_)
        · intro j u hj; exact one_cell j u hj (by first | (go_num; done) | (simp; rfl))
        · intro u hu; simp at hu; subst hu; rfl
        · unfold maxLen; omega
        · omega
        · simp; omega
        intro v' w1 hown' hgrow _
        have HL2 := Lib.hid (HL.out.next (d := 0) (by rw [HQ.out, HR.out]) (by rw [HQ.out]; omega) hown' hgrow)
        clear hgrow hown' hown hne htm
        have htd := HTD.out
        go_wp2
        go_roundw
        case rel => exact ⟨k + 1, by rw [← HQ2.out, HS.out], HL2.out⟩
        case measure => simp [intOf]; omega
      · have htm := HTM.out
        have hsz := HL.out.sz
        have hown := HL.out.own
        go_wp2_with (at_builtin; refine wpList_append_own _ rfl _ _ 65 rfl (w.heap.size + 1) 3 i0 (.int .i64 0) 1 8 Tryz.underlying65 hi hz0 hz1 hz2 rfl (by decide) _ _ _ rfl (hown.alloc _) ⟨wr.heap.size, 0, none⟩ 1 1 [.int .i64 (r : Int)] rfl rfl ?_ ?_ ?_ ?_ ?_ ?_)
        · intro j u hj; exact one_cell j u hj (by first | (go_num; done) | (simp; rfl))
        · intro u hu; simp at hu; subst hu; rfl
        · unfold maxLen; omega
        · omega
        · simp; omega
        intro v' w1 hown' hgrow _
        have HL2 := Lib.hid (HL.out.next (d := r) (by rw [HQ.out, HR.out]) (by rw [HQ.out]; omega) hown' hgrow)
        clear hgrow hown' hown hne htm
        have htd := HTD.out
        go_wp2
        go_roundw
        case rel => exact ⟨k + 1, by rw [← HQ2.out, HS.out], HL2.out⟩
        case measure => simp [intOf]; omega
    · obtain rfl : q = 0 := by omega
      obtain ⟨A, c, rfl, ht⟩ := HL.out.done HQ.out
      have HT := Lib.hid ht
      clear ht
      have hk : k ≤ 1000000 := by
        have h1 := HT.out.ln
        have h2 : nd N ≤ 8 := nd_le (by omega)
        omega
      have hn0 : decide (-(N : Int) < 0) = true := by simp; omega
      go_wp2_with fail
      refine (rwhole true A k c N _ (by omega) HT.out.cap HT.out.dg).mono ?_
      rintro e w2 ⟨rfl, hb2⟩
      rw [show enc (sgn true N) = .agg #[.bool bz, .string mz] from HBZ.out]
      obtain ⟨p0, p1, f0, f1⟩ := blk_cells ((hb2.block _ (by have := HL.out.sz; omega)).trans HL.out.res)
      have HB := Lib.hid (HL.out.bel.trans (hb2.mono HL.out.bel.size))
      clear hb2
      go_wp2
      exact bodyPost_ret (v := .agg #[.bool bz, .string mz]) (by simp [results, Tryz.results68, go_sem, p0, p1]) rfl ⟨by rw [HBZ.out], below_set2 HB.out (Nat.le_refl _) _ _⟩
theorem rint_any (n : Int) (h1 : -9223372036854775808 ≤ n) (h2 : n ≤ 9223372036854775807) (w : World) : Calls Tryz.prog 68 #[.int .i64 n] w (RetZ w n) := by
  rcases Int.lt_or_le n 0 with h | h
  · obtain ⟨N, hN⟩ : ∃ N : Nat, n = -(N : Int) := ⟨n.natAbs, by omega⟩
    subst hN
    exact rint_neg N (by omega) (by omega) w
  · obtain ⟨N, hN⟩ : ∃ N : Nat, n = (N : Int) := ⟨n.natAbs, by omega⟩
    subst hN
    exact rint_pos N (by omega) w
end Go.Proofs.YtahehlajpaoiiaaGreatDoor


/-
  Fractions of two ints, the program's and the second reference's.
-/
namespace Go.Proofs.YtahehlajpaoiiaaGreatDoor
open Go.RowKit
attribute [local go_sem ↓] Go.wp_at_zero Go.wp_at_succ

theorem Rq.inj {q : Rat} {b c : Bool} {m n k l : ByteArray} (h : Rq q b m k) (h' : Rq q c n l) : b = c ∧ m = n ∧ k = l := by
  have e := h.num.symm.trans h'.num
  injection e with e
  have e2 : b = c ∧ m = n := by simpa using e
  exact ⟨e2.1, e2.2, by rw [h.den, h'.den]⟩

theorem sgn_self (x : Int) : sgn (decide (x < 0)) x.natAbs = x := by
  unfold sgn
  by_cases h : x < 0
  · rw [decide_eq_true h]; simp; omega
  · rw [decide_eq_false h]; simp; omega
theorem mk_divInt (x y : Int) (hy : y ≠ 0) : mkRat (sgn (decide (x < 0) != decide (y < 0)) x.natAbs) y.natAbs = Rat.divInt x y := by
  by_cases h : y < 0
  · obtain ⟨d, rfl⟩ : ∃ d : Nat, y = -(d : Int) := ⟨y.natAbs, by omega⟩
    rw [decide_eq_true h, Bool.bne_true, sgn_not, sgn_self, Rat.divInt_neg', Rat.divInt_ofNat, Int.natAbs_neg, Int.natAbs_natCast]
  · obtain ⟨d, rfl⟩ : ∃ d : Nat, y = (d : Int) := ⟨y.natAbs, by omega⟩
    rw [decide_eq_false h, Bool.bne_false, sgn_self, Rat.divInt_ofNat, Int.natAbs_natCast]

theorem i64_size {n : Int} (h1 : -9223372036854775808 ≤ n) (h2 : n ≤ 9223372036854775807) : (mag n.natAbs).size ≤ 8 := mag_size_le (by omega)

set_option maxHeartbeats 2000000 in
set_option maxRecDepth 100000 in
theorem fromInts_f {x y : Int} {b3 : Bool} {m3 k3 : ByteArray} (hq : Rq (Rat.divInt x y) b3 m3 k3) (h0 : y ≠ 0) (x1 : -9223372036854775808 ≤ x) (x2 : x ≤ 9223372036854775807) (y1 : -9223372036854775808 ≤ y) (y2 : y ≤ 9223372036854775807) (w : World) (hE : Env w) :
    Calls Tryz.prog 22 #[.int .i64 x, .int .i64 y] w (RetB w (.tuple #[.agg #[.bool b3, .string m3, .bool false, .string k3], .int .i64 0])) := by
  obtain ⟨bx, mx, hx⟩ := enc_form x
  obtain ⟨by', my, hy⟩ := enc_form y
  have sx : mx.size ≤ 100000 := by rw [(enc_parts hx).2]; have := i64_size x1 x2; omega
  have sy : my.size ≤ 100000 := by rw [(enc_parts hy).2]; have := i64_size y1 y2; omega
  have HM := Lib.hid (fun V (hV : Env V) => make_f hx hy hq h0 sx sy V hV)
  have HX := Lib.hid hx
  have HY := Lib.hid hy
  have KR := Lib.hid (Bq.new w #[.bool false, .string ⟨#[]⟩, .bool false, .string ⟨#[]⟩] 25)
  have HB := Lib.hid (below_new w (.cells #[.bool false, .string ⟨#[]⟩, .bool false, .string ⟨#[]⟩] 25))
  clear hx hy hq h0
  go_enter Tryz.func22, Tryz.ntmps22
  go_wp2_with fail
  refine (fromInt_any x x1 x2 _).mono ?_
  rintro e w1 ⟨rfl, hb1⟩
  rw [HX.out]
  have K1 := Lib.hid (KR.out.next hb1)
  have B1 := Lib.hid (below_step HB.out (Nat.le_refl _) hb1)
  clear hb1
  go_wp2_with fail
  refine (fromInt_any y y1 y2 _).mono ?_
  rintro e w2 ⟨rfl, hb2⟩
  rw [HY.out]
  have K2 := Lib.hid (K1.out.next hb2)
  have B2 := Lib.hid (below_step B1.out (Nat.le_refl _) hb2)
  clear hb2
  go_wp2_with fail
  refine (HM.out _ (hE.next B2.out)).mono ?_
  rintro e w3 ⟨rfl, hb3⟩
  have K3 := Lib.hid (K2.out.next hb3)
  have B3 := Lib.hid (below_step B2.out (Nat.le_refl _) hb3)
  obtain ⟨t0, t1, t2, t3⟩ := blk4 K3.out.k
  obtain ⟨f0, f1, f2, f3⟩ := fro4 K3.out.k
  clear hb3
  go_wp2
  exact bodyPost_ret (v := .tuple #[.agg #[.bool b3, .string m3, .bool false, .string k3], .int .i64 0]) (by simp [results, Tryz.results22, go_sem, t0, t1, t2, t3]) rfl ⟨rfl, below_set4 B3.out (Nat.le_refl _) _ _ _ _⟩

set_option maxHeartbeats 2000000 in
set_option maxRecDepth 100000 in
theorem rOf_f {x y : Int} {b3 : Bool} {m3 k3 : ByteArray} (hq : Rq (Rat.divInt x y) b3 m3 k3) (h0 : y ≠ 0) (x1 : -9223372036854775808 ≤ x) (x2 : x ≤ 9223372036854775807) (y1 : -9223372036854775808 ≤ y) (y2 : y ≤ 9223372036854775807) (w : World) :
    Calls Tryz.prog 23 #[.int .i64 x, .int .i64 y] w (RetB w (.agg #[.bool b3, .string m3, .bool false, .string k3])) := by
  obtain ⟨bx, mx, hx⟩ := enc_form x
  obtain ⟨by', my, hy⟩ := enc_form y
  have sx : mx.size ≤ 1000000 := by rw [(enc_parts hx).2]; have := i64_size x1 x2; omega
  have sy : my.size ≤ 1000000 := by rw [(enc_parts hy).2]; have := i64_size y1 y2; omega
  have vx : bval mx = x.natAbs := by rw [(enc_parts hx).2, bval_mag]
  have vy : bval my = y.natAbs := by rw [(enc_parts hy).2, bval_mag]
  have hmk := fun V => rmake bx by' mx my sx sy (by rw [vy]; omega) V
  rw [vx, vy, (enc_parts hx).1, (enc_parts hy).1, mk_divInt x y h0, ← (enc_parts hx).1, ← (enc_parts hy).1] at hmk
  have HM := Lib.hid hmk
  have HX := Lib.hid hx
  have HY := Lib.hid hy
  have HQ := Lib.hid hq
  have KR := Lib.hid (Bq.new w #[.bool false, .string ⟨#[]⟩, .bool false, .string ⟨#[]⟩] 25)
  have HB := Lib.hid (below_new w (.cells #[.bool false, .string ⟨#[]⟩, .bool false, .string ⟨#[]⟩] 25))
  clear hx hy hq h0 vx vy hmk
  go_enter Tryz.func23, Tryz.ntmps23
  go_wp2_with fail
  refine (rint_any x x1 x2 _).mono ?_
  rintro e w1 ⟨rfl, hb1⟩
  rw [HX.out]
  have K1 := Lib.hid (KR.out.next hb1)
  have B1 := Lib.hid (below_step HB.out (Nat.le_refl _) hb1)
  clear hb1
  go_wp2_with fail
  refine (rint_any y y1 y2 _).mono ?_
  rintro e w2 ⟨rfl, hb2⟩
  rw [HY.out]
  have K2 := Lib.hid (K1.out.next hb2)
  have B2 := Lib.hid (below_step B1.out (Nat.le_refl _) hb2)
  clear hb2
  go_wp2_with fail
  refine (HM.out _).mono ?_
  rintro e w3 ⟨b4, m4, k4, rfl, hq4, hb3⟩
  obtain ⟨rfl, rfl, rfl⟩ := HQ.out.inj hq4
  have K3 := Lib.hid (K2.out.next hb3)
  have B3 := Lib.hid (below_step B2.out (Nat.le_refl _) hb3)
  obtain ⟨t0, t1, t2, t3⟩ := blk4 K3.out.k
  obtain ⟨f0, f1, f2, f3⟩ := fro4 K3.out.k
  clear hb3 hq4
  go_wp2
  exact bodyPost_ret (v := .agg #[.bool b3, .string m3, .bool false, .string k3]) (by simp [results, Tryz.results23, go_sem, t0, t1, t2, t3]) rfl ⟨rfl, below_set4 B3.out (Nat.le_refl _) _ _ _ _⟩
end Go.Proofs.YtahehlajpaoiiaaGreatDoor


/-
  The program's square roots of fractions, and what it prints.
-/
namespace Go.Proofs.YtahehlajpaoiiaaGreatDoor
open Go.RowKit
attribute [local go_sem ↓] Go.wp_at_zero Go.wp_at_succ

theorem rt_square (N : Nat) : rt (N * N) = N := rt_unique (Nat.le_refl _) (Nat.mul_lt_mul'' (by omega) (by omega))

theorem isSq_yes (N : Nat) (hs : (mag (N * N)).size ≤ 30000) (w : World) :
    Calls Tryz.prog 89 #[.agg #[.bool false, .string (mag (N * N))]] w (RetB w (.tuple #[.agg #[.bool false, .string (mag N)], .bool true])) := by
  have hN : (mag N).size ≤ 40000 := by
    rcases Nat.eq_zero_or_pos N with h | h
    · rw [h, mag_nil]; exact Nat.zero_le _
    · have h1 : nd N ≤ nd (N * N) := nd_mono (Nat.le_mul_of_pos_left N h)
      exact Nat.le_trans h1 (by unfold nd; omega)
  have h := isSquare_f (enc_mag (N * N)) (by omega) (by omega) (br := false) (mr := mag N) (bp := false) (mp := mag (N * N)) (by rw [Int.natAbs_natCast, rt_square]; exact enc_mag N)
    (by rw [Int.natAbs_natCast, rt_square, ← Int.natCast_mul]; exact enc_mag (N * N)) hN w
  have hc : ((rt ((N * N : Nat) : Int).natAbs : Nat) : Int) * ((rt ((N * N : Nat) : Int).natAbs : Nat) : Int) = ((N * N : Nat) : Int) := by rw [Int.natAbs_natCast, rt_square, Int.natCast_mul]
  simp only [if_pos hc] at h
  exact h

set_option maxHeartbeats 4000000 in
set_option maxRecDepth 100000 in
theorem ratRoot_yes {q : Rat} {b : Bool} {m k : ByteArray} (h : Rq q b m k) {N D : Nat} (hN : q.num = ((N * N : Nat) : Int)) (hD : q.den = D * D) (s1 : (mag (N * N)).size ≤ 30000) (s2 : (mag (D * D)).size ≤ 30000) (w : World) (hE : Env w) :
    Calls Tryz.prog 52 #[.agg #[.bool b, .string m, .bool false, .string k]] w (RetB w (.tuple #[.agg #[.bool false, .string (mag N), .bool false, .string (dm D)], .bool true])) := by
  have hb : b = false ∧ m = mag (N * N) := by
    obtain ⟨e1, e2⟩ := h.mag
    rw [hN] at e1 e2
    exact ⟨by rw [e1]; exact decide_eq_false (by omega), by rw [e2, Int.natAbs_natCast]⟩
  obtain ⟨rfl, rfl⟩ := hb
  have HE := Lib.hid (fun V (hb : Below w.heap.size w V) => hE.next hb)
  have HDN := Lib.hid (fun V (hV : Env V) => den_f h V hV)
  rw [hD] at HDN
  have HI1 := Lib.hid (fun V => isSq_yes N s1 V)
  have HI2 := Lib.hid (fun V => isSq_yes D s2 V)
  have HCP := Lib.hid (fun V (hV : Env V) => coprime_f false (mag N) D V hV)
  have KK := Lib.hid (Kb.start w #[.bool false, .string (mag (N * N)), .bool false, .string k] #[.bool false, .string ⟨#[]⟩, .bool false, .string ⟨#[]⟩] 25 25)
  generalize mag (N * N) = mN at *
  generalize mag (D * D) = mD at *
  generalize mag N = rN at *
  generalize mag D = rD at *
  generalize dm D = rk at *
  clear h hN hD hE s1 s2
  go_enter Tryz.func52, Tryz.ntmps52
  go_wp2_with fail
  refine (HI1.out _).mono ?_
  rintro e w1 ⟨rfl, hb1⟩
  have K1 := Lib.hid (KK.out.next hb1)
  have K2 := Lib.hid (K1.out.next (below_new w1 (.cells #[.bool false, .string rN] 23)))
  have B2 := Lib.hid (Bq.new w1 #[.bool false, .string rN] 23)
  obtain ⟨p0, p1, p2, p3⟩ := blk4 K2.out.k1
  clear hb1
  go_wp2_with fail
  refine (HDN.out _ (HE.out _ K2.out.bel)).mono ?_
  rintro e w3 ⟨rfl, hb3⟩
  have K3 := Lib.hid (K2.out.next hb3)
  have B3 := Lib.hid (B2.out.next hb3)
  clear hb3 p0 p1 p2 p3
  go_wp2_with fail
  refine (HI2.out _).mono ?_
  rintro e w4 ⟨rfl, hb4⟩
  have K4 := Lib.hid (K3.out.next hb4)
  have B4 := Lib.hid (B3.out.next hb4)
  have K5 := Lib.hid (K4.out.next (below_new w4 (.cells #[.bool false, .string rD] 23)))
  have B5 := Lib.hid (B4.out.next (below_new w4 (.cells #[.bool false, .string rD] 23)))
  obtain ⟨q0, q1, _, _⟩ := blk_cells B5.out.k
  clear hb4
  go_wp2_with fail
  refine (HCP.out _ (HE.out _ K5.out.bel)).mono ?_
  rintro e w6 ⟨rfl, hb6⟩
  have K6 := Lib.hid (K5.out.next hb6)
  obtain ⟨t0, t1, t2, t3⟩ := blk4 K6.out.k2
  obtain ⟨f0, f1, f2, f3⟩ := fro4 K6.out.k2
  clear hb6 q0 q1
  go_wp2
  exact bodyPost_ret (v := .tuple #[.agg #[.bool false, .string rN, .bool false, .string rk], .bool true]) (by simp [results, Tryz.results52, go_sem, t0, t1, t2, t3]) rfl ⟨rfl, below_set4 K6.out.bel (by omega) _ _ _ _⟩

theorem printed_len (b : Bool) {X K : Nat} (h : X < 256 ^ K) : (printed b X).length ≤ 3 * K + 2 := by
  unfold printed
  split
  · simp
  · rw [List.length_append, Lib.decDigits_length]
    have h1 := digits_pow h
    cases b
    · simp; omega
    · simp; omega

set_option maxHeartbeats 4000000 in
set_option maxRecDepth 100000 in
theorem ratPrint_part {q : Rat} {b : Bool} {m k : ByteArray} (h : Rq q b m k) (hd : q.den ≠ 1) (s1 : m.size ≤ 10000) (s2 : k.size ≤ 10000) (w : World) (hE : Env w) :
    Calls Tryz.prog 54 #[.agg #[.bool b, .string m, .bool false, .string k]] w (RetB w (.string ((⟨(printed b q.num.natAbs).toArray⟩ ++ ⟨#[47]⟩) ++ ⟨(printed false q.den).toArray⟩))) := by
  have hm : bval m = q.num.natAbs := by rw [h.mag.2, bval_mag]
  have hk2 := h.den2 hd
  have hkv : bval k = q.den := by rw [hk2, bval_mag]
  have HE := Lib.hid (fun V (hb : Below w.heap.size w V) => hE.next hb)
  have HP1 := Lib.hid (fun V (hV : Env V) => print_any b m V (by omega) hV.ten)
  have HP2 := Lib.hid (fun V (hV : Env V) => print_any false k V (by omega) hV.ten)
  rw [hm] at HP1
  rw [hkv] at HP2
  have HNO := Lib.hid (isInteger_no b m k (by rw [hk2]; exact mag_no_nil q.den_nz))
  have KK := Lib.hid (Bq.new w #[.bool b, .string m, .bool false, .string k] 25)
  have BB := Lib.hid (below_new w (.cells #[.bool b, .string m, .bool false, .string k] 25))
  have hL1 := printed_len b (X := q.num.natAbs) (K := m.size) (by rw [← hm]; exact bval_lt m)
  have hL2 := printed_len false (X := q.den) (K := k.size) (by rw [← hkv]; exact bval_lt k)
  clear h hm hk2 hkv hd hE
  generalize printed b q.num.natAbs = sn at *
  generalize printed false q.den = sd at *
  obtain ⟨S1, hS1⟩ : ∃ S : ByteArray, S = ⟨sn.toArray⟩ := ⟨_, rfl⟩
  obtain ⟨S2, hS2⟩ : ∃ S : ByteArray, S = ⟨sd.toArray⟩ := ⟨_, rfl⟩
  have hz1 : S1.size ≤ 30002 := by rw [hS1]; simp [ByteArray.size]; omega
  have hz2 : S2.size ≤ 30002 := by rw [hS2]; simp [ByteArray.size]; omega
  rw [← hS1] at HP1 ⊢
  rw [← hS2] at HP2 ⊢
  have hc1 : ¬ 9223372036854775807 < S1.size + 1 := by omega
  have hc2 : ¬ 9223372036854775807 < S1.size + 1 + S2.size := by omega
  clear hS1 hS2 hL1 hL2
  go_enter Tryz.func54, Tryz.ntmps54
  go_wp2_with fail
  refine (HNO.out _).mono ?_
  rintro e w1 ⟨rfl, hb1⟩
  have K1 := Lib.hid (KK.out.next hb1).drew
  have B1 := Lib.hid (below_step BB.out (Nat.le_refl _) hb1).drew
  obtain ⟨p0, p1, p2, p3⟩ := blk4 K1.out.k
  simp only [World.cell?_drew] at p0 p1 p2 p3
  clear hb1
  go_wp2_with fail
  go_region_held3 (fun w' => w'.cell? ⟨w.heap.size, 0, none⟩ = some (.bool b) ∧ w'.cell? ⟨w.heap.size, 1, none⟩ = some (.string m) ∧ w'.cell? ⟨w.heap.size, 2, none⟩ = some (.bool false) ∧ w'.cell? ⟨w.heap.size, 3, none⟩ = some (.string k))
    (first
      | exact ⟨r0, r1, r2, r3⟩
      | exact ⟨q0, q1, q2, q3⟩
      | exact ⟨p0, p1, p2, p3⟩
      | go_keep)
    (first
      | (go_at_call 91; (with_reducible refine (HP1.out _ (HE.out _ B1.out)).mono ?_); rintro e w3 ⟨rfl, hb3⟩; have K3 := Lib.hid (K1.out.next hb3); have B3 := Lib.hid (below_step B1.out (Nat.le_refl _) hb3); obtain ⟨q0, q1, q2, q3⟩ := blk4 K3.out.k)
      | (go_at_call 91; (with_reducible refine (HP2.out _ (HE.out _ B3.out)).mono ?_); rintro e w4 ⟨rfl, hb4⟩; have K4 := Lib.hid (K3.out.next hb4); have B4 := Lib.hid (below_step B3.out (Nat.le_refl _) hb4); obtain ⟨r0, r1, r2, r3⟩ := blk4 K4.out.k))
  go_wp2
  go_ret
  exact ⟨rfl, B4.out⟩

set_option maxHeartbeats 4000000 in
set_option maxRecDepth 100000 in
theorem ratPrint_int {q : Rat} {b : Bool} {m k : ByteArray} (h : Rq q b m k) (hd : q.den = 1) (s1 : m.size ≤ 10000) (w : World) (hE : Env w) :
    Calls Tryz.prog 54 #[.agg #[.bool b, .string m, .bool false, .string k]] w (RetB w (.string ⟨(printed b q.num.natAbs).toArray⟩)) := by
  have hm : bval m = q.num.natAbs := by rw [h.mag.2, bval_mag]
  obtain rfl := h.den1 hd
  have HE := Lib.hid (fun V (hb : Below w.heap.size w V) => hE.next hb)
  have HP1 := Lib.hid (fun V (hV : Env V) => print_any b m V (by omega) hV.ten)
  rw [hm] at HP1
  have KK := Lib.hid (Bq.new w #[.bool b, .string m, .bool false, .string ⟨#[]⟩] 25)
  have BB := Lib.hid (below_new w (.cells #[.bool b, .string m, .bool false, .string ⟨#[]⟩] 25))
  clear h hm hd hE
  generalize printed b q.num.natAbs = sn at *
  go_enter Tryz.func54, Tryz.ntmps54
  go_wp2_with fail
  refine (isInteger_yes b m _).mono ?_
  rintro e w1 ⟨rfl, hb1⟩
  have K1 := Lib.hid (KK.out.next hb1)
  have B1 := Lib.hid (below_step BB.out (Nat.le_refl _) hb1)
  obtain ⟨p0, p1, p2, p3⟩ := blk4 K1.out.k
  clear hb1
  go_wp2_with fail
  refine (HP1.out _ (HE.out _ B1.out)).mono ?_
  rintro e w3 ⟨rfl, hb3⟩
  have B3 := Lib.hid (below_step B1.out (Nat.le_refl _) hb3)
  clear hb3
  go_wp2
  go_ret
  exact ⟨rfl, B3.out⟩
end Go.Proofs.YtahehlajpaoiiaaGreatDoor
