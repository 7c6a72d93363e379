import Derived.Test.YtahehlajpaoiiaaGreatDoorGRHE

namespace Go.Proofs.YtahehlajpaoiiaaGreatDoor
open Go.RowKit
attribute [local go_sem ↓] Go.wp_at_zero Go.wp_at_succ

def candQ (p q : Rat) (d : Nat) : Nat → Rat
  | 0 => 0
  | 1 => (flQ p d : Rat)
  | 2 => (flQ p d : Rat) + 1
  | 3 => (flQ q d : Rat)
  | _ => (flQ q d : Rat) - 1
def Inv (p q : Rat) (oa ob : Bool) (d j : Nat) (fb : Bool) (β : Rat) : Prop :=
  (fb = false → ∀ i, i < j → ¬ Ins p q oa ob (candQ p q d i / ((d : Int) : Rat))) ∧
  (fb = true → Ins p q oa ob β ∧ (∃ i, β = candQ p q d i / ((d : Int) : Rat)) ∧ ∀ i, i < j → Ins p q oa ob (candQ p q d i / ((d : Int) : Rat)) → cmpQ (β * β) (candQ p q d i / ((d : Int) : Rat) * (candQ p q d i / ((d : Int) : Rat))) ≤ 0)
section
variable {p q : Rat} {oa ob : Bool} {d j : Nat} {fb : Bool} {β : Rat}
theorem Inv.start : Inv p q oa ob d 0 false 0 := ⟨fun _ i hi => absurd hi (by omega), fun h => by cases h⟩
theorem Inv.skip (h : Inv p q oa ob d j fb β) (hn : ¬ Ins p q oa ob (candQ p q d j / ((d : Int) : Rat))) : Inv p q oa ob d (j + 1) fb β := by
  refine ⟨fun e i hi => ?_, fun e => ⟨(h.2 e).1, (h.2 e).2.1, fun i hi hI => ?_⟩⟩
  · obtain h1 | rfl : i < j ∨ i = j := by omega
    · exact h.1 e i h1
    · exact hn
  · obtain h1 | rfl : i < j ∨ i = j := by omega
    · exact (h.2 e).2.2 i h1 hI
    · exact absurd hI hn
theorem Inv.first (h : Inv p q oa ob d j false β) (hI : Ins p q oa ob (candQ p q d j / ((d : Int) : Rat))) : Inv p q oa ob d (j + 1) true (candQ p q d j / ((d : Int) : Rat)) := by
  refine ⟨fun e => (by cases e), fun _ => ⟨hI, ⟨j, rfl⟩, fun i hi hi2 => ?_⟩⟩
  obtain h1 | rfl : i < j ∨ i = j := by omega
  · exact absurd hi2 (h.1 rfl i h1)
  · exact Int.le_of_eq (cmpQ_zero.2 rfl)
theorem Inv.less (h : Inv p q oa ob d j true β) (hI : Ins p q oa ob (candQ p q d j / ((d : Int) : Rat))) (hc : cmpQ (candQ p q d j / ((d : Int) : Rat) * (candQ p q d j / ((d : Int) : Rat))) (β * β) < 0) : Inv p q oa ob d (j + 1) true (candQ p q d j / ((d : Int) : Rat)) := by
  refine ⟨fun e => (by cases e), fun _ => ⟨hI, ⟨j, rfl⟩, fun i hi hi2 => ?_⟩⟩
  obtain h1 | rfl : i < j ∨ i = j := by omega
  · exact cmpQ_trans (Int.le_of_lt hc) ((h.2 rfl).2.2 i h1 hi2)
  · exact Int.le_of_eq (cmpQ_zero.2 rfl)
theorem Inv.more (h : Inv p q oa ob d j true β) (hc : ¬ cmpQ (candQ p q d j / ((d : Int) : Rat) * (candQ p q d j / ((d : Int) : Rat))) (β * β) < 0) : Inv p q oa ob d (j + 1) true β := by
  refine ⟨fun e => (by cases e), fun _ => ⟨(h.2 rfl).1, (h.2 rfl).2.1, fun i hi hi2 => ?_⟩⟩
  obtain h1 | rfl : i < j ∨ i = j := by omega
  · exact (h.2 rfl).2.2 i h1 hi2
  · rw [cmpQ_anti (candQ p q d i / ((d : Int) : Rat) * (candQ p q d i / ((d : Int) : Rat)))]
    omega
end
theorem cand_int (p q : Rat) (d i : Nat) : ∃ x : Int, candQ p q d i = (x : Rat) := by
  rcases i with _ | _ | _ | _ | i
  · exact ⟨0, rfl⟩
  · exact ⟨_, rfl⟩
  · exact ⟨flQ p d + 1, (Rat.intCast_add _ 1).symm⟩
  · exact ⟨_, rfl⟩
  · exact ⟨flQ q d - 1, (Rat.intCast_sub _ 1).symm⟩
theorem over_eq (x : Int) {d : Nat} (hd : 0 < d) : (x : Rat) / ((d : Int) : Rat) = Rat.divInt x (d : Int) := by
  rw [← divInt_1 x, ← divInt_1 (d : Int), Rat.div_def, Rat.inv_divInt, Rat.divInt_mul_divInt, Int.mul_one, Int.one_mul]
theorem cand_den (p q : Rat) {d : Nat} (hd : 0 < d) (i : Nat) : (candQ p q d i / ((d : Int) : Rat)).den ≤ d := by
  obtain ⟨x, hx⟩ := cand_int p q d i
  rw [hx, over_eq x hd]
  exact (divInt_small x hd).2
theorem inv_end {p q : Rat} {oa ob : Bool} {r : Rat} {d : Nat} {fb : Bool} {β : Rat} (hd0 : 0 < d) (hin : Ins p q oa ob r) (hmin : ∀ t, Ins p q oa ob t → r.num.natAbs ≤ t.num.natAbs ∧ r.den ≤ t.den) (h : Inv p q oa ob d 5 fb β) : (d < r.den → fb = false) ∧ (d = r.den → fb = true ∧ β = r) := by
  constructor
  · intro hlt
    cases fb
    · rfl
    · obtain ⟨h1, ⟨i, h2⟩, _⟩ := h.2 rfl
      have h3 := (hmin β h1).2
      have h4 := cand_den p q hd0 i
      rw [← h2] at h4
      omega
  · rintro rfl
    have hc : ∃ i, i < 5 ∧ candQ p q r.den i = (r.num : Rat) := by
      rcases cand_of hin hmin with e | e | e | e | e
      · exact ⟨0, by decide, by rw [e]; rfl⟩
      · exact ⟨1, by decide, by show ((flQ p r.den : Int) : Rat) = _; rw [← e]⟩
      · exact ⟨2, by decide, by show ((flQ p r.den : Int) : Rat) + 1 = _; rw [e, Rat.intCast_add]; rfl⟩
      · exact ⟨3, by decide, by show ((flQ q r.den : Int) : Rat) = _; rw [← e]⟩
      · exact ⟨4, by decide, by show ((flQ q r.den : Int) : Rat) - 1 = _; rw [e, Rat.intCast_sub]; rfl⟩
    obtain ⟨i, hi, hr⟩ := hc
    have hx : candQ p q r.den i / ((r.den : Int) : Rat) = r := by
      rw [hr, over_eq _ r.den_pos, Rat.num_divInt_den]
    cases fb
    · exact absurd (show Ins p q oa ob (candQ p q r.den i / ((r.den : Int) : Rat)) from by rw [hx]; exact hin) (h.1 rfl i hi)
    · obtain ⟨h1, ⟨i2, h2⟩, h3⟩ := h.2 rfl
      have h4 := h3 i hi (by rw [hx]; exact hin)
      rw [hx] at h4
      refine ⟨rfl, simplest_only hin hmin h1 ?_ h4⟩
      rw [h2]
      exact cand_den p q r.den_pos i2
theorem sz_m9 {n : Nat} {q : Rat} (h : Sz n q) {b : Bool} {m k : ByteArray} (hq : Rq q b m k) (hn : n ≤ 9000) : m.size ≤ 9000 ∧ (mag q.den).size ≤ 9000 := by
  refine ⟨?_, Nat.le_trans (mag_size_le h.2) hn⟩
  rw [hq.mag.2]
  exact Nat.le_trans (mag_size_le h.1) hn
theorem Sz.le {n m : Nat} {q : Rat} (h : Sz n q) (hn : n ≤ m) : Sz m q := by
  have h1 := Nat.pow_le_pow_right (show 0 < 256 by decide) hn
  exact ⟨Nat.lt_of_lt_of_le h.1 h1, Nat.lt_of_lt_of_le h.2 h1⟩
theorem cand_small {p q : Rat} (hp : Sz 8 p) (hq : Sz 8 q) {d : Nat} (hd : d ≤ 600) (i : Nat) : Sz 12 (candQ p q d i) := by
  have zd : Sz 2 ((d : Int) : Rat) := sz_whole (by rw [Int.natAbs_natCast]; omega) (by omega)
  have z1 : Sz 1 (1 : Rat) := ⟨by decide, by decide⟩
  have h1 : Sz 10 ((flQ p d : Int) : Rat) := sz_whole (Nat.lt_of_le_of_lt (Int.natAbs_ediv_le_natAbs _ _) (hp.mul zd).1) (by omega)
  have h2 : Sz 10 ((flQ q d : Int) : Rat) := sz_whole (Nat.lt_of_le_of_lt (Int.natAbs_ediv_le_natAbs _ _) (hq.mul zd).1) (by omega)
  rcases i with _ | _ | _ | _ | i
  · exact ⟨by show (0 : Nat) < _; decide, by show (1 : Nat) < _; decide⟩
  · exact h1.le (by omega)
  · exact (h1.add z1).le (by omega)
  · exact h2.le (by omega)
  · show Sz 12 (((flQ q d : Int) : Rat) - 1)
    rw [Rat.sub_eq_add_neg]
    exact (h2.add z1.minus).le (by omega)

set_option maxHeartbeats 32000000 in
set_option maxRecDepth 100000 in
theorem rSimplest_f {p q r : Rat} {ba bb br oa ob : Bool} {ma mb mr ka kb kr : ByteArray} (hp : Rq p ba ma ka) (hq : Rq q bb mb kb) (hr : Rq r br mr kr) (zp : Sz 8 p) (zq : Sz 8 q) (hin : Ins p q oa ob r) (hmin : ∀ t, Ins p q oa ob t → r.num.natAbs ≤ t.num.natAbs ∧ r.den ≤ t.den) (hden : r.den ≤ 600) (w : World) :
    Calls Tryz.prog 50 #[.agg #[.bool ba, .string ma, .bool false, .string ka], .agg #[.bool bb, .string mb, .bool false, .string kb], .agg #[.bool oa, .bool ob], .int .i64 600] w (RetB w (.tuple #[.agg #[.bool br, .string mr, .bool false, .string kr], .bool true])) := by
  have yp := zp.m hp (by omega)
  have yq := zq.m hq (by omega)
  have hY := r.den_pos
  have z1 : Sz 1 (1 : Rat) := ⟨by decide, by decide⟩
  obtain ⟨b1, m1, k1, h1⟩ := Rq.some_ (1 : Rat)
  have HOF := Lib.hid (fun V => rOf_f (x := 1) (y := 1) (by rw [divInt_1]; exact h1) (by decide) (by decide) (by decide) (by decide) (by decide) V)
  have HF := Lib.hid (show Rq p ba ma ka ∧ Rq q bb mb kb ∧ Rq r br mr kr ∧ Sz 8 p ∧ Sz 8 q ∧ Ins p q oa ob r ∧ (∀ t, Ins p q oa ob t → r.num.natAbs ≤ t.num.natAbs ∧ r.den ≤ t.den) ∧ r.den ≤ 600 ∧ Rq (1 : Rat) b1 m1 k1 from ⟨hp, hq, hr, zp, zq, hin, hmin, hden, h1⟩)
  have X := Lib.hid (((((Sb.start w).new #[.bool ba, .string ma, .bool false, .string ka] 25).new #[.bool bb, .string mb, .bool false, .string kb] 25).new #[.bool oa, .bool ob] 58).new #[.bool false, .string ⟨#[]⟩, .bool false, .string ⟨#[]⟩] 25)
  have X := Lib.hid (X.out.pick [0, 1, 2, 3] [(w.heap.size, #[.bool ba, .string ma, .bool false, .string ka], 25), (w.heap.size + 1, #[.bool bb, .string mb, .bool false, .string kb], 25), (w.heap.size + 1 + 1, #[.bool oa, .bool ob], 58), (w.heap.size + 1 + 1 + 1, #[.bool false, .string ⟨#[]⟩, .bool false, .string ⟨#[]⟩], 25)] [] (by simp) (by decide) (by simp))
  clear hp hq hr zp zq hin hmin hden yp yq z1 h1
  go_enter Tryz.func50, Tryz.ntmps50
  go_wp2
  go_loopg [10] r.den (fun k dv wr => ∃ d : Nat, dv = .int .i64 (d : Int) ∧ Hid (1 ≤ d ∧ d ≤ r.den ∧ r.den ≤ d + k) ∧ Hid (Sb w [(w.heap.size, #[.bool ba, .string ma, .bool false, .string ka], 25), (w.heap.size + 1, #[.bool bb, .string mb, .bool false, .string kb], 25), (w.heap.size + 1 + 1, #[.bool oa, .bool ob], 58), (w.heap.size + 1 + 1 + 1, #[.bool false, .string ⟨#[]⟩, .bool false, .string ⟨#[]⟩], 25)] [] wr))
  case atStart => exact ⟨1, rfl, ⟨Nat.le_refl _, hY, by omega⟩, X.out⟩
  case round =>
    clear X
    obtain ⟨d, rfl, HC, X⟩ := hrel
    have hd1 := HC.out.1
    have hd6 : d ≤ 600 := Nat.le_trans HC.out.2.1 HF.out.2.2.2.2.2.2.2.1
    have hle : ((d : Int) ≤ 600) := by omega
    have hled := decide_eq_true hle
    have HD16 := Lib.hid (And.intro hd1 hd6)
    obtain ⟨hp, hq, hr, zp, zq, hin, hmin, hden, h1⟩ := HF.out
    have z1 : Sz 1 (1 : Rat) := ⟨by decide, by decide⟩
    have yp := zp.m hp (by omega)
    have yq := zq.m hq (by omega)
    have y1 := z1.m h1 (by omega)
    have zd : Sz 2 ((d : Int) : Rat) := sz_whole (by rw [Int.natAbs_natCast]; omega) (by omega)
    obtain ⟨bd, md, kd, hdq⟩ := Rq.some_ ((d : Int) : Rat)
    have yd := zd.m hdq (by omega)
    have hd0 : ¬ ((d : Int) : Rat).num = 0 := by rw [Rat.num_intCast]; omega
    obtain ⟨bu, mu, ku, hu⟩ := Rq.some_ (p * ((d : Int) : Rat))
    obtain ⟨bv, mv, kv, hv⟩ := Rq.some_ (q * ((d : Int) : Rat))
    obtain ⟨bl, ml, hl⟩ := enc_form (flQ p d)
    obtain ⟨bh, mh, hh⟩ := enc_form (flQ q d)
    have hlq := rq_int hl
    have hhq := rq_int hh
    obtain ⟨bs, ms, ks, hs⟩ := Rq.some_ (((flQ p d : Int) : Rat) + 1)
    obtain ⟨bt, mt, kt, ht⟩ := Rq.some_ (((flQ q d : Int) : Rat) - 1)
    have zl := cand_small zp zq hd6 1
    have zh := cand_small zp zq hd6 3
    have yl := zl.m hlq (by omega)
    have yh := zh.m hhq (by omega)
    have su := sz_m9 (zp.mul zd) hu (by omega)
    have sv := sz_m9 (zq.mul zd) hv (by omega)
    have HDO := Lib.hid (fun V => rOf_f (x := (d : Int)) (y := 1) (by rw [divInt_1]; exact hdq) (by decide) (by omega) (by omega) (by decide) (by decide) V)
    have HM1 := Lib.hid (fun V => rMul_f hp hdq hu yp.1 yd.1 yp.2 yd.2 V)
    have HM2 := Lib.hid (fun V => rMul_f hq hdq hv yq.1 yd.1 yq.2 yd.2 V)
    have HF1 := Lib.hid (fun V => rFloor_f hu hl su.1 su.2 V)
    have HF2 := Lib.hid (fun V => rFloor_f hv hh sv.1 sv.2 V)
    have HAD := Lib.hid (fun V => rAdd_f hlq h1 hs yl.1 y1.1 yl.2 y1.2 V)
    have HSU := Lib.hid (fun V => rSub_f hhq h1 ht yh.1 y1.1 yh.2 y1.2 V)
    have HLT := Lib.hid (show Rq (candQ p q d 0) false ⟨#[]⟩ ⟨#[]⟩ ∧ Rq (candQ p q d 1) bl ml ⟨#[]⟩ ∧ Rq (candQ p q d 2) bs ms ks ∧ Rq (candQ p q d 3) bh mh ⟨#[]⟩ ∧ Rq (candQ p q d 4) bt mt kt from ⟨⟨enc_zero, by rw [show (candQ p q d 0).den = 1 from rfl, dm_one]⟩, hlq, hs, hhq, ht⟩)
    have HDV := Lib.hid (fun (n x : Rat) (bn bx : Bool) (mn mx kn kx : ByteArray) (hn : Rq n bn mn kn) (zn : Sz 12 n) (hx : Rq (n / ((d : Int) : Rat)) bx mx kx) V => rDiv_f hn hdq hx hd0 (zn.m hn (by omega)).1 yd.1 (zn.m hn (by omega)).2 yd.2 V)
    have HWG := Lib.hid (fun (x : Rat) (bx : Bool) (mx kx : ByteArray) (hx : Rq x bx mx kx) (zx : Sz 14 x) V => rWithin_g hx hp hq oa ob (zx.m hx (by omega)) yp yq V)
    have HCS := Lib.hid (fun i => cand_small zp zq hd6 i)
    have HZD := Lib.hid (And.intro zd hd0)
    have HEND := Lib.hid (fun (fb : Bool) (β : Rat) (h : Inv p q oa ob d 5 fb β) => inv_end hd1 hin hmin h)
    have HRR := Lib.hid hr
    clear hp hq hr zp zq hin hmin hden h1 z1 yp yq y1 zd hdq yd hd0 hu hv hl hh hlq hhq hs ht zl zh yl yh su sv hd1 hd6
    go_upto_region 4 with fail
    go_cut [11] (fun s11 wx => ∃ g11, s11 = .pointer (some ⟨g11, 0, none⟩) ∧ Sb w [(w.heap.size, #[.bool ba, .string ma, .bool false, .string ka], 25), (w.heap.size + 1, #[.bool bb, .string mb, .bool false, .string kb], 25), (w.heap.size + 1 + 1, #[.bool oa, .bool ob], 58), (w.heap.size + 1 + 1 + 1, #[.bool false, .string ⟨#[]⟩, .bool false, .string ⟨#[]⟩], 25), (g11, #[.bool bd, .string md, .bool false, .string kd], 25)] [] wx)
    case first =>
      go_wp2_with fail
      refine (HDO.out _).mono ?_
      rintro e u1 ⟨rfl, hb9⟩
      have X := Lib.hid (X.out.next hb9)
      clear hb9
      go_wp2_with fail
      have X := Lib.hid (X.out.new #[.bool bd, .string md, .bool false, .string kd] 25)
      go_meet
      exact ⟨_, rfl, X.out⟩
    obtain ⟨g11, rfl, hX⟩ := hcut
    have X := Lib.hid hX
    clear hX
    go_upto_region 5 with fail
    go_cut [12, 13] (fun s12 s13 wx => ∃ g12 g13, s12 = .pointer (some ⟨g12, 0, none⟩) ∧ s13 = .pointer (some ⟨g13, 0, none⟩) ∧ Sb w [(w.heap.size, #[.bool ba, .string ma, .bool false, .string ka], 25), (w.heap.size + 1, #[.bool bb, .string mb, .bool false, .string kb], 25), (w.heap.size + 1 + 1, #[.bool oa, .bool ob], 58), (w.heap.size + 1 + 1 + 1, #[.bool false, .string ⟨#[]⟩, .bool false, .string ⟨#[]⟩], 25), (g11, #[.bool bd, .string md, .bool false, .string kd], 25), (g12, #[.bool bl, .string ml, .bool false, .string ⟨#[]⟩], 25), (g13, #[.bool bh, .string mh, .bool false, .string ⟨#[]⟩], 25)] [] wx)
    case first =>
      clear HF HC HD16 HDO HOF HAD HSU HLT HDV HWG HCS HZD HEND HRR
      refine wp_region_any (by kernel_rfl) ?_
      have X := Lib.hid X.out.drew
      obtain ⟨W0, hV⟩ := wexi X.out
      rw [show ∀ v : World, { v with drawn := v.drawn + 1 } = v.drew from fun _ => rfl, ← hV]
      rw [← hV] at X
      clear hV
      refine rg_run (ef := [.val (.agg #[.bool ba, .string ma, .bool false, .string ka]), .val (.agg #[.bool bd, .string md, .bool false, .string kd]), .val (.agg #[.bool bu, .string mu, .bool false, .string ku]), .val (.agg #[.bool bl, .string ml, .bool false, .string ⟨#[]⟩]), .val (.agg #[.bool bb, .string mb, .bool false, .string kb]), .val (.agg #[.bool bd, .string md, .bool false, .string kd]), .val (.agg #[.bool bv, .string mv, .bool false, .string kv]), .val (.agg #[.bool bh, .string mh, .bool false, .string ⟨#[]⟩]), .new #[.bool false, .string ⟨#[]⟩, .bool false, .string ⟨#[]⟩] 25, .new #[.bool false, .string ⟨#[]⟩, .bool false, .string ⟨#[]⟩] 25]) (ds := [26, 27, 28, 29, 30, 31, 32, 33, 12, 13]) (by kernel_rfl) (stays_none (by simp)) (by decide) rfl (by intro d hd; simp at hd ⊢; omega) (fun i d o hd ho listed a w1 hR hdep K hK => ?_) 2 (fun a w1 hR => ?_)
      · have X := Lib.hid (X.out.next hR.bel)
        have HKt := Lib.hid hK
        have HDp := Lib.hid hdep
        have sl4 : a.tmps.getD 4 undef = .pointer (some ⟨w.heap.size, 0, none⟩) := hR.keep 4 (by decide)
        have sl5 : a.tmps.getD 5 undef = .pointer (some ⟨w.heap.size + 1, 0, none⟩) := hR.keep 5 (by decide)
        have sl11 : a.tmps.getD 11 undef = .pointer (some ⟨g11, 0, none⟩) := hR.keep 11 (by decide)
        have HRg := Lib.hid hR
        clear hK hdep hR
        rcases i with _ | _ | _ | _ | _ | _ | _ | _ | _ | _ | i
        · cases hd
          cases ho
          obtain ⟨x00, x01, x02, x03⟩ := X.out.c4 (i := 0) rfl
          obtain ⟨x10, x11, x12, x13⟩ := X.out.c4 (i := 1) rfl
          obtain ⟨x40, x41, x42, x43⟩ := X.out.c4 (i := 4) rfl
          go_simp
          exact HKt.out _ _ (Or.inl ⟨rfl, Below.refl _ _⟩)
        · cases hd
          cases ho
          obtain ⟨x00, x01, x02, x03⟩ := X.out.c4 (i := 0) rfl
          obtain ⟨x10, x11, x12, x13⟩ := X.out.c4 (i := 1) rfl
          obtain ⟨x40, x41, x42, x43⟩ := X.out.c4 (i := 4) rfl
          go_simp
          exact HKt.out _ _ (Or.inl ⟨rfl, Below.refl _ _⟩)
        · cases hd
          cases ho
          have dd0 : a.tmps.getD 26 undef = .agg #[.bool ba, .string ma, .bool false, .string ka] := HRg.out.val 0 _ (HDp.out 0 (by decide)) rfl
          have dd1 : a.tmps.getD 27 undef = .agg #[.bool bd, .string md, .bool false, .string kd] := HRg.out.val 1 _ (HDp.out 1 (by decide)) rfl
          go_simp
          (go_at_call 35; refine (HM1.out _).mono ?_; rintro e u ⟨rfl, hb9⟩)
          try go_wp2_with fail
          exact HKt.out _ _ (Or.inl ⟨rfl, hb9⟩)
        · cases hd
          cases ho
          have dd2 : a.tmps.getD 28 undef = .agg #[.bool bu, .string mu, .bool false, .string ku] := HRg.out.val 2 _ (HDp.out 2 (by decide)) rfl
          go_simp
          (go_at_call 48; refine (HF1.out _).mono ?_; rintro e u ⟨rfl, hb9⟩)
          try go_wp2_with fail
          exact HKt.out _ _ (Or.inl ⟨rfl, hb9⟩)
        · cases hd
          cases ho
          obtain ⟨x00, x01, x02, x03⟩ := X.out.c4 (i := 0) rfl
          obtain ⟨x10, x11, x12, x13⟩ := X.out.c4 (i := 1) rfl
          obtain ⟨x40, x41, x42, x43⟩ := X.out.c4 (i := 4) rfl
          go_simp
          exact HKt.out _ _ (Or.inl ⟨rfl, Below.refl _ _⟩)
        · cases hd
          cases ho
          obtain ⟨x00, x01, x02, x03⟩ := X.out.c4 (i := 0) rfl
          obtain ⟨x10, x11, x12, x13⟩ := X.out.c4 (i := 1) rfl
          obtain ⟨x40, x41, x42, x43⟩ := X.out.c4 (i := 4) rfl
          go_simp
          exact HKt.out _ _ (Or.inl ⟨rfl, Below.refl _ _⟩)
        · cases hd
          cases ho
          have dd3 : a.tmps.getD 29 undef = .agg #[.bool bl, .string ml, .bool false, .string ⟨#[]⟩] := HRg.out.val 3 _ (HDp.out 3 (by decide)) rfl
          have dd4 : a.tmps.getD 30 undef = .agg #[.bool bb, .string mb, .bool false, .string kb] := HRg.out.val 4 _ (HDp.out 4 (by decide)) rfl
          have dd5 : a.tmps.getD 31 undef = .agg #[.bool bd, .string md, .bool false, .string kd] := HRg.out.val 5 _ (HDp.out 5 (by decide)) rfl
          go_simp
          (go_at_call 35; refine (HM2.out _).mono ?_; rintro e u ⟨rfl, hb9⟩)
          try go_wp2_with fail
          exact HKt.out _ _ (Or.inl ⟨rfl, hb9⟩)
        · cases hd
          cases ho
          have dd6 : a.tmps.getD 32 undef = .agg #[.bool bv, .string mv, .bool false, .string kv] := HRg.out.val 6 _ (HDp.out 6 (by decide)) rfl
          go_simp
          (go_at_call 48; refine (HF2.out _).mono ?_; rintro e u ⟨rfl, hb9⟩)
          try go_wp2_with fail
          exact HKt.out _ _ (Or.inl ⟨rfl, hb9⟩)
        · cases hd
          cases ho
          go_simp
          exact HKt.out _ _ (Or.inr (Or.inl ⟨_, _, rfl, rfl, rfl⟩))
        · cases hd
          cases ho
          go_simp
          exact HKt.out _ _ (Or.inr (Or.inl ⟨_, _, rfl, rfl, rfl⟩))
        · cases hd
      obtain ⟨g8, hg8, lg8, kg8⟩ := hR.new 8 _ _ (by rfl) rfl
      obtain ⟨g9, hg9, lg9, kg9⟩ := hR.new 9 _ _ (by rfl) rfl
      have vv0 : a.tmps.getD 26 undef = .agg #[.bool ba, .string ma, .bool false, .string ka] := hR.val 0 _ (by rfl) rfl
      have vv1 : a.tmps.getD 27 undef = .agg #[.bool bd, .string md, .bool false, .string kd] := hR.val 1 _ (by rfl) rfl
      have vv2 : a.tmps.getD 28 undef = .agg #[.bool bu, .string mu, .bool false, .string ku] := hR.val 2 _ (by rfl) rfl
      have vv3 : a.tmps.getD 29 undef = .agg #[.bool bl, .string ml, .bool false, .string ⟨#[]⟩] := hR.val 3 _ (by rfl) rfl
      have vv4 : a.tmps.getD 30 undef = .agg #[.bool bb, .string mb, .bool false, .string kb] := hR.val 4 _ (by rfl) rfl
      have vv5 : a.tmps.getD 31 undef = .agg #[.bool bd, .string md, .bool false, .string kd] := hR.val 5 _ (by rfl) rfl
      have vv6 : a.tmps.getD 32 undef = .agg #[.bool bv, .string mv, .bool false, .string kv] := hR.val 6 _ (by rfl) rfl
      have vv7 : a.tmps.getD 33 undef = .agg #[.bool bh, .string mh, .bool false, .string ⟨#[]⟩] := hR.val 7 _ (by rfl) rfl
      replace hg8 : a.tmps.getD 12 undef = .pointer (some ⟨g8, 0, none⟩) := hg8
      replace hg9 : a.tmps.getD 13 undef = .pointer (some ⟨g9, 0, none⟩) := hg9
      have hne : g8 ≠ g9 := fun e => hR.ne 8 9 _ _ _ _ g8 (by decide) (by rfl) (by rfl) rfl rfl hg8 (by rw [e]; exact hg9)
      have X := Lib.hid (X.out.add2 hR.bel lg8 kg8 lg9 kg9 hne)
      have ha := hR.act
      simp only [List.foldl_cons, List.foldl_nil, seti, set0, setS, vv0, vv1, vv2, vv3, vv4, vv5, vv6, vv7, hg8, hg9] at ha
      subst ha
      clear hR vv0 vv1 vv2 vv3 vv4 vv5 vv6 vv7 hg8 lg8 kg8 hg9 lg9 kg9 hne
      refine wpAny_of_late (S := fun _ => True) (L := []) _ _ _ _ ?_
      refine wpLate_one (i := 10) (o := ⟨none, _, _, _, _, _⟩) (by kernel_rfl) rfl (fun K hK => ?_)
      obtain ⟨x0, x1, x2, x3⟩ := X.out.c4 (i := 5) rfl
      obtain ⟨y0, y1, y2, y3⟩ := X.out.f4 (i := 5) rfl
      have X := Lib.hid (X.out.set4 (i := 5) rfl (.bool bl) (.string ml) (.bool false) (.string ⟨#[]⟩))
      go_simp
      refine hK.out _ _ (Or.inr fun _ => trivial) ?_
      clear hK K x0 x1 x2 x3 y0 y1 y2 y3
      obtain ⟨W10, hV⟩ := wexi X.out
      rw [← hV] at X ⊢
      clear hV
      try simp only [Act.put]
      refine wpLate_one (i := 11) (o := ⟨none, _, _, _, _, _⟩) (by kernel_rfl) rfl (fun K hK => ?_)
      obtain ⟨x0, x1, x2, x3⟩ := X.out.c4 (i := 6) rfl
      obtain ⟨y0, y1, y2, y3⟩ := X.out.f4 (i := 6) rfl
      have X := Lib.hid (X.out.set4 (i := 6) rfl (.bool bh) (.string mh) (.bool false) (.string ⟨#[]⟩))
      go_simp
      refine hK.out _ _ (Or.inr fun _ => trivial) ?_
      clear hK K x0 x1 x2 x3 y0 y1 y2 y3
      obtain ⟨W11, hV⟩ := wexi X.out
      rw [← hV] at X ⊢
      clear hV
      try simp only [Act.put]
      refine wpLate_done (by kernel_rfl) ?_ _
      go_wp2_with fail
      go_meet
      exact ⟨_, _, rfl, rfl, X.out.pick [0, 1, 2, 3, 4, 5, 6] _ [] rfl (by decide) (by simp)⟩
    obtain ⟨g12, g13, rfl, rfl, hX⟩ := hcut
    have X := Lib.hid hX
    clear hX
    go_upto_region 6 with fail
    go_cut [14] (fun s14 wx => ∃ g14, s14 = .pointer (some ⟨g14, 0, none⟩) ∧ Sb w [(w.heap.size, #[.bool ba, .string ma, .bool false, .string ka], 25), (w.heap.size + 1, #[.bool bb, .string mb, .bool false, .string kb], 25), (w.heap.size + 1 + 1, #[.bool oa, .bool ob], 58), (w.heap.size + 1 + 1 + 1, #[.bool false, .string ⟨#[]⟩, .bool false, .string ⟨#[]⟩], 25), (g11, #[.bool bd, .string md, .bool false, .string kd], 25), (g12, #[.bool bl, .string ml, .bool false, .string ⟨#[]⟩], 25), (g13, #[.bool bh, .string mh, .bool false, .string ⟨#[]⟩], 25), (g14, #[.bool false, .string ⟨#[]⟩, .bool false, .string ⟨#[]⟩], 25)] [] wx)
    case first =>
      go_wp2_with fail
      have X := Lib.hid (X.out.new #[.bool false, .string ⟨#[]⟩, .bool false, .string ⟨#[]⟩] 25)
      go_meet
      exact ⟨_, rfl, X.out⟩
    obtain ⟨g14, rfl, hX⟩ := hcut
    have X := Lib.hid hX
    clear hX
    go_upto_region 8 with fail
    go_cut [43, 44, 45] (fun s43 s44 s45 wx => ∃ gL, s43 = .slice (some ⟨gL, 0, none⟩) 5 5 ∧ s44 = .int .i64 5 ∧ s45 = .int .i64 0 ∧ Sb w [(w.heap.size, #[.bool ba, .string ma, .bool false, .string ka], 25), (w.heap.size + 1, #[.bool bb, .string mb, .bool false, .string kb], 25), (w.heap.size + 1 + 1, #[.bool oa, .bool ob], 58), (w.heap.size + 1 + 1 + 1, #[.bool false, .string ⟨#[]⟩, .bool false, .string ⟨#[]⟩], 25), (g11, #[.bool bd, .string md, .bool false, .string kd], 25), (g14, #[.bool false, .string ⟨#[]⟩, .bool false, .string ⟨#[]⟩], 25), (gL, #[.bool false, .string ⟨#[]⟩, .bool false, .string ⟨#[]⟩, .bool bl, .string ml, .bool false, .string ⟨#[]⟩, .bool bs, .string ms, .bool false, .string ks, .bool bh, .string mh, .bool false, .string ⟨#[]⟩, .bool bt, .string mt, .bool false, .string kt], 25)] [] wx)
    case first =>
      clear HF HC HD16 HDO HM1 HM2 HF1 HF2 HLT HDV HWG HCS HZD HEND HRR
      refine wp_region_late (S := fun w' => (w'.cell? ⟨g12, 0, none⟩ = some (.bool bl) ∧ w'.cell? ⟨g12, 1, none⟩ = some (.string ml) ∧ w'.cell? ⟨g12, 2, none⟩ = some (.bool false) ∧ w'.cell? ⟨g12, 3, none⟩ = some (.string ⟨#[]⟩)) ∧ (w'.cell? ⟨g13, 0, none⟩ = some (.bool bh) ∧ w'.cell? ⟨g13, 1, none⟩ = some (.string mh) ∧ w'.cell? ⟨g13, 2, none⟩ = some (.bool false) ∧ w'.cell? ⟨g13, 3, none⟩ = some (.string ⟨#[]⟩))) (L := []) (by kernel_rfl) ?_
      have X := Lib.hid X.out.drew
      obtain ⟨V0, hV⟩ := wexi X.out
      rw [← hV] at X ⊢
      clear hV
      refine tk (i := 0) (oi := ⟨some 34, _, _, _, _, _⟩) (v := _) rfl (by kernel_rfl) (fun _ _ _ h => h) (⟨X.out.c4 (i := 5) rfl, X.out.c4 (i := 6) rfl⟩) (Or.inl ⟨by rfl, by intro w hSw; (try dsimp only at hSw); (first | (go_simp; done) | (go_simp; with_reducible rfl))⟩) ?_
      try simp only [Act.put, seti, set0, setS]
      refine tk (i := 1) (oi := ⟨some 35, _, _, _, _, _⟩) (v := _) rfl (by kernel_rfl) (fun _ _ _ h => h) (⟨X.out.c4 (i := 5) rfl, X.out.c4 (i := 6) rfl⟩) (Or.inl ⟨by rfl, by intro w hSw; (try dsimp only at hSw); (first | (go_simp; done) | (go_simp; with_reducible rfl))⟩) ?_
      try simp only [Act.put, seti, set0, setS]
      refine tk (i := 2) (oi := ⟨some 36, _, _, _, _, _⟩) (v := _) rfl (by kernel_rfl) (fun _ _ _ h => h) (⟨X.out.c4 (i := 5) rfl, X.out.c4 (i := 6) rfl⟩) (Or.inl ⟨by rfl, by intro w hSw; (try dsimp only at hSw); (first | (go_simp; done) | (go_simp; with_reducible rfl))⟩) ?_
      try simp only [Act.put, seti, set0, setS]
      refine tk (i := 5) (oi := ⟨some 39, _, _, _, _, _⟩) (v := _) rfl (by kernel_rfl) (fun _ _ _ h => h) (⟨X.out.c4 (i := 5) rfl, X.out.c4 (i := 6) rfl⟩) (Or.inl ⟨by rfl, by intro w hSw; (try dsimp only at hSw); (first | (go_simp; done) | (go_simp; with_reducible rfl))⟩) ?_
      try simp only [Act.put, seti, set0, setS]
      refine tk (i := 6) (oi := ⟨some 40, _, _, _, _, _⟩) (v := _) rfl (by kernel_rfl) (fun _ _ _ h => h) (⟨X.out.c4 (i := 5) rfl, X.out.c4 (i := 6) rfl⟩) (Or.inl ⟨by rfl, by intro w hSw; (try dsimp only at hSw); (first | (go_simp; done) | (go_simp; with_reducible rfl))⟩) ?_
      try simp only [Act.put, seti, set0, setS]
      refine tk (i := 11) (oi := ⟨some 45, _, _, _, _, _⟩) (v := _) rfl (by kernel_rfl) (fun _ _ _ h => h) (⟨X.out.c4 (i := 5) rfl, X.out.c4 (i := 6) rfl⟩) (Or.inl ⟨by rfl, by intro w hSw; (try dsimp only at hSw); (first | (go_simp; done) | (go_simp; with_reducible rfl))⟩) ?_
      try simp only [Act.put, seti, set0, setS]
      refine wpLate_one (i := 3) (o := ⟨some 37, _, _, _, _, _⟩) (by kernel_rfl) rfl (fun K hK => ?_)
      go_simp
      (go_at_call 23; refine (HOF.out _).mono ?_; rintro e u1 ⟨rfl, hb9⟩; have X := Lib.hid (X.out.next hb9); clear hb9)
      try go_wp2_with fail
      refine hK.out _ _ (Or.inr (fun _ => ⟨X.out.c4 (i := 5) rfl, X.out.c4 (i := 6) rfl⟩)) ?_
      clear hK K
      try simp only [Act.put, seti, set0, setS]
      refine wpLate_one (i := 4) (o := ⟨some 38, _, _, _, _, _⟩) (by kernel_rfl) rfl (fun K hK => ?_)
      go_simp
      (go_at_call 30; refine (HAD.out _).mono ?_; rintro e u2 ⟨rfl, hb9⟩; have X := Lib.hid (X.out.next hb9); clear hb9)
      try go_wp2_with fail
      refine hK.out _ _ (Or.inr (fun _ => ⟨X.out.c4 (i := 5) rfl, X.out.c4 (i := 6) rfl⟩)) ?_
      clear hK K
      try simp only [Act.put, seti, set0, setS]
      refine wpLate_one (i := 7) (o := ⟨some 41, _, _, _, _, _⟩) (by kernel_rfl) rfl (fun K hK => ?_)
      go_simp
      (go_at_call 23; refine (HOF.out _).mono ?_; rintro e u3 ⟨rfl, hb9⟩; have X := Lib.hid (X.out.next hb9); clear hb9)
      try go_wp2_with fail
      refine hK.out _ _ (Or.inr (fun _ => ⟨X.out.c4 (i := 5) rfl, X.out.c4 (i := 6) rfl⟩)) ?_
      clear hK K
      try simp only [Act.put, seti, set0, setS]
      refine wpLate_one (i := 8) (o := ⟨some 42, _, _, _, _, _⟩) (by kernel_rfl) rfl (fun K hK => ?_)
      go_simp
      (go_at_call 31; refine (HSU.out _).mono ?_; rintro e u4 ⟨rfl, hb9⟩; have X := Lib.hid (X.out.next hb9); clear hb9)
      try go_wp2_with fail
      refine hK.out _ _ (Or.inr (fun _ => ⟨X.out.c4 (i := 5) rfl, X.out.c4 (i := 6) rfl⟩)) ?_
      clear hK K
      try simp only [Act.put, seti, set0, setS]
      refine wpLate_one (i := 9) (o := ⟨some 43, _, _, _, _, _⟩) (by kernel_rfl) rfl (fun K hK => ?_)
      go_simp
      have X := Lib.hid (X.out.new #[.bool false, .string ⟨#[]⟩, .bool false, .string ⟨#[]⟩, .bool bl, .string ml, .bool false, .string ⟨#[]⟩, .bool bs, .string ms, .bool false, .string ks, .bool bh, .string mh, .bool false, .string ⟨#[]⟩, .bool bt, .string mt, .bool false, .string kt] 25)
      refine hK.out _ _ (Or.inr (fun _ => ⟨X.out.c4 (i := 5) rfl, X.out.c4 (i := 6) rfl⟩)) ?_
      clear hK K
      try simp only [Act.put, seti, set0, setS]
      obtain ⟨V5, hV⟩ := wexi X.out
      rw [← hV] at X ⊢
      clear hV
      refine tk (i := 10) (oi := ⟨some 44, _, _, _, _, _⟩) (v := _) rfl (by kernel_rfl) (fun _ _ _ h => h) (⟨X.out.c4 (i := 5) rfl, X.out.c4 (i := 6) rfl⟩) (Or.inl ⟨by rfl, by intro w hSw; (try dsimp only at hSw); (first | (go_simp; done) | (go_simp; with_reducible rfl))⟩) ?_
      try simp only [Act.put, seti, set0, setS]
      refine wpLate_done (by kernel_rfl) ?_ _
      go_wp2_with fail
      go_meet
      exact ⟨_, rfl, rfl, rfl, X.out.pick [0, 1, 2, 3, 4, 7, 8] _ [] rfl (by decide) (by simp)⟩
    obtain ⟨gL, rfl, rfl, rfl, hX⟩ := hcut
    have X := Lib.hid hX
    clear hX HM1 HM2 HF1 HF2 HAD HSU HDO
    go_wp2
    go_loopg [15, 45] 5 (fun k fv iv wr => ∃ (j : Nat) (fb : Bool) (β : Rat) (bo : Bool) (mo ko : ByteArray), fv = .bool fb ∧ iv = .int .i64 (j : Int) ∧ Hid (j ≤ 5 ∧ 5 ≤ j + k ∧ Inv p q oa ob d j fb β ∧ Rq β bo mo ko ∧ Sz 14 β) ∧ Hid (Sb w [(w.heap.size, #[.bool ba, .string ma, .bool false, .string ka], 25), (w.heap.size + 1, #[.bool bb, .string mb, .bool false, .string kb], 25), (w.heap.size + 1 + 1, #[.bool oa, .bool ob], 58), (w.heap.size + 1 + 1 + 1, #[.bool false, .string ⟨#[]⟩, .bool false, .string ⟨#[]⟩], 25), (g11, #[.bool bd, .string md, .bool false, .string kd], 25), (g14, #[.bool bo, .string mo, .bool false, .string ko], 25), (gL, #[.bool false, .string ⟨#[]⟩, .bool false, .string ⟨#[]⟩, .bool bl, .string ml, .bool false, .string ⟨#[]⟩, .bool bs, .string ms, .bool false, .string ks, .bool bh, .string mh, .bool false, .string ⟨#[]⟩, .bool bt, .string mt, .bool false, .string kt], 25)] [] wr))
    case atStart => exact ⟨0, false, 0, _, _, _, rfl, rfl, ⟨by omega, by omega, Inv.start, ⟨enc_zero, by rw [show (0 : Rat).den = 1 from rfl, dm_one]⟩, ⟨by decide, by decide⟩⟩, X.out⟩
    case round =>
      clear X
      obtain ⟨j, fb, β, bo, mo, ko, rfl, rfl, HJ, X⟩ := hrel
      by_cases hj5 : j + 1 ≤ 5
      · have hjl : (j : Int) < 5 := by omega
        have hjd := decide_eq_true hjl
        go_upto_region 10 with fail
        go_cut [17] (fun s17 wx => ∃ g17 bn mn kn, s17 = .pointer (some ⟨g17, 0, none⟩) ∧ Rq (candQ p q d j) bn mn kn ∧ Sb w [(w.heap.size, #[.bool ba, .string ma, .bool false, .string ka], 25), (w.heap.size + 1, #[.bool bb, .string mb, .bool false, .string kb], 25), (w.heap.size + 1 + 1, #[.bool oa, .bool ob], 58), (w.heap.size + 1 + 1 + 1, #[.bool false, .string ⟨#[]⟩, .bool false, .string ⟨#[]⟩], 25), (g11, #[.bool bd, .string md, .bool false, .string kd], 25), (g14, #[.bool bo, .string mo, .bool false, .string ko], 25), (gL, #[.bool false, .string ⟨#[]⟩, .bool false, .string ⟨#[]⟩, .bool bl, .string ml, .bool false, .string ⟨#[]⟩, .bool bs, .string ms, .bool false, .string ks, .bool bh, .string mh, .bool false, .string ⟨#[]⟩, .bool bt, .string mt, .bool false, .string kt], 25), (g17, #[.bool bn, .string mn, .bool false, .string kn], 25)] [] wx)
        case first =>
          clear HF HC HD16 HDV HWG HCS HZD HEND HRR HJ
          obtain rfl | rfl | rfl | rfl | rfl : j = 0 ∨ j = 1 ∨ j = 2 ∨ j = 3 ∨ j = 4 := by omega
          · have hLS := X.out.at (i := 6) rfl
            have z0 : wr.cell? ⟨gL, 0, none⟩ = some (.bool false) := by simp [World.cell?, hLS]
            have z1 : wr.cell? ⟨gL, 1, none⟩ = some (.string ⟨#[]⟩) := by simp [World.cell?, hLS]
            have z2 : wr.cell? ⟨gL, 2, none⟩ = some (.bool false) := by simp [World.cell?, hLS]
            have z3 : wr.cell? ⟨gL, 3, none⟩ = some (.string ⟨#[]⟩) := by simp [World.cell?, hLS]
            clear hLS
            go_wp2_with fail
            have X := Lib.hid (X.out.new #[.bool false, .string ⟨#[]⟩, .bool false, .string ⟨#[]⟩] 25)
            go_meet
            exact ⟨_, _, _, _, rfl, HLT.out.1, X.out⟩
          · have hLS := X.out.at (i := 6) rfl
            have z0 : wr.cell? ⟨gL, 4, none⟩ = some (.bool bl) := by simp [World.cell?, hLS]
            have z1 : wr.cell? ⟨gL, 5, none⟩ = some (.string ml) := by simp [World.cell?, hLS]
            have z2 : wr.cell? ⟨gL, 6, none⟩ = some (.bool false) := by simp [World.cell?, hLS]
            have z3 : wr.cell? ⟨gL, 7, none⟩ = some (.string ⟨#[]⟩) := by simp [World.cell?, hLS]
            clear hLS
            go_wp2_with fail
            have X := Lib.hid (X.out.new #[.bool bl, .string ml, .bool false, .string ⟨#[]⟩] 25)
            go_meet
            exact ⟨_, _, _, _, rfl, HLT.out.2.1, X.out⟩
          · have hLS := X.out.at (i := 6) rfl
            have z0 : wr.cell? ⟨gL, 8, none⟩ = some (.bool bs) := by simp [World.cell?, hLS]
            have z1 : wr.cell? ⟨gL, 9, none⟩ = some (.string ms) := by simp [World.cell?, hLS]
            have z2 : wr.cell? ⟨gL, 10, none⟩ = some (.bool false) := by simp [World.cell?, hLS]
            have z3 : wr.cell? ⟨gL, 11, none⟩ = some (.string ks) := by simp [World.cell?, hLS]
            clear hLS
            go_wp2_with fail
            have X := Lib.hid (X.out.new #[.bool bs, .string ms, .bool false, .string ks] 25)
            go_meet
            exact ⟨_, _, _, _, rfl, HLT.out.2.2.1, X.out⟩
          · have hLS := X.out.at (i := 6) rfl
            have z0 : wr.cell? ⟨gL, 12, none⟩ = some (.bool bh) := by simp [World.cell?, hLS]
            have z1 : wr.cell? ⟨gL, 13, none⟩ = some (.string mh) := by simp [World.cell?, hLS]
            have z2 : wr.cell? ⟨gL, 14, none⟩ = some (.bool false) := by simp [World.cell?, hLS]
            have z3 : wr.cell? ⟨gL, 15, none⟩ = some (.string ⟨#[]⟩) := by simp [World.cell?, hLS]
            clear hLS
            go_wp2_with fail
            have X := Lib.hid (X.out.new #[.bool bh, .string mh, .bool false, .string ⟨#[]⟩] 25)
            go_meet
            exact ⟨_, _, _, _, rfl, HLT.out.2.2.2.1, X.out⟩
          · have hLS := X.out.at (i := 6) rfl
            have z0 : wr.cell? ⟨gL, 16, none⟩ = some (.bool bt) := by simp [World.cell?, hLS]
            have z1 : wr.cell? ⟨gL, 17, none⟩ = some (.string mt) := by simp [World.cell?, hLS]
            have z2 : wr.cell? ⟨gL, 18, none⟩ = some (.bool false) := by simp [World.cell?, hLS]
            have z3 : wr.cell? ⟨gL, 19, none⟩ = some (.string kt) := by simp [World.cell?, hLS]
            clear hLS
            go_wp2_with fail
            have X := Lib.hid (X.out.new #[.bool bt, .string mt, .bool false, .string kt] 25)
            go_meet
            exact ⟨_, _, _, _, rfl, HLT.out.2.2.2.2, X.out⟩
        obtain ⟨g17, bn, mn, kn, rfl, hn, hX⟩ := hcut
        have X := Lib.hid hX
        have HN := Lib.hid hn
        obtain ⟨bx, mx, kx, hx⟩ := Rq.some_ (candQ p q d j / ((d : Int) : Rat))
        have HX := Lib.hid hx
        have zx : Sz 14 (candQ p q d j / ((d : Int) : Rat)) := (HCS.out j).quo HZD.out.1 HZD.out.2
        have HZX := Lib.hid zx
        have HDJ := Lib.hid (fun V => HDV.out _ 0 bn bx mn mx kn kx hn (HCS.out j) hx V)
        have hwg := fun V => HWG.out _ bx mx kx hx zx V
        obtain ⟨i, hi⟩ : ∃ i, i = insB (cmpQ p (candQ p q d j / ((d : Int) : Rat))) (cmpQ (candQ p q d j / ((d : Int) : Rat)) q) oa ob := ⟨_, rfl⟩
        rw [← hi] at hwg
        have HWJ := Lib.hid hwg
        have hI : i = true ↔ Ins p q oa ob (candQ p q d j / ((d : Int) : Rat)) := by rw [hi]; exact insB_iff
        have HI := Lib.hid hI
        clear hX hn hx zx hwg hi hI
        go_upto_region 11 with fail
        go_cut [18] (fun s18 wx => ∃ g18, s18 = .pointer (some ⟨g18, 0, none⟩) ∧ Sb w [(w.heap.size, #[.bool ba, .string ma, .bool false, .string ka], 25), (w.heap.size + 1, #[.bool bb, .string mb, .bool false, .string kb], 25), (w.heap.size + 1 + 1, #[.bool oa, .bool ob], 58), (w.heap.size + 1 + 1 + 1, #[.bool false, .string ⟨#[]⟩, .bool false, .string ⟨#[]⟩], 25), (g11, #[.bool bd, .string md, .bool false, .string kd], 25), (g14, #[.bool bo, .string mo, .bool false, .string ko], 25), (gL, #[.bool false, .string ⟨#[]⟩, .bool false, .string ⟨#[]⟩, .bool bl, .string ml, .bool false, .string ⟨#[]⟩, .bool bs, .string ms, .bool false, .string ks, .bool bh, .string mh, .bool false, .string ⟨#[]⟩, .bool bt, .string mt, .bool false, .string kt], 25), (g18, #[.bool bx, .string mx, .bool false, .string kx], 25)] [] wx)
        case first =>
          obtain ⟨a0, a1, a2, a3⟩ := X.out.c4 (i := 7) rfl
          obtain ⟨c0, c1, c2, c3⟩ := X.out.c4 (i := 4) rfl
          go_wp2_with fail
          refine (HDJ.out _).mono ?_
          rintro e u1 ⟨rfl, hb9⟩
          have X := Lib.hid (X.out.next hb9)
          clear hb9
          clear a0 a1 a2 a3 c0 c1 c2 c3
          go_wp2_with fail
          have X := Lib.hid (X.out.new #[.bool bx, .string mx, .bool false, .string kx] 25)
          go_meet
          exact ⟨_, rfl, X.out.pick [0, 1, 2, 3, 4, 5, 6, 8] _ [] rfl (by decide) (by simp)⟩
        obtain ⟨g18, rfl, hX⟩ := hcut
        have X := Lib.hid hX
        clear hX
        obtain ⟨a0, a1, a2, a3⟩ := X.out.c4 (i := 0) rfl
        obtain ⟨c0, c1, c2, c3⟩ := X.out.c4 (i := 1) rfl
        obtain ⟨e0, e1⟩ := X.out.c2 (i := 2) rfl
        obtain ⟨x0, x1, x2, x3⟩ := X.out.c4 (i := 7) rfl
        go_wp2_with fail
        refine (HWJ.out _).mono ?_
        rintro e u2 ⟨rfl, hb9⟩
        have X := Lib.hid (X.out.next hb9)
        clear hb9
        clear a0 a1 a2 a3 c0 c1 c2 c3 x0 x1 x2 x3
        clear e0 e1
        cases i
        case' false =>
          have hno : ¬ Ins p q oa ob (candQ p q d j / ((d : Int) : Rat)) := fun h => by have := HI.out.2 h; first | cases this | exact this
          go_wp2
          go_roundg (5 - (j + 1))
          case measure => have := HJ.out.2.1; omega
          case rel => exact ⟨j + 1, fb, β, _, _, _, rfl, rfl, ⟨hj5, by omega, HJ.out.2.2.1.skip hno, HJ.out.2.2.2.1, HJ.out.2.2.2.2⟩, X.out.pick [0, 1, 2, 3, 4, 5, 6] _ [] rfl (by decide) (by simp)⟩
        have hyes : Ins p q oa ob (candQ p q d j / ((d : Int) : Rat)) := HI.out.1 (by first | rfl | trivial)
        have HY := Lib.hid hyes
        clear hyes
        cases fb
        case' false =>
          go_upto_region 13 with fail
          go_cut [72] (fun s72 wx => s72 = .bool true ∧ Sb w [(w.heap.size, #[.bool ba, .string ma, .bool false, .string ka], 25), (w.heap.size + 1, #[.bool bb, .string mb, .bool false, .string kb], 25), (w.heap.size + 1 + 1, #[.bool oa, .bool ob], 58), (w.heap.size + 1 + 1 + 1, #[.bool false, .string ⟨#[]⟩, .bool false, .string ⟨#[]⟩], 25), (g11, #[.bool bd, .string md, .bool false, .string kd], 25), (g14, #[.bool bo, .string mo, .bool false, .string ko], 25), (gL, #[.bool false, .string ⟨#[]⟩, .bool false, .string ⟨#[]⟩, .bool bl, .string ml, .bool false, .string ⟨#[]⟩, .bool bs, .string ms, .bool false, .string ks, .bool bh, .string mh, .bool false, .string ⟨#[]⟩, .bool bt, .string mt, .bool false, .string kt], 25), (g18, #[.bool bx, .string mx, .bool false, .string kx], 25)] [] wx)
          case first =>
            refine wp_region_late (S := fun w' => (w'.cell? ⟨g14, 0, none⟩ = some (.bool bo) ∧ w'.cell? ⟨g14, 1, none⟩ = some (.string mo) ∧ w'.cell? ⟨g14, 2, none⟩ = some (.bool false) ∧ w'.cell? ⟨g14, 3, none⟩ = some (.string ko)) ∧ (w'.cell? ⟨g18, 0, none⟩ = some (.bool bx) ∧ w'.cell? ⟨g18, 1, none⟩ = some (.string mx) ∧ w'.cell? ⟨g18, 2, none⟩ = some (.bool false) ∧ w'.cell? ⟨g18, 3, none⟩ = some (.string kx))) (L := []) (by kernel_rfl) ?_
            have X := Lib.hid X.out.drew
            obtain ⟨V0, hV⟩ := wexi X.out
            rw [← hV] at X ⊢
            clear hV
            refine tk (i := 0) (oi := ⟨some 61, _, _, _, _, _⟩) (v := _) rfl (by kernel_rfl) (fun _ _ _ h => h) (⟨X.out.c4 (i := 5) rfl, X.out.c4 (i := 7) rfl⟩) (Or.inl ⟨by rfl, by intro w hSw; (try dsimp only at hSw); (first | (go_simp; done) | (go_simp; with_reducible rfl))⟩) ?_
            try simp only [Act.put, seti, set0, setS]
            refine tk (i := 1) (oi := ⟨some 62, _, _, _, _, _⟩) (v := _) rfl (by kernel_rfl) (fun _ _ _ h => h) (⟨X.out.c4 (i := 5) rfl, X.out.c4 (i := 7) rfl⟩) (Or.inl ⟨by rfl, by intro w hSw; (try dsimp only at hSw); (first | (go_simp; done) | (go_simp; with_reducible rfl))⟩) ?_
            try simp only [Act.put, seti, set0, setS]
            refine tk (i := 2) (oi := ⟨some 63, _, _, _, _, _⟩) (v := _) rfl (by kernel_rfl) (fun _ _ _ h => h) (⟨X.out.c4 (i := 5) rfl, X.out.c4 (i := 7) rfl⟩) (Or.inl ⟨by rfl, by intro w hSw; (try dsimp only at hSw); (first | (go_simp; done) | (go_simp; with_reducible rfl))⟩) ?_
            try simp only [Act.put, seti, set0, setS]
            refine tk (i := 3) (oi := ⟨some 64, _, _, _, _, _⟩) (v := undef) rfl (by kernel_rfl) (fun _ _ _ h => h) (⟨X.out.c4 (i := 5) rfl, X.out.c4 (i := 7) rfl⟩) (Or.inr ⟨by rfl, rfl⟩) ?_
            try simp only [Act.put, seti, set0, setS]
            refine tk (i := 4) (oi := ⟨some 65, _, _, _, _, _⟩) (v := undef) rfl (by kernel_rfl) (fun _ _ _ h => h) (⟨X.out.c4 (i := 5) rfl, X.out.c4 (i := 7) rfl⟩) (Or.inr ⟨by rfl, rfl⟩) ?_
            try simp only [Act.put, seti, set0, setS]
            refine tk (i := 5) (oi := ⟨some 66, _, _, _, _, _⟩) (v := undef) rfl (by kernel_rfl) (fun _ _ _ h => h) (⟨X.out.c4 (i := 5) rfl, X.out.c4 (i := 7) rfl⟩) (Or.inr ⟨by rfl, rfl⟩) ?_
            try simp only [Act.put, seti, set0, setS]
            refine tk (i := 6) (oi := ⟨some 67, _, _, _, _, _⟩) (v := undef) rfl (by kernel_rfl) (fun _ _ _ h => h) (⟨X.out.c4 (i := 5) rfl, X.out.c4 (i := 7) rfl⟩) (Or.inr ⟨by rfl, rfl⟩) ?_
            try simp only [Act.put, seti, set0, setS]
            refine tk (i := 7) (oi := ⟨some 68, _, _, _, _, _⟩) (v := undef) rfl (by kernel_rfl) (fun _ _ _ h => h) (⟨X.out.c4 (i := 5) rfl, X.out.c4 (i := 7) rfl⟩) (Or.inr ⟨by rfl, rfl⟩) ?_
            try simp only [Act.put, seti, set0, setS]
            refine tk (i := 8) (oi := ⟨some 69, _, _, _, _, _⟩) (v := undef) rfl (by kernel_rfl) (fun _ _ _ h => h) (⟨X.out.c4 (i := 5) rfl, X.out.c4 (i := 7) rfl⟩) (Or.inr ⟨by rfl, rfl⟩) ?_
            try simp only [Act.put, seti, set0, setS]
            refine tk (i := 9) (oi := ⟨some 70, _, _, _, _, _⟩) (v := undef) rfl (by kernel_rfl) (fun _ _ _ h => h) (⟨X.out.c4 (i := 5) rfl, X.out.c4 (i := 7) rfl⟩) (Or.inr ⟨by rfl, rfl⟩) ?_
            try simp only [Act.put, seti, set0, setS]
            refine tk (i := 10) (oi := ⟨some 71, _, _, _, _, _⟩) (v := undef) rfl (by kernel_rfl) (fun _ _ _ h => h) (⟨X.out.c4 (i := 5) rfl, X.out.c4 (i := 7) rfl⟩) (Or.inr ⟨by rfl, rfl⟩) ?_
            try simp only [Act.put, seti, set0, setS]
            refine tk (i := 11) (oi := ⟨some 72, _, _, _, _, _⟩) (v := _) rfl (by kernel_rfl) (fun _ _ _ h => h) (⟨X.out.c4 (i := 5) rfl, X.out.c4 (i := 7) rfl⟩) (Or.inl ⟨by rfl, by intro w hSw; (try dsimp only at hSw); (first | (go_simp; done) | (go_simp; with_reducible rfl))⟩) ?_
            try simp only [Act.put, seti, set0, setS]
            refine wpLate_done (by kernel_rfl) ?_ _
            go_wp2_with fail
            go_meet
            exact ⟨rfl, X.out⟩
          obtain ⟨rfl, hX⟩ := hcut
          have X := Lib.hid hX
          clear hX
          obtain ⟨x0, x1, x2, x3⟩ := X.out.c4 (i := 7) rfl
          obtain ⟨z0, z1, z2, z3⟩ := X.out.c4 (i := 5) rfl
          obtain ⟨y0, y1, y2, y3⟩ := X.out.f4 (i := 5) rfl
          go_wp2_with fail
          have X := Lib.hid (X.out.set4 (i := 5) rfl (.bool bx) (.string mx) (.bool false) (.string kx))
          go_roundg (5 - (j + 1))
          case measure => have := HJ.out.2.1; omega
          case rel => exact ⟨j + 1, true, _, _, _, _, rfl, rfl, ⟨hj5, by omega, HJ.out.2.2.1.first HY.out, HX.out, HZX.out⟩, X.out.pick [0, 1, 2, 3, 4, 5, 6] _ [] rfl (by decide) (by simp)⟩
        obtain ⟨bp, mp, kp, hp⟩ := Rq.some_ ((candQ p q d j / ((d : Int) : Rat)) * (candQ p q d j / ((d : Int) : Rat)))
        obtain ⟨bw, mw, kw, hw⟩ := Rq.some_ (β * β)
        have yx := HZX.out.m HX.out (by omega)
        have yo := HJ.out.2.2.2.2.m HJ.out.2.2.2.1 (by omega)
        have yp := (HZX.out.mul HZX.out).m hp (by omega)
        have yw := (HJ.out.2.2.2.2.mul HJ.out.2.2.2.2).m hw (by omega)
        have HMX := Lib.hid (fun V => rMul_f HX.out HX.out hp yx.1 yx.1 yx.2 yx.2 V)
        have HMO := Lib.hid (fun V => rMul_f HJ.out.2.2.2.1 HJ.out.2.2.2.1 hw yo.1 yo.1 yo.2 yo.2 V)
        have hcc := fun V => rCompare_f hp hw yp.1 yw.1 yp.2 yw.2 V
        have hle2 := fun (h : cmpQ ((candQ p q d j / ((d : Int) : Rat)) * (candQ p q d j / ((d : Int) : Rat))) (β * β) < 0) => HJ.out.2.2.1.less HY.out h
        have hmo2 := fun (h : ¬ cmpQ ((candQ p q d j / ((d : Int) : Rat)) * (candQ p q d j / ((d : Int) : Rat))) (β * β) < 0) => HJ.out.2.2.1.more h
        generalize cmpQ ((candQ p q d j / ((d : Int) : Rat)) * (candQ p q d j / ((d : Int) : Rat))) (β * β) = cc at *
        have HCC := Lib.hid hcc
        have HLE2 := Lib.hid hle2
        have HMO2 := Lib.hid hmo2
        clear hp hw yx yo yp yw hcc hle2 hmo2
        go_upto_region 13 with fail
        go_cut [72] (fun s72 wx => s72 = .bool (decide (cc < 0)) ∧ Sb w [(w.heap.size, #[.bool ba, .string ma, .bool false, .string ka], 25), (w.heap.size + 1, #[.bool bb, .string mb, .bool false, .string kb], 25), (w.heap.size + 1 + 1, #[.bool oa, .bool ob], 58), (w.heap.size + 1 + 1 + 1, #[.bool false, .string ⟨#[]⟩, .bool false, .string ⟨#[]⟩], 25), (g11, #[.bool bd, .string md, .bool false, .string kd], 25), (g14, #[.bool bo, .string mo, .bool false, .string ko], 25), (gL, #[.bool false, .string ⟨#[]⟩, .bool false, .string ⟨#[]⟩, .bool bl, .string ml, .bool false, .string ⟨#[]⟩, .bool bs, .string ms, .bool false, .string ks, .bool bh, .string mh, .bool false, .string ⟨#[]⟩, .bool bt, .string mt, .bool false, .string kt], 25), (g18, #[.bool bx, .string mx, .bool false, .string kx], 25)] [] wx)
        case first =>
          refine wp_region_late (S := fun w' => (w'.cell? ⟨g14, 0, none⟩ = some (.bool bo) ∧ w'.cell? ⟨g14, 1, none⟩ = some (.string mo) ∧ w'.cell? ⟨g14, 2, none⟩ = some (.bool false) ∧ w'.cell? ⟨g14, 3, none⟩ = some (.string ko)) ∧ (w'.cell? ⟨g18, 0, none⟩ = some (.bool bx) ∧ w'.cell? ⟨g18, 1, none⟩ = some (.string mx) ∧ w'.cell? ⟨g18, 2, none⟩ = some (.bool false) ∧ w'.cell? ⟨g18, 3, none⟩ = some (.string kx))) (L := []) (by kernel_rfl) ?_
          have X := Lib.hid X.out.drew
          obtain ⟨V0, hV⟩ := wexi X.out
          rw [← hV] at X ⊢
          clear hV
          refine tk (i := 0) (oi := ⟨some 61, _, _, _, _, _⟩) (v := _) rfl (by kernel_rfl) (fun _ _ _ h => h) (⟨X.out.c4 (i := 5) rfl, X.out.c4 (i := 7) rfl⟩) (Or.inl ⟨by rfl, by intro w hSw; (try dsimp only at hSw); (first | (go_simp; done) | (go_simp; with_reducible rfl))⟩) ?_
          try simp only [Act.put, seti, set0, setS]
          refine tk (i := 1) (oi := ⟨some 62, _, _, _, _, _⟩) (v := _) rfl (by kernel_rfl) (fun _ _ _ h => h) (⟨X.out.c4 (i := 5) rfl, X.out.c4 (i := 7) rfl⟩) (Or.inl ⟨by rfl, by intro w hSw; (try dsimp only at hSw); (first | (go_simp; done) | (go_simp; with_reducible rfl))⟩) ?_
          try simp only [Act.put, seti, set0, setS]
          refine tk (i := 2) (oi := ⟨some 63, _, _, _, _, _⟩) (v := _) rfl (by kernel_rfl) (fun _ _ _ h => h) (⟨X.out.c4 (i := 5) rfl, X.out.c4 (i := 7) rfl⟩) (Or.inl ⟨by rfl, by intro w hSw; (try dsimp only at hSw); (first | (go_simp; done) | (go_simp; with_reducible rfl))⟩) ?_
          try simp only [Act.put, seti, set0, setS]
          refine tk (i := 3) (oi := ⟨some 64, _, _, _, _, _⟩) (v := _) rfl (by kernel_rfl) (fun _ _ _ h => h) (⟨X.out.c4 (i := 5) rfl, X.out.c4 (i := 7) rfl⟩) (Or.inl ⟨by rfl, by intro w hSw; (try dsimp only at hSw); (first | (go_simp; done) | (go_simp; with_reducible rfl))⟩) ?_
          try simp only [Act.put, seti, set0, setS]
          refine tk (i := 4) (oi := ⟨some 65, _, _, _, _, _⟩) (v := _) rfl (by kernel_rfl) (fun _ _ _ h => h) (⟨X.out.c4 (i := 5) rfl, X.out.c4 (i := 7) rfl⟩) (Or.inl ⟨by rfl, by intro w hSw; (try dsimp only at hSw); (first | (go_simp; done) | (go_simp; with_reducible rfl))⟩) ?_
          try simp only [Act.put, seti, set0, setS]
          refine tk (i := 6) (oi := ⟨some 67, _, _, _, _, _⟩) (v := _) rfl (by kernel_rfl) (fun _ _ _ h => h) (⟨X.out.c4 (i := 5) rfl, X.out.c4 (i := 7) rfl⟩) (Or.inl ⟨by rfl, by intro w hSw; (try dsimp only at hSw); (first | (go_simp; done) | (go_simp; with_reducible rfl))⟩) ?_
          try simp only [Act.put, seti, set0, setS]
          refine tk (i := 7) (oi := ⟨some 68, _, _, _, _, _⟩) (v := _) rfl (by kernel_rfl) (fun _ _ _ h => h) (⟨X.out.c4 (i := 5) rfl, X.out.c4 (i := 7) rfl⟩) (Or.inl ⟨by rfl, by intro w hSw; (try dsimp only at hSw); (first | (go_simp; done) | (go_simp; with_reducible rfl))⟩) ?_
          try simp only [Act.put, seti, set0, setS]
          refine wpLate_one (i := 5) (o := ⟨some 66, _, _, _, _, _⟩) (by kernel_rfl) rfl (fun K hK => ?_)
          go_simp
          (go_at_call 35; refine (HMX.out _).mono ?_; rintro e u1 ⟨rfl, hb9⟩; have X := Lib.hid (X.out.next hb9); clear hb9)
          try go_wp2_with fail
          refine hK.out _ _ (Or.inr (fun _ => ⟨X.out.c4 (i := 5) rfl, X.out.c4 (i := 7) rfl⟩)) ?_
          clear hK K
          try simp only [Act.put, seti, set0, setS]
          refine wpLate_one (i := 8) (o := ⟨some 69, _, _, _, _, _⟩) (by kernel_rfl) rfl (fun K hK => ?_)
          go_simp
          (go_at_call 35; refine (HMO.out _).mono ?_; rintro e u2 ⟨rfl, hb9⟩; have X := Lib.hid (X.out.next hb9); clear hb9)
          try go_wp2_with fail
          refine hK.out _ _ (Or.inr (fun _ => ⟨X.out.c4 (i := 5) rfl, X.out.c4 (i := 7) rfl⟩)) ?_
          clear hK K
          try simp only [Act.put, seti, set0, setS]
          refine wpLate_one (i := 9) (o := ⟨some 70, _, _, _, _, _⟩) (by kernel_rfl) rfl (fun K hK => ?_)
          go_simp
          (go_at_call 39; refine (HCC.out _).mono ?_; rintro e u3 ⟨rfl, hb9⟩; have X := Lib.hid (X.out.next hb9); clear hb9)
          try go_wp2_with fail
          refine hK.out _ _ (Or.inr (fun _ => ⟨X.out.c4 (i := 5) rfl, X.out.c4 (i := 7) rfl⟩)) ?_
          clear hK K
          try simp only [Act.put, seti, set0, setS]
          refine tk (i := 10) (oi := ⟨some 71, _, _, _, _, _⟩) (v := _) rfl (by kernel_rfl) (fun _ _ _ h => h) (⟨X.out.c4 (i := 5) rfl, X.out.c4 (i := 7) rfl⟩) (Or.inl ⟨by rfl, by intro w hSw; (try dsimp only at hSw); (first | (go_simp; done) | (go_simp; with_reducible rfl))⟩) ?_
          try simp only [Act.put, seti, set0, setS]
          refine tk (i := 11) (oi := ⟨some 72, _, _, _, _, _⟩) (v := _) rfl (by kernel_rfl) (fun _ _ _ h => h) (⟨X.out.c4 (i := 5) rfl, X.out.c4 (i := 7) rfl⟩) (Or.inl ⟨by rfl, by intro w hSw; (try dsimp only at hSw); (first | (go_simp; done) | (go_simp; with_reducible rfl))⟩) ?_
          try simp only [Act.put, seti, set0, setS]
          refine wpLate_done (by kernel_rfl) ?_ _
          go_wp2_with fail
          go_meet
          exact ⟨rfl, X.out⟩
        obtain ⟨rfl, hX⟩ := hcut
        have X := Lib.hid hX
        clear hX
        by_cases hcn : cc < 0
        · have hcd := decide_eq_true hcn
          obtain ⟨x0, x1, x2, x3⟩ := X.out.c4 (i := 7) rfl
          obtain ⟨z0, z1, z2, z3⟩ := X.out.c4 (i := 5) rfl
          obtain ⟨y0, y1, y2, y3⟩ := X.out.f4 (i := 5) rfl
          go_wp2_with fail
          have X := Lib.hid (X.out.set4 (i := 5) rfl (.bool bx) (.string mx) (.bool false) (.string kx))
          go_roundg (5 - (j + 1))
          case measure => have := HJ.out.2.1; omega
          case rel => exact ⟨j + 1, true, _, _, _, _, rfl, rfl, ⟨hj5, by omega, HLE2.out hcn, HX.out, HZX.out⟩, X.out.pick [0, 1, 2, 3, 4, 5, 6] _ [] rfl (by decide) (by simp)⟩
        · have hcd := decide_eq_false hcn
          go_wp2
          go_roundg (5 - (j + 1))
          case measure => have := HJ.out.2.1; omega
          case rel => exact ⟨j + 1, true, β, _, _, _, rfl, rfl, ⟨hj5, by omega, HMO2.out (by omega), HJ.out.2.2.2.1, HJ.out.2.2.2.2⟩, X.out.pick [0, 1, 2, 3, 4, 5, 6] _ [] rfl (by decide) (by simp)⟩
      · obtain rfl : j = 5 := by have := HJ.out.1; omega
        obtain ⟨e1, e2⟩ := HEND.out fb β HJ.out.2.2.1
        rcases Nat.lt_or_ge d r.den with hlt | hge
        · obtain rfl := e1 hlt
          clear e1 e2
          go_wp2
          go_roundg (r.den - (d + 1))
          case measure => have := HC.out; omega
          case rel => exact ⟨d + 1, rfl, ⟨by omega, by omega, by omega⟩, X.out.pick [0, 1, 2, 3] _ [] rfl (by decide) (by simp)⟩
        · have hdr : d = r.den := by have := HC.out.2.1; omega
          obtain ⟨rfl, rfl⟩ := e2 hdr
          obtain ⟨rfl, rfl, rfl⟩ := HJ.out.2.2.2.1.inj HRR.out
          clear e1 e2
          obtain ⟨o0, o1, o2, o3⟩ := X.out.c4 (i := 5) rfl
          obtain ⟨x0, x1, x2, x3⟩ := X.out.c4 (i := 3) rfl
          obtain ⟨y0, y1, y2, y3⟩ := X.out.f4 (i := 3) rfl
          go_wp2
          have X := Lib.hid (X.out.set4 (i := 3) rfl (.bool bo) (.string mo) (.bool false) (.string ko))
          obtain ⟨p0, p1, p2, p3⟩ := X.out.c4 (i := 3) rfl
          exact bodyPost_ret (v := .tuple #[.agg #[.bool bo, .string mo, .bool false, .string ko], .bool true]) (by simp [results, Tryz.results50, go_sem, p0, p1, p2, p3]) rfl ⟨rfl, X.out.bel⟩
end Go.Proofs.YtahehlajpaoiiaaGreatDoor
