import Derived.Test.YtahehlajpaoiiaaGreatDoorGIntT
import Derived.Test.YtahehlajpaoiiaaGreatDoorGRefL
import Derived.Test.YtahehlajpaoiiaaGreatDoorGRefH

/-
  A round of the program's greatest common divisor of digits.
-/
namespace Go.Proofs.YtahehlajpaoiiaaGreatDoor
open Go.RowKit
attribute [local go_sem ↓] Go.wp_at_zero Go.wp_at_succ

/-- What certain steps lead to, as numbers. -/
theorem cs_use {X Y x0 y0 x1 y1 : Nat} {o : Bool} (h : Cs X Y x0 y0 x1 y1 o) (h0 : y0 ≠ 0) : ∃ R0 R1 : Nat, R1 < R0 ∧ R0 ≤ Y ∧ Nat.gcd R0 R1 = Nat.gcd X Y ∧
    (o = true → x0 * X ≤ y0 * Y ∧ y0 * Y - x0 * X = R0 ∧ y1 * Y ≤ x1 * X ∧ x1 * X - y1 * Y = R1) ∧ (o = false → y0 * Y ≤ x0 * X ∧ x0 * X - y0 * Y = R0 ∧ x1 * X ≤ y1 * Y ∧ y1 * Y - x1 * X = R1) := by
  obtain ⟨k1, k2, k3, k4⟩ := h h0
  obtain ⟨R0, e0⟩ : ∃ R : Nat, sg o * ((y0 : Int) * Y - x0 * X) = (R : Int) := ⟨(sg o * ((y0 : Int) * Y - x0 * X)).toNat, by omega⟩
  obtain ⟨R1, e1⟩ : ∃ R : Nat, sg o * ((x1 : Int) * X - y1 * Y) = (R : Int) := ⟨(sg o * ((x1 : Int) * X - y1 * Y)).toNat, by omega⟩
  have hg := lehmer_gcd (sg_sq o) e0.symm e1.symm k4
  rw [e0] at k2 k3
  rw [e1] at k2
  have c1 : (y0 : Int) * Y = ((y0 * Y : Nat) : Int) := by simp
  have c2 : (x0 : Int) * X = ((x0 * X : Nat) : Int) := by simp
  have c3 : (x1 : Int) * X = ((x1 * X : Nat) : Int) := by simp
  have c4 : (y1 : Int) * Y = ((y1 * Y : Nat) : Int) := by simp
  rw [c1, c2] at e0
  rw [c3, c4] at e1
  refine ⟨R0, R1, by omega, by omega, hg, fun ho => ?_, fun ho => ?_⟩
  · subst ho
    simp only [sg, if_true] at e0 e1
    refine ⟨by omega, by omega, by omega, by omega⟩
  · subst ho
    simp only [sg, Bool.false_eq_true, if_false] at e0 e1
    refine ⟨by omega, by omega, by omega, by omega⟩

/-- A call that makes two numbers of two others, smaller ones with the same greatest common divisor. -/
def RetRd (W : World) (base X Y N : Nat) (e : Ending) (w : World) : Prop :=
  ∃ A1 n1 c1 A2 n2 c2 R S, e = .returned (.tuple #[.slice A1 n1 c1, .slice A2 n2 c2]) ∧ n1 ≤ N ∧ n2 ≤ N ∧ Ow w base A1 n1 c1 R ∧ Ow w base A2 n2 c2 S ∧ (∀ a b, A1 = some a → A2 = some b → a.block ≠ b.block) ∧ S ≤ R ∧ Nat.gcd R S = Nat.gcd X Y ∧ R + S < X + Y ∧ Below base W w

theorem Own.at_ {w w' : World} {base : Nat} {v : Value} {n : Nat} {xs : List Value} (h : Own w base v n xs) (e : ∀ g, v.ownBlock = some g → w'.heap[g]? = w.heap[g]?) : Own w' base v n xs := by
  refine ⟨h.1, ?_⟩
  rcases h.2 with hn | ⟨g, cap, cur, T, rfl, hb, hg, r⟩
  · exact .inl hn
  · exact .inr ⟨g, cap, cur, T, rfl, hb, (e g (by simp [Value.ownBlock])).trans hg, r⟩

theorem Ow.at_ {w w' : World} {base : Nat} {A : Option Addr} {n c V : Nat} (h : Ow w base A n c V) (e : ∀ g, Value.ownBlock (.slice A n c) = some g → w'.heap[g]? = w.heap[g]?) : Ow w' base A n c V := ⟨h.own.at_ e, h.lt, h.top⟩
theorem Ow.base_ {w : World} {base base' : Nat} {A : Option Addr} {n c V : Nat} (h : Ow w base A n c V) (hb : base' ≤ base) : Ow w base' A n c V := ⟨h.own.mono hb, h.lt, h.top⟩
theorem Ow.of_nm {w w' : World} {base : Nat} {A : Option Addr} {n c V : Nat} (h : Nm w' A n c V) (ho : Own w base (.slice A n c) n (nums .u64 (D B64 V) n)) : Ow w base A n c V := ⟨ho, h.lt, h.top⟩

theorem certainSteps_at (gx ox gy oy N n cx cy X Y : Nat) (w : World) (hN : N = n + 2) (hn : N ≤ 100000000) (hX : Rd w .u64 (some ⟨gx, ox, none⟩) N (D B64 X)) (hY : Rd w .u64 (some ⟨gy, oy, none⟩) N (D B64 Y)) (hlt : X < B64 ^ N) (htop : B64 ^ (N - 1) ≤ X) (hle : Y ≤ X) :
    Calls Tryz.prog 152 #[.slice (some ⟨gx, ox, none⟩) N cx, .slice (some ⟨gy, oy, none⟩) N cy] w (RetSt w X Y) := by
  subst hN
  exact certainSteps_any gx ox gy oy n cx cy X Y w (by omega) hX hY hlt htop hle
theorem divide_long_at (A B : Option Addr) (n M m2 c d X Y : Nat) (w : World) (hM : M = m2 + 2) (hn : n ≤ 100000000) (hx : Nm w A n c X) (hy : Nm w B M d Y) (hle : Y ≤ X) :
    Calls Tryz.prog 112 #[.slice A n c, .slice B M d] w (RetQRo w (X / Y) (X % Y) (n + 1) M) := by
  subst hM
  exact divide_long_own A B n m2 c d X Y w hn hx hy hle

set_option maxHeartbeats 8000000 in
set_option maxRecDepth 100000 in
theorem reduce_any (gx gy base n m c d X Y : Nat) (w : World) (hn : n ≤ 100000000) (hm : 2 ≤ m) (hx : Ow w base (some ⟨gx, 0, none⟩) n c X) (hy : Ow w base (some ⟨gy, 0, none⟩) m d Y) (hle : Y ≤ X) (hne : gx ≠ gy) :
    Calls Tryz.prog 132 #[.slice (some ⟨gx, 0, none⟩) n c, .slice (some ⟨gy, 0, none⟩) m d] w (RetRd w base X Y n) := by
  obtain ⟨i0, hi, hz0, hz1, hz2⟩ := info_parts natInfo
  have hmn : m ≤ n := Nm.le_len hx.nm.toNg hy.nm hle
  obtain ⟨g1, e1, lX, pX, ncx, mcx, bx⟩ := hx.own.lies (by omega)
  injection e1 with e1
  injection e1 with e1
  subst e1
  obtain ⟨g2, e2, lY, pY, ncy, mcy, by'⟩ := hy.own.lies (by omega)
  injection e2 with e2
  injection e2 with e2
  subst e2
  have lgx := lX.lt
  have lgy := lY.lt
  have HX := Lib.hid hx
  have HY := Lib.hid hy
  have hYm : B64 ≤ Y := by
    have h1 := hy.top (by omega)
    have h2 : B64 ^ 1 ≤ B64 ^ (m - 1) := Nat.pow_le_pow_right B64_pos (by omega)
    rw [Nat.pow_one] at h2
    omega
  have HYM := Lib.hid hYm
  have HLE := Lib.hid hle
  have hbw : base ≤ w.heap.size := by omega
  clear hx hy lX pX lY pY hYm hle ncx mcx ncy mcy
  go_enter Tryz.func132, Tryz.ntmps132
  go_wp2
  go_loopw [1] (fun v wr => ∃ (k d' gb : Nat), k ≤ n ∧ m ≤ k ∧ v = .slice (some ⟨gb, 0, none⟩) k d' ∧ Own wr base v k (nums .u64 (D B64 Y) k) ∧ gb ≠ gx ∧ gb < wr.heap.size ∧ Hid (wr.heap[gx]? = w.heap[gx]?) ∧ Below base w wr ∧ w.heap.size ≤ wr.heap.size) (fun v _ => match v with | .slice _ k _ => n - k | _ => 0)
  case atStart => exact ⟨m, d, gy, hmn, Nat.le_refl _, rfl, HY.out.own, Ne.symm hne, lgy, rfl, Below.refl _ _, Nat.le_refl _⟩
  case round =>
    obtain ⟨k, d', gb, hk, hmk, rfl, hown, hgb, hgl, HGX, hbl, hsz⟩ := hrel
    by_cases hlt : k < n
    · have hD : D B64 Y k = 0 := D_zero_of B64_pos HY.out.lt hmk
      have hHD := Lib.hid hD
      have HBL := Lib.hid hbl
      clear hbl hD
      go_wp2_with (at_builtin; refine wpList_append_Own _ rfl _ _ 114 rfl base 106 i0 (.int .u64 0) 8 Tryz.underlying114 hi hz0 hz1 hz2 rfl _ _ _ rfl (hown.alloc _) ⟨wr.heap.size, 0, none⟩ 1 1 [.int .u64 0] rfl rfl (by omega) ?_ ?_ ?_ ?_ ?_ ?_)
      · intro q u hq; exact one_cell' q u hq rfl
      · intro u hu; simp at hu; subst hu; rfl
      · unfold maxLen; omega
      · omega
      · simp; omega
      intro v' w2 hown' hgrow hat
      have hown2 : Own w2 base v' (k + 1) (nums .u64 (D B64 Y) (k + 1)) := own_next' (d := 0) hown' hHD.out.symm
      obtain ⟨A2, c2, hv2, hc2, hr2⟩ := hown2.rd
      obtain ⟨gn, on, hA2, hgn, _⟩ := hr2 (by omega)
      subst hA2
      subst hv2
      have hon : on = 0 := by
        obtain ⟨g9, e9, _⟩ := hown2.lies (by omega)
        injection e9 with e9
        injection e9
      subst hon
      have hgx2 : w2.heap[gx]? = w.heap[gx]? := (hgrow.block gx (by simp; omega) (fun e => by simp [Value.ownBlock] at e; omega)).trans ((Below.heap_alloc _ _ _ (by omega)).trans HGX.out)
      have hgn2 : gn ≠ gx := by
        rcases hat with h | h
        · simp [Value.ownBlock] at h; omega
        · simp [Value.ownBlock] at h; omega
      have hbl2 : Below base w w2 := (HBL.out.alloc (by omega) _).trans (below_of_grown (g := gb) hgrow (by simp; omega) (by
        obtain ⟨g9, e9, _, _, _, _, hb9⟩ := hown.lies (by omega)
        injection e9 with e9
        injection e9 with e9
        omega))
      have hs2 := hgrow.size
      simp at hs2
      have HG2 := Lib.hid hgx2
      clear hgrow hown' hown hat hgx2 hr2
      go_wp2
      go_roundw
      case rel => exact ⟨k + 1, c2, gn, by omega, by omega, rfl, hown2, hgn2, hgn, HG2.out, hbl2, by omega⟩
      case measure => simp <;> omega
    · obtain rfl : k = n := by omega
      obtain ⟨g3, e3, lX, pX, ncx, mcx, _⟩ := HX.out.own.lies (by omega)
      injection e3 with e3
      injection e3 with e3
      subst e3
      obtain ⟨g4, e4, lY, pY, ncy, mcy, hbg⟩ := hown.lies (by omega)
      injection e4 with e4
      injection e4 with e4
      subst e4
      have HLX := Lib.hid (lX.of_block HGX.out)
      have HPX := Lib.hid (pX.of_block HGX.out)
      have HLY := Lib.hid lY
      have HPY := Lib.hid pY
      have HBL := Lib.hid hbl
      have HCS := Lib.hid (certainSteps_at gx 0 gb 0 k (k - 2) c d' X Y wr (by omega) hn HLX.out.rd HLY.out.rd HX.out.lt (HX.out.top (by omega)) HLE.out)
      have hYk : Y < B64 ^ k := Nat.lt_of_le_of_lt HLE.out HX.out.lt
      have HYK := Lib.hid hYk
      have HOW := Lib.hid hown
      clear lX pX lY pY hbl hown hYk
      go_wp2_with fail
      refine HCS.out.mono ?_
      rintro e w1 ⟨x0, y0, x1, y1, o, rfl, b0, b1, b2, b3, hcs, hb1⟩
      have hs1 := hb1.size
      have hblk : ∀ (V : World) (g : Nat), g < wr.heap.size → Below wr.heap.size w1 V → V.heap[g]? = wr.heap[g]? := fun V g hg hV => (hV.block g hg).trans (hb1.block g hg)
      have HBK := Lib.hid hblk
      have HCC := Lib.hid hcs
      have HB1 := Lib.hid hb1
      clear hblk hcs hb1
      obtain ⟨W, hW⟩ : ∃ W, W = w1.alloc (.cells #[.int .u64 (x0 : Int), .int .u64 (y0 : Int), .int .u64 (x1 : Int), .int .u64 (y1 : Int), .bool o] 166) := ⟨_, rfl⟩
      have hbW : Below wr.heap.size w1 W := by rw [hW]; exact (Below.refl _ _).alloc hs1 _
      have hbX := HBK.out W gx (by omega) hbW
      have hbY := HBK.out W gb hgl hbW
      have hsW : wr.heap.size ≤ W.heap.size := by rw [hW]; simp; omega
      have hbb : Below base w W := HBL.out.trans ((HB1.out.mono (by omega)).trans (hbW.mono (by omega)))
      obtain ⟨c0, c1, c2, c3, c4⟩ := (show St W w1.heap.size x0 y0 x1 y1 o by rw [hW]; exact heap_alloc_new w1 _).cells
      have HbX := Lib.hid hbX
      have HbY := Lib.hid hbY
      have Hbb := Lib.hid hbb
      have HW := Lib.hid hW
      have lXW := HLX.out.of_block hbX
      have lYW := HLY.out.of_block hbY
      have HXW := Lib.hid lXW
      have HYW := Lib.hid lYW
      clear hbW hbX hbY hbb hW lXW lYW
      by_cases h0 : y0 = 0
      · have h0b : ((y0 : Int) == 0) = true := by simp; omega
        have h0c : decide (y0 = 0) = true := by simp; omega
        clear c0 c1 c2 c3 c4 h0 h0c
        go_wp2_with fail
        rw [← HW.out]
        refine (trim_any (some ⟨gb, 0, none⟩) k d' Y W (by omega) ⟨HYK.out, ncy, HYW.out.rd⟩).mono ?_
        rintro e w2 ⟨kt, hkt, rfl, hnt, rfl⟩
        have hkt2 : 2 ≤ kt := by
          rcases Nat.lt_or_ge kt 2 with h | h
          · have h1 := hnt.lt
            have h2 : B64 ^ kt ≤ B64 ^ 1 := Nat.pow_le_pow_right B64_pos (by omega)
            have h3 := HYM.out
            rw [Nat.pow_one] at h2
            omega
          · exact h
        have HNT := Lib.hid hnt
        have HDV := Lib.hid (divide_long_at (some ⟨gx, 0, none⟩) (some ⟨gb, 0, none⟩) k kt (kt - 2) c d' X Y W (by omega) hn ⟨⟨HX.out.lt, ncx, HXW.out.rd⟩, HX.out.top⟩ hnt HLE.out)
        clear hnt
        go_wp2_with fail
        refine HDV.out.mono ?_
        rintro e w3 ⟨Aq, nq, cq, Ar, nr, cr, hnq, hnr, rfl, hmq, hmr, hb3, hfq, hfr, hor⟩
        have HMR := Lib.hid hmr
        have HB3 := Lib.hid hb3
        have HFR := Lib.hid hfr
        have HOR := Lib.hid hor
        clear hmq hmr hb3 hfq hfr hor
        go_wp2
        go_ret2
        have hYp : 0 < Y := by have := HYM.out; have := B64_eq; omega
        have hmod := Nat.mod_lt X hYp
        refine ⟨_, kt, d', Ar, nr, cr, Y, X % Y, rfl, hkt, by omega, ?_, ?_, ?_, Nat.le_of_lt hmod, ?_, ?_, Hbb.out.trans (HB3.out.mono (by omega))⟩
        · refine ⟨((HOW.out.take hkt).at_ fun g hg => ?_), HNT.out.lt, HNT.out.top⟩
          simp [Value.ownBlock] at hg
          subst hg
          exact (HB3.out.block _ (by omega)).trans HbY.out
        · exact ⟨HOR.out.mono (by omega), HMR.out.lt, HMR.out.top⟩
        · intro a b ha hb
          injection ha with ha
          subst ha
          subst hb
          have h9 := HFR.out b.block rfl
          show gb ≠ b.block
          omega
        · rw [Nat.gcd_comm, ← Nat.gcd_rec, Nat.gcd_comm]
        · have := HLE.out
          omega
      · have h0b : ((y0 : Int) == 0) = false := by simp; omega
        have h0c : decide (y0 = 0) = false := by simp; omega
        obtain ⟨R0, R1, k1, k2, k3, k4, k5⟩ := cs_use HCC.out h0
        have hRb : R0 < B64 ^ k := Nat.lt_of_le_of_lt k2 HYK.out
        rcases o with _ | _
        · obtain ⟨j1, j2, j3, j4⟩ := k5 rfl
          have HDF := Lib.hid (differences_any base gx gb k c d' X Y x0 y0 y1 x1 W hn b0 b1 b3 b2 j1 j3 (by rw [j2]; exact hRb) (by rw [j4]; omega) HXW.out HYW.out (HPX.out.of_block HbX.out) (HPY.out.of_block HbY.out) ncx ncy mcx mcy (Ne.symm hgb) bx hbg)
          rw [j2, j4] at HDF
          have HJ := Lib.hid (And.intro k1 (And.intro k2 k3))
          clear j1 j2 j3 j4 k1 k2 k3 k4 k5 hRb
          go_wp2_with fail
          rw [← HW.out]
          refine HDF.out.mono ?_
          rintro e w3 ⟨kr, ks, hkr, hks, rfl, hor, hos, hb3⟩
          have HOR := Lib.hid (And.intro hor hos)
          have HB3 := Lib.hid hb3
          clear hor hos hb3
          go_wp2
          go_ret2
          have hj := HJ.out
          have hle := HLE.out
          exact ⟨_, kr, c, _, ks, d', R0, R1, rfl, hkr, hks, HOR.out.1, HOR.out.2, (fun a b ha hb => by injection ha with ha; injection hb with hb; subst ha; subst hb; exact Ne.symm hgb), by omega, hj.2.2, by omega, Hbb.out.trans HB3.out⟩
        · obtain ⟨j1, j2, j3, j4⟩ := k4 rfl
          have HDF := Lib.hid (differences_any base gb gx k d' c Y X y0 x0 x1 y1 W hn b1 b0 b2 b3 j1 j3 (by rw [j2]; exact hRb) (by rw [j4]; omega) HYW.out HXW.out (HPY.out.of_block HbY.out) (HPX.out.of_block HbX.out) ncy ncx mcy mcx hgb hbg bx)
          rw [j2, j4] at HDF
          have HJ := Lib.hid (And.intro k1 (And.intro k2 k3))
          clear j1 j2 j3 j4 k1 k2 k3 k4 k5 hRb
          go_wp2_with fail
          rw [← HW.out]
          refine HDF.out.mono ?_
          rintro e w3 ⟨kr, ks, hkr, hks, rfl, hor, hos, hb3⟩
          have HOR := Lib.hid (And.intro hor hos)
          have HB3 := Lib.hid hb3
          clear hor hos hb3
          go_wp2
          go_ret2
          have hj := HJ.out
          have hle := HLE.out
          exact ⟨_, kr, d', _, ks, c, R0, R1, rfl, hkr, hks, HOR.out.1, HOR.out.2, (fun a b ha hb => by injection ha with ha; injection hb with hb; subst ha; subst hb; exact hgb), by omega, hj.2.2, by omega, Hbb.out.trans HB3.out⟩
end Go.Proofs.YtahehlajpaoiiaaGreatDoor


/-
  The program's and the reference's sign, order and number of bits of integers.
-/
namespace Go.Proofs.YtahehlajpaoiiaaGreatDoor
open Go.RowKit
attribute [local go_sem ↓] Go.wp_at_zero Go.wp_at_succ

/-- The sign of a pair. -/
def sgP (b : Bool) (m : ByteArray) : Int := if m.size = 0 then 0 else if b then -1 else 1

theorem sgP_enc {x : Int} {b : Bool} {m : ByteArray} (h : enc x = .agg #[.bool b, .string m]) : sgP b m = x.sign := by
  obtain ⟨rfl, rfl⟩ := enc_parts h
  have hz : (mag x.natAbs).size = 0 ↔ x.natAbs = 0 := mag_zero_iff
  unfold sgP
  rcases Int.lt_trichotomy x 0 with h | h | h
  · rw [Int.sign_eq_neg_one_of_neg h, if_neg (by rw [hz]; omega), decide_eq_true h]; rfl
  · subst h; rw [if_pos (hz.2 rfl)]; rfl
  · rw [Int.sign_eq_one_of_pos h, if_neg (by rw [hz]; omega), decide_eq_false (by omega)]; rfl

set_option maxHeartbeats 1000000 in
set_option maxRecDepth 100000 in
theorem Sign_pair (b : Bool) (m : ByteArray) (w : World) : Calls Tryz.prog 63 #[.agg #[.bool b, .string m]] w (RetB w (.int .i64 (sgP b m))) := by
  by_cases h : 0 < m.size
  · have he := empty_no h
    have hv : sgP b m = if b then -1 else 1 := by unfold sgP; rw [if_neg (by omega)]
    rw [hv]
    clear hv
    cases b
    all_goals
      go_enter Tryz.func63, Tryz.ntmps63
      go_wp2
      go_ret
      exact ⟨rfl, (Below.refl _ _).alloc (Nat.le_refl _) _⟩
  · have he := empty_yes h
    have hv : sgP b m = 0 := by unfold sgP; rw [if_pos (by omega)]
    rw [hv]
    clear hv
    go_enter Tryz.func63, Tryz.ntmps63
    go_wp2
    go_ret
    exact ⟨rfl, (Below.refl _ _).alloc (Nat.le_refl _) _⟩

theorem Sign_f {x : Int} {b : Bool} {m : ByteArray} (hx : enc x = .agg #[.bool b, .string m]) (w : World) : Calls Tryz.prog 63 #[.agg #[.bool b, .string m]] w (RetB w (.int .i64 x.sign)) := by
  rw [← sgP_enc hx]; exact Sign_pair b m w

theorem lead_enc {x : Int} {b : Bool} {m : ByteArray} (h : enc x = .agg #[.bool b, .string m]) : Lead m := by
  obtain ⟨rfl, rfl⟩ := enc_parts h
  exact lead_mag _

/-- Two boxes of integers, as they were made. -/
structure K2 (w : World) (T : TypeId) (v0 v1 v2 v3 : Value) (w1 : World) : Prop where
  k0 : w1.heap[w.heap.size]? = some (.cells #[v0, v1] T (0, 0))
  k1 : w1.heap[w.heap.size + 1]? = some (.cells #[v2, v3] T (0, 0))
  sz : w.heap.size + 2 ≤ w1.heap.size
  bel : Below w.heap.size w w1
theorem K2.start (w : World) (T : TypeId) (v0 v1 v2 v3 : Value) : K2 w T v0 v1 v2 v3 ((w.alloc (.cells #[v0, v1] T)).alloc (.cells #[v2, v3] T)) :=
  ⟨heap_fst _ _ _, heap_two _ _ _, by simp, ((Below.refl _ _).alloc (Nat.le_refl _) _).alloc (by simp) _⟩
theorem K2.next {w : World} {T : TypeId} {v0 v1 v2 v3 : Value} {w1 w2 : World} (h : K2 w T v0 v1 v2 v3 w1) (hb : Below w1.heap.size w1 w2) : K2 w T v0 v1 v2 v3 w2 := by
  have hs := h.sz
  refine ⟨(hb.block _ (by omega)).trans h.k0, (hb.block _ (by omega)).trans h.k1, ?_, h.bel.trans (hb.mono h.bel.size)⟩
  have := hb.size
  omega
theorem K2.drew {w : World} {T : TypeId} {v0 v1 v2 v3 : Value} {w1 : World} (h : K2 w T v0 v1 v2 v3 w1) : K2 w T v0 v1 v2 v3 w1.drew := h.next (Below.refl _ _).drew
theorem K2.zx {w : World} {T : TypeId} {b1 b2 : Bool} {m1 m2 : ByteArray} {w1 : World} (h : K2 w T (.bool b1) (.string m1) (.bool b2) (.string m2) w1) :
    w1.cell? ⟨w.heap.size, 0, none⟩ = some (.bool b1) ∧ w1.cell? ⟨w.heap.size, 1, none⟩ = some (.string m1) ∧ w1.cell? ⟨w.heap.size + 1, 0, none⟩ = some (.bool b2) ∧ w1.cell? ⟨w.heap.size + 1, 1, none⟩ = some (.string m2) :=
  ⟨(blk_cells h.k0).1, (blk_cells h.k0).2.1, (blk_cells h.k1).1, (blk_cells h.k1).2.1⟩

theorem compareInt_lt {a b : Int} (h : a < b) : Lib.compareInt a b = -1 := by unfold Lib.compareInt; rw [if_pos h]
theorem compareInt_gt {a b : Int} (h : b < a) : Lib.compareInt a b = 1 := by unfold Lib.compareInt; rw [if_neg (by omega), if_pos h]

set_option maxHeartbeats 2000000 in
set_option maxRecDepth 100000 in
theorem Compare_f {x y : Int} {b1 b2 : Bool} {m1 m2 : ByteArray} (hx : enc x = .agg #[.bool b1, .string m1]) (hy : enc y = .agg #[.bool b2, .string m2]) (w : World) :
    Calls Tryz.prog 83 #[.agg #[.bool b1, .string m1], .agg #[.bool b2, .string m2]] w (RetB w (.int .i64 (cmpZ x y))) := by
  have HS1 := Lib.hid (fun V => Sign_f hx V)
  have HS2 := Lib.hid (fun V => Sign_f hy V)
  have hm := fun V => cmpMag_any m1 m2 (lead_enc hx) (lead_enc hy) V
  have hdf := cmpZ_diff (x := x) (y := y)
  have hsm := cmpZ_same (x := x) (y := y)
  have hin := cmpZ_in x y
  have e1 : bval m1 = x.natAbs := by rw [(enc_parts hx).2, bval_mag]
  have e2 : bval m2 = y.natAbs := by rw [(enc_parts hy).2, bval_mag]
  rw [e1, e2] at hm
  have HM := Lib.hid hm
  have K0 := Lib.hid (K2.start w 23 (.bool b1) (.string m1) (.bool b2) (.string m2))
  generalize cmpZ x y = r at *
  generalize x.sign = sx at *
  generalize y.sign = sy at *
  generalize x.natAbs = X at *
  generalize y.natAbs = Y at *
  clear hm hx hy e1 e2
  have hne1 : ¬ (w.heap.size = w.heap.size + 1) := by omega
  have hne2 : ¬ (w.heap.size + 1 = w.heap.size) := by omega
  have hq : (sx != sy) = decide (sx ≠ sy) := by by_cases h : sx = sy <;> simp [h]
  have HQ := Lib.hid hq
  clear hq
  by_cases hs : sx = sy
  all_goals
    have hq := HQ.out
    first
    | (rw [decide_eq_false (by simpa using hs)] at hq)
    | (rw [decide_eq_true hs] at hq)
    have HSS := Lib.hid hs
    have HDF := Lib.hid hdf
    have HSM := Lib.hid hsm
    clear hs hdf hsm
    go_enter Tryz.func83, Tryz.ntmps83
    go_wp2_with fail
    go_region_held3 (fun w' => w'.cell? ⟨w.heap.size, 0, none⟩ = some (.bool b1) ∧ w'.cell? ⟨w.heap.size, 1, none⟩ = some (.string m1) ∧ w'.cell? ⟨w.heap.size + 1, 0, none⟩ = some (.bool b2) ∧ w'.cell? ⟨w.heap.size + 1, 1, none⟩ = some (.string m2))
      (first
        | go_keep
        | exact KB.out.zx
        | exact KA.out.zx)
      (first
        | (go_at_call 63; (with_reducible refine (HS1.out _).mono ?_); rintro e w1 ⟨rfl, hb1⟩; have KA := Lib.hid (K0.out.drew.next hb1))
        | (go_at_call 63; (with_reducible refine (HS2.out _).mono ?_); rintro e w2 ⟨rfl, hb2⟩; have KB := Lib.hid (KA.out.next hb2)))
  · obtain ⟨z0, z1, z2, z3⟩ := KB.out.zx
    obtain ⟨o, ho⟩ : ∃ o, ord X Y = o := ⟨_, rfl⟩
    rw [ho] at HM
    have hr := HSM.out HSS.out
    rw [ho] at hr
    have hw1 : IntKind.i64.wrap (sx * o) = r := by rw [hr, Int.mul_comm]; rw [hr] at hin; exact IntWalk.i64_in _ (by omega)
    have HR := Lib.hid hr
    clear hr ho hb1 hb2
    go_wp2_with fail
    refine (HM.out _).mono ?_
    rintro e w3 ⟨rfl, rfl⟩
    go_wp2
    go_ret
    exact ⟨by first | rfl | (rw [hw1]), KB.out.bel⟩
  · have hr := HDF.out HSS.out
    have hc : Lib.compareInt sx sy = r := by
      rw [hr]
      by_cases h : sx < sy
      · rw [compareInt_lt h, if_pos h]
      · rw [compareInt_gt (by have := HSS.out; omega), if_neg h]
    have HC := Lib.hid (fun V => Tryz.cmp_Compare_int sx sy V)
    have HCC := Lib.hid hc
    clear hr hc hb1 hb2
    go_wp2_with fail
    refine (HC.out _).mono ?_
    rintro e w3 ⟨rfl, rfl⟩
    go_wp2
    go_ret
    exact ⟨congrArg (fun z => Ending.returned (.int .i64 z)) HCC.out, KB.out.bel⟩
end Go.Proofs.YtahehlajpaoiiaaGreatDoor


/-
  The program's and the reference's number of bits of integers.
-/
namespace Go.Proofs.YtahehlajpaoiiaaGreatDoor
open Go.RowKit
attribute [local go_sem ↓] Go.wp_at_zero Go.wp_at_succ

/-- The number of binary digits of a magnitude. -/
def bitsV (m : ByteArray) : Int := if h : 0 < m.size then (8 : Int) * ((m.size : Int) - (1 : Int)) + ((Lib.bitLen (m[0]'h).toNat : Nat) : Int) else 0

theorem quietN {f : FuncId} {args : Array Value} {w : World} {n : Nat} {v : Value} (h : Calls Tryz.prog f args (w.drewN n) fun e w' => e = .returned v ∧ w' = w.drewN n) :
    Calls Tryz.prog f args (w.drewN n) fun e w'' => e = .returned v ∧ ∃ m, w'' = w.drewN m := h.mono fun _ _ ⟨he, hm⟩ => ⟨he, n, hm⟩

end Go.Proofs.YtahehlajpaoiiaaGreatDoor


/-
  Words for the walks of the statements about two integers; the walk of the statement about comparisons.
-/
namespace Go.Proofs.YtahehlajpaoiiaaGreatDoor
open Go.RowKit
attribute [local go_sem ↓] Go.wp_at_zero Go.wp_at_succ

/-- The world so far, behind a call: the two integers lie where they lay. -/
structure S2 (w : World) (b1 b2 : Bool) (m1 m2 : ByteArray) (wc : World) : Prop where
  zx : Zi wc w.heap.size b1 m1
  zy : Zi wc (w.heap.size + 1) b2 m2
  big : w.heap.size + 2 ≤ wc.heap.size
  bel : Below w.heap.size w wc
theorem S2.next {w w1 w2 : World} {b1 b2 : Bool} {m1 m2 : ByteArray} (h : S2 w b1 b2 m1 m2 w1) (hb : Below w1.heap.size w1 w2) : S2 w b1 b2 m1 m2 w2 := by
  have := h.big
  exact ⟨h.zx.below hb (by omega), h.zy.below hb (by omega), Nat.le_trans h.big hb.size, h.bel.trans (hb.mono h.bel.size)⟩
theorem S2.drew {w w1 : World} {b1 b2 : Bool} {m1 m2 : ByteArray} (h : S2 w b1 b2 m1 m2 w1) : S2 w b1 b2 m1 m2 w1.drew := h.next (Below.refl _ _).drew
theorem S2.alloc {w w1 : World} {b1 b2 : Bool} {m1 m2 : ByteArray} (h : S2 w b1 b2 m1 m2 w1) (o : Obj) : S2 w b1 b2 m1 m2 (w1.alloc o) := h.next ((Below.refl _ _).alloc (Nat.le_refl _) _)
theorem S2.cells {w wc : World} {b1 b2 : Bool} {m1 m2 : ByteArray} (h : S2 w b1 b2 m1 m2 wc) :
    wc.cell? ⟨w.heap.size, 0, none⟩ = some (.bool b1) ∧ wc.cell? ⟨w.heap.size, 1, none⟩ = some (.string m1) ∧ wc.cell? ⟨w.heap.size + 1, 0, none⟩ = some (.bool b2) ∧ wc.cell? ⟨w.heap.size + 1, 1, none⟩ = some (.string m2) := ⟨h.zx.c0, h.zx.c1, h.zy.c0, h.zy.c1⟩

/-- Two integers of at most k and j bytes lie in the two boxes. -/
structure In2 (w : World) (k j : Nat) (x y : Int) (b1 b2 : Bool) (m1 m2 : ByteArray) (wx : World) : Prop where
  sx : x.natAbs < 256 ^ k
  sy : y.natAbs < 256 ^ j
  ex : Hid (enc x = .agg #[.bool b1, .string m1])
  ey : Hid (enc y = .agg #[.bool b2, .string m2])
  st : S2 w b1 b2 m1 m2 wx
def In2E (w : World) (k j : Nat) (wx : World) : Prop := ∃ x y b1 b2 m1 m2, In2 w k j x y b1 b2 m1 m2 wx

theorem In2E.mk {w W : World} {k j : Nat} {T : TypeId} {v0 v1 v2 v3 : Value} {x y : Int} {b1 b2 : Bool} {m1 m2 : ByteArray} (hk : K2 w T v0 v1 v2 v3 W) (sx : x.natAbs < 256 ^ k) (sy : y.natAbs < 256 ^ j)
    (ex : Hid (enc x = .agg #[.bool b1, .string m1])) (ey : Hid (enc y = .agg #[.bool b2, .string m2])) :
    In2E w k j ((((W.setCell ⟨w.heap.size, 0, none⟩ (.bool b1)).setCell ⟨w.heap.size, 1, none⟩ (.string m1)).setCell ⟨w.heap.size + 1, 0, none⟩ (.bool b2)).setCell ⟨w.heap.size + 1, 1, none⟩ (.string m2)) := by
  obtain ⟨a0, a1, _, _⟩ := blk_cells hk.k0
  obtain ⟨a2, a3, _, _⟩ := blk_cells hk.k1
  obtain ⟨t0, t1, t2, t3, t4⟩ := set_two (g := w.heap.size) (x0 := .bool b1) (x1 := .string m1) (x2 := .bool b2) (x3 := .string m2) a0 a1 a2 a3
  exact ⟨x, y, b1, b2, m1, m2, sx, sy, ex, ey, ⟨t0, t1⟩, ⟨t2, t3⟩, by rw [t4]; exact hk.sz,
    (((hk.bel.setCell (by show w.heap.size ≤ w.heap.size; omega) _).setCell (by show w.heap.size ≤ w.heap.size; omega) _).setCell (by show w.heap.size ≤ w.heap.size + 1; omega) _).setCell (by show w.heap.size ≤ w.heap.size + 1; omega) _⟩

theorem cmpZ_swap (x y : Int) : cmpZ y x = - cmpZ x y := by
  unfold cmpZ
  rcases Int.lt_trichotomy x y with h | h | h
  · rw [if_neg (by omega), if_pos h, if_pos h]; rfl
  · subst h; simp
  · rw [if_pos h, if_neg (by omega), if_pos h]
theorem cmpZ_self (x : Int) : cmpZ x x = 0 := by unfold cmpZ; simp
theorem cmpZ_sub (x y : Int) : (x - y).sign = cmpZ x y := by
  unfold cmpZ
  rcases Int.lt_trichotomy x y with h | h | h
  · rw [if_pos h, Int.sign_eq_neg_one_of_neg (by omega)]
  · subst h; simp
  · rw [if_neg (by omega), if_pos h, Int.sign_eq_one_of_pos (by omega)]

end Go.Proofs.YtahehlajpaoiiaaGreatDoor
