import Derived.Test.YtahehlajpaoiiaaGreatDoorGQR
import Derived.Test.YtahehlajpaoiiaaGreatDoorGQT2
import Derived.Lib.OthersKept
import Derived.Test.YtahehlajpaoiiaaGreatDoorGLawH
import Derived.Test.YtahehlajpaoiiaaGreatDoorGRefO

namespace Go.Proofs.YtahehlajpaoiiaaGreatDoor
open Go.RowKit
attribute [local go_sem ↓] Go.wp_at_zero Go.wp_at_succ

theorem mag_pow10 {v n : Nat} (h : v < 10 ^ n) : (mag v).size ≤ n := mag_size_le (Nat.lt_of_lt_of_le h (Nat.pow_le_pow_left (by omega) n))

def Pn (g n V : Nat) (w : World) : Prop := ∃ v l s, Nu g v l s w ∧ Nq n V v l s
section
variable {g n V : Nat} {w1 w2 : World}
theorem Pn.next (h : Pn g n V w1) (hb : Below w1.heap.size w1 w2) : Pn g n V w2 := by
  obtain ⟨v, l, s, hu, hm⟩ := h
  exact ⟨v, l, s, hu.next hb, hm⟩
theorem Pn.keep (h : Pn g n V w1) (hk : w2.heap[g]? = w1.heap[g]?) : Pn g n V w2 := by
  obtain ⟨v, l, s, hu, hm⟩ := h
  have h1 := hk.trans hu.k
  exact ⟨v, l, s, ⟨h1, (Array.getElem?_eq_some_iff.1 h1).1⟩, hm⟩
theorem Pn.lt (h : Pn g n V w1) : g < w1.heap.size := by
  obtain ⟨v, l, s, hu, hm⟩ := h
  exact hu.lt
theorem Pn.start (w : World) : Pn w.heap.size 0 0 (w.alloc (.cells #[.bool false, .string ⟨#[]⟩, .int .i64 0, .int .i64 0] 99)) :=
  ⟨0, 0, 0, ⟨by rw [mag_nil]; exact heap_one _ _, by simp⟩, .none⟩
end

def RetDgt (w : World) (g n V : Nat) (e : Ending) (w' : World) : Prop := e = .returned (.tuple #[]) ∧ Pn g n V w' ∧ (∀ k, k ≠ g → k < w.heap.size → w'.heap[k]? = w.heap[k]?) ∧ w.heap.size ≤ w'.heap.size ∧ Below g w w'

theorem add_nm {g n V d : Nat} (hd : d ≤ 9) (hn : n ≤ 10000) (w : World) (h : Pn g n V w) :
    Calls Tryz.prog 93 #[.pointer (some ⟨g, 0, none⟩), .int .i64 (d : Int)] w (RetDgt w g (n + 1) (V * 10 + d)) := by
  obtain ⟨v, l, s, hu, hm⟩ := h
  rcases hm.add hd with ⟨t, ht, hs, hl, hm'⟩ | ⟨rfl, hl, hm'⟩
  · exact (add_small g v l s d t hd ht hs hl w hu).mono fun e w' ⟨he, hu', ho⟩ => ⟨he, ⟨_, _, _, hu', hm'⟩, ho⟩
  · exact (add_big g v l d hd hl (Nat.le_trans (mag_pow10 hm.total.2.2.2) hn) w hu).mono fun e w' ⟨he, hu', ho⟩ => ⟨he, ⟨_, _, _, hu', hm'⟩, ho⟩

theorem empty_nm {g n V : Nat} (w : World) (h : Pn g n V w) : Calls Tryz.prog 94 #[.pointer (some ⟨g, 0, none⟩)] w (RetV w (.bool (decide (n = 0)))) := by
  obtain ⟨v, l, s, hu, hm⟩ := h
  exact empty_all g v l s _ (decide_eq_decide.2 hm.empty.symm) w hu

theorem total_nm {g n V : Nat} (hn : n ≤ 10000) (w : World) (h : Pn g n V w) : Calls Tryz.prog 95 #[.pointer (some ⟨g, 0, none⟩)] w (RetB w (.agg #[.bool false, .string (mag V)])) := by
  obtain ⟨v, l, s, hu, hm⟩ := h
  have ht := hm.total
  have h1 := total_all g v l s ht.2.2.1 ht.2.1 (Nat.le_trans (mag_pow10 ht.2.2.2) hn) w hu
  rw [ht.1] at h1
  exact h1
end Go.Proofs.YtahehlajpaoiiaaGreatDoor


namespace Go.Proofs.YtahehlajpaoiiaaGreatDoor
open Go.RowKit
attribute [local go_sem ↓] Go.wp_at_zero Go.wp_at_succ

set_option maxHeartbeats 8000000 in
set_option maxRecDepth 100000 in
theorem simplest_step3 (F : Nat) (HI : Hid (Ih F)) (a b : Nat) (oa : Bool) (c d : Nat) (oc : Bool) (p q : Nat) (w : World) (hF : simpFuel a b c d < F + 1) (hb : 0 < b) (hin : Inn a b oa c d oc p q) (sa : (mag a).size ≤ 5000) (sb : (mag b).size ≤ 5000) (sc : (mag c).size ≤ 5000) (sd : (mag d).size ≤ 5000) (sp : (mag p).size ≤ 5000) (sq : (mag q).size ≤ 5000) (hE : Env w) (hcase : oa = false ∧ Int.sign ((a % b : Nat) : Int) = 0 ∧ leastOf a b oa = a / b) :
    Calls Tryz.prog 87 #[.agg #[.bool false, .string (mag a), .bool false, .string (mag b), .bool oa], .agg #[.bool false, .string (mag c), .bool false, .string (mag d), .bool oc]] w (RetSm w a b oa c d oc) := by
  have HB := Lib.hid hb
  have HIN := Lib.hid hin
  have HFU := Lib.hid hF
  have HE := Lib.hid (fun V (h : Below w.heap.size w V) => hE.next h)
  have HSZ := Lib.hid (And.intro sa (And.intro sb (And.intro sc (And.intro sd (And.intro sp sq)))))
  have HDM := Lib.hid (fun V => divMod_f (q := ((a / b : Nat) : Int)) (r := ((a % b : Nat) : Int)) (enc_mag a) (enc_mag b) (by omega) (by omega) (by omega) (enc_mag _) (enc_mag _) (by rw [Int.natCast_ediv]) (by rw [Int.natCast_emod]) V)
  have HSG := Lib.hid (fun V => Sign_f (enc_mag (a % b)) V)
  have sf : (mag (a / b)).size ≤ 5000 := Nat.le_trans (nd_div a b) sa
  have sr : (mag (a % b)).size ≤ 5000 := Nat.le_trans (nd_mono (Nat.mod_le a b)) sa
  have hln := least_num hb hin.1 hin.2.1
  have sL : (mag (leastOf a b oa)).size ≤ 5000 := Nat.le_trans (nd_mono hln) sp
  have HAD := Lib.hid (fun V => add_f (z := ((a / b + 1 : Nat) : Int)) (enc_mag (a / b)) (show enc (1 : Int) = .agg #[.bool false, .string ⟨#[1]⟩] from by rw [← mag_one]; exact enc_mag 1) (by omega) (by decide) (enc_mag _) (by rw [Int.natCast_add]; rfl) V)
  have KK := Lib.hid (Kd.start w #[.bool false, .string (mag a), .bool false, .string (mag b), .bool oa] #[.bool false, .string (mag c), .bool false, .string (mag d), .bool oc] #[.bool false, .string ⟨#[]⟩] #[.bool false, .string ⟨#[]⟩])
  clear hb hin hF hE sa sb sc sd sp sq hln
  obtain ⟨L, hLL⟩ : ∃ L, leastOf a b oa = L := ⟨_, rfl⟩
  rw [hLL] at sL
  rw [hLL] at hcase
  have HLL := Lib.hid hLL
  obtain ⟨r, hr⟩ : ∃ r : Bool, r = true ↔ Blw c d oc L 1 := by
    by_cases h : Blw c d oc L 1
    · exact ⟨true, by simp [h]⟩
    · exact ⟨false, by simp [h]⟩
  have HAB := Lib.hid (fun V => isAbove_all c d L oc r hr (Nat.le_trans HSZ.out.2.2.1 (by omega)) (Nat.le_trans HSZ.out.2.2.2.1 (by omega)) (Nat.le_trans sL (by omega)) V)
  have HR := Lib.hid hr
  clear hLL hr
  obtain ⟨rfl, hs, hL⟩ := hcase
  rw [hs] at HSG
  have HL := Lib.hid hL
  have HAB2 := HAB
  rw [hL] at HAB2
  clear hL hs
  go_enter Tryz.func87, Tryz.ntmps87
  go_wp2_with fail
  refine (HDM.out _).mono ?_
  rintro e w1 ⟨rfl, hb1⟩
  have K1 := Lib.hid (KK.out.next hb1)
  have hs1 := K1.out.sz
  have K2 := Lib.hid (fun o1 o2 o3 => K1.out.next (below_three w1 o1 o2 o3))
  have p4 := fun o1 o2 o3 => (blk5 (K2.out o1 o2 o3).k1).2.2.2.2
  have g0 := fun o1 o2 o3 => (HE.out _ (K2.out o1 o2 o3).bel).o0
  have g1 := fun o1 o2 o3 => (HE.out _ (K2.out o1 o2 o3).bel).o1
  have hh := fun o1 o2 o3 => blk5 (K2.out o1 o2 o3).k2
  have h0 := fun o1 o2 o3 => (hh o1 o2 o3).1
  have h1 := fun o1 o2 o3 => (hh o1 o2 o3).2.1
  have h2 := fun o1 o2 o3 => (hh o1 o2 o3).2.2.1
  have h3 := fun o1 o2 o3 => (hh o1 o2 o3).2.2.2.1
  have h4 := fun o1 o2 o3 => (hh o1 o2 o3).2.2.2.2
  clear hb1 hh
  go_wp2_with fail
  obtain ⟨w3, hw3⟩ : ∃ W, W = ((w1.alloc (.cells #[.bool false, .string (mag (a / b))] 23)).alloc (.cells #[.bool false, .string (mag (a % b))] 23)).alloc (.cells #[.bool false, .string (mag (a / b))] 23) := ⟨_, rfl⟩
  have K3 := Lib.hid (K2.out (.cells #[.bool false, .string (mag (a / b))] 23) (.cells #[.bool false, .string (mag (a % b))] 23) (.cells #[.bool false, .string (mag (a / b))] 23))
  have B6 := Lib.hid (Bs.first w w1 #[.bool false, .string (mag (a / b))] #[.bool false, .string (mag (a % b))] #[.bool false, .string (mag (a / b))] hs1)
  have B7 := Lib.hid (Bs.second w w1 #[.bool false, .string (mag (a / b))] #[.bool false, .string (mag (a % b))] #[.bool false, .string (mag (a / b))] hs1)
  have B9 := Lib.hid (Bs.third w w1 #[.bool false, .string (mag (a / b))] #[.bool false, .string (mag (a % b))] #[.bool false, .string (mag (a / b))] hs1)
  rw [← hw3] at K3 B6 B7 B9
  rw [← hw3]
  clear hw3 K2 p4 g0 g1 h0 h1 h2 h3 h4
  refine (HSG.out _).mono ?_
  rintro e w4 ⟨rfl, hb4⟩
  have K3 := Lib.hid (K3.out.next hb4)
  have B6 := Lib.hid (B6.out.next hb4)
  have B7 := Lib.hid (B7.out.next hb4)
  have B9 := Lib.hid (B9.out.next hb4)
  clear hb4
  have hh := blk5 K3.out.k2
  obtain ⟨h0, h1, h2, h3, h4⟩ := hh
  obtain ⟨n0, n1, n2, n3⟩ := blk_cells B9.out.k
  have g0 := (HE.out _ K3.out.bel).o0
  have g1 := (HE.out _ K3.out.bel).o1
  obtain ⟨m0, m1, _, _⟩ := blk_cells B6.out.k
  go_wp2_with fail
  clear h0 h1 h2 h3 h4 n0 n1 n2 n3 g0 g1 m0 m1
  obtain ⟨V, hV⟩ : ∃ W, W = w4 := ⟨_, rfl⟩
  have KV := Lib.hid K3.out
  have V6 := Lib.hid B6.out
  have V7 := Lib.hid B7.out
  have V9 := Lib.hid (show Bs w (w1.heap.size + 1 + 1) #[.bool false, .string (mag L)] w4 by rw [HL.out]; exact B9.out)
  rw [← hV] at KV V6 V7 V9
  rw [← hV]
  clear hV K3 B6 B7 B9
  refine (HAB2.out _).mono ?_
  rintro e w6 ⟨rfl, hb6⟩
  have KV := Lib.hid (KV.out.next hb6)
  have V6 := Lib.hid (V6.out.next hb6)
  have V7 := Lib.hid (V7.out.next hb6)
  have V9 := Lib.hid (V9.out.next hb6)
  clear hb6
  cases r
  · have hn : ¬ Blw c d oc L 1 := fun h => by have := HR.out.2 h; cases this
    rw [← HLL.out] at hn
    obtain ⟨_, hcd, hin2, _⟩ := inn_turn HB.out HIN.out hn
    have hless := simp_less HB.out HIN.out hn
    have HTURN := Lib.hid (fun n m h => simp_turn (n := n) (m := m) HB.out HIN.out hn h)
    obtain ⟨U, hU⟩ : ∃ U, c - a / b * d = U := ⟨_, rfl⟩
    rw [hU] at hin2 hless HTURN
    have hU0 : 0 < U := by omega
    have sU : (mag U).size ≤ 5000 := Nat.le_trans (nd_mono (by omega)) HSZ.out.2.2.1
    have sM : (mag (a / b * d)).size ≤ 10000 := Nat.le_trans (nd_mul _ _) (by have := HSZ.out.2.2.2.1; unfold nd; omega)
    have HMU := Lib.hid (fun V => mul_f (z := ((a / b * d : Nat) : Int)) (enc_mag (a / b)) (enc_mag d) (by omega) (by have := HSZ.out.2.2.2.1; omega) (enc_mag _) (by rw [Int.natCast_mul]) V)
    have HSU := Lib.hid (fun V => sub_f (z := (U : Int)) (enc_mag c) (enc_mag (a / b * d)) (by have := HSZ.out.2.2.1; omega) (by omega) (enc_mag _) (by rw [← hU]; omega) V)
    have HIH := Lib.hid (fun V (hV : Env V) => HI.out d U oc b (a % b) false q (p - a / b * q) V (by have := HFU.out; omega) hU0 hin2 HSZ.out.2.2.2.1 sU HSZ.out.2.1 sr HSZ.out.2.2.2.2.2 (Nat.le_trans (nd_mono (Nat.sub_le _ _)) HSZ.out.2.2.2.2.1) hV)
    have HIN2 := Lib.hid hin2
    generalize mag (a / b * d) = md' at *
    obtain ⟨h0, h1, h2, h3, h4⟩ := blk5 KV.out.k2
    obtain ⟨m0, m1, _, _⟩ := blk_cells V6.out.k
    have M6 : w1.heap.size < w6.heap.size := V6.out.lt
    have M7 : w1.heap.size + 1 < w6.heap.size := V7.out.lt
    obtain ⟨i0, i1, i2, i3, i4⟩ := blk5 (KV.out.next (below_new w6 (.cells #[.bool false, .string ⟨#[]⟩] 23))).k2
    obtain ⟨j0, j1, _, _⟩ := blk_cells (V6.out.next (below_new w6 (.cells #[.bool false, .string ⟨#[]⟩] 23))).k
    clear hn hcd hin2 hless hU hU0 V9
    go_upto_region 7 with fail
    go_cut [10] (fun s10 wx => ∃ g10, s10 = .pointer (some ⟨g10, 0, none⟩) ∧ R7 w #[.bool false, .string (mag a), .bool false, .string (mag b), .bool false] #[.bool false, .string (mag c), .bool false, .string (mag d), .bool oc] #[.bool false, .string (mag (a / b))] #[.bool false, .string (mag (a % b))] #[.bool false, .string (mag U)] w1.heap.size (w1.heap.size + 1) g10 wx)
    case first =>
      go_region_law (first
        | (go_simp; go_at_call 79; (with_reducible refine (HMU.out _).mono ?_); rintro e w7 ⟨rfl, hb7⟩; (first | (have hs7 := st_drew (V := w6) hb7) | (have hs7 := st_new_drew (V := w6) hb7; have NN := Lib.hid (((Bs.new (w := w) w6 #[.bool false, .string ⟨#[]⟩] KV.out.sz).next (Below.refl _ _).drew).next hb7))); have KV := Lib.hid (KV.out.next hs7); have V6 := Lib.hid (V6.out.next hs7); have V7 := Lib.hid (V7.out.next hs7); have N7 := hs7.size; obtain ⟨h0, h1, h2, h3, h4⟩ := blk5 KV.out.k2; obtain ⟨i0, i1, i2, i3, i4⟩ := blk5 (KV.out.next (below_new w7 (.cells #[.bool false, .string ⟨#[]⟩] 23))).k2; clear hb7 hs7)
        | (go_simp; go_at_call 73; (with_reducible refine (HSU.out _).mono ?_); rintro e w8 ⟨rfl, hb8⟩; (first
            | (have KV := Lib.hid (KV.out.next hb8); have V6 := Lib.hid (V6.out.next hb8); have V7 := Lib.hid (V7.out.next hb8); (first | (have NN := Lib.hid (NN.out.next hb8); obtain ⟨p0, p1, p2, p3⟩ := blk_cells NN.out.k) | skip); clear hb8)
            | (have hs8 := st_new (V := w7) hb8; have NN := Lib.hid ((Bs.new (w := w) w7 #[.bool false, .string ⟨#[]⟩] KV.out.sz).next hb8); obtain ⟨p0, p1, p2, p3⟩ := blk_cells NN.out.k; have KV := Lib.hid (KV.out.next hs8); have V6 := Lib.hid (V6.out.next hs8); have V7 := Lib.hid (V7.out.next hs8); clear hb8 hs8))))
      all_goals
        go_wp2_with fail
        go_meet
        first
        | exact ⟨_, rfl, R7.late KV.out V6.out V7.out _⟩
        | exact ⟨_, rfl, R7.early KV.out V6.out V7.out NN.out (by omega) (by omega) _ _⟩
    case rest =>
      obtain ⟨g10, rfl, hR⟩ := hcut
      have RR := Lib.hid hR
      obtain ⟨h0, h1, h2, h3, h4⟩ := blk5 RR.out.k.k2
      obtain ⟨l0, l1, l2, l3, l4⟩ := blk5 RR.out.k.k1
      obtain ⟨n0, n1, _, _⟩ := blk_cells RR.out.b10.k
      obtain ⟨o0, o1, _, _⟩ := blk_cells RR.out.b7.k
      clear hR KV V6 V7
      go_wp2_with fail
      refine (HIH.out _ (HE.out _ RR.out.k.bel)).mono ?_
      rintro e w9 ⟨n, m, rfl, hsm, hb9⟩
      have HFIN := Lib.hid (HTURN.out n m hsm)
      have hmin := hsm.min q (p - a / b * q) HIN2.out
      have sn : (mag n).size ≤ 5000 := Nat.le_trans (nd_mono hmin.1) HSZ.out.2.2.2.2.2
      have sm : (mag m).size ≤ 5000 := Nat.le_trans (nd_mono hmin.2) (Nat.le_trans (nd_mono (Nat.sub_le _ _)) HSZ.out.2.2.2.2.1)
      have sN : (mag (a / b * n)).size ≤ 10000 := Nat.le_trans (nd_mul _ _) (by unfold nd; omega)
      have HM2 := Lib.hid (fun V => mul_f (z := ((a / b * n : Nat) : Int)) (enc_mag (a / b)) (enc_mag n) (by omega) (by omega) (enc_mag _) (by rw [Int.natCast_mul]) V)
      have HA2 := Lib.hid (fun V => add_f (z := ((a / b * n + m : Nat) : Int)) (enc_mag (a / b * n)) (enc_mag m) (by omega) (by omega) (enc_mag _) (by rw [Int.natCast_add]) V)
      have K9 := Lib.hid (RR.out.k.next hb9)
      have B6 := Lib.hid (RR.out.b6.next hb9)
      obtain ⟨t0, t1, t2, t3⟩ := blk_cells K9.out.k3
      obtain ⟨t4, t5, t6, t7⟩ := blk_cells K9.out.k4
      have KW := Lib.hid ((K9.out.set4 (.bool false) (.string (mag n))).set3 (.bool false) (.string (mag m)))
      have BW := Lib.hid ((B6.out.set4 (.bool false) (.string (mag n))).set3 (.bool false) (.string (mag m)))
      clear h0 h1 h2 h3 h4 l0 l1 l2 l3 l4 n0 n1 o0 o1 hsm hmin hb9 RR
      generalize mag (a / b * n) = mfn at *
      generalize hres : mag (a / b * n + m) = mres at *
      have HRES := Lib.hid hres
      generalize hmn : mag n = mn at *
      have HMN := Lib.hid hmn
      generalize mag m = mm at *
      generalize mag (a / b) = mf at *
      clear hres hmn
      go_wp2_with fail
      clear t0 t1 t2 t3 t4 t5 t6 t7
      obtain ⟨W, hW⟩ : ∃ W, W = ((((w9.setCell ⟨w.heap.size + 1 + 1 + 1, 0, none⟩ (.bool false)).setCell ⟨w.heap.size + 1 + 1 + 1, 1, none⟩ (.string mn)).setCell ⟨w.heap.size + 1 + 1, 0, none⟩ (.bool false)).setCell ⟨w.heap.size + 1 + 1, 1, none⟩ (.string mm)) := ⟨_, rfl⟩
      rw [← hW]
      have KW' := Lib.hid ((show Kd w _ _ _ _ W by rw [hW]; exact KW.out).next (Below.refl _ _).drew)
      have BW' := Lib.hid ((show Bs w _ _ W by rw [hW]; exact BW.out).next (Below.refl _ _).drew)
      obtain ⟨x0, x1, _, _⟩ := blk_cells (show Kd w _ _ _ _ W by rw [hW]; exact KW.out).k3
      clear KW BW hW
      have hHeld : W.drew.cell? ⟨w1.heap.size, 0, none⟩ = some (.bool false) ∧ W.drew.cell? ⟨w1.heap.size, 1, none⟩ = some (.string mf) ∧ W.drew.cell? ⟨w.heap.size + 1 + 1 + 1, 0, none⟩ = some (.bool false) ∧ W.drew.cell? ⟨w.heap.size + 1 + 1 + 1, 1, none⟩ = some (.string mn) := ⟨(blk_cells BW'.out.k).1, (blk_cells BW'.out.k).2.1, (blk_cells KW'.out.k4).1, (blk_cells KW'.out.k4).2.1⟩
      have HH := Lib.hid hHeld
      clear hHeld
      refine wp_region_late (S := fun w' => w'.cell? ⟨w1.heap.size, 0, none⟩ = some (.bool false) ∧ w'.cell? ⟨w1.heap.size, 1, none⟩ = some (.string mf) ∧ w'.cell? ⟨w.heap.size + 1 + 1 + 1, 0, none⟩ = some (.bool false) ∧ w'.cell? ⟨w.heap.size + 1 + 1 + 1, 1, none⟩ = some (.string mn)) (L := [7]) (by kernel_rfl) ?_
      have hHeld := HH.out
      refine wpLate_take (i := 0) (oi := ⟨some 59, _, _, _, _, _⟩) (v := ?_) rfl (by kernel_rfl) (by kernel_rfl) (by kernel_rfl) (by kernel_rfl) (by kernel_rfl) (fun _ _ _ h => h) (Or.inl ⟨by rfl, ?_⟩) hHeld ?_
      rotate_left
      · intro w hSw; (try dsimp only at hSw); (first | (go_simp; done) | (go_simp; with_reducible rfl))
      try simp only [Act.put, List.setIfInBounds_toArray, List.set_cons_zero, List.set_cons_succ]
      refine wpLate_take (i := 1) (oi := ⟨some 60, _, _, _, _, _⟩) (v := ?_) rfl (by kernel_rfl) (by kernel_rfl) (by kernel_rfl) (by kernel_rfl) (by kernel_rfl) (fun _ _ _ h => h) (Or.inl ⟨by rfl, ?_⟩) hHeld ?_
      rotate_left
      · intro w hSw; (try dsimp only at hSw); (first | (go_simp; done) | (go_simp; with_reducible rfl))
      try simp only [Act.put, List.setIfInBounds_toArray, List.set_cons_zero, List.set_cons_succ]
      refine wpLate_take (i := 5) (oi := ⟨some 64, _, _, _, _, _⟩) (v := ?_) rfl (by kernel_rfl) (by kernel_rfl) (by kernel_rfl) (by kernel_rfl) (by kernel_rfl) (fun _ _ _ h => h) (Or.inl ⟨by rfl, ?_⟩) hHeld ?_
      rotate_left
      · intro w hSw; (try dsimp only at hSw); (first | (go_simp; done) | (go_simp; with_reducible rfl))
      try simp only [Act.put, List.setIfInBounds_toArray, List.set_cons_zero, List.set_cons_succ]
      clear hHeld
      refine wpLate_two (i := 2) (j := 3) (o := ⟨some 61, _, _, _, _, _⟩) (o' := ⟨some 62, _, _, _, _, _⟩) (by kernel_rfl) rfl rfl (fun K hK => ?_) (fun K hK => ?_)
      · go_simp
        (go_at_call 79; refine (HM2.out _).mono ?_; rintro e w10 ⟨rfl, hbw10⟩; have KW' := Lib.hid (KW'.out.next hbw10); have BW' := Lib.hid (BW'.out.next hbw10); clear hbw10)
        try go_wp2_with fail
        refine hK.out _ _ (Or.inr (fun _ => ⟨(blk_cells BW'.out.k).1, (blk_cells BW'.out.k).2.1, (blk_cells KW'.out.k4).1, (blk_cells KW'.out.k4).2.1⟩)) ?_
        clear hK K
        try simp only [Act.put, List.setIfInBounds_toArray, List.set_cons_zero, List.set_cons_succ]
        obtain ⟨x0, x1, _, _⟩ := blk_cells KW'.out.k3
        refine wpLate_one (i := 3) (o := ⟨some 62, _, _, _, _, _⟩) (by kernel_rfl) rfl (fun K hK => ?_)
        go_simp
        refine hK.out _ _ (Or.inr id) ?_
        clear hK K
        try simp only [Act.put, List.setIfInBounds_toArray, List.set_cons_zero, List.set_cons_succ]
        clear x0 x1
        refine wpLate_one (i := 4) (o := ⟨some 63, _, _, _, _, _⟩) (by kernel_rfl) rfl (fun K hK => ?_)
        go_simp
        (go_at_call 72; refine (HA2.out _).mono ?_; rintro e w11 ⟨rfl, hbw11⟩; have KW' := Lib.hid (KW'.out.next hbw11); have BW' := Lib.hid (BW'.out.next hbw11); clear hbw11)
        try go_wp2_with fail
        refine hK.out _ _ (Or.inr (fun _ => ⟨(blk_cells BW'.out.k).1, (blk_cells BW'.out.k).2.1, (blk_cells KW'.out.k4).1, (blk_cells KW'.out.k4).2.1⟩)) ?_
        clear hK K
        try simp only [Act.put, List.setIfInBounds_toArray, List.set_cons_zero, List.set_cons_succ]
        have KX := Lib.hid (KW'.out.set3 (.bool false) (.string mres))
        have BX := Lib.hid (BW'.out.set3 (.bool false) (.string mres))
        obtain ⟨z0, z1, z2, z3⟩ := blk_cells KW'.out.k3
        obtain ⟨y0, y1, y2, y3⟩ := blk_cells KW'.out.k4
        have KY := Lib.hid (KX.out.set4 (.bool false) (.string mn))
        obtain ⟨r0, r1, _, _⟩ := blk_cells KY.out.k3
        obtain ⟨r2, r3, _, _⟩ := blk_cells KY.out.k4
        refine wpLate_one (i := 6) (o := ⟨none, _, _, _, _, _⟩) (by kernel_rfl) rfl (fun K hK => ?_)
        go_simp
        refine hK.out _ _ (Or.inr (fun _ => ⟨(blk_cells BX.out.k).1, (blk_cells BX.out.k).2.1, (blk_cells KX.out.k4).1, (blk_cells KX.out.k4).2.1⟩)) ?_
        clear hK K
        try simp only [Act.put, List.setIfInBounds_toArray, List.set_cons_zero, List.set_cons_succ]
        refine wpLate_one (i := 7) (o := ⟨none, _, _, _, _, _⟩) (by kernel_rfl) rfl (fun K hK => ?_)
        go_simp
        refine hK.out _ _ (Or.inl (by rfl)) ?_
        clear hK K
        try simp only [Act.put, List.setIfInBounds_toArray, List.set_cons_zero, List.set_cons_succ]
        refine wpLate_done (by kernel_rfl) ?_ _
        clear z0 z1 z2 z3 y0 y1 y2 y3
        go_wp2
        exact bodyPost_ret (v := .tuple #[.agg #[.bool false, .string mres], .agg #[.bool false, .string mn]]) (by simp [results, Tryz.results87, go_sem, r0, r1, r2, r3]) rfl ⟨_, n, by rw [HRES.out, HMN.out], HFIN.out, KY.out.bel⟩
      · go_simp
        refine hK.out _ _ (Or.inr id) ?_
        clear hK K
        try simp only [Act.put, List.setIfInBounds_toArray, List.set_cons_zero, List.set_cons_succ]
        clear x0 x1
        refine wpLate_one (i := 2) (o := ⟨some 61, _, _, _, _, _⟩) (by kernel_rfl) rfl (fun K hK => ?_)
        go_simp
        (go_at_call 79; refine (HM2.out _).mono ?_; rintro e w10 ⟨rfl, hbw10⟩; have KW' := Lib.hid (KW'.out.next hbw10); have BW' := Lib.hid (BW'.out.next hbw10); clear hbw10)
        try go_wp2_with fail
        refine hK.out _ _ (Or.inr (fun _ => ⟨(blk_cells BW'.out.k).1, (blk_cells BW'.out.k).2.1, (blk_cells KW'.out.k4).1, (blk_cells KW'.out.k4).2.1⟩)) ?_
        clear hK K
        try simp only [Act.put, List.setIfInBounds_toArray, List.set_cons_zero, List.set_cons_succ]
        refine wpLate_one (i := 4) (o := ⟨some 63, _, _, _, _, _⟩) (by kernel_rfl) rfl (fun K hK => ?_)
        go_simp
        (go_at_call 72; refine (HA2.out _).mono ?_; rintro e w11 ⟨rfl, hbw11⟩; have KW' := Lib.hid (KW'.out.next hbw11); have BW' := Lib.hid (BW'.out.next hbw11); clear hbw11)
        try go_wp2_with fail
        refine hK.out _ _ (Or.inr (fun _ => ⟨(blk_cells BW'.out.k).1, (blk_cells BW'.out.k).2.1, (blk_cells KW'.out.k4).1, (blk_cells KW'.out.k4).2.1⟩)) ?_
        clear hK K
        try simp only [Act.put, List.setIfInBounds_toArray, List.set_cons_zero, List.set_cons_succ]
        have KX := Lib.hid (KW'.out.set3 (.bool false) (.string mres))
        have BX := Lib.hid (BW'.out.set3 (.bool false) (.string mres))
        obtain ⟨z0, z1, z2, z3⟩ := blk_cells KW'.out.k3
        obtain ⟨y0, y1, y2, y3⟩ := blk_cells KW'.out.k4
        have KY := Lib.hid (KX.out.set4 (.bool false) (.string mn))
        obtain ⟨r0, r1, _, _⟩ := blk_cells KY.out.k3
        obtain ⟨r2, r3, _, _⟩ := blk_cells KY.out.k4
        refine wpLate_one (i := 6) (o := ⟨none, _, _, _, _, _⟩) (by kernel_rfl) rfl (fun K hK => ?_)
        go_simp
        refine hK.out _ _ (Or.inr (fun _ => ⟨(blk_cells BX.out.k).1, (blk_cells BX.out.k).2.1, (blk_cells KX.out.k4).1, (blk_cells KX.out.k4).2.1⟩)) ?_
        clear hK K
        try simp only [Act.put, List.setIfInBounds_toArray, List.set_cons_zero, List.set_cons_succ]
        refine wpLate_one (i := 7) (o := ⟨none, _, _, _, _, _⟩) (by kernel_rfl) rfl (fun K hK => ?_)
        go_simp
        refine hK.out _ _ (Or.inl (by rfl)) ?_
        clear hK K
        try simp only [Act.put, List.setIfInBounds_toArray, List.set_cons_zero, List.set_cons_succ]
        refine wpLate_done (by kernel_rfl) ?_ _
        clear z0 z1 z2 z3 y0 y1 y2 y3
        go_wp2
        exact bodyPost_ret (v := .tuple #[.agg #[.bool false, .string mres], .agg #[.bool false, .string mn]]) (by simp [results, Tryz.results87, go_sem, r0, r1, r2, r3]) rfl ⟨_, n, by rw [HRES.out, HMN.out], HFIN.out, KY.out.bel⟩
  · have HSI := Lib.hid (show Simp a b false c d oc L 1 by rw [← HLL.out]; exact simp_int HB.out (by rw [HLL.out]; exact HR.out.1 rfl))
    have K4' := Lib.hid (((KV.out.next (Below.refl _ _).drew).set3 (.bool false) (.string (mag L))).set4 (.bool false) (.string ⟨#[1]⟩))
    obtain ⟨n0, n1, _, _⟩ := blk_cells V9.out.k
    have g0 := (HE.out _ KV.out.bel).o0
    have g1 := (HE.out _ KV.out.bel).o1
    obtain ⟨t0, t1, t2, t3⟩ := blk_cells KV.out.k3
    obtain ⟨t4, t5, t6, t7⟩ := blk_cells KV.out.k4
    clear V6 V7 V9
    go_wp2_with fail
    have K5' := Lib.hid (((KV.out.next (Below.refl _ _).drew).set4 (.bool false) (.string ⟨#[1]⟩)).set3 (.bool false) (.string (mag L)))
    go_region_law (fail)
    all_goals
      go_wp2
      exact bodyPost_ret (v := .tuple #[.agg #[.bool false, .string (mag L)], .agg #[.bool false, .string ⟨#[1]⟩]]) (by simp [results, Tryz.results87, go_sem, t0, t1, t4, t5]) rfl ⟨L, 1, by rw [mag_one], HSI.out, by first | exact K4'.out.bel | exact K5'.out.bel⟩
end Go.Proofs.YtahehlajpaoiiaaGreatDoor


namespace Go.Proofs.YtahehlajpaoiiaaGreatDoor
open Go.RowKit

theorem simplest_step (F : Nat) (HI : Hid (Ih F)) (a b : Nat) (oa : Bool) (c d : Nat) (oc : Bool) (p q : Nat) (w : World) (hF : simpFuel a b c d < F + 1) (hb : 0 < b) (hin : Inn a b oa c d oc p q) (sa : (mag a).size ≤ 5000) (sb : (mag b).size ≤ 5000) (sc : (mag c).size ≤ 5000) (sd : (mag d).size ≤ 5000) (sp : (mag p).size ≤ 5000) (sq : (mag q).size ≤ 5000) (hE : Env w) :
    Calls Tryz.prog 87 #[.agg #[.bool false, .string (mag a), .bool false, .string (mag b), .bool oa], .agg #[.bool false, .string (mag c), .bool false, .string (mag d), .bool oc]] w (RetSm w a b oa c d oc) := by
  have hcase : (oa = true ∧ leastOf a b oa = a / b + 1) ∨ (oa = false ∧ Int.sign ((a % b : Nat) : Int) = 1 ∧ leastOf a b oa = a / b + 1) ∨ (oa = false ∧ Int.sign ((a % b : Nat) : Int) = 0 ∧ leastOf a b oa = a / b) := by
    unfold leastOf
    cases oa
    · rcases Nat.eq_zero_or_pos (a % b) with h | h
      · exact .inr (.inr ⟨rfl, by rw [h]; rfl, by rw [if_neg (by simp [h])]⟩)
      · exact .inr (.inl ⟨rfl, Int.sign_eq_one_of_pos (by omega), by rw [if_pos (.inr h)]⟩)
    · exact .inl ⟨rfl, by rw [if_pos (.inl rfl)]⟩
  rcases hcase with h | h | h
  · exact simplest_step1 F HI a b oa c d oc p q w hF hb hin sa sb sc sd sp sq hE h
  · exact simplest_step2 F HI a b oa c d oc p q w hF hb hin sa sb sc sd sp sq hE h
  · exact simplest_step3 F HI a b oa c d oc p q w hF hb hin sa sb sc sd sp sq hE h

theorem simplest_ih (F : Nat) : Ih F := by
  induction F with
  | zero => exact fun _ _ _ _ _ _ _ _ _ h => absurd h (by omega)
  | succ F ih => exact fun a b oa c d oc p q w hF hb hin sa sb sc sd sp sq hE => simplest_step F (Lib.hid ih) a b oa c d oc p q w hF hb hin sa sb sc sd sp sq hE
end Go.Proofs.YtahehlajpaoiiaaGreatDoor


namespace Go.Proofs.YtahehlajpaoiiaaGreatDoor
open Go.RowKit
attribute [local go_sem ↓] Go.wp_at_zero Go.wp_at_succ

def cmpQ (a b : Rat) : Int := cmpZ (a.num * (b.den : Int)) (b.num * (a.den : Int))

theorem cmpZ_scale {x y d : Int} (hd : 0 < d) : cmpZ (x * d) (y * d) = cmpZ x y := by
  rcases Int.lt_trichotomy x y with h | h | h
  · rw [cmpZ_lt h, cmpZ_lt (Int.mul_lt_mul_of_pos_right h hd)]
  · rw [cmpZ_eq0 h, cmpZ_eq0 (by rw [h])]
  · rw [cmpZ_gt h, cmpZ_gt (Int.mul_lt_mul_of_pos_right h hd)]

theorem cmpQ_den {p q : Rat} (h : p.den = q.den) : cmpQ p q = cmpZ p.num q.num := by
  unfold cmpQ
  rw [h, cmpZ_scale (by have := q.den_pos; omega)]

theorem sgn3 (x : Int) {d : Int} (hd : 0 < d) : (x < 0 ∧ x.sign = -1 ∧ x * d < 0) ∨ (x = 0 ∧ x.sign = 0 ∧ x * d = 0) ∨ (0 < x ∧ x.sign = 1 ∧ 0 < x * d) := by
  rcases Int.lt_trichotomy x 0 with h | h | h
  · exact .inl ⟨h, Int.sign_eq_neg_one_of_neg h, Int.mul_neg_of_neg_of_pos h hd⟩
  · exact .inr (.inl ⟨h, by rw [h]; rfl, by rw [h, Int.zero_mul]⟩)
  · exact .inr (.inr ⟨h, Int.sign_eq_one_of_pos h, Int.mul_pos h hd⟩)

theorem cmpQ_sign {p q : Rat} (h : p.num.sign ≠ q.num.sign) : cmpQ p q = Lib.compareInt p.num.sign q.num.sign := by
  unfold cmpQ
  have h1 := sgn3 p.num (d := (q.den : Int)) (by have := q.den_pos; omega)
  have h2 := sgn3 q.num (d := (p.den : Int)) (by have := p.den_pos; omega)
  generalize p.num * (q.den : Int) = X at *
  generalize q.num * (p.den : Int) = Y at *
  have h3 : (p.num.sign < q.num.sign ∧ X < Y) ∨ (q.num.sign < p.num.sign ∧ Y < X) := by omega
  rcases h3 with ⟨h4, h5⟩ | ⟨h4, h5⟩
  · rw [cmpZ_lt h5, compareInt_lt h4]
  · rw [cmpZ_gt h5, compareInt_gt h4]

theorem dm_inj {d e : Nat} (h : dm d = dm e) (hd : d ≠ 0) (he : e ≠ 0) : d = e := by
  unfold dm at h
  by_cases h1 : d = 1 <;> by_cases h2 : e = 1
  · omega
  · rw [if_pos h1, if_neg h2] at h
    have := mag_inj h
    omega
  · rw [if_neg h1, if_pos h2] at h
    have := mag_inj h
    omega
  · rw [if_neg h1, if_neg h2] at h
    exact mag_inj h

theorem Rq.eq_of {p q : Rat} {b : Bool} {m k : ByteArray} (hp : Rq p b m k) (hq : Rq q b m k) : p = q := by
  obtain ⟨e1, e2⟩ := enc_parts hp.num
  obtain ⟨e3, e4⟩ := enc_parts hq.num
  have h1 : p.num.natAbs = q.num.natAbs := mag_inj (e2.symm.trans e4)
  have h2 : decide (p.num < 0) = decide (q.num < 0) := e1.symm.trans e3
  have h3 : (p.num < 0) ↔ (q.num < 0) := by simpa using h2
  refine Rat.ext (by omega) ?_
  exact dm_inj (hp.den.symm.trans hq.den) p.den_nz q.den_nz

set_option maxHeartbeats 4000000 in
set_option maxRecDepth 100000 in
theorem ratCompare_f {p q : Rat} {b1 b2 : Bool} {m1 m2 k1 k2 : ByteArray} (hp : Rq p b1 m1 k1) (hq : Rq q b2 m2 k2) (s1 : m1.size ≤ 10000) (s2 : m2.size ≤ 10000) (s3 : (mag p.den).size ≤ 10000) (s4 : (mag q.den).size ≤ 10000) (w : World) (hE : Env w) :
    Calls Tryz.prog 38 #[.agg #[.bool b1, .string m1, .bool false, .string k1], .agg #[.bool b2, .string m2, .bool false, .string k2]] w (RetB w (.int .i64 (cmpQ p q))) := by
  have HS1 := Lib.hid (fun V => ratSign_f hp V)
  have HS2 := Lib.hid (fun V => ratSign_f hq V)
  have HE := Lib.hid (fun V (h : Below w.heap.size w V) => hE.next h)
  have KK := Lib.hid (Kb.start w #[.bool b1, .string m1, .bool false, .string k1] #[.bool b2, .string m2, .bool false, .string k2] 25 25).drew
  have hc : p.num.sign ≠ q.num.sign → cmpQ p q = Lib.compareInt p.num.sign q.num.sign := cmpQ_sign
  have HCS := Lib.hid hc
  have hsb : p.num.sign = q.num.sign → b1 = b2 := fun h => by
    rw [hp.mag.1, hq.mag.1]
    have h1 := sgn3 p.num (d := 1) (by omega)
    have h2 := sgn3 q.num (d := 1) (by omega)
    have h3 : (p.num < 0) ↔ (q.num < 0) := by omega
    simp [h3]
  have hsm : b1 = b2 → m1 = m2 → p.num.sign = q.num.sign := fun h1 h2 => by
    have h3 : enc p.num = enc q.num := by rw [hp.num, hq.num, h1, h2]
    have h4 : p.num = q.num := by
      have e := hp.num
      rw [h1, h2, ← hq.num] at e
      have e1 := (enc_parts hp.num)
      have e2 := (enc_parts hq.num)
      have h5 : p.num.natAbs = q.num.natAbs := mag_inj (e1.2.symm.trans (h2.trans e2.2))
      have h6 : decide (p.num < 0) = decide (q.num < 0) := e1.1.symm.trans (h1.trans e2.1)
      have h7 : (p.num < 0) ↔ (q.num < 0) := by simpa using h6
      omega
    rw [h4]
  have heq : b1 = b2 → m1 = m2 → k1 = k2 → p = q := fun h1 h2 h3 => by subst h1; subst h2; subst h3; exact hp.eq_of hq
  have hkd : k1 = k2 → cmpQ p q = cmpZ p.num q.num := fun h => cmpQ_den (dm_inj (hp.den.symm.trans (h.trans hq.den)) p.den_nz q.den_nz)
  have HN := Lib.hid (fun V => Compare_f hp.num hq.num V)
  obtain ⟨bx, mx, hx⟩ := enc_form (p.num * (q.den : Int))
  obtain ⟨by', my, hy⟩ := enc_form (q.num * (p.den : Int))
  have HD1 := Lib.hid (fun V (hV : Env V) => den_f hq V hV)
  have HD2 := Lib.hid (fun V (hV : Env V) => den_f hp V hV)
  have HT1 := Lib.hid (fun V (hV : Env V) => ratTimes_f hp.num (enc_mag q.den) hx rfl (by omega) (by omega) V hV)
  have HT2 := Lib.hid (fun V (hV : Env V) => ratTimes_f hq.num (enc_mag p.den) hy rfl (by omega) (by omega) V hV)
  have HCC := Lib.hid (fun V => Compare_f hx hy V)
  have HZ := Lib.hid (show cmpZ (p.num * (q.den : Int)) (q.num * (p.den : Int)) = cmpQ p q from rfl)
  have h0 : p = q → cmpQ p q = 0 := fun h => by subst h; unfold cmpQ; exact cmpZ_eq0 rfl
  generalize cmpZ (p.num * (q.den : Int)) (q.num * (p.den : Int)) = zz at *
  generalize cmpZ p.num q.num = zn at *
  generalize cmpQ p q = z at *
  generalize hsp : p.num.sign = sp at *
  generalize hsq : q.num.sign = sq at *
  generalize mag p.den = dp at *
  generalize mag q.den = dq at *
  have hdec : b1 = b2 → m1 = m2 → k1 = k2 → z = 0 := fun h1 h2 h3 => h0 (heq h1 h2 h3)
  clear heq h0 hp hq hx hy hE hc hsp hsq s1 s2 s3 s4
  by_cases hs : sp = sq
  · have hb := hsb hs
    subst hs
    subst hb
    by_cases hk : k1 = k2
    · subst hk
      by_cases hm : m1 = m2
      · subst hm
        have HZ0 := Lib.hid (hdec rfl rfl rfl)
        clear hdec hsm hkd
        have HK1 := Lib.hid hsb
        obtain ⟨p0, p1, p2, p3⟩ := blk4 KK.out.k1
        obtain ⟨p4, p5, p6, p7⟩ := blk4 KK.out.k2
        clear hsb
        go_enter Tryz.func38, Tryz.ntmps38
        go_wp2_with fail
        go_region_held3 (fun w' => w'.cell? ⟨w.heap.size, 0, none⟩ = some (.bool b1) ∧ w'.cell? ⟨w.heap.size, 1, none⟩ = some (.string m1) ∧ w'.cell? ⟨w.heap.size, 2, none⟩ = some (.bool false) ∧ w'.cell? ⟨w.heap.size, 3, none⟩ = some (.string k1) ∧ w'.cell? ⟨w.heap.size + 1, 0, none⟩ = some (.bool b1) ∧ w'.cell? ⟨w.heap.size + 1, 1, none⟩ = some (.string m1) ∧ w'.cell? ⟨w.heap.size + 1, 2, none⟩ = some (.bool false) ∧ w'.cell? ⟨w.heap.size + 1, 3, none⟩ = some (.string k1))
          (first
            | exact ⟨r0, r1, r2, r3, r4, r5, r6, r7⟩
            | exact ⟨q0, q1, q2, q3, q4, q5, q6, q7⟩
            | exact ⟨p0, p1, p2, p3, p4, p5, p6, p7⟩
            | go_keep)
          (first
            | (go_at_call 40; (with_reducible refine (HS1.out _).mono ?_); rintro e w1 ⟨rfl, hb1⟩; have K1 := Lib.hid (KK.out.next hb1); obtain ⟨q0, q1, q2, q3⟩ := blk4 K1.out.k1; obtain ⟨q4, q5, q6, q7⟩ := blk4 K1.out.k2)
            | (go_at_call 40; (with_reducible refine (HS2.out _).mono ?_); rintro e w2 ⟨rfl, hb2⟩; have K2 := Lib.hid (K1.out.next hb2); obtain ⟨r0, r1, r2, r3⟩ := blk4 K2.out.k1; obtain ⟨r4, r5, r6, r7⟩ := blk4 K2.out.k2))
        clear hb1 hb2 p0 p1 p2 p3 p4 p5 p6 p7 q0 q1 q2 q3 q4 q5 q6 q7
        go_wp2
        go_ret
        exact ⟨by rw [HZ0.out]; rfl, K2.out.bel⟩
      · have hml := (str_ne hm).2
        have hmn : ¬ m1.toList = m2.toList := by simpa using hml
        have HKD := Lib.hid (hkd rfl)
        clear hdec hsm hkd hm hml
        have HK1 := Lib.hid hsb
        obtain ⟨p0, p1, p2, p3⟩ := blk4 KK.out.k1
        obtain ⟨p4, p5, p6, p7⟩ := blk4 KK.out.k2
        clear hsb
        go_enter Tryz.func38, Tryz.ntmps38
        go_wp2_with fail
        go_region_held3 (fun w' => w'.cell? ⟨w.heap.size, 0, none⟩ = some (.bool b1) ∧ w'.cell? ⟨w.heap.size, 1, none⟩ = some (.string m1) ∧ w'.cell? ⟨w.heap.size, 2, none⟩ = some (.bool false) ∧ w'.cell? ⟨w.heap.size, 3, none⟩ = some (.string k1) ∧ w'.cell? ⟨w.heap.size + 1, 0, none⟩ = some (.bool b1) ∧ w'.cell? ⟨w.heap.size + 1, 1, none⟩ = some (.string m2) ∧ w'.cell? ⟨w.heap.size + 1, 2, none⟩ = some (.bool false) ∧ w'.cell? ⟨w.heap.size + 1, 3, none⟩ = some (.string k1))
          (first
            | exact ⟨r0, r1, r2, r3, r4, r5, r6, r7⟩
            | exact ⟨q0, q1, q2, q3, q4, q5, q6, q7⟩
            | exact ⟨p0, p1, p2, p3, p4, p5, p6, p7⟩
            | go_keep)
          (first
            | (go_at_call 40; (with_reducible refine (HS1.out _).mono ?_); rintro e w1 ⟨rfl, hb1⟩; have K1 := Lib.hid (KK.out.next hb1); obtain ⟨q0, q1, q2, q3⟩ := blk4 K1.out.k1; obtain ⟨q4, q5, q6, q7⟩ := blk4 K1.out.k2)
            | (go_at_call 40; (with_reducible refine (HS2.out _).mono ?_); rintro e w2 ⟨rfl, hb2⟩; have K2 := Lib.hid (K1.out.next hb2); obtain ⟨r0, r1, r2, r3⟩ := blk4 K2.out.k1; obtain ⟨r4, r5, r6, r7⟩ := blk4 K2.out.k2))
        clear hb1 hb2 p0 p1 p2 p3 p4 p5 p6 p7 q0 q1 q2 q3 q4 q5 q6 q7
        go_wp2_with fail
        refine (HN.out _).mono ?_
        rintro e w3 ⟨rfl, hb3⟩
        have K3 := Lib.hid (K2.out.next hb3)
        clear hb3
        go_wp2
        go_ret
        exact ⟨by rw [HKD.out]; rfl, K3.out.bel⟩
    · have hkl := (str_ne hk).2
      have hkn : ¬ k1.toList = k2.toList := by simpa using hkl
      clear hkl hk
      by_cases hm : m1 = m2
      · subst hm
        clear hdec hsm hkd
        have HK1 := Lib.hid hsb
        obtain ⟨p0, p1, p2, p3⟩ := blk4 KK.out.k1
        obtain ⟨p4, p5, p6, p7⟩ := blk4 KK.out.k2
        clear hsb
        go_enter Tryz.func38, Tryz.ntmps38
        go_wp2_with fail
        go_region_held3 (fun w' => w'.cell? ⟨w.heap.size, 0, none⟩ = some (.bool b1) ∧ w'.cell? ⟨w.heap.size, 1, none⟩ = some (.string m1) ∧ w'.cell? ⟨w.heap.size, 2, none⟩ = some (.bool false) ∧ w'.cell? ⟨w.heap.size, 3, none⟩ = some (.string k1) ∧ w'.cell? ⟨w.heap.size + 1, 0, none⟩ = some (.bool b1) ∧ w'.cell? ⟨w.heap.size + 1, 1, none⟩ = some (.string m1) ∧ w'.cell? ⟨w.heap.size + 1, 2, none⟩ = some (.bool false) ∧ w'.cell? ⟨w.heap.size + 1, 3, none⟩ = some (.string k2))
          (first
            | exact ⟨r0, r1, r2, r3, r4, r5, r6, r7⟩
            | exact ⟨q0, q1, q2, q3, q4, q5, q6, q7⟩
            | exact ⟨p0, p1, p2, p3, p4, p5, p6, p7⟩
            | go_keep)
          (first
            | (go_at_call 40; (with_reducible refine (HS1.out _).mono ?_); rintro e w1 ⟨rfl, hb1⟩; have K1 := Lib.hid (KK.out.next hb1); obtain ⟨q0, q1, q2, q3⟩ := blk4 K1.out.k1; obtain ⟨q4, q5, q6, q7⟩ := blk4 K1.out.k2)
            | (go_at_call 40; (with_reducible refine (HS2.out _).mono ?_); rintro e w2 ⟨rfl, hb2⟩; have K2 := Lib.hid (K1.out.next hb2); obtain ⟨r0, r1, r2, r3⟩ := blk4 K2.out.k1; obtain ⟨r4, r5, r6, r7⟩ := blk4 K2.out.k2))
        clear hb1 hb2 p0 p1 p2 p3 p4 p5 p6 p7 q0 q1 q2 q3 q4 q5 q6 q7
        have K2 := Lib.hid K2.out.drew
        obtain ⟨r0, r1, r2, r3⟩ := blk4 K2.out.k1
        obtain ⟨r4, r5, r6, r7⟩ := blk4 K2.out.k2
        simp only [World.cell?_drew] at r0 r1 r2 r3 r4 r5 r6 r7
        go_wp2_with fail
        go_region_held3 (fun w' => w'.cell? ⟨w.heap.size, 0, none⟩ = some (.bool b1) ∧ w'.cell? ⟨w.heap.size, 1, none⟩ = some (.string m1) ∧ w'.cell? ⟨w.heap.size, 2, none⟩ = some (.bool false) ∧ w'.cell? ⟨w.heap.size, 3, none⟩ = some (.string k1) ∧ w'.cell? ⟨w.heap.size + 1, 0, none⟩ = some (.bool b1) ∧ w'.cell? ⟨w.heap.size + 1, 1, none⟩ = some (.string m1) ∧ w'.cell? ⟨w.heap.size + 1, 2, none⟩ = some (.bool false) ∧ w'.cell? ⟨w.heap.size + 1, 3, none⟩ = some (.string k2))
          (first
            | exact ⟨r0, r1, r2, r3, r4, r5, r6, r7⟩
            | go_keep)
          (first
            | (go_at_call 20; (with_reducible refine (HD1.out _ (HE.out _ K2.out.bel)).mono ?_); rintro e w3 ⟨rfl, hb9⟩; have K2 := Lib.hid (K2.out.next hb9); obtain ⟨r0, r1, r2, r3⟩ := blk4 K2.out.k1; obtain ⟨r4, r5, r6, r7⟩ := blk4 K2.out.k2; clear hb9)
            | (go_at_call 80; (with_reducible refine (HT1.out _ (HE.out _ K2.out.bel)).mono ?_); rintro e w4 ⟨rfl, hb9⟩; have K2 := Lib.hid (K2.out.next hb9); obtain ⟨r0, r1, r2, r3⟩ := blk4 K2.out.k1; obtain ⟨r4, r5, r6, r7⟩ := blk4 K2.out.k2; clear hb9)
            | (go_at_call 20; (with_reducible refine (HD2.out _ (HE.out _ K2.out.bel)).mono ?_); rintro e w5 ⟨rfl, hb9⟩; have K2 := Lib.hid (K2.out.next hb9); obtain ⟨r0, r1, r2, r3⟩ := blk4 K2.out.k1; obtain ⟨r4, r5, r6, r7⟩ := blk4 K2.out.k2; clear hb9)
            | (go_at_call 80; (with_reducible refine (HT2.out _ (HE.out _ K2.out.bel)).mono ?_); rintro e w6 ⟨rfl, hb9⟩; have K2 := Lib.hid (K2.out.next hb9); obtain ⟨r0, r1, r2, r3⟩ := blk4 K2.out.k1; obtain ⟨r4, r5, r6, r7⟩ := blk4 K2.out.k2; clear hb9)
            | (go_at_call 83; (with_reducible refine (HCC.out _).mono ?_); rintro e w7 ⟨rfl, hb9⟩; have K2 := Lib.hid (K2.out.next hb9); obtain ⟨r0, r1, r2, r3⟩ := blk4 K2.out.k1; obtain ⟨r4, r5, r6, r7⟩ := blk4 K2.out.k2; clear hb9))
        go_wp2
        go_ret
        exact ⟨by rw [← HZ.out]; rfl, K2.out.bel⟩
      · have hml := (str_ne hm).2
        have hmn : ¬ m1.toList = m2.toList := by simpa using hml
        clear hdec hsm hkd hm hml
        have HK1 := Lib.hid hsb
        obtain ⟨p0, p1, p2, p3⟩ := blk4 KK.out.k1
        obtain ⟨p4, p5, p6, p7⟩ := blk4 KK.out.k2
        clear hsb
        go_enter Tryz.func38, Tryz.ntmps38
        go_wp2_with fail
        go_region_held3 (fun w' => w'.cell? ⟨w.heap.size, 0, none⟩ = some (.bool b1) ∧ w'.cell? ⟨w.heap.size, 1, none⟩ = some (.string m1) ∧ w'.cell? ⟨w.heap.size, 2, none⟩ = some (.bool false) ∧ w'.cell? ⟨w.heap.size, 3, none⟩ = some (.string k1) ∧ w'.cell? ⟨w.heap.size + 1, 0, none⟩ = some (.bool b1) ∧ w'.cell? ⟨w.heap.size + 1, 1, none⟩ = some (.string m2) ∧ w'.cell? ⟨w.heap.size + 1, 2, none⟩ = some (.bool false) ∧ w'.cell? ⟨w.heap.size + 1, 3, none⟩ = some (.string k2))
          (first
            | exact ⟨r0, r1, r2, r3, r4, r5, r6, r7⟩
            | exact ⟨q0, q1, q2, q3, q4, q5, q6, q7⟩
            | exact ⟨p0, p1, p2, p3, p4, p5, p6, p7⟩
            | go_keep)
          (first
            | (go_at_call 40; (with_reducible refine (HS1.out _).mono ?_); rintro e w1 ⟨rfl, hb1⟩; have K1 := Lib.hid (KK.out.next hb1); obtain ⟨q0, q1, q2, q3⟩ := blk4 K1.out.k1; obtain ⟨q4, q5, q6, q7⟩ := blk4 K1.out.k2)
            | (go_at_call 40; (with_reducible refine (HS2.out _).mono ?_); rintro e w2 ⟨rfl, hb2⟩; have K2 := Lib.hid (K1.out.next hb2); obtain ⟨r0, r1, r2, r3⟩ := blk4 K2.out.k1; obtain ⟨r4, r5, r6, r7⟩ := blk4 K2.out.k2))
        clear hb1 hb2 p0 p1 p2 p3 p4 p5 p6 p7 q0 q1 q2 q3 q4 q5 q6 q7
        have K2 := Lib.hid K2.out.drew
        obtain ⟨r0, r1, r2, r3⟩ := blk4 K2.out.k1
        obtain ⟨r4, r5, r6, r7⟩ := blk4 K2.out.k2
        simp only [World.cell?_drew] at r0 r1 r2 r3 r4 r5 r6 r7
        go_wp2_with fail
        go_region_held3 (fun w' => w'.cell? ⟨w.heap.size, 0, none⟩ = some (.bool b1) ∧ w'.cell? ⟨w.heap.size, 1, none⟩ = some (.string m1) ∧ w'.cell? ⟨w.heap.size, 2, none⟩ = some (.bool false) ∧ w'.cell? ⟨w.heap.size, 3, none⟩ = some (.string k1) ∧ w'.cell? ⟨w.heap.size + 1, 0, none⟩ = some (.bool b1) ∧ w'.cell? ⟨w.heap.size + 1, 1, none⟩ = some (.string m2) ∧ w'.cell? ⟨w.heap.size + 1, 2, none⟩ = some (.bool false) ∧ w'.cell? ⟨w.heap.size + 1, 3, none⟩ = some (.string k2))
          (first
            | exact ⟨r0, r1, r2, r3, r4, r5, r6, r7⟩
            | go_keep)
          (first
            | (go_at_call 20; (with_reducible refine (HD1.out _ (HE.out _ K2.out.bel)).mono ?_); rintro e w3 ⟨rfl, hb9⟩; have K2 := Lib.hid (K2.out.next hb9); obtain ⟨r0, r1, r2, r3⟩ := blk4 K2.out.k1; obtain ⟨r4, r5, r6, r7⟩ := blk4 K2.out.k2; clear hb9)
            | (go_at_call 80; (with_reducible refine (HT1.out _ (HE.out _ K2.out.bel)).mono ?_); rintro e w4 ⟨rfl, hb9⟩; have K2 := Lib.hid (K2.out.next hb9); obtain ⟨r0, r1, r2, r3⟩ := blk4 K2.out.k1; obtain ⟨r4, r5, r6, r7⟩ := blk4 K2.out.k2; clear hb9)
            | (go_at_call 20; (with_reducible refine (HD2.out _ (HE.out _ K2.out.bel)).mono ?_); rintro e w5 ⟨rfl, hb9⟩; have K2 := Lib.hid (K2.out.next hb9); obtain ⟨r0, r1, r2, r3⟩ := blk4 K2.out.k1; obtain ⟨r4, r5, r6, r7⟩ := blk4 K2.out.k2; clear hb9)
            | (go_at_call 80; (with_reducible refine (HT2.out _ (HE.out _ K2.out.bel)).mono ?_); rintro e w6 ⟨rfl, hb9⟩; have K2 := Lib.hid (K2.out.next hb9); obtain ⟨r0, r1, r2, r3⟩ := blk4 K2.out.k1; obtain ⟨r4, r5, r6, r7⟩ := blk4 K2.out.k2; clear hb9)
            | (go_at_call 83; (with_reducible refine (HCC.out _).mono ?_); rintro e w7 ⟨rfl, hb9⟩; have K2 := Lib.hid (K2.out.next hb9); obtain ⟨r0, r1, r2, r3⟩ := blk4 K2.out.k1; obtain ⟨r4, r5, r6, r7⟩ := blk4 K2.out.k2; clear hb9))
        go_wp2
        go_ret
        exact ⟨by rw [← HZ.out]; rfl, K2.out.bel⟩
  · have hne : (sp != sq) = true := by simpa using hs
    have HCZ := Lib.hid (HCS.out hs)
    have hmb : b1 = b2 → ¬ m1.toList = m2.toList := fun h1 h2 => hs (hsm h1 (by cases m1; cases m2; rw [ByteArray.toList_eq, ByteArray.toList_eq] at h2; simp at h2; rw [h2]))
    have HCI := Lib.hid (fun V => Tryz.cmp_Compare_int sp sq V)
    clear hdec hsm hkd hs
    by_cases hb : b1 = b2
    · subst hb
      have hmn := hmb rfl
      clear hmb
      have HK1 := Lib.hid hsb
      obtain ⟨p0, p1, p2, p3⟩ := blk4 KK.out.k1
      obtain ⟨p4, p5, p6, p7⟩ := blk4 KK.out.k2
      clear hsb
      go_enter Tryz.func38, Tryz.ntmps38
      go_wp2_with fail
      go_region_held3 (fun w' => w'.cell? ⟨w.heap.size, 0, none⟩ = some (.bool b1) ∧ w'.cell? ⟨w.heap.size, 1, none⟩ = some (.string m1) ∧ w'.cell? ⟨w.heap.size, 2, none⟩ = some (.bool false) ∧ w'.cell? ⟨w.heap.size, 3, none⟩ = some (.string k1) ∧ w'.cell? ⟨w.heap.size + 1, 0, none⟩ = some (.bool b1) ∧ w'.cell? ⟨w.heap.size + 1, 1, none⟩ = some (.string m2) ∧ w'.cell? ⟨w.heap.size + 1, 2, none⟩ = some (.bool false) ∧ w'.cell? ⟨w.heap.size + 1, 3, none⟩ = some (.string k2))
        (first
          | exact ⟨r0, r1, r2, r3, r4, r5, r6, r7⟩
          | exact ⟨q0, q1, q2, q3, q4, q5, q6, q7⟩
          | exact ⟨p0, p1, p2, p3, p4, p5, p6, p7⟩
          | go_keep)
        (first
          | (go_at_call 40; (with_reducible refine (HS1.out _).mono ?_); rintro e w1 ⟨rfl, hb1⟩; have K1 := Lib.hid (KK.out.next hb1); obtain ⟨q0, q1, q2, q3⟩ := blk4 K1.out.k1; obtain ⟨q4, q5, q6, q7⟩ := blk4 K1.out.k2)
          | (go_at_call 40; (with_reducible refine (HS2.out _).mono ?_); rintro e w2 ⟨rfl, hb2⟩; have K2 := Lib.hid (K1.out.next hb2); obtain ⟨r0, r1, r2, r3⟩ := blk4 K2.out.k1; obtain ⟨r4, r5, r6, r7⟩ := blk4 K2.out.k2))
      clear hb1 hb2 p0 p1 p2 p3 p4 p5 p6 p7 q0 q1 q2 q3 q4 q5 q6 q7
      go_wp2_with fail
      refine (HCI.out _).mono ?_
      rintro e w3 ⟨rfl, rfl⟩
      go_wp2
      go_ret
      exact ⟨by rw [HCZ.out]; rfl, K2.out.bel⟩
    · clear hmb
      have HK1 := Lib.hid hsb
      obtain ⟨p0, p1, p2, p3⟩ := blk4 KK.out.k1
      obtain ⟨p4, p5, p6, p7⟩ := blk4 KK.out.k2
      clear hsb
      go_enter Tryz.func38, Tryz.ntmps38
      go_wp2_with fail
      go_region_held3 (fun w' => w'.cell? ⟨w.heap.size, 0, none⟩ = some (.bool b1) ∧ w'.cell? ⟨w.heap.size, 1, none⟩ = some (.string m1) ∧ w'.cell? ⟨w.heap.size, 2, none⟩ = some (.bool false) ∧ w'.cell? ⟨w.heap.size, 3, none⟩ = some (.string k1) ∧ w'.cell? ⟨w.heap.size + 1, 0, none⟩ = some (.bool b2) ∧ w'.cell? ⟨w.heap.size + 1, 1, none⟩ = some (.string m2) ∧ w'.cell? ⟨w.heap.size + 1, 2, none⟩ = some (.bool false) ∧ w'.cell? ⟨w.heap.size + 1, 3, none⟩ = some (.string k2))
        (first
          | exact ⟨r0, r1, r2, r3, r4, r5, r6, r7⟩
          | exact ⟨q0, q1, q2, q3, q4, q5, q6, q7⟩
          | exact ⟨p0, p1, p2, p3, p4, p5, p6, p7⟩
          | go_keep)
        (first
          | (go_at_call 40; (with_reducible refine (HS1.out _).mono ?_); rintro e w1 ⟨rfl, hb1⟩; have K1 := Lib.hid (KK.out.next hb1); obtain ⟨q0, q1, q2, q3⟩ := blk4 K1.out.k1; obtain ⟨q4, q5, q6, q7⟩ := blk4 K1.out.k2)
          | (go_at_call 40; (with_reducible refine (HS2.out _).mono ?_); rintro e w2 ⟨rfl, hb2⟩; have K2 := Lib.hid (K1.out.next hb2); obtain ⟨r0, r1, r2, r3⟩ := blk4 K2.out.k1; obtain ⟨r4, r5, r6, r7⟩ := blk4 K2.out.k2))
      clear hb1 hb2 p0 p1 p2 p3 p4 p5 p6 p7 q0 q1 q2 q3 q4 q5 q6 q7
      go_wp2_with fail
      refine (HCI.out _).mono ?_
      rintro e w3 ⟨rfl, rfl⟩
      go_wp2
      go_ret
      exact ⟨by rw [HCZ.out]; rfl, K2.out.bel⟩
end Go.Proofs.YtahehlajpaoiiaaGreatDoor


namespace Go.Proofs.YtahehlajpaoiiaaGreatDoor
open Go.RowKit
attribute [local go_sem ↓] Go.wp_at_zero Go.wp_at_succ

theorem rt_square (N : Nat) : rt (N * N) = N := rt_unique (Nat.le_refl _) (Nat.mul_lt_mul'' (by omega) (by omega))

theorem isSq_yes (N : Nat) (hs : (mag (N * N)).size ≤ 30000) (w : World) :
    Calls Tryz.prog 89 #[.agg #[.bool false, .string (mag (N * N))]] w (RetB w (.tuple #[.agg #[.bool false, .string (mag N)], .bool true])) := by
  have hN : (mag N).size ≤ 40000 := by
    rcases Nat.eq_zero_or_pos N with h | h
    · rw [h, mag_nil]; exact Nat.zero_le _
    · have h1 : nd N ≤ nd (N * N) := nd_mono (Nat.le_mul_of_pos_left N h)
      exact Nat.le_trans h1 (by unfold nd; omega)
  have h := isSquare_f (enc_mag (N * N)) (by omega) (by omega) (br := false) (mr := mag N) (bp := false) (mp := mag (N * N)) (by rw [Int.natAbs_natCast, rt_square]; exact enc_mag N)
    (by rw [Int.natAbs_natCast, rt_square, ← Int.natCast_mul]; exact enc_mag (N * N)) hN w
  have hc : ((rt ((N * N : Nat) : Int).natAbs : Nat) : Int) * ((rt ((N * N : Nat) : Int).natAbs : Nat) : Int) = ((N * N : Nat) : Int) := by rw [Int.natAbs_natCast, rt_square, Int.natCast_mul]
  simp only [if_pos hc] at h
  exact h

set_option maxHeartbeats 4000000 in
set_option maxRecDepth 100000 in
theorem ratRoot_yes {q : Rat} {b : Bool} {m k : ByteArray} (h : Rq q b m k) {N D : Nat} (hN : q.num = ((N * N : Nat) : Int)) (hD : q.den = D * D) (s1 : (mag (N * N)).size ≤ 30000) (s2 : (mag (D * D)).size ≤ 30000) (w : World) (hE : Env w) :
    Calls Tryz.prog 52 #[.agg #[.bool b, .string m, .bool false, .string k]] w (RetB w (.tuple #[.agg #[.bool false, .string (mag N), .bool false, .string (dm D)], .bool true])) := by
  have hb : b = false ∧ m = mag (N * N) := by
    obtain ⟨e1, e2⟩ := h.mag
    rw [hN] at e1 e2
    exact ⟨by rw [e1]; exact decide_eq_false (by omega), by rw [e2, Int.natAbs_natCast]⟩
  obtain ⟨rfl, rfl⟩ := hb
  have HE := Lib.hid (fun V (hb : Below w.heap.size w V) => hE.next hb)
  have HDN := Lib.hid (fun V (hV : Env V) => den_f h V hV)
  rw [hD] at HDN
  have HI1 := Lib.hid (fun V => isSq_yes N s1 V)
  have HI2 := Lib.hid (fun V => isSq_yes D s2 V)
  have HCP := Lib.hid (fun V (hV : Env V) => coprime_f false (mag N) D V hV)
  have KK := Lib.hid (Kb.start w #[.bool false, .string (mag (N * N)), .bool false, .string k] #[.bool false, .string ⟨#[]⟩, .bool false, .string ⟨#[]⟩] 25 25)
  generalize mag (N * N) = mN at *
  generalize mag (D * D) = mD at *
  generalize mag N = rN at *
  generalize mag D = rD at *
  generalize dm D = rk at *
  clear h hN hD hE s1 s2
  go_enter Tryz.func52, Tryz.ntmps52
  go_wp2_with fail
  refine (HI1.out _).mono ?_
  rintro e w1 ⟨rfl, hb1⟩
  have K1 := Lib.hid (KK.out.next hb1)
  have K2 := Lib.hid (K1.out.next (below_new w1 (.cells #[.bool false, .string rN] 23)))
  have B2 := Lib.hid (Bq.new w1 #[.bool false, .string rN] 23)
  obtain ⟨p0, p1, p2, p3⟩ := blk4 K2.out.k1
  clear hb1
  go_wp2_with fail
  refine (HDN.out _ (HE.out _ K2.out.bel)).mono ?_
  rintro e w3 ⟨rfl, hb3⟩
  have K3 := Lib.hid (K2.out.next hb3)
  have B3 := Lib.hid (B2.out.next hb3)
  clear hb3 p0 p1 p2 p3
  go_wp2_with fail
  refine (HI2.out _).mono ?_
  rintro e w4 ⟨rfl, hb4⟩
  have K4 := Lib.hid (K3.out.next hb4)
  have B4 := Lib.hid (B3.out.next hb4)
  have K5 := Lib.hid (K4.out.next (below_new w4 (.cells #[.bool false, .string rD] 23)))
  have B5 := Lib.hid (B4.out.next (below_new w4 (.cells #[.bool false, .string rD] 23)))
  obtain ⟨q0, q1, _, _⟩ := blk_cells B5.out.k
  clear hb4
  go_wp2_with fail
  refine (HCP.out _ (HE.out _ K5.out.bel)).mono ?_
  rintro e w6 ⟨rfl, hb6⟩
  have K6 := Lib.hid (K5.out.next hb6)
  obtain ⟨t0, t1, t2, t3⟩ := blk4 K6.out.k2
  obtain ⟨f0, f1, f2, f3⟩ := fro4 K6.out.k2
  clear hb6 q0 q1
  go_wp2
  exact bodyPost_ret (v := .tuple #[.agg #[.bool false, .string rN, .bool false, .string rk], .bool true]) (by simp [results, Tryz.results52, go_sem, t0, t1, t2, t3]) rfl ⟨rfl, below_set4 K6.out.bel (by omega) _ _ _ _⟩

theorem printed_len (b : Bool) {X K : Nat} (h : X < 256 ^ K) : (printed b X).length ≤ 3 * K + 2 := by
  unfold printed
  split
  · simp
  · rw [List.length_append, Lib.decDigits_length]
    have h1 := digits_pow h
    cases b
    · simp; omega
    · simp; omega

set_option maxHeartbeats 4000000 in
set_option maxRecDepth 100000 in
theorem ratPrint_part {q : Rat} {b : Bool} {m k : ByteArray} (h : Rq q b m k) (hd : q.den ≠ 1) (s1 : m.size ≤ 10000) (s2 : k.size ≤ 10000) (w : World) (hE : Env w) :
    Calls Tryz.prog 54 #[.agg #[.bool b, .string m, .bool false, .string k]] w (RetB w (.string ((⟨(printed b q.num.natAbs).toArray⟩ ++ ⟨#[47]⟩) ++ ⟨(printed false q.den).toArray⟩))) := by
  have hm : bval m = q.num.natAbs := by rw [h.mag.2, bval_mag]
  have hk2 := h.den2 hd
  have hkv : bval k = q.den := by rw [hk2, bval_mag]
  have HE := Lib.hid (fun V (hb : Below w.heap.size w V) => hE.next hb)
  have HP1 := Lib.hid (fun V (hV : Env V) => print_any b m V (by omega) hV.ten)
  have HP2 := Lib.hid (fun V (hV : Env V) => print_any false k V (by omega) hV.ten)
  rw [hm] at HP1
  rw [hkv] at HP2
  have HNO := Lib.hid (isInteger_no b m k (by rw [hk2]; exact mag_no_nil q.den_nz))
  have KK := Lib.hid (Bq.new w #[.bool b, .string m, .bool false, .string k] 25)
  have BB := Lib.hid (below_new w (.cells #[.bool b, .string m, .bool false, .string k] 25))
  have hL1 := printed_len b (X := q.num.natAbs) (K := m.size) (by rw [← hm]; exact bval_lt m)
  have hL2 := printed_len false (X := q.den) (K := k.size) (by rw [← hkv]; exact bval_lt k)
  clear h hm hk2 hkv hd hE
  generalize printed b q.num.natAbs = sn at *
  generalize printed false q.den = sd at *
  obtain ⟨S1, hS1⟩ : ∃ S : ByteArray, S = ⟨sn.toArray⟩ := ⟨_, rfl⟩
  obtain ⟨S2, hS2⟩ : ∃ S : ByteArray, S = ⟨sd.toArray⟩ := ⟨_, rfl⟩
  have hz1 : S1.size ≤ 30002 := by rw [hS1]; simp [ByteArray.size]; omega
  have hz2 : S2.size ≤ 30002 := by rw [hS2]; simp [ByteArray.size]; omega
  rw [← hS1] at HP1 ⊢
  rw [← hS2] at HP2 ⊢
  have hc1 : ¬ 9223372036854775807 < S1.size + 1 := by omega
  have hc2 : ¬ 9223372036854775807 < S1.size + 1 + S2.size := by omega
  clear hS1 hS2 hL1 hL2
  go_enter Tryz.func54, Tryz.ntmps54
  go_wp2_with fail
  refine (HNO.out _).mono ?_
  rintro e w1 ⟨rfl, hb1⟩
  have K1 := Lib.hid (KK.out.next hb1).drew
  have B1 := Lib.hid (below_step BB.out (Nat.le_refl _) hb1).drew
  obtain ⟨p0, p1, p2, p3⟩ := blk4 K1.out.k
  simp only [World.cell?_drew] at p0 p1 p2 p3
  clear hb1
  go_wp2_with fail
  go_region_held3 (fun w' => w'.cell? ⟨w.heap.size, 0, none⟩ = some (.bool b) ∧ w'.cell? ⟨w.heap.size, 1, none⟩ = some (.string m) ∧ w'.cell? ⟨w.heap.size, 2, none⟩ = some (.bool false) ∧ w'.cell? ⟨w.heap.size, 3, none⟩ = some (.string k))
    (first
      | exact ⟨r0, r1, r2, r3⟩
      | exact ⟨q0, q1, q2, q3⟩
      | exact ⟨p0, p1, p2, p3⟩
      | go_keep)
    (first
      | (go_at_call 91; (with_reducible refine (HP1.out _ (HE.out _ B1.out)).mono ?_); rintro e w3 ⟨rfl, hb3⟩; have K3 := Lib.hid (K1.out.next hb3); have B3 := Lib.hid (below_step B1.out (Nat.le_refl _) hb3); obtain ⟨q0, q1, q2, q3⟩ := blk4 K3.out.k)
      | (go_at_call 91; (with_reducible refine (HP2.out _ (HE.out _ B3.out)).mono ?_); rintro e w4 ⟨rfl, hb4⟩; have K4 := Lib.hid (K3.out.next hb4); have B4 := Lib.hid (below_step B3.out (Nat.le_refl _) hb4); obtain ⟨r0, r1, r2, r3⟩ := blk4 K4.out.k))
  go_wp2
  go_ret
  exact ⟨rfl, B4.out⟩

set_option maxHeartbeats 4000000 in
set_option maxRecDepth 100000 in
theorem ratPrint_int {q : Rat} {b : Bool} {m k : ByteArray} (h : Rq q b m k) (hd : q.den = 1) (s1 : m.size ≤ 10000) (w : World) (hE : Env w) :
    Calls Tryz.prog 54 #[.agg #[.bool b, .string m, .bool false, .string k]] w (RetB w (.string ⟨(printed b q.num.natAbs).toArray⟩)) := by
  have hm : bval m = q.num.natAbs := by rw [h.mag.2, bval_mag]
  obtain rfl := h.den1 hd
  have HE := Lib.hid (fun V (hb : Below w.heap.size w V) => hE.next hb)
  have HP1 := Lib.hid (fun V (hV : Env V) => print_any b m V (by omega) hV.ten)
  rw [hm] at HP1
  have KK := Lib.hid (Bq.new w #[.bool b, .string m, .bool false, .string ⟨#[]⟩] 25)
  have BB := Lib.hid (below_new w (.cells #[.bool b, .string m, .bool false, .string ⟨#[]⟩] 25))
  clear h hm hd hE
  generalize printed b q.num.natAbs = sn at *
  go_enter Tryz.func54, Tryz.ntmps54
  go_wp2_with fail
  refine (isInteger_yes b m _).mono ?_
  rintro e w1 ⟨rfl, hb1⟩
  have K1 := Lib.hid (KK.out.next hb1)
  have B1 := Lib.hid (below_step BB.out (Nat.le_refl _) hb1)
  obtain ⟨p0, p1, p2, p3⟩ := blk4 K1.out.k
  clear hb1
  go_wp2_with fail
  refine (HP1.out _ (HE.out _ B1.out)).mono ?_
  rintro e w3 ⟨rfl, hb3⟩
  have B3 := Lib.hid (below_step B1.out (Nat.le_refl _) hb3)
  clear hb3
  go_wp2
  go_ret
  exact ⟨rfl, B3.out⟩
end Go.Proofs.YtahehlajpaoiiaaGreatDoor
