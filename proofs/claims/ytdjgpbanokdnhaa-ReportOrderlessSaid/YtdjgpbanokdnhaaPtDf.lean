/-
  slices.DeleteFunc over reports of the caller's own.
-/
import Derived.Test.YtdjgpbanokdnhaaPtV
namespace Go.Proofs.Ytdjgpbanokdnhaa.Pt
open Go.RowKit

def keepL (p : Rep → Bool) (l : List Rep) : List Rep := l.filter fun r => !p r
theorem keepL_all {p : Rep → Bool} {l : List Rep} (h : ∀ j, j < l.length → p l[j]! = false) : keepL p l = l := by
  refine List.filter_eq_self.2 fun r hr => ?_
  obtain ⟨k, hk, e⟩ := mem_get hr
  rw [← e, h k hk]
  rfl
theorem take_get {l : List Rep} {k j : Nat} (hj : j < k) : (l.take k)[j]! = l[j]! := by
  rw [List.getElem!_eq_getElem?_getD, List.getElem!_eq_getElem?_getD, List.getElem?_take_of_lt hj]
theorem keepL_next {p : Rep → Bool} {l : List Rep} {j : Nat} (h : j < l.length) : keepL p (l.take (j + 1)) = if p l[j]! = true then keepL p (l.take j) else keepL p (l.take j) ++ [l[j]!] := by
  have e : l.take (j + 1) = l.take j ++ [l[j]!] := by
    rw [List.take_succ_eq_append_getElem h, getElem!_pos l j h]
  rw [e, keepL, List.filter_append]
  generalize l[j]! = x
  cases hx : p x <;> simp [hx, keepL]

set_option maxHeartbeats 2000000 in
set_option maxRecDepth 100000 in
theorem deleteFunc_f (w0 w : World) (l : List Rep) (p : Rep → Bool) (g0 : Nat) (cb : Array Value) (v : Value) (hown : Own w0 w v l) (hb : Bel w0 w) (hl : l.length ≤ 1000000)
    (eg : ∀ args w, (callFunc g0 args).run Try.prog w = .ok (.enter g0 args) w) (hp : Pred w0 g0 cb p) :
    Calls Try.prog 58 #[v, .func (.func g0) #[] cb] w (RetO w0 (keepL p l)) := by
  have HI := Lib.hid (indexFunc_f l p g0 cb v w hown.isl eg (fun W hbl r => hp W (hb.trans hbl) r))
  obtain ⟨q, cap, rfl⟩ := hown.isl.shape
  have HO := Lib.hid hown
  have HB := Lib.hid hb
  have HP := Lib.hid hp
  clear hown hb hp
  go_enter Try.func58, Try.ntmps58
  go_upto_region 2 with (go_at_call 75; refine HI.out.mono ?_; rintro e W1 ⟨n, rfl, hn, hb1⟩; have HN := Lib.hid hn; have B1 := Lib.hid hb1; clear hn hb1)
  rcases HN.out with ⟨rfl, ha⟩ | ⟨i, hi, rfl, hpi, hpj⟩
  · have HK := Lib.hid (keepL_all ha)
    clear ha
    go_wp2
    go_ret
    exact ⟨_, rfl, by rw [HK.out]; exact HO.out.bel B1.out, HB.out.trans B1.out⟩
  · have hr0 := HO.out.bel B1.out
    obtain ⟨g, rfl, hr, _⟩ := hr0.row (by omega)
    have HR := Lib.hid hr
    have HB1 := Lib.hid (HB.out.trans B1.out)
    have hc1 := hr.le
    have hm1 := hr.max
    unfold maxLen at hm1
    have hin : ((i : Int) == -1) = false := by simp
    have hii : (i : Int) < l.length := by omega
    have HK0 : Hid (keepL p (l.take (i + 1)) = l.take i) := Lib.hid (by
      rw [keepL_next hi, if_pos hpi]
      exact keepL_all fun j hj => by
        rw [List.length_take] at hj
        rw [take_get (by omega)]
        exact hpj j (by omega))
    clear hr0 hr HI HO HB B1 HN hpi hpj
    go_wp2
    go_loopw [5, 6] (fun s5 s6 wr => ∃ (m : List Rep) (kk jj : Nat), s5 = .int .i64 kk ∧ s6 = .int .i64 jj ∧ kk < jj ∧ jj ≤ l.length ∧ m.take kk = keepL p (l.take jj) ∧ (∀ j, jj ≤ j → m[j]! = l[j]!) ∧ Row w0 wr g l.length cap m ∧ Bel w0 wr) (fun _ s6 _ => l.length - (intOf s6).toNat)
    case atStart => exact ⟨l, i, i + 1, rfl, by go_num, by omega, by omega, HK0.out.symm, fun _ _ => rfl, HR.out, HB1.out⟩
    case round =>
      obtain ⟨m, kk, jj, rfl, rfl, hkj, hjn, htk, hmj, hrw, hbl⟩ := hrel
      have TK := Lib.hid htk
      have MJ := Lib.hid hmj
      have RW := Lib.hid hrw
      have BW := Lib.hid hbl
      have ML := Lib.hid hrw.len
      clear htk hmj hrw hbl HR HB1 HK0 hin
      by_cases hlt : jj < l.length
      · have hi4 : (jj : Int) < l.length := by omega
        have hkk : (kk : Int) < l.length := by omega
        have hX := MJ.out jj (Nat.le_refl _)
        obtain ⟨c0, c1, c2, c3, c4, c5, c6, c7⟩ := RW.out.at'.c8at (i := jj) (by rw [ML.out]; exact hlt) (A := jj * 8) (by omega)
        have hn := keepL_next (p := p) hlt
        rw [hX] at c0 c1 c2 c3 c4 c5 c6 c7
        have HX := Lib.hid hX
        have N := Lib.hid hn
        clear hn hX
        generalize l[jj]! = x at c0 c1 c2 c3 c4 c5 c6 c7 N HX
        have HC := fun W hb => Lib.hid (HP.out W hb x)
        have HD := Lib.hid HC
        clear HC
        generalize p x = b at HD N
        cases b
        · go_wp2_with (go_at_fn g0; refine (HD.out _ (BW.out.alloc _)).out.mono ?_; rintro e W1 ⟨rfl, hb1⟩; have hb2 := (Bel.new wr _).trans hb1; have B1 := Lib.hid (BW.out.trans hb2); have R1 := Lib.hid (RW.out.bel hb2); have H7 := Lib.hid ((hb1.b.block wr.heap.size (by simp)).trans (heap_new wr _)); have y0 := blkAt H7.out 0; have y1 := blkAt H7.out 1; have y2 := blkAt H7.out 2; have y3 := blkAt H7.out 3; have y4 := blkAt H7.out 4; have y5 := blkAt H7.out 5; have y6 := blkAt H7.out 6; have y7 := blkAt H7.out 7; simp only [List.getElem?_toArray, List.getElem?_cons_zero, List.getElem?_cons_succ] at y0 y1 y2 y3 y4 y5 y6 y7; obtain ⟨e0, e1, e2, e3, e4, e5, e6, e7⟩ := R1.out.at'.c8at (i := kk) (by rw [ML.out]; omega) (A := kk * 8) (by omega); have f0 := R1.out.fro (kk * 8); have f1 := R1.out.fro (kk * 8 + 1); have f2 := R1.out.fro (kk * 8 + 2); have f3 := R1.out.fro (kk * 8 + 3); have f4 := R1.out.fro (kk * 8 + 4); have f5 := R1.out.fro (kk * 8 + 5); have f6 := R1.out.fro (kk * 8 + 6); have f7 := R1.out.fro (kk * 8 + 7); clear hb1 hb2 c0 c1 c2 c3 c4 c5 c6 c7)
          go_roundw
          case rel =>
            have hp := R1.out.put B1.out (k := kk) (by omega) x
            exact ⟨m.set kk x, kk + 1, jj + 1, by go_num, by go_num, by omega, by omega, by rw [set_take (by rw [ML.out]; omega), TK.out, N.out, if_neg (by simp)], fun j hj => (set_oth (by omega)).trans (MJ.out j (by omega)), hp.1, hp.2.1⟩
          case measure => simp [intOf]; omega
        · go_wp2_with (go_at_fn g0; refine (HD.out _ (BW.out.alloc _)).out.mono ?_; rintro e W1 ⟨rfl, hb1⟩; have hb2 := (Bel.new wr _).trans hb1; have B1 := Lib.hid (BW.out.trans hb2); have R1 := Lib.hid (RW.out.bel hb2); clear hb1 hb2 c0 c1 c2 c3 c4 c5 c6 c7)
          go_roundw
          case rel => exact ⟨m, kk, jj + 1, rfl, by go_num, by omega, by omega, by rw [TK.out, N.out, if_pos trivial], fun j hj => MJ.out j (by omega), R1.out, B1.out⟩
          case measure => simp [intOf]; omega
      · have hi4 : ¬ (jj : Int) < l.length := by omega
        obtain ⟨W, hrun, hrow, hbel, _⟩ := RW.out.clr BW.out (k := kk) (by omega) 0 (cap - kk) (some ⟨g, kk * 8, none⟩) (fun _ => rfl)
        have HRUN := Lib.hid hrun
        have HROW := Lib.hid hrow
        have HBEL := Lib.hid hbel
        have HC : Hid (keepL p l = m.take kk) := Lib.hid (by rw [TK.out, List.take_of_length_le (by omega)])
        clear hrun hrow hbel
        have hkk : (kk : Int) < l.length := by omega
        go_wp2_with (refine wpList_clr (v := .slice (some ⟨g, kk * 8, none⟩) (l.length - kk) (cap - kk)) rfl _ rfl rfl HRUN.out ?_)
        go_ret
        exact ⟨_, rfl, by rw [HC.out]; exact HROW.out.own, HBEL.out⟩
end Go.Proofs.Ytdjgpbanokdnhaa.Pt
