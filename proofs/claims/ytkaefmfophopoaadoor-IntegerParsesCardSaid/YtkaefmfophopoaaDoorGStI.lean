import Derived.Test.YtkaefmfophopoaaDoorGStH
import Derived.Test.YtkaefmfophopoaaDoorGRefL
import Derived.Test.YtkaefmfophopoaaDoorGLate

/-
  The reference's reading of an integer.
-/
namespace Go.Proofs.YtkaefmfophopoaaDoor
open Go.RowKit
attribute [local go_sem ↓] Go.wp_at_zero Go.wp_at_succ

/-- What a row of characters behind the sign tells: an integer, or no integer. -/
def Pz (d : List UInt8) (neg : Bool) (z err : Int) : Prop :=
  (Numeral d ∧ ¬ (neg = true ∧ d = [48]) ∧ z = sgn neg (val10 d) ∧ err = 0) ∨ ((¬ Numeral d ∨ (neg = true ∧ d = [48])) ∧ z = 0 ∧ err = 15)

theorem Pz.some_ (d : List UInt8) (neg : Bool) : ∃ z err, Pz d neg z err := by
  by_cases h : Numeral d ∧ ¬ (neg = true ∧ d = [48])
  · exact ⟨_, _, .inl ⟨h.1, h.2, rfl, rfl⟩⟩
  · refine ⟨_, _, .inr ⟨?_, rfl, rfl⟩⟩
    by_cases h1 : Numeral d
    · right
      by_cases h2 : neg = true ∧ d = [48]
      · exact h2
      · exact absurd ⟨h1, h2⟩ h
    · exact .inl h1

theorem parse_all (s : ByteArray) (w : World) (d : List UInt8) (neg : Bool) (z err : Int) (hd : Lib.trimPrefix s.data.toList [45] = d) (hn : Lib.hasPrefix s.data.toList [45] = neg)
    (h0 : s.toList.isEmpty = false) (hlen : d.length ≤ 1000) (hP : Pz d neg z err) :
    Calls Tryd.prog 13 #[.string s] w (RetE w z err) := by
  rcases hP with ⟨h1, h2, rfl, rfl⟩ | ⟨h1, rfl, rfl⟩
  · exact parse_ok s w d neg hd hn h0 hlen h1 (fun h e => h2 ⟨h, e⟩)
  · exact parse_bad s w d neg hd hn h0 hlen h1

theorem minus_list {l d : List UInt8} (hd : Lib.trimPrefix l [45] = d) (hn : Lib.hasPrefix l [45] = true) : l = 45 :: d := by
  unfold Lib.trimPrefix at hd
  rw [hn] at hd
  unfold Lib.hasPrefix at hn
  cases l with
  | nil => simp [List.isPrefixOf] at hn
  | cons b r =>
    simp only [List.isPrefixOf, Bool.and_true, beq_iff_eq] at hn
    simp at hd
    rw [← hn, hd]

theorem plain_list {l d : List UInt8} (hd : Lib.trimPrefix l [45] = d) (hn : Lib.hasPrefix l [45] = false) : l = d ∧ l.head? ≠ some 45 := by
  unfold Lib.trimPrefix at hd
  rw [hn] at hd
  refine ⟨hd, ?_⟩
  unfold Lib.hasPrefix at hn
  cases l with
  | nil => simp
  | cons b r =>
    simp only [List.isPrefixOf, Bool.and_true, beq_eq_false_iff_ne, ne_eq] at hn
    simp only [List.head?_cons, ne_eq, Option.some.injEq]
    exact fun e => hn e.symm

theorem Pz.bad {d : List UInt8} {neg : Bool} {z err : Int} (h : Pz d neg z err) (hb : ¬ Numeral d ∨ (neg = true ∧ d = [48])) : z = 0 ∧ err = 15 := by
  rcases h with ⟨h1, h2, _⟩ | ⟨_, h3, h4⟩
  · rcases hb with hb | hb
    · exact absurd h1 hb
    · exact absurd hb h2
  · exact ⟨h3, h4⟩

theorem Pz.good {d : List UInt8} {neg : Bool} {z err : Int} (h : Pz d neg z err) (h1 : Numeral d) (h2 : ¬ (neg = true ∧ d = [48])) : z = sgn neg (val10 d) ∧ err = 0 := by
  rcases h with ⟨_, _, h3, h4⟩ | ⟨hb, _⟩
  · exact ⟨h3, h4⟩
  · rcases hb with hb | hb
    · exact absurd h1 hb
    · exact absurd hb h2

/-- Out of the loop: the integer with the first k digits. -/
structure Ro (w : World) (bo : Nat) (m : ByteArray) (wr : World) : Prop where
  kr : wr.heap[w.heap.size]? = some (.cells #[.bool false, .string ⟨#[]⟩] 23 (0, 0))
  ko : wr.heap[bo]? = some (.cells #[.bool false, .string m] 23 (0, 0))
  lt : w.heap.size < bo
  sz : bo < wr.heap.size
  bel : Below w.heap.size w wr

theorem Ro.next {w wr w2 : World} {bo : Nat} {m : ByteArray} (h : Ro w bo m wr) (hb : Below wr.heap.size wr w2) : Ro w bo m w2 := by
  have h1 := h.lt; have h2 := h.sz; have h3 := hb.size
  exact ⟨(hb.block _ (by omega)).trans h.kr, (hb.block _ (by omega)).trans h.ko, h1, by omega, h.bel.trans (hb.mono (by omega))⟩
theorem Ro.drew {w wr : World} {bo : Nat} {m : ByteArray} (h : Ro w bo m wr) : Ro w bo m wr.drew := ⟨h.kr, h.ko, h.lt, h.sz, (h.bel.trans (Below.refl _ _).drew)⟩
theorem Ro.set {w wr : World} {bo : Nat} {m : ByteArray} (h : Ro w bo m wr) (m' : ByteArray) : Ro w bo m' ((wr.setCell ⟨bo, 0, none⟩ (.bool false)).setCell ⟨bo, 1, none⟩ (.string m')) := by
  have h1 := h.lt
  exact ⟨(two_other (by omega) _ _).trans h.kr, two_set h.ko _ _, h.lt, by rw [two_size]; exact h.sz, (h.bel.setCell (by show w.heap.size ≤ bo; omega) _).setCell (by show w.heap.size ≤ bo; omega) _⟩
theorem Ro.ins {w wr : World} {bo : Nat} {m : ByteArray} (h : Ro w bo m wr) : wr.cell? ⟨bo, 0, none⟩ = some (.bool false) ∧ wr.cell? ⟨bo, 1, none⟩ = some (.string m) := ⟨(blk_cells h.ko).1, (blk_cells h.ko).2.1⟩

theorem pre_true {s t : ByteArray} {d : List UInt8} (hd : Lib.trimPrefix s.data.toList [45] = d) (hn : Lib.hasPrefix s.data.toList [45] = true) (htd : t.data.toList = d) :
    s.size = t.size + 1 ∧ (∀ h, (s[0]'h).toNat = 45) ∧ s.extract 1 s.size = t ∧ s.extract 1 (t.size + 1) = t := by
  have hl := minus_list hd hn
  have hsz : s.size = t.size + 1 := by
    have h1 : s.data.toList.length = s.size := rfl
    have h2 : t.data.toList.length = t.size := rfl
    rw [← h1, ← h2, hl, htd, List.length_cons]
  have hget : ∀ h, (s[0]'h).toNat = 45 := fun h => by
    have e : s[0]'h = s.data.toList[0]'(by rw [hl]; simp) := rfl
    rw [e]
    simp only [hl]
    rfl
  have hext : s.extract 1 s.size = t := by
    apply ByteArray.ext
    rw [← Array.toList_inj, htd, ByteArray.data_extract, Array.toList_extract, List.extract_eq_take_drop, hl]
    simp only [List.drop_succ_cons, List.drop_zero]
    exact List.take_of_length_le (by have : t.data.toList.length = t.size := rfl; rw [htd] at this; omega)
  exact ⟨hsz, hget, hext, by rw [← hsz]; exact hext⟩

theorem pre_false {s t : ByteArray} {d : List UInt8} (hd : Lib.trimPrefix s.data.toList [45] = d) (hn : Lib.hasPrefix s.data.toList [45] = false) (htd : t.data.toList = d) : t = s ∧ d.head? ≠ some 45 := by
  obtain ⟨hl, hh⟩ := plain_list hd hn
  exact ⟨by apply ByteArray.ext; rw [← Array.toList_inj, htd, hl], by rw [← hl]; exact hh⟩

set_option maxHeartbeats 8000000 in
set_option maxRecDepth 100000 in
theorem refParse_any (s : ByteArray) (w : World) (d : List UInt8) (neg : Bool) (z err : Int) (hd : Lib.trimPrefix s.data.toList [45] = d) (hn : Lib.hasPrefix s.data.toList [45] = neg)
    (h0 : s.toList.isEmpty = false) (hlen : d.length ≤ 60) (hP : Pz d neg z err) :
    Calls Tryd.prog 15 #[.string s] w (RetE w z err) := by
  have hs0 : ¬ s.toList = [] := by rw [List.isEmpty_eq_false_iff] at h0; exact h0
  have HB := Lib.hid ((Below.refl w.heap.size w).alloc (Nat.le_refl _) (.cells #[.bool false, .string ⟨#[]⟩] 23))
  obtain ⟨t, ht⟩ : ∃ t : ByteArray, ⟨d.toArray⟩ = t := ⟨_, rfl⟩
  have htd : t.data.toList = d := by rw [← ht]
  have hts : t.size ≤ 60 := by rw [← ht]; exact hlen
  by_cases hd0 : d = []
  · obtain ⟨hz, he⟩ := hP.bad (.inl (fun h => by rw [hd0] at h; rcases h.2 with h | h <;> simp at h))
    have HZ := Lib.hid hz
    have HE := Lib.hid he
    have hte : t.toList = [] := by rw [ByteArray.toList_eq, htd, hd0]
    have hemp : t.toList.isEmpty = true := by rw [hte]; rfl
    cases neg
    · obtain ⟨h1, _⟩ := pre_false hd hn htd
      exact absurd (by rw [← h1]; exact hte) hs0
    · obtain ⟨hsz, hget, hext, hext2⟩ := pre_true hd hn htd
      clear hd hn hlen hP ht htd hd0 hz he
      go_enter Tryd.func15, Tryd.ntmps15
      go_wp2_with fail
      refine bodyPost_ret (v := .tuple #[.agg #[.bool false, .string ⟨#[]⟩], .int .i64 15]) (by simp [results, Tryd.results15, go_sem]) rfl ?_
      rw [HZ.out, HE.out]
      exact ret_zero 15 HB.out
  · have hte : ¬ t.toList = [] := by rw [ByteArray.toList_eq, htd]; exact hd0
    have hemp : t.toList.isEmpty = false := by rw [List.isEmpty_eq_false_iff]; exact hte
    have hkl : 0 < d.length := List.length_pos_iff.2 hd0
    have hpos : 0 < t.size := by rw [← ht]; exact hkl
    obtain ⟨c1, hc1⟩ : ∃ c1, (d[0]'hkl).toNat = c1 := ⟨_, rfl⟩
    have hgt : ∀ h, (t[0]'h).toNat = c1 := fun h => by
      have e : (t[0]'h) = t.data.toList[0]'h := rfl
      rw [e]
      simp only [htd]
      exact hc1
    have hhead : d.head? = some (d[0]'hkl) := by rw [List.head?_eq_getElem?]; exact List.getElem?_eq_getElem hkl
    have hlen2 : d.length = t.size := by rw [← ht]; rfl
    have hc48 : c1 = 48 → d.head? = some 48 := fun e => by
      rw [hhead]
      congr 1
      apply UInt8.toNat_inj.1
      rw [hc1, e]
      rfl
    have hc45 : d.head? ≠ some 45 → (c1 : Int) ≠ 45 := fun h e => by
      apply h
      rw [hhead]
      congr 1
      apply UInt8.toNat_inj.1
      rw [hc1]
      show c1 = 45
      omega
    have hone : d = [48] → c1 = 48 ∧ t.size = 1 := fun e => by
      subst e
      exact ⟨by rw [← hc1]; rfl, by rw [← hlen2]; rfl⟩
    by_cases h48 : c1 = 48 ∧ (1 < t.size ∨ neg = true)
    · obtain ⟨hz, he⟩ := hP.bad (by
        by_cases h1 : t.size = 1
        · right
          refine ⟨by rcases h48.2 with h | h; omega; exact h, ?_⟩
          rw [h1] at hlen2
          obtain ⟨b, hb⟩ := List.length_eq_one_iff.1 hlen2
          have h3 := hc48 h48.1
          rw [hb] at h3
          simp only [List.head?_cons, Option.some.injEq] at h3
          rw [hb, h3]
        · left
          intro h
          rcases h.2 with h | ⟨_, h⟩
          · rw [h] at hlen2; exact h1 hlen2.symm
          · exact h (hc48 h48.1))
      have HZ := Lib.hid hz
      have HE := Lib.hid he
      obtain ⟨rfl, h49⟩ := h48
      cases neg
      · obtain ⟨h1, h2⟩ := pre_false hd hn htd
        subst h1
        have h50 : 1 < t.size := by simpa using h49
        clear hd hn hlen hP ht htd hd0 hz he hhead hlen2 hc48 hc45 hone h49 h2 hc1
        go_enter Tryd.func15, Tryd.ntmps15
        go_wp2_with fail
        refine bodyPost_ret (v := .tuple #[.agg #[.bool false, .string ⟨#[]⟩], .int .i64 15]) (by simp [results, Tryd.results15, go_sem]) rfl ?_
        rw [HZ.out, HE.out]
        exact ret_zero 15 HB.out
      · obtain ⟨hsz, hget, hext, hext2⟩ := pre_true hd hn htd
        clear hd hn hlen hP ht htd hd0 hz he hhead hlen2 hc48 hc45 hone h49 hc1
        by_cases h50 : 1 < t.size
        all_goals
          go_enter Tryd.func15, Tryd.ntmps15
          go_wp2_with fail
          refine bodyPost_ret (v := .tuple #[.agg #[.bool false, .string ⟨#[]⟩], .int .i64 15]) (by simp [results, Tryd.results15, go_sem]) rfl ?_
          rw [HZ.out, HE.out]
          exact ret_zero 15 HB.out
    · have hgood : (∀ b ∈ d, digit10 b) → z = sgn neg (val10 d) ∧ err = 0 := fun hall => by
        refine hP.good ⟨hall, ?_⟩ (fun h => ?_)
        · by_cases h1 : d = [48]
          · exact .inl h1
          · right
            refine ⟨hd0, fun e => ?_⟩
            have e2 : c1 = 48 := by
              rw [hhead] at e
              injection e with e
              rw [← hc1, e]
              rfl
            apply h48
            refine ⟨e2, ?_⟩
            by_cases h3 : 1 < t.size
            · exact .inl h3
            · exfalso
              apply h1
              have h4 : d.length = 1 := by omega
              obtain ⟨b, hb⟩ := List.length_eq_one_iff.1 h4
              rw [hb] at e
              simp only [List.head?_cons, Option.some.injEq] at e
              rw [hb, e]
        · exact h48 ⟨(hone h.2).1, .inr h.1⟩
      have hbad : (¬ ∀ b ∈ d, digit10 b) → z = 0 ∧ err = 15 := fun hall => hP.bad (.inl (fun h => hall h.1))
      have HGOOD := Lib.hid hgood
      have HBAD := Lib.hid hbad
      have HTD := Lib.hid htd
      have RO := Lib.hid (show Ro w (w.heap.size + 1) ⟨#[]⟩ ((w.alloc (.cells #[.bool false, .string ⟨#[]⟩] 23)).alloc (.cells #[.bool false, .string ⟨#[]⟩] 23)) from
        ⟨(Below.heap_alloc _ _ _ (by simp)).trans (heap_alloc_new _ _), heap_two _ _ _, by omega, by simp, ((Below.refl _ _).alloc (Nat.le_refl _) _).alloc (by simp) _⟩)
      have hlt' : ∀ k (hk : k < t.size), (t.data.toList.take (k + 1)) = t.data.toList.take k ++ [t.data.toList[k]'hk] := fun k hk => List.take_succ_eq_append_getElem hk
      have HLT := Lib.hid hlt'
      have HFI := Lib.hid (fun V (n : Nat) (hn : n ≤ 255) => refFromInt_pos n (by omega) V)
      cases neg
      case' false =>
        obtain ⟨h1, h2⟩ := pre_false hd hn htd
        subst h1
        have h3 := hc45 h2
        have hb45 : ((c1 : Int) == 45) = false := by simpa using h3
        clear hd hn hlen hP ht htd hd0 hhead hlen2 hc48 hc45 hone h2 hc1 hgood hbad hlt'
        by_cases c48 : c1 = 48
        case' pos =>
          have hsz1 : ¬ 1 < t.size := fun h => h48 ⟨c48, .inl h⟩
          subst c48
          clear h48
          go_enter Tryd.func15, Tryd.ntmps15
          go_wp2_with fail
        case' neg =>
          have hb48 : ((c1 : Int) == 48) = false := by simp; omega
          clear h48
          go_enter Tryd.func15, Tryd.ntmps15
          go_wp2_with fail
      case' true =>
        obtain ⟨hsz, hget, hext, hext2⟩ := pre_true hd hn htd
        have c48 : c1 ≠ 48 := fun h => h48 ⟨h, .inr rfl⟩
        have hb48 : ((c1 : Int) == 48) = false := by simp; omega
        clear hd hn hlen hP ht htd hd0 hhead hlen2 hc48 hc45 hone hc1 hgood hbad hlt' h48
        go_enter Tryd.func15, Tryd.ntmps15
        go_wp2_with fail
      all_goals
        go_loopw [6] (fun i wr => ∃ (k : Nat) (m : ByteArray), k ≤ t.size ∧ i = .int .i64 (k : Int) ∧ Hid (m = mag (val10 (t.data.toList.take k)) ∧ ∀ b ∈ t.data.toList.take k, digit10 b) ∧ Hid (Ro w (w.heap.size + 1) m wr)) (fun i _ => t.size - (RowKit.intOf i).toNat)
        case atStart => exact ⟨0, ⟨#[]⟩, Nat.zero_le _, rfl, ⟨by simp [val10, mag, magL_zero], fun b hb => by simp at hb⟩, RO⟩
        case round =>
          obtain ⟨k, m, hk, rfl, HM, RO⟩ := hrel
          by_cases hlt : k < t.size
          · have hkl : k < t.data.toList.length := hlt
            have hgk : ∀ h, (t[k]'h).toNat = (t.data.toList[k]'hkl).toNat := fun h => rfl
            obtain ⟨b, hb⟩ : ∃ b, (t.data.toList[k]'hkl) = b := ⟨_, rfl⟩
            have hmem : b ∈ d := by rw [← HTD.out, ← hb]; exact List.getElem_mem hkl
            rw [hb] at hgk
            have htk := HLT.out k hlt
            rw [hb] at htk
            obtain ⟨x, hx⟩ : ∃ x, b.toNat = x := ⟨_, rfl⟩
            rw [hx] at hgk
            have hx256 : x < 256 := by rw [← hx]; exact b.toNat_lt
            have HTK := Lib.hid htk
            have HX := Lib.hid hx
            have HMEM := Lib.hid hmem
            clear hb hmem htk hx
            by_cases hxd : x < 48 ∨ 57 < x
            · obtain ⟨hz, he⟩ := HBAD.out (fun h => by
                have h1 := h b HMEM.out
                have h2 := h1.1
                have h3 := h1.2
                rw [HX.out] at h2 h3
                omega)
              have HZ := Lib.hid hz
              have HE := Lib.hid he
              obtain ⟨k0, k1, k2, k3⟩ := blk_cells RO.out.kr
              obtain ⟨l0, l1, _, _⟩ := blk_cells (two_set RO.out.kr (.bool false) (.string ⟨#[]⟩))
              have HB7 := Lib.hid ((RO.out.bel.setCell (p := ⟨w.heap.size, 0, none⟩) (Nat.le_refl _) (.bool false)).setCell (p := ⟨w.heap.size, 1, none⟩) (Nat.le_refl _) (.string ⟨#[]⟩))
              clear hz he
              rcases hxd with hx1 | hx1
              · go_wp2_with fail
                refine bodyPost_ret (v := .tuple #[.agg #[.bool false, .string ⟨#[]⟩], .int .i64 15]) (by simp [results, Tryd.results15, go_sem, l0, l1]) rfl ?_
                rw [HZ.out, HE.out]
                exact ret_zero 15 HB7.out
              · have hx2 : ¬ x < 48 := by omega
                go_wp2_with fail
                refine bodyPost_ret (v := .tuple #[.agg #[.bool false, .string ⟨#[]⟩], .int .i64 15]) (by simp [results, Tryd.results15, go_sem, l0, l1]) rfl ?_
                rw [HZ.out, HE.out]
                exact ret_zero 15 HB7.out
            · have hx1 : 48 ≤ x := by omega
              have hx2 : x ≤ 57 := by omega
              obtain ⟨y, rfl⟩ : ∃ y, x = 48 + y := ⟨x - 48, by omega⟩
              have hy9 : y ≤ 9 := by omega
              obtain ⟨v, hv⟩ : ∃ v, val10 (t.data.toList.take k) = v := ⟨_, rfl⟩
              have hv60 : v < 10 ^ 60 := by
                have h1 := val10_lt _ HM.out.2
                rw [hv] at h1
                refine Nat.lt_of_lt_of_le h1 (Nat.pow_le_pow_right (by decide) ?_)
                rw [List.length_take]
                omega
              have hm : m = mag v := by rw [← hv]; exact HM.out.1
              obtain ⟨m10, h10⟩ : ∃ q, mag 10 = q := ⟨_, rfl⟩
              obtain ⟨m2, h2⟩ : ∃ q, mag (v * 10) = q := ⟨_, rfl⟩
              obtain ⟨m3, h3⟩ : ∃ q, mag y = q := ⟨_, rfl⟩
              obtain ⟨m4, h4⟩ : ∃ q, mag (v * 10 + y) = q := ⟨_, rfl⟩
              have s1 : m.size ≤ 100000 := by rw [hm]; have := mag_size_le (n := v) (k := 26) (Nat.lt_of_lt_of_le hv60 (by decide)); omega
              have s10 : m10.size ≤ 100000 := by rw [← h10]; have := mag_size_le (n := 10) (k := 1) (by decide); omega
              have s2 : m2.size ≤ 100000 := by
                rw [← h2]
                have h6 : v * 10 < 10 ^ 61 := by
                  rw [Nat.pow_succ]
                  exact Nat.mul_lt_mul_of_pos_right hv60 (by decide)
                have h5 : v * 10 < 256 ^ 26 := Nat.lt_of_lt_of_le h6 (by decide)
                have := mag_size_le h5
                omega
              have s3 : m3.size ≤ 100000 := by rw [← h3]; have := mag_size_le (n := y) (k := 1) (by omega); omega
              have hf10 : ∀ V, Calls Tryd.prog 39 #[.int .i64 10] V (RetB V (.agg #[.bool false, .string m10])) := fun V => by
                have h := refFromInt_pos 10 (by omega) V
                unfold RetZ at h
                rw [enc_nat, h10] at h
                exact h
              have hfy : ∀ V, Calls Tryd.prog 39 #[.int .i64 (IntKind.i64.wrap (IntKind.u8.wrap (48 + (y : Int) - 48)))] V (RetB V (.agg #[.bool false, .string m3])) := fun V => by
                have h := refFromInt_pos y (by omega) V
                unfold RetZ at h
                rw [enc_nat, h3] at h
                have e : IntKind.i64.wrap (IntKind.u8.wrap (48 + (y : Int) - 48)) = (y : Int) := by
                  have e1 : 48 + (y : Int) - 48 = (y : Int) := by omega
                  rw [e1, IntKind.wrap_u8, IntKind.wrap_i64]
                  omega
                rw [e]
                exact h
              have hmu : ∀ V, Calls Tryd.prog 42 #[.agg #[.bool false, .string m], .agg #[.bool false, .string m10]] V (RetB V (.agg #[.bool false, .string m2])) := fun V => by
                have h := refMul_pair false false m m10 s1 s10 V
                unfold RetZ at h
                have e : sgn (false != false) (bval m * bval m10) = ((v * 10 : Nat) : Int) := by rw [hm, ← h10, bval_mag, bval_mag]; rfl
                rw [e, enc_nat, h2] at h
                exact h
              have had : ∀ V, Calls Tryd.prog 41 #[.agg #[.bool false, .string m2], .agg #[.bool false, .string m3]] V (RetB V (.agg #[.bool false, .string m4])) := fun V => by
                have h := refAdd_pair false false m2 m3 s2 s3 V
                unfold RetZ at h
                have e : sgn false (bval m2) + sgn false (bval m3) = ((v * 10 + y : Nat) : Int) := by rw [← h2, ← h3, bval_mag, bval_mag]; unfold sgn; simp
                rw [e, enc_nat, h4] at h
                exact h
              have HF10 := Lib.hid hf10
              have HFY := Lib.hid hfy
              have HMU := Lib.hid hmu
              have HAD := Lib.hid had
              have HNX := Lib.hid (show m4 = mag (val10 (t.data.toList.take (k + 1))) ∧ ∀ c ∈ t.data.toList.take (k + 1), digit10 c from by
                refine ⟨?_, fun c hc => ?_⟩
                · rw [HTK.out, val10_snoc, hv, HX.out, ← h4]
                  congr 2
                  omega
                · rw [HTK.out, List.mem_append] at hc
                  rcases hc with hc | hc
                  · exact HM.out.2 c hc
                  · obtain rfl : c = b := by simpa using hc
                    exact ⟨by rw [HX.out]; omega, by rw [HX.out]; omega⟩)
              clear hxd hv hv60 hm h10 h2 h3 h4 s1 s10 s2 s3 hf10 hfy hmu had
              have RO := Lib.hid (RO.out.drew)
              go_wp2_with fail
              refine wp_region_late (S := fun w' => w'.cell? ⟨w.heap.size + 1, 0, none⟩ = some (.bool false) ∧ w'.cell? ⟨w.heap.size + 1, 1, none⟩ = some (.string m)) (L := [10]) (by kernel_rfl) ?_
              have hHeld := RO.out.ins
              refine wpLate_take (i := 0) (oi := ⟨some 54, _, _, _, _, _⟩) (v := ?_) rfl (by kernel_rfl) (by kernel_rfl) (by kernel_rfl) (by kernel_rfl) (by kernel_rfl) (fun _ _ _ h => h) (Or.inl ⟨by rfl, ?_⟩) hHeld ?_
              rotate_left
              · intro w hSw; (try dsimp only at hSw); (first | (go_simp; done) | (go_simp; with_reducible rfl))
              try simp only [Act.put, List.setIfInBounds_toArray, List.set_cons_zero, List.set_cons_succ]
              refine wpLate_free (i := 3) (oi := ⟨some 57, _, _, _, _, _⟩) (v := ?_) rfl (by kernel_rfl) (by kernel_rfl) (by kernel_rfl) (by kernel_rfl) (fun _ _ _ h => h) (Or.inl ⟨by rfl, ?_⟩) ?_
              rotate_left
              · intro w hSw; (try dsimp only at hSw); (first | (go_simp; done) | (go_simp; with_reducible rfl))
              try simp only [Act.put, List.setIfInBounds_toArray, List.set_cons_zero, List.set_cons_succ]
              refine wpLate_free (i := 4) (oi := ⟨some 58, _, _, _, _, _⟩) (v := ?_) rfl (by kernel_rfl) (by kernel_rfl) (by kernel_rfl) (by kernel_rfl) (fun _ _ _ h => h) (Or.inl ⟨by rfl, ?_⟩) ?_
              rotate_left
              · intro w hSw; (try dsimp only at hSw); (first | (go_simp; done) | (go_simp; with_reducible rfl))
              try simp only [Act.put, List.setIfInBounds_toArray, List.set_cons_zero, List.set_cons_succ]
              refine wpLate_free (i := 5) (oi := ⟨some 59, _, _, _, _, _⟩) (v := ?_) rfl (by kernel_rfl) (by kernel_rfl) (by kernel_rfl) (by kernel_rfl) (fun _ _ _ h => h) (Or.inl ⟨by rfl, ?_⟩) ?_
              rotate_left
              · intro w hSw; (try dsimp only at hSw); (first | (go_simp; done) | (go_simp; with_reducible rfl))
              try simp only [Act.put, List.setIfInBounds_toArray, List.set_cons_zero, List.set_cons_succ]
              refine wpLate_free (i := 6) (oi := ⟨some 60, _, _, _, _, _⟩) (v := ?_) rfl (by kernel_rfl) (by kernel_rfl) (by kernel_rfl) (by kernel_rfl) (fun _ _ _ h => h) (Or.inl ⟨by rfl, ?_⟩) ?_
              rotate_left
              · intro w hSw; (try dsimp only at hSw); (first | (go_simp; done) | (go_simp; with_reducible rfl))
              try simp only [Act.put, List.setIfInBounds_toArray, List.set_cons_zero, List.set_cons_succ]
              refine wpLate_free (i := 7) (oi := ⟨some 61, _, _, _, _, _⟩) (v := ?_) rfl (by kernel_rfl) (by kernel_rfl) (by kernel_rfl) (by kernel_rfl) (fun _ _ _ h => h) (Or.inl ⟨by rfl, ?_⟩) ?_
              rotate_left
              · intro w hSw; (try dsimp only at hSw); (first | (go_simp; done) | (go_simp; with_reducible rfl))
              try simp only [Act.put, List.setIfInBounds_toArray, List.set_cons_zero, List.set_cons_succ]
              refine wpLate_one (i := 1) (o := ⟨some 55, _, _, _, _, _⟩) (by kernel_rfl) rfl (fun K hK => ?_)
              go_simp
              (go_at_call 39; refine (HF10.out _).mono ?_; rintro e wn ⟨rfl, hbn⟩; have RO := Lib.hid (RO.out.next hbn))
              try go_wp2_with fail
              refine hK.out _ _ (Or.inr (fun _ => RO.out.ins)) ?_
              clear hK K
              try simp only [Act.put, List.setIfInBounds_toArray, List.set_cons_zero, List.set_cons_succ]
              refine wpLate_one (i := 2) (o := ⟨some 56, _, _, _, _, _⟩) (by kernel_rfl) rfl (fun K hK => ?_)
              go_simp
              (go_at_call 42; refine (HMU.out _).mono ?_; rintro e wn ⟨rfl, hbn⟩; have RO := Lib.hid (RO.out.next hbn))
              try go_wp2_with fail
              refine hK.out _ _ (Or.inr (fun _ => RO.out.ins)) ?_
              clear hK K
              try simp only [Act.put, List.setIfInBounds_toArray, List.set_cons_zero, List.set_cons_succ]
              refine wpLate_one (i := 8) (o := ⟨some 62, _, _, _, _, _⟩) (by kernel_rfl) rfl (fun K hK => ?_)
              go_simp
              (go_at_call 39; refine (HFY.out _).mono ?_; rintro e wn ⟨rfl, hbn⟩; have RO := Lib.hid (RO.out.next hbn))
              try go_wp2_with fail
              refine hK.out _ _ (Or.inr (fun _ => RO.out.ins)) ?_
              clear hK K
              try simp only [Act.put, List.setIfInBounds_toArray, List.set_cons_zero, List.set_cons_succ]
              refine wpLate_one (i := 9) (o := ⟨some 63, _, _, _, _, _⟩) (by kernel_rfl) rfl (fun K hK => ?_)
              go_simp
              (go_at_call 41; refine (HAD.out _).mono ?_; rintro e wn ⟨rfl, hbn⟩; have RO := Lib.hid (RO.out.next hbn); obtain ⟨z0, z1, z2, z3⟩ := blk_cells RO.out.ko)
              try go_wp2_with fail
              refine hK.out _ _ (Or.inr (fun _ => RO.out.ins)) ?_
              clear hK K
              try simp only [Act.put, List.setIfInBounds_toArray, List.set_cons_zero, List.set_cons_succ]
              refine wpLate_one (i := 10) (o := ⟨none, _, _, _, _, _⟩) (by kernel_rfl) rfl (fun K hK => ?_)
              go_simp
              refine hK.out _ _ (Or.inl (by rfl)) ?_
              clear hK K
              try simp only [Act.put, List.setIfInBounds_toArray, List.set_cons_zero, List.set_cons_succ]
              refine wpLate_done (by kernel_rfl) ?_ _
              go_wp2_with fail
              go_roundw
              case rel => exact ⟨k + 1, m4, hlt, by go_num, HNX, RO.out.set m4⟩
              case measure => simp [RowKit.intOf] <;> omega
          · obtain rfl : k = t.size := by omega
            have hall : t.data.toList.take t.size = t.data.toList := List.take_of_length_le (Nat.le_refl _)
            have hm := HM.out.1
            have hdg := HM.out.2
            rw [hall, HTD.out] at hm hdg
            obtain ⟨hz, he⟩ := HGOOD.out hdg
            have HZ := Lib.hid hz
            have HE := Lib.hid he
            have HMM := Lib.hid hm
            obtain ⟨c0, c1', _, _⟩ := blk_cells RO.out.ko
            clear hall hm hdg hz he
            first
            | (have HZ0 := Lib.hid (show z = sgn false (val10 d) from HZ.out)
               obtain ⟨k0, k1, k2, k3⟩ := blk_cells RO.out.kr
               obtain ⟨l0, l1, _, _⟩ := blk_cells (two_set RO.out.kr (.bool false) (.string m))
               have HB7 := Lib.hid ((RO.out.bel.setCell (p := ⟨w.heap.size, 0, none⟩) (Nat.le_refl _) (.bool false)).setCell (p := ⟨w.heap.size, 1, none⟩) (Nat.le_refl _) (.string m))
               go_wp2_with fail
               refine bodyPost_ret (v := .tuple #[.agg #[.bool false, .string m], .int .i64 0]) (by simp [results, Tryd.results15, go_sem, l0, l1]) rfl ?_
               rw [HZ0.out, HE.out]
               exact ⟨false, m, by rw [HMM.out]; exact enc_nat _, rfl, HB7.out⟩)
            | (obtain ⟨bz, mz, hbm⟩ := enc_form (-((val10 d : Nat) : Int))
               have HNG := Lib.hid (fun V => refNegate_f (x := ((val10 d : Nat) : Int)) (b := false) (m := m) (by rw [HMM.out]; exact enc_nat _) hbm V)
               have HBM := Lib.hid hbm
               clear hbm
               go_wp2_with fail
               refine (HNG.out _).mono ?_
               rintro e wn ⟨rfl, hbn⟩
               have RO := Lib.hid (RO.out.next hbn)
               obtain ⟨k0, k1, k2, k3⟩ := blk_cells RO.out.kr
               obtain ⟨l0, l1, _, _⟩ := blk_cells (two_set RO.out.kr (.bool bz) (.string mz))
               have HB7 := Lib.hid ((RO.out.bel.setCell (p := ⟨w.heap.size, 0, none⟩) (Nat.le_refl _) (.bool bz)).setCell (p := ⟨w.heap.size, 1, none⟩) (Nat.le_refl _) (.string mz))
               clear hbn c0 c1'
               go_wp2_with fail
               refine bodyPost_ret (v := .tuple #[.agg #[.bool bz, .string mz], .int .i64 0]) (by simp [results, Tryd.results15, go_sem, l0, l1]) rfl ?_
               rw [HZ.out, HE.out]
               exact ⟨bz, mz, HBM, rfl, HB7.out⟩)

end Go.Proofs.YtkaefmfophopoaaDoor
