import Derived.Test.YtkaefmfophopoaaDoorGStE
import Derived.Test.YtkaefmfophopoaaDoorGRefN
import Derived.Test.YtkaefmfophopoaaDoorGIntP
import Derived.Test.YtkaefmfophopoaaDoorGIntS

/-
  The program's reading of an integer.
-/
namespace Go.Proofs.YtkaefmfophopoaaDoor
open Go.RowKit

/-- A numeral: digits, and no needless zero ahead. -/
def Numeral (l : List UInt8) : Prop := (∀ b ∈ l, digit10 b) ∧ (l = [48] ∨ (l ≠ [] ∧ l.head? ≠ some 48))

/-- A call that tells whether something holds. -/
def RetP (w : World) (p : Prop) (e : Ending) (w' : World) : Prop := ∃ r : Bool, e = .returned (.bool r) ∧ (r = true ↔ p) ∧ w = w'

set_option maxHeartbeats 8000000 in
set_option maxRecDepth 100000 in
theorem isNumeral_any (t : ByteArray) (w : World) (hts : t.size ≤ 1000000) :
    Calls Tryd.prog 37 #[.string t] w (RetP w (Numeral t.data.toList)) := by
  go_enter Tryd.func37, Tryd.ntmps37
  go_wp2_with fail
  go_loopw [6] (fun i wr => ∃ k : Nat, k ≤ t.size ∧ i = .int .i64 (k : Int) ∧ Hid (∀ b ∈ t.data.toList.take k, digit10 b) ∧ wr = w) (fun i _ => t.size - (RowKit.intOf i).toNat)
  case atStart => exact ⟨0, Nat.zero_le _, rfl, (fun b hb => by simp at hb), rfl⟩
  case round =>
    obtain ⟨k, hk, rfl, HD, rfl⟩ := hrel
    by_cases hlt : k < t.size
    · have hkl : k < t.data.toList.length := hlt
      have hget : ∀ h, (t[k]'h).toNat = (t.data.toList[k]'hkl).toNat := fun h => rfl
      obtain ⟨b, hb⟩ : ∃ b, (t.data.toList[k]'hkl) = b := ⟨_, rfl⟩
      have hmem : b ∈ t.data.toList := by rw [← hb]; exact List.getElem_mem hkl
      rw [hb] at hget
      have HTK := Lib.hid (List.take_succ_eq_append_getElem hkl)
      have HB := Lib.hid hb
      have HMEM := Lib.hid hmem
      obtain ⟨x, hx⟩ : ∃ x, b.toNat = x := ⟨_, rfl⟩
      rw [hx] at hget
      have HX := Lib.hid hx
      clear hb hmem hx
      by_cases h1 : x < 48
      · have hn : ¬ Numeral t.data.toList := fun h => by have := (h.1 b HMEM.out).1; rw [HX.out] at this; omega
        have HN := Lib.hid hn
        clear hn
        go_wp2
        go_ret
        exact ⟨false, rfl, by simp [HN.out], rfl⟩
      · by_cases h2 : 57 < x
        · have hn : ¬ Numeral t.data.toList := fun h => by have := (h.1 b HMEM.out).2; rw [HX.out] at this; omega
          have HN := Lib.hid hn
          clear hn
          go_wp2
          go_ret
          exact ⟨false, rfl, by simp [HN.out], rfl⟩
        · go_wp2
          go_roundw
          case rel =>
            refine ⟨k + 1, hlt, by simp, (fun c hc => ?_), by first | rfl | trivial⟩
            rw [HTK.out, HB.out, List.mem_append] at hc
            rcases hc with hc | hc
            · exact HD.out c hc
            · obtain rfl : c = b := by simpa using hc
              exact ⟨by rw [HX.out]; omega, by rw [HX.out]; omega⟩
          case measure => simp [RowKit.intOf]; omega
    · obtain rfl : k = t.size := by omega
      have hall : ∀ b ∈ t.data.toList, digit10 b := fun b hb => HD.out b (by rw [show t.data.toList.take t.size = t.data.toList from List.take_of_length_le (Nat.le_refl _)]; exact hb)
      have HALL := Lib.hid hall
      clear hall
      by_cases h0 : t = ⟨#[48]⟩
      · subst h0
        have HN := Lib.hid (show Numeral (⟨#[48]⟩ : ByteArray).data.toList from ⟨HALL.out, .inl rfl⟩)
        go_wp2
        go_ret
        exact ⟨true, rfl, by simp [HN.out], rfl⟩
      · by_cases h1 : t = ⟨#[]⟩
        · subst h1
          have HN := Lib.hid (show ¬ Numeral (⟨#[]⟩ : ByteArray).data.toList from fun h => by rcases h.2 with h | h <;> simp at h)
          go_wp2
          go_ret
          exact ⟨false, rfl, by simp [HN.out], rfl⟩
        · have h0b : (t.toList == [48]) = false := by
            rw [ByteArray.toList_eq]
            simp only [beq_eq_false_iff_ne, ne_eq]
            exact fun h => h0 (ByteArray.ext (by rw [← Array.toList_inj, h]))
          have h1b : t.toList.isEmpty = false := by
            rw [ByteArray.toList_eq]
            cases h : t.data.toList with
            | nil => exact absurd (ByteArray.ext (by rw [← Array.toList_inj, h])) h1
            | cons => rfl
          have h1c : ¬ t.toList = [] := by rw [List.isEmpty_eq_false_iff] at h1b; exact h1b
          have h0c : ¬ t.toList = [48] := by simpa using h0b
          have hpos : 0 < t.size := by
            rcases Nat.eq_zero_or_pos t.size with h | h
            · exfalso; apply h1; apply ByteArray.ext; apply Array.eq_empty_of_size_eq_zero; exact h
            · exact h
          have hkl : 0 < t.data.toList.length := hpos
          have hget : ∀ h, (t[0]'h).toNat = (t.data.toList[0]'hkl).toNat := fun h => rfl
          obtain ⟨x, hx⟩ : ∃ x, (t.data.toList[0]'hkl).toNat = x := ⟨_, rfl⟩
          rw [hx] at hget
          have hnum : (!((x : Int) == 48)) = true ↔ Numeral t.data.toList := by
            have hh : t.data.toList.head? = some (t.data.toList[0]'hkl) := by rw [List.head?_eq_getElem?]; exact List.getElem?_eq_getElem hkl
            constructor
            · intro h
              refine ⟨HALL.out, .inr ⟨by intro e; rw [e] at hkl; simp at hkl, ?_⟩⟩
              rw [hh]
              intro e
              injection e with e
              rw [e] at hx
              have : x = 48 := by rw [← hx]; rfl
              subst this
              simp at h
            · intro h
              rcases h.2 with h2 | ⟨_, h2⟩
              · exact absurd (by rw [ByteArray.toList_eq]; exact h2) h0c
              · rw [hh] at h2
                simp only [Bool.not_eq_true', beq_eq_false_iff_ne, ne_eq]
                intro e
                apply h2
                congr 1
                apply UInt8.toNat_inj.1
                rw [hx]
                show x = 48
                omega
          have HNUM := Lib.hid hnum
          clear h0 h1 hkl hx hnum h1c h0c
          go_wp2
          go_ret
          exact ⟨_, rfl, HNUM.out, rfl⟩

set_option maxHeartbeats 8000000 in
set_option maxRecDepth 100000 in
theorem parse_ok (s : ByteArray) (w : World) (d : List UInt8) (neg : Bool) (hd : Lib.trimPrefix s.data.toList [45] = d) (hn : Lib.hasPrefix s.data.toList [45] = neg)
    (h0 : s.toList.isEmpty = false) (hlen : d.length ≤ 1000) (hN : Numeral d) (hz : neg = true → d ≠ [48]) :
    Calls Tryd.prog 13 #[.string s] w (RetE w (sgn neg (val10 d)) 0) := by
  have hcp := fun W => Tryd.strings_CutPrefix s ⟨#[45]⟩ W
  have e45 : (ByteArray.mk #[45]).data.toList = [45] := rfl
  rw [e45, hd, hn] at hcp
  obtain ⟨t, ht⟩ : ∃ t : ByteArray, ⟨d.toArray⟩ = t := ⟨_, rfl⟩
  have htd : t.data.toList = d := by rw [← ht]
  have hts : t.size ≤ 1000 := by rw [← ht]; exact hlen
  rw [ht] at hcp
  have hin := fun W => isNumeral_any t W (by omega)
  rw [htd] at hin
  have HCP := Lib.hid hcp
  have HIN := Lib.hid hin
  have HNU := Lib.hid hN
  have HTD := Lib.hid htd
  have hs0 : ¬ s.toList = [] := by rw [List.isEmpty_eq_false_iff] at h0; exact h0
  clear hcp hin hN htd ht e45 hd hn hlen
  go_enter Tryd.func13, Tryd.ntmps13
  go_wp2_with fail
  refine (HCP.out _).mono ?_
  rintro e w1 ⟨rfl, rfl⟩
  go_wp2_with fail
  refine (HIN.out _).mono ?_
  rintro e w1 ⟨r, rfl, hr, rfl⟩
  obtain rfl : r = true := hr.2 HNU.out
  have h48 : neg = true → (t.toList == [48]) = false := fun h => by
    rw [ByteArray.toList_eq, HTD.out]
    simp only [beq_eq_false_iff_ne, ne_eq]
    exact hz h
  have H48 := Lib.hid h48
  clear hr hz h48
  cases neg
  case' false =>
    obtain ⟨zz, hzz⟩ : ∃ zz, sgn false (val10 d) = zz := ⟨_, rfl⟩
    have hpk0 : ∀ (A : Option Addr) (n c : Nat) (W : World), n ≤ 1000000000 → Ng W A n c (val10 d) → Calls Tryd.prog 21 #[.bool false, .slice A n c] W (RetZ W zz) := fun A n c W h1 h2 => by rw [← hzz]; exact pack_any false A n c _ W h1 h2
    have HZZ := Lib.hid hzz
    have HPK0 := Lib.hid hpk0
    clear hzz hpk0
    go_wp2_with fail
  case' true =>
    obtain ⟨zz, hzz⟩ : ∃ zz, sgn true (val10 d) = zz := ⟨_, rfl⟩
    have hpk0 : ∀ (A : Option Addr) (n c : Nat) (W : World), n ≤ 1000000000 → Ng W A n c (val10 d) → Calls Tryd.prog 21 #[.bool true, .slice A n c] W (RetZ W zz) := fun A n c W h1 h2 => by rw [← hzz]; exact pack_any true A n c _ W h1 h2
    have HZZ := Lib.hid hzz
    have HPK0 := Lib.hid hpk0
    clear hzz hpk0
    have h48 := H48.out rfl
    have h48' : ¬ t.toList = [48] := by simpa using h48
    go_wp2_with fail
    clear h48 h48'
  all_goals
    go_loopw [4, 7] (fun dv vv wr => ∃ (done : List UInt8) (rb : ByteArray) (A : Option Addr) (n c : Nat), dv = .string rb ∧ vv = .slice A n c ∧ Hid (d = done ++ rb.data.toList ∧ (done = [] ∨ rb.size % 19 = 0)) ∧ Ow wr (w.heap.size + 1) A n c (val10 done) ∧ n + rb.size ≤ 1001 ∧ Below (w.heap.size + 1) (w.alloc (.cells #[.bool false, .string ⟨#[]⟩] 23)) wr) (fun dv _ _ => match dv with | .string b => b.size | _ => 0)
    case atStart =>
      refine ⟨[], t, _, 0, 16, rfl, rfl, ⟨HTD.out.symm, .inl rfl⟩, ⟨Own.start (heap_two _ _ _) (Nat.le_refl _) (by simp) (by unfold maxLen; omega), by simp [val10], fun h => by omega⟩, by omega, (Below.refl _ _).alloc (by simp) _⟩
    case round =>
      obtain ⟨done, rb, A, n, c, rfl, rfl, HDD, how, hnr, hbl⟩ := hrel
      by_cases hp : 0 < rb.size
      · have hne : rb.toList.isEmpty = false := by
          rw [ByteArray.toList_eq, List.isEmpty_eq_false_iff]
          intro h
          have : rb.data.toList.length = 0 := by rw [h]; rfl
          have h2 : rb.data.toList.length = rb.size := rfl
          omega
        have hne' : ¬ rb.toList = [] := by rw [List.isEmpty_eq_false_iff] at hne; exact hne
        obtain ⟨z, hz⟩ : ∃ z, (rb.size - 1) % 19 + 1 = z := ⟨_, rfl⟩
        have hz1 : 1 ≤ z := by omega
        have hz2 : z ≤ 19 := by omega
        have hz3 : z ≤ rb.size := by have := Nat.mod_le (rb.size - 1) 19; omega
        have hzi : ((rb.size : Int) - 1) % 19 + 1 = (z : Int) := by omega
        have hzt : ((rb.size : Int) - 1).tmod 19 + 1 = (z : Int) := by rw [Int.tmod_eq_emod_of_nonneg (by omega)]; exact hzi
        have HZ := Lib.hid hz
        have HOW := Lib.hid how
        clear hz how
        have hp1 : (rb.extract 0 z).data.toList = rb.data.toList.take z := by simp [ByteArray.data_extract]
        have hp2 : (rb.extract z rb.size).data.toList = rb.data.toList.drop z := by
          rw [ByteArray.data_extract, Array.toList_extract, List.extract_eq_take_drop]
          exact List.take_of_length_le (by rw [List.length_drop]; exact Nat.le_refl _)
        have hsp : (rb.extract z rb.size).size = rb.size - z := by simp
        have hs1 : (rb.extract 0 z).size = z := by simp; omega
        have hdg : ∀ b ∈ (rb.extract 0 z).data.toList, digit10 b := fun b hb => HNU.out.1 b (by
          rw [HDD.out.1, List.mem_append]
          rw [hp1] at hb
          exact .inr (List.mem_of_mem_take hb))
        have hval : val10 done * G19 + val10 (rb.extract 0 z).data.toList = val10 (done ++ rb.data.toList.take z) := by
          rw [val10_append, hp1]
          have hl : (rb.data.toList.take z).length = z := by rw [List.length_take]; exact Nat.min_eq_left hz3
          rw [hl]
          rcases HDD.out.2 with h | h
          · rw [h]; simp [val10]
          · have : z = 19 := by have := HZ.out; omega
            rw [this, G19_eq]
        have hag := appendGroup_any (w.heap.size + 1) n c (val10 done) A (rb.extract 0 z) wr (by omega) (by have := hbl.size; simp at this; omega) HOW.out.own HOW.out.lt (by omega) hdg
        rw [hval] at hag
        have HAG := Lib.hid hag
        have HNX := Lib.hid (show d = (done ++ rb.data.toList.take z) ++ (rb.extract z rb.size).data.toList ∧ ((done ++ rb.data.toList.take z) = [] ∨ (rb.extract z rb.size).size % 19 = 0) from
          ⟨by rw [hp2, List.append_assoc, List.take_append_drop]; exact HDD.out.1, .inr (by rw [hsp]; have := HZ.out; omega)⟩)
        have HBL := Lib.hid hbl
        clear hag hp1 hp2 hs1 hdg hval hbl
        go_wp2_with fail
        refine HAG.out.mono ?_
        rintro e w5 ⟨A', n', c', hn', rfl, how', hb'⟩
        have HOW' := Lib.hid how'
        have HB' := Lib.hid hb'
        clear how' hb'
        go_wp2_with fail
        go_roundw
        case rel => exact ⟨_, _, _, _, _, rfl, rfl, HNX, HOW'.out, by omega, HBL.out.trans HB'.out⟩
        case measure => simp; omega
      · have hrb : rb = ⟨#[]⟩ := by apply ByteArray.ext; apply Array.eq_empty_of_size_eq_zero; show rb.size = 0; omega
        subst hrb
        have hdd : d = done := by have := HDD.out.1; simpa using this
        rw [← hdd] at how
        obtain ⟨bz, mz, hbm⟩ := enc_form zz
        have hn0 : n ≤ 1000000000 := by omega
        have hpk := fun W => HPK0.out A n c W hn0
        unfold RetZ at hpk
        rw [hbm] at hpk
        have HPK := Lib.hid hpk
        have HBM := Lib.hid hbm
        have HNG := Lib.hid how.nm.toNg
        have HBL := Lib.hid hbl
        clear hpk hbm how hbl hdd
        go_wp2_with fail
        refine (HPK.out _ HNG.out).mono ?_
        rintro e w6 ⟨rfl, hb6⟩
        have hb7 := (((Below.refl w.heap.size w).alloc (Nat.le_refl _) (.cells #[.bool false, .string ⟨#[]⟩] 23)).trans ((HBL.out.mono (by omega)).trans (hb6.mono (by have := HBL.out.size; simp at this; omega))))
        have hk6 : w6.heap[w.heap.size]? = some (.cells #[.bool false, .string ⟨#[]⟩] 23 (0, 0)) :=
          (hb6.block _ (by have := HBL.out.size; simp at this; omega)).trans ((HBL.out.block _ (by omega)).trans (heap_alloc_new _ _))
        have hk7 := two_set hk6 (.bool bz) (.string mz)
        obtain ⟨k0, k1, k2, k3⟩ := blk_cells hk6
        obtain ⟨l0, l1, _, _⟩ := blk_cells hk7
        have HB7 := Lib.hid ((hb7.setCell (p := ⟨w.heap.size, 0, none⟩) (Nat.le_refl _) (.bool bz)).setCell (p := ⟨w.heap.size, 1, none⟩) (Nat.le_refl _) (.string mz))
        clear hb6 hb7 hk6 hk7
        go_wp2_with fail
        refine bodyPost_ret (v := .tuple #[.agg #[.bool bz, .string mz], .int .i64 0]) (by simp [results, Tryd.results13, go_sem, l0, l1]) rfl ⟨bz, mz, by rw [HZZ.out]; exact HBM, rfl, HB7.out⟩
end Go.Proofs.YtkaefmfophopoaaDoor
