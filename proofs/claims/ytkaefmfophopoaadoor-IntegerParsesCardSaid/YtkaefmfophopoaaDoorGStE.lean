import Derived.Test.YtkaefmfophopoaaDoorGStC
import Derived.Test.YtkaefmfophopoaaDoorGGcE
import Derived.Test.YtkaefmfophopoaaDoorGLawA

/-
  The program's reading of a group of decimal digits.
-/
namespace Go.Proofs.YtkaefmfophopoaaDoor
open Go.RowKit

/-- The number that a row of decimal digits tells. -/
def val10 (l : List UInt8) : Nat := l.foldl (fun a b => a * 10 + (b.toNat - 48)) 0

def digit10 (b : UInt8) : Prop := 48 ≤ b.toNat ∧ b.toNat ≤ 57

theorem val10_snoc (l : List UInt8) (b : UInt8) : val10 (l ++ [b]) = val10 l * 10 + (b.toNat - 48) := by simp [val10]

theorem fold10 (l : List UInt8) : ∀ a : Nat, l.foldl (fun a b => a * 10 + (b.toNat - 48)) a = a * 10 ^ l.length + val10 l := by
  induction l with
  | nil => intro a; simp [val10]
  | cons b l ih =>
    intro a
    have e : val10 (b :: l) = (b.toNat - 48) * 10 ^ l.length + val10 l := by
      show l.foldl _ (0 * 10 + (b.toNat - 48)) = _
      rw [ih, Nat.zero_mul, Nat.zero_add]
    rw [e, List.foldl_cons, ih, List.length_cons, Nat.pow_succ, Nat.add_mul, Nat.mul_assoc, Nat.mul_comm 10, Nat.add_assoc]

theorem val10_cons (b : UInt8) (l : List UInt8) : val10 (b :: l) = (b.toNat - 48) * 10 ^ l.length + val10 l := by
  show l.foldl _ (0 * 10 + (b.toNat - 48)) = _
  rw [fold10, Nat.zero_mul, Nat.zero_add]

theorem val10_append (a b : List UInt8) : val10 (a ++ b) = val10 a * 10 ^ b.length + val10 b := by
  unfold val10
  rw [List.foldl_append, fold10]
  rfl

theorem val10_lt (l : List UInt8) (h : ∀ b ∈ l, digit10 b) : val10 l < 10 ^ l.length := by
  induction l with
  | nil => simp [val10]
  | cons b l ih =>
    have h1 := ih (fun c hc => h c (by simp [hc]))
    have h2 := (h b (by simp)).2
    rw [val10_cons, List.length_cons, Nat.pow_succ]
    have h3 : (b.toNat - 48) * 10 ^ l.length ≤ 9 * 10 ^ l.length := Nat.mul_le_mul_right _ (by omega)
    omega

theorem val10_take (l : List UInt8) {k : Nat} (hk : k < l.length) : val10 (l.take (k + 1)) = val10 (l.take k) * 10 + (l[k].toNat - 48) := by
  rw [List.take_succ_eq_append_getElem hk, val10_snoc]

theorem val10_take_lt (l : List UInt8) (h : ∀ b ∈ l, digit10 b) (k : Nat) (hk : k ≤ 19) : val10 (l.take k) < G19 := by
  have h1 := val10_lt (l.take k) (fun b hb => h b (List.mem_of_mem_take hb))
  rw [G19_eq]
  refine Nat.lt_of_lt_of_le h1 (Nat.pow_le_pow_right (by decide) ?_)
  rw [List.length_take]
  omega

/-- What is carried. -/
def gcar (V c k : Nat) : Nat := (V % B64 ^ k * G19 + c) / B64 ^ k

theorem gcar_zero (V c : Nat) : gcar V c 0 = c := by simp [gcar, Nat.mod_one]
theorem gcar_lt {V c k : Nat} (hc : c < G19) : gcar V c k < G19 := by
  have hp : 0 < B64 ^ k := Nat.pow_pos B64_pos
  have h1 := Nat.mod_lt V hp
  unfold gcar
  refine Nat.div_lt_of_lt_mul ?_
  have h2 : (V % B64 ^ k + 1) * G19 ≤ B64 ^ k * G19 := Nat.mul_le_mul_right _ h1
  rw [Nat.add_mul, Nat.one_mul] at h2
  omega
theorem gcar_parts (V c k : Nat) : (V % B64 ^ (k + 1) * G19 + c) / B64 ^ k = G19 * D B64 V k + gcar V c k := by
  have hp : 0 < B64 ^ k := Nat.pow_pos B64_pos
  have h : V % B64 ^ (k + 1) = V % B64 ^ k + B64 ^ k * D B64 V k := by rw [Nat.pow_succ]; exact Nat.mod_mul
  rw [h, Nat.add_mul, Nat.mul_assoc, Nat.add_right_comm, Nat.add_mul_div_left _ _ hp]
  unfold gcar
  rw [Nat.add_comm, Nat.mul_comm (D B64 V k)]
theorem gcar_succ (V c k : Nat) : gcar V c (k + 1) = (G19 * D B64 V k + gcar V c k) / B64 := by
  rw [← gcar_parts, Nat.div_div_eq_div_mul, ← Nat.pow_succ]
  rfl
theorem gdig (V c k : Nat) : D B64 (V * G19 + c) k = (G19 * D B64 V k + gcar V c k) % B64 := by
  have hp : 0 < B64 ^ k := Nat.pow_pos B64_pos
  have h : V * G19 + c = V % B64 ^ (k + 1) * G19 + c + B64 ^ k * (B64 * (V / B64 ^ (k + 1) * G19)) := by
    have h1 := Nat.div_add_mod V (B64 ^ (k + 1))
    have h2 : B64 ^ k * (B64 * (V / B64 ^ (k + 1) * G19)) = B64 ^ (k + 1) * (V / B64 ^ (k + 1)) * G19 := by
      rw [Nat.pow_succ]; simp only [Nat.mul_assoc]
    rw [h2]
    generalize B64 ^ (k + 1) * (V / B64 ^ (k + 1)) = p at *
    generalize V % B64 ^ (k + 1) = r at *
    have h3 : V * G19 = p * G19 + r * G19 := by rw [← h1, Nat.add_mul]
    omega
  unfold D
  rw [h, Nat.add_mul_div_left _ _ hp, gcar_parts, Nat.add_mul_mod_self_left]
  rfl

/-- The digits of the number while it is multiplied. -/
def gF (V c k j : Nat) : Nat := if j < k then D B64 (V * G19 + c) j else D B64 V j

theorem gtop {V c n : Nat} (hV : V < B64 ^ n) (hc : c < G19) : V * G19 + c < B64 ^ (n + 1) ∧ gcar V c n = D B64 (V * G19 + c) n := by
  have h1 : V * G19 + c < B64 ^ n * G19 := by
    have h2 : (V + 1) * G19 ≤ B64 ^ n * G19 := Nat.mul_le_mul_right _ hV
    rw [Nat.add_mul, Nat.one_mul] at h2
    omega
  have h3 : B64 ^ n * G19 ≤ B64 ^ n * B64 := Nat.mul_le_mul_left _ (by decide)
  refine ⟨by rw [Nat.pow_succ]; omega, ?_⟩
  have hg := gcar_lt (V := V) (k := n) hc
  unfold gcar at hg ⊢
  rw [Nat.mod_eq_of_lt hV] at hg ⊢
  unfold D
  rw [Nat.mod_eq_of_lt]
  exact Nat.lt_of_lt_of_le hg (by decide)

set_option maxHeartbeats 8000000 in
set_option maxRecDepth 100000 in
theorem appendGroup_any (base n c V : Nat) (A : Option Addr) (t : ByteArray) (w : World) (hn : n ≤ 1000000) (hb : base ≤ w.heap.size) (hx : Own w base (.slice A n c) n (nums .u64 (D B64 V) n)) (hV : V < B64 ^ n)
    (ht : t.size ≤ 19) (hd : ∀ b ∈ t.data.toList, digit10 b) :
    Calls Tryd.prog 38 #[.slice A n c, .string t] w (fun e w' => ∃ A' n' c', n' ≤ n + 1 ∧ e = .returned (.slice A' n' c') ∧ Ow w' base A' n' c' (V * G19 + val10 t.data.toList) ∧ Below base w w') := by
  obtain ⟨i0, hi, hz0, hz1, hz2⟩ := info_parts natInfo
  go_enter Tryd.func38, Tryd.ntmps38
  go_wp2_with fail
  go_loopw [5, 13] (fun cy i wr => ∃ k : Nat, k ≤ t.size ∧ i = .int .i64 (k : Int) ∧ cy = .int .u64 ((val10 (t.data.toList.take k) : Nat) : Int) ∧ wr = w) (fun _ i _ => t.size - (RowKit.intOf i).toNat)
  case atStart => exact ⟨0, Nat.zero_le _, rfl, rfl, rfl⟩
  case round =>
    obtain ⟨k, hk, rfl, rfl, rfl⟩ := hrel
    by_cases hlt : k < t.size
    · have hkl : k < t.data.toList.length := hlt
      have hv := val10_take t.data.toList hkl
      have hdg := hd _ (List.getElem_mem hkl)
      have hbd := val10_take_lt t.data.toList hd (k + 1) (by omega)
      rw [hv] at hbd
      have hget : ∀ h, (t[k]'h).toNat = (t.data.toList[k]'hkl).toNat := fun h => rfl
      obtain ⟨x, hx⟩ : ∃ x, (t.data.toList[k]'hkl).toNat = x := ⟨_, rfl⟩
      obtain ⟨y, hy⟩ : ∃ y, val10 (t.data.toList.take k) = y := ⟨_, rfl⟩
      have hx1 : 48 ≤ x := by rw [← hx]; exact hdg.1
      have hx2 : x ≤ 57 := by rw [← hx]; exact hdg.2
      rw [hx] at hget hv hbd
      rw [hy] at hv hbd ⊢
      have hyb : y * 10 + 9 < 18446744073709551616 := by unfold G19 at hbd; omega
      have HV := Lib.hid hv
      clear hv hbd hx hy hdg
      go_wp2_with fail
      refine ⟨⟨k + 1, hlt, by simp, ?_, trivial⟩, by simp [RowKit.intOf]; omega⟩
      rw [HV.out]
      congr 1
      omega
    · obtain rfl : k = t.size := by omega
      have hall : t.data.toList.take t.size = t.data.toList := List.take_of_length_le (Nat.le_refl _)
      rw [hall]
      obtain ⟨cc, hcc⟩ : ∃ cc, val10 t.data.toList = cc := ⟨_, rfl⟩
      have hcg : cc < G19 := by rw [← hcc, ← hall]; exact val10_take_lt _ hd _ ht
      rw [hcc]
      have HX := Lib.hid hx
      have HVV := Lib.hid hV
      have HCC := Lib.hid hcc
      clear hall hcc hd hx hV
      rename World => w
      go_wp2_with fail
      go_loopw [5, 27] (fun cy i wr => ∃ k : Nat, k ≤ n ∧ i = .int .i64 (k : Int) ∧ cy = .int .u64 ((gcar V cc k : Nat) : Int) ∧ Own wr base (.slice A n c) n (nums .u64 (gF V cc k) n) ∧ Below base w wr) (fun _ i _ => n - (RowKit.intOf i).toNat)
      case atStart =>
        exact ⟨0, Nat.zero_le _, rfl, by rw [gcar_zero], HX.out, Below.refl _ _⟩
      case round =>
        obtain ⟨k, hk, rfl, rfl, hown, hbl⟩ := hrel
        by_cases hlt : k < n
        · obtain ⟨g, hA, hlies, hcp, hnc, hcm, hbg⟩ := hown.lies (by omega)
          subst hA
          have hcell := hlies.cell (i := k) hlt
          have hfro := hlies.frozen k
          have hval : gF V cc k k = D B64 V k := by unfold gF; rw [if_neg (by omega)]
          rw [hval] at hcell
          have hdx := D64_lt V k
          have hcl := gcar_lt (V := V) (k := k) hcg
          have hs1 := gcar_succ V cc k
          have hs2 := gdig V cc k
          rw [B64_eq] at hs1 hs2
          rw [← B64_eq] at hs1 hs2
          obtain ⟨ck, hck⟩ : ∃ ck, gcar V cc k = ck := ⟨_, rfl⟩
          obtain ⟨xk, hxk⟩ : ∃ xk, D B64 V k = xk := ⟨_, rfl⟩
          rw [hck] at hs1 hs2 hcl ⊢
          rw [hxk] at hs1 hs2 hcell hdx
          have hG : G19 < 18446744073709551616 := by decide
          obtain ⟨m1, m2, m3⟩ := mul_carry (P := G19) hG hdx (by omega : ck < 18446744073709551616)
          obtain ⟨hi', hhi⟩ : ∃ v, xk * G19 / 18446744073709551616 = v := ⟨_, rfl⟩
          obtain ⟨lo, hlo⟩ : ∃ v, xk * G19 % 18446744073709551616 = v := ⟨_, rfl⟩
          rw [Nat.mul_comm G19 xk] at m1 m2 m3 hs1 hs2
          rw [hhi] at m3
          rw [hlo] at m1 m3
          obtain ⟨s1, hs1'⟩ : ∃ v, (lo + ck) % 18446744073709551616 = v := ⟨_, rfl⟩
          obtain ⟨o1, ho1⟩ : ∃ v, (lo + ck) / 18446744073709551616 = v := ⟨_, rfl⟩
          rw [hs1'] at m1
          rw [ho1] at m3
          have hm64 := fun W => mul64_any xk G19 hdx hG hi' lo hhi hlo W
          have ha1 := add64_0 lo ck s1 o1 hs1' ho1
          have hdig : s1 = D B64 (V * G19 + cc) k := by rw [m1, hs2, B64_eq]
          have hcar : hi' + o1 = gcar V cc (k + 1) := by rw [m3, hs1, B64_eq]
          have hcb : hi' + o1 < 18446744073709551616 := by rw [m3]; exact m2
          have HM64 := Lib.hid hm64
          have HDIG := Lib.hid hdig
          have HCAR := Lib.hid hcar
          have HL2 := Lib.hid hlies
          have HBL := Lib.hid hbl
          clear hs1 hs2 m1 m2 m3 hhi hlo hs1' ho1 hm64 hdig hcar hlies hbl hck hxk hval hown
          go_wp2_with fail
          refine (HM64.out _).mono ?_
          rintro e w' ⟨rfl, rfl⟩
          go_wp2
          go_roundw
          case rel =>
            refine ⟨k + 1, by omega, by go_num, by rw [← HCAR.out]; go_num, ?_, HBL.out.setCell hbg _⟩
            refine Own.of_lies ((HL2.out.set k s1).congr fun j hj => ?_) (hcp.set _ _) hnc hcm hbg
            unfold gF
            by_cases e : j = k
            · rw [if_pos e, if_pos (by omega), e, HDIG.out]
            · rw [if_neg e]
              by_cases e2 : j < k
              · rw [if_pos e2, if_pos (by omega)]
              · rw [if_neg e2, if_neg (by omega)]
          case measure => simp [RowKit.intOf] <;> omega
        · obtain rfl : k = n := by omega
          obtain ⟨hT1, hT2⟩ := gtop HVV.out hcg
          have hown1 : Own wr base (.slice A k c) k (nums .u64 (D B64 (V * G19 + cc)) k) := by
            have e : nums .u64 (gF V cc k) k = nums .u64 (D B64 (V * G19 + cc)) k := nums_congr fun i hi => by unfold gF; rw [if_pos hi]
            rw [← e]; exact hown
          have HBL := Lib.hid hbl
          have hsz := hbl.size
          rw [hT2]
          obtain ⟨Z, hZ⟩ : ∃ Z, V * G19 + cc = Z := ⟨_, rfl⟩
          rw [hZ] at hT1 hown1 ⊢
          have HZ := Lib.hid hZ
          clear hZ
          clear hbl hown hT2
          go_wp2_with (at_builtin; refine wpList_append_Own _ rfl _ _ 47 rfl base 39 i0 (.int .u64 0) 8 Tryd.underlying47 hi hz0 hz1 hz2 rfl _ _ _ rfl (hown1.alloc _) ⟨wr.heap.size, 0, none⟩ 1 1 [.int .u64 (D B64 Z k : Int)] rfl rfl (by omega) ?_ ?_ ?_ ?_ ?_ ?_)
          · intro q u hq; exact one_cell' q u hq rfl
          · intro u hu; simp at hu; subst hu; rfl
          · unfold maxLen; omega
          · omega
          · simp; omega
          intro v' w2 hown' hgrow hat
          have hown2 := own_next' hown' rfl
          have hb2 : Below base w w2 := (HBL.out.alloc (by omega) _).trans ((Below.refl base _).grown hgrow (by simp; omega) (fun z hz => (hown1.lt z hz).1))
          obtain ⟨A2, c2, rfl, hc2, hr2⟩ := hown2.rd
          have HOWN := Lib.hid hown2
          have HB2 := Lib.hid hb2
          clear hown2 hown' hgrow hat hown1 hb2
          go_wp2_with fail
          refine (trim_any A2 (k + 1) c2 Z _ (by omega) ⟨hT1, hc2, hr2⟩).mono ?_
          rintro e w' ⟨m, hm, rfl, hnm, rfl⟩
          have HNM := Lib.hid hnm
          clear hnm hr2
          go_wp2
          go_ret
          have e : V * G19 + val10 t.data.toList = Z := by rw [HCC.out, HZ.out]
          rw [e]
          exact ⟨A2, m, c2, hm, rfl, ⟨HOWN.out.take hm, HNM.out.lt, HNM.out.top⟩, HB2.out⟩
end Go.Proofs.YtkaefmfophopoaaDoor
