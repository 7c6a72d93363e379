/-
  The reference's canonical integer of any integer.
-/
import Derived.Test.YtoolljoejioigaaGRefC
import Derived.Deep.RegionHeld3
import Derived.Deep.DrawnRows
import Derived.Test.YtoolljoejioigaaGLawA
import Derived.StringKeys
namespace Go.Proofs.Ytoolljoejioigaa
open Go.RowKit
attribute [local go_sem ↓] Go.wp_at_zero Go.wp_at_succ

set_option maxHeartbeats 1000000 in
set_option maxRecDepth 100000 in
theorem canonical_cut (neg : Bool) (s t : ByteArray) (k : Nat) (hk : k ≤ 1000) (w : World) (h : (k < s.size ∧ s.extract 0 k = t) ∨ (¬ k < s.size ∧ t = s)) (htk : t.size ≤ 1000) :
    Calls Try.prog 15 #[.agg #[.bool neg, .string s], .int .i64 (k : Int)] w (RetZ w (sgn neg (bval t))) := by
  rcases h with ⟨hsk, ht⟩ | ⟨hsk, rfl⟩
  all_goals
    go_enter Try.func15, Try.ntmps15
    go_wp2
    try clear ht
  all_goals
    go_region_held3 (fun w' => w'.cell? ⟨w.heap.size, 0, none⟩ = some (.bool neg) ∧ w'.cell? ⟨w.heap.size, 1, none⟩ = some (.string t) ∧ w.heap.size + 2 ≤ w'.heap.size)
      (first
        | go_keep
        | (go_split_ands
           have hb9 := ‹Below _ _ _›
           refine ⟨?_, ?_, ?_⟩
           · (rw [hb9.cell (by simp <;> omega)]; first | assumption | simp)
           · (rw [hb9.cell (by simp <;> omega)]; first | assumption | simp)
           · (have := hb9.size; simp at this ⊢; omega)))
      (first
        | (go_at_call 41; refine (digits_any _ _ _ ?_).mono ?_; (omega); rintro e w1 ⟨A1, n1, c1, hn1, rfl, hd1, hb1⟩)
        | (go_at_call 40; refine (number_any _ A1 n1 c1 (bval t) _ ?_ ?_).mono ?_; (omega); (first | exact hd1 | exact hd1.drewN _ | exact hd1.drew); rintro e w2 ⟨rfl, hb2⟩; obtain ⟨bz, mz, hbm⟩ := enc_form (sgn neg (bval t)); rw [hbm]; have HBM := Lib.hid hbm; clear hbm; obtain ⟨q0, q1, f0, f1⟩ := res2 (g := w.heap.size + 1) (by exact heap_two _ _ _) (hb1.trans (hb2.mono hb1.size)) (by simp)))
    go_wp2
    refine bodyPost_ret (v := .agg #[.bool bz, .string mz]) (by simp [results, Try.results15, go_sem, q0, q1]) rfl ⟨by rw [HBM.out], ?_⟩
    have h0 : Below w.heap.size w ((w.alloc (.cells #[.bool neg, .string t] 23)).alloc (.cells #[.bool false, .string ⟨#[]⟩] 23)).drew := (((Below.refl _ _).alloc (Nat.le_refl _) _).alloc (by simp) _).drew
    exact (((h0.trans (hb1.mono h0.size)).trans (hb2.mono (Nat.le_trans h0.size hb1.size))).setCell (by simp) _).setCell (by simp) _

theorem ival_extract (neg : Bool) (s : ByteArray) (k : Nat) (hk : k ≤ 1000) (w : World) :
    Calls Try.prog 15 #[.agg #[.bool neg, .string s], .int .i64 (k : Int)] w (fun e w' => ∃ v, v < 256 ^ k ∧ RetZ w (sgn neg v) e w') := by
  by_cases h : k < s.size
  · have hs : (s.extract 0 k).size = k := by simp; omega
    exact (canonical_cut neg s (s.extract 0 k) k hk w (.inl ⟨h, rfl⟩) (by omega)).mono fun e w' hr => ⟨_, by have := bval_lt (s.extract 0 k); rwa [hs] at this, hr⟩
  · exact (canonical_cut neg s s k hk w (.inr ⟨h, rfl⟩) (by omega)).mono fun e w' hr => ⟨_, Nat.lt_of_lt_of_le (bval_lt s) (Nat.pow_le_pow_right (by omega) (by omega)), hr⟩

/-- A call that hands back an integer of at most k bytes, and touches nothing that was there. -/
def RetI (w : World) (k : Nat) (e : Ending) (w' : World) : Prop := ∃ z : Int, z.natAbs < 256 ^ k ∧ e = .returned (enc z) ∧ Below w.heap.size w w'

theorem canonical_any (neg : Bool) (s : ByteArray) (k : Nat) (hk : k ≤ 1000) (w : World) :
    Calls Try.prog 15 #[.agg #[.bool neg, .string s], .int .i64 (k : Int)] w (RetI w k) :=
  (ival_extract neg s k hk w).mono fun _ _ ⟨v, hv, he, hb⟩ => ⟨sgn neg v, by unfold sgn; split <;> omega, he, hb⟩

set_option maxHeartbeats 400000 in
theorem in_any (neg : Bool) (s : ByteArray) (w : World) :
    Calls Try.prog 20 #[.agg #[.bool neg, .string s]] w (RetI w 40) := by
  go_enter Try.func20, Try.ntmps20
  go_wp2_with fail
  refine (canonical_any neg s 40 (by omega) _).mono ?_
  rintro e w1 ⟨z, hz, rfl, hb1⟩
  obtain ⟨bz, mz, hbm⟩ := enc_form z
  rw [hbm]
  have HBM := Lib.hid hbm
  clear hbm
  obtain ⟨q0, q1, f0, f1⟩ := res2 (g := w.heap.size + 1) (by exact heap_two _ _ _) hb1 (by simp)
  go_wp2
  refine bodyPost_ret (v := .agg #[.bool bz, .string mz]) (by simp [results, Try.results20, go_sem, q0, q1]) rfl ⟨z, hz, by rw [HBM.out], ?_⟩
  have h0 : Below w.heap.size w ((w.alloc (.cells #[.bool neg, .string s] 23)).alloc (.cells #[.bool false, .string ⟨#[]⟩] 23)) := (((Below.refl _ _).alloc (Nat.le_refl _) _).alloc (by simp) _)
  exact ((h0.trans (hb1.mono h0.size)).setCell (by simp) _).setCell (by simp) _

/-- Is a pair canonical? -/
def canonB (neg : Bool) (s : ByteArray) : Bool := if h : 0 < s.size then (s[0]'h).toNat != 0 else !neg

set_option maxHeartbeats 400000 in
theorem valid_any (neg : Bool) (s : ByteArray) (w : World) :
    Calls Try.prog 12 #[.agg #[.bool neg, .string s]] w (fun e w' => e = .returned (.bool (canonB neg s)) ∧ w' = w.alloc (.cells #[.bool neg, .string s] 23)) := by
  by_cases h : 0 < s.size
  · have hv : canonB neg s = ((s[0]'h).toNat != 0) := by unfold canonB; rw [dif_pos h]
    have HV := Lib.hid hv
    clear hv
    go_enter Try.func12, Try.ntmps12
    go_wp2
    go_ret
    refine ⟨congrArg (fun b => Ending.returned (.bool b)) ?_, rfl⟩
    rw [HV.out, Bool.eq_iff_iff]
    simp
  · have hv : canonB neg s = !neg := by unfold canonB; rw [dif_neg h]
    have HV := Lib.hid hv
    clear hv
    go_enter Try.func12, Try.ntmps12
    go_wp2
    go_ret
    exact ⟨congrArg (fun b => Ending.returned (.bool b)) HV.out.symm, rfl⟩
end Go.Proofs.Ytoolljoejioigaa

/-
  Check of any integer, and the walk of the statement about it.
-/
namespace Go.Proofs.Ytoolljoejioigaa
open Go.RowKit
attribute [local go_sem ↓] Go.wp_at_zero Go.wp_at_succ

theorem empty_no {s : ByteArray} (h : 0 < s.size) : s.toList.isEmpty = false := by
  rw [ByteArray.toList_eq]
  have : s.data.toList.length = s.size := by simp
  cases hs : s.data.toList with
  | nil => rw [hs] at this; simp at this; omega
  | cons c l => rfl
theorem empty_yes {s : ByteArray} (h : ¬ 0 < s.size) : s.toList.isEmpty = true := by
  rw [ByteArray.toList_eq]
  have : s.data.toList.length = s.size := by simp
  cases hs : s.data.toList with
  | nil => rfl
  | cons c l => rw [hs] at this; simp at this; omega

/-- What Check answers. -/
def checkV (neg : Bool) (s : ByteArray) : Int := if canonB neg s then 0 else 5

set_option maxHeartbeats 1000000 in
set_option maxRecDepth 100000 in
theorem check_any (neg : Bool) (s : ByteArray) (w : World) :
    Calls Try.prog 14 #[.agg #[.bool neg, .string s]] w (RetB w (.int .i64 (checkV neg s))) := by
  by_cases h : 0 < s.size
  · have hv : canonB neg s = ((s[0]'h).toNat != 0) := by unfold canonB; rw [dif_pos h]
    have HV := Lib.hid hv
    clear hv
    have he := empty_no h
    go_enter Try.func14, Try.ntmps14
    go_wp2
    · have ht : (((s[0]'h).toNat : Int) == 0) = true := by assumption
      go_ret
      refine ⟨congrArg (fun z => Ending.returned (.int .i64 z)) ?_, (Below.refl _ _).alloc (Nat.le_refl _) _⟩
      unfold checkV
      rw [HV.out]
      simp at ht
      simp [ht]
    · have ht : (((s[0]'h).toNat : Int) == 0) = false := by assumption
      go_ret
      refine ⟨congrArg (fun z => Ending.returned (.int .i64 z)) ?_, (Below.refl _ _).alloc (Nat.le_refl _) _⟩
      unfold checkV
      rw [HV.out]
      simp at ht
      simp [ht]
  · have hv : canonB neg s = !neg := by unfold canonB; rw [dif_neg h]
    have HV := Lib.hid hv
    clear hv
    have he := empty_yes h
    cases neg
    all_goals
      go_enter Try.func14, Try.ntmps14
      go_wp2
      go_ret
      refine ⟨congrArg (fun z => Ending.returned (.int .i64 z)) ?_, (Below.refl _ _).alloc (Nat.le_refl _) _⟩
      unfold checkV
      rw [HV.out]
      rfl

set_option maxHeartbeats 1000000 in
set_option maxRecDepth 100000 in
theorem checks_cut (neg : Bool) (s t : ByteArray) (w : World) (ht : s.extract 0 (min (s.size : Int) 60).toNat = t) :
    Calls Try.prog 3 #[.agg #[.bool neg, .string s]] w (RetB w (.bool true)) := by
  have hcv : checkV neg t = if canonB neg t then 0 else 5 := rfl
  have HC := Lib.hid hcv
  clear hcv
  cases hc : canonB neg t
  all_goals
    rw [hc] at HC
    have hcc := HC.out
    simp at hcc
    clear HC
    have HCC := Lib.hid hcc
    have HCB := Lib.hid hc
    clear hcc hc
    go_enter Try.func3, Try.ntmps3
    go_wp2_with fail
    try clear ht
    refine (valid_any neg t _).mono ?_
    rw [HCB.out]
    rintro e w1 ⟨rfl, rfl⟩
    go_wp2_with fail
    refine (known_any _).mono ?_
    rintro e w2 ⟨rfl, hb2⟩
    obtain ⟨c0, c1, _, _⟩ := res2 (g := w.heap.size) (by exact heap_fst _ _ _) hb2 (by simp <;> omega)
    go_wp2_with fail
    refine (check_any neg t _).mono ?_
    rw [HCC.out]
    rintro e w3 ⟨rfl, hb3⟩
    go_wp2
    go_ret
    have h0 : Below w.heap.size w ((w.alloc (.cells #[.bool neg, .string t] 23)).alloc (.cells #[.bool neg, .string t] 23)) := (((Below.refl _ _).alloc (Nat.le_refl _) _).alloc (by simp) _)
    exact ⟨rfl, (h0.trans (hb2.mono h0.size)).trans (hb3.mono (Nat.le_trans h0.size hb2.size))⟩

theorem checks_walk (neg : Bool) (s : ByteArray) (w : World) : Calls Try.prog 3 #[.agg #[.bool neg, .string s]] w (RetB w (.bool true)) := checks_cut neg s _ w rfl
end Go.Proofs.Ytoolljoejioigaa

/-
  The program's sum, difference, negation and absolute value of integers.
-/
namespace Go.Proofs.Ytoolljoejioigaa
open Go.RowKit
attribute [local go_sem ↓] Go.wp_at_zero Go.wp_at_succ

theorem bval_56 {a : ByteArray} (h : a.size < 8) : bval a < 72057594037927936 := by
  have h1 := bval_lt a
  have h2 : (256 : Nat) ^ a.size ≤ 256 ^ 7 := Nat.pow_le_pow_right (by omega) (by omega)
  have h3 : (256 : Nat) ^ 7 = 72057594037927936 := by decide
  omega

set_option maxHeartbeats 1000000 in
set_option maxRecDepth 100000 in
theorem short_yes (na : Bool) (a : ByteArray) (ha : a.size < 8) (n : Int) (hn : sgn na (bval a) = n) (w : World) :
    Calls Try.prog 48 #[.agg #[.bool na, .string a]] w (RetB w (.tuple #[.int .i64 n, .bool true])) := by
  have hb := bval_56 ha
  have hw := fun V => word_any a (by omega) V
  generalize bval a = X at *
  subst hn
  have HW := Lib.hid hw
  clear hw
  cases na
  all_goals
    go_enter Try.func48, Try.ntmps48
    go_wp2_with fail
    refine (HW.out _).mono ?_
    rintro e w1 ⟨rfl, rfl⟩
    go_wp2
    go_ret2
    exact ⟨rfl, (Below.refl _ _).alloc (Nat.le_refl _) _⟩

set_option maxHeartbeats 1000000 in
set_option maxRecDepth 100000 in
theorem short_no (na : Bool) (a : ByteArray) (ha : ¬ a.size < 8) (w : World) :
    Calls Try.prog 48 #[.agg #[.bool na, .string a]] w (RetB w (.tuple #[.int .i64 0, .bool false])) := by
  have ha2 : 8 ≤ a.size := by omega
  clear ha
  go_enter Try.func48, Try.ntmps48
  go_wp2
  go_ret2
  exact ⟨rfl, (Below.refl _ _).alloc (Nat.le_refl _) _⟩

theorem sgn_56 (na : Bool) {X : Nat} (h : X < 72057594037927936) : -72057594037927936 < sgn na X ∧ sgn na X < 72057594037927936 := by cases na <;> simp [sgn] <;> omega

theorem three_keep {w w1 : World} {o1 o2 : Value × Value} {T : TypeId} {o3 : Obj} (hb : Below ((w.alloc (.cells #[o1.1, o1.2] T)).alloc (.cells #[o2.1, o2.2] T) |>.alloc o3).heap.size (((w.alloc (.cells #[o1.1, o1.2] T)).alloc (.cells #[o2.1, o2.2] T)).alloc o3) w1) :
    w1.cell? ⟨w.heap.size, 0, none⟩ = some o1.1 ∧ w1.cell? ⟨w.heap.size, 1, none⟩ = some o1.2 ∧ w1.cell? ⟨w.heap.size + 1, 0, none⟩ = some o2.1 ∧ w1.cell? ⟨w.heap.size + 1, 1, none⟩ = some o2.2 ∧ w1.heap[w.heap.size + 2]? = some o3 ∧ w.heap.size + 3 ≤ w1.heap.size ∧ Below w.heap.size w w1 := by
  obtain ⟨k1, k2, k3⟩ := heap_three_all w (.cells #[o1.1, o1.2] T) (.cells #[o2.1, o2.2] T) o3
  obtain ⟨a0, a1, _, _⟩ := res2 k1 hb (by simp <;> omega)
  obtain ⟨a2, a3, _, _⟩ := res2 k2 hb (by simp <;> omega)
  have h3 := (hb.block (w.heap.size + 2) (by simp <;> omega)).trans k3
  have hs := hb.size
  simp at hs
  refine ⟨a0, a1, a2, a3, h3, by omega, ?_⟩
  exact Below.trans ((((Below.refl _ _).alloc (Nat.le_refl _) _).alloc (by simp) _).alloc (by simp <;> omega) _) (hb.mono (by simp <;> omega))

theorem blk_cells {W : World} {g : Nat} {T : TypeId} {v0 v1 : Value} (h : W.heap[g]? = some (.cells #[v0, v1] T (0, 0))) :
    W.cell? ⟨g, 0, none⟩ = some v0 ∧ W.cell? ⟨g, 1, none⟩ = some v1 ∧ W.frozen? ⟨g, 0, none⟩ = false ∧ W.frozen? ⟨g, 1, none⟩ = false := by
  refine ⟨?_, ?_, ?_, ?_⟩ <;> simp [World.cell?, World.frozen?, h]

/-- The world behind a call in a function of two integers: what it knows of its own blocks. -/
structure Kp (w : World) (T : TypeId) (v0 v1 v2 v3 : Value) (o3 : Obj) (w1 : World) : Prop where
  a0 : w1.cell? ⟨w.heap.size, 0, none⟩ = some v0
  a1 : w1.cell? ⟨w.heap.size, 1, none⟩ = some v1
  a2 : w1.cell? ⟨w.heap.size + 1, 0, none⟩ = some v2
  a3 : w1.cell? ⟨w.heap.size + 1, 1, none⟩ = some v3
  blk : w1.heap[w.heap.size + 2]? = some o3
  sz : w.heap.size + 3 ≤ w1.heap.size
  bel : Below w.heap.size w w1

theorem Kp.start (w : World) (T : TypeId) (v0 v1 v2 v3 : Value) (o3 : Obj) : Kp w T v0 v1 v2 v3 o3 (((w.alloc (.cells #[v0, v1] T)).alloc (.cells #[v2, v3] T)).alloc o3) := by
  obtain ⟨a0, a1, a2, a3, a4, a5, a6⟩ := three_keep (w := w) (o1 := (v0, v1)) (o2 := (v2, v3)) (T := T) (o3 := o3) (Below.refl _ _)
  exact ⟨a0, a1, a2, a3, a4, a5, a6⟩

theorem Kp.next {w : World} {T : TypeId} {v0 v1 v2 v3 : Value} {o3 : Obj} {w1 w2 : World} (h : Kp w T v0 v1 v2 v3 o3 w1) (hb : Below w1.heap.size w1 w2) : Kp w T v0 v1 v2 v3 o3 w2 := by
  have hs := h.sz
  refine ⟨(hb.cell (by show w.heap.size < _; omega)).trans h.a0, (hb.cell (by show w.heap.size < _; omega)).trans h.a1, (hb.cell (by show w.heap.size + 1 < _; omega)).trans h.a2, (hb.cell (by show w.heap.size + 1 < _; omega)).trans h.a3, (hb.block _ (by omega)).trans h.blk, ?_, h.bel.trans (hb.mono h.bel.size)⟩
  have := hb.size
  omega

theorem Kp.res {w : World} {T : TypeId} {v0 v1 v2 v3 r0 r1 : Value} {w1 : World} (h : Kp w T v0 v1 v2 v3 (.cells #[r0, r1] T) w1) :
    w1.cell? ⟨w.heap.size + 2, 0, none⟩ = some r0 ∧ w1.cell? ⟨w.heap.size + 2, 1, none⟩ = some r1 ∧ w1.frozen? ⟨w.heap.size + 2, 0, none⟩ = false ∧ w1.frozen? ⟨w.heap.size + 2, 1, none⟩ = false := blk_cells h.blk

theorem Kp.stored {w : World} {T : TypeId} {v0 v1 v2 v3 : Value} {o3 : Obj} {w1 : World} (h : Kp w T v0 v1 v2 v3 o3 w1) (x y : Value) : Below w.heap.size w ((w1.setCell ⟨w.heap.size + 2, 0, none⟩ x).setCell ⟨w.heap.size + 2, 1, none⟩ y) :=
  (h.bel.setCell (by show w.heap.size ≤ w.heap.size + 2; omega) _).setCell (by show w.heap.size ≤ w.heap.size + 2; omega) _

set_option maxHeartbeats 2000000 in
set_option maxRecDepth 100000 in
theorem add_pair (na nb : Bool) (a b : ByteArray) (ha : a.size ≤ 400000000) (hb : b.size ≤ 400000000) (w : World) :
    Calls Try.prog 27 #[.agg #[.bool na, .string a], .agg #[.bool nb, .string b]] w (RetZ w (sgn na (bval a) + sgn nb (bval b))) := by
  have HC := Lib.hid (fun V => combine_any na nb nb a b ha hb V)
  have K0 := Lib.hid (Kp.start w 23 (.bool na) (.string a) (.bool nb) (.string b) (.cells #[.bool false, .string ⟨#[]⟩] 23))
  by_cases h1 : a.size < 8
  · by_cases h2 : b.size < 8
    · obtain ⟨x, hx⟩ : ∃ x, sgn na (bval a) = x := ⟨_, rfl⟩
      obtain ⟨y, hy⟩ : ∃ y, sgn nb (bval b) = y := ⟨_, rfl⟩
      have HS1 := Lib.hid (fun V => short_yes na a h1 x hx V)
      have HS2 := Lib.hid (fun V => short_yes nb b h2 y hy V)
      obtain ⟨x1, x2⟩ := sgn_56 na (bval_56 h1)
      obtain ⟨y1, y2⟩ := sgn_56 nb (bval_56 h2)
      rw [hx] at x1 x2
      rw [hy] at y1 y2
      rw [hx, hy]
      clear hx hy h1 h2
      go_enter Try.func27, Try.ntmps27
      go_wp2_with fail
      refine (HS1.out _).mono ?_
      rintro e w1 ⟨rfl, hb1⟩
      have K1 := Lib.hid (K0.out.next hb1)
      have q2 := K1.out.a2
      have q3 := K1.out.a3
      clear hb1
      go_wp2_with fail
      refine (HS2.out _).mono ?_
      rintro e w2 ⟨rfl, hb2⟩
      have K2 := Lib.hid (K1.out.next hb2)
      clear hb2 q2 q3
      go_wp2_with fail
      refine (fromInt_any (x + y) (by omega) (by omega) _).mono fun e w3 h => ?_
      obtain ⟨bz, mz, HZ, rfl, hb3⟩ := h.form
      have K3 := Lib.hid (K2.out.next hb3)
      obtain ⟨p0, p1, g0, g1⟩ := K3.out.res
      clear h hb3
      go_wp2
      refine bodyPost_ret (v := .agg #[.bool bz, .string mz]) (by simp [results, Try.results27, go_sem, p0, p1]) rfl ⟨by rw [← HZ.out], K3.out.stored _ _⟩
    · have HS1 := Lib.hid (fun V => short_yes na a h1 _ rfl V)
      have HS2 := Lib.hid (fun V => short_no nb b h2 V)
      clear h1 h2
      generalize sgn na (bval a) = x at *
      go_enter Try.func27, Try.ntmps27
      go_wp2_with fail
      refine (HS1.out _).mono ?_
      rintro e w1 ⟨rfl, hb1⟩
      have K1 := Lib.hid (K0.out.next hb1)
      have q2 := K1.out.a2
      have q3 := K1.out.a3
      clear hb1
      go_wp2_with fail
      refine (HS2.out _).mono ?_
      rintro e w2 ⟨rfl, hb2⟩
      have K2 := Lib.hid (K1.out.next hb2)
      clear hb2 q2 q3
      have q0 := K2.out.a0
      have q1 := K2.out.a1
      have q2 := K2.out.a2
      have q3 := K2.out.a3
      go_wp2_with fail
      refine (HC.out _).mono fun e w3 h => ?_
      obtain ⟨bz, mz, HZ, rfl, hb3⟩ := h.form
      have K3 := Lib.hid (K2.out.next hb3)
      obtain ⟨p0, p1, g0, g1⟩ := K3.out.res
      clear h hb3 q0 q1 q2 q3
      go_wp2
      refine bodyPost_ret (v := .agg #[.bool bz, .string mz]) (by simp [results, Try.results27, go_sem, p0, p1]) rfl ⟨by rw [← HZ.out], K3.out.stored _ _⟩
  · have HS1 := Lib.hid (fun V => short_no na a h1 V)
    clear h1
    go_enter Try.func27, Try.ntmps27
    go_wp2_with fail
    refine (HS1.out _).mono ?_
    rintro e w1 ⟨rfl, hb1⟩
    have K1 := Lib.hid (K0.out.next hb1)
    clear hb1
    have q0 := K1.out.a0
    have q1 := K1.out.a1
    have q2 := K1.out.a2
    have q3 := K1.out.a3
    go_wp2_with fail
    refine (HC.out _).mono fun e w3 h => ?_
    obtain ⟨bz, mz, HZ, rfl, hb3⟩ := h.form
    have K3 := Lib.hid (K1.out.next hb3)
    obtain ⟨p0, p1, g0, g1⟩ := K3.out.res
    clear h hb3 q0 q1 q2 q3
    go_wp2
    refine bodyPost_ret (v := .agg #[.bool bz, .string mz]) (by simp [results, Try.results27, go_sem, p0, p1]) rfl ⟨by rw [← HZ.out], K3.out.stored _ _⟩
end Go.Proofs.Ytoolljoejioigaa
