import Derived.Test.YtkaefmfophopoaaDoorGOwn
import Derived.Test.YtkaefmfophopoaaDoorGIntC

/-
  The program's digits without zeros at the end, and the integer of some digits.
-/
namespace Go.Proofs.YtkaefmfophopoaaDoor
open Go.RowKit
attribute [local go_sem ↓] Go.wp_at_zero Go.wp_at_succ

/-- The program's base. -/
def B64 : Nat := 18446744073709551616
theorem B64_eq : B64 = 18446744073709551616 := rfl
theorem B64_pos : 0 < B64 := by decide
theorem D64_lt (V i : Nat) : D B64 V i < 18446744073709551616 := D_lt B64_pos V i

/-- The slice at A holds the digits of V in the program's base; its length is n, its capacity c. -/
structure Ng (w : World) (A : Option Addr) (n c V : Nat) : Prop where
  lt : V < B64 ^ n
  cap : n ≤ c
  rd : Rd w .u64 A n (D B64 V)

theorem Ng.below {w w' : World} {A : Option Addr} {n c V : Nat} (h : Ng w A n c V) (hb : Below w.heap.size w w') : Ng w' A n c V := ⟨h.lt, h.cap, h.rd.below hb⟩
theorem Ng.alloc {w : World} {A : Option Addr} {n c V : Nat} (h : Ng w A n c V) (o : Obj) : Ng (w.alloc o) A n c V := ⟨h.lt, h.cap, h.rd.alloc o⟩
theorem Ng.drewN {w : World} {A : Option Addr} {n c V : Nat} (h : Ng w A n c V) (k : Nat) : Ng (w.drewN k) A n c V := ⟨h.lt, h.cap, h.rd⟩

/-- Digits of V, the last one not zero. -/
structure Nm (w : World) (A : Option Addr) (n c V : Nat) : Prop extends Ng w A n c V where
  top : 0 < n → B64 ^ (n - 1) ≤ V

theorem Nm.below {w w' : World} {A : Option Addr} {n c V : Nat} (h : Nm w A n c V) (hb : Below w.heap.size w w') : Nm w' A n c V := ⟨h.toNg.below hb, h.top⟩
theorem Nm.zero {w : World} {A : Option Addr} {n c V : Nat} (h : Nm w A n c V) : n = 0 ↔ V = 0 := by
  constructor
  · rintro rfl; have := h.lt; simpa using this
  · intro h0
    rcases Nat.eq_zero_or_pos n with h1 | h1
    · exact h1
    · have := h.top h1
      have hp : 0 < B64 ^ (n - 1) := Nat.pow_pos B64_pos
      omega

/-- Where the digits end that count. -/
theorem topD {b V n : Nat} (hb : 0 < b) (h : V < b ^ n) : ∃ k, k ≤ n ∧ V < b ^ k ∧ (∀ i, k ≤ i → i < n → D b V i = 0) ∧ (0 < k → D b V (k - 1) ≠ 0 ∧ b ^ (k - 1) ≤ V) := by
  induction n with
  | zero => exact ⟨0, Nat.le_refl _, h, fun i h1 h2 => by omega, fun h => by omega⟩
  | succ n ih =>
    rcases Nat.lt_or_ge V (b ^ n) with h1 | h1
    · obtain ⟨k, a1, a2, a3, a4⟩ := ih h1
      refine ⟨k, by omega, a2, fun i b1 b2 => ?_, a4⟩
      by_cases e : i = n
      · rw [e]; exact D_zero_of hb h1 (Nat.le_refl _)
      · exact a3 i b1 (by omega)
    · exact ⟨n + 1, Nat.le_refl _, h, fun i b1 b2 => by omega, fun _ => ⟨D_pos hb h1 h, h1⟩⟩

/-- A call that cuts a slice to the digits that count, the world as it was. -/
def RetT (w : World) (A : Option Addr) (c n V : Nat) (e : Ending) (w' : World) : Prop := ∃ m, m ≤ n ∧ e = .returned (.slice A m c) ∧ Nm w' A m c V ∧ w = w'

set_option maxHeartbeats 1000000 in
set_option maxRecDepth 100000 in
theorem trim_any (A : Option Addr) (n c V : Nat) (w : World) (hn : n ≤ 1099511627776) (h : Ng w A n c V) :
    Calls Tryd.prog 47 #[.slice A n c] w (RetT w A c n V) := by
  obtain ⟨k0, hk0, hV, hz, ht⟩ := topD B64_pos h.lt
  have hcap := h.cap
  have HV := Lib.hid hV
  have HZ := Lib.hid hz
  have HT := Lib.hid ht
  have HR := Lib.hid h
  clear hV hz ht h
  go_enter Tryd.func47, Tryd.ntmps47
  go_wp2
  go_loop [0] (fun v => ∃ k : Nat, k ≤ n ∧ k0 ≤ k ∧ v = .slice A k c) (fun v => match v with | .slice _ k _ => k | _ => 0)
  case atStart => exact ⟨n, Nat.le_refl _, hk0, rfl⟩
  case round =>
    obtain ⟨k, hk, hkk, rfl⟩ := hrel
    by_cases h0 : k0 < k
    · have hr := HR.out
      obtain ⟨g, o, rfl, hg, hcell⟩ := hr.rd (by omega)
      have hc1 : w.cell? ⟨g, o + (k - 1), none⟩ = some (.int .u64 0) := by rw [hcell (k - 1) (by omega), HZ.out (k - 1) (by omega) (by omega)]; rfl
      clear hcell hr
      go_wp2
      go_round
      case rel => exact ⟨k - 1, by omega, by omega, by first | rfl | simp⟩
      case measure => simp <;> omega
    · obtain rfl : k = k0 := by omega
      by_cases h1 : 0 < k
      · have hr := HR.out
        obtain ⟨g, o, rfl, hg, hcell⟩ := hr.rd (by omega)
        have hc1 : w.cell? ⟨g, o + (k - 1), none⟩ = some (.int .u64 (D B64 V (k - 1) : Int)) := hcell (k - 1) (by omega)
        have hne : ((D B64 V (k - 1) : Int) == 0) = false := by have := (HT.out h1).1; simp; omega
        clear hcell hr
        go_wp2
        go_ret
        exact ⟨k, hk, rfl, ⟨⟨HV.out, by omega, HR.out.rd.take hk⟩, fun h => (HT.out h).2⟩, rfl⟩
      · go_wp2
        go_ret
        exact ⟨k, hk, rfl, ⟨⟨HV.out, by omega, HR.out.rd.take hk⟩, fun h => (HT.out h).2⟩, rfl⟩
end Go.Proofs.YtkaefmfophopoaaDoor


/-
  The program's digits of a magnitude.
-/
namespace Go.Proofs.YtkaefmfophopoaaDoor
open Go.RowKit
attribute [local go_sem ↓] Go.wp_at_zero Go.wp_at_succ

theorem natInfo : (Tryd.prog.info? 39).map (fun i => (i.zero, i.size, i.bytes)) = some (some (.int .u64 0), 1, 8) := by kernel_rfl

/-- The last k bytes, and those in front of them. -/
theorem bval_suffix (s : ByteArray) (k : Nat) (hk : k ≤ s.size) : bval (s.extract (s.size - k) s.size) = bval s % 256 ^ k := by
  have hs : (s.extract (s.size - k) s.size).size = k := by simp; omega
  rw [← val_D]
  show val 256 (dig _) (s.extract (s.size - k) s.size).size = _
  rw [hs]
  refine val_congr fun i hi => ?_
  rw [← dig_eq]
  unfold dig
  rw [dif_pos (by omega), dif_pos (by omega)]
  congr 1
  rw [ByteArray.getElem_extract]
  congr 1
  omega

theorem bval_prefix (s : ByteArray) (k : Nat) (hk : k ≤ s.size) : bval (s.extract 0 (s.size - k)) = bval s / 256 ^ k := by
  have hs : (s.extract 0 (s.size - k)).size = s.size - k := by simp
  have hlt : bval s / 256 ^ k < 256 ^ (s.size - k) := by
    apply Nat.div_lt_of_lt_mul
    rw [← Nat.pow_add, show k + (s.size - k) = s.size by omega]
    exact bval_lt s
  rw [← Nat.mod_eq_of_lt hlt, ← val_D]
  show val 256 (dig _) (s.extract 0 (s.size - k)).size = _
  rw [hs]
  refine val_congr fun i hi => ?_
  have e : D 256 (bval s / 256 ^ k) i = D 256 (bval s) (k + i) := by unfold D; rw [Nat.div_div_eq_div_mul, Nat.pow_add]
  rw [e, ← dig_eq]
  unfold dig
  rw [dif_pos (by omega), dif_pos (by omega)]
  congr 1
  rw [ByteArray.getElem_extract]
  congr 1
  omega

/-- A call that hands back the digits of V without zeros at the end, at the head of the block v's or of a new one, and writes to nothing else. -/
def RetU (w : World) (v : Value) (V N : Nat) (e : Ending) (w' : World) : Prop :=
  ∃ A n c, n ≤ N ∧ e = .returned (.slice A n c) ∧ Nm w' A n c V ∧ w.grownBy w' v.ownBlock ∧ (Value.ownBlock (.slice A n c) = v.ownBlock ∨ ∀ k, Value.ownBlock (.slice A n c) = some k → w.heap.size ≤ k)

/-- The same, and the memory may be written. -/
def RetUo (w : World) (v : Value) (base V N : Nat) (e : Ending) (w' : World) : Prop :=
  ∃ A n c, n ≤ N ∧ e = .returned (.slice A n c) ∧ Nm w' A n c V ∧ w.grownBy w' v.ownBlock ∧ (Value.ownBlock (.slice A n c) = v.ownBlock ∨ ∀ k, Value.ownBlock (.slice A n c) = some k → w.heap.size ≤ k) ∧ Own w' base (.slice A n c) n (nums .u64 (D B64 V) n)

theorem D_top {V j : Nat} {t : Nat} (h : V / B64 ^ j = t) (ht : t < 18446744073709551616) : D B64 V j = t ∧ V < B64 ^ (j + 1) := by
  have hp : 0 < B64 ^ j := Nat.pow_pos B64_pos
  constructor
  · unfold D; rw [h, B64_eq]; exact Nat.mod_eq_of_lt ht
  · rw [Nat.pow_succ, B64_eq]
    have : V < B64 ^ j * 18446744073709551616 := by
      rw [← h] at ht
      rw [Nat.mul_comm]
      exact (Nat.div_lt_iff_lt_mul hp).1 ht
    exact this

theorem grown_trans {a b c : World} {row : Option Nat} {B : Nat} (h : a.grownBy b row) (hg : b.grownBy c (some B)) (hB : some B = row ∨ a.heap.size ≤ B) : a.grownBy c row :=
  ⟨hg.os.trans h.os, hg.tape.trans h.tape, hg.output.trans h.output, Nat.le_trans h.size hg.size, fun k hk hne => (hg.block k (Nat.lt_of_lt_of_le hk h.size) (fun e => by
    injection e with e
    rcases hB with hB | hB
    · exact hne (by rw [e]; exact hB)
    · omega)).trans (h.block k hk hne)⟩

theorem grown_none {a b c : World} {row row' : Option Nat} (h : a.grownBy b row) (hg : b.grownBy c row') (hB : row' = none ∨ row' = row ∨ ∀ k, row' = some k → a.heap.size ≤ k) : a.grownBy c row :=
  ⟨hg.os.trans h.os, hg.tape.trans h.tape, hg.output.trans h.output, Nat.le_trans h.size hg.size, fun k hk hne => (hg.block k (Nat.lt_of_lt_of_le hk h.size) (fun e => by
    rcases hB with hB | hB | hB
    · rw [hB] at e; cases e
    · exact hne (by rw [e]; exact hB)
    · have := hB k e.symm; omega)).trans (h.block k hk hne)⟩

theorem World.grownBy.trans_alloc {a b : World} {row : Option Nat} (h : a.grownBy b row) (o : Obj) : a.grownBy (b.alloc o) row :=
  grown_none h (World.grownBy_alloc b o none) (.inl rfl)

theorem own_next' {w1 : World} {base : Nat} {K : IntKind} {v : Value} {k : Nat} {f : Nat → Nat} {d : Nat} (h : Own w1 base v (k + 1) (nums K f k ++ [.int K (d : Int)])) (hd : d = f k) : Own w1 base v (k + 1) (nums K f (k + 1)) := by
  rw [nums_succ, ← hd]; exact h

theorem one_cell' {w : World} {u v : Value} {t : TypeId} : ∀ j x, [v][j]? = some x → u = v → (w.alloc (.cells #[u] t)).cell? ((⟨w.heap.size, 0, none⟩ : Addr).add j) = some x := by
  intro j x hj he
  match j, hj with
  | 0, hj => simp at hj; subst hj; subst he; simp [Addr.add]

theorem pow256_64 : (256 : Nat) ^ 8 = B64 := by decide

set_option maxHeartbeats 2000000 in
set_option maxRecDepth 100000 in
theorem unpack_own (v : Value) (s : ByteArray) (base : Nat) (w : World) (hs : s.size ≤ 1000000000) (hbase : base ≤ w.heap.size) (hv : Own w base v 0 []) :
    Calls Tryd.prog 23 #[v, .string s] w (RetUo w v base (bval s) (s.size / 8 + 1)) := by
  obtain ⟨i0, hi, hz0, hz1, hz2⟩ := info_parts natInfo
  have HV := Lib.hid hv
  clear hv
  go_enter Tryd.func23, Tryd.ntmps23
  go_wp2
  go_loopw [0, 1] (fun x m wr => ∃ (j : Nat) (t : ByteArray), 8 * j + t.size = s.size ∧ m = .string t ∧ Hid (bval t = bval s / B64 ^ j) ∧ Own wr base x j (nums .u64 (D B64 (bval s)) j) ∧ w.grownBy wr v.ownBlock ∧
      (x.ownBlock = v.ownBlock ∨ ∀ k, x.ownBlock = some k → w.heap.size ≤ k)) (fun _ m _ => match m with | .string t => t.size | _ => 0)
  case atStart => exact ⟨0, s, by omega, rfl, by show _ = _; simp, HV.out, World.grownBy.refl _ _, .inl rfl⟩
  case round =>
    obtain ⟨j, t, hjt, rfl, ht, hown, hg, hblk⟩ := hrel
    by_cases hlt : 8 < t.size
    · have hsu := bval_suffix t 8 (by omega)
      have hpr := bval_prefix t 8 (by omega)
      have hw8 := fun W => word_any (t.extract (t.size - 8) t.size) (by simp; omega) W
      have hd : D B64 (bval s) j = bval (t.extract (t.size - 8) t.size) := by
        rw [hsu, ht.out, pow256_64]; rfl
      have hp2 : bval (t.extract 0 (t.size - 8)) = bval s / B64 ^ (j + 1) := by
        rw [hpr, ht.out, pow256_64, Nat.pow_succ, Nat.div_div_eq_div_mul]
      rw [← hd] at hw8
      have HW8 := Lib.hid hw8
      have HP2 := Lib.hid hp2
      clear hsu hpr hw8 hd hp2
      go_wp2_with fail
      refine (HW8.out _).mono ?_
      rintro e w' ⟨rfl, rfl⟩
      go_wp2_with (at_builtin; refine wpList_append_Own _ rfl _ _ 47 rfl base 39 i0 (.int .u64 0) 8 Tryd.underlying47 hi hz0 hz1 hz2 rfl _ _ _ rfl (hown.alloc _) ⟨wr.heap.size, 0, none⟩ 1 1 [.int .u64 (D B64 (bval s) j : Int)] rfl rfl (by omega) ?_ ?_ ?_ ?_ ?_ ?_)
      · intro q u hq; exact one_cell' q u hq rfl
      · intro u hu; simp at hu; subst hu; rfl
      · unfold maxLen; omega
      · omega
      · have := hg.size; simp; omega
      intro v' w2 hown' hgrow hat
      have hown2 := own_next' hown' rfl
      have hg2 : w.grownBy w2 v.ownBlock := grown_none (World.grownBy.trans_alloc hg _) hgrow (by
        rcases hblk with h | h
        · exact .inr (.inl h)
        · exact .inr (.inr h))
      have hblk2 : v'.ownBlock = v.ownBlock ∨ ∀ k, v'.ownBlock = some k → w.heap.size ≤ k := by
        have := hg.size
        rcases hat with h | h
        · rw [h]; exact hblk
        · right; intro k hk; rw [h] at hk; simp at hk; omega
      clear hown' hgrow hat hown hg hblk
      go_wp2
      go_roundw
      case rel => exact ⟨j + 1, t.extract 0 (t.size - 8), by simp; omega, rfl, HP2.out, hown2, hg2, hblk2⟩
      case measure => simp <;> omega
    · have hd : D B64 (bval s) j = bval t ∧ bval s < B64 ^ (j + 1) := by
        have hb : bval t < 18446744073709551616 := by
          have h1 := bval_lt t
          have h2 : (256 : Nat) ^ t.size ≤ 256 ^ 8 := Nat.pow_le_pow_right (by omega) (by omega)
          have h3 : (256 : Nat) ^ 8 = 18446744073709551616 := by decide
          omega
        exact D_top ht.out.symm hb
      have hw8 := fun W => word_any t (by omega) W
      rw [← hd.1] at hw8
      have HW8 := Lib.hid hw8
      have HD := Lib.hid hd
      clear hw8 hd
      go_wp2_with fail
      refine (HW8.out _).mono ?_
      rintro e w' ⟨rfl, rfl⟩
      go_wp2_with (at_builtin; refine wpList_append_Own _ rfl _ _ 47 rfl base 39 i0 (.int .u64 0) 8 Tryd.underlying47 hi hz0 hz1 hz2 rfl _ _ _ rfl (hown.alloc _) ⟨wr.heap.size, 0, none⟩ 1 1 [.int .u64 (D B64 (bval s) j : Int)] rfl rfl (by omega) ?_ ?_ ?_ ?_ ?_ ?_)
      · intro q u hq; exact one_cell' q u hq rfl
      · intro u hu; simp at hu; subst hu; rfl
      · unfold maxLen; omega
      · omega
      · have := hg.size; simp; omega
      intro v' w2 hown' hgrow hat
      have hown2 := own_next' hown' rfl
      have hg2 : w.grownBy w2 v.ownBlock := grown_none (World.grownBy.trans_alloc hg _) hgrow (by
        rcases hblk with h | h
        · exact .inr (.inl h)
        · exact .inr (.inr h))
      have hblk2 : v'.ownBlock = v.ownBlock ∨ ∀ k, v'.ownBlock = some k → w.heap.size ≤ k := by
        have := hg.size
        rcases hat with h | h
        · rw [h]; exact hblk
        · right; intro k hk; rw [h] at hk; simp at hk; omega
      clear hown' hgrow hat hown hg hblk
      obtain ⟨A2, c2, rfl, hc2, hr2⟩ := hown2.rd
      have HOWN := Lib.hid hown2
      clear hown2
      go_wp2_with fail
      refine (trim_any A2 (j + 1) c2 (bval s) _ (by omega) ⟨HD.out.2, hc2, hr2⟩).mono ?_
      rintro e w' ⟨m, hm, rfl, hnm, rfl⟩
      have HNM := Lib.hid hnm
      clear hnm hr2
      go_wp2
      go_ret
      exact ⟨A2, m, c2, by omega, rfl, HNM.out, hg2, by cases A2 <;> exact hblk2, HOWN.out.take hm⟩

theorem unpack_any (v : Value) (s : ByteArray) (base : Nat) (w : World) (hs : s.size ≤ 1000000000) (hbase : base ≤ w.heap.size) (hv : Own w base v 0 []) :
    Calls Tryd.prog 23 #[v, .string s] w (RetU w v (bval s) (s.size / 8 + 1)) :=
  (unpack_own v s base w hs hbase hv).mono fun _ _ ⟨A, n, c, h1, h2, h3, h4, h5, _⟩ => ⟨A, n, c, h1, h2, h3, h4, h5⟩
end Go.Proofs.YtkaefmfophopoaaDoor
