import Derived.Test.YtahehlajpaoiiaaGreatDoorGRefH
import Derived.Test.YtahehlajpaoiiaaGreatDoorGLate
import Derived.Test.YtahehlajpaoiiaaGreatDoorGQB
import Derived.Test.YtahehlajpaoiiaaGreatDoorGRefG
import Derived.Deep.RegionWith
import Derived.Deep.DeepCutAuto
import Derived.Test.YtahehlajpaoiiaaGreatDoorGDivL
import Derived.Deep.RegionLaw

/-
  The program's two differences of multiples, digit by digit, in place.
-/
namespace Go.Proofs.YtahehlajpaoiiaaGreatDoor
open Go.RowKit
attribute [local go_sem ↓] Go.wp_at_zero Go.wp_at_succ

theorem D_nought (b k : Nat) : D b 0 k = 0 := by simp [D]

theorem digit_step (g a b k X Y : Nat) (w : World) (ha : a < 18446744073709551616) (hb : b < 18446744073709551616) (hle : b * Y ≤ a * X) (hd : Df w g a b (car B64 0 a X k) (car B64 0 b Y k) (bor B64 (a * X) (b * Y) k)) :
    Calls Tryz.prog 165 #[.pointer (some ⟨g, 0, none⟩), .int .u64 (D B64 X k : Int), .int .u64 (D B64 Y k : Int)] w (RetDg w g (D B64 (a * X - b * Y) k) a b (car B64 0 a X (k + 1)) (car B64 0 b Y (k + 1)) (bor B64 (a * X) (b * Y) (k + 1))) := by
  obtain ⟨s1, s2⟩ := car_step B64_pos 0 a X k
  obtain ⟨t1, t2⟩ := car_step B64_pos 0 b Y k
  rw [D_nought, Nat.zero_add] at s1 s2 t1 t2
  rw [Nat.zero_add] at s2 t2
  have c1 := car_lt B64_pos (x := a) (by rw [B64_eq]; exact ha) 0 X k
  have c2 := car_lt B64_pos (x := b) (by rw [B64_eq]; exact hb) 0 Y k
  have hbl := bor_le B64 (a * X) (b * Y) k
  have hs1 := bor_step B64_pos (a * X) (b * Y) k
  have hs2 := sub_digit (D64_lt (a * X) k) (D64_lt (b * Y) k) hbl (dif_digit B64_pos hle k)
  exact digit_any g a b _ _ _ (D B64 X k) (D B64 Y k) (D B64 (a * X) k) (D B64 (b * Y) k) _ _ _ _ w ha hb (by omega) (by omega) (D64_lt _ _) (D64_lt _ _) hbl (by rw [← B64_eq]; exact s2) (by rw [← B64_eq]; exact s1) (by rw [← B64_eq]; exact t2) (by rw [← B64_eq]; exact t1) hs2 hs1.symm hd

/-- Block g is a row of at least c cells that may be written. -/
def Cp (w : World) (g c : Nat) : Prop := ∃ cur T, w.heap[g]? = some (.cells cur T (0, 0)) ∧ c ≤ cur.size

theorem Cp.of_block {w w' : World} {g c : Nat} (h : Cp w g c) (e : w'.heap[g]? = w.heap[g]?) : Cp w' g c := by
  obtain ⟨cur, T, h1, h2⟩ := h
  exact ⟨cur, T, e.trans h1, h2⟩
theorem Cp.set {w : World} {g c : Nat} (h : Cp w g c) (i : Nat) (v : Value) : Cp (w.setCell ⟨g, i, none⟩ v) g c := by
  obtain ⟨cur, T, h1, h2⟩ := h
  refine ⟨cur.setIfInBounds i v, T, ?_, by simpa using h2⟩
  simp [World.setCell, Array.getElem?_modify, h1]

theorem Own.lies {w : World} {base : Nat} {A : Option Addr} {n c : Nat} {f : Nat → Nat} (h : Own w base (.slice A n c) n (nums .u64 f n)) (hn : 0 < n) :
    ∃ g, A = some ⟨g, 0, none⟩ ∧ Lies w g n f ∧ Cp w g c ∧ n ≤ c ∧ c ≤ maxLen ∧ base ≤ g := by
  rcases h.2 with ⟨_, h3⟩ | ⟨g, cap, cur, T, hv, hg, hh, h4, h5, h6, h7⟩
  · omega
  · injection hv with a1 a2 a3
    subst a1 a3
    refine ⟨g, rfl, ⟨cur, T, hh, by omega, fun i hi => ?_⟩, ⟨cur, T, hh, h6⟩, h4, h5, hg⟩
    have := nums_get .u64 f n i hi
    rw [← h7, List.getElem?_take_of_lt hi, Array.getElem?_toList] at this
    exact this
theorem Own.of_lies {w : World} {base g n c : Nat} {f : Nat → Nat} (h : Lies w g n f) (hc : Cp w g c) (hn : n ≤ c) (hm : c ≤ maxLen) (hb : base ≤ g) : Own w base (.slice (some ⟨g, 0, none⟩) n c) n (nums .u64 f n) := by
  obtain ⟨cur, T, h1, _, h3⟩ := h
  obtain ⟨cur', T', h1', h2'⟩ := hc
  rw [h1] at h1'
  injection h1' with e
  injection e with e1 e2
  subst e1
  exact Own.of_cells h1 hb hn hm h2' h3

/-- Digits that may be written, without zeros at the end. -/
structure Ow (w : World) (base : Nat) (A : Option Addr) (n c V : Nat) : Prop where
  own : Own w base (.slice A n c) n (nums .u64 (D B64 V) n)
  lt : V < B64 ^ n
  top : 0 < n → B64 ^ (n - 1) ≤ V

theorem Ow.nm {w : World} {base : Nat} {A : Option Addr} {n c V : Nat} (h : Ow w base A n c V) : Nm w A n c V := by
  obtain ⟨A', c', e, h1, h2⟩ := h.own.rd
  injection e with e1 e2 e3
  subst e1 e3
  exact ⟨⟨h.lt, h1, h2⟩, h.top⟩

/-- The two differences, the digits below place k done. -/
structure Ds (W : World) (base gx gy g1 g2 n cx cy X Y a b c d k : Nat) (w : World) : Prop where
  lx : Lies w gx n (fun j => if j < k then D B64 (a * X - b * Y) j else D B64 X j)
  ly : Lies w gy n (fun j => if j < k then D B64 (c * Y - d * X) j else D B64 Y j)
  px : Cp w gx cx
  py : Cp w gy cy
  f1 : Df w g1 a b (car B64 0 a X k) (car B64 0 b Y k) (bor B64 (a * X) (b * Y) k)
  f2 : Df w g2 c d (car B64 0 c Y k) (car B64 0 d X k) (bor B64 (c * Y) (d * X) k)
  bel : Below base W w

/-- A call that hands back two rows of digits. -/
def RetTwo (W : World) (base gx gy n cx cy R S : Nat) (e : Ending) (w : World) : Prop :=
  ∃ k l, k ≤ n ∧ l ≤ n ∧ e = .returned (.tuple #[.slice (some ⟨gx, 0, none⟩) k cx, .slice (some ⟨gy, 0, none⟩) l cy]) ∧ Ow w base (some ⟨gx, 0, none⟩) k cx R ∧ Ow w base (some ⟨gy, 0, none⟩) l cy S ∧ Below base W w

set_option maxHeartbeats 8000000 in
set_option maxRecDepth 100000 in
theorem differences_any (base gx gy n cx cy X Y a b c d : Nat) (w : World) (hn : n ≤ 100000000) (ha : a < 18446744073709551616) (hb : b < 18446744073709551616) (hc : c < 18446744073709551616) (hd : d < 18446744073709551616)
    (h1 : b * Y ≤ a * X) (h2 : d * X ≤ c * Y) (hR : a * X - b * Y < B64 ^ n) (hS : c * Y - d * X < B64 ^ n) (hX : Lies w gx n (D B64 X)) (hY : Lies w gy n (D B64 Y)) (hpx : Cp w gx cx) (hpy : Cp w gy cy) (hcx : n ≤ cx) (hcy : n ≤ cy) (hmx : cx ≤ maxLen) (hmy : cy ≤ maxLen)
    (hxy : gx ≠ gy) (hbx : base ≤ gx) (hby : base ≤ gy) :
    Calls Tryz.prog 153 #[.slice (some ⟨gx, 0, none⟩) n cx, .slice (some ⟨gy, 0, none⟩) n cy, .int .u64 (a : Int), .int .u64 (b : Int), .int .u64 (c : Int), .int .u64 (d : Int)] w (RetTwo w base gx gy n cx cy (a * X - b * Y) (c * Y - d * X)) := by
  have hbw : base ≤ w.heap.size := by have := hX.lt; omega
  have lgx := hX.lt
  have lgy := hY.lt
  have HX := Lib.hid hX
  have HY := Lib.hid hY
  have HPX := Lib.hid hpx
  have HPY := Lib.hid hpy
  have H1 := Lib.hid h1
  have H2 := Lib.hid h2
  have HR := Lib.hid hR
  have HS := Lib.hid hS
  clear hX hY hpx hpy h1 h2 hR hS
  go_enter Tryz.func153, Tryz.ntmps153
  go_wp2
  go_loopw [25] (fun i wr => ∃ k : Nat, k ≤ n ∧ i = .int .i64 k ∧ Ds w base gx gy w.heap.size (w.heap.size + 1) n cx cy X Y a b c d k wr) (fun i _ => n - (intOf i).toNat)
  case atStart =>
    have e1 := heap_fst w (.cells #[.int .u64 (a : Int), .int .u64 (b : Int), .int .u64 0, .int .u64 0, .int .u64 0] 181) (.cells #[.int .u64 (c : Int), .int .u64 (d : Int), .int .u64 0, .int .u64 0, .int .u64 0] 181)
    have e2 := heap_two w (.cells #[.int .u64 (a : Int), .int .u64 (b : Int), .int .u64 0, .int .u64 0, .int .u64 0] 181) (.cells #[.int .u64 (c : Int), .int .u64 (d : Int), .int .u64 0, .int .u64 0, .int .u64 0] 181)
    have hbl : Below w.heap.size w ((w.alloc (.cells #[.int .u64 (a : Int), .int .u64 (b : Int), .int .u64 0, .int .u64 0, .int .u64 0] 181)).alloc (.cells #[.int .u64 (c : Int), .int .u64 (d : Int), .int .u64 0, .int .u64 0, .int .u64 0] 181)) := ((Below.refl _ _).alloc (Nat.le_refl _) _).alloc (by simp) _
    refine ⟨0, Nat.zero_le _, rfl, ⟨(HX.out.below hbl lgx).congr fun j _ => by rw [if_neg (by omega)], (HY.out.below hbl lgy).congr fun j _ => by rw [if_neg (by omega)], HPX.out.of_block (hbl.block gx lgx), HPY.out.of_block (hbl.block gy lgy), ?_, ?_, hbl.mono hbw⟩⟩
    · show _ = _
      rw [car_zero, car_zero, bor_zero]
      exact e1
    · show _ = _
      rw [car_zero, car_zero, bor_zero]
      exact e2
  case round =>
    obtain ⟨k, hk, rfl, hds⟩ := hrel
    by_cases hlt : k < n
    · have cX := hds.lx.cell (i := k) hlt
      have cY := hds.ly.cell (i := k) hlt
      have fX := hds.lx.frozen k
      have fY := hds.ly.frozen k
      rw [if_neg (by omega)] at cX cY
      have hsw := hds.bel.size
      have DF1 := Lib.hid hds.f1
      have DF20 := Lib.hid hds.f2
      have l1 := hds.f1.lt
      have l2 := hds.f2.lt
      have lx1 : gx < wr.heap.size := by omega
      have lx2 : gx ≠ w.heap.size := by omega
      have ly1 : gy < wr.heap.size := by omega
      have ly2 : gy ≠ w.heap.size := by omega
      have HDS := Lib.hid hds
      have hD1 := fun V (hV : Df V w.heap.size a b (car B64 0 a X k) (car B64 0 b Y k) (bor B64 (a * X) (b * Y) k)) => digit_step w.heap.size a b k X Y V ha hb H1.out hV
      have hD2 := fun V (hV : Df V (w.heap.size + 1) c d (car B64 0 c Y k) (car B64 0 d X k) (bor B64 (c * Y) (d * X) k)) => digit_step (w.heap.size + 1) c d k Y X V hc hd H2.out hV
      have HD1 := Lib.hid hD1
      have HD2 := Lib.hid hD2
      clear hD1 hD2 hds
      generalize D B64 X k = xk at *
      generalize D B64 Y k = yk at *
      obtain ⟨rk, hrk⟩ : ∃ r, D B64 (a * X - b * Y) k = r := ⟨_, rfl⟩
      obtain ⟨sk, hsk⟩ : ∃ r, D B64 (c * Y - d * X) k = r := ⟨_, rfl⟩
      rw [hrk] at HD1
      rw [hsk] at HD2
      have HRK := Lib.hid hrk
      have HSK := Lib.hid hsk
      clear hrk hsk
      have i0 : (0 : Int) ≤ (k : Int) := by omega
      have i1 : (k : Int) < (n : Int) := by omega
      go_wp2_with fail
      refine wp_region_late (S := fun w' => w'.cell? ⟨gx, k, none⟩ = some (.int .u64 (xk : Int)) ∧ w'.cell? ⟨gy, k, none⟩ = some (.int .u64 (yk : Int))) (L := [22, 23, 24, 25]) (by kernel_rfl) ?_
      have hHeld : wr.drew.cell? ⟨gx, k, none⟩ = some (.int .u64 (xk : Int)) ∧ wr.drew.cell? ⟨gy, k, none⟩ = some (.int .u64 (yk : Int)) := ⟨cX, cY⟩
      refine wpLate_free (i := 0) (oi := ⟨some 28, _, _, _, _, _⟩) (v := ?_) rfl (by kernel_rfl) (by kernel_rfl) (by kernel_rfl) (by kernel_rfl) (fun _ _ _ h => h) (Or.inl ⟨by rfl, ?_⟩) ?_
      rotate_left
      · intro w hSw; (try dsimp only at hSw); (first | (go_simp; done) | (go_simp; with_reducible rfl))
      try simp only [Act.put, List.setIfInBounds_toArray, List.set_cons_zero, List.set_cons_succ]
      refine wpLate_free (i := 1) (oi := ⟨some 29, _, _, _, _, _⟩) (v := ?_) rfl (by kernel_rfl) (by kernel_rfl) (by kernel_rfl) (by kernel_rfl) (fun _ _ _ h => h) (Or.inl ⟨by rfl, ?_⟩) ?_
      rotate_left
      · intro w hSw; (try dsimp only at hSw); (first | (go_simp; done) | (go_simp; with_reducible rfl))
      try simp only [Act.put, List.setIfInBounds_toArray, List.set_cons_zero, List.set_cons_succ]
      refine wpLate_free (i := 2) (oi := ⟨some 30, _, _, _, _, _⟩) (v := ?_) rfl (by kernel_rfl) (by kernel_rfl) (by kernel_rfl) (by kernel_rfl) (fun _ _ _ h => h) (Or.inl ⟨by rfl, ?_⟩) ?_
      rotate_left
      · intro w hSw; (try dsimp only at hSw); (first | (go_simp; done) | (go_simp; with_reducible rfl))
      try simp only [Act.put, List.setIfInBounds_toArray, List.set_cons_zero, List.set_cons_succ]
      refine wpLate_free (i := 3) (oi := ⟨some 31, _, _, _, _, _⟩) (v := ?_) rfl (by kernel_rfl) (by kernel_rfl) (by kernel_rfl) (by kernel_rfl) (fun _ _ _ h => h) (Or.inl ⟨by rfl, ?_⟩) ?_
      rotate_left
      · intro w hSw; (try dsimp only at hSw); (first | (go_simp; done) | (go_simp; with_reducible rfl))
      try simp only [Act.put, List.setIfInBounds_toArray, List.set_cons_zero, List.set_cons_succ]
      refine wpLate_free (i := 4) (oi := ⟨some 32, _, _, _, _, _⟩) (v := ?_) rfl (by kernel_rfl) (by kernel_rfl) (by kernel_rfl) (by kernel_rfl) (fun _ _ _ h => h) (Or.inl ⟨by rfl, ?_⟩) ?_
      rotate_left
      · intro w hSw; (try dsimp only at hSw); (first | (go_simp; done) | (go_simp; with_reducible rfl))
      try simp only [Act.put, List.setIfInBounds_toArray, List.set_cons_zero, List.set_cons_succ]
      refine wpLate_free (i := 5) (oi := ⟨some 33, _, _, _, _, _⟩) (v := ?_) rfl (by kernel_rfl) (by kernel_rfl) (by kernel_rfl) (by kernel_rfl) (fun _ _ _ h => h) (Or.inl ⟨by rfl, ?_⟩) ?_
      rotate_left
      · intro w hSw; (try dsimp only at hSw); (first | (go_simp; done) | (go_simp; with_reducible rfl))
      try simp only [Act.put, List.setIfInBounds_toArray, List.set_cons_zero, List.set_cons_succ]
      refine wpLate_free (i := 6) (oi := ⟨some 34, _, _, _, _, _⟩) (v := ?_) rfl (by kernel_rfl) (by kernel_rfl) (by kernel_rfl) (by kernel_rfl) (fun _ _ _ h => h) (Or.inl ⟨by rfl, ?_⟩) ?_
      rotate_left
      · intro w hSw; (try dsimp only at hSw); (first | (go_simp; done) | (go_simp; with_reducible rfl))
      try simp only [Act.put, List.setIfInBounds_toArray, List.set_cons_zero, List.set_cons_succ]
      refine wpLate_take (i := 7) (oi := ⟨some 35, _, _, _, _, _⟩) (v := ?_) rfl (by kernel_rfl) (by kernel_rfl) (by kernel_rfl) (by kernel_rfl) (by kernel_rfl) (fun _ _ _ h => h) (Or.inl ⟨by rfl, ?_⟩) hHeld ?_
      rotate_left
      · intro w hSw; (try dsimp only at hSw); (first | (go_simp; done) | (go_simp; with_reducible rfl))
      try simp only [Act.put, List.setIfInBounds_toArray, List.set_cons_zero, List.set_cons_succ]
      refine wpLate_free (i := 8) (oi := ⟨some 36, _, _, _, _, _⟩) (v := ?_) rfl (by kernel_rfl) (by kernel_rfl) (by kernel_rfl) (by kernel_rfl) (fun _ _ _ h => h) (Or.inl ⟨by rfl, ?_⟩) ?_
      rotate_left
      · intro w hSw; (try dsimp only at hSw); (first | (go_simp; done) | (go_simp; with_reducible rfl))
      try simp only [Act.put, List.setIfInBounds_toArray, List.set_cons_zero, List.set_cons_succ]
      refine wpLate_free (i := 9) (oi := ⟨some 37, _, _, _, _, _⟩) (v := ?_) rfl (by kernel_rfl) (by kernel_rfl) (by kernel_rfl) (by kernel_rfl) (fun _ _ _ h => h) (Or.inl ⟨by rfl, ?_⟩) ?_
      rotate_left
      · intro w hSw; (try dsimp only at hSw); (first | (go_simp; done) | (go_simp; with_reducible rfl))
      try simp only [Act.put, List.setIfInBounds_toArray, List.set_cons_zero, List.set_cons_succ]
      refine wpLate_free (i := 10) (oi := ⟨some 38, _, _, _, _, _⟩) (v := ?_) rfl (by kernel_rfl) (by kernel_rfl) (by kernel_rfl) (by kernel_rfl) (fun _ _ _ h => h) (Or.inl ⟨by rfl, ?_⟩) ?_
      rotate_left
      · intro w hSw; (try dsimp only at hSw); (first | (go_simp; done) | (go_simp; with_reducible rfl))
      try simp only [Act.put, List.setIfInBounds_toArray, List.set_cons_zero, List.set_cons_succ]
      refine wpLate_take (i := 11) (oi := ⟨some 39, _, _, _, _, _⟩) (v := ?_) rfl (by kernel_rfl) (by kernel_rfl) (by kernel_rfl) (by kernel_rfl) (by kernel_rfl) (fun _ _ _ h => h) (Or.inl ⟨by rfl, ?_⟩) hHeld ?_
      rotate_left
      · intro w hSw; (try dsimp only at hSw); (first | (go_simp; done) | (go_simp; with_reducible rfl))
      try simp only [Act.put, List.setIfInBounds_toArray, List.set_cons_zero, List.set_cons_succ]
      refine wpLate_free (i := 13) (oi := ⟨some 41, _, _, _, _, _⟩) (v := ?_) rfl (by kernel_rfl) (by kernel_rfl) (by kernel_rfl) (by kernel_rfl) (fun _ _ _ h => h) (Or.inl ⟨by rfl, ?_⟩) ?_
      rotate_left
      · intro w hSw; (try dsimp only at hSw); (first | (go_simp; done) | (go_simp; with_reducible rfl))
      try simp only [Act.put, List.setIfInBounds_toArray, List.set_cons_zero, List.set_cons_succ]
      refine wpLate_free (i := 14) (oi := ⟨some 42, _, _, _, _, _⟩) (v := ?_) rfl (by kernel_rfl) (by kernel_rfl) (by kernel_rfl) (by kernel_rfl) (fun _ _ _ h => h) (Or.inl ⟨by rfl, ?_⟩) ?_
      rotate_left
      · intro w hSw; (try dsimp only at hSw); (first | (go_simp; done) | (go_simp; with_reducible rfl))
      try simp only [Act.put, List.setIfInBounds_toArray, List.set_cons_zero, List.set_cons_succ]
      refine wpLate_free (i := 15) (oi := ⟨some 43, _, _, _, _, _⟩) (v := ?_) rfl (by kernel_rfl) (by kernel_rfl) (by kernel_rfl) (by kernel_rfl) (fun _ _ _ h => h) (Or.inl ⟨by rfl, ?_⟩) ?_
      rotate_left
      · intro w hSw; (try dsimp only at hSw); (first | (go_simp; done) | (go_simp; with_reducible rfl))
      try simp only [Act.put, List.setIfInBounds_toArray, List.set_cons_zero, List.set_cons_succ]
      refine wpLate_take (i := 16) (oi := ⟨some 44, _, _, _, _, _⟩) (v := ?_) rfl (by kernel_rfl) (by kernel_rfl) (by kernel_rfl) (by kernel_rfl) (by kernel_rfl) (fun _ _ _ h => h) (Or.inl ⟨by rfl, ?_⟩) hHeld ?_
      rotate_left
      · intro w hSw; (try dsimp only at hSw); (first | (go_simp; done) | (go_simp; with_reducible rfl))
      try simp only [Act.put, List.setIfInBounds_toArray, List.set_cons_zero, List.set_cons_succ]
      refine wpLate_free (i := 17) (oi := ⟨some 45, _, _, _, _, _⟩) (v := ?_) rfl (by kernel_rfl) (by kernel_rfl) (by kernel_rfl) (by kernel_rfl) (fun _ _ _ h => h) (Or.inl ⟨by rfl, ?_⟩) ?_
      rotate_left
      · intro w hSw; (try dsimp only at hSw); (first | (go_simp; done) | (go_simp; with_reducible rfl))
      try simp only [Act.put, List.setIfInBounds_toArray, List.set_cons_zero, List.set_cons_succ]
      refine wpLate_free (i := 18) (oi := ⟨some 46, _, _, _, _, _⟩) (v := ?_) rfl (by kernel_rfl) (by kernel_rfl) (by kernel_rfl) (by kernel_rfl) (fun _ _ _ h => h) (Or.inl ⟨by rfl, ?_⟩) ?_
      rotate_left
      · intro w hSw; (try dsimp only at hSw); (first | (go_simp; done) | (go_simp; with_reducible rfl))
      try simp only [Act.put, List.setIfInBounds_toArray, List.set_cons_zero, List.set_cons_succ]
      refine wpLate_free (i := 19) (oi := ⟨some 47, _, _, _, _, _⟩) (v := ?_) rfl (by kernel_rfl) (by kernel_rfl) (by kernel_rfl) (by kernel_rfl) (fun _ _ _ h => h) (Or.inl ⟨by rfl, ?_⟩) ?_
      rotate_left
      · intro w hSw; (try dsimp only at hSw); (first | (go_simp; done) | (go_simp; with_reducible rfl))
      try simp only [Act.put, List.setIfInBounds_toArray, List.set_cons_zero, List.set_cons_succ]
      refine wpLate_take (i := 20) (oi := ⟨some 48, _, _, _, _, _⟩) (v := ?_) rfl (by kernel_rfl) (by kernel_rfl) (by kernel_rfl) (by kernel_rfl) (by kernel_rfl) (fun _ _ _ h => h) (Or.inl ⟨by rfl, ?_⟩) hHeld ?_
      rotate_left
      · intro w hSw; (try dsimp only at hSw); (first | (go_simp; done) | (go_simp; with_reducible rfl))
      try simp only [Act.put, List.setIfInBounds_toArray, List.set_cons_zero, List.set_cons_succ]
      refine wpLate_one (i := 12) (o := ⟨some 40, _, _, _, _, _⟩) (by kernel_rfl) rfl (fun K hK => ?_)
      go_simp
      (go_at_call 165; (with_reducible refine (HD1.out _ ?_).mono ?_); (exact DF1.out); rintro e w2 ⟨rfl, hf1, hg1⟩)
      try go_wp2_with fail
      refine hK.out _ _ (Or.inr (fun h => ⟨keep_cell hg1 lx1 lx2 h.1, keep_cell hg1 ly1 ly2 h.2⟩)) ?_
      clear hK K
      try simp only [Act.put, List.setIfInBounds_toArray, List.set_cons_zero, List.set_cons_succ]
      have DF2 := Lib.hid (DF20.out.of_block (hg1.block _ (by show _ < wr.heap.size; omega) (fun e => by injection e with e; omega)))
      refine wpLate_one (i := 21) (o := ⟨some 49, _, _, _, _, _⟩) (by kernel_rfl) rfl (fun K hK => ?_)
      go_simp
      (go_at_call 165; (with_reducible refine (HD2.out _ ?_).mono ?_); (exact DF2.out); rintro e w3 ⟨rfl, hf2, hg2⟩)
      try go_wp2_with fail
      refine hK.out _ _ (Or.inr (fun h => ⟨keep_cell hg2 (by have := hg1.size; simp at this; omega) (by omega) h.1, keep_cell hg2 (by have := hg1.size; simp at this; omega) (by omega) h.2⟩)) ?_
      clear hK K
      try simp only [Act.put, List.setIfInBounds_toArray, List.set_cons_zero, List.set_cons_succ]
      have z2 : wr.heap.size ≤ w2.heap.size := by have := hg1.size; simpa using this
      have z3 : w2.heap.size ≤ w3.heap.size := hg2.size
      have b2 : ∀ g, g < wr.heap.size → g ≠ w.heap.size → w2.heap[g]? = wr.heap[g]? := fun g h1 h2 => hg1.block g (by show g < wr.heap.size; exact h1) (fun e => by injection e with e; omega)
      have b3 : ∀ g, g < wr.heap.size → g ≠ w.heap.size + 1 → w3.heap[g]? = w2.heap[g]? := fun g h1 h2 => hg2.block g (by omega) (fun e => by injection e with e; omega)
      have X3 := (HDS.out.lx.of_block (b2 gx lx1 lx2)).of_block (b3 gx lx1 (by omega))
      have Y3 := (HDS.out.ly.of_block (b2 gy ly1 ly2)).of_block (b3 gy ly1 (by omega))
      have PX3 := (HDS.out.px.of_block (b2 gx lx1 lx2)).of_block (b3 gx lx1 (by omega))
      have PY3 := (HDS.out.py.of_block (b2 gy ly1 ly2)).of_block (b3 gy ly1 (by omega))
      have F13 := hf1.of_block (b3 w.heap.size (by omega) (by omega))
      have B3 : Below base w w3 := (HDS.out.bel.drew.trans (below_of_grown (B := base) hg1 (by show base ≤ wr.heap.size; omega) (by omega))).trans (below_of_grown (B := base) hg2 (by omega) (by omega))
      have X4 := X3.set k rk
      have Y4 := Y3.other (b := gx) k (.int .u64 (rk : Int)) (Ne.symm hxy)
      have s1 := X3.cell (i := k) hlt
      have s2 := X3.frozen k
      have s3 := Y4.cell (i := k) hlt
      have s4 := Y4.frozen k
      have X5 := X4.other (b := gy) k (.int .u64 (sk : Int)) hxy
      have Y5 := Y4.set k sk
      have PX5 := (PX3.set k (.int .u64 (rk : Int))).of_block (Below.heap_setCell _ ⟨gy, k, none⟩ (.int .u64 (sk : Int)) gx hxy)
      have PY5 := (PY3.of_block (Below.heap_setCell w3 ⟨gx, k, none⟩ (.int .u64 (rk : Int)) gy (Ne.symm hxy))).set k (.int .u64 (sk : Int))
      have F15 := (F13.of_block (Below.heap_setCell w3 ⟨gx, k, none⟩ (.int .u64 (rk : Int)) w.heap.size (by show w.heap.size ≠ gx; omega))).of_block (Below.heap_setCell _ ⟨gy, k, none⟩ (.int .u64 (sk : Int)) w.heap.size (by show w.heap.size ≠ gy; omega))
      have F25 := (hf2.of_block (Below.heap_setCell w3 ⟨gx, k, none⟩ (.int .u64 (rk : Int)) (w.heap.size + 1) (by show w.heap.size + 1 ≠ gx; omega))).of_block (Below.heap_setCell _ ⟨gy, k, none⟩ (.int .u64 (sk : Int)) (w.heap.size + 1) (by show w.heap.size + 1 ≠ gy; omega))
      have B5 := (B3.setCell (p := ⟨gx, k, none⟩) hbx (.int .u64 (rk : Int))).setCell (p := ⟨gy, k, none⟩) hby (.int .u64 (sk : Int))
      have HX5 := Lib.hid X5
      have HY5 := Lib.hid Y5
      have HP5 := Lib.hid (And.intro PX5 PY5)
      have HF5 := Lib.hid (And.intro F15 F25)
      have HB5 := Lib.hid B5
      clear z2 z3 b2 b3 X3 Y3 PX3 PY3 F13 B3 X4 Y4 X5 Y5 PX5 PY5 F15 F25 B5 hf1 hf2 hg1 hg2 hHeld cX cY fX fY DF1 DF20 DF2 HD1 HD2
      refine wpLate_free (i := 22) (oi := ⟨some 50, _, _, _, _, _⟩) (v := ?_) rfl (by kernel_rfl) (by kernel_rfl) (by kernel_rfl) (by kernel_rfl) (fun _ _ _ h => h) (Or.inl ⟨by rfl, ?_⟩) ?_
      rotate_left
      · intro w hSw; (try dsimp only at hSw); (first | (go_simp; done) | (go_simp; with_reducible rfl))
      try simp only [Act.put, List.setIfInBounds_toArray, List.set_cons_zero, List.set_cons_succ]
      refine wpLate_one (i := 23) (o := ⟨none, _, _, _, _, _⟩) (by kernel_rfl) rfl (fun K hK => ?_)
      go_simp
      refine hK.out _ _ (Or.inl (by rfl)) ?_
      clear hK K
      try simp only [Act.put, List.setIfInBounds_toArray, List.set_cons_zero, List.set_cons_succ]
      refine wpLate_free (i := 24) (oi := ⟨some 51, _, _, _, _, _⟩) (v := ?_) rfl (by kernel_rfl) (by kernel_rfl) (by kernel_rfl) (by kernel_rfl) (fun _ _ _ h => h) (Or.inl ⟨by rfl, ?_⟩) ?_
      rotate_left
      · intro w hSw; (try dsimp only at hSw); (first | (go_simp; done) | (go_simp; with_reducible rfl))
      try simp only [Act.put, List.setIfInBounds_toArray, List.set_cons_zero, List.set_cons_succ]
      refine wpLate_one (i := 25) (o := ⟨none, _, _, _, _, _⟩) (by kernel_rfl) rfl (fun K hK => ?_)
      go_simp
      refine hK.out _ _ (Or.inl (by rfl)) ?_
      clear hK K
      try simp only [Act.put, List.setIfInBounds_toArray, List.set_cons_zero, List.set_cons_succ]
      refine wpLate_done (by kernel_rfl) ?_ _
      go_wp2
      go_roundw
      case rel =>
        refine ⟨k + 1, by omega, by go_num, ⟨HX5.out.congr fun j hj => ?_, HY5.out.congr fun j hj => ?_, HP5.out.1, HP5.out.2, HF5.out.1, HF5.out.2, HB5.out⟩⟩
        · by_cases e : j = k
          · rw [if_pos e, if_pos (by omega), e, HRK.out]
          · rw [if_neg e]
            by_cases e2 : j < k
            · rw [if_pos e2, if_pos (by omega)]
            · rw [if_neg e2, if_neg (by omega)]
        · by_cases e : j = k
          · rw [if_pos e, if_pos (by omega), e, HSK.out]
          · rw [if_neg e]
            by_cases e2 : j < k
            · rw [if_pos e2, if_pos (by omega)]
            · rw [if_neg e2, if_neg (by omega)]
      case measure => simp [intOf] <;> omega
    · obtain rfl : k = n := by omega
      have LX := hds.lx.congr (f' := D B64 (a * X - b * Y)) fun j hj => by rw [if_pos hj]
      have LY := hds.ly.congr (f' := D B64 (c * Y - d * X)) fun j hj => by rw [if_pos hj]
      have O1 := Own.of_lies (base := base) LX hds.px hcx hmx hbx
      have O2 := Own.of_lies (base := base) LY hds.py hcy hmy hby
      have N1 : Ng wr (some ⟨gx, 0, none⟩) k cx (a * X - b * Y) := ⟨HR.out, hcx, LX.rd⟩
      have N2 : Ng wr (some ⟨gy, 0, none⟩) k cy (c * Y - d * X) := ⟨HS.out, hcy, LY.rd⟩
      have HBL := Lib.hid hds.bel
      have HO1 := Lib.hid O1
      have HO2 := Lib.hid O2
      have HN1 := Lib.hid N1
      have HN2 := Lib.hid N2
      clear hds LX LY O1 O2 N1 N2
      generalize a * X - b * Y = R at *
      generalize c * Y - d * X = S at *
      go_wp2_with (first
        | ((with_reducible refine (trim_any (some ⟨gx, 0, none⟩) k cx R _ (by omega) HN1.out).mono ?_); rintro e w1 ⟨kr, hkr, rfl, hnr, rfl⟩)
        | ((with_reducible refine (trim_any (some ⟨gy, 0, none⟩) k cy S _ (by omega) HN2.out).mono ?_); rintro e w1 ⟨ks, hks, rfl, hns, rfl⟩))
      go_ret2
      exact ⟨kr, ks, hkr, hks, rfl, ⟨HO1.out.take hkr, hnr.lt, hnr.top⟩, ⟨HO2.out.take hks, hns.lt, hns.top⟩, HBL.out⟩
end Go.Proofs.YtahehlajpaoiiaaGreatDoor


/-
  The reference's comparison.
-/
namespace Go.Proofs.YtahehlajpaoiiaaGreatDoor
open Go.RowKit
attribute [local go_sem ↓] Go.wp_at_zero Go.wp_at_succ

end Go.Proofs.YtahehlajpaoiiaaGreatDoor


/-
  The reference's sum, with the number of its digits; and its quotients, binary digit by binary digit.
-/
namespace Go.Proofs.YtahehlajpaoiiaaGreatDoor
open Go.RowKit
attribute [local go_sem ↓] Go.wp_at_zero Go.wp_at_succ

/-- A call that hands back the digits of a sum, no more than are needed behind those of the summands. -/
def RetS (w : World) (n m X Y : Nat) (e : Ending) (w' : World) : Prop :=
  ∃ A k c, e = .returned (.slice A k c) ∧ Dg w' .i64 256 A k (X + Y) ∧ Below w.heap.size w w' ∧ (k ≤ n ∨ k ≤ m ∨ ((k = n + 1 ∨ k = m + 1) ∧ 256 ^ n ≤ X + Y ∧ 256 ^ m ≤ X + Y))

/-- A call that hands back digits in memory that nobody held before. -/
def RetGn (w : World) (V N : Nat) (e : Ending) (w' : World) : Prop := ∃ A n c, n ≤ N ∧ e = .returned (.slice A n c) ∧ Dg w' .i64 256 A n V ∧ Below w.heap.size w w' ∧ ∀ a, A = some a → w.heap.size ≤ a.block

theorem set_val {u p : Nat} (hu : u < 256) (hp : p < 8) : wrap64 ((u : Int) + wrap64 ((2 : Int) ^ p)) = ((u + 2 ^ p : Nat) : Int) := by
  have : p = 0 ∨ p = 1 ∨ p = 2 ∨ p = 3 ∨ p = 4 ∨ p = 5 ∨ p = 6 ∨ p = 7 := by omega
  rcases this with rfl | rfl | rfl | rfl | rfl | rfl | rfl | rfl <;> (rw [IntWalk.wrap64_in (2 ^ _) (by omega), IntWalk.wrap64_in _ (by omega)]; omega)

theorem Dg.other {w : World} {K : IntKind} {b : Nat} {A : Option Addr} {n V g : Nat} (h : Dg w K b A n V) (hA : ∀ a, A = some a → a.block ≠ g) (i : Nat) (v : Value) : Dg (w.setCell ⟨g, i, none⟩ v) K b A n V := ⟨h.lt, fun hn => by
  obtain ⟨g', o, e, hg, hc⟩ := h.rd hn
  refine ⟨g', o, e, by simpa [World.setCell] using hg, fun j hj => ?_⟩
  exact (World.cell?_of_block (w := w) (Below.heap_setCell w ⟨g, i, none⟩ v g' (by have := hA _ e; exact this))).trans (hc j hj)⟩

/-! The quotient, from the highest binary digit on. -/

theorem bit_step {X Y i : Nat} (hY : 0 < Y) : ∃ e, e = X / 2 ^ i % 2 ∧ X / 2 ^ i = 2 * (X / 2 ^ (i + 1)) + e := by
  refine ⟨_, rfl, ?_⟩
  rw [Nat.pow_succ, ← Nat.div_div_eq_div_mul]
  omega

/-- What a binary digit more makes of the quotient and the remainder. -/
theorem div_bit {Z Y e : Nat} (hY : 0 < Y) (he : e ≤ 1) : (Y ≤ Z % Y + Z % Y + e → (2 * Z + e) % Y = Z % Y + Z % Y + e - Y ∧ (2 * Z + e) / Y = 2 * (Z / Y) + 1) ∧ (Z % Y + Z % Y + e < Y → (2 * Z + e) % Y = Z % Y + Z % Y + e ∧ (2 * Z + e) / Y = 2 * (Z / Y)) := by
  have h1 := Nat.div_add_mod Z Y
  have h2 := Nat.mod_lt Z hY
  generalize Z / Y = q at *
  generalize Z % Y = r at *
  have e1 : 2 * Z + e = Y * (2 * q) + (r + r + e) := by
    rw [← h1, Nat.mul_left_comm]
    omega
  refine ⟨fun h => ?_, fun h => ?_⟩
  · have e2 : 2 * Z + e = Y * (2 * q + 1) + (r + r + e - Y) := by rw [e1, Nat.mul_add]; omega
    rw [e2, Nat.mul_add_mod, Nat.mul_add_div hY, Nat.mod_eq_of_lt (by omega), Nat.div_eq_of_lt (by omega)]
    exact ⟨rfl, rfl⟩
  · rw [e1, Nat.mul_add_mod, Nat.mul_add_div hY, Nat.mod_eq_of_lt h, Nat.div_eq_of_lt h]
    exact ⟨rfl, rfl⟩

/-- A binary digit is one of a digit. -/
theorem bit_digit (X i : Nat) : D 256 X (i / 8) / 2 ^ (i % 8) % 2 = X / 2 ^ i % 2 := by
  unfold D
  have e : (256 : Nat) ^ (i / 8) = 2 ^ (8 * (i / 8)) := by rw [Nat.pow_mul]
  have e2 : (256 : Nat) = 2 ^ (i % 8) * (2 ^ (7 - i % 8) * 2) := by
    rw [← Nat.pow_succ, ← Nat.pow_add]
    have : i % 8 + (7 - i % 8 + 1) = 8 := by omega
    rw [this]
  have e3 : X / 2 ^ i = X / 256 ^ (i / 8) / 2 ^ (i % 8) := by
    rw [e, Nat.div_div_eq_div_mul, ← Nat.pow_add]
    congr 2
    omega
  rw [e3]
  generalize X / 256 ^ (i / 8) = V
  conv => lhs; rw [e2]
  rw [Nat.mod_mul_right_div_self, Nat.mod_mul_left_mod]

theorem set_word {p Q : Nat} (hp : p < 8) : (2 ^ p * (2 * Q) + 2 ^ p) / 256 = 2 ^ p * (2 * Q) / 256 ∧ (2 ^ p * (2 * Q) + 2 ^ p) % 256 = 2 ^ p * (2 * Q) % 256 + 2 ^ p := by
  have : p = 0 ∨ p = 1 ∨ p = 2 ∨ p = 3 ∨ p = 4 ∨ p = 5 ∨ p = 6 ∨ p = 7 := by omega
  rcases this with rfl | rfl | rfl | rfl | rfl | rfl | rfl | rfl <;> (simp only [Nat.reducePow]; omega)

/-- A binary digit is set where there was none. -/
theorem set_bit (Q i j : Nat) : D 256 (2 * Q * 2 ^ i + 2 ^ i) j = if j = i / 8 then D 256 (2 * Q * 2 ^ i) j + 2 ^ (i % 8) else D 256 (2 * Q * 2 ^ i) j := by
  have hP : 0 < 256 ^ (i / 8) := Nat.pow_pos (by omega)
  have e : 2 ^ i = 256 ^ (i / 8) * 2 ^ (i % 8) := by
    have e : (256 : Nat) ^ (i / 8) = 2 ^ (8 * (i / 8)) := by rw [Nat.pow_mul]
    rw [e, ← Nat.pow_add]
    congr 1
    omega
  obtain ⟨w1, w2⟩ := set_word (Q := Q) (Nat.mod_lt i (show 0 < 8 by omega))
  have e1 : 2 * Q * 2 ^ i = 256 ^ (i / 8) * (2 ^ (i % 8) * (2 * Q)) := by rw [e]; ac_rfl
  have e2 : 2 * Q * 2 ^ i + 2 ^ i = 256 ^ (i / 8) * (2 ^ (i % 8) * (2 * Q) + 2 ^ (i % 8)) := by rw [e1, Nat.mul_add, ← e]
  rw [e1, e2] at *
  generalize 2 ^ (i % 8) * (2 * Q) + 2 ^ (i % 8) = V' at *
  generalize 2 ^ (i % 8) * (2 * Q) = V at *
  generalize 2 ^ (i % 8) = t at *
  generalize i / 8 = a at *
  rcases Nat.lt_trichotomy j a with h | h | h
  · rw [if_neg (by omega)]
    have h1 := D_low (b := 256) (P := 0) (Z := V') (k := a) (by omega) h
    have h2 := D_low (b := 256) (P := 0) (Z := V) (k := a) (by omega) h
    rw [Nat.zero_add] at h1 h2
    rw [h1, h2]
  · subst h
    rw [if_pos rfl]
    unfold D
    rw [Nat.mul_div_cancel_left _ hP, Nat.mul_div_cancel_left _ hP]
    exact w2
  · rw [if_neg (by omega), D_high (k := a) (by omega), D_high (P := 256 ^ a * V) (k := a) (by omega), Nat.mul_div_cancel_left _ hP, Nat.mul_div_cancel_left _ hP]
    obtain ⟨d, hd⟩ : ∃ d, j - a = d + 1 := ⟨j - a - 1, by omega⟩
    rw [hd]
    unfold D
    rw [Nat.pow_succ', ← Nat.div_div_eq_div_mul, ← Nat.div_div_eq_div_mul, w1]

theorem dg_one (w : World) (T : TypeId) : Dg (w.alloc (.cells #[.int .i64 1] T)) .i64 256 (some ⟨w.heap.size, 0, none⟩) 1 1 :=
  ⟨by decide, fun _ => ⟨w.heap.size, 0, rfl, by simp, fun j hj => by
    obtain rfl : j = 0 := by omega
    have h := heap_one w (.cells #[.int .i64 1] T)
    exact (cell_of_row _ _ _ _ T (0, 0) h).trans (by simp [D])⟩⟩

/-- A call that hands back a quotient and a remainder, digit by digit. -/
def RetDv (w : World) (n m Q R : Nat) (e : Ending) (w' : World) : Prop :=
  ∃ A1 c1 A2 n2 c2, e = .returned (.tuple #[.slice A1 n c1, .slice A2 n2 c2]) ∧ n2 ≤ m + 1 ∧ Dg w' .i64 256 A1 n Q ∧ Dg w' .i64 256 A2 n2 R ∧ Below w.heap.size w w' ∧ ∀ a, A1 = some a → w.heap.size ≤ a.block

end Go.Proofs.YtahehlajpaoiiaaGreatDoor
