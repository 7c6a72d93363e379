import Derived.Test.YtahehlajpaoiiaaGreatDoorGRefM
import Derived.Outline
import Derived.Test.YtahehlajpaoiiaaGreatDoorGRefL
import Derived.WalkLawsBesides

/-
  The program's certain steps of Euclid's algorithm, from leading words.
-/
namespace Go.Proofs.YtahehlajpaoiiaaGreatDoor
open Go.RowKit
attribute [local go_sem ↓] Go.wp_at_zero Go.wp_at_succ

/-- The leading word. -/
theorem lead_word {X n s : Nat} (hs : s ≤ 63) (hX : X * 2 ^ s < B64 ^ (n + 2)) :
    D B64 X (n + 1) * 2 ^ s % B64 ||| D B64 X n / 2 ^ (64 - s) = X / (2 ^ (64 - s) * B64 ^ n) ∧ X / (2 ^ (64 - s) * B64 ^ n) < B64 := by
  have hp0 : 0 < 2 ^ s := Nat.pow_pos (by omega)
  have hq0 : 0 < 2 ^ (64 - s) := Nat.pow_pos (by omega)
  have eb := B64_two s (by omega)
  have h1 := div_D B64 X n
  have h2 := div_D B64 X (n + 1)
  have hXl : X < B64 ^ (n + 2) := Nat.lt_of_le_of_lt (Nat.le_mul_of_pos_right X hp0) hX
  rw [Nat.div_eq_of_lt hXl, Nat.mul_zero, Nat.zero_add] at h2
  rw [h2] at h1
  have hl : D B64 X n / 2 ^ (64 - s) < 2 ^ s := Nat.div_lt_of_lt_mul (by rw [Nat.mul_comm, ← eb, B64_eq]; exact D64_lt X n)
  have hX2 : X / (2 ^ (64 - s) * B64 ^ n) = 2 ^ s * D B64 X (n + 1) + D B64 X n / 2 ^ (64 - s) := by
    rw [Nat.mul_comm (2 ^ (64 - s)), ← Nat.div_div_eq_div_mul, h1]
    have e3 : B64 * D B64 X (n + 1) = 2 ^ (64 - s) * (2 ^ s * D B64 X (n + 1)) := by rw [← Nat.mul_assoc, Nat.mul_comm (2 ^ (64 - s)), ← eb]
    rw [e3, Nat.mul_add_div hq0]
  have hlt : X / (2 ^ (64 - s) * B64 ^ n) < B64 := by
    apply Nat.div_lt_of_lt_mul
    have e : 2 ^ (64 - s) * B64 ^ n * B64 * 2 ^ s = B64 ^ (n + 2) := by
      have : 2 ^ (64 - s) * B64 ^ n * B64 * 2 ^ s = 2 ^ s * 2 ^ (64 - s) * B64 ^ n * B64 := by ac_rfl
      rw [this, ← eb, Nat.mul_comm B64 (B64 ^ n), ← Nat.pow_succ, ← Nat.pow_succ]
    rw [← e] at hX
    exact Nat.lt_of_mul_lt_mul_right hX
  have hor := (or_sum (x := D B64 X (n + 1)) hl (by omega)).1
  refine ⟨?_, hlt⟩
  rw [Nat.or_comm, hor, hX2]
  have h9 : D B64 X (n + 1) * 2 ^ s < B64 := by
    rw [hX2, Nat.mul_comm] at hlt
    exact Nat.lt_of_le_of_lt (Nat.le_add_right _ _) hlt
  rw [Nat.mod_eq_of_lt h9, Nat.mul_comm, Nat.add_comm]

/-- Block g holds steps. -/
def St (w : World) (g x0 y0 x1 y1 : Nat) (o : Bool) : Prop := w.heap[g]? = some (.cells #[.int .u64 (x0 : Int), .int .u64 (y0 : Int), .int .u64 (x1 : Int), .int .u64 (y1 : Int), .bool o] 166 (0, 0))

section
variable {w w' : World} {g x0 y0 x1 y1 : Nat} {o : Bool}
theorem St.cells (h : St w g x0 y0 x1 y1 o) : w.cell? ⟨g, 0, none⟩ = some (.int .u64 (x0 : Int)) ∧ w.cell? ⟨g, 1, none⟩ = some (.int .u64 (y0 : Int)) ∧ w.cell? ⟨g, 2, none⟩ = some (.int .u64 (x1 : Int)) ∧
    w.cell? ⟨g, 3, none⟩ = some (.int .u64 (y1 : Int)) ∧ w.cell? ⟨g, 4, none⟩ = some (.bool o) := by
  unfold St at h
  refine ⟨?_, ?_, ?_, ?_, ?_⟩ <;> simp [World.cell?, h]
theorem St.frozen (h : St w g x0 y0 x1 y1 o) (i : Nat) : w.frozen? ⟨g, i, none⟩ = false := by
  unfold St at h
  simp [World.frozen?, h]
theorem St.set0 (h : St w g x0 y0 x1 y1 o) (v : Nat) : St (w.setCell ⟨g, 0, none⟩ (.int .u64 (v : Int))) g v y0 x1 y1 o := by
  unfold St at h ⊢
  simp [World.setCell, Array.getElem?_modify, h]
theorem St.set1 (h : St w g x0 y0 x1 y1 o) (v : Nat) : St (w.setCell ⟨g, 1, none⟩ (.int .u64 (v : Int))) g x0 v x1 y1 o := by
  unfold St at h ⊢
  simp [World.setCell, Array.getElem?_modify, h]
theorem St.set2 (h : St w g x0 y0 x1 y1 o) (v : Nat) : St (w.setCell ⟨g, 2, none⟩ (.int .u64 (v : Int))) g x0 y0 v y1 o := by
  unfold St at h ⊢
  simp [World.setCell, Array.getElem?_modify, h]
theorem St.set3 (h : St w g x0 y0 x1 y1 o) (v : Nat) : St (w.setCell ⟨g, 3, none⟩ (.int .u64 (v : Int))) g x0 y0 x1 v o := by
  unfold St at h ⊢
  simp [World.setCell, Array.getElem?_modify, h]
theorem St.set4 (h : St w g x0 y0 x1 y1 o) (v : Bool) : St (w.setCell ⟨g, 4, none⟩ (.bool v)) g x0 y0 x1 y1 v := by
  unfold St at h ⊢
  simp [World.setCell, Array.getElem?_modify, h]
theorem St.of_block (h : St w g x0 y0 x1 y1 o) (e : w'.heap[g]? = w.heap[g]?) : St w' g x0 y0 x1 y1 o := e.trans h
theorem St.lt (h : St w g x0 y0 x1 y1 o) : g < w.heap.size := (Array.getElem?_eq_some_iff.1 h).1
end

/-- What certain steps are good for. -/
def Cs (X Y x0 y0 x1 y1 : Nat) (o : Bool) : Prop := y0 ≠ 0 → 0 ≤ sg o * ((x1 : Int) * X - y1 * Y) ∧ sg o * ((x1 : Int) * X - y1 * Y) < sg o * ((y0 : Int) * Y - x0 * X) ∧ sg o * ((y0 : Int) * Y - x0 * X) ≤ Y ∧ (x0 : Int) * y1 - x1 * y0 = - sg o

/-- A call that hands back certain steps. -/
def RetSt (w : World) (X Y : Nat) (e : Ending) (w' : World) : Prop :=
  ∃ (x0 y0 x1 y1 : Nat) (o : Bool), e = .returned (.agg #[.int .u64 (x0 : Int), .int .u64 (y0 : Int), .int .u64 (x1 : Int), .int .u64 (y1 : Int), .bool o]) ∧ x0 < 18446744073709551616 ∧ y0 < 18446744073709551616 ∧ x1 < 18446744073709551616 ∧ y1 < 18446744073709551616 ∧ Cs X Y x0 y0 x1 y1 o ∧ Below w.heap.size w w'

theorem Lm.le {X Y A L a b x0 x1 x2 y0 y1 y2 : Nat} {odd : Bool} (h : Lm X Y A L a b x0 x1 x2 y0 y1 y2 odd) : a ≤ A := by
  have h1 := h.i1
  have h2 : 1 * a ≤ y2 * a := Nat.mul_le_mul_right _ h.i6
  omega
theorem Lm.sum_le {X Y A L a b x0 x1 x2 y0 y1 y2 : Nat} {odd : Bool} (h : Lm X Y A L a b x0 x1 x2 y0 y1 y2 odd) (hb : y2 ≤ b) : y1 + y2 ≤ A := by
  have h1 := h.i1
  have h6 := h.i6
  have h7 := h.i7
  have h2 : y2 * 1 ≤ y2 * a := Nat.mul_le_mul_left _ (by omega)
  have h3 : y1 * 1 ≤ y1 * b := Nat.mul_le_mul_left _ (by omega)
  omega

set_option maxHeartbeats 8000000 in
set_option maxRecDepth 100000 in
theorem certainSteps_any (gx ox gy oy n cx cy X Y : Nat) (w : World) (hn : n ≤ 100000000) (hX : Rd w .u64 (some ⟨gx, ox, none⟩) (n + 2) (D B64 X)) (hY : Rd w .u64 (some ⟨gy, oy, none⟩) (n + 2) (D B64 Y)) (hlt : X < B64 ^ (n + 2)) (htop : B64 ^ (n + 1) ≤ X) (hle : Y ≤ X) :
    Calls Tryz.prog 152 #[.slice (some ⟨gx, ox, none⟩) (n + 2) cx, .slice (some ⟨gy, oy, none⟩) (n + 2) cy] w (RetSt w X Y) := by
  obtain ⟨s, hs, hs63, _, hXs⟩ := top_shift (m := n + 2) (by omega) hlt (by rw [show n + 2 - 1 = n + 1 by omega]; exact htop)
  rw [show n + 2 - 1 = n + 1 by omega] at hs
  have hYs : Y * 2 ^ s < B64 ^ (n + 2) := Nat.lt_of_le_of_lt (Nat.mul_le_mul_right _ hle) hXs
  obtain ⟨la, la2⟩ := lead_word hs63 hXs
  obtain ⟨lb, lb2⟩ := lead_word hs63 hYs
  have hK : 0 < 2 ^ (64 - s) * B64 ^ n := Nat.mul_pos (Nat.pow_pos (by omega)) (Nat.pow_pos B64_pos)
  have hAL : Y / (2 ^ (64 - s) * B64 ^ n) ≤ X / (2 ^ (64 - s) * B64 ^ n) := Nat.div_le_div_right hle
  have dX := Nat.div_add_mod X (2 ^ (64 - s) * B64 ^ n)
  have mX := Nat.mod_lt X hK
  have dY := Nat.div_add_mod Y (2 ^ (64 - s) * B64 ^ n)
  have mY := Nat.mod_lt Y hK
  obtain ⟨K, hKe⟩ : ∃ K, 2 ^ (64 - s) * B64 ^ n = K := ⟨_, rfl⟩
  rw [hKe] at la la2 lb lb2 hAL dX mX dY mY
  obtain ⟨A, hA⟩ : ∃ A, X / K = A := ⟨_, rfl⟩
  obtain ⟨L, hL⟩ : ∃ L, Y / K = L := ⟨_, rfl⟩
  rw [hA] at la la2 hAL dX
  rw [hL] at lb lb2 hAL dY
  rw [Nat.mul_comm] at dX dY
  have HXK := Lib.hid (show A * K ≤ X ∧ X < A * K + K by omega)
  have HYK := Lib.hid (show L * K ≤ Y ∧ Y < L * K + K by omega)
  obtain ⟨g1, o1, e1, hgx, cX⟩ := hX (by omega)
  obtain ⟨g2, o2, e2, hgy, cY⟩ := hY (by omega)
  injection e1 with e1
  injection e1 with e1 e1'
  injection e2 with e2
  injection e2 with e2 e2'
  subst e1 e1' e2 e2'
  have x1c := cX (n + 1) (by omega)
  have x0c := cX n (by omega)
  have y1c := cY (n + 1) (by omega)
  have y0c := cY n (by omega)
  have lx1 := D64_lt X (n + 1)
  have lx0 := D64_lt X n
  have ly1 := D64_lt Y (n + 1)
  have ly0 := D64_lt Y n
  have HLZ := Lib.hid (fun V => lz_any (D B64 X (n + 1)) s hs lx1 V)
  obtain ⟨q, hq⟩ : ∃ q, 64 - s = q := ⟨_, rfl⟩
  rw [hq] at la lb
  have mk : ∀ (d1 d0 R : Nat), d1 < 18446744073709551616 → d0 < 18446744073709551616 → d1 * 2 ^ s % B64 ||| d0 / 2 ^ q = R → ∃ H Lo : Nat, IntKind.u64.wrap ((d1 : Int) * 2 ^ s) = (H : Int) ∧ (d0 : Int) / 2 ^ q = (Lo : Int) ∧ bits .or .u64 (H : Int) (Lo : Int) = (R : Int) := fun d1 d0 R h1 h0 hR =>
    ⟨d1 * 2 ^ s % B64, d0 / 2 ^ q, by rw [shl_word, B64_eq], by rw [shr_word], by
      rw [bits_or_u64 _ _ (by rw [← B64_eq]; exact Nat.mod_lt _ B64_pos) (Nat.lt_of_le_of_lt (Nat.div_le_self _ _) h0), hR]⟩
  obtain ⟨H1, L1, v1, v2, v3⟩ := mk _ _ A lx1 lx0 la
  obtain ⟨H2, L2, v4, v5, v6⟩ := mk _ _ L ly1 ly0 lb
  rw [B64_eq] at la2 lb2
  have hq1 : (64 : Int) - (s : Int) = (q : Int) := by omega
  have hq2 : q ≤ 64 := by omega
  have i1 : (0 : Int) ≤ (n : Int) + 1 := by omega
  have i2 : (n : Int) + 1 < (n : Int) + 2 := by omega
  have i3 : (0 : Int) ≤ (n : Int) := by omega
  have i4 : (n : Int) < (n : Int) + 2 := by omega
  have i5 : ((n : Int) + 1).toNat = n + 1 := by omega
  have i6 : IntKind.i64.wrap ((n : Int) + 1) = (n : Int) + 1 := IntWalk.i64_in _ (by omega)
  have i7 : IntKind.i64.wrap (n : Int) = (n : Int) := IntWalk.i64_in _ (by omega)
  clear hX hY hlt htop hle hs hXs hYs la lb hK dX mX dY mY hKe hA hL cX cY mk hq
  generalize D B64 X (n + 1) = d1 at *
  generalize D B64 X n = d0 at *
  generalize D B64 Y (n + 1) = f1 at *
  generalize D B64 Y n = f0 at *
  go_enter Tryz.func152, Tryz.ntmps152
  go_wp2_with fail
  refine (HLZ.out _).mono ?_
  rintro e w1 ⟨rfl, rfl⟩
  go_wp2_with fail
  go_quiet (fail)
  go_wp2_with fail
  go_quiet (fail)
  go_wp2_with fail
  have hres0 : ∀ V : World, (w.alloc (.cells #[.int .u64 0, .int .u64 0, .int .u64 0, .int .u64 0, .bool false] 166)).heap = V.heap → (V.alloc (.cells #[.int .u64 0, .int .u64 0, .int .u64 1, .int .u64 0, .bool true] 166)).heap[w.heap.size]? = some (.cells #[.int .u64 0, .int .u64 0, .int .u64 0, .int .u64 0, .bool false] 166 (0, 0)) ∧
      St (V.alloc (.cells #[.int .u64 0, .int .u64 0, .int .u64 1, .int .u64 0, .bool true] 166)) (w.heap.size + 1) 0 0 1 0 true := fun V hV => by
    have hsz : V.heap.size = w.heap.size + 1 := by rw [← hV]; simp
    refine ⟨?_, ?_⟩
    · rw [(Below.heap_alloc V _ w.heap.size (by omega)), ← hV]
      exact heap_alloc_new w _
    · have := heap_alloc_new V (.cells #[.int .u64 0, .int .u64 0, .int .u64 1, .int .u64 0, .bool true] 166)
      rw [hsz] at this
      exact this
  have HRES0 := Lib.hid hres0
  clear hres0 x1c x0c y1c y0c v1 v2 v3 v4 v5 v6 i1 i2 i3 i4 i5 i6 i7 lx1 lx0 ly1 ly0 HLZ hq1 hq2
  go_loopw [7, 8, 10, 11] (fun pa pb px py wr => ∃ (a b x0 x1 x2 y0 y1 y2 : Nat) (o : Bool), pa = .int .u64 (a : Int) ∧ pb = .int .u64 (b : Int) ∧ px = .int .u64 (x2 : Int) ∧ py = .int .u64 (y2 : Int) ∧ Hid (Lm X Y A L a b x0 x1 x2 y0 y1 y2 o) ∧
      a < 18446744073709551616 ∧ b < 18446744073709551616 ∧ x0 < 18446744073709551616 ∧ x1 < 18446744073709551616 ∧ x2 < 18446744073709551616 ∧ y0 < 18446744073709551616 ∧ y1 < 18446744073709551616 ∧ y2 < 18446744073709551616 ∧
      St wr (w.heap.size + 1) x0 y0 x1 y1 o ∧ Hid (wr.heap[w.heap.size]? = some (.cells #[.int .u64 0, .int .u64 0, .int .u64 0, .int .u64 0, .bool false] 166 (0, 0))) ∧ Below w.heap.size w wr) (fun _ pb _ _ _ => (intOf pb).toNat)
  case atStart =>
    refine ⟨A, L, 0, 1, 0, 0, 0, 1, true, rfl, rfl, rfl, rfl, Lm.start X Y A L hAL, la2, lb2, by omega, by omega, by omega, by omega, by omega, by omega, (HRES0.out _ (by rfl)).2, (HRES0.out _ (by rfl)).1, ?_⟩
    exact (below_draws ((Below.refl _ _).alloc (Nat.le_refl _) _) _).alloc (by simp) _
  case round =>
    obtain ⟨a, b, x0, x1, x2, y0, y1, y2, o, rfl, rfl, rfl, rfl, HLM, ba, bb, bx0, bx1, bx2, by0, by1, by2, hst, HRES, hbl⟩ := hrel
    obtain ⟨c0, c1, c2, c3, c4⟩ := hst.cells
    have hend : Hid (Cs X Y x0 y0 x1 y1 o) := HLM.out.i11
    have HBL := Lib.hid hbl
    have hsz := hbl.size
    clear hbl
    have hr5 : ∀ V : World, V.heap[w.heap.size]? = some (.cells #[.int .u64 0, .int .u64 0, .int .u64 0, .int .u64 0, .bool false] 166 (0, 0)) →
        V.cell? ⟨w.heap.size, 0, none⟩ = some (.int .u64 0) ∧ V.cell? ⟨w.heap.size, 1, none⟩ = some (.int .u64 0) ∧ V.cell? ⟨w.heap.size, 2, none⟩ = some (.int .u64 0) ∧ V.cell? ⟨w.heap.size, 3, none⟩ = some (.int .u64 0) ∧ V.cell? ⟨w.heap.size, 4, none⟩ = some (.bool false) ∧
        V.frozen? ⟨w.heap.size, 0, none⟩ = false ∧ V.frozen? ⟨w.heap.size, 1, none⟩ = false ∧ V.frozen? ⟨w.heap.size, 2, none⟩ = false ∧ V.frozen? ⟨w.heap.size, 3, none⟩ = false ∧ V.frozen? ⟨w.heap.size, 4, none⟩ = false := fun V h => by
      refine ⟨?_, ?_, ?_, ?_, ?_, ?_, ?_, ?_, ?_, ?_⟩ <;> simp [World.cell?, World.frozen?, h]
    by_cases hb : y2 ≤ b
    · have hsum := HLM.out.sum_le hb
      have hle := HLM.out.le
      have h7 := HLM.out.i7
      have hbd : decide (y2 ≤ b) = true := by simp; omega
      obtain ⟨d, hd⟩ : ∃ d, a - b = d := ⟨_, rfl⟩
      obtain ⟨t, ht⟩ : ∃ t, y1 + y2 = t := ⟨_, rfl⟩
      have w1 : (a : Int) - (b : Int) = (d : Int) := by omega
      have w2 : (y1 : Int) + (y2 : Int) = (t : Int) := by omega
      have w3 : d < 18446744073709551616 := by omega
      have w4 : t < 18446744073709551616 := by omega
      by_cases hab : t ≤ d
      · have habd : decide (t ≤ d) = true := by simp; omega
        have HST := Lib.hid (HLM.out.step HXK.out HYK.out hb (by omega))
        obtain ⟨hb0, q1, q2, q3, q4, q5⟩ := lm_bounds HLM.out hb
        have HD := Lib.hid hd
        have HT := Lib.hid ht
        clear hr5 hd ht
        obtain ⟨Q, hQ⟩ : ∃ q, a / b = q := ⟨_, rfl⟩
        obtain ⟨R, hR⟩ : ∃ q, a % b = q := ⟨_, rfl⟩
        rw [hQ] at q1 q2 q3 q4 HST
        rw [hR] at q5 HST
        have e1 : (a : Int) / (b : Int) = (Q : Int) := by rw [← hQ]; simp
        have e2 : (a : Int) % (b : Int) = (R : Int) := by rw [← hR]; simp
        have e3 : (a : Int).tdiv (b : Int) = (Q : Int) := by rw [Int.tdiv_eq_ediv_of_nonneg (by omega)]; exact e1
        have e4 : (a : Int).tmod (b : Int) = (R : Int) := by rw [Int.tmod_eq_emod_of_nonneg (by omega)]; exact e2
        have hQb : Q < 18446744073709551616 := by rw [← hQ]; exact Nat.lt_of_le_of_lt (Nat.div_le_self _ _) ba
        clear hQ hR
        obtain ⟨px, hpx⟩ : ∃ p, Q * x2 = p := ⟨_, rfl⟩
        obtain ⟨py, hpy⟩ : ∃ p, Q * y2 = p := ⟨_, rfl⟩
        rw [hpx] at q1 q2 HST
        rw [hpy] at q3 q4 HST
        have m1 : (Q : Int) * (x2 : Int) = (px : Int) := by rw [← hpx]; simp
        have m2 : (Q : Int) * (y2 : Int) = (py : Int) := by rw [← hpy]; simp
        obtain ⟨nx, hnx⟩ : ∃ p, x1 + px = p := ⟨_, rfl⟩
        obtain ⟨ny, hny⟩ : ∃ p, y1 + py = p := ⟨_, rfl⟩
        rw [hnx] at q2 HST
        rw [hny] at q4 HST
        have m3 : (x1 : Int) + (px : Int) = (nx : Int) := by omega
        have m4 : (y1 : Int) + (py : Int) = (ny : Int) := by omega
        have m5 : px < 18446744073709551616 := by omega
        have m6 : py < 18446744073709551616 := by omega
        have m7 : nx < 18446744073709551616 := by omega
        have m8 : ny < 18446744073709551616 := by omega
        have hne : ((b : Int) == 0) = false := by simp; omega
        have hlt2 : R < b := q5
        clear hpx hpy hnx hny q1 q2 q3 q4 q5
        have f0 := hst.frozen 0
        have f1' := hst.frozen 1
        have f2 := hst.frozen 2
        have f3 := hst.frozen 3
        have f4 := hst.frozen 4
        have HS0 := Lib.hid hst
        clear hst
        go_wp2_with fail
        go_quiet (fail)
        go_wp2
        go_roundw
        case rel =>
          refine ⟨b, R, x1, x2, nx, y1, y2, ny, !o, rfl, rfl, rfl, rfl, HST.out, bb, by omega, bx1, bx2, m7, by1, by2, m8, ?_, ?_, ?_⟩
          · exact ((((St.set0 (w := wr.drewN _) HS0.out x1).set2 x2).set1 y1).set3 y2).set4 (!o)
          · show _ = _
            exact ((((((Below.refl (w.heap.size + 1) (wr.drewN _)).setCell (by show _ ≤ w.heap.size + 1; omega) _).setCell (by show _ ≤ w.heap.size + 1; omega) _).setCell (by show _ ≤ w.heap.size + 1; omega) _).setCell (by show _ ≤ w.heap.size + 1; omega) _).setCell (by show _ ≤ w.heap.size + 1; omega) _).block w.heap.size (by omega) |>.trans HRES.out
          · exact (((((below_draws HBL.out _).setCell (by show _ ≤ w.heap.size + 1; omega) _).setCell (by show _ ≤ w.heap.size + 1; omega) _).setCell (by show _ ≤ w.heap.size + 1; omega) _).setCell (by show _ ≤ w.heap.size + 1; omega) _).setCell (by show _ ≤ w.heap.size + 1; omega) _
        case measure => simp [intOf] <;> omega
      · have habd : decide (t ≤ d) = false := by simp; omega
        obtain ⟨r0, r1, r2, r3, r4, s0, s1, s2, s3, s4⟩ := hr5 _ HRES.out
        clear hst hr5 hd ht
        go_wp2
        exact bodyPost_ret (v := .agg #[.int .u64 (x0 : Int), .int .u64 (y0 : Int), .int .u64 (x1 : Int), .int .u64 (y1 : Int), .bool o]) (by simp [results, Tryz.results152, go_sem, r0, r1, r2, r3, r4]) rfl ⟨x0, y0, x1, y1, o, rfl, bx0, by0, bx1, by1, hend.out, ((((HBL.out.setCell (by show _ ≤ w.heap.size; omega) _).setCell (by show _ ≤ w.heap.size; omega) _).setCell (by show _ ≤ w.heap.size; omega) _).setCell (by show _ ≤ w.heap.size; omega) _).setCell (by show _ ≤ w.heap.size; omega) _⟩
    · have hbd : decide (y2 ≤ b) = false := by simp; omega
      obtain ⟨r0, r1, r2, r3, r4, s0, s1, s2, s3, s4⟩ := hr5 _ HRES.out
      clear hst hr5
      go_wp2
      exact bodyPost_ret (v := .agg #[.int .u64 (x0 : Int), .int .u64 (y0 : Int), .int .u64 (x1 : Int), .int .u64 (y1 : Int), .bool o]) (by simp [results, Tryz.results152, go_sem, r0, r1, r2, r3, r4]) rfl ⟨x0, y0, x1, y1, o, rfl, bx0, by0, bx1, by1, hend.out, ((((HBL.out.setCell (by show _ ≤ w.heap.size; omega) _).setCell (by show _ ≤ w.heap.size; omega) _).setCell (by show _ ≤ w.heap.size; omega) _).setCell (by show _ ≤ w.heap.size; omega) _).setCell (by show _ ≤ w.heap.size; omega) _⟩
end Go.Proofs.YtahehlajpaoiiaaGreatDoor


/-
  The order of strings of bytes; the program's comparison, sign and number of bits of integers.
-/
namespace Go.Proofs.YtahehlajpaoiiaaGreatDoor
open Go.RowKit
attribute [local go_sem ↓] Go.wp_at_zero Go.wp_at_succ

/-- The value of bytes in a list, the most significant one first. -/
def bvL : List UInt8 → Nat
  | [] => 0
  | c :: l => c.toNat * 256 ^ l.length + bvL l

theorem bvL_lt : ∀ l : List UInt8, bvL l < 256 ^ l.length
  | [] => by simp [bvL]
  | c :: l => by
    have h1 := bvL_lt l
    have h2 := UInt8.toNat_lt c
    have h3 : (c.toNat + 1) * 256 ^ l.length ≤ 256 * 256 ^ l.length := Nat.mul_le_mul_right _ h2
    rw [Nat.add_mul] at h3
    simp only [bvL, List.length_cons, Nat.pow_succ]
    rw [Nat.mul_comm (256 ^ l.length) 256]
    omega

theorem bvL_snoc (c : UInt8) : ∀ l : List UInt8, bvL (l ++ [c]) = bvL l * 256 + c.toNat
  | [] => by simp [bvL]
  | d :: l => by
    simp only [List.cons_append, bvL, bvL_snoc c l, List.length_append, List.length_cons, List.length_nil, Nat.zero_add]
    rw [Nat.pow_succ, Nat.add_mul, Nat.mul_assoc]
    omega

theorem bvL_take (s : ByteArray) : ∀ k, k ≤ s.size → bvL (s.data.toList.take k) = pre s k
  | 0, _ => by simp [bvL, pre_zero]
  | k + 1, hk => by
    have hl : k < s.data.toList.length := by have : s.data.toList.length = s.size := by simp
                                             omega
    rw [List.take_succ_eq_append_getElem hl, bvL_snoc, bvL_take s k (by omega), pre_succ s k (by omega)]
    rfl

theorem bvL_bval (s : ByteArray) : bvL s.toList = bval s := by
  rw [ByteArray.toList_eq, ← pre_all s, ← bvL_take s s.size (Nat.le_refl _)]
  have : s.data.toList.length = s.size := by simp
  rw [← this, List.take_length]

theorem bytesLess_val : ∀ (l k : List UInt8), l.length = k.length → Op.bytesLess l k = decide (bvL l < bvL k)
  | [], [], _ => by simp [Op.bytesLess, bvL]
  | a :: l, b :: k, h => by
    have hl : l.length = k.length := by simpa using h
    have ih := bytesLess_val l k hl
    have h1 := bvL_lt l
    have h2 := bvL_lt k
    simp only [Op.bytesLess, ih, bvL, ← hl]
    rw [← hl] at h2
    generalize bvL l = p at *
    generalize bvL k = q at *
    have hlt : (a < b) ↔ a.toNat < b.toNat := UInt8.lt_iff_toNat_lt
    have heq : (a = b) ↔ a.toNat = b.toNat := UInt8.toNat_inj.symm
    generalize 256 ^ l.length = r at *
    by_cases c1 : a.toNat < b.toNat
    · have c2 : a < b := hlt.2 c1
      have : (a.toNat + 1) * r ≤ b.toNat * r := Nat.mul_le_mul_right _ c1
      rw [Nat.add_mul] at this
      have c3 : a.toNat * r + p < b.toNat * r + q := by omega
      simp [c2, c3]
    · have c2 : ¬ a < b := fun h => c1 (hlt.1 h)
      by_cases c3 : a.toNat = b.toNat
      · have c4 : a = b := heq.2 c3
        subst c4
        simp
      · have c4 : ¬ a = b := fun h => c3 (heq.1 h)
        have : (b.toNat + 1) * r ≤ a.toNat * r := Nat.mul_le_mul_right _ (by omega)
        rw [Nat.add_mul] at this
        have c5 : ¬ a.toNat * r + p < b.toNat * r + q := by omega
        simp [c2, c4, c5]

theorem less_val {s t : ByteArray} (h : s.size = t.size) : Op.bytesLess s.toList t.toList = decide (bval s < bval t) := by
  rw [bytesLess_val, bvL_bval, bvL_bval]
  rw [ByteArray.toList_eq, ByteArray.toList_eq]
  simpa using h

theorem eq_val {s t : ByteArray} (h : s.size = t.size) : (s.toList == t.toList) = decide (bval s = bval t) := by
  have hl := less_val h
  have hr := less_val h.symm
  by_cases e : bval s = bval t
  · have : s = t := by
      refine ext_bytes h fun i h1 h2 => ?_
      have hv : val 256 (dig s) s.size = val 256 (dig t) s.size := by
        have h4 : bval s = val 256 (dig s) s.size := rfl
        have h5 : bval t = val 256 (dig t) t.size := rfl
        rw [← h4, e, h5, h]
      have hd := val_inj (fun i _ => dig_lt s i) (fun i _ => dig_lt t i) hv (s.size - 1 - i) (by omega)
      unfold dig at hd
      rw [dif_pos (by omega), dif_pos (by omega)] at hd
      have e1 : s.size - 1 - (s.size - 1 - i) = i := by omega
      have e2 : t.size - 1 - (s.size - 1 - i) = i := by omega
      have hd' : (s[i]).toNat = (t[i]).toNat := by simpa [e1, e2] using hd
      exact UInt8.toNat_inj.1 hd'
    subst this
    simp
  · rw [decide_eq_false e]
    cases hb : s.toList == t.toList with
    | false => rfl
    | true =>
      have : s.toList = t.toList := by simpa using hb
      rw [← bvL_bval, ← bvL_bval, this] at e
      exact absurd rfl e

set_option maxRecDepth 100000 in
theorem nan_str (s : ByteArray) (w : World) : Calls Tryz.prog 154 #[.string s] w (RetV w (.bool false)) := by
  go_enter Tryz.func154, Tryz.ntmps154
  go_wp2
  go_ret
  exact ⟨by simp, rfl⟩

set_option maxHeartbeats 1000000 in
set_option maxRecDepth 100000 in
theorem cmp_str (s t : ByteArray) (h : s.size = t.size) (w : World) : Calls Tryz.prog 135 #[.string s, .string t] w (RetV w (.int .i64 (ord (bval s) (bval t)))) := by
  have hl := less_val h
  have he := eq_val h
  have HN := Lib.hid (fun x V => nan_str x V)
  rcases Nat.lt_trichotomy (bval s) (bval t) with c | c | c
  · rw [decide_eq_true c] at hl
    rw [ord_lt c]
    clear c he h
    go_enter Tryz.func135, Tryz.ntmps135
    go_wp2_with fail
    refine (HN.out _ _).mono ?_
    rintro e w' ⟨rfl, rfl⟩
    go_wp2_with fail
    refine (HN.out _ _).mono ?_
    rintro e w' ⟨rfl, rfl⟩
    go_wp2
    go_ret
    exact ⟨rfl, rfl⟩
  · rw [decide_eq_false (by omega)] at hl
    rw [decide_eq_true c] at he
    rw [c, ord_eq]
    clear c h
    go_enter Tryz.func135, Tryz.ntmps135
    go_wp2_with fail
    refine (HN.out _ _).mono ?_
    rintro e w' ⟨rfl, rfl⟩
    go_wp2_with fail
    refine (HN.out _ _).mono ?_
    rintro e w' ⟨rfl, rfl⟩
    go_wp2
    go_ret
    exact ⟨rfl, rfl⟩
  · rw [decide_eq_false (by omega)] at hl he
    rw [ord_gt c]
    clear c h
    go_enter Tryz.func135, Tryz.ntmps135
    go_wp2_with fail
    refine (HN.out _ _).mono ?_
    rintro e w' ⟨rfl, rfl⟩
    go_wp2_with fail
    refine (HN.out _ _).mono ?_
    rintro e w' ⟨rfl, rfl⟩
    go_wp2
    go_ret
    exact ⟨rfl, rfl⟩

theorem ord_size {s t : ByteArray} (hs : Lead s) (ht : Lead t) (h : s.size ≠ t.size) : ord (bval s) (bval t) = Lib.compareInt s.size t.size := by
  have key : ∀ {s t : ByteArray}, Lead t → s.size < t.size → bval s < bval t := fun {s t} ht hlt => by
    have h1 := bval_lt s
    have h2 := val_pos (b := 256) (f := dig t) (n := t.size) (by omega) (by omega) (dig_top ht (by omega))
    have h3 : 256 ^ s.size ≤ 256 ^ (t.size - 1) := Nat.pow_le_pow_right (by omega) (by omega)
    have h4 : bval t = val 256 (dig t) t.size := rfl
    omega
  unfold Lib.compareInt
  by_cases c : s.size < t.size
  · rw [ord_lt (key ht c), if_pos (by omega)]
  · rw [ord_gt (key hs (by omega)), if_neg (by omega), if_pos (by omega)]

set_option maxHeartbeats 1000000 in
set_option maxRecDepth 100000 in
theorem cmpMag_any (s t : ByteArray) (hs : Lead s) (ht : Lead t) (w : World) : Calls Tryz.prog 110 #[.string s, .string t] w (RetV w (.int .i64 (ord (bval s) (bval t)))) := by
  by_cases h : s.size = t.size
  · have hne : ((s.size : Int) != (t.size : Int)) = false := by simp; omega
    have HC := Lib.hid (fun V => cmp_str s t h V)
    generalize ord (bval s) (bval t) = o at *
    clear h hs ht
    go_enter Tryz.func110, Tryz.ntmps110
    go_wp2_with fail
    refine (HC.out _).mono ?_
    rintro e w' ⟨rfl, rfl⟩
    go_wp2
    go_ret
    exact ⟨rfl, rfl⟩
  · have hne : ((s.size : Int) != (t.size : Int)) = true := by simp; omega
    have HC := Lib.hid (fun V => Tryz.cmp_Compare_int (s.size : Int) (t.size : Int) V)
    rw [ord_size hs ht h]
    clear h hs ht
    go_enter Tryz.func110, Tryz.ntmps110
    go_wp2_with fail
    refine (HC.out _).mono ?_
    rintro e w' ⟨rfl, rfl⟩
    go_wp2
    go_ret
    exact ⟨rfl, rfl⟩
end Go.Proofs.YtahehlajpaoiiaaGreatDoor
