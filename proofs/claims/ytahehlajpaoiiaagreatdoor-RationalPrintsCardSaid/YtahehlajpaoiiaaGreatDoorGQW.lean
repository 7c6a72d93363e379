import Derived.Test.YtahehlajpaoiiaaGreatDoorGQT2
import Derived.Test.YtahehlajpaoiiaaGreatDoorGLawH
import Derived.Test.YtahehlajpaoiiaaGreatDoorGQR

namespace Go.Proofs.YtahehlajpaoiiaaGreatDoor
open Go.RowKit
attribute [local go_sem ↓] Go.wp_at_zero Go.wp_at_succ

theorem nd_lit {k : Nat} (h0 : 0 < k) (h1 : k < 256) : nd k = 1 := by
  have h2 := nd_pos h0
  have h3 : nd k ≤ 1 := by unfold nd; exact mag_size_le (by omega)
  omega
theorem tr_lit (w : World) (k : Nat) (h0 : 0 < k) (h1 : k < 256) : Tr (w.alloc (.cells #[.int .i64 (k : Int)] 3)) (some ⟨w.heap.size, 0, none⟩) 1 1 k := by
  refine ⟨⟨by omega, fun _ => ⟨w.heap.size, 0, rfl, by simp, fun j hj => ?_⟩⟩, (nd_lit h0 h1).symm, Nat.le_refl _, fun h => by cases h⟩
  obtain rfl : j = 0 := by omega
  refine (cell_of_row _ _ _ _ 3 (0, 0) (heap_one w _)).trans ?_
  have h2 : k % 256 = k := Nat.mod_eq_of_lt h1
  simp [D, h2]
end Go.Proofs.YtahehlajpaoiiaaGreatDoor


namespace Go.Proofs.YtahehlajpaoiiaaGreatDoor
open Go.RowKit
attribute [local go_sem ↓] Go.wp_at_zero Go.wp_at_succ

def decs (X : Nat) : List UInt8 := if X = 0 then [] else Lib.decDigits X
theorem decs_step {X : Nat} (h : 0 < X) : decs X = decs (X / 10) ++ [UInt8.ofNat (48 + X % 10)] := by
  unfold decs
  rw [if_neg (by omega), Lib.decDigits]
  by_cases h1 : X < 10
  · rw [dif_pos h1, if_pos (by omega), Nat.mod_eq_of_lt h1]
    rfl
  · rw [dif_neg h1, if_neg (by omega)]

set_option maxHeartbeats 4000000 in
set_option maxRecDepth 100000 in
theorem rdecimal (A : Option Addr) (n c V : Nat) (w : World) (hn : n ≤ 1000) (hx : Tr w A n c V) :
    Calls Tryz.prog 97 #[.slice A n c] w (RetB w (.string ⟨(printed false V).toArray⟩)) := by
  have HX := Lib.hid hx
  by_cases hV : V = 0
  · have h0 : n = 0 := by rw [hx.ln, hV, nd_zero]
    subst h0
    have hp : printed false V = [48] := by unfold printed; rw [if_pos hV]
    rw [hp]
    clear hx hp
    go_enter Tryz.func97, Tryz.ntmps97
    go_wp2
    go_ret
    exact ⟨rfl, Below.refl _ _⟩
  · have hn0 : 0 < n := by rw [hx.ln]; exact nd_pos (by omega)
    have hp : printed false V = decs V := by unfold printed decs; rw [if_neg hV, if_neg hV]; rfl
    rw [hp]
    have hne : ¬ (n : Int) = 0 := by omega
    have hneb : ((n : Int) == 0) = false := by simpa using hne
    have hdl : (decs V).length ≤ 3001 := by
      unfold decs
      rw [if_neg hV, Lib.decDigits_length]
      exact digits_few rfl (by have h := hx.ln; unfold nd at h; omega)
    have HDL := Lib.hid hdl
    clear hx hp hdl
    go_enter Tryz.func97, Tryz.ntmps97
    go_wp2
    go_loopg [0, 3] V (fun k av sv wr => ∃ (x : Nat) (A' : Option Addr) (n' c' : Nat) (l : List UInt8), av = .slice A' n' c' ∧ sv = .string ⟨l.toArray⟩ ∧ Hid (x ≤ k ∧ n' ≤ 100000 ∧ decs V = decs x ++ l) ∧ Hid (Tr wr A' n' c' x ∧ Below w.heap.size w wr))
    case atStart => exact ⟨V, A, n, c, [], rfl, rfl, ⟨Nat.le_refl _, by omega, by simp⟩, HX.out, Below.refl _ _⟩
    case round =>
      obtain ⟨x, A', n', c', l, rfl, rfl, HC, HH⟩ := hrel
      have hln := HH.out.1.ln
      by_cases hz : 0 < n'
      · have hx0 : 0 < x := by
          rcases Nat.eq_zero_or_pos x with h | h
          · rw [h, nd_zero] at hln; omega
          · exact h
        have hn2 := HC.out.2.1
        have hll : l.length ≤ 3001 := by
          have h1 := congrArg List.length HC.out.2.2
          rw [List.length_append] at h1
          have := HDL.out
          omega
        clear hln
        go_wp2_with fail
        refine (rdivide A' (some ⟨wr.heap.size, 0, none⟩) n' 1 c' 1 x 10 _ (by omega) (by omega) (HH.out.1.alloc _) (tr_lit wr 10 (by omega) (by omega)) (by omega)).mono ?_
        rintro e w2 ⟨A1, n1, c1, A2, n2, c2, rfl, ht1, ht2, hb2⟩
        have HB2 := Lib.hid (HH.out.2.trans (((Below.refl wr.heap.size wr).alloc (Nat.le_refl _) (.cells #[.int .i64 10] 3)).trans (hb2.mono (by simp)) |>.mono HH.out.2.size))
        have HT1 := Lib.hid ht1
        have hl1 : n1 ≤ 100000 := by
          have h1 := ht1.ln
          have h2 := nd_div x 10
          have h3 := HH.out.1.ln
          omega
        have hsm := rsmall_yes A2 n2 c2 (x % 10) w2 (by
          have h1 := ht2.ln
          have h2 := nd_mono (show x % 10 ≤ 9 by omega)
          have h3 := nd_lit (k := 9) (by omega) (by omega)
          omega) ht2.dg
        obtain ⟨d, hd⟩ : ∃ d, x % 10 = d := ⟨_, rfl⟩
        rw [hd] at hsm
        have hd10 : d < 10 := by omega
        have HSM := Lib.hid hsm
        clear ht1 ht2 hb2 hsm
        go_wp2_with fail
        refine HSM.out.mono ?_
        rintro e w3 ⟨rfl, rfl⟩
        obtain ⟨u, hu⟩ : ∃ u, UInt8.ofNat (48 + d) = u := ⟨_, rfl⟩
        have hun : (u.toNat : Int) = 48 + (d : Int) := by rw [← hu]; simp; omega
        have hcv : (convert 130 9 (.slice (some ⟨w2.heap.size, 0, none⟩) 1 1)).run Tryz.prog (w2.alloc (.cells #[.int .u8 (48 + (d : Int))] 5)) = .ok (.string ⟨#[u]⟩) (w2.alloc (.cells #[.int .u8 (48 + (d : Int))] 5)) := by
          have h := run_convert_bytes_back (P := Tryz.prog) (w2.alloc (.cells #[.int .u8 (48 + (d : Int))] 5)) 130 9 5 ⟨w2.heap.size, 0, none⟩ 1 [u] Tryz.underlying130 Tryz.underlying5 Tryz.underlying9 (fun j hj => by
            obtain rfl : j = 0 := by simp at hj; omega
            rw [Lib.add_plain]
            show _ = some (Value.int .u8 (u.toNat : Int))
            rw [hun]
            simp)
          exact h
        have hb5 : Below w2.heap.size w2 (w2.alloc (.cells #[.int .u8 (48 + (d : Int))] 5)) := (Below.refl _ _).alloc (Nat.le_refl _) _
        have HT5 := Lib.hid (HT1.out.below hb5)
        have HB5 := Lib.hid (HB2.out.trans (hb5.mono HB2.out.size))
        have HU := Lib.hid hu
        have HD := Lib.hid hd
        clear hb5 hun hu hd
        go_wp2_with fail
        go_roundg (x / 10)
        case measure => have := HC.out.1; have := Nat.div_lt_self hx0 (show 1 < 10 by decide); omega
        case rel =>
          refine ⟨x / 10, A1, n1, c1, u :: l, rfl, by rw [cat_one], ⟨Nat.le_refl _, hl1, ?_⟩, HT5.out, HB5.out⟩
          rw [HC.out.2.2, decs_step hx0, HD.out, HU.out, List.append_assoc]
          rfl
      · have hx0 : x = 0 := nd_zero_iff.1 (by omega)
        have hs : l = decs V := by rw [HC.out.2.2, hx0]; rfl
        subst hs
        clear hln
        go_wp2
        go_ret
        exact ⟨rfl, HH.out.2⟩
end Go.Proofs.YtahehlajpaoiiaaGreatDoor


namespace Go.Proofs.YtahehlajpaoiiaaGreatDoor
open Go.RowKit
attribute [local go_sem ↓] Go.wp_at_zero Go.wp_at_succ

theorem zero_size (s : ByteArray) : (s ++ ⟨#[0]⟩).size = s.size + 1 := by simp [ByteArray.size_append]; rfl

theorem bval_zero_behind (s : ByteArray) : bval (s ++ ⟨#[0]⟩) = 256 * bval s := by
  unfold bval
  rw [zero_size, val_head]
  have h0 : dig (s ++ ⟨#[0]⟩) 0 = 0 := by
    unfold dig
    rw [dif_pos (by rw [zero_size]; omega)]
    have : (s ++ ⟨#[0]⟩).size - 1 - 0 = s.size := by rw [zero_size]; omega
    simp only [this]
    rw [ByteArray.getElem_append_right (Nat.le_refl _)]
    simp
    rfl
  rw [h0, Nat.zero_add]
  congr 1
  refine val_congr fun i hi => ?_
  unfold dig
  rw [dif_pos (by rw [zero_size]; omega), dif_pos hi]
  have : (s ++ ⟨#[0]⟩).size - 1 - (i + 1) = s.size - 1 - i := by rw [zero_size]; omega
  simp only [this]
  rw [ByteArray.getElem_append_left (by omega)]

theorem below_two' (w1 : World) (o1 o2 : Obj) : Below w1.heap.size w1 ((w1.alloc o1).alloc o2) := ((Below.refl _ _).alloc (Nat.le_refl _) _).alloc (by simp) _

theorem mk_small {neg : Bool} {X Y n : Nat} (hX : X < 256 ^ n) (hY : Y < 256 ^ n) (hY0 : 0 < Y) : (mkRat (sgn neg X) Y).num.natAbs < 256 ^ n ∧ (mkRat (sgn neg X) Y).den < 256 ^ n := by
  obtain ⟨e1, e2⟩ := mkRat_parts (sgn neg X) (d := Y) (by omega)
  rw [sgn_natAbs] at e1 e2
  rw [e1, e2, sgn_div neg (Nat.gcd_dvd_left X Y), sgn_natAbs]
  have h1 := Nat.div_le_self X (Nat.gcd X Y)
  have h2 := Nat.div_le_self Y (Nat.gcd X Y)
  omega

structure Fr (w : World) (g4 g5 : Nat) (num den : Int) (u v : Nat) (b1 b2 : Bool) (s t : ByteArray) (wr : World) : Prop where
  k1 : wr.heap[w.heap.size]? = some (.cells #[.int .i64 num, .int .i64 den, .int .u8 (u : Int), .int .u8 (v : Int)] 41 (0, 0))
  k2 : wr.heap[w.heap.size + 1]? = some (.cells #[.bool false, .string ⟨#[]⟩, .bool false, .string ⟨#[]⟩] 25 (0, 0))
  k4 : wr.heap[g4]? = some (.cells #[.bool b1, .string s] 23 (0, 0))
  k5 : wr.heap[g5]? = some (.cells #[.bool b2, .string t] 23 (0, 0))
  lt4 : w.heap.size + 2 ≤ g4
  lt5 : g4 < g5
  sz : g5 < wr.heap.size
  bel : Below w.heap.size w wr

theorem one_set {W : World} {g : Nat} {T : TypeId} {x0 x1 : Value} (h : W.heap[g]? = some (.cells #[x0, x1] T (0, 0))) (y : Value) : (W.setCell ⟨g, 1, none⟩ y).heap[g]? = some (.cells #[x0, y] T (0, 0)) := by
  simp [World.setCell, Array.getElem?_modify, h]
theorem Fr.set4 {w wr : World} {g4 g5 : Nat} {num den : Int} {u v : Nat} {b1 b2 : Bool} {s t : ByteArray} (h : Fr w g4 g5 num den u v b1 b2 s t wr) (s' : ByteArray) : Fr w g4 g5 num den u v b1 b2 s' t (wr.setCell ⟨g4, 1, none⟩ (.string s')) := by
  have h4 := h.lt4
  have h5 := h.lt5
  exact ⟨(Below.heap_setCell _ ⟨g4, 1, none⟩ _ _ (by show _ ≠ g4; omega)).trans h.k1, (Below.heap_setCell _ ⟨g4, 1, none⟩ _ _ (by show _ ≠ g4; omega)).trans h.k2, one_set h.k4 _, (Below.heap_setCell _ ⟨g4, 1, none⟩ _ _ (by show _ ≠ g4; omega)).trans h.k5, h.lt4, h.lt5, by simpa [World.setCell] using h.sz, h.bel.setCell (by show w.heap.size ≤ g4; omega) _⟩
theorem Fr.set5 {w wr : World} {g4 g5 : Nat} {num den : Int} {u v : Nat} {b1 b2 : Bool} {s t : ByteArray} (h : Fr w g4 g5 num den u v b1 b2 s t wr) (t' : ByteArray) : Fr w g4 g5 num den u v b1 b2 s t' (wr.setCell ⟨g5, 1, none⟩ (.string t')) := by
  have h4 := h.lt4
  have h5 := h.lt5
  exact ⟨(Below.heap_setCell _ ⟨g5, 1, none⟩ _ _ (by show _ ≠ g5; omega)).trans h.k1, (Below.heap_setCell _ ⟨g5, 1, none⟩ _ _ (by show _ ≠ g5; omega)).trans h.k2, (Below.heap_setCell _ ⟨g5, 1, none⟩ _ _ (by show _ ≠ g5; omega)).trans h.k4, one_set h.k5 _, h.lt4, h.lt5, by simpa [World.setCell] using h.sz, h.bel.setCell (by show w.heap.size ≤ g5; omega) _⟩

end Go.Proofs.YtahehlajpaoiiaaGreatDoor
