/-
  Slices of numbers; the reference's comparison of them.
-/
import Derived.Test.YtdjgpbanokdnhaaPtD
namespace Go.Proofs.Ytdjgpbanokdnhaa.Pt
open Go.RowKit

def IsAt (w : World) (g o : Nat) (l : List Int) : Prop := ∀ i, i < l.length → w.cell? ⟨g, o + i, none⟩ = some (.int .i64 l[i]!)
/-- A slice that holds the numbers of a list. -/
def IsI (w : World) (v : Value) (l : List Int) : Prop :=
  ∃ p cap, v = .slice p l.length cap ∧ l.length ≤ cap ∧ cap ≤ maxLen ∧ (l = [] ∨ ∃ g o, p = some ⟨g, o, none⟩ ∧ g < w.heap.size ∧ IsAt w g o l) ∧ (p = none → cap = 0)
theorem IsAt.bel {w w' : World} {g o : Nat} {l : List Int} (h : IsAt w g o l) (hg : g < w.heap.size) (hb : Bel w w') : IsAt w' g o l := fun i hi => (hb.cell hg).trans (h i hi)
theorem IsI.bel {w w' : World} {v : Value} {l : List Int} (h : IsI w v l) (hb : Bel w w') : IsI w' v l := by
  obtain ⟨p, cap, h1, h2, h3, h4, h5⟩ := h
  refine ⟨p, cap, h1, h2, h3, ?_, h5⟩
  rcases h4 with h | ⟨g, o, h5, h6, h7⟩
  · exact .inl h
  · exact .inr ⟨g, o, h5, Nat.lt_of_lt_of_le h6 hb.size, h7.bel h6 hb⟩
theorem isi_open {w : World} {p : Option Addr} {l : List Int} (h : l = [] ∨ ∃ g o, p = some ⟨g, o, none⟩ ∧ g < w.heap.size ∧ IsAt w g o l) {k : Nat} (hk : k < l.length) : ∃ g o, p = some ⟨g, o, none⟩ ∧ g < w.heap.size ∧ IsAt w g o l := by
  rcases h with h | h
  · rw [h] at hk; simp at hk
  · exact h
theorem iext_of {a b : List Int} (h : a.length = b.length) (k : Nat) (hk : b.length ≤ k) (e : ∀ j, j < k → a[j]! = b[j]!) : a = b :=
  List.ext_getElem h fun j h1 h2 => by
    have := e j (by omega)
    rwa [getElem!_pos a j h1, getElem!_pos b j h2] at this
theorem ine_of {a b : List Int} {k : Nat} (h : ¬ a[k]! = b[k]!) : ¬ a = b := fun e => h (by rw [e])

set_option maxRecDepth 100000 in
theorem sameInts_f (a b : List Int) (v u : Value) (w : World) (hv : IsI w v a) (hu : IsI w u b) :
    Calls Try.prog 30 #[v, u] w (RetB w (.bool (decide (a = b)))) := by
  obtain ⟨p, cap, rfl, hc, hm, hl, _⟩ := hv
  obtain ⟨q, cbp, rfl, hd, hn, hr, _⟩ := hu
  unfold maxLen at hm hn
  have HL := Lib.hid hl
  have HM := Lib.hid hr
  clear hl hr
  have HP : Hid (∀ c, decide (a = b) = c ↔ (c = true ↔ a = b)) := Lib.hid fun b => by cases b <;> simp
  generalize decide (a = b) = res at HP ⊢
  by_cases hab : a.length = b.length
  · have HAB := Lib.hid hab
    have hi : ((a.length : Int) == b.length) = true := by simp [hab]
    have hi2 : ((a.length : Int) != b.length) = false := by simp [hab]
    clear hab
    go_enter Try.func30, Try.ntmps30
    go_wp2
    go_loopw [5] (fun i wr => ∃ k : Nat, k ≤ a.length ∧ i = .int .i64 k ∧ (∀ j, j < k → a[j]! = b[j]!) ∧ Sb w [] [] wr) (fun i _ => a.length - (intOf i).toNat)
    case atStart => exact ⟨0, by omega, rfl, fun _ h => by omega, Sb.start w⟩
    case round =>
      obtain ⟨k, hk, rfl, hn, hX⟩ := hrel
      have X := Lib.hid hX
      have N := Lib.hid hn
      clear hX hn
      by_cases hlt : k < a.length
      · have hlt2 : k < b.length := by rw [← HAB.out]; exact hlt
        obtain ⟨g, o, rfl, hg, hat⟩ := isi_open HL.out hlt
        obtain ⟨g', o', rfl, hg', hat'⟩ := isi_open HM.out hlt2
        have c0 := (hat.bel hg X.out.bel) k hlt
        have d0 := (hat'.bel hg' X.out.bel) k hlt2
        have hk8 : (k : Int) < a.length := by omega
        have hk9 : (k : Int) < b.length := by omega
        have hx1 : ∀ x, a[k]! = x → Hid (a[k]! = x) := fun x h => Lib.hid h
        have hy1 : ∀ x, b[k]! = x → Hid (b[k]! = x) := fun x h => Lib.hid h
        generalize hx : a[k]! = x at c0
        generalize hy : b[k]! = y at d0
        have HX := hx1 x hx
        have HY := hy1 y hy
        clear hat hat' hx hx1 hy hy1
        by_cases he : x = y
        · have HE := Lib.hid he
          have e1 : (x == y) = true := by simp [he]
          have e2 : (x != y) = false := by simp [he]
          clear he
          go_wp2
          go_quiet (fail)
          go_wp2
          go_roundw
          case rel => exact ⟨k + 1, by omega, by go_num, fun j hj => by
            rcases Nat.lt_or_ge j k with h | h
            · exact N.out j h
            · rw [show j = k by omega, HX.out, HY.out]; exact HE.out, X.out.next (Bel.drawnN _ _)⟩
          case measure => simp [intOf]; omega
        · have e1 : (x == y) = false := by simp [he]
          have e2 : (x != y) = true := by simp [he]
          have R : Hid (res = false) := Lib.hid ((HP.out false).2 (by simp; exact ine_of (k := k) (by rw [HX.out, HY.out]; exact he)))
          clear he
          go_wp2
          go_quiet (fail)
          go_wp2
          go_ret
          exact ⟨by rw [R.out]; rfl, X.out.bel.drewN _⟩
      · have hk8 : ¬ ((k : Int) < a.length) := by omega
        have R : Hid (res = true) := Lib.hid ((HP.out true).2 (by simp; exact iext_of HAB.out k (by rw [← HAB.out]; omega) N.out))
        go_wp2
        go_ret
        exact ⟨by rw [R.out]; rfl, X.out.bel⟩
  · have R : Hid (res = false) := Lib.hid ((HP.out false).2 (by simp; exact fun h => hab (by rw [h])))
    have hi : ((a.length : Int) == b.length) = false := by simp; omega
    have hi2 : ((a.length : Int) != b.length) = true := by simp; omega
    go_enter Try.func30, Try.ntmps30
    go_wp2
    go_ret
    exact ⟨by rw [R.out]; rfl, Bel.refl _⟩
end Go.Proofs.Ytdjgpbanokdnhaa.Pt
