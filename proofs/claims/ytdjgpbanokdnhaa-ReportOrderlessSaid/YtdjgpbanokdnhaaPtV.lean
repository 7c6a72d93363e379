/-
  slices.IndexFunc and slices.DeleteFunc over reports, whatever the predicate.
-/
import Derived.Test.YtdjgpbanokdnhaaPtM
import Derived.Test.YtdjgpbanokdnhaaPtG
import Derived.Shelf.Abstract
namespace Go.Proofs.Ytdjgpbanokdnhaa.Pt
open Go.RowKit

/-- A predicate that may make memory. -/
def Pred (w : World) (g : Nat) (cb : Array Value) (p : Rep → Bool) : Prop := ∀ W, Bel w W → ∀ r, Calls Try.prog g (#[agR r] ++ cb) W (RetB W (.bool (p r)))
def FirstAt (l : List Rep) (p : Rep → Bool) (n : Int) : Prop := (n = -1 ∧ ∀ j, j < l.length → p l[j]! = false) ∨ ∃ k, k < l.length ∧ n = (k : Nat) ∧ p l[k]! = true ∧ ∀ j, j < k → p l[j]! = false

set_option maxRecDepth 100000 in
theorem indexFunc_f (l : List Rep) (p : Rep → Bool) (g0 : Nat) (cb : Array Value) (v : Value) (w : World) (hv : IsL w v l) (eg : ∀ args w, (callFunc g0 args).run Try.prog w = .ok (.enter g0 args) w) (hp : Pred w g0 cb p) :
    Calls Try.prog 75 #[v, .func (.func g0) #[] cb] w (RetN w (FirstAt l p)) := by
  obtain ⟨q, cap, rfl, hc, hm, hl, _⟩ := hv
  unfold maxLen at hm
  have HL := Lib.hid hl
  have HP := Lib.hid hp
  clear hl hp
  go_enter Try.func75, Try.ntmps75
  go_wp2
  go_loopw [8] (fun i wr => ∃ k : Nat, k ≤ l.length ∧ i = .int .i64 k ∧ (∀ j, j < k → p l[j]! = false) ∧ Bel w wr) (fun i _ => l.length - (intOf i).toNat)
  case atStart => exact ⟨0, by omega, rfl, fun _ h => by omega, Bel.refl _⟩
  case round =>
    obtain ⟨k, hk, rfl, hn, hbl⟩ := hrel
    have B := Lib.hid hbl
    have N := Lib.hid hn
    clear hbl hn
    by_cases hlt : k < l.length
    · obtain ⟨g, o, rfl, hg, hat⟩ := isl_open HL.out hlt
      obtain ⟨c0, c1, c2, c3, c4, c5, c6, c7⟩ := (hat.bel hg B.out).c8 hlt
      have hk8 : (k : Int) < l.length := by omega
      have hx1 : ∀ x, l[k]! = x → Hid (l[k]! = x) := fun x h => Lib.hid h
      generalize hx : l[k]! = x at c0 c1 c2 c3 c4 c5 c6 c7
      have HX := hx1 x hx
      have HC := Lib.hid (HP.out wr B.out x)
      have hpx1 : ∀ b, p x = b → Hid (p x = b) := fun b h => Lib.hid h
      generalize hpx : p x = b at HC
      have HB := hpx1 b hpx
      clear hat hx hx1 hpx hpx1
      cases b
      · go_wp2_with (go_at_fn g0; refine HC.out.mono ?_; rintro e W1 ⟨rfl, hb1⟩; have B1 := Lib.hid (B.out.trans hb1); clear hb1)
        go_roundw
        case rel => exact ⟨k + 1, by omega, by go_num, fun j hj => by
          rcases Nat.lt_or_ge j k with h | h
          · exact N.out j h
          · rw [show j = k by omega, HX.out]; exact HB.out, B1.out⟩
        case measure => simp [intOf]; omega
      · go_wp2_with (go_at_fn g0; refine HC.out.mono ?_; rintro e W1 ⟨rfl, hb1⟩; have B1 := Lib.hid (B.out.trans hb1); clear hb1)
        go_ret
        exact ⟨k, rfl, .inr ⟨k, hlt, rfl, by rw [HX.out]; exact HB.out, N.out⟩, B1.out⟩
    · have hk8 : ¬ ((k : Int) < l.length) := by omega
      go_wp2
      go_ret
      exact ⟨-1, rfl, .inl ⟨rfl, fun j hj => N.out j (by omega)⟩, B.out⟩
end Go.Proofs.Ytdjgpbanokdnhaa.Pt
