/-
  Reports in memory: their cells; the program's order and the reference's fields.
-/
import Derived.Test.YtdjgpbanokdnhaaPtK
import Derived.Test.YtdjgpbanokdnhaaPtN
namespace Go.Proofs.Ytdjgpbanokdnhaa.Pt
open Go.RowKit

def cmpI (x y : Int) : Int := if x < y then -1 else if y < x then 1 else 0
theorem cmpI_lt {x y : Int} (h : x < y) : cmpI x y = -1 := by simp [cmpI, h]
theorem cmpI_gt {x y : Int} (h : y < x) : cmpI x y = 1 := by simp [cmpI, h, show ¬ x < y by omega]
theorem cmpI_eq {x y : Int} (h : x = y) : cmpI x y = 0 := by simp [cmpI, h]
theorem lexc_cons (a b : Int) (u v : List Int) : lexc (a :: u) (b :: v) = if cmpI a b = 0 then lexc u v else cmpI a b := by
  simp only [lexc, cmpI]
  split
  · simp
  · split <;> simp

theorem isNaN_f (x : Int) (w : World) : Calls Try.prog 63 #[.int .i64 x] w fun e w' => e = .returned (.bool false) ∧ w = w' := by
  go_enter Try.func63, Try.ntmps63
  go_wp2
  go_ret
  simp
theorem cmpInt_f (x y : Int) (w : World) : Calls Try.prog 51 #[.int .i64 x, .int .i64 y] w fun e w' => e = .returned (.int .i64 (cmpI x y)) ∧ w = w' := by
  rcases Int.lt_trichotomy x y with h | h | h
  · rw [cmpI_lt h]
    go_enter Try.func51, Try.ntmps51
    go_wp2_with (go_at_call 63; refine (isNaN_f _ _).mono ?_; rintro e w' ⟨rfl, rfl⟩)
    go_ret
    exact ⟨rfl, rfl⟩
  · subst h
    rw [cmpI_eq rfl]
    go_enter Try.func51, Try.ntmps51
    go_wp2_with (go_at_call 63; refine (isNaN_f _ _).mono ?_; rintro e w' ⟨rfl, rfl⟩)
    go_ret
    exact ⟨rfl, rfl⟩
  · rw [cmpI_gt h]
    have h' : ¬ x < y := by omega
    go_enter Try.func51, Try.ntmps51
    go_wp2_with (go_at_call 63; refine (isNaN_f _ _).mono ?_; rintro e w' ⟨rfl, rfl⟩)
    go_ret
    exact ⟨rfl, rfl⟩

theorem lexc_step (A B : List Int) (k : Nat) (ha : k < A.length) (hb : k < B.length) : lexc (A.drop k) (B.drop k) = if cmpI A[k]! B[k]! = 0 then lexc (A.drop (k + 1)) (B.drop (k + 1)) else cmpI A[k]! B[k]! := by
  rw [List.drop_eq_getElem_cons ha, List.drop_eq_getElem_cons hb, lexc_cons, getElem!_pos A k ha, getElem!_pos B k hb]

set_option maxRecDepth 100000 in
theorem scmp_f (A B : List Int) (hA : A.length = 8) (hB : B.length = 8) (g h : Nat) (w : World) (ha : ∀ j, j < 8 → w.cell? ⟨g, j, none⟩ = some (.int .i64 A[j]!)) (hb : ∀ j, j < 8 → w.cell? ⟨h, j, none⟩ = some (.int .i64 B[j]!)) :
    Calls Try.prog 38 #[.slice (some ⟨g, 0, none⟩) 8 8, .slice (some ⟨h, 0, none⟩) 8 8] w fun e w' => e = .returned (.int .i64 (lexc A B)) ∧ w = w' := by
  have HA := Lib.hid ha
  have HB := Lib.hid hb
  have H8 := Lib.hid hA
  have H9 := Lib.hid hB
  have e0 : A.drop 0 = A := rfl
  have e1 : B.drop 0 = B := rfl
  have HP : Hid (lexc A B = lexc (A.drop 0) (B.drop 0)) := Lib.hid rfl
  clear e0 e1
  generalize lexc A B = r at HP ⊢
  clear ha hb hA hB
  go_enter Try.func38, Try.ntmps38
  go_wp2
  go_loop [11] (fun i => ∃ k : Nat, k ≤ 8 ∧ i = .int .i64 k ∧ r = lexc (A.drop k) (B.drop k)) (fun i => 8 - (intOf i).toNat)
  case atStart => exact ⟨0, by omega, rfl, HP.out⟩
  case round =>
    obtain ⟨k, hk, rfl, hr⟩ := hrel
    have HR := Lib.hid hr
    clear hr
    by_cases hlt : k < 8
    · have h1 := HA.out k hlt
      have h2 := HB.out k hlt
      have hs := lexc_step A B k (by rw [H8.out]; exact hlt) (by rw [H9.out]; exact hlt)
      rw [← HR.out] at hs
      generalize A[k]! = x at h1 hs
      generalize B[k]! = y at h2 hs
      have HS := Lib.hid hs
      clear hs
      have hk8 : (k : Int) < 8 := by omega
      rcases Int.lt_trichotomy x y with hx | hx | hx
      · have hc := cmpI_lt hx
        have HC := Lib.hid hc
        clear hc hx
        go_wp2_with (go_at_call 51; refine (cmpInt_f _ _ _).mono ?_; rw [HC.out]; rintro e w' ⟨rfl, rfl⟩)
        go_ret
        refine ⟨res_int ?_, rfl⟩
        rw [HS.out, HC.out]
        rfl
      · have hc := cmpI_eq hx
        have HC := Lib.hid hc
        clear hc hx
        go_wp2_with (go_at_call 51; refine (cmpInt_f _ _ _).mono ?_; rw [HC.out]; rintro e w' ⟨rfl, rfl⟩)
        go_round
        case rel => exact ⟨k + 1, by omega, by go_num, by rw [HS.out, HC.out]; rfl⟩
        case measure => simp [intOf]; omega
      · have hc := cmpI_gt hx
        have HC := Lib.hid hc
        clear hc hx
        go_wp2_with (go_at_call 51; refine (cmpInt_f _ _ _).mono ?_; rw [HC.out]; rintro e w' ⟨rfl, rfl⟩)
        go_ret
        refine ⟨res_int ?_, rfl⟩
        rw [HS.out, HC.out]
        rfl
    · have hk8 : ¬ ((k : Int) < 8) := by omega
      have hr0 : r = 0 := by
        rw [HR.out, List.drop_of_length_le (by rw [H8.out]; omega)]
        rfl
      have H0 := Lib.hid hr0
      clear hr0
      go_wp2
      go_ret
      exact ⟨res_int H0.out.symm, rfl⟩

/-- A report's value. -/
def encR (r : Rep) : List Value := [.int .i64 r.ob, .int .i64 r.sq, .int .i64 r.vs, .int .i64 r.dv, .int .i64 r.tm, .int .i64 r.px, .int .i64 r.py, .bool r.cn]
abbrev agR (r : Rep) : Value := .agg #[.int .i64 r.ob, .int .i64 r.sq, .int .i64 r.vs, .int .i64 r.dv, .int .i64 r.tm, .int .i64 r.px, .int .i64 r.py, .bool r.cn]
theorem encR_len (r : Rep) : (encR r).length = 8 := rfl
theorem encR_one (r : Rep) (v : Value) (h : v ∈ encR r) : v.oneCell' = true := by
  simp only [encR, List.mem_cons, List.not_mem_nil, or_false] at h
  rcases h with rfl | rfl | rfl | rfl | rfl | rfl | rfl | rfl <;> rfl
abbrev agK (r : Rep) : Array Value := #[.int .i64 r.ob, .int .i64 r.sq, .int .i64 r.vs, .int .i64 r.tm, .int .i64 r.px, .int .i64 r.py, .int .i64 r.dv, .int .i64 r.one]

set_option maxRecDepth 100000 in
theorem fields_any (a b c d e f g i : Int) (h : Bool) (hi : (if h = true then 1 else 0) = i) (w : World) :
    Calls Try.prog 37 #[.agg #[.int .i64 a, .int .i64 b, .int .i64 c, .int .i64 d, .int .i64 e, .int .i64 f, .int .i64 g, .bool h]] w (RetB w (.agg #[.int .i64 a, .int .i64 b, .int .i64 c, .int .i64 e, .int .i64 f, .int .i64 g, .int .i64 d, .int .i64 i])) := by
  subst hi
  cases h
  all_goals
    go_enter Try.func37, Try.ntmps37
    go_wp2
    exact bodyPost_ret (by simp [results, Try.results37, go_sem]) rfl ⟨rfl, ((Bel.refl w).alloc _).alloc _⟩
theorem fields_f (r : Rep) (w : World) : Calls Try.prog 37 #[agR r] w (RetB w (.agg (agK r))) := fields_any _ _ _ _ _ _ _ _ _ rfl w
set_option maxRecDepth 100000 in
theorem lfields_any (a b c d e f g i : Int) (h : Bool) (hi : (if h = true then 1 else 0) = i) (w : World) :
    Calls Try.prog 39 #[.agg #[.int .i64 a, .int .i64 b, .int .i64 c, .int .i64 d, .int .i64 e, .int .i64 f, .int .i64 g, .bool h]] w (RetB w (.agg #[.int .i64 a, .int .i64 b, .int .i64 c, .int .i64 e, .int .i64 f, .int .i64 g, .int .i64 d, .int .i64 i])) := by
  subst hi
  cases h
  all_goals
    go_enter Try.func39, Try.ntmps39
    go_wp2
    exact bodyPost_ret (by simp [results, Try.results39, go_sem]) rfl ⟨rfl, ((Bel.refl w).alloc _).alloc _⟩
theorem lfields_f (r : Rep) (w : World) : Calls Try.prog 39 #[agR r] w (RetB w (.agg (agK r))) := lfields_any _ _ _ _ _ _ _ _ _ rfl w
end Go.Proofs.Ytdjgpbanokdnhaa.Pt
