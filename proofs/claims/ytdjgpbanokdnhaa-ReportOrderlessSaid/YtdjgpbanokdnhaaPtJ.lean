/-
  slices.Clone, slices.Grow and slices.Concat over reports.
-/
import Derived.Test.YtdjgpbanokdnhaaPtI
import Derived.Lib.SliceRun
namespace Go.Proofs.Ytdjgpbanokdnhaa.Pt
open Go.RowKit

set_option maxRecDepth 100000 in
theorem clone_f (a : List Rep) (v : Value) (w : World) (hv : IsL w v a) (hb : a.length ≤ 1000000) :
    Calls Try.prog 59 #[v] w (RetP w fun x W => Own w W x a) := by
  obtain ⟨p, c, rfl⟩ := hv.shape
  have HV := Lib.hid hv
  cases p with
  | none =>
    obtain ⟨p', c', e, hc, hm, hl, hn⟩ := hv
    injection e with e1 e2 e3
    subst e1 e3
    obtain rfl := hn rfl
    have hm0 : a = [] := by
      rcases hl with h | ⟨_, _, h, _⟩
      · exact h
      · cases h
    subst hm0
    have en := Go.Lib.run_eql_slice_nil (P := Try.prog) w 34 23 none 0 0 0 0 Try.underlying34
    clear hn hl e2 HV
    go_enter Try.func59, Try.ntmps59
    go_wp2
    go_ret
    exact ⟨_, rfl, Own.nil _ _, Bel.refl _⟩
  | some ad =>
    have en := Go.Lib.run_eql_slice_nil (P := Try.prog) w 34 23 (some ad) a.length c 0 0 Try.underlying34
    clear hv
    go_enter Try.func59, Try.ntmps59
    go_wp2_with (at_builtin; refine wpList_reps (w0 := w) (l := []) (m := a) rfl _ _ rfl rfl rfl (own_made w w (Bel.refl w)) (HV.out.bel (Bel.new _ _)) ?b1 ?b2 ?b3)
    case b1 => simp; omega
    case b2 => simp
    case b3 =>
      intro v1 w1 hown hg
      have O1 := Lib.hid hown
      have B1 := Lib.hid (hg.bel (Bel.new w _) (own_made w w (Bel.refl w)).lo)
      clear hown hg
      go_wp2
      go_ret
      exact ⟨_, rfl, by simpa using O1.out, B1.out⟩

set_option maxRecDepth 100000 in
theorem run_zeros (n : Nat) (h0 : 0 < n) (hn : n ≤ 1000000) (ty : TypeId) (w : World) : ∃ c cur, (Builtin.append_ #[34, 3] ty #[.slice none 0 0, .int .i64 n]).run Try.prog w = .ok (.slice (some ⟨w.heap.size, 0, none⟩) n c) (w.drew.alloc (.cells cur 23)) ∧ n ≤ c ∧ c ≤ maxLen ∧ cur.size = c * 8 := by
  obtain ⟨i, hi, hz, h8, h64⟩ := info_parts info_rep0
  have e1 := IntWalk.i64_in (n : Int) (by omega)
  have e2 : ¬ ((n : Int) < 0) := by omega
  have e3 : ¬ (281474976710656 < (n : Int) * 64) := by omega
  have e4 : ¬ (n = 0) := by omega
  have e5 : ¬ (9223372036854775807 < (n : Int)) := by omega
  have e6 : ¬ (281474976710656 < Builtin.nextslicecap n 0 * 64) := by rw [nextslicecap_zero h0]; omega
  refine ⟨grownCap w n 0 23, Builtin.zeroCells (Value.cells (.agg #[.int .i64 0, .int .i64 0, .int .i64 0, .int .i64 0, .int .i64 0, .int .i64 0, .int .i64 0, .bool false])) n ++ Builtin.zeroCells (Value.cells (.agg #[.int .i64 0, .int .i64 0, .int .i64 0, .int .i64 0, .int .i64 0, .int .i64 0, .int .i64 0, .bool false])) (grownCap w n 0 23 - n), ?_, grownCap_ge w n 0 23, grownCap_le_maxLen w n 0 23 (by unfold maxLen; omega), ?_⟩
  · simp [Builtin.append_, run_underlying Try.underlying34, run_underlying Try.underlying3, sizeOf, typeInfo, zeroValue, hi, hz, h8, h64, Builtin.lenOf, Builtin.firstCells, Question.forced, newRow, grownCap, asInt, asIntOf, e1, e2, e3, e4, e5, e6]
    intro h
    omega
  · rw [Array.size_append, size_zeroCells, size_zeroCells]
    have := grownCap_ge w n 0 23
    simp [Value.cells]
    omega

theorem wpList_zeros {w : World} {ops : Array Oper} {rest : List Oper} {o : Oper} {a : Act} {Q : Exit → Act → World → Prop} (hgd : o.guard = none) (s x : Operand)
    (ho : o.op = .call { callee := .builtin .append, args := #[s, x], argTypes := #[34, 3] })
    {n : Nat} (hs : a.eval s = .slice none 0 0) (hx : a.eval x = .int .i64 n) (h0 : 0 < n) (hn : n ≤ 1000000)
    (h : ∀ c cur, n ≤ c → c ≤ maxLen → cur.size = c * 8 → wpList Try.prog ops Q rest (a.put o.dst (.slice (some ⟨w.heap.size, 0, none⟩) n c)) (w.drew.alloc (.cells cur 23))) : wpList Try.prog ops Q (o :: rest) a w :=
  wpList_plain hgd fun K hK => by
    obtain ⟨c, cur, hr, h1, h2, h3⟩ := run_zeros n h0 hn o.type w
    unfold Oper.wp execOp
    simp only [ho, resolve, invoke, builtin, Sem.run_bind, Sem.run_pure, Result.andThen_ok, List.map_toArray, List.map_cons, List.map_nil, hs, hx, hr]
    exact hK _ _ (h c cur h1 h2 h3)

set_option maxRecDepth 100000 in
theorem grow0_f (w : World) :
    Calls Try.prog 52 #[.slice none 0 0, .int .i64 0] w (RetP w fun x W => Own w W x []) := by
  go_enter Try.func52, Try.ntmps52
  go_wp2
  go_ret
  exact ⟨_, rfl, Own.nil _ _, Bel.refl _⟩
set_option maxRecDepth 100000 in
theorem grow1_f (n : Nat) (h0 : 0 < n) (hn : n ≤ 1000000) (w : World) :
    Calls Try.prog 52 #[.slice none 0 0, .int .i64 n] w (RetP w fun x W => Own w W x []) := by
  have h1 : 0 < (n : Int) := by omega
  have h2 : (n : Int) ≤ 1000000 := by omega
  go_enter Try.func52, Try.ntmps52
  go_wp2_with (at_builtin; refine wpList_zeros (n := n) rfl _ _ rfl rfl rfl h0 hn ?b1)
  case b1 =>
    intro c cur hc hm hs
    have H := Lib.hid (World.ownsRow_made (base := w.heap.size) (e := 23) (size := 8) w.drew cur c (Nat.le_refl _) hm hs)
    clear hm hs
    go_wp2
    go_ret
    exact ⟨_, rfl, H.out, (Bel.refl w).drew.alloc _⟩
theorem grow_f (z : Int) (h0 : 0 ≤ z) (hn : z ≤ 1000000) (w : World) :
    Calls Try.prog 52 #[.slice none 0 0, .int .i64 z] w (RetP w fun x W => Own w W x []) := by
  obtain ⟨n, rfl⟩ : ∃ n : Nat, z = n := ⟨z.toNat, by omega⟩
  by_cases h : n = 0
  · subst h
    exact grow0_f w
  · exact grow1_f n (by omega) (by omega) w

set_option maxRecDepth 100000 in
theorem concat_f (a b : List Rep) (v u : Value) (g : Nat) (w : World) (h0 : w.cell? ⟨g, 0, none⟩ = some v) (h1 : w.cell? ⟨g, 1, none⟩ = some u) (hg : g < w.heap.size) (hv : IsL w v a) (hu : IsL w u b) (hb : a.length + b.length ≤ 1000000) :
    Calls Try.prog 40 #[.slice (some ⟨g, 0, none⟩) 2 2] w (RetP w fun x W => Own w W x (a ++ b)) := by
  obtain ⟨p, c, rfl⟩ := hv.shape
  obtain ⟨q, d, rfl⟩ := hu.shape
  have HV := Lib.hid hv
  have HU := Lib.hid hu
  have ha1 : (a.length : Int) ≤ 1000000 := by omega
  have hb1 : (b.length : Int) ≤ 1000000 := by omega
  have hab : (a.length : Int) + b.length ≤ 1000000 := by omega
  clear hv hu
  go_enter Try.func40, Try.ntmps40
  go_wp2
  refine wp_loop_rounds 3 ?_
  rw [rounds_succ]
  go_wp2
  rw [rounds_succ]
  go_wp2
  rw [rounds_succ]
  go_wp2_with (go_at_call 52; refine (grow_f _ (by omega) hab _).mono ?_; rintro e w1 ⟨x, rfl, hown, hbel⟩; obtain ⟨p0, c0, rfl⟩ := hown.isl.shape; have O0 := Lib.hid hown; have B0 := Lib.hid hbel; have k0 := (hbel.cell hg).trans h0; have k1 := (hbel.cell hg).trans h1; clear hown hbel h0 h1)
  refine wp_loop_rounds 3 ?_
  rw [rounds_succ]
  go_wp2_with (at_builtin; refine wpList_reps (w0 := w) (v := .slice p0 0 c0) (l := []) (m := a) rfl _ _ rfl rfl rfl O0.out (HV.out.bel B0.out) ?b1 ?b2 ?b3)
  case b1 => simp; omega
  case b2 => exact B0.out.size
  case b3 =>
    intro v2 w2 hown hgr
    obtain ⟨p1, c1, rfl⟩ := hown.isl.shape
    have O1 := Lib.hid hown
    have hb1 := hgr.bel B0.out O0.out.lo
    have j0 := (hb1.cell hg).trans ((B0.out.cell hg).symm.trans k0)
    have j1 := (hb1.cell hg).trans ((B0.out.cell hg).symm.trans k1)
    have B1 := Lib.hid hb1
    clear hown hgr hb1 k0 k1
    go_wp2
    rw [rounds_succ]
    go_wp2_with (at_builtin; refine wpList_reps (w0 := w) (v := .slice p1 a.length c1) (l := a) (m := b) rfl _ _ rfl rfl rfl O1.out (HU.out.bel B1.out) ?b4 ?b5 ?b6)
    case b4 => omega
    case b5 => exact B1.out.size
    case b6 =>
      intro v3 w3 hown hgr
      have O2 := Lib.hid hown
      have B2 := Lib.hid (hgr.bel B1.out O1.out.lo)
      clear hown hgr
      go_wp2
      rw [rounds_succ]
      go_wp2
      go_ret
      exact ⟨_, rfl, O2.out, B2.out⟩
end Go.Proofs.Ytdjgpbanokdnhaa.Pt
