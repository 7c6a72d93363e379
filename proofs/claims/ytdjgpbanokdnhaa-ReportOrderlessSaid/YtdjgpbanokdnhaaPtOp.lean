/-
  What the reading of an argument says of its value: a report, an exchange, a slice of reports.
-/
import Derived.Test.YtdjgpbanokdnhaaPtC
import Derived.OpenShut
import Derived.ShutString
import Derived.ChangeOld
import Derived.Lib.SmallJoins
import Derived.Deep.Slices
namespace Go.Proofs.Ytdjgpbanokdnhaa.Pt
open Go.ChangeShapes Go.WideShapes

theorem cells5 {α : Type} {l : List α} (h : l.length = 5) : ∃ a b c d e, l = [a, b, c, d, e] := by
  match l, h with
  | [a, b, c, d, e], _ => exact ⟨a, b, c, d, e, rfl⟩
theorem cells8 {α : Type} {l : List α} (h : l.length = 8) : ∃ a b c d e f g k, l = [a, b, c, d, e, f, g, k] := by
  match l, h with
  | [a, b, c, d, e, f, g, k], _ => exact ⟨a, b, c, d, e, f, g, k, rfl⟩

section
variable {H : Type} {enc : TypeId × Value → H} {w : World} {base : Nat} {spare : Nat → Bool} {held : Bool} {P : Program}
theorem int_at {k : IntKind} {n : Nat} {fs : Array Field} {cs : List Value} {xs : List (DataW H × List MemPlace)} {i t : Nat} (hx : ∀ (i : Nat) (f : Field), fs[i]? = some f → DataW.trod enc P w base spare held n f.type ((cs.drop f.offset).take (P.cellsOf f.type)) = xs[i]?)
    (hlen : xs.length = fs.size) (hf : fs[i]?.map (fun f => (f.offset, f.type)) = some (i, t)) (ht : P.underlying t = some (.int k)) (hc : P.cellsOf t = 1) : ∃ m, (cs.drop i).take 1 = [.int k m] ∧ (Lit.int k m).wf = true := by
  obtain ⟨f, h1, h2⟩ := Option.map_eq_some_iff.1 hf
  simp only [Prod.mk.injEq] at h2
  have h3 := hx i f h1
  have hi : i < xs.length := by rw [hlen]; exact (Array.getElem?_eq_some_iff.1 h1).1
  rw [h2.1, h2.2, hc, List.getElem?_eq_getElem hi] at h3
  obtain ⟨m, e, _, wm⟩ := DataW.trod_int ht h3
  exact ⟨m, e, wm⟩
theorem bool_at {n : Nat} {fs : Array Field} {cs : List Value} {xs : List (DataW H × List MemPlace)} {i t : Nat} (hx : ∀ (i : Nat) (f : Field), fs[i]? = some f → DataW.trod enc P w base spare held n f.type ((cs.drop f.offset).take (P.cellsOf f.type)) = xs[i]?)
    (hlen : xs.length = fs.size) (hf : fs[i]?.map (fun f => (f.offset, f.type)) = some (i, t)) (ht : P.underlying t = some .bool) (hc : P.cellsOf t = 1) : ∃ b, (cs.drop i).take 1 = [.bool b] := by
  obtain ⟨f, h1, h2⟩ := Option.map_eq_some_iff.1 hf
  simp only [Prod.mk.injEq] at h2
  have h3 := hx i f h1
  have hi : i < xs.length := by rw [hlen]; exact (Array.getElem?_eq_some_iff.1 h1).1
  rw [h2.1, h2.2, hc, List.getElem?_eq_getElem hi] at h3
  obtain ⟨b, e, _⟩ := DataW.trod_bool ht h3
  exact ⟨b, e⟩
end

section
variable {H : Type} {enc : TypeId × Value → H} {w : World} {base : Nat} {spare : Nat → Bool} {held : Bool}
theorem intU : Try.prog.underlying 3 = some (.int .i64) := by kernel_rfl
theorem boolU : Try.prog.underlying 4 = some .bool := by kernel_rfl
theorem intC : Try.prog.cellsOf 3 = 1 := by kernel_rfl
theorem boolC : Try.prog.cellsOf 4 = 1 := by kernel_rfl
theorem repU : Try.prog.underlying 23 = some (.struct (Try.prog.fieldsOf 23)) := by kernel_rfl
theorem repC : Try.prog.cellsOf 23 = 8 := by kernel_rfl
theorem repsU : Try.prog.underlying 34 = some (.slice 23) := by kernel_rfl

set_option maxRecDepth 100000 in
theorem rep_of_trod {fuel : Nat} {cs : List Value} {x : DataW H × List MemPlace} (h : DataW.trod enc Try.prog w base spare held fuel 23 cs = some x) : ∃ r : Rep, cs = encR r := by
  obtain ⟨xs, n, _, _, hl, hlen, hx⟩ := DataW.trod_struct repU h
  obtain ⟨c0, c1, c2, c3, c4, c5, c6, c7, rfl⟩ := cells8 (hl.trans repC)
  obtain ⟨m0, e0, _⟩ := int_at (i := 0) (t := 3) hx hlen (by kernel_rfl) intU intC
  obtain ⟨m1, e1, _⟩ := int_at (i := 1) (t := 3) hx hlen (by kernel_rfl) intU intC
  obtain ⟨m2, e2, _⟩ := int_at (i := 2) (t := 3) hx hlen (by kernel_rfl) intU intC
  obtain ⟨m3, e3, _⟩ := int_at (i := 3) (t := 3) hx hlen (by kernel_rfl) intU intC
  obtain ⟨m4, e4, _⟩ := int_at (i := 4) (t := 3) hx hlen (by kernel_rfl) intU intC
  obtain ⟨m5, e5, _⟩ := int_at (i := 5) (t := 3) hx hlen (by kernel_rfl) intU intC
  obtain ⟨m6, e6, _⟩ := int_at (i := 6) (t := 3) hx hlen (by kernel_rfl) intU intC
  obtain ⟨b7, e7⟩ := bool_at (i := 7) (t := 4) hx hlen (by kernel_rfl) boolU boolC
  simp at e0 e1 e2 e3 e4 e5 e6 e7
  subst e0 e1 e2 e3 e4 e5 e6 e7
  exact ⟨(m0, m1, m2, m3, m4, m5, m6, b7), rfl⟩

set_option maxRecDepth 100000 in
theorem open_rep {r : Reach} {b0 : Nat} {v : Value} {d : DataW H} {p : List MemPlace} (hv : Value.okWide Try.prog w r b0 23 v) (h : DataW.Trod enc Try.prog w base spare held 23 v d p) : ∃ x : Rep, v = agR x := by
  obtain ⟨cs, rfl, _⟩ := okWide_struct repU hv
  obtain ⟨fuel, hf⟩ := h
  obtain ⟨x, e⟩ := rep_of_trod hf
  refine ⟨x, ?_⟩
  have : cs = (encR x).toArray := by rw [← e]; simp [Value.cells]
  rw [this]
  rfl

set_option maxRecDepth 100000 in
theorem open_reps {r : Reach} {b0 : Nat} {v : Value} {d : DataW H} {p : List MemPlace} (hv : Value.okWide Try.prog w r b0 34 v) (h : DataW.Trod enc Try.prog w base spare held 34 v d p) : ∃ l : List Rep, IsL w v l := by
  obtain ⟨pa, len0, cap0, rfl⟩ := okWide_slice repsU hv
  obtain ⟨fuel, hf⟩ := h
  rcases Deep.open_slice repsU hf with ⟨h1, _⟩ | ⟨a, len, cap, m, n, D, Pl, h1, h2, h3, h4, h5, _, h6⟩
  · simp [Value.cells] at h1
    obtain ⟨rfl, rfl, rfl⟩ := h1
    exact ⟨[], none, 0, rfl, Nat.le_refl _, Nat.zero_le _, .inl rfl, fun _ => rfl⟩
  · simp [Value.cells] at h1
    obtain ⟨rfl, rfl, rfl⟩ := h1
    have hlm : len0 ≤ m := by rw [h5]; split <;> omega
    obtain ⟨f, hf⟩ := Deep.choose_lt (α := Rep) (n := len0) (p := fun i x => ∀ c, c < 8 → w.cell? ((a.add (i * 8)).add c) = some (encR x)[c]!) (fun i hi => by
      obtain ⟨cs, g1, g2⟩ := h6 i (by omega)
      rw [repC] at g1
      obtain ⟨x, rfl⟩ := rep_of_trod g2
      obtain ⟨_, _, g3⟩ := World.cells?_some g1
      exact ⟨x, fun c hc => by rw [g3 c hc, List.getElem?_eq_getElem (by rw [encR_len]; exact hc), getElem!_pos (encR x) c (by rw [encR_len]; exact hc)]⟩)
    refine ⟨(List.range len0).map f, some a, cap0, by simp, by simpa using h3, h4, ?_, fun h => by cases h⟩
    by_cases hz : len0 = 0
    · left; subst hz; rfl
    right
    obtain ⟨g, o, s⟩ := a
    have h0 := hf 0 (by omega) 0 (by omega)
    have hs : s = none := by
      cases s with
      | none => rfl
      | some q => simp [World.cell?, Addr.add] at h0; split at h0 <;> simp_all
    subst hs
    refine ⟨g, o, rfl, ?_, ?_⟩
    · unfold World.cell? at h0
      split at h0
      · rename_i e
        have := (Array.getElem?_eq_some_iff.1 e).1
        simp only [Addr.add] at this
        simpa using this
      · cases h0
    · intro i hi c hc
      simp only [List.length_map, List.length_range] at hi
      have := hf i hi c hc
      rw [getElem!_pos ((List.range len0).map f) i (by simpa using hi), List.getElem_map, List.getElem_range]
      have e : ((⟨g, o, none⟩ : Addr).add (i * 8)).add c = ⟨g, o + i * 8 + c, none⟩ := by
        simp only [Addr.add]
        split <;> split <;> simp_all
      rw [e] at this
      exact this
end
end Go.Proofs.Ytdjgpbanokdnhaa.Pt
