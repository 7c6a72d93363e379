/-
  What the reading of an argument says of its value: an exchange.
-/
import Derived.Test.YtdjgpbanokdnhaaPtOp
namespace Go.Proofs.Ytdjgpbanokdnhaa.Pt
open Go.ChangeShapes Go.WideShapes
section
variable {H : Type} {enc : TypeId × Value → H} {w : World} {base : Nat} {spare : Nat → Bool} {held : Bool}
theorem excU : Try.prog.underlying 25 = some (.struct (Try.prog.fieldsOf 25)) := by kernel_rfl
theorem excC : Try.prog.cellsOf 25 = 5 := by kernel_rfl
set_option maxRecDepth 100000 in
theorem open_exch {r : Reach} {b0 : Nat} {v : Value} {d : DataW H} {p : List MemPlace} (hv : Value.okWide Try.prog w r b0 25 v) (h : DataW.Trod enc Try.prog w base spare held 25 v d p) :
    ∃ a b c d e : Int, v = .agg #[.int .i64 a, .int .i64 b, .int .i64 c, .int .i64 d, .int .i64 e] ∧ (Lit.int .i64 a).wf = true ∧ (Lit.int .i64 b).wf = true ∧ (Lit.int .i64 c).wf = true ∧ (Lit.int .i64 d).wf = true ∧ (Lit.int .i64 e).wf = true := by
  obtain ⟨cs, rfl, _⟩ := okWide_struct excU hv
  obtain ⟨fuel, hf⟩ := h
  obtain ⟨xs, n, _, _, hl, hlen, hx⟩ := DataW.trod_struct excU hf
  obtain ⟨c0, c1, c2, c3, c4, hcs⟩ := cells5 (hl.trans excC)
  rw [hcs] at hx
  obtain ⟨m0, e0, w0⟩ := int_at (i := 0) (t := 3) hx hlen (by kernel_rfl) intU intC
  obtain ⟨m1, e1, w1⟩ := int_at (i := 1) (t := 3) hx hlen (by kernel_rfl) intU intC
  obtain ⟨m2, e2, w2⟩ := int_at (i := 2) (t := 3) hx hlen (by kernel_rfl) intU intC
  obtain ⟨m3, e3, w3⟩ := int_at (i := 3) (t := 3) hx hlen (by kernel_rfl) intU intC
  obtain ⟨m4, e4, w4⟩ := int_at (i := 4) (t := 3) hx hlen (by kernel_rfl) intU intC
  simp at e0 e1 e2 e3 e4
  subst e0 e1 e2 e3 e4
  refine ⟨m0, m1, m2, m3, m4, ?_, w0, w1, w2, w3, w4⟩
  have : cs = [Value.int .i64 m0, .int .i64 m1, .int .i64 m2, .int .i64 m3, .int .i64 m4].toArray := by rw [← hcs]; simp [Value.cells]
  rw [this]
end
end Go.Proofs.Ytdjgpbanokdnhaa.Pt
