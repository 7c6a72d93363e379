import Derived.Test.YtahehlajpaoiiaaGreatDoorRows
import Derived.Test.YtahehlajpaoiiaaGreatDoorGRCB
import Derived.ProofKit
import Derived.OpenShut
import Derived.ShutString
import Derived.ChangeOld
import Derived.Lib.SmallJoins
import Derived.Lib.LaidTab
import Derived.LaidMore
import Derived.Stop.Joined
import Derived.Stop.LaidErr

namespace Go.Proofs.YtahehlajpaoiiaaGreatDoor
open Go.ChangeShapes Go.WideShapes Go.ChangeAt Go.RowKit Go.Joins

theorem rCellsInt : Tryz.prog.cellsOf 23 = 2 := by kernel_rfl
theorem rCellsBool : Tryz.prog.cellsOf 4 = 1 := by kernel_rfl
theorem rCellsStr : Tryz.prog.cellsOf 9 = 1 := by kernel_rfl
section
variable {H : Type} {enc : TypeId × Value → H} {W : World} {base : Nat} {sp : Nat → Bool} {held : Bool}
end

theorem rTab : Tryz.prog.globalNamed "math/bits.deBruijn64tab" = some 1 := by kernel_rfl
theorem rTabType : (Tryz.prog.globals[1]?).map (·.type) = some 163 := by kernel_rfl
theorem rCellsTab : Tryz.prog.cellsOf 163 = 64 := by kernel_rfl
theorem rCellsByte : Tryz.prog.cellsOf 5 = 1 := by kernel_rfl
theorem rTen : Tryz.prog.globalNamed "internal/strconv.uint64pow10" = some 4 := by kernel_rfl
theorem rTenType : (Tryz.prog.globals[4]?).map (·.type) = some 183 := by kernel_rfl
theorem rCellsTen : Tryz.prog.cellsOf 183 = 20 := by kernel_rfl
theorem rCellsWord : Tryz.prog.cellsOf 106 = 1 := by kernel_rfl
theorem rOne : Tryz.prog.globalNamed "viator/rational.one" = some 0 := by kernel_rfl
theorem rOneType : (Tryz.prog.globals[0]?).map (·.type) = some 23 := by kernel_rfl

set_option maxRecDepth 100000 in
theorem one_of_laid {W : World} (h : laidMet Tryz.prog [("viator/rational.one", .agg [.lit (.bool false), .lit (.string [1])])] W) : W.cell? ⟨0, 0, none⟩ = some (.bool false) ∧ W.cell? ⟨0, 1, none⟩ = some (.string ⟨#[1]⟩) := by
  obtain ⟨ps, ⟨g', t', cs, fuel, p, q, hg', ht', hvar, hd, _, _⟩, _⟩ := h
  obtain rfl := Option.some.inj (rOne.symm.trans hg')
  obtain rfl := Option.some.inj (rOneType.symm.trans ht')
  have c0 := World.var?_cell rOne hvar 0
  have c1 := World.var?_cell rOne hvar 1
  obtain ⟨y0, y1, m, hx, hl, h0, h1⟩ := trod_struct2 Tryz.underlying23 hd
  obtain ⟨v0, v1, rfl⟩ := array2 (by rw [rCellsInt] at hl; simpa using hl)
  simp [rCellsBool, rCellsStr] at h0 h1
  obtain ⟨b, e0, x0⟩ := DataW.trod_bool Tryz.underlying4 h0
  obtain ⟨s, e1, x1, _⟩ := DataW.trod_string Tryz.underlying9 h1
  simp at e0 e1
  rw [x0, x1] at hx
  simp at hx
  obtain ⟨⟨rfl, hs⟩, _⟩ := hx
  have hs' : s = ⟨#[1]⟩ := by
    apply ByteArray.ext
    apply Array.toList_inj.1
    exact hs.symm
  rw [c0, c1, e0, e1, hs']
  exact ⟨rfl, rfl⟩

set_option maxRecDepth 100000 in
theorem env_of_laid {W : World} (h : laidMet Tryz.prog [("math/bits.deBruijn32tab", Rows.laid_math_bits_deBruijn32tab), ("math/bits.deBruijn64tab", Lib.tabData .u8 (Lib.deBruijn64tab.map Int.ofNat)), ("internal/strconv.uint64pow10", Lib.tabData .u64 Lib.pow10Tab), ("viator/rational.one", .agg [.lit (.bool false), .lit (.string [1])])] W) : Env W := by
  have h1 := laidMet.tail h
  have h2 := laidMet.tail h1
  obtain ⟨o0, o1⟩ := one_of_laid (laidMet.tail h2)
  have hT := Lib.tabIs_of_head rTab rTabType Tryz.underlying163 Tryz.underlying5 rCellsByte rCellsTab h1
  refine ⟨?_, Lib.tabIs_of_head rTen rTenType Tryz.underlying183 Tryz.underlying106 rCellsWord rCellsTen h2, ?_, o0, o1⟩
  · intro j hj
    have := hT.cell rTab j (by simpa using hj)
    rw [this]
    congr 2
    rw [List.getD_eq_getElem?_getD, List.getD_eq_getElem?_getD, List.getElem?_map]
    rw [List.getElem?_eq_getElem hj]
    rfl
  · rcases Nat.lt_or_ge 0 W.heap.size with h | h
    · exact h
    · exfalso
      have : W.heap[0]? = none := Array.getElem?_eq_none h
      simp [World.cell?, this] at o0
end Go.Proofs.YtahehlajpaoiiaaGreatDoor


namespace Go.Proofs.YtahehlajpaoiiaaGreatDoor
open Go.ChangeShapes Go.WideShapes Go.ChangeAt Go.RowKit Go.Joins

theorem rCellsI16 : Tryz.prog.cellsOf 52 = 1 := by kernel_rfl
theorem rCellsI16x4 : Tryz.prog.cellsOf 53 = 4 := by kernel_rfl
section
variable {H : Type} {enc : TypeId × Value → H} {W : World} {base : Nat} {sp : Nat → Bool} {held : Bool}
set_option maxRecDepth 100000 in
theorem open_i16x4 {r : Reach} {b0 : Nat} {v : Value} {d : DataW H} {p : List MemPlace} (hv : Value.okWide Tryz.prog W r b0 53 v) (h : DataW.Trod enc Tryz.prog W base sp held 53 v d p) :
    ∃ (x0 x1 x2 x3 : Int), v = .agg #[.int .i16 x0, .int .i16 x1, .int .i16 x2, .int .i16 x3] ∧ (-32768 ≤ x0 ∧ x0 ≤ 32767) ∧ (-32768 ≤ x1 ∧ x1 ≤ 32767) ∧ (-32768 ≤ x2 ∧ x2 ≤ 32767) ∧ (-32768 ≤ x3 ∧ x3 ≤ 32767) := by
  have hu := Tryz.underlying53
  simp only [Value.okWide, hu] at hv
  obtain ⟨cs, rfl, hsz, _⟩ := hv
  obtain ⟨c0, c1, c2, c3, rfl⟩ := array4 (hsz.trans rCellsI16x4)
  obtain ⟨fuel, hf⟩ := h
  obtain ⟨xs, m, _, hx, hl, hlen, hi⟩ := DataW.trod_array hu hf
  match xs, hlen with
  | [y0, y1, y2, y3], _ =>
    have h0 := hi 0 (by omega)
    have h1 := hi 1 (by omega)
    have h2 := hi 2 (by omega)
    have h3 := hi 3 (by omega)
    simp [rCellsI16, Value.cells] at h0 h1 h2 h3
    obtain ⟨a, e0, _, w0⟩ := DataW.trod_int Tryz.underlying52 h0
    obtain ⟨b, e1, _, w1⟩ := DataW.trod_int Tryz.underlying52 h1
    obtain ⟨c, e2, _, w2⟩ := DataW.trod_int Tryz.underlying52 h2
    obtain ⟨e, e3, _, w3⟩ := DataW.trod_int Tryz.underlying52 h3
    simp at e0 e1 e2 e3
    exact ⟨a, b, c, e, by rw [e0, e1, e2, e3], bounds_i16 w0, bounds_i16 w1, bounds_i16 w2, bounds_i16 w3⟩
end
end Go.Proofs.YtahehlajpaoiiaaGreatDoor
