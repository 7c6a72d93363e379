/-
  report.Union and report.Set.
-/
import Derived.Test.YtdjgpbanokdnhaaPtJ
import Derived.Test.YtdjgpbanokdnhaaPtS
import Derived.Test.YtdjgpbanokdnhaaPtM
namespace Go.Proofs.Ytdjgpbanokdnhaa.Pt
open Go.RowKit

set_option maxRecDepth 100000 in
theorem union_f (a b : List Rep) (v u : Value) (w : World) (hv : IsL w v a) (hu : IsL w u b) (hb : a.length + b.length ≤ 1000000) :
    Calls Try.prog 22 #[v, u] w (RetP w fun x W => Own w W x (setL (a ++ b))) := by
  obtain ⟨p, c, rfl⟩ := hv.shape
  obtain ⟨q, d, rfl⟩ := hu.shape
  have HC : Hid (∀ W g, Bel w W → W.cell? ⟨g, 0, none⟩ = some (.slice p a.length c) → W.cell? ⟨g, 1, none⟩ = some (.slice q b.length d) → g < W.heap.size → Calls Try.prog 40 #[.slice (some ⟨g, 0, none⟩) 2 2] W (RetP W fun x W' => Own W W' x (a ++ b))) :=
    Lib.hid fun W g hbl h0 h1 hg => concat_f a b _ _ g W h0 h1 hg (hv.bel hbl) (hu.bel hbl) hb
  have hab : (a ++ b).length ≤ 1000000 := by rw [List.length_append]; exact hb
  clear hv hu
  go_enter Try.func22, Try.ntmps22
  go_wp2_with (first
    | (go_at_call 40; refine (HC.out _ w.heap.size (Bel.new _ _) (by simp [go_sem]) (by simp [go_sem]) (by simp)).mono ?_; rintro e w1 ⟨x, rfl, hown, hbel⟩; have hb1 := (Bel.new w _).trans hbel; have ho1 : Own w w1 x (a ++ b) := own_base hown (by simp); have O1 := Lib.hid ho1; have B1 := Lib.hid hb1; clear hown hbel hb1 ho1)
    | (go_at_call 41; refine (sort_f w _ _ _ O1.out B1.out hab).mono ?_; rintro e w2 ⟨rfl, hown, hbel, _, _⟩; have O2 := Lib.hid hown; have B2 := Lib.hid hbel; clear hown hbel)
    | (go_at_call 42; refine (compact_f w _ _ _ O2.out B2.out (by rw [srt_len]; exact hab)).mono ?_; rintro e w3 ⟨r, rfl, hown, hbel⟩; have O3 := Lib.hid hown; have B3 := Lib.hid hbel; clear hown hbel))
  go_ret
  exact ⟨_, rfl, O3.out, B3.out⟩
theorem set_f (a : List Rep) (v : Value) (w : World) (hv : IsL w v a) (hb : a.length ≤ 1000000) :
    Calls Try.prog 20 #[v] w (RetP w fun x W => Own w W x (setL a)) := by
  have HU : Hid (∀ W, Bel w W → Calls Try.prog 22 #[v, .slice none 0 0] W (RetP W fun x W' => Own W W' x (setL (a ++ [])))) :=
    Lib.hid fun W hbl => union_f a [] v _ W (hv.bel hbl) ⟨none, 0, rfl, by simp, by simp, .inl rfl, fun _ => rfl⟩ (by simpa using hb)
  rw [List.append_nil] at HU
  obtain ⟨p, c, rfl⟩ := hv.shape
  clear hv
  go_enter Try.func20, Try.ntmps20
  go_wp2_with (go_at_call 22; refine (HU.out _ (Bel.refl _)).mono ?_; rintro e w1 ⟨x, rfl, hown, hbel⟩; have O1 := Lib.hid hown; have B1 := Lib.hid hbel; clear hown hbel)
  go_ret
  exact ⟨_, rfl, O1.out, B1.out⟩
end Go.Proofs.Ytdjgpbanokdnhaa.Pt
