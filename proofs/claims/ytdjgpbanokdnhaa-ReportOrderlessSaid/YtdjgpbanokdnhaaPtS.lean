/-
  slices.SortFunc over reports by Compare.
-/
import Derived.Test.YtdjgpbanokdnhaaPtI
import Derived.Test.YtdjgpbanokdnhaaPtSh
namespace Go.Proofs.Ytdjgpbanokdnhaa.Pt
open Go.RowKit Go.Sort

theorem lays_cmp (blk off size : Nat) (w : World) : CmpLays Try.prog 17 #[] encR 8 cmpR blk off size w :=
  fun _ _ _ _ x y => (compare_f x y _).mono fun _ _ ⟨he, hb⟩ => ⟨he, hb.grown⟩
theorem flatK_eq (l : List Rep) : flatK encR 8 l.toArray = (flat l).toArray := by
  refine Array.ext (by simp [flat_len]) fun j h1 h2 => ?_
  have hj : j < l.length * 8 := by simpa using h1
  have h3 := get_flatK encR 8 l.toArray j (by simpa using hj)
  rw [getElem!_pos _ j h1] at h3
  rw [h3]
  have h4 := flat_at l (j / 8) (j % 8) (by omega) (by omega)
  rw [show j / 8 * 8 + j % 8 = j by omega] at h4
  have h5 : j < (flat l).length := by rw [flat_len]; exact hj
  rw [List.getElem?_eq_getElem h5] at h4
  injection h4 with h4
  simp [h4]
theorem holds_own {w : World} {g : Nat} {l : List Rep} {cur : Array Value} {T : TypeId} (hg : w.heap[g]? = some (.cells cur T (0, 0))) (ht : cur.toList.take (l.length * 8) = flat l) : HoldsK encR 8 w g 0 l.toArray := by
  intro j hj
  rw [flatK_eq] at hj ⊢
  have hj' : j < (flat l).length := by simpa using hj
  have h1 := take_at ht (j := j) (by rw [flat_len] at hj'; exact hj')
  refine ⟨?_, by simp [World.frozen?, hg]⟩
  rw [blkAt hg, Nat.zero_add, h1, List.getElem?_eq_getElem hj']
  simp [getElem!_pos (flat l).toArray j hj]
theorem put_at {w : World} {g : Nat} {cur : Array Value} {T : TypeId} (n : Nat) (l : List Rep) (os : Array Obj) (hg : w.heap[g]? = some (.cells cur T (0, 0))) :
    (sortWorldK encR 8 w g 0 n l.toArray os).heap[g]? = some (.cells (putCells id 0 (flat l).toArray cur) T (0, 0)) := by
  have hlt : g < w.heap.size := (Array.getElem?_eq_some_iff.1 hg).1
  unfold sortWorldK putRowK putRow
  rw [heap_grow_old _ _ (by simp [mapBlock, ahead]; exact hlt), flatK_eq]
  simp only [mapBlock, Array.getElem?_modify, if_true]
  show (w.heap[g]?).map _ = _
  rw [hg]
  rfl
theorem putCells_take (xs : List Value) (cur : Array Value) (h : xs.length ≤ cur.size) : (putCells id 0 xs.toArray cur).toList.take xs.length = xs := by
  refine List.ext_getElem? fun j => ?_
  rw [List.getElem?_take]
  split
  · rename_i hj
    simp only [putCells, Array.getElem?_toList, Array.getElem?_mapIdx]
    rw [Array.getElem?_eq_getElem (by omega)]
    simp [hj]
  · rename_i hj
    rw [List.getElem?_eq_none (by omega)]
theorem sort_bel {w0 w : World} {g : Nat} (n : Nat) (l : List Rep) (os : Array Obj) (hb : Bel w0 w) (hg : w0.heap.size ≤ g) : Bel w0 (sortWorldK encR 8 w g 0 n l.toArray os) := by
  refine ⟨⟨hb.b.os, hb.b.tape, hb.b.output, Nat.le_trans hb.size (size_sortWorldK_c encR 8 w g 0 n _ os), fun k hk => ?_⟩, Nat.le_trans hb.d (Nat.le_add_right _ _)⟩
  have hk' : k < w.heap.size := Nat.lt_of_lt_of_le hk hb.size
  unfold sortWorldK putRowK putRow
  rw [heap_grow_old _ _ (by simp [mapBlock, ahead]; exact hk')]
  simp only [mapBlock, ahead, Array.getElem?_modify]
  rw [if_neg (by omega)]
  exact hb.b.block k hk
theorem sort_oth {w : World} {g : Nat} (n : Nat) (l : List Rep) (os : Array Obj) {k : Nat} (hk : k < w.heap.size) (hkg : k ≠ g) : (sortWorldK encR 8 w g 0 n l.toArray os).heap[k]? = w.heap[k]? := by
  unfold sortWorldK putRowK putRow
  rw [heap_grow_old _ _ (by simp [mapBlock, ahead]; exact hk)]
  simp only [mapBlock, Array.getElem?_modify]
  rw [if_neg (by omega)]
  rfl

/-- A call that works on a row of its caller's own: the row holds l, all else is as it was. -/
def RetRow (w0 w : World) (v : Value) (l : List Rep) (e : Ending) (w' : World) : Prop := e = .returned (.tuple #[]) ∧ Own w0 w' v l ∧ Bel w0 w' ∧ w.heap.size ≤ w'.heap.size ∧ ∀ k, k < w.heap.size → v.ownBlock ≠ some k → w'.heap[k]? = w.heap[k]?
theorem sort_f (w0 w : World) (v : Value) (l : List Rep) (hown : Own w0 w v l) (hb : Bel w0 w) (hl : l.length ≤ 1000000) :
    Calls Try.prog 41 #[v, .func (.func 17) #[] #[]] w (RetRow w0 w v (srt l)) := by
  rcases hown.2 with ⟨rfl, h0⟩ | ⟨g, cap, cur, rfl, hbg, hg, hc, hm, hs, ht⟩
  · have hnil : l = [] := List.eq_nil_of_length_eq_zero h0
    subst hnil
    refine (AnyF.slices_SortFunc_none (P := Try.prog) { Try.sortR with } none 0 _ w).mono ?_
    rintro e w' ⟨rfl, rfl⟩
    exact ⟨rfl, by simpa [srt] using hown, hb, Nat.le_refl _, fun _ _ _ => rfl⟩
  · have eg : ∀ args w, (callFunc 17 args).run Try.prog w = .ok (.enter 17 args) w := enters_of Try.func17 (by kernel_rfl) rfl
    have hlt : g < w.heap.size := (Array.getElem?_eq_some_iff.1 hg).1
    refine (AnyQ.slices_SortFunc_total Try.sortR 8 Try.isAgg23 Try.sizeOf23 encR (fun _ => rfl) encR_one cmpR cmpR_swo 17 #[] g 0 cap l.toArray w eg (lays_cmp g 0 _ w) (holds_own hg ht) hlt (by simp; omega) cmpR_tot).mono ?_
    rintro e w' ⟨rfl, n, os, rfl⟩
    refine ⟨rfl, ⟨?_, .inr ⟨g, cap, _, ?_, hbg, put_at n _ os hg, ?_, hm, ?_, ?_⟩⟩, sort_bel n _ os hb hbg, size_sortWorldK_c encR 8 w g 0 n _ os, fun k hk hne => sort_oth n _ os hk fun e => hne (by rw [e]; rfl)⟩
    · exact flat_len _
    · rw [srt_len]
    · rw [srt_len]; exact hc
    · simp [putCells, hs]
    · have h2 : (srt l).length * 8 = (flat (srt l)).length := (flat_len _).symm
      rw [h2]
      exact putCells_take _ _ (by rw [flat_len, srt_len, hs]; omega)
end Go.Proofs.Ytdjgpbanokdnhaa.Pt
