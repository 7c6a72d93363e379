/-
  Rows of numbers of the call's own.
-/
import Derived.Test.YtdjgpbanokdnhaaPtE
import Derived.Test.YtdjgpbanokdnhaaPtI
namespace Go.Proofs.Ytdjgpbanokdnhaa.Pt
open Go.RowKit

def nums (l : List Int) : List Value := l.map (Value.int .i64)
def OwnI (w0 w : World) (v : Value) (l : List Int) : Prop := w.ownsRow w0.heap.size 3 1 v l.length (nums l)
theorem OwnI.nil (w0 w : World) : OwnI w0 w (.slice none 0 0) [] := World.ownsRow_nil w _ _ _
theorem OwnI.lo {w0 w : World} {v : Value} {l : List Int} (h : OwnI w0 w v l) (k : Nat) (hk : v.ownBlock = some k) : w0.heap.size ≤ k := (h.lt k hk).1
theorem nums_at (l : List Int) (i : Nat) (h : i < l.length) : (nums l)[i]? = some (.int .i64 l[i]!) := by
  rw [nums, List.getElem?_map, List.getElem?_eq_getElem h, getElem!_pos l i h]
  rfl
theorem OwnI.isi {w0 w : World} {v : Value} {l : List Int} (h : OwnI w0 w v l) : IsI w v l := by
  obtain ⟨h1, h2⟩ := h
  rcases h2 with ⟨rfl, h0⟩ | ⟨g, cap, cur, rfl, hb, hg, hc, hm, hs, ht⟩
  · have : l = [] := List.eq_nil_of_length_eq_zero h0
    subst this
    exact ⟨none, 0, rfl, by simp, by simp, .inl rfl, fun _ => rfl⟩
  · refine ⟨_, cap, rfl, hc, hm, .inr ⟨g, 0, rfl, (Array.getElem?_eq_some_iff.1 hg).1, fun i hi => ?_⟩, fun h => by cases h⟩
    rw [blkAt hg, Nat.zero_add, take_at ht (by omega)]
    exact nums_at l i hi
theorem OwnI.bel {w0 w w' : World} {v : Value} {l : List Int} (h : OwnI w0 w v l) (hb : Bel w w') : OwnI w0 w' v l := by
  obtain ⟨h1, h2⟩ := h
  refine ⟨h1, h2.imp id ?_⟩
  rintro ⟨g, cap, cur, e, hb', hg, hr⟩
  exact ⟨g, cap, cur, e, hb', (hb.b.block g (Array.getElem?_eq_some_iff.1 hg).1).trans hg, hr⟩
theorem ownI_base {w0 w1 w : World} {v : Value} {l : List Int} (h : OwnI w1 w v l) (hb : w0.heap.size ≤ w1.heap.size) : OwnI w0 w v l := by
  obtain ⟨h1, h2⟩ := h
  refine ⟨h1, h2.imp id ?_⟩
  rintro ⟨g, cap, cur, e, hl, hr⟩
  exact ⟨g, cap, cur, e, Nat.le_trans hb hl, hr⟩
theorem OwnI.keep {w0 w w' : World} {v : Value} {l : List Int} (h : OwnI w0 w v l) (hk : ∀ g, v.ownBlock = some g → w'.heap[g]? = w.heap[g]?) : OwnI w0 w' v l := by
  obtain ⟨h1, h2⟩ := h
  refine ⟨h1, h2.imp id ?_⟩
  rintro ⟨g, cap, cur, e, hb', hg, hr⟩
  exact ⟨g, cap, cur, e, hb', (hk g (by rw [e]; rfl)).trans hg, hr⟩
theorem IsI.shape {w : World} {v : Value} {l : List Int} (h : IsI w v l) : ∃ p c, v = .slice p l.length c := by
  obtain ⟨p, c, e, _⟩ := h
  exact ⟨p, c, e⟩
theorem info_int0 : (Try.prog.info? 3).map (fun i => (i.zero, i.size, i.bytes)) = some (some (.int .i64 0), 1, 8) := by kernel_rfl
/-- append(v, z) on a row of numbers of the call's own. -/
theorem wpList_num {w0 w : World} {ops : Array Oper} {rest : List Oper} {o : Oper} {a : Act} {Q : Exit → Act → World → Prop} (hgd : o.guard = none) (s x : Operand)
    (ho : o.op = .call { callee := .builtin .append, args := #[s, x], argTypes := #[41, 41] })
    {v : Value} {l : List Int} {z : Int} {A : Nat} (hs : a.eval s = v) (hx : a.eval x = .slice (some ⟨A, 0, none⟩) 1 1) (hown : OwnI w0 w v l) (hsrc : w.cell? ⟨A, 0, none⟩ = some (.int .i64 z)) (hb : l.length ≤ 2000000000000) (h0 : w0.heap.size ≤ w.heap.size)
    (h : ∀ v' w', OwnI w0 w' v' (l ++ [z]) → Grown w w' v v' → wpList Try.prog ops Q rest (a.put o.dst v') w') : wpList Try.prog ops Q (o :: rest) a w := by
  obtain ⟨i, hi, hz, h8, h64⟩ := info_parts info_int0
  refine wpList_app hgd s x _ ho w0.heap.size _ i _ 1 8 Try.underlying41 hi hz h8 h64 rfl (by decide) v l.length (nums l) hs hown ⟨A, 0, none⟩ 1 1 [.int .i64 z] hx rfl (fun j u hu => ?_) (fun u hu => by simp at hu; subst hu; rfl) (by unfold maxLen; omega) (by omega) h0 fun v' w' h1 h2 => h v' w' ?_ h2
  · have hj : j < 1 := (List.getElem?_eq_some_iff.1 hu).1
    obtain rfl : j = 0 := by omega
    simp at hu
    subst hu
    rw [Addr.add_lit]
    exact hsrc
  · unfold OwnI
    rw [nums, List.map_append, List.length_append]
    exact h1
end Go.Proofs.Ytdjgpbanokdnhaa.Pt
