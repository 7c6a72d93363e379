/-
  The program's room for digits, and products.
-/
import Derived.Test.YtoolljoejioigaaIntG
import Derived.Test.YtoolljoejioigaaIntF
import Derived.Shelf.Spec.BitsCarry
namespace Go.Proofs.Ytoolljoejioigaa
open Go.RowKit
attribute [local go_sem ↓] Go.wp_at_zero Go.wp_at_succ

/-- A call that hands back n zeros at the head of a block: the one of the space that was handed in, or a new one. -/
def RetRoom (w : World) (v : Value) (n : Nat) (e : Ending) (w' : World) : Prop :=
  ∃ g c T cur, e = .returned (.slice (some ⟨g, 0, none⟩) n c) ∧ n ≤ c ∧ w'.heap[g]? = some (.cells cur T (0, 0)) ∧ c ≤ cur.size ∧ (∀ i, i < n → cur[i]? = some (.int .u64 0)) ∧ w.grownBy w' v.ownBlock ∧ (v.ownBlock = some g ∨ w.heap.size ≤ g)

set_option maxHeartbeats 1000000 in
set_option maxRecDepth 100000 in
theorem room_new (v : Value) (n : Nat) (A : Option Addr) (m c : Nat) (hv : v = .slice A m c) (w : World) (hn : n ≤ 1000000000) (hc : c < n) :
    Calls Try.prog 71 #[v, .int .i64 (n : Int)] w (RetRoom w v n) := by
  subst hv
  have hmk := fun W => run_make_row' (P := Try.prog) 65 51 (.int .u64 0) 8 Try.underlying65 natInfo rfl .i64 .i64 n (by omega) (by omega) W
  go_enter Try.func71, Try.ntmps71
  go_wp2
  go_ret
  refine ⟨w.heap.size, n, 51, _, rfl, Nat.le_refl _, heap_one _ _, ?_, fun i hi => ?_, World.grownBy_alloc _ _ _, .inr (Nat.le_refl _)⟩
  · simp [madeCells]
  · simp [madeCells, hi, Nat.mod_one]

theorem zeroU64 (w : World) : (zeroValue 51).run Try.prog w = .ok (.int .u64 0) w := by kernel_rfl

theorem zeros_list (n : Nat) : (Builtin.zeroCells #[.int .u64 0] n).toList = List.replicate n (.int .u64 0) := by
  apply List.ext_getElem?
  intro i
  by_cases hi : i < n
  · simp [Builtin.zeroCells, hi, Nat.mod_one]
  · rw [List.getElem?_eq_none (by simp [Builtin.zeroCells]; omega), List.getElem?_eq_none (by simp; omega)]

theorem run_clear (n g c : Nat) (cur : Array Value) (T : TypeId) (w : World) (h0 : 0 < n) (hn : n ≤ cur.size) (hg : w.heap[g]? = some (.cells cur T (0, 0))) :
    (Builtin.clear_ #[65] 0 #[.slice (some ⟨g, 0, none⟩) n c]).run Try.prog w = .ok (.tuple #[]) (w.setRow g ((List.replicate n (Value.int .u64 0)) ++ cur.toList.drop n).toArray) := by
  have hst := run_storeCells_at Try.prog g 0 T (List.replicate n (.int .u64 0)) 0 cur w hg (by simpa using hn) (by intro v hv; rw [List.eq_of_mem_replicate hv]; rfl)
  have hu : Try.prog.underlying 65 = some (.slice 51) := Try.underlying65
  obtain ⟨m, rfl⟩ : ∃ m, n = m + 1 := ⟨n - 1, by omega⟩
  simp only [Nat.zero_add, List.take_zero, List.nil_append, List.length_replicate] at hst
  simp [Builtin.clear_, run_underlying hu, zeroU64, zeros_list, Value.cells, hst, Result.andThen]

set_option maxHeartbeats 1000000 in
set_option maxRecDepth 100000 in
theorem room_old (n g c : Nat) (cur : Array Value) (T : TypeId) (w : World) (hn : n ≤ 1000000000) (hc : n ≤ c) (hcm : c ≤ maxLen) (hg : w.heap[g]? = some (.cells cur T (0, 0))) (hcs : c ≤ cur.size) :
    Calls Try.prog 71 #[.slice (some ⟨g, 0, none⟩) 0 c, .int .i64 (n : Int)] w (RetRoom w (.slice (some ⟨g, 0, none⟩) 0 c) n) := by
  unfold maxLen at hcm
  by_cases h0 : 0 < n
  · have hrun := run_clear n g c cur T w h0 (by omega) hg
    have HG := Lib.hid hg
    clear hg
    go_enter Try.func71, Try.ntmps71
    go_wp2
    go_ret
    have hl : (((List.replicate n (Value.int .u64 0)) ++ cur.toList.drop n).toArray).size = cur.size := by simp; omega
    refine ⟨g, c, T, _, rfl, hc, setRow_heap w g cur _ T _ HG.out, by rw [hl]; exact hcs, fun i hi => ?_, ⟨rfl, rfl, rfl, by simp [World.setRow], fun k _ hk => setRow_other w g k _ (fun e => hk (by simp [Value.ownBlock, e]))⟩, .inl (by simp [Value.ownBlock])⟩
    simp [List.getElem?_append, hi]
  · obtain rfl : n = 0 := by omega
    have hrun : (Builtin.clear_ #[65] 0 #[.slice (some ⟨g, 0, none⟩) 0 c]).run Try.prog w = .ok (.tuple #[]) w := by
      have hu : Try.prog.underlying 65 = some (.slice 51) := Try.underlying65
      simp [Builtin.clear_, run_underlying hu, Result.andThen]
    have HG := Lib.hid hg
    clear hg
    go_enter Try.func71, Try.ntmps71
    go_wp2
    go_ret
    exact ⟨g, c, T, cur, rfl, hc, HG.out, hcs, fun i hi => by omega, World.grownBy.refl _ _, .inl (by simp [Value.ownBlock])⟩

theorem room_any (v : Value) (base n : Nat) (w : World) (hn : n ≤ 1000000000) (hv : Own w base v 0 []) (h0 : 0 < n ∨ v.ownBlock ≠ none) : Calls Try.prog 71 #[v, .int .i64 (n : Int)] w (RetRoom w v n) := by
  rcases hv.2 with ⟨rfl, _⟩ | ⟨g, cap, cur, T, rfl, hb, hg, _, hm, hcs, _⟩
  · exact room_new _ n none 0 0 rfl w hn (h0.resolve_right (fun h => h rfl))
  · by_cases hc : cap < n
    · exact room_new _ n _ 0 cap rfl w hn hc
    · exact room_old n g cap cur T w hn (by omega) hm hg hcs

/-- A block that holds numbers by place, n of them at least. -/
def Lies (w : World) (g : Nat) (n : Nat) (f : Nat → Nat) : Prop := ∃ cur T, w.heap[g]? = some (.cells cur T (0, 0)) ∧ n ≤ cur.size ∧ ∀ i, i < n → cur[i]? = some (.int .u64 (f i : Int))

theorem Lies.cell {w : World} {g n : Nat} {f : Nat → Nat} (h : Lies w g n f) {i : Nat} (hi : i < n) : w.cell? ⟨g, i, none⟩ = some (.int .u64 (f i : Int)) := by
  obtain ⟨cur, T, hg, _, hc⟩ := h
  rw [cell_of_row w g i cur T (0, 0) hg]
  exact hc i hi
theorem Lies.frozen {w : World} {g n : Nat} {f : Nat → Nat} (h : Lies w g n f) (i : Nat) : w.frozen? ⟨g, i, none⟩ = false := by
  obtain ⟨cur, T, hg, _, _⟩ := h
  simp [World.frozen?, hg]
theorem Lies.lt {w : World} {g n : Nat} {f : Nat → Nat} (h : Lies w g n f) : g < w.heap.size := by
  obtain ⟨cur, T, hg, _, _⟩ := h
  exact (Array.getElem?_eq_some_iff.1 hg).1
theorem Lies.congr {w : World} {g n : Nat} {f f' : Nat → Nat} (h : Lies w g n f) (e : ∀ i, i < n → f i = f' i) : Lies w g n f' := by
  obtain ⟨cur, T, hg, hn, hc⟩ := h
  exact ⟨cur, T, hg, hn, fun i hi => by rw [hc i hi, e i hi]⟩
theorem Lies.set {w : World} {g n : Nat} {f : Nat → Nat} (h : Lies w g n f) (i : Nat) (x : Nat) : Lies (w.setCell ⟨g, i, none⟩ (.int .u64 (x : Int))) g n (fun j => if j = i then x else f j) := by
  obtain ⟨cur, T, hg, hn, hc⟩ := h
  refine ⟨cur.setIfInBounds i (.int .u64 (x : Int)), T, ?_, by simpa using hn, fun j hj => ?_⟩
  · simp [World.setCell, Array.getElem?_modify, hg]
  · rw [Array.getElem?_setIfInBounds]
    by_cases e : j = i
    · subst e
      have : j < cur.size := by omega
      simp [this]
    · rw [if_neg (fun h => e h.symm)]
      show cur[j]? = some (.int .u64 ((if j = i then x else f j : Nat) : Int))
      rw [if_neg e]
      exact hc j hj
theorem Lies.of_block {w w' : World} {g n : Nat} {f : Nat → Nat} (h : Lies w g n f) (e : w'.heap[g]? = w.heap[g]?) : Lies w' g n f := by
  obtain ⟨cur, T, hg, r⟩ := h
  exact ⟨cur, T, e.trans hg, r⟩
theorem Lies.rd {w : World} {g n : Nat} {f : Nat → Nat} (h : Lies w g n f) : Rd w .u64 (some ⟨g, 0, none⟩) n f := fun _ => ⟨g, 0, rfl, h.lt, fun i hi => by rw [Nat.zero_add]; exact h.cell hi⟩
theorem Lies.of_room {w : World} {g n c : Nat} {T : TypeId} {cur : Array Value} (hg : w.heap[g]? = some (.cells cur T (0, 0))) (hn : n ≤ c) (hc : c ≤ cur.size) (h : ∀ i, i < n → cur[i]? = some (.int .u64 0)) : Lies w g n (fun _ => 0) := ⟨cur, T, hg, by omega, fun i hi => h i hi⟩

/-- What only block g and new blocks were written in keeps digits that lie elsewhere. -/
theorem Rd.grown {w w' : World} {K : IntKind} {A : Option Addr} {n : Nat} {f : Nat → Nat} {row : Option Nat} (h : Rd w K A n f) (hg : w.grownBy w' row) (hne : ∀ k, row = some k → ∀ a, A = some a → a.block ≠ k) : Rd w' K A n f := fun hn => by
  obtain ⟨g, o, e, hlt, hc⟩ := h hn
  refine ⟨g, o, e, Nat.lt_of_lt_of_le hlt hg.size, fun i hi => ?_⟩
  rw [World.cell?_of_block (w := w) (hg.block g hlt (fun e2 => hne g e2.symm _ e rfl))]
  exact hc i hi

/-! Add64 and Sub64 have no body: the model's own entries. -/
theorem add64_fn (x y c : Nat) (hc : c ≤ 1) (w : World) (s o : Nat) (hs : (x + y + c) % 18446744073709551616 = s) (ho : (x + y + c) / 18446744073709551616 = o) :
    (callFunc 77 #[.int .u64 (x : Int), .int .u64 (y : Int), .int .u64 (c : Int)]).run Try.prog w = .ok (.value (.tuple #[.int .u64 (s : Int), .int .u64 (o : Int)])) w := by
  rw [run_callFunc_extern Try.func77 (by kernel_rfl) (by kernel_rfl) (by kernel_rfl) (e := add64Entry) (by kernel_rfl), run_add64 x y c (by omega) (by omega) (by omega) (by omega)]
  subst hs
  subst ho
  simp only [Result.andThen]
  congr 5 <;> omega

theorem sub64_fn (x y b : Nat) (hb : b ≤ 1) (w : World) (d o : Nat) (hd : (x + 18446744073709551616 - y - b) % 18446744073709551616 = d) (ho : (if x < y + b then 1 else 0) = o) :
    (callFunc 78 #[.int .u64 (x : Int), .int .u64 (y : Int), .int .u64 (b : Int)]).run Try.prog w = .ok (.value (.tuple #[.int .u64 (d : Int), .int .u64 (o : Int)])) w := by
  rw [run_callFunc_extern Try.func78 (by kernel_rfl) (by kernel_rfl) (by kernel_rfl) (e := sub64Entry) (by kernel_rfl), run_sub64 x y b hb, ← hd, ← ho]
  rfl
end Go.Proofs.Ytoolljoejioigaa
