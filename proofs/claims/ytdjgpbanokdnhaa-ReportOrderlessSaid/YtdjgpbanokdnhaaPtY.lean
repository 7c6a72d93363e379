/-
  report.Counting.
-/
import Derived.Test.YtdjgpbanokdnhaaPtP
import Derived.Test.YtdjgpbanokdnhaaPtS
import Derived.Maps.RangeRun
namespace Go.Proofs.Ytdjgpbanokdnhaa.Pt
open Go.RowKit
attribute [local go_sem ↓] Go.wp_at_zero Go.wp_at_succ

theorem MapO.mem {l : List Rep} {es : Array MapEntry} (h : es.toList = entsF 0 l) (e : MapEntry) : e ∈ es.toList ↔ ∃ i, i < l.length ∧ e = entR l[i]! i := by
  rw [h]
  constructor
  · intro he
    obtain ⟨j, hj⟩ := List.getElem?_of_mem he
    rw [entsF_get] at hj
    obtain ⟨r, h1, h2⟩ := Option.map_eq_some_iff.1 hj
    have hlt := (List.getElem?_eq_some_iff.1 h1).1
    refine ⟨j, hlt, ?_⟩
    rw [← h2, Nat.zero_add, getElem!_pos l j hlt, (List.getElem?_eq_some_iff.1 h1).2]
  · rintro ⟨i, hi, rfl⟩
    refine List.mem_iff_getElem?.2 ⟨i, ?_⟩
    rw [entsF_get, List.getElem?_eq_getElem hi, getElem!_pos l i hi]
    simp
theorem entsF_born (l : List Rep) : ((entsF 0 l).map (·.born)).Nodup := by
  have e : (entsF 0 l).map (·.born) = List.range l.length := by
    refine List.ext_getElem? fun j => ?_
    rw [List.getElem?_map, entsF_get]
    by_cases hj : j < l.length
    · rw [List.getElem?_eq_getElem hj, List.getElem?_range hj]
      simp
    · rw [List.getElem?_eq_none (by omega), List.getElem?_eq_none (by simp; omega)]
      rfl
  rw [e]
  exact List.nodup_range
/-- The iterator's next step, whichever the tape says. -/
theorem next_map {w : World} {it b : Nat} {l : List Rep} {s : List Nat} (hm : MapAt w b l) (hi : w.heap[it]? = some (.mapIter (some b) l.length s.toArray l.length)) (ty : TypeId) :
    ((∀ i, i < l.length → i ∈ s) ∧ (Instr.next (.pointer (some ⟨it, 0, none⟩)) false ty).run Try.prog w = .ok (.tuple #[.bool false]) w) ∨
    ∃ i w1, i < l.length ∧ ¬ i ∈ s ∧ (w1 = w ∨ w1 = w.drew) ∧ (Instr.next (.pointer (some ⟨it, 0, none⟩)) false ty).run Try.prog w = .ok (.tuple #[.bool true, idV l[i]!.ob l[i]!.sq, agR l[i]!]) (Go.ChangeMaps.setBlock w1 it (.mapIter (some b) l.length (s ++ [i]).toArray l.length)) ∧
      (Instr.entry (.pointer (some ⟨it, 0, none⟩))).run Try.prog (Go.ChangeMaps.setBlock w1 it (.mapIter (some b) l.length (s ++ [i]).toArray l.length)) = .ok (.tuple #[idV l[i]!.ob l[i]!.sq, agR l[i]!]) (Go.ChangeMaps.setBlock w1 it (.mapIter (some b) l.length (s ++ [i]).toArray l.length)) := by
  obtain ⟨_, h1, es, rfl, h2⟩ := hm
  have hmem := MapO.mem h2
  have hne : it ≠ b := fun e => by rw [e, h1] at hi; cases hi
  rcases run_next_at (P := Try.prog) w ty it b l.length l.length s.toArray es l.length hi h1 (fun x hx => by obtain ⟨i, hi, rfl⟩ := (hmem x).1 hx; exact hi) (Nat.le_refl _) with ⟨h3, h4⟩ | ⟨e, he, w1, h3, h4⟩
  · refine .inl ⟨fun i hi => ?_, h4⟩
    refine Decidable.byContradiction fun hn => ?_
    have h5 : entR l[i]! i ∈ (leftOf es s.toArray).toList := by
      simp only [leftOf, Array.toList_filter, List.mem_filter]
      exact ⟨(hmem _).2 ⟨i, hi, rfl⟩, by simp [hn]⟩
    have h6 := List.length_pos_of_mem h5
    rw [Array.length_toList] at h6
    omega
  · simp only [leftOf, Array.toList_filter, List.mem_filter] at he
    obtain ⟨i, hil, rfl⟩ := (hmem e).1 he.1
    have hs : ¬ i ∈ s := by simpa using he.2
    have h5 : (Go.ChangeMaps.setBlock w1 it (.mapIter (some b) l.length (s ++ [i]).toArray l.length)).heap[it]? = some (.mapIter (some b) l.length (s.toArray.push i) l.length) := by
      have : it < w1.heap.size := by
        have := (Array.getElem?_eq_some_iff.1 hi).1
        rcases h3 with rfl | rfl <;> exact this
      simp [Go.ChangeMaps.setBlock, this]
    have h6 : (Go.ChangeMaps.setBlock w1 it (.mapIter (some b) l.length (s ++ [i]).toArray l.length)).heap[b]? = some (.map es l.length) := by
      simp only [Go.ChangeMaps.setBlock, Array.getElem?_setIfInBounds]
      rw [if_neg hne]
      rcases h3 with rfl | rfl <;> exact h1
    refine .inr ⟨i, w1, hil, hs, h3, ?_, run_entry_at (P := Try.prog) _ it b l.length s.toArray es l.length (entR l[i]! i) h5 h6 he.1 (by rw [h2]; exact entsF_born l)⟩
    rw [h4]
    simp

theorem run_range {w : World} {b : Nat} {l : List Rep} (h : MapAt w b l) : (Instr.range 58 (.map (some b))).run Try.prog w = .ok (.pointer (some ⟨w.heap.size, 0, none⟩)) (w.alloc (.mapIter (some b) l.length #[] l.length)) := by
  obtain ⟨_, h1, es, rfl, h2⟩ := h
  simp only [Instr.range, Sem.run_bind, run_underlying Try.underlying58, Result.andThen_ok, Go.MapKept.run_getObj_map h1, Sem.run_pure, run_newObj_alloc]

theorem Own.keep {w0 w w' : World} {v : Value} {l : List Rep} (h : Own w0 w v l) (hk : ∀ g, v.ownBlock = some g → w'.heap[g]? = w.heap[g]?) : Own w0 w' v l := by
  obtain ⟨h1, h2⟩ := h
  refine ⟨h1, h2.imp id ?_⟩
  rintro ⟨g, cap, cur, e, hb', hg, hr⟩
  exact ⟨g, cap, cur, e, hb', (hk g (by rw [e]; rfl)).trans hg, hr⟩
theorem step_keep {w wr w1 : World} {it b : Nat} {l ls : List Rep} {v : Value} {o o' : Obj} (hw : w1 = wr ∨ w1 = wr.drew) (hm : MapAt wr b l) (hi : wr.heap[it]? = some o') (ho : Own w wr v ls) (hb : Bel w wr) (hit : w.heap.size ≤ it) (h1 : v.ownBlock ≠ some it) (hne : it ≠ b) :
    MapAt (Go.ChangeMaps.setBlock w1 it o) b l ∧ Own w (Go.ChangeMaps.setBlock w1 it o) v ls ∧ (Go.ChangeMaps.setBlock w1 it o).heap[it]? = some o ∧ Bel w (Go.ChangeMaps.setBlock w1 it o) := by
  have hh : w1.heap = wr.heap := by rcases hw with rfl | rfl <;> rfl
  have hd : wr.drawn ≤ w1.drawn := by
    rcases hw with rfl | rfl
    · exact Nat.le_refl _
    · exact Nat.le_succ _
  have hlt : it < wr.heap.size := (Array.getElem?_eq_some_iff.1 hi).1
  have hoth : ∀ k, k ≠ it → (Go.ChangeMaps.setBlock w1 it o).heap[k]? = wr.heap[k]? := fun k hk => by
    simp only [Go.ChangeMaps.setBlock, Array.getElem?_setIfInBounds, hh]
    rw [if_neg (Ne.symm hk)]
  refine ⟨?_, ho.keep fun g hg => hoth g fun e => h1 (by rw [← e]; exact hg), ?_, ⟨⟨?_, ?_, ?_, ?_, fun k hk => (hoth k (by omega)).trans (hb.b.block k hk)⟩, Nat.le_trans hb.d hd⟩⟩
  · obtain ⟨x, h3, h4⟩ := hm
    exact ⟨x, (hoth b (Ne.symm hne)).trans h3, h4⟩
  · simp only [Go.ChangeMaps.setBlock, hh]
    simp [hlt]
  · rw [← hb.b.os]; rcases hw with rfl | rfl <;> rfl
  · rw [← hb.b.tape]; rcases hw with rfl | rfl <;> rfl
  · rw [← hb.b.output]; rcases hw with rfl | rfl <;> rfl
  · simp only [Go.ChangeMaps.setBlock, hh, Array.size_setIfInBounds]; exact hb.size
theorem isl_one (r : Rep) {z : Bool} (hz : r.cn = z) (W : World) (T : TypeId) {A : Nat} (hA : W.heap.size = A) : IsL (W.alloc (.cells #[.int .i64 r.ob, .int .i64 r.sq, .int .i64 r.vs, .int .i64 r.dv, .int .i64 r.tm, .int .i64 r.px, .int .i64 r.py, .bool z] T)) (.slice (some ⟨A, 0, none⟩) 1 1) [r] := by
  subst hz
  subst hA
  refine ⟨_, 1, rfl, Nat.le_refl _, by unfold maxLen; omega, .inr ⟨W.heap.size, 0, rfl, by simp, fun i hi c hc => ?_⟩, fun h => by cases h⟩
  obtain rfl : i = 0 := by simpa using hi
  rw [blkAt (heap_new W _)]
  match c, hc with
  | 0, _ => rfl
  | 1, _ => rfl
  | 2, _ => rfl
  | 3, _ => rfl
  | 4, _ => rfl
  | 5, _ => rfl
  | 6, _ => rfl
  | 7, _ => rfl
theorem stepW_len (l : List Rep) (r : Rep) : (stepW l r).length ≤ l.length + 1 := by
  have h : (updR l r).length ≤ l.length + 1 := by
    unfold updR
    split <;> simp
  unfold stepW
  split
  · exact h
  · split
    · exact h
    · omega
theorem winP_len (l : List Rep) : (winP l).length ≤ l.length := by
  have key : ∀ (m ps : List Rep), (m.foldl stepW ps).length ≤ ps.length + m.length := by
    intro m
    induction m with
    | nil => intro ps; simp
    | cons r m ih =>
      intro ps
      have h1 := ih (stepW ps r)
      have h2 := stepW_len ps r
      simp only [List.foldl_cons, List.length_cons]
      omega
  have := key l []
  simpa [winP] using this
theorem Seen.ls_len {ps : List Rep} {s : List Nat} {ls : List Rep} (h : Seen ps s ls) : ls.length ≤ s.length := by
  rw [h.eq]
  refine Nat.le_trans (List.length_filter_le _ _) ?_
  simp

set_option maxHeartbeats 2000000 in
set_option maxRecDepth 100000 in
theorem counting_f (l : List Rep) (v : Value) (w : World) (hv : IsL w v l) (hb : l.length ≤ 1000000) : Calls Try.prog 27 #[v] w (RetP w fun x W => Own w W x (cntL l)) := by
  have HW : Hid (Calls Try.prog 44 #[v] w (RetM w (winP l))) := Lib.hid (winners_f l v w hv)
  obtain ⟨p, c, rfl⟩ := hv.shape
  clear hv
  go_enter Try.func27, Try.ntmps27
  go_wp2_with (go_at_call 44; refine HW.out.mono ?_; rintro e W1 ⟨b, rfl, hm, hbb, hbl⟩; have hrg := run_range hm; have M := Lib.hid hm; have B := Lib.hid hbl; have HBB := Lib.hid hbb; clear hm hbl hbb HW)
  clear hrg
  go_loopg [3] (winP l).length (fun k v wr => ∃ (s : List Nat) (ls : List Rep), k + s.length = (winP l).length ∧ Seen (winP l) s ls ∧ Own w wr v ls ∧ MapAt wr b (winP l) ∧ wr.heap[W1.heap.size]? = some (.mapIter (some b) (winP l).length s.toArray (winP l).length) ∧ Bel w wr ∧ v.ownBlock ≠ some W1.heap.size ∧ v.ownBlock ≠ some b)
  case atStart => exact ⟨[], [], rfl, Seen.nil _, Own.nil _ _, M.out.bel (Bel.new _ _), heap_new _ _, B.out.alloc _, by simp [Value.ownBlock], by simp [Value.ownBlock]⟩
  case round =>
    obtain ⟨s, ls, hks, hse, hown, hmap, hit, hbl, hn1, hn2⟩ := hrel
    have hlen := hse.len
    have hl1 := hse.ls_len
    have hl2 := winP_len l
    obtain ⟨p1, c1, rfl⟩ := hown.isl.shape
    have hib : W1.heap.size ≠ b := by
      have := M.out.lt
      omega
    rcases next_map hmap hit 0 with ⟨ha, hnx⟩ | ⟨i, w1, hil, his, hw1, hnx, hen⟩
    · have HS : Hid (srt ls = cntL l) := Lib.hid (hse.all ha)
      have HO := Lib.hid hown
      have HB := Lib.hid hbl
      have hll : ls.length ≤ 1000000 := by omega
      clear hse hown hmap hit hbl hn1 hn2 ha hks hib
      go_wp2_with (go_at_call 41; refine (sort_f w _ _ _ HO.out HB.out hll).mono ?_; rintro e w2 ⟨rfl, hown, hbel, _, _⟩; have O2 := Lib.hid hown; have B2 := Lib.hid hbel; clear hown hbel)
      go_ret
      exact ⟨_, rfl, by rw [← HS.out]; exact O2.out, B2.out⟩
    · obtain ⟨hm9, ho9, hi9, hb9⟩ := step_keep (o := .mapIter (some b) (winP l).length (s ++ [i]).toArray (winP l).length) hw1 hmap hit hown hbl B.out.size hn1 hib
      have hnext := hse.next hil his
      have hsl := (hnext.len)
      rw [List.length_append] at hsl
      generalize (winP l)[i]! = r at hnx hen hnext
      generalize Go.ChangeMaps.setBlock w1 W1.heap.size (.mapIter (some b) (winP l).length (s ++ [i]).toArray (winP l).length) = W9 at hnx hen hm9 ho9 hi9 hb9
      have M9 := Lib.hid hm9
      have O9 := Lib.hid ho9
      have I9 := Lib.hid hi9
      have B9 := Lib.hid hb9
      have S9 := Lib.hid hnext
      have N1 := Lib.hid hn1
      have N2 := Lib.hid hn2
      have HK := Lib.hid hks
      have HSL := Lib.hid hsl
      clear hm9 ho9 hi9 hb9 hnext hse hown hmap hit hbl hn1 hn2 hks hib hw1 his hil hlen hsl
      cases hcn : r.cn with
      | true =>
        have HN := Lib.hid hcn
        go_wp2
        go_roundg (gk - 1)
        case measure =>
          have := HSL.out
          have := HK.out
          simp at *
          omega
        case rel =>
          have h1 := HSL.out
          have h2 := HK.out
          have h3 := S9.out
          rw [if_pos HN.out] at h3
          simp only [List.length_cons, List.length_nil] at h1
          exact ⟨s ++ [i], ls, by rw [List.length_append]; simp only [List.length_cons, List.length_nil]; omega, h3, O9.out.bel (Bel.new _ _), M9.out.bel (Bel.new _ _), ((Bel.new W9 _).b.block _ (Array.getElem?_eq_some_iff.1 I9.out).1).trans I9.out, B9.out.alloc _, N1.out, N2.out⟩
      | false =>
        have HN := Lib.hid hcn
        go_wp2_with (at_builtin; refine wpList_reps (w0 := w) (v := .slice p1 ls.length c1) (l := ls) (m := [r]) rfl _ _ rfl rfl rfl ((O9.out.bel (Bel.new _ _)).bel (Bel.new _ _)) (isl_one r HN.out _ _ (by simp)) ?b1 ?b2 ?b3)
        case b1 =>
          have h1 := HSL.out
          have h2 := HK.out
          simp only [List.length_cons, List.length_nil] at h1 ⊢
          omega
        case b2 => exact ((B9.out.alloc _).alloc _).size
        case b3 =>
          intro v2 w2 hown hgr
          have hb2 := hgr.bel ((B9.out.alloc _).alloc _) O9.out.lo
          have O2 := Lib.hid hown
          have B2 := Lib.hid hb2
          have M2 : Hid (MapAt w2 b (winP l)) := Lib.hid (by
            obtain ⟨x, h1, h2⟩ := (M9.out.bel (Bel.new _ _)).bel (Bel.new _ _)
            exact ⟨x, (hgr.g.block b (Array.getElem?_eq_some_iff.1 h1).1 (Ne.symm N2.out)).trans h1, h2⟩)
          have I2 : Hid (w2.heap[W1.heap.size]? = some (.mapIter (some b) (winP l).length (s ++ [i]).toArray (winP l).length)) := Lib.hid (by
            have h1 := fun o => ((Bel.new W9 o).b.block _ (Array.getElem?_eq_some_iff.1 I9.out).1).trans I9.out
            have h2 := fun o o' => ((Bel.new (W9.alloc o) o').b.block _ (Array.getElem?_eq_some_iff.1 (h1 o)).1).trans (h1 o)
            exact (hgr.g.block _ (Array.getElem?_eq_some_iff.1 (h2 _ _)).1 (Ne.symm N1.out)).trans (h2 _ _))
          have N3 : Hid (v2.ownBlock ≠ some W1.heap.size ∧ v2.ownBlock ≠ some b) := Lib.hid (by
            have h5 := (Array.getElem?_eq_some_iff.1 I9.out).1
            have h6 := M9.out.lt
            rcases hgr.o with h1 | h1
            · rw [h1]; exact ⟨N1.out, N2.out⟩
            · rw [h1]
              refine ⟨fun e => ?_, fun e => ?_⟩
              · injection e with e
                simp at e
                omega
              · injection e with e
                simp at e
                omega)
          clear hown hgr hb2
          go_wp2
          go_roundg (gk - 1)
          case measure =>
            have h1 := HSL.out
            have h2 := HK.out
            simp only [List.length_cons, List.length_nil] at h1
            omega
          case rel =>
            have h1 := HSL.out
            have h2 := HK.out
            have h3 := S9.out
            rw [if_neg (by rw [HN.out]; decide)] at h3
            simp only [List.length_cons, List.length_nil] at h1
            exact ⟨s ++ [i], ls ++ [r], by rw [List.length_append]; simp only [List.length_cons, List.length_nil]; omega, h3, O2.out, M2.out, I2.out, B2.out, N3.out.1, N3.out.2⟩
end Go.Proofs.Ytdjgpbanokdnhaa.Pt
