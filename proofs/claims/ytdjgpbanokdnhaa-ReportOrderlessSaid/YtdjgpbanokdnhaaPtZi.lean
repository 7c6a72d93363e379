/-
  slices.Sort and slices.Compact over rows of numbers of the call's own; the objects of some reports.
-/
import Derived.Test.YtdjgpbanokdnhaaPtZp
import Derived.Test.YtdjgpbanokdnhaaPtIn
import Derived.Test.YtdjgpbanokdnhaaPtMi
import Derived.Test.YtdjgpbanokdnhaaPtSj
import Derived.Shelf.SortM.Plain
import Derived.Shelf.SortM.SortNone
import Derived.Shelf.SlicesG.CompactI
namespace Go.Proofs.Ytdjgpbanokdnhaa.Pt
open Go.RowKit Go.Sort
attribute [local go_sem ↓] Go.wp_at_zero Go.wp_at_succ

theorem holdsI {w : World} {g : Nat} {l : List Int} {cur : Array Value} {T : TypeId} (hg : w.heap[g]? = some (.cells cur T (0, 0))) (ht : cur.toList.take (l.length * 1) = nums l) : Holds (Value.int .i64) w g 0 l.toArray := by
  intro j hj
  have hj' : j < l.length := by simpa using hj
  have h1 := take_at ht (j := j) (by omega)
  refine ⟨?_, by simp [World.frozen?, hg]⟩
  rw [blkAt hg, Nat.zero_add, h1, nums_at l j hj']
  simp [getElem!_pos l j hj', getElem!_pos l.toArray j hj]
theorem putI_at {w : World} {g : Nat} {cur : Array Value} {T : TypeId} (n : Nat) (l : List Int) (os : Array Obj) (hg : w.heap[g]? = some (.cells cur T (0, 0))) :
    (grow (putRow (Value.int .i64) (Sort.ahead w n) g 0 l.toArray) os).heap[g]? = some (.cells (putCells (Value.int .i64) 0 l.toArray cur) T (0, 0)) := by
  have hlt : g < w.heap.size := (Array.getElem?_eq_some_iff.1 hg).1
  unfold putRow
  rw [heap_grow_old _ _ (by simp [mapBlock, ahead]; exact hlt)]
  simp only [mapBlock, Array.getElem?_modify, if_true]
  show (w.heap[g]?).map _ = _
  rw [hg]
  rfl
theorem putI_take (l m : List Int) (cur : Array Value) (h : (l ++ m).length ≤ cur.size) : (putCells (Value.int .i64) 0 (l ++ m).toArray cur).toList.take (l.length * 1) = nums l := by
  refine List.ext_getElem? fun j => ?_
  rw [List.getElem?_take]
  have hle : l.length ≤ (l ++ m).length := by simp
  split
  · rename_i hj
    have hj2 : j < l.length := by omega
    rw [nums_at l j hj2]
    simp only [putCells, Array.getElem?_toList, Array.getElem?_mapIdx]
    rw [Array.getElem?_eq_getElem (by omega)]
    have h3 : j < l.length + m.length := by omega
    simp [h3, hj2, getElem!_pos l j hj2, List.getElem_append_left hj2]
  · rename_i hj
    rw [List.getElem?_eq_none (by simp [nums]; omega)]
theorem growI_bel {w0 w : World} {g : Nat} (n : Nat) (l : List Int) (os : Array Obj) (hb : Bel w0 w) (hg : w0.heap.size ≤ g) : Bel w0 (grow (putRow (Value.int .i64) (Sort.ahead w n) g 0 l.toArray) os) := by
  refine ⟨⟨hb.b.os, hb.b.tape, hb.b.output, Nat.le_trans hb.size (by simp [putRow, mapBlock, ahead]), fun k hk => ?_⟩, Nat.le_trans hb.d (Nat.le_add_right _ _)⟩
  have hk' : k < w.heap.size := Nat.lt_of_lt_of_le hk hb.size
  unfold putRow
  rw [heap_grow_old _ _ (by simp [mapBlock, ahead]; exact hk')]
  simp only [mapBlock, ahead, Array.getElem?_modify]
  rw [if_neg (by omega)]
  exact hb.b.block k hk
theorem sortI_f (w0 w : World) (v : Value) (l : List Int) (hown : OwnI w0 w v l) (hb : Bel w0 w) (hl : l.length ≤ 1000000) :
    Calls Try.prog 56 #[v] w (fun e w' => e = .returned (.tuple #[]) ∧ OwnI w0 w' v (sortI l) ∧ Bel w0 w') := by
  rcases hown.2 with ⟨rfl, h0⟩ | ⟨g, cap, cur, rfl, hbg, hg, hc, hm, hs, ht⟩
  · have hnil : l = [] := List.eq_nil_of_length_eq_zero h0
    subst hnil
    refine (AnyM.slices_Sort_int_none (P := Try.prog) Try.sortI none 0 w).mono ?_
    rintro e w' ⟨rfl, rfl⟩
    exact ⟨rfl, by simpa [sortI] using hown, hb⟩
  · have hlt : g < w.heap.size := (Array.getElem?_eq_some_iff.1 hg).1
    refine (AnyM.slices_Sort_int Try.sortI g 0 cap l w (holdsI hg ht) hlt (by omega)).mono ?_
    rintro e w' ⟨rfl, n, os, rfl⟩
    have h1 := putI_take (sortI l) [] cur (by rw [List.append_nil, sortI_len, hs]; omega)
    rw [List.append_nil] at h1
    refine ⟨rfl, ⟨by simp [nums], .inr ⟨g, cap, _, by rw [sortI_len], hbg, putI_at n (sortI l) os hg, by rw [sortI_len]; exact hc, hm, by simp [putCells, hs], h1⟩⟩, growI_bel n (sortI l) os hb hbg⟩
theorem compactI_f (w0 w : World) (v : Value) (l : List Int) (hown : OwnI w0 w v l) (hb : Bel w0 w) (hl : l.length ≤ 1000000) :
    Calls Try.prog 57 #[v] w (fun e w' => ∃ x, e = .returned x ∧ OwnI w0 w' x (Lib.compact l) ∧ Bel w0 w') := by
  rcases hown.2 with ⟨rfl, h0⟩ | ⟨g, cap, cur, rfl, hbg, hg, hc, hm, hs, ht⟩
  · have hnil : l = [] := List.eq_nil_of_length_eq_zero h0
    subst hnil
    refine (AnyG.slices_Compact_int_empty (P := Try.prog) Try.compactI none 0 w).mono ?_
    rintro e w' ⟨rfl, rfl⟩
    exact ⟨_, rfl, by simpa [Lib.compact, Lib.compactUpTo] using hown, hb⟩
  · have hlt : g < w.heap.size := (Array.getElem?_eq_some_iff.1 hg).1
    have hm2 := hm
    unfold maxLen at hm2
    refine (AnyG.slices_Compact_int Try.compactI g 0 cap l w (holdsI hg ht) (by omega) hc).mono ?_
    rintro e w' ⟨rfl, n, rfl⟩
    have hcl := compact_len l
    have h1 := putI_take (Lib.compact l) (List.replicate (l.length - (Lib.compact l).length) 0) cur (by simp; omega)
    have h2 := putI_at n (Lib.compact l ++ List.replicate (l.length - (Lib.compact l).length) 0) #[] hg
    have h3 := growI_bel n (Lib.compact l ++ List.replicate (l.length - (Lib.compact l).length) 0) #[] hb hbg
    rw [grow_empty] at h2 h3
    exact ⟨_, rfl, ⟨by simp [nums], .inr ⟨g, cap, _, rfl, hbg, h2, Nat.le_trans hcl hc, hm, by simp [putCells, hs], h1⟩⟩, h3⟩

set_option maxHeartbeats 4000000 in
set_option maxRecDepth 100000 in
theorem objectsOf_f (l : List Rep) (v : Value) (w : World) (hv : IsL w v l) (hb : l.length ≤ 1000000) : Calls Try.prog 46 #[v] w (RetP w fun x W => OwnI w W x (objL l)) := by
  obtain ⟨p, cap, rfl, hc, hm, hl, _⟩ := hv
  unfold maxLen at hm
  have LA := Lib.hid hl
  have HB := Lib.hid hb
  have S1 : Hid (∀ V v, OwnI w V v (l.map Rep.ob) → Bel w V → Calls Try.prog 56 #[v] V (fun e w' => e = .returned (.tuple #[]) ∧ OwnI w w' v (sortI (l.map Rep.ob)) ∧ Bel w w')) := Lib.hid fun V v h hb2 => sortI_f w V v _ h hb2 (by simp; exact hb)
  have S2 : Hid (∀ V v, OwnI w V v (sortI (l.map Rep.ob)) → Bel w V → Calls Try.prog 57 #[v] V (fun e w' => ∃ x, e = .returned x ∧ OwnI w w' x (objL l) ∧ Bel w w')) := Lib.hid fun V v h hb2 => compactI_f w V v _ h hb2 (by rw [sortI_len]; simp; exact hb)
  clear hl hb
  go_enter Try.func46, Try.ntmps46
  go_wp2
  go_loopw [3, 8] (fun s3 s8 wr => ∃ k : Nat, k ≤ l.length ∧ s8 = .int .i64 k ∧ OwnI w wr s3 ((l.map Rep.ob).take k) ∧ Bel w wr) (fun _ s8 _ => l.length - (intOf s8).toNat)
  case atStart => exact ⟨0, by omega, rfl, OwnI.nil _ _, Bel.refl _⟩
  case round =>
    obtain ⟨k, hk, rfl, hown, hbl⟩ := hrel
    have O := Lib.hid hown
    have B := Lib.hid hbl
    obtain ⟨p3, c3, rfl⟩ := hown.isi.shape
    clear hown hbl
    by_cases hlt : k < l.length
    · obtain ⟨g, o, rfl, hg, hat⟩ := isl_open LA.out hlt
      obtain ⟨c0, c1, c2, c3', c4, c5, c6, c7⟩ := (hat.bel hg B.out).c8 hlt
      have hk8 : (k : Int) < l.length := by omega
      have hkl : ((l.map Rep.ob).take k).length ≤ 1000000 := by
        have := HB.out
        simp
        omega
      have N : Hid ((l.map Rep.ob).take (k + 1) = (l.map Rep.ob).take k ++ [l[k]!.ob]) := Lib.hid (by
        rw [List.take_succ_eq_append_getElem (by simpa using hlt)]
        simp [getElem!_pos l k hlt])
      clear hat
      generalize l[k]! = x at c0 c1 c2 c3' c4 c5 c6 c7 N
      generalize (l.map Rep.ob).take k = acc at O N hkl
      go_wp2_with (at_builtin; refine wpList_num (w0 := w) (v := .slice p3 acc.length c3) (l := acc) (z := x.ob) (A := wr.heap.size + 1) rfl _ _ rfl rfl rfl ((O.out.bel (Bel.new _ _)).bel (Bel.new _ _)) (by simp [go_sem]) ?b1 ?b2 ?b3)
      case b1 => omega
      case b2 =>
        have := B.out.size
        simp
        omega
      case b3 =>
        intro v2 w2 hown hgr
        have hb2 := hgr.bel ((B.out.alloc _).alloc _) O.out.lo
        have O2 := Lib.hid hown
        have B2 := Lib.hid hb2
        clear hown hb2 hgr
        go_wp2
        go_roundw
        case rel => exact ⟨k + 1, by omega, by go_num, by rw [N.out]; exact O2.out, B2.out⟩
        case measure => simp [intOf]; omega
    · have hk8 : ¬ ((k : Int) < l.length) := by omega
      have E : (l.map Rep.ob).take k = l.map Rep.ob := List.take_of_length_le (by simp; omega)
      rw [← E] at S1 S2
      clear E
      generalize (l.map Rep.ob).take k = acc at O S1 S2
      generalize sortI acc = so at S1 S2
      go_wp2_with (first
        | (go_at_call 56; refine (S1.out _ _ O.out B.out).mono ?_; rintro e V ⟨rfl, ho, hb2⟩; replace O := Lib.hid ho; replace B := Lib.hid hb2; clear ho hb2)
        | (go_at_call 57; refine (S2.out _ _ O.out B.out).mono ?_; rintro e V ⟨x1, rfl, ho, hb2⟩; have X := Lib.hid ho; replace B := Lib.hid hb2; clear ho hb2))
      go_ret
      exact ⟨_, rfl, X.out, B.out⟩
theorem objects_f (l : List Rep) (v : Value) (w : World) (hv : IsL w v l) (hb : l.length ≤ 1000000) : Calls Try.prog 31 #[v] w (RetP w fun x W => OwnI w W x (objL (cntL l))) := by
  have C1 : Hid (Calls Try.prog 27 #[v] w (RetP w fun x W => Own w W x (cntL l))) := Lib.hid (counting_f l v w hv hb)
  have C2 : Hid (∀ V x, IsL V x (cntL l) → Calls Try.prog 46 #[x] V (RetP V fun x W => OwnI V W x (objL (cntL l)))) := Lib.hid fun V x h => objectsOf_f _ x V h (Nat.le_trans (List.length_filter_le _ _) (Nat.le_trans (setL_len _) hb))
  clear hv hb
  go_enter Try.func31, Try.ntmps31
  go_wp2_with (first
    | (go_at_call 27; refine C1.out.mono ?_; rintro e V ⟨x1, rfl, ho, hb⟩; have X := Lib.hid ho.isl; have B := Lib.hid hb; clear ho hb)
    | (go_at_call 46; refine (C2.out _ _ X.out).mono ?_; rintro e V2 ⟨x2, rfl, ho, hb⟩; have Y := Lib.hid (ownI_base ho B.out.size); replace B := Lib.hid (B.out.trans hb); clear ho hb))
  go_ret
  exact ⟨_, rfl, Y.out, B.out⟩
end Go.Proofs.Ytdjgpbanokdnhaa.Pt
