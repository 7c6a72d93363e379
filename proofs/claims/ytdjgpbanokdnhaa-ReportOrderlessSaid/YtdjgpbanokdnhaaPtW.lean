/-
  The map from identities to reports, as the walk meets it: asked, written, ranged over.
-/
import Derived.Test.YtdjgpbanokdnhaaPtM
import Derived.MapKept
namespace Go.Proofs.Ytdjgpbanokdnhaa.Pt
open Go.RowKit

abbrev idV (o s : Int) : Value := .agg #[.int .i64 o, .int .i64 s]
theorem eq_id (o s o' s' : Int) (w : World) : (Op.equal 61 (idV o s) (idV o' s')).run Try.prog w = .ok (o == o' && s == s') w := by
  have u3 := Try.underlying3
  have hS : Try.prog.underlying 61 = some (.struct (Try.prog.fieldsOf 61)) := by kernel_rfl
  have hp : Try.prog.stoodInHeld 61 = false := by kernel_rfl
  simp only [Op.equal, Op.maxDepth]
  rw [show (10000 : Nat) = 9999 + 1 from rfl, run_equalIn_agg w 9999 61 _ _ hS hp]
  simp only [Program.fieldsOf, Try.underlying61]
  go_simp
  repeat' split
  all_goals simp_all
theorem check_int (b : Bool) (n : Nat) (a : Int) (w : World) : (Instr.checkKey b (n + 1) 3 (.int .i64 a)).run Try.prog w = .ok () w := by
  simp only [Instr.checkKey, Sem.run_bind, run_underlying Try.underlying3, Result.andThen_ok]
  rfl
theorem check_n (b : Bool) (n : Nat) (o s : Int) (w : World) : (Instr.checkKey b (n + 2) 61 (idV o s)).run Try.prog w = .ok () w := by
  have h1 := fun a w => check_int b n a w
  rw [Instr.checkKey]
  simp only [Sem.run_bind, run_underlying Try.underlying61, Result.andThen_ok]
  rw [← Array.forIn_toList]
  simp only [List.forIn_cons, List.forIn_nil, Sem.run_bind, Sem.run_ite, Sem.run_pure, Result.andThen_ok]
  go_simp
theorem check_id (b : Bool) (o s : Int) (w : World) : (Instr.checkKey b 10000 61 (idV o s)).run Try.prog w = .ok () w := check_n b 9998 o s w

abbrev entR (r : Rep) (i : Nat) : MapEntry := { key := idV r.ob r.sq, val := agR r, born := i }
def entsF : Nat → List Rep → List MapEntry
  | _, [] => []
  | i, r :: l => entR r i :: entsF (i + 1) l
theorem entsF_len : ∀ (l : List Rep) (i : Nat), (entsF i l).length = l.length
  | [], _ => rfl
  | _ :: l, i => by simp [entsF, entsF_len l (i + 1)]
theorem entsF_get : ∀ (l : List Rep) (i j : Nat), (entsF i l)[j]? = (l[j]?).map fun r => entR r (i + j)
  | [], _, _ => by simp [entsF]
  | r :: l, i, 0 => by simp [entsF]
  | r :: l, i, j + 1 => by
    simp only [entsF, List.getElem?_cons_succ, entsF_get l (i + 1) j]
    rw [show i + 1 + j = i + (j + 1) by omega]
def findR (o s : Int) : List Rep → Nat → Option (Nat × Rep)
  | [], _ => none
  | r :: l, i => if (o == r.ob && s == r.sq) = true then some (i, r) else findR o s l (i + 1)
theorem run_asking (o s : Int) : ∀ (l : List Rep) (i j : Nat) (w : World), (Instr.findAsking 61 (idV o s) (entsF j l) i).run Try.prog w = .ok ((findR o s l i).map fun x => (x.1, agR x.2)) w
  | [], _, _, _ => rfl
  | r :: l, i, j, w => by
    simp only [entsF, Instr.findAsking, Sem.run_bind, eq_id, Result.andThen_ok, Sem.run_ite, Sem.run_pure, findR]
    split
    · rfl
    · exact run_asking o s l (i + 1) (j + 1) w
theorem run_key (o s : Int) (l : List Rep) (w : World) : (Instr.findKey 61 (idV o s) (entsF 0 l)).run Try.prog w = .ok ((findR o s l 0).map fun x => (x.1, agR x.2)) w := by
  simp only [Instr.findKey, Sem.run_bind, run_underlying Try.underlying61, Result.andThen_ok]
  cases l with
  | nil => rfl
  | cons r l => exact run_asking o s (r :: l) 0 0 w

/-- Block b is the map of these reports, each under its identity. -/
def MapO (l : List Rep) (o : Obj) : Prop := ∃ es : Array MapEntry, o = .map es l.length ∧ es.toList = entsF 0 l
def MapAt (w : World) (b : Nat) (l : List Rep) : Prop := ∃ o, w.heap[b]? = some o ∧ MapO l o
theorem MapAt.lt {w : World} {b : Nat} {l : List Rep} (h : MapAt w b l) : b < w.heap.size := by
  obtain ⟨o, h, _⟩ := h
  exact (Array.getElem?_eq_some_iff.1 h).1
theorem MapAt.bel {w w' : World} {b : Nat} {l : List Rep} (h : MapAt w b l) (hb : Bel w w') : MapAt w' b l := by
  obtain ⟨o, h1, h2⟩ := h
  exact ⟨o, (hb.b.block b (Array.getElem?_eq_some_iff.1 h1).1).trans h1, h2⟩
theorem run_look {w : World} {b : Nat} {l : List Rep} (h : MapAt w b l) (o s : Int) (c : Bool) : (Instr.lookup 58 (.map (some b)) (idV o s) c).run Try.prog w =
    .ok (if c = true then .tuple #[((findR o s l 0).map fun x => agR x.2).getD (agR zR), .bool (findR o s l 0).isSome] else ((findR o s l 0).map fun x => agR x.2).getD (agR zR)) w := by
  obtain ⟨_, h1, es, rfl, h2⟩ := h
  obtain ⟨i, hi, hz, h8, h64⟩ := info_parts info_rep0
  have hv : ∀ w, (zeroValue 23).run Try.prog w = .ok (.agg #[.int .i64 0, .int .i64 0, .int .i64 0, .int .i64 0, .int .i64 0, .int .i64 0, .int .i64 0, .bool false]) w := fun w => by simp [zeroValue, typeInfo, hi, hz]
  simp only [Instr.lookup, Sem.run_bind, run_underlying Try.underlying58, Result.andThen_ok, Go.MapKept.run_getObj_map h1, Sem.run_pure, check_id, h2, run_key]
  cases findR o s l 0 with
  | none => simp [hv]; rfl
  | some x => simp

theorem findR_some {o s : Int} : ∀ {l : List Rep} {k i : Nat} {x : Rep}, findR o s l k = some (i, x) → k ≤ i ∧ l[i - k]? = some x ∧ x.ob = o ∧ x.sq = s
  | [], k, i, x, h => by simp [findR] at h
  | r :: l, k, i, x, h => by
    simp only [findR] at h
    split at h
    · rename_i hc
      injection h with h
      injection h with h1 h2
      subst h1 h2
      simp at hc
      exact ⟨Nat.le_refl _, by simp, hc.1.symm, hc.2.symm⟩
    · obtain ⟨h1, h2, h3⟩ := findR_some h
      refine ⟨by omega, ?_, h3⟩
      obtain ⟨d, hd⟩ : ∃ d, i - k = d + 1 := ⟨i - k - 1, by omega⟩
      rw [hd, List.getElem?_cons_succ, ← h2]
      congr 1
      omega
theorem findR_none {o s : Int} : ∀ {l : List Rep} {k : Nat}, findR o s l k = none → ∀ x ∈ l, ¬ (x.ob = o ∧ x.sq = s)
  | [], _, _, x, hx => by simp at hx
  | r :: l, k, h, x, hx => by
    simp only [findR] at h
    split at h
    · cases h
    · rename_i hc
      rcases List.mem_cons.1 hx with e | e
      · subst e
        rintro ⟨h1, h2⟩
        simp [h1, h2] at hc
      · exact findR_none h x e
/-- The map with a report laid under its identity. -/
def updR (l : List Rep) (r : Rep) : List Rep := match findR r.ob r.sq l 0 with
  | some (i, _) => l.set i r
  | none => l ++ [r]
theorem entsF_app (r : Rep) : ∀ (l : List Rep) (i : Nat), entsF i (l ++ [r]) = entsF i l ++ [entR r (i + l.length)]
  | [], i => rfl
  | x :: l, i => by
    simp only [List.cons_append, entsF, entsF_app r l (i + 1), List.length_cons]
    rw [show i + 1 + l.length = i + (l.length + 1) by omega]
theorem same_id (n : Nat) (o s : Int) : Instr.sameBits (n + 1) (idV o s) (idV o s) = true := by simp [Instr.sameBits]
theorem run_stays (o s : Int) (w : World) : (Instr.keyThatStays (idV o s) (idV o s)).run Try.prog w = .ok (idV o s) w := by
  have h := same_id 9999 o s
  unfold Instr.keyThatStays
  rw [if_pos h]
  rfl
theorem run_upd {w : World} {b : Nat} {l : List Rep} (h : MapAt w b l) (r : Rep) : ∃ o, (Instr.mapUpdate 58 (.map (some b)) (idV r.ob r.sq) (agR r)).run Try.prog w = .ok () { w with heap := w.heap.setIfInBounds b o } ∧ MapO (updR l r) o := by
  obtain ⟨_, h1, es, rfl, h2⟩ := h
  unfold updR
  cases hf : findR r.ob r.sq l 0 with
  | none =>
    refine ⟨.map (es.push { key := idV r.ob r.sq, val := agR r, born := l.length }) (l.length + 1), ?_, es.push { key := idV r.ob r.sq, val := agR r, born := l.length }, by simp, ?_⟩
    · simp only [Instr.mapUpdate, Sem.run_bind, run_underlying Try.underlying58, Result.andThen_ok, Go.MapKept.run_getObj_map h1, check_id, h2, run_key, hf, Option.map_none]
      exact Go.MapKept.run_setObj_map _ h1
    · rw [Array.toList_push, h2, entsF_app, Nat.zero_add]
  | some x =>
    obtain ⟨i, x⟩ := x
    obtain ⟨_, g2, g3, g4⟩ := findR_some hf
    rw [Nat.sub_zero] at g2
    have hk : ((es[i]?).map (·.key)).getD (idV r.ob r.sq) = idV r.ob r.sq := by
      rw [← Array.getElem?_toList, h2, entsF_get, g2]
      simp [g3, g4]
    refine ⟨.map (es.modify i fun e => { e with key := idV r.ob r.sq, val := agR r }) l.length, ?_, es.modify i fun e => { e with key := idV r.ob r.sq, val := agR r }, by rw [List.length_set], ?_⟩
    · simp only [Instr.mapUpdate, Sem.run_bind, run_underlying Try.underlying58, Result.andThen_ok, Go.MapKept.run_getObj_map h1, check_id, h2, run_key, hf, Option.map_some, hk, run_stays]
      exact Go.MapKept.run_setObj_map _ h1
    · refine List.ext_getElem? fun j => ?_
      rw [entsF_get, List.getElem?_set, Array.getElem?_toList, Array.getElem?_modify, ← Array.getElem?_toList, h2, entsF_get]
      have hi : i < l.length := (List.getElem?_eq_some_iff.1 g2).1
      by_cases hj : i = j
      · subst hj
        simp [hi, g2]
      · simp [hj]
end Go.Proofs.Ytdjgpbanokdnhaa.Pt
