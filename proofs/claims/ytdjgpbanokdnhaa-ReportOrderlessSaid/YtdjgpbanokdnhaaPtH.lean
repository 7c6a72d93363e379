/-
  Rows that a call makes: append of one element and of a whole slice. No function of the program stands here.
-/
import Derived.Test.YtdjgpbanokdnhaaPtK
import Derived.Laws.AppendOwn
namespace Go.Proofs.Ytdjgpbanokdnhaa.Pt
open Go.RowKit

section
variable {P : Program} {w : World} {t ty e : TypeId} {i : TypeInfo} {z : Value} {size bytes base : Nat}
/-- What an append that grows a row of the call's own leaves besides. -/
theorem app_more (ht : P.underlying t = some (.slice e)) (hi : P.info? e = some i) (hz : i.zero = some z) (hsize : i.size = size) (hby : i.bytes = bytes) (hsz : 0 < size)
    {v : Value} {n : Nat} {xs : List Value} (hown : w.ownsRow base e size v n xs) {a : Addr} {m c : Nat} {news : List Value} (hl : news.length = m * size) (hnews : ∀ j u, news[j]? = some u → w.cell? (a.add j) = some u) (h1 : ∀ u ∈ news, u.oneCell' = true)
    (h63 : n + m ≤ maxLen) (hbytes : (n + m) * bytes ≤ 140737488355328) {v' : Value} {w' : World} (hr : (Builtin.append_ #[t, t] ty #[v, .slice (some a) m c]).run P w = .ok v' w') :
    w.drawn ≤ w'.drawn ∧ (v'.ownBlock = v.ownBlock ∨ v'.ownBlock = some w.heap.size) := by
  subst hsize
  subst hby
  have hsmall : n + m ≤ 9223372036854775807 := by simp only [maxLen] at h63; omega
  rcases hown.2 with ⟨rfl, rfl⟩ | ⟨g, cap, cur, rfl, hbg, hg, hnc, hcm, hcs, htake⟩
  · by_cases hm : m = 0
    · subst hm
      have hn : news = [] := List.eq_nil_of_length_eq_zero (by simpa using hl)
      subst hn
      have h2 : (Builtin.append_ #[t, t] ty #[.slice none 0 0, .slice (some a) 0 c]).run P w = .ok (.slice none 0 0) w := by
        simp [Builtin.append_, run_underlying ht, sizeOf, typeInfo, hi, Builtin.lenOf, Builtin.firstCells, loadCells, loadCellsFrom]
      rw [h2] at hr
      injection hr with e1 e2
      subst e1 e2
      exact ⟨Nat.le_refl _, .inl rfl⟩
    · have h2 := run_append_nil (P := P) w t ty e i z ht hi hz a m c news hl hnews (by omega) (by omega) (by have hb := hbytes; simp only [Nat.zero_add] at hb; omega)
      rw [h2] at hr
      injection hr with e1 e2
      subst e1 e2
      exact ⟨Nat.le_succ _, .inr rfl⟩
  · by_cases hroom : n + m ≤ cap
    · have hfit : n * i.size + news.length ≤ cur.size := by rw [hl, hcs, ← Nat.add_mul]; exact Nat.mul_le_mul_right _ hroom
      have h2 := run_append_room (P := P) w t ty e i ht hi g n cap cur hg a m c news hl hnews h1 hroom hfit
      rw [h2] at hr
      injection hr with e1 e2
      subst e1 e2
      exact ⟨Nat.le_refl _, .inl rfl⟩
    · have holds : ∀ j u, xs[j]? = some u → w.cell? ((⟨g, 0, none⟩ : Addr).add j) = some u := hown.cells (g := g) rfl
      have h2 := run_append_grow (P := P) w t ty e i z ht hi hz ⟨g, 0, none⟩ n cap xs hown.1 holds a m c news hl hnews (by omega) (by omega) (growslice_fits (by omega) hbytes)
      rw [h2] at hr
      injection hr with e1 e2
      subst e1 e2
      exact ⟨Nat.le_succ _, .inr rfl⟩
end

/-- Memory that a call made: the row of v, and what became of all else. -/
structure Grown (w w' : World) (v v' : Value) : Prop where
  g : w.grownBy w' v.ownBlock
  d : w.drawn ≤ w'.drawn
  o : v'.ownBlock = v.ownBlock ∨ v'.ownBlock = some w.heap.size
theorem Grown.bel {w0 w w' : World} {v v' : Value} (h : Grown w w' v v') (hb : Bel w0 w) (hv : ∀ k, v.ownBlock = some k → w0.heap.size ≤ k) : Bel w0 w' :=
  ⟨⟨h.g.os.trans hb.b.os, h.g.tape.trans hb.b.tape, h.g.output.trans hb.b.output, Nat.le_trans hb.size h.g.size, fun k hk => (h.g.block k (Nat.lt_of_lt_of_le hk hb.size) fun e => by have := hv k e.symm; omega).trans (hb.b.block k hk)⟩, Nat.le_trans hb.d h.d⟩
theorem Grown.sb {w0 w w' : World} {v v' : Value} {l : List (Nat × Array Value × TypeId)} {rs : List (Option Addr × Nat × Nat × Nat)} (h : Grown w w' v v') (X : Sb w0 l rs w) (hv : ∀ k, v.ownBlock = some k → w0.heap.size ≤ k) (hl : ∀ x ∈ l, v.ownBlock ≠ some x.1) :
    Sb w0 l rs w' ∧ (∀ k, v'.ownBlock = some k → w0.heap.size ≤ k) ∧ ∀ x ∈ l, v'.ownBlock ≠ some x.1 := by
  refine ⟨⟨fun x hx => (h.g.block x.1 (X.lt hx) fun e => hl x hx e.symm).trans (X.k x hx), X.lo, X.ne, h.bel X.bel hv⟩, fun k hk => ?_, fun x hx e => ?_⟩
  · rcases h.o with h1 | h1
    · exact hv k (by rw [← h1]; exact hk)
    · rw [h1] at hk
      injection hk with hk
      rw [← hk]
      exact X.bel.size
  · rcases h.o with h1 | h1
    · exact hl x hx (by rw [← h1]; exact e)
    · rw [h1] at e
      injection e with e
      have := X.lt hx
      omega
theorem wpList_app {P : Program} {w : World} {ops : Array Oper} {rest : List Oper} {o : Oper} {a : Act} {Q : Exit → Act → World → Prop} (hgd : o.guard = none) (s x : Operand) (t : TypeId)
    (ho : o.op = .call { callee := .builtin .append, args := #[s, x], argTypes := #[t, t] })
    (base : Nat) (e : TypeId) (i : TypeInfo) (z : Value) (size bytes : Nat) (ht : P.underlying t = some (.slice e)) (hi : P.info? e = some i) (hz : i.zero = some z)
    (hsize : i.size = size) (hby : i.bytes = bytes) (hzs : z.cells.size = size) (hsz : 0 < size)
    (v : Value) (n : Nat) (xs : List Value) (hs : a.eval s = v) (hown : w.ownsRow base e size v n xs)
    (ad : Addr) (m c : Nat) (news : List Value) (hx : a.eval x = .slice (some ad) m c) (hl : news.length = m * size) (hnews : ∀ j u, news[j]? = some u → w.cell? (ad.add j) = some u) (h1 : ∀ u ∈ news, u.oneCell' = true)
    (h63 : n + m ≤ maxLen) (hbytes : (n + m) * bytes ≤ 140737488355328) (hbase : base ≤ w.heap.size)
    (h : ∀ v' w', w'.ownsRow base e size v' (n + m) (xs ++ news) → Grown w w' v v' → wpList P ops Q rest (a.put o.dst v') w') : wpList P ops Q (o :: rest) a w :=
  wpList_plain hgd fun K hK => by
    obtain ⟨v', w', hr, h2, h3, h4⟩ := run_append_own (P := P) w base t o.type e i z size bytes ht hi hz hsize hby hzs hsz v n xs hown ad m c news hl hnews h1 h63 hbytes hbase
    obtain ⟨h5, h6⟩ := app_more (P := P) (w := w) ht hi hz hsize hby hsz hown hl hnews h1 h63 hbytes hr
    unfold Oper.wp execOp
    simp only [ho, resolve, invoke, builtin, Sem.run_bind, Sem.run_pure, Result.andThen_ok, List.map_toArray, List.map_cons, List.map_nil, hs, hx, hr]
    exact hK _ _ (h v' w' h2 ⟨h3, h5, h6⟩)
end Go.Proofs.Ytdjgpbanokdnhaa.Pt
