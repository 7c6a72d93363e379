import Derived.Test.YtpnokfgplnmjpaaGreatDoorGStB
import Derived.Test.YtpnokfgplnmjpaaGreatDoorGStN
import Derived.Test.YtpnokfgplnmjpaaGreatDoorGDivE
import Derived.Test.YtpnokfgplnmjpaaGreatDoorGRtA

namespace Go.Proofs.YtpnokfgplnmjpaaGreatDoor
open Go.RowKit Go.Lib

structure Pt (w0 : World) (base N X R k : Nat) (gv : Value) (A : Option Addr) (n c : Nat) (wr : World) : Prop where
  rest : Nm wr A n c R
  groups : Own wr base gv k (nums .u64 (fun j => X / G19 ^ j % G19) k)
  sep : 0 < n → ∀ z, gv.ownBlock = some z → Value.ownBlock (.slice A n c) ≠ some z
  eq : R = X / G19 ^ k
  pos : 0 < k → 0 < X / G19 ^ (k - 1)
  le : n ≤ N
  lx : X < B64 ^ N
  bel : Below base w0 wr
  bs : base ≤ w0.heap.size

theorem Pt.next {w0 : World} {base N X R k : Nat} {gv : Value} {A A' : Option Addr} {n c n' c' : Nat} {wr w1 w2 : World} {v' : Value} {t : TypeId} {u : Value} (h : Pt w0 base N X R k gv A n c wr) (hR : 0 < R)
    (hn : n' ≤ n) (hm : Nm w1 A' n' c' (R / G19)) (hb : Below wr.heap.size wr w1) (hf : ∀ z, Value.ownBlock (.slice A' n' c') = some z → wr.heap.size ≤ z)
    (ho : Own w2 base v' (k + 1) (nums .u64 (fun j => X / G19 ^ j % G19) k ++ [.int .u64 ((R % G19 : Nat) : Int)]))
    (hg : (w1.alloc (.cells #[u] t)).grownBy w2 gv.ownBlock) (hat : v'.ownBlock = gv.ownBlock ∨ v'.ownBlock = some (w1.heap.size + 1)) :
    Pt w0 base N X (R / G19) (k + 1) v' A' n' c' w2 := by
  have hlt : ∀ z, gv.ownBlock = some z → base ≤ z ∧ z < wr.heap.size := h.groups.lt
  have hrest : Nm (w1.alloc (.cells #[u] t)) A' n' c' (R / G19) := ⟨hm.toNg.alloc _, hm.top⟩
  refine ⟨⟨⟨hrest.lt, hrest.cap, hrest.rd.grown hg (fun z hz a ha e => ?_)⟩, hrest.top⟩, ?_, ?_, ?_, ?_, Nat.le_trans hn h.le, h.lx, ?_, h.bs⟩
  · subst ha
    have h1 := hlt z hz
    have h2 := hf a.block (by simp [Value.ownBlock])
    omega
  · refine own_next' ho ?_
    rw [h.eq]
  · intro h0 z hz e
    obtain ⟨g, o, e', hg', _⟩ := hm.rd h0
    subst e'
    have h1 := hf g (by simp [Value.ownBlock])
    simp [Value.ownBlock] at e
    rw [hz] at hat
    rcases hat with hat | hat
    · have := hlt z hat.symm
      omega
    · injection hat with hat
      omega
  · rw [h.eq, Nat.pow_succ, ← Nat.div_div_eq_div_mul]
  · intro _
    rw [Nat.add_sub_cancel, ← h.eq]
    exact hR
  · have h0 := h.bel.size
    have h1 := hb.size
    have hbs := h.bs
    refine (h.bel.trans (hb.mono (by omega))).trans ?_
    refine ((Below.refl base w1).alloc (by omega) _).trans ((Below.refl base _).grown hg (by simp; omega) (fun z hz => (hlt z hz).1))

theorem gTen : Tryz.prog.globalNamed "internal/strconv.uint64pow10" = some 5 := by kernel_rfl

theorem Ten.below {w w' : World} {B : Nat} (h : Ten w) (hb : Below B w w') (hB : w.heap.size ≤ B) : Ten w' := by
  unfold Ten Lib.TabIs World.var? at *
  rw [gTen] at h ⊢
  simp only [Option.bind_some] at h ⊢
  have hlt : 5 < w.heap.size := by
    rcases Nat.lt_or_ge 5 w.heap.size with h' | h'
    · exact h'
    · rw [Array.getElem?_eq_none h'] at h; simp at h
  rw [hb.block _ (by omega)]
  exact h

structure Tt (wl : World) (txt : List UInt8) (V : World) : Prop where
  bel : Below wl.heap.size wl V
  bld : Lib.IsBuilder 188 5 wl.heap.size wl.heap.size (Lib.byteCells txt) V
  big : wl.heap.size < V.heap.size

theorem Tt.start (wl : World) : Tt wl [] (wl.alloc (.cells #[.pointer none, .slice none 0 0] 188)) :=
  ⟨(Below.refl _ _).alloc (Nat.le_refl _) _, Lib.fresh_isBuilder _ _ _, by simp⟩

theorem ownsRow_past {B : Nat} {e : TypeId} {k : Nat} {v : Value} {n : Nat} {xs : List Value} {w w' : World} (h : w.ownsRow B e k v n xs) (hb : Below w.heap.size w w') : w'.ownsRow B e k v n xs := by
  refine ⟨h.1, ?_⟩
  rcases h.2 with hv | ⟨g, cap, cur, hv, hbg, hg, r⟩
  · exact .inl hv
  · exact .inr ⟨g, cap, cur, hv, hbg, (hb.block g (Array.getElem?_eq_some_iff.1 hg).1).trans hg, r⟩

theorem builder_past {B b : Nat} {p : Value} {bs : List Value} {V V' : World} (h : Lib.BuilderAt 188 5 B b p bs V) (hb : Below V.heap.size V V') : Lib.BuilderAt 188 5 B b p bs V' := by
  have hlt := h.lt
  obtain ⟨hB, v, hbk, hown, hne⟩ := h
  exact ⟨hB, v, (hb.block b hlt).trans hbk, ownsRow_past hown hb, hne⟩

theorem Tt.below {wl V V' : World} {txt : List UInt8} (h : Tt wl txt V) (hb : Below V.heap.size V V') : Tt wl txt V' := by
  have hs := hb.size
  have hg := h.big
  exact ⟨h.bel.trans (hb.mono (by omega)), h.bld.imp (fun k => builder_past k hb) (fun k => builder_past k hb), by omega⟩

end Go.Proofs.YtpnokfgplnmjpaaGreatDoor
