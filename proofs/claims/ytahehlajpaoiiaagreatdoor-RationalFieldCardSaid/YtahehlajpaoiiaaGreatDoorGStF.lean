import Derived.Test.YtahehlajpaoiiaaGreatDoorGRefN
import Derived.Test.YtahehlajpaoiiaaGreatDoorGRefO
import Derived.StringKeys
import Derived.Test.YtahehlajpaoiiaaGreatDoorGLate
import Derived.Test.YtahehlajpaoiiaaGreatDoorGRtB
import Derived.Test.YtahehlajpaoiiaaGreatDoorGLawG
import Derived.Test.YtahehlajpaoiiaaGreatDoorGIntE
import Derived.Test.YtahehlajpaoiiaaGreatDoorGRefG
import Derived.Test.YtahehlajpaoiiaaGreatDoorGRefL

/-
  The program's fractions: whether there is a denominator, and what it is.
-/
namespace Go.Proofs.YtahehlajpaoiiaaGreatDoor
open Go.RowKit
attribute [local go_sem ↓] Go.wp_at_zero Go.wp_at_succ

theorem str_ne {s t : ByteArray} (h : s ≠ t) : (s.data.toList == t.data.toList) = false ∧ (s.toList == t.toList) = false := by
  have hnt : ¬ s.data.toList = t.data.toList := fun e => h (by cases s; cases t; simp at e; rw [e])
  have hnl : (s.data.toList == t.data.toList) = false := by simpa using hnt
  exact ⟨hnl, by rw [ByteArray.toList_eq, ByteArray.toList_eq]; exact hnl⟩

theorem below_two (w1 : World) (o1 o2 : Obj) : Below w1.heap.size w1 ((w1.alloc o1).alloc o2) := ((Below.refl _ _).alloc (Nat.le_refl _) _).alloc (by simp) _
theorem toList_ne {s : ByteArray} {l : List UInt8} (h : s ≠ ⟨l.toArray⟩) : ¬ s.toList = l := fun e => h (by
  rw [ByteArray.toList_eq] at e
  cases s
  simp at e
  rw [← e])
theorem enc_mag (n : Nat) : enc (n : Int) = .agg #[.bool false, .string (mag n)] := by
  unfold enc
  have h : decide ((n : Int) < 0) = false := by simp
  rw [h, Int.natAbs_natCast]
theorem mag_ne {n m : Nat} (h : n ≠ m) : mag n ≠ mag m := fun e => h (mag_inj e)
theorem mag_one : mag 1 = ⟨#[1]⟩ := by
  have h : magL 1 = [1] := by rw [magL_pos (by decide), show 1 / 256 = 0 from rfl, magL_zero]; rfl
  unfold mag
  rw [h]
theorem mag_no_nil {n : Nat} (h : n ≠ 0) : mag n ≠ ⟨#[]⟩ := by rw [← mag_nil]; exact mag_ne h
theorem mag_no_one {n : Nat} (h : n ≠ 1) : mag n ≠ ⟨#[1]⟩ := by rw [← mag_one]; exact mag_ne h

set_option maxHeartbeats 1000000 in
set_option maxRecDepth 100000 in
theorem isInteger_yes (b : Bool) (m : ByteArray) (w : World) : Calls Tryz.prog 61 #[.agg #[.bool b, .string m, .bool false, .string ⟨#[]⟩]] w (RetB w (.bool true)) := by
  go_enter Tryz.func61, Tryz.ntmps61
  go_wp2
  go_ret
  exact ⟨rfl, below_new _ _⟩

set_option maxHeartbeats 1000000 in
set_option maxRecDepth 100000 in
theorem isInteger_no (b : Bool) (m k : ByteArray) (hk : k ≠ ⟨#[]⟩) (w : World) : Calls Tryz.prog 61 #[.agg #[.bool b, .string m, .bool false, .string k]] w (RetB w (.bool false)) := by
  obtain ⟨h1, h2⟩ := str_ne hk
  have hs : 0 < k.size := by
    rcases Nat.eq_zero_or_pos k.size with h | h
    · exact absurd (ext_bytes (t := ⟨#[]⟩) h (fun i h1 _ => by omega)) hk
    · exact h
  have h3 := empty_no hs
  clear hk
  go_enter Tryz.func61, Tryz.ntmps61
  go_wp2
  go_ret
  exact ⟨rfl, below_new _ _⟩

theorem Rq.mag {q : Rat} {b : Bool} {m k : ByteArray} (h : Rq q b m k) : b = decide (q.num < 0) ∧ m = Go.Proofs.YtahehlajpaoiiaaGreatDoor.mag q.num.natAbs := enc_parts h.num
theorem Rq.den1 {q : Rat} {b : Bool} {m k : ByteArray} (h : Rq q b m k) (h1 : q.den = 1) : k = ⟨#[]⟩ := by rw [h.den, h1, dm_one]
theorem Rq.den2 {q : Rat} {b : Bool} {m k : ByteArray} (h : Rq q b m k) (h1 : q.den ≠ 1) : k = Go.Proofs.YtahehlajpaoiiaaGreatDoor.mag q.den := by rw [h.den]; unfold dm; rw [if_neg h1]

set_option maxHeartbeats 1000000 in
set_option maxRecDepth 100000 in
theorem den_f {q : Rat} {b : Bool} {m k : ByteArray} (h : Rq q b m k) (w : World) (hE : Env w) : Calls Tryz.prog 20 #[.agg #[.bool b, .string m, .bool false, .string k]] w (RetB w (.agg #[.bool false, .string (mag q.den)])) := by
  have KK := Lib.hid (Kb.start w #[.bool b, .string m, .bool false, .string k] #[.bool false, .string ⟨#[]⟩] 25 23)
  have HE := Lib.hid hE
  by_cases hden : q.den = 1
  · obtain rfl := h.den1 hden
    rw [hden, mag_one]
    clear h hE hden
    go_enter Tryz.func20, Tryz.ntmps20
    go_wp2_with fail
    refine (isInteger_yes b m _).mono ?_
    rintro e w1 ⟨rfl, hb1⟩
    have K1 := Lib.hid (KK.out.next hb1)
    obtain ⟨p0, p1, f0, f1⟩ := blk_cells K1.out.k2
    have hE1 := HE.out.next K1.out.bel
    have o0 := hE1.o0
    have o1 := hE1.o1
    clear hb1 hE1
    go_wp2
    exact bodyPost_ret (v := .agg #[.bool false, .string ⟨#[1]⟩]) (by simp [results, Tryz.results20, go_sem, p0, p1]) rfl ⟨rfl, below_set2 K1.out.bel (by omega) _ _⟩
  · obtain rfl := h.den2 hden
    have HNO := Lib.hid (isInteger_no b m (mag q.den) (mag_no_nil q.den_nz))
    generalize Go.Proofs.YtahehlajpaoiiaaGreatDoor.mag q.den = k at *
    clear h hE hden
    go_enter Tryz.func20, Tryz.ntmps20
    go_wp2_with fail
    refine (HNO.out _).mono ?_
    rintro e w1 ⟨rfl, hb1⟩
    have K1 := Lib.hid (KK.out.next hb1)
    obtain ⟨p0, p1, f0, f1⟩ := blk_cells K1.out.k2
    obtain ⟨q0, q1, q2, q3⟩ := blk4 K1.out.k1
    clear hb1
    go_wp2
    exact bodyPost_ret (v := .agg #[.bool false, .string k]) (by simp [results, Tryz.results20, go_sem, p0, p1]) rfl ⟨rfl, below_set2 K1.out.bel (by omega) _ _⟩

set_option maxHeartbeats 1000000 in
set_option maxRecDepth 100000 in
theorem coprime_f (b : Bool) (m : ByteArray) (d : Nat) (w : World) (hE : Env w) : Calls Tryz.prog 66 #[.agg #[.bool b, .string m], .agg #[.bool false, .string (mag d)]] w (RetB w (.agg #[.bool b, .string m, .bool false, .string (dm d)])) := by
  have hlt := hE.lt
  have o0 := hE.o0
  have o1 := hE.o1
  have KK := Lib.hid (Kc.start w #[.bool b, .string m] #[.bool false, .string (mag d)] #[.bool false, .string ⟨#[]⟩, .bool false, .string ⟨#[]⟩] 23 23 25)
  have hE0 := hE.next KK.out.bel
  have g0 := hE0.o0
  have g1 := hE0.o1
  clear hE hE0 o0 o1
  by_cases hden : d = 1
  · subst hden
    rw [dm_one, mag_one]
    rw [mag_one] at KK g0 g1
    obtain ⟨t0, t1, t2, t3⟩ := blk4 KK.out.k3
    obtain ⟨f0, f1, f2, f3⟩ := fro4 KK.out.k3
    go_enter Tryz.func66, Tryz.ntmps66
    go_wp2
    exact bodyPost_ret (v := .agg #[.bool b, .string m, .bool false, .string ⟨#[]⟩]) (by simp [results, Tryz.results66, go_sem, t0, t1, t2, t3]) rfl ⟨rfl, (Kc.start w _ _ _ _ _ _).bel⟩
  · have hdm : dm d = mag d := by unfold dm; rw [if_neg hden]
    rw [hdm]
    have hk1 := toList_ne (mag_no_one hden)
    generalize mag d = k at *
    obtain ⟨t0, t1, t2, t3⟩ := blk4 KK.out.k3
    obtain ⟨f0, f1, f2, f3⟩ := fro4 KK.out.k3
    clear hdm hden
    go_enter Tryz.func66, Tryz.ntmps66
    go_wp2
    exact bodyPost_ret (v := .agg #[.bool b, .string m, .bool false, .string k]) (by simp [results, Tryz.results66, go_sem, t0, t1, t2, t3]) rfl ⟨rfl, (Kc.start w _ _ _ _ _ _).bel⟩

set_option maxHeartbeats 1000000 in
set_option maxRecDepth 100000 in
theorem common_f {x : Int} {b c : Bool} {m mg : ByteArray} {d : Nat} (hx : enc x = .agg #[.bool b, .string m]) (hg : enc ((Nat.gcd x.natAbs d : Nat) : Int) = .agg #[.bool c, .string mg]) (h1 : m.size ≤ 100000) (h2 : (mag d).size ≤ 100000) (w : World) (hE : Env w) :
    Calls Tryz.prog 65 #[.agg #[.bool b, .string m], .agg #[.bool false, .string (mag d)]] w (RetB w (.agg #[.bool c, .string mg])) := by
  have KK := Lib.hid (Kc.start w #[.bool b, .string m] #[.bool false, .string (mag d)] #[.bool false, .string ⟨#[]⟩] 23 23 23)
  have hlt := hE.lt
  have hE0 := hE.next KK.out.bel
  have HE0 := Lib.hid hE0
  have g0 := hE0.o0
  have g1 := hE0.o1
  clear hE hE0
  by_cases hden : d = 1
  · subst hden
    rw [Nat.gcd_one_right, show (((1 : Nat) : Int)) = 1 from rfl, show enc 1 = .agg #[.bool false, .string ⟨#[1]⟩] from by rw [← mag_one]; rfl] at hg
    injection hg with hg
    have hc : c = false ∧ mg = ⟨#[1]⟩ := by
      simp at hg
      exact ⟨by first | exact hg.1 | exact hg.1.symm, by first | exact hg.2 | exact hg.2.symm⟩
    obtain ⟨rfl, rfl⟩ := hc
    rw [mag_one]
    rw [mag_one] at KK g0 g1
    obtain ⟨p0, p1, f0, f1⟩ := blk_cells KK.out.k3
    clear hx hg h2 HE0
    go_enter Tryz.func65, Tryz.ntmps65
    go_wp2
    exact bodyPost_ret (v := .agg #[.bool false, .string ⟨#[1]⟩]) (by simp [results, Tryz.results65, go_sem, p0, p1]) rfl ⟨rfl, (Kc.start w _ _ _ _ _ _).bel⟩
  · have hk1 := toList_ne (mag_no_one hden)
    have HG := Lib.hid (fun V (hV : Env V) => gcd_f hx (show enc (d : Int) = .agg #[.bool false, .string (mag d)] from enc_mag d) (bg := c) (mg := mg) (by rw [Int.natAbs_natCast]; exact hg) (by omega) (by omega) V hV.tab)
    generalize mag d = k at *
    clear hx hg hden h1 h2
    go_enter Tryz.func65, Tryz.ntmps65
    go_wp2_with fail
    refine (HG.out _ HE0.out).mono ?_
    rintro e w1 ⟨rfl, hb1⟩
    have K1 := Lib.hid (KK.out.next hb1)
    obtain ⟨p0, p1, f0, f1⟩ := blk_cells K1.out.k3
    clear hb1 g0 g1
    go_wp2
    exact bodyPost_ret (v := .agg #[.bool c, .string mg]) (by simp [results, Tryz.results65, go_sem, p0, p1]) rfl ⟨rfl, below_set2 K1.out.bel (by omega) _ _⟩

set_option maxHeartbeats 1000000 in
set_option maxRecDepth 100000 in
theorem quotient_f {x z : Int} {b c : Bool} {m mz : ByteArray} {d : Nat} (hx : enc x = .agg #[.bool b, .string m]) (hz : enc z = .agg #[.bool c, .string mz]) (e : z = x / (d : Int)) (h1 : m.size ≤ 100000) (h2 : (mag d).size ≤ 100000) (h0 : d ≠ 0) (w : World) (hE : Env w) :
    Calls Tryz.prog 67 #[.agg #[.bool b, .string m], .agg #[.bool false, .string (mag d)]] w (RetB w (.agg #[.bool c, .string mz])) := by
  have KK := Lib.hid (Kc.start w #[.bool b, .string m] #[.bool false, .string (mag d)] #[.bool false, .string ⟨#[]⟩] 23 23 23)
  have hlt := hE.lt
  have hE0 := hE.next KK.out.bel
  have g0 := hE0.o0
  have g1 := hE0.o1
  clear hE hE0
  by_cases hden : d = 1
  · subst hden
    have e2 : z = x := by rw [e]; simp
    rw [e2, hx] at hz
    injection hz with hz
    have hc : b = c ∧ m = mz := by simpa using hz
    obtain ⟨rfl, rfl⟩ := hc
    rw [mag_one]
    rw [mag_one] at KK g0 g1
    obtain ⟨p0, p1, f0, f1⟩ := blk_cells KK.out.k3
    clear hx hz h2 e e2
    go_enter Tryz.func67, Tryz.ntmps67
    go_wp2
    exact bodyPost_ret (v := .agg #[.bool b, .string m]) (by simp [results, Tryz.results67, go_sem, p0, p1]) rfl ⟨rfl, (Kc.start w _ _ _ _ _ _).bel⟩
  · have hk1 := toList_ne (mag_no_one hden)
    obtain ⟨br, mr, hr⟩ := enc_form (x % (d : Int))
    have HD := Lib.hid (fun V => divMod_f hx (show enc (d : Int) = .agg #[.bool false, .string (mag d)] from enc_mag d) (by omega) (by omega) (by omega) hz hr e rfl V)
    generalize mag d = k at *
    clear hx hz hden h1 h2 e hr h0
    go_enter Tryz.func67, Tryz.ntmps67
    go_wp2_with fail
    refine (HD.out _).mono ?_
    rintro e w1 ⟨rfl, hb1⟩
    have K1 := Lib.hid (KK.out.next hb1)
    have K2 := Lib.hid (fun o1 o2 => K1.out.next (below_two w1 o1 o2))
    have p0 := fun o1 o2 => (blk_cells (K2.out o1 o2).k3).1
    have p1 := fun o1 o2 => (blk_cells (K2.out o1 o2).k3).2.1
    have f0 := fun o1 o2 => (blk_cells (K2.out o1 o2).k3).2.2.1
    have f1 := fun o1 o2 => (blk_cells (K2.out o1 o2).k3).2.2.2
    clear hb1 g0 g1
    go_wp2
    exact bodyPost_ret (v := .agg #[.bool c, .string mz]) (by simp [results, Tryz.results67, go_sem, p0, p1]) rfl ⟨rfl, below_set2 (K2.out _ _).bel (by omega) _ _⟩
end Go.Proofs.YtahehlajpaoiiaaGreatDoor


/-
  The program's fraction of two integers.
-/
namespace Go.Proofs.YtahehlajpaoiiaaGreatDoor
open Go.RowKit
attribute [local go_sem ↓] Go.wp_at_zero Go.wp_at_succ

/-- A block that lies somewhere. -/
structure Bq (g : Nat) (cs : Array Value) (T : TypeId) (wx : World) : Prop where
  k : wx.heap[g]? = some (.cells cs T (0, 0))
  lt : g < wx.heap.size
theorem Bq.new (w : World) (cs : Array Value) (T : TypeId) : Bq w.heap.size cs T (w.alloc (.cells cs T)) := ⟨heap_one _ _, by simp⟩
theorem Bq.next {g : Nat} {cs : Array Value} {T : TypeId} {w1 w2 : World} (h : Bq g cs T w1) (hb : Below w1.heap.size w1 w2) : Bq g cs T w2 := ⟨(hb.block _ h.lt).trans h.k, Nat.lt_of_lt_of_le h.lt hb.size⟩
theorem Bq.drew {g : Nat} {cs : Array Value} {T : TypeId} {w1 : World} (h : Bq g cs T w1) : Bq g cs T w1.drew := h.next (Below.refl _ _).drew

theorem qoth4 {W : World} {g k : Nat} (hne : k ≠ g) (x y z u : Value) : ((((W.setCell ⟨g, 0, none⟩ x).setCell ⟨g, 1, none⟩ y).setCell ⟨g, 2, none⟩ z).setCell ⟨g, 3, none⟩ u).heap[k]? = W.heap[k]? :=
  (Below.heap_setCell _ ⟨g, 3, none⟩ u k hne).trans ((Below.heap_setCell _ ⟨g, 2, none⟩ z k hne).trans ((Below.heap_setCell _ ⟨g, 1, none⟩ y k hne).trans (Below.heap_setCell _ ⟨g, 0, none⟩ x k hne)))
theorem qset4 {W : World} {g : Nat} {T : TypeId} {x0 x1 x2 x3 : Value} (h : W.heap[g]? = some (.cells #[x0, x1, x2, x3] T (0, 0))) (x y z u : Value) : ((((W.setCell ⟨g, 0, none⟩ x).setCell ⟨g, 1, none⟩ y).setCell ⟨g, 2, none⟩ z).setCell ⟨g, 3, none⟩ u).heap[g]? = some (.cells #[x, y, z, u] T (0, 0)) := by
  simp [World.setCell, Array.getElem?_modify, h]
theorem qsz4 {W : World} {g : Nat} (x y z u : Value) : ((((W.setCell ⟨g, 0, none⟩ x).setCell ⟨g, 1, none⟩ y).setCell ⟨g, 2, none⟩ z).setCell ⟨g, 3, none⟩ u).heap.size = W.heap.size := by simp [World.setCell]
theorem Kc.setR {w w1 : World} {c1 c2 : Array Value} {T1 T2 T3 : TypeId} {x0 x1 x2 x3 : Value} (h : Kc w c1 c2 #[x0, x1, x2, x3] T1 T2 T3 w1) (x y z u : Value) :
    Kc w c1 c2 #[x, y, z, u] T1 T2 T3 ((((w1.setCell ⟨w.heap.size + 1 + 1, 0, none⟩ x).setCell ⟨w.heap.size + 1 + 1, 1, none⟩ y).setCell ⟨w.heap.size + 1 + 1, 2, none⟩ z).setCell ⟨w.heap.size + 1 + 1, 3, none⟩ u) :=
  ⟨(qoth4 (by omega) x y z u).trans h.k1, (qoth4 (by omega) x y z u).trans h.k2, qset4 h.k3 x y z u, by rw [qsz4]; exact h.sz, below_set4 h.bel (by omega) _ _ _ _⟩
theorem Bq.set4 {g g' : Nat} {cs : Array Value} {T : TypeId} {W : World} (h : Bq g cs T W) (hne : g ≠ g') (x y z u : Value) : Bq g cs T ((((W.setCell ⟨g', 0, none⟩ x).setCell ⟨g', 1, none⟩ y).setCell ⟨g', 2, none⟩ z).setCell ⟨g', 3, none⟩ u) :=
  ⟨(qoth4 hne x y z u).trans h.k, by rw [qsz4]; exact h.lt⟩

/-- The fraction x / y, where y is not zero: its numerator is x' / g, its denominator d / g. -/
theorem Rq.of_div {x y x' : Int} {d : Nat} (hy : y ≠ 0) (hd : d = y.natAbs) (hx : x' = y.sign * x) {b : Bool} {m k : ByteArray} (h1 : enc (x' / (Nat.gcd x'.natAbs d : Nat)) = .agg #[.bool b, .string m]) (h2 : k = dm (d / Nat.gcd x'.natAbs d)) : Rq (Rat.divInt x y) b m k := by
  obtain ⟨e1, e2⟩ := divInt_parts x y hy
  have hxx : x'.natAbs = x.natAbs := by
    rw [hx, Int.natAbs_mul]
    have : y.sign.natAbs = 1 := Int.natAbs_sign_of_ne_zero hy
    rw [this, Nat.one_mul]
  rw [hxx, hd, hx] at h1
  rw [hxx, hd] at h2
  exact ⟨by rw [e1]; exact h1, by rw [e2]; exact h2⟩

set_option maxHeartbeats 8000000 in
set_option maxRecDepth 100000 in
theorem make_pos {x y : Int} {b1 b2 b3 : Bool} {m1 m2 m3 k3 : ByteArray} (hx : enc x = .agg #[.bool b1, .string m1]) (hy : enc y = .agg #[.bool b2, .string m2]) (hq : Rq (Rat.divInt x y) b3 m3 k3) (h0 : 0 < y) (s1 : m1.size ≤ 100000) (s2 : m2.size ≤ 100000) (w : World) (hE : Env w) :
    Calls Tryz.prog 18 #[.agg #[.bool b1, .string m1], .agg #[.bool b2, .string m2]] w (RetB w (.tuple #[.agg #[.bool b3, .string m3, .bool false, .string k3], .int .i64 0])) := by
  obtain ⟨d, rfl⟩ : ∃ d : Nat, y = (d : Int) := ⟨y.natAbs, by omega⟩
  have hd0 : 0 < d := by omega
  have hne1 : ¬ (w.heap.size = w.heap.size + 1 + 1) := by omega
  have hne2 : ¬ (w.heap.size + 1 + 1 = w.heap.size) := by omega
  have hne3 : ¬ (w.heap.size + 1 = w.heap.size + 1 + 1) := by omega
  have hne4 : ¬ (w.heap.size + 1 + 1 = w.heap.size + 1) := by omega
  have hy2 := hy
  rw [enc_mag d] at hy2
  have hbm : false = b2 ∧ mag d = m2 := by injection hy2 with h; simpa using h
  obtain ⟨rfl, rfl⟩ := hbm
  have hsg : Int.sign (d : Int) = 1 := Int.sign_eq_one_of_pos (by omega)
  have HSG := Lib.hid (fun V => Sign_f hy V)
  rw [hsg] at HSG
  have HE := Lib.hid (fun V (h : Below w.heap.size w V) => hE.next h)
  obtain ⟨G, hG⟩ : ∃ G, Nat.gcd x.natAbs d = G := ⟨_, rfl⟩
  have hG0 : 0 < G := hG ▸ Nat.gcd_pos_of_pos_right _ hd0
  obtain ⟨bg, mg, hg⟩ := enc_form (G : Int)
  have hg2 := hg
  rw [enc_mag G] at hg2
  have hbg : false = bg ∧ mag G = mg := by injection hg2 with h; simpa using h
  obtain ⟨rfl, rfl⟩ := hbg
  have sG : (mag G).size ≤ 100000 := by
    have h1 : nd G ≤ nd d := nd_mono (hG ▸ Nat.gcd_le_right _ hd0)
    exact Nat.le_trans h1 s2
  obtain ⟨e1, e2⟩ := divInt_parts x (d : Int) (by omega)
  have HCO := Lib.hid (fun V (hV : Env V) => common_f (d := d) hx (c := false) (mg := mag G) (by rw [hG]; exact hg) s1 s2 V hV)
  have HQ1 := Lib.hid (fun V (hV : Env V) => quotient_f (d := G) hx (c := b3) (mz := m3) (z := x / (G : Int)) (by rw [← hG]; have h := hq.num; rw [e1] at h; rw [hsg, Int.one_mul, Int.natAbs_natCast] at h; exact h) rfl s1 sG (by omega) V hV)
  have HQ2 := Lib.hid (fun V (hV : Env V) => quotient_f (d := G) (enc_mag d) (c := false) (mz := mag (d / G)) (z := ((d / G : Nat) : Int)) (enc_mag _) (by rw [Int.natCast_ediv]) s2 sG (by omega) V hV)
  have hk3 : k3 = dm (d / G) := by rw [hq.den, e2, ← hG]; rw [Int.natAbs_natCast]
  have HCP := Lib.hid (fun V (hV : Env V) => coprime_f b3 m3 (d / G) V hV)
  rw [← hk3] at HCP
  clear hg hg2 hk3 e1 e2 sG hG hG0
  generalize mag (d / G) = kd at *
  generalize mag G = kg at *
  have KK := Lib.hid (Kc.start w #[.bool b1, .string m1] #[.bool false, .string (mag d)] #[.bool false, .string ⟨#[]⟩, .bool false, .string ⟨#[]⟩] 23 23 25)
  clear hx hy hy2 hq hE h0 hsg
  generalize mag d = k2 at *
  go_enter Tryz.func18, Tryz.ntmps18
  go_wp2_with fail
  refine (HSG.out _).mono ?_
  rintro e w1 ⟨rfl, hb1⟩
  have K1 := Lib.hid (KK.out.next hb1)
  obtain ⟨x0, x1, _, _⟩ := blk_cells K1.out.k2
  clear hb1
  go_wp2_with fail
  refine (HSG.out _).mono ?_
  rintro e w2 ⟨rfl, hb2⟩
  have K2 := Lib.hid (K1.out.next hb2)
  clear hb2 x0 x1
  obtain ⟨a0, a1, _, _⟩ := blk_cells K2.out.k1
  obtain ⟨a2, a3, _, _⟩ := blk_cells K2.out.k2
  go_wp2_with fail
  refine (HCO.out _ (HE.out _ K2.out.bel)).mono ?_
  rintro e w3 ⟨rfl, hb3⟩
  have K3 := Lib.hid (K2.out.next hb3)
  have K4 := Lib.hid (K3.out.next (below_new w3 (.cells #[.bool false, .string kg] 23))).drew
  have B4 := Lib.hid (Bq.new w3 #[.bool false, .string kg] 23).drew
  obtain ⟨p0, p1, _, _⟩ := blk_cells K4.out.k1
  obtain ⟨p2, p3, _, _⟩ := blk_cells K4.out.k2
  obtain ⟨p4, p5, _, _⟩ := blk_cells B4.out.k
  have hne5 : w3.heap.size ≠ w.heap.size + 1 + 1 := by have := K3.out.sz; omega
  clear hb3 a0 a1 a2 a3
  go_wp2_with fail
  go_region_held3 (fun w' => w'.cell? ⟨w.heap.size, 0, none⟩ = some (.bool b1) ∧ w'.cell? ⟨w.heap.size, 1, none⟩ = some (.string m1) ∧ w'.cell? ⟨w.heap.size + 1, 0, none⟩ = some (.bool false) ∧ w'.cell? ⟨w.heap.size + 1, 1, none⟩ = some (.string k2) ∧ w'.cell? ⟨w3.heap.size, 0, none⟩ = some (.bool false) ∧ w'.cell? ⟨w3.heap.size, 1, none⟩ = some (.string kg))
    (first
      | exact ⟨v0, v1, v2, v3, v4, v5⟩
      | exact ⟨s0, s1, s2, s3, s4, s5⟩
      | exact ⟨r0, r1, r2, r3, r4, r5⟩
      | exact ⟨q0, q1, q2, q3, q4, q5⟩
      | exact ⟨p0, p1, p2, p3, p4, p5⟩
      | go_keep)
    (first
      | (go_at_call 67; (with_reducible refine (HQ1.out _ (HE.out _ K4.out.bel)).mono ?_); rintro e w5 ⟨rfl, hb5⟩; have K5 := Lib.hid (K4.out.next hb5); have B5 := Lib.hid (B4.out.next hb5); obtain ⟨q0, q1, _, _⟩ := blk_cells K5.out.k1; obtain ⟨q2, q3, _, _⟩ := blk_cells K5.out.k2; obtain ⟨q4, q5, _, _⟩ := blk_cells B5.out.k)
      | (go_at_call 67; (with_reducible refine (HQ2.out _ (HE.out _ K5.out.bel)).mono ?_); rintro e w6 ⟨rfl, hb6⟩; have K6 := Lib.hid (K5.out.next hb6); have B6 := Lib.hid (B5.out.next hb6); obtain ⟨r0, r1, _, _⟩ := blk_cells K6.out.k1; obtain ⟨r2, r3, _, _⟩ := blk_cells K6.out.k2; obtain ⟨r4, r5, _, _⟩ := blk_cells B6.out.k)
      | (go_at_call 66; (with_reducible refine (HCP.out _ (HE.out _ K6.out.bel)).mono ?_); rintro e w7 ⟨rfl, hb7⟩; have K7 := Lib.hid (K6.out.next hb7); have B7 := Lib.hid (B6.out.next hb7); obtain ⟨s0, s1, _, _⟩ := blk_cells K7.out.k1; obtain ⟨s2, s3, _, _⟩ := blk_cells K7.out.k2; obtain ⟨s4, s5, _, _⟩ := blk_cells B7.out.k; obtain ⟨t0, t1, t2, t3⟩ := blk4 K7.out.k3; obtain ⟨f0, f1, f2, f3⟩ := fro4 K7.out.k3; have K8 := Lib.hid (K7.out.setR (.bool b3) (.string m3) (.bool false) (.string k3)); have B8 := Lib.hid (B7.out.set4 hne5 (.bool b3) (.string m3) (.bool false) (.string k3)); obtain ⟨v0, v1, _, _⟩ := blk_cells K8.out.k1; obtain ⟨v2, v3, _, _⟩ := blk_cells K8.out.k2; obtain ⟨v4, v5, _, _⟩ := blk_cells B8.out.k))
  go_wp2
  exact bodyPost_ret (v := .tuple #[.agg #[.bool b3, .string m3, .bool false, .string k3], .int .i64 0]) (by simp [results, Tryz.results18, go_sem, t0, t1, t2, t3]) rfl ⟨rfl, K8.out.bel⟩
end Go.Proofs.YtahehlajpaoiiaaGreatDoor


/-
  The program's reading of a group of decimal digits.
-/
namespace Go.Proofs.YtahehlajpaoiiaaGreatDoor
open Go.RowKit

/-- The number that a row of decimal digits tells. -/
def val10 (l : List UInt8) : Nat := l.foldl (fun a b => a * 10 + (b.toNat - 48)) 0

def digit10 (b : UInt8) : Prop := 48 ≤ b.toNat ∧ b.toNat ≤ 57

theorem val10_snoc (l : List UInt8) (b : UInt8) : val10 (l ++ [b]) = val10 l * 10 + (b.toNat - 48) := by simp [val10]

theorem fold10 (l : List UInt8) : ∀ a : Nat, l.foldl (fun a b => a * 10 + (b.toNat - 48)) a = a * 10 ^ l.length + val10 l := by
  induction l with
  | nil => intro a; simp [val10]
  | cons b l ih =>
    intro a
    have e : val10 (b :: l) = (b.toNat - 48) * 10 ^ l.length + val10 l := by
      show l.foldl _ (0 * 10 + (b.toNat - 48)) = _
      rw [ih, Nat.zero_mul, Nat.zero_add]
    rw [e, List.foldl_cons, ih, List.length_cons, Nat.pow_succ, Nat.add_mul, Nat.mul_assoc, Nat.mul_comm 10, Nat.add_assoc]

theorem val10_cons (b : UInt8) (l : List UInt8) : val10 (b :: l) = (b.toNat - 48) * 10 ^ l.length + val10 l := by
  show l.foldl _ (0 * 10 + (b.toNat - 48)) = _
  rw [fold10, Nat.zero_mul, Nat.zero_add]

theorem val10_append (a b : List UInt8) : val10 (a ++ b) = val10 a * 10 ^ b.length + val10 b := by
  unfold val10
  rw [List.foldl_append, fold10]
  rfl

theorem val10_lt (l : List UInt8) (h : ∀ b ∈ l, digit10 b) : val10 l < 10 ^ l.length := by
  induction l with
  | nil => simp [val10]
  | cons b l ih =>
    have h1 := ih (fun c hc => h c (by simp [hc]))
    have h2 := (h b (by simp)).2
    rw [val10_cons, List.length_cons, Nat.pow_succ]
    have h3 : (b.toNat - 48) * 10 ^ l.length ≤ 9 * 10 ^ l.length := Nat.mul_le_mul_right _ (by omega)
    omega

theorem val10_take (l : List UInt8) {k : Nat} (hk : k < l.length) : val10 (l.take (k + 1)) = val10 (l.take k) * 10 + (l[k].toNat - 48) := by
  rw [List.take_succ_eq_append_getElem hk, val10_snoc]

theorem val10_take_lt (l : List UInt8) (h : ∀ b ∈ l, digit10 b) (k : Nat) (hk : k ≤ 19) : val10 (l.take k) < G19 := by
  have h1 := val10_lt (l.take k) (fun b hb => h b (List.mem_of_mem_take hb))
  rw [G19_eq]
  refine Nat.lt_of_lt_of_le h1 (Nat.pow_le_pow_right (by decide) ?_)
  rw [List.length_take]
  omega

/-- What is carried. -/
def gcar (V c k : Nat) : Nat := (V % B64 ^ k * G19 + c) / B64 ^ k

theorem gcar_zero (V c : Nat) : gcar V c 0 = c := by simp [gcar, Nat.mod_one]
theorem gcar_lt {V c k : Nat} (hc : c < G19) : gcar V c k < G19 := by
  have hp : 0 < B64 ^ k := Nat.pow_pos B64_pos
  have h1 := Nat.mod_lt V hp
  unfold gcar
  refine Nat.div_lt_of_lt_mul ?_
  have h2 : (V % B64 ^ k + 1) * G19 ≤ B64 ^ k * G19 := Nat.mul_le_mul_right _ h1
  rw [Nat.add_mul, Nat.one_mul] at h2
  omega
theorem gcar_parts (V c k : Nat) : (V % B64 ^ (k + 1) * G19 + c) / B64 ^ k = G19 * D B64 V k + gcar V c k := by
  have hp : 0 < B64 ^ k := Nat.pow_pos B64_pos
  have h : V % B64 ^ (k + 1) = V % B64 ^ k + B64 ^ k * D B64 V k := by rw [Nat.pow_succ]; exact Nat.mod_mul
  rw [h, Nat.add_mul, Nat.mul_assoc, Nat.add_right_comm, Nat.add_mul_div_left _ _ hp]
  unfold gcar
  rw [Nat.add_comm, Nat.mul_comm (D B64 V k)]
theorem gcar_succ (V c k : Nat) : gcar V c (k + 1) = (G19 * D B64 V k + gcar V c k) / B64 := by
  rw [← gcar_parts, Nat.div_div_eq_div_mul, ← Nat.pow_succ]
  rfl
theorem gdig (V c k : Nat) : D B64 (V * G19 + c) k = (G19 * D B64 V k + gcar V c k) % B64 := by
  have hp : 0 < B64 ^ k := Nat.pow_pos B64_pos
  have h : V * G19 + c = V % B64 ^ (k + 1) * G19 + c + B64 ^ k * (B64 * (V / B64 ^ (k + 1) * G19)) := by
    have h1 := Nat.div_add_mod V (B64 ^ (k + 1))
    have h2 : B64 ^ k * (B64 * (V / B64 ^ (k + 1) * G19)) = B64 ^ (k + 1) * (V / B64 ^ (k + 1)) * G19 := by
      rw [Nat.pow_succ]; simp only [Nat.mul_assoc]
    rw [h2]
    generalize B64 ^ (k + 1) * (V / B64 ^ (k + 1)) = p at *
    generalize V % B64 ^ (k + 1) = r at *
    have h3 : V * G19 = p * G19 + r * G19 := by rw [← h1, Nat.add_mul]
    omega
  unfold D
  rw [h, Nat.add_mul_div_left _ _ hp, gcar_parts, Nat.add_mul_mod_self_left]
  rfl

/-- The digits of the number while it is multiplied. -/
def gF (V c k j : Nat) : Nat := if j < k then D B64 (V * G19 + c) j else D B64 V j

theorem gtop {V c n : Nat} (hV : V < B64 ^ n) (hc : c < G19) : V * G19 + c < B64 ^ (n + 1) ∧ gcar V c n = D B64 (V * G19 + c) n := by
  have h1 : V * G19 + c < B64 ^ n * G19 := by
    have h2 : (V + 1) * G19 ≤ B64 ^ n * G19 := Nat.mul_le_mul_right _ hV
    rw [Nat.add_mul, Nat.one_mul] at h2
    omega
  have h3 : B64 ^ n * G19 ≤ B64 ^ n * B64 := Nat.mul_le_mul_left _ (by decide)
  refine ⟨by rw [Nat.pow_succ]; omega, ?_⟩
  have hg := gcar_lt (V := V) (k := n) hc
  unfold gcar at hg ⊢
  rw [Nat.mod_eq_of_lt hV] at hg ⊢
  unfold D
  rw [Nat.mod_eq_of_lt]
  exact Nat.lt_of_lt_of_le hg (by decide)

end Go.Proofs.YtahehlajpaoiiaaGreatDoor


/-
  The program's reading of an integer.
-/
namespace Go.Proofs.YtahehlajpaoiiaaGreatDoor
open Go.RowKit

/-- A numeral: digits, and no needless zero ahead. -/
def Numeral (l : List UInt8) : Prop := (∀ b ∈ l, digit10 b) ∧ (l = [48] ∨ (l ≠ [] ∧ l.head? ≠ some 48))

/-- A call that tells whether something holds. -/
def RetP (w : World) (p : Prop) (e : Ending) (w' : World) : Prop := ∃ r : Bool, e = .returned (.bool r) ∧ (r = true ↔ p) ∧ w = w'

end Go.Proofs.YtahehlajpaoiiaaGreatDoor
