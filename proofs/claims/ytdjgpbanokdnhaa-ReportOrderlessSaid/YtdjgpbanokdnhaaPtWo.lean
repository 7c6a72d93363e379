/-
  report.without and report.Changed.
-/
import Derived.Test.YtdjgpbanokdnhaaPtBs
import Derived.Test.YtdjgpbanokdnhaaPtZi
namespace Go.Proofs.Ytdjgpbanokdnhaa.Pt
open Go.RowKit
attribute [local go_sem ↓] Go.wp_at_zero Go.wp_at_succ

set_option maxHeartbeats 4000000 in
set_option maxRecDepth 100000 in
theorem without1_f (o : List Rep) (ho : Inc o) (hl : o.length ≤ 1000000) (r : Rep) (g : Nat) (u : Value) (w : World) (hu : IsL w u o) (hc : w.cell? ⟨g, 0, none⟩ = some u) (hg : g < w.heap.size) :
    Calls Try.prog 61 #[agR r, .pointer (some ⟨g, 0, none⟩)] w (RetB w (.bool (decide (r ∈ o)))) := by
  have CS : Hid (∀ V, Bel w V → Calls Try.prog 62 #[u, agR r, .func (.func 17) #[] #[]] V (RetF V (decide (r ∈ o)))) := Lib.hid fun V hb => bsearch_f o r u V (hu.bel hb) ho hl
  have hc2 : ∀ x, (w.alloc x).cell? ⟨g, 0, none⟩ = some u := fun x => ((Bel.new w x).cell hg).trans hc
  obtain ⟨p, c, rfl⟩ := hu.shape
  generalize decide (r ∈ o) = res at CS ⊢
  clear hu hc ho hl
  go_enter Try.func61, Try.ntmps61
  go_wp2_with (go_at_call 62; (with_reducible refine (CS.out _ (Bel.new _ _)).mono ?_); rintro e V ⟨n, rfl, hb⟩; have B := Lib.hid ((Bel.new w _).trans hb); clear hb)
  go_ret
  exact ⟨rfl, B.out⟩

set_option maxHeartbeats 4000000 in
set_option maxRecDepth 100000 in
theorem without_f (l o : List Rep) (v u : Value) (w : World) (hv : IsL w v l) (hu : IsL w u o) (ho : Inc o) (hb : l.length ≤ 1000000) (hb2 : o.length ≤ 1000000) :
    Calls Try.prog 48 #[v, u] w (RetP w fun x W => Own w W x (lackL l o)) := by
  have HC : Hid (∀ W, Bel w W → Calls Try.prog 59 #[v] W (RetP W fun x W' => Own W W' x l)) := Lib.hid fun W hbl => clone_f l v W (hv.bel hbl) hb
  have eg : ∀ args w, (callFunc 61 args).run Try.prog w = .ok (.enter 61 args) w := enters_of Try.func61 (by kernel_rfl) rfl
  have HP : Hid (Pred (w.alloc (.cells #[u] 34)) 61 #[.pointer (some ⟨w.heap.size, 0, none⟩)] (fun r => decide (r ∈ o))) := Lib.hid fun W hbl r => without1_f o ho hb2 r w.heap.size u W (hu.bel ((Bel.new w _).trans hbl)) ((hbl.cell (by simp)).trans (blkAt (heap_new w _) 0)) (Nat.lt_of_lt_of_le (by simp) hbl.size)
  have HD : Hid (∀ W x, Own (w.alloc (.cells #[u] 34)) W x l → Bel (w.alloc (.cells #[u] 34)) W → Calls Try.prog 58 #[x, .func (.func 61) #[] #[.pointer (some ⟨w.heap.size, 0, none⟩)]] W (RetO (w.alloc (.cells #[u] 34)) (lackL l o))) :=
    Lib.hid fun W x h1 h2 => deleteFunc_f _ W l (fun r => decide (r ∈ o)) _ _ x h1 h2 hb eg HP.out
  obtain ⟨p, c, rfl⟩ := hv.shape
  obtain ⟨q, d, rfl⟩ := hu.shape
  clear hv hu eg HP
  go_enter Try.func48, Try.ntmps48
  go_wp2_with (first
    | (go_at_call 59; refine (HC.out _ (Bel.new _ _)).mono ?_; rintro e w1 ⟨x, rfl, hown, hbel⟩; have O1 := Lib.hid hown; have B1 := Lib.hid hbel; clear hown hbel)
    | (go_at_call 58; refine (HD.out _ _ O1.out B1.out).mono ?_; rintro e w2 ⟨y, rfl, hown, hbel⟩; have O2 := Lib.hid hown; have B2 := Lib.hid hbel; clear hown hbel))
  go_ret
  exact ⟨_, rfl, own_base O2.out (by simp), (Bel.new w _).trans B2.out⟩

set_option maxHeartbeats 4000000 in
set_option maxRecDepth 100000 in
theorem changed_f (a b : List Rep) (v u : Value) (w : World) (hv : IsL w v a) (hu : IsL w u b) (ha : a.length ≤ 400000) (hb : b.length ≤ 400000) :
    Calls Try.prog 35 #[v, u] w (RetP w fun x W => OwnI w W x (chgL a b)) := by
  have ka : (cntL a).length ≤ 400000 := Nat.le_trans (List.length_filter_le _ _) (Nat.le_trans (setL_len _) ha)
  have kb : (cntL b).length ≤ 400000 := Nat.le_trans (List.length_filter_le _ _) (Nat.le_trans (setL_len _) hb)
  have C1 : Hid (∀ V, Bel w V → Calls Try.prog 27 #[v] V (RetP V fun x W => Own V W x (cntL a))) := Lib.hid fun V h => counting_f a v V (hv.bel h) (by omega)
  have C2 : Hid (∀ V, Bel w V → Calls Try.prog 27 #[u] V (RetP V fun x W => Own V W x (cntL b))) := Lib.hid fun V h => counting_f b u V (hu.bel h) (by omega)
  have W1 : Hid (∀ V x y, IsL V x (cntL a) → IsL V y (cntL b) → Calls Try.prog 48 #[x, y] V (RetP V fun x W => Own V W x (lackL (cntL a) (cntL b)))) := Lib.hid fun V x y h1 h2 => without_f _ _ x y V h1 h2 (cntL_inc b) (by omega) (by omega)
  have W2 : Hid (∀ V x y, IsL V x (cntL b) → IsL V y (cntL a) → Calls Try.prog 48 #[x, y] V (RetP V fun x W => Own V W x (lackL (cntL b) (cntL a)))) := Lib.hid fun V x y h1 h2 => without_f _ _ x y V h1 h2 (cntL_inc a) (by omega) (by omega)
  have l1 := lackL_len (cntL a) (cntL b)
  have l2 := lackL_len (cntL b) (cntL a)
  have CC : Hid (∀ V x y g, V.cell? ⟨g, 0, none⟩ = some x → V.cell? ⟨g, 1, none⟩ = some y → g < V.heap.size → IsL V x (lackL (cntL a) (cntL b)) → IsL V y (lackL (cntL b) (cntL a)) → Calls Try.prog 40 #[.slice (some ⟨g, 0, none⟩) 2 2] V (RetP V fun x W => Own V W x (lackL (cntL a) (cntL b) ++ lackL (cntL b) (cntL a)))) := Lib.hid fun V x y g h1 h2 h3 h4 h5 => concat_f _ _ x y g V h1 h2 h3 h4 h5 (by omega)
  have CO : Hid (∀ V x, IsL V x (lackL (cntL a) (cntL b) ++ lackL (cntL b) (cntL a)) → Calls Try.prog 46 #[x] V (RetP V fun x W => OwnI V W x (chgL a b))) := Lib.hid fun V x h => objectsOf_f _ x V h (by rw [List.length_append]; omega)
  obtain ⟨p, c, rfl⟩ := hv.shape
  obtain ⟨q, d, rfl⟩ := hu.shape
  clear hv hu ha hb ka kb l1 l2
  have B := Lib.hid (Bel.refl w)
  generalize lackL (cntL a) (cntL b) ++ lackL (cntL b) (cntL a) = la at CC CO
  generalize lackL (cntL a) (cntL b) = x1 at CC W1
  generalize lackL (cntL b) (cntL a) = x2 at CC W2
  go_enter Try.func35, Try.ntmps35
  go_wp2_with (first
    | (go_at_call 27; first
      | ((with_reducible refine (C1.out _ B.out).mono ?_); rintro e V ⟨ya, rfl, ho, hb2⟩; have XA := Lib.hid ho.isl; replace B := Lib.hid (B.out.trans hb2); clear ho hb2 C1)
      | ((with_reducible refine (C2.out _ B.out).mono ?_); rintro e V ⟨yb, rfl, ho, hb2⟩; have XB := Lib.hid ho.isl; replace XA := Lib.hid (XA.out.bel hb2); replace B := Lib.hid (B.out.trans hb2); clear ho hb2 C2))
    | (go_at_call 48; first
      | ((with_reducible refine (W1.out _ _ _ XA.out XB.out).mono ?_); rintro e V ⟨y1, rfl, ho, hb2⟩; obtain ⟨p1, c1, rfl⟩ := ho.isl.shape; have Y1 := Lib.hid ho.isl; replace XA := Lib.hid (XA.out.bel hb2); replace XB := Lib.hid (XB.out.bel hb2); replace B := Lib.hid (B.out.trans hb2); clear ho hb2 W1)
      | ((with_reducible refine (W2.out _ _ _ XB.out XA.out).mono ?_); rintro e V3 ⟨y2, rfl, ho, hb2⟩; obtain ⟨p2, c2, rfl⟩ := ho.isl.shape; have Y2 := Lib.hid ho.isl; replace Y1 := Lib.hid (Y1.out.bel hb2); replace B := Lib.hid (B.out.trans hb2); clear ho hb2 W2))
    | (go_at_call 40; (refine (CC.out _ _ _ V3.heap.size (blkAt (heap_new V3 _) 0) (blkAt (heap_new V3 _) 1) (by simp) (Y1.out.bel (Bel.new _ _)) (Y2.out.bel (Bel.new _ _))).mono ?_); rintro e V ⟨y3, rfl, ho, hb2⟩; have Z := Lib.hid ho.isl; replace B := Lib.hid ((B.out.alloc _).trans hb2); clear ho hb2)
    | (go_at_call 46; (refine (CO.out _ _ Z.out).mono ?_); rintro e V ⟨y4, rfl, ho, hb2⟩; have R := Lib.hid (ownI_base ho B.out.size); replace B := Lib.hid (B.out.trans hb2); clear ho hb2))
  go_ret
  exact ⟨_, rfl, R.out, B.out⟩
end Go.Proofs.Ytdjgpbanokdnhaa.Pt
