/-
  The walk of ReportAdds.
-/
import Derived.Test.YtdjgpbanokdnhaaPtMg
namespace Go.Proofs.Ytdjgpbanokdnhaa.Pt
open Go.RowKit
attribute [local go_sem ↓] Go.wp_at_zero Go.wp_at_succ

theorem cnt_cnt (l : List Rep) : cntL (cntL l) = cntL l := by
  refine (cntL_of (cntL_inc l) fun r => ?_).symm
  constructor
  · intro h
    have h2 := (cntL_mem l r).1 h
    refine ⟨h, ?_, h2.2.2⟩
    rw [winB_iff]
    intro q hq e
    exact (winB_iff l r).1 h2.2.1 q ((cntL_mem l q).1 hq).1 e
  · exact And.left
theorem adds_plain (l : List Rep) (r x : Rep) (h : x.ob ≠ r.ob ∨ x.sq ≠ r.sq) : x ∈ cntL l ↔ x ∈ cntL (l ++ [r]) := by
  have hid : idOf r ≠ idOf x := by
    intro e
    simp only [idOf, Prod.mk.injEq] at e
    rcases h with h | h
    · exact h e.1.symm
    · exact h e.2.symm
  have hx : x ≠ r := fun e => hid (by rw [e])
  rw [cntL_mem, cntL_mem, winB_iff, winB_iff]
  simp only [List.mem_append, List.mem_singleton]
  constructor
  · rintro ⟨h1, h2, h3⟩
    refine ⟨.inl h1, ?_, h3⟩
    rintro q (hq | rfl) e
    · exact h2 q hq e
    · exact absurd e hid
  · rintro ⟨h1, h2, h3⟩
    refine ⟨h1.resolve_right hx, fun q hq e => h2 q (.inl hq) e, h3⟩

/-- A report in a block of the call's own. -/
def Bx (V : World) (g : Nat) (r : Rep) : Prop := V.heap[g]? = some (.cells #[.int .i64 r.ob, .int .i64 r.sq, .int .i64 r.vs, .int .i64 r.dv, .int .i64 r.tm, .int .i64 r.px, .int .i64 r.py, .bool r.cn] 23 (0, 0))
theorem Bx.next {V V' : World} {g : Nat} {r : Rep} (h : Bx V g r) (hb : Bel V V') : Bx V' g r := (hb.b.block _ (Array.getElem?_eq_some_iff.1 h).1).trans h
theorem Bx.at8 {V : World} {g : Nat} {r : Rep} (h : Bx V g r) : V.cell? ⟨g, 0, none⟩ = some (.int .i64 r.ob) ∧ V.cell? ⟨g, 1, none⟩ = some (.int .i64 r.sq) ∧ V.cell? ⟨g, 2, none⟩ = some (.int .i64 r.vs) ∧ V.cell? ⟨g, 3, none⟩ = some (.int .i64 r.dv) ∧
    V.cell? ⟨g, 4, none⟩ = some (.int .i64 r.tm) ∧ V.cell? ⟨g, 5, none⟩ = some (.int .i64 r.px) ∧ V.cell? ⟨g, 6, none⟩ = some (.int .i64 r.py) ∧ V.cell? ⟨g, 7, none⟩ = some (.bool r.cn) :=
  ⟨blkAt h 0, blkAt h 1, blkAt h 2, blkAt h 3, blkAt h 4, blkAt h 5, blkAt h 6, blkAt h 7⟩

set_option maxHeartbeats 4000000 in
set_option maxRecDepth 100000 in
theorem adds_no (l : List Rep) (r : Rep) (p : Option Addr) (c : Nat) (w : World) (h : (20 : Int) < l.length) :
    Calls Try.prog 11 #[.slice p l.length c, agR r] w (RetB w (.bool true)) := by
  have B : Hid (Bel w (w.alloc (.cells #[.int .i64 r.ob, .int .i64 r.sq, .int .i64 r.vs, .int .i64 r.dv, .int .i64 r.tm, .int .i64 r.px, .int .i64 r.py, .bool r.cn] 23))) := Lib.hid (Bel.new w _)
  go_enter Try.func11, Try.ntmps11
  go_wp2_with (go_at_call 14; refine (known_f _).mono ?_; rintro e V ⟨rfl, hb⟩; replace B := Lib.hid (B.out.trans hb); clear hb)
  go_ret
  exact ⟨rfl, B.out⟩

theorem late_S {P : Program} {ops : Array Oper} {Q : Exit → Act → World → Prop} {id : Nat} {a : Act} {W : World} {S : World → Prop} {L : List Nat} (hd : ∀ V, S V → S V.drew) (h0 : S W) (hm : P.follows .mixedOrders = true) (_hL : stW ops = L)
    (h : ∀ V, S V → wpLate P .any ops Q S L ops.size (Array.replicate ops.size false) a V) : (Code.region id ops true).wp P Q a W := wp_region_late hm (h _ (hd _ h0))
theorem kp16 {a b c d e f g h i j k l m n o p : Prop} : (a ∧ b ∧ c ∧ d ∧ e ∧ f ∧ g ∧ h) → (i ∧ j ∧ k ∧ l ∧ m ∧ n ∧ o ∧ p) → a ∧ b ∧ c ∧ d ∧ e ∧ f ∧ g ∧ h ∧ i ∧ j ∧ k ∧ l ∧ m ∧ n ∧ o ∧ p :=
  fun ⟨h1, h2, h3, h4, h5, h6, h7, h8⟩ h9 => ⟨h1, h2, h3, h4, h5, h6, h7, h8, h9⟩
/-- What stays known behind the first region. -/
structure Ad (w V : World) (r : Rep) (vo vn : Value) (old now : List Rep) : Prop where
  b : Bel w V
  x : Bx V w.heap.size r
  o : IsL V vo old
  n : IsL V vn now
theorem Ad.next {w V V' : World} {r : Rep} {vo vn : Value} {old now : List Rep} (h : Ad w V r vo vn old now) (hb : Bel V V') : Ad w V' r vo vn old now := ⟨h.b.trans hb, h.x.next hb, h.o.bel hb, h.n.bel hb⟩

set_option maxHeartbeats 8000000 in
set_option maxRecDepth 100000 in
theorem adds_yes (l : List Rep) (r : Rep) (p : Option Addr) (c : Nat) (w : World) (hv : IsL w (.slice p l.length c) l) (h1 : l.length ≤ 20) :
    Calls Try.prog 11 #[.slice p l.length c, agR r] w (RetB w (.bool true)) := by
  have C1 : Hid (∀ V, Bel w V → Calls Try.prog 27 #[.slice p l.length c] V (RetP V fun x W => Own V W x (cntL l))) := Lib.hid fun V hb => counting_f l _ V (hv.bel hb) (by omega)
  have HJ : Hid (∀ V x, Bel w V → IsL V x [r] → Calls Try.prog 23 #[.slice p l.length c, x] V (RetP V fun x W => Own V W x (l ++ [r]))) := Lib.hid fun V x hb h => join_f l [r] _ _ V (hv.bel hb) h (by simp; omega)
  have C2 : Hid (∀ V x, IsL V x (l ++ [r]) → Calls Try.prog 27 #[x] V (RetP V fun x W => Own V W x (cntL (l ++ [r])))) := Lib.hid fun V x h => counting_f _ x V h (by simp; omega)
  have PL : Hid (∀ x : Rep, x.ob ≠ r.ob ∨ x.sq ≠ r.sq → (x ∈ cntL l ↔ x ∈ cntL (l ++ [r]))) := Lib.hid (adds_plain l r)
  have E1 : Hid (cntL (cntL l) = cntL l) := Lib.hid (cnt_cnt l)
  have E2 : Hid (cntL (cntL (l ++ [r])) = cntL (l ++ [r])) := Lib.hid (cnt_cnt _)
  have Z1 : Hid ((cntL l).length ≤ 100) := Lib.hid (Nat.le_trans (List.length_filter_le _ _) (Nat.le_trans (setL_len _) (by omega)))
  have Z2 : Hid ((cntL (l ++ [r])).length ≤ 100) := Lib.hid (Nat.le_trans (List.length_filter_le _ _) (Nat.le_trans (setL_len _) (by simp; omega)))
  clear hv
  generalize cntL (l ++ [r]) = now at C2 PL E2 Z2
  generalize l ++ [r] = lr at C2 HJ
  generalize cntL l = old at C1 PL E1 Z1
  have g1 : ¬ (20 : Int) < l.length := by omega
  have B : Hid (Bel w (w.alloc (.cells #[.int .i64 r.ob, .int .i64 r.sq, .int .i64 r.vs, .int .i64 r.dv, .int .i64 r.tm, .int .i64 r.px, .int .i64 r.py, .bool r.cn] 23))) := Lib.hid (Bel.new w _)
  have X : Hid (Bx (w.alloc (.cells #[.int .i64 r.ob, .int .i64 r.sq, .int .i64 r.vs, .int .i64 r.dv, .int .i64 r.tm, .int .i64 r.px, .int .i64 r.py, .bool r.cn] 23)) w.heap.size r) := Lib.hid (heap_new w _)
  clear h1
  go_enter Try.func11, Try.ntmps11
  go_wp2_with (go_at_call 14; refine (known_f _).mono ?_; rintro e V ⟨rfl, hb⟩; replace B := Lib.hid (B.out.trans hb); replace X := Lib.hid (X.out.next hb); clear hb)
  go_cut [5, 6] (fun s5 s6 wx => Ad w wx r s5 s6 old now)
  case first =>
    have BV := Lib.hid B.out
    have XV := Lib.hid X.out
    have XD := Lib.hid (X.out.next (Bel.refl V).drew)
    replace B := Lib.hid B.out.drew
    replace X := XD
    clear XD
    obtain ⟨f0, f1, f2, f3, f4, f5, f6, f7⟩ := X.out.at8
    go_region_with (first
      | (go_at_call 27; first
        | ((with_reducible refine (C1.out _ B.out).mono ?_); rintro e V2 ⟨x1, rfl, ho, hb2⟩; have O1 := Lib.hid ho.isl; replace B := Lib.hid (B.out.trans hb2); replace X := Lib.hid (X.out.next hb2); (try (replace JX := Lib.hid (JX.out.bel hb2))); (try (replace N1 := Lib.hid (N1.out.bel hb2))); clear ho hb2 f0 f1 f2 f3 f4 f5 f6 f7; obtain ⟨f0, f1, f2, f3, f4, f5, f6, f7⟩ := X.out.at8)
        | ((with_reducible refine (C1.out _ (B.out.alloc _)).mono ?_); rintro e V2 ⟨x1, rfl, ho, hb2⟩; have O1 := Lib.hid ho.isl; have S1 := Lib.hid ((isl_one r rfl _ 23 rfl).bel hb2); replace B := Lib.hid ((B.out.alloc _).trans hb2); replace X := Lib.hid ((X.out.next (Bel.new _ _)).next hb2); clear ho hb2 f0 f1 f2 f3 f4 f5 f6 f7; obtain ⟨f0, f1, f2, f3, f4, f5, f6, f7⟩ := X.out.at8)
        | ((with_reducible refine (C1.out _ (BV.out.alloc _).drew).mono ?_); rintro e V2 ⟨x1, rfl, ho, hb2⟩; have O1 := Lib.hid ho.isl; have S1 := Lib.hid (((isl_one r rfl V 23 rfl).bel (Bel.refl _).drew).bel hb2); replace B := Lib.hid ((BV.out.alloc _).drew.trans hb2); replace X := Lib.hid ((XV.out.next ((Bel.new _ _).drew)).next hb2); clear ho hb2 f0 f1 f2 f3 f4 f5 f6 f7; obtain ⟨f0, f1, f2, f3, f4, f5, f6, f7⟩ := X.out.at8)
        | ((with_reducible refine (C2.out _ _ JX.out).mono ?_); rintro e V2 ⟨x1, rfl, ho, hb2⟩; have N1 := Lib.hid ho.isl; replace B := Lib.hid (B.out.trans hb2); replace X := Lib.hid (X.out.next hb2); (try (replace O1 := Lib.hid (O1.out.bel hb2))); clear ho hb2 JX f0 f1 f2 f3 f4 f5 f6 f7; obtain ⟨f0, f1, f2, f3, f4, f5, f6, f7⟩ := X.out.at8))
      | (go_at_call 23; first
        | ((with_reducible refine (HJ.out _ _ B.out S1.out).mono ?_); rintro e V2 ⟨x1, rfl, ho, hb2⟩; have JX := Lib.hid ho.isl; replace B := Lib.hid (B.out.trans hb2); replace X := Lib.hid (X.out.next hb2); (try (replace O1 := Lib.hid (O1.out.bel hb2))); clear ho hb2 S1 f0 f1 f2 f3 f4 f5 f6 f7; obtain ⟨f0, f1, f2, f3, f4, f5, f6, f7⟩ := X.out.at8)
        | ((with_reducible refine (HJ.out _ _ (BV.out.alloc _).drew ((isl_one r rfl V 23 rfl).bel (Bel.refl _).drew)).mono ?_); rintro e V2 ⟨x1, rfl, ho, hb2⟩; have JX := Lib.hid ho.isl; replace B := Lib.hid ((BV.out.alloc _).drew.trans hb2); replace X := Lib.hid ((XV.out.next ((Bel.new _ _).drew)).next hb2); clear ho hb2 f0 f1 f2 f3 f4 f5 f6 f7; obtain ⟨f0, f1, f2, f3, f4, f5, f6, f7⟩ := X.out.at8)
        | ((with_reducible refine (HJ.out _ _ (B.out.alloc _) (isl_one r rfl _ 23 rfl)).mono ?_); rintro e V2 ⟨x1, rfl, ho, hb2⟩; have JX := Lib.hid ho.isl; (try (replace O1 := Lib.hid (O1.out.bel ((Bel.refl _).alloc _ |>.trans hb2)))); replace B := Lib.hid ((B.out.alloc _).trans hb2); replace X := Lib.hid ((X.out.next (Bel.new _ _)).next hb2); clear ho hb2 f0 f1 f2 f3 f4 f5 f6 f7; obtain ⟨f0, f1, f2, f3, f4, f5, f6, f7⟩ := X.out.at8)))
    all_goals
      go_wp2_with fail
      go_meet
      exact ⟨B.out, X.out, O1.out, N1.out⟩
  case rest =>
    have K0 := Lib.hid hcut
    clear hcut C1 HJ C2 B X
    go_wp2_with (go_at_call 22; refine (union_f old now _ _ _ K0.out.o K0.out.n (by have := Z1.out; have := Z2.out; omega)).mono ?_; rintro e V3 ⟨x1, rfl, ho, hb2⟩; have KA := Lib.hid ho.isl; replace K0 := Lib.hid (K0.out.next hb2); clear ho hb2)
    obtain ⟨p7, c7', rfl⟩ := KA.out.shape
    have ZA : Hid ((setL (old ++ now)).length ≤ 1000) := Lib.hid (Nat.le_trans (setL_len _) (by have := Z1.out; have := Z2.out; rw [List.length_append]; omega))
    generalize setL (old ++ now) = all at KA ZA
    obtain ⟨_, _, e1, _, _, hla, _⟩ := KA.out
    injection e1 with e1 e2 e3
    subst e1
    clear e2 e3
    have LA := Lib.hid hla
    clear hla KA
    go_loopw [8] (fun s8 wr => ∃ k : Nat, k ≤ all.length ∧ s8 = .int .i64 k ∧ Bel V3 wr) (fun s8 _ => all.length - (intOf s8).toNat)
    case atStart => exact ⟨0, by omega, rfl, Bel.refl _⟩
    case round =>
      obtain ⟨k, hk, rfl, hbl⟩ := hrel
      have BW := Lib.hid hbl
      have K1 := Lib.hid (K0.out.next hbl)
      clear hbl
      have hza := ZA.out
      by_cases hlt : k < all.length
      · obtain ⟨g, o, rfl, hg, hat⟩ := isl_open LA.out hlt
        have CC : Hid (∀ V, Bel V3 V → At8 V g (o + k * 8) all[k]!) := Lib.hid fun V hb => (hat.bel hg hb).at8 hlt
        have hk8 : (k : Int) < all.length := by omega
        clear hat hg
        generalize all[k]! = x at CC
        obtain ⟨c0, c1, c2, c3, c4, c5, c6, c7⟩ := CC.out wr BW.out
        obtain ⟨f0, f1, f2, f3, f4, f5, f6, f7⟩ := K1.out.x.at8
        by_cases hd : x.ob = r.ob ∧ x.sq = r.sq
        · obtain ⟨hd1, hd2⟩ := hd
          go_wp2
          go_quiet (fail)
          go_wp2
          go_roundw
          case rel => exact ⟨k + 1, by omega, by go_num, BW.out.drewN _⟩
          case measure => simp [intOf]; omega
        · have hd' : x.ob ≠ r.ob ∨ x.sq ≠ r.sq := by
            by_cases h : x.ob = r.ob
            · exact .inr fun h2 => hd ⟨h, h2⟩
            · exact .inl h
          have hz := PL.out x hd'
          have CO : Hid (∀ V, (Ad w V r u5 u6 old now ∧ Bel V3 V) → Calls Try.prog 24 #[u5, agR x] V (fun e V' => e = .returned (.bool (decide (x ∈ old))) ∧ (Ad w V' r u5 u6 old now ∧ Bel V3 V'))) := Lib.hid fun V h => (contains_f old x _ V h.1.o).mono fun e V' ⟨h1, h2⟩ => ⟨h1, h.1.next h2, h.2.trans h2⟩
          have CN : Hid (∀ V, (Ad w V r u5 u6 old now ∧ Bel V3 V) → Calls Try.prog 24 #[u6, agR x] V (fun e V' => e = .returned (.bool (decide (x ∈ old))) ∧ (Ad w V' r u5 u6 old now ∧ Bel V3 V'))) := Lib.hid fun V h => by
            have := contains_f now x _ V h.1.n
            rw [decide_eq_decide.2 hz.symm] at this
            exact this.mono fun e V' ⟨h1, h2⟩ => ⟨h1, h.1.next h2, h.2.trans h2⟩
          generalize decide (x ∈ old) = z at CO CN
          clear hz hd
          rcases hd' with hd | hd
          · have q1 : (x.ob != r.ob) = true := bne_iff_ne.2 hd
            go_wp2
            have H16 : Hid (∀ w', (Ad w w' r u5 u6 old now ∧ Bel V3 w') → w'.cell? ⟨g, o + k * 8, none⟩ = some (.int .i64 x.ob) ∧ w'.cell? ⟨g, o + k * 8 + 1, none⟩ = some (.int .i64 x.sq) ∧ w'.cell? ⟨g, o + k * 8 + 2, none⟩ = some (.int .i64 x.vs) ∧ w'.cell? ⟨g, o + k * 8 + 3, none⟩ = some (.int .i64 x.dv) ∧ w'.cell? ⟨g, o + k * 8 + 4, none⟩ = some (.int .i64 x.tm) ∧ w'.cell? ⟨g, o + k * 8 + 5, none⟩ = some (.int .i64 x.px) ∧ w'.cell? ⟨g, o + k * 8 + 6, none⟩ = some (.int .i64 x.py) ∧ w'.cell? ⟨g, o + k * 8 + 7, none⟩ = some (.bool x.cn) ∧ w'.cell? ⟨w.heap.size, 0, none⟩ = some (.int .i64 r.ob) ∧ w'.cell? ⟨w.heap.size, 1, none⟩ = some (.int .i64 r.sq) ∧ w'.cell? ⟨w.heap.size, 2, none⟩ = some (.int .i64 r.vs) ∧ w'.cell? ⟨w.heap.size, 3, none⟩ = some (.int .i64 r.dv) ∧ w'.cell? ⟨w.heap.size, 4, none⟩ = some (.int .i64 r.tm) ∧ w'.cell? ⟨w.heap.size, 5, none⟩ = some (.int .i64 r.px) ∧ w'.cell? ⟨w.heap.size, 6, none⟩ = some (.int .i64 r.py) ∧ w'.cell? ⟨w.heap.size, 7, none⟩ = some (.bool r.cn)) := Lib.hid fun w' h => kp16 (CC.out _ h.2) h.1.x.at8
            clear c0 c1 c2 c3 c4 c5 c6 c7 f0 f1 f2 f3 f4 f5 f6 f7
            refine late_S (S := fun V => Ad w V r u5 u6 old now ∧ Bel V3 V) (fun V h => ⟨h.1.next (Bel.refl _).drew, h.2.drew⟩) ⟨K1.out, BW.out⟩ ?_ rfl ?_
            kernel_rfl
            intro V hS0
            have hS := Lib.hid hS0
            clear hS0
            repeat' (first
              | ((first
                  | refine tkF (oi := ⟨some _, _, _, _, _, _⟩) rfl rfl (by kernel_rfl) (fun _ _ _ h => h) (Or.inl ⟨by rfl, by intro w' _; first | (go_simp; done) | (go_simp; with_reducible rfl)⟩) ?_
                  | refine tkN (oi := ⟨some _, _, _, _, _, _⟩) rfl rfl (by decide +kernel) (fun _ _ _ h => h) hS.out (Or.inl ⟨by rfl, by intro w' hSw; obtain ⟨e0, e1, e2, e3, e4, e5, e6, e7, e8, e9, e10, e11, e12, e13, e14, e15⟩ := H16.out _ hSw; first | (go_simp; done) | (go_simp; with_reducible rfl)⟩) ?_
                  | refine tkG (oi := ⟨_, _, _, _, _, _⟩) rfl rfl (by kernel_rfl) (fun _ _ _ h => h) (by rfl) ?_)
                 (try simp only [Act.put, seti, set0, setS]))
              | ((first | refine one (o := ⟨_, _, _, _, _, _⟩) rfl rfl (by kernel_rfl) (fun K hK => ?_) | refine two (o := ⟨_, _, _, _, _, _⟩) (o' := ⟨_, _, _, _, _, _⟩) rfl rfl rfl (by kernel_rfl) (fun K hK => ?_) (fun K hK => ?_))
                 all_goals (go_simp; first
                   | ((with_reducible refine (CO.out _ hS.out).mono ?_); rintro e V4 ⟨rfl, hS1⟩; refine hK.out _ _ (Or.inr fun _ => hS1) ?_; clear hK K hS; have hS := Lib.hid hS1; clear hS1; (try simp only [Act.put, seti, set0, setS]))
                   | ((with_reducible refine (CN.out _ hS.out).mono ?_); rintro e V4 ⟨rfl, hS1⟩; refine hK.out _ _ (Or.inr fun _ => hS1) ?_; clear hK K hS; have hS := Lib.hid hS1; clear hS1; (try simp only [Act.put, seti, set0, setS]))))
              | refine done rfl (by kernel_rfl) ?_ _)
            all_goals
              go_wp2
              go_roundw
              case rel => exact ⟨k + 1, by omega, by go_num, hS.out.2⟩
              case measure => simp [intOf]; omega
          · have q2 : (x.sq != r.sq) = true := bne_iff_ne.2 hd
            by_cases he : x.ob = r.ob
            · have q1 : (x.ob != r.ob) = false := by simp [he]
              clear he
              go_wp2
              have H16 : Hid (∀ w', (Ad w w' r u5 u6 old now ∧ Bel V3 w') → w'.cell? ⟨g, o + k * 8, none⟩ = some (.int .i64 x.ob) ∧ w'.cell? ⟨g, o + k * 8 + 1, none⟩ = some (.int .i64 x.sq) ∧ w'.cell? ⟨g, o + k * 8 + 2, none⟩ = some (.int .i64 x.vs) ∧ w'.cell? ⟨g, o + k * 8 + 3, none⟩ = some (.int .i64 x.dv) ∧ w'.cell? ⟨g, o + k * 8 + 4, none⟩ = some (.int .i64 x.tm) ∧ w'.cell? ⟨g, o + k * 8 + 5, none⟩ = some (.int .i64 x.px) ∧ w'.cell? ⟨g, o + k * 8 + 6, none⟩ = some (.int .i64 x.py) ∧ w'.cell? ⟨g, o + k * 8 + 7, none⟩ = some (.bool x.cn) ∧ w'.cell? ⟨w.heap.size, 0, none⟩ = some (.int .i64 r.ob) ∧ w'.cell? ⟨w.heap.size, 1, none⟩ = some (.int .i64 r.sq) ∧ w'.cell? ⟨w.heap.size, 2, none⟩ = some (.int .i64 r.vs) ∧ w'.cell? ⟨w.heap.size, 3, none⟩ = some (.int .i64 r.dv) ∧ w'.cell? ⟨w.heap.size, 4, none⟩ = some (.int .i64 r.tm) ∧ w'.cell? ⟨w.heap.size, 5, none⟩ = some (.int .i64 r.px) ∧ w'.cell? ⟨w.heap.size, 6, none⟩ = some (.int .i64 r.py) ∧ w'.cell? ⟨w.heap.size, 7, none⟩ = some (.bool r.cn)) := Lib.hid fun w' h => kp16 (CC.out _ h.2) h.1.x.at8
              clear c0 c1 c2 c3 c4 c5 c6 c7 f0 f1 f2 f3 f4 f5 f6 f7
              refine late_S (S := fun V => Ad w V r u5 u6 old now ∧ Bel V3 V) (fun V h => ⟨h.1.next (Bel.refl _).drew, h.2.drew⟩) ⟨K1.out, BW.out⟩ ?_ rfl ?_
              kernel_rfl
              intro V hS0
              have hS := Lib.hid hS0
              clear hS0
              repeat' (first
                | ((first
                    | refine tkF (oi := ⟨some _, _, _, _, _, _⟩) rfl rfl (by kernel_rfl) (fun _ _ _ h => h) (Or.inl ⟨by rfl, by intro w' _; first | (go_simp; done) | (go_simp; with_reducible rfl)⟩) ?_
                    | refine tkN (oi := ⟨some _, _, _, _, _, _⟩) rfl rfl (by decide +kernel) (fun _ _ _ h => h) hS.out (Or.inl ⟨by rfl, by intro w' hSw; obtain ⟨e0, e1, e2, e3, e4, e5, e6, e7, e8, e9, e10, e11, e12, e13, e14, e15⟩ := H16.out _ hSw; first | (go_simp; done) | (go_simp; with_reducible rfl)⟩) ?_
                    | refine tkG (oi := ⟨_, _, _, _, _, _⟩) rfl rfl (by kernel_rfl) (fun _ _ _ h => h) (by rfl) ?_)
                   (try simp only [Act.put, seti, set0, setS]))
                | ((first | refine one (o := ⟨_, _, _, _, _, _⟩) rfl rfl (by kernel_rfl) (fun K hK => ?_) | refine two (o := ⟨_, _, _, _, _, _⟩) (o' := ⟨_, _, _, _, _, _⟩) rfl rfl rfl (by kernel_rfl) (fun K hK => ?_) (fun K hK => ?_))
                   all_goals (go_simp; first
                     | ((with_reducible refine (CO.out _ hS.out).mono ?_); rintro e V4 ⟨rfl, hS1⟩; refine hK.out _ _ (Or.inr fun _ => hS1) ?_; clear hK K hS; have hS := Lib.hid hS1; clear hS1; (try simp only [Act.put, seti, set0, setS]))
                     | ((with_reducible refine (CN.out _ hS.out).mono ?_); rintro e V4 ⟨rfl, hS1⟩; refine hK.out _ _ (Or.inr fun _ => hS1) ?_; clear hK K hS; have hS := Lib.hid hS1; clear hS1; (try simp only [Act.put, seti, set0, setS]))))
                | refine done rfl (by kernel_rfl) ?_ _)
              all_goals
                go_wp2
                go_roundw
                case rel => exact ⟨k + 1, by omega, by go_num, hS.out.2⟩
                case measure => simp [intOf]; omega
            · have q1 : (x.ob != r.ob) = true := bne_iff_ne.2 he
              go_wp2
              have H16 : Hid (∀ w', (Ad w w' r u5 u6 old now ∧ Bel V3 w') → w'.cell? ⟨g, o + k * 8, none⟩ = some (.int .i64 x.ob) ∧ w'.cell? ⟨g, o + k * 8 + 1, none⟩ = some (.int .i64 x.sq) ∧ w'.cell? ⟨g, o + k * 8 + 2, none⟩ = some (.int .i64 x.vs) ∧ w'.cell? ⟨g, o + k * 8 + 3, none⟩ = some (.int .i64 x.dv) ∧ w'.cell? ⟨g, o + k * 8 + 4, none⟩ = some (.int .i64 x.tm) ∧ w'.cell? ⟨g, o + k * 8 + 5, none⟩ = some (.int .i64 x.px) ∧ w'.cell? ⟨g, o + k * 8 + 6, none⟩ = some (.int .i64 x.py) ∧ w'.cell? ⟨g, o + k * 8 + 7, none⟩ = some (.bool x.cn) ∧ w'.cell? ⟨w.heap.size, 0, none⟩ = some (.int .i64 r.ob) ∧ w'.cell? ⟨w.heap.size, 1, none⟩ = some (.int .i64 r.sq) ∧ w'.cell? ⟨w.heap.size, 2, none⟩ = some (.int .i64 r.vs) ∧ w'.cell? ⟨w.heap.size, 3, none⟩ = some (.int .i64 r.dv) ∧ w'.cell? ⟨w.heap.size, 4, none⟩ = some (.int .i64 r.tm) ∧ w'.cell? ⟨w.heap.size, 5, none⟩ = some (.int .i64 r.px) ∧ w'.cell? ⟨w.heap.size, 6, none⟩ = some (.int .i64 r.py) ∧ w'.cell? ⟨w.heap.size, 7, none⟩ = some (.bool r.cn)) := Lib.hid fun w' h => kp16 (CC.out _ h.2) h.1.x.at8
              clear c0 c1 c2 c3 c4 c5 c6 c7 f0 f1 f2 f3 f4 f5 f6 f7
              refine late_S (S := fun V => Ad w V r u5 u6 old now ∧ Bel V3 V) (fun V h => ⟨h.1.next (Bel.refl _).drew, h.2.drew⟩) ⟨K1.out, BW.out⟩ ?_ rfl ?_
              kernel_rfl
              intro V hS0
              have hS := Lib.hid hS0
              clear hS0
              repeat' (first
                | ((first
                    | refine tkF (oi := ⟨some _, _, _, _, _, _⟩) rfl rfl (by kernel_rfl) (fun _ _ _ h => h) (Or.inl ⟨by rfl, by intro w' _; first | (go_simp; done) | (go_simp; with_reducible rfl)⟩) ?_
                    | refine tkN (oi := ⟨some _, _, _, _, _, _⟩) rfl rfl (by decide +kernel) (fun _ _ _ h => h) hS.out (Or.inl ⟨by rfl, by intro w' hSw; obtain ⟨e0, e1, e2, e3, e4, e5, e6, e7, e8, e9, e10, e11, e12, e13, e14, e15⟩ := H16.out _ hSw; first | (go_simp; done) | (go_simp; with_reducible rfl)⟩) ?_
                    | refine tkG (oi := ⟨_, _, _, _, _, _⟩) rfl rfl (by kernel_rfl) (fun _ _ _ h => h) (by rfl) ?_)
                   (try simp only [Act.put, seti, set0, setS]))
                | ((first | refine one (o := ⟨_, _, _, _, _, _⟩) rfl rfl (by kernel_rfl) (fun K hK => ?_) | refine two (o := ⟨_, _, _, _, _, _⟩) (o' := ⟨_, _, _, _, _, _⟩) rfl rfl rfl (by kernel_rfl) (fun K hK => ?_) (fun K hK => ?_))
                   all_goals (go_simp; first
                     | ((with_reducible refine (CO.out _ hS.out).mono ?_); rintro e V4 ⟨rfl, hS1⟩; refine hK.out _ _ (Or.inr fun _ => hS1) ?_; clear hK K hS; have hS := Lib.hid hS1; clear hS1; (try simp only [Act.put, seti, set0, setS]))
                     | ((with_reducible refine (CN.out _ hS.out).mono ?_); rintro e V4 ⟨rfl, hS1⟩; refine hK.out _ _ (Or.inr fun _ => hS1) ?_; clear hK K hS; have hS := Lib.hid hS1; clear hS1; (try simp only [Act.put, seti, set0, setS]))))
                | refine done rfl (by kernel_rfl) ?_ _)
              all_goals
                go_wp2
                go_roundw
                case rel => exact ⟨k + 1, by omega, by go_num, hS.out.2⟩
                case measure => simp [intOf]; omega
      · have hk8 : ¬ ((k : Int) < all.length) := by omega
        have H1 : Hid (∀ V x, IsL V x old → Calls Try.prog 27 #[x] V (RetP V fun x W => Own V W x old)) := Lib.hid fun V x h => by
          have := counting_f old x V h (by have := Z1.out; omega)
          rw [E1.out] at this
          exact this
        have H2 : Hid (∀ V x, IsL V x now → Calls Try.prog 27 #[x] V (RetP V fun x W => Own V W x now)) := Lib.hid fun V x h => by
          have := counting_f now x V h (by have := Z2.out; omega)
          rw [E2.out] at this
          exact this
        have SM : Hid (∀ V x y l, IsL V x l → IsL V y l → Calls Try.prog 19 #[x, y] V (RetB V (.bool true))) := Lib.hid fun V x y l h3 h4 => by
          have := same_f _ _ x y V h3 h4
          rw [decide_eq_true rfl] at this
          exact this
        clear E1 E2 PL
        go_wp2_with (first
          | (go_at_call 27; first
            | ((with_reducible refine (H1.out _ _ K1.out.o).mono ?_); rintro e V4 ⟨x1, rfl, ho, hb2⟩; have Y1 := Lib.hid ho.isl; replace K1 := Lib.hid (K1.out.next hb2); replace BW := Lib.hid (BW.out.trans hb2); clear ho hb2)
            | ((with_reducible refine (H2.out _ _ K1.out.n).mono ?_); rintro e V4 ⟨x1, rfl, ho, hb2⟩; have Y2 := Lib.hid ho.isl; replace K1 := Lib.hid (K1.out.next hb2); replace BW := Lib.hid (BW.out.trans hb2); clear ho hb2))
          | (go_at_call 19; first
            | ((with_reducible refine (SM.out _ _ _ _ Y1.out K1.out.o).mono ?_); rintro e V4 ⟨rfl, hb2⟩; replace K1 := Lib.hid (K1.out.next hb2); replace BW := Lib.hid (BW.out.trans hb2); clear hb2 Y1)
            | ((with_reducible refine (SM.out _ _ _ _ Y2.out K1.out.n).mono ?_); rintro e V4 ⟨rfl, hb2⟩; replace K1 := Lib.hid (K1.out.next hb2); replace BW := Lib.hid (BW.out.trans hb2); clear hb2 Y2)))
        go_ret
        exact ⟨rfl, K1.out.b⟩
theorem adds_f (w : World) (v : Value) (l : List Rep) (hv : IsL w v l) (r : Rep) : Calls Try.prog 11 #[v, agR r] w (RetB w (.bool true)) := by
  obtain ⟨p, c, rfl⟩ := hv.shape
  by_cases h1 : l.length ≤ 20
  · exact adds_yes l r p c w hv h1
  · exact adds_no l r p c w (by omega)
end Go.Proofs.Ytdjgpbanokdnhaa.Pt
