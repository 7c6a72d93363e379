import Derived.Test.YtahehlajpaoiiaaGreatDoorGQV
import Derived.Test.YtahehlajpaoiiaaGreatDoorGQR
import Derived.LaidEqlPtr
import Derived.Test.YtahehlajpaoiiaaGreatDoorGQX

namespace Go.Proofs.YtahehlajpaoiiaaGreatDoor
open Go.RowKit
attribute [local go_sem ↓] Go.wp_at_zero Go.wp_at_succ

theorem Seen.num_r {l p r : List UInt8} (h : Seen l false p r) : r = [] := by cases h; rfl

theorem Seen.dig {l p r : List UInt8} {s : Bool} (h : Seen l s p r) : (∀ b ∈ p, digit10 b) ∧ (∀ b ∈ r, digit10 b) := by
  cases h with
  | num h => exact ⟨h, fun b hb => by simp at hb⟩
  | den h1 h2 => exact ⟨h1, h2⟩

theorem ptrU : Tryz.prog.underlying 100 = some (.pointer 99) := by kernel_rfl
theorem numS : (Tryz.prog.info? 99).map (·.size) = some 4 := by kernel_rfl
theorem same_ptr (a : Addr) (W : World) : (binOp .eql 100 (.pointer (some a)) (.pointer (some a))).run Tryz.prog W = .ok (.bool true) W := by
  obtain ⟨j, hj, _⟩ := Option.map_eq_some_iff.1 numS
  exact run_eql_ptr_same W a ptrU hj
theorem Pn.other {g g' n V n' V' : Nat} {W : World} (h : Pn g n V W) (h' : Pn g' n' V' W) (hne : g ≠ g') : (binOp .eql 100 (.pointer (some ⟨g, 0, none⟩)) (.pointer (some ⟨g', 0, none⟩))).run Tryz.prog W = .ok (.bool false) W := by
  obtain ⟨j, hj, hs⟩ := Option.map_eq_some_iff.1 numS
  obtain ⟨v, l, s, hu, _⟩ := h
  obtain ⟨v', l', s', hu', _⟩ := h'
  exact run_eql_ptr_other W ptrU hj (by rw [hs]; omega) (fun e => by injection e; omega) hu.k hu'.k

def RetPq (w : World) (q : Rat) (e : Int) (x : Ending) (w' : World) : Prop := ∃ b m k, x = .returned (.tuple #[.agg #[.bool b, .string m, .bool false, .string k], .int .i64 e]) ∧ Rq q b m k ∧ Below w.heap.size w w'

theorem rq_zero : Rq 0 false ⟨#[]⟩ ⟨#[]⟩ := ⟨enc_nought, by rw [show (0 : Rat).den = 1 from rfl, dm_one]⟩

structure Ps (w : World) (t : ByteArray) (pos : Nat) (p r : List UInt8) (wr : World) : Prop where
  res : wr.heap[w.heap.size]? = some (.cells #[.bool false, .string ⟨#[]⟩, .bool false, .string ⟨#[]⟩] 25 (0, 0))
  num : Pn (w.heap.size + 1) p.length (val10 p) wr
  den : Pn (w.heap.size + 2) r.length (val10 r) wr
  it : wr.heap[w.heap.size + 3]? = some (.stringIter t pos)
  bel : Below w.heap.size w wr
section
variable {w wr w2 : World} {t : ByteArray} {pos : Nat} {p r : List UInt8}
theorem Ps.sz (h : Ps w t pos p r wr) : w.heap.size + 3 < wr.heap.size := (Array.getElem?_eq_some_iff.1 h.it).1
theorem Ps.move (h : Ps w t pos p r wr) (pos' : Nat) : Ps w t pos' p r (wr.iterAt (w.heap.size + 3) t pos') :=
  ⟨(Lib.iterAt_other _ _ _ _ _ (by omega)).trans h.res, h.num.keep (Lib.iterAt_other _ _ _ _ _ (by omega)), h.den.keep (Lib.iterAt_other _ _ _ _ _ (by omega)), Lib.iterAt_heap _ _ _ _ _ h.it, Lib.below_iterAt h.bel (by omega) _ _⟩
theorem Ps.next (h : Ps w t pos p r wr) (hb : Below wr.heap.size wr w2) : Ps w t pos p r w2 := by
  have hs := h.sz
  exact ⟨(hb.block _ (by omega)).trans h.res, h.num.next hb, h.den.next hb, (hb.block _ (by omega)).trans h.it, h.bel.trans (hb.mono (by omega))⟩
theorem Ps.drew (h : Ps w t pos p r wr) : Ps w t pos p r wr.drew := h.next (Below.refl _ _).drew
theorem Ps.set (h : Ps w t pos p r wr) {g : Nat} (hg : w.heap.size + 3 < g) (x y : Value) : Ps w t pos p r ((wr.setCell ⟨g, 0, none⟩ x).setCell ⟨g, 1, none⟩ y) :=
  ⟨(qoth (by omega) _ _).trans h.res, h.num.keep (qoth (by omega) _ _), h.den.keep (qoth (by omega) _ _), (qoth (by omega) _ _).trans h.it, below_set2 h.bel (by omega) _ _⟩
theorem Ps.dg1 (h : Ps w t pos p r wr) {e : Ending} {b : UInt8} (hr : RetDgt wr (w.heap.size + 1) (p.length + 1) (val10 p * 10 + (b.toNat - 48)) e w2) : Ps w t pos (p ++ [b]) r w2 := by
  have hs := h.sz
  obtain ⟨_, h1, h2, h3, h4⟩ := hr
  exact ⟨(h2 _ (by omega) (by omega)).trans h.res, by rw [val10_snoc, List.length_append]; exact h1, h.den.keep (h2 _ (by omega) (by omega)), (h2 _ (by omega) (by omega)).trans h.it, h.bel.trans (h4.mono (by omega))⟩
theorem Ps.dg2 (h : Ps w t pos p r wr) {e : Ending} {b : UInt8} (hr : RetDgt wr (w.heap.size + 2) (r.length + 1) (val10 r * 10 + (b.toNat - 48)) e w2) : Ps w t pos p (r ++ [b]) w2 := by
  have hs := h.sz
  obtain ⟨_, h1, h2, h3, h4⟩ := hr
  exact ⟨(h2 _ (by omega) (by omega)).trans h.res, h.num.keep (h2 _ (by omega) (by omega)), by rw [val10_snoc, List.length_append]; exact h1, (h2 _ (by omega) (by omega)).trans h.it, h.bel.trans (h4.mono (by omega))⟩
end

set_option maxHeartbeats 8000000 in
set_option maxRecDepth 100000 in
theorem ratParse_in (s : ByteArray) (w : World) (hE : Env w) (d : List UInt8) (neg : Bool) (hd : Lib.trimPrefix s.data.toList [45] = d) (hn : Lib.hasPrefix s.data.toList [45] = neg) (hs : s.size ≤ 4096) (hlen : d.length ≤ 4096) (q : Rat) (e0 : Int) (hq : Pq neg d q e0) :
    Calls Tryz.prog 55 #[.string s] w (RetPq w q e0) := by
  have hcp := fun W => Tryz.strings_CutPrefix s ⟨#[45]⟩ W
  have e45 : (ByteArray.mk #[45]).data.toList = [45] := rfl
  rw [e45, hd, hn] at hcp
  obtain ⟨t, ht⟩ : ∃ t : ByteArray, ⟨d.toArray⟩ = t := ⟨_, rfl⟩
  have htd : t.data.toList = d := by rw [← ht]
  have hts : t.size ≤ 4096 := by rw [← ht]; exact hlen
  rw [ht] at hcp
  have HCP := Lib.hid hcp
  have HTD := Lib.hid htd
  have HQ := Lib.hid hq
  have HE := Lib.hid (fun V (hb : Below w.heap.size w V) => hE.next hb)
  clear hcp htd ht e45 hd hn hlen hq hE
  go_enter Tryz.func55, Tryz.ntmps55
  go_wp2_with fail
  refine (HCP.out _).mono ?_
  rintro e w1 ⟨rfl, rfl⟩
  go_wp2_with fail
  have P0 : Ps w t 0 [] [] ((((w.alloc (.cells #[.bool false, .string ⟨#[]⟩, .bool false, .string ⟨#[]⟩] 25)).alloc (.cells #[.bool false, .string ⟨#[]⟩, .int .i64 0, .int .i64 0] 99)).alloc (.cells #[.bool false, .string ⟨#[]⟩, .int .i64 0, .int .i64 0] 99)).iter t 0) := by
    have hn1 := Pn.start (w.alloc (.cells #[.bool false, .string ⟨#[]⟩, .bool false, .string ⟨#[]⟩] 25))
    have hn2 := Pn.start ((w.alloc (.cells #[.bool false, .string ⟨#[]⟩, .bool false, .string ⟨#[]⟩] 25)).alloc (.cells #[.bool false, .string ⟨#[]⟩, .int .i64 0, .int .i64 0] 99))
    have hk := heap_one w (.cells #[.bool false, .string ⟨#[]⟩, .bool false, .string ⟨#[]⟩] 25)
    obtain ⟨V1, hV1⟩ : ∃ V, V = w.alloc (.cells #[.bool false, .string ⟨#[]⟩, .bool false, .string ⟨#[]⟩] 25) := ⟨_, rfl⟩
    have hz1 : V1.heap.size = w.heap.size + 1 := by rw [hV1]; simp
    have hb1 : Below w.heap.size w V1 := by rw [hV1]; exact below_new _ _
    rw [← hV1] at hn1 hn2 hk ⊢
    obtain ⟨V2, hV2⟩ : ∃ V, V = V1.alloc (.cells #[.bool false, .string ⟨#[]⟩, .int .i64 0, .int .i64 0] 99) := ⟨_, rfl⟩
    have hz2 : V2.heap.size = w.heap.size + 2 := by rw [hV2]; simp [hz1]
    have hb2 : Below V1.heap.size V1 V2 := by rw [hV2]; exact below_new _ _
    rw [← hV2] at hn1 hn2 ⊢
    obtain ⟨V3, hV3⟩ : ∃ V, V = V2.alloc (.cells #[.bool false, .string ⟨#[]⟩, .int .i64 0, .int .i64 0] 99) := ⟨_, rfl⟩
    have hz3 : V3.heap.size = w.heap.size + 3 := by rw [hV3]; simp [hz2]
    have hb3 : Below V2.heap.size V2 V3 := by rw [hV3]; exact below_new _ _
    rw [← hV3] at hn2 ⊢
    have hb4 : Below V3.heap.size V3 (V3.iter t 0) := below_new _ _
    have hi := World.iter_heap V3 t 0
    rw [hz1] at hn1
    rw [hz2] at hn2
    rw [hz3] at hi
    exact ⟨(hb4.block _ (by omega)).trans ((hb3.block _ (by omega)).trans ((hb2.block _ (by omega)).trans hk)), ((hn1.next hb3).next hb4), hn2.next hb4, hi, ((hb1.trans (hb2.mono (by omega))).trans (hb3.mono (by omega))).trans (hb4.mono (by omega))⟩
  have P0 := Lib.hid P0
  go_loopw [8] (fun pv wr => ∃ (pos : Nat) (sl : Bool) (p r : List UInt8), pv = .pointer (some ⟨if sl = true then w.heap.size + 2 else w.heap.size + 1, 0, none⟩) ∧ pos ≤ t.size ∧ Hid (Seen (d.take pos) sl p r) ∧ Hid (Ps w t pos p r wr)) (fun _ wr => t.size - wr.iterPos (w.heap.size + 3))
  case atStart => exact ⟨0, false, [], [], by simp, Nat.zero_le _, by rw [List.take_zero]; exact seen_nil, P0.out⟩
  case round =>
    obtain ⟨pos, sl, p, r, rfl, hpos, HS, HP⟩ := hrel
    by_cases hlt : pos < t.size
    · have hkl : pos < t.data.toList.length := hlt
      obtain ⟨b, hb⟩ : ∃ b, (t.data.toList[pos]'hkl) = b := ⟨_, rfl⟩
      have hsplit : d = d.take pos ++ b :: d.drop (pos + 1) := by
        have h1 := List.take_append_drop pos t.data.toList
        rw [List.drop_eq_getElem_cons hkl, hb, HTD.out] at h1
        exact h1.symm
      have htk : d.take (pos + 1) = d.take pos ++ [b] := by
        have h1 := List.take_succ_eq_append_getElem hkl
        rw [hb, HTD.out] at h1
        exact h1
      have hnx : ∀ ty, (Instr.next (.pointer (some ⟨w.heap.size + 3, 0, none⟩)) true ty).run Tryz.prog wr = _ := fun ty => Lib.run_next_any_at wr (w.heap.size + 3) t pos ty HP.out.it hlt
      have HP2 := Lib.hid (HP.out.move (pos + (Utf8.decode t pos).2))
      have hx : (128 ≤ (Utf8.decode t pos).1 ∧ ¬ digit10 b ∧ b ≠ 47) ∨ ((Utf8.decode t pos).1 = b.toNat ∧ (Utf8.decode t pos).2 = 1) := by
        by_cases ha : (t[pos]'hlt).toNat < 128
        · right
          rw [decode_ascii t pos hlt ha]
          exact ⟨by rw [← hb]; rfl, rfl⟩
        · left
          have hbn : (t[pos]'hlt).toNat = b.toNat := by rw [← hb]; rfl
          refine ⟨(decode_high t pos hlt (by omega)).1, fun h => ?_, fun h => ?_⟩
          · have := h.2; omega
          · rw [h] at hbn; rw [hbn] at ha; exact ha (by decide)
      have hpl : p.length ≤ 4096 ∧ r.length ≤ 4096 := by
        have h1 := HS.out.len
        have h2 : (d.take pos).length ≤ 4096 := by rw [List.length_take]; have : pos ≤ 4096 := by omega
                                                   omega
        omega
      obtain ⟨x, hxx⟩ : ∃ x, (Utf8.decode t pos).1 = x := ⟨_, rfl⟩
      obtain ⟨wd, hwd⟩ : ∃ x, (Utf8.decode t pos).2 = x := ⟨_, rfl⟩
      rw [hxx, hwd] at hx
      rw [hxx, hwd] at hnx
      rw [hwd] at HP2
      have HSP := Lib.hid hsplit
      have HTK := Lib.hid htk
      clear hb hsplit htk hxx hwd
      have hbad : ¬ digit10 b → (sl = true ∨ b ≠ 47) → q = 0 ∧ e0 = 15 := fun h1 h2 => by
        have h3 := HS.out.stop h1 h2 (d.drop (pos + 1)) neg
        rw [← HSP.out] at h3
        exact HQ.out.one h3
      have HBAD := Lib.hid hbad
      have HX := Lib.hid hx
      clear hbad hx
      obtain ⟨c0, c1, c2, c3⟩ := blk4 HP2.out.res
      obtain ⟨f0, f1, f2, f3⟩ := fro4 HP2.out.res
      cases sl
      case false =>
        have hr0 : r = [] := HS.out.num_r
        have hptr := same_ptr ⟨w.heap.size + 1, 0, none⟩
        have HR0 := Lib.hid hr0
        clear hr0
        by_cases h57 : 57 < x
        · obtain ⟨rfl, rfl⟩ : q = 0 ∧ e0 = 15 := HBAD.out (by rcases HX.out with ⟨_, h, _⟩ | ⟨h, _⟩; exact h; exact fun h1 => by have := h1.2; omega) (by rcases HX.out with ⟨_, _, h⟩ | ⟨h, _⟩; exact .inr h; exact .inr (fun h1 => by rw [h1] at h; have : x = 47 := h; omega))
          have h48 : 48 ≤ x := by omega
          have h57' : ¬ x ≤ 57 := by omega
          have h47 : ((x : Int) == 47) = false := by simp; omega
          clear HX HBAD
          go_wp2
          exact bodyPost_ret (v := .tuple #[.agg #[.bool false, .string ⟨#[]⟩, .bool false, .string ⟨#[]⟩], .int .i64 15]) (by simp [results, Tryz.results55, go_sem, c0, c1, c2, c3]) rfl ⟨false, _, _, rfl, rq_zero, below_set4 HP2.out.bel (Nat.le_refl _) _ _ _ _⟩
        by_cases h48 : 48 ≤ x
        · obtain ⟨dg, hdg⟩ : ∃ dg, x = dg + 48 := ⟨x - 48, by omega⟩
          have hxb : x = b.toNat := by
            rcases HX.out with ⟨h, _⟩ | ⟨h, _⟩
            · omega
            · exact h
          have hw1 : wd = 1 := by
            rcases HX.out with ⟨h, _⟩ | ⟨_, h⟩
            · omega
            · exact h
          have hd10 : digit10 b := ⟨by omega, by omega⟩
          have w32 : IntKind.i32.wrap ((x : Int) - 48) = (dg : Int) := by rw [hdg, show (((dg + 48 : Nat) : Int) - 48) = (dg : Int) by omega]; exact IntWalk.i32_in _ (by omega)
          have w64 : IntKind.i64.wrap (dg : Int) = (dg : Int) := IntWalk.i64_in _ (by omega)
          have HAD := Lib.hid (fun V (hV : Pn (w.heap.size + 1) (p.length) (val10 p) V) => add_nm (d := dg) (by omega) (by omega) V hV)
          rw [show dg = b.toNat - 48 by omega] at HAD
          have h57' : x ≤ 57 := by omega
          have h48' : 48 ≤ x := by omega
          have HD10 := Lib.hid hd10
          have HDB := Lib.hid (show dg = b.toNat - 48 by omega)
          subst hw1
          clear HX HBAD hdg hxb hd10
          go_wp2_with fail
          rw [HDB.out]
          refine (HAD.out _ HP2.out.num).mono ?_
          rintro e w3 hr
          obtain rfl := hr.1
          have HP3 := Lib.hid (HP2.out.dg1 hr)
          clear hr c0 c1 c2 c3 f0 f1 f2 f3
          go_wp2_with fail
          go_roundw
          case rel => exact ⟨pos + 1, false, p ++ [b], [], by simp, hlt, by rw [HTK.out]; exact HS.out.digit_num HD10.out, by have h := HP3.out; rw [HR0.out] at h; exact h⟩
          case measure => simp only [World.iterPos, HP3.out.it, HP.out.it]; omega
        by_cases h47 : x = 47
        · have hb47 : b = 47 := by
            rcases HX.out with ⟨h, _⟩ | ⟨h, _⟩
            · omega
            · exact UInt8.toNat_inj.1 (h.symm.trans h47)
          have hw1 : wd = 1 := by
            rcases HX.out with ⟨h, _⟩ | ⟨_, h⟩
            · omega
            · exact h
          have h48' : ¬ 48 ≤ x := by omega
          subst hw1
          subst h47
          subst hb47
          clear HX HBAD
          go_wp2_with fail
          go_roundw
          case rel => exact ⟨pos + 1, true, p, [], by simp, hlt, by rw [HTK.out]; exact HS.out.slash, by have h := HP2.out; rw [HR0.out] at h; exact h⟩
          case measure => simp only [World.iterPos, HP2.out.it, HP.out.it]; omega
        obtain ⟨rfl, rfl⟩ : q = 0 ∧ e0 = 15 := HBAD.out (by rcases HX.out with ⟨_, h, _⟩ | ⟨h, _⟩; exact h; exact fun h1 => by have := h1.1; omega) (by rcases HX.out with ⟨_, _, h⟩ | ⟨h, _⟩; exact .inr h; exact .inr (fun h1 => by rw [h1] at h; have : x = 47 := h; omega))
        have h48 : ¬ 48 ≤ x := by omega
        have h47 : ((x : Int) == 47) = false := by simp; omega
        clear HX HBAD
        go_wp2
        exact bodyPost_ret (v := .tuple #[.agg #[.bool false, .string ⟨#[]⟩, .bool false, .string ⟨#[]⟩], .int .i64 15]) (by simp [results, Tryz.results55, go_sem, c0, c1, c2, c3]) rfl ⟨false, _, _, rfl, rq_zero, below_set4 HP2.out.bel (Nat.le_refl _) _ _ _ _⟩
      case true =>
        have hptr := HP2.out.den.other HP2.out.num (by omega)
        by_cases h57 : 57 < x
        · obtain ⟨rfl, rfl⟩ : q = 0 ∧ e0 = 15 := HBAD.out (by rcases HX.out with ⟨_, h, _⟩ | ⟨h, _⟩; exact h; exact fun h1 => by have := h1.2; omega) (by rcases HX.out with ⟨_, _, h⟩ | ⟨h, _⟩; exact .inr h; exact .inr (fun h1 => by rw [h1] at h; have : x = 47 := h; omega))
          have h48 : 48 ≤ x := by omega
          have h57' : ¬ x ≤ 57 := by omega
          have h47 : ((x : Int) == 47) = false := by simp; omega
          clear HX HBAD
          go_wp2
          exact bodyPost_ret (v := .tuple #[.agg #[.bool false, .string ⟨#[]⟩, .bool false, .string ⟨#[]⟩], .int .i64 15]) (by simp [results, Tryz.results55, go_sem, c0, c1, c2, c3]) rfl ⟨false, _, _, rfl, rq_zero, below_set4 HP2.out.bel (Nat.le_refl _) _ _ _ _⟩
        by_cases h48 : 48 ≤ x
        · obtain ⟨dg, hdg⟩ : ∃ dg, x = dg + 48 := ⟨x - 48, by omega⟩
          have hxb : x = b.toNat := by
            rcases HX.out with ⟨h, _⟩ | ⟨h, _⟩
            · omega
            · exact h
          have hw1 : wd = 1 := by
            rcases HX.out with ⟨h, _⟩ | ⟨_, h⟩
            · omega
            · exact h
          have hd10 : digit10 b := ⟨by omega, by omega⟩
          have w32 : IntKind.i32.wrap ((x : Int) - 48) = (dg : Int) := by rw [hdg, show (((dg + 48 : Nat) : Int) - 48) = (dg : Int) by omega]; exact IntWalk.i32_in _ (by omega)
          have w64 : IntKind.i64.wrap (dg : Int) = (dg : Int) := IntWalk.i64_in _ (by omega)
          have HAD := Lib.hid (fun V (hV : Pn (w.heap.size + 2) (r.length) (val10 r) V) => add_nm (d := dg) (by omega) (by omega) V hV)
          rw [show dg = b.toNat - 48 by omega] at HAD
          have h57' : x ≤ 57 := by omega
          have h48' : 48 ≤ x := by omega
          have HD10 := Lib.hid hd10
          have HDB := Lib.hid (show dg = b.toNat - 48 by omega)
          subst hw1
          clear HX HBAD hdg hxb hd10
          go_wp2_with fail
          rw [HDB.out]
          refine (HAD.out _ HP2.out.den).mono ?_
          rintro e w3 hr
          obtain rfl := hr.1
          have HP3 := Lib.hid (HP2.out.dg2 hr)
          clear hr c0 c1 c2 c3 f0 f1 f2 f3
          go_wp2_with fail
          go_roundw
          case rel => exact ⟨pos + 1, true, p, r ++ [b], by simp, hlt, by rw [HTK.out]; exact HS.out.digit_den HD10.out, HP3⟩
          case measure => simp only [World.iterPos, HP3.out.it, HP.out.it]; omega
        by_cases h47 : x = 47
        · obtain ⟨rfl, rfl⟩ : q = 0 ∧ e0 = 15 := HBAD.out (by rcases HX.out with ⟨_, h, _⟩ | ⟨h, _⟩; exact h; exact fun h1 => by have := h1.1; omega) (.inl rfl)
          have h48 : ¬ 48 ≤ x := by omega
          subst h47
          clear HX HBAD
          go_wp2
          exact bodyPost_ret (v := .tuple #[.agg #[.bool false, .string ⟨#[]⟩, .bool false, .string ⟨#[]⟩], .int .i64 15]) (by simp [results, Tryz.results55, go_sem, c0, c1, c2, c3]) rfl ⟨false, _, _, rfl, rq_zero, below_set4 HP2.out.bel (Nat.le_refl _) _ _ _ _⟩
        obtain ⟨rfl, rfl⟩ : q = 0 ∧ e0 = 15 := HBAD.out (by rcases HX.out with ⟨_, h, _⟩ | ⟨h, _⟩; exact h; exact fun h1 => by have := h1.1; omega) (by rcases HX.out with ⟨_, _, h⟩ | ⟨h, _⟩; exact .inr h; exact .inr (fun h1 => by rw [h1] at h; have : x = 47 := h; omega))
        have h48 : ¬ 48 ≤ x := by omega
        have h47 : ((x : Int) == 47) = false := by simp; omega
        clear HX HBAD
        go_wp2
        exact bodyPost_ret (v := .tuple #[.agg #[.bool false, .string ⟨#[]⟩, .bool false, .string ⟨#[]⟩], .int .i64 15]) (by simp [results, Tryz.results55, go_sem, c0, c1, c2, c3]) rfl ⟨false, _, _, rfl, rq_zero, below_set4 HP2.out.bel (Nat.le_refl _) _ _ _ _⟩
    · obtain rfl : pos = t.size := by omega
      have hdt : d.take t.size = d := by rw [← HTD.out]; exact List.take_of_length_le (Nat.le_refl _)
      have hdl : d.length ≤ 4096 := by rw [← HTD.out]; exact hts
      have HS' := HS.out
      rw [hdt] at HS'
      have HS := Lib.hid HS'
      have hpl := HS.out.len
      have hnx : ∀ ty, (Instr.next (.pointer (some ⟨w.heap.size + 3, 0, none⟩)) true ty).run Tryz.prog wr = _ := fun ty => Lib.run_next_end_at wr (w.heap.size + 3) t t.size ty HP.out.it (by omega)
      have HP0 := HP
      obtain ⟨c0, c1, c2, c3⟩ := blk4 HP.out.res
      obtain ⟨f0, f1, f2, f3⟩ := fro4 HP.out.res
      clear HS' hdt P0
      have HE1 := Lib.hid (fun V (hV : Pn (w.heap.size + 1) p.length (val10 p) V) => empty_nm V hV)
      cases sl
      case false =>
        have hptr := same_ptr ⟨w.heap.size + 1, 0, none⟩
        by_cases hp0 : p = []
        · obtain ⟨rfl, rfl⟩ : q = 0 ∧ e0 = 15 := HQ.out.one (HS.out.empty (.inl hp0) neg)
          rw [decide_eq_true (show p.length = 0 by rw [hp0]; rfl)] at HE1
          clear HQ hp0
          go_wp2_with fail
          refine (HE1.out _ HP.out.num).mono ?_
          rintro e w3 ⟨rfl, rfl⟩
          go_wp2
          exact bodyPost_ret (v := .tuple #[.agg #[.bool false, .string ⟨#[]⟩, .bool false, .string ⟨#[]⟩], .int .i64 15]) (by simp [results, Tryz.results55, go_sem, c0, c1, c2, c3]) rfl ⟨false, _, _, rfl, rq_zero, below_set4 HP.out.bel (Nat.le_refl _) _ _ _ _⟩
        rw [decide_eq_false (show ¬ p.length = 0 from fun h => hp0 (List.eq_nil_of_length_eq_zero h))] at HE1
        go_wp2_with fail
        refine (HE1.out _ HP.out.num).mono ?_
        rintro e w3 ⟨rfl, rfl⟩
        go_wp2_with fail
        refine (HE1.out _ HP.out.num).mono ?_
        rintro e w3 ⟨rfl, rfl⟩
        clear hnx
        cases neg
        case false =>
          have HT1 := Lib.hid (fun V (hV : Pn (w.heap.size + 1) p.length (val10 p) V) => total_nm (by omega) V hV)
          have HZ := Lib.hid (enc_mag (val10 p))
          generalize hmv : mag (val10 p) = mv at HT1 HZ
          have hmv := Lib.hid hmv
          go_wp2_with fail
          refine (HT1.out _ HP.out.num).mono ?_
          rintro e w5 ⟨rfl, hb5⟩
          have HP := Lib.hid (HP.out.next hb5)
          have hlt5 : w.heap.size + 3 < w5.heap.size := HP.out.sz
          have HP := Lib.hid (HP.out.next (below_new w5 (.cells #[.bool false, .string mv] 23)))
          have BV := Lib.hid (Bq.new w5 #[.bool false, .string mv] 23)
          obtain ⟨v0, v1, g0, g1⟩ := blk_cells BV.out.k
          clear hb5 c0 c1 c2 c3 f0 f1 f2 f3 hptr
          obtain ⟨c0, c1, c2, c3⟩ := blk4 HP.out.res
          obtain ⟨f0, f1, f2, f3⟩ := fro4 HP.out.res
          have hptr := same_ptr ⟨w.heap.size + 1, 0, none⟩
          have hq1 := HQ.out.one (HS.out.whole hp0 false)
          obtain ⟨rfl, rfl⟩ := hq1
          have hrq : Rq (((sgn false (val10 p) : Int)) : Rat) false mv ⟨#[]⟩ := ⟨by rw [Rat.num_intCast, show sgn false (val10 p) = ((val10 p : Nat) : Int) from rfl]; exact HZ.out, by rw [Rat.den_intCast, dm_one]⟩
          have HRQ := Lib.hid hrq
          clear hrq HQ
          go_wp2_with fail
          exact bodyPost_ret (v := .tuple #[.agg #[.bool false, .string mv, .bool false, .string ⟨#[]⟩], .int .i64 0]) (by simp [results, Tryz.results55, go_sem, c0, c1, c2, c3]) rfl ⟨false, mv, ⟨#[]⟩, rfl, HRQ.out, below_set4 HP.out.bel (Nat.le_refl _) _ _ _ _⟩
        case true =>
          have HT1 := Lib.hid (fun V (hV : Pn (w.heap.size + 1) p.length (val10 p) V) => total_nm (by omega) V hV)
          have HZ := Lib.hid (enc_mag (val10 p))
          generalize hmv : mag (val10 p) = mv at HT1 HZ
          have hmv := Lib.hid hmv
          have HN0 := Lib.hid (enc_neg HZ.out)
          have hng := fun V => negate_pair false mv V
          generalize hbz : (!false && decide (0 < mv.size)) = bz at HN0 hng
          have HNG := Lib.hid hng
          clear hng hbz
          go_wp2_with fail
          refine (HT1.out _ HP.out.num).mono ?_
          rintro e w5 ⟨rfl, hb5⟩
          have HP := Lib.hid (HP.out.next hb5)
          have hlt5 : w.heap.size + 3 < w5.heap.size := HP.out.sz
          have HP := Lib.hid (HP.out.next (below_new w5 (.cells #[.bool false, .string mv] 23)))
          have BV := Lib.hid (Bq.new w5 #[.bool false, .string mv] 23)
          obtain ⟨v0, v1, g0, g1⟩ := blk_cells BV.out.k
          clear hb5 c0 c1 c2 c3 f0 f1 f2 f3 hptr
          go_wp2_with fail
          refine (HNG.out _).mono ?_
          rintro e w6 ⟨rfl, hb6⟩
          have HP := Lib.hid (HP.out.next hb6)
          have BV := Lib.hid (BV.out.next hb6)
          obtain ⟨v0', v1', g0', g1'⟩ := blk_cells BV.out.k
          clear hb6 v0 v1 g0 g1
          have HP := Lib.hid (HP.out.set hlt5 (.bool bz) (.string mv))
          have BV := Lib.hid (show Bq w5.heap.size #[.bool bz, .string mv] 23 ((w6.setCell ⟨w5.heap.size, 0, none⟩ (.bool bz)).setCell ⟨w5.heap.size, 1, none⟩ (.string mv)) from ⟨qset BV.out.k _ _, by rw [qsz]; exact BV.out.lt⟩)
          obtain ⟨v0, v1, g0, g1⟩ := blk_cells BV.out.k
          obtain ⟨c0, c1, c2, c3⟩ := blk4 HP.out.res
          obtain ⟨f0, f1, f2, f3⟩ := fro4 HP.out.res
          have hptr := same_ptr ⟨w.heap.size + 1, 0, none⟩
          have hq1 := HQ.out.one (HS.out.whole hp0 true)
          obtain ⟨rfl, rfl⟩ := hq1
          have hrq : Rq (((sgn true (val10 p) : Int)) : Rat) bz mv ⟨#[]⟩ := ⟨by rw [Rat.num_intCast, show sgn true (val10 p) = -((val10 p : Nat) : Int) from rfl]; exact HN0.out, by rw [Rat.den_intCast, dm_one]⟩
          have HRQ := Lib.hid hrq
          clear hrq HQ
          go_wp2_with fail
          exact bodyPost_ret (v := .tuple #[.agg #[.bool bz, .string mv, .bool false, .string ⟨#[]⟩], .int .i64 0]) (by simp [results, Tryz.results55, go_sem, c0, c1, c2, c3]) rfl ⟨bz, mv, ⟨#[]⟩, rfl, HRQ.out, below_set4 HP.out.bel (Nat.le_refl _) _ _ _ _⟩
      case true =>
        have hptr := HP.out.den.other HP.out.num (by omega)
        by_cases hp0 : p = []
        · obtain ⟨rfl, rfl⟩ : q = 0 ∧ e0 = 15 := HQ.out.one (HS.out.empty (.inl hp0) neg)
          rw [decide_eq_true (show p.length = 0 by rw [hp0]; rfl)] at HE1
          clear HQ hp0
          go_wp2_with fail
          refine (HE1.out _ HP.out.num).mono ?_
          rintro e w3 ⟨rfl, rfl⟩
          go_wp2
          exact bodyPost_ret (v := .tuple #[.agg #[.bool false, .string ⟨#[]⟩, .bool false, .string ⟨#[]⟩], .int .i64 15]) (by simp [results, Tryz.results55, go_sem, c0, c1, c2, c3]) rfl ⟨false, _, _, rfl, rq_zero, below_set4 HP.out.bel (Nat.le_refl _) _ _ _ _⟩
        rw [decide_eq_false (show ¬ p.length = 0 from fun h => hp0 (List.eq_nil_of_length_eq_zero h))] at HE1
        by_cases hr0 : r = []
        · obtain ⟨rfl, rfl⟩ : q = 0 ∧ e0 = 15 := HQ.out.one (HS.out.empty (.inr ⟨rfl, hr0⟩) neg)
          subst hr0
          have HE2 := Lib.hid (fun V (hV : Pn (w.heap.size + 2) 0 0 V) => empty_nm V hV)
          rw [decide_eq_true rfl] at HE2
          clear HQ
          go_wp2_with fail
          refine (HE1.out _ HP.out.num).mono ?_
          rintro e w3 ⟨rfl, rfl⟩
          go_wp2_with fail
          refine (HE2.out _ HP.out.den).mono ?_
          rintro e w3 ⟨rfl, rfl⟩
          go_wp2
          exact bodyPost_ret (v := .tuple #[.agg #[.bool false, .string ⟨#[]⟩, .bool false, .string ⟨#[]⟩], .int .i64 15]) (by simp [results, Tryz.results55, go_sem, c0, c1, c2, c3]) rfl ⟨false, _, _, rfl, rq_zero, below_set4 HP.out.bel (Nat.le_refl _) _ _ _ _⟩
        have HE2 := Lib.hid (fun V (hV : Pn (w.heap.size + 2) r.length (val10 r) V) => empty_nm V hV)
        rw [decide_eq_false (show ¬ r.length = 0 from fun h => hr0 (List.eq_nil_of_length_eq_zero h))] at HE2
        have hpq := HS.out.parts hp0 hr0 neg
        clear hr0
        go_wp2_with fail
        refine (HE1.out _ HP.out.num).mono ?_
        rintro e w3 ⟨rfl, rfl⟩
        go_wp2_with fail
        refine (HE2.out _ HP.out.den).mono ?_
        rintro e w3 ⟨rfl, rfl⟩
        clear hnx
        rcases hpq with ⟨hr0, hpf⟩ | ⟨hr0, hpz⟩
        · cases neg
          case false =>
            have HT1 := Lib.hid (fun V (hV : Pn (w.heap.size + 1) p.length (val10 p) V) => total_nm (by omega) V hV)
            have HZ := Lib.hid (enc_mag (val10 p))
            generalize hmv : mag (val10 p) = mv at HT1 HZ
            have hmv := Lib.hid hmv
            go_wp2_with fail
            refine (HT1.out _ HP.out.num).mono ?_
            rintro e w5 ⟨rfl, hb5⟩
            have HP := Lib.hid (HP.out.next hb5)
            have hlt5 : w.heap.size + 3 < w5.heap.size := HP.out.sz
            have HP := Lib.hid (HP.out.next (below_new w5 (.cells #[.bool false, .string mv] 23)))
            have BV := Lib.hid (Bq.new w5 #[.bool false, .string mv] 23)
            obtain ⟨v0, v1, g0, g1⟩ := blk_cells BV.out.k
            clear hb5 c0 c1 c2 c3 f0 f1 f2 f3 hptr
            obtain ⟨c0, c1, c2, c3⟩ := blk4 HP.out.res
            obtain ⟨f0, f1, f2, f3⟩ := fro4 HP.out.res
            have hptr := HP.out.den.other HP.out.num (by omega)
            have HT2 := Lib.hid (fun V (hV : Pn (w.heap.size + 2) r.length (val10 r) V) => total_nm (by omega) V hV)
            have hmv4 : mv.size ≤ 100000 := by rw [← hmv.out]; exact Nat.le_trans (mag_pow10 (val10_lt p HS.out.dig.1)) (by omega)
            have hmd4 : (mag (val10 r)).size ≤ 100000 := Nat.le_trans (mag_pow10 (val10_lt r HS.out.dig.2)) (by omega)
            obtain ⟨rfl, rfl⟩ := HQ.out.one hpf
            obtain ⟨b3, m3, k3, hrq⟩ := Rq.some_ (Rat.divInt (sgn false (val10 p)) (val10 r : Int))
            have hx : enc (sgn false (val10 p)) = .agg #[.bool false, .string mv] := by rw [show sgn false (val10 p) = ((val10 p : Nat) : Int) from rfl]; exact HZ.out
            have HMK := Lib.hid (fun V (hV : Env V) => make_f hx (enc_mag (val10 r)) hrq (by omega) hmv4 hmd4 V hV)
            have HRQ := Lib.hid hrq
            generalize mag (val10 r) = md at *
            clear HQ hmd4 hmv4 hpf hrq hx
            go_wp2_with fail
            clear c0 c1 c2 c3 f0 f1 f2 f3 v0 v1 g0 g1 hptr
            have HNE := Lib.hid (show w5.heap.size ≠ w.heap.size by omega)
            have HP := Lib.hid HP.out.drew
            have BV := Lib.hid BV.out.drew
            obtain ⟨v0, v1, g0, g1⟩ := blk_cells BV.out.k
            simp only [World.cell?_drew] at v0 v1
            go_region_held3 (fun w' => w'.cell? ⟨w5.heap.size, 0, none⟩ = some (.bool false) ∧ w'.cell? ⟨w5.heap.size, 1, none⟩ = some (.string mv))
              (first
                | exact ⟨v0, v1⟩
                | exact ⟨(blk_cells (BV.out.set4 (g' := w.heap.size) HNE.out _ _ _ _).k).1, (blk_cells (BV.out.set4 (g' := w.heap.size) HNE.out _ _ _ _).k).2.1⟩
                | go_keep)
              (first
                | (go_at_call 95; (with_reducible refine (HT2.out _ HP.out.den).mono ?_); rintro e w8 ⟨rfl, hb8⟩; have HP := Lib.hid (HP.out.next hb8); have BV := Lib.hid (BV.out.next hb8); obtain ⟨v0, v1, g0, g1⟩ := blk_cells BV.out.k)
                | (go_at_call 18; (with_reducible refine (HMK.out _ (HE.out _ HP.out.bel)).mono ?_); rintro e w9 ⟨rfl, hb9⟩; have HP := Lib.hid (HP.out.next hb9); have BV := Lib.hid (BV.out.next hb9); obtain ⟨v0, v1, g0, g1⟩ := blk_cells BV.out.k; obtain ⟨c0, c1, c2, c3⟩ := blk4 HP.out.res; obtain ⟨f0, f1, f2, f3⟩ := fro4 HP.out.res))
            go_wp2
            exact bodyPost_ret (v := .tuple #[.agg #[.bool b3, .string m3, .bool false, .string k3], .int .i64 0]) (by simp [results, Tryz.results55, go_sem, c0, c1, c2, c3]) rfl ⟨b3, m3, k3, rfl, HRQ.out, below_set4 HP.out.bel (Nat.le_refl _) _ _ _ _⟩
          case true =>
            have HT1 := Lib.hid (fun V (hV : Pn (w.heap.size + 1) p.length (val10 p) V) => total_nm (by omega) V hV)
            have HZ := Lib.hid (enc_mag (val10 p))
            generalize hmv : mag (val10 p) = mv at HT1 HZ
            have hmv := Lib.hid hmv
            have HN0 := Lib.hid (enc_neg HZ.out)
            have hng := fun V => negate_pair false mv V
            generalize hbz : (!false && decide (0 < mv.size)) = bz at HN0 hng
            have HNG := Lib.hid hng
            clear hng hbz
            go_wp2_with fail
            refine (HT1.out _ HP.out.num).mono ?_
            rintro e w5 ⟨rfl, hb5⟩
            have HP := Lib.hid (HP.out.next hb5)
            have hlt5 : w.heap.size + 3 < w5.heap.size := HP.out.sz
            have HP := Lib.hid (HP.out.next (below_new w5 (.cells #[.bool false, .string mv] 23)))
            have BV := Lib.hid (Bq.new w5 #[.bool false, .string mv] 23)
            obtain ⟨v0, v1, g0, g1⟩ := blk_cells BV.out.k
            clear hb5 c0 c1 c2 c3 f0 f1 f2 f3 hptr
            go_wp2_with fail
            refine (HNG.out _).mono ?_
            rintro e w6 ⟨rfl, hb6⟩
            have HP := Lib.hid (HP.out.next hb6)
            have BV := Lib.hid (BV.out.next hb6)
            obtain ⟨v0', v1', g0', g1'⟩ := blk_cells BV.out.k
            clear hb6 v0 v1 g0 g1
            have HP := Lib.hid (HP.out.set hlt5 (.bool bz) (.string mv))
            have BV := Lib.hid (show Bq w5.heap.size #[.bool bz, .string mv] 23 ((w6.setCell ⟨w5.heap.size, 0, none⟩ (.bool bz)).setCell ⟨w5.heap.size, 1, none⟩ (.string mv)) from ⟨qset BV.out.k _ _, by rw [qsz]; exact BV.out.lt⟩)
            obtain ⟨v0, v1, g0, g1⟩ := blk_cells BV.out.k
            obtain ⟨c0, c1, c2, c3⟩ := blk4 HP.out.res
            obtain ⟨f0, f1, f2, f3⟩ := fro4 HP.out.res
            have hptr := HP.out.den.other HP.out.num (by omega)
            have HT2 := Lib.hid (fun V (hV : Pn (w.heap.size + 2) r.length (val10 r) V) => total_nm (by omega) V hV)
            have hmv4 : mv.size ≤ 100000 := by rw [← hmv.out]; exact Nat.le_trans (mag_pow10 (val10_lt p HS.out.dig.1)) (by omega)
            have hmd4 : (mag (val10 r)).size ≤ 100000 := Nat.le_trans (mag_pow10 (val10_lt r HS.out.dig.2)) (by omega)
            obtain ⟨rfl, rfl⟩ := HQ.out.one hpf
            obtain ⟨b3, m3, k3, hrq⟩ := Rq.some_ (Rat.divInt (sgn true (val10 p)) (val10 r : Int))
            have hx : enc (sgn true (val10 p)) = .agg #[.bool bz, .string mv] := by rw [show sgn true (val10 p) = -((val10 p : Nat) : Int) from rfl]; exact HN0.out
            have HMK := Lib.hid (fun V (hV : Env V) => make_f hx (enc_mag (val10 r)) hrq (by omega) hmv4 hmd4 V hV)
            have HRQ := Lib.hid hrq
            generalize mag (val10 r) = md at *
            clear HQ hmd4 hmv4 hpf hrq hx
            go_wp2_with fail
            obtain ⟨W, hWW⟩ : ∃ W, W = (w6.setCell ⟨w5.heap.size, 0, none⟩ (.bool bz)).setCell ⟨w5.heap.size, 1, none⟩ (.string mv) := ⟨_, rfl⟩
            rw [← hWW] at HP BV ⊢
            clear hWW v0' v1' g0' g1'
            clear c0 c1 c2 c3 f0 f1 f2 f3 v0 v1 g0 g1 hptr
            have HNE := Lib.hid (show w5.heap.size ≠ w.heap.size by omega)
            have HP := Lib.hid HP.out.drew
            have BV := Lib.hid BV.out.drew
            obtain ⟨v0, v1, g0, g1⟩ := blk_cells BV.out.k
            simp only [World.cell?_drew] at v0 v1
            go_region_held3 (fun w' => w'.cell? ⟨w5.heap.size, 0, none⟩ = some (.bool bz) ∧ w'.cell? ⟨w5.heap.size, 1, none⟩ = some (.string mv))
              (first
                | exact ⟨v0, v1⟩
                | exact ⟨(blk_cells (BV.out.set4 (g' := w.heap.size) HNE.out _ _ _ _).k).1, (blk_cells (BV.out.set4 (g' := w.heap.size) HNE.out _ _ _ _).k).2.1⟩
                | go_keep)
              (first
                | (go_at_call 95; (with_reducible refine (HT2.out _ HP.out.den).mono ?_); rintro e w8 ⟨rfl, hb8⟩; have HP := Lib.hid (HP.out.next hb8); have BV := Lib.hid (BV.out.next hb8); obtain ⟨v0, v1, g0, g1⟩ := blk_cells BV.out.k)
                | (go_at_call 18; (with_reducible refine (HMK.out _ (HE.out _ HP.out.bel)).mono ?_); rintro e w9 ⟨rfl, hb9⟩; have HP := Lib.hid (HP.out.next hb9); have BV := Lib.hid (BV.out.next hb9); obtain ⟨v0, v1, g0, g1⟩ := blk_cells BV.out.k; obtain ⟨c0, c1, c2, c3⟩ := blk4 HP.out.res; obtain ⟨f0, f1, f2, f3⟩ := fro4 HP.out.res))
            go_wp2
            exact bodyPost_ret (v := .tuple #[.agg #[.bool b3, .string m3, .bool false, .string k3], .int .i64 0]) (by simp [results, Tryz.results55, go_sem, c0, c1, c2, c3]) rfl ⟨b3, m3, k3, rfl, HRQ.out, below_set4 HP.out.bel (Nat.le_refl _) _ _ _ _⟩
        · cases neg
          case false =>
            have HT1 := Lib.hid (fun V (hV : Pn (w.heap.size + 1) p.length (val10 p) V) => total_nm (by omega) V hV)
            have HZ := Lib.hid (enc_mag (val10 p))
            generalize hmv : mag (val10 p) = mv at HT1 HZ
            have hmv := Lib.hid hmv
            go_wp2_with fail
            refine (HT1.out _ HP.out.num).mono ?_
            rintro e w5 ⟨rfl, hb5⟩
            have HP := Lib.hid (HP.out.next hb5)
            have hlt5 : w.heap.size + 3 < w5.heap.size := HP.out.sz
            have HP := Lib.hid (HP.out.next (below_new w5 (.cells #[.bool false, .string mv] 23)))
            have BV := Lib.hid (Bq.new w5 #[.bool false, .string mv] 23)
            obtain ⟨v0, v1, g0, g1⟩ := blk_cells BV.out.k
            clear hb5 c0 c1 c2 c3 f0 f1 f2 f3 hptr
            obtain ⟨c0, c1, c2, c3⟩ := blk4 HP.out.res
            obtain ⟨f0, f1, f2, f3⟩ := fro4 HP.out.res
            have hptr := HP.out.den.other HP.out.num (by omega)
            have HT2 := Lib.hid (fun V (hV : Pn (w.heap.size + 2) r.length (val10 r) V) => total_nm (by omega) V hV)
            have hmv4 : mv.size ≤ 100000 := by rw [← hmv.out]; exact Nat.le_trans (mag_pow10 (val10_lt p HS.out.dig.1)) (by omega)
            have hmd4 : (mag (val10 r)).size ≤ 100000 := Nat.le_trans (mag_pow10 (val10_lt r HS.out.dig.2)) (by omega)
            obtain ⟨rfl, rfl⟩ := HQ.out.one hpz
            rw [show mag (val10 r) = ⟨#[]⟩ from by rw [hr0, mag_nil]] at HT2
            have HMK := Lib.hid (fun V => make_zero false false mv enc_nought V)
            clear HQ hmd4 hmv4 hpz
            go_wp2_with fail
            clear c0 c1 c2 c3 f0 f1 f2 f3 v0 v1 g0 g1 hptr
            have HNE := Lib.hid (show w5.heap.size ≠ w.heap.size by omega)
            have HP := Lib.hid HP.out.drew
            have BV := Lib.hid BV.out.drew
            obtain ⟨v0, v1, g0, g1⟩ := blk_cells BV.out.k
            simp only [World.cell?_drew] at v0 v1
            go_region_held3 (fun w' => w'.cell? ⟨w5.heap.size, 0, none⟩ = some (.bool false) ∧ w'.cell? ⟨w5.heap.size, 1, none⟩ = some (.string mv))
              (first
                | exact ⟨v0, v1⟩
                | exact ⟨(blk_cells (BV.out.set4 (g' := w.heap.size) HNE.out _ _ _ _).k).1, (blk_cells (BV.out.set4 (g' := w.heap.size) HNE.out _ _ _ _).k).2.1⟩
                | go_keep)
              (first
                | (go_at_call 95; (with_reducible refine (HT2.out _ HP.out.den).mono ?_); rintro e w8 ⟨rfl, hb8⟩; have HP := Lib.hid (HP.out.next hb8); have BV := Lib.hid (BV.out.next hb8); obtain ⟨v0, v1, g0, g1⟩ := blk_cells BV.out.k)
                | (go_at_call 18; (with_reducible refine (HMK.out _).mono ?_); rintro e w9 ⟨rfl, hb9⟩; have HP := Lib.hid (HP.out.next hb9); have BV := Lib.hid (BV.out.next hb9); obtain ⟨v0, v1, g0, g1⟩ := blk_cells BV.out.k; obtain ⟨c0, c1, c2, c3⟩ := blk4 HP.out.res; obtain ⟨f0, f1, f2, f3⟩ := fro4 HP.out.res))
            go_wp2
            exact bodyPost_ret (v := .tuple #[.agg #[.bool false, .string ⟨#[]⟩, .bool false, .string ⟨#[]⟩], .int .i64 6]) (by simp [results, Tryz.results55, go_sem, c0, c1, c2, c3]) rfl ⟨false, _, _, rfl, rq_zero, below_set4 HP.out.bel (Nat.le_refl _) _ _ _ _⟩
          case true =>
            have HT1 := Lib.hid (fun V (hV : Pn (w.heap.size + 1) p.length (val10 p) V) => total_nm (by omega) V hV)
            have HZ := Lib.hid (enc_mag (val10 p))
            generalize hmv : mag (val10 p) = mv at HT1 HZ
            have hmv := Lib.hid hmv
            have HN0 := Lib.hid (enc_neg HZ.out)
            have hng := fun V => negate_pair false mv V
            generalize hbz : (!false && decide (0 < mv.size)) = bz at HN0 hng
            have HNG := Lib.hid hng
            clear hng hbz
            go_wp2_with fail
            refine (HT1.out _ HP.out.num).mono ?_
            rintro e w5 ⟨rfl, hb5⟩
            have HP := Lib.hid (HP.out.next hb5)
            have hlt5 : w.heap.size + 3 < w5.heap.size := HP.out.sz
            have HP := Lib.hid (HP.out.next (below_new w5 (.cells #[.bool false, .string mv] 23)))
            have BV := Lib.hid (Bq.new w5 #[.bool false, .string mv] 23)
            obtain ⟨v0, v1, g0, g1⟩ := blk_cells BV.out.k
            clear hb5 c0 c1 c2 c3 f0 f1 f2 f3 hptr
            go_wp2_with fail
            refine (HNG.out _).mono ?_
            rintro e w6 ⟨rfl, hb6⟩
            have HP := Lib.hid (HP.out.next hb6)
            have BV := Lib.hid (BV.out.next hb6)
            obtain ⟨v0', v1', g0', g1'⟩ := blk_cells BV.out.k
            clear hb6 v0 v1 g0 g1
            have HP := Lib.hid (HP.out.set hlt5 (.bool bz) (.string mv))
            have BV := Lib.hid (show Bq w5.heap.size #[.bool bz, .string mv] 23 ((w6.setCell ⟨w5.heap.size, 0, none⟩ (.bool bz)).setCell ⟨w5.heap.size, 1, none⟩ (.string mv)) from ⟨qset BV.out.k _ _, by rw [qsz]; exact BV.out.lt⟩)
            obtain ⟨v0, v1, g0, g1⟩ := blk_cells BV.out.k
            obtain ⟨c0, c1, c2, c3⟩ := blk4 HP.out.res
            obtain ⟨f0, f1, f2, f3⟩ := fro4 HP.out.res
            have hptr := HP.out.den.other HP.out.num (by omega)
            have HT2 := Lib.hid (fun V (hV : Pn (w.heap.size + 2) r.length (val10 r) V) => total_nm (by omega) V hV)
            have hmv4 : mv.size ≤ 100000 := by rw [← hmv.out]; exact Nat.le_trans (mag_pow10 (val10_lt p HS.out.dig.1)) (by omega)
            have hmd4 : (mag (val10 r)).size ≤ 100000 := Nat.le_trans (mag_pow10 (val10_lt r HS.out.dig.2)) (by omega)
            obtain ⟨rfl, rfl⟩ := HQ.out.one hpz
            rw [show mag (val10 r) = ⟨#[]⟩ from by rw [hr0, mag_nil]] at HT2
            have HMK := Lib.hid (fun V => make_zero bz false mv enc_nought V)
            clear HQ hmd4 hmv4 hpz
            go_wp2_with fail
            obtain ⟨W, hWW⟩ : ∃ W, W = (w6.setCell ⟨w5.heap.size, 0, none⟩ (.bool bz)).setCell ⟨w5.heap.size, 1, none⟩ (.string mv) := ⟨_, rfl⟩
            rw [← hWW] at HP BV ⊢
            clear hWW v0' v1' g0' g1'
            clear c0 c1 c2 c3 f0 f1 f2 f3 v0 v1 g0 g1 hptr
            have HNE := Lib.hid (show w5.heap.size ≠ w.heap.size by omega)
            have HP := Lib.hid HP.out.drew
            have BV := Lib.hid BV.out.drew
            obtain ⟨v0, v1, g0, g1⟩ := blk_cells BV.out.k
            simp only [World.cell?_drew] at v0 v1
            go_region_held3 (fun w' => w'.cell? ⟨w5.heap.size, 0, none⟩ = some (.bool bz) ∧ w'.cell? ⟨w5.heap.size, 1, none⟩ = some (.string mv))
              (first
                | exact ⟨v0, v1⟩
                | exact ⟨(blk_cells (BV.out.set4 (g' := w.heap.size) HNE.out _ _ _ _).k).1, (blk_cells (BV.out.set4 (g' := w.heap.size) HNE.out _ _ _ _).k).2.1⟩
                | go_keep)
              (first
                | (go_at_call 95; (with_reducible refine (HT2.out _ HP.out.den).mono ?_); rintro e w8 ⟨rfl, hb8⟩; have HP := Lib.hid (HP.out.next hb8); have BV := Lib.hid (BV.out.next hb8); obtain ⟨v0, v1, g0, g1⟩ := blk_cells BV.out.k)
                | (go_at_call 18; (with_reducible refine (HMK.out _).mono ?_); rintro e w9 ⟨rfl, hb9⟩; have HP := Lib.hid (HP.out.next hb9); have BV := Lib.hid (BV.out.next hb9); obtain ⟨v0, v1, g0, g1⟩ := blk_cells BV.out.k; obtain ⟨c0, c1, c2, c3⟩ := blk4 HP.out.res; obtain ⟨f0, f1, f2, f3⟩ := fro4 HP.out.res))
            go_wp2
            exact bodyPost_ret (v := .tuple #[.agg #[.bool false, .string ⟨#[]⟩, .bool false, .string ⟨#[]⟩], .int .i64 6]) (by simp [results, Tryz.results55, go_sem, c0, c1, c2, c3]) rfl ⟨false, _, _, rfl, rq_zero, below_set4 HP.out.bel (Nat.le_refl _) _ _ _ _⟩
end Go.Proofs.YtahehlajpaoiiaaGreatDoor


namespace Go.Proofs.YtahehlajpaoiiaaGreatDoor
open Go.RowKit
attribute [local go_sem ↓] Go.wp_at_zero Go.wp_at_succ

theorem bval_lit (c : UInt8) : bval ⟨#[c]⟩ = c.toNat := by
  show 0 + dig ⟨#[c]⟩ 0 * 256 ^ 0 = c.toNat
  rw [show dig ⟨#[c]⟩ 0 = c.toNat from rfl]
  simp
theorem lit_one (neg : Bool) (c : UInt8) (x : Int) (hc : c.toNat ≠ 0) (hx : x = sgn neg c.toNat) : enc x = .agg #[.bool neg, .string ⟨#[c]⟩] := by
  rw [hx]
  have h := enc_eq (neg := neg) (s := ⟨#[c]⟩) ⟨fun _ => hc, fun h => by simp [ByteArray.size] at h⟩ (z := sgn neg c.toNat) (by unfold ival sgn; rw [bval_lit c])
  exact h.symm
theorem rq_lit {q : Rat} {b : Bool} {c d : UInt8} (N : Int) (hc : c.toNat ≠ 0) (hd : d.toNat ≠ 0) (hN : N = sgn b c.toNat) (hn : q.num = N) (h1 : d.toNat ≠ 1) (hden : q.den = d.toNat) : Rq q b ⟨#[c]⟩ ⟨#[d]⟩ := by
  refine ⟨by rw [hn]; exact lit_one b c N hc hN, ?_⟩
  rw [hden]
  unfold dm
  rw [if_neg h1]
  have h := lit_one false d d.toNat hd rfl
  exact ((enc_parts h).2.trans (by rw [Int.natAbs_natCast]))
theorem rq_m32 : Rq (Rat.divInt 6 (-4)) true ⟨#[3]⟩ ⟨#[2]⟩ := rq_lit (-3) (by decide) (by decide) (by decide) (by decide +kernel) (by decide) (by decide +kernel)
theorem rq_m32b : Rq (Rat.divInt (-3) 2) true ⟨#[3]⟩ ⟨#[2]⟩ := rq_lit (-3) (by decide) (by decide) (by decide) (by decide +kernel) (by decide) (by decide +kernel)
theorem rq_13 : Rq (Rat.divInt 1 3) false ⟨#[1]⟩ ⟨#[3]⟩ := rq_lit 1 (by decide) (by decide) (by decide) (by decide +kernel) (by decide) (by decide +kernel)
theorem rq_12 : Rq (Rat.divInt 1 2) false ⟨#[1]⟩ ⟨#[2]⟩ := rq_lit 1 (by decide) (by decide) (by decide) (by decide +kernel) (by decide) (by decide +kernel)
theorem rq_94 : Rq (Rat.divInt 9 4) false ⟨#[9]⟩ ⟨#[4]⟩ := rq_lit 9 (by decide) (by decide) (by decide) (by decide +kernel) (by decide) (by decide +kernel)
theorem rq_32 : Rq (Rat.divInt 3 2) false ⟨#[3]⟩ ⟨#[2]⟩ := rq_lit 3 (by decide) (by decide) (by decide) (by decide +kernel) (by decide) (by decide +kernel)
theorem rq_25 : Rq (Rat.divInt 2 5) false ⟨#[2]⟩ ⟨#[5]⟩ := rq_lit 2 (by decide) (by decide) (by decide) (by decide +kernel) (by decide) (by decide +kernel)

theorem mag_lit (c : UInt8) (hc : c.toNat ≠ 0) : mag c.toNat = ⟨#[c]⟩ := by
  have h := lit_one false c c.toNat hc rfl
  exact ((enc_parts h).2.trans (by rw [Int.natAbs_natCast])).symm
theorem mag_2 : mag 2 = ⟨#[2]⟩ := mag_lit 2 (by decide)
theorem mag_3 : mag 3 = ⟨#[3]⟩ := mag_lit 3 (by decide)
theorem mag_5 : mag 5 = ⟨#[5]⟩ := mag_lit 5 (by decide)

theorem known_parse (w : World) (hE : Env w) : Calls Tryz.prog 55 #[.string ⟨#[45, 48, 54, 47, 52]⟩] w (RetB w (.tuple #[.agg #[.bool true, .string ⟨#[3]⟩, .bool false, .string ⟨#[2]⟩], .int .i64 0])) := by
  have hp : Pq true [48, 54, 47, 52] (Rat.divInt (sgn true (val10 [48, 54])) (val10 [52] : Int)) 0 := .frac [48, 54] [52] rfl ⟨by simp, fun b hb => by simp at hb; rcases hb with rfl | rfl <;> exact ⟨by decide, by decide⟩⟩ ⟨by simp, fun b hb => by simp at hb; rcases hb with rfl; exact ⟨by decide, by decide⟩⟩ (by decide)
  refine (ratParse_in ⟨#[45, 48, 54, 47, 52]⟩ w hE [48, 54, 47, 52] true (by decide) (by decide) (by decide) (by decide) _ _ hp).mono ?_
  rintro e w' ⟨b, m, k, rfl, hq, hb⟩
  have h6 : Rat.divInt (sgn true (val10 [48, 54])) (val10 [52] : Int) = Rat.divInt 6 (-4) := by decide +kernel
  rw [h6] at hq
  obtain ⟨rfl, rfl, rfl⟩ := rq_m32.inj hq
  exact ⟨rfl, hb⟩

theorem known_simplest (w : World) (hE : Env w) : Calls Tryz.prog 49 #[.agg #[.bool false, .string ⟨#[1]⟩, .bool false, .string ⟨#[3]⟩], .agg #[.bool false, .string ⟨#[1]⟩, .bool false, .string ⟨#[2]⟩], .bool true, .bool true] w (RetB w (.tuple #[.agg #[.bool false, .string ⟨#[2]⟩, .bool false, .string ⟨#[5]⟩], .int .i64 0])) := by
  have n1 : (Rat.divInt 1 3).num = 1 := by decide +kernel
  have d1 : (Rat.divInt 1 3).den = 3 := by decide +kernel
  have n2 : (Rat.divInt 1 2).num = 1 := by decide +kernel
  have d2 : (Rat.divInt 1 2).den = 2 := by decide +kernel
  refine (simplest_pos rq_13 rq_12 true true (by rw [n1]; omega) (by rw [n2]; omega) (by decide +kernel) (by decide) (by decide) (by rw [d1, mag_3]; decide) (by rw [d2, mag_2]; decide) (by decide) (by decide) w hE).mono ?_
  rintro e w' ⟨n, m, rfl, hs, hb⟩
  rw [n1, d1, n2, d2] at hs
  have h1 := hs.min 2 5 ⟨by omega, by unfold Abv; first | decide | (left; decide), by unfold Blw; first | decide | (left; decide)⟩
  have h2 := hs.inn.1
  have h3 := hs.inn.2.1
  have h4 := hs.inn.2.2
  unfold Abv at h3
  unfold Blw at h4
  simp at h3 h4
  obtain ⟨rfl, rfl⟩ : n = 2 ∧ m = 5 := by omega
  refine ⟨?_, hb⟩
  have : dm 5 = ⟨#[5]⟩ := by unfold dm; rw [if_neg (by decide), mag_5]
  rw [mag_2, this]

theorem known_root (w : World) (hE : Env w) : Calls Tryz.prog 52 #[.agg #[.bool false, .string ⟨#[9]⟩, .bool false, .string ⟨#[4]⟩]] w (RetB w (.tuple #[.agg #[.bool false, .string ⟨#[3]⟩, .bool false, .string ⟨#[2]⟩], .bool true])) := by
  have h := ratRoot_yes rq_94 (N := 3) (D := 2) (by decide +kernel) (by decide +kernel) (Nat.le_trans (mag_size_le (k := 1) (by decide)) (by decide)) (Nat.le_trans (mag_size_le (k := 1) (by decide)) (by decide)) w hE
  have : dm 2 = ⟨#[2]⟩ := by unfold dm; rw [if_neg (by decide), mag_2]
  rw [mag_3, this] at h
  exact h

theorem known_print (w : World) (hE : Env w) : Calls Tryz.prog 54 #[.agg #[.bool true, .string ⟨#[3]⟩, .bool false, .string ⟨#[2]⟩]] w (RetB w (.string ⟨#[45, 51, 47, 50]⟩)) := by
  have n1 : (Rat.divInt 6 (-4)).num = -3 := by decide +kernel
  have d1 : (Rat.divInt 6 (-4)).den = 2 := by decide +kernel
  have h := ratPrint_part rq_m32 (by rw [d1]; decide) (by decide) (by decide) w hE
  rw [n1, d1] at h
  have e : ((⟨(printed true (-3 : Int).natAbs).toArray⟩ ++ ⟨#[47]⟩) ++ ⟨(printed false 2).toArray⟩ : ByteArray) = ⟨#[45, 51, 47, 50]⟩ := by decide +kernel
  rw [e] at h
  exact h

theorem known_compare (w : World) (hE : Env w) : Calls Tryz.prog 38 #[.agg #[.bool true, .string ⟨#[3]⟩, .bool false, .string ⟨#[2]⟩], .agg #[.bool false, .string ⟨#[3]⟩, .bool false, .string ⟨#[2]⟩]] w (RetB w (.int .i64 (-1))) := by
  have h := ratCompare_f rq_m32 rq_32 (by decide) (by decide) (by rw [show (Rat.divInt 6 (-4)).den = 2 by decide +kernel, mag_2]; decide) (by rw [show (Rat.divInt 3 2).den = 2 by decide +kernel, mag_2]; decide) w hE
  have e : cmpQ (Rat.divInt 6 (-4)) (Rat.divInt 3 2) = -1 := by decide +kernel
  rw [e] at h
  exact h
end Go.Proofs.YtahehlajpaoiiaaGreatDoor


namespace Go.Proofs.YtahehlajpaoiiaaGreatDoor
open Go.RowKit
attribute [local go_sem ↓] Go.wp_at_zero Go.wp_at_succ

set_option maxHeartbeats 8000000 in
set_option maxRecDepth 100000 in
theorem rknown_any (w : World) (hE : Env w) : Calls Tryz.prog 14 #[] w (RetB w (.bool true)) := by
  have HF := Lib.hid (fun V (hV : Env V) => fromInts_f rq_m32 (by omega) (by omega) (by omega) (by omega) (by omega) V hV)
  have H13 := Lib.hid (fun V => rOf_f rq_13 (by omega) (by omega) (by omega) (by omega) (by omega) V)
  have H12 := Lib.hid (fun V => rOf_f rq_12 (by omega) (by omega) (by omega) (by omega) (by omega) V)
  have H94 := Lib.hid (fun V => rOf_f rq_94 (by omega) (by omega) (by omega) (by omega) (by omega) V)
  have H25 := Lib.hid (fun V => rOf_f rq_25 (by omega) (by omega) (by omega) (by omega) (by omega) V)
  have H32 := Lib.hid (fun V => rOf_f rq_32 (by omega) (by omega) (by omega) (by omega) (by omega) V)
  have Hm32 := Lib.hid (fun V => rOf_f rq_m32b (by omega) (by omega) (by omega) (by omega) (by omega) V)
  have HS := Lib.hid (fun V (hV : Env V) => known_simplest V hV)
  have HR := Lib.hid (fun V (hV : Env V) => known_root V hV)
  have HP := Lib.hid (fun V (hV : Env V) => known_parse V hV)
  have HPr := Lib.hid (fun V (hV : Env V) => known_print V hV)
  have HC := Lib.hid (fun V (hV : Env V) => known_compare V hV)
  have HE := Lib.hid (fun V (hb : Below w.heap.size w V) => hE.next hb)
  have BB := Lib.hid (Below.refl w.heap.size w)
  clear hE
  go_enter Tryz.func14, Tryz.ntmps14
  go_wp2_with fail
  refine (HF.out _ (HE.out _ BB.out)).mono ?_
  rintro e w1 ⟨rfl, hb9⟩
  have BB := Lib.hid (below_step BB.out (Nat.le_refl _) hb9)
  clear hb9
  have NB := below_new w1 (.cells #[.bool true, .string ⟨#[3]⟩, .bool false, .string ⟨#[2]⟩] 25)
  have A := Lib.hid (Bq.new w1 #[.bool true, .string ⟨#[3]⟩, .bool false, .string ⟨#[2]⟩] 25)
  have BB := Lib.hid (below_step BB.out (Nat.le_refl _) NB)
  clear NB
  go_wp2_with fail
  refine (H13.out _).mono ?_
  rintro e w2 ⟨rfl, hb9⟩
  have A := Lib.hid (A.out.next hb9)
  have BB := Lib.hid (below_step BB.out (Nat.le_refl _) hb9)
  clear hb9
  go_wp2_with fail
  refine (H12.out _).mono ?_
  rintro e w3 ⟨rfl, hb9⟩
  have A := Lib.hid (A.out.next hb9)
  have BB := Lib.hid (below_step BB.out (Nat.le_refl _) hb9)
  clear hb9
  go_wp2_with fail
  refine (HS.out _ (HE.out _ BB.out)).mono ?_
  rintro e w4 ⟨rfl, hb9⟩
  have A := Lib.hid (A.out.next hb9)
  have BB := Lib.hid (below_step BB.out (Nat.le_refl _) hb9)
  clear hb9
  have NB := below_new w4 (.cells #[.bool false, .string ⟨#[2]⟩, .bool false, .string ⟨#[5]⟩] 25)
  have A := Lib.hid (A.out.next NB)
  have B := Lib.hid (Bq.new w4 #[.bool false, .string ⟨#[2]⟩, .bool false, .string ⟨#[5]⟩] 25)
  have BB := Lib.hid (below_step BB.out (Nat.le_refl _) NB)
  clear NB
  go_wp2_with fail
  refine (H94.out _).mono ?_
  rintro e w5 ⟨rfl, hb9⟩
  have A := Lib.hid (A.out.next hb9)
  have B := Lib.hid (B.out.next hb9)
  have BB := Lib.hid (below_step BB.out (Nat.le_refl _) hb9)
  clear hb9
  go_wp2_with fail
  refine (HR.out _ (HE.out _ BB.out)).mono ?_
  rintro e w6 ⟨rfl, hb9⟩
  have A := Lib.hid (A.out.next hb9)
  have B := Lib.hid (B.out.next hb9)
  have BB := Lib.hid (below_step BB.out (Nat.le_refl _) hb9)
  clear hb9
  have NB := below_new w6 (.cells #[.bool false, .string ⟨#[3]⟩, .bool false, .string ⟨#[2]⟩] 25)
  have A := Lib.hid (A.out.next NB)
  have B := Lib.hid (B.out.next NB)
  have C := Lib.hid (Bq.new w6 #[.bool false, .string ⟨#[3]⟩, .bool false, .string ⟨#[2]⟩] 25)
  have BB := Lib.hid (below_step BB.out (Nat.le_refl _) NB)
  clear NB
  go_wp2_with fail
  refine (HP.out _ (HE.out _ BB.out)).mono ?_
  rintro e w7 ⟨rfl, hb9⟩
  have A := Lib.hid (A.out.next hb9)
  have B := Lib.hid (B.out.next hb9)
  have C := Lib.hid (C.out.next hb9)
  have BB := Lib.hid (below_step BB.out (Nat.le_refl _) hb9)
  clear hb9
  have NB := below_new w7 (.cells #[.bool true, .string ⟨#[3]⟩, .bool false, .string ⟨#[2]⟩] 25)
  have A := Lib.hid (A.out.next NB)
  have B := Lib.hid (B.out.next NB)
  have C := Lib.hid (C.out.next NB)
  have D := Lib.hid (Bq.new w7 #[.bool true, .string ⟨#[3]⟩, .bool false, .string ⟨#[2]⟩] 25)
  have BB := Lib.hid (below_step BB.out (Nat.le_refl _) NB)
  clear NB
  have A := Lib.hid A.out.drew
  have B := Lib.hid B.out.drew
  have C := Lib.hid C.out.drew
  have D := Lib.hid D.out.drew
  have BB := Lib.hid BB.out.drew
  obtain ⟨a0, a1, a2, a3⟩ := blk4 A.out.k
  obtain ⟨b0, b1, b2, b3⟩ := blk4 B.out.k
  obtain ⟨c0, c1, c2, c3⟩ := blk4 C.out.k
  obtain ⟨d0, d1, d2, d3⟩ := blk4 D.out.k
  simp only [World.cell?_drew] at a0 a1 a2 a3 b0 b1 b2 b3 c0 c1 c2 c3 d0 d1 d2 d3
  go_wp2_with fail
  go_region_held3 (fun w' => w'.cell? ⟨w1.heap.size, 0, none⟩ = some (.bool true) ∧ w'.cell? ⟨w1.heap.size, 1, none⟩ = some (.string ⟨#[3]⟩) ∧ w'.cell? ⟨w1.heap.size, 2, none⟩ = some (.bool false) ∧ w'.cell? ⟨w1.heap.size, 3, none⟩ = some (.string ⟨#[2]⟩) ∧ w'.cell? ⟨w4.heap.size, 0, none⟩ = some (.bool false) ∧ w'.cell? ⟨w4.heap.size, 1, none⟩ = some (.string ⟨#[2]⟩) ∧ w'.cell? ⟨w4.heap.size, 2, none⟩ = some (.bool false) ∧ w'.cell? ⟨w4.heap.size, 3, none⟩ = some (.string ⟨#[5]⟩) ∧ w'.cell? ⟨w6.heap.size, 0, none⟩ = some (.bool false) ∧ w'.cell? ⟨w6.heap.size, 1, none⟩ = some (.string ⟨#[3]⟩) ∧ w'.cell? ⟨w6.heap.size, 2, none⟩ = some (.bool false) ∧ w'.cell? ⟨w6.heap.size, 3, none⟩ = some (.string ⟨#[2]⟩) ∧ w'.cell? ⟨w7.heap.size, 0, none⟩ = some (.bool true) ∧ w'.cell? ⟨w7.heap.size, 1, none⟩ = some (.string ⟨#[3]⟩) ∧ w'.cell? ⟨w7.heap.size, 2, none⟩ = some (.bool false) ∧ w'.cell? ⟨w7.heap.size, 3, none⟩ = some (.string ⟨#[2]⟩))
    (first
      | exact ⟨(blk4 A.out.k).1, (blk4 A.out.k).2.1, (blk4 A.out.k).2.2.1, (blk4 A.out.k).2.2.2, (blk4 B.out.k).1, (blk4 B.out.k).2.1, (blk4 B.out.k).2.2.1, (blk4 B.out.k).2.2.2, (blk4 C.out.k).1, (blk4 C.out.k).2.1, (blk4 C.out.k).2.2.1, (blk4 C.out.k).2.2.2, (blk4 D.out.k).1, (blk4 D.out.k).2.1, (blk4 D.out.k).2.2.1, (blk4 D.out.k).2.2.2⟩
      | go_keep)
    (first
      | (go_at_call 23; (with_reducible refine (Hm32.out _).mono ?_); rintro e v1 ⟨rfl, hb9⟩; have A := Lib.hid (A.out.next hb9); have B := Lib.hid (B.out.next hb9); have C := Lib.hid (C.out.next hb9); have D := Lib.hid (D.out.next hb9); have BB := Lib.hid (below_step BB.out (Nat.le_refl _) hb9); clear hb9)
      | (go_at_call 54; (with_reducible refine (HPr.out _ (HE.out _ BB.out)).mono ?_); rintro e v2 ⟨rfl, hb9⟩; have A := Lib.hid (A.out.next hb9); have B := Lib.hid (B.out.next hb9); have C := Lib.hid (C.out.next hb9); have D := Lib.hid (D.out.next hb9); have BB := Lib.hid (below_step BB.out (Nat.le_refl _) hb9); clear hb9)
      | (go_at_call 23; (with_reducible refine (H25.out _).mono ?_); rintro e v3 ⟨rfl, hb9⟩; have A := Lib.hid (A.out.next hb9); have B := Lib.hid (B.out.next hb9); have C := Lib.hid (C.out.next hb9); have D := Lib.hid (D.out.next hb9); have BB := Lib.hid (below_step BB.out (Nat.le_refl _) hb9); clear hb9)
      | (go_at_call 23; (with_reducible refine (H32.out _).mono ?_); rintro e v4 ⟨rfl, hb9⟩; have A := Lib.hid (A.out.next hb9); have B := Lib.hid (B.out.next hb9); have C := Lib.hid (C.out.next hb9); have D := Lib.hid (D.out.next hb9); have BB := Lib.hid (below_step BB.out (Nat.le_refl _) hb9); clear hb9)
      | (go_at_call 38; (with_reducible refine (HC.out _ (HE.out _ BB.out)).mono ?_); rintro e v5 ⟨rfl, hb9⟩; have A := Lib.hid (A.out.next hb9); have B := Lib.hid (B.out.next hb9); have C := Lib.hid (C.out.next hb9); have D := Lib.hid (D.out.next hb9); have BB := Lib.hid (below_step BB.out (Nat.le_refl _) hb9); clear hb9))
  go_wp2
  go_ret
  exact ⟨rfl, BB.out⟩
end Go.Proofs.YtahehlajpaoiiaaGreatDoor
