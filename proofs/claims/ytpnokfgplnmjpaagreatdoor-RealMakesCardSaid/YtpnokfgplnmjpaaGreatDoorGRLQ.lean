import Derived.Test.YtpnokfgplnmjpaaGreatDoorGRHE
import Derived.Test.YtpnokfgplnmjpaaGreatDoorGRLN
import Derived.Test.YtpnokfgplnmjpaaGreatDoorGRLK
set_option linter.unusedSimpArgs false
set_option linter.unusedVariables false

namespace Go.Proofs.YtpnokfgplnmjpaaGreatDoor
open Go.RowKit
attribute [local go_sem ↓] Go.wp_at_zero Go.wp_at_succ

theorem wrap_small {x : Int} (h1 : -9223372036854775808 ≤ x) (h2 : x ≤ 9223372036854775807) : IntKind.i64.wrap x = x := by
  rw [IntKind.wrap_i64]
  omega

set_option maxHeartbeats 8000000 in
set_option maxRecDepth 100000 in
theorem bytes_w (b1 d1 : Bool) (m1 k1 : ByteArray) (hm : m1.size ≤ 140737488351232) (hk : k1.size ≤ 140737488351232) (w : World) :
    Calls Tryz.prog 16 #[.agg #[.bool b1, .string m1, .bool d1, .string k1]] w (RetB w (.int .i64 ((m1.size : Int) + (k1.size : Int)))) := by
  have hw : IntKind.i64.wrap ((m1.size : Int) + (k1.size : Int)) = (m1.size : Int) + (k1.size : Int) := wrap_small (by omega) (by omega)
  go_enter Tryz.func16, Tryz.ntmps16
  exact wk0

theorem sz8 {q : Rat} {b : Bool} {m k : ByteArray} (h : Rq q b m k) (hm : m.size ≤ 8) (hk : k.size ≤ 8) : Sz 8 q := by
  have h1 := bval_lt m
  rw [h.bval] at h1
  refine ⟨Nat.lt_of_lt_of_le h1 (Nat.pow_le_pow_right (by decide) hm), ?_⟩
  by_cases hd : q.den = 1
  · rw [hd]; decide
  · have h2 := bval_lt k
    rw [h.den2 hd, bval_mag] at h2
    rw [h.den2 hd] at hk
    exact Nat.lt_of_lt_of_le h2 (Nat.pow_le_pow_right (by decide) hk)
end Go.Proofs.YtpnokfgplnmjpaaGreatDoor


namespace Go.Proofs.YtpnokfgplnmjpaaGreatDoor
open Go.RowKit
attribute [local go_sem ↓] Go.wp_at_zero Go.wp_at_succ

set_option maxHeartbeats 8000000 in
set_option maxRecDepth 100000 in
theorem frac_no (w : World) {b1 d1 : Bool} {m1 k1 : ByteArray} (h : ¬ (m1.size : Int) + (k1.size : Int) ≤ 8) (HB : ∀ V, Below w.heap.size w V → Calls Tryz.prog 16 #[.agg #[.bool b1, .string m1, .bool d1, .string k1]] V (RetB V (.int .i64 ((m1.size : Int) + (k1.size : Int))))) :
    Calls Tryz.prog 26 #[.agg #[.bool b1, .string m1, .bool d1, .string k1]] w (RetB w (.bool false)) := by
  have C1 := Lib.hid HB
  clear HB 
  go_enter Tryz.func26, Tryz.ntmps26
  exact wk0

set_option maxHeartbeats 8000000 in
set_option maxRecDepth 100000 in
theorem frac_chk (w : World) {b1 d1 : Bool} {m1 k1 : ByteArray} {o : Bool} (h : (m1.size : Int) + (k1.size : Int) ≤ 8) (HB : ∀ V, Below w.heap.size w V → Calls Tryz.prog 16 #[.agg #[.bool b1, .string m1, .bool d1, .string k1]] V (RetB V (.int .i64 ((m1.size : Int) + (k1.size : Int))))) (HC : ∀ V, Below w.heap.size w V → Calls Tryz.prog 57 #[.agg #[.bool b1, .string m1, .bool d1, .string k1]] V (RetB V (.bool o))) :
    Calls Tryz.prog 26 #[.agg #[.bool b1, .string m1, .bool d1, .string k1]] w (RetB w (.bool o)) := by
  have C1 := Lib.hid HB
  have C2 := Lib.hid HC
  clear HB HC 
  go_enter Tryz.func26, Tryz.ntmps26
  exact wk0

theorem frac_any (b1 : Bool) (m1 : ByteArray) (d1 : Bool) (k1 : ByteArray) (t1 : m1.size ≤ 140737488351232) (t2 : k1.size ≤ 140737488351232) :
    ∃ o, (∀ V, Calls Tryz.prog 26 #[.agg #[.bool b1, .string m1, .bool d1, .string k1]] V (RetB V (.bool o))) ∧ (o = true → d1 = false ∧ ∃ q : Rat, Rq q b1 m1 k1 ∧ Sz 8 q) := by
  have HB := fun (w V : World) (_ : Below w.heap.size w V) => bytes_w b1 d1 m1 k1 t1 t2 V
  by_cases h : (m1.size : Int) + (k1.size : Int) ≤ 8
  · by_cases hp : d1 = false ∧ ∃ q, Rq q b1 m1 k1
    · obtain ⟨rfl, p, hp⟩ := hp
      exact ⟨true, fun V => frac_chk V h (HB V) (fun V _ => rCheck_yes hp (by omega) (by omega) V), fun _ => ⟨rfl, p, hp, sz8 hp (by omega) (by omega)⟩⟩
    · exact ⟨false, fun V => frac_chk V h (HB V) (fun V _ => rCheck_no b1 m1 d1 k1 (by omega) (by omega) hp V), fun h => by cases h⟩
  · exact ⟨false, fun V => frac_no V h (HB V), fun h => by cases h⟩
theorem mkR_ok {p q r : Rat} (h : 0 ≤ r) : (Sg.mkR p q r).Ok := by
  unfold Sg.mkR
  by_cases hs : Sg.Sq r
  · rw [if_pos hs]; exact Sg.of_ok _
  · rw [if_neg hs]
    by_cases hq : q = 0
    · rw [if_pos hq]; exact Sg.of_ok _
    · rw [if_neg hq]
      refine ⟨?_, .inr ⟨?_, Sg.nsq_sq.2 (Sg.nsq_by hq hs)⟩⟩
      · show (if q < 0 then (-1 : Int) else 1) = 1 ∨ (if q < 0 then (-1 : Int) else 1) = -1
        split
        · exact .inr rfl
        · exact .inl rfl
      · show 0 < q * q * r
        have h1 : r ≠ 0 := fun e => hs ⟨0, by grind, by grind⟩
        exact Rat.mul_pos (Sg.sq_pos' hq) (by grind)
theorem mkR_size {p q r : Rat} (zp : Sz 8 p) (zq : Sz 8 q) (zr : Sz 8 r) : Rz 100 (Sg.mkR p q r) := by
  have zz : Sz 100 0 := Sz.zero 99
  unfold Sg.mkR
  by_cases hs : Sg.Sq r
  · rw [if_pos hs]
    exact ⟨(zp.add (zq.mul (Sz.root (n := 7) zr))).up (by omega), zz⟩
  · rw [if_neg hs]
    by_cases hq : q = 0
    · rw [if_pos hq]; exact ⟨zp.up (by omega), zz⟩
    · rw [if_neg hq]; exact ⟨zp.up (by omega), ((zq.mul zq).mul zr).up (by omega)⟩

set_option maxHeartbeats 8000000 in
set_option maxRecDepth 100000 in
theorem makes_no1 (w : World) {b1 d1 : Bool} {m1 k1 : ByteArray} {b2 d2 : Bool} {m2 k2 : ByteArray} {b3 d3 : Bool} {m3 k3 : ByteArray} (HK : ∀ V, Below w.heap.size w V → Calls Tryz.prog 15 #[] V (RetB V (.bool true))) (HF1 : ∀ V, Below w.heap.size w V → Calls Tryz.prog 26 #[.agg #[.bool b1, .string m1, .bool d1, .string k1]] V (RetB V (.bool false))) :
    Calls Tryz.prog 4 #[.agg #[.bool b1, .string m1, .bool d1, .string k1], .agg #[.bool b2, .string m2, .bool d2, .string k2], .agg #[.bool b3, .string m3, .bool d3, .string k3]] w (RetB w (.bool true)) := by
  have C1 := Lib.hid HK
  have C2 := Lib.hid HF1
  clear HK HF1 
  go_enter Tryz.func4, Tryz.ntmps4
  exact wk0

set_option maxHeartbeats 8000000 in
set_option maxRecDepth 100000 in
theorem makes_no2 (w : World) {b1 d1 : Bool} {m1 k1 : ByteArray} {b2 d2 : Bool} {m2 k2 : ByteArray} {b3 d3 : Bool} {m3 k3 : ByteArray} (HK : ∀ V, Below w.heap.size w V → Calls Tryz.prog 15 #[] V (RetB V (.bool true))) (HF1 : ∀ V, Below w.heap.size w V → Calls Tryz.prog 26 #[.agg #[.bool b1, .string m1, .bool d1, .string k1]] V (RetB V (.bool true))) (HF2 : ∀ V, Below w.heap.size w V → Calls Tryz.prog 26 #[.agg #[.bool b2, .string m2, .bool d2, .string k2]] V (RetB V (.bool false))) :
    Calls Tryz.prog 4 #[.agg #[.bool b1, .string m1, .bool d1, .string k1], .agg #[.bool b2, .string m2, .bool d2, .string k2], .agg #[.bool b3, .string m3, .bool d3, .string k3]] w (RetB w (.bool true)) := by
  have C1 := Lib.hid HK
  have C2 := Lib.hid HF1
  have C3 := Lib.hid HF2
  clear HK HF1 HF2 
  go_enter Tryz.func4, Tryz.ntmps4
  exact wk0

set_option maxHeartbeats 8000000 in
set_option maxRecDepth 100000 in
theorem makes_no3 (w : World) {b1 d1 : Bool} {m1 k1 : ByteArray} {b2 d2 : Bool} {m2 k2 : ByteArray} {b3 d3 : Bool} {m3 k3 : ByteArray} (HK : ∀ V, Below w.heap.size w V → Calls Tryz.prog 15 #[] V (RetB V (.bool true))) (HF1 : ∀ V, Below w.heap.size w V → Calls Tryz.prog 26 #[.agg #[.bool b1, .string m1, .bool d1, .string k1]] V (RetB V (.bool true))) (HF2 : ∀ V, Below w.heap.size w V → Calls Tryz.prog 26 #[.agg #[.bool b2, .string m2, .bool d2, .string k2]] V (RetB V (.bool true))) (HF3 : ∀ V, Below w.heap.size w V → Calls Tryz.prog 26 #[.agg #[.bool b3, .string m3, .bool d3, .string k3]] V (RetB V (.bool false))) :
    Calls Tryz.prog 4 #[.agg #[.bool b1, .string m1, .bool d1, .string k1], .agg #[.bool b2, .string m2, .bool d2, .string k2], .agg #[.bool b3, .string m3, .bool d3, .string k3]] w (RetB w (.bool true)) := by
  have C1 := Lib.hid HK
  have C2 := Lib.hid HF1
  have C3 := Lib.hid HF2
  have C4 := Lib.hid HF3
  clear HK HF1 HF2 HF3 
  go_enter Tryz.func4, Tryz.ntmps4
  exact wk0

set_option maxHeartbeats 8000000 in
set_option maxRecDepth 100000 in
theorem makes_err (w : World) {b1 d1 : Bool} {m1 k1 : ByteArray} {b2 d2 : Bool} {m2 k2 : ByteArray} {b3 d3 : Bool} {m3 k3 : ByteArray} (HK : ∀ V, Below w.heap.size w V → Calls Tryz.prog 15 #[] V (RetB V (.bool true))) (HF1 : ∀ V, Below w.heap.size w V → Calls Tryz.prog 26 #[.agg #[.bool b1, .string m1, .bool d1, .string k1]] V (RetB V (.bool true))) (HF2 : ∀ V, Below w.heap.size w V → Calls Tryz.prog 26 #[.agg #[.bool b2, .string m2, .bool d2, .string k2]] V (RetB V (.bool true))) (HF3 : ∀ V, Below w.heap.size w V → Calls Tryz.prog 26 #[.agg #[.bool b3, .string m3, .bool d3, .string k3]] V (RetB V (.bool true))) (HM : ∀ V, Below w.heap.size w V → Calls Tryz.prog 27 #[.agg #[.bool b1, .string m1, .bool d1, .string k1], .agg #[.bool b2, .string m2, .bool d2, .string k2], .agg #[.bool b3, .string m3, .bool d3, .string k3]] V (RetB V (.tuple #[.agg #[.bool false, .string ⟨#[]⟩, .bool false, .string ⟨#[]⟩, .bool false, .string ⟨#[]⟩, .bool false, .string ⟨#[]⟩, .bool false], .int .i64 2]))) (HS : ∀ V, Below w.heap.size w V → Calls Tryz.prog 28 #[.agg #[.bool b3, .string m3, .bool d3, .string k3]] V (RetB V (.int .i64 (-1)))) :
    Calls Tryz.prog 4 #[.agg #[.bool b1, .string m1, .bool d1, .string k1], .agg #[.bool b2, .string m2, .bool d2, .string k2], .agg #[.bool b3, .string m3, .bool d3, .string k3]] w (RetB w (.bool true)) := by
  have C1 := Lib.hid HK
  have C2 := Lib.hid HF1
  have C3 := Lib.hid HF2
  have C4 := Lib.hid HF3
  have C5 := Lib.hid HM
  have C6 := Lib.hid HS
  clear HK HF1 HF2 HF3 HM HS 
  go_enter Tryz.func4, Tryz.ntmps4
  exact wk0

set_option maxHeartbeats 8000000 in
set_option maxRecDepth 100000 in
theorem makes_ok (w : World) {b1 d1 : Bool} {m1 k1 : ByteArray} {b2 d2 : Bool} {m2 k2 : ByteArray} {b3 d3 : Bool} {m3 k3 : ByteArray} {b6 c6 s6 : Bool} {m6 k6 n6 l6 : ByteArray} {v : Int} (hv : 0 ≤ v) (HK : ∀ V, Below w.heap.size w V → Calls Tryz.prog 15 #[] V (RetB V (.bool true))) (HF1 : ∀ V, Below w.heap.size w V → Calls Tryz.prog 26 #[.agg #[.bool b1, .string m1, .bool d1, .string k1]] V (RetB V (.bool true))) (HF2 : ∀ V, Below w.heap.size w V → Calls Tryz.prog 26 #[.agg #[.bool b2, .string m2, .bool d2, .string k2]] V (RetB V (.bool true))) (HF3 : ∀ V, Below w.heap.size w V → Calls Tryz.prog 26 #[.agg #[.bool b3, .string m3, .bool d3, .string k3]] V (RetB V (.bool true))) (HM : ∀ V, Below w.heap.size w V → Calls Tryz.prog 27 #[.agg #[.bool b1, .string m1, .bool d1, .string k1], .agg #[.bool b2, .string m2, .bool d2, .string k2], .agg #[.bool b3, .string m3, .bool d3, .string k3]] V (RetB V (.tuple #[.agg #[.bool b6, .string m6, .bool false, .string k6, .bool c6, .string n6, .bool false, .string l6, .bool s6], .int .i64 0]))) (HS : ∀ V, Below w.heap.size w V → Calls Tryz.prog 28 #[.agg #[.bool b3, .string m3, .bool d3, .string k3]] V (RetB V (.int .i64 v))) (HR : ∀ V, Below w.heap.size w V → Calls Tryz.prog 29 #[.agg #[.bool b1, .string m1, .bool d1, .string k1], .agg #[.bool b2, .string m2, .bool d2, .string k2], .agg #[.bool b3, .string m3, .bool d3, .string k3]] V (RetB V (.agg #[.bool b6, .string m6, .bool false, .string k6, .bool c6, .string n6, .bool false, .string l6, .bool s6]))) (HC : ∀ V, Below w.heap.size w V → Calls Tryz.prog 18 #[.agg #[.bool b6, .string m6, .bool false, .string k6, .bool c6, .string n6, .bool false, .string l6, .bool s6]] V (RetB V (.int .i64 0))) :
    Calls Tryz.prog 4 #[.agg #[.bool b1, .string m1, .bool d1, .string k1], .agg #[.bool b2, .string m2, .bool d2, .string k2], .agg #[.bool b3, .string m3, .bool d3, .string k3]] w (RetB w (.bool true)) := by
  have C1 := Lib.hid HK
  have C2 := Lib.hid HF1
  have C3 := Lib.hid HF2
  have C4 := Lib.hid HF3
  have C5 := Lib.hid HM
  have C6 := Lib.hid HS
  have C7 := Lib.hid HR
  have C8 := Lib.hid HC
  clear HK HF1 HF2 HF3 HM HS HR HC 
  go_enter Tryz.func4, Tryz.ntmps4
  exact wk0

theorem makes_all (b1 : Bool) (m1 : ByteArray) (d1 : Bool) (k1 : ByteArray) (tm1 : m1.size ≤ 140737488351232) (tk1 : k1.size ≤ 140737488351232) (b2 : Bool) (m2 : ByteArray) (d2 : Bool) (k2 : ByteArray) (tm2 : m2.size ≤ 140737488351232) (tk2 : k2.size ≤ 140737488351232) (b3 : Bool) (m3 : ByteArray) (d3 : Bool) (k3 : ByteArray) (tm3 : m3.size ≤ 140737488351232) (tk3 : k3.size ≤ 140737488351232) (w : World) (hE : Env w) : Calls Tryz.prog 4 #[.agg #[.bool b1, .string m1, .bool d1, .string k1], .agg #[.bool b2, .string m2, .bool d2, .string k2], .agg #[.bool b3, .string m3, .bool d3, .string k3]] w (RetB w (.bool true)) := by
  obtain ⟨o1, H1, P1⟩ := frac_any b1 m1 d1 k1 tm1 tk1
  obtain ⟨o2, H2, P2⟩ := frac_any b2 m2 d2 k2 tm2 tk2
  obtain ⟨o3, H3, P3⟩ := frac_any b3 m3 d3 k3 tm3 tk3
  have HK := fun V (hb : Below w.heap.size w V) => rknown3 V (hE.next hb)
  cases o1
  · exact makes_no1 w HK (fun V _ => H1 V)
  cases o2
  · exact makes_no2 w HK (fun V _ => H1 V) (fun V _ => H2 V)
  cases o3
  · exact makes_no3 w HK (fun V _ => H1 V) (fun V _ => H2 V) (fun V _ => H3 V)
  obtain ⟨rfl, p, hp, zp⟩ := P1 rfl
  obtain ⟨rfl, q, hq, zq⟩ := P2 rfl
  obtain ⟨rfl, r, hr, zr⟩ := P3 rfl
  have HS := fun V (_ : Below w.heap.size w V) => rsign_z hr V
  by_cases h0 : r < 0
  · rw [Sg.sgq_neg h0] at HS
    exact makes_err w HK (fun V _ => H1 V) (fun V _ => H2 V) (fun V _ => H3 V) (fun V _ => rmk_err hr h0 V) HS
  · obtain ⟨b6, m6, k6, c6, n6, l6, s6, h6⟩ := Rv.some_ (Sg.mkR p q r)
    have hv : 0 ≤ Sg.sgq r := by rcases Sg.sgq_three r with ⟨e, _⟩ | ⟨_, e⟩ | ⟨_, e⟩ <;> first | exact absurd e h0 | (rw [e]; decide)
    have zm := mkR_size zp zq zr
    exact makes_ok w hv HK (fun V _ => H1 V) (fun V _ => H2 V) (fun V _ => H3 V) (fun V hb => rmk_f hp hq hr h0 (zp.up (by omega)) (zq.up (by omega)) (zr.up (by omega)) h6 V (hE.next hb)) HS (fun V _ => fmk_f hp hq hr (zp.up (by omega)) (zq.up (by omega)) (zr.up (by omega)) h6 V)
      (fun V hb => rchk_ok h6 (mkR_ok (by grind)) ⟨zm.p.up (by omega), zm.r.up (by omega)⟩ V (hE.next hb))
end Go.Proofs.YtpnokfgplnmjpaaGreatDoor
