import Derived.Test.YtpnokfgplnmjpaaGreatDoorGRHE
import Derived.Test.YtpnokfgplnmjpaaGreatDoorGRLN
set_option linter.unusedSimpArgs false
set_option linter.unusedVariables false

namespace Go.Proofs.YtpnokfgplnmjpaaGreatDoor
open Go.RowKit
attribute [local go_sem ↓] Go.wp_at_zero Go.wp_at_succ

theorem wrap_small {x : Int} (h1 : -9223372036854775808 ≤ x) (h2 : x ≤ 9223372036854775807) : IntKind.i64.wrap x = x := by
  rw [IntKind.wrap_i64]
  omega

set_option maxHeartbeats 8000000 in
set_option maxRecDepth 100000 in
theorem bytes_w (b1 d1 : Bool) (m1 k1 : ByteArray) (hm : m1.size ≤ 140737488351232) (hk : k1.size ≤ 140737488351232) (w : World) :
    Calls Tryz.prog 16 #[.agg #[.bool b1, .string m1, .bool d1, .string k1]] w (RetB w (.int .i64 ((m1.size : Int) + (k1.size : Int)))) := by
  have hw : IntKind.i64.wrap ((m1.size : Int) + (k1.size : Int)) = (m1.size : Int) + (k1.size : Int) := wrap_small (by omega) (by omega)
  go_enter Tryz.func16, Tryz.ntmps16
  exact wk0

set_option maxHeartbeats 8000000 in
set_option maxRecDepth 100000 in
theorem fchk_bad1 (w : World) {b1 d1 c1 e1 s1 : Bool} {m1 k1 n1 l1 : ByteArray} (HC1 : ∀ V, Below w.heap.size w V → Calls Tryz.prog 57 #[.agg #[.bool b1, .string m1, .bool d1, .string k1]] V (RetB V (.bool false))) :
    Calls Tryz.prog 17 #[.agg #[.bool b1, .string m1, .bool d1, .string k1, .bool c1, .string n1, .bool e1, .string l1, .bool s1]] w (RetB w (.bool false)) := by
  have C1 := Lib.hid HC1
  clear HC1 
  go_enter Tryz.func17, Tryz.ntmps17
  exact wk0

set_option maxHeartbeats 8000000 in
set_option maxRecDepth 100000 in
theorem fchk_bad2 (w : World) {b1 d1 c1 e1 s1 : Bool} {m1 k1 n1 l1 : ByteArray} (HC1 : ∀ V, Below w.heap.size w V → Calls Tryz.prog 57 #[.agg #[.bool b1, .string m1, .bool d1, .string k1]] V (RetB V (.bool true))) (HC2 : ∀ V, Below w.heap.size w V → Calls Tryz.prog 57 #[.agg #[.bool c1, .string n1, .bool e1, .string l1]] V (RetB V (.bool false))) :
    Calls Tryz.prog 17 #[.agg #[.bool b1, .string m1, .bool d1, .string k1, .bool c1, .string n1, .bool e1, .string l1, .bool s1]] w (RetB w (.bool false)) := by
  have C1 := Lib.hid HC1
  have C2 := Lib.hid HC2
  clear HC1 HC2 
  go_enter Tryz.func17, Tryz.ntmps17
  exact wk0

set_option maxHeartbeats 8000000 in
set_option maxRecDepth 100000 in
theorem fchk_zero (w : World) {b1 d1 s1 : Bool} {m1 k1 : ByteArray} (HC1 : ∀ V, Below w.heap.size w V → Calls Tryz.prog 57 #[.agg #[.bool b1, .string m1, .bool d1, .string k1]] V (RetB V (.bool true))) (HC2 : ∀ V, Below w.heap.size w V → Calls Tryz.prog 57 #[.agg #[.bool false, .string ⟨#[]⟩, .bool false, .string ⟨#[]⟩]] V (RetB V (.bool true))) (HS : ∀ V, Below w.heap.size w V → Calls Tryz.prog 28 #[.agg #[.bool false, .string ⟨#[]⟩, .bool false, .string ⟨#[]⟩]] V (RetB V (.int .i64 (0)))) (HZ : ∀ V, Below w.heap.size w V → Calls Tryz.prog 24 #[] V (RetB V (.agg #[.bool false, .string ⟨#[]⟩, .bool false, .string ⟨#[]⟩]))) :
    Calls Tryz.prog 17 #[.agg #[.bool b1, .string m1, .bool d1, .string k1, .bool false, .string ⟨#[]⟩, .bool false, .string ⟨#[]⟩, .bool s1]] w (RetB w (.bool (!s1))) := by
  have C1 := Lib.hid HC1
  have C2 := Lib.hid HC2
  have C3 := Lib.hid HS
  have C4 := Lib.hid HZ
  clear HC1 HC2 HS HZ 
  go_enter Tryz.func17, Tryz.ntmps17
  exact wk0

set_option maxHeartbeats 8000000 in
set_option maxRecDepth 100000 in
theorem fchk_neg (w : World) {b1 d1 s1 : Bool} {m1 k1 n1 l1 : ByteArray} (HC1 : ∀ V, Below w.heap.size w V → Calls Tryz.prog 57 #[.agg #[.bool b1, .string m1, .bool d1, .string k1]] V (RetB V (.bool true))) (HC2 : ∀ V, Below w.heap.size w V → Calls Tryz.prog 57 #[.agg #[.bool true, .string n1, .bool false, .string l1]] V (RetB V (.bool true))) (HS : ∀ V, Below w.heap.size w V → Calls Tryz.prog 28 #[.agg #[.bool true, .string n1, .bool false, .string l1]] V (RetB V (.int .i64 (-1)))) (HZ : ∀ V, Below w.heap.size w V → Calls Tryz.prog 24 #[] V (RetB V (.agg #[.bool false, .string ⟨#[]⟩, .bool false, .string ⟨#[]⟩]))) :
    Calls Tryz.prog 17 #[.agg #[.bool b1, .string m1, .bool d1, .string k1, .bool true, .string n1, .bool false, .string l1, .bool s1]] w (RetB w (.bool false)) := by
  have C1 := Lib.hid HC1
  have C2 := Lib.hid HC2
  have C3 := Lib.hid HS
  have C4 := Lib.hid HZ
  clear HC1 HC2 HS HZ 
  go_enter Tryz.func17, Tryz.ntmps17
  exact wk0

set_option maxHeartbeats 8000000 in
set_option maxRecDepth 100000 in
theorem fchk_pos (w : World) {b1 d1 c1 e1 s1 : Bool} {m1 k1 n1 l1 : ByteArray} {o : Bool} {b2 c2 : Bool} {m2 k2 : ByteArray} (HC1 : ∀ V, Below w.heap.size w V → Calls Tryz.prog 57 #[.agg #[.bool b1, .string m1, .bool d1, .string k1]] V (RetB V (.bool true))) (HC2 : ∀ V, Below w.heap.size w V → Calls Tryz.prog 57 #[.agg #[.bool c1, .string n1, .bool e1, .string l1]] V (RetB V (.bool true))) (HS : ∀ V, Below w.heap.size w V → Calls Tryz.prog 28 #[.agg #[.bool c1, .string n1, .bool e1, .string l1]] V (RetB V (.int .i64 1))) (HR : ∀ V, Below w.heap.size w V → Calls Tryz.prog 68 #[.agg #[.bool c1, .string n1, .bool e1, .string l1]] V (RetB V (.tuple #[.agg #[.bool b2, .string m2, .bool c2, .string k2], .bool o]))) :
    Calls Tryz.prog 17 #[.agg #[.bool b1, .string m1, .bool d1, .string k1, .bool c1, .string n1, .bool e1, .string l1, .bool s1]] w (RetB w (.bool (!o))) := by
  have C1 := Lib.hid HC1
  have C2 := Lib.hid HC2
  have C3 := Lib.hid HS
  have C4 := Lib.hid HR
  clear HC1 HC2 HS HR 
  go_enter Tryz.func17, Tryz.ntmps17
  exact wk0

set_option maxHeartbeats 8000000 in
set_option maxRecDepth 100000 in
theorem small_no1 (w : World) {b1 d1 c1 e1 s1 : Bool} {m1 k1 n1 l1 : ByteArray} (h : ¬ (m1.size : Int) + (k1.size : Int) ≤ 8) (HB1 : ∀ V, Below w.heap.size w V → Calls Tryz.prog 16 #[.agg #[.bool b1, .string m1, .bool d1, .string k1]] V (RetB V (.int .i64 ((m1.size : Int) + (k1.size : Int))))) :
    Calls Tryz.prog 22 #[.agg #[.bool b1, .string m1, .bool d1, .string k1, .bool c1, .string n1, .bool e1, .string l1, .bool s1]] w (RetB w (.bool false)) := by
  have C1 := Lib.hid HB1
  clear HB1 
  go_enter Tryz.func22, Tryz.ntmps22
  exact wk0

set_option maxHeartbeats 8000000 in
set_option maxRecDepth 100000 in
theorem small_no2 (w : World) {b1 d1 c1 e1 s1 : Bool} {m1 k1 n1 l1 : ByteArray} (h : (m1.size : Int) + (k1.size : Int) ≤ 8) (h' : ¬ (n1.size : Int) + (l1.size : Int) ≤ 8) (HB1 : ∀ V, Below w.heap.size w V → Calls Tryz.prog 16 #[.agg #[.bool b1, .string m1, .bool d1, .string k1]] V (RetB V (.int .i64 ((m1.size : Int) + (k1.size : Int))))) (HB2 : ∀ V, Below w.heap.size w V → Calls Tryz.prog 16 #[.agg #[.bool c1, .string n1, .bool e1, .string l1]] V (RetB V (.int .i64 ((n1.size : Int) + (l1.size : Int))))) :
    Calls Tryz.prog 22 #[.agg #[.bool b1, .string m1, .bool d1, .string k1, .bool c1, .string n1, .bool e1, .string l1, .bool s1]] w (RetB w (.bool false)) := by
  have C1 := Lib.hid HB1
  have C2 := Lib.hid HB2
  clear HB1 HB2 
  go_enter Tryz.func22, Tryz.ntmps22
  exact wk0

set_option maxHeartbeats 8000000 in
set_option maxRecDepth 100000 in
theorem small_chk (w : World) {b1 d1 c1 e1 s1 : Bool} {m1 k1 n1 l1 : ByteArray} {o : Bool} (h : (m1.size : Int) + (k1.size : Int) ≤ 8) (h' : (n1.size : Int) + (l1.size : Int) ≤ 8) (HB1 : ∀ V, Below w.heap.size w V → Calls Tryz.prog 16 #[.agg #[.bool b1, .string m1, .bool d1, .string k1]] V (RetB V (.int .i64 ((m1.size : Int) + (k1.size : Int))))) (HB2 : ∀ V, Below w.heap.size w V → Calls Tryz.prog 16 #[.agg #[.bool c1, .string n1, .bool e1, .string l1]] V (RetB V (.int .i64 ((n1.size : Int) + (l1.size : Int))))) (HC : ∀ V, Below w.heap.size w V → Calls Tryz.prog 17 #[.agg #[.bool b1, .string m1, .bool d1, .string k1, .bool c1, .string n1, .bool e1, .string l1, .bool s1]] V (RetB V (.bool o))) :
    Calls Tryz.prog 22 #[.agg #[.bool b1, .string m1, .bool d1, .string k1, .bool c1, .string n1, .bool e1, .string l1, .bool s1]] w (RetB w (.bool o)) := by
  have C1 := Lib.hid HB1
  have C2 := Lib.hid HB2
  have C3 := Lib.hid HC
  clear HB1 HB2 HC 
  go_enter Tryz.func22, Tryz.ntmps22
  exact wk0

theorem sz8 {q : Rat} {b : Bool} {m k : ByteArray} (h : Rq q b m k) (hm : m.size ≤ 8) (hk : k.size ≤ 8) : Sz 8 q := by
  have h1 := bval_lt m
  rw [h.bval] at h1
  refine ⟨Nat.lt_of_lt_of_le h1 (Nat.pow_le_pow_right (by decide) hm), ?_⟩
  by_cases hd : q.den = 1
  · rw [hd]; decide
  · have h2 := bval_lt k
    rw [h.den2 hd, bval_mag] at h2
    rw [h.den2 hd] at hk
    exact Nat.lt_of_lt_of_le h2 (Nat.pow_le_pow_right (by decide) hk)
theorem small_or (b1 d1 c1 e1 s1 : Bool) (m1 k1 n1 l1 : ByteArray) (t1 : m1.size ≤ 140737488351232) (t2 : k1.size ≤ 140737488351232) (t3 : n1.size ≤ 140737488351232) (t4 : l1.size ≤ 140737488351232) :
    ∃ o, (∀ V, Calls Tryz.prog 22 #[.agg #[.bool b1, .string m1, .bool d1, .string k1, .bool c1, .string n1, .bool e1, .string l1, .bool s1]] V (RetB V (.bool o))) ∧ (o = true → d1 = false ∧ e1 = false ∧ ∃ x : Sg.Rl, x.Ok ∧ Rv x b1 m1 k1 c1 n1 l1 s1 ∧ Rz 8 x) := by
  have HB1 := fun (w V : World) (_ : Below w.heap.size w V) => bytes_w b1 d1 m1 k1 t1 t2 V
  have HB2 := fun (w V : World) (_ : Below w.heap.size w V) => bytes_w c1 e1 n1 l1 t3 t4 V
  by_cases h : (m1.size : Int) + (k1.size : Int) ≤ 8
  · by_cases h' : (n1.size : Int) + (l1.size : Int) ≤ 8
    · by_cases hp : d1 = false ∧ ∃ q, Rq q b1 m1 k1
      · by_cases hr : e1 = false ∧ ∃ q, Rq q c1 n1 l1
        · obtain ⟨rfl, p, hp⟩ := hp
          obtain ⟨rfl, r, hr⟩ := hr
          have C1 := fun (w V : World) (_ : Below w.heap.size w V) => rCheck_yes hp (by omega) (by omega) V
          have C2 := fun (w V : World) (_ : Below w.heap.size w V) => rCheck_yes hr (by omega) (by omega) V
          have C3 := fun (w V : World) (_ : Below w.heap.size w V) => rsign_z hr V
          have zp := sz8 hp (by omega) (by omega)
          have zr := sz8 hr (by omega) (by omega)
          rcases Sg.sgq_three r with ⟨g, e⟩ | ⟨g, e⟩ | ⟨g, e⟩
          · obtain rfl : c1 = true := by rw [hr.mag.1]; exact decide_eq_true (num_neg_iff.2 g)
            rw [e] at C3
            exact ⟨false, fun V => small_chk V h h' (HB1 V) (HB2 V) (fun V _ => fchk_neg V (C1 V) (C2 V) (C3 V) (fun V _ => zero_any V)), fun h => by cases h⟩
          · obtain ⟨rfl, rfl, rfl⟩ := hr.nought.1 g
            rw [e] at C3
            refine ⟨!s1, fun V => small_chk V h h' (HB1 V) (HB2 V) (fun V _ => fchk_zero V (C1 V) (C2 V) (C3 V) (fun V _ => zero_any V)), fun hs => ⟨rfl, rfl, ⟨p, 0, 1⟩, ⟨.inl rfl, .inl ⟨rfl, rfl⟩⟩, ⟨hp, Rq.zero, ?_⟩, ⟨zp, Sz.zero 7⟩⟩⟩
            simpa using hs
          · rw [e] at C3
            by_cases hs : Sg.Sq r
            · obtain ⟨b2, m2, k2, h2⟩ := Rq.some_ (Sg.rt r)
              exact ⟨false, fun V => small_chk V h h' (HB1 V) (HB2 V) (fun V _ => fchk_pos V (C1 V) (C2 V) (C3 V) (fun V _ => (root_yes_z hr (zr.up (by omega)) hs h2).2 V)), fun h => by cases h⟩
            · refine ⟨true, fun V => small_chk V h h' (HB1 V) (HB2 V) (fun V _ => fchk_pos V (C1 V) (C2 V) (C3 V) (fun V _ => (root_no_z hr (zr.up (by omega)) hs).2 V)), fun _ => ⟨rfl, rfl, ⟨p, r, if s1 then -1 else 1⟩, ⟨?_, .inr ⟨g, Sg.nsq_sq.2 hs⟩⟩, ⟨hp, hr, ?_⟩, ⟨zp, zr⟩⟩⟩
              · cases s1 <;> simp
              · cases s1 <;> simp
        · obtain ⟨rfl, p, hp⟩ := hp
          exact ⟨false, fun V => small_chk V h h' (HB1 V) (HB2 V) (fun V _ => fchk_bad2 V (fun V _ => rCheck_yes hp (by omega) (by omega) V) (fun V _ => rCheck_no c1 n1 e1 l1 (by omega) (by omega) hr V)), fun h => by cases h⟩
      · exact ⟨false, fun V => small_chk V h h' (HB1 V) (HB2 V) (fun V _ => fchk_bad1 V (fun V _ => rCheck_no b1 m1 d1 k1 (by omega) (by omega) hp V)), fun h => by cases h⟩
    · exact ⟨false, fun V => small_no2 V h h' (HB1 V) (HB2 V), fun h => by cases h⟩
  · exact ⟨false, fun V => small_no1 V h (HB1 V), fun h => by cases h⟩
end Go.Proofs.YtpnokfgplnmjpaaGreatDoor


namespace Go.Proofs.YtpnokfgplnmjpaaGreatDoor
open Go.RowKit
attribute [local go_sem ↓] Go.wp_at_zero Go.wp_at_succ

theorem tl {a b : ByteArray} (h : a.toList = b.toList) : a = b := by
  rw [ByteArray.toList_eq, ByteArray.toList_eq] at h
  exact ByteArray.ext (Array.toList_inj.1 h)
theorem ord_facts {x y z : Sg.Rl} (hx : x.Ok) (hy : y.Ok) (hz : z.Ok) : (Sg.cmpX x y ≤ 0 → Sg.cmpX y z ≤ 0 → Sg.cmpX x z = min (Sg.cmpX x y) (Sg.cmpX y z)) ∧ (0 ≤ Sg.cmpX x y → 0 ≤ Sg.cmpX y z → Sg.cmpX x z = max (Sg.cmpX x y) (Sg.cmpX y z)) := by
  have a3 := Sg.cmp_three hx hy
  have b3 := Sg.cmp_three hy hz
  have az := Sg.cmp_zero hx hy
  have bz := Sg.cmp_zero hy hz
  have t1 := Sg.cmp_trans hx hy hz
  have t2 := Sg.cmp_trans hz hy hx
  have r1 := Sg.cmp_anti hx hy
  have r2 := Sg.cmp_anti hy hz
  have r3 := Sg.cmp_anti hx hz
  have xx : Sg.cmpX y y = 0 := (Sg.cmp_zero hy hy).2 rfl
  rcases a3 with e | e | e <;> rcases b3 with f | f | f
  all_goals first
    | (have h := az.1 e; subst h; rw [e, f]; omega)
    | (have h := bz.1 f; subst h; rw [e, f]; omega)
    | (have h := t1 e f; rw [e, f, h]; omega)
    | (have h := t2 (by omega) (by omega); rw [e, f]; omega)
    | (rw [e, f]; omega)

set_option maxHeartbeats 8000000 in
set_option maxRecDepth 100000 in
theorem orders_no1 (w : World) {b1 d1 c1 e1 s1 : Bool} {m1 k1 n1 l1 : ByteArray} {b2 d2 c2 e2 s2 : Bool} {m2 k2 n2 l2 : ByteArray} {b3 d3 c3 e3 s3 : Bool} {m3 k3 n3 l3 : ByteArray} (HK : ∀ V, Below w.heap.size w V → Calls Tryz.prog 15 #[] V (RetB V (.bool true))) (HS1 : ∀ V, Below w.heap.size w V → Calls Tryz.prog 22 #[.agg #[.bool b1, .string m1, .bool d1, .string k1, .bool c1, .string n1, .bool e1, .string l1, .bool s1]] V (RetB V (.bool false))) :
    Calls Tryz.prog 8 #[.agg #[.bool b1, .string m1, .bool d1, .string k1, .bool c1, .string n1, .bool e1, .string l1, .bool s1], .agg #[.bool b2, .string m2, .bool d2, .string k2, .bool c2, .string n2, .bool e2, .string l2, .bool s2], .agg #[.bool b3, .string m3, .bool d3, .string k3, .bool c3, .string n3, .bool e3, .string l3, .bool s3]] w (RetB w (.bool true)) := by
  have C1 := Lib.hid HK
  have C2 := Lib.hid HS1
  clear HK HS1 
  go_enter Tryz.func8, Tryz.ntmps8
  exact wk0

set_option maxHeartbeats 8000000 in
set_option maxRecDepth 100000 in
theorem orders_no2 (w : World) {b1 d1 c1 e1 s1 : Bool} {m1 k1 n1 l1 : ByteArray} {b2 d2 c2 e2 s2 : Bool} {m2 k2 n2 l2 : ByteArray} {b3 d3 c3 e3 s3 : Bool} {m3 k3 n3 l3 : ByteArray} (HK : ∀ V, Below w.heap.size w V → Calls Tryz.prog 15 #[] V (RetB V (.bool true))) (HS1 : ∀ V, Below w.heap.size w V → Calls Tryz.prog 22 #[.agg #[.bool b1, .string m1, .bool d1, .string k1, .bool c1, .string n1, .bool e1, .string l1, .bool s1]] V (RetB V (.bool true))) (HS2 : ∀ V, Below w.heap.size w V → Calls Tryz.prog 22 #[.agg #[.bool b2, .string m2, .bool d2, .string k2, .bool c2, .string n2, .bool e2, .string l2, .bool s2]] V (RetB V (.bool false))) :
    Calls Tryz.prog 8 #[.agg #[.bool b1, .string m1, .bool d1, .string k1, .bool c1, .string n1, .bool e1, .string l1, .bool s1], .agg #[.bool b2, .string m2, .bool d2, .string k2, .bool c2, .string n2, .bool e2, .string l2, .bool s2], .agg #[.bool b3, .string m3, .bool d3, .string k3, .bool c3, .string n3, .bool e3, .string l3, .bool s3]] w (RetB w (.bool true)) := by
  have C1 := Lib.hid HK
  have C2 := Lib.hid HS1
  have C3 := Lib.hid HS2
  clear HK HS1 HS2 
  go_enter Tryz.func8, Tryz.ntmps8
  exact wk0

set_option maxHeartbeats 8000000 in
set_option maxRecDepth 100000 in
theorem orders_no3 (w : World) {b1 d1 c1 e1 s1 : Bool} {m1 k1 n1 l1 : ByteArray} {b2 d2 c2 e2 s2 : Bool} {m2 k2 n2 l2 : ByteArray} {b3 d3 c3 e3 s3 : Bool} {m3 k3 n3 l3 : ByteArray} (HK : ∀ V, Below w.heap.size w V → Calls Tryz.prog 15 #[] V (RetB V (.bool true))) (HS1 : ∀ V, Below w.heap.size w V → Calls Tryz.prog 22 #[.agg #[.bool b1, .string m1, .bool d1, .string k1, .bool c1, .string n1, .bool e1, .string l1, .bool s1]] V (RetB V (.bool true))) (HS2 : ∀ V, Below w.heap.size w V → Calls Tryz.prog 22 #[.agg #[.bool b2, .string m2, .bool d2, .string k2, .bool c2, .string n2, .bool e2, .string l2, .bool s2]] V (RetB V (.bool true))) (HS3 : ∀ V, Below w.heap.size w V → Calls Tryz.prog 22 #[.agg #[.bool b3, .string m3, .bool d3, .string k3, .bool c3, .string n3, .bool e3, .string l3, .bool s3]] V (RetB V (.bool false))) :
    Calls Tryz.prog 8 #[.agg #[.bool b1, .string m1, .bool d1, .string k1, .bool c1, .string n1, .bool e1, .string l1, .bool s1], .agg #[.bool b2, .string m2, .bool d2, .string k2, .bool c2, .string n2, .bool e2, .string l2, .bool s2], .agg #[.bool b3, .string m3, .bool d3, .string k3, .bool c3, .string n3, .bool e3, .string l3, .bool s3]] w (RetB w (.bool true)) := by
  have C1 := Lib.hid HK
  have C2 := Lib.hid HS1
  have C3 := Lib.hid HS2
  have C4 := Lib.hid HS3
  clear HK HS1 HS2 HS3 
  go_enter Tryz.func8, Tryz.ntmps8
  exact wk0

set_option maxHeartbeats 8000000 in
set_option maxRecDepth 100000 in
theorem orders_ne (w : World) {b1 c1 s1 : Bool} {m1 k1 n1 l1 : ByteArray} {b2 c2 s2 : Bool} {m2 k2 n2 l2 : ByteArray} {b3 c3 s3 : Bool} {m3 k3 n3 l3 : ByteArray} {a b c : Int} (hne : ¬ (b1 = b2 ∧ m1 = m2 ∧ k1 = k2 ∧ c1 = c2 ∧ n1 = n2 ∧ l1 = l2 ∧ s1 = s2)) (ha : a = -1 ∨ a = 1) (hb : b = -1 ∨ b = 0 ∨ b = 1) (hc : c = -1 ∨ c = 0 ∨ c = 1) (h1 : a ≤ 0 → b ≤ 0 → c = min a b) (h2 : 0 ≤ a → 0 ≤ b → c = max a b) (HK : ∀ V, Below w.heap.size w V → Calls Tryz.prog 15 #[] V (RetB V (.bool true))) (HS1 : ∀ V, Below w.heap.size w V → Calls Tryz.prog 22 #[.agg #[.bool b1, .string m1, .bool false, .string k1, .bool c1, .string n1, .bool false, .string l1, .bool s1]] V (RetB V (.bool true))) (HS2 : ∀ V, Below w.heap.size w V → Calls Tryz.prog 22 #[.agg #[.bool b2, .string m2, .bool false, .string k2, .bool c2, .string n2, .bool false, .string l2, .bool s2]] V (RetB V (.bool true))) (HS3 : ∀ V, Below w.heap.size w V → Calls Tryz.prog 22 #[.agg #[.bool b3, .string m3, .bool false, .string k3, .bool c3, .string n3, .bool false, .string l3, .bool s3]] V (RetB V (.bool true))) (HXY : ∀ V, Below w.heap.size w V → Calls Tryz.prog 34 #[.agg #[.bool b1, .string m1, .bool false, .string k1, .bool c1, .string n1, .bool false, .string l1, .bool s1], .agg #[.bool b2, .string m2, .bool false, .string k2, .bool c2, .string n2, .bool false, .string l2, .bool s2]] V (RetB V (.int .i64 (a)))) (HYZ : ∀ V, Below w.heap.size w V → Calls Tryz.prog 34 #[.agg #[.bool b2, .string m2, .bool false, .string k2, .bool c2, .string n2, .bool false, .string l2, .bool s2], .agg #[.bool b3, .string m3, .bool false, .string k3, .bool c3, .string n3, .bool false, .string l3, .bool s3]] V (RetB V (.int .i64 (b)))) (HXZ : ∀ V, Below w.heap.size w V → Calls Tryz.prog 34 #[.agg #[.bool b1, .string m1, .bool false, .string k1, .bool c1, .string n1, .bool false, .string l1, .bool s1], .agg #[.bool b3, .string m3, .bool false, .string k3, .bool c3, .string n3, .bool false, .string l3, .bool s3]] V (RetB V (.int .i64 (c)))) (HYX : ∀ V, Below w.heap.size w V → Calls Tryz.prog 34 #[.agg #[.bool b2, .string m2, .bool false, .string k2, .bool c2, .string n2, .bool false, .string l2, .bool s2], .agg #[.bool b1, .string m1, .bool false, .string k1, .bool c1, .string n1, .bool false, .string l1, .bool s1]] V (RetB V (.int .i64 (-a)))) :
    Calls Tryz.prog 8 #[.agg #[.bool b1, .string m1, .bool false, .string k1, .bool c1, .string n1, .bool false, .string l1, .bool s1], .agg #[.bool b2, .string m2, .bool false, .string k2, .bool c2, .string n2, .bool false, .string l2, .bool s2], .agg #[.bool b3, .string m3, .bool false, .string k3, .bool c3, .string n3, .bool false, .string l3, .bool s3]] w (RetB w (.bool true)) := by
  have HNE := Lib.hid hne
  clear hne
  have C1 := Lib.hid HK
  have C2 := Lib.hid HS1
  have C3 := Lib.hid HS2
  have C4 := Lib.hid HS3
  have C5 := Lib.hid HXY
  have C6 := Lib.hid HYZ
  have C7 := Lib.hid HXZ
  have C8 := Lib.hid HYX
  rcases ha with rfl | rfl <;> rcases hb with rfl | rfl | rfl
  all_goals
    have E1 : Hid (∀ {p : Prop} (h : p := by (exfalso; exact HNE.out ⟨by assumption, tl (by assumption), tl (by assumption), by assumption, tl (by assumption), tl (by assumption), by assumption⟩)), p) := @fun _ h => h
    clear HK HS1 HS2 HS3 HXY HYZ HXZ HYX 
    go_enter Tryz.func8, Tryz.ntmps8
    exact wk0

set_option maxHeartbeats 8000000 in
set_option maxRecDepth 100000 in
theorem orders_eq (w : World) {b1 c1 s1 : Bool} {m1 k1 n1 l1 : ByteArray} {b3 c3 s3 : Bool} {m3 k3 n3 l3 : ByteArray} {b : Int} (hb : b = -1 ∨ b = 0 ∨ b = 1) (HK : ∀ V, Below w.heap.size w V → Calls Tryz.prog 15 #[] V (RetB V (.bool true))) (HS1 : ∀ V, Below w.heap.size w V → Calls Tryz.prog 22 #[.agg #[.bool b1, .string m1, .bool false, .string k1, .bool c1, .string n1, .bool false, .string l1, .bool s1]] V (RetB V (.bool true))) (HS3 : ∀ V, Below w.heap.size w V → Calls Tryz.prog 22 #[.agg #[.bool b3, .string m3, .bool false, .string k3, .bool c3, .string n3, .bool false, .string l3, .bool s3]] V (RetB V (.bool true))) (HXY : ∀ V, Below w.heap.size w V → Calls Tryz.prog 34 #[.agg #[.bool b1, .string m1, .bool false, .string k1, .bool c1, .string n1, .bool false, .string l1, .bool s1], .agg #[.bool b1, .string m1, .bool false, .string k1, .bool c1, .string n1, .bool false, .string l1, .bool s1]] V (RetB V (.int .i64 (0)))) (HYZ : ∀ V, Below w.heap.size w V → Calls Tryz.prog 34 #[.agg #[.bool b1, .string m1, .bool false, .string k1, .bool c1, .string n1, .bool false, .string l1, .bool s1], .agg #[.bool b3, .string m3, .bool false, .string k3, .bool c3, .string n3, .bool false, .string l3, .bool s3]] V (RetB V (.int .i64 (b)))) :
    Calls Tryz.prog 8 #[.agg #[.bool b1, .string m1, .bool false, .string k1, .bool c1, .string n1, .bool false, .string l1, .bool s1], .agg #[.bool b1, .string m1, .bool false, .string k1, .bool c1, .string n1, .bool false, .string l1, .bool s1], .agg #[.bool b3, .string m3, .bool false, .string k3, .bool c3, .string n3, .bool false, .string l3, .bool s3]] w (RetB w (.bool true)) := by
  have hmn : min (0 : Int) (-1) = -1 := by decide
  have hmx : max (0 : Int) (-1) = 0 := by decide
  have C1 := Lib.hid HK
  have C2 := Lib.hid HS1
  have C3 := Lib.hid HS3
  have C4 := Lib.hid HXY
  have C5 := Lib.hid HYZ
  rcases hb with rfl | rfl | rfl
  all_goals
    clear HK HS1 HS3 HXY HYZ 
    go_enter Tryz.func8, Tryz.ntmps8
    exact wk0

theorem ok_false {x : Sg.Rl} {b1 c1 s1 : Bool} {m1 k1 n1 l1 : ByteArray} (hx : Rv x b1 m1 k1 c1 n1 l1 s1) (h : 0 < x.a) : c1 = false := by
  rw [hx.r.mag.1]
  have h1 : ¬ x.a.num < 0 := by rw [num_neg_iff]; grind
  exact decide_eq_false h1
theorem neg_by {x : Sg.Rl} (ok : x.Ok) : x.s = if decide (x.s < 0) then -1 else 1 := by
  rcases ok.sg with e | e <;> rw [e] <;> decide
theorem cmp_f {x y : Sg.Rl} {b1 c1 s1 b2 c2 s2 : Bool} {m1 k1 n1 l1 m2 k2 n2 l2 : ByteArray} (hx : Rv x b1 m1 k1 c1 n1 l1 s1) (hy : Rv y b2 m2 k2 c2 n2 l2 s2) (okx : x.Ok) (oky : y.Ok) (zx : Rz 500 x) (zy : Rz 500 y) (w : World) (hE : Env w) : Calls Tryz.prog 34 #[.agg #[.bool b1, .string m1, .bool false, .string k1, .bool c1, .string n1, .bool false, .string l1, .bool s1], .agg #[.bool b2, .string m2, .bool false, .string k2, .bool c2, .string n2, .bool false, .string l2, .bool s2]] w (RetB w (.int .i64 (Sg.cmpX x y))) := by
  have zx' : Rz 1500 x := ⟨zx.p.up (by omega), zx.r.up (by omega)⟩
  have zy' : Rz 1500 y := ⟨zy.p.up (by omega), zy.r.up (by omega)⟩
  by_cases hs : x.a = y.a ∧ x.s = y.s
  · rw [show Sg.cmpX x y = Sg.sgq (x.p - y.p) from by unfold Sg.cmpX; rw [if_pos hs]]
    obtain ⟨rfl, rfl, rfl⟩ := hy.r.inj (by rw [← hs.1]; exact hx.r)
    obtain rfl : s2 = s1 := by rw [hy.neg, hx.neg, hs.2]
    exact cmp_same hx.p hy.p zx'.p zy'.p w hE
  · by_cases hy0 : y.a = 0
    · have ey : y = Sg.Rl.of y.p := by
        rcases Sg.ok_cases oky with ⟨_, e⟩ | ⟨e, _⟩
        · exact Sg.Rl.ext' rfl hy0 e
        · grind
      have hx0 : ¬ x.a = 0 := fun h => by
        refine hs ⟨by rw [h, hy0], ?_⟩
        rcases Sg.ok_cases okx with ⟨_, e⟩ | ⟨e, _⟩
        · rcases Sg.ok_cases oky with ⟨_, e'⟩ | ⟨e', _⟩
          · rw [e, e']
          · grind
        · grind
      obtain ⟨rfl, rfl, rfl⟩ := hy.r.nought.1 hy0
      obtain rfl := ok_false hx (ok_pos okx hx0)
      obtain rfl : s2 = false := by rw [hy.neg, ey]; rfl
      have h := cmp_yrat hx hy okx hx0 zx' zy' w hE
      rw [← ey] at h
      exact h
    · by_cases hx0 : x.a = 0
      · have ex : x = Sg.Rl.of x.p := by
          rcases Sg.ok_cases okx with ⟨_, e⟩ | ⟨e, _⟩
          · exact Sg.Rl.ext' rfl hx0 e
          · grind
        obtain ⟨rfl, rfl, rfl⟩ := hx.r.nought.1 hx0
        obtain rfl := ok_false hy (ok_pos oky hy0)
        obtain rfl : s1 = false := by rw [hx.neg, ex]; rfl
        have h := cmp_xrat hx hy oky hy0 zx' zy' w hE
        rw [← ex, Sg.cmp_anti okx oky, Int.neg_neg] at h
        exact h
      · obtain rfl := ok_false hx (ok_pos okx hx0)
        obtain rfl := ok_false hy (ok_pos oky hy0)
        have h := cmp_irr hx hy okx oky hx0 hy0 zx zy (by
          by_cases h1 : n1 = n2
          · subst h1
            by_cases h2 : l1 = l2
            · subst h2
              refine .inr (.inr ⟨rfl, rfl, ?_⟩)
              have ha : x.a = y.a := hx.r.eq_of hy.r
              rw [hx.neg, hy.neg]
              have hn : ¬ x.s = y.s := fun e => hs ⟨ha, e⟩
              rcases okx.sg with e | e <;> rcases oky.sg with e' | e' <;> rw [e, e'] at hn ⊢ <;> first | (exact absurd rfl hn) | decide
            · exact .inr (.inl ⟨rfl, h2⟩)
          · exact .inl h1) w hE
        rw [show Sg.cmpX x y = Sg.cmpP (x.p - y.p) x.s x.a y.s y.a from by unfold Sg.cmpX; rw [if_neg hs, if_neg hy0, if_neg hx0]]
        exact h

theorem orders_all (b1 : Bool) (m1 : ByteArray) (d1 : Bool) (k1 : ByteArray) (c1 : Bool) (n1 : ByteArray) (e1 : Bool) (l1 : ByteArray) (s1 : Bool) (tm1 : m1.size ≤ 140737488351232) (tk1 : k1.size ≤ 140737488351232) (tn1 : n1.size ≤ 140737488351232) (tl1 : l1.size ≤ 140737488351232) (b2 : Bool) (m2 : ByteArray) (d2 : Bool) (k2 : ByteArray) (c2 : Bool) (n2 : ByteArray) (e2 : Bool) (l2 : ByteArray) (s2 : Bool) (tm2 : m2.size ≤ 140737488351232) (tk2 : k2.size ≤ 140737488351232) (tn2 : n2.size ≤ 140737488351232) (tl2 : l2.size ≤ 140737488351232) (b3 : Bool) (m3 : ByteArray) (d3 : Bool) (k3 : ByteArray) (c3 : Bool) (n3 : ByteArray) (e3 : Bool) (l3 : ByteArray) (s3 : Bool) (tm3 : m3.size ≤ 140737488351232) (tk3 : k3.size ≤ 140737488351232) (tn3 : n3.size ≤ 140737488351232) (tl3 : l3.size ≤ 140737488351232) (w : World) (hE : Env w) : Calls Tryz.prog 8 #[.agg #[.bool b1, .string m1, .bool d1, .string k1, .bool c1, .string n1, .bool e1, .string l1, .bool s1], .agg #[.bool b2, .string m2, .bool d2, .string k2, .bool c2, .string n2, .bool e2, .string l2, .bool s2], .agg #[.bool b3, .string m3, .bool d3, .string k3, .bool c3, .string n3, .bool e3, .string l3, .bool s3]] w (RetB w (.bool true)) := by
  obtain ⟨o1, H1, P1⟩ := small_or b1 d1 c1 e1 s1 m1 k1 n1 l1 tm1 tk1 tn1 tl1
  obtain ⟨o2, H2, P2⟩ := small_or b2 d2 c2 e2 s2 m2 k2 n2 l2 tm2 tk2 tn2 tl2
  obtain ⟨o3, H3, P3⟩ := small_or b3 d3 c3 e3 s3 m3 k3 n3 l3 tm3 tk3 tn3 tl3
  have HK := fun V (hb : Below w.heap.size w V) => rknown3 V (hE.next hb)
  cases o1
  · exact orders_no1 w HK (fun V _ => H1 V)
  cases o2
  · exact orders_no2 w HK (fun V _ => H1 V) (fun V _ => H2 V)
  cases o3
  · exact orders_no3 w HK (fun V _ => H1 V) (fun V _ => H2 V) (fun V _ => H3 V)
  obtain ⟨rfl, rfl, x, okx, hx, zx⟩ := P1 rfl
  obtain ⟨rfl, rfl, y, oky, hy, zy⟩ := P2 rfl
  obtain ⟨rfl, rfl, z, okz, hz, zz⟩ := P3 rfl
  have up : ∀ {x : Sg.Rl}, Rz 8 x → Rz 500 x := fun h => ⟨h.p.up (by omega), h.r.up (by omega)⟩
  have HXY := fun V (hb : Below w.heap.size w V) => cmp_f hx hy okx oky (up zx) (up zy) V (hE.next hb)
  have HYZ := fun V (hb : Below w.heap.size w V) => cmp_f hy hz oky okz (up zy) (up zz) V (hE.next hb)
  have HXZ := fun V (hb : Below w.heap.size w V) => cmp_f hx hz okx okz (up zx) (up zz) V (hE.next hb)
  have HYX := fun V (hb : Below w.heap.size w V) => cmp_f hy hx oky okx (up zy) (up zx) V (hE.next hb)
  rw [Sg.cmp_anti okx oky] at HYX
  obtain ⟨f1, f2⟩ := ord_facts okx oky okz
  by_cases he : x = y
  · subst he
    obtain ⟨rfl, rfl, rfl⟩ := hx.p.inj hy.p
    obtain ⟨rfl, rfl, rfl⟩ := hx.r.inj hy.r
    obtain rfl : s1 = s2 := by rw [hx.neg, hy.neg]
    have e0 := (Sg.cmp_zero okx okx).2 rfl
    rw [e0] at HXY HYX
    exact orders_eq w (Sg.cmp_three okx okz) HK (fun V _ => H1 V) (fun V _ => H3 V) HXY HYZ
  · have hn : ¬ Sg.cmpX x y = 0 := fun h => he ((Sg.cmp_zero okx oky).1 h)
    have h3 := Sg.cmp_three okx oky
    refine orders_ne w (fun h => he ?_) (by omega) (Sg.cmp_three oky okz) (Sg.cmp_three okx okz) f1 f2 HK (fun V _ => H1 V) (fun V _ => H2 V) (fun V _ => H3 V) HXY HYZ HXZ HYX
    obtain ⟨rfl, rfl, rfl, rfl, rfl, rfl, rfl⟩ := h
    refine Sg.Rl.ext' (hx.p.eq_of hy.p) (hx.r.eq_of hy.r) ?_
    rw [neg_by okx, neg_by oky, ← hx.neg, ← hy.neg]
end Go.Proofs.YtpnokfgplnmjpaaGreatDoor
