import Derived.Test.YtpnokfgplnmjpaaGreatDoorGRHE
import Derived.Test.YtpnokfgplnmjpaaGreatDoorGRLN
import Derived.Test.YtpnokfgplnmjpaaGreatDoorGRLK
set_option linter.unusedSimpArgs false
set_option linter.unusedVariables false

namespace Go.Proofs.YtpnokfgplnmjpaaGreatDoor
open Go.RowKit
attribute [local go_sem ↓] Go.wp_at_zero Go.wp_at_succ

theorem wrap_small {x : Int} (h1 : -9223372036854775808 ≤ x) (h2 : x ≤ 9223372036854775807) : IntKind.i64.wrap x = x := by
  rw [IntKind.wrap_i64]
  omega

set_option maxHeartbeats 8000000 in
set_option maxRecDepth 100000 in
theorem bytes_w (b1 d1 : Bool) (m1 k1 : ByteArray) (hm : m1.size ≤ 140737488351232) (hk : k1.size ≤ 140737488351232) (w : World) :
    Calls Tryz.prog 16 #[.agg #[.bool b1, .string m1, .bool d1, .string k1]] w (RetB w (.int .i64 ((m1.size : Int) + (k1.size : Int)))) := by
  have hw : IntKind.i64.wrap ((m1.size : Int) + (k1.size : Int)) = (m1.size : Int) + (k1.size : Int) := wrap_small (by omega) (by omega)
  go_enter Tryz.func16, Tryz.ntmps16
  exact wk0

set_option maxHeartbeats 8000000 in
set_option maxRecDepth 100000 in
theorem fchk_bad1 (w : World) {b1 d1 c1 e1 s1 : Bool} {m1 k1 n1 l1 : ByteArray} (HC1 : ∀ V, Below w.heap.size w V → Calls Tryz.prog 57 #[.agg #[.bool b1, .string m1, .bool d1, .string k1]] V (RetB V (.bool false))) :
    Calls Tryz.prog 17 #[.agg #[.bool b1, .string m1, .bool d1, .string k1, .bool c1, .string n1, .bool e1, .string l1, .bool s1]] w (RetB w (.bool false)) := by
  have C1 := Lib.hid HC1
  clear HC1 
  go_enter Tryz.func17, Tryz.ntmps17
  exact wk0

set_option maxHeartbeats 8000000 in
set_option maxRecDepth 100000 in
theorem fchk_bad2 (w : World) {b1 d1 c1 e1 s1 : Bool} {m1 k1 n1 l1 : ByteArray} (HC1 : ∀ V, Below w.heap.size w V → Calls Tryz.prog 57 #[.agg #[.bool b1, .string m1, .bool d1, .string k1]] V (RetB V (.bool true))) (HC2 : ∀ V, Below w.heap.size w V → Calls Tryz.prog 57 #[.agg #[.bool c1, .string n1, .bool e1, .string l1]] V (RetB V (.bool false))) :
    Calls Tryz.prog 17 #[.agg #[.bool b1, .string m1, .bool d1, .string k1, .bool c1, .string n1, .bool e1, .string l1, .bool s1]] w (RetB w (.bool false)) := by
  have C1 := Lib.hid HC1
  have C2 := Lib.hid HC2
  clear HC1 HC2 
  go_enter Tryz.func17, Tryz.ntmps17
  exact wk0

set_option maxHeartbeats 8000000 in
set_option maxRecDepth 100000 in
theorem fchk_zero (w : World) {b1 d1 s1 : Bool} {m1 k1 : ByteArray} (HC1 : ∀ V, Below w.heap.size w V → Calls Tryz.prog 57 #[.agg #[.bool b1, .string m1, .bool d1, .string k1]] V (RetB V (.bool true))) (HC2 : ∀ V, Below w.heap.size w V → Calls Tryz.prog 57 #[.agg #[.bool false, .string ⟨#[]⟩, .bool false, .string ⟨#[]⟩]] V (RetB V (.bool true))) (HS : ∀ V, Below w.heap.size w V → Calls Tryz.prog 28 #[.agg #[.bool false, .string ⟨#[]⟩, .bool false, .string ⟨#[]⟩]] V (RetB V (.int .i64 (0)))) (HZ : ∀ V, Below w.heap.size w V → Calls Tryz.prog 24 #[] V (RetB V (.agg #[.bool false, .string ⟨#[]⟩, .bool false, .string ⟨#[]⟩]))) :
    Calls Tryz.prog 17 #[.agg #[.bool b1, .string m1, .bool d1, .string k1, .bool false, .string ⟨#[]⟩, .bool false, .string ⟨#[]⟩, .bool s1]] w (RetB w (.bool (!s1))) := by
  have C1 := Lib.hid HC1
  have C2 := Lib.hid HC2
  have C3 := Lib.hid HS
  have C4 := Lib.hid HZ
  clear HC1 HC2 HS HZ 
  go_enter Tryz.func17, Tryz.ntmps17
  exact wk0

set_option maxHeartbeats 8000000 in
set_option maxRecDepth 100000 in
theorem fchk_neg (w : World) {b1 d1 s1 : Bool} {m1 k1 n1 l1 : ByteArray} (HC1 : ∀ V, Below w.heap.size w V → Calls Tryz.prog 57 #[.agg #[.bool b1, .string m1, .bool d1, .string k1]] V (RetB V (.bool true))) (HC2 : ∀ V, Below w.heap.size w V → Calls Tryz.prog 57 #[.agg #[.bool true, .string n1, .bool false, .string l1]] V (RetB V (.bool true))) (HS : ∀ V, Below w.heap.size w V → Calls Tryz.prog 28 #[.agg #[.bool true, .string n1, .bool false, .string l1]] V (RetB V (.int .i64 (-1)))) (HZ : ∀ V, Below w.heap.size w V → Calls Tryz.prog 24 #[] V (RetB V (.agg #[.bool false, .string ⟨#[]⟩, .bool false, .string ⟨#[]⟩]))) :
    Calls Tryz.prog 17 #[.agg #[.bool b1, .string m1, .bool d1, .string k1, .bool true, .string n1, .bool false, .string l1, .bool s1]] w (RetB w (.bool false)) := by
  have C1 := Lib.hid HC1
  have C2 := Lib.hid HC2
  have C3 := Lib.hid HS
  have C4 := Lib.hid HZ
  clear HC1 HC2 HS HZ 
  go_enter Tryz.func17, Tryz.ntmps17
  exact wk0

set_option maxHeartbeats 8000000 in
set_option maxRecDepth 100000 in
theorem fchk_pos (w : World) {b1 d1 c1 e1 s1 : Bool} {m1 k1 n1 l1 : ByteArray} {o : Bool} {b2 c2 : Bool} {m2 k2 : ByteArray} (HC1 : ∀ V, Below w.heap.size w V → Calls Tryz.prog 57 #[.agg #[.bool b1, .string m1, .bool d1, .string k1]] V (RetB V (.bool true))) (HC2 : ∀ V, Below w.heap.size w V → Calls Tryz.prog 57 #[.agg #[.bool c1, .string n1, .bool e1, .string l1]] V (RetB V (.bool true))) (HS : ∀ V, Below w.heap.size w V → Calls Tryz.prog 28 #[.agg #[.bool c1, .string n1, .bool e1, .string l1]] V (RetB V (.int .i64 1))) (HR : ∀ V, Below w.heap.size w V → Calls Tryz.prog 68 #[.agg #[.bool c1, .string n1, .bool e1, .string l1]] V (RetB V (.tuple #[.agg #[.bool b2, .string m2, .bool c2, .string k2], .bool o]))) :
    Calls Tryz.prog 17 #[.agg #[.bool b1, .string m1, .bool d1, .string k1, .bool c1, .string n1, .bool e1, .string l1, .bool s1]] w (RetB w (.bool (!o))) := by
  have C1 := Lib.hid HC1
  have C2 := Lib.hid HC2
  have C3 := Lib.hid HS
  have C4 := Lib.hid HR
  clear HC1 HC2 HS HR 
  go_enter Tryz.func17, Tryz.ntmps17
  exact wk0

set_option maxHeartbeats 8000000 in
set_option maxRecDepth 100000 in
theorem small_no1 (w : World) {b1 d1 c1 e1 s1 : Bool} {m1 k1 n1 l1 : ByteArray} (h : ¬ (m1.size : Int) + (k1.size : Int) ≤ 8) (HB1 : ∀ V, Below w.heap.size w V → Calls Tryz.prog 16 #[.agg #[.bool b1, .string m1, .bool d1, .string k1]] V (RetB V (.int .i64 ((m1.size : Int) + (k1.size : Int))))) :
    Calls Tryz.prog 22 #[.agg #[.bool b1, .string m1, .bool d1, .string k1, .bool c1, .string n1, .bool e1, .string l1, .bool s1]] w (RetB w (.bool false)) := by
  have C1 := Lib.hid HB1
  clear HB1 
  go_enter Tryz.func22, Tryz.ntmps22
  exact wk0

set_option maxHeartbeats 8000000 in
set_option maxRecDepth 100000 in
theorem small_no2 (w : World) {b1 d1 c1 e1 s1 : Bool} {m1 k1 n1 l1 : ByteArray} (h : (m1.size : Int) + (k1.size : Int) ≤ 8) (h' : ¬ (n1.size : Int) + (l1.size : Int) ≤ 8) (HB1 : ∀ V, Below w.heap.size w V → Calls Tryz.prog 16 #[.agg #[.bool b1, .string m1, .bool d1, .string k1]] V (RetB V (.int .i64 ((m1.size : Int) + (k1.size : Int))))) (HB2 : ∀ V, Below w.heap.size w V → Calls Tryz.prog 16 #[.agg #[.bool c1, .string n1, .bool e1, .string l1]] V (RetB V (.int .i64 ((n1.size : Int) + (l1.size : Int))))) :
    Calls Tryz.prog 22 #[.agg #[.bool b1, .string m1, .bool d1, .string k1, .bool c1, .string n1, .bool e1, .string l1, .bool s1]] w (RetB w (.bool false)) := by
  have C1 := Lib.hid HB1
  have C2 := Lib.hid HB2
  clear HB1 HB2 
  go_enter Tryz.func22, Tryz.ntmps22
  exact wk0

set_option maxHeartbeats 8000000 in
set_option maxRecDepth 100000 in
theorem small_chk (w : World) {b1 d1 c1 e1 s1 : Bool} {m1 k1 n1 l1 : ByteArray} {o : Bool} (h : (m1.size : Int) + (k1.size : Int) ≤ 8) (h' : (n1.size : Int) + (l1.size : Int) ≤ 8) (HB1 : ∀ V, Below w.heap.size w V → Calls Tryz.prog 16 #[.agg #[.bool b1, .string m1, .bool d1, .string k1]] V (RetB V (.int .i64 ((m1.size : Int) + (k1.size : Int))))) (HB2 : ∀ V, Below w.heap.size w V → Calls Tryz.prog 16 #[.agg #[.bool c1, .string n1, .bool e1, .string l1]] V (RetB V (.int .i64 ((n1.size : Int) + (l1.size : Int))))) (HC : ∀ V, Below w.heap.size w V → Calls Tryz.prog 17 #[.agg #[.bool b1, .string m1, .bool d1, .string k1, .bool c1, .string n1, .bool e1, .string l1, .bool s1]] V (RetB V (.bool o))) :
    Calls Tryz.prog 22 #[.agg #[.bool b1, .string m1, .bool d1, .string k1, .bool c1, .string n1, .bool e1, .string l1, .bool s1]] w (RetB w (.bool o)) := by
  have C1 := Lib.hid HB1
  have C2 := Lib.hid HB2
  have C3 := Lib.hid HC
  clear HB1 HB2 HC 
  go_enter Tryz.func22, Tryz.ntmps22
  exact wk0

theorem sz8 {q : Rat} {b : Bool} {m k : ByteArray} (h : Rq q b m k) (hm : m.size ≤ 8) (hk : k.size ≤ 8) : Sz 8 q := by
  have h1 := bval_lt m
  rw [h.bval] at h1
  refine ⟨Nat.lt_of_lt_of_le h1 (Nat.pow_le_pow_right (by decide) hm), ?_⟩
  by_cases hd : q.den = 1
  · rw [hd]; decide
  · have h2 := bval_lt k
    rw [h.den2 hd, bval_mag] at h2
    rw [h.den2 hd] at hk
    exact Nat.lt_of_lt_of_le h2 (Nat.pow_le_pow_right (by decide) hk)
theorem small_or (b1 d1 c1 e1 s1 : Bool) (m1 k1 n1 l1 : ByteArray) (t1 : m1.size ≤ 140737488351232) (t2 : k1.size ≤ 140737488351232) (t3 : n1.size ≤ 140737488351232) (t4 : l1.size ≤ 140737488351232) :
    ∃ o, (∀ V, Calls Tryz.prog 22 #[.agg #[.bool b1, .string m1, .bool d1, .string k1, .bool c1, .string n1, .bool e1, .string l1, .bool s1]] V (RetB V (.bool o))) ∧ (o = true → d1 = false ∧ e1 = false ∧ ∃ x : Sg.Rl, x.Ok ∧ Rv x b1 m1 k1 c1 n1 l1 s1 ∧ Rz 8 x) := by
  have HB1 := fun (w V : World) (_ : Below w.heap.size w V) => bytes_w b1 d1 m1 k1 t1 t2 V
  have HB2 := fun (w V : World) (_ : Below w.heap.size w V) => bytes_w c1 e1 n1 l1 t3 t4 V
  by_cases h : (m1.size : Int) + (k1.size : Int) ≤ 8
  · by_cases h' : (n1.size : Int) + (l1.size : Int) ≤ 8
    · by_cases hp : d1 = false ∧ ∃ q, Rq q b1 m1 k1
      · by_cases hr : e1 = false ∧ ∃ q, Rq q c1 n1 l1
        · obtain ⟨rfl, p, hp⟩ := hp
          obtain ⟨rfl, r, hr⟩ := hr
          have C1 := fun (w V : World) (_ : Below w.heap.size w V) => rCheck_yes hp (by omega) (by omega) V
          have C2 := fun (w V : World) (_ : Below w.heap.size w V) => rCheck_yes hr (by omega) (by omega) V
          have C3 := fun (w V : World) (_ : Below w.heap.size w V) => rsign_z hr V
          have zp := sz8 hp (by omega) (by omega)
          have zr := sz8 hr (by omega) (by omega)
          rcases Sg.sgq_three r with ⟨g, e⟩ | ⟨g, e⟩ | ⟨g, e⟩
          · obtain rfl : c1 = true := by rw [hr.mag.1]; exact decide_eq_true (num_neg_iff.2 g)
            rw [e] at C3
            exact ⟨false, fun V => small_chk V h h' (HB1 V) (HB2 V) (fun V _ => fchk_neg V (C1 V) (C2 V) (C3 V) (fun V _ => zero_any V)), fun h => by cases h⟩
          · obtain ⟨rfl, rfl, rfl⟩ := hr.nought.1 g
            rw [e] at C3
            refine ⟨!s1, fun V => small_chk V h h' (HB1 V) (HB2 V) (fun V _ => fchk_zero V (C1 V) (C2 V) (C3 V) (fun V _ => zero_any V)), fun hs => ⟨rfl, rfl, ⟨p, 0, 1⟩, ⟨.inl rfl, .inl ⟨rfl, rfl⟩⟩, ⟨hp, Rq.zero, ?_⟩, ⟨zp, Sz.zero 7⟩⟩⟩
            simpa using hs
          · rw [e] at C3
            by_cases hs : Sg.Sq r
            · obtain ⟨b2, m2, k2, h2⟩ := Rq.some_ (Sg.rt r)
              exact ⟨false, fun V => small_chk V h h' (HB1 V) (HB2 V) (fun V _ => fchk_pos V (C1 V) (C2 V) (C3 V) (fun V _ => (root_yes_z hr (zr.up (by omega)) hs h2).2 V)), fun h => by cases h⟩
            · refine ⟨true, fun V => small_chk V h h' (HB1 V) (HB2 V) (fun V _ => fchk_pos V (C1 V) (C2 V) (C3 V) (fun V _ => (root_no_z hr (zr.up (by omega)) hs).2 V)), fun _ => ⟨rfl, rfl, ⟨p, r, if s1 then -1 else 1⟩, ⟨?_, .inr ⟨g, Sg.nsq_sq.2 hs⟩⟩, ⟨hp, hr, ?_⟩, ⟨zp, zr⟩⟩⟩
              · cases s1 <;> simp
              · cases s1 <;> simp
        · obtain ⟨rfl, p, hp⟩ := hp
          exact ⟨false, fun V => small_chk V h h' (HB1 V) (HB2 V) (fun V _ => fchk_bad2 V (fun V _ => rCheck_yes hp (by omega) (by omega) V) (fun V _ => rCheck_no c1 n1 e1 l1 (by omega) (by omega) hr V)), fun h => by cases h⟩
      · exact ⟨false, fun V => small_chk V h h' (HB1 V) (HB2 V) (fun V _ => fchk_bad1 V (fun V _ => rCheck_no b1 m1 d1 k1 (by omega) (by omega) hp V)), fun h => by cases h⟩
    · exact ⟨false, fun V => small_no2 V h h' (HB1 V) (HB2 V), fun h => by cases h⟩
  · exact ⟨false, fun V => small_no1 V h (HB1 V), fun h => by cases h⟩
end Go.Proofs.YtpnokfgplnmjpaaGreatDoor


namespace Go.Proofs.YtpnokfgplnmjpaaGreatDoor
open Go.RowKit
attribute [local go_sem ↓] Go.wp_at_zero Go.wp_at_succ

theorem ok_nn {x : Sg.Rl} (ok : x.Ok) : 0 ≤ x.a := by
  rcases Sg.ok_cases ok with ⟨h, _⟩ | ⟨h, _⟩ <;> grind
end Go.Proofs.YtpnokfgplnmjpaaGreatDoor


namespace Go.Proofs.YtpnokfgplnmjpaaGreatDoor
open Go.RowKit
attribute [local go_sem ↓] Go.wp_at_zero Go.wp_at_succ

set_option maxHeartbeats 8000000 in
set_option maxRecDepth 100000 in
theorem pchk_bad1 (w : World) {b1 d1 c1 e1 s1 : Bool} {m1 k1 n1 l1 : ByteArray} (HC1 : ∀ V, Below w.heap.size w V → Calls Tryz.prog 69 #[.agg #[.bool b1, .string m1, .bool d1, .string k1]] V (RetB V (.int .i64 (5)))) :
    Calls Tryz.prog 18 #[.agg #[.bool b1, .string m1, .bool d1, .string k1, .bool c1, .string n1, .bool e1, .string l1, .bool s1]] w (RetB w (.int .i64 (5))) := by
  have C1 := Lib.hid HC1
  clear HC1 
  go_enter Tryz.func18, Tryz.ntmps18
  exact wk0

set_option maxHeartbeats 8000000 in
set_option maxRecDepth 100000 in
theorem pchk_bad2 (w : World) {b1 d1 c1 e1 s1 : Bool} {m1 k1 n1 l1 : ByteArray} (HC1 : ∀ V, Below w.heap.size w V → Calls Tryz.prog 69 #[.agg #[.bool b1, .string m1, .bool d1, .string k1]] V (RetB V (.int .i64 (0)))) (HC2 : ∀ V, Below w.heap.size w V → Calls Tryz.prog 69 #[.agg #[.bool c1, .string n1, .bool e1, .string l1]] V (RetB V (.int .i64 (5)))) :
    Calls Tryz.prog 18 #[.agg #[.bool b1, .string m1, .bool d1, .string k1, .bool c1, .string n1, .bool e1, .string l1, .bool s1]] w (RetB w (.int .i64 (5))) := by
  have C1 := Lib.hid HC1
  have C2 := Lib.hid HC2
  clear HC1 HC2 
  go_enter Tryz.func18, Tryz.ntmps18
  exact wk0

set_option maxHeartbeats 8000000 in
set_option maxRecDepth 100000 in
theorem pchk_minus (w : World) {b1 d1 c1 e1 : Bool} {m1 k1 n1 l1 : ByteArray} (HC1 : ∀ V, Below w.heap.size w V → Calls Tryz.prog 69 #[.agg #[.bool b1, .string m1, .bool d1, .string k1]] V (RetB V (.int .i64 (0)))) (HC2 : ∀ V, Below w.heap.size w V → Calls Tryz.prog 69 #[.agg #[.bool c1, .string n1, .bool e1, .string l1]] V (RetB V (.int .i64 (0)))) (HI : ∀ V, Below w.heap.size w V → Calls Tryz.prog 70 #[.agg #[.bool b1, .string m1, .bool d1, .string k1, .bool c1, .string n1, .bool e1, .string l1, .bool true]] V (RetB V (.bool true))) :
    Calls Tryz.prog 18 #[.agg #[.bool b1, .string m1, .bool d1, .string k1, .bool c1, .string n1, .bool e1, .string l1, .bool true]] w (RetB w (.int .i64 (5))) := by
  have C1 := Lib.hid HC1
  have C2 := Lib.hid HC2
  have C3 := Lib.hid HI
  clear HC1 HC2 HI 
  go_enter Tryz.func18, Tryz.ntmps18
  exact wk0

set_option maxHeartbeats 8000000 in
set_option maxRecDepth 100000 in
theorem pchk_neg (w : World) {b1 d1 c1 e1 s1 : Bool} {m1 k1 n1 l1 : ByteArray} (HC1 : ∀ V, Below w.heap.size w V → Calls Tryz.prog 69 #[.agg #[.bool b1, .string m1, .bool d1, .string k1]] V (RetB V (.int .i64 (0)))) (HC2 : ∀ V, Below w.heap.size w V → Calls Tryz.prog 69 #[.agg #[.bool c1, .string n1, .bool e1, .string l1]] V (RetB V (.int .i64 (0)))) (HI : ∀ V, Below w.heap.size w V → Calls Tryz.prog 70 #[.agg #[.bool b1, .string m1, .bool d1, .string k1, .bool c1, .string n1, .bool e1, .string l1, .bool s1]] V (RetB V (.bool false))) (HS : ∀ V, Below w.heap.size w V → Calls Tryz.prog 71 #[.agg #[.bool c1, .string n1, .bool e1, .string l1]] V (RetB V (.int .i64 (-1)))) :
    Calls Tryz.prog 18 #[.agg #[.bool b1, .string m1, .bool d1, .string k1, .bool c1, .string n1, .bool e1, .string l1, .bool s1]] w (RetB w (.int .i64 (5))) := by
  have C1 := Lib.hid HC1
  have C2 := Lib.hid HC2
  have C3 := Lib.hid HI
  have C4 := Lib.hid HS
  clear HC1 HC2 HI HS 
  go_enter Tryz.func18, Tryz.ntmps18
  exact wk0

set_option maxHeartbeats 8000000 in
set_option maxRecDepth 100000 in
theorem pchk_sq (w : World) {b1 d1 c1 e1 s1 : Bool} {m1 k1 n1 l1 : ByteArray} {b2 : Bool} {m2 k2 : ByteArray} (HC1 : ∀ V, Below w.heap.size w V → Calls Tryz.prog 69 #[.agg #[.bool b1, .string m1, .bool d1, .string k1]] V (RetB V (.int .i64 (0)))) (HC2 : ∀ V, Below w.heap.size w V → Calls Tryz.prog 69 #[.agg #[.bool c1, .string n1, .bool e1, .string l1]] V (RetB V (.int .i64 (0)))) (HI : ∀ V, Below w.heap.size w V → Calls Tryz.prog 70 #[.agg #[.bool b1, .string m1, .bool d1, .string k1, .bool c1, .string n1, .bool e1, .string l1, .bool s1]] V (RetB V (.bool false))) (HS : ∀ V, Below w.heap.size w V → Calls Tryz.prog 71 #[.agg #[.bool c1, .string n1, .bool e1, .string l1]] V (RetB V (.int .i64 (1)))) (HR : ∀ V, Below w.heap.size w V → Calls Tryz.prog 72 #[.agg #[.bool c1, .string n1, .bool e1, .string l1]] V (RetB V (.tuple #[.agg #[.bool b2, .string m2, .bool false, .string k2], .bool true]))) :
    Calls Tryz.prog 18 #[.agg #[.bool b1, .string m1, .bool d1, .string k1, .bool c1, .string n1, .bool e1, .string l1, .bool s1]] w (RetB w (.int .i64 (5))) := by
  have C1 := Lib.hid HC1
  have C2 := Lib.hid HC2
  have C3 := Lib.hid HI
  have C4 := Lib.hid HS
  have C5 := Lib.hid HR
  clear HC1 HC2 HI HS HR 
  go_enter Tryz.func18, Tryz.ntmps18
  exact wk0

set_option maxHeartbeats 8000000 in
set_option maxRecDepth 100000 in
theorem fromInt_w (w : World) {n : Int} {b5 : Bool} {m5 : ByteArray} (HF : ∀ V, Below w.heap.size w V → Calls Tryz.prog 73 #[.int .i64 (n)] V (RetB V (.agg #[.bool b5, .string m5, .bool false, .string ⟨#[]⟩]))) (HR : ∀ V, Below w.heap.size w V → Calls Tryz.prog 25 #[.agg #[.bool b5, .string m5, .bool false, .string ⟨#[]⟩]] V (RetB V (.agg #[.bool b5, .string m5, .bool false, .string ⟨#[]⟩, .bool false, .string ⟨#[]⟩, .bool false, .string ⟨#[]⟩, .bool false]))) :
    Calls Tryz.prog 19 #[.int .i64 (n)] w (RetB w (.agg #[.bool b5, .string m5, .bool false, .string ⟨#[]⟩, .bool false, .string ⟨#[]⟩, .bool false, .string ⟨#[]⟩, .bool false])) := by
  have C1 := Lib.hid HF
  have C2 := Lib.hid HR
  have RS := Lib.hid Tryz.results19
  clear HF HR 
  go_enter Tryz.func19, Tryz.ntmps19
  exact wk0

set_option maxHeartbeats 8000000 in
set_option maxRecDepth 100000 in
theorem rational_yes (w : World) {b1 c1 s1 : Bool} {m1 k1 n1 l1 : ByteArray} (HI : ∀ V, Below w.heap.size w V → Calls Tryz.prog 70 #[.agg #[.bool b1, .string m1, .bool false, .string k1, .bool c1, .string n1, .bool false, .string l1, .bool s1]] V (RetB V (.bool true))) :
    Calls Tryz.prog 23 #[.agg #[.bool b1, .string m1, .bool false, .string k1, .bool c1, .string n1, .bool false, .string l1, .bool s1]] w (RetB w (.tuple #[.agg #[.bool b1, .string m1, .bool false, .string k1], .bool true])) := by
  have C1 := Lib.hid HI
  have RS := Lib.hid Tryz.results23
  clear HI 
  go_enter Tryz.func23, Tryz.ntmps23
  exact wk0

set_option maxHeartbeats 8000000 in
set_option maxRecDepth 100000 in
theorem rational_no (w : World) {b1 c1 s1 : Bool} {m1 k1 n1 l1 : ByteArray} (HI : ∀ V, Below w.heap.size w V → Calls Tryz.prog 70 #[.agg #[.bool b1, .string m1, .bool false, .string k1, .bool c1, .string n1, .bool false, .string l1, .bool s1]] V (RetB V (.bool false))) :
    Calls Tryz.prog 23 #[.agg #[.bool b1, .string m1, .bool false, .string k1, .bool c1, .string n1, .bool false, .string l1, .bool s1]] w (RetB w (.tuple #[.agg #[.bool false, .string ⟨#[]⟩, .bool false, .string ⟨#[]⟩], .bool false])) := by
  have C1 := Lib.hid HI
  have RS := Lib.hid Tryz.results23
  clear HI 
  go_enter Tryz.func23, Tryz.ntmps23
  exact wk0

theorem sz20 {q : Rat} {b : Bool} {m k : ByteArray} (h : Rq q b m k) (hm : m.size ≤ 20) (hk : k.size ≤ 20) : Sz 20 q := by
  have h1 := bval_lt m
  rw [h.bval] at h1
  refine ⟨Nat.lt_of_lt_of_le h1 (Nat.pow_le_pow_right (by decide) hm), ?_⟩
  by_cases hd : q.den = 1
  · rw [hd]; decide
  · have h2 := bval_lt k
    rw [h.den2 hd, bval_mag] at h2
    rw [h.den2 hd] at hk
    exact Nat.lt_of_lt_of_le h2 (Nat.pow_le_pow_right (by decide) hk)
theorem bool_of {c : Bool} {q : Rat} {n l : ByteArray} (h : Rq q c n l) (h0 : 0 < q) : c = false := by
  rw [h.mag.1]
  exact decide_eq_false (by rw [num_neg_iff]; grind)
theorem chk_or (b1 d1 c1 e1 s1 : Bool) (m1 k1 n1 l1 : ByteArray) (t1 : m1.size ≤ 20) (t2 : k1.size ≤ 20) (t3 : n1.size ≤ 20) (t4 : l1.size ≤ 20) :
    ∃ o, (∀ w, Calls Tryz.prog 17 #[.agg #[.bool b1, .string m1, .bool d1, .string k1, .bool c1, .string n1, .bool e1, .string l1, .bool s1]] w (RetB w (.bool o))) ∧ (∀ w, Env w → Calls Tryz.prog 18 #[.agg #[.bool b1, .string m1, .bool d1, .string k1, .bool c1, .string n1, .bool e1, .string l1, .bool s1]] w (RetB w (.int .i64 (if o then 0 else 5)))) ∧ ∀ x : Sg.Rl, x.Ok → d1 = false → e1 = false → Rv x b1 m1 k1 c1 n1 l1 s1 → o = true := by
  have lift : ∀ {q : Rat} {b : Bool} {m k : ByteArray}, Rq q b m k → m.size ≤ 20 → k.size ≤ 20 → Sz 9000 q := fun h hm hk => by
    have z : Sz 20 _ := sz20 h hm hk
    exact z.up (by omega)
  by_cases hp : d1 = false ∧ ∃ q, Rq q b1 m1 k1
  · by_cases hr : e1 = false ∧ ∃ q, Rq q c1 n1 l1
    · obtain ⟨rfl, p, hp⟩ := hp
      obtain ⟨rfl, r, hr⟩ := hr
      have C1 := fun (w V : World) (_ : Below w.heap.size w V) => rCheck_yes hp (by omega) (by omega) V
      have C2 := fun (w V : World) (_ : Below w.heap.size w V) => rCheck_yes hr (by omega) (by omega) V
      have C3 := fun (w V : World) (_ : Below w.heap.size w V) => rsign_z hr V
      have D1 := fun (w : World) (hE : Env w) V (hb : Below w.heap.size w V) => ratCheck_f hp (by omega) (by omega) V (hE.next hb)
      have D2 := fun (w : World) (hE : Env w) V (hb : Below w.heap.size w V) => ratCheck_f hr (by omega) (by omega) V (hE.next hb)
      have D3 := fun (w V : World) (_ : Below w.heap.size w V) => sign_z hr V
      have zr := lift hr t3 t4
      have zp := lift hp t1 t2
      rcases Sg.sgq_three r with ⟨g, e⟩ | ⟨g, e⟩ | ⟨g, e⟩
      · obtain rfl : c1 = true := by rw [hr.mag.1]; exact decide_eq_true (num_neg_iff.2 g)
        rw [e] at C3 D3
        exact ⟨false, fun w => fchk_neg w (C1 w) (C2 w) (C3 w) (fun V _ => zero_any V), fun w hE => pchk_neg w (D1 w hE) (D2 w hE) (fun V _ => isRat_any _ _ _ _ _ _ _ (hr.ne (by grind)) V) (D3 w), fun x ok _ _ hx => by have h1 := hr.eq_of hx.r; have h2 := ok_nn ok; grind⟩
      · obtain ⟨rfl, rfl, rfl⟩ := hr.nought.1 g
        rw [e] at C3
        refine ⟨!s1, fun w => fchk_zero w (C1 w) (C2 w) (C3 w) (fun V _ => zero_any V), fun w hE => ?_, fun x ok _ _ hx => ?_⟩
        · cases s1
          · exact rchk_rat hp (zp.up (by omega)) w hE
          · exact pchk_minus w (D1 w hE) (D2 w hE) (fun V _ => isRat_yes _ _ _ _ V)
        · have h1 : x.a = 0 := hx.r.nought.2 ⟨rfl, rfl, rfl⟩
          rcases Sg.ok_cases ok with ⟨_, e'⟩ | ⟨e', _⟩
          · rw [hx.neg, e']; rfl
          · grind
      · rw [e] at C3 D3
        obtain rfl := bool_of hr g
        by_cases hs : Sg.Sq r
        · obtain ⟨b2, m2, k2, h2⟩ := Rq.some_ (Sg.rt r)
          exact ⟨false, fun w => fchk_pos w (C1 w) (C2 w) (C3 w) (fun V _ => (root_yes_z hr zr hs h2).2 V), fun w hE => pchk_sq w (D1 w hE) (D2 w hE) (fun V _ => isRat_any _ _ _ _ _ _ _ (hr.ne (by grind)) V) (D3 w) (fun V hb => (root_yes_z hr zr hs h2).1 V (hE.next hb)), fun x ok _ _ hx => by
            have h1 := hr.eq_of hx.r
            rcases Sg.ok_cases ok with ⟨h3, _⟩ | ⟨_, h3⟩
            · grind
            · rw [← h1] at h3; exact absurd hs h3⟩
        · refine ⟨true, fun w => fchk_pos w (C1 w) (C2 w) (C3 w) (fun V _ => (root_no_z hr zr hs).2 V), fun w hE => ?_, fun _ _ _ _ _ => rfl⟩
          exact rchk_irr (x := ⟨p, r, if s1 then -1 else 1⟩) ⟨hp, hr, by cases s1 <;> simp⟩ g hs ⟨zp, zr⟩ w hE
    · obtain ⟨rfl, p, hp⟩ := hp
      exact ⟨false, fun w => fchk_bad2 w (fun V _ => rCheck_yes hp (by omega) (by omega) V) (fun V _ => rCheck_no c1 n1 e1 l1 (by omega) (by omega) hr V), fun w hE => pchk_bad2 w (fun V hb => ratCheck_f hp (by omega) (by omega) V (hE.next hb)) (fun V hb => ratCheck_no c1 n1 e1 l1 (by omega) (by omega) hr V (hE.next hb)), fun x _ _ he hx => absurd ⟨he, _, hx.r⟩ hr⟩
  · exact ⟨false, fun w => fchk_bad1 w (fun V _ => rCheck_no b1 m1 d1 k1 (by omega) (by omega) hp V), fun w hE => pchk_bad1 w (fun V hb => ratCheck_no b1 m1 d1 k1 (by omega) (by omega) hp V (hE.next hb)), fun x _ hd _ hx => absurd ⟨hd, _, hx.p⟩ hp⟩
end Go.Proofs.YtpnokfgplnmjpaaGreatDoor


namespace Go.Proofs.YtpnokfgplnmjpaaGreatDoor
open Go.RowKit
attribute [local go_sem ↓] Go.wp_at_zero Go.wp_at_succ

end Go.Proofs.YtpnokfgplnmjpaaGreatDoor


namespace Go.Proofs.YtpnokfgplnmjpaaGreatDoor
open Go.RowKit
attribute [local go_sem ↓] Go.wp_at_zero Go.wp_at_succ

set_option maxHeartbeats 8000000 in
set_option maxRecDepth 100000 in
theorem checks3_big1 (w : World) {b1 d1 c1 e1 s1 : Bool} {m1 k1 n1 l1 : ByteArray} {n : Int} (h : 20 < (m1.size : Int) + (k1.size : Int)) (HK : ∀ V, Below w.heap.size w V → Calls Tryz.prog 15 #[] V (RetB V (.bool true))) (HB1 : ∀ V, Below w.heap.size w V → Calls Tryz.prog 16 #[.agg #[.bool b1, .string m1, .bool d1, .string k1]] V (RetB V (.int .i64 ((m1.size : Int) + (k1.size : Int))))) :
    Calls Tryz.prog 3 #[.agg #[.bool b1, .string m1, .bool d1, .string k1, .bool c1, .string n1, .bool e1, .string l1, .bool s1], .int .i64 (n)] w (RetB w (.bool true)) := by
  have C1 := Lib.hid HK
  have C2 := Lib.hid HB1
  have E1 : Hid (∀ {p : Prop} (h : p := by (exfalso; omega)), p) := @fun _ h => h
  clear HK HB1 
  go_enter Tryz.func3, Tryz.ntmps3
  exact wk0

set_option maxHeartbeats 8000000 in
set_option maxRecDepth 100000 in
theorem checks3_big2 (w : World) {b1 d1 c1 e1 s1 : Bool} {m1 k1 n1 l1 : ByteArray} {n : Int} (h : ¬ 20 < (m1.size : Int) + (k1.size : Int)) (h' : 20 < (n1.size : Int) + (l1.size : Int)) (HK : ∀ V, Below w.heap.size w V → Calls Tryz.prog 15 #[] V (RetB V (.bool true))) (HB1 : ∀ V, Below w.heap.size w V → Calls Tryz.prog 16 #[.agg #[.bool b1, .string m1, .bool d1, .string k1]] V (RetB V (.int .i64 ((m1.size : Int) + (k1.size : Int))))) (HB2 : ∀ V, Below w.heap.size w V → Calls Tryz.prog 16 #[.agg #[.bool c1, .string n1, .bool e1, .string l1]] V (RetB V (.int .i64 ((n1.size : Int) + (l1.size : Int))))) :
    Calls Tryz.prog 3 #[.agg #[.bool b1, .string m1, .bool d1, .string k1, .bool c1, .string n1, .bool e1, .string l1, .bool s1], .int .i64 (n)] w (RetB w (.bool true)) := by
  have C1 := Lib.hid HK
  have C2 := Lib.hid HB1
  have C3 := Lib.hid HB2
  have E1 : Hid (∀ {p : Prop} (h : p := by (exfalso; omega)), p) := @fun _ h => h
  clear HK HB1 HB2 
  go_enter Tryz.func3, Tryz.ntmps3
  exact wk0

set_option maxHeartbeats 8000000 in
set_option maxRecDepth 100000 in
theorem checks3_ns_true (w : World) {b1 d1 c1 e1 s1 : Bool} {m1 k1 n1 l1 : ByteArray} {n : Int} {b5 : Bool} {m5 : ByteArray} (h : ¬ 20 < (m1.size : Int) + (k1.size : Int)) (h' : ¬ 20 < (n1.size : Int) + (l1.size : Int)) (HK : ∀ V, Below w.heap.size w V → Calls Tryz.prog 15 #[] V (RetB V (.bool true))) (HB1 : ∀ V, Below w.heap.size w V → Calls Tryz.prog 16 #[.agg #[.bool b1, .string m1, .bool d1, .string k1]] V (RetB V (.int .i64 ((m1.size : Int) + (k1.size : Int))))) (HB2 : ∀ V, Below w.heap.size w V → Calls Tryz.prog 16 #[.agg #[.bool c1, .string n1, .bool e1, .string l1]] V (RetB V (.int .i64 ((n1.size : Int) + (l1.size : Int))))) (HR : ∀ V, Below w.heap.size w V → Calls Tryz.prog 17 #[.agg #[.bool b1, .string m1, .bool d1, .string k1, .bool c1, .string n1, .bool e1, .string l1, .bool s1]] V (RetB V (.bool true))) (HP : ∀ V, Below w.heap.size w V → Calls Tryz.prog 18 #[.agg #[.bool b1, .string m1, .bool d1, .string k1, .bool c1, .string n1, .bool e1, .string l1, .bool s1]] V (RetB V (.int .i64 (0)))) (HF : ∀ V, Below w.heap.size w V → Calls Tryz.prog 19 #[.int .i64 (n)] V (RetB V (.agg #[.bool b5, .string m5, .bool false, .string ⟨#[]⟩, .bool false, .string ⟨#[]⟩, .bool false, .string ⟨#[]⟩, .bool false]))) (HW : ∀ V, Below w.heap.size w V → Calls Tryz.prog 21 #[.int .i64 (n)] V (RetB V (.agg #[.bool b5, .string m5, .bool false, .string ⟨#[]⟩]))) (HO : ∀ V, Below w.heap.size w V → Calls Tryz.prog 20 #[.agg #[.bool b5, .string m5, .bool false, .string ⟨#[]⟩]] V (RetB V (.agg #[.bool b5, .string m5, .bool false, .string ⟨#[]⟩, .bool false, .string ⟨#[]⟩, .bool false, .string ⟨#[]⟩, .bool false]))) (HS : ∀ V, Below w.heap.size w V → Calls Tryz.prog 22 #[.agg #[.bool b1, .string m1, .bool d1, .string k1, .bool c1, .string n1, .bool e1, .string l1, .bool s1]] V (RetB V (.bool false))) :
    Calls Tryz.prog 3 #[.agg #[.bool b1, .string m1, .bool d1, .string k1, .bool c1, .string n1, .bool e1, .string l1, .bool s1], .int .i64 (n)] w (RetB w (.bool true)) := by
  have C1 := Lib.hid HK
  have C2 := Lib.hid HB1
  have C3 := Lib.hid HB2
  have C4 := Lib.hid HR
  have C5 := Lib.hid HP
  have C6 := Lib.hid HF
  have C7 := Lib.hid HW
  have C8 := Lib.hid HO
  have C9 := Lib.hid HS
  have E1 : Hid (∀ {p : Prop} (h : p := by (exfalso; omega)), p) := @fun _ h => h
  clear HK HB1 HB2 HR HP HF HW HO HS 
  go_enter Tryz.func3, Tryz.ntmps3
  exact wk0

set_option maxHeartbeats 8000000 in
set_option maxRecDepth 100000 in
theorem checks3_ns_false (w : World) {b1 d1 c1 e1 s1 : Bool} {m1 k1 n1 l1 : ByteArray} {n : Int} {b5 : Bool} {m5 : ByteArray} (h : ¬ 20 < (m1.size : Int) + (k1.size : Int)) (h' : ¬ 20 < (n1.size : Int) + (l1.size : Int)) (HK : ∀ V, Below w.heap.size w V → Calls Tryz.prog 15 #[] V (RetB V (.bool true))) (HB1 : ∀ V, Below w.heap.size w V → Calls Tryz.prog 16 #[.agg #[.bool b1, .string m1, .bool d1, .string k1]] V (RetB V (.int .i64 ((m1.size : Int) + (k1.size : Int))))) (HB2 : ∀ V, Below w.heap.size w V → Calls Tryz.prog 16 #[.agg #[.bool c1, .string n1, .bool e1, .string l1]] V (RetB V (.int .i64 ((n1.size : Int) + (l1.size : Int))))) (HR : ∀ V, Below w.heap.size w V → Calls Tryz.prog 17 #[.agg #[.bool b1, .string m1, .bool d1, .string k1, .bool c1, .string n1, .bool e1, .string l1, .bool s1]] V (RetB V (.bool false))) (HP : ∀ V, Below w.heap.size w V → Calls Tryz.prog 18 #[.agg #[.bool b1, .string m1, .bool d1, .string k1, .bool c1, .string n1, .bool e1, .string l1, .bool s1]] V (RetB V (.int .i64 (5)))) (HF : ∀ V, Below w.heap.size w V → Calls Tryz.prog 19 #[.int .i64 (n)] V (RetB V (.agg #[.bool b5, .string m5, .bool false, .string ⟨#[]⟩, .bool false, .string ⟨#[]⟩, .bool false, .string ⟨#[]⟩, .bool false]))) (HW : ∀ V, Below w.heap.size w V → Calls Tryz.prog 21 #[.int .i64 (n)] V (RetB V (.agg #[.bool b5, .string m5, .bool false, .string ⟨#[]⟩]))) (HO : ∀ V, Below w.heap.size w V → Calls Tryz.prog 20 #[.agg #[.bool b5, .string m5, .bool false, .string ⟨#[]⟩]] V (RetB V (.agg #[.bool b5, .string m5, .bool false, .string ⟨#[]⟩, .bool false, .string ⟨#[]⟩, .bool false, .string ⟨#[]⟩, .bool false]))) (HS : ∀ V, Below w.heap.size w V → Calls Tryz.prog 22 #[.agg #[.bool b1, .string m1, .bool d1, .string k1, .bool c1, .string n1, .bool e1, .string l1, .bool s1]] V (RetB V (.bool false))) :
    Calls Tryz.prog 3 #[.agg #[.bool b1, .string m1, .bool d1, .string k1, .bool c1, .string n1, .bool e1, .string l1, .bool s1], .int .i64 (n)] w (RetB w (.bool true)) := by
  have C1 := Lib.hid HK
  have C2 := Lib.hid HB1
  have C3 := Lib.hid HB2
  have C4 := Lib.hid HR
  have C5 := Lib.hid HP
  have C6 := Lib.hid HF
  have C7 := Lib.hid HW
  have C8 := Lib.hid HO
  have C9 := Lib.hid HS
  have E1 : Hid (∀ {p : Prop} (h : p := by (exfalso; omega)), p) := @fun _ h => h
  clear HK HB1 HB2 HR HP HF HW HO HS 
  go_enter Tryz.func3, Tryz.ntmps3
  exact wk0

set_option maxHeartbeats 8000000 in
set_option maxRecDepth 100000 in
theorem checks3_rat (w : World) {b1 : Bool} {m1 k1 : ByteArray} {n : Int} {b5 : Bool} {m5 : ByteArray} (h : ¬ 20 < (m1.size : Int) + (k1.size : Int)) (HK : ∀ V, Below w.heap.size w V → Calls Tryz.prog 15 #[] V (RetB V (.bool true))) (HB1 : ∀ V, Below w.heap.size w V → Calls Tryz.prog 16 #[.agg #[.bool b1, .string m1, .bool false, .string k1]] V (RetB V (.int .i64 ((m1.size : Int) + (k1.size : Int))))) (HB2 : ∀ V, Below w.heap.size w V → Calls Tryz.prog 16 #[.agg #[.bool false, .string ⟨#[]⟩, .bool false, .string ⟨#[]⟩]] V (RetB V (.int .i64 (0)))) (HR : ∀ V, Below w.heap.size w V → Calls Tryz.prog 17 #[.agg #[.bool b1, .string m1, .bool false, .string k1, .bool false, .string ⟨#[]⟩, .bool false, .string ⟨#[]⟩, .bool false]] V (RetB V (.bool true))) (HP : ∀ V, Below w.heap.size w V → Calls Tryz.prog 18 #[.agg #[.bool b1, .string m1, .bool false, .string k1, .bool false, .string ⟨#[]⟩, .bool false, .string ⟨#[]⟩, .bool false]] V (RetB V (.int .i64 (0)))) (HF : ∀ V, Below w.heap.size w V → Calls Tryz.prog 19 #[.int .i64 (n)] V (RetB V (.agg #[.bool b5, .string m5, .bool false, .string ⟨#[]⟩, .bool false, .string ⟨#[]⟩, .bool false, .string ⟨#[]⟩, .bool false]))) (HW : ∀ V, Below w.heap.size w V → Calls Tryz.prog 21 #[.int .i64 (n)] V (RetB V (.agg #[.bool b5, .string m5, .bool false, .string ⟨#[]⟩]))) (HO : ∀ V, Below w.heap.size w V → Calls Tryz.prog 20 #[.agg #[.bool b5, .string m5, .bool false, .string ⟨#[]⟩]] V (RetB V (.agg #[.bool b5, .string m5, .bool false, .string ⟨#[]⟩, .bool false, .string ⟨#[]⟩, .bool false, .string ⟨#[]⟩, .bool false]))) (HS : ∀ V, Below w.heap.size w V → Calls Tryz.prog 22 #[.agg #[.bool b1, .string m1, .bool false, .string k1, .bool false, .string ⟨#[]⟩, .bool false, .string ⟨#[]⟩, .bool false]] V (RetB V (.bool true))) (HQ : ∀ V, Below w.heap.size w V → Calls Tryz.prog 23 #[.agg #[.bool b1, .string m1, .bool false, .string k1, .bool false, .string ⟨#[]⟩, .bool false, .string ⟨#[]⟩, .bool false]] V (RetB V (.tuple #[.agg #[.bool b1, .string m1, .bool false, .string k1], .bool true]))) (HZ : ∀ V, Below w.heap.size w V → Calls Tryz.prog 24 #[] V (RetB V (.agg #[.bool false, .string ⟨#[]⟩, .bool false, .string ⟨#[]⟩]))) (HV : ∀ V, Below w.heap.size w V → Calls Tryz.prog 25 #[.agg #[.bool b1, .string m1, .bool false, .string k1]] V (RetB V (.agg #[.bool b1, .string m1, .bool false, .string k1, .bool false, .string ⟨#[]⟩, .bool false, .string ⟨#[]⟩, .bool false]))) :
    Calls Tryz.prog 3 #[.agg #[.bool b1, .string m1, .bool false, .string k1, .bool false, .string ⟨#[]⟩, .bool false, .string ⟨#[]⟩, .bool false], .int .i64 (n)] w (RetB w (.bool true)) := by
  have C1 := Lib.hid HK
  have C2 := Lib.hid HB1
  have C3 := Lib.hid HB2
  have C4 := Lib.hid HR
  have C5 := Lib.hid HP
  have C6 := Lib.hid HF
  have C7 := Lib.hid HW
  have C8 := Lib.hid HO
  have C9 := Lib.hid HS
  have C10 := Lib.hid HQ
  have C11 := Lib.hid HZ
  have C12 := Lib.hid HV
  have E1 : Hid (∀ {p : Prop} (h : p := by (exfalso; omega)), p) := @fun _ h => h
  clear HK HB1 HB2 HR HP HF HW HO HS HQ HZ HV 
  go_enter Tryz.func3, Tryz.ntmps3
  exact wk0

set_option maxHeartbeats 8000000 in
set_option maxRecDepth 100000 in
theorem checks3_irr (w : World) {b1 c1 s1 : Bool} {m1 k1 n1 l1 : ByteArray} {n : Int} {b5 : Bool} {m5 : ByteArray} (h : ¬ 20 < (m1.size : Int) + (k1.size : Int)) (h' : ¬ 20 < (n1.size : Int) + (l1.size : Int)) (hn : n1 ≠ ⟨#[]⟩) (HK : ∀ V, Below w.heap.size w V → Calls Tryz.prog 15 #[] V (RetB V (.bool true))) (HB1 : ∀ V, Below w.heap.size w V → Calls Tryz.prog 16 #[.agg #[.bool b1, .string m1, .bool false, .string k1]] V (RetB V (.int .i64 ((m1.size : Int) + (k1.size : Int))))) (HB2 : ∀ V, Below w.heap.size w V → Calls Tryz.prog 16 #[.agg #[.bool c1, .string n1, .bool false, .string l1]] V (RetB V (.int .i64 ((n1.size : Int) + (l1.size : Int))))) (HR : ∀ V, Below w.heap.size w V → Calls Tryz.prog 17 #[.agg #[.bool b1, .string m1, .bool false, .string k1, .bool c1, .string n1, .bool false, .string l1, .bool s1]] V (RetB V (.bool true))) (HP : ∀ V, Below w.heap.size w V → Calls Tryz.prog 18 #[.agg #[.bool b1, .string m1, .bool false, .string k1, .bool c1, .string n1, .bool false, .string l1, .bool s1]] V (RetB V (.int .i64 (0)))) (HF : ∀ V, Below w.heap.size w V → Calls Tryz.prog 19 #[.int .i64 (n)] V (RetB V (.agg #[.bool b5, .string m5, .bool false, .string ⟨#[]⟩, .bool false, .string ⟨#[]⟩, .bool false, .string ⟨#[]⟩, .bool false]))) (HW : ∀ V, Below w.heap.size w V → Calls Tryz.prog 21 #[.int .i64 (n)] V (RetB V (.agg #[.bool b5, .string m5, .bool false, .string ⟨#[]⟩]))) (HO : ∀ V, Below w.heap.size w V → Calls Tryz.prog 20 #[.agg #[.bool b5, .string m5, .bool false, .string ⟨#[]⟩]] V (RetB V (.agg #[.bool b5, .string m5, .bool false, .string ⟨#[]⟩, .bool false, .string ⟨#[]⟩, .bool false, .string ⟨#[]⟩, .bool false]))) (HS : ∀ V, Below w.heap.size w V → Calls Tryz.prog 22 #[.agg #[.bool b1, .string m1, .bool false, .string k1, .bool c1, .string n1, .bool false, .string l1, .bool s1]] V (RetB V (.bool true))) (HQ : ∀ V, Below w.heap.size w V → Calls Tryz.prog 23 #[.agg #[.bool b1, .string m1, .bool false, .string k1, .bool c1, .string n1, .bool false, .string l1, .bool s1]] V (RetB V (.tuple #[.agg #[.bool false, .string ⟨#[]⟩, .bool false, .string ⟨#[]⟩], .bool false]))) (HZ : ∀ V, Below w.heap.size w V → Calls Tryz.prog 24 #[] V (RetB V (.agg #[.bool false, .string ⟨#[]⟩, .bool false, .string ⟨#[]⟩]))) :
    Calls Tryz.prog 3 #[.agg #[.bool b1, .string m1, .bool false, .string k1, .bool c1, .string n1, .bool false, .string l1, .bool s1], .int .i64 (n)] w (RetB w (.bool true)) := by
  obtain ⟨e1, e2⟩ := str_ne hn
  have e3 := empty_no (size_pos hn)
  clear hn
  have C1 := Lib.hid HK
  have C2 := Lib.hid HB1
  have C3 := Lib.hid HB2
  have C4 := Lib.hid HR
  have C5 := Lib.hid HP
  have C6 := Lib.hid HF
  have C7 := Lib.hid HW
  have C8 := Lib.hid HO
  have C9 := Lib.hid HS
  have C10 := Lib.hid HQ
  have C11 := Lib.hid HZ
  have E1 : Hid (∀ {p : Prop} (h : p := by (exfalso; omega)), p) := @fun _ h => h
  clear HK HB1 HB2 HR HP HF HW HO HS HQ HZ 
  go_enter Tryz.func3, Tryz.ntmps3
  exact wk0

theorem checks3_all (b1 : Bool) (m1 : ByteArray) (d1 : Bool) (k1 : ByteArray) (c1 : Bool) (n1 : ByteArray) (e1 : Bool) (l1 : ByteArray) (s1 : Bool) (tm1 : m1.size ≤ 140737488351232) (tk1 : k1.size ≤ 140737488351232) (tn1 : n1.size ≤ 140737488351232) (tl1 : l1.size ≤ 140737488351232) (n : Int) (hn1 : -9223372036854775808 ≤ n) (hn2 : n ≤ 9223372036854775807) (w : World) (hE : Env w) : Calls Tryz.prog 3 #[.agg #[.bool b1, .string m1, .bool d1, .string k1, .bool c1, .string n1, .bool e1, .string l1, .bool s1], .int .i64 (n)] w (RetB w (.bool true)) := by
  have HK := fun V (hb : Below w.heap.size w V) => rknown3 V (hE.next hb)
  have HB1 := fun V (_ : Below w.heap.size w V) => bytes_w b1 d1 m1 k1 tm1 tk1 V
  have HB2 := fun V (_ : Below w.heap.size w V) => bytes_w c1 e1 n1 l1 tn1 tl1 V
  by_cases h : 20 < (m1.size : Int) + (k1.size : Int)
  · exact checks3_big1 w h HK HB1
  by_cases h' : 20 < (n1.size : Int) + (l1.size : Int)
  · exact checks3_big2 w h h' HK HB1 HB2
  obtain ⟨o, HR, HP, HT⟩ := chk_or b1 d1 c1 e1 s1 m1 k1 n1 l1 (by omega) (by omega) (by omega) (by omega)
  obtain ⟨o1, H1, P1⟩ := small_or b1 d1 c1 e1 s1 m1 k1 n1 l1 tm1 tk1 tn1 tl1
  obtain ⟨b5, m5, k5, h5⟩ := Rq.some_ (n : Rat)
  obtain rfl := h5.den1 (Rat.den_intCast n)
  have e5 : enc n = .agg #[.bool b5, .string m5] := by have h1 := h5.num; rw [Rat.num_intCast] at h1; exact h1
  have HF := fun V (_ : Below w.heap.size w V) => fromInt_w V (fun U _ => rFromInt_f e5 hn1 hn2 U) (fun U _ => fromRat_any b5 m5 ⟨#[]⟩ U)
  have HW := fun V (_ : Below w.heap.size w V) => whole_f e5 hn1 hn2 V
  have HO := fun V (_ : Below w.heap.size w V) => of_any b5 m5 ⟨#[]⟩ V
  cases o1
  · cases o
    · exact checks3_ns_false w h h' HK HB1 HB2 (fun V _ => HR V) (fun V hb => HP V (hE.next hb)) HF HW HO (fun V _ => H1 V)
    · exact checks3_ns_true w h h' HK HB1 HB2 (fun V _ => HR V) (fun V hb => HP V (hE.next hb)) HF HW HO (fun V _ => H1 V)
  obtain ⟨rfl, rfl, x, ok, hx, zx⟩ := P1 rfl
  obtain rfl := HT x ok rfl rfl hx
  by_cases ha : x.a = 0
  · obtain ⟨rfl, rfl, rfl⟩ := hx.r.nought.1 ha
    obtain rfl : s1 = false := by
      rw [hx.neg]
      rcases Sg.ok_cases ok with ⟨_, e⟩ | ⟨e, _⟩
      · rw [e]; rfl
      · grind
    exact checks3_rat w h HK HB1 (fun V hb => HB2 V hb) (fun V _ => HR V) (fun V hb => HP V (hE.next hb)) HF HW HO (fun V _ => H1 V) (fun V _ => rational_yes V fun U _ => isRat_yes _ _ _ _ U) (fun V _ => zero_any V) (fun V _ => fromRat_any b1 m1 k1 V)
  · exact checks3_irr w h h' (hx.r.ne ha) HK HB1 HB2 (fun V _ => HR V) (fun V hb => HP V (hE.next hb)) HF HW HO (fun V _ => H1 V) (fun V _ => rational_no V fun U _ => isRat_no hx ha U) (fun V _ => zero_any V)
end Go.Proofs.YtpnokfgplnmjpaaGreatDoor
