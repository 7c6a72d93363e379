import Derived.Test.YtpnokfgplnmjpaaGreatDoorGRHE
import Derived.Test.YtpnokfgplnmjpaaGreatDoorGRLN
import Derived.Test.YtpnokfgplnmjpaaGreatDoorGKtD
set_option linter.unusedSimpArgs false
set_option linter.unusedVariables false

namespace Go.Proofs.YtpnokfgplnmjpaaGreatDoor
open Go.RowKit
attribute [local go_sem ↓] Go.wp_at_zero Go.wp_at_succ

theorem wrap_small {x : Int} (h1 : -9223372036854775808 ≤ x) (h2 : x ≤ 9223372036854775807) : IntKind.i64.wrap x = x := by
  rw [IntKind.wrap_i64]
  omega

set_option maxHeartbeats 8000000 in
set_option maxRecDepth 100000 in
theorem bytes_w (b1 d1 : Bool) (m1 k1 : ByteArray) (hm : m1.size ≤ 140737488351232) (hk : k1.size ≤ 140737488351232) (w : World) :
    Calls Tryz.prog 16 #[.agg #[.bool b1, .string m1, .bool d1, .string k1]] w (RetB w (.int .i64 ((m1.size : Int) + (k1.size : Int)))) := by
  have hw : IntKind.i64.wrap ((m1.size : Int) + (k1.size : Int)) = (m1.size : Int) + (k1.size : Int) := wrap_small (by omega) (by omega)
  go_enter Tryz.func16, Tryz.ntmps16
  exact wk0

set_option maxHeartbeats 8000000 in
set_option maxRecDepth 100000 in
theorem fchk_bad1 (w : World) {b1 d1 c1 e1 s1 : Bool} {m1 k1 n1 l1 : ByteArray} (HC1 : ∀ V, Below w.heap.size w V → Calls Tryz.prog 57 #[.agg #[.bool b1, .string m1, .bool d1, .string k1]] V (RetB V (.bool false))) :
    Calls Tryz.prog 17 #[.agg #[.bool b1, .string m1, .bool d1, .string k1, .bool c1, .string n1, .bool e1, .string l1, .bool s1]] w (RetB w (.bool false)) := by
  have C1 := Lib.hid HC1
  clear HC1 
  go_enter Tryz.func17, Tryz.ntmps17
  exact wk0

set_option maxHeartbeats 8000000 in
set_option maxRecDepth 100000 in
theorem fchk_bad2 (w : World) {b1 d1 c1 e1 s1 : Bool} {m1 k1 n1 l1 : ByteArray} (HC1 : ∀ V, Below w.heap.size w V → Calls Tryz.prog 57 #[.agg #[.bool b1, .string m1, .bool d1, .string k1]] V (RetB V (.bool true))) (HC2 : ∀ V, Below w.heap.size w V → Calls Tryz.prog 57 #[.agg #[.bool c1, .string n1, .bool e1, .string l1]] V (RetB V (.bool false))) :
    Calls Tryz.prog 17 #[.agg #[.bool b1, .string m1, .bool d1, .string k1, .bool c1, .string n1, .bool e1, .string l1, .bool s1]] w (RetB w (.bool false)) := by
  have C1 := Lib.hid HC1
  have C2 := Lib.hid HC2
  clear HC1 HC2 
  go_enter Tryz.func17, Tryz.ntmps17
  exact wk0

set_option maxHeartbeats 8000000 in
set_option maxRecDepth 100000 in
theorem fchk_zero (w : World) {b1 d1 s1 : Bool} {m1 k1 : ByteArray} (HC1 : ∀ V, Below w.heap.size w V → Calls Tryz.prog 57 #[.agg #[.bool b1, .string m1, .bool d1, .string k1]] V (RetB V (.bool true))) (HC2 : ∀ V, Below w.heap.size w V → Calls Tryz.prog 57 #[.agg #[.bool false, .string ⟨#[]⟩, .bool false, .string ⟨#[]⟩]] V (RetB V (.bool true))) (HS : ∀ V, Below w.heap.size w V → Calls Tryz.prog 28 #[.agg #[.bool false, .string ⟨#[]⟩, .bool false, .string ⟨#[]⟩]] V (RetB V (.int .i64 (0)))) (HZ : ∀ V, Below w.heap.size w V → Calls Tryz.prog 24 #[] V (RetB V (.agg #[.bool false, .string ⟨#[]⟩, .bool false, .string ⟨#[]⟩]))) :
    Calls Tryz.prog 17 #[.agg #[.bool b1, .string m1, .bool d1, .string k1, .bool false, .string ⟨#[]⟩, .bool false, .string ⟨#[]⟩, .bool s1]] w (RetB w (.bool (!s1))) := by
  have C1 := Lib.hid HC1
  have C2 := Lib.hid HC2
  have C3 := Lib.hid HS
  have C4 := Lib.hid HZ
  clear HC1 HC2 HS HZ 
  go_enter Tryz.func17, Tryz.ntmps17
  exact wk0

set_option maxHeartbeats 8000000 in
set_option maxRecDepth 100000 in
theorem fchk_neg (w : World) {b1 d1 s1 : Bool} {m1 k1 n1 l1 : ByteArray} (HC1 : ∀ V, Below w.heap.size w V → Calls Tryz.prog 57 #[.agg #[.bool b1, .string m1, .bool d1, .string k1]] V (RetB V (.bool true))) (HC2 : ∀ V, Below w.heap.size w V → Calls Tryz.prog 57 #[.agg #[.bool true, .string n1, .bool false, .string l1]] V (RetB V (.bool true))) (HS : ∀ V, Below w.heap.size w V → Calls Tryz.prog 28 #[.agg #[.bool true, .string n1, .bool false, .string l1]] V (RetB V (.int .i64 (-1)))) (HZ : ∀ V, Below w.heap.size w V → Calls Tryz.prog 24 #[] V (RetB V (.agg #[.bool false, .string ⟨#[]⟩, .bool false, .string ⟨#[]⟩]))) :
    Calls Tryz.prog 17 #[.agg #[.bool b1, .string m1, .bool d1, .string k1, .bool true, .string n1, .bool false, .string l1, .bool s1]] w (RetB w (.bool false)) := by
  have C1 := Lib.hid HC1
  have C2 := Lib.hid HC2
  have C3 := Lib.hid HS
  have C4 := Lib.hid HZ
  clear HC1 HC2 HS HZ 
  go_enter Tryz.func17, Tryz.ntmps17
  exact wk0

set_option maxHeartbeats 8000000 in
set_option maxRecDepth 100000 in
theorem fchk_pos (w : World) {b1 d1 c1 e1 s1 : Bool} {m1 k1 n1 l1 : ByteArray} {o : Bool} {b2 c2 : Bool} {m2 k2 : ByteArray} (HC1 : ∀ V, Below w.heap.size w V → Calls Tryz.prog 57 #[.agg #[.bool b1, .string m1, .bool d1, .string k1]] V (RetB V (.bool true))) (HC2 : ∀ V, Below w.heap.size w V → Calls Tryz.prog 57 #[.agg #[.bool c1, .string n1, .bool e1, .string l1]] V (RetB V (.bool true))) (HS : ∀ V, Below w.heap.size w V → Calls Tryz.prog 28 #[.agg #[.bool c1, .string n1, .bool e1, .string l1]] V (RetB V (.int .i64 1))) (HR : ∀ V, Below w.heap.size w V → Calls Tryz.prog 68 #[.agg #[.bool c1, .string n1, .bool e1, .string l1]] V (RetB V (.tuple #[.agg #[.bool b2, .string m2, .bool c2, .string k2], .bool o]))) :
    Calls Tryz.prog 17 #[.agg #[.bool b1, .string m1, .bool d1, .string k1, .bool c1, .string n1, .bool e1, .string l1, .bool s1]] w (RetB w (.bool (!o))) := by
  have C1 := Lib.hid HC1
  have C2 := Lib.hid HC2
  have C3 := Lib.hid HS
  have C4 := Lib.hid HR
  clear HC1 HC2 HS HR 
  go_enter Tryz.func17, Tryz.ntmps17
  exact wk0

set_option maxHeartbeats 8000000 in
set_option maxRecDepth 100000 in
theorem small_no1 (w : World) {b1 d1 c1 e1 s1 : Bool} {m1 k1 n1 l1 : ByteArray} (h : ¬ (m1.size : Int) + (k1.size : Int) ≤ 8) (HB1 : ∀ V, Below w.heap.size w V → Calls Tryz.prog 16 #[.agg #[.bool b1, .string m1, .bool d1, .string k1]] V (RetB V (.int .i64 ((m1.size : Int) + (k1.size : Int))))) :
    Calls Tryz.prog 22 #[.agg #[.bool b1, .string m1, .bool d1, .string k1, .bool c1, .string n1, .bool e1, .string l1, .bool s1]] w (RetB w (.bool false)) := by
  have C1 := Lib.hid HB1
  clear HB1 
  go_enter Tryz.func22, Tryz.ntmps22
  exact wk0

set_option maxHeartbeats 8000000 in
set_option maxRecDepth 100000 in
theorem small_no2 (w : World) {b1 d1 c1 e1 s1 : Bool} {m1 k1 n1 l1 : ByteArray} (h : (m1.size : Int) + (k1.size : Int) ≤ 8) (h' : ¬ (n1.size : Int) + (l1.size : Int) ≤ 8) (HB1 : ∀ V, Below w.heap.size w V → Calls Tryz.prog 16 #[.agg #[.bool b1, .string m1, .bool d1, .string k1]] V (RetB V (.int .i64 ((m1.size : Int) + (k1.size : Int))))) (HB2 : ∀ V, Below w.heap.size w V → Calls Tryz.prog 16 #[.agg #[.bool c1, .string n1, .bool e1, .string l1]] V (RetB V (.int .i64 ((n1.size : Int) + (l1.size : Int))))) :
    Calls Tryz.prog 22 #[.agg #[.bool b1, .string m1, .bool d1, .string k1, .bool c1, .string n1, .bool e1, .string l1, .bool s1]] w (RetB w (.bool false)) := by
  have C1 := Lib.hid HB1
  have C2 := Lib.hid HB2
  clear HB1 HB2 
  go_enter Tryz.func22, Tryz.ntmps22
  exact wk0

set_option maxHeartbeats 8000000 in
set_option maxRecDepth 100000 in
theorem small_chk (w : World) {b1 d1 c1 e1 s1 : Bool} {m1 k1 n1 l1 : ByteArray} {o : Bool} (h : (m1.size : Int) + (k1.size : Int) ≤ 8) (h' : (n1.size : Int) + (l1.size : Int) ≤ 8) (HB1 : ∀ V, Below w.heap.size w V → Calls Tryz.prog 16 #[.agg #[.bool b1, .string m1, .bool d1, .string k1]] V (RetB V (.int .i64 ((m1.size : Int) + (k1.size : Int))))) (HB2 : ∀ V, Below w.heap.size w V → Calls Tryz.prog 16 #[.agg #[.bool c1, .string n1, .bool e1, .string l1]] V (RetB V (.int .i64 ((n1.size : Int) + (l1.size : Int))))) (HC : ∀ V, Below w.heap.size w V → Calls Tryz.prog 17 #[.agg #[.bool b1, .string m1, .bool d1, .string k1, .bool c1, .string n1, .bool e1, .string l1, .bool s1]] V (RetB V (.bool o))) :
    Calls Tryz.prog 22 #[.agg #[.bool b1, .string m1, .bool d1, .string k1, .bool c1, .string n1, .bool e1, .string l1, .bool s1]] w (RetB w (.bool o)) := by
  have C1 := Lib.hid HB1
  have C2 := Lib.hid HB2
  have C3 := Lib.hid HC
  clear HB1 HB2 HC 
  go_enter Tryz.func22, Tryz.ntmps22
  exact wk0

theorem sz8 {q : Rat} {b : Bool} {m k : ByteArray} (h : Rq q b m k) (hm : m.size ≤ 8) (hk : k.size ≤ 8) : Sz 8 q := by
  have h1 := bval_lt m
  rw [h.bval] at h1
  refine ⟨Nat.lt_of_lt_of_le h1 (Nat.pow_le_pow_right (by decide) hm), ?_⟩
  by_cases hd : q.den = 1
  · rw [hd]; decide
  · have h2 := bval_lt k
    rw [h.den2 hd, bval_mag] at h2
    rw [h.den2 hd] at hk
    exact Nat.lt_of_lt_of_le h2 (Nat.pow_le_pow_right (by decide) hk)
theorem small_or (b1 d1 c1 e1 s1 : Bool) (m1 k1 n1 l1 : ByteArray) (t1 : m1.size ≤ 140737488351232) (t2 : k1.size ≤ 140737488351232) (t3 : n1.size ≤ 140737488351232) (t4 : l1.size ≤ 140737488351232) :
    ∃ o, (∀ V, Calls Tryz.prog 22 #[.agg #[.bool b1, .string m1, .bool d1, .string k1, .bool c1, .string n1, .bool e1, .string l1, .bool s1]] V (RetB V (.bool o))) ∧ (o = true → d1 = false ∧ e1 = false ∧ ∃ x : Sg.Rl, x.Ok ∧ Rv x b1 m1 k1 c1 n1 l1 s1 ∧ Rz 8 x) := by
  have HB1 := fun (w V : World) (_ : Below w.heap.size w V) => bytes_w b1 d1 m1 k1 t1 t2 V
  have HB2 := fun (w V : World) (_ : Below w.heap.size w V) => bytes_w c1 e1 n1 l1 t3 t4 V
  by_cases h : (m1.size : Int) + (k1.size : Int) ≤ 8
  · by_cases h' : (n1.size : Int) + (l1.size : Int) ≤ 8
    · by_cases hp : d1 = false ∧ ∃ q, Rq q b1 m1 k1
      · by_cases hr : e1 = false ∧ ∃ q, Rq q c1 n1 l1
        · obtain ⟨rfl, p, hp⟩ := hp
          obtain ⟨rfl, r, hr⟩ := hr
          have C1 := fun (w V : World) (_ : Below w.heap.size w V) => rCheck_yes hp (by omega) (by omega) V
          have C2 := fun (w V : World) (_ : Below w.heap.size w V) => rCheck_yes hr (by omega) (by omega) V
          have C3 := fun (w V : World) (_ : Below w.heap.size w V) => rsign_z hr V
          have zp := sz8 hp (by omega) (by omega)
          have zr := sz8 hr (by omega) (by omega)
          rcases Sg.sgq_three r with ⟨g, e⟩ | ⟨g, e⟩ | ⟨g, e⟩
          · obtain rfl : c1 = true := by rw [hr.mag.1]; exact decide_eq_true (num_neg_iff.2 g)
            rw [e] at C3
            exact ⟨false, fun V => small_chk V h h' (HB1 V) (HB2 V) (fun V _ => fchk_neg V (C1 V) (C2 V) (C3 V) (fun V _ => zero_any V)), fun h => by cases h⟩
          · obtain ⟨rfl, rfl, rfl⟩ := hr.nought.1 g
            rw [e] at C3
            refine ⟨!s1, fun V => small_chk V h h' (HB1 V) (HB2 V) (fun V _ => fchk_zero V (C1 V) (C2 V) (C3 V) (fun V _ => zero_any V)), fun hs => ⟨rfl, rfl, ⟨p, 0, 1⟩, ⟨.inl rfl, .inl ⟨rfl, rfl⟩⟩, ⟨hp, Rq.zero, ?_⟩, ⟨zp, Sz.zero 7⟩⟩⟩
            simpa using hs
          · rw [e] at C3
            by_cases hs : Sg.Sq r
            · obtain ⟨b2, m2, k2, h2⟩ := Rq.some_ (Sg.rt r)
              exact ⟨false, fun V => small_chk V h h' (HB1 V) (HB2 V) (fun V _ => fchk_pos V (C1 V) (C2 V) (C3 V) (fun V _ => (root_yes_z hr (zr.up (by omega)) hs h2).2 V)), fun h => by cases h⟩
            · refine ⟨true, fun V => small_chk V h h' (HB1 V) (HB2 V) (fun V _ => fchk_pos V (C1 V) (C2 V) (C3 V) (fun V _ => (root_no_z hr (zr.up (by omega)) hs).2 V)), fun _ => ⟨rfl, rfl, ⟨p, r, if s1 then -1 else 1⟩, ⟨?_, .inr ⟨g, Sg.nsq_sq.2 hs⟩⟩, ⟨hp, hr, ?_⟩, ⟨zp, zr⟩⟩⟩
              · cases s1 <;> simp
              · cases s1 <;> simp
        · obtain ⟨rfl, p, hp⟩ := hp
          exact ⟨false, fun V => small_chk V h h' (HB1 V) (HB2 V) (fun V _ => fchk_bad2 V (fun V _ => rCheck_yes hp (by omega) (by omega) V) (fun V _ => rCheck_no c1 n1 e1 l1 (by omega) (by omega) hr V)), fun h => by cases h⟩
      · exact ⟨false, fun V => small_chk V h h' (HB1 V) (HB2 V) (fun V _ => fchk_bad1 V (fun V _ => rCheck_no b1 m1 d1 k1 (by omega) (by omega) hp V)), fun h => by cases h⟩
    · exact ⟨false, fun V => small_no2 V h h' (HB1 V) (HB2 V), fun h => by cases h⟩
  · exact ⟨false, fun V => small_no1 V h (HB1 V), fun h => by cases h⟩
end Go.Proofs.YtpnokfgplnmjpaaGreatDoor


namespace Go.Proofs.YtpnokfgplnmjpaaGreatDoor
open Go.RowKit
attribute [local go_sem ↓] Go.wp_at_zero Go.wp_at_succ

theorem Sz.whole {n : Int} (h : n.natAbs ≤ 255) : Sz 1 (n : Rat) := ⟨by show (n : Rat).num.natAbs < 256 ^ 1; rw [Rat.num_intCast]; omega, by show (n : Rat).den < 256 ^ 1; rw [Rat.den_intCast]; decide⟩
def rtsI (x y c : Int) : Int := if x ≠ y then (if x > y then 1 else -1) else x * c
def sg2I (x y c : Int) : Int := if x = y ∨ y = 0 then x else if x = 0 then y else if 0 < c then x else if c < 0 then y else 0
theorem sg2I_cases {a b c : Int} (ha : a = -1 ∨ a = 0 ∨ a = 1) (hb : b = -1 ∨ b = 0 ∨ b = 1) (hc : c = -1 ∨ c = 0 ∨ c = 1) :
    (b = a ∧ sg2I a b c = a) ∨ (b = 0 ∧ (a == 0) = false ∧ sg2I a b c = a) ∨ (a = 0 ∧ (0 == b) = false ∧ (b == 0) = false ∧ sg2I a b c = b) ∨ ((a == b) = false ∧ (b == 0) = false ∧ (a == 0) = false ∧ ((c = -1 ∧ sg2I a b c = b) ∨ (c = 0 ∧ sg2I a b c = 0) ∨ (c = 1 ∧ sg2I a b c = a))) := by
  rcases ha with rfl | rfl | rfl <;> rcases hb with rfl | rfl | rfl <;> rcases hc with rfl | rfl | rfl <;> decide

set_option maxHeartbeats 8000000 in
set_option maxRecDepth 100000 in
theorem froots_w (w : World) {b1 b2 : Bool} {m1 k1 m2 k2 : ByteArray} {s x t y X Y c : Int} (hX : IntKind.i64.wrap (s * x) = X) (hY : IntKind.i64.wrap (t * y) = Y) (hc : IntKind.i64.wrap (X * c) = X * c) (HA : ∀ V, Below w.heap.size w V → Calls Tryz.prog 28 #[.agg #[.bool b1, .string m1, .bool false, .string k1]] V (RetB V (.int .i64 (x)))) (HB : ∀ V, Below w.heap.size w V → Calls Tryz.prog 28 #[.agg #[.bool b2, .string m2, .bool false, .string k2]] V (RetB V (.int .i64 (y)))) (HC : ∀ V, Below w.heap.size w V → Calls Tryz.prog 140 #[.agg #[.bool b1, .string m1, .bool false, .string k1], .agg #[.bool b2, .string m2, .bool false, .string k2]] V (RetB V (.int .i64 (c)))) :
    Calls Tryz.prog 91 #[.int .i64 (s), .agg #[.bool b1, .string m1, .bool false, .string k1], .int .i64 (t), .agg #[.bool b2, .string m2, .bool false, .string k2]] w (RetB w (.int .i64 (rtsI X Y c))) := by
  obtain ⟨o, ho⟩ : ∃ o, o = rtsI X Y c := ⟨_, rfl⟩
  rw [← ho]
  unfold rtsI at ho
  have P1 := Lib.hid (show (X != Y) = true → Y < X → o = 1 from fun h k => by rw [ho, if_pos (by simpa using h), if_pos k])
  have P2 := Lib.hid (show (X != Y) = true → X ≤ Y → o = -1 from fun h k => by rw [ho, if_pos (by simpa using h), if_neg (by omega)])
  have P3 := Lib.hid (show (X != Y) = false → o = X * c from fun h => by rw [ho, if_neg (by simpa using h)])
  clear ho
  have C1 := Lib.hid HA
  have C2 := Lib.hid HB
  have C3 := Lib.hid HC
  clear HA HB HC 
  go_enter Tryz.func91, Tryz.ntmps91
  exact wk0

set_option maxHeartbeats 8000000 in
set_option maxRecDepth 100000 in
theorem fsigns_w (w : World) {b1 b2 b3 b4 b5 b6 : Bool} {m1 k1 m2 k2 m3 k3 m4 k4 m5 k5 m6 k6 : ByteArray} {x y z t c : Int} (hx : x = -1 ∨ x = 0 ∨ x = 1) (ht : IntKind.i64.wrap (y * z) = t) (hy : t = -1 ∨ t = 0 ∨ t = 1) (hc : c = -1 ∨ c = 0 ∨ c = 1) (HA : ∀ V, Below w.heap.size w V → Calls Tryz.prog 28 #[.agg #[.bool b1, .string m1, .bool false, .string k1]] V (RetB V (.int .i64 (x)))) (HB : ∀ V, Below w.heap.size w V → Calls Tryz.prog 28 #[.agg #[.bool b2, .string m2, .bool false, .string k2]] V (RetB V (.int .i64 (y)))) (HC : ∀ V, Below w.heap.size w V → Calls Tryz.prog 28 #[.agg #[.bool b3, .string m3, .bool false, .string k3]] V (RetB V (.int .i64 (z)))) (HD : ∀ V, Below w.heap.size w V → Calls Tryz.prog 78 #[.agg #[.bool b1, .string m1, .bool false, .string k1], .agg #[.bool b1, .string m1, .bool false, .string k1]] V (RetB V (.agg #[.bool b4, .string m4, .bool false, .string k4]))) (HE : ∀ V, Below w.heap.size w V → Calls Tryz.prog 78 #[.agg #[.bool b2, .string m2, .bool false, .string k2], .agg #[.bool b2, .string m2, .bool false, .string k2]] V (RetB V (.agg #[.bool b5, .string m5, .bool false, .string k5]))) (HF : ∀ V, Below w.heap.size w V → Calls Tryz.prog 78 #[.agg #[.bool b5, .string m5, .bool false, .string k5], .agg #[.bool b3, .string m3, .bool false, .string k3]] V (RetB V (.agg #[.bool b6, .string m6, .bool false, .string k6]))) (HG : ∀ V, Below w.heap.size w V → Calls Tryz.prog 140 #[.agg #[.bool b4, .string m4, .bool false, .string k4], .agg #[.bool b6, .string m6, .bool false, .string k6]] V (RetB V (.int .i64 (c)))) :
    Calls Tryz.prog 92 #[.agg #[.bool b1, .string m1, .bool false, .string k1], .agg #[.bool b2, .string m2, .bool false, .string k2], .agg #[.bool b3, .string m3, .bool false, .string k3]] w (RetB w (.int .i64 (sg2I x t c))) := by
  have hk := sg2I_cases hx hy hc
  obtain ⟨o, ho⟩ : ∃ o, o = sg2I x t c := ⟨_, rfl⟩
  rw [← ho] at hk ⊢
  clear ho hx hy hc
  have C1 := Lib.hid HA
  have C2 := Lib.hid HB
  have C3 := Lib.hid HC
  have C4 := Lib.hid HD
  have C5 := Lib.hid HE
  have C6 := Lib.hid HF
  have C7 := Lib.hid HG
  rcases hk with ⟨rfl, rfl⟩ | ⟨rfl, h1, rfl⟩ | ⟨rfl, h1, h2, rfl⟩ | ⟨h1, h2, h3, ⟨rfl, rfl⟩ | ⟨rfl, rfl⟩ | ⟨rfl, rfl⟩⟩
  all_goals
    clear HA HB HC HD HE HF HG 
    go_enter Tryz.func92, Tryz.ntmps92
    exact wk0

set_option maxHeartbeats 8000000 in
set_option maxRecDepth 100000 in
theorem fcmp_w (w : World) {b1 c1 s1 : Bool} {m1 k1 n1 l1 : ByteArray} {b2 c2 s2 : Bool} {m2 k2 n2 l2 : ByteArray} {b3 b4 b5 b6 b7 b8 : Bool} {m3 k3 m4 k4 m5 k5 m6 k6 m7 k7 m8 k8 : ByteArray} {s t a b c : Int} (hs : s = 1 ∨ s = -1) (ht : t = 1 ∨ t = -1) (hx : a = -1 ∨ a = 0 ∨ a = 1) (hy : b = -1 ∨ b = 0 ∨ b = 1) (hc : c = -1 ∨ c = 0 ∨ c = 1) (HD : ∀ V, Below w.heap.size w V → Calls Tryz.prog 83 #[.agg #[.bool b1, .string m1, .bool false, .string k1], .agg #[.bool b2, .string m2, .bool false, .string k2]] V (RetB V (.agg #[.bool b3, .string m3, .bool false, .string k3]))) (HS : ∀ V, Below w.heap.size w V → Calls Tryz.prog 28 #[.agg #[.bool b3, .string m3, .bool false, .string k3]] V (RetB V (.int .i64 (a)))) (HX : ∀ V, Below w.heap.size w V → Calls Tryz.prog 85 #[.agg #[.bool b1, .string m1, .bool false, .string k1, .bool c1, .string n1, .bool false, .string l1, .bool s1]] V (RetB V (.int .i64 (s)))) (HY : ∀ V, Below w.heap.size w V → Calls Tryz.prog 85 #[.agg #[.bool b2, .string m2, .bool false, .string k2, .bool c2, .string n2, .bool false, .string l2, .bool s2]] V (RetB V (.int .i64 (t)))) (HR : ∀ V, Below w.heap.size w V → Calls Tryz.prog 91 #[.int .i64 (s), .agg #[.bool c1, .string n1, .bool false, .string l1], .int .i64 (t), .agg #[.bool c2, .string n2, .bool false, .string l2]] V (RetB V (.int .i64 (b)))) (HM : ∀ V, Below w.heap.size w V → Calls Tryz.prog 78 #[.agg #[.bool b3, .string m3, .bool false, .string k3], .agg #[.bool b3, .string m3, .bool false, .string k3]] V (RetB V (.agg #[.bool b4, .string m4, .bool false, .string k4]))) (HA : ∀ V, Below w.heap.size w V → Calls Tryz.prog 77 #[.agg #[.bool c1, .string n1, .bool false, .string l1], .agg #[.bool c2, .string n2, .bool false, .string l2]] V (RetB V (.agg #[.bool b5, .string m5, .bool false, .string k5]))) (HQ : ∀ V, Below w.heap.size w V → Calls Tryz.prog 83 #[.agg #[.bool b4, .string m4, .bool false, .string k4], .agg #[.bool b5, .string m5, .bool false, .string k5]] V (RetB V (.agg #[.bool b6, .string m6, .bool false, .string k6]))) (HW : ∀ V, Below w.heap.size w V → Calls Tryz.prog 21 #[.int .i64 (2 * s * t)] V (RetB V (.agg #[.bool b7, .string m7, .bool false, .string k7]))) (HP : ∀ V, Below w.heap.size w V → Calls Tryz.prog 78 #[.agg #[.bool c1, .string n1, .bool false, .string l1], .agg #[.bool c2, .string n2, .bool false, .string l2]] V (RetB V (.agg #[.bool b8, .string m8, .bool false, .string k8]))) (HG : ∀ V, Below w.heap.size w V → Calls Tryz.prog 92 #[.agg #[.bool b6, .string m6, .bool false, .string k6], .agg #[.bool b7, .string m7, .bool false, .string k7], .agg #[.bool b8, .string m8, .bool false, .string k8]] V (RetB V (.int .i64 (c)))) :
    Calls Tryz.prog 37 #[.agg #[.bool b1, .string m1, .bool false, .string k1, .bool c1, .string n1, .bool false, .string l1, .bool s1], .agg #[.bool b2, .string m2, .bool false, .string k2, .bool c2, .string n2, .bool false, .string l2, .bool s2]] w (RetB w (.int .i64 (sg2I a b c))) := by
  have hv : IntKind.i64.wrap (2 * s) = 2 * s ∧ IntKind.i64.wrap (2 * s * t) = 2 * s * t := by rcases hs with rfl | rfl <;> rcases ht with rfl | rfl <;> exact ⟨by decide, by decide⟩
  obtain ⟨hv1, hv2⟩ := hv
  have hk := sg2I_cases hx hy hc
  obtain ⟨o, ho⟩ : ∃ o, o = sg2I a b c := ⟨_, rfl⟩
  rw [← ho] at hk ⊢
  clear ho hx hy hc hs ht
  have C1 := Lib.hid HD
  have C2 := Lib.hid HS
  have C3 := Lib.hid HX
  have C4 := Lib.hid HY
  have C5 := Lib.hid HR
  have C6 := Lib.hid HM
  have C7 := Lib.hid HA
  have C8 := Lib.hid HQ
  have C9 := Lib.hid HW
  have C10 := Lib.hid HP
  have C11 := Lib.hid HG
  rcases hk with ⟨rfl, rfl⟩ | ⟨rfl, h1, rfl⟩ | ⟨rfl, h1, h2, rfl⟩ | ⟨h1, h2, h3, ⟨rfl, rfl⟩ | ⟨rfl, rfl⟩ | ⟨rfl, rfl⟩⟩
  all_goals
    have U1 : Hid (∀ {p : Prop} (h : p := by ((fail_if_success (go_not_at_region 7)); (fail_if_success (have := hLL)); obtain ⟨LL, hLL⟩ := lexi X.out; go_cut [8] (fun s0 wx => ∃ g0, s0 = .pointer (some ⟨g0, 0, none⟩) ∧ Sb w (LL ++ [(g0, #[.bool b6, .string m6, .bool false, .string k6], 25)]) [] wx); all_goals exact wkc)), p) := @fun _ h => h
    clear HD HS HX HY HR HM HA HQ HW HP HG 
    go_enter Tryz.func37, Tryz.ntmps37
    exact wk0

set_option maxHeartbeats 8000000 in
set_option maxRecDepth 100000 in
theorem fsgn_w (w : World) {b1 c1 s1 : Bool} {m1 k1 n1 l1 : ByteArray} {b2 : Bool} {m2 k2 : ByteArray} {s c : Int} (HS : ∀ V, Below w.heap.size w V → Calls Tryz.prog 85 #[.agg #[.bool b1, .string m1, .bool false, .string k1, .bool c1, .string n1, .bool false, .string l1, .bool s1]] V (RetB V (.int .i64 (s)))) (HW : ∀ V, Below w.heap.size w V → Calls Tryz.prog 21 #[.int .i64 (s)] V (RetB V (.agg #[.bool b2, .string m2, .bool false, .string k2]))) (HG : ∀ V, Below w.heap.size w V → Calls Tryz.prog 92 #[.agg #[.bool b1, .string m1, .bool false, .string k1], .agg #[.bool b2, .string m2, .bool false, .string k2], .agg #[.bool c1, .string n1, .bool false, .string l1]] V (RetB V (.int .i64 (c)))) :
    Calls Tryz.prog 40 #[.agg #[.bool b1, .string m1, .bool false, .string k1, .bool c1, .string n1, .bool false, .string l1, .bool s1]] w (RetB w (.int .i64 (c))) := by
  have C1 := Lib.hid HS
  have C2 := Lib.hid HW
  have C3 := Lib.hid HG
  clear HS HW HG 
  go_enter Tryz.func40, Tryz.ntmps40
  exact wk0

set_option maxHeartbeats 8000000 in
set_option maxRecDepth 100000 in
theorem mn_le (w : World) {b1 c1 s1 : Bool} {m1 k1 n1 l1 : ByteArray} {b2 c2 s2 : Bool} {m2 k2 n2 l2 : ByteArray} {c : Int} (hc : c ≤ 0) (HC : ∀ V, Below w.heap.size w V → Calls Tryz.prog 34 #[.agg #[.bool b1, .string m1, .bool false, .string k1, .bool c1, .string n1, .bool false, .string l1, .bool s1], .agg #[.bool b2, .string m2, .bool false, .string k2, .bool c2, .string n2, .bool false, .string l2, .bool s2]] V (RetB V (.int .i64 (c)))) :
    Calls Tryz.prog 41 #[.agg #[.bool b1, .string m1, .bool false, .string k1, .bool c1, .string n1, .bool false, .string l1, .bool s1], .agg #[.bool b2, .string m2, .bool false, .string k2, .bool c2, .string n2, .bool false, .string l2, .bool s2]] w (RetB w (.agg #[.bool b1, .string m1, .bool false, .string k1, .bool c1, .string n1, .bool false, .string l1, .bool s1])) := by
  have C1 := Lib.hid HC
  have RS := Lib.hid Tryz.results41
  clear HC 
  go_enter Tryz.func41, Tryz.ntmps41
  exact wk0

set_option maxHeartbeats 8000000 in
set_option maxRecDepth 100000 in
theorem mn_gt (w : World) {b1 c1 s1 : Bool} {m1 k1 n1 l1 : ByteArray} {b2 c2 s2 : Bool} {m2 k2 n2 l2 : ByteArray} {c : Int} (hc : 0 < c) (HC : ∀ V, Below w.heap.size w V → Calls Tryz.prog 34 #[.agg #[.bool b1, .string m1, .bool false, .string k1, .bool c1, .string n1, .bool false, .string l1, .bool s1], .agg #[.bool b2, .string m2, .bool false, .string k2, .bool c2, .string n2, .bool false, .string l2, .bool s2]] V (RetB V (.int .i64 (c)))) :
    Calls Tryz.prog 41 #[.agg #[.bool b1, .string m1, .bool false, .string k1, .bool c1, .string n1, .bool false, .string l1, .bool s1], .agg #[.bool b2, .string m2, .bool false, .string k2, .bool c2, .string n2, .bool false, .string l2, .bool s2]] w (RetB w (.agg #[.bool b2, .string m2, .bool false, .string k2, .bool c2, .string n2, .bool false, .string l2, .bool s2])) := by
  have C1 := Lib.hid HC
  have RS := Lib.hid Tryz.results41
  clear HC 
  go_enter Tryz.func41, Tryz.ntmps41
  exact wk0

set_option maxHeartbeats 8000000 in
set_option maxRecDepth 100000 in
theorem mx_ge (w : World) {b1 c1 s1 : Bool} {m1 k1 n1 l1 : ByteArray} {b2 c2 s2 : Bool} {m2 k2 n2 l2 : ByteArray} {c : Int} (hc : 0 ≤ c) (HC : ∀ V, Below w.heap.size w V → Calls Tryz.prog 34 #[.agg #[.bool b1, .string m1, .bool false, .string k1, .bool c1, .string n1, .bool false, .string l1, .bool s1], .agg #[.bool b2, .string m2, .bool false, .string k2, .bool c2, .string n2, .bool false, .string l2, .bool s2]] V (RetB V (.int .i64 (c)))) :
    Calls Tryz.prog 42 #[.agg #[.bool b1, .string m1, .bool false, .string k1, .bool c1, .string n1, .bool false, .string l1, .bool s1], .agg #[.bool b2, .string m2, .bool false, .string k2, .bool c2, .string n2, .bool false, .string l2, .bool s2]] w (RetB w (.agg #[.bool b1, .string m1, .bool false, .string k1, .bool c1, .string n1, .bool false, .string l1, .bool s1])) := by
  have C1 := Lib.hid HC
  have RS := Lib.hid Tryz.results42
  clear HC 
  go_enter Tryz.func42, Tryz.ntmps42
  exact wk0

set_option maxHeartbeats 8000000 in
set_option maxRecDepth 100000 in
theorem mx_lt (w : World) {b1 c1 s1 : Bool} {m1 k1 n1 l1 : ByteArray} {b2 c2 s2 : Bool} {m2 k2 n2 l2 : ByteArray} {c : Int} (hc : c < 0) (HC : ∀ V, Below w.heap.size w V → Calls Tryz.prog 34 #[.agg #[.bool b1, .string m1, .bool false, .string k1, .bool c1, .string n1, .bool false, .string l1, .bool s1], .agg #[.bool b2, .string m2, .bool false, .string k2, .bool c2, .string n2, .bool false, .string l2, .bool s2]] V (RetB V (.int .i64 (c)))) :
    Calls Tryz.prog 42 #[.agg #[.bool b1, .string m1, .bool false, .string k1, .bool c1, .string n1, .bool false, .string l1, .bool s1], .agg #[.bool b2, .string m2, .bool false, .string k2, .bool c2, .string n2, .bool false, .string l2, .bool s2]] w (RetB w (.agg #[.bool b2, .string m2, .bool false, .string k2, .bool c2, .string n2, .bool false, .string l2, .bool s2])) := by
  have C1 := Lib.hid HC
  have RS := Lib.hid Tryz.results42
  clear HC 
  go_enter Tryz.func42, Tryz.ntmps42
  exact wk0

theorem pm_three {s c : Int} (hs : s = 1 ∨ s = -1) (h : c = -1 ∨ c = 0 ∨ c = 1) : s * c = -1 ∨ s * c = 0 ∨ s * c = 1 := by rcases hs with rfl | rfl <;> omega
theorem ok_nn {x : Sg.Rl} (ok : x.Ok) : 0 ≤ x.a := by
  rcases Sg.ok_cases ok with ⟨h, _⟩ | ⟨h, _⟩ <;> grind
theorem froots_f {a b : Rat} {b1 b2 : Bool} {m1 k1 m2 k2 : ByteArray} (hp : Rq a b1 m1 k1) (hq : Rq b b2 m2 k2) (h1 : 0 ≤ a) (h2 : 0 ≤ b) (zp : Sz 10000 a) (zq : Sz 10000 b) {s t : Int} (hs : s = 1 ∨ s = -1) (ht : t = 1 ∨ t = -1) (w : World) :
    Calls Tryz.prog 91 #[.int .i64 (s), .agg #[.bool b1, .string m1, .bool false, .string k1], .int .i64 (t), .agg #[.bool b2, .string m2, .bool false, .string k2]] w (RetB w (.int .i64 (Sg.rts s a t b))) :=
  froots_w w (wrap_ts hs (sgq_abs a)) (wrap_ts ht (sgq_abs b)) (by rcases pm_three hs (sgq_abs a) with e | e | e <;> rcases sgq_abs (a - b) with f | f | f <;> rw [e, f] <;> decide) (fun V _ => rsign_z hp V) (fun V _ => rsign_z hq V) (fun V _ => rcmp_z hp hq zp zq V)
theorem fsigns_f {a b r : Rat} {b1 b2 b3 : Bool} {m1 k1 m2 k2 m3 k3 : ByteArray} (ha : Rq a b1 m1 k1) (hb : Rq b b2 m2 k2) (hr : Rq r b3 m3 k3) (hb0 : Sg.sgq b = 1 ∨ Sg.sgq b = -1) (h : 0 ≤ r) (za : Sz 4000 a) (zb : Sz 2000 b) (zr : Sz 4000 r) (w : World) :
    Calls Tryz.prog 92 #[.agg #[.bool b1, .string m1, .bool false, .string k1], .agg #[.bool b2, .string m2, .bool false, .string k2], .agg #[.bool b3, .string m3, .bool false, .string k3]] w (RetB w (.int .i64 (Sg.sg2 a b r))) := by
  obtain ⟨b4, m4, k4, h4⟩ := Rq.some_ (a * a)
  obtain ⟨b5, m5, k5, h5⟩ := Rq.some_ (b * b)
  obtain ⟨b6, m6, k6, h6⟩ := Rq.some_ (b * b * r)
  have z5 := zb.mul zb
  exact fsigns_w w (sgq_abs a) (wrap_ts hb0 (sgq_abs r)) (pm_three hb0 (sgq_abs r)) (sgq_abs (a * a - b * b * r)) (fun V _ => rsign_z ha V) (fun V _ => rsign_z hb V) (fun V _ => rsign_z hr V) (fun V _ => rmul_z ha ha h4 (za.up (by omega)) (za.up (by omega)) V) (fun V _ => rmul_z hb hb h5 (zb.up (by omega)) (zb.up (by omega)) V) (fun V _ => rmul_z h5 hr h6 (z5.up (by omega)) (zr.up (by omega)) V) (fun V _ => rcmp_z h4 h6 ((za.mul za).up (by omega)) ((z5.mul zr).up (by omega)) V)
theorem rts_abs (s : Int) (a : Rat) (t : Int) (b : Rat) (hs : s = 1 ∨ s = -1) (ht : t = 1 ∨ t = -1) : Sg.rts s a t b = -1 ∨ Sg.rts s a t b = 0 ∨ Sg.rts s a t b = 1 := by
  unfold Sg.rts
  rcases sgq_abs a with e | e | e <;> rcases sgq_abs b with f | f | f <;> rcases sgq_abs (a - b) with g | g | g <;> rw [e, f, g] <;> rcases hs with rfl | rfl <;> rcases ht with rfl | rfl <;> decide
theorem whole_q {n : Int} (h : n.natAbs ≤ 255) : ∃ b m, Rq (n : Rat) b m ⟨#[]⟩ ∧ ∀ V, Calls Tryz.prog 21 #[.int .i64 n] V (RetB V (.agg #[.bool b, .string m, .bool false, .string ⟨#[]⟩])) := by
  obtain ⟨b, m, k, hq⟩ := Rq.some_ (n : Rat)
  obtain rfl := hq.den1 (Rat.den_intCast n)
  exact ⟨b, m, hq, fun V => whole_f (by have h1 := hq.num; rw [Rat.num_intCast] at h1; exact h1) (by omega) (by omega) V⟩
theorem fcmp_f {x y : Sg.Rl} {b1 c1 s1 b2 c2 s2 : Bool} {m1 k1 n1 l1 m2 k2 n2 l2 : ByteArray} (hx : Rv x b1 m1 k1 c1 n1 l1 s1) (hy : Rv y b2 m2 k2 c2 n2 l2 s2) (okx : x.Ok) (oky : y.Ok) (zx : Rz 500 x) (zy : Rz 500 y) (w : World) : Calls Tryz.prog 37 #[.agg #[.bool b1, .string m1, .bool false, .string k1, .bool c1, .string n1, .bool false, .string l1, .bool s1], .agg #[.bool b2, .string m2, .bool false, .string k2, .bool c2, .string n2, .bool false, .string l2, .bool s2]] w (RetB w (.int .i64 (Sg.cmpX x y))) := by
  rw [← Sg.ref_prog okx oky]
  obtain ⟨b3, m3, k3, h3⟩ := Rq.some_ (x.p - y.p)
  obtain ⟨b4, m4, k4, h4⟩ := Rq.some_ ((x.p - y.p) * (x.p - y.p))
  obtain ⟨b5, m5, k5, h5⟩ := Rq.some_ (x.a + y.a)
  obtain ⟨b6, m6, k6, h6⟩ := Rq.some_ ((x.p - y.p) * (x.p - y.p) - (x.a + y.a))
  obtain ⟨b8, m8, k8, h8⟩ := Rq.some_ (x.a * y.a)
  have sx := okx.sg
  have sy := oky.sg
  obtain ⟨b7, m7, h7, HW⟩ := whole_q (n := 2 * x.s * y.s) (by rcases sx with e | e <;> rcases sy with f | f <;> rw [e, f] <;> decide)
  have z3 := zx.p.sub zy.p
  have z4 := z3.mul z3
  have z5 := zx.r.add zy.r
  have z6 := z4.sub z5
  have z8 := zx.r.mul zy.r
  have e7 : ((2 * x.s * y.s : Int) : Rat) = if x.s = y.s then 2 else -2 := by rcases sx with e | e <;> rcases sy with f | f <;> rw [e, f] <;> decide +kernel
  have hs7 : Sg.sgq ((2 * x.s * y.s : Int) : Rat) = 1 ∨ Sg.sgq ((2 * x.s * y.s : Int) : Rat) = -1 := by rcases sx with e | e <;> rcases sy with f | f <;> rw [e, f] <;> decide +kernel
  have z7 : Sz 2000 ((2 * x.s * y.s : Int) : Rat) := (Sz.whole (by rcases sx with e | e <;> rcases sy with f | f <;> rw [e, f] <;> decide)).up (by omega)
  have h := fcmp_w w sx sy (sgq_abs (x.p - y.p)) (rts_abs x.s x.a y.s y.a sx sy) (Sg.sg2_three ((x.p - y.p) * (x.p - y.p) - (x.a + y.a)) ((2 * x.s * y.s : Int) : Rat) (x.a * y.a)) (fun V _ => rsub_z hx.p hy.p h3 (zx.p.up (by omega)) (zy.p.up (by omega)) V) (fun V _ => rsign_z h3 V) (fun V _ => side_f hx sx V) (fun V _ => side_f hy sy V) (fun V _ => froots_f hx.r hy.r (ok_nn okx) (ok_nn oky) (zx.r.up (by omega)) (zy.r.up (by omega)) sx sy V)
    (fun V _ => rmul_z h3 h3 h4 (z3.up (by omega)) (z3.up (by omega)) V) (fun V _ => radd_z hx.r hy.r h5 (zx.r.up (by omega)) (zy.r.up (by omega)) V) (fun V _ => rsub_z h4 h5 h6 (z4.up (by omega)) (z5.up (by omega)) V) (fun V _ => HW V) (fun V _ => rmul_z hx.r hy.r h8 (zx.r.up (by omega)) (zy.r.up (by omega)) V)
    (fun V _ => fsigns_f h6 h7 h8 hs7 (Rat.mul_nonneg (ok_nn okx) (ok_nn oky)) (z6.up (by omega)) z7 (z8.up (by omega)) V)
  rw [e7] at h
  exact h
theorem sgn_sg2 {x : Sg.Rl} (ok : x.Ok) : Sg.sg2 x.p (x.s : Rat) x.a = Sg.cmpX x (Sg.Rl.of 0) := by
  by_cases h : x.a = 0
  · rw [h, Sg.sg2_nought, cmp_rat0 ok h, show x.p - 0 = x.p by grind]
  · rw [Sg.cmp_root (ok_pos ok h), show x.p - 0 = x.p by grind, Sg.sos_any (ok_pos ok h) ok.sg]
theorem fsgn_f {x : Sg.Rl} {b1 c1 s1 : Bool} {m1 k1 n1 l1 : ByteArray} (hx : Rv x b1 m1 k1 c1 n1 l1 s1) (ok : x.Ok) (zx : Rz 500 x) (w : World) : Calls Tryz.prog 40 #[.agg #[.bool b1, .string m1, .bool false, .string k1, .bool c1, .string n1, .bool false, .string l1, .bool s1]] w (RetB w (.int .i64 (Sg.cmpX x (Sg.Rl.of 0)))) := by
  have sx := ok.sg
  obtain ⟨b2, m2, h2, HW⟩ := whole_q (n := x.s) (by rcases sx with e | e <;> rw [e] <;> decide)
  rw [← sgn_sg2 ok]
  exact fsgn_w w (fun V _ => side_f hx sx V) (fun V _ => HW V) (fun V _ => fsigns_f hx.p h2 hx.r (by rcases sx with e | e <;> rw [e] <;> decide +kernel) (ok_nn ok) (zx.p.up (by omega)) ((Sz.whole (by rcases sx with e | e <;> rw [e] <;> decide)).up (by omega)) (zx.r.up (by omega)) V)
end Go.Proofs.YtpnokfgplnmjpaaGreatDoor


namespace Go.Proofs.YtpnokfgplnmjpaaGreatDoor
open Go.RowKit
attribute [local go_sem ↓] Go.wp_at_zero Go.wp_at_succ

theorem ok_false {x : Sg.Rl} {b1 c1 s1 : Bool} {m1 k1 n1 l1 : ByteArray} (hx : Rv x b1 m1 k1 c1 n1 l1 s1) (h : 0 < x.a) : c1 = false := by
  rw [hx.r.mag.1]
  have h1 : ¬ x.a.num < 0 := by rw [num_neg_iff]; grind
  exact decide_eq_false h1
theorem cmp_f {x y : Sg.Rl} {b1 c1 s1 b2 c2 s2 : Bool} {m1 k1 n1 l1 m2 k2 n2 l2 : ByteArray} (hx : Rv x b1 m1 k1 c1 n1 l1 s1) (hy : Rv y b2 m2 k2 c2 n2 l2 s2) (okx : x.Ok) (oky : y.Ok) (zx : Rz 500 x) (zy : Rz 500 y) (w : World) (hE : Env w) : Calls Tryz.prog 34 #[.agg #[.bool b1, .string m1, .bool false, .string k1, .bool c1, .string n1, .bool false, .string l1, .bool s1], .agg #[.bool b2, .string m2, .bool false, .string k2, .bool c2, .string n2, .bool false, .string l2, .bool s2]] w (RetB w (.int .i64 (Sg.cmpX x y))) := by
  have zx' : Rz 1500 x := ⟨zx.p.up (by omega), zx.r.up (by omega)⟩
  have zy' : Rz 1500 y := ⟨zy.p.up (by omega), zy.r.up (by omega)⟩
  by_cases hs : x.a = y.a ∧ x.s = y.s
  · rw [show Sg.cmpX x y = Sg.sgq (x.p - y.p) from by unfold Sg.cmpX; rw [if_pos hs]]
    obtain ⟨rfl, rfl, rfl⟩ := hy.r.inj (by rw [← hs.1]; exact hx.r)
    obtain rfl : s2 = s1 := by rw [hy.neg, hx.neg, hs.2]
    exact cmp_same hx.p hy.p zx'.p zy'.p w hE
  · by_cases hy0 : y.a = 0
    · have ey : y = Sg.Rl.of y.p := by
        rcases Sg.ok_cases oky with ⟨_, e⟩ | ⟨e, _⟩
        · exact Sg.Rl.ext' rfl hy0 e
        · grind
      have hx0 : ¬ x.a = 0 := fun h => by
        refine hs ⟨by rw [h, hy0], ?_⟩
        rcases Sg.ok_cases okx with ⟨_, e⟩ | ⟨e, _⟩
        · rcases Sg.ok_cases oky with ⟨_, e'⟩ | ⟨e', _⟩
          · rw [e, e']
          · grind
        · grind
      obtain ⟨rfl, rfl, rfl⟩ := hy.r.nought.1 hy0
      obtain rfl := ok_false hx (ok_pos okx hx0)
      obtain rfl : s2 = false := by rw [hy.neg, ey]; rfl
      have h := cmp_yrat hx hy okx hx0 zx' zy' w hE
      rw [← ey] at h
      exact h
    · by_cases hx0 : x.a = 0
      · have ex : x = Sg.Rl.of x.p := by
          rcases Sg.ok_cases okx with ⟨_, e⟩ | ⟨e, _⟩
          · exact Sg.Rl.ext' rfl hx0 e
          · grind
        obtain ⟨rfl, rfl, rfl⟩ := hx.r.nought.1 hx0
        obtain rfl := ok_false hy (ok_pos oky hy0)
        obtain rfl : s1 = false := by rw [hx.neg, ex]; rfl
        have h := cmp_xrat hx hy oky hy0 zx' zy' w hE
        rw [← ex, Sg.cmp_anti okx oky, Int.neg_neg] at h
        exact h
      · obtain rfl := ok_false hx (ok_pos okx hx0)
        obtain rfl := ok_false hy (ok_pos oky hy0)
        have h := cmp_irr hx hy okx oky hx0 hy0 zx zy (by
          by_cases h1 : n1 = n2
          · subst h1
            by_cases h2 : l1 = l2
            · subst h2
              refine .inr (.inr ⟨rfl, rfl, ?_⟩)
              have ha : x.a = y.a := hx.r.eq_of hy.r
              rw [hx.neg, hy.neg]
              have hn : ¬ x.s = y.s := fun e => hs ⟨ha, e⟩
              rcases okx.sg with e | e <;> rcases oky.sg with e' | e' <;> rw [e, e'] at hn ⊢ <;> first | (exact absurd rfl hn) | decide
            · exact .inr (.inl ⟨rfl, h2⟩)
          · exact .inl h1) w hE
        rw [show Sg.cmpX x y = Sg.cmpP (x.p - y.p) x.s x.a y.s y.a from by unfold Sg.cmpX; rw [if_neg hs, if_neg hy0, if_neg hx0]]
        exact h

end Go.Proofs.YtpnokfgplnmjpaaGreatDoor


namespace Go.Proofs.YtpnokfgplnmjpaaGreatDoor
open Go.RowKit
theorem Sb.init3 {w W : World} {l l2 l3 l4 : List (Nat × Array Value × TypeId)} {rs : List (Option Addr × Nat × Nat × Nat)} (h : Sb w (((l ++ l2) ++ l3) ++ l4) rs W) : Sb w l [] W := h.init.init.init
theorem wkE {p : Prop} (h : p := by
  go_wp2_with (first
    | exact Z1.out | exact Z2.out | exact Z3.out | exact Z4.out | exact Z5.out | exact Z6.out
    | ((first | (((with_reducible refine (show Calls _ _ _ _ _ from ?_)); first | (with_reducible refine (C1.out _ X.out.bel).mono ?_) | (with_reducible refine (C2.out _ X.out.bel).mono ?_) | (with_reducible refine (C3.out _ X.out.bel).mono ?_) | (with_reducible refine (C4.out _ X.out.bel).mono ?_) | (with_reducible refine (C5.out _ X.out.bel).mono ?_) | (with_reducible refine (C6.out _ X.out.bel).mono ?_) | (with_reducible refine (C7.out _ X.out.bel).mono ?_) | (with_reducible refine (C8.out _ X.out.bel).mono ?_) | (with_reducible refine (C9.out _ X.out.bel).mono ?_) | (with_reducible refine (C10.out _ X.out.bel).mono ?_) | (with_reducible refine (C11.out _ X.out.bel).mono ?_) | (with_reducible refine (C12.out _ X.out.bel).mono ?_) | (with_reducible refine (C13.out _ X.out.bel).mono ?_) | (with_reducible refine (C14.out _ X.out.bel).mono ?_) | (with_reducible refine (C15.out _ X.out.bel).mono ?_) | (with_reducible refine (C16.out _ X.out.bel).mono ?_) | (with_reducible refine (C1.out _ X.out.bel (by first | assumption | omega)).mono ?_) | (with_reducible refine (C2.out _ X.out.bel (by first | assumption | omega)).mono ?_) | (with_reducible refine (C3.out _ X.out.bel (by first | assumption | omega)).mono ?_) | (with_reducible refine (C4.out _ X.out.bel (by first | assumption | omega)).mono ?_) | (with_reducible refine (C5.out _ X.out.bel (by first | assumption | omega)).mono ?_) | (with_reducible refine (C6.out _ X.out.bel (by first | assumption | omega)).mono ?_) | (with_reducible refine (C7.out _ X.out.bel (by first | assumption | omega)).mono ?_) | (with_reducible refine (C8.out _ X.out.bel (by first | assumption | omega)).mono ?_) | (with_reducible refine (C9.out _ X.out.bel (by first | assumption | omega)).mono ?_) | (with_reducible refine (C10.out _ X.out.bel (by first | assumption | omega)).mono ?_) | (with_reducible refine (C11.out _ X.out.bel (by first | assumption | omega)).mono ?_) | (with_reducible refine (C12.out _ X.out.bel (by first | assumption | omega)).mono ?_) | (with_reducible refine (C13.out _ X.out.bel (by first | assumption | omega)).mono ?_) | (with_reducible refine (C14.out _ X.out.bel (by first | assumption | omega)).mono ?_) | (with_reducible refine (C15.out _ X.out.bel (by first | assumption | omega)).mono ?_) | (with_reducible refine (C16.out _ X.out.bel (by first | assumption | omega)).mono ?_)); rintro e u ⟨rfl, hb9⟩; have X0 := X.out.next hb9; clear hb9) | (with_reducible refine an X.out (fun V X0 => ?_)) | (with_reducible refine sf2 X.out (by repeat (with_reducible first | exact At.here | exact At.last | apply At.there | apply At.left)) (fun V X0 => ?_)) | (with_reducible refine sf4 X.out (by repeat (with_reducible first | exact At.here | exact At.last | apply At.there | apply At.left)) (fun V X0 => ?_)) | (with_reducible refine sf9 X.out (by repeat (with_reducible first | exact At.here | exact At.last | apply At.there | apply At.left)) (fun V X0 => ?_)) | (with_reducible refine sf12 X.out (by repeat (with_reducible first | exact At.here | exact At.last | apply At.there | apply At.left)) (fun V X0 => ?_))); (try simp only [List.set_cons_zero, List.set_cons_succ, List.cons_append, List.nil_append, List.length_cons, List.length_nil] at X0); replace X := Lib.hid X0; clear X0; replace F := X.out.facts; simp only [Facts, cellsAt, List.take_succ_cons, List.take_zero, Nat.reduceAdd, and_true, List.set_cons_succ, List.set_cons_zero, List.cons_append, List.nil_append] at F)
    | exact U1.out | exact U2.out | exact U3.out | exact U4.out | exact U5.out | exact U6.out
    | (with_reducible refine late_in X.out rfl ?_ ?_
       kernel_rfl
       intro V X0
       replace X := Lib.hid X0
       clear X0 F
       repeat' (first
         | ((first
           | refine tkF (oi := ⟨some _, _, _, _, _, _⟩) rfl rfl (by kernel_rfl) (fun _ _ _ h => h) (Or.inl ⟨by rfl, by intro w' _; first | (go_simp; done) | (go_simp; with_reducible rfl)⟩) ?_
           | refine tkN (oi := ⟨some _, _, _, _, _, _⟩) rfl rfl (by decide +kernel) (fun _ _ _ h => h) (by first | exact X.out.bare | exact X.out.init | exact X.out.init2 | exact X.out.init3) (Or.inl ⟨by rfl, by intro w' hSw; have F := hSw.facts; simp only [Facts, cellsAt, List.take_succ_cons, List.take_zero, Nat.reduceAdd, and_true, List.set_cons_succ, List.set_cons_zero, List.cons_append, List.nil_append] at F; first | (go_simp; done) | (go_simp; with_reducible rfl)⟩) ?_
           | refine tkG (oi := ⟨_, _, _, _, _, _⟩) rfl rfl (by kernel_rfl) (fun _ _ _ h => h) (by rfl) ?_)
            (try simp only [Act.put, seti, set0, setS]))
         | ((first | refine one (o := ⟨_, _, _, _, _, _⟩) rfl rfl (by kernel_rfl) (fun K hK => ?_) | refine two (o := ⟨_, _, _, _, _, _⟩) (o' := ⟨_, _, _, _, _, _⟩) rfl rfl rfl (by kernel_rfl) (fun K hK => ?_) (fun K hK => ?_) | refine three (o := ⟨_, _, _, _, _, _⟩) (o' := ⟨_, _, _, _, _, _⟩) (o'' := ⟨_, _, _, _, _, _⟩) rfl rfl rfl rfl (by kernel_rfl) (fun K hK => ?_) (fun K hK => ?_) (fun K hK => ?_) | refine four (o := ⟨_, _, _, _, _, _⟩) (o1 := ⟨_, _, _, _, _, _⟩) (o2 := ⟨_, _, _, _, _, _⟩) (o3 := ⟨_, _, _, _, _, _⟩) rfl rfl rfl rfl rfl (by kernel_rfl) (fun K hK => ?_) (fun K hK => ?_) (fun K hK => ?_) (fun K hK => ?_))
            all_goals (have F := X.out.facts; simp only [Facts, cellsAt, List.take_succ_cons, List.take_zero, Nat.reduceAdd, and_true, List.set_cons_succ, List.set_cons_zero, List.cons_append, List.nil_append] at F; go_simp; clear F; first
              | exact Y1.out | exact Y2.out
              | (((with_reducible refine (show Calls _ _ _ _ _ from ?_)); first | (with_reducible refine (C1.out _ X.out.bel).mono ?_) | (with_reducible refine (C2.out _ X.out.bel).mono ?_) | (with_reducible refine (C3.out _ X.out.bel).mono ?_) | (with_reducible refine (C4.out _ X.out.bel).mono ?_) | (with_reducible refine (C5.out _ X.out.bel).mono ?_) | (with_reducible refine (C6.out _ X.out.bel).mono ?_) | (with_reducible refine (C7.out _ X.out.bel).mono ?_) | (with_reducible refine (C8.out _ X.out.bel).mono ?_) | (with_reducible refine (C9.out _ X.out.bel).mono ?_) | (with_reducible refine (C10.out _ X.out.bel).mono ?_) | (with_reducible refine (C11.out _ X.out.bel).mono ?_) | (with_reducible refine (C12.out _ X.out.bel).mono ?_) | (with_reducible refine (C13.out _ X.out.bel).mono ?_) | (with_reducible refine (C14.out _ X.out.bel).mono ?_) | (with_reducible refine (C15.out _ X.out.bel).mono ?_) | (with_reducible refine (C16.out _ X.out.bel).mono ?_) | (with_reducible refine (C1.out _ X.out.bel (by first | assumption | omega)).mono ?_) | (with_reducible refine (C2.out _ X.out.bel (by first | assumption | omega)).mono ?_) | (with_reducible refine (C3.out _ X.out.bel (by first | assumption | omega)).mono ?_) | (with_reducible refine (C4.out _ X.out.bel (by first | assumption | omega)).mono ?_) | (with_reducible refine (C5.out _ X.out.bel (by first | assumption | omega)).mono ?_) | (with_reducible refine (C6.out _ X.out.bel (by first | assumption | omega)).mono ?_) | (with_reducible refine (C7.out _ X.out.bel (by first | assumption | omega)).mono ?_) | (with_reducible refine (C8.out _ X.out.bel (by first | assumption | omega)).mono ?_) | (with_reducible refine (C9.out _ X.out.bel (by first | assumption | omega)).mono ?_) | (with_reducible refine (C10.out _ X.out.bel (by first | assumption | omega)).mono ?_) | (with_reducible refine (C11.out _ X.out.bel (by first | assumption | omega)).mono ?_) | (with_reducible refine (C12.out _ X.out.bel (by first | assumption | omega)).mono ?_) | (with_reducible refine (C13.out _ X.out.bel (by first | assumption | omega)).mono ?_) | (with_reducible refine (C14.out _ X.out.bel (by first | assumption | omega)).mono ?_) | (with_reducible refine (C15.out _ X.out.bel (by first | assumption | omega)).mono ?_) | (with_reducible refine (C16.out _ X.out.bel (by first | assumption | omega)).mono ?_)); rintro e u ⟨rfl, hb9⟩; (try go_wp2_with fail); refine kx hK (X.out.next hb9) ?_ ?_; (intro V X; first | exact Or.inr fun _ => X.bare | exact Or.inr fun _ => X.init | exact Or.inl (by decide) | exact Or.inr fun _ => X.init2 | exact Or.inr fun _ => X.init3); intro V X0; clear hb9)
              | ((with_reducible refine ka hK X.out ?_ ?_); (intro V X; first | exact Or.inr fun _ => X.bare | exact Or.inr fun _ => X.init | exact Or.inl (by decide) | exact Or.inr fun _ => X.init2 | exact Or.inr fun _ => X.init3); intro V X0)
              | ((with_reducible refine kf2 hK X.out (by repeat (with_reducible first | exact At.here | exact At.last | apply At.there | apply At.left)) ?_ ?_); (intro V X; exact Or.inl (by decide)); intro V X0; (try simp only [List.set_cons_zero, List.set_cons_succ, List.cons_append, List.nil_append, List.length_cons, List.length_nil] at X0))
              | ((with_reducible refine kf4 hK X.out (by repeat (with_reducible first | exact At.here | exact At.last | apply At.there | apply At.left)) ?_ ?_); (intro V X; exact Or.inl (by decide)); intro V X0; (try simp only [List.set_cons_zero, List.set_cons_succ, List.cons_append, List.nil_append, List.length_cons, List.length_nil] at X0))
              | ((with_reducible refine kf9 hK X.out (by repeat (with_reducible first | exact At.here | exact At.last | apply At.there | apply At.left)) ?_ ?_); (intro V X; exact Or.inl (by decide)); intro V X0; (try simp only [List.set_cons_zero, List.set_cons_succ, List.cons_append, List.nil_append, List.length_cons, List.length_nil] at X0))
              | ((with_reducible refine kf12 hK X.out (by repeat (with_reducible first | exact At.here | exact At.last | apply At.there | apply At.left)) ?_ ?_); (intro V X; exact Or.inl (by decide)); intro V X0; (try simp only [List.set_cons_zero, List.set_cons_succ, List.cons_append, List.nil_append, List.length_cons, List.length_nil] at X0))
              | ((with_reducible refine hK.out _ _ (Or.inr fun h => h) ?_); have X0 := X.out)
              | ((with_reducible refine kx hK X.out ?_ ?_); (intro V X; first | exact Or.inr fun _ => X.bare | exact Or.inr fun _ => X.init | exact Or.inl (by decide) | exact Or.inr fun _ => X.init2 | exact Or.inr fun _ => X.init3); intro V X0))
            all_goals (clear hK K; replace X := Lib.hid X0; clear X0; (try simp only [Act.put, seti, set0, setS])))
         | refine done rfl (by kernel_rfl) ?_ _)
       all_goals (have F := X.out.facts; simp only [Facts, cellsAt, List.take_succ_cons, List.take_zero, Nat.reduceAdd, and_true, List.set_cons_succ, List.set_cons_zero, List.cons_append, List.nil_append] at F))
    | ((with_reducible refine (show Met _ _ _ from ?_)); go_meet; subst hLL; first | exact ⟨_, rfl, X.out⟩ | exact ⟨_, _, rfl, rfl, X.out⟩ | exact M1.out)
    | ((with_reducible refine (show bodyPost _ _ _ _ _ _ from ?_)); first | exact E1.out | exact E2.out | exact E3.out | exact E4.out | (go_ret; exact ⟨rfl, X.out.bel⟩) | (go_ret; refine ⟨?_, X.out.bel⟩; first | (rw [P1.out (by assumption) (by assumption) (by assumption)]; rfl; done) | (rw [P1.out (by assumption) (by assumption)]; rfl; done) | (rw [P1.out (by assumption)]; rfl; done) | (rw [P2.out (by assumption) (by assumption) (by assumption)]; rfl; done) | (rw [P2.out (by assumption) (by assumption)]; rfl; done) | (rw [P2.out (by assumption)]; rfl; done) | (rw [P3.out (by assumption) (by assumption) (by assumption)]; rfl; done) | (rw [P3.out (by assumption) (by assumption)]; rfl; done) | (rw [P3.out (by assumption)]; rfl; done) | (rw [P4.out (by assumption) (by assumption) (by assumption)]; rfl; done) | (rw [P4.out (by assumption) (by assumption)]; rfl; done) | (rw [P4.out (by assumption)]; rfl; done)) | exact bodyPost_ret (by simp [results, RS.out, go_sem, F]) rfl ⟨rfl, X.out.bel⟩))) : p := h
theorem wkE0 {p : Prop} (h : p := by
  go_upto_region 1 with fail
  first | (with_reducible refine gs6 (M := fun W => Code.wp _ _ _ _ W) (fun V X0 => ?_)) | (with_reducible refine gs5 (M := fun W => Code.wp _ _ _ _ W) (fun V X0 => ?_)) | (with_reducible refine gs4 (M := fun W => Code.wp _ _ _ _ W) (fun V X0 => ?_)) | (with_reducible refine gs3 (M := fun W => Code.wp _ _ _ _ W) (fun V X0 => ?_)) | (with_reducible refine gs2 (M := fun W => Code.wp _ _ _ _ W) (fun V X0 => ?_)) | (with_reducible refine gs1 (M := fun W => Code.wp _ _ _ _ W) (fun V X0 => ?_)) | (with_reducible refine gs0 (M := fun W => Code.wp _ _ _ _ W) (fun V X0 => ?_))
  have X := Lib.hid X0
  clear X0
  have F := X.out.facts
  simp only [Facts, cellsAt, List.take_succ_cons, List.take_zero, Nat.reduceAdd, and_true, List.set_cons_succ, List.set_cons_zero, List.cons_append, List.nil_append] at F
  exact wkE) : p := h
theorem wkEc {p : Prop} (h : p := by
  (try ((first | obtain ⟨g, g', g'', rfl, rfl, rfl, hX⟩ := hcut | obtain ⟨g, g', rfl, rfl, hX⟩ := hcut | obtain ⟨g, rfl, hX⟩ := hcut); subst hLL; (try simp only [List.cons_append, List.nil_append] at hX); replace X := Lib.hid hX; clear hX; replace F := X.out.facts; simp only [Facts, cellsAt, List.take_succ_cons, List.take_zero, Nat.reduceAdd, and_true, List.set_cons_succ, List.set_cons_zero, List.cons_append, List.nil_append] at F))
  exact wkE) : p := h
end Go.Proofs.YtpnokfgplnmjpaaGreatDoor


namespace Go.Proofs.YtpnokfgplnmjpaaGreatDoor
open Go.RowKit
attribute [local go_sem ↓] Go.wp_at_zero Go.wp_at_succ

set_option maxHeartbeats 8000000 in
set_option maxRecDepth 100000 in
theorem compares_no1 (w : World) {b1 d1 c1 e1 s1 : Bool} {m1 k1 n1 l1 : ByteArray} {b2 d2 c2 e2 s2 : Bool} {m2 k2 n2 l2 : ByteArray} (HK : ∀ V, Below w.heap.size w V → Calls Tryz.prog 15 #[] V (RetB V (.bool true))) (HS1 : ∀ V, Below w.heap.size w V → Calls Tryz.prog 22 #[.agg #[.bool b1, .string m1, .bool d1, .string k1, .bool c1, .string n1, .bool e1, .string l1, .bool s1]] V (RetB V (.bool false))) :
    Calls Tryz.prog 7 #[.agg #[.bool b1, .string m1, .bool d1, .string k1, .bool c1, .string n1, .bool e1, .string l1, .bool s1], .agg #[.bool b2, .string m2, .bool d2, .string k2, .bool c2, .string n2, .bool e2, .string l2, .bool s2]] w (RetB w (.bool true)) := by
  have C1 := Lib.hid HK
  have C2 := Lib.hid HS1
  clear HK HS1 
  go_enter Tryz.func7, Tryz.ntmps7
  exact wk0

set_option maxHeartbeats 8000000 in
set_option maxRecDepth 100000 in
theorem compares_no2 (w : World) {b1 d1 c1 e1 s1 : Bool} {m1 k1 n1 l1 : ByteArray} {b2 d2 c2 e2 s2 : Bool} {m2 k2 n2 l2 : ByteArray} (HK : ∀ V, Below w.heap.size w V → Calls Tryz.prog 15 #[] V (RetB V (.bool true))) (HS1 : ∀ V, Below w.heap.size w V → Calls Tryz.prog 22 #[.agg #[.bool b1, .string m1, .bool d1, .string k1, .bool c1, .string n1, .bool e1, .string l1, .bool s1]] V (RetB V (.bool true))) (HS2 : ∀ V, Below w.heap.size w V → Calls Tryz.prog 22 #[.agg #[.bool b2, .string m2, .bool d2, .string k2, .bool c2, .string n2, .bool e2, .string l2, .bool s2]] V (RetB V (.bool false))) :
    Calls Tryz.prog 7 #[.agg #[.bool b1, .string m1, .bool d1, .string k1, .bool c1, .string n1, .bool e1, .string l1, .bool s1], .agg #[.bool b2, .string m2, .bool d2, .string k2, .bool c2, .string n2, .bool e2, .string l2, .bool s2]] w (RetB w (.bool true)) := by
  have C1 := Lib.hid HK
  have C2 := Lib.hid HS1
  have C3 := Lib.hid HS2
  clear HK HS1 HS2 
  go_enter Tryz.func7, Tryz.ntmps7
  exact wk0

set_option maxHeartbeats 8000000 in
set_option maxRecDepth 100000 in
theorem compares_leeq (w : World) {b1 c1 s1 : Bool} {m1 k1 n1 l1 : ByteArray} {e f : Int} (HK : ∀ V, Below w.heap.size w V → Calls Tryz.prog 15 #[] V (RetB V (.bool true))) (HS1 : ∀ V, Below w.heap.size w V → Calls Tryz.prog 22 #[.agg #[.bool b1, .string m1, .bool false, .string k1, .bool c1, .string n1, .bool false, .string l1, .bool s1]] V (RetB V (.bool true))) (HC : ∀ V, Below w.heap.size w V → Calls Tryz.prog 37 #[.agg #[.bool b1, .string m1, .bool false, .string k1, .bool c1, .string n1, .bool false, .string l1, .bool s1], .agg #[.bool b1, .string m1, .bool false, .string k1, .bool c1, .string n1, .bool false, .string l1, .bool s1]] V (RetB V (.int .i64 (0)))) (HP : ∀ V, Below w.heap.size w V → Calls Tryz.prog 34 #[.agg #[.bool b1, .string m1, .bool false, .string k1, .bool c1, .string n1, .bool false, .string l1, .bool s1], .agg #[.bool b1, .string m1, .bool false, .string k1, .bool c1, .string n1, .bool false, .string l1, .bool s1]] V (RetB V (.int .i64 (0)))) (HQ : ∀ V, Below w.heap.size w V → Calls Tryz.prog 38 #[.agg #[.bool b1, .string m1, .bool false, .string k1, .bool c1, .string n1, .bool false, .string l1, .bool s1], .agg #[.bool b1, .string m1, .bool false, .string k1]] V (RetB V (.int .i64 (e)))) (HO : ∀ V, Below w.heap.size w V → Calls Tryz.prog 20 #[.agg #[.bool b1, .string m1, .bool false, .string k1]] V (RetB V (.agg #[.bool b1, .string m1, .bool false, .string k1, .bool false, .string ⟨#[]⟩, .bool false, .string ⟨#[]⟩, .bool false]))) (HR : ∀ V, Below w.heap.size w V → Calls Tryz.prog 37 #[.agg #[.bool b1, .string m1, .bool false, .string k1, .bool c1, .string n1, .bool false, .string l1, .bool s1], .agg #[.bool b1, .string m1, .bool false, .string k1, .bool false, .string ⟨#[]⟩, .bool false, .string ⟨#[]⟩, .bool false]] V (RetB V (.int .i64 (e)))) (HG : ∀ V, Below w.heap.size w V → Calls Tryz.prog 39 #[.agg #[.bool b1, .string m1, .bool false, .string k1, .bool c1, .string n1, .bool false, .string l1, .bool s1]] V (RetB V (.int .i64 (f)))) (HF : ∀ V, Below w.heap.size w V → Calls Tryz.prog 40 #[.agg #[.bool b1, .string m1, .bool false, .string k1, .bool c1, .string n1, .bool false, .string l1, .bool s1]] V (RetB V (.int .i64 (f)))) (HMi : ∀ V, Below w.heap.size w V → Calls Tryz.prog 41 #[.agg #[.bool b1, .string m1, .bool false, .string k1, .bool c1, .string n1, .bool false, .string l1, .bool s1], .agg #[.bool b1, .string m1, .bool false, .string k1, .bool c1, .string n1, .bool false, .string l1, .bool s1]] V (RetB V (.agg #[.bool b1, .string m1, .bool false, .string k1, .bool c1, .string n1, .bool false, .string l1, .bool s1]))) (HMa : ∀ V, Below w.heap.size w V → Calls Tryz.prog 42 #[.agg #[.bool b1, .string m1, .bool false, .string k1, .bool c1, .string n1, .bool false, .string l1, .bool s1], .agg #[.bool b1, .string m1, .bool false, .string k1, .bool c1, .string n1, .bool false, .string l1, .bool s1]] V (RetB V (.agg #[.bool b1, .string m1, .bool false, .string k1, .bool c1, .string n1, .bool false, .string l1, .bool s1]))) :
    Calls Tryz.prog 7 #[.agg #[.bool b1, .string m1, .bool false, .string k1, .bool c1, .string n1, .bool false, .string l1, .bool s1], .agg #[.bool b1, .string m1, .bool false, .string k1, .bool c1, .string n1, .bool false, .string l1, .bool s1]] w (RetB w (.bool true)) := by
  have C1 := Lib.hid HK
  have C2 := Lib.hid HS1
  have C3 := Lib.hid HC
  have C4 := Lib.hid HP
  have C5 := Lib.hid HQ
  have C6 := Lib.hid HO
  have C7 := Lib.hid HR
  have C8 := Lib.hid HG
  have C9 := Lib.hid HF
  have C10 := Lib.hid HMi
  have C11 := Lib.hid HMa
  have U1 : Hid (∀ {p : Prop} (h : p := by ((fail_if_success (go_not_at_region 4)); (fail_if_success (have := hLL)); obtain ⟨LL, hLL⟩ := lexi X.out; go_cut [6, 7] (fun slot0 slot1 wx => ∃ g0 g1, slot0 = .pointer (some ⟨g0, 0, none⟩) ∧ slot1 = .pointer (some ⟨g1, 0, none⟩) ∧ Sb w (LL ++ [(g0, #[.bool b1, .string m1, .bool false, .string k1, .bool c1, .string n1, .bool false, .string l1, .bool s1], 27), (g1, #[.bool b1, .string m1, .bool false, .string k1, .bool c1, .string n1, .bool false, .string l1, .bool s1], 27)]) [] wx); all_goals exact wkEc)), p) := @fun _ h => h
  have M1 : Hid (∀ {p : Prop} (h : p := by first | exact ⟨_, _, rfl, rfl, X.out.pick [0, 1, 2, 3] _ [] rfl (by decide) (by simp)⟩ | exact ⟨_, _, rfl, rfl, X.out.pick [0, 1, 3, 2] _ [] rfl (by decide) (by simp)⟩), p) := @fun _ h => h
  clear HK HS1 HC HP HQ HO HR HG HF HMi HMa 
  go_enter Tryz.func7, Tryz.ntmps7
  exact wkE0

set_option maxHeartbeats 8000000 in
set_option maxRecDepth 100000 in
theorem compares_lelt (w : World) {b1 c1 s1 : Bool} {m1 k1 n1 l1 : ByteArray} {b2 c2 s2 : Bool} {m2 k2 n2 l2 : ByteArray} {e f : Int} (HK : ∀ V, Below w.heap.size w V → Calls Tryz.prog 15 #[] V (RetB V (.bool true))) (HS1 : ∀ V, Below w.heap.size w V → Calls Tryz.prog 22 #[.agg #[.bool b1, .string m1, .bool false, .string k1, .bool c1, .string n1, .bool false, .string l1, .bool s1]] V (RetB V (.bool true))) (HS2 : ∀ V, Below w.heap.size w V → Calls Tryz.prog 22 #[.agg #[.bool b2, .string m2, .bool false, .string k2, .bool c2, .string n2, .bool false, .string l2, .bool s2]] V (RetB V (.bool true))) (HC : ∀ V, Below w.heap.size w V → Calls Tryz.prog 37 #[.agg #[.bool b1, .string m1, .bool false, .string k1, .bool c1, .string n1, .bool false, .string l1, .bool s1], .agg #[.bool b2, .string m2, .bool false, .string k2, .bool c2, .string n2, .bool false, .string l2, .bool s2]] V (RetB V (.int .i64 (-1)))) (HP : ∀ V, Below w.heap.size w V → Calls Tryz.prog 34 #[.agg #[.bool b1, .string m1, .bool false, .string k1, .bool c1, .string n1, .bool false, .string l1, .bool s1], .agg #[.bool b2, .string m2, .bool false, .string k2, .bool c2, .string n2, .bool false, .string l2, .bool s2]] V (RetB V (.int .i64 (-1)))) (HQ : ∀ V, Below w.heap.size w V → Calls Tryz.prog 38 #[.agg #[.bool b1, .string m1, .bool false, .string k1, .bool c1, .string n1, .bool false, .string l1, .bool s1], .agg #[.bool b2, .string m2, .bool false, .string k2]] V (RetB V (.int .i64 (e)))) (HO : ∀ V, Below w.heap.size w V → Calls Tryz.prog 20 #[.agg #[.bool b2, .string m2, .bool false, .string k2]] V (RetB V (.agg #[.bool b2, .string m2, .bool false, .string k2, .bool false, .string ⟨#[]⟩, .bool false, .string ⟨#[]⟩, .bool false]))) (HR : ∀ V, Below w.heap.size w V → Calls Tryz.prog 37 #[.agg #[.bool b1, .string m1, .bool false, .string k1, .bool c1, .string n1, .bool false, .string l1, .bool s1], .agg #[.bool b2, .string m2, .bool false, .string k2, .bool false, .string ⟨#[]⟩, .bool false, .string ⟨#[]⟩, .bool false]] V (RetB V (.int .i64 (e)))) (HG : ∀ V, Below w.heap.size w V → Calls Tryz.prog 39 #[.agg #[.bool b1, .string m1, .bool false, .string k1, .bool c1, .string n1, .bool false, .string l1, .bool s1]] V (RetB V (.int .i64 (f)))) (HF : ∀ V, Below w.heap.size w V → Calls Tryz.prog 40 #[.agg #[.bool b1, .string m1, .bool false, .string k1, .bool c1, .string n1, .bool false, .string l1, .bool s1]] V (RetB V (.int .i64 (f)))) (HMi : ∀ V, Below w.heap.size w V → Calls Tryz.prog 41 #[.agg #[.bool b1, .string m1, .bool false, .string k1, .bool c1, .string n1, .bool false, .string l1, .bool s1], .agg #[.bool b2, .string m2, .bool false, .string k2, .bool c2, .string n2, .bool false, .string l2, .bool s2]] V (RetB V (.agg #[.bool b1, .string m1, .bool false, .string k1, .bool c1, .string n1, .bool false, .string l1, .bool s1]))) (HMa : ∀ V, Below w.heap.size w V → Calls Tryz.prog 42 #[.agg #[.bool b1, .string m1, .bool false, .string k1, .bool c1, .string n1, .bool false, .string l1, .bool s1], .agg #[.bool b2, .string m2, .bool false, .string k2, .bool c2, .string n2, .bool false, .string l2, .bool s2]] V (RetB V (.agg #[.bool b2, .string m2, .bool false, .string k2, .bool c2, .string n2, .bool false, .string l2, .bool s2]))) :
    Calls Tryz.prog 7 #[.agg #[.bool b1, .string m1, .bool false, .string k1, .bool c1, .string n1, .bool false, .string l1, .bool s1], .agg #[.bool b2, .string m2, .bool false, .string k2, .bool c2, .string n2, .bool false, .string l2, .bool s2]] w (RetB w (.bool true)) := by
  have C1 := Lib.hid HK
  have C2 := Lib.hid HS1
  have C3 := Lib.hid HS2
  have C4 := Lib.hid HC
  have C5 := Lib.hid HP
  have C6 := Lib.hid HQ
  have C7 := Lib.hid HO
  have C8 := Lib.hid HR
  have C9 := Lib.hid HG
  have C10 := Lib.hid HF
  have C11 := Lib.hid HMi
  have C12 := Lib.hid HMa
  have U1 : Hid (∀ {p : Prop} (h : p := by ((fail_if_success (go_not_at_region 4)); (fail_if_success (have := hLL)); obtain ⟨LL, hLL⟩ := lexi X.out; go_cut [6, 7] (fun slot0 slot1 wx => ∃ g0 g1, slot0 = .pointer (some ⟨g0, 0, none⟩) ∧ slot1 = .pointer (some ⟨g1, 0, none⟩) ∧ Sb w (LL ++ [(g0, #[.bool b1, .string m1, .bool false, .string k1, .bool c1, .string n1, .bool false, .string l1, .bool s1], 27), (g1, #[.bool b2, .string m2, .bool false, .string k2, .bool c2, .string n2, .bool false, .string l2, .bool s2], 27)]) [] wx); all_goals exact wkEc)), p) := @fun _ h => h
  have M1 : Hid (∀ {p : Prop} (h : p := by first | exact ⟨_, _, rfl, rfl, X.out.pick [0, 1, 2, 3] _ [] rfl (by decide) (by simp)⟩ | exact ⟨_, _, rfl, rfl, X.out.pick [0, 1, 3, 2] _ [] rfl (by decide) (by simp)⟩), p) := @fun _ h => h
  clear HK HS1 HS2 HC HP HQ HO HR HG HF HMi HMa 
  go_enter Tryz.func7, Tryz.ntmps7
  exact wkE0

set_option maxHeartbeats 8000000 in
set_option maxRecDepth 100000 in
theorem compares_gt (w : World) {b1 c1 s1 : Bool} {m1 k1 n1 l1 : ByteArray} {b2 c2 s2 : Bool} {m2 k2 n2 l2 : ByteArray} {e f : Int} (HK : ∀ V, Below w.heap.size w V → Calls Tryz.prog 15 #[] V (RetB V (.bool true))) (HS1 : ∀ V, Below w.heap.size w V → Calls Tryz.prog 22 #[.agg #[.bool b1, .string m1, .bool false, .string k1, .bool c1, .string n1, .bool false, .string l1, .bool s1]] V (RetB V (.bool true))) (HS2 : ∀ V, Below w.heap.size w V → Calls Tryz.prog 22 #[.agg #[.bool b2, .string m2, .bool false, .string k2, .bool c2, .string n2, .bool false, .string l2, .bool s2]] V (RetB V (.bool true))) (HC : ∀ V, Below w.heap.size w V → Calls Tryz.prog 37 #[.agg #[.bool b1, .string m1, .bool false, .string k1, .bool c1, .string n1, .bool false, .string l1, .bool s1], .agg #[.bool b2, .string m2, .bool false, .string k2, .bool c2, .string n2, .bool false, .string l2, .bool s2]] V (RetB V (.int .i64 (1)))) (HP : ∀ V, Below w.heap.size w V → Calls Tryz.prog 34 #[.agg #[.bool b1, .string m1, .bool false, .string k1, .bool c1, .string n1, .bool false, .string l1, .bool s1], .agg #[.bool b2, .string m2, .bool false, .string k2, .bool c2, .string n2, .bool false, .string l2, .bool s2]] V (RetB V (.int .i64 (1)))) (HQ : ∀ V, Below w.heap.size w V → Calls Tryz.prog 38 #[.agg #[.bool b1, .string m1, .bool false, .string k1, .bool c1, .string n1, .bool false, .string l1, .bool s1], .agg #[.bool b2, .string m2, .bool false, .string k2]] V (RetB V (.int .i64 (e)))) (HO : ∀ V, Below w.heap.size w V → Calls Tryz.prog 20 #[.agg #[.bool b2, .string m2, .bool false, .string k2]] V (RetB V (.agg #[.bool b2, .string m2, .bool false, .string k2, .bool false, .string ⟨#[]⟩, .bool false, .string ⟨#[]⟩, .bool false]))) (HR : ∀ V, Below w.heap.size w V → Calls Tryz.prog 37 #[.agg #[.bool b1, .string m1, .bool false, .string k1, .bool c1, .string n1, .bool false, .string l1, .bool s1], .agg #[.bool b2, .string m2, .bool false, .string k2, .bool false, .string ⟨#[]⟩, .bool false, .string ⟨#[]⟩, .bool false]] V (RetB V (.int .i64 (e)))) (HG : ∀ V, Below w.heap.size w V → Calls Tryz.prog 39 #[.agg #[.bool b1, .string m1, .bool false, .string k1, .bool c1, .string n1, .bool false, .string l1, .bool s1]] V (RetB V (.int .i64 (f)))) (HF : ∀ V, Below w.heap.size w V → Calls Tryz.prog 40 #[.agg #[.bool b1, .string m1, .bool false, .string k1, .bool c1, .string n1, .bool false, .string l1, .bool s1]] V (RetB V (.int .i64 (f)))) (HMi : ∀ V, Below w.heap.size w V → Calls Tryz.prog 41 #[.agg #[.bool b1, .string m1, .bool false, .string k1, .bool c1, .string n1, .bool false, .string l1, .bool s1], .agg #[.bool b2, .string m2, .bool false, .string k2, .bool c2, .string n2, .bool false, .string l2, .bool s2]] V (RetB V (.agg #[.bool b2, .string m2, .bool false, .string k2, .bool c2, .string n2, .bool false, .string l2, .bool s2]))) (HMa : ∀ V, Below w.heap.size w V → Calls Tryz.prog 42 #[.agg #[.bool b1, .string m1, .bool false, .string k1, .bool c1, .string n1, .bool false, .string l1, .bool s1], .agg #[.bool b2, .string m2, .bool false, .string k2, .bool c2, .string n2, .bool false, .string l2, .bool s2]] V (RetB V (.agg #[.bool b1, .string m1, .bool false, .string k1, .bool c1, .string n1, .bool false, .string l1, .bool s1]))) :
    Calls Tryz.prog 7 #[.agg #[.bool b1, .string m1, .bool false, .string k1, .bool c1, .string n1, .bool false, .string l1, .bool s1], .agg #[.bool b2, .string m2, .bool false, .string k2, .bool c2, .string n2, .bool false, .string l2, .bool s2]] w (RetB w (.bool true)) := by
  have C1 := Lib.hid HK
  have C2 := Lib.hid HS1
  have C3 := Lib.hid HS2
  have C4 := Lib.hid HC
  have C5 := Lib.hid HP
  have C6 := Lib.hid HQ
  have C7 := Lib.hid HO
  have C8 := Lib.hid HR
  have C9 := Lib.hid HG
  have C10 := Lib.hid HF
  have C11 := Lib.hid HMi
  have C12 := Lib.hid HMa
  have U1 : Hid (∀ {p : Prop} (h : p := by ((fail_if_success (go_not_at_region 4)); (fail_if_success (have := hLL)); obtain ⟨LL, hLL⟩ := lexi X.out; go_cut [6, 7] (fun slot0 slot1 wx => ∃ g0 g1, slot0 = .pointer (some ⟨g0, 0, none⟩) ∧ slot1 = .pointer (some ⟨g1, 0, none⟩) ∧ Sb w (LL ++ [(g0, #[.bool b1, .string m1, .bool false, .string k1, .bool c1, .string n1, .bool false, .string l1, .bool s1], 27), (g1, #[.bool b2, .string m2, .bool false, .string k2, .bool c2, .string n2, .bool false, .string l2, .bool s2], 27)]) [] wx); all_goals exact wkEc)), p) := @fun _ h => h
  have M1 : Hid (∀ {p : Prop} (h : p := by first | exact ⟨_, _, rfl, rfl, X.out.pick [0, 1, 2, 3] _ [] rfl (by decide) (by simp)⟩ | exact ⟨_, _, rfl, rfl, X.out.pick [0, 1, 3, 2] _ [] rfl (by decide) (by simp)⟩), p) := @fun _ h => h
  have Z1 : Hid (∀ {p : Prop} (h : p := by ((with_reducible refine (show Met _ _ _ from ?_)); have h6 := hL6; go_meet; exact X.out)), p) := @fun _ h => h
  have U2 : Hid (∀ {p : Prop} (h : p := by ((fail_if_success (go_not_at_region 6)); (fail_if_success (have := hL6)); have hL6 := True.intro; go_cut [] (fun wx => Sb w [(w.heap.size, #[.bool b1, .string m1, .bool false, .string k1, .bool c1, .string n1, .bool false, .string l1, .bool s1], 27), (w.heap.size + 1, #[.bool b2, .string m2, .bool false, .string k2, .bool c2, .string n2, .bool false, .string l2, .bool s2], 27), (g, #[.bool b2, .string m2, .bool false, .string k2, .bool c2, .string n2, .bool false, .string l2, .bool s2], 27), (g', #[.bool b1, .string m1, .bool false, .string k1, .bool c1, .string n1, .bool false, .string l1, .bool s1], 27)] [] wx); all_goals (try (replace X := Lib.hid hcut; clear hcut; replace F := X.out.facts; simp only [Facts, cellsAt, List.take_succ_cons, List.take_zero, Nat.reduceAdd, and_true, List.set_cons_succ, List.set_cons_zero, List.cons_append, List.nil_append] at F)); all_goals exact wkE)), p) := @fun _ h => h
  clear HK HS1 HS2 HC HP HQ HO HR HG HF HMi HMa 
  go_enter Tryz.func7, Tryz.ntmps7
  exact wkE0

theorem compares_all (b1 : Bool) (m1 : ByteArray) (d1 : Bool) (k1 : ByteArray) (c1 : Bool) (n1 : ByteArray) (e1 : Bool) (l1 : ByteArray) (s1 : Bool) (tm1 : m1.size ≤ 140737488351232) (tk1 : k1.size ≤ 140737488351232) (tn1 : n1.size ≤ 140737488351232) (tl1 : l1.size ≤ 140737488351232) (b2 : Bool) (m2 : ByteArray) (d2 : Bool) (k2 : ByteArray) (c2 : Bool) (n2 : ByteArray) (e2 : Bool) (l2 : ByteArray) (s2 : Bool) (tm2 : m2.size ≤ 140737488351232) (tk2 : k2.size ≤ 140737488351232) (tn2 : n2.size ≤ 140737488351232) (tl2 : l2.size ≤ 140737488351232) (w : World) (hE : Env w) : Calls Tryz.prog 7 #[.agg #[.bool b1, .string m1, .bool d1, .string k1, .bool c1, .string n1, .bool e1, .string l1, .bool s1], .agg #[.bool b2, .string m2, .bool d2, .string k2, .bool c2, .string n2, .bool e2, .string l2, .bool s2]] w (RetB w (.bool true)) := by
  obtain ⟨o1, H1, P1⟩ := small_or b1 d1 c1 e1 s1 m1 k1 n1 l1 tm1 tk1 tn1 tl1
  obtain ⟨o2, H2, P2⟩ := small_or b2 d2 c2 e2 s2 m2 k2 n2 l2 tm2 tk2 tn2 tl2
  have HK := fun V (hb : Below w.heap.size w V) => rknown3 V (hE.next hb)
  cases o1
  · exact compares_no1 w HK (fun V _ => H1 V)
  cases o2
  · exact compares_no2 w HK (fun V _ => H1 V) (fun V _ => H2 V)
  obtain ⟨rfl, rfl, x, okx, hx, zx⟩ := P1 rfl
  obtain ⟨rfl, rfl, y, oky, hy, zy⟩ := P2 rfl
  have up : ∀ {x : Sg.Rl} {n : Nat}, 8 ≤ n → Rz 8 x → Rz n x := fun hn h => ⟨h.p.up hn, h.r.up hn⟩
  have HC := fun V (_ : Below w.heap.size w V) => fcmp_f hx hy okx oky (up (by omega) zx) (up (by omega) zy) V
  have HP := fun V (hb : Below w.heap.size w V) => cmp_f hx hy okx oky (up (by omega) zx) (up (by omega) zy) V (hE.next hb)
  have hy' : Rv (Sg.Rl.of y.p) b2 m2 k2 false ⟨#[]⟩ ⟨#[]⟩ false := ⟨hy.p, Rq.zero, rfl⟩
  have HQ := fun V (hb : Below w.heap.size w V) => crat_f hx okx hy.p (up (by omega) zx) (zy.p.up (by omega)) V (hE.next hb)
  have HO := fun V (_ : Below w.heap.size w V) => of_any b2 m2 k2 V
  have HR := fun V (_ : Below w.heap.size w V) => fcmp_f hx hy' okx (Sg.of_ok y.p) (up (by omega) zx) ⟨zy.p.up (by omega), (Sz.zero 0).up (by omega)⟩ V
  have HG := fun V (hb : Below w.heap.size w V) => rsgn_f hx okx (up (by omega) zx) V (hE.next hb)
  have HF := fun V (_ : Below w.heap.size w V) => fsgn_f hx okx (up (by omega) zx) V
  rcases Sg.cmp_three okx oky with e | e | e
  · rw [e] at HC HP
    exact compares_lelt w HK (fun V _ => H1 V) (fun V _ => H2 V) HC HP HQ HO HR HG HF (fun V hb => mn_le V (by decide) fun U hb' => HP U (hb.trans (hb'.mono hb.size))) (fun V hb => mx_lt V (by decide) fun U hb' => HP U (hb.trans (hb'.mono hb.size)))
  · obtain rfl := (Sg.cmp_zero okx oky).1 e
    obtain ⟨rfl, rfl, rfl⟩ := hx.p.inj hy.p
    obtain ⟨rfl, rfl, rfl⟩ := hx.r.inj hy.r
    obtain rfl : s1 = s2 := by rw [hx.neg, hy.neg]
    rw [e] at HC HP
    exact compares_leeq w HK (fun V _ => H1 V) HC HP HQ HO HR HG HF (fun V hb => mn_le V (by decide) fun U hb' => HP U (hb.trans (hb'.mono hb.size))) (fun V hb => mx_ge V (by decide) fun U hb' => HP U (hb.trans (hb'.mono hb.size)))
  · rw [e] at HC HP
    exact compares_gt w HK (fun V _ => H1 V) (fun V _ => H2 V) HC HP HQ HO HR HG HF (fun V hb => mn_gt V (by decide) fun U hb' => HP U (hb.trans (hb'.mono hb.size))) (fun V hb => mx_ge V (by decide) fun U hb' => HP U (hb.trans (hb'.mono hb.size)))
end Go.Proofs.YtpnokfgplnmjpaaGreatDoor
