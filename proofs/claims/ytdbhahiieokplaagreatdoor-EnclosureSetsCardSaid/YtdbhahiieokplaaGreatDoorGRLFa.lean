import Derived.Test.YtdbhahiieokplaaGreatDoorGRMR
import Derived.Test.YtdbhahiieokplaaGreatDoorGENQ
import Derived.Test.YtdbhahiieokplaaGreatDoorGSgQ
set_option linter.unusedSimpArgs false
set_option linter.unusedVariables false
namespace Go.Proofs.YtdbhahiieokplaaGreatDoor
open Go.RowKit
attribute [local go_sem ↓] Go.wp_at_zero Go.wp_at_succ

def mn (p q:Rat):Rat:=if p≤q then p else q
def mx (p q:Rat):Rat:=if q≤p then p else q
theorem mn_or (p q:Rat):mn p q=p∨mn p q=q:=by unfold mn;split<;>simp
theorem mx_or (p q:Rat):mx p q=p∨mx p q=q:=by unfold mx;split<;>simp
theorem mn_le1 (p q:Rat):mn p q≤p:=by unfold mn;split<;>grind
theorem mn_le2 (p q:Rat):mn p q≤q:=by unfold mn;split<;>grind
theorem mx_ge1 (p q:Rat):p≤mx p q:=by unfold mx;split<;>grind
theorem mx_ge2 (p q:Rat):q≤mx p q:=by unfold mx;split<;>grind
theorem Sz.mn {n:Nat} {p q:Rat} (hp:Sz n p) (hq:Sz n q):Sz n (mn p q):=by rcases mn_or p q with h | h<;>rw [h]<;>assumption
theorem Sz.mx {n:Nat} {p q:Rat} (hp:Sz n p) (hq:Sz n q):Sz n (mx p q):=by rcases mx_or p q with h | h<;>rw [h]<;>assumption
theorem pcmp {p q:Rat} {b1 b2:Bool} {m1 k1 m2 k2:ByteArray} (hp:Rq p b1 m1 k1) (hq:Rq q b2 m2 k2) (zp:Sz 10000 p) (zq:Sz 10000 q) (w:World) (hE:Env w):Calls Tryz.prog 71 #[.agg #[.bool b1,.string m1,.bool false,.string k1],.agg #[.bool b2,.string m2,.bool false,.string k2]] w (RetB w (.int .i64 (cmpQ p q))) :=
 ratCompare_f hp hq (zp.m hp (Nat.le_refl _)).1 (zq.m hq (Nat.le_refl _)).1 (zp.m hp (Nat.le_refl _)).2 (zq.m hq (Nat.le_refl _)).2 w hE
theorem qcmp {p q:Rat} {b1 b2:Bool} {m1 k1 m2 k2:ByteArray} (hp:Rq p b1 m1 k1) (hq:Rq q b2 m2 k2) (zp:Sz 10000 p) (zq:Sz 10000 q) (w:World):Calls Tryz.prog 15 #[.agg #[.bool b1,.string m1,.bool false,.string k1],.agg #[.bool b2,.string m2,.bool false,.string k2]] w (RetB w (.int .i64 (cmpQ p q))) :=
 rCompare_f hp hq (zp.m hp (Nat.le_refl _)).1 (zq.m hq (Nat.le_refl _)).1 (zp.m hp (Nat.le_refl _)).2 (zq.m hq (Nat.le_refl _)).2 w
theorem min_z {p q:Rat} {b1 b2 b3:Bool} {m1 k1 m2 k2 m3 k3:ByteArray} (hp:Rq p b1 m1 k1) (hq:Rq q b2 m2 k2) (hr:Rq (mn p q) b3 m3 k3) (zp:Sz 10000 p) (zq:Sz 10000 q) (w:World) (hE:Env w):Calls Tryz.prog 108 #[.agg #[.bool b1,.string m1,.bool false,.string k1],.agg #[.bool b2,.string m2,.bool false,.string k2]] w (RetB w (.agg #[.bool b3,.string m3,.bool false,.string k3])):=by
 have HC:=fun V (hV:Env V)=>pcmp hp hq zp zq V hV
 by_cases h:p≤q
 · rw [show mn p q=p from if_pos h] at hr
   obtain ⟨rfl,rfl,rfl⟩:=hp.inj hr
   exact ratMin_1 HC (cmpQ_le.2 h) w hE
 · rw [show mn p q=q from if_neg h] at hr
   obtain ⟨rfl,rfl,rfl⟩:=hq.inj hr
   exact ratMin_2 HC (by have:=mt cmpQ_le.1 h;omega) w hE
theorem max_z {p q:Rat} {b1 b2 b3:Bool} {m1 k1 m2 k2 m3 k3:ByteArray} (hp:Rq p b1 m1 k1) (hq:Rq q b2 m2 k2) (hr:Rq (mx p q) b3 m3 k3) (zp:Sz 10000 p) (zq:Sz 10000 q) (w:World) (hE:Env w):Calls Tryz.prog 107 #[.agg #[.bool b1,.string m1,.bool false,.string k1],.agg #[.bool b2,.string m2,.bool false,.string k2]] w (RetB w (.agg #[.bool b3,.string m3,.bool false,.string k3])):=by
 have HC:=fun V (hV:Env V)=>pcmp hp hq zp zq V hV
 by_cases h:q≤p
 · rw [show mx p q=p from if_pos h] at hr
   obtain ⟨rfl,rfl,rfl⟩:=hp.inj hr
   exact ratMax_1 HC (cmpQ_ge.2 h) w hE
 · rw [show mx p q=q from if_neg h] at hr
   obtain ⟨rfl,rfl,rfl⟩:=hq.inj hr
   exact ratMax_2 HC (by have:=mt cmpQ_ge.1 h;omega) w hE

set_option maxHeartbeats 8000000 in
set_option maxRecDepth 100000 in
theorem exact_any {b1:Bool} {m1 k1:ByteArray} (w:World) :
  Calls Tryz.prog 16 #[.agg #[.bool b1,.string m1,.bool false,.string k1]] w (RetB w (.agg #[.bool b1,.string m1,.bool false,.string k1,.bool b1,.string m1,.bool false,.string k1])):=by
 have RS:=Lib.hid Tryz.results16
 go_enter Tryz.func16,Tryz.ntmps16
 exact wk0

set_option maxHeartbeats 8000000 in
set_option maxRecDepth 100000 in
theorem eneg_w (w:World) {b1 b2 b3 b4:Bool} {m1 k1 m2 k2 m3 k3 m4 k4:ByteArray} (H1:∀ V,Below w.heap.size w V→Calls Tryz.prog 86 #[.agg #[.bool b2,.string m2,.bool false,.string k2]] V (RetB V (.agg #[.bool b3,.string m3,.bool false,.string k3]))) (H2:∀ V,Below w.heap.size w V→Calls Tryz.prog 86 #[.agg #[.bool b1,.string m1,.bool false,.string k1]] V (RetB V (.agg #[.bool b4,.string m4,.bool false,.string k4]))) :
  Calls Tryz.prog 36 #[.agg #[.bool b1,.string m1,.bool false,.string k1,.bool b2,.string m2,.bool false,.string k2]] w (RetB w (.agg #[.bool b3,.string m3,.bool false,.string k3,.bool b4,.string m4,.bool false,.string k4])):=by
 have C1:=Lib.hid H1
 have C2:=Lib.hid H2
 have RS:=Lib.hid Tryz.results36
 clear H1 H2 
 go_enter Tryz.func36,Tryz.ntmps36
 exact wk0

set_option maxHeartbeats 8000000 in
set_option maxRecDepth 100000 in
theorem eadd_w (w:World) {b1 b2 b3 b4 b5 b6:Bool} {m1 k1 m2 k2 m3 k3 m4 k4 m5 k5 m6 k6:ByteArray} (H1:∀ V,Below w.heap.size w V→Calls Tryz.prog 83 #[.agg #[.bool b1,.string m1,.bool false,.string k1],.agg #[.bool b3,.string m3,.bool false,.string k3]] V (RetB V (.agg #[.bool b5,.string m5,.bool false,.string k5]))) (H2:∀ V,Below w.heap.size w V→Calls Tryz.prog 83 #[.agg #[.bool b2,.string m2,.bool false,.string k2],.agg #[.bool b4,.string m4,.bool false,.string k4]] V (RetB V (.agg #[.bool b6,.string m6,.bool false,.string k6]))) :
  Calls Tryz.prog 27 #[.agg #[.bool b1,.string m1,.bool false,.string k1,.bool b2,.string m2,.bool false,.string k2],.agg #[.bool b3,.string m3,.bool false,.string k3,.bool b4,.string m4,.bool false,.string k4]] w (RetB w (.agg #[.bool b5,.string m5,.bool false,.string k5,.bool b6,.string m6,.bool false,.string k6])):=by
 have C1:=Lib.hid H1
 have C2:=Lib.hid H2
 have RS:=Lib.hid Tryz.results27
 clear H1 H2 
 go_enter Tryz.func27,Tryz.ntmps27
 exact wk0

set_option maxHeartbeats 8000000 in
set_option maxRecDepth 100000 in
theorem esub_w (w:World) {b1 b2 b3 b4 b5 b6 b7 b8:Bool} {m1 k1 m2 k2 m3 k3 m4 k4 m5 k5 m6 k6 m7 k7 m8 k8:ByteArray} (H1:∀ V,Below w.heap.size w V→Calls Tryz.prog 36 #[.agg #[.bool b3,.string m3,.bool false,.string k3,.bool b4,.string m4,.bool false,.string k4]] V (RetB V (.agg #[.bool b5,.string m5,.bool false,.string k5,.bool b6,.string m6,.bool false,.string k6]))) (H2:∀ V,Below w.heap.size w V→Calls Tryz.prog 27 #[.agg #[.bool b1,.string m1,.bool false,.string k1,.bool b2,.string m2,.bool false,.string k2],.agg #[.bool b5,.string m5,.bool false,.string k5,.bool b6,.string m6,.bool false,.string k6]] V (RetB V (.agg #[.bool b7,.string m7,.bool false,.string k7,.bool b8,.string m8,.bool false,.string k8]))) :
  Calls Tryz.prog 30 #[.agg #[.bool b1,.string m1,.bool false,.string k1,.bool b2,.string m2,.bool false,.string k2],.agg #[.bool b3,.string m3,.bool false,.string k3,.bool b4,.string m4,.bool false,.string k4]] w (RetB w (.agg #[.bool b7,.string m7,.bool false,.string k7,.bool b8,.string m8,.bool false,.string k8])):=by
 have C1:=Lib.hid H1
 have C2:=Lib.hid H2
 have RS:=Lib.hid Tryz.results30
 clear H1 H2 
 go_enter Tryz.func30,Tryz.ntmps30
 exact wk0

set_option maxHeartbeats 8000000 in
set_option maxRecDepth 100000 in
theorem ewid_w (w:World) {b1 b2 b3:Bool} {m1 k1 m2 k2 m3 k3:ByteArray} (H1:∀ V,Below w.heap.size w V→Calls Tryz.prog 81 #[.agg #[.bool b2,.string m2,.bool false,.string k2],.agg #[.bool b1,.string m1,.bool false,.string k1]] V (RetB V (.agg #[.bool b3,.string m3,.bool false,.string k3]))) :
  Calls Tryz.prog 52 #[.agg #[.bool b1,.string m1,.bool false,.string k1,.bool b2,.string m2,.bool false,.string k2]] w (RetB w (.agg #[.bool b3,.string m3,.bool false,.string k3])):=by
 have C1:=Lib.hid H1
 have RS:=Lib.hid Tryz.results52
 clear H1 
 go_enter Tryz.func52,Tryz.ntmps52
 exact wk0

set_option maxHeartbeats 8000000 in
set_option maxRecDepth 100000 in
theorem econ_no (w:World) {b1 b2 b3:Bool} {m1 k1 m2 k2 m3 k3:ByteArray} {c1:Int} (h:¬c1≤0) (H1:∀ V,Below w.heap.size w V→Calls Tryz.prog 71 #[.agg #[.bool b1,.string m1,.bool false,.string k1],.agg #[.bool b3,.string m3,.bool false,.string k3]] V (RetB V (.int .i64 (c1)))) :
  Calls Tryz.prog 42 #[.agg #[.bool b1,.string m1,.bool false,.string k1,.bool b2,.string m2,.bool false,.string k2],.agg #[.bool b3,.string m3,.bool false,.string k3]] w (RetB w (.bool false)):=by
 have C1:=Lib.hid H1
 clear H1 
 go_enter Tryz.func42,Tryz.ntmps42
 exact wk0

set_option maxHeartbeats 8000000 in
set_option maxRecDepth 100000 in
theorem econ_yes (w:World) {b1 b2 b3:Bool} {m1 k1 m2 k2 m3 k3:ByteArray} {c1 c2:Int} (h:c1≤0) (H1:∀ V,Below w.heap.size w V→Calls Tryz.prog 71 #[.agg #[.bool b1,.string m1,.bool false,.string k1],.agg #[.bool b3,.string m3,.bool false,.string k3]] V (RetB V (.int .i64 (c1)))) (H2:∀ V,Below w.heap.size w V→Calls Tryz.prog 71 #[.agg #[.bool b3,.string m3,.bool false,.string k3],.agg #[.bool b2,.string m2,.bool false,.string k2]] V (RetB V (.int .i64 (c2)))) :
  Calls Tryz.prog 42 #[.agg #[.bool b1,.string m1,.bool false,.string k1,.bool b2,.string m2,.bool false,.string k2],.agg #[.bool b3,.string m3,.bool false,.string k3]] w (RetB w (.bool (decide (c2≤0)))):=by
 have C1:=Lib.hid H1
 have C2:=Lib.hid H2
 clear H1 H2 
 go_enter Tryz.func42,Tryz.ntmps42
 exact wk0
theorem econ_f {p q x:Rat} {b1 b2 b3:Bool} {m1 k1 m2 k2 m3 k3:ByteArray} (h1:Rq p b1 m1 k1) (h2:Rq q b2 m2 k2) (h3:Rq x b3 m3 k3) (z1:Sz 10000 p) (z2:Sz 10000 q) (z3:Sz 10000 x) (w:World) (hE:Env w):Calls Tryz.prog 42 #[.agg #[.bool b1,.string m1,.bool false,.string k1,.bool b2,.string m2,.bool false,.string k2],.agg #[.bool b3,.string m3,.bool false,.string k3]] w (RetB w (.bool (decide (p≤x∧x≤q)))):=by
 by_cases h:p≤x
 · rw [show decide (p≤x∧x≤q)=decide (cmpQ x q≤0) from decide_eq_decide.2 (by rw [cmpQ_le];simp [h])]
   exact econ_yes w (cmpQ_le.2 h) (fun V hb=>pcmp h1 h3 z1 z3 V (hE.next hb)) (fun V hb=>pcmp h3 h2 z3 z2 V (hE.next hb))
 · rw [show decide (p≤x∧x≤q)=false from decide_eq_false (fun g=>h g.1)]
   exact econ_no w (mt cmpQ_le.1 h) (fun V hb=>pcmp h1 h3 z1 z3 V (hE.next hb))

set_option maxHeartbeats 8000000 in
set_option maxRecDepth 100000 in
theorem fcon_no (w:World) {b1 b2 b3:Bool} {m1 k1 m2 k2 m3 k3:ByteArray} {c1:Int} (h:¬c1≤0) (H1:∀ V,Below w.heap.size w V→Calls Tryz.prog 15 #[.agg #[.bool b1,.string m1,.bool false,.string k1],.agg #[.bool b3,.string m3,.bool false,.string k3]] V (RetB V (.int .i64 (c1)))) :
  Calls Tryz.prog 39 #[.agg #[.bool b1,.string m1,.bool false,.string k1,.bool b2,.string m2,.bool false,.string k2],.agg #[.bool b3,.string m3,.bool false,.string k3]] w (RetB w (.bool false)):=by
 have C1:=Lib.hid H1
 clear H1 
 go_enter Tryz.func39,Tryz.ntmps39
 exact wk0

set_option maxHeartbeats 8000000 in
set_option maxRecDepth 100000 in
theorem fcon_yes (w:World) {b1 b2 b3:Bool} {m1 k1 m2 k2 m3 k3:ByteArray} {c1 c2:Int} (h:c1≤0) (H1:∀ V,Below w.heap.size w V→Calls Tryz.prog 15 #[.agg #[.bool b1,.string m1,.bool false,.string k1],.agg #[.bool b3,.string m3,.bool false,.string k3]] V (RetB V (.int .i64 (c1)))) (H2:∀ V,Below w.heap.size w V→Calls Tryz.prog 15 #[.agg #[.bool b3,.string m3,.bool false,.string k3],.agg #[.bool b2,.string m2,.bool false,.string k2]] V (RetB V (.int .i64 (c2)))) :
  Calls Tryz.prog 39 #[.agg #[.bool b1,.string m1,.bool false,.string k1,.bool b2,.string m2,.bool false,.string k2],.agg #[.bool b3,.string m3,.bool false,.string k3]] w (RetB w (.bool (decide (c2≤0)))):=by
 have C1:=Lib.hid H1
 have C2:=Lib.hid H2
 clear H1 H2 
 go_enter Tryz.func39,Tryz.ntmps39
 exact wk0
theorem fcon_f {p q x:Rat} {b1 b2 b3:Bool} {m1 k1 m2 k2 m3 k3:ByteArray} (h1:Rq p b1 m1 k1) (h2:Rq q b2 m2 k2) (h3:Rq x b3 m3 k3) (z1:Sz 10000 p) (z2:Sz 10000 q) (z3:Sz 10000 x) (w:World):Calls Tryz.prog 39 #[.agg #[.bool b1,.string m1,.bool false,.string k1,.bool b2,.string m2,.bool false,.string k2],.agg #[.bool b3,.string m3,.bool false,.string k3]] w (RetB w (.bool (decide (p≤x∧x≤q)))):=by
 by_cases h:p≤x
 · rw [show decide (p≤x∧x≤q)=decide (cmpQ x q≤0) from decide_eq_decide.2 (by rw [cmpQ_le];simp [h])]
   exact fcon_yes w (cmpQ_le.2 h) (fun V _=>qcmp h1 h3 z1 z3 V) (fun V _=>qcmp h3 h2 z3 z2 V)
 · rw [show decide (p≤x∧x≤q)=false from decide_eq_false (fun g=>h g.1)]
   exact fcon_no w (mt cmpQ_le.1 h) (fun V _=>qcmp h1 h3 z1 z3 V)

set_option maxHeartbeats 8000000 in
set_option maxRecDepth 100000 in
theorem ewin_no (w:World) {b1 b2 b3 b4:Bool} {m1 k1 m2 k2 m3 k3 m4 k4:ByteArray} (H1:∀ V,Below w.heap.size w V→Calls Tryz.prog 42 #[.agg #[.bool b3,.string m3,.bool false,.string k3,.bool b4,.string m4,.bool false,.string k4],.agg #[.bool b1,.string m1,.bool false,.string k1]] V (RetB V (.bool false))) :
  Calls Tryz.prog 56 #[.agg #[.bool b1,.string m1,.bool false,.string k1,.bool b2,.string m2,.bool false,.string k2],.agg #[.bool b3,.string m3,.bool false,.string k3,.bool b4,.string m4,.bool false,.string k4]] w (RetB w (.bool false)):=by
 have C1:=Lib.hid H1
 clear H1 
 go_enter Tryz.func56,Tryz.ntmps56
 exact wk0

set_option maxHeartbeats 8000000 in
set_option maxRecDepth 100000 in
theorem ewin_yes (w:World) {b1 b2 b3 b4:Bool} {m1 k1 m2 k2 m3 k3 m4 k4:ByteArray} {o:Bool} (H1:∀ V,Below w.heap.size w V→Calls Tryz.prog 42 #[.agg #[.bool b3,.string m3,.bool false,.string k3,.bool b4,.string m4,.bool false,.string k4],.agg #[.bool b1,.string m1,.bool false,.string k1]] V (RetB V (.bool true))) (H2:∀ V,Below w.heap.size w V→Calls Tryz.prog 42 #[.agg #[.bool b3,.string m3,.bool false,.string k3,.bool b4,.string m4,.bool false,.string k4],.agg #[.bool b2,.string m2,.bool false,.string k2]] V (RetB V (.bool o))) :
  Calls Tryz.prog 56 #[.agg #[.bool b1,.string m1,.bool false,.string k1,.bool b2,.string m2,.bool false,.string k2],.agg #[.bool b3,.string m3,.bool false,.string k3,.bool b4,.string m4,.bool false,.string k4]] w (RetB w (.bool o)):=by
 have C1:=Lib.hid H1
 have C2:=Lib.hid H2
 cases o
 all_goals
  clear H1 H2 
  go_enter Tryz.func56,Tryz.ntmps56
  exact wk0

set_option maxHeartbeats 8000000 in
set_option maxRecDepth 100000 in
theorem eint_no (w:World) {b1 b2 b3 b4 b5 b6:Bool} {m1 k1 m2 k2 m3 k3 m4 k4 m5 k5 m6 k6:ByteArray} {c:Int} (h:0<c) (H1:∀ V,Below w.heap.size w V→Calls Tryz.prog 107 #[.agg #[.bool b1,.string m1,.bool false,.string k1],.agg #[.bool b3,.string m3,.bool false,.string k3]] V (RetB V (.agg #[.bool b5,.string m5,.bool false,.string k5]))) (H2:∀ V,Below w.heap.size w V→Calls Tryz.prog 108 #[.agg #[.bool b2,.string m2,.bool false,.string k2],.agg #[.bool b4,.string m4,.bool false,.string k4]] V (RetB V (.agg #[.bool b6,.string m6,.bool false,.string k6]))) (H3:∀ V,Below w.heap.size w V→Calls Tryz.prog 71 #[.agg #[.bool b5,.string m5,.bool false,.string k5],.agg #[.bool b6,.string m6,.bool false,.string k6]] V (RetB V (.int .i64 (c)))) :
  Calls Tryz.prog 55 #[.agg #[.bool b1,.string m1,.bool false,.string k1,.bool b2,.string m2,.bool false,.string k2],.agg #[.bool b3,.string m3,.bool false,.string k3,.bool b4,.string m4,.bool false,.string k4]] w (RetB w (.tuple #[.agg #[.bool false,.string ⟨#[]⟩,.bool false,.string ⟨#[]⟩,.bool false,.string ⟨#[]⟩,.bool false,.string ⟨#[]⟩],.bool false])):=by
 have C1:=Lib.hid H1
 have C2:=Lib.hid H2
 have C3:=Lib.hid H3
 have RS:=Lib.hid Tryz.results55
 clear H1 H2 H3 
 go_enter Tryz.func55,Tryz.ntmps55
 exact wk0

set_option maxHeartbeats 8000000 in
set_option maxRecDepth 100000 in
theorem eint_yes (w:World) {b1 b2 b3 b4 b5 b6:Bool} {m1 k1 m2 k2 m3 k3 m4 k4 m5 k5 m6 k6:ByteArray} {c:Int} (h:¬0<c) (H1:∀ V,Below w.heap.size w V→Calls Tryz.prog 107 #[.agg #[.bool b1,.string m1,.bool false,.string k1],.agg #[.bool b3,.string m3,.bool false,.string k3]] V (RetB V (.agg #[.bool b5,.string m5,.bool false,.string k5]))) (H2:∀ V,Below w.heap.size w V→Calls Tryz.prog 108 #[.agg #[.bool b2,.string m2,.bool false,.string k2],.agg #[.bool b4,.string m4,.bool false,.string k4]] V (RetB V (.agg #[.bool b6,.string m6,.bool false,.string k6]))) (H3:∀ V,Below w.heap.size w V→Calls Tryz.prog 71 #[.agg #[.bool b5,.string m5,.bool false,.string k5],.agg #[.bool b6,.string m6,.bool false,.string k6]] V (RetB V (.int .i64 (c)))) :
  Calls Tryz.prog 55 #[.agg #[.bool b1,.string m1,.bool false,.string k1,.bool b2,.string m2,.bool false,.string k2],.agg #[.bool b3,.string m3,.bool false,.string k3,.bool b4,.string m4,.bool false,.string k4]] w (RetB w (.tuple #[.agg #[.bool b5,.string m5,.bool false,.string k5,.bool b6,.string m6,.bool false,.string k6],.bool true])):=by
 have C1:=Lib.hid H1
 have C2:=Lib.hid H2
 have C3:=Lib.hid H3
 have RS:=Lib.hid Tryz.results55
 clear H1 H2 H3 
 go_enter Tryz.func55,Tryz.ntmps55
 exact wk0

set_option maxHeartbeats 8000000 in
set_option maxRecDepth 100000 in
theorem emid_w (w:World) {b1 b2 b3 b4 b5:Bool} {m1 k1 m2 k2 m3 k3 m4 k4 m5 k5:ByteArray} (H0:∀ V,Below w.heap.size w V→Calls Tryz.prog 109 #[.int .i64 (1),.int .i64 (2)] V (RetB V (.tuple #[.agg #[.bool b3,.string m3,.bool false,.string k3],.int .i64 0]))) (H1:∀ V,Below w.heap.size w V→Calls Tryz.prog 83 #[.agg #[.bool b1,.string m1,.bool false,.string k1],.agg #[.bool b2,.string m2,.bool false,.string k2]] V (RetB V (.agg #[.bool b4,.string m4,.bool false,.string k4]))) (H2:∀ V,Below w.heap.size w V→Calls Tryz.prog 51 #[.agg #[.bool b4,.string m4,.bool false,.string k4],.agg #[.bool b3,.string m3,.bool false,.string k3]] V (RetB V (.agg #[.bool b5,.string m5,.bool false,.string k5]))) :
  Calls Tryz.prog 57 #[.agg #[.bool b1,.string m1,.bool false,.string k1,.bool b2,.string m2,.bool false,.string k2]] w (RetB w (.agg #[.bool b5,.string m5,.bool false,.string k5])):=by
 have C1:=Lib.hid H0
 have C2:=Lib.hid H1
 have C3:=Lib.hid H2
 have RS:=Lib.hid Tryz.results57
 clear H0 H1 H2 
 go_enter Tryz.func57,Tryz.ntmps57
 exact wk0
end Go.Proofs.YtdbhahiieokplaaGreatDoor


