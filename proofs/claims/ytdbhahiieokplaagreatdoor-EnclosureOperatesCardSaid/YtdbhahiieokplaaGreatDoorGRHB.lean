import Derived.Test.YtdbhahiieokplaaGreatDoorGENE
import Derived.Test.YtdbhahiieokplaaGreatDoorGRMR
import Derived.Test.YtdbhahiieokplaaGreatDoorGRLN
import Derived.Test.YtdbhahiieokplaaGreatDoorGRGB
import Derived.Test.YtdbhahiieokplaaGreatDoorGKtD
set_option linter.unusedSimpArgs false
set_option linter.unusedVariables false

namespace Go.Proofs.YtdbhahiieokplaaGreatDoor
open Go.RowKit
attribute [local go_sem ↓] Go.wp_at_zero Go.wp_at_succ

set_option maxHeartbeats 8000000 in
set_option maxRecDepth 100000 in
theorem lst_w2 (w:World) {g:Nat} {b1 b2 b11:Bool} {m1 k1 m2 k2 m11 k11:ByteArray} {c0 c1:Int} (OLD:Hid (∀ V,Below w.heap.size w V→cellsAt V g 0 [.bool b1,.string m1,.bool false,.string k1,.bool b2,.string m2,.bool false,.string k2])) (p0:¬(c0<0)) (p1:((c1<0)∧b11=b2∧m11=m2∧k11=k2)∨(¬(c1<0)∧b11=b1∧m11=m1∧k11=k1)) (K0:∀ V,Below w.heap.size w V→Calls Tryz.prog 15 #[.agg #[.bool b1,.string m1,.bool false,.string k1],.agg #[.bool b1,.string m1,.bool false,.string k1]] V (RetB V (.int .i64 (c0)))) (K1:∀ V,Below w.heap.size w V→Calls Tryz.prog 15 #[.agg #[.bool b2,.string m2,.bool false,.string k2],.agg #[.bool b1,.string m1,.bool false,.string k1]] V (RetB V (.int .i64 (c1)))) :
  Calls Tryz.prog 129 #[.slice (some ⟨g,0,none⟩) 2 2] w (RetB w (.agg #[.bool b11,.string m11,.bool false,.string k11])):=by
 have C1:=Lib.hid K0
 have C2:=Lib.hid K1
 rcases p1 with ⟨y1,rfl,rfl,rfl⟩ | ⟨y1,rfl,rfl,rfl⟩
 all_goals
  have Z1:Hid (∀ {p:Prop} (h:p:=by ((with_reducible refine wp_loop_rounds 3 ?_);rw [rounds_succ];all_goals exact wkO)),p):=@fun _ h=>h
  have Z2:Hid (∀ {p:Prop} (h:p:=by (rw [rounds_succ];all_goals exact wkO)),p):=@fun _ h=>h
  have RS:=Lib.hid Tryz.results129
  clear K0 K1 
  go_enter Tryz.func129,Tryz.ntmps129
  exact wkO0

set_option maxHeartbeats 8000000 in
set_option maxRecDepth 100000 in
theorem lst_w3 (w:World) {g C:Nat} {b1 b2 b3 b11 b12:Bool} {m1 k1 m2 k2 m3 k3 m11 k11 m12 k12:ByteArray} {c0 c1 c2:Int} (OLD:Hid (∀ V,Below w.heap.size w V→cellsAt V g 0 [.bool b1,.string m1,.bool false,.string k1,.bool b2,.string m2,.bool false,.string k2,.bool b3,.string m3,.bool false,.string k3])) (p0:¬(c0<0)) (p1:((c1<0)∧b11=b2∧m11=m2∧k11=k2)∨(¬(c1<0)∧b11=b1∧m11=m1∧k11=k1)) (p2:((c2<0)∧b12=b3∧m12=m3∧k12=k3)∨(¬(c2<0)∧b12=b11∧m12=m11∧k12=k11)) (K0:∀ V,Below w.heap.size w V→Calls Tryz.prog 15 #[.agg #[.bool b1,.string m1,.bool false,.string k1],.agg #[.bool b1,.string m1,.bool false,.string k1]] V (RetB V (.int .i64 (c0)))) (K1:∀ V,Below w.heap.size w V→Calls Tryz.prog 15 #[.agg #[.bool b2,.string m2,.bool false,.string k2],.agg #[.bool b1,.string m1,.bool false,.string k1]] V (RetB V (.int .i64 (c1)))) (K2:∀ V,Below w.heap.size w V→Calls Tryz.prog 15 #[.agg #[.bool b3,.string m3,.bool false,.string k3],.agg #[.bool b11,.string m11,.bool false,.string k11]] V (RetB V (.int .i64 (c2)))) :
  Calls Tryz.prog 129 #[.slice (some ⟨g,0,none⟩) 3 C] w (RetB w (.agg #[.bool b12,.string m12,.bool false,.string k12])):=by
 have C1:=Lib.hid K0
 have C2:=Lib.hid K1
 have C3:=Lib.hid K2
 rcases p2 with ⟨y2,rfl,rfl,rfl⟩ | ⟨y2,rfl,rfl,rfl⟩<;>rcases p1 with ⟨y1,rfl,rfl,rfl⟩ | ⟨y1,rfl,rfl,rfl⟩
 all_goals
  have Z1:Hid (∀ {p:Prop} (h:p:=by ((with_reducible refine wp_loop_rounds 4 ?_);rw [rounds_succ];all_goals exact wkO)),p):=@fun _ h=>h
  have Z2:Hid (∀ {p:Prop} (h:p:=by (rw [rounds_succ];all_goals exact wkO)),p):=@fun _ h=>h
  have RS:=Lib.hid Tryz.results129
  clear K0 K1 K2 
  go_enter Tryz.func129,Tryz.ntmps129
  exact wkO0

set_option maxHeartbeats 8000000 in
set_option maxRecDepth 100000 in
theorem lst_w4 (w:World) {g:Nat} {b1 b2 b3 b4 b11 b12 b13:Bool} {m1 k1 m2 k2 m3 k3 m4 k4 m11 k11 m12 k12 m13 k13:ByteArray} {c0 c1 c2 c3:Int} (OLD:Hid (∀ V,Below w.heap.size w V→cellsAt V g 0 [.bool b1,.string m1,.bool false,.string k1,.bool b2,.string m2,.bool false,.string k2,.bool b3,.string m3,.bool false,.string k3,.bool b4,.string m4,.bool false,.string k4])) (p0:¬(c0<0)) (p1:((c1<0)∧b11=b2∧m11=m2∧k11=k2)∨(¬(c1<0)∧b11=b1∧m11=m1∧k11=k1)) (p2:((c2<0)∧b12=b3∧m12=m3∧k12=k3)∨(¬(c2<0)∧b12=b11∧m12=m11∧k12=k11)) (p3:((c3<0)∧b13=b4∧m13=m4∧k13=k4)∨(¬(c3<0)∧b13=b12∧m13=m12∧k13=k12)) (K0:∀ V,Below w.heap.size w V→Calls Tryz.prog 15 #[.agg #[.bool b1,.string m1,.bool false,.string k1],.agg #[.bool b1,.string m1,.bool false,.string k1]] V (RetB V (.int .i64 (c0)))) (K1:∀ V,Below w.heap.size w V→Calls Tryz.prog 15 #[.agg #[.bool b2,.string m2,.bool false,.string k2],.agg #[.bool b1,.string m1,.bool false,.string k1]] V (RetB V (.int .i64 (c1)))) (K2:∀ V,Below w.heap.size w V→Calls Tryz.prog 15 #[.agg #[.bool b3,.string m3,.bool false,.string k3],.agg #[.bool b11,.string m11,.bool false,.string k11]] V (RetB V (.int .i64 (c2)))) (K3:∀ V,Below w.heap.size w V→Calls Tryz.prog 15 #[.agg #[.bool b4,.string m4,.bool false,.string k4],.agg #[.bool b12,.string m12,.bool false,.string k12]] V (RetB V (.int .i64 (c3)))) :
  Calls Tryz.prog 129 #[.slice (some ⟨g,0,none⟩) 4 4] w (RetB w (.agg #[.bool b13,.string m13,.bool false,.string k13])):=by
 have C1:=Lib.hid K0
 have C2:=Lib.hid K1
 have C3:=Lib.hid K2
 have C4:=Lib.hid K3
 rcases p3 with ⟨y3,rfl,rfl,rfl⟩ | ⟨y3,rfl,rfl,rfl⟩<;>rcases p2 with ⟨y2,rfl,rfl,rfl⟩ | ⟨y2,rfl,rfl,rfl⟩<;>rcases p1 with ⟨y1,rfl,rfl,rfl⟩ | ⟨y1,rfl,rfl,rfl⟩
 all_goals
  have Z1:Hid (∀ {p:Prop} (h:p:=by ((with_reducible refine wp_loop_rounds 5 ?_);rw [rounds_succ];all_goals exact wkO)),p):=@fun _ h=>h
  have Z2:Hid (∀ {p:Prop} (h:p:=by (rw [rounds_succ];all_goals exact wkO)),p):=@fun _ h=>h
  have RS:=Lib.hid Tryz.results129
  clear K0 K1 K2 K3 
  go_enter Tryz.func129,Tryz.ntmps129
  exact wkO0
end Go.Proofs.YtdbhahiieokplaaGreatDoor


namespace Go.Proofs.YtdbhahiieokplaaGreatDoor
open Go.RowKit
attribute [local go_sem ↓] Go.wp_at_zero Go.wp_at_succ

set_option maxHeartbeats 8000000 in
set_option maxRecDepth 100000 in
theorem gst_w2 (w:World) {g:Nat} {b1 b2 b11:Bool} {m1 k1 m2 k2 m11 k11:ByteArray} {c0 c1:Int} (OLD:Hid (∀ V,Below w.heap.size w V→cellsAt V g 0 [.bool b1,.string m1,.bool false,.string k1,.bool b2,.string m2,.bool false,.string k2])) (p0:¬(0<c0)) (p1:((0<c1)∧b11=b2∧m11=m2∧k11=k2)∨(¬(0<c1)∧b11=b1∧m11=m1∧k11=k1)) (K0:∀ V,Below w.heap.size w V→Calls Tryz.prog 15 #[.agg #[.bool b1,.string m1,.bool false,.string k1],.agg #[.bool b1,.string m1,.bool false,.string k1]] V (RetB V (.int .i64 (c0)))) (K1:∀ V,Below w.heap.size w V→Calls Tryz.prog 15 #[.agg #[.bool b2,.string m2,.bool false,.string k2],.agg #[.bool b1,.string m1,.bool false,.string k1]] V (RetB V (.int .i64 (c1)))) :
  Calls Tryz.prog 130 #[.slice (some ⟨g,0,none⟩) 2 2] w (RetB w (.agg #[.bool b11,.string m11,.bool false,.string k11])):=by
 have C1:=Lib.hid K0
 have C2:=Lib.hid K1
 rcases p1 with ⟨y1,rfl,rfl,rfl⟩ | ⟨y1,rfl,rfl,rfl⟩
 all_goals
  have Z1:Hid (∀ {p:Prop} (h:p:=by ((with_reducible refine wp_loop_rounds 3 ?_);rw [rounds_succ];all_goals exact wkO)),p):=@fun _ h=>h
  have Z2:Hid (∀ {p:Prop} (h:p:=by (rw [rounds_succ];all_goals exact wkO)),p):=@fun _ h=>h
  have RS:=Lib.hid Tryz.results130
  clear K0 K1 
  go_enter Tryz.func130,Tryz.ntmps130
  exact wkO0

set_option maxHeartbeats 8000000 in
set_option maxRecDepth 100000 in
theorem gst_w3 (w:World) {g C:Nat} {b1 b2 b3 b11 b12:Bool} {m1 k1 m2 k2 m3 k3 m11 k11 m12 k12:ByteArray} {c0 c1 c2:Int} (OLD:Hid (∀ V,Below w.heap.size w V→cellsAt V g 0 [.bool b1,.string m1,.bool false,.string k1,.bool b2,.string m2,.bool false,.string k2,.bool b3,.string m3,.bool false,.string k3])) (p0:¬(0<c0)) (p1:((0<c1)∧b11=b2∧m11=m2∧k11=k2)∨(¬(0<c1)∧b11=b1∧m11=m1∧k11=k1)) (p2:((0<c2)∧b12=b3∧m12=m3∧k12=k3)∨(¬(0<c2)∧b12=b11∧m12=m11∧k12=k11)) (K0:∀ V,Below w.heap.size w V→Calls Tryz.prog 15 #[.agg #[.bool b1,.string m1,.bool false,.string k1],.agg #[.bool b1,.string m1,.bool false,.string k1]] V (RetB V (.int .i64 (c0)))) (K1:∀ V,Below w.heap.size w V→Calls Tryz.prog 15 #[.agg #[.bool b2,.string m2,.bool false,.string k2],.agg #[.bool b1,.string m1,.bool false,.string k1]] V (RetB V (.int .i64 (c1)))) (K2:∀ V,Below w.heap.size w V→Calls Tryz.prog 15 #[.agg #[.bool b3,.string m3,.bool false,.string k3],.agg #[.bool b11,.string m11,.bool false,.string k11]] V (RetB V (.int .i64 (c2)))) :
  Calls Tryz.prog 130 #[.slice (some ⟨g,0,none⟩) 3 C] w (RetB w (.agg #[.bool b12,.string m12,.bool false,.string k12])):=by
 have C1:=Lib.hid K0
 have C2:=Lib.hid K1
 have C3:=Lib.hid K2
 rcases p2 with ⟨y2,rfl,rfl,rfl⟩ | ⟨y2,rfl,rfl,rfl⟩<;>rcases p1 with ⟨y1,rfl,rfl,rfl⟩ | ⟨y1,rfl,rfl,rfl⟩
 all_goals
  have Z1:Hid (∀ {p:Prop} (h:p:=by ((with_reducible refine wp_loop_rounds 4 ?_);rw [rounds_succ];all_goals exact wkO)),p):=@fun _ h=>h
  have Z2:Hid (∀ {p:Prop} (h:p:=by (rw [rounds_succ];all_goals exact wkO)),p):=@fun _ h=>h
  have RS:=Lib.hid Tryz.results130
  clear K0 K1 K2 
  go_enter Tryz.func130,Tryz.ntmps130
  exact wkO0

set_option maxHeartbeats 8000000 in
set_option maxRecDepth 100000 in
theorem gst_w4 (w:World) {g:Nat} {b1 b2 b3 b4 b11 b12 b13:Bool} {m1 k1 m2 k2 m3 k3 m4 k4 m11 k11 m12 k12 m13 k13:ByteArray} {c0 c1 c2 c3:Int} (OLD:Hid (∀ V,Below w.heap.size w V→cellsAt V g 0 [.bool b1,.string m1,.bool false,.string k1,.bool b2,.string m2,.bool false,.string k2,.bool b3,.string m3,.bool false,.string k3,.bool b4,.string m4,.bool false,.string k4])) (p0:¬(0<c0)) (p1:((0<c1)∧b11=b2∧m11=m2∧k11=k2)∨(¬(0<c1)∧b11=b1∧m11=m1∧k11=k1)) (p2:((0<c2)∧b12=b3∧m12=m3∧k12=k3)∨(¬(0<c2)∧b12=b11∧m12=m11∧k12=k11)) (p3:((0<c3)∧b13=b4∧m13=m4∧k13=k4)∨(¬(0<c3)∧b13=b12∧m13=m12∧k13=k12)) (K0:∀ V,Below w.heap.size w V→Calls Tryz.prog 15 #[.agg #[.bool b1,.string m1,.bool false,.string k1],.agg #[.bool b1,.string m1,.bool false,.string k1]] V (RetB V (.int .i64 (c0)))) (K1:∀ V,Below w.heap.size w V→Calls Tryz.prog 15 #[.agg #[.bool b2,.string m2,.bool false,.string k2],.agg #[.bool b1,.string m1,.bool false,.string k1]] V (RetB V (.int .i64 (c1)))) (K2:∀ V,Below w.heap.size w V→Calls Tryz.prog 15 #[.agg #[.bool b3,.string m3,.bool false,.string k3],.agg #[.bool b11,.string m11,.bool false,.string k11]] V (RetB V (.int .i64 (c2)))) (K3:∀ V,Below w.heap.size w V→Calls Tryz.prog 15 #[.agg #[.bool b4,.string m4,.bool false,.string k4],.agg #[.bool b12,.string m12,.bool false,.string k12]] V (RetB V (.int .i64 (c3)))) :
  Calls Tryz.prog 130 #[.slice (some ⟨g,0,none⟩) 4 4] w (RetB w (.agg #[.bool b13,.string m13,.bool false,.string k13])):=by
 have C1:=Lib.hid K0
 have C2:=Lib.hid K1
 have C3:=Lib.hid K2
 have C4:=Lib.hid K3
 rcases p3 with ⟨y3,rfl,rfl,rfl⟩ | ⟨y3,rfl,rfl,rfl⟩<;>rcases p2 with ⟨y2,rfl,rfl,rfl⟩ | ⟨y2,rfl,rfl,rfl⟩<;>rcases p1 with ⟨y1,rfl,rfl,rfl⟩ | ⟨y1,rfl,rfl,rfl⟩
 all_goals
  have Z1:Hid (∀ {p:Prop} (h:p:=by ((with_reducible refine wp_loop_rounds 5 ?_);rw [rounds_succ];all_goals exact wkO)),p):=@fun _ h=>h
  have Z2:Hid (∀ {p:Prop} (h:p:=by (rw [rounds_succ];all_goals exact wkO)),p):=@fun _ h=>h
  have RS:=Lib.hid Tryz.results130
  clear K0 K1 K2 K3 
  go_enter Tryz.func130,Tryz.ntmps130
  exact wkO0
end Go.Proofs.YtdbhahiieokplaaGreatDoor


namespace Go.Proofs.YtdbhahiieokplaaGreatDoor
open Go.RowKit
attribute [local go_sem ↓] Go.wp_at_zero Go.wp_at_succ

set_option maxHeartbeats 8000000 in
set_option maxRecDepth 100000 in
theorem around_w (w:World) {b1 b2:Bool} {m1 k1 m2 k2:ByteArray} {g n C:Nat} (HL:∀ V,Below w.heap.size w V→Calls Tryz.prog 129 #[.slice (some ⟨g,0,none⟩) n C] V (RetB V (.agg #[.bool b1,.string m1,.bool false,.string k1]))) (HG:∀ V,Below w.heap.size w V→Calls Tryz.prog 130 #[.slice (some ⟨g,0,none⟩) n C] V (RetB V (.agg #[.bool b2,.string m2,.bool false,.string k2]))) :
  Calls Tryz.prog 84 #[.slice (some ⟨g,0,none⟩) n C] w (RetB w (.agg #[.bool b1,.string m1,.bool false,.string k1,.bool b2,.string m2,.bool false,.string k2])):=by
 have C1:=Lib.hid HL
 have C2:=Lib.hid HG
 have RS:=Lib.hid Tryz.results84
 clear HL HG 
 go_enter Tryz.func84,Tryz.ntmps84
 exact wk0

set_option maxHeartbeats 8000000 in
set_option maxRecDepth 100000 in
theorem fadd5_w (w:World) {b1 b2 b3 b4 b5 b6 b7 b8:Bool} {m1 k1 m2 k2 m3 k3 m4 k4 m5 k5 m6 k6 m7 k7 m8 k8:ByteArray} (HH:∀ V,Below w.heap.size w V→∀ {T:TypeId} (g:Nat),V.heap[g]?=some (.cells #[.bool b5,.string m5,.bool false,.string k5,.bool b6,.string m6,.bool false,.string k6] T (0,0))→Calls Tryz.prog 84 #[.slice (some ⟨g,0,none⟩) 2 2] V (RetB V (.agg #[.bool b7,.string m7,.bool false,.string k7,.bool b8,.string m8,.bool false,.string k8]))) (H1:∀ V,Below w.heap.size w V→Calls Tryz.prog 43 #[.agg #[.bool b1,.string m1,.bool false,.string k1],.agg #[.bool b3,.string m3,.bool false,.string k3]] V (RetB V (.agg #[.bool b5,.string m5,.bool false,.string k5]))) (H2:∀ V,Below w.heap.size w V→Calls Tryz.prog 43 #[.agg #[.bool b2,.string m2,.bool false,.string k2],.agg #[.bool b4,.string m4,.bool false,.string k4]] V (RetB V (.agg #[.bool b6,.string m6,.bool false,.string k6]))) :
  Calls Tryz.prog 28 #[.agg #[.bool b1,.string m1,.bool false,.string k1,.bool b2,.string m2,.bool false,.string k2],.agg #[.bool b3,.string m3,.bool false,.string k3,.bool b4,.string m4,.bool false,.string k4]] w (RetB w (.agg #[.bool b7,.string m7,.bool false,.string k7,.bool b8,.string m8,.bool false,.string k8])):=by
 have C3:=Lib.hid HH
 have C1:=Lib.hid H1
 have C2:=Lib.hid H2
 have RS:=Lib.hid Tryz.results28
 clear HH H1 H2 
 go_enter Tryz.func28,Tryz.ntmps28
 exact wk0

set_option maxHeartbeats 8000000 in
set_option maxRecDepth 100000 in
theorem fsub5_w (w:World) {b1 b2 b3 b4 b5 b6 b7 b8:Bool} {m1 k1 m2 k2 m3 k3 m4 k4 m5 k5 m6 k6 m7 k7 m8 k8:ByteArray} (HH:∀ V,Below w.heap.size w V→∀ {T:TypeId} (g:Nat),V.heap[g]?=some (.cells #[.bool b5,.string m5,.bool false,.string k5,.bool b6,.string m6,.bool false,.string k6] T (0,0))→Calls Tryz.prog 84 #[.slice (some ⟨g,0,none⟩) 2 2] V (RetB V (.agg #[.bool b7,.string m7,.bool false,.string k7,.bool b8,.string m8,.bool false,.string k8]))) (H1:∀ V,Below w.heap.size w V→Calls Tryz.prog 44 #[.agg #[.bool b1,.string m1,.bool false,.string k1],.agg #[.bool b4,.string m4,.bool false,.string k4]] V (RetB V (.agg #[.bool b5,.string m5,.bool false,.string k5]))) (H2:∀ V,Below w.heap.size w V→Calls Tryz.prog 44 #[.agg #[.bool b2,.string m2,.bool false,.string k2],.agg #[.bool b3,.string m3,.bool false,.string k3]] V (RetB V (.agg #[.bool b6,.string m6,.bool false,.string k6]))) :
  Calls Tryz.prog 31 #[.agg #[.bool b1,.string m1,.bool false,.string k1,.bool b2,.string m2,.bool false,.string k2],.agg #[.bool b3,.string m3,.bool false,.string k3,.bool b4,.string m4,.bool false,.string k4]] w (RetB w (.agg #[.bool b7,.string m7,.bool false,.string k7,.bool b8,.string m8,.bool false,.string k8])):=by
 have C3:=Lib.hid HH
 have C1:=Lib.hid H1
 have C2:=Lib.hid H2
 have RS:=Lib.hid Tryz.results31
 clear HH H1 H2 
 go_enter Tryz.func31,Tryz.ntmps31
 exact wk0

set_option maxHeartbeats 8000000 in
set_option maxRecDepth 100000 in
theorem fmul5_w (w:World) {b1 b2 b3 b4 b5 b6 b7 b8 b9 b10:Bool} {m1 k1 m2 k2 m3 k3 m4 k4 m5 k5 m6 k6 m7 k7 m8 k8 m9 k9 m10 k10:ByteArray} (HH:∀ V,Below w.heap.size w V→∀ {T:TypeId} (g:Nat),V.heap[g]?=some (.cells #[.bool b5,.string m5,.bool false,.string k5,.bool b6,.string m6,.bool false,.string k6,.bool b7,.string m7,.bool false,.string k7,.bool b8,.string m8,.bool false,.string k8] T (0,0))→Calls Tryz.prog 84 #[.slice (some ⟨g,0,none⟩) 4 4] V (RetB V (.agg #[.bool b9,.string m9,.bool false,.string k9,.bool b10,.string m10,.bool false,.string k10]))) (H1:∀ V,Below w.heap.size w V→Calls Tryz.prog 45 #[.agg #[.bool b1,.string m1,.bool false,.string k1],.agg #[.bool b3,.string m3,.bool false,.string k3]] V (RetB V (.agg #[.bool b5,.string m5,.bool false,.string k5]))) (H2:∀ V,Below w.heap.size w V→Calls Tryz.prog 45 #[.agg #[.bool b1,.string m1,.bool false,.string k1],.agg #[.bool b4,.string m4,.bool false,.string k4]] V (RetB V (.agg #[.bool b6,.string m6,.bool false,.string k6]))) (H3:∀ V,Below w.heap.size w V→Calls Tryz.prog 45 #[.agg #[.bool b2,.string m2,.bool false,.string k2],.agg #[.bool b3,.string m3,.bool false,.string k3]] V (RetB V (.agg #[.bool b7,.string m7,.bool false,.string k7]))) (H4:∀ V,Below w.heap.size w V→Calls Tryz.prog 45 #[.agg #[.bool b2,.string m2,.bool false,.string k2],.agg #[.bool b4,.string m4,.bool false,.string k4]] V (RetB V (.agg #[.bool b8,.string m8,.bool false,.string k8]))) :
  Calls Tryz.prog 33 #[.agg #[.bool b1,.string m1,.bool false,.string k1,.bool b2,.string m2,.bool false,.string k2],.agg #[.bool b3,.string m3,.bool false,.string k3,.bool b4,.string m4,.bool false,.string k4]] w (RetB w (.agg #[.bool b9,.string m9,.bool false,.string k9,.bool b10,.string m10,.bool false,.string k10])):=by
 have C5:=Lib.hid HH
 have C1:=Lib.hid H1
 have C2:=Lib.hid H2
 have C3:=Lib.hid H3
 have C4:=Lib.hid H4
 have RS:=Lib.hid Tryz.results33
 clear HH H1 H2 H3 H4 
 go_enter Tryz.func33,Tryz.ntmps33
 exact wk0

set_option maxHeartbeats 8000000 in
set_option maxRecDepth 100000 in
theorem fdiv5_w (w:World) {b1 b2 b3 b4 b5 b6 b7 b8 b9 b10:Bool} {m1 k1 m2 k2 m3 k3 m4 k4 m5 k5 m6 k6 m7 k7 m8 k8 m9 k9 m10 k10:ByteArray} (HH:∀ V,Below w.heap.size w V→∀ {T:TypeId} (g:Nat),V.heap[g]?=some (.cells #[.bool b5,.string m5,.bool false,.string k5,.bool b6,.string m6,.bool false,.string k6,.bool b7,.string m7,.bool false,.string k7,.bool b8,.string m8,.bool false,.string k8] T (0,0))→Calls Tryz.prog 84 #[.slice (some ⟨g,0,none⟩) 4 4] V (RetB V (.agg #[.bool b9,.string m9,.bool false,.string k9,.bool b10,.string m10,.bool false,.string k10]))) (H1:∀ V,Below w.heap.size w V→Calls Tryz.prog 47 #[.agg #[.bool b1,.string m1,.bool false,.string k1],.agg #[.bool b3,.string m3,.bool false,.string k3]] V (RetB V (.agg #[.bool b5,.string m5,.bool false,.string k5]))) (H2:∀ V,Below w.heap.size w V→Calls Tryz.prog 47 #[.agg #[.bool b1,.string m1,.bool false,.string k1],.agg #[.bool b4,.string m4,.bool false,.string k4]] V (RetB V (.agg #[.bool b6,.string m6,.bool false,.string k6]))) (H3:∀ V,Below w.heap.size w V→Calls Tryz.prog 47 #[.agg #[.bool b2,.string m2,.bool false,.string k2],.agg #[.bool b3,.string m3,.bool false,.string k3]] V (RetB V (.agg #[.bool b7,.string m7,.bool false,.string k7]))) (H4:∀ V,Below w.heap.size w V→Calls Tryz.prog 47 #[.agg #[.bool b2,.string m2,.bool false,.string k2],.agg #[.bool b4,.string m4,.bool false,.string k4]] V (RetB V (.agg #[.bool b8,.string m8,.bool false,.string k8]))) :
  Calls Tryz.prog 40 #[.agg #[.bool b1,.string m1,.bool false,.string k1,.bool b2,.string m2,.bool false,.string k2],.agg #[.bool b3,.string m3,.bool false,.string k3,.bool b4,.string m4,.bool false,.string k4]] w (RetB w (.agg #[.bool b9,.string m9,.bool false,.string k9,.bool b10,.string m10,.bool false,.string k10])):=by
 have C5:=Lib.hid HH
 have C1:=Lib.hid H1
 have C2:=Lib.hid H2
 have C3:=Lib.hid H3
 have C4:=Lib.hid H4
 have RS:=Lib.hid Tryz.results40
 clear HH H1 H2 H3 H4 
 go_enter Tryz.func40,Tryz.ntmps40
 exact wk0

set_option maxHeartbeats 8000000 in
set_option maxRecDepth 100000 in
theorem fsqu5_no (w:World) {b1 b2 b3 b4 b5 b6:Bool} {m1 k1 m2 k2 m3 k3 m4 k4 m5 k5 m6 k6:ByteArray} (HH:∀ V,Below w.heap.size w V→∀ {T:TypeId} (g:Nat),V.heap[g]?=some (.cells #[.bool b3,.string m3,.bool false,.string k3,.bool b4,.string m4,.bool false,.string k4] T (0,0))→Calls Tryz.prog 84 #[.slice (some ⟨g,0,none⟩) 2 2] V (RetB V (.agg #[.bool b5,.string m5,.bool false,.string k5,.bool b6,.string m6,.bool false,.string k6]))) (H1:∀ V,Below w.heap.size w V→Calls Tryz.prog 45 #[.agg #[.bool b1,.string m1,.bool false,.string k1],.agg #[.bool b1,.string m1,.bool false,.string k1]] V (RetB V (.agg #[.bool b3,.string m3,.bool false,.string k3]))) (H2:∀ V,Below w.heap.size w V→Calls Tryz.prog 45 #[.agg #[.bool b2,.string m2,.bool false,.string k2],.agg #[.bool b2,.string m2,.bool false,.string k2]] V (RetB V (.agg #[.bool b4,.string m4,.bool false,.string k4]))) (HC:∀ V,Below w.heap.size w V→Calls Tryz.prog 39 #[.agg #[.bool b1,.string m1,.bool false,.string k1,.bool b2,.string m2,.bool false,.string k2],.agg #[.bool false,.string ⟨#[]⟩,.bool false,.string ⟨#[]⟩]] V (RetB V (.bool false))) :
  Calls Tryz.prog 35 #[.agg #[.bool b1,.string m1,.bool false,.string k1,.bool b2,.string m2,.bool false,.string k2]] w (RetB w (.agg #[.bool b5,.string m5,.bool false,.string k5,.bool b6,.string m6,.bool false,.string k6])):=by
 have C4:=Lib.hid HH
 have C1:=Lib.hid H1
 have C2:=Lib.hid H2
 have C3:=Lib.hid HC
 have RS:=Lib.hid Tryz.results35
 clear HH H1 H2 HC 
 go_enter Tryz.func35,Tryz.ntmps35
 exact wk0

set_option maxHeartbeats 8000000 in
set_option maxRecDepth 100000 in
theorem same5_yes {b1 b2:Bool} {m1 k1 m2 k2:ByteArray} (w:World) :
  Calls Tryz.prog 22 #[.agg #[.bool b1,.string m1,.bool false,.string k1,.bool b2,.string m2,.bool false,.string k2],.agg #[.bool b1,.string m1,.bool false,.string k1,.bool b2,.string m2,.bool false,.string k2]] w (RetB w (.bool true)):=by
 go_enter Tryz.func22,Tryz.ntmps22
 exact wk0
end Go.Proofs.YtdbhahiieokplaaGreatDoor


namespace Go.Proofs.YtdbhahiieokplaaGreatDoor
open Go.RowKit
attribute [local go_sem ↓] Go.wp_at_zero Go.wp_at_succ

theorem call_new {w W:World} {l:List (Nat×Array Value×TypeId)} {rs:List (Option Addr×Nat×Nat×Nat)} {M:World→Prop} (X:Sb w l rs W) {cs:Array Value} {T:TypeId} (h:∀ V,Sb w (l++[(W.heap.size,cs,T)]) rs V→M V):M (W.alloc (.cells cs T)).drew:=h _ (X.new cs T).drew

set_option maxHeartbeats 8000000 in
set_option maxRecDepth 100000 in
theorem fsqu5_yes (w:World) {b1 b2 b3 b4 b5 b6:Bool} {m1 k1 m2 k2 m3 k3 m4 k4 m5 k5 m6 k6:ByteArray} (HH:∀ V,Below w.heap.size w V→∀ {T:TypeId} (g C:Nat) (rest:Array Value),V.heap[g]?=some (.cells (#[.bool b3,.string m3,.bool false,.string k3,.bool b4,.string m4,.bool false,.string k4]++(#[.bool false,.string ⟨#[]⟩,.bool false,.string ⟨#[]⟩]++rest)) T (0,0))→Calls Tryz.prog 84 #[.slice (some ⟨g,0,none⟩) 3 C] V (RetB V (.agg #[.bool b5,.string m5,.bool false,.string k5,.bool b6,.string m6,.bool false,.string k6]))) (H1:∀ V,Below w.heap.size w V→Calls Tryz.prog 45 #[.agg #[.bool b1,.string m1,.bool false,.string k1],.agg #[.bool b1,.string m1,.bool false,.string k1]] V (RetB V (.agg #[.bool b3,.string m3,.bool false,.string k3]))) (H2:∀ V,Below w.heap.size w V→Calls Tryz.prog 45 #[.agg #[.bool b2,.string m2,.bool false,.string k2],.agg #[.bool b2,.string m2,.bool false,.string k2]] V (RetB V (.agg #[.bool b4,.string m4,.bool false,.string k4]))) (HC:∀ V,Below w.heap.size w V→Calls Tryz.prog 39 #[.agg #[.bool b1,.string m1,.bool false,.string k1,.bool b2,.string m2,.bool false,.string k2],.agg #[.bool false,.string ⟨#[]⟩,.bool false,.string ⟨#[]⟩]] V (RetB V (.bool true))) :
  Calls Tryz.prog 35 #[.agg #[.bool b1,.string m1,.bool false,.string k1,.bool b2,.string m2,.bool false,.string k2]] w (RetB w (.agg #[.bool b5,.string m5,.bool false,.string k5,.bool b6,.string m6,.bool false,.string k6])):=by
 have C4:=Lib.hid HH
 have C1:=Lib.hid H1
 have C2:=Lib.hid H2
 have C3:=Lib.hid HC
 have Z1:Hid (∀ {p:Prop} (h:p:=by (((go_at_call 84);(with_reducible refine call_new (M:=fun W=>Calls _ _ _ W _) X.out (fun V9 X0=>?_));(with_reducible refine (C4.out _ X0.bel _ _ _ (X0.fnd lk)).mono ?_);rintro e u ⟨rfl,hb9⟩;replace X:=Lib.hid (X0.next hb9);clear X0 hb9;replace F:=X.out.facts;simp only [Facts,cellsAt,List.take_succ_cons,List.take_zero,Nat.reduceAdd,and_true,List.set_cons_succ,List.set_cons_zero,List.cons_append,List.nil_append] at F);all_goals exact wk)),p):=@fun _ h=>h
 have RS:=Lib.hid Tryz.results35
 clear HH H1 H2 HC 
 go_enter Tryz.func35,Tryz.ntmps35
 exact wk0
end Go.Proofs.YtdbhahiieokplaaGreatDoor


namespace Go.Proofs.YtdbhahiieokplaaGreatDoor
open Go.RowKit
attribute [local go_sem ↓] Go.wp_at_zero Go.wp_at_succ

theorem div_by (x y:Rat):x / y=x*(1 / y):=by rw [Rat.div_def,Rat.div_def,Rat.one_mul]
end Go.Proofs.YtdbhahiieokplaaGreatDoor


namespace Go.Proofs.YtdbhahiieokplaaGreatDoor
open Go.RowKit
attribute [local go_sem ↓] Go.wp_at_zero Go.wp_at_succ

end Go.Proofs.YtdbhahiieokplaaGreatDoor


namespace Go.Proofs.YtdbhahiieokplaaGreatDoor
open Go.RowKit
attribute [local go_sem ↓] Go.wp_at_zero Go.wp_at_succ

theorem Sz.quo {n m:Nat} {p q:Rat} (hp:Sz n p) (hq:Sz m q) (h0:¬q.num=0):Sz (n+m) (p / q):=by
 rw [Rat.div_def]
 refine hp.mul ?_
 have h1:q⁻¹.den=q.num.natAbs:=by rw [Rat.den_inv,if_neg h0]
 have h2:=Rat.num_inv q
 unfold Sz
 rw [h1,h2,Int.natAbs_mul,Int.natAbs_natCast,Int.natAbs_sign_of_ne_zero h0,Nat.one_mul]
 exact ⟨hq.2,hq.1⟩
end Go.Proofs.YtdbhahiieokplaaGreatDoor
