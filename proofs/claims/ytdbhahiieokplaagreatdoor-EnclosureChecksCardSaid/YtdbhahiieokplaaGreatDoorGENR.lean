import Derived.Test.YtdbhahiieokplaaGreatDoorGENE
set_option linter.unusedSimpArgs false
set_option linter.unusedVariables false

namespace Go.Proofs.YtdbhahiieokplaaGreatDoor
open Go.RowKit
attribute [local go_sem ↓] Go.wp_at_zero Go.wp_at_succ

set_option maxHeartbeats 8000000 in
set_option maxRecDepth 100000 in
theorem small5_w (w:World) {b1 d1:Bool} {m1 k1:ByteArray} {M1 K1:ByteArray} (hm:m1.size≤140737488351232) (hk:k1.size≤140737488351232) {N1 N2:Nat} (g1:min (m1.size:Int) 20=(N1:Int)) (g2:min (k1.size:Int) 20=(N2:Int)) (g3:(0:Int)≤(N1:Int)) (g4:(N1:Int)≤(m1.size:Int)) (g5:(0:Int)≤(N2:Int)) (g6:(N2:Int)≤(k1.size:Int)) (g7:N1≤m1.size) (g8:N2≤k1.size) (e1:m1.extract 0 N1=M1) (e2:k1.extract 0 N2=K1)  :
  Calls Tryz.prog 13 #[.agg #[.bool b1,.string m1,.bool d1,.string k1]] w (RetB w (.agg #[.bool b1,.string M1,.bool d1,.string K1])):=by
 have RS:=Lib.hid Tryz.results13
 go_enter Tryz.func13,Tryz.ntmps13
 exact wk0

set_option maxHeartbeats 8000000 in
set_option maxRecDepth 100000 in
theorem echk_1 (w:World) {b1 d1:Bool} {m1 k1:ByteArray} {b2 d2:Bool} {m2 k2:ByteArray} (H1:∀ V,Below w.heap.size w V→Calls Tryz.prog 70 #[.agg #[.bool b1,.string m1,.bool d1,.string k1]] V (RetB V (.int .i64 (5)))) :
  Calls Tryz.prog 19 #[.agg #[.bool b1,.string m1,.bool d1,.string k1,.bool b2,.string m2,.bool d2,.string k2]] w (RetB w (.int .i64 (5))):=by
 have C1:=Lib.hid H1
 clear H1 
 go_enter Tryz.func19,Tryz.ntmps19
 exact wk0

set_option maxHeartbeats 8000000 in
set_option maxRecDepth 100000 in
theorem echk_2 (w:World) {b1 d1:Bool} {m1 k1:ByteArray} {b2 d2:Bool} {m2 k2:ByteArray} (H1:∀ V,Below w.heap.size w V→Calls Tryz.prog 70 #[.agg #[.bool b1,.string m1,.bool d1,.string k1]] V (RetB V (.int .i64 (0)))) (H2:∀ V,Below w.heap.size w V→Calls Tryz.prog 70 #[.agg #[.bool b2,.string m2,.bool d2,.string k2]] V (RetB V (.int .i64 (5)))) :
  Calls Tryz.prog 19 #[.agg #[.bool b1,.string m1,.bool d1,.string k1,.bool b2,.string m2,.bool d2,.string k2]] w (RetB w (.int .i64 (5))):=by
 have C1:=Lib.hid H1
 have C2:=Lib.hid H2
 clear H1 H2 
 go_enter Tryz.func19,Tryz.ntmps19
 exact wk0

set_option maxHeartbeats 8000000 in
set_option maxRecDepth 100000 in
theorem echk_3 (w:World) {b1 d1:Bool} {m1 k1:ByteArray} {b2 d2:Bool} {m2 k2:ByteArray} {c:Int} (h:0<c) (H1:∀ V,Below w.heap.size w V→Calls Tryz.prog 70 #[.agg #[.bool b1,.string m1,.bool d1,.string k1]] V (RetB V (.int .i64 (0)))) (H2:∀ V,Below w.heap.size w V→Calls Tryz.prog 70 #[.agg #[.bool b2,.string m2,.bool d2,.string k2]] V (RetB V (.int .i64 (0)))) (HC:∀ V,Below w.heap.size w V→Calls Tryz.prog 71 #[.agg #[.bool b1,.string m1,.bool d1,.string k1],.agg #[.bool b2,.string m2,.bool d2,.string k2]] V (RetB V (.int .i64 (c)))) :
  Calls Tryz.prog 19 #[.agg #[.bool b1,.string m1,.bool d1,.string k1,.bool b2,.string m2,.bool d2,.string k2]] w (RetB w (.int .i64 (7))):=by
 have C1:=Lib.hid H1
 have C2:=Lib.hid H2
 have C3:=Lib.hid HC
 clear H1 H2 HC 
 go_enter Tryz.func19,Tryz.ntmps19
 exact wk0

set_option maxHeartbeats 8000000 in
set_option maxRecDepth 100000 in
theorem echk_4 (w:World) {b1 d1:Bool} {m1 k1:ByteArray} {b2 d2:Bool} {m2 k2:ByteArray} {c:Int} (h:¬0<c) (H1:∀ V,Below w.heap.size w V→Calls Tryz.prog 70 #[.agg #[.bool b1,.string m1,.bool d1,.string k1]] V (RetB V (.int .i64 (0)))) (H2:∀ V,Below w.heap.size w V→Calls Tryz.prog 70 #[.agg #[.bool b2,.string m2,.bool d2,.string k2]] V (RetB V (.int .i64 (0)))) (HC:∀ V,Below w.heap.size w V→Calls Tryz.prog 71 #[.agg #[.bool b1,.string m1,.bool d1,.string k1],.agg #[.bool b2,.string m2,.bool d2,.string k2]] V (RetB V (.int .i64 (c)))) :
  Calls Tryz.prog 19 #[.agg #[.bool b1,.string m1,.bool d1,.string k1,.bool b2,.string m2,.bool d2,.string k2]] w (RetB w (.int .i64 (0))):=by
 have C1:=Lib.hid H1
 have C2:=Lib.hid H2
 have C3:=Lib.hid HC
 clear H1 H2 HC 
 go_enter Tryz.func19,Tryz.ntmps19
 exact wk0

set_option maxHeartbeats 8000000 in
set_option maxRecDepth 100000 in
theorem chk5_1 (w:World) {b1 d1:Bool} {m1 k1:ByteArray} {b2 d2:Bool} {m2 k2:ByteArray} {b3 d3:Bool} {m3 k3:ByteArray} {b4 d4:Bool} {m4 k4:ByteArray} {b5:Bool} {m5 k5:ByteArray} {n5 d5:Int} (HK:∀ V,Below w.heap.size w V→Calls Tryz.prog 18 #[] V (RetB V (.bool true))) (S1:∀ V,Below w.heap.size w V→Calls Tryz.prog 13 #[.agg #[.bool b1,.string m1,.bool d1,.string k1]] V (RetB V (.agg #[.bool b3,.string m3,.bool d3,.string k3]))) (S2:∀ V,Below w.heap.size w V→Calls Tryz.prog 13 #[.agg #[.bool b2,.string m2,.bool d2,.string k2]] V (RetB V (.agg #[.bool b4,.string m4,.bool d4,.string k4]))) (HR:∀ V,Below w.heap.size w V→Calls Tryz.prog 17 #[.agg #[.int .i32 n5,.int .u16 d5]] V (RetB V (.agg #[.bool b5,.string m5,.bool false,.string k5]))) (HX:∀ V,Below w.heap.size w V→Calls Tryz.prog 16 #[.agg #[.bool b5,.string m5,.bool false,.string k5]] V (RetB V (.agg #[.bool b5,.string m5,.bool false,.string k5,.bool b5,.string m5,.bool false,.string k5]))) (VA:∀ V,Below w.heap.size w V→Calls Tryz.prog 14 #[.agg #[.bool b3,.string m3,.bool d3,.string k3]] V (RetB V (.bool false))) (HE:∀ V,Below w.heap.size w V→Calls Tryz.prog 19 #[.agg #[.bool b3,.string m3,.bool d3,.string k3,.bool b4,.string m4,.bool d4,.string k4]] V (RetB V (.int .i64 (5)))) :
  Calls Tryz.prog 3 #[.agg #[.bool b1,.string m1,.bool d1,.string k1],.agg #[.bool b2,.string m2,.bool d2,.string k2],.agg #[.int .i32 n5,.int .u16 d5]] w (RetB w (.bool true)):=by
 have C1:=Lib.hid HK
 have C2:=Lib.hid S1
 have C3:=Lib.hid S2
 have C4:=Lib.hid HR
 have C5:=Lib.hid HX
 have C6:=Lib.hid VA
 have C7:=Lib.hid HE
 clear HK S1 S2 HR HX VA HE 
 go_enter Tryz.func3,Tryz.ntmps3
 exact wk0

set_option maxHeartbeats 8000000 in
set_option maxRecDepth 100000 in
theorem chk5_2 (w:World) {b1 d1:Bool} {m1 k1:ByteArray} {b2 d2:Bool} {m2 k2:ByteArray} {b3 d3:Bool} {m3 k3:ByteArray} {b4 d4:Bool} {m4 k4:ByteArray} {b5:Bool} {m5 k5:ByteArray} {n5 d5:Int} (HK:∀ V,Below w.heap.size w V→Calls Tryz.prog 18 #[] V (RetB V (.bool true))) (S1:∀ V,Below w.heap.size w V→Calls Tryz.prog 13 #[.agg #[.bool b1,.string m1,.bool d1,.string k1]] V (RetB V (.agg #[.bool b3,.string m3,.bool d3,.string k3]))) (S2:∀ V,Below w.heap.size w V→Calls Tryz.prog 13 #[.agg #[.bool b2,.string m2,.bool d2,.string k2]] V (RetB V (.agg #[.bool b4,.string m4,.bool d4,.string k4]))) (HR:∀ V,Below w.heap.size w V→Calls Tryz.prog 17 #[.agg #[.int .i32 n5,.int .u16 d5]] V (RetB V (.agg #[.bool b5,.string m5,.bool false,.string k5]))) (HX:∀ V,Below w.heap.size w V→Calls Tryz.prog 16 #[.agg #[.bool b5,.string m5,.bool false,.string k5]] V (RetB V (.agg #[.bool b5,.string m5,.bool false,.string k5,.bool b5,.string m5,.bool false,.string k5]))) (VA:∀ V,Below w.heap.size w V→Calls Tryz.prog 14 #[.agg #[.bool b3,.string m3,.bool d3,.string k3]] V (RetB V (.bool true))) (VB:∀ V,Below w.heap.size w V→Calls Tryz.prog 14 #[.agg #[.bool b4,.string m4,.bool d4,.string k4]] V (RetB V (.bool false))) (HE:∀ V,Below w.heap.size w V→Calls Tryz.prog 19 #[.agg #[.bool b3,.string m3,.bool d3,.string k3,.bool b4,.string m4,.bool d4,.string k4]] V (RetB V (.int .i64 (5)))) :
  Calls Tryz.prog 3 #[.agg #[.bool b1,.string m1,.bool d1,.string k1],.agg #[.bool b2,.string m2,.bool d2,.string k2],.agg #[.int .i32 n5,.int .u16 d5]] w (RetB w (.bool true)):=by
 have C1:=Lib.hid HK
 have C2:=Lib.hid S1
 have C3:=Lib.hid S2
 have C4:=Lib.hid HR
 have C5:=Lib.hid HX
 have C6:=Lib.hid VA
 have C7:=Lib.hid VB
 have C8:=Lib.hid HE
 clear HK S1 S2 HR HX VA VB HE 
 go_enter Tryz.func3,Tryz.ntmps3
 exact wk0

set_option maxHeartbeats 8000000 in
set_option maxRecDepth 100000 in
theorem chk5_3 (w:World) {b1 d1:Bool} {m1 k1:ByteArray} {b2 d2:Bool} {m2 k2:ByteArray} {b3 d3:Bool} {m3 k3:ByteArray} {b4 d4:Bool} {m4 k4:ByteArray} {b5:Bool} {m5 k5:ByteArray} {n5 d5:Int} {c:Int} (h:0<c) (HK:∀ V,Below w.heap.size w V→Calls Tryz.prog 18 #[] V (RetB V (.bool true))) (S1:∀ V,Below w.heap.size w V→Calls Tryz.prog 13 #[.agg #[.bool b1,.string m1,.bool d1,.string k1]] V (RetB V (.agg #[.bool b3,.string m3,.bool d3,.string k3]))) (S2:∀ V,Below w.heap.size w V→Calls Tryz.prog 13 #[.agg #[.bool b2,.string m2,.bool d2,.string k2]] V (RetB V (.agg #[.bool b4,.string m4,.bool d4,.string k4]))) (HR:∀ V,Below w.heap.size w V→Calls Tryz.prog 17 #[.agg #[.int .i32 n5,.int .u16 d5]] V (RetB V (.agg #[.bool b5,.string m5,.bool false,.string k5]))) (HX:∀ V,Below w.heap.size w V→Calls Tryz.prog 16 #[.agg #[.bool b5,.string m5,.bool false,.string k5]] V (RetB V (.agg #[.bool b5,.string m5,.bool false,.string k5,.bool b5,.string m5,.bool false,.string k5]))) (VA:∀ V,Below w.heap.size w V→Calls Tryz.prog 14 #[.agg #[.bool b3,.string m3,.bool d3,.string k3]] V (RetB V (.bool true))) (VB:∀ V,Below w.heap.size w V→Calls Tryz.prog 14 #[.agg #[.bool b4,.string m4,.bool d4,.string k4]] V (RetB V (.bool true))) (HC:∀ V,Below w.heap.size w V→Calls Tryz.prog 15 #[.agg #[.bool b3,.string m3,.bool d3,.string k3],.agg #[.bool b4,.string m4,.bool d4,.string k4]] V (RetB V (.int .i64 (c)))) (HE:∀ V,Below w.heap.size w V→Calls Tryz.prog 19 #[.agg #[.bool b3,.string m3,.bool d3,.string k3,.bool b4,.string m4,.bool d4,.string k4]] V (RetB V (.int .i64 (7)))) :
  Calls Tryz.prog 3 #[.agg #[.bool b1,.string m1,.bool d1,.string k1],.agg #[.bool b2,.string m2,.bool d2,.string k2],.agg #[.int .i32 n5,.int .u16 d5]] w (RetB w (.bool true)):=by
 have C1:=Lib.hid HK
 have C2:=Lib.hid S1
 have C3:=Lib.hid S2
 have C4:=Lib.hid HR
 have C5:=Lib.hid HX
 have C6:=Lib.hid VA
 have C7:=Lib.hid VB
 have C8:=Lib.hid HC
 have C9:=Lib.hid HE
 clear HK S1 S2 HR HX VA VB HC HE 
 go_enter Tryz.func3,Tryz.ntmps3
 exact wk0

set_option maxHeartbeats 8000000 in
set_option maxRecDepth 100000 in
theorem chk5_4 (w:World) {b1 d1:Bool} {m1 k1:ByteArray} {b2 d2:Bool} {m2 k2:ByteArray} {b3 d3:Bool} {m3 k3:ByteArray} {b4 d4:Bool} {m4 k4:ByteArray} {b5:Bool} {m5 k5:ByteArray} {n5 d5:Int} {c:Int} (h:¬0<c) (HK:∀ V,Below w.heap.size w V→Calls Tryz.prog 18 #[] V (RetB V (.bool true))) (S1:∀ V,Below w.heap.size w V→Calls Tryz.prog 13 #[.agg #[.bool b1,.string m1,.bool d1,.string k1]] V (RetB V (.agg #[.bool b3,.string m3,.bool d3,.string k3]))) (S2:∀ V,Below w.heap.size w V→Calls Tryz.prog 13 #[.agg #[.bool b2,.string m2,.bool d2,.string k2]] V (RetB V (.agg #[.bool b4,.string m4,.bool d4,.string k4]))) (HR:∀ V,Below w.heap.size w V→Calls Tryz.prog 17 #[.agg #[.int .i32 n5,.int .u16 d5]] V (RetB V (.agg #[.bool b5,.string m5,.bool false,.string k5]))) (HX:∀ V,Below w.heap.size w V→Calls Tryz.prog 16 #[.agg #[.bool b5,.string m5,.bool false,.string k5]] V (RetB V (.agg #[.bool b5,.string m5,.bool false,.string k5,.bool b5,.string m5,.bool false,.string k5]))) (VA:∀ V,Below w.heap.size w V→Calls Tryz.prog 14 #[.agg #[.bool b3,.string m3,.bool d3,.string k3]] V (RetB V (.bool true))) (VB:∀ V,Below w.heap.size w V→Calls Tryz.prog 14 #[.agg #[.bool b4,.string m4,.bool d4,.string k4]] V (RetB V (.bool true))) (HC:∀ V,Below w.heap.size w V→Calls Tryz.prog 15 #[.agg #[.bool b3,.string m3,.bool d3,.string k3],.agg #[.bool b4,.string m4,.bool d4,.string k4]] V (RetB V (.int .i64 (c)))) (HE:∀ V,Below w.heap.size w V→Calls Tryz.prog 19 #[.agg #[.bool b3,.string m3,.bool d3,.string k3,.bool b4,.string m4,.bool d4,.string k4]] V (RetB V (.int .i64 (0)))) :
  Calls Tryz.prog 3 #[.agg #[.bool b1,.string m1,.bool d1,.string k1],.agg #[.bool b2,.string m2,.bool d2,.string k2],.agg #[.int .i32 n5,.int .u16 d5]] w (RetB w (.bool true)):=by
 have C1:=Lib.hid HK
 have C2:=Lib.hid S1
 have C3:=Lib.hid S2
 have C4:=Lib.hid HR
 have C5:=Lib.hid HX
 have C6:=Lib.hid VA
 have C7:=Lib.hid VB
 have C8:=Lib.hid HC
 have C9:=Lib.hid HE
 clear HK S1 S2 HR HX VA VB HC HE 
 go_enter Tryz.func3,Tryz.ntmps3
 exact wk0
end Go.Proofs.YtdbhahiieokplaaGreatDoor
