import Derived.Test.YtdbhahiieokplaaGreatDoorGRLFa
set_option linter.unusedSimpArgs false
set_option linter.unusedVariables false
namespace Go.Proofs.YtdbhahiieokplaaGreatDoor
open Go.RowKit
attribute [local go_sem ↓] Go.wp_at_zero Go.wp_at_succ

set_option maxHeartbeats 8000000 in
set_option maxRecDepth 100000 in
theorem eroot_w (w:World) {b1:Bool} {m1 k1:ByteArray} {b2 c2 s2:Bool} {m2 k2 n2 l2:ByteArray} (HO:∀ V,Below w.heap.size w V→Calls Tryz.prog 87 #[.int .i64 (1)] V (RetB V (.agg #[.bool false,.string ⟨#[1]⟩,.bool false,.string ⟨#[]⟩]))) (HM:∀ V,Below w.heap.size w V→Calls Tryz.prog 135 #[.agg #[.bool false,.string ⟨#[]⟩,.bool false,.string ⟨#[]⟩],.agg #[.bool false,.string ⟨#[1]⟩,.bool false,.string ⟨#[]⟩],.agg #[.bool b1,.string m1,.bool false,.string k1]] V (RetB V (.tuple #[.agg #[.bool b2,.string m2,.bool false,.string k2,.bool c2,.string n2,.bool false,.string l2,.bool s2],.int .i64 0]))) :
  Calls Tryz.prog 96 #[.agg #[.bool b1,.string m1,.bool false,.string k1]] w (RetB w (.agg #[.bool b2,.string m2,.bool false,.string k2,.bool c2,.string n2,.bool false,.string l2,.bool s2])):=by
 have C1:=Lib.hid HO
 have C2:=Lib.hid HM
 have RS:=Lib.hid Tryz.results96
 clear HO HM 
 go_enter Tryz.func96,Tryz.ntmps96
 exact wk0

set_option maxHeartbeats 8000000 in
set_option maxRecDepth 100000 in
theorem egrid_f {n:Int} (h:0≤n) (w:World) :
  Calls Tryz.prog 73 #[.int .i64 (n)] w (RetB w (.bool (decide (n≤128)))):=by
 go_enter Tryz.func73,Tryz.ntmps73
 exact wk0

set_option maxHeartbeats 8000000 in
set_option maxRecDepth 100000 in
theorem esqrt_yes (w:World) {b1 b2 b5 b6 b7 b8:Bool} {m1 k1 m2 k2 m5 k5 m6 k6 m7 k7 m8 k8:ByteArray} {b3 c3 s3:Bool} {m3 k3 n3 l3:ByteArray} {b4 c4 s4:Bool} {m4 k4 n4 l4:ByteArray} {n c:Int} (h:¬c<0) (HG:∀ V,Below w.heap.size w V→Calls Tryz.prog 73 #[.int .i64 (n)] V (RetB V (.bool true))) (HS:∀ V,Below w.heap.size w V→Calls Tryz.prog 95 #[.agg #[.bool b1,.string m1,.bool false,.string k1]] V (RetB V (.int .i64 (c)))) (HR1:∀ V,Below w.heap.size w V→Calls Tryz.prog 96 #[.agg #[.bool b1,.string m1,.bool false,.string k1]] V (RetB V (.agg #[.bool b3,.string m3,.bool false,.string k3,.bool c3,.string n3,.bool false,.string l3,.bool s3]))) (HE1:∀ V,Below w.heap.size w V→Calls Tryz.prog 75 #[.agg #[.bool b3,.string m3,.bool false,.string k3,.bool c3,.string n3,.bool false,.string l3,.bool s3],.int .i64 (n)] V (RetB V (.tuple #[.agg #[.bool b5,.string m5,.bool false,.string k5],.agg #[.bool b6,.string m6,.bool false,.string k6],.int .i64 0]))) (HR2:∀ V,Below w.heap.size w V→Calls Tryz.prog 96 #[.agg #[.bool b2,.string m2,.bool false,.string k2]] V (RetB V (.agg #[.bool b4,.string m4,.bool false,.string k4,.bool c4,.string n4,.bool false,.string l4,.bool s4]))) (HE2:∀ V,Below w.heap.size w V→Calls Tryz.prog 75 #[.agg #[.bool b4,.string m4,.bool false,.string k4,.bool c4,.string n4,.bool false,.string l4,.bool s4],.int .i64 (n)] V (RetB V (.tuple #[.agg #[.bool b7,.string m7,.bool false,.string k7],.agg #[.bool b8,.string m8,.bool false,.string k8],.int .i64 0]))) :
  Calls Tryz.prog 48 #[.agg #[.bool b1,.string m1,.bool false,.string k1,.bool b2,.string m2,.bool false,.string k2],.int .i64 (n)] w (RetB w (.tuple #[.agg #[.bool b5,.string m5,.bool false,.string k5,.bool b8,.string m8,.bool false,.string k8],.int .i64 0])):=by
 have C1:=Lib.hid HG
 have C2:=Lib.hid HS
 have C3:=Lib.hid HR1
 have C4:=Lib.hid HE1
 have C5:=Lib.hid HR2
 have C6:=Lib.hid HE2
 have RS:=Lib.hid Tryz.results48
 clear HG HS HR1 HE1 HR2 HE2 
 go_enter Tryz.func48,Tryz.ntmps48
 exact wk0

set_option maxHeartbeats 8000000 in
set_option maxRecDepth 100000 in
theorem bound_w (w:World) {b1 b2:Bool} {m1 k1 m2 k2:ByteArray} {x y:Int} (H1:∀ V,Below w.heap.size w V→Calls Tryz.prog 53 #[.int .i64 (x),.int .i64 (1)] V (RetB V (.agg #[.bool b1,.string m1,.bool false,.string k1]))) (H2:∀ V,Below w.heap.size w V→Calls Tryz.prog 53 #[.int .i64 (y),.int .i64 (1)] V (RetB V (.agg #[.bool b2,.string m2,.bool false,.string k2]))) :
  Calls Tryz.prog 69 #[.int .i64 (x),.int .i64 (y)] w (RetB w (.agg #[.bool b1,.string m1,.bool false,.string k1,.bool b2,.string m2,.bool false,.string k2])):=by
 have C1:=Lib.hid H1
 have C2:=Lib.hid H2
 have RS:=Lib.hid Tryz.results69
 clear H1 H2 
 go_enter Tryz.func69,Tryz.ntmps69
 exact wk0

set_option maxHeartbeats 8000000 in
set_option maxRecDepth 100000 in
theorem known5_w (w:World) {b1 b2 b3 b4 b5 b6 b7 b8 b9 b10 b11 b12 b13 b14:Bool} {m1 k1 m2 k2 m3 k3 m4 k4 m5 k5 m6 k6 m7 k7 m8 k8 m9 k9 m10 k10 m11 k11 m12 k12 m13 k13 m14 k14:ByteArray} (B1:∀ V,Below w.heap.size w V→Calls Tryz.prog 69 #[.int .i64 (-2),.int .i64 (3)] V (RetB V (.agg #[.bool b1,.string m1,.bool false,.string k1,.bool b2,.string m2,.bool false,.string k2]))) (B2:∀ V,Below w.heap.size w V→Calls Tryz.prog 69 #[.int .i64 (-1),.int .i64 (4)] V (RetB V (.agg #[.bool b3,.string m3,.bool false,.string k3,.bool b4,.string m4,.bool false,.string k4]))) (B3:∀ V,Below w.heap.size w V→Calls Tryz.prog 69 #[.int .i64 (1),.int .i64 (2)] V (RetB V (.agg #[.bool b5,.string m5,.bool false,.string k5,.bool b6,.string m6,.bool false,.string k6]))) (B4:∀ V,Below w.heap.size w V→Calls Tryz.prog 69 #[.int .i64 (-4),.int .i64 (-2)] V (RetB V (.agg #[.bool b7,.string m7,.bool false,.string k7,.bool b1,.string m1,.bool false,.string k1]))) (B5:∀ V,Below w.heap.size w V→Calls Tryz.prog 69 #[.int .i64 (2),.int .i64 (2)] V (RetB V (.agg #[.bool b6,.string m6,.bool false,.string k6,.bool b6,.string m6,.bool false,.string k6]))) (B6:∀ V,Below w.heap.size w V→Calls Tryz.prog 69 #[.int .i64 (-8),.int .i64 (12)] V (RetB V (.agg #[.bool b8,.string m8,.bool false,.string k8,.bool b9,.string m9,.bool false,.string k9]))) (B7:∀ V,Below w.heap.size w V→Calls Tryz.prog 69 #[.int .i64 (0),.int .i64 (9)] V (RetB V (.agg #[.bool b10,.string m10,.bool false,.string k10,.bool b11,.string m11,.bool false,.string k11]))) (HM:∀ V,Below w.heap.size w V→Calls Tryz.prog 32 #[.agg #[.bool b1,.string m1,.bool false,.string k1,.bool b2,.string m2,.bool false,.string k2],.agg #[.bool b3,.string m3,.bool false,.string k3,.bool b4,.string m4,.bool false,.string k4]] V (RetB V (.agg #[.bool b8,.string m8,.bool false,.string k8,.bool b9,.string m9,.bool false,.string k9]))) (HD:∀ V,Below w.heap.size w V→Calls Tryz.prog 38 #[.agg #[.bool b5,.string m5,.bool false,.string k5,.bool b6,.string m6,.bool false,.string k6],.agg #[.bool b7,.string m7,.bool false,.string k7,.bool b1,.string m1,.bool false,.string k1]] V (RetB V (.tuple #[.agg #[.bool b3,.string m3,.bool false,.string k3,.bool b12,.string m12,.bool false,.string k12],.int .i64 0]))) (HQ:∀ V,Below w.heap.size w V→Calls Tryz.prog 48 #[.agg #[.bool b6,.string m6,.bool false,.string k6,.bool b6,.string m6,.bool false,.string k6],.int .i64 (3)] V (RetB V (.tuple #[.agg #[.bool b13,.string m13,.bool false,.string k13,.bool b14,.string m14,.bool false,.string k14],.int .i64 0]))) (HU:∀ V,Below w.heap.size w V→Calls Tryz.prog 34 #[.agg #[.bool b1,.string m1,.bool false,.string k1,.bool b2,.string m2,.bool false,.string k2]] V (RetB V (.agg #[.bool b10,.string m10,.bool false,.string k10,.bool b11,.string m11,.bool false,.string k11]))) (O1:∀ V,Below w.heap.size w V→Calls Tryz.prog 53 #[.int .i64 (-1),.int .i64 (1)] V (RetB V (.agg #[.bool b3,.string m3,.bool false,.string k3]))) (O2:∀ V,Below w.heap.size w V→Calls Tryz.prog 53 #[.int .i64 (-1),.int .i64 (4)] V (RetB V (.agg #[.bool b12,.string m12,.bool false,.string k12]))) (O3:∀ V,Below w.heap.size w V→Calls Tryz.prog 53 #[.int .i64 (11),.int .i64 (8)] V (RetB V (.agg #[.bool b13,.string m13,.bool false,.string k13]))) (O4:∀ V,Below w.heap.size w V→Calls Tryz.prog 53 #[.int .i64 (3),.int .i64 (2)] V (RetB V (.agg #[.bool b14,.string m14,.bool false,.string k14]))) :
  Calls Tryz.prog 18 #[] w (RetB w (.bool true)):=by
 have C1:=Lib.hid B1
 have C2:=Lib.hid B2
 have C3:=Lib.hid B3
 have C4:=Lib.hid B4
 have C5:=Lib.hid B5
 have C6:=Lib.hid B6
 have C7:=Lib.hid B7
 have C8:=Lib.hid HM
 have C9:=Lib.hid HD
 have C10:=Lib.hid HQ
 have C11:=Lib.hid HU
 have C12:=Lib.hid O1
 have C13:=Lib.hid O2
 have C14:=Lib.hid O3
 have C15:=Lib.hid O4
 clear B1 B2 B3 B4 B5 B6 B7 HM HD HQ HU O1 O2 O3 O4 
 go_enter Tryz.func18,Tryz.ntmps18
 exact wk0
end Go.Proofs.YtdbhahiieokplaaGreatDoor


