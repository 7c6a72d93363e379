import Derived.Test.YtdbhahiieokplaaGreatDoorGRLF
import Derived.Test.YtdbhahiieokplaaGreatDoorGKtD
import Derived.Test.YtdbhahiieokplaaGreatDoorGQR
import Derived.Test.YtdbhahiieokplaaGreatDoorGRMR
import Derived.Test.YtdbhahiieokplaaGreatDoorGRGC
import Derived.Test.YtdbhahiieokplaaGreatDoorGQW
import Derived.Test.YtdbhahiieokplaaGreatDoorGENEa
set_option linter.unusedSimpArgs false
set_option linter.unusedVariables false
namespace Go.Proofs.YtdbhahiieokplaaGreatDoor
open Go.RowKit
attribute [local go_sem ↓] Go.wp_at_zero Go.wp_at_succ

set_option maxHeartbeats 8000000 in
set_option maxRecDepth 100000 in
theorem ecmp_lt (w:World) {b1 b2 b3 b4:Bool} {m1 k1 m2 k2 m3 k3 m4 k4:ByteArray} {c:Int} (h1:c<0) (H1:∀ V,Below w.heap.size w V→Calls Tryz.prog 71 #[.agg #[.bool b2,.string m2,.bool false,.string k2],.agg #[.bool b3,.string m3,.bool false,.string k3]] V (RetB V (.int .i64 (c)))) :
  Calls Tryz.prog 59 #[.agg #[.bool b1,.string m1,.bool false,.string k1,.bool b2,.string m2,.bool false,.string k2],.agg #[.bool b3,.string m3,.bool false,.string k3,.bool b4,.string m4,.bool false,.string k4]] w (RetB w (.int .i64 (-1))):=by
 have C1:=Lib.hid H1
 clear H1 
 go_enter Tryz.func59,Tryz.ntmps59
 exact wk0

set_option maxHeartbeats 8000000 in
set_option maxRecDepth 100000 in
theorem ecmp_gt (w:World) {b1 b2 b3 b4:Bool} {m1 k1 m2 k2 m3 k3 m4 k4:ByteArray} {c d:Int} (h1:¬c<0) (h2:0<d) (H1:∀ V,Below w.heap.size w V→Calls Tryz.prog 71 #[.agg #[.bool b2,.string m2,.bool false,.string k2],.agg #[.bool b3,.string m3,.bool false,.string k3]] V (RetB V (.int .i64 (c)))) (H2:∀ V,Below w.heap.size w V→Calls Tryz.prog 71 #[.agg #[.bool b1,.string m1,.bool false,.string k1],.agg #[.bool b4,.string m4,.bool false,.string k4]] V (RetB V (.int .i64 (d)))) :
  Calls Tryz.prog 59 #[.agg #[.bool b1,.string m1,.bool false,.string k1,.bool b2,.string m2,.bool false,.string k2],.agg #[.bool b3,.string m3,.bool false,.string k3,.bool b4,.string m4,.bool false,.string k4]] w (RetB w (.int .i64 (1))):=by
 have C1:=Lib.hid H1
 have C2:=Lib.hid H2
 clear H1 H2 
 go_enter Tryz.func59,Tryz.ntmps59
 exact wk0

set_option maxHeartbeats 8000000 in
set_option maxRecDepth 100000 in
theorem ecmp_eq (w:World) {b1:Bool} {m1 k1:ByteArray} {c:Int} (h1:¬c<0) (h2:¬0<c) (H1:∀ V,Below w.heap.size w V→Calls Tryz.prog 71 #[.agg #[.bool b1,.string m1,.bool false,.string k1],.agg #[.bool b1,.string m1,.bool false,.string k1]] V (RetB V (.int .i64 (c)))) :
  Calls Tryz.prog 59 #[.agg #[.bool b1,.string m1,.bool false,.string k1,.bool b1,.string m1,.bool false,.string k1],.agg #[.bool b1,.string m1,.bool false,.string k1,.bool b1,.string m1,.bool false,.string k1]] w (RetB w (.int .i64 (0))):=by
 have C1:=Lib.hid H1
 clear H1 
 go_enter Tryz.func59,Tryz.ntmps59
 exact wk0

set_option maxHeartbeats 8000000 in
set_option maxRecDepth 100000 in
theorem ecmp_un1 (w:World) {b1 b2:Bool} {m1 k1 m2 k2:ByteArray} {c d:Int} (h1:¬c<0) (h2:¬0<d) (hn:b1≠b2∨m1≠m2∨k1≠k2) (H1:∀ V,Below w.heap.size w V→Calls Tryz.prog 71 #[.agg #[.bool b2,.string m2,.bool false,.string k2],.agg #[.bool b1,.string m1,.bool false,.string k1]] V (RetB V (.int .i64 (c)))) (H2:∀ V,Below w.heap.size w V→Calls Tryz.prog 71 #[.agg #[.bool b1,.string m1,.bool false,.string k1],.agg #[.bool b2,.string m2,.bool false,.string k2]] V (RetB V (.int .i64 (d)))) :
  Calls Tryz.prog 59 #[.agg #[.bool b1,.string m1,.bool false,.string k1,.bool b2,.string m2,.bool false,.string k2],.agg #[.bool b1,.string m1,.bool false,.string k1,.bool b2,.string m2,.bool false,.string k2]] w (RetB w (.int .i64 (2))):=by
 have C1:=Lib.hid H1
 have C2:=Lib.hid H2
 rcases hn with hn | hn | hn
 all_goals first | (obtain ⟨e1,e2⟩:=str_ne hn;clear hn) | (have e1:=beq_eq_false_iff_ne.2 hn;clear hn)
 all_goals
  clear H1 H2 
  go_enter Tryz.func59,Tryz.ntmps59
  exact wk0

set_option maxHeartbeats 8000000 in
set_option maxRecDepth 100000 in
theorem ecmp_un2 (w:World) {b1 b2 b3 b4:Bool} {m1 k1 m2 k2 m3 k3 m4 k4:ByteArray} {c d:Int} (h1:¬c<0) (h2:¬0<d) (hn:b1≠b3∨m1≠m3∨k1≠k3∨b2≠b4∨m2≠m4∨k2≠k4) (H1:∀ V,Below w.heap.size w V→Calls Tryz.prog 71 #[.agg #[.bool b2,.string m2,.bool false,.string k2],.agg #[.bool b3,.string m3,.bool false,.string k3]] V (RetB V (.int .i64 (c)))) (H2:∀ V,Below w.heap.size w V→Calls Tryz.prog 71 #[.agg #[.bool b1,.string m1,.bool false,.string k1],.agg #[.bool b4,.string m4,.bool false,.string k4]] V (RetB V (.int .i64 (d)))) :
  Calls Tryz.prog 59 #[.agg #[.bool b1,.string m1,.bool false,.string k1,.bool b2,.string m2,.bool false,.string k2],.agg #[.bool b3,.string m3,.bool false,.string k3,.bool b4,.string m4,.bool false,.string k4]] w (RetB w (.int .i64 (2))):=by
 have C1:=Lib.hid H1
 have C2:=Lib.hid H2
 rcases hn with hn | hn | hn | hn | hn | hn
 all_goals first | (obtain ⟨e1,e2⟩:=str_ne hn;clear hn) | (have e1:=beq_eq_false_iff_ne.2 hn;clear hn)
 all_goals
  clear H1 H2 
  go_enter Tryz.func59,Tryz.ntmps59
  exact wk0

set_option maxHeartbeats 8000000 in
set_option maxRecDepth 100000 in
theorem fcmp_lt (w:World) {b1 b2 b3 b4:Bool} {m1 k1 m2 k2 m3 k3 m4 k4:ByteArray} {c:Int} (h1:c<0) (H1:∀ V,Below w.heap.size w V→Calls Tryz.prog 15 #[.agg #[.bool b2,.string m2,.bool false,.string k2],.agg #[.bool b3,.string m3,.bool false,.string k3]] V (RetB V (.int .i64 (c)))) :
  Calls Tryz.prog 58 #[.agg #[.bool b1,.string m1,.bool false,.string k1,.bool b2,.string m2,.bool false,.string k2],.agg #[.bool b3,.string m3,.bool false,.string k3,.bool b4,.string m4,.bool false,.string k4]] w (RetB w (.int .i64 (-1))):=by
 have C1:=Lib.hid H1
 clear H1 
 go_enter Tryz.func58,Tryz.ntmps58
 exact wk0

set_option maxHeartbeats 8000000 in
set_option maxRecDepth 100000 in
theorem fcmp_gt (w:World) {b1 b2 b3 b4:Bool} {m1 k1 m2 k2 m3 k3 m4 k4:ByteArray} {c d:Int} (h1:¬c<0) (h2:d<0) (H1:∀ V,Below w.heap.size w V→Calls Tryz.prog 15 #[.agg #[.bool b2,.string m2,.bool false,.string k2],.agg #[.bool b3,.string m3,.bool false,.string k3]] V (RetB V (.int .i64 (c)))) (H2:∀ V,Below w.heap.size w V→Calls Tryz.prog 15 #[.agg #[.bool b4,.string m4,.bool false,.string k4],.agg #[.bool b1,.string m1,.bool false,.string k1]] V (RetB V (.int .i64 (d)))) :
  Calls Tryz.prog 58 #[.agg #[.bool b1,.string m1,.bool false,.string k1,.bool b2,.string m2,.bool false,.string k2],.agg #[.bool b3,.string m3,.bool false,.string k3,.bool b4,.string m4,.bool false,.string k4]] w (RetB w (.int .i64 (1))):=by
 have C1:=Lib.hid H1
 have C2:=Lib.hid H2
 clear H1 H2 
 go_enter Tryz.func58,Tryz.ntmps58
 exact wk0

set_option maxHeartbeats 8000000 in
set_option maxRecDepth 100000 in
theorem fcmp_eq (w:World) {b1:Bool} {m1 k1:ByteArray} {c:Int} (h1:¬c<0) (h2:¬0<c) (H1:∀ V,Below w.heap.size w V→Calls Tryz.prog 15 #[.agg #[.bool b1,.string m1,.bool false,.string k1],.agg #[.bool b1,.string m1,.bool false,.string k1]] V (RetB V (.int .i64 (c)))) :
  Calls Tryz.prog 58 #[.agg #[.bool b1,.string m1,.bool false,.string k1,.bool b1,.string m1,.bool false,.string k1],.agg #[.bool b1,.string m1,.bool false,.string k1,.bool b1,.string m1,.bool false,.string k1]] w (RetB w (.int .i64 (0))):=by
 have C1:=Lib.hid H1
 clear H1 
 go_enter Tryz.func58,Tryz.ntmps58
 exact wk0

set_option maxHeartbeats 8000000 in
set_option maxRecDepth 100000 in
theorem fcmp_un1 (w:World) {b1 b2:Bool} {m1 k1 m2 k2:ByteArray} {c d:Int} (h1:¬c<0) (h2:¬d<0) (hn:b1≠b2∨m1≠m2∨k1≠k2) (H1:∀ V,Below w.heap.size w V→Calls Tryz.prog 15 #[.agg #[.bool b2,.string m2,.bool false,.string k2],.agg #[.bool b1,.string m1,.bool false,.string k1]] V (RetB V (.int .i64 (c)))) :
  Calls Tryz.prog 58 #[.agg #[.bool b1,.string m1,.bool false,.string k1,.bool b2,.string m2,.bool false,.string k2],.agg #[.bool b1,.string m1,.bool false,.string k1,.bool b2,.string m2,.bool false,.string k2]] w (RetB w (.int .i64 (2))):=by
 have C1:=Lib.hid H1
 rcases hn with hn | hn | hn
 all_goals first | (obtain ⟨e1,e2⟩:=str_ne hn;clear hn) | (have e1:=beq_eq_false_iff_ne.2 hn;clear hn)
 all_goals
  clear H1 
  go_enter Tryz.func58,Tryz.ntmps58
  exact wk0

set_option maxHeartbeats 8000000 in
set_option maxRecDepth 100000 in
theorem fcmp_un2 (w:World) {b1 b2 b3 b4:Bool} {m1 k1 m2 k2 m3 k3 m4 k4:ByteArray} {c d:Int} (h1:¬c<0) (h2:¬d<0) (hn:b1≠b3∨m1≠m3∨k1≠k3∨b2≠b4∨m2≠m4∨k2≠k4) (H1:∀ V,Below w.heap.size w V→Calls Tryz.prog 15 #[.agg #[.bool b2,.string m2,.bool false,.string k2],.agg #[.bool b3,.string m3,.bool false,.string k3]] V (RetB V (.int .i64 (c)))) (H2:∀ V,Below w.heap.size w V→Calls Tryz.prog 15 #[.agg #[.bool b4,.string m4,.bool false,.string k4],.agg #[.bool b1,.string m1,.bool false,.string k1]] V (RetB V (.int .i64 (d)))) :
  Calls Tryz.prog 58 #[.agg #[.bool b1,.string m1,.bool false,.string k1,.bool b2,.string m2,.bool false,.string k2],.agg #[.bool b3,.string m3,.bool false,.string k3,.bool b4,.string m4,.bool false,.string k4]] w (RetB w (.int .i64 (2))):=by
 have C1:=Lib.hid H1
 have C2:=Lib.hid H2
 rcases hn with hn | hn | hn | hn | hn | hn
 all_goals first | (obtain ⟨e1,e2⟩:=str_ne hn;clear hn) | (have e1:=beq_eq_false_iff_ne.2 hn;clear hn)
 all_goals
  clear H1 H2 
  go_enter Tryz.func58,Tryz.ntmps58
  exact wk0
end Go.Proofs.YtdbhahiieokplaaGreatDoor
