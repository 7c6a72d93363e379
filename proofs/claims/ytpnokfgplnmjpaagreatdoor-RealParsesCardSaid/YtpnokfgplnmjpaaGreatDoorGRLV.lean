import Derived.Test.YtpnokfgplnmjpaaGreatDoorGRLR
set_option linter.unusedSimpArgs false
set_option linter.unusedVariables false

namespace Go.Proofs.YtpnokfgplnmjpaaGreatDoor
open Go.RowKit
attribute [local go_sem ↓] Go.wp_at_zero Go.wp_at_succ

set_option maxHeartbeats 8000000 in
set_option maxRecDepth 100000 in
theorem pchk_minus (w:World) {b1 d1 c1 e1:Bool} {m1 k1 n1 l1:ByteArray} (HC1:∀ V,Below w.heap.size w V→Calls Tryz.prog 69 #[.agg #[.bool b1,.string m1,.bool d1,.string k1]] V (RetB V (.int .i64 (0)))) (HC2:∀ V,Below w.heap.size w V→Calls Tryz.prog 69 #[.agg #[.bool c1,.string n1,.bool e1,.string l1]] V (RetB V (.int .i64 (0)))) (HI:∀ V,Below w.heap.size w V→Calls Tryz.prog 70 #[.agg #[.bool b1,.string m1,.bool d1,.string k1,.bool c1,.string n1,.bool e1,.string l1,.bool true]] V (RetB V (.bool true))) :
  Calls Tryz.prog 18 #[.agg #[.bool b1,.string m1,.bool d1,.string k1,.bool c1,.string n1,.bool e1,.string l1,.bool true]] w (RetB w (.int .i64 (5))):=by
 have C1:=Lib.hid HC1
 have C2:=Lib.hid HC2
 have C3:=Lib.hid HI
 clear HC1 HC2 HI 
 go_enter Tryz.func18,Tryz.ntmps18
 exact wk0

set_option maxHeartbeats 8000000 in
set_option maxRecDepth 100000 in
theorem pchk_neg (w:World) {b1 d1 c1 e1 s1:Bool} {m1 k1 n1 l1:ByteArray} (HC1:∀ V,Below w.heap.size w V→Calls Tryz.prog 69 #[.agg #[.bool b1,.string m1,.bool d1,.string k1]] V (RetB V (.int .i64 (0)))) (HC2:∀ V,Below w.heap.size w V→Calls Tryz.prog 69 #[.agg #[.bool c1,.string n1,.bool e1,.string l1]] V (RetB V (.int .i64 (0)))) (HI:∀ V,Below w.heap.size w V→Calls Tryz.prog 70 #[.agg #[.bool b1,.string m1,.bool d1,.string k1,.bool c1,.string n1,.bool e1,.string l1,.bool s1]] V (RetB V (.bool false))) (HS:∀ V,Below w.heap.size w V→Calls Tryz.prog 71 #[.agg #[.bool c1,.string n1,.bool e1,.string l1]] V (RetB V (.int .i64 (-1)))) :
  Calls Tryz.prog 18 #[.agg #[.bool b1,.string m1,.bool d1,.string k1,.bool c1,.string n1,.bool e1,.string l1,.bool s1]] w (RetB w (.int .i64 (5))):=by
 have C1:=Lib.hid HC1
 have C2:=Lib.hid HC2
 have C3:=Lib.hid HI
 have C4:=Lib.hid HS
 clear HC1 HC2 HI HS 
 go_enter Tryz.func18,Tryz.ntmps18
 exact wk0

set_option maxHeartbeats 8000000 in
set_option maxRecDepth 100000 in
theorem pchk_sq (w:World) {b1 d1 c1 e1 s1:Bool} {m1 k1 n1 l1:ByteArray} {b2:Bool} {m2 k2:ByteArray} (HC1:∀ V,Below w.heap.size w V→Calls Tryz.prog 69 #[.agg #[.bool b1,.string m1,.bool d1,.string k1]] V (RetB V (.int .i64 (0)))) (HC2:∀ V,Below w.heap.size w V→Calls Tryz.prog 69 #[.agg #[.bool c1,.string n1,.bool e1,.string l1]] V (RetB V (.int .i64 (0)))) (HI:∀ V,Below w.heap.size w V→Calls Tryz.prog 70 #[.agg #[.bool b1,.string m1,.bool d1,.string k1,.bool c1,.string n1,.bool e1,.string l1,.bool s1]] V (RetB V (.bool false))) (HS:∀ V,Below w.heap.size w V→Calls Tryz.prog 71 #[.agg #[.bool c1,.string n1,.bool e1,.string l1]] V (RetB V (.int .i64 (1)))) (HR:∀ V,Below w.heap.size w V→Calls Tryz.prog 72 #[.agg #[.bool c1,.string n1,.bool e1,.string l1]] V (RetB V (.tuple #[.agg #[.bool b2,.string m2,.bool false,.string k2],.bool true]))) :
  Calls Tryz.prog 18 #[.agg #[.bool b1,.string m1,.bool d1,.string k1,.bool c1,.string n1,.bool e1,.string l1,.bool s1]] w (RetB w (.int .i64 (5))):=by
 have C1:=Lib.hid HC1
 have C2:=Lib.hid HC2
 have C3:=Lib.hid HI
 have C4:=Lib.hid HS
 have C5:=Lib.hid HR
 clear HC1 HC2 HI HS HR 
 go_enter Tryz.func18,Tryz.ntmps18
 exact wk0

theorem bool_of {c:Bool} {q:Rat} {n l:ByteArray} (h:Rq q c n l) (h0:0<q):c=false:=by
 rw [h.mag.1]
 exact decide_eq_false (by rw [num_neg_iff];grind)
end Go.Proofs.YtpnokfgplnmjpaaGreatDoor
