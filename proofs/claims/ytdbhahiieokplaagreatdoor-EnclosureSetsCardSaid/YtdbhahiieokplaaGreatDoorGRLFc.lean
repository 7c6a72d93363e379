import Derived.Test.YtdbhahiieokplaaGreatDoorGRLFa
set_option linter.unusedSimpArgs false
set_option linter.unusedVariables false
namespace Go.Proofs.YtdbhahiieokplaaGreatDoor
open Go.RowKit
attribute [local go_sem ↓] Go.wp_at_zero Go.wp_at_succ

set_option maxHeartbeats 8000000 in
set_option maxRecDepth 100000 in
theorem hull_w1 (w:World) {g:Nat} {b1 b2 b11 b21:Bool} {m1 k1 m2 k2 m11 k11 m21 k21:ByteArray} (OLD:Hid (∀ V,Below w.heap.size w V→cellsAt V g 0 [.bool b2,.string m2,.bool false,.string k2])) (HX:∀ V,Below w.heap.size w V→Calls Tryz.prog 16 #[.agg #[.bool b1,.string m1,.bool false,.string k1]] V (RetB V (.agg #[.bool b1,.string m1,.bool false,.string k1,.bool b1,.string m1,.bool false,.string k1]))) (HL0:∀ V,Below w.heap.size w V→Calls Tryz.prog 108 #[.agg #[.bool b1,.string m1,.bool false,.string k1],.agg #[.bool b2,.string m2,.bool false,.string k2]] V (RetB V (.agg #[.bool b11,.string m11,.bool false,.string k11]))) (HH0:∀ V,Below w.heap.size w V→Calls Tryz.prog 107 #[.agg #[.bool b1,.string m1,.bool false,.string k1],.agg #[.bool b2,.string m2,.bool false,.string k2]] V (RetB V (.agg #[.bool b21,.string m21,.bool false,.string k21]))) :
  Calls Tryz.prog 85 #[.agg #[.bool b1,.string m1,.bool false,.string k1],.slice (some ⟨g,0,none⟩) 1 1] w (RetB w (.agg #[.bool b11,.string m11,.bool false,.string k11,.bool b21,.string m21,.bool false,.string k21])):=by
 have C1:=Lib.hid HX
 have C2:=Lib.hid HL0
 have C3:=Lib.hid HH0
 have Z1:Hid (∀ {p:Prop} (h:p:=by ((with_reducible refine wp_loop_rounds 2 ?_);rw [rounds_succ];all_goals exact wkO)),p):=@fun _ h=>h
 have Z2:Hid (∀ {p:Prop} (h:p:=by (rw [rounds_succ];all_goals exact wkO)),p):=@fun _ h=>h
 have RS:=Lib.hid Tryz.results85
 clear HX HL0 HH0 
 go_enter Tryz.func85,Tryz.ntmps85
 exact wkO0

set_option maxHeartbeats 8000000 in
set_option maxRecDepth 100000 in
theorem hull_w2 (w:World) {g:Nat} {b1 b2 b3 b11 b12 b21 b22:Bool} {m1 k1 m2 k2 m3 k3 m11 k11 m12 k12 m21 k21 m22 k22:ByteArray} (OLD:Hid (∀ V,Below w.heap.size w V→cellsAt V g 0 [.bool b2,.string m2,.bool false,.string k2,.bool b3,.string m3,.bool false,.string k3])) (HX:∀ V,Below w.heap.size w V→Calls Tryz.prog 16 #[.agg #[.bool b1,.string m1,.bool false,.string k1]] V (RetB V (.agg #[.bool b1,.string m1,.bool false,.string k1,.bool b1,.string m1,.bool false,.string k1]))) (HL0:∀ V,Below w.heap.size w V→Calls Tryz.prog 108 #[.agg #[.bool b1,.string m1,.bool false,.string k1],.agg #[.bool b2,.string m2,.bool false,.string k2]] V (RetB V (.agg #[.bool b11,.string m11,.bool false,.string k11]))) (HH0:∀ V,Below w.heap.size w V→Calls Tryz.prog 107 #[.agg #[.bool b1,.string m1,.bool false,.string k1],.agg #[.bool b2,.string m2,.bool false,.string k2]] V (RetB V (.agg #[.bool b21,.string m21,.bool false,.string k21]))) (HL1:∀ V,Below w.heap.size w V→Calls Tryz.prog 108 #[.agg #[.bool b11,.string m11,.bool false,.string k11],.agg #[.bool b3,.string m3,.bool false,.string k3]] V (RetB V (.agg #[.bool b12,.string m12,.bool false,.string k12]))) (HH1:∀ V,Below w.heap.size w V→Calls Tryz.prog 107 #[.agg #[.bool b21,.string m21,.bool false,.string k21],.agg #[.bool b3,.string m3,.bool false,.string k3]] V (RetB V (.agg #[.bool b22,.string m22,.bool false,.string k22]))) :
  Calls Tryz.prog 85 #[.agg #[.bool b1,.string m1,.bool false,.string k1],.slice (some ⟨g,0,none⟩) 2 2] w (RetB w (.agg #[.bool b12,.string m12,.bool false,.string k12,.bool b22,.string m22,.bool false,.string k22])):=by
 have C1:=Lib.hid HX
 have C2:=Lib.hid HL0
 have C3:=Lib.hid HH0
 have C4:=Lib.hid HL1
 have C5:=Lib.hid HH1
 have Z1:Hid (∀ {p:Prop} (h:p:=by ((with_reducible refine wp_loop_rounds 3 ?_);rw [rounds_succ];all_goals exact wkO)),p):=@fun _ h=>h
 have Z2:Hid (∀ {p:Prop} (h:p:=by (rw [rounds_succ];all_goals exact wkO)),p):=@fun _ h=>h
 have RS:=Lib.hid Tryz.results85
 clear HX HL0 HH0 HL1 HH1 
 go_enter Tryz.func85,Tryz.ntmps85
 exact wkO0

set_option maxHeartbeats 8000000 in
set_option maxRecDepth 100000 in
theorem hull_w3 (w:World) {g:Nat} {b1 b2 b3 b4 b11 b12 b13 b21 b22 b23:Bool} {m1 k1 m2 k2 m3 k3 m4 k4 m11 k11 m12 k12 m13 k13 m21 k21 m22 k22 m23 k23:ByteArray} (OLD:Hid (∀ V,Below w.heap.size w V→cellsAt V g 0 [.bool b2,.string m2,.bool false,.string k2,.bool b3,.string m3,.bool false,.string k3,.bool b4,.string m4,.bool false,.string k4])) (HX:∀ V,Below w.heap.size w V→Calls Tryz.prog 16 #[.agg #[.bool b1,.string m1,.bool false,.string k1]] V (RetB V (.agg #[.bool b1,.string m1,.bool false,.string k1,.bool b1,.string m1,.bool false,.string k1]))) (HL0:∀ V,Below w.heap.size w V→Calls Tryz.prog 108 #[.agg #[.bool b1,.string m1,.bool false,.string k1],.agg #[.bool b2,.string m2,.bool false,.string k2]] V (RetB V (.agg #[.bool b11,.string m11,.bool false,.string k11]))) (HH0:∀ V,Below w.heap.size w V→Calls Tryz.prog 107 #[.agg #[.bool b1,.string m1,.bool false,.string k1],.agg #[.bool b2,.string m2,.bool false,.string k2]] V (RetB V (.agg #[.bool b21,.string m21,.bool false,.string k21]))) (HL1:∀ V,Below w.heap.size w V→Calls Tryz.prog 108 #[.agg #[.bool b11,.string m11,.bool false,.string k11],.agg #[.bool b3,.string m3,.bool false,.string k3]] V (RetB V (.agg #[.bool b12,.string m12,.bool false,.string k12]))) (HH1:∀ V,Below w.heap.size w V→Calls Tryz.prog 107 #[.agg #[.bool b21,.string m21,.bool false,.string k21],.agg #[.bool b3,.string m3,.bool false,.string k3]] V (RetB V (.agg #[.bool b22,.string m22,.bool false,.string k22]))) (HL2:∀ V,Below w.heap.size w V→Calls Tryz.prog 108 #[.agg #[.bool b12,.string m12,.bool false,.string k12],.agg #[.bool b4,.string m4,.bool false,.string k4]] V (RetB V (.agg #[.bool b13,.string m13,.bool false,.string k13]))) (HH2:∀ V,Below w.heap.size w V→Calls Tryz.prog 107 #[.agg #[.bool b22,.string m22,.bool false,.string k22],.agg #[.bool b4,.string m4,.bool false,.string k4]] V (RetB V (.agg #[.bool b23,.string m23,.bool false,.string k23]))) :
  Calls Tryz.prog 85 #[.agg #[.bool b1,.string m1,.bool false,.string k1],.slice (some ⟨g,0,none⟩) 3 3] w (RetB w (.agg #[.bool b13,.string m13,.bool false,.string k13,.bool b23,.string m23,.bool false,.string k23])):=by
 have C1:=Lib.hid HX
 have C2:=Lib.hid HL0
 have C3:=Lib.hid HH0
 have C4:=Lib.hid HL1
 have C5:=Lib.hid HH1
 have C6:=Lib.hid HL2
 have C7:=Lib.hid HH2
 have Z1:Hid (∀ {p:Prop} (h:p:=by ((with_reducible refine wp_loop_rounds 4 ?_);rw [rounds_succ];all_goals exact wkO)),p):=@fun _ h=>h
 have Z2:Hid (∀ {p:Prop} (h:p:=by (rw [rounds_succ];all_goals exact wkO)),p):=@fun _ h=>h
 have RS:=Lib.hid Tryz.results85
 clear HX HL0 HH0 HL1 HH1 HL2 HH2 
 go_enter Tryz.func85,Tryz.ntmps85
 exact wkO0

set_option maxHeartbeats 8000000 in
set_option maxRecDepth 100000 in
theorem hull_w3o (w:World) {g:Nat} {b1 b2 b3 b4 b11 b12 b13 b21 b22 b23:Bool} {m1 k1 m2 k2 m3 k3 m4 k4 m11 k11 m12 k12 m13 k13 m21 k21 m22 k22 m23 k23:ByteArray} (OLD:Hid (∀ V,Below w.heap.size w V→cellsAt V g 4 [.bool b2,.string m2,.bool false,.string k2,.bool b3,.string m3,.bool false,.string k3,.bool b4,.string m4,.bool false,.string k4])) (HX:∀ V,Below w.heap.size w V→Calls Tryz.prog 16 #[.agg #[.bool b1,.string m1,.bool false,.string k1]] V (RetB V (.agg #[.bool b1,.string m1,.bool false,.string k1,.bool b1,.string m1,.bool false,.string k1]))) (HL0:∀ V,Below w.heap.size w V→Calls Tryz.prog 108 #[.agg #[.bool b1,.string m1,.bool false,.string k1],.agg #[.bool b2,.string m2,.bool false,.string k2]] V (RetB V (.agg #[.bool b11,.string m11,.bool false,.string k11]))) (HH0:∀ V,Below w.heap.size w V→Calls Tryz.prog 107 #[.agg #[.bool b1,.string m1,.bool false,.string k1],.agg #[.bool b2,.string m2,.bool false,.string k2]] V (RetB V (.agg #[.bool b21,.string m21,.bool false,.string k21]))) (HL1:∀ V,Below w.heap.size w V→Calls Tryz.prog 108 #[.agg #[.bool b11,.string m11,.bool false,.string k11],.agg #[.bool b3,.string m3,.bool false,.string k3]] V (RetB V (.agg #[.bool b12,.string m12,.bool false,.string k12]))) (HH1:∀ V,Below w.heap.size w V→Calls Tryz.prog 107 #[.agg #[.bool b21,.string m21,.bool false,.string k21],.agg #[.bool b3,.string m3,.bool false,.string k3]] V (RetB V (.agg #[.bool b22,.string m22,.bool false,.string k22]))) (HL2:∀ V,Below w.heap.size w V→Calls Tryz.prog 108 #[.agg #[.bool b12,.string m12,.bool false,.string k12],.agg #[.bool b4,.string m4,.bool false,.string k4]] V (RetB V (.agg #[.bool b13,.string m13,.bool false,.string k13]))) (HH2:∀ V,Below w.heap.size w V→Calls Tryz.prog 107 #[.agg #[.bool b22,.string m22,.bool false,.string k22],.agg #[.bool b4,.string m4,.bool false,.string k4]] V (RetB V (.agg #[.bool b23,.string m23,.bool false,.string k23]))) :
  Calls Tryz.prog 85 #[.agg #[.bool b1,.string m1,.bool false,.string k1],.slice (some ⟨g,4,none⟩) 3 3] w (RetB w (.agg #[.bool b13,.string m13,.bool false,.string k13,.bool b23,.string m23,.bool false,.string k23])):=by
 have C1:=Lib.hid HX
 have C2:=Lib.hid HL0
 have C3:=Lib.hid HH0
 have C4:=Lib.hid HL1
 have C5:=Lib.hid HH1
 have C6:=Lib.hid HL2
 have C7:=Lib.hid HH2
 have Z1:Hid (∀ {p:Prop} (h:p:=by ((with_reducible refine wp_loop_rounds 4 ?_);rw [rounds_succ];all_goals exact wkO)),p):=@fun _ h=>h
 have Z2:Hid (∀ {p:Prop} (h:p:=by (rw [rounds_succ];all_goals exact wkO)),p):=@fun _ h=>h
 have RS:=Lib.hid Tryz.results85
 clear HX HL0 HH0 HL1 HH1 HL2 HH2 
 go_enter Tryz.func85,Tryz.ntmps85
 exact wkO0
end Go.Proofs.YtdbhahiieokplaaGreatDoor


