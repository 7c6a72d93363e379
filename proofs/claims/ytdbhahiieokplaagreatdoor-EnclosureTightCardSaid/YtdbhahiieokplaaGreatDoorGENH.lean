import Derived.Test.YtdbhahiieokplaaGreatDoorGENE
import Derived.Test.YtdbhahiieokplaaGreatDoorGRLN
set_option linter.unusedSimpArgs false
set_option linter.unusedVariables false

namespace Go.Proofs.YtdbhahiieokplaaGreatDoor
open Go.RowKit
attribute [local go_sem ↓] Go.wp_at_zero Go.wp_at_succ

set_option maxHeartbeats 8000000 in
set_option maxRecDepth 100000 in
theorem tight_neg (w:World) {b1 b3 b4 b5 b6 b7 b8 b9 b2:Bool} {m1 k1 m3 k3 m4 k4 m5 k5 m6 k6 m7 k7 m8 k8 m9 k9 m2 k2:ByteArray} {n5 d5 x y c c1 c2 c3 c4 G:Int} (h:c<0) (e1:x.tmod 41=y) (e2:IntKind.u8.wrap y=y) (e3:IntKind.i64.wrap y=y) (e4:0≤y) (e5:y≤64) (e6:(1:Int)*2^y.toNat=G) (e7:(2:Int)^y.toNat=G) (e8:IntKind.i64.wrap G=G) (g1:0≤c1) (g2:c2≤0) (g3:0≤c3) (g4:c4≤0) (HR:∀ V,Below w.heap.size w V→Calls Tryz.prog 17 #[.agg #[.int .i32 n5,.int .u16 d5]] V (RetB V (.agg #[.bool b1,.string m1,.bool false,.string k1]))) (HS:∀ V,Below w.heap.size w V→Calls Tryz.prog 49 #[.agg #[.bool b1,.string m1,.bool false,.string k1]] V (RetB V (.int .i64 (c)))) (HN:∀ V,Below w.heap.size w V→Calls Tryz.prog 46 #[.agg #[.bool b1,.string m1,.bool false,.string k1]] V (RetB V (.agg #[.bool b2,.string m2,.bool false,.string k2]))) (HX:∀ V,Below w.heap.size w V→Calls Tryz.prog 16 #[.agg #[.bool b2,.string m2,.bool false,.string k2]] V (RetB V (.agg #[.bool b2,.string m2,.bool false,.string k2,.bool b2,.string m2,.bool false,.string k2]))) (HQ:∀ V,Below w.heap.size w V→Calls Tryz.prog 48 #[.agg #[.bool b2,.string m2,.bool false,.string k2,.bool b2,.string m2,.bool false,.string k2],.int .i64 (y)] V (RetB V (.tuple #[.agg #[.bool b3,.string m3,.bool false,.string k3,.bool b4,.string m4,.bool false,.string k4],.int .i64 0]))) (HW:∀ V,Below w.heap.size w V→Calls Tryz.prog 52 #[.agg #[.bool b3,.string m3,.bool false,.string k3,.bool b4,.string m4,.bool false,.string k4]] V (RetB V (.agg #[.bool b5,.string m5,.bool false,.string k5]))) (HO:∀ V,Below w.heap.size w V→Calls Tryz.prog 53 #[.int .i64 (G),.int .i64 (1)] V (RetB V (.agg #[.bool b6,.string m6,.bool false,.string k6]))) (HM:∀ V,Below w.heap.size w V→Calls Tryz.prog 51 #[.agg #[.bool b5,.string m5,.bool false,.string k5],.agg #[.bool b6,.string m6,.bool false,.string k6]] V (RetB V (.agg #[.bool b7,.string m7,.bool false,.string k7]))) (HK:∀ V,Below w.heap.size w V→Calls Tryz.prog 18 #[] V (RetB V (.bool true))) (S1:∀ V,Below w.heap.size w V→Calls Tryz.prog 49 #[.agg #[.bool b3,.string m3,.bool false,.string k3]] V (RetB V (.int .i64 (c1)))) (V1:∀ V,Below w.heap.size w V→Calls Tryz.prog 45 #[.agg #[.bool b3,.string m3,.bool false,.string k3],.agg #[.bool b3,.string m3,.bool false,.string k3]] V (RetB V (.agg #[.bool b8,.string m8,.bool false,.string k8]))) (K1:∀ V,Below w.heap.size w V→Calls Tryz.prog 15 #[.agg #[.bool b8,.string m8,.bool false,.string k8],.agg #[.bool b2,.string m2,.bool false,.string k2]] V (RetB V (.int .i64 (c2)))) (V2:∀ V,Below w.heap.size w V→Calls Tryz.prog 45 #[.agg #[.bool b4,.string m4,.bool false,.string k4],.agg #[.bool b4,.string m4,.bool false,.string k4]] V (RetB V (.agg #[.bool b9,.string m9,.bool false,.string k9]))) (K2:∀ V,Below w.heap.size w V→Calls Tryz.prog 15 #[.agg #[.bool b9,.string m9,.bool false,.string k9],.agg #[.bool b2,.string m2,.bool false,.string k2]] V (RetB V (.int .i64 (c3)))) (O1:∀ V,Below w.heap.size w V→Calls Tryz.prog 53 #[.int .i64 (1),.int .i64 (1)] V (RetB V (.agg #[.bool false,.string ⟨#[1]⟩,.bool false,.string ⟨#[]⟩]))) (K3:∀ V,Below w.heap.size w V→Calls Tryz.prog 15 #[.agg #[.bool b7,.string m7,.bool false,.string k7],.agg #[.bool false,.string ⟨#[1]⟩,.bool false,.string ⟨#[]⟩]] V (RetB V (.int .i64 (c4)))) :
  Calls Tryz.prog 8 #[.agg #[.int .i32 n5,.int .u16 d5],.int .u8 x] w (RetB w (.bool true)):=by
 have C1:=Lib.hid HR
 have C2:=Lib.hid HS
 have C3:=Lib.hid HN
 have C4:=Lib.hid HX
 have C5:=Lib.hid HQ
 have C6:=Lib.hid HW
 have C7:=Lib.hid HO
 have C8:=Lib.hid HM
 have C9:=Lib.hid HK
 have C10:=Lib.hid S1
 have C11:=Lib.hid V1
 have C12:=Lib.hid K1
 have C13:=Lib.hid V2
 have C14:=Lib.hid K2
 have C15:=Lib.hid O1
 have C16:=Lib.hid K3
 have U1:Hid (∀ {p:Prop} (h:p:=by ((fail_if_success (go_not_at_region 6));(fail_if_success (have:=hLL));obtain ⟨LL,hLL⟩:=lexi X.out;go_cut [9] (fun s0 wx=>∃ g0,s0=.pointer (some ⟨g0,0,none⟩)∧Sb w (LL++[(g0,#[.bool b7,.string m7,.bool false,.string k7],25)]) [] wx);all_goals exact wkc)),p):=@fun _ h=>h
 clear HR HS HN HX HQ HW HO HM HK S1 V1 K1 V2 K2 O1 K3 
 go_enter Tryz.func8,Tryz.ntmps8
 exact wk0

set_option maxHeartbeats 8000000 in
set_option maxRecDepth 100000 in
theorem tight_pos (w:World) {b1 b3 b4 b5 b6 b7 b8 b9:Bool} {m1 k1 m3 k3 m4 k4 m5 k5 m6 k6 m7 k7 m8 k8 m9 k9:ByteArray} {n5 d5 x y c c1 c2 c3 c4 G:Int} (h:¬c<0) (e1:x.tmod 41=y) (e2:IntKind.u8.wrap y=y) (e3:IntKind.i64.wrap y=y) (e4:0≤y) (e5:y≤64) (e6:(1:Int)*2^y.toNat=G) (e7:(2:Int)^y.toNat=G) (e8:IntKind.i64.wrap G=G) (g1:0≤c1) (g2:c2≤0) (g3:0≤c3) (g4:c4≤0) (HR:∀ V,Below w.heap.size w V→Calls Tryz.prog 17 #[.agg #[.int .i32 n5,.int .u16 d5]] V (RetB V (.agg #[.bool b1,.string m1,.bool false,.string k1]))) (HS:∀ V,Below w.heap.size w V→Calls Tryz.prog 49 #[.agg #[.bool b1,.string m1,.bool false,.string k1]] V (RetB V (.int .i64 (c)))) (HX:∀ V,Below w.heap.size w V→Calls Tryz.prog 16 #[.agg #[.bool b1,.string m1,.bool false,.string k1]] V (RetB V (.agg #[.bool b1,.string m1,.bool false,.string k1,.bool b1,.string m1,.bool false,.string k1]))) (HQ:∀ V,Below w.heap.size w V→Calls Tryz.prog 48 #[.agg #[.bool b1,.string m1,.bool false,.string k1,.bool b1,.string m1,.bool false,.string k1],.int .i64 (y)] V (RetB V (.tuple #[.agg #[.bool b3,.string m3,.bool false,.string k3,.bool b4,.string m4,.bool false,.string k4],.int .i64 0]))) (HW:∀ V,Below w.heap.size w V→Calls Tryz.prog 52 #[.agg #[.bool b3,.string m3,.bool false,.string k3,.bool b4,.string m4,.bool false,.string k4]] V (RetB V (.agg #[.bool b5,.string m5,.bool false,.string k5]))) (HO:∀ V,Below w.heap.size w V→Calls Tryz.prog 53 #[.int .i64 (G),.int .i64 (1)] V (RetB V (.agg #[.bool b6,.string m6,.bool false,.string k6]))) (HM:∀ V,Below w.heap.size w V→Calls Tryz.prog 51 #[.agg #[.bool b5,.string m5,.bool false,.string k5],.agg #[.bool b6,.string m6,.bool false,.string k6]] V (RetB V (.agg #[.bool b7,.string m7,.bool false,.string k7]))) (HK:∀ V,Below w.heap.size w V→Calls Tryz.prog 18 #[] V (RetB V (.bool true))) (S1:∀ V,Below w.heap.size w V→Calls Tryz.prog 49 #[.agg #[.bool b3,.string m3,.bool false,.string k3]] V (RetB V (.int .i64 (c1)))) (V1:∀ V,Below w.heap.size w V→Calls Tryz.prog 45 #[.agg #[.bool b3,.string m3,.bool false,.string k3],.agg #[.bool b3,.string m3,.bool false,.string k3]] V (RetB V (.agg #[.bool b8,.string m8,.bool false,.string k8]))) (K1:∀ V,Below w.heap.size w V→Calls Tryz.prog 15 #[.agg #[.bool b8,.string m8,.bool false,.string k8],.agg #[.bool b1,.string m1,.bool false,.string k1]] V (RetB V (.int .i64 (c2)))) (V2:∀ V,Below w.heap.size w V→Calls Tryz.prog 45 #[.agg #[.bool b4,.string m4,.bool false,.string k4],.agg #[.bool b4,.string m4,.bool false,.string k4]] V (RetB V (.agg #[.bool b9,.string m9,.bool false,.string k9]))) (K2:∀ V,Below w.heap.size w V→Calls Tryz.prog 15 #[.agg #[.bool b9,.string m9,.bool false,.string k9],.agg #[.bool b1,.string m1,.bool false,.string k1]] V (RetB V (.int .i64 (c3)))) (O1:∀ V,Below w.heap.size w V→Calls Tryz.prog 53 #[.int .i64 (1),.int .i64 (1)] V (RetB V (.agg #[.bool false,.string ⟨#[1]⟩,.bool false,.string ⟨#[]⟩]))) (K3:∀ V,Below w.heap.size w V→Calls Tryz.prog 15 #[.agg #[.bool b7,.string m7,.bool false,.string k7],.agg #[.bool false,.string ⟨#[1]⟩,.bool false,.string ⟨#[]⟩]] V (RetB V (.int .i64 (c4)))) :
  Calls Tryz.prog 8 #[.agg #[.int .i32 n5,.int .u16 d5],.int .u8 x] w (RetB w (.bool true)):=by
 have C1:=Lib.hid HR
 have C2:=Lib.hid HS
 have C3:=Lib.hid HX
 have C4:=Lib.hid HQ
 have C5:=Lib.hid HW
 have C6:=Lib.hid HO
 have C7:=Lib.hid HM
 have C8:=Lib.hid HK
 have C9:=Lib.hid S1
 have C10:=Lib.hid V1
 have C11:=Lib.hid K1
 have C12:=Lib.hid V2
 have C13:=Lib.hid K2
 have C14:=Lib.hid O1
 have C15:=Lib.hid K3
 have U1:Hid (∀ {p:Prop} (h:p:=by ((fail_if_success (go_not_at_region 6));(fail_if_success (have:=hLL));obtain ⟨LL,hLL⟩:=lexi X.out;go_cut [9] (fun s0 wx=>∃ g0,s0=.pointer (some ⟨g0,0,none⟩)∧Sb w (LL++[(g0,#[.bool b7,.string m7,.bool false,.string k7],25)]) [] wx);all_goals exact wkc)),p):=@fun _ h=>h
 clear HR HS HX HQ HW HO HM HK S1 V1 K1 V2 K2 O1 K3 
 go_enter Tryz.func8,Tryz.ntmps8
 exact wk0
end Go.Proofs.YtdbhahiieokplaaGreatDoor


namespace Go.Proofs.YtdbhahiieokplaaGreatDoor
open Go.RowKit
attribute [local go_sem ↓] Go.wp_at_zero Go.wp_at_succ

theorem sqb_le {a b:Rat} (h0:0≤a) (h:a≤b):a*a≤b*b:=by
 have h1:=Rat.mul_le_mul_of_nonneg_right h h0
 have h2:=Rat.mul_le_mul_of_nonneg_left h (show (0:Rat)≤b by grind)
 grind
end Go.Proofs.YtdbhahiieokplaaGreatDoor
