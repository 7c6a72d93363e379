import Derived.Test.YtdbhahiieokplaaGreatDoorGRLFc
set_option linter.unusedSimpArgs false
set_option linter.unusedVariables false
namespace Go.Proofs.YtdbhahiieokplaaGreatDoor
open Go.RowKit
attribute [local go_sem ↓] Go.wp_at_zero Go.wp_at_succ

set_option maxHeartbeats 8000000 in
set_option maxRecDepth 100000 in
theorem emul_w (w:World) {b1 b2 b3 b4 b5 b6 b7 b8 b9 b10:Bool} {m1 k1 m2 k2 m3 k3 m4 k4 m5 k5 m6 k6 m7 k7 m8 k8 m9 k9 m10 k10:ByteArray} (HH:∀ V,Below w.heap.size w V→∀ {T:TypeId} (g:Nat),V.heap[g]?=some (.cells #[.bool b5,.string m5,.bool false,.string k5,.bool b6,.string m6,.bool false,.string k6,.bool b7,.string m7,.bool false,.string k7,.bool b8,.string m8,.bool false,.string k8] T (0,0))→Calls Tryz.prog 85 #[.agg #[.bool b5,.string m5,.bool false,.string k5],.slice (some ⟨g,4,none⟩) 3 3] V (RetB V (.agg #[.bool b9,.string m9,.bool false,.string k9,.bool b10,.string m10,.bool false,.string k10]))) (H1:∀ V,Below w.heap.size w V→Calls Tryz.prog 51 #[.agg #[.bool b1,.string m1,.bool false,.string k1],.agg #[.bool b3,.string m3,.bool false,.string k3]] V (RetB V (.agg #[.bool b5,.string m5,.bool false,.string k5]))) (H2:∀ V,Below w.heap.size w V→Calls Tryz.prog 51 #[.agg #[.bool b1,.string m1,.bool false,.string k1],.agg #[.bool b4,.string m4,.bool false,.string k4]] V (RetB V (.agg #[.bool b6,.string m6,.bool false,.string k6]))) (H3:∀ V,Below w.heap.size w V→Calls Tryz.prog 51 #[.agg #[.bool b2,.string m2,.bool false,.string k2],.agg #[.bool b3,.string m3,.bool false,.string k3]] V (RetB V (.agg #[.bool b7,.string m7,.bool false,.string k7]))) (H4:∀ V,Below w.heap.size w V→Calls Tryz.prog 51 #[.agg #[.bool b2,.string m2,.bool false,.string k2],.agg #[.bool b4,.string m4,.bool false,.string k4]] V (RetB V (.agg #[.bool b8,.string m8,.bool false,.string k8]))) :
  Calls Tryz.prog 32 #[.agg #[.bool b1,.string m1,.bool false,.string k1,.bool b2,.string m2,.bool false,.string k2],.agg #[.bool b3,.string m3,.bool false,.string k3,.bool b4,.string m4,.bool false,.string k4]] w (RetB w (.agg #[.bool b9,.string m9,.bool false,.string k9,.bool b10,.string m10,.bool false,.string k10])):=by
 have C5:=Lib.hid HH
 have C1:=Lib.hid H1
 have C2:=Lib.hid H2
 have C3:=Lib.hid H3
 have C4:=Lib.hid H4
 have U1:Hid (∀ {p:Prop} (h:p:=by ((fail_if_success (go_not_at_region 1));(fail_if_success (have:=hLL));obtain ⟨LL,hLL⟩:=lexi X.out;go_cut [5] (fun s0 wx=>∃ g0,s0=.pointer (some ⟨g0,0,none⟩)∧Sb w (LL++[(g0,#[.bool b5,.string m5,.bool false,.string k5,.bool b6,.string m6,.bool false,.string k6,.bool b7,.string m7,.bool false,.string k7,.bool b8,.string m8,.bool false,.string k8],116)]) [] wx);all_goals exact wkc)),p):=@fun _ h=>h
 have RS:=Lib.hid Tryz.results32
 clear HH H1 H2 H3 H4 
 go_enter Tryz.func32,Tryz.ntmps32
 exact wk0

set_option maxHeartbeats 8000000 in
set_option maxRecDepth 100000 in
theorem esca_w (w:World) {b1 b2 b3 b4 b5 b6 b7:Bool} {m1 k1 m2 k2 m3 k3 m4 k4 m5 k5 m6 k6 m7 k7:ByteArray} (HH:∀ V,Below w.heap.size w V→∀ {T:TypeId} (g:Nat),V.heap[g]?=some (.cells #[.bool b5,.string m5,.bool false,.string k5] T (0,0))→Calls Tryz.prog 85 #[.agg #[.bool b4,.string m4,.bool false,.string k4],.slice (some ⟨g,0,none⟩) 1 1] V (RetB V (.agg #[.bool b6,.string m6,.bool false,.string k6,.bool b7,.string m7,.bool false,.string k7]))) (H1:∀ V,Below w.heap.size w V→Calls Tryz.prog 51 #[.agg #[.bool b1,.string m1,.bool false,.string k1],.agg #[.bool b3,.string m3,.bool false,.string k3]] V (RetB V (.agg #[.bool b4,.string m4,.bool false,.string k4]))) (H2:∀ V,Below w.heap.size w V→Calls Tryz.prog 51 #[.agg #[.bool b2,.string m2,.bool false,.string k2],.agg #[.bool b3,.string m3,.bool false,.string k3]] V (RetB V (.agg #[.bool b5,.string m5,.bool false,.string k5]))) :
  Calls Tryz.prog 37 #[.agg #[.bool b1,.string m1,.bool false,.string k1,.bool b2,.string m2,.bool false,.string k2],.agg #[.bool b3,.string m3,.bool false,.string k3]] w (RetB w (.agg #[.bool b6,.string m6,.bool false,.string k6,.bool b7,.string m7,.bool false,.string k7])):=by
 have C3:=Lib.hid HH
 have C1:=Lib.hid H1
 have C2:=Lib.hid H2
 have RS:=Lib.hid Tryz.results37
 clear HH H1 H2 
 go_enter Tryz.func37,Tryz.ntmps37
 exact wk0

set_option maxHeartbeats 8000000 in
set_option maxRecDepth 100000 in
theorem esqu_yes (w:World) {b1 b2 b3 b4 b5 b6:Bool} {m1 k1 m2 k2 m3 k3 m4 k4 m5 k5 m6 k6:ByteArray} (HH:∀ V,Below w.heap.size w V→∀ {T:TypeId} (g:Nat),V.heap[g]?=some (.cells #[.bool b4,.string m4,.bool false,.string k4,.bool false,.string ⟨#[]⟩,.bool false,.string ⟨#[]⟩] T (0,0))→Calls Tryz.prog 85 #[.agg #[.bool b3,.string m3,.bool false,.string k3],.slice (some ⟨g,0,none⟩) 2 2] V (RetB V (.agg #[.bool b5,.string m5,.bool false,.string k5,.bool b6,.string m6,.bool false,.string k6]))) (H1:∀ V,Below w.heap.size w V→Calls Tryz.prog 51 #[.agg #[.bool b1,.string m1,.bool false,.string k1],.agg #[.bool b1,.string m1,.bool false,.string k1]] V (RetB V (.agg #[.bool b3,.string m3,.bool false,.string k3]))) (H2:∀ V,Below w.heap.size w V→Calls Tryz.prog 51 #[.agg #[.bool b2,.string m2,.bool false,.string k2],.agg #[.bool b2,.string m2,.bool false,.string k2]] V (RetB V (.agg #[.bool b4,.string m4,.bool false,.string k4]))) (HC:∀ V,Below w.heap.size w V→Calls Tryz.prog 42 #[.agg #[.bool b1,.string m1,.bool false,.string k1,.bool b2,.string m2,.bool false,.string k2],.agg #[.bool false,.string ⟨#[]⟩,.bool false,.string ⟨#[]⟩]] V (RetB V (.bool true))) :
  Calls Tryz.prog 34 #[.agg #[.bool b1,.string m1,.bool false,.string k1,.bool b2,.string m2,.bool false,.string k2]] w (RetB w (.agg #[.bool b5,.string m5,.bool false,.string k5,.bool b6,.string m6,.bool false,.string k6])):=by
 have C4:=Lib.hid HH
 have C1:=Lib.hid H1
 have C2:=Lib.hid H2
 have C3:=Lib.hid HC
 have U1:Hid (∀ {p:Prop} (h:p:=by ((fail_if_success (go_not_at_region 1));(fail_if_success (have:=hLL));obtain ⟨LL,hLL⟩:=lexi X.out;go_cut [3,4] (fun s0 s1 wx=>∃ g0 g1,s0=.pointer (some ⟨g0,0,none⟩)∧s1=.pointer (some ⟨g1,0,none⟩)∧Sb w (LL++[(g0,#[.bool b3,.string m3,.bool false,.string k3],25),(g1,#[.bool b4,.string m4,.bool false,.string k4],25)]) [] wx);all_goals exact wkc)),p):=@fun _ h=>h
 have M1:Hid (∀ {p:Prop} (h:p:=by first | exact ⟨_,_,rfl,rfl,X.out.pick [0,1,2,3] _ [] rfl (by decide) (by simp)⟩ | exact ⟨_,_,rfl,rfl,X.out.pick [0,1,3,2] _ [] rfl (by decide) (by simp)⟩),p):=@fun _ h=>h
 have RS:=Lib.hid Tryz.results34
 clear HH H1 H2 HC 
 go_enter Tryz.func34,Tryz.ntmps34
 exact wk0

set_option maxHeartbeats 8000000 in
set_option maxRecDepth 100000 in
theorem esqu_no (w:World) {b1 b2 b3 b4 b5 b6:Bool} {m1 k1 m2 k2 m3 k3 m4 k4 m5 k5 m6 k6:ByteArray} (HH:∀ V,Below w.heap.size w V→∀ {T:TypeId} (g:Nat),V.heap[g]?=some (.cells #[.bool b4,.string m4,.bool false,.string k4] T (0,0))→Calls Tryz.prog 85 #[.agg #[.bool b3,.string m3,.bool false,.string k3],.slice (some ⟨g,0,none⟩) 1 1] V (RetB V (.agg #[.bool b5,.string m5,.bool false,.string k5,.bool b6,.string m6,.bool false,.string k6]))) (H1:∀ V,Below w.heap.size w V→Calls Tryz.prog 51 #[.agg #[.bool b1,.string m1,.bool false,.string k1],.agg #[.bool b1,.string m1,.bool false,.string k1]] V (RetB V (.agg #[.bool b3,.string m3,.bool false,.string k3]))) (H2:∀ V,Below w.heap.size w V→Calls Tryz.prog 51 #[.agg #[.bool b2,.string m2,.bool false,.string k2],.agg #[.bool b2,.string m2,.bool false,.string k2]] V (RetB V (.agg #[.bool b4,.string m4,.bool false,.string k4]))) (HC:∀ V,Below w.heap.size w V→Calls Tryz.prog 42 #[.agg #[.bool b1,.string m1,.bool false,.string k1,.bool b2,.string m2,.bool false,.string k2],.agg #[.bool false,.string ⟨#[]⟩,.bool false,.string ⟨#[]⟩]] V (RetB V (.bool false))) :
  Calls Tryz.prog 34 #[.agg #[.bool b1,.string m1,.bool false,.string k1,.bool b2,.string m2,.bool false,.string k2]] w (RetB w (.agg #[.bool b5,.string m5,.bool false,.string k5,.bool b6,.string m6,.bool false,.string k6])):=by
 have C4:=Lib.hid HH
 have C1:=Lib.hid H1
 have C2:=Lib.hid H2
 have C3:=Lib.hid HC
 have U1:Hid (∀ {p:Prop} (h:p:=by ((fail_if_success (go_not_at_region 1));(fail_if_success (have:=hLL));obtain ⟨LL,hLL⟩:=lexi X.out;go_cut [3,4] (fun s0 s1 wx=>∃ g0 g1,s0=.pointer (some ⟨g0,0,none⟩)∧s1=.pointer (some ⟨g1,0,none⟩)∧Sb w (LL++[(g0,#[.bool b3,.string m3,.bool false,.string k3],25),(g1,#[.bool b4,.string m4,.bool false,.string k4],25)]) [] wx);all_goals exact wkc)),p):=@fun _ h=>h
 have M1:Hid (∀ {p:Prop} (h:p:=by first | exact ⟨_,_,rfl,rfl,X.out.pick [0,1,2,3] _ [] rfl (by decide) (by simp)⟩ | exact ⟨_,_,rfl,rfl,X.out.pick [0,1,3,2] _ [] rfl (by decide) (by simp)⟩),p):=@fun _ h=>h
 have RS:=Lib.hid Tryz.results34
 clear HH H1 H2 HC 
 go_enter Tryz.func34,Tryz.ntmps34
 exact wk0

set_option maxHeartbeats 8000000 in
set_option maxRecDepth 100000 in
theorem ehul_w (w:World) {b1 b2 b3 b4 b5 b6:Bool} {m1 k1 m2 k2 m3 k3 m4 k4 m5 k5 m6 k6:ByteArray} (HH:∀ V,Below w.heap.size w V→∀ {T:TypeId} (g:Nat),V.heap[g]?=some (.cells #[.bool b2,.string m2,.bool false,.string k2,.bool b3,.string m3,.bool false,.string k3,.bool b4,.string m4,.bool false,.string k4] T (0,0))→Calls Tryz.prog 85 #[.agg #[.bool b1,.string m1,.bool false,.string k1],.slice (some ⟨g,0,none⟩) 3 3] V (RetB V (.agg #[.bool b5,.string m5,.bool false,.string k5,.bool b6,.string m6,.bool false,.string k6])))  :
  Calls Tryz.prog 54 #[.agg #[.bool b1,.string m1,.bool false,.string k1,.bool b2,.string m2,.bool false,.string k2],.agg #[.bool b3,.string m3,.bool false,.string k3,.bool b4,.string m4,.bool false,.string k4]] w (RetB w (.agg #[.bool b5,.string m5,.bool false,.string k5,.bool b6,.string m6,.bool false,.string k6])):=by
 have C1:=Lib.hid HH
 have RS:=Lib.hid Tryz.results54
 clear HH 
 go_enter Tryz.func54,Tryz.ntmps54
 exact wk0

set_option maxHeartbeats 8000000 in
set_option maxRecDepth 100000 in
theorem ediv_no (w:World) {b1 b2 b3 b4:Bool} {m1 k1 m2 k2 m3 k3 m4 k4:ByteArray} (HC:∀ V,Below w.heap.size w V→Calls Tryz.prog 42 #[.agg #[.bool b3,.string m3,.bool false,.string k3,.bool b4,.string m4,.bool false,.string k4],.agg #[.bool false,.string ⟨#[]⟩,.bool false,.string ⟨#[]⟩]] V (RetB V (.bool true))) :
  Calls Tryz.prog 38 #[.agg #[.bool b1,.string m1,.bool false,.string k1,.bool b2,.string m2,.bool false,.string k2],.agg #[.bool b3,.string m3,.bool false,.string k3,.bool b4,.string m4,.bool false,.string k4]] w (RetB w (.tuple #[.agg #[.bool false,.string ⟨#[]⟩,.bool false,.string ⟨#[]⟩,.bool false,.string ⟨#[]⟩,.bool false,.string ⟨#[]⟩],.int .i64 6])):=by
 have C1:=Lib.hid HC
 have RS:=Lib.hid Tryz.results38
 clear HC 
 go_enter Tryz.func38,Tryz.ntmps38
 exact wk0

set_option maxHeartbeats 8000000 in
set_option maxRecDepth 100000 in
theorem ediv_yes (w:World) {b1 b2 b3 b4 b5 b6 b7 b8:Bool} {m1 k1 m2 k2 m3 k3 m4 k4 m5 k5 m6 k6 m7 k7 m8 k8:ByteArray} (HC:∀ V,Below w.heap.size w V→Calls Tryz.prog 42 #[.agg #[.bool b3,.string m3,.bool false,.string k3,.bool b4,.string m4,.bool false,.string k4],.agg #[.bool false,.string ⟨#[]⟩,.bool false,.string ⟨#[]⟩]] V (RetB V (.bool false))) (HO:∀ V,Below w.heap.size w V→Calls Tryz.prog 87 #[.int .i64 (1)] V (RetB V (.agg #[.bool false,.string ⟨#[1]⟩,.bool false,.string ⟨#[]⟩]))) (H1:∀ V,Below w.heap.size w V→Calls Tryz.prog 88 #[.agg #[.bool false,.string ⟨#[1]⟩,.bool false,.string ⟨#[]⟩],.agg #[.bool b4,.string m4,.bool false,.string k4]] V (RetB V (.tuple #[.agg #[.bool b5,.string m5,.bool false,.string k5],.int .i64 0]))) (H2:∀ V,Below w.heap.size w V→Calls Tryz.prog 88 #[.agg #[.bool false,.string ⟨#[1]⟩,.bool false,.string ⟨#[]⟩],.agg #[.bool b3,.string m3,.bool false,.string k3]] V (RetB V (.tuple #[.agg #[.bool b6,.string m6,.bool false,.string k6],.int .i64 0]))) (HM:∀ V,Below w.heap.size w V→Calls Tryz.prog 32 #[.agg #[.bool b1,.string m1,.bool false,.string k1,.bool b2,.string m2,.bool false,.string k2],.agg #[.bool b5,.string m5,.bool false,.string k5,.bool b6,.string m6,.bool false,.string k6]] V (RetB V (.agg #[.bool b7,.string m7,.bool false,.string k7,.bool b8,.string m8,.bool false,.string k8]))) :
  Calls Tryz.prog 38 #[.agg #[.bool b1,.string m1,.bool false,.string k1,.bool b2,.string m2,.bool false,.string k2],.agg #[.bool b3,.string m3,.bool false,.string k3,.bool b4,.string m4,.bool false,.string k4]] w (RetB w (.tuple #[.agg #[.bool b7,.string m7,.bool false,.string k7,.bool b8,.string m8,.bool false,.string k8],.int .i64 0])):=by
 have C1:=Lib.hid HC
 have C2:=Lib.hid HO
 have C3:=Lib.hid H1
 have C4:=Lib.hid H2
 have C5:=Lib.hid HM
 have RS:=Lib.hid Tryz.results38
 clear HC HO H1 H2 HM 
 go_enter Tryz.func38,Tryz.ntmps38
 exact wk0
end Go.Proofs.YtdbhahiieokplaaGreatDoor


