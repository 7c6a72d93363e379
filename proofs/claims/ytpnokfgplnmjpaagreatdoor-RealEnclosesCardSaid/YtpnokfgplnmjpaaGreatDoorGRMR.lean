import Derived.Test.YtpnokfgplnmjpaaGreatDoorGRLG
set_option linter.unusedSimpArgs false
set_option linter.unusedVariables false

namespace Go.Proofs.YtpnokfgplnmjpaaGreatDoor
open Go.RowKit
attribute [local go_sem ↓] Go.wp_at_zero Go.wp_at_succ

set_option maxHeartbeats 8000000 in
set_option maxRecDepth 100000 in
theorem ffloor_lt (w:World) {b1 c1 s1:Bool} {m1 k1 n1 l1 md:ByteArray} {b20:Bool} {m20:ByteArray} {b21:Bool} {m21:ByteArray} {b2 b4 b5:Bool} {m2 k2 m4 k4 m5 k5:ByteArray} {b3:Bool} {m3:ByteArray} {b6:Bool} {m6:ByteArray} {b7:Bool} {m7:ByteArray} {b8:Bool} {m8:ByteArray} {s c:Int} (hmd:(l1=⟨#[]⟩∧md=⟨#[1]⟩)∨(l1≠⟨#[]⟩∧md=l1)) (hc:c≤0) (hc2:¬0<c) (HOf:∀ V,Below w.heap.size w V→∀ {b:Bool} {m k:ByteArray},Calls Tryz.prog 20 #[.agg #[.bool b,.string m,.bool false,.string k]] V (RetB V (.agg #[.bool b,.string m,.bool false,.string k,.bool false,.string ⟨#[]⟩,.bool false,.string ⟨#[]⟩,.bool false]))) (HFI:∀ V,Below w.heap.size w V→Calls Tryz.prog 102 #[.int .i64 (1)] V (RetB V (.agg #[.bool false,.string ⟨#[1]⟩]))) (HM:∀ V,Below w.heap.size w V→Calls Tryz.prog 105 #[.agg #[.bool c1,.string n1],.agg #[.bool false,.string md]] V (RetB V (.agg #[.bool b20,.string m20]))) (HS:∀ V,Below w.heap.size w V→Calls Tryz.prog 104 #[.agg #[.bool b20,.string m20]] V (RetB V (.agg #[.bool b21,.string m21]))) (HK:∀ V,Below w.heap.size w V→Calls Tryz.prog 103 #[.agg #[.bool b21,.string m21],.agg #[.bool false,.string md]] V (RetB V (.agg #[.bool b2,.string m2,.bool false,.string k2]))) (HSi:∀ V,Below w.heap.size w V→Calls Tryz.prog 85 #[.agg #[.bool b1,.string m1,.bool false,.string k1,.bool c1,.string n1,.bool false,.string l1,.bool s1]] V (RetB V (.int .i64 (s)))) (HW:∀ V,Below w.heap.size w V→Calls Tryz.prog 21 #[.int .i64 (s)] V (RetB V (.agg #[.bool b3,.string m3,.bool false,.string ⟨#[]⟩]))) (HT:∀ V,Below w.heap.size w V→Calls Tryz.prog 78 #[.agg #[.bool b3,.string m3,.bool false,.string ⟨#[]⟩],.agg #[.bool b2,.string m2,.bool false,.string k2]] V (RetB V (.agg #[.bool b4,.string m4,.bool false,.string k4]))) (HA:∀ V,Below w.heap.size w V→Calls Tryz.prog 77 #[.agg #[.bool b1,.string m1,.bool false,.string k1],.agg #[.bool b4,.string m4,.bool false,.string k4]] V (RetB V (.agg #[.bool b5,.string m5,.bool false,.string k5]))) (HF:∀ V,Below w.heap.size w V→Calls Tryz.prog 106 #[.agg #[.bool b5,.string m5,.bool false,.string k5]] V (RetB V (.agg #[.bool b8,.string m8,.bool false,.string ⟨#[]⟩]))) (HC:∀ V,Below w.heap.size w V→Calls Tryz.prog 37 #[.agg #[.bool b6,.string m6,.bool false,.string ⟨#[]⟩,.bool false,.string ⟨#[]⟩,.bool false,.string ⟨#[]⟩,.bool false],.agg #[.bool b1,.string m1,.bool false,.string k1,.bool c1,.string n1,.bool false,.string l1,.bool s1]] V (RetB V (.int .i64 (c)))) (HO:∀ V,Below w.heap.size w V→Calls Tryz.prog 84 #[] V (RetB V (.agg #[.bool false,.string ⟨#[1]⟩,.bool false,.string ⟨#[]⟩]))) (HD:∀ V,Below w.heap.size w V→Calls Tryz.prog 77 #[.agg #[.bool b6,.string m6,.bool false,.string ⟨#[]⟩],.agg #[.bool false,.string ⟨#[1]⟩,.bool false,.string ⟨#[]⟩]] V (RetB V (.agg #[.bool b7,.string m7,.bool false,.string ⟨#[]⟩]))) (HC1:∀ V,Below w.heap.size w V→Calls Tryz.prog 37 #[.agg #[.bool b7,.string m7,.bool false,.string ⟨#[]⟩,.bool false,.string ⟨#[]⟩,.bool false,.string ⟨#[]⟩,.bool false],.agg #[.bool b1,.string m1,.bool false,.string k1,.bool c1,.string n1,.bool false,.string l1,.bool s1]] V (RetB V (.int .i64 (1)))) (HCE:∀ V,Below w.heap.size w V→Calls Tryz.prog 37 #[.agg #[.bool b8,.string m8,.bool false,.string ⟨#[]⟩,.bool false,.string ⟨#[]⟩,.bool false,.string ⟨#[]⟩,.bool false],.agg #[.bool b1,.string m1,.bool false,.string k1,.bool c1,.string n1,.bool false,.string l1,.bool s1]] V (RetB V (.int .i64 (-1)))) (HDE:∀ V,Below w.heap.size w V→Calls Tryz.prog 77 #[.agg #[.bool b8,.string m8,.bool false,.string ⟨#[]⟩],.agg #[.bool false,.string ⟨#[1]⟩,.bool false,.string ⟨#[]⟩]] V (RetB V (.agg #[.bool b6,.string m6,.bool false,.string ⟨#[]⟩]))) :
  Calls Tryz.prog 53 #[.agg #[.bool b1,.string m1,.bool false,.string k1,.bool c1,.string n1,.bool false,.string l1,.bool s1]] w (RetB w (.agg #[.bool b6,.string m6,.bool false,.string ⟨#[]⟩])):=by
 have C1:=Lib.hid HOf
 have C2:=Lib.hid HFI
 have C3:=Lib.hid HM
 have C4:=Lib.hid HS
 have C5:=Lib.hid HK
 have C6:=Lib.hid HSi
 have C7:=Lib.hid HW
 have C8:=Lib.hid HT
 have C9:=Lib.hid HA
 have C10:=Lib.hid HF
 have C11:=Lib.hid HC
 have C12:=Lib.hid HO
 have C13:=Lib.hid HD
 have C14:=Lib.hid HC1
 have C15:=Lib.hid HCE
 have C16:=Lib.hid HDE
 rcases hmd with ⟨rfl,rfl⟩ | ⟨hn,rfl⟩
 all_goals (try (obtain ⟨e1,e2⟩:=str_ne hn;have e3:=empty_no (size_pos hn);clear hn))
 all_goals
  have Z1:Hid (∀ {p:Prop} (h:p:=by ((with_reducible refine wp_loop_rounds 3 ?_);rw [rounds_succ];all_goals exact wk)),p):=@fun _ h=>h
  have Z2:Hid (∀ {p:Prop} (h:p:=by (rw [rounds_succ];all_goals exact wk)),p):=@fun _ h=>h
  have U1:Hid (∀ {p:Prop} (h:p:=by ((fail_if_success (go_not_at_region 4));(fail_if_success (have:=hLL));obtain ⟨LL,hLL⟩:=lexi X.out;go_cut [5] (fun s0 wx=>∃ g0,s0=.pointer (some ⟨g0,0,none⟩)∧Sb w (LL++[(g0,#[.bool b2,.string m2,.bool false,.string k2],25)]) [] wx);all_goals exact wkc)),p):=@fun _ h=>h
  have U2:Hid (∀ {p:Prop} (h:p:=by ((fail_if_success (go_not_at_region 5));(fail_if_success (have:=hLL));obtain ⟨LL,hLL⟩:=lexi X.out;go_cut [6] (fun s0 wx=>∃ g0,s0=.pointer (some ⟨g0,0,none⟩)∧Sb w (LL++[(g0,#[.bool b8,.string m8,.bool false,.string ⟨#[]⟩],25)]) [] wx);all_goals exact wkc)),p):=@fun _ h=>h
  have U5:Hid (∀ {p:Prop} (h:p:=by ((fail_if_success (go_not_at_region 1));(fail_if_success (have:=hLL));have hmd0:=md;clear hmd0;obtain ⟨LL,hLL⟩:=lexi X.out;go_cut [3,4] (fun s0 s1 wx=>∃ g0 g1,s0=.pointer (some ⟨g0,0,none⟩)∧s1=.pointer (some ⟨g1,0,none⟩)∧Sb w (LL++[(g0,#[.bool c1,.string n1],23),(g1,#[.bool false,.string md],23)]) [] wx);all_goals exact wkc)),p):=@fun _ h=>h
  have U6:Hid (∀ {p:Prop} (h:p:=by ((fail_if_success (go_not_at_region 1));(fail_if_success (have:=hLL));(fail_if_success (have:=md));obtain ⟨LL,hLL⟩:=lexi X.out;go_cut [3,4] (fun s0 s1 wx=>∃ g0 g1,s0=.pointer (some ⟨g0,0,none⟩)∧s1=.pointer (some ⟨g1,0,none⟩)∧Sb w (LL++[(g0,#[.bool c1,.string n1],23),(g1,#[.bool false,.string ⟨#[]⟩],23)]) [] wx);all_goals exact wkc)),p):=@fun _ h=>h
  have M1:Hid (∀ {p:Prop} (h:p:=by first | exact ⟨_,_,rfl,rfl,X.out.pick [0,1,2,3] _ [] rfl (by decide) (by simp)⟩ | exact ⟨_,_,rfl,rfl,X.out.pick [0,1,3,2] _ [] rfl (by decide) (by simp)⟩),p):=@fun _ h=>h
  have RS:=Lib.hid Tryz.results53
  clear HOf HFI HM HS HK HSi HW HT HA HF HC HO HD HC1 HCE HDE 
  go_enter Tryz.func53,Tryz.ntmps53
  exact wk0
end Go.Proofs.YtpnokfgplnmjpaaGreatDoor
