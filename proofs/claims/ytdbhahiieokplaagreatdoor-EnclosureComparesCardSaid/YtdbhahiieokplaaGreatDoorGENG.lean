import Derived.Test.YtdbhahiieokplaaGreatDoorGENE
import Derived.Test.YtdbhahiieokplaaGreatDoorGENQ
set_option linter.unusedSimpArgs false
set_option linter.unusedVariables false

namespace Go.Proofs.YtdbhahiieokplaaGreatDoor
open Go.RowKit
attribute [local go_sem ↓] Go.wp_at_zero Go.wp_at_succ

set_option maxHeartbeats 8000000 in
set_option maxRecDepth 100000 in
theorem cmps_w (w:World) {b1 b2 b3 b4 b5 b6:Bool} {m1 k1 m2 k2 m3 k3 m4 k4 m5 k5 m6 k6:ByteArray} {n1 d1 n2 d2 n3 d3 n4 d4 x y c d f:Int} (hc:c=2∨(c=-1∧d=-1)∨(c=0∧d=0)∨(c=1∧d=1)) (HK:∀ V,Below w.heap.size w V→Calls Tryz.prog 18 #[] V (RetB V (.bool true))) (HA:∀ V,Below w.heap.size w V→Calls Tryz.prog 26 #[.agg #[.int .i32 n1,.int .u16 d1,.int .i32 n2,.int .u16 d2]] V (RetB V (.agg #[.bool b1,.string m1,.bool false,.string k1,.bool b2,.string m2,.bool false,.string k2]))) (HB:∀ V,Below w.heap.size w V→Calls Tryz.prog 26 #[.agg #[.int .i32 n3,.int .u16 d3,.int .i32 n4,.int .u16 d4]] V (RetB V (.agg #[.bool b3,.string m3,.bool false,.string k3,.bool b4,.string m4,.bool false,.string k4]))) (HC:∀ V,Below w.heap.size w V→Calls Tryz.prog 59 #[.agg #[.bool b1,.string m1,.bool false,.string k1,.bool b2,.string m2,.bool false,.string k2],.agg #[.bool b3,.string m3,.bool false,.string k3,.bool b4,.string m4,.bool false,.string k4]] V (RetB V (.int .i64 (c)))) (HW1:∀ V,Below w.heap.size w V→Calls Tryz.prog 41 #[.agg #[.bool b1,.string m1,.bool false,.string k1,.bool b2,.string m2,.bool false,.string k2],.int .u8 x] V (RetB V (.agg #[.bool b5,.string m5,.bool false,.string k5]))) (HW2:∀ V,Below w.heap.size w V→Calls Tryz.prog 41 #[.agg #[.bool b3,.string m3,.bool false,.string k3,.bool b4,.string m4,.bool false,.string k4],.int .u8 y] V (RetB V (.agg #[.bool b6,.string m6,.bool false,.string k6]))) (HD:∀ V,Below w.heap.size w V→Calls Tryz.prog 15 #[.agg #[.bool b5,.string m5,.bool false,.string k5],.agg #[.bool b6,.string m6,.bool false,.string k6]] V (RetB V (.int .i64 (d)))) (HL1:∀ V,Below w.heap.size w V→Calls Tryz.prog 29 #[.agg #[.bool b1,.string m1,.bool false,.string k1,.bool b2,.string m2,.bool false,.string k2]] V (RetB V (.agg #[.bool b1,.string m1,.bool false,.string k1,.bool b2,.string m2,.bool false,.string k2]))) (HL2:∀ V,Below w.heap.size w V→Calls Tryz.prog 29 #[.agg #[.bool b3,.string m3,.bool false,.string k3,.bool b4,.string m4,.bool false,.string k4]] V (RetB V (.agg #[.bool b3,.string m3,.bool false,.string k3,.bool b4,.string m4,.bool false,.string k4]))) (HF:∀ V,Below w.heap.size w V→Calls Tryz.prog 58 #[.agg #[.bool b1,.string m1,.bool false,.string k1,.bool b2,.string m2,.bool false,.string k2],.agg #[.bool b3,.string m3,.bool false,.string k3,.bool b4,.string m4,.bool false,.string k4]] V (RetB V (.int .i64 (c)))) (HX1:∀ V,Below w.heap.size w V→Calls Tryz.prog 16 #[.agg #[.bool b1,.string m1,.bool false,.string k1]] V (RetB V (.agg #[.bool b1,.string m1,.bool false,.string k1,.bool b1,.string m1,.bool false,.string k1]))) (HX2:∀ V,Below w.heap.size w V→Calls Tryz.prog 16 #[.agg #[.bool b3,.string m3,.bool false,.string k3]] V (RetB V (.agg #[.bool b3,.string m3,.bool false,.string k3,.bool b3,.string m3,.bool false,.string k3]))) (HE:∀ V,Below w.heap.size w V→Calls Tryz.prog 59 #[.agg #[.bool b1,.string m1,.bool false,.string k1,.bool b1,.string m1,.bool false,.string k1],.agg #[.bool b3,.string m3,.bool false,.string k3,.bool b3,.string m3,.bool false,.string k3]] V (RetB V (.int .i64 (f)))) (HG:∀ V,Below w.heap.size w V→Calls Tryz.prog 15 #[.agg #[.bool b1,.string m1,.bool false,.string k1],.agg #[.bool b3,.string m3,.bool false,.string k3]] V (RetB V (.int .i64 (f)))) :
  Calls Tryz.prog 10 #[.agg #[.int .i32 n1,.int .u16 d1,.int .i32 n2,.int .u16 d2],.agg #[.int .i32 n3,.int .u16 d3,.int .i32 n4,.int .u16 d4],.agg #[.int .u8 x,.int .u8 y]] w (RetB w (.bool true)):=by
 have C1:=Lib.hid HK
 have C2:=Lib.hid HA
 have C3:=Lib.hid HB
 have C4:=Lib.hid HC
 have C5:=Lib.hid HW1
 have C6:=Lib.hid HW2
 have C7:=Lib.hid HD
 have C8:=Lib.hid HL1
 have C9:=Lib.hid HL2
 have C10:=Lib.hid HF
 have C11:=Lib.hid HX1
 have C12:=Lib.hid HX2
 have C13:=Lib.hid HE
 have C14:=Lib.hid HG
 rcases hc with rfl | ⟨rfl,rfl⟩ | ⟨rfl,rfl⟩ | ⟨rfl,rfl⟩
 all_goals
  clear HK HA HB HC HW1 HW2 HD HL1 HL2 HF HX1 HX2 HE HG 
  go_enter Tryz.func10,Tryz.ntmps10
  go_upto_region 1 with fail
  refine gs3 (M:=fun W=>Code.wp _ _ _ _ W) (fun V X0=>?_)
  have X:=Lib.hid X0
  clear X0
  have F:=X.out.facts
  simp only [Facts,cellsAt,List.take_succ_cons,List.take_zero,Nat.reduceAdd,and_true,List.set_cons_succ,List.set_cons_zero,List.cons_append,List.nil_append] at F
  clear F
  go_cut [7,8] (fun s7 s8 wx=>∃ gA gB,s7=.pointer (some ⟨gA,0,none⟩)∧s8=.pointer (some ⟨gB,0,none⟩)∧Sb w [(w.heap.size+1+1,#[.int .u8 x,.int .u8 y],66),(gA,#[.bool b1,.string m1,.bool false,.string k1,.bool b2,.string m2,.bool false,.string k2],34),(gB,#[.bool b3,.string m3,.bool false,.string k3,.bool b4,.string m4,.bool false,.string k4],34)] [] wx)
  case first =>
   refine wp_region_any (by kernel_rfl) ?_
   have X:=Lib.hid X.out.drew
   obtain ⟨W0,hV⟩:=wexi X.out
   rw [show ∀ v:World,{ v with drawn:=v.drawn+1 }=v.drew from fun _=>rfl,←hV]
   rw [←hV] at X
   clear hV
   refine rg_run (ef:=[.val (.agg #[.int .i32 n1,.int .u16 d1,.int .i32 n2,.int .u16 d2]),.val (.agg #[.bool b1,.string m1,.bool false,.string k1,.bool b2,.string m2,.bool false,.string k2]),.val (.agg #[.int .i32 n3,.int .u16 d3,.int .i32 n4,.int .u16 d4]),.val (.agg #[.bool b3,.string m3,.bool false,.string k3,.bool b4,.string m4,.bool false,.string k4]),.new #[.bool false,.string ⟨#[]⟩,.bool false,.string ⟨#[]⟩,.bool false,.string ⟨#[]⟩,.bool false,.string ⟨#[]⟩] 34,.new #[.bool false,.string ⟨#[]⟩,.bool false,.string ⟨#[]⟩,.bool false,.string ⟨#[]⟩,.bool false,.string ⟨#[]⟩] 34]) (ds:=[11,12,13,14,7,8]) (by kernel_rfl) (stays_none (by simp)) (by decide) rfl (by intro d hd;simp at hd ⊢;omega) (fun i d o hd ho listed a w1 hR hdep K hK=>?_) 2 (fun a w1 hR=>?_)
   · have X:=Lib.hid (X.out.next hR.bel)
     have HKt:=Lib.hid hK
     have HDp:=Lib.hid hdep
     have sl3:a.tmps.getD 3 undef=.pointer (some ⟨w.heap.size,0,none⟩):=hR.keep 3 (by decide)
     have sl4:a.tmps.getD 4 undef=.pointer (some ⟨w.heap.size+1,0,none⟩):=hR.keep 4 (by decide)
     have sl5:a.tmps.getD 5 undef=.pointer (some ⟨w.heap.size+1+1,0,none⟩):=hR.keep 5 (by decide)
     have HRg:=Lib.hid hR
     clear hK hdep hR
     rcases i with _ | _ | _ | _ | _ | _ | i
     · cases hd
       cases ho
       obtain ⟨x00,x01,x02,x03⟩:=X.out.c4 (i:=0) rfl
       obtain ⟨x10,x11,x12,x13⟩:=X.out.c4 (i:=1) rfl
       go_simp
       exact HKt.out _ _ (Or.inl ⟨rfl,Below.refl _ _⟩)
     · cases hd
       cases ho
       have dd0:a.tmps.getD 11 undef=.agg #[.int .i32 n1,.int .u16 d1,.int .i32 n2,.int .u16 d2]:=HRg.out.val 0 _ (HDp.out 0 (by decide)) rfl
       go_simp
       (go_at_call 26;refine (C2.out _ X.out.bel).mono ?_;rintro e u ⟨rfl,hb9⟩)
       try go_wp2_with fail
       exact HKt.out _ _ (Or.inl ⟨rfl,hb9⟩)
     · cases hd
       cases ho
       obtain ⟨x00,x01,x02,x03⟩:=X.out.c4 (i:=0) rfl
       obtain ⟨x10,x11,x12,x13⟩:=X.out.c4 (i:=1) rfl
       go_simp
       exact HKt.out _ _ (Or.inl ⟨rfl,Below.refl _ _⟩)
     · cases hd
       cases ho
       have dd1:a.tmps.getD 12 undef=.agg #[.bool b1,.string m1,.bool false,.string k1,.bool b2,.string m2,.bool false,.string k2]:=HRg.out.val 1 _ (HDp.out 1 (by decide)) rfl
       have dd2:a.tmps.getD 13 undef=.agg #[.int .i32 n3,.int .u16 d3,.int .i32 n4,.int .u16 d4]:=HRg.out.val 2 _ (HDp.out 2 (by decide)) rfl
       go_simp
       (go_at_call 26;refine (C3.out _ X.out.bel).mono ?_;rintro e u ⟨rfl,hb9⟩)
       try go_wp2_with fail
       exact HKt.out _ _ (Or.inl ⟨rfl,hb9⟩)
     · cases hd
       cases ho
       go_simp
       exact HKt.out _ _ (Or.inr (Or.inl ⟨_,_,rfl,rfl,rfl⟩))
     · cases hd
       cases ho
       go_simp
       exact HKt.out _ _ (Or.inr (Or.inl ⟨_,_,rfl,rfl,rfl⟩))
     · cases hd
   obtain ⟨g4,hg4,lg4,kg4⟩:=hR.new 4 _ _ (by rfl) rfl
   obtain ⟨g5,hg5,lg5,kg5⟩:=hR.new 5 _ _ (by rfl) rfl
   have vv0:a.tmps.getD 11 undef=.agg #[.int .i32 n1,.int .u16 d1,.int .i32 n2,.int .u16 d2]:=hR.val 0 _ (by rfl) rfl
   have vv1:a.tmps.getD 12 undef=.agg #[.bool b1,.string m1,.bool false,.string k1,.bool b2,.string m2,.bool false,.string k2]:=hR.val 1 _ (by rfl) rfl
   have vv2:a.tmps.getD 13 undef=.agg #[.int .i32 n3,.int .u16 d3,.int .i32 n4,.int .u16 d4]:=hR.val 2 _ (by rfl) rfl
   have vv3:a.tmps.getD 14 undef=.agg #[.bool b3,.string m3,.bool false,.string k3,.bool b4,.string m4,.bool false,.string k4]:=hR.val 3 _ (by rfl) rfl
   replace hg4:a.tmps.getD 7 undef=.pointer (some ⟨g4,0,none⟩):=hg4
   replace hg5:a.tmps.getD 8 undef=.pointer (some ⟨g5,0,none⟩):=hg5
   have hne:g4≠g5:=fun e=>hR.ne 4 5 _ _ _ _ g4 (by decide) (by rfl) (by rfl) rfl rfl hg4 (by rw [e];exact hg5)
   have X:=Lib.hid (X.out.add2 hR.bel lg4 kg4 lg5 kg5 hne)
   have ha:=hR.act
   simp only [List.foldl_cons,List.foldl_nil,seti,set0,setS,vv0,vv1,vv2,vv3,hg4,hg5] at ha
   subst ha
   clear hR vv0 vv1 vv2 vv3 hg4 lg4 kg4 hg5 lg5 kg5 hne
   refine wpAny_of_late (S:=fun _=>True) (L:=[]) _ _ _ _ ?_
   refine wpLate_one (i:=6) (o:=⟨none,_,_,_,_,_⟩) (by kernel_rfl) rfl (fun K hK=>?_)
   obtain ⟨x0,x1,x2,x3,x4,x5,x6,x7⟩:=X.out.c8 (i:=3) rfl
   obtain ⟨y0,y1,y2,y3,y4,y5,y6,y7⟩:=X.out.f8 (i:=3) rfl
   have X:=Lib.hid (X.out.set8 (i:=3) rfl (.bool b1) (.string m1) (.bool false) (.string k1) (.bool b2) (.string m2) (.bool false) (.string k2))
   go_simp
   refine hK.out _ _ (Or.inr fun _=>trivial) ?_
   clear hK K x0 x1 x2 x3 x4 x5 x6 x7 y0 y1 y2 y3 y4 y5 y6 y7
   obtain ⟨W6,hV⟩:=wexi X.out
   rw [←hV] at X ⊢
   clear hV
   try simp only [Act.put]
   refine wpLate_one (i:=7) (o:=⟨none,_,_,_,_,_⟩) (by kernel_rfl) rfl (fun K hK=>?_)
   obtain ⟨x0,x1,x2,x3,x4,x5,x6,x7⟩:=X.out.c8 (i:=4) rfl
   obtain ⟨y0,y1,y2,y3,y4,y5,y6,y7⟩:=X.out.f8 (i:=4) rfl
   have X:=Lib.hid (X.out.set8 (i:=4) rfl (.bool b3) (.string m3) (.bool false) (.string k3) (.bool b4) (.string m4) (.bool false) (.string k4))
   go_simp
   refine hK.out _ _ (Or.inr fun _=>trivial) ?_
   clear hK K x0 x1 x2 x3 x4 x5 x6 x7 y0 y1 y2 y3 y4 y5 y6 y7
   obtain ⟨W7,hV⟩:=wexi X.out
   rw [←hV] at X ⊢
   clear hV
   try simp only [Act.put]
   refine wpLate_done (by kernel_rfl) ?_ _
   go_wp2_with fail
   go_meet
   exact ⟨_,_,rfl,rfl,X.out.pick [2,3,4] _ [] rfl (by decide) (by simp)⟩
  clear X
  obtain ⟨gA,gB,rfl,rfl,hX⟩:=hcut
  have X:=Lib.hid hX
  clear hX
  have F:=X.out.facts
  simp only [Facts,cellsAt,List.take_succ_cons,List.take_zero,Nat.reduceAdd,and_true,List.set_cons_succ,List.set_cons_zero,List.cons_append,List.nil_append] at F
  exact wk
end Go.Proofs.YtdbhahiieokplaaGreatDoor
