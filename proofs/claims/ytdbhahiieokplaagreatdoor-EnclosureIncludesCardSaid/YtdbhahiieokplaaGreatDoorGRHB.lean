import Derived.Test.YtdbhahiieokplaaGreatDoorGENE
import Derived.Test.YtdbhahiieokplaaGreatDoorGENQ
import Derived.Test.YtdbhahiieokplaaGreatDoorGRLN
import Derived.Test.YtdbhahiieokplaaGreatDoorGRGB
import Derived.Test.YtdbhahiieokplaaGreatDoorGKtD
set_option linter.unusedSimpArgs false
set_option linter.unusedVariables false

namespace Go.Proofs.YtdbhahiieokplaaGreatDoor
open Go.RowKit
attribute [local go_sem ↓] Go.wp_at_zero Go.wp_at_succ

set_option maxHeartbeats 8000000 in
set_option maxRecDepth 100000 in
theorem incl_0 (w:World) {b1 b2 b3 b4 b5 b6 b7 b8 b9 b10 b11 b12 b13 b14 b15 b16 b17 b18 b21 b22 b23 b24 b25:Bool} {m1 k1 m2 k2 m3 k3 m4 k4 m5 k5 m6 k6 m7 k7 m8 k8 m9 k9 m10 k10 m11 k11 m12 k12 m13 k13 m14 k14 m15 k15 m16 k16 m17 k17 m18 k18 m21 k21 m22 k22 m23 k23 m24 k24 m25 k25:ByteArray} {n1 d1 n2 d2 n3 d3 n4 d4 x y:Int} (HK:∀ V,Below w.heap.size w V→Calls Tryz.prog 18 #[] V (RetB V (.bool true))) (HA:∀ V,Below w.heap.size w V→Calls Tryz.prog 26 #[.agg #[.int .i32 n1,.int .u16 d1,.int .i32 n2,.int .u16 d2]] V (RetB V (.agg #[.bool b1,.string m1,.bool false,.string k1,.bool b2,.string m2,.bool false,.string k2]))) (HB:∀ V,Below w.heap.size w V→Calls Tryz.prog 26 #[.agg #[.int .i32 n3,.int .u16 d3,.int .i32 n4,.int .u16 d4]] V (RetB V (.agg #[.bool b3,.string m3,.bool false,.string k3,.bool b4,.string m4,.bool false,.string k4]))) (HW1:∀ V,Below w.heap.size w V→Calls Tryz.prog 41 #[.agg #[.bool b1,.string m1,.bool false,.string k1,.bool b2,.string m2,.bool false,.string k2],.int .u8 x] V (RetB V (.agg #[.bool b5,.string m5,.bool false,.string k5]))) (HW2:∀ V,Below w.heap.size w V→Calls Tryz.prog 41 #[.agg #[.bool b3,.string m3,.bool false,.string k3,.bool b4,.string m4,.bool false,.string k4],.int .u8 y] V (RetB V (.agg #[.bool b6,.string m6,.bool false,.string k6]))) (H1:∀ V,Below w.heap.size w V→Calls Tryz.prog 27 #[.agg #[.bool b1,.string m1,.bool false,.string k1,.bool b2,.string m2,.bool false,.string k2],.agg #[.bool b3,.string m3,.bool false,.string k3,.bool b4,.string m4,.bool false,.string k4]] V (RetB V (.agg #[.bool b7,.string m7,.bool false,.string k7,.bool b8,.string m8,.bool false,.string k8]))) (V9:∀ V,Below w.heap.size w V→Calls Tryz.prog 43 #[.agg #[.bool b5,.string m5,.bool false,.string k5],.agg #[.bool b6,.string m6,.bool false,.string k6]] V (RetB V (.agg #[.bool b9,.string m9,.bool false,.string k9]))) (I1:∀ V,Below w.heap.size w V→Calls Tryz.prog 42 #[.agg #[.bool b7,.string m7,.bool false,.string k7,.bool b8,.string m8,.bool false,.string k8],.agg #[.bool b9,.string m9,.bool false,.string k9]] V (RetB V (.bool true))) (H2:∀ V,Below w.heap.size w V→Calls Tryz.prog 30 #[.agg #[.bool b1,.string m1,.bool false,.string k1,.bool b2,.string m2,.bool false,.string k2],.agg #[.bool b3,.string m3,.bool false,.string k3,.bool b4,.string m4,.bool false,.string k4]] V (RetB V (.agg #[.bool b10,.string m10,.bool false,.string k10,.bool b11,.string m11,.bool false,.string k11]))) (V12:∀ V,Below w.heap.size w V→Calls Tryz.prog 44 #[.agg #[.bool b5,.string m5,.bool false,.string k5],.agg #[.bool b6,.string m6,.bool false,.string k6]] V (RetB V (.agg #[.bool b12,.string m12,.bool false,.string k12]))) (I2:∀ V,Below w.heap.size w V→Calls Tryz.prog 42 #[.agg #[.bool b10,.string m10,.bool false,.string k10,.bool b11,.string m11,.bool false,.string k11],.agg #[.bool b12,.string m12,.bool false,.string k12]] V (RetB V (.bool true))) (H3:∀ V,Below w.heap.size w V→Calls Tryz.prog 32 #[.agg #[.bool b1,.string m1,.bool false,.string k1,.bool b2,.string m2,.bool false,.string k2],.agg #[.bool b3,.string m3,.bool false,.string k3,.bool b4,.string m4,.bool false,.string k4]] V (RetB V (.agg #[.bool b13,.string m13,.bool false,.string k13,.bool b14,.string m14,.bool false,.string k14]))) (V15:∀ V,Below w.heap.size w V→Calls Tryz.prog 45 #[.agg #[.bool b5,.string m5,.bool false,.string k5],.agg #[.bool b6,.string m6,.bool false,.string k6]] V (RetB V (.agg #[.bool b15,.string m15,.bool false,.string k15]))) (I3:∀ V,Below w.heap.size w V→Calls Tryz.prog 42 #[.agg #[.bool b13,.string m13,.bool false,.string k13,.bool b14,.string m14,.bool false,.string k14],.agg #[.bool b15,.string m15,.bool false,.string k15]] V (RetB V (.bool true))) (H4:∀ V,Below w.heap.size w V→Calls Tryz.prog 34 #[.agg #[.bool b1,.string m1,.bool false,.string k1,.bool b2,.string m2,.bool false,.string k2]] V (RetB V (.agg #[.bool b16,.string m16,.bool false,.string k16,.bool b17,.string m17,.bool false,.string k17]))) (V18:∀ V,Below w.heap.size w V→Calls Tryz.prog 45 #[.agg #[.bool b5,.string m5,.bool false,.string k5],.agg #[.bool b5,.string m5,.bool false,.string k5]] V (RetB V (.agg #[.bool b18,.string m18,.bool false,.string k18]))) (I4:∀ V,Below w.heap.size w V→Calls Tryz.prog 42 #[.agg #[.bool b16,.string m16,.bool false,.string k16,.bool b17,.string m17,.bool false,.string k17],.agg #[.bool b18,.string m18,.bool false,.string k18]] V (RetB V (.bool true))) (H5:∀ V,Below w.heap.size w V→Calls Tryz.prog 36 #[.agg #[.bool b1,.string m1,.bool false,.string k1,.bool b2,.string m2,.bool false,.string k2]] V (RetB V (.agg #[.bool b21,.string m21,.bool false,.string k21,.bool b22,.string m22,.bool false,.string k22]))) (V23:∀ V,Below w.heap.size w V→Calls Tryz.prog 46 #[.agg #[.bool b5,.string m5,.bool false,.string k5]] V (RetB V (.agg #[.bool b23,.string m23,.bool false,.string k23]))) (I5:∀ V,Below w.heap.size w V→Calls Tryz.prog 42 #[.agg #[.bool b21,.string m21,.bool false,.string k21,.bool b22,.string m22,.bool false,.string k22],.agg #[.bool b23,.string m23,.bool false,.string k23]] V (RetB V (.bool true))) (H6:∀ V,Below w.heap.size w V→Calls Tryz.prog 37 #[.agg #[.bool b1,.string m1,.bool false,.string k1,.bool b2,.string m2,.bool false,.string k2],.agg #[.bool b6,.string m6,.bool false,.string k6]] V (RetB V (.agg #[.bool b24,.string m24,.bool false,.string k24,.bool b25,.string m25,.bool false,.string k25]))) (I6:∀ V,Below w.heap.size w V→Calls Tryz.prog 42 #[.agg #[.bool b24,.string m24,.bool false,.string k24,.bool b25,.string m25,.bool false,.string k25],.agg #[.bool b15,.string m15,.bool false,.string k15]] V (RetB V (.bool true))) (H7:∀ V,Below w.heap.size w V→Calls Tryz.prog 38 #[.agg #[.bool b1,.string m1,.bool false,.string k1,.bool b2,.string m2,.bool false,.string k2],.agg #[.bool b3,.string m3,.bool false,.string k3,.bool b4,.string m4,.bool false,.string k4]] V (RetB V (.tuple #[.agg #[.bool false,.string ⟨#[]⟩,.bool false,.string ⟨#[]⟩,.bool false,.string ⟨#[]⟩,.bool false,.string ⟨#[]⟩],.int .i64 6]))) :
  Calls Tryz.prog 6 #[.agg #[.int .i32 n1,.int .u16 d1,.int .i32 n2,.int .u16 d2],.agg #[.int .i32 n3,.int .u16 d3,.int .i32 n4,.int .u16 d4],.agg #[.int .u8 x,.int .u8 y]] w (RetB w (.bool true)):=by
 have C1:=Lib.hid HK
 have C2:=Lib.hid HA
 have C3:=Lib.hid HB
 have C4:=Lib.hid HW1
 have C5:=Lib.hid HW2
 have C6:=Lib.hid H1
 have C7:=Lib.hid V9
 have C8:=Lib.hid I1
 have C9:=Lib.hid H2
 have C10:=Lib.hid V12
 have C11:=Lib.hid I2
 have C12:=Lib.hid H3
 have C13:=Lib.hid V15
 have C14:=Lib.hid I3
 have C15:=Lib.hid H4
 have C16:=Lib.hid V18
 have C17:=Lib.hid I4
 have C18:=Lib.hid H5
 have C19:=Lib.hid V23
 have C20:=Lib.hid I5
 have C21:=Lib.hid H6
 have C22:=Lib.hid I6
 have C23:=Lib.hid H7
 clear HK HA HB HW1 HW2 H1 V9 I1 H2 V12 I2 H3 V15 I3 H4 V18 I4 H5 V23 I5 H6 I6 H7 
 go_enter Tryz.func6,Tryz.ntmps6
 go_upto_region 1 with fail
 refine gs3 (M:=fun W=>Code.wp _ _ _ _ W) (fun V X0=>?_)
 have X:=Lib.hid X0
 clear X0
 have F:=X.out.facts
 simp only [Facts,cellsAt,List.take_succ_cons,List.take_zero,Nat.reduceAdd,and_true,List.set_cons_succ,List.set_cons_zero,List.cons_append,List.nil_append] at F
 clear F
 go_cut [7,8] (fun s7 s8 wx=>∃ gA gB,s7=.pointer (some ⟨gA,0,none⟩)∧s8=.pointer (some ⟨gB,0,none⟩)∧Sb w [(w.heap.size+1+1,#[.int .u8 x,.int .u8 y],66),(gA,#[.bool b1,.string m1,.bool false,.string k1,.bool b2,.string m2,.bool false,.string k2],34),(gB,#[.bool b3,.string m3,.bool false,.string k3,.bool b4,.string m4,.bool false,.string k4],34)] [] wx)
 case first =>
  refine wp_region_any (by kernel_rfl) ?_
  have X:=Lib.hid X.out.drew
  obtain ⟨W0,hV⟩:=wexi X.out
  rw [show ∀ v:World,{ v with drawn:=v.drawn+1 }=v.drew from fun _=>rfl,←hV]
  rw [←hV] at X
  clear hV
  refine rg_run (ef:=[.val (.agg #[.int .i32 n1,.int .u16 d1,.int .i32 n2,.int .u16 d2]),.val (.agg #[.bool b1,.string m1,.bool false,.string k1,.bool b2,.string m2,.bool false,.string k2]),.val (.agg #[.int .i32 n3,.int .u16 d3,.int .i32 n4,.int .u16 d4]),.val (.agg #[.bool b3,.string m3,.bool false,.string k3,.bool b4,.string m4,.bool false,.string k4]),.new #[.bool false,.string ⟨#[]⟩,.bool false,.string ⟨#[]⟩,.bool false,.string ⟨#[]⟩,.bool false,.string ⟨#[]⟩] 34,.new #[.bool false,.string ⟨#[]⟩,.bool false,.string ⟨#[]⟩,.bool false,.string ⟨#[]⟩,.bool false,.string ⟨#[]⟩] 34]) (ds:=[13,14,15,16,7,8]) (by kernel_rfl) (stays_none (by simp)) (by decide) rfl (by intro d hd;simp at hd ⊢;omega) (fun i d o hd ho listed a w1 hR hdep K hK=>?_) 2 (fun a w1 hR=>?_)
  · have X:=Lib.hid (X.out.next hR.bel)
    have HKt:=Lib.hid hK
    have HDp:=Lib.hid hdep
    have sl3:a.tmps.getD 3 undef=.pointer (some ⟨w.heap.size,0,none⟩):=hR.keep 3 (by decide)
    have sl4:a.tmps.getD 4 undef=.pointer (some ⟨w.heap.size+1,0,none⟩):=hR.keep 4 (by decide)
    have sl5:a.tmps.getD 5 undef=.pointer (some ⟨w.heap.size+1+1,0,none⟩):=hR.keep 5 (by decide)
    have HRg:=Lib.hid hR
    clear hK hdep hR
    rcases i with _ | _ | _ | _ | _ | _ | i
    · cases hd
      cases ho
      obtain ⟨x00,x01,x02,x03⟩:=X.out.c4 (i:=0) rfl
      obtain ⟨x10,x11,x12,x13⟩:=X.out.c4 (i:=1) rfl
      go_simp
      exact HKt.out _ _ (Or.inl ⟨rfl,Below.refl _ _⟩)
    · cases hd
      cases ho
      have dd0:a.tmps.getD 13 undef=.agg #[.int .i32 n1,.int .u16 d1,.int .i32 n2,.int .u16 d2]:=HRg.out.val 0 _ (HDp.out 0 (by decide)) rfl
      go_simp
      (go_at_call 26;refine (C2.out _ X.out.bel).mono ?_;rintro e u ⟨rfl,hb9⟩)
      try go_wp2_with fail
      exact HKt.out _ _ (Or.inl ⟨rfl,hb9⟩)
    · cases hd
      cases ho
      obtain ⟨x00,x01,x02,x03⟩:=X.out.c4 (i:=0) rfl
      obtain ⟨x10,x11,x12,x13⟩:=X.out.c4 (i:=1) rfl
      go_simp
      exact HKt.out _ _ (Or.inl ⟨rfl,Below.refl _ _⟩)
    · cases hd
      cases ho
      have dd1:a.tmps.getD 14 undef=.agg #[.bool b1,.string m1,.bool false,.string k1,.bool b2,.string m2,.bool false,.string k2]:=HRg.out.val 1 _ (HDp.out 1 (by decide)) rfl
      have dd2:a.tmps.getD 15 undef=.agg #[.int .i32 n3,.int .u16 d3,.int .i32 n4,.int .u16 d4]:=HRg.out.val 2 _ (HDp.out 2 (by decide)) rfl
      go_simp
      (go_at_call 26;refine (C3.out _ X.out.bel).mono ?_;rintro e u ⟨rfl,hb9⟩)
      try go_wp2_with fail
      exact HKt.out _ _ (Or.inl ⟨rfl,hb9⟩)
    · cases hd
      cases ho
      go_simp
      exact HKt.out _ _ (Or.inr (Or.inl ⟨_,_,rfl,rfl,rfl⟩))
    · cases hd
      cases ho
      go_simp
      exact HKt.out _ _ (Or.inr (Or.inl ⟨_,_,rfl,rfl,rfl⟩))
    · cases hd
  obtain ⟨g4,hg4,lg4,kg4⟩:=hR.new 4 _ _ (by rfl) rfl
  obtain ⟨g5,hg5,lg5,kg5⟩:=hR.new 5 _ _ (by rfl) rfl
  have vv0:a.tmps.getD 13 undef=.agg #[.int .i32 n1,.int .u16 d1,.int .i32 n2,.int .u16 d2]:=hR.val 0 _ (by rfl) rfl
  have vv1:a.tmps.getD 14 undef=.agg #[.bool b1,.string m1,.bool false,.string k1,.bool b2,.string m2,.bool false,.string k2]:=hR.val 1 _ (by rfl) rfl
  have vv2:a.tmps.getD 15 undef=.agg #[.int .i32 n3,.int .u16 d3,.int .i32 n4,.int .u16 d4]:=hR.val 2 _ (by rfl) rfl
  have vv3:a.tmps.getD 16 undef=.agg #[.bool b3,.string m3,.bool false,.string k3,.bool b4,.string m4,.bool false,.string k4]:=hR.val 3 _ (by rfl) rfl
  replace hg4:a.tmps.getD 7 undef=.pointer (some ⟨g4,0,none⟩):=hg4
  replace hg5:a.tmps.getD 8 undef=.pointer (some ⟨g5,0,none⟩):=hg5
  have hne:g4≠g5:=fun e=>hR.ne 4 5 _ _ _ _ g4 (by decide) (by rfl) (by rfl) rfl rfl hg4 (by rw [e];exact hg5)
  have X:=Lib.hid (X.out.add2 hR.bel lg4 kg4 lg5 kg5 hne)
  have ha:=hR.act
  simp only [List.foldl_cons,List.foldl_nil,seti,set0,setS,vv0,vv1,vv2,vv3,hg4,hg5] at ha
  subst ha
  clear hR vv0 vv1 vv2 vv3 hg4 lg4 kg4 hg5 lg5 kg5 hne
  refine wpAny_of_late (S:=fun _=>True) (L:=[]) _ _ _ _ ?_
  refine wpLate_one (i:=6) (o:=⟨none,_,_,_,_,_⟩) (by kernel_rfl) rfl (fun K hK=>?_)
  obtain ⟨x0,x1,x2,x3,x4,x5,x6,x7⟩:=X.out.c8 (i:=3) rfl
  obtain ⟨y0,y1,y2,y3,y4,y5,y6,y7⟩:=X.out.f8 (i:=3) rfl
  have X:=Lib.hid (X.out.set8 (i:=3) rfl (.bool b1) (.string m1) (.bool false) (.string k1) (.bool b2) (.string m2) (.bool false) (.string k2))
  go_simp
  refine hK.out _ _ (Or.inr fun _=>trivial) ?_
  clear hK K x0 x1 x2 x3 x4 x5 x6 x7 y0 y1 y2 y3 y4 y5 y6 y7
  obtain ⟨W6,hV⟩:=wexi X.out
  rw [←hV] at X ⊢
  clear hV
  try simp only [Act.put]
  refine wpLate_one (i:=7) (o:=⟨none,_,_,_,_,_⟩) (by kernel_rfl) rfl (fun K hK=>?_)
  obtain ⟨x0,x1,x2,x3,x4,x5,x6,x7⟩:=X.out.c8 (i:=4) rfl
  obtain ⟨y0,y1,y2,y3,y4,y5,y6,y7⟩:=X.out.f8 (i:=4) rfl
  have X:=Lib.hid (X.out.set8 (i:=4) rfl (.bool b3) (.string m3) (.bool false) (.string k3) (.bool b4) (.string m4) (.bool false) (.string k4))
  go_simp
  refine hK.out _ _ (Or.inr fun _=>trivial) ?_
  clear hK K x0 x1 x2 x3 x4 x5 x6 x7 y0 y1 y2 y3 y4 y5 y6 y7
  obtain ⟨W7,hV⟩:=wexi X.out
  rw [←hV] at X ⊢
  clear hV
  try simp only [Act.put]
  refine wpLate_done (by kernel_rfl) ?_ _
  go_wp2_with fail
  go_meet
  exact ⟨_,_,rfl,rfl,X.out.pick [2,3,4] _ [] rfl (by decide) (by simp)⟩
 clear X
 obtain ⟨gA,gB,rfl,rfl,hX⟩:=hcut
 have X:=Lib.hid hX
 clear hX
 go_upto_region 2 with fail
 go_cut [9,10] (fun s9 s10 wx=>∃ gC gD,s9=.pointer (some ⟨gC,0,none⟩)∧s10=.pointer (some ⟨gD,0,none⟩)∧Sb w [(gA,#[.bool b1,.string m1,.bool false,.string k1,.bool b2,.string m2,.bool false,.string k2],34),(gB,#[.bool b3,.string m3,.bool false,.string k3,.bool b4,.string m4,.bool false,.string k4],34),(gC,#[.bool b5,.string m5,.bool false,.string k5],25),(gD,#[.bool b6,.string m6,.bool false,.string k6],25)] [] wx)
 case first =>
  refine wp_region_any (by kernel_rfl) ?_
  have X:=Lib.hid X.out.drew
  obtain ⟨W0,hV⟩:=wexi X.out
  rw [show ∀ v:World,{ v with drawn:=v.drawn+1 }=v.drew from fun _=>rfl,←hV]
  rw [←hV] at X
  clear hV
  refine rg_run (ef:=[.val (.agg #[.bool b1,.string m1,.bool false,.string k1,.bool b2,.string m2,.bool false,.string k2]),.val (.pointer (some ⟨w.heap.size+1+1,0,none⟩)),.val (.int .u8 x),.val (.agg #[.bool b5,.string m5,.bool false,.string k5]),.val (.agg #[.bool b3,.string m3,.bool false,.string k3,.bool b4,.string m4,.bool false,.string k4]),.val (.pointer (some ⟨w.heap.size+1+1,1,none⟩)),.val (.int .u8 y),.val (.agg #[.bool b6,.string m6,.bool false,.string k6]),.new #[.bool false,.string ⟨#[]⟩,.bool false,.string ⟨#[]⟩] 25,.new #[.bool false,.string ⟨#[]⟩,.bool false,.string ⟨#[]⟩] 25]) (ds:=[17,18,19,20,21,22,23,24,9,10]) (by kernel_rfl) (stays_none (by simp)) (by decide) rfl (by intro d hd;simp at hd ⊢;omega) (fun i d o hd ho listed a w1 hR hdep K hK=>?_) 2 (fun a w1 hR=>?_)
  · have X:=Lib.hid (X.out.next hR.bel)
    have HKt:=Lib.hid hK
    have HDp:=Lib.hid hdep
    have sl5:a.tmps.getD 5 undef=.pointer (some ⟨w.heap.size+1+1,0,none⟩):=hR.keep 5 (by decide)
    have sl7:a.tmps.getD 7 undef=.pointer (some ⟨gA,0,none⟩):=hR.keep 7 (by decide)
    have sl8:a.tmps.getD 8 undef=.pointer (some ⟨gB,0,none⟩):=hR.keep 8 (by decide)
    have HRg:=Lib.hid hR
    clear hK hdep hR
    rcases i with _ | _ | _ | _ | _ | _ | _ | _ | _ | _ | i
    · cases hd
      cases ho
      obtain ⟨x00,x01⟩:=X.out.c2 (i:=0) rfl
      obtain ⟨x10,x11,x12,x13,x14,x15,x16,x17⟩:=X.out.c8 (i:=1) rfl
      obtain ⟨x20,x21,x22,x23,x24,x25,x26,x27⟩:=X.out.c8 (i:=2) rfl
      go_simp
      exact HKt.out _ _ (Or.inl ⟨rfl,Below.refl _ _⟩)
    · cases hd
      cases ho
      go_simp
      exact HKt.out _ _ (Or.inl ⟨rfl,Below.refl _ _⟩)
    · cases hd
      cases ho
      obtain ⟨x00,x01⟩:=X.out.c2 (i:=0) rfl
      obtain ⟨x10,x11,x12,x13,x14,x15,x16,x17⟩:=X.out.c8 (i:=1) rfl
      obtain ⟨x20,x21,x22,x23,x24,x25,x26,x27⟩:=X.out.c8 (i:=2) rfl
      have dd1:a.tmps.getD 18 undef=.pointer (some ⟨w.heap.size+1+1,0,none⟩):=HRg.out.val 1 _ (HDp.out 1 (by decide)) rfl
      go_simp
      exact HKt.out _ _ (Or.inl ⟨rfl,Below.refl _ _⟩)
    · cases hd
      cases ho
      have dd0:a.tmps.getD 17 undef=.agg #[.bool b1,.string m1,.bool false,.string k1,.bool b2,.string m2,.bool false,.string k2]:=HRg.out.val 0 _ (HDp.out 0 (by decide)) rfl
      have dd2:a.tmps.getD 19 undef=.int .u8 x:=HRg.out.val 2 _ (HDp.out 2 (by decide)) rfl
      go_simp
      (go_at_call 41;refine (C4.out _ X.out.bel).mono ?_;rintro e u ⟨rfl,hb9⟩)
      try go_wp2_with fail
      exact HKt.out _ _ (Or.inl ⟨rfl,hb9⟩)
    · cases hd
      cases ho
      obtain ⟨x00,x01⟩:=X.out.c2 (i:=0) rfl
      obtain ⟨x10,x11,x12,x13,x14,x15,x16,x17⟩:=X.out.c8 (i:=1) rfl
      obtain ⟨x20,x21,x22,x23,x24,x25,x26,x27⟩:=X.out.c8 (i:=2) rfl
      go_simp
      exact HKt.out _ _ (Or.inl ⟨rfl,Below.refl _ _⟩)
    · cases hd
      cases ho
      go_simp
      exact HKt.out _ _ (Or.inl ⟨rfl,Below.refl _ _⟩)
    · cases hd
      cases ho
      obtain ⟨x00,x01⟩:=X.out.c2 (i:=0) rfl
      obtain ⟨x10,x11,x12,x13,x14,x15,x16,x17⟩:=X.out.c8 (i:=1) rfl
      obtain ⟨x20,x21,x22,x23,x24,x25,x26,x27⟩:=X.out.c8 (i:=2) rfl
      have dd5:a.tmps.getD 22 undef=.pointer (some ⟨w.heap.size+1+1,1,none⟩):=HRg.out.val 5 _ (HDp.out 5 (by decide)) rfl
      go_simp
      exact HKt.out _ _ (Or.inl ⟨rfl,Below.refl _ _⟩)
    · cases hd
      cases ho
      have dd3:a.tmps.getD 20 undef=.agg #[.bool b5,.string m5,.bool false,.string k5]:=HRg.out.val 3 _ (HDp.out 3 (by decide)) rfl
      have dd4:a.tmps.getD 21 undef=.agg #[.bool b3,.string m3,.bool false,.string k3,.bool b4,.string m4,.bool false,.string k4]:=HRg.out.val 4 _ (HDp.out 4 (by decide)) rfl
      have dd6:a.tmps.getD 23 undef=.int .u8 y:=HRg.out.val 6 _ (HDp.out 6 (by decide)) rfl
      go_simp
      (go_at_call 41;refine (C5.out _ X.out.bel).mono ?_;rintro e u ⟨rfl,hb9⟩)
      try go_wp2_with fail
      exact HKt.out _ _ (Or.inl ⟨rfl,hb9⟩)
    · cases hd
      cases ho
      go_simp
      exact HKt.out _ _ (Or.inr (Or.inl ⟨_,_,rfl,rfl,rfl⟩))
    · cases hd
      cases ho
      go_simp
      exact HKt.out _ _ (Or.inr (Or.inl ⟨_,_,rfl,rfl,rfl⟩))
    · cases hd
  obtain ⟨g8,hg8,lg8,kg8⟩:=hR.new 8 _ _ (by rfl) rfl
  obtain ⟨g9,hg9,lg9,kg9⟩:=hR.new 9 _ _ (by rfl) rfl
  have vv0:a.tmps.getD 17 undef=.agg #[.bool b1,.string m1,.bool false,.string k1,.bool b2,.string m2,.bool false,.string k2]:=hR.val 0 _ (by rfl) rfl
  have vv1:a.tmps.getD 18 undef=.pointer (some ⟨w.heap.size+1+1,0,none⟩):=hR.val 1 _ (by rfl) rfl
  have vv2:a.tmps.getD 19 undef=.int .u8 x:=hR.val 2 _ (by rfl) rfl
  have vv3:a.tmps.getD 20 undef=.agg #[.bool b5,.string m5,.bool false,.string k5]:=hR.val 3 _ (by rfl) rfl
  have vv4:a.tmps.getD 21 undef=.agg #[.bool b3,.string m3,.bool false,.string k3,.bool b4,.string m4,.bool false,.string k4]:=hR.val 4 _ (by rfl) rfl
  have vv5:a.tmps.getD 22 undef=.pointer (some ⟨w.heap.size+1+1,1,none⟩):=hR.val 5 _ (by rfl) rfl
  have vv6:a.tmps.getD 23 undef=.int .u8 y:=hR.val 6 _ (by rfl) rfl
  have vv7:a.tmps.getD 24 undef=.agg #[.bool b6,.string m6,.bool false,.string k6]:=hR.val 7 _ (by rfl) rfl
  replace hg8:a.tmps.getD 9 undef=.pointer (some ⟨g8,0,none⟩):=hg8
  replace hg9:a.tmps.getD 10 undef=.pointer (some ⟨g9,0,none⟩):=hg9
  have hne:g8≠g9:=fun e=>hR.ne 8 9 _ _ _ _ g8 (by decide) (by rfl) (by rfl) rfl rfl hg8 (by rw [e];exact hg9)
  have X:=Lib.hid (X.out.add2 hR.bel lg8 kg8 lg9 kg9 hne)
  have ha:=hR.act
  simp only [List.foldl_cons,List.foldl_nil,seti,set0,setS,vv0,vv1,vv2,vv3,vv4,vv5,vv6,vv7,hg8,hg9] at ha
  subst ha
  clear hR vv0 vv1 vv2 vv3 vv4 vv5 vv6 vv7 hg8 lg8 kg8 hg9 lg9 kg9 hne
  refine wpAny_of_late (S:=fun _=>True) (L:=[]) _ _ _ _ ?_
  refine wpLate_one (i:=10) (o:=⟨none,_,_,_,_,_⟩) (by kernel_rfl) rfl (fun K hK=>?_)
  obtain ⟨x0,x1,x2,x3⟩:=X.out.c4 (i:=3) rfl
  obtain ⟨y0,y1,y2,y3⟩:=X.out.f4 (i:=3) rfl
  have X:=Lib.hid (X.out.set4 (i:=3) rfl (.bool b5) (.string m5) (.bool false) (.string k5))
  go_simp
  refine hK.out _ _ (Or.inr fun _=>trivial) ?_
  clear hK K x0 x1 x2 x3 y0 y1 y2 y3
  obtain ⟨W10,hV⟩:=wexi X.out
  rw [←hV] at X ⊢
  clear hV
  try simp only [Act.put]
  refine wpLate_one (i:=11) (o:=⟨none,_,_,_,_,_⟩) (by kernel_rfl) rfl (fun K hK=>?_)
  obtain ⟨x0,x1,x2,x3⟩:=X.out.c4 (i:=4) rfl
  obtain ⟨y0,y1,y2,y3⟩:=X.out.f4 (i:=4) rfl
  have X:=Lib.hid (X.out.set4 (i:=4) rfl (.bool b6) (.string m6) (.bool false) (.string k6))
  go_simp
  refine hK.out _ _ (Or.inr fun _=>trivial) ?_
  clear hK K x0 x1 x2 x3 y0 y1 y2 y3
  obtain ⟨W11,hV⟩:=wexi X.out
  rw [←hV] at X ⊢
  clear hV
  try simp only [Act.put]
  refine wpLate_done (by kernel_rfl) ?_ _
  go_wp2_with fail
  go_meet
  exact ⟨_,_,rfl,rfl,X.out.pick [1,2,3,4] _ [] rfl (by decide) (by simp)⟩
 clear X
 obtain ⟨gC,gD,rfl,rfl,hX⟩:=hcut
 have X:=Lib.hid hX
 clear hX
 have F:=X.out.facts
 simp only [Facts,cellsAt,List.take_succ_cons,List.take_zero,Nat.reduceAdd,and_true,List.set_cons_succ,List.set_cons_zero,List.cons_append,List.nil_append] at F
 exact wk

set_option maxHeartbeats 8000000 in
set_option maxRecDepth 100000 in
theorem incl_1 (w:World) {b1 b2 b3 b4 b5 b6 b7 b8 b9 b10 b11 b12 b13 b14 b15 b16 b17 b18 b21 b22 b23 b24 b25 b19 b20 b26:Bool} {m1 k1 m2 k2 m3 k3 m4 k4 m5 k5 m6 k6 m7 k7 m8 k8 m9 k9 m10 k10 m11 k11 m12 k12 m13 k13 m14 k14 m15 k15 m16 k16 m17 k17 m18 k18 m21 k21 m22 k22 m23 k23 m24 k24 m25 k25 m19 k19 m20 k20 m26 k26:ByteArray} {n1 d1 n2 d2 n3 d3 n4 d4 x y:Int} (HK:∀ V,Below w.heap.size w V→Calls Tryz.prog 18 #[] V (RetB V (.bool true))) (HA:∀ V,Below w.heap.size w V→Calls Tryz.prog 26 #[.agg #[.int .i32 n1,.int .u16 d1,.int .i32 n2,.int .u16 d2]] V (RetB V (.agg #[.bool b1,.string m1,.bool false,.string k1,.bool b2,.string m2,.bool false,.string k2]))) (HB:∀ V,Below w.heap.size w V→Calls Tryz.prog 26 #[.agg #[.int .i32 n3,.int .u16 d3,.int .i32 n4,.int .u16 d4]] V (RetB V (.agg #[.bool b3,.string m3,.bool false,.string k3,.bool b4,.string m4,.bool false,.string k4]))) (HW1:∀ V,Below w.heap.size w V→Calls Tryz.prog 41 #[.agg #[.bool b1,.string m1,.bool false,.string k1,.bool b2,.string m2,.bool false,.string k2],.int .u8 x] V (RetB V (.agg #[.bool b5,.string m5,.bool false,.string k5]))) (HW2:∀ V,Below w.heap.size w V→Calls Tryz.prog 41 #[.agg #[.bool b3,.string m3,.bool false,.string k3,.bool b4,.string m4,.bool false,.string k4],.int .u8 y] V (RetB V (.agg #[.bool b6,.string m6,.bool false,.string k6]))) (H1:∀ V,Below w.heap.size w V→Calls Tryz.prog 27 #[.agg #[.bool b1,.string m1,.bool false,.string k1,.bool b2,.string m2,.bool false,.string k2],.agg #[.bool b3,.string m3,.bool false,.string k3,.bool b4,.string m4,.bool false,.string k4]] V (RetB V (.agg #[.bool b7,.string m7,.bool false,.string k7,.bool b8,.string m8,.bool false,.string k8]))) (V9:∀ V,Below w.heap.size w V→Calls Tryz.prog 43 #[.agg #[.bool b5,.string m5,.bool false,.string k5],.agg #[.bool b6,.string m6,.bool false,.string k6]] V (RetB V (.agg #[.bool b9,.string m9,.bool false,.string k9]))) (I1:∀ V,Below w.heap.size w V→Calls Tryz.prog 42 #[.agg #[.bool b7,.string m7,.bool false,.string k7,.bool b8,.string m8,.bool false,.string k8],.agg #[.bool b9,.string m9,.bool false,.string k9]] V (RetB V (.bool true))) (H2:∀ V,Below w.heap.size w V→Calls Tryz.prog 30 #[.agg #[.bool b1,.string m1,.bool false,.string k1,.bool b2,.string m2,.bool false,.string k2],.agg #[.bool b3,.string m3,.bool false,.string k3,.bool b4,.string m4,.bool false,.string k4]] V (RetB V (.agg #[.bool b10,.string m10,.bool false,.string k10,.bool b11,.string m11,.bool false,.string k11]))) (V12:∀ V,Below w.heap.size w V→Calls Tryz.prog 44 #[.agg #[.bool b5,.string m5,.bool false,.string k5],.agg #[.bool b6,.string m6,.bool false,.string k6]] V (RetB V (.agg #[.bool b12,.string m12,.bool false,.string k12]))) (I2:∀ V,Below w.heap.size w V→Calls Tryz.prog 42 #[.agg #[.bool b10,.string m10,.bool false,.string k10,.bool b11,.string m11,.bool false,.string k11],.agg #[.bool b12,.string m12,.bool false,.string k12]] V (RetB V (.bool true))) (H3:∀ V,Below w.heap.size w V→Calls Tryz.prog 32 #[.agg #[.bool b1,.string m1,.bool false,.string k1,.bool b2,.string m2,.bool false,.string k2],.agg #[.bool b3,.string m3,.bool false,.string k3,.bool b4,.string m4,.bool false,.string k4]] V (RetB V (.agg #[.bool b13,.string m13,.bool false,.string k13,.bool b14,.string m14,.bool false,.string k14]))) (V15:∀ V,Below w.heap.size w V→Calls Tryz.prog 45 #[.agg #[.bool b5,.string m5,.bool false,.string k5],.agg #[.bool b6,.string m6,.bool false,.string k6]] V (RetB V (.agg #[.bool b15,.string m15,.bool false,.string k15]))) (I3:∀ V,Below w.heap.size w V→Calls Tryz.prog 42 #[.agg #[.bool b13,.string m13,.bool false,.string k13,.bool b14,.string m14,.bool false,.string k14],.agg #[.bool b15,.string m15,.bool false,.string k15]] V (RetB V (.bool true))) (H4:∀ V,Below w.heap.size w V→Calls Tryz.prog 34 #[.agg #[.bool b1,.string m1,.bool false,.string k1,.bool b2,.string m2,.bool false,.string k2]] V (RetB V (.agg #[.bool b16,.string m16,.bool false,.string k16,.bool b17,.string m17,.bool false,.string k17]))) (V18:∀ V,Below w.heap.size w V→Calls Tryz.prog 45 #[.agg #[.bool b5,.string m5,.bool false,.string k5],.agg #[.bool b5,.string m5,.bool false,.string k5]] V (RetB V (.agg #[.bool b18,.string m18,.bool false,.string k18]))) (I4:∀ V,Below w.heap.size w V→Calls Tryz.prog 42 #[.agg #[.bool b16,.string m16,.bool false,.string k16,.bool b17,.string m17,.bool false,.string k17],.agg #[.bool b18,.string m18,.bool false,.string k18]] V (RetB V (.bool true))) (H5:∀ V,Below w.heap.size w V→Calls Tryz.prog 36 #[.agg #[.bool b1,.string m1,.bool false,.string k1,.bool b2,.string m2,.bool false,.string k2]] V (RetB V (.agg #[.bool b21,.string m21,.bool false,.string k21,.bool b22,.string m22,.bool false,.string k22]))) (V23:∀ V,Below w.heap.size w V→Calls Tryz.prog 46 #[.agg #[.bool b5,.string m5,.bool false,.string k5]] V (RetB V (.agg #[.bool b23,.string m23,.bool false,.string k23]))) (I5:∀ V,Below w.heap.size w V→Calls Tryz.prog 42 #[.agg #[.bool b21,.string m21,.bool false,.string k21,.bool b22,.string m22,.bool false,.string k22],.agg #[.bool b23,.string m23,.bool false,.string k23]] V (RetB V (.bool true))) (H6:∀ V,Below w.heap.size w V→Calls Tryz.prog 37 #[.agg #[.bool b1,.string m1,.bool false,.string k1,.bool b2,.string m2,.bool false,.string k2],.agg #[.bool b6,.string m6,.bool false,.string k6]] V (RetB V (.agg #[.bool b24,.string m24,.bool false,.string k24,.bool b25,.string m25,.bool false,.string k25]))) (I6:∀ V,Below w.heap.size w V→Calls Tryz.prog 42 #[.agg #[.bool b24,.string m24,.bool false,.string k24,.bool b25,.string m25,.bool false,.string k25],.agg #[.bool b15,.string m15,.bool false,.string k15]] V (RetB V (.bool true))) (H7:∀ V,Below w.heap.size w V→Calls Tryz.prog 38 #[.agg #[.bool b1,.string m1,.bool false,.string k1,.bool b2,.string m2,.bool false,.string k2],.agg #[.bool b3,.string m3,.bool false,.string k3,.bool b4,.string m4,.bool false,.string k4]] V (RetB V (.tuple #[.agg #[.bool b19,.string m19,.bool false,.string k19,.bool b20,.string m20,.bool false,.string k20],.int .i64 0]))) (V26:∀ V,Below w.heap.size w V→Calls Tryz.prog 47 #[.agg #[.bool b5,.string m5,.bool false,.string k5],.agg #[.bool b6,.string m6,.bool false,.string k6]] V (RetB V (.agg #[.bool b26,.string m26,.bool false,.string k26]))) (I7:∀ V,Below w.heap.size w V→Calls Tryz.prog 42 #[.agg #[.bool b19,.string m19,.bool false,.string k19,.bool b20,.string m20,.bool false,.string k20],.agg #[.bool b26,.string m26,.bool false,.string k26]] V (RetB V (.bool true))) :
  Calls Tryz.prog 6 #[.agg #[.int .i32 n1,.int .u16 d1,.int .i32 n2,.int .u16 d2],.agg #[.int .i32 n3,.int .u16 d3,.int .i32 n4,.int .u16 d4],.agg #[.int .u8 x,.int .u8 y]] w (RetB w (.bool true)):=by
 have C1:=Lib.hid HK
 have C2:=Lib.hid HA
 have C3:=Lib.hid HB
 have C4:=Lib.hid HW1
 have C5:=Lib.hid HW2
 have C6:=Lib.hid H1
 have C7:=Lib.hid V9
 have C8:=Lib.hid I1
 have C9:=Lib.hid H2
 have C10:=Lib.hid V12
 have C11:=Lib.hid I2
 have C12:=Lib.hid H3
 have C13:=Lib.hid V15
 have C14:=Lib.hid I3
 have C15:=Lib.hid H4
 have C16:=Lib.hid V18
 have C17:=Lib.hid I4
 have C18:=Lib.hid H5
 have C19:=Lib.hid V23
 have C20:=Lib.hid I5
 have C21:=Lib.hid H6
 have C22:=Lib.hid I6
 have C23:=Lib.hid H7
 have C24:=Lib.hid V26
 have C25:=Lib.hid I7
 clear HK HA HB HW1 HW2 H1 V9 I1 H2 V12 I2 H3 V15 I3 H4 V18 I4 H5 V23 I5 H6 I6 H7 V26 I7 
 go_enter Tryz.func6,Tryz.ntmps6
 go_upto_region 1 with fail
 refine gs3 (M:=fun W=>Code.wp _ _ _ _ W) (fun V X0=>?_)
 have X:=Lib.hid X0
 clear X0
 have F:=X.out.facts
 simp only [Facts,cellsAt,List.take_succ_cons,List.take_zero,Nat.reduceAdd,and_true,List.set_cons_succ,List.set_cons_zero,List.cons_append,List.nil_append] at F
 clear F
 go_cut [7,8] (fun s7 s8 wx=>∃ gA gB,s7=.pointer (some ⟨gA,0,none⟩)∧s8=.pointer (some ⟨gB,0,none⟩)∧Sb w [(w.heap.size+1+1,#[.int .u8 x,.int .u8 y],66),(gA,#[.bool b1,.string m1,.bool false,.string k1,.bool b2,.string m2,.bool false,.string k2],34),(gB,#[.bool b3,.string m3,.bool false,.string k3,.bool b4,.string m4,.bool false,.string k4],34)] [] wx)
 case first =>
  refine wp_region_any (by kernel_rfl) ?_
  have X:=Lib.hid X.out.drew
  obtain ⟨W0,hV⟩:=wexi X.out
  rw [show ∀ v:World,{ v with drawn:=v.drawn+1 }=v.drew from fun _=>rfl,←hV]
  rw [←hV] at X
  clear hV
  refine rg_run (ef:=[.val (.agg #[.int .i32 n1,.int .u16 d1,.int .i32 n2,.int .u16 d2]),.val (.agg #[.bool b1,.string m1,.bool false,.string k1,.bool b2,.string m2,.bool false,.string k2]),.val (.agg #[.int .i32 n3,.int .u16 d3,.int .i32 n4,.int .u16 d4]),.val (.agg #[.bool b3,.string m3,.bool false,.string k3,.bool b4,.string m4,.bool false,.string k4]),.new #[.bool false,.string ⟨#[]⟩,.bool false,.string ⟨#[]⟩,.bool false,.string ⟨#[]⟩,.bool false,.string ⟨#[]⟩] 34,.new #[.bool false,.string ⟨#[]⟩,.bool false,.string ⟨#[]⟩,.bool false,.string ⟨#[]⟩,.bool false,.string ⟨#[]⟩] 34]) (ds:=[13,14,15,16,7,8]) (by kernel_rfl) (stays_none (by simp)) (by decide) rfl (by intro d hd;simp at hd ⊢;omega) (fun i d o hd ho listed a w1 hR hdep K hK=>?_) 2 (fun a w1 hR=>?_)
  · have X:=Lib.hid (X.out.next hR.bel)
    have HKt:=Lib.hid hK
    have HDp:=Lib.hid hdep
    have sl3:a.tmps.getD 3 undef=.pointer (some ⟨w.heap.size,0,none⟩):=hR.keep 3 (by decide)
    have sl4:a.tmps.getD 4 undef=.pointer (some ⟨w.heap.size+1,0,none⟩):=hR.keep 4 (by decide)
    have sl5:a.tmps.getD 5 undef=.pointer (some ⟨w.heap.size+1+1,0,none⟩):=hR.keep 5 (by decide)
    have HRg:=Lib.hid hR
    clear hK hdep hR
    rcases i with _ | _ | _ | _ | _ | _ | i
    · cases hd
      cases ho
      obtain ⟨x00,x01,x02,x03⟩:=X.out.c4 (i:=0) rfl
      obtain ⟨x10,x11,x12,x13⟩:=X.out.c4 (i:=1) rfl
      go_simp
      exact HKt.out _ _ (Or.inl ⟨rfl,Below.refl _ _⟩)
    · cases hd
      cases ho
      have dd0:a.tmps.getD 13 undef=.agg #[.int .i32 n1,.int .u16 d1,.int .i32 n2,.int .u16 d2]:=HRg.out.val 0 _ (HDp.out 0 (by decide)) rfl
      go_simp
      (go_at_call 26;refine (C2.out _ X.out.bel).mono ?_;rintro e u ⟨rfl,hb9⟩)
      try go_wp2_with fail
      exact HKt.out _ _ (Or.inl ⟨rfl,hb9⟩)
    · cases hd
      cases ho
      obtain ⟨x00,x01,x02,x03⟩:=X.out.c4 (i:=0) rfl
      obtain ⟨x10,x11,x12,x13⟩:=X.out.c4 (i:=1) rfl
      go_simp
      exact HKt.out _ _ (Or.inl ⟨rfl,Below.refl _ _⟩)
    · cases hd
      cases ho
      have dd1:a.tmps.getD 14 undef=.agg #[.bool b1,.string m1,.bool false,.string k1,.bool b2,.string m2,.bool false,.string k2]:=HRg.out.val 1 _ (HDp.out 1 (by decide)) rfl
      have dd2:a.tmps.getD 15 undef=.agg #[.int .i32 n3,.int .u16 d3,.int .i32 n4,.int .u16 d4]:=HRg.out.val 2 _ (HDp.out 2 (by decide)) rfl
      go_simp
      (go_at_call 26;refine (C3.out _ X.out.bel).mono ?_;rintro e u ⟨rfl,hb9⟩)
      try go_wp2_with fail
      exact HKt.out _ _ (Or.inl ⟨rfl,hb9⟩)
    · cases hd
      cases ho
      go_simp
      exact HKt.out _ _ (Or.inr (Or.inl ⟨_,_,rfl,rfl,rfl⟩))
    · cases hd
      cases ho
      go_simp
      exact HKt.out _ _ (Or.inr (Or.inl ⟨_,_,rfl,rfl,rfl⟩))
    · cases hd
  obtain ⟨g4,hg4,lg4,kg4⟩:=hR.new 4 _ _ (by rfl) rfl
  obtain ⟨g5,hg5,lg5,kg5⟩:=hR.new 5 _ _ (by rfl) rfl
  have vv0:a.tmps.getD 13 undef=.agg #[.int .i32 n1,.int .u16 d1,.int .i32 n2,.int .u16 d2]:=hR.val 0 _ (by rfl) rfl
  have vv1:a.tmps.getD 14 undef=.agg #[.bool b1,.string m1,.bool false,.string k1,.bool b2,.string m2,.bool false,.string k2]:=hR.val 1 _ (by rfl) rfl
  have vv2:a.tmps.getD 15 undef=.agg #[.int .i32 n3,.int .u16 d3,.int .i32 n4,.int .u16 d4]:=hR.val 2 _ (by rfl) rfl
  have vv3:a.tmps.getD 16 undef=.agg #[.bool b3,.string m3,.bool false,.string k3,.bool b4,.string m4,.bool false,.string k4]:=hR.val 3 _ (by rfl) rfl
  replace hg4:a.tmps.getD 7 undef=.pointer (some ⟨g4,0,none⟩):=hg4
  replace hg5:a.tmps.getD 8 undef=.pointer (some ⟨g5,0,none⟩):=hg5
  have hne:g4≠g5:=fun e=>hR.ne 4 5 _ _ _ _ g4 (by decide) (by rfl) (by rfl) rfl rfl hg4 (by rw [e];exact hg5)
  have X:=Lib.hid (X.out.add2 hR.bel lg4 kg4 lg5 kg5 hne)
  have ha:=hR.act
  simp only [List.foldl_cons,List.foldl_nil,seti,set0,setS,vv0,vv1,vv2,vv3,hg4,hg5] at ha
  subst ha
  clear hR vv0 vv1 vv2 vv3 hg4 lg4 kg4 hg5 lg5 kg5 hne
  refine wpAny_of_late (S:=fun _=>True) (L:=[]) _ _ _ _ ?_
  refine wpLate_one (i:=6) (o:=⟨none,_,_,_,_,_⟩) (by kernel_rfl) rfl (fun K hK=>?_)
  obtain ⟨x0,x1,x2,x3,x4,x5,x6,x7⟩:=X.out.c8 (i:=3) rfl
  obtain ⟨y0,y1,y2,y3,y4,y5,y6,y7⟩:=X.out.f8 (i:=3) rfl
  have X:=Lib.hid (X.out.set8 (i:=3) rfl (.bool b1) (.string m1) (.bool false) (.string k1) (.bool b2) (.string m2) (.bool false) (.string k2))
  go_simp
  refine hK.out _ _ (Or.inr fun _=>trivial) ?_
  clear hK K x0 x1 x2 x3 x4 x5 x6 x7 y0 y1 y2 y3 y4 y5 y6 y7
  obtain ⟨W6,hV⟩:=wexi X.out
  rw [←hV] at X ⊢
  clear hV
  try simp only [Act.put]
  refine wpLate_one (i:=7) (o:=⟨none,_,_,_,_,_⟩) (by kernel_rfl) rfl (fun K hK=>?_)
  obtain ⟨x0,x1,x2,x3,x4,x5,x6,x7⟩:=X.out.c8 (i:=4) rfl
  obtain ⟨y0,y1,y2,y3,y4,y5,y6,y7⟩:=X.out.f8 (i:=4) rfl
  have X:=Lib.hid (X.out.set8 (i:=4) rfl (.bool b3) (.string m3) (.bool false) (.string k3) (.bool b4) (.string m4) (.bool false) (.string k4))
  go_simp
  refine hK.out _ _ (Or.inr fun _=>trivial) ?_
  clear hK K x0 x1 x2 x3 x4 x5 x6 x7 y0 y1 y2 y3 y4 y5 y6 y7
  obtain ⟨W7,hV⟩:=wexi X.out
  rw [←hV] at X ⊢
  clear hV
  try simp only [Act.put]
  refine wpLate_done (by kernel_rfl) ?_ _
  go_wp2_with fail
  go_meet
  exact ⟨_,_,rfl,rfl,X.out.pick [2,3,4] _ [] rfl (by decide) (by simp)⟩
 clear X
 obtain ⟨gA,gB,rfl,rfl,hX⟩:=hcut
 have X:=Lib.hid hX
 clear hX
 go_upto_region 2 with fail
 go_cut [9,10] (fun s9 s10 wx=>∃ gC gD,s9=.pointer (some ⟨gC,0,none⟩)∧s10=.pointer (some ⟨gD,0,none⟩)∧Sb w [(gA,#[.bool b1,.string m1,.bool false,.string k1,.bool b2,.string m2,.bool false,.string k2],34),(gB,#[.bool b3,.string m3,.bool false,.string k3,.bool b4,.string m4,.bool false,.string k4],34),(gC,#[.bool b5,.string m5,.bool false,.string k5],25),(gD,#[.bool b6,.string m6,.bool false,.string k6],25)] [] wx)
 case first =>
  refine wp_region_any (by kernel_rfl) ?_
  have X:=Lib.hid X.out.drew
  obtain ⟨W0,hV⟩:=wexi X.out
  rw [show ∀ v:World,{ v with drawn:=v.drawn+1 }=v.drew from fun _=>rfl,←hV]
  rw [←hV] at X
  clear hV
  refine rg_run (ef:=[.val (.agg #[.bool b1,.string m1,.bool false,.string k1,.bool b2,.string m2,.bool false,.string k2]),.val (.pointer (some ⟨w.heap.size+1+1,0,none⟩)),.val (.int .u8 x),.val (.agg #[.bool b5,.string m5,.bool false,.string k5]),.val (.agg #[.bool b3,.string m3,.bool false,.string k3,.bool b4,.string m4,.bool false,.string k4]),.val (.pointer (some ⟨w.heap.size+1+1,1,none⟩)),.val (.int .u8 y),.val (.agg #[.bool b6,.string m6,.bool false,.string k6]),.new #[.bool false,.string ⟨#[]⟩,.bool false,.string ⟨#[]⟩] 25,.new #[.bool false,.string ⟨#[]⟩,.bool false,.string ⟨#[]⟩] 25]) (ds:=[17,18,19,20,21,22,23,24,9,10]) (by kernel_rfl) (stays_none (by simp)) (by decide) rfl (by intro d hd;simp at hd ⊢;omega) (fun i d o hd ho listed a w1 hR hdep K hK=>?_) 2 (fun a w1 hR=>?_)
  · have X:=Lib.hid (X.out.next hR.bel)
    have HKt:=Lib.hid hK
    have HDp:=Lib.hid hdep
    have sl5:a.tmps.getD 5 undef=.pointer (some ⟨w.heap.size+1+1,0,none⟩):=hR.keep 5 (by decide)
    have sl7:a.tmps.getD 7 undef=.pointer (some ⟨gA,0,none⟩):=hR.keep 7 (by decide)
    have sl8:a.tmps.getD 8 undef=.pointer (some ⟨gB,0,none⟩):=hR.keep 8 (by decide)
    have HRg:=Lib.hid hR
    clear hK hdep hR
    rcases i with _ | _ | _ | _ | _ | _ | _ | _ | _ | _ | i
    · cases hd
      cases ho
      obtain ⟨x00,x01⟩:=X.out.c2 (i:=0) rfl
      obtain ⟨x10,x11,x12,x13,x14,x15,x16,x17⟩:=X.out.c8 (i:=1) rfl
      obtain ⟨x20,x21,x22,x23,x24,x25,x26,x27⟩:=X.out.c8 (i:=2) rfl
      go_simp
      exact HKt.out _ _ (Or.inl ⟨rfl,Below.refl _ _⟩)
    · cases hd
      cases ho
      go_simp
      exact HKt.out _ _ (Or.inl ⟨rfl,Below.refl _ _⟩)
    · cases hd
      cases ho
      obtain ⟨x00,x01⟩:=X.out.c2 (i:=0) rfl
      obtain ⟨x10,x11,x12,x13,x14,x15,x16,x17⟩:=X.out.c8 (i:=1) rfl
      obtain ⟨x20,x21,x22,x23,x24,x25,x26,x27⟩:=X.out.c8 (i:=2) rfl
      have dd1:a.tmps.getD 18 undef=.pointer (some ⟨w.heap.size+1+1,0,none⟩):=HRg.out.val 1 _ (HDp.out 1 (by decide)) rfl
      go_simp
      exact HKt.out _ _ (Or.inl ⟨rfl,Below.refl _ _⟩)
    · cases hd
      cases ho
      have dd0:a.tmps.getD 17 undef=.agg #[.bool b1,.string m1,.bool false,.string k1,.bool b2,.string m2,.bool false,.string k2]:=HRg.out.val 0 _ (HDp.out 0 (by decide)) rfl
      have dd2:a.tmps.getD 19 undef=.int .u8 x:=HRg.out.val 2 _ (HDp.out 2 (by decide)) rfl
      go_simp
      (go_at_call 41;refine (C4.out _ X.out.bel).mono ?_;rintro e u ⟨rfl,hb9⟩)
      try go_wp2_with fail
      exact HKt.out _ _ (Or.inl ⟨rfl,hb9⟩)
    · cases hd
      cases ho
      obtain ⟨x00,x01⟩:=X.out.c2 (i:=0) rfl
      obtain ⟨x10,x11,x12,x13,x14,x15,x16,x17⟩:=X.out.c8 (i:=1) rfl
      obtain ⟨x20,x21,x22,x23,x24,x25,x26,x27⟩:=X.out.c8 (i:=2) rfl
      go_simp
      exact HKt.out _ _ (Or.inl ⟨rfl,Below.refl _ _⟩)
    · cases hd
      cases ho
      go_simp
      exact HKt.out _ _ (Or.inl ⟨rfl,Below.refl _ _⟩)
    · cases hd
      cases ho
      obtain ⟨x00,x01⟩:=X.out.c2 (i:=0) rfl
      obtain ⟨x10,x11,x12,x13,x14,x15,x16,x17⟩:=X.out.c8 (i:=1) rfl
      obtain ⟨x20,x21,x22,x23,x24,x25,x26,x27⟩:=X.out.c8 (i:=2) rfl
      have dd5:a.tmps.getD 22 undef=.pointer (some ⟨w.heap.size+1+1,1,none⟩):=HRg.out.val 5 _ (HDp.out 5 (by decide)) rfl
      go_simp
      exact HKt.out _ _ (Or.inl ⟨rfl,Below.refl _ _⟩)
    · cases hd
      cases ho
      have dd3:a.tmps.getD 20 undef=.agg #[.bool b5,.string m5,.bool false,.string k5]:=HRg.out.val 3 _ (HDp.out 3 (by decide)) rfl
      have dd4:a.tmps.getD 21 undef=.agg #[.bool b3,.string m3,.bool false,.string k3,.bool b4,.string m4,.bool false,.string k4]:=HRg.out.val 4 _ (HDp.out 4 (by decide)) rfl
      have dd6:a.tmps.getD 23 undef=.int .u8 y:=HRg.out.val 6 _ (HDp.out 6 (by decide)) rfl
      go_simp
      (go_at_call 41;refine (C5.out _ X.out.bel).mono ?_;rintro e u ⟨rfl,hb9⟩)
      try go_wp2_with fail
      exact HKt.out _ _ (Or.inl ⟨rfl,hb9⟩)
    · cases hd
      cases ho
      go_simp
      exact HKt.out _ _ (Or.inr (Or.inl ⟨_,_,rfl,rfl,rfl⟩))
    · cases hd
      cases ho
      go_simp
      exact HKt.out _ _ (Or.inr (Or.inl ⟨_,_,rfl,rfl,rfl⟩))
    · cases hd
  obtain ⟨g8,hg8,lg8,kg8⟩:=hR.new 8 _ _ (by rfl) rfl
  obtain ⟨g9,hg9,lg9,kg9⟩:=hR.new 9 _ _ (by rfl) rfl
  have vv0:a.tmps.getD 17 undef=.agg #[.bool b1,.string m1,.bool false,.string k1,.bool b2,.string m2,.bool false,.string k2]:=hR.val 0 _ (by rfl) rfl
  have vv1:a.tmps.getD 18 undef=.pointer (some ⟨w.heap.size+1+1,0,none⟩):=hR.val 1 _ (by rfl) rfl
  have vv2:a.tmps.getD 19 undef=.int .u8 x:=hR.val 2 _ (by rfl) rfl
  have vv3:a.tmps.getD 20 undef=.agg #[.bool b5,.string m5,.bool false,.string k5]:=hR.val 3 _ (by rfl) rfl
  have vv4:a.tmps.getD 21 undef=.agg #[.bool b3,.string m3,.bool false,.string k3,.bool b4,.string m4,.bool false,.string k4]:=hR.val 4 _ (by rfl) rfl
  have vv5:a.tmps.getD 22 undef=.pointer (some ⟨w.heap.size+1+1,1,none⟩):=hR.val 5 _ (by rfl) rfl
  have vv6:a.tmps.getD 23 undef=.int .u8 y:=hR.val 6 _ (by rfl) rfl
  have vv7:a.tmps.getD 24 undef=.agg #[.bool b6,.string m6,.bool false,.string k6]:=hR.val 7 _ (by rfl) rfl
  replace hg8:a.tmps.getD 9 undef=.pointer (some ⟨g8,0,none⟩):=hg8
  replace hg9:a.tmps.getD 10 undef=.pointer (some ⟨g9,0,none⟩):=hg9
  have hne:g8≠g9:=fun e=>hR.ne 8 9 _ _ _ _ g8 (by decide) (by rfl) (by rfl) rfl rfl hg8 (by rw [e];exact hg9)
  have X:=Lib.hid (X.out.add2 hR.bel lg8 kg8 lg9 kg9 hne)
  have ha:=hR.act
  simp only [List.foldl_cons,List.foldl_nil,seti,set0,setS,vv0,vv1,vv2,vv3,vv4,vv5,vv6,vv7,hg8,hg9] at ha
  subst ha
  clear hR vv0 vv1 vv2 vv3 vv4 vv5 vv6 vv7 hg8 lg8 kg8 hg9 lg9 kg9 hne
  refine wpAny_of_late (S:=fun _=>True) (L:=[]) _ _ _ _ ?_
  refine wpLate_one (i:=10) (o:=⟨none,_,_,_,_,_⟩) (by kernel_rfl) rfl (fun K hK=>?_)
  obtain ⟨x0,x1,x2,x3⟩:=X.out.c4 (i:=3) rfl
  obtain ⟨y0,y1,y2,y3⟩:=X.out.f4 (i:=3) rfl
  have X:=Lib.hid (X.out.set4 (i:=3) rfl (.bool b5) (.string m5) (.bool false) (.string k5))
  go_simp
  refine hK.out _ _ (Or.inr fun _=>trivial) ?_
  clear hK K x0 x1 x2 x3 y0 y1 y2 y3
  obtain ⟨W10,hV⟩:=wexi X.out
  rw [←hV] at X ⊢
  clear hV
  try simp only [Act.put]
  refine wpLate_one (i:=11) (o:=⟨none,_,_,_,_,_⟩) (by kernel_rfl) rfl (fun K hK=>?_)
  obtain ⟨x0,x1,x2,x3⟩:=X.out.c4 (i:=4) rfl
  obtain ⟨y0,y1,y2,y3⟩:=X.out.f4 (i:=4) rfl
  have X:=Lib.hid (X.out.set4 (i:=4) rfl (.bool b6) (.string m6) (.bool false) (.string k6))
  go_simp
  refine hK.out _ _ (Or.inr fun _=>trivial) ?_
  clear hK K x0 x1 x2 x3 y0 y1 y2 y3
  obtain ⟨W11,hV⟩:=wexi X.out
  rw [←hV] at X ⊢
  clear hV
  try simp only [Act.put]
  refine wpLate_done (by kernel_rfl) ?_ _
  go_wp2_with fail
  go_meet
  exact ⟨_,_,rfl,rfl,X.out.pick [1,2,3,4] _ [] rfl (by decide) (by simp)⟩
 clear X
 obtain ⟨gC,gD,rfl,rfl,hX⟩:=hcut
 have X:=Lib.hid hX
 clear hX
 have F:=X.out.facts
 simp only [Facts,cellsAt,List.take_succ_cons,List.take_zero,Nat.reduceAdd,and_true,List.set_cons_succ,List.set_cons_zero,List.cons_append,List.nil_append] at F
 exact wk
end Go.Proofs.YtdbhahiieokplaaGreatDoor


namespace Go.Proofs.YtdbhahiieokplaaGreatDoor
open Go.RowKit
attribute [local go_sem ↓] Go.wp_at_zero Go.wp_at_succ

theorem lin {p q x t:Rat} (h1:p≤x) (h2:x≤q):(p*t≤x*t∧x*t≤q*t)∨(q*t≤x*t∧x*t≤p*t):=by
 rcases Rat.le_total (a:=0) (b:=t) with h | h
 · exact .inl ⟨Rat.mul_le_mul_of_nonneg_right h1 h,Rat.mul_le_mul_of_nonneg_right h2 h⟩
 · have h':(0:Rat)≤-t:=by grind
   have a:=Rat.mul_le_mul_of_nonneg_right h1 h'
   have b:=Rat.mul_le_mul_of_nonneg_right h2 h'
   exact .inr ⟨by grind,by grind⟩
theorem four_in {a b c d g:Rat} (h1:(a≤g∨b≤g)∨(c≤g∨d≤g)):mn (mn (mn a b) c) d≤g:=by
 have e1:=mn_le1 a b
 have e2:=mn_le2 a b
 have e3:=mn_le1 (mn a b) c
 have e4:=mn_le2 (mn a b) c
 have e5:=mn_le1 (mn (mn a b) c) d
 have e6:=mn_le2 (mn (mn a b) c) d
 grind
theorem four_ni {a b c d g:Rat} (h1:(g≤a∨g≤b)∨(g≤c∨g≤d)):g≤mx (mx (mx a b) c) d:=by
 have e1:=mx_ge1 a b
 have e2:=mx_ge2 a b
 have e3:=mx_ge1 (mx a b) c
 have e4:=mx_ge2 (mx a b) c
 have e5:=mx_ge1 (mx (mx a b) c) d
 have e6:=mx_ge2 (mx (mx a b) c) d
 grind
theorem mul_in {p q r s x y:Rat} (h1:p≤x) (h2:x≤q) (h3:r≤y) (h4:y≤s):mlo p q r s≤x*y∧x*y≤mhi p q r s:=by
 have a:=lin h1 h2 (t:=y)
 have b:=lin h3 h4 (t:=p)
 have c:=lin h3 h4 (t:=q)
 rw [Rat.mul_comm r p,Rat.mul_comm y p,Rat.mul_comm s p] at b
 rw [Rat.mul_comm r q,Rat.mul_comm y q,Rat.mul_comm s q] at c
 unfold mlo mhi
 generalize p*r=A at *
 generalize p*s=B at *
 generalize q*r=C at *
 generalize q*s=D at *
 generalize p*y=E at *
 generalize q*y=F at *
 generalize x*y=G at *
 exact ⟨four_in (by grind),four_ni (by grind)⟩
theorem sqb_le {a b:Rat} (h0:0≤a) (h:a≤b):a*a≤b*b:=by
 have h1:=Rat.mul_le_mul_of_nonneg_right h h0
 have h2:=Rat.mul_le_mul_of_nonneg_left h (show (0:Rat)≤b by grind)
 grind
theorem sqb_neg {a b:Rat} (h0:b≤0) (h:a≤b):b*b≤a*a:=by
 have:=sqb_le (a:=-b) (b:=-a) (by grind) (by grind)
 grind
theorem sqb_nonneg (a:Rat):0≤a*a:=by
 rcases Rat.le_total (a:=0) (b:=a) with h | h
 · exact Rat.mul_nonneg h h
 · have:=sqb_neg (a:=a) (b:=0) (by grind) h
   grind
theorem sq_in {p q x:Rat} (h1:p≤x) (h2:x≤q):slo p q≤x*x∧x*x≤shi p q:=by
 have g:=sqb_nonneg x
 have e1:=mn_le1 (p*p) (q*q)
 have e2:=mn_le2 (p*p) (q*q)
 have e3:=mx_ge1 (p*p) (q*q)
 have e4:=mx_ge2 (p*p) (q*q)
 have e5:=mn_le2 (mn (p*p) (q*q)) 0
 have e6:=mx_ge1 (mx (p*p) (q*q)) 0
 have u:x*x≤p*p∨x*x≤q*q:=by
  rcases Rat.le_total (a:=0) (b:=x) with h | h
  · exact .inr (sqb_le h h2)
  · exact .inl (sqb_neg h h1)
 unfold slo shi
 by_cases h:p≤0∧0≤q
 · rw [if_pos h,if_pos h]
   generalize x*x=X at *
   generalize p*p=A at *
   generalize q*q=B at *
   exact ⟨by grind,by grind⟩
 · rw [if_neg h,if_neg h]
   have v:p*p≤x*x∨q*q≤x*x:=by
    by_cases h0:p≤0
    · exact .inr (sqb_neg (by grind) h2)
    · exact .inl (sqb_le (by grind) h1)
   generalize x*x=X at *
   generalize p*p=A at *
   generalize q*q=B at *
   exact ⟨by grind,by grind⟩
theorem one_over {s:Rat} (h:s≠0):s*(1 / s)=1:=by
 rw [Rat.div_def,Rat.one_mul,Rat.mul_inv_cancel _ h]
theorem inv_sg {s:Rat} (h:0<s):0<1 / s:=by
 have e:=one_over (s:=s) (by grind)
 rcases Rat.le_total (a:=1 / s) (b:=0) with h1 | h1
 · have:=Rat.mul_nonneg (a:=s) (b:=-(1 / s)) (by grind) (by grind)
   grind
 · by_cases h2:1 / s=0
   · rw [h2] at e;grind
   · grind
theorem inv_sn {s:Rat} (h:s<0):1 / s<0:=by
 have e:=one_over (s:=s) (by grind)
 have e2:=one_over (s:=-s) (by grind)
 have h2:=inv_sg (s:=-s) (by grind)
 have:-s*(1 / -s)=-s*(-(1 / s)):=by grind
 have h3:1 / -s=-(1 / s):=by
  have h4:(1 / s)*(-s*(1 / -s))=(1 / s)*(-s*(-(1 / s))):=by rw [this]
  have h5:(1 / s)*s=1:=by rw [Rat.mul_comm];exact e
  grind
 grind
theorem inv_mono {r s:Rat} (h:¬(r≤0∧0≤s)) (hrs:r≤s):1 / s≤1 / r:=by
 have hr:r≠0:=by grind
 have hs:s≠0:=by grind
 have e1:=one_over hr
 have e2:=one_over hs
 have k:0≤(1 / r)*(1 / s):=by
  by_cases h0:r≤0
  · have a:=inv_sn (s:=r) (by grind)
    have b:=inv_sn (s:=s) (by grind)
    have:=Rat.mul_nonneg (a:=-(1 / r)) (b:=-(1 / s)) (by grind) (by grind)
    grind
  · have a:=inv_sg (s:=r) (by grind)
    have b:=inv_sg (s:=s) (by grind)
    exact Rat.mul_nonneg (by grind) (by grind)
 have m:=Rat.mul_nonneg k (show (0:Rat)≤s-r by grind)
 have e:(1 / r)*(1 / s)*(s-r)=1 / r-1 / s:=by
  generalize 1 / r=A at *
  generalize 1 / s=B at *
  have x1:A*B*s=A:=by rw [Rat.mul_assoc,Rat.mul_comm B s,e2,Rat.mul_one]
  have x2:A*B*r=B:=by rw [Rat.mul_comm A B,Rat.mul_assoc,Rat.mul_comm A r,e1,Rat.mul_one]
  grind
 grind
theorem div_by (x y:Rat):x / y=x*(1 / y):=by rw [Rat.div_def,Rat.div_def,Rat.one_mul]
theorem mlo_size {n:Nat} {p q r s:Rat} (z1:Sz n p) (z2:Sz n q) (z3:Sz n r) (z4:Sz n s):Sz (n+n) (mlo p q r s)∧Sz (n+n) (mhi p q r s) :=
 ⟨(((z1.mul z3).mn (z1.mul z4)).mn (z2.mul z3)).mn (z2.mul z4),(((z1.mul z3).mx (z1.mul z4)).mx (z2.mul z3)).mx (z2.mul z4)⟩
theorem slo_size {n:Nat} {p q:Rat} (z1:Sz (n+1) p) (z2:Sz (n+1) q):Sz (n+1+(n+1)) (slo p q)∧Sz (n+1+(n+1)) (shi p q):=by
 have z:Sz (n+1+(n+1)) 0:=Sz.zero _
 unfold slo shi
 split
 · exact ⟨((z1.mul z1).mn (z2.mul z2)).mn z,((z1.mul z1).mx (z2.mul z2)).mx z⟩
 · exact ⟨(z1.mul z1).mn (z2.mul z2),(z1.mul z1).mx (z2.mul z2)⟩
end Go.Proofs.YtdbhahiieokplaaGreatDoor


namespace Go.Proofs.YtdbhahiieokplaaGreatDoor
open Go.RowKit
attribute [local go_sem ↓] Go.wp_at_zero Go.wp_at_succ

end Go.Proofs.YtdbhahiieokplaaGreatDoor


namespace Go.Proofs.YtdbhahiieokplaaGreatDoor
open Go.RowKit
attribute [local go_sem ↓] Go.wp_at_zero Go.wp_at_succ

theorem Sz.quo {n m:Nat} {p q:Rat} (hp:Sz n p) (hq:Sz m q) (h0:¬q.num=0):Sz (n+m) (p / q):=by
 rw [Rat.div_def]
 refine hp.mul ?_
 have h1:q⁻¹.den=q.num.natAbs:=by rw [Rat.den_inv,if_neg h0]
 have h2:=Rat.num_inv q
 unfold Sz
 rw [h1,h2,Int.natAbs_mul,Int.natAbs_natCast,Int.natAbs_sign_of_ne_zero h0,Nat.one_mul]
 exact ⟨hq.2,hq.1⟩
end Go.Proofs.YtdbhahiieokplaaGreatDoor
