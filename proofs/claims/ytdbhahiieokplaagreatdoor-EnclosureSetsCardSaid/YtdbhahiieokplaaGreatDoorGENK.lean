import Derived.Test.YtdbhahiieokplaaGreatDoorGRLF
import Derived.Test.YtdbhahiieokplaaGreatDoorGKtD
import Derived.Test.YtdbhahiieokplaaGreatDoorGQR
import Derived.Test.YtdbhahiieokplaaGreatDoorGRMR
import Derived.Test.YtdbhahiieokplaaGreatDoorGRGC
import Derived.Test.YtdbhahiieokplaaGreatDoorGQW
import Derived.Test.YtdbhahiieokplaaGreatDoorGRGB
import Derived.Test.YtdbhahiieokplaaGreatDoorGRHI
import Derived.Test.YtdbhahiieokplaaGreatDoorGENQ
set_option linter.unusedSimpArgs false
set_option linter.unusedVariables false

namespace Go.Proofs.YtdbhahiieokplaaGreatDoor
open Go.RowKit
attribute [local go_sem ↓] Go.wp_at_zero Go.wp_at_succ

theorem of_lists2 {s t:ByteArray} (h:s.toList=t.toList):s=t:=by
 cases s
 cases t
 rw [ByteArray.toList_eq,ByteArray.toList_eq] at h
 simp at h
 rw [h]

set_option maxHeartbeats 8000000 in
set_option maxRecDepth 100000 in
theorem sets_yes_e (w:World) {b1 b2 b3 b4 b5 b6 b7 b8 b9 b10 b11 b12:Bool} {m1 k1 m2 k2 m3 k3 m4 k4 m5 k5 m6 k6 m7 k7 m8 k8 m9 k9 m10 k10 m11 k11 m12 k12:ByteArray} {n1 d1 n2 d2 n3 d3 n4 d4 n5 d5:Int} {o1 o2 o3 o4:Bool} {ob:Bool} (hob:Hid ((o1 && o4)=ob)) {e1 e2 e3 e4:Bool} (hL:Hid (e1=true∨(e1=false∧e2=true))) (hH:Hid (e3=true∨(e3=false∧e4=true))) (HE:Hid ((∀ V,Sem.run Tryz.prog (binOp .eql 25 (.agg #[.bool b6,.string m6,.bool false,.string k6]) (.agg #[.bool b1,.string m1,.bool false,.string k1])) V=.ok (.bool e1) V)∧(∀ V,Sem.run Tryz.prog (binOp .eql 25 (.agg #[.bool b6,.string m6,.bool false,.string k6]) (.agg #[.bool b3,.string m3,.bool false,.string k3])) V=.ok (.bool e2) V)∧(∀ V,Sem.run Tryz.prog (binOp .eql 25 (.agg #[.bool b7,.string m7,.bool false,.string k7]) (.agg #[.bool b2,.string m2,.bool false,.string k2])) V=.ok (.bool e3) V)∧(∀ V,Sem.run Tryz.prog (binOp .eql 25 (.agg #[.bool b7,.string m7,.bool false,.string k7]) (.agg #[.bool b4,.string m4,.bool false,.string k4])) V=.ok (.bool e4) V))) (HK:∀ V,Below w.heap.size w V→Calls Tryz.prog 18 #[] V (RetB V (.bool true))) (HA:∀ V,Below w.heap.size w V→Calls Tryz.prog 26 #[.agg #[.int .i32 n1,.int .u16 d1,.int .i32 n2,.int .u16 d2]] V (RetB V (.agg #[.bool b1,.string m1,.bool false,.string k1,.bool b2,.string m2,.bool false,.string k2]))) (HB:∀ V,Below w.heap.size w V→Calls Tryz.prog 26 #[.agg #[.int .i32 n3,.int .u16 d3,.int .i32 n4,.int .u16 d4]] V (RetB V (.agg #[.bool b3,.string m3,.bool false,.string k3,.bool b4,.string m4,.bool false,.string k4]))) (HR:∀ V,Below w.heap.size w V→Calls Tryz.prog 17 #[.agg #[.int .i32 n5,.int .u16 d5]] V (RetB V (.agg #[.bool b5,.string m5,.bool false,.string k5]))) (HU:∀ V,Below w.heap.size w V→Calls Tryz.prog 54 #[.agg #[.bool b1,.string m1,.bool false,.string k1,.bool b2,.string m2,.bool false,.string k2],.agg #[.bool b3,.string m3,.bool false,.string k3,.bool b4,.string m4,.bool false,.string k4]] V (RetB V (.agg #[.bool b6,.string m6,.bool false,.string k6,.bool b7,.string m7,.bool false,.string k7]))) (L1:∀ V,Below w.heap.size w V→Calls Tryz.prog 29 #[.agg #[.bool b1,.string m1,.bool false,.string k1,.bool b2,.string m2,.bool false,.string k2]] V (RetB V (.agg #[.bool b1,.string m1,.bool false,.string k1,.bool b2,.string m2,.bool false,.string k2]))) (L2:∀ V,Below w.heap.size w V→Calls Tryz.prog 29 #[.agg #[.bool b3,.string m3,.bool false,.string k3,.bool b4,.string m4,.bool false,.string k4]] V (RetB V (.agg #[.bool b3,.string m3,.bool false,.string k3,.bool b4,.string m4,.bool false,.string k4]))) (G1:∀ V,Below w.heap.size w V→Calls Tryz.prog 39 #[.agg #[.bool b1,.string m1,.bool false,.string k1,.bool b2,.string m2,.bool false,.string k2],.agg #[.bool b5,.string m5,.bool false,.string k5]] V (RetB V (.bool o1))) (G2:∀ V,Below w.heap.size w V→Calls Tryz.prog 42 #[.agg #[.bool b1,.string m1,.bool false,.string k1,.bool b2,.string m2,.bool false,.string k2],.agg #[.bool b5,.string m5,.bool false,.string k5]] V (RetB V (.bool o1))) (G3:∀ V,Below w.heap.size w V→Calls Tryz.prog 56 #[.agg #[.bool b1,.string m1,.bool false,.string k1,.bool b2,.string m2,.bool false,.string k2],.agg #[.bool b3,.string m3,.bool false,.string k3,.bool b4,.string m4,.bool false,.string k4]] V (RetB V (.bool (o2 && o3)))) (G4:∀ V,Below w.heap.size w V→Calls Tryz.prog 39 #[.agg #[.bool b3,.string m3,.bool false,.string k3,.bool b4,.string m4,.bool false,.string k4],.agg #[.bool b1,.string m1,.bool false,.string k1]] V (RetB V (.bool o2))) (G5:∀ V,Below w.heap.size w V→Calls Tryz.prog 39 #[.agg #[.bool b3,.string m3,.bool false,.string k3,.bool b4,.string m4,.bool false,.string k4],.agg #[.bool b2,.string m2,.bool false,.string k2]] V (RetB V (.bool o3))) (HW:∀ V,Below w.heap.size w V→Calls Tryz.prog 52 #[.agg #[.bool b1,.string m1,.bool false,.string k1,.bool b2,.string m2,.bool false,.string k2]] V (RetB V (.agg #[.bool b10,.string m10,.bool false,.string k10]))) (S1:∀ V,Below w.heap.size w V→Calls Tryz.prog 44 #[.agg #[.bool b2,.string m2,.bool false,.string k2],.agg #[.bool b1,.string m1,.bool false,.string k1]] V (RetB V (.agg #[.bool b10,.string m10,.bool false,.string k10]))) (HM:∀ V,Below w.heap.size w V→Calls Tryz.prog 57 #[.agg #[.bool b1,.string m1,.bool false,.string k1,.bool b2,.string m2,.bool false,.string k2]] V (RetB V (.agg #[.bool b11,.string m11,.bool false,.string k11]))) (A1:∀ V,Below w.heap.size w V→Calls Tryz.prog 43 #[.agg #[.bool b1,.string m1,.bool false,.string k1],.agg #[.bool b2,.string m2,.bool false,.string k2]] V (RetB V (.agg #[.bool b12,.string m12,.bool false,.string k12]))) (O1:∀ V,Below w.heap.size w V→Calls Tryz.prog 53 #[.int .i64 (2),.int .i64 (1)] V (RetB V (.agg #[.bool false,.string ⟨#[2]⟩,.bool false,.string ⟨#[]⟩]))) (D1:∀ V,Below w.heap.size w V→Calls Tryz.prog 47 #[.agg #[.bool b12,.string m12,.bool false,.string k12],.agg #[.bool false,.string ⟨#[2]⟩,.bool false,.string ⟨#[]⟩]] V (RetB V (.agg #[.bool b11,.string m11,.bool false,.string k11]))) (G6:∀ V,Below w.heap.size w V→Calls Tryz.prog 39 #[.agg #[.bool b3,.string m3,.bool false,.string k3,.bool b4,.string m4,.bool false,.string k4],.agg #[.bool b5,.string m5,.bool false,.string k5]] V (RetB V (.bool o4))) (HI:∀ V,Below w.heap.size w V→Calls Tryz.prog 55 #[.agg #[.bool b1,.string m1,.bool false,.string k1,.bool b2,.string m2,.bool false,.string k2],.agg #[.bool b3,.string m3,.bool false,.string k3,.bool b4,.string m4,.bool false,.string k4]] V (RetB V (.tuple #[.agg #[.bool b8,.string m8,.bool false,.string k8,.bool b9,.string m9,.bool false,.string k9],.bool true]))) (T1:∀ V,Below w.heap.size w V→Calls Tryz.prog 56 #[.agg #[.bool b8,.string m8,.bool false,.string k8,.bool b9,.string m9,.bool false,.string k9],.agg #[.bool b1,.string m1,.bool false,.string k1,.bool b2,.string m2,.bool false,.string k2]] V (RetB V (.bool true))) (T2:∀ V,Below w.heap.size w V→Calls Tryz.prog 56 #[.agg #[.bool b8,.string m8,.bool false,.string k8,.bool b9,.string m9,.bool false,.string k9],.agg #[.bool b3,.string m3,.bool false,.string k3,.bool b4,.string m4,.bool false,.string k4]] V (RetB V (.bool true))) (L3:∀ V,Below w.heap.size w V→Calls Tryz.prog 29 #[.agg #[.bool b8,.string m8,.bool false,.string k8,.bool b9,.string m9,.bool false,.string k9]] V (RetB V (.agg #[.bool b8,.string m8,.bool false,.string k8,.bool b9,.string m9,.bool false,.string k9]))) (G7:∀ V,Below w.heap.size w V→Calls Tryz.prog 39 #[.agg #[.bool b8,.string m8,.bool false,.string k8,.bool b9,.string m9,.bool false,.string k9],.agg #[.bool b5,.string m5,.bool false,.string k5]] V (RetB V (.bool ob))) (T3:∀ V,Below w.heap.size w V→Calls Tryz.prog 56 #[.agg #[.bool b1,.string m1,.bool false,.string k1,.bool b2,.string m2,.bool false,.string k2],.agg #[.bool b6,.string m6,.bool false,.string k6,.bool b7,.string m7,.bool false,.string k7]] V (RetB V (.bool true))) (T4:∀ V,Below w.heap.size w V→Calls Tryz.prog 56 #[.agg #[.bool b3,.string m3,.bool false,.string k3,.bool b4,.string m4,.bool false,.string k4],.agg #[.bool b6,.string m6,.bool false,.string k6,.bool b7,.string m7,.bool false,.string k7]] V (RetB V (.bool true))) :
  Calls Tryz.prog 9 #[.agg #[.int .i32 n1,.int .u16 d1,.int .i32 n2,.int .u16 d2],.agg #[.int .i32 n3,.int .u16 d3,.int .i32 n4,.int .u16 d4],.agg #[.int .i32 n5,.int .u16 d5]] w (RetB w (.bool true)):=by
 have C1:=Lib.hid HK
 have C2:=Lib.hid HA
 have C3:=Lib.hid HB
 have C4:=Lib.hid HR
 have C5:=Lib.hid HU
 have C6:=Lib.hid L1
 have C7:=Lib.hid L2
 have C8:=Lib.hid G1
 have C9:=Lib.hid G2
 have C10:=Lib.hid G3
 have C11:=Lib.hid G4
 have C12:=Lib.hid G5
 have C13:=Lib.hid HW
 have C14:=Lib.hid S1
 have C15:=Lib.hid HM
 have C16:=Lib.hid A1
 have C17:=Lib.hid O1
 have C18:=Lib.hid D1
 have C19:=Lib.hid G6
 have C20:=Lib.hid HI
 have C21:=Lib.hid T1
 have C22:=Lib.hid T2
 have C23:=Lib.hid L3
 have C24:=Lib.hid G7
 have C25:=Lib.hid T3
 have C26:=Lib.hid T4
 have U1:Hid (∀ {p:Prop} (h:p:=by ((fail_if_success (go_not_at_region 5));(fail_if_success (have:=hLL));obtain ⟨LL,hLL⟩:=lexi X.out;go_cut [82] (fun sc wx=>sc=.bool false∧Sb w LL [] wx);(case first=>(as_aux_lemma=>(cases o2;all_goals exact wk)));(obtain ⟨rfl,hX⟩:=hcut;subst hLL;(try simp only [List.cons_append,List.nil_append] at hX);replace X:=Lib.hid hX;clear hX;replace F:=X.out.facts;simp only [Facts,cellsAt,List.take_succ_cons,List.take_zero,Nat.reduceAdd,and_true,List.set_cons_succ,List.set_cons_zero,List.cons_append,List.nil_append] at F;(as_aux_lemma=>exact wk)))),p):=@fun _ h=>h
 have U2:Hid (∀ {p:Prop} (h:p:=by ((fail_if_success (go_not_at_region 7));(fail_if_success (have:=hLL));obtain ⟨LL,hLL⟩:=lexi X.out;go_cut [14] (fun sc wx=>sc=.bool ob∧Sb w LL [] wx);(case first=>(as_aux_lemma=>(cases o1;all_goals exact wk)));(obtain ⟨rfl,hX⟩:=hcut;subst hLL;(try simp only [List.cons_append,List.nil_append] at hX);replace X:=Lib.hid hX;clear hX;replace F:=X.out.facts;simp only [Facts,cellsAt,List.take_succ_cons,List.take_zero,Nat.reduceAdd,and_true,List.set_cons_succ,List.set_cons_zero,List.cons_append,List.nil_append] at F;(as_aux_lemma=>exact wk)))),p):=@fun _ h=>h
 have M1:Hid (∀ {p:Prop} (h:p:=by first | exact ⟨rfl,X.out⟩ | exact ⟨by (have h9:=hob.out;simpa using h9),X.out⟩),p):=@fun _ h=>h
 have U3:Hid (∀ {p:Prop} (h:p:=by ((fail_if_success (go_not_at_region 10));(obtain ⟨E1,E2,E3,E4⟩:=HE.out);clear HE;(have hz:=hL.out);clear hL;(have hy:=hH.out);clear hH;(rcases hz with rfl | ⟨rfl,rfl⟩);all_goals (rcases hy with rfl | ⟨rfl,rfl⟩);all_goals exact wk)),p):=@fun _ h=>h
 clear HK HA HB HR HU L1 L2 G1 G2 G3 G4 G5 HW S1 HM A1 O1 D1 G6 HI T1 T2 L3 G7 T3 T4 
 go_enter Tryz.func9,Tryz.ntmps9
 go_upto_region 1 with fail
 refine gs3 (M:=fun W=>Code.wp _ _ _ _ W) (fun V X0=>?_)
 have X:=Lib.hid X0
 clear X0
 have F:=X.out.facts
 simp only [Facts,cellsAt,List.take_succ_cons,List.take_zero,Nat.reduceAdd,and_true,List.set_cons_succ,List.set_cons_zero,List.cons_append,List.nil_append] at F
 clear F
 go_cut [7,8,9] (fun s7 s8 s9 wx=>∃ gA gB gC,s7=.pointer (some ⟨gA,0,none⟩)∧s8=.pointer (some ⟨gB,0,none⟩)∧s9=.pointer (some ⟨gC,0,none⟩)∧Sb w [(gA,#[.bool b1,.string m1,.bool false,.string k1,.bool b2,.string m2,.bool false,.string k2],34),(gB,#[.bool b3,.string m3,.bool false,.string k3,.bool b4,.string m4,.bool false,.string k4],34),(gC,#[.bool b5,.string m5,.bool false,.string k5],25)] [] wx)
 case first =>
  refine wp_region_any (by kernel_rfl) ?_
  have X:=Lib.hid X.out.drew
  obtain ⟨W0,hV⟩:=wexi X.out
  rw [show ∀ v:World,{ v with drawn:=v.drawn+1 }=v.drew from fun _=>rfl,←hV]
  rw [←hV] at X
  clear hV
  refine rg_run (ef:=[.val (.agg #[.int .i32 n1,.int .u16 d1,.int .i32 n2,.int .u16 d2]),.val (.agg #[.bool b1,.string m1,.bool false,.string k1,.bool b2,.string m2,.bool false,.string k2]),.val (.agg #[.int .i32 n3,.int .u16 d3,.int .i32 n4,.int .u16 d4]),.val (.agg #[.bool b3,.string m3,.bool false,.string k3,.bool b4,.string m4,.bool false,.string k4]),.val (.agg #[.int .i32 n5,.int .u16 d5]),.val (.agg #[.bool b5,.string m5,.bool false,.string k5]),.new #[.bool false,.string ⟨#[]⟩,.bool false,.string ⟨#[]⟩,.bool false,.string ⟨#[]⟩,.bool false,.string ⟨#[]⟩] 34,.new #[.bool false,.string ⟨#[]⟩,.bool false,.string ⟨#[]⟩,.bool false,.string ⟨#[]⟩,.bool false,.string ⟨#[]⟩] 34,.new #[.bool false,.string ⟨#[]⟩,.bool false,.string ⟨#[]⟩] 25]) (ds:=[15,16,17,18,19,20,7,8,9]) (by kernel_rfl) (stays_none (by simp)) (by decide) rfl (by intro d hd;simp at hd ⊢;omega) (fun i d o hd ho listed a w1 hR hdep K hK=>?_) 3 (fun a w1 hR=>?_)
  · have X:=Lib.hid (X.out.next hR.bel)
    have HKt:=Lib.hid hK
    have HDp:=Lib.hid hdep
    have sl3:a.tmps.getD 3 undef=.pointer (some ⟨w.heap.size,0,none⟩):=hR.keep 3 (by decide)
    have sl4:a.tmps.getD 4 undef=.pointer (some ⟨w.heap.size+1,0,none⟩):=hR.keep 4 (by decide)
    have sl5:a.tmps.getD 5 undef=.pointer (some ⟨w.heap.size+1+1,0,none⟩):=hR.keep 5 (by decide)
    have HRg:=Lib.hid hR
    clear hK hdep hR
    rcases i with _ | _ | _ | _ | _ | _ | _ | _ | _ | i
    · cases hd
      cases ho
      obtain ⟨x00,x01,x02,x03⟩:=X.out.c4 (i:=0) rfl
      obtain ⟨x10,x11,x12,x13⟩:=X.out.c4 (i:=1) rfl
      obtain ⟨x20,x21⟩:=X.out.c2 (i:=2) rfl
      go_simp
      exact HKt.out _ _ (Or.inl ⟨rfl,Below.refl _ _⟩)
    · cases hd
      cases ho
      have dd0:a.tmps.getD 15 undef=.agg #[.int .i32 n1,.int .u16 d1,.int .i32 n2,.int .u16 d2]:=HRg.out.val 0 _ (HDp.out 0 (by decide)) rfl
      go_simp
      (go_at_call 26;refine (C2.out _ X.out.bel).mono ?_;rintro e u ⟨rfl,hb9⟩)
      try go_wp2_with fail
      exact HKt.out _ _ (Or.inl ⟨rfl,hb9⟩)
    · cases hd
      cases ho
      obtain ⟨x00,x01,x02,x03⟩:=X.out.c4 (i:=0) rfl
      obtain ⟨x10,x11,x12,x13⟩:=X.out.c4 (i:=1) rfl
      obtain ⟨x20,x21⟩:=X.out.c2 (i:=2) rfl
      go_simp
      exact HKt.out _ _ (Or.inl ⟨rfl,Below.refl _ _⟩)
    · cases hd
      cases ho
      have dd1:a.tmps.getD 16 undef=.agg #[.bool b1,.string m1,.bool false,.string k1,.bool b2,.string m2,.bool false,.string k2]:=HRg.out.val 1 _ (HDp.out 1 (by decide)) rfl
      have dd2:a.tmps.getD 17 undef=.agg #[.int .i32 n3,.int .u16 d3,.int .i32 n4,.int .u16 d4]:=HRg.out.val 2 _ (HDp.out 2 (by decide)) rfl
      go_simp
      (go_at_call 26;refine (C3.out _ X.out.bel).mono ?_;rintro e u ⟨rfl,hb9⟩)
      try go_wp2_with fail
      exact HKt.out _ _ (Or.inl ⟨rfl,hb9⟩)
    · cases hd
      cases ho
      obtain ⟨x00,x01,x02,x03⟩:=X.out.c4 (i:=0) rfl
      obtain ⟨x10,x11,x12,x13⟩:=X.out.c4 (i:=1) rfl
      obtain ⟨x20,x21⟩:=X.out.c2 (i:=2) rfl
      go_simp
      exact HKt.out _ _ (Or.inl ⟨rfl,Below.refl _ _⟩)
    · cases hd
      cases ho
      have dd3:a.tmps.getD 18 undef=.agg #[.bool b3,.string m3,.bool false,.string k3,.bool b4,.string m4,.bool false,.string k4]:=HRg.out.val 3 _ (HDp.out 3 (by decide)) rfl
      have dd4:a.tmps.getD 19 undef=.agg #[.int .i32 n5,.int .u16 d5]:=HRg.out.val 4 _ (HDp.out 4 (by decide)) rfl
      go_simp
      (go_at_call 17;refine (C4.out _ X.out.bel).mono ?_;rintro e u ⟨rfl,hb9⟩)
      try go_wp2_with fail
      exact HKt.out _ _ (Or.inl ⟨rfl,hb9⟩)
    · cases hd
      cases ho
      go_simp
      exact HKt.out _ _ (Or.inr (Or.inl ⟨_,_,rfl,rfl,rfl⟩))
    · cases hd
      cases ho
      go_simp
      exact HKt.out _ _ (Or.inr (Or.inl ⟨_,_,rfl,rfl,rfl⟩))
    · cases hd
      cases ho
      go_simp
      exact HKt.out _ _ (Or.inr (Or.inl ⟨_,_,rfl,rfl,rfl⟩))
    · cases hd
  obtain ⟨g6,hg6,lg6,kg6⟩:=hR.new 6 _ _ (by rfl) rfl
  obtain ⟨g7,hg7,lg7,kg7⟩:=hR.new 7 _ _ (by rfl) rfl
  obtain ⟨g8,hg8,lg8,kg8⟩:=hR.new 8 _ _ (by rfl) rfl
  have vv0:a.tmps.getD 15 undef=.agg #[.int .i32 n1,.int .u16 d1,.int .i32 n2,.int .u16 d2]:=hR.val 0 _ (by rfl) rfl
  have vv1:a.tmps.getD 16 undef=.agg #[.bool b1,.string m1,.bool false,.string k1,.bool b2,.string m2,.bool false,.string k2]:=hR.val 1 _ (by rfl) rfl
  have vv2:a.tmps.getD 17 undef=.agg #[.int .i32 n3,.int .u16 d3,.int .i32 n4,.int .u16 d4]:=hR.val 2 _ (by rfl) rfl
  have vv3:a.tmps.getD 18 undef=.agg #[.bool b3,.string m3,.bool false,.string k3,.bool b4,.string m4,.bool false,.string k4]:=hR.val 3 _ (by rfl) rfl
  have vv4:a.tmps.getD 19 undef=.agg #[.int .i32 n5,.int .u16 d5]:=hR.val 4 _ (by rfl) rfl
  have vv5:a.tmps.getD 20 undef=.agg #[.bool b5,.string m5,.bool false,.string k5]:=hR.val 5 _ (by rfl) rfl
  replace hg6:a.tmps.getD 7 undef=.pointer (some ⟨g6,0,none⟩):=hg6
  replace hg7:a.tmps.getD 8 undef=.pointer (some ⟨g7,0,none⟩):=hg7
  replace hg8:a.tmps.getD 9 undef=.pointer (some ⟨g8,0,none⟩):=hg8
  have hne67:g6≠g7:=fun e=>hR.ne 6 7 _ _ _ _ g6 (by decide) (by rfl) (by rfl) rfl rfl hg6 (by rw [e];exact hg7)
  have hne68:g6≠g8:=fun e=>hR.ne 6 8 _ _ _ _ g6 (by decide) (by rfl) (by rfl) rfl rfl hg6 (by rw [e];exact hg8)
  have hne78:g7≠g8:=fun e=>hR.ne 7 8 _ _ _ _ g7 (by decide) (by rfl) (by rfl) rfl rfl hg7 (by rw [e];exact hg8)
  have X:=Lib.hid (X.out.add3 hR.bel lg6 kg6 lg7 kg7 lg8 kg8 hne67 hne68 hne78)
  have ha:=hR.act
  simp only [List.foldl_cons,List.foldl_nil,seti,set0,setS,vv0,vv1,vv2,vv3,vv4,vv5,hg6,hg7,hg8] at ha
  subst ha
  clear hR vv0 vv1 vv2 vv3 vv4 vv5 hg6 lg6 kg6 hg7 lg7 kg7 hg8 lg8 kg8
  refine wpAny_of_late (S:=fun _=>True) (L:=[]) _ _ _ _ ?_
  refine wpLate_one (i:=9) (o:=⟨none,_,_,_,_,_⟩) (by kernel_rfl) rfl (fun K hK=>?_)
  obtain ⟨x0,x1,x2,x3,x4,x5,x6,x7⟩:=X.out.c8 (i:=3) rfl
  obtain ⟨y0,y1,y2,y3,y4,y5,y6,y7⟩:=X.out.f8 (i:=3) rfl
  have X:=Lib.hid (X.out.set8 (i:=3) rfl (.bool b1) (.string m1) (.bool false) (.string k1) (.bool b2) (.string m2) (.bool false) (.string k2))
  go_simp
  refine hK.out _ _ (Or.inr fun _=>trivial) ?_
  clear hK K x0 x1 x2 x3 x4 x5 x6 x7 y0 y1 y2 y3 y4 y5 y6 y7
  obtain ⟨W9,hV⟩:=wexi X.out
  rw [←hV] at X ⊢
  clear hV
  try simp only [Act.put]
  refine wpLate_one (i:=10) (o:=⟨none,_,_,_,_,_⟩) (by kernel_rfl) rfl (fun K hK=>?_)
  obtain ⟨x0,x1,x2,x3,x4,x5,x6,x7⟩:=X.out.c8 (i:=4) rfl
  obtain ⟨y0,y1,y2,y3,y4,y5,y6,y7⟩:=X.out.f8 (i:=4) rfl
  have X:=Lib.hid (X.out.set8 (i:=4) rfl (.bool b3) (.string m3) (.bool false) (.string k3) (.bool b4) (.string m4) (.bool false) (.string k4))
  go_simp
  refine hK.out _ _ (Or.inr fun _=>trivial) ?_
  clear hK K x0 x1 x2 x3 x4 x5 x6 x7 y0 y1 y2 y3 y4 y5 y6 y7
  obtain ⟨W10,hV⟩:=wexi X.out
  rw [←hV] at X ⊢
  clear hV
  try simp only [Act.put]
  refine wpLate_one (i:=11) (o:=⟨none,_,_,_,_,_⟩) (by kernel_rfl) rfl (fun K hK=>?_)
  obtain ⟨x0,x1,x2,x3⟩:=X.out.c4 (i:=5) rfl
  obtain ⟨y0,y1,y2,y3⟩:=X.out.f4 (i:=5) rfl
  have X:=Lib.hid (X.out.set4 (i:=5) rfl (.bool b5) (.string m5) (.bool false) (.string k5))
  go_simp
  refine hK.out _ _ (Or.inr fun _=>trivial) ?_
  clear hK K x0 x1 x2 x3 y0 y1 y2 y3
  obtain ⟨W11,hV⟩:=wexi X.out
  rw [←hV] at X ⊢
  clear hV
  try simp only [Act.put]
  refine wpLate_done (by kernel_rfl) ?_ _
  go_wp2_with fail
  go_meet
  exact ⟨_,_,_,rfl,rfl,rfl,X.out.pick [3,4,5] _ [] rfl (by decide) (by simp)⟩
 clear X
 obtain ⟨gA,gB,gC,rfl,rfl,rfl,hX⟩:=hcut
 have X:=Lib.hid hX
 clear hX
 have F:=X.out.facts
 simp only [Facts,cellsAt,List.take_succ_cons,List.take_zero,Nat.reduceAdd,and_true,List.set_cons_succ,List.set_cons_zero,List.cons_append,List.nil_append] at F
 exact wk
theorem eq_rat (a b:Bool) (m n k l:ByteArray) (V:World):Sem.run Tryz.prog (binOp .eql 25 (.agg #[.bool a,.string m,.bool false,.string k]) (.agg #[.bool b,.string n,.bool false,.string l])) V=.ok (.bool (decide (a=b∧m=n∧k=l))) V:=by
 have q:∀ {s t:ByteArray},s.toList=t.toList→s=t:=fun e=>of_lists2 e
 by_cases e1:a=b
 · by_cases e2:m=n
   · by_cases e3:k=l
     · subst e1 e2 e3
       rw [decide_eq_true (by simp)]
       go_simp
     · have h3:¬k.toList=l.toList:=fun e=>e3 (q e)
       rw [decide_eq_false (fun h=>e3 h.2.2)]
       subst e1 e2
       go_simp
   · have h2:¬m.toList=n.toList:=fun e=>e2 (q e)
     rw [decide_eq_false (fun h=>e2 h.2.1)]
     subst e1
     go_simp
 · rw [decide_eq_false (fun h=>e1 h.1)]
   go_simp
theorem two_ways {b6 b1 b3:Bool} {m6 m1 m3 k6 k1 k3:ByteArray} (h:(b6=b1∧m6=m1∧k6=k1)∨((b6=b3∧m6=m3∧k6=k3)∧(b3≠b1∨m3≠m1∨k3≠k1))):decide (b6=b1∧m6=m1∧k6=k1)=true∨(decide (b6=b1∧m6=m1∧k6=k1)=false∧decide (b6=b3∧m6=m3∧k6=k3)=true):=by
 rcases h with h | ⟨⟨rfl,rfl,rfl⟩,h⟩
 · exact .inl (decide_eq_true h)
 · refine .inr ⟨decide_eq_false fun h2=>?_,decide_eq_true ⟨rfl,rfl,rfl⟩⟩
   rcases h with h | h | h
   · exact h h2.1
   · exact h h2.2.1
   · exact h h2.2.2
theorem sets_yes (w:World) {b1 b2 b3 b4 b5 b6 b7 b8 b9 b10 b11 b12:Bool} {m1 k1 m2 k2 m3 k3 m4 k4 m5 k5 m6 k6 m7 k7 m8 k8 m9 k9 m10 k10 m11 k11 m12 k12:ByteArray} {n1 d1 n2 d2 n3 d3 n4 d4 n5 d5:Int} {o1 o2 o3 o4:Bool} {ob:Bool} (hob:Hid ((o1 && o4)=ob)) (hL:Hid ((b6=b1∧m6=m1∧k6=k1)∨((b6=b3∧m6=m3∧k6=k3)∧(b3≠b1∨m3≠m1∨k3≠k1)))) (hH:Hid ((b7=b2∧m7=m2∧k7=k2)∨((b7=b4∧m7=m4∧k7=k4)∧(b4≠b2∨m4≠m2∨k4≠k2)))) (HK:∀ V,Below w.heap.size w V→Calls Tryz.prog 18 #[] V (RetB V (.bool true))) (HA:∀ V,Below w.heap.size w V→Calls Tryz.prog 26 #[.agg #[.int .i32 n1,.int .u16 d1,.int .i32 n2,.int .u16 d2]] V (RetB V (.agg #[.bool b1,.string m1,.bool false,.string k1,.bool b2,.string m2,.bool false,.string k2]))) (HB:∀ V,Below w.heap.size w V→Calls Tryz.prog 26 #[.agg #[.int .i32 n3,.int .u16 d3,.int .i32 n4,.int .u16 d4]] V (RetB V (.agg #[.bool b3,.string m3,.bool false,.string k3,.bool b4,.string m4,.bool false,.string k4]))) (HR:∀ V,Below w.heap.size w V→Calls Tryz.prog 17 #[.agg #[.int .i32 n5,.int .u16 d5]] V (RetB V (.agg #[.bool b5,.string m5,.bool false,.string k5]))) (HU:∀ V,Below w.heap.size w V→Calls Tryz.prog 54 #[.agg #[.bool b1,.string m1,.bool false,.string k1,.bool b2,.string m2,.bool false,.string k2],.agg #[.bool b3,.string m3,.bool false,.string k3,.bool b4,.string m4,.bool false,.string k4]] V (RetB V (.agg #[.bool b6,.string m6,.bool false,.string k6,.bool b7,.string m7,.bool false,.string k7]))) (L1:∀ V,Below w.heap.size w V→Calls Tryz.prog 29 #[.agg #[.bool b1,.string m1,.bool false,.string k1,.bool b2,.string m2,.bool false,.string k2]] V (RetB V (.agg #[.bool b1,.string m1,.bool false,.string k1,.bool b2,.string m2,.bool false,.string k2]))) (L2:∀ V,Below w.heap.size w V→Calls Tryz.prog 29 #[.agg #[.bool b3,.string m3,.bool false,.string k3,.bool b4,.string m4,.bool false,.string k4]] V (RetB V (.agg #[.bool b3,.string m3,.bool false,.string k3,.bool b4,.string m4,.bool false,.string k4]))) (G1:∀ V,Below w.heap.size w V→Calls Tryz.prog 39 #[.agg #[.bool b1,.string m1,.bool false,.string k1,.bool b2,.string m2,.bool false,.string k2],.agg #[.bool b5,.string m5,.bool false,.string k5]] V (RetB V (.bool o1))) (G2:∀ V,Below w.heap.size w V→Calls Tryz.prog 42 #[.agg #[.bool b1,.string m1,.bool false,.string k1,.bool b2,.string m2,.bool false,.string k2],.agg #[.bool b5,.string m5,.bool false,.string k5]] V (RetB V (.bool o1))) (G3:∀ V,Below w.heap.size w V→Calls Tryz.prog 56 #[.agg #[.bool b1,.string m1,.bool false,.string k1,.bool b2,.string m2,.bool false,.string k2],.agg #[.bool b3,.string m3,.bool false,.string k3,.bool b4,.string m4,.bool false,.string k4]] V (RetB V (.bool (o2 && o3)))) (G4:∀ V,Below w.heap.size w V→Calls Tryz.prog 39 #[.agg #[.bool b3,.string m3,.bool false,.string k3,.bool b4,.string m4,.bool false,.string k4],.agg #[.bool b1,.string m1,.bool false,.string k1]] V (RetB V (.bool o2))) (G5:∀ V,Below w.heap.size w V→Calls Tryz.prog 39 #[.agg #[.bool b3,.string m3,.bool false,.string k3,.bool b4,.string m4,.bool false,.string k4],.agg #[.bool b2,.string m2,.bool false,.string k2]] V (RetB V (.bool o3))) (HW:∀ V,Below w.heap.size w V→Calls Tryz.prog 52 #[.agg #[.bool b1,.string m1,.bool false,.string k1,.bool b2,.string m2,.bool false,.string k2]] V (RetB V (.agg #[.bool b10,.string m10,.bool false,.string k10]))) (S1:∀ V,Below w.heap.size w V→Calls Tryz.prog 44 #[.agg #[.bool b2,.string m2,.bool false,.string k2],.agg #[.bool b1,.string m1,.bool false,.string k1]] V (RetB V (.agg #[.bool b10,.string m10,.bool false,.string k10]))) (HM:∀ V,Below w.heap.size w V→Calls Tryz.prog 57 #[.agg #[.bool b1,.string m1,.bool false,.string k1,.bool b2,.string m2,.bool false,.string k2]] V (RetB V (.agg #[.bool b11,.string m11,.bool false,.string k11]))) (A1:∀ V,Below w.heap.size w V→Calls Tryz.prog 43 #[.agg #[.bool b1,.string m1,.bool false,.string k1],.agg #[.bool b2,.string m2,.bool false,.string k2]] V (RetB V (.agg #[.bool b12,.string m12,.bool false,.string k12]))) (O1:∀ V,Below w.heap.size w V→Calls Tryz.prog 53 #[.int .i64 (2),.int .i64 (1)] V (RetB V (.agg #[.bool false,.string ⟨#[2]⟩,.bool false,.string ⟨#[]⟩]))) (D1:∀ V,Below w.heap.size w V→Calls Tryz.prog 47 #[.agg #[.bool b12,.string m12,.bool false,.string k12],.agg #[.bool false,.string ⟨#[2]⟩,.bool false,.string ⟨#[]⟩]] V (RetB V (.agg #[.bool b11,.string m11,.bool false,.string k11]))) (G6:∀ V,Below w.heap.size w V→Calls Tryz.prog 39 #[.agg #[.bool b3,.string m3,.bool false,.string k3,.bool b4,.string m4,.bool false,.string k4],.agg #[.bool b5,.string m5,.bool false,.string k5]] V (RetB V (.bool o4))) (HI:∀ V,Below w.heap.size w V→Calls Tryz.prog 55 #[.agg #[.bool b1,.string m1,.bool false,.string k1,.bool b2,.string m2,.bool false,.string k2],.agg #[.bool b3,.string m3,.bool false,.string k3,.bool b4,.string m4,.bool false,.string k4]] V (RetB V (.tuple #[.agg #[.bool b8,.string m8,.bool false,.string k8,.bool b9,.string m9,.bool false,.string k9],.bool true]))) (T1:∀ V,Below w.heap.size w V→Calls Tryz.prog 56 #[.agg #[.bool b8,.string m8,.bool false,.string k8,.bool b9,.string m9,.bool false,.string k9],.agg #[.bool b1,.string m1,.bool false,.string k1,.bool b2,.string m2,.bool false,.string k2]] V (RetB V (.bool true))) (T2:∀ V,Below w.heap.size w V→Calls Tryz.prog 56 #[.agg #[.bool b8,.string m8,.bool false,.string k8,.bool b9,.string m9,.bool false,.string k9],.agg #[.bool b3,.string m3,.bool false,.string k3,.bool b4,.string m4,.bool false,.string k4]] V (RetB V (.bool true))) (L3:∀ V,Below w.heap.size w V→Calls Tryz.prog 29 #[.agg #[.bool b8,.string m8,.bool false,.string k8,.bool b9,.string m9,.bool false,.string k9]] V (RetB V (.agg #[.bool b8,.string m8,.bool false,.string k8,.bool b9,.string m9,.bool false,.string k9]))) (G7:∀ V,Below w.heap.size w V→Calls Tryz.prog 39 #[.agg #[.bool b8,.string m8,.bool false,.string k8,.bool b9,.string m9,.bool false,.string k9],.agg #[.bool b5,.string m5,.bool false,.string k5]] V (RetB V (.bool ob))) (T3:∀ V,Below w.heap.size w V→Calls Tryz.prog 56 #[.agg #[.bool b1,.string m1,.bool false,.string k1,.bool b2,.string m2,.bool false,.string k2],.agg #[.bool b6,.string m6,.bool false,.string k6,.bool b7,.string m7,.bool false,.string k7]] V (RetB V (.bool true))) (T4:∀ V,Below w.heap.size w V→Calls Tryz.prog 56 #[.agg #[.bool b3,.string m3,.bool false,.string k3,.bool b4,.string m4,.bool false,.string k4],.agg #[.bool b6,.string m6,.bool false,.string k6,.bool b7,.string m7,.bool false,.string k7]] V (RetB V (.bool true))) :
  Calls Tryz.prog 9 #[.agg #[.int .i32 n1,.int .u16 d1,.int .i32 n2,.int .u16 d2],.agg #[.int .i32 n3,.int .u16 d3,.int .i32 n4,.int .u16 d4],.agg #[.int .i32 n5,.int .u16 d5]] w (RetB w (.bool true)) :=
 sets_yes_e w hob (Lib.hid (two_ways hL.out)) (Lib.hid (two_ways hH.out)) (Lib.hid ⟨fun V=>eq_rat _ _ _ _ _ _ V,fun V=>eq_rat _ _ _ _ _ _ V,fun V=>eq_rat _ _ _ _ _ _ V,fun V=>eq_rat _ _ _ _ _ _ V⟩) HK HA HB HR HU L1 L2 G1 G2 G3 G4 G5 HW S1 HM A1 O1 D1 G6 HI T1 T2 L3 G7 T3 T4
end Go.Proofs.YtdbhahiieokplaaGreatDoor
