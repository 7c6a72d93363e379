import Derived.Test.YtdbhahiieokplaaGreatDoorGRefI
import Derived.Test.YtdbhahiieokplaaGreatDoorGSgQ
import Derived.Test.YtdbhahiieokplaaGreatDoorGRNC
set_option linter.unusedSimpArgs false
set_option linter.unusedVariables false

namespace Go.Proofs.YtdbhahiieokplaaGreatDoor
open Go.RowKit
attribute [local go_sem ↓] Go.wp_at_zero Go.wp_at_succ

theorem below_none {a b:World} {B:Nat} (hg:a.grownBy b none) (hB:B≤a.heap.size):Below B a b:=(Below.refl B a).grown hg hB (fun k hk=>by cases hk)

set_option maxHeartbeats 4000000 in
set_option maxRecDepth 100000 in
theorem divMod_deep (na nb:Bool) (a b:ByteArray) (ha:a.size≤400000000) (hb:b.size≤400000000) (xw yw:Nat) (ok:Bool) (hok:ok=false∨yw=0)
  (hwd:∀ V,Calls Tryz.prog 137 #[.agg #[.bool na,.string a],.agg #[.bool nb,.string b]] V (RetW V xw yw ok)) (w:World) (R:Ending→World→Prop)
  (hR0:bval b=0→∀ w',Below w.heap.size w w'→R (.returned (.tuple #[.agg #[.bool false,.string ⟨#[]⟩],.agg #[.bool false,.string ⟨#[]⟩],.int .i64 6])) w')
  (hR1:bval b≠0→∀ w' b1 m1 b2 m2,Hid (enc (sgn na (bval a) / sgn nb (bval b))=.agg #[.bool b1,.string m1])→Hid (enc (sgn na (bval a)%sgn nb (bval b))=.agg #[.bool b2,.string m2])→Below w.heap.size w w'→R (.returned (.tuple #[.agg #[.bool b1,.string m1],.agg #[.bool b2,.string m2],.int .i64 0])) w') :
  Calls Tryz.prog 142 #[.agg #[.bool na,.string a],.agg #[.bool nb,.string b]] w R:=by
 have K0:=Lib.hid (K4.start w 23 (.bool na) (.string a) (.bool nb) (.string b))
 have HWD:=Lib.hid hwd
 have HR0:=Lib.hid hR0
 have HR1:=Lib.hid hR1
 clear hwd hR0 hR1
 have hok2:ok=true→yw=0:=fun h=>by rcases hok with h1 | h1<;>simp_all
 go_enter Tryz.func142,Tryz.ntmps142
 go_wp2_with fail
 refine (HWD.out _).mono ?_
 rintro e w1 ⟨rfl,hb1⟩
 have K1:=Lib.hid (K0.out.next hb1 (by simp<;>omega))
 obtain ⟨c0,c1,_,_⟩:=blk_cells K1.out.k0
 obtain ⟨c2,c3,_,_⟩:=blk_cells K1.out.k1
 have hsz:=K1.out.sz
 have hw2:∃ W,W=((w1.alloc arr16).alloc arr16).alloc arr16:=⟨_,rfl⟩
 obtain ⟨W,hW⟩:=hw2
 obtain ⟨l1,l2,l3⟩:=heap_three_all w1 arr16 arr16 arr16
 rw [←hW] at l1 l2 l3
 have hbW:Below w1.heap.size w1 W:=by rw [hW];exact ((((Below.refl _ _).alloc (Nat.le_refl _) _).alloc (by simp) _).alloc (by simp<;>omega) _)
 have hszW:W.heap.size=w1.heap.size+3:=by rw [hW];simp
 have iA:Is16 W w1.heap.size:=⟨_,l1,by simp⟩
 have iB:Is16 W (w1.heap.size+1):=⟨_,l2,by simp⟩
 have iC:Is16 W (w1.heap.size+2):=⟨_,l3,by simp⟩
 have c0':=(hbW.cell (p:=⟨w.heap.size,0,none⟩) (by show w.heap.size<_;omega)).trans c0
 have c1':=(hbW.cell (p:=⟨w.heap.size,1,none⟩) (by show w.heap.size<_;omega)).trans c1
 have c2':=(hbW.cell (p:=⟨w.heap.size+1,0,none⟩) (by show w.heap.size+1<_;omega)).trans c2
 have c3':=(hbW.cell (p:=⟨w.heap.size+1,1,none⟩) (by show w.heap.size+1<_;omega)).trans c3
 have HU1:=Lib.hid (fun V (hV:Is16 V w1.heap.size)=>unpack_any (.slice (some ⟨w1.heap.size,0,none⟩) 0 16) a 0 V (by omega) (Nat.zero_le _) hV.own)
 have HU2:=Lib.hid (fun V (hV:Is16 V (w1.heap.size+1))=>unpack_any (.slice (some ⟨w1.heap.size+1,0,none⟩) 0 16) b 0 V (by omega) (Nat.zero_le _) hV.own)
 have KW:=Lib.hid (K1.out.next hbW hsz)
 have IA:=Lib.hid iA
 have IB:=Lib.hid iB
 have IC:=Lib.hid iC
 have HW:=Lib.hid hW
 have HBW:=Lib.hid hbW
 have HSW:=Lib.hid hszW
 clear l1 l2 l3 hbW hszW iA iB iC c0 c1 c2 c3 hW hb1
 rcases ok with _ | _
 all_goals
  first
  | (obtain rfl:yw=0:=hok2 rfl)
  | skip
  clear hok hok2
  go_wp2_with fail
  have hw9:((w1.alloc arr16).alloc arr16).alloc arr16=W:=HW.out.symm
  unfold arr16 at hw9
  rw [hw9]
  clear hw9
  have hp1:w.heap.size<W.heap.size:=by have:=HSW.out;omega
  have hp2:w.heap.size+1<W.heap.size:=by have:=HSW.out;omega
  go_region_held3 (fun w'=>w'.cell? ⟨w.heap.size,1,none⟩=some (.string a)∧w'.cell? ⟨w.heap.size+1,1,none⟩=some (.string b))
   (first
    | go_keep
    | exact ⟨y1,y2⟩
    | exact ⟨z1,z2⟩)
   (first
    | (go_at_call 140;(with_reducible refine (HU1.out _ ?_).mono ?_);(exact IA.out.keep rfl);rintro e w2 ⟨A1,n1,d1,hn1,rfl,hm1,hg2,hbk1⟩;have z1:=keep_cell (W:=W.drew) (g:=w1.heap.size) hg2 hp1 (by omega) c1';have z2:=keep_cell (W:=W.drew) (g:=w1.heap.size) hg2 hp2 (by omega) c3';have hq1:=Nat.lt_of_lt_of_le hp1 hg2.size;have hq2:=Nat.lt_of_lt_of_le hp2 hg2.size)
    | (go_at_call 140;(with_reducible refine (HU2.out _ ?_).mono ?_);(exact keep_16 (W:=W.drew) (g:=w1.heap.size) hg2 (by omega) (IB.out.keep rfl));rintro e w3 ⟨A2,n2,d2,hn2,rfl,hm2,hg3,hbk2⟩;have y1:=keep_cell (g:=w1.heap.size+1) hg3 hq1 (by omega) z1;have y2:=keep_cell (g:=w1.heap.size+1) hg3 hq2 (by omega) z2))
  have hs2:W.heap.size≤w2.heap.size:=hg2.size
  have hs3:w2.heap.size≤w3.heap.size:=hg3.size
  have hsW:=HSW.out
  have ax:=apart (g:=w1.heap.size) (p:=w1.heap.size+1) hbk1 (by omega) (by show _<W.heap.size;omega)
  have axC:=apart (g:=w1.heap.size) (p:=w1.heap.size+2) hbk1 (by omega) (by show _<W.heap.size;omega)
  have ayC:=apart (g:=w1.heap.size+1) (p:=w1.heap.size+2) hbk2 (by omega) (by omega)
  have hbl:Below w1.heap.size W w3:=((Below.refl _ W).drew.trans (below_of_grown (g:=w1.heap.size) hg2 (by show _≤W.heap.size;omega) (Nat.le_refl _))).trans (below_of_grown (g:=w1.heap.size+1) hg3 (by omega) (by omega))
  have UP:=Lib.hid (show Up w 23 (.bool na) (.string a) (.bool nb) (.string b) w1.heap.size A1 A2 n1 d1 n2 d2 (bval a) (bval b) _ _ w3 from
   ⟨KW.out.next hbl (by omega),hsz,⟨⟨hm1.lt,hm1.cap,hm1.rd.grown hg3 (fun q hq z hz e=>ax z hz (e.trans (row_eq hq).symm))⟩,hm1.top⟩,hm2,keep_16 (g:=w1.heap.size+1) hg3 (by omega) (keep_16 (W:=W.drew) (g:=w1.heap.size) hg2 (by omega) (IC.out.keep rfl)),axC,ayC,hn1,hn2,by omega⟩)
  clear hg2 hg3 hbk1 hbk2 hm1 hm2 ax axC ayC hn1 hn2 z1 z2 y1 y2 c0' c1' c2' c3' hq1 hq2 hp1 hp2 hs2 hs3 hsW hbl HU1 HU2 IA IB IC HW HBW HSW KW K1
  generalize bval a=X at *
  generalize bval b=Y at *
  by_cases hY:Y=0
  · have hn0:n2=0:=UP.out.hy.zero.2 hY
    have HR:=Lib.hid (HR0.out hY)
    subst hn0
    clear hY
    obtain ⟨p0,p1,p2,p3⟩:=blk_cells UP.out.k.k2
    obtain ⟨q0,q1,q2,q3⟩:=blk_cells UP.out.k.k3
    go_wp2
    exact bodyPost_ret (v:=.tuple #[.agg #[.bool false,.string ⟨#[]⟩],.agg #[.bool false,.string ⟨#[]⟩],.int .i64 6]) (by simp [results,Tryz.results142,go_sem,p0,p1,q0,q1]) rfl (HR.out _ (by first | exact UP.out.k.bel | exact UP.out.k.stored _ _ _ _))
  · have hn0:n2≠0:=fun h=>hY (UP.out.hy.zero.1 h)
    have hn0b:((n2:Int)==0)=false:=by simp;omega
    have hn0c:0<n2:=by omega
    have HR:=Lib.hid (HR1.out hY)
    obtain ⟨hd1,hd2⟩:=div_signs na nb (x:=X) (y:=Y) (q:=X / Y) (r:=X%Y) (Nat.div_add_mod X Y).symm (Nat.mod_lt _ (by omega))
    have HD1:=Lib.hid hd1
    have HD2:=Lib.hid hd2
    have HYP:=Lib.hid (show 0<Y by omega)
    have hrY:X%Y≤Y:=Nat.le_of_lt (Nat.mod_lt _ (by omega))
    have HRY:=Lib.hid hrY
    have hn1b:=UP.out.n1b
    have hn2b:=UP.out.n2b
    have HDV:=Lib.hid (divide_any A1 A2 n1 n2 d1 d2 X Y w3 (by omega) (by omega) UP.out.hx UP.out.hy HYP.out)
    clear hd1 hd2 hn0 hY HR0 HR1 hrY
    generalize X / Y=q at *
    generalize X%Y=r at *
    have hwy:∀ (z:Nat),((z:Int) != 0)=true∨True:=fun _=>.inr trivial
    clear hwy
    go_wp2_with fail
    refine HDV.out.mono ?_
    rintro e w4 ⟨Aq,nq,cq,Ar,nr,cr,hnq,hnr,rfl,hmq,hmr,hb4,hfq,hfr⟩
    have hs4:=hb4.size
    have hS:=UP.out.hS
    have hSz:=UP.out.sz
    have K4':=Lib.hid (UP.out.k.next hb4 (by omega))
    obtain ⟨c0,c1,_,_⟩:=blk_cells K4'.out.k0
    obtain ⟨c2,c3,_,_⟩:=blk_cells K4'.out.k1
    have hqS:∀ a,Aq=some a→a.block≠w1.heap.size+2:=fun a h=>by subst h;have:=hfq a.block rfl;omega
    have hrS:∀ a,Ar=some a→a.block≠w1.heap.size+2:=fun a h=>by
     rcases hfr with h2 | h2
     · rw [h2] at h;exact UP.out.ax a h
     · subst h;have:=h2 a.block rfl;omega
    have HMQ:=Lib.hid hmq
    have HMR:=Lib.hid hmr
    have HB4:=Lib.hid hb4
    have HQS:=Lib.hid hqS
    have HRS:=Lib.hid hrS
    clear hmq hmr hb4 hqS hrS hfq hfr
    by_cases hneg:na=true∧0<nr
    · obtain ⟨rfl,hnr0⟩:=hneg
      have hr0:0<r:=by
       rcases Nat.eq_zero_or_pos r with h | h
       · have:=HMR.out.zero.2 h;omega
       · exact h
      have hnrd:decide ((0:Int)<(nr:Int))=true:=by simp;omega
      have hi4:=UP.out.sp.keep (HB4.out.block (w1.heap.size+2) (by omega))
      have hpl:=fun V T (hV:V=w4.alloc (.cells #[.int .u64 1] T))=>plus_any (.slice (some ⟨w1.heap.size+2,0,none⟩) 0 16) 0 Aq (some ⟨w4.heap.size,0,none⟩) nq 1 cq 1 q 1 V (by omega) (by omega) (by subst hV;exact (hi4.keep (Below.heap_alloc _ _ _ hi4.lt)).own) (Nat.zero_le _) (by subst hV;exact HMQ.out.toNg.alloc _) (by subst hV;exact ⟨by decide,Nat.le_refl _,rd_one _ _ T 1 _ (heap_one _ _) (by decide)⟩) (fun z hz e=>HQS.out z hz (by injection e)) (fun z hz e=>by injection hz with hz;subst hz;injection e with e;have:w4.heap.size=w1.heap.size+2:=e;omega)
      have HPL:=Lib.hid hpl
      clear hpl hi4
      go_wp2_with fail
      refine (HPL.out _ _ rfl).mono ?_
      rintro e w5 ⟨A5,n5,c5,hn5,rfl,hm5,hg5,hf5⟩
      have hal:Below w4.heap.size w4 (w4.alloc (.cells #[.int .u64 1] 146)):=(Below.refl _ _).alloc (Nat.le_refl _) _
      have hs5:w4.heap.size≤w5.heap.size:=by have:=hg5.size;simp at this;omega
      have hy4:=(UP.out.hy.below HB4.out).below hal
      have hr4:=HMR.out.below hal
      have hy5:Nm w5 A2 n2 d2 Y:=⟨⟨hy4.lt,hy4.cap,hy4.rd.grown hg5 (fun k hk a ha e=>UP.out.ay a ha (by rw [e];simp [Value.ownBlock] at hk;omega))⟩,hy4.top⟩
      have hr5:Nm w5 Ar nr cr r:=⟨⟨hr4.lt,hr4.cap,hr4.rd.grown hg5 (fun k hk a ha e=>HRS.out a ha (by rw [e];simp [Value.ownBlock] at hk;omega))⟩,hr4.top⟩
      have HMI:=Lib.hid (minus_any (.slice none 0 0) 0 A2 Ar n2 nr d2 cr Y r w5 (by omega) (Nm.le_len hy5.toNg hr5 HRY.out) (.inl hn0c) HRY.out (Own.nil _ _) (Nat.zero_le _) hy5.toNg hr5.toNg (fun z hz e=>by simp [Value.ownBlock] at e) (fun z hz e=>by simp [Value.ownBlock] at e))
      have K5:=Lib.hid ((K4'.out.next hal (by omega)).next (below_of_grown (B:=w1.heap.size) (g:=w1.heap.size+2) hg5 (by simp;omega) (by omega)) (by omega))
      have HM5:=Lib.hid hm5
      clear hm5 hg5 hf5 hal hy4 hr4 hy5 hr5 c0 c1 c2 c3
      go_wp2_with fail
      refine HMI.out.mono ?_
      rintro e w6 ⟨A6,n6,c6,hn6,rfl,hm6,hg6,hf6⟩
      have K6:=Lib.hid (K5.out.next (below_none (B:=w5.heap.size) hg6 (Nat.le_refl _)) (by have:=K5.out.sz;omega))
      have HQ6:=Lib.hid (show Nm w6 A5 n5 c5 (q+1) from ⟨⟨HM5.out.lt,HM5.out.cap,HM5.out.rd.grown hg6 (fun k hk=>by simp [Value.ownBlock] at hk)⟩,HM5.out.top⟩)
      have HR6:=Lib.hid hm6
      clear hm6 hg6 hf6
      have c00:=(blk_cells K6.out.k0).1
      have c20:=(blk_cells K6.out.k1).1
      go_wp2_with fail
      refine (pack_any _ A5 n5 c5 (q+1) _ (by omega) HQ6.out.toNg).mono fun e w7 h7=>?_
      obtain ⟨b7,m7,HB7,rfl,hb7⟩:=h7.form
      have HN7:=Lib.hid (Nm.below HR6.out hb7)
      have hs7:=hb7.size
      have K7:=Lib.hid (K6.out.next hb7 (by have:=K6.out.sz;omega))
      clear h7 hb7 c00 c20
      go_wp2_with fail
      refine (pack_any _ A6 n6 c6 (Y-r) _ (by omega) HN7.out.toNg).mono fun e w8 h8=>?_
      obtain ⟨b8,m8,HB8,rfl,hb8⟩:=h8.form
      have K8:=Lib.hid (K7.out.next hb8 (by have:=K7.out.sz;omega))
      obtain ⟨p0,p1,p2,p3⟩:=blk_cells K8.out.k2
      obtain ⟨q0,q1,q2,q3⟩:=blk_cells K8.out.k3
      have HF1:=Lib.hid (show enc (_ / _)=.agg #[.bool b7,.string m7] by rw [HD1.out,←HB7.out];(rw [if_pos ⟨trivial,hr0⟩];cases nb<;>rfl))
      have HF2:=Lib.hid (show enc (_%_)=.agg #[.bool b8,.string m8] by rw [HD2.out,←HB8.out];(rw [if_pos ⟨trivial,hr0⟩];rfl))
      clear h8 hb8
      go_wp2
      exact bodyPost_ret (v:=.tuple #[.agg #[.bool b7,.string m7],.agg #[.bool b8,.string m8],.int .i64 0]) (by simp [results,Tryz.results142,go_sem,p0,p1,q0,q1]) rfl (HR.out _ _ _ _ _ HF1 HF2 (K8.out.stored _ _ _ _))
    · have hnr2 : ¬ (na = true ∧ 0 < r) := fun ⟨h1, h2⟩ => hneg ⟨h1, by
       rcases Nat.eq_zero_or_pos nr with h | h
       · have:=HMR.out.zero.1 h;omega
       · exact h⟩
      cases na
      · clear hneg c1 c2 c3
        have c00:=(blk_cells K4'.out.k0).1
        have c20:=(blk_cells K4'.out.k1).1
        go_wp2_with fail
        refine (pack_any _ Aq nq cq q _ (by omega) HMQ.out.toNg).mono fun e w7 h7=>?_
        obtain ⟨b7,m7,HB7,rfl,hb7⟩:=h7.form
        have HN7:=Lib.hid (Nm.below HMR.out hb7)
        have hs7:=hb7.size
        have K7:=Lib.hid (K4'.out.next hb7 (by have:=K4'.out.sz;omega))
        clear h7 hb7 c00 c20
        go_wp2_with fail
        refine (pack_any _ Ar nr cr r _ (by omega) HN7.out.toNg).mono fun e w8 h8=>?_
        obtain ⟨b8,m8,HB8,rfl,hb8⟩:=h8.form
        have K8:=Lib.hid (K7.out.next hb8 (by have:=K7.out.sz;omega))
        obtain ⟨p0,p1,p2,p3⟩:=blk_cells K8.out.k2
        obtain ⟨q0,q1,q2,q3⟩:=blk_cells K8.out.k3
        have HF1:=Lib.hid (show enc (_ / _)=.agg #[.bool b7,.string m7] by rw [HD1.out,←HB7.out];(rw [if_neg hnr2];cases nb<;>rfl))
        have HF2:=Lib.hid (show enc (_%_)=.agg #[.bool b8,.string m8] by rw [HD2.out,←HB8.out];(rw [if_neg hnr2];rfl))
        clear h8 hb8
        go_wp2
        exact bodyPost_ret (v:=.tuple #[.agg #[.bool b7,.string m7],.agg #[.bool b8,.string m8],.int .i64 0]) (by simp [results,Tryz.results142,go_sem,p0,p1,q0,q1]) rfl (HR.out _ _ _ _ _ HF1 HF2 (K8.out.stored _ _ _ _))
      · have hnr3 : nr = 0 := by
         rcases Nat.eq_zero_or_pos nr with h | h
         · exact h
         · exact absurd ⟨rfl,h⟩ hneg
        have hnrd:decide ((0:Int)<(nr:Int))=false:=by simp;omega
        have hnrd2:¬0<nr:=by omega
        clear hneg hnr3 c1 c2 c3
        have c00:=(blk_cells K4'.out.k0).1
        have c20:=(blk_cells K4'.out.k1).1
        go_wp2_with fail
        refine (pack_any _ Aq nq cq q _ (by omega) HMQ.out.toNg).mono fun e w7 h7=>?_
        obtain ⟨b7,m7,HB7,rfl,hb7⟩:=h7.form
        have HN7:=Lib.hid (Nm.below HMR.out hb7)
        have hs7:=hb7.size
        have K7:=Lib.hid (K4'.out.next hb7 (by have:=K4'.out.sz;omega))
        clear h7 hb7 c00 c20
        go_wp2_with fail
        refine (pack_any _ Ar nr cr r _ (by omega) HN7.out.toNg).mono fun e w8 h8=>?_
        obtain ⟨b8,m8,HB8,rfl,hb8⟩:=h8.form
        have K8:=Lib.hid (K7.out.next hb8 (by have:=K7.out.sz;omega))
        obtain ⟨p0,p1,p2,p3⟩:=blk_cells K8.out.k2
        obtain ⟨q0,q1,q2,q3⟩:=blk_cells K8.out.k3
        have HF1:=Lib.hid (show enc (_ / _)=.agg #[.bool b7,.string m7] by rw [HD1.out,←HB7.out];(rw [if_neg hnr2];cases nb<;>rfl))
        have HF2:=Lib.hid (show enc (_%_)=.agg #[.bool b8,.string m8] by rw [HD2.out,←HB8.out];(rw [if_neg hnr2];rfl))
        clear h8 hb8
        go_wp2
        exact bodyPost_ret (v:=.tuple #[.agg #[.bool b7,.string m7],.agg #[.bool b8,.string m8],.int .i64 0]) (by simp [results,Tryz.results142,go_sem,p0,p1,q0,q1]) rfl (HR.out _ _ _ _ _ HF1 HF2 (K8.out.stored _ _ _ _))
end Go.Proofs.YtdbhahiieokplaaGreatDoor


namespace Go.Proofs.YtdbhahiieokplaaGreatDoor
open Go.RowKit
attribute [local go_sem ↓] Go.wp_at_zero Go.wp_at_succ

def Df (w:World) (g P M c t b:Nat):Prop:=w.heap[g]?=some (.cells #[.int .u64 (P:Int),.int .u64 (M:Int),.int .u64 (c:Int),.int .u64 (t:Int),.int .u64 (b:Int)] 219 (0,0))

theorem Df.cells {w:World} {g P M c t b:Nat} (h:Df w g P M c t b):w.cell? ⟨g,0,none⟩=some (.int .u64 (P:Int))∧w.cell? ⟨g,1,none⟩=some (.int .u64 (M:Int))∧w.cell? ⟨g,2,none⟩=some (.int .u64 (c:Int)) ∧
  w.cell? ⟨g,3,none⟩=some (.int .u64 (t:Int))∧w.cell? ⟨g,4,none⟩=some (.int .u64 (b:Int))∧w.frozen? ⟨g,2,none⟩=false∧w.frozen? ⟨g,3,none⟩=false∧w.frozen? ⟨g,4,none⟩=false:=by
 unfold Df at h
 refine ⟨?_,?_,?_,?_,?_,?_,?_,?_⟩<;>simp [World.cell?,World.frozen?,h]
theorem Df.set2 {w:World} {g P M c t b:Nat} (h:Df w g P M c t b) (x:Nat):Df (w.setCell ⟨g,2,none⟩ (.int .u64 (x:Int))) g P M x t b:=by
 unfold Df at h ⊢
 simp [World.setCell,Array.getElem?_modify,h]
theorem Df.set3 {w:World} {g P M c t b:Nat} (h:Df w g P M c t b) (x:Nat):Df (w.setCell ⟨g,3,none⟩ (.int .u64 (x:Int))) g P M c x b:=by
 unfold Df at h ⊢
 simp [World.setCell,Array.getElem?_modify,h]
theorem Df.set4 {w:World} {g P M c t b:Nat} (h:Df w g P M c t b) (x:Nat):Df (w.setCell ⟨g,4,none⟩ (.int .u64 (x:Int))) g P M c t x:=by
 unfold Df at h ⊢
 simp [World.setCell,Array.getElem?_modify,h]
theorem Df.of_block {w w':World} {g P M c t b:Nat} (h:Df w g P M c t b) (e:w'.heap[g]?=w.heap[g]?):Df w' g P M c t b:=e.trans h
theorem Df.lt {w:World} {g P M c t b:Nat} (h:Df w g P M c t b):g<w.heap.size:=(Array.getElem?_eq_some_iff.1 h).1

def RetDg (w:World) (g r P M c t b:Nat) (e:Ending) (w':World):Prop:=e=.returned (.int .u64 (r:Int))∧Df w' g P M c t b∧w.grownBy w' (some g)

theorem mul_carry {P x c:Nat} (hP:P<18446744073709551616) (hx:x<18446744073709551616) (hc:c<18446744073709551616) :
  (P*x%18446744073709551616+c)%18446744073709551616=(P*x+c)%18446744073709551616∧(P*x+c) / 18446744073709551616<18446744073709551616 ∧
  P*x / 18446744073709551616+(P*x%18446744073709551616+c) / 18446744073709551616=(P*x+c) / 18446744073709551616:=by
 have h1:P*x≤18446744073709551615*18446744073709551615:=Nat.mul_le_mul (by omega) (by omega)
 generalize P*x=p at *
 omega

set_option maxHeartbeats 2000000 in
set_option maxRecDepth 100000 in
theorem digit_any (g P M c t b x y l1 l2 c' t' b' r:Nat) (w:World) (hP:P<18446744073709551616) (hM:M<18446744073709551616) (hc:c<18446744073709551616) (ht:t<18446744073709551616) (hx:x<18446744073709551616) (hy:y<18446744073709551616) (hb:b≤1)
  (hl1:(P*x+c)%18446744073709551616=l1) (hc':(P*x+c) / 18446744073709551616=c') (hl2:(M*y+t)%18446744073709551616=l2) (ht':(M*y+t) / 18446744073709551616=t')
  (hr:(l1+18446744073709551616-l2-b)%18446744073709551616=r) (hb':(if l1<l2+b then 1 else 0)=b') (hd:Df w g P M c t b) :
  Calls Tryz.prog 206 #[.pointer (some ⟨g,0,none⟩),.int .u64 (x:Int),.int .u64 (y:Int)] w (RetDg w g r P M c' t' b'):=by
 obtain ⟨m1,m2,m3⟩:=mul_carry hP hx hc
 obtain ⟨n1,n2,n3⟩:=mul_carry hM hy ht
 rw [hl1] at m1
 rw [hc'] at m2 m3
 rw [hl2] at n1
 rw [ht'] at n2 n3
 obtain ⟨h1,hh1⟩:∃ v,P*x / 18446744073709551616=v:=⟨_,rfl⟩
 obtain ⟨k1,hk1⟩:∃ v,P*x%18446744073709551616=v:=⟨_,rfl⟩
 obtain ⟨h2,hh2⟩:∃ v,M*y / 18446744073709551616=v:=⟨_,rfl⟩
 obtain ⟨k2,hk2⟩:∃ v,M*y%18446744073709551616=v:=⟨_,rfl⟩
 have HM1:=Lib.hid (fun W=>mul64_any P x hP hx h1 k1 hh1 hk1 W)
 have HM2:=Lib.hid (fun W=>mul64_any M y hM hy h2 k2 hh2 hk2 W)
 rw [hk1] at m1 m3
 rw [hh1] at m3
 rw [hk2] at n1 n3
 rw [hh2] at n3
 obtain ⟨o1,ho1⟩:∃ v,(k1+c) / 18446744073709551616=v:=⟨_,rfl⟩
 obtain ⟨o2,ho2⟩:∃ v,(k2+t) / 18446744073709551616=v:=⟨_,rfl⟩
 have ha1:=add64_0 k1 c l1 o1 m1 ho1
 have ha2:=add64_0 k2 t l2 o2 n1 ho2
 have ha3:=fun W=>sub64_fn l1 l2 b hb W r b' hr hb'
 rw [ho1] at m3
 rw [ho2] at n3
 have s1:(h1:Int)+(o1:Int)=(c':Int):=by omega
 have s2:(h2:Int)+(o2:Int)=(t':Int):=by omega
 have d1:=hd.set2 c'
 have d2:=d1.set3 t'
 have d3:=d2.set4 b'
 obtain ⟨p0,p1,p2,p3,p4,p5,p6,p7⟩:=hd.cells
 obtain ⟨q0,q1,q2,q3,q4,q5,q6,q7⟩:=d1.cells
 obtain ⟨r0,r1,r2,r3,r4,r5,r6,r7⟩:=d2.cells
 have HD3:=Lib.hid d3
 clear hd d1 d2 d3 m1 m3 n1 n3 hh1 hk1 hh2 hk2 ho1 ho2 hl1 hc' hl2 ht' hr hb' p1 p3 p4 p6 p7 q0 q2 q4 q5 q7 r0 r1 r2 r3 r5 r6
 go_enter Tryz.func206,Tryz.ntmps206
 go_wp2_with fail
 refine (HM1.out _).mono ?_
 rintro e w1 ⟨rfl,rfl⟩
 go_wp2_with fail
 refine (HM2.out _).mono ?_
 rintro e w1 ⟨rfl,rfl⟩
 go_wp2
 go_ret
 exact ⟨rfl,HD3.out,grown_set (grown_set (grown_set (World.grownBy.refl _ _) _ _) _ _) _ _⟩
end Go.Proofs.YtdbhahiieokplaaGreatDoor


namespace Go.Proofs.YtdbhahiieokplaaGreatDoor
open Go.RowKit
attribute [local go_sem ↓] Go.wp_at_zero Go.wp_at_succ

theorem D_nought (b k:Nat):D b 0 k=0:=by simp [D]

theorem digit_step (g a b k X Y:Nat) (w:World) (ha:a<18446744073709551616) (hb:b<18446744073709551616) (hle:b*Y≤a*X) (hd:Df w g a b (car B64 0 a X k) (car B64 0 b Y k) (bor B64 (a*X) (b*Y) k)) :
  Calls Tryz.prog 206 #[.pointer (some ⟨g,0,none⟩),.int .u64 (D B64 X k:Int),.int .u64 (D B64 Y k:Int)] w (RetDg w g (D B64 (a*X-b*Y) k) a b (car B64 0 a X (k+1)) (car B64 0 b Y (k+1)) (bor B64 (a*X) (b*Y) (k+1))):=by
 obtain ⟨s1,s2⟩:=car_step B64_pos 0 a X k
 obtain ⟨t1,t2⟩:=car_step B64_pos 0 b Y k
 rw [D_nought,Nat.zero_add] at s1 s2 t1 t2
 rw [Nat.zero_add] at s2 t2
 have c1:=car_lt B64_pos (x:=a) (by rw [B64_eq];exact ha) 0 X k
 have c2:=car_lt B64_pos (x:=b) (by rw [B64_eq];exact hb) 0 Y k
 have hbl:=bor_le B64 (a*X) (b*Y) k
 have hs1:=bor_step B64_pos (a*X) (b*Y) k
 have hs2:=sub_digit (D64_lt (a*X) k) (D64_lt (b*Y) k) hbl (dif_digit B64_pos hle k)
 exact digit_any g a b _ _ _ (D B64 X k) (D B64 Y k) (D B64 (a*X) k) (D B64 (b*Y) k) _ _ _ _ w ha hb (by omega) (by omega) (D64_lt _ _) (D64_lt _ _) hbl (by rw [←B64_eq];exact s2) (by rw [←B64_eq];exact s1) (by rw [←B64_eq];exact t2) (by rw [←B64_eq];exact t1) hs2 hs1.symm hd

def Cp (w:World) (g c:Nat):Prop:=∃ cur T,w.heap[g]?=some (.cells cur T (0,0))∧c≤cur.size

theorem Cp.of_block {w w':World} {g c:Nat} (h:Cp w g c) (e:w'.heap[g]?=w.heap[g]?):Cp w' g c:=by
 obtain ⟨cur,T,h1,h2⟩:=h
 exact ⟨cur,T,e.trans h1,h2⟩
theorem Cp.set {w:World} {g c:Nat} (h:Cp w g c) (i:Nat) (v:Value):Cp (w.setCell ⟨g,i,none⟩ v) g c:=by
 obtain ⟨cur,T,h1,h2⟩:=h
 refine ⟨cur.setIfInBounds i v,T,?_,by simpa using h2⟩
 simp [World.setCell,Array.getElem?_modify,h1]

theorem Own.lies {w:World} {base:Nat} {A:Option Addr} {n c:Nat} {f:Nat→Nat} (h:Own w base (.slice A n c) n (nums .u64 f n)) (hn:0<n) :
  ∃ g,A=some ⟨g,0,none⟩∧Lies w g n f∧Cp w g c∧n≤c∧c≤maxLen∧base≤g:=by
 rcases h.2 with ⟨_,h3⟩ | ⟨g,cap,cur,T,hv,hg,hh,h4,h5,h6,h7⟩
 · omega
 · injection hv with a1 a2 a3
   subst a1 a3
   refine ⟨g,rfl,⟨cur,T,hh,by omega,fun i hi=>?_⟩,⟨cur,T,hh,h6⟩,h4,h5,hg⟩
   have:=nums_get .u64 f n i hi
   rw [←h7,List.getElem?_take_of_lt hi,Array.getElem?_toList] at this
   exact this
theorem Own.of_lies {w:World} {base g n c:Nat} {f:Nat→Nat} (h:Lies w g n f) (hc:Cp w g c) (hn:n≤c) (hm:c≤maxLen) (hb:base≤g):Own w base (.slice (some ⟨g,0,none⟩) n c) n (nums .u64 f n):=by
 obtain ⟨cur,T,h1,_,h3⟩:=h
 obtain ⟨cur',T',h1',h2'⟩:=hc
 rw [h1] at h1'
 injection h1' with e
 injection e with e1 e2
 subst e1
 exact Own.of_cells h1 hb hn hm h2' h3

structure Ow (w:World) (base:Nat) (A:Option Addr) (n c V:Nat):Prop where
 own:Own w base (.slice A n c) n (nums .u64 (D B64 V) n)
 lt:V<B64^n
 top:0<n→B64^(n-1)≤V

theorem Ow.nm {w:World} {base:Nat} {A:Option Addr} {n c V:Nat} (h:Ow w base A n c V):Nm w A n c V:=by
 obtain ⟨A',c',e,h1,h2⟩:=h.own.rd
 injection e with e1 e2 e3
 subst e1 e3
 exact ⟨⟨h.lt,h1,h2⟩,h.top⟩

structure Ds (W:World) (base gx gy g1 g2 n cx cy X Y a b c d k:Nat) (w:World):Prop where
 lx:Lies w gx n (fun j=>if j<k then D B64 (a*X-b*Y) j else D B64 X j)
 ly:Lies w gy n (fun j=>if j<k then D B64 (c*Y-d*X) j else D B64 Y j)
 px:Cp w gx cx
 py:Cp w gy cy
 f1:Df w g1 a b (car B64 0 a X k) (car B64 0 b Y k) (bor B64 (a*X) (b*Y) k)
 f2:Df w g2 c d (car B64 0 c Y k) (car B64 0 d X k) (bor B64 (c*Y) (d*X) k)
 bel:Below base W w

def RetTwo (W:World) (base gx gy n cx cy R S:Nat) (e:Ending) (w:World):Prop :=
 ∃ k l,k≤n∧l≤n∧e=.returned (.tuple #[.slice (some ⟨gx,0,none⟩) k cx,.slice (some ⟨gy,0,none⟩) l cy])∧Ow w base (some ⟨gx,0,none⟩) k cx R∧Ow w base (some ⟨gy,0,none⟩) l cy S∧Below base W w

set_option maxHeartbeats 8000000 in
set_option maxRecDepth 100000 in
theorem differences_any (base gx gy n cx cy X Y a b c d:Nat) (w:World) (hn:n≤100000000) (ha:a<18446744073709551616) (hb:b<18446744073709551616) (hc:c<18446744073709551616) (hd:d<18446744073709551616)
  (h1:b*Y≤a*X) (h2:d*X≤c*Y) (hR:a*X-b*Y<B64^n) (hS:c*Y-d*X<B64^n) (hX:Lies w gx n (D B64 X)) (hY:Lies w gy n (D B64 Y)) (hpx:Cp w gx cx) (hpy:Cp w gy cy) (hcx:n≤cx) (hcy:n≤cy) (hmx:cx≤maxLen) (hmy:cy≤maxLen)
  (hxy:gx≠gy) (hbx:base≤gx) (hby:base≤gy) :
  Calls Tryz.prog 195 #[.slice (some ⟨gx,0,none⟩) n cx,.slice (some ⟨gy,0,none⟩) n cy,.int .u64 (a:Int),.int .u64 (b:Int),.int .u64 (c:Int),.int .u64 (d:Int)] w (RetTwo w base gx gy n cx cy (a*X-b*Y) (c*Y-d*X)):=by
 have hbw:base≤w.heap.size:=by have:=hX.lt;omega
 have lgx:=hX.lt
 have lgy:=hY.lt
 have HX:=Lib.hid hX
 have HY:=Lib.hid hY
 have HPX:=Lib.hid hpx
 have HPY:=Lib.hid hpy
 have H1:=Lib.hid h1
 have H2:=Lib.hid h2
 have HR:=Lib.hid hR
 have HS:=Lib.hid hS
 clear hX hY hpx hpy h1 h2 hR hS
 go_enter Tryz.func195,Tryz.ntmps195
 go_wp2
 go_loopw [25] (fun i wr=>∃ k:Nat,k≤n∧i=.int .i64 k∧Ds w base gx gy w.heap.size (w.heap.size+1) n cx cy X Y a b c d k wr) (fun i _=>n-(intOf i).toNat)
 case atStart =>
  have e1:=heap_fst w (.cells #[.int .u64 (a:Int),.int .u64 (b:Int),.int .u64 0,.int .u64 0,.int .u64 0] 219) (.cells #[.int .u64 (c:Int),.int .u64 (d:Int),.int .u64 0,.int .u64 0,.int .u64 0] 219)
  have e2:=heap_two w (.cells #[.int .u64 (a:Int),.int .u64 (b:Int),.int .u64 0,.int .u64 0,.int .u64 0] 219) (.cells #[.int .u64 (c:Int),.int .u64 (d:Int),.int .u64 0,.int .u64 0,.int .u64 0] 219)
  have hbl:Below w.heap.size w ((w.alloc (.cells #[.int .u64 (a:Int),.int .u64 (b:Int),.int .u64 0,.int .u64 0,.int .u64 0] 219)).alloc (.cells #[.int .u64 (c:Int),.int .u64 (d:Int),.int .u64 0,.int .u64 0,.int .u64 0] 219)):=((Below.refl _ _).alloc (Nat.le_refl _) _).alloc (by simp) _
  refine ⟨0,Nat.zero_le _,rfl,⟨(HX.out.below hbl lgx).congr fun j _=>by rw [if_neg (by omega)],(HY.out.below hbl lgy).congr fun j _=>by rw [if_neg (by omega)],HPX.out.of_block (hbl.block gx lgx),HPY.out.of_block (hbl.block gy lgy),?_,?_,hbl.mono hbw⟩⟩
  · show _=_
    rw [car_zero,car_zero,bor_zero]
    exact e1
  · show _=_
    rw [car_zero,car_zero,bor_zero]
    exact e2
 case round =>
  obtain ⟨k,hk,rfl,hds⟩:=hrel
  by_cases hlt:k<n
  · have cX:=hds.lx.cell (i:=k) hlt
    have cY:=hds.ly.cell (i:=k) hlt
    have fX:=hds.lx.frozen k
    have fY:=hds.ly.frozen k
    rw [if_neg (by omega)] at cX cY
    have hsw:=hds.bel.size
    have DF1:=Lib.hid hds.f1
    have DF20:=Lib.hid hds.f2
    have l1:=hds.f1.lt
    have l2:=hds.f2.lt
    have lx1:gx<wr.heap.size:=by omega
    have lx2:gx≠w.heap.size:=by omega
    have ly1:gy<wr.heap.size:=by omega
    have ly2:gy≠w.heap.size:=by omega
    have HDS:=Lib.hid hds
    have hD1:=fun V (hV:Df V w.heap.size a b (car B64 0 a X k) (car B64 0 b Y k) (bor B64 (a*X) (b*Y) k))=>digit_step w.heap.size a b k X Y V ha hb H1.out hV
    have hD2:=fun V (hV:Df V (w.heap.size+1) c d (car B64 0 c Y k) (car B64 0 d X k) (bor B64 (c*Y) (d*X) k))=>digit_step (w.heap.size+1) c d k Y X V hc hd H2.out hV
    have HD1:=Lib.hid hD1
    have HD2:=Lib.hid hD2
    clear hD1 hD2 hds
    generalize D B64 X k=xk at *
    generalize D B64 Y k=yk at *
    obtain ⟨rk,hrk⟩:∃ r,D B64 (a*X-b*Y) k=r:=⟨_,rfl⟩
    obtain ⟨sk,hsk⟩:∃ r,D B64 (c*Y-d*X) k=r:=⟨_,rfl⟩
    rw [hrk] at HD1
    rw [hsk] at HD2
    have HRK:=Lib.hid hrk
    have HSK:=Lib.hid hsk
    clear hrk hsk
    have i0:(0:Int)≤(k:Int):=by omega
    have i1:(k:Int)<(n:Int):=by omega
    go_wp2_with fail
    refine wp_region_late (S:=fun w'=>w'.cell? ⟨gx,k,none⟩=some (.int .u64 (xk:Int))∧w'.cell? ⟨gy,k,none⟩=some (.int .u64 (yk:Int))) (L:=[22,23,24,25]) (by kernel_rfl) ?_
    have hHeld:wr.drew.cell? ⟨gx,k,none⟩=some (.int .u64 (xk:Int))∧wr.drew.cell? ⟨gy,k,none⟩=some (.int .u64 (yk:Int)):=⟨cX,cY⟩
    refine wpLate_free (i:=0) (oi:=⟨some 28,_,_,_,_,_⟩) (v:=?_) rfl (by kernel_rfl) (by kernel_rfl) (by kernel_rfl) (by kernel_rfl) (fun _ _ _ h=>h) (Or.inl ⟨by rfl,?_⟩) ?_
    rotate_left
    · intro w hSw;(try dsimp only at hSw);(first | (go_simp;done) | (go_simp;with_reducible rfl))
    try simp only [Act.put,List.setIfInBounds_toArray,List.set_cons_zero,List.set_cons_succ]
    refine wpLate_free (i:=1) (oi:=⟨some 29,_,_,_,_,_⟩) (v:=?_) rfl (by kernel_rfl) (by kernel_rfl) (by kernel_rfl) (by kernel_rfl) (fun _ _ _ h=>h) (Or.inl ⟨by rfl,?_⟩) ?_
    rotate_left
    · intro w hSw;(try dsimp only at hSw);(first | (go_simp;done) | (go_simp;with_reducible rfl))
    try simp only [Act.put,List.setIfInBounds_toArray,List.set_cons_zero,List.set_cons_succ]
    refine wpLate_free (i:=2) (oi:=⟨some 30,_,_,_,_,_⟩) (v:=?_) rfl (by kernel_rfl) (by kernel_rfl) (by kernel_rfl) (by kernel_rfl) (fun _ _ _ h=>h) (Or.inl ⟨by rfl,?_⟩) ?_
    rotate_left
    · intro w hSw;(try dsimp only at hSw);(first | (go_simp;done) | (go_simp;with_reducible rfl))
    try simp only [Act.put,List.setIfInBounds_toArray,List.set_cons_zero,List.set_cons_succ]
    refine wpLate_free (i:=3) (oi:=⟨some 31,_,_,_,_,_⟩) (v:=?_) rfl (by kernel_rfl) (by kernel_rfl) (by kernel_rfl) (by kernel_rfl) (fun _ _ _ h=>h) (Or.inl ⟨by rfl,?_⟩) ?_
    rotate_left
    · intro w hSw;(try dsimp only at hSw);(first | (go_simp;done) | (go_simp;with_reducible rfl))
    try simp only [Act.put,List.setIfInBounds_toArray,List.set_cons_zero,List.set_cons_succ]
    refine wpLate_free (i:=4) (oi:=⟨some 32,_,_,_,_,_⟩) (v:=?_) rfl (by kernel_rfl) (by kernel_rfl) (by kernel_rfl) (by kernel_rfl) (fun _ _ _ h=>h) (Or.inl ⟨by rfl,?_⟩) ?_
    rotate_left
    · intro w hSw;(try dsimp only at hSw);(first | (go_simp;done) | (go_simp;with_reducible rfl))
    try simp only [Act.put,List.setIfInBounds_toArray,List.set_cons_zero,List.set_cons_succ]
    refine wpLate_free (i:=5) (oi:=⟨some 33,_,_,_,_,_⟩) (v:=?_) rfl (by kernel_rfl) (by kernel_rfl) (by kernel_rfl) (by kernel_rfl) (fun _ _ _ h=>h) (Or.inl ⟨by rfl,?_⟩) ?_
    rotate_left
    · intro w hSw;(try dsimp only at hSw);(first | (go_simp;done) | (go_simp;with_reducible rfl))
    try simp only [Act.put,List.setIfInBounds_toArray,List.set_cons_zero,List.set_cons_succ]
    refine wpLate_free (i:=6) (oi:=⟨some 34,_,_,_,_,_⟩) (v:=?_) rfl (by kernel_rfl) (by kernel_rfl) (by kernel_rfl) (by kernel_rfl) (fun _ _ _ h=>h) (Or.inl ⟨by rfl,?_⟩) ?_
    rotate_left
    · intro w hSw;(try dsimp only at hSw);(first | (go_simp;done) | (go_simp;with_reducible rfl))
    try simp only [Act.put,List.setIfInBounds_toArray,List.set_cons_zero,List.set_cons_succ]
    refine wpLate_take (i:=7) (oi:=⟨some 35,_,_,_,_,_⟩) (v:=?_) rfl (by kernel_rfl) (by kernel_rfl) (by kernel_rfl) (by kernel_rfl) (by kernel_rfl) (fun _ _ _ h=>h) (Or.inl ⟨by rfl,?_⟩) hHeld ?_
    rotate_left
    · intro w hSw;(try dsimp only at hSw);(first | (go_simp;done) | (go_simp;with_reducible rfl))
    try simp only [Act.put,List.setIfInBounds_toArray,List.set_cons_zero,List.set_cons_succ]
    refine wpLate_free (i:=8) (oi:=⟨some 36,_,_,_,_,_⟩) (v:=?_) rfl (by kernel_rfl) (by kernel_rfl) (by kernel_rfl) (by kernel_rfl) (fun _ _ _ h=>h) (Or.inl ⟨by rfl,?_⟩) ?_
    rotate_left
    · intro w hSw;(try dsimp only at hSw);(first | (go_simp;done) | (go_simp;with_reducible rfl))
    try simp only [Act.put,List.setIfInBounds_toArray,List.set_cons_zero,List.set_cons_succ]
    refine wpLate_free (i:=9) (oi:=⟨some 37,_,_,_,_,_⟩) (v:=?_) rfl (by kernel_rfl) (by kernel_rfl) (by kernel_rfl) (by kernel_rfl) (fun _ _ _ h=>h) (Or.inl ⟨by rfl,?_⟩) ?_
    rotate_left
    · intro w hSw;(try dsimp only at hSw);(first | (go_simp;done) | (go_simp;with_reducible rfl))
    try simp only [Act.put,List.setIfInBounds_toArray,List.set_cons_zero,List.set_cons_succ]
    refine wpLate_free (i:=10) (oi:=⟨some 38,_,_,_,_,_⟩) (v:=?_) rfl (by kernel_rfl) (by kernel_rfl) (by kernel_rfl) (by kernel_rfl) (fun _ _ _ h=>h) (Or.inl ⟨by rfl,?_⟩) ?_
    rotate_left
    · intro w hSw;(try dsimp only at hSw);(first | (go_simp;done) | (go_simp;with_reducible rfl))
    try simp only [Act.put,List.setIfInBounds_toArray,List.set_cons_zero,List.set_cons_succ]
    refine wpLate_take (i:=11) (oi:=⟨some 39,_,_,_,_,_⟩) (v:=?_) rfl (by kernel_rfl) (by kernel_rfl) (by kernel_rfl) (by kernel_rfl) (by kernel_rfl) (fun _ _ _ h=>h) (Or.inl ⟨by rfl,?_⟩) hHeld ?_
    rotate_left
    · intro w hSw;(try dsimp only at hSw);(first | (go_simp;done) | (go_simp;with_reducible rfl))
    try simp only [Act.put,List.setIfInBounds_toArray,List.set_cons_zero,List.set_cons_succ]
    refine wpLate_free (i:=13) (oi:=⟨some 41,_,_,_,_,_⟩) (v:=?_) rfl (by kernel_rfl) (by kernel_rfl) (by kernel_rfl) (by kernel_rfl) (fun _ _ _ h=>h) (Or.inl ⟨by rfl,?_⟩) ?_
    rotate_left
    · intro w hSw;(try dsimp only at hSw);(first | (go_simp;done) | (go_simp;with_reducible rfl))
    try simp only [Act.put,List.setIfInBounds_toArray,List.set_cons_zero,List.set_cons_succ]
    refine wpLate_free (i:=14) (oi:=⟨some 42,_,_,_,_,_⟩) (v:=?_) rfl (by kernel_rfl) (by kernel_rfl) (by kernel_rfl) (by kernel_rfl) (fun _ _ _ h=>h) (Or.inl ⟨by rfl,?_⟩) ?_
    rotate_left
    · intro w hSw;(try dsimp only at hSw);(first | (go_simp;done) | (go_simp;with_reducible rfl))
    try simp only [Act.put,List.setIfInBounds_toArray,List.set_cons_zero,List.set_cons_succ]
    refine wpLate_free (i:=15) (oi:=⟨some 43,_,_,_,_,_⟩) (v:=?_) rfl (by kernel_rfl) (by kernel_rfl) (by kernel_rfl) (by kernel_rfl) (fun _ _ _ h=>h) (Or.inl ⟨by rfl,?_⟩) ?_
    rotate_left
    · intro w hSw;(try dsimp only at hSw);(first | (go_simp;done) | (go_simp;with_reducible rfl))
    try simp only [Act.put,List.setIfInBounds_toArray,List.set_cons_zero,List.set_cons_succ]
    refine wpLate_take (i:=16) (oi:=⟨some 44,_,_,_,_,_⟩) (v:=?_) rfl (by kernel_rfl) (by kernel_rfl) (by kernel_rfl) (by kernel_rfl) (by kernel_rfl) (fun _ _ _ h=>h) (Or.inl ⟨by rfl,?_⟩) hHeld ?_
    rotate_left
    · intro w hSw;(try dsimp only at hSw);(first | (go_simp;done) | (go_simp;with_reducible rfl))
    try simp only [Act.put,List.setIfInBounds_toArray,List.set_cons_zero,List.set_cons_succ]
    refine wpLate_free (i:=17) (oi:=⟨some 45,_,_,_,_,_⟩) (v:=?_) rfl (by kernel_rfl) (by kernel_rfl) (by kernel_rfl) (by kernel_rfl) (fun _ _ _ h=>h) (Or.inl ⟨by rfl,?_⟩) ?_
    rotate_left
    · intro w hSw;(try dsimp only at hSw);(first | (go_simp;done) | (go_simp;with_reducible rfl))
    try simp only [Act.put,List.setIfInBounds_toArray,List.set_cons_zero,List.set_cons_succ]
    refine wpLate_free (i:=18) (oi:=⟨some 46,_,_,_,_,_⟩) (v:=?_) rfl (by kernel_rfl) (by kernel_rfl) (by kernel_rfl) (by kernel_rfl) (fun _ _ _ h=>h) (Or.inl ⟨by rfl,?_⟩) ?_
    rotate_left
    · intro w hSw;(try dsimp only at hSw);(first | (go_simp;done) | (go_simp;with_reducible rfl))
    try simp only [Act.put,List.setIfInBounds_toArray,List.set_cons_zero,List.set_cons_succ]
    refine wpLate_free (i:=19) (oi:=⟨some 47,_,_,_,_,_⟩) (v:=?_) rfl (by kernel_rfl) (by kernel_rfl) (by kernel_rfl) (by kernel_rfl) (fun _ _ _ h=>h) (Or.inl ⟨by rfl,?_⟩) ?_
    rotate_left
    · intro w hSw;(try dsimp only at hSw);(first | (go_simp;done) | (go_simp;with_reducible rfl))
    try simp only [Act.put,List.setIfInBounds_toArray,List.set_cons_zero,List.set_cons_succ]
    refine wpLate_take (i:=20) (oi:=⟨some 48,_,_,_,_,_⟩) (v:=?_) rfl (by kernel_rfl) (by kernel_rfl) (by kernel_rfl) (by kernel_rfl) (by kernel_rfl) (fun _ _ _ h=>h) (Or.inl ⟨by rfl,?_⟩) hHeld ?_
    rotate_left
    · intro w hSw;(try dsimp only at hSw);(first | (go_simp;done) | (go_simp;with_reducible rfl))
    try simp only [Act.put,List.setIfInBounds_toArray,List.set_cons_zero,List.set_cons_succ]
    refine wpLate_one (i:=12) (o:=⟨some 40,_,_,_,_,_⟩) (by kernel_rfl) rfl (fun K hK=>?_)
    go_simp
    (go_at_call 206;(with_reducible refine (HD1.out _ ?_).mono ?_);(exact DF1.out);rintro e w2 ⟨rfl,hf1,hg1⟩)
    try go_wp2_with fail
    refine hK.out _ _ (Or.inr (fun h=>⟨keep_cell hg1 lx1 lx2 h.1,keep_cell hg1 ly1 ly2 h.2⟩)) ?_
    clear hK K
    try simp only [Act.put,List.setIfInBounds_toArray,List.set_cons_zero,List.set_cons_succ]
    have DF2:=Lib.hid (DF20.out.of_block (hg1.block _ (by show _<wr.heap.size;omega) (fun e=>by injection e with e;omega)))
    refine wpLate_one (i:=21) (o:=⟨some 49,_,_,_,_,_⟩) (by kernel_rfl) rfl (fun K hK=>?_)
    go_simp
    (go_at_call 206;(with_reducible refine (HD2.out _ ?_).mono ?_);(exact DF2.out);rintro e w3 ⟨rfl,hf2,hg2⟩)
    try go_wp2_with fail
    refine hK.out _ _ (Or.inr (fun h=>⟨keep_cell hg2 (by have:=hg1.size;simp at this;omega) (by omega) h.1,keep_cell hg2 (by have:=hg1.size;simp at this;omega) (by omega) h.2⟩)) ?_
    clear hK K
    try simp only [Act.put,List.setIfInBounds_toArray,List.set_cons_zero,List.set_cons_succ]
    have z2:wr.heap.size≤w2.heap.size:=by have:=hg1.size;simpa using this
    have z3:w2.heap.size≤w3.heap.size:=hg2.size
    have b2:∀ g,g<wr.heap.size→g≠w.heap.size→w2.heap[g]?=wr.heap[g]?:=fun g h1 h2=>hg1.block g (by show g<wr.heap.size;exact h1) (fun e=>by injection e with e;omega)
    have b3:∀ g,g<wr.heap.size→g≠w.heap.size+1→w3.heap[g]?=w2.heap[g]?:=fun g h1 h2=>hg2.block g (by omega) (fun e=>by injection e with e;omega)
    have X3:=(HDS.out.lx.of_block (b2 gx lx1 lx2)).of_block (b3 gx lx1 (by omega))
    have Y3:=(HDS.out.ly.of_block (b2 gy ly1 ly2)).of_block (b3 gy ly1 (by omega))
    have PX3:=(HDS.out.px.of_block (b2 gx lx1 lx2)).of_block (b3 gx lx1 (by omega))
    have PY3:=(HDS.out.py.of_block (b2 gy ly1 ly2)).of_block (b3 gy ly1 (by omega))
    have F13:=hf1.of_block (b3 w.heap.size (by omega) (by omega))
    have B3:Below base w w3:=(HDS.out.bel.drew.trans (below_of_grown (B:=base) hg1 (by show base≤wr.heap.size;omega) (by omega))).trans (below_of_grown (B:=base) hg2 (by omega) (by omega))
    have X4:=X3.set k rk
    have Y4:=Y3.other (b:=gx) k (.int .u64 (rk:Int)) (Ne.symm hxy)
    have s1:=X3.cell (i:=k) hlt
    have s2:=X3.frozen k
    have s3:=Y4.cell (i:=k) hlt
    have s4:=Y4.frozen k
    have X5:=X4.other (b:=gy) k (.int .u64 (sk:Int)) hxy
    have Y5:=Y4.set k sk
    have PX5:=(PX3.set k (.int .u64 (rk:Int))).of_block (Below.heap_setCell _ ⟨gy,k,none⟩ (.int .u64 (sk:Int)) gx hxy)
    have PY5:=(PY3.of_block (Below.heap_setCell w3 ⟨gx,k,none⟩ (.int .u64 (rk:Int)) gy (Ne.symm hxy))).set k (.int .u64 (sk:Int))
    have F15:=(F13.of_block (Below.heap_setCell w3 ⟨gx,k,none⟩ (.int .u64 (rk:Int)) w.heap.size (by show w.heap.size≠gx;omega))).of_block (Below.heap_setCell _ ⟨gy,k,none⟩ (.int .u64 (sk:Int)) w.heap.size (by show w.heap.size≠gy;omega))
    have F25:=(hf2.of_block (Below.heap_setCell w3 ⟨gx,k,none⟩ (.int .u64 (rk:Int)) (w.heap.size+1) (by show w.heap.size+1≠gx;omega))).of_block (Below.heap_setCell _ ⟨gy,k,none⟩ (.int .u64 (sk:Int)) (w.heap.size+1) (by show w.heap.size+1≠gy;omega))
    have B5:=(B3.setCell (p:=⟨gx,k,none⟩) hbx (.int .u64 (rk:Int))).setCell (p:=⟨gy,k,none⟩) hby (.int .u64 (sk:Int))
    have HX5:=Lib.hid X5
    have HY5:=Lib.hid Y5
    have HP5:=Lib.hid (And.intro PX5 PY5)
    have HF5:=Lib.hid (And.intro F15 F25)
    have HB5:=Lib.hid B5
    clear z2 z3 b2 b3 X3 Y3 PX3 PY3 F13 B3 X4 Y4 X5 Y5 PX5 PY5 F15 F25 B5 hf1 hf2 hg1 hg2 hHeld cX cY fX fY DF1 DF20 DF2 HD1 HD2
    refine wpLate_free (i:=22) (oi:=⟨some 50,_,_,_,_,_⟩) (v:=?_) rfl (by kernel_rfl) (by kernel_rfl) (by kernel_rfl) (by kernel_rfl) (fun _ _ _ h=>h) (Or.inl ⟨by rfl,?_⟩) ?_
    rotate_left
    · intro w hSw;(try dsimp only at hSw);(first | (go_simp;done) | (go_simp;with_reducible rfl))
    try simp only [Act.put,List.setIfInBounds_toArray,List.set_cons_zero,List.set_cons_succ]
    refine wpLate_one (i:=23) (o:=⟨none,_,_,_,_,_⟩) (by kernel_rfl) rfl (fun K hK=>?_)
    go_simp
    refine hK.out _ _ (Or.inl (by rfl)) ?_
    clear hK K
    try simp only [Act.put,List.setIfInBounds_toArray,List.set_cons_zero,List.set_cons_succ]
    refine wpLate_free (i:=24) (oi:=⟨some 51,_,_,_,_,_⟩) (v:=?_) rfl (by kernel_rfl) (by kernel_rfl) (by kernel_rfl) (by kernel_rfl) (fun _ _ _ h=>h) (Or.inl ⟨by rfl,?_⟩) ?_
    rotate_left
    · intro w hSw;(try dsimp only at hSw);(first | (go_simp;done) | (go_simp;with_reducible rfl))
    try simp only [Act.put,List.setIfInBounds_toArray,List.set_cons_zero,List.set_cons_succ]
    refine wpLate_one (i:=25) (o:=⟨none,_,_,_,_,_⟩) (by kernel_rfl) rfl (fun K hK=>?_)
    go_simp
    refine hK.out _ _ (Or.inl (by rfl)) ?_
    clear hK K
    try simp only [Act.put,List.setIfInBounds_toArray,List.set_cons_zero,List.set_cons_succ]
    refine wpLate_done (by kernel_rfl) ?_ _
    go_wp2
    go_roundw
    case rel =>
     refine ⟨k+1,by omega,by go_num,⟨HX5.out.congr fun j hj=>?_,HY5.out.congr fun j hj=>?_,HP5.out.1,HP5.out.2,HF5.out.1,HF5.out.2,HB5.out⟩⟩
     · by_cases e:j=k
       · rw [if_pos e,if_pos (by omega),e,HRK.out]
       · rw [if_neg e]
         by_cases e2:j<k
         · rw [if_pos e2,if_pos (by omega)]
         · rw [if_neg e2,if_neg (by omega)]
     · by_cases e:j=k
       · rw [if_pos e,if_pos (by omega),e,HSK.out]
       · rw [if_neg e]
         by_cases e2:j<k
         · rw [if_pos e2,if_pos (by omega)]
         · rw [if_neg e2,if_neg (by omega)]
    case measure=>simp [intOf]<;>omega
  · obtain rfl:k=n:=by omega
    have LX:=hds.lx.congr (f':=D B64 (a*X-b*Y)) fun j hj=>by rw [if_pos hj]
    have LY:=hds.ly.congr (f':=D B64 (c*Y-d*X)) fun j hj=>by rw [if_pos hj]
    have O1:=Own.of_lies (base:=base) LX hds.px hcx hmx hbx
    have O2:=Own.of_lies (base:=base) LY hds.py hcy hmy hby
    have N1:Ng wr (some ⟨gx,0,none⟩) k cx (a*X-b*Y):=⟨HR.out,hcx,LX.rd⟩
    have N2:Ng wr (some ⟨gy,0,none⟩) k cy (c*Y-d*X):=⟨HS.out,hcy,LY.rd⟩
    have HBL:=Lib.hid hds.bel
    have HO1:=Lib.hid O1
    have HO2:=Lib.hid O2
    have HN1:=Lib.hid N1
    have HN2:=Lib.hid N2
    clear hds LX LY O1 O2 N1 N2
    generalize a*X-b*Y=R at *
    generalize c*Y-d*X=S at *
    go_wp2_with (first
     | ((with_reducible refine (trim_any (some ⟨gx,0,none⟩) k cx R _ (by omega) HN1.out).mono ?_);rintro e w1 ⟨kr,hkr,rfl,hnr,rfl⟩)
     | ((with_reducible refine (trim_any (some ⟨gy,0,none⟩) k cy S _ (by omega) HN2.out).mono ?_);rintro e w1 ⟨ks,hks,rfl,hns,rfl⟩))
    go_ret2
    exact ⟨kr,ks,hkr,hks,rfl,⟨HO1.out.take hkr,hnr.lt,hnr.top⟩,⟨HO2.out.take hks,hns.lt,hns.top⟩,HBL.out⟩
end Go.Proofs.YtdbhahiieokplaaGreatDoor
