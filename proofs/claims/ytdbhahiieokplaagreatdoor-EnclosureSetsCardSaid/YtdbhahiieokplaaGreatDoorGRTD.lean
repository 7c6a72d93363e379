import Derived.Test.YtdbhahiieokplaaGreatDoorGRGC
import Derived.Test.YtdbhahiieokplaaGreatDoorGKtD
set_option linter.unusedSimpArgs false
set_option linter.unusedVariables false

namespace Go.Proofs.YtdbhahiieokplaaGreatDoor
open Go.RowKit
attribute [local go_sem ↓] Go.wp_at_zero Go.wp_at_succ

set_option maxHeartbeats 32000000 in
set_option maxRecDepth 100000 in
theorem ratMul_some {p q:Rat} {b1 b2 bn:Bool} {m1 m2 k1 k2 mn:ByteArray} {n:Int} {gg1 gg2 dd:Nat} (hp:Rq p b1 m1 k1) (hq:Rq q b2 m2 k2) (hint:¬(p.den=1∧q.den=1))
  (hg1:gg1=Nat.gcd p.num.natAbs q.den) (hg2:gg2=Nat.gcd q.num.natAbs p.den) (hn:n=p.num / (gg1:Int)*(q.num / (gg2:Int))) (hdd:dd=p.den / gg2*(q.den / gg1)) (hmn:enc n=.agg #[.bool bn,.string mn])
  (s1:m1.size≤10000) (s2:m2.size≤10000) (s3:(mag p.den).size≤10000) (s4:(mag q.den).size≤10000) (w:World) (hE:Env w) :
  Calls Tryz.prog 51 #[.agg #[.bool b1,.string m1,.bool false,.string k1],.agg #[.bool b2,.string m2,.bool false,.string k2]] w (RetB w (.agg #[.bool bn,.string mn,.bool false,.string (dm dd)])):=by
 have z1:gg1≠0:=by rw [hg1];exact fun h=>q.den_nz (Nat.eq_zero_of_gcd_eq_zero_right h)
 have z2:gg2≠0:=by rw [hg2];exact fun h=>p.den_nz (Nat.eq_zero_of_gcd_eq_zero_right h)
 have s5:(mag gg1).size≤10000:=Nat.le_trans (nd_mono (hg1 ▸ Nat.gcd_le_right _ q.den_pos)) s4
 have s6:(mag gg2).size≤10000:=Nat.le_trans (nd_mono (hg2 ▸ Nat.gcd_le_right _ p.den_pos)) s3
 have s7:(mag (p.den / gg2)).size≤10000:=Nat.le_trans (nd_div _ _) s3
 have s8:(mag (q.den / gg1)).size≤10000:=Nat.le_trans (nd_div _ _) s4
 obtain ⟨bx,mx,hx⟩:=enc_form (p.num / (gg1:Int))
 obtain ⟨by',my,hy⟩:=enc_form (q.num / (gg2:Int))
 have s9:mx.size≤20000:=by
  rw [(enc_parts hx).2]
  have d1:(gg1:Int) ∣ p.num:=hg1 ▸ int_gcd_dvd _ _
  rw [Int.natAbs_ediv_of_dvd d1,Int.natAbs_natCast]
  exact Nat.le_trans (nd_div _ _) (by unfold nd;rw [←hp.mag.2];omega)
 have s10:my.size≤20000:=by
  rw [(enc_parts hy).2]
  have d1:(gg2:Int) ∣ q.num:=hg2 ▸ int_gcd_dvd _ _
  rw [Int.natAbs_ediv_of_dvd d1,Int.natAbs_natCast]
  exact Nat.le_trans (nd_div _ _) (by unfold nd;rw [←hq.mag.2];omega)
 have HD1:=Lib.hid (fun V (hV:Env V)=>den_f hp V hV)
 have HD2:=Lib.hid (fun V (hV:Env V)=>den_f hq V hV)
 have HG1:=Lib.hid (fun V (hV:Env V)=>common_f (d:=q.den) hp.num (by rw [←hg1];exact enc_mag gg1) (by omega) (by omega) V hV)
 have HG2:=Lib.hid (fun V (hV:Env V)=>common_f (d:=p.den) hq.num (by rw [←hg2];exact enc_mag gg2) (by omega) (by omega) V hV)
 have HQ1:=Lib.hid (fun V (hV:Env V)=>quotient_f (d:=gg1) hp.num hx rfl (by omega) (by omega) z1 V hV)
 have HQ2:=Lib.hid (fun V (hV:Env V)=>quotient_f (d:=gg2) hq.num hy rfl (by omega) (by omega) z2 V hV)
 have HT1:=Lib.hid (fun V (hV:Env V)=>ratTimes_f hx hy hmn hn (by omega) (by omega) V hV)
 have HQ3:=Lib.hid (fun V (hV:Env V)=>quotient_f (d:=gg2) (enc_mag p.den) (enc_mag (p.den / gg2)) rfl (by omega) (by omega) z2 V hV)
 have HQ4:=Lib.hid (fun V (hV:Env V)=>quotient_f (d:=gg1) (enc_mag q.den) (enc_mag (q.den / gg1)) rfl (by omega) (by omega) z1 V hV)
 have HT2:=Lib.hid (fun V (hV:Env V)=>ratTimes_f (enc_mag (p.den / gg2)) (enc_mag (q.den / gg1)) (enc_mag dd) (by rw [hdd,Int.natCast_mul]) (by omega) (by omega) V hV)
 have HCP:=Lib.hid (fun V (hV:Env V)=>coprime_f bn mn dd V hV)
 have HI:=Lib.hid (And.intro hp (And.intro hq hint))
 have HE:=Lib.hid (fun V (h:Below w.heap.size w V)=>hE.next h)
 have X:=Lib.hid ((((Sb.start w).new #[.bool b1,.string m1,.bool false,.string k1] 25).new #[.bool b2,.string m2,.bool false,.string k2] 25).new #[.bool false,.string ⟨#[]⟩,.bool false,.string ⟨#[]⟩] 25)
 have X:=Lib.hid (X.out.pick [0,1,2] [(w.heap.size,#[.bool b1,.string m1,.bool false,.string k1],25),(w.heap.size+1,#[.bool b2,.string m2,.bool false,.string k2],25),(w.heap.size+1+1,#[.bool false,.string ⟨#[]⟩,.bool false,.string ⟨#[]⟩],25)] [] (by simp) (by decide) (by simp))
 generalize mag p.den=mda at *
 generalize mag q.den=mdb at *
 generalize mag gg1=mg1 at *
 generalize mag gg2=mg2 at *
 generalize mag (p.den / gg2)=mq3 at *
 generalize mag (q.den / gg1)=mq4 at *
 generalize mag dd=mdd at *
 clear hp hq hint hg1 hg2 hn hdd hmn s1 s2 s3 s4 s5 s6 s7 s8 s9 s10 hE z1 z2 hx hy
 go_enter Tryz.func51,Tryz.ntmps51
 go_upto_region 1 with fail
 go_cut [15] (fun s15 wx=>s15=.bool false∧Sb w [(w.heap.size,#[.bool b1,.string m1,.bool false,.string k1],25),(w.heap.size+1,#[.bool b2,.string m2,.bool false,.string k2],25),(w.heap.size+1+1,#[.bool false,.string ⟨#[]⟩,.bool false,.string ⟨#[]⟩],25)] [] wx)
 case first =>
  obtain ⟨hp,hq,hint⟩:=HI.out
  obtain ⟨a0,a1,a2,a3⟩:=X.out.c4 (i:=0) rfl
  obtain ⟨c0,c1,c2,c3⟩:=X.out.c4 (i:=1) rfl
  by_cases hd1:p.den=1
  · have hd2:q.den≠1:=fun h=>hint ⟨hd1,h⟩
    have hk1:=hp.den1 hd1
    have hi1:=fun V=>isInteger_yes b1 m1 V
    rw [←hk1] at hi1
    have HI1:=Lib.hid hi1
    have HI2:=Lib.hid (fun V=>isInteger_no b2 m2 k2 (by rw [hq.den2 hd2];exact mag_no_nil q.den_nz) V)
    clear hd1 hd2 hp hq hint hi1 hk1
    go_wp2_with fail
    refine (HI1.out _).mono ?_
    rintro e w1 ⟨rfl,hb9⟩
    have X:=Lib.hid (X.out.next hb9)
    clear hb9
    clear a0 a1 a2 a3 c0 c1 c2 c3
    obtain ⟨a0,a1,a2,a3⟩:=X.out.c4 (i:=0) rfl
    obtain ⟨c0,c1,c2,c3⟩:=X.out.c4 (i:=1) rfl
    go_wp2_with fail
    refine (HI2.out _).mono ?_
    rintro e w2 ⟨rfl,hb9⟩
    have X:=Lib.hid (X.out.next hb9)
    clear hb9
    clear a0 a1 a2 a3 c0 c1 c2 c3
    go_wp2_with fail
    go_meet
    exact ⟨rfl,X.out⟩
  · have HI1:=Lib.hid (fun V=>isInteger_no b1 m1 k1 (by rw [hp.den2 hd1];exact mag_no_nil p.den_nz) V)
    clear hd1 hp hq hint
    go_wp2_with fail
    refine (HI1.out _).mono ?_
    rintro e w1 ⟨rfl,hb9⟩
    have X:=Lib.hid (X.out.next hb9)
    clear hb9
    clear a0 a1 a2 a3 c0 c1 c2 c3
    go_wp2_with fail
    go_meet
    exact ⟨rfl,X.out⟩
 obtain ⟨rfl,hX⟩:=hcut
 have X:=Lib.hid hX
 clear hX
 go_upto_region 3 with fail
 go_cut [5,6] (fun s5 s6 wx=>∃ g5 g6,s5=.pointer (some ⟨g5,0,none⟩)∧s6=.pointer (some ⟨g6,0,none⟩)∧Sb w [(w.heap.size,#[.bool b1,.string m1,.bool false,.string k1],25),(w.heap.size+1,#[.bool b2,.string m2,.bool false,.string k2],25),(w.heap.size+1+1,#[.bool false,.string ⟨#[]⟩,.bool false,.string ⟨#[]⟩],25),(g5,#[.bool false,.string mda],23),(g6,#[.bool false,.string mdb],23)] [] wx)
 case first =>
  refine wp_region_any (by kernel_rfl) ?_
  have X:=Lib.hid X.out.drew
  obtain ⟨W0,hV⟩:=wexi X.out
  rw [show ∀ v:World,{ v with drawn:=v.drawn+1 }=v.drew from fun _=>rfl,←hV]
  rw [←hV] at X
  clear hV
  refine rg_run (ef:=[.val (.agg #[.bool b1,.string m1,.bool false,.string k1]),.val (.agg #[.bool false,.string mda]),.val (.agg #[.bool b2,.string m2,.bool false,.string k2]),.val (.agg #[.bool false,.string mdb]),.new #[.bool false,.string ⟨#[]⟩] 23,.new #[.bool false,.string ⟨#[]⟩] 23]) (ds:=[22,23,24,25,5,6]) (by kernel_rfl) (stays_none (by simp)) (by decide) rfl (by intro d hd;simp at hd ⊢;omega) (fun i d o hd ho listed a w1 hR hdep K hK=>?_) 2 (fun a w1 hR=>?_)
  · have X:=Lib.hid (X.out.next hR.bel)
    have HKt:=Lib.hid hK
    have HDp:=Lib.hid hdep
    have sl2:a.tmps.getD 2 undef=.pointer (some ⟨w.heap.size,0,none⟩):=hR.keep 2 (by decide)
    have sl3:a.tmps.getD 3 undef=.pointer (some ⟨w.heap.size+1,0,none⟩):=hR.keep 3 (by decide)
    have HRg:=Lib.hid hR
    clear hK hdep hR
    rcases i with _ | _ | _ | _ | _ | _ | i
    · cases hd
      cases ho
      obtain ⟨x00,x01,x02,x03⟩:=X.out.c4 (i:=0) rfl
      obtain ⟨x10,x11,x12,x13⟩:=X.out.c4 (i:=1) rfl
      go_simp
      exact HKt.out _ _ (Or.inl ⟨rfl,Below.refl _ _⟩)
    · cases hd
      cases ho
      have dd0:a.tmps.getD 22 undef=.agg #[.bool b1,.string m1,.bool false,.string k1]:=HRg.out.val 0 _ (HDp.out 0 (by decide)) rfl
      go_simp
      (go_at_call 100;refine (HD1.out _ (HE.out _ X.out.bel)).mono ?_;rintro e u ⟨rfl,hb9⟩)
      try go_wp2_with fail
      exact HKt.out _ _ (Or.inl ⟨rfl,hb9⟩)
    · cases hd
      cases ho
      obtain ⟨x00,x01,x02,x03⟩:=X.out.c4 (i:=0) rfl
      obtain ⟨x10,x11,x12,x13⟩:=X.out.c4 (i:=1) rfl
      go_simp
      exact HKt.out _ _ (Or.inl ⟨rfl,Below.refl _ _⟩)
    · cases hd
      cases ho
      have dd1:a.tmps.getD 23 undef=.agg #[.bool false,.string mda]:=HRg.out.val 1 _ (HDp.out 1 (by decide)) rfl
      have dd2:a.tmps.getD 24 undef=.agg #[.bool b2,.string m2,.bool false,.string k2]:=HRg.out.val 2 _ (HDp.out 2 (by decide)) rfl
      go_simp
      (go_at_call 100;refine (HD2.out _ (HE.out _ X.out.bel)).mono ?_;rintro e u ⟨rfl,hb9⟩)
      try go_wp2_with fail
      exact HKt.out _ _ (Or.inl ⟨rfl,hb9⟩)
    · cases hd
      cases ho
      go_simp
      exact HKt.out _ _ (Or.inr (Or.inl ⟨_,_,rfl,rfl,rfl⟩))
    · cases hd
      cases ho
      go_simp
      exact HKt.out _ _ (Or.inr (Or.inl ⟨_,_,rfl,rfl,rfl⟩))
    · cases hd
  obtain ⟨g4,hg4,lg4,kg4⟩:=hR.new 4 _ _ (by rfl) rfl
  obtain ⟨g5,hg5,lg5,kg5⟩:=hR.new 5 _ _ (by rfl) rfl
  have vv0:a.tmps.getD 22 undef=.agg #[.bool b1,.string m1,.bool false,.string k1]:=hR.val 0 _ (by rfl) rfl
  have vv1:a.tmps.getD 23 undef=.agg #[.bool false,.string mda]:=hR.val 1 _ (by rfl) rfl
  have vv2:a.tmps.getD 24 undef=.agg #[.bool b2,.string m2,.bool false,.string k2]:=hR.val 2 _ (by rfl) rfl
  have vv3:a.tmps.getD 25 undef=.agg #[.bool false,.string mdb]:=hR.val 3 _ (by rfl) rfl
  replace hg4:a.tmps.getD 5 undef=.pointer (some ⟨g4,0,none⟩):=hg4
  replace hg5:a.tmps.getD 6 undef=.pointer (some ⟨g5,0,none⟩):=hg5
  have hne:g4≠g5:=fun e=>hR.ne 4 5 _ _ _ _ g4 (by decide) (by rfl) (by rfl) rfl rfl hg4 (by rw [e];exact hg5)
  have X:=Lib.hid (X.out.add2 hR.bel lg4 kg4 lg5 kg5 hne)
  have ha:=hR.act
  simp only [List.foldl_cons,List.foldl_nil,seti,set0,setS,vv0,vv1,vv2,vv3,hg4,hg5] at ha
  subst ha
  clear hR vv0 vv1 vv2 vv3 hg4 lg4 kg4 hg5 lg5 kg5 hne
  refine wpAny_of_late (S:=fun _=>True) (L:=[]) _ _ _ _ ?_
  refine wpLate_one (i:=6) (o:=⟨none,_,_,_,_,_⟩) (by kernel_rfl) rfl (fun K hK=>?_)
  obtain ⟨x0,x1⟩:=X.out.c2 (i:=3) rfl
  obtain ⟨y0,y1⟩:=X.out.f2 (i:=3) rfl
  have X:=Lib.hid (X.out.set2 (i:=3) rfl (.bool false) (.string mda))
  go_simp
  refine hK.out _ _ (Or.inr fun _=>trivial) ?_
  clear hK K x0 x1 y0 y1
  obtain ⟨W6,hV⟩:=wexi X.out
  rw [←hV] at X ⊢
  clear hV
  try simp only [Act.put]
  refine wpLate_one (i:=7) (o:=⟨none,_,_,_,_,_⟩) (by kernel_rfl) rfl (fun K hK=>?_)
  obtain ⟨x0,x1⟩:=X.out.c2 (i:=4) rfl
  obtain ⟨y0,y1⟩:=X.out.f2 (i:=4) rfl
  have X:=Lib.hid (X.out.set2 (i:=4) rfl (.bool false) (.string mdb))
  go_simp
  refine hK.out _ _ (Or.inr fun _=>trivial) ?_
  clear hK K x0 x1 y0 y1
  obtain ⟨W7,hV⟩:=wexi X.out
  rw [←hV] at X ⊢
  clear hV
  try simp only [Act.put]
  refine wpLate_done (by kernel_rfl) ?_ _
  go_wp2_with fail
  go_meet
  exact ⟨_,_,rfl,rfl,X.out.pick [0,1,2,3,4] _ [] rfl (by decide) (by simp)⟩
 obtain ⟨g5,g6,rfl,rfl,hX⟩:=hcut
 have X:=Lib.hid hX
 clear hX
 go_upto_region 4 with fail
 go_cut [7,8] (fun s7 s8 wx=>∃ g7 g8,s7=.pointer (some ⟨g7,0,none⟩)∧s8=.pointer (some ⟨g8,0,none⟩)∧Sb w [(w.heap.size,#[.bool b1,.string m1,.bool false,.string k1],25),(w.heap.size+1,#[.bool b2,.string m2,.bool false,.string k2],25),(w.heap.size+1+1,#[.bool false,.string ⟨#[]⟩,.bool false,.string ⟨#[]⟩],25),(g5,#[.bool false,.string mda],23),(g6,#[.bool false,.string mdb],23),(g7,#[.bool false,.string mg1],23),(g8,#[.bool false,.string mg2],23)] [] wx)
 case first =>
  refine wp_region_any (by kernel_rfl) ?_
  have X:=Lib.hid X.out.drew
  obtain ⟨W0,hV⟩:=wexi X.out
  rw [show ∀ v:World,{ v with drawn:=v.drawn+1 }=v.drew from fun _=>rfl,←hV]
  rw [←hV] at X
  clear hV
  refine rg_run (ef:=[.val (.pointer (some ⟨w.heap.size,0,none⟩)),.val (.agg #[.bool b1,.string m1]),.val (.agg #[.bool false,.string mdb]),.val (.agg #[.bool false,.string mg1]),.val (.pointer (some ⟨w.heap.size+1,0,none⟩)),.val (.agg #[.bool b2,.string m2]),.val (.agg #[.bool false,.string mda]),.val (.agg #[.bool false,.string mg2]),.new #[.bool false,.string ⟨#[]⟩] 23,.new #[.bool false,.string ⟨#[]⟩] 23]) (ds:=[26,27,28,29,30,31,32,33,7,8]) (by kernel_rfl) (stays_none (by simp)) (by decide) rfl (by intro d hd;simp at hd ⊢;omega) (fun i d o hd ho listed a w1 hR hdep K hK=>?_) 2 (fun a w1 hR=>?_)
  · have X:=Lib.hid (X.out.next hR.bel)
    have HKt:=Lib.hid hK
    have HDp:=Lib.hid hdep
    have sl2:a.tmps.getD 2 undef=.pointer (some ⟨w.heap.size,0,none⟩):=hR.keep 2 (by decide)
    have sl3:a.tmps.getD 3 undef=.pointer (some ⟨w.heap.size+1,0,none⟩):=hR.keep 3 (by decide)
    have sl5:a.tmps.getD 5 undef=.pointer (some ⟨g5,0,none⟩):=hR.keep 5 (by decide)
    have sl6:a.tmps.getD 6 undef=.pointer (some ⟨g6,0,none⟩):=hR.keep 6 (by decide)
    have HRg:=Lib.hid hR
    clear hK hdep hR
    rcases i with _ | _ | _ | _ | _ | _ | _ | _ | _ | _ | i
    · cases hd
      cases ho
      go_simp
      exact HKt.out _ _ (Or.inl ⟨rfl,Below.refl _ _⟩)
    · cases hd
      cases ho
      obtain ⟨x00,x01,x02,x03⟩:=X.out.c4 (i:=0) rfl
      obtain ⟨x10,x11,x12,x13⟩:=X.out.c4 (i:=1) rfl
      obtain ⟨x30,x31⟩:=X.out.c2 (i:=3) rfl
      obtain ⟨x40,x41⟩:=X.out.c2 (i:=4) rfl
      have dd0:a.tmps.getD 26 undef=.pointer (some ⟨w.heap.size,0,none⟩):=HRg.out.val 0 _ (HDp.out 0 (by decide)) rfl
      go_simp
      exact HKt.out _ _ (Or.inl ⟨rfl,Below.refl _ _⟩)
    · cases hd
      cases ho
      obtain ⟨x00,x01,x02,x03⟩:=X.out.c4 (i:=0) rfl
      obtain ⟨x10,x11,x12,x13⟩:=X.out.c4 (i:=1) rfl
      obtain ⟨x30,x31⟩:=X.out.c2 (i:=3) rfl
      obtain ⟨x40,x41⟩:=X.out.c2 (i:=4) rfl
      go_simp
      exact HKt.out _ _ (Or.inl ⟨rfl,Below.refl _ _⟩)
    · cases hd
      cases ho
      have dd1:a.tmps.getD 27 undef=.agg #[.bool b1,.string m1]:=HRg.out.val 1 _ (HDp.out 1 (by decide)) rfl
      have dd2:a.tmps.getD 28 undef=.agg #[.bool false,.string mdb]:=HRg.out.val 2 _ (HDp.out 2 (by decide)) rfl
      go_simp
      (go_at_call 101;refine (HG1.out _ (HE.out _ X.out.bel)).mono ?_;rintro e u ⟨rfl,hb9⟩)
      try go_wp2_with fail
      exact HKt.out _ _ (Or.inl ⟨rfl,hb9⟩)
    · cases hd
      cases ho
      go_simp
      exact HKt.out _ _ (Or.inl ⟨rfl,Below.refl _ _⟩)
    · cases hd
      cases ho
      obtain ⟨x00,x01,x02,x03⟩:=X.out.c4 (i:=0) rfl
      obtain ⟨x10,x11,x12,x13⟩:=X.out.c4 (i:=1) rfl
      obtain ⟨x30,x31⟩:=X.out.c2 (i:=3) rfl
      obtain ⟨x40,x41⟩:=X.out.c2 (i:=4) rfl
      have dd4:a.tmps.getD 30 undef=.pointer (some ⟨w.heap.size+1,0,none⟩):=HRg.out.val 4 _ (HDp.out 4 (by decide)) rfl
      go_simp
      exact HKt.out _ _ (Or.inl ⟨rfl,Below.refl _ _⟩)
    · cases hd
      cases ho
      obtain ⟨x00,x01,x02,x03⟩:=X.out.c4 (i:=0) rfl
      obtain ⟨x10,x11,x12,x13⟩:=X.out.c4 (i:=1) rfl
      obtain ⟨x30,x31⟩:=X.out.c2 (i:=3) rfl
      obtain ⟨x40,x41⟩:=X.out.c2 (i:=4) rfl
      go_simp
      exact HKt.out _ _ (Or.inl ⟨rfl,Below.refl _ _⟩)
    · cases hd
      cases ho
      have dd3:a.tmps.getD 29 undef=.agg #[.bool false,.string mg1]:=HRg.out.val 3 _ (HDp.out 3 (by decide)) rfl
      have dd5:a.tmps.getD 31 undef=.agg #[.bool b2,.string m2]:=HRg.out.val 5 _ (HDp.out 5 (by decide)) rfl
      have dd6:a.tmps.getD 32 undef=.agg #[.bool false,.string mda]:=HRg.out.val 6 _ (HDp.out 6 (by decide)) rfl
      go_simp
      (go_at_call 101;refine (HG2.out _ (HE.out _ X.out.bel)).mono ?_;rintro e u ⟨rfl,hb9⟩)
      try go_wp2_with fail
      exact HKt.out _ _ (Or.inl ⟨rfl,hb9⟩)
    · cases hd
      cases ho
      go_simp
      exact HKt.out _ _ (Or.inr (Or.inl ⟨_,_,rfl,rfl,rfl⟩))
    · cases hd
      cases ho
      go_simp
      exact HKt.out _ _ (Or.inr (Or.inl ⟨_,_,rfl,rfl,rfl⟩))
    · cases hd
  obtain ⟨g8,hg8,lg8,kg8⟩:=hR.new 8 _ _ (by rfl) rfl
  obtain ⟨g9,hg9,lg9,kg9⟩:=hR.new 9 _ _ (by rfl) rfl
  have vv0:a.tmps.getD 26 undef=.pointer (some ⟨w.heap.size,0,none⟩):=hR.val 0 _ (by rfl) rfl
  have vv1:a.tmps.getD 27 undef=.agg #[.bool b1,.string m1]:=hR.val 1 _ (by rfl) rfl
  have vv2:a.tmps.getD 28 undef=.agg #[.bool false,.string mdb]:=hR.val 2 _ (by rfl) rfl
  have vv3:a.tmps.getD 29 undef=.agg #[.bool false,.string mg1]:=hR.val 3 _ (by rfl) rfl
  have vv4:a.tmps.getD 30 undef=.pointer (some ⟨w.heap.size+1,0,none⟩):=hR.val 4 _ (by rfl) rfl
  have vv5:a.tmps.getD 31 undef=.agg #[.bool b2,.string m2]:=hR.val 5 _ (by rfl) rfl
  have vv6:a.tmps.getD 32 undef=.agg #[.bool false,.string mda]:=hR.val 6 _ (by rfl) rfl
  have vv7:a.tmps.getD 33 undef=.agg #[.bool false,.string mg2]:=hR.val 7 _ (by rfl) rfl
  replace hg8:a.tmps.getD 7 undef=.pointer (some ⟨g8,0,none⟩):=hg8
  replace hg9:a.tmps.getD 8 undef=.pointer (some ⟨g9,0,none⟩):=hg9
  have hne:g8≠g9:=fun e=>hR.ne 8 9 _ _ _ _ g8 (by decide) (by rfl) (by rfl) rfl rfl hg8 (by rw [e];exact hg9)
  have X:=Lib.hid (X.out.add2 hR.bel lg8 kg8 lg9 kg9 hne)
  have ha:=hR.act
  simp only [List.foldl_cons,List.foldl_nil,seti,set0,setS,vv0,vv1,vv2,vv3,vv4,vv5,vv6,vv7,hg8,hg9] at ha
  subst ha
  clear hR vv0 vv1 vv2 vv3 vv4 vv5 vv6 vv7 hg8 lg8 kg8 hg9 lg9 kg9 hne
  refine wpAny_of_late (S:=fun _=>True) (L:=[]) _ _ _ _ ?_
  refine wpLate_one (i:=10) (o:=⟨none,_,_,_,_,_⟩) (by kernel_rfl) rfl (fun K hK=>?_)
  obtain ⟨x0,x1⟩:=X.out.c2 (i:=5) rfl
  obtain ⟨y0,y1⟩:=X.out.f2 (i:=5) rfl
  have X:=Lib.hid (X.out.set2 (i:=5) rfl (.bool false) (.string mg1))
  go_simp
  refine hK.out _ _ (Or.inr fun _=>trivial) ?_
  clear hK K x0 x1 y0 y1
  obtain ⟨W10,hV⟩:=wexi X.out
  rw [←hV] at X ⊢
  clear hV
  try simp only [Act.put]
  refine wpLate_one (i:=11) (o:=⟨none,_,_,_,_,_⟩) (by kernel_rfl) rfl (fun K hK=>?_)
  obtain ⟨x0,x1⟩:=X.out.c2 (i:=6) rfl
  obtain ⟨y0,y1⟩:=X.out.f2 (i:=6) rfl
  have X:=Lib.hid (X.out.set2 (i:=6) rfl (.bool false) (.string mg2))
  go_simp
  refine hK.out _ _ (Or.inr fun _=>trivial) ?_
  clear hK K x0 x1 y0 y1
  obtain ⟨W11,hV⟩:=wexi X.out
  rw [←hV] at X ⊢
  clear hV
  try simp only [Act.put]
  refine wpLate_done (by kernel_rfl) ?_ _
  go_wp2_with fail
  go_meet
  exact ⟨_,_,rfl,rfl,X.out.pick [0,1,2,3,4,5,6] _ [] rfl (by decide) (by simp)⟩
 obtain ⟨g7,g8,rfl,rfl,hX⟩:=hcut
 have X:=Lib.hid hX
 clear hX
 go_upto_region 5 with fail
 go_cut [9] (fun s9 wx=>∃ g9,s9=.pointer (some ⟨g9,0,none⟩)∧Sb w [(w.heap.size+1+1,#[.bool false,.string ⟨#[]⟩,.bool false,.string ⟨#[]⟩],25),(g5,#[.bool false,.string mda],23),(g6,#[.bool false,.string mdb],23),(g7,#[.bool false,.string mg1],23),(g8,#[.bool false,.string mg2],23),(g9,#[.bool bn,.string mn],23)] [] wx)
 case first =>
  refine wp_region_any (by kernel_rfl) ?_
  have X:=Lib.hid X.out.drew
  obtain ⟨W0,hV⟩:=wexi X.out
  rw [show ∀ v:World,{ v with drawn:=v.drawn+1 }=v.drew from fun _=>rfl,←hV]
  rw [←hV] at X
  clear hV
  refine rg_run (ef:=[.val (.pointer (some ⟨w.heap.size,0,none⟩)),.val (.agg #[.bool b1,.string m1]),.val (.agg #[.bool false,.string mg1]),.val (.agg #[.bool bx,.string mx]),.val (.pointer (some ⟨w.heap.size+1,0,none⟩)),.val (.agg #[.bool b2,.string m2]),.val (.agg #[.bool false,.string mg2]),.val (.agg #[.bool by',.string my]),.val (.agg #[.bool bn,.string mn]),.new #[.bool false,.string ⟨#[]⟩] 23]) (ds:=[34,35,36,37,38,39,40,41,42,9]) (by kernel_rfl) (stays_none (by simp)) (by decide) rfl (by intro d hd;simp at hd ⊢;omega) (fun i d o hd ho listed a w1 hR hdep K hK=>?_) 1 (fun a w1 hR=>?_)
  · have X:=Lib.hid (X.out.next hR.bel)
    have HKt:=Lib.hid hK
    have HDp:=Lib.hid hdep
    have sl2:a.tmps.getD 2 undef=.pointer (some ⟨w.heap.size,0,none⟩):=hR.keep 2 (by decide)
    have sl3:a.tmps.getD 3 undef=.pointer (some ⟨w.heap.size+1,0,none⟩):=hR.keep 3 (by decide)
    have sl7:a.tmps.getD 7 undef=.pointer (some ⟨g7,0,none⟩):=hR.keep 7 (by decide)
    have sl8:a.tmps.getD 8 undef=.pointer (some ⟨g8,0,none⟩):=hR.keep 8 (by decide)
    have HRg:=Lib.hid hR
    clear hK hdep hR
    rcases i with _ | _ | _ | _ | _ | _ | _ | _ | _ | _ | i
    · cases hd
      cases ho
      go_simp
      exact HKt.out _ _ (Or.inl ⟨rfl,Below.refl _ _⟩)
    · cases hd
      cases ho
      obtain ⟨x00,x01,x02,x03⟩:=X.out.c4 (i:=0) rfl
      obtain ⟨x10,x11,x12,x13⟩:=X.out.c4 (i:=1) rfl
      obtain ⟨x50,x51⟩:=X.out.c2 (i:=5) rfl
      obtain ⟨x60,x61⟩:=X.out.c2 (i:=6) rfl
      have dd0:a.tmps.getD 34 undef=.pointer (some ⟨w.heap.size,0,none⟩):=HRg.out.val 0 _ (HDp.out 0 (by decide)) rfl
      go_simp
      exact HKt.out _ _ (Or.inl ⟨rfl,Below.refl _ _⟩)
    · cases hd
      cases ho
      obtain ⟨x00,x01,x02,x03⟩:=X.out.c4 (i:=0) rfl
      obtain ⟨x10,x11,x12,x13⟩:=X.out.c4 (i:=1) rfl
      obtain ⟨x50,x51⟩:=X.out.c2 (i:=5) rfl
      obtain ⟨x60,x61⟩:=X.out.c2 (i:=6) rfl
      go_simp
      exact HKt.out _ _ (Or.inl ⟨rfl,Below.refl _ _⟩)
    · cases hd
      cases ho
      have dd1:a.tmps.getD 35 undef=.agg #[.bool b1,.string m1]:=HRg.out.val 1 _ (HDp.out 1 (by decide)) rfl
      have dd2:a.tmps.getD 36 undef=.agg #[.bool false,.string mg1]:=HRg.out.val 2 _ (HDp.out 2 (by decide)) rfl
      go_simp
      (go_at_call 103;refine (HQ1.out _ (HE.out _ X.out.bel)).mono ?_;rintro e u ⟨rfl,hb9⟩)
      try go_wp2_with fail
      exact HKt.out _ _ (Or.inl ⟨rfl,hb9⟩)
    · cases hd
      cases ho
      go_simp
      exact HKt.out _ _ (Or.inl ⟨rfl,Below.refl _ _⟩)
    · cases hd
      cases ho
      obtain ⟨x00,x01,x02,x03⟩:=X.out.c4 (i:=0) rfl
      obtain ⟨x10,x11,x12,x13⟩:=X.out.c4 (i:=1) rfl
      obtain ⟨x50,x51⟩:=X.out.c2 (i:=5) rfl
      obtain ⟨x60,x61⟩:=X.out.c2 (i:=6) rfl
      have dd4:a.tmps.getD 38 undef=.pointer (some ⟨w.heap.size+1,0,none⟩):=HRg.out.val 4 _ (HDp.out 4 (by decide)) rfl
      go_simp
      exact HKt.out _ _ (Or.inl ⟨rfl,Below.refl _ _⟩)
    · cases hd
      cases ho
      obtain ⟨x00,x01,x02,x03⟩:=X.out.c4 (i:=0) rfl
      obtain ⟨x10,x11,x12,x13⟩:=X.out.c4 (i:=1) rfl
      obtain ⟨x50,x51⟩:=X.out.c2 (i:=5) rfl
      obtain ⟨x60,x61⟩:=X.out.c2 (i:=6) rfl
      go_simp
      exact HKt.out _ _ (Or.inl ⟨rfl,Below.refl _ _⟩)
    · cases hd
      cases ho
      have dd3:a.tmps.getD 37 undef=.agg #[.bool bx,.string mx]:=HRg.out.val 3 _ (HDp.out 3 (by decide)) rfl
      have dd5:a.tmps.getD 39 undef=.agg #[.bool b2,.string m2]:=HRg.out.val 5 _ (HDp.out 5 (by decide)) rfl
      have dd6:a.tmps.getD 40 undef=.agg #[.bool false,.string mg2]:=HRg.out.val 6 _ (HDp.out 6 (by decide)) rfl
      go_simp
      (go_at_call 103;refine (HQ2.out _ (HE.out _ X.out.bel)).mono ?_;rintro e u ⟨rfl,hb9⟩)
      try go_wp2_with fail
      exact HKt.out _ _ (Or.inl ⟨rfl,hb9⟩)
    · cases hd
      cases ho
      have dd3:a.tmps.getD 37 undef=.agg #[.bool bx,.string mx]:=HRg.out.val 3 _ (HDp.out 3 (by decide)) rfl
      have dd7:a.tmps.getD 41 undef=.agg #[.bool by',.string my]:=HRg.out.val 7 _ (HDp.out 7 (by decide)) rfl
      go_simp
      (go_at_call 102;refine (HT1.out _ (HE.out _ X.out.bel)).mono ?_;rintro e u ⟨rfl,hb9⟩)
      try go_wp2_with fail
      exact HKt.out _ _ (Or.inl ⟨rfl,hb9⟩)
    · cases hd
      cases ho
      go_simp
      exact HKt.out _ _ (Or.inr (Or.inl ⟨_,_,rfl,rfl,rfl⟩))
    · cases hd
  obtain ⟨g9,hg9,lg9,kg9⟩:=hR.new 9 _ _ (by rfl) rfl
  have vv0:a.tmps.getD 34 undef=.pointer (some ⟨w.heap.size,0,none⟩):=hR.val 0 _ (by rfl) rfl
  have vv1:a.tmps.getD 35 undef=.agg #[.bool b1,.string m1]:=hR.val 1 _ (by rfl) rfl
  have vv2:a.tmps.getD 36 undef=.agg #[.bool false,.string mg1]:=hR.val 2 _ (by rfl) rfl
  have vv3:a.tmps.getD 37 undef=.agg #[.bool bx,.string mx]:=hR.val 3 _ (by rfl) rfl
  have vv4:a.tmps.getD 38 undef=.pointer (some ⟨w.heap.size+1,0,none⟩):=hR.val 4 _ (by rfl) rfl
  have vv5:a.tmps.getD 39 undef=.agg #[.bool b2,.string m2]:=hR.val 5 _ (by rfl) rfl
  have vv6:a.tmps.getD 40 undef=.agg #[.bool false,.string mg2]:=hR.val 6 _ (by rfl) rfl
  have vv7:a.tmps.getD 41 undef=.agg #[.bool by',.string my]:=hR.val 7 _ (by rfl) rfl
  have vv8:a.tmps.getD 42 undef=.agg #[.bool bn,.string mn]:=hR.val 8 _ (by rfl) rfl
  replace hg9:a.tmps.getD 9 undef=.pointer (some ⟨g9,0,none⟩):=hg9
  have X:=Lib.hid (X.out.add hR.bel lg9 kg9)
  have ha:=hR.act
  simp only [List.foldl_cons,List.foldl_nil,seti,set0,setS,vv0,vv1,vv2,vv3,vv4,vv5,vv6,vv7,vv8,hg9] at ha
  subst ha
  clear hR vv0 vv1 vv2 vv3 vv4 vv5 vv6 vv7 vv8 hg9 lg9 kg9
  refine wpAny_of_late (S:=fun _=>True) (L:=[]) _ _ _ _ ?_
  refine wpLate_one (i:=10) (o:=⟨none,_,_,_,_,_⟩) (by kernel_rfl) rfl (fun K hK=>?_)
  obtain ⟨x0,x1⟩:=X.out.c2 (i:=7) rfl
  obtain ⟨y0,y1⟩:=X.out.f2 (i:=7) rfl
  have X:=Lib.hid (X.out.set2 (i:=7) rfl (.bool bn) (.string mn))
  go_simp
  refine hK.out _ _ (Or.inr fun _=>trivial) ?_
  clear hK K x0 x1 y0 y1
  obtain ⟨W10,hV⟩:=wexi X.out
  rw [←hV] at X ⊢
  clear hV
  try simp only [Act.put]
  refine wpLate_done (by kernel_rfl) ?_ _
  go_wp2_with fail
  go_meet
  exact ⟨_,rfl,X.out.pick [2,3,4,5,6,7] _ [] rfl (by decide) (by simp)⟩
 obtain ⟨g9,rfl,hX⟩:=hcut
 have X:=Lib.hid hX
 clear hX
 go_upto_region 6 with fail
 as_aux_lemma =>
  refine wp_region_late (S:=fun w'=>(w'.cell? ⟨g9,0,none⟩=some (.bool bn)∧w'.cell? ⟨g9,1,none⟩=some (.string mn))∧(w'.cell? ⟨g5,0,none⟩=some (.bool false)∧w'.cell? ⟨g5,1,none⟩=some (.string mda))∧(w'.cell? ⟨g6,0,none⟩=some (.bool false)∧w'.cell? ⟨g6,1,none⟩=some (.string mdb))∧(w'.cell? ⟨g7,0,none⟩=some (.bool false)∧w'.cell? ⟨g7,1,none⟩=some (.string mg1))∧(w'.cell? ⟨g8,0,none⟩=some (.bool false)∧w'.cell? ⟨g8,1,none⟩=some (.string mg2))) (L:=[]) (by kernel_rfl) ?_
  have X:=Lib.hid X.out.drew
  obtain ⟨V0,hV⟩:=wexi X.out
  rw [←hV] at X ⊢
  clear hV
  refine tk (i:=0) (oi:=⟨some 43,_,_,_,_,_⟩) (v:=_) rfl (by kernel_rfl) (fun _ _ _ h=>h) (⟨X.out.c2 (i:=5) rfl,X.out.c2 (i:=1) rfl,X.out.c2 (i:=2) rfl,X.out.c2 (i:=3) rfl,X.out.c2 (i:=4) rfl⟩) (Or.inl ⟨by rfl,by intro w hSw;(try dsimp only at hSw);(first | (go_simp;done) | (go_simp;with_reducible rfl))⟩) ?_
  try simp only [Act.put,seti,set0,setS]
  refine tk (i:=1) (oi:=⟨some 44,_,_,_,_,_⟩) (v:=_) rfl (by kernel_rfl) (fun _ _ _ h=>h) (⟨X.out.c2 (i:=5) rfl,X.out.c2 (i:=1) rfl,X.out.c2 (i:=2) rfl,X.out.c2 (i:=3) rfl,X.out.c2 (i:=4) rfl⟩) (Or.inl ⟨by rfl,by intro w hSw;(try dsimp only at hSw);(first | (go_simp;done) | (go_simp;with_reducible rfl))⟩) ?_
  try simp only [Act.put,seti,set0,setS]
  refine tk (i:=2) (oi:=⟨some 45,_,_,_,_,_⟩) (v:=_) rfl (by kernel_rfl) (fun _ _ _ h=>h) (⟨X.out.c2 (i:=5) rfl,X.out.c2 (i:=1) rfl,X.out.c2 (i:=2) rfl,X.out.c2 (i:=3) rfl,X.out.c2 (i:=4) rfl⟩) (Or.inl ⟨by rfl,by intro w hSw;(try dsimp only at hSw);(first | (go_simp;done) | (go_simp;with_reducible rfl))⟩) ?_
  try simp only [Act.put,seti,set0,setS]
  refine tk (i:=4) (oi:=⟨some 47,_,_,_,_,_⟩) (v:=_) rfl (by kernel_rfl) (fun _ _ _ h=>h) (⟨X.out.c2 (i:=5) rfl,X.out.c2 (i:=1) rfl,X.out.c2 (i:=2) rfl,X.out.c2 (i:=3) rfl,X.out.c2 (i:=4) rfl⟩) (Or.inl ⟨by rfl,by intro w hSw;(try dsimp only at hSw);(first | (go_simp;done) | (go_simp;with_reducible rfl))⟩) ?_
  try simp only [Act.put,seti,set0,setS]
  refine tk (i:=5) (oi:=⟨some 48,_,_,_,_,_⟩) (v:=_) rfl (by kernel_rfl) (fun _ _ _ h=>h) (⟨X.out.c2 (i:=5) rfl,X.out.c2 (i:=1) rfl,X.out.c2 (i:=2) rfl,X.out.c2 (i:=3) rfl,X.out.c2 (i:=4) rfl⟩) (Or.inl ⟨by rfl,by intro w hSw;(try dsimp only at hSw);(first | (go_simp;done) | (go_simp;with_reducible rfl))⟩) ?_
  try simp only [Act.put,seti,set0,setS]
  refine wpLate_one (i:=3) (o:=⟨some 46,_,_,_,_,_⟩) (by kernel_rfl) rfl (fun K hK=>?_)
  go_simp
  (go_at_call 103;refine (HQ3.out _ (HE.out _ X.out.bel)).mono ?_;rintro e u1 ⟨rfl,hb9⟩;have X:=Lib.hid (X.out.next hb9);clear hb9)
  try go_wp2_with fail
  refine hK.out _ _ (Or.inr (fun _=>⟨X.out.c2 (i:=5) rfl,X.out.c2 (i:=1) rfl,X.out.c2 (i:=2) rfl,X.out.c2 (i:=3) rfl,X.out.c2 (i:=4) rfl⟩)) ?_
  clear hK K
  try simp only [Act.put,seti,set0,setS]
  refine wpLate_one (i:=6) (o:=⟨some 49,_,_,_,_,_⟩) (by kernel_rfl) rfl (fun K hK=>?_)
  go_simp
  (go_at_call 103;refine (HQ4.out _ (HE.out _ X.out.bel)).mono ?_;rintro e u2 ⟨rfl,hb9⟩;have X:=Lib.hid (X.out.next hb9);clear hb9)
  try go_wp2_with fail
  refine hK.out _ _ (Or.inr (fun _=>⟨X.out.c2 (i:=5) rfl,X.out.c2 (i:=1) rfl,X.out.c2 (i:=2) rfl,X.out.c2 (i:=3) rfl,X.out.c2 (i:=4) rfl⟩)) ?_
  clear hK K
  try simp only [Act.put,seti,set0,setS]
  refine wpLate_one (i:=7) (o:=⟨some 50,_,_,_,_,_⟩) (by kernel_rfl) rfl (fun K hK=>?_)
  go_simp
  (go_at_call 102;refine (HT2.out _ (HE.out _ X.out.bel)).mono ?_;rintro e u3 ⟨rfl,hb9⟩;have X:=Lib.hid (X.out.next hb9);clear hb9)
  try go_wp2_with fail
  refine hK.out _ _ (Or.inr (fun _=>⟨X.out.c2 (i:=5) rfl,X.out.c2 (i:=1) rfl,X.out.c2 (i:=2) rfl,X.out.c2 (i:=3) rfl,X.out.c2 (i:=4) rfl⟩)) ?_
  clear hK K
  try simp only [Act.put,seti,set0,setS]
  refine wpLate_one (i:=8) (o:=⟨some 51,_,_,_,_,_⟩) (by kernel_rfl) rfl (fun K hK=>?_)
  go_simp
  (go_at_call 104;refine (HCP.out _ (HE.out _ X.out.bel)).mono ?_;rintro e u4 ⟨rfl,hb9⟩;have X:=Lib.hid (X.out.next hb9);clear hb9)
  try go_wp2_with fail
  refine hK.out _ _ (Or.inr (fun _=>⟨X.out.c2 (i:=5) rfl,X.out.c2 (i:=1) rfl,X.out.c2 (i:=2) rfl,X.out.c2 (i:=3) rfl,X.out.c2 (i:=4) rfl⟩)) ?_
  clear hK K
  try simp only [Act.put,seti,set0,setS]
  refine wpLate_one (i:=9) (o:=⟨none,_,_,_,_,_⟩) (by kernel_rfl) rfl (fun K hK=>?_)
  obtain ⟨x0,x1,x2,x3⟩:=X.out.c4 (i:=0) rfl
  obtain ⟨y0,y1,y2,y3⟩:=X.out.f4 (i:=0) rfl
  have X:=Lib.hid (X.out.set4 (i:=0) rfl (.bool bn) (.string mn) (.bool false) (.string (dm dd)))
  go_simp
  refine hK.out _ _ (Or.inr (fun _=>⟨X.out.c2 (i:=5) rfl,X.out.c2 (i:=1) rfl,X.out.c2 (i:=2) rfl,X.out.c2 (i:=3) rfl,X.out.c2 (i:=4) rfl⟩)) ?_
  clear hK K x0 x1 x2 x3 y0 y1 y2 y3
  try simp only [Act.put,seti,set0,setS]
  obtain ⟨W5,hV⟩:=wexi X.out
  rw [←hV] at X ⊢
  clear hV
  refine wpLate_done (by kernel_rfl) ?_ _
  go_wp2
  obtain ⟨p0,p1,p2,p3⟩:=X.out.c4 (i:=0) rfl
  exact bodyPost_ret (v:=.agg #[.bool bn,.string mn,.bool false,.string (dm dd)]) (by simp [results,Tryz.results51,go_sem,p0,p1,p2,p3]) rfl ⟨rfl,X.out.bel⟩

set_option maxHeartbeats 4000000 in
set_option maxRecDepth 100000 in
theorem ratMul_int {b1 b2 b3:Bool} {m1 m2 m3:ByteArray} (hop:∀ V,Calls Tryz.prog 99 #[.agg #[.bool b1,.string m1],.agg #[.bool b2,.string m2]] V (RetB V (.agg #[.bool b3,.string m3]))) (w:World) :
  Calls Tryz.prog 51 #[.agg #[.bool b1,.string m1,.bool false,.string ⟨#[]⟩],.agg #[.bool b2,.string m2,.bool false,.string ⟨#[]⟩]] w (RetB w (.agg #[.bool b3,.string m3,.bool false,.string ⟨#[]⟩])):=by
 have HO:=Lib.hid hop
 have KK:=Lib.hid (Kc.start w #[.bool b1,.string m1,.bool false,.string ⟨#[]⟩] #[.bool b2,.string m2,.bool false,.string ⟨#[]⟩] #[.bool false,.string ⟨#[]⟩,.bool false,.string ⟨#[]⟩] 25 25 25)
 have HI1:=Lib.hid (fun V=>isInteger_yes b1 m1 V)
 have HI2:=Lib.hid (fun V=>isInteger_yes b2 m2 V)
 clear hop
 obtain ⟨p0,p1,p2,p3⟩:=blk4 KK.out.k1
 obtain ⟨q0,q1,q2,q3⟩:=blk4 KK.out.k2
 go_enter Tryz.func51,Tryz.ntmps51
 go_wp2_with fail
 refine (HI1.out _).mono ?_
 rintro e w1 ⟨rfl,hb1⟩
 have KK:=Lib.hid (KK.out.next hb1)
 clear hb1 p0 p1 p2 p3 q0 q1 q2 q3
 obtain ⟨p0,p1,p2,p3⟩:=blk4 KK.out.k1
 obtain ⟨q0,q1,q2,q3⟩:=blk4 KK.out.k2
 go_wp2_with fail
 refine (HI2.out _).mono ?_
 rintro e w2 ⟨rfl,hb2⟩
 have KK:=Lib.hid (KK.out.next hb2)
 clear hb2 p0 p1 p2 p3 q0 q1 q2 q3
 obtain ⟨p0,p1,p2,p3⟩:=blk4 KK.out.k1
 obtain ⟨q0,q1,q2,q3⟩:=blk4 KK.out.k2
 go_wp2_with fail
 refine (HO.out _).mono ?_
 rintro e w3 ⟨rfl,hb3⟩
 have K1:=Lib.hid (KK.out.next hb3)
 obtain ⟨t0,t1,t2,t3⟩:=blk4 K1.out.k3
 obtain ⟨f0,f1,f2,f3⟩:=fro4 K1.out.k3
 clear hb3
 go_wp2
 exact bodyPost_ret (v:=.agg #[.bool b3,.string m3,.bool false,.string ⟨#[]⟩]) (by simp [results,Tryz.results51,go_sem,t0,t1,t2,t3]) rfl ⟨rfl,below_set4 K1.out.bel (by omega) _ _ _ _⟩

theorem ratMul_f {p q:Rat} {b1 b2 b3:Bool} {m1 m2 m3 k1 k2 k3:ByteArray} (hp:Rq p b1 m1 k1) (hq:Rq q b2 m2 k2) (hr:Rq (p*q) b3 m3 k3) (s1:m1.size≤10000) (s2:m2.size≤10000) (s3:(mag p.den).size≤10000) (s4:(mag q.den).size≤10000) (w:World) (hE:Env w) :
  Calls Tryz.prog 51 #[.agg #[.bool b1,.string m1,.bool false,.string k1],.agg #[.bool b2,.string m2,.bool false,.string k2]] w (RetB w (.agg #[.bool b3,.string m3,.bool false,.string k3])):=by
 by_cases hint:p.den=1∧q.den=1
 · obtain ⟨h1,h2⟩:=hint
   have hz:p*q=((p.num*q.num:Int):Rat):=by
    rw [int_of_den h1,int_of_den h2]
    simp only [Rat.num_intCast]
    exact (Rat.intCast_mul _ _).symm
   rw [hz] at hr
   obtain rfl:=hp.den1 h1
   obtain rfl:=hq.den1 h2
   obtain rfl:=hr.den1 (Rat.den_intCast _)
   have hn:=hr.num
   rw [Rat.num_intCast] at hn
   exact ratMul_int (fun V=>mul_f hp.num hq.num (by omega) (by omega) hn rfl V) w
 · obtain ⟨e1,e2⟩:=mul_parts p q (g1:=Nat.gcd p.num.natAbs q.den) (g2:=Nat.gcd q.num.natAbs p.den) rfl rfl
   have hmn:=hr.num
   rw [e1] at hmn
   have hk3:=hr.den
   rw [e2] at hk3
   rw [hk3]
   exact ratMul_some hp hq hint rfl rfl rfl rfl hmn s1 s2 s3 s4 w hE
end Go.Proofs.YtdbhahiieokplaaGreatDoor
