import Derived.Test.YtdbhahiieokplaaGreatDoorGRGC
import Derived.Test.YtdbhahiieokplaaGreatDoorGRHJ
import Derived.Test.YtdbhahiieokplaaGreatDoorGRGB
import Derived.Test.YtdbhahiieokplaaGreatDoorGKtD
set_option linter.unusedSimpArgs false
set_option linter.unusedVariables false

namespace Go.Proofs.YtdbhahiieokplaaGreatDoor
open Go.RowKit
attribute [local go_sem ↓] Go.wp_at_zero Go.wp_at_succ

set_option maxHeartbeats 32000000 in
set_option maxRecDepth 100000 in
theorem ratCombine_any (OP:FuncId) (hEn:∀ (args:Array Value) (W:World),(callFunc OP args).run Tryz.prog W=.ok (.enter OP args) W) {p q:Rat} {b1 b2 bg bt bn:Bool} {m1 m2 k1 k2 mg mt mn:ByteArray} {t n:Int} {g qa sb' db dd:Nat} (hp:Rq p b1 m1 k1) (hq:Rq q b2 m2 k2) (hint:¬(p.den=1∧q.den=1))
  (hg:g=Nat.gcd p.den q.den) (hqa:qa=p.den / g) (hsb:sb'=q.den / g) (hmg:enc (g:Int)=.agg #[.bool bg,.string mg]) (hmt:enc t=.agg #[.bool bt,.string mt])
  (hOP:∀ (x y:Int) (c1 c2:Bool) (s1 s2:ByteArray),x=p.num*sb'→y=q.num*qa→enc x=.agg #[.bool c1,.string s1]→enc y=.agg #[.bool c2,.string s2]→∀ V,Calls Tryz.prog OP #[.agg #[.bool c1,.string s1],.agg #[.bool c2,.string s2]] V (RetB V (.agg #[.bool bt,.string mt])))
  (hn:n=t / (Nat.gcd t.natAbs g:Nat)) (hdb:db=q.den / Nat.gcd t.natAbs g) (hdd:dd=qa*db) (hmn:enc n=.agg #[.bool bn,.string mn])
  (s1:m1.size≤10000) (s2:m2.size≤10000) (s3:(mag p.den).size≤10000) (s4:(mag q.den).size≤10000) (s5:mt.size≤50000) (w:World) (hE:Env w) :
  Calls Tryz.prog 126 #[.agg #[.bool b1,.string m1,.bool false,.string k1],.agg #[.bool b2,.string m2,.bool false,.string k2],.func (.func OP) #[] #[]] w (RetB w (.agg #[.bool bn,.string mn,.bool false,.string (dm dd)])):=by
 have g0:g≠0:=by rw [hg];exact fun h=>p.den_nz (Nat.eq_zero_of_gcd_eq_zero_left h)
 have hgs:(mag g).size≤10000:=Nat.le_trans (nd_mono (hg ▸ Nat.gcd_le_left _ p.den_pos)) s3
 have hqs:(mag qa).size≤10000:=Nat.le_trans (hqa ▸ nd_div _ _) s3
 have hss:(mag sb').size≤10000:=Nat.le_trans (hsb ▸ nd_div _ _) s4
 have hds:(mag db).size≤10000:=Nat.le_trans (hdb ▸ nd_div _ _) s4
 have hmg2:bg=false∧mg=mag g:=by have h:=enc_parts hmg;exact ⟨by rw [h.1];exact decide_eq_false (by omega),by rw [h.2,Int.natAbs_natCast]⟩
 obtain ⟨rfl,rfl⟩:=hmg2
 obtain ⟨cx,sx,hx⟩:=enc_form (p.num*(sb':Int))
 obtain ⟨cy,sy,hy⟩:=enc_form (q.num*(qa:Int))
 have hv0:Nat.gcd t.natAbs g≠0:=fun h=>g0 (Nat.eq_zero_of_gcd_eq_zero_right h)
 have hvs:(mag (Nat.gcd t.natAbs g)).size≤10000:=Nat.le_trans (nd_mono (Nat.gcd_le_right _ (by omega))) hgs
 have HD1:=Lib.hid (fun V (hV:Env V)=>den_f hp V hV)
 have HD2:=Lib.hid (fun V (hV:Env V)=>den_f hq V hV)
 have HCM:=Lib.hid (fun V (hV:Env V)=>common_f (d:=q.den) (enc_mag p.den) (by rw [Int.natAbs_natCast,←hg];exact hmg) (by omega) (by omega) V hV)
 have HQ1:=Lib.hid (fun V (hV:Env V)=>quotient_f (d:=g) (enc_mag p.den) (enc_mag qa) (by rw [hqa];rfl) (by omega) (by omega) g0 V hV)
 have HQ2:=Lib.hid (fun V (hV:Env V)=>quotient_f (d:=g) (enc_mag q.den) (enc_mag sb') (by rw [hsb];rfl) (by omega) (by omega) g0 V hV)
 have HT1:=Lib.hid (fun V (hV:Env V)=>ratTimes_f hp.num (enc_mag sb') hx rfl (by omega) (by omega) V hV)
 have HT2:=Lib.hid (fun V (hV:Env V)=>ratTimes_f hq.num (enc_mag qa) hy rfl (by omega) (by omega) V hV)
 have HOP:=Lib.hid (hOP _ _ cx cy sx sy rfl rfl hx hy)
 have HGC:=Lib.hid (fun V (hV:Env V)=>gcd_f hmt (enc_mag g) (bg:=false) (mg:=mag (Nat.gcd t.natAbs g)) (by rw [Int.natAbs_natCast];exact enc_mag _) (by omega) (by omega) V hV.tab)
 have HQ3:=Lib.hid (fun V (hV:Env V)=>quotient_f (d:=Nat.gcd t.natAbs g) hmt hmn hn (by omega) (by omega) hv0 V hV)
 have HQ4:=Lib.hid (fun V (hV:Env V)=>quotient_f (d:=Nat.gcd t.natAbs g) (enc_mag q.den) (enc_mag db) (by rw [hdb];rfl) (by omega) (by omega) hv0 V hV)
 have HT3:=Lib.hid (fun V (hV:Env V)=>ratTimes_f (enc_mag qa) (enc_mag db) (enc_mag dd) (by rw [hdd,Int.natCast_mul]) (by omega) (by omega) V hV)
 have HCP:=Lib.hid (fun V (hV:Env V)=>coprime_f bn mn dd V hV)
 have hone:(g=1∧bn=bt∧mn=mt∧db=q.den)∨(g≠1∧¬(mag g).toList=[1]∧¬[1]=(mag g).toList):=by
  by_cases h:g=1
  · left
    rw [h,Nat.gcd_one_right] at hn hdb
    have h1:n=t:=by rw [hn];simp
    rw [h1,hmt] at hmn
    injection hmn with hmn
    have h2:bt=bn∧mt=mn:=by simpa using hmn
    exact ⟨h,h2.1.symm,h2.2.symm,by rw [hdb,Nat.div_one]⟩
  · right
    have h4:=toList_ne (l:=[1]) (mag_no_one h)
    exact ⟨h,h4,fun e=>h4 e.symm⟩
 have HG:=Lib.hid hone
 have HI:=Lib.hid (And.intro hp (And.intro hq hint))
 have HE:=Lib.hid (fun V (h:Below w.heap.size w V)=>hE.next h)
 have X:=Lib.hid ((((Sb.start w).new #[.bool b1,.string m1,.bool false,.string k1] 25).new #[.bool b2,.string m2,.bool false,.string k2] 25).new #[.bool false,.string ⟨#[]⟩,.bool false,.string ⟨#[]⟩] 25)
 have X:=Lib.hid (X.out.pick [0,1,2] [(w.heap.size,#[.bool b1,.string m1,.bool false,.string k1],25),(w.heap.size+1,#[.bool b2,.string m2,.bool false,.string k2],25),(w.heap.size+1+1,#[.bool false,.string ⟨#[]⟩,.bool false,.string ⟨#[]⟩],25)] [] (by simp) (by decide) (by simp))
 generalize hmda:mag p.den=mda at *
 generalize hmdb:mag q.den=mdb at *
 generalize hmq:mag qa=mq at *
 generalize hms:mag sb'=ms at *
 generalize hmd2:mag db=md2 at *
 generalize mag dd=mdd at *
 generalize hmv:mag (Nat.gcd t.natAbs g)=mv at *
 have HM:=Lib.hid (And.intro hmdb hmd2)
 clear hp hq hint hg hqa hsb hmt hOP hn hdb hdd hmn s1 s2 s3 s4 s5 hE hgs hqs hss hds hx hy hv0 hvs hone hmda hmdb hmq hms hmd2 hmv
 generalize hmgg:mag g=mg at *
 have HMG:=Lib.hid hmgg
 clear hmgg hmg g0
 go_enter Tryz.func126,Tryz.ntmps126
 go_upto_region 1 with fail
 go_cut [19] (fun s19 wx=>s19=.bool false∧Sb w [(w.heap.size,#[.bool b1,.string m1,.bool false,.string k1],25),(w.heap.size+1,#[.bool b2,.string m2,.bool false,.string k2],25),(w.heap.size+1+1,#[.bool false,.string ⟨#[]⟩,.bool false,.string ⟨#[]⟩],25)] [] wx)
 case first =>
  obtain ⟨hp,hq,hint⟩:=HI.out
  obtain ⟨a0,a1,a2,a3⟩:=X.out.c4 (i:=0) rfl
  obtain ⟨c0,c1,c2,c3⟩:=X.out.c4 (i:=1) rfl
  by_cases hd1:p.den=1
  · have hd2:q.den≠1:=fun h=>hint ⟨hd1,h⟩
    have hk1:=hp.den1 hd1
    have hi1:=fun V=>isInteger_yes b1 m1 V
    rw [←hk1] at hi1
    have HI1:=Lib.hid hi1
    have HI2:=Lib.hid (fun V=>isInteger_no b2 m2 k2 (by rw [hq.den2 hd2];exact mag_no_nil q.den_nz) V)
    clear hd1 hd2 hp hq hint hi1 hk1
    go_wp2_with fail
    refine (HI1.out _).mono ?_
    rintro e w1 ⟨rfl,hb9⟩
    have X:=Lib.hid (X.out.next hb9)
    clear hb9
    clear a0 a1 a2 a3 c0 c1 c2 c3
    obtain ⟨a0,a1,a2,a3⟩:=X.out.c4 (i:=0) rfl
    obtain ⟨c0,c1,c2,c3⟩:=X.out.c4 (i:=1) rfl
    go_wp2_with fail
    refine (HI2.out _).mono ?_
    rintro e w2 ⟨rfl,hb9⟩
    have X:=Lib.hid (X.out.next hb9)
    clear hb9
    clear a0 a1 a2 a3 c0 c1 c2 c3
    go_wp2_with fail
    go_meet
    exact ⟨rfl,X.out⟩
  · have HI1:=Lib.hid (fun V=>isInteger_no b1 m1 k1 (by rw [hp.den2 hd1];exact mag_no_nil p.den_nz) V)
    clear hd1 hp hq hint
    go_wp2_with fail
    refine (HI1.out _).mono ?_
    rintro e w1 ⟨rfl,hb9⟩
    have X:=Lib.hid (X.out.next hb9)
    clear hb9
    clear a0 a1 a2 a3 c0 c1 c2 c3
    go_wp2_with fail
    go_meet
    exact ⟨rfl,X.out⟩
 obtain ⟨rfl,hX⟩:=hcut
 have X:=Lib.hid hX
 clear hX
 go_upto_region 3 with fail
 go_cut [7,8] (fun s7 s8 wx=>∃ g7 g8,s7=.pointer (some ⟨g7,0,none⟩)∧s8=.pointer (some ⟨g8,0,none⟩)∧Sb w [(w.heap.size,#[.bool b1,.string m1,.bool false,.string k1],25),(w.heap.size+1,#[.bool b2,.string m2,.bool false,.string k2],25),(w.heap.size+1+1,#[.bool false,.string ⟨#[]⟩,.bool false,.string ⟨#[]⟩],25),(g7,#[.bool false,.string mda],23),(g8,#[.bool false,.string mdb],23)] [] wx)
 case first =>
  refine wp_region_any (by kernel_rfl) ?_
  have X:=Lib.hid X.out.drew
  obtain ⟨W0,hV⟩:=wexi X.out
  rw [show ∀ v:World,{ v with drawn:=v.drawn+1 }=v.drew from fun _=>rfl,←hV]
  rw [←hV] at X
  clear hV
  refine rg_run (ef:=[.val (.agg #[.bool b1,.string m1,.bool false,.string k1]),.val (.agg #[.bool false,.string mda]),.val (.agg #[.bool b2,.string m2,.bool false,.string k2]),.val (.agg #[.bool false,.string mdb]),.new #[.bool false,.string ⟨#[]⟩] 23,.new #[.bool false,.string ⟨#[]⟩] 23]) (ds:=[27,28,29,30,7,8]) (by kernel_rfl) (stays_none (by simp)) (by decide) rfl (by intro d hd;simp at hd ⊢;omega) (fun i d o hd ho listed a w1 hR hdep K hK=>?_) 2 (fun a w1 hR=>?_)
  · have X:=Lib.hid (X.out.next hR.bel)
    have HKt:=Lib.hid hK
    have HDp:=Lib.hid hdep
    have sl3:a.tmps.getD 3 undef=.pointer (some ⟨w.heap.size,0,none⟩):=hR.keep 3 (by decide)
    have sl4:a.tmps.getD 4 undef=.pointer (some ⟨w.heap.size+1,0,none⟩):=hR.keep 4 (by decide)
    have HRg:=Lib.hid hR
    clear hK hdep hR
    rcases i with _ | _ | _ | _ | _ | _ | i
    · cases hd
      cases ho
      obtain ⟨x00,x01,x02,x03⟩:=X.out.c4 (i:=0) rfl
      obtain ⟨x10,x11,x12,x13⟩:=X.out.c4 (i:=1) rfl
      go_simp
      exact HKt.out _ _ (Or.inl ⟨rfl,Below.refl _ _⟩)
    · cases hd
      cases ho
      have dd0:a.tmps.getD 27 undef=.agg #[.bool b1,.string m1,.bool false,.string k1]:=HRg.out.val 0 _ (HDp.out 0 (by decide)) rfl
      go_simp
      (go_at_call 100;refine (HD1.out _ (HE.out _ X.out.bel)).mono ?_;rintro e u ⟨rfl,hb9⟩)
      try go_wp2_with fail
      exact HKt.out _ _ (Or.inl ⟨rfl,hb9⟩)
    · cases hd
      cases ho
      obtain ⟨x00,x01,x02,x03⟩:=X.out.c4 (i:=0) rfl
      obtain ⟨x10,x11,x12,x13⟩:=X.out.c4 (i:=1) rfl
      go_simp
      exact HKt.out _ _ (Or.inl ⟨rfl,Below.refl _ _⟩)
    · cases hd
      cases ho
      have dd1:a.tmps.getD 28 undef=.agg #[.bool false,.string mda]:=HRg.out.val 1 _ (HDp.out 1 (by decide)) rfl
      have dd2:a.tmps.getD 29 undef=.agg #[.bool b2,.string m2,.bool false,.string k2]:=HRg.out.val 2 _ (HDp.out 2 (by decide)) rfl
      go_simp
      (go_at_call 100;refine (HD2.out _ (HE.out _ X.out.bel)).mono ?_;rintro e u ⟨rfl,hb9⟩)
      try go_wp2_with fail
      exact HKt.out _ _ (Or.inl ⟨rfl,hb9⟩)
    · cases hd
      cases ho
      go_simp
      exact HKt.out _ _ (Or.inr (Or.inl ⟨_,_,rfl,rfl,rfl⟩))
    · cases hd
      cases ho
      go_simp
      exact HKt.out _ _ (Or.inr (Or.inl ⟨_,_,rfl,rfl,rfl⟩))
    · cases hd
  obtain ⟨g4,hg4,lg4,kg4⟩:=hR.new 4 _ _ (by rfl) rfl
  obtain ⟨g5,hg5,lg5,kg5⟩:=hR.new 5 _ _ (by rfl) rfl
  have vv0:a.tmps.getD 27 undef=.agg #[.bool b1,.string m1,.bool false,.string k1]:=hR.val 0 _ (by rfl) rfl
  have vv1:a.tmps.getD 28 undef=.agg #[.bool false,.string mda]:=hR.val 1 _ (by rfl) rfl
  have vv2:a.tmps.getD 29 undef=.agg #[.bool b2,.string m2,.bool false,.string k2]:=hR.val 2 _ (by rfl) rfl
  have vv3:a.tmps.getD 30 undef=.agg #[.bool false,.string mdb]:=hR.val 3 _ (by rfl) rfl
  replace hg4:a.tmps.getD 7 undef=.pointer (some ⟨g4,0,none⟩):=hg4
  replace hg5:a.tmps.getD 8 undef=.pointer (some ⟨g5,0,none⟩):=hg5
  have hne:g4≠g5:=fun e=>hR.ne 4 5 _ _ _ _ g4 (by decide) (by rfl) (by rfl) rfl rfl hg4 (by rw [e];exact hg5)
  have X:=Lib.hid (X.out.add2 hR.bel lg4 kg4 lg5 kg5 hne)
  have ha:=hR.act
  simp only [List.foldl_cons,List.foldl_nil,seti,set0,setS,vv0,vv1,vv2,vv3,hg4,hg5] at ha
  subst ha
  clear hR vv0 vv1 vv2 vv3 hg4 lg4 kg4 hg5 lg5 kg5 hne
  refine wpAny_of_late (S:=fun _=>True) (L:=[]) _ _ _ _ ?_
  refine wpLate_one (i:=6) (o:=⟨none,_,_,_,_,_⟩) (by kernel_rfl) rfl (fun K hK=>?_)
  obtain ⟨x0,x1⟩:=X.out.c2 (i:=3) rfl
  obtain ⟨y0,y1⟩:=X.out.f2 (i:=3) rfl
  have X:=Lib.hid (X.out.set2 (i:=3) rfl (.bool false) (.string mda))
  go_simp
  refine hK.out _ _ (Or.inr fun _=>trivial) ?_
  clear hK K x0 x1 y0 y1
  obtain ⟨W6,hV⟩:=wexi X.out
  rw [←hV] at X ⊢
  clear hV
  try simp only [Act.put]
  refine wpLate_one (i:=7) (o:=⟨none,_,_,_,_,_⟩) (by kernel_rfl) rfl (fun K hK=>?_)
  obtain ⟨x0,x1⟩:=X.out.c2 (i:=4) rfl
  obtain ⟨y0,y1⟩:=X.out.f2 (i:=4) rfl
  have X:=Lib.hid (X.out.set2 (i:=4) rfl (.bool false) (.string mdb))
  go_simp
  refine hK.out _ _ (Or.inr fun _=>trivial) ?_
  clear hK K x0 x1 y0 y1
  obtain ⟨W7,hV⟩:=wexi X.out
  rw [←hV] at X ⊢
  clear hV
  try simp only [Act.put]
  refine wpLate_done (by kernel_rfl) ?_ _
  go_wp2_with fail
  go_meet
  exact ⟨_,_,rfl,rfl,X.out.pick [0,1,2,3,4] _ [] rfl (by decide) (by simp)⟩
 obtain ⟨g7,g8,rfl,rfl,hX⟩:=hcut
 have X:=Lib.hid hX
 clear hX
 obtain ⟨x0,x1⟩:=X.out.c2 (i:=3) rfl
 obtain ⟨y0,y1⟩:=X.out.c2 (i:=4) rfl
 go_wp2_with fail
 refine (HCM.out _ (HE.out _ X.out.bel)).mono ?_
 rintro e w4 ⟨rfl,hb9⟩
 have X:=Lib.hid (X.out.next hb9)
 clear hb9
 have X:=Lib.hid (X.out.new #[.bool false,.string mg] 23)
 obtain ⟨g9,hg9⟩:∃ g,g=w4.heap.size:=⟨_,rfl⟩
 rw [←hg9] at X
 clear x0 x1 y0 y1
 go_upto_region 5 with fail
 rw [←hg9]
 clear hg9
 go_cut [10,11] (fun s10 s11 wx=>∃ g10 g11,s10=.pointer (some ⟨g10,0,none⟩)∧s11=.pointer (some ⟨g11,0,none⟩)∧Sb w [(w.heap.size,#[.bool b1,.string m1,.bool false,.string k1],25),(w.heap.size+1,#[.bool b2,.string m2,.bool false,.string k2],25),(w.heap.size+1+1,#[.bool false,.string ⟨#[]⟩,.bool false,.string ⟨#[]⟩],25),(g8,#[.bool false,.string mdb],23),(g9,#[.bool false,.string mg],23),(g10,#[.bool false,.string mq],23),(g11,#[.bool false,.string ms],23)] [] wx)
 case first =>
  refine wp_region_any (by kernel_rfl) ?_
  have X:=Lib.hid X.out.drew
  obtain ⟨W0,hV⟩:=wexi X.out
  rw [show ∀ v:World,{ v with drawn:=v.drawn+1 }=v.drew from fun _=>rfl,←hV]
  rw [←hV] at X
  clear hV
  refine rg_run (ef:=[.val (.agg #[.bool false,.string mda]),.val (.agg #[.bool false,.string mg]),.val (.agg #[.bool false,.string mq]),.val (.agg #[.bool false,.string mdb]),.val (.agg #[.bool false,.string mg]),.val (.agg #[.bool false,.string ms]),.new #[.bool false,.string ⟨#[]⟩] 23,.new #[.bool false,.string ⟨#[]⟩] 23]) (ds:=[34,35,36,37,38,39,10,11]) (by kernel_rfl) (stays_none (by simp)) (by decide) rfl (by intro d hd;simp at hd ⊢;omega) (fun i d o hd ho listed a w1 hR hdep K hK=>?_) 2 (fun a w1 hR=>?_)
  · have X:=Lib.hid (X.out.next hR.bel)
    have HKt:=Lib.hid hK
    have HDp:=Lib.hid hdep
    have sl7:a.tmps.getD 7 undef=.pointer (some ⟨g7,0,none⟩):=hR.keep 7 (by decide)
    have sl8:a.tmps.getD 8 undef=.pointer (some ⟨g8,0,none⟩):=hR.keep 8 (by decide)
    have sl9:a.tmps.getD 9 undef=.pointer (some ⟨g9,0,none⟩):=hR.keep 9 (by decide)
    have HRg:=Lib.hid hR
    clear hK hdep hR
    rcases i with _ | _ | _ | _ | _ | _ | _ | _ | i
    · cases hd
      cases ho
      obtain ⟨x30,x31⟩:=X.out.c2 (i:=3) rfl
      obtain ⟨x40,x41⟩:=X.out.c2 (i:=4) rfl
      obtain ⟨x50,x51⟩:=X.out.c2 (i:=5) rfl
      go_simp
      exact HKt.out _ _ (Or.inl ⟨rfl,Below.refl _ _⟩)
    · cases hd
      cases ho
      obtain ⟨x30,x31⟩:=X.out.c2 (i:=3) rfl
      obtain ⟨x40,x41⟩:=X.out.c2 (i:=4) rfl
      obtain ⟨x50,x51⟩:=X.out.c2 (i:=5) rfl
      go_simp
      exact HKt.out _ _ (Or.inl ⟨rfl,Below.refl _ _⟩)
    · cases hd
      cases ho
      have dd0:a.tmps.getD 34 undef=.agg #[.bool false,.string mda]:=HRg.out.val 0 _ (HDp.out 0 (by decide)) rfl
      have dd1:a.tmps.getD 35 undef=.agg #[.bool false,.string mg]:=HRg.out.val 1 _ (HDp.out 1 (by decide)) rfl
      go_simp
      (go_at_call 103;refine (HQ1.out _ (HE.out _ X.out.bel)).mono ?_;rintro e u ⟨rfl,hb9⟩)
      try go_wp2_with fail
      exact HKt.out _ _ (Or.inl ⟨rfl,hb9⟩)
    · cases hd
      cases ho
      obtain ⟨x30,x31⟩:=X.out.c2 (i:=3) rfl
      obtain ⟨x40,x41⟩:=X.out.c2 (i:=4) rfl
      obtain ⟨x50,x51⟩:=X.out.c2 (i:=5) rfl
      go_simp
      exact HKt.out _ _ (Or.inl ⟨rfl,Below.refl _ _⟩)
    · cases hd
      cases ho
      obtain ⟨x30,x31⟩:=X.out.c2 (i:=3) rfl
      obtain ⟨x40,x41⟩:=X.out.c2 (i:=4) rfl
      obtain ⟨x50,x51⟩:=X.out.c2 (i:=5) rfl
      go_simp
      exact HKt.out _ _ (Or.inl ⟨rfl,Below.refl _ _⟩)
    · cases hd
      cases ho
      have dd2:a.tmps.getD 36 undef=.agg #[.bool false,.string mq]:=HRg.out.val 2 _ (HDp.out 2 (by decide)) rfl
      have dd3:a.tmps.getD 37 undef=.agg #[.bool false,.string mdb]:=HRg.out.val 3 _ (HDp.out 3 (by decide)) rfl
      have dd4:a.tmps.getD 38 undef=.agg #[.bool false,.string mg]:=HRg.out.val 4 _ (HDp.out 4 (by decide)) rfl
      go_simp
      (go_at_call 103;refine (HQ2.out _ (HE.out _ X.out.bel)).mono ?_;rintro e u ⟨rfl,hb9⟩)
      try go_wp2_with fail
      exact HKt.out _ _ (Or.inl ⟨rfl,hb9⟩)
    · cases hd
      cases ho
      go_simp
      exact HKt.out _ _ (Or.inr (Or.inl ⟨_,_,rfl,rfl,rfl⟩))
    · cases hd
      cases ho
      go_simp
      exact HKt.out _ _ (Or.inr (Or.inl ⟨_,_,rfl,rfl,rfl⟩))
    · cases hd
  obtain ⟨g6,hg6,lg6,kg6⟩:=hR.new 6 _ _ (by rfl) rfl
  obtain ⟨g7,hg7,lg7,kg7⟩:=hR.new 7 _ _ (by rfl) rfl
  have vv0:a.tmps.getD 34 undef=.agg #[.bool false,.string mda]:=hR.val 0 _ (by rfl) rfl
  have vv1:a.tmps.getD 35 undef=.agg #[.bool false,.string mg]:=hR.val 1 _ (by rfl) rfl
  have vv2:a.tmps.getD 36 undef=.agg #[.bool false,.string mq]:=hR.val 2 _ (by rfl) rfl
  have vv3:a.tmps.getD 37 undef=.agg #[.bool false,.string mdb]:=hR.val 3 _ (by rfl) rfl
  have vv4:a.tmps.getD 38 undef=.agg #[.bool false,.string mg]:=hR.val 4 _ (by rfl) rfl
  have vv5:a.tmps.getD 39 undef=.agg #[.bool false,.string ms]:=hR.val 5 _ (by rfl) rfl
  replace hg6:a.tmps.getD 10 undef=.pointer (some ⟨g6,0,none⟩):=hg6
  replace hg7:a.tmps.getD 11 undef=.pointer (some ⟨g7,0,none⟩):=hg7
  have hne:g6≠g7:=fun e=>hR.ne 6 7 _ _ _ _ g6 (by decide) (by rfl) (by rfl) rfl rfl hg6 (by rw [e];exact hg7)
  have X:=Lib.hid (X.out.add2 hR.bel lg6 kg6 lg7 kg7 hne)
  have ha:=hR.act
  simp only [List.foldl_cons,List.foldl_nil,seti,set0,setS,vv0,vv1,vv2,vv3,vv4,vv5,hg6,hg7] at ha
  subst ha
  clear hR vv0 vv1 vv2 vv3 vv4 vv5 hg6 lg6 kg6 hg7 lg7 kg7 hne
  refine wpAny_of_late (S:=fun _=>True) (L:=[]) _ _ _ _ ?_
  refine wpLate_one (i:=8) (o:=⟨none,_,_,_,_,_⟩) (by kernel_rfl) rfl (fun K hK=>?_)
  obtain ⟨x0,x1⟩:=X.out.c2 (i:=6) rfl
  obtain ⟨y0,y1⟩:=X.out.f2 (i:=6) rfl
  have X:=Lib.hid (X.out.set2 (i:=6) rfl (.bool false) (.string mq))
  go_simp
  refine hK.out _ _ (Or.inr fun _=>trivial) ?_
  clear hK K x0 x1 y0 y1
  obtain ⟨W8,hV⟩:=wexi X.out
  rw [←hV] at X ⊢
  clear hV
  try simp only [Act.put]
  refine wpLate_one (i:=9) (o:=⟨none,_,_,_,_,_⟩) (by kernel_rfl) rfl (fun K hK=>?_)
  obtain ⟨x0,x1⟩:=X.out.c2 (i:=7) rfl
  obtain ⟨y0,y1⟩:=X.out.f2 (i:=7) rfl
  have X:=Lib.hid (X.out.set2 (i:=7) rfl (.bool false) (.string ms))
  go_simp
  refine hK.out _ _ (Or.inr fun _=>trivial) ?_
  clear hK K x0 x1 y0 y1
  obtain ⟨W9,hV⟩:=wexi X.out
  rw [←hV] at X ⊢
  clear hV
  try simp only [Act.put]
  refine wpLate_done (by kernel_rfl) ?_ _
  go_wp2_with fail
  go_meet
  exact ⟨_,_,rfl,rfl,X.out.pick [0,1,2,4,5,6,7] _ [] rfl (by decide) (by simp)⟩
 obtain ⟨g10,g11,rfl,rfl,hX⟩:=hcut
 have X:=Lib.hid hX
 clear hX
 go_upto_region 6 with fail
 go_cut [12] (fun s12 wx=>∃ g12,s12=.pointer (some ⟨g12,0,none⟩)∧Sb w [(w.heap.size+1+1,#[.bool false,.string ⟨#[]⟩,.bool false,.string ⟨#[]⟩],25),(g8,#[.bool false,.string mdb],23),(g9,#[.bool false,.string mg],23),(g10,#[.bool false,.string mq],23),(g12,#[.bool bt,.string mt],23)] [] wx)
 case first =>
  refine wp_region_any (by kernel_rfl) ?_
  have X:=Lib.hid X.out.drew
  obtain ⟨W0,hV⟩:=wexi X.out
  rw [show ∀ v:World,{ v with drawn:=v.drawn+1 }=v.drew from fun _=>rfl,←hV]
  rw [←hV] at X
  clear hV
  refine rg_run (ef:=[.val (.func (.func OP) #[] #[]),.val (.pointer (some ⟨w.heap.size,0,none⟩)),.val (.agg #[.bool b1,.string m1]),.val (.agg #[.bool false,.string ms]),.val (.agg #[.bool cx,.string sx]),.val (.pointer (some ⟨w.heap.size+1,0,none⟩)),.val (.agg #[.bool b2,.string m2]),.val (.agg #[.bool false,.string mq]),.val (.agg #[.bool cy,.string sy]),.val (.agg #[.bool bt,.string mt]),.new #[.bool false,.string ⟨#[]⟩] 23]) (ds:=[40,41,42,43,44,45,46,47,48,49,12]) (by kernel_rfl) (stays_none (by simp)) (by decide) rfl (by intro d hd;simp at hd ⊢;omega) (fun i d o hd ho listed a w1 hR hdep K hK=>?_) 1 (fun a w1 hR=>?_)
  · have X:=Lib.hid (X.out.next hR.bel)
    have HKt:=Lib.hid hK
    have HDp:=Lib.hid hdep
    have sl2:a.tmps.getD 2 undef=.func (.func OP) #[] #[]:=hR.keep 2 (by decide)
    have sl3:a.tmps.getD 3 undef=.pointer (some ⟨w.heap.size,0,none⟩):=hR.keep 3 (by decide)
    have sl4:a.tmps.getD 4 undef=.pointer (some ⟨w.heap.size+1,0,none⟩):=hR.keep 4 (by decide)
    have sl10:a.tmps.getD 10 undef=.pointer (some ⟨g10,0,none⟩):=hR.keep 10 (by decide)
    have sl11:a.tmps.getD 11 undef=.pointer (some ⟨g11,0,none⟩):=hR.keep 11 (by decide)
    have HRg:=Lib.hid hR
    clear hK hdep hR
    rcases i with _ | _ | _ | _ | _ | _ | _ | _ | _ | _ | _ | i
    · cases hd
      cases ho
      go_simp
      exact HKt.out _ _ (Or.inl ⟨rfl,Below.refl _ _⟩)
    · cases hd
      cases ho
      go_simp
      exact HKt.out _ _ (Or.inl ⟨rfl,Below.refl _ _⟩)
    · cases hd
      cases ho
      obtain ⟨x00,x01,x02,x03⟩:=X.out.c4 (i:=0) rfl
      obtain ⟨x10,x11,x12,x13⟩:=X.out.c4 (i:=1) rfl
      obtain ⟨x50,x51⟩:=X.out.c2 (i:=5) rfl
      obtain ⟨x60,x61⟩:=X.out.c2 (i:=6) rfl
      have dd1:a.tmps.getD 41 undef=.pointer (some ⟨w.heap.size,0,none⟩):=HRg.out.val 1 _ (HDp.out 1 (by decide)) rfl
      go_simp
      exact HKt.out _ _ (Or.inl ⟨rfl,Below.refl _ _⟩)
    · cases hd
      cases ho
      obtain ⟨x00,x01,x02,x03⟩:=X.out.c4 (i:=0) rfl
      obtain ⟨x10,x11,x12,x13⟩:=X.out.c4 (i:=1) rfl
      obtain ⟨x50,x51⟩:=X.out.c2 (i:=5) rfl
      obtain ⟨x60,x61⟩:=X.out.c2 (i:=6) rfl
      go_simp
      exact HKt.out _ _ (Or.inl ⟨rfl,Below.refl _ _⟩)
    · cases hd
      cases ho
      have dd2:a.tmps.getD 42 undef=.agg #[.bool b1,.string m1]:=HRg.out.val 2 _ (HDp.out 2 (by decide)) rfl
      have dd3:a.tmps.getD 43 undef=.agg #[.bool false,.string ms]:=HRg.out.val 3 _ (HDp.out 3 (by decide)) rfl
      go_simp
      (go_at_call 102;refine (HT1.out _ (HE.out _ X.out.bel)).mono ?_;rintro e u ⟨rfl,hb9⟩)
      try go_wp2_with fail
      exact HKt.out _ _ (Or.inl ⟨rfl,hb9⟩)
    · cases hd
      cases ho
      go_simp
      exact HKt.out _ _ (Or.inl ⟨rfl,Below.refl _ _⟩)
    · cases hd
      cases ho
      obtain ⟨x00,x01,x02,x03⟩:=X.out.c4 (i:=0) rfl
      obtain ⟨x10,x11,x12,x13⟩:=X.out.c4 (i:=1) rfl
      obtain ⟨x50,x51⟩:=X.out.c2 (i:=5) rfl
      obtain ⟨x60,x61⟩:=X.out.c2 (i:=6) rfl
      have dd5:a.tmps.getD 45 undef=.pointer (some ⟨w.heap.size+1,0,none⟩):=HRg.out.val 5 _ (HDp.out 5 (by decide)) rfl
      go_simp
      exact HKt.out _ _ (Or.inl ⟨rfl,Below.refl _ _⟩)
    · cases hd
      cases ho
      obtain ⟨x00,x01,x02,x03⟩:=X.out.c4 (i:=0) rfl
      obtain ⟨x10,x11,x12,x13⟩:=X.out.c4 (i:=1) rfl
      obtain ⟨x50,x51⟩:=X.out.c2 (i:=5) rfl
      obtain ⟨x60,x61⟩:=X.out.c2 (i:=6) rfl
      go_simp
      exact HKt.out _ _ (Or.inl ⟨rfl,Below.refl _ _⟩)
    · cases hd
      cases ho
      have dd4:a.tmps.getD 44 undef=.agg #[.bool cx,.string sx]:=HRg.out.val 4 _ (HDp.out 4 (by decide)) rfl
      have dd6:a.tmps.getD 46 undef=.agg #[.bool b2,.string m2]:=HRg.out.val 6 _ (HDp.out 6 (by decide)) rfl
      have dd7:a.tmps.getD 47 undef=.agg #[.bool false,.string mq]:=HRg.out.val 7 _ (HDp.out 7 (by decide)) rfl
      go_simp
      (go_at_call 102;refine (HT2.out _ (HE.out _ X.out.bel)).mono ?_;rintro e u ⟨rfl,hb9⟩)
      try go_wp2_with fail
      exact HKt.out _ _ (Or.inl ⟨rfl,hb9⟩)
    · cases hd
      cases ho
      have dd0:a.tmps.getD 40 undef=.func (.func OP) #[] #[]:=HRg.out.val 0 _ (HDp.out 0 (by decide)) rfl
      have dd4:a.tmps.getD 44 undef=.agg #[.bool cx,.string sx]:=HRg.out.val 4 _ (HDp.out 4 (by decide)) rfl
      have dd8:a.tmps.getD 48 undef=.agg #[.bool cy,.string sy]:=HRg.out.val 8 _ (HDp.out 8 (by decide)) rfl
      go_simp
      (refine (HOP.out _).mono ?_;rintro e u ⟨rfl,hb9⟩)
      try go_wp2_with fail
      exact HKt.out _ _ (Or.inl ⟨rfl,hb9⟩)
    · cases hd
      cases ho
      go_simp
      exact HKt.out _ _ (Or.inr (Or.inl ⟨_,_,rfl,rfl,rfl⟩))
    · cases hd
  obtain ⟨g10,hg10,lg10,kg10⟩:=hR.new 10 _ _ (by rfl) rfl
  have vv0:a.tmps.getD 40 undef=.func (.func OP) #[] #[]:=hR.val 0 _ (by rfl) rfl
  have vv1:a.tmps.getD 41 undef=.pointer (some ⟨w.heap.size,0,none⟩):=hR.val 1 _ (by rfl) rfl
  have vv2:a.tmps.getD 42 undef=.agg #[.bool b1,.string m1]:=hR.val 2 _ (by rfl) rfl
  have vv3:a.tmps.getD 43 undef=.agg #[.bool false,.string ms]:=hR.val 3 _ (by rfl) rfl
  have vv4:a.tmps.getD 44 undef=.agg #[.bool cx,.string sx]:=hR.val 4 _ (by rfl) rfl
  have vv5:a.tmps.getD 45 undef=.pointer (some ⟨w.heap.size+1,0,none⟩):=hR.val 5 _ (by rfl) rfl
  have vv6:a.tmps.getD 46 undef=.agg #[.bool b2,.string m2]:=hR.val 6 _ (by rfl) rfl
  have vv7:a.tmps.getD 47 undef=.agg #[.bool false,.string mq]:=hR.val 7 _ (by rfl) rfl
  have vv8:a.tmps.getD 48 undef=.agg #[.bool cy,.string sy]:=hR.val 8 _ (by rfl) rfl
  have vv9:a.tmps.getD 49 undef=.agg #[.bool bt,.string mt]:=hR.val 9 _ (by rfl) rfl
  replace hg10:a.tmps.getD 12 undef=.pointer (some ⟨g10,0,none⟩):=hg10
  have X:=Lib.hid (X.out.add hR.bel lg10 kg10)
  have ha:=hR.act
  simp only [List.foldl_cons,List.foldl_nil,seti,set0,setS,vv0,vv1,vv2,vv3,vv4,vv5,vv6,vv7,vv8,vv9,hg10] at ha
  subst ha
  clear hR vv0 vv1 vv2 vv3 vv4 vv5 vv6 vv7 vv8 vv9 hg10 lg10 kg10
  refine wpAny_of_late (S:=fun _=>True) (L:=[]) _ _ _ _ ?_
  refine wpLate_one (i:=11) (o:=⟨none,_,_,_,_,_⟩) (by kernel_rfl) rfl (fun K hK=>?_)
  obtain ⟨x0,x1⟩:=X.out.c2 (i:=7) rfl
  obtain ⟨y0,y1⟩:=X.out.f2 (i:=7) rfl
  have X:=Lib.hid (X.out.set2 (i:=7) rfl (.bool bt) (.string mt))
  go_simp
  refine hK.out _ _ (Or.inr fun _=>trivial) ?_
  clear hK K x0 x1 y0 y1
  obtain ⟨W11,hV⟩:=wexi X.out
  rw [←hV] at X ⊢
  clear hV
  try simp only [Act.put]
  refine wpLate_done (by kernel_rfl) ?_ _
  go_wp2_with fail
  go_meet
  exact ⟨_,rfl,X.out.pick [2,3,4,5,7] _ [] rfl (by decide) (by simp)⟩
 obtain ⟨g12,rfl,hX⟩:=hcut
 have X:=Lib.hid hX
 clear hX
 go_upto_region 7 with fail
 go_cut [52] (fun s52 wx=>s52=.bool (decide (g≠1))∧Sb w [(w.heap.size+1+1,#[.bool false,.string ⟨#[]⟩,.bool false,.string ⟨#[]⟩],25),(g8,#[.bool false,.string mdb],23),(g9,#[.bool false,.string mg],23),(g10,#[.bool false,.string mq],23),(g12,#[.bool bt,.string mt],23)] [] wx)
 case first =>
  have HEV:=HE.out _ X.out.bel
  have o0:=HEV.o0
  have o1:=HEV.o1
  clear HEV
  obtain ⟨x0,x1⟩:=X.out.c2 (i:=2) rfl
  rcases HG.out with ⟨hg1,hbn,hmn,hdb⟩ | ⟨hg1,hno,hno2⟩
  · have hm1:mg=⟨#[1]⟩:=by rw [←HMG.out,hg1];exact mag_one
    have hl1:mg.toList=[1]:=by rw [hm1,ByteArray.toList_eq]
    have HDC:=Lib.hid (decide_eq_false (show ¬(g≠1) from fun h=>h hg1))
    clear hg1 hbn hmn hdb hm1
    go_wp2_with fail
    go_meet
    exact ⟨by rw [HDC.out],X.out⟩
  · have HDC:=Lib.hid (decide_eq_true hg1)
    clear hg1
    go_wp2_with fail
    go_meet
    exact ⟨by rw [HDC.out],X.out⟩
 obtain ⟨rfl,hX⟩:=hcut
 have X:=Lib.hid hX
 clear hX
 apply_assumption
 go_cut [] (fun wx=>Sb w [(w.heap.size+1+1,#[.bool false,.string ⟨#[]⟩,.bool false,.string ⟨#[]⟩],25),(g10,#[.bool false,.string mq],23),(g12,#[.bool bn,.string mn],23),(g8,#[.bool false,.string md2],23)] [] wx)
 case first =>
  rcases HG.out with ⟨hg1,hbn,hmn,hdb⟩ | ⟨hg1,_,_⟩
  · rw [decide_eq_false (show ¬(g≠1) from fun h=>h hg1)]
    have hdd:md2=mdb:=by rw [←HM.out.1,←HM.out.2,hdb]
    subst hbn
    subst hmn
    subst hdd
    clear hg1 hdb
    go_wp2_with fail
    go_meet
    exact X.out.pick [0,3,4,1] _ [] rfl (by decide) (by simp)
  · rw [decide_eq_true hg1]
    clear hg1
    obtain ⟨x0,x1⟩:=X.out.c2 (i:=2) rfl
    obtain ⟨z0,z1⟩:=X.out.c2 (i:=4) rfl
    go_wp2_with fail
    refine (HGC.out _ (HE.out _ X.out.bel)).mono ?_
    rintro e w8 ⟨rfl,hb9⟩
    have X:=Lib.hid (X.out.next hb9)
    clear hb9
    clear x0 x1 z0 z1
    have X:=Lib.hid (X.out.new #[.bool false,.string mv] 23)
    obtain ⟨g13,hg13⟩:∃ g,g=w8.heap.size:=⟨_,rfl⟩
    rw [←hg13] at X
    go_upto_region 9 with fail
    rw [←hg13]
    clear hg13
    as_aux_lemma =>
     refine wp_region_late (S:=fun w'=>(w'.cell? ⟨g12,0,none⟩=some (.bool bt)∧w'.cell? ⟨g12,1,none⟩=some (.string mt))∧(w'.cell? ⟨g8,0,none⟩=some (.bool false)∧w'.cell? ⟨g8,1,none⟩=some (.string mdb))∧(w'.cell? ⟨g13,0,none⟩=some (.bool false)∧w'.cell? ⟨g13,1,none⟩=some (.string mv))) (L:=[6,7]) (by kernel_rfl) ?_
     have X:=Lib.hid X.out.drew
     obtain ⟨V0,hV⟩:=wexi X.out
     rw [←hV] at X ⊢
     clear hV
     refine tk (i:=0) (oi:=⟨some 56,_,_,_,_,_⟩) (v:=_) rfl (by kernel_rfl) (fun _ _ _ h=>h) (⟨X.out.c2 (i:=4) rfl,X.out.c2 (i:=1) rfl,X.out.c2 (i:=5) rfl⟩) (Or.inl ⟨by rfl,by intro w hSw;(try dsimp only at hSw);(first | (go_simp;done) | (go_simp;with_reducible rfl))⟩) ?_
     try simp only [Act.put,seti,set0,setS]
     refine tk (i:=1) (oi:=⟨some 57,_,_,_,_,_⟩) (v:=_) rfl (by kernel_rfl) (fun _ _ _ h=>h) (⟨X.out.c2 (i:=4) rfl,X.out.c2 (i:=1) rfl,X.out.c2 (i:=5) rfl⟩) (Or.inl ⟨by rfl,by intro w hSw;(try dsimp only at hSw);(first | (go_simp;done) | (go_simp;with_reducible rfl))⟩) ?_
     try simp only [Act.put,seti,set0,setS]
     refine tk (i:=3) (oi:=⟨some 59,_,_,_,_,_⟩) (v:=_) rfl (by kernel_rfl) (fun _ _ _ h=>h) (⟨X.out.c2 (i:=4) rfl,X.out.c2 (i:=1) rfl,X.out.c2 (i:=5) rfl⟩) (Or.inl ⟨by rfl,by intro w hSw;(try dsimp only at hSw);(first | (go_simp;done) | (go_simp;with_reducible rfl))⟩) ?_
     try simp only [Act.put,seti,set0,setS]
     refine tk (i:=4) (oi:=⟨some 60,_,_,_,_,_⟩) (v:=_) rfl (by kernel_rfl) (fun _ _ _ h=>h) (⟨X.out.c2 (i:=4) rfl,X.out.c2 (i:=1) rfl,X.out.c2 (i:=5) rfl⟩) (Or.inl ⟨by rfl,by intro w hSw;(try dsimp only at hSw);(first | (go_simp;done) | (go_simp;with_reducible rfl))⟩) ?_
     try simp only [Act.put,seti,set0,setS]
     refine wpLate_one (i:=2) (o:=⟨some 58,_,_,_,_,_⟩) (by kernel_rfl) rfl (fun K hK=>?_)
     go_simp
     (go_at_call 103;refine (HQ3.out _ (HE.out _ X.out.bel)).mono ?_;rintro e u1 ⟨rfl,hb9⟩;have X:=Lib.hid (X.out.next hb9);clear hb9)
     try go_wp2_with fail
     refine hK.out _ _ (Or.inr (fun _=>⟨X.out.c2 (i:=4) rfl,X.out.c2 (i:=1) rfl,X.out.c2 (i:=5) rfl⟩)) ?_
     clear hK K
     try simp only [Act.put,seti,set0,setS]
     refine wpLate_one (i:=5) (o:=⟨some 61,_,_,_,_,_⟩) (by kernel_rfl) rfl (fun K hK=>?_)
     go_simp
     (go_at_call 103;refine (HQ4.out _ (HE.out _ X.out.bel)).mono ?_;rintro e u2 ⟨rfl,hb9⟩;have X:=Lib.hid (X.out.next hb9);clear hb9)
     try go_wp2_with fail
     refine hK.out _ _ (Or.inr (fun _=>⟨X.out.c2 (i:=4) rfl,X.out.c2 (i:=1) rfl,X.out.c2 (i:=5) rfl⟩)) ?_
     clear hK K
     try simp only [Act.put,seti,set0,setS]
     refine wpLate_one (i:=6) (o:=⟨none,_,_,_,_,_⟩) (by kernel_rfl) rfl (fun K hK=>?_)
     obtain ⟨x0,x1⟩:=X.out.c2 (i:=4) rfl
     obtain ⟨y0,y1⟩:=X.out.f2 (i:=4) rfl
     have X:=Lib.hid (X.out.set2 (i:=4) rfl (.bool bn) (.string mn))
     go_simp
     refine hK.out _ _ (Or.inl (by rfl)) ?_
     clear hK K x0 x1 y0 y1
     try simp only [Act.put,seti,set0,setS]
     obtain ⟨W3,hV⟩:=wexi X.out
     rw [←hV] at X ⊢
     clear hV
     refine wpLate_one (i:=7) (o:=⟨none,_,_,_,_,_⟩) (by kernel_rfl) rfl (fun K hK=>?_)
     obtain ⟨x0,x1⟩:=X.out.c2 (i:=1) rfl
     obtain ⟨y0,y1⟩:=X.out.f2 (i:=1) rfl
     have X:=Lib.hid (X.out.set2 (i:=1) rfl (.bool false) (.string md2))
     go_simp
     refine hK.out _ _ (Or.inl (by rfl)) ?_
     clear hK K x0 x1 y0 y1
     try simp only [Act.put,seti,set0,setS]
     obtain ⟨W4,hV⟩:=wexi X.out
     rw [←hV] at X ⊢
     clear hV
     refine wpLate_done (by kernel_rfl) ?_ _
     go_wp2_with fail
     go_meet
     exact X.out.pick [0,3,4,1] _ [] rfl (by decide) (by simp)
 have X:=Lib.hid hcut
 clear hcut
 go_upto_region 10 with fail
 as_aux_lemma =>
  refine wp_region_late (S:=fun w'=>(w'.cell? ⟨g10,0,none⟩=some (.bool false)∧w'.cell? ⟨g10,1,none⟩=some (.string mq))∧(w'.cell? ⟨g12,0,none⟩=some (.bool bn)∧w'.cell? ⟨g12,1,none⟩=some (.string mn))∧(w'.cell? ⟨g8,0,none⟩=some (.bool false)∧w'.cell? ⟨g8,1,none⟩=some (.string md2))) (L:=[]) (by kernel_rfl) ?_
  have X:=Lib.hid X.out.drew
  obtain ⟨V0,hV⟩:=wexi X.out
  rw [←hV] at X ⊢
  clear hV
  refine tk (i:=0) (oi:=⟨some 62,_,_,_,_,_⟩) (v:=_) rfl (by kernel_rfl) (fun _ _ _ h=>h) (⟨X.out.c2 (i:=1) rfl,X.out.c2 (i:=2) rfl,X.out.c2 (i:=3) rfl⟩) (Or.inl ⟨by rfl,by intro w hSw;(try dsimp only at hSw);(first | (go_simp;done) | (go_simp;with_reducible rfl))⟩) ?_
  try simp only [Act.put,seti,set0,setS]
  refine tk (i:=1) (oi:=⟨some 63,_,_,_,_,_⟩) (v:=_) rfl (by kernel_rfl) (fun _ _ _ h=>h) (⟨X.out.c2 (i:=1) rfl,X.out.c2 (i:=2) rfl,X.out.c2 (i:=3) rfl⟩) (Or.inl ⟨by rfl,by intro w hSw;(try dsimp only at hSw);(first | (go_simp;done) | (go_simp;with_reducible rfl))⟩) ?_
  try simp only [Act.put,seti,set0,setS]
  refine tk (i:=2) (oi:=⟨some 64,_,_,_,_,_⟩) (v:=_) rfl (by kernel_rfl) (fun _ _ _ h=>h) (⟨X.out.c2 (i:=1) rfl,X.out.c2 (i:=2) rfl,X.out.c2 (i:=3) rfl⟩) (Or.inl ⟨by rfl,by intro w hSw;(try dsimp only at hSw);(first | (go_simp;done) | (go_simp;with_reducible rfl))⟩) ?_
  try simp only [Act.put,seti,set0,setS]
  refine wpLate_one (i:=3) (o:=⟨some 65,_,_,_,_,_⟩) (by kernel_rfl) rfl (fun K hK=>?_)
  go_simp
  (go_at_call 102;refine (HT3.out _ (HE.out _ X.out.bel)).mono ?_;rintro e u1 ⟨rfl,hb9⟩;have X:=Lib.hid (X.out.next hb9);clear hb9)
  try go_wp2_with fail
  refine hK.out _ _ (Or.inr (fun _=>⟨X.out.c2 (i:=1) rfl,X.out.c2 (i:=2) rfl,X.out.c2 (i:=3) rfl⟩)) ?_
  clear hK K
  try simp only [Act.put,seti,set0,setS]
  refine wpLate_one (i:=4) (o:=⟨some 66,_,_,_,_,_⟩) (by kernel_rfl) rfl (fun K hK=>?_)
  go_simp
  (go_at_call 104;refine (HCP.out _ (HE.out _ X.out.bel)).mono ?_;rintro e u2 ⟨rfl,hb9⟩;have X:=Lib.hid (X.out.next hb9);clear hb9)
  try go_wp2_with fail
  refine hK.out _ _ (Or.inr (fun _=>⟨X.out.c2 (i:=1) rfl,X.out.c2 (i:=2) rfl,X.out.c2 (i:=3) rfl⟩)) ?_
  clear hK K
  try simp only [Act.put,seti,set0,setS]
  refine wpLate_one (i:=5) (o:=⟨none,_,_,_,_,_⟩) (by kernel_rfl) rfl (fun K hK=>?_)
  obtain ⟨x0,x1,x2,x3⟩:=X.out.c4 (i:=0) rfl
  obtain ⟨y0,y1,y2,y3⟩:=X.out.f4 (i:=0) rfl
  have X:=Lib.hid (X.out.set4 (i:=0) rfl (.bool bn) (.string mn) (.bool false) (.string (dm dd)))
  go_simp
  refine hK.out _ _ (Or.inr (fun _=>⟨X.out.c2 (i:=1) rfl,X.out.c2 (i:=2) rfl,X.out.c2 (i:=3) rfl⟩)) ?_
  clear hK K x0 x1 x2 x3 y0 y1 y2 y3
  try simp only [Act.put,seti,set0,setS]
  obtain ⟨W3,hV⟩:=wexi X.out
  rw [←hV] at X ⊢
  clear hV
  refine wpLate_done (by kernel_rfl) ?_ _
  go_wp2
  obtain ⟨p0,p1,p2,p3⟩:=X.out.c4 (i:=0) rfl
  exact bodyPost_ret (v:=.agg #[.bool bn,.string mn,.bool false,.string (dm dd)]) (by simp [results,Tryz.results126,go_sem,p0,p1,p2,p3]) rfl ⟨rfl,X.out.bel⟩
end Go.Proofs.YtdbhahiieokplaaGreatDoor


namespace Go.Proofs.YtdbhahiieokplaaGreatDoor
open Go.RowKit
attribute [local go_sem ↓] Go.wp_at_zero Go.wp_at_succ

theorem sq_parts (q:Rat):(q*q).num=((q.num.natAbs*q.num.natAbs:Nat):Int)∧(q*q).den=q.den*q.den:=by
 rw [Rat.mul_def']
 obtain ⟨h1,h2⟩:=mkRat_parts (q.num*q.num) (d:=q.den*q.den) (Nat.mul_ne_zero q.den_nz q.den_nz)
 have hc:Nat.gcd (q.num*q.num).natAbs (q.den*q.den)=1:=by
  rw [Int.natAbs_mul]
  have h:=q.reduced
  exact Nat.Coprime.gcd_eq_one (Nat.Coprime.mul_left (Nat.Coprime.mul_right h h) (Nat.Coprime.mul_right h h))
 rw [hc] at h1 h2
 rw [h1,h2]
 refine ⟨?_,Nat.div_one _⟩
 rw [Int.natCast_one,Int.ediv_one,Int.natCast_mul]
 exact (Int.natAbs_mul_self' q.num).symm
theorem rq_nat {X Y:Nat} (hY:0<Y) (hc:Nat.gcd X Y=1):Rq (mkRat (sgn false X) Y) false (mag X) (dm Y) :=
 Rq.of_mk hY (by rw [hc,Nat.div_one];exact enc_mag X) (by rw [hc,Nat.div_one])
theorem root_cop {N D r s:Nat} (h1:r*r=N) (h2:s*s=D) (h:Nat.Coprime N D):Nat.gcd r s=1:=by
 rw [←h1,←h2] at h
 exact Nat.Coprime.gcd_eq_one (Nat.Coprime.coprime_mul_right_right (Nat.Coprime.coprime_mul_right h))

end Go.Proofs.YtdbhahiieokplaaGreatDoor


namespace Go.Proofs.YtdbhahiieokplaaGreatDoor
open Go.RowKit
attribute [local go_sem ↓] Go.wp_at_zero Go.wp_at_succ

section
variable {w W:World} {l:List (Nat×Array Value×TypeId)} {rs:List (Option Addr×Nat×Nat×Nat)} {g:Nat} {T:TypeId}
theorem At.of {α:Type}:∀ {l:List α} {i:Nat} {x:α},l[i]?=some x→At l i x
 | [],_,_,h=>by simp at h
 | y :: l,0,x,h=>by
   obtain rfl:y=x:=by simpa using h
   exact At.here
 | y :: l,i+1,x,h=>At.there (At.of (by simpa using h))
theorem Sb.c8 (h:Sb w l rs W) {i:Nat} {x0 x1 x2 x3 x4 x5 x6 x7:Value} (hl:l[i]?=some (g,#[x0,x1,x2,x3,x4,x5,x6,x7],T)):W.cell? ⟨g,0,none⟩=some x0∧W.cell? ⟨g,1,none⟩=some x1∧W.cell? ⟨g,2,none⟩=some x2∧W.cell? ⟨g,3,none⟩=some x3∧W.cell? ⟨g,4,none⟩=some x4∧W.cell? ⟨g,5,none⟩=some x5∧W.cell? ⟨g,6,none⟩=some x6∧W.cell? ⟨g,7,none⟩=some x7:=by
 have hk:=h.at hl
 refine ⟨?_,?_,?_,?_,?_,?_,?_,?_⟩<;>simp [World.cell?,hk]
theorem Sb.f8 (h:Sb w l rs W) {i:Nat} {x0 x1 x2 x3 x4 x5 x6 x7:Value} (hl:l[i]?=some (g,#[x0,x1,x2,x3,x4,x5,x6,x7],T)):W.frozen? ⟨g,0,none⟩=false∧W.frozen? ⟨g,1,none⟩=false∧W.frozen? ⟨g,2,none⟩=false∧W.frozen? ⟨g,3,none⟩=false∧W.frozen? ⟨g,4,none⟩=false∧W.frozen? ⟨g,5,none⟩=false∧W.frozen? ⟨g,6,none⟩=false∧W.frozen? ⟨g,7,none⟩=false:=by
 have hk:=h.at hl
 refine ⟨?_,?_,?_,?_,?_,?_,?_,?_⟩<;>simp [World.frozen?,hk]
theorem Sb.set8 (h:Sb w l rs W) {i:Nat} {x0 x1 x2 x3 x4 x5 x6 x7:Value} (hl:l[i]?=some (g,#[x0,x1,x2,x3,x4,x5,x6,x7],T)) (y0 y1 y2 y3 y4 y5 y6 y7:Value):Sb w (l.set i (g,#[y0,y1,y2,y3,y4,y5,y6,y7],T)) rs ((((((((W.setCell ⟨g,0,none⟩ y0).setCell ⟨g,1,none⟩ y1).setCell ⟨g,2,none⟩ y2).setCell ⟨g,3,none⟩ y3).setCell ⟨g,4,none⟩ y4).setCell ⟨g,5,none⟩ y5).setCell ⟨g,6,none⟩ y6).setCell ⟨g,7,none⟩ y7):=nf8 h (At.of hl)
end
end Go.Proofs.YtdbhahiieokplaaGreatDoor
