import Derived.Test.YtdbhahiieokplaaGreatDoorGRGE
import Derived.Test.YtdbhahiieokplaaGreatDoorGRGC
import Derived.Test.YtdbhahiieokplaaGreatDoorGRHI
import Derived.Test.YtdbhahiieokplaaGreatDoorGKtD
import Derived.Test.YtdbhahiieokplaaGreatDoorGSgQ
import Derived.Test.YtdbhahiieokplaaGreatDoorGENQ
import Derived.Test.YtdbhahiieokplaaGreatDoorGRTD
import Derived.Test.YtdbhahiieokplaaGreatDoorGRGB
import Derived.Test.YtdbhahiieokplaaGreatDoorGQR
set_option linter.unusedSimpArgs false
set_option linter.unusedVariables false

namespace Go.Proofs.YtdbhahiieokplaaGreatDoor
open Go.RowKit
attribute [local go_sem ↓] Go.wp_at_zero Go.wp_at_succ

theorem sgn_nat (b:Bool) (x u:Nat):sgn b x*(u:Int)=sgn b (x*u):=by
 cases b<;>simp [sgn,Int.neg_mul]
theorem sgn_sum1 (b:Bool) (X Y:Nat):sgn b X+sgn b Y=sgn b (X+Y):=by
 cases b<;>simp [sgn]<;>omega
theorem sgn_sum2 (b:Bool) (X Y:Nat) (h:Y≤X):sgn b X+sgn (!b) Y=sgn b (X-Y):=by
 cases b<;>simp [sgn]<;>omega
theorem sgn_sum3 (b:Bool) (X Y:Nat) (h:X<Y):sgn b X+sgn (!b) Y=sgn (!b) (Y-X):=by
 cases b<;>simp [sgn]<;>omega

theorem Rq.sg {q:Rat} {b:Bool} {m k:ByteArray} (h:Rq q b m k):q.num=sgn b q.num.natAbs:=by
 rw [h.mag.1,sgn_self]

theorem rAdd_f {p q:Rat} {b1 b2 b3:Bool} {m1 m2 m3 k1 k2 k3:ByteArray} (hp:Rq p b1 m1 k1) (hq:Rq q b2 m2 k2) (hr:Rq (p+q) b3 m3 k3) (s1:m1.size≤10000) (s2:m2.size≤10000) (s3:(mag p.den).size≤10000) (s4:(mag q.den).size≤10000) (w:World) :
  Calls Tryz.prog 43 #[.agg #[.bool b1,.string m1,.bool false,.string k1],.agg #[.bool b2,.string m2,.bool false,.string k2]] w (RetB w (.agg #[.bool b3,.string m3,.bool false,.string k3])):=by
 have e:p+q=mkRat (sgn b1 (p.num.natAbs*q.den)+sgn b2 (q.num.natAbs*p.den)) (p.den*q.den):=by
  rw [Rat.add_def',←sgn_nat,←sgn_nat,←hp.sg,←hq.sg]
 rw [e] at hr
 by_cases hb:b2=b1
 · subst hb
   rw [sgn_sum1] at hr
   exact rAdd_same hp hq hr s1 s2 s3 s4 w
 · have hb2:b2=!b1:=by cases b1<;>cases b2<;>simp_all
   subst hb2
   by_cases hle:q.num.natAbs*p.den≤p.num.natAbs*q.den
   · rw [sgn_sum2 _ _ _ hle] at hr
     exact rAdd_ge hp hq hr hle s1 s2 s3 s4 w
   · rw [sgn_sum3 _ _ _ (by omega)] at hr
     exact rAdd_lt hp hq hr (by omega) s1 s2 s3 s4 w
end Go.Proofs.YtdbhahiieokplaaGreatDoor


namespace Go.Proofs.YtdbhahiieokplaaGreatDoor
open Go.RowKit
attribute [local go_sem ↓] Go.wp_at_zero Go.wp_at_succ

theorem Rq.minus {q:Rat} {b:Bool} {m k:ByteArray} (h:Rq q b m k):∃ c,Rq (-q) c m k:=by
 refine ⟨decide (-q.num<0),⟨?_,by rw [Rat.neg_den];exact h.den⟩⟩
 rw [Rat.neg_num,h.mag.2]
 unfold enc
 rw [Int.natAbs_neg]

set_option maxHeartbeats 4000000 in
set_option maxRecDepth 100000 in
theorem rSub_f {p q:Rat} {b1 b2 b3:Bool} {m1 m2 m3 k1 k2 k3:ByteArray} (hp:Rq p b1 m1 k1) (hq:Rq q b2 m2 k2) (hr:Rq (p-q) b3 m3 k3) (s1:m1.size≤10000) (s2:m2.size≤10000) (s3:(mag p.den).size≤10000) (s4:(mag q.den).size≤10000) (w:World) :
  Calls Tryz.prog 44 #[.agg #[.bool b1,.string m1,.bool false,.string k1],.agg #[.bool b2,.string m2,.bool false,.string k2]] w (RetB w (.agg #[.bool b3,.string m3,.bool false,.string k3])):=by
 obtain ⟨c,hn⟩:=hq.minus
 rw [Rat.sub_eq_add_neg] at hr
 have HN:=Lib.hid (fun V=>rNeg_f hq hn V)
 have HA:=Lib.hid (fun V=>rAdd_f hp hn hr s1 s2 s3 (by rw [Rat.neg_den];exact s4) V)
 have X:=Lib.hid ((((Sb.start w).new #[.bool b1,.string m1,.bool false,.string k1] 25).new #[.bool b2,.string m2,.bool false,.string k2] 25).new #[.bool false,.string ⟨#[]⟩,.bool false,.string ⟨#[]⟩] 25)
 have X:=Lib.hid (X.out.pick [0,1,2] [(w.heap.size,#[.bool b1,.string m1,.bool false,.string k1],25),(w.heap.size+1,#[.bool b2,.string m2,.bool false,.string k2],25),(w.heap.size+1+1,#[.bool false,.string ⟨#[]⟩,.bool false,.string ⟨#[]⟩],25)] [] (by simp) (by decide) (by simp))
 clear hp hq hr hn s1 s2 s3 s4
 go_enter Tryz.func44,Tryz.ntmps44
 go_upto_region 1 with fail
 refine wp_region_late (S:=fun w'=>(w'.cell? ⟨w.heap.size,0,none⟩=some (.bool b1)∧w'.cell? ⟨w.heap.size,1,none⟩=some (.string m1)∧w'.cell? ⟨w.heap.size,2,none⟩=some (.bool false)∧w'.cell? ⟨w.heap.size,3,none⟩=some (.string k1))∧(w'.cell? ⟨w.heap.size+1,0,none⟩=some (.bool b2)∧w'.cell? ⟨w.heap.size+1,1,none⟩=some (.string m2)∧w'.cell? ⟨w.heap.size+1,2,none⟩=some (.bool false)∧w'.cell? ⟨w.heap.size+1,3,none⟩=some (.string k2))) (L:=[]) (by kernel_rfl) ?_
 have X:=Lib.hid X.out.drew
 obtain ⟨V0,hV⟩:=wexi X.out
 rw [←hV] at X ⊢
 clear hV
 refine tk (i:=0) (oi:=⟨some 5,_,_,_,_,_⟩) (v:=_) rfl (by kernel_rfl) (fun _ _ _ h=>h) (⟨X.out.c4 (i:=0) rfl,X.out.c4 (i:=1) rfl⟩) (Or.inl ⟨by rfl,by intro w hSw;(try dsimp only at hSw);(first | (go_simp;done) | (go_simp;with_reducible rfl))⟩) ?_
 try simp only [Act.put,seti,set0,setS]
 refine tk (i:=1) (oi:=⟨some 6,_,_,_,_,_⟩) (v:=_) rfl (by kernel_rfl) (fun _ _ _ h=>h) (⟨X.out.c4 (i:=0) rfl,X.out.c4 (i:=1) rfl⟩) (Or.inl ⟨by rfl,by intro w hSw;(try dsimp only at hSw);(first | (go_simp;done) | (go_simp;with_reducible rfl))⟩) ?_
 try simp only [Act.put,seti,set0,setS]
 refine wpLate_one (i:=2) (o:=⟨some 7,_,_,_,_,_⟩) (by kernel_rfl) rfl (fun K hK=>?_)
 go_simp
 (go_at_call 46;refine (HN.out _).mono ?_;rintro e u1 ⟨rfl,hb9⟩;have X:=Lib.hid (X.out.next hb9);clear hb9)
 try go_wp2_with fail
 refine hK.out _ _ (Or.inr (fun _=>⟨X.out.c4 (i:=0) rfl,X.out.c4 (i:=1) rfl⟩)) ?_
 clear hK K
 try simp only [Act.put,seti,set0,setS]
 refine wpLate_one (i:=3) (o:=⟨some 8,_,_,_,_,_⟩) (by kernel_rfl) rfl (fun K hK=>?_)
 go_simp
 (go_at_call 43;refine (HA.out _).mono ?_;rintro e u2 ⟨rfl,hb9⟩;have X:=Lib.hid (X.out.next hb9);clear hb9)
 try go_wp2_with fail
 refine hK.out _ _ (Or.inr (fun _=>⟨X.out.c4 (i:=0) rfl,X.out.c4 (i:=1) rfl⟩)) ?_
 clear hK K
 try simp only [Act.put,seti,set0,setS]
 refine wpLate_one (i:=4) (o:=⟨none,_,_,_,_,_⟩) (by kernel_rfl) rfl (fun K hK=>?_)
 obtain ⟨x0,x1,x2,x3⟩:=X.out.c4 (i:=2) rfl
 obtain ⟨y0,y1,y2,y3⟩:=X.out.f4 (i:=2) rfl
 have X:=Lib.hid (X.out.set4 (i:=2) rfl (.bool b3) (.string m3) (.bool false) (.string k3))
 go_simp
 refine hK.out _ _ (Or.inr (fun _=>⟨X.out.c4 (i:=0) rfl,X.out.c4 (i:=1) rfl⟩)) ?_
 clear hK K x0 x1 x2 x3 y0 y1 y2 y3
 try simp only [Act.put,seti,set0,setS]
 obtain ⟨W3,hV⟩:=wexi X.out
 rw [←hV] at X ⊢
 clear hV
 refine wpLate_done (by kernel_rfl) ?_ _
 go_wp2
 obtain ⟨p0,p1,p2,p3⟩:=X.out.c4 (i:=2) rfl
 exact bodyPost_ret (v:=.agg #[.bool b3,.string m3,.bool false,.string k3]) (by simp [results,Tryz.results44,go_sem,p0,p1,p2,p3]) rfl ⟨rfl,X.out.bel⟩
end Go.Proofs.YtdbhahiieokplaaGreatDoor


namespace Go.Proofs.YtdbhahiieokplaaGreatDoor
open Go.RowKit
attribute [local go_sem ↓] Go.wp_at_zero Go.wp_at_succ

theorem cmpQ_le {p q:Rat}:cmpQ p q≤0↔p≤q:=by
 rw [Rat.le_iff]
 unfold cmpQ cmpZ
 split
 · exact ⟨fun _=>by omega,fun _=>by decide⟩
 · split
   · exact ⟨fun h=>absurd h (by decide),fun h=>by omega⟩
   · exact ⟨fun _=>by omega,fun _=>by decide⟩
theorem cmpQ_anti (p q:Rat):cmpQ q p=- cmpQ p q:=by
 unfold cmpQ cmpZ
 split<;>split<;>simp<;>omega
theorem cmpQ_ge {p q:Rat}:0≤cmpQ p q↔q≤p:=by
 have h:=@cmpQ_le q p
 rw [cmpQ_anti p q] at h
 rw [←h]
 omega
theorem cmpQ_three (p q:Rat):cmpQ p q=-1∨cmpQ p q=0∨cmpQ p q=1:=by
 unfold cmpQ cmpZ
 split
 · exact .inl rfl
 · split
   · exact .inr (.inr rfl)
   · exact .inr (.inl rfl)
theorem cmpQ_zero {p q:Rat}:cmpQ p q=0↔p=q :=
 ⟨fun h=>Rat.le_antisymm (cmpQ_le.1 (by omega)) (cmpQ_ge.1 (by omega)),fun h=>by have h1:=cmpQ_le.2 (show p≤q from h ▸ Rat.le_refl);have h2:=cmpQ_ge.2 (show q≤p from h ▸ Rat.le_refl);omega⟩
theorem cmpQ_of {p q r s:Rat} (h1:p≤q↔r≤s) (h2:q≤p↔s≤r):cmpQ p q=cmpQ r s:=by
 have h3:=cmpQ_three p q
 have h4:=cmpQ_three r s
 have h5:cmpQ p q≤0↔cmpQ r s≤0:=cmpQ_le.trans (h1.trans cmpQ_le.symm)
 have h6:0≤cmpQ p q↔0≤cmpQ r s:=cmpQ_ge.trans (h2.trans cmpQ_ge.symm)
 omega
theorem sign_cmp (q:Rat):q.num.sign=cmpQ q 0:=by
 unfold cmpQ
 rw [show (0:Rat).den=1 from rfl,show (0:Rat).num=0 from rfl,Int.zero_mul,Int.natCast_one,Int.mul_one]
 rcases Int.lt_trichotomy q.num 0 with h | h | h
 · rw [cmpZ_lt h,Int.sign_eq_neg_one_of_neg h]
 · rw [cmpZ_eq0 h,h];rfl
 · rw [cmpZ_gt h,Int.sign_eq_one_of_pos h]
theorem cmpQ_sub (p q:Rat):(p-q).num.sign=cmpQ p q:=by
 rw [sign_cmp]
 refine cmpQ_of ?_ ?_
 · rw [←Rat.not_lt,←Rat.not_lt,Rat.lt_iff_sub_pos q p]
 · rw [Rat.le_iff_sub_nonneg q p]

set_option maxHeartbeats 4000000 in
set_option maxRecDepth 100000 in
theorem rCompare_f {p q:Rat} {b1 b2:Bool} {m1 m2 k1 k2:ByteArray} (hp:Rq p b1 m1 k1) (hq:Rq q b2 m2 k2) (s1:m1.size≤10000) (s2:m2.size≤10000) (s3:(mag p.den).size≤10000) (s4:(mag q.den).size≤10000) (w:World) :
  Calls Tryz.prog 15 #[.agg #[.bool b1,.string m1,.bool false,.string k1],.agg #[.bool b2,.string m2,.bool false,.string k2]] w (RetB w (.int .i64 (cmpQ p q))):=by
 obtain ⟨b3,m3,k3,hd⟩:=Rq.some_ (p-q)
 have HS:=Lib.hid (fun V=>rSub_f hp hq hd s1 s2 s3 s4 V)
 have hg:=fun V=>rSign_f hd V
 rw [cmpQ_sub] at hg
 have HG:=Lib.hid hg
 have X:=Lib.hid (((Sb.start w).new #[.bool b1,.string m1,.bool false,.string k1] 25).new #[.bool b2,.string m2,.bool false,.string k2] 25)
 have X:=Lib.hid (X.out.pick [0,1] [(w.heap.size,#[.bool b1,.string m1,.bool false,.string k1],25),(w.heap.size+1,#[.bool b2,.string m2,.bool false,.string k2],25)] [] (by simp) (by decide) (by simp))
 clear hp hq hd hg
 go_enter Tryz.func15,Tryz.ntmps15
 obtain ⟨a0,a1,a2,a3⟩:=X.out.c4 (i:=0) rfl
 obtain ⟨c0,c1,c2,c3⟩:=X.out.c4 (i:=1) rfl
 go_wp2_with fail
 refine (HS.out _).mono ?_
 rintro e u1 ⟨rfl,hb9⟩
 have X:=Lib.hid (X.out.next hb9)
 clear hb9
 go_wp2_with fail
 refine (HG.out _).mono ?_
 rintro e u2 ⟨rfl,hb9⟩
 have X:=Lib.hid (X.out.next hb9)
 clear hb9
 go_wp2
 go_ret
 exact ⟨rfl,X.out.bel⟩

set_option maxHeartbeats 4000000 in
set_option maxRecDepth 100000 in
theorem ratMin_1 {b1 b2:Bool} {m1 m2 k1 k2:ByteArray} {z:Int} (hc:∀ V,Env V→Calls Tryz.prog 71 #[.agg #[.bool b1,.string m1,.bool false,.string k1],.agg #[.bool b2,.string m2,.bool false,.string k2]] V (RetB V (.int .i64 z))) (hz:z≤0) (w:World) (hE:Env w) :
  Calls Tryz.prog 108 #[.agg #[.bool b1,.string m1,.bool false,.string k1],.agg #[.bool b2,.string m2,.bool false,.string k2]] w (RetB w (.agg #[.bool b1,.string m1,.bool false,.string k1])):=by
 have HC:=Lib.hid hc
 have HE:=Lib.hid (fun V (h:Below w.heap.size w V)=>hE.next h)
 have X:=Lib.hid ((((Sb.start w).new #[.bool b1,.string m1,.bool false,.string k1] 25).new #[.bool b2,.string m2,.bool false,.string k2] 25).new #[.bool false,.string ⟨#[]⟩,.bool false,.string ⟨#[]⟩] 25)
 have X:=Lib.hid (X.out.pick [0,1,2] [(w.heap.size,#[.bool b1,.string m1,.bool false,.string k1],25),(w.heap.size+1,#[.bool b2,.string m2,.bool false,.string k2],25),(w.heap.size+1+1,#[.bool false,.string ⟨#[]⟩,.bool false,.string ⟨#[]⟩],25)] [] (by simp) (by decide) (by simp))
 have hz2:decide (z≤0)=true:=decide_eq_true hz
 have hz3:=hz
 clear hc hE
 go_enter Tryz.func108,Tryz.ntmps108
 obtain ⟨a0,a1,a2,a3⟩:=X.out.c4 (i:=0) rfl
 obtain ⟨c0,c1,c2,c3⟩:=X.out.c4 (i:=1) rfl
 go_wp2_with fail
 refine (HC.out _ (HE.out _ X.out.bel)).mono ?_
 rintro e u1 ⟨rfl,hb9⟩
 have X:=Lib.hid (X.out.next hb9)
 clear hb9 a0 a1 a2 a3 c0 c1 c2 c3
 obtain ⟨a0,a1,a2,a3⟩:=X.out.c4 (i:=0) rfl
 obtain ⟨c0,c1,c2,c3⟩:=X.out.c4 (i:=1) rfl
 obtain ⟨x0,x1,x2,x3⟩:=X.out.c4 (i:=2) rfl
 obtain ⟨y0,y1,y2,y3⟩:=X.out.f4 (i:=2) rfl
 go_wp2
 have X:=Lib.hid (X.out.set4 (i:=2) rfl (.bool b1) (.string m1) (.bool false) (.string k1))
 obtain ⟨p0,p1,p2,p3⟩:=X.out.c4 (i:=2) rfl
 exact bodyPost_ret (v:=.agg #[.bool b1,.string m1,.bool false,.string k1]) (by simp [results,Tryz.results108,go_sem,p0,p1,p2,p3]) rfl ⟨rfl,X.out.bel⟩

set_option maxHeartbeats 4000000 in
set_option maxRecDepth 100000 in
theorem ratMin_2 {b1 b2:Bool} {m1 m2 k1 k2:ByteArray} {z:Int} (hc:∀ V,Env V→Calls Tryz.prog 71 #[.agg #[.bool b1,.string m1,.bool false,.string k1],.agg #[.bool b2,.string m2,.bool false,.string k2]] V (RetB V (.int .i64 z))) (hz:0<z) (w:World) (hE:Env w) :
  Calls Tryz.prog 108 #[.agg #[.bool b1,.string m1,.bool false,.string k1],.agg #[.bool b2,.string m2,.bool false,.string k2]] w (RetB w (.agg #[.bool b2,.string m2,.bool false,.string k2])):=by
 have HC:=Lib.hid hc
 have HE:=Lib.hid (fun V (h:Below w.heap.size w V)=>hE.next h)
 have X:=Lib.hid ((((Sb.start w).new #[.bool b1,.string m1,.bool false,.string k1] 25).new #[.bool b2,.string m2,.bool false,.string k2] 25).new #[.bool false,.string ⟨#[]⟩,.bool false,.string ⟨#[]⟩] 25)
 have X:=Lib.hid (X.out.pick [0,1,2] [(w.heap.size,#[.bool b1,.string m1,.bool false,.string k1],25),(w.heap.size+1,#[.bool b2,.string m2,.bool false,.string k2],25),(w.heap.size+1+1,#[.bool false,.string ⟨#[]⟩,.bool false,.string ⟨#[]⟩],25)] [] (by simp) (by decide) (by simp))
 have hz2:decide (z≤0)=false:=decide_eq_false (by omega)
 have hz3:¬(z≤0):=by omega
 clear hc hE
 go_enter Tryz.func108,Tryz.ntmps108
 obtain ⟨a0,a1,a2,a3⟩:=X.out.c4 (i:=0) rfl
 obtain ⟨c0,c1,c2,c3⟩:=X.out.c4 (i:=1) rfl
 go_wp2_with fail
 refine (HC.out _ (HE.out _ X.out.bel)).mono ?_
 rintro e u1 ⟨rfl,hb9⟩
 have X:=Lib.hid (X.out.next hb9)
 clear hb9 a0 a1 a2 a3 c0 c1 c2 c3
 obtain ⟨a0,a1,a2,a3⟩:=X.out.c4 (i:=0) rfl
 obtain ⟨c0,c1,c2,c3⟩:=X.out.c4 (i:=1) rfl
 obtain ⟨x0,x1,x2,x3⟩:=X.out.c4 (i:=2) rfl
 obtain ⟨y0,y1,y2,y3⟩:=X.out.f4 (i:=2) rfl
 go_wp2
 have X:=Lib.hid (X.out.set4 (i:=2) rfl (.bool b2) (.string m2) (.bool false) (.string k2))
 obtain ⟨p0,p1,p2,p3⟩:=X.out.c4 (i:=2) rfl
 exact bodyPost_ret (v:=.agg #[.bool b2,.string m2,.bool false,.string k2]) (by simp [results,Tryz.results108,go_sem,p0,p1,p2,p3]) rfl ⟨rfl,X.out.bel⟩

set_option maxHeartbeats 4000000 in
set_option maxRecDepth 100000 in
theorem ratMax_1 {b1 b2:Bool} {m1 m2 k1 k2:ByteArray} {z:Int} (hc:∀ V,Env V→Calls Tryz.prog 71 #[.agg #[.bool b1,.string m1,.bool false,.string k1],.agg #[.bool b2,.string m2,.bool false,.string k2]] V (RetB V (.int .i64 z))) (hz:0≤z) (w:World) (hE:Env w) :
  Calls Tryz.prog 107 #[.agg #[.bool b1,.string m1,.bool false,.string k1],.agg #[.bool b2,.string m2,.bool false,.string k2]] w (RetB w (.agg #[.bool b1,.string m1,.bool false,.string k1])):=by
 have HC:=Lib.hid hc
 have HE:=Lib.hid (fun V (h:Below w.heap.size w V)=>hE.next h)
 have X:=Lib.hid ((((Sb.start w).new #[.bool b1,.string m1,.bool false,.string k1] 25).new #[.bool b2,.string m2,.bool false,.string k2] 25).new #[.bool false,.string ⟨#[]⟩,.bool false,.string ⟨#[]⟩] 25)
 have X:=Lib.hid (X.out.pick [0,1,2] [(w.heap.size,#[.bool b1,.string m1,.bool false,.string k1],25),(w.heap.size+1,#[.bool b2,.string m2,.bool false,.string k2],25),(w.heap.size+1+1,#[.bool false,.string ⟨#[]⟩,.bool false,.string ⟨#[]⟩],25)] [] (by simp) (by decide) (by simp))
 have hz2:decide (0≤z)=true:=decide_eq_true hz
 have hz3:=hz
 clear hc hE
 go_enter Tryz.func107,Tryz.ntmps107
 obtain ⟨a0,a1,a2,a3⟩:=X.out.c4 (i:=0) rfl
 obtain ⟨c0,c1,c2,c3⟩:=X.out.c4 (i:=1) rfl
 go_wp2_with fail
 refine (HC.out _ (HE.out _ X.out.bel)).mono ?_
 rintro e u1 ⟨rfl,hb9⟩
 have X:=Lib.hid (X.out.next hb9)
 clear hb9 a0 a1 a2 a3 c0 c1 c2 c3
 obtain ⟨a0,a1,a2,a3⟩:=X.out.c4 (i:=0) rfl
 obtain ⟨c0,c1,c2,c3⟩:=X.out.c4 (i:=1) rfl
 obtain ⟨x0,x1,x2,x3⟩:=X.out.c4 (i:=2) rfl
 obtain ⟨y0,y1,y2,y3⟩:=X.out.f4 (i:=2) rfl
 go_wp2
 have X:=Lib.hid (X.out.set4 (i:=2) rfl (.bool b1) (.string m1) (.bool false) (.string k1))
 obtain ⟨p0,p1,p2,p3⟩:=X.out.c4 (i:=2) rfl
 exact bodyPost_ret (v:=.agg #[.bool b1,.string m1,.bool false,.string k1]) (by simp [results,Tryz.results107,go_sem,p0,p1,p2,p3]) rfl ⟨rfl,X.out.bel⟩

set_option maxHeartbeats 4000000 in
set_option maxRecDepth 100000 in
theorem ratMax_2 {b1 b2:Bool} {m1 m2 k1 k2:ByteArray} {z:Int} (hc:∀ V,Env V→Calls Tryz.prog 71 #[.agg #[.bool b1,.string m1,.bool false,.string k1],.agg #[.bool b2,.string m2,.bool false,.string k2]] V (RetB V (.int .i64 z))) (hz:z<0) (w:World) (hE:Env w) :
  Calls Tryz.prog 107 #[.agg #[.bool b1,.string m1,.bool false,.string k1],.agg #[.bool b2,.string m2,.bool false,.string k2]] w (RetB w (.agg #[.bool b2,.string m2,.bool false,.string k2])):=by
 have HC:=Lib.hid hc
 have HE:=Lib.hid (fun V (h:Below w.heap.size w V)=>hE.next h)
 have X:=Lib.hid ((((Sb.start w).new #[.bool b1,.string m1,.bool false,.string k1] 25).new #[.bool b2,.string m2,.bool false,.string k2] 25).new #[.bool false,.string ⟨#[]⟩,.bool false,.string ⟨#[]⟩] 25)
 have X:=Lib.hid (X.out.pick [0,1,2] [(w.heap.size,#[.bool b1,.string m1,.bool false,.string k1],25),(w.heap.size+1,#[.bool b2,.string m2,.bool false,.string k2],25),(w.heap.size+1+1,#[.bool false,.string ⟨#[]⟩,.bool false,.string ⟨#[]⟩],25)] [] (by simp) (by decide) (by simp))
 have hz2:decide (0≤z)=false:=decide_eq_false (by omega)
 have hz3:¬(0≤z):=by omega
 clear hc hE
 go_enter Tryz.func107,Tryz.ntmps107
 obtain ⟨a0,a1,a2,a3⟩:=X.out.c4 (i:=0) rfl
 obtain ⟨c0,c1,c2,c3⟩:=X.out.c4 (i:=1) rfl
 go_wp2_with fail
 refine (HC.out _ (HE.out _ X.out.bel)).mono ?_
 rintro e u1 ⟨rfl,hb9⟩
 have X:=Lib.hid (X.out.next hb9)
 clear hb9 a0 a1 a2 a3 c0 c1 c2 c3
 obtain ⟨a0,a1,a2,a3⟩:=X.out.c4 (i:=0) rfl
 obtain ⟨c0,c1,c2,c3⟩:=X.out.c4 (i:=1) rfl
 obtain ⟨x0,x1,x2,x3⟩:=X.out.c4 (i:=2) rfl
 obtain ⟨y0,y1,y2,y3⟩:=X.out.f4 (i:=2) rfl
 go_wp2
 have X:=Lib.hid (X.out.set4 (i:=2) rfl (.bool b2) (.string m2) (.bool false) (.string k2))
 obtain ⟨p0,p1,p2,p3⟩:=X.out.c4 (i:=2) rfl
 exact bodyPost_ret (v:=.agg #[.bool b2,.string m2,.bool false,.string k2]) (by simp [results,Tryz.results107,go_sem,p0,p1,p2,p3]) rfl ⟨rfl,X.out.bel⟩
end Go.Proofs.YtdbhahiieokplaaGreatDoor


namespace Go.Proofs.YtdbhahiieokplaaGreatDoor
open Go.RowKit

section
variable {w W:World} {l:List (Nat×Array Value×TypeId)} {rs:List (Option Addr×Nat×Nat×Nat)} {g:Nat} {T:TypeId}

theorem Sb.c9 (h:Sb w l rs W) {i:Nat} {x0 x1 x2 x3 x4 x5 x6 x7 x8:Value} (hl:l[i]?=some (g,#[x0,x1,x2,x3,x4,x5,x6,x7,x8],T)):W.cell? ⟨g,0,none⟩=some x0∧W.cell? ⟨g,1,none⟩=some x1∧W.cell? ⟨g,2,none⟩=some x2∧W.cell? ⟨g,3,none⟩=some x3∧W.cell? ⟨g,4,none⟩=some x4∧W.cell? ⟨g,5,none⟩=some x5∧W.cell? ⟨g,6,none⟩=some x6∧W.cell? ⟨g,7,none⟩=some x7∧W.cell? ⟨g,8,none⟩=some x8:=by
 have hk:=h.at hl
 refine ⟨?_,?_,?_,?_,?_,?_,?_,?_,?_⟩<;>simp [World.cell?,hk]
theorem Sb.f9 (h:Sb w l rs W) {i:Nat} {x0 x1 x2 x3 x4 x5 x6 x7 x8:Value} (hl:l[i]?=some (g,#[x0,x1,x2,x3,x4,x5,x6,x7,x8],T)):W.frozen? ⟨g,0,none⟩=false∧W.frozen? ⟨g,1,none⟩=false∧W.frozen? ⟨g,2,none⟩=false∧W.frozen? ⟨g,3,none⟩=false∧W.frozen? ⟨g,4,none⟩=false∧W.frozen? ⟨g,5,none⟩=false∧W.frozen? ⟨g,6,none⟩=false∧W.frozen? ⟨g,7,none⟩=false∧W.frozen? ⟨g,8,none⟩=false:=by
 have hk:=h.at hl
 refine ⟨?_,?_,?_,?_,?_,?_,?_,?_,?_⟩<;>simp [World.frozen?,hk]
end

structure Rv (x:Sg.Rl) (b:Bool) (m k:ByteArray) (c:Bool) (n l:ByteArray) (s:Bool):Prop where
 p:Rq x.p b m k
 r:Rq x.a c n l
 neg:s=decide (x.s<0)
structure Rz (n:Nat) (x:Sg.Rl):Prop where
 p:Sz n x.p
 r:Sz n x.a
theorem Rv.some_ (x:Sg.Rl):∃ b m k c n l s,Rv x b m k c n l s:=⟨_,_,_,_,_,_,_,⟨rfl,rfl⟩,⟨rfl,rfl⟩,rfl⟩
theorem Sz.up {n m:Nat} {q:Rat} (h:Sz n q) (hm:n≤m):Sz m q:=⟨Nat.lt_of_lt_of_le h.1 (Nat.pow_le_pow_right (by decide) hm),Nat.lt_of_lt_of_le h.2 (Nat.pow_le_pow_right (by decide) hm)⟩
theorem Sz.zero (n:Nat):Sz (n+1) 0:=⟨Nat.pow_pos (by decide),by show 1<256^(n+1);rw [Nat.pow_succ];have:=Nat.pow_pos (a:=256) (n:=n) (by decide);omega⟩

theorem num_neg_iff {q:Rat}:q.num<0↔q<0:=by rw [←Int.not_le,Rat.num_nonneg,Rat.not_le]
theorem num_pos_iff {q:Rat}:0<q.num↔0<q:=by
 have h1:=Rat.num_nonneg (q:=q)
 have h2:=Rat.num_eq_zero (q:=q)
 constructor<;>intro h
 · have:0≤q:=h1.1 (by omega)
   have:q≠0:=fun e=>by rw [h2.2 e] at h;omega
   grind
 · have h3:0≤q.num:=h1.2 (by grind)
   have h4:q.num≠0:=fun e=>by have:=h2.1 e;grind
   omega
theorem sgq_num (q:Rat):Sg.sgq q=q.num.sign:=by
 rcases Sg.sgq_three q with ⟨h,e⟩ | ⟨h,e⟩ | ⟨h,e⟩
 · rw [e,Int.sign_eq_neg_one_of_neg (num_neg_iff.2 h)]
 · rw [e,h];rfl
 · rw [e,Int.sign_eq_one_of_pos (num_pos_iff.2 h)]
theorem Rq.zero:Rq 0 false ⟨#[]⟩ ⟨#[]⟩:=⟨by rw [show (0:Rat).num=0 from rfl];exact enc_nought,by rw [show (0:Rat).den=1 from rfl];exact dm_one.symm⟩
theorem Rq.nought {q:Rat} {b:Bool} {m k:ByteArray} (h:Rq q b m k):q=0↔(b=false∧m=⟨#[]⟩∧k=⟨#[]⟩):=by
 constructor
 · rintro rfl
   exact h.inj Rq.zero
 · rintro ⟨rfl,rfl,rfl⟩
   exact h.eq_of Rq.zero
end Go.Proofs.YtdbhahiieokplaaGreatDoor


namespace Go.Proofs.YtdbhahiieokplaaGreatDoor
open Go.RowKit
attribute [local go_sem ↓] Go.wp_at_zero Go.wp_at_succ

set_option maxHeartbeats 1000000 in
set_option maxRecDepth 100000 in
theorem enter_add (args:Array Value) (W:World):(callFunc 128 args).run Tryz.prog W=.ok (.enter 128 args) W:=by
 have hf:=Tryz.func128
 simp [callFunc,go_sem,hf]
 first | rfl | kernel_rfl | decide

set_option maxHeartbeats 1000000 in
set_option maxRecDepth 100000 in
theorem enter_sub (args:Array Value) (W:World):(callFunc 127 args).run Tryz.prog W=.ok (.enter 127 args) W:=by
 have hf:=Tryz.func127
 simp [callFunc,go_sem,hf]
 first | rfl | kernel_rfl | decide

set_option maxHeartbeats 4000000 in
set_option maxRecDepth 100000 in
theorem combine_int (OP:FuncId) (hEn:∀ (args:Array Value) (W:World),(callFunc OP args).run Tryz.prog W=.ok (.enter OP args) W) {b1 b2 b3:Bool} {m1 m2 m3:ByteArray} (hop:∀ V,Calls Tryz.prog OP #[.agg #[.bool b1,.string m1],.agg #[.bool b2,.string m2]] V (RetB V (.agg #[.bool b3,.string m3]))) (w:World) :
  Calls Tryz.prog 126 #[.agg #[.bool b1,.string m1,.bool false,.string ⟨#[]⟩],.agg #[.bool b2,.string m2,.bool false,.string ⟨#[]⟩],.func (.func OP) #[] #[]] w (RetB w (.agg #[.bool b3,.string m3,.bool false,.string ⟨#[]⟩])):=by
 have HO:=Lib.hid hop
 have KK:=Lib.hid (Kc.start w #[.bool b1,.string m1,.bool false,.string ⟨#[]⟩] #[.bool b2,.string m2,.bool false,.string ⟨#[]⟩] #[.bool false,.string ⟨#[]⟩,.bool false,.string ⟨#[]⟩] 25 25 25)
 have HI1:=Lib.hid (fun V=>isInteger_yes b1 m1 V)
 have HI2:=Lib.hid (fun V=>isInteger_yes b2 m2 V)
 clear hop
 obtain ⟨p0,p1,p2,p3⟩:=blk4 KK.out.k1
 obtain ⟨q0,q1,q2,q3⟩:=blk4 KK.out.k2
 go_enter Tryz.func126,Tryz.ntmps126
 go_wp2_with fail
 refine (HI1.out _).mono ?_
 rintro e w1 ⟨rfl,hb1⟩
 have KK:=Lib.hid (KK.out.next hb1)
 clear hb1 p0 p1 p2 p3 q0 q1 q2 q3
 obtain ⟨p0,p1,p2,p3⟩:=blk4 KK.out.k1
 obtain ⟨q0,q1,q2,q3⟩:=blk4 KK.out.k2
 go_wp2_with fail
 refine (HI2.out _).mono ?_
 rintro e w2 ⟨rfl,hb2⟩
 have KK:=Lib.hid (KK.out.next hb2)
 clear hb2 p0 p1 p2 p3 q0 q1 q2 q3
 obtain ⟨p0,p1,p2,p3⟩:=blk4 KK.out.k1
 obtain ⟨q0,q1,q2,q3⟩:=blk4 KK.out.k2
 go_wp2_with fail
 refine (HO.out _).mono ?_
 rintro e w3 ⟨rfl,hb3⟩
 have K1:=Lib.hid (KK.out.next hb3)
 obtain ⟨t0,t1,t2,t3⟩:=blk4 K1.out.k3
 obtain ⟨f0,f1,f2,f3⟩:=fro4 K1.out.k3
 clear hb3
 go_wp2
 exact bodyPost_ret (v:=.agg #[.bool b3,.string m3,.bool false,.string ⟨#[]⟩]) (by simp [results,Tryz.results126,go_sem,t0,t1,t2,t3]) rfl ⟨rfl,below_set4 K1.out.bel (by omega) _ _ _ _⟩

set_option maxHeartbeats 4000000 in
set_option maxRecDepth 100000 in
theorem ratAdd_f {p q:Rat} {b1 b2 b3:Bool} {m1 m2 m3 k1 k2 k3:ByteArray} (hp:Rq p b1 m1 k1) (hq:Rq q b2 m2 k2) (hr:Rq (p+q) b3 m3 k3) (s1:m1.size≤10000) (s2:m2.size≤10000) (s3:(mag p.den).size≤10000) (s4:(mag q.den).size≤10000) (w:World) (hE:Env w) :
  Calls Tryz.prog 83 #[.agg #[.bool b1,.string m1,.bool false,.string k1],.agg #[.bool b2,.string m2,.bool false,.string k2]] w (RetB w (.agg #[.bool b3,.string m3,.bool false,.string k3])):=by
 have hcm:∀ V,Env V→Calls Tryz.prog 126 #[.agg #[.bool b1,.string m1,.bool false,.string k1],.agg #[.bool b2,.string m2,.bool false,.string k2],.func (.func 128) #[] #[]] V (RetB V (.agg #[.bool b3,.string m3,.bool false,.string k3])):=by
  intro V hV
  by_cases hint:p.den=1∧q.den=1
  · obtain ⟨h1,h2⟩:=hint
    have hz:p+q=((p.num+q.num:Int):Rat):=by
     rw [int_of_den h1,int_of_den h2]
     simp only [Rat.num_intCast]
     exact (Rat.intCast_add _ _).symm
    rw [hz] at hr
    obtain rfl:=hp.den1 h1
    obtain rfl:=hq.den1 h2
    obtain rfl:=hr.den1 (Rat.den_intCast _)
    have hn:=hr.num
    rw [Rat.num_intCast] at hn
    exact combine_int 128 enter_add (fun V=>add_f hp.num hq.num (by omega) (by omega) hn rfl V) V
  · obtain ⟨bt,mt,ht⟩:=enc_form (p.num*((q.den / Nat.gcd p.den q.den:Nat):Int)+q.num*((p.den / Nat.gcd p.den q.den:Nat):Int))
    obtain ⟨e1,e2⟩:=add_parts p q (g:=Nat.gcd p.den q.den) rfl rfl rfl rfl
    have n1:=nd_mul p.num.natAbs (q.den / Nat.gcd p.den q.den)
    have n2:=nd_mul q.num.natAbs (p.den / Nat.gcd p.den q.den)
    have n3:nd (q.den / Nat.gcd p.den q.den)≤10000:=Nat.le_trans (nd_div _ _) s4
    have n4:nd (p.den / Nat.gcd p.den q.den)≤10000:=Nat.le_trans (nd_div _ _) s3
    have n5:nd p.num.natAbs≤10000:=by unfold nd;rw [←hp.mag.2];exact s1
    have n6:nd q.num.natAbs≤10000:=by unfold nd;rw [←hq.mag.2];exact s2
    have n7:mt.size≤50000:=by
     rw [(enc_parts ht).2]
     refine Nat.le_trans (nd_mono (Y:=p.num.natAbs*(q.den / Nat.gcd p.den q.den)+q.num.natAbs*(p.den / Nat.gcd p.den q.den)) ?_) (Nat.le_trans (nd_add _ _) (by omega))
     have h1:=Int.natAbs_add_le (p.num*((q.den / Nat.gcd p.den q.den:Nat):Int)) (q.num*((p.den / Nat.gcd p.den q.den:Nat):Int))
     rw [Int.natAbs_mul,Int.natAbs_mul,Int.natAbs_natCast,Int.natAbs_natCast] at h1
     exact h1
    obtain ⟨bg,mg,hg⟩:=enc_form ((Nat.gcd p.den q.den:Nat):Int)
    have hmn:=hr.num
    rw [e1] at hmn
    have hk3:=hr.den
    rw [e2] at hk3
    rw [hk3]
    refine ratCombine_any 128 enter_add hp hq hint rfl rfl rfl hg ht ?_ rfl rfl rfl hmn s1 s2 s3 s4 n7 V hV
    intro x y c1 c2 t1 t2 ex ey hx hy U
    have z1:t1.size≤30000:=by
     rw [(enc_parts hx).2,ex,Int.natAbs_mul,Int.natAbs_natCast]
     exact Nat.le_trans n1 (by omega)
    have z2:t2.size≤30000:=by
     rw [(enc_parts hy).2,ey,Int.natAbs_mul,Int.natAbs_natCast]
     exact Nat.le_trans n2 (by omega)
    exact add_f hx hy (by omega) (by omega) ht (by rw [ex,ey]) U
 have HC:=Lib.hid hcm
 have HE:=Lib.hid (fun V (h:Below w.heap.size w V)=>hE.next h)
 have KK:=Lib.hid (Kc.start w #[.bool b1,.string m1,.bool false,.string k1] #[.bool b2,.string m2,.bool false,.string k2] #[.bool false,.string ⟨#[]⟩,.bool false,.string ⟨#[]⟩] 25 25 25)
 obtain ⟨p0,p1,p2,p3⟩:=blk4 KK.out.k1
 obtain ⟨q0,q1,q2,q3⟩:=blk4 KK.out.k2
 clear hp hq hr hcm hE s1 s2 s3 s4
 go_enter Tryz.func83,Tryz.ntmps83
 go_wp2_with fail
 refine (HC.out _ (HE.out _ KK.out.bel)).mono ?_
 rintro e w1 ⟨rfl,hb1⟩
 have K1:=Lib.hid (KK.out.next hb1)
 obtain ⟨t0,t1,t2,t3⟩:=blk4 K1.out.k3
 obtain ⟨f0,f1,f2,f3⟩:=fro4 K1.out.k3
 clear hb1
 go_wp2
 exact bodyPost_ret (v:=.agg #[.bool b3,.string m3,.bool false,.string k3]) (by simp [results,Tryz.results83,go_sem,t0,t1,t2,t3]) rfl ⟨rfl,below_set4 K1.out.bel (by omega) _ _ _ _⟩

set_option maxHeartbeats 4000000 in
set_option maxRecDepth 100000 in
theorem ratSub_f {p q:Rat} {b1 b2 b3:Bool} {m1 m2 m3 k1 k2 k3:ByteArray} (hp:Rq p b1 m1 k1) (hq:Rq q b2 m2 k2) (hr:Rq (p-q) b3 m3 k3) (s1:m1.size≤10000) (s2:m2.size≤10000) (s3:(mag p.den).size≤10000) (s4:(mag q.den).size≤10000) (w:World) (hE:Env w) :
  Calls Tryz.prog 81 #[.agg #[.bool b1,.string m1,.bool false,.string k1],.agg #[.bool b2,.string m2,.bool false,.string k2]] w (RetB w (.agg #[.bool b3,.string m3,.bool false,.string k3])):=by
 have hcm:∀ V,Env V→Calls Tryz.prog 126 #[.agg #[.bool b1,.string m1,.bool false,.string k1],.agg #[.bool b2,.string m2,.bool false,.string k2],.func (.func 127) #[] #[]] V (RetB V (.agg #[.bool b3,.string m3,.bool false,.string k3])):=by
  intro V hV
  by_cases hint:p.den=1∧q.den=1
  · obtain ⟨h1,h2⟩:=hint
    have hz:p-q=((p.num-q.num:Int):Rat):=by
     rw [int_of_den h1,int_of_den h2]
     simp only [Rat.num_intCast]
     exact (Rat.intCast_sub _ _).symm
    rw [hz] at hr
    obtain rfl:=hp.den1 h1
    obtain rfl:=hq.den1 h2
    obtain rfl:=hr.den1 (Rat.den_intCast _)
    have hn:=hr.num
    rw [Rat.num_intCast] at hn
    exact combine_int 127 enter_sub (fun V=>sub_f hp.num hq.num (by omega) (by omega) hn rfl V) V
  · obtain ⟨bt,mt,ht⟩:=enc_form (p.num*((q.den / Nat.gcd p.den q.den:Nat):Int)-q.num*((p.den / Nat.gcd p.den q.den:Nat):Int))
    obtain ⟨e1,e2⟩:=sub_parts p q (g:=Nat.gcd p.den q.den) rfl rfl rfl rfl
    have n1:=nd_mul p.num.natAbs (q.den / Nat.gcd p.den q.den)
    have n2:=nd_mul q.num.natAbs (p.den / Nat.gcd p.den q.den)
    have n3:nd (q.den / Nat.gcd p.den q.den)≤10000:=Nat.le_trans (nd_div _ _) s4
    have n4:nd (p.den / Nat.gcd p.den q.den)≤10000:=Nat.le_trans (nd_div _ _) s3
    have n5:nd p.num.natAbs≤10000:=by unfold nd;rw [←hp.mag.2];exact s1
    have n6:nd q.num.natAbs≤10000:=by unfold nd;rw [←hq.mag.2];exact s2
    have n7:mt.size≤50000:=by
     rw [(enc_parts ht).2]
     refine Nat.le_trans (nd_mono (Y:=p.num.natAbs*(q.den / Nat.gcd p.den q.den)+q.num.natAbs*(p.den / Nat.gcd p.den q.den)) ?_) (Nat.le_trans (nd_add _ _) (by omega))
     have h1:=Int.natAbs_sub_le (p.num*((q.den / Nat.gcd p.den q.den:Nat):Int)) (q.num*((p.den / Nat.gcd p.den q.den:Nat):Int))
     rw [Int.natAbs_mul,Int.natAbs_mul,Int.natAbs_natCast,Int.natAbs_natCast] at h1
     exact h1
    obtain ⟨bg,mg,hg⟩:=enc_form ((Nat.gcd p.den q.den:Nat):Int)
    have hmn:=hr.num
    rw [e1] at hmn
    have hk3:=hr.den
    rw [e2] at hk3
    rw [hk3]
    refine ratCombine_any 127 enter_sub hp hq hint rfl rfl rfl hg ht ?_ rfl rfl rfl hmn s1 s2 s3 s4 n7 V hV
    intro x y c1 c2 t1 t2 ex ey hx hy U
    have z1:t1.size≤30000:=by
     rw [(enc_parts hx).2,ex,Int.natAbs_mul,Int.natAbs_natCast]
     exact Nat.le_trans n1 (by omega)
    have z2:t2.size≤30000:=by
     rw [(enc_parts hy).2,ey,Int.natAbs_mul,Int.natAbs_natCast]
     exact Nat.le_trans n2 (by omega)
    exact sub_f hx hy (by omega) (by omega) ht (by rw [ex,ey]) U
 have HC:=Lib.hid hcm
 have HE:=Lib.hid (fun V (h:Below w.heap.size w V)=>hE.next h)
 have KK:=Lib.hid (Kc.start w #[.bool b1,.string m1,.bool false,.string k1] #[.bool b2,.string m2,.bool false,.string k2] #[.bool false,.string ⟨#[]⟩,.bool false,.string ⟨#[]⟩] 25 25 25)
 obtain ⟨p0,p1,p2,p3⟩:=blk4 KK.out.k1
 obtain ⟨q0,q1,q2,q3⟩:=blk4 KK.out.k2
 clear hp hq hr hcm hE s1 s2 s3 s4
 go_enter Tryz.func81,Tryz.ntmps81
 go_wp2_with fail
 refine (HC.out _ (HE.out _ KK.out.bel)).mono ?_
 rintro e w1 ⟨rfl,hb1⟩
 have K1:=Lib.hid (KK.out.next hb1)
 obtain ⟨t0,t1,t2,t3⟩:=blk4 K1.out.k3
 obtain ⟨f0,f1,f2,f3⟩:=fro4 K1.out.k3
 clear hb1
 go_wp2
 exact bodyPost_ret (v:=.agg #[.bool b3,.string m3,.bool false,.string k3]) (by simp [results,Tryz.results81,go_sem,t0,t1,t2,t3]) rfl ⟨rfl,below_set4 K1.out.bel (by omega) _ _ _ _⟩
end Go.Proofs.YtdbhahiieokplaaGreatDoor


namespace Go.Proofs.YtdbhahiieokplaaGreatDoor
open Go.RowKit
attribute [local go_sem ↓] Go.wp_at_zero Go.wp_at_succ
theorem mul_z {p q:Rat} {b1 b2:Bool} {m1 m2 k1 k2:ByteArray} {b3:Bool} {m3 k3:ByteArray} (hp:Rq p b1 m1 k1) (hq:Rq q b2 m2 k2) (hr:Rq (p*q) b3 m3 k3) (zp:Sz 10000 p) (zq:Sz 10000 q) (w:World) (hE:Env w) :
 Calls Tryz.prog 51 #[.agg #[.bool b1,.string m1,.bool false,.string k1],.agg #[.bool b2,.string m2,.bool false,.string k2]] w (RetB w (.agg #[.bool b3,.string m3,.bool false,.string k3])):=ratMul_f hp hq hr (zp.m hp (Nat.le_refl _)).1 (zq.m hq (Nat.le_refl _)).1 (zp.m hp (Nat.le_refl _)).2 (zq.m hq (Nat.le_refl _)).2 w hE
theorem rmul_z {p q:Rat} {b1 b2:Bool} {m1 m2 k1 k2:ByteArray} {b3:Bool} {m3 k3:ByteArray} (hp:Rq p b1 m1 k1) (hq:Rq q b2 m2 k2) (hr:Rq (p*q) b3 m3 k3) (zp:Sz 10000 p) (zq:Sz 10000 q) (w:World) :
 Calls Tryz.prog 45 #[.agg #[.bool b1,.string m1,.bool false,.string k1],.agg #[.bool b2,.string m2,.bool false,.string k2]] w (RetB w (.agg #[.bool b3,.string m3,.bool false,.string k3])):=rMul_f hp hq hr (zp.m hp (Nat.le_refl _)).1 (zq.m hq (Nat.le_refl _)).1 (zp.m hp (Nat.le_refl _)).2 (zq.m hq (Nat.le_refl _)).2 w
theorem add_z {p q:Rat} {b1 b2:Bool} {m1 m2 k1 k2:ByteArray} {b3:Bool} {m3 k3:ByteArray} (hp:Rq p b1 m1 k1) (hq:Rq q b2 m2 k2) (hr:Rq (p+q) b3 m3 k3) (zp:Sz 10000 p) (zq:Sz 10000 q) (w:World) (hE:Env w) :
 Calls Tryz.prog 83 #[.agg #[.bool b1,.string m1,.bool false,.string k1],.agg #[.bool b2,.string m2,.bool false,.string k2]] w (RetB w (.agg #[.bool b3,.string m3,.bool false,.string k3])):=ratAdd_f hp hq hr (zp.m hp (Nat.le_refl _)).1 (zq.m hq (Nat.le_refl _)).1 (zp.m hp (Nat.le_refl _)).2 (zq.m hq (Nat.le_refl _)).2 w hE
theorem radd_z {p q:Rat} {b1 b2:Bool} {m1 m2 k1 k2:ByteArray} {b3:Bool} {m3 k3:ByteArray} (hp:Rq p b1 m1 k1) (hq:Rq q b2 m2 k2) (hr:Rq (p+q) b3 m3 k3) (zp:Sz 10000 p) (zq:Sz 10000 q) (w:World) :
 Calls Tryz.prog 43 #[.agg #[.bool b1,.string m1,.bool false,.string k1],.agg #[.bool b2,.string m2,.bool false,.string k2]] w (RetB w (.agg #[.bool b3,.string m3,.bool false,.string k3])):=rAdd_f hp hq hr (zp.m hp (Nat.le_refl _)).1 (zq.m hq (Nat.le_refl _)).1 (zp.m hp (Nat.le_refl _)).2 (zq.m hq (Nat.le_refl _)).2 w
theorem sub_z {p q:Rat} {b1 b2:Bool} {m1 m2 k1 k2:ByteArray} {b3:Bool} {m3 k3:ByteArray} (hp:Rq p b1 m1 k1) (hq:Rq q b2 m2 k2) (hr:Rq (p-q) b3 m3 k3) (zp:Sz 10000 p) (zq:Sz 10000 q) (w:World) (hE:Env w) :
 Calls Tryz.prog 81 #[.agg #[.bool b1,.string m1,.bool false,.string k1],.agg #[.bool b2,.string m2,.bool false,.string k2]] w (RetB w (.agg #[.bool b3,.string m3,.bool false,.string k3])):=ratSub_f hp hq hr (zp.m hp (Nat.le_refl _)).1 (zq.m hq (Nat.le_refl _)).1 (zp.m hp (Nat.le_refl _)).2 (zq.m hq (Nat.le_refl _)).2 w hE
theorem rsub_z {p q:Rat} {b1 b2:Bool} {m1 m2 k1 k2:ByteArray} {b3:Bool} {m3 k3:ByteArray} (hp:Rq p b1 m1 k1) (hq:Rq q b2 m2 k2) (hr:Rq (p-q) b3 m3 k3) (zp:Sz 10000 p) (zq:Sz 10000 q) (w:World) :
 Calls Tryz.prog 44 #[.agg #[.bool b1,.string m1,.bool false,.string k1],.agg #[.bool b2,.string m2,.bool false,.string k2]] w (RetB w (.agg #[.bool b3,.string m3,.bool false,.string k3])):=rSub_f hp hq hr (zp.m hp (Nat.le_refl _)).1 (zq.m hq (Nat.le_refl _)).1 (zp.m hp (Nat.le_refl _)).2 (zq.m hq (Nat.le_refl _)).2 w
theorem div_z {p q:Rat} {b1 b2:Bool} {m1 m2 k1 k2:ByteArray} {b3:Bool} {m3 k3:ByteArray} (hp:Rq p b1 m1 k1) (hq:Rq q b2 m2 k2) (hr:Rq (p / q) b3 m3 k3) (h0:q.num≠0) (zp:Sz 10000 p) (zq:Sz 10000 q) (w:World) (hE:Env w) :
 Calls Tryz.prog 88 #[.agg #[.bool b1,.string m1,.bool false,.string k1],.agg #[.bool b2,.string m2,.bool false,.string k2]] w (RetB w (.tuple #[.agg #[.bool b3,.string m3,.bool false,.string k3],.int .i64 0])):=ratDiv_f hp hq hr h0 (zp.m hp (Nat.le_refl _)).1 (zq.m hq (Nat.le_refl _)).1 (zp.m hp (Nat.le_refl _)).2 (zq.m hq (Nat.le_refl _)).2 w hE
theorem rdiv_z {p q:Rat} {b1 b2:Bool} {m1 m2 k1 k2:ByteArray} {b3:Bool} {m3 k3:ByteArray} (hp:Rq p b1 m1 k1) (hq:Rq q b2 m2 k2) (hr:Rq (p / q) b3 m3 k3) (h0:q.num≠0) (zp:Sz 10000 p) (zq:Sz 10000 q) (w:World) :
 Calls Tryz.prog 47 #[.agg #[.bool b1,.string m1,.bool false,.string k1],.agg #[.bool b2,.string m2,.bool false,.string k2]] w (RetB w (.agg #[.bool b3,.string m3,.bool false,.string k3])):=rDiv_f hp hq hr h0 (zp.m hp (Nat.le_refl _)).1 (zq.m hq (Nat.le_refl _)).1 (zp.m hp (Nat.le_refl _)).2 (zq.m hq (Nat.le_refl _)).2 w
theorem sign_z {q:Rat} {b:Bool} {m k:ByteArray} (h:Rq q b m k) (w:World):Calls Tryz.prog 95 #[.agg #[.bool b,.string m,.bool false,.string k]] w (RetB w (.int .i64 (Sg.sgq q))):=by
 rw [sgq_num]
 exact ratSign_f h w
theorem Sz.sub {n m:Nat} {p q:Rat} (hp:Sz n p) (hq:Sz m q):Sz (n+m+1) (p-q):=by
 rw [Rat.sub_eq_add_neg]
 exact hp.add hq.minus
end Go.Proofs.YtdbhahiieokplaaGreatDoor


namespace Go.Proofs.YtdbhahiieokplaaGreatDoor
open Go.RowKit
attribute [local go_sem ↓] Go.wp_at_zero Go.wp_at_succ

theorem size_pos {n:ByteArray} (h:n≠⟨#[]⟩):0<n.size:=by
 rcases Nat.eq_zero_or_pos n.size with h1 | h1
 · exact absurd (ext_bytes (t:=⟨#[]⟩) h1 (fun i h2 _=>by omega)) h
 · exact h1
theorem Rq.ne {q:Rat} {b:Bool} {m k:ByteArray} (h:Rq q b m k) (h0:q≠0):m≠⟨#[]⟩:=by
 intro e
 have h1:=h.mag.2
 rw [e] at h1
 have h2:¬q.num.natAbs≠0:=fun h3=>mag_no_nil h3 h1.symm
 exact h0 (Rat.num_eq_zero.1 (by omega))

set_option maxHeartbeats 8000000 in
set_option maxRecDepth 100000 in
theorem isRat_yes (b1 s1:Bool) (m1 k1:ByteArray) (w:World) :
  Calls Tryz.prog 79 #[.agg #[.bool b1,.string m1,.bool false,.string k1,.bool false,.string ⟨#[]⟩,.bool false,.string ⟨#[]⟩,.bool s1]] w (RetB w (.bool true)):=by
 go_enter Tryz.func79,Tryz.ntmps79
 exact wk0

set_option maxHeartbeats 8000000 in
set_option maxRecDepth 100000 in
theorem isRat_any (b1 c1 s1:Bool) (m1 k1 n1 l1:ByteArray) (hn:n1≠⟨#[]⟩) (w:World) :
  Calls Tryz.prog 79 #[.agg #[.bool b1,.string m1,.bool false,.string k1,.bool c1,.string n1,.bool false,.string l1,.bool s1]] w (RetB w (.bool false)):=by
 obtain ⟨h1,h2⟩:=str_ne hn
 have h3:=empty_no (size_pos hn)
 clear hn
 go_enter Tryz.func79,Tryz.ntmps79
 exact wk0

theorem isRat_no {b1 c1 s1:Bool} {m1 k1 n1 l1:ByteArray} {x:Sg.Rl} (h:Rv x b1 m1 k1 c1 n1 l1 s1) (h0:x.a≠0) (w:World):Calls Tryz.prog 79 #[.agg #[.bool b1,.string m1,.bool false,.string k1,.bool c1,.string n1,.bool false,.string l1,.bool s1]] w (RetB w (.bool false)):=isRat_any _ _ _ _ _ _ _ (h.r.ne h0) w
theorem isRat_f {b1 c1 s1:Bool} {m1 k1 n1 l1:ByteArray} {x:Sg.Rl} (h:Rv x b1 m1 k1 c1 n1 l1 s1) (w:World):Calls Tryz.prog 79 #[.agg #[.bool b1,.string m1,.bool false,.string k1,.bool c1,.string n1,.bool false,.string l1,.bool s1]] w (RetB w (.bool (decide (x.a=0)))):=by
 by_cases h0:x.a=0
 · rw [decide_eq_true h0]
   obtain ⟨rfl,rfl,rfl⟩:=h.r.nought.1 h0
   exact isRat_yes _ _ _ _ w
 · rw [decide_eq_false h0]
   exact isRat_no h h0 w

set_option maxHeartbeats 8000000 in
set_option maxRecDepth 100000 in
theorem fromRat_any (b1:Bool) (m1 k1:ByteArray) (w:World) :
  Calls Tryz.prog 151 #[.agg #[.bool b1,.string m1,.bool false,.string k1]] w (RetB w (.agg #[.bool b1,.string m1,.bool false,.string k1,.bool false,.string ⟨#[]⟩,.bool false,.string ⟨#[]⟩,.bool false])):=by
 have RS:=Lib.hid Tryz.results151
 go_enter Tryz.func151,Tryz.ntmps151
 exact wk0

end Go.Proofs.YtdbhahiieokplaaGreatDoor


namespace Go.Proofs.YtdbhahiieokplaaGreatDoor
open Go.RowKit

theorem old_of {w:World} {g:Nat} {cs:Array Value} {T:TypeId} (h:w.heap[g]?=some (.cells cs T (0,0))) (o:Nat) (l:List Value) (hl:∀ j,l[j]?=cs[o+j]?):Hid (∀ V,Below w.heap.size w V→cellsAt V g o l) :=
 Lib.hid fun V hb=>cellsAt_of ((hb.block _ (Array.getElem?_eq_some_iff.1 h).1).trans h) l o hl
theorem wkO {p:Prop} (h:p:=by
 go_wp2_with (first
  | exact Z1.out | exact Z2.out | exact Z3.out | exact Z4.out | exact Z5.out | exact Z6.out
  | ((first | (((with_reducible refine (show Calls _ _ _ _ _ from ?_));first | (with_reducible refine (C1.out _ X.out.bel).mono ?_) | (with_reducible refine (C2.out _ X.out.bel).mono ?_) | (with_reducible refine (C3.out _ X.out.bel).mono ?_) | (with_reducible refine (C4.out _ X.out.bel).mono ?_) | (with_reducible refine (C5.out _ X.out.bel).mono ?_) | (with_reducible refine (C6.out _ X.out.bel).mono ?_) | (with_reducible refine (C7.out _ X.out.bel).mono ?_) | (with_reducible refine (C8.out _ X.out.bel).mono ?_) | (with_reducible refine (C9.out _ X.out.bel).mono ?_) | (with_reducible refine (C10.out _ X.out.bel).mono ?_) | (with_reducible refine (C11.out _ X.out.bel).mono ?_) | (with_reducible refine (C12.out _ X.out.bel).mono ?_) | (with_reducible refine (C13.out _ X.out.bel).mono ?_) | (with_reducible refine (C14.out _ X.out.bel).mono ?_) | (with_reducible refine (C15.out _ X.out.bel).mono ?_) | (with_reducible refine (C16.out _ X.out.bel).mono ?_) | (with_reducible refine (C17.out _ X.out.bel).mono ?_) | (with_reducible refine (C18.out _ X.out.bel).mono ?_) | (with_reducible refine (C19.out _ X.out.bel).mono ?_) | (with_reducible refine (C20.out _ X.out.bel).mono ?_) | (with_reducible refine (C21.out _ X.out.bel).mono ?_) | (with_reducible refine (C22.out _ X.out.bel).mono ?_) | (with_reducible refine (C23.out _ X.out.bel).mono ?_) | (with_reducible refine (C24.out _ X.out.bel).mono ?_) | (with_reducible refine (C25.out _ X.out.bel).mono ?_) | (with_reducible refine (C26.out _ X.out.bel).mono ?_) | (with_reducible refine (C1.out _ X.out.bel (by first | assumption | omega)).mono ?_) | (with_reducible refine (C2.out _ X.out.bel (by first | assumption | omega)).mono ?_) | (with_reducible refine (C3.out _ X.out.bel (by first | assumption | omega)).mono ?_) | (with_reducible refine (C4.out _ X.out.bel (by first | assumption | omega)).mono ?_) | (with_reducible refine (C5.out _ X.out.bel (by first | assumption | omega)).mono ?_) | (with_reducible refine (C6.out _ X.out.bel (by first | assumption | omega)).mono ?_) | (with_reducible refine (C7.out _ X.out.bel (by first | assumption | omega)).mono ?_) | (with_reducible refine (C8.out _ X.out.bel (by first | assumption | omega)).mono ?_) | (with_reducible refine (C9.out _ X.out.bel (by first | assumption | omega)).mono ?_) | (with_reducible refine (C10.out _ X.out.bel (by first | assumption | omega)).mono ?_) | (with_reducible refine (C11.out _ X.out.bel (by first | assumption | omega)).mono ?_) | (with_reducible refine (C12.out _ X.out.bel (by first | assumption | omega)).mono ?_) | (with_reducible refine (C13.out _ X.out.bel (by first | assumption | omega)).mono ?_) | (with_reducible refine (C14.out _ X.out.bel (by first | assumption | omega)).mono ?_) | (with_reducible refine (C15.out _ X.out.bel (by first | assumption | omega)).mono ?_) | (with_reducible refine (C16.out _ X.out.bel (by first | assumption | omega)).mono ?_) | (with_reducible refine (C17.out _ X.out.bel (by first | assumption | omega)).mono ?_) | (with_reducible refine (C18.out _ X.out.bel (by first | assumption | omega)).mono ?_) | (with_reducible refine (C19.out _ X.out.bel (by first | assumption | omega)).mono ?_) | (with_reducible refine (C20.out _ X.out.bel (by first | assumption | omega)).mono ?_) | (with_reducible refine (C21.out _ X.out.bel (by first | assumption | omega)).mono ?_) | (with_reducible refine (C22.out _ X.out.bel (by first | assumption | omega)).mono ?_) | (with_reducible refine (C23.out _ X.out.bel (by first | assumption | omega)).mono ?_) | (with_reducible refine (C24.out _ X.out.bel (by first | assumption | omega)).mono ?_) | (with_reducible refine (C25.out _ X.out.bel (by first | assumption | omega)).mono ?_) | (with_reducible refine (C26.out _ X.out.bel (by first | assumption | omega)).mono ?_) | (with_reducible refine (C1.out _ X.out.bel _ (X.out.fnd lk)).mono ?_) | (with_reducible refine (C2.out _ X.out.bel _ (X.out.fnd lk)).mono ?_) | (with_reducible refine (C3.out _ X.out.bel _ (X.out.fnd lk)).mono ?_) | (with_reducible refine (C4.out _ X.out.bel _ (X.out.fnd lk)).mono ?_) | (with_reducible refine (C5.out _ X.out.bel _ (X.out.fnd lk)).mono ?_) | (with_reducible refine (C6.out _ X.out.bel _ (X.out.fnd lk)).mono ?_) | (with_reducible refine (C7.out _ X.out.bel _ (X.out.fnd lk)).mono ?_) | (with_reducible refine (C8.out _ X.out.bel _ (X.out.fnd lk)).mono ?_) | (with_reducible refine (C9.out _ X.out.bel _ (X.out.fnd lk)).mono ?_) | (with_reducible refine (C10.out _ X.out.bel _ (X.out.fnd lk)).mono ?_) | (with_reducible refine (C11.out _ X.out.bel _ (X.out.fnd lk)).mono ?_) | (with_reducible refine (C12.out _ X.out.bel _ (X.out.fnd lk)).mono ?_) | (with_reducible refine (C13.out _ X.out.bel _ (X.out.fnd lk)).mono ?_) | (with_reducible refine (C14.out _ X.out.bel _ (X.out.fnd lk)).mono ?_) | (with_reducible refine (C15.out _ X.out.bel _ (X.out.fnd lk)).mono ?_) | (with_reducible refine (C16.out _ X.out.bel _ (X.out.fnd lk)).mono ?_) | (with_reducible refine (C17.out _ X.out.bel _ (X.out.fnd lk)).mono ?_) | (with_reducible refine (C18.out _ X.out.bel _ (X.out.fnd lk)).mono ?_) | (with_reducible refine (C19.out _ X.out.bel _ (X.out.fnd lk)).mono ?_) | (with_reducible refine (C20.out _ X.out.bel _ (X.out.fnd lk)).mono ?_) | (with_reducible refine (C21.out _ X.out.bel _ (X.out.fnd lk)).mono ?_) | (with_reducible refine (C22.out _ X.out.bel _ (X.out.fnd lk)).mono ?_) | (with_reducible refine (C23.out _ X.out.bel _ (X.out.fnd lk)).mono ?_) | (with_reducible refine (C24.out _ X.out.bel _ (X.out.fnd lk)).mono ?_) | (with_reducible refine (C25.out _ X.out.bel _ (X.out.fnd lk)).mono ?_) | (with_reducible refine (C26.out _ X.out.bel _ (X.out.fnd lk)).mono ?_));rintro e u ⟨rfl,hb9⟩;have X0:=X.out.next hb9;clear hb9) | (with_reducible refine an X.out (fun V X0=>?_)) | (with_reducible refine sf2 X.out lk (fun V X0=>?_)) | (with_reducible refine sf4 X.out lk (fun V X0=>?_)) | (with_reducible refine sf8 X.out lk (fun V X0=>?_)) | (with_reducible refine sf9 X.out lk (fun V X0=>?_)) | (with_reducible refine sf12 X.out lk (fun V X0=>?_)) | (with_reducible refine sf16 X.out lk (fun V X0=>?_)) | (with_reducible refine sf1 X.out lk (fun V X0=>?_)));(try simp only [List.set_cons_zero,List.set_cons_succ,List.cons_append,List.nil_append,List.length_cons,List.length_nil] at X0);replace X:=Lib.hid X0;clear X0;replace F:=And.intro X.out.facts (OLD.out _ X.out.bel);simp only [Facts,cellsAt,List.take_succ_cons,List.take_zero,Nat.reduceAdd,and_true,List.set_cons_succ,List.set_cons_zero,List.cons_append,List.nil_append] at F)
  | exact U1.out | exact U2.out | exact U3.out | exact U4.out | exact U5.out | exact U6.out
  | (with_reducible refine late_inF X.out rfl ?_ ?_
     kernel_rfl
     intro V X0
     replace X:=Lib.hid X0
     clear X0 F
     repeat' (first
      | ((first
        | refine tkF (oi:=⟨some _,_,_,_,_,_⟩) rfl rfl (by kernel_rfl) (fun _ _ _ h=>h) (Or.inl ⟨by rfl,by intro w' _;first | (go_simp;done) | (go_simp;with_reducible rfl)⟩) ?_
        | refine tkN (oi:=⟨some _,_,_,_,_,_⟩) rfl rfl (by decide +kernel) (fun _ _ _ h=>h) (by first | exact X.out.pre _ rfl | exact X.out.bare | exact X.out.init | exact X.out.init2 | exact X.out.init3) (Or.inl ⟨by rfl,by intro w' hSw;have F:=And.intro hSw.facts (OLD.out _ hSw.bel);simp only [Facts,cellsAt,List.take_succ_cons,List.take_zero,Nat.reduceAdd,and_true,List.set_cons_succ,List.set_cons_zero,List.cons_append,List.nil_append] at F;first | (go_simp;done) | (go_simp;with_reducible rfl)⟩) ?_
        | refine tkG (oi:=⟨_,_,_,_,_,_⟩) rfl rfl (by kernel_rfl) (fun _ _ _ h=>h) (by rfl) ?_)
         (try simp only [Act.put,seti,set0,setS]))
      | ((first | refine one (o := ⟨_, _, _, _, _, _⟩) rfl rfl (by kernel_rfl) (fun K hK => ?_) | refine two (o := ⟨_, _, _, _, _, _⟩) (o' := ⟨_, _, _, _, _, _⟩) rfl rfl rfl (by kernel_rfl) (fun K hK => ?_) (fun K hK => ?_) | refine three (o := ⟨_, _, _, _, _, _⟩) (o' := ⟨_, _, _, _, _, _⟩) (o'' := ⟨_, _, _, _, _, _⟩) rfl rfl rfl rfl (by kernel_rfl) (fun K hK => ?_) (fun K hK => ?_) (fun K hK => ?_) | refine four (o := ⟨_, _, _, _, _, _⟩) (o1 := ⟨_, _, _, _, _, _⟩) (o2 := ⟨_, _, _, _, _, _⟩) (o3 := ⟨_, _, _, _, _, _⟩) rfl rfl rfl rfl rfl (by kernel_rfl) (fun K hK => ?_) (fun K hK => ?_) (fun K hK => ?_) (fun K hK => ?_))
         all_goals (have F:=And.intro X.out.facts (OLD.out _ X.out.bel);simp only [Facts,cellsAt,List.take_succ_cons,List.take_zero,Nat.reduceAdd,and_true,List.set_cons_succ,List.set_cons_zero,List.cons_append,List.nil_append] at F;go_simp;clear F;first
          | exact Y1.out | exact Y2.out
          | (((with_reducible refine (show Calls _ _ _ _ _ from ?_));first | (with_reducible refine (C1.out _ X.out.bel).mono ?_) | (with_reducible refine (C2.out _ X.out.bel).mono ?_) | (with_reducible refine (C3.out _ X.out.bel).mono ?_) | (with_reducible refine (C4.out _ X.out.bel).mono ?_) | (with_reducible refine (C5.out _ X.out.bel).mono ?_) | (with_reducible refine (C6.out _ X.out.bel).mono ?_) | (with_reducible refine (C7.out _ X.out.bel).mono ?_) | (with_reducible refine (C8.out _ X.out.bel).mono ?_) | (with_reducible refine (C9.out _ X.out.bel).mono ?_) | (with_reducible refine (C10.out _ X.out.bel).mono ?_) | (with_reducible refine (C11.out _ X.out.bel).mono ?_) | (with_reducible refine (C12.out _ X.out.bel).mono ?_) | (with_reducible refine (C13.out _ X.out.bel).mono ?_) | (with_reducible refine (C14.out _ X.out.bel).mono ?_) | (with_reducible refine (C15.out _ X.out.bel).mono ?_) | (with_reducible refine (C16.out _ X.out.bel).mono ?_) | (with_reducible refine (C17.out _ X.out.bel).mono ?_) | (with_reducible refine (C18.out _ X.out.bel).mono ?_) | (with_reducible refine (C19.out _ X.out.bel).mono ?_) | (with_reducible refine (C20.out _ X.out.bel).mono ?_) | (with_reducible refine (C21.out _ X.out.bel).mono ?_) | (with_reducible refine (C22.out _ X.out.bel).mono ?_) | (with_reducible refine (C23.out _ X.out.bel).mono ?_) | (with_reducible refine (C24.out _ X.out.bel).mono ?_) | (with_reducible refine (C25.out _ X.out.bel).mono ?_) | (with_reducible refine (C26.out _ X.out.bel).mono ?_) | (with_reducible refine (C1.out _ X.out.bel (by first | assumption | omega)).mono ?_) | (with_reducible refine (C2.out _ X.out.bel (by first | assumption | omega)).mono ?_) | (with_reducible refine (C3.out _ X.out.bel (by first | assumption | omega)).mono ?_) | (with_reducible refine (C4.out _ X.out.bel (by first | assumption | omega)).mono ?_) | (with_reducible refine (C5.out _ X.out.bel (by first | assumption | omega)).mono ?_) | (with_reducible refine (C6.out _ X.out.bel (by first | assumption | omega)).mono ?_) | (with_reducible refine (C7.out _ X.out.bel (by first | assumption | omega)).mono ?_) | (with_reducible refine (C8.out _ X.out.bel (by first | assumption | omega)).mono ?_) | (with_reducible refine (C9.out _ X.out.bel (by first | assumption | omega)).mono ?_) | (with_reducible refine (C10.out _ X.out.bel (by first | assumption | omega)).mono ?_) | (with_reducible refine (C11.out _ X.out.bel (by first | assumption | omega)).mono ?_) | (with_reducible refine (C12.out _ X.out.bel (by first | assumption | omega)).mono ?_) | (with_reducible refine (C13.out _ X.out.bel (by first | assumption | omega)).mono ?_) | (with_reducible refine (C14.out _ X.out.bel (by first | assumption | omega)).mono ?_) | (with_reducible refine (C15.out _ X.out.bel (by first | assumption | omega)).mono ?_) | (with_reducible refine (C16.out _ X.out.bel (by first | assumption | omega)).mono ?_) | (with_reducible refine (C17.out _ X.out.bel (by first | assumption | omega)).mono ?_) | (with_reducible refine (C18.out _ X.out.bel (by first | assumption | omega)).mono ?_) | (with_reducible refine (C19.out _ X.out.bel (by first | assumption | omega)).mono ?_) | (with_reducible refine (C20.out _ X.out.bel (by first | assumption | omega)).mono ?_) | (with_reducible refine (C21.out _ X.out.bel (by first | assumption | omega)).mono ?_) | (with_reducible refine (C22.out _ X.out.bel (by first | assumption | omega)).mono ?_) | (with_reducible refine (C23.out _ X.out.bel (by first | assumption | omega)).mono ?_) | (with_reducible refine (C24.out _ X.out.bel (by first | assumption | omega)).mono ?_) | (with_reducible refine (C25.out _ X.out.bel (by first | assumption | omega)).mono ?_) | (with_reducible refine (C26.out _ X.out.bel (by first | assumption | omega)).mono ?_) | (with_reducible refine (C1.out _ X.out.bel _ (X.out.fnd lk)).mono ?_) | (with_reducible refine (C2.out _ X.out.bel _ (X.out.fnd lk)).mono ?_) | (with_reducible refine (C3.out _ X.out.bel _ (X.out.fnd lk)).mono ?_) | (with_reducible refine (C4.out _ X.out.bel _ (X.out.fnd lk)).mono ?_) | (with_reducible refine (C5.out _ X.out.bel _ (X.out.fnd lk)).mono ?_) | (with_reducible refine (C6.out _ X.out.bel _ (X.out.fnd lk)).mono ?_) | (with_reducible refine (C7.out _ X.out.bel _ (X.out.fnd lk)).mono ?_) | (with_reducible refine (C8.out _ X.out.bel _ (X.out.fnd lk)).mono ?_) | (with_reducible refine (C9.out _ X.out.bel _ (X.out.fnd lk)).mono ?_) | (with_reducible refine (C10.out _ X.out.bel _ (X.out.fnd lk)).mono ?_) | (with_reducible refine (C11.out _ X.out.bel _ (X.out.fnd lk)).mono ?_) | (with_reducible refine (C12.out _ X.out.bel _ (X.out.fnd lk)).mono ?_) | (with_reducible refine (C13.out _ X.out.bel _ (X.out.fnd lk)).mono ?_) | (with_reducible refine (C14.out _ X.out.bel _ (X.out.fnd lk)).mono ?_) | (with_reducible refine (C15.out _ X.out.bel _ (X.out.fnd lk)).mono ?_) | (with_reducible refine (C16.out _ X.out.bel _ (X.out.fnd lk)).mono ?_) | (with_reducible refine (C17.out _ X.out.bel _ (X.out.fnd lk)).mono ?_) | (with_reducible refine (C18.out _ X.out.bel _ (X.out.fnd lk)).mono ?_) | (with_reducible refine (C19.out _ X.out.bel _ (X.out.fnd lk)).mono ?_) | (with_reducible refine (C20.out _ X.out.bel _ (X.out.fnd lk)).mono ?_) | (with_reducible refine (C21.out _ X.out.bel _ (X.out.fnd lk)).mono ?_) | (with_reducible refine (C22.out _ X.out.bel _ (X.out.fnd lk)).mono ?_) | (with_reducible refine (C23.out _ X.out.bel _ (X.out.fnd lk)).mono ?_) | (with_reducible refine (C24.out _ X.out.bel _ (X.out.fnd lk)).mono ?_) | (with_reducible refine (C25.out _ X.out.bel _ (X.out.fnd lk)).mono ?_) | (with_reducible refine (C26.out _ X.out.bel _ (X.out.fnd lk)).mono ?_));rintro e u ⟨rfl,hb9⟩;(try go_wp2_with fail);refine kx hK (X.out.next hb9) ?_ ?_;(intro V X;first | exact Or.inr fun _=>X.bare | exact Or.inr fun _=>X.init | exact Or.inr fun _=>X.pre _ rfl | exact Or.inl (by decide +kernel) | exact Or.inr fun _=>X.init2 | exact Or.inr fun _=>X.init3);intro V X0;clear hb9)
          | ((with_reducible refine ka hK X.out ?_ ?_);(intro V X;first | exact Or.inr fun _=>X.bare | exact Or.inr fun _=>X.init | exact Or.inr fun _=>X.pre _ rfl | exact Or.inl (by decide +kernel) | exact Or.inr fun _=>X.init2 | exact Or.inr fun _=>X.init3);intro V X0)
          | ((with_reducible refine kf1 hK X.out lk ?_ ?_);(intro V X;first | exact Or.inl (by decide +kernel) | ((try simp only [List.set_cons_zero,List.set_cons_succ,List.cons_append,List.nil_append,List.length_cons,List.length_nil] at X);exact Or.inr fun _=>X.pre _ rfl));intro V X0;(try simp only [List.set_cons_zero,List.set_cons_succ,List.cons_append,List.nil_append,List.length_cons,List.length_nil] at X0))
          | ((with_reducible refine kf2 hK X.out lk ?_ ?_);(intro V X;first | exact Or.inl (by decide +kernel) | ((try simp only [List.set_cons_zero,List.set_cons_succ,List.cons_append,List.nil_append,List.length_cons,List.length_nil] at X);exact Or.inr fun _=>X.pre _ rfl));intro V X0;(try simp only [List.set_cons_zero,List.set_cons_succ,List.cons_append,List.nil_append,List.length_cons,List.length_nil] at X0))
          | ((with_reducible refine kf4 hK X.out lk ?_ ?_);(intro V X;first | exact Or.inl (by decide +kernel) | ((try simp only [List.set_cons_zero,List.set_cons_succ,List.cons_append,List.nil_append,List.length_cons,List.length_nil] at X);exact Or.inr fun _=>X.pre _ rfl));intro V X0;(try simp only [List.set_cons_zero,List.set_cons_succ,List.cons_append,List.nil_append,List.length_cons,List.length_nil] at X0))
          | ((with_reducible refine kf8 hK X.out lk ?_ ?_);(intro V X;first | exact Or.inl (by decide +kernel) | ((try simp only [List.set_cons_zero,List.set_cons_succ,List.cons_append,List.nil_append,List.length_cons,List.length_nil] at X);exact Or.inr fun _=>X.pre _ rfl));intro V X0;(try simp only [List.set_cons_zero,List.set_cons_succ,List.cons_append,List.nil_append,List.length_cons,List.length_nil] at X0))
          | ((with_reducible refine kf9 hK X.out lk ?_ ?_);(intro V X;first | exact Or.inl (by decide +kernel) | ((try simp only [List.set_cons_zero,List.set_cons_succ,List.cons_append,List.nil_append,List.length_cons,List.length_nil] at X);exact Or.inr fun _=>X.pre _ rfl));intro V X0;(try simp only [List.set_cons_zero,List.set_cons_succ,List.cons_append,List.nil_append,List.length_cons,List.length_nil] at X0))
          | ((with_reducible refine kf12 hK X.out lk ?_ ?_);(intro V X;first | exact Or.inl (by decide +kernel) | ((try simp only [List.set_cons_zero,List.set_cons_succ,List.cons_append,List.nil_append,List.length_cons,List.length_nil] at X);exact Or.inr fun _=>X.pre _ rfl));intro V X0;(try simp only [List.set_cons_zero,List.set_cons_succ,List.cons_append,List.nil_append,List.length_cons,List.length_nil] at X0))
          | ((with_reducible refine kf16 hK X.out lk ?_ ?_);(intro V X;first | exact Or.inl (by decide +kernel) | ((try simp only [List.set_cons_zero,List.set_cons_succ,List.cons_append,List.nil_append,List.length_cons,List.length_nil] at X);exact Or.inr fun _=>X.pre _ rfl));intro V X0;(try simp only [List.set_cons_zero,List.set_cons_succ,List.cons_append,List.nil_append,List.length_cons,List.length_nil] at X0))
          | ((with_reducible refine hK.out _ _ (Or.inr fun h=>h) ?_);have X0:=X.out)
          | ((with_reducible refine kx hK X.out ?_ ?_);(intro V X;first | exact Or.inr fun _=>X.bare | exact Or.inr fun _=>X.init | exact Or.inr fun _=>X.pre _ rfl | exact Or.inl (by decide +kernel) | exact Or.inr fun _=>X.init2 | exact Or.inr fun _=>X.init3);intro V X0))
         all_goals (clear hK K;replace X:=Lib.hid X0;clear X0;(try simp only [Act.put,seti,set0,setS])))
      | refine done rfl (by kernel_rfl) ?_ _)
     all_goals (have F:=And.intro X.out.facts (OLD.out _ X.out.bel);simp only [Facts,cellsAt,List.take_succ_cons,List.take_zero,Nat.reduceAdd,and_true,List.set_cons_succ,List.set_cons_zero,List.cons_append,List.nil_append] at F))
  | ((with_reducible refine (show Met _ _ _ from ?_));go_meet;subst hLL;first | exact ⟨_,rfl,X.out⟩ | exact ⟨_,_,rfl,rfl,X.out⟩ | exact M1.out)
  | ((with_reducible refine (show bodyPost _ _ _ _ _ _ from ?_));first | exact E1.out | exact E2.out | exact E3.out | exact E4.out | (go_ret;exact ⟨rfl,X.out.bel⟩) | (go_ret;refine ⟨?_,X.out.bel⟩;first | (rw [P1.out (by assumption) (by assumption) (by assumption)];rfl;done) | (rw [P1.out (by assumption) (by assumption)];rfl;done) | (rw [P1.out (by assumption)];rfl;done) | (rw [P2.out (by assumption) (by assumption) (by assumption)];rfl;done) | (rw [P2.out (by assumption) (by assumption)];rfl;done) | (rw [P2.out (by assumption)];rfl;done) | (rw [P3.out (by assumption) (by assumption) (by assumption)];rfl;done) | (rw [P3.out (by assumption) (by assumption)];rfl;done) | (rw [P3.out (by assumption)];rfl;done) | (rw [P4.out (by assumption) (by assumption) (by assumption)];rfl;done) | (rw [P4.out (by assumption) (by assumption)];rfl;done) | (rw [P4.out (by assumption)];rfl;done)) | exact bodyPost_ret (by simp [results,RS.out,go_sem,F]) rfl ⟨rfl,X.out.bel⟩))):p:=h
theorem wkO0 {p:Prop} (h:p:=by
 go_upto_region 1 with fail
 first | (with_reducible refine gs6 (M:=fun W=>Code.wp _ _ _ _ W) (fun V X0=>?_)) | (with_reducible refine gs5 (M:=fun W=>Code.wp _ _ _ _ W) (fun V X0=>?_)) | (with_reducible refine gs4 (M:=fun W=>Code.wp _ _ _ _ W) (fun V X0=>?_)) | (with_reducible refine gs3 (M:=fun W=>Code.wp _ _ _ _ W) (fun V X0=>?_)) | (with_reducible refine gs2 (M:=fun W=>Code.wp _ _ _ _ W) (fun V X0=>?_)) | (with_reducible refine gs1 (M:=fun W=>Code.wp _ _ _ _ W) (fun V X0=>?_)) | (with_reducible refine gs0 (M:=fun W=>Code.wp _ _ _ _ W) (fun V X0=>?_))
 have X:=Lib.hid X0
 clear X0
 have F:=And.intro X.out.facts (OLD.out _ X.out.bel)
 simp only [Facts,cellsAt,List.take_succ_cons,List.take_zero,Nat.reduceAdd,and_true,List.set_cons_succ,List.set_cons_zero,List.cons_append,List.nil_append] at F
 exact wkO):p:=h
end Go.Proofs.YtdbhahiieokplaaGreatDoor


namespace Go.Proofs.YtdbhahiieokplaaGreatDoor
open Go.RowKit
attribute [local go_sem ↓] Go.wp_at_zero Go.wp_at_succ

end Go.Proofs.YtdbhahiieokplaaGreatDoor


namespace Go.Proofs.YtdbhahiieokplaaGreatDoor
open Go.RowKit
attribute [local go_sem ↓] Go.wp_at_zero Go.wp_at_succ

end Go.Proofs.YtdbhahiieokplaaGreatDoor


namespace Go.Proofs.YtdbhahiieokplaaGreatDoor
open Go.RowKit
attribute [local go_sem ↓] Go.wp_at_zero Go.wp_at_succ

end Go.Proofs.YtdbhahiieokplaaGreatDoor
