import Derived.Test.YtdbhahiieokplaaGreatDoorGQR
import Derived.Test.YtdbhahiieokplaaGreatDoorGStH
import Derived.Test.YtdbhahiieokplaaGreatDoorGQW
import Derived.Lib.OthersKept
import Derived.Test.YtdbhahiieokplaaGreatDoorGIntW
import Derived.Test.YtdbhahiieokplaaGreatDoorGRNA
set_option linter.unusedSimpArgs false
set_option linter.unusedVariables false

namespace Go.Proofs.YtdbhahiieokplaaGreatDoor
open Go.RowKit
attribute [local go_sem ↓] Go.wp_at_zero Go.wp_at_succ

section
variable {g n V:Nat} {w1 w2:World}
end

end Go.Proofs.YtdbhahiieokplaaGreatDoor


namespace Go.Proofs.YtdbhahiieokplaaGreatDoor
open Go.RowKit
attribute [local go_sem ↓] Go.wp_at_zero Go.wp_at_succ

def cmpQ (a b:Rat):Int:=cmpZ (a.num*(b.den:Int)) (b.num*(a.den:Int))

theorem cmpZ_scale {x y d:Int} (hd:0<d):cmpZ (x*d) (y*d)=cmpZ x y:=by
 rcases Int.lt_trichotomy x y with h | h | h
 · rw [cmpZ_lt h,cmpZ_lt (Int.mul_lt_mul_of_pos_right h hd)]
 · rw [cmpZ_eq0 h,cmpZ_eq0 (by rw [h])]
 · rw [cmpZ_gt h,cmpZ_gt (Int.mul_lt_mul_of_pos_right h hd)]

theorem cmpQ_den {p q:Rat} (h:p.den=q.den):cmpQ p q=cmpZ p.num q.num:=by
 unfold cmpQ
 rw [h,cmpZ_scale (by have:=q.den_pos;omega)]

theorem sgn3 (x:Int) {d:Int} (hd:0<d):(x<0∧x.sign=-1∧x*d<0)∨(x=0∧x.sign=0∧x*d=0)∨(0<x∧x.sign=1∧0<x*d):=by
 rcases Int.lt_trichotomy x 0 with h | h | h
 · exact .inl ⟨h,Int.sign_eq_neg_one_of_neg h,Int.mul_neg_of_neg_of_pos h hd⟩
 · exact .inr (.inl ⟨h,by rw [h];rfl,by rw [h,Int.zero_mul]⟩)
 · exact .inr (.inr ⟨h,Int.sign_eq_one_of_pos h,Int.mul_pos h hd⟩)

theorem cmpQ_sign {p q:Rat} (h:p.num.sign≠q.num.sign):cmpQ p q=Lib.compareInt p.num.sign q.num.sign:=by
 unfold cmpQ
 have h1:=sgn3 p.num (d:=(q.den:Int)) (by have:=q.den_pos;omega)
 have h2:=sgn3 q.num (d:=(p.den:Int)) (by have:=p.den_pos;omega)
 generalize p.num*(q.den:Int)=X at *
 generalize q.num*(p.den:Int)=Y at *
 have h3:(p.num.sign<q.num.sign∧X<Y)∨(q.num.sign<p.num.sign∧Y<X):=by omega
 rcases h3 with ⟨h4,h5⟩ | ⟨h4,h5⟩
 · rw [cmpZ_lt h5,compareInt_lt h4]
 · rw [cmpZ_gt h5,compareInt_gt h4]

theorem dm_inj {d e:Nat} (h:dm d=dm e) (hd:d≠0) (he:e≠0):d=e:=by
 unfold dm at h
 by_cases h1:d=1<;>by_cases h2:e=1
 · omega
 · rw [if_pos h1,if_neg h2] at h
   have:=mag_inj h
   omega
 · rw [if_neg h1,if_pos h2] at h
   have:=mag_inj h
   omega
 · rw [if_neg h1,if_neg h2] at h
   exact mag_inj h

theorem Rq.eq_of {p q:Rat} {b:Bool} {m k:ByteArray} (hp:Rq p b m k) (hq:Rq q b m k):p=q:=by
 obtain ⟨e1,e2⟩:=enc_parts hp.num
 obtain ⟨e3,e4⟩:=enc_parts hq.num
 have h1:p.num.natAbs=q.num.natAbs:=mag_inj (e2.symm.trans e4)
 have h2:decide (p.num<0)=decide (q.num<0):=e1.symm.trans e3
 have h3:(p.num<0)↔(q.num<0):=by simpa using h2
 refine Rat.ext (by omega) ?_
 exact dm_inj (hp.den.symm.trans hq.den) p.den_nz q.den_nz

set_option maxHeartbeats 4000000 in
set_option maxRecDepth 100000 in
theorem ratCompare_f {p q:Rat} {b1 b2:Bool} {m1 m2 k1 k2:ByteArray} (hp:Rq p b1 m1 k1) (hq:Rq q b2 m2 k2) (s1:m1.size≤10000) (s2:m2.size≤10000) (s3:(mag p.den).size≤10000) (s4:(mag q.den).size≤10000) (w:World) (hE:Env w) :
  Calls Tryz.prog 71 #[.agg #[.bool b1,.string m1,.bool false,.string k1],.agg #[.bool b2,.string m2,.bool false,.string k2]] w (RetB w (.int .i64 (cmpQ p q))):=by
 have HS1:=Lib.hid (fun V=>ratSign_f hp V)
 have HS2:=Lib.hid (fun V=>ratSign_f hq V)
 have HE:=Lib.hid (fun V (h:Below w.heap.size w V)=>hE.next h)
 have KK:=Lib.hid (Kb.start w #[.bool b1,.string m1,.bool false,.string k1] #[.bool b2,.string m2,.bool false,.string k2] 25 25).drew
 have hc:p.num.sign≠q.num.sign→cmpQ p q=Lib.compareInt p.num.sign q.num.sign:=cmpQ_sign
 have HCS:=Lib.hid hc
 have hsb:p.num.sign=q.num.sign→b1=b2:=fun h=>by
  rw [hp.mag.1,hq.mag.1]
  have h1:=sgn3 p.num (d:=1) (by omega)
  have h2:=sgn3 q.num (d:=1) (by omega)
  have h3:(p.num<0)↔(q.num<0):=by omega
  simp [h3]
 have hsm:b1=b2→m1=m2→p.num.sign=q.num.sign:=fun h1 h2=>by
  have h3:enc p.num=enc q.num:=by rw [hp.num,hq.num,h1,h2]
  have h4:p.num=q.num:=by
   have e:=hp.num
   rw [h1,h2,←hq.num] at e
   have e1:=(enc_parts hp.num)
   have e2:=(enc_parts hq.num)
   have h5:p.num.natAbs=q.num.natAbs:=mag_inj (e1.2.symm.trans (h2.trans e2.2))
   have h6:decide (p.num<0)=decide (q.num<0):=e1.1.symm.trans (h1.trans e2.1)
   have h7:(p.num<0)↔(q.num<0):=by simpa using h6
   omega
  rw [h4]
 have heq:b1=b2→m1=m2→k1=k2→p=q:=fun h1 h2 h3=>by subst h1;subst h2;subst h3;exact hp.eq_of hq
 have hkd:k1=k2→cmpQ p q=cmpZ p.num q.num:=fun h=>cmpQ_den (dm_inj (hp.den.symm.trans (h.trans hq.den)) p.den_nz q.den_nz)
 have HN:=Lib.hid (fun V=>Compare_f hp.num hq.num V)
 obtain ⟨bx,mx,hx⟩:=enc_form (p.num*(q.den:Int))
 obtain ⟨by',my,hy⟩:=enc_form (q.num*(p.den:Int))
 have HD1:=Lib.hid (fun V (hV:Env V)=>den_f hq V hV)
 have HD2:=Lib.hid (fun V (hV:Env V)=>den_f hp V hV)
 have HT1:=Lib.hid (fun V (hV:Env V)=>ratTimes_f hp.num (enc_mag q.den) hx rfl (by omega) (by omega) V hV)
 have HT2:=Lib.hid (fun V (hV:Env V)=>ratTimes_f hq.num (enc_mag p.den) hy rfl (by omega) (by omega) V hV)
 have HCC:=Lib.hid (fun V=>Compare_f hx hy V)
 have HZ:=Lib.hid (show cmpZ (p.num*(q.den:Int)) (q.num*(p.den:Int))=cmpQ p q from rfl)
 have h0:p=q→cmpQ p q=0:=fun h=>by subst h;unfold cmpQ;exact cmpZ_eq0 rfl
 generalize cmpZ (p.num*(q.den:Int)) (q.num*(p.den:Int))=zz at *
 generalize cmpZ p.num q.num=zn at *
 generalize cmpQ p q=z at *
 generalize hsp:p.num.sign=sp at *
 generalize hsq:q.num.sign=sq at *
 generalize mag p.den=dp at *
 generalize mag q.den=dq at *
 have hdec:b1=b2→m1=m2→k1=k2→z=0:=fun h1 h2 h3=>h0 (heq h1 h2 h3)
 clear heq h0 hp hq hx hy hE hc hsp hsq s1 s2 s3 s4
 by_cases hs:sp=sq
 · have hb:=hsb hs
   subst hs
   subst hb
   by_cases hk:k1=k2
   · subst hk
     by_cases hm:m1=m2
     · subst hm
       have HZ0:=Lib.hid (hdec rfl rfl rfl)
       clear hdec hsm hkd
       have HK1:=Lib.hid hsb
       obtain ⟨p0,p1,p2,p3⟩:=blk4 KK.out.k1
       obtain ⟨p4,p5,p6,p7⟩:=blk4 KK.out.k2
       clear hsb
       go_enter Tryz.func71,Tryz.ntmps71
       go_wp2_with fail
       go_region_held3 (fun w'=>w'.cell? ⟨w.heap.size,0,none⟩=some (.bool b1)∧w'.cell? ⟨w.heap.size,1,none⟩=some (.string m1)∧w'.cell? ⟨w.heap.size,2,none⟩=some (.bool false)∧w'.cell? ⟨w.heap.size,3,none⟩=some (.string k1)∧w'.cell? ⟨w.heap.size+1,0,none⟩=some (.bool b1)∧w'.cell? ⟨w.heap.size+1,1,none⟩=some (.string m1)∧w'.cell? ⟨w.heap.size+1,2,none⟩=some (.bool false)∧w'.cell? ⟨w.heap.size+1,3,none⟩=some (.string k1))
        (first
         | exact ⟨r0,r1,r2,r3,r4,r5,r6,r7⟩
         | exact ⟨q0,q1,q2,q3,q4,q5,q6,q7⟩
         | exact ⟨p0,p1,p2,p3,p4,p5,p6,p7⟩
         | go_keep)
        (first
         | (go_at_call 95;(with_reducible refine (HS1.out _).mono ?_);rintro e w1 ⟨rfl,hb1⟩;have K1:=Lib.hid (KK.out.next hb1);obtain ⟨q0,q1,q2,q3⟩:=blk4 K1.out.k1;obtain ⟨q4,q5,q6,q7⟩:=blk4 K1.out.k2)
         | (go_at_call 95;(with_reducible refine (HS2.out _).mono ?_);rintro e w2 ⟨rfl,hb2⟩;have K2:=Lib.hid (K1.out.next hb2);obtain ⟨r0,r1,r2,r3⟩:=blk4 K2.out.k1;obtain ⟨r4,r5,r6,r7⟩:=blk4 K2.out.k2))
       clear hb1 hb2 p0 p1 p2 p3 p4 p5 p6 p7 q0 q1 q2 q3 q4 q5 q6 q7
       go_wp2
       go_ret
       exact ⟨by rw [HZ0.out];rfl,K2.out.bel⟩
     · have hml:=(str_ne hm).2
       have hmn:¬m1.toList=m2.toList:=by simpa using hml
       have HKD:=Lib.hid (hkd rfl)
       clear hdec hsm hkd hm hml
       have HK1:=Lib.hid hsb
       obtain ⟨p0,p1,p2,p3⟩:=blk4 KK.out.k1
       obtain ⟨p4,p5,p6,p7⟩:=blk4 KK.out.k2
       clear hsb
       go_enter Tryz.func71,Tryz.ntmps71
       go_wp2_with fail
       go_region_held3 (fun w'=>w'.cell? ⟨w.heap.size,0,none⟩=some (.bool b1)∧w'.cell? ⟨w.heap.size,1,none⟩=some (.string m1)∧w'.cell? ⟨w.heap.size,2,none⟩=some (.bool false)∧w'.cell? ⟨w.heap.size,3,none⟩=some (.string k1)∧w'.cell? ⟨w.heap.size+1,0,none⟩=some (.bool b1)∧w'.cell? ⟨w.heap.size+1,1,none⟩=some (.string m2)∧w'.cell? ⟨w.heap.size+1,2,none⟩=some (.bool false)∧w'.cell? ⟨w.heap.size+1,3,none⟩=some (.string k1))
        (first
         | exact ⟨r0,r1,r2,r3,r4,r5,r6,r7⟩
         | exact ⟨q0,q1,q2,q3,q4,q5,q6,q7⟩
         | exact ⟨p0,p1,p2,p3,p4,p5,p6,p7⟩
         | go_keep)
        (first
         | (go_at_call 95;(with_reducible refine (HS1.out _).mono ?_);rintro e w1 ⟨rfl,hb1⟩;have K1:=Lib.hid (KK.out.next hb1);obtain ⟨q0,q1,q2,q3⟩:=blk4 K1.out.k1;obtain ⟨q4,q5,q6,q7⟩:=blk4 K1.out.k2)
         | (go_at_call 95;(with_reducible refine (HS2.out _).mono ?_);rintro e w2 ⟨rfl,hb2⟩;have K2:=Lib.hid (K1.out.next hb2);obtain ⟨r0,r1,r2,r3⟩:=blk4 K2.out.k1;obtain ⟨r4,r5,r6,r7⟩:=blk4 K2.out.k2))
       clear hb1 hb2 p0 p1 p2 p3 p4 p5 p6 p7 q0 q1 q2 q3 q4 q5 q6 q7
       go_wp2_with fail
       refine (HN.out _).mono ?_
       rintro e w3 ⟨rfl,hb3⟩
       have K3:=Lib.hid (K2.out.next hb3)
       clear hb3
       go_wp2
       go_ret
       exact ⟨by rw [HKD.out];rfl,K3.out.bel⟩
   · have hkl:=(str_ne hk).2
     have hkn:¬k1.toList=k2.toList:=by simpa using hkl
     clear hkl hk
     by_cases hm:m1=m2
     · subst hm
       clear hdec hsm hkd
       have HK1:=Lib.hid hsb
       obtain ⟨p0,p1,p2,p3⟩:=blk4 KK.out.k1
       obtain ⟨p4,p5,p6,p7⟩:=blk4 KK.out.k2
       clear hsb
       go_enter Tryz.func71,Tryz.ntmps71
       go_wp2_with fail
       go_region_held3 (fun w'=>w'.cell? ⟨w.heap.size,0,none⟩=some (.bool b1)∧w'.cell? ⟨w.heap.size,1,none⟩=some (.string m1)∧w'.cell? ⟨w.heap.size,2,none⟩=some (.bool false)∧w'.cell? ⟨w.heap.size,3,none⟩=some (.string k1)∧w'.cell? ⟨w.heap.size+1,0,none⟩=some (.bool b1)∧w'.cell? ⟨w.heap.size+1,1,none⟩=some (.string m1)∧w'.cell? ⟨w.heap.size+1,2,none⟩=some (.bool false)∧w'.cell? ⟨w.heap.size+1,3,none⟩=some (.string k2))
        (first
         | exact ⟨r0,r1,r2,r3,r4,r5,r6,r7⟩
         | exact ⟨q0,q1,q2,q3,q4,q5,q6,q7⟩
         | exact ⟨p0,p1,p2,p3,p4,p5,p6,p7⟩
         | go_keep)
        (first
         | (go_at_call 95;(with_reducible refine (HS1.out _).mono ?_);rintro e w1 ⟨rfl,hb1⟩;have K1:=Lib.hid (KK.out.next hb1);obtain ⟨q0,q1,q2,q3⟩:=blk4 K1.out.k1;obtain ⟨q4,q5,q6,q7⟩:=blk4 K1.out.k2)
         | (go_at_call 95;(with_reducible refine (HS2.out _).mono ?_);rintro e w2 ⟨rfl,hb2⟩;have K2:=Lib.hid (K1.out.next hb2);obtain ⟨r0,r1,r2,r3⟩:=blk4 K2.out.k1;obtain ⟨r4,r5,r6,r7⟩:=blk4 K2.out.k2))
       clear hb1 hb2 p0 p1 p2 p3 p4 p5 p6 p7 q0 q1 q2 q3 q4 q5 q6 q7
       have K2:=Lib.hid K2.out.drew
       obtain ⟨r0,r1,r2,r3⟩:=blk4 K2.out.k1
       obtain ⟨r4,r5,r6,r7⟩:=blk4 K2.out.k2
       simp only [World.cell?_drew] at r0 r1 r2 r3 r4 r5 r6 r7
       go_wp2_with fail
       go_region_held3 (fun w'=>w'.cell? ⟨w.heap.size,0,none⟩=some (.bool b1)∧w'.cell? ⟨w.heap.size,1,none⟩=some (.string m1)∧w'.cell? ⟨w.heap.size,2,none⟩=some (.bool false)∧w'.cell? ⟨w.heap.size,3,none⟩=some (.string k1)∧w'.cell? ⟨w.heap.size+1,0,none⟩=some (.bool b1)∧w'.cell? ⟨w.heap.size+1,1,none⟩=some (.string m1)∧w'.cell? ⟨w.heap.size+1,2,none⟩=some (.bool false)∧w'.cell? ⟨w.heap.size+1,3,none⟩=some (.string k2))
        (first
         | exact ⟨r0,r1,r2,r3,r4,r5,r6,r7⟩
         | go_keep)
        (first
         | (go_at_call 100;(with_reducible refine (HD1.out _ (HE.out _ K2.out.bel)).mono ?_);rintro e w3 ⟨rfl,hb9⟩;have K2:=Lib.hid (K2.out.next hb9);obtain ⟨r0,r1,r2,r3⟩:=blk4 K2.out.k1;obtain ⟨r4,r5,r6,r7⟩:=blk4 K2.out.k2;clear hb9)
         | (go_at_call 102;(with_reducible refine (HT1.out _ (HE.out _ K2.out.bel)).mono ?_);rintro e w4 ⟨rfl,hb9⟩;have K2:=Lib.hid (K2.out.next hb9);obtain ⟨r0,r1,r2,r3⟩:=blk4 K2.out.k1;obtain ⟨r4,r5,r6,r7⟩:=blk4 K2.out.k2;clear hb9)
         | (go_at_call 100;(with_reducible refine (HD2.out _ (HE.out _ K2.out.bel)).mono ?_);rintro e w5 ⟨rfl,hb9⟩;have K2:=Lib.hid (K2.out.next hb9);obtain ⟨r0,r1,r2,r3⟩:=blk4 K2.out.k1;obtain ⟨r4,r5,r6,r7⟩:=blk4 K2.out.k2;clear hb9)
         | (go_at_call 102;(with_reducible refine (HT2.out _ (HE.out _ K2.out.bel)).mono ?_);rintro e w6 ⟨rfl,hb9⟩;have K2:=Lib.hid (K2.out.next hb9);obtain ⟨r0,r1,r2,r3⟩:=blk4 K2.out.k1;obtain ⟨r4,r5,r6,r7⟩:=blk4 K2.out.k2;clear hb9)
         | (go_at_call 117;(with_reducible refine (HCC.out _).mono ?_);rintro e w7 ⟨rfl,hb9⟩;have K2:=Lib.hid (K2.out.next hb9);obtain ⟨r0,r1,r2,r3⟩:=blk4 K2.out.k1;obtain ⟨r4,r5,r6,r7⟩:=blk4 K2.out.k2;clear hb9))
       go_wp2
       go_ret
       exact ⟨by rw [←HZ.out];rfl,K2.out.bel⟩
     · have hml:=(str_ne hm).2
       have hmn:¬m1.toList=m2.toList:=by simpa using hml
       clear hdec hsm hkd hm hml
       have HK1:=Lib.hid hsb
       obtain ⟨p0,p1,p2,p3⟩:=blk4 KK.out.k1
       obtain ⟨p4,p5,p6,p7⟩:=blk4 KK.out.k2
       clear hsb
       go_enter Tryz.func71,Tryz.ntmps71
       go_wp2_with fail
       go_region_held3 (fun w'=>w'.cell? ⟨w.heap.size,0,none⟩=some (.bool b1)∧w'.cell? ⟨w.heap.size,1,none⟩=some (.string m1)∧w'.cell? ⟨w.heap.size,2,none⟩=some (.bool false)∧w'.cell? ⟨w.heap.size,3,none⟩=some (.string k1)∧w'.cell? ⟨w.heap.size+1,0,none⟩=some (.bool b1)∧w'.cell? ⟨w.heap.size+1,1,none⟩=some (.string m2)∧w'.cell? ⟨w.heap.size+1,2,none⟩=some (.bool false)∧w'.cell? ⟨w.heap.size+1,3,none⟩=some (.string k2))
        (first
         | exact ⟨r0,r1,r2,r3,r4,r5,r6,r7⟩
         | exact ⟨q0,q1,q2,q3,q4,q5,q6,q7⟩
         | exact ⟨p0,p1,p2,p3,p4,p5,p6,p7⟩
         | go_keep)
        (first
         | (go_at_call 95;(with_reducible refine (HS1.out _).mono ?_);rintro e w1 ⟨rfl,hb1⟩;have K1:=Lib.hid (KK.out.next hb1);obtain ⟨q0,q1,q2,q3⟩:=blk4 K1.out.k1;obtain ⟨q4,q5,q6,q7⟩:=blk4 K1.out.k2)
         | (go_at_call 95;(with_reducible refine (HS2.out _).mono ?_);rintro e w2 ⟨rfl,hb2⟩;have K2:=Lib.hid (K1.out.next hb2);obtain ⟨r0,r1,r2,r3⟩:=blk4 K2.out.k1;obtain ⟨r4,r5,r6,r7⟩:=blk4 K2.out.k2))
       clear hb1 hb2 p0 p1 p2 p3 p4 p5 p6 p7 q0 q1 q2 q3 q4 q5 q6 q7
       have K2:=Lib.hid K2.out.drew
       obtain ⟨r0,r1,r2,r3⟩:=blk4 K2.out.k1
       obtain ⟨r4,r5,r6,r7⟩:=blk4 K2.out.k2
       simp only [World.cell?_drew] at r0 r1 r2 r3 r4 r5 r6 r7
       go_wp2_with fail
       go_region_held3 (fun w'=>w'.cell? ⟨w.heap.size,0,none⟩=some (.bool b1)∧w'.cell? ⟨w.heap.size,1,none⟩=some (.string m1)∧w'.cell? ⟨w.heap.size,2,none⟩=some (.bool false)∧w'.cell? ⟨w.heap.size,3,none⟩=some (.string k1)∧w'.cell? ⟨w.heap.size+1,0,none⟩=some (.bool b1)∧w'.cell? ⟨w.heap.size+1,1,none⟩=some (.string m2)∧w'.cell? ⟨w.heap.size+1,2,none⟩=some (.bool false)∧w'.cell? ⟨w.heap.size+1,3,none⟩=some (.string k2))
        (first
         | exact ⟨r0,r1,r2,r3,r4,r5,r6,r7⟩
         | go_keep)
        (first
         | (go_at_call 100;(with_reducible refine (HD1.out _ (HE.out _ K2.out.bel)).mono ?_);rintro e w3 ⟨rfl,hb9⟩;have K2:=Lib.hid (K2.out.next hb9);obtain ⟨r0,r1,r2,r3⟩:=blk4 K2.out.k1;obtain ⟨r4,r5,r6,r7⟩:=blk4 K2.out.k2;clear hb9)
         | (go_at_call 102;(with_reducible refine (HT1.out _ (HE.out _ K2.out.bel)).mono ?_);rintro e w4 ⟨rfl,hb9⟩;have K2:=Lib.hid (K2.out.next hb9);obtain ⟨r0,r1,r2,r3⟩:=blk4 K2.out.k1;obtain ⟨r4,r5,r6,r7⟩:=blk4 K2.out.k2;clear hb9)
         | (go_at_call 100;(with_reducible refine (HD2.out _ (HE.out _ K2.out.bel)).mono ?_);rintro e w5 ⟨rfl,hb9⟩;have K2:=Lib.hid (K2.out.next hb9);obtain ⟨r0,r1,r2,r3⟩:=blk4 K2.out.k1;obtain ⟨r4,r5,r6,r7⟩:=blk4 K2.out.k2;clear hb9)
         | (go_at_call 102;(with_reducible refine (HT2.out _ (HE.out _ K2.out.bel)).mono ?_);rintro e w6 ⟨rfl,hb9⟩;have K2:=Lib.hid (K2.out.next hb9);obtain ⟨r0,r1,r2,r3⟩:=blk4 K2.out.k1;obtain ⟨r4,r5,r6,r7⟩:=blk4 K2.out.k2;clear hb9)
         | (go_at_call 117;(with_reducible refine (HCC.out _).mono ?_);rintro e w7 ⟨rfl,hb9⟩;have K2:=Lib.hid (K2.out.next hb9);obtain ⟨r0,r1,r2,r3⟩:=blk4 K2.out.k1;obtain ⟨r4,r5,r6,r7⟩:=blk4 K2.out.k2;clear hb9))
       go_wp2
       go_ret
       exact ⟨by rw [←HZ.out];rfl,K2.out.bel⟩
 · have hne:(sp != sq)=true:=by simpa using hs
   have HCZ:=Lib.hid (HCS.out hs)
   have hmb:b1=b2→¬m1.toList=m2.toList:=fun h1 h2=>hs (hsm h1 (by cases m1;cases m2;rw [ByteArray.toList_eq,ByteArray.toList_eq] at h2;simp at h2;rw [h2]))
   have HCI:=Lib.hid (fun V=>Tryz.cmp_Compare_int sp sq V)
   clear hdec hsm hkd hs
   by_cases hb:b1=b2
   · subst hb
     have hmn:=hmb rfl
     clear hmb
     have HK1:=Lib.hid hsb
     obtain ⟨p0,p1,p2,p3⟩:=blk4 KK.out.k1
     obtain ⟨p4,p5,p6,p7⟩:=blk4 KK.out.k2
     clear hsb
     go_enter Tryz.func71,Tryz.ntmps71
     go_wp2_with fail
     go_region_held3 (fun w'=>w'.cell? ⟨w.heap.size,0,none⟩=some (.bool b1)∧w'.cell? ⟨w.heap.size,1,none⟩=some (.string m1)∧w'.cell? ⟨w.heap.size,2,none⟩=some (.bool false)∧w'.cell? ⟨w.heap.size,3,none⟩=some (.string k1)∧w'.cell? ⟨w.heap.size+1,0,none⟩=some (.bool b1)∧w'.cell? ⟨w.heap.size+1,1,none⟩=some (.string m2)∧w'.cell? ⟨w.heap.size+1,2,none⟩=some (.bool false)∧w'.cell? ⟨w.heap.size+1,3,none⟩=some (.string k2))
      (first
       | exact ⟨r0,r1,r2,r3,r4,r5,r6,r7⟩
       | exact ⟨q0,q1,q2,q3,q4,q5,q6,q7⟩
       | exact ⟨p0,p1,p2,p3,p4,p5,p6,p7⟩
       | go_keep)
      (first
       | (go_at_call 95;(with_reducible refine (HS1.out _).mono ?_);rintro e w1 ⟨rfl,hb1⟩;have K1:=Lib.hid (KK.out.next hb1);obtain ⟨q0,q1,q2,q3⟩:=blk4 K1.out.k1;obtain ⟨q4,q5,q6,q7⟩:=blk4 K1.out.k2)
       | (go_at_call 95;(with_reducible refine (HS2.out _).mono ?_);rintro e w2 ⟨rfl,hb2⟩;have K2:=Lib.hid (K1.out.next hb2);obtain ⟨r0,r1,r2,r3⟩:=blk4 K2.out.k1;obtain ⟨r4,r5,r6,r7⟩:=blk4 K2.out.k2))
     clear hb1 hb2 p0 p1 p2 p3 p4 p5 p6 p7 q0 q1 q2 q3 q4 q5 q6 q7
     go_wp2_with fail
     refine (HCI.out _).mono ?_
     rintro e w3 ⟨rfl,rfl⟩
     go_wp2
     go_ret
     exact ⟨by rw [HCZ.out];rfl,K2.out.bel⟩
   · clear hmb
     have HK1:=Lib.hid hsb
     obtain ⟨p0,p1,p2,p3⟩:=blk4 KK.out.k1
     obtain ⟨p4,p5,p6,p7⟩:=blk4 KK.out.k2
     clear hsb
     go_enter Tryz.func71,Tryz.ntmps71
     go_wp2_with fail
     go_region_held3 (fun w'=>w'.cell? ⟨w.heap.size,0,none⟩=some (.bool b1)∧w'.cell? ⟨w.heap.size,1,none⟩=some (.string m1)∧w'.cell? ⟨w.heap.size,2,none⟩=some (.bool false)∧w'.cell? ⟨w.heap.size,3,none⟩=some (.string k1)∧w'.cell? ⟨w.heap.size+1,0,none⟩=some (.bool b2)∧w'.cell? ⟨w.heap.size+1,1,none⟩=some (.string m2)∧w'.cell? ⟨w.heap.size+1,2,none⟩=some (.bool false)∧w'.cell? ⟨w.heap.size+1,3,none⟩=some (.string k2))
      (first
       | exact ⟨r0,r1,r2,r3,r4,r5,r6,r7⟩
       | exact ⟨q0,q1,q2,q3,q4,q5,q6,q7⟩
       | exact ⟨p0,p1,p2,p3,p4,p5,p6,p7⟩
       | go_keep)
      (first
       | (go_at_call 95;(with_reducible refine (HS1.out _).mono ?_);rintro e w1 ⟨rfl,hb1⟩;have K1:=Lib.hid (KK.out.next hb1);obtain ⟨q0,q1,q2,q3⟩:=blk4 K1.out.k1;obtain ⟨q4,q5,q6,q7⟩:=blk4 K1.out.k2)
       | (go_at_call 95;(with_reducible refine (HS2.out _).mono ?_);rintro e w2 ⟨rfl,hb2⟩;have K2:=Lib.hid (K1.out.next hb2);obtain ⟨r0,r1,r2,r3⟩:=blk4 K2.out.k1;obtain ⟨r4,r5,r6,r7⟩:=blk4 K2.out.k2))
     clear hb1 hb2 p0 p1 p2 p3 p4 p5 p6 p7 q0 q1 q2 q3 q4 q5 q6 q7
     go_wp2_with fail
     refine (HCI.out _).mono ?_
     rintro e w3 ⟨rfl,rfl⟩
     go_wp2
     go_ret
     exact ⟨by rw [HCZ.out];rfl,K2.out.bel⟩
end Go.Proofs.YtdbhahiieokplaaGreatDoor


namespace Go.Proofs.YtdbhahiieokplaaGreatDoor
open Go.RowKit
attribute [local go_sem ↓] Go.wp_at_zero Go.wp_at_succ

section
variable {w w1 W:World} {c1 c2 c3:Array Value} {T1 T2 T3:TypeId}
theorem fro5 {g:Nat} {T:TypeId} {v0 v1 v2 v3 v4:Value} (h:W.heap[g]?=some (.cells #[v0,v1,v2,v3,v4] T (0,0))) :
  W.frozen? ⟨g,0,none⟩=false∧W.frozen? ⟨g,1,none⟩=false∧W.frozen? ⟨g,2,none⟩=false∧W.frozen? ⟨g,3,none⟩=false∧W.frozen? ⟨g,4,none⟩=false:=by
 refine ⟨?_,?_,?_,?_,?_⟩<;>simp [World.cell?,World.frozen?,h]
theorem qoth5 {g k:Nat} (hne:k≠g) (a b c d e:Value):(((((W.setCell ⟨g,0,none⟩ a).setCell ⟨g,1,none⟩ b).setCell ⟨g,2,none⟩ c).setCell ⟨g,3,none⟩ d).setCell ⟨g,4,none⟩ e).heap[k]?=W.heap[k]? :=
 (Below.heap_setCell _ ⟨g,4,none⟩ e k hne).trans (qoth4 hne a b c d)
theorem qsz5 {g:Nat} (a b c d e:Value):(((((W.setCell ⟨g,0,none⟩ a).setCell ⟨g,1,none⟩ b).setCell ⟨g,2,none⟩ c).setCell ⟨g,3,none⟩ d).setCell ⟨g,4,none⟩ e).heap.size=W.heap.size:=by simp [World.setCell]
theorem Bq.self5 {g:Nat} {T:TypeId} {x0 x1 x2 x3 x4:Value} (h:Bq g #[x0,x1,x2,x3,x4] T W) (a b c d e:Value):Bq g #[a,b,c,d,e] T (((((W.setCell ⟨g,0,none⟩ a).setCell ⟨g,1,none⟩ b).setCell ⟨g,2,none⟩ c).setCell ⟨g,3,none⟩ d).setCell ⟨g,4,none⟩ e) :=
 ⟨by have hk:=h.k;simp [World.setCell,Array.getElem?_modify,hk],by rw [qsz5];exact h.lt⟩
end

theorem inn_mid {a b c d:Nat} (hb:0<b) (h:a*d<c*b) (oa oc:Bool):Inn a b oa c d oc (a+c) (b+d):=by
 refine ⟨by omega,.inl ?_,.inl ?_⟩
 · rw [Nat.mul_add,Nat.add_mul];omega
 · rw [Nat.mul_add,Nat.add_mul];omega

end Go.Proofs.YtdbhahiieokplaaGreatDoor


namespace Go.Proofs.YtdbhahiieokplaaGreatDoor
open Go.RowKit
attribute [local go_sem ↓] Go.wp_at_zero Go.wp_at_succ

theorem rt_square (N:Nat):rt (N*N)=N:=rt_unique (Nat.le_refl _) (Nat.mul_lt_mul'' (by omega) (by omega))

theorem isSq_yes (N:Nat) (hs:(mag (N*N)).size≤30000) (w:World) :
  Calls Tryz.prog 203 #[.agg #[.bool false,.string (mag (N*N))]] w (RetB w (.tuple #[.agg #[.bool false,.string (mag N)],.bool true])):=by
 have hN:(mag N).size≤40000:=by
  rcases Nat.eq_zero_or_pos N with h | h
  · rw [h,mag_nil];exact Nat.zero_le _
  · have h1:nd N≤nd (N*N):=nd_mono (Nat.le_mul_of_pos_left N h)
    exact Nat.le_trans h1 (by unfold nd;omega)
 have h:=isSquare_f (enc_mag (N*N)) (by omega) (by omega) (br:=false) (mr:=mag N) (bp:=false) (mp:=mag (N*N)) (by rw [Int.natAbs_natCast,rt_square];exact enc_mag N)
  (by rw [Int.natAbs_natCast,rt_square,←Int.natCast_mul];exact enc_mag (N*N)) hN w
 have hc:((rt ((N*N:Nat):Int).natAbs:Nat):Int)*((rt ((N*N:Nat):Int).natAbs:Nat):Int)=((N*N:Nat):Int):=by rw [Int.natAbs_natCast,rt_square,Int.natCast_mul]
 simp only [if_pos hc] at h
 exact h

set_option maxHeartbeats 4000000 in
set_option maxRecDepth 100000 in
theorem ratRoot_yes {q:Rat} {b:Bool} {m k:ByteArray} (h:Rq q b m k) {N D:Nat} (hN:q.num=((N*N:Nat):Int)) (hD:q.den=D*D) (s1:(mag (N*N)).size≤30000) (s2:(mag (D*D)).size≤30000) (w:World) (hE:Env w) :
  Calls Tryz.prog 186 #[.agg #[.bool b,.string m,.bool false,.string k]] w (RetB w (.tuple #[.agg #[.bool false,.string (mag N),.bool false,.string (dm D)],.bool true])):=by
 have hb:b=false∧m=mag (N*N):=by
  obtain ⟨e1,e2⟩:=h.mag
  rw [hN] at e1 e2
  exact ⟨by rw [e1];exact decide_eq_false (by omega),by rw [e2,Int.natAbs_natCast]⟩
 obtain ⟨rfl,rfl⟩:=hb
 have HE:=Lib.hid (fun V (hb:Below w.heap.size w V)=>hE.next hb)
 have HDN:=Lib.hid (fun V (hV:Env V)=>den_f h V hV)
 rw [hD] at HDN
 have HI1:=Lib.hid (fun V=>isSq_yes N s1 V)
 have HI2:=Lib.hid (fun V=>isSq_yes D s2 V)
 have HCP:=Lib.hid (fun V (hV:Env V)=>coprime_f false (mag N) D V hV)
 have KK:=Lib.hid (Kb.start w #[.bool false,.string (mag (N*N)),.bool false,.string k] #[.bool false,.string ⟨#[]⟩,.bool false,.string ⟨#[]⟩] 25 25)
 generalize mag (N*N)=mN at *
 generalize mag (D*D)=mD at *
 generalize mag N=rN at *
 generalize mag D=rD at *
 generalize dm D=rk at *
 clear h hN hD hE s1 s2
 go_enter Tryz.func186,Tryz.ntmps186
 go_wp2_with fail
 refine (HI1.out _).mono ?_
 rintro e w1 ⟨rfl,hb1⟩
 have K1:=Lib.hid (KK.out.next hb1)
 have K2:=Lib.hid (K1.out.next (below_new w1 (.cells #[.bool false,.string rN] 23)))
 have B2:=Lib.hid (Bq.new w1 #[.bool false,.string rN] 23)
 obtain ⟨p0,p1,p2,p3⟩:=blk4 K2.out.k1
 clear hb1
 go_wp2_with fail
 refine (HDN.out _ (HE.out _ K2.out.bel)).mono ?_
 rintro e w3 ⟨rfl,hb3⟩
 have K3:=Lib.hid (K2.out.next hb3)
 have B3:=Lib.hid (B2.out.next hb3)
 clear hb3 p0 p1 p2 p3
 go_wp2_with fail
 refine (HI2.out _).mono ?_
 rintro e w4 ⟨rfl,hb4⟩
 have K4:=Lib.hid (K3.out.next hb4)
 have B4:=Lib.hid (B3.out.next hb4)
 have K5:=Lib.hid (K4.out.next (below_new w4 (.cells #[.bool false,.string rD] 23)))
 have B5:=Lib.hid (B4.out.next (below_new w4 (.cells #[.bool false,.string rD] 23)))
 obtain ⟨q0,q1,_,_⟩:=blk_cells B5.out.k
 clear hb4
 go_wp2_with fail
 refine (HCP.out _ (HE.out _ K5.out.bel)).mono ?_
 rintro e w6 ⟨rfl,hb6⟩
 have K6:=Lib.hid (K5.out.next hb6)
 obtain ⟨t0,t1,t2,t3⟩:=blk4 K6.out.k2
 obtain ⟨f0,f1,f2,f3⟩:=fro4 K6.out.k2
 clear hb6 q0 q1
 go_wp2
 exact bodyPost_ret (v:=.tuple #[.agg #[.bool false,.string rN,.bool false,.string rk],.bool true]) (by simp [results,Tryz.results186,go_sem,t0,t1,t2,t3]) rfl ⟨rfl,below_set4 K6.out.bel (by omega) _ _ _ _⟩

end Go.Proofs.YtdbhahiieokplaaGreatDoor


namespace Go.Proofs.YtdbhahiieokplaaGreatDoor
open Go.RowKit
attribute [local go_sem ↓] Go.wp_at_zero Go.wp_at_succ

theorem nd_lit {k:Nat} (h0:0<k) (h1:k<256):nd k=1:=by
 have h2:=nd_pos h0
 have h3:nd k≤1:=by unfold nd;exact mag_size_le (by omega)
 omega
theorem tr_lit (w:World) (k:Nat) (h0:0<k) (h1:k<256):Tr (w.alloc (.cells #[.int .i64 (k:Int)] 3)) (some ⟨w.heap.size,0,none⟩) 1 1 k:=by
 refine ⟨⟨by omega,fun _=>⟨w.heap.size,0,rfl,by simp,fun j hj=>?_⟩⟩,(nd_lit h0 h1).symm,Nat.le_refl _,fun h=>by cases h⟩
 obtain rfl:j=0:=by omega
 refine (cell_of_row _ _ _ _ 3 (0,0) (heap_one w _)).trans ?_
 have h2:k%256=k:=Nat.mod_eq_of_lt h1
 simp [D,h2]
theorem tr_emp (w:World) (a:Addr):Tr w (some a) 0 0 0:=⟨⟨by decide,fun h=>absurd h (by omega)⟩,nd_zero.symm,Nat.le_refl _,fun h=>by cases h⟩

theorem lt_sq (V:Nat):V<(V+1)*(V+1):=Nat.lt_of_lt_of_le (Nat.lt_succ_self V) (Nat.le_mul_of_pos_right _ (by omega))

set_option maxHeartbeats 4000000 in
set_option maxRecDepth 100000 in
theorem rroot (A:Option Addr) (n c V:Nat) (w:World) (hn:n≤100000) (hx:Tr w A n c V) :
  Calls Tryz.prog 118 #[.slice A n c] w (RetTo w (rt V)):=by
 have HX:=Lib.hid hx
 have hnV:nd V=n:=hx.ln.symm
 have HV1:=Lib.hid (show nd (V+1)≤100002 by have:=nd_add V 1;have:=nd_lit (k:=1) (by omega) (by omega);omega)
 have HVN:=Lib.hid hnV
 clear hx hnV
 go_enter Tryz.func118,Tryz.ntmps118
 go_wp2_with fail
 refine (rplus A (some ⟨w.heap.size+1,0,none⟩) n 1 c 1 V 1 _ (by omega) (by omega) ((HX.out.alloc _).alloc _).dg (by have h:=(tr_lit (w.alloc (.cells #[] 3)) 1 (by omega) (by omega)).dg;simpa using h)).mono ?_
 rintro e w1 ⟨A1,n1,c1,rfl,ht1,hb1,_⟩
 have HB1:=Lib.hid ((((Below.refl w.heap.size w).alloc (Nat.le_refl _) (.cells #[] 3)).alloc (by simp) (.cells #[.int .i64 1] 3)).trans (hb1.mono (by simp<;>omega)))
 have HT1:=Lib.hid ht1
 clear ht1 hb1
 go_wp2
 go_loopg [3,4] (V+1) (fun k av bv wr=>∃ (x y:Nat) (A':Option Addr) (n' c':Nat) (B':Option Addr) (m' d':Nat),av=.slice A' n' c'∧bv=.slice B' m' d'∧Hid (y≤x+k∧x<y∧y≤V+1∧x*x≤V∧V<y*y)∧Hid (Tr wr A' n' c' x∧Tr wr B' m' d' y∧Below w.heap.size w wr))
 case atStart=>exact ⟨0,V+1,_,0,0,A1,n1,c1,rfl,rfl,⟨by omega,by omega,Nat.le_refl _,by omega,lt_sq V⟩,tr_emp _ _,HT1.out,HB1.out⟩
 case round =>
  obtain ⟨x,y,A',n',c',B',m',d',rfl,rfl,HN,HH⟩:=hrel
  have hlx:n'≤100002:=by
   have h1:=HH.out.1.ln
   have h2:=nd_mono (show x≤V+1 by have:=HN.out;omega)
   have:=HV1.out
   omega
  have hly:m'≤100002:=by
   have h1:=HH.out.2.1.ln
   have h2:=nd_mono (show y≤V+1 by have:=HN.out;omega)
   have:=HV1.out
   omega
  have HXY:=Lib.hid (And.intro hlx hly)
  clear hlx hly
  go_wp2_with fail
  refine (rplus A' (some ⟨wr.heap.size,0,none⟩) n' 1 c' 1 x 1 _ (by have:=HXY.out;omega) (by omega) (HH.out.1.alloc _).dg (tr_lit wr 1 (by omega) (by omega)).dg).mono ?_
  rintro e w2 ⟨A2,n2,c2,rfl,ht2,hb2,_⟩
  have HB2:=Lib.hid (((Below.refl wr.heap.size wr).alloc (Nat.le_refl _) (.cells #[.int .i64 1] 3)).trans (hb2.mono (by simp)))
  have HT2:=Lib.hid ht2
  have HY2:=Lib.hid (HH.out.2.1.below HB2.out)
  have HX2:=Lib.hid (HH.out.1.below HB2.out)
  have hl2:n2≤100004:=by
   have h1:=ht2.ln
   have h2:=nd_mono (show x+1≤V+1 by have:=HN.out;omega)
   have:=HV1.out
   omega
  clear ht2 hb2
  by_cases hlt:x+1<y
  · have hc:=rcompare_any A2 B' n2 m' c2 d' (x+1) y w2 (by omega) (by have:=HXY.out;omega) HT2.out HY2.out
    rw [ord_lt hlt] at hc
    have HC:=Lib.hid hc
    clear hc
    go_wp2_with fail
    refine HC.out.mono ?_
    rintro e w3 ⟨rfl,nn,rfl⟩
    have HB3:=Lib.hid (HH.out.2.2.trans ((below_draws HB2.out nn).mono HH.out.2.2.size))
    have HX3:=Lib.hid (HX2.out.drewN nn)
    have HY3:=Lib.hid (HY2.out.drewN nn)
    obtain ⟨W3,hW⟩:∃ W,W=w2.drewN nn:=⟨_,rfl⟩
    rw [←hW] at HB3 HX3 HY3 ⊢
    clear hW HX2 HY2 HT2 HB2 HC hl2
    go_wp2_with fail
    refine (rplus A' B' n' m' c' d' x y _ (by have:=HXY.out;omega) (by have:=HXY.out;omega) HX3.out.dg HY3.out.dg).mono ?_
    rintro e w4 ⟨A4,n4,c4,rfl,ht4,hb4,_⟩
    have HT4:=Lib.hid (ht4.alloc (.cells #[.int .i64 2] 3))
    have HX4:=Lib.hid ((HX3.out.below hb4).alloc (.cells #[.int .i64 2] 3))
    have HY4:=Lib.hid ((HY3.out.below hb4).alloc (.cells #[.int .i64 2] 3))
    have HB4:=Lib.hid ((HB3.out.trans (hb4.mono HB3.out.size)).alloc (Nat.le_trans HB3.out.size hb4.size) (.cells #[.int .i64 2] 3))
    have HTW:=Lib.hid (tr_lit w4 2 (by omega) (by omega))
    have hl4:n4≤300000:=by
     have h1:=ht4.ln
     have h2:=nd_add x y
     have h3:=HH.out.1.ln
     have h4:=HH.out.2.1.ln
     have:=HXY.out
     omega
    clear ht4 hb4
    go_wp2_with fail
    refine (rdivide A4 (some ⟨w4.heap.size,0,none⟩) n4 1 c4 1 (x+y) 2 _ (by omega) (by omega) HT4.out HTW.out (by omega)).mono ?_
    rintro e w5 ⟨A5,n5,c5,A6,n6,c6,rfl,ht5,_,hb5⟩
    obtain ⟨M,hM⟩:∃ M,(x+y) / 2=M:=⟨_,rfl⟩
    rw [hM] at ht5
    have hM1:x<M∧M<y:=by omega
    have HM1:=Lib.hid hM1
    have HT5:=Lib.hid ht5
    have HX5:=Lib.hid (HX4.out.below hb5)
    have HY5:=Lib.hid (HY4.out.below hb5)
    have HB5:=Lib.hid (HB4.out.trans (hb5.mono HB4.out.size))
    have hl5:n5≤100004:=by
     have h1:=ht5.ln
     have h2:=nd_mono (show M≤V+1 by have:=HN.out;omega)
     have:=HV1.out
     omega
    clear ht5 hb5 hM HX4 HY4 HB4 HT4 HTW hl4
    go_wp2_with fail
    refine (rtimes A5 A5 n5 n5 c5 c5 M M _ (by omega) (by omega) HT5.out.dg HT5.out.dg).mono ?_
    rintro e w6 ⟨A7,n7,c7,rfl,ht7,hb7,_⟩
    have HT7:=Lib.hid ht7
    have HM6:=Lib.hid (HT5.out.below hb7)
    have HX6:=Lib.hid (HX5.out.below hb7)
    have HY6:=Lib.hid (HY5.out.below hb7)
    have HB6:=Lib.hid (HB5.out.trans (hb7.mono HB5.out.size))
    have HA6:=Lib.hid (HX.out.below HB6.out)
    have hl7:n7≤300000:=by
     have h1:=ht7.ln
     have h2:=nd_mul M M
     have h3:=HT5.out.ln
     omega
    have HC7:=Lib.hid (rcompare_any A7 A n7 n c7 c (M*M) V w6 (by omega) (by omega) HT7.out HA6.out)
    clear ht7 hb7 HX5 HY5 HB5 HT5
    go_wp2_with fail
    refine HC7.out.mono ?_
    rintro e w7 ⟨rfl,n8,rfl⟩
    have HM8:=Lib.hid (HM6.out.drewN n8)
    have HX8:=Lib.hid (HX6.out.drewN n8)
    have HY8:=Lib.hid (HY6.out.drewN n8)
    have HB8:=Lib.hid (below_draws HB6.out n8)
    by_cases hle:M*M≤V
    · have ho:¬0<ord (M*M) V:=by unfold ord;split<;>(try split)<;>omega
      have ho2:ord (M*M) V≤0:=by omega
      generalize ord (M*M) V=o at *
      go_wp2
      go_roundg (y-M)
      case measure=>have:=HN.out;have:=HM1.out;omega
      case rel=>exact ⟨M,y,A5,n5,c5,B',m',d',rfl,rfl,⟨by have:=HM1.out;omega,HM1.out.2,HN.out.2.2.1,hle,HN.out.2.2.2.2⟩,HM8.out,HY8.out,HB8.out⟩
    · have ho2:0<ord (M*M) V:=by unfold ord;rw [if_neg (by omega),if_pos (by omega)];omega
      have ho:¬ord (M*M) V≤0:=by omega
      generalize ord (M*M) V=o at *
      go_wp2
      go_roundg (M-x)
      case measure=>have:=HN.out;have:=HM1.out;omega
      case rel=>exact ⟨x,M,A',n',c',A5,n5,c5,rfl,rfl,⟨by have:=HM1.out;omega,HM1.out.1,by have:=HN.out.2.2.1;have:=HM1.out;omega,HN.out.2.2.2.1,by omega⟩,HX8.out,HM8.out,HB8.out⟩
  · obtain ⟨o,ho,ho0⟩:=ord_ge (show y≤x+1 by omega)
    have hc:=rcompare_any A2 B' n2 m' c2 d' (x+1) y w2 (by omega) (by have:=HXY.out;omega) HT2.out HY2.out
    rw [ho] at hc
    have HC:=Lib.hid hc
    have ho1:¬o<0:=by omega
    have hrt:rt V=x:=rt_unique HN.out.2.2.2.1 (by
     have h1:=HN.out.2.2.2.2
     have h2:y=x+1:=by have:=HN.out;omega
     rw [h2] at h1
     exact h1)
    have HRT:=Lib.hid hrt
    clear hc ho hrt
    go_wp2_with fail
    refine HC.out.mono ?_
    rintro e w3 ⟨rfl,nn,rfl⟩
    have HB3:=Lib.hid (HH.out.2.2.trans ((below_draws HB2.out nn).mono HH.out.2.2.size))
    have HX3:=Lib.hid (HX2.out.drewN nn)
    go_wp2
    go_ret
    exact ⟨A',n',c',rfl,by rw [HRT.out];exact HX3.out,HB3.out⟩
end Go.Proofs.YtdbhahiieokplaaGreatDoor
