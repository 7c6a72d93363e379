import Derived.Test.YtdbhahiieokplaaGreatDoorGENJ
import Derived.Test.YtdbhahiieokplaaGreatDoorGENK
import Derived.Test.YtdbhahiieokplaaGreatDoorGENZ
set_option linter.unusedSimpArgs false
set_option linter.unusedVariables false

namespace Go.Proofs.YtdbhahiieokplaaGreatDoor
open Go.RowKit
attribute [local go_sem ↓] Go.wp_at_zero Go.wp_at_succ

theorem ewin_f {p q r s:Rat} {b1 b2 b3 b4:Bool} {m1 k1 m2 k2 m3 k3 m4 k4:ByteArray} (h1:Rq p b1 m1 k1) (h2:Rq q b2 m2 k2) (h3:Rq r b3 m3 k3) (h4:Rq s b4 m4 k4) (z1:Sz 10000 p) (z2:Sz 10000 q) (z3:Sz 10000 r) (z4:Sz 10000 s) (w:World) (hE:Env w):Calls Tryz.prog 56 #[.agg #[.bool b1,.string m1,.bool false,.string k1,.bool b2,.string m2,.bool false,.string k2],.agg #[.bool b3,.string m3,.bool false,.string k3,.bool b4,.string m4,.bool false,.string k4]] w (RetB w (.bool (decide (r≤p∧p≤s) && decide (r≤q∧q≤s)))):=by
 have H1:=fun V (hb:Below w.heap.size w V)=>econ_f h3 h4 h1 z3 z4 z1 V (hE.next hb)
 have H2:=fun V (hb:Below w.heap.size w V)=>econ_f h3 h4 h2 z3 z4 z2 V (hE.next hb)
 generalize decide (r≤p∧p≤s)=o1 at *
 cases o1
 · exact ewin_no w H1
 · exact ewin_yes w H1 H2
theorem emid_f {p q:Rat} {b1 b2 b5:Bool} {m1 k1 m2 k2 m5 k5:ByteArray} (h1:Rq p b1 m1 k1) (h2:Rq q b2 m2 k2) (h5:Rq ((p+q) / 2) b5 m5 k5) (z1:Sz 100 p) (z2:Sz 100 q) (w:World) (hE:Env w):Calls Tryz.prog 57 #[.agg #[.bool b1,.string m1,.bool false,.string k1,.bool b2,.string m2,.bool false,.string k2]] w (RetB w (.agg #[.bool b5,.string m5,.bool false,.string k5])):=by
 obtain ⟨b3,m3,k3,h3⟩:=Rq.some_ (Rat.divInt 1 2)
 obtain ⟨b4,m4,k4,h4⟩:=Rq.some_ (p+q)
 have zh:Sz 1 (Rat.divInt 1 2):=⟨by decide +kernel,by decide +kernel⟩
 exact emid_w w (fun V hb=>fromInts_f h3 (by omega) (by omega) (by omega) (by omega) (by omega) V (hE.next hb)) (fun V hb=>add_z h1 h2 h4 (z1.up (by omega)) (z2.up (by omega)) V (hE.next hb)) (fun V hb=>mul_z h4 h3 (by rw [show (p+q)*Rat.divInt 1 2=(p+q) / 2 by rw [show Rat.divInt 1 2=(1:Rat) / 2 by decide +kernel];grind];exact h5) ((z1.add z2).up (by omega)) (zh.up (by omega)) V (hE.next hb))
theorem eint_0 {p q r s:Rat} {b1 b2 b3 b4:Bool} {m1 k1 m2 k2 m3 k3 m4 k4:ByteArray} (h1:Rq p b1 m1 k1) (h2:Rq q b2 m2 k2) (h3:Rq r b3 m3 k3) (h4:Rq s b4 m4 k4) (h:¬mx p r≤mn q s) (z1:Sz 5000 p) (z2:Sz 5000 q) (z3:Sz 5000 r) (z4:Sz 5000 s) (w:World) (hE:Env w):Calls Tryz.prog 55 #[.agg #[.bool b1,.string m1,.bool false,.string k1,.bool b2,.string m2,.bool false,.string k2],.agg #[.bool b3,.string m3,.bool false,.string k3,.bool b4,.string m4,.bool false,.string k4]] w (RetB w (.tuple #[.agg #[.bool false,.string ⟨#[]⟩,.bool false,.string ⟨#[]⟩,.bool false,.string ⟨#[]⟩,.bool false,.string ⟨#[]⟩],.bool false])):=by
 obtain ⟨b5,m5,k5,h5⟩:=Rq.some_ (mx p r)
 obtain ⟨b6,m6,k6,h6⟩:=Rq.some_ (mn q s)
 exact eint_no w (by have:=mt cmpQ_le.1 h;omega) (fun V hb=>max_z h1 h3 h5 (z1.up (by omega)) (z3.up (by omega)) V (hE.next hb)) (fun V hb=>min_z h2 h4 h6 (z2.up (by omega)) (z4.up (by omega)) V (hE.next hb)) (fun V hb=>pcmp h5 h6 ((z1.mx z3).up (by omega)) ((z2.mn z4).up (by omega)) V (hE.next hb))
theorem eint_f {p q r s:Rat} {b1 b2 b3 b4 b5 b6:Bool} {m1 k1 m2 k2 m3 k3 m4 k4 m5 k5 m6 k6:ByteArray} (h1:Rq p b1 m1 k1) (h2:Rq q b2 m2 k2) (h3:Rq r b3 m3 k3) (h4:Rq s b4 m4 k4) (h5:Rq (mx p r) b5 m5 k5) (h6:Rq (mn q s) b6 m6 k6) (h:mx p r≤mn q s) (z1:Sz 5000 p) (z2:Sz 5000 q) (z3:Sz 5000 r) (z4:Sz 5000 s) (w:World) (hE:Env w):Calls Tryz.prog 55 #[.agg #[.bool b1,.string m1,.bool false,.string k1,.bool b2,.string m2,.bool false,.string k2],.agg #[.bool b3,.string m3,.bool false,.string k3,.bool b4,.string m4,.bool false,.string k4]] w (RetB w (.tuple #[.agg #[.bool b5,.string m5,.bool false,.string k5,.bool b6,.string m6,.bool false,.string k6],.bool true])) :=
 eint_yes w (by have:=cmpQ_le.2 h;omega) (fun V hb=>max_z h1 h3 h5 (z1.up (by omega)) (z3.up (by omega)) V (hE.next hb)) (fun V hb=>min_z h2 h4 h6 (z2.up (by omega)) (z4.up (by omega)) V (hE.next hb)) (fun V hb=>pcmp h5 h6 ((z1.mx z3).up (by omega)) ((z2.mn z4).up (by omega)) V (hE.next hb))
theorem both_true {a b:Prop} [Decidable a] [Decidable b] (ha:a) (hb:b):(decide a && decide b)=true:=by simp [ha,hb]
theorem hull_low {p q r s:Rat} (h1:p≤q) (h2:r≤s):mn (mn (mn p q) r) s=mn p r∧mx (mx (mx p q) r) s=mx q s:=by
 unfold mn mx
 constructor
 · split<;>(try split)<;>(try split)<;>grind
 · split<;>(try split)<;>(try split)<;>grind
theorem sets_all (n1 d1 n2 d2:Int) (na1:-2147483648≤n1) (nb1:n1≤2147483647) (da1:0≤d1) (db1:d1≤65535) (na2:-2147483648≤n2) (nb2:n2≤2147483647) (da2:0≤d2) (db2:d2≤65535) (n3 d3 n4 d4:Int) (na3:-2147483648≤n3) (nb3:n3≤2147483647) (da3:0≤d3) (db3:d3≤65535) (na4:-2147483648≤n4) (nb4:n4≤2147483647) (da4:0≤d4) (db4:d4≤65535) (n5 d5:Int) (na5:-2147483648≤n5) (nb5:n5≤2147483647) (da5:0≤d5) (db5:d5≤65535) (w:World) (hE:Env w):Calls Tryz.prog 9 #[.agg #[.int .i32 n1,.int .u16 d1,.int .i32 n2,.int .u16 d2],.agg #[.int .i32 n3,.int .u16 d3,.int .i32 n4,.int .u16 d4],.agg #[.int .i32 n5,.int .u16 d5]] w (RetB w (.bool true)):=by
 obtain ⟨p,q,b1,m1,k1,b2,m2,k2,h1,h2,hpq,z1,z2,HA⟩:=pof_f na1 nb1 da1 db1 na2 nb2 da2 db2
 obtain ⟨r,s,b3,m3,k3,b4,m4,k4,h3,h4,hrs,z3,z4,HB⟩:=pof_f na3 nb3 da3 db3 na4 nb4 da4 db4
 have z5:=part_size na5 nb5 da5 db5
 obtain ⟨b5,m5,k5,h5⟩:=Rq.some_ (Rat.divInt n5 (d5+1))
 have hE':=fun V (hb:Below w.heap.size w V)=>hE.next hb
 have zt:Sz 1 2:=⟨by decide,by decide⟩
 obtain ⟨l1,l2⟩:=hull_low hpq hrs
 obtain ⟨b6,m6,k6,h6⟩:=Rq.some_ (mn (mn (mn p q) r) s)
 obtain ⟨b7,m7,k7,h7⟩:=Rq.some_ (mx (mx (mx p q) r) s)
 obtain ⟨b10,m10,k10,h10⟩:=Rq.some_ (q-p)
 obtain ⟨b11,m11,k11,h11⟩:=Rq.some_ ((p+q) / 2)
 obtain ⟨b12,m12,k12,h12⟩:=Rq.some_ (p+q)
 by_cases h:mx p r≤mn q s
 · obtain ⟨b8,m8,k8,h8⟩:=Rq.some_ (mx p r)
   obtain ⟨b9,m9,k9,h9⟩:=Rq.some_ (mn q s)
   have z8:=z1.mx z3
   have z9:=z2.mn z4
   have z6:Sz 4 (mn (mn (mn p q) r) s):=by rw [l1];exact z1.mn z3
   have z7:Sz 4 (mx (mx (mx p q) r) s):=by rw [l2];exact z2.mx z4
   have e1:=mx_ge1 p r
   have e2:=mx_ge2 p r
   have e3:=mn_le1 q s
   have e4:=mn_le2 q s
   have e5:=mn_le1 p r
   have e6:=mn_le2 p r
   have e7:=mx_ge1 q s
   have e8:=mx_ge2 q s
   refine sets_yes w (Lib.hid rfl) ?_ ?_ (fun V hb=>rknown5 V (hE' V hb)) (fun V _=>HA V) (fun V _=>HB V) (fun V _=>prat_f na5 nb5 da5 db5 h5 V) (fun V hb=>ehul_f h1 h2 h3 h4 h6 h7 (z1.up (by omega)) (z2.up (by omega)) (z3.up (by omega)) (z4.up (by omega)) V (hE' V hb)) (fun V _=>low_any V) (fun V _=>low_any V) (fun V _=>fcon_f h1 h2 h5 (z1.up (by omega)) (z2.up (by omega)) (z5.up (by omega)) V) (fun V hb=>econ_f h1 h2 h5 (z1.up (by omega)) (z2.up (by omega)) (z5.up (by omega)) V (hE' V hb)) (fun V hb=>ewin_f h1 h2 h3 h4 (z1.up (by omega)) (z2.up (by omega)) (z3.up (by omega)) (z4.up (by omega)) V (hE' V hb)) (fun V _=>fcon_f h3 h4 h1 (z3.up (by omega)) (z4.up (by omega)) (z1.up (by omega)) V) (fun V _=>fcon_f h3 h4 h2 (z3.up (by omega)) (z4.up (by omega)) (z2.up (by omega)) V) (fun V hb=>ewid_w V (fun V2 hb2=>sub_z h2 h1 h10 (z2.up (by omega)) (z1.up (by omega)) V2 ((hE' V hb).next hb2))) (fun V _=>rsub_z h2 h1 h10 (z2.up (by omega)) (z1.up (by omega)) V) (fun V hb=>emid_f h1 h2 h11 (z1.up (by omega)) (z2.up (by omega)) V (hE' V hb)) (fun V _=>radd_z h1 h2 h12 (z1.up (by omega)) (z2.up (by omega)) V) (fun V _=>rOf_f (x:=2) (y:=1) (by rw [divInt1];exact qt) (by omega) (by omega) (by omega) (by omega) (by omega) V) (fun V _=>rdiv_z h12 qt h11 (by decide) ((z1.add z2).up (by omega)) (zt.up (by omega)) V) (fun V _=>fcon_f h3 h4 h5 (z3.up (by omega)) (z4.up (by omega)) (z5.up (by omega)) V) (fun V hb=>eint_f h1 h2 h3 h4 h8 h9 h (z1.up (by omega)) (z2.up (by omega)) (z3.up (by omega)) (z4.up (by omega)) V (hE' V hb)) ?_ ?_ (fun V _=>low_any V) ?_ ?_ ?_
   · refine Lib.hid ?_
     rw [l1] at h6
     by_cases g:p≤r
     · rw [show mn p r=p from if_pos g] at h6
       exact .inl (h6.inj h1)
     · rw [show mn p r=r from if_neg g] at h6
       exact .inr ⟨h6.inj h3,rq_ne h3 h1 (by grind)⟩
   · refine Lib.hid ?_
     rw [l2] at h7
     by_cases g:s≤q
     · rw [show mx q s=q from if_pos g] at h7
       exact .inl (h7.inj h2)
     · rw [show mx q s=s from if_neg g] at h7
       exact .inr ⟨h7.inj h4,rq_ne h4 h2 (by grind)⟩
   · exact (fun V hb=>by have H:=ewin_f h8 h9 h1 h2 (z8.up (by omega)) (z9.up (by omega)) (z1.up (by omega)) (z2.up (by omega)) V (hE' V hb);rw [both_true ⟨by grind,by grind⟩ ⟨by grind,by grind⟩] at H;exact H)
   · exact (fun V hb=>by have H:=ewin_f h8 h9 h3 h4 (z8.up (by omega)) (z9.up (by omega)) (z3.up (by omega)) (z4.up (by omega)) V (hE' V hb);rw [both_true ⟨by grind,by grind⟩ ⟨by grind,by grind⟩] at H;exact H)
   · intro V _
     have H:=fcon_f h8 h9 h5 (z8.up (by omega)) (z9.up (by omega)) (z5.up (by omega)) V
     rw [show decide (mx p r≤Rat.divInt n5 (d5+1)∧Rat.divInt n5 (d5+1)≤mn q s)=(decide (p≤Rat.divInt n5 (d5+1)∧Rat.divInt n5 (d5+1)≤q) && decide (r≤Rat.divInt n5 (d5+1)∧Rat.divInt n5 (d5+1)≤s)) from by
      rw [←Bool.decide_and]
      refine decide_eq_decide.2 ⟨fun g=>⟨⟨by grind,by grind⟩,by grind,by grind⟩,fun g=>⟨?_,?_⟩⟩
      · rcases mx_or p r with e | e<;>rw [e]<;>grind
      · rcases mn_or q s with e | e<;>rw [e]<;>grind] at H
     exact H
   · exact (fun V hb=>by have H:=ewin_f h1 h2 h6 h7 (z1.up (by omega)) (z2.up (by omega)) (z6.up (by omega)) (z7.up (by omega)) V (hE' V hb);rw [both_true (by rw [l1,l2];exact ⟨by grind,by grind⟩) (by rw [l1,l2];exact ⟨by grind,by grind⟩)] at H;exact H)
   · exact (fun V hb=>by have H:=ewin_f h3 h4 h6 h7 (z3.up (by omega)) (z4.up (by omega)) (z6.up (by omega)) (z7.up (by omega)) V (hE' V hb);rw [both_true (by rw [l1,l2];exact ⟨by grind,by grind⟩) (by rw [l1,l2];exact ⟨by grind,by grind⟩)] at H;exact H)
 · have k : q < r ∨ s < p := by
    rcases mx_or p r with e | e<;>rcases mn_or q s with f | f<;>rw [e,f] at h<;>grind
   refine sets_no w (Lib.hid ?_) ?_ (fun V hb=>rknown5 V (hE' V hb)) (fun V _=>HA V) (fun V _=>HB V) (fun V _=>prat_f na5 nb5 da5 db5 h5 V) (fun V hb=>ehul_f h1 h2 h3 h4 h6 h7 (z1.up (by omega)) (z2.up (by omega)) (z3.up (by omega)) (z4.up (by omega)) V (hE' V hb)) (fun V _=>low_any V) (fun V _=>low_any V) (fun V _=>fcon_f h1 h2 h5 (z1.up (by omega)) (z2.up (by omega)) (z5.up (by omega)) V) (fun V hb=>econ_f h1 h2 h5 (z1.up (by omega)) (z2.up (by omega)) (z5.up (by omega)) V (hE' V hb)) (fun V hb=>ewin_f h1 h2 h3 h4 (z1.up (by omega)) (z2.up (by omega)) (z3.up (by omega)) (z4.up (by omega)) V (hE' V hb)) (fun V _=>fcon_f h3 h4 h1 (z3.up (by omega)) (z4.up (by omega)) (z1.up (by omega)) V) (fun V _=>fcon_f h3 h4 h2 (z3.up (by omega)) (z4.up (by omega)) (z2.up (by omega)) V) (fun V hb=>ewid_w V (fun V2 hb2=>sub_z h2 h1 h10 (z2.up (by omega)) (z1.up (by omega)) V2 ((hE' V hb).next hb2))) (fun V _=>rsub_z h2 h1 h10 (z2.up (by omega)) (z1.up (by omega)) V) (fun V hb=>emid_f h1 h2 h11 (z1.up (by omega)) (z2.up (by omega)) V (hE' V hb)) (fun V _=>radd_z h1 h2 h12 (z1.up (by omega)) (z2.up (by omega)) V) (fun V _=>rOf_f (x:=2) (y:=1) (by rw [divInt1];exact qt) (by omega) (by omega) (by omega) (by omega) (by omega) V) (fun V _=>rdiv_z h12 qt h11 (by decide) ((z1.add z2).up (by omega)) (zt.up (by omega)) V) (fun V _=>fcon_f h3 h4 h5 (z3.up (by omega)) (z4.up (by omega)) (z5.up (by omega)) V) (fun V hb=>eint_0 h1 h2 h3 h4 h (z1.up (by omega)) (z2.up (by omega)) (z3.up (by omega)) (z4.up (by omega)) V (hE' V hb)) (fun V _=>fcmb_f h1 h2 h3 h4 (z1.up (by omega)) (z2.up (by omega)) (z3.up (by omega)) (z4.up (by omega)) V)
   · rw [←Bool.decide_and]
     exact decide_eq_false (by grind)
   · unfold bcmp
     by_cases g:q<r
     · rw [if_pos g];exact .inr ⟨rfl,by decide +kernel⟩
     · rw [if_neg g,if_pos (by grind)];exact .inl ⟨rfl,by decide +kernel⟩
end Go.Proofs.YtdbhahiieokplaaGreatDoor
