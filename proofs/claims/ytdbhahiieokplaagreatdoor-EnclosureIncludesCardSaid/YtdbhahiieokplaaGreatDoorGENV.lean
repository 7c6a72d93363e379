import Derived.Test.YtdbhahiieokplaaGreatDoorGRHB
import Derived.Test.YtdbhahiieokplaaGreatDoorGENZ
set_option linter.unusedSimpArgs false
set_option linter.unusedVariables false

namespace Go.Proofs.YtdbhahiieokplaaGreatDoor
open Go.RowKit
attribute [local go_sem ↓] Go.wp_at_zero Go.wp_at_succ

theorem incl_all (n1 d1 n2 d2:Int) (na1:-2147483648≤n1) (nb1:n1≤2147483647) (da1:0≤d1) (db1:d1≤65535) (na2:-2147483648≤n2) (nb2:n2≤2147483647) (da2:0≤d2) (db2:d2≤65535) (n3 d3 n4 d4:Int) (na3:-2147483648≤n3) (nb3:n3≤2147483647) (da3:0≤d3) (db3:d3≤65535) (na4:-2147483648≤n4) (nb4:n4≤2147483647) (da4:0≤d4) (db4:d4≤65535) (x y:Nat) (hx:x<256) (hy:y<256) (w:World) (hE:Env w):Calls Tryz.prog 6 #[.agg #[.int .i32 n1,.int .u16 d1,.int .i32 n2,.int .u16 d2],.agg #[.int .i32 n3,.int .u16 d3,.int .i32 n4,.int .u16 d4],.agg #[.int .u8 (x:Int),.int .u8 (y:Int)]] w (RetB w (.bool true)):=by
 obtain ⟨p,q,b1,m1,k1,b2,m2,k2,h1,h2,hpq,z1,z2,HA⟩:=pof_f na1 nb1 da1 db1 na2 nb2 da2 db2
 obtain ⟨r,s,b3,m3,k3,b4,m4,k4,h3,h4,hrs,z3,z4,HB⟩:=pof_f na3 nb3 da3 db3 na4 nb4 da4 db4
 obtain ⟨t,b5,m5,k5,h5,g1,g2,z5,HW1⟩:=within_f h1 h2 hpq z1 z2 x hx
 obtain ⟨v,b6,m6,k6,h6,g3,g4,z6,HW2⟩:=within_f h3 h4 hrs z3 z4 y hy
 have hE':=fun V (hb:Below w.heap.size w V)=>hE.next hb
 obtain ⟨b7,m7,k7,h7⟩:=Rq.some_ (p+r)
 obtain ⟨b8,m8,k8,h8⟩:=Rq.some_ (q+s)
 obtain ⟨b9,m9,k9,h9⟩:=Rq.some_ (t+v)
 obtain ⟨b10,m10,k10,h10⟩:=Rq.some_ (p-s)
 obtain ⟨b11,m11,k11,h11⟩:=Rq.some_ (q-r)
 obtain ⟨b12,m12,k12,h12⟩:=Rq.some_ (t-v)
 obtain ⟨b13,m13,k13,h13⟩:=Rq.some_ (mlo p q r s)
 obtain ⟨b14,m14,k14,h14⟩:=Rq.some_ (mhi p q r s)
 obtain ⟨b15,m15,k15,h15⟩:=Rq.some_ (t*v)
 obtain ⟨b16,m16,k16,h16⟩:=Rq.some_ (slo p q)
 obtain ⟨b17,m17,k17,h17⟩:=Rq.some_ (shi p q)
 obtain ⟨b18,m18,k18,h18⟩:=Rq.some_ (t*t)
 obtain ⟨b21,m21,k21,h21⟩:=Rq.some_ (-q)
 obtain ⟨b22,m22,k22,h22⟩:=Rq.some_ (-p)
 obtain ⟨b23,m23,k23,h23⟩:=Rq.some_ (-t)
 obtain ⟨b24,m24,k24,h24⟩:=Rq.some_ (mn (p*v) (q*v))
 obtain ⟨b25,m25,k25,h25⟩:=Rq.some_ (mx (p*v) (q*v))
 have z9:=z5.add z6
 have z12:=z5.sub z6
 have z15:=z5.mul z6
 have z18:=z5.mul z5
 have za:=And.intro (z1.add z3) (z2.add z4)
 have zb:=And.intro (z1.sub z4) (z2.sub z3)
 have zc:=mlo_size z1 z2 z3 z4
 have zd:=slo_size z1 z2
 have ze:=And.intro z2.minus z1.minus
 have zf:=And.intro ((z1.mul z6).mn (z2.mul z6)) ((z1.mul z6).mx (z2.mul z6))
 have i1:p+r≤t+v∧t+v≤q+s:=⟨by grind,by grind⟩
 have i2:p-s≤t-v∧t-v≤q-r:=⟨by grind,by grind⟩
 have i3:=mul_in g1 g2 g3 g4
 have i4:=sq_in g1 g2
 have i5:-q≤-t∧-t≤-p:=⟨by grind,by grind⟩
 have i6:mn (p*v) (q*v)≤t*v∧t*v≤mx (p*v) (q*v):=by
  have a:=lin g1 g2 (t:=v)
  have e1:=mn_le1 (p*v) (q*v)
  have e2:=mn_le2 (p*v) (q*v)
  have e3:=mx_ge1 (p*v) (q*v)
  have e4:=mx_ge2 (p*v) (q*v)
  exact ⟨by grind,by grind⟩
 by_cases h0:r≤0∧0≤s
 · exact incl_0 w (fun V hb=>rknown5 V (hE' V hb)) (fun V _=>HA V) (fun V _=>HB V) (fun V _=>HW1 V) (fun V _=>HW2 V) (fun V hb=>eadd_f h1 h2 h3 h4 h7 h8 (z1.up (by omega)) (z2.up (by omega)) (z3.up (by omega)) (z4.up (by omega)) V (hE' V hb)) (fun V _=>radd_z h5 h6 h9 (z5.up (by omega)) (z6.up (by omega)) V) (fun V hb=>by have H:=econ_f h7 h8 h9 (za.1.up (by omega)) (za.2.up (by omega)) (z9.up (by omega)) V (hE' V hb);rw [decide_eq_true i1] at H;exact H) (fun V hb=>esub_f h1 h2 h3 h4 h10 h11 (z1.up (by omega)) (z2.up (by omega)) (z3.up (by omega)) (z4.up (by omega)) V (hE' V hb)) (fun V _=>rsub_z h5 h6 h12 (z5.up (by omega)) (z6.up (by omega)) V) (fun V hb=>by have H:=econ_f h10 h11 h12 (zb.1.up (by omega)) (zb.2.up (by omega)) (z12.up (by omega)) V (hE' V hb);rw [decide_eq_true i2] at H;exact H) (fun V hb=>emul_f h1 h2 h3 h4 h13 h14 (z1.up (by omega)) (z2.up (by omega)) (z3.up (by omega)) (z4.up (by omega)) V (hE' V hb)) (fun V _=>rmul_z h5 h6 h15 (z5.up (by omega)) (z6.up (by omega)) V) (fun V hb=>by have H:=econ_f h13 h14 h15 (zc.1.up (by omega)) (zc.2.up (by omega)) (z15.up (by omega)) V (hE' V hb);rw [decide_eq_true i3] at H;exact H) (fun V hb=>esqu_f h1 h2 h16 h17 (z1.up (by omega)) (z2.up (by omega)) V (hE' V hb)) (fun V _=>rmul_z h5 h5 h18 (z5.up (by omega)) (z5.up (by omega)) V) (fun V hb=>by have H:=econ_f h16 h17 h18 (zd.1.up (by omega)) (zd.2.up (by omega)) (z18.up (by omega)) V (hE' V hb);rw [decide_eq_true i4] at H;exact H) (fun V _=>eneg_f h1 h2 h21 h22 V) (fun V _=>rNeg_f h5 h23 V) (fun V hb=>by have H:=econ_f h21 h22 h23 (ze.1.up (by omega)) (ze.2.up (by omega)) (z5.minus.up (by omega)) V (hE' V hb);rw [decide_eq_true i5] at H;exact H) (fun V hb=>esca_f h1 h2 h6 h24 h25 (z1.up (by omega)) (z2.up (by omega)) (z6.up (by omega)) V (hE' V hb)) (fun V hb=>by have H:=econ_f h24 h25 h15 (zf.1.up (by omega)) (zf.2.up (by omega)) (z15.up (by omega)) V (hE' V hb);rw [decide_eq_true i6] at H;exact H) (fun V hb=>ediv_0 h3 h4 h0 (z3.up (by omega)) (z4.up (by omega)) V (hE' V hb))
 · have v0:v≠0:=by grind
   have zi:=z4.inv
   have zj:=z3.inv
   have zg:=mlo_size (n:=5) (z1.up (by omega)) (z2.up (by omega)) zi zj
   obtain ⟨b19,m19,k19,h19⟩:=Rq.some_ (mlo p q (1 / s) (1 / r))
   obtain ⟨b20,m20,k20,h20⟩:=Rq.some_ (mhi p q (1 / s) (1 / r))
   obtain ⟨b26,m26,k26,h26⟩:=Rq.some_ (t / v)
   have i7:mlo p q (1 / s) (1 / r)≤t / v∧t / v≤mhi p q (1 / s) (1 / r):=by
    rw [div_by t v]
    exact mul_in g1 g2 (inv_mono (by grind) g4) (inv_mono (by grind) g3)
   have v1:¬v.num=0:=fun e=>v0 (Rat.num_eq_zero.1 e)
   have z26:=z5.quo z6 v1
   exact incl_1 w (fun V hb=>rknown5 V (hE' V hb)) (fun V _=>HA V) (fun V _=>HB V) (fun V _=>HW1 V) (fun V _=>HW2 V) (fun V hb=>eadd_f h1 h2 h3 h4 h7 h8 (z1.up (by omega)) (z2.up (by omega)) (z3.up (by omega)) (z4.up (by omega)) V (hE' V hb)) (fun V _=>radd_z h5 h6 h9 (z5.up (by omega)) (z6.up (by omega)) V) (fun V hb=>by have H:=econ_f h7 h8 h9 (za.1.up (by omega)) (za.2.up (by omega)) (z9.up (by omega)) V (hE' V hb);rw [decide_eq_true i1] at H;exact H) (fun V hb=>esub_f h1 h2 h3 h4 h10 h11 (z1.up (by omega)) (z2.up (by omega)) (z3.up (by omega)) (z4.up (by omega)) V (hE' V hb)) (fun V _=>rsub_z h5 h6 h12 (z5.up (by omega)) (z6.up (by omega)) V) (fun V hb=>by have H:=econ_f h10 h11 h12 (zb.1.up (by omega)) (zb.2.up (by omega)) (z12.up (by omega)) V (hE' V hb);rw [decide_eq_true i2] at H;exact H) (fun V hb=>emul_f h1 h2 h3 h4 h13 h14 (z1.up (by omega)) (z2.up (by omega)) (z3.up (by omega)) (z4.up (by omega)) V (hE' V hb)) (fun V _=>rmul_z h5 h6 h15 (z5.up (by omega)) (z6.up (by omega)) V) (fun V hb=>by have H:=econ_f h13 h14 h15 (zc.1.up (by omega)) (zc.2.up (by omega)) (z15.up (by omega)) V (hE' V hb);rw [decide_eq_true i3] at H;exact H) (fun V hb=>esqu_f h1 h2 h16 h17 (z1.up (by omega)) (z2.up (by omega)) V (hE' V hb)) (fun V _=>rmul_z h5 h5 h18 (z5.up (by omega)) (z5.up (by omega)) V) (fun V hb=>by have H:=econ_f h16 h17 h18 (zd.1.up (by omega)) (zd.2.up (by omega)) (z18.up (by omega)) V (hE' V hb);rw [decide_eq_true i4] at H;exact H) (fun V _=>eneg_f h1 h2 h21 h22 V) (fun V _=>rNeg_f h5 h23 V) (fun V hb=>by have H:=econ_f h21 h22 h23 (ze.1.up (by omega)) (ze.2.up (by omega)) (z5.minus.up (by omega)) V (hE' V hb);rw [decide_eq_true i5] at H;exact H) (fun V hb=>esca_f h1 h2 h6 h24 h25 (z1.up (by omega)) (z2.up (by omega)) (z6.up (by omega)) V (hE' V hb)) (fun V hb=>by have H:=econ_f h24 h25 h15 (zf.1.up (by omega)) (zf.2.up (by omega)) (z15.up (by omega)) V (hE' V hb);rw [decide_eq_true i6] at H;exact H) (fun V hb=>ediv_f h1 h2 h3 h4 h19 h20 h0 hrs (z1.up (by omega)) (z2.up (by omega)) (z3.up (by omega)) (z4.up (by omega)) V (hE' V hb)) (fun V _=>rdiv_z h5 h6 h26 v1 (z5.up (by omega)) (z6.up (by omega)) V) (fun V hb=>by have H:=econ_f h19 h20 h26 (zg.1.up (by omega)) (zg.2.up (by omega)) (z26.up (by omega)) V (hE' V hb);rw [decide_eq_true i7] at H;exact H)
end Go.Proofs.YtdbhahiieokplaaGreatDoor
