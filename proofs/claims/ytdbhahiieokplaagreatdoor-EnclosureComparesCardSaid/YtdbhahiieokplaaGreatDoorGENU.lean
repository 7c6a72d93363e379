import Derived.Test.YtdbhahiieokplaaGreatDoorGENG
import Derived.Test.YtdbhahiieokplaaGreatDoorGENZ
set_option linter.unusedSimpArgs false
set_option linter.unusedVariables false

namespace Go.Proofs.YtdbhahiieokplaaGreatDoor
open Go.RowKit
attribute [local go_sem ↓] Go.wp_at_zero Go.wp_at_succ

theorem exact_cmp {p r:Rat}:bcmp p p r r=cmpQ p r:=by
 unfold bcmp
 have h1:=@cmpQ_le p r
 have h2:=@cmpQ_ge p r
 have h3:=cmpQ_three p r
 by_cases g1:p<r
 · rw [if_pos g1]
   have:=mt h2.1 (Rat.not_le.2 g1)
   omega
 · rw [if_neg g1]
   by_cases g2:r<p
   · rw [if_pos g2]
     have:=mt h1.1 (Rat.not_le.2 g2)
     omega
   · rw [if_neg g2]
     have e:p=r:=Rat.le_antisymm (Rat.not_lt.1 g2) (Rat.not_lt.1 g1)
     subst e
     rw [if_pos ⟨rfl,rfl,rfl⟩]
     exact (cmpQ_zero.2 rfl).symm
theorem bcmp_or {p q r s x y:Rat} (h1:p≤x) (h2:x≤q) (h3:r≤y) (h4:y≤s):bcmp p q r s=2∨(bcmp p q r s=-1∧cmpQ x y=-1)∨(bcmp p q r s=0∧cmpQ x y=0)∨(bcmp p q r s=1∧cmpQ x y=1):=by
 have c3:=cmpQ_three x y
 have c1:=@cmpQ_le x y
 have c2:=@cmpQ_ge x y
 unfold bcmp
 by_cases g1:q<r
 · rw [if_pos g1]
   have:¬y≤x:=by grind
   have:=mt c2.1 this
   omega
 · rw [if_neg g1]
   by_cases g2:s<p
   · rw [if_pos g2]
     have:¬x≤y:=by grind
     have:=mt c1.1 this
     omega
   · rw [if_neg g2]
     by_cases g3:p=r∧q=s∧p=q
     · rw [if_pos g3]
       have:cmpQ x y=0:=cmpQ_zero.2 (by grind)
       omega
     · rw [if_neg g3]
       omega
theorem cmps_all (n1 d1 n2 d2:Int) (na1:-2147483648≤n1) (nb1:n1≤2147483647) (da1:0≤d1) (db1:d1≤65535) (na2:-2147483648≤n2) (nb2:n2≤2147483647) (da2:0≤d2) (db2:d2≤65535) (n3 d3 n4 d4:Int) (na3:-2147483648≤n3) (nb3:n3≤2147483647) (da3:0≤d3) (db3:d3≤65535) (na4:-2147483648≤n4) (nb4:n4≤2147483647) (da4:0≤d4) (db4:d4≤65535) (x y:Nat) (hx:x<256) (hy:y<256) (w:World) (hE:Env w):Calls Tryz.prog 10 #[.agg #[.int .i32 n1,.int .u16 d1,.int .i32 n2,.int .u16 d2],.agg #[.int .i32 n3,.int .u16 d3,.int .i32 n4,.int .u16 d4],.agg #[.int .u8 (x:Int),.int .u8 (y:Int)]] w (RetB w (.bool true)):=by
 obtain ⟨p,q,b1,m1,k1,b2,m2,k2,h1,h2,hpq,z1,z2,HA⟩:=pof_f na1 nb1 da1 db1 na2 nb2 da2 db2
 obtain ⟨r,s,b3,m3,k3,b4,m4,k4,h3,h4,hrs,z3,z4,HB⟩:=pof_f na3 nb3 da3 db3 na4 nb4 da4 db4
 obtain ⟨t,b5,m5,k5,h5,g1,g2,z5,HW1⟩:=within_f h1 h2 hpq z1 z2 x hx
 obtain ⟨v,b6,m6,k6,h6,g3,g4,z6,HW2⟩:=within_f h3 h4 hrs z3 z4 y hy
 have hE':=fun V (hb:Below w.heap.size w V)=>hE.next hb
 exact cmps_w w (bcmp_or g1 g2 g3 g4) (fun V hb=>rknown5 V (hE' V hb)) (fun V _=>HA V) (fun V _=>HB V) (fun V hb=>ecmp_f h1 h2 h3 h4 (z1.up (by omega)) (z2.up (by omega)) (z3.up (by omega)) (z4.up (by omega)) V (hE' V hb)) (fun V _=>HW1 V) (fun V _=>HW2 V) (fun V _=>qcmp h5 h6 (z5.up (by omega)) (z6.up (by omega)) V) (fun V _=>low_any V) (fun V _=>low_any V) (fun V _=>fcmb_f h1 h2 h3 h4 (z1.up (by omega)) (z2.up (by omega)) (z3.up (by omega)) (z4.up (by omega)) V) (fun V _=>exact_any V) (fun V _=>exact_any V) (fun V hb=>by have H:=ecmp_f h1 h1 h3 h3 (z1.up (by omega)) (z1.up (by omega)) (z3.up (by omega)) (z3.up (by omega)) V (hE' V hb);rw [exact_cmp] at H;exact H) (fun V _=>qcmp h1 h3 (z1.up (by omega)) (z3.up (by omega)) V)
end Go.Proofs.YtdbhahiieokplaaGreatDoor
