import Derived.Test.YtdbhahiieokplaaGreatDoorGENH
import Derived.Test.YtdbhahiieokplaaGreatDoorGENZ
set_option linter.unusedSimpArgs false
set_option linter.unusedVariables false

namespace Go.Proofs.YtdbhahiieokplaaGreatDoor
open Go.RowKit
attribute [local go_sem ↓] Go.wp_at_zero Go.wp_at_succ
theorem times_den5 (q:Rat):q*((q.den:Int):Rat)=(q.num:Rat):=by
 have h:=Rat.num_divInt_den q
 have e:Rat.divInt q.num q.den*Rat.divInt (q.den:Int) 1=Rat.divInt q.num 1:=by
  rw [Rat.divInt_mul_divInt,Rat.divInt_eq_divInt_iff (by have:=q.den_pos;omega) (by omega),Int.mul_one,Int.mul_one]
 rw [h] at e
 have e1:∀ z:Int,Rat.divInt z 1=(z:Rat):=fun z=>by
  rw [show (1:Int)=((1:Nat):Int) from rfl,Rat.divInt_ofNat]
  exact Rat.mkRat_one z
 rw [e1,e1] at e
 exact e
theorem fl_q (q:Rat):((q.num / (q.den:Int):Int):Rat)≤q∧q<((q.num / (q.den:Int):Int):Rat)+1:=by
 have hd:=den_pos q
 have ht:=times_den5 q
 have hdi:(0:Int)<(q.den:Int):=by have:=q.den_pos;omega
 obtain ⟨F,hF⟩:∃ F,q.num / (q.den:Int)=F:=⟨_,rfl⟩
 have h1:F*(q.den:Int)≤q.num:=by rw [←hF];exact Int.ediv_mul_le _ (by omega)
 have h2:q.num<(F+1)*(q.den:Int):=by rw [←hF];exact Int.lt_ediv_add_one_mul_self _ hdi
 have h1':=Rat.intCast_le_intCast.2 h1
 have h2':((q.num:Int):Rat)<(((F+1)*(q.den:Int):Int):Rat):=Rat.intCast_lt_intCast.2 h2
 rw [Rat.intCast_mul] at h1' h2'
 rw [show ((F+1:Int):Rat)=(F:Rat)+1 by rw [Rat.intCast_add];rfl] at h2'
 rw [hF]
 generalize ((q.den:Int):Rat)=D at *
 rw [←ht] at h1' h2'
 refine ⟨Rat.le_of_mul_le_mul_right h1' hd,?_⟩
 rcases Rat.le_total (a:=(F:Rat)+1) (b:=q) with h | h
 · have:=Rat.mul_le_mul_of_nonneg_right h (Rat.le_of_lt hd)
   grind
 · rcases Rat.le_iff_lt_or_eq.1 h with h | h
   · exact h
   · rw [h] at h2';grind
theorem int_of_lt {a b:Int} (h:(a:Rat)<(b:Rat)):a<b:=Rat.intCast_lt_intCast.1 h
theorem tight_core {r t:Rat} (hr:0≤r) (ht:0<t):∃ F C:Int,floorV ((Sg.mkR 0 1 r).scl t)=F∧-floorV ((Sg.mkR 0 1 r).scl t).neg=C∧0≤F∧(F:Rat)*F≤r*(t*t)∧r*(t*t)≤(C:Rat)*C∧C≤F+1∧0≤C:=by
 by_cases hs:Sg.Sq r
 · obtain ⟨z,hz0,hzz⟩:=hs
   have hrt:Sg.rt r=z:=Sg.rt_eq hz0 hzz
   have e1:Sg.mkR 0 1 r=⟨z,0,1⟩:=by
    unfold Sg.mkR
    rw [if_pos ⟨z,hz0,hzz⟩,hrt]
    congr 1
    grind
   have e2:(⟨z,0,1⟩:Sg.Rl).scl t=⟨z*t,0,1⟩:=Sg.mkR_zero _ _
   rw [e1,e2]
   have q0:0≤z*t:=Rat.mul_nonneg hz0 (Rat.le_of_lt ht)
   have qq:z*t*(z*t)=r*(t*t):=by rw [←hzz];grind
   generalize z*t=q at *
   have f1:floorV ⟨q,0,1⟩=q.num / (q.den:Int):=if_pos rfl
   have f2:floorV (Sg.Rl.neg ⟨q,0,1⟩)=(-q).num / ((-q).den:Int):=if_pos rfl
   obtain ⟨a1,a2⟩:=fl_q q
   obtain ⟨b1,b2⟩:=fl_q (-q)
   rw [f1,f2]
   generalize q.num / (q.den:Int)=F at *
   generalize (-q).num / ((-q).den:Int)=G at *
   have hF:0≤F:=by
    have:((-1:Int):Rat)<(F:Rat):=by
     rw [show ((-1:Int):Rat)=-1 from rfl]
     grind
    have:=int_of_lt this
    omega
   have cG:(((-G:Int)):Rat)=-(G:Rat):=Rat.intCast_neg G
   have hC:0≤-G:=by
    have:((-1:Int):Rat)<((-G:Int):Rat):=by
     rw [cG,show ((-1:Int):Rat)=-1 from rfl]
     grind
    have:=int_of_lt this
    omega
   have hCF:-G≤F+1:=by
    have:((-G:Int):Rat)<((F+2:Int):Rat):=by
     rw [cG,Rat.intCast_add,show ((2:Int):Rat)=2 from rfl]
     grind
    have:=int_of_lt this
    omega
   have hF':(0:Rat)≤(F:Rat):=by
    have:=Rat.intCast_le_intCast.2 hF
    exact this
   refine ⟨F,-G,rfl,rfl,hF,?_,?_,hCF,hC⟩
   · rw [←qq];exact sqb_le hF' a1
   · rw [←qq,cG];exact sqb_le q0 (by grind)
 · have e1:Sg.mkR 0 1 r=⟨0,r,1⟩:=mk_irr5 hs (by decide +kernel) (by grind) (by decide +kernel)
   have e2:(⟨0,r,1⟩:Sg.Rl).scl t=⟨0,r*(t*t),1⟩:=by
    show Sg.mkR (0*t) (t*((1:Int):Rat)) r=_
    rw [show (0:Rat)*t=0 by grind,show t*((1:Int):Rat)=t by rw [show ((1:Int):Rat)=1 from rfl];grind]
    exact mk_irr5 hs (by grind) (by grind) (if_neg (by grind))
   rw [e1,e2]
   have r0:r≠0:=fun e=>hs ⟨0,Rat.le_refl,by rw [e];grind⟩
   have tt:0<t*t:=Rat.mul_pos ht ht
   have A0:0<r*(t*t):=Rat.mul_pos (by grind) tt
   generalize r*(t*t)=A at *
   have hM:0<A.num:=num_pos_iff.2 A0
   have hD:(0:Int)<(A.den:Int):=by have:=A.den_pos;omega
   have hAD:=times_den5 A
   obtain ⟨s1,s2⟩:=rt_spec (fN ⟨0,A,1⟩).natAbs
   have hN:fN ⟨0,A,1⟩=(A.den:Int)*A.num:=by
    unfold fN
    rw [show ((0:Rat).den:Int)=1 from rfl,Int.one_mul,Int.mul_one]
   have hNn:fN (Sg.Rl.neg ⟨0,A,1⟩)=(A.den:Int)*A.num:=by
    unfold fN Sg.Rl.neg
    rw [show ((-(0:Rat)).den:Int)=1 from rfl,Int.one_mul,Int.mul_one]
   have f1:floorV ⟨0,A,1⟩=((rt ((A.den:Int)*A.num).natAbs:Nat):Int) / (A.den:Int):=by
    unfold floorV
    rw [if_neg (by grind),hN,if_neg (show ¬(1:Int)<0 by decide),show (0:Rat).num=0 from rfl,show ((0:Rat).den:Int)=1 from rfl,Int.zero_mul,Int.zero_add,Int.one_mul]
   have f2:floorV (Sg.Rl.neg ⟨0,A,1⟩)=(-1-((rt ((A.den:Int)*A.num).natAbs:Nat):Int)) / (A.den:Int):=by
    unfold floorV
    rw [if_neg (show ¬(Sg.Rl.neg ⟨0,A,1⟩).a=0 from by show ¬A=0;grind),hNn]
    show ((-(0:Rat)).num*(A.den:Int)+(if (Sg.Rl.neg ⟨0,A,1⟩).s<0 then _ else _)) / (((-(0:Rat)).den:Int)*(A.den:Int))=_
    rw [if_pos (show (Sg.Rl.neg ⟨0,A,1⟩).s<0 from by show (if A=0 then (1:Int) else -1)<0;rw [if_neg (by grind)];decide),show (-(0:Rat)).num=0 from rfl,show ((-(0:Rat)).den:Int)=1 from rfl,Int.zero_mul,Int.zero_add,Int.one_mul]
   rw [hN] at s1 s2
   rw [f1,f2]
   obtain ⟨S,hS⟩:∃ S:Int,((rt ((A.den:Int)*A.num).natAbs:Nat):Int)=S:=⟨_,rfl⟩
   have hNpos:0<(A.den:Int)*A.num:=Int.mul_pos hD hM
   have s1':S*S≤(A.den:Int)*A.num:=by
    rw [←hS,←Int.natCast_mul]
    have:(((A.den:Int)*A.num).natAbs:Int)=(A.den:Int)*A.num:=Int.natAbs_of_nonneg (Int.le_of_lt hNpos)
    rw [←this]
    exact Int.ofNat_le.2 s1
   have s2':(A.den:Int)*A.num<(S+1)*(S+1):=by
    have:(((A.den:Int)*A.num).natAbs:Int)=(A.den:Int)*A.num:=Int.natAbs_of_nonneg (Int.le_of_lt hNpos)
    rw [←this,←hS]
    exact Int.ofNat_lt.2 s2
   have hS0:0≤S:=by omega
   rw [hS]
   generalize A.num=M at *
   generalize (A.den:Int)=D at *
   obtain ⟨F,hF⟩:∃ F,S / D=F:=⟨_,rfl⟩
   obtain ⟨G,hG⟩:∃ G,(-1-S) / D=G:=⟨_,rfl⟩
   have a1:F*D≤S:=by rw [←hF];exact Int.ediv_mul_le _ (by omega)
   have a2:S<(F+1)*D:=by rw [←hF];exact Int.lt_ediv_add_one_mul_self _ hD
   have b1:G*D≤-1-S:=by rw [←hG];exact Int.ediv_mul_le _ (by omega)
   have b2:-1-S<(G+1)*D:=by rw [←hG];exact Int.lt_ediv_add_one_mul_self _ hD
   have hF0:0≤F:=by rw [←hF];exact Int.ediv_nonneg hS0 (Int.le_of_lt hD)
   have hG0:G<0:=by
    rcases Int.lt_or_le G 0 with h | h
    · exact h
    · have:=Int.mul_nonneg h (Int.le_of_lt hD);omega
   have hCF:-G≤F+1:=by
    rcases Int.lt_or_le (F+1) (-G) with h | h
    · have:(F+1)*D≤(-G-1)*D:=Int.mul_le_mul_of_nonneg_right (by omega) (Int.le_of_lt hD)
      have e:(-G-1)*D=-((G+1)*D):=by rw [←Int.neg_mul];congr 1;omega
      omega
    · exact h
   have u1:F*F*D≤M:=by
    have h1:F*D*(F*D)≤S*S:=Int.mul_le_mul a1 a1 (Int.mul_nonneg hF0 (Int.le_of_lt hD)) hS0
    have h2:D*(F*F*D)≤D*M:=by
     have:F*D*(F*D)=D*(F*F*D):=by grind
     omega
    exact Int.le_of_mul_le_mul_left h2 hD
   have u2:M≤-G*-G*D:=by
    have k:S+1≤-G*D:=by
     have:-G*D=-(G*D):=Int.neg_mul _ _
     omega
    have h1:(S+1)*(S+1)≤-G*D*(-G*D):=Int.mul_le_mul k k (by omega) (by omega)
    have h2:D*M≤D*(-G*-G*D):=by
     have:-G*D*(-G*D)=D*(-G*-G*D):=by grind
     omega
    exact Int.le_of_mul_le_mul_left h2 hD
   refine ⟨F,-G,hF,by rw [hG],hF0,?_,?_,hCF,by omega⟩
   · have h:=Rat.intCast_le_intCast.2 u1
     rw [Rat.intCast_mul,Rat.intCast_mul,←hAD] at h
     exact Rat.le_of_mul_le_mul_right h (Rat.intCast_lt_intCast.2 hD)
   · have h:=Rat.intCast_le_intCast.2 u2
     rw [Rat.intCast_mul,Rat.intCast_mul,←hAD] at h
     exact Rat.le_of_mul_le_mul_right h (Rat.intCast_lt_intCast.2 hD)
theorem tight_ends {r t l h:Rat} {F C:Int} (ht:0<t) (hl:l=(F:Rat) / t) (hh:h=(C:Rat) / t) (h0:0≤F) (h1:(F:Rat)*F≤r*(t*t)) (h2:r*(t*t)≤(C:Rat)*C) (h3:C≤F+1):0≤l∧l*l≤r∧r≤h*h∧(h-l)*t≤1:=by
 have t0:t≠0:=by grind
 have e1:l*t=F:=by rw [hl,Rat.div_mul_cancel t0]
 have e2:h*t=C:=by rw [hh,Rat.div_mul_cancel t0]
 have tt:0<t*t:=Rat.mul_pos ht ht
 have F0:(0:Rat)≤F:=by have:=Rat.intCast_le_intCast.2 h0;exact this
 have c3:(C:Rat)≤F+1:=by have:=Rat.intCast_le_intCast.2 h3;rw [Rat.intCast_add] at this;exact this
 refine ⟨?_,?_,?_,?_⟩
 · rw [hl,Rat.div_def]
   exact Rat.mul_nonneg F0 (Rat.le_of_lt (Rat.inv_pos.2 ht))
 · refine Rat.le_of_mul_le_mul_right ?_ tt
   rw [show l*l*(t*t)=l*t*(l*t) by grind,e1]
   exact h1
 · refine Rat.le_of_mul_le_mul_right ?_ tt
   rw [show h*h*(t*t)=h*t*(h*t) by grind,e2]
   exact h2
 · rw [show (h-l)*t=h*t-l*t by grind,e1,e2]
   grind
theorem quot_size {F:Int} {n k:Nat} (h:Zs k F) (hn:2^n<256^k):Sz k (Rat.divInt F ((2^n:Nat):Int)):=by
 rw [Rat.divInt_ofNat]
 obtain ⟨h1,h2⟩:=mkRat_le F (d:=2^n) (by have:=Nat.pow_pos (a:=2) (n:=n) (by decide);omega)
 exact ⟨Nat.lt_of_le_of_lt h1 h,Nat.lt_of_le_of_lt h2 hn⟩

theorem mk1_size {r:Rat} {n:Nat} (zr:Sz (n+1) r):Rz (n+1) (Sg.mkR 0 1 r):=by
 unfold Sg.mkR
 split
 · refine ⟨?_,Sz.zero n⟩
   show Sz (n+1) (0+1*Sg.rt r)
   rw [show 0+1*Sg.rt r=Sg.rt r by grind]
   exact zr.root
 · rw [if_neg (by decide +kernel)]
   refine ⟨Sz.zero n,?_⟩
   show Sz (n+1) (1*1*r)
   rw [show 1*1*r=r by grind]
   exact zr
theorem sg_nonneg {q:Rat} (h:0≤q):0≤q.num.sign:=by
 have:0≤q.num:=Rat.num_nonneg.2 h
 rcases Int.lt_or_eq_of_le this with h | h
 · rw [Int.sign_eq_one_of_pos h];omega
 · rw [←h];decide
theorem sqrt_ends {r:Rat} {b1:Bool} {m1 k1:ByteArray} (h1:Rq r b1 m1 k1) (h0:0≤r) (zr:Sz 8 r) {n:Nat} (hn:n≤64):∃ l h:Rat,∃ b3 m3 k3 b4 m4 k4,Rq l b3 m3 k3∧Rq h b4 m4 k4∧Sz 300 l∧Sz 300 h∧0≤l∧l*l≤r∧r≤h*h∧(h-l)*(((2^n:Nat):Int):Rat)≤1∧∀ w,Env w→Calls Tryz.prog 48 #[.agg #[.bool b1,.string m1,.bool false,.string k1,.bool b1,.string m1,.bool false,.string k1],.int .i64 ((n:Int))] w (RetB w (.tuple #[.agg #[.bool b3,.string m3,.bool false,.string k3,.bool b4,.string m4,.bool false,.string k4],.int .i64 0])):=by
 have t0:(0:Rat)<(((2^n:Nat):Int):Rat):=by
  have h:=pow_ne n
  have h2:(((0:Int)):Rat)≤(((2^n:Nat):Int):Rat):=Rat.intCast_le_intCast.2 (Int.natCast_nonneg _)
  have h3:((0:Int):Rat)=0:=rfl
  rw [h3] at h2
  grind
 obtain ⟨F,C,f1,f2,f3,f4,f5,f6,f7⟩:=tight_core h0 t0
 have zx:=mk1_size (n:=7) zr
 have okx:(Sg.mkR 0 1 r).Ok:=mkR_ok h0
 obtain ⟨zs,oks⟩:=scl_size okx (pow_ne n) zx (pow2_size hn).sz'
 obtain ⟨y,hy⟩:∃ y,(Sg.mkR 0 1 r).scl (((2^n:Nat):Int):Rat)=y:=⟨_,rfl⟩
 rw [hy] at f1 f2 zs oks
 have z4:Zs (299+1) F:=by rw [←f1];exact (floorV_size oks (n:=49) ⟨zs.p,zs.r⟩).up (by omega)
 have z6':Zs (299+1) (floorV y.neg):=(floorV_size (Sg.neg_ok oks) (n:=49) ⟨zs.p.minus,zs.r⟩).up (by omega)
 have z6:Zs (299+1) C:=by rw [←f2];unfold Zs at z6' ⊢;rw [Int.natAbs_neg];exact z6'
 have hp:2^n<256^300:=Nat.lt_of_le_of_lt (Nat.pow_le_pow_right (by decide) hn) (by decide +kernel)
 obtain ⟨b3,m3,k3,h3⟩:=Rq.some_ (Rat.divInt F ((2^n:Nat):Int))
 obtain ⟨b4,m4,k4,h4⟩:=Rq.some_ (Rat.divInt C ((2^n:Nat):Int))
 obtain ⟨b2,m2,k2,c2,n2,l2,s2,h2⟩:=Rv.some_ (Sg.mkR 0 1 r)
 obtain ⟨j1,j2,j3,j4⟩:=tight_ends (l:=Rat.divInt F ((2^n:Nat):Int)) (h:=Rat.divInt C ((2^n:Nat):Int)) t0 (Rat.divInt_eq_div _ _) (Rat.divInt_eq_div _ _) f3 f4 f5 f6
 refine ⟨_,_,_,_,_,_,_,_,h3,h4,quot_size z4 hp,quot_size z6 hp,j1,j2,j3,j4,fun w hE=>?_⟩
 obtain ⟨b5,m5,k5,h5⟩:=Rq.some_ (Rat.divInt (-floorV y.neg) ((2^n:Nat):Int))
 obtain ⟨b6,m6,k6,h6⟩:=Rq.some_ (Rat.divInt (floorV y) ((2^n:Nat):Int))
 have h3':Rq (Rat.divInt (floorV y) ((2^n:Nat):Int)) b3 m3 k3:=by rw [f1];exact h3
 have h4':Rq (Rat.divInt (-floorV y.neg) ((2^n:Nat):Int)) b4 m4 k4:=by rw [f2];exact h4
 have HR:=fun V (hb:Below w.heap.size w V)=>eroot_f h1 h0 (zr.up (by omega)) h2 V (hE.next hb)
 have HE:=fun V (hb:Below w.heap.size w V)=>enclp_f h2 okx zx hn hy h3' h4' V (hE.next hb)
 exact esqrt_yes w (c:=r.num.sign) (by have:=sg_nonneg h0;omega) (fun V _=>by have H:=egrid_f (n:=(n:Int)) (by omega) V;rw [decide_eq_true (show (n:Int)≤128 by omega)] at H;exact H) (fun V _=>ratSign_f h1 V) HR HE HR HE
theorem tight_all (n5 d5:Int) (na5:-2147483648≤n5) (nb5:n5≤2147483647) (da5:0≤d5) (db5:d5≤65535) (x:Nat) (hx:x<256) (w:World) (hE:Env w):Calls Tryz.prog 8 #[.agg #[.int .i32 n5,.int .u16 d5],.int .u8 (x:Int)] w (RetB w (.bool true)):=by
 have hE':=fun V (hb:Below w.heap.size w V)=>hE.next hb
 obtain ⟨n,hn⟩:∃ n:Nat,x%41=n:=⟨_,rfl⟩
 have hn2:n≤40:=by omega
 have hp40:(2:Nat)^n≤2^40:=Nat.pow_le_pow_right (by decide) hn2
 have gb1:-9223372036854775808≤((2^n:Nat):Int):=Int.le_trans (by decide) (Int.natCast_nonneg _)
 have gb2:((2^n:Nat):Int)≤9223372036854775807:=Int.le_trans (Int.ofNat_le.2 hp40) (by decide)
 have g7:(2:Int)^(n:Int).toNat=((2^n:Nat):Int):=by rw [show ((n:Int)).toNat=n from rfl,Int.natCast_pow];rfl
 have z1:=part_size na5 nb5 da5 db5
 have z6:=(pow2_size (n:=n) (by omega)).sz'
 have zo:Sz 1 1:=⟨by decide,by decide⟩
 obtain ⟨b1,m1,k1,h1⟩:=Rq.some_ (Rat.divInt n5 (d5+1))
 obtain ⟨b6,m6,k6,h6⟩:=Rq.some_ ((((2^n:Nat):Int):Rat))
 by_cases g:0≤Rat.divInt n5 (d5+1)
 · have hc:¬(Rat.divInt n5 (d5+1)).num.sign<0:=by have:=sg_nonneg g;omega
   obtain ⟨l,hh,b3,m3,k3,b4,m4,k4,h3,h4,z3,z4,i1,i2,i3,i4',HS⟩:=sqrt_ends h1 g (z1.up (by omega)) (n:=n) (by omega)
   obtain ⟨b5,m5,k5,h5⟩:=Rq.some_ (hh-l)
   obtain ⟨b7,m7,k7,h7⟩:=Rq.some_ ((hh-l)*(((2^n:Nat):Int):Rat))
   obtain ⟨b8,m8,k8,h8⟩:=Rq.some_ (l*l)
   obtain ⟨b9,m9,k9,h9⟩:=Rq.some_ (hh*hh)
   have i4:(hh-l)*(((2^n:Nat):Int):Rat)≤1:=i4'
   exact tight_pos w (y:=(n:Int)) (G:=((2^n:Nat):Int)) hc (by rw [Int.tmod_eq_emod_of_nonneg (by omega)];omega) (IntWalk.u8_in _ (by omega)) (wrap_small (by omega) (by omega)) (by omega) (by omega) (by rw [Int.one_mul];exact g7) g7 (wrap_small gb1 gb2) (sg_nonneg i1) (cmpQ_le.2 i2) (cmpQ_ge.2 i3) (cmpQ_le.2 i4) (fun V _=>prat_f na5 nb5 da5 db5 h1 V) (fun V _=>rSign_f h1 V) (fun V _=>exact_any V) (fun V hb=>HS V (hE' V hb)) (fun V hb=>ewid_w V (fun V2 hb2=>sub_z h4 h3 h5 (z4.up (by omega)) (z3.up (by omega)) V2 ((hE' V hb).next hb2))) (fun V _=>rOf_f (by rw [divInt1];exact h6) (by omega) gb1 gb2 (by omega) (by omega) V) (fun V hb=>mul_z h5 h6 h7 ((z4.sub z3).up (by omega)) (z6.up (by omega)) V (hE' V hb)) (fun V hb=>rknown5 V (hE' V hb)) (fun V _=>rSign_f h3 V) (fun V _=>rmul_z h3 h3 h8 (z3.up (by omega)) (z3.up (by omega)) V) (fun V _=>qcmp h8 h1 ((z3.mul z3).up (by omega)) (z1.up (by omega)) V) (fun V _=>rmul_z h4 h4 h9 (z4.up (by omega)) (z4.up (by omega)) V) (fun V _=>qcmp h9 h1 ((z4.mul z4).up (by omega)) (z1.up (by omega)) V) (fun V _=>rOf_f (x:=1) (y:=1) (by rw [divInt1];exact qo) (by omega) (by omega) (by omega) (by omega) (by omega) V) (fun V _=>qcmp h7 qo (((z4.sub z3).mul z6).up (by omega)) (zo.up (by omega)) V)
 · have hc : (Rat.divInt n5 (d5 + 1)).num.sign < 0 := by
    rw [sign_cmp]
    have:=mt cmpQ_ge.1 g
    omega
   obtain ⟨b2,m2,k2,h2⟩:=Rq.some_ (-Rat.divInt n5 (d5+1))
   have z2:=z1.minus
   obtain ⟨l,hh,b3,m3,k3,b4,m4,k4,h3,h4,z3,z4,i1,i2,i3,i4',HS⟩:=sqrt_ends h2 (by grind) (z2.up (by omega)) (n:=n) (by omega)
   obtain ⟨b5,m5,k5,h5⟩:=Rq.some_ (hh-l)
   obtain ⟨b7,m7,k7,h7⟩:=Rq.some_ ((hh-l)*(((2^n:Nat):Int):Rat))
   obtain ⟨b8,m8,k8,h8⟩:=Rq.some_ (l*l)
   obtain ⟨b9,m9,k9,h9⟩:=Rq.some_ (hh*hh)
   have i4:(hh-l)*(((2^n:Nat):Int):Rat)≤1:=i4'
   exact tight_neg w (y:=(n:Int)) (G:=((2^n:Nat):Int)) hc (by rw [Int.tmod_eq_emod_of_nonneg (by omega)];omega) (IntWalk.u8_in _ (by omega)) (wrap_small (by omega) (by omega)) (by omega) (by omega) (by rw [Int.one_mul];exact g7) g7 (wrap_small gb1 gb2) (sg_nonneg i1) (cmpQ_le.2 i2) (cmpQ_ge.2 i3) (cmpQ_le.2 i4) (fun V _=>prat_f na5 nb5 da5 db5 h1 V) (fun V _=>rSign_f h1 V) (fun V _=>rNeg_f h1 h2 V) (fun V _=>exact_any V) (fun V hb=>HS V (hE' V hb)) (fun V hb=>ewid_w V (fun V2 hb2=>sub_z h4 h3 h5 (z4.up (by omega)) (z3.up (by omega)) V2 ((hE' V hb).next hb2))) (fun V _=>rOf_f (by rw [divInt1];exact h6) (by omega) gb1 gb2 (by omega) (by omega) V) (fun V hb=>mul_z h5 h6 h7 ((z4.sub z3).up (by omega)) (z6.up (by omega)) V (hE' V hb)) (fun V hb=>rknown5 V (hE' V hb)) (fun V _=>rSign_f h3 V) (fun V _=>rmul_z h3 h3 h8 (z3.up (by omega)) (z3.up (by omega)) V) (fun V _=>qcmp h8 h2 ((z3.mul z3).up (by omega)) (z2.up (by omega)) V) (fun V _=>rmul_z h4 h4 h9 (z4.up (by omega)) (z4.up (by omega)) V) (fun V _=>qcmp h9 h2 ((z4.mul z4).up (by omega)) (z2.up (by omega)) V) (fun V _=>rOf_f (x:=1) (y:=1) (by rw [divInt1];exact qo) (by omega) (by omega) (by omega) (by omega) (by omega) V) (fun V _=>qcmp h7 qo (((z4.sub z3).mul z6).up (by omega)) (zo.up (by omega)) V)
end Go.Proofs.YtdbhahiieokplaaGreatDoor
