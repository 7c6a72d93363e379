import Derived.Test.YtpnokfgplnmjpaaGreatDoorGPk
import Derived.Test.YtpnokfgplnmjpaaGreatDoorGROB
import Derived.Test.YtpnokfgplnmjpaaGreatDoorGRefI
import Derived.Test.YtpnokfgplnmjpaaGreatDoorGSgT
import Derived.Test.YtpnokfgplnmjpaaGreatDoorGRCC
import Derived.Test.YtpnokfgplnmjpaaGreatDoorGRHK
import Derived.Test.YtpnokfgplnmjpaaGreatDoorGROA
set_option linter.unusedSimpArgs false
set_option linter.unusedVariables false
set_option maxRecDepth 100000
set_option maxHeartbeats 8000000
namespace Go.Proofs.YtpnokfgplnmjpaaGreatDoor
open Go.RowKit
attribute [local go_sem ↓] Go.wp_at_zero Go.wp_at_succ
theorem ediv_abs {x d:Int} (hd:0<d):(x / d).natAbs≤x.natAbs:=by
 rcases Int.le_total 0 x with h | h
 · have h1:=Int.ediv_nonneg h (Int.le_of_lt hd);have h2:=Int.ediv_le_self d h;omega
 · have h1 : x ≤ x / d := (Int.le_ediv_iff_mul_le hd).2 (by
    have:x*d≤x*1:=Int.mul_le_mul_of_nonpos_left h om;omega)
   have h2:x / d≤0:=by
    have:=Int.ediv_le_ediv hd h;simpa using this
   omega
theorem Zs.up {n m:Nat} {z:Int} (h:Zs n z) (hm:n≤m):Zs m z:=Nat.lt_of_lt_of_le h (Nat.pow_le_pow_right dc hm)
theorem Zs.div {n:Nat} {x d:Int} (h:Zs n x) (hd:0<d):Zs n (x / d):=Nat.lt_of_le_of_lt (ediv_abs hd) h
theorem Zs.one (n:Nat):Zs (n+1) 1:=by
 show 1<256^(n+1);rw [Nat.pow_succ];have:=Nat.pow_pos (a:=256) (n:=n) dc;omega
theorem Zs.sz' {n:Nat} {z:Int} (h:Zs (n+1) z):Sz (n+1) (z:Rat):=⟨by rw [Rat.num_intCast];exact h,by rw [Rat.den_intCast];exact Zs.one n⟩
theorem rq_z (z:Int):∃ b m,enc z=.agg #[.bool b,.string m]∧Rq (z:Rat) b m ⟨#[]⟩:=by
 obtain ⟨b,m,k,h⟩:=Rq.some_ (z:Rat);obtain rfl:=h.den1 (Rat.den_intCast z);have h1:=h.num;rw [Rat.num_intCast] at h1;exact ⟨b,m,h1,h⟩
theorem den_pos (q:Rat):(0:Rat)<(q.den:Int):=by
 have h:(0:Int)<(q.den:Int):=by have:=q.den_pos;omega
 exact Rat.intCast_pos.2 h
theorem cast_le {a b:Int} (h:a≤b):(a:Rat)≤(b:Rat):=Rat.intCast_le_intCast.2 h
theorem floorV_spec {x:Sg.Rl} (ok:x.Ok):Sg.cmpX (Sg.Rl.of (floorV x:Rat)) x≤0∧Sg.cmpX x (Sg.Rl.of ((floorV x:Rat)+1))=-1:=by
 unfold floorV;rcases Sg.ok_cases ok with ⟨ha,hs⟩ | ⟨ha,hq⟩
 · rw [if_pos ha];have hx:x=Sg.Rl.of x.p:=Sg.Rl.ext' rfl ha hs;have hd:=den_pos x.p;have ht:=Sg.times_den x.p;have hdi:(0:Int)<(x.p.den:Int):=by have:=x.p.den_pos;omega
   obtain ⟨F,hF⟩:∃ F,x.p.num / (x.p.den:Int)=F:=⟨_,rfl⟩
   have h1:F*(x.p.den:Int)≤x.p.num:=by rw [←hF];exact Int.ediv_mul_le _ om
   have h2:x.p.num<(F+1)*(x.p.den:Int):=by rw [←hF];exact Int.lt_ediv_add_one_mul_self _ hdi
   have h1':=cast_le h1;have h2':((x.p.num:Int):Rat)<(((F+1)*(x.p.den:Int):Int):Rat):=Rat.intCast_lt_intCast.2 h2;rw [Rat.intCast_mul] at h1' h2';rw [show ((F+1:Int):Rat)=(F:Rat)+1 by rw [Rat.intCast_add];rfl] at h2';rw [hF];rw [hx];generalize ((x.p.den:Int):Rat)=D at *;rw [←ht] at h1' h2';refine ⟨Sg.of_le.2 ?_,Sg.of_lt.2 ?_⟩
   · exact Rat.le_of_mul_le_mul_right h1' hd
   · rcases Rat.le_total (a:=(F:Rat)+1) (b:=x.p) with h | h
     · have:=Rat.mul_le_mul_of_nonneg_right h (Rat.le_of_lt hd);grind
     · rcases Rat.le_iff_lt_or_eq.1 h with h | h
       · exact h
       · rw [h] at h2';grind
 · have hne:x.a≠0:=by grind
   rw [if_neg hne];have hnsq:Sg.NSq x.a:=Sg.nsq_sq.2 hq;have hd1:=den_pos x.p;have hd2:=den_pos x.a;have ht1:=Sg.times_den x.p;have ht2:=Sg.times_den x.a;have hDi:(0:Int)<(x.p.den:Int)*(x.a.den:Int):=Int.mul_pos (by have:=x.p.den_pos;omega) (by have:=x.a.den_pos;omega);have hD:(0:Rat)<(((x.p.den:Int)*(x.a.den:Int):Int):Rat):=Rat.intCast_pos.2 hDi;have hfn:=fN_pos ha;obtain ⟨r,hr⟩:∃ r,rt (fN x).natAbs=r:=⟨_,rfl⟩
   have hsp:=rt_spec (fN x).natAbs;rw [hr] at hsp ⊢;obtain ⟨D,hDe⟩:∃ D,(x.p.den:Int)*(x.a.den:Int)=D:=⟨_,rfl⟩
   obtain ⟨M,hMe⟩:∃ M,x.p.num*(x.a.den:Int)=M:=⟨_,rfl⟩
   have hM:x.p*(D:Rat)=(M:Rat):=by
    rw [←hDe,←hMe,Rat.intCast_mul,Rat.intCast_mul,←ht1];grind
   have hN:x.a*((D:Rat)*(D:Rat))=(fN x:Rat):=by
    unfold fN;rw [←hDe,Rat.intCast_mul,Rat.intCast_mul,Rat.intCast_mul,←ht2];grind
   rw [hDe] at hD hDi ⊢;rw [hMe];have e1:((r*r:Nat):Int)≤fN x:=by have:=hsp.1;omega
   have e2:fN x<(((r+1)*(r+1):Nat):Int):=by have:=hsp.2;omega
   have e1':=cast_le e1;have e2':((fN x:Int):Rat)<((((r+1)*(r+1):Nat):Int):Rat):=Rat.intCast_lt_intCast.2 e2;have c1:(((r*r:Nat):Int):Rat)=((r:Int):Rat)*((r:Int):Rat):=by rw [←Rat.intCast_mul];congr 1
   have c2:((((r+1)*(r+1):Nat):Int):Rat)=(((r:Int):Rat)+1)*(((r:Int):Rat)+1):=by
    exact k121
   rw [c1] at e1';rw [c2] at e2';have hr0:(0:Rat)≤((r:Int):Rat):=by have:=cast_le (show (0:Int)≤(r:Int) by omega);simpa using this
   obtain ⟨F,hF⟩:∃ F,(M+(if x.s<0 then -1-(r:Int) else (r:Int))) / D=F:=⟨_,rfl⟩
   have h1:F*D≤M+(if x.s<0 then -1-(r:Int) else (r:Int)):=by rw [←hF];exact Int.ediv_mul_le _ om
   have h2:M+(if x.s<0 then -1-(r:Int) else (r:Int))<(F+1)*D:=by rw [←hF];exact Int.lt_ediv_add_one_mul_self _ hDi
   rw [hF]
   have key:=Sg.floor_root (p:=x.p) (a:=x.a) (D:=(D:Rat)) (s:=x.s) ok.sg hnsq hD (M:=(M:Rat)) (r:=((r:Int):Rat)) (F:=(F:Rat)) (N:=(fN x:Rat)) hM hN hr0 e1' e2'
    (fun hs=>by
     rw [if_neg om] at h1 h2;have g1:=cast_le h1;have g2:=cast_le (show M+(r:Int)+1≤(F+1)*D by omega);rw [Rat.intCast_mul,Rat.intCast_add] at g1;rw [Rat.intCast_mul,Rat.intCast_add,Rat.intCast_add,Rat.intCast_add] at g2;exact ⟨g1,g2⟩)
    (fun hs=>by
     rw [if_pos om] at h1 h2;have g1:=cast_le (show F*D≤M-1-(r:Int) by omega);have g2:=cast_le (show M-(r:Int)≤(F+1)*D by omega);rw [Rat.intCast_mul,Rat.intCast_sub,Rat.intCast_sub] at g1;rw [Rat.intCast_mul,Rat.intCast_sub,Rat.intCast_add] at g2;exact ⟨g1,g2⟩)
   constructor
   · rw [Sg.cmp_anti ok (Sg.of_ok _),Sg.cmp_root ha,key.1];decide
   · rw [Sg.cmp_root ha];exact key.2
theorem floor_between {x:Sg.Rl} (ok:x.Ok) {m n F:Int} (h1:Sg.cmpX (Sg.Rl.of (m:Rat)) x≤0) (h2:Sg.cmpX x (Sg.Rl.of (n:Rat))=-1) (g1:Sg.cmpX (Sg.Rl.of (F:Rat)) x≤0) (g2:Sg.cmpX x (Sg.Rl.of ((F:Rat)+1))=-1):m≤F∧F<n:=by
 constructor
 · have h:Sg.cmpX (Sg.Rl.of (m:Rat)) (Sg.Rl.of ((F:Rat)+1))=-1:=Sg.le_lt (Sg.of_ok _) ok (Sg.of_ok _) h1 g2;have h3:=Sg.of_lt.1 h;rw [show (F:Rat)+1=((F+1:Int):Rat) by rw [Rat.intCast_add];rfl] at h3;have:=Rat.intCast_lt_intCast.1 h3;omega
 · have h:Sg.cmpX (Sg.Rl.of (F:Rat)) (Sg.Rl.of (n:Rat))=-1:=Sg.le_lt (Sg.of_ok _) ok (Sg.of_ok _) g1 h2;exact Rat.intCast_lt_intCast.1 (Sg.of_lt.1 h)
theorem near_root {x:Sg.Rl} (ok:x.Ok) {root n:Rat} (h0:0≤root) (hz:x.a=0→root=0) (h1:root*root≤x.a) (h2:x.a<(root+1)*(root+1)) (g1:n≤x.p+(x.s:Rat)*root) (g2:x.p+(x.s:Rat)*root<n+1) :
  Sg.cmpX (Sg.Rl.of (n-1)) x≤0∧Sg.cmpX x (Sg.Rl.of (n+2))=-1:=by
 rcases Sg.ok_cases ok with ⟨ha,hs⟩ | ⟨ha,hq⟩
 · have hx:x=Sg.Rl.of x.p:=Sg.Rl.ext' rfl ha hs;rw [hz ha] at g1 g2;rw [hx];exact ⟨Sg.of_le.2 (by show n-1≤x.p;grind),Sg.of_lt.2 (by show x.p<n+2;grind)⟩
 · rw [Sg.cmp_anti ok (Sg.of_ok _),Sg.cmp_root ha,Sg.cmp_root ha];have hpos:0<root+1:=by grind
   unfold Sg.sos;rcases ok.sg with hs | hs
   · rw [hs] at g1 g2 ⊢;rw [show (((1:Int):Int):Rat)=1 from rfl] at g1 g2;constructor
     · by_cases hp:x.p-(n-1)<0
       · rw [Sg.sgq_neg hp,if_neg dc];have h3:(x.p-(n-1))*(x.p-(n-1))<root*root:=Sg.sq_lt (by grind) (by grind);rw [Sg.sgq_pos (by grind)];decide
       · rcases Sg.sgq_three (x.p-(n-1)) with ⟨h,e⟩ | ⟨h,e⟩ | ⟨h,e⟩
         · exact absurd h hp
         · rw [e,if_pos dc];decide
         · rw [e,if_pos dc];decide
     · have hp:x.p-(n+2)<0:=by grind
       rw [Sg.sgq_neg hp,if_neg dc]
       have h3:(root+1)*(root+1)≤(x.p-(n+2))*(x.p-(n+2)):=by
        have:=Sg.sq_le (x:=root+1) (y:=-(x.p-(n+2))) (by grind) (by grind);grind
       rw [Sg.sgq_neg (by grind)];decide
   · rw [hs] at g1 g2 ⊢;rw [show (((-1:Int):Int):Rat)=-1 from rfl] at g1 g2;constructor
     · have hp:0<x.p-(n-1):=by grind
       rw [Sg.sgq_pos hp,if_neg dc];have h3:(root+1)*(root+1)≤(x.p-(n-1))*(x.p-(n-1)):=Sg.sq_le (by grind) (by grind);rw [Sg.sgq_neg (by grind)];decide
     · by_cases hp:0<x.p-(n+2)
       · rw [Sg.sgq_pos hp,if_neg dc];have h3:(x.p-(n+2))*(x.p-(n+2))<root*root:=Sg.sq_lt (by grind) (by grind);rw [Sg.sgq_pos (by grind)];decide
       · rcases Sg.sgq_three (x.p-(n+2)) with ⟨h,e⟩ | ⟨h,e⟩ | ⟨h,e⟩
         · rw [e,if_pos dc]
         · rw [e,if_pos dc]
         · exact absurd h hp
theorem root_frac {a:Rat} (h:0≤a) {r:Nat} (hr:rt (a.num*(a.den:Int)).natAbs=r):(0:Rat)≤Rat.divInt (r:Int) (a.den:Int)∧(a=0→Rat.divInt (r:Int) (a.den:Int)=0)∧Rat.divInt (r:Int) (a.den:Int)*Rat.divInt (r:Int) (a.den:Int)≤a∧a<(Rat.divInt (r:Int) (a.den:Int)+1)*(Rat.divInt (r:Int) (a.den:Int)+1):=by
 have hd:=den_pos a;have hdi:(0:Int)<(a.den:Int):=by have:=a.den_pos;omega
 have ht:=Sg.times_den a;have hd1:(1:Rat)≤((a.den:Int):Rat):=cast_le (show (1:Int)≤(a.den:Int) by omega);have hn:0≤a.num:=Rat.num_nonneg.2 h;have hnn:0≤a.num*(a.den:Int):=Int.mul_nonneg hn om;have hsp:=rt_spec (a.num*(a.den:Int)).natAbs;rw [hr] at hsp;have e1:((r*r:Nat):Int)≤a.num*(a.den:Int):=by have:=hsp.1;omega
 have e2:a.num*(a.den:Int)<(((r+1)*(r+1):Nat):Int):=by have:=hsp.2;omega
 have e1':=cast_le e1;have e2':((a.num*(a.den:Int):Int):Rat)<((((r+1)*(r+1):Nat):Int):Rat):=Rat.intCast_lt_intCast.2 e2;have c1:(((r*r:Nat):Int):Rat)=((r:Int):Rat)*((r:Int):Rat):=by rw [←Rat.intCast_mul];congr 1
 have c2:((((r+1)*(r+1):Nat):Int):Rat)=(((r:Int):Rat)+1)*(((r:Int):Rat)+1):=by
  exact k121
 rw [c1,Rat.intCast_mul] at e1';rw [c2,Rat.intCast_mul] at e2';have hr0:(0:Rat)≤((r:Int):Rat):=by have:=cast_le (show (0:Int)≤(r:Int) by omega);simpa using this
 have hz:a=0→r=0:=fun e=>by
  rw [e] at hr;rw [←hr];exact rt_unique (r:=0) dc dc
 obtain ⟨v,hv⟩:∃ v,Rat.divInt (r:Int) (a.den:Int)=v:=⟨_,rfl⟩
 have hvd:v*((a.den:Int):Rat)=((r:Int):Rat):=by
  rw [←hv,Rat.divInt_eq_div];generalize ((a.den:Int):Rat)=D at *;generalize ((r:Int):Rat)=R at *;grind
 rw [hv];rw [←ht] at e1' e2';generalize ((a.den:Int):Rat)=D at *
 have hz2:a=0→v=0:=fun e=>by
  have h1:((r:Int):Rat)=0:=by rw [hz e];rfl
  rw [h1] at hvd;grind
 generalize ((r:Int):Rat)=R at *;subst hvd;have hDD:0<D*D:=Rat.mul_pos hd hd;refine ⟨?_,hz2,?_,?_⟩
 · rcases Rat.le_total (a:=0) (b:=v) with h | h
   · exact h
   · by_cases h':v<0
     · have:=Sg.mul_lt h' hd;grind
     · grind
 · refine Rat.le_of_mul_le_mul_right (c:=D*D) ?_ hDD;grind
 · rcases Rat.le_total (a:=(v+1)*(v+1)) (b:=a) with h | h
   · exfalso;have h3:=Rat.mul_le_mul_of_nonneg_right h (Rat.le_of_lt hDD);have h4:(v*D+1)*(v*D+1)≤(v*D+D)*(v*D+D):=Sg.sq_le (by grind) (by grind);grind
   · rcases Rat.le_iff_lt_or_eq.1 h with h | h
     · exact h
     · exfalso;have h4:(v*D+1)*(v*D+1)≤(v*D+D)*(v*D+D):=Sg.sq_le (by grind) (by grind);rw [h] at e2';grind
theorem fceil_w (w:World) {b1 c1 s1:Bool} {m1 k1 n1 l1:ByteArray} {b2 c2 s2:Bool} {m2 k2 n2 l2:ByteArray} {b3:Bool} {m3:ByteArray} {b4:Bool} {m4:ByteArray} (HN:∀ V,Below w.heap.size w V→Calls Tryz.prog 46 #[.agg #[.bool b1,.string m1,.bool false,.string k1,.bool c1,.string n1,.bool false,.string l1,.bool s1]] V (RetB V (.agg #[.bool b2,.string m2,.bool false,.string k2,.bool c2,.string n2,.bool false,.string l2,.bool s2]))) (HF:∀ V,Below w.heap.size w V→Calls Tryz.prog 53 #[.agg #[.bool b2,.string m2,.bool false,.string k2,.bool c2,.string n2,.bool false,.string l2,.bool s2]] V (RetB V (.agg #[.bool b3,.string m3,.bool false,.string ⟨#[]⟩]))) (HG:∀ V,Below w.heap.size w V→Calls Tryz.prog 49 #[.agg #[.bool b3,.string m3,.bool false,.string ⟨#[]⟩]] V (RetB V (.agg #[.bool b4,.string m4,.bool false,.string ⟨#[]⟩]))) :
  Calls Tryz.prog 55 #[.agg #[.bool b1,.string m1,.bool false,.string k1,.bool c1,.string n1,.bool false,.string l1,.bool s1]] w (RetB w (.agg #[.bool b4,.string m4,.bool false,.string ⟨#[]⟩])):=by
 have C1:=Lib.hid HN;have C2:=Lib.hid HF;have C3:=Lib.hid HG;have RS:=Lib.hid Tryz.results55;clear HN HF HG;go_enter Tryz.func55,Tryz.ntmps55;exact wk0
theorem floorV_size {x:Sg.Rl} (ok:x.Ok) {n:Nat} (zx:Rz (n+1) x):Zs (5*n+20) (floorV x):=by
 unfold floorV
 split
 · exact (zx.p.n.div (by have:=x.p.den_pos;omega)).up om
 · refine Zs.div ?_ (Int.mul_pos (by have:=x.p.den_pos;omega) (by have:=x.a.den_pos;omega));have zN:Zs (4*(n+1)) (fN x):=(((zx.p.d.mul zx.r.d).mul zx.p.d).mul zx.r.n).up om;have zr:Zs (4*(n+1)) ((rt (fN x).natAbs:Nat):Int):=zN.root;have zm:=zx.p.n.mul zx.r.d
   have zr2:Zs (4*(n+1)+1) (if x.s<0 then -1-((rt (fN x).natAbs:Nat):Int) else ((rt (fN x).natAbs:Nat):Int)):=by
    split
    · exact zr.below
    · exact zr.up om
   exact ((zm.up (show _≤4*(n+1)+1 by omega)).plus zr2).up om
theorem fOf_z {w V:World} (_:Below w.heap.size w V) {b:Bool} {m k:ByteArray}:Calls Tryz.prog 20 #[.agg #[.bool b,.string m,.bool false,.string k]] V (RetB V (.agg #[.bool b,.string m,.bool false,.string k,.bool false,.string ⟨#[]⟩,.bool false,.string ⟨#[]⟩,.bool false])):=of_any _ _ _ V
theorem ffloor_f {x:Sg.Rl} {b1 c1 s1:Bool} {m1 k1 n1 l1:ByteArray} {b6:Bool} {m6:ByteArray} (hx:Rv x b1 m1 k1 c1 n1 l1 s1) (ok:x.Ok) (zx:Rz 50 x) (h6:enc (floorV x)=.agg #[.bool b6,.string m6]) (w:World):Calls Tryz.prog 53 #[.agg #[.bool b1,.string m1,.bool false,.string k1,.bool c1,.string n1,.bool false,.string l1,.bool s1]] w (RetB w (.agg #[.bool b6,.string m6,.bool false,.string ⟨#[]⟩])):=by
 obtain ⟨F,hF⟩:∃ F,floorV x=F:=⟨_,rfl⟩
 have zF0:=floorV_size ok (n:=49) ⟨zx.p,zx.r⟩;obtain ⟨g1,g2⟩:=floorV_spec ok;rw [hF] at h6 g1 g2 zF0;obtain ⟨b6',m6',e6,h6'⟩:=rq_z F;rw [e6] at h6
 injection h6 with h6
 injection h6 with h6
 injection h6 with h61 h62
 injection h62 with h62 _
 injection h61 with h61
 injection h62 with h62
 subst h61 h62;have zF:Zs (299+1) F:=zF0.up om;have zF1:Zs (300+1) (F+1):=zF.plus (Zs.one 299);have zE:Zs (300+1) (F-1):=zF.plus (y:=-1) (Zs.one 299);obtain ⟨b7,m7,e7,h7⟩:=rq_z (F+1);obtain ⟨b8,m8,e8,h8⟩:=rq_z (F-1)
 have ha:0≤x.a:=by
  rcases Sg.ok_cases ok with ⟨h,_⟩ | ⟨h,_⟩<;>grind
 obtain ⟨md,emd,hmd⟩:∃ md,enc (x.a.den:Int)=.agg #[.bool false,.string md]∧((l1=⟨#[]⟩∧md=⟨#[1]⟩)∨(l1≠⟨#[]⟩∧md=l1)):=by
  refine ⟨_,enc_mag _,?_⟩;by_cases hd:x.a.den=1
  · exact .inl ⟨hx.r.den1 hd,by rw [hd];exact mag_one⟩
  · have:=hx.r.den2 hd;exact .inr ⟨by rw [this];exact mag_no_nil (by have:=x.a.den_pos;omega),this.symm⟩
 obtain ⟨b20,m20,e20⟩:=enc_form (x.a.num*(x.a.den:Int));have hn0:0≤x.a.num*(x.a.den:Int):=Int.mul_nonneg (Rat.num_nonneg.2 ha) om;obtain ⟨r,hr⟩:∃ r,rt (x.a.num*(x.a.den:Int)).natAbs=r:=⟨_,rfl⟩
 obtain ⟨b21,m21,e21⟩:=enc_form (r:Int);obtain ⟨q0,qz,q1,q2⟩:=root_frac ha hr;obtain ⟨root,hroot⟩:∃ v,Rat.divInt (r:Int) (x.a.den:Int)=v:=⟨_,rfl⟩
 rw [hroot] at q0 qz q1 q2;obtain ⟨b2,m2,k2,h2⟩:=Rq.some_ root;obtain ⟨b3,m3,h3,HW⟩:=whole_q (pm_le ok.sg).1;obtain ⟨b4,m4,k4,h4⟩:=Rq.some_ ((x.s:Rat)*root);obtain ⟨b5,m5,k5,h5⟩:=Rq.some_ (x.p+(x.s:Rat)*root);have zN:Zs 100 (x.a.num*(x.a.den:Int)):=zx.r.n.mul zx.r.d;have zr:Zs 100 (r:Int):=by rw [←hr];exact zN.root
 have zd:Zs 50 (x.a.den:Int):=zx.r.d
 have zroot:Sz 151 root:=by
  have h1:Sz 50 ((x.a.den:Int):Rat):=(show Zs (49+1) (x.a.den:Int) from zd).sz';have h2:Sz 100 ((r:Int):Rat):=(show Zs (99+1) (r:Int) from zr).sz';rw [←hroot,Rat.divInt_eq_div];exact (h2.by_ h1).up om
 have z3:Sz 1 (x.s:Rat):=Sz.whole (pm_le ok.sg).1;have z4:=z3.mul zroot;have z5:Sz 400 (x.p+(x.s:Rat)*root):=(zx.p.add z4).up om;obtain ⟨n0,hn0e⟩:∃ n0,(x.p+(x.s:Rat)*root).num / ((x.p+(x.s:Rat)*root).den:Int)=n0:=⟨_,rfl⟩
 have hfl:(n0:Rat)≤x.p+(x.s:Rat)*root∧x.p+(x.s:Rat)*root<(n0:Rat)+1:=by
  have hs:=floorV_spec (Sg.of_ok (x.p+(x.s:Rat)*root));have e:floorV (Sg.Rl.of (x.p+(x.s:Rat)*root))=n0:=by unfold floorV;exact (if_pos (show (Sg.Rl.of (x.p+(x.s:Rat)*root)).a=0 from rfl)).trans hn0e
  rw [e] at hs;exact ⟨Sg.of_le.1 hs.1,Sg.of_lt.1 hs.2⟩
 obtain ⟨u1,u2⟩:=near_root ok q0 qz q1 q2 hfl.1 hfl.2;rw [show (n0:Rat)-1=((n0-1:Int):Rat) by rw [Rat.intCast_sub];rfl] at u1;rw [show (n0:Rat)+2=((n0+2:Int):Rat) by rw [Rat.intCast_add];rfl] at u2;obtain ⟨v1,v2⟩:=floor_between ok u1 u2 g1 g2;have hsq:bval m20=(x.a.num*(x.a.den:Int)).natAbs:=by rw [(enc_parts e20).2,bval_mag]
 have s20:m20.size≤100000:=Nat.le_trans (zN.sz e20) dc;have D1:=fun V (_:Below w.heap.size w V)=>zret (show enc (1:Int)=.agg #[.bool false,.string ⟨#[1]⟩] by rw [←mag_one];exact enc_mag 1) (refFromInt_pos 1 om V)
 have D2:=fun V (_:Below w.heap.size w V)=>zret e20 (by have h:=refMul_any x.a.num (x.a.den:Int) (by have:=zx.r.n.sz hx.r.num;rw [(enc_parts hx.r.num).2] at this;omega) (by have:=zd.sz emd;rw [(enc_parts emd).2] at this;omega) V;rw [hx.r.num,emd] at h;exact h)
 have D3:=fun V (_:Below w.heap.size w V)=>zret e21 (by have h:=refSqrt_any b20 m20 V s20;rw [hsq,hr] at h;exact h)
 have D4:=fun V (_:Below w.heap.size w V)=>rmake_f e21 emd (by rw [hroot];exact h2) (by have:=x.a.den_pos;omega) (Nat.le_trans (zr.sz e21) dc) (Nat.le_trans (zd.sz emd) dc) V
 have D5:=fun V (_:Below w.heap.size w V)=>side_f hx ok.sg V
 have D6:=fun V (_:Below w.heap.size w V)=>HW V
 have D7:=fun V (_:Below w.heap.size w V)=>rmul_z h3 h2 h4 (z3.up om) (zroot.up om) V
 have D8:=fun V (_:Below w.heap.size w V)=>radd_z hx.p h4 h5 (zx.p.up om) (z4.up om) V
 have zz:Sz (299+1) 0:=Sz.zero 299;have K1:=fun V (_:Below w.heap.size w V)=>fcmp_f (x:=Sg.Rl.of (F:Rat)) ⟨h6',Rq.zero,rfl⟩ hx (Sg.of_ok _) ok ⟨zF.sz'.up om,zz.up om⟩ ⟨zx.p.up om,zx.r.up om⟩ V
 have K2:=fun V (_:Below w.heap.size w V)=>fcmp_f (x:=Sg.Rl.of ((F+1:Int):Rat)) ⟨h7,Rq.zero,rfl⟩ hx (Sg.of_ok _) ok ⟨zF1.sz'.up om,zz.up om⟩ ⟨zx.p.up om,zx.r.up om⟩ V
 have K3:=fun V (_:Below w.heap.size w V)=>fcmp_f (x:=Sg.Rl.of ((F-1:Int):Rat)) ⟨h8,Rq.zero,rfl⟩ hx (Sg.of_ok _) ok ⟨zE.sz'.up om,zz.up om⟩ ⟨zx.p.up om,zx.r.up om⟩ V
 have c1:((F+1:Int):Rat)=(F:Rat)+1:=by rw [Rat.intCast_add];rfl
 have c2:((F-1:Int):Rat)=(F:Rat)-1:=by rw [Rat.intCast_sub];rfl
 have k2:Sg.cmpX (Sg.Rl.of ((F+1:Int):Rat)) x=1:=by rw [Sg.cmp_anti ok (Sg.of_ok _),c1,g2];rfl
 have k3:Sg.cmpX (Sg.Rl.of ((F-1:Int):Rat)) x=-1:=Sg.lt_le (Sg.of_ok _) (Sg.of_ok _) ok (Sg.of_lt.2 (by rw [c2];grind)) g1;rw [k2] at K2;rw [k3] at K3;have zo:Sz 1 1:=⟨by decide +kernel,by decide +kernel⟩;have A1:=fun V (_:Below w.heap.size w V)=>radd_z h6' qo (by rw [←c1];exact h7) (zF.sz'.up om) (zo.up om) V
 have A2:=fun V (_:Below w.heap.size w V)=>rsub_z h7 qo (by rw [c1,show (F:Rat)+1-1=F by grind];exact h6') (zF1.sz'.up om) (zo.up om) V
 have A3:=fun V (_:Below w.heap.size w V)=>radd_z h8 qo (by rw [c2,show (F:Rat)-1+1=F by grind];exact h6') (zE.sz'.up om) (zo.up om) V
 have HFl:∀ {b:Bool} {m:ByteArray},enc n0=.agg #[.bool b,.string m]→∀ V,Below w.heap.size w V→Calls Tryz.prog 106 #[.agg #[.bool b5,.string m5,.bool false,.string k5]] V (RetB V (.agg #[.bool b,.string m,.bool false,.string ⟨#[]⟩])):=fun h V _=>rFloor_f h5 (by rw [hn0e];exact h) (Nat.le_trans (z5.n.sz h5.num) dc) (by have:=z5.d.sz (enc_mag _);omega) V
 have O:=fun V (_:Below w.heap.size w V)=>one_any V
 have three:n0=F∨n0=F+1∨n0=F-1:=om;rcases three with rfl | rfl | rfl
 · exact ffloor_eq (b8:=b8) (m8:=m8) w hmd g1 om (fun V hb=>fOf_z hb) D1 D2 D3 D4 D5 D6 D7 D8 (HFl e6) K1 O A1 K2
 · exact ffloor_gt (b8:=b8) (m8:=m8) w hmd g1 om (fun V hb=>fOf_z hb) D1 D2 D3 D4 D5 D6 D7 D8 (HFl e7) K1 O A1 K2 A2
 · exact ffloor_lt w hmd g1 om (fun V hb=>fOf_z hb) D1 D2 D3 D4 D5 D6 D7 D8 (HFl e8) K1 O A1 K2 K3 A3
end Go.Proofs.YtpnokfgplnmjpaaGreatDoor
namespace Go.Proofs.YtpnokfgplnmjpaaGreatDoor.Sg
theorem inv_z {x:Rat} {k:Nat} (hx:0<x) (z:Sz k x):∃ w:Rat,0<w∧x*w=1∧Sz (k+1) w:=by
 obtain ⟨w,h1,h2⟩:=exists_inv hx;refine ⟨w,h1,h2,?_⟩;have:w=1 / x:=by grind
 rw [this];exact z.inv
theorem ev_pos_z {A B a:Rat} {k:Nat} (ha:0<a) (h:sg2 A B a=1) (zA:Sz k A) (zB:Sz k B) (za:Sz k a) (hk:1≤k):∃ δ:Rat,0<δ∧Sz (8*k+8) δ∧Ev (fun n=>δ≤A+B*up a n):=by
 obtain ⟨c,hc,zc,hcu⟩:∃ c:Rat,0<c∧Sz k c∧∀ n,c≤up a n:=by
  by_cases h1:a<1
  · refine ⟨a,ha,za,fun n=>?_⟩;obtain ⟨k1,k2,_⟩:=up_spec ha n;by_cases h2:a≤up a n
    · exact h2
    · have:=sq_le (x:=up a n) (y:=a) (by grind) (by grind);have:=mul_lt h1 ha;grind
  · refine ⟨1,by decide,(show Sz 1 (1:Rat) from ⟨by decide,by decide⟩).up hk,fun n=>?_⟩;obtain ⟨k1,k2,_⟩:=up_spec ha n;exact k119
 have z2:Sz 1 (2:Rat):=⟨by decide,by decide⟩;have zAA:=zA.mul zA;have zBa:=(zB.mul zB).mul za;have za2:=za.add z2;rcases sg2_one ha h with ⟨h1,h2⟩ | ⟨h1,h2⟩ | ⟨h1,h2,h3⟩ | ⟨h1,h2,h3⟩
 · refine ⟨A,h1,zA.up om,Ev.all fun n=>?_⟩;have:=Rat.mul_nonneg h2 (Rat.le_of_lt (up_spec ha n).1);grind
 · refine ⟨B*c,Rat.mul_pos h1 hc,(zB.mul zc).up om,Ev.all fun n=>?_⟩;have:=Rat.mul_le_mul_of_nonneg_left (hcu n) (Rat.le_of_lt h1);grind
 · -- A is greater than the root's multiple
   have hM:0<A+-B*(a+2):=by have:=Rat.mul_pos (show 0 < -B by grind) (show 0<a+2 by grind);grind
   obtain ⟨w,hw,ew,zw⟩:=inv_z hM (zA.add (zB.minus.mul za2));have hBB:0<B*B:=sq_pos' (by grind);obtain ⟨v,hv,ev⟩:=exists_inv hBB;have hD:0<A*A-B*B*a:=by grind
   have hDw:=Rat.mul_pos hD hw;have hDv:=Rat.mul_pos hD hv;refine ⟨(A*A-B*B*a)*w / 2,by grind,(((zAA.sub zBa).mul zw).by_ z2).up om,(up_close ha (ε:=(A*A-B*B*a)*v / 2) (by grind)).mono fun n hn=>?_⟩;exact k27
 · -- the root's multiple is greater
   have hM:0<B*(a+2)-A:=by have:=Rat.mul_pos h2 (show 0<a+2 by grind);grind
   obtain ⟨w,hw,ew,zw⟩:=inv_z hM ((zB.mul za2).sub zA);have hD:0<B*B*a-A*A:=by grind
   have hDw:=Rat.mul_pos hD hw;refine ⟨(B*B*a-A*A)*w,hDw,((zBa.sub zAA).mul zw).up om,Ev.all fun n=>?_⟩;exact k29
theorem ev_neg_z {A B a:Rat} {k:Nat} (ha:0<a) (h:sg2 A B a=-1) (zA:Sz k A) (zB:Sz k B) (za:Sz k a) (hk:1≤k):∃ δ:Rat,0<δ∧Sz (8*k+8) δ∧Ev (fun n=>A+B*up a n≤-δ):=by
 have h1:=@sg2_neg A B a;obtain ⟨δ,h2,z,h3⟩:=ev_pos_z ha (show sg2 (-A) (-B) a=1 by omega) zA.minus zB.minus za hk;exact ⟨δ,h2,z,h3.mono fun n hn=>by grind⟩
theorem cmp_gap_z {d a b:Rat} (zd:Sz 17 d) (za:Sz 8 a) (zb:Sz 8 b) (ha:0<a) (hb:0<b) (na:NSq a) {s t:Int} (hs:s=1∨s=-1) (ht:t=1∨t=-1) (hc:cmpP d s a t b=-1):∃ δ:Rat,0<δ∧Sz 490 δ∧Ev (fun n=>d+(s:Rat)*up a n-(t:Rat)*up b n≤-δ):=by
 have hss:=pm_sq hs;rw [cmpP_eq ha hs] at hc
 have hn0:sg2 d (s:Rat) a≠0:=fun e=>by
  exact k66
 have hM:0<(d*d+1)+a+2+(b+2):=by
  have e3:0≤d*d:=by
   exact k60
  grind
 have e3:0≤d*d:=by
  exact k60
 have z1:Sz 1 (1:Rat):=⟨by decide,by decide⟩;have z2:Sz 1 (2:Rat):=⟨by decide,by decide⟩;have zs:Sz 1 (s:Rat):=by rcases hs with rfl | rfl<;>exact ⟨by decide,by decide⟩
 have zdd:=zd.mul zd;have zu:Sz 52 (d*d+a-b):=((zdd.add za).sub zb).up om;have zv:Sz 52 (2*d*(s:Rat)):=((z2.mul zd).mul zs).up om;have za':Sz 52 a:=za.up om;obtain ⟨w,hw,ew,zw⟩:=inv_z (show 0<2*((d*d+1)+a+2+(b+2)) by grind) (z2.mul (((((zdd.add z1).add za).add z2)).add (zb.add z2)));by_cases h:sg2 d (s:Rat) a=t
 · rw [if_neg (show ¬(sg2 d (s:Rat) a≠t) by omega)] at hc;have hsq:∀ n,(d+(s:Rat)*up a n)*(d+(s:Rat)*up a n)-up b n*up b n=(d*d+a-b+2*d*(s:Rat)*up a n)+(up a n*up a n-a)-(up b n*up b n-b):=fun n=>by grind
   rcases ht with rfl | rfl
   · obtain ⟨δ,k1,zδ,k2⟩:=ev_neg_z (k:=52) ha (show sg2 (d*d+a-b) (2*d*(s:Rat)) a=-1 by omega) zu zv za' om;obtain ⟨δ',k1',k2'⟩:=ev_pos ha h;refine ⟨δ / 2*w,Rat.mul_pos (by grind) hw,((zδ.by_ z2).mul zw).up om,((k2.and (up_close ha (ε:=δ / 2) (by grind))).and k2').mono fun n hn=>?_⟩;exact k59
   · obtain ⟨δ,k1,zδ,k2⟩:=ev_pos_z (k:=52) ha (show sg2 (d*d+a-b) (2*d*(s:Rat)) a=1 by omega) zu zv za' om;obtain ⟨δ',k1',k2'⟩:=ev_neg ha h;refine ⟨δ / 2*w,Rat.mul_pos (by grind) hw,((zδ.by_ z2).mul zw).up om,((k2.and (up_close hb (ε:=δ / 2) (by grind))).and k2').mono fun n hn=>?_⟩;exact k55
 · rw [if_pos h] at hc;obtain ⟨δ,k1,zδ,k2⟩:=ev_neg_z (k:=17) ha hc zd (zs.up om) (za.up om) om;have ht2:t=1:=om;subst ht2;refine ⟨δ,k1,zδ.up om,k2.mono fun n hn=>?_⟩;show d+(s:Rat)*up a n-(1:Rat)*up b n≤-δ;have:=(up_spec hb n).1;grind
theorem cmp_far_z {x y:Rl} (zx:Sz 8 x.p∧Sz 8 x.a) (zy:Sz 8 y.p∧Sz 8 y.a) (hx:x.Ok) (hy:y.Ok) (h:cmpX x y=-1):∃ δ:Rat,0<δ∧Sz 490 δ∧Ev (fun n=>x.val n-y.val n≤-δ):=by
 have zd:=zx.1.sub zy.1;have zd':=zy.1.sub zx.1
 have zs:∀ {t:Int},t=1∨t=-1→Sz 17 (t:Rat):=fun {t} ht=>by
  have:Sz 1 (t:Rat):=by rcases ht with rfl | rfl<;>exact ⟨by decide,by decide⟩
  exact this.up om
 unfold cmpX at h;by_cases h1:x.a=y.a∧x.s=y.s
 · rw [if_pos h1] at h;have hv:∀ n,x.val n-y.val n=x.p-y.p:=fun n=>by unfold Rl.val;rw [h1.1,h1.2];grind
   rcases sgq_three (x.p-y.p) with ⟨k,e⟩ | ⟨k,e⟩ | ⟨k,e⟩
   · exact ⟨-(x.p-y.p),by grind,zd.minus.up om,Ev.all fun n=>by rw [hv n];grind⟩
   · omega
   · omega
 · rw [if_neg h1] at h
   have pos:∀ {z:Rl},z.Ok→z.a≠0→0<z.a∧NSq z.a:=fun {z} hz hn=>by
    rcases hz.form with ⟨e,_⟩ | e
    · exact absurd e hn
    · exact e
   by_cases hy0:y.a=0
   · rw [if_pos hy0] at h
     have hx0:x.a≠0:=fun hx0=>by
      exact k82
     obtain ⟨ha,_⟩:=pos hx hx0;rw [sos_any ha hx.sg] at h;obtain ⟨δ,k1,zδ,k2⟩:=ev_neg_z (k:=17) ha h zd (zs hx.sg) (zx.2.up om) om;refine ⟨δ,k1,zδ.up om,k2.mono fun n hn=>?_⟩;unfold Rl.val;rw [hy0,up_zero];grind
   · rw [if_neg hy0] at h;obtain ⟨hb,nb⟩:=pos hy hy0;by_cases hx0:x.a=0
     · rw [if_pos hx0,sos_any hb hy.sg] at h;obtain ⟨δ,k1,zδ,k2⟩:=ev_pos_z (k:=17) hb (show sg2 (y.p-x.p) (y.s:Rat) y.a=1 by omega) zd' (zs hy.sg) (zy.2.up om) om;refine ⟨δ,k1,zδ.up om,k2.mono fun n hn=>?_⟩;unfold Rl.val;rw [hx0,up_zero];grind
     · rw [if_neg hx0] at h;obtain ⟨ha,na⟩:=pos hx hx0;obtain ⟨δ,k1,zδ,k2⟩:=cmp_gap_z zd zx.2 zy.2 ha hb na hx.sg hy.sg h;refine ⟨δ,k1,zδ,k2.mono fun n hn=>?_⟩;unfold Rl.val;grind
theorem step_ex {x:Rl} (hx:x.Ok) (h0:cmpX (Rl.of 0) x≤0) {D:Nat} (hD:0<D) (k:Nat) (hk:cmpX x (Rl.of ((k:Rat) / (D:Rat)))=-1):∃ j:Nat,j<k∧cmpX (Rl.of ((j:Rat) / (D:Rat))) x≤0∧cmpX x (Rl.of (((j+1:Nat):Rat) / (D:Rat)))=-1:=by
 induction k with
 | zero =>
   exfalso
   have e:((0:Nat):Rat) / (D:Rat)=0:=by
    have:=div_mul (p:=((0:Nat):Rat)) (cast_pos hD);have h1:((0:Nat):Rat)=0:=rfl;rw [h1] at this ⊢;grind
   rw [e,cmp_anti (of_ok 0) hx] at hk;omega
 | succ k ih =>
   by_cases h:cmpX x (Rl.of ((k:Rat) / (D:Rat)))=-1
   · obtain ⟨j,h1,h2,h3⟩:=ih h;exact ⟨j,om,h2,h3⟩
   · refine ⟨k,om,?_,hk⟩;have h1:=cmp_three hx (of_ok ((k:Rat) / (D:Rat)));have h2:=cmp_anti hx (of_ok ((k:Rat) / (D:Rat)));omega
theorem dense_z {K:Nat} (hK:500≤K) {x y:Rl} (zx:Sz 8 x.p∧Sz 8 x.a) (zy:Sz 8 y.p∧Sz 8 y.a) (hx:x.Ok) (hy:y.Ok) (h0:cmpX (Rl.of 0) x≤0) (h:cmpX x y=-1):∃ p q:Nat,In x y p q∧p<256^K∧q<256^K:=by
 obtain ⟨δ,hδ,zδ,hE⟩:=cmp_far_z zx zy hx hy h;obtain ⟨E,hE5⟩:∃ E,E=490:=⟨_,rfl⟩
 replace zδ:Sz E δ:=zδ.up om;have hd:0<δ.den:=δ.den_pos;obtain ⟨D,hD⟩:∃ D,D=δ.den+1:=⟨_,rfl⟩
 have hD0:0<D:=om;have zD:D≤256^E:=by have:=zδ.2;omega
 -- 1 / D is below the distance
 have hDr:=cast_pos hD0;have eD:=div_mul (p:=(1:Rat)) hDr
 have hlt:1 / (D:Rat)<δ:=by
  have h1:=times_den δ
  have h2:(0:Int)<δ.num:=by
   have h3:(0:Rat)<((δ.den:Int):Rat):=by rw [Rat.intCast_natCast];exact cast_pos hd
   have h4:=Rat.mul_pos hδ h3;rw [h1] at h4;exact Rat.intCast_lt_intCast.1 h4
  have h3:(1:Rat)≤(δ.num:Rat):=by
   have:((1:Int):Rat)≤(δ.num:Rat):=Rat.intCast_le_intCast.2 om;exact this
  have h5:(D:Rat)=((δ.den:Int):Rat)+1:=by rw [hD,Rat.natCast_add,Rat.intCast_natCast];rfl
  rw [←h1] at h3;by_cases h6:1 / (D:Rat)<δ
  · exact h6
  · exfalso;have h7:=Rat.mul_le_mul_of_nonneg_right (show δ≤1 / (D:Rat) by grind) (Rat.le_of_lt hDr);rw [eD,h5] at h7;grind
 -- a number above x
 have hx2:=zx.1;obtain ⟨B,hB⟩:∃ B:Nat,B=x.p.num.natAbs+x.a.num.natAbs+3:=⟨_,rfl⟩
 have num_le:∀ q:Rat,q≤(q.num.natAbs:Rat):=fun q=>by
  have h1:=times_den q
  have h2:(1:Rat)≤((q.den:Int):Rat):=by
   have:((1:Int):Rat)≤((q.den:Int):Rat):=Rat.intCast_le_intCast.2 (by have:=q.den_pos;omega);exact this
  have h3:(q.num:Rat)≤(q.num.natAbs:Rat):=by
   rw [←Rat.intCast_natCast];exact Rat.intCast_le_intCast.2 om
  rcases Rat.le_total (a:=0) (b:=q) with h4 | h4
  · have:=Rat.mul_le_mul_of_nonneg_left h2 h4;grind
  · have h5:(0:Rat)≤(q.num.natAbs:Rat):=Rat.natCast_nonneg;grind
 have hxB:cmpX x (Rl.of (B:Rat))=-1:=by
  refine cmp_of_ev hx (of_ok _) (Ev.all fun n=>?_);rw [val_of];have e1:=num_le x.p;have e2:=num_le x.a;have e3:(B:Rat)=(x.p.num.natAbs:Rat)+(x.a.num.natAbs:Rat)+3:=by rw [hB,Rat.natCast_add,Rat.natCast_add];rfl
  unfold Rl.val;rcases ok_cases hx with ⟨k1,k2⟩ | ⟨k1,k2⟩
  · rw [k1,up_zero,e3];have:(0:Rat)≤(x.a.num.natAbs:Rat):=Rat.natCast_nonneg;grind
  · have e4:=up_le k1 n;have e5:=(up_spec k1 n).1;rw [e3];rcases hx.sg with e | e<;>rw [e]
    · show x.p+(1:Rat)*_<_;grind
    · show x.p+(-1:Rat)*_<_;have:(0:Rat)≤(x.a.num.natAbs:Rat):=Rat.natCast_nonneg;grind
 have eB:((B*D:Nat):Rat) / (D:Rat)=(B:Rat):=by
  have:=div_mul (p:=((B*D:Nat):Rat)) hDr;rw [Rat.natCast_mul] at this ⊢;have h1:((B:Rat)*(D:Rat) / (D:Rat)-(B:Rat))*(D:Rat)=0:=by grind
  rcases Rat.mul_eq_zero.1 h1 with h2 | h2<;>grind
 obtain ⟨j,j1,j2,j3⟩:=step_ex hx h0 hD0 (B*D) (by rw [eB];exact hxB)
 have zB:B<256^9:=by
  have h1:=zx.1.1;have h2:=zx.2.1;have h3:(256:Nat)^8+256^8+3<256^9:=by decide
  omega
 refine ⟨j+1,D,⟨hD0,j3,?_⟩,?_,?_⟩
 · -- below y
   have s:=cmp_says (of_ok ((j:Rat) / (D:Rat))) hx
   have hle:∃ N,∀ n,N≤n→(j:Rat) / (D:Rat)≤x.val n:=by
    rcases s.three with e | e | e
    · obtain ⟨N,hN⟩:=s.lt e;exact ⟨N,fun n hn=>by have:=hN n hn;dsimp only at this;rw [val_of] at this;grind⟩
    · refine ⟨0,fun n _=>?_⟩;rw [←s.eq e,val_of];exact Rat.le_refl
    · omega
   obtain ⟨N,hN⟩:=hle;obtain ⟨M,hM⟩:=hE;refine cmp_of_ev (of_ok _) hy ⟨N+M,fun n hn=>?_⟩;have a1:=hN n om;have a2:x.val n-y.val n≤-δ:=hM n om;show (Rl.of _).val n<y.val n;rw [val_of]
   have e1:((j+1:Nat):Rat) / (D:Rat)=(j:Rat) / (D:Rat)+1 / (D:Rat):=by
    have e2:=div_mul (p:=((j+1:Nat):Rat)) hDr;have e3:=div_mul (p:=(j:Rat)) hDr;rw [Rat.natCast_add] at e2 ⊢;have e4:((1:Nat):Rat)=1:=rfl;rw [e4] at e2 ⊢;have e5:(((j:Rat)+1) / (D:Rat)-((j:Rat) / (D:Rat)+1 / (D:Rat)))*(D:Rat)=0:=by grind
    rcases Rat.mul_eq_zero.1 e5 with h2 | h2<;>grind
   rw [e1];grind
 · have h1:B*D≤256^9*256^E:=Nat.mul_le_mul (Nat.le_of_lt zB) zD;rw [←Nat.pow_add] at h1;have h2:(256:Nat)^(9+E)<256^K:=Nat.pow_lt_pow_right dc om;omega
 · have h2:(256:Nat)^E<256^K:=Nat.pow_lt_pow_right dc om;omega
end Go.Proofs.YtpnokfgplnmjpaaGreatDoor.Sg
namespace Go.Proofs.YtpnokfgplnmjpaaGreatDoor
open Go.RowKit
theorem fm_rz {x:Sg.Rl} {M:Nat} (h:Sg.Fm M x) (h1:1≤M) (hM:M<256^49):Rz 100 x:=by
 obtain ⟨r1,r2,r3,r4⟩:=h.room h1;have e1:2*(256:Nat)^49<256^100:=by decide
 have e2:M*M≤256^49*256^49:=Nat.mul_le_mul om om;have e3:4*((256:Nat)^49*256^49)<256^100:=by decide
 exact ⟨⟨om,om⟩,⟨om,om⟩⟩
theorem floor_is {x:Sg.Rl} (ok:x.Ok) {f:Nat} (h1:Sg.cmpX (Sg.Rl.of (f:Rat)) x≤0) (h2:Sg.cmpX x (Sg.Rl.of ((f:Rat)+1))=-1):floorV x=(f:Int):=by
 obtain ⟨g1,g2⟩:=floorV_spec ok;have a1:=Sg.of_lt.1 (Sg.le_lt (Sg.of_ok _) ok (Sg.of_ok _) h1 g2);have a2:=Sg.of_lt.1 (Sg.le_lt (Sg.of_ok _) ok (Sg.of_ok _) g1 h2);have b1:((f:Int):Rat)<((floorV x+1:Int):Rat):=by rw [Rat.intCast_add,Rat.intCast_natCast];exact a1
 have b2:((floorV x:Int):Rat)<(((f:Int)+1:Int):Rat):=by rw [Rat.intCast_add,Rat.intCast_natCast];exact a2
 have c1:=Rat.intCast_lt_intCast.1 b1;have c2:=Rat.intCast_lt_intCast.1 b2;omega
theorem not_zero {x:Sg.Rl} (h:Sg.cmpX (Sg.Rl.of 0) x=-1):x≠Sg.Rl.of 0:=fun e=>by
 rw [e,(Sg.cmp_zero (Sg.of_ok 0) (Sg.of_ok 0)).2 rfl] at h;omega
theorem iv_inv {x:Sg.Rl} (ok:x.Ok) (h:Sg.cmpX (Sg.Rl.of 0) x=-1):Sg.InvR x x.iv:=by
 have hp:Sg.cmpX x (Sg.Rl.of 0)=1:=by rw [Sg.cmp_anti (Sg.of_ok 0) ok,h];rfl
 have h0:=not_zero h;rcases Sg.ok_cases ok with ⟨ha,hs⟩ | ⟨ha,hq⟩
 · have hx:x=Sg.Rl.of x.p:=Sg.Rl.ext' rfl ha hs
   have hp0:0<x.p:=by
    have h1:Sg.cmpX (Sg.Rl.of 0) (Sg.Rl.of x.p)=-1:=by rw [←hx];exact h
    exact Sg.of_lt.1 h1
   have h2:=Sg.invR_of (p:=x.p) (u:=1 / x.p) hp0 (by grind);rw [←hx] at h2;rw [iv_rat ha (by grind)];exact h2
 · have hn:=nm_ne ok h0;rw [iv_root ok ha hn];exact Sg.invR_root ok ha (Sg.nsq_sq.2 hq) hp (m:=1 / x.nm) (by show x.nm*(1 / x.nm)=1;grind)
theorem iv_fm {x:Sg.Rl} {M:Nat} (ok:x.Ok) (h:Sg.cmpX (Sg.Rl.of 0) x=-1) (hf:Sg.Fm M x):Sg.Fm M x.iv:=by
 have h0:=not_zero h;rcases Sg.ok_cases ok with ⟨ha,hs⟩ | ⟨ha,hq⟩
 · have hx:x=Sg.Rl.of x.p:=Sg.Rl.ext' rfl ha hs
   have hp0:0<x.p:=by
    have h1:Sg.cmpX (Sg.Rl.of 0) (Sg.Rl.of x.p)=-1:=by rw [←hx];exact h
    exact Sg.of_lt.1 h1
   rw [iv_rat ha (by grind)];refine Sg.Fm.flip ?_ (by grind);rw [←hx];exact hf
 · have hn:=nm_ne ok h0;rw [iv_root ok ha hn];exact hf.turn ok ha (by show x.nm*(1 / x.nm)=1;grind)
theorem frac_sz {n m K:Nat} (hm:0<m) (hn:n<256^K) (hmK:m<256^K):Sz K ((n:Rat) / (m:Rat)):=by
 have e:=Sg.div_mul (p:=(n:Rat)) (Sg.cast_pos hm);obtain ⟨h1,h2⟩:=Sg.frac_room (q:=(n:Rat) / (m:Rat)) (c:=(m:Int)) (d:=(n:Int)) om (by rw [Rat.intCast_natCast,Rat.intCast_natCast,Rat.mul_comm];exact e);rw [Int.natAbs_natCast] at h1 h2;exact ⟨om,om⟩
theorem floor_sz {x:Sg.Rl} (ok:x.Ok) {n:Nat} (zx:Rz (n+1) x) {f:Nat} (hF:floorV x=(f:Int)):Sz (5*n+30) (f:Rat):=by
 have hs:=floorV_size ok zx;rw [hF] at hs;have h1:=hs.sz';rw [Rat.intCast_natCast] at h1;exact h1.up om
theorem simp_top {x y:Sg.Rl} (ok:x.Ok) (oky:y.Ok) (zx:Rz 200 x) (zy:Rz 200 y) {f:Nat} (h1:Sg.cmpX (Sg.Rl.of (f:Rat)) x≤0) (h2:Sg.cmpX x (Sg.Rl.of ((f:Rat)+1))=-1) (h3:Sg.cmpX y (Sg.Rl.of ((f:Rat)+1))=1) {b1 c1 s1 b2 c2 s2 b3:Bool} {m1 k1 n1 l1 m2 k2 n2 l2 m3 k3:ByteArray} (hx:Rv x b1 m1 k1 c1 n1 l1 s1) (hy:Rv y b2 m2 k2 c2 n2 l2 s2) (hq:Rq ((f:Rat)+1) b3 m3 k3) (w:World) (hE:Env w) :
  Calls Tryz.prog 109 #[.agg #[.bool b1,.string m1,.bool false,.string k1,.bool c1,.string n1,.bool false,.string l1,.bool s1],.agg #[.bool b2,.string m2,.bool false,.string k2,.bool c2,.string n2,.bool false,.string l2,.bool s2]] w (RetB w (.agg #[.bool b3,.string m3,.bool false,.string k3])):=by
 have hF:=floor_is ok h1 h2;obtain ⟨z1,y1,e1,r1⟩:=rq_z (f:Int);rw [Rat.intCast_natCast] at r1;have zf:Sz 1100 (f:Rat):=(floor_sz (n:=199) ok zx hF).up om;have z1':Sz 1 (1:Rat):=⟨by decide,by decide⟩;have HC:=fun V hV=>crat_f hy oky hq ⟨zy.p.up om,zy.r.up om⟩ ((zf.add z1').up om) V hV
 rw [h3] at HC;exact simp_next w (c:=1) dc (fun V hb=>rfloor_f hx ok (by rw [hF];exact e1) ⟨zx.p.up om,zx.r.up om⟩ V (hE.next hb)) (fun V _=>rFromInt_f enc_1 dc dc V) (fun V hb=>add_z r1 qo hq (zf.up om) (z1'.up om) V (hE.next hb)) (fun V hb=>HC V (hE.next hb))
theorem simp_run {M K:Nat} (hM1:1≤M) (hM:M<256^49) (hK:K≤5000) {x y:Sg.Rl} {n m:Nat} (h:Sg.Run Sg.Rl.iv x y n m):x.Ok→y.Ok→Sg.cmpX (Sg.Rl.of 0) x≤0→Sg.In x y n m→Sg.Fm M x→Sg.Fm M y→n<256^K→m<256^K →
  ∀ {b1 c1 s1 b2 c2 s2 b3:Bool} {m1 k1 n1 l1 m2 k2 n2 l2 m3 k3:ByteArray},Rv x b1 m1 k1 c1 n1 l1 s1→Rv y b2 m2 k2 c2 n2 l2 s2→Rq ((n:Rat) / (m:Rat)) b3 m3 k3→∀ (w:World),Env w →
  Calls Tryz.prog 109 #[.agg #[.bool b1,.string m1,.bool false,.string k1,.bool c1,.string n1,.bool false,.string l1,.bool s1],.agg #[.bool b2,.string m2,.bool false,.string k2,.bool c2,.string n2,.bool false,.string l2,.bool s2]] w (RetB w (.agg #[.bool b3,.string m3,.bool false,.string k3])):=by
 have nat1:∀ f:Nat,((f+1:Nat):Rat)=(f:Rat)+1:=fun f=>by rw [Rat.natCast_add];rfl
 have by1:∀ q:Rat,q / ((1:Nat):Rat)=q:=fun q=>by
  have h1:((1:Nat):Rat)=1:=rfl;rw [h1];grind
 have z1':Sz 1 (1:Rat):=⟨by decide,by decide⟩;induction h with
 | top f h1 h2 h3 =>
   intro okx oky _ _ fx fy _ _ b1 c1 s1 b2 c2 s2 b3 m1 k1 n1 l1 m2 k2 n2 l2 m3 k3 hx hy hq w hE;rw [by1,nat1] at hq;have zx:=fm_rz fx hM1 hM;have zy:=fm_rz fy hM1 hM;exact simp_top okx oky ⟨zx.p.up om,zx.r.up om⟩ ⟨zy.p.up om,zy.r.up om⟩ h1 h2 h3 hx hy hq w hE
 | @turn x y n m f h1 h2 h3 h4 h5 ih =>
   intro okx oky h0 hin fx fy hn hm b1 c1 s1 b2 c2 s2 b11 m1 k1 n1 l1 m2 k2 n2 l2 m11 k11 hx hy h11 w hE;have hx':=Sg.add_ok okx (-(f:Rat));have hy':=Sg.add_ok oky (-(f:Rat));have hxy:Sg.cmpX x y=-1:=Sg.cmp_trans okx (Sg.of_ok _) oky hin.low hin.high
   have g0:Sg.cmpX (Sg.Rl.of 0) (x.add (-(f:Rat)))≤0:=by
    rw [show Sg.Rl.of 0=(Sg.Rl.of (f:Rat)).add (-(f:Rat)) by rw [Sg.add_of];congr 1;grind,Sg.add_cmp];exact h1
   have gy:Sg.cmpX (Sg.Rl.of 0) (y.add (-(f:Rat)))=-1:=Sg.le_lt (Sg.of_ok _) hx' hy' g0 (by rw [Sg.add_cmp];exact hxy)
   have gx:Sg.cmpX (Sg.Rl.of 0) (x.add (-(f:Rat)))=-1:=by
    rcases Sg.cmp_three (Sg.of_ok 0) hx' with e | e | e
    · exact e
    · exact absurd ((Sg.cmp_zero (Sg.of_ok 0) hx').1 e).symm h4
    · omega
   have hz:=iv_inv hy' gy;have hw:=iv_inv hx' gx;have hin':=(Sg.in_turn hx' g0 hz hw hy').2 hin;have fy':=fy.shift f hy' gy;have fx':=fx.shift f hx' gx;have hn0:0<n:=hin.den;have hm0:0<m:=hin'.den;have hfn:f≤f*n:=Nat.le_mul_of_pos_right f hn0;have hmn:m≤f*n+m:=Nat.le_add_left _ _;have zx:=fm_rz fx hM1 hM;have zy:=fm_rz fy hM1 hM;have zx':=fm_rz fx' hM1 hM;have zy':=fm_rz fy' hM1 hM;have hF:=floor_is okx h1 h2;obtain ⟨z1,y1,e1,r1⟩:=rq_z (f:Int);rw [Rat.intCast_natCast] at r1
   have zf:Sz K (f:Rat):=by
    have:=frac_sz (n:=f) (m:=1) (K:=K) om om om
    rwa [by1] at this
   have zfm:=zf.minus;obtain ⟨b3,m3,k3,h3'⟩:=Rq.some_ ((f:Rat)+1);obtain ⟨b4,m4,k4,r4⟩:=Rq.some_ (-(f:Rat));obtain ⟨b5,m5,k5,r5⟩:=Rq.some_ (x.p+-(f:Rat));obtain ⟨b6,m6,k6,r6⟩:=Rq.some_ (y.p+-(f:Rat));have v5:Rv (x.add (-(f:Rat))) b5 m5 k5 c1 n1 l1 s1:=⟨r5,hx.r,hx.neg⟩;have v6:Rv (y.add (-(f:Rat))) b6 m6 k6 c2 n2 l2 s2:=⟨r6,hy.r,hy.neg⟩;obtain ⟨b7,m7,k7,c7,n7,l7,s7,v7⟩:=Rv.some_ (y.add (-(f:Rat))).iv;obtain ⟨b8,m8,k8,c8,n8,l8,s8,v8⟩:=Rv.some_ (x.add (-(f:Rat))).iv;obtain ⟨b9,m9,k9,r9⟩:=Rq.some_ ((n:Rat) / (m:Rat));obtain ⟨b10,m10,k10,r10⟩:=Rq.some_ (1 / ((n:Rat) / (m:Rat)));have z9:=frac_sz (K:=K) hm0 hm om;have hnr:=Sg.cast_pos hn0;have hmr:=Sg.cast_pos hm0
   have hq0:((n:Rat) / (m:Rat))≠0:=fun e=>by
    have e2:=Sg.div_mul (p:=(n:Rat)) hmr;rw [e] at e2;grind
   have e11:((f*n+m:Nat):Rat) / (n:Rat)=(f:Rat)+1 / ((n:Rat) / (m:Rat)):=by
    rw [Rat.natCast_add,Rat.natCast_mul];grind
   rw [e11] at h11;have HC:=fun V hV=>crat_f hy oky h3' ⟨zy.p.up om,zy.r.up om⟩ (((floor_sz (n:=99) okx zx hF).add z1').up om) V hV
   have zf5:Sz 1500 (f:Rat):=(floor_sz (n:=99) okx zx hF).up om
   exact simp_rec w (by have:=Sg.cmp_three oky (Sg.of_ok ((f:Rat)+1));omega) (fun V hb=>rfloor_f hx okx (by rw [hF];exact e1) ⟨zx.p.up om,zx.r.up om⟩ V (hE.next hb)) (fun V _=>rFromInt_f enc_1 dc dc V) (fun V hb=>add_z r1 qo h3' (zf.up om) (z1'.up om) V (hE.next hb)) (fun V hb=>HC V (hE.next hb))
    (fun V _=>ratNeg_f r1 r4 V) (fun V hb=>rshift_f hx r4 r5 ⟨zx.p.up om,zx.r.up om⟩ (zf5.minus.up om) V (hE.next hb)) (fun V hb=>rshift_f hy r4 r6 ⟨zy.p.up om,zy.r.up om⟩ (zf5.minus.up om) V (hE.next hb))
    (fun V hb=>rinv_f v6 hy' (not_zero gy) v7 ⟨zy'.p.up om,zy'.r.up om⟩ V (hE.next hb)) (fun V hb=>rinv_f v5 hx' h4 v8 ⟨zx'.p.up om,zx'.r.up om⟩ V (hE.next hb))
    (fun V hb=>ih hz.ok hw.ok (by rw [hz.pos];decide) hin' (iv_fm hy' gy fy') (iv_fm hx' gx fx') hm om v7 v8 r9 V (hE.next hb))
    (fun V hb=>ratio_f qo r9 r10 (fun e=>hq0 (Rat.num_eq_zero.1 e)) (z1'.up om) (z9.up om) V (hE.next hb)) (fun V hb=>add_z r1 r10 h11 (zf.up om) (z9.inv.up om) V (hE.next hb))
 | @zero x y n m f h1 h2 h3 h4 h5 _ =>
   intro okx oky h0 hin fx fy hn hm b1 c1 s1 b2 c2 s2 b11 m1 k1 n1 l1 m2 k2 n2 l2 m11 k11 hx hy h11 w hE;have hx':=Sg.add_ok okx (-(f:Rat));have hy':=Sg.add_ok oky (-(f:Rat));have hxy:Sg.cmpX x y=-1:=Sg.cmp_trans okx (Sg.of_ok _) oky hin.low hin.high
   have g0:Sg.cmpX (Sg.Rl.of 0) (x.add (-(f:Rat)))≤0:=by
    rw [h4,(Sg.cmp_zero (Sg.of_ok 0) (Sg.of_ok 0)).2 rfl];decide
   have gy:Sg.cmpX (Sg.Rl.of 0) (y.add (-(f:Rat)))=-1:=Sg.le_lt (Sg.of_ok _) hx' hy' g0 (by rw [Sg.add_cmp];exact hxy);have hz:=iv_inv hy' gy;have fy':=fy.shift f hy' gy;have hn0:0<n:=hin.den;have hfn:f≤f*n:=Nat.le_mul_of_pos_right f hn0;have zx:=fm_rz fx hM1 hM;have zy:=fm_rz fy hM1 hM;have zy':=fm_rz fy' hM1 hM;have fz:=iv_fm hy' gy fy';have zz:=fm_rz fz hM1 hM;have hF:=floor_is okx h1 h2;obtain ⟨z1,y1,e1,r1⟩:=rq_z (f:Int);rw [Rat.intCast_natCast] at r1
   have zf:Sz K (f:Rat):=by
    have:=frac_sz (n:=f) (m:=1) (K:=K) om om om
    rwa [by1] at this
   have zf5:Sz 1500 (f:Rat):=(floor_sz (n:=99) okx zx hF).up om;have zf6:Sz 1500 ((f:Rat)+1):=((floor_sz (n:=99) okx zx hF).add z1').up om;obtain ⟨b3,m3,k3,h3'⟩:=Rq.some_ ((f:Rat)+1);obtain ⟨b4,m4,k4,r4⟩:=Rq.some_ (-(f:Rat));obtain ⟨b6,m6,k6,r6⟩:=Rq.some_ (y.p+-(f:Rat));have v6:Rv (y.add (-(f:Rat))) b6 m6 k6 c2 n2 l2 s2:=⟨r6,hy.r,hy.neg⟩;obtain ⟨b7,m7,k7,c7,n7,l7,s7,v7⟩:=Rv.some_ (y.add (-(f:Rat))).iv;obtain ⟨b8,m8,k8,r8⟩:=Rq.some_ ((y.add (-(f:Rat))).iv.p+2);have v8:Rv ((y.add (-(f:Rat))).iv.add 2) b8 m8 k8 c7 n7 l7 s7:=⟨r8,v7.r,v7.neg⟩
   -- x is the integer itself
   have hxf:x=Sg.Rl.of (f:Rat):=by
    have e:x.add (-(f:Rat))=(Sg.Rl.of (f:Rat)).add (-(f:Rat)):=by
     rw [h4,Sg.add_of]
     congr 1
     grind
    have e1:=congrArg Sg.Rl.p e;have e2:=congrArg Sg.Rl.a e;have e3:=congrArg Sg.Rl.s e;refine Sg.Rl.ext' ?_ e2 e3;have e4:x.p+-(f:Rat)=(f:Rat)+-(f:Rat):=e1;show x.p=(f:Rat);grind
   have hr:=hx.r;rw [show x.a=0 by rw [hxf];rfl] at hr;obtain ⟨rfl,rfl,rfl⟩:=hr.nought.1 rfl;obtain rfl:s1=false:=by rw [hx.neg,hxf];rfl
   have r5:Rq (x.p+-(f:Rat)) false ⟨#[]⟩ ⟨#[]⟩:=by
    rw [show x.p+-(f:Rat)=0 by rw [show x.p=(f:Rat) by rw [hxf];rfl];grind];exact Rq.zero
   -- the recursion's next call ends at once
   have hz2:Sg.cmpX (Sg.Rl.of 0) (y.add (-(f:Rat))).iv≤0:=by rw [hz.pos];decide
   have over:∀ g:Nat,Sg.cmpX (Sg.Rl.of (g:Rat)) (y.add (-(f:Rat))).iv≤0→Sg.cmpX ((y.add (-(f:Rat))).iv.add 2) (Sg.Rl.of ((g:Rat)+1))=1:=fun g g1=>by
    have k1:=Sg.lt_le (Sg.of_ok ((g:Rat)+1)) (Sg.of_ok ((g:Rat)+2)) (Sg.add_ok hz.ok 2) (Sg.of_lt.2 (by grind)) (by
     rw [←Sg.add_of,Sg.add_cmp];exact g1)
    rw [Sg.cmp_anti (Sg.of_ok _) (Sg.add_ok hz.ok 2),k1]
    rfl
   cases h5 with
   | turn g g1 g2 g3=>exact absurd (over g g1) g3
   | zero g g1 g2 g3=>exact absurd (over g g1) g3
   | top g g1 g2 g3 =>
     rw [by1] at *;obtain ⟨b9,m9,k9,r9⟩:=Rq.some_ ((g:Rat)+1);obtain ⟨b10,m10,k10,r10⟩:=Rq.some_ (1 / ((g:Rat)+1))
     have z9:Sz K ((g:Rat)+1):=by
      have:=frac_sz (n:=g+1) (m:=1) (K:=K) om om om
      rwa [by1,nat1] at this
     have hgr:(0:Rat)<(g:Rat)+1:=by rw [←nat1];exact Sg.cast_pos om
     have e11:((f*(g+1)+1:Nat):Rat) / ((g+1:Nat):Rat)=(f:Rat)+1 / ((g:Rat)+1):=by
      rw [nat1,nat1,Rat.natCast_mul,nat1];grind
     rw [e11] at h11;have HC:=fun V hV=>crat_f hy oky h3' ⟨zy.p.up om,zy.r.up om⟩ zf6 V hV
     have z2':Sz 1 (2:Rat):=⟨by decide,by decide⟩;have zz8:Rz 200 ((y.add (-(f:Rat))).iv.add 2):=⟨(zz.p.add z2').up om,zz.r.up om⟩
     exact simp_open w (by have:=Sg.cmp_three oky (Sg.of_ok ((f:Rat)+1));omega) (fun V hb=>rfloor_f hx okx (by rw [hF];exact e1) ⟨zx.p.up om,zx.r.up om⟩ V (hE.next hb)) (fun V _=>rFromInt_f enc_1 dc dc V) (fun V hb=>add_z r1 qo h3' (zf.up om) (z1'.up om) V (hE.next hb)) (fun V hb=>HC V (hE.next hb))
      (fun V _=>ratNeg_f r1 r4 V) (fun V hb=>rshift_f hx r4 r5 ⟨zx.p.up om,zx.r.up om⟩ (zf5.minus.up om) V (hE.next hb)) (fun V hb=>rshift_f hy r4 r6 ⟨zy.p.up om,zy.r.up om⟩ (zf5.minus.up om) V (hE.next hb))
      (fun V hb=>rinv_f v6 hy' (not_zero gy) v7 ⟨zy'.p.up om,zy'.r.up om⟩ V (hE.next hb)) (fun V _=>rinv_0 V) (fun V _=>rFromInt_f enc_2 dc dc V) (fun V hb=>rshift_f v7 qt r8 ⟨zz.p.up om,zz.r.up om⟩ (z2'.up om) V (hE.next hb))
      (fun V hb=>simp_top hz.ok (Sg.add_ok hz.ok 2) ⟨zz.p.up om,zz.r.up om⟩ zz8 g1 g2 g3 v7 v8 r9 V (hE.next hb))
      (fun V hb=>ratio_f qo r9 r10 (fun e=>by have:=Rat.num_eq_zero.1 e;grind) (z1'.up om) (z9.up om) V (hE.next hb)) (fun V hb=>add_z r1 r10 h11 (zf.up om) (z9.inv.up om) V (hE.next hb))
inductive Btw (x y:Sg.Rl) (q:Rat):Prop
 | pos (h0:Sg.cmpX (Sg.Rl.of 0) x≤0) (n m:Nat) (h:Sg.SimpP (Sg.In x y) n m) (e:q=(n:Rat) / (m:Rat))
 | neg (h0:Sg.cmpX y (Sg.Rl.of 0)≤0) (n m:Nat) (h:Sg.SimpP (Sg.In y.neg x.neg) n m) (e:q=-((n:Rat) / (m:Rat)))
 | zero (h1:Sg.cmpX x (Sg.Rl.of 0)=-1) (h2:Sg.cmpX (Sg.Rl.of 0) y=-1) (e:q=0)
theorem Btw.inside {x y:Sg.Rl} {q:Rat} (okx:x.Ok) (oky:y.Ok) (h:Btw x y q):Sg.cmpX x (Sg.Rl.of q)=-1∧Sg.cmpX (Sg.Rl.of q) y=-1:=by
 cases h with
 | pos h0 n m h e=>rw [e];exact ⟨h.inn.low,h.inn.high⟩
 | neg h0 n m h e =>
   obtain ⟨_,h1,h2⟩:=(Sg.in_neg okx oky).1 h.inn;rw [e];exact ⟨h1,h2⟩
 | zero h1 h2 e=>rw [e];exact ⟨h1,h2⟩
theorem neg_zero_le {y:Sg.Rl} (oky:y.Ok) (h:Sg.cmpX y (Sg.Rl.of 0)≤0):Sg.cmpX (Sg.Rl.of 0) y.neg≤0:=by
 have h1:=Sg.neg_cmp (Sg.of_ok 0) oky;rw [Sg.neg_of,show -(0:Rat)=0 by grind] at h1;rw [h1];exact h
theorem simp_ex {x y:Sg.Rl} (okx:x.Ok) (oky:y.Ok) (zx:Rz 8 x) (zy:Rz 8 y) (h0:Sg.cmpX (Sg.Rl.of 0) x≤0) (h:Sg.cmpX x y=-1) {K:Nat} (hK:500≤K):∃ n m:Nat,Sg.Run Sg.Rl.iv x y n m∧Sg.SimpP (Sg.In x y) n m∧n<256^K∧m<256^K:=by
 obtain ⟨n,m,h1,h2⟩:=Sg.between_ex (iv:=Sg.Rl.iv) (fun _ ok hp=>iv_inv ok hp) okx oky h0 h;obtain ⟨p,q,hi,hp,hq⟩:=Sg.dense_z hK ⟨zx.p,zx.r⟩ ⟨zy.p,zy.r⟩ okx oky h0 h;obtain ⟨k1,k2⟩:=h2.min p q hi;exact ⟨n,m,h1,h2,om,om⟩
theorem neg_rz {n:Nat} {x:Sg.Rl} (h:Rz n x):Rz n x.neg:=⟨h.p.minus,h.r⟩
theorem btw_ex {x y:Sg.Rl} (okx:x.Ok) (oky:y.Ok) (zx:Rz 8 x) (zy:Rz 8 y) (h:Sg.cmpX x y=-1) {K:Nat} (hK:500≤K):∃ q,Btw x y q∧Sz K q:=by
 have ax:=Sg.cmp_anti okx (Sg.of_ok 0);have ay:=Sg.cmp_anti oky (Sg.of_ok 0);have tx:=Sg.cmp_three okx (Sg.of_ok 0);have ty:=Sg.cmp_three oky (Sg.of_ok 0);by_cases h0:Sg.cmpX (Sg.Rl.of 0) x≤0
 · obtain ⟨n,m,-,h1,h2,h3⟩:=simp_ex okx oky zx zy h0 h hK;exact ⟨_,.pos h0 n m h1 rfl,frac_sz h1.inn.den h2 h3⟩
 · by_cases h4:Sg.cmpX y (Sg.Rl.of 0)≤0
   · obtain ⟨n,m,-,h1,h2,h3⟩:=simp_ex (Sg.neg_ok oky) (Sg.neg_ok okx) (neg_rz zy) (neg_rz zx) (neg_zero_le oky h4) (by rw [Sg.neg_cmp oky okx];exact h) hK;exact ⟨_,.neg h4 n m h1 rfl,(frac_sz h1.inn.den h2 h3).minus⟩
   · obtain ⟨k,rfl⟩:∃ k,K=k+1:=⟨K-1,om⟩
     exact ⟨0,.zero om om rfl,Sz.zero k⟩
theorem frac_le {a b m:Nat} (hm:0<m) (h:a≤b):(a:Rat) / (m:Rat)≤(b:Rat) / (m:Rat):=Sg.cross a m b m hm hm (Nat.mul_le_mul_right m h)
theorem next_in {x y:Sg.Rl} (okx:x.Ok) (oky:y.Ok) {n m k:Nat} (h:Sg.In x y n m) (h1:Sg.cmpX (Sg.Rl.of ((k:Rat) / (m:Rat))) x≤0) (h2:Sg.cmpX x (Sg.Rl.of (((k+1:Nat):Rat) / (m:Rat)))=-1):Sg.In x y (k+1) m:=by
 have hm:=h.den;have h3:=Sg.of_lt.1 (Sg.le_lt (Sg.of_ok _) okx (Sg.of_ok _) h1 h.low)
 have h4:k<n:=by
  rcases Nat.lt_or_ge k n with h5 | h5
  · exact h5
  · have:=frac_le hm h5;grind
 exact ⟨hm,h2,Sg.le_lt (Sg.of_ok _) (Sg.of_ok _) oky (Sg.of_le.2 (frac_le hm h4)) h.high⟩
theorem first_den {x y:Sg.Rl} (okx:x.Ok) (oky:y.Ok) {k:Nat→Nat} (hk:∀ d,0<d→Sg.cmpX (Sg.Rl.of ((k d:Rat) / (d:Rat))) x≤0∧Sg.cmpX x (Sg.Rl.of (((k d+1:Nat):Rat) / (d:Rat)))=-1) {n m:Nat} (h:Sg.SimpP (Sg.In x y) n m) {D:Nat} (hno:∀ d,1≤d→d<D→¬Sg.In x y (k d+1) d) (hin:Sg.In x y (k D+1) D):m=D∧n=k D+1:=by
 have h1:=(h.min _ _ hin).2;have hm:=h.inn.den
 have e:m=D:=by
  rcases Nat.lt_or_ge m D with h2 | h2
  · obtain ⟨a1,a2⟩:=hk m hm;exact absurd (next_in okx oky h.inn a1 a2) (hno m hm h2)
  · omega
 obtain ⟨a1,a2⟩:=hk m hm;refine ⟨e,?_⟩;rw [←e];exact (Sg.ref_den okx oky h a1 a2).symm
theorem first_neg {x y:Sg.Rl} (okx:x.Ok) (oky:y.Ok) {k:Nat} (hk1:Sg.cmpX (Sg.Rl.of (((k:Nat):Rat) / ((1:Nat):Rat))) y.neg≤0) (hk2:Sg.cmpX y.neg (Sg.Rl.of (((k+1:Nat):Rat) / ((1:Nat):Rat)))=-1) (hno1:¬Sg.In y.neg x.neg (k+1) 1)
  {J:Nat→Int} (hJ:∀ d:Nat,0<d→Sg.cmpX (Sg.Rl.of ((J d:Rat) / (d:Rat))) x≤0∧Sg.cmpX x (Sg.Rl.of (((J d:Rat)+1) / (d:Rat)))=-1) (hy0:Sg.cmpX y (Sg.Rl.of 0)≤0) {n m:Nat} (h:Sg.SimpP (Sg.In y.neg x.neg) n m) {D:Nat} (hD:2≤D)
  (hno:∀ d:Nat,2≤d→d<D→¬Sg.cmpX (Sg.Rl.of (((J d:Rat)+1) / (d:Rat))) y=-1) (hin:Sg.cmpX (Sg.Rl.of (((J D:Rat)+1) / (D:Rat))) y=-1):((J D:Rat)+1) / (D:Rat)=-((n:Rat) / (m:Rat)):=by
 have oX:=Sg.neg_ok oky;have oY:=Sg.neg_ok okx;have hm:=h.inn.den
 -- the reference's fraction as one between the opposites
 have hDr:=Sg.cast_pos (show 0<D by omega);have hneg:=Sg.of_lt.1 (Sg.lt_le (Sg.of_ok _) oky (Sg.of_ok _) hin hy0);have eD:=Sg.div_mul (p:=(J D:Rat)+1) hDr
 have hJ0:J D+1<0:=by
  have h1:((J D+1:Int):Rat)<((0:Int):Rat):=by
   rw [Rat.intCast_add];show (J D:Rat)+1<0;rcases Rat.le_total (a:=0) (b:=(J D:Rat)+1) with h2 | h2
   · exfalso;have:=Rat.mul_pos (show 0 < -(((J D:Rat)+1) / (D:Rat)) by grind) hDr;grind
   · rcases Rat.le_iff_lt_or_eq.1 h2 with h3 | h3
     · exact h3
     · exfalso;rw [h3] at eD hneg;grind
  exact Rat.intCast_lt_intCast.1 h1
 obtain ⟨p,hp⟩:∃ p:Nat,(p:Int)=-(J D+1):=⟨(-(J D+1)).toNat,om⟩
 have ep:((J D:Rat)+1)=-(p:Rat):=by
  have h1:((p:Int):Rat)=((-(J D+1):Int):Rat):=by rw [hp]
  rw [Rat.intCast_natCast,Rat.intCast_neg,Rat.intCast_add] at h1;have h2:((1:Int):Rat)=1:=rfl;rw [h2] at h1;grind
 have eq:((J D:Rat)+1) / (D:Rat)=-((p:Rat) / (D:Rat)):=by
  rw [ep];grind
 have hinD:Sg.In y.neg x.neg p D:=(Sg.in_neg okx oky).2 ⟨om,by rw [←eq];exact (hJ D om).2,by rw [←eq];exact hin⟩;have h1:=(h.min _ _ hinD).2
 have e:m=D:=by
  rcases Nat.lt_or_ge m D with h2 | h2
  · exfalso;rcases Nat.lt_or_ge m 2 with h3 | h3
    · obtain rfl:m=1:=om;exact hno1 (next_in oX oY h.inn hk1 hk2)
    · refine hno m h3 h2 ?_;obtain ⟨a1,a2⟩:=hJ m hm;obtain ⟨_,b1,b2⟩:=(Sg.in_neg okx oky).1 h.inn;have hmr:=Sg.cast_pos hm;have c1:=Sg.of_lt.1 (Sg.le_lt (Sg.of_ok _) okx (Sg.of_ok _) a1 b1)
      -- J m < -n
      have e1:=Sg.div_mul (p:=(J m:Rat)) hmr;have e2:=Sg.div_mul (p:=(n:Rat)) hmr
      have c2:((J m:Int):Rat)<((-(n:Int):Int):Rat):=by
       rw [Rat.intCast_neg,Rat.intCast_natCast];have:=Rat.mul_pos (show 0 < -((n:Rat) / (m:Rat))-(J m:Rat) / (m:Rat) by grind) hmr;grind
      have c3:=Rat.intCast_lt_intCast.1 c2;have c4:((J m+1:Int):Rat)≤((-(n:Int):Int):Rat):=Rat.intCast_le_intCast.2 om;rw [Rat.intCast_add,Rat.intCast_neg,Rat.intCast_natCast] at c4;have c4:(J m:Rat)+1≤-(n:Rat):=c4;refine Sg.le_lt (Sg.of_ok _) (Sg.of_ok _) oky (Sg.of_le.2 ?_) b2;have e3:=Sg.div_mul (p:=(J m:Rat)+1) hmr;rcases Rat.le_total (a:=((J m:Rat)+1) / (m:Rat)) (b:=-((n:Rat) / (m:Rat))) with h5 | h5
      · exact h5
      · rcases Rat.le_iff_lt_or_eq.1 h5 with h6 | h6
        · exfalso;have:=Rat.mul_pos (show 0<((J m:Rat)+1) / (m:Rat) - -((n:Rat) / (m:Rat)) by grind) hmr;grind
        · rw [h6];exact Rat.le_refl
  · omega
 subst e;rw [eq,Sg.in_only oX oY h hD hinD]
theorem scl_cmp {x:Sg.Rl} (ok:x.Ok) {d:Rat} (hd:0<d) (q:Rat):Sg.cmpX (x.scl d) (Sg.Rl.of (q*d))=Sg.cmpX x (Sg.Rl.of q):=by
 unfold Sg.Rl.scl;rw [Sg.scale_mk ok (by grind)];unfold Sg.Rl.scale;rcases Sg.ok_cases ok with ⟨h1,h2⟩ | ⟨h1,h2⟩
 · rw [if_pos h1];have hx:x=Sg.Rl.of x.p:=Sg.Rl.ext' rfl h1 h2
   have e:Sg.cmpX x (Sg.Rl.of q)=Sg.sgq (x.p-q):=by
    have:=Sg.cmp_of x.p q
    rwa [←hx] at this
   rw [e,show (⟨x.p*d,0,1⟩:Sg.Rl)=Sg.Rl.of (x.p*d) from rfl,Sg.cmp_of,show x.p*d-q*d=(x.p-q)*d by grind];rcases Sg.sgq_three (x.p-q) with ⟨k,e⟩ | ⟨k,e⟩ | ⟨k,e⟩<;>rw [e]
   · have:=Rat.mul_pos (show 0 < -(x.p-q) by grind) hd;exact Sg.sgq_neg (by grind)
   · exact Sg.sgq_zero (by rw [k];grind)
   · exact Sg.sgq_pos (Rat.mul_pos k hd)
 · rw [if_neg (by grind),if_neg (by grind)];have ha:0<x.a*(d*d):=Rat.mul_pos h1 (Rat.mul_pos hd hd);rw [Sg.cmp_root (x:=⟨x.p*d,x.a*(d*d),x.s⟩) ha,Sg.cmp_root h1,Sg.sos_any ha ok.sg,Sg.sos_any h1 ok.sg,Sg.sg2_cc h1 hd];show Sg.sg2 (x.p*d-q*d) ((x.s:Rat)*d) x.a=_;rw [show x.p*d-q*d=d*(x.p-q) by grind,show (x.s:Rat)*d=d*(x.s:Rat) by grind,Sg.sg2_by h1 (Sg.nsq_sq.2 h2) hd]
theorem scl_ok {x:Sg.Rl} (ok:x.Ok) (d:Rat):(x.scl d).Ok:=mkR_ok (ok_nn ok)
theorem floor_scl {x:Sg.Rl} (ok:x.Ok) {d:Nat} (hd:0<d):Sg.cmpX (Sg.Rl.of ((floorV (x.scl (d:Rat)):Rat) / (d:Rat))) x≤0∧Sg.cmpX x (Sg.Rl.of (((floorV (x.scl (d:Rat)):Rat)+1) / (d:Rat)))=-1:=by
 have hdr:=Sg.cast_pos hd;obtain ⟨h1,h2⟩:=floorV_spec (scl_ok ok (d:Rat));have e:∀ q:Rat,q / (d:Rat)*(d:Rat)=q:=fun q=>Sg.div_mul hdr
 have h3:=scl_cmp ok hdr ((floorV (x.scl (d:Rat)):Rat) / (d:Rat));have h4:=scl_cmp ok hdr (((floorV (x.scl (d:Rat)):Rat)+1) / (d:Rat));rw [e] at h3 h4;have a1:=Sg.cmp_anti (scl_ok ok (d:Rat)) (Sg.of_ok (floorV (x.scl (d:Rat)):Rat));have a2:=Sg.cmp_anti ok (Sg.of_ok ((floorV (x.scl (d:Rat)):Rat) / (d:Rat)));exact ⟨om,om⟩
theorem pos_parts {P:Rat} (h:0≤P):((P.num.natAbs:Nat):Rat) / (P.den:Rat)=P:=by
 have h1:=Rat.num_nonneg.2 h;have h2:=Sg.div_mul (p:=((P.num.natAbs:Nat):Rat)) (Sg.cast_pos P.den_pos);have h3:=Sg.times_den P
 have h4:((P.num.natAbs:Nat):Rat)=(P.num:Rat):=by
  rw [←Rat.intCast_natCast]
  congr 1
  omega
 rw [h4] at h2 ⊢;rw [Rat.intCast_natCast] at h3;have h5:=Sg.cast_pos P.den_pos;have h6:((P.num:Rat) / (P.den:Rat)-P)*(P.den:Rat)=0:=by grind
 rcases Rat.mul_eq_zero.1 h6 with h7 | h7<;>grind
theorem frac_lt {a b c d:Nat} (hb:0<b) (hd:0<d):(a:Rat) / (b:Rat)<(c:Rat) / (d:Rat)↔a*d<c*b:=by
 constructor
 · intro h;rcases Nat.lt_or_ge (a*d) (c*b) with h1 | h1
   · exact h1
   · have:=Sg.cross c d a b hd hb h1;grind
 · intro h;rcases Rat.le_total (a:=(c:Rat) / (d:Rat)) (b:=(a:Rat) / (b:Rat)) with h1 | h1
   · exfalso;have e1:=Sg.div_mul (p:=(a:Rat)) (Sg.cast_pos hb);have e2:=Sg.div_mul (p:=(c:Rat)) (Sg.cast_pos hd);have hb':=Sg.cast_pos hb;have hd':=Sg.cast_pos hd
     have e3:(a:Rat)*(d:Rat)<(c:Rat)*(b:Rat):=by
      rw [←Rat.natCast_mul,←Rat.natCast_mul];exact Rat.natCast_lt_natCast.2 h
     generalize (a:Rat) / (b:Rat)=X at *;generalize (c:Rat) / (d:Rat)=Y at *;have h4:=Rat.mul_le_mul_of_nonneg_right h1 (Rat.le_of_lt (Rat.mul_pos hb' hd'));have h5:Y*((b:Rat)*(d:Rat))=(Y*(d:Rat))*(b:Rat):=by grind
     have h6:X*((b:Rat)*(d:Rat))=(X*(b:Rat))*(d:Rat):=by grind
     rw [h5,h6,e1,e2] at h4;grind
   · rcases Rat.le_iff_lt_or_eq.1 h1 with h2 | h2
     · exact h2
     · exfalso;have:=Sg.cross c d a b hd hb;have e1:=Sg.div_mul (p:=(a:Rat)) (Sg.cast_pos hb);have e2:=Sg.div_mul (p:=(c:Rat)) (Sg.cast_pos hd)
       have e3:(a:Rat)*(d:Rat)<(c:Rat)*(b:Rat):=by
        rw [←Rat.natCast_mul,←Rat.natCast_mul];exact Rat.natCast_lt_natCast.2 h
       rw [h2] at e1;generalize (c:Rat) / (d:Rat)=Y at e1 e2;rw [←e1,←e2] at e3;grind
theorem inn_in {P Q:Rat} (hP:0≤P) (hQ:0≤Q) (p q:Nat):Inn P.num.natAbs P.den true Q.num.natAbs Q.den true p q↔Sg.In (Sg.Rl.of P) (Sg.Rl.of Q) p q:=by
 have e1:=pos_parts hP;have e2:=pos_parts hQ;constructor
 · rintro ⟨h1,h2,h3⟩;have h2:P.num.natAbs*q<p*P.den:=by rcases h2 with h | ⟨_,h⟩;exact h;cases h
   have h3:p*Q.den<Q.num.natAbs*q:=by rcases h3 with h | ⟨_,h⟩;exact h;cases h
   refine ⟨h1,Sg.of_lt.2 ?_,Sg.of_lt.2 ?_⟩
   · rw [←e1];exact (frac_lt P.den_pos h1).2 h2
   · rw [←e2];exact (frac_lt h1 Q.den_pos).2 h3
 · rintro ⟨h1,h2,h3⟩;have h2:=Sg.of_lt.1 h2;have h3:=Sg.of_lt.1 h3;rw [←e1] at h2;rw [←e2] at h3;exact ⟨h1,.inl ((frac_lt P.den_pos h1).1 h2),.inl ((frac_lt h1 Q.den_pos).1 h3)⟩
theorem simp_simpP {P Q:Rat} (hP:0≤P) (hQ:0≤Q) {n m:Nat} (h:Simp P.num.natAbs P.den true Q.num.natAbs Q.den true n m):Sg.SimpP (Sg.In (Sg.Rl.of P) (Sg.Rl.of Q)) n m :=
 ⟨(inn_in hP hQ _ _).1 h.inn,h.cop,fun p q k=>h.min p q ((inn_in hP hQ _ _).2 k)⟩
theorem rq_letters {n m:Nat} (hc:Nat.gcd n m=1) (hm:0<m):Rq ((n:Rat) / (m:Rat)) false (mag n) (dm m)∧Rq (-((n:Rat) / (m:Rat))) (decide (0<n)) (mag n) (dm m):=by
 have h1:Rq (mkRat (sgn false n) m) false (mag n) (dm m):=Rq.of_mk hm (by rw [hc,Nat.div_one];exact enc_mag n) (by rw [hc,Nat.div_one])
 have e:mkRat (sgn false n) m=(n:Rat) / (m:Rat):=by
  rw [Rat.mkRat_eq_div]
  rfl
 rw [e] at h1;refine ⟨h1,?_,?_⟩
 · have hn : ((n : Rat) / (m : Rat)).num = (n : Int) := by
    have h2:=enc_sgn h1.num;rw [bval_mag] at h2;rw [←h2];rfl
   exact k94
 · rw [Rat.neg_den];exact h1.den
theorem num_sign_neg {P:Rat}:P.num.sign<0↔P<0:=by
 exact k98
theorem num_sign_pos {P:Rat}:0<P.num.sign↔0<P:=by
 exact k98
theorem ssimp_f {P Q q:Rat} {b1 b2 b3:Bool} {m1 k1 m2 k2 m3 k3:ByteArray} (hP:Rq P b1 m1 k1) (hQ:Rq Q b2 m2 k2) (zP:Sz 8 P) (zQ:Sz 8 Q) (hlt:P<Q) (hb:Btw (Sg.Rl.of P) (Sg.Rl.of Q) q) (hq:Rq q b3 m3 k3) (w:World) (hE:Env w) :
  Calls Tryz.prog 108 #[.agg #[.bool b1,.string m1,.bool false,.string k1],.agg #[.bool b2,.string m2,.bool false,.string k2],.bool true,.bool true] w (RetB w (.tuple #[.agg #[.bool b3,.string m3,.bool false,.string k3],.int .i64 0])):=by
 have yP:=zP.m hP om;have yQ:=zQ.m hQ om;have t1:m1.size≤2000:=by rw [hP.mag.2];exact Nat.le_trans (mag_size_le zP.1) dc
 have t2:m2.size≤2000:=by rw [hQ.mag.2];exact Nat.le_trans (mag_size_le zQ.1) dc
 have t3:(mag P.den).size≤2000:=Nat.le_trans (mag_size_le zP.2) dc;have t4:(mag Q.den).size≤2000:=Nat.le_trans (mag_size_le zQ.2) dc;have hc:cmpQ P Q=-1:=by rw [←sgq_cmp];exact Sg.sgq_neg (by grind)
 refine (simplest_gen hP hQ true true t1 t2 t3 t4 w hE).mono ?_;rintro e w' (⟨h,_⟩ | ⟨-,h,hr⟩ | ⟨-,h,h0,n,m,hr,hs⟩ | ⟨-,h,h0,n,m,hr,hs⟩)
 · rw [hc] at h;exact absurd h dc
 · have h1 : P < 0 ∧ 0 < Q := by
    unfold zeroB at h;simp only [Bool.not_true,Bool.and_false,Bool.or_false,Bool.and_eq_true,decide_eq_true_eq] at h;exact ⟨num_sign_neg.1 h.1,num_sign_pos.1 h.2⟩
   have h2:q=0:=by
    cases hb with
    | pos g0 _ _ _ _=>have:=Sg.of_le.1 g0;grind
    | neg g0 _ _ _ _=>have:=Sg.of_le.1 g0;grind
    | zero _ _ g=>exact g
   subst h2;obtain ⟨rfl,rfl,rfl⟩:=hq.inj Rq.zero;exact hr
 · have h1:=num_sign_neg.1 h0
   have h2:Q≤0:=by
    rcases Rat.le_total (a:=Q) (b:=0) with g | g
    · exact g
    · rcases Rat.le_iff_lt_or_eq.1 g with g | g
      · exfalso;unfold zeroB at h;rw [decide_eq_true h0,decide_eq_true (num_sign_pos.2 g)] at h;cases h
      · rw [←g];exact Rat.le_refl
   have hs':Sg.SimpP (Sg.In (Sg.Rl.of (-Q)) (Sg.Rl.of (-P))) n m:=simp_simpP (P:=-Q) (Q:=-P) (by grind) (by grind) (by rw [Rat.neg_num,Rat.neg_num,Rat.neg_den,Rat.neg_den,Int.natAbs_neg,Int.natAbs_neg];exact hs);obtain ⟨_,hl⟩:=rq_letters hs.cop hs.inn.1
   have hqe:q=-((n:Rat) / (m:Rat)):=by
    cases hb with
    | pos g0 _ _ _ _=>have:=Sg.of_le.1 g0;grind
    | neg g0 n' m' g e =>
      rw [Sg.neg_of,Sg.neg_of] at g;obtain ⟨rfl,rfl⟩:=g.one hs';exact e
    | zero _ g _=>have:=Sg.of_lt.1 g;grind
   subst hqe;obtain ⟨rfl,rfl,rfl⟩:=hq.inj hl;exact hr
 · have h1 : 0 ≤ P := by
    rcases Rat.le_total (a:=0) (b:=P) with g | g
    · exact g
    · rcases Rat.le_iff_lt_or_eq.1 g with g | g
      · exact absurd (num_sign_neg.2 g) h0
      · rw [g];exact Rat.le_refl
   have hs':=simp_simpP (P:=P) (Q:=Q) h1 (by grind) hs;obtain ⟨hl,_⟩:=rq_letters hs.cop hs.inn.1
   have hqe:q=(n:Rat) / (m:Rat):=by
    cases hb with
    | pos g0 n' m' g e =>
      obtain ⟨rfl,rfl⟩:=g.one hs';exact e
    | neg g0 _ _ _ _=>have:=Sg.of_le.1 g0;grind
    | zero g _ _=>have:=Sg.of_lt.1 g;grind
   subst hqe;obtain ⟨rfl,rfl,rfl⟩:=hq.inj hl;exact hr
theorem simp_f {x y:Sg.Rl} (okx:x.Ok) (oky:y.Ok) (zx:Rz 8 x) (zy:Rz 8 y) (h0:Sg.cmpX (Sg.Rl.of 0) x≤0) (h:Sg.cmpX x y=-1) {n m:Nat} (hs:Sg.SimpP (Sg.In x y) n m) {b1 c1 s1 b2 c2 s2 b3:Bool} {m1 k1 n1 l1 m2 k2 n2 l2 m3 k3:ByteArray} (hx:Rv x b1 m1 k1 c1 n1 l1 s1) (hy:Rv y b2 m2 k2 c2 n2 l2 s2) (hq:Rq ((n:Rat) / (m:Rat)) b3 m3 k3) (w:World) (hE:Env w) :
  Calls Tryz.prog 109 #[.agg #[.bool b1,.string m1,.bool false,.string k1,.bool c1,.string n1,.bool false,.string l1,.bool s1],.agg #[.bool b2,.string m2,.bool false,.string k2,.bool c2,.string n2,.bool false,.string l2,.bool s2]] w (RetB w (.agg #[.bool b3,.string m3,.bool false,.string k3])):=by
 obtain ⟨K,hK⟩:∃ K,K=600:=⟨_,rfl⟩
 obtain ⟨n',m',hr,hs',zn,zm⟩:=simp_ex okx oky zx zy h0 h (K:=K) om;obtain ⟨rfl,rfl⟩:=hs.one hs';obtain ⟨N,hN⟩:∃ N:Nat,N=256^8:=⟨_,rfl⟩
 have hM:4*(N*N*N*N*N*N)<256^49:=by rw [hN];decide
 have hM1:1≤4*(N*N*N*N*N*N):=by rw [hN];decide
 have fx:=Sg.fm_small okx (n:=N) (by rw [hN];exact zx.p.1) (by rw [hN];exact zx.p.2) (by rw [hN];exact zx.r.1) (by rw [hN];exact zx.r.2);have fy:=Sg.fm_small oky (n:=N) (by rw [hN];exact zy.p.1) (by rw [hN];exact zy.p.2) (by rw [hN];exact zy.r.1) (by rw [hN];exact zy.r.2);exact simp_run hM1 hM (K:=K) om hr okx oky h0 hs.inn fx fy zn zm hx hy hq w hE
theorem pbtw_f {x y:Sg.Rl} {q:Rat} (okx:x.Ok) (oky:y.Ok) (zx:Rz 8 x) (zy:Rz 8 y) (h:Sg.cmpX x y=-1) (hb:Btw x y q) {b1 c1 s1 b2 c2 s2 b3:Bool} {m1 k1 n1 l1 m2 k2 n2 l2 m3 k3:ByteArray} (hx:Rv x b1 m1 k1 c1 n1 l1 s1) (hy:Rv y b2 m2 k2 c2 n2 l2 s2) (hq:Rq q b3 m3 k3) (w:World) (hE:Env w) :
  Calls Tryz.prog 56 #[.agg #[.bool b1,.string m1,.bool false,.string k1,.bool c1,.string n1,.bool false,.string l1,.bool s1],.agg #[.bool b2,.string m2,.bool false,.string k2,.bool c2,.string n2,.bool false,.string l2,.bool s2]] w (RetB w (.tuple #[.agg #[.bool b3,.string m3,.bool false,.string k3],.int .i64 0])):=by
 have C1:=fun V (hV:Below w.heap.size w V)=>rchk_ok hx okx ⟨zx.p.up om,zx.r.up om⟩ V (hE.next hV)
 have C2:=fun V (hV:Below w.heap.size w V)=>rchk_ok hy oky ⟨zy.p.up om,zy.r.up om⟩ V (hE.next hV)
 have C3:=fun V (hV:Below w.heap.size w V)=>cmp_f hx hy okx oky ⟨zx.p.up om,zx.r.up om⟩ ⟨zy.p.up om,zy.r.up om⟩ V (hE.next hV)
 rw [h] at C3;have I1:=fun V (_:Below w.heap.size w V)=>isRat_f hx V
 have I2:=fun V (_:Below w.heap.size w V)=>isRat_f hy V
 have S1:=fun V (hV:Below w.heap.size w V)=>rsgn_f hx okx ⟨zx.p.up om,zx.r.up om⟩ V (hE.next hV)
 have S2:=fun V (hV:Below w.heap.size w V)=>rsgn_f hy oky ⟨zy.p.up om,zy.r.up om⟩ V (hE.next hV)
 have ax:=Sg.cmp_anti okx (Sg.of_ok 0);have ay:=Sg.cmp_anti oky (Sg.of_ok 0);have tx:=Sg.cmp_three okx (Sg.of_ok 0);have ty:=Sg.cmp_three oky (Sg.of_ok 0);by_cases hx0:x.a=0
 · rw [decide_eq_true hx0] at I1;by_cases hy0:y.a=0
   · -- two fractions
     rw [decide_eq_true hy0] at I2
     have ex:x=Sg.Rl.of x.p:=by
      rcases Sg.ok_cases okx with ⟨_,e⟩ | ⟨e,_⟩
      · exact Sg.Rl.ext' rfl hx0 e
      · rw [hx0] at e;exact absurd e dc
     have ey:y=Sg.Rl.of y.p:=by
      rcases Sg.ok_cases oky with ⟨_,e⟩ | ⟨e,_⟩
      · exact Sg.Rl.ext' rfl hy0 e
      · rw [hy0] at e;exact absurd e dc
     have hlt:x.p<y.p:=by
      have h1:Sg.cmpX (Sg.Rl.of x.p) (Sg.Rl.of y.p)=-1:=by rw [←ex,←ey];exact h
      exact Sg.of_lt.1 h1
     have hb':Btw (Sg.Rl.of x.p) (Sg.Rl.of y.p) q:=by rw [←ex,←ey];exact hb
     exact btw_rat w (c:=-1) dc C1 C2 C3 I1 I2 (fun V hV=>ssimp_f hx.p hy.p zx.p zy.p hlt hb' hq V (hE.next hV))
   · rw [decide_eq_false hy0] at I2;cases hb with
     | pos h0 n m hs e =>
       subst e;exact btw_pos2 w (c:=-1) dc om C1 C2 C3 I1 I2 S1 (fun V hV=>simp_f okx oky zx zy h0 h hs hx hy hq V (hE.next hV))
     | neg h0 n m hs e =>
       subst e;have hs0:Sg.cmpX x (Sg.Rl.of 0)=-1:=Sg.lt_le okx oky (Sg.of_ok 0) h h0;obtain ⟨b5,m5,k5,c5,n5,l5,s5,v5⟩:=Rv.some_ y.neg;obtain ⟨b6,m6,k6,c6,n6,l6,s6,v6⟩:=Rv.some_ x.neg;obtain ⟨b9,m9,k9,r9⟩:=Rq.some_ ((n:Rat) / (m:Rat));exact btw_neg2 w (c:=-1) dc om h0 C1 C2 C3 I1 I2 S1 S2 (fun V _=>rneg_f hy oky v5 V) (fun V _=>rneg_f hx okx v6 V) (fun V hV=>simp_f (Sg.neg_ok oky) (Sg.neg_ok okx) (neg_rz zy) (neg_rz zx) (neg_zero_le oky h0) (by rw [Sg.neg_cmp oky okx];exact h) hs v5 v6 r9 V (hE.next hV)) (fun V _=>ratNeg_f r9 hq V)
     | zero h1 h2 e =>
       subst e;obtain ⟨rfl,rfl,rfl⟩:=hq.inj Rq.zero;exact btw_zero2 w (c:=-1) dc om om C1 C2 C3 I1 I2 S1 S2
 · rw [decide_eq_false hx0] at I1;cases hb with
   | pos h0 n m hs e =>
     subst e;exact btw_pos w (c:=-1) dc om C1 C2 C3 I1 S1 (fun V hV=>simp_f okx oky zx zy h0 h hs hx hy hq V (hE.next hV))
   | neg h0 n m hs e =>
     subst e;have hs0:Sg.cmpX x (Sg.Rl.of 0)=-1:=Sg.lt_le okx oky (Sg.of_ok 0) h h0;obtain ⟨b5,m5,k5,c5,n5,l5,s5,v5⟩:=Rv.some_ y.neg;obtain ⟨b6,m6,k6,c6,n6,l6,s6,v6⟩:=Rv.some_ x.neg;obtain ⟨b9,m9,k9,r9⟩:=Rq.some_ ((n:Rat) / (m:Rat));exact btw_neg1 w (c:=-1) dc om h0 C1 C2 C3 I1 S1 S2 (fun V _=>rneg_f hy oky v5 V) (fun V _=>rneg_f hx okx v6 V) (fun V hV=>simp_f (Sg.neg_ok oky) (Sg.neg_ok okx) (neg_rz zy) (neg_rz zx) (neg_zero_le oky h0) (by rw [Sg.neg_cmp oky okx];exact h) hs v5 v6 r9 V (hE.next hV)) (fun V _=>ratNeg_f r9 hq V)
   | zero h1 h2 e =>
     subst e;obtain ⟨rfl,rfl,rfl⟩:=hq.inj Rq.zero;exact btw_zero1 w (c:=-1) dc om om C1 C2 C3 I1 S1 S2
end Go.Proofs.YtpnokfgplnmjpaaGreatDoor
namespace Go.Proofs.YtpnokfgplnmjpaaGreatDoor
open Go.RowKit
attribute [local go_sem ↓] Go.wp_at_zero Go.wp_at_succ
theorem fceil_f {x:Sg.Rl} {b1 c1 s1:Bool} {m1 k1 n1 l1:ByteArray} {b4:Bool} {m4:ByteArray} (hx:Rv x b1 m1 k1 c1 n1 l1 s1) (ok:x.Ok) (zx:Rz 50 x) (h4:enc (-floorV x.neg)=.agg #[.bool b4,.string m4]) (w:World):Calls Tryz.prog 55 #[.agg #[.bool b1,.string m1,.bool false,.string k1,.bool c1,.string n1,.bool false,.string l1,.bool s1]] w (RetB w (.agg #[.bool b4,.string m4,.bool false,.string ⟨#[]⟩])):=by
 obtain ⟨b2,m2,k2,c2,n2,l2,s2,h2⟩:=Rv.some_ x.neg;obtain ⟨b3,m3,h3,h3'⟩:=rq_z (floorV x.neg);obtain ⟨b5,m5,h5,h5'⟩:=rq_z (-floorV x.neg);rw [h5] at h4
 injection h4 with h4
 injection h4 with h4
 injection h4 with h41 h42
 injection h42 with h42 _
 injection h41 with h41
 injection h42 with h42
 subst h41 h42;have zn:Rz 50 x.neg:=⟨zx.p.minus,zx.r⟩;exact fceil_w w (fun V _=>fneg_f hx ok h2 ⟨zx.p.up om,zx.r.up om⟩ V) (fun V _=>ffloor_f h2 (Sg.neg_ok ok) zn h3 V) (fun V _=>rNeg_f h3' (by rw [←Rat.intCast_neg];exact h5') V)
end Go.Proofs.YtpnokfgplnmjpaaGreatDoor
