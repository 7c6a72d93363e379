import Derived.Test.YtpnokfgplnmjpaaGreatDoorGPk
import Derived.Test.YtpnokfgplnmjpaaGreatDoorGRME
import Derived.Test.YtpnokfgplnmjpaaGreatDoorGROA
import Derived.Test.YtpnokfgplnmjpaaGreatDoorGROB
set_option linter.unusedSimpArgs false
set_option linter.unusedVariables false
namespace Go.Proofs.YtpnokfgplnmjpaaGreatDoor
open Go.RowKit
def inB (x y:Sg.Rl) (r:Rat):Bool:=decide (Sg.cmpX x (Sg.Rl.of r)=-1∧Sg.cmpX (Sg.Rl.of r) y=-1)
theorem inB_yes {x y:Sg.Rl} {r:Rat}:inB x y r=true↔(Sg.cmpX x (Sg.Rl.of r)=-1∧Sg.cmpX (Sg.Rl.of r) y=-1):=decide_eq_true_iff
theorem inside_f {x y:Sg.Rl} {r:Rat} (okx:x.Ok) (oky:y.Ok) (zx:Rz 8 x) (zy:Rz 8 y) (zr:Sz 300 r) {b1 c1 s1 b2 c2 s2 b3:Bool} {m1 k1 n1 l1 m2 k2 n2 l2 m3 k3:ByteArray} (hx:Rv x b1 m1 k1 c1 n1 l1 s1) (hy:Rv y b2 m2 k2 c2 n2 l2 s2) (hr:Rq r b3 m3 k3) (w:World) :
  Calls Tryz.prog 58 #[.agg #[.bool b3,.string m3,.bool false,.string k3],.agg #[.bool b1,.string m1,.bool false,.string k1,.bool c1,.string n1,.bool false,.string l1,.bool s1],.agg #[.bool b2,.string m2,.bool false,.string k2,.bool c2,.string n2,.bool false,.string l2,.bool s2]] w (RetB w (.bool (inB x y r))):=by
 have hv:Rv (Sg.Rl.of r) b3 m3 k3 false ⟨#[]⟩ ⟨#[]⟩ false:=⟨hr,Rq.zero,rfl⟩;have zv:Rz 500 (Sg.Rl.of r):=⟨zr.up om,Sz.zero 499⟩;have zx5:Rz 500 x:=⟨zx.p.up om,zx.r.up om⟩;have zy5:Rz 500 y:=⟨zy.p.up om,zy.r.up om⟩;have HO:=fun V (_:Below w.heap.size w V)=>of_any b3 m3 k3 V
 have HC:=fun V (_:Below w.heap.size w V)=>fcmp_f hx hv okx (Sg.of_ok r) zx5 zv V
 have HD:=fun V (_:Below w.heap.size w V)=>fcmp_f hv hy (Sg.of_ok r) oky zv zy5 V
 unfold inB;rcases Sg.cmp_three okx (Sg.of_ok r) with e | e | e<;>rw [e] at HC ⊢
 · rcases Sg.cmp_three (Sg.of_ok r) oky with f | f | f<;>rw [f] at HD ⊢
   · exact inside_yes w HO HC HD
   · exact inside_lt0 w HO HC HD
   · exact inside_lt1 w HO HC HD
 · rw [decide_eq_false om];exact inside_no0 w HO HC
 · rw [decide_eq_false om];exact inside_no1 w HO HC
theorem fl_sz {x:Sg.Rl} (ok:x.Ok) {n:Nat} (zx:Rz (n+1) x):Sz (5*n+30) (floorV x:Rat):=by
 have h1:=(floorV_size ok zx).sz';exact h1.up om
theorem nat_sz {d:Nat} (h:d≤255):Sz 1 (d:Rat):=by
 refine ⟨?_,?_⟩
 · rw [Rat.num_natCast,Int.natAbs_natCast];have:(255:Nat)<256^1:=by decide
   omega
 · rw [Rat.den_natCast];decide
theorem scl_rz {x:Sg.Rl} (ok:x.Ok) (zx:Rz 8 x) {d:Nat} (h1:1≤d) (h:d≤255):Rz 12 (x.scl (d:Rat)):=by
 have hd:=Sg.cast_pos (show 0<d by omega);have zd:=nat_sz h;unfold Sg.Rl.scl;rw [Sg.scale_mk ok (by grind)];unfold Sg.Rl.scale
 split
 · exact ⟨(zx.p.mul zd).up om,Sz.zero 11⟩
 · exact ⟨(zx.p.mul zd).up om,(zx.r.mul (zd.mul zd)).up om⟩
theorem round_f {x y:Sg.Rl} (okx:x.Ok) (oky:y.Ok) (zx:Rz 8 x) (zy:Rz 8 y) {b1 c1 s1 b2 c2 s2:Bool} {m1 k1 n1 l1 m2 k2 n2 l2:ByteArray} (hx:Rv x b1 m1 k1 c1 n1 l1 s1) (hy:Rv y b2 m2 k2 c2 n2 l2 s2) {d:Nat} (h1:1≤d) (hd:d≤200) :
  ∃ (u0 u1 u2 u3 u4 u5 u6:Bool) (v0 v1 v2 v3 v4 v5 v6 v7 v8 v9:ByteArray),Rq (((floorV (x.scl (d:Rat)):Rat)+1) / (d:Rat)) u6 v8 v9∧∀ w,
    (∀ V,Below w.heap.size w V→Calls Tryz.prog 21 #[.int .i64 (d:Int)] V (RetB V (.agg #[.bool u0,.string v0,.bool false,.string ⟨#[]⟩])))∧(∀ V,Below w.heap.size w V→Calls Tryz.prog 48 #[.agg #[.bool b1,.string m1,.bool false,.string k1,.bool c1,.string n1,.bool false,.string l1,.bool s1],.agg #[.bool u0,.string v0,.bool false,.string ⟨#[]⟩]] V (RetB V (.agg #[.bool u1,.string v1,.bool false,.string v2,.bool u2,.string v3,.bool false,.string v4,.bool u3])))∧(∀ V,Below w.heap.size w V→Calls Tryz.prog 53 #[.agg #[.bool u1,.string v1,.bool false,.string v2,.bool u2,.string v3,.bool false,.string v4,.bool u3]] V (RetB V (.agg #[.bool u4,.string v5,.bool false,.string ⟨#[]⟩])))∧(∀ V,Below w.heap.size w V→Calls Tryz.prog 77 #[.agg #[.bool u4,.string v5,.bool false,.string ⟨#[]⟩],.agg #[.bool false,.string ⟨#[1]⟩,.bool false,.string ⟨#[]⟩]] V (RetB V (.agg #[.bool u5,.string v6,.bool false,.string v7])))∧(∀ V,Below w.heap.size w V→Calls Tryz.prog 82 #[.agg #[.bool u5,.string v6,.bool false,.string v7],.agg #[.bool u0,.string v0,.bool false,.string ⟨#[]⟩]] V (RetB V (.agg #[.bool u6,.string v8,.bool false,.string v9])))∧(∀ V,Below w.heap.size w V→Calls Tryz.prog 58 #[.agg #[.bool u6,.string v8,.bool false,.string v9],.agg #[.bool b1,.string m1,.bool false,.string k1,.bool c1,.string n1,.bool false,.string l1,.bool s1],.agg #[.bool b2,.string m2,.bool false,.string k2,.bool c2,.string n2,.bool false,.string l2,.bool s2]] V (RetB V (.bool (inB x y (((floorV (x.scl (d:Rat)):Rat)+1) / (d:Rat)))))):=by
 obtain ⟨u0,v0,r0,HW⟩:=whole_q (n:=(d:Int)) om;rw [Rat.intCast_natCast] at r0;have zd:=nat_sz (d:=d) om;have os:=scl_ok okx (d:Rat);have zs:=scl_rz okx zx h1 om;obtain ⟨u1,v1,v2,u2,v3,v4,u3,h6⟩:=Rv.some_ (x.scl (d:Rat));obtain ⟨u4,v5,e4,r4⟩:=rq_z (floorV (x.scl (d:Rat)));obtain ⟨u5,v6,v7,r5⟩:=Rq.some_ ((floorV (x.scl (d:Rat)):Rat)+1);obtain ⟨u6,v8,v9,r6⟩:=Rq.some_ (((floorV (x.scl (d:Rat)):Rat)+1) / (d:Rat));have z1:Sz 1 (1:Rat):=⟨by decide,by decide⟩;have zf:Sz 85 (floorV (x.scl (d:Rat)):Rat):=(fl_sz (n:=11) os zs).up om;have z5:=zf.add z1;have hd0:(d:Rat).num≠0:=by rw [Rat.num_natCast];omega
 have z6:Sz 300 (((floorV (x.scl (d:Rat)):Rat)+1) / (d:Rat)):=(z5.by_ zd).up om;exact ⟨u0,u1,u2,u3,u4,u5,u6,v0,v1,v2,v3,v4,v5,v6,v7,v8,v9,r6,fun w=>⟨fun V _=>HW V,fun V _=>fscale_f hx okx r0 h6 ⟨zx.p.up om,zx.r.up om⟩ (zd.up om) V,fun V _=>ffloor_f h6 os ⟨zs.p.up om,zs.r.up om⟩ e4 V,fun V _=>radd_z r4 qo r5 (zf.up om) (z1.up om) V,fun V _=>rdiv_z r5 r0 r6 hd0 (z5.up om) (zd.up om) V,fun V _=>inside_f okx oky zx zy z6 hx hy r6 V⟩⟩
theorem least_ex (P:Nat→Prop) (n:Nat) (h:P n):∃ d,P d∧∀ e,e<d→¬P e:=by
 induction n using Nat.strongRecOn with
 | _ n ih =>
   by_cases h1:∃ e,e<n∧P e
   · obtain ⟨e,h2,h3⟩:=h1;exact ih e h2 h3
   · exact ⟨n,h,fun e he hp=>h1 ⟨e,he,hp⟩⟩
theorem first_one {x y:Sg.Rl} (okx:x.Ok) {n m k:Nat} (h:Sg.SimpP (Sg.In x y) n m) (h1:Sg.cmpX (Sg.Rl.of (k:Rat)) x≤0) (hin:Sg.In x y (k+1) 1):m=1∧n=k+1:=by
 obtain ⟨a1,a2⟩:=h.min _ _ hin;have hm:=h.inn.den;have e:m=1:=om;refine ⟨e,?_⟩;have h3:=Sg.of_lt.1 (Sg.le_lt (Sg.of_ok _) okx (Sg.of_ok _) h1 h.inn.low);rw [e] at h3;have h4:((1:Nat):Rat)=1:=rfl;rw [h4] at h3;have h5:(k:Rat)<(n:Rat):=by grind
 have:=Rat.natCast_lt_natCast.1 h5;omega
theorem nat_of {z:Int} (h:0≤z):((z.toNat:Nat):Rat)=(z:Rat):=by
 rw [←Rat.intCast_natCast,Int.toNat_of_nonneg h]
theorem floor_nn {x:Sg.Rl} (ok:x.Ok) (h0:Sg.cmpX (Sg.Rl.of 0) x≤0):0≤floorV x:=by
 have h1:=Sg.of_lt.1 (Sg.le_lt (Sg.of_ok _) ok (Sg.of_ok _) h0 (floorV_spec ok).2);have h2:((0:Int):Rat)<((floorV x+1:Int):Rat):=by rw [Rat.intCast_add];exact h1
 have:=Rat.intCast_lt_intCast.1 h2;omega
theorem scl_nn {x:Sg.Rl} (ok:x.Ok) {d:Nat} (hd:0<d) (h0:Sg.cmpX (Sg.Rl.of 0) x≤0):Sg.cmpX (Sg.Rl.of 0) (x.scl (d:Rat))≤0:=by
 have h1:=scl_cmp ok (Sg.cast_pos hd) 0;rw [show (0:Rat)*(d:Rat)=0 by grind] at h1;have a1:=Sg.cmp_anti ok (Sg.of_ok 0);have a2:=Sg.cmp_anti (scl_ok ok (d:Rat)) (Sg.of_ok 0);omega
theorem succ_cast (k:Nat):((k+1:Nat):Rat)=(k:Rat)+1:=by rw [Rat.natCast_add];rfl
theorem by_one (q:Rat):q / ((1:Nat):Rat)=q:=by
 have h1:((1:Nat):Rat)=1:=rfl;rw [h1];grind
theorem fbt_f {x y:Sg.Rl} {q:Rat} (okx:x.Ok) (oky:y.Ok) (zx:Rz 8 x) (zy:Rz 8 y) (h:Sg.cmpX x y=-1) (hb:Btw x y q) {b1 c1 s1 b2 c2 s2:Bool} {m1 k1 n1 l1 m2 k2 n2 l2:ByteArray} (hx:Rv x b1 m1 k1 c1 n1 l1 s1) (hy:Rv y b2 m2 k2 c2 n2 l2 s2) :
  ∃ (b:Bool) (m k:ByteArray) (o:Bool),(o=true→Rq q b m k)∧∀ w,Calls Tryz.prog 60 #[.agg #[.bool b1,.string m1,.bool false,.string k1,.bool c1,.string n1,.bool false,.string l1,.bool s1],.agg #[.bool b2,.string m2,.bool false,.string k2,.bool c2,.string n2,.bool false,.string l2,.bool s2],.int .i64 200] w (RetB w (.tuple #[.agg #[.bool b,.string m,.bool false,.string k],.bool o])):=by
 have ax:=Sg.cmp_anti okx (Sg.of_ok 0);have ay:=Sg.cmp_anti oky (Sg.of_ok 0);have tx:=Sg.cmp_three okx (Sg.of_ok 0);have ty:=Sg.cmp_three oky (Sg.of_ok 0);have z1:Sz 1 (1:Rat):=⟨by decide,by decide⟩;have HZ:=fun (w V:World) (_:Below w.heap.size w V)=>zero_any V
 have HO:=fun (w V:World) (_:Below w.heap.size w V)=>one_any V
 have HI0:=fun (w V:World) (_:Below w.heap.size w V)=>inside_f okx oky zx zy (Sz.zero 299) hx hy Rq.zero V
 have HS:=fun (w V:World) (_:Below w.heap.size w V)=>fsgn_f hx okx ⟨zx.p.up om,zx.r.up om⟩ V
 cases hb with
 | zero h1 h2 e =>
   subst e;have e0:inB x y 0=true:=inB_yes.2 ⟨h1,h2⟩;rw [e0] at HI0;exact ⟨_,_,_,true,fun _=>Rq.zero,fun w=>fbt_zero w (HZ w) (HI0 w)⟩
 | pos h0 n m hs e =>
   have e0:inB x y 0=false:=by
    rw [←Bool.not_eq_true];intro e;have:=(inB_yes.1 e).1;omega
   rw [e0] at HI0;obtain ⟨b4,m4,e4,r4⟩:=rq_z (floorV x);have zf:Sz 85 (floorV x:Rat):=(fl_sz (n:=11) okx ⟨zx.p.up om,zx.r.up om⟩).up om;obtain ⟨b3,m3,k3,r3⟩:=Rq.some_ ((floorV x:Rat)+1);have HF:=fun (w V:World) (_:Below w.heap.size w V)=>ffloor_f hx okx ⟨zx.p.up om,zx.r.up om⟩ e4 V
   have HA:=fun (w V:World) (_:Below w.heap.size w V)=>radd_z r4 qo r3 (zf.up om) (z1.up om) V
   have HI1:=fun (w V:World) (_:Below w.heap.size w V)=>inside_f okx oky zx zy ((zf.add z1).up om) hx hy r3 V
   have hF0:=floor_nn okx h0;obtain ⟨g1,g2⟩:=floorV_spec okx;by_cases hi:inB x y ((floorV x:Rat)+1)=true
   · rw [hi] at HI1;obtain ⟨i1,i2⟩:=inB_yes.1 hi;have eF:=nat_of hF0;have hin:Sg.In x y ((floorV x).toNat+1) 1:=⟨by decide,by rw [by_one,succ_cast,eF];exact i1,by rw [by_one,succ_cast,eF];exact i2⟩;obtain ⟨rfl,rfl⟩:=first_one okx hs (by rw [eF];exact g1) hin;refine ⟨b3,m3,k3,true,fun _=>?_,fun w=>fbt_pos w om (HZ w) (HI0 w) (HS w) (HF w) (HO w) (HA w) (HI1 w)⟩;rw [e,by_one,succ_cast,eF];exact r3
   · rw [Bool.not_eq_true] at hi;rw [hi] at HI1;by_cases hex:∃ d:Nat,2≤d∧d≤200∧inB x y (((floorV (x.scl (d:Rat)):Rat)+1) / (d:Rat))=true
     · obtain ⟨d0,hd0⟩:=hex;obtain ⟨D,⟨D2,D200,hDi⟩,hDm⟩:=least_ex (fun d=>2≤d∧d≤200∧inB x y (((floorV (x.scl (d:Rat)):Rat)+1) / (d:Rat))=true) d0 hd0
       have hno:∀ d:Nat,2≤d→d<D→inB x y (((floorV (x.scl (d:Rat)):Rat)+1) / (d:Rat))=false:=fun d a b=>by
        rw [←Bool.not_eq_true];intro e;exact hDm d b ⟨a,om,e⟩
       obtain ⟨u0,u1,u2,u3,u4,u5,u6,v0,v1,v2,v3,v4,v5,v6,v7,v8,v9,r6,HR⟩:=round_f okx oky zx zy hx hy (d:=D) om D200;rw [hDi] at HR
       -- the whole parts
       have hk:∀ d:Nat,0<d→Sg.cmpX (Sg.Rl.of ((((if d=1 then (floorV x).toNat else (floorV (x.scl (d:Rat))).toNat):Nat):Rat) / (d:Rat))) x≤0∧Sg.cmpX x (Sg.Rl.of ((((if d=1 then (floorV x).toNat else (floorV (x.scl (d:Rat))).toNat)+1:Nat):Rat) / (d:Rat)))=-1:=fun d hd=>by
        by_cases e1:d=1
        · subst e1;rw [if_pos rfl,by_one,by_one,succ_cast,nat_of hF0];exact ⟨g1,g2⟩
        · rw [if_neg e1,succ_cast,nat_of (floor_nn (scl_ok okx (d:Rat)) (scl_nn okx hd h0))];exact floor_scl okx hd
       have hDn:D≠1:=om
       have hin:∀ d:Nat,0<d→(Sg.In x y ((if d=1 then (floorV x).toNat else (floorV (x.scl (d:Rat))).toNat)+1) d↔inB x y (if d=1 then (floorV x:Rat)+1 else ((floorV (x.scl (d:Rat)):Rat)+1) / (d:Rat))=true):=fun d hd=>by
        by_cases e1:d=1
        · subst e1;rw [if_pos rfl,if_pos rfl];constructor
          · rintro ⟨_,a,b⟩;rw [by_one,succ_cast,nat_of hF0] at a b;exact inB_yes.2 ⟨a,b⟩
          · intro a;obtain ⟨a,b⟩:=inB_yes.1 a;exact ⟨by decide,by rw [by_one,succ_cast,nat_of hF0];exact a,by rw [by_one,succ_cast,nat_of hF0];exact b⟩
        · have en:=nat_of (floor_nn (scl_ok okx (d:Rat)) (scl_nn okx hd h0));rw [if_neg e1,if_neg e1];constructor
          · rintro ⟨_,a,b⟩;rw [succ_cast,en] at a b;exact inB_yes.2 ⟨a,b⟩
          · intro a;obtain ⟨a,b⟩:=inB_yes.1 a;exact ⟨hd,by rw [succ_cast,en];exact a,by rw [succ_cast,en];exact b⟩
       obtain ⟨em,en⟩:=first_den okx oky hk hs (D:=D) (fun d a b k=>by
        have k2:=(hin d a).1 k;by_cases e1:d=1
        · rw [if_pos e1,hi] at k2;cases k2
        · rw [if_neg e1,hno d om b] at k2;cases k2) ((hin D om).2 (by rw [if_neg hDn];exact hDi))
       rw [if_neg hDn] at en;refine ⟨u6,v8,v9,true,fun _=>?_,fun w=>?_⟩
       · rw [e,em,en,succ_cast,nat_of (floor_nn (scl_ok okx (D:Rat)) (scl_nn okx om h0))];exact r6
       · obtain ⟨a1,a2,a3,a4,a5,a6⟩:=HR w;refine fbt_pos_at w om D2 D200 (Lib.hid fun d p1 p2=>?_) (HZ w) (HI0 w) (HS w) (HF w) (HO w) (HA w) (HI1 w) a1 a2 a3 a4 a5 a6;exact k73
     · refine ⟨false,⟨#[]⟩,⟨#[]⟩,false,(fun h=>by cases h),fun w=>fbt_pos_none w om (D:=201) rfl (Lib.hid fun d p1 p2=>?_) (HZ w) (HI0 w) (HS w) (HF w) (HO w) (HA w) (HI1 w)⟩;obtain ⟨u0,u1,u2,u3,u4,u5,u6,v0,v1,v2,v3,v4,v5,v6,v7,v8,v9,-,HR⟩:=round_f okx oky zx zy hx hy (d:=d) om om
       have hno:inB x y (((floorV (x.scl (d:Rat)):Rat)+1) / (d:Rat))=false:=by
        rw [←Bool.not_eq_true];intro e;exact hex ⟨d,p1,om,e⟩
       rw [hno] at HR;exact ⟨_,_,_,_,_,_,_,_,_,_,_,_,_,_,_,_,_,HR w⟩
 | neg h0 n m hs e =>
   have hx0:Sg.cmpX x (Sg.Rl.of 0)=-1:=Sg.lt_le okx oky (Sg.of_ok 0) h h0
   have e0:inB x y 0=false:=by
    rw [←Bool.not_eq_true];intro e;have:=(inB_yes.1 e).2;omega
   rw [e0] at HI0;have oX:=Sg.neg_ok oky;have hX0:=neg_zero_le oky h0;have hF0:=floor_nn oX hX0;obtain ⟨g1,g2⟩:=floorV_spec oX;obtain ⟨b4,m4,e4,r4⟩:=rq_z (-floorV y.neg);rw [Rat.intCast_neg] at r4;have zf:Sz 85 (floorV y.neg:Rat):=(fl_sz (n:=11) oX ⟨(neg_rz zy).p.up om,(neg_rz zy).r.up om⟩).up om;obtain ⟨b3,m3,k3,r3⟩:=Rq.some_ (-(floorV y.neg:Rat)-1);have HF:=fun (w V:World) (_:Below w.heap.size w V)=>fceil_f hy oky ⟨zy.p.up om,zy.r.up om⟩ e4 V
   have HA:=fun (w V:World) (_:Below w.heap.size w V)=>rsub_z r4 qo r3 (zf.minus.up om) (z1.up om) V
   have HI1:=fun (w V:World) (_:Below w.heap.size w V)=>inside_f okx oky zx zy ((zf.minus.sub z1).up om) hx hy r3 V
   have eF:=nat_of hF0
   have flip:Sg.In y.neg x.neg ((floorV y.neg).toNat+1) 1↔inB x y (-(floorV y.neg:Rat)-1)=true:=by
    have e1:-((((floorV y.neg).toNat+1:Nat):Rat) / ((1:Nat):Rat))=-(floorV y.neg:Rat)-1:=by rw [by_one,succ_cast,eF];grind
    rw [Sg.in_neg okx oky,e1,inB_yes];exact ⟨fun a=>a.2,fun a=>⟨by decide,a⟩⟩
   by_cases hi:inB x y (-(floorV y.neg:Rat)-1)=true
   · rw [hi] at HI1;obtain ⟨rfl,rfl⟩:=first_one oX hs (by rw [eF];exact g1) (flip.2 hi);refine ⟨b3,m3,k3,true,fun _=>?_,fun w=>fbt_neg w om (HZ w) (HI0 w) (HS w) (HF w) (HO w) (HA w) (HI1 w)⟩;rw [e,by_one,succ_cast,eF,show -((floorV y.neg:Rat)+1)=-(floorV y.neg:Rat)-1 by grind];exact r3
   · have hno1:¬Sg.In y.neg x.neg ((floorV y.neg).toNat+1) 1:=fun k=>hi (flip.1 k)
     rw [Bool.not_eq_true] at hi;rw [hi] at HI1;by_cases hex:∃ d:Nat,2≤d∧d≤200∧inB x y (((floorV (x.scl (d:Rat)):Rat)+1) / (d:Rat))=true
     · obtain ⟨d0,hd0⟩:=hex;obtain ⟨D,⟨D2,D200,hDi⟩,hDm⟩:=least_ex (fun d=>2≤d∧d≤200∧inB x y (((floorV (x.scl (d:Rat)):Rat)+1) / (d:Rat))=true) d0 hd0
       have hno:∀ d:Nat,2≤d→d<D→inB x y (((floorV (x.scl (d:Rat)):Rat)+1) / (d:Rat))=false:=fun d a b=>by
        rw [←Bool.not_eq_true];intro e;exact hDm d b ⟨a,om,e⟩
       obtain ⟨u0,u1,u2,u3,u4,u5,u6,v0,v1,v2,v3,v4,v5,v6,v7,v8,v9,r6,HR⟩:=round_f okx oky zx zy hx hy (d:=D) om D200;rw [hDi] at HR
       have hq:=first_neg okx oky (k:=(floorV y.neg).toNat) (by rw [by_one,eF];exact g1) (by rw [by_one,succ_cast,eF];exact g2) hno1 (J:=fun d=>floorV (x.scl (d:Rat))) (fun d hd=>floor_scl okx hd) h0 hs D2
        (fun d a b k=>by
         have k2:=hno d a b;rw [←Bool.not_eq_true] at k2;exact k2 (inB_yes.2 ⟨(floor_scl okx (show 0<d by omega)).2,k⟩)) (inB_yes.1 hDi).2
       refine ⟨u6,v8,v9,true,fun _=>?_,fun w=>?_⟩
       · rw [e,←hq];exact r6
       · obtain ⟨a1,a2,a3,a4,a5,a6⟩:=HR w;refine fbt_neg_at w om D2 D200 (Lib.hid fun d p1 p2=>?_) (HZ w) (HI0 w) (HS w) (HF w) (HO w) (HA w) (HI1 w) a1 a2 a3 a4 a5 a6;exact k73
     · refine ⟨false,⟨#[]⟩,⟨#[]⟩,false,(fun h=>by cases h),fun w=>fbt_neg_none w om (D:=201) rfl (Lib.hid fun d p1 p2=>?_) (HZ w) (HI0 w) (HS w) (HF w) (HO w) (HA w) (HI1 w)⟩;obtain ⟨u0,u1,u2,u3,u4,u5,u6,v0,v1,v2,v3,v4,v5,v6,v7,v8,v9,-,HR⟩:=round_f okx oky zx zy hx hy (d:=d) om om
       have hno:inB x y (((floorV (x.scl (d:Rat)):Rat)+1) / (d:Rat))=false:=by
        rw [←Bool.not_eq_true];intro e;exact hex ⟨d,p1,om,e⟩
       rw [hno] at HR;exact ⟨_,_,_,_,_,_,_,_,_,_,_,_,_,_,_,_,_,HR w⟩
theorem between_all (b1:Bool) (m1:ByteArray) (d1:Bool) (k1:ByteArray) (c1:Bool) (n1:ByteArray) (e1:Bool) (l1:ByteArray) (s1:Bool) (tm1:m1.size≤140737488351232) (tk1:k1.size≤140737488351232) (tn1:n1.size≤140737488351232) (tl1:l1.size≤140737488351232) (b2:Bool) (m2:ByteArray) (d2:Bool) (k2:ByteArray) (c2:Bool) (n2:ByteArray) (e2:Bool) (l2:ByteArray) (s2:Bool) (tm2:m2.size≤140737488351232) (tk2:k2.size≤140737488351232) (tn2:n2.size≤140737488351232) (tl2:l2.size≤140737488351232) (w:World) (hE:Env w) :
  Calls Tryz.prog 11 #[.agg #[.bool b1,.string m1,.bool d1,.string k1,.bool c1,.string n1,.bool e1,.string l1,.bool s1],.agg #[.bool b2,.string m2,.bool d2,.string k2,.bool c2,.string n2,.bool e2,.string l2,.bool s2]] w (RetB w (.bool true)):=by
 obtain ⟨o1,H1,P1⟩:=small_or b1 d1 c1 e1 s1 m1 k1 n1 l1 tm1 tk1 tn1 tl1;obtain ⟨o2,H2,P2⟩:=small_or b2 d2 c2 e2 s2 m2 k2 n2 l2 tm2 tk2 tn2 tl2;have HK:=fun V (hb:Below w.heap.size w V)=>rknown3 V (hE.next hb)
 cases o1
 · exact lbt_no1 w HK (fun V _=>H1 V)
 cases o2
 · exact lbt_no2 w HK (fun V _=>H1 V) (fun V _=>H2 V)
 obtain ⟨rfl,rfl,x,okx,hx,zx⟩:=P1 rfl;obtain ⟨rfl,rfl,y,oky,hy,zy⟩:=P2 rfl;have zx5:Rz 500 x:=⟨zx.p.up om,zx.r.up om⟩;have zy5:Rz 500 y:=⟨zy.p.up om,zy.r.up om⟩;have HC:=fun V (_:Below w.heap.size w V)=>fcmp_f hx hy okx oky zx5 zy5 V
 rcases Sg.cmp_three okx oky with h | h | h
 rotate_left
 · rw [h] at HC;have C3:=fun (w:World) (hE:Env w) V (hV:Below w.heap.size w V)=>cmp_f hx hy okx oky zx5 zy5 V (hE.next hV)
   rw [h] at C3;exact lbt_ge w (c:=0) dc HK (fun V _=>H1 V) (fun V _=>H2 V) HC (fun V hb=>btw_order V (c:=0) dc (fun U hU=>rchk_ok hx okx ⟨zx.p.up om,zx.r.up om⟩ U ((hE.next hb).next hU)) (fun U hU=>rchk_ok hy oky ⟨zy.p.up om,zy.r.up om⟩ U ((hE.next hb).next hU)) (C3 V (hE.next hb))) (fun V _=>zero_any V)
 · rw [h] at HC;have C3:=fun (w:World) (hE:Env w) V (hV:Below w.heap.size w V)=>cmp_f hx hy okx oky zx5 zy5 V (hE.next hV)
   rw [h] at C3;exact lbt_ge w (c:=1) dc HK (fun V _=>H1 V) (fun V _=>H2 V) HC (fun V hb=>btw_order V (c:=1) dc (fun U hU=>rchk_ok hx okx ⟨zx.p.up om,zx.r.up om⟩ U ((hE.next hb).next hU)) (fun U hU=>rchk_ok hy oky ⟨zy.p.up om,zy.r.up om⟩ U ((hE.next hb).next hU)) (C3 V (hE.next hb))) (fun V _=>zero_any V)
 rw [h] at HC;obtain ⟨K,hK⟩:∃ K,K=500:=⟨_,rfl⟩
 obtain ⟨q,hb,zq⟩:=btw_ex okx oky zx zy h (K:=K) om;obtain ⟨b3,m3,k3,hq⟩:=Rq.some_ q;obtain ⟨i1,i2⟩:=hb.inside okx oky;have yq:=zq.m hq om;have zv:Rz 500 (Sg.Rl.of q):=⟨zq.up om,Sz.zero 499⟩;have HB:=fun V (hV:Below w.heap.size w V)=>pbtw_f okx oky zx zy h hb hx hy hq V (hE.next hV)
 have HK2:=fun V (_:Below w.heap.size w V)=>rCheck_yes hq om (hq.dsize (n:=100000) om) V
 have hv:Rv (Sg.Rl.of q) b3 m3 k3 false ⟨#[]⟩ ⟨#[]⟩ false:=⟨hq,Rq.zero,rfl⟩;have HI:=fun V (_:Below w.heap.size w V)=>inside_yes V (fun U _=>of_any b3 m3 k3 U) (fun U _=>by have:=fcmp_f hx hv okx (Sg.of_ok q) zx5 zv U;rwa [i1] at this) (fun U _=>by have:=fcmp_f hv hy (Sg.of_ok q) oky zv zy5 U;rwa [i2] at this)
 obtain ⟨b4,m4,k4,r4⟩:=Rq.some_ (Rat.divInt 1 200);have z4:Sz 1 (Rat.divInt 1 200):=⟨by decide +kernel,by decide +kernel⟩;obtain ⟨b5,m5,k5,c5,n5,l5,s5,v5⟩:=Rv.some_ (x.add (Rat.divInt 1 200));have HO:=fun V (_:Below w.heap.size w V)=>rOf_f r4 dc dc dc dc dc V
 have HH:=fun V (_:Below w.heap.size w V)=>fshift_f hx okx r4 v5 zx5 (z4.up om) V
 have o5:=Sg.add_ok okx (Rat.divInt 1 200);have z5:Rz 500 (x.add (Rat.divInt 1 200)):=⟨(zx.p.add z4).up om,zx.r.up om⟩;have HD:=fun V (_:Below w.heap.size w V)=>fcmp_f v5 hy o5 oky z5 zy5 V
 by_cases hd:0<Sg.cmpX (x.add (Rat.divInt 1 200)) y
 · exact lbt_near w (c:=-1) dc hd HK (fun V _=>H1 V) (fun V _=>H2 V) HC HB HK2 HI HO HH HD
 · obtain ⟨b6,m6,k6,o,ho,HG⟩:=fbt_f okx oky zx zy h hb hx hy;cases o
   · exact lbt_none w (c:=-1) dc hd HK (fun V _=>H1 V) (fun V _=>H2 V) HC HB HK2 HI HO HH HD (fun V _=>HG V)
   · obtain ⟨rfl,rfl,rfl⟩:=hq.inj (ho rfl);exact lbt_same w (c:=-1) dc hd HK (fun V _=>H1 V) (fun V _=>H2 V) HC HB HK2 HI HO HH HD (fun V _=>HG V)
end Go.Proofs.YtpnokfgplnmjpaaGreatDoor
