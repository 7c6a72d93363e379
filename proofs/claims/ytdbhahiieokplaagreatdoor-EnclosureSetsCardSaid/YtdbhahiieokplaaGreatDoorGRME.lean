import Derived.Test.YtdbhahiieokplaaGreatDoorGRLN
import Derived.Test.YtdbhahiieokplaaGreatDoorGRLF
import Derived.Test.YtdbhahiieokplaaGreatDoorGENE
import Derived.Test.YtdbhahiieokplaaGreatDoorGRNA
import Derived.Test.YtdbhahiieokplaaGreatDoorGRefI
import Derived.Test.YtdbhahiieokplaaGreatDoorGRMR
set_option linter.unusedSimpArgs false
set_option linter.unusedVariables false

namespace Go.Proofs.YtdbhahiieokplaaGreatDoor
open Go.RowKit
attribute [local go_sem ↓] Go.wp_at_zero Go.wp_at_succ

end Go.Proofs.YtdbhahiieokplaaGreatDoor


namespace Go.Proofs.YtdbhahiieokplaaGreatDoor
open Go.RowKit
attribute [local go_sem ↓] Go.wp_at_zero Go.wp_at_succ

noncomputable def Sg.Rl.scl (x:Sg.Rl) (r:Rat):Sg.Rl:=Sg.mkR (x.p*r) (r*(x.s:Rat)) x.a
def Sg.Rl.nm (x:Sg.Rl):Rat:=x.p*x.p-x.a
noncomputable def Sg.Rl.iv (x:Sg.Rl):Sg.Rl:=Sg.mkR (x.p / x.nm) (((-x.s:Int):Rat) / x.nm) x.a
theorem rscl_f {x:Sg.Rl} {r:Rat} {b1 c1 s1:Bool} {m1 k1 n1 l1:ByteArray} {b2:Bool} {m2 k2:ByteArray} {b6 c6 s6:Bool} {m6 k6 n6 l6:ByteArray} (hx:Rv x b1 m1 k1 c1 n1 l1 s1) (ok:x.Ok) (hr:Rq r b2 m2 k2) (h6:Rv (x.scl r) b6 m6 k6 c6 n6 l6 s6) (zx:Rz 2000 x) (zr:Sz 2000 r) (w:World) (hE:Env w):Calls Tryz.prog 120 #[.agg #[.bool b1,.string m1,.bool false,.string k1,.bool c1,.string n1,.bool false,.string l1,.bool s1],.agg #[.bool b2,.string m2,.bool false,.string k2]] w (RetB w (.agg #[.bool b6,.string m6,.bool false,.string k6,.bool c6,.string n6,.bool false,.string l6,.bool s6])):=by
 unfold Sg.Rl.scl at h6
 by_cases ha:x.a=0
 · obtain ⟨rfl,rfl,rfl⟩:=hx.r.nought.1 ha
   rw [ha,Sg.mkR_zero] at h6
   obtain ⟨rfl,rfl,rfl⟩:=h6.r.nought.1 rfl
   obtain rfl:s6=false:=h6.neg
   exact rscale_rat hx.p hr h6.p (zx.p.up (by omega)) (zr.up (by omega)) w hE
 · by_cases h0:r=0
   · subst h0
     obtain ⟨rfl,rfl,rfl⟩:=hr.nought.1 rfl
     have e:Sg.mkR (x.p*0) (0*(x.s:Rat)) x.a=Sg.Rl.of 0:=by
      unfold Sg.mkR Sg.Rl.of
      have h2:¬Sg.Sq x.a:=by
       rcases Sg.ok_cases ok with ⟨h,_⟩ | ⟨_,h⟩
       · exact absurd h ha
       · exact h
      rw [if_neg h2,if_pos (by grind),show x.p*0=0 by grind]
     rw [e] at h6
     obtain ⟨rfl,rfl,rfl⟩:=h6.r.nought.1 rfl
     obtain ⟨rfl,rfl,rfl⟩:=h6.p.nought.1 rfl
     obtain rfl:s6=false:=h6.neg
     exact rscale_0 hx ha w
   · rw [Sg.scale_mk ok h0] at h6
     unfold Sg.Rl.scale at h6
     rw [if_neg ha] at h6
     have hs:s6=(s1 != decide (Sg.sgq r<0)):=by
      rw [h6.neg,hx.neg]
      show decide ((if r<0 then -x.s else x.s)<0)=_
      by_cases hr0:r<0
      · rw [if_pos hr0,Sg.sgq_neg hr0]
        rcases ok.sg with e | e<;>rw [e]<;>decide
      · rw [if_neg hr0,Sg.sgq_pos (by grind)]
        rcases ok.sg with e | e<;>rw [e]<;>decide
     subst hs
     exact rscale_irr hx ha hr h0 h6.p h6.r ⟨zx.p.up (by omega),zx.r.up (by omega)⟩ zr w hE
end Go.Proofs.YtdbhahiieokplaaGreatDoor


namespace Go.Proofs.YtdbhahiieokplaaGreatDoor
open Go.RowKit
attribute [local go_sem ↓] Go.wp_at_zero Go.wp_at_succ

theorem ediv_abs {x d:Int} (hd:0<d):(x / d).natAbs≤x.natAbs:=by
 rcases Int.le_total 0 x with h | h
 · have h1:=Int.ediv_nonneg h (Int.le_of_lt hd)
   have h2:=Int.ediv_le_self d h
   omega
 · have h1 : x ≤ x / d := (Int.le_ediv_iff_mul_le hd).2 (by
    have:x*d≤x*1:=Int.mul_le_mul_of_nonpos_left h (by omega)
    omega)
   have h2:x / d≤0:=by
    have:=Int.ediv_le_ediv hd h
    simpa using this
   omega
theorem Zs.up {n m:Nat} {z:Int} (h:Zs n z) (hm:n≤m):Zs m z:=Nat.lt_of_lt_of_le h (Nat.pow_le_pow_right (by decide) hm)
theorem Zs.div {n:Nat} {x d:Int} (h:Zs n x) (hd:0<d):Zs n (x / d):=Nat.lt_of_le_of_lt (ediv_abs hd) h
theorem Zs.one (n:Nat):Zs (n+1) 1:=by
 show 1<256^(n+1)
 rw [Nat.pow_succ]
 have:=Nat.pow_pos (a:=256) (n:=n) (by decide)
 omega
theorem Zs.sz' {n:Nat} {z:Int} (h:Zs (n+1) z):Sz (n+1) (z:Rat):=⟨by rw [Rat.num_intCast];exact h,by rw [Rat.den_intCast];exact Zs.one n⟩
theorem rq_z (z:Int):∃ b m,enc z=.agg #[.bool b,.string m]∧Rq (z:Rat) b m ⟨#[]⟩:=by
 obtain ⟨b,m,k,h⟩:=Rq.some_ (z:Rat)
 obtain rfl:=h.den1 (Rat.den_intCast z)
 have h1:=h.num
 rw [Rat.num_intCast] at h1
 exact ⟨b,m,h1,h⟩
theorem den_pos (q:Rat):(0:Rat)<(q.den:Int):=by
 have h:(0:Int)<(q.den:Int):=by have:=q.den_pos;omega
 exact Rat.intCast_pos.2 h
end Go.Proofs.YtdbhahiieokplaaGreatDoor


namespace Go.Proofs.YtdbhahiieokplaaGreatDoor
open Go.RowKit
attribute [local go_sem ↓] Go.wp_at_zero Go.wp_at_succ

set_option maxHeartbeats 8000000 in
set_option maxRecDepth 100000 in
theorem ceil_w (w:World) {b1 c1 s1:Bool} {m1 k1 n1 l1:ByteArray} {b2 c2 s2:Bool} {m2 k2 n2 l2:ByteArray} {b3:Bool} {m3:ByteArray} {b4:Bool} {m4:ByteArray} (HN:∀ V,Below w.heap.size w V→Calls Tryz.prog 155 #[.agg #[.bool b1,.string m1,.bool false,.string k1,.bool c1,.string n1,.bool false,.string l1,.bool s1]] V (RetB V (.agg #[.bool b2,.string m2,.bool false,.string k2,.bool c2,.string n2,.bool false,.string l2,.bool s2]))) (HF:∀ V,Below w.heap.size w V→Calls Tryz.prog 122 #[.agg #[.bool b2,.string m2,.bool false,.string k2,.bool c2,.string n2,.bool false,.string l2,.bool s2]] V (RetB V (.agg #[.bool b3,.string m3]))) (HG:∀ V,Below w.heap.size w V→Calls Tryz.prog 131 #[.agg #[.bool b3,.string m3]] V (RetB V (.agg #[.bool b4,.string m4]))) :
  Calls Tryz.prog 123 #[.agg #[.bool b1,.string m1,.bool false,.string k1,.bool c1,.string n1,.bool false,.string l1,.bool s1]] w (RetB w (.agg #[.bool b4,.string m4])):=by
 have C1:=Lib.hid HN
 have C2:=Lib.hid HF
 have C3:=Lib.hid HG
 have RS:=Lib.hid Tryz.results123
 clear HN HF HG 
 go_enter Tryz.func123,Tryz.ntmps123
 exact wk0

theorem floorV_size {x:Sg.Rl} (ok:x.Ok) {n:Nat} (zx:Rz (n+1) x):Zs (5*n+20) (floorV x):=by
 unfold floorV
 split
 · exact (zx.p.n.div (by have:=x.p.den_pos;omega)).up (by omega)
 · refine Zs.div ?_ (Int.mul_pos (by have:=x.p.den_pos;omega) (by have:=x.a.den_pos;omega))
   have zN:Zs (4*(n+1)) (fN x):=(((zx.p.d.mul zx.r.d).mul zx.p.d).mul zx.r.n).up (by omega)
   have zr:Zs (4*(n+1)) ((rt (fN x).natAbs:Nat):Int):=zN.root
   have zm:=zx.p.n.mul zx.r.d
   have zr2:Zs (4*(n+1)+1) (if x.s<0 then -1-((rt (fN x).natAbs:Nat):Int) else ((rt (fN x).natAbs:Nat):Int)):=by
    split
    · exact zr.below
    · exact zr.up (by omega)
   exact ((zm.up (show _≤4*(n+1)+1 by omega)).plus zr2).up (by omega)
end Go.Proofs.YtdbhahiieokplaaGreatDoor


namespace Go.Proofs.YtdbhahiieokplaaGreatDoor
open Go.RowKit
attribute [local go_sem ↓] Go.wp_at_zero Go.wp_at_succ

theorem mkR_ok {p q r:Rat} (h:0≤r):(Sg.mkR p q r).Ok:=by
 unfold Sg.mkR
 by_cases hs:Sg.Sq r
 · rw [if_pos hs];exact Sg.of_ok _
 · rw [if_neg hs]
   by_cases hq:q=0
   · rw [if_pos hq];exact Sg.of_ok _
   · rw [if_neg hq]
     refine ⟨?_,.inr ⟨?_,Sg.nsq_sq.2 (Sg.nsq_by hq hs)⟩⟩
     · show (if q<0 then (-1:Int) else 1)=1∨(if q<0 then (-1:Int) else 1)=-1
       split
       · exact .inr rfl
       · exact .inl rfl
     · show 0<q*q*r
       have h1:r≠0:=fun e=>hs ⟨0,by grind,by grind⟩
       exact Rat.mul_pos (Sg.sq_pos' hq) (by grind)
end Go.Proofs.YtdbhahiieokplaaGreatDoor


namespace Go.Proofs.YtdbhahiieokplaaGreatDoor
open Go.RowKit
attribute [local go_sem ↓] Go.wp_at_zero Go.wp_at_succ

theorem rceil_f {x:Sg.Rl} {b1 c1 s1:Bool} {m1 k1 n1 l1:ByteArray} {b4:Bool} {m4:ByteArray} (hx:Rv x b1 m1 k1 c1 n1 l1 s1) (ok:x.Ok) (zx:Rz 50 x) (h4:enc (-floorV x.neg)=.agg #[.bool b4,.string m4]) (w:World) (hE:Env w):Calls Tryz.prog 123 #[.agg #[.bool b1,.string m1,.bool false,.string k1,.bool c1,.string n1,.bool false,.string l1,.bool s1]] w (RetB w (.agg #[.bool b4,.string m4])):=by
 obtain ⟨b2,m2,k2,c2,n2,l2,s2,h2⟩:=Rv.some_ x.neg
 obtain ⟨b3,m3,h3⟩:=enc_form (floorV x.neg)
 have zn:Rz 50 x.neg:=⟨zx.p.minus,zx.r⟩
 exact ceil_w w (fun V _=>rneg_f hx ok h2 V) (fun V hb=>rfloor_f h2 (Sg.neg_ok ok) h3 ⟨zn.p.up (by omega),zn.r.up (by omega)⟩ V (hE.next hb)) (fun V _=>negate_f h3 h4 V)
end Go.Proofs.YtdbhahiieokplaaGreatDoor
