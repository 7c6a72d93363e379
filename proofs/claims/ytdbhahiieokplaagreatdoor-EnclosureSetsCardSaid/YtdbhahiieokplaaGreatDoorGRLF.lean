import Derived.Test.YtdbhahiieokplaaGreatDoorGRMR
import Derived.Test.YtdbhahiieokplaaGreatDoorGENQ
import Derived.Test.YtdbhahiieokplaaGreatDoorGSgQ
import Derived.Test.YtdbhahiieokplaaGreatDoorGRLFb
import Derived.Test.YtdbhahiieokplaaGreatDoorGRLFd
set_option linter.unusedSimpArgs false
set_option linter.unusedVariables false
namespace Go.Proofs.YtdbhahiieokplaaGreatDoor
open Go.RowKit
attribute [local go_sem ↓] Go.wp_at_zero Go.wp_at_succ

theorem root_yes_z {q:Rat} {b:Bool} {m k:ByteArray} (h:Rq q b m k) (zq:Sz 9000 q) (hs:Sg.Sq q) {b2:Bool} {m2 k2:ByteArray} (hr:Rq (Sg.rt q) b2 m2 k2) :
  (∀ V,Env V→Calls Tryz.prog 186 #[.agg #[.bool b,.string m,.bool false,.string k]] V (RetB V (.tuple #[.agg #[.bool b2,.string m2,.bool false,.string k2],.bool true]))) ∧
   (∀ V,Calls Tryz.prog 72 #[.agg #[.bool b,.string m,.bool false,.string k]] V (RetB V (.tuple #[.agg #[.bool b2,.string m2,.bool false,.string k2],.bool true]))):=by
 obtain ⟨z,hz,e⟩:=hs
 rw [Sg.rt_eq hz e] at hr
 obtain ⟨s1,s2⟩:=sq_parts z
 rw [e] at s1 s2
 have hn:¬z.num<0:=by rw [num_neg_iff];grind
 obtain ⟨e1,e2⟩:=hr.mag
 rw [decide_eq_false hn] at e1
 have e3:=hr.den
 subst e1 e2 e3
 have hm:=h.mag
 have hb:b=false:=by rw [hm.1,s1];exact decide_eq_false (by omega)
 subst hb
 have t1:=zq.1
 have t2:=zq.2
 have n1:q.num.natAbs=z.num.natAbs*z.num.natAbs:=by rw [s1,Int.natAbs_natCast]
 refine ⟨fun V hV=>ratRoot_yes h s1 s2 (by rw [←n1];exact Nat.le_trans (mag_size_le t1) (by omega)) (by rw [←s2];exact Nat.le_trans (mag_size_le t2) (by omega)) V hV,fun V=>?_⟩
 have r1:rt q.num.natAbs=z.num.natAbs:=by rw [n1,rt_square]
 have r2:rt q.den=z.den:=by rw [s2,rt_square]
 have g:=rRoot_yes (mR:=mag z.num.natAbs) (kR:=dm z.den) h (by rw [r1,n1]) (by rw [r2,s2]) (by rw [r1,r2];exact rq_nat z.den_pos z.reduced) (by rw [hm.2];exact Nat.le_trans (mag_size_le t1) (by omega)) (Nat.le_trans (mag_size_le t2) (by omega)) V
 exact g

theorem root_no_z {q:Rat} {b:Bool} {m k:ByteArray} (h:Rq q b m k) (zq:Sz 9000 q) (hs:¬Sg.Sq q) :
  (∀ V,Env V→Calls Tryz.prog 186 #[.agg #[.bool b,.string m,.bool false,.string k]] V (RetB V (.tuple #[.agg #[.bool false,.string ⟨#[]⟩,.bool false,.string ⟨#[]⟩],.bool false]))) ∧
   (∀ V,Calls Tryz.prog 72 #[.agg #[.bool b,.string m,.bool false,.string k]] V (RetB V (.tuple #[.agg #[.bool false,.string ⟨#[]⟩,.bool false,.string ⟨#[]⟩],.bool false]))):=by
 have t1:m.size≤9000:=(by rw [h.mag.2];exact Nat.le_trans (mag_size_le zq.1) (by omega))
 have t2:(mag q.den).size≤9000:=Nat.le_trans (mag_size_le zq.2) (by omega)
 cases b
 · have hn:¬q.num<0:=of_decide_eq_false h.mag.1.symm
   have hm:=h.mag.2
   by_cases h1:rt q.num.natAbs*rt q.num.natAbs=q.num.natAbs
   · by_cases h2:rt q.den*rt q.den=q.den
     · exfalso
       refine hs ⟨mkRat (rt q.num.natAbs) (rt q.den),?_,?_⟩
       · rw [←Rat.num_nonneg,(mkRat_parts _ (Nat.pos_iff_ne_zero.1 (rt_pos q.den_pos))).1]
         exact Int.ediv_nonneg (by omega) (by omega)
       · obtain ⟨p1,p2⟩:=mkRat_parts ((rt q.num.natAbs:Nat):Int) (Nat.pos_iff_ne_zero.1 (rt_pos q.den_pos))
         have hc:=root_cop h1 h2 q.reduced
         rw [Int.natAbs_natCast,hc] at p1 p2
         rw [Int.natCast_one,Int.ediv_one] at p1
         rw [Nat.div_one] at p2
         obtain ⟨s1,s2⟩:=sq_parts (mkRat ((rt q.num.natAbs:Nat):Int) (rt q.den))
         rw [p1,Int.natAbs_natCast,h1] at s1
         rw [p2,h2] at s2
         refine Rat.ext ?_ s2
         rw [s1]
         omega
     · exact ⟨fun V hV=>ratRoot_no2 h h1.symm h2 (by rw [h1,←hm];omega) (by omega) V hV,fun V=>rRoot_no2 h h1 h2 t1 t2 V⟩
   · exact ⟨fun V _=>ratRoot_no1 h (.inr h1) (by omega) V,fun V=>rRoot_no1 h h1 t1 t2 V⟩
 · have hn:q.num<0:=of_decide_eq_true h.mag.1.symm
   exact ⟨fun V _=>ratRoot_no1 h (.inl hn) (by omega) V,fun V=>rRoot_neg h t1 t2 V⟩

theorem Sz.root {n:Nat} {q:Rat} (h:Sz (n+1) q):Sz (n+1) (Sg.rt q):=by
 by_cases hs:Sg.Sq q
 · obtain ⟨z,hz,e⟩:=hs
   rw [Sg.rt_eq hz e]
   obtain ⟨s1,s2⟩:=sq_parts z
   rw [e] at s1 s2
   have t1:=h.1
   have t2:=h.2
   rw [s1,Int.natAbs_natCast] at t1
   rw [s2] at t2
   exact ⟨Nat.lt_of_le_of_lt (Nat.le_mul_self _) t1,Nat.lt_of_le_of_lt (Nat.le_mul_self _) t2⟩
 · unfold Sg.rt
   rw [dif_neg hs]
   exact Sz.zero n
end Go.Proofs.YtdbhahiieokplaaGreatDoor


namespace Go.Proofs.YtdbhahiieokplaaGreatDoor
open Go.RowKit
attribute [local go_sem ↓] Go.wp_at_zero Go.wp_at_succ

theorem ok_pos {x:Sg.Rl} (ok:x.Ok) (h0:¬x.a=0):0<x.a:=by
 rcases Sg.ok_cases ok with ⟨h1,-⟩ | ⟨h1,-⟩
 · exact absurd h1 h0
 · exact h1

end Go.Proofs.YtdbhahiieokplaaGreatDoor


namespace Go.Proofs.YtdbhahiieokplaaGreatDoor
open Go.RowKit
attribute [local go_sem ↓] Go.wp_at_zero Go.wp_at_succ

set_option maxHeartbeats 8000000 in
set_option maxRecDepth 100000 in
theorem sum_no {r:Rat} {b1 b2:Bool} {m1 k1 m2 k2:ByteArray} (hr:Rq r b2 m2 k2) (zr:Sz 9000 r) (hn:¬Sg.Sq r) (s:Int) (w:World) (hE:Env w) :
  Calls Tryz.prog 162 #[.agg #[.bool b1,.string m1,.bool false,.string k1],.int .i64 s,.agg #[.bool b2,.string m2,.bool false,.string k2]] w (RetB w (.agg #[.bool b1,.string m1,.bool false,.string k1,.bool b2,.string m2,.bool false,.string k2,.bool (decide (s<0))])):=by
 have C1:=ke hE ((root_no_z hr zr hn).1)
 have RS:=Lib.hid Tryz.results162
 clear hr zr hn hE
 go_enter Tryz.func162,Tryz.ntmps162
 exact wk0

set_option maxHeartbeats 8000000 in
set_option maxRecDepth 100000 in
theorem sum_yes {p r:Rat} {b1 b2 b4:Bool} {m1 k1 m2 k2 m4 k4:ByteArray} (hp:Rq p b1 m1 k1) (hr:Rq r b2 m2 k2) (zp:Sz 9000 p) (zr:Sz (8999+1) r) (hn:Sg.Sq r) (s:Int) (h4:Rq (if s<0 then p-Sg.rt r else p+Sg.rt r) b4 m4 k4) (w:World) (hE:Env w) :
  Calls Tryz.prog 162 #[.agg #[.bool b1,.string m1,.bool false,.string k1],.int .i64 s,.agg #[.bool b2,.string m2,.bool false,.string k2]] w (RetB w (.agg #[.bool b4,.string m4,.bool false,.string k4,.bool false,.string ⟨#[]⟩,.bool false,.string ⟨#[]⟩,.bool false])):=by
 obtain ⟨b3,m3,k3,h3⟩:=Rq.some_ (Sg.rt r)
 have z3:=zr.root
 have C2:=Lib.hid (fun V (hb:Below w.heap.size w V) (h:s<0)=>sub_z hp h3 (by rw [if_pos h] at h4;exact h4) (zp.up (by omega)) (z3.up (by omega)) V (hE.next hb))
 have C3:=Lib.hid (fun V (hb:Below w.heap.size w V) (h:¬s<0)=>add_z hp h3 (by rw [if_neg h] at h4;exact h4) (zp.up (by omega)) (z3.up (by omega)) V (hE.next hb))
 have C1:=ke hE ((root_yes_z hr zr hn h3).1)
 have C4:=kn w (fromRat_any b4 m4 k4)
 have RS:=Lib.hid Tryz.results162
 clear hp hr zp zr hn h3 h4 z3 hE
 go_enter Tryz.func162,Tryz.ntmps162
 exact wk0

theorem sum_f {p r:Rat} {b1 b2:Bool} {m1 k1 m2 k2:ByteArray} {b3 c3 s3:Bool} {m3 k3 n3 l3:ByteArray} (hp:Rq p b1 m1 k1) (hr:Rq r b2 m2 k2) (zp:Sz 9000 p) (zr:Sz 9000 r) (s:Int) (h3:Rv (Sg.sumP p s r) b3 m3 k3 c3 n3 l3 s3) (w:World) (hE:Env w) :
  Calls Tryz.prog 162 #[.agg #[.bool b1,.string m1,.bool false,.string k1],.int .i64 s,.agg #[.bool b2,.string m2,.bool false,.string k2]] w (RetB w (.agg #[.bool b3,.string m3,.bool false,.string k3,.bool c3,.string n3,.bool false,.string l3,.bool s3])):=by
 unfold Sg.sumP at h3
 by_cases hn:Sg.Sq r
 · rw [if_pos hn] at h3
   have e:(if s<0 then (⟨p-Sg.rt r,0,1⟩:Sg.Rl) else ⟨p+Sg.rt r,0,1⟩)=⟨if s<0 then p-Sg.rt r else p+Sg.rt r,0,1⟩:=by split<;>rfl
   rw [e] at h3
   obtain ⟨rfl,rfl,rfl⟩:=h3.r.nought.1 rfl
   obtain rfl:s3=false:=h3.neg
   exact sum_yes hp hr zp zr hn s h3.p w hE
 · rw [if_neg hn] at h3
   obtain ⟨rfl,rfl,rfl⟩:=h3.p.inj hp
   obtain ⟨rfl,rfl,rfl⟩:=h3.r.inj hr
   obtain rfl:s3=decide (s<0):=by
    rw [h3.neg]
    by_cases h:s<0
    · simp [h]
    · simp [h]
   exact sum_no hr zr hn s w hE

set_option maxHeartbeats 8000000 in
set_option maxRecDepth 100000 in
theorem rmk_f {p q r:Rat} {b1 b2 b3:Bool} {m1 k1 m2 k2 m3 k3:ByteArray} {b6 c6 s6:Bool} {m6 k6 n6 l6:ByteArray} (hp:Rq p b1 m1 k1) (hq:Rq q b2 m2 k2) (hr:Rq r b3 m3 k3) (h0:¬r<0) (zp:Sz 2000 p) (zq:Sz 2000 q) (zr:Sz 2000 r) (h6:Rv (Sg.mkR p q r) b6 m6 k6 c6 n6 l6 s6) (w:World) (hE:Env w) :
  Calls Tryz.prog 135 #[.agg #[.bool b1,.string m1,.bool false,.string k1],.agg #[.bool b2,.string m2,.bool false,.string k2],.agg #[.bool b3,.string m3,.bool false,.string k3]] w (RetB w (.tuple #[.agg #[.bool b6,.string m6,.bool false,.string k6,.bool c6,.string n6,.bool false,.string l6,.bool s6],.int .i64 0])):=by
 obtain ⟨b4,m4,k4,h4⟩:=Rq.some_ (q*q)
 obtain ⟨b5,m5,k5,h5⟩:=Rq.some_ (q*q*r)
 have z4:=zq.mul zq
 have z5:=z4.mul zr
 rw [←Sg.make_same] at h6
 have hr0:¬Sg.sgq r<0:=by rcases Sg.sgq_three r with ⟨e,_⟩ | ⟨_,e⟩ | ⟨_,e⟩<;>first | exact absurd e h0 | (rw [e];decide)
 have hr1:0≤Sg.sgq r:=by omega
 have C5:=Lib.hid (fun V (hb:Below w.heap.size w V)=>sum_f hp h5 (zp.up (by omega)) (z5.up (by omega)) (Sg.sgq q) h6 V (hE.next hb))
 have C1:=kn w (sign_z hr)
 have C3:=ke hE (mul_z hq hq h4 (zq.up (by omega)) (zq.up (by omega)))
 have C4:=ke hE (mul_z h4 hr h5 (z4.up (by omega)) (zr.up (by omega)))
 have C2:=kn w (sign_z hq)
 have U1:Hid (∀ {p:Prop} (h:p:=by ((fail_if_success (go_not_at_region 3));(fail_if_success (have:=hLL));obtain ⟨LL,hLL⟩:=lexi X.out;go_cut [8] (fun s0 wx=>∃ g0,s0=.pointer (some ⟨g0,0,none⟩)∧Sb w (LL++[(g0,#[.bool b5,.string m5,.bool false,.string k5],25)]) [] wx);all_goals exact wkc)),p):=@fun _ h=>h
 have RS:=Lib.hid Tryz.results135
 clear hp hq hr h0 zp zq zr h6 h4 h5 z4 z5 hE
 go_enter Tryz.func135,Tryz.ntmps135
 exact wk0

set_option maxHeartbeats 8000000 in
set_option maxRecDepth 100000 in
theorem rneg_true {x:Sg.Rl} {b1 c1 b3:Bool} {m1 k1 n1 l1 m3 k3:ByteArray} (hx:Rv x b1 m1 k1 c1 n1 l1 true) (h3:Rq (-x.p) b3 m3 k3) (w:World) :
  Calls Tryz.prog 155 #[.agg #[.bool b1,.string m1,.bool false,.string k1,.bool c1,.string n1,.bool false,.string l1,.bool true]] w (RetB w (.agg #[.bool b3,.string m3,.bool false,.string k3,.bool c1,.string n1,.bool false,.string l1,.bool false])):=by
 have C1:=kn w (ratNeg_f hx.p h3)
 have RS:=Lib.hid Tryz.results155
 clear hx h3
 go_enter Tryz.func155,Tryz.ntmps155
 exact wk0

set_option maxHeartbeats 8000000 in
set_option maxRecDepth 100000 in
theorem rneg_false {x:Sg.Rl} {b1 c1 b3:Bool} {m1 k1 n1 l1 m3 k3:ByteArray} (hx:Rv x b1 m1 k1 c1 n1 l1 false) (h3:Rq (-x.p) b3 m3 k3) (w:World) :
  Calls Tryz.prog 155 #[.agg #[.bool b1,.string m1,.bool false,.string k1,.bool c1,.string n1,.bool false,.string l1,.bool false]] w (RetB w (.agg #[.bool b3,.string m3,.bool false,.string k3,.bool c1,.string n1,.bool false,.string l1,.bool (!decide (x.a=0))])):=by
 have C1:=kn w (ratNeg_f hx.p h3)
 have C2:=kn w (isRat_f hx)
 have RS:=Lib.hid Tryz.results155
 clear hx h3
 go_enter Tryz.func155,Tryz.ntmps155
 exact wk0

theorem rneg_f {x:Sg.Rl} {b1 c1 s1:Bool} {m1 k1 n1 l1:ByteArray} {b3 c3 s3:Bool} {m3 k3 n3 l3:ByteArray} (hx:Rv x b1 m1 k1 c1 n1 l1 s1) (ok:x.Ok) (h3:Rv x.neg b3 m3 k3 c3 n3 l3 s3) (w:World) :
  Calls Tryz.prog 155 #[.agg #[.bool b1,.string m1,.bool false,.string k1,.bool c1,.string n1,.bool false,.string l1,.bool s1]] w (RetB w (.agg #[.bool b3,.string m3,.bool false,.string k3,.bool c3,.string n3,.bool false,.string l3,.bool s3])):=by
 obtain ⟨rfl,rfl,rfl⟩:=h3.r.inj hx.r
 have hs:=h3.neg
 have h1:=hx.neg
 rcases Sg.ok_cases ok with ⟨ha,e⟩ | ⟨ha,-⟩
 · obtain rfl:s3=false:=by rw [hs];show decide ((if x.a=0 then 1 else -x.s)<0)=false;rw [if_pos ha];rfl
   obtain rfl:s1=false:=by rw [h1,e];rfl
   have h:=rneg_false hx h3.p w
   rw [decide_eq_true ha] at h
   exact h
 · have h0:¬x.a=0:=by grind
   have e3:s3=decide (-x.s<0):=by rw [hs];show decide ((if x.a=0 then 1 else -x.s)<0)=_;rw [if_neg h0]
   rcases ok.sg with e | e<;>rw [e] at h1 e3<;>(obtain rfl:=h1)<;>(obtain rfl:=e3)
   · have h:=rneg_false hx h3.p w
     rw [decide_eq_false h0] at h
     exact h
   · exact rneg_true hx h3.p w

end Go.Proofs.YtdbhahiieokplaaGreatDoor


namespace Go.Proofs.YtdbhahiieokplaaGreatDoor
open Go.RowKit
attribute [local go_sem ↓] Go.wp_at_zero Go.wp_at_succ

end Go.Proofs.YtdbhahiieokplaaGreatDoor
