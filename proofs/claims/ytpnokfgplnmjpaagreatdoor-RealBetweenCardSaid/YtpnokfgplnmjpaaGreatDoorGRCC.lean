import Derived.Test.YtpnokfgplnmjpaaGreatDoorGPk
import Derived.Test.YtpnokfgplnmjpaaGreatDoorGRHK
import Derived.Test.YtpnokfgplnmjpaaGreatDoorGRCA
import Derived.Test.YtpnokfgplnmjpaaGreatDoorGQT2
import Derived.Test.YtpnokfgplnmjpaaGreatDoorGSgT
set_option linter.unusedSimpArgs false
set_option linter.unusedVariables false
set_option maxRecDepth 100000
set_option maxHeartbeats 16000000
open Go.Lib (hid)
open Go.Proofs.Tryz (prog)
namespace Go.Proofs.YtpnokfgplnmjpaaGreatDoor
open Go.RowKit
attribute [local go_sem ↓] Go.wp_at_zero Go.wp_at_succ
theorem size_pos {n:ByteArray} (h:n≠⟨#[]⟩):0<n.size:=by
 rcases Nat.eq_zero_or_pos n.size with h1 | h1
 · exact absurd (ext_bytes (t:=⟨#[]⟩) h1 (fun i h2 _=>om)) h
 · exact h1
theorem Rq.ne {q:Rat} {b:Bool} {m k:ByteArray} (h:Rq q b m k) (h0:q≠0):m≠⟨#[]⟩:=by
 intro e;have h1:=h.mag.2;rw [e] at h1;have h2:¬q.num.natAbs≠0:=fun h3=>mag_no_nil h3 h1.symm
 exact h0 (Rat.num_eq_zero.1 om)
theorem isRat_yes (b1 s1:Bool) (m1 k1:ByteArray) (w:World) :
  Calls prog 70 #[.agg #[.bool b1,.string m1,.bool false,.string k1,.bool false,.string ⟨#[]⟩,.bool false,.string ⟨#[]⟩,.bool s1]] w (RetB w (.bool true)):=by
 go_enter Tryz.func70,Tryz.ntmps70;exact wk0
theorem isRat_any (b1 c1 s1:Bool) (m1 k1 n1 l1:ByteArray) (hn:n1≠⟨#[]⟩) (w:World) :
  Calls prog 70 #[.agg #[.bool b1,.string m1,.bool false,.string k1,.bool c1,.string n1,.bool false,.string l1,.bool s1]] w (RetB w (.bool false)):=by
 obtain ⟨h1,h2⟩:=str_ne hn;have h3:=empty_no (size_pos hn);clear hn;go_enter Tryz.func70,Tryz.ntmps70;exact wk0
theorem isRat_no {b1 c1 s1:Bool} {m1 k1 n1 l1:ByteArray} {x:Sg.Rl} (h:Rv x b1 m1 k1 c1 n1 l1 s1) (h0:x.a≠0) (w:World):Calls prog 70 #[.agg #[.bool b1,.string m1,.bool false,.string k1,.bool c1,.string n1,.bool false,.string l1,.bool s1]] w (RetB w (.bool false)):=isRat_any _ _ _ _ _ _ _ (h.r.ne h0) w
theorem isRat_f {b1 c1 s1:Bool} {m1 k1 n1 l1:ByteArray} {x:Sg.Rl} (h:Rv x b1 m1 k1 c1 n1 l1 s1) (w:World):Calls prog 70 #[.agg #[.bool b1,.string m1,.bool false,.string k1,.bool c1,.string n1,.bool false,.string l1,.bool s1]] w (RetB w (.bool (decide (x.a=0)))):=by
 by_cases h0:x.a=0
 · rw [decide_eq_true h0];obtain ⟨rfl,rfl,rfl⟩:=h.r.nought.1 h0;exact isRat_yes _ _ _ _ w
 · rw [decide_eq_false h0];exact isRat_no h h0 w
theorem fromRat_any (b1:Bool) (m1 k1:ByteArray) (w:World) :
  Calls prog 25 #[.agg #[.bool b1,.string m1,.bool false,.string k1]] w (RetB w (.agg #[.bool b1,.string m1,.bool false,.string k1,.bool false,.string ⟨#[]⟩,.bool false,.string ⟨#[]⟩,.bool false])):=by
 have RS:=hid Tryz.results25;go_enter Tryz.func25,Tryz.ntmps25;exact wk0
theorem of_any (b1:Bool) (m1 k1:ByteArray) (w:World) :
  Calls prog 20 #[.agg #[.bool b1,.string m1,.bool false,.string k1]] w (RetB w (.agg #[.bool b1,.string m1,.bool false,.string k1,.bool false,.string ⟨#[]⟩,.bool false,.string ⟨#[]⟩,.bool false])):=by
 have RS:=hid Tryz.results20;go_enter Tryz.func20,Tryz.ntmps20;exact wk0
theorem rootSign_any (b1 c1:Bool) (m1 k1 n1 l1:ByteArray) (s1:Bool) {s:Int} (hs:s=if s1 then -1 else 1) (w:World) :
  Calls prog 88 #[.agg #[.bool b1,.string m1,.bool false,.string k1,.bool c1,.string n1,.bool false,.string l1,.bool s1]] w (RetB w (.int .i64 s)):=by
 have P1:=hid (show s1=true→s=-1 from fun h=>by rw [hs,if_pos h]);have P2:=hid (show s1=false→s=1 from fun h=>by rw [hs,h];rfl);clear hs;go_enter Tryz.func88,Tryz.ntmps88;exact wk0
theorem rootSign_f {b1 c1 s1:Bool} {m1 k1 n1 l1:ByteArray} {x:Sg.Rl} (h:Rv x b1 m1 k1 c1 n1 l1 s1) (hs:x.s=1∨x.s=-1) (w:World):Calls prog 88 #[.agg #[.bool b1,.string m1,.bool false,.string k1,.bool c1,.string n1,.bool false,.string l1,.bool s1]] w (RetB w (.int .i64 x.s)) :=
 rootSign_any _ _ _ _ _ _ _ (by rw [h.neg];rcases hs with e | e<;>rw [e]<;>decide) w
theorem side_any (b1 c1:Bool) (m1 k1 n1 l1:ByteArray) (s1:Bool) {s:Int} (hs:s=if s1 then -1 else 1) (w:World) :
  Calls prog 85 #[.agg #[.bool b1,.string m1,.bool false,.string k1,.bool c1,.string n1,.bool false,.string l1,.bool s1]] w (RetB w (.int .i64 s)):=by
 have P1:=hid (show s1=true→s=-1 from fun h=>by rw [hs,if_pos h]);have P2:=hid (show s1=false→s=1 from fun h=>by rw [hs,h];rfl);clear hs;go_enter Tryz.func85,Tryz.ntmps85;exact wk0
theorem side_f {b1 c1 s1:Bool} {m1 k1 n1 l1:ByteArray} {x:Sg.Rl} (h:Rv x b1 m1 k1 c1 n1 l1 s1) (hs:x.s=1∨x.s=-1) (w:World):Calls prog 85 #[.agg #[.bool b1,.string m1,.bool false,.string k1,.bool c1,.string n1,.bool false,.string l1,.bool s1]] w (RetB w (.int .i64 x.s)) :=
 side_any _ _ _ _ _ _ _ (by rw [h.neg];rcases hs with e | e<;>rw [e]<;>decide) w
theorem whole_f {x:Int} {b:Bool} {m:ByteArray} (hx:enc x=.agg #[.bool b,.string m]) (x1:-9223372036854775808≤x) (x2:x≤9223372036854775807) (w:World) :
  Calls prog 21 #[.int .i64 x] w (RetB w (.agg #[.bool b,.string m,.bool false,.string ⟨#[]⟩])):=by
 have C1:=hid (fun V (_:Below w.heap.size w V)=>show Calls prog 74 #[.int .i64 x] V (RetB V (.agg #[.bool b,.string m])) from by have h:=rint_any x x1 x2 V;unfold RetZ at h;rw [hx] at h;exact h);clear hx x1 x2;have RS:=hid Tryz.results21;go_enter Tryz.func21,Tryz.ntmps21;exact wk0
theorem zero_any  (w:World) :
  Calls prog 24 #[] w (RetB w (.agg #[.bool false,.string ⟨#[]⟩,.bool false,.string ⟨#[]⟩])):=by
 have RS:=hid Tryz.results24;go_enter Tryz.func24,Tryz.ntmps24;exact wk0
theorem one_any  (w:World) :
  Calls prog 84 #[] w (RetB w (.agg #[.bool false,.string ⟨#[1]⟩,.bool false,.string ⟨#[]⟩])):=by
 have C1:=kn w (whole_f (x:=1) (b:=false) (m:=⟨#[1]⟩) (by rw [←mag_one];exact enc_mag 1) om om);have RS:=hid Tryz.results84;go_enter Tryz.func84,Tryz.ntmps84;exact wk0
theorem ratio_f {p q:Rat} {b1 b2 b3:Bool} {m1 k1 m2 k2 m3 k3:ByteArray} (hp:Rq p b1 m1 k1) (hq:Rq q b2 m2 k2) (hr:Rq (p / q) b3 m3 k3) (h0:q.num≠0) (zp:Sz 10000 p) (zq:Sz 10000 q) (w:World) (hE:Env w) :
  Calls prog 79 #[.agg #[.bool b1,.string m1,.bool false,.string k1],.agg #[.bool b2,.string m2,.bool false,.string k2]] w (RetB w (.agg #[.bool b3,.string m3,.bool false,.string k3])):=by
 have C1:=ke hE (div_z hp hq hr h0 zp zq);have RS:=hid Tryz.results79;clear hp hq hr h0 zp zq hE;go_enter Tryz.func79,Tryz.ntmps79;exact wk0
theorem root_yes_z {q:Rat} {b:Bool} {m k:ByteArray} (h:Rq q b m k) (zq:Sz 9000 q) (hs:Sg.Sq q) {b2:Bool} {m2 k2:ByteArray} (hr:Rq (Sg.rt q) b2 m2 k2) :
  (∀ V,Env V→Calls prog 72 #[.agg #[.bool b,.string m,.bool false,.string k]] V (RetB V (.tuple #[.agg #[.bool b2,.string m2,.bool false,.string k2],.bool true]))) ∧
   (∀ V,Calls prog 68 #[.agg #[.bool b,.string m,.bool false,.string k]] V (RetB V (.tuple #[.agg #[.bool b2,.string m2,.bool false,.string k2],.bool true]))):=by
 obtain ⟨z,hz,e⟩:=hs;rw [Sg.rt_eq hz e] at hr;obtain ⟨s1,s2⟩:=sq_parts z;rw [e] at s1 s2;have hn:¬z.num<0:=by rw [num_neg_iff];grind
 obtain ⟨e1,e2⟩:=hr.mag;rw [decide_eq_false hn] at e1;have e3:=hr.den;subst e1 e2 e3;have hm:=h.mag;have hb:b=false:=by rw [hm.1,s1];exact decide_eq_false om
 subst hb;have t1:=zq.1;have t2:=zq.2;have n1:q.num.natAbs=z.num.natAbs*z.num.natAbs:=by rw [s1,Int.natAbs_natCast]
 refine ⟨fun V hV=>ratRoot_yes h s1 s2 (by rw [←n1];exact Nat.le_trans (mag_size_le t1) om) (by rw [←s2];exact Nat.le_trans (mag_size_le t2) om) V hV,fun V=>?_⟩;have r1:rt q.num.natAbs=z.num.natAbs:=by rw [n1,rt_square]
 have r2:rt q.den=z.den:=by rw [s2,rt_square]
 have g:=rRoot_yes (mR:=mag z.num.natAbs) (kR:=dm z.den) h (by rw [r1,n1]) (by rw [r2,s2]) (by rw [r1,r2];exact rq_nat z.den_pos z.reduced) (by rw [hm.2];exact Nat.le_trans (mag_size_le t1) om) (Nat.le_trans (mag_size_le t2) om) V;exact g
theorem root_no_z {q:Rat} {b:Bool} {m k:ByteArray} (h:Rq q b m k) (zq:Sz 9000 q) (hs:¬Sg.Sq q) :
  (∀ V,Env V→Calls prog 72 #[.agg #[.bool b,.string m,.bool false,.string k]] V (RetB V (.tuple #[.agg #[.bool false,.string ⟨#[]⟩,.bool false,.string ⟨#[]⟩],.bool false]))) ∧
   (∀ V,Calls prog 68 #[.agg #[.bool b,.string m,.bool false,.string k]] V (RetB V (.tuple #[.agg #[.bool false,.string ⟨#[]⟩,.bool false,.string ⟨#[]⟩],.bool false]))):=by
 have t1:m.size≤9000:=(by rw [h.mag.2];exact Nat.le_trans (mag_size_le zq.1) om);have t2:(mag q.den).size≤9000:=Nat.le_trans (mag_size_le zq.2) om;cases b
 · have hn:¬q.num<0:=of_decide_eq_false h.mag.1.symm;have hm:=h.mag.2;by_cases h1:rt q.num.natAbs*rt q.num.natAbs=q.num.natAbs
   · by_cases h2:rt q.den*rt q.den=q.den
     · exfalso;refine hs ⟨mkRat (rt q.num.natAbs) (rt q.den),?_,?_⟩
       · rw [←Rat.num_nonneg,(mkRat_parts _ (Nat.pos_iff_ne_zero.1 (rt_pos q.den_pos))).1];exact Int.ediv_nonneg om om
       · obtain ⟨p1,p2⟩:=mkRat_parts ((rt q.num.natAbs:Nat):Int) (Nat.pos_iff_ne_zero.1 (rt_pos q.den_pos));have hc:=root_cop h1 h2 q.reduced;rw [Int.natAbs_natCast,hc] at p1 p2;rw [Int.natCast_one,Int.ediv_one] at p1;rw [Nat.div_one] at p2;obtain ⟨s1,s2⟩:=sq_parts (mkRat ((rt q.num.natAbs:Nat):Int) (rt q.den));rw [p1,Int.natAbs_natCast,h1] at s1;rw [p2,h2] at s2;refine Rat.ext ?_ s2;rw [s1];omega
     · exact ⟨fun V hV=>ratRoot_no2 h h1.symm h2 (by rw [h1,←hm];omega) om V hV,fun V=>rRoot_no2 h h1 h2 t1 t2 V⟩
   · exact ⟨fun V _=>ratRoot_no1 h (.inr h1) om V,fun V=>rRoot_no1 h h1 t1 t2 V⟩
 · have hn:q.num<0:=of_decide_eq_true h.mag.1.symm;exact ⟨fun V _=>ratRoot_no1 h (.inl hn) om V,fun V=>rRoot_neg h t1 t2 V⟩
theorem Sz.root {n:Nat} {q:Rat} (h:Sz (n+1) q):Sz (n+1) (Sg.rt q):=by
 by_cases hs:Sg.Sq q
 · obtain ⟨z,hz,e⟩:=hs;rw [Sg.rt_eq hz e];obtain ⟨s1,s2⟩:=sq_parts z;rw [e] at s1 s2;have t1:=h.1;have t2:=h.2;rw [s1,Int.natAbs_natCast] at t1;rw [s2] at t2;exact ⟨Nat.lt_of_le_of_lt (Nat.le_mul_self _) t1,Nat.lt_of_le_of_lt (Nat.le_mul_self _) t2⟩
 · unfold Sg.rt;rw [dif_neg hs];exact Sz.zero n
theorem sgq_abs (q:Rat):Sg.sgq q=-1∨Sg.sgq q=0∨Sg.sgq q=1:=by
 rcases Sg.sgq_three q with ⟨-,e⟩ | ⟨-,e⟩ | ⟨-,e⟩<;>rw [e]<;>simp
theorem wrap_pm {c:Int} (h:c=-1∨c=0∨c=1):IntKind.i64.wrap c=c∧IntKind.i64.wrap (-c)=-c:=by
 rcases h with rfl | rfl | rfl<;>exact ⟨by decide,by decide⟩
theorem wrap_ts {t c:Int} (ht:t=1∨t=-1) (h:c=-1∨c=0∨c=1):IntKind.i64.wrap (t*c)=t*c:=by
 rcases ht with rfl | rfl<;>rcases h with rfl | rfl | rfl<;>decide
theorem wrap_st {t c:Int} (ht:t=1∨t=-1) (h:c=-1∨c=0∨c=1):IntKind.i64.wrap (c*t)=c*t:=by rw [Int.mul_comm];exact wrap_ts ht h
theorem sos_abs (p:Rat) {s:Int} (hs:s=1∨s=-1) (r:Rat):Sg.sos p s r=-1∨Sg.sos p s r=0∨Sg.sos p s r=1:=by
 unfold Sg.sos
 split
 · omega
 · rcases sgq_abs (r-p*p) with e | e | e<;>rcases hs with rfl | rfl<;>rw [e]<;>simp
theorem sos_f {p r:Rat} {b1 b2:Bool} {m1 k1 m2 k2:ByteArray} (hp:Rq p b1 m1 k1) (hr:Rq r b2 m2 k2) (zp:Sz 4000 p) (zr:Sz 9000 r) {s:Int} (hs:s=1∨s=-1) (w:World) (hE:Env w) :
  Calls prog 87 #[.agg #[.bool b1,.string m1,.bool false,.string k1],.int .i64 s,.agg #[.bool b2,.string m2,.bool false,.string k2]] w (RetB w (.int .i64 (Sg.sos p s r))):=by
 obtain ⟨b3,m3,k3,h3⟩:=Rq.some_ (p*p);have P1:=hid (show (Sg.sgq p != -s)=true→Sg.sos p s r=s from fun h=>by unfold Sg.sos;rw [if_pos (by simpa using h)]);have P2:=hid (show (Sg.sgq p != -s)=false→Sg.sos p s r=s*Sg.sgq (r-p*p) from fun h=>by unfold Sg.sos;rw [if_neg (by simpa using h)]);have hw:=wrap_ts hs (sgq_abs (r-p*p));have C1:=kn w (sign_z hp);have C2:=ke hE (mul_z hp hp h3 (zp.up om) (zp.up om));have C3:=ke hE (cmp_z hr h3 (zr.up om) ((zp.mul zp).up om));clear hp hr zp zr h3 hE;go_enter Tryz.func87,Tryz.ntmps87;exact wk0
theorem cmp_rat0 {x:Sg.Rl} (ok:x.Ok) (h0:x.a=0) (r:Rat):Sg.cmpX x (Sg.Rl.of r)=Sg.sgq (x.p-r):=by
 rcases Sg.ok_cases ok with ⟨_,h2⟩ | ⟨h2,-⟩
 · rw [show x=Sg.Rl.of x.p from Sg.Rl.ext' rfl h0 h2];exact Sg.cmp_of _ _
 · grind
theorem ok_pos {x:Sg.Rl} (ok:x.Ok) (h0:¬x.a=0):0<x.a:=by
 rcases Sg.ok_cases ok with ⟨h1,-⟩ | ⟨h1,-⟩
 · exact absurd h1 h0
 · exact h1
theorem crat_f {x:Sg.Rl} {r:Rat} {b1 c1 s1:Bool} {m1 k1 n1 l1:ByteArray} {b2:Bool} {m2 k2:ByteArray} (hx:Rv x b1 m1 k1 c1 n1 l1 s1) (ok:x.Ok) (hr:Rq r b2 m2 k2) (zx:Rz 1500 x) (zr:Sz 1500 r) (w:World) (hE:Env w) :
  Calls prog 38 #[.agg #[.bool b1,.string m1,.bool false,.string k1,.bool c1,.string n1,.bool false,.string l1,.bool s1],.agg #[.bool b2,.string m2,.bool false,.string k2]] w (RetB w (.int .i64 (Sg.cmpX x (Sg.Rl.of r)))):=by
 obtain ⟨b3,m3,k3,h3⟩:=Rq.some_ (x.p-r);have P1:=hid (show x.a=0→Sg.cmpX x (Sg.Rl.of r)=Sg.sgq (x.p-r) from fun h=>cmp_rat0 ok h r);have P2:=hid (show ¬x.a=0→Sg.cmpX x (Sg.Rl.of r)=Sg.sos (x.p-r) x.s x.a from fun h=>Sg.cmp_root (ok_pos ok h) r);have C1:=kn w (isRat_f hx);have C2:=ke hE (cmp_z hx.p hr (zx.p.up om) (zr.up om));have C3:=ke hE (sub_z hx.p hr h3 (zx.p.up om) (zr.up om));have C4:=kn w (rootSign_f hx ok.sg);have C5:=ke hE (sos_f h3 hx.r ((zx.p.sub zr).up om) (zx.r.up om) ok.sg);clear hx ok hr zx zr h3 hE;go_enter Tryz.func38,Tryz.ntmps38;exact wk0
theorem rsgn_f {x:Sg.Rl} {b1 c1 s1:Bool} {m1 k1 n1 l1:ByteArray} (hx:Rv x b1 m1 k1 c1 n1 l1 s1) (ok:x.Ok) (zx:Rz 1500 x) (w:World) (hE:Env w) :
  Calls prog 39 #[.agg #[.bool b1,.string m1,.bool false,.string k1,.bool c1,.string n1,.bool false,.string l1,.bool s1]] w (RetB w (.int .i64 (Sg.cmpX x (Sg.Rl.of 0)))):=by
 have e0:x.p-0=x.p:=by grind
 have P1:=hid (show x.a=0→Sg.cmpX x (Sg.Rl.of 0)=Sg.sgq x.p from fun h=>by rw [cmp_rat0 ok h,e0]);have P2:=hid (show ¬x.a=0→Sg.cmpX x (Sg.Rl.of 0)=Sg.sos x.p x.s x.a from fun h=>by rw [Sg.cmp_root (ok_pos ok h),e0]);have C1:=kn w (isRat_f hx);have C2:=kn w (sign_z hx.p);have C3:=kn w (rootSign_f hx ok.sg);have C4:=ke hE (sos_f hx.p hx.r (zx.p.up om) (zx.r.up om) ok.sg);clear hx ok zx e0 hE;go_enter Tryz.func39,Tryz.ntmps39;exact wk0
theorem norm_f {x:Sg.Rl} {b1 c1 s1:Bool} {m1 k1 n1 l1:ByteArray} {b3:Bool} {m3 k3:ByteArray} (hx:Rv x b1 m1 k1 c1 n1 l1 s1) (hr:Rq (x.p*x.p-x.a) b3 m3 k3) (zx:Rz 2000 x) (w:World) (hE:Env w) :
  Calls prog 90 #[.agg #[.bool b1,.string m1,.bool false,.string k1,.bool c1,.string n1,.bool false,.string l1,.bool s1]] w (RetB w (.agg #[.bool b3,.string m3,.bool false,.string k3])):=by
 obtain ⟨b4,m4,k4,h4⟩:=Rq.some_ (x.p*x.p);have C1:=ke hE (mul_z hx.p hx.p h4 (zx.p.up om) (zx.p.up om));have C2:=ke hE (sub_z h4 hx.r hr ((zx.p.mul zx.p).up om) (zx.r.up om));have RS:=hid Tryz.results90;clear hx hr zx h4 hE;go_enter Tryz.func90,Tryz.ntmps90;exact wk0
theorem sum_no {r:Rat} {b1 b2:Bool} {m1 k1 m2 k2:ByteArray} (hr:Rq r b2 m2 k2) (zr:Sz 9000 r) (hn:¬Sg.Sq r) (s:Int) (w:World) (hE:Env w) :
  Calls prog 76 #[.agg #[.bool b1,.string m1,.bool false,.string k1],.int .i64 s,.agg #[.bool b2,.string m2,.bool false,.string k2]] w (RetB w (.agg #[.bool b1,.string m1,.bool false,.string k1,.bool b2,.string m2,.bool false,.string k2,.bool (decide (s<0))])):=by
 have C1:=ke hE ((root_no_z hr zr hn).1);have RS:=hid Tryz.results76;clear hr zr hn hE;go_enter Tryz.func76,Tryz.ntmps76;exact wk0
theorem sum_yes {p r:Rat} {b1 b2 b4:Bool} {m1 k1 m2 k2 m4 k4:ByteArray} (hp:Rq p b1 m1 k1) (hr:Rq r b2 m2 k2) (zp:Sz 9000 p) (zr:Sz (8999+1) r) (hn:Sg.Sq r) (s:Int) (h4:Rq (if s<0 then p-Sg.rt r else p+Sg.rt r) b4 m4 k4) (w:World) (hE:Env w) :
  Calls prog 76 #[.agg #[.bool b1,.string m1,.bool false,.string k1],.int .i64 s,.agg #[.bool b2,.string m2,.bool false,.string k2]] w (RetB w (.agg #[.bool b4,.string m4,.bool false,.string k4,.bool false,.string ⟨#[]⟩,.bool false,.string ⟨#[]⟩,.bool false])):=by
 obtain ⟨b3,m3,k3,h3⟩:=Rq.some_ (Sg.rt r);have z3:=zr.root;have C2:=hid (fun V (hb:Below w.heap.size w V) (h:s<0)=>sub_z hp h3 (by rw [if_pos h] at h4;exact h4) (zp.up om) (z3.up om) V (hE.next hb));have C3:=hid (fun V (hb:Below w.heap.size w V) (h:¬s<0)=>add_z hp h3 (by rw [if_neg h] at h4;exact h4) (zp.up om) (z3.up om) V (hE.next hb));have C1:=ke hE ((root_yes_z hr zr hn h3).1);have C4:=kn w (fromRat_any b4 m4 k4);have RS:=hid Tryz.results76;clear hp hr zp zr hn h3 h4 z3 hE;go_enter Tryz.func76,Tryz.ntmps76;exact wk0
theorem sum_f {p r:Rat} {b1 b2:Bool} {m1 k1 m2 k2:ByteArray} {b3 c3 s3:Bool} {m3 k3 n3 l3:ByteArray} (hp:Rq p b1 m1 k1) (hr:Rq r b2 m2 k2) (zp:Sz 9000 p) (zr:Sz 9000 r) (s:Int) (h3:Rv (Sg.sumP p s r) b3 m3 k3 c3 n3 l3 s3) (w:World) (hE:Env w) :
  Calls prog 76 #[.agg #[.bool b1,.string m1,.bool false,.string k1],.int .i64 s,.agg #[.bool b2,.string m2,.bool false,.string k2]] w (RetB w (.agg #[.bool b3,.string m3,.bool false,.string k3,.bool c3,.string n3,.bool false,.string l3,.bool s3])):=by
 unfold Sg.sumP at h3;by_cases hn:Sg.Sq r
 · rw [if_pos hn] at h3;have e:(if s<0 then (⟨p-Sg.rt r,0,1⟩:Sg.Rl) else ⟨p+Sg.rt r,0,1⟩)=⟨if s<0 then p-Sg.rt r else p+Sg.rt r,0,1⟩:=by split<;>rfl
   rw [e] at h3;obtain ⟨rfl,rfl,rfl⟩:=h3.r.nought.1 rfl;obtain rfl:s3=false:=h3.neg;exact sum_yes hp hr zp zr hn s h3.p w hE
 · rw [if_neg hn] at h3;obtain ⟨rfl,rfl,rfl⟩:=h3.p.inj hp;obtain ⟨rfl,rfl,rfl⟩:=h3.r.inj hr
   obtain rfl:s3=decide (s<0):=by
    rw [h3.neg];by_cases h:s<0
    · simp [h]
    · simp [h]
   exact sum_no hr zr hn s w hE
theorem rmk_f {p q r:Rat} {b1 b2 b3:Bool} {m1 k1 m2 k2 m3 k3:ByteArray} {b6 c6 s6:Bool} {m6 k6 n6 l6:ByteArray} (hp:Rq p b1 m1 k1) (hq:Rq q b2 m2 k2) (hr:Rq r b3 m3 k3) (h0:¬r<0) (zp:Sz 2000 p) (zq:Sz 2000 q) (zr:Sz 2000 r) (h6:Rv (Sg.mkR p q r) b6 m6 k6 c6 n6 l6 s6) (w:World) (hE:Env w) :
  Calls prog 27 #[.agg #[.bool b1,.string m1,.bool false,.string k1],.agg #[.bool b2,.string m2,.bool false,.string k2],.agg #[.bool b3,.string m3,.bool false,.string k3]] w (RetB w (.tuple #[.agg #[.bool b6,.string m6,.bool false,.string k6,.bool c6,.string n6,.bool false,.string l6,.bool s6],.int .i64 0])):=by
 obtain ⟨b4,m4,k4,h4⟩:=Rq.some_ (q*q);obtain ⟨b5,m5,k5,h5⟩:=Rq.some_ (q*q*r);have z4:=zq.mul zq;have z5:=z4.mul zr;rw [←Sg.make_same] at h6;have hr0:¬Sg.sgq r<0:=by rcases Sg.sgq_three r with ⟨e,_⟩ | ⟨_,e⟩ | ⟨_,e⟩<;>first | exact absurd e h0 | (rw [e];decide)
 have hr1:0≤Sg.sgq r:=om;have C5:=hid (fun V (hb:Below w.heap.size w V)=>sum_f hp h5 (zp.up om) (z5.up om) (Sg.sgq q) h6 V (hE.next hb));have C1:=kn w (sign_z hr);have C3:=ke hE (mul_z hq hq h4 (zq.up om) (zq.up om));have C4:=ke hE (mul_z h4 hr h5 (z4.up om) (zr.up om));have C2:=kn w (sign_z hq);have U1:Hid (∀ {p:Prop} (h:p:=by ((fail_if_success (go_not_at_region 3));(fail_if_success (have:=hLL));obtain ⟨LL,hLL⟩:=lexi X.out;go_cut [8] (fun s0 wx=>∃ g0,s0=.pointer (some ⟨g0,0,none⟩)∧Sb w (LL++[(g0,#[.bool b5,.string m5,.bool false,.string k5],25)]) [] wx);all_goals exact wkc)),p):=@fun _ h=>h
 have RS:=hid Tryz.results27;clear hp hq hr h0 zp zq zr h6 h4 h5 z4 z5 hE;go_enter Tryz.func27,Tryz.ntmps27;exact wk0
theorem rneg_true {x:Sg.Rl} {b1 c1 b3:Bool} {m1 k1 n1 l1 m3 k3:ByteArray} (hx:Rv x b1 m1 k1 c1 n1 l1 true) (h3:Rq (-x.p) b3 m3 k3) (w:World) :
  Calls prog 43 #[.agg #[.bool b1,.string m1,.bool false,.string k1,.bool c1,.string n1,.bool false,.string l1,.bool true]] w (RetB w (.agg #[.bool b3,.string m3,.bool false,.string k3,.bool c1,.string n1,.bool false,.string l1,.bool false])):=by
 have C1:=kn w (ratNeg_f hx.p h3);have RS:=hid Tryz.results43;clear hx h3;go_enter Tryz.func43,Tryz.ntmps43;exact wk0
theorem rneg_false {x:Sg.Rl} {b1 c1 b3:Bool} {m1 k1 n1 l1 m3 k3:ByteArray} (hx:Rv x b1 m1 k1 c1 n1 l1 false) (h3:Rq (-x.p) b3 m3 k3) (w:World) :
  Calls prog 43 #[.agg #[.bool b1,.string m1,.bool false,.string k1,.bool c1,.string n1,.bool false,.string l1,.bool false]] w (RetB w (.agg #[.bool b3,.string m3,.bool false,.string k3,.bool c1,.string n1,.bool false,.string l1,.bool (!decide (x.a=0))])):=by
 have C1:=kn w (ratNeg_f hx.p h3);have C2:=kn w (isRat_f hx);have RS:=hid Tryz.results43;clear hx h3;go_enter Tryz.func43,Tryz.ntmps43;exact wk0
theorem rneg_f {x:Sg.Rl} {b1 c1 s1:Bool} {m1 k1 n1 l1:ByteArray} {b3 c3 s3:Bool} {m3 k3 n3 l3:ByteArray} (hx:Rv x b1 m1 k1 c1 n1 l1 s1) (ok:x.Ok) (h3:Rv x.neg b3 m3 k3 c3 n3 l3 s3) (w:World) :
  Calls prog 43 #[.agg #[.bool b1,.string m1,.bool false,.string k1,.bool c1,.string n1,.bool false,.string l1,.bool s1]] w (RetB w (.agg #[.bool b3,.string m3,.bool false,.string k3,.bool c3,.string n3,.bool false,.string l3,.bool s3])):=by
 obtain ⟨rfl,rfl,rfl⟩:=h3.r.inj hx.r;have hs:=h3.neg;have h1:=hx.neg;rcases Sg.ok_cases ok with ⟨ha,e⟩ | ⟨ha,-⟩
 · obtain rfl:s3=false:=by rw [hs];show decide ((if x.a=0 then 1 else -x.s)<0)=false;rw [if_pos ha];rfl
   obtain rfl:s1=false:=by rw [h1,e];rfl
   have h:=rneg_false hx h3.p w;rw [decide_eq_true ha] at h;exact h
 · have h0:¬x.a=0:=by grind
   have e3:s3=decide (-x.s<0):=by rw [hs];show decide ((if x.a=0 then 1 else -x.s)<0)=_;rw [if_neg h0]
   rcases ok.sg with e | e<;>rw [e] at h1 e3<;>(obtain rfl:=h1)<;>(obtain rfl:=e3)
   · have h:=rneg_false hx h3.p w;rw [decide_eq_false h0] at h;exact h
   · exact rneg_true hx h3.p w
theorem rshift_f {x:Sg.Rl} {r:Rat} {b1 c1 s1:Bool} {m1 k1 n1 l1:ByteArray} {b2 b3:Bool} {m2 k2 m3 k3:ByteArray} (hx:Rv x b1 m1 k1 c1 n1 l1 s1) (hr:Rq r b2 m2 k2) (h3:Rq (x.p+r) b3 m3 k3) (zx:Rz 5000 x) (zr:Sz 5000 r) (w:World) (hE:Env w) :
  Calls prog 44 #[.agg #[.bool b1,.string m1,.bool false,.string k1,.bool c1,.string n1,.bool false,.string l1,.bool s1],.agg #[.bool b2,.string m2,.bool false,.string k2]] w (RetB w (.agg #[.bool b3,.string m3,.bool false,.string k3,.bool c1,.string n1,.bool false,.string l1,.bool s1])):=by
 have C1:=ke hE (add_z hx.p hr h3 (zx.p.up om) (zr.up om));have RS:=hid Tryz.results44;clear hx hr h3 zx zr hE;go_enter Tryz.func44,Tryz.ntmps44;exact wk0
theorem inv_ne {q:Rat} (h:q≠0):1 / q≠0:=by
 intro e;have h1:q*(1 / q)=1:=by grind
 rw [e] at h1;grind
theorem Sz.inv {n:Nat} {q:Rat} (h:Sz n q):Sz (n+1) (1 / q):=by
 have e:(1:Rat) / q=q⁻¹:=by grind
 rw [e];have h1:=h.1;have h2:=h.2;have h3:=Rat.num_inv q;have h4:=Rat.den_inv q;have hm:256^n<256^(n+1):=by rw [Nat.pow_succ];have:=Nat.pow_pos (a:=256) (n:=n) dc;omega
 have hp:=Nat.pow_pos (a:=256) (n:=n) dc;refine ⟨?_,?_⟩
 · rw [h3,Int.natAbs_mul];rcases Int.lt_trichotomy q.num 0 with h | h | h
   · rw [Int.sign_eq_neg_one_of_neg h];simp;omega
   · rw [h];simp;omega
   · rw [Int.sign_eq_one_of_pos h];simp;omega
 · rw [h4]
   split
   · omega
   · omega
theorem rscale_irr {x:Sg.Rl} {r:Rat} {b1 c1 s1:Bool} {m1 k1 n1 l1:ByteArray} {b2 b3 b4:Bool} {m2 k2 m3 k3 m4 k4:ByteArray} (hx:Rv x b1 m1 k1 c1 n1 l1 s1) (hx0:x.a≠0) (hr:Rq r b2 m2 k2) (hr0:r≠0) (h3:Rq (x.p*r) b3 m3 k3) (h4:Rq (x.a*(r*r)) b4 m4 k4) (zx:Rz 4000 x) (zr:Sz 2000 r) (w:World) (hE:Env w) :
  Calls prog 45 #[.agg #[.bool b1,.string m1,.bool false,.string k1,.bool c1,.string n1,.bool false,.string l1,.bool s1],.agg #[.bool b2,.string m2,.bool false,.string k2]] w (RetB w (.agg #[.bool b3,.string m3,.bool false,.string k3,.bool b4,.string m4,.bool false,.string k4,.bool (s1 != decide (Sg.sgq r<0))])):=by
 obtain ⟨b5,m5,k5,h5⟩:=Rq.some_ (r*r);have z5:=zr.mul zr;have hs0:¬Sg.sgq r=0:=by rcases Sg.sgq_three r with ⟨_,e⟩ | ⟨e,_⟩ | ⟨_,e⟩<;>first | exact absurd e hr0 | (rw [e];decide)
 have C1:=kn w (isRat_no hx hx0);have C2:=kn w (sign_z hr);have C3:=ke hE (mul_z hr hr h5 (zr.up om) (zr.up om));have C4:=ke hE (mul_z hx.p hr h3 (zx.p.up om) (zr.up om));have C5:=ke hE (mul_z hx.r h5 h4 (zx.r.up om) (z5.up om));have E1:Hid (∀ {p:Prop} (h:p:=by exact bodyPost_ret (v:=.agg #[.bool b3,.string m3,.bool false,.string k3,.bool b4,.string m4,.bool false,.string k4,.bool (s1 != decide (Sg.sgq r<0))]) (by simp [results,Tryz.results45,go_sem,F]<;>(cases s1<;>cases decide (Sg.sgq r<0)<;>rfl)) rfl ⟨rfl,X.out.bel⟩),p):=@fun _ h=>h
 have RS:=hid Tryz.results45;clear hx hx0 hr hr0 h3 h4 h5 z5 zx zr hE;go_enter Tryz.func45,Tryz.ntmps45;exact wk0
theorem rinv_0  (w:World) :
  Calls prog 50 #[.agg #[.bool false,.string ⟨#[]⟩,.bool false,.string ⟨#[]⟩,.bool false,.string ⟨#[]⟩,.bool false,.string ⟨#[]⟩,.bool false]] w (RetB w (.tuple #[.agg #[.bool false,.string ⟨#[]⟩,.bool false,.string ⟨#[]⟩,.bool false,.string ⟨#[]⟩,.bool false,.string ⟨#[]⟩,.bool false],.int .i64 6])):=by
 have RS:=hid Tryz.results50;go_enter Tryz.func50,Tryz.ntmps50;exact wk0
theorem rinv_rat {p:Rat} {b1 b2:Bool} {m1 k1 m2 k2:ByteArray} (hp:Rq p b1 m1 k1) (hp0:p≠0) (h2:Rq (1 / p) b2 m2 k2) (zp:Sz 5000 p) (w:World) (hE:Env w) :
  Calls prog 50 #[.agg #[.bool b1,.string m1,.bool false,.string k1,.bool false,.string ⟨#[]⟩,.bool false,.string ⟨#[]⟩,.bool false]] w (RetB w (.tuple #[.agg #[.bool b2,.string m2,.bool false,.string k2,.bool false,.string ⟨#[]⟩,.bool false,.string ⟨#[]⟩,.bool false],.int .i64 0])):=by
 have o1:=(show Rq 1 false ⟨#[1]⟩ ⟨#[]⟩ from ⟨by rw [←mag_one];exact enc_mag 1,by rw [show (1:Rat).den=1 from rfl];exact dm_one.symm⟩);have hn:=hp.ne hp0;obtain ⟨e1,e2⟩:=str_ne hn;have e3:=empty_no (size_pos hn);have z1:Sz 1 1:=⟨by decide,by decide⟩;have hp1:p.num≠0:=fun e=>hp0 (Rat.num_eq_zero.1 e)
 have C1:=kn w (isRat_yes b1 false m1 k1);have C2:=kn w (rFromInt_f (x:=1) o1.num om om);have C3:=ke hE (ratio_f o1 hp h2 hp1 (z1.up om) (zp.up om));have C4:=kn w (fromRat_any b2 m2 k2);have RS:=hid Tryz.results50;clear hp hp0 h2 zp o1 hn z1 hp1 hE;go_enter Tryz.func50,Tryz.ntmps50;exact wk0
theorem rinv_irr {x:Sg.Rl} {m:Rat} {b1 s1:Bool} {m1 k1 n1 l1:ByteArray} {b3 b4:Bool} {m3 k3 m4 k4:ByteArray} (hx:Rv x b1 m1 k1 false n1 l1 s1) (hx0:x.a≠0) (hm:m=1 / (x.p*x.p-x.a)) (hm0:x.p*x.p-x.a≠0) (h3:Rq (x.p*m) b3 m3 k3) (h4:Rq (x.a*(m*m)) b4 m4 k4) (zx:Rz 600 x) (w:World) (hE:Env w) :
  Calls prog 50 #[.agg #[.bool b1,.string m1,.bool false,.string k1,.bool false,.string n1,.bool false,.string l1,.bool s1]] w (RetB w (.tuple #[.agg #[.bool b3,.string m3,.bool false,.string k3,.bool b4,.string m4,.bool false,.string k4,.bool ((!s1) != decide (Sg.sgq m<0))],.int .i64 0])):=by
 have o1:=(show Rq 1 false ⟨#[1]⟩ ⟨#[]⟩ from ⟨by rw [←mag_one];exact enc_mag 1,by rw [show (1:Rat).den=1 from rfl];exact dm_one.symm⟩);have hn:=hx.r.ne hx0;obtain ⟨e1,e2⟩:=str_ne hn;have e3:=empty_no (size_pos hn);have z1:Sz 1 1:=⟨by decide,by decide⟩;obtain ⟨b5,m5,k5,h5⟩:=Rq.some_ (x.p*x.p-x.a);obtain ⟨b6,m6,k6,h6⟩:=Rq.some_ m;have z5:Sz 1801 (x.p*x.p-x.a):=(zx.p.mul zx.p).sub zx.r;have z6:Sz 1802 m:=by rw [hm];exact z5.inv
 have hp1:(x.p*x.p-x.a).num≠0:=fun e=>hm0 (Rat.num_eq_zero.1 e)
 have hm1:m≠0:=by rw [hm];exact inv_ne hm0
 have hc:Rv (⟨x.p,x.a,if s1 then 1 else -1⟩:Sg.Rl) b1 m1 k1 false n1 l1 (!s1):=⟨hx.p,hx.r,by cases s1<;>simp⟩;have zc:Rz 600 (⟨x.p,x.a,if s1 then 1 else -1⟩:Sg.Rl):=⟨zx.p,zx.r⟩;have C5:=hid (fun V (hb:Below w.heap.size w V)=>rscale_irr hc hx0 h6 hm1 h3 h4 ⟨zx.p.up om,zx.r.up om⟩ (z6.up om) V (hE.next hb));have C1:=kn w (isRat_no hx hx0);have C2:=kn w (rFromInt_f (x:=1) o1.num om om);have C3:=ke hE (norm_f hx h5 ⟨zx.p.up om,zx.r.up om⟩);have C4:=ke hE (ratio_f o1 h5 (by rw [←hm];exact h6) hp1 (z1.up om) (z5.up om));have RS:=hid Tryz.results50;clear hx hx0 hm hm0 h3 h4 zx o1 hn z1 h5 h6 z5 z6 hp1 hm1 hc zc hE;go_enter Tryz.func50,Tryz.ntmps50;exact wk0
theorem Sz.by_ {n m:Nat} {p q:Rat} (hp:Sz n p) (hq:Sz m q):Sz (n+(m+1)) (p / q):=by
 have e:p / q=p*(1 / q):=by grind
 rw [e];exact hp.mul hq.inv
theorem Sb.last {w W:World} {l:List (Nat×Array Value×TypeId)} {rs:List (Option Addr×Nat×Nat×Nat)} {g:Nat} {cs:Array Value} {T:TypeId} (h:Sb w (l++[(g,cs,T)]) rs W):w.heap.size≤g∧W.heap[g]?=some (.cells cs T (0,0)) :=
 ⟨h.lo (g,cs,T) (by simp),h.k (g,cs,T) (by simp)⟩
def RetLs (w:World) (cs:Array Value) (T:TypeId) (n:Nat) (e:Ending) (w':World):Prop:=∃ g,e=.returned (.tuple #[.slice (some ⟨g,0,none⟩) n n,.int .i64 0])∧w.heap.size≤g∧w'.heap[g]?=some (.cells cs T (0,0))∧Below w.heap.size w w'
theorem roots_two_false {q1 q2 q3 p:Rat} {b1 b2:Bool} {m1 k1 m2 k2:ByteArray} {m3 k3:ByteArray} {b10 c10 s10 b11 c11 s11:Bool} {m10 k10 n10 l10 m11 k11 n11 l11:ByteArray} (h1:Rq q1 b1 m1 k1) (h2:Rq q2 b2 m2 k2) (h3:Rq q3 false m3 k3) (h30:q3≠0) (z1q:Sz 100 q1) (z2q:Sz 100 q2) (z3q:Sz 100 q3) (hp:p=-q2 / (2*q3)) (hpos:0<p*p-q1 / q3) (h10:Rv (Sg.sumP p (-1) (p*p-q1 / q3)) b10 m10 k10 c10 n10 l10 s10) (h11:Rv (Sg.sumP p 1 (p*p-q1 / q3)) b11 m11 k11 c11 n11 l11 s11) (w:World) (hE:Env w) :
  Calls prog 31 #[.agg #[.bool b1,.string m1,.bool false,.string k1,.bool b2,.string m2,.bool false,.string k2,.bool false,.string m3,.bool false,.string k3]] w (RetLs w #[.bool b10,.string m10,.bool false,.string k10,.bool c10,.string n10,.bool false,.string l10,.bool s10,.bool b11,.string m11,.bool false,.string k11,.bool c11,.string n11,.bool false,.string l11,.bool s11] 27 2):=by
 have hn:=h3.ne h30;obtain ⟨u1,u2⟩:=str_ne hn;have u3:=empty_no (size_pos hn);have h3n:q3.num≠0:=fun e=>h30 (Rat.num_eq_zero.1 e)
 obtain ⟨b4,m4,k4,h4⟩:=Rq.some_ (-q2);obtain ⟨b5,m5,k5,h5⟩:=Rq.some_ (2*q3);obtain ⟨b6,m6,k6,h6⟩:=Rq.some_ p;obtain ⟨b7,m7,k7,h7⟩:=Rq.some_ (q1 / q3);obtain ⟨b8,m8,k8,h8⟩:=Rq.some_ (p*p);obtain ⟨b9,m9,k9,h9⟩:=Rq.some_ (p*p-q1 / q3);have e2:Rq 2 false ⟨#[2]⟩ ⟨#[]⟩:=⟨by rw [←mag_2];exact enc_mag 2,by rw [show (2:Rat).den=1 from rfl];exact dm_one.symm⟩;have z2:Sz 1 2:=⟨by decide,by decide⟩;have z5:=z2.mul z3q;have h50:(2*q3).num≠0:=fun e=>by have:=Rat.num_eq_zero.1 e;grind
 have z4:Sz 100 (-q2):=z2q.minus;have z6:Sz 202 p:=by rw [hp];exact z4.by_ z5
 have z7:Sz 201 (q1 / q3):=z1q.by_ z3q;have z8:=z6.mul z6;have z9:Sz 606 (p*p-q1 / q3):=z8.sub z7;have C8:=hid (fun V (_:Below w.heap.size w V)=>sign_z h9 V);rw [Sg.sgq_pos hpos] at C8;have C1:=kn w (ratNeg_f h2 h4);have C2:=kn w (rFromInt_f (x:=2) e2.num om om);have C3:=ke hE (mul_z e2 h3 h5 (z2.up om) (z3q.up om));have C4:=ke hE (ratio_f h4 h5 (by rw [←hp];exact h6) h50 (z4.up om) (z5.up om));have C5:=ke hE (ratio_f h1 h3 h7 h3n (z1q.up om) (z3q.up om));have C6:=ke hE (mul_z h6 h6 h8 (z6.up om) (z6.up om));have C7:=ke hE (sub_z h8 h7 h9 (z8.up om) (z7.up om));have C9:=ke hE (sum_f h6 h9 (z6.up om) (z9.up om) (-1) h10);have C10:=ke hE (sum_f h6 h9 (z6.up om) (z9.up om) 1 h11);have U1:Hid (∀ {p:Prop} (h:p:=by ((fail_if_success (go_not_at_region 8));(fail_if_success (have:=hLL));obtain ⟨LL,hLL⟩:=lexi X.out;go_cut [5] (fun s0 wx=>∃ g0,s0=.pointer (some ⟨g0,0,none⟩)∧Sb w (LL++[(g0,#[.bool b6,.string m6,.bool false,.string k6],25)]) [] wx);all_goals exact wkc)),p):=@fun _ h=>h
 have U2:Hid (∀ {p:Prop} (h:p:=by ((fail_if_success (go_not_at_region 10));(fail_if_success (have:=hLL));obtain ⟨LL,hLL⟩:=lexi X.out;go_cut [7] (fun s0 wx=>∃ g0,s0=.pointer (some ⟨g0,0,none⟩)∧Sb w (LL++[(g0,#[.bool b9,.string m9,.bool false,.string k9],25)]) [] wx);all_goals exact wkc)),p):=@fun _ h=>h
 have E1:Hid (∀ {p:Prop} (h:p:=by exact bodyPost_ret (v:=.tuple #[.slice (some ⟨_,0,none⟩) 2 2,.int .i64 0]) (by simp [results,Tryz.results31,go_sem]<;>rfl) rfl ⟨_,rfl,X.out.last.1,X.out.last.2,X.out.bel⟩),p):=@fun _ h=>h
 clear h1 h2 h3 h30 z1q z2q z3q hp hpos h10 h11 hn h3n h4 h5 h6 h7 h8 h9 e2 z2 z5 h50 z4 z6 z7 z8 z9 hE;go_enter Tryz.func31,Tryz.ntmps31;go_upto_region 1 with fail
 refine gs1 (M:=fun W=>Code.wp _ _ _ _ W) (fun V X0=>?_);have X:=hid X0;clear X0;have F:=X.out.facts;simp only [Facts,cellsAt,List.take_succ_cons,List.take_zero,Nat.reduceAdd,and_true,List.set_cons_succ,List.set_cons_zero,List.cons_append,List.nil_append] at F;go_upto_region 2 with fail
 refine an X.out (fun V X0=>?_);replace X:=hid X0;clear X0;replace F:=X.out.facts;simp only [Facts,cellsAt,List.take_succ_cons,List.take_zero,Nat.reduceAdd,and_true,List.set_cons_succ,List.set_cons_zero,List.cons_append,List.nil_append] at F;obtain ⟨LL,hLL⟩:=lexi X.out;go_cut [9] (fun s9 wx=>s9=.bool false∧Sb w LL [] wx)
 case first =>
  go_wp2_with fail
  all_goals (go_meet;subst hLL;exact ⟨rfl,X.out⟩)
 obtain ⟨rfl,hX⟩:=hcut;subst hLL;replace X:=hid hX;clear hX;exact k78
theorem cmp_same {p q:Rat} {b1 b2 c1 s1:Bool} {m1 k1 m2 k2 n1 l1:ByteArray} (hp:Rq p b1 m1 k1) (hq:Rq q b2 m2 k2) (zp:Sz 1500 p) (zq:Sz 1500 q) (w:World) (hE:Env w) :
  Calls prog 34 #[.agg #[.bool b1,.string m1,.bool false,.string k1,.bool c1,.string n1,.bool false,.string l1,.bool s1],.agg #[.bool b2,.string m2,.bool false,.string k2,.bool c1,.string n1,.bool false,.string l1,.bool s1]] w (RetB w (.int .i64 (Sg.sgq (p-q)))):=by
 have C1:=ke hE (cmp_z hp hq (zp.up om) (zq.up om));clear hp hq zp zq hE;go_enter Tryz.func34,Tryz.ntmps34;exact wk0
theorem cmp_yrat {x y:Sg.Rl} {b1 b2 s1:Bool} {m1 k1 m2 k2 n1 l1:ByteArray} (hx:Rv x b1 m1 k1 false n1 l1 s1) (hy:Rv y b2 m2 k2 false ⟨#[]⟩ ⟨#[]⟩ false) (ok:x.Ok) (h0:x.a≠0) (zx:Rz 1500 x) (zy:Rz 1500 y) (w:World) (hE:Env w) :
  Calls prog 34 #[.agg #[.bool b1,.string m1,.bool false,.string k1,.bool false,.string n1,.bool false,.string l1,.bool s1],.agg #[.bool b2,.string m2,.bool false,.string k2,.bool false,.string ⟨#[]⟩,.bool false,.string ⟨#[]⟩,.bool false]] w (RetB w (.int .i64 (Sg.cmpX x (Sg.Rl.of y.p)))):=by
 have hn:=hx.r.ne h0;obtain ⟨h1,h2⟩:=str_ne hn;have h3:=empty_no (size_pos hn);clear hn;have C1:=kn w (isRat_yes b2 false m2 k2);have C2:=ke hE (crat_f hx ok hy.p zx zy.p);clear hx hy ok h0 zx zy hE;go_enter Tryz.func34,Tryz.ntmps34;exact wk0
theorem cmp_xrat {x y:Sg.Rl} {b1 b2 s2:Bool} {m1 k1 m2 k2 n2 l2:ByteArray} (hx:Rv x b1 m1 k1 false ⟨#[]⟩ ⟨#[]⟩ false) (hy:Rv y b2 m2 k2 false n2 l2 s2) (ok:y.Ok) (h0:y.a≠0) (zx:Rz 1500 x) (zy:Rz 1500 y) (w:World) (hE:Env w) :
  Calls prog 34 #[.agg #[.bool b1,.string m1,.bool false,.string k1,.bool false,.string ⟨#[]⟩,.bool false,.string ⟨#[]⟩,.bool false],.agg #[.bool b2,.string m2,.bool false,.string k2,.bool false,.string n2,.bool false,.string l2,.bool s2]] w (RetB w (.int .i64 (-(Sg.cmpX y (Sg.Rl.of x.p))))):=by
 have hn:=hy.r.ne h0;obtain ⟨h1,h2⟩:=str_ne hn.symm;have h3:=empty_no (size_pos hn);have hw:=(wrap_pm (Sg.cmp_three ok (Sg.of_ok x.p))).2;clear hn;have C1:=kn w (isRat_no hy h0);have C2:=kn w (isRat_yes b1 false m1 k1);have C3:=ke hE (crat_f hy ok hx.p zy zx.p);clear hx hy ok h0 zx zy hE;go_enter Tryz.func34,Tryz.ntmps34;exact wk0
theorem cmp_irr {x y:Sg.Rl} {b1 b2 s1 s2:Bool} {m1 k1 n1 l1 m2 k2 n2 l2:ByteArray} (hx:Rv x b1 m1 k1 false n1 l1 s1) (hy:Rv y b2 m2 k2 false n2 l2 s2) (okx:x.Ok) (oky:y.Ok) (hx0:x.a≠0) (hy0:y.a≠0) (zx:Rz 500 x) (zy:Rz 500 y) (hdf:n1≠n2∨(n1=n2∧l1≠l2)∨(n1=n2∧l1=l2∧s1=!s2)) (w:World) (hE:Env w) :
  Calls prog 34 #[.agg #[.bool b1,.string m1,.bool false,.string k1,.bool false,.string n1,.bool false,.string l1,.bool s1],.agg #[.bool b2,.string m2,.bool false,.string k2,.bool false,.string n2,.bool false,.string l2,.bool s2]] w (RetB w (.int .i64 (Sg.cmpP (x.p-y.p) x.s x.a y.s y.a))):=by
 obtain ⟨b3,m3,k3,h3⟩:=Rq.some_ (x.p-y.p);have zd:Sz 1001 (x.p-y.p):=zx.p.sub zy.p;obtain ⟨d,hd⟩:∃ d,d=x.p-y.p:=⟨_,rfl⟩
 rw [←hd] at h3 zd ⊢;obtain ⟨b4,m4,k4,h4⟩:=Rq.some_ (d*d);obtain ⟨b5,m5,k5,h5⟩:=Rq.some_ (d*d+x.a);obtain ⟨b6,m6,k6,h6⟩:=Rq.some_ (d*d+x.a-y.a);obtain ⟨b7,m7,k7,h7⟩:=Rq.some_ (2*d);obtain ⟨b8,m8,k8,h8⟩:=Rq.some_ (2*d*(2*d));obtain ⟨b9,m9,k9,h9⟩:=Rq.some_ (2*d*(2*d)*x.a);have z4:Sz 2002 (d*d):=zd.mul zd;have z5:Sz 2503 (d*d+x.a):=z4.add zx.r;have z6:Sz 3004 (d*d+x.a-y.a):=z5.sub zy.r;have e2:Rq 2 false ⟨#[2]⟩ ⟨#[]⟩:=⟨by rw [←mag_2];exact enc_mag 2,by rw [show (2:Rat).den=1 from rfl];exact dm_one.symm⟩;have z2:Sz 1 2:=⟨by decide,by decide⟩;have z7:Sz 1002 (2*d):=z2.mul zd;have z8:Sz 2004 (2*d*(2*d)):=z7.mul z7;have z9:Sz 2504 (2*d*(2*d)*x.a):=z8.mul zx.r;have sx:=okx.sg;have sy:=oky.sg;have hc:=sos_abs d sx x.a;have hw1:=wrap_ts sy (sgq_abs (d*d+x.a-y.a));have hw2:=wrap_st sx (sgq_abs (2*d));have HP:∀ e,Sg.cmpP d x.s x.a y.s y.a=e↔Sg.cmpP d x.s x.a y.s y.a=e:=fun _=>Iff.rfl
 unfold Sg.cmpP at HP ⊢;obtain ⟨o,ho⟩:∃ o,o=(if Sg.sos d x.s x.a≠y.s then Sg.sos d x.s x.a else if Sg.sgq (2*d)=0 then y.s*Sg.sgq (d*d+x.a-y.a) else y.s*Sg.sos (d*d+x.a-y.a) (Sg.sgq (2*d)*x.s) (2*d*(2*d)*x.a)):=⟨_,rfl⟩
 rw [←ho];clear HP;have P1:=hid (show (Sg.sos d x.s x.a != y.s)=true→o=Sg.sos d x.s x.a from fun h=>by rw [ho,if_pos (by simpa using h)]);have P2:=hid (show (Sg.sos d x.s x.a != y.s)=false→(Sg.sgq (2*d)==0)=true→o=y.s*Sg.sgq (d*d+x.a-y.a) from fun h e=>by rw [ho,if_neg (by simpa using h),if_pos (by simpa using e)]);have P3:=hid (show (Sg.sos d x.s x.a != y.s)=false→(Sg.sgq (2*d)==0)=false→o=y.s*Sg.sos (d*d+x.a-y.a) (Sg.sgq (2*d)*x.s) (2*d*(2*d)*x.a) from fun h e=>by rw [ho,if_neg (by simpa using h),if_neg (by simpa using e)]);clear ho;have C3:=hid (fun V (hb:Below w.heap.size w V)=>sub_z hx.p hy.p (by rw [←hd];exact h3) (zx.p.up om) (zy.p.up om) V (hE.next hb));have C6:=hid (fun V (hb:Below w.heap.size w V)=>sos_f h3 hx.r (zd.up om) (zx.r.up om) sx V (hE.next hb));have HD:=hid hdf
 have hc1:Sg.sos (d*d+x.a-y.a) (Sg.sgq (2*d)*x.s) (2*d*(2*d)*x.a)=-1∨Sg.sos (d*d+x.a-y.a) (Sg.sgq (2*d)*x.s) (2*d*(2*d)*x.a)=0∨Sg.sos (d*d+x.a-y.a) (Sg.sgq (2*d)*x.s) (2*d*(2*d)*x.a)=1:=by
  rcases sgq_abs (2*d) with e | e | e
  · exact sos_abs _ (by rw [e];omega) _
  · right;left;rw [e];unfold Sg.sos;split<;>simp
  · exact sos_abs _ (by rw [e];omega) _
 have hw3:=wrap_ts sy hc1
 have C16:=hid (show ∀ V,Below w.heap.size w V→(Sg.sgq (2*d)==0)=false→Calls prog 87 #[.agg #[.bool b6,.string m6,.bool false,.string k6],.int .i64 (Sg.sgq (2*d)*x.s),.agg #[.bool b9,.string m9,.bool false,.string k9]] V (RetB V (.int .i64 (Sg.sos (d*d+x.a-y.a) (Sg.sgq (2*d)*x.s) (2*d*(2*d)*x.a)))) from fun V hb h=>sos_f h6 h9 (z6.up om) (z9.up om) (by
  rcases sgq_abs (2*d) with e | e | e
  · rw [e];omega
  · rw [e] at h;simp at h
  · rw [e];omega) V (hE.next hb))
 clear hc1;have C12:=hid (fun V (hb:Below w.heap.size w V)=>sign_z h7 V);have C13:=hid (fun V (hb:Below w.heap.size w V)=>sign_z h6 V);generalize Sg.sos (d*d+x.a-y.a) (Sg.sgq (2*d)*x.s) (2*d*(2*d)*x.a)=c1 at *;generalize Sg.sgq (d*d+x.a-y.a)=c0 at *;generalize Sg.sgq (2*d)=v at *;generalize Sg.sos d x.s x.a=u at *;have C1:=kn w (isRat_no hx hx0);have C2:=kn w (isRat_no hy hy0);have C4:=kn w (rootSign_f hx sx);have C5:=kn w (rootSign_f hy sy);have C7:=ke hE (mul_z h3 h3 h4 (zd.up om) (zd.up om));have C8:=ke hE (add_z h4 hx.r h5 (z4.up om) (zx.r.up om));have C9:=ke hE (sub_z h5 hy.r h6 (z5.up om) (zy.r.up om));have C10:=kn w (rFromInt_f (x:=2) e2.num om om);have C11:=ke hE (mul_z e2 h3 h7 (z2.up om) (zd.up om));have C14:=ke hE (mul_z h7 h7 h8 (z7.up om) (z7.up om));have C15:=ke hE (mul_z h8 hx.r h9 (z8.up om) (zx.r.up om));have U1:Hid (∀ {p:Prop} (h:p:=by ((fail_if_success (go_not_at_region 11));(fail_if_success (have:=hLL));obtain ⟨LL,hLL⟩:=lexi X.out;go_cut [8] (fun s0 wx=>∃ g0,s0=.pointer (some ⟨g0,0,none⟩)∧Sb w (LL++[(g0,#[.bool b6,.string m6,.bool false,.string k6],25)]) [] wx);all_goals exact wkc)),p):=@fun _ h=>h
 have U2:Hid (∀ {p:Prop} (h:p:=by ((fail_if_success (go_not_at_region 12));(fail_if_success (have:=hLL));obtain ⟨LL,hLL⟩:=lexi X.out;go_cut [9] (fun s0 wx=>∃ g0,s0=.pointer (some ⟨g0,0,none⟩)∧Sb w (LL++[(g0,#[.bool b7,.string m7,.bool false,.string k7],25)]) [] wx);all_goals exact wkc)),p):=@fun _ h=>h
 have U3:Hid (∀ {p:Prop} (h:p:=by ((fail_if_success (go_not_at_region 15));(fail_if_success (have:=hLL));obtain ⟨LL,hLL⟩:=lexi X.out;go_cut [10] (fun s0 wx=>∃ g0,s0=.pointer (some ⟨g0,0,none⟩)∧Sb w (LL++[(g0,#[.bool b9,.string m9,.bool false,.string k9],25)]) [] wx);all_goals exact wkc)),p):=@fun _ h=>h
 clear hx hy okx oky hx0 hy0 zx zy h3 h4 h5 h6 h7 h8 h9 zd z2 z4 z5 z6 z7 z8 z9 e2 hd hdf hE;go_enter Tryz.func34,Tryz.ntmps34;go_upto_region 1 with fail
 refine gs2 (M:=fun W=>Code.wp _ _ _ _ W) (fun V X0=>?_);have X:=hid X0;clear X0;have F:=X.out.facts;simp only [Facts,cellsAt,List.take_succ_cons,List.take_zero,Nat.reduceAdd,and_true,List.set_cons_succ,List.set_cons_zero,List.cons_append,List.nil_append] at F;go_cut [11] (fun s11 wx=>s11=.bool false∧Sb w [(w.heap.size,#[.bool b1,.string m1,.bool false,.string k1,.bool false,.string n1,.bool false,.string l1,.bool s1],27),(w.heap.size+1,#[.bool b2,.string m2,.bool false,.string k2,.bool false,.string n2,.bool false,.string l2,.bool s2],27)] [] wx)
 case first =>
  rcases HD.out with hn | ⟨rfl,hn⟩ | ⟨rfl,rfl,hs⟩
  · exact k123
  · exact k123
  · clear HD
    cases s2<;>(obtain rfl:=hs) <;>
     (go_wp2_with fail
      go_meet;exact ⟨rfl,X.out⟩)
 obtain ⟨rfl,hX⟩:=hcut;replace X:=hid hX;clear hX HD;exact k78
theorem Rq.dsize {q:Rat} {b:Bool} {m k:ByteArray} {n:Nat} (h:Rq q b m k) (hs:(Go.Proofs.YtpnokfgplnmjpaaGreatDoor.mag q.den).size≤n):k.size≤n:=by
 by_cases hd:q.den=1
 · rw [h.den1 hd];exact Nat.zero_le _
 · rw [h.den2 hd];exact hs
theorem fmk_sq {p q r:Rat} {b1 b2 b3 b6:Bool} {m1 k1 m2 k2 m3 k3 m6 k6:ByteArray} (hp:Rq p b1 m1 k1) (hq:Rq q b2 m2 k2) (hr:Rq r b3 m3 k3) (hs:Sg.Sq r) (h6:Rq (p+q*Sg.rt r) b6 m6 k6) (zp:Sz 2000 p) (zq:Sz 2000 q) (zr:Sz (7999+1) r) (w:World) :
  Calls prog 29 #[.agg #[.bool b1,.string m1,.bool false,.string k1],.agg #[.bool b2,.string m2,.bool false,.string k2],.agg #[.bool b3,.string m3,.bool false,.string k3]] w (RetB w (.agg #[.bool b6,.string m6,.bool false,.string k6,.bool false,.string ⟨#[]⟩,.bool false,.string ⟨#[]⟩,.bool false])):=by
 obtain ⟨b4,m4,k4,h4⟩:=Rq.some_ (Sg.rt r);obtain ⟨b5,m5,k5,h5⟩:=Rq.some_ (q*Sg.rt r);have z4:=zr.root;have z5:Sz 10000 (q*Sg.rt r):=zq.mul z4;have C1:=kn w ((root_yes_z hr (zr.up om) hs h4).2);have C2:=kn w (rmul_z hq h4 h5 (zq.up om) (z4.up om));have C3:=kn w (radd_z hp h5 h6 (zp.up om) z5);have RS:=hid Tryz.results29;clear hp hq hr hs h6 zp zq zr h4 h5 z4 z5;go_enter Tryz.func29,Tryz.ntmps29;exact wk0
theorem fmk_zero {r:Rat} {b1 b3:Bool} {m1 k1 m3 k3:ByteArray} (hr:Rq r b3 m3 k3) (hs:¬Sg.Sq r) (zr:Sz 9000 r) (w:World) :
  Calls prog 29 #[.agg #[.bool b1,.string m1,.bool false,.string k1],.agg #[.bool false,.string ⟨#[]⟩,.bool false,.string ⟨#[]⟩],.agg #[.bool b3,.string m3,.bool false,.string k3]] w (RetB w (.agg #[.bool b1,.string m1,.bool false,.string k1,.bool false,.string ⟨#[]⟩,.bool false,.string ⟨#[]⟩,.bool false])):=by
 have C1:=kn w ((root_no_z hr zr hs).2);have C2:=kn w (zero_any);have RS:=hid Tryz.results29;clear hr hs zr;go_enter Tryz.func29,Tryz.ntmps29;exact wk0
theorem fmk_irr_true {q r:Rat} {b1 b3 b5:Bool} {m1 k1 m3 k3 m5 k5:ByteArray} {m2 k2:ByteArray} (hq:Rq q true m2 k2) (hq0:q≠0) (hr:Rq r b3 m3 k3) (hs:¬Sg.Sq r) (h5:Rq (q*q*r) b5 m5 k5) (zq:Sz 2000 q) (zr:Sz 2000 r) (w:World) :
  Calls prog 29 #[.agg #[.bool b1,.string m1,.bool false,.string k1],.agg #[.bool true,.string m2,.bool false,.string k2],.agg #[.bool b3,.string m3,.bool false,.string k3]] w (RetB w (.agg #[.bool b1,.string m1,.bool false,.string k1,.bool b5,.string m5,.bool false,.string k5,.bool (decide (Sg.sgq q<0))])):=by
 exact k36
theorem fmk_irr_false {q r:Rat} {b1 b3 b5:Bool} {m1 k1 m3 k3 m5 k5:ByteArray} {m2 k2:ByteArray} (hq:Rq q false m2 k2) (hq0:q≠0) (hr:Rq r b3 m3 k3) (hs:¬Sg.Sq r) (h5:Rq (q*q*r) b5 m5 k5) (zq:Sz 2000 q) (zr:Sz 2000 r) (w:World) :
  Calls prog 29 #[.agg #[.bool b1,.string m1,.bool false,.string k1],.agg #[.bool false,.string m2,.bool false,.string k2],.agg #[.bool b3,.string m3,.bool false,.string k3]] w (RetB w (.agg #[.bool b1,.string m1,.bool false,.string k1,.bool b5,.string m5,.bool false,.string k5,.bool (decide (Sg.sgq q<0))])):=by
 exact k36
theorem sgq_lt {q:Rat}:Sg.sgq q<0↔q<0:=by
 rcases Sg.sgq_three q with ⟨h,e⟩ | ⟨h,e⟩ | ⟨h,e⟩<;>rw [e]
 · simp [h]
 · subst h;simp
 · constructor
   · intro h1;omega
   · intro h1;grind
theorem fmk_f {p q r:Rat} {b1 b2 b3:Bool} {m1 k1 m2 k2 m3 k3:ByteArray} {b6 c6 s6:Bool} {m6 k6 n6 l6:ByteArray} (hp:Rq p b1 m1 k1) (hq:Rq q b2 m2 k2) (hr:Rq r b3 m3 k3) (zp:Sz 2000 p) (zq:Sz 2000 q) (zr:Sz 2000 r) (h6:Rv (Sg.mkR p q r) b6 m6 k6 c6 n6 l6 s6) (w:World) :
  Calls prog 29 #[.agg #[.bool b1,.string m1,.bool false,.string k1],.agg #[.bool b2,.string m2,.bool false,.string k2],.agg #[.bool b3,.string m3,.bool false,.string k3]] w (RetB w (.agg #[.bool b6,.string m6,.bool false,.string k6,.bool c6,.string n6,.bool false,.string l6,.bool s6])):=by
 unfold Sg.mkR at h6;by_cases hs:Sg.Sq r
 · rw [if_pos hs] at h6;obtain ⟨rfl,rfl,rfl⟩:=h6.r.nought.1 rfl;obtain rfl:s6=false:=h6.neg;exact fmk_sq hp hq hr hs h6.p zp zq (zr.up om) w
 · rw [if_neg hs] at h6;by_cases hq0:q=0
   · rw [if_pos hq0] at h6;obtain ⟨rfl,rfl,rfl⟩:=h6.r.nought.1 rfl;obtain rfl:s6=false:=h6.neg;obtain ⟨rfl,rfl,rfl⟩:=hq.nought.1 hq0;obtain ⟨rfl,rfl,rfl⟩:=h6.p.inj hp;exact fmk_zero hr hs (zr.up om) w
   · rw [if_neg hq0] at h6;obtain ⟨rfl,rfl,rfl⟩:=h6.p.inj hp
     obtain rfl:s6=decide (Sg.sgq q<0):=by
      rw [h6.neg];by_cases h:q<0
      · simp [h,sgq_lt.2 h]
      · have h':¬Sg.sgq q<0:=fun e=>h (sgq_lt.1 e)
        simp [h,h']
     cases b2
     · exact fmk_irr_false hq hq0 hr hs h6.r zq zr w
     · exact fmk_irr_true hq hq0 hr hs h6.r zq zr w
theorem rchk_rat {p:Rat} {b1:Bool} {m1 k1:ByteArray} (hp:Rq p b1 m1 k1) (zp:Sz 10000 p) (w:World) (hE:Env w) :
  Calls prog 18 #[.agg #[.bool b1,.string m1,.bool false,.string k1,.bool false,.string ⟨#[]⟩,.bool false,.string ⟨#[]⟩,.bool false]] w (RetB w (.int .i64 0)):=by
 have t1:=(zp.m hp (Nat.le_refl _)).1;have t2:=hp.dsize (zp.m hp (Nat.le_refl _)).2;have C1:=ke hE (ratCheck_f hp om om);have C2:=ke hE (ratCheck_f Rq.zero dc dc);have C3:=kn w (isRat_yes b1 false m1 k1);clear hp zp t1 t2 hE;go_enter Tryz.func18,Tryz.ntmps18;exact wk0
theorem rchk_irr {x:Sg.Rl} {b1 c1 s1:Bool} {m1 k1 n1 l1:ByteArray} (hx:Rv x b1 m1 k1 c1 n1 l1 s1) (hx0:0<x.a) (hn:¬Sg.Sq x.a) (zx:Rz 9000 x) (w:World) (hE:Env w) :
  Calls prog 18 #[.agg #[.bool b1,.string m1,.bool false,.string k1,.bool c1,.string n1,.bool false,.string l1,.bool s1]] w (RetB w (.int .i64 0)):=by
 have t1:=((zx.p.up om).m hx.p (Nat.le_refl _)).1;have t2:=hx.p.dsize ((zx.p.up om).m hx.p (Nat.le_refl _)).2;have t3:=((zx.r.up om).m hx.r (Nat.le_refl _)).1;have t4:=hx.r.dsize ((zx.r.up om).m hx.r (Nat.le_refl _)).2;have hne:x.a≠0:=by grind
 have C4:=hid (fun V (_:Below w.heap.size w V)=>sign_z hx.r V);rw [Sg.sgq_pos hx0] at C4;have C1:=ke hE (ratCheck_f hx.p om om);have C2:=ke hE (ratCheck_f hx.r om om);have C3:=kn w (isRat_no hx hne);have C5:=ke hE ((root_no_z hx.r zx.r hn).1);clear hx hx0 hn zx t1 t2 t3 t4 hne hE;go_enter Tryz.func18,Tryz.ntmps18;exact wk0
theorem rchk_ok {x:Sg.Rl} {b1 c1 s1:Bool} {m1 k1 n1 l1:ByteArray} (hx:Rv x b1 m1 k1 c1 n1 l1 s1) (ok:x.Ok) (zx:Rz 9000 x) (w:World) (hE:Env w):Calls prog 18 #[.agg #[.bool b1,.string m1,.bool false,.string k1,.bool c1,.string n1,.bool false,.string l1,.bool s1]] w (RetB w (.int .i64 0)):=by
 rcases Sg.ok_cases ok with ⟨ha,e⟩ | ⟨ha,hn⟩
 · obtain ⟨rfl,rfl,rfl⟩:=hx.r.nought.1 ha;obtain rfl:s1=false:=by rw [hx.neg,e];rfl
   exact rchk_rat hx.p (zx.p.up om) w hE
 · exact rchk_irr hx ha hn zx w hE
theorem at_ {M:World→Prop} (g:Nat) (k:Nat) {W:World} {y:Value} (h:M (W.setCell ⟨g,k,none⟩ y)):M (W.setCell ⟨g,k,none⟩ y):=h
theorem simp_next (w:World) {z1:Bool} {y1:ByteArray} {b1 c1 s1:Bool} {m1 k1 n1 l1:ByteArray} {b2 c2 s2:Bool} {m2 k2 n2 l2:ByteArray} {b3:Bool} {m3 k3:ByteArray} {c:Int} (hc:0<c) (HF:∀ V,Below w.heap.size w V→Calls prog 52 #[.agg #[.bool b1,.string m1,.bool false,.string k1,.bool c1,.string n1,.bool false,.string l1,.bool s1]] V (RetB V (.agg #[.bool z1,.string y1]))) (HW:∀ V,Below w.heap.size w V→Calls prog 73 #[.int .i64 (1)] V (RetB V (.agg #[.bool false,.string ⟨#[1]⟩,.bool false,.string ⟨#[]⟩]))) (HA:∀ V,Below w.heap.size w V→Calls prog 89 #[.agg #[.bool z1,.string y1,.bool false,.string ⟨#[]⟩],.agg #[.bool false,.string ⟨#[1]⟩,.bool false,.string ⟨#[]⟩]] V (RetB V (.agg #[.bool b3,.string m3,.bool false,.string k3]))) (HC:∀ V,Below w.heap.size w V→Calls prog 38 #[.agg #[.bool b2,.string m2,.bool false,.string k2,.bool c2,.string n2,.bool false,.string l2,.bool s2],.agg #[.bool b3,.string m3,.bool false,.string k3]] V (RetB V (.int .i64 c))) :
  Calls prog 109 #[.agg #[.bool b1,.string m1,.bool false,.string k1,.bool c1,.string n1,.bool false,.string l1,.bool s1],.agg #[.bool b2,.string m2,.bool false,.string k2,.bool c2,.string n2,.bool false,.string l2,.bool s2]] w (RetB w (.agg #[.bool b3,.string m3,.bool false,.string k3])):=by
 have C1:=hid HF;have C2:=hid HW;have C3:=hid HA;have C4:=hid HC;have U1:Hid (∀ {p:Prop} (h:p:=by ((fail_if_success (go_not_at_region 2));(fail_if_success (have:=hLL));obtain ⟨LL,hLL⟩:=lexi X.out;go_cut [6] (fun s0 wx=>∃ g0,s0=.pointer (some ⟨g0,0,none⟩)∧Sb w (LL++[(g0,#[.bool b3,.string m3,.bool false,.string k3],25)]) [] wx);all_goals exact wkc)),p):=@fun _ h=>h
 have RS:=hid Tryz.results109;clear HF HW HA HC ;go_enter Tryz.func109,Tryz.ntmps109;exact wk0
theorem simp_rec (w:World) {z1:Bool} {y1:ByteArray} {b1 c1 s1:Bool} {m1 k1 n1 l1:ByteArray} {b2 c2 s2:Bool} {m2 k2 n2 l2:ByteArray} {b5 c5 s5:Bool} {m5 k5 n5 l5:ByteArray} {b6 c6 s6:Bool} {m6 k6 n6 l6:ByteArray} {b7 c7 s7:Bool} {m7 k7 n7 l7:ByteArray} {b8 c8 s8:Bool} {m8 k8 n8 l8:ByteArray} {b3 b4 b9 b10 b11:Bool} {m3 k3 m4 k4 m9 k9 m10 k10 m11 k11:ByteArray} {c:Int} (hc:¬0<c) (HF:∀ V,Below w.heap.size w V→Calls prog 52 #[.agg #[.bool b1,.string m1,.bool false,.string k1,.bool c1,.string n1,.bool false,.string l1,.bool s1]] V (RetB V (.agg #[.bool z1,.string y1]))) (HW:∀ V,Below w.heap.size w V→Calls prog 73 #[.int .i64 (1)] V (RetB V (.agg #[.bool false,.string ⟨#[1]⟩,.bool false,.string ⟨#[]⟩]))) (HA:∀ V,Below w.heap.size w V→Calls prog 89 #[.agg #[.bool z1,.string y1,.bool false,.string ⟨#[]⟩],.agg #[.bool false,.string ⟨#[1]⟩,.bool false,.string ⟨#[]⟩]] V (RetB V (.agg #[.bool b3,.string m3,.bool false,.string k3]))) (HC:∀ V,Below w.heap.size w V→Calls prog 38 #[.agg #[.bool b2,.string m2,.bool false,.string k2,.bool c2,.string n2,.bool false,.string l2,.bool s2],.agg #[.bool b3,.string m3,.bool false,.string k3]] V (RetB V (.int .i64 c))) (HN:∀ V,Below w.heap.size w V→Calls prog 80 #[.agg #[.bool z1,.string y1,.bool false,.string ⟨#[]⟩]] V (RetB V (.agg #[.bool b4,.string m4,.bool false,.string k4]))) (HS1:∀ V,Below w.heap.size w V→Calls prog 44 #[.agg #[.bool b1,.string m1,.bool false,.string k1,.bool c1,.string n1,.bool false,.string l1,.bool s1],.agg #[.bool b4,.string m4,.bool false,.string k4]] V (RetB V (.agg #[.bool b5,.string m5,.bool false,.string k5,.bool c5,.string n5,.bool false,.string l5,.bool s5]))) (HS2:∀ V,Below w.heap.size w V→Calls prog 44 #[.agg #[.bool b2,.string m2,.bool false,.string k2,.bool c2,.string n2,.bool false,.string l2,.bool s2],.agg #[.bool b4,.string m4,.bool false,.string k4]] V (RetB V (.agg #[.bool b6,.string m6,.bool false,.string k6,.bool c6,.string n6,.bool false,.string l6,.bool s6]))) (HI1:∀ V,Below w.heap.size w V→Calls prog 50 #[.agg #[.bool b6,.string m6,.bool false,.string k6,.bool c6,.string n6,.bool false,.string l6,.bool s6]] V (RetB V (.tuple #[.agg #[.bool b7,.string m7,.bool false,.string k7,.bool c7,.string n7,.bool false,.string l7,.bool s7],.int .i64 0]))) (HI2:∀ V,Below w.heap.size w V→Calls prog 50 #[.agg #[.bool b5,.string m5,.bool false,.string k5,.bool c5,.string n5,.bool false,.string l5,.bool s5]] V (RetB V (.tuple #[.agg #[.bool b8,.string m8,.bool false,.string k8,.bool c8,.string n8,.bool false,.string l8,.bool s8],.int .i64 0]))) (HR:∀ V,Below w.heap.size w V→Calls prog 109 #[.agg #[.bool b7,.string m7,.bool false,.string k7,.bool c7,.string n7,.bool false,.string l7,.bool s7],.agg #[.bool b8,.string m8,.bool false,.string k8,.bool c8,.string n8,.bool false,.string l8,.bool s8]] V (RetB V (.agg #[.bool b9,.string m9,.bool false,.string k9]))) (HD:∀ V,Below w.heap.size w V→Calls prog 79 #[.agg #[.bool false,.string ⟨#[1]⟩,.bool false,.string ⟨#[]⟩],.agg #[.bool b9,.string m9,.bool false,.string k9]] V (RetB V (.agg #[.bool b10,.string m10,.bool false,.string k10]))) (HZ:∀ V,Below w.heap.size w V→Calls prog 89 #[.agg #[.bool z1,.string y1,.bool false,.string ⟨#[]⟩],.agg #[.bool b10,.string m10,.bool false,.string k10]] V (RetB V (.agg #[.bool b11,.string m11,.bool false,.string k11]))) :
  Calls prog 109 #[.agg #[.bool b1,.string m1,.bool false,.string k1,.bool c1,.string n1,.bool false,.string l1,.bool s1],.agg #[.bool b2,.string m2,.bool false,.string k2,.bool c2,.string n2,.bool false,.string l2,.bool s2]] w (RetB w (.agg #[.bool b11,.string m11,.bool false,.string k11])):=by
 have C1:=hid HF;have C2:=hid HW;have C3:=hid HA;have C4:=hid HC;have C5:=hid HN;have C6:=hid HS1;have C7:=hid HS2;have C8:=hid HI1;have C9:=hid HI2;have C10:=hid HR;have C11:=hid HD;have C12:=hid HZ;have U1:Hid (∀ {p:Prop} (h:p:=by ((fail_if_success (go_not_at_region 2));(fail_if_success (have:=hLL));obtain ⟨LL,hLL⟩:=lexi X.out;go_cut [6] (fun s0 wx=>∃ g0,s0=.pointer (some ⟨g0,0,none⟩)∧Sb w (LL++[(g0,#[.bool b3,.string m3,.bool false,.string k3],25)]) [] wx);all_goals exact wkc)),p):=@fun _ h=>h
 have RS:=hid Tryz.results109;clear HF HW HA HC HN HS1 HS2 HI1 HI2 HR HD HZ ;go_enter Tryz.func109,Tryz.ntmps109;exact wk0
theorem simp_open (w:World) {z1:Bool} {y1:ByteArray} {b1 c1 s1:Bool} {m1 k1 n1 l1:ByteArray} {b2 c2 s2:Bool} {m2 k2 n2 l2:ByteArray} {b5 c5 s5:Bool} {m5 k5 n5 l5:ByteArray} {b6 c6 s6:Bool} {m6 k6 n6 l6:ByteArray} {b7 c7 s7:Bool} {m7 k7 n7 l7:ByteArray} {b8 c8 s8:Bool} {m8 k8 n8 l8:ByteArray} {b3 b4 b9 b10 b11:Bool} {m3 k3 m4 k4 m9 k9 m10 k10 m11 k11:ByteArray} {c:Int} (hc:¬0<c) (HF:∀ V,Below w.heap.size w V→Calls prog 52 #[.agg #[.bool b1,.string m1,.bool false,.string k1,.bool c1,.string n1,.bool false,.string l1,.bool s1]] V (RetB V (.agg #[.bool z1,.string y1]))) (HW:∀ V,Below w.heap.size w V→Calls prog 73 #[.int .i64 (1)] V (RetB V (.agg #[.bool false,.string ⟨#[1]⟩,.bool false,.string ⟨#[]⟩]))) (HA:∀ V,Below w.heap.size w V→Calls prog 89 #[.agg #[.bool z1,.string y1,.bool false,.string ⟨#[]⟩],.agg #[.bool false,.string ⟨#[1]⟩,.bool false,.string ⟨#[]⟩]] V (RetB V (.agg #[.bool b3,.string m3,.bool false,.string k3]))) (HC:∀ V,Below w.heap.size w V→Calls prog 38 #[.agg #[.bool b2,.string m2,.bool false,.string k2,.bool c2,.string n2,.bool false,.string l2,.bool s2],.agg #[.bool b3,.string m3,.bool false,.string k3]] V (RetB V (.int .i64 c))) (HN:∀ V,Below w.heap.size w V→Calls prog 80 #[.agg #[.bool z1,.string y1,.bool false,.string ⟨#[]⟩]] V (RetB V (.agg #[.bool b4,.string m4,.bool false,.string k4]))) (HS1:∀ V,Below w.heap.size w V→Calls prog 44 #[.agg #[.bool b1,.string m1,.bool false,.string k1,.bool c1,.string n1,.bool false,.string l1,.bool s1],.agg #[.bool b4,.string m4,.bool false,.string k4]] V (RetB V (.agg #[.bool b5,.string m5,.bool false,.string k5,.bool c5,.string n5,.bool false,.string l5,.bool s5]))) (HS2:∀ V,Below w.heap.size w V→Calls prog 44 #[.agg #[.bool b2,.string m2,.bool false,.string k2,.bool c2,.string n2,.bool false,.string l2,.bool s2],.agg #[.bool b4,.string m4,.bool false,.string k4]] V (RetB V (.agg #[.bool b6,.string m6,.bool false,.string k6,.bool c6,.string n6,.bool false,.string l6,.bool s6]))) (HI1:∀ V,Below w.heap.size w V→Calls prog 50 #[.agg #[.bool b6,.string m6,.bool false,.string k6,.bool c6,.string n6,.bool false,.string l6,.bool s6]] V (RetB V (.tuple #[.agg #[.bool b7,.string m7,.bool false,.string k7,.bool c7,.string n7,.bool false,.string l7,.bool s7],.int .i64 0]))) (HI2:∀ V,Below w.heap.size w V→Calls prog 50 #[.agg #[.bool b5,.string m5,.bool false,.string k5,.bool c5,.string n5,.bool false,.string l5,.bool s5]] V (RetB V (.tuple #[.agg #[.bool false,.string ⟨#[]⟩,.bool false,.string ⟨#[]⟩,.bool false,.string ⟨#[]⟩,.bool false,.string ⟨#[]⟩,.bool false],.int .i64 6]))) (HW2:∀ V,Below w.heap.size w V→Calls prog 73 #[.int .i64 (2)] V (RetB V (.agg #[.bool false,.string ⟨#[2]⟩,.bool false,.string ⟨#[]⟩]))) (HS3:∀ V,Below w.heap.size w V→Calls prog 44 #[.agg #[.bool b7,.string m7,.bool false,.string k7,.bool c7,.string n7,.bool false,.string l7,.bool s7],.agg #[.bool false,.string ⟨#[2]⟩,.bool false,.string ⟨#[]⟩]] V (RetB V (.agg #[.bool b8,.string m8,.bool false,.string k8,.bool c8,.string n8,.bool false,.string l8,.bool s8]))) (HR:∀ V,Below w.heap.size w V→Calls prog 109 #[.agg #[.bool b7,.string m7,.bool false,.string k7,.bool c7,.string n7,.bool false,.string l7,.bool s7],.agg #[.bool b8,.string m8,.bool false,.string k8,.bool c8,.string n8,.bool false,.string l8,.bool s8]] V (RetB V (.agg #[.bool b9,.string m9,.bool false,.string k9]))) (HD:∀ V,Below w.heap.size w V→Calls prog 79 #[.agg #[.bool false,.string ⟨#[1]⟩,.bool false,.string ⟨#[]⟩],.agg #[.bool b9,.string m9,.bool false,.string k9]] V (RetB V (.agg #[.bool b10,.string m10,.bool false,.string k10]))) (HZ:∀ V,Below w.heap.size w V→Calls prog 89 #[.agg #[.bool z1,.string y1,.bool false,.string ⟨#[]⟩],.agg #[.bool b10,.string m10,.bool false,.string k10]] V (RetB V (.agg #[.bool b11,.string m11,.bool false,.string k11]))) :
  Calls prog 109 #[.agg #[.bool b1,.string m1,.bool false,.string k1,.bool c1,.string n1,.bool false,.string l1,.bool s1],.agg #[.bool b2,.string m2,.bool false,.string k2,.bool c2,.string n2,.bool false,.string l2,.bool s2]] w (RetB w (.agg #[.bool b11,.string m11,.bool false,.string k11])):=by
 have C1:=hid HF;have C2:=hid HW;have C3:=hid HA;have C4:=hid HC;have C5:=hid HN;have C6:=hid HS1;have C7:=hid HS2;have C8:=hid HI1;have C9:=hid HI2;have C10:=hid HW2;have C11:=hid HS3;have C12:=hid HR;have C13:=hid HD;have C14:=hid HZ;have U1:Hid (∀ {p:Prop} (h:p:=by ((fail_if_success (go_not_at_region 2));(fail_if_success (have:=hLL));obtain ⟨LL,hLL⟩:=lexi X.out;go_cut [6] (fun s0 wx=>∃ g0,s0=.pointer (some ⟨g0,0,none⟩)∧Sb w (LL++[(g0,#[.bool b3,.string m3,.bool false,.string k3],25)]) [] wx);all_goals exact wkc)),p):=@fun _ h=>h
 have RS:=hid Tryz.results109;clear HF HW HA HC HN HS1 HS2 HI1 HI2 HW2 HS3 HR HD HZ ;go_enter Tryz.func109,Tryz.ntmps109;exact wk0
theorem btw_pos (w:World) {b1 c1 s1:Bool} {m1 k1 n1 l1:ByteArray} {b2 c2 s2:Bool} {m2 k2 n2 l2:ByteArray} {b3:Bool} {m3 k3:ByteArray} {c s:Int} (hc:c<0) (hs:0≤s) (HC1:∀ V,Below w.heap.size w V→Calls prog 18 #[.agg #[.bool b1,.string m1,.bool false,.string k1,.bool c1,.string n1,.bool false,.string l1,.bool s1]] V (RetB V (.int .i64 (0)))) (HC2:∀ V,Below w.heap.size w V→Calls prog 18 #[.agg #[.bool b2,.string m2,.bool false,.string k2,.bool c2,.string n2,.bool false,.string l2,.bool s2]] V (RetB V (.int .i64 (0)))) (HC:∀ V,Below w.heap.size w V→Calls prog 34 #[.agg #[.bool b1,.string m1,.bool false,.string k1,.bool c1,.string n1,.bool false,.string l1,.bool s1],.agg #[.bool b2,.string m2,.bool false,.string k2,.bool c2,.string n2,.bool false,.string l2,.bool s2]] V (RetB V (.int .i64 c))) (HI:∀ V,Below w.heap.size w V→Calls prog 70 #[.agg #[.bool b1,.string m1,.bool false,.string k1,.bool c1,.string n1,.bool false,.string l1,.bool s1]] V (RetB V (.bool false))) (HS:∀ V,Below w.heap.size w V→Calls prog 39 #[.agg #[.bool b1,.string m1,.bool false,.string k1,.bool c1,.string n1,.bool false,.string l1,.bool s1]] V (RetB V (.int .i64 s))) (HR:∀ V,Below w.heap.size w V→Calls prog 109 #[.agg #[.bool b1,.string m1,.bool false,.string k1,.bool c1,.string n1,.bool false,.string l1,.bool s1],.agg #[.bool b2,.string m2,.bool false,.string k2,.bool c2,.string n2,.bool false,.string l2,.bool s2]] V (RetB V (.agg #[.bool b3,.string m3,.bool false,.string k3]))) :
  Calls prog 56 #[.agg #[.bool b1,.string m1,.bool false,.string k1,.bool c1,.string n1,.bool false,.string l1,.bool s1],.agg #[.bool b2,.string m2,.bool false,.string k2,.bool c2,.string n2,.bool false,.string l2,.bool s2]] w (RetB w (.tuple #[.agg #[.bool b3,.string m3,.bool false,.string k3],.int .i64 0])):=by
 have C1:=hid HC1;have C2:=hid HC2;have C3:=hid HC;have C4:=hid HI;have C5:=hid HS;have C6:=hid HR;have RS:=hid Tryz.results56;clear HC1 HC2 HC HI HS HR ;go_enter Tryz.func56,Tryz.ntmps56;exact wk0
end Go.Proofs.YtpnokfgplnmjpaaGreatDoor
namespace Go.Proofs.YtpnokfgplnmjpaaGreatDoor
open Go.RowKit
attribute [local go_sem ↓] Go.wp_at_zero Go.wp_at_succ
attribute [local go_sem] undef yielded
theorem rCheck_no (b:Bool) (m:ByteArray) (c:Bool) (k:ByteArray) (s1:m.size≤100000) (s2:k.size≤100000) (hno:¬(c=false∧∃ q,Rq q b m k)) (w:World) :
  Calls prog 57 #[.agg #[.bool b,.string m,.bool c,.string k]] w (RetB w (.bool false)):=by
 have HC1:=hid (fun V=>isInt_any b m V);have HC2:=hid (fun V=>isInt_any c k V);rcases rq_cases b m c k with h | h | ⟨h1,h2⟩ | ⟨h1,h2,h3⟩ | ⟨h1,h2,h3,h4⟩ | ⟨x,d,hx,h3,h4,h5,h6⟩
 · exact absurd h hno
 · rw [h] at HC1;clear h hno;have X:=hid ((Sb.start w).new #[.bool b,.string m,.bool c,.string k] 25);have X:=hid (X.out.pick [0] [(w.heap.size,#[.bool b,.string m,.bool c,.string k],25)] [] (by simp) dc (by simp));obtain ⟨a0,a1,a2,a3⟩:=X.out.c4 (i:=0) rfl;go_enter Tryz.func57,Tryz.ntmps57;go_wp2_with fail
   refine (HC1.out _).mono ?_;rintro e w1 ⟨rfl,hb9⟩;have X:=hid (X.out.next hb9);clear hb9;clear a0 a1 a2 a3;go_wp2
   go_ret
   exact ⟨rfl,X.out.bel⟩
 · rw [h1] at HC1;rw [h2] at HC2;clear h1 h2 hno;have X:=hid ((Sb.start w).new #[.bool b,.string m,.bool c,.string k] 25);have X:=hid (X.out.pick [0] [(w.heap.size,#[.bool b,.string m,.bool c,.string k],25)] [] (by simp) dc (by simp));exact k22
 · rw [h1] at HC1;rw [h2] at HC2;clear h1 h2 hno;subst h3;have X:=hid ((Sb.start w).new #[.bool b,.string m,.bool true,.string k] 25);have X:=hid (X.out.pick [0] [(w.heap.size,#[.bool b,.string m,.bool true,.string k],25)] [] (by simp) dc (by simp));exact k22
 · rw [h1] at HC1;rw [h2] at HC2;subst h3;have hl1:k.toList=[1]:=by rw [h4,ByteArray.toList_eq]
   have hk0:k.toList.isEmpty=false:=by rw [hl1];rfl
   have HD1:=hid (fun V=>rdigits b m V om);have HD2:=hid (fun V=>rdigits false k V om);have HN0:=hid (show nd (bval m)≤100000 from Nat.le_trans (nd_le (bval_lt m)) s1);have HN1:=hid (show nd (bval k)≤100000 from Nat.le_trans (nd_le (bval_lt k)) s2);clear h1 h2 hno h4;have X:=hid ((Sb.start w).new #[.bool b,.string m,.bool false,.string k] 25);have X:=hid (X.out.pick [0] [(w.heap.size,#[.bool b,.string m,.bool false,.string k],25)] [] (by simp) dc (by simp));obtain ⟨a0,a1,a2,a3⟩:=X.out.c4 (i:=0) rfl;go_enter Tryz.func57,Tryz.ntmps57;go_wp2_with fail
   refine (HC1.out _).mono ?_;rintro e w1 ⟨rfl,hb9⟩;have X:=hid (X.out.next hb9);clear hb9;clear a0 a1 a2 a3;obtain ⟨a0,a1,a2,a3⟩:=X.out.c4 (i:=0) rfl;go_wp2_with fail
   refine (HC2.out _).mono ?_;rintro e w2 ⟨rfl,hb9⟩;have X:=hid (X.out.next hb9);clear hb9;clear a0 a1 a2 a3;obtain ⟨a0,a1,a2,a3⟩:=X.out.c4 (i:=0) rfl;go_upto_region 5 with fail
   clear a0 a1 a2 a3;refine wp_region_late (S:=fun w'=>(w'.cell? ⟨w.heap.size,0,none⟩=some (.bool b)∧w'.cell? ⟨w.heap.size,1,none⟩=some (.string m)∧w'.cell? ⟨w.heap.size,2,none⟩=some (.bool false)∧w'.cell? ⟨w.heap.size,3,none⟩=some (.string k))) (L:=[]) kx ?_;have X:=hid X.out.drew;obtain ⟨V0,hV⟩:=wexi X.out;rw [←hV] at X ⊢;clear hV;refine tk (i:=0) (oi:=⟨some 23,_,_,_,_,_⟩) (v:=_) rfl kx ix (X.out.c4 (i:=0) rfl) sl ?_;try simp only [Act.put,seti,set0,setS]
   refine tk (i:=1) (oi:=⟨some 24,_,_,_,_,_⟩) (v:=_) rfl kx ix (X.out.c4 (i:=0) rfl) sl ?_;try simp only [Act.put,seti,set0,setS]
   refine tk (i:=3) (oi:=⟨some 26,_,_,_,_,_⟩) (v:=_) rfl kx ix (X.out.c4 (i:=0) rfl) sl ?_;try simp only [Act.put,seti,set0,setS]
   refine tk (i:=4) (oi:=⟨some 27,_,_,_,_,_⟩) (v:=_) rfl kx ix (X.out.c4 (i:=0) rfl) sl ?_;try simp only [Act.put,seti,set0,setS]
   refine wpLate_one (i:=2) (o:=⟨some 25,_,_,_,_,_⟩) kx rfl (fun K hK=>?_);go_simp
   (go_at_call 112;refine (HD1.out _).mono ?_;rintro e u1 ⟨A1,n1,c1,rfl,ht9,hb9,hf9⟩;have X:=hid (X.out.row hb9 ht9 hf9);clear hb9 ht9 hf9)
   try go_wp2_with fail
   refine hK.out _ _ (Or.inr (fun _=>X.out.c4 (i:=0) rfl)) ?_;clear hK K;try simp only [Act.put,seti,set0,setS]
   refine wpLate_one (i:=5) (o:=⟨some 28,_,_,_,_,_⟩) kx rfl (fun K hK=>?_);go_simp
   (go_at_call 112;refine (HD2.out _).mono ?_;rintro e u2 ⟨A2,n2,c2,rfl,ht9,hb9,hf9⟩;have X:=hid (X.out.row hb9 ht9 hf9);clear hb9 ht9 hf9)
   try go_wp2_with fail
   refine hK.out _ _ (Or.inr (fun _=>X.out.c4 (i:=0) rfl)) ?_;clear hK K;try simp only [Act.put,seti,set0,setS]
   refine wpLate_one (i:=6) (o:=⟨some 29,_,_,_,_,_⟩) kx rfl (fun K hK=>?_);go_simp
   (go_at_call 111;refine (rcommon _ _ _ _ _ _ _ _ _ (by have h:=(X.out.rw (i:=0) rfl).ln;have h2:=HN0.out;omega) (by have h:=(X.out.rw (i:=1) rfl).ln;have h2:=HN1.out;omega) (X.out.rw (i:=0) rfl) (X.out.rw (i:=1) rfl)).mono ?_;rintro e u3 ⟨A3,n3,c3,rfl,ht9,hb9⟩;have TG:=hid ht9;have X:=hid (X.out.next hb9);clear hb9 ht9)
   try go_wp2_with fail
   refine hK.out _ _ (Or.inr (fun _=>X.out.c4 (i:=0) rfl)) ?_;clear hK K;try simp only [Act.put,seti,set0,setS]
   refine tk (i:=7) (oi:=⟨some 3,_,_,_,_,_⟩) (v:=_) rfl kx ix (X.out.c4 (i:=0) rfl) sl ?_;try simp only [Act.put,seti,set0,setS]
   refine wpLate_done kx ?_ _;obtain ⟨AG,hAG⟩:∃ A,A=A3:=⟨_,rfl⟩
   obtain ⟨nG,hnG⟩:∃ A,A=n3:=⟨_,rfl⟩
   rw [←hAG,←hnG] at TG ⊢;clear hAG hnG;obtain ⟨a0,a1,a2,a3⟩:=X.out.c4 (i:=0) rfl;clear hk0;go_wp2
   go_ret
   exact ⟨rfl,X.out.bel⟩
 · rw [canon_yes hx] at HC1;subst h3;have hyd:enc ((d:Nat):Int)=.agg #[.bool false,.string k]:=by rw [h4];exact enc_mag d
   rw [canon_yes hyd] at HC2;have hkn:=toList_ne (l:=[1]) (show k≠⟨#[1]⟩ from by rw [h4];exact mag_no_one om);have hkn2:¬[1]=k.toList:=fun e=>hkn e.symm
   have hk0:k.toList.isEmpty=false:=by
    rw [List.isEmpty_eq_false_iff];exact toList_ne (l:=[]) (by rw [h4];exact mag_no_nil om)
   have hg6:Nat.gcd (bval m) (bval k)≠1:=by rw [(enc_parts hx).2,h4,bval_mag,bval_mag];exact h6
   have hg0:0<Nat.gcd (bval m) (bval k):=by rw [h4,bval_mag];exact Nat.gcd_pos_of_pos_right _ om
   have HD1:=hid (fun V=>rdigits b m V om);have HD2:=hid (fun V=>rdigits false k V om);have HN0:=hid (show nd (bval m)≤100000 from Nat.le_trans (nd_le (bval_lt m)) s1);have HN1:=hid (show nd (bval k)≤100000 from Nat.le_trans (nd_le (bval_lt k)) s2);have HG6:=hid (And.intro hg6 hg0);clear hno h4 h5 h6 hx hyd hg6 hg0;have X:=hid ((Sb.start w).new #[.bool b,.string m,.bool false,.string k] 25);have X:=hid (X.out.pick [0] [(w.heap.size,#[.bool b,.string m,.bool false,.string k],25)] [] (by simp) dc (by simp));obtain ⟨a0,a1,a2,a3⟩:=X.out.c4 (i:=0) rfl;go_enter Tryz.func57,Tryz.ntmps57;go_wp2_with fail
   refine (HC1.out _).mono ?_;rintro e w1 ⟨rfl,hb9⟩;have X:=hid (X.out.next hb9);clear hb9;clear a0 a1 a2 a3;obtain ⟨a0,a1,a2,a3⟩:=X.out.c4 (i:=0) rfl;go_wp2_with fail
   refine (HC2.out _).mono ?_;rintro e w2 ⟨rfl,hb9⟩;have X:=hid (X.out.next hb9);clear hb9;clear a0 a1 a2 a3;obtain ⟨a0,a1,a2,a3⟩:=X.out.c4 (i:=0) rfl;go_upto_region 5 with fail
   clear a0 a1 a2 a3;refine wp_region_late (S:=fun w'=>(w'.cell? ⟨w.heap.size,0,none⟩=some (.bool b)∧w'.cell? ⟨w.heap.size,1,none⟩=some (.string m)∧w'.cell? ⟨w.heap.size,2,none⟩=some (.bool false)∧w'.cell? ⟨w.heap.size,3,none⟩=some (.string k))) (L:=[]) kx ?_;have X:=hid X.out.drew;obtain ⟨V0,hV⟩:=wexi X.out;rw [←hV] at X ⊢;clear hV;refine tk (i:=0) (oi:=⟨some 23,_,_,_,_,_⟩) (v:=_) rfl kx ix (X.out.c4 (i:=0) rfl) sl ?_;try simp only [Act.put,seti,set0,setS]
   refine tk (i:=1) (oi:=⟨some 24,_,_,_,_,_⟩) (v:=_) rfl kx ix (X.out.c4 (i:=0) rfl) sl ?_;try simp only [Act.put,seti,set0,setS]
   refine tk (i:=3) (oi:=⟨some 26,_,_,_,_,_⟩) (v:=_) rfl kx ix (X.out.c4 (i:=0) rfl) sl ?_;try simp only [Act.put,seti,set0,setS]
   refine tk (i:=4) (oi:=⟨some 27,_,_,_,_,_⟩) (v:=_) rfl kx ix (X.out.c4 (i:=0) rfl) sl ?_;try simp only [Act.put,seti,set0,setS]
   refine wpLate_one (i:=2) (o:=⟨some 25,_,_,_,_,_⟩) kx rfl (fun K hK=>?_);go_simp
   (go_at_call 112;refine (HD1.out _).mono ?_;rintro e u1 ⟨A1,n1,c1,rfl,ht9,hb9,hf9⟩;have X:=hid (X.out.row hb9 ht9 hf9);clear hb9 ht9 hf9)
   try go_wp2_with fail
   refine hK.out _ _ (Or.inr (fun _=>X.out.c4 (i:=0) rfl)) ?_;clear hK K;try simp only [Act.put,seti,set0,setS]
   refine wpLate_one (i:=5) (o:=⟨some 28,_,_,_,_,_⟩) kx rfl (fun K hK=>?_);go_simp
   (go_at_call 112;refine (HD2.out _).mono ?_;rintro e u2 ⟨A2,n2,c2,rfl,ht9,hb9,hf9⟩;have X:=hid (X.out.row hb9 ht9 hf9);clear hb9 ht9 hf9)
   try go_wp2_with fail
   refine hK.out _ _ (Or.inr (fun _=>X.out.c4 (i:=0) rfl)) ?_;clear hK K;try simp only [Act.put,seti,set0,setS]
   refine wpLate_one (i:=6) (o:=⟨some 29,_,_,_,_,_⟩) kx rfl (fun K hK=>?_);go_simp
   (go_at_call 111;refine (rcommon _ _ _ _ _ _ _ _ _ (by have h:=(X.out.rw (i:=0) rfl).ln;have h2:=HN0.out;omega) (by have h:=(X.out.rw (i:=1) rfl).ln;have h2:=HN1.out;omega) (X.out.rw (i:=0) rfl) (X.out.rw (i:=1) rfl)).mono ?_;rintro e u3 ⟨A3,n3,c3,rfl,ht9,hb9⟩;have TG:=hid ht9;have X:=hid (X.out.next hb9);clear hb9 ht9)
   try go_wp2_with fail
   refine hK.out _ _ (Or.inr (fun _=>X.out.c4 (i:=0) rfl)) ?_;clear hK K;try simp only [Act.put,seti,set0,setS]
   refine tk (i:=7) (oi:=⟨some 3,_,_,_,_,_⟩) (v:=_) rfl kx ix (X.out.c4 (i:=0) rfl) sl ?_;try simp only [Act.put,seti,set0,setS]
   refine wpLate_done kx ?_ _;obtain ⟨AG,hAG⟩:∃ A,A=A3:=⟨_,rfl⟩
   obtain ⟨nG,hnG⟩:∃ A,A=n3:=⟨_,rfl⟩
   rw [←hAG,←hnG] at TG ⊢;clear hAG hnG;obtain ⟨a0,a1,a2,a3⟩:=X.out.c4 (i:=0) rfl;have hn0:0<nG:=by rw [TG.out.ln];exact nd_pos HG6.out.2
   obtain ⟨gb,go,rfl,_,hcl⟩:=TG.out.dg.rd hn0;have hc0:=hcl 0 hn0;rw [Nat.add_zero] at hc0;by_cases hn1:nG=1
   · have hne : ((D 256 (Nat.gcd (bval m) (bval k)) 0 : Int) == 1) = false := by
      have h1:=TG.out.ln;have h2:=nd_lt (Nat.gcd (bval m) (bval k));rw [←h1,hn1] at h2;have h3:D 256 (Nat.gcd (bval m) (bval k)) 0=Nat.gcd (bval m) (bval k):=by unfold D;rw [Nat.pow_zero,Nat.div_one];exact Nat.mod_eq_of_lt om
      rw [h3];have h4:=HG6.out.1;simp;omega
     have hlen:((nG:Int)==1)=true:=by rw [hn1];rfl
     generalize D 256 (Nat.gcd (bval m) (bval k)) 0=dg at *;clear HG6 hcl;go_wp2
     go_ret
     exact ⟨rfl,X.out.bel⟩
   · have hlen:((nG:Int)==1)=false:=by simp;omega
     clear HG6 hcl;go_wp2
     go_ret
     exact ⟨rfl,X.out.bel⟩
theorem rCheck_yes {q:Rat} {b:Bool} {m k:ByteArray} (hq:Rq q b m k) (s1:m.size≤100000) (s2:k.size≤100000) (w:World) :
  Calls prog 57 #[.agg #[.bool b,.string m,.bool false,.string k]] w (RetB w (.bool true)):=by
 have HC1:=hid (fun V=>isInt_any b m V);have HC2:=hid (fun V=>isInt_any false k V);rw [canon_yes hq.num] at HC1;by_cases hd:q.den=1
 · obtain rfl:=hq.den1 hd;rw [canon_yes (enc_nought)] at HC2;clear hd hq;have X:=hid ((Sb.start w).new #[.bool b,.string m,.bool false,.string ⟨#[]⟩] 25);have X:=hid (X.out.pick [0] [(w.heap.size,#[.bool b,.string m,.bool false,.string ⟨#[]⟩],25)] [] (by simp) dc (by simp));exact k22
 · have hk:=hq.den2 hd;have hyd:enc ((q.den:Nat):Int)=.agg #[.bool false,.string k]:=by rw [hk];exact enc_mag q.den
   rw [canon_yes hyd] at HC2;have hkn:=toList_ne (l:=[1]) (show k≠⟨#[1]⟩ from by rw [hk];exact mag_no_one hd);have hkn2:¬[1]=k.toList:=fun e=>hkn e.symm
   have hk0:k.toList.isEmpty=false:=by
    rw [List.isEmpty_eq_false_iff];exact toList_ne (l:=[]) (by rw [hk];exact mag_no_nil q.den_nz)
   have hg6:Nat.gcd (bval m) (bval k)=1:=by rw [hq.bval,hk,bval_mag];exact q.reduced
   have HD1:=hid (fun V=>rdigits b m V om);have HD2:=hid (fun V=>rdigits false k V om);have HN0:=hid (show nd (bval m)≤100000 from Nat.le_trans (nd_le (bval_lt m)) s1);have HN1:=hid (show nd (bval k)≤100000 from Nat.le_trans (nd_le (bval_lt k)) s2);have HG6:=hid hg6;clear hd hk hyd hq hg6;have X:=hid ((Sb.start w).new #[.bool b,.string m,.bool false,.string k] 25);have X:=hid (X.out.pick [0] [(w.heap.size,#[.bool b,.string m,.bool false,.string k],25)] [] (by simp) dc (by simp));obtain ⟨a0,a1,a2,a3⟩:=X.out.c4 (i:=0) rfl;go_enter Tryz.func57,Tryz.ntmps57;go_wp2_with fail
   refine (HC1.out _).mono ?_;rintro e w1 ⟨rfl,hb9⟩;have X:=hid (X.out.next hb9);clear hb9;clear a0 a1 a2 a3;obtain ⟨a0,a1,a2,a3⟩:=X.out.c4 (i:=0) rfl;go_wp2_with fail
   refine (HC2.out _).mono ?_;rintro e w2 ⟨rfl,hb9⟩;have X:=hid (X.out.next hb9);clear hb9;clear a0 a1 a2 a3;obtain ⟨a0,a1,a2,a3⟩:=X.out.c4 (i:=0) rfl;go_upto_region 5 with fail
   clear a0 a1 a2 a3;refine wp_region_late (S:=fun w'=>(w'.cell? ⟨w.heap.size,0,none⟩=some (.bool b)∧w'.cell? ⟨w.heap.size,1,none⟩=some (.string m)∧w'.cell? ⟨w.heap.size,2,none⟩=some (.bool false)∧w'.cell? ⟨w.heap.size,3,none⟩=some (.string k))) (L:=[]) kx ?_;have X:=hid X.out.drew;obtain ⟨V0,hV⟩:=wexi X.out;rw [←hV] at X ⊢;clear hV;refine tk (i:=0) (oi:=⟨some 23,_,_,_,_,_⟩) (v:=_) rfl kx ix (X.out.c4 (i:=0) rfl) sl ?_;try simp only [Act.put,seti,set0,setS]
   refine tk (i:=1) (oi:=⟨some 24,_,_,_,_,_⟩) (v:=_) rfl kx ix (X.out.c4 (i:=0) rfl) sl ?_;try simp only [Act.put,seti,set0,setS]
   refine tk (i:=3) (oi:=⟨some 26,_,_,_,_,_⟩) (v:=_) rfl kx ix (X.out.c4 (i:=0) rfl) sl ?_;try simp only [Act.put,seti,set0,setS]
   refine tk (i:=4) (oi:=⟨some 27,_,_,_,_,_⟩) (v:=_) rfl kx ix (X.out.c4 (i:=0) rfl) sl ?_;try simp only [Act.put,seti,set0,setS]
   refine wpLate_one (i:=2) (o:=⟨some 25,_,_,_,_,_⟩) kx rfl (fun K hK=>?_);go_simp
   (go_at_call 112;refine (HD1.out _).mono ?_;rintro e u1 ⟨A1,n1,c1,rfl,ht9,hb9,hf9⟩;have X:=hid (X.out.row hb9 ht9 hf9);clear hb9 ht9 hf9)
   try go_wp2_with fail
   refine hK.out _ _ (Or.inr (fun _=>X.out.c4 (i:=0) rfl)) ?_;clear hK K;try simp only [Act.put,seti,set0,setS]
   refine wpLate_one (i:=5) (o:=⟨some 28,_,_,_,_,_⟩) kx rfl (fun K hK=>?_);go_simp
   (go_at_call 112;refine (HD2.out _).mono ?_;rintro e u2 ⟨A2,n2,c2,rfl,ht9,hb9,hf9⟩;have X:=hid (X.out.row hb9 ht9 hf9);clear hb9 ht9 hf9)
   try go_wp2_with fail
   refine hK.out _ _ (Or.inr (fun _=>X.out.c4 (i:=0) rfl)) ?_;clear hK K;try simp only [Act.put,seti,set0,setS]
   refine wpLate_one (i:=6) (o:=⟨some 29,_,_,_,_,_⟩) kx rfl (fun K hK=>?_);go_simp
   (go_at_call 111;refine (rcommon _ _ _ _ _ _ _ _ _ (by have h:=(X.out.rw (i:=0) rfl).ln;have h2:=HN0.out;omega) (by have h:=(X.out.rw (i:=1) rfl).ln;have h2:=HN1.out;omega) (X.out.rw (i:=0) rfl) (X.out.rw (i:=1) rfl)).mono ?_;rintro e u3 ⟨A3,n3,c3,rfl,ht9,hb9⟩;have TG:=hid ht9;have X:=hid (X.out.next hb9);clear hb9 ht9)
   try go_wp2_with fail
   refine hK.out _ _ (Or.inr (fun _=>X.out.c4 (i:=0) rfl)) ?_;clear hK K;try simp only [Act.put,seti,set0,setS]
   refine tk (i:=7) (oi:=⟨some 3,_,_,_,_,_⟩) (v:=_) rfl kx ix (X.out.c4 (i:=0) rfl) sl ?_;try simp only [Act.put,seti,set0,setS]
   refine wpLate_done kx ?_ _;obtain ⟨AG,hAG⟩:∃ A,A=A3:=⟨_,rfl⟩
   obtain ⟨nG,hnG⟩:∃ A,A=n3:=⟨_,rfl⟩
   rw [←hAG,←hnG] at TG ⊢;clear hAG hnG;obtain ⟨a0,a1,a2,a3⟩:=X.out.c4 (i:=0) rfl;have TG:=TG;rw [HG6.out] at TG;have hn1:nG=1:=by rw [TG.out.ln];exact nd_one
   have hn0:0<nG:=om;obtain ⟨gb,go,rfl,_,hcl⟩:=TG.out.dg.rd hn0;have hc0:=hcl 0 hn0;rw [Nat.add_zero] at hc0;have hd1:(D 256 1 0:Nat)=1:=by decide
   rw [hd1] at hc0;have hlen:((nG:Int)==1)=true:=by rw [hn1];rfl
   clear hcl;go_wp2
   go_ret
   have hkb:(k.toList==[1])=false:=by simpa using hkn
   exact ⟨by show Ending.returned (.bool (!(k.toList==[1])))=_;rw [hkb];rfl,X.out.bel⟩
theorem num_any (b:Bool) (m:ByteArray) (c:Bool) (k:ByteArray) (w:World):Calls prog 96 #[.agg #[.bool b,.string m,.bool c,.string k]] w (RetB w (.agg #[.bool b,.string m])):=by
 have KK:=hid (Kb.start w #[.bool b,.string m,.bool c,.string k] #[.bool false,.string ⟨#[]⟩] 25 23);obtain ⟨p0,p1,p2,p3⟩:=blk4 KK.out.k1;obtain ⟨t0,t1,f0,f1⟩:=blk_cells KK.out.k2;go_enter Tryz.func96,Tryz.ntmps96;go_wp2
 exact bodyPost_ret (v:=.agg #[.bool b,.string m]) (by simp [results,Tryz.results96,go_sem,t0,t1]) rfl ⟨rfl,(Kb.start w _ _ _ _).bel⟩
end Go.Proofs.YtpnokfgplnmjpaaGreatDoor
