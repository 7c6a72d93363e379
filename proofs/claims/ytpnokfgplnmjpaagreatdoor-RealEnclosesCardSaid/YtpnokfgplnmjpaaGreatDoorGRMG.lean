import Derived.Test.YtpnokfgplnmjpaaGreatDoorGRME
import Derived.Test.YtpnokfgplnmjpaaGreatDoorGRNB
set_option linter.unusedSimpArgs false
set_option linter.unusedVariables false

namespace Go.Proofs.YtpnokfgplnmjpaaGreatDoor
open Go.RowKit
attribute [local go_sem ↓] Go.wp_at_zero Go.wp_at_succ

set_option maxHeartbeats 8000000 in
set_option maxRecDepth 100000 in
theorem encl_bad (w:World) {b1 c1 s1:Bool} {m1 k1 n1 l1:ByteArray} {n:Int} (hn:n<0∨(¬n<0∧256<n))  :
  Calls Tryz.prog 61 #[.agg #[.bool b1,.string m1,.bool false,.string k1,.bool c1,.string n1,.bool false,.string l1,.bool s1],.int .i64 (n)] w (RetB w (.tuple #[.agg #[.bool false,.string ⟨#[]⟩,.bool false,.string ⟨#[]⟩],.agg #[.bool false,.string ⟨#[]⟩,.bool false,.string ⟨#[]⟩],.int .i64 2])):=by
 rcases hn with h1 | ⟨h1,h2⟩
 all_goals
  have RS:=Lib.hid Tryz.results61
  go_enter Tryz.func61,Tryz.ntmps61
  exact wk0

set_option maxHeartbeats 8000000 in
set_option maxRecDepth 100000 in
theorem encl_good (w:World) {b1 c1 s1:Bool} {m1 k1 n1 l1:ByteArray} {b2 c2 s2:Bool} {m2 k2 n2 l2:ByteArray} {b3:Bool} {m3:ByteArray} {b4:Bool} {m4:ByteArray} {b6:Bool} {m6:ByteArray} {b5 b7:Bool} {m5 k5 m7 k7:ByteArray} {n:Int} (h1:¬n<0) (h2:¬256<n) (HP:∀ V,Below w.heap.size w V→Calls Tryz.prog 113 #[.int .i64 (n)] V (RetB V (.agg #[.bool b3,.string m3]))) (HS:∀ V,Below w.heap.size w V→Calls Tryz.prog 45 #[.agg #[.bool b1,.string m1,.bool false,.string k1,.bool c1,.string n1,.bool false,.string l1,.bool s1],.agg #[.bool b3,.string m3,.bool false,.string ⟨#[]⟩]] V (RetB V (.agg #[.bool b2,.string m2,.bool false,.string k2,.bool c2,.string n2,.bool false,.string l2,.bool s2]))) (HF:∀ V,Below w.heap.size w V→Calls Tryz.prog 52 #[.agg #[.bool b2,.string m2,.bool false,.string k2,.bool c2,.string n2,.bool false,.string l2,.bool s2]] V (RetB V (.agg #[.bool b4,.string m4]))) (HM:∀ V,Below w.heap.size w V→Calls Tryz.prog 114 #[.agg #[.bool b4,.string m4],.agg #[.bool b3,.string m3]] V (RetB V (.tuple #[.agg #[.bool b5,.string m5,.bool false,.string k5],.int .i64 0]))) (HC:∀ V,Below w.heap.size w V→Calls Tryz.prog 54 #[.agg #[.bool b2,.string m2,.bool false,.string k2,.bool c2,.string n2,.bool false,.string l2,.bool s2]] V (RetB V (.agg #[.bool b6,.string m6]))) (HM2:∀ V,Below w.heap.size w V→Calls Tryz.prog 114 #[.agg #[.bool b6,.string m6],.agg #[.bool b3,.string m3]] V (RetB V (.tuple #[.agg #[.bool b7,.string m7,.bool false,.string k7],.int .i64 0]))) :
  Calls Tryz.prog 61 #[.agg #[.bool b1,.string m1,.bool false,.string k1,.bool c1,.string n1,.bool false,.string l1,.bool s1],.int .i64 (n)] w (RetB w (.tuple #[.agg #[.bool b5,.string m5,.bool false,.string k5],.agg #[.bool b7,.string m7,.bool false,.string k7],.int .i64 0])):=by
 have C1:=Lib.hid HP
 have C2:=Lib.hid HS
 have C3:=Lib.hid HF
 have C4:=Lib.hid HM
 have C5:=Lib.hid HC
 have C6:=Lib.hid HM2
 have RS:=Lib.hid Tryz.results61
 clear HP HS HF HM HC HM2 
 go_enter Tryz.func61,Tryz.ntmps61
 exact wk0

set_option maxHeartbeats 8000000 in
set_option maxRecDepth 100000 in
theorem fencl_w (w:World) {b1 c1 s1:Bool} {m1 k1 n1 l1:ByteArray} {b2 c2 s2:Bool} {m2 k2 n2 l2:ByteArray} {b3:Bool} {m3:ByteArray} {b4:Bool} {m4:ByteArray} {b6:Bool} {m6:ByteArray} {b5 b7:Bool} {m5 k5 m7 k7:ByteArray} {n:Nat} (hn:n≤64) (H0:Hid (enc ((2^0:Nat):Int)=.agg #[.bool false,.string ⟨#[1]⟩])) (H3:Hid (enc ((2^n:Nat):Int)=.agg #[.bool b3,.string m3])) (HMul:∀ (k:Nat) (b:Bool) (m:ByteArray),k<n→enc ((2^k:Nat):Int)=.agg #[.bool b,.string m]→∃ b' m',enc ((2^(k+1):Nat):Int)=.agg #[.bool b',.string m']∧∀ V,Below w.heap.size w V→Calls Tryz.prog 78 #[.agg #[.bool b,.string m,.bool false,.string ⟨#[]⟩],.agg #[.bool false,.string ⟨#[2]⟩,.bool false,.string ⟨#[]⟩]] V (RetB V (.agg #[.bool b',.string m',.bool false,.string ⟨#[]⟩]))) (HO:∀ V,Below w.heap.size w V→Calls Tryz.prog 84 #[] V (RetB V (.agg #[.bool false,.string ⟨#[1]⟩,.bool false,.string ⟨#[]⟩]))) (HW:∀ V,Below w.heap.size w V→Calls Tryz.prog 21 #[.int .i64 (2)] V (RetB V (.agg #[.bool false,.string ⟨#[2]⟩,.bool false,.string ⟨#[]⟩]))) (HS:∀ V,Below w.heap.size w V→Calls Tryz.prog 48 #[.agg #[.bool b1,.string m1,.bool false,.string k1,.bool c1,.string n1,.bool false,.string l1,.bool s1],.agg #[.bool b3,.string m3,.bool false,.string ⟨#[]⟩]] V (RetB V (.agg #[.bool b2,.string m2,.bool false,.string k2,.bool c2,.string n2,.bool false,.string l2,.bool s2]))) (HF:∀ V,Below w.heap.size w V→Calls Tryz.prog 53 #[.agg #[.bool b2,.string m2,.bool false,.string k2,.bool c2,.string n2,.bool false,.string l2,.bool s2]] V (RetB V (.agg #[.bool b4,.string m4,.bool false,.string ⟨#[]⟩]))) (HD:∀ V,Below w.heap.size w V→Calls Tryz.prog 82 #[.agg #[.bool b4,.string m4,.bool false,.string ⟨#[]⟩],.agg #[.bool b3,.string m3,.bool false,.string ⟨#[]⟩]] V (RetB V (.agg #[.bool b5,.string m5,.bool false,.string k5]))) (HC:∀ V,Below w.heap.size w V→Calls Tryz.prog 55 #[.agg #[.bool b2,.string m2,.bool false,.string k2,.bool c2,.string n2,.bool false,.string l2,.bool s2]] V (RetB V (.agg #[.bool b6,.string m6,.bool false,.string ⟨#[]⟩]))) (HD2:∀ V,Below w.heap.size w V→Calls Tryz.prog 82 #[.agg #[.bool b6,.string m6,.bool false,.string ⟨#[]⟩],.agg #[.bool b3,.string m3,.bool false,.string ⟨#[]⟩]] V (RetB V (.agg #[.bool b7,.string m7,.bool false,.string k7]))) :
  Calls Tryz.prog 62 #[.agg #[.bool b1,.string m1,.bool false,.string k1,.bool c1,.string n1,.bool false,.string l1,.bool s1],.int .i64 ((n:Int))] w (RetB w (.tuple #[.agg #[.bool b5,.string m5,.bool false,.string k5],.agg #[.bool b7,.string m7,.bool false,.string k7]])):=by
 have HMulh:=Lib.hid HMul
 clear HMul
 have C1:=Lib.hid HO
 have C2:=Lib.hid HW
 have C3:=Lib.hid HS
 have C4:=Lib.hid HF
 have C5:=Lib.hid HD
 have C6:=Lib.hid HC
 have C7:=Lib.hid HD2
 have Z1:Hid (∀ {p:Prop} (h:p:=by ((fail_if_success (fail_if_success (with_reducible refine wp_loop_rounds 1 ?_)));(with_reducible refine sf4 X.out (by repeat (with_reducible first | exact At.here | exact At.last | apply At.there | apply At.left)) (fun V X0=>?_));(try simp only [List.set_cons_zero,List.set_cons_succ,List.cons_append,List.nil_append,List.length_cons,List.length_nil] at X0);replace X:=Lib.hid X0;clear X0 F;obtain ⟨g,hg⟩:∃ g,g=u.heap.size:=⟨_,rfl⟩;rw [←hg] at X ⊢;clear hg;(go_loopw [7] (fun iv wr=>∃ (k:Nat) (b:Bool) (m:ByteArray),k≤n∧iv=.int .i64 k∧Hid (enc ((2^k:Nat):Int)=.agg #[.bool b,.string m])∧Sb w [(w.heap.size,#[.bool b1,.string m1,.bool false,.string k1,.bool c1,.string n1,.bool false,.string l1,.bool s1],27),(w.heap.size+1,#[.bool false,.string ⟨#[]⟩,.bool false,.string ⟨#[]⟩],25),(w.heap.size+1+1,#[.bool false,.string ⟨#[]⟩,.bool false,.string ⟨#[]⟩],25),(g,#[.bool b,.string m,.bool false,.string ⟨#[]⟩],25)] [] wr) (fun iv _=>n-(intOf iv).toNat));(case atStart=>exact ⟨0,false,⟨#[1]⟩,by omega,rfl,H0,X.out⟩);(case round=>obtain ⟨k,b,m,hk,rfl,he,hX⟩:=hrel;replace X:=Lib.hid hX;clear hX;replace F:=X.out.facts;simp only [Facts,cellsAt,List.take_succ_cons,List.take_zero,Nat.reduceAdd,and_true,List.set_cons_succ,List.set_cons_zero,List.cons_append,List.nil_append] at F;by_cases hlt:k<n;(obtain ⟨b',m',he',hM⟩:=HMulh.out k b m hlt he.out;have HE2:=Lib.hid he';have C9:=Lib.hid hM;have hl2:(k:Int)<(n:Int):=Int.ofNat_lt.2 hlt;clear he hM he';exact wk);(obtain rfl:k=n:=Nat.le_antisymm hk (Nat.le_of_not_lt hlt);have e2:b=b3∧m=m3:=(by have e:=he.out.symm.trans H3.out;simpa using e);obtain ⟨e3,e4⟩:=e2;subst e3 e4;clear he;exact wk));all_goals exact wk)),p):=@fun _ h=>h
 have Z2:Hid (∀ {p:Prop} (h:p:=by ((go_roundw);(case rel=>exact ⟨k+1,_,_,hlt,by go_num,HE2,X.out⟩);(case measure=>(simp [intOf]<;>first | omega | exact Nat.sub_lt_sub_left hlt (Nat.lt_succ_self k)));all_goals exact wk)),p):=@fun _ h=>h
 have RS:=Lib.hid Tryz.results62
 clear HO HW HS HF HD HC HD2 
 go_enter Tryz.func62,Tryz.ntmps62
 exact wk0

theorem pow2_size {n:Nat} (hn:n≤64):Zs (8+1) ((2^n:Nat):Int):=by
 show ((2^n:Nat):Int).natAbs<256^9
 rw [Int.natAbs_natCast]
 exact Nat.lt_of_le_of_lt (Nat.pow_le_pow_right (by decide) hn) (by decide)
theorem pow_mul {n k:Nat} (hn:n≤64) {b:Bool} {m:ByteArray} (hk:k<n) (h:enc ((2^k:Nat):Int)=.agg #[.bool b,.string m]) (w:World):∃ b' m',enc ((2^(k+1):Nat):Int)=.agg #[.bool b',.string m']∧∀ V,Below w.heap.size w V→Calls Tryz.prog 78 #[.agg #[.bool b,.string m,.bool false,.string ⟨#[]⟩],.agg #[.bool false,.string ⟨#[2]⟩,.bool false,.string ⟨#[]⟩]] V (RetB V (.agg #[.bool b',.string m',.bool false,.string ⟨#[]⟩])):=by
 obtain ⟨b1,m1,e1,h1⟩:=rq_z ((2^k:Nat):Int)
 rw [e1] at h
 obtain ⟨rfl,rfl⟩:b1=b∧m1=m:=by simpa using h
 obtain ⟨b2,m2,e2,h2⟩:=rq_z ((2^(k+1):Nat):Int)
 refine ⟨b2,m2,e2,fun V _=>rmul_z h1 qt ?_ ((pow2_size (by omega)).sz'.up (by omega)) ((show Sz 1 2 from ⟨by decide +kernel,by decide +kernel⟩).up (by omega)) V⟩
 have e:(((2^k:Nat):Int):Rat)*2=(((2^(k+1):Nat):Int):Rat):=by
  rw [Nat.pow_succ,show ((2^k*2:Nat):Int)=((2^k:Nat):Int)*2 by simp,Rat.intCast_mul]
  rfl
 rw [e]
 exact h2
theorem pow_ne (n:Nat):(((2^n:Nat):Int):Rat)≠0:=fun h=>by
 have h1:((2^n:Nat):Int)=0:=by
  have:=Rat.intCast_eq_zero_iff.1 h
  exact this
 have h2:0<(2:Nat)^n:=Nat.pow_pos (by decide)
 omega
theorem scl_size {x:Sg.Rl} (ok:x.Ok) {r:Rat} (h0:r≠0) (zx:Rz 8 x) (zr:Sz 9 r):Rz 50 (x.scl r)∧(x.scl r).Ok:=by
 refine ⟨?_,?_⟩
 · unfold Sg.Rl.scl
   rw [Sg.scale_mk ok h0]
   unfold Sg.Rl.scale
   split
   · exact ⟨(zx.p.mul zr).up (by omega),Sz.zero 49⟩
   · exact ⟨(zx.p.mul zr).up (by omega),(zx.r.mul (zr.mul zr)).up (by omega)⟩
 · unfold Sg.Rl.scl
   exact mkR_ok (by rcases Sg.ok_cases ok with ⟨h,_⟩ | ⟨h,_⟩<;>grind)
theorem div_same (a b:Int):(a:Rat) / (b:Rat)=Rat.divInt a b:=(Rat.divInt_eq_div a b).symm
theorem encl_f {x:Sg.Rl} {b1 c1 s1:Bool} {m1 k1 n1 l1:ByteArray} (hx:Rv x b1 m1 k1 c1 n1 l1 s1) (ok:x.Ok) (zx:Rz 8 x) {n:Nat} (hn:n≤64):∃ b5 m5 k5 b7 m7 k7,(∀ w,Env w→Calls Tryz.prog 61 #[.agg #[.bool b1,.string m1,.bool false,.string k1,.bool c1,.string n1,.bool false,.string l1,.bool s1],.int .i64 ((n:Int))] w (RetB w (.tuple #[.agg #[.bool b5,.string m5,.bool false,.string k5],.agg #[.bool b7,.string m7,.bool false,.string k7],.int .i64 0])))∧(∀ w,Calls Tryz.prog 62 #[.agg #[.bool b1,.string m1,.bool false,.string k1,.bool c1,.string n1,.bool false,.string l1,.bool s1],.int .i64 ((n:Int))] w (RetB w (.tuple #[.agg #[.bool b5,.string m5,.bool false,.string k5],.agg #[.bool b7,.string m7,.bool false,.string k7]]))):=by
 obtain ⟨b3,m3,e3,h3⟩:=rq_z ((2^n:Nat):Int)
 have h0:=pow_ne n
 have hz0:((2^n:Nat):Int)≠0:=fun h=>h0 (by rw [h];rfl)
 have z3:=(pow2_size hn).sz'
 obtain ⟨zs,oks⟩:=scl_size ok h0 zx z3
 obtain ⟨b2,m2,k2,c2,n2,l2,s2,h2⟩:=Rv.some_ (x.scl (((2^n:Nat):Int):Rat))
 obtain ⟨y,hy⟩:∃ y,x.scl (((2^n:Nat):Int):Rat)=y:=⟨_,rfl⟩
 rw [hy] at zs oks h2
 obtain ⟨b4,m4,e4,h4⟩:=rq_z (floorV y)
 obtain ⟨b6,m6,e6,h6⟩:=rq_z (-floorV y.neg)
 obtain ⟨b5,m5,k5,h5⟩:=Rq.some_ (Rat.divInt (floorV y) ((2^n:Nat):Int))
 obtain ⟨b7,m7,k7,h7⟩:=Rq.some_ (Rat.divInt (-floorV y.neg) ((2^n:Nat):Int))
 have z4:Zs (299+1) (floorV y):=(floorV_size oks (n:=49) ⟨zs.p,zs.r⟩).up (by omega)
 have z6':Zs (299+1) (floorV y.neg):=(floorV_size (Sg.neg_ok oks) (n:=49) ⟨zs.p.minus,zs.r⟩).up (by omega)
 have z6:Zs (299+1) (-floorV y.neg):=by unfold Zs at z6' ⊢;rw [Int.natAbs_neg];exact z6'
 have up:Rz 500 x:=⟨zx.p.up (by omega),zx.r.up (by omega)⟩
 have hsz3:m3.size≤100000:=Nat.le_trans ((pow2_size hn).sz e3) (by decide)
 refine ⟨b5,m5,k5,b7,m7,k7,fun w hE=>?_,fun w=>?_⟩
 · exact encl_good w (by omega) (by omega) (fun V _=>zret e3 (pow2_f n hn V)) (fun V hb=>rscl_f hx ok h3 (by rw [hy];exact h2) ⟨zx.p.up (by omega),zx.r.up (by omega)⟩ (z3.up (by omega)) V (hE.next hb)) (fun V hb=>rfloor_f h2 oks e4 ⟨zs.p.up (by omega),zs.r.up (by omega)⟩ V (hE.next hb)) (fun V hb=>make_f e4 e3 h5 hz0 (Nat.le_trans (z4.sz e4) (by decide)) hsz3 V (hE.next hb)) (fun V hb=>rceil_f h2 oks zs e6 V (hE.next hb)) (fun V hb=>make_f e6 e3 h7 hz0 (Nat.le_trans (z6.sz e6) (by decide)) hsz3 V (hE.next hb))
 · have hq:(((2^n:Nat):Int):Rat).num≠0:=fun h=>h0 (Rat.num_eq_zero.1 h)
   exact fencl_w w hn (Lib.hid (by rw [←mag_one];exact enc_mag 1)) (Lib.hid e3) (fun k b m hk h=>pow_mul hn hk h w) (fun V _=>one_any V) (fun V _=>whole_f (x:=2) qt.num (by omega) (by omega) V) (fun V _=>fscale_f hx ok h3 (by rw [hy];exact h2) up (z3.up (by omega)) V) (fun V _=>ffloor_f h2 oks zs e4 V) (fun V _=>rdiv_z h4 h3 (by rw [div_same];exact h5) hq (z4.sz'.up (by omega)) (z3.up (by omega)) V) (fun V _=>fceil_f h2 oks zs e6 V) (fun V _=>rdiv_z h6 h3 (by rw [div_same];exact h7) hq (z6.sz'.up (by omega)) (z3.up (by omega)) V)
end Go.Proofs.YtpnokfgplnmjpaaGreatDoor


namespace Go.Proofs.YtpnokfgplnmjpaaGreatDoor
open Go.RowKit
attribute [local go_sem ↓] Go.wp_at_zero Go.wp_at_succ

set_option maxHeartbeats 8000000 in
set_option maxRecDepth 100000 in
theorem encs_no (w:World) {b1 d1 c1 e1 s1:Bool} {m1 k1 n1 l1:ByteArray} {n:Int} (HK:∀ V,Below w.heap.size w V→Calls Tryz.prog 15 #[] V (RetB V (.bool true))) (HS:∀ V,Below w.heap.size w V→Calls Tryz.prog 22 #[.agg #[.bool b1,.string m1,.bool d1,.string k1,.bool c1,.string n1,.bool e1,.string l1,.bool s1]] V (RetB V (.bool false))) :
  Calls Tryz.prog 12 #[.agg #[.bool b1,.string m1,.bool d1,.string k1,.bool c1,.string n1,.bool e1,.string l1,.bool s1],.int .i64 (n)] w (RetB w (.bool true)):=by
 have C1:=Lib.hid HK
 have C2:=Lib.hid HS
 clear HK HS 
 go_enter Tryz.func12,Tryz.ntmps12
 exact wk0

set_option maxHeartbeats 8000000 in
set_option maxRecDepth 100000 in
theorem encs_err (w:World) {b1 c1 s1:Bool} {m1 k1 n1 l1:ByteArray} {n:Int} (hn:(n<0∧¬64<n)∨(¬n<0∧64<n∧¬n≤256∧256<n)) (HK:∀ V,Below w.heap.size w V→Calls Tryz.prog 15 #[] V (RetB V (.bool true))) (HS:∀ V,Below w.heap.size w V→Calls Tryz.prog 22 #[.agg #[.bool b1,.string m1,.bool false,.string k1,.bool c1,.string n1,.bool false,.string l1,.bool s1]] V (RetB V (.bool true))) (HE:∀ V,Below w.heap.size w V→Calls Tryz.prog 61 #[.agg #[.bool b1,.string m1,.bool false,.string k1,.bool c1,.string n1,.bool false,.string l1,.bool s1],.int .i64 (n)] V (RetB V (.tuple #[.agg #[.bool false,.string ⟨#[]⟩,.bool false,.string ⟨#[]⟩],.agg #[.bool false,.string ⟨#[]⟩,.bool false,.string ⟨#[]⟩],.int .i64 2]))) (HZ:∀ V,Below w.heap.size w V→Calls Tryz.prog 24 #[] V (RetB V (.agg #[.bool false,.string ⟨#[]⟩,.bool false,.string ⟨#[]⟩]))) :
  Calls Tryz.prog 12 #[.agg #[.bool b1,.string m1,.bool false,.string k1,.bool c1,.string n1,.bool false,.string l1,.bool s1],.int .i64 (n)] w (RetB w (.bool true)):=by
 have C1:=Lib.hid HK
 have C2:=Lib.hid HS
 have C3:=Lib.hid HE
 have C4:=Lib.hid HZ
 rcases hn with ⟨h1,h2⟩ | ⟨h1,h2,h3,h4⟩
 all_goals
  clear HK HS HE HZ 
  go_enter Tryz.func12,Tryz.ntmps12
  exact wk0

set_option maxHeartbeats 8000000 in
set_option maxRecDepth 100000 in
theorem encs_low (w:World) {b1 c1 s1:Bool} {m1 k1 n1 l1:ByteArray} {b5 b7:Bool} {m5 k5 m7 k7:ByteArray} {n:Int} (h1:¬n<0) (h2:¬64<n) (h3:¬256<n) (HK:∀ V,Below w.heap.size w V→Calls Tryz.prog 15 #[] V (RetB V (.bool true))) (HS:∀ V,Below w.heap.size w V→Calls Tryz.prog 22 #[.agg #[.bool b1,.string m1,.bool false,.string k1,.bool c1,.string n1,.bool false,.string l1,.bool s1]] V (RetB V (.bool true))) (HE:∀ V,Below w.heap.size w V→Calls Tryz.prog 61 #[.agg #[.bool b1,.string m1,.bool false,.string k1,.bool c1,.string n1,.bool false,.string l1,.bool s1],.int .i64 (n)] V (RetB V (.tuple #[.agg #[.bool b5,.string m5,.bool false,.string k5],.agg #[.bool b7,.string m7,.bool false,.string k7],.int .i64 0]))) (HR:∀ V,Below w.heap.size w V→Calls Tryz.prog 62 #[.agg #[.bool b1,.string m1,.bool false,.string k1,.bool c1,.string n1,.bool false,.string l1,.bool s1],.int .i64 (n)] V (RetB V (.tuple #[.agg #[.bool b5,.string m5,.bool false,.string k5],.agg #[.bool b7,.string m7,.bool false,.string k7]]))) :
  Calls Tryz.prog 12 #[.agg #[.bool b1,.string m1,.bool false,.string k1,.bool c1,.string n1,.bool false,.string l1,.bool s1],.int .i64 (n)] w (RetB w (.bool true)):=by
 have C1:=Lib.hid HK
 have C2:=Lib.hid HS
 have C3:=Lib.hid HE
 have C4:=Lib.hid HR
 clear HK HS HE HR 
 go_enter Tryz.func12,Tryz.ntmps12
 exact wk0

set_option maxHeartbeats 8000000 in
set_option maxRecDepth 100000 in
theorem encs_mid (w:World) {b1 c1 s1:Bool} {m1 k1 n1 l1:ByteArray} {b5 b7:Bool} {m5 k5 m7 k7:ByteArray} {n k:Int} (h1:64<n) (h2:n≤256) (h3:n.tmod 65=k) (h4:¬k<0) (h5:¬256<k) (HK:∀ V,Below w.heap.size w V→Calls Tryz.prog 15 #[] V (RetB V (.bool true))) (HS:∀ V,Below w.heap.size w V→Calls Tryz.prog 22 #[.agg #[.bool b1,.string m1,.bool false,.string k1,.bool c1,.string n1,.bool false,.string l1,.bool s1]] V (RetB V (.bool true))) (HE:∀ V,Below w.heap.size w V→Calls Tryz.prog 61 #[.agg #[.bool b1,.string m1,.bool false,.string k1,.bool c1,.string n1,.bool false,.string l1,.bool s1],.int .i64 (k)] V (RetB V (.tuple #[.agg #[.bool b5,.string m5,.bool false,.string k5],.agg #[.bool b7,.string m7,.bool false,.string k7],.int .i64 0]))) (HR:∀ V,Below w.heap.size w V→Calls Tryz.prog 62 #[.agg #[.bool b1,.string m1,.bool false,.string k1,.bool c1,.string n1,.bool false,.string l1,.bool s1],.int .i64 (k)] V (RetB V (.tuple #[.agg #[.bool b5,.string m5,.bool false,.string k5],.agg #[.bool b7,.string m7,.bool false,.string k7]]))) :
  Calls Tryz.prog 12 #[.agg #[.bool b1,.string m1,.bool false,.string k1,.bool c1,.string n1,.bool false,.string l1,.bool s1],.int .i64 (n)] w (RetB w (.bool true)):=by
 have C1:=Lib.hid HK
 have C2:=Lib.hid HS
 have C3:=Lib.hid HE
 have C4:=Lib.hid HR
 clear HK HS HE HR 
 go_enter Tryz.func12,Tryz.ntmps12
 exact wk0

theorem encs_all (b1:Bool) (m1:ByteArray) (d1:Bool) (k1:ByteArray) (c1:Bool) (n1:ByteArray) (e1:Bool) (l1:ByteArray) (s1:Bool) (tm1:m1.size≤140737488351232) (tk1:k1.size≤140737488351232) (tn1:n1.size≤140737488351232) (tl1:l1.size≤140737488351232) (n:Int) (hn1:-9223372036854775808≤n) (hn2:n≤9223372036854775807) (w:World) (hE:Env w):Calls Tryz.prog 12 #[.agg #[.bool b1,.string m1,.bool d1,.string k1,.bool c1,.string n1,.bool e1,.string l1,.bool s1],.int .i64 (n)] w (RetB w (.bool true)):=by
 obtain ⟨o1,H1,P1⟩:=small_or b1 d1 c1 e1 s1 m1 k1 n1 l1 tm1 tk1 tn1 tl1
 have HK:=fun V (hb:Below w.heap.size w V)=>rknown3 V (hE.next hb)
 cases o1
 · exact encs_no w HK (fun V _=>H1 V)
 obtain ⟨rfl,rfl,x,ok,hx,zx⟩:=P1 rfl
 by_cases h0:n<0
 · exact encs_err w (.inl ⟨h0,by omega⟩) HK (fun V _=>H1 V) (fun V _=>encl_bad V (.inl h0)) (fun V _=>zero_any V)
 by_cases h2:256<n
 · exact encs_err w (.inr ⟨h0,by omega,by omega,h2⟩) HK (fun V _=>H1 V) (fun V _=>encl_bad V (.inr ⟨h0,h2⟩)) (fun V _=>zero_any V)
 by_cases h3:64<n
 · obtain ⟨k,hk⟩:∃ k:Nat,n.tmod 65=(k:Int):=⟨(n%65).toNat,by rw [Int.tmod_eq_emod_of_nonneg (by omega)];omega⟩
   have hk2:k≤64:=by rw [Int.tmod_eq_emod_of_nonneg (by omega)] at hk;omega
   obtain ⟨b5,m5,k5,b7,m7,k7,A,Bf⟩:=encl_f hx ok zx hk2
   exact encs_mid w h3 (by omega) hk (by omega) (by omega) HK (fun V _=>H1 V) (fun V hb=>A V (hE.next hb)) (fun V _=>Bf V)
 · obtain ⟨k,rfl⟩:∃ k:Nat,n=(k:Int):=⟨n.toNat,by omega⟩
   obtain ⟨b5,m5,k5,b7,m7,k7,A,Bf⟩:=encl_f hx ok zx (n:=k) (by omega)
   exact encs_low w h0 h3 h2 HK (fun V _=>H1 V) (fun V hb=>A V (hE.next hb)) (fun V _=>Bf V)
end Go.Proofs.YtpnokfgplnmjpaaGreatDoor
