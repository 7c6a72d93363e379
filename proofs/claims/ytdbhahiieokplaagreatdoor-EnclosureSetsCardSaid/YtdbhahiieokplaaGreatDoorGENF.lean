import Derived.Test.YtdbhahiieokplaaGreatDoorGShelf
import Derived.Test.YtdbhahiieokplaaGreatDoorGRMR
import Derived.Deep.RegionWith
import Derived.Deep.RegionHeld
import Derived.Test.YtdbhahiieokplaaGreatDoorGRME
import Derived.Test.YtdbhahiieokplaaGreatDoorGRLF
import Derived.Test.YtdbhahiieokplaaGreatDoorGRLN
import Derived.Test.YtdbhahiieokplaaGreatDoorGQW
import Derived.Test.YtdbhahiieokplaaGreatDoorGENE
set_option linter.unusedSimpArgs false
set_option linter.unusedVariables false

namespace Go.Proofs.YtdbhahiieokplaaGreatDoor
open Go.RowKit
attribute [local go_sem ↓] Go.wp_at_zero Go.wp_at_succ

theorem magL_two {r:Nat} (hr:r<8):∀ a:Nat,magL (2^(8*a+r))=UInt8.ofNat (2^r) :: Lib.repeatL [0] a
 | 0=>by
   have h1:2^r<256:=Nat.lt_of_lt_of_eq (Nat.pow_lt_pow_right (by decide) hr) rfl
   have h2:0<(2:Nat)^r:=Nat.pow_pos (by decide)
   rw [show 8*0+r=r by omega,magL_pos (by omega),Nat.div_eq_of_lt h1,magL_zero,Nat.mod_eq_of_lt h1]
   rfl
 | a+1=>by
   have h2:0<(2:Nat)^(8*a+r):=Nat.pow_pos (by decide)
   have e:(2:Nat)^(8*(a+1)+r)=2^(8*a+r)*256:=by
    rw [show 8*(a+1)+r=(8*a+r)+8 by omega,Nat.pow_add]
   rw [e,magL_pos (by omega),Nat.mul_div_cancel _ (by decide),Nat.mul_mod_left,magL_two hr a]
   have h3:∀ k,Lib.repeatL [(0:UInt8)] k++[0]=Lib.repeatL [0] (k+1):=fun k=>by
    induction k with
    | zero=>rfl
    | succ k ih =>
      show (0 :: Lib.repeatL [0] k)++[0]=0 :: Lib.repeatL [0] (k+1)
      rw [List.cons_append,ih]
   rw [List.cons_append]
   exact congrArg _ (h3 a)

set_option maxHeartbeats 4000000 in
set_option maxRecDepth 100000 in
theorem pow2_f (n:Nat) (hn:n≤64) (w:World):Calls Tryz.prog 119 #[.int .i64 (n:Int)] w (RetZ w ((2^n:Nat):Int)):=by
 obtain ⟨a,ha⟩:∃ a,n / 8=a:=⟨_,rfl⟩
 obtain ⟨r,hr⟩:∃ r,n%8=r:=⟨_,rfl⟩
 have hr8:r<8:=by omega
 have HN:=Lib.hid (show n=8*a+r by omega)
 have q1:(n:Int) / 8=(a:Int):=by omega
 have q2:(n:Int).tmod 8=(r:Int):=by rw [Int.tmod_eq_emod_of_nonneg (by omega)];omega
 have q3:IntKind.i64.wrap (a:Int)=(a:Int):=IntWalk.i64_in _ (by omega)
 have n0:(0:Int)≤(n:Int):=by omega
 have n1:(n:Int)≤64:=by omega
 have hlt:(2:Nat)^r<256:=Nat.lt_of_lt_of_eq (Nat.pow_lt_pow_right (by decide) hr8) rfl
 have HRP:=Lib.hid (fun V=>Tryz.strings_Repeat ⟨#[0]⟩ a V (by omega) (by show 1*a≤_;omega))
 obtain ⟨v,hv⟩:∃ v:Nat,2^r=v:=⟨_,rfl⟩
 have hi:(2:Int)^r=(v:Int):=by rw [←hv];simp
 rw [hv] at hlt
 have HV:=Lib.hid hv
 have hu:IntKind.u8.wrap (v:Int)=(v:Int):=IntWalk.u8_in _ (by omega)
 have hrl:(Lib.repeatL [(0:UInt8)] a).length=a:=by rw [Lib.repeatL_length];simp
 obtain ⟨S2,hS2⟩:∃ S2:ByteArray,S2=⟨(Lib.repeatL [0] a).toArray⟩:=⟨_,rfl⟩
 have hc2:S2.size=a:=by rw [hS2];simpa [ByteArray.size] using hrl
 have HRP2:Hid (∀ V,Calls Tryz.prog 150 #[.string ⟨#[0]⟩,.int .i64 (a:Int)] V (RetB V (.string S2))):=Lib.hid fun V=>by rw [hS2];exact (HRP.out V)
 have HS2:=Lib.hid hS2
 have hst:=fun (W:World) (h:W.heap[w.heap.size+1]?=some (.cells #[.int .u8 (v:Int)] 5 (0,0)))=>str_of_cells W 159 9 5 Tryz.underlying159 Tryz.underlying5 Tryz.underlying9 (w.heap.size+1) 0 1 1 (fun _=>v) (fun _ _=>hlt) (fun i hi=>by rw [show i=0 by omega];simp [World.cell?,h])
 obtain ⟨S1,hS1⟩:∃ S1:ByteArray,bytesOf (fun _=>v) 1=S1:=⟨_,rfl⟩
 have hc1:S1.size=1:=by rw [←hS1,bytesOf_size]
 have hcc:¬9223372036854775807<S1.size+S2.size:=by omega
 have HS1:=Lib.hid hS1
 rw [hS1] at hst
 have HC:=Lib.hid (And.intro hc1 hc2)
 clear ha hr hv hS2 HRP hS1 hc1 hc2
 go_enter Tryz.func119,Tryz.ntmps119
 go_wp2_with fail
 refine gs2 (M:=fun W=>Code.wp _ _ _ _ W) (fun V X0=>?_)
 have X:=Lib.hid X0
 clear X0
 have h0:=hst V.drew (X.out.drew.at (i:=1) rfl)
 have HB:=Lib.hid (X.out.at (i:=0) rfl)
 have F:=X.out.facts
 simp only [Facts,cellsAt] at F
 go_region_held3 (fun w'=>(convert 159 9 (.slice (some ⟨w.heap.size+1,0,none⟩) 1 1)).run Tryz.prog w'=.ok (.string S1) w')
  (first | exact h1 | exact h0 | exact hst _ ((X2.out.set2 (i:=0) rfl _ _).at (i:=1) rfl) | go_keep)
  (first | (go_at_call 150;(with_reducible refine (HRP2.out _).mono ?_);rintro e u ⟨rfl,hb9⟩;have X2:=Lib.hid (X.out.drew.next hb9);clear hb9;have h1:=hst u (X2.out.at (i:=1) rfl);have F2:=X2.out.facts;simp only [Facts,cellsAt] at F2))
 have X3:=Lib.hid (X2.out.set2 (i:=0) rfl (.bool false) (.string (S1++S2)))
 have hz:Value.agg #[.bool false,.string (S1++S2)]=enc ((2^n:Nat):Int):=by
  rw [enc_mag,HN.out]
  have hS:S1++S2=mag (2^(8*a+r)):=by
   apply ByteArray.ext
   rw [ByteArray.data_append,←HS1.out,HS2.out]
   unfold mag bytesOf
   rw [magL_two hr8,HV.out]
   simp
  rw [hS]
 have HZ:=Lib.hid hz
 clear hz h0 h1
 go_wp2
 exact bodyPost_ret (v:=.agg #[.bool false,.string (S1++S2)]) (by simp [results,Tryz.results119,go_sem,F2]) rfl ⟨by rw [HZ.out],X3.out.bel⟩
end Go.Proofs.YtdbhahiieokplaaGreatDoor


namespace Go.Proofs.YtdbhahiieokplaaGreatDoor
open Go.RowKit
attribute [local go_sem ↓] Go.wp_at_zero Go.wp_at_succ

set_option maxHeartbeats 8000000 in
set_option maxRecDepth 100000 in
theorem encl_good (w:World) {b1 c1 s1:Bool} {m1 k1 n1 l1:ByteArray} {b2 c2 s2:Bool} {m2 k2 n2 l2:ByteArray} {b3:Bool} {m3:ByteArray} {b4:Bool} {m4:ByteArray} {b6:Bool} {m6:ByteArray} {b5 b7:Bool} {m5 k5 m7 k7:ByteArray} {n:Int} (h1:¬n<0) (h2:¬256<n) (HP:∀ V,Below w.heap.size w V→Calls Tryz.prog 119 #[.int .i64 (n)] V (RetB V (.agg #[.bool b3,.string m3]))) (HS:∀ V,Below w.heap.size w V→Calls Tryz.prog 120 #[.agg #[.bool b1,.string m1,.bool false,.string k1,.bool c1,.string n1,.bool false,.string l1,.bool s1],.agg #[.bool b3,.string m3,.bool false,.string ⟨#[]⟩]] V (RetB V (.agg #[.bool b2,.string m2,.bool false,.string k2,.bool c2,.string n2,.bool false,.string l2,.bool s2]))) (HF:∀ V,Below w.heap.size w V→Calls Tryz.prog 122 #[.agg #[.bool b2,.string m2,.bool false,.string k2,.bool c2,.string n2,.bool false,.string l2,.bool s2]] V (RetB V (.agg #[.bool b4,.string m4]))) (HM:∀ V,Below w.heap.size w V→Calls Tryz.prog 121 #[.agg #[.bool b4,.string m4],.agg #[.bool b3,.string m3]] V (RetB V (.tuple #[.agg #[.bool b5,.string m5,.bool false,.string k5],.int .i64 0]))) (HC:∀ V,Below w.heap.size w V→Calls Tryz.prog 123 #[.agg #[.bool b2,.string m2,.bool false,.string k2,.bool c2,.string n2,.bool false,.string l2,.bool s2]] V (RetB V (.agg #[.bool b6,.string m6]))) (HM2:∀ V,Below w.heap.size w V→Calls Tryz.prog 121 #[.agg #[.bool b6,.string m6],.agg #[.bool b3,.string m3]] V (RetB V (.tuple #[.agg #[.bool b7,.string m7,.bool false,.string k7],.int .i64 0]))) :
  Calls Tryz.prog 75 #[.agg #[.bool b1,.string m1,.bool false,.string k1,.bool c1,.string n1,.bool false,.string l1,.bool s1],.int .i64 (n)] w (RetB w (.tuple #[.agg #[.bool b5,.string m5,.bool false,.string k5],.agg #[.bool b7,.string m7,.bool false,.string k7],.int .i64 0])):=by
 have C1:=Lib.hid HP
 have C2:=Lib.hid HS
 have C3:=Lib.hid HF
 have C4:=Lib.hid HM
 have C5:=Lib.hid HC
 have C6:=Lib.hid HM2
 have RS:=Lib.hid Tryz.results75
 clear HP HS HF HM HC HM2 
 go_enter Tryz.func75,Tryz.ntmps75
 exact wk0

theorem pow2_size {n:Nat} (hn:n≤64):Zs (8+1) ((2^n:Nat):Int):=by
 show ((2^n:Nat):Int).natAbs<256^9
 rw [Int.natAbs_natCast]
 exact Nat.lt_of_le_of_lt (Nat.pow_le_pow_right (by decide) hn) (by decide)
theorem pow_mul {n k:Nat} (hn:n≤64) {b:Bool} {m:ByteArray} (hk:k<n) (h:enc ((2^k:Nat):Int)=.agg #[.bool b,.string m]) (w:World):∃ b' m',enc ((2^(k+1):Nat):Int)=.agg #[.bool b',.string m']∧∀ V,Below w.heap.size w V→Calls Tryz.prog 45 #[.agg #[.bool b,.string m,.bool false,.string ⟨#[]⟩],.agg #[.bool false,.string ⟨#[2]⟩,.bool false,.string ⟨#[]⟩]] V (RetB V (.agg #[.bool b',.string m',.bool false,.string ⟨#[]⟩])):=by
 obtain ⟨b1,m1,e1,h1⟩:=rq_z ((2^k:Nat):Int)
 rw [e1] at h
 obtain ⟨rfl,rfl⟩:b1=b∧m1=m:=by simpa using h
 obtain ⟨b2,m2,e2,h2⟩:=rq_z ((2^(k+1):Nat):Int)
 refine ⟨b2,m2,e2,fun V _=>rmul_z h1 qt ?_ ((pow2_size (by omega)).sz'.up (by omega)) ((show Sz 1 2 from ⟨by decide +kernel,by decide +kernel⟩).up (by omega)) V⟩
 have e:(((2^k:Nat):Int):Rat)*2=(((2^(k+1):Nat):Int):Rat):=by
  rw [Nat.pow_succ,show ((2^k*2:Nat):Int)=((2^k:Nat):Int)*2 by simp,Rat.intCast_mul]
  rfl
 rw [e]
 exact h2
theorem pow_ne (n:Nat):(((2^n:Nat):Int):Rat)≠0:=fun h=>by
 have h1:((2^n:Nat):Int)=0:=by
  have:=Rat.intCast_eq_zero_iff.1 h
  exact this
 have h2:0<(2:Nat)^n:=Nat.pow_pos (by decide)
 omega
theorem scl_size {x:Sg.Rl} (ok:x.Ok) {r:Rat} (h0:r≠0) (zx:Rz 8 x) (zr:Sz 9 r):Rz 50 (x.scl r)∧(x.scl r).Ok:=by
 refine ⟨?_,?_⟩
 · unfold Sg.Rl.scl
   rw [Sg.scale_mk ok h0]
   unfold Sg.Rl.scale
   split
   · exact ⟨(zx.p.mul zr).up (by omega),Sz.zero 49⟩
   · exact ⟨(zx.p.mul zr).up (by omega),(zx.r.mul (zr.mul zr)).up (by omega)⟩
 · unfold Sg.Rl.scl
   exact mkR_ok (by rcases Sg.ok_cases ok with ⟨h,_⟩ | ⟨h,_⟩<;>grind)
end Go.Proofs.YtdbhahiieokplaaGreatDoor


namespace Go.Proofs.YtdbhahiieokplaaGreatDoor
open Go.RowKit
attribute [local go_sem ↓] Go.wp_at_zero Go.wp_at_succ

theorem divInt1 (x:Int):Rat.divInt x 1=(x:Rat):=by
 rw [Rat.divInt_eq_div]
 show (x:Rat) / 1=x
 grind
theorem mk_irr5 {p q r a:Rat} {s:Int} (h:¬Sg.Sq r) (hq:q≠0) (ha:q*q*r=a) (hs:(if q<0 then -1 else 1)=s):Sg.mkR p q r=⟨p,a,s⟩:=by
 unfold Sg.mkR
 rw [if_neg h,if_neg hq,ha,hs]
theorem eroot_f {q:Rat} {b1:Bool} {m1 k1:ByteArray} {b2 c2 s2:Bool} {m2 k2 n2 l2:ByteArray} (h1:Rq q b1 m1 k1) (h0:0≤q) (zq:Sz 2000 q) (h2:Rv (Sg.mkR 0 1 q) b2 m2 k2 c2 n2 l2 s2) (w:World) (hE:Env w):Calls Tryz.prog 96 #[.agg #[.bool b1,.string m1,.bool false,.string k1]] w (RetB w (.agg #[.bool b2,.string m2,.bool false,.string k2,.bool c2,.string n2,.bool false,.string l2,.bool s2])) :=
 eroot_w w (fun V _=>rFromInt_f (x:=1) qo.num (by omega) (by omega) V) (fun V hb=>rmk_f Rq.zero qo h1 (by grind) (Sz.zero 1999) ((show Sz 1 1 from ⟨by decide,by decide⟩).up (by omega)) zq h2 V (hE.next hb))
theorem enclp_f {x y:Sg.Rl} {b1 c1 s1:Bool} {m1 k1 n1 l1:ByteArray} {b5 b7:Bool} {m5 k5 m7 k7:ByteArray} (hx:Rv x b1 m1 k1 c1 n1 l1 s1) (ok:x.Ok) (zx:Rz 8 x) {n:Nat} (hn:n≤64) (hy:x.scl (((2^n:Nat):Int):Rat)=y) (h5:Rq (Rat.divInt (floorV y) ((2^n:Nat):Int)) b5 m5 k5) (h7:Rq (Rat.divInt (-floorV y.neg) ((2^n:Nat):Int)) b7 m7 k7) (w:World) (hE:Env w):Calls Tryz.prog 75 #[.agg #[.bool b1,.string m1,.bool false,.string k1,.bool c1,.string n1,.bool false,.string l1,.bool s1],.int .i64 ((n:Int))] w (RetB w (.tuple #[.agg #[.bool b5,.string m5,.bool false,.string k5],.agg #[.bool b7,.string m7,.bool false,.string k7],.int .i64 0])):=by
 obtain ⟨b3,m3,e3,h3⟩:=rq_z ((2^n:Nat):Int)
 have h0:=pow_ne n
 have hz0:((2^n:Nat):Int)≠0:=fun h=>h0 (by rw [h];rfl)
 have z3:=(pow2_size hn).sz'
 obtain ⟨zs,oks⟩:=scl_size ok h0 zx z3
 rw [hy] at zs oks
 obtain ⟨b2,m2,k2,c2,n2,l2,s2,h2⟩:=Rv.some_ y
 obtain ⟨b4,m4,e4,h4⟩:=rq_z (floorV y)
 obtain ⟨b6,m6,e6,h6⟩:=rq_z (-floorV y.neg)
 have z4:Zs (299+1) (floorV y):=(floorV_size oks (n:=49) ⟨zs.p,zs.r⟩).up (by omega)
 have z6':Zs (299+1) (floorV y.neg):=(floorV_size (Sg.neg_ok oks) (n:=49) ⟨zs.p.minus,zs.r⟩).up (by omega)
 have z6:Zs (299+1) (-floorV y.neg):=by unfold Zs at z6' ⊢;rw [Int.natAbs_neg];exact z6'
 have hsz3:m3.size≤100000:=Nat.le_trans ((pow2_size hn).sz e3) (by decide)
 exact encl_good w (by omega) (by omega) (fun V _=>zret e3 (pow2_f n hn V)) (fun V hb=>rscl_f hx ok h3 (by rw [hy];exact h2) ⟨zx.p.up (by omega),zx.r.up (by omega)⟩ (z3.up (by omega)) V (hE.next hb)) (fun V hb=>rfloor_f h2 oks e4 ⟨zs.p.up (by omega),zs.r.up (by omega)⟩ V (hE.next hb)) (fun V hb=>make_f e4 e3 h5 hz0 (Nat.le_trans (z4.sz e4) (by decide)) hsz3 V (hE.next hb)) (fun V hb=>rceil_f h2 oks zs e6 V (hE.next hb)) (fun V hb=>make_f e6 e3 h7 hz0 (Nat.le_trans (z6.sz e6) (by decide)) hsz3 V (hE.next hb))
theorem bound_f {x y:Int} {b1 b2:Bool} {m1 k1 m2 k2:ByteArray} (h1:Rq (x:Rat) b1 m1 k1) (h2:Rq (y:Rat) b2 m2 k2) (x1:-1000≤x) (x2:x≤1000) (y1:-1000≤y) (y2:y≤1000) (w:World):Calls Tryz.prog 69 #[.int .i64 (x),.int .i64 (y)] w (RetB w (.agg #[.bool b1,.string m1,.bool false,.string k1,.bool b2,.string m2,.bool false,.string k2])) :=
 bound_w w (fun V _=>rOf_f (by rw [divInt1];exact h1) (by omega) (by omega) (by omega) (by omega) (by omega) V) (fun V _=>rOf_f (by rw [divInt1];exact h2) (by omega) (by omega) (by omega) (by omega) (by omega) V)
theorem rt_128:rt 128=11:=rt_unique (by decide) (by decide)
theorem rknown5 (w:World) (hE:Env w):Calls Tryz.prog 18 #[] w (RetB w (.bool true)):=by
 obtain ⟨b1,m1,k1,h1⟩:=Rq.some_ (-2)
 obtain ⟨b2,m2,k2,h2⟩:=Rq.some_ (3)
 obtain ⟨b3,m3,k3,h3⟩:=Rq.some_ (-1)
 obtain ⟨b4,m4,k4,h4⟩:=Rq.some_ (4)
 obtain ⟨b7,m7,k7,h7⟩:=Rq.some_ (-4)
 obtain ⟨b8,m8,k8,h8⟩:=Rq.some_ (-8)
 obtain ⟨b9,m9,k9,h9⟩:=Rq.some_ (12)
 obtain ⟨b11,m11,k11,h11⟩:=Rq.some_ (9)
 obtain ⟨b12,m12,k12,h12⟩:=Rq.some_ (-1 / 4)
 obtain ⟨b13,m13,k13,h13⟩:=Rq.some_ (11 / 8)
 obtain ⟨b14,m14,k14,h14⟩:=Rq.some_ (3 / 2)
 have h5:=qo
 have h6:=qt
 have h10:=Rq.zero
 have ok2:(⟨0,2,1⟩:Sg.Rl).Ok:=⟨.inl rfl,.inr ⟨by decide +kernel,nsq_two⟩⟩
 have hv2:Rv (⟨0,2,1⟩:Sg.Rl) false ⟨#[]⟩ ⟨#[]⟩ false ⟨#[2]⟩ ⟨#[]⟩ false:=⟨Rq.zero,qt,by decide⟩
 have hm2:Sg.mkR 0 1 2=⟨0,2,1⟩:=mk_irr5 (Sg.nsq_sq.1 nsq_two) (by decide +kernel) (by decide +kernel) (by decide +kernel)
 have hs2:(⟨0,2,1⟩:Sg.Rl).scl (((2^3:Nat):Int):Rat)=⟨0,128,1⟩:=by
  show Sg.mkR (0*(((2^3:Nat):Int):Rat)) ((((2^3:Nat):Int):Rat)*((1:Int):Rat)) 2=_
  rw [show (0:Rat)*(((2^3:Nat):Int):Rat)=0 by decide +kernel]
  exact mk_irr5 (Sg.nsq_sq.1 nsq_two) (by decide +kernel) (by decide +kernel) (by decide +kernel)
 have f1:floorV ⟨0,128,1⟩=11:=by unfold floorV fN;simp [rt_128]<;>decide +kernel
 have f2:floorV (Sg.Rl.neg ⟨0,128,1⟩)=-12:=by unfold floorV fN Sg.Rl.neg;simp [rt_128]<;>decide +kernel
 have HRt:=fun V (hb:Below w.heap.size w V)=>eroot_f qt (by decide +kernel) ((show Sz 1 (2) from ⟨by decide +kernel,by decide +kernel⟩).up (by omega)) (by rw [hm2];exact hv2) V (hE.next hb)
 have HEn:=fun V (hb:Below w.heap.size w V)=>enclp_f hv2 ok2 ⟨Sz.zero 7,((show Sz 1 (2) from ⟨by decide +kernel,by decide +kernel⟩).up (by omega))⟩ (n:=3) (by omega) hs2 (by rw [f1];rw [show Rat.divInt 11 ((2^3:Nat):Int)=11 / 8 by decide +kernel];exact h13) (by rw [f2];rw [show Rat.divInt (- -12) ((2^3:Nat):Int)=3 / 2 by decide +kernel];exact h14) V (hE.next hb)
 refine known5_w w (fun V _=>bound_f (x:=-2) (y:=3) h1 h2 (by omega) (by omega) (by omega) (by omega) V) (fun V _=>bound_f (x:=-1) (y:=4) h3 h4 (by omega) (by omega) (by omega) (by omega) V) (fun V _=>bound_f (x:=1) (y:=2) h5 h6 (by omega) (by omega) (by omega) (by omega) V) (fun V _=>bound_f (x:=-4) (y:=-2) h7 h1 (by omega) (by omega) (by omega) (by omega) V) (fun V _=>bound_f (x:=2) (y:=2) h6 h6 (by omega) (by omega) (by omega) (by omega) V) (fun V _=>bound_f (x:=-8) (y:=12) h8 h9 (by omega) (by omega) (by omega) (by omega) V) (fun V _=>bound_f (x:=0) (y:=9) h10 h11 (by omega) (by omega) (by omega) (by omega) V) ?_ ?_ ?_ ?_ (fun V _=>rOf_f (x:=-1) (y:=1) (by rw [show Rat.divInt (-1) 1=-1 by decide +kernel];exact h3) (by omega) (by omega) (by omega) (by omega) (by omega) V) (fun V _=>rOf_f (x:=-1) (y:=4) (by rw [show Rat.divInt (-1) 4=-1 / 4 by decide +kernel];exact h12) (by omega) (by omega) (by omega) (by omega) (by omega) V) (fun V _=>rOf_f (x:=11) (y:=8) (by rw [show Rat.divInt (11) 8=11 / 8 by decide +kernel];exact h13) (by omega) (by omega) (by omega) (by omega) (by omega) V) (fun V _=>rOf_f (x:=3) (y:=2) (by rw [show Rat.divInt (3) 2=3 / 2 by decide +kernel];exact h14) (by omega) (by omega) (by omega) (by omega) (by omega) V)
 · exact fun V hb=>emul_f h1 h2 h3 h4 (by rw [show mlo (-2) 3 (-1) 4=-8 by decide +kernel];exact h8) (by rw [show mhi (-2) 3 (-1) 4=12 by decide +kernel];exact h9) ((show Sz 1 (-2) from ⟨by decide +kernel,by decide +kernel⟩).up (by omega)) ((show Sz 1 (3) from ⟨by decide +kernel,by decide +kernel⟩).up (by omega)) ((show Sz 1 (-1) from ⟨by decide +kernel,by decide +kernel⟩).up (by omega)) ((show Sz 1 (4) from ⟨by decide +kernel,by decide +kernel⟩).up (by omega)) V (hE.next hb)
 · exact fun V hb=>ediv_f h5 h6 h7 h1 (by rw [show mlo 1 2 (1 / -2) (1 / -4)=-1 by decide +kernel];exact h3) (by rw [show mhi 1 2 (1 / -2) (1 / -4)=-1 / 4 by decide +kernel];exact h12) (by decide +kernel) (by decide +kernel) ((show Sz 1 (1) from ⟨by decide +kernel,by decide +kernel⟩).up (by omega)) ((show Sz 1 (2) from ⟨by decide +kernel,by decide +kernel⟩).up (by omega)) ((show Sz 1 (-4) from ⟨by decide +kernel,by decide +kernel⟩).up (by omega)) ((show Sz 1 (-2) from ⟨by decide +kernel,by decide +kernel⟩).up (by omega)) V (hE.next hb)
 · exact fun V hb=>esqrt_yes V (c:=1) (by omega) (fun V2 hb2=>egrid_f (n:=3) (by omega) V2) (fun V2 hb2=>ratSign_f h6 V2) (fun V2 hb2=>HRt V2 (hb.trans (hb2.mono hb.size))) (fun V2 hb2=>HEn V2 (hb.trans (hb2.mono hb.size))) (fun V2 hb2=>HRt V2 (hb.trans (hb2.mono hb.size))) (fun V2 hb2=>HEn V2 (hb.trans (hb2.mono hb.size)))
 · exact fun V hb=>esqu_f h1 h2 (by rw [show slo (-2) 3=0 by decide +kernel];exact h10) (by rw [show shi (-2) 3=9 by decide +kernel];exact h11) ((show Sz 1 (-2) from ⟨by decide +kernel,by decide +kernel⟩).up (by omega)) ((show Sz 1 (3) from ⟨by decide +kernel,by decide +kernel⟩).up (by omega)) V (hE.next hb)
end Go.Proofs.YtdbhahiieokplaaGreatDoor


namespace Go.Proofs.YtdbhahiieokplaaGreatDoor
open Go.RowKit
attribute [local go_sem ↓] Go.wp_at_zero Go.wp_at_succ

theorem rq_ne {p q:Rat} {b1 b2:Bool} {m1 k1 m2 k2:ByteArray} (h1:Rq p b1 m1 k1) (h2:Rq q b2 m2 k2) (h:p≠q):b1≠b2∨m1≠m2∨k1≠k2:=by
 by_cases e1:b1=b2
 · by_cases e2:m1=m2
   · refine .inr (.inr fun e3=>h ?_)
     subst e1 e2 e3
     exact h1.eq_of h2
   · exact .inr (.inl e2)
 · exact .inl e1
def bcmp (p q r s:Rat):Int:=if q<r then -1 else if s<p then 1 else if p=r∧q=s∧p=q then 0 else 2
theorem part_size {n d:Int} (hn1:-2147483648≤n) (hn2:n≤2147483647) (hd1:0≤d) (hd2:d≤65535):Sz 4 (Rat.divInt n (d+1)):=by
 obtain ⟨e,rfl⟩:∃ e:Nat,d=(e:Int):=⟨d.toNat,by omega⟩
 rw [show ((e:Int)+1)=((e+1:Nat):Int) by omega,Rat.divInt_ofNat]
 obtain ⟨h1,h2⟩:=mkRat_le n (d:=e+1) (by omega)
 exact ⟨by have : (256 : Nat) ^ 4 = 4294967296 := by decide
           omega, by have : (256 : Nat) ^ 4 = 4294967296 := by decide
                     omega⟩
theorem prat_f {n d:Int} {b1:Bool} {m1 k1:ByteArray} (hn1:-2147483648≤n) (hn2:n≤2147483647) (hd1:0≤d) (hd2:d≤65535) (h1:Rq (Rat.divInt n (d+1)) b1 m1 k1) (w:World):Calls Tryz.prog 17 #[.agg #[.int .i32 n,.int .u16 d]] w (RetB w (.agg #[.bool b1,.string m1,.bool false,.string k1])) :=
 prat_w w (wrap_small (by omega) (by omega)) (wrap_small (by omega) (by omega)) (wrap_small (by omega) (by omega)) (fun V _=>rOf_f h1 (by omega) (by omega) (by omega) (by omega) (by omega) V)
theorem pof_f {n1 d1 n2 d2:Int} (a1:-2147483648≤n1) (a2:n1≤2147483647) (a3:0≤d1) (a4:d1≤65535) (c1:-2147483648≤n2) (c2:n2≤2147483647) (c3:0≤d2) (c4:d2≤65535):∃ p q:Rat,∃ b1 m1 k1 b2 m2 k2,Rq p b1 m1 k1∧Rq q b2 m2 k2∧p≤q∧Sz 4 p∧Sz 4 q∧∀ w,Calls Tryz.prog 26 #[.agg #[.int .i32 n1,.int .u16 d1,.int .i32 n2,.int .u16 d2]] w (RetB w (.agg #[.bool b1,.string m1,.bool false,.string k1,.bool b2,.string m2,.bool false,.string k2])):=by
 have z1:=part_size a1 a2 a3 a4
 have z2:=part_size c1 c2 c3 c4
 obtain ⟨b1,m1,k1,h1⟩:=Rq.some_ (Rat.divInt n1 (d1+1))
 obtain ⟨b2,m2,k2,h2⟩:=Rq.some_ (Rat.divInt n2 (d2+1))
 have H1:=fun (w V:World) (_:Below w.heap.size w V)=>prat_f a1 a2 a3 a4 h1 V
 have H2:=fun (w V:World) (_:Below w.heap.size w V)=>prat_f c1 c2 c3 c4 h2 V
 have H3:=fun (w V:World) (_:Below w.heap.size w V)=>qcmp h1 h2 (z1.up (by omega)) (z2.up (by omega)) V
 rcases Rat.le_total (a:=Rat.divInt n1 (d1+1)) (b:=Rat.divInt n2 (d2+1)) with h | h
 · exact ⟨_,_,_,_,_,_,_,_,h1,h2,h,z1,z2,fun w=>pof_2 w (by have:=cmpQ_le.2 h;omega) (H1 w) (H2 w) (H3 w)⟩
 · by_cases e:Rat.divInt n1 (d1+1)≤Rat.divInt n2 (d2+1)
   · exact ⟨_,_,_,_,_,_,_,_,h1,h2,e,z1,z2,fun w=>pof_2 w (by have:=cmpQ_le.2 e;omega) (H1 w) (H2 w) (H3 w)⟩
   · exact ⟨_,_,_,_,_,_,_,_,h2,h1,h,z2,z1,fun w=>pof_1 w (by have:=mt cmpQ_le.1 e;omega) (H1 w) (H2 w) (H3 w)⟩
theorem within_f {p q:Rat} {b1 b2:Bool} {m1 k1 m2 k2:ByteArray} (h1:Rq p b1 m1 k1) (h2:Rq q b2 m2 k2) (hpq:p≤q) (z1:Sz 4 p) (z2:Sz 4 q) (x:Nat) (hx:x<256):∃ y:Rat,∃ b6 m6 k6,Rq y b6 m6 k6∧p≤y∧y≤q∧Sz 20 y∧∀ w,Calls Tryz.prog 41 #[.agg #[.bool b1,.string m1,.bool false,.string k1,.bool b2,.string m2,.bool false,.string k2],.int .u8 (x:Int)] w (RetB w (.agg #[.bool b6,.string m6,.bool false,.string k6])):=by
 obtain ⟨y,hy⟩:∃ y:Nat,x%17=y:=⟨_,rfl⟩
 have hy2:y≤16:=by omega
 have zw:Sz 2 (Rat.divInt (y:Int) 16):=by
  rw [show (16:Int)=((16:Nat):Int) from rfl,Rat.divInt_ofNat]
  obtain ⟨g1,g2⟩:=mkRat_le (y:Int) (d:=16) (by decide)
  exact ⟨by have : (256 : Nat) ^ 2 = 65536 := by decide
            omega, by have : (256 : Nat) ^ 2 = 65536 := by decide
                      omega⟩
 have w0:(0:Rat)≤Rat.divInt (y:Int) 16:=Rat.divInt_nonneg (by omega) (by decide)
 have w1:Rat.divInt (y:Int) 16≤1:=by
  rw [Rat.divInt_eq_div]
  have h16:((y:Int):Rat)≤16:=by
   have:((y:Int):Rat)≤((16:Int):Rat):=Rat.intCast_le_intCast.2 (by omega)
   exact this
  have e:((16:Int):Rat)=16:=rfl
  rw [e]
  grind
 obtain ⟨b3,m3,k3,h3⟩:=Rq.some_ (Rat.divInt (y:Int) 16)
 obtain ⟨b4,m4,k4,h4⟩:=Rq.some_ (q-p)
 obtain ⟨b5,m5,k5,h5⟩:=Rq.some_ (Rat.divInt (y:Int) 16*(q-p))
 obtain ⟨b6,m6,k6,h6⟩:=Rq.some_ (p+Rat.divInt (y:Int) 16*(q-p))
 have z4:=z2.sub z1
 have z5:=zw.mul z4
 obtain ⟨t,ht⟩:∃ t,Rat.divInt (y:Int) 16=t:=⟨_,rfl⟩
 have k0:0≤t*(q-p):=Rat.mul_nonneg (ht ▸ w0) (by grind)
 have k1:t*(q-p)≤1*(q-p):=Rat.mul_le_mul_of_nonneg_right (ht ▸ w1) (by grind)
 refine ⟨_,_,_,_,h6,by rw [ht];grind,by rw [ht];grind,(z1.add z5).up (by omega),fun w=>?_⟩
 exact within_w w (y:=(y:Int)) (by rw [Int.tmod_eq_emod_of_nonneg (by omega)];omega) (IntWalk.u8_in _ (by omega)) (wrap_small (by omega) (by omega)) (fun V _=>rOf_f h3 (by omega) (by omega) (by omega) (by omega) (by omega) V) (fun V _=>rsub_z h2 h1 h4 (z2.up (by omega)) (z1.up (by omega)) V) (fun V _=>rmul_z h3 h4 h5 (zw.up (by omega)) (z4.up (by omega)) V) (fun V _=>radd_z h1 h5 h6 (z1.up (by omega)) (z5.up (by omega)) V)

theorem ecmp_f {p q r s:Rat} {b1 b2 b3 b4:Bool} {m1 k1 m2 k2 m3 k3 m4 k4:ByteArray} (h1:Rq p b1 m1 k1) (h2:Rq q b2 m2 k2) (h3:Rq r b3 m3 k3) (h4:Rq s b4 m4 k4) (z1:Sz 10000 p) (z2:Sz 10000 q) (z3:Sz 10000 r) (z4:Sz 10000 s) (w:World) (hE:Env w):Calls Tryz.prog 59 #[.agg #[.bool b1,.string m1,.bool false,.string k1,.bool b2,.string m2,.bool false,.string k2],.agg #[.bool b3,.string m3,.bool false,.string k3,.bool b4,.string m4,.bool false,.string k4]] w (RetB w (.int .i64 (bcmp p q r s))):=by
 unfold bcmp
 by_cases g1:q<r
 · rw [if_pos g1]
   exact ecmp_lt w (by have:=mt cmpQ_ge.1 (Rat.not_le.2 g1);omega) (fun V hb=>pcmp h2 h3 z2 z3 V (hE.next hb))
 have c1:¬cmpQ q r<0:=by have:=cmpQ_ge.2 (Rat.not_lt.1 g1);omega
 rw [if_neg g1]
 by_cases g2:s<p
 · rw [if_pos g2]
   exact ecmp_gt w c1 (by have:=mt cmpQ_le.1 (Rat.not_le.2 g2);omega) (fun V hb=>pcmp h2 h3 z2 z3 V (hE.next hb)) (fun V hb=>pcmp h1 h4 (z1.up (by omega)) (z4.up (by omega)) V (hE.next hb))
 rw [if_neg g2]
 by_cases g3:p=r∧q=s
 · obtain ⟨rfl,rfl⟩:=g3
   obtain ⟨rfl,rfl,rfl⟩:=h1.inj h3
   obtain ⟨rfl,rfl,rfl⟩:=h2.inj h4
   by_cases g4:p=q
   · subst g4
     obtain ⟨rfl,rfl,rfl⟩:=h1.inj h2
     rw [if_pos ⟨rfl,rfl,rfl⟩]
     exact ecmp_eq w c1 (by have:=cmpQ_zero.2 (rfl:p=p);omega) (fun V hb=>pcmp h1 h1 z1 z1 V (hE.next hb))
   · rw [if_neg (fun h=>g4 h.2.2)]
     exact ecmp_un1 w c1 (by have:=cmpQ_le.2 (Rat.not_lt.1 g2);omega) (rq_ne h1 h2 g4) (fun V hb=>pcmp h2 h1 z2 z1 V (hE.next hb)) (fun V hb=>pcmp h1 h2 z1 z2 V (hE.next hb))
 · rw [if_neg (fun h=>g3 ⟨h.1,h.2.1⟩)]
   refine ecmp_un2 w c1 (by have:=cmpQ_le.2 (Rat.not_lt.1 g2);omega) ?_ (fun V hb=>pcmp h2 h3 z2 z3 V (hE.next hb)) (fun V hb=>pcmp h1 h4 (z1) (z4) V (hE.next hb))
   by_cases g4:p=r
   · have:=rq_ne h2 h4 (fun h=>g3 ⟨g4,h⟩)
     rcases this with h | h | h<;>simp [h]
   · have:=rq_ne h1 h3 g4
     rcases this with h | h | h<;>simp [h]

theorem fcmb_f {p q r s:Rat} {b1 b2 b3 b4:Bool} {m1 k1 m2 k2 m3 k3 m4 k4:ByteArray} (h1:Rq p b1 m1 k1) (h2:Rq q b2 m2 k2) (h3:Rq r b3 m3 k3) (h4:Rq s b4 m4 k4) (z1:Sz 10000 p) (z2:Sz 10000 q) (z3:Sz 10000 r) (z4:Sz 10000 s) (w:World):Calls Tryz.prog 58 #[.agg #[.bool b1,.string m1,.bool false,.string k1,.bool b2,.string m2,.bool false,.string k2],.agg #[.bool b3,.string m3,.bool false,.string k3,.bool b4,.string m4,.bool false,.string k4]] w (RetB w (.int .i64 (bcmp p q r s))):=by
 unfold bcmp
 by_cases g1:q<r
 · rw [if_pos g1]
   exact fcmp_lt w (by have:=mt cmpQ_ge.1 (Rat.not_le.2 g1);omega) (fun V _=>qcmp h2 h3 z2 z3 V)
 have c1:¬cmpQ q r<0:=by have:=cmpQ_ge.2 (Rat.not_lt.1 g1);omega
 rw [if_neg g1]
 by_cases g2:s<p
 · rw [if_pos g2]
   exact fcmp_gt w c1 (by have:=mt cmpQ_ge.1 (Rat.not_le.2 g2);omega) (fun V _=>qcmp h2 h3 z2 z3 V) (fun V _=>qcmp h4 h1 (z4.up (by omega)) (z1.up (by omega)) V)
 rw [if_neg g2]
 by_cases g3:p=r∧q=s
 · obtain ⟨rfl,rfl⟩:=g3
   obtain ⟨rfl,rfl,rfl⟩:=h1.inj h3
   obtain ⟨rfl,rfl,rfl⟩:=h2.inj h4
   by_cases g4:p=q
   · subst g4
     obtain ⟨rfl,rfl,rfl⟩:=h1.inj h2
     rw [if_pos ⟨rfl,rfl,rfl⟩]
     exact fcmp_eq w c1 (by have:=cmpQ_zero.2 (rfl:p=p);omega) (fun V _=>qcmp h1 h1 z1 z1 V)
   · rw [if_neg (fun h=>g4 h.2.2)]
     exact fcmp_un1 w (d:=0) c1 (by omega) (rq_ne h1 h2 g4) (fun V _=>qcmp h2 h1 z2 z1 V)
 · rw [if_neg (fun h=>g3 ⟨h.1,h.2.1⟩)]
   refine fcmp_un2 w c1 (by have:=cmpQ_ge.2 (Rat.not_lt.1 g2);omega) ?_ (fun V _=>qcmp h2 h3 z2 z3 V) (fun V _=>qcmp h4 h1 (z4) (z1) V)
   by_cases g4:p=r
   · have:=rq_ne h2 h4 (fun h=>g3 ⟨g4,h⟩)
     rcases this with h | h | h<;>simp [h]
   · have:=rq_ne h1 h3 g4
     rcases this with h | h | h<;>simp [h]
end Go.Proofs.YtdbhahiieokplaaGreatDoor
