import Derived.Test.YtpnokfgplnmjpaaGreatDoorGRHE
import Derived.Test.YtpnokfgplnmjpaaGreatDoorGRHK
import Derived.Test.YtpnokfgplnmjpaaGreatDoorGQW
import Derived.Test.YtpnokfgplnmjpaaGreatDoorGRMJ
set_option linter.unusedSimpArgs false
set_option linter.unusedVariables false

namespace Go.Proofs.YtpnokfgplnmjpaaGreatDoor
open Go.RowKit
attribute [local go_sem ↓] Go.wp_at_zero Go.wp_at_succ

def Zs (n:Nat) (z:Int):Prop:=z.natAbs<256^n
theorem Zs.sz {n:Nat} {z:Int} (hz:Zs n z) {b:Bool} {m:ByteArray} (h:enc z=.agg #[.bool b,.string m]):m.size≤n:=by
 rw [(enc_parts h).2]
 exact mag_size_le hz
theorem Zs.mul {n m:Nat} {x y:Int} (hx:Zs n x) (hy:Zs m y):Zs (n+m) (x*y):=by
 unfold Zs
 rw [Int.natAbs_mul,Nat.pow_add]
 exact Nat.mul_lt_mul'' hx hy
theorem Zs.root {n:Nat} {x:Int} (h:Zs n x):Zs n ((rt x.natAbs:Nat):Int):=by
 unfold Zs
 rw [Int.natAbs_natCast]
 exact Nat.lt_of_le_of_lt (rt_self _) h
theorem Zs.below {n:Nat} {x:Int} (h:Zs n x):Zs (n+1) (-1-x):=by
 unfold Zs at h ⊢
 rw [Nat.pow_succ]
 have:=Nat.pow_pos (a:=256) (n:=n) (by decide)
 generalize 256^n=Z at *
 omega
theorem Sz.n {n:Nat} {q:Rat} (h:Sz n q):Zs n q.num:=h.1
theorem Sz.d {n:Nat} {q:Rat} (h:Sz n q):Zs n (q.den:Int):=by unfold Zs;rw [Int.natAbs_natCast];exact h.2
def fN (x:Sg.Rl):Int:=((x.p.den:Int)*(x.a.den:Int))*(x.p.den:Int)*x.a.num
def floorV (x:Sg.Rl):Int:=if x.a=0 then x.p.num / (x.p.den:Int) else (x.p.num*(x.a.den:Int)+(if x.s<0 then -1-((rt (fN x).natAbs:Nat):Int) else ((rt (fN x).natAbs:Nat):Int))) / ((x.p.den:Int)*(x.a.den:Int))
theorem fN_pos {x:Sg.Rl} (h:0<x.a):0≤fN x:=by
 unfold fN
 have h1:0<x.a.num:=num_pos_iff.2 h
 have h2:(0:Int)<x.p.den:=by have:=x.p.den_pos;omega
 have h3:(0:Int)<x.a.den:=by have:=x.a.den_pos;omega
 exact Int.le_of_lt (Int.mul_pos (Int.mul_pos (Int.mul_pos h2 h3) h2) h1)

set_option maxHeartbeats 8000000 in
set_option maxRecDepth 100000 in
theorem rfloor_rat {p:Rat} {b1:Bool} {m1 k1:ByteArray} {s1:Bool} {b2:Bool} {m2:ByteArray} (hp:Rq p b1 m1 k1) (hz:enc (p.num / (p.den:Int))=.agg #[.bool b2,.string m2]) (zp:Sz 10000 p) (w:World) :
  Calls Tryz.prog 52 #[.agg #[.bool b1,.string m1,.bool false,.string k1,.bool false,.string ⟨#[]⟩,.bool false,.string ⟨#[]⟩,.bool s1]] w (RetB w (.agg #[.bool b2,.string m2])):=by
 have t1:=zp.m hp (Nat.le_refl _)
 have C1:=kn w (isRat_yes b1 s1 m1 k1)
 have C2:=kn w (ratFloor_f hp hz (by omega) (by omega))
 have RS:=Lib.hid Tryz.results52
 clear hp hz zp t1
 go_enter Tryz.func52,Tryz.ntmps52
 exact wk0

theorem zret {F:FuncId} {A:Array Value} {z:Int} {b:Bool} {m:ByteArray} (hz:enc z=.agg #[.bool b,.string m]) {w:World} (h:Calls Tryz.prog F A w (RetZ w z)):Calls Tryz.prog F A w (RetB w (.agg #[.bool b,.string m])):=by
 unfold RetZ at h;rw [hz] at h;exact h
theorem Zs.of_size {n:Nat} {x:Int} {b:Bool} {m:ByteArray} (hx:enc x=.agg #[.bool b,.string m]) (s:m.size≤n):Zs n x:=by
 unfold Zs
 have:=bval_lt m
 rw [(enc_parts hx).2,bval_mag] at this
 exact Nat.lt_of_lt_of_le this (Nat.pow_le_pow_right (by decide) (by rw [←(enc_parts hx).2];exact s))
theorem Zs.plus {n:Nat} {x y:Int} (zx:Zs n x) (zy:Zs n y):Zs (n+1) (x+y):=by
 unfold Zs at *
 rw [Nat.pow_succ]
 have:=Nat.pow_pos (a:=256) (n:=n) (by decide)
 generalize 256^n=Z at *
 omega
theorem sum_size {x y:Int} {b1 b2 b3:Bool} {m1 m2 m3:ByteArray} (hx:enc x=.agg #[.bool b1,.string m1]) (hy:enc y=.agg #[.bool b2,.string m2]) (s1:m1.size≤9000) (s2:m2.size≤9000) (h:enc (x+y)=.agg #[.bool b3,.string m3]):m3.size≤100000:=by
 have zx:=Zs.of_size hx s1
 have zy:=Zs.of_size hy s2
 have:=zx.plus zy
 exact Nat.le_trans (this.sz h) (by decide)

set_option maxHeartbeats 8000000 in
set_option maxRecDepth 100000 in
theorem rfloor_irr {x:Sg.Rl} {b1 c1 s1:Bool} {m1 k1 n1 l1:ByteArray} {b2:Bool} {m2:ByteArray} (hx:Rv x b1 m1 k1 c1 n1 l1 s1) (hx0:0<x.a) (hne:x.a≠0) (hz:enc (floorV x)=.agg #[.bool b2,.string m2]) (zx:Rz 2000 x) (w:World) (hE:Env w) :
  Calls Tryz.prog 52 #[.agg #[.bool b1,.string m1,.bool false,.string k1,.bool c1,.string n1,.bool false,.string l1,.bool s1]] w (RetB w (.agg #[.bool b2,.string m2])):=by
 have hs:s1=decide (x.s<0):=hx.neg
 obtain ⟨f,hf⟩:∃ f:Int,f=floorV x:=⟨_,rfl⟩
 rw [←hf] at hz
 unfold floorV at hf
 rw [if_neg hne] at hf
 obtain ⟨N,hN⟩:∃ N,N=fN x:=⟨_,rfl⟩
 have hN0:0≤N:=by rw [hN];exact fN_pos hx0
 have zN:Zs 8000 N:=by rw [hN];exact ((zx.p.d.mul zx.r.d).mul zx.p.d).mul zx.r.n
 have eN:N=(x.p.den:Int)*(x.a.den:Int)*(x.p.den:Int)*x.a.num:=hN
 rw [←hN] at hf
 have zb:=zx.p.d
 have zd:=zx.r.d
 have hb0:(x.p.den:Int)≠0:=by have:=x.p.den_pos;omega
 have hd0:(x.a.den:Int)≠0:=by have:=x.a.den_pos;omega
 have eb:enc (x.p.den:Int)=.agg #[.bool false,.string (mag x.p.den)]:=enc_mag _
 have ed:enc (x.a.den:Int)=.agg #[.bool false,.string (mag x.a.den)]:=enc_mag _
 have ea:=hx.r.num
 have en:=hx.p.num
 have za:=zx.r.n
 have zn:=zx.p.n
 have C2:=Lib.hid (fun V (hb:Below w.heap.size w V)=>den_f hx.p V (hE.next hb))
 have C3:=Lib.hid (fun V (hb:Below w.heap.size w V)=>den_f hx.r V (hE.next hb))
 generalize (x.p.den:Int)=b at *
 generalize (x.a.den:Int)=d at *
 generalize mag x.p.den=yb at *
 generalize mag x.a.den=yd at *
 generalize x.p.num=n at *
 generalize x.a.num=a at *
 obtain ⟨z1,y1,e1⟩:=enc_form (b*d)
 obtain ⟨z2,y2,e2⟩:=enc_form (n*d)
 obtain ⟨z3,y3,e3⟩:=enc_form (b*d*b)
 obtain ⟨z4,y4,e4⟩:=enc_form N
 have zr:=zN.root
 have hr0:enc ((rt N.natAbs:Nat):Int)=enc ((rt N.natAbs:Nat):Int):=rfl
 obtain ⟨z5,y5,e5⟩:=enc_form ((rt N.natAbs:Nat):Int)
 have C10:=Lib.hid (fun V (_:Below w.heap.size w V)=>sqrt_f e4 hN0 (Nat.le_trans (zN.sz e4) (by decide)) e5 V)
 generalize ((rt N.natAbs:Nat):Int)=r at *
 obtain ⟨z6,y6,e6⟩:=enc_form (-1:Int)
 obtain ⟨z7,y7,e7⟩:=enc_form (-1-r)
 obtain ⟨z8,y8,e8⟩:=enc_form (n*d+r)
 obtain ⟨z9,y9,e9⟩:=enc_form (n*d+(-1-r))
 obtain ⟨z10,y10,e10⟩:=enc_form ((n*d+(if s1 then -1-r else r))%(b*d))
 have t1:=(zb.mul zd).sz e1
 have t2:=(zn.mul zd).sz e2
 have t3:=((zb.mul zd).mul zb).sz e3
 have t4:=zN.sz e4
 have t5:=zr.sz e5
 have t6:y6.size≤1:=Zs.sz (n:=1) (z:=-1) (by unfold Zs;decide) e6
 have t7:=zr.below.sz e7
 have t8:y8.size≤100000:=sum_size e2 e5 (by omega) (by omega) e8
 have t9:y9.size≤100000:=sum_size e2 e7 (by omega) (by omega) e9
 have tb:=zb.sz eb
 have td:=zd.sz ed
 have tn:=zn.sz en
 have ta:=za.sz ea
 have hden:b*d≠0:=Int.mul_ne_zero hb0 hd0
 have C15:=Lib.hid (fun V (_:Below w.heap.size w V) (h:s1=false)=>divMod_f e8 e1 (Nat.le_trans t8 (by decide)) (by omega) hden hz (by rw [h] at e10;exact e10) (by rw [hf,if_neg (by rw [h] at hs;simpa using hs.symm)]) rfl V)
 have C16:=Lib.hid (fun V (_:Below w.heap.size w V) (h:s1=true)=>divMod_f e9 e1 (Nat.le_trans t9 (by decide)) (by omega) hden hz (by rw [h] at e10;exact e10) (by rw [hf,if_pos (by rw [h] at hs;simpa using hs.symm)]) rfl V)
 have C11:=Lib.hid (fun V (_:Below w.heap.size w V)=>zret e6 (fromInt_any (-1) (by omega) (by omega) V))
 have C1:=kn w (isRat_no hx hne)
 have C4:=kn w (mul_f eb ed (by omega) (by omega) e1 rfl)
 have C5:=kn w (num_any b1 m1 false k1)
 have C6:=kn w (mul_f en ed (by omega) (by omega) e2 rfl)
 have C7:=kn w (mul_f e1 eb (by omega) (by omega) e3 rfl)
 have C8:=kn w (num_any c1 n1 false l1)
 have C9:=kn w (mul_f e3 ea (by omega) (by omega) e4 eN)
 have C12:=kn w (sub_f e6 e5 (by omega) (by omega) e7 rfl)
 have C13:=kn w (add_f e2 e5 (by omega) (by omega) e8 rfl)
 have C14:=kn w (add_f e2 e7 (by omega) (by omega) e9 rfl)
 have Z1:Hid (∀ {p:Prop} (h:p:=by ((refine (fun (hh:s1=false)=>?_) ?_;rotate_left;assumption;subst hh);all_goals exact wk)),p):=@fun _ h=>h
 have Z2:Hid (∀ {p:Prop} (h:p:=by ((refine (fun (hh:s1=true)=>?_) ?_;rotate_left;assumption;subst hh);all_goals exact wk)),p):=@fun _ h=>h
 have U1:Hid (∀ {p:Prop} (h:p:=by ((fail_if_success (go_not_at_region 3));(fail_if_success (have:=hLL));obtain ⟨LL,hLL⟩:=lexi X.out;go_cut [3,4] (fun s0 s1 wx=>∃ g0 g1,s0=.pointer (some ⟨g0,0,none⟩)∧s1=.pointer (some ⟨g1,0,none⟩)∧Sb w (LL++[(g0,#[.bool false,.string yb],23),(g1,#[.bool false,.string yd],23)]) [] wx);all_goals exact wkc)),p):=@fun _ h=>h
 have U2:Hid (∀ {p:Prop} (h:p:=by ((fail_if_success (go_not_at_region 5));(fail_if_success (have:=hLL));obtain ⟨LL,hLL⟩:=lexi X.out;go_cut [6] (fun s0 wx=>∃ g0,s0=.pointer (some ⟨g0,0,none⟩)∧Sb w (LL++[(g0,#[.bool z2,.string y2],23)]) [] wx);all_goals exact wkc)),p):=@fun _ h=>h
 have U3:Hid (∀ {p:Prop} (h:p:=by ((fail_if_success (go_not_at_region 6));(fail_if_success (have:=hLL));obtain ⟨LL,hLL⟩:=lexi X.out;go_cut [7] (fun s0 wx=>∃ g0,s0=.pointer (some ⟨g0,0,none⟩)∧Sb w (LL++[(g0,#[.bool z5,.string y5],23)]) [] wx);all_goals exact wkc)),p):=@fun _ h=>h
 have U4:Hid (∀ {p:Prop} (h:p:=by ((fail_if_success (go_not_at_region 9));(fail_if_success (have:=hLL));obtain ⟨LL,hLL⟩:=lexi X.out;go_cut [9,10] (fun s0 s1 wx=>∃ g0 g1,s0=.pointer (some ⟨g0,0,none⟩)∧s1=.pointer (some ⟨g1,0,none⟩)∧Sb w (LL++[(g0,#[.bool b2,.string m2],23),(g1,#[.bool z10,.string y10],23)]) [] wx);all_goals exact wkc)),p):=@fun _ h=>h
 have M1:Hid (∀ {p:Prop} (h:p:=by first | exact ⟨_,_,rfl,rfl,X.out.pick [0,1,2,3] _ [] rfl (by decide) (by simp)⟩ | exact ⟨_,_,rfl,rfl,X.out.pick [0,1,3,2] _ [] rfl (by decide) (by simp)⟩ | exact ⟨_,_,rfl,rfl,X.out.pick [0,1,2,3,4,5,6,7,8] _ [] rfl (by decide) (by simp)⟩ | exact ⟨_,_,rfl,rfl,X.out.pick [0,1,2,3,4,5,6,8,7] _ [] rfl (by decide) (by simp)⟩),p):=@fun _ h=>h
 have RS:=Lib.hid Tryz.results52
 clear hx hx0 hz zx hs hf hN hN0 zN eN zb zd hb0 hd0 eb ed ea en za zn e1 e2 e3 e4 zr hr0 e5 e6 e7 e8 e9 e10 t1 t2 t3 t4 t5 t6 t7 t8 t9 tb td tn ta hden hE
 go_enter Tryz.func52,Tryz.ntmps52
 exact wk0

theorem rfloor_f {x:Sg.Rl} {b1 c1 s1:Bool} {m1 k1 n1 l1:ByteArray} {b2:Bool} {m2:ByteArray} (hx:Rv x b1 m1 k1 c1 n1 l1 s1) (ok:x.Ok) (hz:enc (floorV x)=.agg #[.bool b2,.string m2]) (zx:Rz 2000 x) (w:World) (hE:Env w):Calls Tryz.prog 52 #[.agg #[.bool b1,.string m1,.bool false,.string k1,.bool c1,.string n1,.bool false,.string l1,.bool s1]] w (RetB w (.agg #[.bool b2,.string m2])):=by
 by_cases h0:x.a=0
 · obtain ⟨rfl,rfl,rfl⟩:=hx.r.nought.1 h0
   unfold floorV at hz
   rw [if_pos h0] at hz
   exact rfloor_rat hx.p hz (zx.p.up (by omega)) w
 · exact rfloor_irr hx (ok_pos ok h0) h0 hz zx w hE
end Go.Proofs.YtpnokfgplnmjpaaGreatDoor


namespace Go.Proofs.YtpnokfgplnmjpaaGreatDoor
open Go.RowKit
attribute [local go_sem ↓] Go.wp_at_zero Go.wp_at_succ

theorem nsq_nat {n r:Nat} (h1:r*r<n) (h2:n<(r+1)*(r+1)):Sg.NSq (n:Rat):=by
 intro z e
 obtain ⟨s1,s2⟩:=sq_parts z
 rw [e] at s1
 have h3:((n:Rat)).num=(n:Int):=rfl
 rw [h3] at s1
 generalize z.num.natAbs=m at s1
 have h4:n=m*m:=by exact_mod_cast s1
 rcases Nat.lt_or_ge r m with h | h
 · have:=Nat.mul_le_mul (show r+1≤m from h) (show r+1≤m from h)
   rw [←h4] at this
   exact absurd h2 (Nat.not_lt.2 this)
 · have:=Nat.mul_le_mul h h
   rw [←h4] at this
   exact absurd h1 (Nat.not_lt.2 this)
theorem nsq_two:Sg.NSq 2:=nsq_nat (n:=2) (r:=1) (by decide) (by decide)
theorem rt_two:rt 2=1:=rt_unique (by decide) (by decide)
theorem rt_four:rt 4=2:=rt_unique (by decide) (by decide)
theorem qo:Rq 1 false ⟨#[1]⟩ ⟨#[]⟩:=⟨by rw [←mag_one];exact enc_mag 1,by rw [show (1:Rat).den=1 from rfl];exact dm_one.symm⟩
theorem qt:Rq 2 false ⟨#[2]⟩ ⟨#[]⟩:=⟨by rw [←mag_2];exact enc_mag 2,by rw [show (2:Rat).den=1 from rfl];exact dm_one.symm⟩
theorem qz:Rq 0 false ⟨#[]⟩ ⟨#[]⟩:=Rq.zero
theorem Rq.int_ {q:Rat} (h:q.den=1):∃ b m,Rq q b m ⟨#[]⟩:=by
 obtain ⟨b,m,k,hq⟩:=Rq.some_ q
 obtain rfl:=hq.den1 h
 exact ⟨b,m,hq⟩

set_option maxHeartbeats 8000000 in
theorem simp3 {bmo:Bool} {mmo:ByteArray} {bmt:Bool} {mmt:ByteArray} {bth:Bool} {mth:ByteArray} {bei:Bool} {mei:ByteArray} {bst:Bool} {mst:ByteArray} {bh3:Bool} {mh3:ByteArray} {kh3:ByteArray} {bh1:Bool} {mh1:ByteArray} {kh1:ByteArray} {bot:Bool} {mot:ByteArray} {kot:ByteArray} {bs3:Bool} {ms3:ByteArray} {ks3:ByteArray} {bt7:Bool} {mt7:ByteArray} {kt7:ByteArray} {btn:Bool} {mtn:ByteArray} {ktn:ByteArray} (qmo:Rq (-1) bmo mmo ⟨#[]⟩) (qmt:Rq (-2) bmt mmt ⟨#[]⟩) (qth:Rq (3) bth mth ⟨#[]⟩) (qei:Rq (8) bei mei ⟨#[]⟩) (qst:Rq (72) bst mst ⟨#[]⟩) (qh3:Rq (3 / 2) bh3 mh3 kh3) (qh1:Rq (1 / 2) bh1 mh1 kh1) (qot:Rq (1 / 3) bot mot kot) (qs3:Rq (7 / 3) bs3 ms3 ks3) (qt7:Rq (3 / 7) bt7 mt7 kt7) (qtn:Rq (10 / 7) btn mtn ktn) (w:World) (hE:Env w) :
  Calls Tryz.prog 109 #[.agg #[.bool false,.string ⟨#[1]⟩,.bool false,.string ⟨#[]⟩,.bool false,.string ⟨#[2]⟩,.bool false,.string ⟨#[]⟩,.bool false],.agg #[.bool bth,.string mth,.bool false,.string ⟨#[]⟩,.bool false,.string ⟨#[2]⟩,.bool false,.string ⟨#[]⟩,.bool false]] w (RetB w (.agg #[.bool bth,.string mth,.bool false,.string ⟨#[]⟩])):=by
 have HF:∀ V,Below w.heap.size w V→Calls Tryz.prog 52 #[.agg #[.bool false,.string ⟨#[1]⟩,.bool false,.string ⟨#[]⟩,.bool false,.string ⟨#[2]⟩,.bool false,.string ⟨#[]⟩,.bool false]] V (RetB V (.agg #[.bool false,.string ⟨#[2]⟩])):=fun V hb=>rfloor_f (⟨qo,qt,by decide⟩:Rv (⟨1,2,1⟩:Sg.Rl) false ⟨#[1]⟩ ⟨#[]⟩ false ⟨#[2]⟩ ⟨#[]⟩ false) (show ((⟨1,2,1⟩:Sg.Rl)).Ok from ⟨.inl rfl,.inr ⟨by decide +kernel,nsq_two⟩⟩) (by rw [show floorV (⟨1,2,1⟩:Sg.Rl)=2 from by unfold floorV fN;simp [rt_two,rt_four]<;>decide +kernel];exact qt.num) (show Rz 2000 (⟨1,2,1⟩:Sg.Rl) from ⟨(show Sz 1 _ from ⟨by decide +kernel,by decide +kernel⟩).up (by omega),(show Sz 1 _ from ⟨by decide +kernel,by decide +kernel⟩).up (by omega)⟩) V (hE.next hb)
 have HW:∀ V,Below w.heap.size w V→Calls Tryz.prog 73 #[.int .i64 (1)] V (RetB V (.agg #[.bool false,.string ⟨#[1]⟩,.bool false,.string ⟨#[]⟩])):=fun V hb=>rFromInt_f (x:=1) qo.num (by omega) (by omega) V
 have HA:∀ V,Below w.heap.size w V→Calls Tryz.prog 89 #[.agg #[.bool false,.string ⟨#[2]⟩,.bool false,.string ⟨#[]⟩],.agg #[.bool false,.string ⟨#[1]⟩,.bool false,.string ⟨#[]⟩]] V (RetB V (.agg #[.bool bth,.string mth,.bool false,.string ⟨#[]⟩])):=fun V hb=>add_z qt qo (by rw [show ((2:Rat)+(1))=3 from by decide +kernel];exact qth) ((show Sz 1 (2) from ⟨by decide +kernel,by decide +kernel⟩).up (by omega)) ((show Sz 1 (1) from ⟨by decide +kernel,by decide +kernel⟩).up (by omega)) V (hE.next hb)
 have HC:∀ V,Below w.heap.size w V→Calls Tryz.prog 38 #[.agg #[.bool bth,.string mth,.bool false,.string ⟨#[]⟩,.bool false,.string ⟨#[2]⟩,.bool false,.string ⟨#[]⟩,.bool false],.agg #[.bool bth,.string mth,.bool false,.string ⟨#[]⟩]] V (RetB V (.int .i64 (1))):=fun V hb=>by have h:=crat_f (⟨qth,qt,by decide⟩:Rv (⟨3,2,1⟩:Sg.Rl) bth mth ⟨#[]⟩ false ⟨#[2]⟩ ⟨#[]⟩ false) (show ((⟨3,2,1⟩:Sg.Rl)).Ok from ⟨.inl rfl,.inr ⟨by decide +kernel,nsq_two⟩⟩) qth (show Rz 1500 (⟨3,2,1⟩:Sg.Rl) from ⟨(show Sz 1 _ from ⟨by decide +kernel,by decide +kernel⟩).up (by omega),(show Sz 1 _ from ⟨by decide +kernel,by decide +kernel⟩).up (by omega)⟩) ((show Sz 1 (3) from ⟨by decide +kernel,by decide +kernel⟩).up (by omega)) V (hE.next hb);rw [show Sg.cmpX (⟨3,2,1⟩:Sg.Rl) (Sg.Rl.of (3))=1 from by decide +kernel] at h;exact h
 exact simp_next w (by decide) HF HW HA HC

set_option maxHeartbeats 8000000 in
theorem simp2 {bmo:Bool} {mmo:ByteArray} {bmt:Bool} {mmt:ByteArray} {bth:Bool} {mth:ByteArray} {bei:Bool} {mei:ByteArray} {bst:Bool} {mst:ByteArray} {bh3:Bool} {mh3:ByteArray} {kh3:ByteArray} {bh1:Bool} {mh1:ByteArray} {kh1:ByteArray} {bot:Bool} {mot:ByteArray} {kot:ByteArray} {bs3:Bool} {ms3:ByteArray} {ks3:ByteArray} {bt7:Bool} {mt7:ByteArray} {kt7:ByteArray} {btn:Bool} {mtn:ByteArray} {ktn:ByteArray} (qmo:Rq (-1) bmo mmo ⟨#[]⟩) (qmt:Rq (-2) bmt mmt ⟨#[]⟩) (qth:Rq (3) bth mth ⟨#[]⟩) (qei:Rq (8) bei mei ⟨#[]⟩) (qst:Rq (72) bst mst ⟨#[]⟩) (qh3:Rq (3 / 2) bh3 mh3 kh3) (qh1:Rq (1 / 2) bh1 mh1 kh1) (qot:Rq (1 / 3) bot mot kot) (qs3:Rq (7 / 3) bs3 ms3 ks3) (qt7:Rq (3 / 7) bt7 mt7 kt7) (qtn:Rq (10 / 7) btn mtn ktn) (w:World) (hE:Env w) :
  Calls Tryz.prog 109 #[.agg #[.bool false,.string ⟨#[2]⟩,.bool false,.string ⟨#[]⟩,.bool false,.string ⟨#[]⟩,.bool false,.string ⟨#[]⟩,.bool false],.agg #[.bool false,.string ⟨#[1]⟩,.bool false,.string ⟨#[]⟩,.bool false,.string ⟨#[2]⟩,.bool false,.string ⟨#[]⟩,.bool false]] w (RetB w (.agg #[.bool bs3,.string ms3,.bool false,.string ks3])):=by
 have HF:∀ V,Below w.heap.size w V→Calls Tryz.prog 52 #[.agg #[.bool false,.string ⟨#[2]⟩,.bool false,.string ⟨#[]⟩,.bool false,.string ⟨#[]⟩,.bool false,.string ⟨#[]⟩,.bool false]] V (RetB V (.agg #[.bool false,.string ⟨#[2]⟩])):=fun V hb=>rfloor_f (⟨qt,Rq.zero,by decide⟩:Rv (⟨2,0,1⟩:Sg.Rl) false ⟨#[2]⟩ ⟨#[]⟩ false ⟨#[]⟩ ⟨#[]⟩ false) (show ((⟨2,0,1⟩:Sg.Rl)).Ok from ⟨.inl rfl,.inl ⟨rfl,rfl⟩⟩) (by rw [show floorV (⟨2,0,1⟩:Sg.Rl)=2 from by unfold floorV fN;simp [rt_two,rt_four]<;>decide +kernel];exact qt.num) (show Rz 2000 (⟨2,0,1⟩:Sg.Rl) from ⟨(show Sz 1 _ from ⟨by decide +kernel,by decide +kernel⟩).up (by omega),(show Sz 1 _ from ⟨by decide +kernel,by decide +kernel⟩).up (by omega)⟩) V (hE.next hb)
 have HW:∀ V,Below w.heap.size w V→Calls Tryz.prog 73 #[.int .i64 (1)] V (RetB V (.agg #[.bool false,.string ⟨#[1]⟩,.bool false,.string ⟨#[]⟩])):=fun V hb=>rFromInt_f (x:=1) qo.num (by omega) (by omega) V
 have HA:∀ V,Below w.heap.size w V→Calls Tryz.prog 89 #[.agg #[.bool false,.string ⟨#[2]⟩,.bool false,.string ⟨#[]⟩],.agg #[.bool false,.string ⟨#[1]⟩,.bool false,.string ⟨#[]⟩]] V (RetB V (.agg #[.bool bth,.string mth,.bool false,.string ⟨#[]⟩])):=fun V hb=>add_z qt qo (by rw [show ((2:Rat)+(1))=3 from by decide +kernel];exact qth) ((show Sz 1 (2) from ⟨by decide +kernel,by decide +kernel⟩).up (by omega)) ((show Sz 1 (1) from ⟨by decide +kernel,by decide +kernel⟩).up (by omega)) V (hE.next hb)
 have HC:∀ V,Below w.heap.size w V→Calls Tryz.prog 38 #[.agg #[.bool false,.string ⟨#[1]⟩,.bool false,.string ⟨#[]⟩,.bool false,.string ⟨#[2]⟩,.bool false,.string ⟨#[]⟩,.bool false],.agg #[.bool bth,.string mth,.bool false,.string ⟨#[]⟩]] V (RetB V (.int .i64 (-1))):=fun V hb=>by have h:=crat_f (⟨qo,qt,by decide⟩:Rv (⟨1,2,1⟩:Sg.Rl) false ⟨#[1]⟩ ⟨#[]⟩ false ⟨#[2]⟩ ⟨#[]⟩ false) (show ((⟨1,2,1⟩:Sg.Rl)).Ok from ⟨.inl rfl,.inr ⟨by decide +kernel,nsq_two⟩⟩) qth (show Rz 1500 (⟨1,2,1⟩:Sg.Rl) from ⟨(show Sz 1 _ from ⟨by decide +kernel,by decide +kernel⟩).up (by omega),(show Sz 1 _ from ⟨by decide +kernel,by decide +kernel⟩).up (by omega)⟩) ((show Sz 1 (3) from ⟨by decide +kernel,by decide +kernel⟩).up (by omega)) V (hE.next hb);rw [show Sg.cmpX (⟨1,2,1⟩:Sg.Rl) (Sg.Rl.of (3))=-1 from by decide +kernel] at h;exact h
 have HN:∀ V,Below w.heap.size w V→Calls Tryz.prog 80 #[.agg #[.bool false,.string ⟨#[2]⟩,.bool false,.string ⟨#[]⟩]] V (RetB V (.agg #[.bool bmt,.string mmt,.bool false,.string ⟨#[]⟩])):=fun V hb=>ratNeg_f qt (by rw [show (-(2):Rat)=-2 from by decide +kernel];exact qmt) V
 have HS1:∀ V,Below w.heap.size w V→Calls Tryz.prog 44 #[.agg #[.bool false,.string ⟨#[2]⟩,.bool false,.string ⟨#[]⟩,.bool false,.string ⟨#[]⟩,.bool false,.string ⟨#[]⟩,.bool false],.agg #[.bool bmt,.string mmt,.bool false,.string ⟨#[]⟩]] V (RetB V (.agg #[.bool false,.string ⟨#[]⟩,.bool false,.string ⟨#[]⟩,.bool false,.string ⟨#[]⟩,.bool false,.string ⟨#[]⟩,.bool false])):=fun V hb=>rshift_f (⟨qt,Rq.zero,by decide⟩:Rv (⟨2,0,1⟩:Sg.Rl) false ⟨#[2]⟩ ⟨#[]⟩ false ⟨#[]⟩ ⟨#[]⟩ false) qmt (by rw [show (((⟨2,0,1⟩:Sg.Rl)).p+(-2):Rat)=0 from by decide +kernel];exact qz) (show Rz 5000 (⟨2,0,1⟩:Sg.Rl) from ⟨(show Sz 1 _ from ⟨by decide +kernel,by decide +kernel⟩).up (by omega),(show Sz 1 _ from ⟨by decide +kernel,by decide +kernel⟩).up (by omega)⟩) ((show Sz 1 (-2) from ⟨by decide +kernel,by decide +kernel⟩).up (by omega)) V (hE.next hb)
 have HS2:∀ V,Below w.heap.size w V→Calls Tryz.prog 44 #[.agg #[.bool false,.string ⟨#[1]⟩,.bool false,.string ⟨#[]⟩,.bool false,.string ⟨#[2]⟩,.bool false,.string ⟨#[]⟩,.bool false],.agg #[.bool bmt,.string mmt,.bool false,.string ⟨#[]⟩]] V (RetB V (.agg #[.bool bmo,.string mmo,.bool false,.string ⟨#[]⟩,.bool false,.string ⟨#[2]⟩,.bool false,.string ⟨#[]⟩,.bool false])):=fun V hb=>rshift_f (⟨qo,qt,by decide⟩:Rv (⟨1,2,1⟩:Sg.Rl) false ⟨#[1]⟩ ⟨#[]⟩ false ⟨#[2]⟩ ⟨#[]⟩ false) qmt (by rw [show (((⟨1,2,1⟩:Sg.Rl)).p+(-2):Rat)=-1 from by decide +kernel];exact qmo) (show Rz 5000 (⟨1,2,1⟩:Sg.Rl) from ⟨(show Sz 1 _ from ⟨by decide +kernel,by decide +kernel⟩).up (by omega),(show Sz 1 _ from ⟨by decide +kernel,by decide +kernel⟩).up (by omega)⟩) ((show Sz 1 (-2) from ⟨by decide +kernel,by decide +kernel⟩).up (by omega)) V (hE.next hb)
 have HI1:∀ V,Below w.heap.size w V→Calls Tryz.prog 50 #[.agg #[.bool bmo,.string mmo,.bool false,.string ⟨#[]⟩,.bool false,.string ⟨#[2]⟩,.bool false,.string ⟨#[]⟩,.bool false]] V (RetB V (.tuple #[.agg #[.bool false,.string ⟨#[1]⟩,.bool false,.string ⟨#[]⟩,.bool false,.string ⟨#[2]⟩,.bool false,.string ⟨#[]⟩,.bool false],.int .i64 0])):=fun V hb=>rinv_irr (m:=-1) (⟨qmo,qt,by decide⟩:Rv (⟨-1,2,1⟩:Sg.Rl) bmo mmo ⟨#[]⟩ false ⟨#[2]⟩ ⟨#[]⟩ false) (by decide +kernel) (by decide +kernel) (by decide +kernel) (by rw [show (((⟨-1,2,1⟩:Sg.Rl)).p*(-1):Rat)=1 from by decide +kernel];exact qo) (by rw [show (((⟨-1,2,1⟩:Sg.Rl)).a*((-1)*(-1)):Rat)=2 from by decide +kernel];exact qt) (show Rz 600 (⟨-1,2,1⟩:Sg.Rl) from ⟨(show Sz 1 _ from ⟨by decide +kernel,by decide +kernel⟩).up (by omega),(show Sz 1 _ from ⟨by decide +kernel,by decide +kernel⟩).up (by omega)⟩) V (hE.next hb)
 have HI2:∀ V,Below w.heap.size w V→Calls Tryz.prog 50 #[.agg #[.bool false,.string ⟨#[]⟩,.bool false,.string ⟨#[]⟩,.bool false,.string ⟨#[]⟩,.bool false,.string ⟨#[]⟩,.bool false]] V (RetB V (.tuple #[.agg #[.bool false,.string ⟨#[]⟩,.bool false,.string ⟨#[]⟩,.bool false,.string ⟨#[]⟩,.bool false,.string ⟨#[]⟩,.bool false],.int .i64 6])):=fun V hb=>rinv_0 V
 have HW2:∀ V,Below w.heap.size w V→Calls Tryz.prog 73 #[.int .i64 (2)] V (RetB V (.agg #[.bool false,.string ⟨#[2]⟩,.bool false,.string ⟨#[]⟩])):=fun V hb=>rFromInt_f (x:=2) qt.num (by omega) (by omega) V
 have HS3:∀ V,Below w.heap.size w V→Calls Tryz.prog 44 #[.agg #[.bool false,.string ⟨#[1]⟩,.bool false,.string ⟨#[]⟩,.bool false,.string ⟨#[2]⟩,.bool false,.string ⟨#[]⟩,.bool false],.agg #[.bool false,.string ⟨#[2]⟩,.bool false,.string ⟨#[]⟩]] V (RetB V (.agg #[.bool bth,.string mth,.bool false,.string ⟨#[]⟩,.bool false,.string ⟨#[2]⟩,.bool false,.string ⟨#[]⟩,.bool false])):=fun V hb=>rshift_f (⟨qo,qt,by decide⟩:Rv (⟨1,2,1⟩:Sg.Rl) false ⟨#[1]⟩ ⟨#[]⟩ false ⟨#[2]⟩ ⟨#[]⟩ false) qt (by rw [show (((⟨1,2,1⟩:Sg.Rl)).p+(2):Rat)=3 from by decide +kernel];exact qth) (show Rz 5000 (⟨1,2,1⟩:Sg.Rl) from ⟨(show Sz 1 _ from ⟨by decide +kernel,by decide +kernel⟩).up (by omega),(show Sz 1 _ from ⟨by decide +kernel,by decide +kernel⟩).up (by omega)⟩) ((show Sz 1 (2) from ⟨by decide +kernel,by decide +kernel⟩).up (by omega)) V (hE.next hb)
 have HR:∀ V,Below w.heap.size w V→Calls Tryz.prog 109 #[.agg #[.bool false,.string ⟨#[1]⟩,.bool false,.string ⟨#[]⟩,.bool false,.string ⟨#[2]⟩,.bool false,.string ⟨#[]⟩,.bool false],.agg #[.bool bth,.string mth,.bool false,.string ⟨#[]⟩,.bool false,.string ⟨#[2]⟩,.bool false,.string ⟨#[]⟩,.bool false]] V (RetB V (.agg #[.bool bth,.string mth,.bool false,.string ⟨#[]⟩])):=fun V hb=>simp3 qmo qmt qth qei qst qh3 qh1 qot qs3 qt7 qtn V (hE.next hb)
 have HD:∀ V,Below w.heap.size w V→Calls Tryz.prog 79 #[.agg #[.bool false,.string ⟨#[1]⟩,.bool false,.string ⟨#[]⟩],.agg #[.bool bth,.string mth,.bool false,.string ⟨#[]⟩]] V (RetB V (.agg #[.bool bot,.string mot,.bool false,.string kot])):=fun V hb=>ratio_f qo qth (by rw [show ((1) / (3):Rat)=1 / 3 from by decide +kernel];exact qot) (by decide +kernel) ((show Sz 1 (1) from ⟨by decide +kernel,by decide +kernel⟩).up (by omega)) ((show Sz 1 (3) from ⟨by decide +kernel,by decide +kernel⟩).up (by omega)) V (hE.next hb)
 have HZ:∀ V,Below w.heap.size w V→Calls Tryz.prog 89 #[.agg #[.bool false,.string ⟨#[2]⟩,.bool false,.string ⟨#[]⟩],.agg #[.bool bot,.string mot,.bool false,.string kot]] V (RetB V (.agg #[.bool bs3,.string ms3,.bool false,.string ks3])):=fun V hb=>add_z qt qot (by rw [show ((2:Rat)+(1 / 3))=7 / 3 from by decide +kernel];exact qs3) ((show Sz 1 (2) from ⟨by decide +kernel,by decide +kernel⟩).up (by omega)) ((show Sz 1 (1 / 3) from ⟨by decide +kernel,by decide +kernel⟩).up (by omega)) V (hE.next hb)
 exact simp_open w (by decide) HF HW HA HC HN HS1 HS2 HI1 HI2 HW2 HS3 HR HD HZ

set_option maxHeartbeats 8000000 in
theorem simp1 {bmo:Bool} {mmo:ByteArray} {bmt:Bool} {mmt:ByteArray} {bth:Bool} {mth:ByteArray} {bei:Bool} {mei:ByteArray} {bst:Bool} {mst:ByteArray} {bh3:Bool} {mh3:ByteArray} {kh3:ByteArray} {bh1:Bool} {mh1:ByteArray} {kh1:ByteArray} {bot:Bool} {mot:ByteArray} {kot:ByteArray} {bs3:Bool} {ms3:ByteArray} {ks3:ByteArray} {bt7:Bool} {mt7:ByteArray} {kt7:ByteArray} {btn:Bool} {mtn:ByteArray} {ktn:ByteArray} (qmo:Rq (-1) bmo mmo ⟨#[]⟩) (qmt:Rq (-2) bmt mmt ⟨#[]⟩) (qth:Rq (3) bth mth ⟨#[]⟩) (qei:Rq (8) bei mei ⟨#[]⟩) (qst:Rq (72) bst mst ⟨#[]⟩) (qh3:Rq (3 / 2) bh3 mh3 kh3) (qh1:Rq (1 / 2) bh1 mh1 kh1) (qot:Rq (1 / 3) bot mot kot) (qs3:Rq (7 / 3) bs3 ms3 ks3) (qt7:Rq (3 / 7) bt7 mt7 kt7) (qtn:Rq (10 / 7) btn mtn ktn) (w:World) (hE:Env w) :
  Calls Tryz.prog 109 #[.agg #[.bool false,.string ⟨#[]⟩,.bool false,.string ⟨#[]⟩,.bool false,.string ⟨#[2]⟩,.bool false,.string ⟨#[]⟩,.bool false],.agg #[.bool bh3,.string mh3,.bool false,.string kh3,.bool false,.string ⟨#[]⟩,.bool false,.string ⟨#[]⟩,.bool false]] w (RetB w (.agg #[.bool btn,.string mtn,.bool false,.string ktn])):=by
 have HF:∀ V,Below w.heap.size w V→Calls Tryz.prog 52 #[.agg #[.bool false,.string ⟨#[]⟩,.bool false,.string ⟨#[]⟩,.bool false,.string ⟨#[2]⟩,.bool false,.string ⟨#[]⟩,.bool false]] V (RetB V (.agg #[.bool false,.string ⟨#[1]⟩])):=fun V hb=>rfloor_f (⟨qz,qt,by decide⟩:Rv (⟨0,2,1⟩:Sg.Rl) false ⟨#[]⟩ ⟨#[]⟩ false ⟨#[2]⟩ ⟨#[]⟩ false) (show ((⟨0,2,1⟩:Sg.Rl)).Ok from ⟨.inl rfl,.inr ⟨by decide +kernel,nsq_two⟩⟩) (by rw [show floorV (⟨0,2,1⟩:Sg.Rl)=1 from by unfold floorV fN;simp [rt_two,rt_four]<;>decide +kernel];exact qo.num) (show Rz 2000 (⟨0,2,1⟩:Sg.Rl) from ⟨(show Sz 1 _ from ⟨by decide +kernel,by decide +kernel⟩).up (by omega),(show Sz 1 _ from ⟨by decide +kernel,by decide +kernel⟩).up (by omega)⟩) V (hE.next hb)
 have HW:∀ V,Below w.heap.size w V→Calls Tryz.prog 73 #[.int .i64 (1)] V (RetB V (.agg #[.bool false,.string ⟨#[1]⟩,.bool false,.string ⟨#[]⟩])):=fun V hb=>rFromInt_f (x:=1) qo.num (by omega) (by omega) V
 have HA:∀ V,Below w.heap.size w V→Calls Tryz.prog 89 #[.agg #[.bool false,.string ⟨#[1]⟩,.bool false,.string ⟨#[]⟩],.agg #[.bool false,.string ⟨#[1]⟩,.bool false,.string ⟨#[]⟩]] V (RetB V (.agg #[.bool false,.string ⟨#[2]⟩,.bool false,.string ⟨#[]⟩])):=fun V hb=>add_z qo qo (by rw [show ((1:Rat)+(1))=2 from by decide +kernel];exact qt) ((show Sz 1 (1) from ⟨by decide +kernel,by decide +kernel⟩).up (by omega)) ((show Sz 1 (1) from ⟨by decide +kernel,by decide +kernel⟩).up (by omega)) V (hE.next hb)
 have HC:∀ V,Below w.heap.size w V→Calls Tryz.prog 38 #[.agg #[.bool bh3,.string mh3,.bool false,.string kh3,.bool false,.string ⟨#[]⟩,.bool false,.string ⟨#[]⟩,.bool false],.agg #[.bool false,.string ⟨#[2]⟩,.bool false,.string ⟨#[]⟩]] V (RetB V (.int .i64 (-1))):=fun V hb=>by have h:=crat_f (⟨qh3,Rq.zero,by decide⟩:Rv (⟨3 / 2,0,1⟩:Sg.Rl) bh3 mh3 kh3 false ⟨#[]⟩ ⟨#[]⟩ false) (show ((⟨3 / 2,0,1⟩:Sg.Rl)).Ok from ⟨.inl rfl,.inl ⟨rfl,rfl⟩⟩) qt (show Rz 1500 (⟨3 / 2,0,1⟩:Sg.Rl) from ⟨(show Sz 1 _ from ⟨by decide +kernel,by decide +kernel⟩).up (by omega),(show Sz 1 _ from ⟨by decide +kernel,by decide +kernel⟩).up (by omega)⟩) ((show Sz 1 (2) from ⟨by decide +kernel,by decide +kernel⟩).up (by omega)) V (hE.next hb);rw [show Sg.cmpX (⟨3 / 2,0,1⟩:Sg.Rl) (Sg.Rl.of (2))=-1 from by decide +kernel] at h;exact h
 have HN:∀ V,Below w.heap.size w V→Calls Tryz.prog 80 #[.agg #[.bool false,.string ⟨#[1]⟩,.bool false,.string ⟨#[]⟩]] V (RetB V (.agg #[.bool bmo,.string mmo,.bool false,.string ⟨#[]⟩])):=fun V hb=>ratNeg_f qo (by rw [show (-(1):Rat)=-1 from by decide +kernel];exact qmo) V
 have HS1:∀ V,Below w.heap.size w V→Calls Tryz.prog 44 #[.agg #[.bool false,.string ⟨#[]⟩,.bool false,.string ⟨#[]⟩,.bool false,.string ⟨#[2]⟩,.bool false,.string ⟨#[]⟩,.bool false],.agg #[.bool bmo,.string mmo,.bool false,.string ⟨#[]⟩]] V (RetB V (.agg #[.bool bmo,.string mmo,.bool false,.string ⟨#[]⟩,.bool false,.string ⟨#[2]⟩,.bool false,.string ⟨#[]⟩,.bool false])):=fun V hb=>rshift_f (⟨qz,qt,by decide⟩:Rv (⟨0,2,1⟩:Sg.Rl) false ⟨#[]⟩ ⟨#[]⟩ false ⟨#[2]⟩ ⟨#[]⟩ false) qmo (by rw [show (((⟨0,2,1⟩:Sg.Rl)).p+(-1):Rat)=-1 from by decide +kernel];exact qmo) (show Rz 5000 (⟨0,2,1⟩:Sg.Rl) from ⟨(show Sz 1 _ from ⟨by decide +kernel,by decide +kernel⟩).up (by omega),(show Sz 1 _ from ⟨by decide +kernel,by decide +kernel⟩).up (by omega)⟩) ((show Sz 1 (-1) from ⟨by decide +kernel,by decide +kernel⟩).up (by omega)) V (hE.next hb)
 have HS2:∀ V,Below w.heap.size w V→Calls Tryz.prog 44 #[.agg #[.bool bh3,.string mh3,.bool false,.string kh3,.bool false,.string ⟨#[]⟩,.bool false,.string ⟨#[]⟩,.bool false],.agg #[.bool bmo,.string mmo,.bool false,.string ⟨#[]⟩]] V (RetB V (.agg #[.bool bh1,.string mh1,.bool false,.string kh1,.bool false,.string ⟨#[]⟩,.bool false,.string ⟨#[]⟩,.bool false])):=fun V hb=>rshift_f (⟨qh3,Rq.zero,by decide⟩:Rv (⟨3 / 2,0,1⟩:Sg.Rl) bh3 mh3 kh3 false ⟨#[]⟩ ⟨#[]⟩ false) qmo (by rw [show (((⟨3 / 2,0,1⟩:Sg.Rl)).p+(-1):Rat)=1 / 2 from by decide +kernel];exact qh1) (show Rz 5000 (⟨3 / 2,0,1⟩:Sg.Rl) from ⟨(show Sz 1 _ from ⟨by decide +kernel,by decide +kernel⟩).up (by omega),(show Sz 1 _ from ⟨by decide +kernel,by decide +kernel⟩).up (by omega)⟩) ((show Sz 1 (-1) from ⟨by decide +kernel,by decide +kernel⟩).up (by omega)) V (hE.next hb)
 have HI1:∀ V,Below w.heap.size w V→Calls Tryz.prog 50 #[.agg #[.bool bh1,.string mh1,.bool false,.string kh1,.bool false,.string ⟨#[]⟩,.bool false,.string ⟨#[]⟩,.bool false]] V (RetB V (.tuple #[.agg #[.bool false,.string ⟨#[2]⟩,.bool false,.string ⟨#[]⟩,.bool false,.string ⟨#[]⟩,.bool false,.string ⟨#[]⟩,.bool false],.int .i64 0])):=fun V hb=>rinv_rat qh1 (by decide +kernel) (by rw [show (1 / (1 / 2):Rat)=2 from by decide +kernel];exact qt) ((show Sz 1 (1 / 2) from ⟨by decide +kernel,by decide +kernel⟩).up (by omega)) V (hE.next hb)
 have HI2:∀ V,Below w.heap.size w V→Calls Tryz.prog 50 #[.agg #[.bool bmo,.string mmo,.bool false,.string ⟨#[]⟩,.bool false,.string ⟨#[2]⟩,.bool false,.string ⟨#[]⟩,.bool false]] V (RetB V (.tuple #[.agg #[.bool false,.string ⟨#[1]⟩,.bool false,.string ⟨#[]⟩,.bool false,.string ⟨#[2]⟩,.bool false,.string ⟨#[]⟩,.bool false],.int .i64 0])):=fun V hb=>rinv_irr (m:=-1) (⟨qmo,qt,by decide⟩:Rv (⟨-1,2,1⟩:Sg.Rl) bmo mmo ⟨#[]⟩ false ⟨#[2]⟩ ⟨#[]⟩ false) (by decide +kernel) (by decide +kernel) (by decide +kernel) (by rw [show (((⟨-1,2,1⟩:Sg.Rl)).p*(-1):Rat)=1 from by decide +kernel];exact qo) (by rw [show (((⟨-1,2,1⟩:Sg.Rl)).a*((-1)*(-1)):Rat)=2 from by decide +kernel];exact qt) (show Rz 600 (⟨-1,2,1⟩:Sg.Rl) from ⟨(show Sz 1 _ from ⟨by decide +kernel,by decide +kernel⟩).up (by omega),(show Sz 1 _ from ⟨by decide +kernel,by decide +kernel⟩).up (by omega)⟩) V (hE.next hb)
 have HR:∀ V,Below w.heap.size w V→Calls Tryz.prog 109 #[.agg #[.bool false,.string ⟨#[2]⟩,.bool false,.string ⟨#[]⟩,.bool false,.string ⟨#[]⟩,.bool false,.string ⟨#[]⟩,.bool false],.agg #[.bool false,.string ⟨#[1]⟩,.bool false,.string ⟨#[]⟩,.bool false,.string ⟨#[2]⟩,.bool false,.string ⟨#[]⟩,.bool false]] V (RetB V (.agg #[.bool bs3,.string ms3,.bool false,.string ks3])):=fun V hb=>simp2 qmo qmt qth qei qst qh3 qh1 qot qs3 qt7 qtn V (hE.next hb)
 have HD:∀ V,Below w.heap.size w V→Calls Tryz.prog 79 #[.agg #[.bool false,.string ⟨#[1]⟩,.bool false,.string ⟨#[]⟩],.agg #[.bool bs3,.string ms3,.bool false,.string ks3]] V (RetB V (.agg #[.bool bt7,.string mt7,.bool false,.string kt7])):=fun V hb=>ratio_f qo qs3 (by rw [show ((1) / (7 / 3):Rat)=3 / 7 from by decide +kernel];exact qt7) (by decide +kernel) ((show Sz 1 (1) from ⟨by decide +kernel,by decide +kernel⟩).up (by omega)) ((show Sz 1 (7 / 3) from ⟨by decide +kernel,by decide +kernel⟩).up (by omega)) V (hE.next hb)
 have HZ:∀ V,Below w.heap.size w V→Calls Tryz.prog 89 #[.agg #[.bool false,.string ⟨#[1]⟩,.bool false,.string ⟨#[]⟩],.agg #[.bool bt7,.string mt7,.bool false,.string kt7]] V (RetB V (.agg #[.bool btn,.string mtn,.bool false,.string ktn])):=fun V hb=>add_z qo qt7 (by rw [show ((1:Rat)+(3 / 7))=10 / 7 from by decide +kernel];exact qtn) ((show Sz 1 (1) from ⟨by decide +kernel,by decide +kernel⟩).up (by omega)) ((show Sz 1 (3 / 7) from ⟨by decide +kernel,by decide +kernel⟩).up (by omega)) V (hE.next hb)
 exact simp_rec w (by decide) HF HW HA HC HN HS1 HS2 HI1 HI2 HR HD HZ

set_option maxHeartbeats 8000000 in
theorem known_between {bmo:Bool} {mmo:ByteArray} {bmt:Bool} {mmt:ByteArray} {bth:Bool} {mth:ByteArray} {bei:Bool} {mei:ByteArray} {bst:Bool} {mst:ByteArray} {bh3:Bool} {mh3:ByteArray} {kh3:ByteArray} {bh1:Bool} {mh1:ByteArray} {kh1:ByteArray} {bot:Bool} {mot:ByteArray} {kot:ByteArray} {bs3:Bool} {ms3:ByteArray} {ks3:ByteArray} {bt7:Bool} {mt7:ByteArray} {kt7:ByteArray} {btn:Bool} {mtn:ByteArray} {ktn:ByteArray} (qmo:Rq (-1) bmo mmo ⟨#[]⟩) (qmt:Rq (-2) bmt mmt ⟨#[]⟩) (qth:Rq (3) bth mth ⟨#[]⟩) (qei:Rq (8) bei mei ⟨#[]⟩) (qst:Rq (72) bst mst ⟨#[]⟩) (qh3:Rq (3 / 2) bh3 mh3 kh3) (qh1:Rq (1 / 2) bh1 mh1 kh1) (qot:Rq (1 / 3) bot mot kot) (qs3:Rq (7 / 3) bs3 ms3 ks3) (qt7:Rq (3 / 7) bt7 mt7 kt7) (qtn:Rq (10 / 7) btn mtn ktn) (w:World) (hE:Env w) :
  Calls Tryz.prog 56 #[.agg #[.bool false,.string ⟨#[]⟩,.bool false,.string ⟨#[]⟩,.bool false,.string ⟨#[2]⟩,.bool false,.string ⟨#[]⟩,.bool false],.agg #[.bool bh3,.string mh3,.bool false,.string kh3,.bool false,.string ⟨#[]⟩,.bool false,.string ⟨#[]⟩,.bool false]] w (RetB w (.tuple #[.agg #[.bool btn,.string mtn,.bool false,.string ktn],.int .i64 0])):=by
 have HC1:∀ V,Below w.heap.size w V→Calls Tryz.prog 18 #[.agg #[.bool false,.string ⟨#[]⟩,.bool false,.string ⟨#[]⟩,.bool false,.string ⟨#[2]⟩,.bool false,.string ⟨#[]⟩,.bool false]] V (RetB V (.int .i64 (0))):=fun V hb=>rchk_ok (⟨qz,qt,by decide⟩:Rv (⟨0,2,1⟩:Sg.Rl) false ⟨#[]⟩ ⟨#[]⟩ false ⟨#[2]⟩ ⟨#[]⟩ false) (show ((⟨0,2,1⟩:Sg.Rl)).Ok from ⟨.inl rfl,.inr ⟨by decide +kernel,nsq_two⟩⟩) (show Rz 9000 (⟨0,2,1⟩:Sg.Rl) from ⟨(show Sz 1 _ from ⟨by decide +kernel,by decide +kernel⟩).up (by omega),(show Sz 1 _ from ⟨by decide +kernel,by decide +kernel⟩).up (by omega)⟩) V (hE.next hb)
 have HC2:∀ V,Below w.heap.size w V→Calls Tryz.prog 18 #[.agg #[.bool bh3,.string mh3,.bool false,.string kh3,.bool false,.string ⟨#[]⟩,.bool false,.string ⟨#[]⟩,.bool false]] V (RetB V (.int .i64 (0))):=fun V hb=>rchk_ok (⟨qh3,Rq.zero,by decide⟩:Rv (⟨3 / 2,0,1⟩:Sg.Rl) bh3 mh3 kh3 false ⟨#[]⟩ ⟨#[]⟩ false) (show ((⟨3 / 2,0,1⟩:Sg.Rl)).Ok from ⟨.inl rfl,.inl ⟨rfl,rfl⟩⟩) (show Rz 9000 (⟨3 / 2,0,1⟩:Sg.Rl) from ⟨(show Sz 1 _ from ⟨by decide +kernel,by decide +kernel⟩).up (by omega),(show Sz 1 _ from ⟨by decide +kernel,by decide +kernel⟩).up (by omega)⟩) V (hE.next hb)
 have HC:∀ V,Below w.heap.size w V→Calls Tryz.prog 34 #[.agg #[.bool false,.string ⟨#[]⟩,.bool false,.string ⟨#[]⟩,.bool false,.string ⟨#[2]⟩,.bool false,.string ⟨#[]⟩,.bool false],.agg #[.bool bh3,.string mh3,.bool false,.string kh3,.bool false,.string ⟨#[]⟩,.bool false,.string ⟨#[]⟩,.bool false]] V (RetB V (.int .i64 (-1))):=fun V hb=>by have h:=cmp_yrat (⟨qz,qt,by decide⟩:Rv (⟨0,2,1⟩:Sg.Rl) false ⟨#[]⟩ ⟨#[]⟩ false ⟨#[2]⟩ ⟨#[]⟩ false) (⟨qh3,Rq.zero,by decide⟩:Rv (⟨3 / 2,0,1⟩:Sg.Rl) bh3 mh3 kh3 false ⟨#[]⟩ ⟨#[]⟩ false) (show ((⟨0,2,1⟩:Sg.Rl)).Ok from ⟨.inl rfl,.inr ⟨by decide +kernel,nsq_two⟩⟩) (by decide +kernel) (show Rz 1500 (⟨0,2,1⟩:Sg.Rl) from ⟨(show Sz 1 _ from ⟨by decide +kernel,by decide +kernel⟩).up (by omega),(show Sz 1 _ from ⟨by decide +kernel,by decide +kernel⟩).up (by omega)⟩) (show Rz 1500 (⟨3 / 2,0,1⟩:Sg.Rl) from ⟨(show Sz 1 _ from ⟨by decide +kernel,by decide +kernel⟩).up (by omega),(show Sz 1 _ from ⟨by decide +kernel,by decide +kernel⟩).up (by omega)⟩) V (hE.next hb);rw [show Sg.cmpX (⟨0,2,1⟩:Sg.Rl) (Sg.Rl.of ((⟨3 / 2,0,1⟩:Sg.Rl)).p)=-1 from by decide +kernel] at h;exact h
 have HI:∀ V,Below w.heap.size w V→Calls Tryz.prog 70 #[.agg #[.bool false,.string ⟨#[]⟩,.bool false,.string ⟨#[]⟩,.bool false,.string ⟨#[2]⟩,.bool false,.string ⟨#[]⟩,.bool false]] V (RetB V (.bool false)):=fun V hb=>isRat_no (⟨qz,qt,by decide⟩:Rv (⟨0,2,1⟩:Sg.Rl) false ⟨#[]⟩ ⟨#[]⟩ false ⟨#[2]⟩ ⟨#[]⟩ false) (by decide +kernel) V
 have HS:∀ V,Below w.heap.size w V→Calls Tryz.prog 39 #[.agg #[.bool false,.string ⟨#[]⟩,.bool false,.string ⟨#[]⟩,.bool false,.string ⟨#[2]⟩,.bool false,.string ⟨#[]⟩,.bool false]] V (RetB V (.int .i64 1)):=fun V hb=>by have h:=rsgn_f (⟨qz,qt,by decide⟩:Rv (⟨0,2,1⟩:Sg.Rl) false ⟨#[]⟩ ⟨#[]⟩ false ⟨#[2]⟩ ⟨#[]⟩ false) (show ((⟨0,2,1⟩:Sg.Rl)).Ok from ⟨.inl rfl,.inr ⟨by decide +kernel,nsq_two⟩⟩) (show Rz 1500 (⟨0,2,1⟩:Sg.Rl) from ⟨(show Sz 1 _ from ⟨by decide +kernel,by decide +kernel⟩).up (by omega),(show Sz 1 _ from ⟨by decide +kernel,by decide +kernel⟩).up (by omega)⟩) V (hE.next hb);rw [show Sg.cmpX (⟨0,2,1⟩:Sg.Rl) (Sg.Rl.of 0)=1 from by decide +kernel] at h;exact h
 have HR:∀ V,Below w.heap.size w V→Calls Tryz.prog 109 #[.agg #[.bool false,.string ⟨#[]⟩,.bool false,.string ⟨#[]⟩,.bool false,.string ⟨#[2]⟩,.bool false,.string ⟨#[]⟩,.bool false],.agg #[.bool bh3,.string mh3,.bool false,.string kh3,.bool false,.string ⟨#[]⟩,.bool false,.string ⟨#[]⟩,.bool false]] V (RetB V (.agg #[.bool btn,.string mtn,.bool false,.string ktn])):=fun V hb=>simp1 qmo qmt qth qei qst qh3 qh1 qot qs3 qt7 qtn V (hE.next hb)
 exact btw_pos w (by decide) (by decide) HC1 HC2 HC HI HS HR
end Go.Proofs.YtpnokfgplnmjpaaGreatDoor


namespace Go.Proofs.YtpnokfgplnmjpaaGreatDoor
open Go.RowKit
attribute [local go_sem ↓] Go.wp_at_zero Go.wp_at_succ

theorem mk_irr {p q r a:Rat} {s:Int} (h:¬Sg.Sq r) (hq:q≠0) (ha:q*q*r=a) (hs:(if q<0 then -1 else 1)=s):Sg.mkR p q r=⟨p,a,s⟩:=by
 unfold Sg.mkR
 rw [if_neg h,if_neg hq,ha,hs]
theorem sum_irr {p r:Rat} {s:Int} (h:¬Sg.Sq r):Sg.sumP p s r=⟨p,r,if s<0 then -1 else 1⟩:=by
 unfold Sg.sumP
 rw [if_neg h]

set_option maxHeartbeats 8000000 in
set_option maxRecDepth 100000 in
theorem root_w {p q r:Int} {b1 b2 b3:Bool} {m1 m2 m3:ByteArray} {b4 c4 s4:Bool} {m4 k4 n4 l4:ByteArray} (h1:enc p=.agg #[.bool b1,.string m1]) (u1:-9223372036854775808≤p) (v1:p≤9223372036854775807) (h2:enc q=.agg #[.bool b2,.string m2]) (u2:-9223372036854775808≤q) (v2:q≤9223372036854775807) (h3:enc r=.agg #[.bool b3,.string m3]) (u3:-9223372036854775808≤r) (v3:r≤9223372036854775807) (HM:∀ V,Calls Tryz.prog 29 #[.agg #[.bool b1,.string m1,.bool false,.string ⟨#[]⟩],.agg #[.bool b2,.string m2,.bool false,.string ⟨#[]⟩],.agg #[.bool b3,.string m3,.bool false,.string ⟨#[]⟩]] V (RetB V (.agg #[.bool b4,.string m4,.bool false,.string k4,.bool c4,.string n4,.bool false,.string l4,.bool s4]))) (w:World) :
  Calls Tryz.prog 67 #[.int .i64 p,.int .i64 q,.int .i64 r] w (RetB w (.agg #[.bool b4,.string m4,.bool false,.string k4,.bool c4,.string n4,.bool false,.string l4,.bool s4])):=by
 have C4:=Lib.hid (fun V (_:Below w.heap.size w V)=>HM V)
 have C1:=kn w (whole_f h1 u1 v1)
 have C2:=kn w (whole_f h2 u2 v2)
 have C3:=kn w (whole_f h3 u3 v3)
 have RS:=Lib.hid Tryz.results67
 clear HM h1 u1 v1 h2 u2 v2 h3 u3 v3
 go_enter Tryz.func67,Tryz.ntmps67
 exact wk0

set_option maxHeartbeats 8000000 in
set_option maxRecDepth 100000 in
theorem known_w {bmo:Bool} {mmo:ByteArray} {bmt:Bool} {mmt:ByteArray} {bth:Bool} {mth:ByteArray} {bei:Bool} {mei:ByteArray} {bst:Bool} {mst:ByteArray} {bh3:Bool} {mh3:ByteArray} {kh3:ByteArray} {bh1:Bool} {mh1:ByteArray} {kh1:ByteArray} {bot:Bool} {mot:ByteArray} {kot:ByteArray} {bs3:Bool} {ms3:ByteArray} {ks3:ByteArray} {bt7:Bool} {mt7:ByteArray} {kt7:ByteArray} {btn:Bool} {mtn:ByteArray} {ktn:ByteArray} (qmo:Rq (-1) bmo mmo ⟨#[]⟩) (qmt:Rq (-2) bmt mmt ⟨#[]⟩) (qth:Rq (3) bth mth ⟨#[]⟩) (qei:Rq (8) bei mei ⟨#[]⟩) (qst:Rq (72) bst mst ⟨#[]⟩) (qh3:Rq (3 / 2) bh3 mh3 kh3) (qh1:Rq (1 / 2) bh1 mh1 kh1) (qot:Rq (1 / 3) bot mot kot) (qs3:Rq (7 / 3) bs3 ms3 ks3) (qt7:Rq (3 / 7) bt7 mt7 kt7) (qtn:Rq (10 / 7) btn mtn ktn) (w:World) (hE:Env w) :
  Calls Tryz.prog 15 #[] w (RetB w (.bool true)):=by
 have C16:=Lib.hid (show ∀ V,Below w.heap.size w V→Calls Tryz.prog 34 #[.agg #[.bool false,.string ⟨#[1]⟩,.bool false,.string ⟨#[]⟩,.bool false,.string ⟨#[2]⟩,.bool false,.string ⟨#[]⟩,.bool true],.agg #[.bool false,.string ⟨#[1]⟩,.bool false,.string ⟨#[]⟩,.bool false,.string ⟨#[2]⟩,.bool false,.string ⟨#[]⟩,.bool false]] V (RetB V (.int .i64 (-1))) from fun V hb=>by have h:=cmp_irr (⟨qo,qt,by decide⟩:Rv (⟨1,2,-1⟩:Sg.Rl) false ⟨#[1]⟩ ⟨#[]⟩ false ⟨#[2]⟩ ⟨#[]⟩ true) (⟨qo,qt,by decide⟩:Rv (⟨1,2,1⟩:Sg.Rl) false ⟨#[1]⟩ ⟨#[]⟩ false ⟨#[2]⟩ ⟨#[]⟩ false) (show ((⟨1,2,-1⟩:Sg.Rl)).Ok from ⟨.inr rfl,.inr ⟨by decide +kernel,nsq_two⟩⟩) (show ((⟨1,2,1⟩:Sg.Rl)).Ok from ⟨.inl rfl,.inr ⟨by decide +kernel,nsq_two⟩⟩) (by decide +kernel) (by decide +kernel) (show Rz 500 (⟨1,2,-1⟩:Sg.Rl) from ⟨(show Sz 1 _ from ⟨by decide +kernel,by decide +kernel⟩).up (by omega),(show Sz 1 _ from ⟨by decide +kernel,by decide +kernel⟩).up (by omega)⟩) (show Rz 500 (⟨1,2,1⟩:Sg.Rl) from ⟨(show Sz 1 _ from ⟨by decide +kernel,by decide +kernel⟩).up (by omega),(show Sz 1 _ from ⟨by decide +kernel,by decide +kernel⟩).up (by omega)⟩) (.inr (.inr ⟨rfl,rfl,rfl⟩)) V (hE.next hb);rw [show Sg.cmpP ((⟨1,2,-1⟩:Sg.Rl).p-(⟨1,2,1⟩:Sg.Rl).p) (⟨1,2,-1⟩:Sg.Rl).s (⟨1,2,-1⟩:Sg.Rl).a (⟨1,2,1⟩:Sg.Rl).s (⟨1,2,1⟩:Sg.Rl).a=-1 from by decide +kernel] at h;exact h)
 have HRo:=Lib.hid (show ∀ V,Below w.heap.size w V→Calls Tryz.prog 31 #[.agg #[.bool bmo,.string mmo,.bool false,.string ⟨#[]⟩,.bool bmt,.string mmt,.bool false,.string ⟨#[]⟩,.bool false,.string ⟨#[1]⟩,.bool false,.string ⟨#[]⟩]] V (RetLs V #[.bool false,.string ⟨#[1]⟩,.bool false,.string ⟨#[]⟩,.bool false,.string ⟨#[2]⟩,.bool false,.string ⟨#[]⟩,.bool true,.bool false,.string ⟨#[1]⟩,.bool false,.string ⟨#[]⟩,.bool false,.string ⟨#[2]⟩,.bool false,.string ⟨#[]⟩,.bool false] 27 2) from fun V hb=>roots_two_false (p:=1) qmo qmt qo (by decide +kernel) ((show Sz 1 (-1) from ⟨by decide +kernel,by decide +kernel⟩).up (by omega)) ((show Sz 1 (-2) from ⟨by decide +kernel,by decide +kernel⟩).up (by omega)) ((show Sz 1 (1) from ⟨by decide +kernel,by decide +kernel⟩).up (by omega)) (by decide +kernel) (by decide +kernel) (show Rv (Sg.sumP 1 (-1) ((1:Rat)*1 - -1 / 1)) false ⟨#[1]⟩ ⟨#[]⟩ false ⟨#[2]⟩ ⟨#[]⟩ true from by rw [show ((1:Rat)*1 - -1 / 1)=2 from by decide +kernel,show Sg.sumP 1 (-1) 2=(⟨1,2,-1⟩:Sg.Rl) from sum_irr (Sg.nsq_sq.1 nsq_two)];exact (⟨qo,qt,by decide⟩:Rv (⟨1,2,-1⟩:Sg.Rl) false ⟨#[1]⟩ ⟨#[]⟩ false ⟨#[2]⟩ ⟨#[]⟩ true)) (show Rv (Sg.sumP 1 (1) ((1:Rat)*1 - -1 / 1)) false ⟨#[1]⟩ ⟨#[]⟩ false ⟨#[2]⟩ ⟨#[]⟩ false from by rw [show ((1:Rat)*1 - -1 / 1)=2 from by decide +kernel,show Sg.sumP 1 (1) 2=(⟨1,2,1⟩:Sg.Rl) from sum_irr (Sg.nsq_sq.1 nsq_two)];exact (⟨qo,qt,by decide⟩:Rv (⟨1,2,1⟩:Sg.Rl) false ⟨#[1]⟩ ⟨#[]⟩ false ⟨#[2]⟩ ⟨#[]⟩ false)) V (hE.next hb))
 have C1:=kn w (whole_f (x:=-1) qmo.num (by omega) (by omega))
 have C2:=kn w (whole_f (x:=-2) qmt.num (by omega) (by omega))
 have C3:=kn w (whole_f (x:=1) qo.num (by omega) (by omega))
 have C4:=kn w (whole_f (x:=0) qz.num (by omega) (by omega))
 have C5:=kn w (whole_f (x:=3) qth.num (by omega) (by omega))
 have C6:=kn w (whole_f (x:=8) qei.num (by omega) (by omega))
 have C7:=kn w (whole_f (x:=72) qst.num (by omega) (by omega))
 have C8:=kn w (root_w (p:=0) (q:=1) (r:=2) qz.num (by omega) (by omega) qo.num (by omega) (by omega) qt.num (by omega) (by omega) (fun V=>fmk_f qz qo qt ((show Sz 1 (0) from ⟨by decide +kernel,by decide +kernel⟩).up (by omega)) ((show Sz 1 (1) from ⟨by decide +kernel,by decide +kernel⟩).up (by omega)) ((show Sz 1 (2) from ⟨by decide +kernel,by decide +kernel⟩).up (by omega)) (show Rv (Sg.mkR (0) (1) (2)) false ⟨#[]⟩ ⟨#[]⟩ false ⟨#[2]⟩ ⟨#[]⟩ false from by rw [show Sg.mkR (0) (1) (2)=(⟨0,2,1⟩:Sg.Rl) from mk_irr (Sg.nsq_sq.1 nsq_two) (by decide +kernel) (by decide +kernel) (by decide +kernel)];exact (⟨qz,qt,by decide⟩:Rv (⟨0,2,1⟩:Sg.Rl) false ⟨#[]⟩ ⟨#[]⟩ false ⟨#[2]⟩ ⟨#[]⟩ false)) V))
 have C9:=kn w (root_w (p:=1) (q:=-1) (r:=2) qo.num (by omega) (by omega) qmo.num (by omega) (by omega) qt.num (by omega) (by omega) (fun V=>fmk_f qo qmo qt ((show Sz 1 (1) from ⟨by decide +kernel,by decide +kernel⟩).up (by omega)) ((show Sz 1 (-1) from ⟨by decide +kernel,by decide +kernel⟩).up (by omega)) ((show Sz 1 (2) from ⟨by decide +kernel,by decide +kernel⟩).up (by omega)) (show Rv (Sg.mkR (1) (-1) (2)) false ⟨#[1]⟩ ⟨#[]⟩ false ⟨#[2]⟩ ⟨#[]⟩ true from by rw [show Sg.mkR (1) (-1) (2)=(⟨1,2,-1⟩:Sg.Rl) from mk_irr (Sg.nsq_sq.1 nsq_two) (by decide +kernel) (by decide +kernel) (by decide +kernel)];exact (⟨qo,qt,by decide⟩:Rv (⟨1,2,-1⟩:Sg.Rl) false ⟨#[1]⟩ ⟨#[]⟩ false ⟨#[2]⟩ ⟨#[]⟩ true)) V))
 have C10:=kn w (root_w (p:=1) (q:=1) (r:=2) qo.num (by omega) (by omega) qo.num (by omega) (by omega) qt.num (by omega) (by omega) (fun V=>fmk_f qo qo qt ((show Sz 1 (1) from ⟨by decide +kernel,by decide +kernel⟩).up (by omega)) ((show Sz 1 (1) from ⟨by decide +kernel,by decide +kernel⟩).up (by omega)) ((show Sz 1 (2) from ⟨by decide +kernel,by decide +kernel⟩).up (by omega)) (show Rv (Sg.mkR (1) (1) (2)) false ⟨#[1]⟩ ⟨#[]⟩ false ⟨#[2]⟩ ⟨#[]⟩ false from by rw [show Sg.mkR (1) (1) (2)=(⟨1,2,1⟩:Sg.Rl) from mk_irr (Sg.nsq_sq.1 nsq_two) (by decide +kernel) (by decide +kernel) (by decide +kernel)];exact (⟨qo,qt,by decide⟩:Rv (⟨1,2,1⟩:Sg.Rl) false ⟨#[1]⟩ ⟨#[]⟩ false ⟨#[2]⟩ ⟨#[]⟩ false)) V))
 have C11:=kn w (rOf_f (x:=3) (y:=2) (show Rq (Rat.divInt 3 2) bh3 mh3 kh3 from by rw [show Rat.divInt 3 2=3 / 2 from by decide +kernel];exact qh3) (by omega) (by omega) (by omega) (by omega) (by omega))
 have C12:=kn w (rOf_f (x:=10) (y:=7) (show Rq (Rat.divInt 10 7) btn mtn ktn from by rw [show Rat.divInt 10 7=10 / 7 from by decide +kernel];exact qtn) (by omega) (by omega) (by omega) (by omega) (by omega))
 have C13:=kn w (of_any bh3 mh3 kh3)
 have C14:=ke hE (known_between qmo qmt qth qei qst qh3 qh1 qot qs3 qt7 qtn)
 have C15:=ke hE (rmk_f qz qth qei (by decide +kernel) ((show Sz 1 (0) from ⟨by decide +kernel,by decide +kernel⟩).up (by omega)) ((show Sz 1 (3) from ⟨by decide +kernel,by decide +kernel⟩).up (by omega)) ((show Sz 1 (8) from ⟨by decide +kernel,by decide +kernel⟩).up (by omega)) (show Rv (Sg.mkR 0 3 8) false ⟨#[]⟩ ⟨#[]⟩ bst mst ⟨#[]⟩ false from by rw [show Sg.mkR 0 3 8=(⟨0,72,1⟩:Sg.Rl) from mk_irr (Sg.nsq_sq.1 (nsq_nat (n:=8) (r:=2) (by decide) (by decide))) (by decide +kernel) (by decide +kernel) (by decide +kernel)];exact (⟨qz,qst,by decide⟩:Rv (⟨0,72,1⟩:Sg.Rl) false ⟨#[]⟩ ⟨#[]⟩ bst mst ⟨#[]⟩ false)))
 have Z1:Hid (∀ {p:Prop} (h:p:=by ((go_at_call 31;(with_reducible refine (HRo.out _ X.out.bel).mono ?_);rintro e u ⟨gl,rfl,hlo,hk9,hb9⟩;replace X:=Lib.hid (X.out.add hb9 hlo hk9);clear hb9 hlo hk9;replace F:=X.out.facts;simp only [Facts,cellsAt,List.take_succ_cons,List.take_zero,Nat.reduceAdd,and_true,List.set_cons_succ,List.set_cons_zero,List.cons_append,List.nil_append] at F);all_goals exact wk)),p):=@fun _ h=>h
 clear qmo qmt qth qei qst qh3 qh1 qot qs3 qt7 qtn hE
 go_enter Tryz.func15,Tryz.ntmps15
 exact wk0

theorem rknown3 (w:World) (hE:Env w):Calls Tryz.prog 15 #[] w (RetB w (.bool true)):=by
 obtain ⟨bmo,mmo,qmo⟩:=Rq.int_ (q:=-1) rfl
 obtain ⟨bmt,mmt,qmt⟩:=Rq.int_ (q:=-2) rfl
 obtain ⟨bth,mth,qth⟩:=Rq.int_ (q:=3) rfl
 obtain ⟨bei,mei,qei⟩:=Rq.int_ (q:=8) rfl
 obtain ⟨bst,mst,qst⟩:=Rq.int_ (q:=72) rfl
 obtain ⟨bh3,mh3,kh3,qh3⟩:=Rq.some_ (3 / 2)
 obtain ⟨bh1,mh1,kh1,qh1⟩:=Rq.some_ (1 / 2)
 obtain ⟨bot,mot,kot,qot⟩:=Rq.some_ (1 / 3)
 obtain ⟨bs3,ms3,ks3,qs3⟩:=Rq.some_ (7 / 3)
 obtain ⟨bt7,mt7,kt7,qt7⟩:=Rq.some_ (3 / 7)
 obtain ⟨btn,mtn,ktn,qtn⟩:=Rq.some_ (10 / 7)
 exact known_w qmo qmt qth qei qst qh3 qh1 qot qs3 qt7 qtn w hE
end Go.Proofs.YtpnokfgplnmjpaaGreatDoor


namespace Go.Proofs.YtpnokfgplnmjpaaGreatDoor
open Go.RowKit
attribute [local go_sem ↓] Go.wp_at_zero Go.wp_at_succ

end Go.Proofs.YtpnokfgplnmjpaaGreatDoor


namespace Go.Proofs.YtpnokfgplnmjpaaGreatDoor
open Go.RowKit
attribute [local go_sem ↓] Go.wp_at_zero Go.wp_at_succ

set_option maxHeartbeats 8000000 in
set_option maxRecDepth 100000 in
theorem prints_no (w:World) {b1 d1 c1 e1 s1:Bool} {m1 k1 n1 l1:ByteArray} (HK:∀ V,Below w.heap.size w V→Calls Tryz.prog 15 #[] V (RetB V (.bool true))) (HS:∀ V,Below w.heap.size w V→Calls Tryz.prog 22 #[.agg #[.bool b1,.string m1,.bool d1,.string k1,.bool c1,.string n1,.bool e1,.string l1,.bool s1]] V (RetB V (.bool false))) :
  Calls Tryz.prog 13 #[.agg #[.bool b1,.string m1,.bool d1,.string k1,.bool c1,.string n1,.bool e1,.string l1,.bool s1]] w (RetB w (.bool true)):=by
 have C1:=Lib.hid HK
 have C2:=Lib.hid HS
 clear HK HS 
 go_enter Tryz.func13,Tryz.ntmps13
 exact wk0

set_option maxHeartbeats 8000000 in
set_option maxRecDepth 100000 in
theorem prints_yes (w:World) {b1 c1 s1:Bool} {m1 k1 n1 l1:ByteArray} {s:ByteArray} (HK:∀ V,Below w.heap.size w V→Calls Tryz.prog 15 #[] V (RetB V (.bool true))) (HS:∀ V,Below w.heap.size w V→Calls Tryz.prog 22 #[.agg #[.bool b1,.string m1,.bool false,.string k1,.bool c1,.string n1,.bool false,.string l1,.bool s1]] V (RetB V (.bool true))) (HQ:∀ V,Below w.heap.size w V→Calls Tryz.prog 63 #[.agg #[.bool b1,.string m1,.bool false,.string k1,.bool c1,.string n1,.bool false,.string l1,.bool s1]] V (RetB V (.string s))) (HR:∀ V,Below w.heap.size w V→Calls Tryz.prog 64 #[.string s] V (RetB V (.tuple #[.agg #[.bool b1,.string m1,.bool false,.string k1,.bool c1,.string n1,.bool false,.string l1,.bool s1],.int .i64 0]))) (HG:∀ V,Below w.heap.size w V→Calls Tryz.prog 65 #[.agg #[.bool b1,.string m1,.bool false,.string k1,.bool c1,.string n1,.bool false,.string l1,.bool s1]] V (RetB V (.string s))) :
  Calls Tryz.prog 13 #[.agg #[.bool b1,.string m1,.bool false,.string k1,.bool c1,.string n1,.bool false,.string l1,.bool s1]] w (RetB w (.bool true)):=by
 have C1:=Lib.hid HK
 have C2:=Lib.hid HS
 have C3:=Lib.hid HQ
 have C4:=Lib.hid HR
 have C5:=Lib.hid HG
 clear HK HS HQ HR HG 
 go_enter Tryz.func13,Tryz.ntmps13
 exact wk0
end Go.Proofs.YtpnokfgplnmjpaaGreatDoor
