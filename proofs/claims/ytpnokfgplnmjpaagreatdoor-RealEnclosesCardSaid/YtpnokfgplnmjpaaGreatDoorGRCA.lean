import Derived.Test.YtpnokfgplnmjpaaGreatDoorGRLG
import Derived.Test.YtpnokfgplnmjpaaGreatDoorGRFA
import Derived.Test.YtpnokfgplnmjpaaGreatDoorGRGB
set_option linter.unusedSimpArgs false
set_option linter.unusedVariables false

namespace Go.Proofs.YtpnokfgplnmjpaaGreatDoor
open Go.RowKit
attribute [local go_sem ↓] Go.wp_at_zero Go.wp_at_succ

theorem inv_ne {q:Rat} (h:q≠0):1 / q≠0:=by
 intro e
 have h1:q*(1 / q)=1:=by grind
 rw [e] at h1
 grind
theorem Sz.inv {n:Nat} {q:Rat} (h:Sz n q):Sz (n+1) (1 / q):=by
 have e:(1:Rat) / q=q⁻¹:=by grind
 rw [e]
 have h1:=h.1
 have h2:=h.2
 have h3:=Rat.num_inv q
 have h4:=Rat.den_inv q
 have hm:256^n<256^(n+1):=by rw [Nat.pow_succ];have:=Nat.pow_pos (a:=256) (n:=n) (by decide);omega
 have hp:=Nat.pow_pos (a:=256) (n:=n) (by decide)
 refine ⟨?_,?_⟩
 · rw [h3,Int.natAbs_mul]
   rcases Int.lt_trichotomy q.num 0 with h | h | h
   · rw [Int.sign_eq_neg_one_of_neg h];simp;omega
   · rw [h];simp;omega
   · rw [Int.sign_eq_one_of_pos h];simp;omega
 · rw [h4]
   split
   · omega
   · omega

set_option maxHeartbeats 8000000 in
set_option maxRecDepth 100000 in
theorem rscale_rat {p r:Rat} {b1 b2 b3:Bool} {m1 k1 m2 k2 m3 k3:ByteArray} {s1:Bool} (hp:Rq p b1 m1 k1) (hr:Rq r b2 m2 k2) (h3:Rq (p*r) b3 m3 k3) (zp:Sz 5000 p) (zr:Sz 5000 r) (w:World) (hE:Env w) :
  Calls Tryz.prog 45 #[.agg #[.bool b1,.string m1,.bool false,.string k1,.bool false,.string ⟨#[]⟩,.bool false,.string ⟨#[]⟩,.bool s1],.agg #[.bool b2,.string m2,.bool false,.string k2]] w (RetB w (.agg #[.bool b3,.string m3,.bool false,.string k3,.bool false,.string ⟨#[]⟩,.bool false,.string ⟨#[]⟩,.bool false])):=by
 have C1:=kn w (isRat_yes b1 s1 m1 k1)
 have C2:=ke hE (mul_z hp hr h3 (zp.up (by omega)) (zr.up (by omega)))
 have C3:=kn w (fromRat_any b3 m3 k3)
 have RS:=Lib.hid Tryz.results45
 clear hp hr h3 zp zr hE
 go_enter Tryz.func45,Tryz.ntmps45
 exact wk0

set_option maxHeartbeats 8000000 in
set_option maxRecDepth 100000 in
theorem rscale_0 {x:Sg.Rl} {b1 c1 s1:Bool} {m1 k1 n1 l1:ByteArray} (hx:Rv x b1 m1 k1 c1 n1 l1 s1) (h0:x.a≠0) (w:World) :
  Calls Tryz.prog 45 #[.agg #[.bool b1,.string m1,.bool false,.string k1,.bool c1,.string n1,.bool false,.string l1,.bool s1],.agg #[.bool false,.string ⟨#[]⟩,.bool false,.string ⟨#[]⟩]] w (RetB w (.agg #[.bool false,.string ⟨#[]⟩,.bool false,.string ⟨#[]⟩,.bool false,.string ⟨#[]⟩,.bool false,.string ⟨#[]⟩,.bool false])):=by
 have e0:=Sg.sgq_zero (x:=0) rfl
 have C1:=kn w (isRat_no hx h0)
 have C2:=kn w (sign_z Rq.zero)
 have RS:=Lib.hid Tryz.results45
 clear hx h0
 go_enter Tryz.func45,Tryz.ntmps45
 exact wk0

set_option maxHeartbeats 8000000 in
set_option maxRecDepth 100000 in
theorem rscale_irr {x:Sg.Rl} {r:Rat} {b1 c1 s1:Bool} {m1 k1 n1 l1:ByteArray} {b2 b3 b4:Bool} {m2 k2 m3 k3 m4 k4:ByteArray} (hx:Rv x b1 m1 k1 c1 n1 l1 s1) (hx0:x.a≠0) (hr:Rq r b2 m2 k2) (hr0:r≠0) (h3:Rq (x.p*r) b3 m3 k3) (h4:Rq (x.a*(r*r)) b4 m4 k4) (zx:Rz 4000 x) (zr:Sz 2000 r) (w:World) (hE:Env w) :
  Calls Tryz.prog 45 #[.agg #[.bool b1,.string m1,.bool false,.string k1,.bool c1,.string n1,.bool false,.string l1,.bool s1],.agg #[.bool b2,.string m2,.bool false,.string k2]] w (RetB w (.agg #[.bool b3,.string m3,.bool false,.string k3,.bool b4,.string m4,.bool false,.string k4,.bool (s1 != decide (Sg.sgq r<0))])):=by
 obtain ⟨b5,m5,k5,h5⟩:=Rq.some_ (r*r)
 have z5:=zr.mul zr
 have hs0:¬Sg.sgq r=0:=by rcases Sg.sgq_three r with ⟨_,e⟩ | ⟨e,_⟩ | ⟨_,e⟩<;>first | exact absurd e hr0 | (rw [e];decide)
 have C1:=kn w (isRat_no hx hx0)
 have C2:=kn w (sign_z hr)
 have C3:=ke hE (mul_z hr hr h5 (zr.up (by omega)) (zr.up (by omega)))
 have C4:=ke hE (mul_z hx.p hr h3 (zx.p.up (by omega)) (zr.up (by omega)))
 have C5:=ke hE (mul_z hx.r h5 h4 (zx.r.up (by omega)) (z5.up (by omega)))
 have E1:Hid (∀ {p:Prop} (h:p:=by exact bodyPost_ret (v:=.agg #[.bool b3,.string m3,.bool false,.string k3,.bool b4,.string m4,.bool false,.string k4,.bool (s1 != decide (Sg.sgq r<0))]) (by simp [results,Tryz.results45,go_sem,F]<;>(cases s1<;>cases decide (Sg.sgq r<0)<;>rfl)) rfl ⟨rfl,X.out.bel⟩),p):=@fun _ h=>h
 have RS:=Lib.hid Tryz.results45
 clear hx hx0 hr hr0 h3 h4 h5 z5 zx zr hE
 go_enter Tryz.func45,Tryz.ntmps45
 exact wk0

set_option maxHeartbeats 8000000 in
set_option maxRecDepth 100000 in
theorem rinv_0  (w:World) :
  Calls Tryz.prog 50 #[.agg #[.bool false,.string ⟨#[]⟩,.bool false,.string ⟨#[]⟩,.bool false,.string ⟨#[]⟩,.bool false,.string ⟨#[]⟩,.bool false]] w (RetB w (.tuple #[.agg #[.bool false,.string ⟨#[]⟩,.bool false,.string ⟨#[]⟩,.bool false,.string ⟨#[]⟩,.bool false,.string ⟨#[]⟩,.bool false],.int .i64 6])):=by
 have RS:=Lib.hid Tryz.results50
 go_enter Tryz.func50,Tryz.ntmps50
 exact wk0

set_option maxHeartbeats 8000000 in
set_option maxRecDepth 100000 in
theorem rinv_rat {p:Rat} {b1 b2:Bool} {m1 k1 m2 k2:ByteArray} (hp:Rq p b1 m1 k1) (hp0:p≠0) (h2:Rq (1 / p) b2 m2 k2) (zp:Sz 5000 p) (w:World) (hE:Env w) :
  Calls Tryz.prog 50 #[.agg #[.bool b1,.string m1,.bool false,.string k1,.bool false,.string ⟨#[]⟩,.bool false,.string ⟨#[]⟩,.bool false]] w (RetB w (.tuple #[.agg #[.bool b2,.string m2,.bool false,.string k2,.bool false,.string ⟨#[]⟩,.bool false,.string ⟨#[]⟩,.bool false],.int .i64 0])):=by
 have o1:=(show Rq 1 false ⟨#[1]⟩ ⟨#[]⟩ from ⟨by rw [←mag_one];exact enc_mag 1,by rw [show (1:Rat).den=1 from rfl];exact dm_one.symm⟩)
 have hn:=hp.ne hp0
 obtain ⟨e1,e2⟩:=str_ne hn
 have e3:=empty_no (size_pos hn)
 have z1:Sz 1 1:=⟨by decide,by decide⟩
 have hp1:p.num≠0:=fun e=>hp0 (Rat.num_eq_zero.1 e)
 have C1:=kn w (isRat_yes b1 false m1 k1)
 have C2:=kn w (rFromInt_f (x:=1) o1.num (by omega) (by omega))
 have C3:=ke hE (ratio_f o1 hp h2 hp1 (z1.up (by omega)) (zp.up (by omega)))
 have C4:=kn w (fromRat_any b2 m2 k2)
 have RS:=Lib.hid Tryz.results50
 clear hp hp0 h2 zp o1 hn z1 hp1 hE
 go_enter Tryz.func50,Tryz.ntmps50
 exact wk0

set_option maxHeartbeats 8000000 in
set_option maxRecDepth 100000 in
theorem rinv_irr {x:Sg.Rl} {m:Rat} {b1 s1:Bool} {m1 k1 n1 l1:ByteArray} {b3 b4:Bool} {m3 k3 m4 k4:ByteArray} (hx:Rv x b1 m1 k1 false n1 l1 s1) (hx0:x.a≠0) (hm:m=1 / (x.p*x.p-x.a)) (hm0:x.p*x.p-x.a≠0) (h3:Rq (x.p*m) b3 m3 k3) (h4:Rq (x.a*(m*m)) b4 m4 k4) (zx:Rz 600 x) (w:World) (hE:Env w) :
  Calls Tryz.prog 50 #[.agg #[.bool b1,.string m1,.bool false,.string k1,.bool false,.string n1,.bool false,.string l1,.bool s1]] w (RetB w (.tuple #[.agg #[.bool b3,.string m3,.bool false,.string k3,.bool b4,.string m4,.bool false,.string k4,.bool ((!s1) != decide (Sg.sgq m<0))],.int .i64 0])):=by
 have o1:=(show Rq 1 false ⟨#[1]⟩ ⟨#[]⟩ from ⟨by rw [←mag_one];exact enc_mag 1,by rw [show (1:Rat).den=1 from rfl];exact dm_one.symm⟩)
 have hn:=hx.r.ne hx0
 obtain ⟨e1,e2⟩:=str_ne hn
 have e3:=empty_no (size_pos hn)
 have z1:Sz 1 1:=⟨by decide,by decide⟩
 obtain ⟨b5,m5,k5,h5⟩:=Rq.some_ (x.p*x.p-x.a)
 obtain ⟨b6,m6,k6,h6⟩:=Rq.some_ m
 have z5:Sz 1801 (x.p*x.p-x.a):=(zx.p.mul zx.p).sub zx.r
 have z6:Sz 1802 m:=by rw [hm];exact z5.inv
 have hp1:(x.p*x.p-x.a).num≠0:=fun e=>hm0 (Rat.num_eq_zero.1 e)
 have hm1:m≠0:=by rw [hm];exact inv_ne hm0
 have hc:Rv (⟨x.p,x.a,if s1 then 1 else -1⟩:Sg.Rl) b1 m1 k1 false n1 l1 (!s1):=⟨hx.p,hx.r,by cases s1<;>simp⟩
 have zc:Rz 600 (⟨x.p,x.a,if s1 then 1 else -1⟩:Sg.Rl):=⟨zx.p,zx.r⟩
 have C5:=Lib.hid (fun V (hb:Below w.heap.size w V)=>rscale_irr hc hx0 h6 hm1 h3 h4 ⟨zx.p.up (by omega),zx.r.up (by omega)⟩ (z6.up (by omega)) V (hE.next hb))
 have C1:=kn w (isRat_no hx hx0)
 have C2:=kn w (rFromInt_f (x:=1) o1.num (by omega) (by omega))
 have C3:=ke hE (norm_f hx h5 ⟨zx.p.up (by omega),zx.r.up (by omega)⟩)
 have C4:=ke hE (ratio_f o1 h5 (by rw [←hm];exact h6) hp1 (z1.up (by omega)) (z5.up (by omega)))
 have RS:=Lib.hid Tryz.results50
 clear hx hx0 hm hm0 h3 h4 zx o1 hn z1 h5 h6 z5 z6 hp1 hm1 hc zc hE
 go_enter Tryz.func50,Tryz.ntmps50
 exact wk0
end Go.Proofs.YtpnokfgplnmjpaaGreatDoor


namespace Go.Proofs.YtpnokfgplnmjpaaGreatDoor
open Go.RowKit
attribute [local go_sem ↓] Go.wp_at_zero Go.wp_at_succ

theorem Sz.by_ {n m:Nat} {p q:Rat} (hp:Sz n p) (hq:Sz m q):Sz (n+(m+1)) (p / q):=by
 have e:p / q=p*(1 / q):=by grind
 rw [e]
 exact hp.mul hq.inv
theorem Sb.last {w W:World} {l:List (Nat×Array Value×TypeId)} {rs:List (Option Addr×Nat×Nat×Nat)} {g:Nat} {cs:Array Value} {T:TypeId} (h:Sb w (l++[(g,cs,T)]) rs W):w.heap.size≤g∧W.heap[g]?=some (.cells cs T (0,0)) :=
 ⟨h.lo (g,cs,T) (by simp),h.k (g,cs,T) (by simp)⟩
def RetLs (w:World) (cs:Array Value) (T:TypeId) (n:Nat) (e:Ending) (w':World):Prop:=∃ g,e=.returned (.tuple #[.slice (some ⟨g,0,none⟩) n n,.int .i64 0])∧w.heap.size≤g∧w'.heap[g]?=some (.cells cs T (0,0))∧Below w.heap.size w w'

set_option maxHeartbeats 8000000 in
set_option maxRecDepth 100000 in
theorem roots_two_true {q1 q2 q3 p:Rat} {b1 b2:Bool} {m1 k1 m2 k2:ByteArray} {m3 k3:ByteArray} {b10 c10 s10 b11 c11 s11:Bool} {m10 k10 n10 l10 m11 k11 n11 l11:ByteArray} (h1:Rq q1 b1 m1 k1) (h2:Rq q2 b2 m2 k2) (h3:Rq q3 true m3 k3) (h30:q3≠0) (z1q:Sz 100 q1) (z2q:Sz 100 q2) (z3q:Sz 100 q3) (hp:p=-q2 / (2*q3)) (hpos:0<p*p-q1 / q3) (h10:Rv (Sg.sumP p (-1) (p*p-q1 / q3)) b10 m10 k10 c10 n10 l10 s10) (h11:Rv (Sg.sumP p 1 (p*p-q1 / q3)) b11 m11 k11 c11 n11 l11 s11) (w:World) (hE:Env w) :
  Calls Tryz.prog 31 #[.agg #[.bool b1,.string m1,.bool false,.string k1,.bool b2,.string m2,.bool false,.string k2,.bool true,.string m3,.bool false,.string k3]] w (RetLs w #[.bool b10,.string m10,.bool false,.string k10,.bool c10,.string n10,.bool false,.string l10,.bool s10,.bool b11,.string m11,.bool false,.string k11,.bool c11,.string n11,.bool false,.string l11,.bool s11] 27 2):=by
 have hn:=h3.ne h30
 obtain ⟨u1,u2⟩:=str_ne hn
 have u3:=empty_no (size_pos hn)
 have h3n:q3.num≠0:=fun e=>h30 (Rat.num_eq_zero.1 e)
 obtain ⟨b4,m4,k4,h4⟩:=Rq.some_ (-q2)
 obtain ⟨b5,m5,k5,h5⟩:=Rq.some_ (2*q3)
 obtain ⟨b6,m6,k6,h6⟩:=Rq.some_ p
 obtain ⟨b7,m7,k7,h7⟩:=Rq.some_ (q1 / q3)
 obtain ⟨b8,m8,k8,h8⟩:=Rq.some_ (p*p)
 obtain ⟨b9,m9,k9,h9⟩:=Rq.some_ (p*p-q1 / q3)
 have e2:Rq 2 false ⟨#[2]⟩ ⟨#[]⟩:=⟨by rw [←mag_2];exact enc_mag 2,by rw [show (2:Rat).den=1 from rfl];exact dm_one.symm⟩
 have z2:Sz 1 2:=⟨by decide,by decide⟩
 have z5:=z2.mul z3q
 have h50:(2*q3).num≠0:=fun e=>by have:=Rat.num_eq_zero.1 e;grind
 have z4:Sz 100 (-q2):=z2q.minus
 have z6:Sz 202 p:=by rw [hp];exact z4.by_ z5
 have z7:Sz 201 (q1 / q3):=z1q.by_ z3q
 have z8:=z6.mul z6
 have z9:Sz 606 (p*p-q1 / q3):=z8.sub z7
 have C8:=Lib.hid (fun V (_:Below w.heap.size w V)=>sign_z h9 V)
 rw [Sg.sgq_pos hpos] at C8
 have C1:=kn w (ratNeg_f h2 h4)
 have C2:=kn w (rFromInt_f (x:=2) e2.num (by omega) (by omega))
 have C3:=ke hE (mul_z e2 h3 h5 (z2.up (by omega)) (z3q.up (by omega)))
 have C4:=ke hE (ratio_f h4 h5 (by rw [←hp];exact h6) h50 (z4.up (by omega)) (z5.up (by omega)))
 have C5:=ke hE (ratio_f h1 h3 h7 h3n (z1q.up (by omega)) (z3q.up (by omega)))
 have C6:=ke hE (mul_z h6 h6 h8 (z6.up (by omega)) (z6.up (by omega)))
 have C7:=ke hE (sub_z h8 h7 h9 (z8.up (by omega)) (z7.up (by omega)))
 have C9:=ke hE (sum_f h6 h9 (z6.up (by omega)) (z9.up (by omega)) (-1) h10)
 have C10:=ke hE (sum_f h6 h9 (z6.up (by omega)) (z9.up (by omega)) 1 h11)
 have U1:Hid (∀ {p:Prop} (h:p:=by ((fail_if_success (go_not_at_region 8));(fail_if_success (have:=hLL));obtain ⟨LL,hLL⟩:=lexi X.out;go_cut [5] (fun s0 wx=>∃ g0,s0=.pointer (some ⟨g0,0,none⟩)∧Sb w (LL++[(g0,#[.bool b6,.string m6,.bool false,.string k6],25)]) [] wx);all_goals exact wkc)),p):=@fun _ h=>h
 have U2:Hid (∀ {p:Prop} (h:p:=by ((fail_if_success (go_not_at_region 10));(fail_if_success (have:=hLL));obtain ⟨LL,hLL⟩:=lexi X.out;go_cut [7] (fun s0 wx=>∃ g0,s0=.pointer (some ⟨g0,0,none⟩)∧Sb w (LL++[(g0,#[.bool b9,.string m9,.bool false,.string k9],25)]) [] wx);all_goals exact wkc)),p):=@fun _ h=>h
 have E1:Hid (∀ {p:Prop} (h:p:=by exact bodyPost_ret (v:=.tuple #[.slice (some ⟨_,0,none⟩) 2 2,.int .i64 0]) (by simp [results,Tryz.results31,go_sem]<;>rfl) rfl ⟨_,rfl,X.out.last.1,X.out.last.2,X.out.bel⟩),p):=@fun _ h=>h
 clear h1 h2 h3 h30 z1q z2q z3q hp hpos h10 h11 hn h3n h4 h5 h6 h7 h8 h9 e2 z2 z5 h50 z4 z6 z7 z8 z9 hE
 go_enter Tryz.func31,Tryz.ntmps31
 go_upto_region 1 with fail
 refine gs1 (M:=fun W=>Code.wp _ _ _ _ W) (fun V X0=>?_)
 have X:=Lib.hid X0
 clear X0
 have F:=X.out.facts
 simp only [Facts,cellsAt,List.take_succ_cons,List.take_zero,Nat.reduceAdd,and_true,List.set_cons_succ,List.set_cons_zero,List.cons_append,List.nil_append] at F
 go_upto_region 2 with fail
 refine an X.out (fun V X0=>?_)
 replace X:=Lib.hid X0
 clear X0
 replace F:=X.out.facts
 simp only [Facts,cellsAt,List.take_succ_cons,List.take_zero,Nat.reduceAdd,and_true,List.set_cons_succ,List.set_cons_zero,List.cons_append,List.nil_append] at F
 obtain ⟨LL,hLL⟩:=lexi X.out
 go_cut [9] (fun s9 wx=>s9=.bool false∧Sb w LL [] wx)
 case first =>
  go_wp2_with fail
  all_goals (go_meet;subst hLL;exact ⟨rfl,X.out⟩)
 obtain ⟨rfl,hX⟩:=hcut
 subst hLL
 replace X:=Lib.hid hX
 clear hX
 replace F:=X.out.facts
 simp only [Facts,cellsAt,List.take_succ_cons,List.take_zero,Nat.reduceAdd,and_true,List.set_cons_succ,List.set_cons_zero,List.cons_append,List.nil_append] at F
 exact wk

set_option maxHeartbeats 8000000 in
set_option maxRecDepth 100000 in
theorem roots_two_false {q1 q2 q3 p:Rat} {b1 b2:Bool} {m1 k1 m2 k2:ByteArray} {m3 k3:ByteArray} {b10 c10 s10 b11 c11 s11:Bool} {m10 k10 n10 l10 m11 k11 n11 l11:ByteArray} (h1:Rq q1 b1 m1 k1) (h2:Rq q2 b2 m2 k2) (h3:Rq q3 false m3 k3) (h30:q3≠0) (z1q:Sz 100 q1) (z2q:Sz 100 q2) (z3q:Sz 100 q3) (hp:p=-q2 / (2*q3)) (hpos:0<p*p-q1 / q3) (h10:Rv (Sg.sumP p (-1) (p*p-q1 / q3)) b10 m10 k10 c10 n10 l10 s10) (h11:Rv (Sg.sumP p 1 (p*p-q1 / q3)) b11 m11 k11 c11 n11 l11 s11) (w:World) (hE:Env w) :
  Calls Tryz.prog 31 #[.agg #[.bool b1,.string m1,.bool false,.string k1,.bool b2,.string m2,.bool false,.string k2,.bool false,.string m3,.bool false,.string k3]] w (RetLs w #[.bool b10,.string m10,.bool false,.string k10,.bool c10,.string n10,.bool false,.string l10,.bool s10,.bool b11,.string m11,.bool false,.string k11,.bool c11,.string n11,.bool false,.string l11,.bool s11] 27 2):=by
 have hn:=h3.ne h30
 obtain ⟨u1,u2⟩:=str_ne hn
 have u3:=empty_no (size_pos hn)
 have h3n:q3.num≠0:=fun e=>h30 (Rat.num_eq_zero.1 e)
 obtain ⟨b4,m4,k4,h4⟩:=Rq.some_ (-q2)
 obtain ⟨b5,m5,k5,h5⟩:=Rq.some_ (2*q3)
 obtain ⟨b6,m6,k6,h6⟩:=Rq.some_ p
 obtain ⟨b7,m7,k7,h7⟩:=Rq.some_ (q1 / q3)
 obtain ⟨b8,m8,k8,h8⟩:=Rq.some_ (p*p)
 obtain ⟨b9,m9,k9,h9⟩:=Rq.some_ (p*p-q1 / q3)
 have e2:Rq 2 false ⟨#[2]⟩ ⟨#[]⟩:=⟨by rw [←mag_2];exact enc_mag 2,by rw [show (2:Rat).den=1 from rfl];exact dm_one.symm⟩
 have z2:Sz 1 2:=⟨by decide,by decide⟩
 have z5:=z2.mul z3q
 have h50:(2*q3).num≠0:=fun e=>by have:=Rat.num_eq_zero.1 e;grind
 have z4:Sz 100 (-q2):=z2q.minus
 have z6:Sz 202 p:=by rw [hp];exact z4.by_ z5
 have z7:Sz 201 (q1 / q3):=z1q.by_ z3q
 have z8:=z6.mul z6
 have z9:Sz 606 (p*p-q1 / q3):=z8.sub z7
 have C8:=Lib.hid (fun V (_:Below w.heap.size w V)=>sign_z h9 V)
 rw [Sg.sgq_pos hpos] at C8
 have C1:=kn w (ratNeg_f h2 h4)
 have C2:=kn w (rFromInt_f (x:=2) e2.num (by omega) (by omega))
 have C3:=ke hE (mul_z e2 h3 h5 (z2.up (by omega)) (z3q.up (by omega)))
 have C4:=ke hE (ratio_f h4 h5 (by rw [←hp];exact h6) h50 (z4.up (by omega)) (z5.up (by omega)))
 have C5:=ke hE (ratio_f h1 h3 h7 h3n (z1q.up (by omega)) (z3q.up (by omega)))
 have C6:=ke hE (mul_z h6 h6 h8 (z6.up (by omega)) (z6.up (by omega)))
 have C7:=ke hE (sub_z h8 h7 h9 (z8.up (by omega)) (z7.up (by omega)))
 have C9:=ke hE (sum_f h6 h9 (z6.up (by omega)) (z9.up (by omega)) (-1) h10)
 have C10:=ke hE (sum_f h6 h9 (z6.up (by omega)) (z9.up (by omega)) 1 h11)
 have U1:Hid (∀ {p:Prop} (h:p:=by ((fail_if_success (go_not_at_region 8));(fail_if_success (have:=hLL));obtain ⟨LL,hLL⟩:=lexi X.out;go_cut [5] (fun s0 wx=>∃ g0,s0=.pointer (some ⟨g0,0,none⟩)∧Sb w (LL++[(g0,#[.bool b6,.string m6,.bool false,.string k6],25)]) [] wx);all_goals exact wkc)),p):=@fun _ h=>h
 have U2:Hid (∀ {p:Prop} (h:p:=by ((fail_if_success (go_not_at_region 10));(fail_if_success (have:=hLL));obtain ⟨LL,hLL⟩:=lexi X.out;go_cut [7] (fun s0 wx=>∃ g0,s0=.pointer (some ⟨g0,0,none⟩)∧Sb w (LL++[(g0,#[.bool b9,.string m9,.bool false,.string k9],25)]) [] wx);all_goals exact wkc)),p):=@fun _ h=>h
 have E1:Hid (∀ {p:Prop} (h:p:=by exact bodyPost_ret (v:=.tuple #[.slice (some ⟨_,0,none⟩) 2 2,.int .i64 0]) (by simp [results,Tryz.results31,go_sem]<;>rfl) rfl ⟨_,rfl,X.out.last.1,X.out.last.2,X.out.bel⟩),p):=@fun _ h=>h
 clear h1 h2 h3 h30 z1q z2q z3q hp hpos h10 h11 hn h3n h4 h5 h6 h7 h8 h9 e2 z2 z5 h50 z4 z6 z7 z8 z9 hE
 go_enter Tryz.func31,Tryz.ntmps31
 go_upto_region 1 with fail
 refine gs1 (M:=fun W=>Code.wp _ _ _ _ W) (fun V X0=>?_)
 have X:=Lib.hid X0
 clear X0
 have F:=X.out.facts
 simp only [Facts,cellsAt,List.take_succ_cons,List.take_zero,Nat.reduceAdd,and_true,List.set_cons_succ,List.set_cons_zero,List.cons_append,List.nil_append] at F
 go_upto_region 2 with fail
 refine an X.out (fun V X0=>?_)
 replace X:=Lib.hid X0
 clear X0
 replace F:=X.out.facts
 simp only [Facts,cellsAt,List.take_succ_cons,List.take_zero,Nat.reduceAdd,and_true,List.set_cons_succ,List.set_cons_zero,List.cons_append,List.nil_append] at F
 obtain ⟨LL,hLL⟩:=lexi X.out
 go_cut [9] (fun s9 wx=>s9=.bool false∧Sb w LL [] wx)
 case first =>
  go_wp2_with fail
  all_goals (go_meet;subst hLL;exact ⟨rfl,X.out⟩)
 obtain ⟨rfl,hX⟩:=hcut
 subst hLL
 replace X:=Lib.hid hX
 clear hX
 replace F:=X.out.facts
 simp only [Facts,cellsAt,List.take_succ_cons,List.take_zero,Nat.reduceAdd,and_true,List.set_cons_succ,List.set_cons_zero,List.cons_append,List.nil_append] at F
 exact wk
end Go.Proofs.YtpnokfgplnmjpaaGreatDoor


namespace Go.Proofs.YtpnokfgplnmjpaaGreatDoor
open Go.RowKit
attribute [local go_sem ↓] Go.wp_at_zero Go.wp_at_succ

set_option maxHeartbeats 8000000 in
set_option maxRecDepth 100000 in
theorem cmp_same {p q:Rat} {b1 b2 c1 s1:Bool} {m1 k1 m2 k2 n1 l1:ByteArray} (hp:Rq p b1 m1 k1) (hq:Rq q b2 m2 k2) (zp:Sz 1500 p) (zq:Sz 1500 q) (w:World) (hE:Env w) :
  Calls Tryz.prog 34 #[.agg #[.bool b1,.string m1,.bool false,.string k1,.bool c1,.string n1,.bool false,.string l1,.bool s1],.agg #[.bool b2,.string m2,.bool false,.string k2,.bool c1,.string n1,.bool false,.string l1,.bool s1]] w (RetB w (.int .i64 (Sg.sgq (p-q)))):=by
 have C1:=ke hE (cmp_z hp hq (zp.up (by omega)) (zq.up (by omega)))
 clear hp hq zp zq hE
 go_enter Tryz.func34,Tryz.ntmps34
 exact wk0

set_option maxHeartbeats 8000000 in
set_option maxRecDepth 100000 in
theorem cmp_yrat {x y:Sg.Rl} {b1 b2 s1:Bool} {m1 k1 m2 k2 n1 l1:ByteArray} (hx:Rv x b1 m1 k1 false n1 l1 s1) (hy:Rv y b2 m2 k2 false ⟨#[]⟩ ⟨#[]⟩ false) (ok:x.Ok) (h0:x.a≠0) (zx:Rz 1500 x) (zy:Rz 1500 y) (w:World) (hE:Env w) :
  Calls Tryz.prog 34 #[.agg #[.bool b1,.string m1,.bool false,.string k1,.bool false,.string n1,.bool false,.string l1,.bool s1],.agg #[.bool b2,.string m2,.bool false,.string k2,.bool false,.string ⟨#[]⟩,.bool false,.string ⟨#[]⟩,.bool false]] w (RetB w (.int .i64 (Sg.cmpX x (Sg.Rl.of y.p)))):=by
 have hn:=hx.r.ne h0
 obtain ⟨h1,h2⟩:=str_ne hn
 have h3:=empty_no (size_pos hn)
 clear hn
 have C1:=kn w (isRat_yes b2 false m2 k2)
 have C2:=ke hE (crat_f hx ok hy.p zx zy.p)
 clear hx hy ok h0 zx zy hE
 go_enter Tryz.func34,Tryz.ntmps34
 exact wk0

set_option maxHeartbeats 8000000 in
set_option maxRecDepth 100000 in
theorem cmp_xrat {x y:Sg.Rl} {b1 b2 s2:Bool} {m1 k1 m2 k2 n2 l2:ByteArray} (hx:Rv x b1 m1 k1 false ⟨#[]⟩ ⟨#[]⟩ false) (hy:Rv y b2 m2 k2 false n2 l2 s2) (ok:y.Ok) (h0:y.a≠0) (zx:Rz 1500 x) (zy:Rz 1500 y) (w:World) (hE:Env w) :
  Calls Tryz.prog 34 #[.agg #[.bool b1,.string m1,.bool false,.string k1,.bool false,.string ⟨#[]⟩,.bool false,.string ⟨#[]⟩,.bool false],.agg #[.bool b2,.string m2,.bool false,.string k2,.bool false,.string n2,.bool false,.string l2,.bool s2]] w (RetB w (.int .i64 (-(Sg.cmpX y (Sg.Rl.of x.p))))):=by
 have hn:=hy.r.ne h0
 obtain ⟨h1,h2⟩:=str_ne hn.symm
 have h3:=empty_no (size_pos hn)
 have hw:=(wrap_pm (Sg.cmp_three ok (Sg.of_ok x.p))).2
 clear hn
 have C1:=kn w (isRat_no hy h0)
 have C2:=kn w (isRat_yes b1 false m1 k1)
 have C3:=ke hE (crat_f hy ok hx.p zy zx.p)
 clear hx hy ok h0 zx zy hE
 go_enter Tryz.func34,Tryz.ntmps34
 exact wk0

set_option maxHeartbeats 8000000 in
set_option maxRecDepth 100000 in
theorem cmp_irr {x y:Sg.Rl} {b1 b2 s1 s2:Bool} {m1 k1 n1 l1 m2 k2 n2 l2:ByteArray} (hx:Rv x b1 m1 k1 false n1 l1 s1) (hy:Rv y b2 m2 k2 false n2 l2 s2) (okx:x.Ok) (oky:y.Ok) (hx0:x.a≠0) (hy0:y.a≠0) (zx:Rz 500 x) (zy:Rz 500 y) (hdf:n1≠n2∨(n1=n2∧l1≠l2)∨(n1=n2∧l1=l2∧s1=!s2)) (w:World) (hE:Env w) :
  Calls Tryz.prog 34 #[.agg #[.bool b1,.string m1,.bool false,.string k1,.bool false,.string n1,.bool false,.string l1,.bool s1],.agg #[.bool b2,.string m2,.bool false,.string k2,.bool false,.string n2,.bool false,.string l2,.bool s2]] w (RetB w (.int .i64 (Sg.cmpP (x.p-y.p) x.s x.a y.s y.a))):=by
 obtain ⟨b3,m3,k3,h3⟩:=Rq.some_ (x.p-y.p)
 have zd:Sz 1001 (x.p-y.p):=zx.p.sub zy.p
 obtain ⟨d,hd⟩:∃ d,d=x.p-y.p:=⟨_,rfl⟩
 rw [←hd] at h3 zd ⊢
 obtain ⟨b4,m4,k4,h4⟩:=Rq.some_ (d*d)
 obtain ⟨b5,m5,k5,h5⟩:=Rq.some_ (d*d+x.a)
 obtain ⟨b6,m6,k6,h6⟩:=Rq.some_ (d*d+x.a-y.a)
 obtain ⟨b7,m7,k7,h7⟩:=Rq.some_ (2*d)
 obtain ⟨b8,m8,k8,h8⟩:=Rq.some_ (2*d*(2*d))
 obtain ⟨b9,m9,k9,h9⟩:=Rq.some_ (2*d*(2*d)*x.a)
 have z4:Sz 2002 (d*d):=zd.mul zd
 have z5:Sz 2503 (d*d+x.a):=z4.add zx.r
 have z6:Sz 3004 (d*d+x.a-y.a):=z5.sub zy.r
 have e2:Rq 2 false ⟨#[2]⟩ ⟨#[]⟩:=⟨by rw [←mag_2];exact enc_mag 2,by rw [show (2:Rat).den=1 from rfl];exact dm_one.symm⟩
 have z2:Sz 1 2:=⟨by decide,by decide⟩
 have z7:Sz 1002 (2*d):=z2.mul zd
 have z8:Sz 2004 (2*d*(2*d)):=z7.mul z7
 have z9:Sz 2504 (2*d*(2*d)*x.a):=z8.mul zx.r
 have sx:=okx.sg
 have sy:=oky.sg
 have hc:=sos_abs d sx x.a
 have hw1:=wrap_ts sy (sgq_abs (d*d+x.a-y.a))
 have hw2:=wrap_st sx (sgq_abs (2*d))
 have HP:∀ e,Sg.cmpP d x.s x.a y.s y.a=e↔Sg.cmpP d x.s x.a y.s y.a=e:=fun _=>Iff.rfl
 unfold Sg.cmpP at HP ⊢
 obtain ⟨o,ho⟩:∃ o,o=(if Sg.sos d x.s x.a≠y.s then Sg.sos d x.s x.a else if Sg.sgq (2*d)=0 then y.s*Sg.sgq (d*d+x.a-y.a) else y.s*Sg.sos (d*d+x.a-y.a) (Sg.sgq (2*d)*x.s) (2*d*(2*d)*x.a)):=⟨_,rfl⟩
 rw [←ho]
 clear HP
 have P1:=Lib.hid (show (Sg.sos d x.s x.a != y.s)=true→o=Sg.sos d x.s x.a from fun h=>by rw [ho,if_pos (by simpa using h)])
 have P2:=Lib.hid (show (Sg.sos d x.s x.a != y.s)=false→(Sg.sgq (2*d)==0)=true→o=y.s*Sg.sgq (d*d+x.a-y.a) from fun h e=>by rw [ho,if_neg (by simpa using h),if_pos (by simpa using e)])
 have P3:=Lib.hid (show (Sg.sos d x.s x.a != y.s)=false→(Sg.sgq (2*d)==0)=false→o=y.s*Sg.sos (d*d+x.a-y.a) (Sg.sgq (2*d)*x.s) (2*d*(2*d)*x.a) from fun h e=>by rw [ho,if_neg (by simpa using h),if_neg (by simpa using e)])
 clear ho
 have C3:=Lib.hid (fun V (hb:Below w.heap.size w V)=>sub_z hx.p hy.p (by rw [←hd];exact h3) (zx.p.up (by omega)) (zy.p.up (by omega)) V (hE.next hb))
 have C6:=Lib.hid (fun V (hb:Below w.heap.size w V)=>sos_f h3 hx.r (zd.up (by omega)) (zx.r.up (by omega)) sx V (hE.next hb))
 have HD:=Lib.hid hdf
 have hc1:Sg.sos (d*d+x.a-y.a) (Sg.sgq (2*d)*x.s) (2*d*(2*d)*x.a)=-1∨Sg.sos (d*d+x.a-y.a) (Sg.sgq (2*d)*x.s) (2*d*(2*d)*x.a)=0∨Sg.sos (d*d+x.a-y.a) (Sg.sgq (2*d)*x.s) (2*d*(2*d)*x.a)=1:=by
  rcases sgq_abs (2*d) with e | e | e
  · exact sos_abs _ (by rw [e];omega) _
  · right;left;rw [e];unfold Sg.sos;split<;>simp
  · exact sos_abs _ (by rw [e];omega) _
 have hw3:=wrap_ts sy hc1
 have C16:=Lib.hid (show ∀ V,Below w.heap.size w V→(Sg.sgq (2*d)==0)=false→Calls Tryz.prog 87 #[.agg #[.bool b6,.string m6,.bool false,.string k6],.int .i64 (Sg.sgq (2*d)*x.s),.agg #[.bool b9,.string m9,.bool false,.string k9]] V (RetB V (.int .i64 (Sg.sos (d*d+x.a-y.a) (Sg.sgq (2*d)*x.s) (2*d*(2*d)*x.a)))) from fun V hb h=>sos_f h6 h9 (z6.up (by omega)) (z9.up (by omega)) (by
  rcases sgq_abs (2*d) with e | e | e
  · rw [e];omega
  · rw [e] at h;simp at h
  · rw [e];omega) V (hE.next hb))
 clear hc1
 have C12:=Lib.hid (fun V (hb:Below w.heap.size w V)=>sign_z h7 V)
 have C13:=Lib.hid (fun V (hb:Below w.heap.size w V)=>sign_z h6 V)
 generalize Sg.sos (d*d+x.a-y.a) (Sg.sgq (2*d)*x.s) (2*d*(2*d)*x.a)=c1 at *
 generalize Sg.sgq (d*d+x.a-y.a)=c0 at *
 generalize Sg.sgq (2*d)=v at *
 generalize Sg.sos d x.s x.a=u at *
 have C1:=kn w (isRat_no hx hx0)
 have C2:=kn w (isRat_no hy hy0)
 have C4:=kn w (rootSign_f hx sx)
 have C5:=kn w (rootSign_f hy sy)
 have C7:=ke hE (mul_z h3 h3 h4 (zd.up (by omega)) (zd.up (by omega)))
 have C8:=ke hE (add_z h4 hx.r h5 (z4.up (by omega)) (zx.r.up (by omega)))
 have C9:=ke hE (sub_z h5 hy.r h6 (z5.up (by omega)) (zy.r.up (by omega)))
 have C10:=kn w (rFromInt_f (x:=2) e2.num (by omega) (by omega))
 have C11:=ke hE (mul_z e2 h3 h7 (z2.up (by omega)) (zd.up (by omega)))
 have C14:=ke hE (mul_z h7 h7 h8 (z7.up (by omega)) (z7.up (by omega)))
 have C15:=ke hE (mul_z h8 hx.r h9 (z8.up (by omega)) (zx.r.up (by omega)))
 have U1:Hid (∀ {p:Prop} (h:p:=by ((fail_if_success (go_not_at_region 11));(fail_if_success (have:=hLL));obtain ⟨LL,hLL⟩:=lexi X.out;go_cut [8] (fun s0 wx=>∃ g0,s0=.pointer (some ⟨g0,0,none⟩)∧Sb w (LL++[(g0,#[.bool b6,.string m6,.bool false,.string k6],25)]) [] wx);all_goals exact wkc)),p):=@fun _ h=>h
 have U2:Hid (∀ {p:Prop} (h:p:=by ((fail_if_success (go_not_at_region 12));(fail_if_success (have:=hLL));obtain ⟨LL,hLL⟩:=lexi X.out;go_cut [9] (fun s0 wx=>∃ g0,s0=.pointer (some ⟨g0,0,none⟩)∧Sb w (LL++[(g0,#[.bool b7,.string m7,.bool false,.string k7],25)]) [] wx);all_goals exact wkc)),p):=@fun _ h=>h
 have U3:Hid (∀ {p:Prop} (h:p:=by ((fail_if_success (go_not_at_region 15));(fail_if_success (have:=hLL));obtain ⟨LL,hLL⟩:=lexi X.out;go_cut [10] (fun s0 wx=>∃ g0,s0=.pointer (some ⟨g0,0,none⟩)∧Sb w (LL++[(g0,#[.bool b9,.string m9,.bool false,.string k9],25)]) [] wx);all_goals exact wkc)),p):=@fun _ h=>h
 clear hx hy okx oky hx0 hy0 zx zy h3 h4 h5 h6 h7 h8 h9 zd z2 z4 z5 z6 z7 z8 z9 e2 hd hdf hE
 go_enter Tryz.func34,Tryz.ntmps34
 go_upto_region 1 with fail
 refine gs2 (M:=fun W=>Code.wp _ _ _ _ W) (fun V X0=>?_)
 have X:=Lib.hid X0
 clear X0
 have F:=X.out.facts
 simp only [Facts,cellsAt,List.take_succ_cons,List.take_zero,Nat.reduceAdd,and_true,List.set_cons_succ,List.set_cons_zero,List.cons_append,List.nil_append] at F
 go_cut [11] (fun s11 wx=>s11=.bool false∧Sb w [(w.heap.size,#[.bool b1,.string m1,.bool false,.string k1,.bool false,.string n1,.bool false,.string l1,.bool s1],27),(w.heap.size+1,#[.bool b2,.string m2,.bool false,.string k2,.bool false,.string n2,.bool false,.string l2,.bool s2],27)] [] wx)
 case first =>
  rcases HD.out with hn | ⟨rfl,hn⟩ | ⟨rfl,rfl,hs⟩
  · obtain ⟨h1,h2⟩:=str_ne hn
    clear HD
    go_wp2_with fail
    go_meet
    exact ⟨rfl,X.out⟩
  · obtain ⟨h1,h2⟩:=str_ne hn
    clear HD
    go_wp2_with fail
    go_meet
    exact ⟨rfl,X.out⟩
  · clear HD
    cases s2<;>(obtain rfl:=hs) <;>
     (go_wp2_with fail
      go_meet
      exact ⟨rfl,X.out⟩)
 obtain ⟨rfl,hX⟩:=hcut
 replace X:=Lib.hid hX
 clear hX HD
 replace F:=X.out.facts
 simp only [Facts,cellsAt,List.take_succ_cons,List.take_zero,Nat.reduceAdd,and_true,List.set_cons_succ,List.set_cons_zero,List.cons_append,List.nil_append] at F
 exact wk
end Go.Proofs.YtpnokfgplnmjpaaGreatDoor


namespace Go.Proofs.YtpnokfgplnmjpaaGreatDoor
open Go.RowKit
attribute [local go_sem ↓] Go.wp_at_zero Go.wp_at_succ
attribute [local go_sem] undef yielded

set_option maxHeartbeats 1000000 in
set_option maxRecDepth 100000 in
theorem isInteger_neg (b:Bool) (m k:ByteArray) (w:World):Calls Tryz.prog 125 #[.agg #[.bool b,.string m,.bool true,.string k]] w (RetB w (.bool false)):=by
 go_enter Tryz.func125,Tryz.ntmps125
 go_wp2
 go_ret
 exact ⟨rfl,below_new _ _⟩

theorem rq_cases (b:Bool) (m:ByteArray) (c:Bool) (k:ByteArray) :
  (c=false∧∃ q,Rq q b m k)∨canonB b m=false∨(canonB b m=true∧canonB c k=false)∨(canonB b m=true∧canonB c k=true∧c=true)∨(canonB b m=true∧canonB c k=true∧c=false∧k=⟨#[1]⟩) ∨
  (∃ (x:Int) (d:Nat),enc x=.agg #[.bool b,.string m]∧c=false∧k=mag d∧2≤d∧Nat.gcd x.natAbs d≠1):=by
 cases h1:canonB b m
 · exact .inr (.inl rfl)
 cases h2:canonB c k
 · exact .inr (.inr (.inl ⟨rfl,rfl⟩))
 obtain ⟨x,hx⟩:=canon_form h1
 obtain ⟨y,hy⟩:=canon_form h2
 cases c
 · obtain ⟨e1,e2⟩:=enc_parts hy
   have hy0:¬y<0:=of_decide_eq_false e1.symm
   obtain ⟨d,rfl⟩:∃ d:Nat,y=(d:Int):=⟨y.natAbs,by omega⟩
   rw [Int.natAbs_natCast] at e2
   rcases Nat.lt_or_ge d 2 with hd | hd
   · rcases Nat.lt_or_ge d 1 with hd1 | hd1
     · obtain rfl:d=0:=by omega
       exact .inl ⟨rfl,_,by rw [e2,mag_nil];exact rq_int hx⟩
     · obtain rfl:d=1:=by omega
       exact .inr (.inr (.inr (.inr (.inl ⟨rfl,rfl,rfl,by rw [e2,mag_one]⟩))))
   · by_cases hg:Nat.gcd x.natAbs d=1
     · obtain ⟨n1,d1⟩:=rat_of_coprime (n:=x) (d:=d) (by omega) hg
       exact .inl ⟨rfl,mkRat x d,by rw [n1];exact hx,by rw [d1,e2];unfold dm;rw [if_neg (by omega)]⟩
     · exact .inr (.inr (.inr (.inr (.inr ⟨x,d,hx,rfl,e2,hd,hg⟩))))
 · exact .inr (.inr (.inr (.inl ⟨rfl,rfl,rfl⟩)))

theorem checkV_of {b:Bool} {m:ByteArray} (h:canonB b m=true):checkV b m=0:=by unfold checkV;rw [h];rfl
theorem checkV_no {b:Bool} {m:ByteArray} (h:canonB b m=false):checkV b m=5:=by unfold checkV;rw [h];rfl

set_option maxHeartbeats 16000000 in
set_option maxRecDepth 100000 in
theorem ratCheck_no (b:Bool) (m:ByteArray) (c:Bool) (k:ByteArray) (s1:m.size≤100000) (s2:k.size≤100000) (hno:¬(c=false∧∃ q,Rq q b m k)) (w:World) (hE:Env w) :
  Calls Tryz.prog 69 #[.agg #[.bool b,.string m,.bool c,.string k]] w (RetB w (.int .i64 5)):=by
 have HC1:=Lib.hid (fun V=>check_any b m V)
 have HC2:=Lib.hid (fun V=>check_any c k V)
 have HE:=Lib.hid (fun V (h:Below w.heap.size w V)=>hE.next h)
 clear hE
 rcases rq_cases b m c k with h | h | ⟨h1,h2⟩ | ⟨h1,h2,h3⟩ | ⟨h1,h2,h3,h4⟩ | ⟨x,d,hx,h3,h4,h5,h6⟩
 · exact absurd h hno
 · rw [checkV_no h] at HC1
   clear h hno
   have X:=Lib.hid ((Sb.start w).new #[.bool b,.string m,.bool c,.string k] 25)
   have X:=Lib.hid (X.out.pick [0] [(w.heap.size,#[.bool b,.string m,.bool c,.string k],25)] [] (by simp) (by decide) (by simp))
   obtain ⟨a0,a1,a2,a3⟩:=X.out.c4 (i:=0) rfl
   go_enter Tryz.func69,Tryz.ntmps69
   go_wp2_with fail
   refine (HC1.out _).mono ?_
   rintro e w1 ⟨rfl,hb9⟩
   have X:=Lib.hid (X.out.next hb9)
   clear hb9
   clear a0 a1 a2 a3
   go_wp2
   go_ret
   exact ⟨rfl,X.out.bel⟩
 · rw [checkV_of h1] at HC1
   rw [checkV_no h2] at HC2
   clear h1 h2 hno
   have X:=Lib.hid ((Sb.start w).new #[.bool b,.string m,.bool c,.string k] 25)
   have X:=Lib.hid (X.out.pick [0] [(w.heap.size,#[.bool b,.string m,.bool c,.string k],25)] [] (by simp) (by decide) (by simp))
   obtain ⟨a0,a1,a2,a3⟩:=X.out.c4 (i:=0) rfl
   go_enter Tryz.func69,Tryz.ntmps69
   go_wp2_with fail
   refine (HC1.out _).mono ?_
   rintro e w1 ⟨rfl,hb9⟩
   have X:=Lib.hid (X.out.next hb9)
   clear hb9
   clear a0 a1 a2 a3
   obtain ⟨a0,a1,a2,a3⟩:=X.out.c4 (i:=0) rfl
   go_wp2_with fail
   refine (HC2.out _).mono ?_
   rintro e w2 ⟨rfl,hb9⟩
   have X:=Lib.hid (X.out.next hb9)
   clear hb9
   clear a0 a1 a2 a3
   go_wp2
   go_ret
   exact ⟨rfl,X.out.bel⟩
 · rw [checkV_of h1] at HC1
   rw [checkV_of h2] at HC2
   clear h1 h2 hno
   subst h3
   have HI:=Lib.hid (fun V=>isInteger_neg b m k V)
   have X:=Lib.hid ((Sb.start w).new #[.bool b,.string m,.bool true,.string k] 25)
   have X:=Lib.hid (X.out.pick [0] [(w.heap.size,#[.bool b,.string m,.bool true,.string k],25)] [] (by simp) (by decide) (by simp))
   obtain ⟨a0,a1,a2,a3⟩:=X.out.c4 (i:=0) rfl
   go_enter Tryz.func69,Tryz.ntmps69
   go_wp2_with fail
   refine (HC1.out _).mono ?_
   rintro e w1 ⟨rfl,hb9⟩
   have X:=Lib.hid (X.out.next hb9)
   clear hb9
   clear a0 a1 a2 a3
   obtain ⟨a0,a1,a2,a3⟩:=X.out.c4 (i:=0) rfl
   go_wp2_with fail
   refine (HC2.out _).mono ?_
   rintro e w2 ⟨rfl,hb9⟩
   have X:=Lib.hid (X.out.next hb9)
   clear hb9
   clear a0 a1 a2 a3
   obtain ⟨a0,a1,a2,a3⟩:=X.out.c4 (i:=0) rfl
   go_wp2_with fail
   refine (HI.out _).mono ?_
   rintro e w3 ⟨rfl,hb9⟩
   have X:=Lib.hid (X.out.next hb9)
   clear hb9
   clear a0 a1 a2 a3
   go_upto_region 5 with fail
   refine wp_region_late (S:=fun w'=>(w'.cell? ⟨w.heap.size,0,none⟩=some (.bool b)∧w'.cell? ⟨w.heap.size,1,none⟩=some (.string m)∧w'.cell? ⟨w.heap.size,2,none⟩=some (.bool true)∧w'.cell? ⟨w.heap.size,3,none⟩=some (.string k))∧(w'.cell? ⟨0,0,none⟩=some (.bool false)∧w'.cell? ⟨0,1,none⟩=some (.string ⟨#[1]⟩))) (L:=[]) (by kernel_rfl) ?_
   have X:=Lib.hid X.out.drew
   obtain ⟨V0,hV⟩:=wexi X.out
   rw [←hV] at X ⊢
   clear hV
   refine tk (i:=0) (oi:=⟨some 18,_,_,_,_,_⟩) (v:=_) rfl (by kernel_rfl) (fun _ _ _ h=>h) (⟨X.out.c4 (i:=0) rfl,⟨(HE.out _ X.out.bel).o0,(HE.out _ X.out.bel).o1⟩⟩) (Or.inl ⟨by rfl,by intro w hSw;(try dsimp only at hSw);(first | (go_simp;done) | (go_simp;with_reducible rfl))⟩) ?_
   try simp only [Act.put,seti,set0,setS]
   refine tk (i:=1) (oi:=⟨some 19,_,_,_,_,_⟩) (v:=_) rfl (by kernel_rfl) (fun _ _ _ h=>h) (⟨X.out.c4 (i:=0) rfl,⟨(HE.out _ X.out.bel).o0,(HE.out _ X.out.bel).o1⟩⟩) (Or.inl ⟨by rfl,by intro w hSw;(try dsimp only at hSw);(first | (go_simp;done) | (go_simp;with_reducible rfl))⟩) ?_
   try simp only [Act.put,seti,set0,setS]
   refine tk (i:=2) (oi:=⟨some 20,_,_,_,_,_⟩) (v:=_) rfl (by kernel_rfl) (fun _ _ _ h=>h) (⟨X.out.c4 (i:=0) rfl,⟨(HE.out _ X.out.bel).o0,(HE.out _ X.out.bel).o1⟩⟩) (Or.inl ⟨by rfl,by intro w hSw;(try dsimp only at hSw);(first | (go_simp;done) | (go_simp;with_reducible rfl))⟩) ?_
   try simp only [Act.put,seti,set0,setS]
   refine tk (i:=3) (oi:=⟨some 21,_,_,_,_,_⟩) (v:=_) rfl (by kernel_rfl) (fun _ _ _ h=>h) (⟨X.out.c4 (i:=0) rfl,⟨(HE.out _ X.out.bel).o0,(HE.out _ X.out.bel).o1⟩⟩) (Or.inl ⟨by rfl,by intro w hSw;(try dsimp only at hSw);(first | (go_simp;done) | (go_simp;with_reducible rfl))⟩) ?_
   try simp only [Act.put,seti,set0,setS]
   refine tk (i:=4) (oi:=⟨some 22,_,_,_,_,_⟩) (v:=undef) rfl (by kernel_rfl) (fun _ _ _ h=>h) (⟨X.out.c4 (i:=0) rfl,⟨(HE.out _ X.out.bel).o0,(HE.out _ X.out.bel).o1⟩⟩) (Or.inr ⟨by rfl,rfl⟩) ?_
   try simp only [Act.put,seti,set0,setS]
   refine tk (i:=5) (oi:=⟨some 23,_,_,_,_,_⟩) (v:=undef) rfl (by kernel_rfl) (fun _ _ _ h=>h) (⟨X.out.c4 (i:=0) rfl,⟨(HE.out _ X.out.bel).o0,(HE.out _ X.out.bel).o1⟩⟩) (Or.inr ⟨by rfl,rfl⟩) ?_
   try simp only [Act.put,seti,set0,setS]
   refine tk (i:=6) (oi:=⟨some 24,_,_,_,_,_⟩) (v:=undef) rfl (by kernel_rfl) (fun _ _ _ h=>h) (⟨X.out.c4 (i:=0) rfl,⟨(HE.out _ X.out.bel).o0,(HE.out _ X.out.bel).o1⟩⟩) (Or.inr ⟨by rfl,rfl⟩) ?_
   try simp only [Act.put,seti,set0,setS]
   refine tk (i:=7) (oi:=⟨some 25,_,_,_,_,_⟩) (v:=undef) rfl (by kernel_rfl) (fun _ _ _ h=>h) (⟨X.out.c4 (i:=0) rfl,⟨(HE.out _ X.out.bel).o0,(HE.out _ X.out.bel).o1⟩⟩) (Or.inr ⟨by rfl,rfl⟩) ?_
   try simp only [Act.put,seti,set0,setS]
   refine tk (i:=8) (oi:=⟨some 26,_,_,_,_,_⟩) (v:=_) rfl (by kernel_rfl) (fun _ _ _ h=>h) (⟨X.out.c4 (i:=0) rfl,⟨(HE.out _ X.out.bel).o0,(HE.out _ X.out.bel).o1⟩⟩) (Or.inl ⟨by rfl,by intro w hSw;(try dsimp only at hSw);(first | (go_simp;done) | (go_simp;with_reducible rfl))⟩) ?_
   try simp only [Act.put,seti,set0,setS]
   refine tk (i:=9) (oi:=⟨some 27,_,_,_,_,_⟩) (v:=_) rfl (by kernel_rfl) (fun _ _ _ h=>h) (⟨X.out.c4 (i:=0) rfl,⟨(HE.out _ X.out.bel).o0,(HE.out _ X.out.bel).o1⟩⟩) (Or.inl ⟨by rfl,by intro w hSw;(try dsimp only at hSw);(first | (go_simp;done) | (go_simp;with_reducible rfl))⟩) ?_
   try simp only [Act.put,seti,set0,setS]
   refine tk (i:=10) (oi:=⟨some 28,_,_,_,_,_⟩) (v:=undef) rfl (by kernel_rfl) (fun _ _ _ h=>h) (⟨X.out.c4 (i:=0) rfl,⟨(HE.out _ X.out.bel).o0,(HE.out _ X.out.bel).o1⟩⟩) (Or.inr ⟨by rfl,rfl⟩) ?_
   try simp only [Act.put,seti,set0,setS]
   refine tk (i:=11) (oi:=⟨some 29,_,_,_,_,_⟩) (v:=undef) rfl (by kernel_rfl) (fun _ _ _ h=>h) (⟨X.out.c4 (i:=0) rfl,⟨(HE.out _ X.out.bel).o0,(HE.out _ X.out.bel).o1⟩⟩) (Or.inr ⟨by rfl,rfl⟩) ?_
   try simp only [Act.put,seti,set0,setS]
   refine tk (i:=12) (oi:=⟨some 30,_,_,_,_,_⟩) (v:=undef) rfl (by kernel_rfl) (fun _ _ _ h=>h) (⟨X.out.c4 (i:=0) rfl,⟨(HE.out _ X.out.bel).o0,(HE.out _ X.out.bel).o1⟩⟩) (Or.inr ⟨by rfl,rfl⟩) ?_
   try simp only [Act.put,seti,set0,setS]
   refine tk (i:=13) (oi:=⟨some 31,_,_,_,_,_⟩) (v:=undef) rfl (by kernel_rfl) (fun _ _ _ h=>h) (⟨X.out.c4 (i:=0) rfl,⟨(HE.out _ X.out.bel).o0,(HE.out _ X.out.bel).o1⟩⟩) (Or.inr ⟨by rfl,rfl⟩) ?_
   try simp only [Act.put,seti,set0,setS]
   refine tk (i:=14) (oi:=⟨some 32,_,_,_,_,_⟩) (v:=undef) rfl (by kernel_rfl) (fun _ _ _ h=>h) (⟨X.out.c4 (i:=0) rfl,⟨(HE.out _ X.out.bel).o0,(HE.out _ X.out.bel).o1⟩⟩) (Or.inr ⟨by rfl,rfl⟩) ?_
   try simp only [Act.put,seti,set0,setS]
   refine tk (i:=15) (oi:=⟨some 33,_,_,_,_,_⟩) (v:=undef) rfl (by kernel_rfl) (fun _ _ _ h=>h) (⟨X.out.c4 (i:=0) rfl,⟨(HE.out _ X.out.bel).o0,(HE.out _ X.out.bel).o1⟩⟩) (Or.inr ⟨by rfl,rfl⟩) ?_
   try simp only [Act.put,seti,set0,setS]
   refine tk (i:=16) (oi:=⟨some 34,_,_,_,_,_⟩) (v:=undef) rfl (by kernel_rfl) (fun _ _ _ h=>h) (⟨X.out.c4 (i:=0) rfl,⟨(HE.out _ X.out.bel).o0,(HE.out _ X.out.bel).o1⟩⟩) (Or.inr ⟨by rfl,rfl⟩) ?_
   try simp only [Act.put,seti,set0,setS]
   refine tk (i:=17) (oi:=⟨some 35,_,_,_,_,_⟩) (v:=_) rfl (by kernel_rfl) (fun _ _ _ h=>h) (⟨X.out.c4 (i:=0) rfl,⟨(HE.out _ X.out.bel).o0,(HE.out _ X.out.bel).o1⟩⟩) (Or.inl ⟨by rfl,by intro w hSw;(try dsimp only at hSw);(first | (go_simp;done) | (go_simp;with_reducible rfl))⟩) ?_
   try simp only [Act.put,seti,set0,setS]
   refine tk (i:=18) (oi:=⟨some 17,_,_,_,_,_⟩) (v:=_) rfl (by kernel_rfl) (fun _ _ _ h=>h) (⟨X.out.c4 (i:=0) rfl,⟨(HE.out _ X.out.bel).o0,(HE.out _ X.out.bel).o1⟩⟩) (Or.inl ⟨by rfl,by intro w hSw;(try dsimp only at hSw);(first | (go_simp;done) | (go_simp;with_reducible rfl))⟩) ?_
   try simp only [Act.put,seti,set0,setS]
   refine wpLate_done (by kernel_rfl) ?_ _
   go_wp2
   go_ret
   exact ⟨rfl,X.out.bel⟩
 · rw [checkV_of h1] at HC1
   rw [checkV_of h2] at HC2
   subst h3
   have HI:=Lib.hid (fun V=>isInteger_no b m k (by rw [h4];exact fun h=>by cases h) V)
   have hl1:k.toList=[1]:=by rw [h4,ByteArray.toList_eq]
   clear h1 h2 hno h4
   have X:=Lib.hid ((Sb.start w).new #[.bool b,.string m,.bool false,.string k] 25)
   have X:=Lib.hid (X.out.pick [0] [(w.heap.size,#[.bool b,.string m,.bool false,.string k],25)] [] (by simp) (by decide) (by simp))
   obtain ⟨a0,a1,a2,a3⟩:=X.out.c4 (i:=0) rfl
   go_enter Tryz.func69,Tryz.ntmps69
   go_wp2_with fail
   refine (HC1.out _).mono ?_
   rintro e w1 ⟨rfl,hb9⟩
   have X:=Lib.hid (X.out.next hb9)
   clear hb9
   clear a0 a1 a2 a3
   obtain ⟨a0,a1,a2,a3⟩:=X.out.c4 (i:=0) rfl
   go_wp2_with fail
   refine (HC2.out _).mono ?_
   rintro e w2 ⟨rfl,hb9⟩
   have X:=Lib.hid (X.out.next hb9)
   clear hb9
   clear a0 a1 a2 a3
   obtain ⟨a0,a1,a2,a3⟩:=X.out.c4 (i:=0) rfl
   go_wp2_with fail
   refine (HI.out _).mono ?_
   rintro e w3 ⟨rfl,hb9⟩
   have X:=Lib.hid (X.out.next hb9)
   clear hb9
   clear a0 a1 a2 a3
   go_upto_region 5 with fail
   refine wp_region_late (S:=fun w'=>(w'.cell? ⟨w.heap.size,0,none⟩=some (.bool b)∧w'.cell? ⟨w.heap.size,1,none⟩=some (.string m)∧w'.cell? ⟨w.heap.size,2,none⟩=some (.bool false)∧w'.cell? ⟨w.heap.size,3,none⟩=some (.string k))∧(w'.cell? ⟨0,0,none⟩=some (.bool false)∧w'.cell? ⟨0,1,none⟩=some (.string ⟨#[1]⟩))) (L:=[]) (by kernel_rfl) ?_
   have X:=Lib.hid X.out.drew
   obtain ⟨V0,hV⟩:=wexi X.out
   rw [←hV] at X ⊢
   clear hV
   refine tk (i:=0) (oi:=⟨some 18,_,_,_,_,_⟩) (v:=_) rfl (by kernel_rfl) (fun _ _ _ h=>h) (⟨X.out.c4 (i:=0) rfl,⟨(HE.out _ X.out.bel).o0,(HE.out _ X.out.bel).o1⟩⟩) (Or.inl ⟨by rfl,by intro w hSw;(try dsimp only at hSw);(first | (go_simp;done) | (go_simp;with_reducible rfl))⟩) ?_
   try simp only [Act.put,seti,set0,setS]
   refine tk (i:=1) (oi:=⟨some 19,_,_,_,_,_⟩) (v:=_) rfl (by kernel_rfl) (fun _ _ _ h=>h) (⟨X.out.c4 (i:=0) rfl,⟨(HE.out _ X.out.bel).o0,(HE.out _ X.out.bel).o1⟩⟩) (Or.inl ⟨by rfl,by intro w hSw;(try dsimp only at hSw);(first | (go_simp;done) | (go_simp;with_reducible rfl))⟩) ?_
   try simp only [Act.put,seti,set0,setS]
   refine tk (i:=2) (oi:=⟨some 20,_,_,_,_,_⟩) (v:=_) rfl (by kernel_rfl) (fun _ _ _ h=>h) (⟨X.out.c4 (i:=0) rfl,⟨(HE.out _ X.out.bel).o0,(HE.out _ X.out.bel).o1⟩⟩) (Or.inl ⟨by rfl,by intro w hSw;(try dsimp only at hSw);(first | (go_simp;done) | (go_simp;with_reducible rfl))⟩) ?_
   try simp only [Act.put,seti,set0,setS]
   refine tk (i:=3) (oi:=⟨some 21,_,_,_,_,_⟩) (v:=_) rfl (by kernel_rfl) (fun _ _ _ h=>h) (⟨X.out.c4 (i:=0) rfl,⟨(HE.out _ X.out.bel).o0,(HE.out _ X.out.bel).o1⟩⟩) (Or.inl ⟨by rfl,by intro w hSw;(try dsimp only at hSw);(first | (go_simp;done) | (go_simp;with_reducible rfl))⟩) ?_
   try simp only [Act.put,seti,set0,setS]
   refine tk (i:=4) (oi:=⟨some 22,_,_,_,_,_⟩) (v:=_) rfl (by kernel_rfl) (fun _ _ _ h=>h) (⟨X.out.c4 (i:=0) rfl,⟨(HE.out _ X.out.bel).o0,(HE.out _ X.out.bel).o1⟩⟩) (Or.inl ⟨by rfl,by intro w hSw;(try dsimp only at hSw);(first | (go_simp;done) | (go_simp;with_reducible rfl))⟩) ?_
   try simp only [Act.put,seti,set0,setS]
   refine tk (i:=5) (oi:=⟨some 23,_,_,_,_,_⟩) (v:=_) rfl (by kernel_rfl) (fun _ _ _ h=>h) (⟨X.out.c4 (i:=0) rfl,⟨(HE.out _ X.out.bel).o0,(HE.out _ X.out.bel).o1⟩⟩) (Or.inl ⟨by rfl,by intro w hSw;(try dsimp only at hSw);(first | (go_simp;done) | (go_simp;with_reducible rfl))⟩) ?_
   try simp only [Act.put,seti,set0,setS]
   refine tk (i:=6) (oi:=⟨some 24,_,_,_,_,_⟩) (v:=_) rfl (by kernel_rfl) (fun _ _ _ h=>h) (⟨X.out.c4 (i:=0) rfl,⟨(HE.out _ X.out.bel).o0,(HE.out _ X.out.bel).o1⟩⟩) (Or.inl ⟨by rfl,by intro w hSw;(try dsimp only at hSw);(first | (go_simp;done) | (go_simp;with_reducible rfl))⟩) ?_
   try simp only [Act.put,seti,set0,setS]
   refine tk (i:=7) (oi:=⟨some 25,_,_,_,_,_⟩) (v:=_) rfl (by kernel_rfl) (fun _ _ _ h=>h) (⟨X.out.c4 (i:=0) rfl,⟨(HE.out _ X.out.bel).o0,(HE.out _ X.out.bel).o1⟩⟩) (Or.inl ⟨by rfl,by intro w hSw;(try dsimp only at hSw);(first | (go_simp;done) | (go_simp;with_reducible rfl))⟩) ?_
   try simp only [Act.put,seti,set0,setS]
   refine tk (i:=8) (oi:=⟨some 26,_,_,_,_,_⟩) (v:=_) rfl (by kernel_rfl) (fun _ _ _ h=>h) (⟨X.out.c4 (i:=0) rfl,⟨(HE.out _ X.out.bel).o0,(HE.out _ X.out.bel).o1⟩⟩) (Or.inl ⟨by rfl,by intro w hSw;(try dsimp only at hSw);(first | (go_simp;done) | (go_simp;with_reducible rfl))⟩) ?_
   try simp only [Act.put,seti,set0,setS]
   refine tk (i:=9) (oi:=⟨some 27,_,_,_,_,_⟩) (v:=_) rfl (by kernel_rfl) (fun _ _ _ h=>h) (⟨X.out.c4 (i:=0) rfl,⟨(HE.out _ X.out.bel).o0,(HE.out _ X.out.bel).o1⟩⟩) (Or.inl ⟨by rfl,by intro w hSw;(try dsimp only at hSw);(first | (go_simp;done) | (go_simp;with_reducible rfl))⟩) ?_
   try simp only [Act.put,seti,set0,setS]
   refine tk (i:=10) (oi:=⟨some 28,_,_,_,_,_⟩) (v:=undef) rfl (by kernel_rfl) (fun _ _ _ h=>h) (⟨X.out.c4 (i:=0) rfl,⟨(HE.out _ X.out.bel).o0,(HE.out _ X.out.bel).o1⟩⟩) (Or.inr ⟨by rfl,rfl⟩) ?_
   try simp only [Act.put,seti,set0,setS]
   refine tk (i:=11) (oi:=⟨some 29,_,_,_,_,_⟩) (v:=undef) rfl (by kernel_rfl) (fun _ _ _ h=>h) (⟨X.out.c4 (i:=0) rfl,⟨(HE.out _ X.out.bel).o0,(HE.out _ X.out.bel).o1⟩⟩) (Or.inr ⟨by rfl,rfl⟩) ?_
   try simp only [Act.put,seti,set0,setS]
   refine tk (i:=12) (oi:=⟨some 30,_,_,_,_,_⟩) (v:=undef) rfl (by kernel_rfl) (fun _ _ _ h=>h) (⟨X.out.c4 (i:=0) rfl,⟨(HE.out _ X.out.bel).o0,(HE.out _ X.out.bel).o1⟩⟩) (Or.inr ⟨by rfl,rfl⟩) ?_
   try simp only [Act.put,seti,set0,setS]
   refine tk (i:=13) (oi:=⟨some 31,_,_,_,_,_⟩) (v:=undef) rfl (by kernel_rfl) (fun _ _ _ h=>h) (⟨X.out.c4 (i:=0) rfl,⟨(HE.out _ X.out.bel).o0,(HE.out _ X.out.bel).o1⟩⟩) (Or.inr ⟨by rfl,rfl⟩) ?_
   try simp only [Act.put,seti,set0,setS]
   refine tk (i:=14) (oi:=⟨some 32,_,_,_,_,_⟩) (v:=undef) rfl (by kernel_rfl) (fun _ _ _ h=>h) (⟨X.out.c4 (i:=0) rfl,⟨(HE.out _ X.out.bel).o0,(HE.out _ X.out.bel).o1⟩⟩) (Or.inr ⟨by rfl,rfl⟩) ?_
   try simp only [Act.put,seti,set0,setS]
   refine tk (i:=15) (oi:=⟨some 33,_,_,_,_,_⟩) (v:=undef) rfl (by kernel_rfl) (fun _ _ _ h=>h) (⟨X.out.c4 (i:=0) rfl,⟨(HE.out _ X.out.bel).o0,(HE.out _ X.out.bel).o1⟩⟩) (Or.inr ⟨by rfl,rfl⟩) ?_
   try simp only [Act.put,seti,set0,setS]
   refine tk (i:=16) (oi:=⟨some 34,_,_,_,_,_⟩) (v:=undef) rfl (by kernel_rfl) (fun _ _ _ h=>h) (⟨X.out.c4 (i:=0) rfl,⟨(HE.out _ X.out.bel).o0,(HE.out _ X.out.bel).o1⟩⟩) (Or.inr ⟨by rfl,rfl⟩) ?_
   try simp only [Act.put,seti,set0,setS]
   refine tk (i:=17) (oi:=⟨some 35,_,_,_,_,_⟩) (v:=_) rfl (by kernel_rfl) (fun _ _ _ h=>h) (⟨X.out.c4 (i:=0) rfl,⟨(HE.out _ X.out.bel).o0,(HE.out _ X.out.bel).o1⟩⟩) (Or.inl ⟨by rfl,by intro w hSw;(try dsimp only at hSw);(first | (go_simp;done) | (go_simp;with_reducible rfl))⟩) ?_
   try simp only [Act.put,seti,set0,setS]
   refine tk (i:=18) (oi:=⟨some 17,_,_,_,_,_⟩) (v:=_) rfl (by kernel_rfl) (fun _ _ _ h=>h) (⟨X.out.c4 (i:=0) rfl,⟨(HE.out _ X.out.bel).o0,(HE.out _ X.out.bel).o1⟩⟩) (Or.inl ⟨by rfl,by intro w hSw;(try dsimp only at hSw);(first | (go_simp;done) | (go_simp;with_reducible rfl))⟩) ?_
   try simp only [Act.put,seti,set0,setS]
   refine wpLate_done (by kernel_rfl) ?_ _
   go_wp2
   go_ret
   exact ⟨rfl,X.out.bel⟩
 · rw [checkV_of (canon_yes hx)] at HC1
   subst h3
   have hyd:enc ((d:Nat):Int)=.agg #[.bool false,.string k]:=by rw [h4];exact enc_mag d
   rw [checkV_of (canon_yes hyd)] at HC2
   have HI:=Lib.hid (fun V=>isInteger_no b m k (by rw [h4];exact mag_no_nil (by omega)) V)
   have hkn:=toList_ne (l:=[1]) (show k≠⟨#[1]⟩ from by rw [h4];exact mag_no_one (by omega))
   have hkn2:¬[1]=k.toList:=fun e=>hkn e.symm
   have HG:=Lib.hid (fun V (hV:Env V)=>gcd_f hx hyd (bg:=false) (mg:=mag (Nat.gcd x.natAbs d)) (by rw [Int.natAbs_natCast];exact enc_mag _) (by omega) (by omega) V hV.tab)
   have hgn:=toList_ne (l:=[1]) (mag_no_one h6)
   have hgn2:¬[1]=(mag (Nat.gcd x.natAbs d)).toList:=fun e=>hgn e.symm
   generalize mag (Nat.gcd x.natAbs d)=mg at *
   clear hno h4 h5 h6 hx hyd
   have X:=Lib.hid ((Sb.start w).new #[.bool b,.string m,.bool false,.string k] 25)
   have X:=Lib.hid (X.out.pick [0] [(w.heap.size,#[.bool b,.string m,.bool false,.string k],25)] [] (by simp) (by decide) (by simp))
   obtain ⟨a0,a1,a2,a3⟩:=X.out.c4 (i:=0) rfl
   go_enter Tryz.func69,Tryz.ntmps69
   go_wp2_with fail
   refine (HC1.out _).mono ?_
   rintro e w1 ⟨rfl,hb9⟩
   have X:=Lib.hid (X.out.next hb9)
   clear hb9
   clear a0 a1 a2 a3
   obtain ⟨a0,a1,a2,a3⟩:=X.out.c4 (i:=0) rfl
   go_wp2_with fail
   refine (HC2.out _).mono ?_
   rintro e w2 ⟨rfl,hb9⟩
   have X:=Lib.hid (X.out.next hb9)
   clear hb9
   clear a0 a1 a2 a3
   obtain ⟨a0,a1,a2,a3⟩:=X.out.c4 (i:=0) rfl
   go_wp2_with fail
   refine (HI.out _).mono ?_
   rintro e w3 ⟨rfl,hb9⟩
   have X:=Lib.hid (X.out.next hb9)
   clear hb9
   clear a0 a1 a2 a3
   go_upto_region 5 with fail
   refine wp_region_late (S:=fun w'=>(w'.cell? ⟨w.heap.size,0,none⟩=some (.bool b)∧w'.cell? ⟨w.heap.size,1,none⟩=some (.string m)∧w'.cell? ⟨w.heap.size,2,none⟩=some (.bool false)∧w'.cell? ⟨w.heap.size,3,none⟩=some (.string k))∧(w'.cell? ⟨0,0,none⟩=some (.bool false)∧w'.cell? ⟨0,1,none⟩=some (.string ⟨#[1]⟩))) (L:=[]) (by kernel_rfl) ?_
   have X:=Lib.hid X.out.drew
   obtain ⟨V0,hV⟩:=wexi X.out
   rw [←hV] at X ⊢
   clear hV
   refine tk (i:=0) (oi:=⟨some 18,_,_,_,_,_⟩) (v:=_) rfl (by kernel_rfl) (fun _ _ _ h=>h) (⟨X.out.c4 (i:=0) rfl,⟨(HE.out _ X.out.bel).o0,(HE.out _ X.out.bel).o1⟩⟩) (Or.inl ⟨by rfl,by intro w hSw;(try dsimp only at hSw);(first | (go_simp;done) | (go_simp;with_reducible rfl))⟩) ?_
   try simp only [Act.put,seti,set0,setS]
   refine tk (i:=1) (oi:=⟨some 19,_,_,_,_,_⟩) (v:=_) rfl (by kernel_rfl) (fun _ _ _ h=>h) (⟨X.out.c4 (i:=0) rfl,⟨(HE.out _ X.out.bel).o0,(HE.out _ X.out.bel).o1⟩⟩) (Or.inl ⟨by rfl,by intro w hSw;(try dsimp only at hSw);(first | (go_simp;done) | (go_simp;with_reducible rfl))⟩) ?_
   try simp only [Act.put,seti,set0,setS]
   refine tk (i:=2) (oi:=⟨some 20,_,_,_,_,_⟩) (v:=_) rfl (by kernel_rfl) (fun _ _ _ h=>h) (⟨X.out.c4 (i:=0) rfl,⟨(HE.out _ X.out.bel).o0,(HE.out _ X.out.bel).o1⟩⟩) (Or.inl ⟨by rfl,by intro w hSw;(try dsimp only at hSw);(first | (go_simp;done) | (go_simp;with_reducible rfl))⟩) ?_
   try simp only [Act.put,seti,set0,setS]
   refine tk (i:=3) (oi:=⟨some 21,_,_,_,_,_⟩) (v:=_) rfl (by kernel_rfl) (fun _ _ _ h=>h) (⟨X.out.c4 (i:=0) rfl,⟨(HE.out _ X.out.bel).o0,(HE.out _ X.out.bel).o1⟩⟩) (Or.inl ⟨by rfl,by intro w hSw;(try dsimp only at hSw);(first | (go_simp;done) | (go_simp;with_reducible rfl))⟩) ?_
   try simp only [Act.put,seti,set0,setS]
   refine tk (i:=4) (oi:=⟨some 22,_,_,_,_,_⟩) (v:=_) rfl (by kernel_rfl) (fun _ _ _ h=>h) (⟨X.out.c4 (i:=0) rfl,⟨(HE.out _ X.out.bel).o0,(HE.out _ X.out.bel).o1⟩⟩) (Or.inl ⟨by rfl,by intro w hSw;(try dsimp only at hSw);(first | (go_simp;done) | (go_simp;with_reducible rfl))⟩) ?_
   try simp only [Act.put,seti,set0,setS]
   refine tk (i:=5) (oi:=⟨some 23,_,_,_,_,_⟩) (v:=_) rfl (by kernel_rfl) (fun _ _ _ h=>h) (⟨X.out.c4 (i:=0) rfl,⟨(HE.out _ X.out.bel).o0,(HE.out _ X.out.bel).o1⟩⟩) (Or.inl ⟨by rfl,by intro w hSw;(try dsimp only at hSw);(first | (go_simp;done) | (go_simp;with_reducible rfl))⟩) ?_
   try simp only [Act.put,seti,set0,setS]
   refine tk (i:=6) (oi:=⟨some 24,_,_,_,_,_⟩) (v:=_) rfl (by kernel_rfl) (fun _ _ _ h=>h) (⟨X.out.c4 (i:=0) rfl,⟨(HE.out _ X.out.bel).o0,(HE.out _ X.out.bel).o1⟩⟩) (Or.inl ⟨by rfl,by intro w hSw;(try dsimp only at hSw);(first | (go_simp;done) | (go_simp;with_reducible rfl))⟩) ?_
   try simp only [Act.put,seti,set0,setS]
   refine tk (i:=7) (oi:=⟨some 25,_,_,_,_,_⟩) (v:=_) rfl (by kernel_rfl) (fun _ _ _ h=>h) (⟨X.out.c4 (i:=0) rfl,⟨(HE.out _ X.out.bel).o0,(HE.out _ X.out.bel).o1⟩⟩) (Or.inl ⟨by rfl,by intro w hSw;(try dsimp only at hSw);(first | (go_simp;done) | (go_simp;with_reducible rfl))⟩) ?_
   try simp only [Act.put,seti,set0,setS]
   refine tk (i:=8) (oi:=⟨some 26,_,_,_,_,_⟩) (v:=_) rfl (by kernel_rfl) (fun _ _ _ h=>h) (⟨X.out.c4 (i:=0) rfl,⟨(HE.out _ X.out.bel).o0,(HE.out _ X.out.bel).o1⟩⟩) (Or.inl ⟨by rfl,by intro w hSw;(try dsimp only at hSw);(first | (go_simp;done) | (go_simp;with_reducible rfl))⟩) ?_
   try simp only [Act.put,seti,set0,setS]
   refine tk (i:=9) (oi:=⟨some 27,_,_,_,_,_⟩) (v:=_) rfl (by kernel_rfl) (fun _ _ _ h=>h) (⟨X.out.c4 (i:=0) rfl,⟨(HE.out _ X.out.bel).o0,(HE.out _ X.out.bel).o1⟩⟩) (Or.inl ⟨by rfl,by intro w hSw;(try dsimp only at hSw);(first | (go_simp;done) | (go_simp;with_reducible rfl))⟩) ?_
   try simp only [Act.put,seti,set0,setS]
   refine tk (i:=10) (oi:=⟨some 28,_,_,_,_,_⟩) (v:=_) rfl (by kernel_rfl) (fun _ _ _ h=>h) (⟨X.out.c4 (i:=0) rfl,⟨(HE.out _ X.out.bel).o0,(HE.out _ X.out.bel).o1⟩⟩) (Or.inl ⟨by rfl,by intro w hSw;(try dsimp only at hSw);(first | (go_simp;done) | (go_simp;with_reducible rfl))⟩) ?_
   try simp only [Act.put,seti,set0,setS]
   refine tk (i:=11) (oi:=⟨some 29,_,_,_,_,_⟩) (v:=_) rfl (by kernel_rfl) (fun _ _ _ h=>h) (⟨X.out.c4 (i:=0) rfl,⟨(HE.out _ X.out.bel).o0,(HE.out _ X.out.bel).o1⟩⟩) (Or.inl ⟨by rfl,by intro w hSw;(try dsimp only at hSw);(first | (go_simp;done) | (go_simp;with_reducible rfl))⟩) ?_
   try simp only [Act.put,seti,set0,setS]
   refine tk (i:=12) (oi:=⟨some 30,_,_,_,_,_⟩) (v:=_) rfl (by kernel_rfl) (fun _ _ _ h=>h) (⟨X.out.c4 (i:=0) rfl,⟨(HE.out _ X.out.bel).o0,(HE.out _ X.out.bel).o1⟩⟩) (Or.inl ⟨by rfl,by intro w hSw;(try dsimp only at hSw);(first | (go_simp;done) | (go_simp;with_reducible rfl))⟩) ?_
   try simp only [Act.put,seti,set0,setS]
   refine tk (i:=13) (oi:=⟨some 31,_,_,_,_,_⟩) (v:=_) rfl (by kernel_rfl) (fun _ _ _ h=>h) (⟨X.out.c4 (i:=0) rfl,⟨(HE.out _ X.out.bel).o0,(HE.out _ X.out.bel).o1⟩⟩) (Or.inl ⟨by rfl,by intro w hSw;(try dsimp only at hSw);(first | (go_simp;done) | (go_simp;with_reducible rfl))⟩) ?_
   try simp only [Act.put,seti,set0,setS]
   refine tk (i:=15) (oi:=⟨some 33,_,_,_,_,_⟩) (v:=_) rfl (by kernel_rfl) (fun _ _ _ h=>h) (⟨X.out.c4 (i:=0) rfl,⟨(HE.out _ X.out.bel).o0,(HE.out _ X.out.bel).o1⟩⟩) (Or.inl ⟨by rfl,by intro w hSw;(try dsimp only at hSw);(first | (go_simp;done) | (go_simp;with_reducible rfl))⟩) ?_
   try simp only [Act.put,seti,set0,setS]
   refine wpLate_one (i:=14) (o:=⟨some 32,_,_,_,_,_⟩) (by kernel_rfl) rfl (fun K hK=>?_)
   go_simp
   (go_at_call 126;refine (HG.out _ (HE.out _ X.out.bel)).mono ?_;rintro e u1 ⟨rfl,hb9⟩;have X:=Lib.hid (X.out.next hb9);clear hb9)
   try go_wp2_with fail
   refine hK.out _ _ (Or.inr (fun _=>⟨X.out.c4 (i:=0) rfl,⟨(HE.out _ X.out.bel).o0,(HE.out _ X.out.bel).o1⟩⟩)) ?_
   clear hK K
   try simp only [Act.put,seti,set0,setS]
   refine tk (i:=16) (oi:=⟨some 34,_,_,_,_,_⟩) (v:=_) rfl (by kernel_rfl) (fun _ _ _ h=>h) (⟨X.out.c4 (i:=0) rfl,⟨(HE.out _ X.out.bel).o0,(HE.out _ X.out.bel).o1⟩⟩) (Or.inl ⟨by rfl,by intro w hSw;(try dsimp only at hSw);(first | (go_simp;done) | (go_simp;with_reducible rfl))⟩) ?_
   try simp only [Act.put,seti,set0,setS]
   refine tk (i:=17) (oi:=⟨some 35,_,_,_,_,_⟩) (v:=_) rfl (by kernel_rfl) (fun _ _ _ h=>h) (⟨X.out.c4 (i:=0) rfl,⟨(HE.out _ X.out.bel).o0,(HE.out _ X.out.bel).o1⟩⟩) (Or.inl ⟨by rfl,by intro w hSw;(try dsimp only at hSw);(first | (go_simp;done) | (go_simp;with_reducible rfl))⟩) ?_
   try simp only [Act.put,seti,set0,setS]
   refine tk (i:=18) (oi:=⟨some 17,_,_,_,_,_⟩) (v:=_) rfl (by kernel_rfl) (fun _ _ _ h=>h) (⟨X.out.c4 (i:=0) rfl,⟨(HE.out _ X.out.bel).o0,(HE.out _ X.out.bel).o1⟩⟩) (Or.inl ⟨by rfl,by intro w hSw;(try dsimp only at hSw);(first | (go_simp;done) | (go_simp;with_reducible rfl))⟩) ?_
   try simp only [Act.put,seti,set0,setS]
   refine wpLate_done (by kernel_rfl) ?_ _
   go_wp2
   go_ret
   exact ⟨rfl,X.out.bel⟩
end Go.Proofs.YtpnokfgplnmjpaaGreatDoor
