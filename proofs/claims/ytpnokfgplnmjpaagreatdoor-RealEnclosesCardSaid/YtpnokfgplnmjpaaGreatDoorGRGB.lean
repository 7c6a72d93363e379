import Derived.Test.YtpnokfgplnmjpaaGreatDoorGRFA
set_option linter.unusedSimpArgs false
set_option linter.unusedVariables false

namespace Go.Proofs.YtpnokfgplnmjpaaGreatDoor

def Sz (n:Nat) (q:Rat):Prop:=q.num.natAbs<256^n∧q.den<256^n

theorem mkRat_le (x:Int) {d:Nat} (hd:d≠0):(mkRat x d).num.natAbs≤x.natAbs∧(mkRat x d).den≤d:=by
 obtain ⟨h1,h2⟩:=mkRat_parts x hd
 rw [h1,h2]
 refine ⟨?_,Nat.div_le_self _ _⟩
 rw [Int.natAbs_ediv_of_dvd (int_gcd_dvd x d),Int.natAbs_natCast]
 exact Nat.div_le_self _ _
theorem Sz.mul {n m:Nat} {p q:Rat} (hp:Sz n p) (hq:Sz m q):Sz (n+m) (p*q):=by
 rw [Rat.mul_def']
 obtain ⟨h1,h2⟩:=mkRat_le (p.num*q.num) (d:=p.den*q.den) (Nat.mul_ne_zero p.den_nz q.den_nz)
 unfold Sz
 rw [Nat.pow_add]
 refine ⟨Nat.lt_of_le_of_lt h1 ?_,Nat.lt_of_le_of_lt h2 (Nat.mul_lt_mul'' hp.2 hq.2)⟩
 rw [Int.natAbs_mul]
 exact Nat.mul_lt_mul'' hp.1 hq.1
theorem Sz.add {n m:Nat} {p q:Rat} (hp:Sz n p) (hq:Sz m q):Sz (n+m+1) (p+q):=by
 rw [Rat.add_def']
 obtain ⟨h1,h2⟩:=mkRat_le (p.num*q.den+q.num*p.den) (d:=p.den*q.den) (Nat.mul_ne_zero p.den_nz q.den_nz)
 have h3:=Int.natAbs_add_le (p.num*(q.den:Int)) (q.num*(p.den:Int))
 rw [Int.natAbs_mul,Int.natAbs_mul,Int.natAbs_natCast,Int.natAbs_natCast] at h3
 have h4:p.num.natAbs*q.den<256^n*256^m:=Nat.mul_lt_mul'' hp.1 hq.2
 have h5:q.num.natAbs*p.den<256^m*256^n:=Nat.mul_lt_mul'' hq.1 hp.2
 have h6:p.den*q.den<256^n*256^m:=Nat.mul_lt_mul'' hp.2 hq.2
 rw [Nat.mul_comm (256^m)] at h5
 unfold Sz
 rw [Nat.pow_succ,Nat.pow_add]
 omega
theorem Sz.m {n:Nat} {q:Rat} (h:Sz n q) {b:Bool} {m k:ByteArray} (hq:Rq q b m k) (hn:n≤10000):m.size≤10000∧(mag q.den).size≤10000:=by
 refine ⟨?_,Nat.le_trans (mag_size_le h.2) hn⟩
 rw [hq.mag.2]
 exact Nat.le_trans (mag_size_le h.1) hn
theorem Sz.minus {n:Nat} {q:Rat} (h:Sz n q):Sz n (-q):=by
 unfold Sz
 rw [Rat.neg_num,Rat.neg_den,Int.natAbs_neg]
 exact h
end Go.Proofs.YtpnokfgplnmjpaaGreatDoor


namespace Go.Proofs.YtpnokfgplnmjpaaGreatDoor
open Go.RowKit
attribute [local go_sem ↓] Go.wp_at_zero Go.wp_at_succ

theorem rq_int {x:Int} {b:Bool} {m:ByteArray} (h:enc x=.agg #[.bool b,.string m]):Rq (x:Rat) b m ⟨#[]⟩:=⟨by rw [Rat.num_intCast];exact h,by rw [Rat.den_intCast,dm_one]⟩
theorem divInt_1 (x:Int):Rat.divInt x 1=(x:Rat):=by
 rw [show (1:Int)=((1:Nat):Int) from rfl,Rat.divInt_ofNat]
 exact Rat.mkRat_one x

set_option maxHeartbeats 2000000 in
set_option maxRecDepth 100000 in
theorem rFromInt_f {x:Int} {b:Bool} {m:ByteArray} (hx:enc x=.agg #[.bool b,.string m]) (x1:-9223372036854775808≤x) (x2:x≤9223372036854775807) (w:World) :
  Calls Tryz.prog 73 #[.int .i64 x] w (RetB w (.agg #[.bool b,.string m,.bool false,.string ⟨#[]⟩])):=by
 have HX:=Lib.hid hx
 have KR:=Lib.hid (Bq.new w #[.bool false,.string ⟨#[]⟩,.bool false,.string ⟨#[]⟩] 25)
 have HB:=Lib.hid (below_new w (.cells #[.bool false,.string ⟨#[]⟩,.bool false,.string ⟨#[]⟩] 25))
 clear hx
 go_enter Tryz.func73,Tryz.ntmps73
 go_wp2_with fail
 refine (fromInt_any x x1 x2 _).mono ?_
 rintro e w1 ⟨rfl,hb1⟩
 rw [HX.out]
 have K3:=Lib.hid (KR.out.next hb1)
 have B3:=Lib.hid (below_step HB.out (Nat.le_refl _) hb1)
 obtain ⟨t0,t1,t2,t3⟩:=blk4 K3.out.k
 obtain ⟨f0,f1,f2,f3⟩:=fro4 K3.out.k
 clear hb1
 go_wp2
 exact bodyPost_ret (v:=.agg #[.bool b,.string m,.bool false,.string ⟨#[]⟩]) (by simp [results,Tryz.results73,go_sem,t0,t1,t2,t3]) rfl ⟨rfl,below_set4 B3.out (Nat.le_refl _) _ _ _ _⟩

theorem canon_form {b:Bool} {m:ByteArray} (h:canonB b m=true):∃ x,enc x=.agg #[.bool b,.string m]:=by
 refine ⟨ival b m,(enc_eq ⟨?_,?_⟩ rfl).symm⟩
 · intro h0
   unfold canonB at h
   rw [dif_pos h0] at h
   simpa using h
 · intro h0
   unfold canonB at h
   rw [dif_neg (by omega)] at h
   simpa using h
theorem canon_yes {x:Int} {b:Bool} {m:ByteArray} (h:enc x=.agg #[.bool b,.string m]):canonB b m=true:=by
 have h1:=canon_enc h
 unfold checkV at h1
 cases hc:canonB b m
 · rw [hc] at h1;cases h1
 · rfl

set_option maxHeartbeats 1000000 in
set_option maxRecDepth 100000 in
theorem isInt_any (neg:Bool) (s:ByteArray) (w:World) :
  Calls Tryz.prog 110 #[.agg #[.bool neg,.string s]] w (RetB w (.bool (canonB neg s))):=by
 by_cases h:0<s.size
 · have hv:canonB neg s=((s[0]'h).toNat != 0):=by unfold canonB;rw [dif_pos h]
   have he:=empty_no h
   rw [hv]
   clear hv
   have HB:=Lib.hid (below_new w (.cells #[.bool neg,.string s] 23))
   go_enter Tryz.func110,Tryz.ntmps110
   go_wp2
   go_ret
   refine ⟨?_,HB.out⟩
   have hb:(((s[0]'h).toNat:Int) != 0)=((s[0]'h).toNat != 0):=by rw [Bool.eq_iff_iff];simp
   exact congrArg (fun b=>Ending.returned (.bool b)) hb
 · have hv:canonB neg s=!neg:=by unfold canonB;rw [dif_neg h]
   have he:=empty_yes h
   have h0:s.size=0:=by omega
   rw [hv]
   clear hv
   have HB:=Lib.hid (below_new w (.cells #[.bool neg,.string s] 23))
   go_enter Tryz.func110,Tryz.ntmps110
   go_wp2
   go_ret
   exact ⟨rfl,HB.out⟩

theorem rmake_f {x y:Int} {b1 b2 b3:Bool} {m1 m2 m3 k3:ByteArray} (hx:enc x=.agg #[.bool b1,.string m1]) (hy:enc y=.agg #[.bool b2,.string m2]) (hq:Rq (Rat.divInt x y) b3 m3 k3) (h0:y≠0) (s1:m1.size≤1000000) (s2:m2.size≤1000000) (w:World) :
  Calls Tryz.prog 103 #[.agg #[.bool b1,.string m1],.agg #[.bool b2,.string m2]] w (RetB w (.agg #[.bool b3,.string m3,.bool false,.string k3])):=by
 have vx:bval m1=x.natAbs:=by rw [(enc_parts hx).2,bval_mag]
 have vy:bval m2=y.natAbs:=by rw [(enc_parts hy).2,bval_mag]
 have hmk:=rmake b1 b2 m1 m2 s1 s2 (by rw [vy];omega) w
 rw [vx,vy,(enc_parts hx).1,(enc_parts hy).1,mk_divInt x y h0,←(enc_parts hx).1,←(enc_parts hy).1] at hmk
 refine hmk.mono ?_
 rintro e w3 ⟨b4,m4,k4,rfl,hq4,hb3⟩
 obtain ⟨rfl,rfl,rfl⟩:=hq.inj hq4
 exact ⟨rfl,hb3⟩
end Go.Proofs.YtpnokfgplnmjpaaGreatDoor


namespace Go.Proofs.YtpnokfgplnmjpaaGreatDoor
open Go.RowKit
attribute [local go_sem ↓] Go.wp_at_zero Go.wp_at_succ

def RetF2 (w:World) (b:Bool) (N D:Nat) (e:Ending) (w':World):Prop :=
 ∃ A n c B m d,e=.returned (.agg #[.bool b,.slice A n c,.slice B m d])∧Tr w' A n c N∧Tr w' B m d D∧Below w.heap.size w w'∧(∀ a,A=some a→w.heap.size≤a.block)∧(∀ a,B=some a→w.heap.size≤a.block)

set_option maxHeartbeats 4000000 in
set_option maxRecDepth 100000 in
theorem rof2 {q:Rat} {b:Bool} {m k:ByteArray} (h:Rq q b m k) (hm:m.size≤1000000) (hk:k.size≤1000000) (w:World) :
  Calls Tryz.prog 119 #[.agg #[.bool b,.string m,.bool false,.string k]] w (RetF2 w b q.num.natAbs q.den):=by
 have HB:=Lib.hid h.bval
 have KK:=Lib.hid (Kb.start w #[.bool b,.string m,.bool false,.string k] #[.bool false,.slice none 0 0,.slice none 0 0] 25 110)
 have HD1:=Lib.hid (fun V=>rdigits b m V (by omega))
 have HD2:=Lib.hid (fun V=>rdigits false k V (by omega))
 by_cases hden:q.den=1
 · have hk1:=h.den1 hden
   have hb0:Go.Proofs.YtpnokfgplnmjpaaGreatDoor.bval k=0:=by rw [hk1];rfl
   have HB0:=Lib.hid hb0
   have HDEN:=Lib.hid hden
   clear h hden hk1 hb0
   go_enter Tryz.func119,Tryz.ntmps119
   go_wp2_with fail
   refine (HD2.out _).mono ?_
   rw [HB0.out]
   rintro e w1 ⟨A1,n1,c1,rfl,ht1,hb1,_⟩
   have hn1:n1=0:=by rw [ht1.ln,nd_zero]
   subst hn1
   have K1:=Lib.hid (KK.out.next hb1)
   have K2:=Lib.hid ((K1.out.next ((Below.refl _ _).alloc (Nat.le_refl _) (.cells #[.int .i64 1] 3))).drew)
   have T1:=Lib.hid (tr_one w1)
   clear ht1 hb1
   obtain ⟨p0,p1,p2,p3⟩:=blk4 K2.out.k1
   go_wp2_with fail
   go_region_held3 (fun w'=>w'.cell? ⟨w.heap.size,0,none⟩=some (.bool b)∧w'.cell? ⟨w.heap.size,1,none⟩=some (.string m))
    (first
     | exact ⟨q0,q1⟩
     | exact ⟨p0,p1⟩
     | go_keep)
    (first
     | (go_at_call 112;(with_reducible refine (HD1.out _).mono ?_);rw [HB.out];rintro e w3 ⟨A3,n3,c3,rfl,ht3,hb3,hf3⟩;have K3:=Lib.hid (K2.out.next hb3);have T3:=Lib.hid ht3;have T4:=Lib.hid (T1.out.drew.below hb3);obtain ⟨q0,q1,q2,q3⟩:=blk4 K3.out.k1;obtain ⟨s0,s1,s2,f0,f1,f2⟩:=blk3 K3.out.k2))
   have HF:=Lib.hid hf3
   have HS1:=Lib.hid K1.out.sz
   have HS2:=Lib.hid K2.out.sz
   clear ht3 hb3 hf3
   go_wp2
   refine bodyPost_ret (v:=.agg #[.bool b,.slice A3 n3 c3,.slice (some ⟨w1.heap.size,0,none⟩) 1 1]) (by simp [results,Tryz.results119,go_sem,s0,s1,s2]) rfl ⟨A3,n3,c3,_,1,1,rfl,T3.out.set3 (fun a ha=>?_) _ _ _,?_,below_set3 K3.out.bel (by omega) _ _ _,fun a ha=>by have h1:=HF.out a ha;have h2:=HS2.out;omega,fun a ha=>by injection ha with ha;subst ha;have h1:=HS1.out;show _≤w1.heap.size;omega⟩
   · have h1:=HF.out a ha
     have h2:=HS2.out
     omega
   · rw [HDEN.out]
     exact T4.out.set3 (fun a ha=>by injection ha with ha;subst ha;have:=HS1.out;show w1.heap.size≠_;omega) _ _ _
 · have hb0:Go.Proofs.YtpnokfgplnmjpaaGreatDoor.bval k=q.den:=by rw [h.den2 hden,bval_mag]
   have HB0:=Lib.hid hb0
   have HP:=Lib.hid q.den_pos
   clear h hden hb0
   go_enter Tryz.func119,Tryz.ntmps119
   go_wp2_with fail
   refine (HD2.out _).mono ?_
   rw [HB0.out]
   rintro e w1 ⟨A1,n1,c1,rfl,ht1,hb1,hf1⟩
   have hn1:0<n1:=by rw [ht1.ln];exact nd_pos HP.out
   have hne:((n1:Int)==0)=false:=by simp;omega
   have K1:=Lib.hid (KK.out.next hb1)
   have K2:=Lib.hid (K1.out.drew)
   have T1:=Lib.hid ht1
   have HF1:=Lib.hid hf1
   have HS0:=Lib.hid KK.out.sz
   clear ht1 hb1 hf1
   obtain ⟨p0,p1,p2,p3⟩:=blk4 K2.out.k1
   go_wp2_with fail
   clear hne
   go_region_held3 (fun w'=>w'.cell? ⟨w.heap.size,0,none⟩=some (.bool b)∧w'.cell? ⟨w.heap.size,1,none⟩=some (.string m))
    (first
     | exact ⟨q0,q1⟩
     | exact ⟨p0,p1⟩
     | go_keep)
    (first
     | (go_at_call 112;(with_reducible refine (HD1.out _).mono ?_);rw [HB.out];rintro e w3 ⟨A3,n3,c3,rfl,ht3,hb3,hf3⟩;have K3:=Lib.hid (K2.out.next hb3);have T3:=Lib.hid ht3;have T4:=Lib.hid (T1.out.drew.below hb3);obtain ⟨q0,q1,q2,q3⟩:=blk4 K3.out.k1;obtain ⟨s0,s1,s2,f0,f1,f2⟩:=blk3 K3.out.k2))
   have HF:=Lib.hid hf3
   have HS2:=Lib.hid K2.out.sz
   clear ht3 hb3 hf3
   go_wp2
   refine bodyPost_ret (v:=.agg #[.bool b,.slice A3 n3 c3,.slice A1 n1 c1]) (by simp [results,Tryz.results119,go_sem,s0,s1,s2]) rfl ⟨A3,n3,c3,A1,n1,c1,rfl,T3.out.set3 (fun a ha=>?_) _ _ _,T4.out.set3 (fun a ha=>?_) _ _ _,below_set3 K3.out.bel (by omega) _ _ _,fun a ha=>by have h1:=HF.out a ha;have h2:=HS2.out;omega,fun a ha=>by have h1:=HF1.out a ha;have h2:=HS0.out;omega⟩
   · have h1:=HF.out a ha
     have h2:=HS2.out
     omega
   · have h1:=HF1.out a ha
     have h2:=HS0.out
     omega

set_option maxHeartbeats 1000000 in
set_option maxRecDepth 100000 in
theorem rSign_f {q:Rat} {b:Bool} {m k:ByteArray} (h:Rq q b m k) (w:World):Calls Tryz.prog 28 #[.agg #[.bool b,.string m,.bool false,.string k]] w (RetB w (.int .i64 q.num.sign)):=by
 have HB:=Lib.hid (below_new w (.cells #[.bool b,.string m,.bool false,.string k] 25))
 obtain ⟨e1,e2⟩:=h.mag
 rcases Int.lt_trichotomy q.num 0 with h0 | h0 | h0
 · have hb:b=true:=by rw [e1];exact decide_eq_true h0
   have hne:=toList_ne (l:=[]) (show m≠⟨#[]⟩ from by rw [e2];exact mag_no_nil (by omega))
   have hem:m.toList.isEmpty=false:=by rw [List.isEmpty_eq_false_iff];exact hne
   rw [Int.sign_eq_neg_one_of_neg h0]
   subst hb
   clear h e1 e2 h0
   go_enter Tryz.func28,Tryz.ntmps28
   go_wp2
   go_ret
   exact ⟨rfl,HB.out⟩
 · have hm:m=⟨#[]⟩:=by rw [e2,h0];exact mag_nil
   have hl:m.toList=[]:=by rw [hm,ByteArray.toList_eq]
   have hem:m.toList.isEmpty=true:=by rw [hl];rfl
   rw [h0]
   clear h e1 e2 h0 hm
   go_enter Tryz.func28,Tryz.ntmps28
   go_wp2
   go_ret
   exact ⟨rfl,HB.out⟩
 · have hb:b=false:=by rw [e1];exact decide_eq_false (by omega)
   have hne:=toList_ne (l:=[]) (show m≠⟨#[]⟩ from by rw [e2];exact mag_no_nil (by omega))
   have hem:m.toList.isEmpty=false:=by rw [List.isEmpty_eq_false_iff];exact hne
   rw [Int.sign_eq_one_of_pos h0]
   subst hb
   clear h e1 e2 h0
   go_enter Tryz.func28,Tryz.ntmps28
   go_wp2
   go_ret
   exact ⟨rfl,HB.out⟩

def FracP (b:Bool) (N D:Nat) (v:Value) (w:World):Prop:=∃ A n c B m d,v=.agg #[.bool b,.slice A n c,.slice B m d]∧Tr w A n c N∧Tr w B m d D
theorem fine_frac (b:Bool) (N D:Nat):Fine (.rel (FracP b N D)):=fun _ _ _ ⟨A,n,c,B,m,d,h,ht,hu⟩ hb=>⟨A,n,c,B,m,d,h,ht.below hb,hu.below hb⟩
end Go.Proofs.YtpnokfgplnmjpaaGreatDoor


namespace Go.Proofs.YtpnokfgplnmjpaaGreatDoor
open Go.RowKit
attribute [local go_sem ↓] Go.wp_at_zero Go.wp_at_succ

theorem Rq.turned {q r:Rat} {b1 b2:Bool} {m1 m2 k1 k2:ByteArray} (h:Rq q b1 m1 k1) (g:Rq r b2 m2 k2) (e:r.num.natAbs=q.num.natAbs) (d:r.den=q.den):m2=m1∧k1=k2:=by
 refine ⟨by rw [g.mag.2,h.mag.2,e],?_⟩
 by_cases hd:q.den=1
 · rw [h.den1 hd,g.den1 (d ▸ hd)]
 · rw [h.den2 hd,g.den2 (d ▸ hd),d]

set_option maxHeartbeats 1000000 in
set_option maxRecDepth 100000 in
theorem rNeg_f {q:Rat} {b b2:Bool} {m k m2 k2:ByteArray} (h:Rq q b m k) (g:Rq (-q) b2 m2 k2) (w:World):Calls Tryz.prog 49 #[.agg #[.bool b,.string m,.bool false,.string k]] w (RetB w (.agg #[.bool b2,.string m2,.bool false,.string k2])):=by
 obtain ⟨rfl,rfl⟩:=h.turned g (by rw [Rat.neg_num,Int.natAbs_neg]) (Rat.neg_den q)
 obtain ⟨e1,e2⟩:=h.mag
 obtain ⟨f1,-⟩:=g.mag
 rw [Rat.neg_num] at f1
 rcases Int.lt_trichotomy q.num 0 with h0 | h0 | h0
 · have hb:b=true:=by rw [e1];exact decide_eq_true h0
   have hc:b2=false:=by rw [f1];exact decide_eq_false (by omega)
   subst hb hc
   clear h g e1 e2 f1 h0
   go_enter Tryz.func49,Tryz.ntmps49
   go_wp2
   exact bodyPost_ret (v:=.agg #[.bool false,.string m2,.bool false,.string k]) (by simp [results,Tryz.results49,go_sem]) rfl ⟨rfl,(((Sb.start w).new _ _).new _ _).bel⟩
 · have hb:b=false:=by rw [e1,h0];rfl
   have hc:b2=false:=by rw [f1,h0];rfl
   have hm:m2=⟨#[]⟩:=by rw [e2,h0];exact mag_nil
   have hl:m2.toList=[]:=by rw [hm,ByteArray.toList_eq]
   have hem:m2.toList.isEmpty=true:=by rw [hl];rfl
   subst hb hc
   clear h g e1 e2 f1 h0 hm
   go_enter Tryz.func49,Tryz.ntmps49
   go_wp2
   exact bodyPost_ret (v:=.agg #[.bool false,.string m2,.bool false,.string k]) (by simp [results,Tryz.results49,go_sem]) rfl ⟨rfl,(((Sb.start w).new _ _).new _ _).bel⟩
 · have hb:b=false:=by rw [e1];exact decide_eq_false (by omega)
   have hc:b2=true:=by rw [f1];exact decide_eq_true (by omega)
   have hne:=toList_ne (l:=[]) (show m2≠⟨#[]⟩ from by rw [e2];exact mag_no_nil (by omega))
   have hem:m2.toList.isEmpty=false:=by rw [List.isEmpty_eq_false_iff];exact hne
   subst hb hc
   clear h g e1 e2 f1 h0
   go_enter Tryz.func49,Tryz.ntmps49
   go_wp2
   exact bodyPost_ret (v:=.agg #[.bool true,.string m2,.bool false,.string k]) (by simp [results,Tryz.results49,go_sem]) rfl ⟨rfl,(((Sb.start w).new _ _).new _ _).bel⟩

set_option maxHeartbeats 4000000 in
set_option maxRecDepth 100000 in
theorem ratNeg_f {q:Rat} {b b2:Bool} {m k m2 k2:ByteArray} (h:Rq q b m k) (g:Rq (-q) b2 m2 k2) (w:World):Calls Tryz.prog 80 #[.agg #[.bool b,.string m,.bool false,.string k]] w (RetB w (.agg #[.bool b2,.string m2,.bool false,.string k2])):=by
 obtain ⟨-,rfl⟩:=h.turned g (by rw [Rat.neg_num,Int.natAbs_neg]) (Rat.neg_den q)
 have hz:=g.num
 rw [Rat.neg_num] at hz
 have HS:=Lib.hid (fun V=>negate_f h.num hz V)
 have X:=Lib.hid (((Sb.start w).new #[.bool b,.string m,.bool false,.string k] 25).new #[.bool false,.string ⟨#[]⟩,.bool false,.string ⟨#[]⟩] 25)
 have X:=Lib.hid (X.out.pick [0,1] [(w.heap.size,#[.bool b,.string m,.bool false,.string k],25),(w.heap.size+1,#[.bool false,.string ⟨#[]⟩,.bool false,.string ⟨#[]⟩],25)] [] (by simp) (by decide) (by simp))
 clear h g hz
 go_enter Tryz.func80,Tryz.ntmps80
 go_upto_region 1 with fail
 refine wp_region_late (S:=fun w'=>(w'.cell? ⟨w.heap.size,0,none⟩=some (.bool b)∧w'.cell? ⟨w.heap.size,1,none⟩=some (.string m)∧w'.cell? ⟨w.heap.size,2,none⟩=some (.bool false)∧w'.cell? ⟨w.heap.size,3,none⟩=some (.string k))) (L:=[]) (by kernel_rfl) ?_
 have X:=Lib.hid X.out.drew
 obtain ⟨V0,hV⟩:=wexi X.out
 rw [←hV] at X ⊢
 clear hV
 refine tk (i:=0) (oi:=⟨some 3,_,_,_,_,_⟩) (v:=_) rfl (by kernel_rfl) (fun _ _ _ h=>h) (X.out.c4 (i:=0) rfl) (Or.inl ⟨by rfl,by intro w hSw;(try dsimp only at hSw);(first | (go_simp;done) | (go_simp;with_reducible rfl))⟩) ?_
 try simp only [Act.put,seti,set0,setS]
 refine tk (i:=1) (oi:=⟨some 4,_,_,_,_,_⟩) (v:=_) rfl (by kernel_rfl) (fun _ _ _ h=>h) (X.out.c4 (i:=0) rfl) (Or.inl ⟨by rfl,by intro w hSw;(try dsimp only at hSw);(first | (go_simp;done) | (go_simp;with_reducible rfl))⟩) ?_
 try simp only [Act.put,seti,set0,setS]
 refine tk (i:=3) (oi:=⟨some 6,_,_,_,_,_⟩) (v:=_) rfl (by kernel_rfl) (fun _ _ _ h=>h) (X.out.c4 (i:=0) rfl) (Or.inl ⟨by rfl,by intro w hSw;(try dsimp only at hSw);(first | (go_simp;done) | (go_simp;with_reducible rfl))⟩) ?_
 try simp only [Act.put,seti,set0,setS]
 refine tk (i:=4) (oi:=⟨some 7,_,_,_,_,_⟩) (v:=_) rfl (by kernel_rfl) (fun _ _ _ h=>h) (X.out.c4 (i:=0) rfl) (Or.inl ⟨by rfl,by intro w hSw;(try dsimp only at hSw);(first | (go_simp;done) | (go_simp;with_reducible rfl))⟩) ?_
 try simp only [Act.put,seti,set0,setS]
 refine wpLate_one (i:=2) (o:=⟨some 5,_,_,_,_,_⟩) (by kernel_rfl) rfl (fun K hK=>?_)
 go_simp
 (go_at_call 107;refine (HS.out _).mono ?_;rintro e u1 ⟨rfl,hb9⟩;have X:=Lib.hid (X.out.next hb9);clear hb9)
 try go_wp2_with fail
 refine hK.out _ _ (Or.inr (fun _=>X.out.c4 (i:=0) rfl)) ?_
 clear hK K
 try simp only [Act.put,seti,set0,setS]
 refine tk (i:=5) (oi:=⟨some 8,_,_,_,_,_⟩) (v:=_) rfl (by kernel_rfl) (fun _ _ _ h=>h) (X.out.c4 (i:=0) rfl) (Or.inl ⟨by rfl,by intro w hSw;(try dsimp only at hSw);(first | (go_simp;done) | (go_simp;with_reducible rfl))⟩) ?_
 try simp only [Act.put,seti,set0,setS]
 refine wpLate_one (i:=6) (o:=⟨none,_,_,_,_,_⟩) (by kernel_rfl) rfl (fun K hK=>?_)
 obtain ⟨x0,x1,x2,x3⟩:=X.out.c4 (i:=1) rfl
 obtain ⟨y0,y1,y2,y3⟩:=X.out.f4 (i:=1) rfl
 have X:=Lib.hid (X.out.set4 (i:=1) rfl (.bool b2) (.string m2) (.bool false) (.string k))
 go_simp
 refine hK.out _ _ (Or.inr (fun _=>X.out.c4 (i:=0) rfl)) ?_
 clear hK K x0 x1 x2 x3 y0 y1 y2 y3
 try simp only [Act.put,seti,set0,setS]
 obtain ⟨W2,hV⟩:=wexi X.out
 rw [←hV] at X ⊢
 clear hV
 refine wpLate_done (by kernel_rfl) ?_ _
 go_wp2
 obtain ⟨p0,p1,p2,p3⟩:=X.out.c4 (i:=1) rfl
 exact bodyPost_ret (v:=.agg #[.bool b2,.string m2,.bool false,.string k]) (by simp [results,Tryz.results80,go_sem,p0,p1,p2,p3]) rfl ⟨rfl,X.out.bel⟩

end Go.Proofs.YtpnokfgplnmjpaaGreatDoor


namespace Go.Proofs.YtpnokfgplnmjpaaGreatDoor
open Go.RowKit
attribute [local go_sem ↓] Go.wp_at_zero Go.wp_at_succ

theorem divInt_self2 (q:Rat):Rat.divInt q.num (q.den:Int)=q:=by rw [Rat.divInt_ofNat];exact Rat.mkRat_self q

set_option maxHeartbeats 16000000 in
set_option maxRecDepth 100000 in
theorem rMul_f {p q:Rat} {b1 b2 b3:Bool} {m1 m2 m3 k1 k2 k3:ByteArray} (hp:Rq p b1 m1 k1) (hq:Rq q b2 m2 k2) (hr:Rq (p*q) b3 m3 k3) (s1:m1.size≤10000) (s2:m2.size≤10000) (s3:(mag p.den).size≤10000) (s4:(mag q.den).size≤10000) (w:World) :
  Calls Tryz.prog 78 #[.agg #[.bool b1,.string m1,.bool false,.string k1],.agg #[.bool b2,.string m2,.bool false,.string k2]] w (RetB w (.agg #[.bool b3,.string m3,.bool false,.string k3])):=by
 have ks:∀ {x:Rat} {b:Bool} {m k:ByteArray},Rq x b m k→(mag x.den).size≤10000→k.size≤10000:=fun {x b m k} h hs=>by
  by_cases hd:x.den=1
  · rw [h.den1 hd];exact Nat.zero_le _
  · rw [h.den2 hd];exact hs
 have HF1:=Lib.hid (fun V=>rof2 hp (by omega) (by have:=ks hp s3;omega) V)
 have HF2:=Lib.hid (fun V=>rof2 hq (by omega) (by have:=ks hq s4;omega) V)
 have n0:nd p.num.natAbs≤10000:=by unfold nd;rw [←hp.mag.2];exact s1
 have n1:nd p.den≤10000:=s3
 have n2:nd q.num.natAbs≤10000:=by unfold nd;rw [←hq.mag.2];exact s2
 have n3:nd q.den≤10000:=s4
 have HN0:=Lib.hid n0
 have HN1:=Lib.hid n1
 have HN2:=Lib.hid n2
 have HN3:=Lib.hid n3
 have n4:=nd_mul p.num.natAbs q.num.natAbs
 have n5:=nd_mul p.den q.den
 have hr':Rq (mkRat (sgn (b1 != b2) (p.num.natAbs*q.num.natAbs)) (p.den*q.den)) b3 m3 k3:=by
  rw [hp.mag.1,hq.mag.1,sgn_mul,←Rat.mul_def']
  exact hr
 have hY:0<p.den*q.den:=Nat.mul_pos p.den_pos q.den_pos
 have hcn:∀ (A B:Option Addr) (n m c d:Nat) (V:World),Tr V A n c (p.num.natAbs*q.num.natAbs)→Tr V B m d (p.den*q.den)→Calls Tryz.prog 123 #[.agg #[.bool (b1 != b2),.slice A n c,.slice B m d]] V (RetB V (.agg #[.bool b3,.string m3,.bool false,.string k3])):=by
  intro A B n m c d V hA hB
  refine (rcanonical (b1 != b2) A B n m c d _ _ V (by have:=hA.ln;omega) (by have:=hB.ln;omega) hA hB hY).mono ?_
  rintro e w3 ⟨b4,m4,k4,rfl,hq4,hb3⟩
  obtain ⟨rfl,rfl,rfl⟩:=hr'.inj hq4
  exact ⟨rfl,hb3⟩
 have HCN:=Lib.hid hcn
 have X:=Lib.hid ((((Sb.start w).new #[.bool b1,.string m1,.bool false,.string k1] 25).new #[.bool b2,.string m2,.bool false,.string k2] 25).new #[.bool false,.string ⟨#[]⟩,.bool false,.string ⟨#[]⟩] 25)
 have X:=Lib.hid (X.out.pick [0,1,2] [(w.heap.size,#[.bool b1,.string m1,.bool false,.string k1],25),(w.heap.size+1,#[.bool b2,.string m2,.bool false,.string k2],25),(w.heap.size+1+1,#[.bool false,.string ⟨#[]⟩,.bool false,.string ⟨#[]⟩],25)] [] (by simp) (by decide) (by simp))
 clear hp hq hr hr' hcn hY n0 n1 n2 n3 n4 n5 s1 s2 s3 s4 ks
 go_enter Tryz.func78,Tryz.ntmps78
 go_upto_region 1 with fail
 go_cut [5,6] (fun s5 s6 wx=>∃ g5 g6 A1 n1 c1 B1 x1 d1 A3 n3 c3 B3 x3 d3,s5=.pointer (some ⟨g5,0,none⟩)∧s6=.pointer (some ⟨g6,0,none⟩)∧Sb w [(w.heap.size+1+1,#[.bool false,.string ⟨#[]⟩,.bool false,.string ⟨#[]⟩],25),(g5,#[.bool b1,.slice A1 n1 c1,.slice B1 x1 d1],110),(g6,#[.bool b2,.slice A3 n3 c3,.slice B3 x3 d3],110)] [(A1,n1,c1,p.num.natAbs),(B1,x1,d1,p.den),(A3,n3,c3,q.num.natAbs),(B3,x3,d3,q.den)] wx)
 case first =>
  refine wp_region_any (by kernel_rfl) ?_
  have X:=Lib.hid X.out.drew
  obtain ⟨W0,hV⟩:=wexi X.out
  rw [show ∀ v:World,{ v with drawn:=v.drawn+1 }=v.drew from fun _=>rfl,←hV]
  rw [←hV] at X
  clear hV
  refine rg_run (ef:=[.val (.agg #[.bool b1,.string m1,.bool false,.string k1]),.rel (FracP b1 p.num.natAbs p.den),.val (.agg #[.bool b2,.string m2,.bool false,.string k2]),.rel (FracP b2 q.num.natAbs q.den),.new #[.bool false,.slice none 0 0,.slice none 0 0] 110,.new #[.bool false,.slice none 0 0,.slice none 0 0] 110]) (ds:=[7,8,9,10,5,6]) (by kernel_rfl) (stays_of (List.forall_mem_cons.2 ⟨trivial,(List.forall_mem_cons.2 ⟨fine_frac _ _ _,(List.forall_mem_cons.2 ⟨trivial,(List.forall_mem_cons.2 ⟨fine_frac _ _ _,(List.forall_mem_cons.2 ⟨trivial,(List.forall_mem_cons.2 ⟨trivial,(fun _ h=>by simp at h)⟩)⟩)⟩)⟩)⟩)⟩)) (by decide) rfl (by intro d hd;simp at hd ⊢;omega) (fun i d o hd ho listed a w1 hR hdep K hK=>?_) 2 (fun a w1 hR=>?_)
  · have X:=Lib.hid (X.out.next hR.bel)
    have HKt:=Lib.hid hK
    have HDp:=Lib.hid hdep
    have sl2:a.tmps.getD 2 undef=.pointer (some ⟨w.heap.size,0,none⟩):=hR.keep 2 (by decide)
    have sl3:a.tmps.getD 3 undef=.pointer (some ⟨w.heap.size+1,0,none⟩):=hR.keep 3 (by decide)
    have HRg:=Lib.hid hR
    clear hK hdep hR
    rcases i with _ | _ | _ | _ | _ | _ | i
    · cases hd
      cases ho
      obtain ⟨x00,x01,x02,x03⟩:=X.out.c4 (i:=0) rfl
      obtain ⟨x10,x11,x12,x13⟩:=X.out.c4 (i:=1) rfl
      go_simp
      exact HKt.out _ _ (Or.inl ⟨rfl,Below.refl _ _⟩)
    · cases hd
      cases ho
      have dd0:a.tmps.getD 7 undef=.agg #[.bool b1,.string m1,.bool false,.string k1]:=HRg.out.val 0 _ (HDp.out 0 (by decide)) rfl
      go_simp
      (go_at_call 119;refine (HF1.out _).mono ?_;rintro e u ⟨A9,n9,c9,B9,m9,d9,rfl,hT9,hU9,hb9,_,_⟩)
      try go_wp2_with fail
      exact HKt.out _ _ (Or.inr (Or.inr ⟨_,rfl,⟨A9,n9,c9,B9,m9,d9,rfl,hT9,hU9⟩,hb9⟩))
    · cases hd
      cases ho
      obtain ⟨x00,x01,x02,x03⟩:=X.out.c4 (i:=0) rfl
      obtain ⟨x10,x11,x12,x13⟩:=X.out.c4 (i:=1) rfl
      go_simp
      exact HKt.out _ _ (Or.inl ⟨rfl,Below.refl _ _⟩)
    · cases hd
      cases ho
      have dd2:a.tmps.getD 9 undef=.agg #[.bool b2,.string m2,.bool false,.string k2]:=HRg.out.val 2 _ (HDp.out 2 (by decide)) rfl
      go_simp
      (go_at_call 119;refine (HF2.out _).mono ?_;rintro e u ⟨A9,n9,c9,B9,m9,d9,rfl,hT9,hU9,hb9,_,_⟩)
      try go_wp2_with fail
      exact HKt.out _ _ (Or.inr (Or.inr ⟨_,rfl,⟨A9,n9,c9,B9,m9,d9,rfl,hT9,hU9⟩,hb9⟩))
    · cases hd
      cases ho
      go_simp
      exact HKt.out _ _ (Or.inr (Or.inl ⟨_,_,rfl,rfl,rfl⟩))
    · cases hd
      cases ho
      go_simp
      exact HKt.out _ _ (Or.inr (Or.inl ⟨_,_,rfl,rfl,rfl⟩))
    · cases hd
  obtain ⟨g4,hg4,lg4,kg4⟩:=hR.new 4 _ _ (by rfl) rfl
  obtain ⟨g5,hg5,lg5,kg5⟩:=hR.new 5 _ _ (by rfl) rfl
  have vv0:a.tmps.getD 7 undef=.agg #[.bool b1,.string m1,.bool false,.string k1]:=hR.val 0 _ (by rfl) rfl
  obtain ⟨A1,n1,c1,B1,m1,d1,vv1,hT1,hU1⟩:=hR.rel 1 _ (by rfl) rfl
  replace vv1:a.tmps.getD 8 undef=.agg #[.bool b1,.slice A1 n1 c1,.slice B1 m1 d1]:=vv1
  have vv2:a.tmps.getD 9 undef=.agg #[.bool b2,.string m2,.bool false,.string k2]:=hR.val 2 _ (by rfl) rfl
  obtain ⟨A3,n3,c3,B3,m3,d3,vv3,hT3,hU3⟩:=hR.rel 3 _ (by rfl) rfl
  replace vv3:a.tmps.getD 10 undef=.agg #[.bool b2,.slice A3 n3 c3,.slice B3 m3 d3]:=vv3
  replace hg4:a.tmps.getD 5 undef=.pointer (some ⟨g4,0,none⟩):=hg4
  replace hg5:a.tmps.getD 6 undef=.pointer (some ⟨g5,0,none⟩):=hg5
  have hne:g4≠g5:=fun e=>hR.ne 4 5 _ _ _ _ g4 (by decide) (by rfl) (by rfl) rfl rfl hg4 (by rw [e];exact hg5)
  have X:=Lib.hid (X.out.add2 hR.bel lg4 kg4 lg5 kg5 hne)
  have X:=Lib.hid (X.out.rows [(A1,n1,c1,p.num.natAbs),(B1,m1,d1,p.den),(A3,n3,c3,q.num.natAbs),(B3,m3,d3,q.den)] (List.forall_mem_cons.2 ⟨hT1,List.forall_mem_cons.2 ⟨hU1,(List.forall_mem_cons.2 ⟨hT3,List.forall_mem_cons.2 ⟨hU3,(fun _ h=>by simp at h)⟩⟩)⟩⟩) (by intro x hx;simp at hx;rcases hx with rfl | rfl | rfl | rfl | rfl<;>(intro j k n;rcases j with _ | _ | _ | _ | _ | j<;>simp)))
  have ha:=hR.act
  simp only [List.foldl_cons,List.foldl_nil,seti,set0,setS,vv0,vv1,vv2,vv3,hg4,hg5] at ha
  subst ha
  clear hR vv0 vv1 vv2 vv3 hg4 lg4 kg4 hg5 lg5 kg5 hne
  refine wpAny_of_late (S:=fun _=>True) (L:=[]) _ _ _ _ ?_
  refine wpLate_one (i:=6) (o:=⟨none,_,_,_,_,_⟩) (by kernel_rfl) rfl (fun K hK=>?_)
  obtain ⟨x0,x1,x2⟩:=X.out.c3 (i:=3) rfl
  obtain ⟨y0,y1,y2⟩:=X.out.f3 (i:=3) rfl
  have X:=Lib.hid (X.out.set3 (i:=3) rfl (.bool b1) (.slice A1 n1 c1) (.slice B1 m1 d1))
  go_simp
  refine hK.out _ _ (Or.inr fun _=>trivial) ?_
  clear hK K x0 x1 x2 y0 y1 y2
  obtain ⟨W6,hV⟩:=wexi X.out
  rw [←hV] at X ⊢
  clear hV
  try simp only [Act.put]
  refine wpLate_one (i:=7) (o:=⟨none,_,_,_,_,_⟩) (by kernel_rfl) rfl (fun K hK=>?_)
  obtain ⟨x0,x1,x2⟩:=X.out.c3 (i:=4) rfl
  obtain ⟨y0,y1,y2⟩:=X.out.f3 (i:=4) rfl
  have X:=Lib.hid (X.out.set3 (i:=4) rfl (.bool b2) (.slice A3 n3 c3) (.slice B3 m3 d3))
  go_simp
  refine hK.out _ _ (Or.inr fun _=>trivial) ?_
  clear hK K x0 x1 x2 y0 y1 y2
  obtain ⟨W7,hV⟩:=wexi X.out
  rw [←hV] at X ⊢
  clear hV
  try simp only [Act.put]
  refine wpLate_done (by kernel_rfl) ?_ _
  go_wp2_with fail
  go_meet
  exact ⟨_,_,_,_,_,_,_,_,_,_,_,_,_,_,rfl,rfl,X.out.pick [2,3,4] _ _ rfl (by decide) (fun _ h=>h)⟩
 obtain ⟨g5,g6,A1,n1,c1,B1,x1,d1,A3,n3,c3,B3,x3,d3,rfl,rfl,hX⟩:=hcut
 have X:=Lib.hid hX
 clear hX
 go_upto_region 2 with fail
 refine wp_region_late (S:=fun w'=>(w'.cell? ⟨g5,0,none⟩=some (.bool b1)∧w'.cell? ⟨g5,1,none⟩=some (.slice A1 n1 c1)∧w'.cell? ⟨g5,2,none⟩=some (.slice B1 x1 d1))∧(w'.cell? ⟨g6,0,none⟩=some (.bool b2)∧w'.cell? ⟨g6,1,none⟩=some (.slice A3 n3 c3)∧w'.cell? ⟨g6,2,none⟩=some (.slice B3 x3 d3))) (L:=[]) (by kernel_rfl) ?_
 have X:=Lib.hid X.out.drew
 obtain ⟨V0,hV⟩:=wexi X.out
 rw [←hV] at X ⊢
 clear hV
 refine tk (i:=0) (oi:=⟨some 11,_,_,_,_,_⟩) (v:=_) rfl (by kernel_rfl) (fun _ _ _ h=>h) (⟨X.out.c3 (i:=1) rfl,X.out.c3 (i:=2) rfl⟩) (Or.inl ⟨by rfl,by intro w hSw;(try dsimp only at hSw);(first | (go_simp;done) | (go_simp;with_reducible rfl))⟩) ?_
 try simp only [Act.put,seti,set0,setS]
 refine tk (i:=1) (oi:=⟨some 12,_,_,_,_,_⟩) (v:=_) rfl (by kernel_rfl) (fun _ _ _ h=>h) (⟨X.out.c3 (i:=1) rfl,X.out.c3 (i:=2) rfl⟩) (Or.inl ⟨by rfl,by intro w hSw;(try dsimp only at hSw);(first | (go_simp;done) | (go_simp;with_reducible rfl))⟩) ?_
 try simp only [Act.put,seti,set0,setS]
 refine tk (i:=2) (oi:=⟨some 13,_,_,_,_,_⟩) (v:=_) rfl (by kernel_rfl) (fun _ _ _ h=>h) (⟨X.out.c3 (i:=1) rfl,X.out.c3 (i:=2) rfl⟩) (Or.inl ⟨by rfl,by intro w hSw;(try dsimp only at hSw);(first | (go_simp;done) | (go_simp;with_reducible rfl))⟩) ?_
 try simp only [Act.put,seti,set0,setS]
 refine tk (i:=3) (oi:=⟨some 14,_,_,_,_,_⟩) (v:=_) rfl (by kernel_rfl) (fun _ _ _ h=>h) (⟨X.out.c3 (i:=1) rfl,X.out.c3 (i:=2) rfl⟩) (Or.inl ⟨by rfl,by intro w hSw;(try dsimp only at hSw);(first | (go_simp;done) | (go_simp;with_reducible rfl))⟩) ?_
 try simp only [Act.put,seti,set0,setS]
 refine tk (i:=4) (oi:=⟨some 15,_,_,_,_,_⟩) (v:=_) rfl (by kernel_rfl) (fun _ _ _ h=>h) (⟨X.out.c3 (i:=1) rfl,X.out.c3 (i:=2) rfl⟩) (Or.inl ⟨by rfl,by intro w hSw;(try dsimp only at hSw);(first | (go_simp;done) | (go_simp;with_reducible rfl))⟩) ?_
 try simp only [Act.put,seti,set0,setS]
 refine tk (i:=5) (oi:=⟨some 16,_,_,_,_,_⟩) (v:=_) rfl (by kernel_rfl) (fun _ _ _ h=>h) (⟨X.out.c3 (i:=1) rfl,X.out.c3 (i:=2) rfl⟩) (Or.inl ⟨by rfl,by intro w hSw;(try dsimp only at hSw);(first | (go_simp;done) | (go_simp;with_reducible rfl))⟩) ?_
 try simp only [Act.put,seti,set0,setS]
 refine tk (i:=6) (oi:=⟨some 17,_,_,_,_,_⟩) (v:=_) rfl (by kernel_rfl) (fun _ _ _ h=>h) (⟨X.out.c3 (i:=1) rfl,X.out.c3 (i:=2) rfl⟩) (Or.inl ⟨by rfl,by intro w hSw;(try dsimp only at hSw);(first | (go_simp;done) | (go_simp;with_reducible rfl))⟩) ?_
 try simp only [Act.put,seti,set0,setS]
 refine tk (i:=7) (oi:=⟨some 18,_,_,_,_,_⟩) (v:=_) rfl (by kernel_rfl) (fun _ _ _ h=>h) (⟨X.out.c3 (i:=1) rfl,X.out.c3 (i:=2) rfl⟩) (Or.inl ⟨by rfl,by intro w hSw;(try dsimp only at hSw);(first | (go_simp;done) | (go_simp;with_reducible rfl))⟩) ?_
 try simp only [Act.put,seti,set0,setS]
 refine tk (i:=8) (oi:=⟨some 19,_,_,_,_,_⟩) (v:=_) rfl (by kernel_rfl) (fun _ _ _ h=>h) (⟨X.out.c3 (i:=1) rfl,X.out.c3 (i:=2) rfl⟩) (Or.inl ⟨by rfl,by intro w hSw;(try dsimp only at hSw);(first | (go_simp;done) | (go_simp;with_reducible rfl))⟩) ?_
 try simp only [Act.put,seti,set0,setS]
 refine tk (i:=10) (oi:=⟨some 21,_,_,_,_,_⟩) (v:=_) rfl (by kernel_rfl) (fun _ _ _ h=>h) (⟨X.out.c3 (i:=1) rfl,X.out.c3 (i:=2) rfl⟩) (Or.inl ⟨by rfl,by intro w hSw;(try dsimp only at hSw);(first | (go_simp;done) | (go_simp;with_reducible rfl))⟩) ?_
 try simp only [Act.put,seti,set0,setS]
 refine tk (i:=11) (oi:=⟨some 22,_,_,_,_,_⟩) (v:=_) rfl (by kernel_rfl) (fun _ _ _ h=>h) (⟨X.out.c3 (i:=1) rfl,X.out.c3 (i:=2) rfl⟩) (Or.inl ⟨by rfl,by intro w hSw;(try dsimp only at hSw);(first | (go_simp;done) | (go_simp;with_reducible rfl))⟩) ?_
 try simp only [Act.put,seti,set0,setS]
 refine tk (i:=12) (oi:=⟨some 23,_,_,_,_,_⟩) (v:=_) rfl (by kernel_rfl) (fun _ _ _ h=>h) (⟨X.out.c3 (i:=1) rfl,X.out.c3 (i:=2) rfl⟩) (Or.inl ⟨by rfl,by intro w hSw;(try dsimp only at hSw);(first | (go_simp;done) | (go_simp;with_reducible rfl))⟩) ?_
 try simp only [Act.put,seti,set0,setS]
 refine tk (i:=13) (oi:=⟨some 24,_,_,_,_,_⟩) (v:=_) rfl (by kernel_rfl) (fun _ _ _ h=>h) (⟨X.out.c3 (i:=1) rfl,X.out.c3 (i:=2) rfl⟩) (Or.inl ⟨by rfl,by intro w hSw;(try dsimp only at hSw);(first | (go_simp;done) | (go_simp;with_reducible rfl))⟩) ?_
 try simp only [Act.put,seti,set0,setS]
 refine wpLate_one (i:=9) (o:=⟨some 20,_,_,_,_,_⟩) (by kernel_rfl) rfl (fun K hK=>?_)
 go_simp
 (go_at_call 122;refine (rtimes _ _ _ _ _ _ _ _ _ (by have h:=(X.out.rw (i:=0) rfl).ln;have h2:=HN0.out;omega) (by have h:=(X.out.rw (i:=2) rfl).ln;have h2:=HN2.out;omega) (X.out.rw (i:=0) rfl).dg (X.out.rw (i:=2) rfl).dg).mono ?_;rintro e u1 ⟨A1,n1,c1,rfl,ht9,hb9,hf9⟩;have X:=Lib.hid (X.out.row hb9 ht9 hf9);clear hb9 ht9 hf9)
 try go_wp2_with fail
 refine hK.out _ _ (Or.inr (fun _=>⟨X.out.c3 (i:=1) rfl,X.out.c3 (i:=2) rfl⟩)) ?_
 clear hK K
 try simp only [Act.put,seti,set0,setS]
 refine wpLate_one (i:=14) (o:=⟨some 25,_,_,_,_,_⟩) (by kernel_rfl) rfl (fun K hK=>?_)
 go_simp
 (go_at_call 122;refine (rtimes _ _ _ _ _ _ _ _ _ (by have h:=(X.out.rw (i:=1) rfl).ln;have h2:=HN1.out;omega) (by have h:=(X.out.rw (i:=3) rfl).ln;have h2:=HN3.out;omega) (X.out.rw (i:=1) rfl).dg (X.out.rw (i:=3) rfl).dg).mono ?_;rintro e u2 ⟨A2,n2,c2,rfl,ht9,hb9,hf9⟩;have X:=Lib.hid (X.out.row hb9 ht9 hf9);clear hb9 ht9 hf9)
 try go_wp2_with fail
 refine hK.out _ _ (Or.inr (fun _=>⟨X.out.c3 (i:=1) rfl,X.out.c3 (i:=2) rfl⟩)) ?_
 clear hK K
 try simp only [Act.put,seti,set0,setS]
 refine tk (i:=15) (oi:=⟨some 26,_,_,_,_,_⟩) (v:=_) rfl (by kernel_rfl) (fun _ _ _ h=>h) (⟨X.out.c3 (i:=1) rfl,X.out.c3 (i:=2) rfl⟩) (Or.inl ⟨by rfl,by intro w hSw;(try dsimp only at hSw);(first | (go_simp;done) | (go_simp;with_reducible rfl))⟩) ?_
 try simp only [Act.put,seti,set0,setS]
 refine wpLate_one (i:=16) (o:=⟨some 27,_,_,_,_,_⟩) (by kernel_rfl) rfl (fun K hK=>?_)
 go_simp
 (go_at_call 123;refine (HCN.out _ _ _ _ _ _ _ (X.out.rw (i:=4) rfl) (X.out.rw (i:=5) rfl)).mono ?_;rintro e u3 ⟨rfl,hb9⟩;have X:=Lib.hid (X.out.next hb9);clear hb9)
 try go_wp2_with fail
 refine hK.out _ _ (Or.inr (fun _=>⟨X.out.c3 (i:=1) rfl,X.out.c3 (i:=2) rfl⟩)) ?_
 clear hK K
 try simp only [Act.put,seti,set0,setS]
 refine wpLate_one (i:=17) (o:=⟨none,_,_,_,_,_⟩) (by kernel_rfl) rfl (fun K hK=>?_)
 obtain ⟨x0,x1,x2,x3⟩:=X.out.c4 (i:=0) rfl
 obtain ⟨y0,y1,y2,y3⟩:=X.out.f4 (i:=0) rfl
 have X:=Lib.hid (X.out.set4 (i:=0) rfl (.bool b3) (.string m3) (.bool false) (.string k3))
 go_simp
 refine hK.out _ _ (Or.inr (fun _=>⟨X.out.c3 (i:=1) rfl,X.out.c3 (i:=2) rfl⟩)) ?_
 clear hK K x0 x1 x2 x3 y0 y1 y2 y3
 try simp only [Act.put,seti,set0,setS]
 obtain ⟨W4,hV⟩:=wexi X.out
 rw [←hV] at X ⊢
 clear hV
 refine wpLate_done (by kernel_rfl) ?_ _
 go_wp2
 obtain ⟨p0,p1,p2,p3⟩:=X.out.c4 (i:=0) rfl
 exact bodyPost_ret (v:=.agg #[.bool b3,.string m3,.bool false,.string k3]) (by simp [results,Tryz.results78,go_sem,p0,p1,p2,p3]) rfl ⟨rfl,X.out.bel⟩

set_option maxHeartbeats 16000000 in
set_option maxRecDepth 100000 in
theorem rDiv_f {p q:Rat} {b1 b2 b3:Bool} {m1 m2 m3 k1 k2 k3:ByteArray} (hp:Rq p b1 m1 k1) (hq:Rq q b2 m2 k2) (hr:Rq (p / q) b3 m3 k3) (h0:q.num≠0) (s1:m1.size≤10000) (s2:m2.size≤10000) (s3:(mag p.den).size≤10000) (s4:(mag q.den).size≤10000) (w:World) :
  Calls Tryz.prog 82 #[.agg #[.bool b1,.string m1,.bool false,.string k1],.agg #[.bool b2,.string m2,.bool false,.string k2]] w (RetB w (.agg #[.bool b3,.string m3,.bool false,.string k3])):=by
 have ks:∀ {x:Rat} {b:Bool} {m k:ByteArray},Rq x b m k→(mag x.den).size≤10000→k.size≤10000:=fun {x b m k} h hs=>by
  by_cases hd:x.den=1
  · rw [h.den1 hd];exact Nat.zero_le _
  · rw [h.den2 hd];exact hs
 have HF1:=Lib.hid (fun V=>rof2 hp (by omega) (by have:=ks hp s3;omega) V)
 have HF2:=Lib.hid (fun V=>rof2 hq (by omega) (by have:=ks hq s4;omega) V)
 have n0:nd p.num.natAbs≤10000:=by unfold nd;rw [←hp.mag.2];exact s1
 have n1:nd p.den≤10000:=s3
 have n2:nd q.num.natAbs≤10000:=by unfold nd;rw [←hq.mag.2];exact s2
 have n3:nd q.den≤10000:=s4
 have HN0:=Lib.hid n0
 have HN1:=Lib.hid n1
 have HN2:=Lib.hid n2
 have HN3:=Lib.hid n3
 have n4:=nd_mul p.num.natAbs q.den
 have n5:=nd_mul p.den q.num.natAbs
 have hr':Rq (mkRat (sgn (b1 != b2) (p.num.natAbs*q.den)) (p.den*q.num.natAbs)) b3 m3 k3:=by
  have h1:=mk_divInt (p.num*(q.den:Int)) ((p.den:Int)*q.num) (Int.mul_ne_zero (by have:=p.den_nz;omega) h0)
  have e1:decide (p.num*(q.den:Int)<0)=b1:=by
   rw [hp.mag.1]
   have:=q.den_pos
   exact decide_eq_decide.2 ⟨fun h=>by rcases Int.lt_or_le p.num 0 with h2 | h2;exact h2;exact absurd h (by have:=Int.mul_nonneg h2 (show (0:Int)≤q.den by omega);omega),fun h=>Int.mul_neg_of_neg_of_pos h (by omega)⟩
  have e2:decide ((p.den:Int)*q.num<0)=b2:=by
   rw [hq.mag.1]
   have:=p.den_pos
   exact decide_eq_decide.2 ⟨fun h=>by rcases Int.lt_or_le q.num 0 with h2 | h2;exact h2;exact absurd h (by have:=Int.mul_nonneg (show (0:Int)≤p.den by omega) h2;omega),fun h=>Int.mul_neg_of_pos_of_neg (by omega) h⟩
  rw [e1,e2,Int.natAbs_mul,Int.natAbs_mul,Int.natAbs_natCast,Int.natAbs_natCast] at h1
  rw [h1]
  have h2:p / q=Rat.divInt (p.num*(q.den:Int)) ((p.den:Int)*q.num):=by
   rw [Rat.div_def,Rat.inv_def]
   conv=>lhs;lhs;rw [←divInt_self2 p]
   exact Rat.divInt_mul_divInt _ _
  rw [←h2]
  exact hr
 have hY:0<p.den*q.num.natAbs:=Nat.mul_pos p.den_pos (by omega)
 have hcn:∀ (A B:Option Addr) (n m c d:Nat) (V:World),Tr V A n c (p.num.natAbs*q.den)→Tr V B m d (p.den*q.num.natAbs)→Calls Tryz.prog 123 #[.agg #[.bool (b1 != b2),.slice A n c,.slice B m d]] V (RetB V (.agg #[.bool b3,.string m3,.bool false,.string k3])):=by
  intro A B n m c d V hA hB
  refine (rcanonical (b1 != b2) A B n m c d _ _ V (by have:=hA.ln;omega) (by have:=hB.ln;omega) hA hB hY).mono ?_
  rintro e w3 ⟨b4,m4,k4,rfl,hq4,hb3⟩
  obtain ⟨rfl,rfl,rfl⟩:=hr'.inj hq4
  exact ⟨rfl,hb3⟩
 have HCN:=Lib.hid hcn
 have X:=Lib.hid ((((Sb.start w).new #[.bool b1,.string m1,.bool false,.string k1] 25).new #[.bool b2,.string m2,.bool false,.string k2] 25).new #[.bool false,.string ⟨#[]⟩,.bool false,.string ⟨#[]⟩] 25)
 have X:=Lib.hid (X.out.pick [0,1,2] [(w.heap.size,#[.bool b1,.string m1,.bool false,.string k1],25),(w.heap.size+1,#[.bool b2,.string m2,.bool false,.string k2],25),(w.heap.size+1+1,#[.bool false,.string ⟨#[]⟩,.bool false,.string ⟨#[]⟩],25)] [] (by simp) (by decide) (by simp))
 clear hp hq hr hr' hcn hY n0 n1 n2 n3 n4 n5 s1 s2 s3 s4 ks h0
 go_enter Tryz.func82,Tryz.ntmps82
 go_upto_region 1 with fail
 go_cut [5,6] (fun s5 s6 wx=>∃ g5 g6 A1 n1 c1 B1 x1 d1 A3 n3 c3 B3 x3 d3,s5=.pointer (some ⟨g5,0,none⟩)∧s6=.pointer (some ⟨g6,0,none⟩)∧Sb w [(w.heap.size+1+1,#[.bool false,.string ⟨#[]⟩,.bool false,.string ⟨#[]⟩],25),(g5,#[.bool b1,.slice A1 n1 c1,.slice B1 x1 d1],110),(g6,#[.bool b2,.slice A3 n3 c3,.slice B3 x3 d3],110)] [(A1,n1,c1,p.num.natAbs),(B1,x1,d1,p.den),(A3,n3,c3,q.num.natAbs),(B3,x3,d3,q.den)] wx)
 case first =>
  refine wp_region_any (by kernel_rfl) ?_
  have X:=Lib.hid X.out.drew
  obtain ⟨W0,hV⟩:=wexi X.out
  rw [show ∀ v:World,{ v with drawn:=v.drawn+1 }=v.drew from fun _=>rfl,←hV]
  rw [←hV] at X
  clear hV
  refine rg_run (ef:=[.val (.agg #[.bool b1,.string m1,.bool false,.string k1]),.rel (FracP b1 p.num.natAbs p.den),.val (.agg #[.bool b2,.string m2,.bool false,.string k2]),.rel (FracP b2 q.num.natAbs q.den),.new #[.bool false,.slice none 0 0,.slice none 0 0] 110,.new #[.bool false,.slice none 0 0,.slice none 0 0] 110]) (ds:=[7,8,9,10,5,6]) (by kernel_rfl) (stays_of (List.forall_mem_cons.2 ⟨trivial,(List.forall_mem_cons.2 ⟨fine_frac _ _ _,(List.forall_mem_cons.2 ⟨trivial,(List.forall_mem_cons.2 ⟨fine_frac _ _ _,(List.forall_mem_cons.2 ⟨trivial,(List.forall_mem_cons.2 ⟨trivial,(fun _ h=>by simp at h)⟩)⟩)⟩)⟩)⟩)⟩)) (by decide) rfl (by intro d hd;simp at hd ⊢;omega) (fun i d o hd ho listed a w1 hR hdep K hK=>?_) 2 (fun a w1 hR=>?_)
  · have X:=Lib.hid (X.out.next hR.bel)
    have HKt:=Lib.hid hK
    have HDp:=Lib.hid hdep
    have sl2:a.tmps.getD 2 undef=.pointer (some ⟨w.heap.size,0,none⟩):=hR.keep 2 (by decide)
    have sl3:a.tmps.getD 3 undef=.pointer (some ⟨w.heap.size+1,0,none⟩):=hR.keep 3 (by decide)
    have HRg:=Lib.hid hR
    clear hK hdep hR
    rcases i with _ | _ | _ | _ | _ | _ | i
    · cases hd
      cases ho
      obtain ⟨x00,x01,x02,x03⟩:=X.out.c4 (i:=0) rfl
      obtain ⟨x10,x11,x12,x13⟩:=X.out.c4 (i:=1) rfl
      go_simp
      exact HKt.out _ _ (Or.inl ⟨rfl,Below.refl _ _⟩)
    · cases hd
      cases ho
      have dd0:a.tmps.getD 7 undef=.agg #[.bool b1,.string m1,.bool false,.string k1]:=HRg.out.val 0 _ (HDp.out 0 (by decide)) rfl
      go_simp
      (go_at_call 119;refine (HF1.out _).mono ?_;rintro e u ⟨A9,n9,c9,B9,m9,d9,rfl,hT9,hU9,hb9,_,_⟩)
      try go_wp2_with fail
      exact HKt.out _ _ (Or.inr (Or.inr ⟨_,rfl,⟨A9,n9,c9,B9,m9,d9,rfl,hT9,hU9⟩,hb9⟩))
    · cases hd
      cases ho
      obtain ⟨x00,x01,x02,x03⟩:=X.out.c4 (i:=0) rfl
      obtain ⟨x10,x11,x12,x13⟩:=X.out.c4 (i:=1) rfl
      go_simp
      exact HKt.out _ _ (Or.inl ⟨rfl,Below.refl _ _⟩)
    · cases hd
      cases ho
      have dd2:a.tmps.getD 9 undef=.agg #[.bool b2,.string m2,.bool false,.string k2]:=HRg.out.val 2 _ (HDp.out 2 (by decide)) rfl
      go_simp
      (go_at_call 119;refine (HF2.out _).mono ?_;rintro e u ⟨A9,n9,c9,B9,m9,d9,rfl,hT9,hU9,hb9,_,_⟩)
      try go_wp2_with fail
      exact HKt.out _ _ (Or.inr (Or.inr ⟨_,rfl,⟨A9,n9,c9,B9,m9,d9,rfl,hT9,hU9⟩,hb9⟩))
    · cases hd
      cases ho
      go_simp
      exact HKt.out _ _ (Or.inr (Or.inl ⟨_,_,rfl,rfl,rfl⟩))
    · cases hd
      cases ho
      go_simp
      exact HKt.out _ _ (Or.inr (Or.inl ⟨_,_,rfl,rfl,rfl⟩))
    · cases hd
  obtain ⟨g4,hg4,lg4,kg4⟩:=hR.new 4 _ _ (by rfl) rfl
  obtain ⟨g5,hg5,lg5,kg5⟩:=hR.new 5 _ _ (by rfl) rfl
  have vv0:a.tmps.getD 7 undef=.agg #[.bool b1,.string m1,.bool false,.string k1]:=hR.val 0 _ (by rfl) rfl
  obtain ⟨A1,n1,c1,B1,m1,d1,vv1,hT1,hU1⟩:=hR.rel 1 _ (by rfl) rfl
  replace vv1:a.tmps.getD 8 undef=.agg #[.bool b1,.slice A1 n1 c1,.slice B1 m1 d1]:=vv1
  have vv2:a.tmps.getD 9 undef=.agg #[.bool b2,.string m2,.bool false,.string k2]:=hR.val 2 _ (by rfl) rfl
  obtain ⟨A3,n3,c3,B3,m3,d3,vv3,hT3,hU3⟩:=hR.rel 3 _ (by rfl) rfl
  replace vv3:a.tmps.getD 10 undef=.agg #[.bool b2,.slice A3 n3 c3,.slice B3 m3 d3]:=vv3
  replace hg4:a.tmps.getD 5 undef=.pointer (some ⟨g4,0,none⟩):=hg4
  replace hg5:a.tmps.getD 6 undef=.pointer (some ⟨g5,0,none⟩):=hg5
  have hne:g4≠g5:=fun e=>hR.ne 4 5 _ _ _ _ g4 (by decide) (by rfl) (by rfl) rfl rfl hg4 (by rw [e];exact hg5)
  have X:=Lib.hid (X.out.add2 hR.bel lg4 kg4 lg5 kg5 hne)
  have X:=Lib.hid (X.out.rows [(A1,n1,c1,p.num.natAbs),(B1,m1,d1,p.den),(A3,n3,c3,q.num.natAbs),(B3,m3,d3,q.den)] (List.forall_mem_cons.2 ⟨hT1,List.forall_mem_cons.2 ⟨hU1,(List.forall_mem_cons.2 ⟨hT3,List.forall_mem_cons.2 ⟨hU3,(fun _ h=>by simp at h)⟩⟩)⟩⟩) (by intro x hx;simp at hx;rcases hx with rfl | rfl | rfl | rfl | rfl<;>(intro j k n;rcases j with _ | _ | _ | _ | _ | j<;>simp)))
  have ha:=hR.act
  simp only [List.foldl_cons,List.foldl_nil,seti,set0,setS,vv0,vv1,vv2,vv3,hg4,hg5] at ha
  subst ha
  clear hR vv0 vv1 vv2 vv3 hg4 lg4 kg4 hg5 lg5 kg5 hne
  refine wpAny_of_late (S:=fun _=>True) (L:=[]) _ _ _ _ ?_
  refine wpLate_one (i:=6) (o:=⟨none,_,_,_,_,_⟩) (by kernel_rfl) rfl (fun K hK=>?_)
  obtain ⟨x0,x1,x2⟩:=X.out.c3 (i:=3) rfl
  obtain ⟨y0,y1,y2⟩:=X.out.f3 (i:=3) rfl
  have X:=Lib.hid (X.out.set3 (i:=3) rfl (.bool b1) (.slice A1 n1 c1) (.slice B1 m1 d1))
  go_simp
  refine hK.out _ _ (Or.inr fun _=>trivial) ?_
  clear hK K x0 x1 x2 y0 y1 y2
  obtain ⟨W6,hV⟩:=wexi X.out
  rw [←hV] at X ⊢
  clear hV
  try simp only [Act.put]
  refine wpLate_one (i:=7) (o:=⟨none,_,_,_,_,_⟩) (by kernel_rfl) rfl (fun K hK=>?_)
  obtain ⟨x0,x1,x2⟩:=X.out.c3 (i:=4) rfl
  obtain ⟨y0,y1,y2⟩:=X.out.f3 (i:=4) rfl
  have X:=Lib.hid (X.out.set3 (i:=4) rfl (.bool b2) (.slice A3 n3 c3) (.slice B3 m3 d3))
  go_simp
  refine hK.out _ _ (Or.inr fun _=>trivial) ?_
  clear hK K x0 x1 x2 y0 y1 y2
  obtain ⟨W7,hV⟩:=wexi X.out
  rw [←hV] at X ⊢
  clear hV
  try simp only [Act.put]
  refine wpLate_done (by kernel_rfl) ?_ _
  go_wp2_with fail
  go_meet
  exact ⟨_,_,_,_,_,_,_,_,_,_,_,_,_,_,rfl,rfl,X.out.pick [2,3,4] _ _ rfl (by decide) (fun _ h=>h)⟩
 obtain ⟨g5,g6,A1,n1,c1,B1,x1,d1,A3,n3,c3,B3,x3,d3,rfl,rfl,hX⟩:=hcut
 have X:=Lib.hid hX
 clear hX
 go_upto_region 2 with fail
 refine wp_region_late (S:=fun w'=>(w'.cell? ⟨g5,0,none⟩=some (.bool b1)∧w'.cell? ⟨g5,1,none⟩=some (.slice A1 n1 c1)∧w'.cell? ⟨g5,2,none⟩=some (.slice B1 x1 d1))∧(w'.cell? ⟨g6,0,none⟩=some (.bool b2)∧w'.cell? ⟨g6,1,none⟩=some (.slice A3 n3 c3)∧w'.cell? ⟨g6,2,none⟩=some (.slice B3 x3 d3))) (L:=[]) (by kernel_rfl) ?_
 have X:=Lib.hid X.out.drew
 obtain ⟨V0,hV⟩:=wexi X.out
 rw [←hV] at X ⊢
 clear hV
 refine tk (i:=0) (oi:=⟨some 11,_,_,_,_,_⟩) (v:=_) rfl (by kernel_rfl) (fun _ _ _ h=>h) (⟨X.out.c3 (i:=1) rfl,X.out.c3 (i:=2) rfl⟩) (Or.inl ⟨by rfl,by intro w hSw;(try dsimp only at hSw);(first | (go_simp;done) | (go_simp;with_reducible rfl))⟩) ?_
 try simp only [Act.put,seti,set0,setS]
 refine tk (i:=1) (oi:=⟨some 12,_,_,_,_,_⟩) (v:=_) rfl (by kernel_rfl) (fun _ _ _ h=>h) (⟨X.out.c3 (i:=1) rfl,X.out.c3 (i:=2) rfl⟩) (Or.inl ⟨by rfl,by intro w hSw;(try dsimp only at hSw);(first | (go_simp;done) | (go_simp;with_reducible rfl))⟩) ?_
 try simp only [Act.put,seti,set0,setS]
 refine tk (i:=2) (oi:=⟨some 13,_,_,_,_,_⟩) (v:=_) rfl (by kernel_rfl) (fun _ _ _ h=>h) (⟨X.out.c3 (i:=1) rfl,X.out.c3 (i:=2) rfl⟩) (Or.inl ⟨by rfl,by intro w hSw;(try dsimp only at hSw);(first | (go_simp;done) | (go_simp;with_reducible rfl))⟩) ?_
 try simp only [Act.put,seti,set0,setS]
 refine tk (i:=3) (oi:=⟨some 14,_,_,_,_,_⟩) (v:=_) rfl (by kernel_rfl) (fun _ _ _ h=>h) (⟨X.out.c3 (i:=1) rfl,X.out.c3 (i:=2) rfl⟩) (Or.inl ⟨by rfl,by intro w hSw;(try dsimp only at hSw);(first | (go_simp;done) | (go_simp;with_reducible rfl))⟩) ?_
 try simp only [Act.put,seti,set0,setS]
 refine tk (i:=4) (oi:=⟨some 15,_,_,_,_,_⟩) (v:=_) rfl (by kernel_rfl) (fun _ _ _ h=>h) (⟨X.out.c3 (i:=1) rfl,X.out.c3 (i:=2) rfl⟩) (Or.inl ⟨by rfl,by intro w hSw;(try dsimp only at hSw);(first | (go_simp;done) | (go_simp;with_reducible rfl))⟩) ?_
 try simp only [Act.put,seti,set0,setS]
 refine tk (i:=5) (oi:=⟨some 16,_,_,_,_,_⟩) (v:=_) rfl (by kernel_rfl) (fun _ _ _ h=>h) (⟨X.out.c3 (i:=1) rfl,X.out.c3 (i:=2) rfl⟩) (Or.inl ⟨by rfl,by intro w hSw;(try dsimp only at hSw);(first | (go_simp;done) | (go_simp;with_reducible rfl))⟩) ?_
 try simp only [Act.put,seti,set0,setS]
 refine tk (i:=6) (oi:=⟨some 17,_,_,_,_,_⟩) (v:=_) rfl (by kernel_rfl) (fun _ _ _ h=>h) (⟨X.out.c3 (i:=1) rfl,X.out.c3 (i:=2) rfl⟩) (Or.inl ⟨by rfl,by intro w hSw;(try dsimp only at hSw);(first | (go_simp;done) | (go_simp;with_reducible rfl))⟩) ?_
 try simp only [Act.put,seti,set0,setS]
 refine tk (i:=7) (oi:=⟨some 18,_,_,_,_,_⟩) (v:=_) rfl (by kernel_rfl) (fun _ _ _ h=>h) (⟨X.out.c3 (i:=1) rfl,X.out.c3 (i:=2) rfl⟩) (Or.inl ⟨by rfl,by intro w hSw;(try dsimp only at hSw);(first | (go_simp;done) | (go_simp;with_reducible rfl))⟩) ?_
 try simp only [Act.put,seti,set0,setS]
 refine tk (i:=8) (oi:=⟨some 19,_,_,_,_,_⟩) (v:=_) rfl (by kernel_rfl) (fun _ _ _ h=>h) (⟨X.out.c3 (i:=1) rfl,X.out.c3 (i:=2) rfl⟩) (Or.inl ⟨by rfl,by intro w hSw;(try dsimp only at hSw);(first | (go_simp;done) | (go_simp;with_reducible rfl))⟩) ?_
 try simp only [Act.put,seti,set0,setS]
 refine tk (i:=10) (oi:=⟨some 21,_,_,_,_,_⟩) (v:=_) rfl (by kernel_rfl) (fun _ _ _ h=>h) (⟨X.out.c3 (i:=1) rfl,X.out.c3 (i:=2) rfl⟩) (Or.inl ⟨by rfl,by intro w hSw;(try dsimp only at hSw);(first | (go_simp;done) | (go_simp;with_reducible rfl))⟩) ?_
 try simp only [Act.put,seti,set0,setS]
 refine tk (i:=11) (oi:=⟨some 22,_,_,_,_,_⟩) (v:=_) rfl (by kernel_rfl) (fun _ _ _ h=>h) (⟨X.out.c3 (i:=1) rfl,X.out.c3 (i:=2) rfl⟩) (Or.inl ⟨by rfl,by intro w hSw;(try dsimp only at hSw);(first | (go_simp;done) | (go_simp;with_reducible rfl))⟩) ?_
 try simp only [Act.put,seti,set0,setS]
 refine tk (i:=12) (oi:=⟨some 23,_,_,_,_,_⟩) (v:=_) rfl (by kernel_rfl) (fun _ _ _ h=>h) (⟨X.out.c3 (i:=1) rfl,X.out.c3 (i:=2) rfl⟩) (Or.inl ⟨by rfl,by intro w hSw;(try dsimp only at hSw);(first | (go_simp;done) | (go_simp;with_reducible rfl))⟩) ?_
 try simp only [Act.put,seti,set0,setS]
 refine tk (i:=13) (oi:=⟨some 24,_,_,_,_,_⟩) (v:=_) rfl (by kernel_rfl) (fun _ _ _ h=>h) (⟨X.out.c3 (i:=1) rfl,X.out.c3 (i:=2) rfl⟩) (Or.inl ⟨by rfl,by intro w hSw;(try dsimp only at hSw);(first | (go_simp;done) | (go_simp;with_reducible rfl))⟩) ?_
 try simp only [Act.put,seti,set0,setS]
 refine wpLate_one (i:=9) (o:=⟨some 20,_,_,_,_,_⟩) (by kernel_rfl) rfl (fun K hK=>?_)
 go_simp
 (go_at_call 122;refine (rtimes _ _ _ _ _ _ _ _ _ (by have h:=(X.out.rw (i:=0) rfl).ln;have h2:=HN0.out;omega) (by have h:=(X.out.rw (i:=3) rfl).ln;have h2:=HN3.out;omega) (X.out.rw (i:=0) rfl).dg (X.out.rw (i:=3) rfl).dg).mono ?_;rintro e u1 ⟨A1,n1,c1,rfl,ht9,hb9,hf9⟩;have X:=Lib.hid (X.out.row hb9 ht9 hf9);clear hb9 ht9 hf9)
 try go_wp2_with fail
 refine hK.out _ _ (Or.inr (fun _=>⟨X.out.c3 (i:=1) rfl,X.out.c3 (i:=2) rfl⟩)) ?_
 clear hK K
 try simp only [Act.put,seti,set0,setS]
 refine wpLate_one (i:=14) (o:=⟨some 25,_,_,_,_,_⟩) (by kernel_rfl) rfl (fun K hK=>?_)
 go_simp
 (go_at_call 122;refine (rtimes _ _ _ _ _ _ _ _ _ (by have h:=(X.out.rw (i:=1) rfl).ln;have h2:=HN1.out;omega) (by have h:=(X.out.rw (i:=2) rfl).ln;have h2:=HN2.out;omega) (X.out.rw (i:=1) rfl).dg (X.out.rw (i:=2) rfl).dg).mono ?_;rintro e u2 ⟨A2,n2,c2,rfl,ht9,hb9,hf9⟩;have X:=Lib.hid (X.out.row hb9 ht9 hf9);clear hb9 ht9 hf9)
 try go_wp2_with fail
 refine hK.out _ _ (Or.inr (fun _=>⟨X.out.c3 (i:=1) rfl,X.out.c3 (i:=2) rfl⟩)) ?_
 clear hK K
 try simp only [Act.put,seti,set0,setS]
 refine tk (i:=15) (oi:=⟨some 26,_,_,_,_,_⟩) (v:=_) rfl (by kernel_rfl) (fun _ _ _ h=>h) (⟨X.out.c3 (i:=1) rfl,X.out.c3 (i:=2) rfl⟩) (Or.inl ⟨by rfl,by intro w hSw;(try dsimp only at hSw);(first | (go_simp;done) | (go_simp;with_reducible rfl))⟩) ?_
 try simp only [Act.put,seti,set0,setS]
 refine wpLate_one (i:=16) (o:=⟨some 27,_,_,_,_,_⟩) (by kernel_rfl) rfl (fun K hK=>?_)
 go_simp
 (go_at_call 123;refine (HCN.out _ _ _ _ _ _ _ (X.out.rw (i:=4) rfl) (X.out.rw (i:=5) rfl)).mono ?_;rintro e u3 ⟨rfl,hb9⟩;have X:=Lib.hid (X.out.next hb9);clear hb9)
 try go_wp2_with fail
 refine hK.out _ _ (Or.inr (fun _=>⟨X.out.c3 (i:=1) rfl,X.out.c3 (i:=2) rfl⟩)) ?_
 clear hK K
 try simp only [Act.put,seti,set0,setS]
 refine wpLate_one (i:=17) (o:=⟨none,_,_,_,_,_⟩) (by kernel_rfl) rfl (fun K hK=>?_)
 obtain ⟨x0,x1,x2,x3⟩:=X.out.c4 (i:=0) rfl
 obtain ⟨y0,y1,y2,y3⟩:=X.out.f4 (i:=0) rfl
 have X:=Lib.hid (X.out.set4 (i:=0) rfl (.bool b3) (.string m3) (.bool false) (.string k3))
 go_simp
 refine hK.out _ _ (Or.inr (fun _=>⟨X.out.c3 (i:=1) rfl,X.out.c3 (i:=2) rfl⟩)) ?_
 clear hK K x0 x1 x2 x3 y0 y1 y2 y3
 try simp only [Act.put,seti,set0,setS]
 obtain ⟨W4,hV⟩:=wexi X.out
 rw [←hV] at X ⊢
 clear hV
 refine wpLate_done (by kernel_rfl) ?_ _
 go_wp2
 obtain ⟨p0,p1,p2,p3⟩:=X.out.c4 (i:=0) rfl
 exact bodyPost_ret (v:=.agg #[.bool b3,.string m3,.bool false,.string k3]) (by simp [results,Tryz.results82,go_sem,p0,p1,p2,p3]) rfl ⟨rfl,X.out.bel⟩
end Go.Proofs.YtpnokfgplnmjpaaGreatDoor
