import Derived.Test.YtpnokfgplnmjpaaGreatDoorGDivE
import Derived.Deep.RegionHeld3
set_option linter.unusedSimpArgs false
set_option linter.unusedVariables false

namespace Go.Proofs.YtpnokfgplnmjpaaGreatDoor
open Go.RowKit
attribute [local go_sem ↓] Go.wp_at_zero Go.wp_at_succ

theorem quietD {f:FuncId} {args:Array Value} {w:World} {n:Nat} {v:Value} (h:Calls Tryz.prog f args (w.drewN n) fun e w'=>e=.returned v∧Drew (w.drewN n) w') :
 Calls Tryz.prog f args (w.drewN n) fun e w''=>e=.returned v∧∃ m,w''=w.drewN m:=h.mono fun _ _ ⟨he,q,hm⟩=>⟨he,n+q,by rw [hm,World.drewN_drewN]⟩
theorem quietD2 {f:FuncId} {args:Array Value} {w:World} {a n:Nat} {v:Value} (h:Calls Tryz.prog f args (w.drewN (a+n)) fun e w'=>e=.returned v∧Drew (w.drewN (a+n)) w') :
 Calls Tryz.prog f args (w.drewN (a+n)) fun e w''=>e=.returned v∧∃ m,w''=w.drewN (a+m):=h.mono fun _ _ ⟨he,q,hm⟩=>⟨he,n+q,by rw [hm,World.drewN_drewN,Nat.add_assoc]⟩

def RetWd (w:World) (q:Nat) (e:Ending) (w':World):Prop:=e=.returned (.int .u64 (q:Int))∧Drew w w'

set_option maxHeartbeats 2000000 in
set_option maxRecDepth 100000 in
theorem guess_top (g o c h p d r2 v1 v0:Nat) (w:World) (hr2:w.cell? ⟨g,o+2,none⟩=some (.int .u64 (r2:Int)))
  (hv1:w.cell? ⟨h,p+1,none⟩=some (.int .u64 (v1:Int))) (hv0:w.cell? ⟨h,p,none⟩=some (.int .u64 (v0:Int))) (hge:v1≤r2) :
  Calls Tryz.prog 212 #[.slice (some ⟨g,o,none⟩) 3 c,.slice (some ⟨h,p,none⟩) 2 d] w (RetWd w 18446744073709551615):=by
 have hged:decide ((v1:Int)≤(r2:Int))=true:=by simp;omega
 go_enter Tryz.func212,Tryz.ntmps212
 go_wp2_with fail
 go_quiet (fail)
 go_wp2
 go_ret
 exact ⟨rfl,_,rfl⟩

set_option maxHeartbeats 4000000 in
set_option maxRecDepth 100000 in
theorem guess_low (g o c h p d r2 r1 r0 v1 v0:Nat) (w:World) (hr2:w.cell? ⟨g,o+2,none⟩=some (.int .u64 (r2:Int))) (hr1:w.cell? ⟨g,o+1,none⟩=some (.int .u64 (r1:Int))) (hr0:w.cell? ⟨g,o,none⟩=some (.int .u64 (r0:Int)))
  (hv1:w.cell? ⟨h,p+1,none⟩=some (.int .u64 (v1:Int))) (hv0:w.cell? ⟨h,p,none⟩=some (.int .u64 (v0:Int))) (hlt:r2<v1)
  (l1:r1<18446744073709551616) (l0:r0<18446744073709551616) (lv1:v1<18446744073709551616) (lv0:v0<18446744073709551616) (hv:9223372036854775808≤v1) :
  Calls Tryz.prog 212 #[.slice (some ⟨g,o,none⟩) 3 c,.slice (some ⟨h,p,none⟩) 2 d] w (RetWd w (((r2*B64+r1)*B64+r0) / (v1*B64+v0))):=by
 have hB:=B64_eq
 have hged:decide ((v1:Int)≤(r2:Int))=false:=by simp;omega
 obtain ⟨u,hu⟩:∃ u,r2*B64+r1=u:=⟨_,rfl⟩
 have huv:u<v1*B64:=by
  have:(r2+1)*B64≤v1*B64:=Nat.mul_le_mul_right _ hlt
  rw [Nat.add_mul,Nat.one_mul] at this
  omega
 obtain ⟨g1,g2,g3⟩:=half_start (b:=B64) (y1:=v1) (y0:=v0) (u:=u) (d:=r0) (by omega) (by omega) (by omega) (by omega) (by omega) (by omega)
 have hY0:0<v1*B64+v0:=by omega
 rw [hu]
 obtain ⟨q,hq⟩:∃ q,(u*B64+r0) / (v1*B64+v0)=q:=⟨_,rfl⟩
 rw [hq] at g1 g3 ⊢
 have hv1p:0<v1:=by omega
 obtain ⟨Qa,eQa⟩:∃ Q,u / v1=Q:=⟨_,rfl⟩
 obtain ⟨Ra,eRa⟩:∃ R,u%v1=R:=⟨_,rfl⟩
 have sa:Qa*v1+Ra=u:=by have h:=Nat.div_add_mod u v1;rw [eQa,eRa,Nat.mul_comm] at h;exact h
 have lRa:Ra<v1:=by rw [←eRa];exact Nat.mod_lt _ hv1p
 have lQa:Qa<B64:=by rw [←eQa,Nat.div_lt_iff_lt_mul hv1p,Nat.mul_comm];exact huv
 rw [eQa] at g1
 have hdv:=fun W=>div64_any r2 r1 v1 lv1 l1 hlt W
 rw [←B64_eq,hu,eQa,eRa] at hdv
 have HDV:=Lib.hid hdv
 have SA:=Lib.hid sa
 have G1:=Lib.hid g1
 have HQ:=Lib.hid hq
 have hvB:B64≤2*v1:=by omega
 have HY0:=Lib.hid hY0
 have HUV:=Lib.hid (show u<v1*B64+v0 by omega)
 have hQaB:Qa≤18446744073709551615:=by omega
 have hRaB:Ra≤18446744073709551615:=by omega
 have HBB:=Lib.hid hB
 have HVB:=Lib.hid hvB
 clear hdv sa g1 hq hu eQa eRa huv hY0 g2 g3 hB lQa lRa hvB
 go_enter Tryz.func212,Tryz.ntmps212
 go_wp2_with fail
 go_quiet (fail)
 go_wp2_with fail
 go_quiet ((go_at_call 211;first | exact quietD (HDV.out _) | exact quietD2 (HDV.out _)))
 go_wp2_with fail
 have hgn:decide (v1≤r2)=false:=by simp;omega
 rw [hgn]
 go_loopw [7,8] (fun a l wr=>∃ Q R:Nat,a=.int .u64 (Q:Int)∧l=.int .u64 (R:Int)∧Hid (Q*v1+R=u)∧Hid (q≤Q)∧Q≤18446744073709551615∧R≤18446744073709551615∧Drew w wr) (fun a _ _=>(intOf a).toNat)
 case atStart=>exact ⟨Qa,Ra,rfl,rfl,SA,G1,hQaB,hRaB,((Drew.refl w).drewN _).drewN _⟩
 case round =>
  obtain ⟨Q,R,rfl,rfl,HE,HQ2,hQ,hR,hdr⟩:=hrel
  have hr0w:=(hdr.cell ⟨g,o,none⟩).trans hr0
  have hpb:Q*v0≤18446744073709551615*18446744073709551615:=Nat.mul_le_mul hQ (by omega)
  obtain ⟨P,hP⟩:∃ P,Q*v0=P:=⟨_,rfl⟩
  obtain ⟨hi,hhi⟩:∃ v,Q*v0 / 18446744073709551616=v:=⟨_,rfl⟩
  obtain ⟨lo,hlo⟩:∃ v,Q*v0%18446744073709551616=v:=⟨_,rfl⟩
  have HM:=Lib.hid (fun W=>mul64_any Q v0 (by omega) lv0 hi lo hhi hlo W)
  rw [hP] at hhi hlo hpb
  have hPs:P=hi*18446744073709551616+lo:=by omega
  have llo:lo<18446744073709551616:=by omega
  by_cases ht:P≤B64*R+r0
  · have hfin:=half_done (b:=B64) (y1:=v1) (y0:=v0) (u:=u) (d:=r0) (Q:=Q) (R:=R) HY0.out HE.out (by rw [hP];exact ht) (by rw [HQ.out];exact HQ2.out)
    rw [HQ.out] at hfin
    have HF:=Lib.hid hfin
    rw [B64_eq,hPs] at ht
    clear hfin hPs hhi hlo hpb hP
    by_cases hlt1:hi<R
    · clear ht
      go_wp2_with fail
      refine (HM.out _).mono ?_
      rintro e w' ⟨rfl,rfl⟩
      go_wp2
      go_ret
      exact ⟨by rw [←HF.out];rfl,hdr⟩
    · obtain rfl:hi=R:=by omega
      have hle:lo≤r0:=by omega
      have hbl:decide ((hi:Int)<(hi:Int))=false:=by simp
      have hbe:((hi:Int)==(hi:Int))=true:=by simp
      have hbd:decide ((lo:Int)≤(r0:Int))=true:=by simp;omega
      clear ht hlt1
      go_wp2_with fail
      refine (HM.out _).mono ?_
      rintro e w' ⟨rfl,rfl⟩
      go_wp2
      go_ret
      exact ⟨by rw [←HF.out];rfl,hdr⟩
  · have hless:=half_more (b:=B64) (y1:=v1) (y0:=v0) (u:=u) (d:=r0) (Q:=Q) (R:=R) (by have:=HBB.out;omega) HVB.out (by have:=HBB.out;omega) HUV.out (by have:=HBB.out;omega) HE.out (.inr (by rw [hP];omega))
    rw [HQ.out] at hless
    have hbr:=fun (h1:Q-1≤B64) (h2:B64≤R+v1)=>half_done (b:=B64) (y1:=v1) (y0:=v0) (u:=u) (d:=r0) (Q:=Q-1) (R:=R+v1) HY0.out (by have h:=HE.out;obtain ⟨m,hm⟩:∃ m,Q=m+1:=⟨Q-1,by omega⟩;rw [hm,Nat.add_sub_cancel];rw [hm,Nat.add_mul] at h;omega) (half_break (by have:=HBB.out;omega) h1 h2) (by rw [HQ.out];omega)
    rw [HQ.out] at hbr
    have hne1:Hid ((Q-1)*v1+(R+v1)=u):=by
     have h:=HE.out
     obtain ⟨m,hm⟩:∃ m,Q=m+1:=⟨Q-1,by omega⟩
     show _=_
     rw [hm,Nat.add_sub_cancel]
     rw [hm,Nat.add_mul] at h
     omega
    have hq2:Hid (q≤Q-1):=by show _≤_;omega
    have hQ1:Q-1≤18446744073709551615:=by omega
    have hQm:Q-1<Q:=by omega
    have v1e:IntKind.u64.wrap ((Q:Int)-1)=((Q-1:Nat):Int):=wrap_u _ _ (by omega)
    obtain ⟨Qn,hQn⟩:∃ Qn,Q-1=Qn:=⟨_,rfl⟩
    obtain ⟨Rs,hRs⟩:∃ s,(R+v1)%18446744073709551616=s:=⟨_,rfl⟩
    obtain ⟨Ro,hRo⟩:∃ s,(R+v1) / 18446744073709551616=s:=⟨_,rfl⟩
    have ha:=add64_0 R v1 Rs Ro hRs hRo
    rw [hQn] at hbr hne1 hq2 v1e hQ1 hQm
    have HBR:=Lib.hid hbr
    have hcase:Hid (Ro=0→Rs=R+v1):=by show _→_;intro h;omega
    have hcase2:Hid (Ro≠0→B64≤R+v1):=by show _→_;intro h;rw [B64_eq];omega
    have hRsb:Rs≤18446744073709551615:=by omega
    rw [B64_eq,hPs] at ht
    clear hbr hless hPs hhi hlo hpb hP hQn hRs hRo
    have htests:R≤hi∧(((hi:Int)==(R:Int))=false∨(hi=R∧r0<lo)):=by
     refine ⟨by omega,?_⟩
     by_cases h:hi=R
     · exact .inr ⟨h,by omega⟩
     · exact .inl (by simp;omega)
    obtain ⟨tb1,tb2⟩:=htests
    have HT:=Lib.hid ht
    clear ht
    rcases tb2 with tb2 | ⟨rfl,tb2⟩
    all_goals
     try (have tb3:((hi:Int)==(hi:Int))=true:=by simp)
     by_cases hov:Ro=0
     · have hov0:((Ro:Int) != 0)=false:=by simp;omega
       have hRR:=hcase.out hov
       rw [←hRR] at hne1
       clear hRR hov
       go_wp2_with fail
       refine (HM.out _).mono ?_
       rintro e w' ⟨rfl,rfl⟩
       go_wp2
       go_roundw
       case rel=>exact ⟨Qn,Rs,rfl,rfl,hne1,hq2,hQ1,hRsb,hdr⟩
       case measure=>simp [intOf]<;>omega
     · have hov0:((Ro:Int) != 0)=true:=by simp;omega
       have HF:=Lib.hid (HBR.out (by have:=HBB.out;omega) (hcase2.out hov))
       go_wp2_with fail
       refine (HM.out _).mono ?_
       rintro e w' ⟨rfl,rfl⟩
       go_wp2
       go_ret
       exact ⟨by rw [←HF.out];rfl,hdr⟩
end Go.Proofs.YtpnokfgplnmjpaaGreatDoor


namespace Go.Proofs.YtpnokfgplnmjpaaGreatDoor
open Go.RowKit
attribute [local go_sem ↓] Go.wp_at_zero Go.wp_at_succ

def guess (r2 r1 r0 v1 v0:Nat):Nat:=if v1≤r2 then B64-1 else ((r2*B64+r1)*B64+r0) / (v1*B64+v0)

theorem guess_any (g o c h p d L M r2 r1 r0 v1 v0:Nat) (w:World) (hL:L=3) (hM:M=2) (hr2:w.cell? ⟨g,o+2,none⟩=some (.int .u64 (r2:Int))) (hr1:w.cell? ⟨g,o+1,none⟩=some (.int .u64 (r1:Int))) (hr0:w.cell? ⟨g,o,none⟩=some (.int .u64 (r0:Int)))
  (hv1:w.cell? ⟨h,p+1,none⟩=some (.int .u64 (v1:Int))) (hv0:w.cell? ⟨h,p,none⟩=some (.int .u64 (v0:Int)))
  (l1:r1<18446744073709551616) (l0:r0<18446744073709551616) (lv1:v1<18446744073709551616) (lv0:v0<18446744073709551616) (hv:9223372036854775808≤v1) :
  Calls Tryz.prog 212 #[.slice (some ⟨g,o,none⟩) L c,.slice (some ⟨h,p,none⟩) M d] w (RetWd w (guess r2 r1 r0 v1 v0)):=by
 subst hL
 subst hM
 unfold guess
 by_cases hge:v1≤r2
 · rw [if_pos hge]
   exact guess_top g o c h p d r2 v1 v0 w hr2 hv1 hv0 hge
 · rw [if_neg hge]
   exact guess_low g o c h p d r2 r1 r0 v1 v0 w hr2 hr1 hr0 hv1 hv0 (by omega) l1 l0 lv1 lv0 hv

theorem split3 {b V m:Nat} (hV:V<b^(m+3)):V=((D b V (m+2)*b+D b V (m+1))*b+D b V m)*b^m+V%b^m:=by
 have h0:=Nat.div_add_mod V (b^m)
 have h1:=div_D b V m
 have h2:=div_D b V (m+1)
 have h3:=div_D b V (m+2)
 have hz:V / b^(m+2+1)=0:=Nat.div_eq_of_lt hV
 rw [hz,Nat.mul_zero,Nat.zero_add] at h3
 rw [h3] at h2
 rw [h2] at h1
 rw [h1] at h0
 rw [Nat.mul_comm b (D b V (m+2)),Nat.mul_comm b (D b V (m+2)*b+D b V (m+1)),Nat.mul_comm (b^m)] at h0
 exact h0.symm
theorem split2 {b V m:Nat} (hV:V<b^(m+2)):V=(D b V (m+1)*b+D b V m)*b^m+V%b^m:=by
 have h0:=Nat.div_add_mod V (b^m)
 have h1:=div_D b V m
 have h2:=div_D b V (m+1)
 have hz:V / b^(m+1+1)=0:=Nat.div_eq_of_lt hV
 rw [hz,Nat.mul_zero,Nat.zero_add] at h2
 rw [h2] at h1
 rw [h1] at h0
 rw [Nat.mul_comm b (D b V (m+1)),Nat.mul_comm (b^m)] at h0
 exact h0.symm
theorem split1 {b V m:Nat} (hV:V<b^(m+1)):V=D b V m*b^m+V%b^m:=by
 have h0:=Nat.div_add_mod V (b^m)
 have h1:=div_D b V m
 have hz:V / b^(m+1)=0:=Nat.div_eq_of_lt hV
 rw [hz,Nat.mul_zero,Nat.zero_add] at h1
 rw [h1,Nat.mul_comm (b^m)] at h0
 exact h0.symm

theorem guess_ok {W Y m:Nat} (hW:W<B64^(m+3)) (hY:Y<B64^(m+2)) (hYt:B64^(m+2)≤2*Y) (hWY:W<Y*B64) :
  9223372036854775808≤D B64 Y (m+1)∧W / Y≤guess (D B64 W (m+2)) (D B64 W (m+1)) (D B64 W m) (D B64 Y (m+1)) (D B64 Y m) ∧
  guess (D B64 W (m+2)) (D B64 W (m+1)) (D B64 W m) (D B64 Y (m+1)) (D B64 Y m)≤W / Y+1∧W / Y<B64∧guess (D B64 W (m+2)) (D B64 W (m+1)) (D B64 W m) (D B64 Y (m+1)) (D B64 Y m)<B64:=by
 have hp:0<B64^m:=Nat.pow_pos B64_pos
 have hp1:0<B64^(m+1):=Nat.pow_pos B64_pos
 have hB:=B64_eq
 have s3:=split3 hW
 have s2:=split2 hY
 have s1:=split1 (m:=m+1) hY
 have hWl:=Nat.mod_lt W hp
 have hYl:=Nat.mod_lt Y hp
 have hYl1:=Nat.mod_lt Y hp1
 have t1:=split1 (m:=m+2) hW
 have hv:B64≤2*D B64 Y (m+1):=by
  have h1:B64*B64^(m+1)<(2*D B64 Y (m+1)+2)*B64^(m+1):=by
   have:B64^(m+2)=B64*B64^(m+1):=Nat.pow_succ'
   rw [Nat.add_mul,Nat.mul_assoc]
   omega
  have h2:=Nat.lt_of_mul_lt_mul_right h1
  omega
 have hYY:B64*B64≤2*(D B64 Y (m+1)*B64+D B64 Y m):=by
  have h1:B64*B64≤2*D B64 Y (m+1)*B64:=Nat.mul_le_mul_right _ hv
  rw [Nat.mul_assoc] at h1
  omega
 have key:=knuth (b:=B64) (P:=B64^m) (z:=(D B64 W (m+2)*B64+D B64 W (m+1))*B64+D B64 W m) (zl:=W%B64^m) (y:=D B64 Y (m+1)*B64+D B64 Y m) (yl:=Y%B64^m) (by omega) hp hWl hYl hYY (by rw [←s3,←s2];exact hWY)
 rw [←s3,←s2] at key
 obtain ⟨k1,k2,k3⟩:=key
 refine ⟨by omega,?_⟩
 unfold guess
 by_cases hge:D B64 Y (m+1)≤D B64 W (m+2)
 · rw [if_pos hge]
   have e:B64^(m+2)=B64^(m+1)*B64:=by rw [←Nat.pow_succ]
   rw [e] at t1
   have kt:=knuth_top (b:=B64) (P:=B64^(m+1)) (r2:=D B64 W (m+2)) (rl:=W%(B64^(m+1)*B64)) (v1:=D B64 Y (m+1)) (vl:=Y%B64^(m+1)) (by omega) hp1 hv hYl1 hge (by rw [←t1,←s1];exact hWY)
   rw [←t1,←s1] at kt
   exact ⟨kt.1,kt.2,k3,by omega⟩
 · rw [if_neg hge]
   refine ⟨k1,k2,k3,?_⟩
   have hr1:=D_lt B64_pos W (m+1)
   have hr0:=D_lt B64_pos W m
   rw [Nat.div_lt_iff_lt_mul (by have:1*B64≤D B64 Y (m+1)*B64:=Nat.mul_le_mul_right _ (by omega);omega)]
   have h1:(D B64 W (m+2)+1)*B64≤D B64 Y (m+1)*B64:=Nat.mul_le_mul_right _ (by omega)
   rw [Nat.add_mul,Nat.one_mul] at h1
   have h2:(D B64 W (m+2)*B64+D B64 W (m+1)+1)*B64≤(D B64 Y (m+1)*B64+D B64 Y m)*B64:=Nat.mul_le_mul_right _ (by omega)
   rw [Nat.add_mul _ 1,Nat.one_mul] at h2
   rw [Nat.mul_comm B64]
   omega

theorem sub_left {R Y q n:Nat} (hR:R<B64^n) (hY:Y<B64^n):∃ N,N<B64^n∧(∀ i,i<n→B64-1-D B64 (cpl R n+q*Y) i=D B64 N i)∧R+car B64 (cpl R n) q Y n*B64^n=N+q*Y:=by
 have hp:0<B64^n:=Nat.pow_pos B64_pos
 have hm:=Nat.mod_lt (cpl R n+q*Y) hp
 have hd:=Nat.div_add_mod (cpl R n+q*Y) (B64^n)
 refine ⟨cpl ((cpl R n+q*Y)%B64^n) n,cpl_lt,fun i hi=>?_,?_⟩
 · rw [cpl_digit i hi hm]
   have h2:=D_low (P:=(cpl R n+q*Y)%B64^n) (Z:=(cpl R n+q*Y) / B64^n) B64_pos hi
   have e:(cpl R n+q*Y)%B64^n+B64^n*((cpl R n+q*Y) / B64^n)=cpl R n+q*Y:=by omega
   rw [e] at h2
   rw [h2]
 · rw [car_end cpl_lt hY,Nat.mul_comm _ (B64^n)]
   generalize (cpl R n+q*Y) / B64^n=c at *
   generalize (cpl R n+q*Y)%B64^n=r at *
   unfold cpl at *
   omega
end Go.Proofs.YtpnokfgplnmjpaaGreatDoor


namespace Go.Proofs.YtpnokfgplnmjpaaGreatDoor
open Go.RowKit
attribute [local go_sem ↓] Go.wp_at_zero Go.wp_at_succ

def wnF (f:Nat→Nat) (o n R j:Nat):Nat:=if o≤j∧j≤o+n then D B64 R (j-o) else f j

def RetQd (w:World) (g N:Nat) (F:Nat→Nat) (q:Nat) (e:Ending) (w':World):Prop:=e=.returned (.int .u64 (q:Int))∧Lies w' g N F∧w.grownBy w' (some g)

theorem grown_drew {a w w':World} {row:Option Nat} (h:a.grownBy w row) (hd:Drew w w'):a.grownBy w' row:=by
 obtain ⟨q,rfl⟩:=hd
 exact ⟨h.os,h.tape,h.output,h.size,h.block⟩
theorem Lies.drew {w w':World} {g n:Nat} {f:Nat→Nat} (h:Lies w g n f) (hd:Drew w w'):Lies w' g n f:=by
 obtain ⟨q,rfl⟩:=hd
 exact h
theorem Rd.drewD {w w':World} {K:IntKind} {A:Option Addr} {n:Nat} {f:Nat→Nat} (h:Rd w K A n f) (hd:Drew w w'):Rd w' K A n f:=by
 obtain ⟨q,rfl⟩:=hd
 exact h

theorem Drew.one (w:World):Drew w w.drew:=⟨1,rfl⟩

theorem add_back (g o N n c:Nat) (f:Nat→Nat) (A:Option Addr) (m cx U X R:Nat) (w:World) (hN:o+m≤N) (hn:n=m) (hc:n≤c) (hm:m≤1000000000) (hL:Lies w g N f) (hU:∀ i,i<m→f (o+i)=D B64 U i)
  (hX:Rd w .u64 A m (D B64 X)) (hne:0<m→∀ a,A=some a→a.block≠g) (hUl:U<B64^m) (hXl:X<B64^m) (hR:R<B64^m) (he:U+X=R+B64^m) :
  Calls Tryz.prog 180 #[.slice (some ⟨g,o,none⟩) n c,.slice A m cx,.int .u64 1] w (fun e w'=>e=.returned (.int .u64 1)∧Lies w' g N (fun j=>if o≤j∧j<o+m then D B64 R (j-o) else f j)∧w.grownBy w' (some g)):=by
 have h:=addMultiple_any g o N n c f A m cx U X 1 w hN hn hc hm hL hU hX hne (by omega)
 have hp:0<B64^m:=Nat.pow_pos B64_pos
 have hcar:car B64 U 1 X m=1:=by
  rw [car_end hUl hXl,Nat.one_mul,he,Nat.add_div_right _ hp,Nat.div_eq_of_lt hR]
 refine h.mono fun e w' ⟨h1,h2,h3⟩=>⟨by rw [h1,hcar];rfl,h2.congr fun j hj=>?_,h3⟩
 unfold amF
 subst hn
 by_cases e2:o≤j∧j<o+n
 · rw [if_pos e2,if_pos e2,Nat.one_mul,he]
   have:=D_low (P:=R) (Z:=1) B64_pos (show j-o<n by omega)
   rw [Nat.mul_one] at this
   exact this
 · rw [if_neg e2,if_neg e2]

set_option maxHeartbeats 4000000 in
set_option maxRecDepth 100000 in
theorem quotientDigit_any (g o N m c:Nat) (f:Nat→Nat) (A:Option Addr) (d W Y L M:Nat) (w:World) (hL:L=m+3) (hM:M=m+2) (hm:m≤100000000) (hN:o+m+3≤N) (hc:m+3≤c) (hd:m+2≤d) (hlies:Lies w g N f) (hwin:∀ i,i<m+3→f (o+i)=D B64 W i) (hW:W<B64^(m+3))
  (hr:Rd w .u64 A (m+2) (D B64 Y)) (hY:Y<B64^(m+2)) (hYt:B64^(m+2)≤2*Y) (hWY:W<Y*B64) (hne:∀ a,A=some a→a.block≠g) :
  Calls Tryz.prog 186 #[.slice (some ⟨g,o,none⟩) L c,.slice A M d] w (RetQd w g N (wnF f o (m+2) (W%Y)) (W / Y)):=by
 subst hL
 subst hM
 obtain ⟨gv,g1,g2,g3,g4⟩:=guess_ok hW hY hYt hWY
 obtain ⟨q,hq⟩:∃ q,guess (D B64 W (m+2)) (D B64 W (m+1)) (D B64 W m) (D B64 Y (m+1)) (D B64 Y m)=q:=⟨_,rfl⟩
 rw [hq] at g1 g2 g4
 obtain ⟨h,p,hA,hh,hcy⟩:=hr (by omega)
 have hhg:h≠g:=hne _ hA
 subst hA
 have hw2:w.cell? ⟨g,o+m+2,none⟩=some (.int .u64 (D B64 W (m+2):Int)):=by have:=hlies.cell (i:=o+(m+2)) (by omega);rw [hwin (m+2) (by omega)] at this;exact this
 have hw1:w.cell? ⟨g,o+m+1,none⟩=some (.int .u64 (D B64 W (m+1):Int)):=by have:=hlies.cell (i:=o+(m+1)) (by omega);rw [hwin (m+1) (by omega)] at this;exact this
 have hw0:w.cell? ⟨g,o+m,none⟩=some (.int .u64 (D B64 W m:Int)):=by have:=hlies.cell (i:=o+m) (by omega);rw [hwin m (by omega)] at this;exact this
 have hy1:w.cell? ⟨h,p+m+1,none⟩=some (.int .u64 (D B64 Y (m+1):Int)):=hcy (m+1) (by omega)
 have hy0:w.cell? ⟨h,p+m,none⟩=some (.int .u64 (D B64 Y m:Int)):=hcy m (by omega)
 have hgs:=fun V (hV:Drew w V) (L M:Nat) (hL:L=3) (hM:M=2)=>guess_any g (o+m) (c-m) h (p+m) (d-m) L M _ _ _ _ _ V hL hM ((hV.cell _).trans hw2) ((hV.cell _).trans hw1) ((hV.cell _).trans hw0) ((hV.cell _).trans hy1) ((hV.cell _).trans hy0) (D64_lt _ _) (D64_lt _ _) (D64_lt _ _) (D64_lt _ _) gv
 rw [hq] at hgs
 have hnt:=split1 (m:=m+2) hW
 have hRl:=Nat.mod_lt W (show 0<B64^(m+2) from Nat.pow_pos B64_pos)
 have hRd:∀ i,i<m+2→f (o+i)=D B64 (W%B64^(m+2)) i:=fun i hi=>by
  rw [hwin i (by omega)]
  have h1:=Nat.div_add_mod W (B64^(m+2))
  have h2:=D_low (P:=W%B64^(m+2)) (Z:=W / B64^(m+2)) B64_pos hi
  rw [←h2]
  congr 1
  omega
 obtain ⟨N1,hN1,hN1d,hN1e⟩:=sub_left (q:=q) hRl hY
 obtain ⟨cc,hcc⟩:∃ cc,car B64 (cpl (W%B64^(m+2)) (m+2)) q Y (m+2)=cc:=⟨_,rfl⟩
 rw [hcc] at hN1e
 have hccb:cc≤18446744073709551615:=by
  rw [←hcc]
  have:=car_lt B64_pos (x:=q) g4 (cpl (W%B64^(m+2)) (m+2)) Y (m+2)
  rw [B64_eq] at g4
  omega
 obtain ⟨t,ht⟩:∃ t,D B64 W (m+2)=t:=⟨_,rfl⟩
 rw [ht] at hnt hw2
 have htb:t<18446744073709551616:=by rw [←ht];exact D64_lt _ _
 have hmain:W+cc*B64^(m+2)=N1+q*Y+t*B64^(m+2):=by omega
 have hY0:0<Y:=by
  rcases Nat.eq_zero_or_pos Y with h0 | h0
  · subst h0;rw [Nat.zero_mul] at hWY;omega
  · exact h0
 have hRW:W%Y<B64^(m+2):=Nat.lt_of_lt_of_le (Nat.mod_lt _ hY0) (Nat.le_of_lt hY)
 have hsm:=fun V (hV:Drew w V) (L:Nat) (hL:L=m+2)=>subtractMultiple_any g o N L c f (some ⟨h,p,none⟩) (m+2) d (W%B64^(m+2)) Y q V (by omega) hL (by omega) (by omega) (hlies.drew hV) hRd hRl (hr.drewD hV) (fun _ a ha=>by injection ha with ha;subst ha;exact hhg) (by rw [←B64_eq];exact g4)
 rw [hcc] at hsm
 have hqs:W / Y=q∨W / Y+1=q:=by omega
 have HGS:=Lib.hid hgs
 have HSM:=Lib.hid hsm
 have HN1:=Lib.hid hN1
 have HN1D:=Lib.hid hN1d
 have HMAIN:=Lib.hid hmain
 have HWIN:=Lib.hid hwin
 have HT:=Lib.hid ht
 have HRW:=Lib.hid hRW
 have HCY:=Lib.hid hcy
 have HY:=Lib.hid hY
 have hqb:q≤18446744073709551615:=by rw [B64_eq] at g4;omega
 have i1:(0:Int)≤(m:Int):=by omega
 have i2:¬(c=m):=by omega
 have i3:¬(d=m):=by omega
 clear hgs hsm hN1 hN1d hmain hwin ht hRW hcy hr hw1 hw0 hy1 hy0 hnt hRl hRd hN1e hcc hq g1 g2 g3 g4 hW hYt hWY gv hlies hY
 rcases hqs with hqe | hqe
 · have hdr:=digit_right (Nat.le_of_lt HY.out) hqe hY0 HN1.out HMAIN.out
   obtain ⟨rfl,hNW⟩:=hdr
   have HNW:=Lib.hid hNW
   have HQE:=Lib.hid hqe
   clear hNW hqe
   go_enter Tryz.func186,Tryz.ntmps186
   go_wp2_with fail
   have sa:IntKind.i64.wrap ((m:Int)+2-2)=(m:Int):=by rw [IntWalk.i64_in _ (by omega)];omega
   have sb:(m:Int)≤(m:Int)+2:=by omega
   have sc:(m:Int)≤(m:Int)+2+1:=by omega
   go_quiet ((go_at_call 212;first | exact quietD (HGS.out _ ⟨_,rfl⟩ _ _ (by omega) (by omega)) | exact quietD2 (HGS.out _ ⟨_,rfl⟩ _ _ (by omega) (by omega))))
   go_wp2_with fail
   refine (HSM.out _ ⟨_,rfl⟩ _ rfl).mono ?_
   rintro e w3 ⟨rfl,hl3,hg3⟩
   have hc3:=hl3.cell (i:=o+(m+2)) (by omega)
   have hf3:=hl3.frozen (o+(m+2))
   have hv3:sbF f o (cpl (W%B64^(m+2)) (m+2)) q Y (m+2) (o+(m+2))=cc:=by
    unfold sbF
    rw [if_neg (by omega),HWIN.out (m+2) (by omega)]
    exact HT.out
   rw [hv3] at hc3
   have hg3':w.grownBy w3 (some g):=⟨hg3.os,hg3.tape,hg3.output,hg3.size,hg3.block⟩
   have HL3:=Lib.hid hl3
   have HG3:=Lib.hid hg3'
   clear hl3 hg3 hv3 hg3'
   have hgt:¬cc<cc:=Nat.lt_irrefl _
   go_wp2
   go_ret
   refine ⟨by rw [HQE.out];rfl,(HL3.out.set (o+(m+2)) 0).congr fun j hj=>?_,grown_set HG3.out _ _⟩
   unfold wnF
   by_cases e1:j=o+(m+2)
   · rw [if_pos e1,if_pos (by omega),e1,Nat.add_sub_cancel_left]
     exact (D_zero_of B64_pos HRW.out (Nat.le_refl _)).symm
   · rw [if_neg e1]
     unfold sbF
     by_cases e2:o≤j∧j<o+(m+2)
     · rw [if_pos e2,if_pos (by omega),HN1D.out _ (by omega),HNW.out]
     · rw [if_neg e2,if_neg (by omega)]
 · have hdr:=digit_wrong (Nat.le_of_lt HY.out) hqe hY0 HN1.out HMAIN.out
   obtain ⟨rfl,hNW⟩:=hdr
   have HNW:=Lib.hid hNW
   have HQE:=Lib.hid hqe
   clear hNW hqe
   go_enter Tryz.func186,Tryz.ntmps186
   go_wp2_with fail
   have sa:IntKind.i64.wrap ((m:Int)+2-2)=(m:Int):=by rw [IntWalk.i64_in _ (by omega)];omega
   have sb:(m:Int)≤(m:Int)+2:=by omega
   have sc:(m:Int)≤(m:Int)+2+1:=by omega
   go_quiet ((go_at_call 212;first | exact quietD (HGS.out _ ⟨_,rfl⟩ _ _ (by omega) (by omega)) | exact quietD2 (HGS.out _ ⟨_,rfl⟩ _ _ (by omega) (by omega))))
   go_wp2_with fail
   refine (HSM.out _ ⟨_,rfl⟩ _ rfl).mono ?_
   rintro e w3 ⟨rfl,hl3,hg3⟩
   have hc3:=hl3.cell (i:=o+(m+2)) (by omega)
   have hf3:=hl3.frozen (o+(m+2))
   have hv3:sbF f o (cpl (W%B64^(m+2)) (m+2)) q Y (m+2) (o+(m+2))=t:=by
    unfold sbF
    rw [if_neg (by omega),HWIN.out (m+2) (by omega)]
    exact HT.out
   rw [hv3] at hc3
   have hg3':w.grownBy w3 (some g):=⟨hg3.os,hg3.tape,hg3.output,hg3.size,hg3.block⟩
   have HL3:=Lib.hid hl3
   have HG3:=Lib.hid hg3'
   clear hl3 hg3 hv3 hg3'
   have hgt:t<t+1:=Nat.lt_succ_self _
   have hw8:IntKind.u64.wrap ((t:Int)-((t:Int)+1))=18446744073709551615:=by rw [IntKind.wrap_u64];omega
   obtain ⟨qn,hqn⟩:∃ qn,W / Y=qn:=⟨_,rfl⟩
   have hwq:IntKind.u64.wrap ((q:Int)-1)=(qn:Int):=wrap_u _ _ (by have:=HQE.out;omega)
   have hf4:Lies (w3.setCell ⟨g,o+(m+2),none⟩ (.int .u64 18446744073709551615)) g N _:=HL3.out.set (o+(m+2)) 18446744073709551615
   have hab:=fun V (hV:Drew (w3.setCell ⟨g,o+(m+2),none⟩ (.int .u64 18446744073709551615)) V) (L:Nat) (hL:L=m+2)=>add_back g o N L c _ (some ⟨h,p,none⟩) (m+2) d N1 Y (W%Y) V (by omega) hL (by omega) (by omega) (hf4.drew hV) (fun i hi=>by show (if o+i=o+(m+2) then _ else _)=_;rw [if_neg (by omega)];unfold sbF;rw [if_pos (by omega),Nat.add_sub_cancel_left];exact HN1D.out i hi) (Rd.drewD (fun _=>⟨h,p,rfl,by have:=HG3.out.size;show h<_;simp [World.setCell];omega,fun i hi=>by rw [World.cell?_setCell_other _ _ _ _ (by intro e;injection e with e1;exact hhg e1.symm)];exact (World.cell?_of_block (w:=w) (a:=⟨h,p+i,none⟩) (HG3.out.block h hh (fun e=>hhg (by injection e)))).trans (HCY.out i hi)⟩) hV) (fun _ a ha=>by injection ha with ha;subst ha;exact hhg) HN1.out HY.out HRW.out HNW.out
   have HAB:=Lib.hid hab
   have HF4:=Lib.hid hf4
   have HQN:=Lib.hid hqn
   clear hab hf4 hqn
   go_wp2_with fail
   have h18:IntKind.u64.wrap (18446744073709551615+1)=0:=by decide
   have hcW:(w3.setCell ⟨g,o+(m+2),none⟩ (.int .u64 18446744073709551615)).cell? ⟨g,o+(m+2),none⟩=some (.int .u64 18446744073709551615):=by simp [go_sem,hc3]
   have k1:(0:Int)≤(m:Int)+2:=by omega
   have k2:(m:Int)+2<(m:Int)+3:=by omega
   have k3:((m:Int)+2).toNat=m+2:=by omega
   have k4:(m:Int)+2≤(c:Int):=by omega
   have k5:(m:Int)+2<((m+3:Nat):Int):=by omega
   have k6:(m:Int)+2<(m:Int)+2+1:=by omega
   go_region_law (go_simp;go_at_call 180;refine (HAB.out _ ?_ _ ?_).mono ?_;(exact Drew.one _);(rfl);rintro e w6 ⟨rfl,hl6,hg6⟩;have hc6:=hl6.cell (i:=o+(m+2)) (by omega);have hf6:=hl6.frozen (o+(m+2)))
   all_goals
    go_wp2
    go_ret
    refine ⟨by rw [HQN.out];rfl,(hl6.set (o+(m+2)) 0).congr fun j hj=>?_,grown_set (grown_none (grown_drew (grown_set HG3.out _ _) (Drew.one _)) hg6 (.inr (.inl rfl))) _ _⟩
    unfold wnF
    by_cases e1:j=o+(m+2)
    · rw [if_pos e1,if_pos (by omega),e1,Nat.add_sub_cancel_left]
      exact (D_zero_of B64_pos HRW.out (Nat.le_refl _)).symm
    · rw [if_neg e1]
      by_cases e2:o≤j∧j<o+(m+2)
      · rw [if_pos e2,if_pos (by omega)]
      · first
        | (rw [if_neg e2,if_neg e1];unfold sbF;rw [if_neg e2,if_neg (by omega)])
        | (rw [if_neg e2];unfold sbF;rw [if_neg e2,if_neg (by omega)])
end Go.Proofs.YtpnokfgplnmjpaaGreatDoor


namespace Go.Proofs.YtpnokfgplnmjpaaGreatDoor
open Go.RowKit
attribute [local go_sem ↓] Go.wp_at_zero Go.wp_at_succ

theorem B64_two (p:Nat) (hp:p≤64):B64=2^p*2^(64-p):=by
 rw [←Nat.pow_add,show p+(64-p)=64 by omega];rfl

theorem or_sum {h x p:Nat} (hh:h<2^p) (hp:p≤64):h ||| x*2^p%B64=h+x*2^p%B64∧h+x*2^p%B64<B64:=by
 have e:=B64_two p hp
 have e2:x*2^p%B64=2^p*(x%2^(64-p)):=by rw [e,Nat.mul_comm x,Nat.mul_mod_mul_left]
 have hl:=Nat.mod_lt x (show 0<2^(64-p) from Nat.pow_pos (by omega))
 have hor:2^p*(x%2^(64-p)) ||| h=2^p*(x%2^(64-p))+h:=(Nat.two_pow_add_eq_or_of_lt hh _).symm
 have hb:2^p*(x%2^(64-p)+1)≤2^p*2^(64-p):=Nat.mul_le_mul_left _ hl
 rw [Nat.mul_add,Nat.mul_one,←e] at hb
 rw [e2,Nat.or_comm,hor]
 omega

theorem shr_mul {x p:Nat} (hp:p≤64):x / 2^(64-p)=x*2^p / B64:=by
 rw [B64_two p hp,Nat.mul_comm x,Nat.mul_div_mul_left _ _ (Nat.pow_pos (by omega))]

theorem shl_step {X p W k:Nat} (hp:p<64) (j:Nat) :
  (if j=k+W+1 then D B64 X k / 2^(64-p) else if j=k+W then D B64 (X%B64^k*(2^p*B64^W)) (k+W) ||| D B64 X k*2^p%B64 else D B64 (X%B64^k*(2^p*B64^W)) j)=D B64 (X%B64^(k+1)*(2^p*B64^W)) j:=by
 have hP:0<B64^(k+W):=Nat.pow_pos B64_pos
 have hx:=D64_lt X k
 have hU:X%B64^(k+1)*(2^p*B64^W)=X%B64^k*(2^p*B64^W)+B64^(k+W)*(D B64 X k*2^p):=by
  rw [mod_succ,Nat.add_mul,Nat.pow_add]
  congr 1
  generalize D B64 X k=x
  generalize B64^k=a
  generalize B64^W=c
  generalize 2^p=t
  ac_rfl
 have hUk:X%B64^k*(2^p*B64^W)<B64^(k+W)*2^p:=by
  have h1:=Nat.mod_lt X (Nat.pow_pos (n:=k) B64_pos)
  have h2:=Nat.mul_lt_mul_of_pos_right h1 (show 0<2^p*B64^W from Nat.mul_pos (Nat.pow_pos (by omega)) (Nat.pow_pos B64_pos))
  rw [Nat.pow_add]
  have e:B64^k*(2^p*B64^W)=B64^k*B64^W*2^p:=by rw [Nat.mul_comm (2^p),Nat.mul_assoc]
  omega
 generalize D B64 X k=x at *
 generalize X%B64^(k+1)*(2^p*B64^W)=U' at *
 generalize X%B64^k*(2^p*B64^W)=U at *
 have hh:U / B64^(k+W)<2^p:=Nat.div_lt_of_lt_mul hUk
 have hp2:2^p<B64:=by
  have h1:2^p≤2^63:=Nat.pow_le_pow_right (by omega) (by omega)
  have h2:B64=18446744073709551616:=rfl
  omega
 have hdk:D B64 (U) (k+W)=U / B64^(k+W):=by
  unfold D;exact Nat.mod_eq_of_lt (by omega)
 obtain ⟨or1,or2⟩:=or_sum (x:=x) hh (by omega)
 have hT:U' / B64^(k+W)=B64*(x*2^p / B64)+(U / B64^(k+W)+x*2^p%B64):=by
  rw [hU,Nat.add_mul_div_left _ _ hP]
  have:=Nat.div_add_mod (x*2^p) B64
  omega
 have hhi:x*2^p / B64<B64:=by
  apply Nat.div_lt_of_lt_mul
  exact Nat.mul_lt_mul'' (by rw [B64_eq];exact hx) hp2
 by_cases e:j=k+W+1
 · rw [if_pos e,e,D_high (P:=U') (k:=k+W) (by omega),hT,shr_mul (by omega),show k+W+1-(k+W)=1 by omega]
   unfold D
   rw [Nat.pow_one,Nat.mul_add_div B64_pos,Nat.div_eq_of_lt or2,Nat.add_zero]
   exact (Nat.mod_eq_of_lt hhi).symm
 · rw [if_neg e]
   by_cases e2:j=k+W
   · rw [if_pos e2,e2,hdk,or1,D_high (P:=U') (k:=k+W) (by omega),hT,Nat.sub_self]
     unfold D
     rw [Nat.pow_zero,Nat.div_one,Nat.mul_add_mod,Nat.mod_eq_of_lt or2]
   · rw [if_neg e2]
     by_cases e3:j<k+W
     · rw [hU,D_low B64_pos e3]
     · have hz1 : D B64 (U) j = 0 := by
        refine D_zero_of B64_pos (n:=k+W+1) ?_ (by omega)
        rw [Nat.pow_succ]
        exact Nat.lt_trans hUk (Nat.mul_lt_mul_of_pos_left hp2 hP)
       rw [hz1]
       symm
       rw [D_high (P:=U') (k:=k+W) (by omega),hT]
       refine D_zero_of B64_pos (n:=2) ?_ (by omega)
       have:B64*(x*2^p / B64+1)≤B64*B64:=Nat.mul_le_mul_left _ hhi
       rw [Nat.mul_add,Nat.mul_one] at this
       rw [Nat.pow_two]
       omega

def RetNew (w:World) (n V:Nat) (e:Ending) (w':World):Prop:=∃ g,e=.returned (.slice (some ⟨g,0,none⟩) n n)∧Lies w' g n (D B64 V)∧Below w.heap.size w w'∧w.heap.size≤g

set_option maxHeartbeats 2000000 in
set_option maxRecDepth 100000 in
theorem shiftLeft_any (A:Option Addr) (n c X s W p:Nat) (w:World) (hn:n≤100000000) (hW:W≤100000000) (hs:s=64*W+p) (hp:p<64) (hx:Ng w A n c X) :
  Calls Tryz.prog 183 #[.slice A n c,.int .i64 (s:Int)] w (RetNew w (n+W+1) (X*(2^p*B64^W))):=by
 have hmk:=fun V=>run_make_row' (P:=Tryz.prog) 131 124 (.int .u64 0) 8 Tryz.underlying131 natInfo rfl .i64 .i64 (n+W+1) (by omega) (by omega) V
 have ec:((n+W+1:Nat):Int)=(n:Int)+(W:Int)+1:=by omega
 rw [ec] at hmk
 have w1:(s:Int) / 64=(W:Int):=by omega
 have w2:(s:Int)%64=(p:Int):=by omega
 have hs0:(0:Int)≤(s:Int):=by omega
 have hsb:(s:Int)≤7000000000:=by omega
 have HX:=Lib.hid hx
 clear hx ec hs
 go_enter Tryz.func183,Tryz.ntmps183
 go_wp2_with fail
 rw [w2]
 clear w1 w2
 go_loopw [22] (fun iv wr=>∃ k:Nat,k≤n∧iv=.int .i64 k∧Lies wr w.heap.size (n+W+1) (D B64 (X%B64^k*(2^p*B64^W)))∧Below w.heap.size w wr) (fun iv _=>n-(intOf iv).toNat)
 case atStart =>
  refine ⟨0,Nat.zero_le _,rfl,(Lies.of_made w (n+W+1)).congr fun i hi=>?_,(Below.refl _ _).alloc (Nat.le_refl _) _⟩
  simp [D,Nat.mod_one]
 case round =>
  obtain ⟨k,hk,rfl,hlies,hbl⟩:=hrel
  by_cases hlt:k<n
  · obtain ⟨gx,ox,hA,hgx,hcx⟩:=HX.out.rd (by omega)
    subst hA
    have hxk:=(hbl.cell (p:=⟨gx,ox+k,none⟩) hgx).trans (hcx k hlt)
    have hcell:=hlies.cell (i:=k+W) (by omega)
    have hfro:=hlies.frozen (k+W)
    have hcell2:=hlies.cell (i:=k+W+1) (by omega)
    have hfro2:=hlies.frozen (k+W+1)
    have hdx:=D64_lt X k
    have hdu:=D64_lt (X%B64^k*(2^p*B64^W)) (k+W)
    have hst:=fun j=>shl_step (X:=X) (p:=p) (W:=W) (k:=k) hp j
    have HST:=Lib.hid hst
    have HLI:=Lib.hid hlies
    have HBL:=Lib.hid hbl
    obtain ⟨u,hu⟩:∃ u,D B64 (X%B64^k*(2^p*B64^W)) (k+W)=u:=⟨_,rfl⟩
    obtain ⟨x,hxx⟩:∃ x,D B64 X k=x:=⟨_,rfl⟩
    rw [hu] at hcell hdu
    rw [hxx] at hxk hdx
    have hsl:x*2^p%B64<18446744073709551616:=by have:=Nat.mod_lt (x*2^p) B64_pos;rw [B64_eq] at this ⊢;exact this
    obtain ⟨S,hS⟩:∃ S,x*2^p%B64=S:=⟨_,rfl⟩
    obtain ⟨R,hR⟩:∃ R,x / 2^(64-p)=R:=⟨_,rfl⟩
    have v1:IntKind.u64.wrap ((x:Int)*2^p)=(S:Int):=by rw [shl_word,←B64_eq,hS]
    rw [hS] at hsl
    have v2:bits .or .u64 (u:Int) (S:Int)=((u ||| S:Nat):Int):=bits_or_u64 u S hdu hsl
    have v3:(x:Int) / 2^(64-p)=(R:Int):=by rw [shr_word,hR]
    obtain ⟨O,hO⟩:∃ O,u ||| S=O:=⟨_,rfl⟩
    rw [hO] at v2
    have HFIN:=Lib.hid (show D B64 (X%B64^k*(2^p*B64^W)) (k+W) ||| D B64 X k*2^p%B64=O∧D B64 X k / 2^(64-p)=R from ⟨by rw [hu,hxx,hS,hO],by rw [hxx,hR]⟩)
    have i1:IntKind.i64.wrap ((k:Int)+(W:Int))=(k:Int)+(W:Int):=IntWalk.i64_in _ (by omega)
    have i2:(0:Int)≤(k:Int)+(W:Int):=by omega
    have i3:(k:Int)+(W:Int)<(n:Int)+(W:Int)+1:=by omega
    have i4:((k:Int)+(W:Int)).toNat=k+W:=by omega
    have i5:(k:Int)<(n:Int):=by omega
    have i6:(0:Int)≤(k:Int):=by omega
    have i7:((k:Int)+(W:Int)+1).toNat=k+W+1:=by omega
    have i8:IntKind.i64.wrap ((k:Int)+(W:Int)+1)=(k:Int)+(W:Int)+1:=IntWalk.i64_in _ (by omega)
    clear hcx hst hlies hbl hu hxx hS hR hO
    go_wp2_with fail
    go_region_law (fail)
    all_goals
     have hcellb:((wr.drew).setCell ⟨w.heap.size,k+W,none⟩ (.int .u64 (O:Int))).cell? ⟨w.heap.size,k+W+1,none⟩=some (.int .u64 (D B64 (X%B64^k*(2^p*B64^W)) (k+W+1):Int)):=(Lies.set (w:=wr.drew) HLI.out (k+W) O).cell (by omega) |>.trans (by simp)
     have hfrob:((wr.drew).setCell ⟨w.heap.size,k+W,none⟩ (.int .u64 (O:Int))).frozen? ⟨w.heap.size,k+W+1,none⟩=false:=(Lies.set (w:=wr.drew) HLI.out (k+W) O).frozen _
     have hgne:¬(gx=w.heap.size):=by omega
     have hgne2:¬(w.heap.size=gx):=by omega
     go_wp2
     go_roundw
     case rel =>
      refine ⟨k+1,by omega,by go_num,((Lies.set (w:=wr.drew) HLI.out (k+W) O).set (k+W+1) R).congr fun j hj=>?_,((HBL.out.drew).setCell (Nat.le_refl _) _).setCell (Nat.le_refl _) _⟩
      rw [←HST.out j,HFIN.out.1,HFIN.out.2]
     case measure=>simp [intOf]<;>omega
  · obtain rfl:k=n:=by omega
    have hXm:X%B64^k=X:=Nat.mod_eq_of_lt HX.out.lt
    rw [hXm] at hlies
    have HLI:=Lib.hid hlies
    clear hXm hlies
    go_wp2
    go_ret
    exact ⟨_,by rfl,HLI.out,hbl,Nat.le_refl _⟩


theorem shr_step {X p W k:Nat} (hp:p<64):D B64 (X / (2^p*B64^W)) k=D B64 X (W+k) / 2^p ||| D B64 X (W+k+1)*2^(64-p)%B64:=by
 have e1:X / (2^p*B64^W) / B64^k=X / B64^(W+k) / 2^p:=by
  rw [Nat.div_div_eq_div_mul,Nat.div_div_eq_div_mul,Nat.pow_add]
  congr 1
  ac_rfl
 have h1:=div_D B64 X (W+k)
 have h2:=div_D B64 X (W+k+1)
 have l1:=D64_lt X (W+k)
 unfold D at h1 h2 l1 ⊢
 rw [e1]
 generalize X / B64^(W+k)%B64=x0 at *
 generalize X / B64^(W+k+1)%B64=x1 at *
 generalize X / B64^(W+k+1+1)=Z at *
 rw [h1,h2]
 have hp0:0<2^p:=Nat.pow_pos (by omega)
 have eb:=B64_two p (by omega)
 have hl:x0 / 2^p<2^(64-p):=Nat.div_lt_of_lt_mul (by rw [←eb,B64_eq];exact l1)
 have hx1:x1*2^(64-p)%B64=2^(64-p)*(x1%2^p):=by rw [eb,Nat.mul_comm x1,Nat.mul_comm (2^p),Nat.mul_mod_mul_left]
 have hor:2^(64-p)*(x1%2^p) ||| x0 / 2^p=2^(64-p)*(x1%2^p)+x0 / 2^p:=(Nat.two_pow_add_eq_or_of_lt hl _).symm
 rw [hx1,Nat.or_comm,hor]
 have hsum:(B64*(B64*Z+x1)+x0) / 2^p=2^(64-p)*(B64*Z+x1)+x0 / 2^p:=by
  have:B64*(B64*Z+x1)=2^p*(2^(64-p)*(B64*Z+x1)):=by
   conv=>lhs;rw [eb]
   rw [Nat.mul_assoc,←eb]
  rw [this,Nat.mul_add_div hp0]
 rw [hsum]
 have hx1d:=Nat.div_add_mod x1 (2^p)
 have hq:2^(64-p)*(B64*Z+x1)+x0 / 2^p=B64*(2^(64-p)*Z+x1 / 2^p)+(2^(64-p)*(x1%2^p)+x0 / 2^p):=by
  have:2^(64-p)*x1=B64*(x1 / 2^p)+2^(64-p)*(x1%2^p):=by
   conv=>lhs;rw [←hx1d]
   rw [Nat.mul_add,eb,Nat.mul_comm (2^p) (2^(64-p)),Nat.mul_assoc]
  rw [Nat.mul_add,Nat.mul_add,this,Nat.mul_left_comm]
  omega
 have hlt:2^(64-p)*(x1%2^p)+x0 / 2^p<B64:=by
  have hm:=Nat.mod_lt x1 hp0
  have:2^(64-p)*(x1%2^p+1)≤2^(64-p)*2^p:=Nat.mul_le_mul_left _ hm
  rw [Nat.mul_add,Nat.mul_one,Nat.mul_comm (2^(64-p)) (2^p),←eb] at this
  omega
 rw [hq,Nat.mul_add_mod,Nat.mod_eq_of_lt hlt]
end Go.Proofs.YtpnokfgplnmjpaaGreatDoor


namespace Go.Proofs.YtpnokfgplnmjpaaGreatDoor
open Go.RowKit
attribute [local go_sem ↓] Go.wp_at_zero Go.wp_at_succ

def RetN (w:World) (V N:Nat) (e:Ending) (w':World):Prop :=
 ∃ A n c,n≤N∧e=.returned (.slice A n c)∧Nm w' A n c V∧Below w.heap.size w w'∧∀ k,Value.ownBlock (.slice A n c)=some k→w.heap.size≤k

def RetNo (w:World) (V N:Nat) (e:Ending) (w':World):Prop :=
 ∃ A n c,n≤N∧e=.returned (.slice A n c)∧Nm w' A n c V∧Below w.heap.size w w'∧(∀ k,Value.ownBlock (.slice A n c)=some k→w.heap.size≤k)∧Own w' w.heap.size (.slice A n c) n (nums .u64 (D B64 V) n)

theorem Nm.nil (w:World):Nm w none 0 0 0:=⟨⟨by decide,Nat.le_refl _,Rd.nil _ _ _ _⟩,fun h=>by omega⟩

def srF (X V W k j:Nat):Nat:=if j<k then D B64 V j else D B64 X (W+j)

set_option maxHeartbeats 2000000 in
set_option maxRecDepth 100000 in
theorem shiftRight_own (A:Option Addr) (n c X s W p:Nat) (w:World) (hn:n≤100000000) (hW:W≤100000000) (hs:s=64*W+p) (hp:p<64) (hx:Ng w A n c X) :
  Calls Tryz.prog 182 #[.slice A n c,.int .i64 (s:Int)] w (RetNo w (X / (2^p*B64^W)) n):=by
 have q64:(s:Int) / 64=(W:Int):=by omega
 have m64:(s:Int)%64=(p:Int):=by omega
 have hs0:(0:Int)≤(s:Int):=by omega
 have hsb:(s:Int)≤7000000000:=by omega
 have hp0:0<2^p:=Nat.pow_pos (by omega)
 have HX:=Lib.hid hx
 clear hx hs
 by_cases hWn:n≤W
 · have hz : X / (2 ^ p * B64 ^ W) = 0 := by
    apply Nat.div_eq_of_lt
    have h1:=HX.out.lt
    have h2:B64^n≤B64^W:=Nat.pow_le_pow_right B64_pos hWn
    have h3:1*B64^W≤2^p*B64^W:=Nat.mul_le_mul_right _ hp0
    omega
   rw [hz]
   clear hz hp0
   have hge:decide ((n:Int)≤(W:Int))=true:=by simp;omega
   go_enter Tryz.func182,Tryz.ntmps182
   go_wp2
   go_ret
   exact ⟨none,0,0,Nat.zero_le _,rfl,Nm.nil w,Below.refl _ _,fun z hz=>by simp [Value.ownBlock] at hz,Own.nil _ _⟩
 · have hge:decide ((n:Int)≤(W:Int))=false:=by simp;omega
   obtain ⟨N,hN⟩:∃ N,n=N+W:=⟨n-W,by omega⟩
   subst hN
   have hmk:=fun V=>run_make_row' (P:=Tryz.prog) 131 124 (.int .u64 0) 8 Tryz.underlying131 natInfo rfl .i64 .i64 N (by omega) (by omega) V
   obtain ⟨V,hV⟩:∃ V,X / (2^p*B64^W)=V:=⟨_,rfl⟩
   have hst:=fun k=>shr_step (X:=X) (p:=p) (W:=W) (k:=k) hp
   rw [hV] at hst
   rw [hV]
   have hVlt:V<B64^N:=by
    rw [←hV]
    apply Nat.div_lt_of_lt_mul
    have h1:=HX.out.lt
    rw [Nat.pow_add,Nat.mul_comm] at h1
    have h3:1*B64^W≤2^p*B64^W:=Nat.mul_le_mul_right _ hp0
    rw [Nat.one_mul] at h3
    have h4:=Nat.mul_le_mul_right (B64^N) h3
    omega
   have HST:=Lib.hid hst
   have HVL:=Lib.hid hVlt
   obtain ⟨gx,ox,hA,hgx,hcx⟩:=HX.out.rd (by omega)
   subst hA
   have hcap:=HX.out.cap
   have hr:Rd w .u64 (some ⟨gx,ox+W,none⟩) N (fun j=>D B64 X (W+j)):=fun _=>⟨gx,ox+W,rfl,hgx,fun i hi=>by
    have:=hcx (W+i) (by omega)
    rw [←Nat.add_assoc] at this
    exact this⟩
   have HR:=Lib.hid hr
   have j1:¬(c=W):=by omega
   have j2:(0:Int)≤(W:Int):=by omega
   have j3:(W:Int)≤(N:Int)+(W:Int):=by omega
   have j4:IntKind.i64.wrap ((N:Int)+(W:Int)-(W:Int))=(N:Int):=by rw [IntWalk.i64_in _ (by omega)];omega
   have j5:(N:Int)+(W:Int)-(W:Int)=(N:Int):=by omega
   have j6:0<N:=by omega
   have hge2:decide ((N:Int)+(W:Int)≤(W:Int))=false:=by simp;omega
   clear hp0 hge hcx hr hst hV hVlt hWn
   go_enter Tryz.func182,Tryz.ntmps182
   go_wp2_with (with_reducible refine wpList_copy_lies rfl _ _ rfl w.heap.size N N (some ⟨gx,ox+W,none⟩) N (c-W) ?ca ?cb N (fun _=>0) (fun j=>D B64 X (W+j)) (Lies.of_made w N) (Nat.le_refl _) (Nat.le_refl _) (HR.out.alloc _) ?_)
   case ca=>rfl
   case cb =>
    first
    | rfl
    | (simp [Act.eval,Act.put])
   intro w2 hl2 hgr2
   have hl3:Lies w2 w.heap.size N (srF X V W 0):=hl2.congr fun i hi=>by
    show (if i<N then D B64 X (W+i) else 0)=srF X V W 0 i
    unfold srF
    rw [if_pos hi,if_neg (Nat.not_lt_zero _)]
   have hb2:Below w.heap.size w w2:=((Below.refl _ _).alloc (Nat.le_refl _) _).trans (below_of_grown (g:=w.heap.size) hgr2 (by simp) (Nat.le_refl _))
   have HL3:=Lib.hid hl3
   have HB2:=Lib.hid hb2
   clear hl2 hgr2 hl3 hb2 j1 j2 j3 j4 j5 hge2
   go_wp2
   try rw [m64]
   clear q64 m64
   go_loopw [30] (fun iv wr=>∃ k:Nat,k≤N∧iv=.int .i64 k∧Lies wr w.heap.size N (srF X V W k)∧Below w.heap.size w wr) (fun iv _=>N-(intOf iv).toNat)
   case atStart=>exact ⟨0,Nat.zero_le _,rfl,HL3.out,HB2.out⟩
   case round =>
    obtain ⟨k,hk,rfl,hlies,hbl⟩:=hrel
    by_cases hlt:k<N
    · have hcell:=hlies.cell (i:=k) (by omega)
      have hfro:=hlies.frozen k
      have hv0:srF X V W k k=D B64 X (W+k):=by unfold srF;rw [if_neg (by omega)]
      rw [hv0] at hcell
      obtain ⟨x0,hx0⟩:∃ x,D B64 X (W+k)=x:=⟨_,rfl⟩
      obtain ⟨x1,hx1⟩:∃ x,D B64 X (W+k+1)=x:=⟨_,rfl⟩
      have l0:x0<18446744073709551616:=by rw [←hx0];exact D64_lt _ _
      have l1:x1<18446744073709551616:=by rw [←hx1];exact D64_lt _ _
      obtain ⟨h0,hh0⟩:∃ x,x0 / 2^p=x:=⟨_,rfl⟩
      have lh0:h0<18446744073709551616:=by rw [←hh0];exact Nat.lt_of_le_of_lt (Nat.div_le_self _ _) l0
      have v1:(x0:Int) / 2^p=(h0:Int):=by rw [shr_word,hh0]
      have hfin:=HST.out k
      rw [hx0,hx1,hh0] at hfin
      rw [hx0] at hcell
      have hk0:(0:Int)≤(k:Int):=by omega
      have hk1:(k:Int)<(N:Int):=by omega
      have hstep:∀ (O:Nat),O=D B64 V k→∀ j,j<N→(if j=k then O else srF X V W k j)=srF X V W (k+1) j:=fun O hO j _=>by
       unfold srF
       by_cases e:j=k
       · rw [if_pos e,if_pos (by omega),hO,e]
       · rw [if_neg e]
         by_cases e2:j<k
         · rw [if_pos e2,if_pos (by omega)]
         · rw [if_neg e2,if_neg (by omega)]
      have HSTEP:=Lib.hid hstep
      have HLI:=Lib.hid hlies
      have HBL:=Lib.hid hbl
      clear hstep hlies hbl hx0 hv0 hh0
      by_cases hlast:k+1<N
      · have hc2:=HLI.out.cell (i:=k+1) hlast
        have hv2:srF X V W k (k+1)=x1:=by unfold srF;rw [if_neg (by omega),←Nat.add_assoc,hx1]
        rw [hv2] at hc2
        have hsl:x1*2^(64-p)%B64<18446744073709551616:=by have:=Nat.mod_lt (x1*2^(64-p)) B64_pos;rw [B64_eq] at this ⊢;exact this
        obtain ⟨S,hS⟩:∃ S,x1*2^(64-p)%B64=S:=⟨_,rfl⟩
        have v2:IntKind.u64.wrap ((x1:Int)*2^min (64-p) 64)=(S:Int):=by rw [Nat.min_eq_left (by omega),shl_word,←B64_eq,hS]
        rw [hS] at hsl hfin
        have v3:bits .or .u64 (h0:Int) (S:Int)=((h0 ||| S:Nat):Int):=bits_or_u64 h0 S lh0 hsl
        obtain ⟨O,hO⟩:∃ O,h0 ||| S=O:=⟨_,rfl⟩
        rw [hO] at v3 hfin
        have HF:=Lib.hid hfin
        have hk2:(k:Int)+1<(N:Int):=by omega
        have hkd:decide ((k:Int)+1<(N:Int))=true:=by simp;omega
        have i1:IntKind.i64.wrap ((k:Int)+1)=(k:Int)+1:=IntWalk.i64_in _ (by omega)
        have i2:(0:Int)≤(k:Int)+1:=by omega
        have i3:((k:Int)+1).toNat=k+1:=by omega
        have hW1:=HLI.out.set k h0
        have hca:=hW1.cell (i:=k) (by omega)
        have hcb:=hW1.cell (i:=k+1) hlast
        have hfa:=hW1.frozen k
        have hlen:k+1<N:=hlast
        rw [if_pos rfl] at hca
        rw [if_neg (by omega),hv2] at hcb
        have HW1:=Lib.hid hW1
        clear hx1 hv2 hS hO hfin hW1 hlast
        go_wp2_with fail
        go_region_law (fail)
        all_goals
         go_wp2
         go_roundw
         case rel =>
          rw [v2,v3]
          refine ⟨k+1,by omega,by go_num,(Lies.set (w:=(wr.setCell ⟨w.heap.size,k,none⟩ (.int .u64 (h0:Int))).drew) HW1.out k O).congr fun j hj=>?_,((HBL.out.setCell (Nat.le_refl _) _).drew).setCell (Nat.le_refl _) _⟩
          rw [←HSTEP.out O HF.out.symm j hj]
          by_cases e:j=k
          · rw [if_pos e,if_pos e]
          · rw [if_neg e,if_neg e,if_neg e]
         case measure=>simp [intOf]<;>omega
      · have hx10:x1=0:=by rw [←hx1];exact D_zero_of B64_pos HX.out.lt (by omega)
        rw [hx10,Nat.zero_mul,Nat.zero_mod,Nat.or_zero] at hfin
        have HF:=Lib.hid hfin
        have hkd:decide ((k:Int)+1<(N:Int))=false:=by simp;omega
        have i1:IntKind.i64.wrap ((k:Int)+1)=(k:Int)+1:=IntWalk.i64_in _ (by omega)
        clear hx1 hx10 hfin
        go_wp2
        go_roundw
        case rel=>exact ⟨k+1,by omega,by go_num,(HLI.out.set k h0).congr (HSTEP.out h0 HF.out.symm),HBL.out.setCell (Nat.le_refl _) _⟩
        case measure=>simp [intOf]<;>omega
    · obtain rfl:k=N:=by omega
      have hng:Ng wr (some ⟨w.heap.size,0,none⟩) k k V:=⟨HVL.out,Nat.le_refl _,(hlies.congr fun j hj=>by unfold srF;rw [if_pos hj]).rd⟩
      have HNG:=Lib.hid hng
      have HBL:=Lib.hid hbl
      have HOW:Hid (Own wr w.heap.size (.slice (some ⟨w.heap.size,0,none⟩) k k) k (nums .u64 (D B64 V) k)):=by
       obtain ⟨cur,T,h1,h2,h3⟩:=hlies.congr (f':=D B64 V) fun j hj=>by unfold srF;rw [if_pos hj]
       exact Lib.hid (Own.of_cells h1 (Nat.le_refl _) (Nat.le_refl _) (by unfold maxLen;omega) h2 h3)
      clear hng hlies hbl
      go_wp2_with fail
      refine (trim_any _ k k V _ (by omega) HNG.out).mono ?_
      rintro e w' ⟨q,hq,rfl,hnm,rfl⟩
      have HNM:=Lib.hid hnm
      clear hnm
      go_wp2
      go_ret
      exact ⟨_,q,k,by omega,rfl,HNM.out,HBL.out,fun z hz=>by simp [Value.ownBlock] at hz;omega,HOW.out.take hq⟩

theorem shiftRight_any (A:Option Addr) (n c X s W p:Nat) (w:World) (hn:n≤100000000) (hW:W≤100000000) (hs:s=64*W+p) (hp:p<64) (hx:Ng w A n c X) :
  Calls Tryz.prog 182 #[.slice A n c,.int .i64 (s:Int)] w (RetN w (X / (2^p*B64^W)) n) :=
 (shiftRight_own A n c X s W p w hn hW hs hp hx).mono fun _ _ ⟨A,n,c,h1,h2,h3,h4,h5,_⟩=>⟨A,n,c,h1,h2,h3,h4,h5⟩
end Go.Proofs.YtpnokfgplnmjpaaGreatDoor
