import Derived.Test.YtdbhahiieokplaaGreatDoorGDivK
import Derived.Deep.RegionHeld3
set_option linter.unusedSimpArgs false
set_option linter.unusedVariables false

namespace Go.Proofs.YtdbhahiieokplaaGreatDoor
open Go.RowKit
attribute [local go_sem ↓] Go.wp_at_zero Go.wp_at_succ

def cpl (R m:Nat):Nat:=B64^m-1-R

theorem cpl_lt {R m:Nat}:cpl R m<B64^m:=by
 have:0<B64^m:=Nat.pow_pos B64_pos
 unfold cpl;omega

theorem cpl_digit {R m:Nat}:∀ k,k<m→R<B64^m→D B64 (cpl R m) k=B64-1-D B64 R k:=by
 have key:∀ m R,R<B64^m→val B64 (fun k=>B64-1-D B64 R k) m=cpl R m:=by
  intro m
  induction m with
  | zero=>intro R hR;simp [val,cpl]
  | succ m ih =>
    intro R hR
    have hp:0<B64^m:=Nat.pow_pos B64_pos
    have hl:=D_lt B64_pos R m
    have hm:=Nat.mod_lt R hp
    have e:val B64 (fun k=>B64-1-D B64 R k) m=val B64 (fun k=>B64-1-D B64 (R%B64^m) k) m:=by
     refine val_congr fun i hi=>?_
     have h1:=Nat.div_add_mod R (B64^m)
     have h2:=D_low (P:=R%B64^m) (Z:=R / B64^m) B64_pos hi
     have e3:R%B64^m+B64^m*(R / B64^m)=R:=by omega
     rw [e3] at h2
     rw [h2]
    rw [val_succ,e,ih _ hm]
    have hd:R=R%B64^m+B64^m*D B64 R m:=by
     have:=mod_succ B64 R m
     rw [Nat.mod_eq_of_lt hR] at this
     exact this
    have hmul:(B64-1-D B64 R m)*B64^m=B64^(m+1)-B64^m-B64^m*D B64 R m:=by
     rw [Nat.sub_mul,Nat.sub_mul,Nat.one_mul,Nat.pow_succ,Nat.mul_comm B64,Nat.mul_comm (D B64 R m)]
    have hle:B64^m*D B64 R m+B64^m≤B64^(m+1):=by
     rw [Nat.pow_succ]
     have:=Nat.mul_le_mul_left (B64^m) hl
     rw [Nat.mul_succ] at this
     exact this
    unfold cpl
    rw [hmul]
    omega
 intro k hk hR
 have h:=D_of (b:=B64) (f:=fun k=>B64-1-D B64 R k) (n:=m) B64_pos (fun i _=>by have:=B64_pos;show B64-1-D B64 R i<B64;omega) (key m R hR)
 exact (h.2 k hk).symm

def sbF (f:Nat→Nat) (o U fac X k j:Nat):Nat:=if o≤j∧j<o+k then B64-1-D B64 (U+fac*X) (j-o) else f j

theorem take_words (x f r c:Nat) (hx:x<18446744073709551616) (hf:f<18446744073709551616) (hr:r<18446744073709551616) (hc:c<18446744073709551616) :
  (x*f%18446744073709551616+c) / 18446744073709551616≤1 ∧
  x*f / 18446744073709551616+(x*f%18446744073709551616+c) / 18446744073709551616<18446744073709551616 ∧
  x*f / 18446744073709551616+(x*f%18446744073709551616+c) / 18446744073709551616+(if r<(x*f%18446744073709551616+c)%18446744073709551616+0 then 1 else 0)=(18446744073709551615-r+x*f+c) / 18446744073709551616 ∧
  (r+18446744073709551616-(x*f%18446744073709551616+c)%18446744073709551616-0)%18446744073709551616=18446744073709551615-(18446744073709551615-r+x*f+c)%18446744073709551616:=by
 have h1:x*f≤18446744073709551615*18446744073709551615:=Nat.mul_le_mul (by omega) (by omega)
 generalize x*f=p at *
 refine ⟨by omega,by omega,?_,by omega⟩
 split<;>omega

theorem sub64_0 (x y d o:Nat) (hd:(x+18446744073709551616-y-0)%18446744073709551616=d) (ho:(if x<y+0 then 1 else 0)=o) (w:World) :
  (callFunc 192 #[.int .u64 (x:Int),.int .u64 (y:Int),.int .u64 0]).run Tryz.prog w=.ok (.value (.tuple #[.int .u64 (d:Int),.int .u64 (o:Int)])) w :=
 sub64_fn x y 0 (by omega) w d o hd ho

set_option maxHeartbeats 2000000 in
set_option maxRecDepth 100000 in
theorem subtractMultiple_any (g o N n c:Nat) (f:Nat→Nat) (A:Option Addr) (m cx R X fac:Nat) (w:World) (hN:o+m≤N) (hn:n=m) (hc:n≤c) (hm:m≤1000000000) (hL:Lies w g N f) (hR:∀ i,i<m→f (o+i)=D B64 R i) (hRl:R<B64^m)
  (hX:Rd w .u64 A m (D B64 X)) (hne:0<m→∀ a,A=some a→a.block≠g) (hf:fac<18446744073709551616) :
  Calls Tryz.prog 205 #[.slice (some ⟨g,o,none⟩) n c,.slice A m cx,.int .u64 (fac:Int)] w (RetAM w g N (sbF f o (cpl R m) fac X m) (car B64 (cpl R m) fac X m)):=by
 subst hn
 have hcd:=fun k (hk:k<n)=>cpl_digit (R:=R) (m:=n) k hk hRl
 generalize cpl R n=U at *
 have HCD:=Lib.hid hcd
 have HX:=Lib.hid hX
 have HN:=Lib.hid hne
 have HRR:=Lib.hid hR
 have HL:=Lib.hid hL
 clear hX hne hR hL hcd hRl
 go_enter Tryz.func205,Tryz.ntmps205
 go_wp2
 go_loopw [7,14] (fun cy i wr=>∃ k:Nat,k≤n∧i=.int .i64 k∧cy=.int .u64 (car B64 U fac X k:Nat)∧Lies wr g N (sbF f o U fac X k)∧w.grownBy wr (some g)) (fun _ i _=>n-(intOf i).toNat)
 case atStart =>
  refine ⟨0,Nat.zero_le _,rfl,by rw [car_zero];rfl,HL.out.congr fun i hi=>?_,World.grownBy.refl _ _⟩
  unfold sbF
  rw [if_neg (by omega)]
 case round =>
  obtain ⟨k,hk,rfl,rfl,hlies,hg⟩:=hrel
  by_cases hlt:k<n
  · have hxr:=(HX.out.grown hg (fun q hq a ha=>by injection hq with hq;subst hq;exact HN.out (by omega) a ha))
    obtain ⟨gx,ox,hA,hgx,hcx⟩:=hxr (by omega)
    have hne2:gx≠g:=HN.out (by omega) _ hA
    subst hA
    have hxk:=hcx k hlt
    have hcell:=hlies.cell (i:=o+k) (by omega)
    have hfro:=hlies.frozen (o+k)
    have hval:sbF f o U fac X k (o+k)=D B64 R k:=by unfold sbF;rw [if_neg (by omega),HRR.out k hlt]
    rw [hval] at hcell
    clear hval hxr hcx
    have hdx:=D64_lt X k
    have hdr:=D64_lt R k
    have hcl:=car_lt B64_pos (x:=fac) (by rw [B64_eq];exact hf) U X k
    obtain ⟨hs1,hs2⟩:=car_step B64_pos U fac X k
    rw [HCD.out k hlt] at hs1 hs2
    obtain ⟨t1,t2,t3,t4⟩:=take_words (D B64 X k) fac (D B64 R k) (car B64 U fac X k) hdx hf hdr (by omega)
    have hlo1:D B64 X k*fac%18446744073709551616<18446744073709551616:=Nat.mod_lt _ (by omega)
    obtain ⟨hi,hhi⟩:∃ v,D B64 X k*fac / 18446744073709551616=v:=⟨_,rfl⟩
    obtain ⟨lo,hlo⟩:∃ v,D B64 X k*fac%18446744073709551616=v:=⟨_,rfl⟩
    rw [hhi,hlo] at t2 t3
    rw [hlo] at t1 t4 hlo1
    obtain ⟨s1,hs1'⟩:∃ v,(lo+car B64 U fac X k)%18446744073709551616=v:=⟨_,rfl⟩
    obtain ⟨o1,ho1⟩:∃ v,(lo+car B64 U fac X k) / 18446744073709551616=v:=⟨_,rfl⟩
    rw [ho1] at t1 t2 t3
    rw [hs1'] at t3 t4
    obtain ⟨s2,hs2'⟩:∃ v,(D B64 R k+18446744073709551616-s1-0)%18446744073709551616=v:=⟨_,rfl⟩
    obtain ⟨o2,ho2⟩:∃ v,(if D B64 R k<s1+0 then 1 else 0)=v:=⟨_,rfl⟩
    rw [ho2] at t3
    rw [hs2'] at t4
    have hm64:=fun W=>mul64_any (D B64 X k) fac hdx hf hi lo hhi hlo W
    have ha1:=add64_0 lo (car B64 U fac X k) s1 o1 hs1' ho1
    have ha2:=sub64_0 (D B64 R k) s1 s2 o2 hs2' ho2
    have hcar:hi+o1+o2=car B64 U fac X (k+1):=by rw [t3,←hs1,Nat.mul_comm fac];rfl
    have hdig:s2=B64-1-D B64 (U+fac*X) k:=by rw [t4,←hs2,Nat.mul_comm fac];rfl
    have hb2:hi+o1+o2<18446744073709551616:=by
     rw [hcar]
     have:=car_lt B64_pos (x:=fac) (by rw [B64_eq];exact hf) U X (k+1)
     omega
    have HM64:=Lib.hid hm64
    have HDIG:=Lib.hid hdig
    have HCAR:=Lib.hid hcar
    have HL2:=Lib.hid hlies
    have hk0:(0:Int)≤(k:Int):=by omega
    have hk1:(k:Int)<(n:Int):=by omega
    clear t3 t4 hs1 hs2 hm64 hdig hcar hhi hlo hs1' ho1 hs2' ho2 hlies
    generalize car B64 U fac X k=cy at *
    generalize D B64 X k=xk at *
    generalize D B64 R k=rk at *
    go_wp2_with fail
    refine (HM64.out _).mono ?_
    rintro e w' ⟨rfl,rfl⟩
    go_wp2
    go_roundw
    case rel =>
     refine ⟨k+1,by omega,by go_num,by rw [←HCAR.out];go_num,(HL2.out.set (o+k) s2).congr fun j hj=>?_,grown_set hg _ _⟩
     unfold sbF
     by_cases e:j=o+k
     · rw [if_pos e,if_pos (by omega),e,Nat.add_sub_cancel_left,HDIG.out]
     · rw [if_neg e]
       by_cases e2:o≤j∧j<o+k
       · rw [if_pos e2,if_pos (by omega)]
       · rw [if_neg e2,if_neg (by omega)]
    case measure=>simp [intOf]<;>omega
  · obtain rfl:k=n:=by omega
    go_wp2
    go_ret
    exact ⟨rfl,hlies,hg⟩
end Go.Proofs.YtdbhahiieokplaaGreatDoor


namespace Go.Proofs.YtdbhahiieokplaaGreatDoor
open Go.RowKit
attribute [local go_sem ↓] Go.wp_at_zero Go.wp_at_succ

theorem quietD {f:FuncId} {args:Array Value} {w:World} {n:Nat} {v:Value} (h:Calls Tryz.prog f args (w.drewN n) fun e w'=>e=.returned v∧Drew (w.drewN n) w') :
 Calls Tryz.prog f args (w.drewN n) fun e w''=>e=.returned v∧∃ m,w''=w.drewN m:=h.mono fun _ _ ⟨he,q,hm⟩=>⟨he,n+q,by rw [hm,World.drewN_drewN]⟩
theorem quietD2 {f:FuncId} {args:Array Value} {w:World} {a n:Nat} {v:Value} (h:Calls Tryz.prog f args (w.drewN (a+n)) fun e w'=>e=.returned v∧Drew (w.drewN (a+n)) w') :
 Calls Tryz.prog f args (w.drewN (a+n)) fun e w''=>e=.returned v∧∃ m,w''=w.drewN (a+m):=h.mono fun _ _ ⟨he,q,hm⟩=>⟨he,n+q,by rw [hm,World.drewN_drewN,Nat.add_assoc]⟩

def RetWd (w:World) (q:Nat) (e:Ending) (w':World):Prop:=e=.returned (.int .u64 (q:Int))∧Drew w w'

set_option maxHeartbeats 2000000 in
set_option maxRecDepth 100000 in
theorem guess_top (g o c h p d r2 v1 v0:Nat) (w:World) (hr2:w.cell? ⟨g,o+2,none⟩=some (.int .u64 (r2:Int)))
  (hv1:w.cell? ⟨h,p+1,none⟩=some (.int .u64 (v1:Int))) (hv0:w.cell? ⟨h,p,none⟩=some (.int .u64 (v0:Int))) (hge:v1≤r2) :
  Calls Tryz.prog 204 #[.slice (some ⟨g,o,none⟩) 3 c,.slice (some ⟨h,p,none⟩) 2 d] w (RetWd w 18446744073709551615):=by
 have hged:decide ((v1:Int)≤(r2:Int))=true:=by simp;omega
 go_enter Tryz.func204,Tryz.ntmps204
 go_wp2_with fail
 go_quiet (fail)
 go_wp2
 go_ret
 exact ⟨rfl,_,rfl⟩

set_option maxHeartbeats 4000000 in
set_option maxRecDepth 100000 in
theorem guess_low (g o c h p d r2 r1 r0 v1 v0:Nat) (w:World) (hr2:w.cell? ⟨g,o+2,none⟩=some (.int .u64 (r2:Int))) (hr1:w.cell? ⟨g,o+1,none⟩=some (.int .u64 (r1:Int))) (hr0:w.cell? ⟨g,o,none⟩=some (.int .u64 (r0:Int)))
  (hv1:w.cell? ⟨h,p+1,none⟩=some (.int .u64 (v1:Int))) (hv0:w.cell? ⟨h,p,none⟩=some (.int .u64 (v0:Int))) (hlt:r2<v1)
  (l1:r1<18446744073709551616) (l0:r0<18446744073709551616) (lv1:v1<18446744073709551616) (lv0:v0<18446744073709551616) (hv:9223372036854775808≤v1) :
  Calls Tryz.prog 204 #[.slice (some ⟨g,o,none⟩) 3 c,.slice (some ⟨h,p,none⟩) 2 d] w (RetWd w (((r2*B64+r1)*B64+r0) / (v1*B64+v0))):=by
 have hB:=B64_eq
 have hged:decide ((v1:Int)≤(r2:Int))=false:=by simp;omega
 obtain ⟨u,hu⟩:∃ u,r2*B64+r1=u:=⟨_,rfl⟩
 have huv:u<v1*B64:=by
  have:(r2+1)*B64≤v1*B64:=Nat.mul_le_mul_right _ hlt
  rw [Nat.add_mul,Nat.one_mul] at this
  omega
 obtain ⟨g1,g2,g3⟩:=half_start (b:=B64) (y1:=v1) (y0:=v0) (u:=u) (d:=r0) (by omega) (by omega) (by omega) (by omega) (by omega) (by omega)
 have hY0:0<v1*B64+v0:=by omega
 rw [hu]
 obtain ⟨q,hq⟩:∃ q,(u*B64+r0) / (v1*B64+v0)=q:=⟨_,rfl⟩
 rw [hq] at g1 g3 ⊢
 have hv1p:0<v1:=by omega
 obtain ⟨Qa,eQa⟩:∃ Q,u / v1=Q:=⟨_,rfl⟩
 obtain ⟨Ra,eRa⟩:∃ R,u%v1=R:=⟨_,rfl⟩
 have sa:Qa*v1+Ra=u:=by have h:=Nat.div_add_mod u v1;rw [eQa,eRa,Nat.mul_comm] at h;exact h
 have lRa:Ra<v1:=by rw [←eRa];exact Nat.mod_lt _ hv1p
 have lQa:Qa<B64:=by rw [←eQa,Nat.div_lt_iff_lt_mul hv1p,Nat.mul_comm];exact huv
 rw [eQa] at g1
 have hdv:=fun W=>div64_any r2 r1 v1 lv1 l1 hlt W
 rw [←B64_eq,hu,eQa,eRa] at hdv
 have HDV:=Lib.hid hdv
 have SA:=Lib.hid sa
 have G1:=Lib.hid g1
 have HQ:=Lib.hid hq
 have hvB:B64≤2*v1:=by omega
 have HY0:=Lib.hid hY0
 have HUV:=Lib.hid (show u<v1*B64+v0 by omega)
 have hQaB:Qa≤18446744073709551615:=by omega
 have hRaB:Ra≤18446744073709551615:=by omega
 have HBB:=Lib.hid hB
 have HVB:=Lib.hid hvB
 clear hdv sa g1 hq hu eQa eRa huv hY0 g2 g3 hB lQa lRa hvB
 go_enter Tryz.func204,Tryz.ntmps204
 go_wp2_with fail
 go_quiet (fail)
 go_wp2_with fail
 go_quiet ((go_at_call 196;first | exact quietD (HDV.out _) | exact quietD2 (HDV.out _)))
 go_wp2_with fail
 have hgn:decide (v1≤r2)=false:=by simp;omega
 rw [hgn]
 go_loopw [7,8] (fun a l wr=>∃ Q R:Nat,a=.int .u64 (Q:Int)∧l=.int .u64 (R:Int)∧Hid (Q*v1+R=u)∧Hid (q≤Q)∧Q≤18446744073709551615∧R≤18446744073709551615∧Drew w wr) (fun a _ _=>(intOf a).toNat)
 case atStart=>exact ⟨Qa,Ra,rfl,rfl,SA,G1,hQaB,hRaB,((Drew.refl w).drewN _).drewN _⟩
 case round =>
  obtain ⟨Q,R,rfl,rfl,HE,HQ2,hQ,hR,hdr⟩:=hrel
  have hr0w:=(hdr.cell ⟨g,o,none⟩).trans hr0
  have hpb:Q*v0≤18446744073709551615*18446744073709551615:=Nat.mul_le_mul hQ (by omega)
  obtain ⟨P,hP⟩:∃ P,Q*v0=P:=⟨_,rfl⟩
  obtain ⟨hi,hhi⟩:∃ v,Q*v0 / 18446744073709551616=v:=⟨_,rfl⟩
  obtain ⟨lo,hlo⟩:∃ v,Q*v0%18446744073709551616=v:=⟨_,rfl⟩
  have HM:=Lib.hid (fun W=>mul64_any Q v0 (by omega) lv0 hi lo hhi hlo W)
  rw [hP] at hhi hlo hpb
  have hPs:P=hi*18446744073709551616+lo:=by omega
  have llo:lo<18446744073709551616:=by omega
  by_cases ht:P≤B64*R+r0
  · have hfin:=half_done (b:=B64) (y1:=v1) (y0:=v0) (u:=u) (d:=r0) (Q:=Q) (R:=R) HY0.out HE.out (by rw [hP];exact ht) (by rw [HQ.out];exact HQ2.out)
    rw [HQ.out] at hfin
    have HF:=Lib.hid hfin
    rw [B64_eq,hPs] at ht
    clear hfin hPs hhi hlo hpb hP
    by_cases hlt1:hi<R
    · clear ht
      go_wp2_with fail
      refine (HM.out _).mono ?_
      rintro e w' ⟨rfl,rfl⟩
      go_wp2
      go_ret
      exact ⟨by rw [←HF.out];rfl,hdr⟩
    · obtain rfl:hi=R:=by omega
      have hle:lo≤r0:=by omega
      have hbl:decide ((hi:Int)<(hi:Int))=false:=by simp
      have hbe:((hi:Int)==(hi:Int))=true:=by simp
      have hbd:decide ((lo:Int)≤(r0:Int))=true:=by simp;omega
      clear ht hlt1
      go_wp2_with fail
      refine (HM.out _).mono ?_
      rintro e w' ⟨rfl,rfl⟩
      go_wp2
      go_ret
      exact ⟨by rw [←HF.out];rfl,hdr⟩
  · have hless:=half_more (b:=B64) (y1:=v1) (y0:=v0) (u:=u) (d:=r0) (Q:=Q) (R:=R) (by have:=HBB.out;omega) HVB.out (by have:=HBB.out;omega) HUV.out (by have:=HBB.out;omega) HE.out (.inr (by rw [hP];omega))
    rw [HQ.out] at hless
    have hbr:=fun (h1:Q-1≤B64) (h2:B64≤R+v1)=>half_done (b:=B64) (y1:=v1) (y0:=v0) (u:=u) (d:=r0) (Q:=Q-1) (R:=R+v1) HY0.out (by have h:=HE.out;obtain ⟨m,hm⟩:∃ m,Q=m+1:=⟨Q-1,by omega⟩;rw [hm,Nat.add_sub_cancel];rw [hm,Nat.add_mul] at h;omega) (half_break (by have:=HBB.out;omega) h1 h2) (by rw [HQ.out];omega)
    rw [HQ.out] at hbr
    have hne1:Hid ((Q-1)*v1+(R+v1)=u):=by
     have h:=HE.out
     obtain ⟨m,hm⟩:∃ m,Q=m+1:=⟨Q-1,by omega⟩
     show _=_
     rw [hm,Nat.add_sub_cancel]
     rw [hm,Nat.add_mul] at h
     omega
    have hq2:Hid (q≤Q-1):=by show _≤_;omega
    have hQ1:Q-1≤18446744073709551615:=by omega
    have hQm:Q-1<Q:=by omega
    have v1e:IntKind.u64.wrap ((Q:Int)-1)=((Q-1:Nat):Int):=wrap_u _ _ (by omega)
    obtain ⟨Qn,hQn⟩:∃ Qn,Q-1=Qn:=⟨_,rfl⟩
    obtain ⟨Rs,hRs⟩:∃ s,(R+v1)%18446744073709551616=s:=⟨_,rfl⟩
    obtain ⟨Ro,hRo⟩:∃ s,(R+v1) / 18446744073709551616=s:=⟨_,rfl⟩
    have ha:=add64_0 R v1 Rs Ro hRs hRo
    rw [hQn] at hbr hne1 hq2 v1e hQ1 hQm
    have HBR:=Lib.hid hbr
    have hcase:Hid (Ro=0→Rs=R+v1):=by show _→_;intro h;omega
    have hcase2:Hid (Ro≠0→B64≤R+v1):=by show _→_;intro h;rw [B64_eq];omega
    have hRsb:Rs≤18446744073709551615:=by omega
    rw [B64_eq,hPs] at ht
    clear hbr hless hPs hhi hlo hpb hP hQn hRs hRo
    have htests:R≤hi∧(((hi:Int)==(R:Int))=false∨(hi=R∧r0<lo)):=by
     refine ⟨by omega,?_⟩
     by_cases h:hi=R
     · exact .inr ⟨h,by omega⟩
     · exact .inl (by simp;omega)
    obtain ⟨tb1,tb2⟩:=htests
    have HT:=Lib.hid ht
    clear ht
    rcases tb2 with tb2 | ⟨rfl,tb2⟩
    all_goals
     try (have tb3:((hi:Int)==(hi:Int))=true:=by simp)
     by_cases hov:Ro=0
     · have hov0:((Ro:Int) != 0)=false:=by simp;omega
       have hRR:=hcase.out hov
       rw [←hRR] at hne1
       clear hRR hov
       go_wp2_with fail
       refine (HM.out _).mono ?_
       rintro e w' ⟨rfl,rfl⟩
       go_wp2
       go_roundw
       case rel=>exact ⟨Qn,Rs,rfl,rfl,hne1,hq2,hQ1,hRsb,hdr⟩
       case measure=>simp [intOf]<;>omega
     · have hov0:((Ro:Int) != 0)=true:=by simp;omega
       have HF:=Lib.hid (HBR.out (by have:=HBB.out;omega) (hcase2.out hov))
       go_wp2_with fail
       refine (HM.out _).mono ?_
       rintro e w' ⟨rfl,rfl⟩
       go_wp2
       go_ret
       exact ⟨by rw [←HF.out];rfl,hdr⟩
end Go.Proofs.YtdbhahiieokplaaGreatDoor


namespace Go.Proofs.YtdbhahiieokplaaGreatDoor
open Go.RowKit
attribute [local go_sem ↓] Go.wp_at_zero Go.wp_at_succ

def guess (r2 r1 r0 v1 v0:Nat):Nat:=if v1≤r2 then B64-1 else ((r2*B64+r1)*B64+r0) / (v1*B64+v0)

theorem guess_any (g o c h p d L M r2 r1 r0 v1 v0:Nat) (w:World) (hL:L=3) (hM:M=2) (hr2:w.cell? ⟨g,o+2,none⟩=some (.int .u64 (r2:Int))) (hr1:w.cell? ⟨g,o+1,none⟩=some (.int .u64 (r1:Int))) (hr0:w.cell? ⟨g,o,none⟩=some (.int .u64 (r0:Int)))
  (hv1:w.cell? ⟨h,p+1,none⟩=some (.int .u64 (v1:Int))) (hv0:w.cell? ⟨h,p,none⟩=some (.int .u64 (v0:Int)))
  (l1:r1<18446744073709551616) (l0:r0<18446744073709551616) (lv1:v1<18446744073709551616) (lv0:v0<18446744073709551616) (hv:9223372036854775808≤v1) :
  Calls Tryz.prog 204 #[.slice (some ⟨g,o,none⟩) L c,.slice (some ⟨h,p,none⟩) M d] w (RetWd w (guess r2 r1 r0 v1 v0)):=by
 subst hL
 subst hM
 unfold guess
 by_cases hge:v1≤r2
 · rw [if_pos hge]
   exact guess_top g o c h p d r2 v1 v0 w hr2 hv1 hv0 hge
 · rw [if_neg hge]
   exact guess_low g o c h p d r2 r1 r0 v1 v0 w hr2 hr1 hr0 hv1 hv0 (by omega) l1 l0 lv1 lv0 hv

theorem split3 {b V m:Nat} (hV:V<b^(m+3)):V=((D b V (m+2)*b+D b V (m+1))*b+D b V m)*b^m+V%b^m:=by
 have h0:=Nat.div_add_mod V (b^m)
 have h1:=div_D b V m
 have h2:=div_D b V (m+1)
 have h3:=div_D b V (m+2)
 have hz:V / b^(m+2+1)=0:=Nat.div_eq_of_lt hV
 rw [hz,Nat.mul_zero,Nat.zero_add] at h3
 rw [h3] at h2
 rw [h2] at h1
 rw [h1] at h0
 rw [Nat.mul_comm b (D b V (m+2)),Nat.mul_comm b (D b V (m+2)*b+D b V (m+1)),Nat.mul_comm (b^m)] at h0
 exact h0.symm
theorem split2 {b V m:Nat} (hV:V<b^(m+2)):V=(D b V (m+1)*b+D b V m)*b^m+V%b^m:=by
 have h0:=Nat.div_add_mod V (b^m)
 have h1:=div_D b V m
 have h2:=div_D b V (m+1)
 have hz:V / b^(m+1+1)=0:=Nat.div_eq_of_lt hV
 rw [hz,Nat.mul_zero,Nat.zero_add] at h2
 rw [h2] at h1
 rw [h1] at h0
 rw [Nat.mul_comm b (D b V (m+1)),Nat.mul_comm (b^m)] at h0
 exact h0.symm
theorem split1 {b V m:Nat} (hV:V<b^(m+1)):V=D b V m*b^m+V%b^m:=by
 have h0:=Nat.div_add_mod V (b^m)
 have h1:=div_D b V m
 have hz:V / b^(m+1)=0:=Nat.div_eq_of_lt hV
 rw [hz,Nat.mul_zero,Nat.zero_add] at h1
 rw [h1,Nat.mul_comm (b^m)] at h0
 exact h0.symm

theorem guess_ok {W Y m:Nat} (hW:W<B64^(m+3)) (hY:Y<B64^(m+2)) (hYt:B64^(m+2)≤2*Y) (hWY:W<Y*B64) :
  9223372036854775808≤D B64 Y (m+1)∧W / Y≤guess (D B64 W (m+2)) (D B64 W (m+1)) (D B64 W m) (D B64 Y (m+1)) (D B64 Y m) ∧
  guess (D B64 W (m+2)) (D B64 W (m+1)) (D B64 W m) (D B64 Y (m+1)) (D B64 Y m)≤W / Y+1∧W / Y<B64∧guess (D B64 W (m+2)) (D B64 W (m+1)) (D B64 W m) (D B64 Y (m+1)) (D B64 Y m)<B64:=by
 have hp:0<B64^m:=Nat.pow_pos B64_pos
 have hp1:0<B64^(m+1):=Nat.pow_pos B64_pos
 have hB:=B64_eq
 have s3:=split3 hW
 have s2:=split2 hY
 have s1:=split1 (m:=m+1) hY
 have hWl:=Nat.mod_lt W hp
 have hYl:=Nat.mod_lt Y hp
 have hYl1:=Nat.mod_lt Y hp1
 have t1:=split1 (m:=m+2) hW
 have hv:B64≤2*D B64 Y (m+1):=by
  have h1:B64*B64^(m+1)<(2*D B64 Y (m+1)+2)*B64^(m+1):=by
   have:B64^(m+2)=B64*B64^(m+1):=Nat.pow_succ'
   rw [Nat.add_mul,Nat.mul_assoc]
   omega
  have h2:=Nat.lt_of_mul_lt_mul_right h1
  omega
 have hYY:B64*B64≤2*(D B64 Y (m+1)*B64+D B64 Y m):=by
  have h1:B64*B64≤2*D B64 Y (m+1)*B64:=Nat.mul_le_mul_right _ hv
  rw [Nat.mul_assoc] at h1
  omega
 have key:=knuth (b:=B64) (P:=B64^m) (z:=(D B64 W (m+2)*B64+D B64 W (m+1))*B64+D B64 W m) (zl:=W%B64^m) (y:=D B64 Y (m+1)*B64+D B64 Y m) (yl:=Y%B64^m) (by omega) hp hWl hYl hYY (by rw [←s3,←s2];exact hWY)
 rw [←s3,←s2] at key
 obtain ⟨k1,k2,k3⟩:=key
 refine ⟨by omega,?_⟩
 unfold guess
 by_cases hge:D B64 Y (m+1)≤D B64 W (m+2)
 · rw [if_pos hge]
   have e:B64^(m+2)=B64^(m+1)*B64:=by rw [←Nat.pow_succ]
   rw [e] at t1
   have kt:=knuth_top (b:=B64) (P:=B64^(m+1)) (r2:=D B64 W (m+2)) (rl:=W%(B64^(m+1)*B64)) (v1:=D B64 Y (m+1)) (vl:=Y%B64^(m+1)) (by omega) hp1 hv hYl1 hge (by rw [←t1,←s1];exact hWY)
   rw [←t1,←s1] at kt
   exact ⟨kt.1,kt.2,k3,by omega⟩
 · rw [if_neg hge]
   refine ⟨k1,k2,k3,?_⟩
   have hr1:=D_lt B64_pos W (m+1)
   have hr0:=D_lt B64_pos W m
   rw [Nat.div_lt_iff_lt_mul (by have:1*B64≤D B64 Y (m+1)*B64:=Nat.mul_le_mul_right _ (by omega);omega)]
   have h1:(D B64 W (m+2)+1)*B64≤D B64 Y (m+1)*B64:=Nat.mul_le_mul_right _ (by omega)
   rw [Nat.add_mul,Nat.one_mul] at h1
   have h2:(D B64 W (m+2)*B64+D B64 W (m+1)+1)*B64≤(D B64 Y (m+1)*B64+D B64 Y m)*B64:=Nat.mul_le_mul_right _ (by omega)
   rw [Nat.add_mul _ 1,Nat.one_mul] at h2
   rw [Nat.mul_comm B64]
   omega

theorem sub_left {R Y q n:Nat} (hR:R<B64^n) (hY:Y<B64^n):∃ N,N<B64^n∧(∀ i,i<n→B64-1-D B64 (cpl R n+q*Y) i=D B64 N i)∧R+car B64 (cpl R n) q Y n*B64^n=N+q*Y:=by
 have hp:0<B64^n:=Nat.pow_pos B64_pos
 have hm:=Nat.mod_lt (cpl R n+q*Y) hp
 have hd:=Nat.div_add_mod (cpl R n+q*Y) (B64^n)
 refine ⟨cpl ((cpl R n+q*Y)%B64^n) n,cpl_lt,fun i hi=>?_,?_⟩
 · rw [cpl_digit i hi hm]
   have h2:=D_low (P:=(cpl R n+q*Y)%B64^n) (Z:=(cpl R n+q*Y) / B64^n) B64_pos hi
   have e:(cpl R n+q*Y)%B64^n+B64^n*((cpl R n+q*Y) / B64^n)=cpl R n+q*Y:=by omega
   rw [e] at h2
   rw [h2]
 · rw [car_end cpl_lt hY,Nat.mul_comm _ (B64^n)]
   generalize (cpl R n+q*Y) / B64^n=c at *
   generalize (cpl R n+q*Y)%B64^n=r at *
   unfold cpl at *
   omega
end Go.Proofs.YtdbhahiieokplaaGreatDoor


namespace Go.Proofs.YtdbhahiieokplaaGreatDoor
open Go.RowKit
attribute [local go_sem ↓] Go.wp_at_zero Go.wp_at_succ

def wnF (f:Nat→Nat) (o n R j:Nat):Nat:=if o≤j∧j≤o+n then D B64 R (j-o) else f j

def RetQd (w:World) (g N:Nat) (F:Nat→Nat) (q:Nat) (e:Ending) (w':World):Prop:=e=.returned (.int .u64 (q:Int))∧Lies w' g N F∧w.grownBy w' (some g)

theorem grown_drew {a w w':World} {row:Option Nat} (h:a.grownBy w row) (hd:Drew w w'):a.grownBy w' row:=by
 obtain ⟨q,rfl⟩:=hd
 exact ⟨h.os,h.tape,h.output,h.size,h.block⟩
theorem Lies.drew {w w':World} {g n:Nat} {f:Nat→Nat} (h:Lies w g n f) (hd:Drew w w'):Lies w' g n f:=by
 obtain ⟨q,rfl⟩:=hd
 exact h
theorem Rd.drewD {w w':World} {K:IntKind} {A:Option Addr} {n:Nat} {f:Nat→Nat} (h:Rd w K A n f) (hd:Drew w w'):Rd w' K A n f:=by
 obtain ⟨q,rfl⟩:=hd
 exact h

theorem Drew.one (w:World):Drew w w.drew:=⟨1,rfl⟩

theorem add_back (g o N n c:Nat) (f:Nat→Nat) (A:Option Addr) (m cx U X R:Nat) (w:World) (hN:o+m≤N) (hn:n=m) (hc:n≤c) (hm:m≤1000000000) (hL:Lies w g N f) (hU:∀ i,i<m→f (o+i)=D B64 U i)
  (hX:Rd w .u64 A m (D B64 X)) (hne:0<m→∀ a,A=some a→a.block≠g) (hUl:U<B64^m) (hXl:X<B64^m) (hR:R<B64^m) (he:U+X=R+B64^m) :
  Calls Tryz.prog 168 #[.slice (some ⟨g,o,none⟩) n c,.slice A m cx,.int .u64 1] w (fun e w'=>e=.returned (.int .u64 1)∧Lies w' g N (fun j=>if o≤j∧j<o+m then D B64 R (j-o) else f j)∧w.grownBy w' (some g)):=by
 have h:=addMultiple_any g o N n c f A m cx U X 1 w hN hn hc hm hL hU hX hne (by omega)
 have hp:0<B64^m:=Nat.pow_pos B64_pos
 have hcar:car B64 U 1 X m=1:=by
  rw [car_end hUl hXl,Nat.one_mul,he,Nat.add_div_right _ hp,Nat.div_eq_of_lt hR]
 refine h.mono fun e w' ⟨h1,h2,h3⟩=>⟨by rw [h1,hcar];rfl,h2.congr fun j hj=>?_,h3⟩
 unfold amF
 subst hn
 by_cases e2:o≤j∧j<o+n
 · rw [if_pos e2,if_pos e2,Nat.one_mul,he]
   have:=D_low (P:=R) (Z:=1) B64_pos (show j-o<n by omega)
   rw [Nat.mul_one] at this
   exact this
 · rw [if_neg e2,if_neg e2]

set_option maxHeartbeats 4000000 in
set_option maxRecDepth 100000 in
theorem quotientDigit_any (g o N m c:Nat) (f:Nat→Nat) (A:Option Addr) (d W Y L M:Nat) (w:World) (hL:L=m+3) (hM:M=m+2) (hm:m≤100000000) (hN:o+m+3≤N) (hc:m+3≤c) (hd:m+2≤d) (hlies:Lies w g N f) (hwin:∀ i,i<m+3→f (o+i)=D B64 W i) (hW:W<B64^(m+3))
  (hr:Rd w .u64 A (m+2) (D B64 Y)) (hY:Y<B64^(m+2)) (hYt:B64^(m+2)≤2*Y) (hWY:W<Y*B64) (hne:∀ a,A=some a→a.block≠g) :
  Calls Tryz.prog 190 #[.slice (some ⟨g,o,none⟩) L c,.slice A M d] w (RetQd w g N (wnF f o (m+2) (W%Y)) (W / Y)):=by
 subst hL
 subst hM
 obtain ⟨gv,g1,g2,g3,g4⟩:=guess_ok hW hY hYt hWY
 obtain ⟨q,hq⟩:∃ q,guess (D B64 W (m+2)) (D B64 W (m+1)) (D B64 W m) (D B64 Y (m+1)) (D B64 Y m)=q:=⟨_,rfl⟩
 rw [hq] at g1 g2 g4
 obtain ⟨h,p,hA,hh,hcy⟩:=hr (by omega)
 have hhg:h≠g:=hne _ hA
 subst hA
 have hw2:w.cell? ⟨g,o+m+2,none⟩=some (.int .u64 (D B64 W (m+2):Int)):=by have:=hlies.cell (i:=o+(m+2)) (by omega);rw [hwin (m+2) (by omega)] at this;exact this
 have hw1:w.cell? ⟨g,o+m+1,none⟩=some (.int .u64 (D B64 W (m+1):Int)):=by have:=hlies.cell (i:=o+(m+1)) (by omega);rw [hwin (m+1) (by omega)] at this;exact this
 have hw0:w.cell? ⟨g,o+m,none⟩=some (.int .u64 (D B64 W m:Int)):=by have:=hlies.cell (i:=o+m) (by omega);rw [hwin m (by omega)] at this;exact this
 have hy1:w.cell? ⟨h,p+m+1,none⟩=some (.int .u64 (D B64 Y (m+1):Int)):=hcy (m+1) (by omega)
 have hy0:w.cell? ⟨h,p+m,none⟩=some (.int .u64 (D B64 Y m:Int)):=hcy m (by omega)
 have hgs:=fun V (hV:Drew w V) (L M:Nat) (hL:L=3) (hM:M=2)=>guess_any g (o+m) (c-m) h (p+m) (d-m) L M _ _ _ _ _ V hL hM ((hV.cell _).trans hw2) ((hV.cell _).trans hw1) ((hV.cell _).trans hw0) ((hV.cell _).trans hy1) ((hV.cell _).trans hy0) (D64_lt _ _) (D64_lt _ _) (D64_lt _ _) (D64_lt _ _) gv
 rw [hq] at hgs
 have hnt:=split1 (m:=m+2) hW
 have hRl:=Nat.mod_lt W (show 0<B64^(m+2) from Nat.pow_pos B64_pos)
 have hRd:∀ i,i<m+2→f (o+i)=D B64 (W%B64^(m+2)) i:=fun i hi=>by
  rw [hwin i (by omega)]
  have h1:=Nat.div_add_mod W (B64^(m+2))
  have h2:=D_low (P:=W%B64^(m+2)) (Z:=W / B64^(m+2)) B64_pos hi
  rw [←h2]
  congr 1
  omega
 obtain ⟨N1,hN1,hN1d,hN1e⟩:=sub_left (q:=q) hRl hY
 obtain ⟨cc,hcc⟩:∃ cc,car B64 (cpl (W%B64^(m+2)) (m+2)) q Y (m+2)=cc:=⟨_,rfl⟩
 rw [hcc] at hN1e
 have hccb:cc≤18446744073709551615:=by
  rw [←hcc]
  have:=car_lt B64_pos (x:=q) g4 (cpl (W%B64^(m+2)) (m+2)) Y (m+2)
  rw [B64_eq] at g4
  omega
 obtain ⟨t,ht⟩:∃ t,D B64 W (m+2)=t:=⟨_,rfl⟩
 rw [ht] at hnt hw2
 have htb:t<18446744073709551616:=by rw [←ht];exact D64_lt _ _
 have hmain:W+cc*B64^(m+2)=N1+q*Y+t*B64^(m+2):=by omega
 have hY0:0<Y:=by
  rcases Nat.eq_zero_or_pos Y with h0 | h0
  · subst h0;rw [Nat.zero_mul] at hWY;omega
  · exact h0
 have hRW:W%Y<B64^(m+2):=Nat.lt_of_lt_of_le (Nat.mod_lt _ hY0) (Nat.le_of_lt hY)
 have hsm:=fun V (hV:Drew w V) (L:Nat) (hL:L=m+2)=>subtractMultiple_any g o N L c f (some ⟨h,p,none⟩) (m+2) d (W%B64^(m+2)) Y q V (by omega) hL (by omega) (by omega) (hlies.drew hV) hRd hRl (hr.drewD hV) (fun _ a ha=>by injection ha with ha;subst ha;exact hhg) (by rw [←B64_eq];exact g4)
 rw [hcc] at hsm
 have hqs:W / Y=q∨W / Y+1=q:=by omega
 have HGS:=Lib.hid hgs
 have HSM:=Lib.hid hsm
 have HN1:=Lib.hid hN1
 have HN1D:=Lib.hid hN1d
 have HMAIN:=Lib.hid hmain
 have HWIN:=Lib.hid hwin
 have HT:=Lib.hid ht
 have HRW:=Lib.hid hRW
 have HCY:=Lib.hid hcy
 have HY:=Lib.hid hY
 have hqb:q≤18446744073709551615:=by rw [B64_eq] at g4;omega
 have i1:(0:Int)≤(m:Int):=by omega
 have i2:¬(c=m):=by omega
 have i3:¬(d=m):=by omega
 clear hgs hsm hN1 hN1d hmain hwin ht hRW hcy hr hw1 hw0 hy1 hy0 hnt hRl hRd hN1e hcc hq g1 g2 g3 g4 hW hYt hWY gv hlies hY
 rcases hqs with hqe | hqe
 · have hdr:=digit_right (Nat.le_of_lt HY.out) hqe hY0 HN1.out HMAIN.out
   obtain ⟨rfl,hNW⟩:=hdr
   have HNW:=Lib.hid hNW
   have HQE:=Lib.hid hqe
   clear hNW hqe
   go_enter Tryz.func190,Tryz.ntmps190
   go_wp2_with fail
   have sa:IntKind.i64.wrap ((m:Int)+2-2)=(m:Int):=by rw [IntWalk.i64_in _ (by omega)];omega
   have sb:(m:Int)≤(m:Int)+2:=by omega
   have sc:(m:Int)≤(m:Int)+2+1:=by omega
   go_quiet ((go_at_call 204;first | exact quietD (HGS.out _ ⟨_,rfl⟩ _ _ (by omega) (by omega)) | exact quietD2 (HGS.out _ ⟨_,rfl⟩ _ _ (by omega) (by omega))))
   go_wp2_with fail
   refine (HSM.out _ ⟨_,rfl⟩ _ rfl).mono ?_
   rintro e w3 ⟨rfl,hl3,hg3⟩
   have hc3:=hl3.cell (i:=o+(m+2)) (by omega)
   have hf3:=hl3.frozen (o+(m+2))
   have hv3:sbF f o (cpl (W%B64^(m+2)) (m+2)) q Y (m+2) (o+(m+2))=cc:=by
    unfold sbF
    rw [if_neg (by omega),HWIN.out (m+2) (by omega)]
    exact HT.out
   rw [hv3] at hc3
   have hg3':w.grownBy w3 (some g):=⟨hg3.os,hg3.tape,hg3.output,hg3.size,hg3.block⟩
   have HL3:=Lib.hid hl3
   have HG3:=Lib.hid hg3'
   clear hl3 hg3 hv3 hg3'
   have hgt:¬cc<cc:=Nat.lt_irrefl _
   go_wp2
   go_ret
   refine ⟨by rw [HQE.out];rfl,(HL3.out.set (o+(m+2)) 0).congr fun j hj=>?_,grown_set HG3.out _ _⟩
   unfold wnF
   by_cases e1:j=o+(m+2)
   · rw [if_pos e1,if_pos (by omega),e1,Nat.add_sub_cancel_left]
     exact (D_zero_of B64_pos HRW.out (Nat.le_refl _)).symm
   · rw [if_neg e1]
     unfold sbF
     by_cases e2:o≤j∧j<o+(m+2)
     · rw [if_pos e2,if_pos (by omega),HN1D.out _ (by omega),HNW.out]
     · rw [if_neg e2,if_neg (by omega)]
 · have hdr:=digit_wrong (Nat.le_of_lt HY.out) hqe hY0 HN1.out HMAIN.out
   obtain ⟨rfl,hNW⟩:=hdr
   have HNW:=Lib.hid hNW
   have HQE:=Lib.hid hqe
   clear hNW hqe
   go_enter Tryz.func190,Tryz.ntmps190
   go_wp2_with fail
   have sa:IntKind.i64.wrap ((m:Int)+2-2)=(m:Int):=by rw [IntWalk.i64_in _ (by omega)];omega
   have sb:(m:Int)≤(m:Int)+2:=by omega
   have sc:(m:Int)≤(m:Int)+2+1:=by omega
   go_quiet ((go_at_call 204;first | exact quietD (HGS.out _ ⟨_,rfl⟩ _ _ (by omega) (by omega)) | exact quietD2 (HGS.out _ ⟨_,rfl⟩ _ _ (by omega) (by omega))))
   go_wp2_with fail
   refine (HSM.out _ ⟨_,rfl⟩ _ rfl).mono ?_
   rintro e w3 ⟨rfl,hl3,hg3⟩
   have hc3:=hl3.cell (i:=o+(m+2)) (by omega)
   have hf3:=hl3.frozen (o+(m+2))
   have hv3:sbF f o (cpl (W%B64^(m+2)) (m+2)) q Y (m+2) (o+(m+2))=t:=by
    unfold sbF
    rw [if_neg (by omega),HWIN.out (m+2) (by omega)]
    exact HT.out
   rw [hv3] at hc3
   have hg3':w.grownBy w3 (some g):=⟨hg3.os,hg3.tape,hg3.output,hg3.size,hg3.block⟩
   have HL3:=Lib.hid hl3
   have HG3:=Lib.hid hg3'
   clear hl3 hg3 hv3 hg3'
   have hgt:t<t+1:=Nat.lt_succ_self _
   have hw8:IntKind.u64.wrap ((t:Int)-((t:Int)+1))=18446744073709551615:=by rw [IntKind.wrap_u64];omega
   obtain ⟨qn,hqn⟩:∃ qn,W / Y=qn:=⟨_,rfl⟩
   have hwq:IntKind.u64.wrap ((q:Int)-1)=(qn:Int):=wrap_u _ _ (by have:=HQE.out;omega)
   have hf4:Lies (w3.setCell ⟨g,o+(m+2),none⟩ (.int .u64 18446744073709551615)) g N _:=HL3.out.set (o+(m+2)) 18446744073709551615
   have hab:=fun V (hV:Drew (w3.setCell ⟨g,o+(m+2),none⟩ (.int .u64 18446744073709551615)) V) (L:Nat) (hL:L=m+2)=>add_back g o N L c _ (some ⟨h,p,none⟩) (m+2) d N1 Y (W%Y) V (by omega) hL (by omega) (by omega) (hf4.drew hV) (fun i hi=>by show (if o+i=o+(m+2) then _ else _)=_;rw [if_neg (by omega)];unfold sbF;rw [if_pos (by omega),Nat.add_sub_cancel_left];exact HN1D.out i hi) (Rd.drewD (fun _=>⟨h,p,rfl,by have:=HG3.out.size;show h<_;simp [World.setCell];omega,fun i hi=>by rw [World.cell?_setCell_other _ _ _ _ (by intro e;injection e with e1;exact hhg e1.symm)];exact (World.cell?_of_block (w:=w) (a:=⟨h,p+i,none⟩) (HG3.out.block h hh (fun e=>hhg (by injection e)))).trans (HCY.out i hi)⟩) hV) (fun _ a ha=>by injection ha with ha;subst ha;exact hhg) HN1.out HY.out HRW.out HNW.out
   have HAB:=Lib.hid hab
   have HF4:=Lib.hid hf4
   have HQN:=Lib.hid hqn
   clear hab hf4 hqn
   go_wp2_with fail
   have h18:IntKind.u64.wrap (18446744073709551615+1)=0:=by decide
   have hcW:(w3.setCell ⟨g,o+(m+2),none⟩ (.int .u64 18446744073709551615)).cell? ⟨g,o+(m+2),none⟩=some (.int .u64 18446744073709551615):=by simp [go_sem,hc3]
   have k1:(0:Int)≤(m:Int)+2:=by omega
   have k2:(m:Int)+2<(m:Int)+3:=by omega
   have k3:((m:Int)+2).toNat=m+2:=by omega
   have k4:(m:Int)+2≤(c:Int):=by omega
   have k5:(m:Int)+2<((m+3:Nat):Int):=by omega
   have k6:(m:Int)+2<(m:Int)+2+1:=by omega
   go_region_law (go_simp;go_at_call 168;refine (HAB.out _ ?_ _ ?_).mono ?_;(exact Drew.one _);(rfl);rintro e w6 ⟨rfl,hl6,hg6⟩;have hc6:=hl6.cell (i:=o+(m+2)) (by omega);have hf6:=hl6.frozen (o+(m+2)))
   all_goals
    go_wp2
    go_ret
    refine ⟨by rw [HQN.out];rfl,(hl6.set (o+(m+2)) 0).congr fun j hj=>?_,grown_set (grown_none (grown_drew (grown_set HG3.out _ _) (Drew.one _)) hg6 (.inr (.inl rfl))) _ _⟩
    unfold wnF
    by_cases e1:j=o+(m+2)
    · rw [if_pos e1,if_pos (by omega),e1,Nat.add_sub_cancel_left]
      exact (D_zero_of B64_pos HRW.out (Nat.le_refl _)).symm
    · rw [if_neg e1]
      by_cases e2:o≤j∧j<o+(m+2)
      · rw [if_pos e2,if_pos (by omega)]
      · first
        | (rw [if_neg e2,if_neg e1];unfold sbF;rw [if_neg e2,if_neg (by omega)])
        | (rw [if_neg e2];unfold sbF;rw [if_neg e2,if_neg (by omega)])
end Go.Proofs.YtdbhahiieokplaaGreatDoor
