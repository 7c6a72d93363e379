import Derived.Test.YtdbhahiieokplaaGreatDoorGSgH
import Derived.Test.YtdbhahiieokplaaGreatDoorGQE
import Derived.Test.YtdbhahiieokplaaGreatDoorGRefG
import Derived.Deep.DeepCutAuto
import Derived.Deep.CutBlock
set_option linter.unusedSimpArgs false
set_option linter.unusedVariables false

namespace Go.Proofs.YtdbhahiieokplaaGreatDoor
open Go.RowKit
attribute [local go_sem ↓] Go.wp_at_zero Go.wp_at_succ

def RetD (w:World) (q r:Nat) (e:Ending) (w':World):Prop:=e=.returned (.tuple #[.int .u64 (q:Int),.int .u64 (r:Int)])∧Drew w w'

set_option maxHeartbeats 1000000 in
set_option maxRecDepth 100000 in
theorem div64_zero (lo y:Nat) (hy:y<18446744073709551616) (hlo:lo<18446744073709551616) (h0:0<y) (w:World) :
  Calls Tryz.prog 196 #[.int .u64 0,.int .u64 (lo:Int),.int .u64 (y:Int)] w (RetD w (lo / y) (lo%y)):=by
 obtain ⟨q,hq⟩:∃ q,lo / y=q:=⟨_,rfl⟩
 obtain ⟨r,hr⟩:∃ r,lo%y=r:=⟨_,rfl⟩
 have hqb:q≤lo:=by rw [←hq];exact Nat.div_le_self _ _
 have hrb:r<y:=by rw [←hr];exact Nat.mod_lt _ h0
 have e1:(lo:Int) / (y:Int)=(q:Int):=by rw [←hq];rfl
 have e2:(lo:Int)%(y:Int)=(r:Int):=by rw [←hr];rfl
 have e3:IntKind.u64.wrap (q:Int)=(q:Int):=by rw [IntKind.wrap_u64];omega
 have e4:IntKind.u64.wrap (r:Int)=(r:Int):=by rw [IntKind.wrap_u64];omega
 have hne:((y:Int)==0)=false:=by simp;omega
 have hne2:¬(y:Int)=0:=by omega
 have hle:decide ((y:Int)≤0)=false:=by simp;omega
 have HQ:=Lib.hid hq
 have HR:=Lib.hid hr
 clear hq hr
 go_enter Tryz.func196,Tryz.ntmps196
 go_wp2
 go_quiet (fail)
 go_wp2
 go_ret2
 refine ⟨?_,_,rfl⟩
 show Ending.returned (.tuple #[.int .u64 (q:Int),.int .u64 ((lo:Int)%(y:Int))])=_
 rw [←HQ.out]
 rfl

theorem div_shift {y:Nat} (hy:y<18446744073709551616) (h0:0<y):∃ s Y,64-Lib.bitLen y=s∧s≤63∧Y=y*2^s∧9223372036854775808≤Y∧Y<18446744073709551616:=by
 obtain ⟨h1,h2,h3⟩:=bitLen_bounds y (by omega) (by omega)
 have h4:=Lib.bitLen_le y 64 (by omega) (by omega)
 generalize Lib.bitLen y=l at *
 refine ⟨64-l,y*2^(64-l),rfl,by omega,rfl,?_,?_⟩
 · have e : (2 : Nat) ^ (l - 1) * 2 ^ (64 - l) = 9223372036854775808 := by
    rw [←Nat.pow_add,show l-1+(64-l)=63 by omega]
   rw [←e]
   exact Nat.mul_le_mul_right _ h2
 · have e : (2 : Nat) ^ l * 2 ^ (64 - l) = 18446744073709551616 := by
    rw [←Nat.pow_add,show l+(64-l)=64 by omega]
   rw [←e]
   exact Nat.mul_lt_mul_of_pos_right h3 (Nat.pow_pos (by omega))

theorem div_words {y hi lo s Y:Nat} (hs:s≤63) (hY:Y=y*2^s) (hY2:Y<18446744073709551616) (hlo:lo<18446744073709551616) (hlt:hi<y) :
  ∃ H L u T d1 d0,hi*2^s=H∧H<18446744073709551616∧lo / 2^(64-s)=L∧L<18446744073709551616∧H ||| L=u∧u<Y∧lo*2^s%18446744073709551616=T∧T<18446744073709551616∧T / 4294967296=d1∧T%4294967296=d0∧d1<4294967296 ∧
    d0<4294967296∧u*(4294967296*4294967296)+(d1*4294967296+d0)=(hi*18446744073709551616+lo)*2^s:=by
 have hp:0<2^s:=Nat.pow_pos (by omega)
 have e64:(2:Nat)^s*2^(64-s)=18446744073709551616:=by rw [←Nat.pow_add,show s+(64-s)=64 by omega]
 have hL:lo / 2^(64-s)<2^s:=Nat.div_lt_of_lt_mul (by rw [Nat.mul_comm,e64];exact hlo)
 have hH:hi*2^s+2^s≤Y:=by
  have:(hi+1)*2^s≤y*2^s:=Nat.mul_le_mul_right _ hlt
  rw [Nat.add_mul,Nat.one_mul] at this
  omega
 have hor:hi*2^s ||| lo / 2^(64-s)=hi*2^s+lo / 2^(64-s):=by
  rw [Nat.mul_comm hi,←Nat.two_pow_add_eq_or_of_lt hL]
 have hT:lo*2^s%18446744073709551616=lo%2^(64-s)*2^s:=by
  rw [←e64,Nat.mul_comm (2^s) (2^(64-s)),Nat.mul_mod_mul_right]
 have hlod:=Nat.div_add_mod lo (2^(64-s))
 have hmain:(hi*18446744073709551616+lo)*2^s=(hi*2^s+lo / 2^(64-s))*18446744073709551616+lo*2^s%18446744073709551616:=by
  rw [hT,Nat.add_mul,Nat.add_mul]
  have e1:hi*18446744073709551616*2^s=hi*2^s*18446744073709551616:=Nat.mul_right_comm _ _ _
  have e2:lo*2^s=lo / 2^(64-s)*18446744073709551616+lo%2^(64-s)*2^s:=by
   conv=>lhs;rw [←hlod]
   rw [Nat.add_mul,←e64,Nat.mul_comm (2^(64-s)),Nat.mul_assoc,Nat.mul_comm (2^(64-s)) (2^s)]
  omega
 refine ⟨_,_,_,_,_,_,rfl,by omega,rfl,?_,rfl,by rw [hor];omega,rfl,Nat.mod_lt _ (by omega),rfl,rfl,by omega,by omega,?_⟩
 · have:2^s≤2^63:=Nat.pow_le_pow_right (by omega) hs
   omega
 · rw [hor,hmain]
   have:=Nat.div_add_mod (lo*2^s%18446744073709551616) 4294967296
   omega

theorem bits_and_u64 (a b:Nat) (ha:a<18446744073709551616) (hb:b<18446744073709551616):bits .and .u64 (a:Int) (b:Int)=((a &&& b:Nat):Int):=by
 have hx:a &&& b≤a:=Nat.and_le_left
 show IntKind.u64.wrap ((BitVec.ofInt 64 (a:Int) &&& BitVec.ofInt 64 (b:Int)).toNat:Int)=_
 rw [BitVec.toNat_and,nat_bits a ha,nat_bits b hb,IntKind.wrap_u64]
 omega
theorem low32 (a:Nat) (ha:a<18446744073709551616):bits .and .u64 (a:Int) 4294967295=((a%4294967296:Nat):Int):=by
 have h:=bits_and_u64 a 4294967295 ha (by omega)
 have e:a &&& 4294967295=a%4294967296:=Nat.and_two_pow_sub_one_eq_mod a 32
 rw [e] at h
 exact h

theorem wrap_u (x:Int) (r:Nat) (h:x%18446744073709551616=(r:Int)):IntKind.u64.wrap x=(r:Int):=by rw [IntKind.wrap_u64];exact h

theorem wrap_nat (x:Nat):IntKind.u64.wrap (x:Int)=((x%18446744073709551616:Nat):Int):=wrap_u _ _ (by omega)
theorem shl_word (y s:Nat):IntKind.u64.wrap ((y:Int)*2^s)=((y*2^s%18446744073709551616:Nat):Int):=by
 have e:(y:Int)*2^s=((y*2^s:Nat):Int):=by simp
 rw [e,wrap_nat]
theorem shr_word (y s:Nat):(y:Int) / 2^s=((y / 2^s:Nat):Int):=by simp

theorem div_back {U y Q s r0:Nat} (h:U*2^s=Q*(y*2^s)+r0) (lr0:r0<y*2^s) (hy0:0<y):U / y=Q∧U%y=r0 / 2^s:=by
 have hp:0<2^s:=Nat.pow_pos (by omega)
 have e1:Q*(y*2^s)=Q*y*2^s:=(Nat.mul_assoc _ _ _).symm
 rw [e1] at h
 have hle:Q*y≤U:=by
  rcases Nat.lt_or_ge U (Q*y) with h2 | h2
  · have:U*2^s<Q*y*2^s:=Nat.mul_lt_mul_of_pos_right h2 hp
    omega
  · exact h2
 have er:r0=(U-Q*y)*2^s:=by rw [Nat.sub_mul];omega
 have hr2:r0 / 2^s=U-Q*y:=by rw [er,Nat.mul_div_cancel _ hp]
 have hlty:U-Q*y<y:=by
  rw [er] at lr0
  exact Nat.lt_of_mul_lt_mul_right lr0
 rw [hr2]
 have hU:U=y*Q+(U-Q*y):=by rw [Nat.mul_comm y Q];omega
 constructor
 · conv=>lhs;rw [hU]
   rw [Nat.mul_add_div hy0,Nat.div_eq_of_lt hlty,Nat.add_zero]
 · conv=>lhs;rw [hU]
   rw [Nat.mul_add_mod,Nat.mod_eq_of_lt hlty]

theorem half_words {u d Y y1 y0 q r:Nat} (hY:Y=y1*4294967296+y0) (hu:u<Y) (hY2:Y<18446744073709551616) (hd:d<4294967296) (he:u*4294967296+d=q*Y+r) (hr:r<Y) :
  ∃ A A2 C:Nat,IntKind.u64.wrap ((u:Int)*4294967296)=(A:Int)∧IntKind.u64.wrap ((A:Int)+(d:Int))=(A2:Int)∧IntKind.u64.wrap ((q:Int)*(Y:Int))=(C:Int)∧IntKind.u64.wrap ((A2:Int)-(C:Int))=(r:Int):=by
 refine ⟨u*4294967296%18446744073709551616,(u*4294967296%18446744073709551616+d)%18446744073709551616,q*Y%18446744073709551616,?_,?_,?_,?_⟩
 · exact wrap_u _ _ (by omega)
 · exact wrap_u _ _ (by omega)
 · exact wrap_u _ _ (by rw [←Int.natCast_mul];omega)
 · refine wrap_u _ _ ?_
   generalize q*Y=p at *
   omega

set_option maxHeartbeats 4000000 in
set_option maxRecDepth 100000 in
theorem div64_pos (hi lo y:Nat) (hy:y<18446744073709551616) (hlo:lo<18446744073709551616) (h0:0<hi) (hlt:hi<y) (w:World) :
  Calls Tryz.prog 196 #[.int .u64 (hi:Int),.int .u64 (lo:Int),.int .u64 (y:Int)] w (RetD w ((hi*18446744073709551616+lo) / y) ((hi*18446744073709551616+lo)%y)):=by
 obtain ⟨s,Y,hs,hs63,hY,hY1,hY2⟩:=div_shift hy (by omega)
 obtain ⟨H,L,u,T,d1,d0,eH,lH,eL,lL,eu,lu,eT,lT,ed1,ed0,ld1,ld0,hmain⟩:=div_words hs63 hY hY2 hlo hlt
 obtain ⟨y1,ey1⟩:∃ y1,Y / 4294967296=y1:=⟨_,rfl⟩
 obtain ⟨y0,ey0⟩:∃ y0,Y%4294967296=y0:=⟨_,rfl⟩
 have hYs:Y=y1*4294967296+y0:=by omega
 have hy1:4294967296≤2*y1:=by omega
 have hy1b:y1<4294967296:=by omega
 have hy0b:y0<4294967296:=by omega
 -- the first half step
 obtain ⟨g1,g2,g3⟩:=half_start (b:=4294967296) (u:=u) (d:=d1) (by omega) hy1 hy1b hy0b (by omega) ld1
 rw [←hYs] at g1 g3
 obtain ⟨q1,eq1⟩:∃ q,(u*4294967296+d1) / Y=q:=⟨_,rfl⟩
 obtain ⟨r1,er1⟩:∃ r,(u*4294967296+d1)%Y=r:=⟨_,rfl⟩
 have lr1:r1<Y:=by rw [←er1];exact Nat.mod_lt _ (by omega)
 have s1:u*4294967296+d1=q1*Y+r1:=by have h:=Nat.div_add_mod (u*4294967296+d1) Y;rw [eq1,er1,Nat.mul_comm] at h;exact h.symm
 rw [eq1] at g1 g3
 -- the second one
 obtain ⟨k1,k2,k3⟩:=half_start (b:=4294967296) (u:=r1) (d:=d0) (by omega) hy1 hy1b hy0b (by omega) ld0
 rw [←hYs] at k1 k3
 obtain ⟨q0,eq0⟩:∃ q,(r1*4294967296+d0) / Y=q:=⟨_,rfl⟩
 obtain ⟨r0,er0⟩:∃ r,(r1*4294967296+d0)%Y=r:=⟨_,rfl⟩
 have lr0:r0<Y:=by rw [←er0];exact Nat.mod_lt _ (by omega)
 have s0:r1*4294967296+d0=q0*Y+r0:=by have h:=Nat.div_add_mod (r1*4294967296+d0) Y;rw [eq0,er0,Nat.mul_comm] at h;exact h.symm
 rw [eq0] at k1 k3
 have hall:=two_halves s1 s0
 rw [hmain] at hall
 rw [hY] at hall lr0
 have hres:=div_back hall lr0 (by omega)
 rw [←hY] at hall lr0
 have HRES:=Lib.hid hres
 -- the model's words
 have HL:=Lib.hid (fun V=>lz_any y s hs hy V)
 have w1:IntKind.u64.wrap ((y:Int)*2^s)=(Y:Int):=by rw [shl_word,←hY,Nat.mod_eq_of_lt hY2]
 have w2:(Y:Int) / 4294967296=(y1:Int):=by omega
 have w3:bits .and .u64 (Y:Int) 4294967295=(y0:Int):=by rw [low32 Y hY2,ey0]
 have w4:IntKind.u64.wrap ((hi:Int)*2^s)=(H:Int):=by rw [shl_word,eH,Nat.mod_eq_of_lt lH]
 have w5:(lo:Int) / 2^(64-s)=(L:Int):=by rw [shr_word,eL]
 have w6:bits .or .u64 (H:Int) (L:Int)=(u:Int):=by rw [bits_or_u64 H L lH lL,eu]
 have w7:IntKind.u64.wrap ((lo:Int)*2^s)=(T:Int):=by rw [shl_word,eT]
 have w8:(T:Int) / 4294967296=(d1:Int):=by omega
 have w9:bits .and .u64 (T:Int) 4294967295=(d0:Int):=by rw [low32 T lT,ed0]
 obtain ⟨A,A2,C,x1,x2,x3,x4⟩:=half_words (q:=q1) (r:=r1) hYs lu hY2 ld1 s1 lr1
 obtain ⟨E,E2,G,z1,z2,z3,z4⟩:=half_words (q:=q0) (r:=r0) hYs lr1 hY2 ld0 s0 lr0
 have X:=Lib.hid (And.intro x1 (And.intro x2 (And.intro x3 x4)))
 have Z:=Lib.hid (And.intro z1 (And.intro z2 (And.intro z3 z4)))
 have HY:=Lib.hid hYs
 have EQ1:=Lib.hid eq1
 have EQ0:=Lib.hid eq0
 have luy:u≤18446744073709551615:=by omega
 have hqa:IntKind.u64.wrap ((u:Int).tdiv (y1:Int))=((u / y1:Nat):Int):=by
  have e:(u:Int).tdiv (y1:Int)=((u / y1:Nat):Int):=rfl
  rw [e,wrap_nat,Nat.mod_eq_of_lt (by have:=Nat.div_le_self u y1;omega)]
 obtain ⟨Qa,eQa⟩:∃ Q,u / y1=Q:=⟨_,rfl⟩
 obtain ⟨Ra,eRa⟩:∃ R,u%y1=R:=⟨_,rfl⟩
 have sa:Qa*y1+Ra=u:=by have h:=Nat.div_add_mod u y1;rw [eQa,eRa,Nat.mul_comm] at h;exact h
 have lRa:Ra<y1:=by rw [←eRa];exact Nat.mod_lt _ (by omega)
 rw [eQa] at hqa g1 g2
 have hqb:IntKind.u64.wrap ((u:Int) / (y1:Int))=(Qa:Int):=by
  have e:(u:Int) / (y1:Int)=((u / y1:Nat):Int):=by simp
  rw [e,wrap_nat,eQa,Nat.mod_eq_of_lt (by have:=Nat.div_le_self u y1;omega)]
 have hra:∃ P:Nat,IntKind.u64.wrap ((Qa:Int)*(y1:Int))=(P:Int)∧IntKind.u64.wrap ((u:Int)-(P:Int))=(Ra:Int):=by
  refine ⟨Qa*y1,?_,wrap_u _ _ (by omega)⟩
  have e:(Qa:Int)*(y1:Int)=((Qa*y1:Nat):Int):=by simp
  rw [e,wrap_nat,Nat.mod_eq_of_lt (by omega)]
 obtain ⟨Pa,wP,wR⟩:=hra
 have SA:=Lib.hid sa
 have G1:=Lib.hid g1
 have hy10:¬(y1:Int)=0:=by omega
 have hne:((y:Int)==0)=false:=by simp;omega
 have hne2:((hi:Int)==0)=false:=by simp;omega
 clear hs eH eL eu eT ed1 ed0 hmain hall hres ey1 ey0 hYs x1 x2 x3 x4 z1 z2 z3 z4 eq1 eq0 er1 er0 s1 s0 sa g1 eQa eRa hY
 go_enter Tryz.func196,Tryz.ntmps196
 go_wp2_with fail
 refine (HL.out _).mono ?_
 rintro e w' ⟨rfl,rfl⟩
 go_upto_block 0 with fail
 go_cut [15] (fun s15 wx=>s15=.int .u64 (q1:Int)∧w=wx)
 case first =>
  clear w1 w2 w3 w4 w5 w6 w7 w8 w9 hqa hqb wP wR hy10 hne hne2
  go_wp2_with fail
  go_loop [15,16] (fun a c=>∃ Q R:Nat,a=.int .u64 (Q:Int)∧c=.int .u64 (R:Int)∧Hid (Q*y1+R=u)∧Hid (q1≤Q)∧Q≤4294967297∧R<4294967296∧(Q≤4294967296∨R<y1)) (fun a _=>(intOf a).toNat)
  case atStart=>exact ⟨Qa,Ra,rfl,rfl,SA,G1,by omega,by omega,.inr lRa⟩
  case round =>
   obtain ⟨Q,R,rfl,rfl,HE,HQ,hQ,hR,hor⟩:=hrel
   by_cases ht:4294967296≤Q∨4294967296*R+d1<Q*y0
   · have hless:=half_more (b:=4294967296) (y1:=y1) (y0:=y0) (u:=u) (d:=d1) (Q:=Q) (R:=R) (by omega) hy1 hy0b (by have:=HY.out;omega) (by omega) HE.out ht
     rw [←HY.out,EQ1.out] at hless
     have hbr:=fun (h1:Q-1≤4294967296) (h2:4294967296≤R+y1)=>half_done (b:=4294967296) (y1:=y1) (y0:=y0) (u:=u) (d:=d1) (Q:=Q-1) (R:=R+y1) (by have:=HY.out;omega) (by have h:=HE.out;obtain ⟨m,hm⟩:∃ m,Q=m+1:=⟨Q-1,by omega⟩;rw [hm,Nat.add_sub_cancel];rw [hm,Nat.add_mul] at h;omega) (half_break hy0b h1 h2) (by rw [←HY.out,EQ1.out];omega)
     rw [←HY.out,EQ1.out] at hbr
     have hne1:Hid ((Q-1)*y1+(R+y1)=u):=by
      have h:=HE.out
      obtain ⟨m,hm⟩:∃ m,Q=m+1:=⟨Q-1,by omega⟩
      show _=_
      rw [hm,Nat.add_sub_cancel]
      rw [hm,Nat.add_mul] at h
      omega
     have hq2:Hid (q1≤Q-1):=by show _≤_;omega
     have v1:IntKind.u64.wrap ((Q:Int)-1)=((Q-1:Nat):Int):=wrap_u _ _ (by omega)
     have v2:IntKind.u64.wrap ((R:Int)+(y1:Int))=((R+y1:Nat):Int):=wrap_u _ _ (by omega)
     have HT:=Lib.hid ht
     have hQ1:Q-1≤4294967296:=by omega
     have hQm:Q-1<Q:=by omega
     have hRb:R+y1<8589934592:=by omega
     obtain ⟨Qn,hQn⟩:∃ Qn,Q-1=Qn:=⟨_,rfl⟩
     obtain ⟨Rn,hRn⟩:∃ Rn,R+y1=Rn:=⟨_,rfl⟩
     rw [hQn] at hbr hne1 hq2 v1 hQ1 hQm
     rw [hRn] at hbr hne1 v2 hRb
     have HBR:=Lib.hid hbr
     clear hbr ht hless hQn hRn
     by_cases hb:4294967296≤Q
     · have hbd:decide ((4294967296:Int)≤(Q:Int))=true:=by simp;omega
       by_cases hc:4294967296≤Rn
       · have hcd:decide ((4294967296:Int)≤(Rn:Int))=true:=by simp;omega
         go_wp2_with fail
         go_meet
         exact ⟨by rw [HBR.out hQ1 hc],rfl⟩
       · have hcd:decide ((4294967296:Int)≤(Rn:Int))=false:=by simp;omega
         go_wp2
         go_round
         case rel=>exact ⟨Qn,Rn,rfl,rfl,hne1,hq2,by omega,by omega,.inl hQ1⟩
         case measure=>simp [intOf]<;>omega
     · have hbd:decide ((4294967296:Int)≤(Q:Int))=false:=by simp;omega
       have hpb:Q*y0≤4294967295*4294967295:=Nat.mul_le_mul (by omega) (by omega)
       have v3:IntKind.u64.wrap ((Q:Int)*(y0:Int))=((Q*y0:Nat):Int):=wrap_u _ _ (by rw [←Int.natCast_mul];omega)
       have v4:IntKind.u64.wrap (4294967296*(R:Int))=((4294967296*R:Nat):Int):=wrap_u _ _ (by omega)
       have v5:IntKind.u64.wrap (((4294967296*R:Nat):Int)+(d1:Int))=((4294967296*R+d1:Nat):Int):=wrap_u _ _ (by omega)
       have ht2:4294967296*R+d1<Q*y0:=by have:=HT.out;omega
       obtain ⟨P,hP⟩:∃ P,Q*y0=P:=⟨_,rfl⟩
       obtain ⟨M,hM⟩:∃ M,4294967296*R=M:=⟨_,rfl⟩
       obtain ⟨M2,hM2⟩:∃ M2,4294967296*R+d1=M2:=⟨_,rfl⟩
       rw [hP] at v3 ht2
       rw [hM2] at ht2 v5
       rw [hM] at v4 v5
       have htd:decide ((M2:Int)<(P:Int))=true:=by simp;omega
       clear hP hM hM2 hpb
       by_cases hc:4294967296≤Rn
       · have hcd:decide ((4294967296:Int)≤(Rn:Int))=true:=by simp;omega
         go_wp2_with fail
         go_meet
         exact ⟨by rw [HBR.out hQ1 hc],rfl⟩
       · have hcd:decide ((4294967296:Int)≤(Rn:Int))=false:=by simp;omega
         go_wp2
         go_round
         case rel=>exact ⟨Qn,Rn,rfl,rfl,hne1,hq2,by omega,by omega,.inl hQ1⟩
         case measure=>simp [intOf]<;>omega
   · have hfin:=half_done (b:=4294967296) (y1:=y1) (y0:=y0) (u:=u) (d:=d1) (Q:=Q) (R:=R) (by have:=HY.out;omega) HE.out (by omega) (by rw [←HY.out,EQ1.out];exact HQ.out)
     rw [←HY.out,EQ1.out] at hfin
     have hbd:decide ((4294967296:Int)≤(Q:Int))=false:=by simp;omega
     have hpb:Q*y0≤4294967295*4294967295:=Nat.mul_le_mul (by omega) (by omega)
     have v3:IntKind.u64.wrap ((Q:Int)*(y0:Int))=((Q*y0:Nat):Int):=wrap_u _ _ (by rw [←Int.natCast_mul];omega)
     have v4:IntKind.u64.wrap (4294967296*(R:Int))=((4294967296*R:Nat):Int):=wrap_u _ _ (by omega)
     have v5:IntKind.u64.wrap (((4294967296*R:Nat):Int)+(d1:Int))=((4294967296*R+d1:Nat):Int):=wrap_u _ _ (by omega)
     have ht2:Q*y0≤4294967296*R+d1:=by omega
     obtain ⟨P,hP⟩:∃ P,Q*y0=P:=⟨_,rfl⟩
     obtain ⟨M,hM⟩:∃ M,4294967296*R=M:=⟨_,rfl⟩
     obtain ⟨M2,hM2⟩:∃ M2,4294967296*R+d1=M2:=⟨_,rfl⟩
     rw [hP] at v3 ht2
     rw [hM2] at ht2 v5
     rw [hM] at v4 v5
     have htd:decide ((M2:Int)<(P:Int))=false:=by simp;omega
     have HF:=Lib.hid hfin
     clear hP hM hM2 hpb ht hfin
     go_wp2_with fail
     go_meet
     exact ⟨by rw [HF.out],rfl⟩
 case rest =>
  obtain ⟨rfl,rfl⟩:=hcut
  obtain ⟨x1,x2,x3,x4⟩:=X.out
  obtain ⟨Qb,eQb⟩:∃ Q,r1 / y1=Q:=⟨_,rfl⟩
  obtain ⟨Rb,eRb⟩:∃ R,r1%y1=R:=⟨_,rfl⟩
  have sb:Qb*y1+Rb=r1:=by have h:=Nat.div_add_mod r1 y1;rw [eQb,eRb,Nat.mul_comm] at h;exact h
  have lRb:Rb<y1:=by rw [←eRb];exact Nat.mod_lt _ (by omega)
  rw [eQb] at k1 k2
  have hqc:IntKind.u64.wrap ((r1:Int).tdiv (y1:Int))=(Qb:Int):=by
   have e:(r1:Int).tdiv (y1:Int)=((r1 / y1:Nat):Int):=rfl
   rw [e,wrap_nat,eQb,Nat.mod_eq_of_lt (by have:=Nat.div_le_self r1 y1;omega)]
  have hqd:IntKind.u64.wrap ((r1:Int) / (y1:Int))=(Qb:Int):=by
   have e:(r1:Int) / (y1:Int)=((r1 / y1:Nat):Int):=by simp
   rw [e,wrap_nat,eQb,Nat.mod_eq_of_lt (by have:=Nat.div_le_self r1 y1;omega)]
  have hrb:∃ P:Nat,IntKind.u64.wrap ((Qb:Int)*(y1:Int))=(P:Int)∧IntKind.u64.wrap ((r1:Int)-(P:Int))=(Rb:Int):=by
   refine ⟨Qb*y1,?_,wrap_u _ _ (by omega)⟩
   have e:(Qb:Int)*(y1:Int)=((Qb*y1:Nat):Int):=by simp
   rw [e,wrap_nat,Nat.mod_eq_of_lt (by omega)]
  obtain ⟨Pb,wP2,wR2⟩:=hrb
  have SB:=Lib.hid sb
  have G2:=Lib.hid k1
  clear w1 w2 w3 w4 w5 w6 w7 w8 w9 hqa hqb wP wR hne hne2 sb k1 eQb eRb
  go_upto_block 2 with fail
  go_cut [18] (fun s18 wx=>s18=.int .u64 (q0:Int)∧w=wx)
  case first =>
   clear x1 x2 x3 x4 hqc hqd wP2 wR2 hy10
   go_wp2_with fail
   go_loop [18,16] (fun a c=>∃ Q R:Nat,a=.int .u64 (Q:Int)∧c=.int .u64 (R:Int)∧Hid (Q*y1+R=r1)∧Hid (q0≤Q)∧Q≤4294967297∧R<4294967296∧(Q≤4294967296∨R<y1)) (fun a _=>(intOf a).toNat)
   case atStart=>exact ⟨Qb,Rb,rfl,rfl,SB,G2,by omega,by omega,.inr lRb⟩
   case round =>
    obtain ⟨Q,R,rfl,rfl,HE,HQ,hQ,hR,hor⟩:=hrel
    by_cases ht:4294967296≤Q∨4294967296*R+d0<Q*y0
    · have hless:=half_more (b:=4294967296) (y1:=y1) (y0:=y0) (u:=r1) (d:=d0) (Q:=Q) (R:=R) (by omega) hy1 hy0b (by have:=HY.out;omega) (by omega) HE.out ht
      rw [←HY.out,EQ0.out] at hless
      have hbr:=fun (h1:Q-1≤4294967296) (h2:4294967296≤R+y1)=>half_done (b:=4294967296) (y1:=y1) (y0:=y0) (u:=r1) (d:=d0) (Q:=Q-1) (R:=R+y1) (by have:=HY.out;omega) (by have h:=HE.out;obtain ⟨m,hm⟩:∃ m,Q=m+1:=⟨Q-1,by omega⟩;rw [hm,Nat.add_sub_cancel];rw [hm,Nat.add_mul] at h;omega) (half_break hy0b h1 h2) (by rw [←HY.out,EQ0.out];omega)
      rw [←HY.out,EQ0.out] at hbr
      have hne1:Hid ((Q-1)*y1+(R+y1)=r1):=by
       have h:=HE.out
       obtain ⟨m,hm⟩:∃ m,Q=m+1:=⟨Q-1,by omega⟩
       show _=_
       rw [hm,Nat.add_sub_cancel]
       rw [hm,Nat.add_mul] at h
       omega
      have hq2:Hid (q0≤Q-1):=by show _≤_;omega
      have v1:IntKind.u64.wrap ((Q:Int)-1)=((Q-1:Nat):Int):=wrap_u _ _ (by omega)
      have v2:IntKind.u64.wrap ((R:Int)+(y1:Int))=((R+y1:Nat):Int):=wrap_u _ _ (by omega)
      have HT:=Lib.hid ht
      have hQ1:Q-1≤4294967296:=by omega
      have hQm:Q-1<Q:=by omega
      have hRb:R+y1<8589934592:=by omega
      obtain ⟨Qn,hQn⟩:∃ Qn,Q-1=Qn:=⟨_,rfl⟩
      obtain ⟨Rn,hRn⟩:∃ Rn,R+y1=Rn:=⟨_,rfl⟩
      rw [hQn] at hbr hne1 hq2 v1 hQ1 hQm
      rw [hRn] at hbr hne1 v2 hRb
      have HBR:=Lib.hid hbr
      clear hbr ht hless hQn hRn
      by_cases hb:4294967296≤Q
      · have hbd:decide ((4294967296:Int)≤(Q:Int))=true:=by simp;omega
        by_cases hc:4294967296≤Rn
        · have hcd:decide ((4294967296:Int)≤(Rn:Int))=true:=by simp;omega
          go_wp2_with fail
          go_meet
          exact ⟨by rw [HBR.out hQ1 hc],rfl⟩
        · have hcd:decide ((4294967296:Int)≤(Rn:Int))=false:=by simp;omega
          go_wp2
          go_round
          case rel=>exact ⟨Qn,Rn,rfl,rfl,hne1,hq2,by omega,by omega,.inl hQ1⟩
          case measure=>simp [intOf]<;>omega
      · have hbd:decide ((4294967296:Int)≤(Q:Int))=false:=by simp;omega
        have hpb:Q*y0≤4294967295*4294967295:=Nat.mul_le_mul (by omega) (by omega)
        have v3:IntKind.u64.wrap ((Q:Int)*(y0:Int))=((Q*y0:Nat):Int):=wrap_u _ _ (by rw [←Int.natCast_mul];omega)
        have v4:IntKind.u64.wrap (4294967296*(R:Int))=((4294967296*R:Nat):Int):=wrap_u _ _ (by omega)
        have v5:IntKind.u64.wrap (((4294967296*R:Nat):Int)+(d0:Int))=((4294967296*R+d0:Nat):Int):=wrap_u _ _ (by omega)
        have ht2:4294967296*R+d0<Q*y0:=by have:=HT.out;omega
        obtain ⟨P,hP⟩:∃ P,Q*y0=P:=⟨_,rfl⟩
        obtain ⟨M,hM⟩:∃ M,4294967296*R=M:=⟨_,rfl⟩
        obtain ⟨M2,hM2⟩:∃ M2,4294967296*R+d0=M2:=⟨_,rfl⟩
        rw [hP] at v3 ht2
        rw [hM2] at ht2 v5
        rw [hM] at v4 v5
        have htd:decide ((M2:Int)<(P:Int))=true:=by simp;omega
        clear hP hM hM2 hpb
        by_cases hc:4294967296≤Rn
        · have hcd:decide ((4294967296:Int)≤(Rn:Int))=true:=by simp;omega
          go_wp2_with fail
          go_meet
          exact ⟨by rw [HBR.out hQ1 hc],rfl⟩
        · have hcd:decide ((4294967296:Int)≤(Rn:Int))=false:=by simp;omega
          go_wp2
          go_round
          case rel=>exact ⟨Qn,Rn,rfl,rfl,hne1,hq2,by omega,by omega,.inl hQ1⟩
          case measure=>simp [intOf]<;>omega
    · have hfin:=half_done (b:=4294967296) (y1:=y1) (y0:=y0) (u:=r1) (d:=d0) (Q:=Q) (R:=R) (by have:=HY.out;omega) HE.out (by omega) (by rw [←HY.out,EQ0.out];exact HQ.out)
      rw [←HY.out,EQ0.out] at hfin
      have hbd:decide ((4294967296:Int)≤(Q:Int))=false:=by simp;omega
      have hpb:Q*y0≤4294967295*4294967295:=Nat.mul_le_mul (by omega) (by omega)
      have v3:IntKind.u64.wrap ((Q:Int)*(y0:Int))=((Q*y0:Nat):Int):=wrap_u _ _ (by rw [←Int.natCast_mul];omega)
      have v4:IntKind.u64.wrap (4294967296*(R:Int))=((4294967296*R:Nat):Int):=wrap_u _ _ (by omega)
      have v5:IntKind.u64.wrap (((4294967296*R:Nat):Int)+(d0:Int))=((4294967296*R+d0:Nat):Int):=wrap_u _ _ (by omega)
      have ht2:Q*y0≤4294967296*R+d0:=by omega
      obtain ⟨P,hP⟩:∃ P,Q*y0=P:=⟨_,rfl⟩
      obtain ⟨M,hM⟩:∃ M,4294967296*R=M:=⟨_,rfl⟩
      obtain ⟨M2,hM2⟩:∃ M2,4294967296*R+d0=M2:=⟨_,rfl⟩
      rw [hP] at v3 ht2
      rw [hM2] at ht2 v5
      rw [hM] at v4 v5
      have htd:decide ((M2:Int)<(P:Int))=false:=by simp;omega
      have HF:=Lib.hid hfin
      clear hP hM hM2 hpb ht hfin
      go_wp2_with fail
      go_meet
      exact ⟨by rw [HF.out],rfl⟩
  case rest =>
   obtain ⟨rfl,rfl⟩:=hcut
   obtain ⟨z1,z2,z3,z4⟩:=Z.out
   obtain ⟨f,hf⟩:∃ f,q1*4294967296=f:=⟨_,rfl⟩
   have v1:IntKind.u64.wrap ((q1:Int)*4294967296)=(f:Int):=wrap_u _ _ (by omega)
   have v2:IntKind.u64.wrap ((f:Int)+(q0:Int))=((f+q0:Nat):Int):=wrap_u _ _ (by omega)
   obtain ⟨g,hg⟩:∃ g,f+q0=g:=⟨_,rfl⟩
   rw [hg] at v2
   have v3:=shr_word r0 s
   obtain ⟨h,hh⟩:∃ h,r0 / 2^s=h:=⟨_,rfl⟩
   rw [hh] at v3
   have HFIN:=Lib.hid (show (hi*18446744073709551616+lo) / y=g∧(hi*18446744073709551616+lo)%y=h from ⟨by rw [HRES.out.1,hf,hg],by rw [HRES.out.2,hh]⟩)
   clear x1 x2 x3 x4 hqc hqd wP2 wR2 hy10 hf hg hh
   go_wp2
   go_ret2
   refine ⟨?_,Drew.refl _⟩
   rw [HFIN.out.1,HFIN.out.2]
   rfl

theorem div64_any (hi lo y:Nat) (hy:y<18446744073709551616) (hlo:lo<18446744073709551616) (hlt:hi<y) (w:World) :
  Calls Tryz.prog 196 #[.int .u64 (hi:Int),.int .u64 (lo:Int),.int .u64 (y:Int)] w (RetD w ((hi*18446744073709551616+lo) / y) ((hi*18446744073709551616+lo)%y)):=by
 by_cases h:hi=0
 · subst h
   have h:=div64_zero lo y hy hlo (by omega) w
   rw [Nat.zero_mul,Nat.zero_add]
   exact h
 · exact div64_pos hi lo y hy hlo (by omega) hlt w
end Go.Proofs.YtdbhahiieokplaaGreatDoor


namespace Go.Proofs.YtdbhahiieokplaaGreatDoor
open Go.RowKit
attribute [local go_sem ↓] Go.wp_at_zero Go.wp_at_succ

theorem dw_step {b X d j:Nat} (hb:0<b) (hd:0<d):(X / b^(j+1)%d*b+D b X j) / d=D b (X / d) j∧(X / b^(j+1)%d*b+D b X j)%d=X / b^j%d:=by
 have hx:=div_D b X j
 have hD:=D_lt hb X j
 have hl:=Nat.mod_lt (X / b^(j+1)) hd
 have hz:=Nat.div_add_mod (X / b^(j+1)) d
 have e1:X / d / b^j=X / b^j / d:=by rw [Nat.div_div_eq_div_mul,Nat.div_div_eq_div_mul,Nat.mul_comm]
 unfold D at hx hD ⊢
 rw [e1]
 generalize X / b^(j+1)=Z at *
 generalize X / b^j%b=x at *
 have e2:X / b^j=d*(b*(Z / d))+(Z%d*b+x):=by
  rw [hx]
  have:b*Z=b*(d*(Z / d)+Z%d):=by rw [hz]
  rw [this,Nat.mul_add,Nat.mul_left_comm,Nat.mul_comm (Z%d) b]
  omega
 have hq:(Z%d*b+x) / d<b:=by
  rw [Nat.div_lt_iff_lt_mul hd]
  have:(Z%d+1)*b≤d*b:=Nat.mul_le_mul_right _ hl
  rw [Nat.add_mul,Nat.mul_comm d b] at this
  omega
 constructor
 · rw [e2,Nat.mul_add_div hd,Nat.mul_add_mod,Nat.mod_eq_of_lt hq]
 · rw [e2,Nat.mul_add_mod]

def RetDW (w:World) (Q N R:Nat) (e:Ending) (w':World):Prop :=
 ∃ A n c,n≤N∧e=.returned (.tuple #[.slice A n c,.int .u64 (R:Int)])∧Nm w' A n c Q∧Below w.heap.size w w'∧∀ k,Value.ownBlock (.slice A n c)=some k→w.heap.size≤k

theorem Lies.of_made (w:World) (n:Nat):Lies (w.alloc (.cells (madeCells #[.int .u64 0] n) 146)) w.heap.size n (fun _=>0) :=
 ⟨_,_,heap_one _ _,by simp [madeCells],fun i hi=>by simp [madeCells,hi,Nat.mod_one]⟩

theorem Lies.below {w w':World} {g n B:Nat} {f:Nat→Nat} (h:Lies w g n f) (hb:Below B w w') (hg:g<B):Lies w' g n f:=h.of_block (hb.block g hg)

set_option maxHeartbeats 2000000 in
set_option maxRecDepth 100000 in
theorem divideWord_any (A:Option Addr) (n c X d:Nat) (w:World) (hn:n≤1000000000) (hd:0<d) (hd2:d<18446744073709551616) (hx:Ng w A n c X) :
  Calls Tryz.prog 176 #[.slice A n c,.int .u64 (d:Int)] w (RetDW w (X / d) n (X%d)):=by
 have hmk:=fun W=>run_make_row' (P:=Tryz.prog) 153 146 (.int .u64 0) 8 Tryz.underlying153 natInfo rfl .i64 .i64 n (by omega) (by omega) W
 have HX:=Lib.hid hx
 clear hx
 go_enter Tryz.func176,Tryz.ntmps176
 go_wp2
 go_loopw [5,6] (fun r i wr=>∃ k:Nat,k≤n∧i=.int .i64 ((k:Int)-1)∧r=.int .u64 ((X / B64^k%d:Nat):Int)∧Lies wr w.heap.size n (fun j=>if k≤j then D B64 (X / d) j else 0)∧Below w.heap.size w wr) (fun _ i _=>(intOf i+1).toNat)
 case atStart =>
  refine ⟨n,Nat.le_refl _,rfl,?_,(Lies.of_made w n).congr fun i hi=>by rw [if_neg (by omega)],(Below.refl _ _).alloc (Nat.le_refl _) _⟩
  rw [Nat.div_eq_of_lt HX.out.lt]
  simp
 case round =>
  obtain ⟨k,hk,rfl,rfl,hlies,hbl⟩:=hrel
  rcases k with _ | j
  · have e:(((0:Nat):Int)-1)=-1:=rfl
    rw [e]
    clear e
    have hng:Ng wr (some ⟨w.heap.size,0,none⟩) n n (X / d):=⟨Nat.lt_of_le_of_lt (Nat.div_le_self _ _) HX.out.lt,Nat.le_refl _,(hlies.congr fun i _=>by rw [if_pos (Nat.zero_le _)]).rd⟩
    have hr0:X / B64^0%d=X%d:=by rw [Nat.pow_zero,Nat.div_one]
    rw [hr0]
    have HNG:=Lib.hid hng
    have HBL:=Lib.hid hbl
    clear hng hlies hbl hr0
    generalize X%d=R at *
    go_wp2_with fail
    refine (trim_any _ n n (X / d) _ (by omega) HNG.out).mono ?_
    rintro e w' ⟨q,hq,rfl,hnm,rfl⟩
    have HNM:=Lib.hid hnm
    clear hnm
    go_wp2
    go_ret2
    exact ⟨_,q,n,hq,rfl,HNM.out,HBL.out,fun z hz=>by simp [Value.ownBlock] at hz;omega⟩
  · have e:(((j+1:Nat):Int)-1)=(j:Int):=by omega
    rw [e]
    clear e
    obtain ⟨gx,ox,hA,hgx,hcx⟩:=(HX.out.rd.below hbl) (by omega)
    have hgx2:gx<w.heap.size:=by
     obtain ⟨g2,o2,hA2,hg2,_⟩:=HX.out.rd (by omega)
     rw [hA] at hA2
     injection hA2 with h
     injection h with h1 h2
     omega
    subst hA
    have hxj:=hcx j (by omega)
    have hcell:=hlies.cell (i:=j) (by omega)
    have hfro:=hlies.frozen j
    obtain ⟨s1,s2⟩:=dw_step (b:=B64) (X:=X) (d:=d) (j:=j) B64_pos hd
    have hrl:=Nat.mod_lt (X / B64^(j+1)) hd
    have hdx:=D64_lt X j
    have hdv:=fun W=>div64_any (X / B64^(j+1)%d) (D B64 X j) d hd2 hdx hrl W
    rw [←B64_eq,s1,s2] at hdv
    have HDV:=Lib.hid hdv
    have HLI:=Lib.hid hlies
    have HBL:=Lib.hid hbl
    have hj0:(0:Int)≤(j:Int):=by omega
    have hj1:(j:Int)<(n:Int):=by omega
    clear hcx s1 s2 hdv hlies hbl
    generalize X / B64^(j+1)%d=hi at *
    generalize D B64 X j=lo at *
    obtain ⟨Z,hZ⟩:∃ Z,D B64 (X / d) j=Z:=⟨_,rfl⟩
    rw [hZ] at HDV
    have HZ:=Lib.hid hZ
    clear hZ
    go_wp2_with fail
    refine (HDV.out _).mono ?_
    rintro e w' ⟨rfl,qn,rfl⟩
    go_wp2
    go_roundw
    case rel =>
     refine ⟨j,by omega,by go_num,rfl,(Lies.set (w:=wr.drewN qn) HLI.out j Z).congr fun i hi=>?_,(below_draws HBL.out qn).setCell (Nat.le_refl _) _⟩
     by_cases e:i=j
     · rw [if_pos e,if_pos (by omega),←HZ.out,e]
     · rw [if_neg e]
       by_cases e2:j+1≤i
       · rw [if_pos e2,if_pos (by omega)]
       · rw [if_neg e2,if_neg (by omega)]
    case measure=>simp [intOf]<;>omega
end Go.Proofs.YtdbhahiieokplaaGreatDoor


namespace Go.Proofs.YtdbhahiieokplaaGreatDoor

theorem knuth {b P z zl y yl:Nat} (hb:2≤b) (hP:0<P) (hzl:zl<P) (hyl:yl<P) (hy:b*b≤2*y) (hW:z*P+zl<(y*P+yl)*b) :
  (z*P+zl) / (y*P+yl)≤z / y∧z / y≤(z*P+zl) / (y*P+yl)+1∧(z*P+zl) / (y*P+yl)<b:=by
 have hy0:0<y:=by
  rcases Nat.eq_zero_or_pos y with h | h
  · subst h
    have:2*2≤b*b:=Nat.mul_le_mul hb hb
    omega
  · exact h
 have hY:0<y*P+yl:=Nat.lt_of_lt_of_le (Nat.mul_pos hy0 hP) (Nat.le_add_right _ _)
 have hqb:(z*P+zl) / (y*P+yl)<b:=by
  rw [Nat.div_lt_iff_lt_mul hY,Nat.mul_comm b]
  exact hW
 have h1:=Nat.div_mul_le_self (z*P+zl) (y*P+yl)
 have h2:=Nat.lt_div_mul_add hY (a:=z*P+zl)
 generalize (z*P+zl) / (y*P+yl)=q at *
 refine ⟨?_,?_,hqb⟩
 · rw [Nat.le_div_iff_mul_le hy0]
   rcases Nat.lt_or_ge z (q*y) with h | h
   · have h3:(z+1)*P≤q*y*P:=Nat.mul_le_mul_right _ h
     rw [Nat.add_mul] at h3
     rw [Nat.mul_add,←Nat.mul_assoc] at h1
     omega
   · exact h
 · rcases Nat.lt_or_ge (q+1) (z / y) with h | h
   · exfalso
     have h4:(q+2)*y≤z:=Nat.le_trans (Nat.mul_le_mul_right _ h) (Nat.div_mul_le_self z y)
     have h5:(q+2)*y*P≤z*P:=Nat.mul_le_mul_right _ h4
     have h6:(q+1)*yl<(q+1)*P:=Nat.mul_lt_mul_of_pos_left hyl (by omega)
     have e1:(q+2)*y*P=(q+1)*(y*P)+y*P:=by rw [show q+2=q+1+1 by omega,Nat.add_mul,Nat.one_mul,Nat.add_mul,Nat.mul_assoc]
     have e2:q*(y*P+yl)+(y*P+yl)=(q+1)*(y*P)+(q+1)*yl:=by rw [←Nat.succ_mul,Nat.mul_add]
     have h7:y*P<(q+1)*P:=by omega
     have h8:y<q+1:=Nat.lt_of_mul_lt_mul_right h7
     have h9:2*b≤b*b:=Nat.mul_le_mul_right _ hb
     omega
   · exact h

theorem knuth_top {b P r2 rl v1 vl:Nat} (hb:2≤b) (hP:0<P) (hv:b≤2*v1) (hvl:vl<P) (hge:v1≤r2) (hW:r2*(P*b)+rl<(v1*P+vl)*b) :
  (r2*(P*b)+rl) / (v1*P+vl)≤b-1∧b-1≤(r2*(P*b)+rl) / (v1*P+vl)+1:=by
 have hY:0<v1*P+vl:=Nat.lt_of_lt_of_le (Nat.mul_pos (by omega) hP) (Nat.le_add_right _ _)
 constructor
 · have : (r2 * (P * b) + rl) / (v1 * P + vl) < b := by
    rw [Nat.div_lt_iff_lt_mul hY,Nat.mul_comm b]
    exact hW
   omega
 · have : b - 2 ≤ (r2 * (P * b) + rl) / (v1 * P + vl) := by
    rw [Nat.le_div_iff_mul_le hY]
    obtain ⟨c,rfl⟩:∃ c,b=c+2:=⟨b-2,by omega⟩
    rw [Nat.add_sub_cancel]
    have h1:v1*(P*(c+2))≤r2*(P*(c+2)):=Nat.mul_le_mul_right _ hge
    have h2:c*vl≤c*P:=Nat.mul_le_mul_left _ (by omega)
    have h3:c*P≤2*v1*P:=Nat.mul_le_mul_right _ (by omega)
    have e1:v1*(P*(c+2))=c*(v1*P)+2*v1*P:=by
     rw [Nat.mul_add,Nat.mul_add]
     have a1:v1*(P*c)=c*(v1*P):=by ac_rfl
     have a2:v1*(P*2)=2*v1*P:=by ac_rfl
     rw [a1,a2]
    rw [Nat.mul_add]
    omega
   omega

theorem digit_right {W Y q c t N Bn:Nat} (hY:Y≤Bn) (hq:W / Y=q) (h0:0<Y) (hN:N<Bn) (h:W+c*Bn=N+q*Y+t*Bn):c=t∧N=W%Y:=by
 have h1:=Nat.div_add_mod W Y
 have h2:=Nat.mod_lt W h0
 rw [hq,Nat.mul_comm] at h1
 have hc:c=t:=by
  rcases Nat.lt_trichotomy c t with h3 | h3 | h3
  · have:(c+1)*Bn≤t*Bn:=Nat.mul_le_mul_right _ h3
    rw [Nat.add_mul] at this
    omega
  · exact h3
  · have:(t+1)*Bn≤c*Bn:=Nat.mul_le_mul_right _ h3
    rw [Nat.add_mul] at this
    omega
 subst hc
 exact ⟨rfl,by omega⟩

theorem digit_wrong {W Y q c t N Bn:Nat} (hY:Y≤Bn) (hq:W / Y+1=q) (h0:0<Y) (hN:N<Bn) (h:W+c*Bn=N+q*Y+t*Bn):c=t+1∧N+Y=W%Y+Bn:=by
 have h1:=Nat.div_add_mod W Y
 have h2:=Nat.mod_lt W h0
 rw [Nat.mul_comm] at h1
 have e:q*Y=W / Y*Y+Y:=by rw [←hq,Nat.add_mul,Nat.one_mul]
 have hc:c=t+1:=by
  rcases Nat.lt_trichotomy c (t+1) with h3 | h3 | h3
  · have:c*Bn≤t*Bn:=Nat.mul_le_mul_right _ (by omega)
    omega
  · exact h3
  · have:(t+2)*Bn≤c*Bn:=Nat.mul_le_mul_right _ (by omega)
    rw [Nat.add_mul] at this
    omega
 subst hc
 rw [Nat.add_mul] at h
 exact ⟨rfl,by omega⟩
end Go.Proofs.YtdbhahiieokplaaGreatDoor
