import Derived.Test.YtpnokfgplnmjpaaGreatDoorGPk
import Derived.Test.YtpnokfgplnmjpaaGreatDoorGSgH
import Derived.Test.YtpnokfgplnmjpaaGreatDoorGIntL
import Derived.Test.YtpnokfgplnmjpaaGreatDoorGQE
import Derived.Deep.DeepCutAuto
import Derived.Deep.CutBlock
import Derived.Deep.RegionHeld3
set_option linter.unusedSimpArgs false
set_option linter.unusedVariables false
set_option maxRecDepth 100000
set_option maxHeartbeats 4000000
open Go.Lib (hid)
open Go.Proofs.Tryz (prog)
namespace Go.Proofs.YtpnokfgplnmjpaaGreatDoor
open Go.RowKit
attribute [local go_sem ↓] Go.wp_at_zero Go.wp_at_succ
def RetD (w:World) (q r:Nat) (e:Ending) (w':World):Prop:=e=.returned (.tuple #[.int .u64 (q:Int),.int .u64 (r:Int)])∧Drew w w'
theorem div64_zero (lo y:Nat) (hy:y<18446744073709551616) (hlo:lo<18446744073709551616) (h0:0<y) (w:World) :
  Calls prog 211 #[.int .u64 0,.int .u64 (lo:Int),.int .u64 (y:Int)] w (RetD w (lo / y) (lo%y)):=by
 obtain ⟨q,hq⟩:∃ q,lo / y=q:=⟨_,rfl⟩
 obtain ⟨r,hr⟩:∃ r,lo%y=r:=⟨_,rfl⟩
 have hqb:q≤lo:=by rw [←hq];exact Nat.div_le_self _ _
 have hrb:r<y:=by rw [←hr];exact Nat.mod_lt _ h0
 have e1:(lo:Int) / (y:Int)=(q:Int):=by rw [←hq];rfl
 have e2:(lo:Int)%(y:Int)=(r:Int):=by rw [←hr];rfl
 have e3:IntKind.u64.wrap (q:Int)=(q:Int):=by rw [IntKind.wrap_u64];omega
 have e4:IntKind.u64.wrap (r:Int)=(r:Int):=by rw [IntKind.wrap_u64];omega
 have hne:((y:Int)==0)=false:=by simp;omega
 have hne2:¬(y:Int)=0:=om;have hle:decide ((y:Int)≤0)=false:=by simp;omega
 have HQ:=hid hq;have HR:=hid hr;clear hq hr;go_enter Tryz.func211,Tryz.ntmps211;go_wp2
 go_quiet (fail)
 go_wp2
 go_ret2
 refine ⟨?_,_,rfl⟩;show Ending.returned (.tuple #[.int .u64 (q:Int),.int .u64 ((lo:Int)%(y:Int))])=_;rw [←HQ.out]
 rfl
theorem div_shift {y:Nat} (hy:y<18446744073709551616) (h0:0<y):∃ s Y,64-Lib.bitLen y=s∧s≤63∧Y=y*2^s∧9223372036854775808≤Y∧Y<18446744073709551616:=by
 obtain ⟨h1,h2,h3⟩:=bitLen_bounds y om om;have h4:=Lib.bitLen_le y 64 om om;generalize Lib.bitLen y=l at *;refine ⟨64-l,y*2^(64-l),rfl,om,rfl,?_,?_⟩
 · have e : (2 : Nat) ^ (l - 1) * 2 ^ (64 - l) = 9223372036854775808 := by
    rw [←Nat.pow_add,show l-1+(64-l)=63 by omega]
   rw [←e];exact Nat.mul_le_mul_right _ h2
 · have e : (2 : Nat) ^ l * 2 ^ (64 - l) = 18446744073709551616 := by
    rw [←Nat.pow_add,show l+(64-l)=64 by omega]
   rw [←e];exact Nat.mul_lt_mul_of_pos_right h3 (Nat.pow_pos om)
theorem div_words {y hi lo s Y:Nat} (hs:s≤63) (hY:Y=y*2^s) (hY2:Y<18446744073709551616) (hlo:lo<18446744073709551616) (hlt:hi<y) :
  ∃ H L u T d1 d0,hi*2^s=H∧H<18446744073709551616∧lo / 2^(64-s)=L∧L<18446744073709551616∧H ||| L=u∧u<Y∧lo*2^s%18446744073709551616=T∧T<18446744073709551616∧T / 4294967296=d1∧T%4294967296=d0∧d1<4294967296 ∧
    d0<4294967296∧u*(4294967296*4294967296)+(d1*4294967296+d0)=(hi*18446744073709551616+lo)*2^s:=by
 have hp:0<2^s:=Nat.pow_pos om;have e64:(2:Nat)^s*2^(64-s)=18446744073709551616:=by rw [←Nat.pow_add,show s+(64-s)=64 by omega]
 have hL:lo / 2^(64-s)<2^s:=Nat.div_lt_of_lt_mul (by rw [Nat.mul_comm,e64];exact hlo)
 have hH:hi*2^s+2^s≤Y:=by
  have:(hi+1)*2^s≤y*2^s:=Nat.mul_le_mul_right _ hlt;rw [Nat.add_mul,Nat.one_mul] at this;omega
 have hor:hi*2^s ||| lo / 2^(64-s)=hi*2^s+lo / 2^(64-s):=by
  rw [Nat.mul_comm hi,←Nat.two_pow_add_eq_or_of_lt hL]
 have hT:lo*2^s%18446744073709551616=lo%2^(64-s)*2^s:=by
  rw [←e64,Nat.mul_comm (2^s) (2^(64-s)),Nat.mul_mod_mul_right]
 have hlod:=Nat.div_add_mod lo (2^(64-s))
 have hmain:(hi*18446744073709551616+lo)*2^s=(hi*2^s+lo / 2^(64-s))*18446744073709551616+lo*2^s%18446744073709551616:=by
  rw [hT,Nat.add_mul,Nat.add_mul];have e1:hi*18446744073709551616*2^s=hi*2^s*18446744073709551616:=Nat.mul_right_comm _ _ _
  have e2:lo*2^s=lo / 2^(64-s)*18446744073709551616+lo%2^(64-s)*2^s:=by
   conv=>lhs;rw [←hlod]
   rw [Nat.add_mul,←e64,Nat.mul_comm (2^(64-s)),Nat.mul_assoc,Nat.mul_comm (2^(64-s)) (2^s)]
  omega
 refine ⟨_,_,_,_,_,_,rfl,om,rfl,?_,rfl,by rw [hor];omega,rfl,Nat.mod_lt _ om,rfl,rfl,om,om,?_⟩
 · have:2^s≤2^63:=Nat.pow_le_pow_right om hs;omega
 · rw [hor,hmain];have:=Nat.div_add_mod (lo*2^s%18446744073709551616) 4294967296;omega
theorem bits_and_u64 (a b:Nat) (ha:a<18446744073709551616) (hb:b<18446744073709551616):bits .and .u64 (a:Int) (b:Int)=((a &&& b:Nat):Int):=by
 have hx:a &&& b≤a:=Nat.and_le_left;show IntKind.u64.wrap ((BitVec.ofInt 64 (a:Int) &&& BitVec.ofInt 64 (b:Int)).toNat:Int)=_;rw [BitVec.toNat_and,nat_bits a ha,nat_bits b hb,IntKind.wrap_u64];omega
theorem low32 (a:Nat) (ha:a<18446744073709551616):bits .and .u64 (a:Int) 4294967295=((a%4294967296:Nat):Int):=by
 have h:=bits_and_u64 a 4294967295 ha om;have e:a &&& 4294967295=a%4294967296:=Nat.and_two_pow_sub_one_eq_mod a 32;rw [e] at h;exact h
theorem wrap_u (x:Int) (r:Nat) (h:x%18446744073709551616=(r:Int)):IntKind.u64.wrap x=(r:Int):=by rw [IntKind.wrap_u64];exact h
theorem wrap_nat (x:Nat):IntKind.u64.wrap (x:Int)=((x%18446744073709551616:Nat):Int):=wrap_u _ _ om
theorem shl_word (y s:Nat):IntKind.u64.wrap ((y:Int)*2^s)=((y*2^s%18446744073709551616:Nat):Int):=by
 have e:(y:Int)*2^s=((y*2^s:Nat):Int):=by simp
 rw [e,wrap_nat]
theorem shr_word (y s:Nat):(y:Int) / 2^s=((y / 2^s:Nat):Int):=by simp
theorem div_back {U y Q s r0:Nat} (h:U*2^s=Q*(y*2^s)+r0) (lr0:r0<y*2^s) (hy0:0<y):U / y=Q∧U%y=r0 / 2^s:=by
 have hp:0<2^s:=Nat.pow_pos om;have e1:Q*(y*2^s)=Q*y*2^s:=(Nat.mul_assoc _ _ _).symm;rw [e1] at h
 have hle:Q*y≤U:=by
  rcases Nat.lt_or_ge U (Q*y) with h2 | h2
  · have:U*2^s<Q*y*2^s:=Nat.mul_lt_mul_of_pos_right h2 hp;omega
  · exact h2
 have er:r0=(U-Q*y)*2^s:=by rw [Nat.sub_mul];omega
 have hr2:r0 / 2^s=U-Q*y:=by rw [er,Nat.mul_div_cancel _ hp]
 have hlty:U-Q*y<y:=by
  rw [er] at lr0;exact Nat.lt_of_mul_lt_mul_right lr0
 rw [hr2];have hU:U=y*Q+(U-Q*y):=by rw [Nat.mul_comm y Q];omega
 constructor
 · conv=>lhs;rw [hU]
   rw [Nat.mul_add_div hy0,Nat.div_eq_of_lt hlty,Nat.add_zero]
 · conv=>lhs;rw [hU]
   rw [Nat.mul_add_mod,Nat.mod_eq_of_lt hlty]
theorem half_words {u d Y y1 y0 q r:Nat} (hY:Y=y1*4294967296+y0) (hu:u<Y) (hY2:Y<18446744073709551616) (hd:d<4294967296) (he:u*4294967296+d=q*Y+r) (hr:r<Y) :
  ∃ A A2 C:Nat,IntKind.u64.wrap ((u:Int)*4294967296)=(A:Int)∧IntKind.u64.wrap ((A:Int)+(d:Int))=(A2:Int)∧IntKind.u64.wrap ((q:Int)*(Y:Int))=(C:Int)∧IntKind.u64.wrap ((A2:Int)-(C:Int))=(r:Int):=by
 refine ⟨u*4294967296%18446744073709551616,(u*4294967296%18446744073709551616+d)%18446744073709551616,q*Y%18446744073709551616,?_,?_,?_,?_⟩
 · exact wrap_u _ _ om
 · exact wrap_u _ _ om
 · exact wrap_u _ _ (by rw [←Int.natCast_mul];omega)
 · refine wrap_u _ _ ?_;generalize q*Y=p at *;omega
theorem div64_pos (hi lo y:Nat) (hy:y<18446744073709551616) (hlo:lo<18446744073709551616) (h0:0<hi) (hlt:hi<y) (w:World) :
  Calls prog 211 #[.int .u64 (hi:Int),.int .u64 (lo:Int),.int .u64 (y:Int)] w (RetD w ((hi*18446744073709551616+lo) / y) ((hi*18446744073709551616+lo)%y)):=by
 obtain ⟨s,Y,hs,hs63,hY,hY1,hY2⟩:=div_shift hy om;obtain ⟨H,L,u,T,d1,d0,eH,lH,eL,lL,eu,lu,eT,lT,ed1,ed0,ld1,ld0,hmain⟩:=div_words hs63 hY hY2 hlo hlt;obtain ⟨y1,ey1⟩:∃ y1,Y / 4294967296=y1:=⟨_,rfl⟩
 obtain ⟨y0,ey0⟩:∃ y0,Y%4294967296=y0:=⟨_,rfl⟩
 have hYs:Y=y1*4294967296+y0:=om;have hy1:4294967296≤2*y1:=om;have hy1b:y1<4294967296:=om;have hy0b:y0<4294967296:=om
 -- the first half step
 obtain ⟨g1,g2,g3⟩:=half_start (b:=4294967296) (u:=u) (d:=d1) om hy1 hy1b hy0b om ld1;rw [←hYs] at g1 g3;obtain ⟨q1,eq1⟩:∃ q,(u*4294967296+d1) / Y=q:=⟨_,rfl⟩
 obtain ⟨r1,er1⟩:∃ r,(u*4294967296+d1)%Y=r:=⟨_,rfl⟩
 have lr1:r1<Y:=by rw [←er1];exact Nat.mod_lt _ om
 have s1:u*4294967296+d1=q1*Y+r1:=by have h:=Nat.div_add_mod (u*4294967296+d1) Y;rw [eq1,er1,Nat.mul_comm] at h;exact h.symm
 rw [eq1] at g1 g3
 -- the second one
 obtain ⟨k1,k2,k3⟩:=half_start (b:=4294967296) (u:=r1) (d:=d0) om hy1 hy1b hy0b om ld0;rw [←hYs] at k1 k3;obtain ⟨q0,eq0⟩:∃ q,(r1*4294967296+d0) / Y=q:=⟨_,rfl⟩
 obtain ⟨r0,er0⟩:∃ r,(r1*4294967296+d0)%Y=r:=⟨_,rfl⟩
 have lr0:r0<Y:=by rw [←er0];exact Nat.mod_lt _ om
 have s0:r1*4294967296+d0=q0*Y+r0:=by have h:=Nat.div_add_mod (r1*4294967296+d0) Y;rw [eq0,er0,Nat.mul_comm] at h;exact h.symm
 rw [eq0] at k1 k3;have hall:=two_halves s1 s0;rw [hmain] at hall;rw [hY] at hall lr0;have hres:=div_back hall lr0 om;rw [←hY] at hall lr0;have HRES:=hid hres
 -- the model's words
 have HL:=hid (fun V=>lz_any y s hs hy V);have w1:IntKind.u64.wrap ((y:Int)*2^s)=(Y:Int):=by rw [shl_word,←hY,Nat.mod_eq_of_lt hY2]
 have w2:(Y:Int) / 4294967296=(y1:Int):=om;have w3:bits .and .u64 (Y:Int) 4294967295=(y0:Int):=by rw [low32 Y hY2,ey0]
 have w4:IntKind.u64.wrap ((hi:Int)*2^s)=(H:Int):=by rw [shl_word,eH,Nat.mod_eq_of_lt lH]
 have w5:(lo:Int) / 2^(64-s)=(L:Int):=by rw [shr_word,eL]
 have w6:bits .or .u64 (H:Int) (L:Int)=(u:Int):=by rw [bits_or_u64 H L lH lL,eu]
 have w7:IntKind.u64.wrap ((lo:Int)*2^s)=(T:Int):=by rw [shl_word,eT]
 have w8:(T:Int) / 4294967296=(d1:Int):=om;have w9:bits .and .u64 (T:Int) 4294967295=(d0:Int):=by rw [low32 T lT,ed0]
 obtain ⟨A,A2,C,x1,x2,x3,x4⟩:=half_words (q:=q1) (r:=r1) hYs lu hY2 ld1 s1 lr1;obtain ⟨E,E2,G,z1,z2,z3,z4⟩:=half_words (q:=q0) (r:=r0) hYs lr1 hY2 ld0 s0 lr0;have X:=hid (And.intro x1 (And.intro x2 (And.intro x3 x4)));have Z:=hid (And.intro z1 (And.intro z2 (And.intro z3 z4)));have HY:=hid hYs;have EQ1:=hid eq1;have EQ0:=hid eq0;have luy:u≤18446744073709551615:=om
 have hqa:IntKind.u64.wrap ((u:Int).tdiv (y1:Int))=((u / y1:Nat):Int):=by
  have e:(u:Int).tdiv (y1:Int)=((u / y1:Nat):Int):=rfl;rw [e,wrap_nat,Nat.mod_eq_of_lt (by have:=Nat.div_le_self u y1;omega)]
 obtain ⟨Qa,eQa⟩:∃ Q,u / y1=Q:=⟨_,rfl⟩
 obtain ⟨Ra,eRa⟩:∃ R,u%y1=R:=⟨_,rfl⟩
 have sa:Qa*y1+Ra=u:=by have h:=Nat.div_add_mod u y1;rw [eQa,eRa,Nat.mul_comm] at h;exact h
 have lRa:Ra<y1:=by rw [←eRa];exact Nat.mod_lt _ om
 rw [eQa] at hqa g1 g2
 have hqb:IntKind.u64.wrap ((u:Int) / (y1:Int))=(Qa:Int):=by
  have e:(u:Int) / (y1:Int)=((u / y1:Nat):Int):=by simp
  rw [e,wrap_nat,eQa,Nat.mod_eq_of_lt (by have:=Nat.div_le_self u y1;omega)]
 have hra:∃ P:Nat,IntKind.u64.wrap ((Qa:Int)*(y1:Int))=(P:Int)∧IntKind.u64.wrap ((u:Int)-(P:Int))=(Ra:Int):=by
  refine ⟨Qa*y1,?_,wrap_u _ _ om⟩;have e:(Qa:Int)*(y1:Int)=((Qa*y1:Nat):Int):=by simp
  rw [e,wrap_nat,Nat.mod_eq_of_lt om]
 obtain ⟨Pa,wP,wR⟩:=hra;have SA:=hid sa;have G1:=hid g1;have hy10:¬(y1:Int)=0:=om;have hne:((y:Int)==0)=false:=by simp;omega
 have hne2:((hi:Int)==0)=false:=by simp;omega
 clear hs eH eL eu eT ed1 ed0 hmain hall hres ey1 ey0 hYs x1 x2 x3 x4 z1 z2 z3 z4 eq1 eq0 er1 er0 s1 s0 sa g1 eQa eRa hY;go_enter Tryz.func211,Tryz.ntmps211;go_wp2_with fail
 refine (HL.out _).mono ?_;rintro e w' ⟨rfl,rfl⟩;go_upto_block 0 with fail
 go_cut [15] (fun s15 wx=>s15=.int .u64 (q1:Int)∧w=wx)
 case first =>
  clear w1 w2 w3 w4 w5 w6 w7 w8 w9 hqa hqb wP wR hy10 hne hne2;go_wp2_with fail
  go_loop [15,16] (fun a c=>∃ Q R:Nat,a=.int .u64 (Q:Int)∧c=.int .u64 (R:Int)∧Hid (Q*y1+R=u)∧Hid (q1≤Q)∧Q≤4294967297∧R<4294967296∧(Q≤4294967296∨R<y1)) (fun a _=>(intOf a).toNat)
  case atStart=>exact ⟨Qa,Ra,rfl,rfl,SA,G1,om,om,.inr lRa⟩
  case round =>
   obtain ⟨Q,R,rfl,rfl,HE,HQ,hQ,hR,hor⟩:=hrel;by_cases ht:4294967296≤Q∨4294967296*R+d1<Q*y0
   · have hless:=half_more (b:=4294967296) (y1:=y1) (y0:=y0) (u:=u) (d:=d1) (Q:=Q) (R:=R) om hy1 hy0b (by have:=HY.out;omega) om HE.out ht;rw [←HY.out,EQ1.out] at hless;have hbr:=fun (h1:Q-1≤4294967296) (h2:4294967296≤R+y1)=>half_done (b:=4294967296) (y1:=y1) (y0:=y0) (u:=u) (d:=d1) (Q:=Q-1) (R:=R+y1) (by have:=HY.out;omega) (by have h:=HE.out;obtain ⟨m,hm⟩:∃ m,Q=m+1:=⟨Q-1,om⟩;rw [hm,Nat.add_sub_cancel];rw [hm,Nat.add_mul] at h;omega) (half_break hy0b h1 h2) (by rw [←HY.out,EQ1.out];omega)
     rw [←HY.out,EQ1.out] at hbr
     have hne1:Hid ((Q-1)*y1+(R+y1)=u):=by
      exact k51
     have hq2:Hid (q1≤Q-1):=by show _≤_;omega
     have v1:IntKind.u64.wrap ((Q:Int)-1)=((Q-1:Nat):Int):=wrap_u _ _ om;have v2:IntKind.u64.wrap ((R:Int)+(y1:Int))=((R+y1:Nat):Int):=wrap_u _ _ om;have HT:=hid ht;have hQ1:Q-1≤4294967296:=om;have hQm:Q-1<Q:=om;have hRb:R+y1<8589934592:=om;obtain ⟨Qn,hQn⟩:∃ Qn,Q-1=Qn:=⟨_,rfl⟩
     obtain ⟨Rn,hRn⟩:∃ Rn,R+y1=Rn:=⟨_,rfl⟩
     rw [hQn] at hbr hne1 hq2 v1 hQ1 hQm;rw [hRn] at hbr hne1 v2 hRb;have HBR:=hid hbr;clear hbr ht hless hQn hRn;by_cases hb:4294967296≤Q
     · have hbd:decide ((4294967296:Int)≤(Q:Int))=true:=by simp;omega
       exact k19
     · have hbd:decide ((4294967296:Int)≤(Q:Int))=false:=by simp;omega
       have hpb:Q*y0≤4294967295*4294967295:=Nat.mul_le_mul om om;have v3:IntKind.u64.wrap ((Q:Int)*(y0:Int))=((Q*y0:Nat):Int):=wrap_u _ _ (by rw [←Int.natCast_mul];omega);have v4:IntKind.u64.wrap (4294967296*(R:Int))=((4294967296*R:Nat):Int):=wrap_u _ _ om;have v5:IntKind.u64.wrap (((4294967296*R:Nat):Int)+(d1:Int))=((4294967296*R+d1:Nat):Int):=wrap_u _ _ om;have ht2:4294967296*R+d1<Q*y0:=by have:=HT.out;omega
       obtain ⟨P,hP⟩:∃ P,Q*y0=P:=⟨_,rfl⟩
       obtain ⟨M,hM⟩:∃ M,4294967296*R=M:=⟨_,rfl⟩
       obtain ⟨M2,hM2⟩:∃ M2,4294967296*R+d1=M2:=⟨_,rfl⟩
       rw [hP] at v3 ht2;rw [hM2] at ht2 v5;rw [hM] at v4 v5;have htd:decide ((M2:Int)<(P:Int))=true:=by simp;omega
       clear hP hM hM2 hpb;exact k19
   · have hfin:=half_done (b:=4294967296) (y1:=y1) (y0:=y0) (u:=u) (d:=d1) (Q:=Q) (R:=R) (by have:=HY.out;omega) HE.out om (by rw [←HY.out,EQ1.out];exact HQ.out);rw [←HY.out,EQ1.out] at hfin;have hbd:decide ((4294967296:Int)≤(Q:Int))=false:=by simp;omega
     have hpb:Q*y0≤4294967295*4294967295:=Nat.mul_le_mul om om;have v3:IntKind.u64.wrap ((Q:Int)*(y0:Int))=((Q*y0:Nat):Int):=wrap_u _ _ (by rw [←Int.natCast_mul];omega);have v4:IntKind.u64.wrap (4294967296*(R:Int))=((4294967296*R:Nat):Int):=wrap_u _ _ om;have v5:IntKind.u64.wrap (((4294967296*R:Nat):Int)+(d1:Int))=((4294967296*R+d1:Nat):Int):=wrap_u _ _ om;have ht2:Q*y0≤4294967296*R+d1:=om;obtain ⟨P,hP⟩:∃ P,Q*y0=P:=⟨_,rfl⟩
     obtain ⟨M,hM⟩:∃ M,4294967296*R=M:=⟨_,rfl⟩
     obtain ⟨M2,hM2⟩:∃ M2,4294967296*R+d1=M2:=⟨_,rfl⟩
     exact k63
 case rest =>
  obtain ⟨rfl,rfl⟩:=hcut;obtain ⟨x1,x2,x3,x4⟩:=X.out;obtain ⟨Qb,eQb⟩:∃ Q,r1 / y1=Q:=⟨_,rfl⟩
  obtain ⟨Rb,eRb⟩:∃ R,r1%y1=R:=⟨_,rfl⟩
  have sb:Qb*y1+Rb=r1:=by have h:=Nat.div_add_mod r1 y1;rw [eQb,eRb,Nat.mul_comm] at h;exact h
  have lRb:Rb<y1:=by rw [←eRb];exact Nat.mod_lt _ om
  rw [eQb] at k1 k2
  have hqc:IntKind.u64.wrap ((r1:Int).tdiv (y1:Int))=(Qb:Int):=by
   have e:(r1:Int).tdiv (y1:Int)=((r1 / y1:Nat):Int):=rfl;rw [e,wrap_nat,eQb,Nat.mod_eq_of_lt (by have:=Nat.div_le_self r1 y1;omega)]
  have hqd:IntKind.u64.wrap ((r1:Int) / (y1:Int))=(Qb:Int):=by
   have e:(r1:Int) / (y1:Int)=((r1 / y1:Nat):Int):=by simp
   rw [e,wrap_nat,eQb,Nat.mod_eq_of_lt (by have:=Nat.div_le_self r1 y1;omega)]
  have hrb:∃ P:Nat,IntKind.u64.wrap ((Qb:Int)*(y1:Int))=(P:Int)∧IntKind.u64.wrap ((r1:Int)-(P:Int))=(Rb:Int):=by
   refine ⟨Qb*y1,?_,wrap_u _ _ om⟩;have e:(Qb:Int)*(y1:Int)=((Qb*y1:Nat):Int):=by simp
   rw [e,wrap_nat,Nat.mod_eq_of_lt om]
  obtain ⟨Pb,wP2,wR2⟩:=hrb;have SB:=hid sb;have G2:=hid k1;clear w1 w2 w3 w4 w5 w6 w7 w8 w9 hqa hqb wP wR hne hne2 sb k1 eQb eRb;go_upto_block 2 with fail
  go_cut [18] (fun s18 wx=>s18=.int .u64 (q0:Int)∧w=wx)
  case first =>
   clear x1 x2 x3 x4 hqc hqd wP2 wR2 hy10;go_wp2_with fail
   go_loop [18,16] (fun a c=>∃ Q R:Nat,a=.int .u64 (Q:Int)∧c=.int .u64 (R:Int)∧Hid (Q*y1+R=r1)∧Hid (q0≤Q)∧Q≤4294967297∧R<4294967296∧(Q≤4294967296∨R<y1)) (fun a _=>(intOf a).toNat)
   case atStart=>exact ⟨Qb,Rb,rfl,rfl,SB,G2,om,om,.inr lRb⟩
   case round =>
    obtain ⟨Q,R,rfl,rfl,HE,HQ,hQ,hR,hor⟩:=hrel;by_cases ht:4294967296≤Q∨4294967296*R+d0<Q*y0
    · have hless:=half_more (b:=4294967296) (y1:=y1) (y0:=y0) (u:=r1) (d:=d0) (Q:=Q) (R:=R) om hy1 hy0b (by have:=HY.out;omega) om HE.out ht;rw [←HY.out,EQ0.out] at hless;have hbr:=fun (h1:Q-1≤4294967296) (h2:4294967296≤R+y1)=>half_done (b:=4294967296) (y1:=y1) (y0:=y0) (u:=r1) (d:=d0) (Q:=Q-1) (R:=R+y1) (by have:=HY.out;omega) (by have h:=HE.out;obtain ⟨m,hm⟩:∃ m,Q=m+1:=⟨Q-1,om⟩;rw [hm,Nat.add_sub_cancel];rw [hm,Nat.add_mul] at h;omega) (half_break hy0b h1 h2) (by rw [←HY.out,EQ0.out];omega)
      rw [←HY.out,EQ0.out] at hbr
      have hne1:Hid ((Q-1)*y1+(R+y1)=r1):=by
       exact k51
      have hq2:Hid (q0≤Q-1):=by show _≤_;omega
      have v1:IntKind.u64.wrap ((Q:Int)-1)=((Q-1:Nat):Int):=wrap_u _ _ om;have v2:IntKind.u64.wrap ((R:Int)+(y1:Int))=((R+y1:Nat):Int):=wrap_u _ _ om;have HT:=hid ht;have hQ1:Q-1≤4294967296:=om;have hQm:Q-1<Q:=om;have hRb:R+y1<8589934592:=om;obtain ⟨Qn,hQn⟩:∃ Qn,Q-1=Qn:=⟨_,rfl⟩
      obtain ⟨Rn,hRn⟩:∃ Rn,R+y1=Rn:=⟨_,rfl⟩
      rw [hQn] at hbr hne1 hq2 v1 hQ1 hQm;rw [hRn] at hbr hne1 v2 hRb;have HBR:=hid hbr;clear hbr ht hless hQn hRn;by_cases hb:4294967296≤Q
      · have hbd:decide ((4294967296:Int)≤(Q:Int))=true:=by simp;omega
        exact k19
      · have hbd:decide ((4294967296:Int)≤(Q:Int))=false:=by simp;omega
        have hpb:Q*y0≤4294967295*4294967295:=Nat.mul_le_mul om om;have v3:IntKind.u64.wrap ((Q:Int)*(y0:Int))=((Q*y0:Nat):Int):=wrap_u _ _ (by rw [←Int.natCast_mul];omega);have v4:IntKind.u64.wrap (4294967296*(R:Int))=((4294967296*R:Nat):Int):=wrap_u _ _ om;have v5:IntKind.u64.wrap (((4294967296*R:Nat):Int)+(d0:Int))=((4294967296*R+d0:Nat):Int):=wrap_u _ _ om;have ht2:4294967296*R+d0<Q*y0:=by have:=HT.out;omega
        obtain ⟨P,hP⟩:∃ P,Q*y0=P:=⟨_,rfl⟩
        obtain ⟨M,hM⟩:∃ M,4294967296*R=M:=⟨_,rfl⟩
        obtain ⟨M2,hM2⟩:∃ M2,4294967296*R+d0=M2:=⟨_,rfl⟩
        rw [hP] at v3 ht2;rw [hM2] at ht2 v5;rw [hM] at v4 v5;have htd:decide ((M2:Int)<(P:Int))=true:=by simp;omega
        clear hP hM hM2 hpb;exact k19
    · have hfin:=half_done (b:=4294967296) (y1:=y1) (y0:=y0) (u:=r1) (d:=d0) (Q:=Q) (R:=R) (by have:=HY.out;omega) HE.out om (by rw [←HY.out,EQ0.out];exact HQ.out);rw [←HY.out,EQ0.out] at hfin;have hbd:decide ((4294967296:Int)≤(Q:Int))=false:=by simp;omega
      have hpb:Q*y0≤4294967295*4294967295:=Nat.mul_le_mul om om;have v3:IntKind.u64.wrap ((Q:Int)*(y0:Int))=((Q*y0:Nat):Int):=wrap_u _ _ (by rw [←Int.natCast_mul];omega);have v4:IntKind.u64.wrap (4294967296*(R:Int))=((4294967296*R:Nat):Int):=wrap_u _ _ om;have v5:IntKind.u64.wrap (((4294967296*R:Nat):Int)+(d0:Int))=((4294967296*R+d0:Nat):Int):=wrap_u _ _ om;have ht2:Q*y0≤4294967296*R+d0:=om;obtain ⟨P,hP⟩:∃ P,Q*y0=P:=⟨_,rfl⟩
      obtain ⟨M,hM⟩:∃ M,4294967296*R=M:=⟨_,rfl⟩
      obtain ⟨M2,hM2⟩:∃ M2,4294967296*R+d0=M2:=⟨_,rfl⟩
      exact k63
  case rest =>
   obtain ⟨rfl,rfl⟩:=hcut;obtain ⟨z1,z2,z3,z4⟩:=Z.out;obtain ⟨f,hf⟩:∃ f,q1*4294967296=f:=⟨_,rfl⟩
   have v1:IntKind.u64.wrap ((q1:Int)*4294967296)=(f:Int):=wrap_u _ _ om;have v2:IntKind.u64.wrap ((f:Int)+(q0:Int))=((f+q0:Nat):Int):=wrap_u _ _ om;obtain ⟨g,hg⟩:∃ g,f+q0=g:=⟨_,rfl⟩
   rw [hg] at v2;have v3:=shr_word r0 s;obtain ⟨h,hh⟩:∃ h,r0 / 2^s=h:=⟨_,rfl⟩
   rw [hh] at v3;have HFIN:=hid (show (hi*18446744073709551616+lo) / y=g∧(hi*18446744073709551616+lo)%y=h from ⟨by rw [HRES.out.1,hf,hg],by rw [HRES.out.2,hh]⟩);clear x1 x2 x3 x4 hqc hqd wP2 wR2 hy10 hf hg hh;go_wp2
   go_ret2
   refine ⟨?_,Drew.refl _⟩;rw [HFIN.out.1,HFIN.out.2]
   rfl
theorem div64_any (hi lo y:Nat) (hy:y<18446744073709551616) (hlo:lo<18446744073709551616) (hlt:hi<y) (w:World) :
  Calls prog 211 #[.int .u64 (hi:Int),.int .u64 (lo:Int),.int .u64 (y:Int)] w (RetD w ((hi*18446744073709551616+lo) / y) ((hi*18446744073709551616+lo)%y)):=by
 by_cases h:hi=0
 · subst h;have h:=div64_zero lo y hy hlo om w;rw [Nat.zero_mul,Nat.zero_add];exact h
 · exact div64_pos hi lo y hy hlo om hlt w
theorem dw_step {b X d j:Nat} (hb:0<b) (hd:0<d):(X / b^(j+1)%d*b+D b X j) / d=D b (X / d) j∧(X / b^(j+1)%d*b+D b X j)%d=X / b^j%d:=by
 have hx:=div_D b X j;have hD:=D_lt hb X j;have hl:=Nat.mod_lt (X / b^(j+1)) hd;have hz:=Nat.div_add_mod (X / b^(j+1)) d;have e1:X / d / b^j=X / b^j / d:=by rw [Nat.div_div_eq_div_mul,Nat.div_div_eq_div_mul,Nat.mul_comm]
 unfold D at hx hD ⊢;rw [e1];generalize X / b^(j+1)=Z at *;generalize X / b^j%b=x at *
 have e2:X / b^j=d*(b*(Z / d))+(Z%d*b+x):=by
  rw [hx];have:b*Z=b*(d*(Z / d)+Z%d):=by rw [hz]
  rw [this,Nat.mul_add,Nat.mul_left_comm,Nat.mul_comm (Z%d) b];omega
 have hq:(Z%d*b+x) / d<b:=by
  rw [Nat.div_lt_iff_lt_mul hd];have:(Z%d+1)*b≤d*b:=Nat.mul_le_mul_right _ hl;rw [Nat.add_mul,Nat.mul_comm d b] at this;omega
 constructor
 · rw [e2,Nat.mul_add_div hd,Nat.mul_add_mod,Nat.mod_eq_of_lt hq]
 · rw [e2,Nat.mul_add_mod]
def RetDW (w:World) (Q N R:Nat) (e:Ending) (w':World):Prop :=
 ∃ A n c,n≤N∧e=.returned (.tuple #[.slice A n c,.int .u64 (R:Int)])∧Nm w' A n c Q∧Below w.heap.size w w'∧∀ k,Value.ownBlock (.slice A n c)=some k→w.heap.size≤k
theorem Lies.of_made (w:World) (n:Nat):Lies (w.alloc (.cells (madeCells #[.int .u64 0] n) 124)) w.heap.size n (fun _=>0) :=
 ⟨_,_,heap_one _ _,by simp [madeCells],fun i hi=>by simp [madeCells,hi,Nat.mod_one]⟩
theorem Lies.below {w w':World} {g n B:Nat} {f:Nat→Nat} (h:Lies w g n f) (hb:Below B w w') (hg:g<B):Lies w' g n f:=h.of_block (hb.block g hg)
theorem divideWord_any (A:Option Addr) (n c X d:Nat) (w:World) (hn:n≤1000000000) (hd:0<d) (hd2:d<18446744073709551616) (hx:Ng w A n c X) :
  Calls prog 185 #[.slice A n c,.int .u64 (d:Int)] w (RetDW w (X / d) n (X%d)):=by
 have hmk:=fun W=>run_make_row' (P:=prog) 131 124 (.int .u64 0) 8 Tryz.underlying131 natInfo rfl .i64 .i64 n om om W
 have HX:=hid hx;clear hx;go_enter Tryz.func185,Tryz.ntmps185;go_wp2
 go_loopw [5,6] (fun r i wr=>∃ k:Nat,k≤n∧i=.int .i64 ((k:Int)-1)∧r=.int .u64 ((X / B64^k%d:Nat):Int)∧Lies wr w.heap.size n (fun j=>if k≤j then D B64 (X / d) j else 0)∧Below w.heap.size w wr) (fun _ i _=>(intOf i+1).toNat)
 case atStart =>
  refine ⟨n,Nat.le_refl _,rfl,?_,(Lies.of_made w n).congr fun i hi=>by rw [if_neg om],(Below.refl _ _).alloc (Nat.le_refl _) _⟩;rw [Nat.div_eq_of_lt HX.out.lt];simp
 case round =>
  obtain ⟨k,hk,rfl,rfl,hlies,hbl⟩:=hrel;rcases k with _ | j
  · have e:(((0:Nat):Int)-1)=-1:=rfl;rw [e];clear e;have hng:Ng wr (some ⟨w.heap.size,0,none⟩) n n (X / d):=⟨Nat.lt_of_le_of_lt (Nat.div_le_self _ _) HX.out.lt,Nat.le_refl _,(hlies.congr fun i _=>by rw [if_pos (Nat.zero_le _)]).rd⟩;have hr0:X / B64^0%d=X%d:=by rw [Nat.pow_zero,Nat.div_one]
    rw [hr0];have HNG:=hid hng;have HBL:=hid hbl;clear hng hlies hbl hr0;generalize X%d=R at *;go_wp2_with fail
    refine (trim_any _ n n (X / d) _ om HNG.out).mono ?_;rintro e w' ⟨q,hq,rfl,hnm,rfl⟩;have HNM:=hid hnm;clear hnm;go_wp2
    go_ret2
    exact ⟨_,q,n,hq,rfl,HNM.out,HBL.out,fun z hz=>by simp [Value.ownBlock] at hz;omega⟩
  · have e:(((j+1:Nat):Int)-1)=(j:Int):=om;rw [e];clear e;obtain ⟨gx,ox,hA,hgx,hcx⟩:=(HX.out.rd.below hbl) om
    have hgx2:gx<w.heap.size:=by
     obtain ⟨g2,o2,hA2,hg2,_⟩:=HX.out.rd om;rw [hA] at hA2
     injection hA2 with h
     injection h with h1 h2
     omega
    subst hA;have hxj:=hcx j om;have hcell:=hlies.cell (i:=j) om;have hfro:=hlies.frozen j;obtain ⟨s1,s2⟩:=dw_step (b:=B64) (X:=X) (d:=d) (j:=j) B64_pos hd;have hrl:=Nat.mod_lt (X / B64^(j+1)) hd;have hdx:=D64_lt X j;have hdv:=fun W=>div64_any (X / B64^(j+1)%d) (D B64 X j) d hd2 hdx hrl W
    rw [←B64_eq,s1,s2] at hdv;have HDV:=hid hdv;have HLI:=hid hlies;have HBL:=hid hbl;have hj0:(0:Int)≤(j:Int):=om;have hj1:(j:Int)<(n:Int):=om;clear hcx s1 s2 hdv hlies hbl;generalize X / B64^(j+1)%d=hi at *;generalize D B64 X j=lo at *;obtain ⟨Z,hZ⟩:∃ Z,D B64 (X / d) j=Z:=⟨_,rfl⟩
    rw [hZ] at HDV;have HZ:=hid hZ;clear hZ;go_wp2_with fail
    refine (HDV.out _).mono ?_;rintro e w' ⟨rfl,qn,rfl⟩;go_wp2
    go_roundw
    case rel =>
     refine ⟨j,om,by go_num,rfl,(Lies.set (w:=wr.drewN qn) HLI.out j Z).congr fun i hi=>?_,(below_draws HBL.out qn).setCell (Nat.le_refl _) _⟩;by_cases e:i=j
     · rw [if_pos e,if_pos om,←HZ.out,e]
     · exact k102
    case measure=>simp [intOf]<;>omega
end Go.Proofs.YtpnokfgplnmjpaaGreatDoor
namespace Go.Proofs.YtpnokfgplnmjpaaGreatDoor
theorem knuth {b P z zl y yl:Nat} (hb:2≤b) (hP:0<P) (hzl:zl<P) (hyl:yl<P) (hy:b*b≤2*y) (hW:z*P+zl<(y*P+yl)*b) :
  (z*P+zl) / (y*P+yl)≤z / y∧z / y≤(z*P+zl) / (y*P+yl)+1∧(z*P+zl) / (y*P+yl)<b:=by
 have hy0:0<y:=by
  rcases Nat.eq_zero_or_pos y with h | h
  · subst h;have:2*2≤b*b:=Nat.mul_le_mul hb hb;omega
  · exact h
 have hY:0<y*P+yl:=Nat.lt_of_lt_of_le (Nat.mul_pos hy0 hP) (Nat.le_add_right _ _)
 have hqb:(z*P+zl) / (y*P+yl)<b:=by
  rw [Nat.div_lt_iff_lt_mul hY,Nat.mul_comm b];exact hW
 have h1:=Nat.div_mul_le_self (z*P+zl) (y*P+yl);have h2:=Nat.lt_div_mul_add hY (a:=z*P+zl);generalize (z*P+zl) / (y*P+yl)=q at *;refine ⟨?_,?_,hqb⟩
 · rw [Nat.le_div_iff_mul_le hy0];rcases Nat.lt_or_ge z (q*y) with h | h
   · have h3:(z+1)*P≤q*y*P:=Nat.mul_le_mul_right _ h;rw [Nat.add_mul] at h3;rw [Nat.mul_add,←Nat.mul_assoc] at h1;omega
   · exact h
 · rcases Nat.lt_or_ge (q+1) (z / y) with h | h
   · exfalso;have h4:(q+2)*y≤z:=Nat.le_trans (Nat.mul_le_mul_right _ h) (Nat.div_mul_le_self z y);have h5:(q+2)*y*P≤z*P:=Nat.mul_le_mul_right _ h4;have h6:(q+1)*yl<(q+1)*P:=Nat.mul_lt_mul_of_pos_left hyl om;have e1:(q+2)*y*P=(q+1)*(y*P)+y*P:=by rw [show q+2=q+1+1 by omega,Nat.add_mul,Nat.one_mul,Nat.add_mul,Nat.mul_assoc]
     have e2:q*(y*P+yl)+(y*P+yl)=(q+1)*(y*P)+(q+1)*yl:=by rw [←Nat.succ_mul,Nat.mul_add]
     have h7:y*P<(q+1)*P:=om;have h8:y<q+1:=Nat.lt_of_mul_lt_mul_right h7;have h9:2*b≤b*b:=Nat.mul_le_mul_right _ hb;omega
   · exact h
theorem knuth_top {b P r2 rl v1 vl:Nat} (hb:2≤b) (hP:0<P) (hv:b≤2*v1) (hvl:vl<P) (hge:v1≤r2) (hW:r2*(P*b)+rl<(v1*P+vl)*b) :
  (r2*(P*b)+rl) / (v1*P+vl)≤b-1∧b-1≤(r2*(P*b)+rl) / (v1*P+vl)+1:=by
 have hY:0<v1*P+vl:=Nat.lt_of_lt_of_le (Nat.mul_pos om hP) (Nat.le_add_right _ _);constructor
 · have : (r2 * (P * b) + rl) / (v1 * P + vl) < b := by
    rw [Nat.div_lt_iff_lt_mul hY,Nat.mul_comm b];exact hW
   omega
 · have : b - 2 ≤ (r2 * (P * b) + rl) / (v1 * P + vl) := by
    rw [Nat.le_div_iff_mul_le hY];obtain ⟨c,rfl⟩:∃ c,b=c+2:=⟨b-2,om⟩
    rw [Nat.add_sub_cancel];have h1:v1*(P*(c+2))≤r2*(P*(c+2)):=Nat.mul_le_mul_right _ hge;have h2:c*vl≤c*P:=Nat.mul_le_mul_left _ om;have h3:c*P≤2*v1*P:=Nat.mul_le_mul_right _ om
    have e1:v1*(P*(c+2))=c*(v1*P)+2*v1*P:=by
     rw [Nat.mul_add,Nat.mul_add];have a1:v1*(P*c)=c*(v1*P):=by ac_rfl
     have a2:v1*(P*2)=2*v1*P:=by ac_rfl
     rw [a1,a2]
    rw [Nat.mul_add];omega
   omega
theorem digit_right {W Y q c t N Bn:Nat} (hY:Y≤Bn) (hq:W / Y=q) (h0:0<Y) (hN:N<Bn) (h:W+c*Bn=N+q*Y+t*Bn):c=t∧N=W%Y:=by
 have h1:=Nat.div_add_mod W Y;have h2:=Nat.mod_lt W h0;rw [hq,Nat.mul_comm] at h1
 have hc:c=t:=by
  rcases Nat.lt_trichotomy c t with h3 | h3 | h3
  · have:(c+1)*Bn≤t*Bn:=Nat.mul_le_mul_right _ h3;rw [Nat.add_mul] at this;omega
  · exact h3
  · have:(t+1)*Bn≤c*Bn:=Nat.mul_le_mul_right _ h3;rw [Nat.add_mul] at this;omega
 subst hc;exact ⟨rfl,om⟩
theorem digit_wrong {W Y q c t N Bn:Nat} (hY:Y≤Bn) (hq:W / Y+1=q) (h0:0<Y) (hN:N<Bn) (h:W+c*Bn=N+q*Y+t*Bn):c=t+1∧N+Y=W%Y+Bn:=by
 have h1:=Nat.div_add_mod W Y;have h2:=Nat.mod_lt W h0;rw [Nat.mul_comm] at h1;have e:q*Y=W / Y*Y+Y:=by rw [←hq,Nat.add_mul,Nat.one_mul]
 have hc:c=t+1:=by
  rcases Nat.lt_trichotomy c (t+1) with h3 | h3 | h3
  · have:c*Bn≤t*Bn:=Nat.mul_le_mul_right _ om;omega
  · exact h3
  · have:(t+2)*Bn≤c*Bn:=Nat.mul_le_mul_right _ om;rw [Nat.add_mul] at this;omega
 subst hc;rw [Nat.add_mul] at h;exact ⟨rfl,om⟩
end Go.Proofs.YtpnokfgplnmjpaaGreatDoor
namespace Go.Proofs.YtpnokfgplnmjpaaGreatDoor
open Go.RowKit
attribute [local go_sem ↓] Go.wp_at_zero Go.wp_at_succ
def cpl (R m:Nat):Nat:=B64^m-1-R
theorem cpl_lt {R m:Nat}:cpl R m<B64^m:=by
 have:0<B64^m:=Nat.pow_pos B64_pos;unfold cpl;omega
theorem cpl_digit {R m:Nat}:∀ k,k<m→R<B64^m→D B64 (cpl R m) k=B64-1-D B64 R k:=by
 have key:∀ m R,R<B64^m→val B64 (fun k=>B64-1-D B64 R k) m=cpl R m:=by
  intro m;induction m with
  | zero=>intro R hR;simp [val,cpl]
  | succ m ih =>
    intro R hR;have hp:0<B64^m:=Nat.pow_pos B64_pos;have hl:=D_lt B64_pos R m;have hm:=Nat.mod_lt R hp
    have e:val B64 (fun k=>B64-1-D B64 R k) m=val B64 (fun k=>B64-1-D B64 (R%B64^m) k) m:=by
     refine val_congr fun i hi=>?_
     have h1:=Nat.div_add_mod R (B64^m);have h2:=D_low (P:=R%B64^m) (Z:=R / B64^m) B64_pos hi;have e3:R%B64^m+B64^m*(R / B64^m)=R:=om;rw [e3] at h2;rw [h2]
    rw [val_succ,e,ih _ hm]
    have hd:R=R%B64^m+B64^m*D B64 R m:=by
     have:=mod_succ B64 R m;rw [Nat.mod_eq_of_lt hR] at this;exact this
    have hmul:(B64-1-D B64 R m)*B64^m=B64^(m+1)-B64^m-B64^m*D B64 R m:=by
     rw [Nat.sub_mul,Nat.sub_mul,Nat.one_mul,Nat.pow_succ,Nat.mul_comm B64,Nat.mul_comm (D B64 R m)]
    have hle:B64^m*D B64 R m+B64^m≤B64^(m+1):=by
     rw [Nat.pow_succ];have:=Nat.mul_le_mul_left (B64^m) hl;rw [Nat.mul_succ] at this;exact this
    unfold cpl;rw [hmul];omega
 intro k hk hR;have h:=D_of (b:=B64) (f:=fun k=>B64-1-D B64 R k) (n:=m) B64_pos (fun i _=>by have:=B64_pos;show B64-1-D B64 R i<B64;omega) (key m R hR);exact (h.2 k hk).symm
def sbF (f:Nat→Nat) (o U fac X k j:Nat):Nat:=if o≤j∧j<o+k then B64-1-D B64 (U+fac*X) (j-o) else f j
theorem take_words (x f r c:Nat) (hx:x<18446744073709551616) (hf:f<18446744073709551616) (hr:r<18446744073709551616) (hc:c<18446744073709551616) :
  (x*f%18446744073709551616+c) / 18446744073709551616≤1 ∧
  x*f / 18446744073709551616+(x*f%18446744073709551616+c) / 18446744073709551616<18446744073709551616 ∧
  x*f / 18446744073709551616+(x*f%18446744073709551616+c) / 18446744073709551616+(if r<(x*f%18446744073709551616+c)%18446744073709551616+0 then 1 else 0)=(18446744073709551615-r+x*f+c) / 18446744073709551616 ∧
  (r+18446744073709551616-(x*f%18446744073709551616+c)%18446744073709551616-0)%18446744073709551616=18446744073709551615-(18446744073709551615-r+x*f+c)%18446744073709551616:=by
 have h1:x*f≤18446744073709551615*18446744073709551615:=Nat.mul_le_mul om om;generalize x*f=p at *;refine ⟨om,om,?_,om⟩
 split<;>omega
theorem sub64_0 (x y d o:Nat) (hd:(x+18446744073709551616-y-0)%18446744073709551616=d) (ho:(if x<y+0 then 1 else 0)=o) (w:World) :
  (callFunc 188 #[.int .u64 (x:Int),.int .u64 (y:Int),.int .u64 0]).run prog w=.ok (.value (.tuple #[.int .u64 (d:Int),.int .u64 (o:Int)])) w :=
 sub64_fn x y 0 om w d o hd ho
theorem subtractMultiple_any (g o N n c:Nat) (f:Nat→Nat) (A:Option Addr) (m cx R X fac:Nat) (w:World) (hN:o+m≤N) (hn:n=m) (hc:n≤c) (hm:m≤1000000000) (hL:Lies w g N f) (hR:∀ i,i<m→f (o+i)=D B64 R i) (hRl:R<B64^m)
  (hX:Rd w .u64 A m (D B64 X)) (hne:0<m→∀ a,A=some a→a.block≠g) (hf:fac<18446744073709551616) :
  Calls prog 213 #[.slice (some ⟨g,o,none⟩) n c,.slice A m cx,.int .u64 (fac:Int)] w (RetAM w g N (sbF f o (cpl R m) fac X m) (car B64 (cpl R m) fac X m)):=by
 subst hn;have hcd:=fun k (hk:k<n)=>cpl_digit (R:=R) (m:=n) k hk hRl
 generalize cpl R n=U at *;have HCD:=hid hcd;have HX:=hid hX;have HN:=hid hne;have HRR:=hid hR;have HL:=hid hL;clear hX hne hR hL hcd hRl;go_enter Tryz.func213,Tryz.ntmps213;go_wp2
 go_loopw [7,14] (fun cy i wr=>∃ k:Nat,k≤n∧i=.int .i64 k∧cy=.int .u64 (car B64 U fac X k:Nat)∧Lies wr g N (sbF f o U fac X k)∧w.grownBy wr (some g)) (fun _ i _=>n-(intOf i).toNat)
 case atStart =>
  refine ⟨0,Nat.zero_le _,rfl,by rw [car_zero];rfl,HL.out.congr fun i hi=>?_,World.grownBy.refl _ _⟩;unfold sbF;rw [if_neg om]
 case round =>
  obtain ⟨k,hk,rfl,rfl,hlies,hg⟩:=hrel;by_cases hlt:k<n
  · have hxr:=(HX.out.grown hg (fun q hq a ha=>by injection hq with hq;subst hq;exact HN.out om a ha));obtain ⟨gx,ox,hA,hgx,hcx⟩:=hxr om;have hne2:gx≠g:=HN.out om _ hA;subst hA;have hxk:=hcx k hlt;have hcell:=hlies.cell (i:=o+k) om;have hfro:=hlies.frozen (o+k);have hval:sbF f o U fac X k (o+k)=D B64 R k:=by unfold sbF;rw [if_neg om,HRR.out k hlt]
    rw [hval] at hcell;clear hval hxr hcx;have hdx:=D64_lt X k;have hdr:=D64_lt R k;have hcl:=car_lt B64_pos (x:=fac) (by rw [B64_eq];exact hf) U X k;obtain ⟨hs1,hs2⟩:=car_step B64_pos U fac X k;rw [HCD.out k hlt] at hs1 hs2;obtain ⟨t1,t2,t3,t4⟩:=take_words (D B64 X k) fac (D B64 R k) (car B64 U fac X k) hdx hf hdr om;have hlo1:D B64 X k*fac%18446744073709551616<18446744073709551616:=Nat.mod_lt _ om;obtain ⟨hi,hhi⟩:∃ v,D B64 X k*fac / 18446744073709551616=v:=⟨_,rfl⟩
    obtain ⟨lo,hlo⟩:∃ v,D B64 X k*fac%18446744073709551616=v:=⟨_,rfl⟩
    rw [hhi,hlo] at t2 t3;rw [hlo] at t1 t4 hlo1;obtain ⟨s1,hs1'⟩:∃ v,(lo+car B64 U fac X k)%18446744073709551616=v:=⟨_,rfl⟩
    obtain ⟨o1,ho1⟩:∃ v,(lo+car B64 U fac X k) / 18446744073709551616=v:=⟨_,rfl⟩
    rw [ho1] at t1 t2 t3;rw [hs1'] at t3 t4;obtain ⟨s2,hs2'⟩:∃ v,(D B64 R k+18446744073709551616-s1-0)%18446744073709551616=v:=⟨_,rfl⟩
    obtain ⟨o2,ho2⟩:∃ v,(if D B64 R k<s1+0 then 1 else 0)=v:=⟨_,rfl⟩
    rw [ho2] at t3;rw [hs2'] at t4;have hm64:=fun W=>mul64_any (D B64 X k) fac hdx hf hi lo hhi hlo W
    have ha1:=add64_0 lo (car B64 U fac X k) s1 o1 hs1' ho1;have ha2:=sub64_0 (D B64 R k) s1 s2 o2 hs2' ho2;have hcar:hi+o1+o2=car B64 U fac X (k+1):=by rw [t3,←hs1,Nat.mul_comm fac];rfl
    have hdig:s2=B64-1-D B64 (U+fac*X) k:=by rw [t4,←hs2,Nat.mul_comm fac];rfl
    have hb2:hi+o1+o2<18446744073709551616:=by
     rw [hcar];have:=car_lt B64_pos (x:=fac) (by rw [B64_eq];exact hf) U X (k+1);omega
    have HM64:=hid hm64;have HDIG:=hid hdig;have HCAR:=hid hcar;have HL2:=hid hlies;have hk0:(0:Int)≤(k:Int):=om;have hk1:(k:Int)<(n:Int):=om;clear t3 t4 hs1 hs2 hm64 hdig hcar hhi hlo hs1' ho1 hs2' ho2 hlies;generalize car B64 U fac X k=cy at *;generalize D B64 X k=xk at *;generalize D B64 R k=rk at *;go_wp2_with fail
    refine (HM64.out _).mono ?_;rintro e w' ⟨rfl,rfl⟩;go_wp2
    go_roundw
    case rel =>
     refine ⟨k+1,om,by go_num,by rw [←HCAR.out];go_num,(HL2.out.set (o+k) s2).congr fun j hj=>?_,grown_set hg _ _⟩;unfold sbF;exact k70
    case measure=>simp [intOf]<;>omega
  · obtain rfl:k=n:=om;go_wp2
    go_ret
    exact ⟨rfl,hlies,hg⟩
theorem quietD {f:FuncId} {args:Array Value} {w:World} {n:Nat} {v:Value} (h:Calls prog f args (w.drewN n) fun e w'=>e=.returned v∧Drew (w.drewN n) w') :
 Calls prog f args (w.drewN n) fun e w''=>e=.returned v∧∃ m,w''=w.drewN m:=h.mono fun _ _ ⟨he,q,hm⟩=>⟨he,n+q,by rw [hm,World.drewN_drewN]⟩
theorem quietD2 {f:FuncId} {args:Array Value} {w:World} {a n:Nat} {v:Value} (h:Calls prog f args (w.drewN (a+n)) fun e w'=>e=.returned v∧Drew (w.drewN (a+n)) w') :
 Calls prog f args (w.drewN (a+n)) fun e w''=>e=.returned v∧∃ m,w''=w.drewN (a+m):=h.mono fun _ _ ⟨he,q,hm⟩=>⟨he,n+q,by rw [hm,World.drewN_drewN,Nat.add_assoc]⟩
def RetWd (w:World) (q:Nat) (e:Ending) (w':World):Prop:=e=.returned (.int .u64 (q:Int))∧Drew w w'
theorem guess_top (g o c h p d r2 v1 v0:Nat) (w:World) (hr2:w.cell? ⟨g,o+2,none⟩=some (.int .u64 (r2:Int)))
  (hv1:w.cell? ⟨h,p+1,none⟩=some (.int .u64 (v1:Int))) (hv0:w.cell? ⟨h,p,none⟩=some (.int .u64 (v0:Int))) (hge:v1≤r2) :
  Calls prog 212 #[.slice (some ⟨g,o,none⟩) 3 c,.slice (some ⟨h,p,none⟩) 2 d] w (RetWd w 18446744073709551615):=by
 have hged:decide ((v1:Int)≤(r2:Int))=true:=by simp;omega
 go_enter Tryz.func212,Tryz.ntmps212;go_wp2_with fail
 go_quiet (fail)
 go_wp2
 go_ret
 exact ⟨rfl,_,rfl⟩
theorem guess_low (g o c h p d r2 r1 r0 v1 v0:Nat) (w:World) (hr2:w.cell? ⟨g,o+2,none⟩=some (.int .u64 (r2:Int))) (hr1:w.cell? ⟨g,o+1,none⟩=some (.int .u64 (r1:Int))) (hr0:w.cell? ⟨g,o,none⟩=some (.int .u64 (r0:Int)))
  (hv1:w.cell? ⟨h,p+1,none⟩=some (.int .u64 (v1:Int))) (hv0:w.cell? ⟨h,p,none⟩=some (.int .u64 (v0:Int))) (hlt:r2<v1)
  (l1:r1<18446744073709551616) (l0:r0<18446744073709551616) (lv1:v1<18446744073709551616) (lv0:v0<18446744073709551616) (hv:9223372036854775808≤v1) :
  Calls prog 212 #[.slice (some ⟨g,o,none⟩) 3 c,.slice (some ⟨h,p,none⟩) 2 d] w (RetWd w (((r2*B64+r1)*B64+r0) / (v1*B64+v0))):=by
 have hB:=B64_eq;have hged:decide ((v1:Int)≤(r2:Int))=false:=by simp;omega
 obtain ⟨u,hu⟩:∃ u,r2*B64+r1=u:=⟨_,rfl⟩
 have huv:u<v1*B64:=by
  have:(r2+1)*B64≤v1*B64:=Nat.mul_le_mul_right _ hlt;rw [Nat.add_mul,Nat.one_mul] at this;omega
 obtain ⟨g1,g2,g3⟩:=half_start (b:=B64) (y1:=v1) (y0:=v0) (u:=u) (d:=r0) om om om om om om;have hY0:0<v1*B64+v0:=om;rw [hu];obtain ⟨q,hq⟩:∃ q,(u*B64+r0) / (v1*B64+v0)=q:=⟨_,rfl⟩
 rw [hq] at g1 g3 ⊢;have hv1p:0<v1:=om;obtain ⟨Qa,eQa⟩:∃ Q,u / v1=Q:=⟨_,rfl⟩
 obtain ⟨Ra,eRa⟩:∃ R,u%v1=R:=⟨_,rfl⟩
 have sa:Qa*v1+Ra=u:=by have h:=Nat.div_add_mod u v1;rw [eQa,eRa,Nat.mul_comm] at h;exact h
 have lRa:Ra<v1:=by rw [←eRa];exact Nat.mod_lt _ hv1p
 have lQa:Qa<B64:=by rw [←eQa,Nat.div_lt_iff_lt_mul hv1p,Nat.mul_comm];exact huv
 rw [eQa] at g1;have hdv:=fun W=>div64_any r2 r1 v1 lv1 l1 hlt W
 rw [←B64_eq,hu,eQa,eRa] at hdv;have HDV:=hid hdv;have SA:=hid sa;have G1:=hid g1;have HQ:=hid hq;have hvB:B64≤2*v1:=om;have HY0:=hid hY0;have HUV:=hid (show u<v1*B64+v0 by omega);have hQaB:Qa≤18446744073709551615:=om;have hRaB:Ra≤18446744073709551615:=om;have HBB:=hid hB;have HVB:=hid hvB;clear hdv sa g1 hq hu eQa eRa huv hY0 g2 g3 hB lQa lRa hvB;go_enter Tryz.func212,Tryz.ntmps212;go_wp2_with fail
 go_quiet (fail)
 go_wp2_with fail
 go_quiet ((go_at_call 211;first | exact quietD (HDV.out _) | exact quietD2 (HDV.out _)))
 go_wp2_with fail
 have hgn:decide (v1≤r2)=false:=by simp;omega
 rw [hgn];go_loopw [7,8] (fun a l wr=>∃ Q R:Nat,a=.int .u64 (Q:Int)∧l=.int .u64 (R:Int)∧Hid (Q*v1+R=u)∧Hid (q≤Q)∧Q≤18446744073709551615∧R≤18446744073709551615∧Drew w wr) (fun a _ _=>(intOf a).toNat)
 case atStart=>exact ⟨Qa,Ra,rfl,rfl,SA,G1,hQaB,hRaB,((Drew.refl w).drewN _).drewN _⟩
 case round =>
  obtain ⟨Q,R,rfl,rfl,HE,HQ2,hQ,hR,hdr⟩:=hrel;have hr0w:=(hdr.cell ⟨g,o,none⟩).trans hr0;have hpb:Q*v0≤18446744073709551615*18446744073709551615:=Nat.mul_le_mul hQ om;obtain ⟨P,hP⟩:∃ P,Q*v0=P:=⟨_,rfl⟩
  obtain ⟨hi,hhi⟩:∃ v,Q*v0 / 18446744073709551616=v:=⟨_,rfl⟩
  obtain ⟨lo,hlo⟩:∃ v,Q*v0%18446744073709551616=v:=⟨_,rfl⟩
  have HM:=hid (fun W=>mul64_any Q v0 om lv0 hi lo hhi hlo W);rw [hP] at hhi hlo hpb;have hPs:P=hi*18446744073709551616+lo:=om;have llo:lo<18446744073709551616:=om;by_cases ht:P≤B64*R+r0
  · have hfin:=half_done (b:=B64) (y1:=v1) (y0:=v0) (u:=u) (d:=r0) (Q:=Q) (R:=R) HY0.out HE.out (by rw [hP];exact ht) (by rw [HQ.out];exact HQ2.out);rw [HQ.out] at hfin;have HF:=hid hfin;rw [B64_eq,hPs] at ht;clear hfin hPs hhi hlo hpb hP;by_cases hlt1:hi<R
    · clear ht;exact k58
    · obtain rfl:hi=R:=om;have hle:lo≤r0:=om;have hbl:decide ((hi:Int)<(hi:Int))=false:=by simp
      have hbe:((hi:Int)==(hi:Int))=true:=by simp
      have hbd:decide ((lo:Int)≤(r0:Int))=true:=by simp;omega
      clear ht hlt1;exact k58
  · have hless:=half_more (b:=B64) (y1:=v1) (y0:=v0) (u:=u) (d:=r0) (Q:=Q) (R:=R) (by have:=HBB.out;omega) HVB.out (by have:=HBB.out;omega) HUV.out (by have:=HBB.out;omega) HE.out (.inr (by rw [hP];omega));rw [HQ.out] at hless;have hbr:=fun (h1:Q-1≤B64) (h2:B64≤R+v1)=>half_done (b:=B64) (y1:=v1) (y0:=v0) (u:=u) (d:=r0) (Q:=Q-1) (R:=R+v1) HY0.out (by have h:=HE.out;obtain ⟨m,hm⟩:∃ m,Q=m+1:=⟨Q-1,om⟩;rw [hm,Nat.add_sub_cancel];rw [hm,Nat.add_mul] at h;omega) (half_break (by have:=HBB.out;omega) h1 h2) (by rw [HQ.out];omega)
    rw [HQ.out] at hbr
    have hne1:Hid ((Q-1)*v1+(R+v1)=u):=by
     exact k51
    have hq2:Hid (q≤Q-1):=by show _≤_;omega
    have hQ1:Q-1≤18446744073709551615:=om;have hQm:Q-1<Q:=om;have v1e:IntKind.u64.wrap ((Q:Int)-1)=((Q-1:Nat):Int):=wrap_u _ _ om;obtain ⟨Qn,hQn⟩:∃ Qn,Q-1=Qn:=⟨_,rfl⟩
    obtain ⟨Rs,hRs⟩:∃ s,(R+v1)%18446744073709551616=s:=⟨_,rfl⟩
    obtain ⟨Ro,hRo⟩:∃ s,(R+v1) / 18446744073709551616=s:=⟨_,rfl⟩
    have ha:=add64_0 R v1 Rs Ro hRs hRo;rw [hQn] at hbr hne1 hq2 v1e hQ1 hQm;have HBR:=hid hbr;have hcase:Hid (Ro=0→Rs=R+v1):=by show _→_;intro h;omega
    have hcase2:Hid (Ro≠0→B64≤R+v1):=by show _→_;intro h;rw [B64_eq];omega
    have hRsb:Rs≤18446744073709551615:=om;rw [B64_eq,hPs] at ht;clear hbr hless hPs hhi hlo hpb hP hQn hRs hRo
    have htests:R≤hi∧(((hi:Int)==(R:Int))=false∨(hi=R∧r0<lo)):=by
     refine ⟨om,?_⟩;by_cases h:hi=R
     · exact .inr ⟨h,om⟩
     · exact .inl (by simp;omega)
    obtain ⟨tb1,tb2⟩:=htests;have HT:=hid ht;clear ht;rcases tb2 with tb2 | ⟨rfl,tb2⟩
    all_goals
     try (have tb3:((hi:Int)==(hi:Int))=true:=by simp)
     by_cases hov:Ro=0
     · have hov0:((Ro:Int) != 0)=false:=by simp;omega
       have hRR:=hcase.out hov;rw [←hRR] at hne1;clear hRR hov;go_wp2_with fail
       refine (HM.out _).mono ?_;rintro e w' ⟨rfl,rfl⟩;go_wp2
       go_roundw
       case rel=>exact ⟨Qn,Rs,rfl,rfl,hne1,hq2,hQ1,hRsb,hdr⟩
       case measure=>simp [intOf]<;>omega
     · have hov0:((Ro:Int) != 0)=true:=by simp;omega
       have HF:=hid (HBR.out (by have:=HBB.out;omega) (hcase2.out hov));exact k58
def guess (r2 r1 r0 v1 v0:Nat):Nat:=if v1≤r2 then B64-1 else ((r2*B64+r1)*B64+r0) / (v1*B64+v0)
theorem guess_any (g o c h p d L M r2 r1 r0 v1 v0:Nat) (w:World) (hL:L=3) (hM:M=2) (hr2:w.cell? ⟨g,o+2,none⟩=some (.int .u64 (r2:Int))) (hr1:w.cell? ⟨g,o+1,none⟩=some (.int .u64 (r1:Int))) (hr0:w.cell? ⟨g,o,none⟩=some (.int .u64 (r0:Int)))
  (hv1:w.cell? ⟨h,p+1,none⟩=some (.int .u64 (v1:Int))) (hv0:w.cell? ⟨h,p,none⟩=some (.int .u64 (v0:Int)))
  (l1:r1<18446744073709551616) (l0:r0<18446744073709551616) (lv1:v1<18446744073709551616) (lv0:v0<18446744073709551616) (hv:9223372036854775808≤v1) :
  Calls prog 212 #[.slice (some ⟨g,o,none⟩) L c,.slice (some ⟨h,p,none⟩) M d] w (RetWd w (guess r2 r1 r0 v1 v0)):=by
 subst hL;subst hM;unfold guess;by_cases hge:v1≤r2
 · rw [if_pos hge];exact guess_top g o c h p d r2 v1 v0 w hr2 hv1 hv0 hge
 · rw [if_neg hge];exact guess_low g o c h p d r2 r1 r0 v1 v0 w hr2 hr1 hr0 hv1 hv0 om l1 l0 lv1 lv0 hv
theorem split3 {b V m:Nat} (hV:V<b^(m+3)):V=((D b V (m+2)*b+D b V (m+1))*b+D b V m)*b^m+V%b^m:=by
 have h0:=Nat.div_add_mod V (b^m);have h1:=div_D b V m;have h2:=div_D b V (m+1);have h3:=div_D b V (m+2);have hz:V / b^(m+2+1)=0:=Nat.div_eq_of_lt hV;rw [hz,Nat.mul_zero,Nat.zero_add] at h3;rw [h3] at h2;rw [h2] at h1;rw [h1] at h0;rw [Nat.mul_comm b (D b V (m+2)),Nat.mul_comm b (D b V (m+2)*b+D b V (m+1)),Nat.mul_comm (b^m)] at h0;exact h0.symm
theorem split2 {b V m:Nat} (hV:V<b^(m+2)):V=(D b V (m+1)*b+D b V m)*b^m+V%b^m:=by
 have h0:=Nat.div_add_mod V (b^m);have h1:=div_D b V m;have h2:=div_D b V (m+1);have hz:V / b^(m+1+1)=0:=Nat.div_eq_of_lt hV;rw [hz,Nat.mul_zero,Nat.zero_add] at h2;rw [h2] at h1;rw [h1] at h0;rw [Nat.mul_comm b (D b V (m+1)),Nat.mul_comm (b^m)] at h0;exact h0.symm
theorem split1 {b V m:Nat} (hV:V<b^(m+1)):V=D b V m*b^m+V%b^m:=by
 have h0:=Nat.div_add_mod V (b^m);have h1:=div_D b V m;have hz:V / b^(m+1)=0:=Nat.div_eq_of_lt hV;rw [hz,Nat.mul_zero,Nat.zero_add] at h1;rw [h1,Nat.mul_comm (b^m)] at h0;exact h0.symm
theorem guess_ok {W Y m:Nat} (hW:W<B64^(m+3)) (hY:Y<B64^(m+2)) (hYt:B64^(m+2)≤2*Y) (hWY:W<Y*B64) :
  9223372036854775808≤D B64 Y (m+1)∧W / Y≤guess (D B64 W (m+2)) (D B64 W (m+1)) (D B64 W m) (D B64 Y (m+1)) (D B64 Y m) ∧
  guess (D B64 W (m+2)) (D B64 W (m+1)) (D B64 W m) (D B64 Y (m+1)) (D B64 Y m)≤W / Y+1∧W / Y<B64∧guess (D B64 W (m+2)) (D B64 W (m+1)) (D B64 W m) (D B64 Y (m+1)) (D B64 Y m)<B64:=by
 have hp:0<B64^m:=Nat.pow_pos B64_pos;have hp1:0<B64^(m+1):=Nat.pow_pos B64_pos;have hB:=B64_eq;have s3:=split3 hW;have s2:=split2 hY;have s1:=split1 (m:=m+1) hY;have hWl:=Nat.mod_lt W hp;have hYl:=Nat.mod_lt Y hp;have hYl1:=Nat.mod_lt Y hp1;have t1:=split1 (m:=m+2) hW
 have hv:B64≤2*D B64 Y (m+1):=by
  have h1:B64*B64^(m+1)<(2*D B64 Y (m+1)+2)*B64^(m+1):=by
   have:B64^(m+2)=B64*B64^(m+1):=Nat.pow_succ';rw [Nat.add_mul,Nat.mul_assoc];omega
  have h2:=Nat.lt_of_mul_lt_mul_right h1;omega
 have hYY:B64*B64≤2*(D B64 Y (m+1)*B64+D B64 Y m):=by
  have h1:B64*B64≤2*D B64 Y (m+1)*B64:=Nat.mul_le_mul_right _ hv;rw [Nat.mul_assoc] at h1;omega
 have key:=knuth (b:=B64) (P:=B64^m) (z:=(D B64 W (m+2)*B64+D B64 W (m+1))*B64+D B64 W m) (zl:=W%B64^m) (y:=D B64 Y (m+1)*B64+D B64 Y m) (yl:=Y%B64^m) om hp hWl hYl hYY (by rw [←s3,←s2];exact hWY);rw [←s3,←s2] at key;obtain ⟨k1,k2,k3⟩:=key;refine ⟨om,?_⟩;unfold guess;by_cases hge:D B64 Y (m+1)≤D B64 W (m+2)
 · rw [if_pos hge];have e:B64^(m+2)=B64^(m+1)*B64:=by rw [←Nat.pow_succ]
   rw [e] at t1;have kt:=knuth_top (b:=B64) (P:=B64^(m+1)) (r2:=D B64 W (m+2)) (rl:=W%(B64^(m+1)*B64)) (v1:=D B64 Y (m+1)) (vl:=Y%B64^(m+1)) om hp1 hv hYl1 hge (by rw [←t1,←s1];exact hWY);rw [←t1,←s1] at kt;exact ⟨kt.1,kt.2,k3,om⟩
 · rw [if_neg hge];refine ⟨k1,k2,k3,?_⟩;have hr1:=D_lt B64_pos W (m+1);have hr0:=D_lt B64_pos W m;rw [Nat.div_lt_iff_lt_mul (by have:1*B64≤D B64 Y (m+1)*B64:=Nat.mul_le_mul_right _ om;omega)];have h1:(D B64 W (m+2)+1)*B64≤D B64 Y (m+1)*B64:=Nat.mul_le_mul_right _ om;rw [Nat.add_mul,Nat.one_mul] at h1;have h2:(D B64 W (m+2)*B64+D B64 W (m+1)+1)*B64≤(D B64 Y (m+1)*B64+D B64 Y m)*B64:=Nat.mul_le_mul_right _ om;rw [Nat.add_mul _ 1,Nat.one_mul] at h2;rw [Nat.mul_comm B64];omega
theorem sub_left {R Y q n:Nat} (hR:R<B64^n) (hY:Y<B64^n):∃ N,N<B64^n∧(∀ i,i<n→B64-1-D B64 (cpl R n+q*Y) i=D B64 N i)∧R+car B64 (cpl R n) q Y n*B64^n=N+q*Y:=by
 have hp:0<B64^n:=Nat.pow_pos B64_pos;have hm:=Nat.mod_lt (cpl R n+q*Y) hp;have hd:=Nat.div_add_mod (cpl R n+q*Y) (B64^n);refine ⟨cpl ((cpl R n+q*Y)%B64^n) n,cpl_lt,fun i hi=>?_,?_⟩
 · rw [cpl_digit i hi hm];have h2:=D_low (P:=(cpl R n+q*Y)%B64^n) (Z:=(cpl R n+q*Y) / B64^n) B64_pos hi;have e:(cpl R n+q*Y)%B64^n+B64^n*((cpl R n+q*Y) / B64^n)=cpl R n+q*Y:=om;rw [e] at h2;rw [h2]
 · rw [car_end cpl_lt hY,Nat.mul_comm _ (B64^n)];generalize (cpl R n+q*Y) / B64^n=c at *;generalize (cpl R n+q*Y)%B64^n=r at *;unfold cpl at *;omega
def wnF (f:Nat→Nat) (o n R j:Nat):Nat:=if o≤j∧j≤o+n then D B64 R (j-o) else f j
def RetQd (w:World) (g N:Nat) (F:Nat→Nat) (q:Nat) (e:Ending) (w':World):Prop:=e=.returned (.int .u64 (q:Int))∧Lies w' g N F∧w.grownBy w' (some g)
theorem grown_drew {a w w':World} {row:Option Nat} (h:a.grownBy w row) (hd:Drew w w'):a.grownBy w' row:=by
 obtain ⟨q,rfl⟩:=hd;exact ⟨h.os,h.tape,h.output,h.size,h.block⟩
theorem Lies.drew {w w':World} {g n:Nat} {f:Nat→Nat} (h:Lies w g n f) (hd:Drew w w'):Lies w' g n f:=by
 obtain ⟨q,rfl⟩:=hd;exact h
theorem Rd.drewD {w w':World} {K:IntKind} {A:Option Addr} {n:Nat} {f:Nat→Nat} (h:Rd w K A n f) (hd:Drew w w'):Rd w' K A n f:=by
 obtain ⟨q,rfl⟩:=hd;exact h
theorem Drew.one (w:World):Drew w w.drew:=⟨1,rfl⟩
theorem add_back (g o N n c:Nat) (f:Nat→Nat) (A:Option Addr) (m cx U X R:Nat) (w:World) (hN:o+m≤N) (hn:n=m) (hc:n≤c) (hm:m≤1000000000) (hL:Lies w g N f) (hU:∀ i,i<m→f (o+i)=D B64 U i)
  (hX:Rd w .u64 A m (D B64 X)) (hne:0<m→∀ a,A=some a→a.block≠g) (hUl:U<B64^m) (hXl:X<B64^m) (hR:R<B64^m) (he:U+X=R+B64^m) :
  Calls prog 180 #[.slice (some ⟨g,o,none⟩) n c,.slice A m cx,.int .u64 1] w (fun e w'=>e=.returned (.int .u64 1)∧Lies w' g N (fun j=>if o≤j∧j<o+m then D B64 R (j-o) else f j)∧w.grownBy w' (some g)):=by
 have h:=addMultiple_any g o N n c f A m cx U X 1 w hN hn hc hm hL hU hX hne om;have hp:0<B64^m:=Nat.pow_pos B64_pos
 have hcar:car B64 U 1 X m=1:=by
  rw [car_end hUl hXl,Nat.one_mul,he,Nat.add_div_right _ hp,Nat.div_eq_of_lt hR]
 refine h.mono fun e w' ⟨h1,h2,h3⟩=>⟨by rw [h1,hcar];rfl,h2.congr fun j hj=>?_,h3⟩
 unfold amF;subst hn;by_cases e2:o≤j∧j<o+n
 · rw [if_pos e2,if_pos e2,Nat.one_mul,he];have:=D_low (P:=R) (Z:=1) B64_pos (show j-o<n by omega);rw [Nat.mul_one] at this;exact this
 · rw [if_neg e2,if_neg e2]
theorem quotientDigit_any (g o N m c:Nat) (f:Nat→Nat) (A:Option Addr) (d W Y L M:Nat) (w:World) (hL:L=m+3) (hM:M=m+2) (hm:m≤100000000) (hN:o+m+3≤N) (hc:m+3≤c) (hd:m+2≤d) (hlies:Lies w g N f) (hwin:∀ i,i<m+3→f (o+i)=D B64 W i) (hW:W<B64^(m+3))
  (hr:Rd w .u64 A (m+2) (D B64 Y)) (hY:Y<B64^(m+2)) (hYt:B64^(m+2)≤2*Y) (hWY:W<Y*B64) (hne:∀ a,A=some a→a.block≠g) :
  Calls prog 186 #[.slice (some ⟨g,o,none⟩) L c,.slice A M d] w (RetQd w g N (wnF f o (m+2) (W%Y)) (W / Y)):=by
 subst hL;subst hM;obtain ⟨gv,g1,g2,g3,g4⟩:=guess_ok hW hY hYt hWY;obtain ⟨q,hq⟩:∃ q,guess (D B64 W (m+2)) (D B64 W (m+1)) (D B64 W m) (D B64 Y (m+1)) (D B64 Y m)=q:=⟨_,rfl⟩
 rw [hq] at g1 g2 g4;obtain ⟨h,p,hA,hh,hcy⟩:=hr om;have hhg:h≠g:=hne _ hA;subst hA;have hw2:w.cell? ⟨g,o+m+2,none⟩=some (.int .u64 (D B64 W (m+2):Int)):=by have:=hlies.cell (i:=o+(m+2)) om;rw [hwin (m+2) om] at this;exact this
 have hw1:w.cell? ⟨g,o+m+1,none⟩=some (.int .u64 (D B64 W (m+1):Int)):=by have:=hlies.cell (i:=o+(m+1)) om;rw [hwin (m+1) om] at this;exact this
 have hw0:w.cell? ⟨g,o+m,none⟩=some (.int .u64 (D B64 W m:Int)):=by have:=hlies.cell (i:=o+m) om;rw [hwin m om] at this;exact this
 have hy1:w.cell? ⟨h,p+m+1,none⟩=some (.int .u64 (D B64 Y (m+1):Int)):=hcy (m+1) om;have hy0:w.cell? ⟨h,p+m,none⟩=some (.int .u64 (D B64 Y m:Int)):=hcy m om;have hgs:=fun V (hV:Drew w V) (L M:Nat) (hL:L=3) (hM:M=2)=>guess_any g (o+m) (c-m) h (p+m) (d-m) L M _ _ _ _ _ V hL hM ((hV.cell _).trans hw2) ((hV.cell _).trans hw1) ((hV.cell _).trans hw0) ((hV.cell _).trans hy1) ((hV.cell _).trans hy0) (D64_lt _ _) (D64_lt _ _) (D64_lt _ _) (D64_lt _ _) gv
 rw [hq] at hgs;have hnt:=split1 (m:=m+2) hW;have hRl:=Nat.mod_lt W (show 0<B64^(m+2) from Nat.pow_pos B64_pos)
 have hRd:∀ i,i<m+2→f (o+i)=D B64 (W%B64^(m+2)) i:=fun i hi=>by
  rw [hwin i om];have h1:=Nat.div_add_mod W (B64^(m+2));have h2:=D_low (P:=W%B64^(m+2)) (Z:=W / B64^(m+2)) B64_pos hi;rw [←h2]
  congr 1
  omega
 obtain ⟨N1,hN1,hN1d,hN1e⟩:=sub_left (q:=q) hRl hY;obtain ⟨cc,hcc⟩:∃ cc,car B64 (cpl (W%B64^(m+2)) (m+2)) q Y (m+2)=cc:=⟨_,rfl⟩
 rw [hcc] at hN1e
 have hccb:cc≤18446744073709551615:=by
  rw [←hcc];have:=car_lt B64_pos (x:=q) g4 (cpl (W%B64^(m+2)) (m+2)) Y (m+2);rw [B64_eq] at g4;omega
 obtain ⟨t,ht⟩:∃ t,D B64 W (m+2)=t:=⟨_,rfl⟩
 rw [ht] at hnt hw2;have htb:t<18446744073709551616:=by rw [←ht];exact D64_lt _ _
 have hmain:W+cc*B64^(m+2)=N1+q*Y+t*B64^(m+2):=om
 have hY0:0<Y:=by
  rcases Nat.eq_zero_or_pos Y with h0 | h0
  · subst h0;rw [Nat.zero_mul] at hWY;omega
  · exact h0
 have hRW:W%Y<B64^(m+2):=Nat.lt_of_lt_of_le (Nat.mod_lt _ hY0) (Nat.le_of_lt hY);have hsm:=fun V (hV:Drew w V) (L:Nat) (hL:L=m+2)=>subtractMultiple_any g o N L c f (some ⟨h,p,none⟩) (m+2) d (W%B64^(m+2)) Y q V om hL om om (hlies.drew hV) hRd hRl (hr.drewD hV) (fun _ a ha=>by injection ha with ha;subst ha;exact hhg) (by rw [←B64_eq];exact g4)
 rw [hcc] at hsm;have hqs:W / Y=q∨W / Y+1=q:=om;have HGS:=hid hgs;have HSM:=hid hsm;have HN1:=hid hN1;have HN1D:=hid hN1d;have HMAIN:=hid hmain;have HWIN:=hid hwin;have HT:=hid ht;have HRW:=hid hRW;have HCY:=hid hcy;have HY:=hid hY;have hqb:q≤18446744073709551615:=by rw [B64_eq] at g4;omega
 have i1:(0:Int)≤(m:Int):=om;have i2:¬(c=m):=om;have i3:¬(d=m):=om;clear hgs hsm hN1 hN1d hmain hwin ht hRW hcy hr hw1 hw0 hy1 hy0 hnt hRl hRd hN1e hcc hq g1 g2 g3 g4 hW hYt hWY gv hlies hY;rcases hqs with hqe | hqe
 · have hdr:=digit_right (Nat.le_of_lt HY.out) hqe hY0 HN1.out HMAIN.out;obtain ⟨rfl,hNW⟩:=hdr;have HNW:=hid hNW;have HQE:=hid hqe;clear hNW hqe;go_enter Tryz.func186,Tryz.ntmps186;go_wp2_with fail
   have sa:IntKind.i64.wrap ((m:Int)+2-2)=(m:Int):=by rw [IntWalk.i64_in _ om];omega
   have sb:(m:Int)≤(m:Int)+2:=om;have sc:(m:Int)≤(m:Int)+2+1:=om;go_quiet ((go_at_call 212;first | exact quietD (HGS.out _ ⟨_,rfl⟩ _ _ om om) | exact quietD2 (HGS.out _ ⟨_,rfl⟩ _ _ om om)))
   go_wp2_with fail
   refine (HSM.out _ ⟨_,rfl⟩ _ rfl).mono ?_;rintro e w3 ⟨rfl,hl3,hg3⟩;have hc3:=hl3.cell (i:=o+(m+2)) om;have hf3:=hl3.frozen (o+(m+2))
   have hv3:sbF f o (cpl (W%B64^(m+2)) (m+2)) q Y (m+2) (o+(m+2))=cc:=by
    unfold sbF;rw [if_neg om,HWIN.out (m+2) om];exact HT.out
   rw [hv3] at hc3;have hg3':w.grownBy w3 (some g):=⟨hg3.os,hg3.tape,hg3.output,hg3.size,hg3.block⟩;have HL3:=hid hl3;have HG3:=hid hg3';clear hl3 hg3 hv3 hg3';have hgt:¬cc<cc:=Nat.lt_irrefl _;go_wp2
   go_ret
   refine ⟨by rw [HQE.out];rfl,(HL3.out.set (o+(m+2)) 0).congr fun j hj=>?_,grown_set HG3.out _ _⟩;unfold wnF;by_cases e1:j=o+(m+2)
   · exact k107
   · rw [if_neg e1];unfold sbF;by_cases e2:o≤j∧j<o+(m+2)
     · rw [if_pos e2,if_pos om,HN1D.out _ om,HNW.out]
     · rw [if_neg e2,if_neg om]
 · have hdr:=digit_wrong (Nat.le_of_lt HY.out) hqe hY0 HN1.out HMAIN.out;obtain ⟨rfl,hNW⟩:=hdr;have HNW:=hid hNW;have HQE:=hid hqe;clear hNW hqe;go_enter Tryz.func186,Tryz.ntmps186;go_wp2_with fail
   have sa:IntKind.i64.wrap ((m:Int)+2-2)=(m:Int):=by rw [IntWalk.i64_in _ om];omega
   have sb:(m:Int)≤(m:Int)+2:=om;have sc:(m:Int)≤(m:Int)+2+1:=om;go_quiet ((go_at_call 212;first | exact quietD (HGS.out _ ⟨_,rfl⟩ _ _ om om) | exact quietD2 (HGS.out _ ⟨_,rfl⟩ _ _ om om)))
   go_wp2_with fail
   refine (HSM.out _ ⟨_,rfl⟩ _ rfl).mono ?_;rintro e w3 ⟨rfl,hl3,hg3⟩;have hc3:=hl3.cell (i:=o+(m+2)) om;have hf3:=hl3.frozen (o+(m+2))
   have hv3:sbF f o (cpl (W%B64^(m+2)) (m+2)) q Y (m+2) (o+(m+2))=t:=by
    unfold sbF;rw [if_neg om,HWIN.out (m+2) om];exact HT.out
   rw [hv3] at hc3;have hg3':w.grownBy w3 (some g):=⟨hg3.os,hg3.tape,hg3.output,hg3.size,hg3.block⟩;have HL3:=hid hl3;have HG3:=hid hg3';clear hl3 hg3 hv3 hg3';have hgt:t<t+1:=Nat.lt_succ_self _;have hw8:IntKind.u64.wrap ((t:Int)-((t:Int)+1))=18446744073709551615:=by rw [IntKind.wrap_u64];omega
   obtain ⟨qn,hqn⟩:∃ qn,W / Y=qn:=⟨_,rfl⟩
   have hwq:IntKind.u64.wrap ((q:Int)-1)=(qn:Int):=wrap_u _ _ (by have:=HQE.out;omega);have hf4:Lies (w3.setCell ⟨g,o+(m+2),none⟩ (.int .u64 18446744073709551615)) g N _:=HL3.out.set (o+(m+2)) 18446744073709551615;have hab:=fun V (hV:Drew (w3.setCell ⟨g,o+(m+2),none⟩ (.int .u64 18446744073709551615)) V) (L:Nat) (hL:L=m+2)=>add_back g o N L c _ (some ⟨h,p,none⟩) (m+2) d N1 Y (W%Y) V om hL om om (hf4.drew hV) (fun i hi=>by show (if o+i=o+(m+2) then _ else _)=_;rw [if_neg om];unfold sbF;rw [if_pos om,Nat.add_sub_cancel_left];exact HN1D.out i hi) (Rd.drewD (fun _=>⟨h,p,rfl,by have:=HG3.out.size;show h<_;simp [World.setCell];omega,fun i hi=>by rw [World.cell?_setCell_other _ _ _ _ (by intro e;injection e with e1;exact hhg e1.symm)];exact (World.cell?_of_block (w:=w) (a:=⟨h,p+i,none⟩) (HG3.out.block h hh (fun e=>hhg (by injection e)))).trans (HCY.out i hi)⟩) hV) (fun _ a ha=>by injection ha with ha;subst ha;exact hhg) HN1.out HY.out HRW.out HNW.out
   have HAB:=hid hab;have HF4:=hid hf4;have HQN:=hid hqn;clear hab hf4 hqn;go_wp2_with fail
   have h18:IntKind.u64.wrap (18446744073709551615+1)=0:=by decide
   have hcW:(w3.setCell ⟨g,o+(m+2),none⟩ (.int .u64 18446744073709551615)).cell? ⟨g,o+(m+2),none⟩=some (.int .u64 18446744073709551615):=by simp [go_sem,hc3]
   have k1:(0:Int)≤(m:Int)+2:=om;have k2:(m:Int)+2<(m:Int)+3:=om;have k3:((m:Int)+2).toNat=m+2:=om;have k4:(m:Int)+2≤(c:Int):=om;have k5:(m:Int)+2<((m+3:Nat):Int):=om;have k6:(m:Int)+2<(m:Int)+2+1:=om;go_region_law (go_simp;go_at_call 180;refine (HAB.out _ ?_ _ ?_).mono ?_;(exact Drew.one _);(rfl);rintro e w6 ⟨rfl,hl6,hg6⟩;have hc6:=hl6.cell (i:=o+(m+2)) om;have hf6:=hl6.frozen (o+(m+2)))
   all_goals
    go_wp2
    go_ret
    refine ⟨by rw [HQN.out];rfl,(hl6.set (o+(m+2)) 0).congr fun j hj=>?_,grown_set (grown_none (grown_drew (grown_set HG3.out _ _) (Drew.one _)) hg6 (.inr (.inl rfl))) _ _⟩;unfold wnF;by_cases e1:j=o+(m+2)
    · exact k107
    · rw [if_neg e1];by_cases e2:o≤j∧j<o+(m+2)
      · rw [if_pos e2,if_pos om]
      · first
        | (rw [if_neg e2,if_neg e1];unfold sbF;rw [if_neg e2,if_neg om])
        | (rw [if_neg e2];unfold sbF;rw [if_neg e2,if_neg om])
end Go.Proofs.YtpnokfgplnmjpaaGreatDoor
