import Derived.Test.YtdbhahiieokplaaGreatDoorGENFr
import Derived.Test.YtdbhahiieokplaaGreatDoorGRefLx
import Derived.Test.YtdbhahiieokplaaGreatDoorGRefGx
import Derived.Test.YtdbhahiieokplaaGreatDoorGEOC
import Derived.Test.YtdbhahiieokplaaGreatDoorGRNCx
import Derived.Test.YtdbhahiieokplaaGreatDoorGRefAx
import Derived.Test.YtdbhahiieokplaaGreatDoorGShelf
import Derived.Test.YtdbhahiieokplaaGreatDoorGRNA
import Derived.Test.YtdbhahiieokplaaGreatDoorGENE
import Derived.Test.YtdbhahiieokplaaGreatDoorGRefL
import Derived.Test.YtdbhahiieokplaaGreatDoorGRefG
import Derived.Test.YtdbhahiieokplaaGreatDoorGENQ
import Derived.Test.YtdbhahiieokplaaGreatDoorGENPr
set_option linter.unusedSimpArgs false
set_option linter.unusedVariables false

namespace Go.Proofs.YtdbhahiieokplaaGreatDoor
open Go.RowKit
attribute [local go_sem ↓] Go.wp_at_zero Go.wp_at_succ

theorem div_same (a b:Int):(a:Rat) / (b:Rat)=Rat.divInt a b:=(Rat.divInt_eq_div a b).symm
end Go.Proofs.YtdbhahiieokplaaGreatDoor
set_option linter.unusedSimpArgs false
set_option linter.unusedVariables false

namespace Go.Proofs.YtdbhahiieokplaaGreatDoor
open Go.RowKit
attribute [local go_sem ↓] Go.wp_at_zero Go.wp_at_succ
theorem times_den5 (q:Rat):q*((q.den:Int):Rat)=(q.num:Rat):=by
 have h:=Rat.num_divInt_den q
 have e:Rat.divInt q.num q.den*Rat.divInt (q.den:Int) 1=Rat.divInt q.num 1:=by
  rw [Rat.divInt_mul_divInt,Rat.divInt_eq_divInt_iff (by have:=q.den_pos;omega) (by omega),Int.mul_one,Int.mul_one]
 rw [h] at e
 have e1:∀ z:Int,Rat.divInt z 1=(z:Rat):=fun z=>by
  rw [show (1:Int)=((1:Nat):Int) from rfl,Rat.divInt_ofNat]
  exact Rat.mkRat_one z
 rw [e1,e1] at e
 exact e
theorem fl_q (q:Rat):((q.num / (q.den:Int):Int):Rat)≤q∧q<((q.num / (q.den:Int):Int):Rat)+1:=by
 have hd:=den_pos q
 have ht:=times_den5 q
 have hdi:(0:Int)<(q.den:Int):=by have:=q.den_pos;omega
 obtain ⟨F,hF⟩:∃ F,q.num / (q.den:Int)=F:=⟨_,rfl⟩
 have h1:F*(q.den:Int)≤q.num:=by rw [←hF];exact Int.ediv_mul_le _ (by omega)
 have h2:q.num<(F+1)*(q.den:Int):=by rw [←hF];exact Int.lt_ediv_add_one_mul_self _ hdi
 have h1':=Rat.intCast_le_intCast.2 h1
 have h2':((q.num:Int):Rat)<(((F+1)*(q.den:Int):Int):Rat):=Rat.intCast_lt_intCast.2 h2
 rw [Rat.intCast_mul] at h1' h2'
 rw [show ((F+1:Int):Rat)=(F:Rat)+1 by rw [Rat.intCast_add];rfl] at h2'
 rw [hF]
 generalize ((q.den:Int):Rat)=D at *
 rw [←ht] at h1' h2'
 refine ⟨Rat.le_of_mul_le_mul_right h1' hd,?_⟩
 rcases Rat.le_total (a:=(F:Rat)+1) (b:=q) with h | h
 · have:=Rat.mul_le_mul_of_nonneg_right h (Rat.le_of_lt hd)
   grind
 · rcases Rat.le_iff_lt_or_eq.1 h with h | h
   · exact h
   · rw [h] at h2';grind
theorem int_of_lt {a b:Int} (h:(a:Rat)<(b:Rat)):a<b:=Rat.intCast_lt_intCast.1 h
theorem mk1_size {r:Rat} {n:Nat} (zr:Sz (n+1) r):Rz (n+1) (Sg.mkR 0 1 r):=by
 unfold Sg.mkR
 split
 · refine ⟨?_,Sz.zero n⟩
   show Sz (n+1) (0+1*Sg.rt r)
   rw [show 0+1*Sg.rt r=Sg.rt r by grind]
   exact zr.root
 · rw [if_neg (by decide +kernel)]
   refine ⟨Sz.zero n,?_⟩
   show Sz (n+1) (1*1*r)
   rw [show 1*1*r=r by grind]
   exact zr
end Go.Proofs.YtdbhahiieokplaaGreatDoor


namespace Go.Proofs.YtdbhahiieokplaaGreatDoor
open Go.RowKit
attribute [local go_sem ↓] Go.wp_at_zero Go.wp_at_succ
set_option maxHeartbeats 4000000 in
set_option maxRecDepth 100000 in
theorem pow2_g (n:Nat) (hn:n≤128) (w:World):Calls Tryz.prog 119 #[.int .i64 (n:Int)] w (RetZ w ((2^n:Nat):Int)):=by
 obtain ⟨a,ha⟩:∃ a,n / 8=a:=⟨_,rfl⟩
 obtain ⟨r,hr⟩:∃ r,n%8=r:=⟨_,rfl⟩
 have hr8:r<8:=by omega
 have HN:=Lib.hid (show n=8*a+r by omega)
 have q1:(n:Int) / 8=(a:Int):=by omega
 have q2:(n:Int).tmod 8=(r:Int):=by rw [Int.tmod_eq_emod_of_nonneg (by omega)];omega
 have q3:IntKind.i64.wrap (a:Int)=(a:Int):=IntWalk.i64_in _ (by omega)
 have n0:(0:Int)≤(n:Int):=by omega
 have n1:(n:Int)≤128:=by omega
 have hlt:(2:Nat)^r<256:=Nat.lt_of_lt_of_eq (Nat.pow_lt_pow_right (by decide) hr8) rfl
 have HRP:=Lib.hid (fun V=>Tryz.strings_Repeat ⟨#[0]⟩ a V (by omega) (by show 1*a≤_;omega))
 obtain ⟨v,hv⟩:∃ v:Nat,2^r=v:=⟨_,rfl⟩
 have hi:(2:Int)^r=(v:Int):=by rw [←hv];simp
 rw [hv] at hlt
 have HV:=Lib.hid hv
 have hu:IntKind.u8.wrap (v:Int)=(v:Int):=IntWalk.u8_in _ (by omega)
 have hrl:(Lib.repeatL [(0:UInt8)] a).length=a:=by rw [Lib.repeatL_length];simp
 obtain ⟨S2,hS2⟩:∃ S2:ByteArray,S2=⟨(Lib.repeatL [0] a).toArray⟩:=⟨_,rfl⟩
 have hc2:S2.size=a:=by rw [hS2];simpa [ByteArray.size] using hrl
 have HRP2:Hid (∀ V,Calls Tryz.prog 150 #[.string ⟨#[0]⟩,.int .i64 (a:Int)] V (RetB V (.string S2))):=Lib.hid fun V=>by rw [hS2];exact (HRP.out V)
 have HS2:=Lib.hid hS2
 have hst:=fun (W:World) (h:W.heap[w.heap.size+1]?=some (.cells #[.int .u8 (v:Int)] 5 (0,0)))=>str_of_cells W 159 9 5 Tryz.underlying159 Tryz.underlying5 Tryz.underlying9 (w.heap.size+1) 0 1 1 (fun _=>v) (fun _ _=>hlt) (fun i hi=>by rw [show i=0 by omega];simp [World.cell?,h])
 obtain ⟨S1,hS1⟩:∃ S1:ByteArray,bytesOf (fun _=>v) 1=S1:=⟨_,rfl⟩
 have hc1:S1.size=1:=by rw [←hS1,bytesOf_size]
 have hcc:¬9223372036854775807<S1.size+S2.size:=by omega
 have HS1:=Lib.hid hS1
 rw [hS1] at hst
 have HC:=Lib.hid (And.intro hc1 hc2)
 clear ha hr hv hS2 HRP hS1 hc1 hc2
 go_enter Tryz.func119,Tryz.ntmps119
 go_wp2_with fail
 refine gs2 (M:=fun W=>Code.wp _ _ _ _ W) (fun V X0=>?_)
 have X:=Lib.hid X0
 clear X0
 have h0:=hst V.drew (X.out.drew.at (i:=1) rfl)
 have HB:=Lib.hid (X.out.at (i:=0) rfl)
 have F:=X.out.facts
 simp only [Facts,cellsAt] at F
 go_region_held3 (fun w'=>(convert 159 9 (.slice (some ⟨w.heap.size+1,0,none⟩) 1 1)).run Tryz.prog w'=.ok (.string S1) w')
  (first | exact h1 | exact h0 | exact hst _ ((X2.out.set2 (i:=0) rfl _ _).at (i:=1) rfl) | go_keep)
  (first | (go_at_call 150;(with_reducible refine (HRP2.out _).mono ?_);rintro e u ⟨rfl,hb9⟩;have X2:=Lib.hid (X.out.drew.next hb9);clear hb9;have h1:=hst u (X2.out.at (i:=1) rfl);have F2:=X2.out.facts;simp only [Facts,cellsAt] at F2))
 have X3:=Lib.hid (X2.out.set2 (i:=0) rfl (.bool false) (.string (S1++S2)))
 have hz:Value.agg #[.bool false,.string (S1++S2)]=enc ((2^n:Nat):Int):=by
  rw [enc_mag,HN.out]
  have hS:S1++S2=mag (2^(8*a+r)):=by
   apply ByteArray.ext
   rw [ByteArray.data_append,←HS1.out,HS2.out]
   unfold mag bytesOf
   rw [magL_two hr8,HV.out]
   simp
  rw [hS]
 have HZ:=Lib.hid hz
 clear hz h0 h1
 go_wp2
 exact bodyPost_ret (v:=.agg #[.bool false,.string (S1++S2)]) (by simp [results,Tryz.results119,go_sem,F2]) rfl ⟨by rw [HZ.out],X3.out.bel⟩
theorem sqb_lt {a b:Rat} (h0:0≤a) (h:a<b):a*a<b*b:=by
 have h1:=Rat.mul_le_mul_of_nonneg_right (Rat.le_of_lt h) h0
 have h2:=Rat.mul_lt_mul_of_pos_left h (show (0:Rat)<b by grind)
 grind
theorem lt_cancel {a b c:Rat} (h:a*c<b*c) (hc:0<c):a<b:=by
 rcases Rat.le_total (a:=b) (b:=a) with h1 | h1
 · have:=Rat.mul_le_mul_of_nonneg_right h1 (Rat.le_of_lt hc)
   grind
 · rcases Rat.le_iff_lt_or_eq.1 h1 with h2 | h2
   · exact h2
   · rw [h2] at h;grind
theorem tight_core2 {r t:Rat} (hr:0≤r) (ht:0<t):∃ F C:Int,floorV ((Sg.mkR 0 1 r).scl t)=F∧-floorV ((Sg.mkR 0 1 r).scl t).neg=C∧0≤F∧(F:Rat)*F≤r*(t*t)∧r*(t*t)≤(C:Rat)*C∧C≤F+1∧0≤C∧r*(t*t)<((F:Rat)+1)*((F:Rat)+1)∧(C=0∨((C:Rat)-1)*((C:Rat)-1)<r*(t*t)):=by
 by_cases hs:Sg.Sq r
 · obtain ⟨z,hz0,hzz⟩:=hs
   have hrt:Sg.rt r=z:=Sg.rt_eq hz0 hzz
   have e1:Sg.mkR 0 1 r=⟨z,0,1⟩:=by
    unfold Sg.mkR
    rw [if_pos ⟨z,hz0,hzz⟩,hrt]
    congr 1
    grind
   have e2:(⟨z,0,1⟩:Sg.Rl).scl t=⟨z*t,0,1⟩:=Sg.mkR_zero _ _
   rw [e1,e2]
   have q0:0≤z*t:=Rat.mul_nonneg hz0 (Rat.le_of_lt ht)
   have qq:z*t*(z*t)=r*(t*t):=by rw [←hzz];grind
   generalize z*t=q at *
   have f1:floorV ⟨q,0,1⟩=q.num / (q.den:Int):=if_pos rfl
   have f2:floorV (Sg.Rl.neg ⟨q,0,1⟩)=(-q).num / ((-q).den:Int):=if_pos rfl
   obtain ⟨a1,a2⟩:=fl_q q
   obtain ⟨b1,b2⟩:=fl_q (-q)
   rw [f1,f2]
   generalize q.num / (q.den:Int)=F at *
   generalize (-q).num / ((-q).den:Int)=G at *
   have hF:0≤F:=by
    have:((-1:Int):Rat)<(F:Rat):=by
     rw [show ((-1:Int):Rat)=-1 from rfl]
     grind
    have:=int_of_lt this
    omega
   have cG:(((-G:Int)):Rat)=-(G:Rat):=Rat.intCast_neg G
   have hC:0≤-G:=by
    have:((-1:Int):Rat)<((-G:Int):Rat):=by
     rw [cG,show ((-1:Int):Rat)=-1 from rfl]
     grind
    have:=int_of_lt this
    omega
   have hCF:-G≤F+1:=by
    have:((-G:Int):Rat)<((F+2:Int):Rat):=by
     rw [cG,Rat.intCast_add,show ((2:Int):Rat)=2 from rfl]
     grind
    have:=int_of_lt this
    omega
   have hF':(0:Rat)≤(F:Rat):=by
    have:=Rat.intCast_le_intCast.2 hF
    exact this
   refine ⟨F,-G,rfl,rfl,hF,?_,?_,hCF,hC,?_,?_⟩
   · rw [←qq];exact sqb_le hF' a1
   · rw [←qq,cG];exact sqb_le q0 (by grind)
   · rw [←qq];exact sqb_lt q0 a2
   · by_cases h0:-G=0
     · exact .inl h0
     · right
       rw [←qq,cG]
       have h1:((1:Int):Rat)≤((-G:Int):Rat):=Rat.intCast_le_intCast.2 (by omega)
       rw [cG,show ((1:Int):Rat)=1 from rfl] at h1
       exact sqb_lt (by grind) (by grind)
 · have e1:Sg.mkR 0 1 r=⟨0,r,1⟩:=mk_irr5 hs (by decide +kernel) (by grind) (by decide +kernel)
   have e2:(⟨0,r,1⟩:Sg.Rl).scl t=⟨0,r*(t*t),1⟩:=by
    show Sg.mkR (0*t) (t*((1:Int):Rat)) r=_
    rw [show (0:Rat)*t=0 by grind,show t*((1:Int):Rat)=t by rw [show ((1:Int):Rat)=1 from rfl];grind]
    exact mk_irr5 hs (by grind) (by grind) (if_neg (by grind))
   rw [e1,e2]
   have r0:r≠0:=fun e=>hs ⟨0,Rat.le_refl,by rw [e];grind⟩
   have tt:0<t*t:=Rat.mul_pos ht ht
   have A0:0<r*(t*t):=Rat.mul_pos (by grind) tt
   obtain ⟨A,hAA⟩:∃ A,r*(t*t)=A:=⟨_,rfl⟩
   rw [hAA] at A0 ⊢
   have hM:0<A.num:=num_pos_iff.2 A0
   have hD:(0:Int)<(A.den:Int):=by have:=A.den_pos;omega
   have hAD:=times_den5 A
   obtain ⟨s1,s2⟩:=rt_spec (fN ⟨0,A,1⟩).natAbs
   have hN:fN ⟨0,A,1⟩=(A.den:Int)*A.num:=by
    unfold fN
    rw [show ((0:Rat).den:Int)=1 from rfl,Int.one_mul,Int.mul_one]
   have hNn:fN (Sg.Rl.neg ⟨0,A,1⟩)=(A.den:Int)*A.num:=by
    unfold fN Sg.Rl.neg
    rw [show ((-(0:Rat)).den:Int)=1 from rfl,Int.one_mul,Int.mul_one]
   have f1:floorV ⟨0,A,1⟩=((rt ((A.den:Int)*A.num).natAbs:Nat):Int) / (A.den:Int):=by
    unfold floorV
    rw [if_neg (by grind),hN,if_neg (show ¬(1:Int)<0 by decide),show (0:Rat).num=0 from rfl,show ((0:Rat).den:Int)=1 from rfl,Int.zero_mul,Int.zero_add,Int.one_mul]
   have f2:floorV (Sg.Rl.neg ⟨0,A,1⟩)=(-1-((rt ((A.den:Int)*A.num).natAbs:Nat):Int)) / (A.den:Int):=by
    unfold floorV
    rw [if_neg (show ¬(Sg.Rl.neg ⟨0,A,1⟩).a=0 from by show ¬A=0;grind),hNn]
    show ((-(0:Rat)).num*(A.den:Int)+(if (Sg.Rl.neg ⟨0,A,1⟩).s<0 then _ else _)) / (((-(0:Rat)).den:Int)*(A.den:Int))=_
    rw [if_pos (show (Sg.Rl.neg ⟨0,A,1⟩).s<0 from by show (if A=0 then (1:Int) else -1)<0;rw [if_neg (by grind)];decide),show (-(0:Rat)).num=0 from rfl,show ((-(0:Rat)).den:Int)=1 from rfl,Int.zero_mul,Int.zero_add,Int.one_mul]
   rw [hN] at s1 s2
   rw [f1,f2]
   obtain ⟨S,hS⟩:∃ S:Int,((rt ((A.den:Int)*A.num).natAbs:Nat):Int)=S:=⟨_,rfl⟩
   have hNpos:0<(A.den:Int)*A.num:=Int.mul_pos hD hM
   have s1':S*S≤(A.den:Int)*A.num:=by
    rw [←hS,←Int.natCast_mul]
    have:(((A.den:Int)*A.num).natAbs:Int)=(A.den:Int)*A.num:=Int.natAbs_of_nonneg (Int.le_of_lt hNpos)
    rw [←this]
    exact Int.ofNat_le.2 s1
   have s2':(A.den:Int)*A.num<(S+1)*(S+1):=by
    have:(((A.den:Int)*A.num).natAbs:Int)=(A.den:Int)*A.num:=Int.natAbs_of_nonneg (Int.le_of_lt hNpos)
    rw [←this,←hS]
    exact Int.ofNat_lt.2 s2
   have hS0:0≤S:=by omega
   rw [hS]
   generalize A.num=M at *
   generalize (A.den:Int)=D at *
   obtain ⟨F,hF⟩:∃ F,S / D=F:=⟨_,rfl⟩
   obtain ⟨G,hG⟩:∃ G,(-1-S) / D=G:=⟨_,rfl⟩
   have a1:F*D≤S:=by rw [←hF];exact Int.ediv_mul_le _ (by omega)
   have a2:S<(F+1)*D:=by rw [←hF];exact Int.lt_ediv_add_one_mul_self _ hD
   have b1:G*D≤-1-S:=by rw [←hG];exact Int.ediv_mul_le _ (by omega)
   have b2:-1-S<(G+1)*D:=by rw [←hG];exact Int.lt_ediv_add_one_mul_self _ hD
   have hF0:0≤F:=by rw [←hF];exact Int.ediv_nonneg hS0 (Int.le_of_lt hD)
   have hG0:G<0:=by
    rcases Int.lt_or_le G 0 with h | h
    · exact h
    · have:=Int.mul_nonneg h (Int.le_of_lt hD);omega
   have hCF:-G≤F+1:=by
    rcases Int.lt_or_le (F+1) (-G) with h | h
    · have:(F+1)*D≤(-G-1)*D:=Int.mul_le_mul_of_nonneg_right (by omega) (Int.le_of_lt hD)
      have e:(-G-1)*D=-((G+1)*D):=by rw [←Int.neg_mul];congr 1;omega
      omega
    · exact h
   have u1:F*F*D≤M:=by
    have h1:F*D*(F*D)≤S*S:=Int.mul_le_mul a1 a1 (Int.mul_nonneg hF0 (Int.le_of_lt hD)) hS0
    have h2:D*(F*F*D)≤D*M:=by
     have:F*D*(F*D)=D*(F*F*D):=by grind
     omega
    exact Int.le_of_mul_le_mul_left h2 hD
   have u2:M≤-G*-G*D:=by
    have k:S+1≤-G*D:=by
     have:-G*D=-(G*D):=Int.neg_mul _ _
     omega
    have h1:(S+1)*(S+1)≤-G*D*(-G*D):=Int.mul_le_mul k k (by omega) (by omega)
    have h2:D*M≤D*(-G*-G*D):=by
     have:-G*D*(-G*D)=D*(-G*-G*D):=by grind
     omega
    exact Int.le_of_mul_le_mul_left h2 hD
   have u3:M<(F+1)*(F+1)*D:=by
    have k:S+1≤(F+1)*D:=by omega
    have h1:(S+1)*(S+1)≤(F+1)*D*((F+1)*D):=Int.mul_le_mul k k (by omega) (by omega)
    have h2:D*M<D*((F+1)*(F+1)*D):=by
     have:(F+1)*D*((F+1)*D)=D*((F+1)*(F+1)*D):=by grind
     omega
    exact Int.lt_of_mul_lt_mul_left h2 (Int.le_of_lt hD)
   have u4:(-G-1)*(-G-1)*D≤M:=by
    have e:(-G-1)*D=-((G+1)*D):=by rw [←Int.neg_mul];congr 1;omega
    have k:(-G-1)*D≤S:=by omega
    have k0:0≤(-G-1)*D:=Int.mul_nonneg (by omega) (Int.le_of_lt hD)
    have h1:(-G-1)*D*((-G-1)*D)≤S*S:=Int.mul_le_mul k k k0 hS0
    have h2:D*((-G-1)*(-G-1)*D)≤D*M:=by
     have:(-G-1)*D*((-G-1)*D)=D*((-G-1)*(-G-1)*D):=by grind
     omega
    exact Int.le_of_mul_le_mul_left h2 hD
   refine ⟨F,-G,hF,by rw [hG],hF0,?_,?_,hCF,by omega,?_,.inr ?_⟩
   · have h:=Rat.intCast_le_intCast.2 u1
     rw [Rat.intCast_mul,Rat.intCast_mul,←hAD] at h
     exact Rat.le_of_mul_le_mul_right h (Rat.intCast_lt_intCast.2 hD)
   · have h:=Rat.intCast_le_intCast.2 u2
     rw [Rat.intCast_mul,Rat.intCast_mul,←hAD] at h
     exact Rat.le_of_mul_le_mul_right h (Rat.intCast_lt_intCast.2 hD)
   · have h:=Rat.intCast_lt_intCast.2 u3
     rw [Rat.intCast_mul,Rat.intCast_mul,←hAD,Rat.intCast_add] at h
     exact lt_cancel h (Rat.intCast_lt_intCast.2 hD)
   · have h:=Rat.intCast_le_intCast.2 u4
     rw [Rat.intCast_mul,Rat.intCast_mul,←hAD,Rat.intCast_sub] at h
     have h1:=Rat.le_of_mul_le_mul_right h (Rat.intCast_lt_intCast.2 hD)
     rcases Rat.le_iff_lt_or_eq.1 h1 with h2 | h2
     · exact h2
     · exfalso
       refine hs ⟨(((-G:Int):Rat)-((1:Int):Rat)) / t,?_,?_⟩
       · rw [Rat.div_def]
         have:((1:Int):Rat)≤((-G:Int):Rat):=Rat.intCast_le_intCast.2 (by omega)
         exact Rat.mul_nonneg (by grind) (Rat.le_of_lt (Rat.inv_pos.2 ht))
       · have t0:t≠0:=by grind
         have e:(((-G:Int):Rat)-((1:Int):Rat)) / t*t=((-G:Int):Rat)-((1:Int):Rat):=Rat.div_mul_cancel t0
         generalize (((-G:Int):Rat)-((1:Int):Rat)) / t=z at *
         have:z*z*(t*t)=r*(t*t):=by
          rw [show z*z*(t*t)=z*t*(z*t) by grind,e,hAA]
          exact h2
         have tt0:t*t≠0:=by grind
         grind

theorem pow2_size17 {n:Nat} (hn:n≤128):Zs (16+1) ((2^n:Nat):Int):=by
 show ((2^n:Nat):Int).natAbs<256^17
 rw [Int.natAbs_natCast]
 exact Nat.lt_of_le_of_lt (Nat.pow_le_pow_right (by decide) hn) (by decide)
theorem scl_size17 {x:Sg.Rl} (ok:x.Ok) {r:Rat} (h0:r≠0) (zx:Rz 8 x) (zr:Sz 17 r):Rz 50 (x.scl r)∧(x.scl r).Ok:=by
 refine ⟨?_,?_⟩
 · unfold Sg.Rl.scl
   rw [Sg.scale_mk ok h0]
   unfold Sg.Rl.scale
   split
   · exact ⟨(zx.p.mul zr).up (by omega),Sz.zero 49⟩
   · exact ⟨(zx.p.mul zr).up (by omega),(zx.r.mul (zr.mul zr)).up (by omega)⟩
 · unfold Sg.Rl.scl
   exact mkR_ok (by rcases Sg.ok_cases ok with ⟨h,_⟩ | ⟨h,_⟩<;>grind)
theorem enclp_g {x y:Sg.Rl} {b1 c1 s1:Bool} {m1 k1 n1 l1:ByteArray} {b5 b7:Bool} {m5 k5 m7 k7:ByteArray} (hx:Rv x b1 m1 k1 c1 n1 l1 s1) (ok:x.Ok) (zx:Rz 8 x) {n:Nat} (hn:n≤128) (hy:x.scl (((2^n:Nat):Int):Rat)=y) (h5:Rq (Rat.divInt (floorV y) ((2^n:Nat):Int)) b5 m5 k5) (h7:Rq (Rat.divInt (-floorV y.neg) ((2^n:Nat):Int)) b7 m7 k7) (w:World) (hE:Env w):Calls Tryz.prog 75 #[.agg #[.bool b1,.string m1,.bool false,.string k1,.bool c1,.string n1,.bool false,.string l1,.bool s1],.int .i64 ((n:Int))] w (RetB w (.tuple #[.agg #[.bool b5,.string m5,.bool false,.string k5],.agg #[.bool b7,.string m7,.bool false,.string k7],.int .i64 0])):=by
 obtain ⟨b3,m3,e3,h3⟩:=rq_z ((2^n:Nat):Int)
 have h0:=pow_ne n
 have hz0:((2^n:Nat):Int)≠0:=fun h=>h0 (by rw [h];rfl)
 have z3:=(pow2_size17 hn).sz'
 obtain ⟨zs,oks⟩:=scl_size17 ok h0 zx z3
 rw [hy] at zs oks
 obtain ⟨b2,m2,k2,c2,n2,l2,s2,h2⟩:=Rv.some_ y
 obtain ⟨b4,m4,e4,h4⟩:=rq_z (floorV y)
 obtain ⟨b6,m6,e6,h6⟩:=rq_z (-floorV y.neg)
 have z4:Zs (299+1) (floorV y):=(floorV_size oks (n:=49) ⟨zs.p,zs.r⟩).up (by omega)
 have z6':Zs (299+1) (floorV y.neg):=(floorV_size (Sg.neg_ok oks) (n:=49) ⟨zs.p.minus,zs.r⟩).up (by omega)
 have z6:Zs (299+1) (-floorV y.neg):=by unfold Zs at z6' ⊢;rw [Int.natAbs_neg];exact z6'
 have hsz3:m3.size≤100000:=Nat.le_trans ((pow2_size17 hn).sz e3) (by decide)
 exact encl_good w (by omega) (by omega) (fun V _=>zret e3 (pow2_g n hn V)) (fun V hb=>rscl_f hx ok h3 (by rw [hy];exact h2) ⟨zx.p.up (by omega),zx.r.up (by omega)⟩ (z3.up (by omega)) V (hE.next hb)) (fun V hb=>rfloor_f h2 oks e4 ⟨zs.p.up (by omega),zs.r.up (by omega)⟩ V (hE.next hb)) (fun V hb=>make_f e4 e3 h5 hz0 (Nat.le_trans (z4.sz e4) (by decide)) hsz3 V (hE.next hb)) (fun V hb=>rceil_f h2 oks zs e6 V (hE.next hb)) (fun V hb=>make_f e6 e3 h7 hz0 (Nat.le_trans (z6.sz e6) (by decide)) hsz3 V (hE.next hb))
end Go.Proofs.YtdbhahiieokplaaGreatDoor


namespace Go.Proofs.YtdbhahiieokplaaGreatDoor
open Go.RowKit
attribute [local go_sem ↓] Go.wp_at_zero Go.wp_at_succ

theorem fpow_f {n:Nat} {b3:Bool} {m3:ByteArray} (hn:n≤128) (e3:enc ((2^n:Nat):Int)=.agg #[.bool b3,.string m3]) (w:World):Calls Tryz.prog 76 #[.int .i64 ((n:Int))] w (RetB w (.agg #[.bool b3,.string m3,.bool false,.string ⟨#[]⟩])):=by
 have h1e:enc ((2^0:Nat):Int)=.agg #[.bool false,.string ⟨#[1]⟩]:=by rw [←mag_one];exact enc_mag 1
 refine fpow_w w hn (Lib.hid h1e) (Lib.hid e3) (fun k b m hk h=>?_) (fun V _=>zret h1e (refFromInt_pos 1 (by omega) V))
 obtain ⟨b2,m2,e2,_⟩:=rq_z ((2^(k+1):Nat):Int)
 refine ⟨b2,m2,e2,fun V _=>?_⟩
 have z1:Zs (16+1) ((2^k:Nat):Int):=pow2_size17 (by omega)
 exact refAdd_f h h (Nat.le_trans (z1.sz h) (by decide)) (Nat.le_trans (z1.sz h) (by decide)) e2 (by rw [show (2:Nat)^(k+1)=2^k+2^k by rw [Nat.pow_succ];omega];exact Int.natCast_add _ _) V
def irt (a:Rat):Nat:=rt (a.num / (a.den:Int)).natAbs
theorem irt_spec {a:Rat} {F:Int} (h0:0≤F) (h1:(F:Rat)*F≤a) (h2:a<((F:Rat)+1)*((F:Rat)+1)):((irt a:Nat):Int)=F:=by
 obtain ⟨f1,f2⟩:=fl_q a
 unfold irt
 obtain ⟨z,hz⟩:∃ z,a.num / (a.den:Int)=z:=⟨_,rfl⟩
 rw [hz] at f1 f2 ⊢
 have c1:F*F<z+1:=by
  have:((F*F:Int):Rat)<((z+1:Int):Rat):=by
   rw [Rat.intCast_mul,Rat.intCast_add,show ((1:Int):Rat)=1 from rfl]
   grind
  exact int_of_lt this
 have c2:z<(F+1)*(F+1):=by
  have:((z:Int):Rat)<(((F+1)*(F+1):Int):Rat):=by
   rw [Rat.intCast_mul,Rat.intCast_add,show ((1:Int):Rat)=1 from rfl]
   grind
  exact int_of_lt this
 obtain ⟨f,rfl⟩:∃ f:Nat,F=(f:Int):=⟨F.toNat,by omega⟩
 have hz0:0≤z:=by have:=Int.mul_nonneg h0 h0;omega
 obtain ⟨y,rfl⟩:∃ y:Nat,z=(y:Int):=⟨z.toNat,by omega⟩
 have d1:f*f≤y:=by
  have:((f*f:Nat):Int)<(y:Int)+1:=by rw [Int.natCast_mul];exact c1
  omega
 have d2:y<(f+1)*(f+1):=by
  have:(y:Int)<(((f+1)*(f+1):Nat):Int):=by rw [Int.natCast_mul,Int.natCast_add];exact c2
  omega
 rw [Int.natAbs_natCast,rt_unique d1 d2]
theorem froot5_f {a:Rat} {b1:Bool} {m1 k1:ByteArray} {b3:Bool} {m3:ByteArray} (h1:Rq a b1 m1 k1) (z1:Sz 100 a) (e3:enc ((irt a:Nat):Int)=.agg #[.bool b3,.string m3]) (w:World):Calls Tryz.prog 97 #[.agg #[.bool b1,.string m1,.bool false,.string k1]] w (RetB w (.agg #[.bool b3,.string m3,.bool false,.string ⟨#[]⟩])):=by
 obtain ⟨b2,m2,e2,h2⟩:=rq_z (a.num / (a.den:Int))
 have zf:Zs 100 (a.num / (a.den:Int)):=Zs.div (show Zs 100 a.num from z1.1) (by have:=a.den_pos;omega)
 have hb:=h2.bval
 rw [Rat.num_intCast] at hb
 exact froot5_w w (fun V _=>rFloor_f h1 e2 (by rw [h1.mag.2];exact Nat.le_trans (mag_size_le z1.1) (by decide)) (Nat.le_trans (mag_size_le z1.2) (by decide)) V) (fun V _=>zret e3 (by have H:=refSqrt_any b2 m2 V (Nat.le_trans (zf.sz e2) (by decide));rw [hb] at H;exact H))
theorem pow_pos_q (n:Nat):(0:Rat)<(((2^n:Nat):Int):Rat):=by
 have h:=pow_ne n
 have h2:(((0:Int)):Rat)≤(((2^n:Nat):Int):Rat):=Rat.intCast_le_intCast.2 (Int.natCast_nonneg _)
 have h3:((0:Int):Rat)=0:=rfl
 rw [h3] at h2
 grind
theorem encl_ends {r:Rat} {b1:Bool} {m1 k1:ByteArray} (h1:Rq r b1 m1 k1) (h0:0≤r) (zr:Sz 8 r) {n:Nat} (hn:n≤128):∃ F C:Int,0≤F∧(F:Rat)*F≤r*((((2^n:Nat):Int):Rat)*(((2^n:Nat):Int):Rat))∧r*((((2^n:Nat):Int):Rat)*(((2^n:Nat):Int):Rat))≤(C:Rat)*C∧C≤F+1∧0≤C∧r*((((2^n:Nat):Int):Rat)*(((2^n:Nat):Int):Rat))<((F:Rat)+1)*((F:Rat)+1)∧(C=0∨((C:Rat)-1)*((C:Rat)-1)<r*((((2^n:Nat):Int):Rat)*(((2^n:Nat):Int):Rat)))∧Zs (299+1) F∧Zs (299+1) C∧∃ b2 m2 k2 c2 n2 l2 s2,(∀ w,Env w→Calls Tryz.prog 96 #[.agg #[.bool b1,.string m1,.bool false,.string k1]] w (RetB w (.agg #[.bool b2,.string m2,.bool false,.string k2,.bool c2,.string n2,.bool false,.string l2,.bool s2])))∧∀ {b3 b4:Bool} {m3 k3 m4 k4:ByteArray},Rq (Rat.divInt F ((2^n:Nat):Int)) b3 m3 k3→Rq (Rat.divInt C ((2^n:Nat):Int)) b4 m4 k4→∀ w,Env w→Calls Tryz.prog 75 #[.agg #[.bool b2,.string m2,.bool false,.string k2,.bool c2,.string n2,.bool false,.string l2,.bool s2],.int .i64 ((n:Int))] w (RetB w (.tuple #[.agg #[.bool b3,.string m3,.bool false,.string k3],.agg #[.bool b4,.string m4,.bool false,.string k4],.int .i64 0])):=by
 obtain ⟨F,C,f1,f2,f3,f4,f5,f6,f7,f8,f9⟩:=tight_core2 h0 (pow_pos_q n)
 have zx:=mk1_size (n:=7) zr
 have okx:(Sg.mkR 0 1 r).Ok:=mkR_ok h0
 obtain ⟨zs,oks⟩:=scl_size17 okx (pow_ne n) zx (pow2_size17 hn).sz'
 obtain ⟨y,hy⟩:∃ y,(Sg.mkR 0 1 r).scl (((2^n:Nat):Int):Rat)=y:=⟨_,rfl⟩
 rw [hy] at f1 f2 zs oks
 have z4:Zs (299+1) F:=by rw [←f1];exact (floorV_size oks (n:=49) ⟨zs.p,zs.r⟩).up (by omega)
 have z6':Zs (299+1) (floorV y.neg):=(floorV_size (Sg.neg_ok oks) (n:=49) ⟨zs.p.minus,zs.r⟩).up (by omega)
 have z6:Zs (299+1) C:=by rw [←f2];unfold Zs at z6' ⊢;rw [Int.natAbs_neg];exact z6'
 obtain ⟨b2,m2,k2,c2,n2,l2,s2,h2⟩:=Rv.some_ (Sg.mkR 0 1 r)
 refine ⟨F,C,f3,f4,f5,f6,f7,f8,f9,z4,z6,b2,m2,k2,c2,n2,l2,s2,fun w hE=>eroot_f h1 h0 (zr.up (by omega)) h2 w hE,fun {b3 b4 m3 k3 m4 k4} h3 h4 w hE=>?_⟩
 exact enclp_g h2 okx zx hn hy (by rw [f1];exact h3) (by rw [f2];exact h4) w hE
theorem fsqrt5_f {p q:Rat} {b1 b2 b13 b14:Bool} {m1 k1 m2 k2 m13 k13 m14 k14:ByteArray} (h1:Rq p b1 m1 k1) (h2:Rq q b2 m2 k2) (z1:Sz 4 p) (z2:Sz 4 q) {n:Nat} (hn:n≤128) {F G C:Int} (f0:0≤F) (f1:(F:Rat)*F≤p*((((2^n:Nat):Int):Rat)*(((2^n:Nat):Int):Rat))) (f2:p*((((2^n:Nat):Int):Rat)*(((2^n:Nat):Int):Rat))<((F:Rat)+1)*((F:Rat)+1)) (g0:0≤G) (g1:(G:Rat)*G≤q*((((2^n:Nat):Int):Rat)*(((2^n:Nat):Int):Rat))) (g2:q*((((2^n:Nat):Int):Rat)*(((2^n:Nat):Int):Rat))<((G:Rat)+1)*((G:Rat)+1)) (c0:0≤C) (c1:q*((((2^n:Nat):Int):Rat)*(((2^n:Nat):Int):Rat))≤(C:Rat)*C) (c2:C≤G+1) (c3:C=0∨((C:Rat)-1)*((C:Rat)-1)<q*((((2^n:Nat):Int):Rat)*(((2^n:Nat):Int):Rat))) (zF:Zs (299+1) F) (zG:Zs (299+1) G) (zC:Zs (299+1) C) (h13:Rq (Rat.divInt F ((2^n:Nat):Int)) b13 m13 k13) (h14:Rq (Rat.divInt C ((2^n:Nat):Int)) b14 m14 k14) (w:World):Calls Tryz.prog 50 #[.agg #[.bool b1,.string m1,.bool false,.string k1,.bool b2,.string m2,.bool false,.string k2],.int .i64 ((n:Int))] w (RetB w (.agg #[.bool b13,.string m13,.bool false,.string k13,.bool b14,.string m14,.bool false,.string k14])):=by
 obtain ⟨b5,m5,e5,h5⟩:=rq_z ((2^n:Nat):Int)
 have z5:Sz 17 (((2^n:Nat):Int):Rat):=(pow2_size17 hn).sz'
 have t0:=pow_pos_q n
 have hq:(((2^n:Nat):Int):Rat).num≠0:=fun h=>pow_ne n (Rat.num_eq_zero.1 h)
 obtain ⟨b6,m6,k6,h6⟩:=Rq.some_ ((((2^n:Nat):Int):Rat)*(((2^n:Nat):Int):Rat))
 obtain ⟨b7,m7,k7,h7⟩:=Rq.some_ (p*((((2^n:Nat):Int):Rat)*(((2^n:Nat):Int):Rat)))
 obtain ⟨b9,m9,k9,h9⟩:=Rq.some_ (q*((((2^n:Nat):Int):Rat)*(((2^n:Nat):Int):Rat)))
 have eF:((irt (p*((((2^n:Nat):Int):Rat)*(((2^n:Nat):Int):Rat))):Nat):Int)=F:=irt_spec f0 f1 f2
 have eG:((irt (q*((((2^n:Nat):Int):Rat)*(((2^n:Nat):Int):Rat))):Nat):Int)=G:=irt_spec g0 g1 g2
 obtain ⟨b8,m8,e8,h8⟩:=rq_z F
 obtain ⟨b10,m10,e10,h10⟩:=rq_z G
 obtain ⟨b11,m11,k11,h11⟩:=Rq.some_ ((G:Rat)*G)
 have z6:=z5.mul z5
 have z7:=z1.mul z6
 have z9:=z2.mul z6
 have HP:=fun V (_:Below w.heap.size w V)=>fpow_f hn e5 V
 have V1:=fun V (_:Below w.heap.size w V)=>rmul_z h5 h5 h6 (z5.up (by omega)) (z5.up (by omega)) V
 have V2:=fun V (_:Below w.heap.size w V)=>rmul_z h1 h6 h7 (z1.up (by omega)) (z6.up (by omega)) V
 have R1:=fun V (_:Below w.heap.size w V)=>froot5_f h7 (z7.up (by omega)) (by rw [eF];exact e8) V
 have V3:=fun V (_:Below w.heap.size w V)=>rmul_z h2 h6 h9 (z2.up (by omega)) (z6.up (by omega)) V
 have R2:=fun V (_:Below w.heap.size w V)=>froot5_f h9 (z9.up (by omega)) (by rw [eG];exact e10) V
 have V4:=fun V (_:Below w.heap.size w V)=>rmul_z h10 h10 h11 (zG.sz'.up (by omega)) (zG.sz'.up (by omega)) V
 have K1:=fun V (_:Below w.heap.size w V)=>qcmp h11 h9 ((zG.sz'.mul zG.sz').up (by omega)) (z9.up (by omega)) V
 have D1:=fun V (_:Below w.heap.size w V)=>rdiv_z h8 h5 (by rw [div_same];exact h13) hq (zF.sz'.up (by omega)) (z5.up (by omega)) V
 by_cases g:(G:Rat)*G<q*((((2^n:Nat):Int):Rat)*(((2^n:Nat):Int):Rat))
 · have eC : C = G + 1 := by
    rcases Int.lt_or_le C (G+1) with h | h
    · have:(C:Rat)≤(G:Rat):=Rat.intCast_le_intCast.2 (by omega)
      have c0':(0:Rat)≤(C:Rat):=by have:=Rat.intCast_le_intCast.2 c0;exact this
      have:=sqb_le c0' this
      grind
    · omega
   subst eC
   obtain ⟨b12,m12,e12,h12⟩:=rq_z (G+1)
   have h12':Rq ((G:Rat)+1) b12 m12 ⟨#[]⟩:=(show ((G+1:Int):Rat)=(G:Rat)+1 from Rat.intCast_add G 1) ▸ h12
   exact fsqrt5_add w (by have:=mt cmpQ_ge.1 (Rat.not_le.2 g);omega) HP V1 V2 R1 V3 R2 V4 K1 (fun V _=>rOf_f (x:=1) (y:=1) (by rw [divInt1];exact qo) (by omega) (by omega) (by omega) (by omega) (by omega) V) (fun V _=>radd_z h10 qo h12' (zG.sz'.up (by omega)) ((show Sz 1 1 from ⟨by decide,by decide⟩).up (by omega)) V) D1 (fun V _=>rdiv_z h12 h5 (by rw [div_same];exact h14) hq (zC.sz'.up (by omega)) (z5.up (by omega)) V)
 · have eC : C = G := by
    have hge:q*((((2^n:Nat):Int):Rat)*(((2^n:Nat):Int):Rat))≤(G:Rat)*G:=by grind
    have hG0:(0:Rat)≤(G:Rat):=by have:=Rat.intCast_le_intCast.2 g0;exact this
    rcases Int.lt_or_le G C with h | h
    · rcases c3 with h3 | h3
      · omega
      · have a1 : (G : Rat) ≤ (C : Rat) - 1 := by
         have:=Rat.intCast_le_intCast.2 (show G+1≤C by omega)
         rw [Rat.intCast_add,show ((1:Int):Rat)=1 from rfl] at this
         grind
        have:=sqb_le hG0 a1
        grind
    · rcases Int.lt_or_le C G with h4 | h4
      · have a1:(C:Rat)<(G:Rat):=Rat.intCast_lt_intCast.2 h4
        have c0':(0:Rat)≤(C:Rat):=by have:=Rat.intCast_le_intCast.2 c0;exact this
        have:=sqb_lt c0' a1
        grind
      · omega
   subst eC
   exact fsqrt5_no (b12:=false) (m12:=⟨#[]⟩) (k12:=⟨#[]⟩) w (by have:=cmpQ_ge.2 (Rat.not_lt.1 g);omega) HP V1 V2 R1 V3 R2 V4 K1 D1 (fun V _=>rdiv_z h10 h5 (by rw [div_same];exact h14) hq (zC.sz'.up (by omega)) (z5.up (by omega)) V)
theorem roots_all5 (n1 d1 n2 d2:Int) (na1:-2147483648≤n1) (nb1:n1≤2147483647) (da1:0≤d1) (db1:d1≤65535) (na2:-2147483648≤n2) (nb2:n2≤2147483647) (da2:0≤d2) (db2:d2≤65535) (n:Int) (hn1:-9223372036854775808≤n) (hn2:n≤9223372036854775807) (w:World) (hE:Env w):Calls Tryz.prog 7 #[.agg #[.int .i32 n1,.int .u16 d1,.int .i32 n2,.int .u16 d2],.int .i64 (n)] w (RetB w (.bool true)):=by
 obtain ⟨p,q,b1,m1,k1,b2,m2,k2,h1,h2,hpq,z1,z2,HA⟩:=pof_f na1 nb1 da1 db1 na2 nb2 da2 db2
 have hE':=fun V (hb:Below w.heap.size w V)=>hE.next hb
 by_cases g1:n<0
 · exact roots_bad w (.inl g1) (fun V hb=>rknown5 V (hE' V hb)) (fun V _=>HA V) (fun V _=>esqrt_bad V (fun V2 _=>egrid_neg g1 V2))
 by_cases g2:128<n
 · exact roots_bad w (.inr ⟨g1,g2⟩) (fun V hb=>rknown5 V (hE' V hb)) (fun V _=>HA V) (fun V _=>esqrt_bad V (fun V2 _=>by have H:=egrid_f (n:=n) (by omega) V2;rw [decide_eq_false (show ¬n≤128 by omega)] at H;exact H))
 have HG:=fun (V:World)=>by have H:=egrid_f (n:=n) (by omega) V;rw [decide_eq_true (show n≤128 by omega)] at H;exact H
 by_cases g3:p.num.sign<0
 · exact roots_neg w g1 g2 g3 (fun V hb=>rknown5 V (hE' V hb)) (fun V _=>HA V) (fun V _=>rSign_f h1 V) (fun V _=>esqrt_neg V g3 (fun V2 _=>HG V2) (fun V2 _=>ratSign_f h1 V2))
 have p0:0≤p:=by
  have h:=sign_cmp p
  exact cmpQ_ge.1 (by omega)
 obtain ⟨k,rfl⟩:∃ k:Nat,n=(k:Int):=⟨n.toNat,by omega⟩
 obtain ⟨F,C0,a1,a2,a3,a4,a5,a6,a7,y1,y2,c1,c2,c3,c4,c5,c6,c7,X1,X2⟩:=encl_ends h1 p0 (z1.up (by omega)) (n:=k) (by omega)
 obtain ⟨G,C,e1,e2,e3,e4,e5,e6,e7,y3,y4,f1,f2,f3,f4,f5,f6,f7,X3,X4⟩:=encl_ends h2 (by grind) (z2.up (by omega)) (n:=k) (by omega)
 obtain ⟨b3,m3,k3,h3⟩:=Rq.some_ (Rat.divInt F ((2^k:Nat):Int))
 obtain ⟨b4,m4,k4,h4⟩:=Rq.some_ (Rat.divInt C ((2^k:Nat):Int))
 obtain ⟨b5,m5,k5,h5⟩:=Rq.some_ (Rat.divInt C0 ((2^k:Nat):Int))
 obtain ⟨b6,m6,k6,h6⟩:=Rq.some_ (Rat.divInt G ((2^k:Nat):Int))
 exact roots_good w g1 g2 g3 (fun V hb=>rknown5 V (hE' V hb)) (fun V _=>HA V) (fun V _=>rSign_f h1 V) (fun V hb=>esqrt_yes V g3 (fun V2 _=>HG V2) (fun V2 _=>ratSign_f h1 V2) (fun V2 hb2=>X1 V2 ((hE' V hb).next hb2)) (fun V2 hb2=>X2 h3 h5 V2 ((hE' V hb).next hb2)) (fun V2 hb2=>X3 V2 ((hE' V hb).next hb2)) (fun V2 hb2=>X4 h6 h4 V2 ((hE' V hb).next hb2))) (fun V _=>low_any V) (fun V _=>fsqrt5_f h1 h2 z1 z2 (by omega) a1 a2 a6 e1 e2 e6 e5 e3 e4 e7 y1 y3 y4 h3 h4 V) (fun V _=>same5_yes V)
end Go.Proofs.YtdbhahiieokplaaGreatDoor
