import Derived.Test.YtpnokfgplnmjpaaGreatDoorGRefM
import Derived.Test.YtpnokfgplnmjpaaGreatDoorGRNC
import Derived.Test.YtpnokfgplnmjpaaGreatDoorGRefN
set_option linter.unusedSimpArgs false
set_option linter.unusedVariables false

namespace Go.Proofs.YtpnokfgplnmjpaaGreatDoor
open Go.RowKit
attribute [local go_sem ↓] Go.wp_at_zero Go.wp_at_succ

theorem bit_next (T i:Nat):T / 2^i=2*(T / 2^(i+1))∨T / 2^i=2*(T / 2^(i+1))+1:=by
 have h:T / 2^(i+1)=T / 2^i / 2:=by rw [Nat.pow_succ,Nat.div_div_eq_div_mul]
 omega
theorem bit_fits {T i:Nat}:2*(T / 2^(i+1))*2^i+2^i≤T↔T / 2^i=2*(T / 2^(i+1))+1:=by
 have hp:0<(2:Nat)^i:=Nat.pow_pos (by decide)
 have e:2*(T / 2^(i+1))*2^i+2^i=(2*(T / 2^(i+1))+1)*2^i:=by rw [Nat.add_mul,Nat.one_mul]
 rw [e,←Nat.le_div_iff_mul_le hp]
 rcases bit_next T i with h | h<;>omega
theorem set_wordN {p Q:Nat} (hp:p<8):(2^p*(2*Q)+2^p) / 256=2^p*(2*Q) / 256∧(2^p*(2*Q)+2^p)%256=2^p*(2*Q)%256+2^p:=by
 have:p=0∨p=1∨p=2∨p=3∨p=4∨p=5∨p=6∨p=7:=by omega
 rcases this with rfl | rfl | rfl | rfl | rfl | rfl | rfl | rfl<;>(simp only [Nat.reducePow];omega)

theorem set_bitN (Q i j:Nat):D 256 (2*Q*2^i+2^i) j=if j=i / 8 then D 256 (2*Q*2^i) j+2^(i%8) else D 256 (2*Q*2^i) j:=by
 have hP:0<256^(i / 8):=Nat.pow_pos (by omega)
 have e:2^i=256^(i / 8)*2^(i%8):=by
  have e:(256:Nat)^(i / 8)=2^(8*(i / 8)):=by rw [Nat.pow_mul]
  rw [e,←Nat.pow_add]
  congr 1
  omega
 obtain ⟨w1,w2⟩:=set_wordN (Q:=Q) (Nat.mod_lt i (show 0<8 by omega))
 have e1:2*Q*2^i=256^(i / 8)*(2^(i%8)*(2*Q)):=by rw [e];ac_rfl
 have e2:2*Q*2^i+2^i=256^(i / 8)*(2^(i%8)*(2*Q)+2^(i%8)):=by rw [e1,Nat.mul_add,←e]
 rw [e1,e2] at *
 generalize 2^(i%8)*(2*Q)+2^(i%8)=V' at *
 generalize 2^(i%8)*(2*Q)=V at *
 generalize 2^(i%8)=t at *
 generalize i / 8=a at *
 rcases Nat.lt_trichotomy j a with h | h | h
 · rw [if_neg (by omega)]
   have h1:=D_low (b:=256) (P:=0) (Z:=V') (k:=a) (by omega) h
   have h2:=D_low (b:=256) (P:=0) (Z:=V) (k:=a) (by omega) h
   rw [Nat.zero_add] at h1 h2
   rw [h1,h2]
 · subst h
   rw [if_pos rfl]
   unfold D
   rw [Nat.mul_div_cancel_left _ hP,Nat.mul_div_cancel_left _ hP]
   exact w2
 · rw [if_neg (by omega),D_high (k:=a) (by omega),D_high (P:=256^a*V) (k:=a) (by omega),Nat.mul_div_cancel_left _ hP,Nat.mul_div_cancel_left _ hP]
   obtain ⟨d,hd⟩:∃ d,j-a=d+1:=⟨j-a-1,by omega⟩
   rw [hd]
   unfold D
   rw [Nat.pow_succ',←Nat.div_div_eq_div_mul,←Nat.div_div_eq_div_mul,w1]

theorem sq_le_rt {V m:Nat}:m*m≤V↔m≤rt V:=by
 have h1:=rt_spec V
 constructor
 · intro h
   rcases Nat.lt_or_ge (rt V) m with h2 | h2
   · have h3:=Nat.mul_le_mul (show rt V+1≤m from h2) (show rt V+1≤m from h2)
     omega
   · exact h2
 · intro h
   exact Nat.le_trans (Nat.mul_le_mul h h) h1.1
theorem rt_room {V n:Nat} (h:V<256^n):rt V<256^((n+1) / 2):=by
 rcases Nat.lt_or_ge (rt V) (256^((n+1) / 2)) with h1 | h1
 · exact h1
 · exfalso
   have h2:=Nat.mul_le_mul h1 h1
   have h3:=(rt_spec V).1
   have h4:(256:Nat)^n≤256^((n+1) / 2)*256^((n+1) / 2):=by
    rw [←Nat.pow_add]
    exact Nat.pow_le_pow_right (by decide) (by omega)
   omega

theorem set_i64 {u p:Nat} (hu:u<256) (hp:p<8):IntKind.i64.wrap ((u:Int)+IntKind.i64.wrap ((2:Int)^p))=((u+2^p:Nat):Int):=by
 have:p=0∨p=1∨p=2∨p=3∨p=4∨p=5∨p=6∨p=7:=by omega
 rcases this with rfl | rfl | rfl | rfl | rfl | rfl | rfl | rfl<;>(rw [IntWalk.i64_in (2^_) (by omega),IntWalk.i64_in _ (by omega)];omega)
theorem unset_i64 {u p z:Nat} (hu:u<256) (hp:p<8) (h:u+2^p=z):wrap64 ((z:Int)-wrap64 ((2:Int)^p))=(u:Int):=by
 have:p=0∨p=1∨p=2∨p=3∨p=4∨p=5∨p=6∨p=7:=by omega
 rcases this with rfl | rfl | rfl | rfl | rfl | rfl | rfl | rfl<;>(rw [IntWalk.wrap64_in (2^_) (by omega),IntWalk.wrap64_in _ (by omega)];omega)

set_option maxHeartbeats 8000000 in
set_option maxRecDepth 100000 in
theorem refSqrt_any (b:Bool) (s:ByteArray) (w:World) (hs:s.size≤100000) :
  Calls Tryz.prog 104 #[.agg #[.bool b,.string s]] w (RetZ w ((rt (bval s):Nat):Int)):=by
 have HU:=Lib.hid (fun V=>digits_any b s V (by omega))
 have hmk:=fun (N:Nat) (hN:N≤100000) W=>run_make_row' (P:=Tryz.prog) 102 3 (.int .i64 0) 8 Tryz.underlying102 intTy_info rfl .i64 .i64 N (by omega) (by omega) W
 obtain ⟨V,hV⟩:∃ V,bval s=V:=⟨_,rfl⟩
 obtain ⟨T,hT⟩:∃ T,rt V=T:=⟨_,rfl⟩
 rw [hV] at HU ⊢
 rw [hT]
 go_enter Tryz.func104,Tryz.ntmps104
 go_wp2_with fail
 refine (HU.out _).mono ?_
 rintro e w1 ⟨A,n,c,hn,rfl,hd,hb⟩
 have HK:=Lib.hid ((hb.block (w.heap.size+1) (by simp)).trans (heap_two w (.cells #[.bool b,.string s] 23) (.cells #[.bool false,.string ⟨#[]⟩] 23)))
 have hs1:w.heap.size+2≤w1.heap.size:=by have:=hb.size;simpa using this
 have HB:=Lib.hid ((((Below.refl w.heap.size w).alloc (Nat.le_refl _) (.cells #[.bool b,.string s] 23)).alloc (by simp) (.cells #[.bool false,.string ⟨#[]⟩] 23)).trans (hb.mono (by simp<;>omega)))
 have HD:=Lib.hid hd
 have HS1:=Lib.hid hs1
 obtain ⟨N,hN⟩:∃ N,N=(n+1) / 2:=⟨_,rfl⟩
 have hTN:T<256^N:=by rw [←hT,hN];exact rt_room HD.out.lt
 have HTN:=Lib.hid hTN
 have HT:=Lib.hid hT
 have hN1:N≤100000:=by omega
 have hmk2:=hmk N hN1
 have e1:IntKind.i64.wrap ((n:Int)+1)=(n:Int)+1:=IntWalk.i64_in _ (by omega)
 have e2:((n:Int)+1) / 2=(N:Int):=by omega
 clear hd hb hs1 hTN hT hV hmk hN HU
 go_wp2
 clear e1 e2 hmk2
 go_loopw [5] (fun iv wr=>∃ k:Nat,k≤8*N∧iv=.int .i64 ((k:Int)-1)∧wr.rowIs w1.heap.size 3 N (fun j=>.int .i64 (D 256 (T / 2^k*2^k) j:Int))∧Below w1.heap.size w1 wr) (fun iv _=>(intOf iv+1).toNat)
 case atStart =>
  refine ⟨8*N,Nat.le_refl _,?_,(World.rowIs_made w1 (.int .i64 0) N 3).congr fun j hj=>?_,(Below.refl _ _).alloc (Nat.le_refl _) _⟩
  · congr 1
    have h1:IntKind.i64.wrap ((N:Int)*8)=(N:Int)*8:=IntWalk.i64_in _ (by omega)
    have h2:IntKind.i64.wrap ((N:Int)*8-1)=(N:Int)*8-1:=IntWalk.i64_in _ (by omega)
    first | omega | (rw [h1,h2];omega)
  · have hz : T / 2 ^ (8 * N) = 0 := by
     apply Nat.div_eq_of_lt
     have h1:=HTN.out
     rw [show (256:Nat)^N=2^(8*N) by rw [Nat.pow_mul]] at h1
     exact h1
    rw [hz]
    simp [D]
 case round =>
  obtain ⟨k,hk,rfl,hrow,hbl⟩:=hrel
  rcases k with _ | i
  · have e:(((0:Nat):Int)-1)=-1:=rfl
    rw [e]
    clear e
    rw [Nat.pow_zero,Nat.mul_one,Nat.div_one] at hrow
    have HROW:=Lib.hid hrow
    have HBL:=Lib.hid hbl
    clear hrow hbl
    go_wp2_with fail
    refine (number_any false (some ⟨w1.heap.size,0,none⟩) N N T wr (by omega) ⟨HTN.out,fun _=>⟨_,0,rfl,HROW.out.lt,fun j hj=>by rw [Nat.zero_add];exact HROW.out.cell hj⟩⟩).mono ?_
    rintro e w5 ⟨rfl,hb5⟩
    have hall:=HBL.out.trans (hb5.mono HBL.out.size)
    have h1:=HS1.out
    obtain ⟨p0,p1,g0,g1⟩:=res2 (g:=w.heap.size+1) HK.out hall (by omega)
    obtain ⟨bz,mz,hbm⟩:=enc_form (sgn false T)
    rw [hbm]
    have HBM:=Lib.hid hbm
    have HAL:=Lib.hid (HB.out.trans (hall.mono (by omega)))
    clear hbm hall hb5 h1
    go_wp2
    exact bodyPost_ret (v:=.agg #[.bool bz,.string mz]) (by simp [results,Tryz.results104,go_sem,p0,p1]) rfl ⟨by rw [←HBM.out];rfl,(HAL.out.setCell (by show w.heap.size≤w.heap.size+1;omega) _).setCell (by show w.heap.size≤w.heap.size+1;omega) _⟩
  · have e:(((i+1:Nat):Int)-1)=(i:Int):=by omega
    rw [e]
    clear e
    obtain ⟨Q,hQ⟩:∃ Q,T / 2^(i+1)=Q:=⟨_,rfl⟩
    rw [hQ,show Q*2^(i+1)=2*Q*2^i by rw [Nat.pow_succ];ac_rfl] at hrow
    have hfit:=bit_fits (T:=T) (i:=i)
    have hnext:=bit_next T i
    rw [hQ] at hfit hnext
    obtain ⟨q,hq⟩:∃ q,i / 8=q:=⟨_,rfl⟩
    obtain ⟨p,hp⟩:∃ p,i%8=p:=⟨_,rfl⟩
    have hq1:(i:Int) / 8=(q:Int):=by omega
    have hp1:(i:Int)%8=(p:Int):=by omega
    have hq2:q<N:=by omega
    have hp2:p<8:=by omega
    have i0:(0:Int)≤(i:Int):=by omega
    have i1:(i:Int)≤8000000:=by omega
    have i2:IntKind.i64.wrap (q:Int)=(q:Int):=IntWalk.i64_in _ (by omega)
    have i3:(i:Int).tmod 8=(p:Int):=by rw [Int.tmod_eq_emod_of_nonneg (by omega)];exact hp1
    have i4:(0:Int)≤(q:Int):=by omega
    have i5:(q:Int)<(N:Int):=by omega
    have hsb:=set_bitN Q i
    rw [hq,hp] at hsb
    have hR:2*Q*2^i+2^i<256^N:=by
     have h1:=HTN.out
     rw [show (256:Nat)^N=2^(8*N) by rw [Nat.pow_mul]] at h1 ⊢
     have h2:2^(8*N)=2^(8*N-(i+1))*2^(i+1):=by rw [←Nat.pow_add];congr 1;omega
     have h3:Q<2^(8*N-(i+1)):=by
      rw [←hQ]
      apply (Nat.div_lt_iff_lt_mul (Nat.pow_pos (by decide))).2
      rw [←h2];exact h1
     have h4:=Nat.mul_le_mul_right (2^(i+1)) (show Q+1≤_ from h3)
     rw [←h2] at h4
     have h5:0<(2:Nat)^i:=Nat.pow_pos (by decide)
     have h6:(Q+1)*2^(i+1)=2*Q*2^i+2*2^i:=by rw [Nat.pow_succ,Nat.add_mul,Nat.one_mul];congr 1<;>ac_rfl
     omega
    have hqc:=hrow.cell (i:=q) hq2
    have hqf:=hrow.frozen q
    obtain ⟨u,hu⟩:∃ u,D 256 (2*Q*2^i) q=u:=⟨_,rfl⟩
    rw [hu] at hqc
    have hul:u<256:=by rw [←hu];exact D_lt (by omega) _ _
    obtain ⟨M,hM⟩:∃ M,2*Q*2^i+2^i=M:=⟨_,rfl⟩
    obtain ⟨M0,hM0⟩:∃ M0,2*Q*2^i=M0:=⟨_,rfl⟩
    rw [hM,hM0] at hsb
    rw [hM] at hR hfit
    rw [hM0] at hrow hu
    have hq0:T / 2^(i+1)*2^(i+1)=M0:=by rw [hQ,←hM0,Nat.pow_succ];ac_rfl
    have hnx:(M≤T→T / 2^i*2^i=M)∧(¬M≤T→T / 2^i*2^i=M0):=by
     constructor
     · intro h
       rw [hfit.1 h,←hM,Nat.add_mul,Nat.one_mul]
     · intro h
       rcases hnext with h1 | h1
       · rw [h1,←hM0]
       · exact absurd (hfit.2 h1) h
    have HNX:=Lib.hid hnx
    have HSB:=Lib.hid hsb
    have HR:=Lib.hid hR
    have HROW:=Lib.hid hrow
    have HBL:=Lib.hid hbl
    have HU:=Lib.hid hu
    have HUL:=Lib.hid (And.intro hul hp2)
    clear hnx hsb hR hrow hbl hu hfit hnext hQ hM hM0 hq0 hq hp
    go_wp2_with fail
    go_region_law (fail)
    have hv:=set_i64 HUL.out.1 HUL.out.2
    obtain ⟨z,hz⟩:∃ z:Nat,u+2^p=z:=⟨_,rfl⟩
    rw [hz] at hv
    obtain ⟨W2,hW⟩:∃ W2,W2=(wr.setCell ⟨w1.heap.size,q,none⟩ (.int .i64 (IntKind.i64.wrap ((u:Int)+IntKind.i64.wrap (2^p))))).drew:=⟨_,rfl⟩
    rw [←hW]
    have hrow2:W2.rowIs w1.heap.size 3 N (fun j=>.int .i64 (D 256 M j:Int)):=by
     rw [hW]
     refine ((HROW.out.set q _).congr fun j hj=>?_).drew
     show (if j=q then (Value.int .i64 (IntKind.i64.wrap ((u:Int)+IntKind.i64.wrap ((2:Int)^p)))) else _)=Value.int .i64 _
     rw [hv,HSB.out]
     by_cases e:j=q
     · rw [if_pos e,if_pos e,e,HU.out,hz]
     · rw [if_neg e,if_neg e]
    have hbl2:Below w1.heap.size w1 W2:=by rw [hW];exact (HBL.out.setCell (by show w1.heap.size≤w1.heap.size;omega) _).drew
    have HV:=Lib.hid (And.intro hv hz)
    have HROW2:=Lib.hid hrow2
    have HBL2:=Lib.hid hbl2
    have HDG:=Lib.hid (show Dg W2 .i64 256 (some ⟨w1.heap.size,0,none⟩) N M from ⟨HR.out,fun _=>⟨_,0,rfl,HROW2.out.lt,fun j hj=>by rw [Nat.zero_add];exact HROW2.out.cell hj⟩⟩)
    clear hv hz hrow2 hbl2 hW hqc hqf HBL
    go_wp2_with fail
    refine (product_any _ _ N N N N M M W2 (by omega) (by omega) HDG.out HDG.out).mono ?_
    rintro e w3 ⟨A3,n3,c3,hn3,rfl,hd3,hb3⟩
    have HD3:=Lib.hid hd3
    have HROW3:=Lib.hid (HROW2.out.of_block (hb3.block _ HROW2.out.lt))
    have HBL3:=Lib.hid (HBL2.out.trans (hb3.mono HBL2.out.size))
    have HDX:=Lib.hid (HD.out.below HBL3.out)
    clear hd3 hb3 HROW2 HBL2 HDG
    have HOR:=Lib.hid (order_anyN A3 A n3 n c3 c (M*M) V w3 (by omega) (by omega) HD3.out HDX.out)
    by_cases hle:M≤T
    · have ho : ¬ 0 < ord (M * M) V := by
       have h1:=sq_le_rt.2 (show M≤rt V by rw [HT.out];exact hle)
       unfold ord
       split
       · omega
       · rw [if_neg (by omega)];omega
      have HLE:=Lib.hid hle
      obtain ⟨o,ho2⟩:∃ o,ord (M*M) V=o:=⟨_,rfl⟩
      rw [ho2] at ho HOR
      have ho3:o≤0:=by omega
      clear hle ho2
      go_wp2_with fail
      refine HOR.out.mono ?_
      rintro e w4 ⟨rfl,rfl⟩
      go_wp2
      go_roundw
      case rel =>
       exact ⟨i,by omega,rfl,by rw [HNX.out.1 HLE.out];exact HROW3.out,HBL3.out⟩
      case measure=>simp [intOf]<;>omega
    · have ho : 0 < ord (M * M) V := by
       have h1:¬M*M≤V:=fun h=>hle (by rw [←HT.out];exact sq_le_rt.1 h)
       rw [ord_gt (by omega)]
       omega
      have HLE:=Lib.hid hle
      obtain ⟨o,ho2⟩:∃ o,ord (M*M) V=o:=⟨_,rfl⟩
      rw [ho2] at ho HOR
      clear hle ho2
      have hqc:=HROW3.out.cell (i:=q) hq2
      have hqf:=HROW3.out.frozen q
      have hMq:D 256 M q=z:=by rw [HSB.out,if_pos rfl,HU.out];exact HV.out.2
      rw [hMq] at hqc
      have HMQ:=Lib.hid hMq
      clear hMq
      go_wp2_with fail
      refine HOR.out.mono ?_
      rintro e w4 ⟨rfl,rfl⟩
      go_wp2_with fail
      go_region_law (fail)
      go_wp2
      go_roundw
      case rel =>
       refine ⟨i,by omega,rfl,?_,(HBL3.out.setCell (by show w1.heap.size≤w1.heap.size;omega) _).drew⟩
       rw [HNX.out.2 HLE.out]
       refine ((HROW3.out.set q _).congr fun j hj=>?_).drew
       have hv2:=unset_i64 HUL.out.1 HUL.out.2 HV.out.2
       show (if j=q then (Value.int .i64 (wrap64 ((z:Int)-wrap64 ((2:Int)^p)))) else _)=Value.int .i64 _
       rw [hv2]
       by_cases e:j=q
       · rw [if_pos e,e,HU.out]
       · rw [if_neg e,HSB.out,if_neg e]
      case measure=>simp [intOf]<;>omega
end Go.Proofs.YtpnokfgplnmjpaaGreatDoor
