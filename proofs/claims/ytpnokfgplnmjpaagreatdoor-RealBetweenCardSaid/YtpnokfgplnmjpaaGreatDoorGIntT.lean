import Derived.Test.YtpnokfgplnmjpaaGreatDoorGPk
import Derived.Test.YtpnokfgplnmjpaaGreatDoorGDivH
import Derived.Test.YtpnokfgplnmjpaaGreatDoorGDivD
import Derived.Test.YtpnokfgplnmjpaaGreatDoorGRefL
import Derived.Deep.RegionWith
import Derived.Test.YtpnokfgplnmjpaaGreatDoorGIntQ
import Derived.Test.YtpnokfgplnmjpaaGreatDoorGSgH
import Derived.Test.YtpnokfgplnmjpaaGreatDoorGSgT
import Derived.Test.YtpnokfgplnmjpaaGreatDoorGLawB
import Derived.Test.YtpnokfgplnmjpaaGreatDoorGQE
import Derived.Deep.DeepCutAuto
import Derived.Test.YtpnokfgplnmjpaaGreatDoorGLawA
import Derived.WalkLawsBesides
set_option linter.unusedSimpArgs false
set_option linter.unusedVariables false
set_option maxRecDepth 100000
set_option maxHeartbeats 8000000
open Go.Lib (hid)
open Go.Proofs.Tryz (prog)
namespace Go.Proofs.YtpnokfgplnmjpaaGreatDoor
open Go.RowKit
attribute [local go_sem ↓] Go.wp_at_zero Go.wp_at_succ
def RetQR (w:World) (A:Option Addr) (Q R NQ NR:Nat) (e:Ending) (w':World):Prop :=
 ∃ Aq nq cq Ar nr cr,nq≤NQ∧nr≤NR∧e=.returned (.tuple #[.slice Aq nq cq,.slice Ar nr cr])∧Nm w' Aq nq cq Q∧Nm w' Ar nr cr R∧Below w.heap.size w w' ∧
   (∀ k,Value.ownBlock (.slice Aq nq cq)=some k→w.heap.size≤k)∧(Ar=A∨∀ k,Value.ownBlock (.slice Ar nr cr)=some k→w.heap.size≤k)
def RetQRo (w:World) (Q R NQ NR:Nat) (e:Ending) (w':World):Prop :=
 ∃ Aq nq cq Ar nr cr,nq≤NQ∧nr≤NR∧e=.returned (.tuple #[.slice Aq nq cq,.slice Ar nr cr])∧Nm w' Aq nq cq Q∧Nm w' Ar nr cr R∧Below w.heap.size w w' ∧
   (∀ k,Value.ownBlock (.slice Aq nq cq)=some k→w.heap.size≤k)∧(∀ k,Value.ownBlock (.slice Ar nr cr)=some k→w.heap.size≤k)∧Own w' w.heap.size (.slice Ar nr cr) nr (nums .u64 (D B64 R) nr)
def rsN (X Y k:Nat):Nat:=X / B64^k%Y*B64^k+X%B64^k
def wdN (X Y j:Nat):Nat:=X / B64^(j+1)%Y*B64+D B64 X j
theorem rs_wd (X Y j:Nat):rsN X Y (j+1)=wdN X Y j*B64^j+X%B64^j:=by
 unfold rsN wdN;rw [mod_succ];generalize X / B64^(j+1)%Y=Z;rw [Nat.pow_succ',Nat.add_mul,Nat.mul_assoc,Nat.mul_comm (B64^j) (D B64 X j)];omega
theorem wd_lt {X Y j m:Nat} (hY:0<Y) (hYm:Y<B64^m):wdN X Y j<Y*B64∧wdN X Y j<B64^(m+1):=by
 have h1:=Nat.mod_lt (X / B64^(j+1)) hY;have h2:=D_lt B64_pos X j;unfold wdN;generalize X / B64^(j+1)%Y=Z at *;have h3:(Z+1)*B64≤Y*B64:=Nat.mul_le_mul_right _ h1;rw [Nat.add_mul,Nat.one_mul] at h3;have h4:Y*B64≤B64^m*B64:=Nat.mul_le_mul_right _ (Nat.le_of_lt hYm);rw [Nat.pow_succ];omega
theorem win_digit {V lo j i:Nat} (hlo:lo<B64^j):D B64 (V*B64^j+lo) (j+i)=D B64 V i:=by
 rw [D_high (k:=j) om,Nat.add_sub_cancel_left,Nat.mul_comm V,Nat.mul_add_div (Nat.pow_pos B64_pos),Nat.div_eq_of_lt hlo,Nat.add_zero]
theorem low_digit {V lo j i:Nat} (hi:i<j):D B64 (V*B64^j+lo) i=D B64 lo i:=by
 rw [Nat.add_comm,Nat.mul_comm];exact D_low B64_pos hi
theorem step_win {X Y j m:Nat} (hY:0<Y) (hYm:Y<B64^m) :
  (∀ i,D B64 (rsN X Y (j+1)) (j+i)=D B64 (wdN X Y j) i)∧wdN X Y j / Y=D B64 (X / Y) j∧∀ i,wnF (D B64 (rsN X Y (j+1))) j m (wdN X Y j%Y) i=D B64 (rsN X Y j) i:=by
 have hlo:X%B64^j<B64^j:=Nat.mod_lt _ (Nat.pow_pos B64_pos);obtain ⟨d1,d2⟩:=dw_step (b:=B64) (X:=X) (d:=Y) (j:=j) B64_pos hY;have hd2:wdN X Y j%Y=X / B64^j%Y:=d2;refine ⟨fun i=>by rw [rs_wd];exact win_digit hlo,d1,fun i=>?_⟩;rw [hd2];unfold wnF;by_cases e:j≤i∧i≤j+m
 · rw [if_pos e];obtain ⟨r,rfl⟩:∃ r,i=j+r:=⟨i-j,om⟩
   rw [Nat.add_sub_cancel_left];exact (win_digit hlo).symm
 · rw [if_neg e,rs_wd];by_cases e2:i<j
   · rw [low_digit e2];exact (low_digit e2).symm
   · obtain ⟨r,rfl⟩:∃ r,i=j+r:=⟨i-j,om⟩
     rw [win_digit hlo,D_zero_of B64_pos (wd_lt hY hYm).2 om];have h:D B64 (rsN X Y j) (j+r)=D B64 (X / B64^j%Y) r:=win_digit hlo;rw [h,D_zero_of B64_pos (n:=m) (Nat.lt_trans (Nat.mod_lt _ hY) hYm) om]
theorem top_shift {Y m:Nat} (hm:0<m) (hY:Y<B64^m) (ht:B64^(m-1)≤Y):∃ s,64-Lib.bitLen (D B64 Y (m-1))=s∧s≤63∧B64^m≤2*(Y*2^s)∧Y*2^s<B64^m:=by
 obtain ⟨k,rfl⟩:∃ k,m=k+1:=⟨m-1,om⟩
 rw [Nat.add_sub_cancel] at *;have hd0:D B64 Y k≠0:=D_pos B64_pos ht hY;have hdl:=D64_lt Y k;obtain ⟨h1,h2,h3⟩:=bitLen_bounds (D B64 Y k) hd0 om;have h4:=Lib.bitLen_le (D B64 Y k) 64 om om;have hs:=split1 hY;have hl:=Nat.mod_lt Y (show 0<B64^k from Nat.pow_pos B64_pos);generalize Lib.bitLen (D B64 Y k)=l at *;generalize D B64 Y k=y at *;generalize Y%B64^k=r at *;have hp:0<2^(64-l):=Nat.pow_pos om;have eb:B64^(k+1)=B64*B64^k:=Nat.pow_succ';refine ⟨64-l,rfl,om,?_,?_⟩
 · have e : 2 * 2 ^ (l - 1) * 2 ^ (64 - l) = B64 := by
    rw [←Nat.pow_succ',←Nat.pow_add,show l-1+1+(64-l)=64 by omega];rfl
   have h5:2*2^(l-1)*2^(64-l)*B64^k≤2*y*2^(64-l)*B64^k:=Nat.mul_le_mul_right _ (Nat.mul_le_mul_right _ (Nat.mul_le_mul_left _ h2));rw [e,←eb] at h5;have h6:y*B64^k*2^(64-l)≤Y*2^(64-l):=Nat.mul_le_mul_right _ (show y*B64^k≤Y by omega);have e6:2*y*2^(64-l)*B64^k=2*(y*B64^k*2^(64-l)):=by ac_rfl
   omega
 · have e : 2 ^ l * 2 ^ (64 - l) = B64 := by
    rw [←Nat.pow_add,show l+(64-l)=64 by omega];rfl
   have h5:(y+1)*(2^(64-l)*B64^k)≤2^l*(2^(64-l)*B64^k):=Nat.mul_le_mul_right _ h3;rw [←Nat.mul_assoc (2^l),e,←eb] at h5;have h6:Y<(y+1)*B64^k:=by rw [Nat.add_mul,Nat.one_mul];omega
   have h7:Y*2^(64-l)<(y+1)*B64^k*2^(64-l):=Nat.mul_lt_mul_of_pos_right h6 hp;have e7:(y+1)*B64^k*2^(64-l)=(y+1)*(2^(64-l)*B64^k):=by ac_rfl
   omega
theorem shiftLeft_0 (A:Option Addr) (n c X s:Nat) (w:World) (hn:n≤100000000) (hs:s≤63) (hx:Ng w A n c X) :
  Calls prog 183 #[.slice A n c,.int .i64 (s:Int)] w (RetNew w (n+1) (X*2^s)):=by
 have h:=shiftLeft_any A n c X s 0 s w hn om om om hx;rw [Nat.pow_zero,Nat.mul_one] at h;exact h
theorem shiftRight_0o (A:Option Addr) (n c X s:Nat) (w:World) (hn:n≤100000000) (hs:s≤63) (hx:Ng w A n c X) :
  Calls prog 182 #[.slice A n c,.int .i64 (s:Int)] w (RetNo w (X / 2^s) n):=by
 have h:=shiftRight_own A n c X s 0 s w hn om om om hx;rw [Nat.pow_zero,Nat.mul_one] at h;exact h
theorem divide_less (A B:Option Addr) (n m c d X Y:Nat) (w:World) (hn:n≤100000000) (hm:m≤100000000) (hx:Nm w A n c X) (hy:Nm w B m d Y) (hlt:X<Y) :
  Calls prog 151 #[.slice A n c,.slice B m d] w (RetQR w A (X / Y) (X%Y) n n):=by
 have HC:=hid (compare_any A B n m c d X Y w om om hx hy);rw [ord_lt hlt] at HC;rw [Nat.div_eq_of_lt hlt,Nat.mod_eq_of_lt hlt];have HX:=hid hx;clear hx hy hlt;go_enter Tryz.func151,Tryz.ntmps151;go_wp2_with fail
 refine HC.out.mono ?_;rintro e w1 ⟨rfl,hd⟩;go_wp2
 go_ret2
 exact ⟨none,0,0,A,n,c,Nat.zero_le _,Nat.le_refl _,rfl,Nm.nil _,HX.out.drew hd,hd.below _,fun z hz=>by simp [Value.ownBlock] at hz,.inl rfl⟩
theorem ord_ge {X Y:Nat} (h:Y≤X):∃ o:Int,ord X Y=o∧0≤o:=⟨_,rfl,by unfold ord;rw [if_neg om];split<;>omega⟩
theorem rd_one (w:World) (g:Nat) (T:TypeId) (a:Nat) (f:Nat→Nat) (h:w.heap[g]?=some (.cells #[.int .u64 (a:Int)] T (0,0))) (h0:f 0=a):Rd w .u64 (some ⟨g,0,none⟩) 1 f:=fun _=>by
 refine ⟨g,0,rfl,(Array.getElem?_eq_some_iff.1 h).1,fun i hi=>?_⟩;obtain rfl:i=0:=om;rw [h0];simp [World.cell?,h]
theorem divide_word (A B:Option Addr) (n c d X Y:Nat) (w:World) (hn:n≤100000000) (hx:Nm w A n c X) (hy:Nm w B 1 d Y) (hle:Y≤X) :
  Calls prog 151 #[.slice A n c,.slice B 1 d] w (RetQR w A (X / Y) (X%Y) n 1):=by
 have HC:=hid (compare_any A B n 1 c d X Y w om om hx hy);obtain ⟨o,ho,ho0⟩:=ord_ge hle;rw [ho] at HC;have hY:=hy.lt;have hY1:=hy.top om;rw [Nat.pow_one] at hY;rw [Nat.sub_self,Nat.pow_zero] at hY1;obtain ⟨g,p,rfl,hg,hcell⟩:=hy.rd om;have hc0:=hcell 0 om;have hd0:D B64 Y 0=Y:=by unfold D;rw [Nat.pow_zero,Nat.div_one,Nat.mod_eq_of_lt hY]
 rw [hd0,Nat.add_zero] at hc0;have hdw:=fun V (hV:Drew w V)=>divideWord_any A n c X Y V om hY1 (by rw [←B64_eq];exact hY) (hx.drew hV).toNg
 have hR:X%Y<18446744073709551616:=by have:=Nat.mod_lt X hY1;rw [B64_eq] at hY;omega
 have HDW:=hid hdw;have HRL:=hid (show X%Y<B64^1 by rw [Nat.pow_one,B64_eq];exact hR);have hDR:D B64 (X%Y) 0=X%Y:=by unfold D;rw [Nat.pow_zero,Nat.div_one,B64_eq,Nat.mod_eq_of_lt hR]
 have HDR:=hid hDR;clear hdw hx hy hcell hd0 hle ho hDR;generalize X%Y=R at *;generalize X / Y=Q at *;go_enter Tryz.func151,Tryz.ntmps151;go_wp2_with fail
 refine HC.out.mono ?_;rintro e w1 ⟨rfl,hd⟩;have hc1:=(hd.cell ⟨g,p,none⟩).trans hc0;have HD:=hid hd;clear hd;go_wp2_with fail
 refine (HDW.out _ HD.out).mono ?_;rintro e w2 ⟨Aq,nq,cq,hnq,rfl,hq,hb2,hf2⟩;have HQ:=hid hq;have HB2:=hid hb2;have HF2:=hid hf2;clear hq hb2 hf2 hc1;go_wp2_with fail
 refine (trim_any (some ⟨w2.heap.size,0,none⟩) 1 1 R _ om ⟨HRL.out,Nat.le_refl _,rd_one _ _ _ R _ (heap_one _ _) HDR.out⟩).mono ?_;rintro e w3 ⟨k,hk,rfl,hnm,rfl⟩;have HNM:=hid hnm;clear hnm;have hbb:Below w2.heap.size w2 (w2.alloc (.cells #[.int .u64 (R:Int)] 124)):=(Below.refl _ _).alloc (Nat.le_refl _) _;have hss:w.heap.size≤w2.heap.size:=by have:=(HD.out.below w.heap.size).size;have:=HB2.out.size;omega
 have hs1:w.heap.size≤w1.heap.size:=(HD.out.below w.heap.size).size;go_wp2
 go_ret2
 refine ⟨Aq,nq,cq,_,k,1,hnq,hk,rfl,⟨HQ.out.toNg.below hbb,HQ.out.top⟩,HNM.out,?_,fun z hz=>?_,.inr fun z hz=>?_⟩
 · exact ((HD.out.below _).trans (HB2.out.mono hs1)).trans (hbb.mono hss)
 · have:=HF2.out z hz;omega
 · simp [Value.ownBlock] at hz;omega
theorem Lies.grown {w w':World} {g n b:Nat} {f:Nat→Nat} (h:Lies w g n f) (hg:w.grownBy w' (some b)) (hne:g≠b):Lies w' g n f:=h.of_block (hg.block g h.lt (fun e=>hne (by injection e)))
theorem Lies.other {w:World} {g n b:Nat} {f:Nat→Nat} (h:Lies w g n f) (i:Nat) (v:Value) (hne:g≠b):Lies (w.setCell ⟨b,i,none⟩ v) g n f:=h.of_block (Below.heap_setCell w ⟨b,i,none⟩ v g hne)
theorem Lies.take {w:World} {g n m:Nat} {f:Nat→Nat} (h:Lies w g n f) (hm:m≤n):Lies w g m f:=by
 obtain ⟨cur,T,hg,hn,hc⟩:=h;exact ⟨cur,T,hg,om,fun i hi=>hc i om⟩
theorem Drew.drew {w w':World} (h:Drew w w'):Drew w w'.drew:=h.drewN 1
structure Dv (w:World) (B g1 g2 g3 n m Q:Nat) (F1 F2 F3:Nat→Nat):Prop where
 l1:Lies w g1 n F1
 l2:Lies w g2 m F2
 l3:Lies w g3 Q F3
 b1:B≤g1
 b12:g1<g2
 b23:g2<g3
theorem divide_long_own (A B:Option Addr) (n m2 c d X Y:Nat) (w:World) (hn:n≤100000000) (hx:Nm w A n c X) (hy:Nm w B (m2+2) d Y) (hle:Y≤X) :
  Calls prog 151 #[.slice A n c,.slice B (m2+2) d] w (RetQRo w (X / Y) (X%Y) (n+1) (m2+2)):=by
 have hmn:m2+2≤n:=Nm.le_len hx.toNg hy hle;have HC:=hid (compare_any A B n (m2+2) c d X Y w om om hx hy);obtain ⟨o,ho,ho0⟩:=ord_ge hle;rw [ho] at HC;obtain ⟨s,hs,hs63,hYt,hYl⟩:=top_shift om hy.lt (hy.top om);obtain ⟨g,p,rfl,hg,hcell⟩:=hy.rd om;have hct:=hcell (m2+1) om;have hydl:=D64_lt Y (m2+1);have hlz:=fun V=>lz_any (D B64 Y (m2+1)) s hs hydl V
 have hs1:=fun V (hV:Drew w V)=>shiftLeft_0 A n c X s V om hs63 (hx.drew hV).toNg
 have hs2:=fun V (hV:Below w.heap.size w V)=>shiftLeft_0 (some ⟨g,p,none⟩) (m2+2) d Y s V om hs63 (hy.toNg.below hV)
 have hp:0<2^s:=Nat.pow_pos om
 have hY0:0<Y*2^s:=by
  have:0<B64^(m2+2):=Nat.pow_pos B64_pos;omega
 have hXl:X*2^s<B64^(n+1):=by
  rw [Nat.pow_succ];have h1:2^s≤2^63:=Nat.pow_le_pow_right om hs63;exact Nat.mul_lt_mul'' hx.lt (by rw [B64_eq];omega)
 have hdv:X*2^s / (Y*2^s)=X / Y∧X*2^s%(Y*2^s)=X%Y*2^s:=⟨Nat.mul_div_mul_right _ _ hp,Nat.mul_mod_mul_right _ _ _⟩
 have hstart:X*2^s / B64^(n-(m2+2)+1)<Y*2^s:=by
  apply Nat.div_lt_of_lt_mul;have h1:2^s≤2^63:=Nat.pow_le_pow_right om hs63;have h2:=Nat.mul_lt_mul_of_lt_of_le hx.lt h1 om;have h3:B64^(n-(m2+2)+1)*B64^(m2+2)≤B64^(n-(m2+2)+1)*(2*(Y*2^s)):=Nat.mul_le_mul_left _ hYt
  have e1:B64^(n-(m2+2)+1)*B64^(m2+2)=B64^n*B64:=by
   rw [←Nat.pow_add,←Nat.pow_succ];congr 1;omega
  have e2:B64^n*B64=2*(B64^n*2^63):=by
   generalize B64^n=P;rw [show B64=2*2^63 from rfl]
   ac_rfl
  have e3:B64^(n-(m2+2)+1)*(2*(Y*2^s))=2*(B64^(n-(m2+2)+1)*(Y*2^s)):=by ac_rfl
  omega
 obtain ⟨Q,hQ⟩:∃ Q,n-(m2+2)+1=Q:=⟨_,rfl⟩
 rw [hQ] at hstart;have hQ1:Q+m2+1=n:=om;have hmk:=fun V=>run_make_row' (P:=prog) 131 124 (.int .u64 0) 8 Tryz.underlying131 natInfo rfl .i64 .i64 Q om om V
 have ec:((Q:Nat):Int)=(n:Int)-((m2:Int)+2)+1:=om;have hmk2:=hmk;rw [ec] at hmk2;have HQ1:=hid hQ1;have hQn:Q+m2+1≤n:=om;have hQn2:n≤Q+m2+1:=om;clear hQ hmk ec hQ1;obtain ⟨X',hX'⟩:∃ X',X*2^s=X':=⟨_,rfl⟩
 obtain ⟨Y',hY'⟩:∃ Y',Y*2^s=Y':=⟨_,rfl⟩
 rw [hX'] at hs1 hXl hdv hstart;rw [hY'] at hs2 hY0 hYt hYl hdv hstart;have HS1:=hid hs1;have HS2:=hid hs2;have HLZ:=hid hlz;have HDV:=hid hdv;have HST:=hid hstart;have HYT:=hid hYt;have HYL:=hid hYl;have HXL:=hid hXl;have hp0:=hp;clear hx hy hcell hs hs1 hs2 hlz hdv hstart hYt hYl hXl hX' hY' hle hp ho;have HMK:=hid hmk2;clear hmk2;have i1:(0:Int)≤(m2:Int)+1:=om;have i2:(m2:Int)+1<(m2:Int)+2:=om;go_enter Tryz.func151,Tryz.ntmps151;go_wp2_with fail
 refine HC.out.mono ?_;rintro e w1 ⟨rfl,hd⟩;have hc1:=(hd.cell ⟨g,p+(m2+1),none⟩).trans hct;have HD:=hid hd;clear hd;go_wp2_with fail
 refine (HLZ.out _).mono ?_;rintro e w' ⟨rfl,rfl⟩;go_wp2_with fail
 have hw1:w.heap.size≤w1.heap.size:=(HD.out.below w.heap.size).size;have j1:(0:Int)≤(m2:Int)+2:=om;have j2:(m2:Int)+2≤(m2:Int)+2+1:=om;have j3:((m2:Int)+2).toNat=m2+2:=om;clear hc1 hct hydl i1 i2
 go_region_with (first
  | (go_at_call 183;(with_reducible refine (HS1.out _ ?_).mono ?_);(exact HD.out.drew);rintro e w2 ⟨g1,rfl,hl1,hb2,hg1⟩;have hw2:w1.heap.size≤w2.heap.size:=hb2.size;have hg1':w1.heap.size≤g1:=hg1)
  | (go_at_call 183;(with_reducible refine (HS2.out _ ?_).mono ?_);(exact (HD.out.drew.below _).trans (hb2.mono hw1));rintro e w3 ⟨g2,rfl,hl2,hb3,hg2⟩;have hw3:w2.heap.size≤w3.heap.size:=hb3.size))
 have hmk2:=HMK.out;have hl1':=Lies.below hl1 hb3 hl1.lt;have hb3':Below w.heap.size w w3:=((HD.out.drew.below _).trans (hb2.mono hw1)).trans (hb3.mono om);have hl1s:=hl1.lt;have hl2s:=hl2.lt;have HL1:=hid hl1';have HL2:=hid hl2;have HB3:=hid hb3';clear hl1 hl1' hl2 hb2 hb3 hb3' j1 j2 j3;have hg12:g1<g2:=om;have hg23:g2<w3.heap.size:=hl2s;have hgw:w.heap.size≤g1:=om;have hL2m:=HL2.out.take (show m2+2≤m2+2+1 by omega);have HL2M:=hid hL2m;have hwY:=fun j=>step_win (X:=X') (Y:=Y') (j:=j) (m:=m2+2) hY0 HYL.out
 have HWY:=hid hwY;clear hL2m hwY hl1s hl2s;go_wp2
 clear hmk2;go_loopw [11] (fun iv wr=>∃ k:Nat,k≤Q∧iv=.int .i64 ((k:Int)-1)∧Dv wr w.heap.size g1 g2 w3.heap.size (n+1) (m2+2) Q (D B64 (rsN X' Y' k)) (D B64 Y') (fun j=>if k≤j then D B64 (X' / Y') j else 0)∧Below w.heap.size w wr) (fun iv _=>(intOf iv+1).toNat)
 case atStart =>
  have hr0:rsN X' Y' Q=X':=by
   unfold rsN;rw [Nat.mod_eq_of_lt HST.out,Nat.mul_comm];exact Nat.div_add_mod _ _
  refine ⟨Q,Nat.le_refl _,rfl,⟨?_,?_,(Lies.of_made w3 Q).congr fun i hi=>by rw [if_neg om],hgw,hg12,hg23⟩,HB3.out.alloc om _⟩
  · rw [hr0];exact Lies.below HL1.out ((Below.refl _ _).alloc (Nat.le_refl _) _) om
  · exact Lies.below HL2M.out ((Below.refl _ _).alloc (Nat.le_refl _) _) om
 case round =>
  obtain ⟨k,hk,rfl,hdv,hbl⟩:=hrel;rcases k with _ | j
  · have e:(((0:Nat):Int)-1)=-1:=rfl;rw [e];clear e;have hr0:rsN X' Y' 0=X'%Y':=by unfold rsN;rw [Nat.pow_zero,Nat.div_one,Nat.mul_one,Nat.mod_one,Nat.add_zero]
    have hrl:X'%Y'<B64^(m2+2):=Nat.lt_trans (Nat.mod_lt _ hY0) HYL.out
    have hql:X' / Y'<B64^Q:=by
     rw [Nat.div_lt_iff_lt_mul hY0];have h1:=HST.out;rw [Nat.div_lt_iff_lt_mul (Nat.pow_pos B64_pos)] at h1;rw [Nat.mul_comm];exact h1
    have hnq:Ng wr (some ⟨w3.heap.size,0,none⟩) Q Q (X' / Y'):=⟨hql,Nat.le_refl _,(hdv.l3.congr fun i _=>by rw [if_pos (Nat.zero_le _)]).rd⟩;have hnr:Ng wr (some ⟨g1,0,none⟩) (m2+2) (n+1) (X'%Y'):=⟨hrl,om,by have:=(hdv.l1.take (show m2+2≤n+1 by omega)).rd;rw [hr0] at this;exact this⟩;have hD1:=HDV.out.1;have hD2:=HDV.out.2;rw [hD1] at hnq;have HNQ:=hid hnq;have HNR:=hid hnr;have HD2:=hid hD2;have HBL:=hid hbl;clear hr0 hrl hql hnq hnr hD1 hD2 hbl hdv;have j1:(0:Int)≤(m2:Int)+2:=om;have j2:(m2:Int)+2≤(n:Int)+1:=om;have j3:((m2:Int)+2).toNat=m2+2:=om;go_wp2_with fail
    go_region_with (first
     | (go_at_call 177;(with_reducible refine (trim_any (some ⟨w3.heap.size,0,none⟩) Q Q (X / Y) _ ?_ ?_).mono ?_);(omega);(exact HNQ.out.drewN 1);rintro e wq ⟨kq,hkq,rfl,hnmq,rfl⟩;have HNMQ:=hid hnmq;clear hnmq)
     | (go_at_call 177;(with_reducible refine (trim_any (some ⟨g1,0,none⟩) (m2+2) (n+1) (X'%Y') _ ?_ ?_).mono ?_);(omega);(exact HNR.out.drewN 1);rintro e wq ⟨kr,hkr,rfl,hnmr,rfl⟩;have HNMR:=hid hnmr;clear hnmr)
     | (go_at_call 182;(with_reducible refine (shiftRight_0o (some ⟨g1,0,none⟩) kr (n+1) (X'%Y') s _ ?_ ?_ ?_).mono ?_);(omega);(omega);(exact HNMR.out.toNg);rintro e w6 ⟨Ar,nr,cr,hnr,rfl,hmr,hb6,hfr,hor⟩))
    have hwr:=HBL.out.size;have hq2:X'%Y' / 2^s=X%Y:=by rw [HD2.out,Nat.mul_div_cancel _ hp0]
    rw [hq2] at hmr hor;have HOR:=hid (hor.mono (base':=w.heap.size) (show w.heap.size≤wr.heap.size from hwr));have HMR:=hid hmr;have HB6:=hid hb6;have HFR:=hid hfr;clear hmr hb6 hfr hq2 hor;go_wp2
    go_ret2
    refine ⟨_,kq,Q,Ar,nr,cr,om,om,rfl,⟨HNMQ.out.toNg.below HB6.out,HNMQ.out.top⟩,HMR.out,HBL.out.drew.trans (HB6.out.mono hwr),fun z hz=>?_,fun z hz=>?_,HOR.out⟩
    · simp [Value.ownBlock] at hz;omega
    · have h9:wr.heap.size≤z:=HFR.out z hz;omega
  · have e:(((j+1:Nat):Int)-1)=(j:Int):=om;rw [e];clear e;obtain ⟨w1',w2',w3'⟩:=HWY.out j;obtain ⟨v1,v2⟩:=wd_lt (X:=X') (j:=j) hY0 HYL.out;have hqd:=fun V (hV:Drew wr V) (L:Nat) (hL:L=m2+3) (M:Nat) (hM:M=m2+2)=>quotientDigit_any g1 j (n+1) m2 (n+1-j) _ (some ⟨g2,0,none⟩) (m2+2+1) (wdN X' Y' j) Y' L M V hL hM om om om om (hdv.l1.drew hV) (fun i hi=>w1' i) v2 (hdv.l2.drew hV).rd HYL.out HYT.out v1 (fun a ha=>by injection ha with ha;subst ha;show g2≠g1;omega)
    rw [w2'] at hqd;obtain ⟨qd,hqde⟩:∃ q,D B64 (X' / Y') j=q:=⟨_,rfl⟩
    rw [hqde] at hqd;have HQD:=hid hqd;have HDV2:=hid hdv;have HW3:=hid w3';have HQE:=hid hqde;have HBL:=hid hbl;have i1:(0:Int)≤(j:Int):=om;have i2:(j:Int)≤(j:Int)+((m2:Int)+2)+1:=om;have i3:(j:Int)+((m2:Int)+2)+1≤(n:Int)+1:=om;have i4:(j:Int)<(Q:Int):=om;have i5:¬(n+1=j):=om;clear hqd w1' w2' w3' v1 v2 hdv hqde hbl;go_wp2_with fail
    refine (HQD.out _ (Drew.refl _) _ om _ rfl).mono ?_;rintro e w5 ⟨rfl,hl5,hg5⟩;have hl3:=HDV2.out.l3.grown hg5 om;have hcs:=hl3.cell (i:=j) om;have hfs:=hl3.frozen j;have hsz5:=hg5.size;have hwr:=HBL.out.size;have HL3:=hid hl3;have HL5:=hid hl5;have HG5:=hid hg5;clear hl3 hl5 hg5;go_wp2
    go_roundw
    case rel =>
     refine ⟨j,om,by go_num,⟨(HL5.out.congr fun i _=>HW3.out i).other _ _ om,(HDV2.out.l2.grown HG5.out om).other _ _ om,(HL3.out.set j qd).congr fun i hi=>?_,hgw,hg12,hg23⟩,(HBL.out.trans (below_of_grown (g:=g1) HG5.out om hgw)).setCell (by show w.heap.size≤w3.heap.size;omega) _⟩;by_cases e:i=j
     · rw [if_pos e,if_pos om,←HQE.out,e]
     · exact k102
    case measure=>simp [intOf]<;>omega
theorem divide_long (A B:Option Addr) (n m2 c d X Y:Nat) (w:World) (hn:n≤100000000) (hx:Nm w A n c X) (hy:Nm w B (m2+2) d Y) (hle:Y≤X) :
  Calls prog 151 #[.slice A n c,.slice B (m2+2) d] w (RetQR w A (X / Y) (X%Y) (n+1) (n+1)) :=
 (divide_long_own A B n m2 c d X Y w hn hx hy hle).mono fun _ _ ⟨Aq,nq,cq,Ar,nr,cr,k1,k2,h1,h2,h3,h4,h5,h6,_⟩ =>
  ⟨Aq,nq,cq,Ar,nr,cr,k1,by have:=Nm.le_len hx.toNg hy hle;omega,h1,h2,h3,h4,h5,.inr h6⟩
theorem divide_any (A B:Option Addr) (n m c d X Y:Nat) (w:World) (hn:n≤100000000) (hm:m≤100000000) (hx:Nm w A n c X) (hy:Nm w B m d Y) (h0:0<Y) :
  Calls prog 151 #[.slice A n c,.slice B m d] w (RetQR w A (X / Y) (X%Y) (n+1) (n+1)):=by
 have mono:∀ {Q R a b e w'},a≤n+1→b≤n+1→RetQR w A Q R a b e w'→RetQR w A Q R (n+1) (n+1) e w':=fun h1 h2 ⟨Aq,nq,cq,Ar,nr,cr,k1,k2,r⟩=>⟨Aq,nq,cq,Ar,nr,cr,om,om,r⟩
 by_cases hlt:X<Y
 · exact (divide_less A B n m c d X Y w hn hm hx hy hlt).mono fun e w'=>mono om om
 · have hmn:m≤n:=Nm.le_len hx.toNg hy om;by_cases h1:m=1
   · subst h1;exact (divide_word A B n c d X Y w hn hx hy om).mono fun e w'=>mono om om
   · have hm0:m≠0:=fun h=>by have:=hy.zero.1 h;omega
     obtain ⟨m2,rfl⟩:∃ m2,m=m2+2:=⟨m-2,om⟩
     exact divide_long A B n m2 c d X Y w hn hx hy om
structure K4 (w:World) (T:TypeId) (v0 v1 v2 v3:Value) (w1:World):Prop where
 k0:w1.heap[w.heap.size]?=some (.cells #[v0,v1] T (0,0))
 k1:w1.heap[w.heap.size+1]?=some (.cells #[v2,v3] T (0,0))
 k2:w1.heap[w.heap.size+2]?=some (.cells #[.bool false,.string ⟨#[]⟩] T (0,0))
 k3:w1.heap[w.heap.size+3]?=some (.cells #[.bool false,.string ⟨#[]⟩] T (0,0))
 sz:w.heap.size+4≤w1.heap.size
 bel:Below w.heap.size w w1
theorem K4.start (w:World) (T:TypeId) (v0 v1 v2 v3:Value):K4 w T v0 v1 v2 v3 ((((w.alloc (.cells #[v0,v1] T)).alloc (.cells #[v2,v3] T)).alloc (.cells #[.bool false,.string ⟨#[]⟩] T)).alloc (.cells #[.bool false,.string ⟨#[]⟩] T)):=by
 obtain ⟨a1,a2,a3,a4⟩:=heap_four w (.cells #[v0,v1] T) (.cells #[v2,v3] T) (.cells #[.bool false,.string ⟨#[]⟩] T) (.cells #[.bool false,.string ⟨#[]⟩] T);exact ⟨a1,a2,a3,a4,by simp,((((Below.refl _ _).alloc (Nat.le_refl _) _).alloc (by simp) _).alloc sm _).alloc sm _⟩
theorem K4.next {w:World} {T:TypeId} {v0 v1 v2 v3:Value} {w1 w2:World} {B:Nat} (h:K4 w T v0 v1 v2 v3 w1) (hb:Below B w1 w2) (hB:w.heap.size+4≤B):K4 w T v0 v1 v2 v3 w2:=by
 have hs:=h.sz;refine ⟨(hb.block _ om).trans h.k0,(hb.block _ om).trans h.k1,(hb.block _ om).trans h.k2,(hb.block _ om).trans h.k3,?_,h.bel.trans (hb.mono om)⟩;have:=hb.size;omega
theorem K4.stored {w:World} {T:TypeId} {v0 v1 v2 v3:Value} {w1:World} (h:K4 w T v0 v1 v2 v3 w1) (x y z u:Value):Below w.heap.size w ((((w1.setCell ⟨w.heap.size+2,0,none⟩ x).setCell ⟨w.heap.size+2,1,none⟩ y).setCell ⟨w.heap.size+3,0,none⟩ z).setCell ⟨w.heap.size+3,1,none⟩ u) :=
 (((h.bel.setCell (by show w.heap.size≤w.heap.size+2;omega) _).setCell (by show w.heap.size≤w.heap.size+2;omega) _).setCell (by show w.heap.size≤w.heap.size+3;omega) _).setCell (by show w.heap.size≤w.heap.size+3;omega) _
structure Up (w:World) (T:TypeId) (v0 v1 v2 v3:Value) (S:Nat) (A1 A2:Option Addr) (n1 d1 n2 d2 X Y N1 N2:Nat) (w3:World):Prop where
 k:K4 w T v0 v1 v2 v3 w3
 hS:w.heap.size+4≤S
 hx:Nm w3 A1 n1 d1 X
 hy:Nm w3 A2 n2 d2 Y
 sp:Is16 w3 (S+2)
 ax:∀ a,A1=some a→a.block≠S+2
 ay:∀ a,A2=some a→a.block≠S+2
 n1b:n1≤N1
 n2b:n2≤N2
 sz:S+3≤w3.heap.size
theorem below_none {a b:World} {B:Nat} (hg:a.grownBy b none) (hB:B≤a.heap.size):Below B a b:=(Below.refl B a).grown hg hB (fun k hk=>by cases hk)
theorem divMod_deep (na nb:Bool) (a b:ByteArray) (ha:a.size≤400000000) (hb:b.size≤400000000) (xw yw:Nat) (ok:Bool) (hok:ok=false∨yw=0)
  (hwd:∀ V,Calls prog 141 #[.agg #[.bool na,.string a],.agg #[.bool nb,.string b]] V (RetW V xw yw ok)) (w:World) (R:Ending→World→Prop)
  (hR0:bval b=0→∀ w',Below w.heap.size w w'→R (.returned (.tuple #[.agg #[.bool false,.string ⟨#[]⟩],.agg #[.bool false,.string ⟨#[]⟩],.int .i64 6])) w')
  (hR1:bval b≠0→∀ w' b1 m1 b2 m2,Hid (enc (sgn na (bval a) / sgn nb (bval b))=.agg #[.bool b1,.string m1])→Hid (enc (sgn na (bval a)%sgn nb (bval b))=.agg #[.bool b2,.string m2])→Below w.heap.size w w'→R (.returned (.tuple #[.agg #[.bool b1,.string m1],.agg #[.bool b2,.string m2],.int .i64 0])) w') :
  Calls prog 100 #[.agg #[.bool na,.string a],.agg #[.bool nb,.string b]] w R:=by
 have K0:=hid (K4.start w 23 (.bool na) (.string a) (.bool nb) (.string b));have HWD:=hid hwd;have HR0:=hid hR0;have HR1:=hid hR1;clear hwd hR0 hR1;have hok2:ok=true→yw=0:=fun h=>by rcases hok with h1 | h1<;>simp_all
 go_enter Tryz.func100,Tryz.ntmps100;go_wp2_with fail
 refine (HWD.out _).mono ?_;rintro e w1 ⟨rfl,hb1⟩;have K1:=hid (K0.out.next hb1 sm);obtain ⟨c0,c1,_,_⟩:=blk_cells K1.out.k0;obtain ⟨c2,c3,_,_⟩:=blk_cells K1.out.k1;have hsz:=K1.out.sz;have hw2:∃ W,W=((w1.alloc arr16).alloc arr16).alloc arr16:=⟨_,rfl⟩
 obtain ⟨W,hW⟩:=hw2;obtain ⟨l1,l2,l3⟩:=heap_three_all w1 arr16 arr16 arr16;rw [←hW] at l1 l2 l3;have hbW:Below w1.heap.size w1 W:=by rw [hW];exact ((((Below.refl _ _).alloc (Nat.le_refl _) _).alloc (by simp) _).alloc sm _)
 have hszW:W.heap.size=w1.heap.size+3:=by rw [hW];simp
 have iA:Is16 W w1.heap.size:=⟨_,l1,by simp⟩;have iB:Is16 W (w1.heap.size+1):=⟨_,l2,by simp⟩;have iC:Is16 W (w1.heap.size+2):=⟨_,l3,by simp⟩;have c0':=(hbW.cell (p:=⟨w.heap.size,0,none⟩) (by show w.heap.size<_;omega)).trans c0;have c1':=(hbW.cell (p:=⟨w.heap.size,1,none⟩) (by show w.heap.size<_;omega)).trans c1;have c2':=(hbW.cell (p:=⟨w.heap.size+1,0,none⟩) (by show w.heap.size+1<_;omega)).trans c2;have c3':=(hbW.cell (p:=⟨w.heap.size+1,1,none⟩) (by show w.heap.size+1<_;omega)).trans c3;have HU1:=hid (fun V (hV:Is16 V w1.heap.size)=>unpack_any (.slice (some ⟨w1.heap.size,0,none⟩) 0 16) a 0 V om (Nat.zero_le _) hV.own);have HU2:=hid (fun V (hV:Is16 V (w1.heap.size+1))=>unpack_any (.slice (some ⟨w1.heap.size+1,0,none⟩) 0 16) b 0 V om (Nat.zero_le _) hV.own);have KW:=hid (K1.out.next hbW hsz);have IA:=hid iA;have IB:=hid iB;have IC:=hid iC;have HW:=hid hW;have HBW:=hid hbW;have HSW:=hid hszW;clear l1 l2 l3 hbW hszW iA iB iC c0 c1 c2 c3 hW hb1;rcases ok with _ | _
 all_goals
  first
  | (obtain rfl:yw=0:=hok2 rfl)
  | skip
  clear hok hok2;go_wp2_with fail
  have hw9:((w1.alloc arr16).alloc arr16).alloc arr16=W:=HW.out.symm;unfold arr16 at hw9;rw [hw9];clear hw9;have hp1:w.heap.size<W.heap.size:=by have:=HSW.out;omega
  have hp2:w.heap.size+1<W.heap.size:=by have:=HSW.out;omega
  go_region_held3 (fun w'=>w'.cell? ⟨w.heap.size,1,none⟩=some (.string a)∧w'.cell? ⟨w.heap.size+1,1,none⟩=some (.string b))
   (first
    | go_keep
    | exact ⟨y1,y2⟩
    | exact ⟨z1,z2⟩)
   (first
    | (go_at_call 144;(with_reducible refine (HU1.out _ ?_).mono ?_);(exact IA.out.keep rfl);rintro e w2 ⟨A1,n1,d1,hn1,rfl,hm1,hg2,hbk1⟩;have z1:=keep_cell (W:=W.drew) (g:=w1.heap.size) hg2 hp1 om c1';have z2:=keep_cell (W:=W.drew) (g:=w1.heap.size) hg2 hp2 om c3';have hq1:=Nat.lt_of_lt_of_le hp1 hg2.size;have hq2:=Nat.lt_of_lt_of_le hp2 hg2.size)
    | (go_at_call 144;(with_reducible refine (HU2.out _ ?_).mono ?_);(exact keep_16 (W:=W.drew) (g:=w1.heap.size) hg2 om (IB.out.keep rfl));rintro e w3 ⟨A2,n2,d2,hn2,rfl,hm2,hg3,hbk2⟩;have y1:=keep_cell (g:=w1.heap.size+1) hg3 hq1 om z1;have y2:=keep_cell (g:=w1.heap.size+1) hg3 hq2 om z2))
  have hs2:W.heap.size≤w2.heap.size:=hg2.size;have hs3:w2.heap.size≤w3.heap.size:=hg3.size;have hsW:=HSW.out;have ax:=apart (g:=w1.heap.size) (p:=w1.heap.size+1) hbk1 om (by show _<W.heap.size;omega);have axC:=apart (g:=w1.heap.size) (p:=w1.heap.size+2) hbk1 om (by show _<W.heap.size;omega);have ayC:=apart (g:=w1.heap.size+1) (p:=w1.heap.size+2) hbk2 om om;have hbl:Below w1.heap.size W w3:=((Below.refl _ W).drew.trans (below_of_grown (g:=w1.heap.size) hg2 (by show _≤W.heap.size;omega) (Nat.le_refl _))).trans (below_of_grown (g:=w1.heap.size+1) hg3 om om)
  have UP:=hid (show Up w 23 (.bool na) (.string a) (.bool nb) (.string b) w1.heap.size A1 A2 n1 d1 n2 d2 (bval a) (bval b) _ _ w3 from
   ⟨KW.out.next hbl om,hsz,⟨⟨hm1.lt,hm1.cap,hm1.rd.grown hg3 (fun q hq z hz e=>ax z hz (e.trans (row_eq hq).symm))⟩,hm1.top⟩,hm2,keep_16 (g:=w1.heap.size+1) hg3 om (keep_16 (W:=W.drew) (g:=w1.heap.size) hg2 om (IC.out.keep rfl)),axC,ayC,hn1,hn2,om⟩)
  clear hg2 hg3 hbk1 hbk2 hm1 hm2 ax axC ayC hn1 hn2 z1 z2 y1 y2 c0' c1' c2' c3' hq1 hq2 hp1 hp2 hs2 hs3 hsW hbl HU1 HU2 IA IB IC HW HBW HSW KW K1;generalize bval a=X at *;generalize bval b=Y at *;by_cases hY:Y=0
  · have hn0:n2=0:=UP.out.hy.zero.2 hY;have HR:=hid (HR0.out hY);subst hn0;clear hY;obtain ⟨p0,p1,p2,p3⟩:=blk_cells UP.out.k.k2;obtain ⟨q0,q1,q2,q3⟩:=blk_cells UP.out.k.k3;go_wp2
    exact bodyPost_ret (v:=.tuple #[.agg #[.bool false,.string ⟨#[]⟩],.agg #[.bool false,.string ⟨#[]⟩],.int .i64 6]) (by simp [results,Tryz.results100,go_sem,p0,p1,q0,q1]) rfl (HR.out _ (by first | exact UP.out.k.bel | exact UP.out.k.stored _ _ _ _))
  · have hn0:n2≠0:=fun h=>hY (UP.out.hy.zero.1 h)
    have hn0b:((n2:Int)==0)=false:=by simp;omega
    have hn0c:0<n2:=om;have HR:=hid (HR1.out hY);obtain ⟨hd1,hd2⟩:=div_signs na nb (x:=X) (y:=Y) (q:=X / Y) (r:=X%Y) (Nat.div_add_mod X Y).symm (Nat.mod_lt _ om);have HD1:=hid hd1;have HD2:=hid hd2;have HYP:=hid (show 0<Y by omega);have hrY:X%Y≤Y:=Nat.le_of_lt (Nat.mod_lt _ om);have HRY:=hid hrY;have hn1b:=UP.out.n1b;have hn2b:=UP.out.n2b;have HDV:=hid (divide_any A1 A2 n1 n2 d1 d2 X Y w3 om om UP.out.hx UP.out.hy HYP.out);clear hd1 hd2 hn0 hY HR0 HR1 hrY;generalize X / Y=q at *;generalize X%Y=r at *;have hwy:∀ (z:Nat),((z:Int) != 0)=true∨True:=fun _=>.inr trivial
    clear hwy;go_wp2_with fail
    refine HDV.out.mono ?_;rintro e w4 ⟨Aq,nq,cq,Ar,nr,cr,hnq,hnr,rfl,hmq,hmr,hb4,hfq,hfr⟩;have hs4:=hb4.size;have hS:=UP.out.hS;have hSz:=UP.out.sz;have K4':=hid (UP.out.k.next hb4 om);obtain ⟨c0,c1,_,_⟩:=blk_cells K4'.out.k0;obtain ⟨c2,c3,_,_⟩:=blk_cells K4'.out.k1;have hqS:∀ a,Aq=some a→a.block≠w1.heap.size+2:=fun a h=>by subst h;have:=hfq a.block rfl;omega
    have hrS:∀ a,Ar=some a→a.block≠w1.heap.size+2:=fun a h=>by
     rcases hfr with h2 | h2
     · rw [h2] at h;exact UP.out.ax a h
     · subst h;have:=h2 a.block rfl;omega
    have HMQ:=hid hmq;have HMR:=hid hmr;have HB4:=hid hb4;have HQS:=hid hqS;have HRS:=hid hrS;clear hmq hmr hb4 hqS hrS hfq hfr;by_cases hneg:na=true∧0<nr
    · obtain ⟨rfl,hnr0⟩:=hneg
      have hr0:0<r:=by
       rcases Nat.eq_zero_or_pos r with h | h
       · have:=HMR.out.zero.2 h;omega
       · exact h
      have hnrd:decide ((0:Int)<(nr:Int))=true:=by simp;omega
      have hi4:=UP.out.sp.keep (HB4.out.block (w1.heap.size+2) om);have hpl:=fun V T (hV:V=w4.alloc (.cells #[.int .u64 1] T))=>plus_any (.slice (some ⟨w1.heap.size+2,0,none⟩) 0 16) 0 Aq (some ⟨w4.heap.size,0,none⟩) nq 1 cq 1 q 1 V om om (by subst hV;exact (hi4.keep (Below.heap_alloc _ _ _ hi4.lt)).own) (Nat.zero_le _) (by subst hV;exact HMQ.out.toNg.alloc _) (by subst hV;exact ⟨by decide,Nat.le_refl _,rd_one _ _ T 1 _ (heap_one _ _) dc⟩) (fun z hz e=>HQS.out z hz (by injection e)) (fun z hz e=>by injection hz with hz;subst hz;injection e with e;have:w4.heap.size=w1.heap.size+2:=e;omega)
      have HPL:=hid hpl;clear hpl hi4;go_wp2_with fail
      refine (HPL.out _ _ rfl).mono ?_;rintro e w5 ⟨A5,n5,c5,hn5,rfl,hm5,hg5,hf5⟩;have hal:Below w4.heap.size w4 (w4.alloc (.cells #[.int .u64 1] 124)):=(Below.refl _ _).alloc (Nat.le_refl _) _;have hs5:w4.heap.size≤w5.heap.size:=by have:=hg5.size;simp at this;omega
      have hy4:=(UP.out.hy.below HB4.out).below hal;have hr4:=HMR.out.below hal;have hy5:Nm w5 A2 n2 d2 Y:=⟨⟨hy4.lt,hy4.cap,hy4.rd.grown hg5 (fun k hk a ha e=>UP.out.ay a ha (by rw [e];simp [Value.ownBlock] at hk;omega))⟩,hy4.top⟩;have hr5:Nm w5 Ar nr cr r:=⟨⟨hr4.lt,hr4.cap,hr4.rd.grown hg5 (fun k hk a ha e=>HRS.out a ha (by rw [e];simp [Value.ownBlock] at hk;omega))⟩,hr4.top⟩;have HMI:=hid (minus_any (.slice none 0 0) 0 A2 Ar n2 nr d2 cr Y r w5 om (Nm.le_len hy5.toNg hr5 HRY.out) (.inl hn0c) HRY.out (Own.nil _ _) (Nat.zero_le _) hy5.toNg hr5.toNg (fun z hz e=>by simp [Value.ownBlock] at e) (fun z hz e=>by simp [Value.ownBlock] at e));have K5:=hid ((K4'.out.next hal om).next (below_of_grown (B:=w1.heap.size) (g:=w1.heap.size+2) hg5 (by simp;omega) om) om);have HM5:=hid hm5;clear hm5 hg5 hf5 hal hy4 hr4 hy5 hr5 c0 c1 c2 c3;go_wp2_with fail
      refine HMI.out.mono ?_;rintro e w6 ⟨A6,n6,c6,hn6,rfl,hm6,hg6,hf6⟩;have K6:=hid (K5.out.next (below_none (B:=w5.heap.size) hg6 (Nat.le_refl _)) (by have:=K5.out.sz;omega));have HQ6:=hid (show Nm w6 A5 n5 c5 (q+1) from ⟨⟨HM5.out.lt,HM5.out.cap,HM5.out.rd.grown hg6 (fun k hk=>by simp [Value.ownBlock] at hk)⟩,HM5.out.top⟩);have HR6:=hid hm6;clear hm6 hg6 hf6;have c00:=(blk_cells K6.out.k0).1;have c20:=(blk_cells K6.out.k1).1;go_wp2_with fail
      refine (pack_any _ A5 n5 c5 (q+1) _ om HQ6.out.toNg).mono fun e w7 h7=>?_
      obtain ⟨b7,m7,HB7,rfl,hb7⟩:=h7.form;have HN7:=hid (Nm.below HR6.out hb7);have hs7:=hb7.size;have K7:=hid (K6.out.next hb7 (by have:=K6.out.sz;omega));clear h7 hb7 c00 c20;go_wp2_with fail
      refine (pack_any _ A6 n6 c6 (Y-r) _ om HN7.out.toNg).mono fun e w8 h8=>?_
      obtain ⟨b8,m8,HB8,rfl,hb8⟩:=h8.form;have K8:=hid (K7.out.next hb8 (by have:=K7.out.sz;omega));obtain ⟨p0,p1,p2,p3⟩:=blk_cells K8.out.k2;obtain ⟨q0,q1,q2,q3⟩:=blk_cells K8.out.k3;have HF1:=hid (show enc (_ / _)=.agg #[.bool b7,.string m7] by rw [HD1.out,←HB7.out];(rw [if_pos ⟨trivial,hr0⟩];cases nb<;>rfl));have HF2:=hid (show enc (_%_)=.agg #[.bool b8,.string m8] by rw [HD2.out,←HB8.out];(rw [if_pos ⟨trivial,hr0⟩];rfl));clear h8 hb8;go_wp2
      exact bodyPost_ret (v:=.tuple #[.agg #[.bool b7,.string m7],.agg #[.bool b8,.string m8],.int .i64 0]) (by simp [results,Tryz.results100,go_sem,p0,p1,q0,q1]) rfl (HR.out _ _ _ _ _ HF1 HF2 (K8.out.stored _ _ _ _))
    · have hnr2 : ¬ (na = true ∧ 0 < r) := fun ⟨h1, h2⟩ => hneg ⟨h1, by
       rcases Nat.eq_zero_or_pos nr with h | h
       · have:=HMR.out.zero.1 h;omega
       · exact h⟩
      cases na
      · clear hneg c1 c2 c3;exact k20
      · have hnr3 : nr = 0 := by
         rcases Nat.eq_zero_or_pos nr with h | h
         · exact h
         · exact absurd ⟨rfl,h⟩ hneg
        have hnrd:decide ((0:Int)<(nr:Int))=false:=by simp;omega
        have hnrd2:¬0<nr:=om;clear hneg hnr3 c1 c2 c3;exact k20
def Df (w:World) (g P M c t b:Nat):Prop:=w.heap[g]?=some (.cells #[.int .u64 (P:Int),.int .u64 (M:Int),.int .u64 (c:Int),.int .u64 (t:Int),.int .u64 (b:Int)] 226 (0,0))
theorem Df.cells {w:World} {g P M c t b:Nat} (h:Df w g P M c t b):w.cell? ⟨g,0,none⟩=some (.int .u64 (P:Int))∧w.cell? ⟨g,1,none⟩=some (.int .u64 (M:Int))∧w.cell? ⟨g,2,none⟩=some (.int .u64 (c:Int)) ∧
  w.cell? ⟨g,3,none⟩=some (.int .u64 (t:Int))∧w.cell? ⟨g,4,none⟩=some (.int .u64 (b:Int))∧w.frozen? ⟨g,2,none⟩=false∧w.frozen? ⟨g,3,none⟩=false∧w.frozen? ⟨g,4,none⟩=false:=by
 unfold Df at h;refine ⟨?_,?_,?_,?_,?_,?_,?_,?_⟩<;>simp [World.cell?,World.frozen?,h]
theorem Df.set2 {w:World} {g P M c t b:Nat} (h:Df w g P M c t b) (x:Nat):Df (w.setCell ⟨g,2,none⟩ (.int .u64 (x:Int))) g P M x t b:=by
 exact k101
theorem Df.set3 {w:World} {g P M c t b:Nat} (h:Df w g P M c t b) (x:Nat):Df (w.setCell ⟨g,3,none⟩ (.int .u64 (x:Int))) g P M c x b:=by
 exact k101
theorem Df.set4 {w:World} {g P M c t b:Nat} (h:Df w g P M c t b) (x:Nat):Df (w.setCell ⟨g,4,none⟩ (.int .u64 (x:Int))) g P M c t x:=by
 exact k101
theorem Df.of_block {w w':World} {g P M c t b:Nat} (h:Df w g P M c t b) (e:w'.heap[g]?=w.heap[g]?):Df w' g P M c t b:=e.trans h
theorem Df.lt {w:World} {g P M c t b:Nat} (h:Df w g P M c t b):g<w.heap.size:=(Array.getElem?_eq_some_iff.1 h).1
def RetDg (w:World) (g r P M c t b:Nat) (e:Ending) (w':World):Prop:=e=.returned (.int .u64 (r:Int))∧Df w' g P M c t b∧w.grownBy w' (some g)
theorem mul_carry {P x c:Nat} (hP:P<18446744073709551616) (hx:x<18446744073709551616) (hc:c<18446744073709551616) :
  (P*x%18446744073709551616+c)%18446744073709551616=(P*x+c)%18446744073709551616∧(P*x+c) / 18446744073709551616<18446744073709551616 ∧
  P*x / 18446744073709551616+(P*x%18446744073709551616+c) / 18446744073709551616=(P*x+c) / 18446744073709551616:=by
 have h1:P*x≤18446744073709551615*18446744073709551615:=Nat.mul_le_mul om om;generalize P*x=p at *;omega
theorem digit_any (g P M c t b x y l1 l2 c' t' b' r:Nat) (w:World) (hP:P<18446744073709551616) (hM:M<18446744073709551616) (hc:c<18446744073709551616) (ht:t<18446744073709551616) (hx:x<18446744073709551616) (hy:y<18446744073709551616) (hb:b≤1)
  (hl1:(P*x+c)%18446744073709551616=l1) (hc':(P*x+c) / 18446744073709551616=c') (hl2:(M*y+t)%18446744073709551616=l2) (ht':(M*y+t) / 18446744073709551616=t')
  (hr:(l1+18446744073709551616-l2-b)%18446744073709551616=r) (hb':(if l1<l2+b then 1 else 0)=b') (hd:Df w g P M c t b) :
  Calls prog 241 #[.pointer (some ⟨g,0,none⟩),.int .u64 (x:Int),.int .u64 (y:Int)] w (RetDg w g r P M c' t' b'):=by
 obtain ⟨m1,m2,m3⟩:=mul_carry hP hx hc;obtain ⟨n1,n2,n3⟩:=mul_carry hM hy ht;rw [hl1] at m1;rw [hc'] at m2 m3;rw [hl2] at n1;rw [ht'] at n2 n3;obtain ⟨h1,hh1⟩:∃ v,P*x / 18446744073709551616=v:=⟨_,rfl⟩
 obtain ⟨k1,hk1⟩:∃ v,P*x%18446744073709551616=v:=⟨_,rfl⟩
 obtain ⟨h2,hh2⟩:∃ v,M*y / 18446744073709551616=v:=⟨_,rfl⟩
 obtain ⟨k2,hk2⟩:∃ v,M*y%18446744073709551616=v:=⟨_,rfl⟩
 have HM1:=hid (fun W=>mul64_any P x hP hx h1 k1 hh1 hk1 W);have HM2:=hid (fun W=>mul64_any M y hM hy h2 k2 hh2 hk2 W);rw [hk1] at m1 m3;rw [hh1] at m3;rw [hk2] at n1 n3;rw [hh2] at n3;obtain ⟨o1,ho1⟩:∃ v,(k1+c) / 18446744073709551616=v:=⟨_,rfl⟩
 obtain ⟨o2,ho2⟩:∃ v,(k2+t) / 18446744073709551616=v:=⟨_,rfl⟩
 have ha1:=add64_0 k1 c l1 o1 m1 ho1;have ha2:=add64_0 k2 t l2 o2 n1 ho2;have ha3:=fun W=>sub64_fn l1 l2 b hb W r b' hr hb'
 rw [ho1] at m3;rw [ho2] at n3;have s1:(h1:Int)+(o1:Int)=(c':Int):=om;have s2:(h2:Int)+(o2:Int)=(t':Int):=om;have d1:=hd.set2 c';have d2:=d1.set3 t';have d3:=d2.set4 b';obtain ⟨p0,p1,p2,p3,p4,p5,p6,p7⟩:=hd.cells;obtain ⟨q0,q1,q2,q3,q4,q5,q6,q7⟩:=d1.cells;obtain ⟨r0,r1,r2,r3,r4,r5,r6,r7⟩:=d2.cells;have HD3:=hid d3;clear hd d1 d2 d3 m1 m3 n1 n3 hh1 hk1 hh2 hk2 ho1 ho2 hl1 hc' hl2 ht' hr hb' p1 p3 p4 p6 p7 q0 q2 q4 q5 q7 r0 r1 r2 r3 r5 r6;go_enter Tryz.func241,Tryz.ntmps241;go_wp2_with fail
 refine (HM1.out _).mono ?_;rintro e w1 ⟨rfl,rfl⟩;go_wp2_with fail
 refine (HM2.out _).mono ?_;rintro e w1 ⟨rfl,rfl⟩;go_wp2
 go_ret
 exact ⟨rfl,HD3.out,grown_set (grown_set (grown_set (World.grownBy.refl _ _) _ _) _ _) _ _⟩
theorem D_nought (b k:Nat):D b 0 k=0:=by simp [D]
theorem digit_step (g a b k X Y:Nat) (w:World) (ha:a<18446744073709551616) (hb:b<18446744073709551616) (hle:b*Y≤a*X) (hd:Df w g a b (car B64 0 a X k) (car B64 0 b Y k) (bor B64 (a*X) (b*Y) k)) :
  Calls prog 241 #[.pointer (some ⟨g,0,none⟩),.int .u64 (D B64 X k:Int),.int .u64 (D B64 Y k:Int)] w (RetDg w g (D B64 (a*X-b*Y) k) a b (car B64 0 a X (k+1)) (car B64 0 b Y (k+1)) (bor B64 (a*X) (b*Y) (k+1))):=by
 obtain ⟨s1,s2⟩:=car_step B64_pos 0 a X k;obtain ⟨t1,t2⟩:=car_step B64_pos 0 b Y k;rw [D_nought,Nat.zero_add] at s1 s2 t1 t2;rw [Nat.zero_add] at s2 t2;have c1:=car_lt B64_pos (x:=a) (by rw [B64_eq];exact ha) 0 X k;have c2:=car_lt B64_pos (x:=b) (by rw [B64_eq];exact hb) 0 Y k;have hbl:=bor_le B64 (a*X) (b*Y) k;have hs1:=bor_step B64_pos (a*X) (b*Y) k;have hs2:=sub_digit (D64_lt (a*X) k) (D64_lt (b*Y) k) hbl (dif_digit B64_pos hle k);exact digit_any g a b _ _ _ (D B64 X k) (D B64 Y k) (D B64 (a*X) k) (D B64 (b*Y) k) _ _ _ _ w ha hb om om (D64_lt _ _) (D64_lt _ _) hbl (by rw [←B64_eq];exact s2) (by rw [←B64_eq];exact s1) (by rw [←B64_eq];exact t2) (by rw [←B64_eq];exact t1) hs2 hs1.symm hd
def Cp (w:World) (g c:Nat):Prop:=∃ cur T,w.heap[g]?=some (.cells cur T (0,0))∧c≤cur.size
theorem Cp.of_block {w w':World} {g c:Nat} (h:Cp w g c) (e:w'.heap[g]?=w.heap[g]?):Cp w' g c:=by
 obtain ⟨cur,T,h1,h2⟩:=h;exact ⟨cur,T,e.trans h1,h2⟩
theorem Cp.set {w:World} {g c:Nat} (h:Cp w g c) (i:Nat) (v:Value):Cp (w.setCell ⟨g,i,none⟩ v) g c:=by
 obtain ⟨cur,T,h1,h2⟩:=h;refine ⟨cur.setIfInBounds i v,T,?_,by simpa using h2⟩;simp [World.setCell,Array.getElem?_modify,h1]
theorem Own.lies {w:World} {base:Nat} {A:Option Addr} {n c:Nat} {f:Nat→Nat} (h:Own w base (.slice A n c) n (nums .u64 f n)) (hn:0<n) :
  ∃ g,A=some ⟨g,0,none⟩∧Lies w g n f∧Cp w g c∧n≤c∧c≤maxLen∧base≤g:=by
 rcases h.2 with ⟨_,h3⟩ | ⟨g,cap,cur,T,hv,hg,hh,h4,h5,h6,h7⟩
 · omega
 · injection hv with a1 a2 a3
   subst a1 a3;refine ⟨g,rfl,⟨cur,T,hh,om,fun i hi=>?_⟩,⟨cur,T,hh,h6⟩,h4,h5,hg⟩;have:=nums_get .u64 f n i hi;rw [←h7,List.getElem?_take_of_lt hi,Array.getElem?_toList] at this;exact this
theorem Own.of_lies {w:World} {base g n c:Nat} {f:Nat→Nat} (h:Lies w g n f) (hc:Cp w g c) (hn:n≤c) (hm:c≤maxLen) (hb:base≤g):Own w base (.slice (some ⟨g,0,none⟩) n c) n (nums .u64 f n):=by
 obtain ⟨cur,T,h1,_,h3⟩:=h;obtain ⟨cur',T',h1',h2'⟩:=hc;rw [h1] at h1'
 injection h1' with e
 injection e with e1 e2
 subst e1;exact Own.of_cells h1 hb hn hm h2' h3
structure Ow (w:World) (base:Nat) (A:Option Addr) (n c V:Nat):Prop where
 own:Own w base (.slice A n c) n (nums .u64 (D B64 V) n)
 lt:V<B64^n
 top:0<n→B64^(n-1)≤V
theorem Ow.nm {w:World} {base:Nat} {A:Option Addr} {n c V:Nat} (h:Ow w base A n c V):Nm w A n c V:=by
 obtain ⟨A',c',e,h1,h2⟩:=h.own.rd
 injection e with e1 e2 e3
 subst e1 e3;exact ⟨⟨h.lt,h1,h2⟩,h.top⟩
structure Ds (W:World) (base gx gy g1 g2 n cx cy X Y a b c d k:Nat) (w:World):Prop where
 lx:Lies w gx n (fun j=>if j<k then D B64 (a*X-b*Y) j else D B64 X j)
 ly:Lies w gy n (fun j=>if j<k then D B64 (c*Y-d*X) j else D B64 Y j)
 px:Cp w gx cx
 py:Cp w gy cy
 f1:Df w g1 a b (car B64 0 a X k) (car B64 0 b Y k) (bor B64 (a*X) (b*Y) k)
 f2:Df w g2 c d (car B64 0 c Y k) (car B64 0 d X k) (bor B64 (c*Y) (d*X) k)
 bel:Below base W w
def RetTwo (W:World) (base gx gy n cx cy R S:Nat) (e:Ending) (w:World):Prop :=
 ∃ k l,k≤n∧l≤n∧e=.returned (.tuple #[.slice (some ⟨gx,0,none⟩) k cx,.slice (some ⟨gy,0,none⟩) l cy])∧Ow w base (some ⟨gx,0,none⟩) k cx R∧Ow w base (some ⟨gy,0,none⟩) l cy S∧Below base W w
theorem differences_any (base gx gy n cx cy X Y a b c d:Nat) (w:World) (hn:n≤100000000) (ha:a<18446744073709551616) (hb:b<18446744073709551616) (hc:c<18446744073709551616) (hd:d<18446744073709551616)
  (h1:b*Y≤a*X) (h2:d*X≤c*Y) (hR:a*X-b*Y<B64^n) (hS:c*Y-d*X<B64^n) (hX:Lies w gx n (D B64 X)) (hY:Lies w gy n (D B64 Y)) (hpx:Cp w gx cx) (hpy:Cp w gy cy) (hcx:n≤cx) (hcy:n≤cy) (hmx:cx≤maxLen) (hmy:cy≤maxLen)
  (hxy:gx≠gy) (hbx:base≤gx) (hby:base≤gy) :
  Calls prog 225 #[.slice (some ⟨gx,0,none⟩) n cx,.slice (some ⟨gy,0,none⟩) n cy,.int .u64 (a:Int),.int .u64 (b:Int),.int .u64 (c:Int),.int .u64 (d:Int)] w (RetTwo w base gx gy n cx cy (a*X-b*Y) (c*Y-d*X)):=by
 have hbw:base≤w.heap.size:=by have:=hX.lt;omega
 have lgx:=hX.lt;have lgy:=hY.lt;have HX:=hid hX;have HY:=hid hY;have HPX:=hid hpx;have HPY:=hid hpy;have H1:=hid h1;have H2:=hid h2;have HR:=hid hR;have HS:=hid hS;clear hX hY hpx hpy h1 h2 hR hS;go_enter Tryz.func225,Tryz.ntmps225;go_wp2
 go_loopw [25] (fun i wr=>∃ k:Nat,k≤n∧i=.int .i64 k∧Ds w base gx gy w.heap.size (w.heap.size+1) n cx cy X Y a b c d k wr) (fun i _=>n-(intOf i).toNat)
 case atStart =>
  have e1:=heap_fst w (.cells #[.int .u64 (a:Int),.int .u64 (b:Int),.int .u64 0,.int .u64 0,.int .u64 0] 226) (.cells #[.int .u64 (c:Int),.int .u64 (d:Int),.int .u64 0,.int .u64 0,.int .u64 0] 226);have e2:=heap_two w (.cells #[.int .u64 (a:Int),.int .u64 (b:Int),.int .u64 0,.int .u64 0,.int .u64 0] 226) (.cells #[.int .u64 (c:Int),.int .u64 (d:Int),.int .u64 0,.int .u64 0,.int .u64 0] 226);have hbl:Below w.heap.size w ((w.alloc (.cells #[.int .u64 (a:Int),.int .u64 (b:Int),.int .u64 0,.int .u64 0,.int .u64 0] 226)).alloc (.cells #[.int .u64 (c:Int),.int .u64 (d:Int),.int .u64 0,.int .u64 0,.int .u64 0] 226)):=((Below.refl _ _).alloc (Nat.le_refl _) _).alloc (by simp) _;refine ⟨0,Nat.zero_le _,rfl,⟨(HX.out.below hbl lgx).congr fun j _=>by rw [if_neg om],(HY.out.below hbl lgy).congr fun j _=>by rw [if_neg om],HPX.out.of_block (hbl.block gx lgx),HPY.out.of_block (hbl.block gy lgy),?_,?_,hbl.mono hbw⟩⟩
  · show _=_;rw [car_zero,car_zero,bor_zero];exact e1
  · show _=_;rw [car_zero,car_zero,bor_zero];exact e2
 case round =>
  obtain ⟨k,hk,rfl,hds⟩:=hrel;by_cases hlt:k<n
  · have cX:=hds.lx.cell (i:=k) hlt;have cY:=hds.ly.cell (i:=k) hlt;have fX:=hds.lx.frozen k;have fY:=hds.ly.frozen k;rw [if_neg om] at cX cY;have hsw:=hds.bel.size;have DF1:=hid hds.f1;have DF20:=hid hds.f2;have l1:=hds.f1.lt;have l2:=hds.f2.lt;have lx1:gx<wr.heap.size:=om;have lx2:gx≠w.heap.size:=om;have ly1:gy<wr.heap.size:=om;have ly2:gy≠w.heap.size:=om;have HDS:=hid hds;have hD1:=fun V (hV:Df V w.heap.size a b (car B64 0 a X k) (car B64 0 b Y k) (bor B64 (a*X) (b*Y) k))=>digit_step w.heap.size a b k X Y V ha hb H1.out hV
    have hD2:=fun V (hV:Df V (w.heap.size+1) c d (car B64 0 c Y k) (car B64 0 d X k) (bor B64 (c*Y) (d*X) k))=>digit_step (w.heap.size+1) c d k Y X V hc hd H2.out hV
    have HD1:=hid hD1;have HD2:=hid hD2;clear hD1 hD2 hds;generalize D B64 X k=xk at *;generalize D B64 Y k=yk at *;obtain ⟨rk,hrk⟩:∃ r,D B64 (a*X-b*Y) k=r:=⟨_,rfl⟩
    obtain ⟨sk,hsk⟩:∃ r,D B64 (c*Y-d*X) k=r:=⟨_,rfl⟩
    rw [hrk] at HD1;rw [hsk] at HD2;have HRK:=hid hrk;have HSK:=hid hsk;clear hrk hsk;have i0:(0:Int)≤(k:Int):=om;have i1:(k:Int)<(n:Int):=om;go_wp2_with fail
    refine wp_region_late (S:=fun w'=>w'.cell? ⟨gx,k,none⟩=some (.int .u64 (xk:Int))∧w'.cell? ⟨gy,k,none⟩=some (.int .u64 (yk:Int))) (L:=[22,23,24,25]) kx ?_;have hHeld:wr.drew.cell? ⟨gx,k,none⟩=some (.int .u64 (xk:Int))∧wr.drew.cell? ⟨gy,k,none⟩=some (.int .u64 (yk:Int)):=⟨cX,cY⟩;refine wpLate_free (i:=0) (oi:=⟨some 28,_,_,_,_,_⟩) (v:=?_) rfl kx kx kx kx ix (Or.inl ⟨by rfl,?_⟩) ?_
    rotate_left
    · exact k8
    try simp only [Act.put,List.setIfInBounds_toArray,List.set_cons_zero,List.set_cons_succ]
    refine wpLate_free (i:=1) (oi:=⟨some 29,_,_,_,_,_⟩) (v:=?_) rfl kx kx kx kx ix (Or.inl ⟨by rfl,?_⟩) ?_
    rotate_left
    · exact k8
    try simp only [Act.put,List.setIfInBounds_toArray,List.set_cons_zero,List.set_cons_succ]
    refine wpLate_free (i:=2) (oi:=⟨some 30,_,_,_,_,_⟩) (v:=?_) rfl kx kx kx kx ix (Or.inl ⟨by rfl,?_⟩) ?_
    rotate_left
    · exact k8
    try simp only [Act.put,List.setIfInBounds_toArray,List.set_cons_zero,List.set_cons_succ]
    refine wpLate_free (i:=3) (oi:=⟨some 31,_,_,_,_,_⟩) (v:=?_) rfl kx kx kx kx ix (Or.inl ⟨by rfl,?_⟩) ?_
    rotate_left
    · exact k8
    try simp only [Act.put,List.setIfInBounds_toArray,List.set_cons_zero,List.set_cons_succ]
    refine wpLate_free (i:=4) (oi:=⟨some 32,_,_,_,_,_⟩) (v:=?_) rfl kx kx kx kx ix (Or.inl ⟨by rfl,?_⟩) ?_
    rotate_left
    · exact k8
    try simp only [Act.put,List.setIfInBounds_toArray,List.set_cons_zero,List.set_cons_succ]
    refine wpLate_free (i:=5) (oi:=⟨some 33,_,_,_,_,_⟩) (v:=?_) rfl kx kx kx kx ix (Or.inl ⟨by rfl,?_⟩) ?_
    rotate_left
    · exact k8
    try simp only [Act.put,List.setIfInBounds_toArray,List.set_cons_zero,List.set_cons_succ]
    refine wpLate_free (i:=6) (oi:=⟨some 34,_,_,_,_,_⟩) (v:=?_) rfl kx kx kx kx ix (Or.inl ⟨by rfl,?_⟩) ?_
    rotate_left
    · exact k8
    try simp only [Act.put,List.setIfInBounds_toArray,List.set_cons_zero,List.set_cons_succ]
    refine wpLate_take (i:=7) (oi:=⟨some 35,_,_,_,_,_⟩) (v:=?_) rfl kx kx kx kx kx ix (Or.inl ⟨by rfl,?_⟩) hHeld ?_
    rotate_left
    · exact k8
    try simp only [Act.put,List.setIfInBounds_toArray,List.set_cons_zero,List.set_cons_succ]
    refine wpLate_free (i:=8) (oi:=⟨some 36,_,_,_,_,_⟩) (v:=?_) rfl kx kx kx kx ix (Or.inl ⟨by rfl,?_⟩) ?_
    rotate_left
    · exact k8
    try simp only [Act.put,List.setIfInBounds_toArray,List.set_cons_zero,List.set_cons_succ]
    refine wpLate_free (i:=9) (oi:=⟨some 37,_,_,_,_,_⟩) (v:=?_) rfl kx kx kx kx ix (Or.inl ⟨by rfl,?_⟩) ?_
    rotate_left
    · exact k8
    try simp only [Act.put,List.setIfInBounds_toArray,List.set_cons_zero,List.set_cons_succ]
    refine wpLate_free (i:=10) (oi:=⟨some 38,_,_,_,_,_⟩) (v:=?_) rfl kx kx kx kx ix (Or.inl ⟨by rfl,?_⟩) ?_
    rotate_left
    · exact k8
    try simp only [Act.put,List.setIfInBounds_toArray,List.set_cons_zero,List.set_cons_succ]
    refine wpLate_take (i:=11) (oi:=⟨some 39,_,_,_,_,_⟩) (v:=?_) rfl kx kx kx kx kx ix (Or.inl ⟨by rfl,?_⟩) hHeld ?_
    rotate_left
    · exact k8
    try simp only [Act.put,List.setIfInBounds_toArray,List.set_cons_zero,List.set_cons_succ]
    refine wpLate_free (i:=13) (oi:=⟨some 41,_,_,_,_,_⟩) (v:=?_) rfl kx kx kx kx ix (Or.inl ⟨by rfl,?_⟩) ?_
    rotate_left
    · exact k8
    try simp only [Act.put,List.setIfInBounds_toArray,List.set_cons_zero,List.set_cons_succ]
    refine wpLate_free (i:=14) (oi:=⟨some 42,_,_,_,_,_⟩) (v:=?_) rfl kx kx kx kx ix (Or.inl ⟨by rfl,?_⟩) ?_
    rotate_left
    · exact k8
    try simp only [Act.put,List.setIfInBounds_toArray,List.set_cons_zero,List.set_cons_succ]
    refine wpLate_free (i:=15) (oi:=⟨some 43,_,_,_,_,_⟩) (v:=?_) rfl kx kx kx kx ix (Or.inl ⟨by rfl,?_⟩) ?_
    rotate_left
    · exact k8
    try simp only [Act.put,List.setIfInBounds_toArray,List.set_cons_zero,List.set_cons_succ]
    refine wpLate_take (i:=16) (oi:=⟨some 44,_,_,_,_,_⟩) (v:=?_) rfl kx kx kx kx kx ix (Or.inl ⟨by rfl,?_⟩) hHeld ?_
    rotate_left
    · exact k8
    try simp only [Act.put,List.setIfInBounds_toArray,List.set_cons_zero,List.set_cons_succ]
    refine wpLate_free (i:=17) (oi:=⟨some 45,_,_,_,_,_⟩) (v:=?_) rfl kx kx kx kx ix (Or.inl ⟨by rfl,?_⟩) ?_
    rotate_left
    · exact k8
    try simp only [Act.put,List.setIfInBounds_toArray,List.set_cons_zero,List.set_cons_succ]
    refine wpLate_free (i:=18) (oi:=⟨some 46,_,_,_,_,_⟩) (v:=?_) rfl kx kx kx kx ix (Or.inl ⟨by rfl,?_⟩) ?_
    rotate_left
    · exact k8
    try simp only [Act.put,List.setIfInBounds_toArray,List.set_cons_zero,List.set_cons_succ]
    refine wpLate_free (i:=19) (oi:=⟨some 47,_,_,_,_,_⟩) (v:=?_) rfl kx kx kx kx ix (Or.inl ⟨by rfl,?_⟩) ?_
    rotate_left
    · exact k8
    try simp only [Act.put,List.setIfInBounds_toArray,List.set_cons_zero,List.set_cons_succ]
    refine wpLate_take (i:=20) (oi:=⟨some 48,_,_,_,_,_⟩) (v:=?_) rfl kx kx kx kx kx ix (Or.inl ⟨by rfl,?_⟩) hHeld ?_
    rotate_left
    · exact k8
    try simp only [Act.put,List.setIfInBounds_toArray,List.set_cons_zero,List.set_cons_succ]
    refine wpLate_one (i:=12) (o:=⟨some 40,_,_,_,_,_⟩) kx rfl (fun K hK=>?_);go_simp
    (go_at_call 241;(with_reducible refine (HD1.out _ ?_).mono ?_);(exact DF1.out);rintro e w2 ⟨rfl,hf1,hg1⟩)
    try go_wp2_with fail
    refine hK.out _ _ (Or.inr (fun h=>⟨keep_cell hg1 lx1 lx2 h.1,keep_cell hg1 ly1 ly2 h.2⟩)) ?_;clear hK K;try simp only [Act.put,List.setIfInBounds_toArray,List.set_cons_zero,List.set_cons_succ]
    have DF2:=hid (DF20.out.of_block (hg1.block _ (by show _<wr.heap.size;omega) (fun e=>by injection e with e;omega)));refine wpLate_one (i:=21) (o:=⟨some 49,_,_,_,_,_⟩) kx rfl (fun K hK=>?_);go_simp
    (go_at_call 241;(with_reducible refine (HD2.out _ ?_).mono ?_);(exact DF2.out);rintro e w3 ⟨rfl,hf2,hg2⟩)
    try go_wp2_with fail
    refine hK.out _ _ (Or.inr (fun h=>⟨keep_cell hg2 (by have:=hg1.size;simp at this;omega) om h.1,keep_cell hg2 (by have:=hg1.size;simp at this;omega) om h.2⟩)) ?_;clear hK K;try simp only [Act.put,List.setIfInBounds_toArray,List.set_cons_zero,List.set_cons_succ]
    have z2:wr.heap.size≤w2.heap.size:=by have:=hg1.size;simpa using this
    have z3:w2.heap.size≤w3.heap.size:=hg2.size;have b2:∀ g,g<wr.heap.size→g≠w.heap.size→w2.heap[g]?=wr.heap[g]?:=fun g h1 h2=>hg1.block g (by show g<wr.heap.size;exact h1) (fun e=>by injection e with e;omega)
    have b3:∀ g,g<wr.heap.size→g≠w.heap.size+1→w3.heap[g]?=w2.heap[g]?:=fun g h1 h2=>hg2.block g om (fun e=>by injection e with e;omega)
    have X3:=(HDS.out.lx.of_block (b2 gx lx1 lx2)).of_block (b3 gx lx1 om);have Y3:=(HDS.out.ly.of_block (b2 gy ly1 ly2)).of_block (b3 gy ly1 om);have PX3:=(HDS.out.px.of_block (b2 gx lx1 lx2)).of_block (b3 gx lx1 om);have PY3:=(HDS.out.py.of_block (b2 gy ly1 ly2)).of_block (b3 gy ly1 om);have F13:=hf1.of_block (b3 w.heap.size om om);have B3:Below base w w3:=(HDS.out.bel.drew.trans (below_of_grown (B:=base) hg1 (by show base≤wr.heap.size;omega) om)).trans (below_of_grown (B:=base) hg2 om om);have X4:=X3.set k rk;have Y4:=Y3.other (b:=gx) k (.int .u64 (rk:Int)) (Ne.symm hxy);have s1:=X3.cell (i:=k) hlt;have s2:=X3.frozen k;have s3:=Y4.cell (i:=k) hlt;have s4:=Y4.frozen k;have X5:=X4.other (b:=gy) k (.int .u64 (sk:Int)) hxy;have Y5:=Y4.set k sk;have PX5:=(PX3.set k (.int .u64 (rk:Int))).of_block (Below.heap_setCell _ ⟨gy,k,none⟩ (.int .u64 (sk:Int)) gx hxy);have PY5:=(PY3.of_block (Below.heap_setCell w3 ⟨gx,k,none⟩ (.int .u64 (rk:Int)) gy (Ne.symm hxy))).set k (.int .u64 (sk:Int));have F15:=(F13.of_block (Below.heap_setCell w3 ⟨gx,k,none⟩ (.int .u64 (rk:Int)) w.heap.size (by show w.heap.size≠gx;omega))).of_block (Below.heap_setCell _ ⟨gy,k,none⟩ (.int .u64 (sk:Int)) w.heap.size (by show w.heap.size≠gy;omega));have F25:=(hf2.of_block (Below.heap_setCell w3 ⟨gx,k,none⟩ (.int .u64 (rk:Int)) (w.heap.size+1) (by show w.heap.size+1≠gx;omega))).of_block (Below.heap_setCell _ ⟨gy,k,none⟩ (.int .u64 (sk:Int)) (w.heap.size+1) (by show w.heap.size+1≠gy;omega));have B5:=(B3.setCell (p:=⟨gx,k,none⟩) hbx (.int .u64 (rk:Int))).setCell (p:=⟨gy,k,none⟩) hby (.int .u64 (sk:Int));have HX5:=hid X5;have HY5:=hid Y5;have HP5:=hid (And.intro PX5 PY5);have HF5:=hid (And.intro F15 F25);have HB5:=hid B5;clear z2 z3 b2 b3 X3 Y3 PX3 PY3 F13 B3 X4 Y4 X5 Y5 PX5 PY5 F15 F25 B5 hf1 hf2 hg1 hg2 hHeld cX cY fX fY DF1 DF20 DF2 HD1 HD2;refine wpLate_free (i:=22) (oi:=⟨some 50,_,_,_,_,_⟩) (v:=?_) rfl kx kx kx kx ix (Or.inl ⟨by rfl,?_⟩) ?_
    rotate_left
    · exact k8
    try simp only [Act.put,List.setIfInBounds_toArray,List.set_cons_zero,List.set_cons_succ]
    refine wpLate_one (i:=23) (o:=⟨none,_,_,_,_,_⟩) kx rfl (fun K hK=>?_);go_simp;refine hK.out _ _ (Or.inl (by rfl)) ?_;clear hK K;try simp only [Act.put,List.setIfInBounds_toArray,List.set_cons_zero,List.set_cons_succ]
    refine wpLate_free (i:=24) (oi:=⟨some 51,_,_,_,_,_⟩) (v:=?_) rfl kx kx kx kx ix (Or.inl ⟨by rfl,?_⟩) ?_
    rotate_left
    · exact k8
    try simp only [Act.put,List.setIfInBounds_toArray,List.set_cons_zero,List.set_cons_succ]
    refine wpLate_one (i:=25) (o:=⟨none,_,_,_,_,_⟩) kx rfl (fun K hK=>?_);go_simp;refine hK.out _ _ (Or.inl (by rfl)) ?_;clear hK K;try simp only [Act.put,List.setIfInBounds_toArray,List.set_cons_zero,List.set_cons_succ]
    refine wpLate_done kx ?_ _;go_wp2
    go_roundw
    case rel =>
     refine ⟨k+1,om,by go_num,⟨HX5.out.congr fun j hj=>?_,HY5.out.congr fun j hj=>?_,HP5.out.1,HP5.out.2,HF5.out.1,HF5.out.2,HB5.out⟩⟩
     · by_cases e:j=k
       · rw [if_pos e,if_pos om,e,HRK.out]
       · rw [if_neg e];exact k46
     · by_cases e:j=k
       · rw [if_pos e,if_pos om,e,HSK.out]
       · rw [if_neg e];exact k46
    case measure=>simp [intOf]<;>omega
  · obtain rfl:k=n:=om;have LX:=hds.lx.congr (f':=D B64 (a*X-b*Y)) fun j hj=>by rw [if_pos hj]
    have LY:=hds.ly.congr (f':=D B64 (c*Y-d*X)) fun j hj=>by rw [if_pos hj]
    have O1:=Own.of_lies (base:=base) LX hds.px hcx hmx hbx;have O2:=Own.of_lies (base:=base) LY hds.py hcy hmy hby;have N1:Ng wr (some ⟨gx,0,none⟩) k cx (a*X-b*Y):=⟨HR.out,hcx,LX.rd⟩;have N2:Ng wr (some ⟨gy,0,none⟩) k cy (c*Y-d*X):=⟨HS.out,hcy,LY.rd⟩;have HBL:=hid hds.bel;have HO1:=hid O1;have HO2:=hid O2;have HN1:=hid N1;have HN2:=hid N2;clear hds LX LY O1 O2 N1 N2;generalize a*X-b*Y=R at *;generalize c*Y-d*X=S at *
    go_wp2_with (first
     | ((with_reducible refine (trim_any (some ⟨gx,0,none⟩) k cx R _ om HN1.out).mono ?_);rintro e w1 ⟨kr,hkr,rfl,hnr,rfl⟩)
     | ((with_reducible refine (trim_any (some ⟨gy,0,none⟩) k cy S _ om HN2.out).mono ?_);rintro e w1 ⟨ks,hks,rfl,hns,rfl⟩))
    go_ret2
    exact ⟨kr,ks,hkr,hks,rfl,⟨HO1.out.take hkr,hnr.lt,hnr.top⟩,⟨HO2.out.take hks,hns.lt,hns.top⟩,HBL.out⟩
structure Zi (W:World) (g:Nat) (b:Bool) (m:ByteArray):Prop where
 c0:W.cell? ⟨g,0,none⟩=some (.bool b)
 c1:W.cell? ⟨g,1,none⟩=some (.string m)
theorem Zi.below {W W':World} {g B:Nat} {b:Bool} {m:ByteArray} (h:Zi W g b m) (hb:Below B W W') (hg:g<B):Zi W' g b m :=
 ⟨(hb.cell (p:=⟨g,0,none⟩) hg).trans h.c0,(hb.cell (p:=⟨g,1,none⟩) hg).trans h.c1⟩
structure K3 (w:World) (T:TypeId) (v0 v1 v2 v3 v4 v5:Value) (w1:World):Prop where
 k0:w1.heap[w.heap.size]?=some (.cells #[v0,v1] T (0,0))
 k1:w1.heap[w.heap.size+1]?=some (.cells #[v2,v3] T (0,0))
 k2:w1.heap[w.heap.size+2]?=some (.cells #[v4,v5] T (0,0))
 sz:w.heap.size+3≤w1.heap.size
 bel:Below w.heap.size w w1
theorem K3.start (w:World) (T:TypeId) (v0 v1 v2 v3 v4 v5:Value):K3 w T v0 v1 v2 v3 v4 v5 (((w.alloc (.cells #[v0,v1] T)).alloc (.cells #[v2,v3] T)).alloc (.cells #[v4,v5] T)):=by
 obtain ⟨k1,k2,k3⟩:=heap_three_all w (.cells #[v0,v1] T) (.cells #[v2,v3] T) (.cells #[v4,v5] T);exact k69
theorem K3.next {w:World} {T:TypeId} {v0 v1 v2 v3 v4 v5:Value} {w1 w2:World} (h:K3 w T v0 v1 v2 v3 v4 v5 w1) (hb:Below w1.heap.size w1 w2):K3 w T v0 v1 v2 v3 v4 v5 w2:=by
 exact k79
theorem K3.drew {w:World} {T:TypeId} {v0 v1 v2 v3 v4 v5:Value} {w1:World} (h:K3 w T v0 v1 v2 v3 v4 v5 w1):K3 w T v0 v1 v2 v3 v4 v5 w1.drew:=h.next (Below.refl _ _).drew
def cmpZ (x y:Int):Int:=if x<y then -1 else if y<x then 1 else 0
theorem cmpZ_diff {x y:Int} (h:x.sign≠y.sign):cmpZ x y=if x.sign<y.sign then -1 else 1:=by
 unfold cmpZ
 rcases Int.lt_trichotomy x 0 with h1 | h1 | h1<;>rcases Int.lt_trichotomy y 0 with h2 | h2 | h2 <;>
  simp [Int.sign_eq_neg_one_of_neg,Int.sign_eq_one_of_pos,h1,h2] at h ⊢<;>omega
theorem cmpZ_same {x y:Int} (h:x.sign=y.sign):cmpZ x y=ord x.natAbs y.natAbs*x.sign:=by
 unfold cmpZ ord
 rcases Int.lt_trichotomy x 0 with h1 | h1 | h1<;>rcases Int.lt_trichotomy y 0 with h2 | h2 | h2 <;>
  simp [Int.sign_eq_neg_one_of_neg,Int.sign_eq_one_of_pos,h1,h2] at h ⊢
 · split<;>split<;>(try split)<;>(try split)<;>omega
 · split<;>split<;>(try split)<;>(try split)<;>omega
theorem cmpZ_in (x y:Int):-1≤cmpZ x y∧cmpZ x y≤1:=by unfold cmpZ;split<;>(try split)<;>omega
def bvL:List UInt8→Nat
 | []=>0
 | c :: l=>c.toNat*256^l.length+bvL l
theorem bvL_lt:∀ l:List UInt8,bvL l<256^l.length
 | []=>by simp [bvL]
 | c :: l=>by
   have h1:=bvL_lt l;have h2:=UInt8.toNat_lt c;have h3:(c.toNat+1)*256^l.length≤256*256^l.length:=Nat.mul_le_mul_right _ h2;rw [Nat.add_mul] at h3;simp only [bvL,List.length_cons,Nat.pow_succ];rw [Nat.mul_comm (256^l.length) 256];omega
theorem bvL_snoc (c:UInt8):∀ l:List UInt8,bvL (l++[c])=bvL l*256+c.toNat
 | []=>by simp [bvL]
 | d :: l=>by
   simp only [List.cons_append,bvL,bvL_snoc c l,List.length_append,List.length_cons,List.length_nil,Nat.zero_add];rw [Nat.pow_succ,Nat.add_mul,Nat.mul_assoc];omega
theorem bvL_take (s:ByteArray):∀ k,k≤s.size→bvL (s.data.toList.take k)=pre s k
 | 0,_=>by simp [bvL,pre_zero]
 | k+1,hk=>by
   have hl : k < s.data.toList.length := by have : s.data.toList.length = s.size := by simp
                                            omega
   rw [List.take_succ_eq_append_getElem hl,bvL_snoc,bvL_take s k om,pre_succ s k om]
   rfl
theorem bvL_bval (s:ByteArray):bvL s.toList=bval s:=by
 rw [ByteArray.toList_eq,←pre_all s,←bvL_take s s.size (Nat.le_refl _)];have:s.data.toList.length=s.size:=by simp
 rw [←this,List.take_length]
theorem bytesLess_val:∀ (l k:List UInt8),l.length=k.length→Op.bytesLess l k=decide (bvL l<bvL k)
 | [],[],_=>by simp [Op.bytesLess,bvL]
 | a :: l,b :: k,h=>by
   have hl:l.length=k.length:=by simpa using h
   have ih:=bytesLess_val l k hl;have h1:=bvL_lt l;have h2:=bvL_lt k;simp only [Op.bytesLess,ih,bvL,←hl];rw [←hl] at h2;generalize bvL l=p at *;generalize bvL k=q at *;have hlt:(a<b)↔a.toNat<b.toNat:=UInt8.lt_iff_toNat_lt;have heq:(a=b)↔a.toNat=b.toNat:=UInt8.toNat_inj.symm;generalize 256^l.length=r at *;by_cases c1:a.toNat<b.toNat
   · have c2:a<b:=hlt.2 c1;have:(a.toNat+1)*r≤b.toNat*r:=Nat.mul_le_mul_right _ c1;rw [Nat.add_mul] at this;have c3:a.toNat*r+p<b.toNat*r+q:=om;simp [c2,c3]
   · have c2:¬a<b:=fun h=>c1 (hlt.1 h)
     by_cases c3:a.toNat=b.toNat
     · have c4:a=b:=heq.2 c3;subst c4;simp
     · have c4:¬a=b:=fun h=>c3 (heq.1 h)
       have:(b.toNat+1)*r≤a.toNat*r:=Nat.mul_le_mul_right _ om;rw [Nat.add_mul] at this;have c5:¬a.toNat*r+p<b.toNat*r+q:=om;simp [c2,c4,c5]
theorem less_val {s t:ByteArray} (h:s.size=t.size):Op.bytesLess s.toList t.toList=decide (bval s<bval t):=by
 rw [bytesLess_val,bvL_bval,bvL_bval];rw [ByteArray.toList_eq,ByteArray.toList_eq];simpa using h
theorem eq_val {s t:ByteArray} (h:s.size=t.size):(s.toList==t.toList)=decide (bval s=bval t):=by
 have hl:=less_val h;have hr:=less_val h.symm;by_cases e:bval s=bval t
 · have : s = t := by
    refine ext_bytes h fun i h1 h2=>?_
    have hv:val 256 (dig s) s.size=val 256 (dig t) s.size:=by
     have h4:bval s=val 256 (dig s) s.size:=rfl;have h5:bval t=val 256 (dig t) t.size:=rfl;rw [←h4,e,h5,h]
    have hd:=val_inj (fun i _=>dig_lt s i) (fun i _=>dig_lt t i) hv (s.size-1-i) om;unfold dig at hd;rw [dif_pos om,dif_pos om] at hd;have e1:s.size-1-(s.size-1-i)=i:=om;have e2:t.size-1-(s.size-1-i)=i:=om;have hd':(s[i]).toNat=(t[i]).toNat:=by simpa [e1,e2] using hd
    exact UInt8.toNat_inj.1 hd'
   subst this;simp
 · rw [decide_eq_false e];cases hb:s.toList==t.toList with
   | false=>rfl
   | true =>
     have:s.toList=t.toList:=by simpa using hb
     rw [←bvL_bval,←bvL_bval,this] at e;exact absurd rfl e
theorem nan_str (s:ByteArray) (w:World):Calls prog 226 #[.string s] w (RetV w (.bool false)):=by
 go_enter Tryz.func226,Tryz.ntmps226;go_wp2
 go_ret
 exact ⟨by simp,rfl⟩
theorem cmp_str (s t:ByteArray) (h:s.size=t.size) (w:World):Calls prog 208 #[.string s,.string t] w (RetV w (.int .i64 (ord (bval s) (bval t)))):=by
 have hl:=less_val h;have he:=eq_val h;have HN:=hid (fun x V=>nan_str x V);rcases Nat.lt_trichotomy (bval s) (bval t) with c | c | c
 · rw [decide_eq_true c] at hl;rw [ord_lt c];clear c he h;exact k39
 · rw [decide_eq_false om] at hl;rw [decide_eq_true c] at he;rw [c,ord_eq];clear c h;exact k39
 · rw [decide_eq_false om] at hl he;rw [ord_gt c];clear c h;exact k39
theorem ord_size {s t:ByteArray} (hs:Lead s) (ht:Lead t) (h:s.size≠t.size):ord (bval s) (bval t)=Lib.compareInt s.size t.size:=by
 have key:∀ {s t:ByteArray},Lead t→s.size<t.size→bval s<bval t:=fun {s t} ht hlt=>by
  have h1:=bval_lt s;have h2:=val_pos (b:=256) (f:=dig t) (n:=t.size) om om (dig_top ht om);have h3:256^s.size≤256^(t.size-1):=Nat.pow_le_pow_right om om;have h4:bval t=val 256 (dig t) t.size:=rfl;omega
 unfold Lib.compareInt;by_cases c:s.size<t.size
 · rw [ord_lt (key ht c),if_pos om]
 · rw [ord_gt (key hs om),if_neg om,if_pos om]
theorem cmpMag_any (s t:ByteArray) (hs:Lead s) (ht:Lead t) (w:World):Calls prog 175 #[.string s,.string t] w (RetV w (.int .i64 (ord (bval s) (bval t)))):=by
 by_cases h:s.size=t.size
 · have hne:((s.size:Int) != (t.size:Int))=false:=by simp;omega
   have HC:=hid (fun V=>cmp_str s t h V);generalize ord (bval s) (bval t)=o at *;exact k85
 · have hne:((s.size:Int) != (t.size:Int))=true:=by simp;omega
   have HC:=hid (fun V=>Tryz.cmp_Compare_int (s.size:Int) (t.size:Int) V);rw [ord_size hs ht h];exact k85
end Go.Proofs.YtpnokfgplnmjpaaGreatDoor
