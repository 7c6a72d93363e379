import Derived.Test.YtdbhahiieokplaaGreatDoorGDivH
import Derived.Test.YtdbhahiieokplaaGreatDoorGDivD
import Derived.Test.YtdbhahiieokplaaGreatDoorGRefL
import Derived.Deep.RegionWith
import Derived.Test.YtdbhahiieokplaaGreatDoorGIntQ
import Derived.Test.YtdbhahiieokplaaGreatDoorGLawB
import Derived.Test.YtdbhahiieokplaaGreatDoorGRefG
import Derived.Deep.DeepCutAuto
import Derived.Test.YtdbhahiieokplaaGreatDoorGLawA
import Derived.Test.YtdbhahiieokplaaGreatDoorGRNC
import Derived.Deep.RegionLaw
set_option linter.unusedSimpArgs false
set_option linter.unusedVariables false

namespace Go.Proofs.YtdbhahiieokplaaGreatDoor
open Go.RowKit
attribute [local go_sem ↓] Go.wp_at_zero Go.wp_at_succ

def RetQR (w:World) (A:Option Addr) (Q R NQ NR:Nat) (e:Ending) (w':World):Prop :=
 ∃ Aq nq cq Ar nr cr,nq≤NQ∧nr≤NR∧e=.returned (.tuple #[.slice Aq nq cq,.slice Ar nr cr])∧Nm w' Aq nq cq Q∧Nm w' Ar nr cr R∧Below w.heap.size w w' ∧
   (∀ k,Value.ownBlock (.slice Aq nq cq)=some k→w.heap.size≤k)∧(Ar=A∨∀ k,Value.ownBlock (.slice Ar nr cr)=some k→w.heap.size≤k)

def RetQRo (w:World) (Q R NQ NR:Nat) (e:Ending) (w':World):Prop :=
 ∃ Aq nq cq Ar nr cr,nq≤NQ∧nr≤NR∧e=.returned (.tuple #[.slice Aq nq cq,.slice Ar nr cr])∧Nm w' Aq nq cq Q∧Nm w' Ar nr cr R∧Below w.heap.size w w' ∧
   (∀ k,Value.ownBlock (.slice Aq nq cq)=some k→w.heap.size≤k)∧(∀ k,Value.ownBlock (.slice Ar nr cr)=some k→w.heap.size≤k)∧Own w' w.heap.size (.slice Ar nr cr) nr (nums .u64 (D B64 R) nr)

def rsN (X Y k:Nat):Nat:=X / B64^k%Y*B64^k+X%B64^k
def wdN (X Y j:Nat):Nat:=X / B64^(j+1)%Y*B64+D B64 X j

theorem rs_wd (X Y j:Nat):rsN X Y (j+1)=wdN X Y j*B64^j+X%B64^j:=by
 unfold rsN wdN
 rw [mod_succ]
 generalize X / B64^(j+1)%Y=Z
 rw [Nat.pow_succ',Nat.add_mul,Nat.mul_assoc,Nat.mul_comm (B64^j) (D B64 X j)]
 omega

theorem wd_lt {X Y j m:Nat} (hY:0<Y) (hYm:Y<B64^m):wdN X Y j<Y*B64∧wdN X Y j<B64^(m+1):=by
 have h1:=Nat.mod_lt (X / B64^(j+1)) hY
 have h2:=D_lt B64_pos X j
 unfold wdN
 generalize X / B64^(j+1)%Y=Z at *
 have h3:(Z+1)*B64≤Y*B64:=Nat.mul_le_mul_right _ h1
 rw [Nat.add_mul,Nat.one_mul] at h3
 have h4:Y*B64≤B64^m*B64:=Nat.mul_le_mul_right _ (Nat.le_of_lt hYm)
 rw [Nat.pow_succ]
 omega

theorem win_digit {V lo j i:Nat} (hlo:lo<B64^j):D B64 (V*B64^j+lo) (j+i)=D B64 V i:=by
 rw [D_high (k:=j) (by omega),Nat.add_sub_cancel_left,Nat.mul_comm V,Nat.mul_add_div (Nat.pow_pos B64_pos),Nat.div_eq_of_lt hlo,Nat.add_zero]
theorem low_digit {V lo j i:Nat} (hi:i<j):D B64 (V*B64^j+lo) i=D B64 lo i:=by
 rw [Nat.add_comm,Nat.mul_comm]
 exact D_low B64_pos hi

theorem step_win {X Y j m:Nat} (hY:0<Y) (hYm:Y<B64^m) :
  (∀ i,D B64 (rsN X Y (j+1)) (j+i)=D B64 (wdN X Y j) i)∧wdN X Y j / Y=D B64 (X / Y) j∧∀ i,wnF (D B64 (rsN X Y (j+1))) j m (wdN X Y j%Y) i=D B64 (rsN X Y j) i:=by
 have hlo:X%B64^j<B64^j:=Nat.mod_lt _ (Nat.pow_pos B64_pos)
 obtain ⟨d1,d2⟩:=dw_step (b:=B64) (X:=X) (d:=Y) (j:=j) B64_pos hY
 have hd2:wdN X Y j%Y=X / B64^j%Y:=d2
 refine ⟨fun i=>by rw [rs_wd];exact win_digit hlo,d1,fun i=>?_⟩
 rw [hd2]
 unfold wnF
 by_cases e:j≤i∧i≤j+m
 · rw [if_pos e]
   obtain ⟨r,rfl⟩:∃ r,i=j+r:=⟨i-j,by omega⟩
   rw [Nat.add_sub_cancel_left]
   exact (win_digit hlo).symm
 · rw [if_neg e,rs_wd]
   by_cases e2:i<j
   · rw [low_digit e2]
     exact (low_digit e2).symm
   · obtain ⟨r,rfl⟩:∃ r,i=j+r:=⟨i-j,by omega⟩
     rw [win_digit hlo,D_zero_of B64_pos (wd_lt hY hYm).2 (by omega)]
     have h:D B64 (rsN X Y j) (j+r)=D B64 (X / B64^j%Y) r:=win_digit hlo
     rw [h,D_zero_of B64_pos (n:=m) (Nat.lt_trans (Nat.mod_lt _ hY) hYm) (by omega)]

theorem top_shift {Y m:Nat} (hm:0<m) (hY:Y<B64^m) (ht:B64^(m-1)≤Y):∃ s,64-Lib.bitLen (D B64 Y (m-1))=s∧s≤63∧B64^m≤2*(Y*2^s)∧Y*2^s<B64^m:=by
 obtain ⟨k,rfl⟩:∃ k,m=k+1:=⟨m-1,by omega⟩
 rw [Nat.add_sub_cancel] at *
 have hd0:D B64 Y k≠0:=D_pos B64_pos ht hY
 have hdl:=D64_lt Y k
 obtain ⟨h1,h2,h3⟩:=bitLen_bounds (D B64 Y k) hd0 (by omega)
 have h4:=Lib.bitLen_le (D B64 Y k) 64 (by omega) (by omega)
 have hs:=split1 hY
 have hl:=Nat.mod_lt Y (show 0<B64^k from Nat.pow_pos B64_pos)
 generalize Lib.bitLen (D B64 Y k)=l at *
 generalize D B64 Y k=y at *
 generalize Y%B64^k=r at *
 have hp:0<2^(64-l):=Nat.pow_pos (by omega)
 have eb:B64^(k+1)=B64*B64^k:=Nat.pow_succ'
 refine ⟨64-l,rfl,by omega,?_,?_⟩
 · have e : 2 * 2 ^ (l - 1) * 2 ^ (64 - l) = B64 := by
    rw [←Nat.pow_succ',←Nat.pow_add,show l-1+1+(64-l)=64 by omega];rfl
   have h5:2*2^(l-1)*2^(64-l)*B64^k≤2*y*2^(64-l)*B64^k:=Nat.mul_le_mul_right _ (Nat.mul_le_mul_right _ (Nat.mul_le_mul_left _ h2))
   rw [e,←eb] at h5
   have h6:y*B64^k*2^(64-l)≤Y*2^(64-l):=Nat.mul_le_mul_right _ (show y*B64^k≤Y by omega)
   have e6:2*y*2^(64-l)*B64^k=2*(y*B64^k*2^(64-l)):=by ac_rfl
   omega
 · have e : 2 ^ l * 2 ^ (64 - l) = B64 := by
    rw [←Nat.pow_add,show l+(64-l)=64 by omega];rfl
   have h5:(y+1)*(2^(64-l)*B64^k)≤2^l*(2^(64-l)*B64^k):=Nat.mul_le_mul_right _ h3
   rw [←Nat.mul_assoc (2^l),e,←eb] at h5
   have h6:Y<(y+1)*B64^k:=by rw [Nat.add_mul,Nat.one_mul];omega
   have h7:Y*2^(64-l)<(y+1)*B64^k*2^(64-l):=Nat.mul_lt_mul_of_pos_right h6 hp
   have e7:(y+1)*B64^k*2^(64-l)=(y+1)*(2^(64-l)*B64^k):=by ac_rfl
   omega

theorem shiftLeft_0 (A:Option Addr) (n c X s:Nat) (w:World) (hn:n≤100000000) (hs:s≤63) (hx:Ng w A n c X) :
  Calls Tryz.prog 189 #[.slice A n c,.int .i64 (s:Int)] w (RetNew w (n+1) (X*2^s)):=by
 have h:=shiftLeft_any A n c X s 0 s w hn (by omega) (by omega) (by omega) hx
 rw [Nat.pow_zero,Nat.mul_one] at h
 exact h
theorem shiftRight_0o (A:Option Addr) (n c X s:Nat) (w:World) (hn:n≤100000000) (hs:s≤63) (hx:Ng w A n c X) :
  Calls Tryz.prog 191 #[.slice A n c,.int .i64 (s:Int)] w (RetNo w (X / 2^s) n):=by
 have h:=shiftRight_own A n c X s 0 s w hn (by omega) (by omega) (by omega) hx
 rw [Nat.pow_zero,Nat.mul_one] at h
 exact h
set_option maxHeartbeats 2000000 in
set_option maxRecDepth 100000 in
theorem divide_less (A B:Option Addr) (n m c d X Y:Nat) (w:World) (hn:n≤100000000) (hm:m≤100000000) (hx:Nm w A n c X) (hy:Nm w B m d Y) (hlt:X<Y) :
  Calls Tryz.prog 170 #[.slice A n c,.slice B m d] w (RetQR w A (X / Y) (X%Y) n n):=by
 have HC:=Lib.hid (compare_any A B n m c d X Y w (by omega) (by omega) hx hy)
 rw [ord_lt hlt] at HC
 rw [Nat.div_eq_of_lt hlt,Nat.mod_eq_of_lt hlt]
 have HX:=Lib.hid hx
 clear hx hy hlt
 go_enter Tryz.func170,Tryz.ntmps170
 go_wp2_with fail
 refine HC.out.mono ?_
 rintro e w1 ⟨rfl,hd⟩
 go_wp2
 go_ret2
 exact ⟨none,0,0,A,n,c,Nat.zero_le _,Nat.le_refl _,rfl,Nm.nil _,HX.out.drew hd,hd.below _,fun z hz=>by simp [Value.ownBlock] at hz,.inl rfl⟩

theorem ord_ge {X Y:Nat} (h:Y≤X):∃ o:Int,ord X Y=o∧0≤o:=⟨_,rfl,by unfold ord;rw [if_neg (by omega)];split<;>omega⟩

theorem rd_one (w:World) (g:Nat) (T:TypeId) (a:Nat) (f:Nat→Nat) (h:w.heap[g]?=some (.cells #[.int .u64 (a:Int)] T (0,0))) (h0:f 0=a):Rd w .u64 (some ⟨g,0,none⟩) 1 f:=fun _=>by
 refine ⟨g,0,rfl,(Array.getElem?_eq_some_iff.1 h).1,fun i hi=>?_⟩
 obtain rfl:i=0:=by omega
 rw [h0];simp [World.cell?,h]

set_option maxHeartbeats 2000000 in
set_option maxRecDepth 100000 in
theorem divide_word (A B:Option Addr) (n c d X Y:Nat) (w:World) (hn:n≤100000000) (hx:Nm w A n c X) (hy:Nm w B 1 d Y) (hle:Y≤X) :
  Calls Tryz.prog 170 #[.slice A n c,.slice B 1 d] w (RetQR w A (X / Y) (X%Y) n 1):=by
 have HC:=Lib.hid (compare_any A B n 1 c d X Y w (by omega) (by omega) hx hy)
 obtain ⟨o,ho,ho0⟩:=ord_ge hle
 rw [ho] at HC
 have hY:=hy.lt
 have hY1:=hy.top (by omega)
 rw [Nat.pow_one] at hY
 rw [Nat.sub_self,Nat.pow_zero] at hY1
 obtain ⟨g,p,rfl,hg,hcell⟩:=hy.rd (by omega)
 have hc0:=hcell 0 (by omega)
 have hd0:D B64 Y 0=Y:=by unfold D;rw [Nat.pow_zero,Nat.div_one,Nat.mod_eq_of_lt hY]
 rw [hd0,Nat.add_zero] at hc0
 have hdw:=fun V (hV:Drew w V)=>divideWord_any A n c X Y V (by omega) hY1 (by rw [←B64_eq];exact hY) (hx.drew hV).toNg
 have hR:X%Y<18446744073709551616:=by have:=Nat.mod_lt X hY1;rw [B64_eq] at hY;omega
 have HDW:=Lib.hid hdw
 have HRL:=Lib.hid (show X%Y<B64^1 by rw [Nat.pow_one,B64_eq];exact hR)
 have hDR:D B64 (X%Y) 0=X%Y:=by unfold D;rw [Nat.pow_zero,Nat.div_one,B64_eq,Nat.mod_eq_of_lt hR]
 have HDR:=Lib.hid hDR
 clear hdw hx hy hcell hd0 hle ho hDR
 generalize X%Y=R at *
 generalize X / Y=Q at *
 go_enter Tryz.func170,Tryz.ntmps170
 go_wp2_with fail
 refine HC.out.mono ?_
 rintro e w1 ⟨rfl,hd⟩
 have hc1:=(hd.cell ⟨g,p,none⟩).trans hc0
 have HD:=Lib.hid hd
 clear hd
 go_wp2_with fail
 refine (HDW.out _ HD.out).mono ?_
 rintro e w2 ⟨Aq,nq,cq,hnq,rfl,hq,hb2,hf2⟩
 have HQ:=Lib.hid hq
 have HB2:=Lib.hid hb2
 have HF2:=Lib.hid hf2
 clear hq hb2 hf2 hc1
 go_wp2_with fail
 refine (trim_any (some ⟨w2.heap.size,0,none⟩) 1 1 R _ (by omega) ⟨HRL.out,Nat.le_refl _,rd_one _ _ _ R _ (heap_one _ _) HDR.out⟩).mono ?_
 rintro e w3 ⟨k,hk,rfl,hnm,rfl⟩
 have HNM:=Lib.hid hnm
 clear hnm
 have hbb:Below w2.heap.size w2 (w2.alloc (.cells #[.int .u64 (R:Int)] 146)):=(Below.refl _ _).alloc (Nat.le_refl _) _
 have hss:w.heap.size≤w2.heap.size:=by have:=(HD.out.below w.heap.size).size;have:=HB2.out.size;omega
 have hs1:w.heap.size≤w1.heap.size:=(HD.out.below w.heap.size).size
 go_wp2
 go_ret2
 refine ⟨Aq,nq,cq,_,k,1,hnq,hk,rfl,⟨HQ.out.toNg.below hbb,HQ.out.top⟩,HNM.out,?_,fun z hz=>?_,.inr fun z hz=>?_⟩
 · exact ((HD.out.below _).trans (HB2.out.mono hs1)).trans (hbb.mono hss)
 · have:=HF2.out z hz;omega
 · simp [Value.ownBlock] at hz;omega
end Go.Proofs.YtdbhahiieokplaaGreatDoor


namespace Go.Proofs.YtdbhahiieokplaaGreatDoor
open Go.RowKit
attribute [local go_sem ↓] Go.wp_at_zero Go.wp_at_succ

theorem Lies.grown {w w':World} {g n b:Nat} {f:Nat→Nat} (h:Lies w g n f) (hg:w.grownBy w' (some b)) (hne:g≠b):Lies w' g n f:=h.of_block (hg.block g h.lt (fun e=>hne (by injection e)))
theorem Lies.other {w:World} {g n b:Nat} {f:Nat→Nat} (h:Lies w g n f) (i:Nat) (v:Value) (hne:g≠b):Lies (w.setCell ⟨b,i,none⟩ v) g n f:=h.of_block (Below.heap_setCell w ⟨b,i,none⟩ v g hne)
theorem Lies.take {w:World} {g n m:Nat} {f:Nat→Nat} (h:Lies w g n f) (hm:m≤n):Lies w g m f:=by
 obtain ⟨cur,T,hg,hn,hc⟩:=h
 exact ⟨cur,T,hg,by omega,fun i hi=>hc i (by omega)⟩

theorem Drew.drew {w w':World} (h:Drew w w'):Drew w w'.drew:=h.drewN 1

structure Dv (w:World) (B g1 g2 g3 n m Q:Nat) (F1 F2 F3:Nat→Nat):Prop where
 l1:Lies w g1 n F1
 l2:Lies w g2 m F2
 l3:Lies w g3 Q F3
 b1:B≤g1
 b12:g1<g2
 b23:g2<g3

set_option maxHeartbeats 4000000 in
set_option maxRecDepth 100000 in
theorem divide_long_own (A B:Option Addr) (n m2 c d X Y:Nat) (w:World) (hn:n≤100000000) (hx:Nm w A n c X) (hy:Nm w B (m2+2) d Y) (hle:Y≤X) :
  Calls Tryz.prog 170 #[.slice A n c,.slice B (m2+2) d] w (RetQRo w (X / Y) (X%Y) (n+1) (m2+2)):=by
 have hmn:m2+2≤n:=Nm.le_len hx.toNg hy hle
 have HC:=Lib.hid (compare_any A B n (m2+2) c d X Y w (by omega) (by omega) hx hy)
 obtain ⟨o,ho,ho0⟩:=ord_ge hle
 rw [ho] at HC
 obtain ⟨s,hs,hs63,hYt,hYl⟩:=top_shift (by omega) hy.lt (hy.top (by omega))
 obtain ⟨g,p,rfl,hg,hcell⟩:=hy.rd (by omega)
 have hct:=hcell (m2+1) (by omega)
 have hydl:=D64_lt Y (m2+1)
 have hlz:=fun V=>lz_any (D B64 Y (m2+1)) s hs hydl V
 have hs1:=fun V (hV:Drew w V)=>shiftLeft_0 A n c X s V (by omega) hs63 (hx.drew hV).toNg
 have hs2:=fun V (hV:Below w.heap.size w V)=>shiftLeft_0 (some ⟨g,p,none⟩) (m2+2) d Y s V (by omega) hs63 (hy.toNg.below hV)
 have hp:0<2^s:=Nat.pow_pos (by omega)
 have hY0:0<Y*2^s:=by
  have:0<B64^(m2+2):=Nat.pow_pos B64_pos
  omega
 have hXl:X*2^s<B64^(n+1):=by
  rw [Nat.pow_succ]
  have h1:2^s≤2^63:=Nat.pow_le_pow_right (by omega) hs63
  exact Nat.mul_lt_mul'' hx.lt (by rw [B64_eq];omega)
 have hdv:X*2^s / (Y*2^s)=X / Y∧X*2^s%(Y*2^s)=X%Y*2^s:=⟨Nat.mul_div_mul_right _ _ hp,Nat.mul_mod_mul_right _ _ _⟩
 have hstart:X*2^s / B64^(n-(m2+2)+1)<Y*2^s:=by
  apply Nat.div_lt_of_lt_mul
  have h1:2^s≤2^63:=Nat.pow_le_pow_right (by omega) hs63
  have h2:=Nat.mul_lt_mul_of_lt_of_le hx.lt h1 (by omega)
  have h3:B64^(n-(m2+2)+1)*B64^(m2+2)≤B64^(n-(m2+2)+1)*(2*(Y*2^s)):=Nat.mul_le_mul_left _ hYt
  have e1:B64^(n-(m2+2)+1)*B64^(m2+2)=B64^n*B64:=by
   rw [←Nat.pow_add,←Nat.pow_succ];congr 1;omega
  have e2:B64^n*B64=2*(B64^n*2^63):=by
   generalize B64^n=P
   rw [show B64=2*2^63 from rfl]
   ac_rfl
  have e3:B64^(n-(m2+2)+1)*(2*(Y*2^s))=2*(B64^(n-(m2+2)+1)*(Y*2^s)):=by ac_rfl
  omega
 obtain ⟨Q,hQ⟩:∃ Q,n-(m2+2)+1=Q:=⟨_,rfl⟩
 rw [hQ] at hstart
 have hQ1:Q+m2+1=n:=by omega
 have hmk:=fun V=>run_make_row' (P:=Tryz.prog) 153 146 (.int .u64 0) 8 Tryz.underlying153 natInfo rfl .i64 .i64 Q (by omega) (by omega) V
 have ec:((Q:Nat):Int)=(n:Int)-((m2:Int)+2)+1:=by omega
 have hmk2:=hmk
 rw [ec] at hmk2
 have HQ1:=Lib.hid hQ1
 have hQn:Q+m2+1≤n:=by omega
 have hQn2:n≤Q+m2+1:=by omega
 clear hQ hmk ec hQ1
 obtain ⟨X',hX'⟩:∃ X',X*2^s=X':=⟨_,rfl⟩
 obtain ⟨Y',hY'⟩:∃ Y',Y*2^s=Y':=⟨_,rfl⟩
 rw [hX'] at hs1 hXl hdv hstart
 rw [hY'] at hs2 hY0 hYt hYl hdv hstart
 have HS1:=Lib.hid hs1
 have HS2:=Lib.hid hs2
 have HLZ:=Lib.hid hlz
 have HDV:=Lib.hid hdv
 have HST:=Lib.hid hstart
 have HYT:=Lib.hid hYt
 have HYL:=Lib.hid hYl
 have HXL:=Lib.hid hXl
 have hp0:=hp
 clear hx hy hcell hs hs1 hs2 hlz hdv hstart hYt hYl hXl hX' hY' hle hp ho
 have HMK:=Lib.hid hmk2
 clear hmk2
 have i1:(0:Int)≤(m2:Int)+1:=by omega
 have i2:(m2:Int)+1<(m2:Int)+2:=by omega
 go_enter Tryz.func170,Tryz.ntmps170
 go_wp2_with fail
 refine HC.out.mono ?_
 rintro e w1 ⟨rfl,hd⟩
 have hc1:=(hd.cell ⟨g,p+(m2+1),none⟩).trans hct
 have HD:=Lib.hid hd
 clear hd
 go_wp2_with fail
 refine (HLZ.out _).mono ?_
 rintro e w' ⟨rfl,rfl⟩
 go_wp2_with fail
 have hw1:w.heap.size≤w1.heap.size:=(HD.out.below w.heap.size).size
 have j1:(0:Int)≤(m2:Int)+2:=by omega
 have j2:(m2:Int)+2≤(m2:Int)+2+1:=by omega
 have j3:((m2:Int)+2).toNat=m2+2:=by omega
 clear hc1 hct hydl i1 i2
 go_region_with (first
  | (go_at_call 189;(with_reducible refine (HS1.out _ ?_).mono ?_);(exact HD.out.drew);rintro e w2 ⟨g1,rfl,hl1,hb2,hg1⟩;have hw2:w1.heap.size≤w2.heap.size:=hb2.size;have hg1':w1.heap.size≤g1:=hg1)
  | (go_at_call 189;(with_reducible refine (HS2.out _ ?_).mono ?_);(exact (HD.out.drew.below _).trans (hb2.mono hw1));rintro e w3 ⟨g2,rfl,hl2,hb3,hg2⟩;have hw3:w2.heap.size≤w3.heap.size:=hb3.size))
 have hmk2:=HMK.out
 have hl1':=Lies.below hl1 hb3 hl1.lt
 have hb3':Below w.heap.size w w3:=((HD.out.drew.below _).trans (hb2.mono hw1)).trans (hb3.mono (by omega))
 have hl1s:=hl1.lt
 have hl2s:=hl2.lt
 have HL1:=Lib.hid hl1'
 have HL2:=Lib.hid hl2
 have HB3:=Lib.hid hb3'
 clear hl1 hl1' hl2 hb2 hb3 hb3' j1 j2 j3
 have hg12:g1<g2:=by omega
 have hg23:g2<w3.heap.size:=hl2s
 have hgw:w.heap.size≤g1:=by omega
 have hL2m:=HL2.out.take (show m2+2≤m2+2+1 by omega)
 have HL2M:=Lib.hid hL2m
 have hwY:=fun j=>step_win (X:=X') (Y:=Y') (j:=j) (m:=m2+2) hY0 HYL.out
 have HWY:=Lib.hid hwY
 clear hL2m hwY hl1s hl2s
 go_wp2
 clear hmk2
 go_loopw [11] (fun iv wr=>∃ k:Nat,k≤Q∧iv=.int .i64 ((k:Int)-1)∧Dv wr w.heap.size g1 g2 w3.heap.size (n+1) (m2+2) Q (D B64 (rsN X' Y' k)) (D B64 Y') (fun j=>if k≤j then D B64 (X' / Y') j else 0)∧Below w.heap.size w wr) (fun iv _=>(intOf iv+1).toNat)
 case atStart =>
  have hr0:rsN X' Y' Q=X':=by
   unfold rsN
   rw [Nat.mod_eq_of_lt HST.out,Nat.mul_comm]
   exact Nat.div_add_mod _ _
  refine ⟨Q,Nat.le_refl _,rfl,⟨?_,?_,(Lies.of_made w3 Q).congr fun i hi=>by rw [if_neg (by omega)],hgw,hg12,hg23⟩,HB3.out.alloc (by omega) _⟩
  · rw [hr0]
    exact Lies.below HL1.out ((Below.refl _ _).alloc (Nat.le_refl _) _) (by omega)
  · exact Lies.below HL2M.out ((Below.refl _ _).alloc (Nat.le_refl _) _) (by omega)
 case round =>
  obtain ⟨k,hk,rfl,hdv,hbl⟩:=hrel
  rcases k with _ | j
  · have e:(((0:Nat):Int)-1)=-1:=rfl
    rw [e]
    clear e
    have hr0:rsN X' Y' 0=X'%Y':=by unfold rsN;rw [Nat.pow_zero,Nat.div_one,Nat.mul_one,Nat.mod_one,Nat.add_zero]
    have hrl:X'%Y'<B64^(m2+2):=Nat.lt_trans (Nat.mod_lt _ hY0) HYL.out
    have hql:X' / Y'<B64^Q:=by
     rw [Nat.div_lt_iff_lt_mul hY0]
     have h1:=HST.out
     rw [Nat.div_lt_iff_lt_mul (Nat.pow_pos B64_pos)] at h1
     rw [Nat.mul_comm]
     exact h1
    have hnq:Ng wr (some ⟨w3.heap.size,0,none⟩) Q Q (X' / Y'):=⟨hql,Nat.le_refl _,(hdv.l3.congr fun i _=>by rw [if_pos (Nat.zero_le _)]).rd⟩
    have hnr:Ng wr (some ⟨g1,0,none⟩) (m2+2) (n+1) (X'%Y'):=⟨hrl,by omega,by have:=(hdv.l1.take (show m2+2≤n+1 by omega)).rd;rw [hr0] at this;exact this⟩
    have hD1:=HDV.out.1
    have hD2:=HDV.out.2
    rw [hD1] at hnq
    have HNQ:=Lib.hid hnq
    have HNR:=Lib.hid hnr
    have HD2:=Lib.hid hD2
    have HBL:=Lib.hid hbl
    clear hr0 hrl hql hnq hnr hD1 hD2 hbl hdv
    have j1:(0:Int)≤(m2:Int)+2:=by omega
    have j2:(m2:Int)+2≤(n:Int)+1:=by omega
    have j3:((m2:Int)+2).toNat=m2+2:=by omega
    go_wp2_with fail
    go_region_with (first
     | (go_at_call 165;(with_reducible refine (trim_any (some ⟨w3.heap.size,0,none⟩) Q Q (X / Y) _ ?_ ?_).mono ?_);(omega);(exact HNQ.out.drewN 1);rintro e wq ⟨kq,hkq,rfl,hnmq,rfl⟩;have HNMQ:=Lib.hid hnmq;clear hnmq)
     | (go_at_call 165;(with_reducible refine (trim_any (some ⟨g1,0,none⟩) (m2+2) (n+1) (X'%Y') _ ?_ ?_).mono ?_);(omega);(exact HNR.out.drewN 1);rintro e wq ⟨kr,hkr,rfl,hnmr,rfl⟩;have HNMR:=Lib.hid hnmr;clear hnmr)
     | (go_at_call 191;(with_reducible refine (shiftRight_0o (some ⟨g1,0,none⟩) kr (n+1) (X'%Y') s _ ?_ ?_ ?_).mono ?_);(omega);(omega);(exact HNMR.out.toNg);rintro e w6 ⟨Ar,nr,cr,hnr,rfl,hmr,hb6,hfr,hor⟩))
    have hwr:=HBL.out.size
    have hq2:X'%Y' / 2^s=X%Y:=by rw [HD2.out,Nat.mul_div_cancel _ hp0]
    rw [hq2] at hmr hor
    have HOR:=Lib.hid (hor.mono (base':=w.heap.size) (show w.heap.size≤wr.heap.size from hwr))
    have HMR:=Lib.hid hmr
    have HB6:=Lib.hid hb6
    have HFR:=Lib.hid hfr
    clear hmr hb6 hfr hq2 hor
    go_wp2
    go_ret2
    refine ⟨_,kq,Q,Ar,nr,cr,by omega,by omega,rfl,⟨HNMQ.out.toNg.below HB6.out,HNMQ.out.top⟩,HMR.out,HBL.out.drew.trans (HB6.out.mono hwr),fun z hz=>?_,fun z hz=>?_,HOR.out⟩
    · simp [Value.ownBlock] at hz;omega
    · have h9:wr.heap.size≤z:=HFR.out z hz
      omega
  · have e:(((j+1:Nat):Int)-1)=(j:Int):=by omega
    rw [e]
    clear e
    obtain ⟨w1',w2',w3'⟩:=HWY.out j
    obtain ⟨v1,v2⟩:=wd_lt (X:=X') (j:=j) hY0 HYL.out
    have hqd:=fun V (hV:Drew wr V) (L:Nat) (hL:L=m2+3) (M:Nat) (hM:M=m2+2)=>quotientDigit_any g1 j (n+1) m2 (n+1-j) _ (some ⟨g2,0,none⟩) (m2+2+1) (wdN X' Y' j) Y' L M V hL hM (by omega) (by omega) (by omega) (by omega) (hdv.l1.drew hV) (fun i hi=>w1' i) v2 (hdv.l2.drew hV).rd HYL.out HYT.out v1 (fun a ha=>by injection ha with ha;subst ha;show g2≠g1;omega)
    rw [w2'] at hqd
    obtain ⟨qd,hqde⟩:∃ q,D B64 (X' / Y') j=q:=⟨_,rfl⟩
    rw [hqde] at hqd
    have HQD:=Lib.hid hqd
    have HDV2:=Lib.hid hdv
    have HW3:=Lib.hid w3'
    have HQE:=Lib.hid hqde
    have HBL:=Lib.hid hbl
    have i1:(0:Int)≤(j:Int):=by omega
    have i2:(j:Int)≤(j:Int)+((m2:Int)+2)+1:=by omega
    have i3:(j:Int)+((m2:Int)+2)+1≤(n:Int)+1:=by omega
    have i4:(j:Int)<(Q:Int):=by omega
    have i5:¬(n+1=j):=by omega
    clear hqd w1' w2' w3' v1 v2 hdv hqde hbl
    go_wp2_with fail
    refine (HQD.out _ (Drew.refl _) _ (by omega) _ rfl).mono ?_
    rintro e w5 ⟨rfl,hl5,hg5⟩
    have hl3:=HDV2.out.l3.grown hg5 (by omega)
    have hcs:=hl3.cell (i:=j) (by omega)
    have hfs:=hl3.frozen j
    have hsz5:=hg5.size
    have hwr:=HBL.out.size
    have HL3:=Lib.hid hl3
    have HL5:=Lib.hid hl5
    have HG5:=Lib.hid hg5
    clear hl3 hl5 hg5
    go_wp2
    go_roundw
    case rel =>
     refine ⟨j,by omega,by go_num,⟨(HL5.out.congr fun i _=>HW3.out i).other _ _ (by omega),(HDV2.out.l2.grown HG5.out (by omega)).other _ _ (by omega),(HL3.out.set j qd).congr fun i hi=>?_,hgw,hg12,hg23⟩,(HBL.out.trans (below_of_grown (g:=g1) HG5.out (by omega) hgw)).setCell (by show w.heap.size≤w3.heap.size;omega) _⟩
     by_cases e:i=j
     · rw [if_pos e,if_pos (by omega),←HQE.out,e]
     · rw [if_neg e]
       by_cases e2:j+1≤i
       · rw [if_pos e2,if_pos (by omega)]
       · rw [if_neg e2,if_neg (by omega)]
    case measure=>simp [intOf]<;>omega

theorem divide_long (A B:Option Addr) (n m2 c d X Y:Nat) (w:World) (hn:n≤100000000) (hx:Nm w A n c X) (hy:Nm w B (m2+2) d Y) (hle:Y≤X) :
  Calls Tryz.prog 170 #[.slice A n c,.slice B (m2+2) d] w (RetQR w A (X / Y) (X%Y) (n+1) (n+1)) :=
 (divide_long_own A B n m2 c d X Y w hn hx hy hle).mono fun _ _ ⟨Aq,nq,cq,Ar,nr,cr,k1,k2,h1,h2,h3,h4,h5,h6,_⟩ =>
  ⟨Aq,nq,cq,Ar,nr,cr,k1,by have:=Nm.le_len hx.toNg hy hle;omega,h1,h2,h3,h4,h5,.inr h6⟩

theorem divide_any (A B:Option Addr) (n m c d X Y:Nat) (w:World) (hn:n≤100000000) (hm:m≤100000000) (hx:Nm w A n c X) (hy:Nm w B m d Y) (h0:0<Y) :
  Calls Tryz.prog 170 #[.slice A n c,.slice B m d] w (RetQR w A (X / Y) (X%Y) (n+1) (n+1)):=by
 have mono:∀ {Q R a b e w'},a≤n+1→b≤n+1→RetQR w A Q R a b e w'→RetQR w A Q R (n+1) (n+1) e w':=fun h1 h2 ⟨Aq,nq,cq,Ar,nr,cr,k1,k2,r⟩=>⟨Aq,nq,cq,Ar,nr,cr,by omega,by omega,r⟩
 by_cases hlt:X<Y
 · exact (divide_less A B n m c d X Y w hn hm hx hy hlt).mono fun e w'=>mono (by omega) (by omega)
 · have hmn:m≤n:=Nm.le_len hx.toNg hy (by omega)
   by_cases h1:m=1
   · subst h1
     exact (divide_word A B n c d X Y w hn hx hy (by omega)).mono fun e w'=>mono (by omega) (by omega)
   · have hm0:m≠0:=fun h=>by have:=hy.zero.1 h;omega
     obtain ⟨m2,rfl⟩:∃ m2,m=m2+2:=⟨m-2,by omega⟩
     exact divide_long A B n m2 c d X Y w hn hx hy (by omega)
end Go.Proofs.YtdbhahiieokplaaGreatDoor


namespace Go.Proofs.YtdbhahiieokplaaGreatDoor
open Go.RowKit
attribute [local go_sem ↓] Go.wp_at_zero Go.wp_at_succ

structure K4 (w:World) (T:TypeId) (v0 v1 v2 v3:Value) (w1:World):Prop where
 k0:w1.heap[w.heap.size]?=some (.cells #[v0,v1] T (0,0))
 k1:w1.heap[w.heap.size+1]?=some (.cells #[v2,v3] T (0,0))
 k2:w1.heap[w.heap.size+2]?=some (.cells #[.bool false,.string ⟨#[]⟩] T (0,0))
 k3:w1.heap[w.heap.size+3]?=some (.cells #[.bool false,.string ⟨#[]⟩] T (0,0))
 sz:w.heap.size+4≤w1.heap.size
 bel:Below w.heap.size w w1
theorem K4.start (w:World) (T:TypeId) (v0 v1 v2 v3:Value):K4 w T v0 v1 v2 v3 ((((w.alloc (.cells #[v0,v1] T)).alloc (.cells #[v2,v3] T)).alloc (.cells #[.bool false,.string ⟨#[]⟩] T)).alloc (.cells #[.bool false,.string ⟨#[]⟩] T)):=by
 obtain ⟨a1,a2,a3,a4⟩:=heap_four w (.cells #[v0,v1] T) (.cells #[v2,v3] T) (.cells #[.bool false,.string ⟨#[]⟩] T) (.cells #[.bool false,.string ⟨#[]⟩] T)
 exact ⟨a1,a2,a3,a4,by simp,((((Below.refl _ _).alloc (Nat.le_refl _) _).alloc (by simp) _).alloc (by simp<;>omega) _).alloc (by simp<;>omega) _⟩
theorem K4.next {w:World} {T:TypeId} {v0 v1 v2 v3:Value} {w1 w2:World} {B:Nat} (h:K4 w T v0 v1 v2 v3 w1) (hb:Below B w1 w2) (hB:w.heap.size+4≤B):K4 w T v0 v1 v2 v3 w2:=by
 have hs:=h.sz
 refine ⟨(hb.block _ (by omega)).trans h.k0,(hb.block _ (by omega)).trans h.k1,(hb.block _ (by omega)).trans h.k2,(hb.block _ (by omega)).trans h.k3,?_,h.bel.trans (hb.mono (by omega))⟩
 have:=hb.size
 omega
theorem K4.stored {w:World} {T:TypeId} {v0 v1 v2 v3:Value} {w1:World} (h:K4 w T v0 v1 v2 v3 w1) (x y z u:Value):Below w.heap.size w ((((w1.setCell ⟨w.heap.size+2,0,none⟩ x).setCell ⟨w.heap.size+2,1,none⟩ y).setCell ⟨w.heap.size+3,0,none⟩ z).setCell ⟨w.heap.size+3,1,none⟩ u) :=
 (((h.bel.setCell (by show w.heap.size≤w.heap.size+2;omega) _).setCell (by show w.heap.size≤w.heap.size+2;omega) _).setCell (by show w.heap.size≤w.heap.size+3;omega) _).setCell (by show w.heap.size≤w.heap.size+3;omega) _

structure Up (w:World) (T:TypeId) (v0 v1 v2 v3:Value) (S:Nat) (A1 A2:Option Addr) (n1 d1 n2 d2 X Y N1 N2:Nat) (w3:World):Prop where
 k:K4 w T v0 v1 v2 v3 w3
 hS:w.heap.size+4≤S
 hx:Nm w3 A1 n1 d1 X
 hy:Nm w3 A2 n2 d2 Y
 sp:Is16 w3 (S+2)
 ax:∀ a,A1=some a→a.block≠S+2
 ay:∀ a,A2=some a→a.block≠S+2
 n1b:n1≤N1
 n2b:n2≤N2
 sz:S+3≤w3.heap.size
end Go.Proofs.YtdbhahiieokplaaGreatDoor


namespace Go.Proofs.YtdbhahiieokplaaGreatDoor
open Go.RowKit
attribute [local go_sem ↓] Go.wp_at_zero Go.wp_at_succ

end Go.Proofs.YtdbhahiieokplaaGreatDoor


namespace Go.Proofs.YtdbhahiieokplaaGreatDoor
open Go.RowKit
attribute [local go_sem ↓] Go.wp_at_zero Go.wp_at_succ

structure Zi (W:World) (g:Nat) (b:Bool) (m:ByteArray):Prop where
 c0:W.cell? ⟨g,0,none⟩=some (.bool b)
 c1:W.cell? ⟨g,1,none⟩=some (.string m)

theorem Zi.below {W W':World} {g B:Nat} {b:Bool} {m:ByteArray} (h:Zi W g b m) (hb:Below B W W') (hg:g<B):Zi W' g b m :=
 ⟨(hb.cell (p:=⟨g,0,none⟩) hg).trans h.c0,(hb.cell (p:=⟨g,1,none⟩) hg).trans h.c1⟩

structure K3 (w:World) (T:TypeId) (v0 v1 v2 v3 v4 v5:Value) (w1:World):Prop where
 k0:w1.heap[w.heap.size]?=some (.cells #[v0,v1] T (0,0))
 k1:w1.heap[w.heap.size+1]?=some (.cells #[v2,v3] T (0,0))
 k2:w1.heap[w.heap.size+2]?=some (.cells #[v4,v5] T (0,0))
 sz:w.heap.size+3≤w1.heap.size
 bel:Below w.heap.size w w1

theorem K3.start (w:World) (T:TypeId) (v0 v1 v2 v3 v4 v5:Value):K3 w T v0 v1 v2 v3 v4 v5 (((w.alloc (.cells #[v0,v1] T)).alloc (.cells #[v2,v3] T)).alloc (.cells #[v4,v5] T)):=by
 obtain ⟨k1,k2,k3⟩:=heap_three_all w (.cells #[v0,v1] T) (.cells #[v2,v3] T) (.cells #[v4,v5] T)
 exact ⟨k1,k2,k3,by simp,(((Below.refl _ _).alloc (Nat.le_refl _) _).alloc (by simp) _).alloc (by simp<;>omega) _⟩

theorem K3.next {w:World} {T:TypeId} {v0 v1 v2 v3 v4 v5:Value} {w1 w2:World} (h:K3 w T v0 v1 v2 v3 v4 v5 w1) (hb:Below w1.heap.size w1 w2):K3 w T v0 v1 v2 v3 v4 v5 w2:=by
 have hs:=h.sz
 refine ⟨(hb.block _ (by omega)).trans h.k0,(hb.block _ (by omega)).trans h.k1,(hb.block _ (by omega)).trans h.k2,?_,h.bel.trans (hb.mono h.bel.size)⟩
 have:=hb.size
 omega
theorem K3.drew {w:World} {T:TypeId} {v0 v1 v2 v3 v4 v5:Value} {w1:World} (h:K3 w T v0 v1 v2 v3 v4 v5 w1):K3 w T v0 v1 v2 v3 v4 v5 w1.drew:=h.next (Below.refl _ _).drew

end Go.Proofs.YtdbhahiieokplaaGreatDoor


namespace Go.Proofs.YtdbhahiieokplaaGreatDoor
open Go.RowKit
attribute [local go_sem ↓] Go.wp_at_zero Go.wp_at_succ

def cmpZ (x y:Int):Int:=if x<y then -1 else if y<x then 1 else 0

theorem cmpZ_diff {x y:Int} (h:x.sign≠y.sign):cmpZ x y=if x.sign<y.sign then -1 else 1:=by
 unfold cmpZ
 rcases Int.lt_trichotomy x 0 with h1 | h1 | h1<;>rcases Int.lt_trichotomy y 0 with h2 | h2 | h2 <;>
  simp [Int.sign_eq_neg_one_of_neg,Int.sign_eq_one_of_pos,h1,h2] at h ⊢<;>omega

theorem cmpZ_same {x y:Int} (h:x.sign=y.sign):cmpZ x y=ord x.natAbs y.natAbs*x.sign:=by
 unfold cmpZ ord
 rcases Int.lt_trichotomy x 0 with h1 | h1 | h1<;>rcases Int.lt_trichotomy y 0 with h2 | h2 | h2 <;>
  simp [Int.sign_eq_neg_one_of_neg,Int.sign_eq_one_of_pos,h1,h2] at h ⊢
 · split<;>split<;>(try split)<;>(try split)<;>omega
 · split<;>split<;>(try split)<;>(try split)<;>omega

theorem cmpZ_in (x y:Int):-1≤cmpZ x y∧cmpZ x y≤1:=by unfold cmpZ;split<;>(try split)<;>omega
end Go.Proofs.YtdbhahiieokplaaGreatDoor


namespace Go.Proofs.YtdbhahiieokplaaGreatDoor
open Go.RowKit
attribute [local go_sem ↓] Go.wp_at_zero Go.wp_at_succ

end Go.Proofs.YtdbhahiieokplaaGreatDoor


namespace Go.Proofs.YtdbhahiieokplaaGreatDoor
open Go.RowKit
attribute [local go_sem ↓] Go.wp_at_zero Go.wp_at_succ

theorem Dg.other {w:World} {K:IntKind} {b:Nat} {A:Option Addr} {n V g:Nat} (h:Dg w K b A n V) (hA:∀ a,A=some a→a.block≠g) (i:Nat) (v:Value):Dg (w.setCell ⟨g,i,none⟩ v) K b A n V:=⟨h.lt,fun hn=>by
 obtain ⟨g',o,e,hg,hc⟩:=h.rd hn
 refine ⟨g',o,e,by simpa [World.setCell] using hg,fun j hj=>?_⟩
 exact (World.cell?_of_block (w:=w) (Below.heap_setCell w ⟨g,i,none⟩ v g' (by have:=hA _ e;exact this))).trans (hc j hj)⟩


end Go.Proofs.YtdbhahiieokplaaGreatDoor


namespace Go.Proofs.YtdbhahiieokplaaGreatDoor
open Go.RowKit
attribute [local go_sem ↓] Go.wp_at_zero Go.wp_at_succ

structure B4 (w:World) (T:TypeId) (v0 v1 v2 v3 q0 q1 r0 r1:Value) (w1:World):Prop where
 k0:w1.heap[w.heap.size]?=some (.cells #[v0,v1] T (0,0))
 k1:w1.heap[w.heap.size+1]?=some (.cells #[v2,v3] T (0,0))
 k2:w1.heap[w.heap.size+2]?=some (.cells #[q0,q1] T (0,0))
 k3:w1.heap[w.heap.size+3]?=some (.cells #[r0,r1] T (0,0))
 sz:w.heap.size+4≤w1.heap.size
 bel:Below w.heap.size w w1

section
variable {w w1 w2:World} {T:TypeId} {v0 v1 v2 v3 q0 q1 r0 r1:Value}
theorem B4.start (w:World) (T:TypeId) (v0 v1 v2 v3:Value):B4 w T v0 v1 v2 v3 (.bool false) (.string ⟨#[]⟩) (.bool false) (.string ⟨#[]⟩) ((((w.alloc (.cells #[v0,v1] T)).alloc (.cells #[v2,v3] T)).alloc (.cells #[.bool false,.string ⟨#[]⟩] T)).alloc (.cells #[.bool false,.string ⟨#[]⟩] T)):=by
 have h:=K4.start w T v0 v1 v2 v3
 exact ⟨h.k0,h.k1,h.k2,h.k3,h.sz,h.bel⟩
theorem B4.next (h:B4 w T v0 v1 v2 v3 q0 q1 r0 r1 w1) (hb:Below w1.heap.size w1 w2):B4 w T v0 v1 v2 v3 q0 q1 r0 r1 w2:=by
 have hs:=h.sz
 refine ⟨(hb.block _ (by omega)).trans h.k0,(hb.block _ (by omega)).trans h.k1,(hb.block _ (by omega)).trans h.k2,(hb.block _ (by omega)).trans h.k3,?_,h.bel.trans (hb.mono h.bel.size)⟩
 have:=hb.size
 omega
theorem two_set {W:World} {g:Nat} {x0 x1:Value} (h:W.heap[g]?=some (.cells #[x0,x1] T (0,0))) (x y:Value):((W.setCell ⟨g,0,none⟩ x).setCell ⟨g,1,none⟩ y).heap[g]?=some (.cells #[x,y] T (0,0)):=by
 simp [World.setCell,Array.getElem?_modify,h]
theorem two_other {W:World} {g k:Nat} (hne:k≠g) (x y:Value):((W.setCell ⟨g,0,none⟩ x).setCell ⟨g,1,none⟩ y).heap[k]?=W.heap[k]? :=
 (Below.heap_setCell _ ⟨g,1,none⟩ y k hne).trans (Below.heap_setCell _ ⟨g,0,none⟩ x k hne)
theorem two_size {W:World} {g:Nat} (x y:Value):((W.setCell ⟨g,0,none⟩ x).setCell ⟨g,1,none⟩ y).heap.size=W.heap.size:=by simp [World.setCell]
theorem B4.setR (h:B4 w T v0 v1 v2 v3 q0 q1 r0 r1 w1) (x y:Value):B4 w T v0 v1 v2 v3 q0 q1 x y ((w1.setCell ⟨w.heap.size+3,0,none⟩ x).setCell ⟨w.heap.size+3,1,none⟩ y) :=
 ⟨(two_other (by omega) x y).trans h.k0,(two_other (by omega) x y).trans h.k1,(two_other (by omega) x y).trans h.k2,two_set h.k3 x y,by rw [two_size];exact h.sz,(h.bel.setCell (by show w.heap.size≤w.heap.size+3;omega) _).setCell (by show w.heap.size≤w.heap.size+3;omega) _⟩
end

end Go.Proofs.YtdbhahiieokplaaGreatDoor


namespace Go.Proofs.YtdbhahiieokplaaGreatDoor
open Go.RowKit
attribute [local go_sem ↓] Go.wp_at_zero Go.wp_at_succ

end Go.Proofs.YtdbhahiieokplaaGreatDoor
