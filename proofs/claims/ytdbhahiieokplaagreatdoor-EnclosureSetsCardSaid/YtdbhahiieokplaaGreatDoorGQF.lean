import Derived.Test.YtdbhahiieokplaaGreatDoorGQE
import Derived.Deep.RegionLaw
import Derived.Deep.LoopGhost
import Derived.Laws.AppendOwnNone
set_option linter.unusedSimpArgs false
set_option linter.unusedVariables false

namespace Go.Proofs.YtdbhahiieokplaaGreatDoor
open Go.RowKit
attribute [local go_sem ↓] Go.wp_at_zero Go.wp_at_succ

def RetQt (w:World) (Q R:Nat) (e:Ending) (w':World):Prop :=
 ∃ A1 n1 c1 A2 n2 c2,e=.returned (.tuple #[.slice A1 n1 c1,.slice A2 n2 c2])∧Tr w' A1 n1 c1 Q∧Tr w' A2 n2 c2 R∧Below w.heap.size w w'

set_option maxHeartbeats 4000000 in
set_option maxRecDepth 100000 in
theorem rdivide_small (A B:Option Addr) (n m c d X Y:Nat) (w:World) (hn:n≤7) (hm:m≤7) (hx:Tr w A n c X) (hy:Tr w B m d Y) (h0:0<Y) :
  Calls Tryz.prog 112 #[.slice A n c,.slice B m d] w (RetQt w (X / Y) (X%Y)):=by
 have hX:X<72057594037927936:=Nat.lt_of_lt_of_le hx.dg.lt (pow256_7 hn)
 have hY:Y<72057594037927936:=Nat.lt_of_lt_of_le hy.dg.lt (pow256_7 hm)
 have HX:=Lib.hid hx.dg
 have HY:=Lib.hid hy.dg
 have hQ1:=Nat.div_le_self X Y
 have hR1:=Nat.mod_le X Y
 obtain ⟨Q,hQ⟩:∃ Q,X / Y=Q:=⟨_,rfl⟩
 obtain ⟨R,hR⟩:∃ R,X%Y=R:=⟨_,rfl⟩
 rw [hQ] at hQ1
 rw [hR] at hR1
 rw [hQ,hR]
 have hQ2:Q<72057594037927936:=by omega
 have hR2:R<72057594037927936:=by omega
 have HL1:=Lib.hid (fun V=>rlarge Q hQ2 V)
 have HL2:=Lib.hid (fun V=>rlarge R hR2 V)
 have HQ:=Lib.hid (show (X:Int) / (Y:Int)=(Q:Int) by rw [←hQ,Int.natCast_ediv])
 have HR:=Lib.hid (show (X:Int)%(Y:Int)=(R:Int) by rw [←hR,Int.natCast_emod])
 have HQ':=Lib.hid (show IntKind.i64.wrap ((X:Int).tdiv (Y:Int))=(Q:Int) by rw [Int.tdiv_eq_ediv_of_nonneg (by omega),HQ.out];exact IntWalk.i64_in _ (by omega))
 have HR':=Lib.hid (show (X:Int).tmod (Y:Int)=(R:Int) by rw [Int.tmod_eq_emod_of_nonneg (by omega),HR.out])
 have HE:=Lib.hid (show ((Y:Int)==0)=false by simp;omega)
 clear hx hy hQ hR
 go_enter Tryz.func112,Tryz.ntmps112
 go_wp2_with fail
 refine (rsmall_yes A n c X _ hn HX.out).mono ?_
 rintro e w' ⟨rfl,rfl⟩
 go_wp2_with fail
 refine (rsmall_yes B m d Y _ hm HY.out).mono ?_
 rintro e w' ⟨rfl,rfl⟩
 have hq:=HQ.out
 have hr:=HR.out
 have he:=HE.out
 have hq':=HQ'.out
 have hr':=HR'.out
 have hw:IntKind.i64.wrap (Q:Int)=(Q:Int):=IntWalk.i64_in _ (by omega)
 have hne1:¬Y=0:=by omega
 have hne2:¬(Y:Int)=0:=by omega
 go_wp2_with fail
 go_region_held3 (fun _=>True) (first | go_keep | trivial)
  (first
   | (go_at_call 144;(with_reducible refine (HL1.out _).mono ?_);rintro e w1 ⟨A1,n1,c1,rfl,ht1,hb1,_⟩)
   | (go_at_call 144;(with_reducible refine (HL2.out _).mono ?_);rintro e w2 ⟨A2,n2,c2,rfl,ht2,hb2,_⟩))
 go_wp2
 go_ret2
 have h0:Below w.heap.size w w.drew:=(Below.refl _ _).drew
 exact ⟨A1,n1,c1,A2,n2,c2,rfl,ht1.below hb2,ht2,(h0.trans (hb1.mono h0.size)).trans (hb2.mono (Nat.le_trans h0.size hb1.size))⟩

theorem one_own (w:World) (base:Nat) (hb:base≤w.heap.size) (e:Nat) (T:TypeId):(w.alloc (.cells #[.int .i64 (e:Int)] T)).ownsRow base T 1 (.slice (some ⟨w.heap.size,0,none⟩) 1 1) 1 [.int .i64 (e:Int)] :=
 ⟨rfl,.inr ⟨w.heap.size,1,_,rfl,hb,heap_one w _,Nat.le_refl _,by decide,rfl,rfl⟩⟩

set_option maxRecDepth 100000 in
theorem wpList_front {W:World} {ops:Array Oper} {rest:List Oper} {o:Oper} {a:Act} {Q:Exit→Act→World→Prop} (hgd:o.guard=none) (s x:Operand)
  (ho:o.op=.call { callee:=.builtin .append,args:=#[s,x],argTypes:=#[98,98] })
  (e R:Nat) (A:Option Addr) (n c:Nat) (hs:a.eval s=.slice (some ⟨W.heap.size,0,none⟩) 1 1) (hx:a.eval x=.slice A n c) (hr:Tr W A n c R) (he:e<256) (hn:n≤1000001)
  (h:∀ A' c' w',Dg w' .i64 256 A' (n+1) (256*R+e)→n+1≤c'→A'≠none→(∀ b,A'=some b→W.heap.size≤b.block)→Below W.heap.size W w'→wpList Tryz.prog ops Q rest (a.put o.dst (.slice A' (n+1) c')) w') :
  wpList Tryz.prog ops Q (o :: rest) a (W.alloc (.cells #[.int .i64 (e:Int)] 3)):=by
 obtain ⟨i0,hi,hz0,hz1,hz2⟩:=info_parts intTy_info
 have hown:=one_own W W.heap.size (Nat.le_refl _) e 3
 have hR:R<256^n:=hr.dg.lt
 have hb0:Below W.heap.size W (W.alloc (.cells #[.int .i64 (e:Int)] 3)):=(Below.refl _ _).alloc (Nat.le_refl _) _
 rcases A with _ | ad
 · have hc:=hr.nil rfl
   have hcap:=hr.cap
   obtain rfl:c=0:=hc
   obtain rfl:n=0:=by omega
   refine wpList_append_own_none hgd s x 98 ho W.heap.size 3 i0 1 Tryz.underlying98 hi _ 1 _ hs hown hx ?_
   refine h (some ⟨W.heap.size,0,none⟩) 1 _ ⟨front_lt he hR,fun _=>⟨W.heap.size,0,rfl,by simp,fun j hj=>?_⟩⟩ (Nat.le_refl _) (by simp) (fun b hb=>by injection hb with hb;subst hb;exact Nat.le_refl _) hb0
   obtain rfl:j=0:=by omega
   rw [D_front R e he,if_pos rfl]
   exact (cell_of_row _ _ _ _ 3 (0,0) (heap_one W _)).trans rfl
 · refine wpList_append_own (W.alloc (.cells #[.int .i64 (e:Int)] 3)) hgd s x 98 ho W.heap.size 3 i0 (.int .i64 0) 1 8 Tryz.underlying98 hi hz0 hz1 hz2 rfl (by decide) _ 1 _ hs hown ad n c (nums .i64 (D 256 R) n) hx (by rw [nums_length,Nat.mul_one]) ?_ ?_ ?_ ?_ (by simp) ?_
   · intro j u hj
     have hjn:j<n:=by
      rcases Nat.lt_or_ge j n with h1 | h1
      · exact h1
      · rw [List.getElem?_eq_none (by rw [nums_length];omega)] at hj;cases hj
     obtain ⟨g,of,hA,hg,hc⟩:=(hr.alloc (.cells #[.int .i64 (e:Int)] 3)).dg.rd (by omega)
     injection hA with hA
     subst hA
     rw [nums_get _ _ _ _ hjn] at hj
     rw [Addr.add_lit,hc j hjn]
     exact hj
   · intro u hu
     unfold nums at hu
     rw [List.mem_map] at hu
     obtain ⟨i,_,rfl⟩:=hu
     rfl
   · unfold maxLen;omega
   · omega
   · intro v' w' hown' hg hnil
     rw [nums_front R e n he,Nat.add_comm 1 n] at hown'
     obtain ⟨A',c',rfl,hc',hn',hrd,hnew⟩:=own_form hown'
     refine h A' c' w' ⟨front_lt he hR,hrd⟩ hc' (fun hA'=>?_) hnew (hb0.grown hg (by simp) (fun g hg=>((hown.lt) g hg).1))
     have:=hn' hA'
     omega

theorem Dg.apart {w:World} {K:IntKind} {b:Nat} {A:Option Addr} {n V g:Nat} (h:Dg w K b A n V) (hA:∀ a,A=some a→a.block≠g) (i:Nat) (v:Value):Dg (w.setCell ⟨g,i,none⟩ v) K b A n V:=⟨h.lt,fun hn=>by
 obtain ⟨g',o,e,hg,hc⟩:=h.rd hn
 refine ⟨g',o,e,by simpa [World.setCell] using hg,fun j hj=>?_⟩
 exact (World.cell?_of_block (w:=w) (Below.heap_setCell w ⟨g,i,none⟩ v g' (by have:=hA _ e;exact this))).trans (hc j hj)⟩

structure Ld (w:World) (n X Y k:Nat) (A:Option Addr) (n' c':Nat) (wr:World):Prop where
 r:Tr wr A n' c' (X / 256^k%Y)
 far:∀ a,A=some a→w.heap.size<a.block
 row:wr.rowIs w.heap.size 3 n (fun j=>.int .i64 ((if k≤j then D 256 (X / Y) j else 0:Nat):Int))
 bel:Below w.heap.size w wr

structure Lmq (w:World) (n X Y i T t:Nat) (A:Option Addr) (n' c':Nat) (wr:World):Prop where
 r:Tr wr A n' c' (T-t*Y)
 far:∀ a,A=some a→w.heap.size<a.block
 row:wr.rowIs w.heap.size 3 n (fun j=>.int .i64 ((if j=i then t else if i<j then D 256 (X / Y) j else 0:Nat):Int))
 bel:Below w.heap.size w wr
 le:t*Y≤T

theorem tr_nil (w:World):Tr w none 0 0 0:=⟨⟨by decide,Rd.nil _ _ _ _⟩,nd_zero.symm,Nat.le_refl _,fun _=>rfl⟩

theorem rsmall_some (B:Option Addr) (m d Y:Nat) (w:World) (hy:Dg w .i64 256 B m Y):∃ (y:Int) (ok:Bool),Calls Tryz.prog 143 #[.slice B m d] w (RetV w (.tuple #[.int .i64 y,.bool ok])):=by
 rcases Nat.lt_or_ge 7 m with h | h
 · exact ⟨_,_,rsmall_no B m d w h⟩
 · exact ⟨_,_,rsmall_yes B m d Y w h hy⟩

set_option maxHeartbeats 4000000 in
set_option maxRecDepth 100000 in
theorem rdivide_less (A B:Option Addr) (n m c d X Y:Nat) (w:World) (hn:n≤1000000) (hm:m≤1000000) (hnm:7<n∨7<m) (hx:Tr w A n c X) (hy:Tr w B m d Y) (hlt:X<Y) :
  Calls Tryz.prog 112 #[.slice A n c,.slice B m d] w (RetQt w (X / Y) (X%Y)):=by
 rw [Nat.div_eq_of_lt hlt,Nat.mod_eq_of_lt hlt]
 have HX:=Lib.hid hx
 have HC:=Lib.hid (rcompare_any A B n m c d X Y w (by omega) (by omega) hx hy)
 rw [ord_lt hlt] at HC
 have hcase:(n≤7∧7<m)∨7<n:=by omega
 have HD:=Lib.hid hx.dg
 obtain ⟨y,ok,hsm⟩:=rsmall_some B m d Y w hy.dg
 have HSM:=Lib.hid hsm
 clear hx hy hnm hlt hsm
 rcases hcase with ⟨h1,h2⟩ | h1
 · go_enter Tryz.func112,Tryz.ntmps112
   go_wp2_with fail
   refine (rsmall_yes A n c X _ h1 HD.out).mono ?_
   rintro e w' ⟨rfl,rfl⟩
   go_wp2_with fail
   refine (rsmall_no B m d _ h2).mono ?_
   rintro e w' ⟨rfl,rfl⟩
   go_wp2_with fail
   refine HC.out.mono ?_
   rintro e w' ⟨rfl,q,rfl⟩
   go_wp2
   go_ret2
   exact ⟨none,0,0,A,n,c,rfl,tr_nil _,HX.out.drewN _,below_draws (Below.refl _ _) _⟩
 · go_enter Tryz.func112,Tryz.ntmps112
   go_wp2_with fail
   refine (rsmall_no A n c _ h1).mono ?_
   rintro e w' ⟨rfl,rfl⟩
   go_wp2_with fail
   refine HSM.out.mono ?_
   rintro e w' ⟨rfl,rfl⟩
   go_wp2_with fail
   refine HC.out.mono ?_
   rintro e w' ⟨rfl,q,rfl⟩
   go_wp2
   go_ret2
   exact ⟨none,0,0,A,n,c,rfl,tr_nil _,HX.out.drewN _,below_draws (Below.refl _ _) _⟩

theorem Ld.start (w w':World) (n X Y:Nat) (hX:X<256^n) (hY:0<Y) (hb:Below w.heap.size w w') (hs:w'.heap.size=w.heap.size):Ld w n X Y n none 0 0 (w'.alloc (.cells (madeCells #[.int .i64 0] n) 3)):=by
 have hz:X / 256^n=0:=Nat.div_eq_of_lt hX
 refine ⟨by rw [hz,Nat.zero_mod];exact tr_nil _,(fun a h=>by cases h),?_,hb.alloc (by omega) _⟩
 have h:=World.rowIs_made w' (.int .i64 0) n 3
 rw [hs] at h
 refine h.congr fun j hj=>?_
 rw [if_neg (by omega)];rfl

set_option maxHeartbeats 16000000 in
set_option maxRecDepth 100000 in
theorem rdivide_great (A B:Option Addr) (n m c d X Y:Nat) (w:World) (hn:n≤1000000) (hm:m≤1000000) (h7:7<n) (hx:Tr w A n c X) (hy:Tr w B m d Y) (h0:0<Y) (hle:Y≤X) :
  Calls Tryz.prog 112 #[.slice A n c,.slice B m d] w (RetQt w (X / Y) (X%Y)):=by
 have HX:=Lib.hid hx
 have HY:=Lib.hid hy
 have H0:=Lib.hid h0
 obtain ⟨y,ok,hsm⟩:=rsmall_some B m d Y w hy.dg
 have HSM:=Lib.hid hsm
 obtain ⟨s,hs,hs2⟩:∃ s:Int,ord X Y=s∧decide (s<0)=false:=⟨_,rfl,by
  unfold ord
  rw [if_neg (by omega)]
  split<;>rfl⟩
 have HC:=Lib.hid (rcompare_any A B n m c d X Y w (by omega) (by omega) hx hy)
 rw [hs] at HC
 have hmk:=fun W=>run_make_row' (P:=Tryz.prog) 98 3 (.int .i64 0) 8 Tryz.underlying98 intTy_info rfl .i64 .i64 n (by omega) (by omega) W
 obtain ⟨i0,hi,hz0,hz1,hz2⟩:=info_parts intTy_info
 clear hx hy hsm hs h0 hle
 go_enter Tryz.func112,Tryz.ntmps112
 go_wp2_with fail
 refine (rsmall_no A n c _ h7).mono ?_
 rintro e w' ⟨rfl,rfl⟩
 go_wp2_with fail
 refine HSM.out.mono ?_
 rintro e w' ⟨rfl,rfl⟩
 go_wp2_with fail
 refine HC.out.mono ?_
 rintro e w' ⟨rfl,q,rfl⟩
 go_wp2
 clear hs2
 go_loopw [5,10] (fun rv iv wr=>∃ (k:Nat) (A2:Option Addr) (n2 c2:Nat),k≤n∧iv=.int .i64 ((k:Int)-1)∧rv=.slice A2 n2 c2∧Hid (Ld w n X Y k A2 n2 c2 wr)) (fun _ iv _=>(intOf iv+1).toNat)
 case atStart=>exact ⟨n,none,0,0,Nat.le_refl _,rfl,rfl,Ld.start w _ n X Y HX.out.dg.lt H0.out (below_draws (Below.refl _ _) _) rfl⟩
 case round =>
  obtain ⟨k,A2,n2,c2,hk,rfl,rfl,HL⟩:=hrel
  rcases k with _ | i
  · have e:(((0:Nat):Int)-1)=-1:=rfl
    rw [e]
    clear e
    have hd:Dg wr .i64 256 (some ⟨w.heap.size,0,none⟩) n (X / Y):=⟨Nat.lt_of_le_of_lt (Nat.div_le_self _ _) HX.out.dg.lt,fun _=>⟨_,0,rfl,HL.out.row.lt,fun j hj=>by rw [Nat.zero_add];exact (HL.out.row.cell hj).trans (by rw [if_pos (Nat.zero_le _)])⟩⟩
    have HD:=Lib.hid hd
    clear hd
    go_wp2_with fail
    refine (rtrim_any (some ⟨w.heap.size,0,none⟩) n n (X / Y) _ (by omega) (Nat.le_refl _) HD.out).mono ?_
    rintro e w' ⟨rfl,rfl⟩
    go_wp2
    go_ret2
    have hr:=HL.out.r
    rw [Nat.pow_zero,Nat.div_one] at hr
    exact ⟨_,_,_,_,_,_,rfl,Tr.of (Nat.le_refl _) (fun h=>by cases h) HD.out,hr,HL.out.bel⟩
  · have e:(((i+1:Nat):Int)-1)=(i:Int):=by omega
    rw [e]
    clear e
    obtain ⟨hls1,hls2,hls3⟩:=long_step X (Y:=Y) (k:=i) H0.out
    have hdl:=D_lt (b:=256) (by omega) X i
    obtain ⟨gx,ox,hA,hgx,hcx⟩:=HX.out.dg.rd (by omega)
    subst hA
    have hxc:wr.cell? ⟨gx,ox+i,none⟩=some (.int .i64 (D 256 X i:Int)):=(HL.out.bel.cell (p:=⟨gx,ox+i,none⟩) hgx).trans (hcx i (by omega))
    have hn2:n2≤1000000:=by
     have h1:=HL.out.r.ln
     have h2:=Nat.mod_lt (X / 256^(i+1)) H0.out
     have h3:=nd_mono (Nat.le_of_lt h2)
     have h4:=HY.out.ln
     omega
    have HR:=Lib.hid HL.out.r
    generalize X / 256^(i+1)%Y=R at *
    generalize hee:D 256 X i=e at *
    have HLS:=Lib.hid (And.intro hls1 (And.intro hls2 hls3))
    have HEE:=Lib.hid hee
    clear hcx hls1 hls2 hls3 hee
    go_wp2_with (at_builtin;refine wpList_front rfl _ _ rfl e R A2 n2 c2 rfl rfl HR.out hdl (by omega) ?_;intro A3 c3 w3 hd3 hc3 hA3 hnew3 hb3)
    have HD3:=Lib.hid hd3
    have HT3:=Lib.hid (Tr.of hc3 (fun h=>absurd h hA3) hd3)
    have hT:=HLS.out.2.2
    generalize hTT:256*R+e=T at *
    have hlm:Lmq w n X Y i T 0 A3 (nd T) c3 w3:=by
     have hrow:=HL.out.row
     refine ⟨by rw [Nat.zero_mul,Nat.sub_zero];exact HT3.out,fun a ha=>?_,(hrow.of_block (hb3.block _ hrow.lt)).congr fun j hj=>?_,HL.out.bel.trans (hb3.mono HL.out.bel.size),by omega⟩
     · have h1:=hnew3 a ha
       have h2:=hrow.lt
       omega
     · by_cases h1:j=i
       · rw [if_pos h1,if_neg (by omega)]
       · rw [if_neg h1]
         by_cases h2:i<j
         · rw [if_pos h2,if_pos (by omega)]
         · rw [if_neg h2,if_neg (by omega)]
    have HLM:=Lib.hid hlm
    have HTT:=Lib.hid hTT
    have hTn:=nd_le hd3.lt
    have hq5:T / Y<256:=Nat.div_lt_of_lt_mul (by rw [Nat.mul_comm];omega)
    clear hd3 hA3 hnew3 hb3 hlm hTT hT
    go_wp2_with fail
    refine (rtrim_any A3 (n2+1) c3 T _ (by omega) hc3 HD3.out).mono ?_
    rintro e w' ⟨rfl,rfl⟩
    go_wp2
    go_loopg [5] (T / Y) (fun g rv wr=>∃ (t:Nat) (A4:Option Addr) (n4 c4:Nat),t+g=T / Y∧rv=.slice A4 n4 c4∧Hid (Lmq w n X Y i T t A4 n4 c4 wr))
    case atStart=>exact ⟨0,A3,nd T,c3,by omega,rfl,HLM.out⟩
    case round =>
     obtain ⟨t,A4,n4,c4,htg,rfl,HM⟩:=hrel
     have hn4:n4≤1000001:=by
      have h1:=HM.out.r.ln
      have h2:=nd_mono (Nat.sub_le T (t*Y))
      omega
     have HCM:=Lib.hid (rcompare_any A4 B n4 m c4 d (T-t*Y) Y wr (by omega) (by omega) HM.out.r (HY.out.below HM.out.bel))
     have hrow:=HM.out.row
     have hci:=hrow.cell (i:=i) (by omega)
     rw [if_pos rfl] at hci
     have hfi:=hrow.frozen i
     have HROW:=Lib.hid hrow
     clear hrow
     by_cases hgo:t<T / Y
     · have hle:=(take_lt H0.out HM.out.le).2 hgo
       obtain ⟨s,hs,hs2⟩:∃ s:Int,ord (T-t*Y) Y=s∧decide (0≤s)=true:=⟨_,rfl,by
        unfold ord
        rw [if_neg (by omega)]
        split<;>rfl⟩
       rw [hs] at HCM
       have hlt5:t<255:=by omega
       have hl5:decide ((t:Int)<255)=true:=by simp;omega
       have HLE:=Lib.hid hle
       clear hs hle
       go_wp2_with fail
       refine HCM.out.mono ?_
       rintro e w' ⟨rfl,q,rfl⟩
       go_wp2
       clear hs2
       obtain ⟨wq,hwq⟩:∃ W,W=wr.drewN q:=⟨_,rfl⟩
       have hMq:Lmq w n X Y i T t A4 n4 c4 wq:=by rw [hwq];exact ⟨HM.out.r.drewN q,HM.out.far,HM.out.row.of_block rfl,below_draws HM.out.bel q,HM.out.le⟩
       have HMQ:=Lib.hid hMq
       rw [←hwq]
       have hcq:wq.cell? ⟨w.heap.size,i,none⟩=some (.int .i64 (t:Int)):=by rw [hwq,World.cell?_drewN];exact hci
       have hfq:wq.frozen? ⟨w.heap.size,i,none⟩=false:=by rw [hwq];exact hfi
       clear hMq hwq hci hfi HCM
       go_loopw [11,12] (fun sv pv wx=>∃ (s:Nat) (Ap:Option Addr) (np cp:Nat),1≤s∧s≤128∧sv=.int .i64 (s:Int)∧pv=.slice Ap np cp∧Hid (Tr wx Ap np cp (s*Y)∧s*Y≤T-t*Y∧Below wq.heap.size wq wx)) (fun sv _ _=>(256-intOf sv).toNat)
       case atStart=>exact ⟨1,B,m,d,by omega,by omega,rfl,rfl,by rw [Nat.one_mul];exact HY.out.below HMQ.out.bel,by rw [Nat.one_mul];exact HLE.out,Below.refl _ _⟩
       case round =>
        obtain ⟨s,Ap,np,cp,hs1,hs2,rfl,rfl,HP⟩:=hrel
        have hnp:np≤1000001:=by
         have h1:=HP.out.1.ln
         have h2:=nd_mono HP.out.2.1
         have h3:=nd_mono (Nat.sub_le T (t*Y))
         omega
        have HSY:=Lib.hid HP.out.2.1
        by_cases h2s:2*s≤128
        · have h2i:decide (2*(s:Int)≤128)=true:=by simp;omega
          have HPL:=Lib.hid (fun W (h:Below wr.heap.size wr W)=>rplus Ap Ap np np cp cp (s*Y) (s*Y) W (by omega) (by omega) (HP.out.1.dg.below h) (HP.out.1.dg.below h))
          go_wp2_with fail
          refine (HPL.out _ (Below.refl _ _)).mono ?_
          rintro e w5 ⟨A5,n5,c5,rfl,ht5,hb5,_⟩
          have hn5:n5≤2000002:=by
           have h1:=ht5.ln
           have h2:=nd_add (s*Y) (s*Y)
           have h3:=HP.out.1.ln
           omega
          have HB5:=Lib.hid (HP.out.2.2.trans (hb5.mono HP.out.2.2.size))
          have HW5:=Lib.hid hb5
          have HC5:=Lib.hid (rcompare_any A5 A4 n5 n4 c5 c4 (s*Y+s*Y) (T-t*Y) w5 (by omega) (by omega) ht5 (HMQ.out.r.below HB5.out))
          clear hb5 ht5
          by_cases hfit:s*Y+s*Y≤T-t*Y
          · obtain ⟨z, hz, hz2⟩ : ∃ z : Int, ord (s * Y + s * Y) (T - t * Y) = z ∧ decide (z ≤ 0) = true := ⟨_, rfl, by
             unfold ord
             split
             · rfl
             · rw [if_neg (by omega)];rfl⟩
            rw [hz] at HC5
            have HFIT:=Lib.hid hfit
            clear hz hfit
            go_wp2_with fail
            refine HC5.out.mono ?_
            rintro e w' ⟨rfl,q2,rfl⟩
            go_wp2_with fail
            refine (HPL.out _ (below_draws HW5.out q2)).mono ?_
            rintro e w7 ⟨A7,n7,c7,rfl,ht7,hb7,_⟩
            have HT7:=Lib.hid ht7
            have hb5:=below_draws HB5.out q2
            have HB7:=Lib.hid (hb5.trans (hb7.mono hb5.size))
            clear ht7 hb7 hb5 hz2
            go_wp2
            go_roundw
            case rel =>
             have e2:2*s*Y=s*Y+s*Y:=by rw [Nat.two_mul,Nat.add_mul]
             refine ⟨2*s,A7,n7,c7,by omega,by omega,by go_num,rfl,?_,?_,HB7.out⟩
             · rw [e2];exact HT7.out
             · rw [e2];exact HFIT.out
            case measure=>simp [intOf]<;>omega
          · obtain ⟨z, hz, hz2⟩ : ∃ z : Int, ord (s * Y + s * Y) (T - t * Y) = z ∧ decide (z ≤ 0) = false := ⟨_, rfl, by
             unfold ord
             rw [if_neg (by omega),if_pos (by omega)]
             rfl⟩
            rw [hz] at HC5
            clear hz hfit
            go_wp2_with fail
            refine HC5.out.mono ?_
            rintro e w' ⟨rfl,q2,rfl⟩
            obtain ⟨V,hV⟩:∃ V,V=w5.drewN q2:=⟨_,rfl⟩
            rw [←hV]
            have HBV:=Lib.hid (show Below wq.heap.size wq V by rw [hV];exact below_draws HB5.out q2)
            have HPV:=Lib.hid (show Tr V Ap np cp (s*Y) by rw [hV];exact (HP.out.1.below HW5.out).drewN q2)
            clear hV
            go_wp2_with fail
            clear hz2
            have hcV:V.cell? ⟨w.heap.size,i,none⟩=some (.int .i64 (t:Int)):=(HBV.out.cell (p:=⟨w.heap.size,i,none⟩) HMQ.out.row.lt).trans hcq
            have hfV:V.frozen? ⟨w.heap.size,i,none⟩=false:=(HBV.out.frozen (p:=⟨w.heap.size,i,none⟩) HMQ.out.row.lt).trans hfq
            have HMN:=Lib.hid (fun W (h:W=V.drew)=>rminus A4 Ap n4 np c4 cp (T-t*Y) (s*Y) W (by omega) (by omega) (h ▸ (HMQ.out.r.below HBV.out).dg.drew) (h ▸ HPV.out.dg.drew) HSY.out)
            have e_add:IntKind.i64.wrap ((t:Int)+(s:Int))=(t:Int)+(s:Int):=IntWalk.i64_in _ (by omega)
            have hi1:(0:Int)≤(i:Int):=by omega
            have hi2:(i:Int)<(n:Int):=by omega
            have hGV:=Nat.lt_of_lt_of_le HMQ.out.row.lt HBV.out.size
            go_region_law (first
             | (go_simp;go_at_call 94;(with_reducible refine (HMN.out _ rfl).mono ?_);rintro e w6 ⟨A6,n6,c6,rfl,ht6,hb6,hf6⟩;have hc6:=(hb6.cell (p:=⟨w.heap.size,i,none⟩) hGV).trans hcV;have hz6:=(hb6.frozen (p:=⟨w.heap.size,i,none⟩) hGV).trans hfV))
            all_goals
             go_wp2
             go_roundg (T / Y-(t+s))
             case measure=>omega
             case rel =>
              obtain ⟨k1,k2⟩:=take_more HSY.out HMQ.out.le
              have k3:=(take_le H0.out).1 k1
              have hbV6:Below V.heap.size V w6:=((Below.refl _ V).drew).trans (hb6.mono (Nat.le_refl _))
              refine ⟨t+s,A6,n6,c6,by omega,rfl,⟨?_,fun a ha=>?_,?_,?_,k1⟩⟩
              · rw [←k2]
                exact ⟨ht6.dg.apart (fun a ha=>by have:=hf6 a ha;have:V.heap.size≤a.block:=this;omega) _ _,ht6.ln,ht6.cap,ht6.nil⟩
              · have h1:V.heap.size≤a.block:=hf6 a ha
                omega
              · have hr6:=(HMQ.out.row.of_block (HBV.out.block _ HMQ.out.row.lt)).of_block (hbV6.block _ hGV)
                refine (hr6.set i (.int .i64 ((t+s:Nat):Int))).congr fun j hj=>?_
                by_cases h1:j=i
                · rw [if_pos h1,if_pos h1]
                · rw [if_neg h1,if_neg h1,if_neg h1]
              · have h1:=HMQ.out.bel.trans (HBV.out.mono HMQ.out.bel.size)
                exact (h1.trans (hbV6.mono h1.size)).setCell (Nat.le_refl _) _
        · have h2i:decide (2*(s:Int)≤128)=false:=by simp;omega
          obtain ⟨V,hV⟩:∃ V,V=wr:=⟨_,rfl⟩
          rw [←hV]
          have HBV:=Lib.hid (show Below wq.heap.size wq V by rw [hV];exact HP.out.2.2)
          have HPV:=Lib.hid (show Tr V Ap np cp (s*Y) by rw [hV];exact HP.out.1)
          clear HP hV
          go_wp2_with fail
          clear h2i
          have hcV:V.cell? ⟨w.heap.size,i,none⟩=some (.int .i64 (t:Int)):=(HBV.out.cell (p:=⟨w.heap.size,i,none⟩) HMQ.out.row.lt).trans hcq
          have hfV:V.frozen? ⟨w.heap.size,i,none⟩=false:=(HBV.out.frozen (p:=⟨w.heap.size,i,none⟩) HMQ.out.row.lt).trans hfq
          have HMN:=Lib.hid (fun W (h:W=V.drew)=>rminus A4 Ap n4 np c4 cp (T-t*Y) (s*Y) W (by omega) (by omega) (h ▸ (HMQ.out.r.below HBV.out).dg.drew) (h ▸ HPV.out.dg.drew) HSY.out)
          have e_add:IntKind.i64.wrap ((t:Int)+(s:Int))=(t:Int)+(s:Int):=IntWalk.i64_in _ (by omega)
          have hi1:(0:Int)≤(i:Int):=by omega
          have hi2:(i:Int)<(n:Int):=by omega
          have hGV:=Nat.lt_of_lt_of_le HMQ.out.row.lt HBV.out.size
          go_region_law (first
           | (go_simp;go_at_call 94;(with_reducible refine (HMN.out _ rfl).mono ?_);rintro e w6 ⟨A6,n6,c6,rfl,ht6,hb6,hf6⟩;have hc6:=(hb6.cell (p:=⟨w.heap.size,i,none⟩) hGV).trans hcV;have hz6:=(hb6.frozen (p:=⟨w.heap.size,i,none⟩) hGV).trans hfV))
          all_goals
           go_wp2
           go_roundg (T / Y-(t+s))
           case measure=>omega
           case rel =>
            obtain ⟨k1,k2⟩:=take_more HSY.out HMQ.out.le
            have k3:=(take_le H0.out).1 k1
            have hbV6:Below V.heap.size V w6:=((Below.refl _ V).drew).trans (hb6.mono (Nat.le_refl _))
            refine ⟨t+s,A6,n6,c6,by omega,rfl,⟨?_,fun a ha=>?_,?_,?_,k1⟩⟩
            · rw [←k2]
              exact ⟨ht6.dg.apart (fun a ha=>by have:=hf6 a ha;have:V.heap.size≤a.block:=this;omega) _ _,ht6.ln,ht6.cap,ht6.nil⟩
            · have h1:V.heap.size≤a.block:=hf6 a ha
              omega
            · have hr6:=(HMQ.out.row.of_block (HBV.out.block _ HMQ.out.row.lt)).of_block (hbV6.block _ hGV)
              refine (hr6.set i (.int .i64 ((t+s:Nat):Int))).congr fun j hj=>?_
              by_cases h1:j=i
              · rw [if_pos h1,if_pos h1]
              · rw [if_neg h1,if_neg h1,if_neg h1]
            · have h1:=HMQ.out.bel.trans (HBV.out.mono HMQ.out.bel.size)
              exact (h1.trans (hbV6.mono h1.size)).setCell (Nat.le_refl _) _
     · obtain ⟨s, hs, hs2⟩ : ∃ s : Int, ord (T - t * Y) Y = s ∧ decide (0 ≤ s) = false := ⟨_, rfl, by
        have h1:¬Y≤T-t*Y:=fun h=>hgo ((take_lt H0.out HM.out.le).1 h)
        rw [ord_lt (by omega)]
        rfl⟩
       rw [hs] at HCM
       clear hs
       go_wp2_with fail
       refine HCM.out.mono ?_
       rintro e w' ⟨rfl,q,rfl⟩
       clear hci hfi
       go_wp2
       clear hs2
       go_roundw
       case rel =>
        have hlt:T-t*Y<Y:=by
         have h1:¬Y≤T-t*Y:=fun h=>hgo ((take_lt H0.out HM.out.le).1 h)
         omega
        obtain ⟨k1,k2⟩:=take_all H0.out HM.out.le hlt
        obtain ⟨l1,l2,_⟩:=HLS.out
        have hr:=HM.out.r
        rw [k2,←l1] at hr
        refine ⟨i,A4,n4,c4,by omega,rfl,rfl,⟨hr.drewN q,HM.out.far,(HROW.out.congr fun j hj=>?_).of_block rfl,below_draws HM.out.bel q⟩⟩
        by_cases h1:j=i
        · rw [if_pos h1,if_pos (by omega),k1,←l2,h1]
        · rw [if_neg h1]
          by_cases h2:i<j
          · rw [if_pos h2,if_pos (by omega)]
          · rw [if_neg h2,if_neg (by omega)]
       case measure=>simp [intOf]

theorem rdivide (A B:Option Addr) (n m c d X Y:Nat) (w:World) (hn:n≤1000000) (hm:m≤1000000) (hx:Tr w A n c X) (hy:Tr w B m d Y) (h0:0<Y) :
  Calls Tryz.prog 112 #[.slice A n c,.slice B m d] w (RetQt w (X / Y) (X%Y)):=by
 by_cases h1:n≤7∧m≤7
 · exact rdivide_small A B n m c d X Y w h1.1 h1.2 hx hy h0
 · rcases Nat.lt_or_ge X Y with h2 | h2
   · exact rdivide_less A B n m c d X Y w hn hm (by omega) hx hy h2
   · have h3:=nd_mono h2
     rw [←hx.ln,←hy.ln] at h3
     exact rdivide_great A B n m c d X Y w hn hm (by omega) hx hy h0 h2
end Go.Proofs.YtdbhahiieokplaaGreatDoor
