import Derived.Test.YtdbhahiieokplaaGreatDoorGQE
import Derived.Test.YtdbhahiieokplaaGreatDoorGRNC
import Derived.Deep.RegionLaw
import Derived.RegionTactic
import Derived.BigRegion
set_option linter.unusedSimpArgs false
set_option linter.unusedVariables false

namespace Go.Proofs.YtdbhahiieokplaaGreatDoor
open Go.RowKit
attribute [local go_sem ↓] Go.wp_at_zero Go.wp_at_succ

def plF (X Y k j:Nat):Nat:=if j<k then D B64 (X+Y) j else D B64 X j

theorem pl_step {X Y k N:Nat} (g:Nat→Nat) (hg:∀ j,j<N→g j=plF X Y k j) (s:Nat) (hs:s=D B64 (X+Y) k):∀ j,j<N→(if j=k then s else g j)=plF X Y (k+1) j:=by
 intro j hj
 unfold plF
 by_cases e:j=k
 · rw [if_pos e,if_pos (by omega),hs,e]
 · rw [if_neg e,hg j hj]
   unfold plF
   by_cases e2:j<k
   · rw [if_pos e2,if_pos (by omega)]
   · rw [if_neg e2,if_neg (by omega)]

theorem pl_end {X Y k m:Nat} (hY:Y<B64^m) (hk:m≤k) (hc:car B64 X 1 Y k=0) (j:Nat):plF X Y k j=D B64 (X+Y) j:=by
 unfold plF
 by_cases h:j<k
 · rw [if_pos h]
 · rw [if_neg h]
   have hYk:Y<B64^k:=Nat.lt_of_lt_of_le hY (Nat.pow_le_pow_right B64_pos hk)
   have hp:0<B64^k:=Nat.pow_pos B64_pos
   have hc2:X%B64^k+Y<B64^k:=by
    unfold car at hc
    rw [Nat.mod_eq_of_lt hYk,Nat.one_mul] at hc
    rcases Nat.lt_or_ge (X%B64^k+Y) (B64^k) with h1 | h1
    · exact h1
    · have:=Nat.div_pos h1 hp;omega
   have hd:(X+Y) / B64^k=X / B64^k:=by
    have h1:=Nat.div_add_mod X (B64^k)
    have e:X+Y=(X%B64^k+Y)+B64^k*(X / B64^k):=by omega
    rw [e,Nat.add_mul_div_left _ _ hp,Nat.div_eq_of_lt hc2,Nat.zero_add]
   rw [D_high (P:=X) (k:=k) (by omega),D_high (P:=X+Y) (k:=k) (by omega),hd]

theorem car_up {X Y n m k:Nat} (hX:X<B64^n) (hY:Y<B64^m) (hmn:m≤n) (h:car B64 X 1 Y k≠0):k≤n:=by
 have:=car_pos_le (b:=B64) (by decide) hX hY (Nat.pos_of_ne_zero h)
 omega

theorem pl_lt {X Y n m:Nat} (hX:X<B64^n) (hY:Y<B64^m) (hmn:m≤n):X+Y<B64^(n+1):=by
 have h1:B64^m≤B64^n:=Nat.pow_le_pow_right B64_pos hmn
 have h2:B64^n*2≤B64^n*B64:=Nat.mul_le_mul_left _ (by decide)
 rw [Nat.pow_succ]
 omega

theorem add64_m (x c:Nat) (hc:c≤1) (w:World) (s o:Nat) (hs:(x+0+c)%18446744073709551616=s) (ho:(x+0+c) / 18446744073709551616=o) :
  (callFunc 188 #[.int .u64 (x:Int),.int .u64 0,.int .u64 (c:Int)]).run Tryz.prog w=.ok (.value (.tuple #[.int .u64 (s:Int),.int .u64 (o:Int)])) w :=
 add64_fn x 0 c hc w s o hs ho

set_option maxHeartbeats 4000000 in
set_option maxRecDepth 100000 in
theorem plus_core (v:Value) (base:Nat) (A Bq:Option Addr) (n m c d X Y:Nat) (w:World) (hn:n≤100000000) (hmn:m≤n) (hv:Own w base v 0 []) (hbase:base≤w.heap.size)
  (hx:Ng w A n c X) (hy:Ng w Bq m d Y) (hxa:∀ a,A=some a→some a.block≠v.ownBlock) (hya:∀ a,Bq=some a→some a.block≠v.ownBlock) (sw:Bool) (hsw:sw=true→m<n) :
  Calls Tryz.prog 171 #[v,if sw then .slice Bq m d else .slice A n c,if sw then .slice A n c else .slice Bq m d] w (RetU w v (X+Y) (n+1)):=by
 have HX:=Lib.hid hx
 have HY:=Lib.hid hy
 have HXA:=Lib.hid hxa
 have HYA:=Lib.hid hya
 have HV:=Lib.hid hv
 clear hx hy hxa hya hv
 have key:∀ (hdone:m≤n),m≤100000000:=fun _=>by omega
 have hm:=key hmn
 clear key
 cases sw
 all_goals
  try (have hlt2:m<n:=hsw rfl)
  clear hsw
  simp only [if_true,if_false,Bool.false_eq_true]
  go_enter Tryz.func171,Tryz.ntmps171
  go_wp2_with fail
  rw [show (n:Int)+1=((n+1:Nat):Int) from by omega]
  refine (room_any v base (n+1) _ (by omega) HV.out (.inl (by omega))).mono ?_
  rintro e w1 ⟨g,cr,T,cur,rfl,hcr,hgc,hcs,hz,hg1,hgb⟩
  have HL0:=Lib.hid (Lies.of_room hgc hcr hcs hz)
  have HG1:=Lib.hid hg1
  have HGB:=Lib.hid hgb
  have HXR:=Lib.hid (HX.out.rd.grown hg1 (fun q hq a ha e=>HXA.out a ha (by rw [hq,e])))
  have hgy:∀ a,Bq=some a→a.block<w.heap.size→a.block≠g:=fun a ha hlt e=>by
   rcases HGB.out with h | h
   · exact HYA.out a ha (by rw [e,h])
   · omega
  have HGY:=Lib.hid hgy
  clear hgc hcs hz hg1 hgb hgy
  go_wp2_with (with_reducible refine wpList_copy_lies rfl _ _ rfl g (n+1) cr A n c rfl rfl (n+1) (fun _=>0) (D B64 X) HL0.out (by omega) (Nat.le_refl _) HXR.out ?_)
  intro w2 hl2 hgr2
  have HL2:=Lib.hid hl2
  have HGR2:=Lib.hid hgr2
  clear hl2 hgr2
  go_wp2
  go_loopw [8,28] (fun cy i wr=>∃ k:Nat,k≤m∧i=.int .i64 k∧cy=.int .u64 (car B64 X 1 Y k:Nat)∧Lies wr g (n+1) (plF X Y k)∧w2.grownBy wr (some g)) (fun _ i _=>m-(intOf i).toNat)
  case atStart =>
   refine ⟨0,Nat.zero_le _,rfl,by rw [car_zero];rfl,HL2.out.congr fun i hi=>?_,World.grownBy.refl _ _⟩
   show (if i<n then D B64 X i else 0)=if i<0 then D B64 (X+Y) i else D B64 X i
   by_cases e:i<n
   · simp [e]
   · rw [if_neg e,if_neg (Nat.not_lt_zero _),D_zero_of B64_pos HX.out.lt (by omega)]
  case round =>
   obtain ⟨k,hk,rfl,rfl,hlies,hg⟩:=hrel
   have hgw:w.grownBy wr v.ownBlock:=grown_none (grown_none HG1.out HGR2.out (by
    rcases HGB.out with h | h
    · exact .inr (.inl h.symm)
    · exact .inr (.inr (fun q hq=>by injection hq with hq;omega)))) hg (by
    rcases HGB.out with h | h
    · exact .inr (.inl h.symm)
    · exact .inr (.inr (fun q hq=>by injection hq with hq;omega)))
   by_cases hlt:k<m
   · obtain ⟨gy,oy,hB,hgy0,hcy0⟩:=HY.out.rd (by omega)
     have hgyn:gy≠g:=HGY.out _ hB hgy0
     have hyk:wr.cell? ⟨gy,oy+k,none⟩=some (.int .u64 (D B64 Y k:Int)):=(World.cell?_of_block (w:=w) (a:=⟨gy,oy+k,none⟩) (hgw.block gy hgy0 (fun e=>HYA.out _ hB e))).trans (hcy0 k hlt)
     subst hB
     clear hcy0
     have hcell:=hlies.cell (i:=k) (by omega)
     have hfro:=hlies.frozen k
     have hval:plF X Y k k=D B64 X k:=by unfold plF;rw [if_neg (by omega)]
     rw [hval] at hcell
     have hdx:=D64_lt X k
     have hdy:=D64_lt Y k
     have hcl:=car_lt B64_pos (x:=1) (by decide) X Y k
     obtain ⟨hs1,hs2⟩:=car_step B64_pos X 1 Y k
     rw [Nat.one_mul] at hs1 hs2
     rw [Nat.one_mul] at hs2
     have HLI:=Lib.hid hlies
     obtain ⟨so,hso⟩:∃ s,(D B64 X k+D B64 Y k+car B64 X 1 Y k)%18446744073709551616=s:=⟨_,rfl⟩
     obtain ⟨co,hco⟩:∃ s,(D B64 X k+D B64 Y k+car B64 X 1 Y k) / 18446744073709551616=s:=⟨_,rfl⟩
     have ha:=fun W=>add64_fn (D B64 X k) (D B64 Y k) (car B64 X 1 Y k) hcl W so co hso hco
     have hdig:so=D B64 (X+Y) k:=hso.symm.trans hs2
     have hcar:co=car B64 X 1 Y (k+1):=hco.symm.trans hs1
     have HDIG:=Lib.hid hdig
     have HCAR:=Lib.hid hcar
     clear hs1 hs2 hval hlies hso hco hdig hcar
     have hk0:(0:Int)≤(k:Int):=by omega
     have hk1:(k:Int)<(m:Int):=by omega
     have hk2:(k:Int)<(n:Int)+1:=by omega
     go_wp2_with fail
     go_region_law (fail)
     all_goals
      go_wp2
      go_roundw
      case rel=>exact ⟨k+1,by omega,by go_num,by rw [HCAR.out],(HLI.out.set k so).congr (pl_step _ (fun _ _=>rfl) so HDIG.out),grown_set (w:=wr.drew) ⟨hg.os,hg.tape,hg.output,hg.size,hg.block⟩ _ _⟩
      case measure=>simp [intOf]<;>omega
   · obtain rfl:k=m:=by omega
     have HLI:=Lib.hid hlies
     have HGW:=Lib.hid hg
     clear hlies hg hgw
     obtain ⟨wo,rfl⟩:∃ wo:World,wo=wr:=⟨_,rfl⟩
     go_wp2
     go_loopw [8,10] (fun cy i wr=>∃ q:Nat,k≤q∧q≤n+1∧i=.int .i64 q∧cy=.int .u64 (car B64 X 1 Y q:Nat)∧Lies wr g (n+1) (plF X Y q)∧w2.grownBy wr (some g)) (fun _ i _=>n+2-(intOf i).toNat)
     case atStart=>exact ⟨k,Nat.le_refl _,by omega,rfl,rfl,HLI.out,HGW.out⟩
     case round =>
      obtain ⟨q,hq1,hq2,rfl,rfl,hlies,hg⟩:=hrel
      by_cases hc0:car B64 X 1 Y q=0
      · have hng:Ng wr (some ⟨g,0,none⟩) (n+1) cr (X+Y):=⟨pl_lt HX.out.lt HY.out.lt (by omega),hcr,(hlies.congr (fun j _=>pl_end HY.out.lt hq1 hc0 j)).rd⟩
        have hgw:w.grownBy wr v.ownBlock:=grown_none (grown_none HG1.out HGR2.out (by
         rcases HGB.out with h | h
         · exact .inr (.inl h.symm)
         · exact .inr (.inr (fun q hq=>by injection hq with hq;omega)))) hg (by
         rcases HGB.out with h | h
         · exact .inr (.inl h.symm)
         · exact .inr (.inr (fun q hq=>by injection hq with hq;omega)))
        rw [hc0]
        have HNG:=Lib.hid hng
        have HGZ:=Lib.hid hgw
        clear hc0 hng hgw hlies hg
        go_wp2_with fail
        refine (trim_any (some ⟨g,0,none⟩) (n+1) cr (X+Y) _ (by omega) HNG.out).mono ?_
        rintro e w' ⟨z,hz,rfl,hnm,rfl⟩
        have HNM:=Lib.hid hnm
        clear hnm
        go_wp2
        go_ret
        refine ⟨_,z,cr,hz,rfl,HNM.out,HGZ.out,?_⟩
        rcases HGB.out with h | h
        · exact .inl (by rw [h];rfl)
        · exact .inr (fun z hz=>by simp [Value.ownBlock] at hz;omega)
      · have hqn:=car_up HX.out.lt HY.out.lt (by omega) hc0
        have hcell:=hlies.cell (i:=q) (by omega)
        have hfro:=hlies.frozen q
        have hval:plF X Y q q=D B64 X q:=by unfold plF;rw [if_neg (by omega)]
        have hyq:D B64 Y q=0:=D_zero_of B64_pos HY.out.lt (by omega)
        rw [hval] at hcell
        have hdx:=D64_lt X q
        have hcl:=car_lt B64_pos (x:=1) (by decide) X Y q
        obtain ⟨hs1,hs2⟩:=car_step B64_pos X 1 Y q
        rw [hyq,Nat.mul_zero] at hs1 hs2
        rw [Nat.one_mul] at hs2
        have hne:((car B64 X 1 Y q:Int) != 0)=true:=by simp;omega
        have HLJ:=Lib.hid hlies
        obtain ⟨so,hso⟩:∃ s,(D B64 X q+0+car B64 X 1 Y q)%18446744073709551616=s:=⟨_,rfl⟩
        obtain ⟨co,hco⟩:∃ s,(D B64 X q+0+car B64 X 1 Y q) / 18446744073709551616=s:=⟨_,rfl⟩
        have ha:=fun W=>add64_m (D B64 X q) (car B64 X 1 Y q) hcl W so co hso hco
        have hdig:so=D B64 (X+Y) q:=hso.symm.trans hs2
        have hcar:co=car B64 X 1 Y (q+1):=hco.symm.trans hs1
        have HDIG:=Lib.hid hdig
        have HCAR:=Lib.hid hcar
        have hk0:(0:Int)≤(q:Int):=by omega
        have hk2:(q:Int)<(n:Int)+1:=by omega
        clear hs1 hs2 hval hlies hso hco hdig hcar hyq hc0
        go_wp2
        go_roundw
        case rel=>exact ⟨q+1,by omega,by omega,by go_num,by rw [HCAR.out],(HLJ.out.set q so).congr (pl_step _ (fun _ _=>rfl) so HDIG.out),grown_set hg _ _⟩
        case measure=>simp [intOf]<;>omega

theorem plus_any (v:Value) (base:Nat) (A Bq:Option Addr) (n m c d X Y:Nat) (w:World) (hn:n≤100000000) (hm:m≤100000000) (hv:Own w base v 0 []) (hbase:base≤w.heap.size)
  (hx:Ng w A n c X) (hy:Ng w Bq m d Y) (hxa:∀ a,A=some a→some a.block≠v.ownBlock) (hya:∀ a,Bq=some a→some a.block≠v.ownBlock) :
  Calls Tryz.prog 171 #[v,.slice A n c,.slice Bq m d] w (RetU w v (X+Y) (n+m+1)):=by
 have mono:∀ {N M V e w'},N≤M→RetU w v V N e w'→RetU w v V M e w':=fun h ⟨A,n,c,hn,r⟩=>⟨A,n,c,Nat.le_trans hn h,r⟩
 by_cases h:n<m
 · have:=plus_core v base Bq A m n d c Y X w hm (by omega) hv hbase hy hx hya hxa true (fun _=>h)
   rw [Nat.add_comm Y X] at this
   exact this.mono fun e w'=>mono (by omega)
 · exact (plus_core v base A Bq n m c d X Y w hn (by omega) hv hbase hx hy hxa hya false (fun h=>by cases h)).mono fun e w'=>mono (by omega)
end Go.Proofs.YtdbhahiieokplaaGreatDoor


namespace Go.Proofs.YtdbhahiieokplaaGreatDoor
open Go.RowKit
attribute [local go_sem ↓] Go.wp_at_zero Go.wp_at_succ

def mnF (X Y k j:Nat):Nat:=if j<k then D B64 (X-Y) j else D B64 X j

theorem mn_step {X Y k N:Nat} (g:Nat→Nat) (hg:∀ j,j<N→g j=mnF X Y k j) (s:Nat) (hs:s=D B64 (X-Y) k):∀ j,j<N→(if j=k then s else g j)=mnF X Y (k+1) j:=by
 intro j hj
 unfold mnF
 by_cases e:j=k
 · rw [if_pos e,if_pos (by omega),hs,e]
 · rw [if_neg e,hg j hj]
   unfold mnF
   by_cases e2:j<k
   · rw [if_pos e2,if_pos (by omega)]
   · rw [if_neg e2,if_neg (by omega)]

theorem mn_end {X Y k m:Nat} (hXY:Y≤X) (hY:Y<B64^m) (hk:m≤k) (hc:bor B64 X Y k=0) (j:Nat):mnF X Y k j=D B64 (X-Y) j:=by
 unfold mnF
 by_cases h:j<k
 · rw [if_pos h]
 · rw [if_neg h]
   have hYk:Y<B64^k:=Nat.lt_of_lt_of_le hY (Nat.pow_le_pow_right B64_pos hk)
   have hp:0<B64^k:=Nat.pow_pos B64_pos
   have hc2:Y≤X%B64^k:=by
    unfold bor at hc
    rw [Nat.mod_eq_of_lt hYk] at hc
    by_cases h1:X%B64^k<Y
    · rw [if_pos h1] at hc;omega
    · omega
   have hd:(X-Y) / B64^k=X / B64^k:=by
    have h1:=Nat.div_add_mod X (B64^k)
    have h2:=Nat.mod_lt X hp
    have e:X-Y=(X%B64^k-Y)+B64^k*(X / B64^k):=by omega
    rw [e,Nat.add_mul_div_left _ _ hp,Nat.div_eq_of_lt (by omega),Nat.zero_add]
   rw [D_high (P:=X) (k:=k) (by omega),D_high (P:=X-Y) (k:=k) (by omega),hd]

theorem bor_up {X Y n k:Nat} (hX:X<B64^n) (hXY:Y≤X) (h:bor B64 X Y k≠0):k<n:=by
 rcases Nat.lt_or_ge k n with h1 | h1
 · exact h1
 · have h2:B64^n≤B64^k:=Nat.pow_le_pow_right B64_pos h1
   unfold bor at h
   rw [Nat.mod_eq_of_lt (by omega),Nat.mod_eq_of_lt (by omega),if_neg (by omega)] at h
   exact absurd rfl h

theorem sub_digit {x y b d:Nat} (hx:x<18446744073709551616) (hy:y<18446744073709551616) (hb:b≤1) (hd:d=if x<y+b then x+B64-y-b else x-y-b):(x+18446744073709551616-y-b)%18446744073709551616=d:=by
 rw [B64_eq] at hd
 subst hd
 split<;>omega

theorem sub64_m (x b:Nat) (hb:b≤1) (w:World) (d o:Nat) (hd:(x+18446744073709551616-0-b)%18446744073709551616=d) (ho:(if x<0+b then 1 else 0)=o) :
  (callFunc 192 #[.int .u64 (x:Int),.int .u64 0,.int .u64 (b:Int)]).run Tryz.prog w=.ok (.value (.tuple #[.int .u64 (d:Int),.int .u64 (o:Int)])) w :=
 sub64_fn x 0 b hb w d o hd ho

set_option maxHeartbeats 4000000 in
set_option maxRecDepth 100000 in
theorem minus_any (v:Value) (base:Nat) (A Bq:Option Addr) (n m c d X Y:Nat) (w:World) (hn:n≤100000000) (hmn:m≤n) (h0:0<n∨v.ownBlock≠none) (hXY:Y≤X) (hv:Own w base v 0 []) (hbase:base≤w.heap.size)
  (hx:Ng w A n c X) (hy:Ng w Bq m d Y) (hxa:∀ a,A=some a→some a.block≠v.ownBlock) (hya:∀ a,Bq=some a→some a.block≠v.ownBlock) :
  Calls Tryz.prog 172 #[v,.slice A n c,.slice Bq m d] w (RetU w v (X-Y) n):=by
 have HX:=Lib.hid hx
 have HY:=Lib.hid hy
 have HXA:=Lib.hid hxa
 have HYA:=Lib.hid hya
 have HV:=Lib.hid hv
 have H0:=Lib.hid h0
 have HXY:=Lib.hid hXY
 have hm:m≤100000000:=by omega
 clear hx hy hxa hya hv h0 hXY
 go_enter Tryz.func172,Tryz.ntmps172
 go_wp2_with fail
 refine (room_any v base n _ (by omega) HV.out H0.out).mono ?_
 rintro e w1 ⟨g,cr,T,cur,rfl,hcr,hgc,hcs,hz,hg1,hgb⟩
 have HL0:=Lib.hid (Lies.of_room hgc hcr hcs hz)
 have HG1:=Lib.hid hg1
 have HGB:=Lib.hid hgb
 have HXR:=Lib.hid (HX.out.rd.grown hg1 (fun q hq a ha e=>HXA.out a ha (by rw [hq,e])))
 have hgy:∀ a,Bq=some a→a.block<w.heap.size→a.block≠g:=fun a ha hlt e=>by
  rcases HGB.out with h | h
  · exact HYA.out a ha (by rw [e,h])
  · omega
 have HGY:=Lib.hid hgy
 clear hgc hcs hz hg1 hgb hgy
 go_wp2_with (with_reducible refine wpList_copy_lies rfl _ _ rfl g n cr A n c rfl rfl n (fun _=>0) (D B64 X) HL0.out (Nat.le_refl _) (Nat.le_refl _) HXR.out ?_)
 intro w2 hl2 hgr2
 have HL2:=Lib.hid hl2
 have HGR2:=Lib.hid hgr2
 have hgrow:∀ (wr:World),w2.grownBy wr (some g)→w.grownBy wr v.ownBlock:=fun wr hg=>grown_none (grown_none HG1.out HGR2.out (by
  rcases HGB.out with h | h
  · exact .inr (.inl h.symm)
  · exact .inr (.inr (fun q hq=>by injection hq with hq;omega)))) hg (by
  rcases HGB.out with h | h
  · exact .inr (.inl h.symm)
  · exact .inr (.inr (fun q hq=>by injection hq with hq;omega)))
 have HGROW:=Lib.hid hgrow
 clear hl2 hgr2 hgrow
 go_wp2
 go_loopw [8,20] (fun bw i wr=>∃ k:Nat,k≤m∧i=.int .i64 k∧bw=.int .u64 (bor B64 X Y k:Nat)∧Lies wr g n (mnF X Y k)∧w2.grownBy wr (some g)) (fun _ i _=>m-(intOf i).toNat)
 case atStart =>
  refine ⟨0,Nat.zero_le _,rfl,by rw [bor_zero];rfl,HL2.out.congr fun i hi=>?_,World.grownBy.refl _ _⟩
  show (if i<n then D B64 X i else 0)=if i<0 then D B64 (X-Y) i else D B64 X i
  rw [if_pos hi,if_neg (Nat.not_lt_zero _)]
 case round =>
  obtain ⟨k,hk,rfl,rfl,hlies,hg⟩:=hrel
  by_cases hlt:k<m
  · have hgw:=HGROW.out _ hg
    obtain ⟨gy,oy,hB,hgy0,hcy0⟩:=HY.out.rd (by omega)
    have hgyn:gy≠g:=HGY.out _ hB hgy0
    have hyk:wr.cell? ⟨gy,oy+k,none⟩=some (.int .u64 (D B64 Y k:Int)):=(World.cell?_of_block (w:=w) (a:=⟨gy,oy+k,none⟩) (hgw.block gy hgy0 (fun e=>HYA.out _ hB e))).trans (hcy0 k hlt)
    subst hB
    clear hcy0 hgw
    have hcell:=hlies.cell (i:=k) (by omega)
    have hfro:=hlies.frozen k
    have hval:mnF X Y k k=D B64 X k:=by unfold mnF;rw [if_neg (by omega)]
    rw [hval] at hcell
    have hdx:=D64_lt X k
    have hdy:=D64_lt Y k
    have hbl:=bor_le B64 X Y k
    have hs1:=bor_step B64_pos X Y k
    have hs2:=sub_digit hdx hdy hbl (dif_digit B64_pos HXY.out k)
    have HLI:=Lib.hid hlies
    have ha:=fun W=>sub64_fn (D B64 X k) (D B64 Y k) (bor B64 X Y k) hbl W (D B64 (X-Y) k) (bor B64 X Y (k+1)) hs2 hs1.symm
    have hk0:(0:Int)≤(k:Int):=by omega
    have hk1:(k:Int)<(m:Int):=by omega
    have hk2:(k:Int)<(n:Int):=by omega
    clear hs1 hs2 hval hlies
    go_wp2_with fail
    go_region_law (fail)
    all_goals
     go_wp2
     go_roundw
     case rel=>exact ⟨k+1,by omega,by go_num,rfl,(HLI.out.set k (D B64 (X-Y) k)).congr (mn_step _ (fun _ _=>rfl) _ rfl),grown_set (w:=wr.drew) ⟨hg.os,hg.tape,hg.output,hg.size,hg.block⟩ _ _⟩
     case measure=>simp [intOf]<;>omega
  · obtain rfl:k=m:=by omega
    have HLI:=Lib.hid hlies
    have HGW:=Lib.hid hg
    clear hlies hg
    obtain ⟨wo,rfl⟩:∃ wo:World,wo=wr:=⟨_,rfl⟩
    go_wp2
    go_loopw [8,10] (fun bw i wr=>∃ q:Nat,k≤q∧q≤n+1∧i=.int .i64 q∧bw=.int .u64 (bor B64 X Y q:Nat)∧Lies wr g n (mnF X Y q)∧w2.grownBy wr (some g)) (fun _ i _=>n+2-(intOf i).toNat)
    case atStart=>exact ⟨k,Nat.le_refl _,by omega,rfl,rfl,HLI.out,HGW.out⟩
    case round =>
     obtain ⟨q,hq1,hq2,rfl,rfl,hlies,hg⟩:=hrel
     by_cases hc0:bor B64 X Y q=0
     · have hng:Ng wr (some ⟨g,0,none⟩) n cr (X-Y):=⟨Nat.lt_of_le_of_lt (Nat.sub_le _ _) HX.out.lt,hcr,(hlies.congr (fun j _=>mn_end HXY.out HY.out.lt hq1 hc0 j)).rd⟩
       have hgw:=HGROW.out _ hg
       rw [hc0]
       have HNG:=Lib.hid hng
       have HGZ:=Lib.hid hgw
       clear hc0 hng hgw hlies hg
       go_wp2_with fail
       refine (trim_any (some ⟨g,0,none⟩) n cr (X-Y) _ (by omega) HNG.out).mono ?_
       rintro e w' ⟨z,hz,rfl,hnm,rfl⟩
       have HNM:=Lib.hid hnm
       clear hnm
       go_wp2
       go_ret
       refine ⟨_,z,cr,hz,rfl,HNM.out,HGZ.out,?_⟩
       rcases HGB.out with h | h
       · exact .inl (by rw [h];rfl)
       · exact .inr (fun z hz=>by simp [Value.ownBlock] at hz;omega)
     · have hqn:=bor_up HX.out.lt HXY.out hc0
       have hcell:=hlies.cell (i:=q) (by omega)
       have hfro:=hlies.frozen q
       have hval:mnF X Y q q=D B64 X q:=by unfold mnF;rw [if_neg (by omega)]
       have hyq:D B64 Y q=0:=D_zero_of B64_pos HY.out.lt (by omega)
       rw [hval] at hcell
       have hdx:=D64_lt X q
       have hbl:=bor_le B64 X Y q
       have hs1:=bor_step B64_pos X Y q
       have hs2:=sub_digit hdx (D64_lt Y q) hbl (dif_digit B64_pos HXY.out q)
       rw [hyq] at hs1 hs2
       have hne:((bor B64 X Y q:Int) != 0)=true:=by simp;omega
       have HLJ:=Lib.hid hlies
       have ha:=fun W=>sub64_m (D B64 X q) (bor B64 X Y q) hbl W (D B64 (X-Y) q) (bor B64 X Y (q+1)) hs2 hs1.symm
       have hk0:(0:Int)≤(q:Int):=by omega
       have hk2:(q:Int)<(n:Int):=by omega
       clear hs1 hs2 hval hlies hyq hc0
       go_wp2
       go_roundw
       case rel=>exact ⟨q+1,by omega,by omega,by go_num,rfl,(HLJ.out.set q (D B64 (X-Y) q)).congr (mn_step _ (fun _ _=>rfl) _ rfl),grown_set hg _ _⟩
       case measure=>simp [intOf]<;>omega
end Go.Proofs.YtdbhahiieokplaaGreatDoor


namespace Go.Proofs.YtdbhahiieokplaaGreatDoor
open Go.RowKit
attribute [local go_sem ↓] Go.wp_at_zero Go.wp_at_succ

theorem heap_six (w:World) (o1 o2 o3 o4 o5 o6:Obj):(((((((w.alloc o1).alloc o2).alloc o3).alloc o4).alloc o5).alloc o6).heap[w.heap.size]?=some o1∧((((((w.alloc o1).alloc o2).alloc o3).alloc o4).alloc o5).alloc o6).heap[w.heap.size+1]?=some o2 ∧
  ((((((w.alloc o1).alloc o2).alloc o3).alloc o4).alloc o5).alloc o6).heap[w.heap.size+2]?=some o3∧((((((w.alloc o1).alloc o2).alloc o3).alloc o4).alloc o5).alloc o6).heap[w.heap.size+3]?=some o4) ∧
  ((((((w.alloc o1).alloc o2).alloc o3).alloc o4).alloc o5).alloc o6).heap[w.heap.size+4]?=some o5∧((((((w.alloc o1).alloc o2).alloc o3).alloc o4).alloc o5).alloc o6).heap[w.heap.size+5]?=some o6:=by
 obtain ⟨a1,a2,a3,a4⟩:=heap_four w o1 o2 o3 o4
 have h5:=heap_one ((((w.alloc o1).alloc o2).alloc o3).alloc o4) o5
 have h6:=heap_one (((((w.alloc o1).alloc o2).alloc o3).alloc o4).alloc o5) o6
 have up:∀ k,k<w.heap.size+4→((((((w.alloc o1).alloc o2).alloc o3).alloc o4).alloc o5).alloc o6).heap[k]?=((((w.alloc o1).alloc o2).alloc o3).alloc o4).heap[k]?:=fun k hk =>
  (Below.heap_alloc _ _ _ (by simp<;>omega)).trans (Below.heap_alloc _ _ _ (by simp<;>omega))
 refine ⟨⟨(up _ (by omega)).trans a1,(up _ (by omega)).trans a2,(up _ (by omega)).trans a3,(up _ (by omega)).trans a4⟩,?_,by simpa using h6⟩
 exact (Below.heap_alloc _ _ _ (by simp<;>omega)).trans (by simpa using h5)

theorem sgn_add_same (na:Bool) (X Y:Nat):sgn na (X+Y)=sgn na X+sgn na Y:=by cases na<;>simp [sgn]<;>omega
theorem sgn_add_not (na:Bool) {X Y:Nat} (h:Y≤X):sgn na (X-Y)=sgn na X+sgn (!na) Y:=by cases na<;>simp [sgn]<;>omega

theorem sgn_add_not2 (na:Bool) {X Y:Nat} (h:X≤Y):sgn (!na) (Y-X)=sgn na X+sgn (!na) Y:=by cases na<;>simp [sgn]<;>omega

theorem Nm.le_len {w w':World} {A B:Option Addr} {n m c d X Y:Nat} (hx:Ng w A n c X) (hy:Nm w' B m d Y) (h:Y≤X):m≤n:=by
 rcases Nat.lt_or_ge n m with h1 | h1
 · have h2:B64^n≤B64^(m-1):=Nat.pow_le_pow_right B64_pos (by omega)
   have h3:=hy.top (by omega)
   have h4:=hx.lt
   omega
 · exact h1

theorem Nm.drew {w w':World} {A:Option Addr} {n c V:Nat} (h:Nm w A n c V) (hd:Drew w w'):Nm w' A n c V:=by
 obtain ⟨q,rfl⟩:=hd
 exact ⟨h.toNg.drewN q,h.top⟩

set_option maxHeartbeats 4000000 in
set_option maxRecDepth 100000 in
theorem combine_any (na nb nc:Bool) (a b:ByteArray) (ha:a.size≤400000000) (hb:b.size≤400000000) (w:World) :
  Calls Tryz.prog 161 #[.agg #[.bool na,.string a],.agg #[.bool nc,.string b],.bool nb] w (RetZ w (sgn na (bval a)+sgn nb (bval b))):=by
 obtain ⟨⟨k1,k2,k3,k4⟩,k5,k6⟩:=heap_six w (.cells #[.bool na,.string a] 23) (.cells #[.bool nc,.string b] 23) (.cells #[.bool false,.string ⟨#[]⟩] 23) arr16 arr16 arr16
 obtain ⟨W,hW⟩:∃ W,W=(((((w.alloc (.cells #[.bool na,.string a] 23)).alloc (.cells #[.bool nc,.string b] 23)).alloc (.cells #[.bool false,.string ⟨#[]⟩] 23)).alloc arr16).alloc arr16).alloc arr16:=⟨_,rfl⟩
 rw [←hW] at k1 k2 k3 k4 k5 k6
 have hbW:Below w.heap.size w W:=by
  rw [hW]
  exact ((((((Below.refl _ _).alloc (Nat.le_refl _) _).alloc (by simp) _).alloc (by simp<;>omega) _).alloc (by simp<;>omega) _).alloc (by simp<;>omega) _).alloc (by simp<;>omega) _
 have hszW:W.heap.size=w.heap.size+6:=by rw [hW];simp
 have iA:Is16 W (w.heap.size+3):=⟨_,k4,by simp⟩
 have iB:Is16 W (w.heap.size+4):=⟨_,k5,by simp⟩
 have iC:Is16 W (w.heap.size+5):=⟨_,k6,by simp⟩
 obtain ⟨c0,c1,_,_⟩:=res2 (g:=w.heap.size) (by exact k1) (Below.refl W.heap.size W) (by omega)
 obtain ⟨c2,c3,_,_⟩:=res2 (g:=w.heap.size+1) (by exact k2) (Below.refl W.heap.size W) (by omega)
 have HU1:=Lib.hid (fun V (hV:Is16 V (w.heap.size+3))=>unpack_any (.slice (some ⟨w.heap.size+3,0,none⟩) 0 16) a 0 V (by omega) (Nat.zero_le _) hV.own)
 have HU2:=Lib.hid (fun V (hV:Is16 V (w.heap.size+4))=>unpack_any (.slice (some ⟨w.heap.size+4,0,none⟩) 0 16) b 0 V (by omega) (Nat.zero_le _) hV.own)
 have IA:=Lib.hid iA
 have IB:=Lib.hid iB
 have IC:=Lib.hid iC
 have HW:=Lib.hid hW
 have HBW:=Lib.hid hbW
 have HSW:=Lib.hid hszW
 have HK3:=Lib.hid k3
 clear k1 k2 k3 k4 k5 k6 hbW hszW iA iB iC hW
 go_enter Tryz.func161,Tryz.ntmps161
 go_wp2_with fail
 have hw9:=HW.out.symm
 unfold arr16 at hw9
 rw [hw9]
 clear hw9
 have hp1:w.heap.size<W.heap.size:=by have:=HSW.out;omega
 have hp2:w.heap.size+1<W.heap.size:=by have:=HSW.out;omega
 go_region_held3 (fun w'=>w'.cell? ⟨w.heap.size,1,none⟩=some (.string a)∧w'.cell? ⟨w.heap.size+1,1,none⟩=some (.string b))
  (first
   | go_keep
   | exact ⟨y1,y2⟩
   | exact ⟨z1,z2⟩)
  (first
   | (go_at_call 140;(with_reducible refine (HU1.out _ ?_).mono ?_);(exact IA.out.keep rfl);rintro e w2 ⟨A1,n1,d1,hn1,rfl,hm1,hg2,hbk1⟩;have z1:=keep_cell (W:=W.drew) (g:=w.heap.size+3) hg2 hp1 (by omega) c1;have z2:=keep_cell (W:=W.drew) (g:=w.heap.size+3) hg2 hp2 (by omega) c3;have hq1:=Nat.lt_of_lt_of_le hp1 hg2.size;have hq2:=Nat.lt_of_lt_of_le hp2 hg2.size)
   | (go_at_call 140;(with_reducible refine (HU2.out _ ?_).mono ?_);(exact keep_16 (W:=W.drew) (g:=w.heap.size+3) hg2 (by omega) (IB.out.keep rfl));rintro e w3 ⟨A2,n2,d2,hn2,rfl,hm2,hg3,hbk2⟩;have y1:=keep_cell (g:=w.heap.size+4) hg3 hq1 (by omega) z1;have y2:=keep_cell (g:=w.heap.size+4) hg3 hq2 (by omega) z2))
 have hs2:W.heap.size≤w2.heap.size:=hg2.size
 have hs3:w2.heap.size≤w3.heap.size:=hg3.size
 have hsW:=HSW.out
 have ax:=apart (g:=w.heap.size+3) (p:=w.heap.size+4) hbk1 (by omega) (by show _<W.heap.size;omega)
 have axC:=apart (g:=w.heap.size+3) (p:=w.heap.size+5) hbk1 (by omega) (by show _<W.heap.size;omega)
 have ayC:=apart (g:=w.heap.size+4) (p:=w.heap.size+5) hbk2 (by omega) (by omega)
 have hx3:Nm w3 A1 n1 d1 (bval a):=⟨⟨hm1.lt,hm1.cap,hm1.rd.grown hg3 (fun q hq z hz e=>ax z hz (e.trans (row_eq hq).symm))⟩,hm1.top⟩
 have i2:=keep_16 (W:=W.drew) (g:=w.heap.size+3) hg2 (by omega) (IC.out.keep rfl)
 have i3:=keep_16 (g:=w.heap.size+4) hg3 (by omega) i2
 have e0:=keep_cell (g:=w.heap.size+4) hg3 hq1 (by omega) (keep_cell (W:=W.drew) (g:=w.heap.size+3) hg2 hp1 (by omega) c0)
 have hbl:Below (w.heap.size+3) W w3:=((Below.refl _ W).drew.trans (below_of_grown (g:=w.heap.size+3) hg2 (by show _≤W.heap.size;omega) (Nat.le_refl _))).trans (below_of_grown (g:=w.heap.size+4) hg3 (by omega) (by omega))
 have HX3:=Lib.hid hx3
 have HY3:=Lib.hid hm2
 have I3:=Lib.hid i3
 have HBL:=Lib.hid hbl
 have HAXC:=Lib.hid axC
 have HAYC:=Lib.hid ayC
 have HN1:=Lib.hid hn1
 have HN2:=Lib.hid hn2
 have hsz3:w.heap.size+6≤w3.heap.size:=by omega
 clear hg2 hg3 hbk1 hbk2 hm1 hm2 ax axC ayC hx3 i2 i3 hbl hn1 hn2 z1 z2 y1 y2 c0 c1 c2 c3 hq1 hq2 hp1 hp2 hs2 hs3 hsW
 have HCMP:=Lib.hid (compare_any A1 A2 n1 n2 d1 d2 (bval a) (bval b) w3 (by have:=HN1.out;omega) (by have:=HN2.out;omega) HX3.out HY3.out)
 generalize bval a=X at *
 generalize bval b=Y at *
 by_cases hlt:X<Y
 · have hord:=ord_lt hlt
   rw [hord] at HCMP
   have hle:X≤Y:=by omega
   clear hord hlt
   by_cases hs:na=nb
   · subst hs
     go_wp2_with fail
     refine HCMP.out.mono ?_
     rintro e w4 ⟨rfl,hd4⟩
     have ho4:=(I3.out.keep ((hd4.below w3.heap.size).block _ (by omega))).own
     have ha4:=HY3.out.drew hd4
     have hb4:=HX3.out.drew hd4
     have hs4:w3.heap.size≤w4.heap.size:=(hd4.below w3.heap.size).size
     have HOP:=Lib.hid (plus_any (.slice (some ⟨w.heap.size+5,0,none⟩) 0 16) 0 A2 A1 n2 n1 d2 d1 Y X w4 (by have:=HN1.out;have:=HN2.out;omega) (by have:=HN1.out;have:=HN2.out;omega) ho4 (Nat.zero_le _) ha4.toNg hb4.toNg (fun z hz e=>HAYC.out z hz (by injection e)) (fun z hz e=>HAXC.out z hz (by injection e)))
     have HD4:=Lib.hid hd4
     clear ho4 ha4 hb4 hd4
     go_wp2_with fail
     refine HOP.out.mono ?_
     rintro e w5 ⟨A5,n5,d5,hn5,rfl,hm5,hg5,_⟩
     have HM5:=Lib.hid hm5
     have HG5:=Lib.hid hg5
     have HN5:=Lib.hid hn5
     have hs5:w4.heap.size≤w5.heap.size:=hg5.size
     clear hm5 hg5 hn5
     go_wp2_with fail
     refine (pack_any _ A5 n5 d5 _ _ (by have:=HN5.out;have:=HN1.out;have:=HN2.out;omega) HM5.out.toNg).mono fun e w6 h=>?_
     obtain ⟨b2,m2,HB2,rfl,hb6⟩:=h.form
     have hall:Below (w.heap.size+3) W w6:=((HBL.out.trans (HD4.out.below _)).trans (below_of_grown (g:=w.heap.size+5) HG5.out (by omega) (by omega))).trans (hb6.mono (by omega))
     obtain ⟨p0,p1,g0,g1⟩:=res2 (g:=w.heap.size+2) (by exact HK3.out) hall (by omega)
     have HALL:=Lib.hid hall
     clear h hb6 hall
     go_wp2
     refine bodyPost_ret (v:=.agg #[.bool b2,.string m2]) (by simp [results,Tryz.results161,go_sem,p0,p1]) rfl ⟨?_,?_⟩
     · rw [←HB2.out]
       exact congrArg (fun z=>Ending.returned (enc z)) (by rw [Nat.add_comm,sgn_add_same])
     · exact ((HBW.out.trans (HALL.out.mono (by omega))).setCell (by simp<;>omega) _).setCell (by simp<;>omega) _
   · obtain rfl:nb=!na:=by cases na<;>cases nb<;>first | rfl | exact absurd rfl hs
     clear hs
     go_wp2_with fail
     refine HCMP.out.mono ?_
     rintro e w4 ⟨rfl,hd4⟩
     have ho4:=(I3.out.keep ((hd4.below w3.heap.size).block _ (by omega))).own
     have ha4:=HY3.out.drew hd4
     have hb4:=HX3.out.drew hd4
     have hs4:w3.heap.size≤w4.heap.size:=(hd4.below w3.heap.size).size
     have HOP:=Lib.hid (minus_any (.slice (some ⟨w.heap.size+5,0,none⟩) 0 16) 0 A2 A1 n2 n1 d2 d1 Y X w4 (by have:=HN1.out;have:=HN2.out;omega) (Nm.le_len ha4.toNg hb4 (by omega)) (.inr (by simp [Value.ownBlock])) (by omega) ho4 (Nat.zero_le _) ha4.toNg hb4.toNg (fun z hz e=>HAYC.out z hz (by injection e)) (fun z hz e=>HAXC.out z hz (by injection e)))
     have HD4:=Lib.hid hd4
     clear ho4 ha4 hb4 hd4
     go_wp2_with fail
     refine HOP.out.mono ?_
     rintro e w5 ⟨A5,n5,d5,hn5,rfl,hm5,hg5,_⟩
     have HM5:=Lib.hid hm5
     have HG5:=Lib.hid hg5
     have HN5:=Lib.hid hn5
     have hs5:w4.heap.size≤w5.heap.size:=hg5.size
     clear hm5 hg5 hn5
     go_wp2_with fail
     refine (pack_any _ A5 n5 d5 _ _ (by have:=HN5.out;have:=HN1.out;have:=HN2.out;omega) HM5.out.toNg).mono fun e w6 h=>?_
     obtain ⟨b2,m2,HB2,rfl,hb6⟩:=h.form
     have hall:Below (w.heap.size+3) W w6:=((HBL.out.trans (HD4.out.below _)).trans (below_of_grown (g:=w.heap.size+5) HG5.out (by omega) (by omega))).trans (hb6.mono (by omega))
     obtain ⟨p0,p1,g0,g1⟩:=res2 (g:=w.heap.size+2) (by exact HK3.out) hall (by omega)
     have HALL:=Lib.hid hall
     clear h hb6 hall
     go_wp2
     refine bodyPost_ret (v:=.agg #[.bool b2,.string m2]) (by simp [results,Tryz.results161,go_sem,p0,p1]) rfl ⟨?_,?_⟩
     · rw [←HB2.out]
       exact congrArg (fun z=>Ending.returned (enc z)) (sgn_add_not2 na hle)
     · exact ((HBW.out.trans (HALL.out.mono (by omega))).setCell (by simp<;>omega) _).setCell (by simp<;>omega) _
 · obtain ⟨o,hord,ho⟩:∃ o:Int,ord X Y=o∧0≤o:=⟨_,rfl,by unfold ord;rw [if_neg hlt];split<;>omega⟩
   rw [hord] at HCMP
   have hle:Y≤X:=by omega
   clear hord hlt
   by_cases hs:na=nb
   · subst hs
     go_wp2_with fail
     refine HCMP.out.mono ?_
     rintro e w4 ⟨rfl,hd4⟩
     have ho4:=(I3.out.keep ((hd4.below w3.heap.size).block _ (by omega))).own
     have ha4:=HX3.out.drew hd4
     have hb4:=HY3.out.drew hd4
     have hs4:w3.heap.size≤w4.heap.size:=(hd4.below w3.heap.size).size
     have HOP:=Lib.hid (plus_any (.slice (some ⟨w.heap.size+5,0,none⟩) 0 16) 0 A1 A2 n1 n2 d1 d2 X Y w4 (by have:=HN1.out;have:=HN2.out;omega) (by have:=HN1.out;have:=HN2.out;omega) ho4 (Nat.zero_le _) ha4.toNg hb4.toNg (fun z hz e=>HAXC.out z hz (by injection e)) (fun z hz e=>HAYC.out z hz (by injection e)))
     have HD4:=Lib.hid hd4
     clear ho4 ha4 hb4 hd4
     go_wp2_with fail
     refine HOP.out.mono ?_
     rintro e w5 ⟨A5,n5,d5,hn5,rfl,hm5,hg5,_⟩
     have HM5:=Lib.hid hm5
     have HG5:=Lib.hid hg5
     have HN5:=Lib.hid hn5
     have hs5:w4.heap.size≤w5.heap.size:=hg5.size
     clear hm5 hg5 hn5
     go_wp2_with fail
     refine (pack_any _ A5 n5 d5 _ _ (by have:=HN5.out;have:=HN1.out;have:=HN2.out;omega) HM5.out.toNg).mono fun e w6 h=>?_
     obtain ⟨b2,m2,HB2,rfl,hb6⟩:=h.form
     have hall:Below (w.heap.size+3) W w6:=((HBL.out.trans (HD4.out.below _)).trans (below_of_grown (g:=w.heap.size+5) HG5.out (by omega) (by omega))).trans (hb6.mono (by omega))
     obtain ⟨p0,p1,g0,g1⟩:=res2 (g:=w.heap.size+2) (by exact HK3.out) hall (by omega)
     have HALL:=Lib.hid hall
     clear h hb6 hall
     go_wp2
     refine bodyPost_ret (v:=.agg #[.bool b2,.string m2]) (by simp [results,Tryz.results161,go_sem,p0,p1]) rfl ⟨?_,?_⟩
     · rw [←HB2.out]
       exact congrArg (fun z=>Ending.returned (enc z)) (sgn_add_same na X Y)
     · exact ((HBW.out.trans (HALL.out.mono (by omega))).setCell (by simp<;>omega) _).setCell (by simp<;>omega) _
   · obtain rfl:nb=!na:=by cases na<;>cases nb<;>first | rfl | exact absurd rfl hs
     clear hs
     go_wp2_with fail
     refine HCMP.out.mono ?_
     rintro e w4 ⟨rfl,hd4⟩
     have ho4:=(I3.out.keep ((hd4.below w3.heap.size).block _ (by omega))).own
     have ha4:=HX3.out.drew hd4
     have hb4:=HY3.out.drew hd4
     have hs4:w3.heap.size≤w4.heap.size:=(hd4.below w3.heap.size).size
     have HOP:=Lib.hid (minus_any (.slice (some ⟨w.heap.size+5,0,none⟩) 0 16) 0 A1 A2 n1 n2 d1 d2 X Y w4 (by have:=HN1.out;have:=HN2.out;omega) (Nm.le_len ha4.toNg hb4 (by omega)) (.inr (by simp [Value.ownBlock])) (by omega) ho4 (Nat.zero_le _) ha4.toNg hb4.toNg (fun z hz e=>HAXC.out z hz (by injection e)) (fun z hz e=>HAYC.out z hz (by injection e)))
     have HD4:=Lib.hid hd4
     clear ho4 ha4 hb4 hd4
     go_wp2_with fail
     refine HOP.out.mono ?_
     rintro e w5 ⟨A5,n5,d5,hn5,rfl,hm5,hg5,_⟩
     have HM5:=Lib.hid hm5
     have HG5:=Lib.hid hg5
     have HN5:=Lib.hid hn5
     have hs5:w4.heap.size≤w5.heap.size:=hg5.size
     clear hm5 hg5 hn5
     go_wp2_with fail
     refine (pack_any _ A5 n5 d5 _ _ (by have:=HN5.out;have:=HN1.out;have:=HN2.out;omega) HM5.out.toNg).mono fun e w6 h=>?_
     obtain ⟨b2,m2,HB2,rfl,hb6⟩:=h.form
     have hall:Below (w.heap.size+3) W w6:=((HBL.out.trans (HD4.out.below _)).trans (below_of_grown (g:=w.heap.size+5) HG5.out (by omega) (by omega))).trans (hb6.mono (by omega))
     obtain ⟨p0,p1,g0,g1⟩:=res2 (g:=w.heap.size+2) (by exact HK3.out) hall (by omega)
     have HALL:=Lib.hid hall
     clear h hb6 hall
     go_wp2
     refine bodyPost_ret (v:=.agg #[.bool b2,.string m2]) (by simp [results,Tryz.results161,go_sem,p0,p1]) rfl ⟨?_,?_⟩
     · rw [←HB2.out]
       exact congrArg (fun z=>Ending.returned (enc z)) (sgn_add_not na hle)
     · exact ((HBW.out.trans (HALL.out.mono (by omega))).setCell (by simp<;>omega) _).setCell (by simp<;>omega) _
end Go.Proofs.YtdbhahiieokplaaGreatDoor
