import Derived.Test.YtdbhahiieokplaaGreatDoorGSgH
import Derived.Test.YtdbhahiieokplaaGreatDoorGIntW
import Derived.Test.YtdbhahiieokplaaGreatDoorGRNA
import Derived.Deep.LoopGhost
import Derived.Deep.RegionWith
import Derived.Deep.RegionLaw
import Derived.Test.YtdbhahiieokplaaGreatDoorGGcE
import Derived.Test.YtdbhahiieokplaaGreatDoorGLawA
import Derived.Test.YtdbhahiieokplaaGreatDoorGRefI
import Derived.Test.YtdbhahiieokplaaGreatDoorGRefG
import Derived.Test.YtdbhahiieokplaaGreatDoorGRefL
import Derived.Test.YtdbhahiieokplaaGreatDoorGRNC
set_option linter.unusedSimpArgs false
set_option linter.unusedVariables false

namespace Go.Proofs.YtdbhahiieokplaaGreatDoor
open Go.RowKit

theorem qset {W:World} {g:Nat} {T:TypeId} {x0 x1:Value} (h:W.heap[g]?=some (.cells #[x0,x1] T (0,0))) (x y:Value):((W.setCell ⟨g,0,none⟩ x).setCell ⟨g,1,none⟩ y).heap[g]?=some (.cells #[x,y] T (0,0)):=by
 simp [World.setCell,Array.getElem?_modify,h]
theorem qoth {W:World} {g k:Nat} (hne:k≠g) (x y:Value):((W.setCell ⟨g,0,none⟩ x).setCell ⟨g,1,none⟩ y).heap[k]?=W.heap[k]? :=
 (Below.heap_setCell _ ⟨g,1,none⟩ y k hne).trans (Below.heap_setCell _ ⟨g,0,none⟩ x k hne)
theorem qsz {W:World} {g:Nat} (x y:Value):((W.setCell ⟨g,0,none⟩ x).setCell ⟨g,1,none⟩ y).heap.size=W.heap.size:=by simp [World.setCell]

structure Kb (w:World) (c1 c2:Array Value) (T1 T2:TypeId) (wx:World):Prop where
 k1:wx.heap[w.heap.size]?=some (.cells c1 T1 (0,0))
 k2:wx.heap[w.heap.size+1]?=some (.cells c2 T2 (0,0))
 sz:w.heap.size+2≤wx.heap.size
 bel:Below w.heap.size w wx

structure Kc (w:World) (c1 c2 c3:Array Value) (T1 T2 T3:TypeId) (wx:World):Prop where
 k1:wx.heap[w.heap.size]?=some (.cells c1 T1 (0,0))
 k2:wx.heap[w.heap.size+1]?=some (.cells c2 T2 (0,0))
 k3:wx.heap[w.heap.size+2]?=some (.cells c3 T3 (0,0))
 sz:w.heap.size+3≤wx.heap.size
 bel:Below w.heap.size w wx

section
variable {w w1 w2:World} {c1 c2 c3:Array Value} {T1 T2 T3:TypeId}
theorem Kb.start (w:World) (c1 c2:Array Value) (T1 T2:TypeId):Kb w c1 c2 T1 T2 ((w.alloc (.cells c1 T1)).alloc (.cells c2 T2)) :=
 ⟨heap_fst _ _ _,heap_two _ _ _,by simp,((Below.refl _ _).alloc (Nat.le_refl _) _).alloc (by simp) _⟩
theorem Kb.next (h:Kb w c1 c2 T1 T2 w1) (hb:Below w1.heap.size w1 w2):Kb w c1 c2 T1 T2 w2:=by
 have hs:=h.sz
 refine ⟨(hb.block _ (by omega)).trans h.k1,(hb.block _ (by omega)).trans h.k2,?_,h.bel.trans (hb.mono h.bel.size)⟩
 have:=hb.size
 omega
theorem Kb.drew (h:Kb w c1 c2 T1 T2 w1):Kb w c1 c2 T1 T2 w1.drew:=h.next (Below.refl _ _).drew
theorem Kb.drewN (h:Kb w c1 c2 T1 T2 w1) (n:Nat):Kb w c1 c2 T1 T2 (w1.drewN n):=h.next (below_draws (Below.refl _ _) n)
theorem Kc.start (w:World) (c1 c2 c3:Array Value) (T1 T2 T3:TypeId):Kc w c1 c2 c3 T1 T2 T3 (((w.alloc (.cells c1 T1)).alloc (.cells c2 T2)).alloc (.cells c3 T3)):=by
 obtain ⟨k1,k2,k3⟩:=heap_three_all w (.cells c1 T1) (.cells c2 T2) (.cells c3 T3)
 exact ⟨k1,k2,k3,by simp,(((Below.refl _ _).alloc (Nat.le_refl _) _).alloc (by simp) _).alloc (by simp<;>omega) _⟩
theorem Kc.next (h:Kc w c1 c2 c3 T1 T2 T3 w1) (hb:Below w1.heap.size w1 w2):Kc w c1 c2 c3 T1 T2 T3 w2:=by
 have hs:=h.sz
 refine ⟨(hb.block _ (by omega)).trans h.k1,(hb.block _ (by omega)).trans h.k2,(hb.block _ (by omega)).trans h.k3,?_,h.bel.trans (hb.mono h.bel.size)⟩
 have:=hb.size
 omega
theorem Kc.drew (h:Kc w c1 c2 c3 T1 T2 T3 w1):Kc w c1 c2 c3 T1 T2 T3 w1.drew:=h.next (Below.refl _ _).drew
theorem Kc.drewN (h:Kc w c1 c2 c3 T1 T2 T3 w1) (n:Nat):Kc w c1 c2 c3 T1 T2 T3 (w1.drewN n):=h.next (below_draws (Below.refl _ _) n)
theorem Kc.set1 {x0 x1:Value} (h:Kc w #[x0,x1] c2 c3 T1 T2 T3 w1) (x y:Value):Kc w #[x,y] c2 c3 T1 T2 T3 ((w1.setCell ⟨w.heap.size,0,none⟩ x).setCell ⟨w.heap.size,1,none⟩ y) :=
 ⟨qset h.k1 x y,(qoth (by omega) x y).trans h.k2,(qoth (by omega) x y).trans h.k3,by rw [qsz];exact h.sz,(h.bel.setCell (Nat.le_refl _) _).setCell (Nat.le_refl _) _⟩
theorem Kc.set2 {x0 x1:Value} (h:Kc w c1 #[x0,x1] c3 T1 T2 T3 w1) (x y:Value):Kc w c1 #[x,y] c3 T1 T2 T3 ((w1.setCell ⟨w.heap.size+1,0,none⟩ x).setCell ⟨w.heap.size+1,1,none⟩ y) :=
 ⟨(qoth (by omega) x y).trans h.k1,qset h.k2 x y,(qoth (by omega) x y).trans h.k3,by rw [qsz];exact h.sz,(h.bel.setCell (by show w.heap.size≤w.heap.size+1;omega) _).setCell (by show w.heap.size≤w.heap.size+1;omega) _⟩
end

theorem blk3 {W:World} {g:Nat} {T:TypeId} {v0 v1 v2:Value} (h:W.heap[g]?=some (.cells #[v0,v1,v2] T (0,0))) :
  W.cell? ⟨g,0,none⟩=some v0∧W.cell? ⟨g,1,none⟩=some v1∧W.cell? ⟨g,2,none⟩=some v2∧W.frozen? ⟨g,0,none⟩=false∧W.frozen? ⟨g,1,none⟩=false∧W.frozen? ⟨g,2,none⟩=false:=by
 refine ⟨?_,?_,?_,?_,?_,?_⟩<;>simp [World.cell?,World.frozen?,h]
theorem blk4 {W:World} {g:Nat} {T:TypeId} {v0 v1 v2 v3:Value} (h:W.heap[g]?=some (.cells #[v0,v1,v2,v3] T (0,0))) :
  W.cell? ⟨g,0,none⟩=some v0∧W.cell? ⟨g,1,none⟩=some v1∧W.cell? ⟨g,2,none⟩=some v2∧W.cell? ⟨g,3,none⟩=some v3:=by
 refine ⟨?_,?_,?_,?_⟩<;>simp [World.cell?,World.frozen?,h]
theorem fro4 {W:World} {g:Nat} {T:TypeId} {v0 v1 v2 v3:Value} (h:W.heap[g]?=some (.cells #[v0,v1,v2,v3] T (0,0))) :
  W.frozen? ⟨g,0,none⟩=false∧W.frozen? ⟨g,1,none⟩=false∧W.frozen? ⟨g,2,none⟩=false∧W.frozen? ⟨g,3,none⟩=false:=by
 refine ⟨?_,?_,?_,?_⟩<;>simp [World.cell?,World.frozen?,h]
theorem below_set4 {B:Nat} {a W:World} {g:Nat} (h:Below B a W) (hB:B≤g) (x y z u:Value):Below B a ((((W.setCell ⟨g,0,none⟩ x).setCell ⟨g,1,none⟩ y).setCell ⟨g,2,none⟩ z).setCell ⟨g,3,none⟩ u) :=
 (((h.setCell hB _).setCell hB _).setCell hB _).setCell hB _
theorem below_set2 {B:Nat} {a W:World} {g:Nat} (h:Below B a W) (hB:B≤g) (x y:Value):Below B a ((W.setCell ⟨g,0,none⟩ x).setCell ⟨g,1,none⟩ y) :=
 (h.setCell hB _).setCell hB _

def dm (d:Nat):ByteArray:=if d=1 then mag 0 else mag d

structure Rq (q:Rat) (b:Bool) (m k:ByteArray):Prop where
 num:enc q.num=.agg #[.bool b,.string m]
 den:k=dm q.den

theorem Rq.some_ (q:Rat):∃ b m k,Rq q b m k:=⟨_,_,_,rfl,rfl⟩

theorem mag_nil:mag 0=⟨#[]⟩:=by unfold mag;rw [magL_zero]
theorem dm_one:dm 1=⟨#[]⟩:=by unfold dm;rw [if_pos rfl,mag_nil]

structure Env (w:World):Prop where
 tab:Tab w
 lt:0<w.heap.size
 o0:w.cell? ⟨0,0,none⟩=some (.bool false)
 o1:w.cell? ⟨0,1,none⟩=some (.string ⟨#[1]⟩)
theorem Env.below {w w':World} {B:Nat} (h:Env w) (hb:Below B w w') (hB:w.heap.size≤B):Env w' :=
 ⟨h.tab.below hb (Nat.lt_of_lt_of_le h.tab.lt hB),Nat.lt_of_lt_of_le h.lt hb.size,(hb.cell (p:=⟨0,0,none⟩) (Nat.lt_of_lt_of_le h.lt hB)).trans h.o0,(hb.cell (p:=⟨0,1,none⟩) (Nat.lt_of_lt_of_le h.lt hB)).trans h.o1⟩
theorem Env.next {w w':World} (h:Env w) (hb:Below w.heap.size w w'):Env w':=h.below hb (Nat.le_refl _)
theorem Env.drew {w:World} (h:Env w):Env w.drew:=h.next (Below.refl _ _).drew
end Go.Proofs.YtdbhahiieokplaaGreatDoor


namespace Go.Proofs.YtdbhahiieokplaaGreatDoor
open Go.RowKit
attribute [local go_sem ↓] Go.wp_at_zero Go.wp_at_succ

theorem rt_self (X:Nat):rt X≤X:=by
 apply rt_le
 rw [Nat.add_mul,Nat.one_mul]
 omega
theorem shp {s W p:Nat} (h:s=64*W+p):2^p*B64^W=2^s:=by
 have e:B64=2^64:=by decide
 rw [e,←Nat.pow_mul,←Nat.pow_add,h,Nat.add_comm]

theorem guess_first (X P Q:Nat) (hP:P=Q*Q) (hQ:0<Q):rt X≤(rt (X / P)+1)*Q:=by
 have hp:0<P:=by rw [hP];exact Nat.mul_pos hQ hQ
 have a1:=(rt_spec (X / P)).2
 have a2:X<(X / P+1)*P:=by
  have:=Nat.div_add_mod X P
  have:=Nat.mod_lt X hp
  rw [Nat.add_mul,Nat.mul_comm (X / P)]
  omega
 have a3:(X / P+1)*P≤(rt (X / P)+1)*(rt (X / P)+1)*P:=Nat.mul_le_mul_right _ a1
 have a4:(rt (X / P)+1)*(rt (X / P)+1)*P=((rt (X / P)+1)*Q)*((rt (X / P)+1)*Q):=by
  rw [hP,Nat.mul_mul_mul_comm]
 apply rt_le
 exact Nat.lt_of_lt_of_le (Nat.lt_of_lt_of_le a2 (a4 ▸ a3)) (Nat.mul_le_mul (Nat.le_succ _) (Nat.le_succ _))

set_option maxHeartbeats 4000000 in
set_option maxRecDepth 100000 in
theorem root_any (X:Nat):∀ (A:Option Addr) (n c:Nat) (w:World) (_:n≤10000000) (_:Nm w A n c X),Calls Tryz.prog 184 #[.slice A n c] w (RetN w (rt X) (2*n+10)):=by
 induction X using Nat.strongRecOn with
 | _ X ih =>
 intro A n c w hn hx
 by_cases h0:n=0
 · subst h0
   have hX:X=0:=hx.zero.1 rfl
   subst hX
   go_enter Tryz.func184,Tryz.ntmps184
   go_wp2
   go_ret
   exact ⟨none,0,0,by omega,rfl,Nm.nil _,Below.refl _ _,fun k hk=>by cases hk⟩
 · by_cases h1:n=1
   · subst h1
     have hX0:0<X:=by
      rcases Nat.eq_zero_or_pos X with h | h
      · exact absurd (hx.zero.2 h) (by decide)
      · exact h
     have hX1:X<18446744073709551616:=by have:=hx.lt;rw [Nat.pow_one] at this;exact this
     obtain ⟨gx,ox,hA,hgx,hcx⟩:=hx.rd (by omega)
     subst hA
     have hx0:=hcx 0 (by omega)
     have hD:D B64 X 0=X:=by unfold D;rw [Nat.pow_zero,Nat.div_one];exact Nat.mod_eq_of_lt hX1
     rw [hD,Nat.add_zero] at hx0
     have HW:=Lib.hid (fun V=>wordRoot_any X hX0 hX1 V)
     clear hcx hD
     go_enter Tryz.func184,Tryz.ntmps184
     go_wp2_with fail
     refine (HW.out _).mono ?_
     rintro e w1 ⟨rfl,q,rfl⟩
     go_wp2_with fail
     go_ret
     have hrl:rt X≤X:=rt_self X
     refine ⟨some ⟨w.heap.size,0,none⟩,1,1,by omega,rfl,⟨⟨?_,Nat.le_refl _,rd_one _ _ _ (rt X) _ (heap_one _ _) ?_⟩,fun _=>?_⟩,(below_draws (Below.refl _ w) _).alloc (Nat.le_refl _) _,fun k hk=>by simp [Value.ownBlock] at hk;omega⟩
     · rw [Nat.pow_one,B64_eq];omega
     · unfold D;rw [Nat.pow_zero,Nat.div_one];exact Nat.mod_eq_of_lt (by rw [B64_eq];omega)
     · exact rt_pos hX0
   · have hX0 : 0 < X := by
      rcases Nat.eq_zero_or_pos X with h | h
      · exact absurd (hx.zero.2 h) h0
      · exact h
     obtain ⟨gx,ox,hA,hgx,hcx⟩:=hx.rd (by omega)
     subst hA
     have hxt:=hcx (n-1) (by omega)
     have hdt:=D64_lt X (n-1)
     obtain ⟨t,ht⟩:∃ t,D B64 X (n-1)=t:=⟨_,rfl⟩
     rw [ht] at hxt hdt
     obtain ⟨lz,hlz⟩:∃ lz,64-Lib.bitLen t=lz:=⟨_,rfl⟩
     have HL:=Lib.hid (fun V=>lz_any t lz hlz hdt V)
     have hlz64:lz≤64:=by omega
     obtain ⟨h,hh⟩:∃ h,(64*n-lz) / 4=h:=⟨_,rfl⟩
     have hh1:((64:Int)*(n:Int)-(lz:Int)) / 4=(h:Int):=by omega
     have hh16:16≤h:=by omega
     have hhn:h≤16*n:=by omega
     have e2:((2*h:Nat):Int)=2*(h:Int):=by omega
     have hsr:=fun V hV=>shiftRight_any (some ⟨gx,ox,none⟩) n c X (2*h) (2*h / 64) (2*h%64) V (by omega) (by omega) (by omega) (by omega) hV
     rw [shp (s:=2*h) (by omega),e2] at hsr
     have HSR:=Lib.hid hsr
     have HX:=Lib.hid hx
     clear hsr hlz ht hh hcx hx
     go_enter Tryz.func184,Tryz.ntmps184
     go_wp2_with fail
     refine (HL.out _).mono ?_
     rintro e w1 ⟨rfl,q,rfl⟩
     go_wp2_with fail
     refine (HSR.out _ HX.out.toNg).mono ?_
     rintro e w1 ⟨A1,n1,c1,hn1,rfl,hm1,hb1,hf1⟩
     have HM1:=Lib.hid hm1
     have HB1:=Lib.hid hb1
     have h2h:2^1≤2^(2*h):=Nat.pow_le_pow_right (by omega) (by omega)
     have HRT:=Lib.hid (ih (X / 2^(2*h)) (Nat.div_lt_self hX0 h2h) A1 n1 c1 w1 (by omega) hm1)
     clear hm1 hb1 hf1 ih
     go_wp2_with fail
     refine HRT.out.mono ?_
     rintro e w2 ⟨A2,n2,c2,hn2,rfl,hm2,hb2,hf2⟩
     have HM2:=Lib.hid hm2
     have HB2:=Lib.hid hb2
     have hn2x:n2≤2*n+10:=by omega
     have HPL:=Lib.hid (fun V (hV:V=w2.alloc (.cells #[.int .u64 1] 146))=>plus_any (.slice none 0 0) 0 A2 (some ⟨w2.heap.size,0,none⟩) n2 1 c2 1 (rt (X / 2^(2*h))) 1 V (by omega) (by omega) (Own.nil _ _) (Nat.zero_le _) (by subst hV;exact hm2.toNg.alloc _) (by subst hV;exact ⟨by decide,Nat.le_refl _,rd_one _ _ _ 1 _ (heap_one _ _) (by decide)⟩) (fun z hz e=>by simp [Value.ownBlock] at e) (fun z hz e=>by simp [Value.ownBlock] at e))
     clear hm2 hb2 hf2
     go_wp2_with fail
     refine (HPL.out _ rfl).mono ?_
     rintro e w3 ⟨A3,n3,c3,hn3,rfl,hm3,hg3,hf3⟩
     have HM3:=Lib.hid hm3
     have hb3:Below w.heap.size w w3:=(HB1.out.trans (HB2.out.mono HB1.out.size)).trans (((Below.refl _ w2).alloc (Nat.le_refl _) _).trans (below_none (B:=w2.heap.size) hg3 (by simp)) |>.mono (Nat.le_trans HB1.out.size HB2.out.size))
     have HB3:=Lib.hid hb3
     obtain ⟨q,hq⟩:∃ q,rt (X / 2^(2*h))+1=q:=⟨_,rfl⟩
     have hq0:0<q:=by omega
     have hgs:=guess_first X (2^(2*h)) (2^h) (by rw [←Nat.pow_add];congr 1;omega) (Nat.pow_pos (by omega))
     rw [hq] at hgs
     have hm3b:=hm3
     rw [hq] at hm3b
     have hsl:=shiftLeft_any A3 n3 c3 q h (h / 64) (h%64) w3 (by omega) (by omega) (by omega) (by omega) hm3b.toNg
     rw [shp (s:=h) (by omega)] at hsl
     have hGl:q*2^h<B64^(n3+h / 64+1):=by
      rw [←shp (s:=h) (W:=h / 64) (p:=h%64) (by omega)]
      have a1:2^(h%64)<B64:=Nat.lt_of_lt_of_le (Nat.pow_lt_pow_right (by omega) (show h%64<64 by omega)) (by decide)
      have a2:2^(h%64)*B64^(h / 64)<B64*B64^(h / 64):=Nat.mul_lt_mul_of_pos_right a1 (Nat.pow_pos B64_pos)
      have a3:=Nat.mul_lt_mul'' hm3b.lt a2
      have e:B64^(n3+h / 64+1)=B64^n3*(B64*B64^(h / 64)):=by rw [Nat.add_assoc,Nat.pow_add,Nat.pow_succ,Nat.mul_comm (B64^(h / 64))]
      omega
     have hG0:0<q*2^h:=Nat.mul_pos hq0 (Nat.pow_pos (by omega))
     have HSL:=Lib.hid hsl
     have HGL:=Lib.hid hGl
     have HG0:=Lib.hid hG0
     have HGS:=Lib.hid hgs
     clear hm3 hm3b hg3 hf3 hb3 hq hgs hsl hGl hG0 HRT HPL
     go_wp2_with fail
     refine (HSL.out).mono ?_
     rintro e w4 ⟨g4,rfl,hl4,hb4,hg4⟩
     obtain ⟨N4,hN4⟩:∃ N4,n3+h / 64+1=N4:=⟨_,rfl⟩
     rw [hN4] at hl4 HGL
     have hN4b:N4≤50000000:=by omega
     have HTR:=Lib.hid (trim_any (some ⟨g4,0,none⟩) N4 N4 (q*2^h) w4 (by omega) ⟨HGL.out,Nat.le_refl _,hl4.rd⟩)
     have HB4:=Lib.hid ((HB3.out).trans (hb4.mono HB3.out.size))
     have hg4b:w.heap.size≤g4:=Nat.le_trans HB3.out.size hg4
     rw [hN4]
     clear hl4 hb4 hg4 hN4 HSL HGL
     go_wp2_with fail
     refine (HTR.out).mono ?_
     rintro e w5 ⟨n5,hn5,rfl,hm5,rfl⟩
     have HM5:=Lib.hid hm5
     clear hm5 HTR
     generalize q*2^h=G at *
     have HX4:=Lib.hid (HX.out.below HB4.out)
     clear HX HM1 HB1 HM2 HB2 HM3 HB3 HL HSR h2h e2 hh1 hxt
     go_wp2_with fail
     go_loopg [5] G (fun k x wr=>∃ A5 n5 c5,x=.slice A5 n5 c5∧Nm wr A5 n5 c5 k∧rt X≤k∧0<k∧n5≤50000000∧Below w.heap.size w wr∧Nm wr (some ⟨gx,ox,none⟩) n c X∧(∀ z,Value.ownBlock (.slice A5 n5 c5)=some z→w.heap.size≤z))
     case atStart =>
      exact ⟨_,n5,N4,rfl,HM5.out,HGS.out,HG0.out,by omega,HB4.out,HX4.out,fun z hz=>by simp [Value.ownBlock] at hz;omega⟩
     case round =>
      obtain ⟨A6,n6,c6,rfl,hm6,hge6,hpos6,hn6,hb6,hx6,hf6⟩:=hrel
      have hdv:=divide_any (some ⟨gx,ox,none⟩) A6 n n6 c c6 X gk wr (by omega) (by omega) hx6 hm6 hpos6
      have HDV:=Lib.hid hdv
      have HM6:=Lib.hid hm6
      have HX6:=Lib.hid hx6
      have HB6:=Lib.hid hb6
      have HF6:=Lib.hid hf6
      clear hdv hm6 hx6 hb6 hf6 HM5 HGS HG0 HB4 HX4
      go_wp2_with fail
      refine (HDV.out).mono ?_
      rintro e w6 ⟨Aq,nq,cq,Ar,nr,cr,hnq,hnr,rfl,hmq,hmr,hbq,hfq,hfr⟩
      have hq6:=(HM6.out.below hbq)
      have hHB:=Lib.hid (HB6.out.trans (hbq.mono HB6.out.size))
      have hHX:=Lib.hid (HX6.out.below hbq)
      have HPL:=Lib.hid (plus_any (.slice none 0 0) 0 A6 Aq n6 nq c6 cq gk (X / gk) w6 (by omega) (by omega) (Own.nil _ _) (Nat.zero_le _) hq6.toNg hmq.toNg (fun z hz e=>by simp [Value.ownBlock] at e) (fun z hz e=>by simp [Value.ownBlock] at e))
      have HM6:=Lib.hid hq6
      clear hmq hmr hbq hfq hfr hq6 HDV HX6 HB6
      go_wp2_with fail
      refine (HPL.out).mono ?_
      rintro e w7 ⟨A7,n7,c7,hn7,rfl,hm7,hg7,hf7⟩
      have hb7:=below_none (B:=w6.heap.size) hg7 (Nat.le_refl _)
      have hHB:=Lib.hid (hHB.out.trans (hb7.mono hHB.out.size))
      have hHX:=Lib.hid (hHX.out.below hb7)
      have HM6:=Lib.hid (HM6.out.below hb7)
      have hsr:=shiftRight_any A7 n7 c7 (gk+X / gk) 1 0 1 w7 (by omega) (by omega) (by omega) (by omega) hm7.toNg
      rw [shp (s:=1) (by omega),Nat.pow_one] at hsr
      have HSR:=Lib.hid hsr
      clear hm7 hg7 hf7 hb7 hsr HPL
      obtain ⟨N,hN⟩:∃ N,(gk+X / gk) / 2=N:=⟨_,rfl⟩
      have hge:=newton_ge (x:=X) hpos6
      have hsp:=fun h=>newton_stop (x:=X) hpos6 hge6 h
      rw [hN] at HSR hge hsp
      have HGE:=Lib.hid hge
      have HSP:=Lib.hid hsp
      clear hge hsp hN
      go_wp2_with fail
      refine (HSR.out).mono ?_
      rintro e w8 ⟨A8,n8,c8,hn8,rfl,hm8,hb8,hf8⟩
      have hF8:=Lib.hid (fun z hz=>Nat.le_trans hHB.out.size (hf8 z hz))
      have hHB:=Lib.hid (hHB.out.trans (hb8.mono hHB.out.size))
      have hHX:=Lib.hid (hHX.out.below hb8)
      have HM6:=Lib.hid (HM6.out.below hb8)
      have HM8:=Lib.hid hm8
      have HCM:=Lib.hid (compare_any A8 A6 n8 n6 c8 c6 N gk w8 (by omega) (by omega) hm8 HM6.out)
      clear hm8 hb8 hf8 HSR
      by_cases hst:gk≤N
      · obtain ⟨o,ho⟩:∃ o,ord N gk=o:=⟨_,rfl⟩
        have ho0:0≤o:=by
         rcases Nat.lt_or_ge gk N with h1 | h1
         · rw [←ho,ord_gt h1];decide
         · have:N=gk:=by omega
           rw [←ho,this,ord_eq];decide
        have hod:decide ((0:Int)≤o)=true:=decide_eq_true ho0
        rw [ho] at HCM
        have HEQ:=Lib.hid (HSP.out hst)
        clear ho ho0 HSP
        go_wp2_with fail
        refine (HCM.out).mono ?_
        rintro e w9 ⟨rfl,qn,rfl⟩
        go_wp2_with fail
        go_ret
        have e:=HEQ.out
        subst e
        refine ⟨A6,n6,c6,Nat.le_trans (Nm.le_len hHX.out.toNg HM6.out (rt_self X)) (by omega),rfl,⟨⟨HM6.out.lt,HM6.out.cap,HM6.out.rd⟩,HM6.out.top⟩,below_draws hHB.out qn,HF6.out⟩
      · have ho:ord N gk=-1:=ord_lt (by omega)
        rw [ho] at HCM
        clear ho HSP
        go_wp2_with fail
        refine (HCM.out).mono ?_
        rintro e w9 ⟨rfl,qn,rfl⟩
        go_wp2_with fail
        go_roundg N
        case measure=>omega
        case rel =>
         have h1:=rt_pos hX0
         have h2:=HGE.out
         exact ⟨A8,n8,c8,rfl,⟨⟨HM8.out.lt,HM8.out.cap,HM8.out.rd⟩,HM8.out.top⟩,h2,by omega,Nat.le_trans (Nm.le_len HM6.out.toNg HM8.out (by omega)) hn6,below_draws hHB.out qn,⟨⟨hHX.out.lt,hHX.out.cap,hHX.out.rd⟩,hHX.out.top⟩,hF8.out⟩
end Go.Proofs.YtdbhahiieokplaaGreatDoor


namespace Go.Proofs.YtdbhahiieokplaaGreatDoor
open Go.RowKit
attribute [local go_sem ↓] Go.wp_at_zero Go.wp_at_succ

theorem neg_sign {x:Int} (h:x<0):x.sign=-1:=Int.sign_eq_neg_one_of_neg h
theorem nonneg_sign {x:Int} (h:0≤x):decide (x.sign<0)=false:=by
 have:¬x.sign<0:=by
  rcases Int.lt_trichotomy x 0 with h1 | h1 | h1
  · omega
  · subst h1;decide
  · rw [Int.sign_eq_one_of_pos h1];decide
 exact decide_eq_false this

set_option maxHeartbeats 4000000 in
set_option maxRecDepth 100000 in
theorem sqrt_f {x:Int} {b br:Bool} {m mr:ByteArray} (hx:enc x=.agg #[.bool b,.string m]) (h:0≤x) (hm:m.size≤40000000) (hr:enc ((rt x.natAbs:Nat):Int)=.agg #[.bool br,.string mr]) (w:World) :
  Calls Tryz.prog 154 #[.agg #[.bool b,.string m]] w (RetB w (.tuple #[.agg #[.bool br,.string mr],.int .i64 0])):=by
 have hs:=fun V=>Sign_f hx V
 have hd:=nonneg_sign h
 generalize x.sign=sx at *
 have HS:=Lib.hid hs
 have hbv:bval m=x.natAbs:=by rw [(enc_parts hx).2,bval_mag]
 have K0:=Lib.hid (K2.start w 23 (.bool b) (.string m) (.bool false) (.string ⟨#[]⟩))
 have HR:=Lib.hid hr
 have HBV:=Lib.hid hbv
 clear hs hx h hr hbv
 go_enter Tryz.func154,Tryz.ntmps154
 go_wp2_with fail
 refine (HS.out _).mono ?_
 rintro e w1 ⟨rfl,hb1⟩
 have K1:=Lib.hid (K0.out.next hb1)
 obtain ⟨c0,c1,p0,p1⟩:=K1.out.zx
 clear hb1
 go_wp2_with fail
 obtain ⟨W,hW⟩:∃ W,W=w1.alloc arr16:=⟨_,rfl⟩
 have l1:W.heap[w1.heap.size]?=some arr16:=by rw [hW];exact heap_one _ _
 have hbW:Below w1.heap.size w1 W:=by rw [hW];exact (Below.refl _ _).alloc (Nat.le_refl _) _
 have hszW:W.heap.size=w1.heap.size+1:=by rw [hW];simp
 have hsz1:=K1.out.sz
 have c1':=(hbW.cell (p:=⟨w.heap.size,1,none⟩) (by show w.heap.size<_;omega)).trans c1
 have HI:=Lib.hid (show Is16 W w1.heap.size from ⟨_,l1,by simp⟩)
 have HU:=Lib.hid (fun V (hV:Is16 V w1.heap.size)=>unpack_any (.slice (some ⟨w1.heap.size,0,none⟩) 0 16) m 0 V (by omega) (Nat.zero_le _) hV.own)
 have HP:∀ (V:World) (A:Option Addr) (n c:Nat),n≤1000000000→Ng V A n c (rt (bval m))→Calls Tryz.prog 139 #[.bool false,.slice A n c] V (RetB V (.agg #[.bool br,.string mr])):=fun V A n c h1 h2=>by
  have h3:=pack_any false A n c _ V h1 h2
  have e:sgn false (rt (bval m))=((rt x.natAbs:Nat):Int):=by rw [HBV.out];rfl
  unfold RetZ at h3
  rw [e,HR.out] at h3
  exact h3
 have HP:=Lib.hid HP
 have HBW:=Lib.hid hbW
 have hw9:w1.alloc arr16=W:=hW.symm
 unfold arr16 at hw9
 rw [hw9]
 clear hw9 hW hbW c0 c1 p0 p1 l1
 go_region_with (first
  | (go_at_call 140;(with_reducible refine (HU.out _ ?_).mono ?_);(exact HI.out.keep rfl);rintro e w2 ⟨A1,n1,d1,hn1,rfl,hm1,hg1,hbk1⟩)
  | (go_at_call 184;(with_reducible refine (root_any _ A1 n1 d1 _ (by omega) hm1).mono ?_);rintro e w3 ⟨A2,n2,d2,hn2,rfl,hm2,hb2,hf2⟩)
  | (go_at_call 139;(with_reducible refine (HP.out _ _ _ _ (by omega) hm2.toNg).mono ?_);rintro e w4 ⟨rfl,hb4⟩;have K4:=Lib.hid (((K1.out.next (HBW.out.drew.trans (below_of_grown (B:=w1.heap.size) (g:=w1.heap.size) hg1 (by show _≤W.heap.size;omega) (Nat.le_refl _)))).next hb2).next hb4);obtain ⟨p0,p1,p2,p3⟩:=blk_cells K4.out.k1))
 all_goals
  go_wp2
  exact bodyPost_ret (v:=.tuple #[.agg #[.bool br,.string mr],.int .i64 0]) (by simp [results,Tryz.results154,go_sem,p0,p1]) rfl ⟨rfl,(K4.out.bel.setCell (by show w.heap.size≤w.heap.size+1;omega) _).setCell (by show w.heap.size≤w.heap.size+1;omega) _⟩

structure IsS (w:World) (T:TypeId) (g:Nat) (b br:Bool) (m mr:ByteArray) (wc:World):Prop where
 k:K2 w T (.bool b) (.string m) (.bool false) (.string ⟨#[]⟩) wc
 z:Zi wc g br mr
 lo:w.heap.size+2≤g
 big:g+1≤wc.heap.size
theorem IsS.next {w w1 w2:World} {T:TypeId} {g:Nat} {b br:Bool} {m mr:ByteArray} (h:IsS w T g b br m mr w1) (hb:Below w1.heap.size w1 w2):IsS w T g b br m mr w2:=by
 have:=h.big
 exact ⟨h.k.next hb,h.z.below hb (by omega),h.lo,Nat.le_trans h.big hb.size⟩
theorem IsS.cells {w w1:World} {T:TypeId} {g:Nat} {b br:Bool} {m mr:ByteArray} (h:IsS w T g b br m mr w1):w1.cell? ⟨w.heap.size,0,none⟩=some (.bool b)∧w1.cell? ⟨w.heap.size,1,none⟩=some (.string m)∧w1.cell? ⟨g,0,none⟩=some (.bool br)∧w1.cell? ⟨g,1,none⟩=some (.string mr) :=
 ⟨h.k.zx.1,h.k.zx.2.1,h.z.c0,h.z.c1⟩
theorem IsS.mk2 {w w1:World} {T:TypeId} {b br:Bool} {m mr:ByteArray} (h:K2 w T (.bool b) (.string m) (.bool false) (.string ⟨#[]⟩) w1) (U:TypeId):IsS w T w1.heap.size b br m mr (w1.alloc (.cells #[.bool br,.string mr] U)):=by
 obtain ⟨a0,a1,_,_⟩:=blk_cells (heap_one w1 (.cells #[.bool br,.string mr] U))
 exact ⟨h.next ((Below.refl _ _).alloc (Nat.le_refl _) _),⟨a0,a1⟩,h.sz,by simp⟩

def RetIs (w:World) (b:Bool) (m:ByteArray) (v:Bool) (e:Ending) (w':World):Prop:=RetB w (.tuple #[.agg #[.bool b,.string m],.bool v]) e w'

set_option maxHeartbeats 4000000 in
set_option maxRecDepth 100000 in
theorem isSquare_neg {x:Int} {b:Bool} {m:ByteArray} (hx:enc x=.agg #[.bool b,.string m]) (h:x<0) (w:World) :
  Calls Tryz.prog 203 #[.agg #[.bool b,.string m]] w (RetIs w false ⟨#[]⟩ false):=by
 have hs:=fun V=>Sign_f hx V
 rw [neg_sign h] at hs
 have HS:=Lib.hid hs
 have K0:=Lib.hid (K2.start w 23 (.bool b) (.string m) (.bool false) (.string ⟨#[]⟩))
 clear hs hx h
 go_enter Tryz.func203,Tryz.ntmps203
 go_wp2_with fail
 refine (HS.out _).mono ?_
 rintro e w1 ⟨rfl,hb1⟩
 have K1:=Lib.hid (K0.out.next hb1)
 obtain ⟨p0,p1,p2,p3⟩:=blk_cells K1.out.k1
 clear hb1
 go_wp2
 exact bodyPost_ret (v:=.tuple #[.agg #[.bool false,.string ⟨#[]⟩],.bool false]) (by simp [results,Tryz.results203,go_sem,p0,p1]) rfl ⟨rfl,by first | exact K1.out.bel | exact (K1.out.bel.setCell (by show w.heap.size≤w.heap.size+1;omega) _).setCell (by show w.heap.size≤w.heap.size+1;omega) _⟩

set_option maxHeartbeats 4000000 in
set_option maxRecDepth 100000 in
theorem isSquare_f {x:Int} {b br bp:Bool} {m mr mp:ByteArray} (hx:enc x=.agg #[.bool b,.string m]) (h:0≤x) (hm:m.size≤40000) (hr:enc ((rt x.natAbs:Nat):Int)=.agg #[.bool br,.string mr])
  (hp:enc (((rt x.natAbs:Nat):Int)*((rt x.natAbs:Nat):Int))=.agg #[.bool bp,.string mp]) (hmr:mr.size≤40000) (w:World) :
  Calls Tryz.prog 203 #[.agg #[.bool b,.string m]] w (fun e w'=>if ((rt x.natAbs:Nat):Int)*((rt x.natAbs:Nat):Int)=x then RetIs w br mr true e w' else RetIs w false ⟨#[]⟩ false e w'):=by
 have hs:=fun V=>Sign_f hx V
 have hd:=nonneg_sign h
 have HQ:=Lib.hid (fun V=>sqrt_f hx h (by omega) hr V)
 have HM:=Lib.hid (fun V=>mul_f hr hr (by omega) (by omega) hp rfl V)
 have hbv:bval m=x.natAbs:=by rw [(enc_parts hx).2,bval_mag]
 obtain ⟨v,hv,hvc⟩:=mayBeSquare_any m (by omega)
 have HV:=Lib.hid hvc
 have K0:=Lib.hid (K2.start w 23 (.bool b) (.string m) (.bool false) (.string ⟨#[]⟩))
 generalize x.sign=sx at *
 have HS:=Lib.hid hs
 clear hvc hs
 cases v
 · have hns : ¬ ((rt x.natAbs : Nat) : Int) * ((rt x.natAbs : Nat) : Int) = x := fun e => by
    have h2:=hv (rt x.natAbs) (by rw [hbv];omega)
    cases h2
   simp only [if_neg hns]
   clear hns hv hbv hx hr hp h
   go_enter Tryz.func203,Tryz.ntmps203
   go_wp2_with fail
   refine (HS.out _).mono ?_
   rintro e w1 ⟨rfl,hb1⟩
   have K1:=Lib.hid (K0.out.next hb1)
   obtain ⟨c0,c1,p0,p1⟩:=K1.out.zx
   clear hb1
   go_wp2_with fail
   refine (HV.out _).mono ?_
   rintro e w2 ⟨rfl,q,rfl⟩
   obtain ⟨p0,p1,p2,p3⟩:=blk_cells K1.out.k1
   go_wp2
   exact bodyPost_ret (v:=.tuple #[.agg #[.bool false,.string ⟨#[]⟩],.bool false]) (by simp [results,Tryz.results203,go_sem,p0,p1]) rfl ⟨rfl,by first | exact below_draws K1.out.bel q | exact ((below_draws K1.out.bel q).setCell (by show w.heap.size≤w.heap.size+1;omega) _).setCell (by show w.heap.size≤w.heap.size+1;omega) _⟩
 · clear hv hbv
   by_cases he:((rt x.natAbs:Nat):Int)*((rt x.natAbs:Nat):Int)=x
   · have h5:Value.agg #[.bool bp,.string mp]=.agg #[.bool b,.string m]:=by rw [←hp,he,hx]
     obtain ⟨rfl,rfl⟩:bp=b∧mp=m:=by injection h5 with h6;simpa using h6
     simp only [if_pos he]
     clear he hx hp hr h5 h
     go_enter Tryz.func203,Tryz.ntmps203
     go_wp2_with fail
     refine (HS.out _).mono ?_
     rintro e w1 ⟨rfl,hb1⟩
     have K1:=Lib.hid (K0.out.next hb1)
     obtain ⟨c0,c1,p0,p1⟩:=K1.out.zx
     clear hb1
     go_wp2_with fail
     refine (HV.out _).mono ?_
     rintro e w2 ⟨rfl,q,rfl⟩
     go_wp2_with fail
     refine (HQ.out _).mono ?_
     rintro e w3 ⟨rfl,hb3⟩
     have K3:=Lib.hid ((K1.out.next (below_draws (Below.refl _ w1) q)).next hb3)
     have BB:=Lib.hid (IsS.mk2 (br:=br) (mr:=mr) K3.out 23)
     have BB:=Lib.hid (BB.out.next (Below.refl _ _).drew)
     obtain ⟨t0,t1,t2,t3⟩:=BB.out.cells
     simp only [World.cell?_drew] at t0 t1 t2 t3
     clear hb3 c0 c1 p0 p1
     go_wp2_with fail
     go_region_held3 (fun w'=>w'.cell? ⟨w.heap.size,0,none⟩=some (.bool bp)∧w'.cell? ⟨w.heap.size,1,none⟩=some (.string mp)∧w'.cell? ⟨w3.heap.size,0,none⟩=some (.bool br)∧w'.cell? ⟨w3.heap.size,1,none⟩=some (.string mr))
      (first
       | go_keep
       | exact BB.out.cells)
      (first
       | (go_at_call 99;(with_reducible refine (HM.out _).mono ?_);rintro e wn ⟨rfl,hbn⟩;have BB:=Lib.hid (BB.out.next hbn)))
     obtain ⟨t0,t1,t2,t3⟩:=BB.out.cells
     obtain ⟨p0,p1,p2,p3⟩:=blk_cells BB.out.k.k1
     go_wp2
     exact bodyPost_ret (v:=.tuple #[.agg #[.bool br,.string mr],.bool true]) (by simp [results,Tryz.results203,go_sem,p0,p1]) rfl ⟨rfl,(BB.out.k.bel.setCell (by show w.heap.size≤w.heap.size+1;omega) _).setCell (by show w.heap.size≤w.heap.size+1;omega) _⟩
   · have hne:¬(bp=b∧mp=m):=fun ⟨h1,h2⟩=>he (by rw [←enc_sgn hp,←enc_sgn hx,h1,h2])
     have e1:b=false:=by rw [(enc_parts hx).1];exact decide_eq_false (by omega)
     have e2:bp=false:=by rw [(enc_parts hp).1];exact decide_eq_false (by have:=Int.natCast_nonneg (rt x.natAbs*rt x.natAbs);rw [Int.natCast_mul] at this;omega)
     simp only [if_neg he]
     clear he hx hp hr
     subst e1
     subst e2
     have hne2:¬mp=m:=fun e=>hne ⟨rfl,e⟩
     clear hne
     clear h
     go_enter Tryz.func203,Tryz.ntmps203
     go_wp2_with fail
     refine (HS.out _).mono ?_
     rintro e w1 ⟨rfl,hb1⟩
     have K1:=Lib.hid (K0.out.next hb1)
     obtain ⟨c0,c1,p0,p1⟩:=K1.out.zx
     clear hb1
     go_wp2_with fail
     refine (HV.out _).mono ?_
     rintro e w2 ⟨rfl,q,rfl⟩
     go_wp2_with fail
     refine (HQ.out _).mono ?_
     rintro e w3 ⟨rfl,hb3⟩
     have K3:=Lib.hid ((K1.out.next (below_draws (Below.refl _ w1) q)).next hb3)
     have BB:=Lib.hid (IsS.mk2 (br:=br) (mr:=mr) K3.out 23)
     have BB:=Lib.hid (BB.out.next (Below.refl _ _).drew)
     obtain ⟨t0,t1,t2,t3⟩:=BB.out.cells
     simp only [World.cell?_drew] at t0 t1 t2 t3
     clear hb3 c0 c1 p0 p1
     have hnt:¬mp.data.toList=m.data.toList:=fun e=>hne2 (by cases mp;cases m;simp at e;rw [e])
     have hnl:(mp.data.toList==m.data.toList)=false:=by simpa using hnt
     have hnk:(mp.toList==m.toList)=false:=by rw [ByteArray.toList_eq,ByteArray.toList_eq];exact hnl
     clear hnt hne2
     go_wp2_with fail
     go_region_held3 (fun w'=>w'.cell? ⟨w.heap.size,0,none⟩=some (.bool false)∧w'.cell? ⟨w.heap.size,1,none⟩=some (.string m)∧w'.cell? ⟨w3.heap.size,0,none⟩=some (.bool br)∧w'.cell? ⟨w3.heap.size,1,none⟩=some (.string mr))
      (first
       | go_keep
       | exact BB.out.cells)
      (first
       | (go_at_call 99;(with_reducible refine (HM.out _).mono ?_);rintro e wn ⟨rfl,hbn⟩;have BB:=Lib.hid (BB.out.next hbn)))
     obtain ⟨p0,p1,p2,p3⟩:=blk_cells BB.out.k.k1
     go_wp2
     exact bodyPost_ret (v:=.tuple #[.agg #[.bool false,.string ⟨#[]⟩],.bool false]) (by simp [results,Tryz.results203,go_sem,p0,p1]) rfl ⟨rfl,by first | exact BB.out.k.bel | exact (BB.out.k.bel.setCell (by show w.heap.size≤w.heap.size+1;omega) _).setCell (by show w.heap.size≤w.heap.size+1;omega) _⟩
end Go.Proofs.YtdbhahiieokplaaGreatDoor


namespace Go.Proofs.YtdbhahiieokplaaGreatDoor
open Go.RowKit
attribute [local go_sem ↓] Go.wp_at_zero Go.wp_at_succ

theorem below_step {B:Nat} {w w1 w2:World} (h:Below B w w1) (hB:B≤w.heap.size) (hb:Below w1.heap.size w1 w2):Below B w w2:=h.trans (hb.mono (Nat.le_trans hB h.size))
theorem below_new (w1:World) (o:Obj):Below w1.heap.size w1 (w1.alloc o):=(Below.refl _ _).alloc (Nat.le_refl _) _
end Go.Proofs.YtdbhahiieokplaaGreatDoor


namespace Go.Proofs.YtdbhahiieokplaaGreatDoor
open Go.RowKit

def gF (V c k j:Nat):Nat:=if j<k then D B64 (V*G19+c) j else D B64 V j

end Go.Proofs.YtdbhahiieokplaaGreatDoor


namespace Go.Proofs.YtdbhahiieokplaaGreatDoor

end Go.Proofs.YtdbhahiieokplaaGreatDoor


namespace Go.Proofs.YtdbhahiieokplaaGreatDoor
open Go.RowKit

end Go.Proofs.YtdbhahiieokplaaGreatDoor


namespace Go.Proofs.YtdbhahiieokplaaGreatDoor
open Go.RowKit
attribute [local go_sem ↓] Go.wp_at_zero Go.wp_at_succ

structure B3 (w:World) (T:TypeId) (a0 a1 b0 b1 c0 c1:Value) (w1:World):Prop where
 k0:w1.heap[w.heap.size]?=some (.cells #[a0,a1] T (0,0))
 k1:w1.heap[w.heap.size+1]?=some (.cells #[b0,b1] T (0,0))
 k2:w1.heap[w.heap.size+2]?=some (.cells #[c0,c1] T (0,0))
 sz:w.heap.size+3≤w1.heap.size
 bel:Below w.heap.size w w1

section
variable {w w1 w2:World} {T:TypeId} {a0 a1 b0 b1 c0 c1:Value}
theorem B3.start (w:World) (T:TypeId) (a0 a1 b0 b1 c0 c1:Value):B3 w T a0 a1 b0 b1 c0 c1 (((w.alloc (.cells #[a0,a1] T)).alloc (.cells #[b0,b1] T)).alloc (.cells #[c0,c1] T)):=by
 obtain ⟨k1,k2,k3⟩:=heap_three_all w (.cells #[a0,a1] T) (.cells #[b0,b1] T) (.cells #[c0,c1] T)
 exact ⟨k1,k2,k3,by simp,(((Below.refl _ _).alloc (Nat.le_refl _) _).alloc (by simp) _).alloc (by simp<;>omega) _⟩
theorem B3.next (h:B3 w T a0 a1 b0 b1 c0 c1 w1) (hb:Below w1.heap.size w1 w2):B3 w T a0 a1 b0 b1 c0 c1 w2:=by
 have hs:=h.sz
 refine ⟨(hb.block _ (by omega)).trans h.k0,(hb.block _ (by omega)).trans h.k1,(hb.block _ (by omega)).trans h.k2,?_,h.bel.trans (hb.mono h.bel.size)⟩
 have:=hb.size
 omega
end

end Go.Proofs.YtdbhahiieokplaaGreatDoor


namespace Go.Proofs.YtdbhahiieokplaaGreatDoor
open Go.RowKit

structure P3 (w:World) (T:TypeId) (ba bt bx:Nat) (a0 a1 t0 t1 x0 x1:Value) (wr:World):Prop where
 ka:wr.heap[ba]?=some (.cells #[a0,a1] T (0,0))
 kt:wr.heap[bt]?=some (.cells #[t0,t1] T (0,0))
 kx:wr.heap[bx]?=some (.cells #[x0,x1] T (0,0))
 la:w.heap.size≤ba
 lt:ba<bt
 lx:bt<bx
 sz:bx<wr.heap.size
 bel:Below w.heap.size w wr

theorem P3.next {w:World} {T:TypeId} {ba bt bx:Nat} {a0 a1 t0 t1 x0 x1:Value} {wr w2:World} (h:P3 w T ba bt bx a0 a1 t0 t1 x0 x1 wr) (hb:Below wr.heap.size wr w2):P3 w T ba bt bx a0 a1 t0 t1 x0 x1 w2:=by
 have h1:=h.la;have h2:=h.lt;have h3:=h.lx;have h4:=h.sz;have h5:=hb.size
 exact ⟨(hb.block _ (by omega)).trans h.ka,(hb.block _ (by omega)).trans h.kt,(hb.block _ (by omega)).trans h.kx,h1,h2,h3,by omega,h.bel.trans (hb.mono (by omega))⟩

end Go.Proofs.YtdbhahiieokplaaGreatDoor


namespace Go.Proofs.YtdbhahiieokplaaGreatDoor
open Go.RowKit

end Go.Proofs.YtdbhahiieokplaaGreatDoor


namespace Go.Proofs.YtdbhahiieokplaaGreatDoor
open Go.RowKit

theorem enc_nought:enc 0=.agg #[.bool false,.string ⟨#[]⟩]:=by
 unfold enc mag
 rw [show (0:Int).natAbs=0 from rfl,magL_zero]
 rfl

end Go.Proofs.YtdbhahiieokplaaGreatDoor
