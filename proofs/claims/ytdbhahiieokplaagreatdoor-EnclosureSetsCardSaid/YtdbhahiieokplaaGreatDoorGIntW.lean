import Derived.Test.YtdbhahiieokplaaGreatDoorGGcE
import Derived.Test.YtdbhahiieokplaaGreatDoorGGcA
import Derived.Deep.LoopGhost
import Derived.Test.YtdbhahiieokplaaGreatDoorGRefL
import Derived.Test.YtdbhahiieokplaaGreatDoorGRefI
import Derived.WalkLawsBesides
set_option linter.unusedSimpArgs false
set_option linter.unusedVariables false

namespace Go.Proofs.YtdbhahiieokplaaGreatDoor
open Go.RowKit
attribute [local go_sem ↓] Go.wp_at_zero Go.wp_at_succ

def RetGc (W:World) (base V N:Nat) (e:Ending) (w:World):Prop:=∃ A n c,n≤N∧e=.returned (.slice A n c)∧Ng w A n c V∧Below base W w

theorem reduce_at (A B:Option Addr) (base n m c d X Y:Nat) (w:World) (hn:n≤100000000) (hm:2≤m) (hx:Ow w base A n c X) (hy:Ow w base B m d Y) (hle:Y≤X) (hne:∀ a b,A=some a→B=some b→a.block≠b.block) :
  Calls Tryz.prog 175 #[.slice A n c,.slice B m d] w (RetRd w base X Y n):=by
 have hmn:m≤n:=Nm.le_len hx.nm.toNg hy.nm hle
 obtain ⟨g1,rfl,_⟩:=hx.own.lies (by omega)
 obtain ⟨g2,rfl,_⟩:=hy.own.lies (by omega)
 exact reduce_any g1 g2 base n m c d X Y w hn hm hx hy hle (hne _ _ rfl rfl)

theorem Ow.drew {w w':World} {base:Nat} {A:Option Addr} {n c V:Nat} (h:Ow w base A n c V) (hd:Drew w w'):Ow w' base A n c V:=by
 obtain ⟨q,rfl⟩:=hd
 exact ⟨h.own.drewN q,h.lt,h.top⟩

structure Gl (W:World) (base N G k:Nat) (A1:Option Addr) (n1 c1:Nat) (A2:Option Addr) (n2 c2 R S:Nat) (w:World):Prop where
 l1:n1≤N
 l2:n2≤N
 o1:Ow w base A1 n1 c1 R
 o2:Ow w base A2 n2 c2 S
 ne:∀ a b,A1=some a→A2=some b→a.block≠b.block
 le:S≤R
 gc:Nat.gcd R S=G
 me:R+S≤k
 bel:Below base W w

set_option maxHeartbeats 8000000 in
set_option maxRecDepth 100000 in
theorem gcd_any (A B:Option Addr) (base N n m c d X Y:Nat) (w:World) (hN:N≤100000000) (hn:n≤N) (hm:m≤N) (hx:Ow w base A n c X) (hy:Ow w base B m d Y) (hne:∀ a b,A=some a→B=some b→a.block≠b.block) (hT:Tab w) (hbT:1<base) (hbw:base≤w.heap.size) :
  Calls Tryz.prog 147 #[.slice A n c,.slice B m d] w (RetGc w base (Nat.gcd X Y) (N+1)):=by
 have HC:=Lib.hid (compare_any A B n m c d X Y w (by omega) (by omega) hx.nm hy.nm)
 have HX:=Lib.hid hx
 have HY:=Lib.hid hy
 have HNE:=Lib.hid hne
 have HT:=Lib.hid hT
 obtain ⟨o,ho⟩:∃ o,ord X Y=o:=⟨_,rfl⟩
 rw [ho] at HC
 clear hx hy hne hT
 have hstart:∀ w1,Drew w w1→(o<0→Gl w base N (Nat.gcd X Y) (X+Y) B m d A n c Y X w1)∧(¬o<0→Gl w base N (Nat.gcd X Y) (X+Y) A n c B m d X Y w1):=fun w1 hd=>by
  refine ⟨fun h=>?_,fun h=>?_⟩
  · have hlt : X < Y := by
     rcases Nat.lt_or_ge X Y with h1 | h1
     · exact h1
     · obtain ⟨o',h2,h3⟩:=ord_ge h1
       omega
    exact ⟨hm,hn,HY.out.drew hd,HX.out.drew hd,fun a b ha hb=>Ne.symm (HNE.out b a hb ha),by omega,Nat.gcd_comm _ _,by omega,hd.below _⟩
  · have hle : Y ≤ X := by
     rcases Nat.lt_or_ge X Y with h1 | h1
     · rw [ord_lt h1] at ho
       omega
     · exact h1
    exact ⟨hn,hm,HX.out.drew hd,HY.out.drew hd,HNE.out,hle,rfl,by omega,hd.below _⟩
 have HST:=Lib.hid hstart
 clear hstart ho
 generalize Nat.gcd X Y=G at *
 by_cases ho0:o<0
 all_goals
  go_enter Tryz.func147,Tryz.ntmps147
  go_wp2_with fail
  refine HC.out.mono ?_
  rintro e w1 ⟨rfl,hd⟩
  have HD:=Lib.hid hd
  clear hd
  go_wp2_with fail
  go_loopg [0,1] (X+Y) (fun k vx vy wr=>∃ A1 n1 c1 A2 n2 c2 R S,vx=.slice A1 n1 c1∧vy=.slice A2 n2 c2∧Gl w base N G k A1 n1 c1 A2 n2 c2 R S wr)
  case atStart =>
   first
   | exact ⟨_,_,_,_,_,_,_,_,rfl,rfl,(HST.out w1 HD.out).1 ho0⟩
   | exact ⟨_,_,_,_,_,_,_,_,rfl,rfl,(HST.out w1 HD.out).2 ho0⟩
  case round =>
   obtain ⟨A1,n1,c1,A2,n2,c2,R,S,rfl,rfl,hgl⟩:=hrel
   have b1:=hgl.l1
   have b2:=hgl.l2
   have hws:=hgl.bel.size
   by_cases h2:2≤n2
   · have HRD:=Lib.hid (reduce_at A1 A2 base n1 n2 c1 c2 R S wr (by omega) h2 hgl.o1 hgl.o2 hgl.le hgl.ne)
     have HGL:=Lib.hid hgl
     have h2d:decide ((1:Int)<(n2:Int))=true:=by simp;omega
     clear hgl
     go_wp2_with fail
     refine HRD.out.mono ?_
     rintro e w2 ⟨B1,m1,d1,B2,m2,d2,R',S',rfl,k1,k2,k3,k4,k5,k6,k7,k8,k9⟩
     have HNEW:=Lib.hid (show Gl w base N G (R'+S') B1 m1 d1 B2 m2 d2 R' S' w2 from ⟨by omega,by omega,k3,k4,k5,k6,k7.trans HGL.out.gc,Nat.le_refl _,HGL.out.bel.trans k9⟩)
     have hmm:R'+S'<gk:=by have:=HGL.out.me;omega
     clear k3 k4 k5 k6 k7 k8 k9
     go_wp2_with fail
     go_roundg (R'+S')
     case measure=>exact hmm
     case rel=>exact ⟨_,_,_,_,_,_,_,_,rfl,rfl,HNEW.out⟩
   · have h2d:decide ((1:Int)<(n2:Int))=false:=by simp;omega
     have HGL:=Lib.hid hgl
     clear hgl
     by_cases h0:n2=0
     · have hS:S=0:=HGL.out.o2.nm.zero.1 h0
       have hRG:R=G:=by have:=HGL.out.gc;rw [hS,Nat.gcd_zero_right] at this;exact this
       have HRG:=Lib.hid hRG
       have h0d:((n2:Int)==0)=true:=by simp;omega
       clear hS hRG h0
       go_wp2
       go_ret
       exact ⟨A1,n1,c1,by omega,rfl,by rw [←HRG.out];exact HGL.out.o1.nm.toNg,HGL.out.bel⟩
     · obtain rfl:n2=1:=by omega
       obtain ⟨g2,e2,lS,_,_,_,_⟩:=HGL.out.o2.own.lies (by omega)
       subst e2
       have lg2:=lS.lt
       have hSb:S<B64:=by have:=HGL.out.o2.lt;rw [Nat.pow_one] at this;exact this
       have hS0:0<S:=by have:=HGL.out.o2.top (by omega);rw [Nat.sub_self,Nat.pow_zero] at this;omega
       have hD0:D B64 S 0=S:=by unfold D;rw [Nat.pow_zero,Nat.div_one,Nat.mod_eq_of_lt hSb]
       have cS:=lS.cell (i:=0) (by omega)
       rw [hD0] at cS
       rw [B64_eq] at hSb
       have HDW:=Lib.hid (divideWord_any A1 n1 c1 R S wr (by omega) hS0 hSb HGL.out.o1.nm.toNg)
       have hmod:=Nat.mod_lt R hS0
       have HG:=Lib.hid (show Nat.gcd S (R%S)=G by rw [Nat.gcd_comm,←Nat.gcd_rec,Nat.gcd_comm];exact HGL.out.gc)
       have hGb:G<18446744073709551616:=by
        have h9:=Nat.gcd_le_left (R%S) hS0
        rw [HG.out] at h9
        omega
       have hTw:∀ V:World,Below base wr V→Tab V:=fun V hV=>(HT.out.below HGL.out.bel hbT).below hV hbT
       have HTW:=Lib.hid hTw
       clear lS hD0 hTw
       generalize R%S=M at *
       go_wp2_with fail
       refine HDW.out.mono ?_
       rintro e w2 ⟨Aq,nq,cq,hnq,rfl,hmq,hb2,hfq⟩
       have cS2:=(hb2.cell (p:=⟨g2,0,none⟩) lg2).trans cS
       have hs2:=hb2.size
       have HWG:=Lib.hid (wordGcd_any S M hSb (by omega) w2 (HTW.out w2 (hb2.mono (by omega))))
       rw [HG.out] at HWG
       have HB2:=Lib.hid (HGL.out.bel.trans (hb2.mono (show base≤wr.heap.size by omega)))
       clear hmq hb2 hfq cS
       go_wp2_with fail
       refine HWG.out.mono ?_
       rintro e w3 ⟨rfl,rfl⟩
       go_wp2
       go_ret
       exact ⟨_,1,1,by omega,rfl,⟨by rw [Nat.pow_one,B64_eq];exact hGb,Nat.le_refl _,rd_one _ _ _ G _ (heap_one _ _) (by unfold D;rw [Nat.pow_zero,Nat.div_one,B64_eq,Nat.mod_eq_of_lt hGb])⟩,HB2.out.alloc (by omega) _⟩
end Go.Proofs.YtdbhahiieokplaaGreatDoor


namespace Go.Proofs.YtdbhahiieokplaaGreatDoor
open Go.RowKit
attribute [local go_sem ↓] Go.wp_at_zero Go.wp_at_succ

theorem Tab.lt {w:World} (h:Tab w):1<w.heap.size:=by
 have h0:=h 0 (by decide)
 rcases Nat.lt_or_ge 1 w.heap.size with h1 | h1
 · exact h1
 · simp [World.cell?,Array.getElem?_eq_none h1] at h0

theorem Is16.ownB {w:World} {g base:Nat} (h:Is16 w g) (hb:base≤g):Own w base (.slice (some ⟨g,0,none⟩) 0 16) 0 []:=by
 obtain ⟨cur,hg,hs⟩:=h
 exact Own.start hg hb hs (by simp [maxLen])

theorem row_val {g:Nat}:(Value.slice (some ⟨g,0,none⟩) 0 16).ownBlock=some g:=rfl

theorem gcd_after {W w2 w3:World} {g1:Nat} (A1 A2:Option Addr) (n1 d1 n2 d2 X Y:Nat) (hs:g1+2≤W.heap.size) (hn1:n1≤60000000) (hn2:n2≤60000000)
  (hm1:Nm w2 A1 n1 d1 X) (ho1:Own w2 g1 (.slice A1 n1 d1) n1 (nums .u64 (D B64 X) n1)) (hg2:W.grownBy w2 (Value.slice (some ⟨g1,0,none⟩) 0 16).ownBlock)
  (hbk1:Value.ownBlock (.slice A1 n1 d1)=(Value.slice (some ⟨g1,0,none⟩) 0 16).ownBlock∨∀ k,Value.ownBlock (.slice A1 n1 d1)=some k→W.heap.size≤k)
  (hm2:Nm w3 A2 n2 d2 Y) (ho2:Own w3 g1 (.slice A2 n2 d2) n2 (nums .u64 (D B64 Y) n2)) (hg3:w2.grownBy w3 (Value.slice (some ⟨g1+1,0,none⟩) 0 16).ownBlock)
  (hbk2:Value.ownBlock (.slice A2 n2 d2)=(Value.slice (some ⟨g1+1,0,none⟩) 0 16).ownBlock∨∀ k,Value.ownBlock (.slice A2 n2 d2)=some k→w2.heap.size≤k) (hT:Tab W) (hb0:1<g1) :
  Calls Tryz.prog 147 #[.slice A1 n1 d1,.slice A2 n2 d2] w3 (RetGc w3 g1 (Nat.gcd X Y) 60000001):=by
 rw [row_val] at hg2 hbk1 hg3 hbk2
 have hsz:=hg2.size
 have hsz3:=hg3.size
 have hb1:∀ k,Value.ownBlock (.slice A1 n1 d1)=some k→k≠g1+1∧k<w2.heap.size∧(k=g1∨W.heap.size≤k):=fun k hk=>by
  have h1:=(ho1.lt k hk).2
  rcases hbk1 with h | h
  · rw [h] at hk
    injection hk with hk
    omega
  · have:=h k hk
    omega
 have hb2:∀ k,Value.ownBlock (.slice A2 n2 d2)=some k→k=g1+1∨w2.heap.size≤k:=fun k hk=>by
  rcases hbk2 with h | h
  · rw [h] at hk
    injection hk with hk
    omega
  · exact .inr (h k hk)
 have ho1':Own w3 g1 (.slice A1 n1 d1) n1 (nums .u64 (D B64 X) n1):=ho1.at_ fun g hg=>hg3.block g (hb1 g hg).2.1 (fun e=>(hb1 g hg).1 (by injection e))
 refine gcd_any A1 A2 g1 60000000 n1 n2 d1 d2 X Y w3 (by omega) hn1 hn2 ⟨ho1',hm1.lt,hm1.top⟩ ⟨ho2,hm2.lt,hm2.top⟩ (fun a b ha hb e=>?_) ?_ hb0 (by omega)
 · subst ha hb
   have k1:=hb1 a.block rfl
   have k2:=hb2 b.block rfl
   omega
 · exact (hT.below (below_of_grown (B:=g1) hg2 (by omega) (Nat.le_refl _)) hb0).below (below_of_grown (B:=g1) hg3 (by omega) (by omega)) hb0

set_option maxHeartbeats 4000000 in
set_option maxRecDepth 100000 in
theorem gcd_short (na nb:Bool) (a b:ByteArray) (ha:a.size≤8) (hb:b.size≤8) (w:World) (hT:Tab w) :
  Calls Tryz.prog 115 #[.agg #[.bool na,.string a],.agg #[.bool nb,.string b]] w (RetZ w ((Nat.gcd (bval a) (bval b):Nat):Int)):=by
 have la:=bval_64 ha
 have lb:=bval_64 hb
 have hgl:Nat.gcd (bval a) (bval b)<18446744073709551616:=by
  rcases Nat.eq_zero_or_pos (bval a) with h | h
  · rw [h,Nat.gcd_zero_left];exact lb
  · exact Nat.lt_of_le_of_lt (Nat.gcd_le_left _ h) la
 have hlt:=hT.lt
 have HW:=Lib.hid (fun V=>words_yes na nb a b ha hb V)
 have HG:=Lib.hid (fun (V:World) (hV:Below w.heap.size w V)=>wordGcd_any (bval a) (bval b) la lb V (hT.below hV hlt))
 obtain ⟨G,hG⟩:∃ G,Nat.gcd (bval a) (bval b)=G:=⟨_,rfl⟩
 rw [hG] at HG hgl ⊢
 obtain ⟨bz,mz,hz⟩:=enc_form (G:Int)
 have hp:=fun V=>packWord_any false G hgl V
 have e1:sgn false G=(G:Int):=rfl
 unfold RetZ at hp
 rw [e1,hz] at hp
 have HP:=Lib.hid hp
 have HZ:=Lib.hid hz
 clear hT la lb hG hp hz e1 hgl
 generalize bval a=X at *
 generalize bval b=Y at *
 go_enter Tryz.func115,Tryz.ntmps115
 go_wp2_with fail
 refine (HW.out _).mono ?_
 rintro e w1 ⟨rfl,hb1⟩
 obtain ⟨k1,k2,k3⟩:=heap_three_all w (.cells #[.bool na,.string a] 23) (.cells #[.bool nb,.string b] 23) (.cells #[.bool false,.string ⟨#[]⟩] 23)
 have HK3:=Lib.hid k3
 have hW0:Below w.heap.size w w1:=(Below.trans ((((Below.refl _ _).alloc (Nat.le_refl _) _).alloc (by simp) _).alloc (by simp<;>omega) _) (hb1.mono (B':=w.heap.size) (by simp<;>omega)))
 have HW0:=Lib.hid hW0
 have HB1:=Lib.hid hb1
 clear k1 k2 k3 hb1 hW0
 go_wp2_with fail
 refine (HG.out _ HW0.out).mono ?_
 rintro e w2 ⟨rfl,rfl⟩
 go_wp2_with fail
 refine (HP.out _).mono ?_
 rintro e w5 ⟨rfl,hb5⟩
 have hall:=HB1.out.trans (hb5.mono HB1.out.size)
 obtain ⟨p0,p1,g0,g1⟩:=res2 (g:=w.heap.size+2) (by exact HK3.out) hall (by simp<;>omega)
 have HALL:=Lib.hid (HW0.out.trans (hb5.mono HW0.out.size))
 clear hb5 hall
 go_wp2
 refine bodyPost_ret (v:=.agg #[.bool bz,.string mz]) (by simp [results,Tryz.results115,go_sem,p0,p1]) rfl ⟨by rw [HZ.out],(HALL.out.setCell (by show w.heap.size≤w.heap.size+2;omega) _).setCell (by show w.heap.size≤w.heap.size+2;omega) _⟩

set_option maxHeartbeats 8000000 in
set_option maxRecDepth 100000 in
theorem gcd_long (na nb:Bool) (a b:ByteArray) (ha:a.size≤400000000) (hb:b.size≤400000000) (h:8<a.size∨8<b.size) (w:World) (hT:Tab w) :
  Calls Tryz.prog 115 #[.agg #[.bool na,.string a],.agg #[.bool nb,.string b]] w (RetZ w ((Nat.gcd (bval a) (bval b):Nat):Int)):=by
 have hlt:=hT.lt
 have HTT:=Lib.hid hT
 obtain ⟨bz,mz,hz⟩:=enc_form ((Nat.gcd (bval a) (bval b):Nat):Int)
 have hp:∀ (V:World) (A:Option Addr) (n c:Nat),n≤1000000000→Ng V A n c (Nat.gcd (bval a) (bval b))→Calls Tryz.prog 139 #[.bool false,.slice A n c] V (fun e w'=>e=.returned (.agg #[.bool bz,.string mz])∧Below V.heap.size V w'):=fun V A n c h1 h2=>by
  have h3:=pack_any false A n c _ V h1 h2
  unfold RetZ at h3
  have e:sgn false (Nat.gcd (bval a) (bval b))=((Nat.gcd (bval a) (bval b):Nat):Int):=rfl
  rw [e,hz] at h3
  exact h3
 have HP:=Lib.hid hp
 have HZ:=Lib.hid hz
 clear hp hz hT
 go_enter Tryz.func115,Tryz.ntmps115
 go_wp2_with fail
 refine (words_no na nb a b h _).mono ?_
 rintro e w1 ⟨rfl,hb1⟩
 obtain ⟨k1,k2,k3⟩:=heap_three_all w (.cells #[.bool na,.string a] 23) (.cells #[.bool nb,.string b] 23) (.cells #[.bool false,.string ⟨#[]⟩] 23)
 have HK3:=Lib.hid k3
 obtain ⟨c0,c1,_,_⟩:=res2 (g:=w.heap.size) (by exact k1) hb1 (by simp<;>omega)
 obtain ⟨c2,c3,_,_⟩:=res2 (g:=w.heap.size+1) (by exact k2) hb1 (by simp<;>omega)
 have hsz:w.heap.size+3≤w1.heap.size:=by have:=hb1.size;simp at this;omega
 have hW0:Below w.heap.size w w1:=(Below.trans ((((Below.refl _ _).alloc (Nat.le_refl _) _).alloc (by simp) _).alloc (by simp<;>omega) _) (hb1.mono (B':=w.heap.size) (by simp<;>omega)))
 have HW0:=Lib.hid hW0
 have HB1:=Lib.hid hb1
 clear k1 k2 k3 hb1 hW0
 obtain ⟨W,hW⟩:∃ W,W=(w1.alloc arr16).alloc arr16:=⟨_,rfl⟩
 have l1:W.heap[w1.heap.size]?=some arr16:=by rw [hW];exact heap_fst _ _ _
 have l2:W.heap[w1.heap.size+1]?=some arr16:=by rw [hW];exact heap_two _ _ _
 have hbW:Below w1.heap.size w1 W:=by rw [hW];exact ((Below.refl _ _).alloc (Nat.le_refl _) _).alloc (by simp) _
 have hszW:W.heap.size=w1.heap.size+2:=by rw [hW];simp
 have c1':=(hbW.cell (p:=⟨w.heap.size,1,none⟩) (by show w.heap.size<_;omega)).trans c1
 have c3':=(hbW.cell (p:=⟨w.heap.size+1,1,none⟩) (by show w.heap.size+1<_;omega)).trans c3
 have HU1:=Lib.hid (fun V (hV:Is16 V w1.heap.size) (hs:w1.heap.size≤V.heap.size)=>unpack_own (.slice (some ⟨w1.heap.size,0,none⟩) 0 16) a w1.heap.size V (by omega) hs (hV.ownB (Nat.le_refl _)))
 have HU2:=Lib.hid (fun V (hV:Is16 V (w1.heap.size+1)) (hs:w1.heap.size≤V.heap.size)=>unpack_own (.slice (some ⟨w1.heap.size+1,0,none⟩) 0 16) b w1.heap.size V (by omega) hs (hV.ownB (by omega)))
 have IA:=Lib.hid (show Is16 W w1.heap.size from ⟨_,l1,by simp⟩)
 have IB:=Lib.hid (show Is16 W (w1.heap.size+1) from ⟨_,l2,by simp⟩)
 have HW:=Lib.hid hW
 have HBW:=Lib.hid hbW
 have HSW:=Lib.hid hszW
 have HBG:=Lib.hid (fun (w2 w3:World) (h2:W.drew.grownBy w2 (Value.slice (some ⟨w1.heap.size,0,none⟩) 0 16).ownBlock) (h3:w2.grownBy w3 (Value.slice (some ⟨w1.heap.size+1,0,none⟩) 0 16).ownBlock)=>show Below w1.heap.size W w3 from
  ((Below.refl _ W).drew.trans (below_of_grown (B:=w1.heap.size) (g:=w1.heap.size) h2 (by show _≤W.heap.size;omega) (Nat.le_refl _))).trans (below_of_grown (B:=w1.heap.size) (g:=w1.heap.size+1) h3 (by have:=h2.size;simp at this;omega) (by omega)))
 have HTW:=Lib.hid (show Tab W from (HTT.out.below HW0.out hlt).below hbW (by omega))
 clear l1 l2 hbW hszW c0 c1 c2 c3 hW
 go_wp2_with fail
 have hw9:(w1.alloc arr16).alloc arr16=W:=HW.out.symm
 unfold arr16 at hw9
 rw [hw9]
 clear hw9
 have hp1:w.heap.size<W.heap.size:=by have:=HSW.out;omega
 have hp2:w.heap.size+1<W.heap.size:=by have:=HSW.out;omega
 go_region_held3 (fun w'=>w'.cell? ⟨w.heap.size,1,none⟩=some (.string a)∧w'.cell? ⟨w.heap.size+1,1,none⟩=some (.string b))
  (first
   | exact ⟨t3 _ _,t4 _ _⟩
   | exact ⟨t1,t2⟩
   | exact ⟨u1,u2⟩
   | exact ⟨y1,y2⟩
   | exact ⟨z1,z2⟩
   | go_keep)
  (first
   | (go_at_call 140;(with_reducible refine (HU1.out _ ?_ ?_).mono ?_);(exact IA.out.keep rfl);(show w1.heap.size≤W.heap.size;have:=HSW.out;omega);rintro e w2 ⟨A1,n1,d1,hn1,rfl,hm1,hg2,hbk1,ho1⟩;have z1:=keep_cell (W:=W.drew) (g:=w1.heap.size) hg2 hp1 (by omega) c1';have z2:=keep_cell (W:=W.drew) (g:=w1.heap.size) hg2 hp2 (by omega) c3';have hq1:=Nat.lt_of_lt_of_le hp1 hg2.size;have hq2:=Nat.lt_of_lt_of_le hp2 hg2.size)
   | (go_at_call 140;(with_reducible refine (HU2.out _ ?_ ?_).mono ?_);(exact keep_16 (W:=W.drew) (g:=w1.heap.size) hg2 (by omega) (IB.out.keep rfl));(have h8:=hg2.size;have h9:=HSW.out;simp at h8;omega);rintro e w3 ⟨A2,n2,d2,hn2,rfl,hm2,hg3,hbk2,ho2⟩;have y1:=keep_cell (g:=w1.heap.size+1) hg3 hq1 (by omega) z1;have y2:=keep_cell (g:=w1.heap.size+1) hg3 hq2 (by omega) z2;have hb3:=HBG.out w2 w3 hg2 hg3)
   | (go_at_call 147;(with_reducible refine (gcd_after (W:=W.drew) (w2:=w2) (g1:=w1.heap.size) A1 A2 n1 d1 n2 d2 (bval a) (bval b) ?_ ?_ ?_ hm1 ho1 hg2 hbk1 hm2 ho2 hg3 hbk2 ?_ ?_).mono ?_);(show _≤W.heap.size;have:=HSW.out;omega);(omega);(omega);(exact HTW.out);(omega);rintro e w4 ⟨A4,n4,d4,hn4,rfl,hm4,hb4⟩;have u1:=(hb4.cell (p:=⟨w.heap.size,1,none⟩) (by show w.heap.size<_;omega)).trans y1;have u2:=(hb4.cell (p:=⟨w.heap.size+1,1,none⟩) (by show w.heap.size+1<_;omega)).trans y2)
   | (go_at_call 139;(with_reducible refine (HP.out _ A4 n4 d4 ?_ hm4).mono ?_);(omega);rintro e w5 ⟨rfl,hb5⟩;have hb45:=(hb3.trans hb4).trans (hb5.mono (show w1.heap.size≤w4.heap.size by have:=hb3.size;have:=hb4.size;have:=HSW.out;omega));have t1:=(hb5.cell (p:=⟨w.heap.size,1,none⟩) (by show w.heap.size<_;have:=hb3.size;have:=hb4.size;have:=HSW.out;omega)).trans u1;have t2:=(hb5.cell (p:=⟨w.heap.size+1,1,none⟩) (by show w.heap.size+1<_;have:=hb3.size;have:=hb4.size;have:=HSW.out;omega)).trans u2;have t3:=fun x y=>((((Below.refl (w.heap.size+2) w5).setCell (p:=⟨w.heap.size+2,0,none⟩) (Nat.le_refl _) x).setCell (p:=⟨w.heap.size+2,1,none⟩) (Nat.le_refl _) y).cell (p:=⟨w.heap.size,1,none⟩) (by show w.heap.size<_;omega)).trans t1;have t4:=fun x y=>((((Below.refl (w.heap.size+2) w5).setCell (p:=⟨w.heap.size+2,0,none⟩) (Nat.le_refl _) x).setCell (p:=⟨w.heap.size+2,1,none⟩) (Nat.le_refl _) y).cell (p:=⟨w.heap.size+1,1,none⟩) (by show w.heap.size+1<_;omega)).trans t2;have hall:=HB1.out.trans ((HBW.out.trans hb45).mono HB1.out.size);obtain ⟨p0,p1,f0,f1⟩:=res2 (g:=w.heap.size+2) (by exact HK3.out) hall (by simp<;>omega)))
 have HALL:=Lib.hid (HW0.out.trans ((HBW.out.trans hb45).mono HW0.out.size))
 clear hg2 hg3 hbk1 hbk2 hm1 hm2 ho1 ho2 hb3 hb4 hb5 hb45 hall hm4
 go_wp2
 refine bodyPost_ret (v:=.agg #[.bool bz,.string mz]) (by simp [results,Tryz.results115,go_sem,p0,p1]) rfl ⟨by rw [HZ.out],(HALL.out.setCell (by show w.heap.size≤w.heap.size+2;omega) _).setCell (by show w.heap.size≤w.heap.size+2;omega) _⟩

theorem gcd_pair (na nb:Bool) (a b:ByteArray) (ha:a.size≤400000000) (hb:b.size≤400000000) (w:World) (hT:Tab w) :
  Calls Tryz.prog 115 #[.agg #[.bool na,.string a],.agg #[.bool nb,.string b]] w (RetZ w ((Nat.gcd (bval a) (bval b):Nat):Int)):=by
 by_cases h1:8<a.size
 · exact gcd_long na nb a b ha hb (.inl h1) w hT
 · by_cases h2:8<b.size
   · exact gcd_long na nb a b ha hb (.inr h2) w hT
   · exact gcd_short na nb a b (by omega) (by omega) w hT

theorem gcd_f {x y:Int} {bx by' bg:Bool} {mx my mg:ByteArray} (hx:enc x=.agg #[.bool bx,.string mx]) (hy:enc y=.agg #[.bool by',.string my]) (hg:enc ((Nat.gcd x.natAbs y.natAbs:Nat):Int)=.agg #[.bool bg,.string mg])
  (h1:mx.size≤400000000) (h2:my.size≤400000000) (w:World) (hT:Tab w) :
  Calls Tryz.prog 115 #[.agg #[.bool bx,.string mx],.agg #[.bool by',.string my]] w (RetB w (.agg #[.bool bg,.string mg])):=by
 have ex:mx=mag x.natAbs:=by unfold enc at hx;injection hx with hx;injection hx with hx;injection hx with h3 h4;injection h4 with h4 h5;injection h4 with h4;exact h4.symm
 have ey:my=mag y.natAbs:=by unfold enc at hy;injection hy with hy;injection hy with hy;injection hy with h3 h4;injection h4 with h4 h5;injection h4 with h4;exact h4.symm
 have h:=gcd_pair bx by' mx my h1 h2 w hT
 have e1:bval mx=x.natAbs:=by rw [ex,bval_mag]
 have e2:bval my=y.natAbs:=by rw [ey,bval_mag]
 rw [e1,e2] at h
 unfold RetZ at h
 rw [hg] at h
 exact h
end Go.Proofs.YtdbhahiieokplaaGreatDoor


namespace Go.Proofs.YtdbhahiieokplaaGreatDoor
open Go.RowKit
attribute [local go_sem ↓] Go.wp_at_zero Go.wp_at_succ

def bvL:List UInt8→Nat
 | []=>0
 | c :: l=>c.toNat*256^l.length+bvL l

theorem bvL_lt:∀ l:List UInt8,bvL l<256^l.length
 | []=>by simp [bvL]
 | c :: l=>by
   have h1:=bvL_lt l
   have h2:=UInt8.toNat_lt c
   have h3:(c.toNat+1)*256^l.length≤256*256^l.length:=Nat.mul_le_mul_right _ h2
   rw [Nat.add_mul] at h3
   simp only [bvL,List.length_cons,Nat.pow_succ]
   rw [Nat.mul_comm (256^l.length) 256]
   omega

theorem bvL_snoc (c:UInt8):∀ l:List UInt8,bvL (l++[c])=bvL l*256+c.toNat
 | []=>by simp [bvL]
 | d :: l=>by
   simp only [List.cons_append,bvL,bvL_snoc c l,List.length_append,List.length_cons,List.length_nil,Nat.zero_add]
   rw [Nat.pow_succ,Nat.add_mul,Nat.mul_assoc]
   omega

theorem bvL_take (s:ByteArray):∀ k,k≤s.size→bvL (s.data.toList.take k)=pre s k
 | 0,_=>by simp [bvL,pre_zero]
 | k+1,hk=>by
   have hl : k < s.data.toList.length := by have : s.data.toList.length = s.size := by simp
                                            omega
   rw [List.take_succ_eq_append_getElem hl,bvL_snoc,bvL_take s k (by omega),pre_succ s k (by omega)]
   rfl

theorem bvL_bval (s:ByteArray):bvL s.toList=bval s:=by
 rw [ByteArray.toList_eq,←pre_all s,←bvL_take s s.size (Nat.le_refl _)]
 have:s.data.toList.length=s.size:=by simp
 rw [←this,List.take_length]

theorem bytesLess_val:∀ (l k:List UInt8),l.length=k.length→Op.bytesLess l k=decide (bvL l<bvL k)
 | [],[],_=>by simp [Op.bytesLess,bvL]
 | a :: l,b :: k,h=>by
   have hl:l.length=k.length:=by simpa using h
   have ih:=bytesLess_val l k hl
   have h1:=bvL_lt l
   have h2:=bvL_lt k
   simp only [Op.bytesLess,ih,bvL,←hl]
   rw [←hl] at h2
   generalize bvL l=p at *
   generalize bvL k=q at *
   have hlt:(a<b)↔a.toNat<b.toNat:=UInt8.lt_iff_toNat_lt
   have heq:(a=b)↔a.toNat=b.toNat:=UInt8.toNat_inj.symm
   generalize 256^l.length=r at *
   by_cases c1:a.toNat<b.toNat
   · have c2:a<b:=hlt.2 c1
     have:(a.toNat+1)*r≤b.toNat*r:=Nat.mul_le_mul_right _ c1
     rw [Nat.add_mul] at this
     have c3:a.toNat*r+p<b.toNat*r+q:=by omega
     simp [c2,c3]
   · have c2:¬a<b:=fun h=>c1 (hlt.1 h)
     by_cases c3:a.toNat=b.toNat
     · have c4:a=b:=heq.2 c3
       subst c4
       simp
     · have c4:¬a=b:=fun h=>c3 (heq.1 h)
       have:(b.toNat+1)*r≤a.toNat*r:=Nat.mul_le_mul_right _ (by omega)
       rw [Nat.add_mul] at this
       have c5:¬a.toNat*r+p<b.toNat*r+q:=by omega
       simp [c2,c4,c5]

theorem less_val {s t:ByteArray} (h:s.size=t.size):Op.bytesLess s.toList t.toList=decide (bval s<bval t):=by
 rw [bytesLess_val,bvL_bval,bvL_bval]
 rw [ByteArray.toList_eq,ByteArray.toList_eq]
 simpa using h

theorem eq_val {s t:ByteArray} (h:s.size=t.size):(s.toList==t.toList)=decide (bval s=bval t):=by
 have hl:=less_val h
 have hr:=less_val h.symm
 by_cases e:bval s=bval t
 · have : s = t := by
    refine ext_bytes h fun i h1 h2=>?_
    have hv:val 256 (dig s) s.size=val 256 (dig t) s.size:=by
     have h4:bval s=val 256 (dig s) s.size:=rfl
     have h5:bval t=val 256 (dig t) t.size:=rfl
     rw [←h4,e,h5,h]
    have hd:=val_inj (fun i _=>dig_lt s i) (fun i _=>dig_lt t i) hv (s.size-1-i) (by omega)
    unfold dig at hd
    rw [dif_pos (by omega),dif_pos (by omega)] at hd
    have e1:s.size-1-(s.size-1-i)=i:=by omega
    have e2:t.size-1-(s.size-1-i)=i:=by omega
    have hd':(s[i]).toNat=(t[i]).toNat:=by simpa [e1,e2] using hd
    exact UInt8.toNat_inj.1 hd'
   subst this
   simp
 · rw [decide_eq_false e]
   cases hb:s.toList==t.toList with
   | false=>rfl
   | true =>
     have:s.toList=t.toList:=by simpa using hb
     rw [←bvL_bval,←bvL_bval,this] at e
     exact absurd rfl e

set_option maxRecDepth 100000 in
theorem nan_str (s:ByteArray) (w:World):Calls Tryz.prog 197 #[.string s] w (RetV w (.bool false)):=by
 go_enter Tryz.func197,Tryz.ntmps197
 go_wp2
 go_ret
 exact ⟨by simp,rfl⟩

set_option maxHeartbeats 1000000 in
set_option maxRecDepth 100000 in
theorem cmp_str (s t:ByteArray) (h:s.size=t.size) (w:World):Calls Tryz.prog 177 #[.string s,.string t] w (RetV w (.int .i64 (ord (bval s) (bval t)))):=by
 have hl:=less_val h
 have he:=eq_val h
 have HN:=Lib.hid (fun x V=>nan_str x V)
 rcases Nat.lt_trichotomy (bval s) (bval t) with c | c | c
 · rw [decide_eq_true c] at hl
   rw [ord_lt c]
   clear c he h
   go_enter Tryz.func177,Tryz.ntmps177
   go_wp2_with fail
   refine (HN.out _ _).mono ?_
   rintro e w' ⟨rfl,rfl⟩
   go_wp2_with fail
   refine (HN.out _ _).mono ?_
   rintro e w' ⟨rfl,rfl⟩
   go_wp2
   go_ret
   exact ⟨rfl,rfl⟩
 · rw [decide_eq_false (by omega)] at hl
   rw [decide_eq_true c] at he
   rw [c,ord_eq]
   clear c h
   go_enter Tryz.func177,Tryz.ntmps177
   go_wp2_with fail
   refine (HN.out _ _).mono ?_
   rintro e w' ⟨rfl,rfl⟩
   go_wp2_with fail
   refine (HN.out _ _).mono ?_
   rintro e w' ⟨rfl,rfl⟩
   go_wp2
   go_ret
   exact ⟨rfl,rfl⟩
 · rw [decide_eq_false (by omega)] at hl he
   rw [ord_gt c]
   clear c h
   go_enter Tryz.func177,Tryz.ntmps177
   go_wp2_with fail
   refine (HN.out _ _).mono ?_
   rintro e w' ⟨rfl,rfl⟩
   go_wp2_with fail
   refine (HN.out _ _).mono ?_
   rintro e w' ⟨rfl,rfl⟩
   go_wp2
   go_ret
   exact ⟨rfl,rfl⟩

theorem ord_size {s t:ByteArray} (hs:Lead s) (ht:Lead t) (h:s.size≠t.size):ord (bval s) (bval t)=Lib.compareInt s.size t.size:=by
 have key:∀ {s t:ByteArray},Lead t→s.size<t.size→bval s<bval t:=fun {s t} ht hlt=>by
  have h1:=bval_lt s
  have h2:=val_pos (b:=256) (f:=dig t) (n:=t.size) (by omega) (by omega) (dig_top ht (by omega))
  have h3:256^s.size≤256^(t.size-1):=Nat.pow_le_pow_right (by omega) (by omega)
  have h4:bval t=val 256 (dig t) t.size:=rfl
  omega
 unfold Lib.compareInt
 by_cases c:s.size<t.size
 · rw [ord_lt (key ht c),if_pos (by omega)]
 · rw [ord_gt (key hs (by omega)),if_neg (by omega),if_pos (by omega)]

set_option maxHeartbeats 1000000 in
set_option maxRecDepth 100000 in
theorem cmpMag_any (s t:ByteArray) (hs:Lead s) (ht:Lead t) (w:World):Calls Tryz.prog 149 #[.string s,.string t] w (RetV w (.int .i64 (ord (bval s) (bval t)))):=by
 by_cases h:s.size=t.size
 · have hne:((s.size:Int) != (t.size:Int))=false:=by simp;omega
   have HC:=Lib.hid (fun V=>cmp_str s t h V)
   generalize ord (bval s) (bval t)=o at *
   clear h hs ht
   go_enter Tryz.func149,Tryz.ntmps149
   go_wp2_with fail
   refine (HC.out _).mono ?_
   rintro e w' ⟨rfl,rfl⟩
   go_wp2
   go_ret
   exact ⟨rfl,rfl⟩
 · have hne:((s.size:Int) != (t.size:Int))=true:=by simp;omega
   have HC:=Lib.hid (fun V=>Tryz.cmp_Compare_int (s.size:Int) (t.size:Int) V)
   rw [ord_size hs ht h]
   clear h hs ht
   go_enter Tryz.func149,Tryz.ntmps149
   go_wp2_with fail
   refine (HC.out _).mono ?_
   rintro e w' ⟨rfl,rfl⟩
   go_wp2
   go_ret
   exact ⟨rfl,rfl⟩
end Go.Proofs.YtdbhahiieokplaaGreatDoor


namespace Go.Proofs.YtdbhahiieokplaaGreatDoor
open Go.RowKit
attribute [local go_sem ↓] Go.wp_at_zero Go.wp_at_succ

def sgP (b:Bool) (m:ByteArray):Int:=if m.size=0 then 0 else if b then -1 else 1

theorem sgP_enc {x:Int} {b:Bool} {m:ByteArray} (h:enc x=.agg #[.bool b,.string m]):sgP b m=x.sign:=by
 obtain ⟨rfl,rfl⟩:=enc_parts h
 have hz:(mag x.natAbs).size=0↔x.natAbs=0:=mag_zero_iff
 unfold sgP
 rcases Int.lt_trichotomy x 0 with h | h | h
 · rw [Int.sign_eq_neg_one_of_neg h,if_neg (by rw [hz];omega),decide_eq_true h];rfl
 · subst h;rw [if_pos (hz.2 rfl)];rfl
 · rw [Int.sign_eq_one_of_pos h,if_neg (by rw [hz];omega),decide_eq_false (by omega)];rfl

set_option maxHeartbeats 1000000 in
set_option maxRecDepth 100000 in
theorem Sign_pair (b:Bool) (m:ByteArray) (w:World):Calls Tryz.prog 134 #[.agg #[.bool b,.string m]] w (RetB w (.int .i64 (sgP b m))):=by
 by_cases h:0<m.size
 · have he:=empty_no h
   have hv:sgP b m=if b then -1 else 1:=by unfold sgP;rw [if_neg (by omega)]
   rw [hv]
   clear hv
   cases b
   all_goals
    go_enter Tryz.func134,Tryz.ntmps134
    go_wp2
    go_ret
    exact ⟨rfl,(Below.refl _ _).alloc (Nat.le_refl _) _⟩
 · have he:=empty_yes h
   have hv:sgP b m=0:=by unfold sgP;rw [if_pos (by omega)]
   rw [hv]
   clear hv
   go_enter Tryz.func134,Tryz.ntmps134
   go_wp2
   go_ret
   exact ⟨rfl,(Below.refl _ _).alloc (Nat.le_refl _) _⟩

theorem Sign_f {x:Int} {b:Bool} {m:ByteArray} (hx:enc x=.agg #[.bool b,.string m]) (w:World):Calls Tryz.prog 134 #[.agg #[.bool b,.string m]] w (RetB w (.int .i64 x.sign)):=by
 rw [←sgP_enc hx];exact Sign_pair b m w

theorem lead_enc {x:Int} {b:Bool} {m:ByteArray} (h:enc x=.agg #[.bool b,.string m]):Lead m:=by
 obtain ⟨rfl,rfl⟩:=enc_parts h
 exact lead_mag _

structure K2 (w:World) (T:TypeId) (v0 v1 v2 v3:Value) (w1:World):Prop where
 k0:w1.heap[w.heap.size]?=some (.cells #[v0,v1] T (0,0))
 k1:w1.heap[w.heap.size+1]?=some (.cells #[v2,v3] T (0,0))
 sz:w.heap.size+2≤w1.heap.size
 bel:Below w.heap.size w w1
theorem K2.start (w:World) (T:TypeId) (v0 v1 v2 v3:Value):K2 w T v0 v1 v2 v3 ((w.alloc (.cells #[v0,v1] T)).alloc (.cells #[v2,v3] T)) :=
 ⟨heap_fst _ _ _,heap_two _ _ _,by simp,((Below.refl _ _).alloc (Nat.le_refl _) _).alloc (by simp) _⟩
theorem K2.next {w:World} {T:TypeId} {v0 v1 v2 v3:Value} {w1 w2:World} (h:K2 w T v0 v1 v2 v3 w1) (hb:Below w1.heap.size w1 w2):K2 w T v0 v1 v2 v3 w2:=by
 have hs:=h.sz
 refine ⟨(hb.block _ (by omega)).trans h.k0,(hb.block _ (by omega)).trans h.k1,?_,h.bel.trans (hb.mono h.bel.size)⟩
 have:=hb.size
 omega
theorem K2.drew {w:World} {T:TypeId} {v0 v1 v2 v3:Value} {w1:World} (h:K2 w T v0 v1 v2 v3 w1):K2 w T v0 v1 v2 v3 w1.drew:=h.next (Below.refl _ _).drew
theorem K2.zx {w:World} {T:TypeId} {b1 b2:Bool} {m1 m2:ByteArray} {w1:World} (h:K2 w T (.bool b1) (.string m1) (.bool b2) (.string m2) w1) :
  w1.cell? ⟨w.heap.size,0,none⟩=some (.bool b1)∧w1.cell? ⟨w.heap.size,1,none⟩=some (.string m1)∧w1.cell? ⟨w.heap.size+1,0,none⟩=some (.bool b2)∧w1.cell? ⟨w.heap.size+1,1,none⟩=some (.string m2) :=
 ⟨(blk_cells h.k0).1,(blk_cells h.k0).2.1,(blk_cells h.k1).1,(blk_cells h.k1).2.1⟩

theorem compareInt_lt {a b:Int} (h:a<b):Lib.compareInt a b=-1:=by unfold Lib.compareInt;rw [if_pos h]
theorem compareInt_gt {a b:Int} (h:b<a):Lib.compareInt a b=1:=by unfold Lib.compareInt;rw [if_neg (by omega),if_pos h]

set_option maxHeartbeats 2000000 in
set_option maxRecDepth 100000 in
theorem Compare_f {x y:Int} {b1 b2:Bool} {m1 m2:ByteArray} (hx:enc x=.agg #[.bool b1,.string m1]) (hy:enc y=.agg #[.bool b2,.string m2]) (w:World) :
  Calls Tryz.prog 117 #[.agg #[.bool b1,.string m1],.agg #[.bool b2,.string m2]] w (RetB w (.int .i64 (cmpZ x y))):=by
 have HS1:=Lib.hid (fun V=>Sign_f hx V)
 have HS2:=Lib.hid (fun V=>Sign_f hy V)
 have hm:=fun V=>cmpMag_any m1 m2 (lead_enc hx) (lead_enc hy) V
 have hdf:=cmpZ_diff (x:=x) (y:=y)
 have hsm:=cmpZ_same (x:=x) (y:=y)
 have hin:=cmpZ_in x y
 have e1:bval m1=x.natAbs:=by rw [(enc_parts hx).2,bval_mag]
 have e2:bval m2=y.natAbs:=by rw [(enc_parts hy).2,bval_mag]
 rw [e1,e2] at hm
 have HM:=Lib.hid hm
 have K0:=Lib.hid (K2.start w 23 (.bool b1) (.string m1) (.bool b2) (.string m2))
 generalize cmpZ x y=r at *
 generalize x.sign=sx at *
 generalize y.sign=sy at *
 generalize x.natAbs=X at *
 generalize y.natAbs=Y at *
 clear hm hx hy e1 e2
 have hne1:¬(w.heap.size=w.heap.size+1):=by omega
 have hne2:¬(w.heap.size+1=w.heap.size):=by omega
 have hq:(sx != sy)=decide (sx≠sy):=by by_cases h:sx=sy<;>simp [h]
 have HQ:=Lib.hid hq
 clear hq
 by_cases hs:sx=sy
 all_goals
  have hq:=HQ.out
  first
  | (rw [decide_eq_false (by simpa using hs)] at hq)
  | (rw [decide_eq_true hs] at hq)
  have HSS:=Lib.hid hs
  have HDF:=Lib.hid hdf
  have HSM:=Lib.hid hsm
  clear hs hdf hsm
  go_enter Tryz.func117,Tryz.ntmps117
  go_wp2_with fail
  go_region_held3 (fun w'=>w'.cell? ⟨w.heap.size,0,none⟩=some (.bool b1)∧w'.cell? ⟨w.heap.size,1,none⟩=some (.string m1)∧w'.cell? ⟨w.heap.size+1,0,none⟩=some (.bool b2)∧w'.cell? ⟨w.heap.size+1,1,none⟩=some (.string m2))
   (first
    | go_keep
    | exact KB.out.zx
    | exact KA.out.zx)
   (first
    | (go_at_call 134;(with_reducible refine (HS1.out _).mono ?_);rintro e w1 ⟨rfl,hb1⟩;have KA:=Lib.hid (K0.out.drew.next hb1))
    | (go_at_call 134;(with_reducible refine (HS2.out _).mono ?_);rintro e w2 ⟨rfl,hb2⟩;have KB:=Lib.hid (KA.out.next hb2)))
 · obtain ⟨z0,z1,z2,z3⟩:=KB.out.zx
   obtain ⟨o,ho⟩:∃ o,ord X Y=o:=⟨_,rfl⟩
   rw [ho] at HM
   have hr:=HSM.out HSS.out
   rw [ho] at hr
   have hw1:IntKind.i64.wrap (sx*o)=r:=by rw [hr,Int.mul_comm];rw [hr] at hin;exact IntWalk.i64_in _ (by omega)
   have HR:=Lib.hid hr
   clear hr ho hb1 hb2
   go_wp2_with fail
   refine (HM.out _).mono ?_
   rintro e w3 ⟨rfl,rfl⟩
   go_wp2
   go_ret
   exact ⟨by first | rfl | (rw [hw1]),KB.out.bel⟩
 · have hr:=HDF.out HSS.out
   have hc:Lib.compareInt sx sy=r:=by
    rw [hr]
    by_cases h:sx<sy
    · rw [compareInt_lt h,if_pos h]
    · rw [compareInt_gt (by have:=HSS.out;omega),if_neg h]
   have HC:=Lib.hid (fun V=>Tryz.cmp_Compare_int sx sy V)
   have HCC:=Lib.hid hc
   clear hr hc hb1 hb2
   go_wp2_with fail
   refine (HC.out _).mono ?_
   rintro e w3 ⟨rfl,rfl⟩
   go_wp2
   go_ret
   exact ⟨congrArg (fun z=>Ending.returned (.int .i64 z)) HCC.out,KB.out.bel⟩
end Go.Proofs.YtdbhahiieokplaaGreatDoor


namespace Go.Proofs.YtdbhahiieokplaaGreatDoor
open Go.RowKit
attribute [local go_sem ↓] Go.wp_at_zero Go.wp_at_succ

end Go.Proofs.YtdbhahiieokplaaGreatDoor
