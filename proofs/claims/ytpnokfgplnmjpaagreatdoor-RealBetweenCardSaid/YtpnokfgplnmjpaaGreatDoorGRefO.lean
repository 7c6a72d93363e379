import Derived.Test.YtpnokfgplnmjpaaGreatDoorGPk
import Derived.Test.YtpnokfgplnmjpaaGreatDoorGRefI
import Derived.Test.YtpnokfgplnmjpaaGreatDoorGGcA
import Derived.Deep.LoopGhost
import Derived.Deep.RegionWith
import Derived.Deep.RegionLaw
import Derived.Test.YtpnokfgplnmjpaaGreatDoorGRefL
import Derived.Test.YtpnokfgplnmjpaaGreatDoorGSgT
set_option linter.unusedSimpArgs false
set_option linter.unusedVariables false
set_option maxRecDepth 100000
set_option maxHeartbeats 8000000
open Go.Lib (hid)
open Go.Proofs.Tryz (prog)
namespace Go.Proofs.YtpnokfgplnmjpaaGreatDoor
open Go.RowKit
attribute [local go_sem ↓] Go.wp_at_zero Go.wp_at_succ
def RetGc (W:World) (base V N:Nat) (e:Ending) (w:World):Prop:=∃ A n c,n≤N∧e=.returned (.slice A n c)∧Ng w A n c V∧Below base W w
theorem reduce_at (A B:Option Addr) (base n m c d X Y:Nat) (w:World) (hn:n≤100000000) (hm:2≤m) (hx:Ow w base A n c X) (hy:Ow w base B m d Y) (hle:Y≤X) (hne:∀ a b,A=some a→B=some b→a.block≠b.block) :
  Calls prog 207 #[.slice A n c,.slice B m d] w (RetRd w base X Y n):=by
 have hmn:m≤n:=Nm.le_len hx.nm.toNg hy.nm hle;obtain ⟨g1,rfl,_⟩:=hx.own.lies om;obtain ⟨g2,rfl,_⟩:=hy.own.lies om;exact reduce_any g1 g2 base n m c d X Y w hn hm hx hy hle (hne _ _ rfl rfl)
theorem Ow.drew {w w':World} {base:Nat} {A:Option Addr} {n c V:Nat} (h:Ow w base A n c V) (hd:Drew w w'):Ow w' base A n c V:=by
 obtain ⟨q,rfl⟩:=hd;exact ⟨h.own.drewN q,h.lt,h.top⟩
structure Gl (W:World) (base N G k:Nat) (A1:Option Addr) (n1 c1:Nat) (A2:Option Addr) (n2 c2 R S:Nat) (w:World):Prop where
 l1:n1≤N
 l2:n2≤N
 o1:Ow w base A1 n1 c1 R
 o2:Ow w base A2 n2 c2 S
 ne:∀ a b,A1=some a→A2=some b→a.block≠b.block
 le:S≤R
 gc:Nat.gcd R S=G
 me:R+S≤k
 bel:Below base W w
theorem gcd_any (A B:Option Addr) (base N n m c d X Y:Nat) (w:World) (hN:N≤100000000) (hn:n≤N) (hm:m≤N) (hx:Ow w base A n c X) (hy:Ow w base B m d Y) (hne:∀ a b,A=some a→B=some b→a.block≠b.block) (hT:Tab w) (hbT:1<base) (hbw:base≤w.heap.size) :
  Calls prog 171 #[.slice A n c,.slice B m d] w (RetGc w base (Nat.gcd X Y) (N+1)):=by
 have HC:=hid (compare_any A B n m c d X Y w om om hx.nm hy.nm);have HX:=hid hx;have HY:=hid hy;have HNE:=hid hne;have HT:=hid hT;obtain ⟨o,ho⟩:∃ o,ord X Y=o:=⟨_,rfl⟩
 rw [ho] at HC;clear hx hy hne hT
 have hstart:∀ w1,Drew w w1→(o<0→Gl w base N (Nat.gcd X Y) (X+Y) B m d A n c Y X w1)∧(¬o<0→Gl w base N (Nat.gcd X Y) (X+Y) A n c B m d X Y w1):=fun w1 hd=>by
  refine ⟨fun h=>?_,fun h=>?_⟩
  · have hlt : X < Y := by
     rcases Nat.lt_or_ge X Y with h1 | h1
     · exact h1
     · obtain ⟨o',h2,h3⟩:=ord_ge h1;omega
    exact ⟨hm,hn,HY.out.drew hd,HX.out.drew hd,fun a b ha hb=>Ne.symm (HNE.out b a hb ha),om,Nat.gcd_comm _ _,om,hd.below _⟩
  · have hle : Y ≤ X := by
     rcases Nat.lt_or_ge X Y with h1 | h1
     · rw [ord_lt h1] at ho;omega
     · exact h1
    exact ⟨hn,hm,HX.out.drew hd,HY.out.drew hd,HNE.out,hle,rfl,om,hd.below _⟩
 have HST:=hid hstart;clear hstart ho;generalize Nat.gcd X Y=G at *;by_cases ho0:o<0
 all_goals
  go_enter Tryz.func171,Tryz.ntmps171;go_wp2_with fail
  refine HC.out.mono ?_;rintro e w1 ⟨rfl,hd⟩;have HD:=hid hd;clear hd;go_wp2_with fail
  go_loopg [0,1] (X+Y) (fun k vx vy wr=>∃ A1 n1 c1 A2 n2 c2 R S,vx=.slice A1 n1 c1∧vy=.slice A2 n2 c2∧Gl w base N G k A1 n1 c1 A2 n2 c2 R S wr)
  case atStart =>
   first
   | exact ⟨_,_,_,_,_,_,_,_,rfl,rfl,(HST.out w1 HD.out).1 ho0⟩
   | exact ⟨_,_,_,_,_,_,_,_,rfl,rfl,(HST.out w1 HD.out).2 ho0⟩
  case round =>
   obtain ⟨A1,n1,c1,A2,n2,c2,R,S,rfl,rfl,hgl⟩:=hrel;have b1:=hgl.l1;have b2:=hgl.l2;have hws:=hgl.bel.size;by_cases h2:2≤n2
   · have HRD:=hid (reduce_at A1 A2 base n1 n2 c1 c2 R S wr om h2 hgl.o1 hgl.o2 hgl.le hgl.ne);have HGL:=hid hgl;have h2d:decide ((1:Int)<(n2:Int))=true:=by simp;omega
     clear hgl;go_wp2_with fail
     refine HRD.out.mono ?_;rintro e w2 ⟨B1,m1,d1,B2,m2,d2,R',S',rfl,k1,k2,k3,k4,k5,k6,k7,k8,k9⟩;have HNEW:=hid (show Gl w base N G (R'+S') B1 m1 d1 B2 m2 d2 R' S' w2 from ⟨om,om,k3,k4,k5,k6,k7.trans HGL.out.gc,Nat.le_refl _,HGL.out.bel.trans k9⟩);have hmm:R'+S'<gk:=by have:=HGL.out.me;omega
     clear k3 k4 k5 k6 k7 k8 k9;go_wp2_with fail
     go_roundg (R'+S')
     case measure=>exact hmm
     case rel=>exact ⟨_,_,_,_,_,_,_,_,rfl,rfl,HNEW.out⟩
   · have h2d:decide ((1:Int)<(n2:Int))=false:=by simp;omega
     have HGL:=hid hgl;clear hgl;by_cases h0:n2=0
     · have hS:S=0:=HGL.out.o2.nm.zero.1 h0;have hRG:R=G:=by have:=HGL.out.gc;rw [hS,Nat.gcd_zero_right] at this;exact this
       have HRG:=hid hRG;have h0d:((n2:Int)==0)=true:=by simp;omega
       clear hS hRG h0;go_wp2
       go_ret
       exact ⟨A1,n1,c1,om,rfl,by rw [←HRG.out];exact HGL.out.o1.nm.toNg,HGL.out.bel⟩
     · obtain rfl:n2=1:=om;obtain ⟨g2,e2,lS,_,_,_,_⟩:=HGL.out.o2.own.lies om;subst e2;have lg2:=lS.lt;have hSb:S<B64:=by have:=HGL.out.o2.lt;rw [Nat.pow_one] at this;exact this
       have hS0:0<S:=by have:=HGL.out.o2.top om;rw [Nat.sub_self,Nat.pow_zero] at this;omega
       have hD0:D B64 S 0=S:=by unfold D;rw [Nat.pow_zero,Nat.div_one,Nat.mod_eq_of_lt hSb]
       have cS:=lS.cell (i:=0) om;rw [hD0] at cS;rw [B64_eq] at hSb;have HDW:=hid (divideWord_any A1 n1 c1 R S wr om hS0 hSb HGL.out.o1.nm.toNg);have hmod:=Nat.mod_lt R hS0;have HG:=hid (show Nat.gcd S (R%S)=G by rw [Nat.gcd_comm,←Nat.gcd_rec,Nat.gcd_comm];exact HGL.out.gc)
       have hGb:G<18446744073709551616:=by
        have h9:=Nat.gcd_le_left (R%S) hS0;rw [HG.out] at h9;omega
       have hTw:∀ V:World,Below base wr V→Tab V:=fun V hV=>(HT.out.below HGL.out.bel hbT).below hV hbT
       have HTW:=hid hTw;clear lS hD0 hTw;generalize R%S=M at *;go_wp2_with fail
       refine HDW.out.mono ?_;rintro e w2 ⟨Aq,nq,cq,hnq,rfl,hmq,hb2,hfq⟩;have cS2:=(hb2.cell (p:=⟨g2,0,none⟩) lg2).trans cS;have hs2:=hb2.size;have HWG:=hid (wordGcd_any S M hSb om w2 (HTW.out w2 (hb2.mono om)));rw [HG.out] at HWG;have HB2:=hid (HGL.out.bel.trans (hb2.mono (show base≤wr.heap.size by omega)));clear hmq hb2 hfq cS;go_wp2_with fail
       refine HWG.out.mono ?_;rintro e w3 ⟨rfl,rfl⟩;go_wp2
       go_ret
       exact ⟨_,1,1,om,rfl,⟨by rw [Nat.pow_one,B64_eq];exact hGb,Nat.le_refl _,rd_one _ _ _ G _ (heap_one _ _) (by unfold D;rw [Nat.pow_zero,Nat.div_one,B64_eq,Nat.mod_eq_of_lt hGb])⟩,HB2.out.alloc om _⟩
theorem Tab.lt {w:World} (h:Tab w):1<w.heap.size:=by
 have h0:=h 0 dc;rcases Nat.lt_or_ge 1 w.heap.size with h1 | h1
 · exact h1
 · simp [World.cell?,Array.getElem?_eq_none h1] at h0
theorem Is16.ownB {w:World} {g base:Nat} (h:Is16 w g) (hb:base≤g):Own w base (.slice (some ⟨g,0,none⟩) 0 16) 0 []:=by
 obtain ⟨cur,hg,hs⟩:=h;exact Own.start hg hb hs (by simp [maxLen])
theorem row_val {g:Nat}:(Value.slice (some ⟨g,0,none⟩) 0 16).ownBlock=some g:=rfl
theorem gcd_after {W w2 w3:World} {g1:Nat} (A1 A2:Option Addr) (n1 d1 n2 d2 X Y:Nat) (hs:g1+2≤W.heap.size) (hn1:n1≤60000000) (hn2:n2≤60000000)
  (hm1:Nm w2 A1 n1 d1 X) (ho1:Own w2 g1 (.slice A1 n1 d1) n1 (nums .u64 (D B64 X) n1)) (hg2:W.grownBy w2 (Value.slice (some ⟨g1,0,none⟩) 0 16).ownBlock)
  (hbk1:Value.ownBlock (.slice A1 n1 d1)=(Value.slice (some ⟨g1,0,none⟩) 0 16).ownBlock∨∀ k,Value.ownBlock (.slice A1 n1 d1)=some k→W.heap.size≤k)
  (hm2:Nm w3 A2 n2 d2 Y) (ho2:Own w3 g1 (.slice A2 n2 d2) n2 (nums .u64 (D B64 Y) n2)) (hg3:w2.grownBy w3 (Value.slice (some ⟨g1+1,0,none⟩) 0 16).ownBlock)
  (hbk2:Value.ownBlock (.slice A2 n2 d2)=(Value.slice (some ⟨g1+1,0,none⟩) 0 16).ownBlock∨∀ k,Value.ownBlock (.slice A2 n2 d2)=some k→w2.heap.size≤k) (hT:Tab W) (hb0:1<g1) :
  Calls prog 171 #[.slice A1 n1 d1,.slice A2 n2 d2] w3 (RetGc w3 g1 (Nat.gcd X Y) 60000001):=by
 rw [row_val] at hg2 hbk1 hg3 hbk2;have hsz:=hg2.size;have hsz3:=hg3.size
 have hb1:∀ k,Value.ownBlock (.slice A1 n1 d1)=some k→k≠g1+1∧k<w2.heap.size∧(k=g1∨W.heap.size≤k):=fun k hk=>by
  have h1:=(ho1.lt k hk).2;rcases hbk1 with h | h
  · rw [h] at hk
    injection hk with hk
    omega
  · have:=h k hk;omega
 have hb2:∀ k,Value.ownBlock (.slice A2 n2 d2)=some k→k=g1+1∨w2.heap.size≤k:=fun k hk=>by
  rcases hbk2 with h | h
  · rw [h] at hk
    injection hk with hk
    omega
  · exact .inr (h k hk)
 have ho1':Own w3 g1 (.slice A1 n1 d1) n1 (nums .u64 (D B64 X) n1):=ho1.at_ fun g hg=>hg3.block g (hb1 g hg).2.1 (fun e=>(hb1 g hg).1 (by injection e))
 refine gcd_any A1 A2 g1 60000000 n1 n2 d1 d2 X Y w3 om hn1 hn2 ⟨ho1',hm1.lt,hm1.top⟩ ⟨ho2,hm2.lt,hm2.top⟩ (fun a b ha hb e=>?_) ?_ hb0 om
 · subst ha hb;have k1:=hb1 a.block rfl;have k2:=hb2 b.block rfl;omega
 · exact (hT.below (below_of_grown (B:=g1) hg2 om (Nat.le_refl _)) hb0).below (below_of_grown (B:=g1) hg3 om om) hb0
theorem gcd_short (na nb:Bool) (a b:ByteArray) (ha:a.size≤8) (hb:b.size≤8) (w:World) (hT:Tab w) :
  Calls prog 126 #[.agg #[.bool na,.string a],.agg #[.bool nb,.string b]] w (RetZ w ((Nat.gcd (bval a) (bval b):Nat):Int)):=by
 have la:=bval_64 ha;have lb:=bval_64 hb
 have hgl:Nat.gcd (bval a) (bval b)<18446744073709551616:=by
  rcases Nat.eq_zero_or_pos (bval a) with h | h
  · rw [h,Nat.gcd_zero_left];exact lb
  · exact Nat.lt_of_le_of_lt (Nat.gcd_le_left _ h) la
 have hlt:=hT.lt;have HW:=hid (fun V=>words_yes na nb a b ha hb V);have HG:=hid (fun (V:World) (hV:Below w.heap.size w V)=>wordGcd_any (bval a) (bval b) la lb V (hT.below hV hlt));obtain ⟨G,hG⟩:∃ G,Nat.gcd (bval a) (bval b)=G:=⟨_,rfl⟩
 rw [hG] at HG hgl ⊢;obtain ⟨bz,mz,hz⟩:=enc_form (G:Int);have hp:=fun V=>packWord_any false G hgl V
 have e1:sgn false G=(G:Int):=rfl;unfold RetZ at hp;rw [e1,hz] at hp;have HP:=hid hp;have HZ:=hid hz;clear hT la lb hG hp hz e1 hgl;generalize bval a=X at *;generalize bval b=Y at *;go_enter Tryz.func126,Tryz.ntmps126;go_wp2_with fail
 refine (HW.out _).mono ?_;rintro e w1 ⟨rfl,hb1⟩;obtain ⟨k1,k2,k3⟩:=heap_three_all w (.cells #[.bool na,.string a] 23) (.cells #[.bool nb,.string b] 23) (.cells #[.bool false,.string ⟨#[]⟩] 23);have HK3:=hid k3;have hW0:Below w.heap.size w w1:=(Below.trans ((((Below.refl _ _).alloc (Nat.le_refl _) _).alloc (by simp) _).alloc sm _) (hb1.mono (B':=w.heap.size) sm));have HW0:=hid hW0;have HB1:=hid hb1;clear k1 k2 k3 hb1 hW0;go_wp2_with fail
 refine (HG.out _ HW0.out).mono ?_;rintro e w2 ⟨rfl,rfl⟩;go_wp2_with fail
 refine (HP.out _).mono ?_;rintro e w5 ⟨rfl,hb5⟩;have hall:=HB1.out.trans (hb5.mono HB1.out.size);obtain ⟨p0,p1,g0,g1⟩:=res2 (g:=w.heap.size+2) (by exact HK3.out) hall sm;have HALL:=hid (HW0.out.trans (hb5.mono HW0.out.size));clear hb5 hall;exact k64
theorem gcd_long (na nb:Bool) (a b:ByteArray) (ha:a.size≤400000000) (hb:b.size≤400000000) (h:8<a.size∨8<b.size) (w:World) (hT:Tab w) :
  Calls prog 126 #[.agg #[.bool na,.string a],.agg #[.bool nb,.string b]] w (RetZ w ((Nat.gcd (bval a) (bval b):Nat):Int)):=by
 have hlt:=hT.lt;have HTT:=hid hT;obtain ⟨bz,mz,hz⟩:=enc_form ((Nat.gcd (bval a) (bval b):Nat):Int)
 have hp:∀ (V:World) (A:Option Addr) (n c:Nat),n≤1000000000→Ng V A n c (Nat.gcd (bval a) (bval b))→Calls prog 143 #[.bool false,.slice A n c] V (fun e w'=>e=.returned (.agg #[.bool bz,.string mz])∧Below V.heap.size V w'):=fun V A n c h1 h2=>by
  have h3:=pack_any false A n c _ V h1 h2;unfold RetZ at h3;have e:sgn false (Nat.gcd (bval a) (bval b))=((Nat.gcd (bval a) (bval b):Nat):Int):=rfl;rw [e,hz] at h3;exact h3
 have HP:=hid hp;have HZ:=hid hz;clear hp hz hT;go_enter Tryz.func126,Tryz.ntmps126;go_wp2_with fail
 refine (words_no na nb a b h _).mono ?_;rintro e w1 ⟨rfl,hb1⟩;obtain ⟨k1,k2,k3⟩:=heap_three_all w (.cells #[.bool na,.string a] 23) (.cells #[.bool nb,.string b] 23) (.cells #[.bool false,.string ⟨#[]⟩] 23);have HK3:=hid k3;obtain ⟨c0,c1,_,_⟩:=res2 (g:=w.heap.size) (by exact k1) hb1 sm;obtain ⟨c2,c3,_,_⟩:=res2 (g:=w.heap.size+1) (by exact k2) hb1 sm;have hsz:w.heap.size+3≤w1.heap.size:=by have:=hb1.size;simp at this;omega
 have hW0:Below w.heap.size w w1:=(Below.trans ((((Below.refl _ _).alloc (Nat.le_refl _) _).alloc (by simp) _).alloc sm _) (hb1.mono (B':=w.heap.size) sm));have HW0:=hid hW0;have HB1:=hid hb1;clear k1 k2 k3 hb1 hW0;obtain ⟨W,hW⟩:∃ W,W=(w1.alloc arr16).alloc arr16:=⟨_,rfl⟩
 have l1:W.heap[w1.heap.size]?=some arr16:=by rw [hW];exact heap_fst _ _ _
 have l2:W.heap[w1.heap.size+1]?=some arr16:=by rw [hW];exact heap_two _ _ _
 have hbW:Below w1.heap.size w1 W:=by rw [hW];exact ((Below.refl _ _).alloc (Nat.le_refl _) _).alloc (by simp) _
 have hszW:W.heap.size=w1.heap.size+2:=by rw [hW];simp
 have c1':=(hbW.cell (p:=⟨w.heap.size,1,none⟩) (by show w.heap.size<_;omega)).trans c1;have c3':=(hbW.cell (p:=⟨w.heap.size+1,1,none⟩) (by show w.heap.size+1<_;omega)).trans c3;have HU1:=hid (fun V (hV:Is16 V w1.heap.size) (hs:w1.heap.size≤V.heap.size)=>unpack_own (.slice (some ⟨w1.heap.size,0,none⟩) 0 16) a w1.heap.size V om hs (hV.ownB (Nat.le_refl _)));have HU2:=hid (fun V (hV:Is16 V (w1.heap.size+1)) (hs:w1.heap.size≤V.heap.size)=>unpack_own (.slice (some ⟨w1.heap.size+1,0,none⟩) 0 16) b w1.heap.size V om hs (hV.ownB om));have IA:=hid (show Is16 W w1.heap.size from ⟨_,l1,by simp⟩);have IB:=hid (show Is16 W (w1.heap.size+1) from ⟨_,l2,by simp⟩);have HW:=hid hW;have HBW:=hid hbW;have HSW:=hid hszW
 have HBG:=hid (fun (w2 w3:World) (h2:W.drew.grownBy w2 (Value.slice (some ⟨w1.heap.size,0,none⟩) 0 16).ownBlock) (h3:w2.grownBy w3 (Value.slice (some ⟨w1.heap.size+1,0,none⟩) 0 16).ownBlock)=>show Below w1.heap.size W w3 from
  ((Below.refl _ W).drew.trans (below_of_grown (B:=w1.heap.size) (g:=w1.heap.size) h2 (by show _≤W.heap.size;omega) (Nat.le_refl _))).trans (below_of_grown (B:=w1.heap.size) (g:=w1.heap.size+1) h3 (by have:=h2.size;simp at this;omega) om))
 have HTW:=hid (show Tab W from (HTT.out.below HW0.out hlt).below hbW om);clear l1 l2 hbW hszW c0 c1 c2 c3 hW;go_wp2_with fail
 have hw9:(w1.alloc arr16).alloc arr16=W:=HW.out.symm;unfold arr16 at hw9;rw [hw9];clear hw9;have hp1:w.heap.size<W.heap.size:=by have:=HSW.out;omega
 have hp2:w.heap.size+1<W.heap.size:=by have:=HSW.out;omega
 go_region_held3 (fun w'=>w'.cell? ⟨w.heap.size,1,none⟩=some (.string a)∧w'.cell? ⟨w.heap.size+1,1,none⟩=some (.string b))
  (first
   | exact ⟨t3 _ _,t4 _ _⟩
   | exact ⟨t1,t2⟩
   | exact ⟨u1,u2⟩
   | exact ⟨y1,y2⟩
   | exact ⟨z1,z2⟩
   | go_keep)
  (first
   | (go_at_call 144;(with_reducible refine (HU1.out _ ?_ ?_).mono ?_);(exact IA.out.keep rfl);(show w1.heap.size≤W.heap.size;have:=HSW.out;omega);rintro e w2 ⟨A1,n1,d1,hn1,rfl,hm1,hg2,hbk1,ho1⟩;have z1:=keep_cell (W:=W.drew) (g:=w1.heap.size) hg2 hp1 om c1';have z2:=keep_cell (W:=W.drew) (g:=w1.heap.size) hg2 hp2 om c3';have hq1:=Nat.lt_of_lt_of_le hp1 hg2.size;have hq2:=Nat.lt_of_lt_of_le hp2 hg2.size)
   | (go_at_call 144;(with_reducible refine (HU2.out _ ?_ ?_).mono ?_);(exact keep_16 (W:=W.drew) (g:=w1.heap.size) hg2 om (IB.out.keep rfl));(have h8:=hg2.size;have h9:=HSW.out;simp at h8;omega);rintro e w3 ⟨A2,n2,d2,hn2,rfl,hm2,hg3,hbk2,ho2⟩;have y1:=keep_cell (g:=w1.heap.size+1) hg3 hq1 om z1;have y2:=keep_cell (g:=w1.heap.size+1) hg3 hq2 om z2;have hb3:=HBG.out w2 w3 hg2 hg3)
   | (go_at_call 171;(with_reducible refine (gcd_after (W:=W.drew) (w2:=w2) (g1:=w1.heap.size) A1 A2 n1 d1 n2 d2 (bval a) (bval b) ?_ ?_ ?_ hm1 ho1 hg2 hbk1 hm2 ho2 hg3 hbk2 ?_ ?_).mono ?_);(show _≤W.heap.size;have:=HSW.out;omega);(omega);(omega);(exact HTW.out);(omega);rintro e w4 ⟨A4,n4,d4,hn4,rfl,hm4,hb4⟩;have u1:=(hb4.cell (p:=⟨w.heap.size,1,none⟩) (by show w.heap.size<_;omega)).trans y1;have u2:=(hb4.cell (p:=⟨w.heap.size+1,1,none⟩) (by show w.heap.size+1<_;omega)).trans y2)
   | (go_at_call 143;(with_reducible refine (HP.out _ A4 n4 d4 ?_ hm4).mono ?_);(omega);rintro e w5 ⟨rfl,hb5⟩;have hb45:=(hb3.trans hb4).trans (hb5.mono (show w1.heap.size≤w4.heap.size by have:=hb3.size;have:=hb4.size;have:=HSW.out;omega));have t1:=(hb5.cell (p:=⟨w.heap.size,1,none⟩) (by show w.heap.size<_;have:=hb3.size;have:=hb4.size;have:=HSW.out;omega)).trans u1;have t2:=(hb5.cell (p:=⟨w.heap.size+1,1,none⟩) (by show w.heap.size+1<_;have:=hb3.size;have:=hb4.size;have:=HSW.out;omega)).trans u2;have t3:=fun x y=>((((Below.refl (w.heap.size+2) w5).setCell (p:=⟨w.heap.size+2,0,none⟩) (Nat.le_refl _) x).setCell (p:=⟨w.heap.size+2,1,none⟩) (Nat.le_refl _) y).cell (p:=⟨w.heap.size,1,none⟩) (by show w.heap.size<_;omega)).trans t1;have t4:=fun x y=>((((Below.refl (w.heap.size+2) w5).setCell (p:=⟨w.heap.size+2,0,none⟩) (Nat.le_refl _) x).setCell (p:=⟨w.heap.size+2,1,none⟩) (Nat.le_refl _) y).cell (p:=⟨w.heap.size+1,1,none⟩) (by show w.heap.size+1<_;omega)).trans t2;have hall:=HB1.out.trans ((HBW.out.trans hb45).mono HB1.out.size);obtain ⟨p0,p1,f0,f1⟩:=res2 (g:=w.heap.size+2) (by exact HK3.out) hall sm))
 have HALL:=hid (HW0.out.trans ((HBW.out.trans hb45).mono HW0.out.size));clear hg2 hg3 hbk1 hbk2 hm1 hm2 ho1 ho2 hb3 hb4 hb5 hb45 hall hm4;exact k64
theorem gcd_pair (na nb:Bool) (a b:ByteArray) (ha:a.size≤400000000) (hb:b.size≤400000000) (w:World) (hT:Tab w) :
  Calls prog 126 #[.agg #[.bool na,.string a],.agg #[.bool nb,.string b]] w (RetZ w ((Nat.gcd (bval a) (bval b):Nat):Int)):=by
 by_cases h1:8<a.size
 · exact gcd_long na nb a b ha hb (.inl h1) w hT
 · by_cases h2:8<b.size
   · exact gcd_long na nb a b ha hb (.inr h2) w hT
   · exact gcd_short na nb a b om om w hT
theorem gcd_f {x y:Int} {bx by' bg:Bool} {mx my mg:ByteArray} (hx:enc x=.agg #[.bool bx,.string mx]) (hy:enc y=.agg #[.bool by',.string my]) (hg:enc ((Nat.gcd x.natAbs y.natAbs:Nat):Int)=.agg #[.bool bg,.string mg])
  (h1:mx.size≤400000000) (h2:my.size≤400000000) (w:World) (hT:Tab w) :
  Calls prog 126 #[.agg #[.bool bx,.string mx],.agg #[.bool by',.string my]] w (RetB w (.agg #[.bool bg,.string mg])):=by
 have ex:mx=mag x.natAbs:=by unfold enc at hx;injection hx with hx;injection hx with hx;injection hx with h3 h4;injection h4 with h4 h5;injection h4 with h4;exact h4.symm
 have ey:my=mag y.natAbs:=by unfold enc at hy;injection hy with hy;injection hy with hy;injection hy with h3 h4;injection h4 with h4 h5;injection h4 with h4;exact h4.symm
 have h:=gcd_pair bx by' mx my h1 h2 w hT
 have e1:bval mx=x.natAbs:=by rw [ex,bval_mag]
 have e2:bval my=y.natAbs:=by rw [ey,bval_mag]
 rw [e1,e2] at h;unfold RetZ at h;rw [hg] at h;exact h
theorem rt_self (X:Nat):rt X≤X:=by
 apply rt_le;rw [Nat.add_mul,Nat.one_mul];omega
theorem shp {s W p:Nat} (h:s=64*W+p):2^p*B64^W=2^s:=by
 have e:B64=2^64:=by decide
 rw [e,←Nat.pow_mul,←Nat.pow_add,h,Nat.add_comm]
theorem guess_first (X P Q:Nat) (hP:P=Q*Q) (hQ:0<Q):rt X≤(rt (X / P)+1)*Q:=by
 have hp:0<P:=by rw [hP];exact Nat.mul_pos hQ hQ
 have a1:=(rt_spec (X / P)).2
 have a2:X<(X / P+1)*P:=by
  have:=Nat.div_add_mod X P;have:=Nat.mod_lt X hp;rw [Nat.add_mul,Nat.mul_comm (X / P)];omega
 have a3:(X / P+1)*P≤(rt (X / P)+1)*(rt (X / P)+1)*P:=Nat.mul_le_mul_right _ a1
 have a4:(rt (X / P)+1)*(rt (X / P)+1)*P=((rt (X / P)+1)*Q)*((rt (X / P)+1)*Q):=by
  rw [hP,Nat.mul_mul_mul_comm]
 apply rt_le;exact Nat.lt_of_lt_of_le (Nat.lt_of_lt_of_le a2 (a4 ▸ a3)) (Nat.mul_le_mul (Nat.le_succ _) (Nat.le_succ _))
theorem root_any (X:Nat):∀ (A:Option Addr) (n c:Nat) (w:World) (_:n≤10000000) (_:Nm w A n c X),Calls prog 146 #[.slice A n c] w (RetN w (rt X) (2*n+10)):=by
 induction X using Nat.strongRecOn with
 | _ X ih =>
 intro A n c w hn hx;by_cases h0:n=0
 · subst h0;have hX:X=0:=hx.zero.1 rfl;subst hX;go_enter Tryz.func146,Tryz.ntmps146;go_wp2
   go_ret
   exact ⟨none,0,0,om,rfl,Nm.nil _,Below.refl _ _,fun k hk=>by cases hk⟩
 · by_cases h1:n=1
   · subst h1
     have hX0:0<X:=by
      rcases Nat.eq_zero_or_pos X with h | h
      · exact absurd (hx.zero.2 h) dc
      · exact h
     have hX1:X<18446744073709551616:=by have:=hx.lt;rw [Nat.pow_one] at this;exact this
     obtain ⟨gx,ox,hA,hgx,hcx⟩:=hx.rd om;subst hA;have hx0:=hcx 0 om;have hD:D B64 X 0=X:=by unfold D;rw [Nat.pow_zero,Nat.div_one];exact Nat.mod_eq_of_lt hX1
     rw [hD,Nat.add_zero] at hx0;have HW:=hid (fun V=>wordRoot_any X hX0 hX1 V);clear hcx hD;go_enter Tryz.func146,Tryz.ntmps146;go_wp2_with fail
     refine (HW.out _).mono ?_;rintro e w1 ⟨rfl,q,rfl⟩;go_wp2_with fail
     go_ret
     have hrl:rt X≤X:=rt_self X;refine ⟨some ⟨w.heap.size,0,none⟩,1,1,om,rfl,⟨⟨?_,Nat.le_refl _,rd_one _ _ _ (rt X) _ (heap_one _ _) ?_⟩,fun _=>?_⟩,(below_draws (Below.refl _ w) _).alloc (Nat.le_refl _) _,fun k hk=>by simp [Value.ownBlock] at hk;omega⟩
     · rw [Nat.pow_one,B64_eq];omega
     · unfold D;rw [Nat.pow_zero,Nat.div_one];exact Nat.mod_eq_of_lt (by rw [B64_eq];omega)
     · exact rt_pos hX0
   · have hX0 : 0 < X := by
      rcases Nat.eq_zero_or_pos X with h | h
      · exact absurd (hx.zero.2 h) h0
      · exact h
     obtain ⟨gx,ox,hA,hgx,hcx⟩:=hx.rd om;subst hA;have hxt:=hcx (n-1) om;have hdt:=D64_lt X (n-1);obtain ⟨t,ht⟩:∃ t,D B64 X (n-1)=t:=⟨_,rfl⟩
     rw [ht] at hxt hdt;obtain ⟨lz,hlz⟩:∃ lz,64-Lib.bitLen t=lz:=⟨_,rfl⟩
     have HL:=hid (fun V=>lz_any t lz hlz hdt V);have hlz64:lz≤64:=om;obtain ⟨h,hh⟩:∃ h,(64*n-lz) / 4=h:=⟨_,rfl⟩
     have hh1:((64:Int)*(n:Int)-(lz:Int)) / 4=(h:Int):=om;have hh16:16≤h:=om;have hhn:h≤16*n:=om;have e2:((2*h:Nat):Int)=2*(h:Int):=om;have hsr:=fun V hV=>shiftRight_any (some ⟨gx,ox,none⟩) n c X (2*h) (2*h / 64) (2*h%64) V om om om om hV
     rw [shp (s:=2*h) om,e2] at hsr;have HSR:=hid hsr;have HX:=hid hx;clear hsr hlz ht hh hcx hx;go_enter Tryz.func146,Tryz.ntmps146;go_wp2_with fail
     refine (HL.out _).mono ?_;rintro e w1 ⟨rfl,q,rfl⟩;go_wp2_with fail
     refine (HSR.out _ HX.out.toNg).mono ?_;rintro e w1 ⟨A1,n1,c1,hn1,rfl,hm1,hb1,hf1⟩;have HM1:=hid hm1;have HB1:=hid hb1;have h2h:2^1≤2^(2*h):=Nat.pow_le_pow_right om om;have HRT:=hid (ih (X / 2^(2*h)) (Nat.div_lt_self hX0 h2h) A1 n1 c1 w1 om hm1);clear hm1 hb1 hf1 ih;go_wp2_with fail
     refine HRT.out.mono ?_;rintro e w2 ⟨A2,n2,c2,hn2,rfl,hm2,hb2,hf2⟩;have HM2:=hid hm2;have HB2:=hid hb2;have hn2x:n2≤2*n+10:=om;have HPL:=hid (fun V (hV:V=w2.alloc (.cells #[.int .u64 1] 124))=>plus_any (.slice none 0 0) 0 A2 (some ⟨w2.heap.size,0,none⟩) n2 1 c2 1 (rt (X / 2^(2*h))) 1 V om om (Own.nil _ _) (Nat.zero_le _) (by subst hV;exact hm2.toNg.alloc _) (by subst hV;exact ⟨by decide,Nat.le_refl _,rd_one _ _ _ 1 _ (heap_one _ _) dc⟩) (fun z hz e=>by simp [Value.ownBlock] at e) (fun z hz e=>by simp [Value.ownBlock] at e));clear hm2 hb2 hf2;go_wp2_with fail
     refine (HPL.out _ rfl).mono ?_;rintro e w3 ⟨A3,n3,c3,hn3,rfl,hm3,hg3,hf3⟩;have HM3:=hid hm3;have hb3:Below w.heap.size w w3:=(HB1.out.trans (HB2.out.mono HB1.out.size)).trans (((Below.refl _ w2).alloc (Nat.le_refl _) _).trans (below_none (B:=w2.heap.size) hg3 (by simp)) |>.mono (Nat.le_trans HB1.out.size HB2.out.size));have HB3:=hid hb3;obtain ⟨q,hq⟩:∃ q,rt (X / 2^(2*h))+1=q:=⟨_,rfl⟩
     have hq0:0<q:=om;have hgs:=guess_first X (2^(2*h)) (2^h) (by rw [←Nat.pow_add];congr 1;omega) (Nat.pow_pos om);rw [hq] at hgs;have hm3b:=hm3;rw [hq] at hm3b;have hsl:=shiftLeft_any A3 n3 c3 q h (h / 64) (h%64) w3 om om om om hm3b.toNg;rw [shp (s:=h) om] at hsl
     have hGl:q*2^h<B64^(n3+h / 64+1):=by
      rw [←shp (s:=h) (W:=h / 64) (p:=h%64) om];have a1:2^(h%64)<B64:=Nat.lt_of_lt_of_le (Nat.pow_lt_pow_right om (show h%64<64 by omega)) dc;have a2:2^(h%64)*B64^(h / 64)<B64*B64^(h / 64):=Nat.mul_lt_mul_of_pos_right a1 (Nat.pow_pos B64_pos);have a3:=Nat.mul_lt_mul'' hm3b.lt a2;have e:B64^(n3+h / 64+1)=B64^n3*(B64*B64^(h / 64)):=by rw [Nat.add_assoc,Nat.pow_add,Nat.pow_succ,Nat.mul_comm (B64^(h / 64))]
      omega
     have hG0:0<q*2^h:=Nat.mul_pos hq0 (Nat.pow_pos om);have HSL:=hid hsl;have HGL:=hid hGl;have HG0:=hid hG0;have HGS:=hid hgs;clear hm3 hm3b hg3 hf3 hb3 hq hgs hsl hGl hG0 HRT HPL;go_wp2_with fail
     refine (HSL.out).mono ?_;rintro e w4 ⟨g4,rfl,hl4,hb4,hg4⟩;obtain ⟨N4,hN4⟩:∃ N4,n3+h / 64+1=N4:=⟨_,rfl⟩
     rw [hN4] at hl4 HGL;have hN4b:N4≤50000000:=om;have HTR:=hid (trim_any (some ⟨g4,0,none⟩) N4 N4 (q*2^h) w4 om ⟨HGL.out,Nat.le_refl _,hl4.rd⟩);have HB4:=hid ((HB3.out).trans (hb4.mono HB3.out.size));have hg4b:w.heap.size≤g4:=Nat.le_trans HB3.out.size hg4;rw [hN4];clear hl4 hb4 hg4 hN4 HSL HGL;go_wp2_with fail
     refine (HTR.out).mono ?_;rintro e w5 ⟨n5,hn5,rfl,hm5,rfl⟩;have HM5:=hid hm5;clear hm5 HTR;generalize q*2^h=G at *;have HX4:=hid (HX.out.below HB4.out);clear HX HM1 HB1 HM2 HB2 HM3 HB3 HL HSR h2h e2 hh1 hxt;go_wp2_with fail
     go_loopg [5] G (fun k x wr=>∃ A5 n5 c5,x=.slice A5 n5 c5∧Nm wr A5 n5 c5 k∧rt X≤k∧0<k∧n5≤50000000∧Below w.heap.size w wr∧Nm wr (some ⟨gx,ox,none⟩) n c X∧(∀ z,Value.ownBlock (.slice A5 n5 c5)=some z→w.heap.size≤z))
     case atStart =>
      exact ⟨_,n5,N4,rfl,HM5.out,HGS.out,HG0.out,om,HB4.out,HX4.out,fun z hz=>by simp [Value.ownBlock] at hz;omega⟩
     case round =>
      obtain ⟨A6,n6,c6,rfl,hm6,hge6,hpos6,hn6,hb6,hx6,hf6⟩:=hrel;have hdv:=divide_any (some ⟨gx,ox,none⟩) A6 n n6 c c6 X gk wr om om hx6 hm6 hpos6;have HDV:=hid hdv;have HM6:=hid hm6;have HX6:=hid hx6;have HB6:=hid hb6;have HF6:=hid hf6;clear hdv hm6 hx6 hb6 hf6 HM5 HGS HG0 HB4 HX4;go_wp2_with fail
      refine (HDV.out).mono ?_;rintro e w6 ⟨Aq,nq,cq,Ar,nr,cr,hnq,hnr,rfl,hmq,hmr,hbq,hfq,hfr⟩;have hq6:=(HM6.out.below hbq);have hHB:=hid (HB6.out.trans (hbq.mono HB6.out.size));have hHX:=hid (HX6.out.below hbq);have HPL:=hid (plus_any (.slice none 0 0) 0 A6 Aq n6 nq c6 cq gk (X / gk) w6 om om (Own.nil _ _) (Nat.zero_le _) hq6.toNg hmq.toNg (fun z hz e=>by simp [Value.ownBlock] at e) (fun z hz e=>by simp [Value.ownBlock] at e));have HM6:=hid hq6;clear hmq hmr hbq hfq hfr hq6 HDV HX6 HB6;go_wp2_with fail
      refine (HPL.out).mono ?_;rintro e w7 ⟨A7,n7,c7,hn7,rfl,hm7,hg7,hf7⟩;have hb7:=below_none (B:=w6.heap.size) hg7 (Nat.le_refl _);have hHB:=hid (hHB.out.trans (hb7.mono hHB.out.size));have hHX:=hid (hHX.out.below hb7);have HM6:=hid (HM6.out.below hb7);have hsr:=shiftRight_any A7 n7 c7 (gk+X / gk) 1 0 1 w7 om om om om hm7.toNg;rw [shp (s:=1) om,Nat.pow_one] at hsr;have HSR:=hid hsr;clear hm7 hg7 hf7 hb7 hsr HPL;obtain ⟨N,hN⟩:∃ N,(gk+X / gk) / 2=N:=⟨_,rfl⟩
      have hge:=newton_ge (x:=X) hpos6;have hsp:=fun h=>newton_stop (x:=X) hpos6 hge6 h
      rw [hN] at HSR hge hsp;have HGE:=hid hge;have HSP:=hid hsp;clear hge hsp hN;go_wp2_with fail
      refine (HSR.out).mono ?_;rintro e w8 ⟨A8,n8,c8,hn8,rfl,hm8,hb8,hf8⟩;have hF8:=hid (fun z hz=>Nat.le_trans hHB.out.size (hf8 z hz));have hHB:=hid (hHB.out.trans (hb8.mono hHB.out.size));have hHX:=hid (hHX.out.below hb8);have HM6:=hid (HM6.out.below hb8);have HM8:=hid hm8;have HCM:=hid (compare_any A8 A6 n8 n6 c8 c6 N gk w8 om om hm8 HM6.out);clear hm8 hb8 hf8 HSR;by_cases hst:gk≤N
      · obtain ⟨o,ho⟩:∃ o,ord N gk=o:=⟨_,rfl⟩
        have ho0:0≤o:=by
         rcases Nat.lt_or_ge gk N with h1 | h1
         · rw [←ho,ord_gt h1];decide
         · have:N=gk:=om;rw [←ho,this,ord_eq];decide
        have hod:decide ((0:Int)≤o)=true:=decide_eq_true ho0;rw [ho] at HCM;have HEQ:=hid (HSP.out hst);clear ho ho0 HSP;go_wp2_with fail
        refine (HCM.out).mono ?_;rintro e w9 ⟨rfl,qn,rfl⟩;go_wp2_with fail
        go_ret
        have e:=HEQ.out;subst e;refine ⟨A6,n6,c6,Nat.le_trans (Nm.le_len hHX.out.toNg HM6.out (rt_self X)) om,rfl,⟨⟨HM6.out.lt,HM6.out.cap,HM6.out.rd⟩,HM6.out.top⟩,below_draws hHB.out qn,HF6.out⟩
      · have ho:ord N gk=-1:=ord_lt om;rw [ho] at HCM;clear ho HSP;go_wp2_with fail
        refine (HCM.out).mono ?_;rintro e w9 ⟨rfl,qn,rfl⟩;go_wp2_with fail
        go_roundg N
        case measure=>omega
        case rel =>
         have h1:=rt_pos hX0;have h2:=HGE.out;exact ⟨A8,n8,c8,rfl,⟨⟨HM8.out.lt,HM8.out.cap,HM8.out.rd⟩,HM8.out.top⟩,h2,om,Nat.le_trans (Nm.le_len HM6.out.toNg HM8.out om) hn6,below_draws hHB.out qn,⟨⟨hHX.out.lt,hHX.out.cap,hHX.out.rd⟩,hHX.out.top⟩,hF8.out⟩
theorem neg_sign {x:Int} (h:x<0):x.sign=-1:=Int.sign_eq_neg_one_of_neg h
theorem nonneg_sign {x:Int} (h:0≤x):decide (x.sign<0)=false:=by
 have:¬x.sign<0:=by
  rcases Int.lt_trichotomy x 0 with h1 | h1 | h1
  · omega
  · subst h1;decide
  · rw [Int.sign_eq_one_of_pos h1];decide
 exact decide_eq_false this
theorem sqrt_f {x:Int} {b br:Bool} {m mr:ByteArray} (hx:enc x=.agg #[.bool b,.string m]) (h:0≤x) (hm:m.size≤40000000) (hr:enc ((rt x.natAbs:Nat):Int)=.agg #[.bool br,.string mr]) (w:World) :
  Calls prog 97 #[.agg #[.bool b,.string m]] w (RetB w (.tuple #[.agg #[.bool br,.string mr],.int .i64 0])):=by
 have hs:=fun V=>Sign_f hx V
 have hd:=nonneg_sign h;generalize x.sign=sx at *;have HS:=hid hs;have hbv:bval m=x.natAbs:=by rw [(enc_parts hx).2,bval_mag]
 have K0:=hid (K2.start w 23 (.bool b) (.string m) (.bool false) (.string ⟨#[]⟩));have HR:=hid hr;have HBV:=hid hbv;clear hs hx h hr hbv;go_enter Tryz.func97,Tryz.ntmps97;go_wp2_with fail
 refine (HS.out _).mono ?_;rintro e w1 ⟨rfl,hb1⟩;have K1:=hid (K0.out.next hb1);obtain ⟨c0,c1,p0,p1⟩:=K1.out.zx;clear hb1;go_wp2_with fail
 obtain ⟨W,hW⟩:∃ W,W=w1.alloc arr16:=⟨_,rfl⟩
 have l1:W.heap[w1.heap.size]?=some arr16:=by rw [hW];exact heap_one _ _
 have hbW:Below w1.heap.size w1 W:=by rw [hW];exact (Below.refl _ _).alloc (Nat.le_refl _) _
 have hszW:W.heap.size=w1.heap.size+1:=by rw [hW];simp
 have hsz1:=K1.out.sz;have c1':=(hbW.cell (p:=⟨w.heap.size,1,none⟩) (by show w.heap.size<_;omega)).trans c1;have HI:=hid (show Is16 W w1.heap.size from ⟨_,l1,by simp⟩);have HU:=hid (fun V (hV:Is16 V w1.heap.size)=>unpack_any (.slice (some ⟨w1.heap.size,0,none⟩) 0 16) m 0 V om (Nat.zero_le _) hV.own)
 have HP:∀ (V:World) (A:Option Addr) (n c:Nat),n≤1000000000→Ng V A n c (rt (bval m))→Calls prog 143 #[.bool false,.slice A n c] V (RetB V (.agg #[.bool br,.string mr])):=fun V A n c h1 h2=>by
  have h3:=pack_any false A n c _ V h1 h2;have e:sgn false (rt (bval m))=((rt x.natAbs:Nat):Int):=by rw [HBV.out];rfl
  unfold RetZ at h3;rw [e,HR.out] at h3;exact h3
 have HP:=hid HP;have HBW:=hid hbW;have hw9:w1.alloc arr16=W:=hW.symm;unfold arr16 at hw9;rw [hw9];clear hw9 hW hbW c0 c1 p0 p1 l1
 go_region_with (first
  | (go_at_call 144;(with_reducible refine (HU.out _ ?_).mono ?_);(exact HI.out.keep rfl);rintro e w2 ⟨A1,n1,d1,hn1,rfl,hm1,hg1,hbk1⟩)
  | (go_at_call 146;(with_reducible refine (root_any _ A1 n1 d1 _ om hm1).mono ?_);rintro e w3 ⟨A2,n2,d2,hn2,rfl,hm2,hb2,hf2⟩)
  | (go_at_call 143;(with_reducible refine (HP.out _ _ _ _ om hm2.toNg).mono ?_);rintro e w4 ⟨rfl,hb4⟩;have K4:=hid (((K1.out.next (HBW.out.drew.trans (below_of_grown (B:=w1.heap.size) (g:=w1.heap.size) hg1 (by show _≤W.heap.size;omega) (Nat.le_refl _)))).next hb2).next hb4);obtain ⟨p0,p1,p2,p3⟩:=blk_cells K4.out.k1))
 all_goals
  go_wp2
  exact bodyPost_ret (v:=.tuple #[.agg #[.bool br,.string mr],.int .i64 0]) (by simp [results,Tryz.results97,go_sem,p0,p1]) rfl ⟨rfl,(K4.out.bel.setCell (by show w.heap.size≤w.heap.size+1;omega) _).setCell (by show w.heap.size≤w.heap.size+1;omega) _⟩
structure IsS (w:World) (T:TypeId) (g:Nat) (b br:Bool) (m mr:ByteArray) (wc:World):Prop where
 k:K2 w T (.bool b) (.string m) (.bool false) (.string ⟨#[]⟩) wc
 z:Zi wc g br mr
 lo:w.heap.size+2≤g
 big:g+1≤wc.heap.size
theorem IsS.next {w w1 w2:World} {T:TypeId} {g:Nat} {b br:Bool} {m mr:ByteArray} (h:IsS w T g b br m mr w1) (hb:Below w1.heap.size w1 w2):IsS w T g b br m mr w2:=by
 have:=h.big;exact ⟨h.k.next hb,h.z.below hb om,h.lo,Nat.le_trans h.big hb.size⟩
theorem IsS.cells {w w1:World} {T:TypeId} {g:Nat} {b br:Bool} {m mr:ByteArray} (h:IsS w T g b br m mr w1):w1.cell? ⟨w.heap.size,0,none⟩=some (.bool b)∧w1.cell? ⟨w.heap.size,1,none⟩=some (.string m)∧w1.cell? ⟨g,0,none⟩=some (.bool br)∧w1.cell? ⟨g,1,none⟩=some (.string mr) :=
 ⟨h.k.zx.1,h.k.zx.2.1,h.z.c0,h.z.c1⟩
theorem IsS.mk2 {w w1:World} {T:TypeId} {b br:Bool} {m mr:ByteArray} (h:K2 w T (.bool b) (.string m) (.bool false) (.string ⟨#[]⟩) w1) (U:TypeId):IsS w T w1.heap.size b br m mr (w1.alloc (.cells #[.bool br,.string mr] U)):=by
 obtain ⟨a0,a1,_,_⟩:=blk_cells (heap_one w1 (.cells #[.bool br,.string mr] U));exact ⟨h.next ((Below.refl _ _).alloc (Nat.le_refl _) _),⟨a0,a1⟩,h.sz,by simp⟩
def RetIs (w:World) (b:Bool) (m:ByteArray) (v:Bool) (e:Ending) (w':World):Prop:=RetB w (.tuple #[.agg #[.bool b,.string m],.bool v]) e w'
theorem isSquare_neg {x:Int} {b:Bool} {m:ByteArray} (hx:enc x=.agg #[.bool b,.string m]) (h:x<0) (w:World) :
  Calls prog 128 #[.agg #[.bool b,.string m]] w (RetIs w false ⟨#[]⟩ false):=by
 have hs:=fun V=>Sign_f hx V
 rw [neg_sign h] at hs;have HS:=hid hs;have K0:=hid (K2.start w 23 (.bool b) (.string m) (.bool false) (.string ⟨#[]⟩));clear hs hx h;go_enter Tryz.func128,Tryz.ntmps128;go_wp2_with fail
 refine (HS.out _).mono ?_;rintro e w1 ⟨rfl,hb1⟩;have K1:=hid (K0.out.next hb1);obtain ⟨p0,p1,p2,p3⟩:=blk_cells K1.out.k1;clear hb1;go_wp2
 exact bodyPost_ret (v:=.tuple #[.agg #[.bool false,.string ⟨#[]⟩],.bool false]) (by simp [results,Tryz.results128,go_sem,p0,p1]) rfl ⟨rfl,by first | exact K1.out.bel | exact (K1.out.bel.setCell (by show w.heap.size≤w.heap.size+1;omega) _).setCell (by show w.heap.size≤w.heap.size+1;omega) _⟩
theorem isSquare_f {x:Int} {b br bp:Bool} {m mr mp:ByteArray} (hx:enc x=.agg #[.bool b,.string m]) (h:0≤x) (hm:m.size≤40000) (hr:enc ((rt x.natAbs:Nat):Int)=.agg #[.bool br,.string mr])
  (hp:enc (((rt x.natAbs:Nat):Int)*((rt x.natAbs:Nat):Int))=.agg #[.bool bp,.string mp]) (hmr:mr.size≤40000) (w:World) :
  Calls prog 128 #[.agg #[.bool b,.string m]] w (fun e w'=>if ((rt x.natAbs:Nat):Int)*((rt x.natAbs:Nat):Int)=x then RetIs w br mr true e w' else RetIs w false ⟨#[]⟩ false e w'):=by
 have hs:=fun V=>Sign_f hx V
 have hd:=nonneg_sign h;have HQ:=hid (fun V=>sqrt_f hx h om hr V);have HM:=hid (fun V=>mul_f hr hr om om hp rfl V);have hbv:bval m=x.natAbs:=by rw [(enc_parts hx).2,bval_mag]
 obtain ⟨v,hv,hvc⟩:=mayBeSquare_any m om;have HV:=hid hvc;have K0:=hid (K2.start w 23 (.bool b) (.string m) (.bool false) (.string ⟨#[]⟩));generalize x.sign=sx at *;have HS:=hid hs;clear hvc hs;cases v
 · have hns : ¬ ((rt x.natAbs : Nat) : Int) * ((rt x.natAbs : Nat) : Int) = x := fun e => by
    have h2:=hv (rt x.natAbs) (by rw [hbv];omega);cases h2
   simp only [if_neg hns];clear hns hv hbv hx hr hp h;go_enter Tryz.func128,Tryz.ntmps128;go_wp2_with fail
   refine (HS.out _).mono ?_;rintro e w1 ⟨rfl,hb1⟩;have K1:=hid (K0.out.next hb1);obtain ⟨c0,c1,p0,p1⟩:=K1.out.zx;clear hb1;go_wp2_with fail
   refine (HV.out _).mono ?_;rintro e w2 ⟨rfl,q,rfl⟩;obtain ⟨p0,p1,p2,p3⟩:=blk_cells K1.out.k1;go_wp2
   exact bodyPost_ret (v:=.tuple #[.agg #[.bool false,.string ⟨#[]⟩],.bool false]) (by simp [results,Tryz.results128,go_sem,p0,p1]) rfl ⟨rfl,by first | exact below_draws K1.out.bel q | exact ((below_draws K1.out.bel q).setCell (by show w.heap.size≤w.heap.size+1;omega) _).setCell (by show w.heap.size≤w.heap.size+1;omega) _⟩
 · clear hv hbv;by_cases he:((rt x.natAbs:Nat):Int)*((rt x.natAbs:Nat):Int)=x
   · have h5:Value.agg #[.bool bp,.string mp]=.agg #[.bool b,.string m]:=by rw [←hp,he,hx]
     obtain ⟨rfl,rfl⟩:bp=b∧mp=m:=by injection h5 with h6;simpa using h6
     simp only [if_pos he];clear he hx hp hr h5 h;go_enter Tryz.func128,Tryz.ntmps128;go_wp2_with fail
     refine (HS.out _).mono ?_;rintro e w1 ⟨rfl,hb1⟩;have K1:=hid (K0.out.next hb1);obtain ⟨c0,c1,p0,p1⟩:=K1.out.zx;clear hb1;go_wp2_with fail
     refine (HV.out _).mono ?_;rintro e w2 ⟨rfl,q,rfl⟩;go_wp2_with fail
     refine (HQ.out _).mono ?_;rintro e w3 ⟨rfl,hb3⟩;have K3:=hid ((K1.out.next (below_draws (Below.refl _ w1) q)).next hb3);have BB:=hid (IsS.mk2 (br:=br) (mr:=mr) K3.out 23);have BB:=hid (BB.out.next (Below.refl _ _).drew);obtain ⟨t0,t1,t2,t3⟩:=BB.out.cells;simp only [World.cell?_drew] at t0 t1 t2 t3;clear hb3 c0 c1 p0 p1;go_wp2_with fail
     go_region_held3 (fun w'=>w'.cell? ⟨w.heap.size,0,none⟩=some (.bool bp)∧w'.cell? ⟨w.heap.size,1,none⟩=some (.string mp)∧w'.cell? ⟨w3.heap.size,0,none⟩=some (.bool br)∧w'.cell? ⟨w3.heap.size,1,none⟩=some (.string mr))
      (first
       | go_keep
       | exact BB.out.cells)
      (first
       | (go_at_call 95;(with_reducible refine (HM.out _).mono ?_);rintro e wn ⟨rfl,hbn⟩;have BB:=hid (BB.out.next hbn)))
     obtain ⟨t0,t1,t2,t3⟩:=BB.out.cells;obtain ⟨p0,p1,p2,p3⟩:=blk_cells BB.out.k.k1;go_wp2
     exact bodyPost_ret (v:=.tuple #[.agg #[.bool br,.string mr],.bool true]) (by simp [results,Tryz.results128,go_sem,p0,p1]) rfl ⟨rfl,(BB.out.k.bel.setCell (by show w.heap.size≤w.heap.size+1;omega) _).setCell (by show w.heap.size≤w.heap.size+1;omega) _⟩
   · have hne:¬(bp=b∧mp=m):=fun ⟨h1,h2⟩=>he (by rw [←enc_sgn hp,←enc_sgn hx,h1,h2])
     have e1:b=false:=by rw [(enc_parts hx).1];exact decide_eq_false om
     have e2:bp=false:=by rw [(enc_parts hp).1];exact decide_eq_false (by have:=Int.natCast_nonneg (rt x.natAbs*rt x.natAbs);rw [Int.natCast_mul] at this;omega)
     simp only [if_neg he];clear he hx hp hr;subst e1;subst e2;have hne2:¬mp=m:=fun e=>hne ⟨rfl,e⟩
     clear hne;clear h;go_enter Tryz.func128,Tryz.ntmps128;go_wp2_with fail
     refine (HS.out _).mono ?_;rintro e w1 ⟨rfl,hb1⟩;have K1:=hid (K0.out.next hb1);obtain ⟨c0,c1,p0,p1⟩:=K1.out.zx;clear hb1;go_wp2_with fail
     refine (HV.out _).mono ?_;rintro e w2 ⟨rfl,q,rfl⟩;go_wp2_with fail
     refine (HQ.out _).mono ?_;rintro e w3 ⟨rfl,hb3⟩;have K3:=hid ((K1.out.next (below_draws (Below.refl _ w1) q)).next hb3);have BB:=hid (IsS.mk2 (br:=br) (mr:=mr) K3.out 23);have BB:=hid (BB.out.next (Below.refl _ _).drew);obtain ⟨t0,t1,t2,t3⟩:=BB.out.cells;simp only [World.cell?_drew] at t0 t1 t2 t3;clear hb3 c0 c1 p0 p1;have hnt:¬mp.data.toList=m.data.toList:=fun e=>hne2 (by cases mp;cases m;simp at e;rw [e])
     have hnl:(mp.data.toList==m.data.toList)=false:=by simpa using hnt
     have hnk:(mp.toList==m.toList)=false:=by rw [ByteArray.toList_eq,ByteArray.toList_eq];exact hnl
     clear hnt hne2;go_wp2_with fail
     go_region_held3 (fun w'=>w'.cell? ⟨w.heap.size,0,none⟩=some (.bool false)∧w'.cell? ⟨w.heap.size,1,none⟩=some (.string m)∧w'.cell? ⟨w3.heap.size,0,none⟩=some (.bool br)∧w'.cell? ⟨w3.heap.size,1,none⟩=some (.string mr))
      (first
       | go_keep
       | exact BB.out.cells)
      (first
       | (go_at_call 95;(with_reducible refine (HM.out _).mono ?_);rintro e wn ⟨rfl,hbn⟩;have BB:=hid (BB.out.next hbn)))
     obtain ⟨p0,p1,p2,p3⟩:=blk_cells BB.out.k.k1;go_wp2
     exact bodyPost_ret (v:=.tuple #[.agg #[.bool false,.string ⟨#[]⟩],.bool false]) (by simp [results,Tryz.results128,go_sem,p0,p1]) rfl ⟨rfl,by first | exact BB.out.k.bel | exact (BB.out.k.bel.setCell (by show w.heap.size≤w.heap.size+1;omega) _).setCell (by show w.heap.size≤w.heap.size+1;omega) _⟩
theorem below_step {B:Nat} {w w1 w2:World} (h:Below B w w1) (hB:B≤w.heap.size) (hb:Below w1.heap.size w1 w2):Below B w w2:=h.trans (hb.mono (Nat.le_trans hB h.size))
theorem below_new (w1:World) (o:Obj):Below w1.heap.size w1 (w1.alloc o):=(Below.refl _ _).alloc (Nat.le_refl _) _
theorem st_drew {V w7:World} (hb:Below V.drew.heap.size V.drew w7):Below V.heap.size V w7:=(Below.refl _ V).drew.trans (hb.mono (Nat.le_refl _))
theorem st_new {V w7:World} {o:Obj} (hb:Below (V.alloc o).heap.size (V.alloc o) w7):Below V.heap.size V w7:=(below_new V o).trans (hb.mono (below_new V o).size)
theorem st_new_drew {V w7:World} {o:Obj} (hb:Below (V.alloc o).drew.heap.size (V.alloc o).drew w7):Below V.heap.size V w7:=st_new (st_drew hb)
structure B3 (w:World) (T:TypeId) (a0 a1 b0 b1 c0 c1:Value) (w1:World):Prop where
 k0:w1.heap[w.heap.size]?=some (.cells #[a0,a1] T (0,0))
 k1:w1.heap[w.heap.size+1]?=some (.cells #[b0,b1] T (0,0))
 k2:w1.heap[w.heap.size+2]?=some (.cells #[c0,c1] T (0,0))
 sz:w.heap.size+3≤w1.heap.size
 bel:Below w.heap.size w w1
section
variable {w w1 w2:World} {T:TypeId} {a0 a1 b0 b1 c0 c1:Value}
theorem B3.start (w:World) (T:TypeId) (a0 a1 b0 b1 c0 c1:Value):B3 w T a0 a1 b0 b1 c0 c1 (((w.alloc (.cells #[a0,a1] T)).alloc (.cells #[b0,b1] T)).alloc (.cells #[c0,c1] T)):=by
 obtain ⟨k1,k2,k3⟩:=heap_three_all w (.cells #[a0,a1] T) (.cells #[b0,b1] T) (.cells #[c0,c1] T);exact k69
theorem B3.next (h:B3 w T a0 a1 b0 b1 c0 c1 w1) (hb:Below w1.heap.size w1 w2):B3 w T a0 a1 b0 b1 c0 c1 w2:=by
 exact k79
end
end Go.Proofs.YtpnokfgplnmjpaaGreatDoor
