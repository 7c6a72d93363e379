import Derived.Test.YtdbhahiieokplaaGreatDoorGStB
import Derived.Test.YtdbhahiieokplaaGreatDoorGStN
import Derived.Test.YtdbhahiieokplaaGreatDoorGDivK
import Derived.Test.YtdbhahiieokplaaGreatDoorGGcC
import Derived.Test.YtdbhahiieokplaaGreatDoorGRefI
import Derived.Test.YtdbhahiieokplaaGreatDoorGIntW
import Derived.Test.YtdbhahiieokplaaGreatDoorGRNC
set_option linter.unusedSimpArgs false
set_option linter.unusedVariables false

namespace Go.Proofs.YtdbhahiieokplaaGreatDoor
open Go.RowKit Go.Lib

end Go.Proofs.YtdbhahiieokplaaGreatDoor


namespace Go.Proofs.YtdbhahiieokplaaGreatDoor
open Go.RowKit
attribute [local go_sem ↓] Go.wp_at_zero Go.wp_at_succ

structure S2 (w:World) (b1 b2:Bool) (m1 m2:ByteArray) (wc:World):Prop where
 zx:Zi wc w.heap.size b1 m1
 zy:Zi wc (w.heap.size+1) b2 m2
 big:w.heap.size+2≤wc.heap.size
 bel:Below w.heap.size w wc
theorem S2.next {w w1 w2:World} {b1 b2:Bool} {m1 m2:ByteArray} (h:S2 w b1 b2 m1 m2 w1) (hb:Below w1.heap.size w1 w2):S2 w b1 b2 m1 m2 w2:=by
 have:=h.big
 exact ⟨h.zx.below hb (by omega),h.zy.below hb (by omega),Nat.le_trans h.big hb.size,h.bel.trans (hb.mono h.bel.size)⟩
theorem S2.drew {w w1:World} {b1 b2:Bool} {m1 m2:ByteArray} (h:S2 w b1 b2 m1 m2 w1):S2 w b1 b2 m1 m2 w1.drew:=h.next (Below.refl _ _).drew
theorem S2.alloc {w w1:World} {b1 b2:Bool} {m1 m2:ByteArray} (h:S2 w b1 b2 m1 m2 w1) (o:Obj):S2 w b1 b2 m1 m2 (w1.alloc o):=h.next ((Below.refl _ _).alloc (Nat.le_refl _) _)
theorem S2.cells {w wc:World} {b1 b2:Bool} {m1 m2:ByteArray} (h:S2 w b1 b2 m1 m2 wc) :
 wc.cell? ⟨w.heap.size,0,none⟩=some (.bool b1)∧wc.cell? ⟨w.heap.size,1,none⟩=some (.string m1)∧wc.cell? ⟨w.heap.size+1,0,none⟩=some (.bool b2)∧wc.cell? ⟨w.heap.size+1,1,none⟩=some (.string m2):=⟨h.zx.c0,h.zx.c1,h.zy.c0,h.zy.c1⟩

end Go.Proofs.YtdbhahiieokplaaGreatDoor


namespace Go.Proofs.YtdbhahiieokplaaGreatDoor
open Go.RowKit
attribute [local go_sem ↓] Go.wp_at_zero Go.wp_at_succ

def rt:Nat→Nat
 | 0=>0
 | n+1=>if (rt n+1)*(rt n+1)≤n+1 then rt n+1 else rt n

theorem sq_lt {a b:Nat} (h:a*a<b*b):a<b:=by
 rcases Nat.lt_or_ge a b with h1 | h1
 · exact h1
 · exact absurd (Nat.mul_le_mul h1 h1) (by omega)

theorem rt_spec (x:Nat):rt x*rt x≤x∧x<(rt x+1)*(rt x+1):=by
 induction x with
 | zero=>exact ⟨Nat.le_refl _,by decide⟩
 | succ n ih =>
   unfold rt
   split
   · refine ⟨by assumption,?_⟩
     have e:(rt n+1+1)*(rt n+1+1)=(rt n+1)*(rt n+1)+2*(rt n+1)+1:=by
      generalize rt n+1=a
      rw [Nat.add_mul,Nat.mul_add];omega
     omega
   · omega

theorem rt_unique {x r:Nat} (h1:r*r≤x) (h2:x<(r+1)*(r+1)):rt x=r:=by
 obtain ⟨a1,a2⟩:=rt_spec x
 have b1:=sq_lt (Nat.lt_of_le_of_lt a1 h2)
 have b2:=sq_lt (Nat.lt_of_le_of_lt h1 a2)
 omega

theorem rt_le {x G:Nat} (h:x<(G+1)*(G+1)):rt x≤G:=by
 have:=sq_lt (Nat.lt_of_le_of_lt (rt_spec x).1 h)
 omega

theorem newton_ge {x G:Nat} (h0:0<G):rt x≤(G+x / G) / 2:=by
 obtain ⟨h1,_⟩:=rt_spec x
 generalize rt x=r at *
 have hq:x<G*(x / G+1):=by
  have:=Nat.div_add_mod x G
  have:=Nat.mod_lt x h0
  rw [Nat.mul_add]
  omega
 generalize x / G=q at *
 rcases Nat.lt_or_ge (G+q) (2*r) with h | h
 · exfalso
   rcases Nat.le_total G r with hg | hg
   · obtain ⟨d,rfl⟩:=Nat.le.dest hg
     have a1:G*(q+1)≤G*(G+2*d):=Nat.mul_le_mul_left _ (by omega)
     have a2:(G+d)*(G+d)=G*(G+2*d)+d*d:=by
      rw [Nat.add_mul,Nat.mul_add,Nat.mul_add,Nat.mul_add,Nat.mul_comm d G,Nat.mul_left_comm G 2 d];omega
     omega
   · obtain ⟨d,rfl⟩:=Nat.le.dest hg
     obtain ⟨k,rfl⟩:∃ k,r=d+k:=⟨r-d,by omega⟩
     have a1:(d+k+d)*(q+1)≤(d+k+d)*k:=Nat.mul_le_mul_left _ (by omega)
     have a2:(d+k)*(d+k)=(d+k+d)*k+d*d:=by
      simp only [Nat.add_mul,Nat.mul_add,Nat.mul_comm k d];omega
     omega
 · omega

theorem newton_stop {x G:Nat} (h0:0<G) (h1:rt x≤G) (h2:G≤(G+x / G) / 2):rt x=G:=by
 have a1:G≤x / G:=by omega
 have a2:G*G≤x:=by
  have:=Nat.div_mul_le_self x G
  exact Nat.le_trans (Nat.mul_le_mul_right G a1) this
 have:=sq_lt (Nat.lt_of_le_of_lt a2 (rt_spec x).2)
 omega

theorem newton_bound {x G:Nat} (h0:0<G) (h1:rt x≤G):x / G≤G+2:=by
 have a1:=(rt_spec x).2
 have a2:(rt x+1)*(rt x+1)≤(G+1)*(G+1):=Nat.mul_le_mul (by omega) (by omega)
 have a3:(G+1)*(G+1)=G*(G+2)+1:=by simp only [Nat.add_mul,Nat.mul_add];omega
 have:x / G<G+3:=Nat.div_lt_of_lt_mul (by
  have:G*(G+3)=G*(G+2)+G:=by rw [←Nat.mul_succ]
  omega)
 omega

theorem rt_pos {x:Nat} (h:0<x):0<rt x:=by
 rcases Nat.eq_zero_or_pos (rt x) with h1 | h1
 · have:=(rt_spec x).2
   rw [h1] at this
   omega
 · exact h1

set_option maxHeartbeats 2000000 in
set_option maxRecDepth 100000 in
theorem wordRoot_any (x:Nat) (h0:0<x) (hx:x<18446744073709551616) (w:World) :
  Calls Tryz.prog 202 #[.int .u64 (x:Int)] w (fun e w'=>e=.returned (.int .u64 ((rt x:Nat):Int))∧Drew w w'):=by
 obtain ⟨l1,l2,l3⟩:=bitLen_bounds x (by omega) hx
 have l4:=Lib.bitLen_le x 64 (by omega) (by omega)
 have hl:=fun V=>Tryz.bits_Len64 (x:Int) V (by omega) (by omega)
 simp only [Int.toNat_natCast] at hl
 generalize Lib.bitLen x=L at *
 have HL:=Lib.hid hl
 clear hl
 obtain ⟨s,hs⟩:∃ s,(L+1) / 2=s:=⟨_,rfl⟩
 have hs1:((L:Int)+1) / 2=(s:Int):=by omega
 have hst:x<2^s*2^s:=by
  rw [←Nat.pow_add]
  exact Nat.lt_of_lt_of_le l3 (Nat.pow_le_pow_right (by omega) (by omega))
 have hs32:s≤32:=by omega
 have hp32:2^s≤4294967296:=Nat.pow_le_pow_right (n:=2) (by omega) hs32
 have hp0:0<2^s:=Nat.pow_pos (by omega)
 have HST:=Lib.hid hst
 clear hst l1 l2 l3 hs
 go_enter Tryz.func202,Tryz.ntmps202
 go_wp2_with fail
 refine (HL.out _).mono ?_
 rintro e w1 ⟨rfl,rfl⟩
 go_wp2_with fail
 have hw2:IntKind.u64.wrap ((2:Int)^s)=((2^s:Nat):Int):=by
  have e2:((2^s:Nat):Int)=(2:Int)^s:=by simp
  rw [←e2]
  exact IntWalk.u64_in _ (by omega)
 go_loopw [3] (fun m wr=>∃ G:Nat,m=.int .u64 (G:Int)∧rt x≤G∧0<G∧G≤4294967296∧Drew w1 wr) (fun m _=>(intOf m).toNat)
 case atStart =>
  exact ⟨2^s,by rw [hw2],rt_le (Nat.lt_trans HST.out (Nat.mul_lt_mul'' (Nat.lt_succ_self _) (Nat.lt_succ_self _))),hp0,hp32,Drew.refl _⟩
 case round =>
  obtain ⟨G,rfl,hG,hG0,hG32,hdr⟩:=hrel
  have hb:=newton_bound hG0 hG
  have hge:=newton_ge (x:=x) hG0
  have hsp:=fun h=>newton_stop hG0 hG h
  have hdv:((x:Int) / (G:Int))=((x / G:Nat):Int):=by simp
  have hne:((G:Int)==0)=false:=by simp;omega
  obtain ⟨N,hN⟩:∃ N,(G+x / G) / 2=N:=⟨_,rfl⟩
  rw [hN] at hge hsp
  have hN2:((G:Int)+((x / G:Nat):Int)) / 2=(N:Int):=by rw [←hN];omega
  have hNr:N≤4294967297:=by omega
  have HSP:=Lib.hid hsp
  have HGE:=Lib.hid hge
  clear hsp hge hN
  generalize x / G=Q at *
  by_cases hst:G≤N
  · go_wp2_with fail
    go_ret
    exact ⟨by rw [HSP.out hst];rfl,hdr⟩
  · go_wp2
    go_roundw
    case rel =>
     have:=HGE.out
     have:=rt_pos h0
     exact ⟨N,by rw [hN2],HGE.out,by omega,by omega,hdr⟩
    case measure=>simp [intOf]<;>omega

end Go.Proofs.YtdbhahiieokplaaGreatDoor


namespace Go.Proofs.YtdbhahiieokplaaGreatDoor
open Go.RowKit
attribute [local go_sem ↓] Go.wp_at_zero Go.wp_at_succ

theorem sq64:∀ q,q<64→144680414395695635 / 2^(q*q%64)%2=1:=by decide
theorem sq3:∀ q,q<3→3 / 2^(q*q%3)%2=1:=by decide
theorem sq5:∀ q,q<5→19 / 2^(q*q%5)%2=1:=by decide
theorem sq17:∀ q,q<17→107287 / 2^(q*q%17)%2=1:=by decide
theorem sq_mod (r m:Nat) (hm:0<m):r*r%m=(r%m)*(r%m)%m:=Nat.mul_mod r r m
theorem bit_and {a b:Nat} (ha:a%2=1) (hb:b%2=1):(a &&& b)%2=1:=by
 have h:=Nat.and_mod_two_pow (a:=a) (b:=b) (n:=1)
 rw [Nat.pow_one] at h
 rw [h,ha,hb]
 rfl

def sumB (m:ByteArray):Nat→Nat
 | 0=>0
 | k+1=>sumB m k+(if h:k<m.size then (m[k]'h).toNat else 0)
theorem sumB_succ {m:ByteArray} {k:Nat} (h:k<m.size):sumB m (k+1)=sumB m k+(m[k]'h).toNat:=by
 show sumB m k+(if h:k<m.size then (m[k]'h).toNat else 0)=_
 rw [dif_pos h]
theorem sumB_le (m:ByteArray):∀ k,k≤m.size→sumB m k≤255*k:=fun k=>by
 induction k with
 | zero=>exact fun _=>Nat.le_refl _
 | succ k ih =>
   intro hk
   have:=ih (by omega)
   have:=UInt8.toNat_lt (m[k]'(by omega))
   rw [sumB_succ (by omega)]
   omega
theorem sumB_mod (m:ByteArray):∀ k,k≤m.size→sumB m k%255=pre m k%255:=fun k=>by
 induction k with
 | zero=>exact fun _=>by rw [pre_zero];rfl
 | succ k ih =>
   intro hk
   have:=ih (by omega)
   rw [sumB_succ (by omega),pre_succ m k (by omega)]
   omega

set_option maxHeartbeats 2000000 in
set_option maxRecDepth 100000 in
theorem mayBeSquare_any (m:ByteArray) (hm:m.size≤400000000):∃ v:Bool,(∀ r,bval m=r*r→v=true)∧∀ w,Calls Tryz.prog 209 #[.string m] w (fun e w'=>e=.returned (.bool v)∧Drew w w'):=by
 by_cases h:0<m.size
 · have he:=empty_no h
   have hidx:m.size-1<m.size:=by omega
   obtain ⟨c,hc⟩:∃ c,(m[m.size-1]'hidx).toNat=c:=⟨_,rfl⟩
   have hc2:c<256:=by rw [←hc];exact UInt8.toNat_lt _
   have hcv:c=bval m%256:=by
    have h1:=dig_eq m 0
    unfold dig D at h1
    rw [dif_pos h,Nat.pow_zero,Nat.div_one] at h1
    rw [←h1,←hc]
    rfl
   obtain ⟨f,hf⟩:∃ f,(bits .and .u64 ((144680414395695635:Int) / 2^(c%64)) 1==0)=f:=⟨_,rfl⟩
   cases f
   · refine ⟨(bits .and .u64 (bits .and .u64 (bits .and .u64 ((3:Int) / 2^(sumB m m.size%3)) (19 / 2^(sumB m m.size%5))) (107287 / 2^(sumB m m.size%17))) 1==1),?_,fun w=>?_⟩
     rotate_left 1
     · clear hcv hc2
       go_enter Tryz.func209,Tryz.ntmps209
       go_wp2_with fail
       go_loop [3,18] (fun v i=>∃ k:Nat,k≤m.size∧i=.int .i64 k∧v=.int .u64 (sumB m k:Nat)) (fun _ i=>m.size-(intOf i).toNat)
       case atStart=>exact ⟨0,by omega,rfl,rfl⟩
       case round =>
        obtain ⟨k,hk,rfl,rfl⟩:=hrel
        by_cases hlt:k<m.size
        · have hsb:=sumB_le m k hk
          have hss:=sumB_succ hlt
          have hsl:=sumB_le m (k+1) hlt
          generalize sumB m k=S at *
          go_wp2
          go_round
          case rel=>exact ⟨k+1,by omega,by go_num,by rw [hss];first | go_num | rfl⟩
          case measure=>simp [intOf];omega
        · obtain rfl:k=m.size:=by omega
          have hsb:=sumB_le m m.size (Nat.le_refl _)
          obtain ⟨S,hS⟩:∃ S,sumB m m.size=S:=⟨_,rfl⟩
          rw [hS] at hsb
          rw [hS]
          go_wp2
          go_ret
          exact ⟨rfl,Drew.refl _⟩
     · intro r hr
       have hS:=sumB_mod m m.size (Nat.le_refl _)
       rw [pre_all,hr] at hS
       have a3:=sq3 (r%3) (Nat.mod_lt _ (by omega))
       have a5:=sq5 (r%5) (Nat.mod_lt _ (by omega))
       have a17:=sq17 (r%17) (Nat.mod_lt _ (by omega))
       rw [←sq_mod r 3 (by omega)] at a3
       rw [←sq_mod r 5 (by omega)] at a5
       rw [←sq_mod r 17 (by omega)] at a17
       generalize sumB m m.size=S at *
       rw [show r*r%3=S%3 by omega] at a3
       rw [show r*r%5=S%5 by omega] at a5
       rw [show r*r%17=S%17 by omega] at a17
       have l3:3 / 2^(S%3)≤3:=Nat.div_le_self _ _
       have l5:19 / 2^(S%5)≤19:=Nat.div_le_self _ _
       have l17:107287 / 2^(S%17)≤107287:=Nat.div_le_self _ _
       have e3:(3:Int) / 2^(S%3)=((3 / 2^(S%3):Nat):Int):=by simp
       have e5:(19:Int) / 2^(S%5)=((19 / 2^(S%5):Nat):Int):=by simp
       have e17:(107287:Int) / 2^(S%17)=((107287 / 2^(S%17):Nat):Int):=by simp
       rw [e3,e5,e17]
       generalize 3 / 2^(S%3)=p at *
       generalize 19 / 2^(S%5)=q at *
       generalize 107287 / 2^(S%17)=t at *
       have k1:p &&& q≤p:=Nat.and_le_left
       have k2:p &&& q &&& t≤p &&& q:=Nat.and_le_left
       have k3:=bit_and (bit_and a3 a5) a17
       rw [bits_and_u64 _ _ (by omega) (by omega),bits_and_u64 _ _ (by omega) (by omega),show (1:Int)=((1:Nat):Int) from rfl,bits_and_u64 _ _ (by omega) (by omega),Nat.and_one_is_mod,k3]
       rfl
   · refine ⟨false,fun r hr=>?_,fun w=>?_⟩
     · exfalso
       have h2:=sq64 (r%64) (Nat.mod_lt _ (by omega))
       rw [←sq_mod r 64 (by omega),←hr] at h2
       have h3:c%64=bval m%64:=by omega
       rw [h3] at hf
       have hle:144680414395695635 / 2^(bval m%64)≤144680414395695635:=Nat.div_le_self _ _
       have e:(144680414395695635:Int) / 2^(bval m%64)=((144680414395695635 / 2^(bval m%64):Nat):Int):=by simp
       rw [e,show (1:Int)=((1:Nat):Int) from rfl,bits_and_u64 _ _ (by omega) (by omega),Nat.and_one_is_mod,h2] at hf
       cases hf
     · clear hcv hc2
       go_enter Tryz.func209,Tryz.ntmps209
       go_wp2
       go_ret
       exact ⟨rfl,Drew.refl _⟩
 · have he:=empty_yes h
   refine ⟨true,fun _ _=>rfl,fun w=>?_⟩
   go_enter Tryz.func209,Tryz.ntmps209
   go_wp2
   go_ret
   exact ⟨rfl,Drew.refl _⟩
end Go.Proofs.YtdbhahiieokplaaGreatDoor


namespace Go.Proofs.YtdbhahiieokplaaGreatDoor
open Go.RowKit
attribute [local go_sem ↓] Go.wp_at_zero Go.wp_at_succ

theorem divMod_any (na nb:Bool) (a b:ByteArray) (ha:a.size≤400000000) (hb:b.size≤400000000) (h0:bval b≠0) (w:World) :
  Calls Tryz.prog 142 #[.agg #[.bool na,.string a],.agg #[.bool nb,.string b]] w (RetQ w (sgn na (bval a) / sgn nb (bval b)) (sgn na (bval a)%sgn nb (bval b)) 0):=by
 by_cases hs:8<a.size∨8<b.size
 · refine divMod_deep na nb a b ha hb 0 0 false (.inl rfl) (fun V=>words_no na nb a b hs V) w _ (fun h=>absurd h h0) (fun _ w' b1 m1 b2 m2 h1 h2 hw=>⟨?_,hw⟩)
   rw [h1.out,h2.out]
 · exact divMod_short na nb a b (by omega) (by omega) h0 w

section
variable {x y q r:Int} {b1 b2 b3 b4:Bool} {m1 m2 m3 m4:ByteArray} (hx:enc x=.agg #[.bool b1,.string m1]) (hy:enc y=.agg #[.bool b2,.string m2]) (s1:m1.size≤400000000) (s2:m2.size≤400000000)
include hx hy s1 s2 in
theorem divMod_f (h0:y≠0) (hq:enc q=.agg #[.bool b3,.string m3]) (hr:enc r=.agg #[.bool b4,.string m4]) (e1:q=x / y) (e2:r=x%y) (w:World) :
  Calls Tryz.prog 142 #[.agg #[.bool b1,.string m1],.agg #[.bool b2,.string m2]] w (RetB w (.tuple #[.agg #[.bool b3,.string m3],.agg #[.bool b4,.string m4],.int .i64 0])):=by
 subst e1
 subst e2
 have hb:bval m2≠0:=fun h=>h0 (by rw [←enc_sgn hy,h];cases b2<;>rfl)
 have h:=divMod_any b1 b2 m1 m2 s1 s2 hb w
 rw [enc_sgn hx,enc_sgn hy] at h
 unfold RetQ at h
 rw [hq,hr] at h
 exact h
include hy s1 s2 in
end

end Go.Proofs.YtdbhahiieokplaaGreatDoor


namespace Go.Proofs.YtdbhahiieokplaaGreatDoor
open Go.RowKit
attribute [local go_sem ↓] Go.wp_at_zero Go.wp_at_succ

end Go.Proofs.YtdbhahiieokplaaGreatDoor
