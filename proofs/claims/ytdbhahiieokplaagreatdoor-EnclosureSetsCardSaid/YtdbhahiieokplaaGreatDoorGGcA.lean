import Derived.Test.YtdbhahiieokplaaGreatDoorGDivK
import Derived.Test.YtdbhahiieokplaaGreatDoorGSgQ
import Derived.Shelf.Spec.TrailingZeros
set_option linter.unusedSimpArgs false
set_option linter.unusedVariables false

namespace Go.Proofs.YtdbhahiieokplaaGreatDoor
open Go.RowKit
attribute [local go_sem ↓] Go.wp_at_zero Go.wp_at_succ

def Tab (w:World):Prop:=TabAt 1 Lib.deBruijn64tab w

theorem Tab.below {w w':World} {B:Nat} (h:Tab w) (hb:Below B w w') (hB:1<B):Tab w':=fun j hj=>(hb.cell (p:=⟨1,j,none⟩) hB).trans (h j hj)
theorem Tab.drewN {w:World} (h:Tab w) (k:Nat):Tab (w.drewN k):=h

set_option maxHeartbeats 1000000 in
set_option maxRecDepth 100000 in
theorem tz_core (x k idx:Nat) (w:World) (hx0:((x:Int)==0)=false)
  (key:IntKind.u64.wrap (bits BinOp.and IntKind.u64 (x:Int) (IntKind.u64.wrap (-(x:Int)))*285870213051353865) / 288230376151711744=(idx:Int))
  (hi:idx<64) (hk:k<64) (hcell:w.cell? ⟨1,idx,none⟩=some (.int .u8 k)) :
  Calls Tryz.prog 173 #[.int .u64 (x:Int)] w (RetV w (.int .i64 (k:Int))):=by
 go_enter Tryz.func173,Tryz.ntmps173
 go_wp2_with (simp only [key])
 go_ret
 exact ⟨rfl,rfl⟩

set_option maxHeartbeats 1000000 in
set_option maxRecDepth 100000 in
theorem tz_zero (w:World):Calls Tryz.prog 173 #[.int .u64 0] w (RetV w (.int .i64 64)):=by
 go_enter Tryz.func173,Tryz.ntmps173
 go_wp2
 go_ret
 exact ⟨rfl,rfl⟩

theorem tz_any (x:Nat) (hx:x<18446744073709551616) (w:World) (hT:Tab w) :
  Calls Tryz.prog 173 #[.int .u64 (x:Int)] w (RetV w (.int .i64 ((Lib.ctz 64 x:Nat):Int))) :=
 by
 by_cases hx0:x=0
 · subst hx0
   exact tz_zero w
 · obtain ⟨hlow,hk⟩:=Lib.lowest_bit 64 x hx0 hx
   obtain ⟨hi,htab⟩:=Lib.deBruijn64_at _ hk
   have hcell:=hT _ hi
   rw [htab] at hcell
   exact tz_core x _ _ w (by simp;omega) (tz64_key x _ hx hx0 hlow) hi hk hcell

theorem ctz_spec {x:Nat} (h0:0<x) (hx:x<18446744073709551616):∃ m,x=(2*m+1)*2^Lib.ctz 64 x∧Lib.ctz 64 x<64:=by
 obtain ⟨m,h1,h2⟩:=Lib.ctzFrom_spec 64 x h0 (by omega)
 have e:Lib.ctz 64 x=Lib.ctzFrom 64 x:=by unfold Lib.ctz;rw [if_neg (by omega)]
 rw [e]
 exact ⟨m,by rw [Nat.mul_comm];exact h1,h2⟩

theorem bit_odd {m j i:Nat} (h:i≤j):Nat.testBit ((2*m+1)*2^j) i=decide (i=j):=by
 rw [Nat.testBit_mul_two_pow]
 by_cases e:i=j
 · subst e
   simp [Nat.testBit_zero]
 · have:¬j≤i:=by omega
   simp [e,this]

theorem or_twos {x y o a b m j k t:Nat} (ho:x ||| y=o) (hx:x=(2*a+1)*2^j) (hy:y=(2*b+1)*2^k) (hm:o=(2*m+1)*2^t):t=min j k:=by
 have bit:∀ i,(Nat.testBit x i || Nat.testBit y i)=Nat.testBit o i:=fun i=>by rw [←ho,Nat.testBit_or]
 rcases Nat.lt_trichotomy t (min j k) with h | h | h
 · have:=bit t
   rw [hx,hy,hm,bit_odd (by omega),bit_odd (by omega),bit_odd (Nat.le_refl _)] at this
   have e1:¬t=j:=by omega
   have e2:¬t=k:=by omega
   simp [e1,e2] at this
 · exact h
 · rcases Nat.le_total j k with hjk | hjk
   · have:=bit j
     rw [hm,hx,bit_odd (i:=j) (j:=j) (Nat.le_refl _),bit_odd (i:=j) (j:=t) (by omega)] at this
     have e1:¬j=t:=by omega
     simp [e1] at this
   · have:=bit k
     rw [hm,hy,bit_odd (i:=k) (j:=k) (Nat.le_refl _),bit_odd (i:=k) (j:=t) (by omega)] at this
     have e1:¬k=t:=by omega
     simp [e1] at this

set_option maxHeartbeats 2000000 in
set_option maxRecDepth 100000 in
theorem wordGcd_pos (x y:Nat) (hx:x<18446744073709551616) (hy:y<18446744073709551616) (hx0:0<x) (hy0:0<y) (w:World) (hT:Tab w) :
  Calls Tryz.prog 146 #[.int .u64 (x:Int),.int .u64 (y:Int)] w (RetV w (.int .u64 ((Nat.gcd x y:Nat):Int))):=by
 have hob:x ||| y<18446744073709551616:=Nat.or_lt_two_pow (n:=64) hx hy
 have ho0:0<x ||| y:=by
  rcases Nat.eq_zero_or_pos (x ||| y) with h | h
  · have:=Nat.left_le_or (n:=x) (m:=y);omega
  · exact h
 have v1:bits .or .u64 (x:Int) (y:Int)=((x ||| y:Nat):Int):=bits_or_u64 x y hx hy
 obtain ⟨o,ho⟩:∃ o,x ||| y=o:=⟨_,rfl⟩
 rw [ho] at hob ho0 v1
 obtain ⟨m1,e1,l1⟩:=ctz_spec ho0 hob
 obtain ⟨m2,e2,l2⟩:=ctz_spec hx0 hx
 obtain ⟨m3,e3,l3⟩:=ctz_spec hy0 hy
 have ht:=or_twos ho e2 e3 e1
 have hg:=gcd_twos e2 e3 (by omega) (by omega)
 rw [←ht] at hg
 have hT1:=tz_any o hob w hT
 have hT2:=tz_any x hx w hT
 obtain ⟨t,htt⟩:∃ t,Lib.ctz 64 o=t:=⟨_,rfl⟩
 obtain ⟨j,hj⟩:∃ t,Lib.ctz 64 x=t:=⟨_,rfl⟩
 obtain ⟨k,hk⟩:∃ t,Lib.ctz 64 y=t:=⟨_,rfl⟩
 rw [htt] at hT1 hg l1
 rw [hj] at hT2 l2 e2
 rw [hk] at e3
 have hgy:Nat.gcd (2*m2+1) y=Nat.gcd (2*m2+1) (2*m3+1):=by rw [e3,gcd_odd_two (by omega)]
 have va:(x:Int) / 2^j=((2*m2+1:Nat):Int):=by
  rw [shr_word]
  conv=>lhs;rw [e2,Nat.mul_div_cancel _ (Nat.pow_pos (by omega))]
 have la:2*m2+1≤x:=by
  have:(2*m2+1)*1≤(2*m2+1)*2^j:=Nat.mul_le_mul_left _ (Nat.pow_pos (by omega))
  omega
 have hgb:Nat.gcd x y<18446744073709551616:=Nat.lt_of_le_of_lt (Nat.gcd_le_left _ hx0) hx
 obtain ⟨a0,ha0⟩:∃ a,2*m2+1=a:=⟨_,rfl⟩
 have ha1:a0%2=1:=by omega
 obtain ⟨g,hgg⟩:∃ g,Nat.gcd a0 (2*m3+1)=g:=⟨_,rfl⟩
 rw [ha0] at va la hg hgy
 rw [hgg] at hg hgy
 have HT1:=Lib.hid hT1
 have HT2:=Lib.hid hT2
 have HG:=Lib.hid hg
 have HGY:=Lib.hid hgy
 have HGB:=Lib.hid hgb
 have HT:=Lib.hid hT
 have bx:((x:Int)==0)=false:=by simp;omega
 have by':((y:Int)==0)=false:=by simp;omega
 clear hT1 hT2 hg hgy hgb hT ho htt hj hk hgg ha0 e1 e2 e3 ht ho0
 go_enter Tryz.func146,Tryz.ntmps146
 go_wp2_with fail
 refine HT1.out.mono ?_
 rintro e w1 ⟨rfl,rfl⟩
 go_wp2_with fail
 refine HT2.out.mono ?_
 rintro e w1 ⟨rfl,rfl⟩
 go_wp2_with fail
 go_loop [0,1] (fun p q=>∃ a b:Nat,p=.int .u64 (a:Int)∧q=.int .u64 (b:Int)∧a%2=1∧a<18446744073709551616∧b<18446744073709551616∧Hid (Nat.gcd a b=g)) (fun p q=>(intOf p+intOf q).toNat)
 case atStart=>exact ⟨a0,y,rfl,rfl,ha1,by omega,hy,HGY.out⟩
 case round =>
  obtain ⟨a,b,rfl,rfl,hao,hal,hbl,hgab⟩:=hrel
  by_cases hb0:b=0
  · subst hb0
    have hag:a=g:=by have:=hgab.out;rw [Nat.gcd_zero_right] at this;exact this
    subst hag
    have hsh:IntKind.u64.wrap ((a:Int)*2^t)=((Nat.gcd x y:Nat):Int):=by
     rw [shl_word,←HG.out,Nat.mod_eq_of_lt HGB.out]
    generalize Nat.gcd x y=gg at *
    go_wp2
    go_ret
    exact ⟨by first | rfl | (rw [hsh]),rfl⟩
  · have hbp:0<b:=by omega
    obtain ⟨m,em,lm⟩:=ctz_spec hbp hbl
    have hT3:=tz_any b hbl w HT.out
    obtain ⟨q,hq⟩:∃ t,Lib.ctz 64 b=t:=⟨_,rfl⟩
    rw [hq] at em lm hT3
    have vb:(b:Int) / 2^q=((2*m+1:Nat):Int):=by
     rw [shr_word]
     conv=>lhs;rw [em,Nat.mul_div_cancel _ (Nat.pow_pos (by omega))]
    have lb:2*m+1≤b:=by
     have:(2*m+1)*1≤(2*m+1)*2^q:=Nat.mul_le_mul_left _ (Nat.pow_pos (by omega))
     omega
    have hg1:Nat.gcd a (2*m+1)=g:=by
     have h:=hgab.out
     rw [em,gcd_odd_two hao] at h
     exact h
    obtain ⟨b1,hb1⟩:∃ b,2*m+1=b:=⟨_,rfl⟩
    have hb1o:b1%2=1:=by omega
    rw [hb1] at vb lb hg1
    have HT3:=Lib.hid hT3
    have HG1:=Lib.hid hg1
    have bb:((b:Int) != 0)=true:=by simp;omega
    clear hT3 hg1 hq em hb1 hgab
    by_cases hlt:b1<a
    · have hg2:Hid (Nat.gcd b1 (a-b1)=g):=by show _=_;rw [gcd_sub_odd (by omega),Nat.gcd_comm];exact HG1.out
      have vs:IntKind.u64.wrap ((a:Int)-(b1:Int))=((a-b1:Nat):Int):=wrap_u _ _ (by omega)
      go_wp2_with fail
      refine HT3.out.mono ?_
      rintro e w1 ⟨rfl,rfl⟩
      go_wp2
      go_round
      case rel=>exact ⟨b1,a-b1,rfl,by first | rfl | (rw [vs]) | (congr 1;omega),hb1o,by omega,by omega,hg2⟩
      case measure=>simp [intOf]<;>omega
    · have hg2:Hid (Nat.gcd a (b1-a)=g):=by show _=_;rw [gcd_sub_odd (by omega)];exact HG1.out
      have vs:IntKind.u64.wrap ((b1:Int)-(a:Int))=((b1-a:Nat):Int):=wrap_u _ _ (by omega)
      go_wp2_with fail
      refine HT3.out.mono ?_
      rintro e w1 ⟨rfl,rfl⟩
      go_wp2
      go_round
      case rel=>exact ⟨a,b1-a,rfl,by first | rfl | (rw [vs]) | (congr 1;omega),hao,by omega,by omega,hg2⟩
      case measure=>simp [intOf]<;>omega

set_option maxHeartbeats 1000000 in
set_option maxRecDepth 100000 in
theorem wordGcd_zero (x y:Nat) (hx:x<18446744073709551616) (hy:y<18446744073709551616) (h0:x=0∨y=0) (w:World) :
  Calls Tryz.prog 146 #[.int .u64 (x:Int),.int .u64 (y:Int)] w (RetV w (.int .u64 ((Nat.gcd x y:Nat):Int))):=by
 have v1:bits .or .u64 (x:Int) (y:Int)=((x ||| y:Nat):Int):=bits_or_u64 x y hx hy
 have v2:x ||| y=Nat.gcd x y:=by
  rcases h0 with rfl | rfl
  · rw [Nat.zero_or,Nat.gcd_zero_left]
  · rw [Nat.or_zero,Nat.gcd_zero_right]
 rw [v2] at v1
 generalize Nat.gcd x y=g at *
 clear v2
 by_cases hx0:x=0
 · subst hx0
   go_enter Tryz.func146,Tryz.ntmps146
   go_wp2
   go_ret
   exact ⟨by first | rfl | (rw [←v1];rfl),rfl⟩
 · obtain rfl:y=0:=by omega
   have bx:((x:Int)==0)=false:=by simp;omega
   go_enter Tryz.func146,Tryz.ntmps146
   go_wp2
   go_ret
   exact ⟨by first | rfl | (rw [←v1];rfl),rfl⟩

theorem wordGcd_any (x y:Nat) (hx:x<18446744073709551616) (hy:y<18446744073709551616) (w:World) (hT:Tab w) :
  Calls Tryz.prog 146 #[.int .u64 (x:Int),.int .u64 (y:Int)] w (RetV w (.int .u64 ((Nat.gcd x y:Nat):Int))):=by
 by_cases h:x=0∨y=0
 · exact wordGcd_zero x y hx hy h w
 · exact wordGcd_pos x y hx hy (by omega) (by omega) w hT
end Go.Proofs.YtdbhahiieokplaaGreatDoor
