import Derived.Test.YtpnokfgplnmjpaaGreatDoorGPo
import Derived.Test.YtpnokfgplnmjpaaGreatDoorGQT2
import Derived.Test.YtpnokfgplnmjpaaGreatDoorGQW
import Derived.Lib.OthersKept
import Derived.Test.YtpnokfgplnmjpaaGreatDoorGRefI
set_option linter.unusedSimpArgs false
set_option linter.unusedVariables false
set_option maxRecDepth 100000
set_option maxHeartbeats 4000000
open Go.Lib (hid)
namespace Go.Proofs.YtpnokfgplnmjpaaGreatDoor
open Go.RowKit
attribute [local go_sem ↓] Go.wp_at_zero Go.wp_at_succ
section
variable {g n V:Nat} {w1 w2:World}
end
theorem nd_lit {k:Nat} (h0:0<k) (h1:k<256):nd k=1:=by
 have h2:=nd_pos h0;have h3:nd k≤1:=by unfold nd;exact mag_size_le om
 omega
theorem tr_lit (w:World) (k:Nat) (h0:0<k) (h1:k<256):Tr (w.alloc (.cells #[.int .i64 (k:Int)] 3)) (some ⟨w.heap.size,0,none⟩) 1 1 k:=by
 refine ⟨⟨om,fun _=>⟨w.heap.size,0,rfl,by simp,fun j hj=>?_⟩⟩,(nd_lit h0 h1).symm,Nat.le_refl _,fun h=>by cases h⟩;obtain rfl:j=0:=om;refine (cell_of_row _ _ _ _ 3 (0,0) (heap_one w _)).trans ?_;have h2:k%256=k:=Nat.mod_eq_of_lt h1;simp [D,h2]
theorem tr_emp (w:World) (a:Addr):Tr w (some a) 0 0 0:=⟨⟨by decide,fun h=>absurd h om⟩,nd_zero.symm,Nat.le_refl _,fun h=>by cases h⟩
theorem lt_sq (V:Nat):V<(V+1)*(V+1):=Nat.lt_of_lt_of_le (Nat.lt_succ_self V) (Nat.le_mul_of_pos_right _ om)
theorem rroot (A:Option Addr) (n c V:Nat) (w:World) (hn:n≤100000) (hx:Tr w A n c V) :
  Calls Tryz.prog 120 #[.slice A n c] w (RetTo w (rt V)):=by
 have HX:=hid hx;have hnV:nd V=n:=hx.ln.symm;have HV1:=hid (show nd (V+1)≤100002 by have:=nd_add V 1;have:=nd_lit (k:=1) om om;omega);have HVN:=hid hnV;clear hx hnV;go_enter Tryz.func120,Tryz.ntmps120;go_wp2_with fail
 refine (rplus A (some ⟨w.heap.size+1,0,none⟩) n 1 c 1 V 1 _ om om ((HX.out.alloc _).alloc _).dg (by have h:=(tr_lit (w.alloc (.cells #[] 3)) 1 om om).dg;simpa using h)).mono ?_;rintro e w1 ⟨A1,n1,c1,rfl,ht1,hb1,_⟩;have HB1:=hid ((((Below.refl w.heap.size w).alloc (Nat.le_refl _) (.cells #[] 3)).alloc (by simp) (.cells #[.int .i64 1] 3)).trans (hb1.mono sm));have HT1:=hid ht1;clear ht1 hb1;go_wp2
 go_loopg [3,4] (V+1) (fun k av bv wr=>∃ (x y:Nat) (A':Option Addr) (n' c':Nat) (B':Option Addr) (m' d':Nat),av=.slice A' n' c'∧bv=.slice B' m' d'∧Hid (y≤x+k∧x<y∧y≤V+1∧x*x≤V∧V<y*y)∧Hid (Tr wr A' n' c' x∧Tr wr B' m' d' y∧Below w.heap.size w wr))
 case atStart=>exact ⟨0,V+1,_,0,0,A1,n1,c1,rfl,rfl,⟨om,om,Nat.le_refl _,om,lt_sq V⟩,tr_emp _ _,HT1.out,HB1.out⟩
 case round =>
  obtain ⟨x,y,A',n',c',B',m',d',rfl,rfl,HN,HH⟩:=hrel
  have hlx:n'≤100002:=by
   have h1:=HH.out.1.ln;have h2:=nd_mono (show x≤V+1 by have:=HN.out;omega);have:=HV1.out;omega
  have hly:m'≤100002:=by
   have h1:=HH.out.2.1.ln;have h2:=nd_mono (show y≤V+1 by have:=HN.out;omega);have:=HV1.out;omega
  have HXY:=hid (And.intro hlx hly);clear hlx hly;go_wp2_with fail
  refine (rplus A' (some ⟨wr.heap.size,0,none⟩) n' 1 c' 1 x 1 _ (by have:=HXY.out;omega) om (HH.out.1.alloc _).dg (tr_lit wr 1 om om).dg).mono ?_;rintro e w2 ⟨A2,n2,c2,rfl,ht2,hb2,_⟩;have HB2:=hid (((Below.refl wr.heap.size wr).alloc (Nat.le_refl _) (.cells #[.int .i64 1] 3)).trans (hb2.mono (by simp)));have HT2:=hid ht2;have HY2:=hid (HH.out.2.1.below HB2.out);have HX2:=hid (HH.out.1.below HB2.out)
  have hl2:n2≤100004:=by
   have h1:=ht2.ln;have h2:=nd_mono (show x+1≤V+1 by have:=HN.out;omega);have:=HV1.out;omega
  clear ht2 hb2;by_cases hlt:x+1<y
  · have hc:=rcompare_any A2 B' n2 m' c2 d' (x+1) y w2 om (by have:=HXY.out;omega) HT2.out HY2.out;rw [ord_lt hlt] at hc;have HC:=hid hc;clear hc;go_wp2_with fail
    refine HC.out.mono ?_;rintro e w3 ⟨rfl,nn,rfl⟩;have HB3:=hid (HH.out.2.2.trans ((below_draws HB2.out nn).mono HH.out.2.2.size));have HX3:=hid (HX2.out.drewN nn);have HY3:=hid (HY2.out.drewN nn);obtain ⟨W3,hW⟩:∃ W,W=w2.drewN nn:=⟨_,rfl⟩
    rw [←hW] at HB3 HX3 HY3 ⊢;clear hW HX2 HY2 HT2 HB2 HC hl2;go_wp2_with fail
    refine (rplus A' B' n' m' c' d' x y _ (by have:=HXY.out;omega) (by have:=HXY.out;omega) HX3.out.dg HY3.out.dg).mono ?_;rintro e w4 ⟨A4,n4,c4,rfl,ht4,hb4,_⟩;have HT4:=hid (ht4.alloc (.cells #[.int .i64 2] 3));have HX4:=hid ((HX3.out.below hb4).alloc (.cells #[.int .i64 2] 3));have HY4:=hid ((HY3.out.below hb4).alloc (.cells #[.int .i64 2] 3));have HB4:=hid ((HB3.out.trans (hb4.mono HB3.out.size)).alloc (Nat.le_trans HB3.out.size hb4.size) (.cells #[.int .i64 2] 3));have HTW:=hid (tr_lit w4 2 om om)
    have hl4:n4≤300000:=by
     have h1:=ht4.ln;have h2:=nd_add x y;have h3:=HH.out.1.ln;have h4:=HH.out.2.1.ln;have:=HXY.out;omega
    clear ht4 hb4;go_wp2_with fail
    refine (rdivide A4 (some ⟨w4.heap.size,0,none⟩) n4 1 c4 1 (x+y) 2 _ om om HT4.out HTW.out om).mono ?_;rintro e w5 ⟨A5,n5,c5,A6,n6,c6,rfl,ht5,_,hb5⟩;obtain ⟨M,hM⟩:∃ M,(x+y) / 2=M:=⟨_,rfl⟩
    rw [hM] at ht5;have hM1:x<M∧M<y:=om;have HM1:=hid hM1;have HT5:=hid ht5;have HX5:=hid (HX4.out.below hb5);have HY5:=hid (HY4.out.below hb5);have HB5:=hid (HB4.out.trans (hb5.mono HB4.out.size))
    have hl5:n5≤100004:=by
     have h1:=ht5.ln;have h2:=nd_mono (show M≤V+1 by have:=HN.out;omega);have:=HV1.out;omega
    clear ht5 hb5 hM HX4 HY4 HB4 HT4 HTW hl4;go_wp2_with fail
    refine (rtimes A5 A5 n5 n5 c5 c5 M M _ om om HT5.out.dg HT5.out.dg).mono ?_;rintro e w6 ⟨A7,n7,c7,rfl,ht7,hb7,_⟩;have HT7:=hid ht7;have HM6:=hid (HT5.out.below hb7);have HX6:=hid (HX5.out.below hb7);have HY6:=hid (HY5.out.below hb7);have HB6:=hid (HB5.out.trans (hb7.mono HB5.out.size));have HA6:=hid (HX.out.below HB6.out)
    have hl7:n7≤300000:=by
     have h1:=ht7.ln;have h2:=nd_mul M M;have h3:=HT5.out.ln;omega
    have HC7:=hid (rcompare_any A7 A n7 n c7 c (M*M) V w6 om om HT7.out HA6.out);clear ht7 hb7 HX5 HY5 HB5 HT5;go_wp2_with fail
    refine HC7.out.mono ?_;rintro e w7 ⟨rfl,n8,rfl⟩;have HM8:=hid (HM6.out.drewN n8);have HX8:=hid (HX6.out.drewN n8);have HY8:=hid (HY6.out.drewN n8);have HB8:=hid (below_draws HB6.out n8);by_cases hle:M*M≤V
    · have ho:¬0<ord (M*M) V:=by unfold ord;split<;>(try split)<;>omega
      have ho2:ord (M*M) V≤0:=om;generalize ord (M*M) V=o at *;go_wp2
      go_roundg (y-M)
      case measure=>have:=HN.out;have:=HM1.out;omega
      case rel=>exact ⟨M,y,A5,n5,c5,B',m',d',rfl,rfl,⟨by have:=HM1.out;omega,HM1.out.2,HN.out.2.2.1,hle,HN.out.2.2.2.2⟩,HM8.out,HY8.out,HB8.out⟩
    · have ho2:0<ord (M*M) V:=by unfold ord;rw [if_neg om,if_pos om];omega
      have ho:¬ord (M*M) V≤0:=om;generalize ord (M*M) V=o at *;go_wp2
      go_roundg (M-x)
      case measure=>have:=HN.out;have:=HM1.out;omega
      case rel=>exact ⟨x,M,A',n',c',A5,n5,c5,rfl,rfl,⟨by have:=HM1.out;omega,HM1.out.1,by have:=HN.out.2.2.1;have:=HM1.out;omega,HN.out.2.2.2.1,om⟩,HX8.out,HM8.out,HB8.out⟩
  · obtain ⟨o,ho,ho0⟩:=ord_ge (show y≤x+1 by omega);have hc:=rcompare_any A2 B' n2 m' c2 d' (x+1) y w2 om (by have:=HXY.out;omega) HT2.out HY2.out;rw [ho] at hc;have HC:=hid hc;have ho1:¬o<0:=om
    have hrt:rt V=x:=rt_unique HN.out.2.2.2.1 (by
     have h1:=HN.out.2.2.2.2;have h2:y=x+1:=by have:=HN.out;omega
     rw [h2] at h1;exact h1)
    have HRT:=hid hrt;clear hc ho hrt;go_wp2_with fail
    refine HC.out.mono ?_;rintro e w3 ⟨rfl,nn,rfl⟩;have HB3:=hid (HH.out.2.2.trans ((below_draws HB2.out nn).mono HH.out.2.2.size));have HX3:=hid (HX2.out.drewN nn);go_wp2
    go_ret
    exact ⟨A',n',c',rfl,by rw [HRT.out];exact HX3.out,HB3.out⟩
end Go.Proofs.YtpnokfgplnmjpaaGreatDoor
