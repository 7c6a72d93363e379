import Derived.Test.YtpnokfgplnmjpaaGreatDoorGQF
import Derived.Test.YtpnokfgplnmjpaaGreatDoorGQT
import Derived.Test.YtpnokfgplnmjpaaGreatDoorGRefN
import Derived.Test.YtpnokfgplnmjpaaGreatDoorGIntT
import Derived.Test.YtpnokfgplnmjpaaGreatDoorGRefO
set_option linter.unusedSimpArgs false
set_option linter.unusedVariables false

namespace Go.Proofs.YtpnokfgplnmjpaaGreatDoor
open Go.RowKit
attribute [local go_sem ↓] Go.wp_at_zero Go.wp_at_succ

def RetTo (w:World) (V:Nat) (e:Ending) (w':World):Prop:=∃ A n c,e=.returned (.slice A n c)∧Tr w' A n c V∧Below w.heap.size w w'

set_option maxHeartbeats 4000000 in
set_option maxRecDepth 100000 in
theorem rcommon (A B:Option Addr) (n m c d X Y:Nat) (w:World) (hn:n≤1000000) (hm:m≤1000000) (hx:Tr w A n c X) (hy:Tr w B m d Y) :
  Calls Tryz.prog 111 #[.slice A n c,.slice B m d] w (RetTo w (Nat.gcd X Y)):=by
 have HX:=Lib.hid hx
 have HY:=Lib.hid hy
 clear hx hy
 go_enter Tryz.func111,Tryz.ntmps111
 go_wp2
 go_loopg [0,1] Y (fun k av bv wr=>∃ (x y:Nat) (A':Option Addr) (n' c':Nat) (B':Option Addr) (m' d':Nat),y≤k∧n'≤1000000∧m'≤1000000∧av=.slice A' n' c'∧bv=.slice B' m' d'∧Hid (Tr wr A' n' c' x∧Tr wr B' m' d' y∧Nat.gcd x y=Nat.gcd X Y∧Below w.heap.size w wr))
 case atStart=>exact ⟨X,Y,A,n,c,B,m,d,Nat.le_refl _,hn,hm,rfl,rfl,HX.out,HY.out,rfl,Below.refl _ _⟩
 case round =>
  obtain ⟨x,y,A',n',c',B',m',d',hyk,hn',hm',rfl,rfl,HH⟩:=hrel
  have hln:=HH.out.2.1.ln
  by_cases hz:0<m'
  · have hy0 : 0 < y := by
     rcases Nat.eq_zero_or_pos y with h | h
     · rw [h,nd_zero] at hln;omega
     · exact h
    have HDV:=Lib.hid (rdivide A' B' n' m' c' d' x y wr hn' hm' HH.out.1 HH.out.2.1 hy0)
    have hmod:=Nat.mod_lt x hy0
    have hmk:x%y<gk:=by omega
    have hn2:nd (x%y)≤1000000:=by have:=nd_mono (Nat.le_of_lt hmod);omega
    have HN2:=Lib.hid hn2
    have HG:=Lib.hid (show Nat.gcd y (x%y)=Nat.gcd X Y by rw [←HH.out.2.2.1,Nat.gcd_comm,←Nat.gcd_rec,Nat.gcd_comm])
    clear hln hmod hn2
    go_wp2_with fail
    refine HDV.out.mono ?_
    rintro e w' ⟨A1,n1,c1,A2,n2,c2,rfl,ht1,ht2,hb⟩
    have HT:=Lib.hid ht2
    have HTY:=Lib.hid (HH.out.2.1.below hb)
    have HB:=Lib.hid (HH.out.2.2.2.trans (hb.mono HH.out.2.2.2.size))
    have hn2:n2≤1000000:=by have:=HN2.out;rw [←ht2.ln] at this;exact this
    clear ht1 ht2 hb
    go_wp2
    go_roundg (x%y)
    case measure=>exact hmk
    case rel=>exact ⟨y,x%y,B',m',d',A2,n2,c2,Nat.le_refl _,hm',hn2,rfl,rfl,HTY.out,HT.out,HG.out,HB.out⟩
  · have hy0:y=0:=nd_zero_iff.1 (by omega)
    have hg:=HH.out.2.2.1
    rw [hy0,Nat.gcd_zero_right] at hg
    have HG:=Lib.hid hg
    clear hg hln hy0
    go_wp2
    go_ret
    exact ⟨A',n',c',rfl,by rw [←HG.out];exact HH.out.1,HH.out.2.2.2⟩

theorem sgn_natAbs (neg:Bool) (X:Nat):(sgn neg X).natAbs=X:=by cases neg<;>simp [sgn]
theorem sgn_div (neg:Bool) {X g:Nat} (h:g ∣ X):sgn neg X / (g:Int)=sgn neg ((X / g:Nat)):=by
 cases neg
 · simp [sgn]
 · simp only [sgn,if_true]
   rw [Int.neg_ediv_of_dvd (Int.natCast_dvd_natCast.2 h),Int.natCast_ediv]

theorem Rq.of_mk {neg:Bool} {X Y:Nat} (hY:0<Y) {b:Bool} {m k:ByteArray} (h1:enc (sgn neg ((X / Nat.gcd X Y:Nat)))=.agg #[.bool b,.string m]) (h2:k=dm (Y / Nat.gcd X Y)):Rq (mkRat (sgn neg X) Y) b m k:=by
 obtain ⟨e1,e2⟩:=mkRat_parts (sgn neg X) (d:=Y) (by omega)
 rw [sgn_natAbs] at e1 e2
 refine ⟨?_,?_⟩
 · rw [e1,sgn_div neg (Nat.gcd_dvd_left X Y)];exact h1
 · rw [e2];exact h2

def RetR (w:World) (q:Rat) (e:Ending) (w':World):Prop:=∃ b m k,e=.returned (.agg #[.bool b,.string m,.bool false,.string k])∧Rq q b m k∧Below w.heap.size w w'

theorem enc_nat' (n:Nat):enc (n:Int)=.agg #[.bool false,.string (mag n)]:=by
 unfold enc
 have h:decide ((n:Int)<0)=false:=by simp
 rw [h,Int.natAbs_natCast]

theorem enc_one_nil:enc (sgn false 0)=.agg #[.bool false,.string ⟨#[]⟩]:=enc_zero

set_option maxHeartbeats 8000000 in
set_option maxRecDepth 100000 in
theorem rcanonical (neg:Bool) (A B:Option Addr) (n m c d X Y:Nat) (w:World) (hn:n≤1000000) (hm:m≤1000000) (hx:Tr w A n c X) (hy:Tr w B m d Y) (hY:0<Y) :
  Calls Tryz.prog 123 #[.agg #[.bool neg,.slice A n c,.slice B m d]] w (RetR w (mkRat (sgn neg X) Y)):=by
 have HX:=Lib.hid hx
 have HY:=Lib.hid hy
 obtain ⟨G,hG⟩:∃ G,Nat.gcd X Y=G:=⟨_,rfl⟩
 have hG0:0<G:=hG ▸ Nat.gcd_pos_of_pos_right X hY
 have hGY:G≤Y:=hG ▸ Nat.gcd_le_right X hY
 have hGn:nd G≤1000000:=by have:=nd_mono hGY;rw [←hy.ln] at this;omega
 have hE0:0<Y / G:=Nat.div_pos hGY hG0
 obtain ⟨N',hN⟩:∃ N',X / G=N':=⟨_,rfl⟩
 obtain ⟨E',hE⟩:∃ E',Y / G=E':=⟨_,rfl⟩
 have hNn:nd N'≤1000000:=by have:=nd_div X G;rw [←hx.ln,hN] at this;omega
 have hEn:nd E'≤1000000:=by have:=nd_div Y G;rw [←hy.ln,hE] at this;omega
 rw [hE] at hE0
 have HFIN:=Lib.hid (fun b m k (h1:enc (sgn neg (N':Nat))=.agg #[.bool b,.string m]) (h2:k=dm E')=>Rq.of_mk (neg:=neg) (X:=X) hY (b:=b) (m:=m) (k:=k) (by rw [hG,hN];exact h1) (by rw [hG,hE];exact h2))
 have HG:=Lib.hid hG
 have HG0:=Lib.hid hG0
 have HGN:=Lib.hid hGn
 have HND:=Lib.hid (And.intro hN hE)
 have HNN:=Lib.hid (And.intro hNn hEn)
 have HE0:=Lib.hid hE0
 obtain ⟨bn,mn,hbn⟩:=enc_form (sgn neg (N':Nat))
 have HBN:=Lib.hid hbn
 have KK:=Lib.hid (Kb.start w #[.bool neg,.slice A n c,.slice B m d] #[.bool false,.string ⟨#[]⟩,.bool false,.string ⟨#[]⟩] 110 25)
 have HX1:=Lib.hid (KK.out.bel)
 clear hx hy hG hG0 hGY hGn hE0 hN hE hNn hEn hbn hY
 go_enter Tryz.func123,Tryz.ntmps123
 go_wp2_with fail
 refine (rcommon A B n m c d X Y _ hn hm (HX.out.below HX1.out) (HY.out.below HX1.out)).mono ?_
 rw [HG.out]
 rintro e w1 ⟨A1,n1,c1,rfl,ht1,hb1⟩
 have K1:=Lib.hid (KK.out.next hb1)
 have T1:=Lib.hid ht1
 have hn1:n1≤1000000:=by rw [ht1.ln];exact HGN.out
 obtain ⟨p0,p1,p2,_,_,_⟩:=blk3 K1.out.k1
 clear ht1 hb1 HX1
 go_wp2_with fail
 refine (rdivide A A1 n n1 c c1 X G _ hn hn1 (HX.out.below K1.out.bel) T1.out HG0.out).mono ?_
 rw [HND.out.1]
 rintro e w2 ⟨A2,n2,c2,A3,n3,c3,rfl,ht2,_,hb2⟩
 have K2:=Lib.hid (K1.out.next hb2)
 have T2:=Lib.hid ht2
 have T1':=Lib.hid (T1.out.below hb2)
 have hn2:n2≤1000000:=by rw [ht2.ln];exact HNN.out.1
 obtain ⟨q0,q1,q2,_,_,_⟩:=blk3 K2.out.k1
 clear ht2 hb2 p0 p1 p2
 go_wp2_with fail
 refine (rdivide B A1 m n1 d c1 Y G _ hm hn1 (HY.out.below K2.out.bel) T1'.out HG0.out).mono ?_
 rw [HND.out.2]
 rintro e w3 ⟨A4,n4,c4,A5,n5,c5,rfl,ht4,_,hb4⟩
 have K3:=Lib.hid (K2.out.next hb4)
 have T2':=Lib.hid (T2.out.below hb4)
 have T4:=Lib.hid ht4
 have hn4:n4≤1000000:=by rw [ht4.ln];exact HNN.out.2
 obtain ⟨r0,r1,r2,_,_,_⟩:=blk3 K3.out.k1
 have hl4:=ht4.ln
 have hp4:0<n4:=by rw [hl4];exact nd_pos HE0.out
 obtain ⟨g,o,rfl,hg,hc⟩:=T4.out.dg.rd hp4
 have hc0:=hc 0 hp4
 have hcase:(E'=1∧n4=1)∨(E'≠1∧n4≠1)∨(E'≠1∧n4=1∧D 256 E' 0≠1):=by
  by_cases h1:E'=1
  · exact .inl ⟨h1,by rw [hl4,h1,nd_one]⟩
  · by_cases h2:n4=1
    · refine .inr (.inr ⟨h1,h2,?_⟩)
      have h3:=T4.out.dg.lt
      rw [h2] at h3
      unfold D
      rw [Nat.pow_zero,Nat.div_one]
      omega
    · exact .inr (.inl ⟨h1,h2⟩)
 rw [Nat.add_zero] at hc0
 have HL4:=Lib.hid hl4
 clear ht4 hb4 q0 q1 q2 hc hl4
 rcases hcase with ⟨h1,h2⟩ | ⟨h1,h2⟩ | ⟨h1,h2,h3⟩
 · subst h1
   subst h2
   have hd1:D 256 1 0=1:=by decide
   rw [hd1] at hc0
   clear hd1
   go_wp2_with fail
   refine (rwhole neg A2 n2 c2 N' _ (by omega) T2'.out.cap T2'.out.dg).mono ?_
   rintro e w5 ⟨rfl,hb5⟩
   rw [HBN.out]
   go_wp2_with fail
   refine (rwhole false none 0 0 0 _ (by omega) (Nat.le_refl _) (tr_nil _).dg).mono ?_
   rintro e w6 ⟨rfl,hb6⟩
   rw [enc_one_nil]
   have K6:=Lib.hid ((K3.out.next hb5).next hb6)
   obtain ⟨s0,s1,s2,s3⟩:=blk4 K6.out.k2
   obtain ⟨f0,f1,f2,f3⟩:=fro4 K6.out.k2
   clear hb5 hb6 r0 r1 r2 hc0
   go_wp2
   exact bodyPost_ret (v:=.agg #[.bool bn,.string mn,.bool false,.string ⟨#[]⟩]) (by simp [results,Tryz.results123,go_sem,s0,s1,s2,s3]) rfl ⟨bn,mn,_,rfl,HFIN.out bn mn _ HBN.out (by rw [dm_one]),below_set4 K6.out.bel (by omega) _ _ _ _⟩
 · have hne:((n4:Int)==1)=false:=by simp;omega
   have HE1:=Lib.hid h1
   clear h1 h2
   go_wp2_with fail
   refine (rwhole neg A2 n2 c2 N' _ (by omega) T2'.out.cap T2'.out.dg).mono ?_
   rintro e w5 ⟨rfl,hb5⟩
   rw [HBN.out]
   go_wp2_with fail
   refine (rwhole false (some ⟨g,o,none⟩) n4 c4 E' _ (by omega) T4.out.cap (T4.out.dg.below hb5)).mono ?_
   rintro e w6 ⟨rfl,hb6⟩
   rw [(show enc (sgn false (E':Nat))=.agg #[.bool false,.string (mag E')] from enc_nat' E')]
   have K6:=Lib.hid ((K3.out.next hb5).next hb6)
   obtain ⟨s0,s1,s2,s3⟩:=blk4 K6.out.k2
   obtain ⟨f0,f1,f2,f3⟩:=fro4 K6.out.k2
   clear hb5 hb6 r0 r1 r2 hc0
   go_wp2
   exact bodyPost_ret (v:=.agg #[.bool bn,.string mn,.bool false,.string (mag E')]) (by simp [results,Tryz.results123,go_sem,s0,s1,s2,s3]) rfl ⟨bn,mn,_,rfl,HFIN.out bn mn _ HBN.out (by unfold dm;rw [if_neg HE1.out]),below_set4 K6.out.bel (by omega) _ _ _ _⟩
 · subst h2
   have hne:((D 256 E' 0:Int)==1)=false:=by simp;omega
   have HE1:=Lib.hid h1
   clear h1 h3
   generalize D 256 E' 0=dg at *
   go_wp2_with fail
   refine (rwhole neg A2 n2 c2 N' _ (by omega) T2'.out.cap T2'.out.dg).mono ?_
   rintro e w5 ⟨rfl,hb5⟩
   rw [HBN.out]
   go_wp2_with fail
   refine (rwhole false (some ⟨g,o,none⟩) 1 c4 E' _ (by omega) T4.out.cap (T4.out.dg.below hb5)).mono ?_
   rintro e w6 ⟨rfl,hb6⟩
   rw [(show enc (sgn false (E':Nat))=.agg #[.bool false,.string (mag E')] from enc_nat' E')]
   have K6:=Lib.hid ((K3.out.next hb5).next hb6)
   obtain ⟨s0,s1,s2,s3⟩:=blk4 K6.out.k2
   obtain ⟨f0,f1,f2,f3⟩:=fro4 K6.out.k2
   clear hb5 hb6 r0 r1 r2 hc0
   go_wp2
   exact bodyPost_ret (v:=.agg #[.bool bn,.string mn,.bool false,.string (mag E')]) (by simp [results,Tryz.results123,go_sem,s0,s1,s2,s3]) rfl ⟨bn,mn,_,rfl,HFIN.out bn mn _ HBN.out (by unfold dm;rw [if_neg HE1.out]),below_set4 K6.out.bel (by omega) _ _ _ _⟩
end Go.Proofs.YtpnokfgplnmjpaaGreatDoor


namespace Go.Proofs.YtpnokfgplnmjpaaGreatDoor
open Go.RowKit
attribute [local go_sem ↓] Go.wp_at_zero Go.wp_at_succ

theorem Rq.bval {q:Rat} {b:Bool} {m k:ByteArray} (h:Rq q b m k):bval m=q.num.natAbs:=by rw [h.mag.2,bval_mag]
theorem tr_one (w:World):Tr (w.alloc (.cells #[.int .i64 1] 3)) (some ⟨w.heap.size,0,none⟩) 1 1 1:=by
 refine ⟨⟨by decide,fun _=>⟨w.heap.size,0,rfl,by simp,fun j hj=>?_⟩⟩,nd_one.symm,Nat.le_refl _,fun h=>by cases h⟩
 obtain rfl:j=0:=by omega
 exact (cell_of_row _ _ _ _ 3 (0,0) (heap_one w _)).trans (by simp [D])

theorem Tr.set3 {W:World} {A:Option Addr} {n c V g:Nat} (h:Tr W A n c V) (hA:∀ a,A=some a→a.block≠g) (x y z:Value) :
  Tr (((W.setCell ⟨g,0,none⟩ x).setCell ⟨g,1,none⟩ y).setCell ⟨g,2,none⟩ z) A n c V :=
 ⟨((h.dg.apart hA _ _).apart hA _ _).apart hA _ _,h.ln,h.cap,h.nil⟩
theorem below_set3 {B:Nat} {a W:World} {g:Nat} (h:Below B a W) (hB:B≤g) (x y z:Value):Below B a (((W.setCell ⟨g,0,none⟩ x).setCell ⟨g,1,none⟩ y).setCell ⟨g,2,none⟩ z) :=
 ((h.setCell hB _).setCell hB _).setCell hB _

end Go.Proofs.YtpnokfgplnmjpaaGreatDoor


namespace Go.Proofs.YtpnokfgplnmjpaaGreatDoor
open Go.RowKit
attribute [local go_sem ↓] Go.wp_at_zero Go.wp_at_succ

theorem nd_lit {k:Nat} (h0:0<k) (h1:k<256):nd k=1:=by
 have h2:=nd_pos h0
 have h3:nd k≤1:=by unfold nd;exact mag_size_le (by omega)
 omega
theorem tr_lit (w:World) (k:Nat) (h0:0<k) (h1:k<256):Tr (w.alloc (.cells #[.int .i64 (k:Int)] 3)) (some ⟨w.heap.size,0,none⟩) 1 1 k:=by
 refine ⟨⟨by omega,fun _=>⟨w.heap.size,0,rfl,by simp,fun j hj=>?_⟩⟩,(nd_lit h0 h1).symm,Nat.le_refl _,fun h=>by cases h⟩
 obtain rfl:j=0:=by omega
 refine (cell_of_row _ _ _ _ 3 (0,0) (heap_one w _)).trans ?_
 have h2:k%256=k:=Nat.mod_eq_of_lt h1
 simp [D,h2]
theorem tr_emp (w:World) (a:Addr):Tr w (some a) 0 0 0:=⟨⟨by decide,fun h=>absurd h (by omega)⟩,nd_zero.symm,Nat.le_refl _,fun h=>by cases h⟩

theorem lt_sq (V:Nat):V<(V+1)*(V+1):=Nat.lt_of_lt_of_le (Nat.lt_succ_self V) (Nat.le_mul_of_pos_right _ (by omega))

set_option maxHeartbeats 4000000 in
set_option maxRecDepth 100000 in
theorem rroot (A:Option Addr) (n c V:Nat) (w:World) (hn:n≤100000) (hx:Tr w A n c V) :
  Calls Tryz.prog 120 #[.slice A n c] w (RetTo w (rt V)):=by
 have HX:=Lib.hid hx
 have hnV:nd V=n:=hx.ln.symm
 have HV1:=Lib.hid (show nd (V+1)≤100002 by have:=nd_add V 1;have:=nd_lit (k:=1) (by omega) (by omega);omega)
 have HVN:=Lib.hid hnV
 clear hx hnV
 go_enter Tryz.func120,Tryz.ntmps120
 go_wp2_with fail
 refine (rplus A (some ⟨w.heap.size+1,0,none⟩) n 1 c 1 V 1 _ (by omega) (by omega) ((HX.out.alloc _).alloc _).dg (by have h:=(tr_lit (w.alloc (.cells #[] 3)) 1 (by omega) (by omega)).dg;simpa using h)).mono ?_
 rintro e w1 ⟨A1,n1,c1,rfl,ht1,hb1,_⟩
 have HB1:=Lib.hid ((((Below.refl w.heap.size w).alloc (Nat.le_refl _) (.cells #[] 3)).alloc (by simp) (.cells #[.int .i64 1] 3)).trans (hb1.mono (by simp<;>omega)))
 have HT1:=Lib.hid ht1
 clear ht1 hb1
 go_wp2
 go_loopg [3,4] (V+1) (fun k av bv wr=>∃ (x y:Nat) (A':Option Addr) (n' c':Nat) (B':Option Addr) (m' d':Nat),av=.slice A' n' c'∧bv=.slice B' m' d'∧Hid (y≤x+k∧x<y∧y≤V+1∧x*x≤V∧V<y*y)∧Hid (Tr wr A' n' c' x∧Tr wr B' m' d' y∧Below w.heap.size w wr))
 case atStart=>exact ⟨0,V+1,_,0,0,A1,n1,c1,rfl,rfl,⟨by omega,by omega,Nat.le_refl _,by omega,lt_sq V⟩,tr_emp _ _,HT1.out,HB1.out⟩
 case round =>
  obtain ⟨x,y,A',n',c',B',m',d',rfl,rfl,HN,HH⟩:=hrel
  have hlx:n'≤100002:=by
   have h1:=HH.out.1.ln
   have h2:=nd_mono (show x≤V+1 by have:=HN.out;omega)
   have:=HV1.out
   omega
  have hly:m'≤100002:=by
   have h1:=HH.out.2.1.ln
   have h2:=nd_mono (show y≤V+1 by have:=HN.out;omega)
   have:=HV1.out
   omega
  have HXY:=Lib.hid (And.intro hlx hly)
  clear hlx hly
  go_wp2_with fail
  refine (rplus A' (some ⟨wr.heap.size,0,none⟩) n' 1 c' 1 x 1 _ (by have:=HXY.out;omega) (by omega) (HH.out.1.alloc _).dg (tr_lit wr 1 (by omega) (by omega)).dg).mono ?_
  rintro e w2 ⟨A2,n2,c2,rfl,ht2,hb2,_⟩
  have HB2:=Lib.hid (((Below.refl wr.heap.size wr).alloc (Nat.le_refl _) (.cells #[.int .i64 1] 3)).trans (hb2.mono (by simp)))
  have HT2:=Lib.hid ht2
  have HY2:=Lib.hid (HH.out.2.1.below HB2.out)
  have HX2:=Lib.hid (HH.out.1.below HB2.out)
  have hl2:n2≤100004:=by
   have h1:=ht2.ln
   have h2:=nd_mono (show x+1≤V+1 by have:=HN.out;omega)
   have:=HV1.out
   omega
  clear ht2 hb2
  by_cases hlt:x+1<y
  · have hc:=rcompare_any A2 B' n2 m' c2 d' (x+1) y w2 (by omega) (by have:=HXY.out;omega) HT2.out HY2.out
    rw [ord_lt hlt] at hc
    have HC:=Lib.hid hc
    clear hc
    go_wp2_with fail
    refine HC.out.mono ?_
    rintro e w3 ⟨rfl,nn,rfl⟩
    have HB3:=Lib.hid (HH.out.2.2.trans ((below_draws HB2.out nn).mono HH.out.2.2.size))
    have HX3:=Lib.hid (HX2.out.drewN nn)
    have HY3:=Lib.hid (HY2.out.drewN nn)
    obtain ⟨W3,hW⟩:∃ W,W=w2.drewN nn:=⟨_,rfl⟩
    rw [←hW] at HB3 HX3 HY3 ⊢
    clear hW HX2 HY2 HT2 HB2 HC hl2
    go_wp2_with fail
    refine (rplus A' B' n' m' c' d' x y _ (by have:=HXY.out;omega) (by have:=HXY.out;omega) HX3.out.dg HY3.out.dg).mono ?_
    rintro e w4 ⟨A4,n4,c4,rfl,ht4,hb4,_⟩
    have HT4:=Lib.hid (ht4.alloc (.cells #[.int .i64 2] 3))
    have HX4:=Lib.hid ((HX3.out.below hb4).alloc (.cells #[.int .i64 2] 3))
    have HY4:=Lib.hid ((HY3.out.below hb4).alloc (.cells #[.int .i64 2] 3))
    have HB4:=Lib.hid ((HB3.out.trans (hb4.mono HB3.out.size)).alloc (Nat.le_trans HB3.out.size hb4.size) (.cells #[.int .i64 2] 3))
    have HTW:=Lib.hid (tr_lit w4 2 (by omega) (by omega))
    have hl4:n4≤300000:=by
     have h1:=ht4.ln
     have h2:=nd_add x y
     have h3:=HH.out.1.ln
     have h4:=HH.out.2.1.ln
     have:=HXY.out
     omega
    clear ht4 hb4
    go_wp2_with fail
    refine (rdivide A4 (some ⟨w4.heap.size,0,none⟩) n4 1 c4 1 (x+y) 2 _ (by omega) (by omega) HT4.out HTW.out (by omega)).mono ?_
    rintro e w5 ⟨A5,n5,c5,A6,n6,c6,rfl,ht5,_,hb5⟩
    obtain ⟨M,hM⟩:∃ M,(x+y) / 2=M:=⟨_,rfl⟩
    rw [hM] at ht5
    have hM1:x<M∧M<y:=by omega
    have HM1:=Lib.hid hM1
    have HT5:=Lib.hid ht5
    have HX5:=Lib.hid (HX4.out.below hb5)
    have HY5:=Lib.hid (HY4.out.below hb5)
    have HB5:=Lib.hid (HB4.out.trans (hb5.mono HB4.out.size))
    have hl5:n5≤100004:=by
     have h1:=ht5.ln
     have h2:=nd_mono (show M≤V+1 by have:=HN.out;omega)
     have:=HV1.out
     omega
    clear ht5 hb5 hM HX4 HY4 HB4 HT4 HTW hl4
    go_wp2_with fail
    refine (rtimes A5 A5 n5 n5 c5 c5 M M _ (by omega) (by omega) HT5.out.dg HT5.out.dg).mono ?_
    rintro e w6 ⟨A7,n7,c7,rfl,ht7,hb7,_⟩
    have HT7:=Lib.hid ht7
    have HM6:=Lib.hid (HT5.out.below hb7)
    have HX6:=Lib.hid (HX5.out.below hb7)
    have HY6:=Lib.hid (HY5.out.below hb7)
    have HB6:=Lib.hid (HB5.out.trans (hb7.mono HB5.out.size))
    have HA6:=Lib.hid (HX.out.below HB6.out)
    have hl7:n7≤300000:=by
     have h1:=ht7.ln
     have h2:=nd_mul M M
     have h3:=HT5.out.ln
     omega
    have HC7:=Lib.hid (rcompare_any A7 A n7 n c7 c (M*M) V w6 (by omega) (by omega) HT7.out HA6.out)
    clear ht7 hb7 HX5 HY5 HB5 HT5
    go_wp2_with fail
    refine HC7.out.mono ?_
    rintro e w7 ⟨rfl,n8,rfl⟩
    have HM8:=Lib.hid (HM6.out.drewN n8)
    have HX8:=Lib.hid (HX6.out.drewN n8)
    have HY8:=Lib.hid (HY6.out.drewN n8)
    have HB8:=Lib.hid (below_draws HB6.out n8)
    by_cases hle:M*M≤V
    · have ho:¬0<ord (M*M) V:=by unfold ord;split<;>(try split)<;>omega
      have ho2:ord (M*M) V≤0:=by omega
      generalize ord (M*M) V=o at *
      go_wp2
      go_roundg (y-M)
      case measure=>have:=HN.out;have:=HM1.out;omega
      case rel=>exact ⟨M,y,A5,n5,c5,B',m',d',rfl,rfl,⟨by have:=HM1.out;omega,HM1.out.2,HN.out.2.2.1,hle,HN.out.2.2.2.2⟩,HM8.out,HY8.out,HB8.out⟩
    · have ho2:0<ord (M*M) V:=by unfold ord;rw [if_neg (by omega),if_pos (by omega)];omega
      have ho:¬ord (M*M) V≤0:=by omega
      generalize ord (M*M) V=o at *
      go_wp2
      go_roundg (M-x)
      case measure=>have:=HN.out;have:=HM1.out;omega
      case rel=>exact ⟨x,M,A',n',c',A5,n5,c5,rfl,rfl,⟨by have:=HM1.out;omega,HM1.out.1,by have:=HN.out.2.2.1;have:=HM1.out;omega,HN.out.2.2.2.1,by omega⟩,HX8.out,HM8.out,HB8.out⟩
  · obtain ⟨o,ho,ho0⟩:=ord_ge (show y≤x+1 by omega)
    have hc:=rcompare_any A2 B' n2 m' c2 d' (x+1) y w2 (by omega) (by have:=HXY.out;omega) HT2.out HY2.out
    rw [ho] at hc
    have HC:=Lib.hid hc
    have ho1:¬o<0:=by omega
    have hrt:rt V=x:=rt_unique HN.out.2.2.2.1 (by
     have h1:=HN.out.2.2.2.2
     have h2:y=x+1:=by have:=HN.out;omega
     rw [h2] at h1
     exact h1)
    have HRT:=Lib.hid hrt
    clear hc ho hrt
    go_wp2_with fail
    refine HC.out.mono ?_
    rintro e w3 ⟨rfl,nn,rfl⟩
    have HB3:=Lib.hid (HH.out.2.2.trans ((below_draws HB2.out nn).mono HH.out.2.2.size))
    have HX3:=Lib.hid (HX2.out.drewN nn)
    go_wp2
    go_ret
    exact ⟨A',n',c',rfl,by rw [HRT.out];exact HX3.out,HB3.out⟩
end Go.Proofs.YtpnokfgplnmjpaaGreatDoor


namespace Go.Proofs.YtpnokfgplnmjpaaGreatDoor
open Go.RowKit
attribute [local go_sem ↓] Go.wp_at_zero Go.wp_at_succ

def decs (X:Nat):List UInt8:=if X=0 then [] else Lib.decDigits X
theorem decs_step {X:Nat} (h:0<X):decs X=decs (X / 10)++[UInt8.ofNat (48+X%10)]:=by
 unfold decs
 rw [if_neg (by omega),Lib.decDigits]
 by_cases h1:X<10
 · rw [dif_pos h1,if_pos (by omega),Nat.mod_eq_of_lt h1]
   rfl
 · rw [dif_neg h1,if_neg (by omega)]

set_option maxHeartbeats 4000000 in
set_option maxRecDepth 100000 in
theorem rdecimal (A:Option Addr) (n c V:Nat) (w:World) (hn:n≤1000) (hx:Tr w A n c V) :
  Calls Tryz.prog 168 #[.slice A n c] w (RetB w (.string ⟨(printed false V).toArray⟩)):=by
 have HX:=Lib.hid hx
 by_cases hV:V=0
 · have h0:n=0:=by rw [hx.ln,hV,nd_zero]
   subst h0
   have hp:printed false V=[48]:=by unfold printed;rw [if_pos hV]
   rw [hp]
   clear hx hp
   go_enter Tryz.func168,Tryz.ntmps168
   go_wp2
   go_ret
   exact ⟨rfl,Below.refl _ _⟩
 · have hn0:0<n:=by rw [hx.ln];exact nd_pos (by omega)
   have hp:printed false V=decs V:=by unfold printed decs;rw [if_neg hV,if_neg hV];rfl
   rw [hp]
   have hne:¬(n:Int)=0:=by omega
   have hneb:((n:Int)==0)=false:=by simpa using hne
   have hdl:(decs V).length≤3001:=by
    unfold decs
    rw [if_neg hV,Lib.decDigits_length]
    exact digits_few rfl (by have h:=hx.ln;unfold nd at h;omega)
   have HDL:=Lib.hid hdl
   clear hx hp hdl
   go_enter Tryz.func168,Tryz.ntmps168
   go_wp2
   go_loopg [0,3] V (fun k av sv wr=>∃ (x:Nat) (A':Option Addr) (n' c':Nat) (l:List UInt8),av=.slice A' n' c'∧sv=.string ⟨l.toArray⟩∧Hid (x≤k∧n'≤100000∧decs V=decs x++l)∧Hid (Tr wr A' n' c' x∧Below w.heap.size w wr))
   case atStart=>exact ⟨V,A,n,c,[],rfl,rfl,⟨Nat.le_refl _,by omega,by simp⟩,HX.out,Below.refl _ _⟩
   case round =>
    obtain ⟨x,A',n',c',l,rfl,rfl,HC,HH⟩:=hrel
    have hln:=HH.out.1.ln
    by_cases hz:0<n'
    · have hx0 : 0 < x := by
       rcases Nat.eq_zero_or_pos x with h | h
       · rw [h,nd_zero] at hln;omega
       · exact h
      have hn2:=HC.out.2.1
      have hll:l.length≤3001:=by
       have h1:=congrArg List.length HC.out.2.2
       rw [List.length_append] at h1
       have:=HDL.out
       omega
      clear hln
      go_wp2_with fail
      refine (rdivide A' (some ⟨wr.heap.size,0,none⟩) n' 1 c' 1 x 10 _ (by omega) (by omega) (HH.out.1.alloc _) (tr_lit wr 10 (by omega) (by omega)) (by omega)).mono ?_
      rintro e w2 ⟨A1,n1,c1,A2,n2,c2,rfl,ht1,ht2,hb2⟩
      have HB2:=Lib.hid (HH.out.2.trans (((Below.refl wr.heap.size wr).alloc (Nat.le_refl _) (.cells #[.int .i64 10] 3)).trans (hb2.mono (by simp)) |>.mono HH.out.2.size))
      have HT1:=Lib.hid ht1
      have hl1:n1≤100000:=by
       have h1:=ht1.ln
       have h2:=nd_div x 10
       have h3:=HH.out.1.ln
       omega
      have hsm:=rsmall_yes A2 n2 c2 (x%10) w2 (by
       have h1:=ht2.ln
       have h2:=nd_mono (show x%10≤9 by omega)
       have h3:=nd_lit (k:=9) (by omega) (by omega)
       omega) ht2.dg
      obtain ⟨d,hd⟩:∃ d,x%10=d:=⟨_,rfl⟩
      rw [hd] at hsm
      have hd10:d<10:=by omega
      have HSM:=Lib.hid hsm
      clear ht1 ht2 hb2 hsm
      go_wp2_with fail
      refine HSM.out.mono ?_
      rintro e w3 ⟨rfl,rfl⟩
      obtain ⟨u,hu⟩:∃ u,UInt8.ofNat (48+d)=u:=⟨_,rfl⟩
      have hun:(u.toNat:Int)=48+(d:Int):=by rw [←hu];simp;omega
      have hcv:(convert 151 9 (.slice (some ⟨w2.heap.size,0,none⟩) 1 1)).run Tryz.prog (w2.alloc (.cells #[.int .u8 (48+(d:Int))] 5))=.ok (.string ⟨#[u]⟩) (w2.alloc (.cells #[.int .u8 (48+(d:Int))] 5)):=by
       have h:=run_convert_bytes_back (P:=Tryz.prog) (w2.alloc (.cells #[.int .u8 (48+(d:Int))] 5)) 151 9 5 ⟨w2.heap.size,0,none⟩ 1 [u] Tryz.underlying151 Tryz.underlying5 Tryz.underlying9 (fun j hj=>by
        obtain rfl:j=0:=by simp at hj;omega
        rw [Lib.add_plain]
        show _=some (Value.int .u8 (u.toNat:Int))
        rw [hun]
        simp)
       exact h
      have hb5:Below w2.heap.size w2 (w2.alloc (.cells #[.int .u8 (48+(d:Int))] 5)):=(Below.refl _ _).alloc (Nat.le_refl _) _
      have HT5:=Lib.hid (HT1.out.below hb5)
      have HB5:=Lib.hid (HB2.out.trans (hb5.mono HB2.out.size))
      have HU:=Lib.hid hu
      have HD:=Lib.hid hd
      clear hb5 hun hu hd
      go_wp2_with fail
      go_roundg (x / 10)
      case measure=>have:=HC.out.1;have:=Nat.div_lt_self hx0 (show 1<10 by decide);omega
      case rel =>
       refine ⟨x / 10,A1,n1,c1,u :: l,rfl,by rw [cat_one],⟨Nat.le_refl _,hl1,?_⟩,HT5.out,HB5.out⟩
       rw [HC.out.2.2,decs_step hx0,HD.out,HU.out,List.append_assoc]
       rfl
    · have hx0:x=0:=nd_zero_iff.1 (by omega)
      have hs:l=decs V:=by rw [HC.out.2.2,hx0];rfl
      subst hs
      clear hln
      go_wp2
      go_ret
      exact ⟨rfl,HH.out.2⟩
end Go.Proofs.YtpnokfgplnmjpaaGreatDoor


namespace Go.Proofs.YtpnokfgplnmjpaaGreatDoor
open Go.RowKit
attribute [local go_sem ↓] Go.wp_at_zero Go.wp_at_succ

set_option maxHeartbeats 8000000 in
set_option maxRecDepth 100000 in
theorem rmake (b1 b2:Bool) (m1 m2:ByteArray) (h1:m1.size≤1000000) (h2:m2.size≤1000000) (hY:0<bval m2) (w:World) :
  Calls Tryz.prog 103 #[.agg #[.bool b1,.string m1],.agg #[.bool b2,.string m2]] w (RetR w (mkRat (sgn (b1 != b2) (bval m1)) (bval m2))):=by
 have KK:=Lib.hid ((Kc.start w #[.bool b1,.string m1] #[.bool b2,.string m2] #[.bool false,.string ⟨#[]⟩,.bool false,.string ⟨#[]⟩] 23 23 25).drew)
 have HD1:=Lib.hid (fun V=>rdigits b1 m1 V (by omega))
 have HD2:=Lib.hid (fun V=>rdigits b2 m2 V (by omega))
 have HN1:=Lib.hid (nd_le (bval_lt m1))
 have HN2:=Lib.hid (nd_le (bval_lt m2))
 have HYP:=Lib.hid hY
 clear hY
 have hne1:¬(w.heap.size=w.heap.size+1+1):=by omega
 have hne2:¬(w.heap.size+1+1=w.heap.size):=by omega
 have hne3:¬(w.heap.size+1=w.heap.size+1+1):=by omega
 have hne4:¬(w.heap.size+1+1=w.heap.size+1):=by omega
 obtain ⟨p0,p1,_,_⟩:=blk_cells KK.out.k1
 obtain ⟨p2,p3,_,_⟩:=blk_cells KK.out.k2
 go_enter Tryz.func103,Tryz.ntmps103
 go_wp2_with fail
 go_region_held3 (fun w'=>w'.cell? ⟨w.heap.size,0,none⟩=some (.bool b1)∧w'.cell? ⟨w.heap.size,1,none⟩=some (.string m1)∧w'.cell? ⟨w.heap.size+1,0,none⟩=some (.bool b2)∧w'.cell? ⟨w.heap.size+1,1,none⟩=some (.string m2))
  (first
   | exact ⟨s0,s1,s2,s3⟩
   | exact ⟨r0,r1,r2,r3⟩
   | exact ⟨q0,q1,q2,q3⟩
   | exact ⟨p0,p1,p2,p3⟩
   | go_keep)
  (first
   | (go_at_call 112;(with_reducible refine (HD1.out _).mono ?_);rintro e w1 ⟨A1,n1,c1,rfl,ht1,hb1,_⟩;have K1:=Lib.hid (KK.out.next hb1);have T1:=Lib.hid ht1;obtain ⟨q0,q1,_,_⟩:=blk_cells K1.out.k1;obtain ⟨q2,q3,_,_⟩:=blk_cells K1.out.k2)
   | (go_at_call 112;(with_reducible refine (HD2.out _).mono ?_);rintro e w2 ⟨A2,n2,c2,rfl,ht2,hb2,_⟩;have K2:=Lib.hid (K1.out.next hb2);have T2:=Lib.hid ht2;have T1':=Lib.hid (T1.out.below hb2);obtain ⟨r0,r1,_,_⟩:=blk_cells K2.out.k1;obtain ⟨r2,r3,_,_⟩:=blk_cells K2.out.k2)
   | (go_at_call 123;(with_reducible refine (rcanonical _ A1 A2 n1 n2 c1 c2 (bval m1) (bval m2) _ ?_ ?_ T1'.out T2.out HYP.out).mono ?_);(have h3:=T1'.out.ln;have h4:=HN1.out;omega);(have h3:=T2.out.ln;have h4:=HN2.out;omega);rintro e w3 ⟨b3,m3,k3,rfl,hq3,hb3⟩;have K3:=Lib.hid (K2.out.next hb3);have HQ:=Lib.hid hq3;obtain ⟨s0,s1,_,_⟩:=blk_cells K3.out.k1;obtain ⟨s2,s3,_,_⟩:=blk_cells K3.out.k2;obtain ⟨t0,t1,t2,t3⟩:=blk4 K3.out.k3;obtain ⟨f0,f1,f2,f3⟩:=fro4 K3.out.k3))
 clear hb1 hb2 hb3 hq3 ht1 ht2
 go_wp2
 exact bodyPost_ret (v:=.agg #[.bool b3,.string m3,.bool false,.string k3]) (by simp [results,Tryz.results103,go_sem,t0,t1,t2,t3]) rfl ⟨b3,m3,k3,rfl,HQ.out,below_set4 K3.out.bel (by omega) _ _ _ _⟩

end Go.Proofs.YtpnokfgplnmjpaaGreatDoor


namespace Go.Proofs.YtpnokfgplnmjpaaGreatDoor
open Go.RowKit
attribute [local go_sem ↓] Go.wp_at_zero Go.wp_at_succ

theorem div_256_pos {N k:Nat} (hN:N≤9223372036854775808) (h:0<N / 256^k):k<8:=by
 rcases Nat.lt_or_ge k 8 with h1 | h1
 · exact h1
 · have h2:256^8≤256^k:=Nat.pow_le_pow_right (by omega) h1
   rw [Nat.div_eq_of_lt (by omega)] at h
   omega

structure Li (w:World) (N k:Nat) (v:Value) (wr:World):Prop where
 top:0<k→N / 256^(k-1)≠0
 own:wr.ownsRow (w.heap.size+1) 3 1 v k (nums .i64 (D 256 N) k)
 res:wr.heap[w.heap.size]?=some (.cells #[.bool false,.string ⟨#[]⟩] 23 (0,0))
 sz:w.heap.size+1≤wr.heap.size
 bel:Below w.heap.size w wr

theorem Li.start (w:World) (N:Nat):Li w N 0 (.slice none 0 0) (w.alloc (.cells #[.bool false,.string ⟨#[]⟩] 23)) :=
 ⟨fun h=>absurd h (by omega),World.ownsRow_nil _ _ _ _,heap_one _ _,by simp,(Below.refl _ _).alloc (Nat.le_refl _) _⟩

theorem Li.next {w wr w1:World} {N k d:Nat} {v v' o:Value} (h:Li w N k v wr) (hd:d=N / 256^k%256) (hp:N / 256^k≠0)
  (hown':w1.ownsRow (w.heap.size+1) 3 1 v' (k+1) (nums .i64 (D 256 N) k++[.int .i64 (d:Int)])) (hgrow:(wr.alloc (.cells #[o] 3)).grownBy w1 v.ownBlock):Li w N (k+1) v' w1:=by
 have hb1:Below (w.heap.size+1) wr w1:=((Below.refl _ _).alloc h.sz _).grown hgrow (by have:=h.sz;simp;omega) (fun g hg=>((h.own.lt) g hg).1)
 have hs:=hb1.size
 have hs2:=h.sz
 exact ⟨fun _=>by rw [Nat.add_sub_cancel];exact hp,own_next hown' hd,(hb1.block _ (by omega)).trans h.res,by omega,h.bel.trans (hb1.mono (by omega))⟩

theorem Li.done {w wr:World} {N k:Nat} {v:Value} (h:Li w N k v wr) (hz:N / 256^k=0):∃ A c,v=.slice A k c∧Tr wr A k c N:=by
 obtain ⟨A,c,rfl,hc,hn,hr,_⟩:=own_form h.own
 have hlt:N<256^k:=Nat.lt_of_div_eq_zero (Nat.pow_pos (by omega)) hz
 refine ⟨A,c,rfl,⟨hlt,hr⟩,nd_of hlt fun h0=>?_,hc,hn⟩
 have h1:=h.top h0
 have h2:=div_256 N (k-1)
 rw [Nat.sub_add_cancel h0,hz] at h2
 omega

set_option maxHeartbeats 8000000 in
set_option maxRecDepth 100000 in
theorem rint_pos (N:Nat) (hN:N≤9223372036854775807) (w:World):Calls Tryz.prog 74 #[.int .i64 (N:Int)] w (RetZ w (N:Int)):=by
 obtain ⟨i0,hi,hz0,hz1,hz2⟩:=info_parts intTy_info
 obtain ⟨bz,mz,hbz⟩:=enc_form (N:Int)
 have HBZ:=Lib.hid hbz
 clear hbz
 go_enter Tryz.func74,Tryz.ntmps74
 go_wp2
 go_loopw [3,4] (fun v nv wr=>∃ k:Nat,nv=.int .i64 ((N / 256^k:Nat):Int)∧Hid (Li w N k v wr)) (fun _ nv _=>(intOf nv).toNat)
 case atStart=>exact ⟨0,by rw [Nat.pow_zero,Nat.div_one],Li.start w N⟩
 case round =>
  obtain ⟨k,rfl,HL⟩:=hrel
  have hle:N / 256^k≤N:=Nat.div_le_self _ _
  have hk8:=div_256_pos (N:=N) (k:=k) (by omega)
  have hq2:N / 256^k / 256=N / 256^(k+1):=by rw [Nat.div_div_eq_div_mul,Nat.pow_succ]
  generalize hq:N / 256^k=q at *
  have HQ:=Lib.hid hq
  have HQ2:=Lib.hid hq2
  clear hq hq2
  by_cases hlt:0<q
  · have hk:=hk8 hlt
    have hne:((q:Int) != 0)=true:=by simp;omega
    have hsz:=HL.out.sz
    have hown:=HL.out.own
    go_wp2_with (at_builtin;refine wpList_append_own _ rfl _ _ 102 rfl (w.heap.size+1) 3 i0 (.int .i64 0) 1 8 Tryz.underlying102 hi hz0 hz1 hz2 rfl (by decide) _ _ _ rfl (hown.alloc _) ⟨wr.heap.size,0,none⟩ 1 1 [.int .i64 ((q%256:Nat):Int)] rfl rfl ?_ ?_ ?_ ?_ ?_ ?_)
    · intro j u hj;exact one_cell j u hj (by first | (go_num;done) | (simp;rfl))
    · intro u hu;simp at hu;subst hu;rfl
    · unfold maxLen;omega
    · omega
    · simp;omega
    intro v' w1 hown' hgrow _
    have HL2:=Lib.hid (HL.out.next (d:=q%256) (by rw [HQ.out]) (by rw [HQ.out];omega) hown' hgrow)
    clear hgrow hown' hown hne
    go_wp2
    go_roundw
    case rel=>exact ⟨k+1,by rw [←HQ2.out];go_num,HL2.out⟩
    case measure=>simp [intOf];omega
  · obtain rfl:q=0:=by omega
    obtain ⟨A,c,rfl,ht⟩:=HL.out.done HQ.out
    have HT:=Lib.hid ht
    clear ht
    have hk:k≤1000000:=by
     have h1:=HT.out.ln
     have h2:nd N≤8:=nd_le (by omega)
     omega
    have hn0:decide ((N:Int)<0)=false:=by simp
    go_wp2_with fail
    refine (rwhole false A k c N _ (by omega) HT.out.cap HT.out.dg).mono ?_
    rintro e w2 ⟨rfl,hb2⟩
    rw [show enc (sgn false N)=.agg #[.bool bz,.string mz] from HBZ.out]
    obtain ⟨p0,p1,f0,f1⟩:=blk_cells ((hb2.block _ (by have:=HL.out.sz;omega)).trans HL.out.res)
    have HB:=Lib.hid (HL.out.bel.trans (hb2.mono HL.out.bel.size))
    clear hb2
    go_wp2
    exact bodyPost_ret (v:=.agg #[.bool bz,.string mz]) (by simp [results,Tryz.results74,go_sem,p0,p1]) rfl ⟨by rw [HBZ.out],below_set2 HB.out (Nat.le_refl _) _ _⟩
set_option maxHeartbeats 8000000 in
set_option maxRecDepth 100000 in
theorem rint_neg (N:Nat) (h0:0<N) (hN:N≤9223372036854775808) (w:World):Calls Tryz.prog 74 #[.int .i64 (-(N:Int))] w (RetZ w (-(N:Int))):=by
 obtain ⟨i0,hi,hz0,hz1,hz2⟩:=info_parts intTy_info
 obtain ⟨bz,mz,hbz⟩:=enc_form (-(N:Int))
 have HBZ:=Lib.hid hbz
 clear hbz
 go_enter Tryz.func74,Tryz.ntmps74
 go_wp2
 go_loopw [3,4] (fun v nv wr=>∃ k:Nat,nv=.int .i64 (-((N / 256^k:Nat):Int))∧Hid (Li w N k v wr)) (fun _ nv _=>(-(intOf nv)).toNat)
 case atStart=>exact ⟨0,by rw [Nat.pow_zero,Nat.div_one],Li.start w N⟩
 case round =>
  obtain ⟨k,rfl,HL⟩:=hrel
  have hle:N / 256^k≤N:=Nat.div_le_self _ _
  have hk8:=div_256_pos (N:=N) (k:=k) (by omega)
  have hq2:N / 256^k / 256=N / 256^(k+1):=by rw [Nat.div_div_eq_div_mul,Nat.pow_succ]
  generalize hq:N / 256^k=q at *
  have HQ:=Lib.hid hq
  have HQ2:=Lib.hid hq2
  clear hq hq2
  by_cases hlt:0<q
  · have hk:=hk8 hlt
    have hne:(-(q:Int) != 0)=true:=by simp;omega
    obtain ⟨r,hr⟩:∃ r,q%256=r:=⟨_,rfl⟩
    obtain ⟨s,hs⟩:∃ s,q / 256=s:=⟨_,rfl⟩
    have hr1:r<256:=by omega
    have hs1:s≤q:=by omega
    have hsq:s<q:=by omega
    have HR:=Lib.hid hr
    have HS:=Lib.hid hs
    have HTM:=Lib.hid (show (-(q:Int)).tmod 256=-(r:Int) by rw [Int.neg_tmod,Int.tmod_eq_emod_of_nonneg (by omega)];omega)
    have HTD:=Lib.hid (show (-(q:Int)).tdiv 256=-(s:Int) by rw [Int.neg_tdiv,Int.tdiv_eq_ediv_of_nonneg (by omega)];omega)
    clear hr hs
    rcases Nat.eq_zero_or_pos r with hr0 | hr0
    · subst hr0
      have htm:(-(q:Int)).tmod 256=0:=by rw [HTM.out];rfl
      have hsz:=HL.out.sz
      have hown:=HL.out.own
      go_wp2_with (at_builtin;refine wpList_append_own _ rfl _ _ 102 rfl (w.heap.size+1) 3 i0 (.int .i64 0) 1 8 Tryz.underlying102 hi hz0 hz1 hz2 rfl (by decide) _ _ _ rfl (hown.alloc _) ⟨wr.heap.size,0,none⟩ 1 1 [.int .i64 ((0:Nat):Int)] rfl rfl ?_ ?_ ?_ ?_ ?_ ?_)
      · intro j u hj;exact one_cell j u hj (by first | (go_num;done) | (simp;rfl))
      · intro u hu;simp at hu;subst hu;rfl
      · unfold maxLen;omega
      · omega
      · simp;omega
      intro v' w1 hown' hgrow _
      have HL2:=Lib.hid (HL.out.next (d:=0) (by rw [HQ.out,HR.out]) (by rw [HQ.out];omega) hown' hgrow)
      clear hgrow hown' hown hne htm
      have htd:=HTD.out
      go_wp2
      go_roundw
      case rel=>exact ⟨k+1,by rw [←HQ2.out,HS.out],HL2.out⟩
      case measure=>simp [intOf];omega
    · have htm:=HTM.out
      have hsz:=HL.out.sz
      have hown:=HL.out.own
      go_wp2_with (at_builtin;refine wpList_append_own _ rfl _ _ 102 rfl (w.heap.size+1) 3 i0 (.int .i64 0) 1 8 Tryz.underlying102 hi hz0 hz1 hz2 rfl (by decide) _ _ _ rfl (hown.alloc _) ⟨wr.heap.size,0,none⟩ 1 1 [.int .i64 (r:Int)] rfl rfl ?_ ?_ ?_ ?_ ?_ ?_)
      · intro j u hj;exact one_cell j u hj (by first | (go_num;done) | (simp;rfl))
      · intro u hu;simp at hu;subst hu;rfl
      · unfold maxLen;omega
      · omega
      · simp;omega
      intro v' w1 hown' hgrow _
      have HL2:=Lib.hid (HL.out.next (d:=r) (by rw [HQ.out,HR.out]) (by rw [HQ.out];omega) hown' hgrow)
      clear hgrow hown' hown hne htm
      have htd:=HTD.out
      go_wp2
      go_roundw
      case rel=>exact ⟨k+1,by rw [←HQ2.out,HS.out],HL2.out⟩
      case measure=>simp [intOf];omega
  · obtain rfl:q=0:=by omega
    obtain ⟨A,c,rfl,ht⟩:=HL.out.done HQ.out
    have HT:=Lib.hid ht
    clear ht
    have hk:k≤1000000:=by
     have h1:=HT.out.ln
     have h2:nd N≤8:=nd_le (by omega)
     omega
    have hn0:decide (-(N:Int)<0)=true:=by simp;omega
    go_wp2_with fail
    refine (rwhole true A k c N _ (by omega) HT.out.cap HT.out.dg).mono ?_
    rintro e w2 ⟨rfl,hb2⟩
    rw [show enc (sgn true N)=.agg #[.bool bz,.string mz] from HBZ.out]
    obtain ⟨p0,p1,f0,f1⟩:=blk_cells ((hb2.block _ (by have:=HL.out.sz;omega)).trans HL.out.res)
    have HB:=Lib.hid (HL.out.bel.trans (hb2.mono HL.out.bel.size))
    clear hb2
    go_wp2
    exact bodyPost_ret (v:=.agg #[.bool bz,.string mz]) (by simp [results,Tryz.results74,go_sem,p0,p1]) rfl ⟨by rw [HBZ.out],below_set2 HB.out (Nat.le_refl _) _ _⟩
theorem rint_any (n:Int) (h1:-9223372036854775808≤n) (h2:n≤9223372036854775807) (w:World):Calls Tryz.prog 74 #[.int .i64 n] w (RetZ w n):=by
 rcases Int.lt_or_le n 0 with h | h
 · obtain ⟨N,hN⟩:∃ N:Nat,n=-(N:Int):=⟨n.natAbs,by omega⟩
   subst hN
   exact rint_neg N (by omega) (by omega) w
 · obtain ⟨N,hN⟩:∃ N:Nat,n=(N:Int):=⟨n.natAbs,by omega⟩
   subst hN
   exact rint_pos N (by omega) w
end Go.Proofs.YtpnokfgplnmjpaaGreatDoor


namespace Go.Proofs.YtpnokfgplnmjpaaGreatDoor
open Go.RowKit
attribute [local go_sem ↓] Go.wp_at_zero Go.wp_at_succ

theorem Rq.inj {q:Rat} {b c:Bool} {m n k l:ByteArray} (h:Rq q b m k) (h':Rq q c n l):b=c∧m=n∧k=l:=by
 have e:=h.num.symm.trans h'.num
 injection e with e
 have e2:b=c∧m=n:=by simpa using e
 exact ⟨e2.1,e2.2,by rw [h.den,h'.den]⟩

theorem sgn_self (x:Int):sgn (decide (x<0)) x.natAbs=x:=by
 unfold sgn
 by_cases h:x<0
 · rw [decide_eq_true h];simp;omega
 · rw [decide_eq_false h];simp;omega
theorem mk_divInt (x y:Int) (hy:y≠0):mkRat (sgn (decide (x<0) != decide (y<0)) x.natAbs) y.natAbs=Rat.divInt x y:=by
 by_cases h:y<0
 · obtain ⟨d,rfl⟩:∃ d:Nat,y=-(d:Int):=⟨y.natAbs,by omega⟩
   rw [decide_eq_true h,Bool.bne_true,sgn_not,sgn_self,Rat.divInt_neg',Rat.divInt_ofNat,Int.natAbs_neg,Int.natAbs_natCast]
 · obtain ⟨d,rfl⟩:∃ d:Nat,y=(d:Int):=⟨y.natAbs,by omega⟩
   rw [decide_eq_false h,Bool.bne_false,sgn_self,Rat.divInt_ofNat,Int.natAbs_natCast]

theorem i64_size {n:Int} (h1:-9223372036854775808≤n) (h2:n≤9223372036854775807):(mag n.natAbs).size≤8:=mag_size_le (by omega)

set_option maxHeartbeats 2000000 in
set_option maxRecDepth 100000 in
theorem rOf_f {x y:Int} {b3:Bool} {m3 k3:ByteArray} (hq:Rq (Rat.divInt x y) b3 m3 k3) (h0:y≠0) (x1:-9223372036854775808≤x) (x2:x≤9223372036854775807) (y1:-9223372036854775808≤y) (y2:y≤9223372036854775807) (w:World) :
  Calls Tryz.prog 59 #[.int .i64 x,.int .i64 y] w (RetB w (.agg #[.bool b3,.string m3,.bool false,.string k3])):=by
 obtain ⟨bx,mx,hx⟩:=enc_form x
 obtain ⟨by',my,hy⟩:=enc_form y
 have sx:mx.size≤1000000:=by rw [(enc_parts hx).2];have:=i64_size x1 x2;omega
 have sy:my.size≤1000000:=by rw [(enc_parts hy).2];have:=i64_size y1 y2;omega
 have vx:bval mx=x.natAbs:=by rw [(enc_parts hx).2,bval_mag]
 have vy:bval my=y.natAbs:=by rw [(enc_parts hy).2,bval_mag]
 have hmk:=fun V=>rmake bx by' mx my sx sy (by rw [vy];omega) V
 rw [vx,vy,(enc_parts hx).1,(enc_parts hy).1,mk_divInt x y h0,←(enc_parts hx).1,←(enc_parts hy).1] at hmk
 have HM:=Lib.hid hmk
 have HX:=Lib.hid hx
 have HY:=Lib.hid hy
 have HQ:=Lib.hid hq
 have KR:=Lib.hid (Bq.new w #[.bool false,.string ⟨#[]⟩,.bool false,.string ⟨#[]⟩] 25)
 have HB:=Lib.hid (below_new w (.cells #[.bool false,.string ⟨#[]⟩,.bool false,.string ⟨#[]⟩] 25))
 clear hx hy hq h0 vx vy hmk
 go_enter Tryz.func59,Tryz.ntmps59
 go_wp2_with fail
 refine (rint_any x x1 x2 _).mono ?_
 rintro e w1 ⟨rfl,hb1⟩
 rw [HX.out]
 have K1:=Lib.hid (KR.out.next hb1)
 have B1:=Lib.hid (below_step HB.out (Nat.le_refl _) hb1)
 clear hb1
 go_wp2_with fail
 refine (rint_any y y1 y2 _).mono ?_
 rintro e w2 ⟨rfl,hb2⟩
 rw [HY.out]
 have K2:=Lib.hid (K1.out.next hb2)
 have B2:=Lib.hid (below_step B1.out (Nat.le_refl _) hb2)
 clear hb2
 go_wp2_with fail
 refine (HM.out _).mono ?_
 rintro e w3 ⟨b4,m4,k4,rfl,hq4,hb3⟩
 obtain ⟨rfl,rfl,rfl⟩:=HQ.out.inj hq4
 have K3:=Lib.hid (K2.out.next hb3)
 have B3:=Lib.hid (below_step B2.out (Nat.le_refl _) hb3)
 obtain ⟨t0,t1,t2,t3⟩:=blk4 K3.out.k
 obtain ⟨f0,f1,f2,f3⟩:=fro4 K3.out.k
 clear hb3 hq4
 go_wp2
 exact bodyPost_ret (v:=.agg #[.bool b3,.string m3,.bool false,.string k3]) (by simp [results,Tryz.results59,go_sem,t0,t1,t2,t3]) rfl ⟨rfl,below_set4 B3.out (Nat.le_refl _) _ _ _ _⟩
end Go.Proofs.YtpnokfgplnmjpaaGreatDoor


namespace Go.Proofs.YtpnokfgplnmjpaaGreatDoor
open Go.RowKit
attribute [local go_sem ↓] Go.wp_at_zero Go.wp_at_succ

def cmpQ (a b:Rat):Int:=cmpZ (a.num*(b.den:Int)) (b.num*(a.den:Int))

theorem cmpZ_scale {x y d:Int} (hd:0<d):cmpZ (x*d) (y*d)=cmpZ x y:=by
 rcases Int.lt_trichotomy x y with h | h | h
 · rw [cmpZ_lt h,cmpZ_lt (Int.mul_lt_mul_of_pos_right h hd)]
 · rw [cmpZ_eq0 h,cmpZ_eq0 (by rw [h])]
 · rw [cmpZ_gt h,cmpZ_gt (Int.mul_lt_mul_of_pos_right h hd)]

theorem cmpQ_den {p q:Rat} (h:p.den=q.den):cmpQ p q=cmpZ p.num q.num:=by
 unfold cmpQ
 rw [h,cmpZ_scale (by have:=q.den_pos;omega)]

theorem sgn3 (x:Int) {d:Int} (hd:0<d):(x<0∧x.sign=-1∧x*d<0)∨(x=0∧x.sign=0∧x*d=0)∨(0<x∧x.sign=1∧0<x*d):=by
 rcases Int.lt_trichotomy x 0 with h | h | h
 · exact .inl ⟨h,Int.sign_eq_neg_one_of_neg h,Int.mul_neg_of_neg_of_pos h hd⟩
 · exact .inr (.inl ⟨h,by rw [h];rfl,by rw [h,Int.zero_mul]⟩)
 · exact .inr (.inr ⟨h,Int.sign_eq_one_of_pos h,Int.mul_pos h hd⟩)

theorem cmpQ_sign {p q:Rat} (h:p.num.sign≠q.num.sign):cmpQ p q=Lib.compareInt p.num.sign q.num.sign:=by
 unfold cmpQ
 have h1:=sgn3 p.num (d:=(q.den:Int)) (by have:=q.den_pos;omega)
 have h2:=sgn3 q.num (d:=(p.den:Int)) (by have:=p.den_pos;omega)
 generalize p.num*(q.den:Int)=X at *
 generalize q.num*(p.den:Int)=Y at *
 have h3:(p.num.sign<q.num.sign∧X<Y)∨(q.num.sign<p.num.sign∧Y<X):=by omega
 rcases h3 with ⟨h4,h5⟩ | ⟨h4,h5⟩
 · rw [cmpZ_lt h5,compareInt_lt h4]
 · rw [cmpZ_gt h5,compareInt_gt h4]

theorem dm_inj {d e:Nat} (h:dm d=dm e) (hd:d≠0) (he:e≠0):d=e:=by
 unfold dm at h
 by_cases h1:d=1<;>by_cases h2:e=1
 · omega
 · rw [if_pos h1,if_neg h2] at h
   have:=mag_inj h
   omega
 · rw [if_neg h1,if_pos h2] at h
   have:=mag_inj h
   omega
 · rw [if_neg h1,if_neg h2] at h
   exact mag_inj h

theorem Rq.eq_of {p q:Rat} {b:Bool} {m k:ByteArray} (hp:Rq p b m k) (hq:Rq q b m k):p=q:=by
 obtain ⟨e1,e2⟩:=enc_parts hp.num
 obtain ⟨e3,e4⟩:=enc_parts hq.num
 have h1:p.num.natAbs=q.num.natAbs:=mag_inj (e2.symm.trans e4)
 have h2:decide (p.num<0)=decide (q.num<0):=e1.symm.trans e3
 have h3:(p.num<0)↔(q.num<0):=by simpa using h2
 refine Rat.ext (by omega) ?_
 exact dm_inj (hp.den.symm.trans hq.den) p.den_nz q.den_nz

set_option maxHeartbeats 4000000 in
set_option maxRecDepth 100000 in
theorem ratCompare_f {p q:Rat} {b1 b2:Bool} {m1 m2 k1 k2:ByteArray} (hp:Rq p b1 m1 k1) (hq:Rq q b2 m2 k2) (s1:m1.size≤10000) (s2:m2.size≤10000) (s3:(mag p.den).size≤10000) (s4:(mag q.den).size≤10000) (w:World) (hE:Env w) :
  Calls Tryz.prog 86 #[.agg #[.bool b1,.string m1,.bool false,.string k1],.agg #[.bool b2,.string m2,.bool false,.string k2]] w (RetB w (.int .i64 (cmpQ p q))):=by
 have HS1:=Lib.hid (fun V=>ratSign_f hp V)
 have HS2:=Lib.hid (fun V=>ratSign_f hq V)
 have HE:=Lib.hid (fun V (h:Below w.heap.size w V)=>hE.next h)
 have KK:=Lib.hid (Kb.start w #[.bool b1,.string m1,.bool false,.string k1] #[.bool b2,.string m2,.bool false,.string k2] 25 25).drew
 have hc:p.num.sign≠q.num.sign→cmpQ p q=Lib.compareInt p.num.sign q.num.sign:=cmpQ_sign
 have HCS:=Lib.hid hc
 have hsb:p.num.sign=q.num.sign→b1=b2:=fun h=>by
  rw [hp.mag.1,hq.mag.1]
  have h1:=sgn3 p.num (d:=1) (by omega)
  have h2:=sgn3 q.num (d:=1) (by omega)
  have h3:(p.num<0)↔(q.num<0):=by omega
  simp [h3]
 have hsm:b1=b2→m1=m2→p.num.sign=q.num.sign:=fun h1 h2=>by
  have h3:enc p.num=enc q.num:=by rw [hp.num,hq.num,h1,h2]
  have h4:p.num=q.num:=by
   have e:=hp.num
   rw [h1,h2,←hq.num] at e
   have e1:=(enc_parts hp.num)
   have e2:=(enc_parts hq.num)
   have h5:p.num.natAbs=q.num.natAbs:=mag_inj (e1.2.symm.trans (h2.trans e2.2))
   have h6:decide (p.num<0)=decide (q.num<0):=e1.1.symm.trans (h1.trans e2.1)
   have h7:(p.num<0)↔(q.num<0):=by simpa using h6
   omega
  rw [h4]
 have heq:b1=b2→m1=m2→k1=k2→p=q:=fun h1 h2 h3=>by subst h1;subst h2;subst h3;exact hp.eq_of hq
 have hkd:k1=k2→cmpQ p q=cmpZ p.num q.num:=fun h=>cmpQ_den (dm_inj (hp.den.symm.trans (h.trans hq.den)) p.den_nz q.den_nz)
 have HN:=Lib.hid (fun V=>Compare_f hp.num hq.num V)
 obtain ⟨bx,mx,hx⟩:=enc_form (p.num*(q.den:Int))
 obtain ⟨by',my,hy⟩:=enc_form (q.num*(p.den:Int))
 have HD1:=Lib.hid (fun V (hV:Env V)=>den_f hq V hV)
 have HD2:=Lib.hid (fun V (hV:Env V)=>den_f hp V hV)
 have HT1:=Lib.hid (fun V (hV:Env V)=>ratTimes_f hp.num (enc_mag q.den) hx rfl (by omega) (by omega) V hV)
 have HT2:=Lib.hid (fun V (hV:Env V)=>ratTimes_f hq.num (enc_mag p.den) hy rfl (by omega) (by omega) V hV)
 have HCC:=Lib.hid (fun V=>Compare_f hx hy V)
 have HZ:=Lib.hid (show cmpZ (p.num*(q.den:Int)) (q.num*(p.den:Int))=cmpQ p q from rfl)
 have h0:p=q→cmpQ p q=0:=fun h=>by subst h;unfold cmpQ;exact cmpZ_eq0 rfl
 generalize cmpZ (p.num*(q.den:Int)) (q.num*(p.den:Int))=zz at *
 generalize cmpZ p.num q.num=zn at *
 generalize cmpQ p q=z at *
 generalize hsp:p.num.sign=sp at *
 generalize hsq:q.num.sign=sq at *
 generalize mag p.den=dp at *
 generalize mag q.den=dq at *
 have hdec:b1=b2→m1=m2→k1=k2→z=0:=fun h1 h2 h3=>h0 (heq h1 h2 h3)
 clear heq h0 hp hq hx hy hE hc hsp hsq s1 s2 s3 s4
 by_cases hs:sp=sq
 · have hb:=hsb hs
   subst hs
   subst hb
   by_cases hk:k1=k2
   · subst hk
     by_cases hm:m1=m2
     · subst hm
       have HZ0:=Lib.hid (hdec rfl rfl rfl)
       clear hdec hsm hkd
       have HK1:=Lib.hid hsb
       obtain ⟨p0,p1,p2,p3⟩:=blk4 KK.out.k1
       obtain ⟨p4,p5,p6,p7⟩:=blk4 KK.out.k2
       clear hsb
       go_enter Tryz.func86,Tryz.ntmps86
       go_wp2_with fail
       go_region_held3 (fun w'=>w'.cell? ⟨w.heap.size,0,none⟩=some (.bool b1)∧w'.cell? ⟨w.heap.size,1,none⟩=some (.string m1)∧w'.cell? ⟨w.heap.size,2,none⟩=some (.bool false)∧w'.cell? ⟨w.heap.size,3,none⟩=some (.string k1)∧w'.cell? ⟨w.heap.size+1,0,none⟩=some (.bool b1)∧w'.cell? ⟨w.heap.size+1,1,none⟩=some (.string m1)∧w'.cell? ⟨w.heap.size+1,2,none⟩=some (.bool false)∧w'.cell? ⟨w.heap.size+1,3,none⟩=some (.string k1))
        (first
         | exact ⟨r0,r1,r2,r3,r4,r5,r6,r7⟩
         | exact ⟨q0,q1,q2,q3,q4,q5,q6,q7⟩
         | exact ⟨p0,p1,p2,p3,p4,p5,p6,p7⟩
         | go_keep)
        (first
         | (go_at_call 71;(with_reducible refine (HS1.out _).mono ?_);rintro e w1 ⟨rfl,hb1⟩;have K1:=Lib.hid (KK.out.next hb1);obtain ⟨q0,q1,q2,q3⟩:=blk4 K1.out.k1;obtain ⟨q4,q5,q6,q7⟩:=blk4 K1.out.k2)
         | (go_at_call 71;(with_reducible refine (HS2.out _).mono ?_);rintro e w2 ⟨rfl,hb2⟩;have K2:=Lib.hid (K1.out.next hb2);obtain ⟨r0,r1,r2,r3⟩:=blk4 K2.out.k1;obtain ⟨r4,r5,r6,r7⟩:=blk4 K2.out.k2))
       clear hb1 hb2 p0 p1 p2 p3 p4 p5 p6 p7 q0 q1 q2 q3 q4 q5 q6 q7
       go_wp2
       go_ret
       exact ⟨by rw [HZ0.out];rfl,K2.out.bel⟩
     · have hml:=(str_ne hm).2
       have hmn:¬m1.toList=m2.toList:=by simpa using hml
       have HKD:=Lib.hid (hkd rfl)
       clear hdec hsm hkd hm hml
       have HK1:=Lib.hid hsb
       obtain ⟨p0,p1,p2,p3⟩:=blk4 KK.out.k1
       obtain ⟨p4,p5,p6,p7⟩:=blk4 KK.out.k2
       clear hsb
       go_enter Tryz.func86,Tryz.ntmps86
       go_wp2_with fail
       go_region_held3 (fun w'=>w'.cell? ⟨w.heap.size,0,none⟩=some (.bool b1)∧w'.cell? ⟨w.heap.size,1,none⟩=some (.string m1)∧w'.cell? ⟨w.heap.size,2,none⟩=some (.bool false)∧w'.cell? ⟨w.heap.size,3,none⟩=some (.string k1)∧w'.cell? ⟨w.heap.size+1,0,none⟩=some (.bool b1)∧w'.cell? ⟨w.heap.size+1,1,none⟩=some (.string m2)∧w'.cell? ⟨w.heap.size+1,2,none⟩=some (.bool false)∧w'.cell? ⟨w.heap.size+1,3,none⟩=some (.string k1))
        (first
         | exact ⟨r0,r1,r2,r3,r4,r5,r6,r7⟩
         | exact ⟨q0,q1,q2,q3,q4,q5,q6,q7⟩
         | exact ⟨p0,p1,p2,p3,p4,p5,p6,p7⟩
         | go_keep)
        (first
         | (go_at_call 71;(with_reducible refine (HS1.out _).mono ?_);rintro e w1 ⟨rfl,hb1⟩;have K1:=Lib.hid (KK.out.next hb1);obtain ⟨q0,q1,q2,q3⟩:=blk4 K1.out.k1;obtain ⟨q4,q5,q6,q7⟩:=blk4 K1.out.k2)
         | (go_at_call 71;(with_reducible refine (HS2.out _).mono ?_);rintro e w2 ⟨rfl,hb2⟩;have K2:=Lib.hid (K1.out.next hb2);obtain ⟨r0,r1,r2,r3⟩:=blk4 K2.out.k1;obtain ⟨r4,r5,r6,r7⟩:=blk4 K2.out.k2))
       clear hb1 hb2 p0 p1 p2 p3 p4 p5 p6 p7 q0 q1 q2 q3 q4 q5 q6 q7
       go_wp2_with fail
       refine (HN.out _).mono ?_
       rintro e w3 ⟨rfl,hb3⟩
       have K3:=Lib.hid (K2.out.next hb3)
       clear hb3
       go_wp2
       go_ret
       exact ⟨by rw [HKD.out];rfl,K3.out.bel⟩
   · have hkl:=(str_ne hk).2
     have hkn:¬k1.toList=k2.toList:=by simpa using hkl
     clear hkl hk
     by_cases hm:m1=m2
     · subst hm
       clear hdec hsm hkd
       have HK1:=Lib.hid hsb
       obtain ⟨p0,p1,p2,p3⟩:=blk4 KK.out.k1
       obtain ⟨p4,p5,p6,p7⟩:=blk4 KK.out.k2
       clear hsb
       go_enter Tryz.func86,Tryz.ntmps86
       go_wp2_with fail
       go_region_held3 (fun w'=>w'.cell? ⟨w.heap.size,0,none⟩=some (.bool b1)∧w'.cell? ⟨w.heap.size,1,none⟩=some (.string m1)∧w'.cell? ⟨w.heap.size,2,none⟩=some (.bool false)∧w'.cell? ⟨w.heap.size,3,none⟩=some (.string k1)∧w'.cell? ⟨w.heap.size+1,0,none⟩=some (.bool b1)∧w'.cell? ⟨w.heap.size+1,1,none⟩=some (.string m1)∧w'.cell? ⟨w.heap.size+1,2,none⟩=some (.bool false)∧w'.cell? ⟨w.heap.size+1,3,none⟩=some (.string k2))
        (first
         | exact ⟨r0,r1,r2,r3,r4,r5,r6,r7⟩
         | exact ⟨q0,q1,q2,q3,q4,q5,q6,q7⟩
         | exact ⟨p0,p1,p2,p3,p4,p5,p6,p7⟩
         | go_keep)
        (first
         | (go_at_call 71;(with_reducible refine (HS1.out _).mono ?_);rintro e w1 ⟨rfl,hb1⟩;have K1:=Lib.hid (KK.out.next hb1);obtain ⟨q0,q1,q2,q3⟩:=blk4 K1.out.k1;obtain ⟨q4,q5,q6,q7⟩:=blk4 K1.out.k2)
         | (go_at_call 71;(with_reducible refine (HS2.out _).mono ?_);rintro e w2 ⟨rfl,hb2⟩;have K2:=Lib.hid (K1.out.next hb2);obtain ⟨r0,r1,r2,r3⟩:=blk4 K2.out.k1;obtain ⟨r4,r5,r6,r7⟩:=blk4 K2.out.k2))
       clear hb1 hb2 p0 p1 p2 p3 p4 p5 p6 p7 q0 q1 q2 q3 q4 q5 q6 q7
       have K2:=Lib.hid K2.out.drew
       obtain ⟨r0,r1,r2,r3⟩:=blk4 K2.out.k1
       obtain ⟨r4,r5,r6,r7⟩:=blk4 K2.out.k2
       simp only [World.cell?_drew] at r0 r1 r2 r3 r4 r5 r6 r7
       go_wp2_with fail
       go_region_held3 (fun w'=>w'.cell? ⟨w.heap.size,0,none⟩=some (.bool b1)∧w'.cell? ⟨w.heap.size,1,none⟩=some (.string m1)∧w'.cell? ⟨w.heap.size,2,none⟩=some (.bool false)∧w'.cell? ⟨w.heap.size,3,none⟩=some (.string k1)∧w'.cell? ⟨w.heap.size+1,0,none⟩=some (.bool b1)∧w'.cell? ⟨w.heap.size+1,1,none⟩=some (.string m1)∧w'.cell? ⟨w.heap.size+1,2,none⟩=some (.bool false)∧w'.cell? ⟨w.heap.size+1,3,none⟩=some (.string k2))
        (first
         | exact ⟨r0,r1,r2,r3,r4,r5,r6,r7⟩
         | go_keep)
        (first
         | (go_at_call 94;(with_reducible refine (HD1.out _ (HE.out _ K2.out.bel)).mono ?_);rintro e w3 ⟨rfl,hb9⟩;have K2:=Lib.hid (K2.out.next hb9);obtain ⟨r0,r1,r2,r3⟩:=blk4 K2.out.k1;obtain ⟨r4,r5,r6,r7⟩:=blk4 K2.out.k2;clear hb9)
         | (go_at_call 132;(with_reducible refine (HT1.out _ (HE.out _ K2.out.bel)).mono ?_);rintro e w4 ⟨rfl,hb9⟩;have K2:=Lib.hid (K2.out.next hb9);obtain ⟨r0,r1,r2,r3⟩:=blk4 K2.out.k1;obtain ⟨r4,r5,r6,r7⟩:=blk4 K2.out.k2;clear hb9)
         | (go_at_call 94;(with_reducible refine (HD2.out _ (HE.out _ K2.out.bel)).mono ?_);rintro e w5 ⟨rfl,hb9⟩;have K2:=Lib.hid (K2.out.next hb9);obtain ⟨r0,r1,r2,r3⟩:=blk4 K2.out.k1;obtain ⟨r4,r5,r6,r7⟩:=blk4 K2.out.k2;clear hb9)
         | (go_at_call 132;(with_reducible refine (HT2.out _ (HE.out _ K2.out.bel)).mono ?_);rintro e w6 ⟨rfl,hb9⟩;have K2:=Lib.hid (K2.out.next hb9);obtain ⟨r0,r1,r2,r3⟩:=blk4 K2.out.k1;obtain ⟨r4,r5,r6,r7⟩:=blk4 K2.out.k2;clear hb9)
         | (go_at_call 139;(with_reducible refine (HCC.out _).mono ?_);rintro e w7 ⟨rfl,hb9⟩;have K2:=Lib.hid (K2.out.next hb9);obtain ⟨r0,r1,r2,r3⟩:=blk4 K2.out.k1;obtain ⟨r4,r5,r6,r7⟩:=blk4 K2.out.k2;clear hb9))
       go_wp2
       go_ret
       exact ⟨by rw [←HZ.out];rfl,K2.out.bel⟩
     · have hml:=(str_ne hm).2
       have hmn:¬m1.toList=m2.toList:=by simpa using hml
       clear hdec hsm hkd hm hml
       have HK1:=Lib.hid hsb
       obtain ⟨p0,p1,p2,p3⟩:=blk4 KK.out.k1
       obtain ⟨p4,p5,p6,p7⟩:=blk4 KK.out.k2
       clear hsb
       go_enter Tryz.func86,Tryz.ntmps86
       go_wp2_with fail
       go_region_held3 (fun w'=>w'.cell? ⟨w.heap.size,0,none⟩=some (.bool b1)∧w'.cell? ⟨w.heap.size,1,none⟩=some (.string m1)∧w'.cell? ⟨w.heap.size,2,none⟩=some (.bool false)∧w'.cell? ⟨w.heap.size,3,none⟩=some (.string k1)∧w'.cell? ⟨w.heap.size+1,0,none⟩=some (.bool b1)∧w'.cell? ⟨w.heap.size+1,1,none⟩=some (.string m2)∧w'.cell? ⟨w.heap.size+1,2,none⟩=some (.bool false)∧w'.cell? ⟨w.heap.size+1,3,none⟩=some (.string k2))
        (first
         | exact ⟨r0,r1,r2,r3,r4,r5,r6,r7⟩
         | exact ⟨q0,q1,q2,q3,q4,q5,q6,q7⟩
         | exact ⟨p0,p1,p2,p3,p4,p5,p6,p7⟩
         | go_keep)
        (first
         | (go_at_call 71;(with_reducible refine (HS1.out _).mono ?_);rintro e w1 ⟨rfl,hb1⟩;have K1:=Lib.hid (KK.out.next hb1);obtain ⟨q0,q1,q2,q3⟩:=blk4 K1.out.k1;obtain ⟨q4,q5,q6,q7⟩:=blk4 K1.out.k2)
         | (go_at_call 71;(with_reducible refine (HS2.out _).mono ?_);rintro e w2 ⟨rfl,hb2⟩;have K2:=Lib.hid (K1.out.next hb2);obtain ⟨r0,r1,r2,r3⟩:=blk4 K2.out.k1;obtain ⟨r4,r5,r6,r7⟩:=blk4 K2.out.k2))
       clear hb1 hb2 p0 p1 p2 p3 p4 p5 p6 p7 q0 q1 q2 q3 q4 q5 q6 q7
       have K2:=Lib.hid K2.out.drew
       obtain ⟨r0,r1,r2,r3⟩:=blk4 K2.out.k1
       obtain ⟨r4,r5,r6,r7⟩:=blk4 K2.out.k2
       simp only [World.cell?_drew] at r0 r1 r2 r3 r4 r5 r6 r7
       go_wp2_with fail
       go_region_held3 (fun w'=>w'.cell? ⟨w.heap.size,0,none⟩=some (.bool b1)∧w'.cell? ⟨w.heap.size,1,none⟩=some (.string m1)∧w'.cell? ⟨w.heap.size,2,none⟩=some (.bool false)∧w'.cell? ⟨w.heap.size,3,none⟩=some (.string k1)∧w'.cell? ⟨w.heap.size+1,0,none⟩=some (.bool b1)∧w'.cell? ⟨w.heap.size+1,1,none⟩=some (.string m2)∧w'.cell? ⟨w.heap.size+1,2,none⟩=some (.bool false)∧w'.cell? ⟨w.heap.size+1,3,none⟩=some (.string k2))
        (first
         | exact ⟨r0,r1,r2,r3,r4,r5,r6,r7⟩
         | go_keep)
        (first
         | (go_at_call 94;(with_reducible refine (HD1.out _ (HE.out _ K2.out.bel)).mono ?_);rintro e w3 ⟨rfl,hb9⟩;have K2:=Lib.hid (K2.out.next hb9);obtain ⟨r0,r1,r2,r3⟩:=blk4 K2.out.k1;obtain ⟨r4,r5,r6,r7⟩:=blk4 K2.out.k2;clear hb9)
         | (go_at_call 132;(with_reducible refine (HT1.out _ (HE.out _ K2.out.bel)).mono ?_);rintro e w4 ⟨rfl,hb9⟩;have K2:=Lib.hid (K2.out.next hb9);obtain ⟨r0,r1,r2,r3⟩:=blk4 K2.out.k1;obtain ⟨r4,r5,r6,r7⟩:=blk4 K2.out.k2;clear hb9)
         | (go_at_call 94;(with_reducible refine (HD2.out _ (HE.out _ K2.out.bel)).mono ?_);rintro e w5 ⟨rfl,hb9⟩;have K2:=Lib.hid (K2.out.next hb9);obtain ⟨r0,r1,r2,r3⟩:=blk4 K2.out.k1;obtain ⟨r4,r5,r6,r7⟩:=blk4 K2.out.k2;clear hb9)
         | (go_at_call 132;(with_reducible refine (HT2.out _ (HE.out _ K2.out.bel)).mono ?_);rintro e w6 ⟨rfl,hb9⟩;have K2:=Lib.hid (K2.out.next hb9);obtain ⟨r0,r1,r2,r3⟩:=blk4 K2.out.k1;obtain ⟨r4,r5,r6,r7⟩:=blk4 K2.out.k2;clear hb9)
         | (go_at_call 139;(with_reducible refine (HCC.out _).mono ?_);rintro e w7 ⟨rfl,hb9⟩;have K2:=Lib.hid (K2.out.next hb9);obtain ⟨r0,r1,r2,r3⟩:=blk4 K2.out.k1;obtain ⟨r4,r5,r6,r7⟩:=blk4 K2.out.k2;clear hb9))
       go_wp2
       go_ret
       exact ⟨by rw [←HZ.out];rfl,K2.out.bel⟩
 · have hne:(sp != sq)=true:=by simpa using hs
   have HCZ:=Lib.hid (HCS.out hs)
   have hmb:b1=b2→¬m1.toList=m2.toList:=fun h1 h2=>hs (hsm h1 (by cases m1;cases m2;rw [ByteArray.toList_eq,ByteArray.toList_eq] at h2;simp at h2;rw [h2]))
   have HCI:=Lib.hid (fun V=>Tryz.cmp_Compare_int sp sq V)
   clear hdec hsm hkd hs
   by_cases hb:b1=b2
   · subst hb
     have hmn:=hmb rfl
     clear hmb
     have HK1:=Lib.hid hsb
     obtain ⟨p0,p1,p2,p3⟩:=blk4 KK.out.k1
     obtain ⟨p4,p5,p6,p7⟩:=blk4 KK.out.k2
     clear hsb
     go_enter Tryz.func86,Tryz.ntmps86
     go_wp2_with fail
     go_region_held3 (fun w'=>w'.cell? ⟨w.heap.size,0,none⟩=some (.bool b1)∧w'.cell? ⟨w.heap.size,1,none⟩=some (.string m1)∧w'.cell? ⟨w.heap.size,2,none⟩=some (.bool false)∧w'.cell? ⟨w.heap.size,3,none⟩=some (.string k1)∧w'.cell? ⟨w.heap.size+1,0,none⟩=some (.bool b1)∧w'.cell? ⟨w.heap.size+1,1,none⟩=some (.string m2)∧w'.cell? ⟨w.heap.size+1,2,none⟩=some (.bool false)∧w'.cell? ⟨w.heap.size+1,3,none⟩=some (.string k2))
      (first
       | exact ⟨r0,r1,r2,r3,r4,r5,r6,r7⟩
       | exact ⟨q0,q1,q2,q3,q4,q5,q6,q7⟩
       | exact ⟨p0,p1,p2,p3,p4,p5,p6,p7⟩
       | go_keep)
      (first
       | (go_at_call 71;(with_reducible refine (HS1.out _).mono ?_);rintro e w1 ⟨rfl,hb1⟩;have K1:=Lib.hid (KK.out.next hb1);obtain ⟨q0,q1,q2,q3⟩:=blk4 K1.out.k1;obtain ⟨q4,q5,q6,q7⟩:=blk4 K1.out.k2)
       | (go_at_call 71;(with_reducible refine (HS2.out _).mono ?_);rintro e w2 ⟨rfl,hb2⟩;have K2:=Lib.hid (K1.out.next hb2);obtain ⟨r0,r1,r2,r3⟩:=blk4 K2.out.k1;obtain ⟨r4,r5,r6,r7⟩:=blk4 K2.out.k2))
     clear hb1 hb2 p0 p1 p2 p3 p4 p5 p6 p7 q0 q1 q2 q3 q4 q5 q6 q7
     go_wp2_with fail
     refine (HCI.out _).mono ?_
     rintro e w3 ⟨rfl,rfl⟩
     go_wp2
     go_ret
     exact ⟨by rw [HCZ.out];rfl,K2.out.bel⟩
   · clear hmb
     have HK1:=Lib.hid hsb
     obtain ⟨p0,p1,p2,p3⟩:=blk4 KK.out.k1
     obtain ⟨p4,p5,p6,p7⟩:=blk4 KK.out.k2
     clear hsb
     go_enter Tryz.func86,Tryz.ntmps86
     go_wp2_with fail
     go_region_held3 (fun w'=>w'.cell? ⟨w.heap.size,0,none⟩=some (.bool b1)∧w'.cell? ⟨w.heap.size,1,none⟩=some (.string m1)∧w'.cell? ⟨w.heap.size,2,none⟩=some (.bool false)∧w'.cell? ⟨w.heap.size,3,none⟩=some (.string k1)∧w'.cell? ⟨w.heap.size+1,0,none⟩=some (.bool b2)∧w'.cell? ⟨w.heap.size+1,1,none⟩=some (.string m2)∧w'.cell? ⟨w.heap.size+1,2,none⟩=some (.bool false)∧w'.cell? ⟨w.heap.size+1,3,none⟩=some (.string k2))
      (first
       | exact ⟨r0,r1,r2,r3,r4,r5,r6,r7⟩
       | exact ⟨q0,q1,q2,q3,q4,q5,q6,q7⟩
       | exact ⟨p0,p1,p2,p3,p4,p5,p6,p7⟩
       | go_keep)
      (first
       | (go_at_call 71;(with_reducible refine (HS1.out _).mono ?_);rintro e w1 ⟨rfl,hb1⟩;have K1:=Lib.hid (KK.out.next hb1);obtain ⟨q0,q1,q2,q3⟩:=blk4 K1.out.k1;obtain ⟨q4,q5,q6,q7⟩:=blk4 K1.out.k2)
       | (go_at_call 71;(with_reducible refine (HS2.out _).mono ?_);rintro e w2 ⟨rfl,hb2⟩;have K2:=Lib.hid (K1.out.next hb2);obtain ⟨r0,r1,r2,r3⟩:=blk4 K2.out.k1;obtain ⟨r4,r5,r6,r7⟩:=blk4 K2.out.k2))
     clear hb1 hb2 p0 p1 p2 p3 p4 p5 p6 p7 q0 q1 q2 q3 q4 q5 q6 q7
     go_wp2_with fail
     refine (HCI.out _).mono ?_
     rintro e w3 ⟨rfl,rfl⟩
     go_wp2
     go_ret
     exact ⟨by rw [HCZ.out];rfl,K2.out.bel⟩
end Go.Proofs.YtpnokfgplnmjpaaGreatDoor


namespace Go.Proofs.YtpnokfgplnmjpaaGreatDoor
open Go.RowKit
attribute [local go_sem ↓] Go.wp_at_zero Go.wp_at_succ

section
variable {w w1 W:World} {c1 c2 c3:Array Value} {T1 T2 T3:TypeId}
end

end Go.Proofs.YtpnokfgplnmjpaaGreatDoor


namespace Go.Proofs.YtpnokfgplnmjpaaGreatDoor
open Go.RowKit
attribute [local go_sem ↓] Go.wp_at_zero Go.wp_at_succ

theorem rt_square (N:Nat):rt (N*N)=N:=rt_unique (Nat.le_refl _) (Nat.mul_lt_mul'' (by omega) (by omega))

theorem isSq_yes (N:Nat) (hs:(mag (N*N)).size≤30000) (w:World) :
  Calls Tryz.prog 128 #[.agg #[.bool false,.string (mag (N*N))]] w (RetB w (.tuple #[.agg #[.bool false,.string (mag N)],.bool true])):=by
 have hN:(mag N).size≤40000:=by
  rcases Nat.eq_zero_or_pos N with h | h
  · rw [h,mag_nil];exact Nat.zero_le _
  · have h1:nd N≤nd (N*N):=nd_mono (Nat.le_mul_of_pos_left N h)
    exact Nat.le_trans h1 (by unfold nd;omega)
 have h:=isSquare_f (enc_mag (N*N)) (by omega) (by omega) (br:=false) (mr:=mag N) (bp:=false) (mp:=mag (N*N)) (by rw [Int.natAbs_natCast,rt_square];exact enc_mag N)
  (by rw [Int.natAbs_natCast,rt_square,←Int.natCast_mul];exact enc_mag (N*N)) hN w
 have hc:((rt ((N*N:Nat):Int).natAbs:Nat):Int)*((rt ((N*N:Nat):Int).natAbs:Nat):Int)=((N*N:Nat):Int):=by rw [Int.natAbs_natCast,rt_square,Int.natCast_mul]
 simp only [if_pos hc] at h
 exact h

set_option maxHeartbeats 4000000 in
set_option maxRecDepth 100000 in
theorem ratRoot_yes {q:Rat} {b:Bool} {m k:ByteArray} (h:Rq q b m k) {N D:Nat} (hN:q.num=((N*N:Nat):Int)) (hD:q.den=D*D) (s1:(mag (N*N)).size≤30000) (s2:(mag (D*D)).size≤30000) (w:World) (hE:Env w) :
  Calls Tryz.prog 72 #[.agg #[.bool b,.string m,.bool false,.string k]] w (RetB w (.tuple #[.agg #[.bool false,.string (mag N),.bool false,.string (dm D)],.bool true])):=by
 have hb:b=false∧m=mag (N*N):=by
  obtain ⟨e1,e2⟩:=h.mag
  rw [hN] at e1 e2
  exact ⟨by rw [e1];exact decide_eq_false (by omega),by rw [e2,Int.natAbs_natCast]⟩
 obtain ⟨rfl,rfl⟩:=hb
 have HE:=Lib.hid (fun V (hb:Below w.heap.size w V)=>hE.next hb)
 have HDN:=Lib.hid (fun V (hV:Env V)=>den_f h V hV)
 rw [hD] at HDN
 have HI1:=Lib.hid (fun V=>isSq_yes N s1 V)
 have HI2:=Lib.hid (fun V=>isSq_yes D s2 V)
 have HCP:=Lib.hid (fun V (hV:Env V)=>coprime_f false (mag N) D V hV)
 have KK:=Lib.hid (Kb.start w #[.bool false,.string (mag (N*N)),.bool false,.string k] #[.bool false,.string ⟨#[]⟩,.bool false,.string ⟨#[]⟩] 25 25)
 generalize mag (N*N)=mN at *
 generalize mag (D*D)=mD at *
 generalize mag N=rN at *
 generalize mag D=rD at *
 generalize dm D=rk at *
 clear h hN hD hE s1 s2
 go_enter Tryz.func72,Tryz.ntmps72
 go_wp2_with fail
 refine (HI1.out _).mono ?_
 rintro e w1 ⟨rfl,hb1⟩
 have K1:=Lib.hid (KK.out.next hb1)
 have K2:=Lib.hid (K1.out.next (below_new w1 (.cells #[.bool false,.string rN] 23)))
 have B2:=Lib.hid (Bq.new w1 #[.bool false,.string rN] 23)
 obtain ⟨p0,p1,p2,p3⟩:=blk4 K2.out.k1
 clear hb1
 go_wp2_with fail
 refine (HDN.out _ (HE.out _ K2.out.bel)).mono ?_
 rintro e w3 ⟨rfl,hb3⟩
 have K3:=Lib.hid (K2.out.next hb3)
 have B3:=Lib.hid (B2.out.next hb3)
 clear hb3 p0 p1 p2 p3
 go_wp2_with fail
 refine (HI2.out _).mono ?_
 rintro e w4 ⟨rfl,hb4⟩
 have K4:=Lib.hid (K3.out.next hb4)
 have B4:=Lib.hid (B3.out.next hb4)
 have K5:=Lib.hid (K4.out.next (below_new w4 (.cells #[.bool false,.string rD] 23)))
 have B5:=Lib.hid (B4.out.next (below_new w4 (.cells #[.bool false,.string rD] 23)))
 obtain ⟨q0,q1,_,_⟩:=blk_cells B5.out.k
 clear hb4
 go_wp2_with fail
 refine (HCP.out _ (HE.out _ K5.out.bel)).mono ?_
 rintro e w6 ⟨rfl,hb6⟩
 have K6:=Lib.hid (K5.out.next hb6)
 obtain ⟨t0,t1,t2,t3⟩:=blk4 K6.out.k2
 obtain ⟨f0,f1,f2,f3⟩:=fro4 K6.out.k2
 clear hb6 q0 q1
 go_wp2
 exact bodyPost_ret (v:=.tuple #[.agg #[.bool false,.string rN,.bool false,.string rk],.bool true]) (by simp [results,Tryz.results72,go_sem,t0,t1,t2,t3]) rfl ⟨rfl,below_set4 K6.out.bel (by omega) _ _ _ _⟩

theorem printed_len (b:Bool) {X K:Nat} (h:X<256^K):(printed b X).length≤3*K+2:=by
 unfold printed
 split
 · simp
 · rw [List.length_append,Lib.decDigits_length]
   have h1:=digits_pow h
   cases b
   · simp;omega
   · simp;omega

set_option maxHeartbeats 4000000 in
set_option maxRecDepth 100000 in
theorem ratPrint_part {q:Rat} {b:Bool} {m k:ByteArray} (h:Rq q b m k) (hd:q.den≠1) (s1:m.size≤10000) (s2:k.size≤10000) (w:World) (hE:EnvT w) :
  Calls Tryz.prog 115 #[.agg #[.bool b,.string m,.bool false,.string k]] w (RetB w (.string ((⟨(printed b q.num.natAbs).toArray⟩++⟨#[47]⟩)++⟨(printed false q.den).toArray⟩))):=by
 have hm:bval m=q.num.natAbs:=by rw [h.mag.2,bval_mag]
 have hk2:=h.den2 hd
 have hkv:bval k=q.den:=by rw [hk2,bval_mag]
 have HE:=Lib.hid (fun V (hb:Below w.heap.size w V)=>hE.next hb)
 have HP1:=Lib.hid (fun V (hV:EnvT V)=>print_any b m V (by omega) hV.ten)
 have HP2:=Lib.hid (fun V (hV:EnvT V)=>print_any false k V (by omega) hV.ten)
 rw [hm] at HP1
 rw [hkv] at HP2
 have HNO:=Lib.hid (isInteger_no b m k (by rw [hk2];exact mag_no_nil q.den_nz))
 have KK:=Lib.hid (Bq.new w #[.bool b,.string m,.bool false,.string k] 25)
 have BB:=Lib.hid (below_new w (.cells #[.bool b,.string m,.bool false,.string k] 25))
 have hL1:=printed_len b (X:=q.num.natAbs) (K:=m.size) (by rw [←hm];exact bval_lt m)
 have hL2:=printed_len false (X:=q.den) (K:=k.size) (by rw [←hkv];exact bval_lt k)
 clear h hm hk2 hkv hd hE
 generalize printed b q.num.natAbs=sn at *
 generalize printed false q.den=sd at *
 obtain ⟨S1,hS1⟩:∃ S:ByteArray,S=⟨sn.toArray⟩:=⟨_,rfl⟩
 obtain ⟨S2,hS2⟩:∃ S:ByteArray,S=⟨sd.toArray⟩:=⟨_,rfl⟩
 have hz1:S1.size≤30002:=by rw [hS1];simp [ByteArray.size];omega
 have hz2:S2.size≤30002:=by rw [hS2];simp [ByteArray.size];omega
 rw [←hS1] at HP1 ⊢
 rw [←hS2] at HP2 ⊢
 have hc1:¬9223372036854775807<S1.size+1:=by omega
 have hc2:¬9223372036854775807<S1.size+1+S2.size:=by omega
 clear hS1 hS2 hL1 hL2
 go_enter Tryz.func115,Tryz.ntmps115
 go_wp2_with fail
 refine (HNO.out _).mono ?_
 rintro e w1 ⟨rfl,hb1⟩
 have K1:=Lib.hid (KK.out.next hb1).drew
 have B1:=Lib.hid (below_step BB.out (Nat.le_refl _) hb1).drew
 obtain ⟨p0,p1,p2,p3⟩:=blk4 K1.out.k
 simp only [World.cell?_drew] at p0 p1 p2 p3
 clear hb1
 go_wp2_with fail
 go_region_held3 (fun w'=>w'.cell? ⟨w.heap.size,0,none⟩=some (.bool b)∧w'.cell? ⟨w.heap.size,1,none⟩=some (.string m)∧w'.cell? ⟨w.heap.size,2,none⟩=some (.bool false)∧w'.cell? ⟨w.heap.size,3,none⟩=some (.string k))
  (first
   | exact ⟨r0,r1,r2,r3⟩
   | exact ⟨q0,q1,q2,q3⟩
   | exact ⟨p0,p1,p2,p3⟩
   | go_keep)
  (first
   | (go_at_call 163;(with_reducible refine (HP1.out _ (HE.out _ B1.out)).mono ?_);rintro e w3 ⟨rfl,hb3⟩;have K3:=Lib.hid (K1.out.next hb3);have B3:=Lib.hid (below_step B1.out (Nat.le_refl _) hb3);obtain ⟨q0,q1,q2,q3⟩:=blk4 K3.out.k)
   | (go_at_call 163;(with_reducible refine (HP2.out _ (HE.out _ B3.out)).mono ?_);rintro e w4 ⟨rfl,hb4⟩;have K4:=Lib.hid (K3.out.next hb4);have B4:=Lib.hid (below_step B3.out (Nat.le_refl _) hb4);obtain ⟨r0,r1,r2,r3⟩:=blk4 K4.out.k))
 go_wp2
 go_ret
 exact ⟨rfl,B4.out⟩

set_option maxHeartbeats 4000000 in
set_option maxRecDepth 100000 in
theorem ratPrint_int {q:Rat} {b:Bool} {m k:ByteArray} (h:Rq q b m k) (hd:q.den=1) (s1:m.size≤10000) (w:World) (hE:EnvT w) :
  Calls Tryz.prog 115 #[.agg #[.bool b,.string m,.bool false,.string k]] w (RetB w (.string ⟨(printed b q.num.natAbs).toArray⟩)):=by
 have hm:bval m=q.num.natAbs:=by rw [h.mag.2,bval_mag]
 obtain rfl:=h.den1 hd
 have HE:=Lib.hid (fun V (hb:Below w.heap.size w V)=>hE.next hb)
 have HP1:=Lib.hid (fun V (hV:EnvT V)=>print_any b m V (by omega) hV.ten)
 rw [hm] at HP1
 have KK:=Lib.hid (Bq.new w #[.bool b,.string m,.bool false,.string ⟨#[]⟩] 25)
 have BB:=Lib.hid (below_new w (.cells #[.bool b,.string m,.bool false,.string ⟨#[]⟩] 25))
 clear h hm hd hE
 generalize printed b q.num.natAbs=sn at *
 go_enter Tryz.func115,Tryz.ntmps115
 go_wp2_with fail
 refine (isInteger_yes b m _).mono ?_
 rintro e w1 ⟨rfl,hb1⟩
 have K1:=Lib.hid (KK.out.next hb1)
 have B1:=Lib.hid (below_step BB.out (Nat.le_refl _) hb1)
 obtain ⟨p0,p1,p2,p3⟩:=blk4 K1.out.k
 clear hb1
 go_wp2_with fail
 refine (HP1.out _ (HE.out _ B1.out)).mono ?_
 rintro e w3 ⟨rfl,hb3⟩
 have B3:=Lib.hid (below_step B1.out (Nat.le_refl _) hb3)
 clear hb3
 go_wp2
 go_ret
 exact ⟨rfl,B3.out⟩
end Go.Proofs.YtpnokfgplnmjpaaGreatDoor


namespace Go.Proofs.YtpnokfgplnmjpaaGreatDoor
open Go.RowKit
attribute [local go_sem ↓] Go.wp_at_zero Go.wp_at_succ

end Go.Proofs.YtpnokfgplnmjpaaGreatDoor
