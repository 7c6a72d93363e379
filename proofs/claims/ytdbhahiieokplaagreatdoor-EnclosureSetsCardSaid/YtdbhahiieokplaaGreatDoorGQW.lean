import Derived.Test.YtdbhahiieokplaaGreatDoorGQF
import Derived.Test.YtdbhahiieokplaaGreatDoorGStH
import Derived.Test.YtdbhahiieokplaaGreatDoorGQR
import Derived.Deep.RegionLaw
import Derived.Test.YtdbhahiieokplaaGreatDoorGRNC
set_option linter.unusedSimpArgs false
set_option linter.unusedVariables false

namespace Go.Proofs.YtdbhahiieokplaaGreatDoor
open Go.RowKit
attribute [local go_sem ↓] Go.wp_at_zero Go.wp_at_succ

def RetTo (w:World) (V:Nat) (e:Ending) (w':World):Prop:=∃ A n c,e=.returned (.slice A n c)∧Tr w' A n c V∧Below w.heap.size w w'

set_option maxHeartbeats 4000000 in
set_option maxRecDepth 100000 in
theorem rcommon (A B:Option Addr) (n m c d X Y:Nat) (w:World) (hn:n≤1000000) (hm:m≤1000000) (hx:Tr w A n c X) (hy:Tr w B m d Y) :
  Calls Tryz.prog 67 #[.slice A n c,.slice B m d] w (RetTo w (Nat.gcd X Y)):=by
 have HX:=Lib.hid hx
 have HY:=Lib.hid hy
 clear hx hy
 go_enter Tryz.func67,Tryz.ntmps67
 go_wp2
 go_loopg [0,1] Y (fun k av bv wr=>∃ (x y:Nat) (A':Option Addr) (n' c':Nat) (B':Option Addr) (m' d':Nat),y≤k∧n'≤1000000∧m'≤1000000∧av=.slice A' n' c'∧bv=.slice B' m' d'∧Hid (Tr wr A' n' c' x∧Tr wr B' m' d' y∧Nat.gcd x y=Nat.gcd X Y∧Below w.heap.size w wr))
 case atStart=>exact ⟨X,Y,A,n,c,B,m,d,Nat.le_refl _,hn,hm,rfl,rfl,HX.out,HY.out,rfl,Below.refl _ _⟩
 case round =>
  obtain ⟨x,y,A',n',c',B',m',d',hyk,hn',hm',rfl,rfl,HH⟩:=hrel
  have hln:=HH.out.2.1.ln
  by_cases hz:0<m'
  · have hy0 : 0 < y := by
     rcases Nat.eq_zero_or_pos y with h | h
     · rw [h,nd_zero] at hln;omega
     · exact h
    have HDV:=Lib.hid (rdivide A' B' n' m' c' d' x y wr hn' hm' HH.out.1 HH.out.2.1 hy0)
    have hmod:=Nat.mod_lt x hy0
    have hmk:x%y<gk:=by omega
    have hn2:nd (x%y)≤1000000:=by have:=nd_mono (Nat.le_of_lt hmod);omega
    have HN2:=Lib.hid hn2
    have HG:=Lib.hid (show Nat.gcd y (x%y)=Nat.gcd X Y by rw [←HH.out.2.2.1,Nat.gcd_comm,←Nat.gcd_rec,Nat.gcd_comm])
    clear hln hmod hn2
    go_wp2_with fail
    refine HDV.out.mono ?_
    rintro e w' ⟨A1,n1,c1,A2,n2,c2,rfl,ht1,ht2,hb⟩
    have HT:=Lib.hid ht2
    have HTY:=Lib.hid (HH.out.2.1.below hb)
    have HB:=Lib.hid (HH.out.2.2.2.trans (hb.mono HH.out.2.2.2.size))
    have hn2:n2≤1000000:=by have:=HN2.out;rw [←ht2.ln] at this;exact this
    clear ht1 ht2 hb
    go_wp2
    go_roundg (x%y)
    case measure=>exact hmk
    case rel=>exact ⟨y,x%y,B',m',d',A2,n2,c2,Nat.le_refl _,hm',hn2,rfl,rfl,HTY.out,HT.out,HG.out,HB.out⟩
  · have hy0:y=0:=nd_zero_iff.1 (by omega)
    have hg:=HH.out.2.2.1
    rw [hy0,Nat.gcd_zero_right] at hg
    have HG:=Lib.hid hg
    clear hg hln hy0
    go_wp2
    go_ret
    exact ⟨A',n',c',rfl,by rw [←HG.out];exact HH.out.1,HH.out.2.2.2⟩

theorem sgn_natAbs (neg:Bool) (X:Nat):(sgn neg X).natAbs=X:=by cases neg<;>simp [sgn]
theorem sgn_div (neg:Bool) {X g:Nat} (h:g ∣ X):sgn neg X / (g:Int)=sgn neg ((X / g:Nat)):=by
 cases neg
 · simp [sgn]
 · simp only [sgn,if_true]
   rw [Int.neg_ediv_of_dvd (Int.natCast_dvd_natCast.2 h),Int.natCast_ediv]

theorem Rq.of_mk {neg:Bool} {X Y:Nat} (hY:0<Y) {b:Bool} {m k:ByteArray} (h1:enc (sgn neg ((X / Nat.gcd X Y:Nat)))=.agg #[.bool b,.string m]) (h2:k=dm (Y / Nat.gcd X Y)):Rq (mkRat (sgn neg X) Y) b m k:=by
 obtain ⟨e1,e2⟩:=mkRat_parts (sgn neg X) (d:=Y) (by omega)
 rw [sgn_natAbs] at e1 e2
 refine ⟨?_,?_⟩
 · rw [e1,sgn_div neg (Nat.gcd_dvd_left X Y)];exact h1
 · rw [e2];exact h2

def RetR (w:World) (q:Rat) (e:Ending) (w':World):Prop:=∃ b m k,e=.returned (.agg #[.bool b,.string m,.bool false,.string k])∧Rq q b m k∧Below w.heap.size w w'

theorem enc_nat' (n:Nat):enc (n:Int)=.agg #[.bool false,.string (mag n)]:=by
 unfold enc
 have h:decide ((n:Int)<0)=false:=by simp
 rw [h,Int.natAbs_natCast]

theorem enc_one_nil:enc (sgn false 0)=.agg #[.bool false,.string ⟨#[]⟩]:=enc_zero

set_option maxHeartbeats 8000000 in
set_option maxRecDepth 100000 in
theorem rcanonical (neg:Bool) (A B:Option Addr) (n m c d X Y:Nat) (w:World) (hn:n≤1000000) (hm:m≤1000000) (hx:Tr w A n c X) (hy:Tr w B m d Y) (hY:0<Y) :
  Calls Tryz.prog 91 #[.agg #[.bool neg,.slice A n c,.slice B m d]] w (RetR w (mkRat (sgn neg X) Y)):=by
 have HX:=Lib.hid hx
 have HY:=Lib.hid hy
 obtain ⟨G,hG⟩:∃ G,Nat.gcd X Y=G:=⟨_,rfl⟩
 have hG0:0<G:=hG ▸ Nat.gcd_pos_of_pos_right X hY
 have hGY:G≤Y:=hG ▸ Nat.gcd_le_right X hY
 have hGn:nd G≤1000000:=by have:=nd_mono hGY;rw [←hy.ln] at this;omega
 have hE0:0<Y / G:=Nat.div_pos hGY hG0
 obtain ⟨N',hN⟩:∃ N',X / G=N':=⟨_,rfl⟩
 obtain ⟨E',hE⟩:∃ E',Y / G=E':=⟨_,rfl⟩
 have hNn:nd N'≤1000000:=by have:=nd_div X G;rw [←hx.ln,hN] at this;omega
 have hEn:nd E'≤1000000:=by have:=nd_div Y G;rw [←hy.ln,hE] at this;omega
 rw [hE] at hE0
 have HFIN:=Lib.hid (fun b m k (h1:enc (sgn neg (N':Nat))=.agg #[.bool b,.string m]) (h2:k=dm E')=>Rq.of_mk (neg:=neg) (X:=X) hY (b:=b) (m:=m) (k:=k) (by rw [hG,hN];exact h1) (by rw [hG,hE];exact h2))
 have HG:=Lib.hid hG
 have HG0:=Lib.hid hG0
 have HGN:=Lib.hid hGn
 have HND:=Lib.hid (And.intro hN hE)
 have HNN:=Lib.hid (And.intro hNn hEn)
 have HE0:=Lib.hid hE0
 obtain ⟨bn,mn,hbn⟩:=enc_form (sgn neg (N':Nat))
 have HBN:=Lib.hid hbn
 have KK:=Lib.hid (Kb.start w #[.bool neg,.slice A n c,.slice B m d] #[.bool false,.string ⟨#[]⟩,.bool false,.string ⟨#[]⟩] 121 25)
 have HX1:=Lib.hid (KK.out.bel)
 clear hx hy hG hG0 hGY hGn hE0 hN hE hNn hEn hbn hY
 go_enter Tryz.func91,Tryz.ntmps91
 go_wp2_with fail
 refine (rcommon A B n m c d X Y _ hn hm (HX.out.below HX1.out) (HY.out.below HX1.out)).mono ?_
 rw [HG.out]
 rintro e w1 ⟨A1,n1,c1,rfl,ht1,hb1⟩
 have K1:=Lib.hid (KK.out.next hb1)
 have T1:=Lib.hid ht1
 have hn1:n1≤1000000:=by rw [ht1.ln];exact HGN.out
 obtain ⟨p0,p1,p2,_,_,_⟩:=blk3 K1.out.k1
 clear ht1 hb1 HX1
 go_wp2_with fail
 refine (rdivide A A1 n n1 c c1 X G _ hn hn1 (HX.out.below K1.out.bel) T1.out HG0.out).mono ?_
 rw [HND.out.1]
 rintro e w2 ⟨A2,n2,c2,A3,n3,c3,rfl,ht2,_,hb2⟩
 have K2:=Lib.hid (K1.out.next hb2)
 have T2:=Lib.hid ht2
 have T1':=Lib.hid (T1.out.below hb2)
 have hn2:n2≤1000000:=by rw [ht2.ln];exact HNN.out.1
 obtain ⟨q0,q1,q2,_,_,_⟩:=blk3 K2.out.k1
 clear ht2 hb2 p0 p1 p2
 go_wp2_with fail
 refine (rdivide B A1 m n1 d c1 Y G _ hm hn1 (HY.out.below K2.out.bel) T1'.out HG0.out).mono ?_
 rw [HND.out.2]
 rintro e w3 ⟨A4,n4,c4,A5,n5,c5,rfl,ht4,_,hb4⟩
 have K3:=Lib.hid (K2.out.next hb4)
 have T2':=Lib.hid (T2.out.below hb4)
 have T4:=Lib.hid ht4
 have hn4:n4≤1000000:=by rw [ht4.ln];exact HNN.out.2
 obtain ⟨r0,r1,r2,_,_,_⟩:=blk3 K3.out.k1
 have hl4:=ht4.ln
 have hp4:0<n4:=by rw [hl4];exact nd_pos HE0.out
 obtain ⟨g,o,rfl,hg,hc⟩:=T4.out.dg.rd hp4
 have hc0:=hc 0 hp4
 have hcase:(E'=1∧n4=1)∨(E'≠1∧n4≠1)∨(E'≠1∧n4=1∧D 256 E' 0≠1):=by
  by_cases h1:E'=1
  · exact .inl ⟨h1,by rw [hl4,h1,nd_one]⟩
  · by_cases h2:n4=1
    · refine .inr (.inr ⟨h1,h2,?_⟩)
      have h3:=T4.out.dg.lt
      rw [h2] at h3
      unfold D
      rw [Nat.pow_zero,Nat.div_one]
      omega
    · exact .inr (.inl ⟨h1,h2⟩)
 rw [Nat.add_zero] at hc0
 have HL4:=Lib.hid hl4
 clear ht4 hb4 q0 q1 q2 hc hl4
 rcases hcase with ⟨h1,h2⟩ | ⟨h1,h2⟩ | ⟨h1,h2,h3⟩
 · subst h1
   subst h2
   have hd1:D 256 1 0=1:=by decide
   rw [hd1] at hc0
   clear hd1
   go_wp2_with fail
   refine (rwhole neg A2 n2 c2 N' _ (by omega) T2'.out.cap T2'.out.dg).mono ?_
   rintro e w5 ⟨rfl,hb5⟩
   rw [HBN.out]
   go_wp2_with fail
   refine (rwhole false none 0 0 0 _ (by omega) (Nat.le_refl _) (tr_nil _).dg).mono ?_
   rintro e w6 ⟨rfl,hb6⟩
   rw [enc_one_nil]
   have K6:=Lib.hid ((K3.out.next hb5).next hb6)
   obtain ⟨s0,s1,s2,s3⟩:=blk4 K6.out.k2
   obtain ⟨f0,f1,f2,f3⟩:=fro4 K6.out.k2
   clear hb5 hb6 r0 r1 r2 hc0
   go_wp2
   exact bodyPost_ret (v:=.agg #[.bool bn,.string mn,.bool false,.string ⟨#[]⟩]) (by simp [results,Tryz.results91,go_sem,s0,s1,s2,s3]) rfl ⟨bn,mn,_,rfl,HFIN.out bn mn _ HBN.out (by rw [dm_one]),below_set4 K6.out.bel (by omega) _ _ _ _⟩
 · have hne:((n4:Int)==1)=false:=by simp;omega
   have HE1:=Lib.hid h1
   clear h1 h2
   go_wp2_with fail
   refine (rwhole neg A2 n2 c2 N' _ (by omega) T2'.out.cap T2'.out.dg).mono ?_
   rintro e w5 ⟨rfl,hb5⟩
   rw [HBN.out]
   go_wp2_with fail
   refine (rwhole false (some ⟨g,o,none⟩) n4 c4 E' _ (by omega) T4.out.cap (T4.out.dg.below hb5)).mono ?_
   rintro e w6 ⟨rfl,hb6⟩
   rw [(show enc (sgn false (E':Nat))=.agg #[.bool false,.string (mag E')] from enc_nat' E')]
   have K6:=Lib.hid ((K3.out.next hb5).next hb6)
   obtain ⟨s0,s1,s2,s3⟩:=blk4 K6.out.k2
   obtain ⟨f0,f1,f2,f3⟩:=fro4 K6.out.k2
   clear hb5 hb6 r0 r1 r2 hc0
   go_wp2
   exact bodyPost_ret (v:=.agg #[.bool bn,.string mn,.bool false,.string (mag E')]) (by simp [results,Tryz.results91,go_sem,s0,s1,s2,s3]) rfl ⟨bn,mn,_,rfl,HFIN.out bn mn _ HBN.out (by unfold dm;rw [if_neg HE1.out]),below_set4 K6.out.bel (by omega) _ _ _ _⟩
 · subst h2
   have hne:((D 256 E' 0:Int)==1)=false:=by simp;omega
   have HE1:=Lib.hid h1
   clear h1 h3
   generalize D 256 E' 0=dg at *
   go_wp2_with fail
   refine (rwhole neg A2 n2 c2 N' _ (by omega) T2'.out.cap T2'.out.dg).mono ?_
   rintro e w5 ⟨rfl,hb5⟩
   rw [HBN.out]
   go_wp2_with fail
   refine (rwhole false (some ⟨g,o,none⟩) 1 c4 E' _ (by omega) T4.out.cap (T4.out.dg.below hb5)).mono ?_
   rintro e w6 ⟨rfl,hb6⟩
   rw [(show enc (sgn false (E':Nat))=.agg #[.bool false,.string (mag E')] from enc_nat' E')]
   have K6:=Lib.hid ((K3.out.next hb5).next hb6)
   obtain ⟨s0,s1,s2,s3⟩:=blk4 K6.out.k2
   obtain ⟨f0,f1,f2,f3⟩:=fro4 K6.out.k2
   clear hb5 hb6 r0 r1 r2 hc0
   go_wp2
   exact bodyPost_ret (v:=.agg #[.bool bn,.string mn,.bool false,.string (mag E')]) (by simp [results,Tryz.results91,go_sem,s0,s1,s2,s3]) rfl ⟨bn,mn,_,rfl,HFIN.out bn mn _ HBN.out (by unfold dm;rw [if_neg HE1.out]),below_set4 K6.out.bel (by omega) _ _ _ _⟩
end Go.Proofs.YtdbhahiieokplaaGreatDoor


namespace Go.Proofs.YtdbhahiieokplaaGreatDoor
open Go.RowKit
attribute [local go_sem ↓] Go.wp_at_zero Go.wp_at_succ

theorem Rq.bval {q:Rat} {b:Bool} {m k:ByteArray} (h:Rq q b m k):bval m=q.num.natAbs:=by rw [h.mag.2,bval_mag]
theorem tr_one (w:World):Tr (w.alloc (.cells #[.int .i64 1] 3)) (some ⟨w.heap.size,0,none⟩) 1 1 1:=by
 refine ⟨⟨by decide,fun _=>⟨w.heap.size,0,rfl,by simp,fun j hj=>?_⟩⟩,nd_one.symm,Nat.le_refl _,fun h=>by cases h⟩
 obtain rfl:j=0:=by omega
 exact (cell_of_row _ _ _ _ 3 (0,0) (heap_one w _)).trans (by simp [D])

theorem Tr.set3 {W:World} {A:Option Addr} {n c V g:Nat} (h:Tr W A n c V) (hA:∀ a,A=some a→a.block≠g) (x y z:Value) :
  Tr (((W.setCell ⟨g,0,none⟩ x).setCell ⟨g,1,none⟩ y).setCell ⟨g,2,none⟩ z) A n c V :=
 ⟨((h.dg.apart hA _ _).apart hA _ _).apart hA _ _,h.ln,h.cap,h.nil⟩
theorem below_set3 {B:Nat} {a W:World} {g:Nat} (h:Below B a W) (hB:B≤g) (x y z:Value):Below B a (((W.setCell ⟨g,0,none⟩ x).setCell ⟨g,1,none⟩ y).setCell ⟨g,2,none⟩ z) :=
 ((h.setCell hB _).setCell hB _).setCell hB _

end Go.Proofs.YtdbhahiieokplaaGreatDoor


namespace Go.Proofs.YtdbhahiieokplaaGreatDoor
open Go.RowKit
attribute [local go_sem ↓] Go.wp_at_zero Go.wp_at_succ

set_option maxHeartbeats 8000000 in
set_option maxRecDepth 100000 in
theorem rmake (b1 b2:Bool) (m1 m2:ByteArray) (h1:m1.size≤1000000) (h2:m2.size≤1000000) (hY:0<bval m2) (w:World) :
  Calls Tryz.prog 105 #[.agg #[.bool b1,.string m1],.agg #[.bool b2,.string m2]] w (RetR w (mkRat (sgn (b1 != b2) (bval m1)) (bval m2))):=by
 have KK:=Lib.hid ((Kc.start w #[.bool b1,.string m1] #[.bool b2,.string m2] #[.bool false,.string ⟨#[]⟩,.bool false,.string ⟨#[]⟩] 23 23 25).drew)
 have HD1:=Lib.hid (fun V=>rdigits b1 m1 V (by omega))
 have HD2:=Lib.hid (fun V=>rdigits b2 m2 V (by omega))
 have HN1:=Lib.hid (nd_le (bval_lt m1))
 have HN2:=Lib.hid (nd_le (bval_lt m2))
 have HYP:=Lib.hid hY
 clear hY
 have hne1:¬(w.heap.size=w.heap.size+1+1):=by omega
 have hne2:¬(w.heap.size+1+1=w.heap.size):=by omega
 have hne3:¬(w.heap.size+1=w.heap.size+1+1):=by omega
 have hne4:¬(w.heap.size+1+1=w.heap.size+1):=by omega
 obtain ⟨p0,p1,_,_⟩:=blk_cells KK.out.k1
 obtain ⟨p2,p3,_,_⟩:=blk_cells KK.out.k2
 go_enter Tryz.func105,Tryz.ntmps105
 go_wp2_with fail
 go_region_held3 (fun w'=>w'.cell? ⟨w.heap.size,0,none⟩=some (.bool b1)∧w'.cell? ⟨w.heap.size,1,none⟩=some (.string m1)∧w'.cell? ⟨w.heap.size+1,0,none⟩=some (.bool b2)∧w'.cell? ⟨w.heap.size+1,1,none⟩=some (.string m2))
  (first
   | exact ⟨s0,s1,s2,s3⟩
   | exact ⟨r0,r1,r2,r3⟩
   | exact ⟨q0,q1,q2,q3⟩
   | exact ⟨p0,p1,p2,p3⟩
   | go_keep)
  (first
   | (go_at_call 68;(with_reducible refine (HD1.out _).mono ?_);rintro e w1 ⟨A1,n1,c1,rfl,ht1,hb1,_⟩;have K1:=Lib.hid (KK.out.next hb1);have T1:=Lib.hid ht1;obtain ⟨q0,q1,_,_⟩:=blk_cells K1.out.k1;obtain ⟨q2,q3,_,_⟩:=blk_cells K1.out.k2)
   | (go_at_call 68;(with_reducible refine (HD2.out _).mono ?_);rintro e w2 ⟨A2,n2,c2,rfl,ht2,hb2,_⟩;have K2:=Lib.hid (K1.out.next hb2);have T2:=Lib.hid ht2;have T1':=Lib.hid (T1.out.below hb2);obtain ⟨r0,r1,_,_⟩:=blk_cells K2.out.k1;obtain ⟨r2,r3,_,_⟩:=blk_cells K2.out.k2)
   | (go_at_call 91;(with_reducible refine (rcanonical _ A1 A2 n1 n2 c1 c2 (bval m1) (bval m2) _ ?_ ?_ T1'.out T2.out HYP.out).mono ?_);(have h3:=T1'.out.ln;have h4:=HN1.out;omega);(have h3:=T2.out.ln;have h4:=HN2.out;omega);rintro e w3 ⟨b3,m3,k3,rfl,hq3,hb3⟩;have K3:=Lib.hid (K2.out.next hb3);have HQ:=Lib.hid hq3;obtain ⟨s0,s1,_,_⟩:=blk_cells K3.out.k1;obtain ⟨s2,s3,_,_⟩:=blk_cells K3.out.k2;obtain ⟨t0,t1,t2,t3⟩:=blk4 K3.out.k3;obtain ⟨f0,f1,f2,f3⟩:=fro4 K3.out.k3))
 clear hb1 hb2 hb3 hq3 ht1 ht2
 go_wp2
 exact bodyPost_ret (v:=.agg #[.bool b3,.string m3,.bool false,.string k3]) (by simp [results,Tryz.results105,go_sem,t0,t1,t2,t3]) rfl ⟨b3,m3,k3,rfl,HQ.out,below_set4 K3.out.bel (by omega) _ _ _ _⟩

end Go.Proofs.YtdbhahiieokplaaGreatDoor


namespace Go.Proofs.YtdbhahiieokplaaGreatDoor
open Go.RowKit
attribute [local go_sem ↓] Go.wp_at_zero Go.wp_at_succ

theorem div_256_pos {N k:Nat} (hN:N≤9223372036854775808) (h:0<N / 256^k):k<8:=by
 rcases Nat.lt_or_ge k 8 with h1 | h1
 · exact h1
 · have h2:256^8≤256^k:=Nat.pow_le_pow_right (by omega) h1
   rw [Nat.div_eq_of_lt (by omega)] at h
   omega

structure Li (w:World) (N k:Nat) (v:Value) (wr:World):Prop where
 top:0<k→N / 256^(k-1)≠0
 own:wr.ownsRow (w.heap.size+1) 3 1 v k (nums .i64 (D 256 N) k)
 res:wr.heap[w.heap.size]?=some (.cells #[.bool false,.string ⟨#[]⟩] 23 (0,0))
 sz:w.heap.size+1≤wr.heap.size
 bel:Below w.heap.size w wr

theorem Li.start (w:World) (N:Nat):Li w N 0 (.slice none 0 0) (w.alloc (.cells #[.bool false,.string ⟨#[]⟩] 23)) :=
 ⟨fun h=>absurd h (by omega),World.ownsRow_nil _ _ _ _,heap_one _ _,by simp,(Below.refl _ _).alloc (Nat.le_refl _) _⟩

theorem Li.next {w wr w1:World} {N k d:Nat} {v v' o:Value} (h:Li w N k v wr) (hd:d=N / 256^k%256) (hp:N / 256^k≠0)
  (hown':w1.ownsRow (w.heap.size+1) 3 1 v' (k+1) (nums .i64 (D 256 N) k++[.int .i64 (d:Int)])) (hgrow:(wr.alloc (.cells #[o] 3)).grownBy w1 v.ownBlock):Li w N (k+1) v' w1:=by
 have hb1:Below (w.heap.size+1) wr w1:=((Below.refl _ _).alloc h.sz _).grown hgrow (by have:=h.sz;simp;omega) (fun g hg=>((h.own.lt) g hg).1)
 have hs:=hb1.size
 have hs2:=h.sz
 exact ⟨fun _=>by rw [Nat.add_sub_cancel];exact hp,own_next hown' hd,(hb1.block _ (by omega)).trans h.res,by omega,h.bel.trans (hb1.mono (by omega))⟩

theorem Li.done {w wr:World} {N k:Nat} {v:Value} (h:Li w N k v wr) (hz:N / 256^k=0):∃ A c,v=.slice A k c∧Tr wr A k c N:=by
 obtain ⟨A,c,rfl,hc,hn,hr,_⟩:=own_form h.own
 have hlt:N<256^k:=Nat.lt_of_div_eq_zero (Nat.pow_pos (by omega)) hz
 refine ⟨A,c,rfl,⟨hlt,hr⟩,nd_of hlt fun h0=>?_,hc,hn⟩
 have h1:=h.top h0
 have h2:=div_256 N (k-1)
 rw [Nat.sub_add_cancel h0,hz] at h2
 omega

set_option maxHeartbeats 8000000 in
set_option maxRecDepth 100000 in
theorem rint_pos (N:Nat) (hN:N≤9223372036854775807) (w:World):Calls Tryz.prog 106 #[.int .i64 (N:Int)] w (RetZ w (N:Int)):=by
 obtain ⟨i0,hi,hz0,hz1,hz2⟩:=info_parts intTy_info
 obtain ⟨bz,mz,hbz⟩:=enc_form (N:Int)
 have HBZ:=Lib.hid hbz
 clear hbz
 go_enter Tryz.func106,Tryz.ntmps106
 go_wp2
 go_loopw [3,4] (fun v nv wr=>∃ k:Nat,nv=.int .i64 ((N / 256^k:Nat):Int)∧Hid (Li w N k v wr)) (fun _ nv _=>(intOf nv).toNat)
 case atStart=>exact ⟨0,by rw [Nat.pow_zero,Nat.div_one],Li.start w N⟩
 case round =>
  obtain ⟨k,rfl,HL⟩:=hrel
  have hle:N / 256^k≤N:=Nat.div_le_self _ _
  have hk8:=div_256_pos (N:=N) (k:=k) (by omega)
  have hq2:N / 256^k / 256=N / 256^(k+1):=by rw [Nat.div_div_eq_div_mul,Nat.pow_succ]
  generalize hq:N / 256^k=q at *
  have HQ:=Lib.hid hq
  have HQ2:=Lib.hid hq2
  clear hq hq2
  by_cases hlt:0<q
  · have hk:=hk8 hlt
    have hne:((q:Int) != 0)=true:=by simp;omega
    have hsz:=HL.out.sz
    have hown:=HL.out.own
    go_wp2_with (at_builtin;refine wpList_append_own _ rfl _ _ 98 rfl (w.heap.size+1) 3 i0 (.int .i64 0) 1 8 Tryz.underlying98 hi hz0 hz1 hz2 rfl (by decide) _ _ _ rfl (hown.alloc _) ⟨wr.heap.size,0,none⟩ 1 1 [.int .i64 ((q%256:Nat):Int)] rfl rfl ?_ ?_ ?_ ?_ ?_ ?_)
    · intro j u hj;exact one_cell j u hj (by first | (go_num;done) | (simp;rfl))
    · intro u hu;simp at hu;subst hu;rfl
    · unfold maxLen;omega
    · omega
    · simp;omega
    intro v' w1 hown' hgrow _
    have HL2:=Lib.hid (HL.out.next (d:=q%256) (by rw [HQ.out]) (by rw [HQ.out];omega) hown' hgrow)
    clear hgrow hown' hown hne
    go_wp2
    go_roundw
    case rel=>exact ⟨k+1,by rw [←HQ2.out];go_num,HL2.out⟩
    case measure=>simp [intOf];omega
  · obtain rfl:q=0:=by omega
    obtain ⟨A,c,rfl,ht⟩:=HL.out.done HQ.out
    have HT:=Lib.hid ht
    clear ht
    have hk:k≤1000000:=by
     have h1:=HT.out.ln
     have h2:nd N≤8:=nd_le (by omega)
     omega
    have hn0:decide ((N:Int)<0)=false:=by simp
    go_wp2_with fail
    refine (rwhole false A k c N _ (by omega) HT.out.cap HT.out.dg).mono ?_
    rintro e w2 ⟨rfl,hb2⟩
    rw [show enc (sgn false N)=.agg #[.bool bz,.string mz] from HBZ.out]
    obtain ⟨p0,p1,f0,f1⟩:=blk_cells ((hb2.block _ (by have:=HL.out.sz;omega)).trans HL.out.res)
    have HB:=Lib.hid (HL.out.bel.trans (hb2.mono HL.out.bel.size))
    clear hb2
    go_wp2
    exact bodyPost_ret (v:=.agg #[.bool bz,.string mz]) (by simp [results,Tryz.results106,go_sem,p0,p1]) rfl ⟨by rw [HBZ.out],below_set2 HB.out (Nat.le_refl _) _ _⟩
set_option maxHeartbeats 8000000 in
set_option maxRecDepth 100000 in
theorem rint_neg (N:Nat) (h0:0<N) (hN:N≤9223372036854775808) (w:World):Calls Tryz.prog 106 #[.int .i64 (-(N:Int))] w (RetZ w (-(N:Int))):=by
 obtain ⟨i0,hi,hz0,hz1,hz2⟩:=info_parts intTy_info
 obtain ⟨bz,mz,hbz⟩:=enc_form (-(N:Int))
 have HBZ:=Lib.hid hbz
 clear hbz
 go_enter Tryz.func106,Tryz.ntmps106
 go_wp2
 go_loopw [3,4] (fun v nv wr=>∃ k:Nat,nv=.int .i64 (-((N / 256^k:Nat):Int))∧Hid (Li w N k v wr)) (fun _ nv _=>(-(intOf nv)).toNat)
 case atStart=>exact ⟨0,by rw [Nat.pow_zero,Nat.div_one],Li.start w N⟩
 case round =>
  obtain ⟨k,rfl,HL⟩:=hrel
  have hle:N / 256^k≤N:=Nat.div_le_self _ _
  have hk8:=div_256_pos (N:=N) (k:=k) (by omega)
  have hq2:N / 256^k / 256=N / 256^(k+1):=by rw [Nat.div_div_eq_div_mul,Nat.pow_succ]
  generalize hq:N / 256^k=q at *
  have HQ:=Lib.hid hq
  have HQ2:=Lib.hid hq2
  clear hq hq2
  by_cases hlt:0<q
  · have hk:=hk8 hlt
    have hne:(-(q:Int) != 0)=true:=by simp;omega
    obtain ⟨r,hr⟩:∃ r,q%256=r:=⟨_,rfl⟩
    obtain ⟨s,hs⟩:∃ s,q / 256=s:=⟨_,rfl⟩
    have hr1:r<256:=by omega
    have hs1:s≤q:=by omega
    have hsq:s<q:=by omega
    have HR:=Lib.hid hr
    have HS:=Lib.hid hs
    have HTM:=Lib.hid (show (-(q:Int)).tmod 256=-(r:Int) by rw [Int.neg_tmod,Int.tmod_eq_emod_of_nonneg (by omega)];omega)
    have HTD:=Lib.hid (show (-(q:Int)).tdiv 256=-(s:Int) by rw [Int.neg_tdiv,Int.tdiv_eq_ediv_of_nonneg (by omega)];omega)
    clear hr hs
    rcases Nat.eq_zero_or_pos r with hr0 | hr0
    · subst hr0
      have htm:(-(q:Int)).tmod 256=0:=by rw [HTM.out];rfl
      have hsz:=HL.out.sz
      have hown:=HL.out.own
      go_wp2_with (at_builtin;refine wpList_append_own _ rfl _ _ 98 rfl (w.heap.size+1) 3 i0 (.int .i64 0) 1 8 Tryz.underlying98 hi hz0 hz1 hz2 rfl (by decide) _ _ _ rfl (hown.alloc _) ⟨wr.heap.size,0,none⟩ 1 1 [.int .i64 ((0:Nat):Int)] rfl rfl ?_ ?_ ?_ ?_ ?_ ?_)
      · intro j u hj;exact one_cell j u hj (by first | (go_num;done) | (simp;rfl))
      · intro u hu;simp at hu;subst hu;rfl
      · unfold maxLen;omega
      · omega
      · simp;omega
      intro v' w1 hown' hgrow _
      have HL2:=Lib.hid (HL.out.next (d:=0) (by rw [HQ.out,HR.out]) (by rw [HQ.out];omega) hown' hgrow)
      clear hgrow hown' hown hne htm
      have htd:=HTD.out
      go_wp2
      go_roundw
      case rel=>exact ⟨k+1,by rw [←HQ2.out,HS.out],HL2.out⟩
      case measure=>simp [intOf];omega
    · have htm:=HTM.out
      have hsz:=HL.out.sz
      have hown:=HL.out.own
      go_wp2_with (at_builtin;refine wpList_append_own _ rfl _ _ 98 rfl (w.heap.size+1) 3 i0 (.int .i64 0) 1 8 Tryz.underlying98 hi hz0 hz1 hz2 rfl (by decide) _ _ _ rfl (hown.alloc _) ⟨wr.heap.size,0,none⟩ 1 1 [.int .i64 (r:Int)] rfl rfl ?_ ?_ ?_ ?_ ?_ ?_)
      · intro j u hj;exact one_cell j u hj (by first | (go_num;done) | (simp;rfl))
      · intro u hu;simp at hu;subst hu;rfl
      · unfold maxLen;omega
      · omega
      · simp;omega
      intro v' w1 hown' hgrow _
      have HL2:=Lib.hid (HL.out.next (d:=r) (by rw [HQ.out,HR.out]) (by rw [HQ.out];omega) hown' hgrow)
      clear hgrow hown' hown hne htm
      have htd:=HTD.out
      go_wp2
      go_roundw
      case rel=>exact ⟨k+1,by rw [←HQ2.out,HS.out],HL2.out⟩
      case measure=>simp [intOf];omega
  · obtain rfl:q=0:=by omega
    obtain ⟨A,c,rfl,ht⟩:=HL.out.done HQ.out
    have HT:=Lib.hid ht
    clear ht
    have hk:k≤1000000:=by
     have h1:=HT.out.ln
     have h2:nd N≤8:=nd_le (by omega)
     omega
    have hn0:decide (-(N:Int)<0)=true:=by simp;omega
    go_wp2_with fail
    refine (rwhole true A k c N _ (by omega) HT.out.cap HT.out.dg).mono ?_
    rintro e w2 ⟨rfl,hb2⟩
    rw [show enc (sgn true N)=.agg #[.bool bz,.string mz] from HBZ.out]
    obtain ⟨p0,p1,f0,f1⟩:=blk_cells ((hb2.block _ (by have:=HL.out.sz;omega)).trans HL.out.res)
    have HB:=Lib.hid (HL.out.bel.trans (hb2.mono HL.out.bel.size))
    clear hb2
    go_wp2
    exact bodyPost_ret (v:=.agg #[.bool bz,.string mz]) (by simp [results,Tryz.results106,go_sem,p0,p1]) rfl ⟨by rw [HBZ.out],below_set2 HB.out (Nat.le_refl _) _ _⟩
theorem rint_any (n:Int) (h1:-9223372036854775808≤n) (h2:n≤9223372036854775807) (w:World):Calls Tryz.prog 106 #[.int .i64 n] w (RetZ w n):=by
 rcases Int.lt_or_le n 0 with h | h
 · obtain ⟨N,hN⟩:∃ N:Nat,n=-(N:Int):=⟨n.natAbs,by omega⟩
   subst hN
   exact rint_neg N (by omega) (by omega) w
 · obtain ⟨N,hN⟩:∃ N:Nat,n=(N:Int):=⟨n.natAbs,by omega⟩
   subst hN
   exact rint_pos N (by omega) w
end Go.Proofs.YtdbhahiieokplaaGreatDoor


namespace Go.Proofs.YtdbhahiieokplaaGreatDoor
open Go.RowKit
attribute [local go_sem ↓] Go.wp_at_zero Go.wp_at_succ

theorem Rq.inj {q:Rat} {b c:Bool} {m n k l:ByteArray} (h:Rq q b m k) (h':Rq q c n l):b=c∧m=n∧k=l:=by
 have e:=h.num.symm.trans h'.num
 injection e with e
 have e2:b=c∧m=n:=by simpa using e
 exact ⟨e2.1,e2.2,by rw [h.den,h'.den]⟩

theorem sgn_self (x:Int):sgn (decide (x<0)) x.natAbs=x:=by
 unfold sgn
 by_cases h:x<0
 · rw [decide_eq_true h];simp;omega
 · rw [decide_eq_false h];simp;omega
theorem mk_divInt (x y:Int) (hy:y≠0):mkRat (sgn (decide (x<0) != decide (y<0)) x.natAbs) y.natAbs=Rat.divInt x y:=by
 by_cases h:y<0
 · obtain ⟨d,rfl⟩:∃ d:Nat,y=-(d:Int):=⟨y.natAbs,by omega⟩
   rw [decide_eq_true h,Bool.bne_true,sgn_not,sgn_self,Rat.divInt_neg',Rat.divInt_ofNat,Int.natAbs_neg,Int.natAbs_natCast]
 · obtain ⟨d,rfl⟩:∃ d:Nat,y=(d:Int):=⟨y.natAbs,by omega⟩
   rw [decide_eq_false h,Bool.bne_false,sgn_self,Rat.divInt_ofNat,Int.natAbs_natCast]

theorem i64_size {n:Int} (h1:-9223372036854775808≤n) (h2:n≤9223372036854775807):(mag n.natAbs).size≤8:=mag_size_le (by omega)

set_option maxHeartbeats 2000000 in
set_option maxRecDepth 100000 in
theorem fromInts_f {x y:Int} {b3:Bool} {m3 k3:ByteArray} (hq:Rq (Rat.divInt x y) b3 m3 k3) (h0:y≠0) (x1:-9223372036854775808≤x) (x2:x≤9223372036854775807) (y1:-9223372036854775808≤y) (y2:y≤9223372036854775807) (w:World) (hE:Env w) :
  Calls Tryz.prog 109 #[.int .i64 x,.int .i64 y] w (RetB w (.tuple #[.agg #[.bool b3,.string m3,.bool false,.string k3],.int .i64 0])):=by
 obtain ⟨bx,mx,hx⟩:=enc_form x
 obtain ⟨by',my,hy⟩:=enc_form y
 have sx:mx.size≤100000:=by rw [(enc_parts hx).2];have:=i64_size x1 x2;omega
 have sy:my.size≤100000:=by rw [(enc_parts hy).2];have:=i64_size y1 y2;omega
 have HM:=Lib.hid (fun V (hV:Env V)=>make_f hx hy hq h0 sx sy V hV)
 have HX:=Lib.hid hx
 have HY:=Lib.hid hy
 have KR:=Lib.hid (Bq.new w #[.bool false,.string ⟨#[]⟩,.bool false,.string ⟨#[]⟩] 25)
 have HB:=Lib.hid (below_new w (.cells #[.bool false,.string ⟨#[]⟩,.bool false,.string ⟨#[]⟩] 25))
 clear hx hy hq h0
 go_enter Tryz.func109,Tryz.ntmps109
 go_wp2_with fail
 refine (fromInt_any x x1 x2 _).mono ?_
 rintro e w1 ⟨rfl,hb1⟩
 rw [HX.out]
 have K1:=Lib.hid (KR.out.next hb1)
 have B1:=Lib.hid (below_step HB.out (Nat.le_refl _) hb1)
 clear hb1
 go_wp2_with fail
 refine (fromInt_any y y1 y2 _).mono ?_
 rintro e w2 ⟨rfl,hb2⟩
 rw [HY.out]
 have K2:=Lib.hid (K1.out.next hb2)
 have B2:=Lib.hid (below_step B1.out (Nat.le_refl _) hb2)
 clear hb2
 go_wp2_with fail
 refine (HM.out _ (hE.next B2.out)).mono ?_
 rintro e w3 ⟨rfl,hb3⟩
 have K3:=Lib.hid (K2.out.next hb3)
 have B3:=Lib.hid (below_step B2.out (Nat.le_refl _) hb3)
 obtain ⟨t0,t1,t2,t3⟩:=blk4 K3.out.k
 obtain ⟨f0,f1,f2,f3⟩:=fro4 K3.out.k
 clear hb3
 go_wp2
 exact bodyPost_ret (v:=.tuple #[.agg #[.bool b3,.string m3,.bool false,.string k3],.int .i64 0]) (by simp [results,Tryz.results109,go_sem,t0,t1,t2,t3]) rfl ⟨rfl,below_set4 B3.out (Nat.le_refl _) _ _ _ _⟩

set_option maxHeartbeats 2000000 in
set_option maxRecDepth 100000 in
theorem rOf_f {x y:Int} {b3:Bool} {m3 k3:ByteArray} (hq:Rq (Rat.divInt x y) b3 m3 k3) (h0:y≠0) (x1:-9223372036854775808≤x) (x2:x≤9223372036854775807) (y1:-9223372036854775808≤y) (y2:y≤9223372036854775807) (w:World) :
  Calls Tryz.prog 53 #[.int .i64 x,.int .i64 y] w (RetB w (.agg #[.bool b3,.string m3,.bool false,.string k3])):=by
 obtain ⟨bx,mx,hx⟩:=enc_form x
 obtain ⟨by',my,hy⟩:=enc_form y
 have sx:mx.size≤1000000:=by rw [(enc_parts hx).2];have:=i64_size x1 x2;omega
 have sy:my.size≤1000000:=by rw [(enc_parts hy).2];have:=i64_size y1 y2;omega
 have vx:bval mx=x.natAbs:=by rw [(enc_parts hx).2,bval_mag]
 have vy:bval my=y.natAbs:=by rw [(enc_parts hy).2,bval_mag]
 have hmk:=fun V=>rmake bx by' mx my sx sy (by rw [vy];omega) V
 rw [vx,vy,(enc_parts hx).1,(enc_parts hy).1,mk_divInt x y h0,←(enc_parts hx).1,←(enc_parts hy).1] at hmk
 have HM:=Lib.hid hmk
 have HX:=Lib.hid hx
 have HY:=Lib.hid hy
 have HQ:=Lib.hid hq
 have KR:=Lib.hid (Bq.new w #[.bool false,.string ⟨#[]⟩,.bool false,.string ⟨#[]⟩] 25)
 have HB:=Lib.hid (below_new w (.cells #[.bool false,.string ⟨#[]⟩,.bool false,.string ⟨#[]⟩] 25))
 clear hx hy hq h0 vx vy hmk
 go_enter Tryz.func53,Tryz.ntmps53
 go_wp2_with fail
 refine (rint_any x x1 x2 _).mono ?_
 rintro e w1 ⟨rfl,hb1⟩
 rw [HX.out]
 have K1:=Lib.hid (KR.out.next hb1)
 have B1:=Lib.hid (below_step HB.out (Nat.le_refl _) hb1)
 clear hb1
 go_wp2_with fail
 refine (rint_any y y1 y2 _).mono ?_
 rintro e w2 ⟨rfl,hb2⟩
 rw [HY.out]
 have K2:=Lib.hid (K1.out.next hb2)
 have B2:=Lib.hid (below_step B1.out (Nat.le_refl _) hb2)
 clear hb2
 go_wp2_with fail
 refine (HM.out _).mono ?_
 rintro e w3 ⟨b4,m4,k4,rfl,hq4,hb3⟩
 obtain ⟨rfl,rfl,rfl⟩:=HQ.out.inj hq4
 have K3:=Lib.hid (K2.out.next hb3)
 have B3:=Lib.hid (below_step B2.out (Nat.le_refl _) hb3)
 obtain ⟨t0,t1,t2,t3⟩:=blk4 K3.out.k
 obtain ⟨f0,f1,f2,f3⟩:=fro4 K3.out.k
 clear hb3 hq4
 go_wp2
 exact bodyPost_ret (v:=.agg #[.bool b3,.string m3,.bool false,.string k3]) (by simp [results,Tryz.results53,go_sem,t0,t1,t2,t3]) rfl ⟨rfl,below_set4 B3.out (Nat.le_refl _) _ _ _ _⟩
end Go.Proofs.YtdbhahiieokplaaGreatDoor


namespace Go.Proofs.YtdbhahiieokplaaGreatDoor
open Go.RowKit
attribute [local go_sem ↓] Go.wp_at_zero Go.wp_at_succ

section
variable {w w1 w2:World} {c1 c2 c3 c4:Array Value}
end

section
variable {w w1 w2:World} {g:Nat} {cs:Array Value}
end

theorem wpLate_two {P:Program} {ops:Array Oper} {Q:Exit→Act→World→Prop} {md:Region.Mode} {S:World→Prop} {Ls:List Nat} {i j:Nat} {o o':Oper} {fuel:Nat} {listed:Array Bool} {a:Act} {w:World} (hr:Region.ready md ops listed=[i,j]) (ho:ops[i]?=some o) (ho':ops[j]?=some o')
  (h:∀ K':Act→World→Prop,Shut (∀ a' w',(Ls.contains i=true∨(S w→S w'))→wpLate P md ops Q S Ls fuel (listed.setIfInBounds i true) a' w'→K' a' w')→if Region.wanted o (yielded ops a.tmps)=true then Oper.wp P o a w K' Q else K' (a.put o.dst undef) w)
  (h':∀ K':Act→World→Prop,Shut (∀ a' w',(Ls.contains j=true∨(S w→S w'))→wpLate P md ops Q S Ls fuel (listed.setIfInBounds j true) a' w'→K' a' w')→if Region.wanted o' (yielded ops a.tmps)=true then Oper.wp P o' a w K' Q else K' (a.put o'.dst undef) w) :
  wpLate P md ops Q S Ls (fuel+1) listed a w :=
 ⟨fun h0=>(by rw [h0] at hr;cases hr),fun k hk=>by
  rw [hr] at hk
  have hk':k=i∨k=j:=by simpa using hk
  rcases hk' with rfl | rfl
  · exact wpOp_step ho (fun K' hK=>h K' (fun a w hS hW=>hK a w ⟨hS,hW⟩))
  · exact wpOp_step ho' (fun K' hK=>h' K' (fun a w hS hW=>hK a w ⟨hS,hW⟩))⟩

end Go.Proofs.YtdbhahiieokplaaGreatDoor


namespace Go.Proofs.YtdbhahiieokplaaGreatDoor
open Go.RowKit
attribute [local go_sem ↓] Go.wp_at_zero Go.wp_at_succ

end Go.Proofs.YtdbhahiieokplaaGreatDoor


namespace Go.Proofs.YtdbhahiieokplaaGreatDoor
open Go.RowKit
attribute [local go_sem ↓] Go.wp_at_zero Go.wp_at_succ

end Go.Proofs.YtdbhahiieokplaaGreatDoor


namespace Go.Proofs.YtdbhahiieokplaaGreatDoor
open Go.RowKit
attribute [local go_sem ↓] Go.wp_at_zero Go.wp_at_succ

end Go.Proofs.YtdbhahiieokplaaGreatDoor


namespace Go.Proofs.YtdbhahiieokplaaGreatDoor
open Go.RowKit

end Go.Proofs.YtdbhahiieokplaaGreatDoor


namespace Go.Proofs.YtdbhahiieokplaaGreatDoor
open Go.RowKit
attribute [local go_sem ↓] Go.wp_at_zero Go.wp_at_succ

end Go.Proofs.YtdbhahiieokplaaGreatDoor
