import Derived.Test.YtpnokfgplnmjpaaGreatDoorGPk
import Derived.Test.YtpnokfgplnmjpaaGreatDoorGQF
import Derived.Test.YtpnokfgplnmjpaaGreatDoorGQT2
import Derived.Test.YtpnokfgplnmjpaaGreatDoorGIntT
import Derived.Test.YtpnokfgplnmjpaaGreatDoorGRefO
set_option linter.unusedSimpArgs false
set_option linter.unusedVariables false
set_option maxRecDepth 100000
set_option maxHeartbeats 8000000
open Go.Lib (hid)
open Go.Proofs.Tryz (prog)
namespace Go.Proofs.YtpnokfgplnmjpaaGreatDoor
open Go.RowKit
attribute [local go_sem ↓] Go.wp_at_zero Go.wp_at_succ
def RetTo (w:World) (V:Nat) (e:Ending) (w':World):Prop:=∃ A n c,e=.returned (.slice A n c)∧Tr w' A n c V∧Below w.heap.size w w'
theorem rcommon (A B:Option Addr) (n m c d X Y:Nat) (w:World) (hn:n≤1000000) (hm:m≤1000000) (hx:Tr w A n c X) (hy:Tr w B m d Y) :
  Calls prog 111 #[.slice A n c,.slice B m d] w (RetTo w (Nat.gcd X Y)):=by
 have HX:=hid hx;have HY:=hid hy;clear hx hy;go_enter Tryz.func111,Tryz.ntmps111;go_wp2
 go_loopg [0,1] Y (fun k av bv wr=>∃ (x y:Nat) (A':Option Addr) (n' c':Nat) (B':Option Addr) (m' d':Nat),y≤k∧n'≤1000000∧m'≤1000000∧av=.slice A' n' c'∧bv=.slice B' m' d'∧Hid (Tr wr A' n' c' x∧Tr wr B' m' d' y∧Nat.gcd x y=Nat.gcd X Y∧Below w.heap.size w wr))
 case atStart=>exact ⟨X,Y,A,n,c,B,m,d,Nat.le_refl _,hn,hm,rfl,rfl,HX.out,HY.out,rfl,Below.refl _ _⟩
 case round =>
  obtain ⟨x,y,A',n',c',B',m',d',hyk,hn',hm',rfl,rfl,HH⟩:=hrel;have hln:=HH.out.2.1.ln;by_cases hz:0<m'
  · have hy0 : 0 < y := by
     rcases Nat.eq_zero_or_pos y with h | h
     · rw [h,nd_zero] at hln;omega
     · exact h
    have HDV:=hid (rdivide A' B' n' m' c' d' x y wr hn' hm' HH.out.1 HH.out.2.1 hy0);have hmod:=Nat.mod_lt x hy0;have hmk:x%y<gk:=om;have hn2:nd (x%y)≤1000000:=by have:=nd_mono (Nat.le_of_lt hmod);omega
    have HN2:=hid hn2;have HG:=hid (show Nat.gcd y (x%y)=Nat.gcd X Y by rw [←HH.out.2.2.1,Nat.gcd_comm,←Nat.gcd_rec,Nat.gcd_comm]);clear hln hmod hn2;go_wp2_with fail
    refine HDV.out.mono ?_;rintro e w' ⟨A1,n1,c1,A2,n2,c2,rfl,ht1,ht2,hb⟩;have HT:=hid ht2;have HTY:=hid (HH.out.2.1.below hb);have HB:=hid (HH.out.2.2.2.trans (hb.mono HH.out.2.2.2.size));have hn2:n2≤1000000:=by have:=HN2.out;rw [←ht2.ln] at this;exact this
    clear ht1 ht2 hb;go_wp2
    go_roundg (x%y)
    case measure=>exact hmk
    case rel=>exact ⟨y,x%y,B',m',d',A2,n2,c2,Nat.le_refl _,hm',hn2,rfl,rfl,HTY.out,HT.out,HG.out,HB.out⟩
  · have hy0:y=0:=nd_zero_iff.1 om;have hg:=HH.out.2.2.1;rw [hy0,Nat.gcd_zero_right] at hg;have HG:=hid hg;clear hg hln hy0;go_wp2
    go_ret
    exact ⟨A',n',c',rfl,by rw [←HG.out];exact HH.out.1,HH.out.2.2.2⟩
theorem sgn_natAbs (neg:Bool) (X:Nat):(sgn neg X).natAbs=X:=by cases neg<;>simp [sgn]
theorem sgn_div (neg:Bool) {X g:Nat} (h:g ∣ X):sgn neg X / (g:Int)=sgn neg ((X / g:Nat)):=by
 cases neg
 · simp [sgn]
 · simp only [sgn,if_true];rw [Int.neg_ediv_of_dvd (Int.natCast_dvd_natCast.2 h),Int.natCast_ediv]
theorem Rq.of_mk {neg:Bool} {X Y:Nat} (hY:0<Y) {b:Bool} {m k:ByteArray} (h1:enc (sgn neg ((X / Nat.gcd X Y:Nat)))=.agg #[.bool b,.string m]) (h2:k=dm (Y / Nat.gcd X Y)):Rq (mkRat (sgn neg X) Y) b m k:=by
 obtain ⟨e1,e2⟩:=mkRat_parts (sgn neg X) (d:=Y) om;rw [sgn_natAbs] at e1 e2;refine ⟨?_,?_⟩
 · rw [e1,sgn_div neg (Nat.gcd_dvd_left X Y)];exact h1
 · rw [e2];exact h2
def RetR (w:World) (q:Rat) (e:Ending) (w':World):Prop:=∃ b m k,e=.returned (.agg #[.bool b,.string m,.bool false,.string k])∧Rq q b m k∧Below w.heap.size w w'
theorem enc_nat' (n:Nat):enc (n:Int)=.agg #[.bool false,.string (mag n)]:=by
 unfold enc;have h:decide ((n:Int)<0)=false:=by simp
 rw [h,Int.natAbs_natCast]
theorem enc_one_nil:enc (sgn false 0)=.agg #[.bool false,.string ⟨#[]⟩]:=enc_zero
theorem rcanonical (neg:Bool) (A B:Option Addr) (n m c d X Y:Nat) (w:World) (hn:n≤1000000) (hm:m≤1000000) (hx:Tr w A n c X) (hy:Tr w B m d Y) (hY:0<Y) :
  Calls prog 123 #[.agg #[.bool neg,.slice A n c,.slice B m d]] w (RetR w (mkRat (sgn neg X) Y)):=by
 have HX:=hid hx;have HY:=hid hy;obtain ⟨G,hG⟩:∃ G,Nat.gcd X Y=G:=⟨_,rfl⟩
 have hG0:0<G:=hG ▸ Nat.gcd_pos_of_pos_right X hY;have hGY:G≤Y:=hG ▸ Nat.gcd_le_right X hY;have hGn:nd G≤1000000:=by have:=nd_mono hGY;rw [←hy.ln] at this;omega
 have hE0:0<Y / G:=Nat.div_pos hGY hG0;obtain ⟨N',hN⟩:∃ N',X / G=N':=⟨_,rfl⟩
 obtain ⟨E',hE⟩:∃ E',Y / G=E':=⟨_,rfl⟩
 have hNn:nd N'≤1000000:=by have:=nd_div X G;rw [←hx.ln,hN] at this;omega
 have hEn:nd E'≤1000000:=by have:=nd_div Y G;rw [←hy.ln,hE] at this;omega
 rw [hE] at hE0;have HFIN:=hid (fun b m k (h1:enc (sgn neg (N':Nat))=.agg #[.bool b,.string m]) (h2:k=dm E')=>Rq.of_mk (neg:=neg) (X:=X) hY (b:=b) (m:=m) (k:=k) (by rw [hG,hN];exact h1) (by rw [hG,hE];exact h2));have HG:=hid hG;have HG0:=hid hG0;have HGN:=hid hGn;have HND:=hid (And.intro hN hE);have HNN:=hid (And.intro hNn hEn);have HE0:=hid hE0;obtain ⟨bn,mn,hbn⟩:=enc_form (sgn neg (N':Nat));have HBN:=hid hbn;have KK:=hid (Kb.start w #[.bool neg,.slice A n c,.slice B m d] #[.bool false,.string ⟨#[]⟩,.bool false,.string ⟨#[]⟩] 110 25);have HX1:=hid (KK.out.bel);clear hx hy hG hG0 hGY hGn hE0 hN hE hNn hEn hbn hY;go_enter Tryz.func123,Tryz.ntmps123;go_wp2_with fail
 refine (rcommon A B n m c d X Y _ hn hm (HX.out.below HX1.out) (HY.out.below HX1.out)).mono ?_;rw [HG.out];rintro e w1 ⟨A1,n1,c1,rfl,ht1,hb1⟩;have K1:=hid (KK.out.next hb1);have T1:=hid ht1;have hn1:n1≤1000000:=by rw [ht1.ln];exact HGN.out
 obtain ⟨p0,p1,p2,_,_,_⟩:=blk3 K1.out.k1;clear ht1 hb1 HX1;go_wp2_with fail
 refine (rdivide A A1 n n1 c c1 X G _ hn hn1 (HX.out.below K1.out.bel) T1.out HG0.out).mono ?_;rw [HND.out.1];rintro e w2 ⟨A2,n2,c2,A3,n3,c3,rfl,ht2,_,hb2⟩;have K2:=hid (K1.out.next hb2);have T2:=hid ht2;have T1':=hid (T1.out.below hb2);have hn2:n2≤1000000:=by rw [ht2.ln];exact HNN.out.1
 obtain ⟨q0,q1,q2,_,_,_⟩:=blk3 K2.out.k1;clear ht2 hb2 p0 p1 p2;go_wp2_with fail
 refine (rdivide B A1 m n1 d c1 Y G _ hm hn1 (HY.out.below K2.out.bel) T1'.out HG0.out).mono ?_;rw [HND.out.2];rintro e w3 ⟨A4,n4,c4,A5,n5,c5,rfl,ht4,_,hb4⟩;have K3:=hid (K2.out.next hb4);have T2':=hid (T2.out.below hb4);have T4:=hid ht4;have hn4:n4≤1000000:=by rw [ht4.ln];exact HNN.out.2
 obtain ⟨r0,r1,r2,_,_,_⟩:=blk3 K3.out.k1;have hl4:=ht4.ln;have hp4:0<n4:=by rw [hl4];exact nd_pos HE0.out
 obtain ⟨g,o,rfl,hg,hc⟩:=T4.out.dg.rd hp4;have hc0:=hc 0 hp4
 have hcase:(E'=1∧n4=1)∨(E'≠1∧n4≠1)∨(E'≠1∧n4=1∧D 256 E' 0≠1):=by
  by_cases h1:E'=1
  · exact .inl ⟨h1,by rw [hl4,h1,nd_one]⟩
  · by_cases h2:n4=1
    · refine .inr (.inr ⟨h1,h2,?_⟩);have h3:=T4.out.dg.lt;rw [h2] at h3;unfold D;rw [Nat.pow_zero,Nat.div_one];omega
    · exact .inr (.inl ⟨h1,h2⟩)
 rw [Nat.add_zero] at hc0;have HL4:=hid hl4;clear ht4 hb4 q0 q1 q2 hc hl4;rcases hcase with ⟨h1,h2⟩ | ⟨h1,h2⟩ | ⟨h1,h2,h3⟩
 · subst h1;subst h2;have hd1:D 256 1 0=1:=by decide
   rw [hd1] at hc0;clear hd1;go_wp2_with fail
   refine (rwhole neg A2 n2 c2 N' _ om T2'.out.cap T2'.out.dg).mono ?_;rintro e w5 ⟨rfl,hb5⟩;rw [HBN.out];go_wp2_with fail
   refine (rwhole false none 0 0 0 _ om (Nat.le_refl _) (tr_nil _).dg).mono ?_;rintro e w6 ⟨rfl,hb6⟩;rw [enc_one_nil];have K6:=hid ((K3.out.next hb5).next hb6);obtain ⟨s0,s1,s2,s3⟩:=blk4 K6.out.k2;obtain ⟨f0,f1,f2,f3⟩:=fro4 K6.out.k2;clear hb5 hb6 r0 r1 r2 hc0;go_wp2
   exact bodyPost_ret (v:=.agg #[.bool bn,.string mn,.bool false,.string ⟨#[]⟩]) (by simp [results,Tryz.results123,go_sem,s0,s1,s2,s3]) rfl ⟨bn,mn,_,rfl,HFIN.out bn mn _ HBN.out (by rw [dm_one]),below_set4 K6.out.bel om _ _ _ _⟩
 · have hne:((n4:Int)==1)=false:=by simp;omega
   have HE1:=hid h1;clear h1 h2;go_wp2_with fail
   refine (rwhole neg A2 n2 c2 N' _ om T2'.out.cap T2'.out.dg).mono ?_;rintro e w5 ⟨rfl,hb5⟩;rw [HBN.out];go_wp2_with fail
   refine (rwhole false (some ⟨g,o,none⟩) n4 c4 E' _ om T4.out.cap (T4.out.dg.below hb5)).mono ?_;exact k33
 · subst h2;have hne:((D 256 E' 0:Int)==1)=false:=by simp;omega
   have HE1:=hid h1;clear h1 h3;generalize D 256 E' 0=dg at *;go_wp2_with fail
   refine (rwhole neg A2 n2 c2 N' _ om T2'.out.cap T2'.out.dg).mono ?_;rintro e w5 ⟨rfl,hb5⟩;rw [HBN.out];go_wp2_with fail
   refine (rwhole false (some ⟨g,o,none⟩) 1 c4 E' _ om T4.out.cap (T4.out.dg.below hb5)).mono ?_;exact k33
theorem Rq.bval {q:Rat} {b:Bool} {m k:ByteArray} (h:Rq q b m k):bval m=q.num.natAbs:=by rw [h.mag.2,bval_mag]
theorem tr_one (w:World):Tr (w.alloc (.cells #[.int .i64 1] 3)) (some ⟨w.heap.size,0,none⟩) 1 1 1:=by
 refine ⟨⟨by decide,fun _=>⟨w.heap.size,0,rfl,by simp,fun j hj=>?_⟩⟩,nd_one.symm,Nat.le_refl _,fun h=>by cases h⟩;obtain rfl:j=0:=om;exact (cell_of_row _ _ _ _ 3 (0,0) (heap_one w _)).trans (by simp [D])
theorem Tr.set3 {W:World} {A:Option Addr} {n c V g:Nat} (h:Tr W A n c V) (hA:∀ a,A=some a→a.block≠g) (x y z:Value) :
  Tr (((W.setCell ⟨g,0,none⟩ x).setCell ⟨g,1,none⟩ y).setCell ⟨g,2,none⟩ z) A n c V :=
 ⟨((h.dg.apart hA _ _).apart hA _ _).apart hA _ _,h.ln,h.cap,h.nil⟩
theorem below_set3 {B:Nat} {a W:World} {g:Nat} (h:Below B a W) (hB:B≤g) (x y z:Value):Below B a (((W.setCell ⟨g,0,none⟩ x).setCell ⟨g,1,none⟩ y).setCell ⟨g,2,none⟩ z) :=
 ((h.setCell hB _).setCell hB _).setCell hB _
theorem rmake (b1 b2:Bool) (m1 m2:ByteArray) (h1:m1.size≤1000000) (h2:m2.size≤1000000) (hY:0<bval m2) (w:World) :
  Calls prog 103 #[.agg #[.bool b1,.string m1],.agg #[.bool b2,.string m2]] w (RetR w (mkRat (sgn (b1 != b2) (bval m1)) (bval m2))):=by
 have KK:=hid ((Kc.start w #[.bool b1,.string m1] #[.bool b2,.string m2] #[.bool false,.string ⟨#[]⟩,.bool false,.string ⟨#[]⟩] 23 23 25).drew);have HD1:=hid (fun V=>rdigits b1 m1 V om);have HD2:=hid (fun V=>rdigits b2 m2 V om);have HN1:=hid (nd_le (bval_lt m1));have HN2:=hid (nd_le (bval_lt m2));have HYP:=hid hY;clear hY;have hne1:¬(w.heap.size=w.heap.size+1+1):=om;have hne2:¬(w.heap.size+1+1=w.heap.size):=om;have hne3:¬(w.heap.size+1=w.heap.size+1+1):=om;have hne4:¬(w.heap.size+1+1=w.heap.size+1):=om;obtain ⟨p0,p1,_,_⟩:=blk_cells KK.out.k1;obtain ⟨p2,p3,_,_⟩:=blk_cells KK.out.k2;go_enter Tryz.func103,Tryz.ntmps103;go_wp2_with fail
 go_region_held3 (fun w'=>w'.cell? ⟨w.heap.size,0,none⟩=some (.bool b1)∧w'.cell? ⟨w.heap.size,1,none⟩=some (.string m1)∧w'.cell? ⟨w.heap.size+1,0,none⟩=some (.bool b2)∧w'.cell? ⟨w.heap.size+1,1,none⟩=some (.string m2))
  (first
   | exact ⟨s0,s1,s2,s3⟩
   | exact ⟨r0,r1,r2,r3⟩
   | exact ⟨q0,q1,q2,q3⟩
   | exact ⟨p0,p1,p2,p3⟩
   | go_keep)
  (first
   | (go_at_call 112;(with_reducible refine (HD1.out _).mono ?_);rintro e w1 ⟨A1,n1,c1,rfl,ht1,hb1,_⟩;have K1:=hid (KK.out.next hb1);have T1:=hid ht1;obtain ⟨q0,q1,_,_⟩:=blk_cells K1.out.k1;obtain ⟨q2,q3,_,_⟩:=blk_cells K1.out.k2)
   | (go_at_call 112;(with_reducible refine (HD2.out _).mono ?_);rintro e w2 ⟨A2,n2,c2,rfl,ht2,hb2,_⟩;have K2:=hid (K1.out.next hb2);have T2:=hid ht2;have T1':=hid (T1.out.below hb2);obtain ⟨r0,r1,_,_⟩:=blk_cells K2.out.k1;obtain ⟨r2,r3,_,_⟩:=blk_cells K2.out.k2)
   | (go_at_call 123;(with_reducible refine (rcanonical _ A1 A2 n1 n2 c1 c2 (bval m1) (bval m2) _ ?_ ?_ T1'.out T2.out HYP.out).mono ?_);(have h3:=T1'.out.ln;have h4:=HN1.out;omega);(have h3:=T2.out.ln;have h4:=HN2.out;omega);rintro e w3 ⟨b3,m3,k3,rfl,hq3,hb3⟩;have K3:=hid (K2.out.next hb3);have HQ:=hid hq3;obtain ⟨s0,s1,_,_⟩:=blk_cells K3.out.k1;obtain ⟨s2,s3,_,_⟩:=blk_cells K3.out.k2;obtain ⟨t0,t1,t2,t3⟩:=blk4 K3.out.k3;obtain ⟨f0,f1,f2,f3⟩:=fro4 K3.out.k3))
 clear hb1 hb2 hb3 hq3 ht1 ht2;go_wp2
 exact bodyPost_ret (v:=.agg #[.bool b3,.string m3,.bool false,.string k3]) (by simp [results,Tryz.results103,go_sem,t0,t1,t2,t3]) rfl ⟨b3,m3,k3,rfl,HQ.out,below_set4 K3.out.bel om _ _ _ _⟩
theorem div_256_pos {N k:Nat} (hN:N≤9223372036854775808) (h:0<N / 256^k):k<8:=by
 rcases Nat.lt_or_ge k 8 with h1 | h1
 · exact h1
 · have h2:256^8≤256^k:=Nat.pow_le_pow_right om h1;rw [Nat.div_eq_of_lt om] at h;omega
structure Li (w:World) (N k:Nat) (v:Value) (wr:World):Prop where
 top:0<k→N / 256^(k-1)≠0
 own:wr.ownsRow (w.heap.size+1) 3 1 v k (nums .i64 (D 256 N) k)
 res:wr.heap[w.heap.size]?=some (.cells #[.bool false,.string ⟨#[]⟩] 23 (0,0))
 sz:w.heap.size+1≤wr.heap.size
 bel:Below w.heap.size w wr
theorem Li.start (w:World) (N:Nat):Li w N 0 (.slice none 0 0) (w.alloc (.cells #[.bool false,.string ⟨#[]⟩] 23)) :=
 ⟨fun h=>absurd h om,World.ownsRow_nil _ _ _ _,heap_one _ _,by simp,(Below.refl _ _).alloc (Nat.le_refl _) _⟩
theorem Li.next {w wr w1:World} {N k d:Nat} {v v' o:Value} (h:Li w N k v wr) (hd:d=N / 256^k%256) (hp:N / 256^k≠0)
  (hown':w1.ownsRow (w.heap.size+1) 3 1 v' (k+1) (nums .i64 (D 256 N) k++[.int .i64 (d:Int)])) (hgrow:(wr.alloc (.cells #[o] 3)).grownBy w1 v.ownBlock):Li w N (k+1) v' w1:=by
 have hb1:Below (w.heap.size+1) wr w1:=((Below.refl _ _).alloc h.sz _).grown hgrow (by have:=h.sz;simp;omega) (fun g hg=>((h.own.lt) g hg).1);have hs:=hb1.size;have hs2:=h.sz;exact ⟨fun _=>by rw [Nat.add_sub_cancel];exact hp,own_next hown' hd,(hb1.block _ om).trans h.res,om,h.bel.trans (hb1.mono om)⟩
theorem Li.done {w wr:World} {N k:Nat} {v:Value} (h:Li w N k v wr) (hz:N / 256^k=0):∃ A c,v=.slice A k c∧Tr wr A k c N:=by
 obtain ⟨A,c,rfl,hc,hn,hr,_⟩:=own_form h.own;have hlt:N<256^k:=Nat.lt_of_div_eq_zero (Nat.pow_pos om) hz;refine ⟨A,c,rfl,⟨hlt,hr⟩,nd_of hlt fun h0=>?_,hc,hn⟩;have h1:=h.top h0;have h2:=div_256 N (k-1);rw [Nat.sub_add_cancel h0,hz] at h2;omega
theorem rint_pos (N:Nat) (hN:N≤9223372036854775807) (w:World):Calls prog 74 #[.int .i64 (N:Int)] w (RetZ w (N:Int)):=by
 obtain ⟨i0,hi,hz0,hz1,hz2⟩:=info_parts intTy_info;obtain ⟨bz,mz,hbz⟩:=enc_form (N:Int);have HBZ:=hid hbz;clear hbz;go_enter Tryz.func74,Tryz.ntmps74;go_wp2
 go_loopw [3,4] (fun v nv wr=>∃ k:Nat,nv=.int .i64 ((N / 256^k:Nat):Int)∧Hid (Li w N k v wr)) (fun _ nv _=>(intOf nv).toNat)
 case atStart=>exact ⟨0,by rw [Nat.pow_zero,Nat.div_one],Li.start w N⟩
 case round =>
  obtain ⟨k,rfl,HL⟩:=hrel;have hle:N / 256^k≤N:=Nat.div_le_self _ _;have hk8:=div_256_pos (N:=N) (k:=k) om;have hq2:N / 256^k / 256=N / 256^(k+1):=by rw [Nat.div_div_eq_div_mul,Nat.pow_succ]
  generalize hq:N / 256^k=q at *;have HQ:=hid hq;have HQ2:=hid hq2;clear hq hq2;by_cases hlt:0<q
  · have hk:=hk8 hlt;have hne:((q:Int) != 0)=true:=by simp;omega
    have hsz:=HL.out.sz;have hown:=HL.out.own;go_wp2_with (at_builtin;refine wpList_append_own _ rfl _ _ 102 rfl (w.heap.size+1) 3 i0 (.int .i64 0) 1 8 Tryz.underlying102 hi hz0 hz1 hz2 rfl dc _ _ _ rfl (hown.alloc _) ⟨wr.heap.size,0,none⟩ 1 1 [.int .i64 ((q%256:Nat):Int)] rfl rfl ?_ ?_ ?_ ?_ ?_ ?_)
    · exact k93
    · intro u hu;simp at hu;subst hu;rfl
    · unfold maxLen;omega
    · omega
    · simp;omega
    intro v' w1 hown' hgrow _;have HL2:=hid (HL.out.next (d:=q%256) (by rw [HQ.out]) (by rw [HQ.out];omega) hown' hgrow);clear hgrow hown' hown hne;go_wp2
    go_roundw
    case rel=>exact ⟨k+1,by rw [←HQ2.out];go_num,HL2.out⟩
    case measure=>simp [intOf];omega
  · obtain rfl:q=0:=om;obtain ⟨A,c,rfl,ht⟩:=HL.out.done HQ.out;have HT:=hid ht;clear ht
    have hk:k≤1000000:=by
     have h1:=HT.out.ln;have h2:nd N≤8:=nd_le om;omega
    have hn0:decide ((N:Int)<0)=false:=by simp
    go_wp2_with fail
    refine (rwhole false A k c N _ om HT.out.cap HT.out.dg).mono ?_;rintro e w2 ⟨rfl,hb2⟩;rw [show enc (sgn false N)=.agg #[.bool bz,.string mz] from HBZ.out];exact k48
theorem rint_neg (N:Nat) (h0:0<N) (hN:N≤9223372036854775808) (w:World):Calls prog 74 #[.int .i64 (-(N:Int))] w (RetZ w (-(N:Int))):=by
 obtain ⟨i0,hi,hz0,hz1,hz2⟩:=info_parts intTy_info;obtain ⟨bz,mz,hbz⟩:=enc_form (-(N:Int));have HBZ:=hid hbz;clear hbz;go_enter Tryz.func74,Tryz.ntmps74;go_wp2
 go_loopw [3,4] (fun v nv wr=>∃ k:Nat,nv=.int .i64 (-((N / 256^k:Nat):Int))∧Hid (Li w N k v wr)) (fun _ nv _=>(-(intOf nv)).toNat)
 case atStart=>exact ⟨0,by rw [Nat.pow_zero,Nat.div_one],Li.start w N⟩
 case round =>
  obtain ⟨k,rfl,HL⟩:=hrel;have hle:N / 256^k≤N:=Nat.div_le_self _ _;have hk8:=div_256_pos (N:=N) (k:=k) om;have hq2:N / 256^k / 256=N / 256^(k+1):=by rw [Nat.div_div_eq_div_mul,Nat.pow_succ]
  generalize hq:N / 256^k=q at *;have HQ:=hid hq;have HQ2:=hid hq2;clear hq hq2;by_cases hlt:0<q
  · have hk:=hk8 hlt;have hne:(-(q:Int) != 0)=true:=by simp;omega
    obtain ⟨r,hr⟩:∃ r,q%256=r:=⟨_,rfl⟩
    obtain ⟨s,hs⟩:∃ s,q / 256=s:=⟨_,rfl⟩
    have hr1:r<256:=om;have hs1:s≤q:=om;have hsq:s<q:=om;have HR:=hid hr;have HS:=hid hs;have HTM:=hid (show (-(q:Int)).tmod 256=-(r:Int) by rw [Int.neg_tmod,Int.tmod_eq_emod_of_nonneg om];omega);have HTD:=hid (show (-(q:Int)).tdiv 256=-(s:Int) by rw [Int.neg_tdiv,Int.tdiv_eq_ediv_of_nonneg om];omega);clear hr hs;rcases Nat.eq_zero_or_pos r with hr0 | hr0
    · subst hr0;have htm:(-(q:Int)).tmod 256=0:=by rw [HTM.out];rfl
      have hsz:=HL.out.sz;have hown:=HL.out.own;go_wp2_with (at_builtin;refine wpList_append_own _ rfl _ _ 102 rfl (w.heap.size+1) 3 i0 (.int .i64 0) 1 8 Tryz.underlying102 hi hz0 hz1 hz2 rfl dc _ _ _ rfl (hown.alloc _) ⟨wr.heap.size,0,none⟩ 1 1 [.int .i64 ((0:Nat):Int)] rfl rfl ?_ ?_ ?_ ?_ ?_ ?_)
      · exact k93
      · intro u hu;simp at hu;subst hu;rfl
      · unfold maxLen;omega
      · omega
      · simp;omega
      intro v' w1 hown' hgrow _;have HL2:=hid (HL.out.next (d:=0) (by rw [HQ.out,HR.out]) (by rw [HQ.out];omega) hown' hgrow);exact k81
    · have htm:=HTM.out;have hsz:=HL.out.sz;have hown:=HL.out.own;go_wp2_with (at_builtin;refine wpList_append_own _ rfl _ _ 102 rfl (w.heap.size+1) 3 i0 (.int .i64 0) 1 8 Tryz.underlying102 hi hz0 hz1 hz2 rfl dc _ _ _ rfl (hown.alloc _) ⟨wr.heap.size,0,none⟩ 1 1 [.int .i64 (r:Int)] rfl rfl ?_ ?_ ?_ ?_ ?_ ?_)
      · exact k93
      · intro u hu;simp at hu;subst hu;rfl
      · unfold maxLen;omega
      · omega
      · simp;omega
      intro v' w1 hown' hgrow _;have HL2:=hid (HL.out.next (d:=r) (by rw [HQ.out,HR.out]) (by rw [HQ.out];omega) hown' hgrow);exact k81
  · obtain rfl:q=0:=om;obtain ⟨A,c,rfl,ht⟩:=HL.out.done HQ.out;have HT:=hid ht;clear ht
    have hk:k≤1000000:=by
     have h1:=HT.out.ln;have h2:nd N≤8:=nd_le om;omega
    have hn0:decide (-(N:Int)<0)=true:=by simp;omega
    go_wp2_with fail
    refine (rwhole true A k c N _ om HT.out.cap HT.out.dg).mono ?_;rintro e w2 ⟨rfl,hb2⟩;rw [show enc (sgn true N)=.agg #[.bool bz,.string mz] from HBZ.out];exact k48
theorem rint_any (n:Int) (h1:-9223372036854775808≤n) (h2:n≤9223372036854775807) (w:World):Calls prog 74 #[.int .i64 n] w (RetZ w n):=by
 rcases Int.lt_or_le n 0 with h | h
 · obtain ⟨N,hN⟩:∃ N:Nat,n=-(N:Int):=⟨n.natAbs,om⟩
   subst hN;exact rint_neg N om om w
 · obtain ⟨N,hN⟩:∃ N:Nat,n=(N:Int):=⟨n.natAbs,om⟩
   subst hN;exact rint_pos N om w
theorem Rq.inj {q:Rat} {b c:Bool} {m n k l:ByteArray} (h:Rq q b m k) (h':Rq q c n l):b=c∧m=n∧k=l:=by
 have e:=h.num.symm.trans h'.num
 injection e with e
 have e2:b=c∧m=n:=by simpa using e
 exact ⟨e2.1,e2.2,by rw [h.den,h'.den]⟩
theorem sgn_self (x:Int):sgn (decide (x<0)) x.natAbs=x:=by
 unfold sgn;by_cases h:x<0
 · rw [decide_eq_true h];simp;omega
 · rw [decide_eq_false h];simp;omega
theorem mk_divInt (x y:Int) (hy:y≠0):mkRat (sgn (decide (x<0) != decide (y<0)) x.natAbs) y.natAbs=Rat.divInt x y:=by
 by_cases h:y<0
 · obtain ⟨d,rfl⟩:∃ d:Nat,y=-(d:Int):=⟨y.natAbs,om⟩
   rw [decide_eq_true h,Bool.bne_true,sgn_not,sgn_self,Rat.divInt_neg',Rat.divInt_ofNat,Int.natAbs_neg,Int.natAbs_natCast]
 · obtain ⟨d,rfl⟩:∃ d:Nat,y=(d:Int):=⟨y.natAbs,om⟩
   rw [decide_eq_false h,Bool.bne_false,sgn_self,Rat.divInt_ofNat,Int.natAbs_natCast]
theorem i64_size {n:Int} (h1:-9223372036854775808≤n) (h2:n≤9223372036854775807):(mag n.natAbs).size≤8:=mag_size_le om
theorem rOf_f {x y:Int} {b3:Bool} {m3 k3:ByteArray} (hq:Rq (Rat.divInt x y) b3 m3 k3) (h0:y≠0) (x1:-9223372036854775808≤x) (x2:x≤9223372036854775807) (y1:-9223372036854775808≤y) (y2:y≤9223372036854775807) (w:World) :
  Calls prog 59 #[.int .i64 x,.int .i64 y] w (RetB w (.agg #[.bool b3,.string m3,.bool false,.string k3])):=by
 obtain ⟨bx,mx,hx⟩:=enc_form x;obtain ⟨by',my,hy⟩:=enc_form y;have sx:mx.size≤1000000:=by rw [(enc_parts hx).2];have:=i64_size x1 x2;omega
 have sy:my.size≤1000000:=by rw [(enc_parts hy).2];have:=i64_size y1 y2;omega
 have vx:bval mx=x.natAbs:=by rw [(enc_parts hx).2,bval_mag]
 have vy:bval my=y.natAbs:=by rw [(enc_parts hy).2,bval_mag]
 have hmk:=fun V=>rmake bx by' mx my sx sy (by rw [vy];omega) V
 rw [vx,vy,(enc_parts hx).1,(enc_parts hy).1,mk_divInt x y h0,←(enc_parts hx).1,←(enc_parts hy).1] at hmk;have HM:=hid hmk;have HX:=hid hx;have HY:=hid hy;have HQ:=hid hq;have KR:=hid (Bq.new w #[.bool false,.string ⟨#[]⟩,.bool false,.string ⟨#[]⟩] 25);have HB:=hid (below_new w (.cells #[.bool false,.string ⟨#[]⟩,.bool false,.string ⟨#[]⟩] 25));clear hx hy hq h0 vx vy hmk;go_enter Tryz.func59,Tryz.ntmps59;go_wp2_with fail
 refine (rint_any x x1 x2 _).mono ?_;rintro e w1 ⟨rfl,hb1⟩;rw [HX.out];have K1:=hid (KR.out.next hb1);have B1:=hid (below_step HB.out (Nat.le_refl _) hb1);clear hb1;go_wp2_with fail
 refine (rint_any y y1 y2 _).mono ?_;rintro e w2 ⟨rfl,hb2⟩;rw [HY.out];have K2:=hid (K1.out.next hb2);have B2:=hid (below_step B1.out (Nat.le_refl _) hb2);clear hb2;go_wp2_with fail
 refine (HM.out _).mono ?_;rintro e w3 ⟨b4,m4,k4,rfl,hq4,hb3⟩;obtain ⟨rfl,rfl,rfl⟩:=HQ.out.inj hq4;have K3:=hid (K2.out.next hb3);have B3:=hid (below_step B2.out (Nat.le_refl _) hb3);obtain ⟨t0,t1,t2,t3⟩:=blk4 K3.out.k;obtain ⟨f0,f1,f2,f3⟩:=fro4 K3.out.k;clear hb3 hq4;go_wp2
 exact bodyPost_ret (v:=.agg #[.bool b3,.string m3,.bool false,.string k3]) (by simp [results,Tryz.results59,go_sem,t0,t1,t2,t3]) rfl ⟨rfl,below_set4 B3.out (Nat.le_refl _) _ _ _ _⟩
theorem simplest_step3 (F:Nat) (HI:Hid (Ih F)) (a b:Nat) (oa:Bool) (c d:Nat) (oc:Bool) (p q:Nat) (w:World) (hF:simpFuel a b c d<F+1) (hb:0<b) (hin:Inn a b oa c d oc p q) (sa:(mag a).size≤5000) (sb:(mag b).size≤5000) (sc:(mag c).size≤5000) (sd:(mag d).size≤5000) (sp:(mag p).size≤5000) (sq:(mag q).size≤5000) (hE:Env w) (hcase:oa=false∧Int.sign ((a%b:Nat):Int)=0∧leastOf a b oa=a / b) :
  Calls prog 159 #[.agg #[.bool false,.string (mag a),.bool false,.string (mag b),.bool oa],.agg #[.bool false,.string (mag c),.bool false,.string (mag d),.bool oc]] w (RetSm w a b oa c d oc):=by
 have HB:=hid hb;have HIN:=hid hin;have HFU:=hid hF;have HE:=hid (fun V (h:Below w.heap.size w V)=>hE.next h);have HSZ:=hid (And.intro sa (And.intro sb (And.intro sc (And.intro sd (And.intro sp sq)))));have HDM:=hid (fun V=>divMod_f (q:=((a / b:Nat):Int)) (r:=((a%b:Nat):Int)) (enc_mag a) (enc_mag b) om om om (enc_mag _) (enc_mag _) (by rw [Int.natCast_ediv]) (by rw [Int.natCast_emod]) V);have HSG:=hid (fun V=>Sign_f (enc_mag (a%b)) V);have sf:(mag (a / b)).size≤5000:=Nat.le_trans (nd_div a b) sa;have sr:(mag (a%b)).size≤5000:=Nat.le_trans (nd_mono (Nat.mod_le a b)) sa;have hln:=least_num hb hin.1 hin.2.1;have sL:(mag (leastOf a b oa)).size≤5000:=Nat.le_trans (nd_mono hln) sp;have HAD:=hid (fun V=>add_f (z:=((a / b+1:Nat):Int)) (enc_mag (a / b)) (show enc (1:Int)=.agg #[.bool false,.string ⟨#[1]⟩] from by rw [←mag_one];exact enc_mag 1) om dc (enc_mag _) (by rw [Int.natCast_add];rfl) V);have KK:=hid (Kd.start w #[.bool false,.string (mag a),.bool false,.string (mag b),.bool oa] #[.bool false,.string (mag c),.bool false,.string (mag d),.bool oc] #[.bool false,.string ⟨#[]⟩] #[.bool false,.string ⟨#[]⟩]);clear hb hin hF hE sa sb sc sd sp sq hln;obtain ⟨L,hLL⟩:∃ L,leastOf a b oa=L:=⟨_,rfl⟩
 rw [hLL] at sL;rw [hLL] at hcase;have HLL:=hid hLL
 obtain ⟨r,hr⟩:∃ r:Bool,r=true↔Blw c d oc L 1:=by
  exact k80
 have HAB:=hid (fun V=>isAbove_all c d L oc r hr (Nat.le_trans HSZ.out.2.2.1 om) (Nat.le_trans HSZ.out.2.2.2.1 om) (Nat.le_trans sL om) V);have HR:=hid hr;clear hLL hr;obtain ⟨rfl,hs,hL⟩:=hcase;rw [hs] at HSG;have HL:=hid hL;have HAB2:=HAB;rw [hL] at HAB2;clear hL hs;go_enter Tryz.func159,Tryz.ntmps159;go_wp2_with fail
 refine (HDM.out _).mono ?_;rintro e w1 ⟨rfl,hb1⟩;have K1:=hid (KK.out.next hb1);have hs1:=K1.out.sz;have K2:=hid (fun o1 o2 o3=>K1.out.next (below_three w1 o1 o2 o3));have p4:=fun o1 o2 o3=>(blk5 (K2.out o1 o2 o3).k1).2.2.2.2
 have g0:=fun o1 o2 o3=>(HE.out _ (K2.out o1 o2 o3).bel).o0
 have g1:=fun o1 o2 o3=>(HE.out _ (K2.out o1 o2 o3).bel).o1
 have hh:=fun o1 o2 o3=>blk5 (K2.out o1 o2 o3).k2
 have h0:=fun o1 o2 o3=>(hh o1 o2 o3).1
 have h1:=fun o1 o2 o3=>(hh o1 o2 o3).2.1
 have h2:=fun o1 o2 o3=>(hh o1 o2 o3).2.2.1
 have h3:=fun o1 o2 o3=>(hh o1 o2 o3).2.2.2.1
 have h4:=fun o1 o2 o3=>(hh o1 o2 o3).2.2.2.2
 clear hb1 hh;go_wp2_with fail
 obtain ⟨w3,hw3⟩:∃ W,W=((w1.alloc (.cells #[.bool false,.string (mag (a / b))] 23)).alloc (.cells #[.bool false,.string (mag (a%b))] 23)).alloc (.cells #[.bool false,.string (mag (a / b))] 23):=⟨_,rfl⟩
 have K3:=hid (K2.out (.cells #[.bool false,.string (mag (a / b))] 23) (.cells #[.bool false,.string (mag (a%b))] 23) (.cells #[.bool false,.string (mag (a / b))] 23));have B6:=hid (Bs.first w w1 #[.bool false,.string (mag (a / b))] #[.bool false,.string (mag (a%b))] #[.bool false,.string (mag (a / b))] hs1);have B7:=hid (Bs.second w w1 #[.bool false,.string (mag (a / b))] #[.bool false,.string (mag (a%b))] #[.bool false,.string (mag (a / b))] hs1);have B9:=hid (Bs.third w w1 #[.bool false,.string (mag (a / b))] #[.bool false,.string (mag (a%b))] #[.bool false,.string (mag (a / b))] hs1);rw [←hw3] at K3 B6 B7 B9;rw [←hw3];clear hw3 K2 p4 g0 g1 h0 h1 h2 h3 h4;refine (HSG.out _).mono ?_;rintro e w4 ⟨rfl,hb4⟩;have K3:=hid (K3.out.next hb4);have B6:=hid (B6.out.next hb4);have B7:=hid (B7.out.next hb4);have B9:=hid (B9.out.next hb4);clear hb4;have hh:=blk5 K3.out.k2;obtain ⟨h0,h1,h2,h3,h4⟩:=hh;obtain ⟨n0,n1,n2,n3⟩:=blk_cells B9.out.k;have g0:=(HE.out _ K3.out.bel).o0;have g1:=(HE.out _ K3.out.bel).o1;obtain ⟨m0,m1,_,_⟩:=blk_cells B6.out.k;go_wp2_with fail
 clear h0 h1 h2 h3 h4 n0 n1 n2 n3 g0 g1 m0 m1;obtain ⟨V,hV⟩:∃ W,W=w4:=⟨_,rfl⟩
 have KV:=hid K3.out;have V6:=hid B6.out;have V7:=hid B7.out;have V9:=hid (show Bs w (w1.heap.size+1+1) #[.bool false,.string (mag L)] w4 by rw [HL.out];exact B9.out);rw [←hV] at KV V6 V7 V9;rw [←hV];clear hV K3 B6 B7 B9;refine (HAB2.out _).mono ?_;rintro e w6 ⟨rfl,hb6⟩;have KV:=hid (KV.out.next hb6);have V6:=hid (V6.out.next hb6);have V7:=hid (V7.out.next hb6);have V9:=hid (V9.out.next hb6);clear hb6;cases r
 · have hn:¬Blw c d oc L 1:=fun h=>by have:=HR.out.2 h;cases this
   rw [←HLL.out] at hn;obtain ⟨_,hcd,hin2,_⟩:=inn_turn HB.out HIN.out hn;have hless:=simp_less HB.out HIN.out hn;have HTURN:=hid (fun n m h=>simp_turn (n:=n) (m:=m) HB.out HIN.out hn h);obtain ⟨U,hU⟩:∃ U,c-a / b*d=U:=⟨_,rfl⟩
   rw [hU] at hin2 hless HTURN;have hU0:0<U:=om;have sU:(mag U).size≤5000:=Nat.le_trans (nd_mono om) HSZ.out.2.2.1;have sM:(mag (a / b*d)).size≤10000:=Nat.le_trans (nd_mul _ _) (by have:=HSZ.out.2.2.2.1;unfold nd;omega);have HMU:=hid (fun V=>mul_f (z:=((a / b*d:Nat):Int)) (enc_mag (a / b)) (enc_mag d) om (by have:=HSZ.out.2.2.2.1;omega) (enc_mag _) (by rw [Int.natCast_mul]) V);have HSU:=hid (fun V=>sub_f (z:=(U:Int)) (enc_mag c) (enc_mag (a / b*d)) (by have:=HSZ.out.2.2.1;omega) om (enc_mag _) (by rw [←hU];omega) V);have HIH:=hid (fun V (hV:Env V)=>HI.out d U oc b (a%b) false q (p-a / b*q) V (by have:=HFU.out;omega) hU0 hin2 HSZ.out.2.2.2.1 sU HSZ.out.2.1 sr HSZ.out.2.2.2.2.2 (Nat.le_trans (nd_mono (Nat.sub_le _ _)) HSZ.out.2.2.2.2.1) hV);have HIN2:=hid hin2;generalize mag (a / b*d)=md' at *;obtain ⟨h0,h1,h2,h3,h4⟩:=blk5 KV.out.k2;obtain ⟨m0,m1,_,_⟩:=blk_cells V6.out.k;have M6:w1.heap.size<w6.heap.size:=V6.out.lt;have M7:w1.heap.size+1<w6.heap.size:=V7.out.lt;obtain ⟨i0,i1,i2,i3,i4⟩:=blk5 (KV.out.next (below_new w6 (.cells #[.bool false,.string ⟨#[]⟩] 23))).k2;obtain ⟨j0,j1,_,_⟩:=blk_cells (V6.out.next (below_new w6 (.cells #[.bool false,.string ⟨#[]⟩] 23))).k;clear hn hcd hin2 hless hU hU0 V9;go_upto_region 7 with fail
   go_cut [10] (fun s10 wx=>∃ g10,s10=.pointer (some ⟨g10,0,none⟩)∧R7 w #[.bool false,.string (mag a),.bool false,.string (mag b),.bool false] #[.bool false,.string (mag c),.bool false,.string (mag d),.bool oc] #[.bool false,.string (mag (a / b))] #[.bool false,.string (mag (a%b))] #[.bool false,.string (mag U)] w1.heap.size (w1.heap.size+1) g10 wx)
   case first =>
    exact k7
   case rest =>
    exact k0
 · have HSI:=hid (show Simp a b false c d oc L 1 by rw [←HLL.out];exact simp_int HB.out (by rw [HLL.out];exact HR.out.1 rfl));exact k16
end Go.Proofs.YtpnokfgplnmjpaaGreatDoor
namespace Go.Proofs.YtpnokfgplnmjpaaGreatDoor
open Go.RowKit
theorem simplest_step (F:Nat) (HI:Hid (Ih F)) (a b:Nat) (oa:Bool) (c d:Nat) (oc:Bool) (p q:Nat) (w:World) (hF:simpFuel a b c d<F+1) (hb:0<b) (hin:Inn a b oa c d oc p q) (sa:(mag a).size≤5000) (sb:(mag b).size≤5000) (sc:(mag c).size≤5000) (sd:(mag d).size≤5000) (sp:(mag p).size≤5000) (sq:(mag q).size≤5000) (hE:Env w) :
  Calls prog 159 #[.agg #[.bool false,.string (mag a),.bool false,.string (mag b),.bool oa],.agg #[.bool false,.string (mag c),.bool false,.string (mag d),.bool oc]] w (RetSm w a b oa c d oc):=by
 have hcase:(oa=true∧leastOf a b oa=a / b+1)∨(oa=false∧Int.sign ((a%b:Nat):Int)=1∧leastOf a b oa=a / b+1)∨(oa=false∧Int.sign ((a%b:Nat):Int)=0∧leastOf a b oa=a / b):=by
  unfold leastOf;cases oa
  · rcases Nat.eq_zero_or_pos (a%b) with h | h
    · exact .inr (.inr ⟨rfl,by rw [h];rfl,by rw [if_neg (by simp [h])]⟩)
    · exact .inr (.inl ⟨rfl,Int.sign_eq_one_of_pos om,by rw [if_pos (.inr h)]⟩)
  · exact .inl ⟨rfl,by rw [if_pos (.inl rfl)]⟩
 rcases hcase with h | h | h
 · exact simplest_step1 F HI a b oa c d oc p q w hF hb hin sa sb sc sd sp sq hE h
 · exact simplest_step2 F HI a b oa c d oc p q w hF hb hin sa sb sc sd sp sq hE h
 · exact simplest_step3 F HI a b oa c d oc p q w hF hb hin sa sb sc sd sp sq hE h
theorem simplest_ih (F:Nat):Ih F:=by
 induction F with
 | zero=>exact fun _ _ _ _ _ _ _ _ _ h=>absurd h om
 | succ F ih=>exact fun a b oa c d oc p q w hF hb hin sa sb sc sd sp sq hE=>simplest_step F (hid ih) a b oa c d oc p q w hF hb hin sa sb sc sd sp sq hE
end Go.Proofs.YtpnokfgplnmjpaaGreatDoor
namespace Go.Proofs.YtpnokfgplnmjpaaGreatDoor
open Go.RowKit
attribute [local go_sem ↓] Go.wp_at_zero Go.wp_at_succ
def cmpQ (a b:Rat):Int:=cmpZ (a.num*(b.den:Int)) (b.num*(a.den:Int))
theorem cmpZ_scale {x y d:Int} (hd:0<d):cmpZ (x*d) (y*d)=cmpZ x y:=by
 rcases Int.lt_trichotomy x y with h | h | h
 · rw [cmpZ_lt h,cmpZ_lt (Int.mul_lt_mul_of_pos_right h hd)]
 · rw [cmpZ_eq0 h,cmpZ_eq0 (by rw [h])]
 · rw [cmpZ_gt h,cmpZ_gt (Int.mul_lt_mul_of_pos_right h hd)]
theorem cmpQ_den {p q:Rat} (h:p.den=q.den):cmpQ p q=cmpZ p.num q.num:=by
 unfold cmpQ;rw [h,cmpZ_scale (by have:=q.den_pos;omega)]
theorem sgn3 (x:Int) {d:Int} (hd:0<d):(x<0∧x.sign=-1∧x*d<0)∨(x=0∧x.sign=0∧x*d=0)∨(0<x∧x.sign=1∧0<x*d):=by
 rcases Int.lt_trichotomy x 0 with h | h | h
 · exact .inl ⟨h,Int.sign_eq_neg_one_of_neg h,Int.mul_neg_of_neg_of_pos h hd⟩
 · exact .inr (.inl ⟨h,by rw [h];rfl,by rw [h,Int.zero_mul]⟩)
 · exact .inr (.inr ⟨h,Int.sign_eq_one_of_pos h,Int.mul_pos h hd⟩)
theorem cmpQ_sign {p q:Rat} (h:p.num.sign≠q.num.sign):cmpQ p q=Lib.compareInt p.num.sign q.num.sign:=by
 unfold cmpQ;have h1:=sgn3 p.num (d:=(q.den:Int)) (by have:=q.den_pos;omega);have h2:=sgn3 q.num (d:=(p.den:Int)) (by have:=p.den_pos;omega);generalize p.num*(q.den:Int)=X at *;generalize q.num*(p.den:Int)=Y at *;have h3:(p.num.sign<q.num.sign∧X<Y)∨(q.num.sign<p.num.sign∧Y<X):=om;rcases h3 with ⟨h4,h5⟩ | ⟨h4,h5⟩
 · rw [cmpZ_lt h5,compareInt_lt h4]
 · rw [cmpZ_gt h5,compareInt_gt h4]
theorem dm_inj {d e:Nat} (h:dm d=dm e) (hd:d≠0) (he:e≠0):d=e:=by
 unfold dm at h;by_cases h1:d=1<;>by_cases h2:e=1
 · omega
 · rw [if_pos h1,if_neg h2] at h;have:=mag_inj h;omega
 · rw [if_neg h1,if_pos h2] at h;have:=mag_inj h;omega
 · rw [if_neg h1,if_neg h2] at h;exact mag_inj h
theorem Rq.eq_of {p q:Rat} {b:Bool} {m k:ByteArray} (hp:Rq p b m k) (hq:Rq q b m k):p=q:=by
 obtain ⟨e1,e2⟩:=enc_parts hp.num;obtain ⟨e3,e4⟩:=enc_parts hq.num;have h1:p.num.natAbs=q.num.natAbs:=mag_inj (e2.symm.trans e4);have h2:decide (p.num<0)=decide (q.num<0):=e1.symm.trans e3;have h3:(p.num<0)↔(q.num<0):=by simpa using h2
 refine Rat.ext om ?_;exact dm_inj (hp.den.symm.trans hq.den) p.den_nz q.den_nz
theorem ratCompare_f {p q:Rat} {b1 b2:Bool} {m1 m2 k1 k2:ByteArray} (hp:Rq p b1 m1 k1) (hq:Rq q b2 m2 k2) (s1:m1.size≤10000) (s2:m2.size≤10000) (s3:(mag p.den).size≤10000) (s4:(mag q.den).size≤10000) (w:World) (hE:Env w) :
  Calls prog 86 #[.agg #[.bool b1,.string m1,.bool false,.string k1],.agg #[.bool b2,.string m2,.bool false,.string k2]] w (RetB w (.int .i64 (cmpQ p q))):=by
 have HS1:=hid (fun V=>ratSign_f hp V);have HS2:=hid (fun V=>ratSign_f hq V);have HE:=hid (fun V (h:Below w.heap.size w V)=>hE.next h);have KK:=hid (Kb.start w #[.bool b1,.string m1,.bool false,.string k1] #[.bool b2,.string m2,.bool false,.string k2] 25 25).drew;have hc:p.num.sign≠q.num.sign→cmpQ p q=Lib.compareInt p.num.sign q.num.sign:=cmpQ_sign;have HCS:=hid hc
 have hsb:p.num.sign=q.num.sign→b1=b2:=fun h=>by
  rw [hp.mag.1,hq.mag.1];have h1:=sgn3 p.num (d:=1) om;have h2:=sgn3 q.num (d:=1) om;have h3:(p.num<0)↔(q.num<0):=om;simp [h3]
 have hsm:b1=b2→m1=m2→p.num.sign=q.num.sign:=fun h1 h2=>by
  have h3:enc p.num=enc q.num:=by rw [hp.num,hq.num,h1,h2]
  have h4:p.num=q.num:=by
   have e:=hp.num;rw [h1,h2,←hq.num] at e;have e1:=(enc_parts hp.num);have e2:=(enc_parts hq.num);have h5:p.num.natAbs=q.num.natAbs:=mag_inj (e1.2.symm.trans (h2.trans e2.2));have h6:decide (p.num<0)=decide (q.num<0):=e1.1.symm.trans (h1.trans e2.1);have h7:(p.num<0)↔(q.num<0):=by simpa using h6
   omega
  rw [h4]
 have heq:b1=b2→m1=m2→k1=k2→p=q:=fun h1 h2 h3=>by subst h1;subst h2;subst h3;exact hp.eq_of hq
 have hkd:k1=k2→cmpQ p q=cmpZ p.num q.num:=fun h=>cmpQ_den (dm_inj (hp.den.symm.trans (h.trans hq.den)) p.den_nz q.den_nz)
 have HN:=hid (fun V=>Compare_f hp.num hq.num V);obtain ⟨bx,mx,hx⟩:=enc_form (p.num*(q.den:Int));obtain ⟨by',my,hy⟩:=enc_form (q.num*(p.den:Int));have HD1:=hid (fun V (hV:Env V)=>den_f hq V hV);have HD2:=hid (fun V (hV:Env V)=>den_f hp V hV);have HT1:=hid (fun V (hV:Env V)=>ratTimes_f hp.num (enc_mag q.den) hx rfl om om V hV);have HT2:=hid (fun V (hV:Env V)=>ratTimes_f hq.num (enc_mag p.den) hy rfl om om V hV);have HCC:=hid (fun V=>Compare_f hx hy V);have HZ:=hid (show cmpZ (p.num*(q.den:Int)) (q.num*(p.den:Int))=cmpQ p q from rfl);have h0:p=q→cmpQ p q=0:=fun h=>by subst h;unfold cmpQ;exact cmpZ_eq0 rfl
 generalize cmpZ (p.num*(q.den:Int)) (q.num*(p.den:Int))=zz at *;generalize cmpZ p.num q.num=zn at *;generalize cmpQ p q=z at *;generalize hsp:p.num.sign=sp at *;generalize hsq:q.num.sign=sq at *;generalize mag p.den=dp at *;generalize mag q.den=dq at *;have hdec:b1=b2→m1=m2→k1=k2→z=0:=fun h1 h2 h3=>h0 (heq h1 h2 h3)
 clear heq h0 hp hq hx hy hE hc hsp hsq s1 s2 s3 s4;by_cases hs:sp=sq
 · have hb:=hsb hs;subst hs;subst hb;by_cases hk:k1=k2
   · subst hk;by_cases hm:m1=m2
     · subst hm;have HZ0:=hid (hdec rfl rfl rfl);clear hdec hsm hkd;have HK1:=hid hsb;obtain ⟨p0,p1,p2,p3⟩:=blk4 KK.out.k1;obtain ⟨p4,p5,p6,p7⟩:=blk4 KK.out.k2;clear hsb;go_enter Tryz.func86,Tryz.ntmps86;go_wp2_with fail
       go_region_held3 (fun w'=>w'.cell? ⟨w.heap.size,0,none⟩=some (.bool b1)∧w'.cell? ⟨w.heap.size,1,none⟩=some (.string m1)∧w'.cell? ⟨w.heap.size,2,none⟩=some (.bool false)∧w'.cell? ⟨w.heap.size,3,none⟩=some (.string k1)∧w'.cell? ⟨w.heap.size+1,0,none⟩=some (.bool b1)∧w'.cell? ⟨w.heap.size+1,1,none⟩=some (.string m1)∧w'.cell? ⟨w.heap.size+1,2,none⟩=some (.bool false)∧w'.cell? ⟨w.heap.size+1,3,none⟩=some (.string k1))
        (first
         | exact ⟨r0,r1,r2,r3,r4,r5,r6,r7⟩
         | exact ⟨q0,q1,q2,q3,q4,q5,q6,q7⟩
         | exact ⟨p0,p1,p2,p3,p4,p5,p6,p7⟩
         | go_keep)
        (first
         | (go_at_call 71;(with_reducible refine (HS1.out _).mono ?_);rintro e w1 ⟨rfl,hb1⟩;have K1:=hid (KK.out.next hb1);obtain ⟨q0,q1,q2,q3⟩:=blk4 K1.out.k1;obtain ⟨q4,q5,q6,q7⟩:=blk4 K1.out.k2)
         | (go_at_call 71;(with_reducible refine (HS2.out _).mono ?_);rintro e w2 ⟨rfl,hb2⟩;have K2:=hid (K1.out.next hb2);obtain ⟨r0,r1,r2,r3⟩:=blk4 K2.out.k1;obtain ⟨r4,r5,r6,r7⟩:=blk4 K2.out.k2))
       clear hb1 hb2 p0 p1 p2 p3 p4 p5 p6 p7 q0 q1 q2 q3 q4 q5 q6 q7;go_wp2
       go_ret
       exact ⟨by rw [HZ0.out];rfl,K2.out.bel⟩
     · have hml:=(str_ne hm).2;have hmn:¬m1.toList=m2.toList:=by simpa using hml
       have HKD:=hid (hkd rfl);clear hdec hsm hkd hm hml;have HK1:=hid hsb;obtain ⟨p0,p1,p2,p3⟩:=blk4 KK.out.k1;obtain ⟨p4,p5,p6,p7⟩:=blk4 KK.out.k2;clear hsb;go_enter Tryz.func86,Tryz.ntmps86;go_wp2_with fail
       go_region_held3 (fun w'=>w'.cell? ⟨w.heap.size,0,none⟩=some (.bool b1)∧w'.cell? ⟨w.heap.size,1,none⟩=some (.string m1)∧w'.cell? ⟨w.heap.size,2,none⟩=some (.bool false)∧w'.cell? ⟨w.heap.size,3,none⟩=some (.string k1)∧w'.cell? ⟨w.heap.size+1,0,none⟩=some (.bool b1)∧w'.cell? ⟨w.heap.size+1,1,none⟩=some (.string m2)∧w'.cell? ⟨w.heap.size+1,2,none⟩=some (.bool false)∧w'.cell? ⟨w.heap.size+1,3,none⟩=some (.string k1))
        (first
         | exact ⟨r0,r1,r2,r3,r4,r5,r6,r7⟩
         | exact ⟨q0,q1,q2,q3,q4,q5,q6,q7⟩
         | exact ⟨p0,p1,p2,p3,p4,p5,p6,p7⟩
         | go_keep)
        (first
         | (go_at_call 71;(with_reducible refine (HS1.out _).mono ?_);rintro e w1 ⟨rfl,hb1⟩;have K1:=hid (KK.out.next hb1);obtain ⟨q0,q1,q2,q3⟩:=blk4 K1.out.k1;obtain ⟨q4,q5,q6,q7⟩:=blk4 K1.out.k2)
         | (go_at_call 71;(with_reducible refine (HS2.out _).mono ?_);rintro e w2 ⟨rfl,hb2⟩;have K2:=hid (K1.out.next hb2);obtain ⟨r0,r1,r2,r3⟩:=blk4 K2.out.k1;obtain ⟨r4,r5,r6,r7⟩:=blk4 K2.out.k2))
       clear hb1 hb2 p0 p1 p2 p3 p4 p5 p6 p7 q0 q1 q2 q3 q4 q5 q6 q7;go_wp2_with fail
       refine (HN.out _).mono ?_;rintro e w3 ⟨rfl,hb3⟩;have K3:=hid (K2.out.next hb3);clear hb3;go_wp2
       go_ret
       exact ⟨by rw [HKD.out];rfl,K3.out.bel⟩
   · have hkl:=(str_ne hk).2;have hkn:¬k1.toList=k2.toList:=by simpa using hkl
     clear hkl hk;by_cases hm:m1=m2
     · subst hm;clear hdec hsm hkd;have HK1:=hid hsb;obtain ⟨p0,p1,p2,p3⟩:=blk4 KK.out.k1;obtain ⟨p4,p5,p6,p7⟩:=blk4 KK.out.k2;clear hsb;go_enter Tryz.func86,Tryz.ntmps86;go_wp2_with fail
       go_region_held3 (fun w'=>w'.cell? ⟨w.heap.size,0,none⟩=some (.bool b1)∧w'.cell? ⟨w.heap.size,1,none⟩=some (.string m1)∧w'.cell? ⟨w.heap.size,2,none⟩=some (.bool false)∧w'.cell? ⟨w.heap.size,3,none⟩=some (.string k1)∧w'.cell? ⟨w.heap.size+1,0,none⟩=some (.bool b1)∧w'.cell? ⟨w.heap.size+1,1,none⟩=some (.string m1)∧w'.cell? ⟨w.heap.size+1,2,none⟩=some (.bool false)∧w'.cell? ⟨w.heap.size+1,3,none⟩=some (.string k2))
        (first
         | exact ⟨r0,r1,r2,r3,r4,r5,r6,r7⟩
         | exact ⟨q0,q1,q2,q3,q4,q5,q6,q7⟩
         | exact ⟨p0,p1,p2,p3,p4,p5,p6,p7⟩
         | go_keep)
        (first
         | (go_at_call 71;(with_reducible refine (HS1.out _).mono ?_);rintro e w1 ⟨rfl,hb1⟩;have K1:=hid (KK.out.next hb1);obtain ⟨q0,q1,q2,q3⟩:=blk4 K1.out.k1;obtain ⟨q4,q5,q6,q7⟩:=blk4 K1.out.k2)
         | (go_at_call 71;(with_reducible refine (HS2.out _).mono ?_);rintro e w2 ⟨rfl,hb2⟩;have K2:=hid (K1.out.next hb2);obtain ⟨r0,r1,r2,r3⟩:=blk4 K2.out.k1;obtain ⟨r4,r5,r6,r7⟩:=blk4 K2.out.k2))
       clear hb1 hb2 p0 p1 p2 p3 p4 p5 p6 p7 q0 q1 q2 q3 q4 q5 q6 q7;have K2:=hid K2.out.drew;obtain ⟨r0,r1,r2,r3⟩:=blk4 K2.out.k1;obtain ⟨r4,r5,r6,r7⟩:=blk4 K2.out.k2;simp only [World.cell?_drew] at r0 r1 r2 r3 r4 r5 r6 r7;go_wp2_with fail
       go_region_held3 (fun w'=>w'.cell? ⟨w.heap.size,0,none⟩=some (.bool b1)∧w'.cell? ⟨w.heap.size,1,none⟩=some (.string m1)∧w'.cell? ⟨w.heap.size,2,none⟩=some (.bool false)∧w'.cell? ⟨w.heap.size,3,none⟩=some (.string k1)∧w'.cell? ⟨w.heap.size+1,0,none⟩=some (.bool b1)∧w'.cell? ⟨w.heap.size+1,1,none⟩=some (.string m1)∧w'.cell? ⟨w.heap.size+1,2,none⟩=some (.bool false)∧w'.cell? ⟨w.heap.size+1,3,none⟩=some (.string k2))
        (first
         | exact ⟨r0,r1,r2,r3,r4,r5,r6,r7⟩
         | go_keep)
        (first
         | (go_at_call 94;(with_reducible refine (HD1.out _ (HE.out _ K2.out.bel)).mono ?_);rintro e w3 ⟨rfl,hb9⟩;have K2:=hid (K2.out.next hb9);obtain ⟨r0,r1,r2,r3⟩:=blk4 K2.out.k1;obtain ⟨r4,r5,r6,r7⟩:=blk4 K2.out.k2;clear hb9)
         | (go_at_call 132;(with_reducible refine (HT1.out _ (HE.out _ K2.out.bel)).mono ?_);rintro e w4 ⟨rfl,hb9⟩;have K2:=hid (K2.out.next hb9);obtain ⟨r0,r1,r2,r3⟩:=blk4 K2.out.k1;obtain ⟨r4,r5,r6,r7⟩:=blk4 K2.out.k2;clear hb9)
         | (go_at_call 94;(with_reducible refine (HD2.out _ (HE.out _ K2.out.bel)).mono ?_);rintro e w5 ⟨rfl,hb9⟩;have K2:=hid (K2.out.next hb9);obtain ⟨r0,r1,r2,r3⟩:=blk4 K2.out.k1;obtain ⟨r4,r5,r6,r7⟩:=blk4 K2.out.k2;clear hb9)
         | (go_at_call 132;(with_reducible refine (HT2.out _ (HE.out _ K2.out.bel)).mono ?_);rintro e w6 ⟨rfl,hb9⟩;have K2:=hid (K2.out.next hb9);obtain ⟨r0,r1,r2,r3⟩:=blk4 K2.out.k1;obtain ⟨r4,r5,r6,r7⟩:=blk4 K2.out.k2;clear hb9)
         | (go_at_call 139;(with_reducible refine (HCC.out _).mono ?_);rintro e w7 ⟨rfl,hb9⟩;have K2:=hid (K2.out.next hb9);obtain ⟨r0,r1,r2,r3⟩:=blk4 K2.out.k1;obtain ⟨r4,r5,r6,r7⟩:=blk4 K2.out.k2;clear hb9))
       go_wp2
       go_ret
       exact ⟨by rw [←HZ.out];rfl,K2.out.bel⟩
     · have hml:=(str_ne hm).2;have hmn:¬m1.toList=m2.toList:=by simpa using hml
       clear hdec hsm hkd hm hml;have HK1:=hid hsb;obtain ⟨p0,p1,p2,p3⟩:=blk4 KK.out.k1;obtain ⟨p4,p5,p6,p7⟩:=blk4 KK.out.k2;clear hsb;go_enter Tryz.func86,Tryz.ntmps86;go_wp2_with fail
       go_region_held3 (fun w'=>w'.cell? ⟨w.heap.size,0,none⟩=some (.bool b1)∧w'.cell? ⟨w.heap.size,1,none⟩=some (.string m1)∧w'.cell? ⟨w.heap.size,2,none⟩=some (.bool false)∧w'.cell? ⟨w.heap.size,3,none⟩=some (.string k1)∧w'.cell? ⟨w.heap.size+1,0,none⟩=some (.bool b1)∧w'.cell? ⟨w.heap.size+1,1,none⟩=some (.string m2)∧w'.cell? ⟨w.heap.size+1,2,none⟩=some (.bool false)∧w'.cell? ⟨w.heap.size+1,3,none⟩=some (.string k2))
        (first
         | exact ⟨r0,r1,r2,r3,r4,r5,r6,r7⟩
         | exact ⟨q0,q1,q2,q3,q4,q5,q6,q7⟩
         | exact ⟨p0,p1,p2,p3,p4,p5,p6,p7⟩
         | go_keep)
        (first
         | (go_at_call 71;(with_reducible refine (HS1.out _).mono ?_);rintro e w1 ⟨rfl,hb1⟩;have K1:=hid (KK.out.next hb1);obtain ⟨q0,q1,q2,q3⟩:=blk4 K1.out.k1;obtain ⟨q4,q5,q6,q7⟩:=blk4 K1.out.k2)
         | (go_at_call 71;(with_reducible refine (HS2.out _).mono ?_);rintro e w2 ⟨rfl,hb2⟩;have K2:=hid (K1.out.next hb2);obtain ⟨r0,r1,r2,r3⟩:=blk4 K2.out.k1;obtain ⟨r4,r5,r6,r7⟩:=blk4 K2.out.k2))
       clear hb1 hb2 p0 p1 p2 p3 p4 p5 p6 p7 q0 q1 q2 q3 q4 q5 q6 q7;have K2:=hid K2.out.drew;obtain ⟨r0,r1,r2,r3⟩:=blk4 K2.out.k1;obtain ⟨r4,r5,r6,r7⟩:=blk4 K2.out.k2;simp only [World.cell?_drew] at r0 r1 r2 r3 r4 r5 r6 r7;go_wp2_with fail
       go_region_held3 (fun w'=>w'.cell? ⟨w.heap.size,0,none⟩=some (.bool b1)∧w'.cell? ⟨w.heap.size,1,none⟩=some (.string m1)∧w'.cell? ⟨w.heap.size,2,none⟩=some (.bool false)∧w'.cell? ⟨w.heap.size,3,none⟩=some (.string k1)∧w'.cell? ⟨w.heap.size+1,0,none⟩=some (.bool b1)∧w'.cell? ⟨w.heap.size+1,1,none⟩=some (.string m2)∧w'.cell? ⟨w.heap.size+1,2,none⟩=some (.bool false)∧w'.cell? ⟨w.heap.size+1,3,none⟩=some (.string k2))
        (first
         | exact ⟨r0,r1,r2,r3,r4,r5,r6,r7⟩
         | go_keep)
        (first
         | (go_at_call 94;(with_reducible refine (HD1.out _ (HE.out _ K2.out.bel)).mono ?_);rintro e w3 ⟨rfl,hb9⟩;have K2:=hid (K2.out.next hb9);obtain ⟨r0,r1,r2,r3⟩:=blk4 K2.out.k1;obtain ⟨r4,r5,r6,r7⟩:=blk4 K2.out.k2;clear hb9)
         | (go_at_call 132;(with_reducible refine (HT1.out _ (HE.out _ K2.out.bel)).mono ?_);rintro e w4 ⟨rfl,hb9⟩;have K2:=hid (K2.out.next hb9);obtain ⟨r0,r1,r2,r3⟩:=blk4 K2.out.k1;obtain ⟨r4,r5,r6,r7⟩:=blk4 K2.out.k2;clear hb9)
         | (go_at_call 94;(with_reducible refine (HD2.out _ (HE.out _ K2.out.bel)).mono ?_);rintro e w5 ⟨rfl,hb9⟩;have K2:=hid (K2.out.next hb9);obtain ⟨r0,r1,r2,r3⟩:=blk4 K2.out.k1;obtain ⟨r4,r5,r6,r7⟩:=blk4 K2.out.k2;clear hb9)
         | (go_at_call 132;(with_reducible refine (HT2.out _ (HE.out _ K2.out.bel)).mono ?_);rintro e w6 ⟨rfl,hb9⟩;have K2:=hid (K2.out.next hb9);obtain ⟨r0,r1,r2,r3⟩:=blk4 K2.out.k1;obtain ⟨r4,r5,r6,r7⟩:=blk4 K2.out.k2;clear hb9)
         | (go_at_call 139;(with_reducible refine (HCC.out _).mono ?_);rintro e w7 ⟨rfl,hb9⟩;have K2:=hid (K2.out.next hb9);obtain ⟨r0,r1,r2,r3⟩:=blk4 K2.out.k1;obtain ⟨r4,r5,r6,r7⟩:=blk4 K2.out.k2;clear hb9))
       go_wp2
       go_ret
       exact ⟨by rw [←HZ.out];rfl,K2.out.bel⟩
 · have hne:(sp != sq)=true:=by simpa using hs
   have HCZ:=hid (HCS.out hs);have hmb:b1=b2→¬m1.toList=m2.toList:=fun h1 h2=>hs (hsm h1 (by cases m1;cases m2;rw [ByteArray.toList_eq,ByteArray.toList_eq] at h2;simp at h2;rw [h2]))
   have HCI:=hid (fun V=>Tryz.cmp_Compare_int sp sq V);clear hdec hsm hkd hs;by_cases hb:b1=b2
   · subst hb;have hmn:=hmb rfl;clear hmb;have HK1:=hid hsb;obtain ⟨p0,p1,p2,p3⟩:=blk4 KK.out.k1;obtain ⟨p4,p5,p6,p7⟩:=blk4 KK.out.k2;clear hsb;go_enter Tryz.func86,Tryz.ntmps86;go_wp2_with fail
     go_region_held3 (fun w'=>w'.cell? ⟨w.heap.size,0,none⟩=some (.bool b1)∧w'.cell? ⟨w.heap.size,1,none⟩=some (.string m1)∧w'.cell? ⟨w.heap.size,2,none⟩=some (.bool false)∧w'.cell? ⟨w.heap.size,3,none⟩=some (.string k1)∧w'.cell? ⟨w.heap.size+1,0,none⟩=some (.bool b1)∧w'.cell? ⟨w.heap.size+1,1,none⟩=some (.string m2)∧w'.cell? ⟨w.heap.size+1,2,none⟩=some (.bool false)∧w'.cell? ⟨w.heap.size+1,3,none⟩=some (.string k2))
      (first
       | exact ⟨r0,r1,r2,r3,r4,r5,r6,r7⟩
       | exact ⟨q0,q1,q2,q3,q4,q5,q6,q7⟩
       | exact ⟨p0,p1,p2,p3,p4,p5,p6,p7⟩
       | go_keep)
      (first
       | (go_at_call 71;(with_reducible refine (HS1.out _).mono ?_);rintro e w1 ⟨rfl,hb1⟩;have K1:=hid (KK.out.next hb1);obtain ⟨q0,q1,q2,q3⟩:=blk4 K1.out.k1;obtain ⟨q4,q5,q6,q7⟩:=blk4 K1.out.k2)
       | (go_at_call 71;(with_reducible refine (HS2.out _).mono ?_);rintro e w2 ⟨rfl,hb2⟩;have K2:=hid (K1.out.next hb2);obtain ⟨r0,r1,r2,r3⟩:=blk4 K2.out.k1;obtain ⟨r4,r5,r6,r7⟩:=blk4 K2.out.k2))
     exact k72
   · clear hmb;have HK1:=hid hsb;obtain ⟨p0,p1,p2,p3⟩:=blk4 KK.out.k1;obtain ⟨p4,p5,p6,p7⟩:=blk4 KK.out.k2;clear hsb;go_enter Tryz.func86,Tryz.ntmps86;go_wp2_with fail
     go_region_held3 (fun w'=>w'.cell? ⟨w.heap.size,0,none⟩=some (.bool b1)∧w'.cell? ⟨w.heap.size,1,none⟩=some (.string m1)∧w'.cell? ⟨w.heap.size,2,none⟩=some (.bool false)∧w'.cell? ⟨w.heap.size,3,none⟩=some (.string k1)∧w'.cell? ⟨w.heap.size+1,0,none⟩=some (.bool b2)∧w'.cell? ⟨w.heap.size+1,1,none⟩=some (.string m2)∧w'.cell? ⟨w.heap.size+1,2,none⟩=some (.bool false)∧w'.cell? ⟨w.heap.size+1,3,none⟩=some (.string k2))
      (first
       | exact ⟨r0,r1,r2,r3,r4,r5,r6,r7⟩
       | exact ⟨q0,q1,q2,q3,q4,q5,q6,q7⟩
       | exact ⟨p0,p1,p2,p3,p4,p5,p6,p7⟩
       | go_keep)
      (first
       | (go_at_call 71;(with_reducible refine (HS1.out _).mono ?_);rintro e w1 ⟨rfl,hb1⟩;have K1:=hid (KK.out.next hb1);obtain ⟨q0,q1,q2,q3⟩:=blk4 K1.out.k1;obtain ⟨q4,q5,q6,q7⟩:=blk4 K1.out.k2)
       | (go_at_call 71;(with_reducible refine (HS2.out _).mono ?_);rintro e w2 ⟨rfl,hb2⟩;have K2:=hid (K1.out.next hb2);obtain ⟨r0,r1,r2,r3⟩:=blk4 K2.out.k1;obtain ⟨r4,r5,r6,r7⟩:=blk4 K2.out.k2))
     exact k72
section
variable {w w1 W:World} {c1 c2 c3:Array Value} {T1 T2 T3:TypeId}
theorem fro5 {g:Nat} {T:TypeId} {v0 v1 v2 v3 v4:Value} (h:W.heap[g]?=some (.cells #[v0,v1,v2,v3,v4] T (0,0))) :
  W.frozen? ⟨g,0,none⟩=false∧W.frozen? ⟨g,1,none⟩=false∧W.frozen? ⟨g,2,none⟩=false∧W.frozen? ⟨g,3,none⟩=false∧W.frozen? ⟨g,4,none⟩=false:=by
 refine ⟨?_,?_,?_,?_,?_⟩<;>simp [World.cell?,World.frozen?,h]
theorem qoth5 {g k:Nat} (hne:k≠g) (a b c d e:Value):(((((W.setCell ⟨g,0,none⟩ a).setCell ⟨g,1,none⟩ b).setCell ⟨g,2,none⟩ c).setCell ⟨g,3,none⟩ d).setCell ⟨g,4,none⟩ e).heap[k]?=W.heap[k]? :=
 (Below.heap_setCell _ ⟨g,4,none⟩ e k hne).trans (qoth4 hne a b c d)
theorem qsz5 {g:Nat} (a b c d e:Value):(((((W.setCell ⟨g,0,none⟩ a).setCell ⟨g,1,none⟩ b).setCell ⟨g,2,none⟩ c).setCell ⟨g,3,none⟩ d).setCell ⟨g,4,none⟩ e).heap.size=W.heap.size:=by simp [World.setCell]
theorem Bq.self5 {g:Nat} {T:TypeId} {x0 x1 x2 x3 x4:Value} (h:Bq g #[x0,x1,x2,x3,x4] T W) (a b c d e:Value):Bq g #[a,b,c,d,e] T (((((W.setCell ⟨g,0,none⟩ a).setCell ⟨g,1,none⟩ b).setCell ⟨g,2,none⟩ c).setCell ⟨g,3,none⟩ d).setCell ⟨g,4,none⟩ e) :=
 ⟨by have hk:=h.k;simp [World.setCell,Array.getElem?_modify,hk],by rw [qsz5];exact h.lt⟩
end
theorem wpLate_three {P:Program} {ops:Array Oper} {Q:Exit→Act→World→Prop} {md:Region.Mode} {S:World→Prop} {Ls:List Nat} {i j k:Nat} {o o' o'':Oper} {fuel:Nat} {listed:Array Bool} {a:Act} {w:World} (hr:Region.ready md ops listed=[i,j,k]) (ho:ops[i]?=some o) (ho':ops[j]?=some o') (ho'':ops[k]?=some o'')
  (h:∀ K':Act→World→Prop,Shut (∀ a' w',(Ls.contains i=true∨(S w→S w'))→wpLate P md ops Q S Ls fuel (listed.setIfInBounds i true) a' w'→K' a' w')→if Region.wanted o (yielded ops a.tmps)=true then Oper.wp P o a w K' Q else K' (a.put o.dst undef) w)
  (h':∀ K':Act→World→Prop,Shut (∀ a' w',(Ls.contains j=true∨(S w→S w'))→wpLate P md ops Q S Ls fuel (listed.setIfInBounds j true) a' w'→K' a' w')→if Region.wanted o' (yielded ops a.tmps)=true then Oper.wp P o' a w K' Q else K' (a.put o'.dst undef) w)
  (h'':∀ K':Act→World→Prop,Shut (∀ a' w',(Ls.contains k=true∨(S w→S w'))→wpLate P md ops Q S Ls fuel (listed.setIfInBounds k true) a' w'→K' a' w')→if Region.wanted o'' (yielded ops a.tmps)=true then Oper.wp P o'' a w K' Q else K' (a.put o''.dst undef) w) :
  wpLate P md ops Q S Ls (fuel+1) listed a w :=
 ⟨fun h0=>(by rw [h0] at hr;cases hr),fun l hl=>by
  rw [hr] at hl;have hl':l=i∨l=j∨l=k:=by simpa using hl
  rcases hl' with rfl | rfl | rfl
  · exact k74
  · exact wpOp_step ho' (fun K' hK=>h' K' (fun a w hS hW=>hK a w ⟨hS,hW⟩))
  · exact wpOp_step ho'' (fun K' hK=>h'' K' (fun a w hS hW=>hK a w ⟨hS,hW⟩))⟩
theorem cmpZ_neg {x y:Int} (h:cmpZ x y=-1):x<y:=by
 rcases Int.lt_trichotomy x y with h1 | h1 | h1
 · exact h1
 · rw [cmpZ_eq0 h1] at h;cases h
 · rw [cmpZ_gt h1] at h;cases h
theorem inn_mid {a b c d:Nat} (hb:0<b) (h:a*d<c*b) (oa oc:Bool):Inn a b oa c d oc (a+c) (b+d):=by
 refine ⟨om,.inl ?_,.inl ?_⟩
 · rw [Nat.mul_add,Nat.add_mul];omega
 · rw [Nat.mul_add,Nat.add_mul];omega
theorem rt_square (N:Nat):rt (N*N)=N:=rt_unique (Nat.le_refl _) (Nat.mul_lt_mul'' om om)
theorem isSq_yes (N:Nat) (hs:(mag (N*N)).size≤30000) (w:World) :
  Calls prog 128 #[.agg #[.bool false,.string (mag (N*N))]] w (RetB w (.tuple #[.agg #[.bool false,.string (mag N)],.bool true])):=by
 have hN:(mag N).size≤40000:=by
  rcases Nat.eq_zero_or_pos N with h | h
  · rw [h,mag_nil];exact Nat.zero_le _
  · have h1:nd N≤nd (N*N):=nd_mono (Nat.le_mul_of_pos_left N h);exact Nat.le_trans h1 (by unfold nd;omega)
 have h:=isSquare_f (enc_mag (N*N)) om om (br:=false) (mr:=mag N) (bp:=false) (mp:=mag (N*N)) (by rw [Int.natAbs_natCast,rt_square];exact enc_mag N)
  (by rw [Int.natAbs_natCast,rt_square,←Int.natCast_mul];exact enc_mag (N*N)) hN w
 have hc:((rt ((N*N:Nat):Int).natAbs:Nat):Int)*((rt ((N*N:Nat):Int).natAbs:Nat):Int)=((N*N:Nat):Int):=by rw [Int.natAbs_natCast,rt_square,Int.natCast_mul]
 simp only [if_pos hc] at h;exact h
theorem ratRoot_yes {q:Rat} {b:Bool} {m k:ByteArray} (h:Rq q b m k) {N D:Nat} (hN:q.num=((N*N:Nat):Int)) (hD:q.den=D*D) (s1:(mag (N*N)).size≤30000) (s2:(mag (D*D)).size≤30000) (w:World) (hE:Env w) :
  Calls prog 72 #[.agg #[.bool b,.string m,.bool false,.string k]] w (RetB w (.tuple #[.agg #[.bool false,.string (mag N),.bool false,.string (dm D)],.bool true])):=by
 have hb:b=false∧m=mag (N*N):=by
  obtain ⟨e1,e2⟩:=h.mag;rw [hN] at e1 e2;exact ⟨by rw [e1];exact decide_eq_false om,by rw [e2,Int.natAbs_natCast]⟩
 obtain ⟨rfl,rfl⟩:=hb;have HE:=hid (fun V (hb:Below w.heap.size w V)=>hE.next hb);have HDN:=hid (fun V (hV:Env V)=>den_f h V hV);rw [hD] at HDN;have HI1:=hid (fun V=>isSq_yes N s1 V);have HI2:=hid (fun V=>isSq_yes D s2 V);have HCP:=hid (fun V (hV:Env V)=>coprime_f false (mag N) D V hV);have KK:=hid (Kb.start w #[.bool false,.string (mag (N*N)),.bool false,.string k] #[.bool false,.string ⟨#[]⟩,.bool false,.string ⟨#[]⟩] 25 25);generalize mag (N*N)=mN at *;generalize mag (D*D)=mD at *;generalize mag N=rN at *;generalize mag D=rD at *;generalize dm D=rk at *;clear h hN hD hE s1 s2;go_enter Tryz.func72,Tryz.ntmps72;go_wp2_with fail
 refine (HI1.out _).mono ?_;rintro e w1 ⟨rfl,hb1⟩;have K1:=hid (KK.out.next hb1);have K2:=hid (K1.out.next (below_new w1 (.cells #[.bool false,.string rN] 23)));have B2:=hid (Bq.new w1 #[.bool false,.string rN] 23);obtain ⟨p0,p1,p2,p3⟩:=blk4 K2.out.k1;clear hb1;go_wp2_with fail
 refine (HDN.out _ (HE.out _ K2.out.bel)).mono ?_;rintro e w3 ⟨rfl,hb3⟩;have K3:=hid (K2.out.next hb3);have B3:=hid (B2.out.next hb3);clear hb3 p0 p1 p2 p3;go_wp2_with fail
 refine (HI2.out _).mono ?_;rintro e w4 ⟨rfl,hb4⟩;have K4:=hid (K3.out.next hb4);have B4:=hid (B3.out.next hb4);have K5:=hid (K4.out.next (below_new w4 (.cells #[.bool false,.string rD] 23)));have B5:=hid (B4.out.next (below_new w4 (.cells #[.bool false,.string rD] 23)));obtain ⟨q0,q1,_,_⟩:=blk_cells B5.out.k;clear hb4;go_wp2_with fail
 refine (HCP.out _ (HE.out _ K5.out.bel)).mono ?_;rintro e w6 ⟨rfl,hb6⟩;have K6:=hid (K5.out.next hb6);obtain ⟨t0,t1,t2,t3⟩:=blk4 K6.out.k2;obtain ⟨f0,f1,f2,f3⟩:=fro4 K6.out.k2;clear hb6 q0 q1;go_wp2
 exact bodyPost_ret (v:=.tuple #[.agg #[.bool false,.string rN,.bool false,.string rk],.bool true]) (by simp [results,Tryz.results72,go_sem,t0,t1,t2,t3]) rfl ⟨rfl,below_set4 K6.out.bel om _ _ _ _⟩
theorem mk_small {neg:Bool} {X Y n:Nat} (hX:X<256^n) (hY:Y<256^n) (hY0:0<Y):(mkRat (sgn neg X) Y).num.natAbs<256^n∧(mkRat (sgn neg X) Y).den<256^n:=by
 obtain ⟨e1,e2⟩:=mkRat_parts (sgn neg X) (d:=Y) om;rw [sgn_natAbs] at e1 e2;rw [e1,e2,sgn_div neg (Nat.gcd_dvd_left X Y),sgn_natAbs];have h1:=Nat.div_le_self X (Nat.gcd X Y);have h2:=Nat.div_le_self Y (Nat.gcd X Y);omega
end Go.Proofs.YtpnokfgplnmjpaaGreatDoor
