import Derived.Test.YtpnokfgplnmjpaaGreatDoorGPk
import Derived.Test.YtpnokfgplnmjpaaGreatDoorGIntT
import Derived.Outline
import Derived.Test.YtpnokfgplnmjpaaGreatDoorGRefL
import Derived.Test.YtpnokfgplnmjpaaGreatDoorGSgT
import Derived.Deep.RegionLaw
import Derived.Test.YtpnokfgplnmjpaaGreatDoorGQE
import Derived.Test.YtpnokfgplnmjpaaGreatDoorGLawA
import Derived.Deep.RegionWith
import Derived.Deep.DeepCutAuto
set_option linter.unusedSimpArgs false
set_option linter.unusedVariables false
set_option maxRecDepth 100000
set_option maxHeartbeats 8000000
open Go.Lib (hid)
open Go.Proofs.Tryz (prog)
namespace Go.Proofs.YtpnokfgplnmjpaaGreatDoor
open Go.RowKit
attribute [local go_sem ↓] Go.wp_at_zero Go.wp_at_succ
theorem lead_word {X n s:Nat} (hs:s≤63) (hX:X*2^s<B64^(n+2)) :
  D B64 X (n+1)*2^s%B64 ||| D B64 X n / 2^(64-s)=X / (2^(64-s)*B64^n)∧X / (2^(64-s)*B64^n)<B64:=by
 have hp0:0<2^s:=Nat.pow_pos om;have hq0:0<2^(64-s):=Nat.pow_pos om;have eb:=B64_two s om;have h1:=div_D B64 X n;have h2:=div_D B64 X (n+1);have hXl:X<B64^(n+2):=Nat.lt_of_le_of_lt (Nat.le_mul_of_pos_right X hp0) hX;rw [Nat.div_eq_of_lt hXl,Nat.mul_zero,Nat.zero_add] at h2;rw [h2] at h1;have hl:D B64 X n / 2^(64-s)<2^s:=Nat.div_lt_of_lt_mul (by rw [Nat.mul_comm,←eb,B64_eq];exact D64_lt X n)
 have hX2:X / (2^(64-s)*B64^n)=2^s*D B64 X (n+1)+D B64 X n / 2^(64-s):=by
  rw [Nat.mul_comm (2^(64-s)),←Nat.div_div_eq_div_mul,h1];have e3:B64*D B64 X (n+1)=2^(64-s)*(2^s*D B64 X (n+1)):=by rw [←Nat.mul_assoc,Nat.mul_comm (2^(64-s)),←eb]
  rw [e3,Nat.mul_add_div hq0]
 have hlt:X / (2^(64-s)*B64^n)<B64:=by
  apply Nat.div_lt_of_lt_mul
  have e:2^(64-s)*B64^n*B64*2^s=B64^(n+2):=by
   have:2^(64-s)*B64^n*B64*2^s=2^s*2^(64-s)*B64^n*B64:=by ac_rfl
   rw [this,←eb,Nat.mul_comm B64 (B64^n),←Nat.pow_succ,←Nat.pow_succ]
  rw [←e] at hX;exact Nat.lt_of_mul_lt_mul_right hX
 have hor:=(or_sum (x:=D B64 X (n+1)) hl om).1;refine ⟨?_,hlt⟩;rw [Nat.or_comm,hor,hX2]
 have h9:D B64 X (n+1)*2^s<B64:=by
  rw [hX2,Nat.mul_comm] at hlt;exact Nat.lt_of_le_of_lt (Nat.le_add_right _ _) hlt
 rw [Nat.mod_eq_of_lt h9,Nat.mul_comm,Nat.add_comm]
def St (w:World) (g x0 y0 x1 y1:Nat) (o:Bool):Prop:=w.heap[g]?=some (.cells #[.int .u64 (x0:Int),.int .u64 (y0:Int),.int .u64 (x1:Int),.int .u64 (y1:Int),.bool o] 207 (0,0))
section
variable {w w':World} {g x0 y0 x1 y1:Nat} {o:Bool}
theorem St.cells (h:St w g x0 y0 x1 y1 o):w.cell? ⟨g,0,none⟩=some (.int .u64 (x0:Int))∧w.cell? ⟨g,1,none⟩=some (.int .u64 (y0:Int))∧w.cell? ⟨g,2,none⟩=some (.int .u64 (x1:Int)) ∧
  w.cell? ⟨g,3,none⟩=some (.int .u64 (y1:Int))∧w.cell? ⟨g,4,none⟩=some (.bool o):=by
 unfold St at h;refine ⟨?_,?_,?_,?_,?_⟩<;>simp [World.cell?,h]
theorem St.frozen (h:St w g x0 y0 x1 y1 o) (i:Nat):w.frozen? ⟨g,i,none⟩=false:=by
 unfold St at h;simp [World.frozen?,h]
theorem St.set0 (h:St w g x0 y0 x1 y1 o) (v:Nat):St (w.setCell ⟨g,0,none⟩ (.int .u64 (v:Int))) g v y0 x1 y1 o:=by
 exact k62
theorem St.set1 (h:St w g x0 y0 x1 y1 o) (v:Nat):St (w.setCell ⟨g,1,none⟩ (.int .u64 (v:Int))) g x0 v x1 y1 o:=by
 exact k62
theorem St.set2 (h:St w g x0 y0 x1 y1 o) (v:Nat):St (w.setCell ⟨g,2,none⟩ (.int .u64 (v:Int))) g x0 y0 v y1 o:=by
 exact k62
theorem St.set3 (h:St w g x0 y0 x1 y1 o) (v:Nat):St (w.setCell ⟨g,3,none⟩ (.int .u64 (v:Int))) g x0 y0 x1 v o:=by
 exact k62
theorem St.set4 (h:St w g x0 y0 x1 y1 o) (v:Bool):St (w.setCell ⟨g,4,none⟩ (.bool v)) g x0 y0 x1 y1 v:=by
 exact k62
theorem St.of_block (h:St w g x0 y0 x1 y1 o) (e:w'.heap[g]?=w.heap[g]?):St w' g x0 y0 x1 y1 o:=e.trans h
theorem St.lt (h:St w g x0 y0 x1 y1 o):g<w.heap.size:=(Array.getElem?_eq_some_iff.1 h).1
end
def Cs (X Y x0 y0 x1 y1:Nat) (o:Bool):Prop:=y0≠0→0≤sg o*((x1:Int)*X-y1*Y)∧sg o*((x1:Int)*X-y1*Y)<sg o*((y0:Int)*Y-x0*X)∧sg o*((y0:Int)*Y-x0*X)≤Y∧(x0:Int)*y1-x1*y0=- sg o
def RetSt (w:World) (X Y:Nat) (e:Ending) (w':World):Prop :=
 ∃ (x0 y0 x1 y1:Nat) (o:Bool),e=.returned (.agg #[.int .u64 (x0:Int),.int .u64 (y0:Int),.int .u64 (x1:Int),.int .u64 (y1:Int),.bool o])∧x0<18446744073709551616∧y0<18446744073709551616∧x1<18446744073709551616∧y1<18446744073709551616∧Cs X Y x0 y0 x1 y1 o∧Below w.heap.size w w'
theorem Lm.le {X Y A L a b x0 x1 x2 y0 y1 y2:Nat} {odd:Bool} (h:Lm X Y A L a b x0 x1 x2 y0 y1 y2 odd):a≤A:=by
 have h1:=h.i1;have h2:1*a≤y2*a:=Nat.mul_le_mul_right _ h.i6;omega
theorem Lm.sum_le {X Y A L a b x0 x1 x2 y0 y1 y2:Nat} {odd:Bool} (h:Lm X Y A L a b x0 x1 x2 y0 y1 y2 odd) (hb:y2≤b):y1+y2≤A:=by
 have h1:=h.i1;have h6:=h.i6;have h7:=h.i7;have h2:y2*1≤y2*a:=Nat.mul_le_mul_left _ om;have h3:y1*1≤y1*b:=Nat.mul_le_mul_left _ om;omega
theorem certainSteps_any (gx ox gy oy n cx cy X Y:Nat) (w:World) (hn:n≤100000000) (hX:Rd w .u64 (some ⟨gx,ox,none⟩) (n+2) (D B64 X)) (hY:Rd w .u64 (some ⟨gy,oy,none⟩) (n+2) (D B64 Y)) (hlt:X<B64^(n+2)) (htop:B64^(n+1)≤X) (hle:Y≤X) :
  Calls prog 224 #[.slice (some ⟨gx,ox,none⟩) (n+2) cx,.slice (some ⟨gy,oy,none⟩) (n+2) cy] w (RetSt w X Y):=by
 obtain ⟨s,hs,hs63,_,hXs⟩:=top_shift (m:=n+2) om hlt (by rw [show n+2-1=n+1 by omega];exact htop);rw [show n+2-1=n+1 by omega] at hs;have hYs:Y*2^s<B64^(n+2):=Nat.lt_of_le_of_lt (Nat.mul_le_mul_right _ hle) hXs;obtain ⟨la,la2⟩:=lead_word hs63 hXs;obtain ⟨lb,lb2⟩:=lead_word hs63 hYs;have hK:0<2^(64-s)*B64^n:=Nat.mul_pos (Nat.pow_pos om) (Nat.pow_pos B64_pos);have hAL:Y / (2^(64-s)*B64^n)≤X / (2^(64-s)*B64^n):=Nat.div_le_div_right hle;have dX:=Nat.div_add_mod X (2^(64-s)*B64^n);have mX:=Nat.mod_lt X hK;have dY:=Nat.div_add_mod Y (2^(64-s)*B64^n);have mY:=Nat.mod_lt Y hK;obtain ⟨K,hKe⟩:∃ K,2^(64-s)*B64^n=K:=⟨_,rfl⟩
 rw [hKe] at la la2 lb lb2 hAL dX mX dY mY;obtain ⟨A,hA⟩:∃ A,X / K=A:=⟨_,rfl⟩
 obtain ⟨L,hL⟩:∃ L,Y / K=L:=⟨_,rfl⟩
 rw [hA] at la la2 hAL dX;rw [hL] at lb lb2 hAL dY;rw [Nat.mul_comm] at dX dY;have HXK:=hid (show A*K≤X∧X<A*K+K by omega);have HYK:=hid (show L*K≤Y∧Y<L*K+K by omega);obtain ⟨g1,o1,e1,hgx,cX⟩:=hX om;obtain ⟨g2,o2,e2,hgy,cY⟩:=hY om
 injection e1 with e1
 injection e1 with e1 e1'
 injection e2 with e2
 injection e2 with e2 e2'
 subst e1 e1' e2 e2';have x1c:=cX (n+1) om;have x0c:=cX n om;have y1c:=cY (n+1) om;have y0c:=cY n om;have lx1:=D64_lt X (n+1);have lx0:=D64_lt X n;have ly1:=D64_lt Y (n+1);have ly0:=D64_lt Y n;have HLZ:=hid (fun V=>lz_any (D B64 X (n+1)) s hs lx1 V);obtain ⟨q,hq⟩:∃ q,64-s=q:=⟨_,rfl⟩
 rw [hq] at la lb
 have mk:∀ (d1 d0 R:Nat),d1<18446744073709551616→d0<18446744073709551616→d1*2^s%B64 ||| d0 / 2^q=R→∃ H Lo:Nat,IntKind.u64.wrap ((d1:Int)*2^s)=(H:Int)∧(d0:Int) / 2^q=(Lo:Int)∧bits .or .u64 (H:Int) (Lo:Int)=(R:Int):=fun d1 d0 R h1 h0 hR =>
  ⟨d1*2^s%B64,d0 / 2^q,by rw [shl_word,B64_eq],by rw [shr_word],by
   rw [bits_or_u64 _ _ (by rw [←B64_eq];exact Nat.mod_lt _ B64_pos) (Nat.lt_of_le_of_lt (Nat.div_le_self _ _) h0),hR]⟩
 obtain ⟨H1,L1,v1,v2,v3⟩:=mk _ _ A lx1 lx0 la;obtain ⟨H2,L2,v4,v5,v6⟩:=mk _ _ L ly1 ly0 lb;rw [B64_eq] at la2 lb2;have hq1:(64:Int)-(s:Int)=(q:Int):=om;have hq2:q≤64:=om;have i1:(0:Int)≤(n:Int)+1:=om;have i2:(n:Int)+1<(n:Int)+2:=om;have i3:(0:Int)≤(n:Int):=om;have i4:(n:Int)<(n:Int)+2:=om;have i5:((n:Int)+1).toNat=n+1:=om;have i6:IntKind.i64.wrap ((n:Int)+1)=(n:Int)+1:=IntWalk.i64_in _ om;have i7:IntKind.i64.wrap (n:Int)=(n:Int):=IntWalk.i64_in _ om;clear hX hY hlt htop hle hs hXs hYs la lb hK dX mX dY mY hKe hA hL cX cY mk hq;generalize D B64 X (n+1)=d1 at *;generalize D B64 X n=d0 at *;generalize D B64 Y (n+1)=f1 at *;generalize D B64 Y n=f0 at *;go_enter Tryz.func224,Tryz.ntmps224;go_wp2_with fail
 refine (HLZ.out _).mono ?_;rintro e w1 ⟨rfl,rfl⟩;go_wp2_with fail
 go_quiet (fail)
 go_wp2_with fail
 go_quiet (fail)
 go_wp2_with fail
 have hres0:∀ V:World,(w.alloc (.cells #[.int .u64 0,.int .u64 0,.int .u64 0,.int .u64 0,.bool false] 207)).heap=V.heap→(V.alloc (.cells #[.int .u64 0,.int .u64 0,.int .u64 1,.int .u64 0,.bool true] 207)).heap[w.heap.size]?=some (.cells #[.int .u64 0,.int .u64 0,.int .u64 0,.int .u64 0,.bool false] 207 (0,0)) ∧
   St (V.alloc (.cells #[.int .u64 0,.int .u64 0,.int .u64 1,.int .u64 0,.bool true] 207)) (w.heap.size+1) 0 0 1 0 true:=fun V hV=>by
  have hsz:V.heap.size=w.heap.size+1:=by rw [←hV];simp
  refine ⟨?_,?_⟩
  · rw [(Below.heap_alloc V _ w.heap.size om),←hV];exact heap_alloc_new w _
  · have:=heap_alloc_new V (.cells #[.int .u64 0,.int .u64 0,.int .u64 1,.int .u64 0,.bool true] 207);rw [hsz] at this;exact this
 have HRES0:=hid hres0;clear hres0 x1c x0c y1c y0c v1 v2 v3 v4 v5 v6 i1 i2 i3 i4 i5 i6 i7 lx1 lx0 ly1 ly0 HLZ hq1 hq2
 go_loopw [7,8,10,11] (fun pa pb px py wr=>∃ (a b x0 x1 x2 y0 y1 y2:Nat) (o:Bool),pa=.int .u64 (a:Int)∧pb=.int .u64 (b:Int)∧px=.int .u64 (x2:Int)∧py=.int .u64 (y2:Int)∧Hid (Lm X Y A L a b x0 x1 x2 y0 y1 y2 o) ∧
  a<18446744073709551616∧b<18446744073709551616∧x0<18446744073709551616∧x1<18446744073709551616∧x2<18446744073709551616∧y0<18446744073709551616∧y1<18446744073709551616∧y2<18446744073709551616 ∧
  St wr (w.heap.size+1) x0 y0 x1 y1 o∧Hid (wr.heap[w.heap.size]?=some (.cells #[.int .u64 0,.int .u64 0,.int .u64 0,.int .u64 0,.bool false] 207 (0,0)))∧Below w.heap.size w wr) (fun _ pb _ _ _=>(intOf pb).toNat)
 case atStart =>
  refine ⟨A,L,0,1,0,0,0,1,true,rfl,rfl,rfl,rfl,Lm.start X Y A L hAL,la2,lb2,om,om,om,om,om,om,(HRES0.out _ (by rfl)).2,(HRES0.out _ (by rfl)).1,?_⟩;exact (below_draws ((Below.refl _ _).alloc (Nat.le_refl _) _) _).alloc (by simp) _
 case round =>
  obtain ⟨a,b,x0,x1,x2,y0,y1,y2,o,rfl,rfl,rfl,rfl,HLM,ba,bb,bx0,bx1,bx2,by0,by1,by2,hst,HRES,hbl⟩:=hrel;obtain ⟨c0,c1,c2,c3,c4⟩:=hst.cells;have hend:Hid (Cs X Y x0 y0 x1 y1 o):=HLM.out.i11;have HBL:=hid hbl;have hsz:=hbl.size;clear hbl
  have hr5:∀ V:World,V.heap[w.heap.size]?=some (.cells #[.int .u64 0,.int .u64 0,.int .u64 0,.int .u64 0,.bool false] 207 (0,0)) →
    V.cell? ⟨w.heap.size,0,none⟩=some (.int .u64 0)∧V.cell? ⟨w.heap.size,1,none⟩=some (.int .u64 0)∧V.cell? ⟨w.heap.size,2,none⟩=some (.int .u64 0)∧V.cell? ⟨w.heap.size,3,none⟩=some (.int .u64 0)∧V.cell? ⟨w.heap.size,4,none⟩=some (.bool false) ∧
    V.frozen? ⟨w.heap.size,0,none⟩=false∧V.frozen? ⟨w.heap.size,1,none⟩=false∧V.frozen? ⟨w.heap.size,2,none⟩=false∧V.frozen? ⟨w.heap.size,3,none⟩=false∧V.frozen? ⟨w.heap.size,4,none⟩=false:=fun V h=>by
   refine ⟨?_,?_,?_,?_,?_,?_,?_,?_,?_,?_⟩<;>simp [World.cell?,World.frozen?,h]
  by_cases hb:y2≤b
  · have hsum:=HLM.out.sum_le hb;have hle:=HLM.out.le;have h7:=HLM.out.i7;have hbd:decide (y2≤b)=true:=by simp;omega
    obtain ⟨d,hd⟩:∃ d,a-b=d:=⟨_,rfl⟩
    obtain ⟨t,ht⟩:∃ t,y1+y2=t:=⟨_,rfl⟩
    have w1:(a:Int)-(b:Int)=(d:Int):=om;have w2:(y1:Int)+(y2:Int)=(t:Int):=om;have w3:d<18446744073709551616:=om;have w4:t<18446744073709551616:=om;by_cases hab:t≤d
    · have habd:decide (t≤d)=true:=by simp;omega
      have HST:=hid (HLM.out.step HXK.out HYK.out hb om);obtain ⟨hb0,q1,q2,q3,q4,q5⟩:=lm_bounds HLM.out hb;have HD:=hid hd;have HT:=hid ht;clear hr5 hd ht;obtain ⟨Q,hQ⟩:∃ q,a / b=q:=⟨_,rfl⟩
      obtain ⟨R,hR⟩:∃ q,a%b=q:=⟨_,rfl⟩
      rw [hQ] at q1 q2 q3 q4 HST;rw [hR] at q5 HST;have e1:(a:Int) / (b:Int)=(Q:Int):=by rw [←hQ];simp
      have e2:(a:Int)%(b:Int)=(R:Int):=by rw [←hR];simp
      have e3:(a:Int).tdiv (b:Int)=(Q:Int):=by rw [Int.tdiv_eq_ediv_of_nonneg om];exact e1
      have e4:(a:Int).tmod (b:Int)=(R:Int):=by rw [Int.tmod_eq_emod_of_nonneg om];exact e2
      have hQb:Q<18446744073709551616:=by rw [←hQ];exact Nat.lt_of_le_of_lt (Nat.div_le_self _ _) ba
      clear hQ hR;obtain ⟨px,hpx⟩:∃ p,Q*x2=p:=⟨_,rfl⟩
      obtain ⟨py,hpy⟩:∃ p,Q*y2=p:=⟨_,rfl⟩
      rw [hpx] at q1 q2 HST;rw [hpy] at q3 q4 HST;have m1:(Q:Int)*(x2:Int)=(px:Int):=by rw [←hpx];simp
      have m2:(Q:Int)*(y2:Int)=(py:Int):=by rw [←hpy];simp
      obtain ⟨nx,hnx⟩:∃ p,x1+px=p:=⟨_,rfl⟩
      obtain ⟨ny,hny⟩:∃ p,y1+py=p:=⟨_,rfl⟩
      rw [hnx] at q2 HST;rw [hny] at q4 HST;have m3:(x1:Int)+(px:Int)=(nx:Int):=om;have m4:(y1:Int)+(py:Int)=(ny:Int):=om;have m5:px<18446744073709551616:=om;have m6:py<18446744073709551616:=om;have m7:nx<18446744073709551616:=om;have m8:ny<18446744073709551616:=om;have hne:((b:Int)==0)=false:=by simp;omega
      have hlt2:R<b:=q5;clear hpx hpy hnx hny q1 q2 q3 q4 q5;have f0:=hst.frozen 0;have f1':=hst.frozen 1;have f2:=hst.frozen 2;have f3:=hst.frozen 3;have f4:=hst.frozen 4;have HS0:=hid hst;clear hst;go_wp2_with fail
      go_quiet (fail)
      go_wp2
      go_roundw
      case rel =>
       refine ⟨b,R,x1,x2,nx,y1,y2,ny,!o,rfl,rfl,rfl,rfl,HST.out,bb,om,bx1,bx2,m7,by1,by2,m8,?_,?_,?_⟩
       · exact ((((St.set0 (w:=wr.drewN _) HS0.out x1).set2 x2).set1 y1).set3 y2).set4 (!o)
       · show _=_;exact ((((((Below.refl (w.heap.size+1) (wr.drewN _)).setCell (by show _≤w.heap.size+1;omega) _).setCell (by show _≤w.heap.size+1;omega) _).setCell (by show _≤w.heap.size+1;omega) _).setCell (by show _≤w.heap.size+1;omega) _).setCell (by show _≤w.heap.size+1;omega) _).block w.heap.size om |>.trans HRES.out
       · exact (((((below_draws HBL.out _).setCell (by show _≤w.heap.size+1;omega) _).setCell (by show _≤w.heap.size+1;omega) _).setCell (by show _≤w.heap.size+1;omega) _).setCell (by show _≤w.heap.size+1;omega) _).setCell (by show _≤w.heap.size+1;omega) _
      case measure=>simp [intOf]<;>omega
    · have habd:decide (t≤d)=false:=by simp;omega
      obtain ⟨r0,r1,r2,r3,r4,s0,s1,s2,s3,s4⟩:=hr5 _ HRES.out;clear hst hr5 hd ht;exact k42
  · have hbd:decide (y2≤b)=false:=by simp;omega
    obtain ⟨r0,r1,r2,r3,r4,s0,s1,s2,s3,s4⟩:=hr5 _ HRES.out;clear hst hr5;exact k42
theorem cs_use {X Y x0 y0 x1 y1:Nat} {o:Bool} (h:Cs X Y x0 y0 x1 y1 o) (h0:y0≠0):∃ R0 R1:Nat,R1<R0∧R0≤Y∧Nat.gcd R0 R1=Nat.gcd X Y ∧
  (o=true→x0*X≤y0*Y∧y0*Y-x0*X=R0∧y1*Y≤x1*X∧x1*X-y1*Y=R1)∧(o=false→y0*Y≤x0*X∧x0*X-y0*Y=R0∧x1*X≤y1*Y∧y1*Y-x1*X=R1):=by
 obtain ⟨k1,k2,k3,k4⟩:=h h0;obtain ⟨R0,e0⟩:∃ R:Nat,sg o*((y0:Int)*Y-x0*X)=(R:Int):=⟨(sg o*((y0:Int)*Y-x0*X)).toNat,om⟩
 obtain ⟨R1,e1⟩:∃ R:Nat,sg o*((x1:Int)*X-y1*Y)=(R:Int):=⟨(sg o*((x1:Int)*X-y1*Y)).toNat,om⟩
 have hg:=lehmer_gcd (sg_sq o) e0.symm e1.symm k4;rw [e0] at k2 k3;rw [e1] at k2;have c1:(y0:Int)*Y=((y0*Y:Nat):Int):=by simp
 have c2:(x0:Int)*X=((x0*X:Nat):Int):=by simp
 have c3:(x1:Int)*X=((x1*X:Nat):Int):=by simp
 have c4:(y1:Int)*Y=((y1*Y:Nat):Int):=by simp
 rw [c1,c2] at e0;rw [c3,c4] at e1;refine ⟨R0,R1,om,om,hg,fun ho=>?_,fun ho=>?_⟩
 · subst ho;simp only [sg,if_true] at e0 e1;refine ⟨om,om,om,om⟩
 · subst ho;simp only [sg,Bool.false_eq_true,if_false] at e0 e1;refine ⟨om,om,om,om⟩
def RetRd (W:World) (base X Y N:Nat) (e:Ending) (w:World):Prop :=
 ∃ A1 n1 c1 A2 n2 c2 R S,e=.returned (.tuple #[.slice A1 n1 c1,.slice A2 n2 c2])∧n1≤N∧n2≤N∧Ow w base A1 n1 c1 R∧Ow w base A2 n2 c2 S∧(∀ a b,A1=some a→A2=some b→a.block≠b.block)∧S≤R∧Nat.gcd R S=Nat.gcd X Y∧R+S<X+Y∧Below base W w
theorem Own.at_ {w w':World} {base:Nat} {v:Value} {n:Nat} {xs:List Value} (h:Own w base v n xs) (e:∀ g,v.ownBlock=some g→w'.heap[g]?=w.heap[g]?):Own w' base v n xs:=by
 refine ⟨h.1,?_⟩;rcases h.2 with hn | ⟨g,cap,cur,T,rfl,hb,hg,r⟩
 · exact .inl hn
 · exact .inr ⟨g,cap,cur,T,rfl,hb,(e g (by simp [Value.ownBlock])).trans hg,r⟩
theorem Ow.at_ {w w':World} {base:Nat} {A:Option Addr} {n c V:Nat} (h:Ow w base A n c V) (e:∀ g,Value.ownBlock (.slice A n c)=some g→w'.heap[g]?=w.heap[g]?):Ow w' base A n c V:=⟨h.own.at_ e,h.lt,h.top⟩
theorem certainSteps_at (gx ox gy oy N n cx cy X Y:Nat) (w:World) (hN:N=n+2) (hn:N≤100000000) (hX:Rd w .u64 (some ⟨gx,ox,none⟩) N (D B64 X)) (hY:Rd w .u64 (some ⟨gy,oy,none⟩) N (D B64 Y)) (hlt:X<B64^N) (htop:B64^(N-1)≤X) (hle:Y≤X) :
  Calls prog 224 #[.slice (some ⟨gx,ox,none⟩) N cx,.slice (some ⟨gy,oy,none⟩) N cy] w (RetSt w X Y):=by
 subst hN;exact certainSteps_any gx ox gy oy n cx cy X Y w om hX hY hlt htop hle
theorem divide_long_at (A B:Option Addr) (n M m2 c d X Y:Nat) (w:World) (hM:M=m2+2) (hn:n≤100000000) (hx:Nm w A n c X) (hy:Nm w B M d Y) (hle:Y≤X) :
  Calls prog 151 #[.slice A n c,.slice B M d] w (RetQRo w (X / Y) (X%Y) (n+1) M):=by
 subst hM;exact divide_long_own A B n m2 c d X Y w hn hx hy hle
theorem reduce_any (gx gy base n m c d X Y:Nat) (w:World) (hn:n≤100000000) (hm:2≤m) (hx:Ow w base (some ⟨gx,0,none⟩) n c X) (hy:Ow w base (some ⟨gy,0,none⟩) m d Y) (hle:Y≤X) (hne:gx≠gy) :
  Calls prog 207 #[.slice (some ⟨gx,0,none⟩) n c,.slice (some ⟨gy,0,none⟩) m d] w (RetRd w base X Y n):=by
 obtain ⟨i0,hi,hz0,hz1,hz2⟩:=info_parts natInfo;have hmn:m≤n:=Nm.le_len hx.nm.toNg hy.nm hle;obtain ⟨g1,e1,lX,pX,ncx,mcx,bx⟩:=hx.own.lies om
 injection e1 with e1
 injection e1 with e1
 subst e1;obtain ⟨g2,e2,lY,pY,ncy,mcy,by'⟩:=hy.own.lies om
 injection e2 with e2
 injection e2 with e2
 subst e2;have lgx:=lX.lt;have lgy:=lY.lt;have HX:=hid hx;have HY:=hid hy
 have hYm:B64≤Y:=by
  have h1:=hy.top om;have h2:B64^1≤B64^(m-1):=Nat.pow_le_pow_right B64_pos om;rw [Nat.pow_one] at h2;omega
 have HYM:=hid hYm;have HLE:=hid hle;have hbw:base≤w.heap.size:=om;clear hx hy lX pX lY pY hYm hle ncx mcx ncy mcy;go_enter Tryz.func207,Tryz.ntmps207;go_wp2
 go_loopw [1] (fun v wr=>∃ (k d' gb:Nat),k≤n∧m≤k∧v=.slice (some ⟨gb,0,none⟩) k d'∧Own wr base v k (nums .u64 (D B64 Y) k)∧gb≠gx∧gb<wr.heap.size∧Hid (wr.heap[gx]?=w.heap[gx]?)∧Below base w wr∧w.heap.size≤wr.heap.size) (fun v _=>match v with | .slice _ k _=>n-k | _=>0)
 case atStart=>exact ⟨m,d,gy,hmn,Nat.le_refl _,rfl,HY.out.own,Ne.symm hne,lgy,rfl,Below.refl _ _,Nat.le_refl _⟩
 case round =>
  obtain ⟨k,d',gb,hk,hmk,rfl,hown,hgb,hgl,HGX,hbl,hsz⟩:=hrel;by_cases hlt:k<n
  · have hD:D B64 Y k=0:=D_zero_of B64_pos HY.out.lt hmk;have hHD:=hid hD;have HBL:=hid hbl;clear hbl hD;go_wp2_with (at_builtin;refine wpList_append_Own _ rfl _ _ 131 rfl base 124 i0 (.int .u64 0) 8 Tryz.underlying131 hi hz0 hz1 hz2 rfl _ _ _ rfl (hown.alloc _) ⟨wr.heap.size,0,none⟩ 1 1 [.int .u64 0] rfl rfl om ?_ ?_ ?_ ?_ ?_ ?_)
    · intro q u hq;exact one_cell' q u hq rfl
    · intro u hu;simp at hu;subst hu;rfl
    · unfold maxLen;omega
    · omega
    · simp;omega
    intro v' w2 hown' hgrow hat;have hown2:Own w2 base v' (k+1) (nums .u64 (D B64 Y) (k+1)):=own_next' (d:=0) hown' hHD.out.symm;obtain ⟨A2,c2,hv2,hc2,hr2⟩:=hown2.rd;obtain ⟨gn,on,hA2,hgn,_⟩:=hr2 om;subst hA2;subst hv2
    have hon:on=0:=by
     obtain ⟨g9,e9,_⟩:=hown2.lies om
     injection e9 with e9
     injection e9
    subst hon;have hgx2:w2.heap[gx]?=w.heap[gx]?:=(hgrow.block gx (by simp;omega) (fun e=>by simp [Value.ownBlock] at e;omega)).trans ((Below.heap_alloc _ _ _ om).trans HGX.out)
    have hgn2:gn≠gx:=by
     rcases hat with h | h
     · simp [Value.ownBlock] at h;omega
     · simp [Value.ownBlock] at h;omega
    have hbl2:Below base w w2:=(HBL.out.alloc om _).trans (below_of_grown (g:=gb) hgrow (by simp;omega) (by
     obtain ⟨g9,e9,_,_,_,_,hb9⟩:=hown.lies om
     injection e9 with e9
     injection e9 with e9
     omega))
    have hs2:=hgrow.size;simp at hs2;have HG2:=hid hgx2;clear hgrow hown' hown hat hgx2 hr2;go_wp2
    go_roundw
    case rel=>exact ⟨k+1,c2,gn,om,om,rfl,hown2,hgn2,hgn,HG2.out,hbl2,om⟩
    case measure=>simp<;>omega
  · obtain rfl:k=n:=om;obtain ⟨g3,e3,lX,pX,ncx,mcx,_⟩:=HX.out.own.lies om
    injection e3 with e3
    injection e3 with e3
    subst e3;obtain ⟨g4,e4,lY,pY,ncy,mcy,hbg⟩:=hown.lies om
    injection e4 with e4
    injection e4 with e4
    subst e4;have HLX:=hid (lX.of_block HGX.out);have HPX:=hid (pX.of_block HGX.out);have HLY:=hid lY;have HPY:=hid pY;have HBL:=hid hbl;have HCS:=hid (certainSteps_at gx 0 gb 0 k (k-2) c d' X Y wr om hn HLX.out.rd HLY.out.rd HX.out.lt (HX.out.top om) HLE.out);have hYk:Y<B64^k:=Nat.lt_of_le_of_lt HLE.out HX.out.lt;have HYK:=hid hYk;have HOW:=hid hown;clear lX pX lY pY hbl hown hYk;go_wp2_with fail
    refine HCS.out.mono ?_;rintro e w1 ⟨x0,y0,x1,y1,o,rfl,b0,b1,b2,b3,hcs,hb1⟩;have hs1:=hb1.size;have hblk:∀ (V:World) (g:Nat),g<wr.heap.size→Below wr.heap.size w1 V→V.heap[g]?=wr.heap[g]?:=fun V g hg hV=>(hV.block g hg).trans (hb1.block g hg)
    have HBK:=hid hblk;have HCC:=hid hcs;have HB1:=hid hb1;clear hblk hcs hb1;obtain ⟨W,hW⟩:∃ W,W=w1.alloc (.cells #[.int .u64 (x0:Int),.int .u64 (y0:Int),.int .u64 (x1:Int),.int .u64 (y1:Int),.bool o] 207):=⟨_,rfl⟩
    have hbW:Below wr.heap.size w1 W:=by rw [hW];exact (Below.refl _ _).alloc hs1 _
    have hbX:=HBK.out W gx om hbW;have hbY:=HBK.out W gb hgl hbW;have hsW:wr.heap.size≤W.heap.size:=by rw [hW];simp;omega
    have hbb:Below base w W:=HBL.out.trans ((HB1.out.mono om).trans (hbW.mono om));obtain ⟨c0,c1,c2,c3,c4⟩:=(show St W w1.heap.size x0 y0 x1 y1 o by rw [hW];exact heap_alloc_new w1 _).cells;have HbX:=hid hbX;have HbY:=hid hbY;have Hbb:=hid hbb;have HW:=hid hW;have lXW:=HLX.out.of_block hbX;have lYW:=HLY.out.of_block hbY;have HXW:=hid lXW;have HYW:=hid lYW;clear hbW hbX hbY hbb hW lXW lYW;by_cases h0:y0=0
    · have h0b:((y0:Int)==0)=true:=by simp;omega
      have h0c:decide (y0=0)=true:=by simp;omega
      clear c0 c1 c2 c3 c4 h0 h0c;go_wp2_with fail
      rw [←HW.out];refine (trim_any (some ⟨gb,0,none⟩) k d' Y W om ⟨HYK.out,ncy,HYW.out.rd⟩).mono ?_;rintro e w2 ⟨kt,hkt,rfl,hnt,rfl⟩
      have hkt2:2≤kt:=by
       rcases Nat.lt_or_ge kt 2 with h | h
       · have h1:=hnt.lt;have h2:B64^kt≤B64^1:=Nat.pow_le_pow_right B64_pos om;have h3:=HYM.out;rw [Nat.pow_one] at h2;omega
       · exact h
      have HNT:=hid hnt;have HDV:=hid (divide_long_at (some ⟨gx,0,none⟩) (some ⟨gb,0,none⟩) k kt (kt-2) c d' X Y W om hn ⟨⟨HX.out.lt,ncx,HXW.out.rd⟩,HX.out.top⟩ hnt HLE.out);clear hnt;go_wp2_with fail
      refine HDV.out.mono ?_;rintro e w3 ⟨Aq,nq,cq,Ar,nr,cr,hnq,hnr,rfl,hmq,hmr,hb3,hfq,hfr,hor⟩;have HMR:=hid hmr;have HB3:=hid hb3;have HFR:=hid hfr;have HOR:=hid hor;clear hmq hmr hb3 hfq hfr hor;go_wp2
      go_ret2
      have hYp:0<Y:=by have:=HYM.out;have:=B64_eq;omega
      have hmod:=Nat.mod_lt X hYp;refine ⟨_,kt,d',Ar,nr,cr,Y,X%Y,rfl,hkt,om,?_,?_,?_,Nat.le_of_lt hmod,?_,?_,Hbb.out.trans (HB3.out.mono om)⟩
      · refine ⟨((HOW.out.take hkt).at_ fun g hg=>?_),HNT.out.lt,HNT.out.top⟩;simp [Value.ownBlock] at hg;subst hg;exact (HB3.out.block _ om).trans HbY.out
      · exact ⟨HOR.out.mono om,HMR.out.lt,HMR.out.top⟩
      · intro a b ha hb
        injection ha with ha
        subst ha;subst hb;have h9:=HFR.out b.block rfl;show gb≠b.block;omega
      · rw [Nat.gcd_comm,←Nat.gcd_rec,Nat.gcd_comm]
      · have:=HLE.out;omega
    · have h0b:((y0:Int)==0)=false:=by simp;omega
      have h0c:decide (y0=0)=false:=by simp;omega
      obtain ⟨R0,R1,k1,k2,k3,k4,k5⟩:=cs_use HCC.out h0;have hRb:R0<B64^k:=Nat.lt_of_le_of_lt k2 HYK.out;rcases o with _ | _
      · obtain ⟨j1,j2,j3,j4⟩:=k5 rfl;have HDF:=hid (differences_any base gx gb k c d' X Y x0 y0 y1 x1 W hn b0 b1 b3 b2 j1 j3 (by rw [j2];exact hRb) (by rw [j4];omega) HXW.out HYW.out (HPX.out.of_block HbX.out) (HPY.out.of_block HbY.out) ncx ncy mcx mcy (Ne.symm hgb) bx hbg);rw [j2,j4] at HDF;have HJ:=hid (And.intro k1 (And.intro k2 k3));clear j1 j2 j3 j4 k1 k2 k3 k4 k5 hRb;go_wp2_with fail
        rw [←HW.out];refine HDF.out.mono ?_;rintro e w3 ⟨kr,ks,hkr,hks,rfl,hor,hos,hb3⟩;have HOR:=hid (And.intro hor hos);have HB3:=hid hb3;clear hor hos hb3;go_wp2
        go_ret2
        have hj:=HJ.out;have hle:=HLE.out;exact ⟨_,kr,c,_,ks,d',R0,R1,rfl,hkr,hks,HOR.out.1,HOR.out.2,(fun a b ha hb=>by injection ha with ha;injection hb with hb;subst ha;subst hb;exact Ne.symm hgb),om,hj.2.2,om,Hbb.out.trans HB3.out⟩
      · obtain ⟨j1,j2,j3,j4⟩:=k4 rfl;have HDF:=hid (differences_any base gb gx k d' c Y X y0 x0 x1 y1 W hn b1 b0 b2 b3 j1 j3 (by rw [j2];exact hRb) (by rw [j4];omega) HYW.out HXW.out (HPY.out.of_block HbY.out) (HPX.out.of_block HbX.out) ncy ncx mcy mcx hgb hbg bx);rw [j2,j4] at HDF;have HJ:=hid (And.intro k1 (And.intro k2 k3));clear j1 j2 j3 j4 k1 k2 k3 k4 k5 hRb;go_wp2_with fail
        rw [←HW.out];refine HDF.out.mono ?_;rintro e w3 ⟨kr,ks,hkr,hks,rfl,hor,hos,hb3⟩;have HOR:=hid (And.intro hor hos);have HB3:=hid hb3;clear hor hos hb3;go_wp2
        go_ret2
        have hj:=HJ.out;have hle:=HLE.out;exact ⟨_,kr,d',_,ks,c,R0,R1,rfl,hkr,hks,HOR.out.1,HOR.out.2,(fun a b ha hb=>by injection ha with ha;injection hb with hb;subst ha;subst hb;exact hgb),om,hj.2.2,om,Hbb.out.trans HB3.out⟩
def sgP (b:Bool) (m:ByteArray):Int:=if m.size=0 then 0 else if b then -1 else 1
theorem sgP_enc {x:Int} {b:Bool} {m:ByteArray} (h:enc x=.agg #[.bool b,.string m]):sgP b m=x.sign:=by
 obtain ⟨rfl,rfl⟩:=enc_parts h;have hz:(mag x.natAbs).size=0↔x.natAbs=0:=mag_zero_iff;unfold sgP;rcases Int.lt_trichotomy x 0 with h | h | h
 · rw [Int.sign_eq_neg_one_of_neg h,if_neg (by rw [hz];omega),decide_eq_true h];rfl
 · subst h;rw [if_pos (hz.2 rfl)];rfl
 · rw [Int.sign_eq_one_of_pos h,if_neg (by rw [hz];omega),decide_eq_false om];rfl
theorem Sign_pair (b:Bool) (m:ByteArray) (w:World):Calls prog 127 #[.agg #[.bool b,.string m]] w (RetB w (.int .i64 (sgP b m))):=by
 by_cases h:0<m.size
 · have he:=empty_no h;have hv:sgP b m=if b then -1 else 1:=by unfold sgP;rw [if_neg om]
   rw [hv];clear hv;cases b
   all_goals
    go_enter Tryz.func127,Tryz.ntmps127;go_wp2
    go_ret
    exact ⟨rfl,(Below.refl _ _).alloc (Nat.le_refl _) _⟩
 · have he:=empty_yes h;have hv:sgP b m=0:=by unfold sgP;rw [if_pos om]
   rw [hv];clear hv;go_enter Tryz.func127,Tryz.ntmps127;go_wp2
   go_ret
   exact ⟨rfl,(Below.refl _ _).alloc (Nat.le_refl _) _⟩
theorem Sign_f {x:Int} {b:Bool} {m:ByteArray} (hx:enc x=.agg #[.bool b,.string m]) (w:World):Calls prog 127 #[.agg #[.bool b,.string m]] w (RetB w (.int .i64 x.sign)):=by
 rw [←sgP_enc hx];exact Sign_pair b m w
theorem lead_enc {x:Int} {b:Bool} {m:ByteArray} (h:enc x=.agg #[.bool b,.string m]):Lead m:=by
 obtain ⟨rfl,rfl⟩:=enc_parts h;exact lead_mag _
structure K2 (w:World) (T:TypeId) (v0 v1 v2 v3:Value) (w1:World):Prop where
 k0:w1.heap[w.heap.size]?=some (.cells #[v0,v1] T (0,0))
 k1:w1.heap[w.heap.size+1]?=some (.cells #[v2,v3] T (0,0))
 sz:w.heap.size+2≤w1.heap.size
 bel:Below w.heap.size w w1
theorem K2.start (w:World) (T:TypeId) (v0 v1 v2 v3:Value):K2 w T v0 v1 v2 v3 ((w.alloc (.cells #[v0,v1] T)).alloc (.cells #[v2,v3] T)) :=
 ⟨heap_fst _ _ _,heap_two _ _ _,by simp,((Below.refl _ _).alloc (Nat.le_refl _) _).alloc (by simp) _⟩
theorem K2.next {w:World} {T:TypeId} {v0 v1 v2 v3:Value} {w1 w2:World} (h:K2 w T v0 v1 v2 v3 w1) (hb:Below w1.heap.size w1 w2):K2 w T v0 v1 v2 v3 w2:=by
 have hs:=h.sz;refine ⟨(hb.block _ om).trans h.k0,(hb.block _ om).trans h.k1,?_,h.bel.trans (hb.mono h.bel.size)⟩;have:=hb.size;omega
theorem K2.drew {w:World} {T:TypeId} {v0 v1 v2 v3:Value} {w1:World} (h:K2 w T v0 v1 v2 v3 w1):K2 w T v0 v1 v2 v3 w1.drew:=h.next (Below.refl _ _).drew
theorem K2.zx {w:World} {T:TypeId} {b1 b2:Bool} {m1 m2:ByteArray} {w1:World} (h:K2 w T (.bool b1) (.string m1) (.bool b2) (.string m2) w1) :
  w1.cell? ⟨w.heap.size,0,none⟩=some (.bool b1)∧w1.cell? ⟨w.heap.size,1,none⟩=some (.string m1)∧w1.cell? ⟨w.heap.size+1,0,none⟩=some (.bool b2)∧w1.cell? ⟨w.heap.size+1,1,none⟩=some (.string m2) :=
 ⟨(blk_cells h.k0).1,(blk_cells h.k0).2.1,(blk_cells h.k1).1,(blk_cells h.k1).2.1⟩
theorem compareInt_lt {a b:Int} (h:a<b):Lib.compareInt a b=-1:=by unfold Lib.compareInt;rw [if_pos h]
theorem compareInt_gt {a b:Int} (h:b<a):Lib.compareInt a b=1:=by unfold Lib.compareInt;rw [if_neg om,if_pos h]
theorem Compare_f {x y:Int} {b1 b2:Bool} {m1 m2:ByteArray} (hx:enc x=.agg #[.bool b1,.string m1]) (hy:enc y=.agg #[.bool b2,.string m2]) (w:World) :
  Calls prog 139 #[.agg #[.bool b1,.string m1],.agg #[.bool b2,.string m2]] w (RetB w (.int .i64 (cmpZ x y))):=by
 have HS1:=hid (fun V=>Sign_f hx V);have HS2:=hid (fun V=>Sign_f hy V);have hm:=fun V=>cmpMag_any m1 m2 (lead_enc hx) (lead_enc hy) V
 have hdf:=cmpZ_diff (x:=x) (y:=y);have hsm:=cmpZ_same (x:=x) (y:=y);have hin:=cmpZ_in x y;have e1:bval m1=x.natAbs:=by rw [(enc_parts hx).2,bval_mag]
 have e2:bval m2=y.natAbs:=by rw [(enc_parts hy).2,bval_mag]
 rw [e1,e2] at hm;have HM:=hid hm;have K0:=hid (K2.start w 23 (.bool b1) (.string m1) (.bool b2) (.string m2));generalize cmpZ x y=r at *;generalize x.sign=sx at *;generalize y.sign=sy at *;generalize x.natAbs=X at *;generalize y.natAbs=Y at *;clear hm hx hy e1 e2;have hne1:¬(w.heap.size=w.heap.size+1):=om;have hne2:¬(w.heap.size+1=w.heap.size):=om;have hq:(sx != sy)=decide (sx≠sy):=by by_cases h:sx=sy<;>simp [h]
 have HQ:=hid hq;clear hq;by_cases hs:sx=sy
 all_goals
  have hq:=HQ.out;first
  | (rw [decide_eq_false (by simpa using hs)] at hq)
  | (rw [decide_eq_true hs] at hq)
  have HSS:=hid hs;have HDF:=hid hdf;have HSM:=hid hsm;clear hs hdf hsm;go_enter Tryz.func139,Tryz.ntmps139;go_wp2_with fail
  go_region_held3 (fun w'=>w'.cell? ⟨w.heap.size,0,none⟩=some (.bool b1)∧w'.cell? ⟨w.heap.size,1,none⟩=some (.string m1)∧w'.cell? ⟨w.heap.size+1,0,none⟩=some (.bool b2)∧w'.cell? ⟨w.heap.size+1,1,none⟩=some (.string m2))
   (first
    | go_keep
    | exact KB.out.zx
    | exact KA.out.zx)
   (first
    | (go_at_call 127;(with_reducible refine (HS1.out _).mono ?_);rintro e w1 ⟨rfl,hb1⟩;have KA:=hid (K0.out.drew.next hb1))
    | (go_at_call 127;(with_reducible refine (HS2.out _).mono ?_);rintro e w2 ⟨rfl,hb2⟩;have KB:=hid (KA.out.next hb2)))
 · obtain ⟨z0,z1,z2,z3⟩:=KB.out.zx;obtain ⟨o,ho⟩:∃ o,ord X Y=o:=⟨_,rfl⟩
   rw [ho] at HM;have hr:=HSM.out HSS.out;rw [ho] at hr;have hw1:IntKind.i64.wrap (sx*o)=r:=by rw [hr,Int.mul_comm];rw [hr] at hin;exact IntWalk.i64_in _ om
   have HR:=hid hr;clear hr ho hb1 hb2;go_wp2_with fail
   refine (HM.out _).mono ?_;rintro e w3 ⟨rfl,rfl⟩;go_wp2
   go_ret
   exact ⟨by first | rfl | (rw [hw1]),KB.out.bel⟩
 · have hr:=HDF.out HSS.out
   have hc:Lib.compareInt sx sy=r:=by
    rw [hr];by_cases h:sx<sy
    · rw [compareInt_lt h,if_pos h]
    · rw [compareInt_gt (by have:=HSS.out;omega),if_neg h]
   have HC:=hid (fun V=>Tryz.cmp_Compare_int sx sy V);have HCC:=hid hc;clear hr hc hb1 hb2;go_wp2_with fail
   refine (HC.out _).mono ?_;rintro e w3 ⟨rfl,rfl⟩;go_wp2
   go_ret
   exact ⟨congrArg (fun z=>Ending.returned (.int .i64 z)) HCC.out,KB.out.bel⟩
structure S2 (w:World) (b1 b2:Bool) (m1 m2:ByteArray) (wc:World):Prop where
 zx:Zi wc w.heap.size b1 m1
 zy:Zi wc (w.heap.size+1) b2 m2
 big:w.heap.size+2≤wc.heap.size
 bel:Below w.heap.size w wc
theorem S2.next {w w1 w2:World} {b1 b2:Bool} {m1 m2:ByteArray} (h:S2 w b1 b2 m1 m2 w1) (hb:Below w1.heap.size w1 w2):S2 w b1 b2 m1 m2 w2:=by
 have:=h.big;exact ⟨h.zx.below hb om,h.zy.below hb om,Nat.le_trans h.big hb.size,h.bel.trans (hb.mono h.bel.size)⟩
theorem S2.drew {w w1:World} {b1 b2:Bool} {m1 m2:ByteArray} (h:S2 w b1 b2 m1 m2 w1):S2 w b1 b2 m1 m2 w1.drew:=h.next (Below.refl _ _).drew
theorem S2.alloc {w w1:World} {b1 b2:Bool} {m1 m2:ByteArray} (h:S2 w b1 b2 m1 m2 w1) (o:Obj):S2 w b1 b2 m1 m2 (w1.alloc o):=h.next ((Below.refl _ _).alloc (Nat.le_refl _) _)
theorem S2.cells {w wc:World} {b1 b2:Bool} {m1 m2:ByteArray} (h:S2 w b1 b2 m1 m2 wc) :
 wc.cell? ⟨w.heap.size,0,none⟩=some (.bool b1)∧wc.cell? ⟨w.heap.size,1,none⟩=some (.string m1)∧wc.cell? ⟨w.heap.size+1,0,none⟩=some (.bool b2)∧wc.cell? ⟨w.heap.size+1,1,none⟩=some (.string m2):=⟨h.zx.c0,h.zx.c1,h.zy.c0,h.zy.c1⟩
def rt:Nat→Nat
 | 0=>0
 | n+1=>if (rt n+1)*(rt n+1)≤n+1 then rt n+1 else rt n
theorem sq_lt {a b:Nat} (h:a*a<b*b):a<b:=by
 rcases Nat.lt_or_ge a b with h1 | h1
 · exact h1
 · exact absurd (Nat.mul_le_mul h1 h1) om
theorem rt_spec (x:Nat):rt x*rt x≤x∧x<(rt x+1)*(rt x+1):=by
 induction x with
 | zero=>exact ⟨Nat.le_refl _,by decide⟩
 | succ n ih =>
   unfold rt
   split
   · refine ⟨by assumption,?_⟩
     have e:(rt n+1+1)*(rt n+1+1)=(rt n+1)*(rt n+1)+2*(rt n+1)+1:=by
      generalize rt n+1=a;rw [Nat.add_mul,Nat.mul_add];omega
     omega
   · omega
theorem rt_unique {x r:Nat} (h1:r*r≤x) (h2:x<(r+1)*(r+1)):rt x=r:=by
 obtain ⟨a1,a2⟩:=rt_spec x;have b1:=sq_lt (Nat.lt_of_le_of_lt a1 h2);have b2:=sq_lt (Nat.lt_of_le_of_lt h1 a2);omega
theorem rt_le {x G:Nat} (h:x<(G+1)*(G+1)):rt x≤G:=by
 have:=sq_lt (Nat.lt_of_le_of_lt (rt_spec x).1 h);omega
theorem newton_ge {x G:Nat} (h0:0<G):rt x≤(G+x / G) / 2:=by
 obtain ⟨h1,_⟩:=rt_spec x;generalize rt x=r at *
 have hq:x<G*(x / G+1):=by
  have:=Nat.div_add_mod x G;have:=Nat.mod_lt x h0;rw [Nat.mul_add];omega
 generalize x / G=q at *;rcases Nat.lt_or_ge (G+q) (2*r) with h | h
 · exfalso;rcases Nat.le_total G r with hg | hg
   · obtain ⟨d,rfl⟩:=Nat.le.dest hg;have a1:G*(q+1)≤G*(G+2*d):=Nat.mul_le_mul_left _ om
     have a2:(G+d)*(G+d)=G*(G+2*d)+d*d:=by
      rw [Nat.add_mul,Nat.mul_add,Nat.mul_add,Nat.mul_add,Nat.mul_comm d G,Nat.mul_left_comm G 2 d];omega
     omega
   · obtain ⟨d,rfl⟩:=Nat.le.dest hg;obtain ⟨k,rfl⟩:∃ k,r=d+k:=⟨r-d,om⟩
     have a1:(d+k+d)*(q+1)≤(d+k+d)*k:=Nat.mul_le_mul_left _ om
     have a2:(d+k)*(d+k)=(d+k+d)*k+d*d:=by
      simp only [Nat.add_mul,Nat.mul_add,Nat.mul_comm k d];omega
     omega
 · omega
theorem newton_stop {x G:Nat} (h0:0<G) (h1:rt x≤G) (h2:G≤(G+x / G) / 2):rt x=G:=by
 have a1:G≤x / G:=om
 have a2:G*G≤x:=by
  have:=Nat.div_mul_le_self x G;exact Nat.le_trans (Nat.mul_le_mul_right G a1) this
 have:=sq_lt (Nat.lt_of_le_of_lt a2 (rt_spec x).2);omega
theorem newton_bound {x G:Nat} (h0:0<G) (h1:rt x≤G):x / G≤G+2:=by
 have a1:=(rt_spec x).2;have a2:(rt x+1)*(rt x+1)≤(G+1)*(G+1):=Nat.mul_le_mul om om;have a3:(G+1)*(G+1)=G*(G+2)+1:=by simp only [Nat.add_mul,Nat.mul_add];omega
 have:x / G<G+3:=Nat.div_lt_of_lt_mul (by
  have:G*(G+3)=G*(G+2)+G:=by rw [←Nat.mul_succ]
  omega)
 omega
theorem rt_pos {x:Nat} (h:0<x):0<rt x:=by
 rcases Nat.eq_zero_or_pos (rt x) with h1 | h1
 · have:=(rt_spec x).2;rw [h1] at this;omega
 · exact h1
theorem wordRoot_any (x:Nat) (h0:0<x) (hx:x<18446744073709551616) (w:World) :
  Calls prog 181 #[.int .u64 (x:Int)] w (fun e w'=>e=.returned (.int .u64 ((rt x:Nat):Int))∧Drew w w'):=by
 obtain ⟨l1,l2,l3⟩:=bitLen_bounds x om hx;have l4:=Lib.bitLen_le x 64 om om;have hl:=fun V=>Tryz.bits_Len64 (x:Int) V om om
 simp only [Int.toNat_natCast] at hl;generalize Lib.bitLen x=L at *;have HL:=hid hl;clear hl;obtain ⟨s,hs⟩:∃ s,(L+1) / 2=s:=⟨_,rfl⟩
 have hs1:((L:Int)+1) / 2=(s:Int):=om
 have hst:x<2^s*2^s:=by
  rw [←Nat.pow_add];exact Nat.lt_of_lt_of_le l3 (Nat.pow_le_pow_right om om)
 have hs32:s≤32:=om;have hp32:2^s≤4294967296:=Nat.pow_le_pow_right (n:=2) om hs32;have hp0:0<2^s:=Nat.pow_pos om;have HST:=hid hst;clear hst l1 l2 l3 hs;go_enter Tryz.func181,Tryz.ntmps181;go_wp2_with fail
 refine (HL.out _).mono ?_;rintro e w1 ⟨rfl,rfl⟩;go_wp2_with fail
 have hw2:IntKind.u64.wrap ((2:Int)^s)=((2^s:Nat):Int):=by
  have e2:((2^s:Nat):Int)=(2:Int)^s:=by simp
  rw [←e2];exact IntWalk.u64_in _ om
 go_loopw [3] (fun m wr=>∃ G:Nat,m=.int .u64 (G:Int)∧rt x≤G∧0<G∧G≤4294967296∧Drew w1 wr) (fun m _=>(intOf m).toNat)
 case atStart =>
  exact ⟨2^s,by rw [hw2],rt_le (Nat.lt_trans HST.out (Nat.mul_lt_mul'' (Nat.lt_succ_self _) (Nat.lt_succ_self _))),hp0,hp32,Drew.refl _⟩
 case round =>
  obtain ⟨G,rfl,hG,hG0,hG32,hdr⟩:=hrel;have hb:=newton_bound hG0 hG;have hge:=newton_ge (x:=x) hG0;have hsp:=fun h=>newton_stop hG0 hG h
  have hdv:((x:Int) / (G:Int))=((x / G:Nat):Int):=by simp
  have hne:((G:Int)==0)=false:=by simp;omega
  obtain ⟨N,hN⟩:∃ N,(G+x / G) / 2=N:=⟨_,rfl⟩
  rw [hN] at hge hsp;have hN2:((G:Int)+((x / G:Nat):Int)) / 2=(N:Int):=by rw [←hN];omega
  have hNr:N≤4294967297:=om;have HSP:=hid hsp;have HGE:=hid hge;clear hsp hge hN;generalize x / G=Q at *;by_cases hst:G≤N
  · go_wp2_with fail
    go_ret
    exact ⟨by rw [HSP.out hst];rfl,hdr⟩
  · go_wp2
    go_roundw
    case rel =>
     have:=HGE.out;have:=rt_pos h0;exact ⟨N,by rw [hN2],HGE.out,om,om,hdr⟩
    case measure=>simp [intOf]<;>omega
theorem sq64:∀ q,q<64→144680414395695635 / 2^(q*q%64)%2=1:=by decide
theorem sq3:∀ q,q<3→3 / 2^(q*q%3)%2=1:=by decide
theorem sq5:∀ q,q<5→19 / 2^(q*q%5)%2=1:=by decide
theorem sq17:∀ q,q<17→107287 / 2^(q*q%17)%2=1:=by decide
theorem sq_mod (r m:Nat) (hm:0<m):r*r%m=(r%m)*(r%m)%m:=Nat.mul_mod r r m
theorem bit_and {a b:Nat} (ha:a%2=1) (hb:b%2=1):(a &&& b)%2=1:=by
 have h:=Nat.and_mod_two_pow (a:=a) (b:=b) (n:=1);rw [Nat.pow_one] at h;rw [h,ha,hb]
 rfl
def sumB (m:ByteArray):Nat→Nat
 | 0=>0
 | k+1=>sumB m k+(if h:k<m.size then (m[k]'h).toNat else 0)
theorem sumB_succ {m:ByteArray} {k:Nat} (h:k<m.size):sumB m (k+1)=sumB m k+(m[k]'h).toNat:=by
 show sumB m k+(if h:k<m.size then (m[k]'h).toNat else 0)=_;rw [dif_pos h]
theorem sumB_le (m:ByteArray):∀ k,k≤m.size→sumB m k≤255*k:=fun k=>by
 induction k with
 | zero=>exact fun _=>Nat.le_refl _
 | succ k ih =>
   intro hk;have:=ih om;have:=UInt8.toNat_lt (m[k]'(by omega));rw [sumB_succ om];omega
theorem sumB_mod (m:ByteArray):∀ k,k≤m.size→sumB m k%255=pre m k%255:=fun k=>by
 induction k with
 | zero=>exact fun _=>by rw [pre_zero];rfl
 | succ k ih =>
   intro hk;have:=ih om;rw [sumB_succ om,pre_succ m k om];omega
theorem mayBeSquare_any (m:ByteArray) (hm:m.size≤400000000):∃ v:Bool,(∀ r,bval m=r*r→v=true)∧∀ w,Calls prog 172 #[.string m] w (fun e w'=>e=.returned (.bool v)∧Drew w w'):=by
 by_cases h:0<m.size
 · have he:=empty_no h;have hidx:m.size-1<m.size:=om;obtain ⟨c,hc⟩:∃ c,(m[m.size-1]'hidx).toNat=c:=⟨_,rfl⟩
   have hc2:c<256:=by rw [←hc];exact UInt8.toNat_lt _
   have hcv:c=bval m%256:=by
    have h1:=dig_eq m 0;unfold dig D at h1;rw [dif_pos h,Nat.pow_zero,Nat.div_one] at h1;rw [←h1,←hc]
    rfl
   obtain ⟨f,hf⟩:∃ f,(bits .and .u64 ((144680414395695635:Int) / 2^(c%64)) 1==0)=f:=⟨_,rfl⟩
   cases f
   · refine ⟨(bits .and .u64 (bits .and .u64 (bits .and .u64 ((3:Int) / 2^(sumB m m.size%3)) (19 / 2^(sumB m m.size%5))) (107287 / 2^(sumB m m.size%17))) 1==1),?_,fun w=>?_⟩
     rotate_left 1
     · clear hcv hc2;go_enter Tryz.func172,Tryz.ntmps172;go_wp2_with fail
       go_loop [3,18] (fun v i=>∃ k:Nat,k≤m.size∧i=.int .i64 k∧v=.int .u64 (sumB m k:Nat)) (fun _ i=>m.size-(intOf i).toNat)
       case atStart=>exact ⟨0,om,rfl,rfl⟩
       case round =>
        obtain ⟨k,hk,rfl,rfl⟩:=hrel;by_cases hlt:k<m.size
        · have hsb:=sumB_le m k hk;have hss:=sumB_succ hlt;have hsl:=sumB_le m (k+1) hlt;generalize sumB m k=S at *;go_wp2
          go_round
          case rel=>exact ⟨k+1,om,by go_num,by rw [hss];first | go_num | rfl⟩
          case measure=>simp [intOf];omega
        · obtain rfl:k=m.size:=om;have hsb:=sumB_le m m.size (Nat.le_refl _);obtain ⟨S,hS⟩:∃ S,sumB m m.size=S:=⟨_,rfl⟩
          rw [hS] at hsb;rw [hS];go_wp2
          go_ret
          exact ⟨rfl,Drew.refl _⟩
     · intro r hr;have hS:=sumB_mod m m.size (Nat.le_refl _);rw [pre_all,hr] at hS;have a3:=sq3 (r%3) (Nat.mod_lt _ om);have a5:=sq5 (r%5) (Nat.mod_lt _ om);have a17:=sq17 (r%17) (Nat.mod_lt _ om);rw [←sq_mod r 3 om] at a3;rw [←sq_mod r 5 om] at a5;rw [←sq_mod r 17 om] at a17;generalize sumB m m.size=S at *;rw [show r*r%3=S%3 by omega] at a3;rw [show r*r%5=S%5 by omega] at a5;rw [show r*r%17=S%17 by omega] at a17;have l3:3 / 2^(S%3)≤3:=Nat.div_le_self _ _;have l5:19 / 2^(S%5)≤19:=Nat.div_le_self _ _;have l17:107287 / 2^(S%17)≤107287:=Nat.div_le_self _ _;have e3:(3:Int) / 2^(S%3)=((3 / 2^(S%3):Nat):Int):=by simp
       have e5:(19:Int) / 2^(S%5)=((19 / 2^(S%5):Nat):Int):=by simp
       have e17:(107287:Int) / 2^(S%17)=((107287 / 2^(S%17):Nat):Int):=by simp
       rw [e3,e5,e17];generalize 3 / 2^(S%3)=p at *;generalize 19 / 2^(S%5)=q at *;generalize 107287 / 2^(S%17)=t at *;have k1:p &&& q≤p:=Nat.and_le_left;have k2:p &&& q &&& t≤p &&& q:=Nat.and_le_left;have k3:=bit_and (bit_and a3 a5) a17;rw [bits_and_u64 _ _ om om,bits_and_u64 _ _ om om,show (1:Int)=((1:Nat):Int) from rfl,bits_and_u64 _ _ om om,Nat.and_one_is_mod,k3]
       rfl
   · refine ⟨false,fun r hr=>?_,fun w=>?_⟩
     · exfalso;have h2:=sq64 (r%64) (Nat.mod_lt _ om);rw [←sq_mod r 64 om,←hr] at h2;have h3:c%64=bval m%64:=om;rw [h3] at hf;have hle:144680414395695635 / 2^(bval m%64)≤144680414395695635:=Nat.div_le_self _ _;have e:(144680414395695635:Int) / 2^(bval m%64)=((144680414395695635 / 2^(bval m%64):Nat):Int):=by simp
       rw [e,show (1:Int)=((1:Nat):Int) from rfl,bits_and_u64 _ _ om om,Nat.and_one_is_mod,h2] at hf;cases hf
     · clear hcv hc2;go_enter Tryz.func172,Tryz.ntmps172;go_wp2
       go_ret
       exact ⟨rfl,Drew.refl _⟩
 · have he:=empty_yes h;refine ⟨true,fun _ _=>rfl,fun w=>?_⟩;go_enter Tryz.func172,Tryz.ntmps172;go_wp2
   go_ret
   exact ⟨rfl,Drew.refl _⟩
theorem divMod_any (na nb:Bool) (a b:ByteArray) (ha:a.size≤400000000) (hb:b.size≤400000000) (h0:bval b≠0) (w:World) :
  Calls prog 100 #[.agg #[.bool na,.string a],.agg #[.bool nb,.string b]] w (RetQ w (sgn na (bval a) / sgn nb (bval b)) (sgn na (bval a)%sgn nb (bval b)) 0):=by
 by_cases hs:8<a.size∨8<b.size
 · refine divMod_deep na nb a b ha hb 0 0 false (.inl rfl) (fun V=>words_no na nb a b hs V) w _ (fun h=>absurd h h0) (fun _ w' b1 m1 b2 m2 h1 h2 hw=>⟨?_,hw⟩);rw [h1.out,h2.out]
 · exact divMod_short na nb a b om om h0 w
section
variable {x y q r:Int} {b1 b2 b3 b4:Bool} {m1 m2 m3 m4:ByteArray} (hx:enc x=.agg #[.bool b1,.string m1]) (hy:enc y=.agg #[.bool b2,.string m2]) (s1:m1.size≤400000000) (s2:m2.size≤400000000)
include hx hy s1 s2 in
theorem divMod_f (h0:y≠0) (hq:enc q=.agg #[.bool b3,.string m3]) (hr:enc r=.agg #[.bool b4,.string m4]) (e1:q=x / y) (e2:r=x%y) (w:World) :
  Calls prog 100 #[.agg #[.bool b1,.string m1],.agg #[.bool b2,.string m2]] w (RetB w (.tuple #[.agg #[.bool b3,.string m3],.agg #[.bool b4,.string m4],.int .i64 0])):=by
 subst e1;subst e2;have hb:bval m2≠0:=fun h=>h0 (by rw [←enc_sgn hy,h];cases b2<;>rfl)
 have h:=divMod_any b1 b2 m1 m2 s1 s2 hb w;rw [enc_sgn hx,enc_sgn hy] at h;unfold RetQ at h;rw [hq,hr] at h;exact h
include hy s1 s2 in
end
theorem Dg.other {w:World} {K:IntKind} {b:Nat} {A:Option Addr} {n V g:Nat} (h:Dg w K b A n V) (hA:∀ a,A=some a→a.block≠g) (i:Nat) (v:Value):Dg (w.setCell ⟨g,i,none⟩ v) K b A n V:=⟨h.lt,fun hn=>by
 obtain ⟨g',o,e,hg,hc⟩:=h.rd hn;refine ⟨g',o,e,by simpa [World.setCell] using hg,fun j hj=>?_⟩;exact (World.cell?_of_block (w:=w) (Below.heap_setCell w ⟨g,i,none⟩ v g' (by have:=hA _ e;exact this))).trans (hc j hj)⟩
structure B4 (w:World) (T:TypeId) (v0 v1 v2 v3 q0 q1 r0 r1:Value) (w1:World):Prop where
 k0:w1.heap[w.heap.size]?=some (.cells #[v0,v1] T (0,0))
 k1:w1.heap[w.heap.size+1]?=some (.cells #[v2,v3] T (0,0))
 k2:w1.heap[w.heap.size+2]?=some (.cells #[q0,q1] T (0,0))
 k3:w1.heap[w.heap.size+3]?=some (.cells #[r0,r1] T (0,0))
 sz:w.heap.size+4≤w1.heap.size
 bel:Below w.heap.size w w1
section
variable {w w1 w2:World} {T:TypeId} {v0 v1 v2 v3 q0 q1 r0 r1:Value}
theorem B4.start (w:World) (T:TypeId) (v0 v1 v2 v3:Value):B4 w T v0 v1 v2 v3 (.bool false) (.string ⟨#[]⟩) (.bool false) (.string ⟨#[]⟩) ((((w.alloc (.cells #[v0,v1] T)).alloc (.cells #[v2,v3] T)).alloc (.cells #[.bool false,.string ⟨#[]⟩] T)).alloc (.cells #[.bool false,.string ⟨#[]⟩] T)):=by
 have h:=K4.start w T v0 v1 v2 v3;exact ⟨h.k0,h.k1,h.k2,h.k3,h.sz,h.bel⟩
theorem B4.next (h:B4 w T v0 v1 v2 v3 q0 q1 r0 r1 w1) (hb:Below w1.heap.size w1 w2):B4 w T v0 v1 v2 v3 q0 q1 r0 r1 w2:=by
 have hs:=h.sz;refine ⟨(hb.block _ om).trans h.k0,(hb.block _ om).trans h.k1,(hb.block _ om).trans h.k2,(hb.block _ om).trans h.k3,?_,h.bel.trans (hb.mono h.bel.size)⟩;have:=hb.size;omega
end
theorem bit_next (T i:Nat):T / 2^i=2*(T / 2^(i+1))∨T / 2^i=2*(T / 2^(i+1))+1:=by
 have h:T / 2^(i+1)=T / 2^i / 2:=by rw [Nat.pow_succ,Nat.div_div_eq_div_mul]
 omega
theorem bit_fits {T i:Nat}:2*(T / 2^(i+1))*2^i+2^i≤T↔T / 2^i=2*(T / 2^(i+1))+1:=by
 have hp:0<(2:Nat)^i:=Nat.pow_pos dc;have e:2*(T / 2^(i+1))*2^i+2^i=(2*(T / 2^(i+1))+1)*2^i:=by rw [Nat.add_mul,Nat.one_mul]
 rw [e,←Nat.le_div_iff_mul_le hp];rcases bit_next T i with h | h<;>omega
theorem set_wordN {p Q:Nat} (hp:p<8):(2^p*(2*Q)+2^p) / 256=2^p*(2*Q) / 256∧(2^p*(2*Q)+2^p)%256=2^p*(2*Q)%256+2^p:=by
 have:p=0∨p=1∨p=2∨p=3∨p=4∨p=5∨p=6∨p=7:=om;rcases this with rfl | rfl | rfl | rfl | rfl | rfl | rfl | rfl<;>(simp only [Nat.reducePow];omega)
theorem set_bitN (Q i j:Nat):D 256 (2*Q*2^i+2^i) j=if j=i / 8 then D 256 (2*Q*2^i) j+2^(i%8) else D 256 (2*Q*2^i) j:=by
 have hP:0<256^(i / 8):=Nat.pow_pos om
 have e:2^i=256^(i / 8)*2^(i%8):=by
  have e:(256:Nat)^(i / 8)=2^(8*(i / 8)):=by rw [Nat.pow_mul]
  rw [e,←Nat.pow_add]
  congr 1
  omega
 obtain ⟨w1,w2⟩:=set_wordN (Q:=Q) (Nat.mod_lt i (show 0<8 by omega));have e1:2*Q*2^i=256^(i / 8)*(2^(i%8)*(2*Q)):=by rw [e];ac_rfl
 have e2:2*Q*2^i+2^i=256^(i / 8)*(2^(i%8)*(2*Q)+2^(i%8)):=by rw [e1,Nat.mul_add,←e]
 rw [e1,e2] at *;generalize 2^(i%8)*(2*Q)+2^(i%8)=V' at *;generalize 2^(i%8)*(2*Q)=V at *;generalize 2^(i%8)=t at *;generalize i / 8=a at *;rcases Nat.lt_trichotomy j a with h | h | h
 · rw [if_neg om];have h1:=D_low (b:=256) (P:=0) (Z:=V') (k:=a) om h;have h2:=D_low (b:=256) (P:=0) (Z:=V) (k:=a) om h;rw [Nat.zero_add] at h1 h2;rw [h1,h2]
 · subst h;rw [if_pos rfl];unfold D;rw [Nat.mul_div_cancel_left _ hP,Nat.mul_div_cancel_left _ hP];exact w2
 · rw [if_neg om,D_high (k:=a) om,D_high (P:=256^a*V) (k:=a) om,Nat.mul_div_cancel_left _ hP,Nat.mul_div_cancel_left _ hP];obtain ⟨d,hd⟩:∃ d,j-a=d+1:=⟨j-a-1,om⟩
   rw [hd];unfold D;rw [Nat.pow_succ',←Nat.div_div_eq_div_mul,←Nat.div_div_eq_div_mul,w1]
theorem sq_le_rt {V m:Nat}:m*m≤V↔m≤rt V:=by
 have h1:=rt_spec V;constructor
 · intro h;rcases Nat.lt_or_ge (rt V) m with h2 | h2
   · have h3:=Nat.mul_le_mul (show rt V+1≤m from h2) (show rt V+1≤m from h2);omega
   · exact h2
 · intro h;exact Nat.le_trans (Nat.mul_le_mul h h) h1.1
theorem rt_room {V n:Nat} (h:V<256^n):rt V<256^((n+1) / 2):=by
 rcases Nat.lt_or_ge (rt V) (256^((n+1) / 2)) with h1 | h1
 · exact h1
 · exfalso;have h2:=Nat.mul_le_mul h1 h1;have h3:=(rt_spec V).1
   have h4:(256:Nat)^n≤256^((n+1) / 2)*256^((n+1) / 2):=by
    rw [←Nat.pow_add];exact Nat.pow_le_pow_right dc om
   omega
theorem set_i64 {u p:Nat} (hu:u<256) (hp:p<8):IntKind.i64.wrap ((u:Int)+IntKind.i64.wrap ((2:Int)^p))=((u+2^p:Nat):Int):=by
 have:p=0∨p=1∨p=2∨p=3∨p=4∨p=5∨p=6∨p=7:=om;rcases this with rfl | rfl | rfl | rfl | rfl | rfl | rfl | rfl<;>(rw [IntWalk.i64_in (2^_) om,IntWalk.i64_in _ om];omega)
theorem unset_i64 {u p z:Nat} (hu:u<256) (hp:p<8) (h:u+2^p=z):wrap64 ((z:Int)-wrap64 ((2:Int)^p))=(u:Int):=by
 have:p=0∨p=1∨p=2∨p=3∨p=4∨p=5∨p=6∨p=7:=om;rcases this with rfl | rfl | rfl | rfl | rfl | rfl | rfl | rfl<;>(rw [IntWalk.wrap64_in (2^_) om,IntWalk.wrap64_in _ om];omega)
theorem refSqrt_any (b:Bool) (s:ByteArray) (w:World) (hs:s.size≤100000) :
  Calls prog 104 #[.agg #[.bool b,.string s]] w (RetZ w ((rt (bval s):Nat):Int)):=by
 have HU:=hid (fun V=>digits_any b s V om);have hmk:=fun (N:Nat) (hN:N≤100000) W=>run_make_row' (P:=prog) 102 3 (.int .i64 0) 8 Tryz.underlying102 intTy_info rfl .i64 .i64 N om om W
 obtain ⟨V,hV⟩:∃ V,bval s=V:=⟨_,rfl⟩
 obtain ⟨T,hT⟩:∃ T,rt V=T:=⟨_,rfl⟩
 rw [hV] at HU ⊢;rw [hT];go_enter Tryz.func104,Tryz.ntmps104;go_wp2_with fail
 refine (HU.out _).mono ?_;rintro e w1 ⟨A,n,c,hn,rfl,hd,hb⟩;have HK:=hid ((hb.block (w.heap.size+1) (by simp)).trans (heap_two w (.cells #[.bool b,.string s] 23) (.cells #[.bool false,.string ⟨#[]⟩] 23)));have hs1:w.heap.size+2≤w1.heap.size:=by have:=hb.size;simpa using this
 have HB:=hid ((((Below.refl w.heap.size w).alloc (Nat.le_refl _) (.cells #[.bool b,.string s] 23)).alloc (by simp) (.cells #[.bool false,.string ⟨#[]⟩] 23)).trans (hb.mono sm));have HD:=hid hd;have HS1:=hid hs1;obtain ⟨N,hN⟩:∃ N,N=(n+1) / 2:=⟨_,rfl⟩
 have hTN:T<256^N:=by rw [←hT,hN];exact rt_room HD.out.lt
 have HTN:=hid hTN;have HT:=hid hT;have hN1:N≤100000:=om;have hmk2:=hmk N hN1;have e1:IntKind.i64.wrap ((n:Int)+1)=(n:Int)+1:=IntWalk.i64_in _ om;have e2:((n:Int)+1) / 2=(N:Int):=om;clear hd hb hs1 hTN hT hV hmk hN HU;go_wp2
 clear e1 e2 hmk2;go_loopw [5] (fun iv wr=>∃ k:Nat,k≤8*N∧iv=.int .i64 ((k:Int)-1)∧wr.rowIs w1.heap.size 3 N (fun j=>.int .i64 (D 256 (T / 2^k*2^k) j:Int))∧Below w1.heap.size w1 wr) (fun iv _=>(intOf iv+1).toNat)
 case atStart =>
  refine ⟨8*N,Nat.le_refl _,?_,(World.rowIs_made w1 (.int .i64 0) N 3).congr fun j hj=>?_,(Below.refl _ _).alloc (Nat.le_refl _) _⟩
  · congr 1
    have h1:IntKind.i64.wrap ((N:Int)*8)=(N:Int)*8:=IntWalk.i64_in _ om;have h2:IntKind.i64.wrap ((N:Int)*8-1)=(N:Int)*8-1:=IntWalk.i64_in _ om;first | omega | (rw [h1,h2];omega)
  · have hz : T / 2 ^ (8 * N) = 0 := by
     apply Nat.div_eq_of_lt;have h1:=HTN.out;rw [show (256:Nat)^N=2^(8*N) by rw [Nat.pow_mul]] at h1;exact h1
    rw [hz];simp [D]
 case round =>
  obtain ⟨k,hk,rfl,hrow,hbl⟩:=hrel;rcases k with _ | i
  · have e:(((0:Nat):Int)-1)=-1:=rfl;rw [e];clear e;rw [Nat.pow_zero,Nat.mul_one,Nat.div_one] at hrow;have HROW:=hid hrow;have HBL:=hid hbl;clear hrow hbl;go_wp2_with fail
    refine (number_any false (some ⟨w1.heap.size,0,none⟩) N N T wr om ⟨HTN.out,fun _=>⟨_,0,rfl,HROW.out.lt,fun j hj=>by rw [Nat.zero_add];exact HROW.out.cell hj⟩⟩).mono ?_;rintro e w5 ⟨rfl,hb5⟩;have hall:=HBL.out.trans (hb5.mono HBL.out.size);have h1:=HS1.out;obtain ⟨p0,p1,g0,g1⟩:=res2 (g:=w.heap.size+1) HK.out hall om;obtain ⟨bz,mz,hbm⟩:=enc_form (sgn false T);rw [hbm];have HBM:=hid hbm;have HAL:=hid (HB.out.trans (hall.mono om));clear hbm hall hb5 h1;go_wp2
    exact bodyPost_ret (v:=.agg #[.bool bz,.string mz]) (by simp [results,Tryz.results104,go_sem,p0,p1]) rfl ⟨by rw [←HBM.out];rfl,(HAL.out.setCell (by show w.heap.size≤w.heap.size+1;omega) _).setCell (by show w.heap.size≤w.heap.size+1;omega) _⟩
  · have e:(((i+1:Nat):Int)-1)=(i:Int):=om;rw [e];clear e;obtain ⟨Q,hQ⟩:∃ Q,T / 2^(i+1)=Q:=⟨_,rfl⟩
    rw [hQ,show Q*2^(i+1)=2*Q*2^i by rw [Nat.pow_succ];ac_rfl] at hrow;have hfit:=bit_fits (T:=T) (i:=i);have hnext:=bit_next T i;rw [hQ] at hfit hnext;obtain ⟨q,hq⟩:∃ q,i / 8=q:=⟨_,rfl⟩
    obtain ⟨p,hp⟩:∃ p,i%8=p:=⟨_,rfl⟩
    have hq1:(i:Int) / 8=(q:Int):=om;have hp1:(i:Int)%8=(p:Int):=om;have hq2:q<N:=om;have hp2:p<8:=om;have i0:(0:Int)≤(i:Int):=om;have i1:(i:Int)≤8000000:=om;have i2:IntKind.i64.wrap (q:Int)=(q:Int):=IntWalk.i64_in _ om;have i3:(i:Int).tmod 8=(p:Int):=by rw [Int.tmod_eq_emod_of_nonneg om];exact hp1
    have i4:(0:Int)≤(q:Int):=om;have i5:(q:Int)<(N:Int):=om;have hsb:=set_bitN Q i;rw [hq,hp] at hsb
    have hR:2*Q*2^i+2^i<256^N:=by
     have h1:=HTN.out;rw [show (256:Nat)^N=2^(8*N) by rw [Nat.pow_mul]] at h1 ⊢;have h2:2^(8*N)=2^(8*N-(i+1))*2^(i+1):=by rw [←Nat.pow_add];congr 1;omega
     have h3:Q<2^(8*N-(i+1)):=by
      rw [←hQ];apply (Nat.div_lt_iff_lt_mul (Nat.pow_pos dc)).2;rw [←h2];exact h1
     have h4:=Nat.mul_le_mul_right (2^(i+1)) (show Q+1≤_ from h3);rw [←h2] at h4;have h5:0<(2:Nat)^i:=Nat.pow_pos dc;have h6:(Q+1)*2^(i+1)=2*Q*2^i+2*2^i:=by rw [Nat.pow_succ,Nat.add_mul,Nat.one_mul];congr 1<;>ac_rfl
     omega
    have hqc:=hrow.cell (i:=q) hq2;have hqf:=hrow.frozen q;obtain ⟨u,hu⟩:∃ u,D 256 (2*Q*2^i) q=u:=⟨_,rfl⟩
    rw [hu] at hqc;have hul:u<256:=by rw [←hu];exact D_lt om _ _
    obtain ⟨M,hM⟩:∃ M,2*Q*2^i+2^i=M:=⟨_,rfl⟩
    obtain ⟨M0,hM0⟩:∃ M0,2*Q*2^i=M0:=⟨_,rfl⟩
    rw [hM,hM0] at hsb;rw [hM] at hR hfit;rw [hM0] at hrow hu;have hq0:T / 2^(i+1)*2^(i+1)=M0:=by rw [hQ,←hM0,Nat.pow_succ];ac_rfl
    have hnx:(M≤T→T / 2^i*2^i=M)∧(¬M≤T→T / 2^i*2^i=M0):=by
     constructor
     · intro h;rw [hfit.1 h,←hM,Nat.add_mul,Nat.one_mul]
     · intro h;rcases hnext with h1 | h1
       · rw [h1,←hM0]
       · exact absurd (hfit.2 h1) h
    have HNX:=hid hnx;have HSB:=hid hsb;have HR:=hid hR;have HROW:=hid hrow;have HBL:=hid hbl;have HU:=hid hu;have HUL:=hid (And.intro hul hp2);clear hnx hsb hR hrow hbl hu hfit hnext hQ hM hM0 hq0 hq hp;go_wp2_with fail
    go_region_law (fail)
    have hv:=set_i64 HUL.out.1 HUL.out.2;obtain ⟨z,hz⟩:∃ z:Nat,u+2^p=z:=⟨_,rfl⟩
    rw [hz] at hv;obtain ⟨W2,hW⟩:∃ W2,W2=(wr.setCell ⟨w1.heap.size,q,none⟩ (.int .i64 (IntKind.i64.wrap ((u:Int)+IntKind.i64.wrap (2^p))))).drew:=⟨_,rfl⟩
    rw [←hW]
    have hrow2:W2.rowIs w1.heap.size 3 N (fun j=>.int .i64 (D 256 M j:Int)):=by
     rw [hW];refine ((HROW.out.set q _).congr fun j hj=>?_).drew;show (if j=q then (Value.int .i64 (IntKind.i64.wrap ((u:Int)+IntKind.i64.wrap ((2:Int)^p)))) else _)=Value.int .i64 _;rw [hv,HSB.out];by_cases e:j=q
     · rw [if_pos e,if_pos e,e,HU.out,hz]
     · rw [if_neg e,if_neg e]
    have hbl2:Below w1.heap.size w1 W2:=by rw [hW];exact (HBL.out.setCell (by show w1.heap.size≤w1.heap.size;omega) _).drew
    have HV:=hid (And.intro hv hz);have HROW2:=hid hrow2;have HBL2:=hid hbl2;have HDG:=hid (show Dg W2 .i64 256 (some ⟨w1.heap.size,0,none⟩) N M from ⟨HR.out,fun _=>⟨_,0,rfl,HROW2.out.lt,fun j hj=>by rw [Nat.zero_add];exact HROW2.out.cell hj⟩⟩);clear hv hz hrow2 hbl2 hW hqc hqf HBL;go_wp2_with fail
    refine (product_any _ _ N N N N M M W2 om om HDG.out HDG.out).mono ?_;rintro e w3 ⟨A3,n3,c3,hn3,rfl,hd3,hb3⟩;have HD3:=hid hd3;have HROW3:=hid (HROW2.out.of_block (hb3.block _ HROW2.out.lt));have HBL3:=hid (HBL2.out.trans (hb3.mono HBL2.out.size));have HDX:=hid (HD.out.below HBL3.out);clear hd3 hb3 HROW2 HBL2 HDG;have HOR:=hid (order_anyN A3 A n3 n c3 c (M*M) V w3 om om HD3.out HDX.out);by_cases hle:M≤T
    · have ho : ¬ 0 < ord (M * M) V := by
       have h1:=sq_le_rt.2 (show M≤rt V by rw [HT.out];exact hle);unfold ord
       split
       · omega
       · rw [if_neg om];omega
      have HLE:=hid hle;obtain ⟨o,ho2⟩:∃ o,ord (M*M) V=o:=⟨_,rfl⟩
      rw [ho2] at ho HOR;have ho3:o≤0:=om;clear hle ho2;go_wp2_with fail
      refine HOR.out.mono ?_;rintro e w4 ⟨rfl,rfl⟩;go_wp2
      go_roundw
      case rel =>
       exact ⟨i,om,rfl,by rw [HNX.out.1 HLE.out];exact HROW3.out,HBL3.out⟩
      case measure=>simp [intOf]<;>omega
    · have ho : 0 < ord (M * M) V := by
       have h1:¬M*M≤V:=fun h=>hle (by rw [←HT.out];exact sq_le_rt.1 h)
       rw [ord_gt om];omega
      have HLE:=hid hle;obtain ⟨o,ho2⟩:∃ o,ord (M*M) V=o:=⟨_,rfl⟩
      rw [ho2] at ho HOR;clear hle ho2;have hqc:=HROW3.out.cell (i:=q) hq2;have hqf:=HROW3.out.frozen q;have hMq:D 256 M q=z:=by rw [HSB.out,if_pos rfl,HU.out];exact HV.out.2
      rw [hMq] at hqc;have HMQ:=hid hMq;clear hMq;go_wp2_with fail
      refine HOR.out.mono ?_;rintro e w4 ⟨rfl,rfl⟩;go_wp2_with fail
      go_region_law (fail)
      go_wp2
      go_roundw
      case rel =>
       refine ⟨i,om,rfl,?_,(HBL3.out.setCell (by show w1.heap.size≤w1.heap.size;omega) _).drew⟩;rw [HNX.out.2 HLE.out];refine ((HROW3.out.set q _).congr fun j hj=>?_).drew;have hv2:=unset_i64 HUL.out.1 HUL.out.2 HV.out.2;show (if j=q then (Value.int .i64 (wrap64 ((z:Int)-wrap64 ((2:Int)^p)))) else _)=Value.int .i64 _;rw [hv2];by_cases e:j=q
       · rw [if_pos e,e,HU.out]
       · rw [if_neg e,HSB.out,if_neg e]
      case measure=>simp [intOf]<;>omega
end Go.Proofs.YtpnokfgplnmjpaaGreatDoor
