import Derived.Test.YtdbhahiieokplaaGreatDoorGGcC
import Derived.Outline
set_option linter.unusedSimpArgs false
set_option linter.unusedVariables false

namespace Go.Proofs.YtdbhahiieokplaaGreatDoor
open Go.RowKit
attribute [local go_sem ↓] Go.wp_at_zero Go.wp_at_succ

theorem lead_word {X n s:Nat} (hs:s≤63) (hX:X*2^s<B64^(n+2)) :
  D B64 X (n+1)*2^s%B64 ||| D B64 X n / 2^(64-s)=X / (2^(64-s)*B64^n)∧X / (2^(64-s)*B64^n)<B64:=by
 have hp0:0<2^s:=Nat.pow_pos (by omega)
 have hq0:0<2^(64-s):=Nat.pow_pos (by omega)
 have eb:=B64_two s (by omega)
 have h1:=div_D B64 X n
 have h2:=div_D B64 X (n+1)
 have hXl:X<B64^(n+2):=Nat.lt_of_le_of_lt (Nat.le_mul_of_pos_right X hp0) hX
 rw [Nat.div_eq_of_lt hXl,Nat.mul_zero,Nat.zero_add] at h2
 rw [h2] at h1
 have hl:D B64 X n / 2^(64-s)<2^s:=Nat.div_lt_of_lt_mul (by rw [Nat.mul_comm,←eb,B64_eq];exact D64_lt X n)
 have hX2:X / (2^(64-s)*B64^n)=2^s*D B64 X (n+1)+D B64 X n / 2^(64-s):=by
  rw [Nat.mul_comm (2^(64-s)),←Nat.div_div_eq_div_mul,h1]
  have e3:B64*D B64 X (n+1)=2^(64-s)*(2^s*D B64 X (n+1)):=by rw [←Nat.mul_assoc,Nat.mul_comm (2^(64-s)),←eb]
  rw [e3,Nat.mul_add_div hq0]
 have hlt:X / (2^(64-s)*B64^n)<B64:=by
  apply Nat.div_lt_of_lt_mul
  have e:2^(64-s)*B64^n*B64*2^s=B64^(n+2):=by
   have:2^(64-s)*B64^n*B64*2^s=2^s*2^(64-s)*B64^n*B64:=by ac_rfl
   rw [this,←eb,Nat.mul_comm B64 (B64^n),←Nat.pow_succ,←Nat.pow_succ]
  rw [←e] at hX
  exact Nat.lt_of_mul_lt_mul_right hX
 have hor:=(or_sum (x:=D B64 X (n+1)) hl (by omega)).1
 refine ⟨?_,hlt⟩
 rw [Nat.or_comm,hor,hX2]
 have h9:D B64 X (n+1)*2^s<B64:=by
  rw [hX2,Nat.mul_comm] at hlt
  exact Nat.lt_of_le_of_lt (Nat.le_add_right _ _) hlt
 rw [Nat.mod_eq_of_lt h9,Nat.mul_comm,Nat.add_comm]

def St (w:World) (g x0 y0 x1 y1:Nat) (o:Bool):Prop:=w.heap[g]?=some (.cells #[.int .u64 (x0:Int),.int .u64 (y0:Int),.int .u64 (x1:Int),.int .u64 (y1:Int),.bool o] 207 (0,0))

section
variable {w w':World} {g x0 y0 x1 y1:Nat} {o:Bool}
theorem St.cells (h:St w g x0 y0 x1 y1 o):w.cell? ⟨g,0,none⟩=some (.int .u64 (x0:Int))∧w.cell? ⟨g,1,none⟩=some (.int .u64 (y0:Int))∧w.cell? ⟨g,2,none⟩=some (.int .u64 (x1:Int)) ∧
  w.cell? ⟨g,3,none⟩=some (.int .u64 (y1:Int))∧w.cell? ⟨g,4,none⟩=some (.bool o):=by
 unfold St at h
 refine ⟨?_,?_,?_,?_,?_⟩<;>simp [World.cell?,h]
theorem St.frozen (h:St w g x0 y0 x1 y1 o) (i:Nat):w.frozen? ⟨g,i,none⟩=false:=by
 unfold St at h
 simp [World.frozen?,h]
theorem St.set0 (h:St w g x0 y0 x1 y1 o) (v:Nat):St (w.setCell ⟨g,0,none⟩ (.int .u64 (v:Int))) g v y0 x1 y1 o:=by
 unfold St at h ⊢
 simp [World.setCell,Array.getElem?_modify,h]
theorem St.set1 (h:St w g x0 y0 x1 y1 o) (v:Nat):St (w.setCell ⟨g,1,none⟩ (.int .u64 (v:Int))) g x0 v x1 y1 o:=by
 unfold St at h ⊢
 simp [World.setCell,Array.getElem?_modify,h]
theorem St.set2 (h:St w g x0 y0 x1 y1 o) (v:Nat):St (w.setCell ⟨g,2,none⟩ (.int .u64 (v:Int))) g x0 y0 v y1 o:=by
 unfold St at h ⊢
 simp [World.setCell,Array.getElem?_modify,h]
theorem St.set3 (h:St w g x0 y0 x1 y1 o) (v:Nat):St (w.setCell ⟨g,3,none⟩ (.int .u64 (v:Int))) g x0 y0 x1 v o:=by
 unfold St at h ⊢
 simp [World.setCell,Array.getElem?_modify,h]
theorem St.set4 (h:St w g x0 y0 x1 y1 o) (v:Bool):St (w.setCell ⟨g,4,none⟩ (.bool v)) g x0 y0 x1 y1 v:=by
 unfold St at h ⊢
 simp [World.setCell,Array.getElem?_modify,h]
theorem St.of_block (h:St w g x0 y0 x1 y1 o) (e:w'.heap[g]?=w.heap[g]?):St w' g x0 y0 x1 y1 o:=e.trans h
theorem St.lt (h:St w g x0 y0 x1 y1 o):g<w.heap.size:=(Array.getElem?_eq_some_iff.1 h).1
end

def Cs (X Y x0 y0 x1 y1:Nat) (o:Bool):Prop:=y0≠0→0≤sg o*((x1:Int)*X-y1*Y)∧sg o*((x1:Int)*X-y1*Y)<sg o*((y0:Int)*Y-x0*X)∧sg o*((y0:Int)*Y-x0*X)≤Y∧(x0:Int)*y1-x1*y0=- sg o

def RetSt (w:World) (X Y:Nat) (e:Ending) (w':World):Prop :=
 ∃ (x0 y0 x1 y1:Nat) (o:Bool),e=.returned (.agg #[.int .u64 (x0:Int),.int .u64 (y0:Int),.int .u64 (x1:Int),.int .u64 (y1:Int),.bool o])∧x0<18446744073709551616∧y0<18446744073709551616∧x1<18446744073709551616∧y1<18446744073709551616∧Cs X Y x0 y0 x1 y1 o∧Below w.heap.size w w'

theorem Lm.le {X Y A L a b x0 x1 x2 y0 y1 y2:Nat} {odd:Bool} (h:Lm X Y A L a b x0 x1 x2 y0 y1 y2 odd):a≤A:=by
 have h1:=h.i1
 have h2:1*a≤y2*a:=Nat.mul_le_mul_right _ h.i6
 omega
theorem Lm.sum_le {X Y A L a b x0 x1 x2 y0 y1 y2:Nat} {odd:Bool} (h:Lm X Y A L a b x0 x1 x2 y0 y1 y2 odd) (hb:y2≤b):y1+y2≤A:=by
 have h1:=h.i1
 have h6:=h.i6
 have h7:=h.i7
 have h2:y2*1≤y2*a:=Nat.mul_le_mul_left _ (by omega)
 have h3:y1*1≤y1*b:=Nat.mul_le_mul_left _ (by omega)
 omega

set_option maxHeartbeats 8000000 in
set_option maxRecDepth 100000 in
theorem certainSteps_any (gx ox gy oy n cx cy X Y:Nat) (w:World) (hn:n≤100000000) (hX:Rd w .u64 (some ⟨gx,ox,none⟩) (n+2) (D B64 X)) (hY:Rd w .u64 (some ⟨gy,oy,none⟩) (n+2) (D B64 Y)) (hlt:X<B64^(n+2)) (htop:B64^(n+1)≤X) (hle:Y≤X) :
  Calls Tryz.prog 194 #[.slice (some ⟨gx,ox,none⟩) (n+2) cx,.slice (some ⟨gy,oy,none⟩) (n+2) cy] w (RetSt w X Y):=by
 obtain ⟨s,hs,hs63,_,hXs⟩:=top_shift (m:=n+2) (by omega) hlt (by rw [show n+2-1=n+1 by omega];exact htop)
 rw [show n+2-1=n+1 by omega] at hs
 have hYs:Y*2^s<B64^(n+2):=Nat.lt_of_le_of_lt (Nat.mul_le_mul_right _ hle) hXs
 obtain ⟨la,la2⟩:=lead_word hs63 hXs
 obtain ⟨lb,lb2⟩:=lead_word hs63 hYs
 have hK:0<2^(64-s)*B64^n:=Nat.mul_pos (Nat.pow_pos (by omega)) (Nat.pow_pos B64_pos)
 have hAL:Y / (2^(64-s)*B64^n)≤X / (2^(64-s)*B64^n):=Nat.div_le_div_right hle
 have dX:=Nat.div_add_mod X (2^(64-s)*B64^n)
 have mX:=Nat.mod_lt X hK
 have dY:=Nat.div_add_mod Y (2^(64-s)*B64^n)
 have mY:=Nat.mod_lt Y hK
 obtain ⟨K,hKe⟩:∃ K,2^(64-s)*B64^n=K:=⟨_,rfl⟩
 rw [hKe] at la la2 lb lb2 hAL dX mX dY mY
 obtain ⟨A,hA⟩:∃ A,X / K=A:=⟨_,rfl⟩
 obtain ⟨L,hL⟩:∃ L,Y / K=L:=⟨_,rfl⟩
 rw [hA] at la la2 hAL dX
 rw [hL] at lb lb2 hAL dY
 rw [Nat.mul_comm] at dX dY
 have HXK:=Lib.hid (show A*K≤X∧X<A*K+K by omega)
 have HYK:=Lib.hid (show L*K≤Y∧Y<L*K+K by omega)
 obtain ⟨g1,o1,e1,hgx,cX⟩:=hX (by omega)
 obtain ⟨g2,o2,e2,hgy,cY⟩:=hY (by omega)
 injection e1 with e1
 injection e1 with e1 e1'
 injection e2 with e2
 injection e2 with e2 e2'
 subst e1 e1' e2 e2'
 have x1c:=cX (n+1) (by omega)
 have x0c:=cX n (by omega)
 have y1c:=cY (n+1) (by omega)
 have y0c:=cY n (by omega)
 have lx1:=D64_lt X (n+1)
 have lx0:=D64_lt X n
 have ly1:=D64_lt Y (n+1)
 have ly0:=D64_lt Y n
 have HLZ:=Lib.hid (fun V=>lz_any (D B64 X (n+1)) s hs lx1 V)
 obtain ⟨q,hq⟩:∃ q,64-s=q:=⟨_,rfl⟩
 rw [hq] at la lb
 have mk:∀ (d1 d0 R:Nat),d1<18446744073709551616→d0<18446744073709551616→d1*2^s%B64 ||| d0 / 2^q=R→∃ H Lo:Nat,IntKind.u64.wrap ((d1:Int)*2^s)=(H:Int)∧(d0:Int) / 2^q=(Lo:Int)∧bits .or .u64 (H:Int) (Lo:Int)=(R:Int):=fun d1 d0 R h1 h0 hR =>
  ⟨d1*2^s%B64,d0 / 2^q,by rw [shl_word,B64_eq],by rw [shr_word],by
   rw [bits_or_u64 _ _ (by rw [←B64_eq];exact Nat.mod_lt _ B64_pos) (Nat.lt_of_le_of_lt (Nat.div_le_self _ _) h0),hR]⟩
 obtain ⟨H1,L1,v1,v2,v3⟩:=mk _ _ A lx1 lx0 la
 obtain ⟨H2,L2,v4,v5,v6⟩:=mk _ _ L ly1 ly0 lb
 rw [B64_eq] at la2 lb2
 have hq1:(64:Int)-(s:Int)=(q:Int):=by omega
 have hq2:q≤64:=by omega
 have i1:(0:Int)≤(n:Int)+1:=by omega
 have i2:(n:Int)+1<(n:Int)+2:=by omega
 have i3:(0:Int)≤(n:Int):=by omega
 have i4:(n:Int)<(n:Int)+2:=by omega
 have i5:((n:Int)+1).toNat=n+1:=by omega
 have i6:IntKind.i64.wrap ((n:Int)+1)=(n:Int)+1:=IntWalk.i64_in _ (by omega)
 have i7:IntKind.i64.wrap (n:Int)=(n:Int):=IntWalk.i64_in _ (by omega)
 clear hX hY hlt htop hle hs hXs hYs la lb hK dX mX dY mY hKe hA hL cX cY mk hq
 generalize D B64 X (n+1)=d1 at *
 generalize D B64 X n=d0 at *
 generalize D B64 Y (n+1)=f1 at *
 generalize D B64 Y n=f0 at *
 go_enter Tryz.func194,Tryz.ntmps194
 go_wp2_with fail
 refine (HLZ.out _).mono ?_
 rintro e w1 ⟨rfl,rfl⟩
 go_wp2_with fail
 go_quiet (fail)
 go_wp2_with fail
 go_quiet (fail)
 go_wp2_with fail
 have hres0:∀ V:World,(w.alloc (.cells #[.int .u64 0,.int .u64 0,.int .u64 0,.int .u64 0,.bool false] 207)).heap=V.heap→(V.alloc (.cells #[.int .u64 0,.int .u64 0,.int .u64 1,.int .u64 0,.bool true] 207)).heap[w.heap.size]?=some (.cells #[.int .u64 0,.int .u64 0,.int .u64 0,.int .u64 0,.bool false] 207 (0,0)) ∧
   St (V.alloc (.cells #[.int .u64 0,.int .u64 0,.int .u64 1,.int .u64 0,.bool true] 207)) (w.heap.size+1) 0 0 1 0 true:=fun V hV=>by
  have hsz:V.heap.size=w.heap.size+1:=by rw [←hV];simp
  refine ⟨?_,?_⟩
  · rw [(Below.heap_alloc V _ w.heap.size (by omega)),←hV]
    exact heap_alloc_new w _
  · have:=heap_alloc_new V (.cells #[.int .u64 0,.int .u64 0,.int .u64 1,.int .u64 0,.bool true] 207)
    rw [hsz] at this
    exact this
 have HRES0:=Lib.hid hres0
 clear hres0 x1c x0c y1c y0c v1 v2 v3 v4 v5 v6 i1 i2 i3 i4 i5 i6 i7 lx1 lx0 ly1 ly0 HLZ hq1 hq2
 go_loopw [7,8,10,11] (fun pa pb px py wr=>∃ (a b x0 x1 x2 y0 y1 y2:Nat) (o:Bool),pa=.int .u64 (a:Int)∧pb=.int .u64 (b:Int)∧px=.int .u64 (x2:Int)∧py=.int .u64 (y2:Int)∧Hid (Lm X Y A L a b x0 x1 x2 y0 y1 y2 o) ∧
  a<18446744073709551616∧b<18446744073709551616∧x0<18446744073709551616∧x1<18446744073709551616∧x2<18446744073709551616∧y0<18446744073709551616∧y1<18446744073709551616∧y2<18446744073709551616 ∧
  St wr (w.heap.size+1) x0 y0 x1 y1 o∧Hid (wr.heap[w.heap.size]?=some (.cells #[.int .u64 0,.int .u64 0,.int .u64 0,.int .u64 0,.bool false] 207 (0,0)))∧Below w.heap.size w wr) (fun _ pb _ _ _=>(intOf pb).toNat)
 case atStart =>
  refine ⟨A,L,0,1,0,0,0,1,true,rfl,rfl,rfl,rfl,Lm.start X Y A L hAL,la2,lb2,by omega,by omega,by omega,by omega,by omega,by omega,(HRES0.out _ (by rfl)).2,(HRES0.out _ (by rfl)).1,?_⟩
  exact (below_draws ((Below.refl _ _).alloc (Nat.le_refl _) _) _).alloc (by simp) _
 case round =>
  obtain ⟨a,b,x0,x1,x2,y0,y1,y2,o,rfl,rfl,rfl,rfl,HLM,ba,bb,bx0,bx1,bx2,by0,by1,by2,hst,HRES,hbl⟩:=hrel
  obtain ⟨c0,c1,c2,c3,c4⟩:=hst.cells
  have hend:Hid (Cs X Y x0 y0 x1 y1 o):=HLM.out.i11
  have HBL:=Lib.hid hbl
  have hsz:=hbl.size
  clear hbl
  have hr5:∀ V:World,V.heap[w.heap.size]?=some (.cells #[.int .u64 0,.int .u64 0,.int .u64 0,.int .u64 0,.bool false] 207 (0,0)) →
    V.cell? ⟨w.heap.size,0,none⟩=some (.int .u64 0)∧V.cell? ⟨w.heap.size,1,none⟩=some (.int .u64 0)∧V.cell? ⟨w.heap.size,2,none⟩=some (.int .u64 0)∧V.cell? ⟨w.heap.size,3,none⟩=some (.int .u64 0)∧V.cell? ⟨w.heap.size,4,none⟩=some (.bool false) ∧
    V.frozen? ⟨w.heap.size,0,none⟩=false∧V.frozen? ⟨w.heap.size,1,none⟩=false∧V.frozen? ⟨w.heap.size,2,none⟩=false∧V.frozen? ⟨w.heap.size,3,none⟩=false∧V.frozen? ⟨w.heap.size,4,none⟩=false:=fun V h=>by
   refine ⟨?_,?_,?_,?_,?_,?_,?_,?_,?_,?_⟩<;>simp [World.cell?,World.frozen?,h]
  by_cases hb:y2≤b
  · have hsum:=HLM.out.sum_le hb
    have hle:=HLM.out.le
    have h7:=HLM.out.i7
    have hbd:decide (y2≤b)=true:=by simp;omega
    obtain ⟨d,hd⟩:∃ d,a-b=d:=⟨_,rfl⟩
    obtain ⟨t,ht⟩:∃ t,y1+y2=t:=⟨_,rfl⟩
    have w1:(a:Int)-(b:Int)=(d:Int):=by omega
    have w2:(y1:Int)+(y2:Int)=(t:Int):=by omega
    have w3:d<18446744073709551616:=by omega
    have w4:t<18446744073709551616:=by omega
    by_cases hab:t≤d
    · have habd:decide (t≤d)=true:=by simp;omega
      have HST:=Lib.hid (HLM.out.step HXK.out HYK.out hb (by omega))
      obtain ⟨hb0,q1,q2,q3,q4,q5⟩:=lm_bounds HLM.out hb
      have HD:=Lib.hid hd
      have HT:=Lib.hid ht
      clear hr5 hd ht
      obtain ⟨Q,hQ⟩:∃ q,a / b=q:=⟨_,rfl⟩
      obtain ⟨R,hR⟩:∃ q,a%b=q:=⟨_,rfl⟩
      rw [hQ] at q1 q2 q3 q4 HST
      rw [hR] at q5 HST
      have e1:(a:Int) / (b:Int)=(Q:Int):=by rw [←hQ];simp
      have e2:(a:Int)%(b:Int)=(R:Int):=by rw [←hR];simp
      have e3:(a:Int).tdiv (b:Int)=(Q:Int):=by rw [Int.tdiv_eq_ediv_of_nonneg (by omega)];exact e1
      have e4:(a:Int).tmod (b:Int)=(R:Int):=by rw [Int.tmod_eq_emod_of_nonneg (by omega)];exact e2
      have hQb:Q<18446744073709551616:=by rw [←hQ];exact Nat.lt_of_le_of_lt (Nat.div_le_self _ _) ba
      clear hQ hR
      obtain ⟨px,hpx⟩:∃ p,Q*x2=p:=⟨_,rfl⟩
      obtain ⟨py,hpy⟩:∃ p,Q*y2=p:=⟨_,rfl⟩
      rw [hpx] at q1 q2 HST
      rw [hpy] at q3 q4 HST
      have m1:(Q:Int)*(x2:Int)=(px:Int):=by rw [←hpx];simp
      have m2:(Q:Int)*(y2:Int)=(py:Int):=by rw [←hpy];simp
      obtain ⟨nx,hnx⟩:∃ p,x1+px=p:=⟨_,rfl⟩
      obtain ⟨ny,hny⟩:∃ p,y1+py=p:=⟨_,rfl⟩
      rw [hnx] at q2 HST
      rw [hny] at q4 HST
      have m3:(x1:Int)+(px:Int)=(nx:Int):=by omega
      have m4:(y1:Int)+(py:Int)=(ny:Int):=by omega
      have m5:px<18446744073709551616:=by omega
      have m6:py<18446744073709551616:=by omega
      have m7:nx<18446744073709551616:=by omega
      have m8:ny<18446744073709551616:=by omega
      have hne:((b:Int)==0)=false:=by simp;omega
      have hlt2:R<b:=q5
      clear hpx hpy hnx hny q1 q2 q3 q4 q5
      have f0:=hst.frozen 0
      have f1':=hst.frozen 1
      have f2:=hst.frozen 2
      have f3:=hst.frozen 3
      have f4:=hst.frozen 4
      have HS0:=Lib.hid hst
      clear hst
      go_wp2_with fail
      go_quiet (fail)
      go_wp2
      go_roundw
      case rel =>
       refine ⟨b,R,x1,x2,nx,y1,y2,ny,!o,rfl,rfl,rfl,rfl,HST.out,bb,by omega,bx1,bx2,m7,by1,by2,m8,?_,?_,?_⟩
       · exact ((((St.set0 (w:=wr.drewN _) HS0.out x1).set2 x2).set1 y1).set3 y2).set4 (!o)
       · show _=_
         exact ((((((Below.refl (w.heap.size+1) (wr.drewN _)).setCell (by show _≤w.heap.size+1;omega) _).setCell (by show _≤w.heap.size+1;omega) _).setCell (by show _≤w.heap.size+1;omega) _).setCell (by show _≤w.heap.size+1;omega) _).setCell (by show _≤w.heap.size+1;omega) _).block w.heap.size (by omega) |>.trans HRES.out
       · exact (((((below_draws HBL.out _).setCell (by show _≤w.heap.size+1;omega) _).setCell (by show _≤w.heap.size+1;omega) _).setCell (by show _≤w.heap.size+1;omega) _).setCell (by show _≤w.heap.size+1;omega) _).setCell (by show _≤w.heap.size+1;omega) _
      case measure=>simp [intOf]<;>omega
    · have habd:decide (t≤d)=false:=by simp;omega
      obtain ⟨r0,r1,r2,r3,r4,s0,s1,s2,s3,s4⟩:=hr5 _ HRES.out
      clear hst hr5 hd ht
      go_wp2
      exact bodyPost_ret (v:=.agg #[.int .u64 (x0:Int),.int .u64 (y0:Int),.int .u64 (x1:Int),.int .u64 (y1:Int),.bool o]) (by simp [results,Tryz.results194,go_sem,r0,r1,r2,r3,r4]) rfl ⟨x0,y0,x1,y1,o,rfl,bx0,by0,bx1,by1,hend.out,((((HBL.out.setCell (by show _≤w.heap.size;omega) _).setCell (by show _≤w.heap.size;omega) _).setCell (by show _≤w.heap.size;omega) _).setCell (by show _≤w.heap.size;omega) _).setCell (by show _≤w.heap.size;omega) _⟩
  · have hbd:decide (y2≤b)=false:=by simp;omega
    obtain ⟨r0,r1,r2,r3,r4,s0,s1,s2,s3,s4⟩:=hr5 _ HRES.out
    clear hst hr5
    go_wp2
    exact bodyPost_ret (v:=.agg #[.int .u64 (x0:Int),.int .u64 (y0:Int),.int .u64 (x1:Int),.int .u64 (y1:Int),.bool o]) (by simp [results,Tryz.results194,go_sem,r0,r1,r2,r3,r4]) rfl ⟨x0,y0,x1,y1,o,rfl,bx0,by0,bx1,by1,hend.out,((((HBL.out.setCell (by show _≤w.heap.size;omega) _).setCell (by show _≤w.heap.size;omega) _).setCell (by show _≤w.heap.size;omega) _).setCell (by show _≤w.heap.size;omega) _).setCell (by show _≤w.heap.size;omega) _⟩
end Go.Proofs.YtdbhahiieokplaaGreatDoor


namespace Go.Proofs.YtdbhahiieokplaaGreatDoor
open Go.RowKit
attribute [local go_sem ↓] Go.wp_at_zero Go.wp_at_succ

theorem cs_use {X Y x0 y0 x1 y1:Nat} {o:Bool} (h:Cs X Y x0 y0 x1 y1 o) (h0:y0≠0):∃ R0 R1:Nat,R1<R0∧R0≤Y∧Nat.gcd R0 R1=Nat.gcd X Y ∧
  (o=true→x0*X≤y0*Y∧y0*Y-x0*X=R0∧y1*Y≤x1*X∧x1*X-y1*Y=R1)∧(o=false→y0*Y≤x0*X∧x0*X-y0*Y=R0∧x1*X≤y1*Y∧y1*Y-x1*X=R1):=by
 obtain ⟨k1,k2,k3,k4⟩:=h h0
 obtain ⟨R0,e0⟩:∃ R:Nat,sg o*((y0:Int)*Y-x0*X)=(R:Int):=⟨(sg o*((y0:Int)*Y-x0*X)).toNat,by omega⟩
 obtain ⟨R1,e1⟩:∃ R:Nat,sg o*((x1:Int)*X-y1*Y)=(R:Int):=⟨(sg o*((x1:Int)*X-y1*Y)).toNat,by omega⟩
 have hg:=lehmer_gcd (sg_sq o) e0.symm e1.symm k4
 rw [e0] at k2 k3
 rw [e1] at k2
 have c1:(y0:Int)*Y=((y0*Y:Nat):Int):=by simp
 have c2:(x0:Int)*X=((x0*X:Nat):Int):=by simp
 have c3:(x1:Int)*X=((x1*X:Nat):Int):=by simp
 have c4:(y1:Int)*Y=((y1*Y:Nat):Int):=by simp
 rw [c1,c2] at e0
 rw [c3,c4] at e1
 refine ⟨R0,R1,by omega,by omega,hg,fun ho=>?_,fun ho=>?_⟩
 · subst ho
   simp only [sg,if_true] at e0 e1
   refine ⟨by omega,by omega,by omega,by omega⟩
 · subst ho
   simp only [sg,Bool.false_eq_true,if_false] at e0 e1
   refine ⟨by omega,by omega,by omega,by omega⟩

def RetRd (W:World) (base X Y N:Nat) (e:Ending) (w:World):Prop :=
 ∃ A1 n1 c1 A2 n2 c2 R S,e=.returned (.tuple #[.slice A1 n1 c1,.slice A2 n2 c2])∧n1≤N∧n2≤N∧Ow w base A1 n1 c1 R∧Ow w base A2 n2 c2 S∧(∀ a b,A1=some a→A2=some b→a.block≠b.block)∧S≤R∧Nat.gcd R S=Nat.gcd X Y∧R+S<X+Y∧Below base W w

theorem Own.at_ {w w':World} {base:Nat} {v:Value} {n:Nat} {xs:List Value} (h:Own w base v n xs) (e:∀ g,v.ownBlock=some g→w'.heap[g]?=w.heap[g]?):Own w' base v n xs:=by
 refine ⟨h.1,?_⟩
 rcases h.2 with hn | ⟨g,cap,cur,T,rfl,hb,hg,r⟩
 · exact .inl hn
 · exact .inr ⟨g,cap,cur,T,rfl,hb,(e g (by simp [Value.ownBlock])).trans hg,r⟩

theorem Ow.at_ {w w':World} {base:Nat} {A:Option Addr} {n c V:Nat} (h:Ow w base A n c V) (e:∀ g,Value.ownBlock (.slice A n c)=some g→w'.heap[g]?=w.heap[g]?):Ow w' base A n c V:=⟨h.own.at_ e,h.lt,h.top⟩
theorem certainSteps_at (gx ox gy oy N n cx cy X Y:Nat) (w:World) (hN:N=n+2) (hn:N≤100000000) (hX:Rd w .u64 (some ⟨gx,ox,none⟩) N (D B64 X)) (hY:Rd w .u64 (some ⟨gy,oy,none⟩) N (D B64 Y)) (hlt:X<B64^N) (htop:B64^(N-1)≤X) (hle:Y≤X) :
  Calls Tryz.prog 194 #[.slice (some ⟨gx,ox,none⟩) N cx,.slice (some ⟨gy,oy,none⟩) N cy] w (RetSt w X Y):=by
 subst hN
 exact certainSteps_any gx ox gy oy n cx cy X Y w (by omega) hX hY hlt htop hle
theorem divide_long_at (A B:Option Addr) (n M m2 c d X Y:Nat) (w:World) (hM:M=m2+2) (hn:n≤100000000) (hx:Nm w A n c X) (hy:Nm w B M d Y) (hle:Y≤X) :
  Calls Tryz.prog 170 #[.slice A n c,.slice B M d] w (RetQRo w (X / Y) (X%Y) (n+1) M):=by
 subst hM
 exact divide_long_own A B n m2 c d X Y w hn hx hy hle

set_option maxHeartbeats 8000000 in
set_option maxRecDepth 100000 in
theorem reduce_any (gx gy base n m c d X Y:Nat) (w:World) (hn:n≤100000000) (hm:2≤m) (hx:Ow w base (some ⟨gx,0,none⟩) n c X) (hy:Ow w base (some ⟨gy,0,none⟩) m d Y) (hle:Y≤X) (hne:gx≠gy) :
  Calls Tryz.prog 175 #[.slice (some ⟨gx,0,none⟩) n c,.slice (some ⟨gy,0,none⟩) m d] w (RetRd w base X Y n):=by
 obtain ⟨i0,hi,hz0,hz1,hz2⟩:=info_parts natInfo
 have hmn:m≤n:=Nm.le_len hx.nm.toNg hy.nm hle
 obtain ⟨g1,e1,lX,pX,ncx,mcx,bx⟩:=hx.own.lies (by omega)
 injection e1 with e1
 injection e1 with e1
 subst e1
 obtain ⟨g2,e2,lY,pY,ncy,mcy,by'⟩:=hy.own.lies (by omega)
 injection e2 with e2
 injection e2 with e2
 subst e2
 have lgx:=lX.lt
 have lgy:=lY.lt
 have HX:=Lib.hid hx
 have HY:=Lib.hid hy
 have hYm:B64≤Y:=by
  have h1:=hy.top (by omega)
  have h2:B64^1≤B64^(m-1):=Nat.pow_le_pow_right B64_pos (by omega)
  rw [Nat.pow_one] at h2
  omega
 have HYM:=Lib.hid hYm
 have HLE:=Lib.hid hle
 have hbw:base≤w.heap.size:=by omega
 clear hx hy lX pX lY pY hYm hle ncx mcx ncy mcy
 go_enter Tryz.func175,Tryz.ntmps175
 go_wp2
 go_loopw [1] (fun v wr=>∃ (k d' gb:Nat),k≤n∧m≤k∧v=.slice (some ⟨gb,0,none⟩) k d'∧Own wr base v k (nums .u64 (D B64 Y) k)∧gb≠gx∧gb<wr.heap.size∧Hid (wr.heap[gx]?=w.heap[gx]?)∧Below base w wr∧w.heap.size≤wr.heap.size) (fun v _=>match v with | .slice _ k _=>n-k | _=>0)
 case atStart=>exact ⟨m,d,gy,hmn,Nat.le_refl _,rfl,HY.out.own,Ne.symm hne,lgy,rfl,Below.refl _ _,Nat.le_refl _⟩
 case round =>
  obtain ⟨k,d',gb,hk,hmk,rfl,hown,hgb,hgl,HGX,hbl,hsz⟩:=hrel
  by_cases hlt:k<n
  · have hD:D B64 Y k=0:=D_zero_of B64_pos HY.out.lt hmk
    have hHD:=Lib.hid hD
    have HBL:=Lib.hid hbl
    clear hbl hD
    go_wp2_with (at_builtin;refine wpList_append_Own _ rfl _ _ 153 rfl base 146 i0 (.int .u64 0) 8 Tryz.underlying153 hi hz0 hz1 hz2 rfl _ _ _ rfl (hown.alloc _) ⟨wr.heap.size,0,none⟩ 1 1 [.int .u64 0] rfl rfl (by omega) ?_ ?_ ?_ ?_ ?_ ?_)
    · intro q u hq;exact one_cell' q u hq rfl
    · intro u hu;simp at hu;subst hu;rfl
    · unfold maxLen;omega
    · omega
    · simp;omega
    intro v' w2 hown' hgrow hat
    have hown2:Own w2 base v' (k+1) (nums .u64 (D B64 Y) (k+1)):=own_next' (d:=0) hown' hHD.out.symm
    obtain ⟨A2,c2,hv2,hc2,hr2⟩:=hown2.rd
    obtain ⟨gn,on,hA2,hgn,_⟩:=hr2 (by omega)
    subst hA2
    subst hv2
    have hon:on=0:=by
     obtain ⟨g9,e9,_⟩:=hown2.lies (by omega)
     injection e9 with e9
     injection e9
    subst hon
    have hgx2:w2.heap[gx]?=w.heap[gx]?:=(hgrow.block gx (by simp;omega) (fun e=>by simp [Value.ownBlock] at e;omega)).trans ((Below.heap_alloc _ _ _ (by omega)).trans HGX.out)
    have hgn2:gn≠gx:=by
     rcases hat with h | h
     · simp [Value.ownBlock] at h;omega
     · simp [Value.ownBlock] at h;omega
    have hbl2:Below base w w2:=(HBL.out.alloc (by omega) _).trans (below_of_grown (g:=gb) hgrow (by simp;omega) (by
     obtain ⟨g9,e9,_,_,_,_,hb9⟩:=hown.lies (by omega)
     injection e9 with e9
     injection e9 with e9
     omega))
    have hs2:=hgrow.size
    simp at hs2
    have HG2:=Lib.hid hgx2
    clear hgrow hown' hown hat hgx2 hr2
    go_wp2
    go_roundw
    case rel=>exact ⟨k+1,c2,gn,by omega,by omega,rfl,hown2,hgn2,hgn,HG2.out,hbl2,by omega⟩
    case measure=>simp<;>omega
  · obtain rfl:k=n:=by omega
    obtain ⟨g3,e3,lX,pX,ncx,mcx,_⟩:=HX.out.own.lies (by omega)
    injection e3 with e3
    injection e3 with e3
    subst e3
    obtain ⟨g4,e4,lY,pY,ncy,mcy,hbg⟩:=hown.lies (by omega)
    injection e4 with e4
    injection e4 with e4
    subst e4
    have HLX:=Lib.hid (lX.of_block HGX.out)
    have HPX:=Lib.hid (pX.of_block HGX.out)
    have HLY:=Lib.hid lY
    have HPY:=Lib.hid pY
    have HBL:=Lib.hid hbl
    have HCS:=Lib.hid (certainSteps_at gx 0 gb 0 k (k-2) c d' X Y wr (by omega) hn HLX.out.rd HLY.out.rd HX.out.lt (HX.out.top (by omega)) HLE.out)
    have hYk:Y<B64^k:=Nat.lt_of_le_of_lt HLE.out HX.out.lt
    have HYK:=Lib.hid hYk
    have HOW:=Lib.hid hown
    clear lX pX lY pY hbl hown hYk
    go_wp2_with fail
    refine HCS.out.mono ?_
    rintro e w1 ⟨x0,y0,x1,y1,o,rfl,b0,b1,b2,b3,hcs,hb1⟩
    have hs1:=hb1.size
    have hblk:∀ (V:World) (g:Nat),g<wr.heap.size→Below wr.heap.size w1 V→V.heap[g]?=wr.heap[g]?:=fun V g hg hV=>(hV.block g hg).trans (hb1.block g hg)
    have HBK:=Lib.hid hblk
    have HCC:=Lib.hid hcs
    have HB1:=Lib.hid hb1
    clear hblk hcs hb1
    obtain ⟨W,hW⟩:∃ W,W=w1.alloc (.cells #[.int .u64 (x0:Int),.int .u64 (y0:Int),.int .u64 (x1:Int),.int .u64 (y1:Int),.bool o] 207):=⟨_,rfl⟩
    have hbW:Below wr.heap.size w1 W:=by rw [hW];exact (Below.refl _ _).alloc hs1 _
    have hbX:=HBK.out W gx (by omega) hbW
    have hbY:=HBK.out W gb hgl hbW
    have hsW:wr.heap.size≤W.heap.size:=by rw [hW];simp;omega
    have hbb:Below base w W:=HBL.out.trans ((HB1.out.mono (by omega)).trans (hbW.mono (by omega)))
    obtain ⟨c0,c1,c2,c3,c4⟩:=(show St W w1.heap.size x0 y0 x1 y1 o by rw [hW];exact heap_alloc_new w1 _).cells
    have HbX:=Lib.hid hbX
    have HbY:=Lib.hid hbY
    have Hbb:=Lib.hid hbb
    have HW:=Lib.hid hW
    have lXW:=HLX.out.of_block hbX
    have lYW:=HLY.out.of_block hbY
    have HXW:=Lib.hid lXW
    have HYW:=Lib.hid lYW
    clear hbW hbX hbY hbb hW lXW lYW
    by_cases h0:y0=0
    · have h0b:((y0:Int)==0)=true:=by simp;omega
      have h0c:decide (y0=0)=true:=by simp;omega
      clear c0 c1 c2 c3 c4 h0 h0c
      go_wp2_with fail
      rw [←HW.out]
      refine (trim_any (some ⟨gb,0,none⟩) k d' Y W (by omega) ⟨HYK.out,ncy,HYW.out.rd⟩).mono ?_
      rintro e w2 ⟨kt,hkt,rfl,hnt,rfl⟩
      have hkt2:2≤kt:=by
       rcases Nat.lt_or_ge kt 2 with h | h
       · have h1:=hnt.lt
         have h2:B64^kt≤B64^1:=Nat.pow_le_pow_right B64_pos (by omega)
         have h3:=HYM.out
         rw [Nat.pow_one] at h2
         omega
       · exact h
      have HNT:=Lib.hid hnt
      have HDV:=Lib.hid (divide_long_at (some ⟨gx,0,none⟩) (some ⟨gb,0,none⟩) k kt (kt-2) c d' X Y W (by omega) hn ⟨⟨HX.out.lt,ncx,HXW.out.rd⟩,HX.out.top⟩ hnt HLE.out)
      clear hnt
      go_wp2_with fail
      refine HDV.out.mono ?_
      rintro e w3 ⟨Aq,nq,cq,Ar,nr,cr,hnq,hnr,rfl,hmq,hmr,hb3,hfq,hfr,hor⟩
      have HMR:=Lib.hid hmr
      have HB3:=Lib.hid hb3
      have HFR:=Lib.hid hfr
      have HOR:=Lib.hid hor
      clear hmq hmr hb3 hfq hfr hor
      go_wp2
      go_ret2
      have hYp:0<Y:=by have:=HYM.out;have:=B64_eq;omega
      have hmod:=Nat.mod_lt X hYp
      refine ⟨_,kt,d',Ar,nr,cr,Y,X%Y,rfl,hkt,by omega,?_,?_,?_,Nat.le_of_lt hmod,?_,?_,Hbb.out.trans (HB3.out.mono (by omega))⟩
      · refine ⟨((HOW.out.take hkt).at_ fun g hg=>?_),HNT.out.lt,HNT.out.top⟩
        simp [Value.ownBlock] at hg
        subst hg
        exact (HB3.out.block _ (by omega)).trans HbY.out
      · exact ⟨HOR.out.mono (by omega),HMR.out.lt,HMR.out.top⟩
      · intro a b ha hb
        injection ha with ha
        subst ha
        subst hb
        have h9:=HFR.out b.block rfl
        show gb≠b.block
        omega
      · rw [Nat.gcd_comm,←Nat.gcd_rec,Nat.gcd_comm]
      · have:=HLE.out
        omega
    · have h0b:((y0:Int)==0)=false:=by simp;omega
      have h0c:decide (y0=0)=false:=by simp;omega
      obtain ⟨R0,R1,k1,k2,k3,k4,k5⟩:=cs_use HCC.out h0
      have hRb:R0<B64^k:=Nat.lt_of_le_of_lt k2 HYK.out
      rcases o with _ | _
      · obtain ⟨j1,j2,j3,j4⟩:=k5 rfl
        have HDF:=Lib.hid (differences_any base gx gb k c d' X Y x0 y0 y1 x1 W hn b0 b1 b3 b2 j1 j3 (by rw [j2];exact hRb) (by rw [j4];omega) HXW.out HYW.out (HPX.out.of_block HbX.out) (HPY.out.of_block HbY.out) ncx ncy mcx mcy (Ne.symm hgb) bx hbg)
        rw [j2,j4] at HDF
        have HJ:=Lib.hid (And.intro k1 (And.intro k2 k3))
        clear j1 j2 j3 j4 k1 k2 k3 k4 k5 hRb
        go_wp2_with fail
        rw [←HW.out]
        refine HDF.out.mono ?_
        rintro e w3 ⟨kr,ks,hkr,hks,rfl,hor,hos,hb3⟩
        have HOR:=Lib.hid (And.intro hor hos)
        have HB3:=Lib.hid hb3
        clear hor hos hb3
        go_wp2
        go_ret2
        have hj:=HJ.out
        have hle:=HLE.out
        exact ⟨_,kr,c,_,ks,d',R0,R1,rfl,hkr,hks,HOR.out.1,HOR.out.2,(fun a b ha hb=>by injection ha with ha;injection hb with hb;subst ha;subst hb;exact Ne.symm hgb),by omega,hj.2.2,by omega,Hbb.out.trans HB3.out⟩
      · obtain ⟨j1,j2,j3,j4⟩:=k4 rfl
        have HDF:=Lib.hid (differences_any base gb gx k d' c Y X y0 x0 x1 y1 W hn b1 b0 b2 b3 j1 j3 (by rw [j2];exact hRb) (by rw [j4];omega) HYW.out HXW.out (HPY.out.of_block HbY.out) (HPX.out.of_block HbX.out) ncy ncx mcy mcx hgb hbg bx)
        rw [j2,j4] at HDF
        have HJ:=Lib.hid (And.intro k1 (And.intro k2 k3))
        clear j1 j2 j3 j4 k1 k2 k3 k4 k5 hRb
        go_wp2_with fail
        rw [←HW.out]
        refine HDF.out.mono ?_
        rintro e w3 ⟨kr,ks,hkr,hks,rfl,hor,hos,hb3⟩
        have HOR:=Lib.hid (And.intro hor hos)
        have HB3:=Lib.hid hb3
        clear hor hos hb3
        go_wp2
        go_ret2
        have hj:=HJ.out
        have hle:=HLE.out
        exact ⟨_,kr,d',_,ks,c,R0,R1,rfl,hkr,hks,HOR.out.1,HOR.out.2,(fun a b ha hb=>by injection ha with ha;injection hb with hb;subst ha;subst hb;exact hgb),by omega,hj.2.2,by omega,Hbb.out.trans HB3.out⟩
end Go.Proofs.YtdbhahiieokplaaGreatDoor
