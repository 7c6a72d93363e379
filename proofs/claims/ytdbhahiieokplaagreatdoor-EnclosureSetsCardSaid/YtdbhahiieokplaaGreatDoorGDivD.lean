import Derived.Test.YtdbhahiieokplaaGreatDoorGDivK
set_option linter.unusedSimpArgs false
set_option linter.unusedVariables false

namespace Go.Proofs.YtdbhahiieokplaaGreatDoor
open Go.RowKit
attribute [local go_sem ↓] Go.wp_at_zero Go.wp_at_succ

theorem B64_two (p:Nat) (hp:p≤64):B64=2^p*2^(64-p):=by
 rw [←Nat.pow_add,show p+(64-p)=64 by omega];rfl

theorem or_sum {h x p:Nat} (hh:h<2^p) (hp:p≤64):h ||| x*2^p%B64=h+x*2^p%B64∧h+x*2^p%B64<B64:=by
 have e:=B64_two p hp
 have e2:x*2^p%B64=2^p*(x%2^(64-p)):=by rw [e,Nat.mul_comm x,Nat.mul_mod_mul_left]
 have hl:=Nat.mod_lt x (show 0<2^(64-p) from Nat.pow_pos (by omega))
 have hor:2^p*(x%2^(64-p)) ||| h=2^p*(x%2^(64-p))+h:=(Nat.two_pow_add_eq_or_of_lt hh _).symm
 have hb:2^p*(x%2^(64-p)+1)≤2^p*2^(64-p):=Nat.mul_le_mul_left _ hl
 rw [Nat.mul_add,Nat.mul_one,←e] at hb
 rw [e2,Nat.or_comm,hor]
 omega

theorem shr_mul {x p:Nat} (hp:p≤64):x / 2^(64-p)=x*2^p / B64:=by
 rw [B64_two p hp,Nat.mul_comm x,Nat.mul_div_mul_left _ _ (Nat.pow_pos (by omega))]

theorem shl_step {X p W k:Nat} (hp:p<64) (j:Nat) :
  (if j=k+W+1 then D B64 X k / 2^(64-p) else if j=k+W then D B64 (X%B64^k*(2^p*B64^W)) (k+W) ||| D B64 X k*2^p%B64 else D B64 (X%B64^k*(2^p*B64^W)) j)=D B64 (X%B64^(k+1)*(2^p*B64^W)) j:=by
 have hP:0<B64^(k+W):=Nat.pow_pos B64_pos
 have hx:=D64_lt X k
 have hU:X%B64^(k+1)*(2^p*B64^W)=X%B64^k*(2^p*B64^W)+B64^(k+W)*(D B64 X k*2^p):=by
  rw [mod_succ,Nat.add_mul,Nat.pow_add]
  congr 1
  generalize D B64 X k=x
  generalize B64^k=a
  generalize B64^W=c
  generalize 2^p=t
  ac_rfl
 have hUk:X%B64^k*(2^p*B64^W)<B64^(k+W)*2^p:=by
  have h1:=Nat.mod_lt X (Nat.pow_pos (n:=k) B64_pos)
  have h2:=Nat.mul_lt_mul_of_pos_right h1 (show 0<2^p*B64^W from Nat.mul_pos (Nat.pow_pos (by omega)) (Nat.pow_pos B64_pos))
  rw [Nat.pow_add]
  have e:B64^k*(2^p*B64^W)=B64^k*B64^W*2^p:=by rw [Nat.mul_comm (2^p),Nat.mul_assoc]
  omega
 generalize D B64 X k=x at *
 generalize X%B64^(k+1)*(2^p*B64^W)=U' at *
 generalize X%B64^k*(2^p*B64^W)=U at *
 have hh:U / B64^(k+W)<2^p:=Nat.div_lt_of_lt_mul hUk
 have hp2:2^p<B64:=by
  have h1:2^p≤2^63:=Nat.pow_le_pow_right (by omega) (by omega)
  have h2:B64=18446744073709551616:=rfl
  omega
 have hdk:D B64 (U) (k+W)=U / B64^(k+W):=by
  unfold D;exact Nat.mod_eq_of_lt (by omega)
 obtain ⟨or1,or2⟩:=or_sum (x:=x) hh (by omega)
 have hT:U' / B64^(k+W)=B64*(x*2^p / B64)+(U / B64^(k+W)+x*2^p%B64):=by
  rw [hU,Nat.add_mul_div_left _ _ hP]
  have:=Nat.div_add_mod (x*2^p) B64
  omega
 have hhi:x*2^p / B64<B64:=by
  apply Nat.div_lt_of_lt_mul
  exact Nat.mul_lt_mul'' (by rw [B64_eq];exact hx) hp2
 by_cases e:j=k+W+1
 · rw [if_pos e,e,D_high (P:=U') (k:=k+W) (by omega),hT,shr_mul (by omega),show k+W+1-(k+W)=1 by omega]
   unfold D
   rw [Nat.pow_one,Nat.mul_add_div B64_pos,Nat.div_eq_of_lt or2,Nat.add_zero]
   exact (Nat.mod_eq_of_lt hhi).symm
 · rw [if_neg e]
   by_cases e2:j=k+W
   · rw [if_pos e2,e2,hdk,or1,D_high (P:=U') (k:=k+W) (by omega),hT,Nat.sub_self]
     unfold D
     rw [Nat.pow_zero,Nat.div_one,Nat.mul_add_mod,Nat.mod_eq_of_lt or2]
   · rw [if_neg e2]
     by_cases e3:j<k+W
     · rw [hU,D_low B64_pos e3]
     · have hz1 : D B64 (U) j = 0 := by
        refine D_zero_of B64_pos (n:=k+W+1) ?_ (by omega)
        rw [Nat.pow_succ]
        exact Nat.lt_trans hUk (Nat.mul_lt_mul_of_pos_left hp2 hP)
       rw [hz1]
       symm
       rw [D_high (P:=U') (k:=k+W) (by omega),hT]
       refine D_zero_of B64_pos (n:=2) ?_ (by omega)
       have:B64*(x*2^p / B64+1)≤B64*B64:=Nat.mul_le_mul_left _ hhi
       rw [Nat.mul_add,Nat.mul_one] at this
       rw [Nat.pow_two]
       omega

def RetNew (w:World) (n V:Nat) (e:Ending) (w':World):Prop:=∃ g,e=.returned (.slice (some ⟨g,0,none⟩) n n)∧Lies w' g n (D B64 V)∧Below w.heap.size w w'∧w.heap.size≤g

set_option maxHeartbeats 2000000 in
set_option maxRecDepth 100000 in
theorem shiftLeft_any (A:Option Addr) (n c X s W p:Nat) (w:World) (hn:n≤100000000) (hW:W≤100000000) (hs:s=64*W+p) (hp:p<64) (hx:Ng w A n c X) :
  Calls Tryz.prog 189 #[.slice A n c,.int .i64 (s:Int)] w (RetNew w (n+W+1) (X*(2^p*B64^W))):=by
 have hmk:=fun V=>run_make_row' (P:=Tryz.prog) 153 146 (.int .u64 0) 8 Tryz.underlying153 natInfo rfl .i64 .i64 (n+W+1) (by omega) (by omega) V
 have ec:((n+W+1:Nat):Int)=(n:Int)+(W:Int)+1:=by omega
 rw [ec] at hmk
 have w1:(s:Int) / 64=(W:Int):=by omega
 have w2:(s:Int)%64=(p:Int):=by omega
 have hs0:(0:Int)≤(s:Int):=by omega
 have hsb:(s:Int)≤7000000000:=by omega
 have HX:=Lib.hid hx
 clear hx ec hs
 go_enter Tryz.func189,Tryz.ntmps189
 go_wp2_with fail
 rw [w2]
 clear w1 w2
 go_loopw [22] (fun iv wr=>∃ k:Nat,k≤n∧iv=.int .i64 k∧Lies wr w.heap.size (n+W+1) (D B64 (X%B64^k*(2^p*B64^W)))∧Below w.heap.size w wr) (fun iv _=>n-(intOf iv).toNat)
 case atStart =>
  refine ⟨0,Nat.zero_le _,rfl,(Lies.of_made w (n+W+1)).congr fun i hi=>?_,(Below.refl _ _).alloc (Nat.le_refl _) _⟩
  simp [D,Nat.mod_one]
 case round =>
  obtain ⟨k,hk,rfl,hlies,hbl⟩:=hrel
  by_cases hlt:k<n
  · obtain ⟨gx,ox,hA,hgx,hcx⟩:=HX.out.rd (by omega)
    subst hA
    have hxk:=(hbl.cell (p:=⟨gx,ox+k,none⟩) hgx).trans (hcx k hlt)
    have hcell:=hlies.cell (i:=k+W) (by omega)
    have hfro:=hlies.frozen (k+W)
    have hcell2:=hlies.cell (i:=k+W+1) (by omega)
    have hfro2:=hlies.frozen (k+W+1)
    have hdx:=D64_lt X k
    have hdu:=D64_lt (X%B64^k*(2^p*B64^W)) (k+W)
    have hst:=fun j=>shl_step (X:=X) (p:=p) (W:=W) (k:=k) hp j
    have HST:=Lib.hid hst
    have HLI:=Lib.hid hlies
    have HBL:=Lib.hid hbl
    obtain ⟨u,hu⟩:∃ u,D B64 (X%B64^k*(2^p*B64^W)) (k+W)=u:=⟨_,rfl⟩
    obtain ⟨x,hxx⟩:∃ x,D B64 X k=x:=⟨_,rfl⟩
    rw [hu] at hcell hdu
    rw [hxx] at hxk hdx
    have hsl:x*2^p%B64<18446744073709551616:=by have:=Nat.mod_lt (x*2^p) B64_pos;rw [B64_eq] at this ⊢;exact this
    obtain ⟨S,hS⟩:∃ S,x*2^p%B64=S:=⟨_,rfl⟩
    obtain ⟨R,hR⟩:∃ R,x / 2^(64-p)=R:=⟨_,rfl⟩
    have v1:IntKind.u64.wrap ((x:Int)*2^p)=(S:Int):=by rw [shl_word,←B64_eq,hS]
    rw [hS] at hsl
    have v2:bits .or .u64 (u:Int) (S:Int)=((u ||| S:Nat):Int):=bits_or_u64 u S hdu hsl
    have v3:(x:Int) / 2^(64-p)=(R:Int):=by rw [shr_word,hR]
    obtain ⟨O,hO⟩:∃ O,u ||| S=O:=⟨_,rfl⟩
    rw [hO] at v2
    have HFIN:=Lib.hid (show D B64 (X%B64^k*(2^p*B64^W)) (k+W) ||| D B64 X k*2^p%B64=O∧D B64 X k / 2^(64-p)=R from ⟨by rw [hu,hxx,hS,hO],by rw [hxx,hR]⟩)
    have i1:IntKind.i64.wrap ((k:Int)+(W:Int))=(k:Int)+(W:Int):=IntWalk.i64_in _ (by omega)
    have i2:(0:Int)≤(k:Int)+(W:Int):=by omega
    have i3:(k:Int)+(W:Int)<(n:Int)+(W:Int)+1:=by omega
    have i4:((k:Int)+(W:Int)).toNat=k+W:=by omega
    have i5:(k:Int)<(n:Int):=by omega
    have i6:(0:Int)≤(k:Int):=by omega
    have i7:((k:Int)+(W:Int)+1).toNat=k+W+1:=by omega
    have i8:IntKind.i64.wrap ((k:Int)+(W:Int)+1)=(k:Int)+(W:Int)+1:=IntWalk.i64_in _ (by omega)
    clear hcx hst hlies hbl hu hxx hS hR hO
    go_wp2_with fail
    go_region_law (fail)
    all_goals
     have hcellb:((wr.drew).setCell ⟨w.heap.size,k+W,none⟩ (.int .u64 (O:Int))).cell? ⟨w.heap.size,k+W+1,none⟩=some (.int .u64 (D B64 (X%B64^k*(2^p*B64^W)) (k+W+1):Int)):=(Lies.set (w:=wr.drew) HLI.out (k+W) O).cell (by omega) |>.trans (by simp)
     have hfrob:((wr.drew).setCell ⟨w.heap.size,k+W,none⟩ (.int .u64 (O:Int))).frozen? ⟨w.heap.size,k+W+1,none⟩=false:=(Lies.set (w:=wr.drew) HLI.out (k+W) O).frozen _
     have hgne:¬(gx=w.heap.size):=by omega
     have hgne2:¬(w.heap.size=gx):=by omega
     go_wp2
     go_roundw
     case rel =>
      refine ⟨k+1,by omega,by go_num,((Lies.set (w:=wr.drew) HLI.out (k+W) O).set (k+W+1) R).congr fun j hj=>?_,((HBL.out.drew).setCell (Nat.le_refl _) _).setCell (Nat.le_refl _) _⟩
      rw [←HST.out j,HFIN.out.1,HFIN.out.2]
     case measure=>simp [intOf]<;>omega
  · obtain rfl:k=n:=by omega
    have hXm:X%B64^k=X:=Nat.mod_eq_of_lt HX.out.lt
    rw [hXm] at hlies
    have HLI:=Lib.hid hlies
    clear hXm hlies
    go_wp2
    go_ret
    exact ⟨_,by rfl,HLI.out,hbl,Nat.le_refl _⟩


theorem shr_step {X p W k:Nat} (hp:p<64):D B64 (X / (2^p*B64^W)) k=D B64 X (W+k) / 2^p ||| D B64 X (W+k+1)*2^(64-p)%B64:=by
 have e1:X / (2^p*B64^W) / B64^k=X / B64^(W+k) / 2^p:=by
  rw [Nat.div_div_eq_div_mul,Nat.div_div_eq_div_mul,Nat.pow_add]
  congr 1
  ac_rfl
 have h1:=div_D B64 X (W+k)
 have h2:=div_D B64 X (W+k+1)
 have l1:=D64_lt X (W+k)
 unfold D at h1 h2 l1 ⊢
 rw [e1]
 generalize X / B64^(W+k)%B64=x0 at *
 generalize X / B64^(W+k+1)%B64=x1 at *
 generalize X / B64^(W+k+1+1)=Z at *
 rw [h1,h2]
 have hp0:0<2^p:=Nat.pow_pos (by omega)
 have eb:=B64_two p (by omega)
 have hl:x0 / 2^p<2^(64-p):=Nat.div_lt_of_lt_mul (by rw [←eb,B64_eq];exact l1)
 have hx1:x1*2^(64-p)%B64=2^(64-p)*(x1%2^p):=by rw [eb,Nat.mul_comm x1,Nat.mul_comm (2^p),Nat.mul_mod_mul_left]
 have hor:2^(64-p)*(x1%2^p) ||| x0 / 2^p=2^(64-p)*(x1%2^p)+x0 / 2^p:=(Nat.two_pow_add_eq_or_of_lt hl _).symm
 rw [hx1,Nat.or_comm,hor]
 have hsum:(B64*(B64*Z+x1)+x0) / 2^p=2^(64-p)*(B64*Z+x1)+x0 / 2^p:=by
  have:B64*(B64*Z+x1)=2^p*(2^(64-p)*(B64*Z+x1)):=by
   conv=>lhs;rw [eb]
   rw [Nat.mul_assoc,←eb]
  rw [this,Nat.mul_add_div hp0]
 rw [hsum]
 have hx1d:=Nat.div_add_mod x1 (2^p)
 have hq:2^(64-p)*(B64*Z+x1)+x0 / 2^p=B64*(2^(64-p)*Z+x1 / 2^p)+(2^(64-p)*(x1%2^p)+x0 / 2^p):=by
  have:2^(64-p)*x1=B64*(x1 / 2^p)+2^(64-p)*(x1%2^p):=by
   conv=>lhs;rw [←hx1d]
   rw [Nat.mul_add,eb,Nat.mul_comm (2^p) (2^(64-p)),Nat.mul_assoc]
  rw [Nat.mul_add,Nat.mul_add,this,Nat.mul_left_comm]
  omega
 have hlt:2^(64-p)*(x1%2^p)+x0 / 2^p<B64:=by
  have hm:=Nat.mod_lt x1 hp0
  have:2^(64-p)*(x1%2^p+1)≤2^(64-p)*2^p:=Nat.mul_le_mul_left _ hm
  rw [Nat.mul_add,Nat.mul_one,Nat.mul_comm (2^(64-p)) (2^p),←eb] at this
  omega
 rw [hq,Nat.mul_add_mod,Nat.mod_eq_of_lt hlt]
end Go.Proofs.YtdbhahiieokplaaGreatDoor


namespace Go.Proofs.YtdbhahiieokplaaGreatDoor
open Go.RowKit
attribute [local go_sem ↓] Go.wp_at_zero Go.wp_at_succ

def RetN (w:World) (V N:Nat) (e:Ending) (w':World):Prop :=
 ∃ A n c,n≤N∧e=.returned (.slice A n c)∧Nm w' A n c V∧Below w.heap.size w w'∧∀ k,Value.ownBlock (.slice A n c)=some k→w.heap.size≤k

def RetNo (w:World) (V N:Nat) (e:Ending) (w':World):Prop :=
 ∃ A n c,n≤N∧e=.returned (.slice A n c)∧Nm w' A n c V∧Below w.heap.size w w'∧(∀ k,Value.ownBlock (.slice A n c)=some k→w.heap.size≤k)∧Own w' w.heap.size (.slice A n c) n (nums .u64 (D B64 V) n)

theorem Nm.nil (w:World):Nm w none 0 0 0:=⟨⟨by decide,Nat.le_refl _,Rd.nil _ _ _ _⟩,fun h=>by omega⟩

def srF (X V W k j:Nat):Nat:=if j<k then D B64 V j else D B64 X (W+j)

set_option maxHeartbeats 2000000 in
set_option maxRecDepth 100000 in
theorem shiftRight_own (A:Option Addr) (n c X s W p:Nat) (w:World) (hn:n≤100000000) (hW:W≤100000000) (hs:s=64*W+p) (hp:p<64) (hx:Ng w A n c X) :
  Calls Tryz.prog 191 #[.slice A n c,.int .i64 (s:Int)] w (RetNo w (X / (2^p*B64^W)) n):=by
 have q64:(s:Int) / 64=(W:Int):=by omega
 have m64:(s:Int)%64=(p:Int):=by omega
 have hs0:(0:Int)≤(s:Int):=by omega
 have hsb:(s:Int)≤7000000000:=by omega
 have hp0:0<2^p:=Nat.pow_pos (by omega)
 have HX:=Lib.hid hx
 clear hx hs
 by_cases hWn:n≤W
 · have hz : X / (2 ^ p * B64 ^ W) = 0 := by
    apply Nat.div_eq_of_lt
    have h1:=HX.out.lt
    have h2:B64^n≤B64^W:=Nat.pow_le_pow_right B64_pos hWn
    have h3:1*B64^W≤2^p*B64^W:=Nat.mul_le_mul_right _ hp0
    omega
   rw [hz]
   clear hz hp0
   have hge:decide ((n:Int)≤(W:Int))=true:=by simp;omega
   go_enter Tryz.func191,Tryz.ntmps191
   go_wp2
   go_ret
   exact ⟨none,0,0,Nat.zero_le _,rfl,Nm.nil w,Below.refl _ _,fun z hz=>by simp [Value.ownBlock] at hz,Own.nil _ _⟩
 · have hge:decide ((n:Int)≤(W:Int))=false:=by simp;omega
   obtain ⟨N,hN⟩:∃ N,n=N+W:=⟨n-W,by omega⟩
   subst hN
   have hmk:=fun V=>run_make_row' (P:=Tryz.prog) 153 146 (.int .u64 0) 8 Tryz.underlying153 natInfo rfl .i64 .i64 N (by omega) (by omega) V
   obtain ⟨V,hV⟩:∃ V,X / (2^p*B64^W)=V:=⟨_,rfl⟩
   have hst:=fun k=>shr_step (X:=X) (p:=p) (W:=W) (k:=k) hp
   rw [hV] at hst
   rw [hV]
   have hVlt:V<B64^N:=by
    rw [←hV]
    apply Nat.div_lt_of_lt_mul
    have h1:=HX.out.lt
    rw [Nat.pow_add,Nat.mul_comm] at h1
    have h3:1*B64^W≤2^p*B64^W:=Nat.mul_le_mul_right _ hp0
    rw [Nat.one_mul] at h3
    have h4:=Nat.mul_le_mul_right (B64^N) h3
    omega
   have HST:=Lib.hid hst
   have HVL:=Lib.hid hVlt
   obtain ⟨gx,ox,hA,hgx,hcx⟩:=HX.out.rd (by omega)
   subst hA
   have hcap:=HX.out.cap
   have hr:Rd w .u64 (some ⟨gx,ox+W,none⟩) N (fun j=>D B64 X (W+j)):=fun _=>⟨gx,ox+W,rfl,hgx,fun i hi=>by
    have:=hcx (W+i) (by omega)
    rw [←Nat.add_assoc] at this
    exact this⟩
   have HR:=Lib.hid hr
   have j1:¬(c=W):=by omega
   have j2:(0:Int)≤(W:Int):=by omega
   have j3:(W:Int)≤(N:Int)+(W:Int):=by omega
   have j4:IntKind.i64.wrap ((N:Int)+(W:Int)-(W:Int))=(N:Int):=by rw [IntWalk.i64_in _ (by omega)];omega
   have j5:(N:Int)+(W:Int)-(W:Int)=(N:Int):=by omega
   have j6:0<N:=by omega
   have hge2:decide ((N:Int)+(W:Int)≤(W:Int))=false:=by simp;omega
   clear hp0 hge hcx hr hst hV hVlt hWn
   go_enter Tryz.func191,Tryz.ntmps191
   go_wp2_with (with_reducible refine wpList_copy_lies rfl _ _ rfl w.heap.size N N (some ⟨gx,ox+W,none⟩) N (c-W) ?ca ?cb N (fun _=>0) (fun j=>D B64 X (W+j)) (Lies.of_made w N) (Nat.le_refl _) (Nat.le_refl _) (HR.out.alloc _) ?_)
   case ca=>rfl
   case cb =>
    first
    | rfl
    | (simp [Act.eval,Act.put])
   intro w2 hl2 hgr2
   have hl3:Lies w2 w.heap.size N (srF X V W 0):=hl2.congr fun i hi=>by
    show (if i<N then D B64 X (W+i) else 0)=srF X V W 0 i
    unfold srF
    rw [if_pos hi,if_neg (Nat.not_lt_zero _)]
   have hb2:Below w.heap.size w w2:=((Below.refl _ _).alloc (Nat.le_refl _) _).trans (below_of_grown (g:=w.heap.size) hgr2 (by simp) (Nat.le_refl _))
   have HL3:=Lib.hid hl3
   have HB2:=Lib.hid hb2
   clear hl2 hgr2 hl3 hb2 j1 j2 j3 j4 j5 hge2
   go_wp2
   try rw [m64]
   clear q64 m64
   go_loopw [30] (fun iv wr=>∃ k:Nat,k≤N∧iv=.int .i64 k∧Lies wr w.heap.size N (srF X V W k)∧Below w.heap.size w wr) (fun iv _=>N-(intOf iv).toNat)
   case atStart=>exact ⟨0,Nat.zero_le _,rfl,HL3.out,HB2.out⟩
   case round =>
    obtain ⟨k,hk,rfl,hlies,hbl⟩:=hrel
    by_cases hlt:k<N
    · have hcell:=hlies.cell (i:=k) (by omega)
      have hfro:=hlies.frozen k
      have hv0:srF X V W k k=D B64 X (W+k):=by unfold srF;rw [if_neg (by omega)]
      rw [hv0] at hcell
      obtain ⟨x0,hx0⟩:∃ x,D B64 X (W+k)=x:=⟨_,rfl⟩
      obtain ⟨x1,hx1⟩:∃ x,D B64 X (W+k+1)=x:=⟨_,rfl⟩
      have l0:x0<18446744073709551616:=by rw [←hx0];exact D64_lt _ _
      have l1:x1<18446744073709551616:=by rw [←hx1];exact D64_lt _ _
      obtain ⟨h0,hh0⟩:∃ x,x0 / 2^p=x:=⟨_,rfl⟩
      have lh0:h0<18446744073709551616:=by rw [←hh0];exact Nat.lt_of_le_of_lt (Nat.div_le_self _ _) l0
      have v1:(x0:Int) / 2^p=(h0:Int):=by rw [shr_word,hh0]
      have hfin:=HST.out k
      rw [hx0,hx1,hh0] at hfin
      rw [hx0] at hcell
      have hk0:(0:Int)≤(k:Int):=by omega
      have hk1:(k:Int)<(N:Int):=by omega
      have hstep:∀ (O:Nat),O=D B64 V k→∀ j,j<N→(if j=k then O else srF X V W k j)=srF X V W (k+1) j:=fun O hO j _=>by
       unfold srF
       by_cases e:j=k
       · rw [if_pos e,if_pos (by omega),hO,e]
       · rw [if_neg e]
         by_cases e2:j<k
         · rw [if_pos e2,if_pos (by omega)]
         · rw [if_neg e2,if_neg (by omega)]
      have HSTEP:=Lib.hid hstep
      have HLI:=Lib.hid hlies
      have HBL:=Lib.hid hbl
      clear hstep hlies hbl hx0 hv0 hh0
      by_cases hlast:k+1<N
      · have hc2:=HLI.out.cell (i:=k+1) hlast
        have hv2:srF X V W k (k+1)=x1:=by unfold srF;rw [if_neg (by omega),←Nat.add_assoc,hx1]
        rw [hv2] at hc2
        have hsl:x1*2^(64-p)%B64<18446744073709551616:=by have:=Nat.mod_lt (x1*2^(64-p)) B64_pos;rw [B64_eq] at this ⊢;exact this
        obtain ⟨S,hS⟩:∃ S,x1*2^(64-p)%B64=S:=⟨_,rfl⟩
        have v2:IntKind.u64.wrap ((x1:Int)*2^min (64-p) 64)=(S:Int):=by rw [Nat.min_eq_left (by omega),shl_word,←B64_eq,hS]
        rw [hS] at hsl hfin
        have v3:bits .or .u64 (h0:Int) (S:Int)=((h0 ||| S:Nat):Int):=bits_or_u64 h0 S lh0 hsl
        obtain ⟨O,hO⟩:∃ O,h0 ||| S=O:=⟨_,rfl⟩
        rw [hO] at v3 hfin
        have HF:=Lib.hid hfin
        have hk2:(k:Int)+1<(N:Int):=by omega
        have hkd:decide ((k:Int)+1<(N:Int))=true:=by simp;omega
        have i1:IntKind.i64.wrap ((k:Int)+1)=(k:Int)+1:=IntWalk.i64_in _ (by omega)
        have i2:(0:Int)≤(k:Int)+1:=by omega
        have i3:((k:Int)+1).toNat=k+1:=by omega
        have hW1:=HLI.out.set k h0
        have hca:=hW1.cell (i:=k) (by omega)
        have hcb:=hW1.cell (i:=k+1) hlast
        have hfa:=hW1.frozen k
        have hlen:k+1<N:=hlast
        rw [if_pos rfl] at hca
        rw [if_neg (by omega),hv2] at hcb
        have HW1:=Lib.hid hW1
        clear hx1 hv2 hS hO hfin hW1 hlast
        go_wp2_with fail
        go_region_law (fail)
        all_goals
         go_wp2
         go_roundw
         case rel =>
          rw [v2,v3]
          refine ⟨k+1,by omega,by go_num,(Lies.set (w:=(wr.setCell ⟨w.heap.size,k,none⟩ (.int .u64 (h0:Int))).drew) HW1.out k O).congr fun j hj=>?_,((HBL.out.setCell (Nat.le_refl _) _).drew).setCell (Nat.le_refl _) _⟩
          rw [←HSTEP.out O HF.out.symm j hj]
          by_cases e:j=k
          · rw [if_pos e,if_pos e]
          · rw [if_neg e,if_neg e,if_neg e]
         case measure=>simp [intOf]<;>omega
      · have hx10:x1=0:=by rw [←hx1];exact D_zero_of B64_pos HX.out.lt (by omega)
        rw [hx10,Nat.zero_mul,Nat.zero_mod,Nat.or_zero] at hfin
        have HF:=Lib.hid hfin
        have hkd:decide ((k:Int)+1<(N:Int))=false:=by simp;omega
        have i1:IntKind.i64.wrap ((k:Int)+1)=(k:Int)+1:=IntWalk.i64_in _ (by omega)
        clear hx1 hx10 hfin
        go_wp2
        go_roundw
        case rel=>exact ⟨k+1,by omega,by go_num,(HLI.out.set k h0).congr (HSTEP.out h0 HF.out.symm),HBL.out.setCell (Nat.le_refl _) _⟩
        case measure=>simp [intOf]<;>omega
    · obtain rfl:k=N:=by omega
      have hng:Ng wr (some ⟨w.heap.size,0,none⟩) k k V:=⟨HVL.out,Nat.le_refl _,(hlies.congr fun j hj=>by unfold srF;rw [if_pos hj]).rd⟩
      have HNG:=Lib.hid hng
      have HBL:=Lib.hid hbl
      have HOW:Hid (Own wr w.heap.size (.slice (some ⟨w.heap.size,0,none⟩) k k) k (nums .u64 (D B64 V) k)):=by
       obtain ⟨cur,T,h1,h2,h3⟩:=hlies.congr (f':=D B64 V) fun j hj=>by unfold srF;rw [if_pos hj]
       exact Lib.hid (Own.of_cells h1 (Nat.le_refl _) (Nat.le_refl _) (by unfold maxLen;omega) h2 h3)
      clear hng hlies hbl
      go_wp2_with fail
      refine (trim_any _ k k V _ (by omega) HNG.out).mono ?_
      rintro e w' ⟨q,hq,rfl,hnm,rfl⟩
      have HNM:=Lib.hid hnm
      clear hnm
      go_wp2
      go_ret
      exact ⟨_,q,k,by omega,rfl,HNM.out,HBL.out,fun z hz=>by simp [Value.ownBlock] at hz;omega,HOW.out.take hq⟩

theorem shiftRight_any (A:Option Addr) (n c X s W p:Nat) (w:World) (hn:n≤100000000) (hW:W≤100000000) (hs:s=64*W+p) (hp:p<64) (hx:Ng w A n c X) :
  Calls Tryz.prog 191 #[.slice A n c,.int .i64 (s:Int)] w (RetN w (X / (2^p*B64^W)) n) :=
 (shiftRight_own A n c X s W p w hn hW hs hp hx).mono fun _ _ ⟨A,n,c,h1,h2,h3,h4,h5,_⟩=>⟨A,n,c,h1,h2,h3,h4,h5⟩
end Go.Proofs.YtdbhahiieokplaaGreatDoor
