import Derived.Test.YtdbhahiieokplaaGreatDoorGRNC
import Derived.Test.YtdbhahiieokplaaGreatDoorGShelf
set_option linter.unusedSimpArgs false
set_option linter.unusedVariables false

namespace Go.Proofs.YtdbhahiieokplaaGreatDoor
open Go.RowKit
attribute [local go_sem ↓] Go.wp_at_zero Go.wp_at_succ

theorem bitLen_bounds:∀ x:Nat,x≠0→x<2^64→1≤Lib.bitLen x∧2^(Lib.bitLen x-1)≤x∧x<2^Lib.bitLen x:=by
 intro x
 induction x using Nat.strongRecOn with
 | _ x ih =>
   intro h0 h
   rw [Lib.bitLen_half x h0 h]
   by_cases e:x / 2=0
   · have:x=1:=by omega
     subst this
     decide
   · obtain ⟨h1,h2,h3⟩:=ih (x / 2) (by omega) e (by omega)
     have e1:1+Lib.bitLen (x / 2)-1=(Lib.bitLen (x / 2)-1)+1:=by omega
     rw [e1,Nat.pow_succ,Nat.add_comm 1,Nat.pow_succ]
     omega

theorem D_pos {b V n:Nat} (hb:0<b) (h1:b^n≤V) (h2:V<b^(n+1)):D b V n≠0:=by
 unfold D
 have hp:0<b^n:=Nat.pow_pos hb
 have a1:1≤V / b^n:=(Nat.le_div_iff_mul_le hp).2 (by omega)
 have a2:V / b^n<b:=Nat.div_lt_of_lt_mul (by rwa [Nat.pow_succ] at h2)
 rw [Nat.mod_eq_of_lt a2]
 omega

theorem sgn_enc {neg:Bool} {f:Nat→Nat} {n V:Nat} (hf:∀ i,i<n→f i<256) (h0:0<n→f 0≠0) (hV:val 256 (fun i=>f (n-1-i)) n=V) (hn:V≠0) :
  Value.agg #[.bool neg,.string (bytesOf f n)]=enc (sgn neg V):=by
 have hv:bval (bytesOf f n)=V:=by rw [bytesOf_val hf,hV]
 refine enc_eq ⟨bytesOf_lead h0 hf,fun h=>?_⟩ (by unfold ival sgn;rw [hv])
 rw [bytesOf_size] at h
 subst h
 rw [←hV] at hn
 simp [val] at hn

theorem word_places (v:Nat) (h0:v≠0) (h:v<18446744073709551616):∃ lz z,z<8∧64-Lib.bitLen v=lz∧lz / 8=z∧lz≤63∧256^(7-z)≤v∧v<256^(8-z):=by
 obtain ⟨h1,h2,h3⟩:=bitLen_bounds v h0 (by omega)
 have h4:=Lib.bitLen_le v 64 (by omega) (by omega)
 refine ⟨_,(64-Lib.bitLen v) / 8,by omega,rfl,rfl,by omega,?_,?_⟩
 · have e:(256:Nat)^(7-(64-Lib.bitLen v) / 8)=2^(8*(7-(64-Lib.bitLen v) / 8)):=by rw [Nat.pow_mul]
   rw [e]
   exact Nat.le_trans (Nat.pow_le_pow_right (by omega) (by omega)) h2
 · have e:(256:Nat)^(8-(64-Lib.bitLen v) / 8)=2^(8*(8-(64-Lib.bitLen v) / 8)):=by rw [Nat.pow_mul]
   rw [e]
   exact Nat.lt_of_lt_of_le h3 (Nat.pow_le_pow_right (by omega) (by omega))

theorem lz_any (v lz:Nat) (h:64-Lib.bitLen v=lz) (hv:v<18446744073709551616) (w:World) :
  Calls Tryz.prog 166 #[.int .u64 (v:Int)] w (RetV w (.int .i64 (lz:Int))) :=
 (Tryz.bits_LeadingZeros64 (v:Int) w (by omega) (by omega)).mono fun e w' ⟨he,hw⟩=>by
  have:=Lib.bitLen_le v 64 (by omega) (by omega)
  refine ⟨?_,hw.symm⟩
  rw [he,Int.toNat_natCast,←h]
  congr 2
  omega

theorem D_shift (v m:Nat):(v:Int) / 2^(8*m)%256=((D 256 v m:Nat):Int):=by
 unfold D
 have e:(256:Nat)^m=2^(8*m):=by rw [Nat.pow_mul]
 rw [e]
 simp

theorem len8:Tryz.prog.arrayLen 184=8:=by kernel_rfl
theorem size8 (w:World):(sizeOf (Tryz.prog.elem 184)).run Tryz.prog w=.ok 1 w:=by kernel_rfl
theorem under8:Tryz.prog.underlying 184=some (.array (Tryz.prog.arrayLen 184) (Tryz.prog.elem 184)):=by kernel_rfl

theorem slice8 (g z:Nat) (hz:z<8) (w:World):(Instr.sliceAt 184 (.pointer (some ⟨g,0,none⟩)) (some (.int .i64 (z:Int))) none none).run Tryz.prog w=.ok (.slice (some ⟨g,z,none⟩) (8-z) (8-z)) w:=by
 have h:=run_sliceAt_array_l w 184 ⟨g,0,none⟩ under8 .i64 (z:Int) (by omega) (by rw [len8];omega)
 rw [h,size8,len8]
 simp [slicedAt,Result.andThen,Addr.add_lit]
 omega

theorem sgn_zero (neg:Bool):sgn neg 0=0:=by cases neg<;>rfl
theorem enc_zero:enc 0=.agg #[.bool false,.string ⟨#[]⟩]:=by
 have h:(mag 0)=⟨#[]⟩:=by unfold mag;rw [magL_zero]
 unfold enc
 rw [show (0:Int).natAbs=0 from rfl,h]
 rfl

set_option maxHeartbeats 1000000 in
set_option maxRecDepth 100000 in
theorem packWord_any (neg:Bool) (v:Nat) (hv:v<18446744073709551616) (w:World) :
  Calls Tryz.prog 145 #[.bool neg,.int .u64 (v:Int)] w (RetZ w (sgn neg v)):=by
 by_cases h0:v=0
 · subst h0
   go_enter Tryz.func145,Tryz.ntmps145
   go_wp2
   exact bodyPost_ret (v:=.agg #[.bool false,.string ⟨#[]⟩]) (by simp [results,Tryz.results145,go_sem]) rfl ⟨by rw [sgn_zero,enc_zero],(Below.refl _ _).alloc (Nat.le_refl _) _⟩
 · obtain ⟨lz,z,hz,hlz,hzz,hl,hlo,hhi⟩:=word_places v h0 hv
   have HLZ:=Lib.hid hlz
   have hq:(lz:Int) / 8=(z:Int):=by omega
   have HLO:=Lib.hid hlo
   have HHI:=Lib.hid hhi
   have H0:=Lib.hid h0
   have hne:((v:Int)==0)=false:=by simp;omega
   clear hzz hlo hhi h0 hlz
   go_enter Tryz.func145,Tryz.ntmps145
   go_wp2
   go_loopw [10] (fun i wr=>∃ k:Nat,k≤8∧i=.int .i64 k∧wr.rowIs (w.heap.size+1) 184 8 (fun j=>.int .u8 ((if j<k then D 256 v (7-j) else 0:Nat):Int)) ∧
    Below (w.heap.size+1) (w.alloc (.cells #[.bool false,.string ⟨#[]⟩] 23)) wr) (fun i _=>8-(intOf i).toNat)
   case atStart =>
    refine ⟨0,by omega,rfl,?_,(Below.refl _ _).alloc (by simp) _⟩
    refine ⟨_,heap_two _ _ _,rfl,fun i hi=>?_⟩
    match i,hi with
    | 0,_ | 1,_ | 2,_ | 3,_ | 4,_ | 5,_ | 6,_ | 7,_=>rfl
   case round =>
    obtain ⟨k,hk,rfl,hrow,hbl⟩:=hrel
    by_cases hlt:k<8
    · have hcs:=hrow.cell (i:=k) (by omega)
      have hfs:=hrow.frozen k
      go_wp2
      go_roundw
      case rel =>
       refine ⟨k+1,by omega,by go_num,(hrow.set k _).congr fun m hm=>?_,hbl.setCell (by simp) _⟩
       by_cases e:m=k
       · rw [if_pos e,if_pos (by omega),D_shift,e]
       · rw [if_neg e]
         by_cases e2:m<k
         · rw [if_pos e2,if_pos (by omega)]
         · rw [if_neg e2,if_neg (by omega)]
      case measure=>simp [intOf]<;>omega
    · obtain rfl:k=8:=by omega
      have hstr:=str_of_cells wr 159 9 5 Tryz.underlying159 Tryz.underlying5 Tryz.underlying9 (w.heap.size+1) z (8-z) (8-z) (fun i=>D 256 v (7-(z+i))) (fun i hi=>D_lt (by omega) _ _) (fun i hi=>by
       rw [hrow.cell (by omega),if_pos (by omega)])
      obtain ⟨q0,q1,f0,f1⟩:=res2 (g:=w.heap.size) (by exact heap_one _ _) hbl (by simp)
      have hsl:=slice8 (w.heap.size+1) z hz
      go_wp2_with fail
      refine (lz_any v lz HLZ.out hv _).mono ?_
      rintro e w' ⟨rfl,rfl⟩
      go_wp2
      refine bodyPost_ret (v:=.agg #[.bool neg,.string (bytesOf (fun i=>D 256 v (7-(z+i))) (8-z))]) (by simp [results,Tryz.results145,go_sem,q0,q1]) rfl ⟨?_,?_⟩
      · refine congrArg Ending.returned (sgn_enc (fun i hi=>D_lt (by omega) _ _) (fun h=>?_) ?_ H0.out)
        · exact D_pos (by omega) HLO.out (by have:=HHI.out;rwa [show 7-(z+0)+1=8-z by omega])
        · rw [val_congr (g:=D 256 v) (fun i hi=>by rw [show 7-(z+(8-z-1-i))=i by omega]),val_D,Nat.mod_eq_of_lt HHI.out]
      · exact ((((Below.refl _ _).alloc (Nat.le_refl _) _).trans (hbl.mono (by omega))).setCell (by simp) _).setCell (by simp) _
end Go.Proofs.YtdbhahiieokplaaGreatDoor


namespace Go.Proofs.YtdbhahiieokplaaGreatDoor
open Go.RowKit
attribute [local go_sem ↓] Go.wp_at_zero Go.wp_at_succ

set_option maxHeartbeats 1000000 in
set_option maxRecDepth 100000 in
theorem fromInt_any (n:Int) (h1:-9223372036854775808≤n) (h2:n≤9223372036854775807) (w:World) :
  Calls Tryz.prog 132 #[.int .i64 n] w (RetZ w n):=by
 by_cases hn:n<0
 · obtain ⟨v,rfl⟩:∃ v:Nat,n=-(v:Int):=⟨n.natAbs,by omega⟩
   have e:IntKind.u64.wrap (-IntKind.u64.wrap (-(v:Int)))=(v:Int):=by rw [IntKind.wrap_u64,IntKind.wrap_u64];omega
   have E:=Lib.hid e
   clear e
   go_enter Tryz.func132,Tryz.ntmps132
   go_wp2_with fail
   rw [E.out]
   refine (packWord_any true v (by omega) _).mono ?_
   rintro e w1 ⟨rfl,hb1⟩
   obtain ⟨bz,mz,hbm⟩:=enc_form (sgn true v)
   rw [hbm]
   have HBM:=Lib.hid hbm
   clear hbm
   obtain ⟨q0,q1,f0,f1⟩:=res2 (g:=w.heap.size) (by exact heap_one _ _) hb1 (by simp)
   go_wp2
   refine bodyPost_ret (v:=.agg #[.bool bz,.string mz]) (by simp [results,Tryz.results132,go_sem,q0,q1]) rfl ⟨by rw [←HBM.out];rfl,?_⟩
   have h0:Below w.heap.size w (w.alloc (.cells #[.bool false,.string ⟨#[]⟩] 23)):=(Below.refl _ _).alloc (Nat.le_refl _) _
   exact ((h0.trans (hb1.mono h0.size)).setCell (by simp) _).setCell (by simp) _
 · obtain ⟨v,rfl⟩:∃ v:Nat,n=(v:Int):=⟨n.natAbs,by omega⟩
   go_enter Tryz.func132,Tryz.ntmps132
   go_wp2_with fail
   refine (packWord_any false v (by omega) _).mono ?_
   rintro e w1 ⟨rfl,hb1⟩
   obtain ⟨bz,mz,hbm⟩:=enc_form (sgn false v)
   rw [hbm]
   have HBM:=Lib.hid hbm
   clear hbm
   obtain ⟨q0,q1,f0,f1⟩:=res2 (g:=w.heap.size) (by exact heap_one _ _) hb1 (by simp)
   go_wp2
   refine bodyPost_ret (v:=.agg #[.bool bz,.string mz]) (by simp [results,Tryz.results132,go_sem,q0,q1]) rfl ⟨by rw [←HBM.out];rfl,?_⟩
   have h0:Below w.heap.size w (w.alloc (.cells #[.bool false,.string ⟨#[]⟩] 23)):=(Below.refl _ _).alloc (Nat.le_refl _) _
   exact ((h0.trans (hb1.mono h0.size)).setCell (by simp) _).setCell (by simp) _

def RetQ (w:World) (q r:Int) (err:Int) (e:Ending) (w':World):Prop:=e=.returned (.tuple #[enc q,enc r,.int .i64 err])∧Below w.heap.size w w'

theorem div_unique {a b q r:Int} (hb:b≠0) (h:a=b*q+r) (h0:0≤r) (h1:r<b.natAbs):a / b=q∧a%b=r:=by
 rcases Int.lt_or_gt_of_ne hb with hneg | hpos
 · have h2:=(Int.ediv_emod_unique (a:=a) (b:=-b) (r:=r) (q:=-q) (by omega)).2 ⟨by rw [Int.neg_mul_neg,h];omega,h0,by omega⟩
   rw [Int.ediv_neg,Int.emod_neg] at h2
   exact ⟨by omega,h2.2⟩
 · exact (Int.ediv_emod_unique hpos).2 ⟨by rw [h];omega,h0,by omega⟩

theorem div_signs (na nb:Bool) {x y q r:Nat} (h:x=y*q+r) (hr:r<y) :
  sgn na x / sgn nb y=(if na∧0<r then sgn (na != nb) (q+1) else sgn (na != nb) q)∧sgn na x%sgn nb y=(if na∧0<r then ((y-r:Nat):Int) else (r:Int)):=by
 have hx:(x:Int)=(y:Int)*(q:Int)+(r:Int):=by rw [h];simp
 have hm:(y:Int)*((q:Int)+1)=(y:Int)*(q:Int)+y:=by rw [Int.mul_add,Int.mul_one]
 have hs:∀ (b:Bool) (v:Nat),sgn b v=if b then -(v:Int) else v:=fun _ _=>rfl
 apply div_unique
 · rw [hs];split<;>omega
 · cases na<;>cases nb<;>simp only [hs]<;>by_cases h0:0<r<;>simp [h0]<;>simp only [Int.mul_neg,Int.neg_mul,Int.neg_neg,hm,hx]<;>omega
 · split<;>omega
 · rw [hs];split<;>split<;>omega

set_option maxHeartbeats 2000000 in
set_option maxRecDepth 100000 in
theorem divModWords_any (na nb:Bool) (x y:Nat) (hx:x<18446744073709551616) (hy:y<18446744073709551616) (h0:y≠0) (w:World) :
  Calls Tryz.prog 169 #[.bool na,.bool nb,.int .u64 (x:Int),.int .u64 (y:Int)] w (RetQ w (sgn na x / sgn nb y) (sgn na x%sgn nb y) 0):=by
 obtain ⟨q,r,hq,hr⟩:∃ q r,x=y*q+r∧r<y:=⟨x / y,x%y,(Nat.div_add_mod x y).symm,Nat.mod_lt _ (by omega)⟩
 have hqx:q≤x:=by rw [hq];exact Nat.le_trans (Nat.le_mul_of_pos_left q (by omega)) (Nat.le_add_right _ _)
 have hqr:0<r→q+1≤x:=fun h=>by
  have:q*1≤q*y:=Nat.mul_le_mul_left _ (by omega)
  rw [hq,Nat.mul_comm]
  omega
 obtain ⟨hd1,hd2⟩:=div_signs na nb hq hr
 have hi:(x:Int)=(y:Int)*(q:Int)+(r:Int):=by rw [hq];simp
 obtain ⟨e1,e2⟩:=div_unique (a:=(x:Int)) (b:=(y:Int)) (q:=(q:Int)) (r:=(r:Int)) (by omega) hi (by omega) (by omega)
 have HD1:=Lib.hid hd1
 have HD2:=Lib.hid hd2
 clear hd1 hd2 hi hq
 have hy1:1≤y:=by omega
 have hne:¬(y:Int)=0:=by omega
 have e3:IntKind.u64.wrap (q:Int)=(q:Int):=by rw [IntKind.wrap_u64];omega
 have e4:IntKind.u64.wrap (r:Int)=(r:Int):=by rw [IntKind.wrap_u64];omega
 go_enter Tryz.func169,Tryz.ntmps169
 go_wp2
 go_quiet (fail)
 clear e3 e4
 by_cases hr0:0<r
 · cases na
   · clear hqr
     go_wp2_with fail
     refine (packWord_any _ _ (by omega) _).mono fun e w1 h=>?_
     obtain ⟨b1,m1,HB1,rfl,hb1⟩:=h.form
     go_wp2_with fail
     refine (packWord_any _ _ (by omega) _).mono fun e w2 h=>?_
     obtain ⟨b2,m2,HB2,rfl,hb2⟩:=h.form
     have hb3:=hb1.trans (hb2.mono hb1.size)
     obtain ⟨p0,p1,g0,g1⟩:=res2 (g:=w.heap.size) (by exact heap_fst _ _ _) hb3 (by show _<((w.alloc _).alloc _).heap.size;simp<;>omega)
     obtain ⟨q0,q1,f0,f1⟩:=res2 (g:=w.heap.size+1) (by exact heap_two _ _ _) hb3 (by show _<((w.alloc _).alloc _).heap.size;simp<;>omega)
     have HB3:=Lib.hid hb3
     clear h hb1 hb2 hb3 e1 e2
     go_wp2
     refine bodyPost_ret (v:=.tuple #[.agg #[.bool b1,.string m1],.agg #[.bool b2,.string m2],.int .i64 0]) (by simp [results,Tryz.results169,go_sem,p0,p1,q0,q1]) rfl ⟨?_,?_⟩
     · rw [HD1.out,HD2.out,←HB1.out,←HB2.out]
       simp [hr0]
       try rfl
     · have hx0:=HB3.out
       refine ((((Below.trans ?_ (hx0.mono (B':=w.heap.size) (by show _≤((w.alloc _).alloc _).heap.size;simp<;>omega))).setCell (by simp) _).setCell (by simp) _).setCell (by simp) _).setCell (by simp) _
       exact below_draws (((Below.refl _ _).alloc (Nat.le_refl _) _).alloc (by simp) _) _
   · have hq1:=hqr hr0
     clear hqr
     go_wp2_with fail
     rw [show (q:Int)+1=((q+1:Nat):Int) from by omega]
     refine (packWord_any _ _ (by omega) _).mono fun e w1 h=>?_
     obtain ⟨b1,m1,HB1,rfl,hb1⟩:=h.form
     go_wp2_with fail
     rw [show (y:Int)-(r:Int)=((y-r:Nat):Int) from by omega]
     refine (packWord_any _ _ (by omega) _).mono fun e w2 h=>?_
     obtain ⟨b2,m2,HB2,rfl,hb2⟩:=h.form
     have hb3:=hb1.trans (hb2.mono hb1.size)
     obtain ⟨p0,p1,g0,g1⟩:=res2 (g:=w.heap.size) (by exact heap_fst _ _ _) hb3 (by show _<((w.alloc _).alloc _).heap.size;simp<;>omega)
     obtain ⟨q0,q1,f0,f1⟩:=res2 (g:=w.heap.size+1) (by exact heap_two _ _ _) hb3 (by show _<((w.alloc _).alloc _).heap.size;simp<;>omega)
     have HB3:=Lib.hid hb3
     clear h hb1 hb2 hb3 e1 e2
     go_wp2
     refine bodyPost_ret (v:=.tuple #[.agg #[.bool b1,.string m1],.agg #[.bool b2,.string m2],.int .i64 0]) (by simp [results,Tryz.results169,go_sem,p0,p1,q0,q1]) rfl ⟨?_,?_⟩
     · rw [HD1.out,HD2.out,←HB1.out,←HB2.out]
       simp [hr0]
       try rfl
     · have hx0:=HB3.out
       refine ((((Below.trans ?_ (hx0.mono (B':=w.heap.size) (by show _≤((w.alloc _).alloc _).heap.size;simp<;>omega))).setCell (by simp) _).setCell (by simp) _).setCell (by simp) _).setCell (by simp) _
       exact below_draws (((Below.refl _ _).alloc (Nat.le_refl _) _).alloc (by simp) _) _
 · cases na
   · clear hqr
     go_wp2_with fail
     refine (packWord_any _ _ (by omega) _).mono fun e w1 h=>?_
     obtain ⟨b1,m1,HB1,rfl,hb1⟩:=h.form
     go_wp2_with fail
     refine (packWord_any _ _ (by omega) _).mono fun e w2 h=>?_
     obtain ⟨b2,m2,HB2,rfl,hb2⟩:=h.form
     have hb3:=hb1.trans (hb2.mono hb1.size)
     obtain ⟨p0,p1,g0,g1⟩:=res2 (g:=w.heap.size) (by exact heap_fst _ _ _) hb3 (by show _<((w.alloc _).alloc _).heap.size;simp<;>omega)
     obtain ⟨q0,q1,f0,f1⟩:=res2 (g:=w.heap.size+1) (by exact heap_two _ _ _) hb3 (by show _<((w.alloc _).alloc _).heap.size;simp<;>omega)
     have HB3:=Lib.hid hb3
     clear h hb1 hb2 hb3 e1 e2
     go_wp2
     refine bodyPost_ret (v:=.tuple #[.agg #[.bool b1,.string m1],.agg #[.bool b2,.string m2],.int .i64 0]) (by simp [results,Tryz.results169,go_sem,p0,p1,q0,q1]) rfl ⟨?_,?_⟩
     · rw [HD1.out,HD2.out,←HB1.out,←HB2.out]
       simp [hr0]
       try rfl
     · have hx0:=HB3.out
       refine ((((Below.trans ?_ (hx0.mono (B':=w.heap.size) (by show _≤((w.alloc _).alloc _).heap.size;simp<;>omega))).setCell (by simp) _).setCell (by simp) _).setCell (by simp) _).setCell (by simp) _
       exact below_draws (((Below.refl _ _).alloc (Nat.le_refl _) _).alloc (by simp) _) _
   · clear hqr
     go_wp2_with fail
     refine (packWord_any _ _ (by omega) _).mono fun e w1 h=>?_
     obtain ⟨b1,m1,HB1,rfl,hb1⟩:=h.form
     go_wp2_with fail
     refine (packWord_any _ _ (by omega) _).mono fun e w2 h=>?_
     obtain ⟨b2,m2,HB2,rfl,hb2⟩:=h.form
     have hb3:=hb1.trans (hb2.mono hb1.size)
     obtain ⟨p0,p1,g0,g1⟩:=res2 (g:=w.heap.size) (by exact heap_fst _ _ _) hb3 (by show _<((w.alloc _).alloc _).heap.size;simp<;>omega)
     obtain ⟨q0,q1,f0,f1⟩:=res2 (g:=w.heap.size+1) (by exact heap_two _ _ _) hb3 (by show _<((w.alloc _).alloc _).heap.size;simp<;>omega)
     have HB3:=Lib.hid hb3
     clear h hb1 hb2 hb3 e1 e2
     go_wp2
     refine bodyPost_ret (v:=.tuple #[.agg #[.bool b1,.string m1],.agg #[.bool b2,.string m2],.int .i64 0]) (by simp [results,Tryz.results169,go_sem,p0,p1,q0,q1]) rfl ⟨?_,?_⟩
     · rw [HD1.out,HD2.out,←HB1.out,←HB2.out]
       simp [hr0]
       try rfl
     · have hx0:=HB3.out
       refine ((((Below.trans ?_ (hx0.mono (B':=w.heap.size) (by show _≤((w.alloc _).alloc _).heap.size;simp<;>omega))).setCell (by simp) _).setCell (by simp) _).setCell (by simp) _).setCell (by simp) _
       exact below_draws (((Below.refl _ _).alloc (Nat.le_refl _) _).alloc (by simp) _) _
end Go.Proofs.YtdbhahiieokplaaGreatDoor
