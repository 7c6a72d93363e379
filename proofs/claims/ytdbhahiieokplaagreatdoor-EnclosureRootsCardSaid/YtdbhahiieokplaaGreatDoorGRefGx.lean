import Derived.Test.YtdbhahiieokplaaGreatDoorGRefG
import Derived.Test.YtdbhahiieokplaaGreatDoorGRNCx
import Derived.Test.YtdbhahiieokplaaGreatDoorGRefAx
import Derived.Test.YtdbhahiieokplaaGreatDoorGRNC
set_option linter.unusedSimpArgs false
set_option linter.unusedVariables false

namespace Go.Proofs.YtdbhahiieokplaaGreatDoor
open Go.RowKit
attribute [local go_sem ↓] Go.wp_at_zero Go.wp_at_succ

theorem prod_step {b X Y i n m:Nat} (hb:2≤b) (hY:Y<b^m) (hi:i<n) (j:Nat) :
  (if i≤j∧j<i+(m+1) then D b (X%b^i*Y / b^i+D b X i*Y) (j-i) else D b (X%b^i*Y) j)=D b (X%b^(i+1)*Y) j:=by
 have hp:0<b^i:=Nat.pow_pos (by omega)
 have hP2:X%b^(i+1)*Y=X%b^i*Y+b^i*(D b X i*Y):=by rw [mod_succ,Nat.add_mul,Nat.mul_assoc]
 have hU:X%b^(i+1)*Y / b^i=X%b^i*Y / b^i+D b X i*Y:=by rw [hP2,Nat.add_mul_div_left _ _ hp]
 have hxi:X%b^i<b^i:=Nat.mod_lt _ hp
 have hxi1:X%b^(i+1)<b^(i+1):=Nat.mod_lt _ (Nat.pow_pos (by omega))
 have hPlt:X%b^i*Y<b^(i+m):=by rw [Nat.pow_add];exact Nat.mul_lt_mul'' hxi hY
 have hP1lt:X%b^(i+1)*Y<b^(i+1+m):=by rw [Nat.pow_add b (i+1)];exact Nat.mul_lt_mul'' hxi1 hY
 by_cases e:i≤j∧j<i+(m+1)
 · rw [if_pos e,D_high (P:=X%b^(i+1)*Y) (k:=i) e.1,hU]
 · rw [if_neg e]
   by_cases e3:j<i
   · rw [hP2,D_low (by omega) e3]
   · rw [D_zero_of (by omega) hPlt (by omega),D_zero_of (by omega) hP1lt (by omega)]

set_option maxHeartbeats 4000000 in
set_option maxRecDepth 100000 in
theorem product_any (A B:Option Addr) (n m c d X Y:Nat) (w:World) (hn:n≤100000000) (hm:m≤100000000) (hx:Dg w .i64 256 A n X) (hy:Dg w .i64 256 B m Y) :
  Calls Tryz.prog 163 #[.slice A n c,.slice B m d] w (RetG w .i64 256 (X*Y) (n+m+1)):=by
 have HX:=Lib.hid hx
 have HY:=Lib.hid hy
 clear hx hy
 have hmk:=fun W=>run_make_row' (P:=Tryz.prog) 98 3 (.int .i64 0) 8 Tryz.underlying98 intTy_info rfl .i64 .i64 (n+m+1) (by omega) (by omega) W
 have ec:((n+m+1:Nat):Int)=(n:Int)+(m:Int)+1:=by omega
 rw [ec] at hmk
 clear ec
 go_enter Tryz.func163,Tryz.ntmps163
 go_wp2
 go_loopw [6] (fun iv wr=>∃ i:Nat,i≤n∧iv=.int .i64 i∧wr.rowIs w.heap.size 3 (n+m+1) (fun j=>.int .i64 (D 256 (X%256^i*Y) j:Int))∧Below w.heap.size w wr) (fun iv _=>n-(intOf iv).toNat)
 case atStart =>
  refine ⟨0,Nat.zero_le _,rfl,(World.rowIs_made w (.int .i64 0) (n+m+1) 3).congr fun j hj=>?_,(Below.refl _ _).alloc (Nat.le_refl _) _⟩
  simp [D,Nat.mod_one]
 case round =>
  obtain ⟨i,hi,rfl,hrow,hbl⟩:=hrel
  by_cases hlt:i<n
  · obtain ⟨wo,rfl⟩:∃ wo:World,wo=wr:=⟨_,rfl⟩
    obtain ⟨g,o,rfl,hg,hcx⟩:=HX.out.rd (by omega)
    have hxi0:=hcx i hlt
    clear hcx
    have hdx:=D_lt (b:=256) (by omega) X i
    have HROW:=Lib.hid hrow
    have HBL:=Lib.hid hbl
    clear hrow hbl
    go_wp2
    go_loopw [7,8] (fun cy kv wr=>∃ k:Nat,k≤m+1∧kv=.int .i64 k∧cy=.int .i64 (car 256 (X%256^i*Y / 256^i) (D 256 X i) Y k:Nat) ∧
     wr.rowIs w.heap.size 3 (n+m+1) (fun j=>.int .i64 ((if i≤j∧j<i+k then D 256 (X%256^i*Y / 256^i+D 256 X i*Y) (j-i) else D 256 (X%256^i*Y) j:Nat):Int))∧Below w.heap.size w wr) (fun _ kv _=>m+1-(intOf kv).toNat)
    case atStart =>
     refine ⟨0,Nat.zero_le _,rfl,by rw [car_zero];rfl,HROW.out.congr fun j hj=>?_,HBL.out⟩
     rw [if_neg (by omega)]
    case round =>
     obtain ⟨k,hk,rfl,rfl,hrow,hbl⟩:=hrel
     by_cases hkt:k<m+1
     · have hxi:wr.cell? ⟨g,o+i,none⟩=some (.int .i64 (D 256 X i:Int)):=(hbl.cell (p:=⟨g,o+i,none⟩) hg).trans hxi0
       have hci:=hrow.cell (i:=i+k) (by omega)
       have hfi:=hrow.frozen (i+k)
       rw [if_neg (by omega)] at hci
       have hDh:D 256 (X%256^i*Y) (i+k)=D 256 (X%256^i*Y / 256^i) k:=by rw [D_high (k:=i) (by omega),Nat.add_sub_cancel_left]
       rw [hDh] at hci
       obtain ⟨hs1,hs2⟩:=car_step (b:=256) (by omega) (X%256^i*Y / 256^i) (D 256 X i) Y k
       have hcl:=car_lt (b:=256) (by omega) hdx (X%256^i*Y / 256^i) Y k
       have hdu:=D_lt (b:=256) (by omega) (X%256^i*Y / 256^i) k
       have hdy:=D_lt (b:=256) (by omega) Y k
       have hpb:D 256 X i*D 256 Y k≤255*255:=Nat.mul_le_mul (by omega) (by omega)
       have hpe:((D 256 X i:Nat):Int)*((D 256 Y k:Nat):Int)=((D 256 X i*D 256 Y k:Nat):Int):=by simp
       have HYr:=Lib.hid (HY.out.below hbl)
       have HR:=Lib.hid hrow
       generalize D 256 X i*D 256 Y k=p at *
       generalize car 256 (X%256^i*Y / 256^i) (D 256 X i) Y k=cy at *
       generalize hug:D 256 (X%256^i*Y / 256^i) k=u at *
       have HS1:=Lib.hid hs1
       have HS2:=Lib.hid hs2
       have hi1:(0:Int)≤(i:Int)+(k:Int):=by omega
       have hi2:(i:Int)+(k:Int)<(n:Int)+(m:Int)+1:=by omega
       have hi3:((i:Int)+(k:Int)).toNat=i+k:=by omega
       have e0:IntKind.i64.wrap ((i:Int)+(k:Int))=(i:Int)+(k:Int):=IntWalk.i64_in _ (by omega)
       have e1:IntKind.i64.wrap (p:Int)=(p:Int):=IntWalk.i64_in _ (by omega)
       have e2:IntKind.i64.wrap ((u:Int)+(p:Int))=(u:Int)+(p:Int):=IntWalk.i64_in _ (by omega)
       have e3:IntKind.i64.wrap ((u:Int)+(p:Int)+(cy:Int))=(u:Int)+(p:Int)+(cy:Int):=IntWalk.i64_in _ (by omega)
       have HUG:=Lib.hid hug
       clear hs1 hs2 hDh hrow hug
       go_wp2_with fail
       go_quiet ((go_at_call 185;exact quietV (at_any B m d Y k _ (by omega) (by omega) (HYr.out.drewN _))))
       clear e0 e1 e2 e3
       go_wp2
       go_roundw
       case rel =>
        refine ⟨k+1,by omega,by go_num,by rw [←HS1.out];go_num,(World.rowIs.set (w:=wr.drewN nq) HR.out (i+k) _).congr fun j hj=>?_,(below_draws hbl nq).setCell (Nat.le_refl _) _⟩
        by_cases e:j=i+k
        · rw [if_pos e,if_pos (by omega),e,Nat.add_sub_cancel_left,←HS2.out];go_num
        · rw [if_neg e]
          by_cases e2:i≤j∧j<i+k
          · rw [if_pos e2,if_pos (by omega)]
          · rw [if_neg e2,if_neg (by omega)]
       case measure=>simp [intOf]<;>omega
     · obtain rfl:k=m+1:=by omega
       have hn2:wr.rowIs w.heap.size 3 (n+m+1) (fun j=>.int .i64 (D 256 (X%256^(i+1)*Y) j:Int)):=hrow.congr fun j hj=>by
        rw [prod_step (b:=256) (by omega) HY.out.lt hlt j]
       clear hrow
       go_wp2
       go_roundw
       case rel=>exact ⟨i+1,by omega,by go_num,hn2,hbl⟩
       case measure=>simp [intOf]<;>omega
  · obtain rfl:i=n:=by omega
    have hXm:X%256^i=X:=Nat.mod_eq_of_lt HX.out.lt
    rw [hXm] at hrow
    have HR:=Lib.hid hrow
    clear hXm hrow
    go_wp2
    go_ret
    refine ⟨_,i+m+1,_,Nat.le_refl _,rfl,⟨?_,fun _=>⟨_,0,rfl,HR.out.lt,fun j hj=>?_⟩⟩,hbl⟩
    · rw [Nat.pow_succ,Nat.pow_add]
      have h1:=Nat.mul_lt_mul'' HX.out.lt HY.out.lt
      omega
    · rw [Nat.zero_add];exact HR.out.cell hj
end Go.Proofs.YtdbhahiieokplaaGreatDoor


namespace Go.Proofs.YtdbhahiieokplaaGreatDoor
open Go.RowKit
attribute [local go_sem ↓] Go.wp_at_zero Go.wp_at_succ

theorem digits_end {V k:Nat} (hV:V≤9223372036854775808) (h:V / 256^k≠0):k<8:=by
 rcases Nat.lt_or_ge k 8 with h1 | h1
 · exact h1
 · have h2:(256:Nat)^8≤256^k:=Nat.pow_le_pow_right (by omega) h1
   have h3:(256:Nat)^8=18446744073709551616:=by decide
   exact absurd (Nat.div_eq_of_lt (by omega)) h

theorem digits_all {V k:Nat} (h:V / 256^k=0):V<256^k:=by
 have hp:0<256^k:=Nat.pow_pos (by omega)
 rcases Nat.lt_or_ge V (256^k) with h1 | h1
 · exact h1
 · have:=Nat.div_pos h1 hp
   omega

set_option maxHeartbeats 2000000 in
set_option maxRecDepth 100000 in
theorem refFromInt_pos (V:Nat) (hV:V≤9223372036854775807) (w:World) :
  Calls Tryz.prog 65 #[.int .i64 (V:Int)] w (RetZ w V):=by
 obtain ⟨i0,hi,hz0,hz1,hz2⟩:=info_parts intTy_info
 have hn0:decide ((V:Int)<0)=false:=by simp<;>omega
 go_enter Tryz.func65,Tryz.ntmps65
 go_wp2
 go_loopw [0,3] (fun nv out wr=>∃ k q:Nat,k≤8∧Hid (V / 256^k=q)∧nv=.int .i64 (q:Int)∧q≤V∧wr.ownsRow (w.heap.size+1) 3 1 out k (nums .i64 (D 256 V) k)∧Below (w.heap.size+1) (w.alloc (.cells #[.bool false,.string ⟨#[]⟩] 23)) wr∧w.heap.size+1≤wr.heap.size)
  (fun nv _ _=>(intOf nv).toNat)
 case atStart=>exact ⟨0,V,by omega,by show _=_;simp,rfl,Nat.le_refl _,World.ownsRow_nil _ _ _ _,by simpa using Below.refl _ _,by simp⟩
 case round =>
  obtain ⟨k,q,hk,HQ,rfl,hqV,hown,hbl,hsz⟩:=hrel
  by_cases h0:q=0
  · subst h0
    have hlt:=digits_all HQ.out
    obtain ⟨A1,c1,rfl,hr1⟩:=Rd.of_own hown
    have HD:=Lib.hid (show Dg wr .i64 256 A1 k V from ⟨hlt,hr1⟩)
    clear hlt hr1 hown
    go_wp2_with fail
    refine (number_any false A1 k c1 V _ (by omega) HD.out).mono fun e w2 h=>?_
    obtain ⟨bz,mz,HZ,rfl,hb2⟩:=h.form
    have hall:=hbl.trans (hb2.mono (by omega))
    obtain ⟨q0,q1,f0,f1⟩:=res2 (g:=w.heap.size) (by exact heap_one _ _) hall (by simp)
    have HALL:=Lib.hid hall
    clear h hb2 hall hbl
    go_wp2
    refine bodyPost_ret (v:=.agg #[.bool bz,.string mz]) (by simp [results,Tryz.results65,go_sem,q0,q1]) rfl ⟨by rw [←HZ.out];rfl,?_⟩
    exact ((((Below.refl _ _).alloc (Nat.le_refl _) _).trans (HALL.out.mono (by omega))).setCell (by simp) _).setCell (by simp) _
  · have hk8:=digits_end (V:=V) (k:=k) (by omega) (by rw [HQ.out];exact h0)
    have hne:((q:Int) != 0)=true:=by simp;omega
    have hd:D 256 V k=q%256:=by unfold D;rw [HQ.out]
    have hq2:V / 256^(k+1)=q / 256:=by rw [Nat.pow_succ,←Nat.div_div_eq_div_mul,HQ.out]
    have HD:=Lib.hid hd
    have HQ2:=Lib.hid hq2
    clear hd hq2
    go_wp2_with (at_builtin;refine wpList_append_own _ rfl _ _ 98 rfl (w.heap.size+1) 3 i0 (.int .i64 0) 1 8 Tryz.underlying98 hi hz0 hz1 hz2 rfl (by decide) _ _ _ rfl (hown.alloc _) ⟨wr.heap.size,0,none⟩ 1 1 [.int .i64 ((q%256:Nat):Int)] rfl rfl ?_ ?_ ?_ ?_ ?_ ?_)
    · intro j u hj;exact one_cell j u hj (by go_num)
    · intro u hu;simp at hu;subst hu;rfl
    · unfold maxLen;omega
    · omega
    · simp;omega
    intro v' w2 hown' hgrow _
    have hown2:=own_next hown' HD.out.symm
    have hb2:Below (w.heap.size+1) wr w2:=((Below.refl _ _).alloc hsz _).grown hgrow (by simp;omega) (fun g hg=>((hown.lt) g hg).1)
    have hs2:=hb2.size
    clear hgrow hown' hown
    go_wp2
    go_roundw
    case rel=>exact ⟨k+1,q / 256,by omega,HQ2,by go_num,by omega,hown2,hbl.trans hb2,by omega⟩
    case measure=>simp [intOf];omega
end Go.Proofs.YtdbhahiieokplaaGreatDoor
