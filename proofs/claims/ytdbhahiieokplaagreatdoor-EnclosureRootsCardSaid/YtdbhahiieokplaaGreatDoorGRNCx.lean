import Derived.Test.YtdbhahiieokplaaGreatDoorGRNC
import Derived.Test.YtdbhahiieokplaaGreatDoorGRefAx
import Derived.Test.YtdbhahiieokplaaGreatDoorGSgQ
import Derived.Deep.QuietTactic
import Derived.BigQuiet
set_option linter.unusedSimpArgs false
set_option linter.unusedVariables false

namespace Go.Proofs.YtdbhahiieokplaaGreatDoor
open Go.RowKit

set_option maxHeartbeats 400000 in
set_option maxRecDepth 100000 in
theorem at_any (A:Option Addr) (n c V i:Nat) (w:World) (hn:n≤1099511627776) (hi:i≤1099511627776) (h:Dg w .i64 256 A n V) :
  Calls Tryz.prog 185 #[.slice A n c,.int .i64 (i:Int)] w (RetV w (.int .i64 (D 256 V i:Nat))):=by
 by_cases hlt:i<n
 · obtain ⟨g,o,rfl,hg,hc⟩:=h.rd (by omega)
   have hci:=hc i hlt
   clear hc
   go_enter Tryz.func185,Tryz.ntmps185
   go_wp2
   go_ret
   exact ⟨rfl,rfl⟩
 · have hz:=D_zero_of (b:=256) (by omega) h.lt (i:=i) (by omega)
   rw [hz]
   clear hz
   go_enter Tryz.func185,Tryz.ntmps185
   go_wp2
   go_ret
   exact ⟨rfl,rfl⟩

set_option maxHeartbeats 400000 in
set_option maxRecDepth 100000 in
theorem order_any (A B:Option Addr) (n m c d X Y:Nat) (w:World) (hn:n≤1000000000000) (hm:m≤1000000000000) (hx:Dg w .i64 256 A n X) (hy:Dg w .i64 256 B m Y) :
  Calls Tryz.prog 158 #[.slice A n c,.slice B m d] w (RetV w (.int .i64 (ord X Y))):=by
 have hstep:∀ j,X / 256^(j+1)=Y / 256^(j+1)→D 256 X j=D 256 Y j→X / 256^j=Y / 256^j:=fun j h1 h2=>by rw [div_D 256 X j,div_D 256 Y j,h1,h2]
 have hlo:∀ j,X / 256^(j+1)=Y / 256^(j+1)→D 256 X j<D 256 Y j→ord X Y=-1:=fun j h1 h2=>ord_lt (lt_of_digit h1 h2)
 have hhi:∀ j,X / 256^(j+1)=Y / 256^(j+1)→D 256 Y j<D 256 X j→ord X Y=1:=fun j h1 h2=>ord_gt (lt_of_digit h1.symm h2)
 have hst:∀ N,n≤N→m≤N→X / 256^N=Y / 256^N:=fun N h1 h2=>by
  have a1:256^n≤256^N:=Nat.pow_le_pow_right (by omega) h1
  have a2:256^m≤256^N:=Nat.pow_le_pow_right (by omega) h2
  have a3:=hx.lt
  have a4:=hy.lt
  rw [Nat.div_eq_of_lt (by omega),Nat.div_eq_of_lt (by omega)]
 have HX:=Lib.hid hx
 have HY:=Lib.hid hy
 have HS:=Lib.hid hstep
 have HL:=Lib.hid hlo
 have HH:=Lib.hid hhi
 have HT:=Lib.hid hst
 clear hx hy hstep hlo hhi hst
 by_cases hnm:n<m
 all_goals
  go_enter Tryz.func158,Tryz.ntmps158
  go_wp2
  go_loop [5] (fun i=>∃ k:Nat,k≤1000000000000∧i=.int .i64 ((k:Int)-1)∧X / 256^k=Y / 256^k) (fun i=>(intOf i+1).toNat)
  case atStart=>first | exact ⟨m,hm,rfl,HT.out _ (by omega) (by omega)⟩ | exact ⟨n,hn,rfl,HT.out _ (by omega) (by omega)⟩
  case round =>
   obtain ⟨k,hk,rfl,heq⟩:=hrel
   have HE:=Lib.hid heq
   clear heq
   rcases k with _ | j
   · have e:(((0:Nat):Int)-1)=-1:=rfl
     rw [e]
     go_wp2
     go_ret
     have h:=HE.out
     simp at h
     subst h
     exact ⟨congrArg (fun z=>Ending.returned (.int .i64 z)) (ord_eq X).symm,rfl⟩
   · have e:(((j+1:Nat):Int)-1)=(j:Int):=by omega
     rw [e]
     clear e
     rcases Nat.lt_trichotomy (D 256 X j) (D 256 Y j) with h | h | h
     · go_wp2_with fail
       refine (at_any A n c X j _ (by omega) (by omega) HX.out).mono ?_
       rintro e w' ⟨rfl,rfl⟩
       go_wp2_with fail
       refine (at_any B m d Y j _ (by omega) (by omega) HY.out).mono ?_
       rintro e w' ⟨rfl,rfl⟩
       go_wp2
       go_ret
       exact ⟨congrArg (fun z=>Ending.returned (.int .i64 z)) (HL.out j HE.out h).symm,rfl⟩
     · have HD:=Lib.hid h
       have h1:D 256 X j≤D 256 Y j:=by omega
       have h2:D 256 Y j≤D 256 X j:=by omega
       clear h
       go_wp2_with fail
       refine (at_any A n c X j _ (by omega) (by omega) HX.out).mono ?_
       rintro e w' ⟨rfl,rfl⟩
       go_wp2_with fail
       refine (at_any B m d Y j _ (by omega) (by omega) HY.out).mono ?_
       rintro e w' ⟨rfl,rfl⟩
       go_wp2_with fail
       refine (at_any A n c X j _ (by omega) (by omega) HX.out).mono ?_
       rintro e w' ⟨rfl,rfl⟩
       go_wp2_with fail
       refine (at_any B m d Y j _ (by omega) (by omega) HY.out).mono ?_
       rintro e w' ⟨rfl,rfl⟩
       go_wp2
       go_round
       case rel=>exact ⟨j,by omega,by go_num,HS.out j HE.out HD.out⟩
       case measure=>simp [intOf]<;>omega
     · go_wp2_with fail
       refine (at_any A n c X j _ (by omega) (by omega) HX.out).mono ?_
       rintro e w' ⟨rfl,rfl⟩
       go_wp2_with fail
       refine (at_any B m d Y j _ (by omega) (by omega) HY.out).mono ?_
       rintro e w' ⟨rfl,rfl⟩
       go_wp2_with fail
       refine (at_any A n c X j _ (by omega) (by omega) HX.out).mono ?_
       rintro e w' ⟨rfl,rfl⟩
       go_wp2_with fail
       refine (at_any B m d Y j _ (by omega) (by omega) HY.out).mono ?_
       rintro e w' ⟨rfl,rfl⟩
       go_wp2
       go_ret
       exact ⟨congrArg (fun z=>Ending.returned (.int .i64 z)) (HH.out j HE.out h).symm,rfl⟩

set_option maxHeartbeats 1000000 in
set_option maxRecDepth 100000 in
theorem sum_any (A B:Option Addr) (n m c d X Y:Nat) (w:World) (hn:n≤100000000000) (hm:m≤100000000000) (hx:Dg w .i64 256 A n X) (hy:Dg w .i64 256 B m Y) :
  Calls Tryz.prog 157 #[.slice A n c,.slice B m d] w (RetG w .i64 256 (X+Y) (n+m+1)):=by
 have HX:=Lib.hid hx
 have HY:=Lib.hid hy
 clear hx hy
 obtain ⟨i0,hi,hz0,hz1,hz2⟩:=info_parts intTy_info
 by_cases hnm:n<m
 all_goals
  go_enter Tryz.func157,Tryz.ntmps157
  go_wp2
  go_loopw [5,6,7] (fun v cy i wr=>∃ k:Nat,k≤n+m+1∧i=.int .i64 k∧cy=.int .i64 (car 256 X 1 Y k:Nat)∧wr.ownsRow w.heap.size 3 1 v k (nums .i64 (D 256 (X+Y)) k)∧Below w.heap.size w wr)
   (fun _ _ i _=>n+m+2-(intOf i).toNat)
  case atStart=>exact ⟨0,by omega,rfl,by rw [car_zero];rfl,World.ownsRow_nil _ _ _ _,Below.refl _ _⟩
  case round =>
   obtain ⟨k,hk,rfl,rfl,hown,hnx⟩:=hrel
   have hcl:=car_lt (b:=256) (by omega) (x:=1) (by omega) X Y k
   have hcp:=car_pos_le (b:=256) (k:=k) (by omega) HX.out.lt HY.out.lt
   obtain ⟨hs1,hs2⟩:=car_step (b:=256) (by omega) X 1 Y k
   have hdx:=D_lt (b:=256) (by omega) X k
   have hdy:=D_lt (b:=256) (by omega) Y k
   have HXr:=Lib.hid (HX.out.below hnx)
   have HYr:=Lib.hid (HY.out.below hnx)
   have hend:n≤k→m≤k→car 256 X 1 Y k=0→X+Y<256^k:=fun h1 h2 h3=>by
    have p1:256^n≤256^k:=Nat.pow_le_pow_right (by omega) h1
    have p2:256^m≤256^k:=Nat.pow_le_pow_right (by omega) h2
    have q1:=HX.out.lt
    have q2:=HY.out.lt
    have:=lt_of_car (b:=256) (x:=1) (by omega) (Nat.lt_of_lt_of_le q1 p1) (Nat.lt_of_lt_of_le q2 p2) h3
    omega
   simp only [Nat.one_mul] at hs1 hs2
   generalize hcyy:car 256 X 1 Y k=cy at *
   have HCY:=Lib.hid hcyy
   have HS1:=Lib.hid hs1
   have HS2:=Lib.hid hs2
   have HEND:=Lib.hid hend
   clear hcyy hs1 hs2 hend
   by_cases hgo:(k<n∨k<m)∨0<cy
   · have hk1:k+1≤n+m+1:=by omega
     have HP:=Lib.hid hcp
     have HGO:=Lib.hid hgo
     clear hcp hgo
     by_cases hkm:k<n∨k<m
     all_goals
      try (have hcp:¬0<cy→False:=fun h=>by have:=HGO.out;omega)
      try (have hc0:0<cy:=by have:=HGO.out;omega)
      try clear hcp
      go_wp2_with fail
      refine (at_any A n c X k _ (by omega) (by omega) HXr.out).mono ?_
      rintro e w' ⟨rfl,rfl⟩
      go_wp2_with fail
      refine (at_any B m d Y k _ (by omega) (by omega) HYr.out).mono ?_
      rintro e w' ⟨rfl,rfl⟩
      go_wp2_with (at_builtin;refine wpList_append_own _ rfl _ _ 98 rfl w.heap.size 3 i0 (.int .i64 0) 1 8 Tryz.underlying98 hi hz0 hz1 hz2 rfl (by decide) _ _ _ rfl (hown.alloc _) ⟨wr.heap.size,0,none⟩ 1 1 [.int .i64 (((D 256 X k+D 256 Y k+cy)%256:Nat):Int)] rfl rfl ?_ ?_ ?_ ?_ ?_ ?_)
      · intro j u hj;exact one_cell j u hj (by go_num)
      · intro u hu;simp at hu;subst hu;rfl
      · unfold maxLen;omega
      · omega
      · have:=hnx.size;simp;omega
      intro v' w1 hown' hgrow _
      have hown2:=own_next hown' HS2.out
      have hb1:Below w.heap.size wr w1:=((Below.refl _ _).alloc hnx.size _).grown hgrow (by simp;exact Nat.le_succ_of_le hnx.size) (fun g hg=>((hown.lt) g hg).1)
      clear hgrow hown' hown
      go_wp2
      go_roundw
      case rel=>exact ⟨k+1,by omega,by go_num,by rw [←HS1.out];go_num,hown2,hnx.trans hb1⟩
      case measure=>simp [intOf]<;>omega
   · have hk1:n≤k:=by omega
     have hk2:m≤k:=by omega
     have hc0:¬0<cy:=by omega
     clear hgo hcp
     go_wp2
     go_ret
     obtain ⟨A',c',rfl,hr⟩:=Rd.of_own hown
     exact ⟨A',k,c',hk,rfl,⟨HEND.out hk1 hk2 (by omega),hr⟩,hnx⟩
end Go.Proofs.YtdbhahiieokplaaGreatDoor


namespace Go.Proofs.YtdbhahiieokplaaGreatDoor
open Go.RowKit

set_option maxHeartbeats 1000000 in
set_option maxRecDepth 100000 in
theorem difference_any (A B:Option Addr) (n m c d X Y:Nat) (w:World) (hn:n≤100000000000) (hm:m≤100000000000) (hx:Dg w .i64 256 A n X) (hy:Dg w .i64 256 B m Y) (hXY:Y≤X) :
  Calls Tryz.prog 159 #[.slice A n c,.slice B m d] w (RetG w .i64 256 (X-Y) n):=by
 have HX:=Lib.hid hx
 have HY:=Lib.hid hy
 have HXY:=Lib.hid hXY
 clear hx hy hXY
 obtain ⟨i0,hi,hz0,hz1,hz2⟩:=info_parts intTy_info
 go_enter Tryz.func159,Tryz.ntmps159
 go_wp2
 go_loopw [5,6,7] (fun v bw i wr=>∃ k:Nat,k≤n∧i=.int .i64 k∧bw=.int .i64 (bor 256 X Y k:Nat)∧wr.ownsRow w.heap.size 3 1 v k (nums .i64 (D 256 (X-Y)) k)∧Below w.heap.size w wr)
  (fun _ _ i _=>n-(intOf i).toNat)
 case atStart=>exact ⟨0,by omega,rfl,by rw [bor_zero];rfl,World.ownsRow_nil _ _ _ _,Below.refl _ _⟩
 case round =>
  obtain ⟨k,hk,rfl,rfl,hown,hnx⟩:=hrel
  by_cases hlt:k<n
  · have hbl:=bor_le 256 X Y k
    have hs1:=bor_step (b:=256) (by omega) X Y k
    have hs2:=dif_digit (b:=256) (by omega) HXY.out k
    have hdx:=D_lt (b:=256) (by omega) X k
    have hdy:=D_lt (b:=256) (by omega) Y k
    have HXr:=Lib.hid (HX.out.below hnx)
    have HYr:=Lib.hid (HY.out.below hnx)
    obtain ⟨g,o,rfl,hg,hcell⟩:=(HX.out.below hnx).rd (by omega)
    have hck:=hcell k hlt
    clear hcell
    generalize hbb:bor 256 X Y k=bw at *
    have HB:=Lib.hid hbb
    have HS1:=Lib.hid hs1
    have HS2:=Lib.hid hs2
    clear hbb hs1 hs2
    by_cases hneg:D 256 X k<D 256 Y k+bw
    all_goals
     have e1:IntKind.i64.wrap ((D 256 X k:Int)-(D 256 Y k:Int))=(D 256 X k:Int)-(D 256 Y k:Int):=IntWalk.i64_in _ (by omega)
     have e2:IntKind.i64.wrap ((D 256 X k:Int)-(D 256 Y k:Int)-(bw:Int))=(D 256 X k:Int)-(D 256 Y k:Int)-(bw:Int):=IntWalk.i64_in _ (by omega)
     go_wp2_with fail
     go_quiet ((go_at_call 185;exact quietV (at_any B m d Y k _ (by omega) (by omega) (HYr.out.drewN _))))
     clear e1 e2
    · have hd0:(D 256 X k:Int)-(D 256 Y k:Int)-(bw:Int)<0:=by omega
      have hownd:∀ o,((wr.alloc o).drewN nq).ownsRow w.heap.size 3 1 _ k (nums .i64 (D 256 (X-Y)) k):=fun o=>hown.alloc o
      go_wp2_with (at_builtin;refine wpList_append_own _ rfl _ _ 98 rfl w.heap.size 3 i0 (.int .i64 0) 1 8 Tryz.underlying98 hi hz0 hz1 hz2 rfl (by decide) _ _ _ rfl (hownd _) ⟨wr.heap.size,0,none⟩ 1 1 [.int .i64 ((D 256 X k+256-D 256 Y k-bw:Nat):Int)] rfl rfl ?_ ?_ ?_ ?_ ?_ ?_)
      · intro j u hj;exact one_cell (w:=wr) j u hj (by simp;omega)
      · intro u hu;simp at hu;subst hu;rfl
      · unfold maxLen;omega
      · omega
      · have:=hnx.size;simp;omega
      intro v' w1 hown' hgrow _
      have hown2:=own_next hown' (by rw [HS2.out];rw [if_pos hneg])
      have hb1:Below w.heap.size wr w1:=Below.grown (w:=(wr.alloc _).drewN nq) (below_draws ((Below.refl _ _).alloc hnx.size _) nq) hgrow (by have:=hnx.size;simp;omega) (fun g hg=>((hown.lt) g hg).1)
      clear hgrow hown' hown hownd
      go_wp2
      go_roundw
      case rel=>exact ⟨k+1,by omega,by go_num,by rw [HS1.out,if_pos hneg];rfl,hown2,hnx.trans hb1⟩
      case measure=>simp [intOf]<;>omega
    · have hd0:0≤(D 256 X k:Int)-(D 256 Y k:Int)-(bw:Int):=by omega
      have hownd:∀ o,((wr.alloc o).drewN nq).ownsRow w.heap.size 3 1 _ k (nums .i64 (D 256 (X-Y)) k):=fun o=>hown.alloc o
      go_wp2_with (at_builtin;refine wpList_append_own _ rfl _ _ 98 rfl w.heap.size 3 i0 (.int .i64 0) 1 8 Tryz.underlying98 hi hz0 hz1 hz2 rfl (by decide) _ _ _ rfl (hownd _) ⟨wr.heap.size,0,none⟩ 1 1 [.int .i64 ((D 256 X k-D 256 Y k-bw:Nat):Int)] rfl rfl ?_ ?_ ?_ ?_ ?_ ?_)
      · intro j u hj;exact one_cell (w:=wr) j u hj (by simp;omega)
      · intro u hu;simp at hu;subst hu;rfl
      · unfold maxLen;omega
      · omega
      · have:=hnx.size;simp;omega
      intro v' w1 hown' hgrow _
      have hown2:=own_next hown' (by rw [HS2.out];rw [if_neg hneg])
      have hb1:Below w.heap.size wr w1:=Below.grown (w:=(wr.alloc _).drewN nq) (below_draws ((Below.refl _ _).alloc hnx.size _) nq) hgrow (by have:=hnx.size;simp;omega) (fun g hg=>((hown.lt) g hg).1)
      clear hgrow hown' hown hownd
      go_wp2
      go_roundw
      case rel=>exact ⟨k+1,by omega,by go_num,by rw [HS1.out,if_neg hneg];rfl,hown2,hnx.trans hb1⟩
      case measure=>simp [intOf]<;>omega
  · obtain rfl:k=n:=by omega
    go_wp2
    go_ret
    obtain ⟨A',c',rfl,hr⟩:=Rd.of_own hown
    have:=HX.out.lt
    exact ⟨A',_,c',Nat.le_refl _,rfl,⟨by omega,hr⟩,hnx⟩
end Go.Proofs.YtdbhahiieokplaaGreatDoor


namespace Go.Proofs.YtdbhahiieokplaaGreatDoor
open Go.RowKit

set_option maxHeartbeats 400000 in
set_option maxRecDepth 100000 in
theorem order_anyN (A B:Option Addr) (n m c d X Y:Nat) (w:World) (hn:n≤1000000000000) (hm:m≤1000000000000) (hx:Dg w .i64 256 A n X) (hy:Dg w .i64 256 B m Y) :
  Calls Tryz.prog 158 #[.slice A n c,.slice B m d] w (RetV w (.int .i64 (ord X Y))):=by
 have hstep:∀ j,X / 256^(j+1)=Y / 256^(j+1)→D 256 X j=D 256 Y j→X / 256^j=Y / 256^j:=fun j h1 h2=>by rw [div_D 256 X j,div_D 256 Y j,h1,h2]
 have hlo:∀ j,X / 256^(j+1)=Y / 256^(j+1)→D 256 X j<D 256 Y j→ord X Y=-1:=fun j h1 h2=>ord_lt (lt_of_digit h1 h2)
 have hhi:∀ j,X / 256^(j+1)=Y / 256^(j+1)→D 256 Y j<D 256 X j→ord X Y=1:=fun j h1 h2=>ord_gt (lt_of_digit h1.symm h2)
 have hst:∀ N,n≤N→m≤N→X / 256^N=Y / 256^N:=fun N h1 h2=>by
  have a1:256^n≤256^N:=Nat.pow_le_pow_right (by omega) h1
  have a2:256^m≤256^N:=Nat.pow_le_pow_right (by omega) h2
  have a3:=hx.lt
  have a4:=hy.lt
  rw [Nat.div_eq_of_lt (by omega),Nat.div_eq_of_lt (by omega)]
 have HX:=Lib.hid hx
 have HY:=Lib.hid hy
 have HS:=Lib.hid hstep
 have HL:=Lib.hid hlo
 have HH:=Lib.hid hhi
 have HT:=Lib.hid hst
 clear hx hy hstep hlo hhi hst
 by_cases hnm:n<m
 all_goals
  go_enter Tryz.func158,Tryz.ntmps158
  go_wp2
  go_loop [5] (fun i=>∃ k:Nat,k≤1000000000000∧i=.int .i64 ((k:Int)-1)∧X / 256^k=Y / 256^k) (fun i=>(intOf i+1).toNat)
  case atStart=>first | exact ⟨m,hm,rfl,HT.out _ (by omega) (by omega)⟩ | exact ⟨n,hn,rfl,HT.out _ (by omega) (by omega)⟩
  case round =>
   obtain ⟨k,hk,rfl,heq⟩:=hrel
   have HE:=Lib.hid heq
   clear heq
   rcases k with _ | j
   · have e:(((0:Nat):Int)-1)=-1:=rfl
     rw [e]
     go_wp2
     go_ret
     have h:=HE.out
     simp at h
     subst h
     exact ⟨congrArg (fun z=>Ending.returned (.int .i64 z)) (ord_eq X).symm,rfl⟩
   · have e:(((j+1:Nat):Int)-1)=(j:Int):=by omega
     rw [e]
     clear e
     rcases Nat.lt_trichotomy (D 256 X j) (D 256 Y j) with h | h | h
     · go_wp2_with fail
       refine (at_any A n c X j _ (by omega) (by omega) HX.out).mono ?_
       rintro e w' ⟨rfl,rfl⟩
       go_wp2_with fail
       refine (at_any B m d Y j _ (by omega) (by omega) HY.out).mono ?_
       rintro e w' ⟨rfl,rfl⟩
       go_wp2
       go_ret
       exact ⟨congrArg (fun z=>Ending.returned (.int .i64 z)) (HL.out j HE.out h).symm,rfl⟩
     · have HD:=Lib.hid h
       have h1:D 256 X j≤D 256 Y j:=by omega
       have h2:D 256 Y j≤D 256 X j:=by omega
       clear h
       go_wp2_with fail
       refine (at_any A n c X j _ (by omega) (by omega) HX.out).mono ?_
       rintro e w' ⟨rfl,rfl⟩
       go_wp2_with fail
       refine (at_any B m d Y j _ (by omega) (by omega) HY.out).mono ?_
       rintro e w' ⟨rfl,rfl⟩
       go_wp2_with fail
       refine (at_any A n c X j _ (by omega) (by omega) HX.out).mono ?_
       rintro e w' ⟨rfl,rfl⟩
       go_wp2_with fail
       refine (at_any B m d Y j _ (by omega) (by omega) HY.out).mono ?_
       rintro e w' ⟨rfl,rfl⟩
       go_wp2
       go_round
       case rel=>exact ⟨j,by omega,by go_num,HS.out j HE.out HD.out⟩
       case measure=>simp [intOf]<;>omega
     · go_wp2_with fail
       refine (at_any A n c X j _ (by omega) (by omega) HX.out).mono ?_
       rintro e w' ⟨rfl,rfl⟩
       go_wp2_with fail
       refine (at_any B m d Y j _ (by omega) (by omega) HY.out).mono ?_
       rintro e w' ⟨rfl,rfl⟩
       go_wp2_with fail
       refine (at_any A n c X j _ (by omega) (by omega) HX.out).mono ?_
       rintro e w' ⟨rfl,rfl⟩
       go_wp2_with fail
       refine (at_any B m d Y j _ (by omega) (by omega) HY.out).mono ?_
       rintro e w' ⟨rfl,rfl⟩
       go_wp2
       go_ret
       exact ⟨congrArg (fun z=>Ending.returned (.int .i64 z)) (HH.out j HE.out h).symm,rfl⟩
end Go.Proofs.YtdbhahiieokplaaGreatDoor
