import Derived.Test.YtdbhahiieokplaaGreatDoorGRefG
import Derived.Laws.CopyOwn
import Derived.Test.YtdbhahiieokplaaGreatDoorGQB
set_option linter.unusedSimpArgs false
set_option linter.unusedVariables false

namespace Go.Proofs.YtdbhahiieokplaaGreatDoor
open Go.RowKit
attribute [local go_sem ↓] Go.wp_at_zero Go.wp_at_succ

set_option maxRecDepth 100000 in
theorem sign_true (w:World):Calls Tryz.prog 193 #[.bool true] w (RetV w (.int .i64 1)):=by
 go_enter Tryz.func193,Tryz.ntmps193
 go_wp2
 go_ret
 exact ⟨rfl,rfl⟩
set_option maxRecDepth 100000 in
theorem sign_false (w:World):Calls Tryz.prog 193 #[.bool false] w (RetV w (.int .i64 (-1))):=by
 go_enter Tryz.func193,Tryz.ntmps193
 go_wp2
 go_ret
 exact ⟨rfl,rfl⟩

def sgB (b:Bool):Int:=if b then 1 else -1
theorem sign_any (b:Bool) (w:World):Calls Tryz.prog 193 #[.bool b] w (RetV w (.int .i64 (sgB b))):=by
 cases b
 · exact sign_false w
 · exact sign_true w

def Drew (w w':World):Prop:=∃ q,w'=w.drewN q
theorem Drew.refl (w:World):Drew w w:=⟨0,rfl⟩
theorem Drew.drewN {w w':World} (h:Drew w w') (k:Nat):Drew w (w'.drewN k):=by
 obtain ⟨q,rfl⟩:=h
 exact ⟨q+k,by rw [World.drewN_drewN]⟩
theorem Drew.below {w w':World} (h:Drew w w') (B:Nat):Below B w w':=by
 obtain ⟨q,rfl⟩:=h
 exact below_draws (Below.refl _ _) q
theorem Drew.cell {w w':World} (h:Drew w w') (a:Addr):w'.cell? a=w.cell? a:=by
 obtain ⟨q,rfl⟩:=h
 rfl

def RetO (w:World) (z:Int) (e:Ending) (w':World):Prop:=e=.returned (.int .i64 z)∧Drew w w'

theorem ord_of_len {A B:Option Addr} {n m c d X Y:Nat} {w:World} (hx:Nm w A n c X) (hy:Nm w B m d Y) (h:n≠m):ord X Y=sgB (decide (m<n)):=by
 have key:∀ {p q P Q:Nat},p<q→P<B64^p→(0<q→B64^(q-1)≤Q)→P<Q:=fun {p q P Q} h1 h2 h3=>by
  have h4:B64^p≤B64^(q-1):=Nat.pow_le_pow_right B64_pos (by omega)
  have h5:=h3 (by omega)
  omega
 unfold sgB
 by_cases hlt:m<n
 · rw [decide_eq_true hlt,ord_gt (key hlt hy.lt hx.top)];rfl
 · rw [decide_eq_false hlt,ord_lt (key (by omega) hx.lt hy.top)];rfl

set_option maxHeartbeats 2000000 in
set_option maxRecDepth 100000 in
theorem compare_any (A B:Option Addr) (n m c d X Y:Nat) (w:World) (hn:n≤1000000000) (hm:m≤1000000000) (hx:Nm w A n c X) (hy:Nm w B m d Y) :
  Calls Tryz.prog 174 #[.slice A n c,.slice B m d] w (RetO w (ord X Y)):=by
 by_cases hlen:n=m
 · subst hlen
   have hstep:∀ j,X / B64^(j+1)=Y / B64^(j+1)→D B64 X j=D B64 Y j→X / B64^j=Y / B64^j:=fun j h1 h2=>by rw [div_D B64 X j,div_D B64 Y j,h1,h2]
   have hst:X / B64^n=Y / B64^n:=by rw [Nat.div_eq_of_lt hx.lt,Nat.div_eq_of_lt hy.lt]
   have HX:=Lib.hid hx
   have HY:=Lib.hid hy
   have HS:=Lib.hid hstep
   have HT:=Lib.hid hst
   clear hx hy hstep hst
   go_enter Tryz.func174,Tryz.ntmps174
   go_wp2
   go_loopw [5] (fun i wr=>∃ k:Nat,k≤n∧i=.int .i64 ((k:Int)-1)∧Hid (X / B64^k=Y / B64^k)∧Drew w wr) (fun i _=>(intOf i+1).toNat)
   case atStart=>exact ⟨n,Nat.le_refl _,rfl,HT,Drew.refl _⟩
   case round =>
    obtain ⟨k,hk,rfl,HE,HD⟩:=hrel
    rcases k with _ | j
    · have e:(((0:Nat):Int)-1)=-1:=rfl
      rw [e]
      go_wp2
      go_ret
      have h:=HE.out
      simp at h
      subst h
      exact ⟨congrArg (fun z=>Ending.returned (.int .i64 z)) (ord_eq X).symm,HD⟩
    · have e:(((j+1:Nat):Int)-1)=(j:Int):=by omega
      rw [e]
      clear e
      obtain ⟨g1,o1,rfl,hg1,hc1⟩:=HX.out.rd (by omega)
      obtain ⟨g2,o2,rfl,hg2,hc2⟩:=HY.out.rd (by omega)
      have hc1j:=(HD.cell ⟨g1,o1+j,none⟩).trans (hc1 j (by omega))
      have hc2j:=(HD.cell ⟨g2,o2+j,none⟩).trans (hc2 j (by omega))
      have hj0:(0:Int)≤(j:Int):=by omega
      have hj1:(j:Int)<(n:Int):=by omega
      have hlo:=fun h2=>ord_lt (lt_of_digit HE.out (b:=B64) (X:=X) (Y:=Y) (k:=j) h2)
      have hhi:=fun h2=>ord_gt (lt_of_digit HE.out.symm (b:=B64) (X:=Y) (Y:=X) (k:=j) h2)
      have hst:=HS.out j HE.out
      have HLO:=Lib.hid hlo
      have HHI:=Lib.hid hhi
      have HST:=Lib.hid hst
      clear hc1 hc2 hlo hhi hst
      generalize D B64 X j=x at *
      generalize D B64 Y j=y at *
      by_cases hxy:x=y
      · subst hxy
        have hne:((x:Int) != (x:Int))=false:=by simp
        go_wp2_with fail
        go_quiet (fail)
        go_wp2
        go_roundw
        case rel=>exact ⟨j,by omega,by go_num,HST.out trivial,HD.drewN _⟩
        case measure=>simp [intOf]<;>omega
      · have hne:((x:Int) != (y:Int))=true:=by simp;omega
        obtain ⟨b,hb⟩:∃ b,decide (y<x)=b:=⟨_,rfl⟩
        have hgt:decide ((y:Int)<(x:Int))=b:=by rw [←hb];simp
        have HB:=Lib.hid hb
        have HNE:=Lib.hid hxy
        clear hb hxy
        go_wp2_with fail
        go_quiet (fail)
        go_wp2_with fail
        go_quiet ((go_at_call 193;first | exact quietV (sign_any _ _) | exact (sign_any _ _).mono fun _ _ ⟨he,hm⟩=>⟨he,by rw [←hm];exact ⟨_,by rw [World.drewN_drewN]⟩⟩ | exact (sign_any _ _).mono fun _ _ ⟨he,hm⟩=>⟨he,_,hm.symm⟩))
        go_wp2
        go_ret
        refine ⟨congrArg (fun z=>Ending.returned (.int .i64 z)) ?_,(HD.drewN _).drewN _⟩
        have hb:=HB.out
        have hxy:=HNE.out
        by_cases hlt:y<x
        · rw [HHI.out hlt,decide_eq_true hlt];rfl
        · rw [HLO.out (by omega),decide_eq_false hlt];rfl
 · have hne:((n:Int) != (m:Int))=true:=by simp;omega
   have hv:=ord_of_len hx hy hlen
   obtain ⟨b,hb⟩:∃ b,decide (m<n)=b:=⟨_,rfl⟩
   rw [hb] at hv
   have HV:=Lib.hid hv
   clear hv hx hy hlen
   go_enter Tryz.func174,Tryz.ntmps174
   go_wp2_with fail
   refine (sign_any _ _).mono ?_
   rintro e w' ⟨rfl,rfl⟩
   go_wp2
   go_ret
   exact ⟨congrArg (fun z=>Ending.returned (.int .i64 z)) HV.out.symm,Drew.refl _⟩

set_option maxRecDepth 100000 in
theorem wpList_copy_lies {w:World} {ops:Array Oper} {rest:List Oper} {o:Oper} {a:Act} {Q:Exit→Act→World→Prop} (hgd:o.guard=none) (d s:Operand)
  (ho:o.op=.call { callee:=.builtin .copy,args:=#[d,s],argTypes:=#[153,153] })
  (g dLen dCap:Nat) (A:Option Addr) (n c:Nat) (hd:a.eval d=.slice (some ⟨g,0,none⟩) dLen dCap) (hs:a.eval s=.slice A n c) (N:Nat) (F f:Nat→Nat)
  (hl:Lies w g N F) (hn:n≤dLen) (hN:dLen≤N) (hr:Rd w .u64 A n f)
  (h:∀ w',Lies w' g N (fun i=>if i<n then f i else F i)→w.grownBy w' (some g)→wpList Tryz.prog ops Q rest (a.put o.dst (goInt n)) w'):wpList Tryz.prog ops Q (o :: rest) a w:=by
 have hu:Tryz.prog.underlying 153=some (.slice 146):=Tryz.underlying153
 have hsz:(Tryz.prog.info? 146).map (·.size)=some 1:=by kernel_rfl
 by_cases h0:n=0
 · subst h0
   refine wpList_copy_nothing hgd d s _ _ ho 146 hu hsz _ _ _ _ _ _ hd hs (Nat.min_eq_left (Nat.zero_le _)) ?_
   exact h w (hl.congr fun i hi=>by rw [if_neg (by omega)]) (World.grownBy.refl _ _)
 · obtain ⟨cur,T,hg,hcs,hcell⟩:=hl
   obtain ⟨gx,ox,rfl,hgx,hcx⟩:=hr (by omega)
   have hnl:(nums .u64 f n).length=n:=nums_length _ _ _
   refine wpList_copy_own hgd d s _ _ ho 146 hu hsz g 0 _ _ _ _ _ hd hs cur T hg (nums .u64 f n) (by rw [hnl];exact (Nat.min_eq_left hn).symm) ?_ (by rw [hnl];omega) ?_ ?_
   · intro j v hj
     have hjn:j<n:=by
      rcases Nat.lt_or_ge j n with h1 | h1
      · exact h1
      · rw [List.getElem?_eq_none (by rw [hnl];exact h1)] at hj;cases hj
     rw [nums_get _ _ _ _ hjn] at hj
     injection hj with hj
     subst hj
     rw [Addr.add_lit]
     exact hcx j hjn
   · intro v hv
     unfold nums at hv
     obtain ⟨_,_,rfl⟩:=List.mem_map.1 hv
     rfl
   · rw [hnl]
     refine h _ ⟨_,T,setRow_heap w g cur _ T _ hg,?_,fun i hi=>?_⟩ ⟨rfl,rfl,rfl,by simp [World.setRow],fun k _ hk=>setRow_other w g k _ (fun e=>hk (by rw [e]))⟩
     · simp;omega
     · by_cases hi2:i<n
       · show _=some (Value.int .u64 ((if i<n then f i else F i:Nat):Int))
         rw [if_pos hi2]
         have:=nums_get .u64 f n i hi2
         have e3:(nums .u64 f n)[i]'(by rw [hnl];exact hi2)=Value.int .u64 (f i:Int):=by
          have h3:=List.getElem?_eq_getElem (l:=nums .u64 f n) (i:=i) (by rw [hnl];exact hi2)
          rw [h3] at this
          injection this
         simp [List.getElem?_append,hnl,hi2,e3]
       · show _=some (Value.int .u64 ((if i<n then f i else F i:Nat):Int))
         rw [if_neg hi2]
         have:=hcell i hi
         have e:n+(i-n)=i:=by omega
         simp [List.getElem?_append,hnl,hi2,e,this]
end Go.Proofs.YtdbhahiieokplaaGreatDoor


namespace Go.Proofs.YtdbhahiieokplaaGreatDoor
open Go.RowKit
attribute [local go_sem ↓] Go.wp_at_zero Go.wp_at_succ

set_option maxHeartbeats 4000000 in
set_option maxRecDepth 100000 in
theorem rplus (A B:Option Addr) (n m c d X Y:Nat) (w:World) (hn:n≤100000000) (hm:m≤100000000) (hx:Dg w .i64 256 A n X) (hy:Dg w .i64 256 B m Y) :
  Calls Tryz.prog 92 #[.slice A n c,.slice B m d] w (RetTr w (X+Y)):=by
 have HX:=Lib.hid hx
 have HY:=Lib.hid hy
 clear hx hy
 obtain ⟨i0,hi,hz0,hz1,hz2⟩:=info_parts intTy_info
 go_enter Tryz.func92,Tryz.ntmps92
 go_wp2
 go_loopw [5,6,7] (fun v cy i wr=>∃ k:Nat,k≤n+m+1∧i=.int .i64 k∧cy=.int .i64 (car 256 X 1 Y k:Nat)∧wr.ownsRow w.heap.size 3 1 v k (nums .i64 (D 256 (X+Y)) k)∧Below w.heap.size w wr)
  (fun _ _ i _=>n+m+2-(intOf i).toNat)
 case atStart=>exact ⟨0,by omega,rfl,by rw [car_zero];rfl,World.ownsRow_nil _ _ _ _,Below.refl _ _⟩
 case round =>
  obtain ⟨k,hk,rfl,rfl,hown,hnx⟩:=hrel
  have hcl:=car_lt (b:=256) (by omega) (x:=1) (by omega) X Y k
  have hcp:=car_pos_le (b:=256) (k:=k) (by omega) HX.out.lt HY.out.lt
  obtain ⟨hs1,hs2⟩:=car_step (b:=256) (by omega) X 1 Y k
  have hdx:=D_lt (b:=256) (by omega) X k
  have hdy:=D_lt (b:=256) (by omega) Y k
  have HX0:=Lib.hid (fun h:n≤k=>D_zero_of (b:=256) (by omega) HX.out.lt (i:=k) h)
  have HY0:=Lib.hid (fun h:m≤k=>D_zero_of (b:=256) (by omega) HY.out.lt (i:=k) h)
  have hend:n≤k→m≤k→car 256 X 1 Y k=0→X+Y<256^k:=fun h1 h2 h3=>by
   have p1:256^n≤256^k:=Nat.pow_le_pow_right (by omega) h1
   have p2:256^m≤256^k:=Nat.pow_le_pow_right (by omega) h2
   have q1:=HX.out.lt
   have q2:=HY.out.lt
   have:=lt_of_car (b:=256) (x:=1) (by omega) (Nat.lt_of_lt_of_le q1 p1) (Nat.lt_of_lt_of_le q2 p2) h3
   omega
  simp only [Nat.one_mul] at hs1 hs2
  generalize hcyy:car 256 X 1 Y k=cy at *
  generalize hpp:D 256 X k=p at *
  generalize hqq:D 256 Y k=q at *
  have HCY:=Lib.hid hcyy
  have Hp:=Lib.hid hpp
  have Hq:=Lib.hid hqq
  have HS1:=Lib.hid hs1
  have HS2:=Lib.hid hs2
  have HEND:=Lib.hid hend
  have hgo1:(k<n∨k<m)∨0<cy→k+1≤n+m+1:=fun h=>by
   rcases h with h | h
   · omega
   · have:=hcp h;omega
  have HGO:=Lib.hid hgo1
  clear hcyy hpp hqq hs1 hs2 hend hcp hgo1
  by_cases h1:k<n
  · by_cases h2:k<m
    · obtain ⟨g,o,rfl,hgg,hcellg⟩:=(HX.out.rd.below hnx) (by omega)
      have hc1:wr.cell? ⟨g,o+k,none⟩=some (.int .i64 (p:Int)):=by rw [hcellg k (by omega),Hp.out]
      clear hcellg
      obtain ⟨g',o',rfl,hgg',hcellg'⟩:=(HY.out.rd.below hnx) (by omega)
      have hc2:wr.cell? ⟨g',o'+k,none⟩=some (.int .i64 (q:Int)):=by rw [hcellg' k (by omega),Hq.out]
      clear hcellg'
      have hk1:=HGO.out (by omega)
      go_wp2_with (at_builtin;refine wpList_append_own _ rfl _ _ 98 rfl w.heap.size 3 i0 (.int .i64 0) 1 8 Tryz.underlying98 hi hz0 hz1 hz2 rfl (by decide) _ _ _ rfl (hown.alloc _) ⟨wr.heap.size,0,none⟩ 1 1 [.int .i64 (((cy+p+q)%256:Nat):Int)] rfl rfl ?_ ?_ ?_ ?_ ?_ ?_)
      · intro j u hj;exact one_cell j u hj (by go_num)
      · intro u hu;simp at hu;subst hu;rfl
      · unfold maxLen;omega
      · omega
      · have:=hnx.size;simp;omega
      intro v' w1 hown' hgrow _
      have hown2:=own_next hown' (by rw [←HS2.out];congr 1;omega)
      have hb1:Below w.heap.size wr w1:=((Below.refl _ _).alloc hnx.size _).grown hgrow (by simp;exact Nat.le_succ_of_le hnx.size) (fun g hg=>((hown.lt) g hg).1)
      clear hgrow hown' hown
      go_wp2
      go_roundw
      case rel=>exact ⟨k+1,by omega,by go_num,by rw [←HS1.out];go_num,hown2,hnx.trans hb1⟩
      case measure=>simp [intOf]<;>omega
    · obtain ⟨g,o,rfl,hgg,hcellg⟩:=(HX.out.rd.below hnx) (by omega)
      have hc1:wr.cell? ⟨g,o+k,none⟩=some (.int .i64 (p:Int)):=by rw [hcellg k (by omega),Hp.out]
      clear hcellg
      have hk1:=HGO.out (by omega)
      go_wp2_with (at_builtin;refine wpList_append_own _ rfl _ _ 98 rfl w.heap.size 3 i0 (.int .i64 0) 1 8 Tryz.underlying98 hi hz0 hz1 hz2 rfl (by decide) _ _ _ rfl (hown.alloc _) ⟨wr.heap.size,0,none⟩ 1 1 [.int .i64 (((cy+p+q)%256:Nat):Int)] rfl rfl ?_ ?_ ?_ ?_ ?_ ?_)
      · intro j u hj;exact one_cell j u hj (by have hq0:=HY0.out (by omega);go_num)
      · intro u hu;simp at hu;subst hu;rfl
      · unfold maxLen;omega
      · omega
      · have:=hnx.size;simp;omega
      intro v' w1 hown' hgrow _
      have hown2:=own_next hown' (by rw [←HS2.out];congr 1;omega)
      have hb1:Below w.heap.size wr w1:=((Below.refl _ _).alloc hnx.size _).grown hgrow (by simp;exact Nat.le_succ_of_le hnx.size) (fun g hg=>((hown.lt) g hg).1)
      clear hgrow hown' hown
      go_wp2
      go_roundw
      case rel=>exact ⟨k+1,by omega,by go_num,by rw [←HS1.out];have hq0:=HY0.out (by omega);go_num,hown2,hnx.trans hb1⟩
      case measure=>simp [intOf]<;>omega
  · by_cases h2:k<m
    · obtain ⟨g',o',rfl,hgg',hcellg'⟩:=(HY.out.rd.below hnx) (by omega)
      have hc2:wr.cell? ⟨g',o'+k,none⟩=some (.int .i64 (q:Int)):=by rw [hcellg' k (by omega),Hq.out]
      clear hcellg'
      have hk1:=HGO.out (by omega)
      go_wp2_with (at_builtin;refine wpList_append_own _ rfl _ _ 98 rfl w.heap.size 3 i0 (.int .i64 0) 1 8 Tryz.underlying98 hi hz0 hz1 hz2 rfl (by decide) _ _ _ rfl (hown.alloc _) ⟨wr.heap.size,0,none⟩ 1 1 [.int .i64 (((cy+p+q)%256:Nat):Int)] rfl rfl ?_ ?_ ?_ ?_ ?_ ?_)
      · intro j u hj;exact one_cell j u hj (by have hp0:=HX0.out (by omega);go_num)
      · intro u hu;simp at hu;subst hu;rfl
      · unfold maxLen;omega
      · omega
      · have:=hnx.size;simp;omega
      intro v' w1 hown' hgrow _
      have hown2:=own_next hown' (by rw [←HS2.out];congr 1;omega)
      have hb1:Below w.heap.size wr w1:=((Below.refl _ _).alloc hnx.size _).grown hgrow (by simp;exact Nat.le_succ_of_le hnx.size) (fun g hg=>((hown.lt) g hg).1)
      clear hgrow hown' hown
      go_wp2
      go_roundw
      case rel=>exact ⟨k+1,by omega,by go_num,by rw [←HS1.out];have hp0:=HX0.out (by omega);go_num,hown2,hnx.trans hb1⟩
      case measure=>simp [intOf]<;>omega
    · by_cases h3:0<cy
      · have hcy:0<cy:=h3
        have hk1:=HGO.out (by omega)
        go_wp2_with (at_builtin;refine wpList_append_own _ rfl _ _ 98 rfl w.heap.size 3 i0 (.int .i64 0) 1 8 Tryz.underlying98 hi hz0 hz1 hz2 rfl (by decide) _ _ _ rfl (hown.alloc _) ⟨wr.heap.size,0,none⟩ 1 1 [.int .i64 (((cy+p+q)%256:Nat):Int)] rfl rfl ?_ ?_ ?_ ?_ ?_ ?_)
        · intro j u hj;exact one_cell j u hj (by have hp0:=HX0.out (by omega);have hq0:=HY0.out (by omega);go_num)
        · intro u hu;simp at hu;subst hu;rfl
        · unfold maxLen;omega
        · omega
        · have:=hnx.size;simp;omega
        intro v' w1 hown' hgrow _
        have hown2:=own_next hown' (by rw [←HS2.out];congr 1;omega)
        have hb1:Below w.heap.size wr w1:=((Below.refl _ _).alloc hnx.size _).grown hgrow (by simp;exact Nat.le_succ_of_le hnx.size) (fun g hg=>((hown.lt) g hg).1)
        clear hgrow hown' hown
        go_wp2
        go_roundw
        case rel=>exact ⟨k+1,by omega,by go_num,by rw [←HS1.out];have hp0:=HX0.out (by omega);have hq0:=HY0.out (by omega);go_num,hown2,hnx.trans hb1⟩
        case measure=>simp [intOf]<;>omega
      · obtain ⟨A',c',rfl,hc',hn',hr,hnew⟩:=own_form hown
        have HW:=Lib.hid hnew
        clear hnew
        have hd:Dg wr .i64 256 A' k (X+Y):=⟨HEND.out (by omega) (by omega) (by omega),hr⟩
        have HD:=Lib.hid hd
        have HN:=Lib.hid hn'
        clear hr hd hown hn'
        go_wp2_with fail
        refine (rtrim_any A' k c' (X+Y) _ (by omega) hc' HD.out).mono ?_
        rintro e w' ⟨rfl,rfl⟩
        go_wp2
        go_ret
        exact ⟨A',_,c',rfl,Tr.of hc' HN.out HD.out,hnx,HW.out⟩

set_option maxHeartbeats 4000000 in
set_option maxRecDepth 100000 in
theorem rminus (A B:Option Addr) (n m c d X Y:Nat) (w:World) (hn:n≤100000000) (hm:m≤100000000) (hx:Dg w .i64 256 A n X) (hy:Dg w .i64 256 B m Y) (hXY:Y≤X) :
  Calls Tryz.prog 94 #[.slice A n c,.slice B m d] w (RetTr w (X-Y)):=by
 have HX:=Lib.hid hx
 have HY:=Lib.hid hy
 have HXY:=Lib.hid hXY
 clear hx hy hXY
 obtain ⟨i0,hi,hz0,hz1,hz2⟩:=info_parts intTy_info
 go_enter Tryz.func94,Tryz.ntmps94
 go_wp2
 go_loopw [5,6,7] (fun v bw i wr=>∃ k:Nat,k≤n∧i=.int .i64 k∧bw=.int .i64 (bor 256 X Y k:Nat)∧wr.ownsRow w.heap.size 3 1 v k (nums .i64 (D 256 (X-Y)) k)∧Below w.heap.size w wr)
  (fun _ _ i _=>n-(intOf i).toNat)
 case atStart=>exact ⟨0,by omega,rfl,by rw [bor_zero];rfl,World.ownsRow_nil _ _ _ _,Below.refl _ _⟩
 case round =>
  obtain ⟨k,hk,rfl,rfl,hown,hnx⟩:=hrel
  by_cases hlt:k<n
  · have hbl:=bor_le 256 X Y k
    have hs1:=bor_step (b:=256) (by omega) X Y k
    have hs2:=dif_digit (b:=256) (by omega) HXY.out k
    have hdx:=D_lt (b:=256) (by omega) X k
    have hdy:=D_lt (b:=256) (by omega) Y k
    have HY0:=Lib.hid (fun h:m≤k=>D_zero_of (b:=256) (by omega) HY.out.lt (i:=k) h)
    generalize hbb:bor 256 X Y k=bw at *
    generalize hpp:D 256 X k=p at *
    generalize hqq:D 256 Y k=q at *
    have HB:=Lib.hid hbb
    have Hp:=Lib.hid hpp
    have Hq:=Lib.hid hqq
    have HS1:=Lib.hid hs1
    have HS2:=Lib.hid hs2
    clear hbb hs1 hs2 hpp hqq
    obtain ⟨g,o,rfl,hgg,hcellg⟩:=(HX.out.rd.below hnx) (by omega)
    have hc1:wr.cell? ⟨g,o+k,none⟩=some (.int .i64 (p:Int)):=by rw [hcellg k (by omega),Hp.out]
    clear hcellg
    by_cases hneg:p<q+bw
    · by_cases h2:k<m
      · obtain ⟨g',o',rfl,hgg',hcellg'⟩:=(HY.out.rd.below hnx) (by omega)
        have hc2:wr.cell? ⟨g',o'+k,none⟩=some (.int .i64 (q:Int)):=by rw [hcellg' k (by omega),Hq.out]
        clear hcellg'
        have hd0:(p:Int)-(bw:Int)-(q:Int)<0:=by omega
        go_wp2_with (at_builtin;refine wpList_append_own _ rfl _ _ 98 rfl w.heap.size 3 i0 (.int .i64 0) 1 8 Tryz.underlying98 hi hz0 hz1 hz2 rfl (by decide) _ _ _ rfl (hown.alloc _) ⟨wr.heap.size,0,none⟩ 1 1 [.int .i64 ((p+256-q-bw:Nat):Int)] rfl rfl ?_ ?_ ?_ ?_ ?_ ?_)
        · intro j u hj;exact one_cell j u hj (by simp<;>omega)
        · intro u hu;simp at hu;subst hu;rfl
        · unfold maxLen;omega
        · omega
        · have:=hnx.size;simp;omega
        intro v' w1 hown' hgrow _
        have hown2:=own_next hown' (by rw [HS2.out,if_pos hneg])
        have hb1:Below w.heap.size wr w1:=((Below.refl _ _).alloc hnx.size _).grown hgrow (by simp;exact Nat.le_succ_of_le hnx.size) (fun g hg=>((hown.lt) g hg).1)
        clear hgrow hown' hown
        go_wp2
        go_roundw
        case rel=>exact ⟨k+1,by omega,by go_num,by rw [HS1.out,if_pos hneg];rfl,hown2,hnx.trans hb1⟩
        case measure=>simp [intOf]<;>omega
      · have hd0:(p:Int)-(bw:Int)<0:=by have hq0:=HY0.out (by omega);omega
        go_wp2_with (at_builtin;refine wpList_append_own _ rfl _ _ 98 rfl w.heap.size 3 i0 (.int .i64 0) 1 8 Tryz.underlying98 hi hz0 hz1 hz2 rfl (by decide) _ _ _ rfl (hown.alloc _) ⟨wr.heap.size,0,none⟩ 1 1 [.int .i64 ((p+256-q-bw:Nat):Int)] rfl rfl ?_ ?_ ?_ ?_ ?_ ?_)
        · intro j u hj;exact one_cell j u hj (by have hq0:=HY0.out (by omega);simp<;>omega)
        · intro u hu;simp at hu;subst hu;rfl
        · unfold maxLen;omega
        · omega
        · have:=hnx.size;simp;omega
        intro v' w1 hown' hgrow _
        have hown2:=own_next hown' (by rw [HS2.out,if_pos hneg])
        have hb1:Below w.heap.size wr w1:=((Below.refl _ _).alloc hnx.size _).grown hgrow (by simp;exact Nat.le_succ_of_le hnx.size) (fun g hg=>((hown.lt) g hg).1)
        clear hgrow hown' hown
        go_wp2
        go_roundw
        case rel=>exact ⟨k+1,by omega,by go_num,by rw [HS1.out,if_pos hneg];rfl,hown2,hnx.trans hb1⟩
        case measure=>simp [intOf]<;>omega
    · by_cases h2:k<m
      · obtain ⟨g',o',rfl,hgg',hcellg'⟩:=(HY.out.rd.below hnx) (by omega)
        have hc2:wr.cell? ⟨g',o'+k,none⟩=some (.int .i64 (q:Int)):=by rw [hcellg' k (by omega),Hq.out]
        clear hcellg'
        have hd0:0≤(p:Int)-(bw:Int)-(q:Int):=by omega
        go_wp2_with (at_builtin;refine wpList_append_own _ rfl _ _ 98 rfl w.heap.size 3 i0 (.int .i64 0) 1 8 Tryz.underlying98 hi hz0 hz1 hz2 rfl (by decide) _ _ _ rfl (hown.alloc _) ⟨wr.heap.size,0,none⟩ 1 1 [.int .i64 ((p-q-bw:Nat):Int)] rfl rfl ?_ ?_ ?_ ?_ ?_ ?_)
        · intro j u hj;exact one_cell j u hj (by simp<;>omega)
        · intro u hu;simp at hu;subst hu;rfl
        · unfold maxLen;omega
        · omega
        · have:=hnx.size;simp;omega
        intro v' w1 hown' hgrow _
        have hown2:=own_next hown' (by rw [HS2.out,if_neg hneg])
        have hb1:Below w.heap.size wr w1:=((Below.refl _ _).alloc hnx.size _).grown hgrow (by simp;exact Nat.le_succ_of_le hnx.size) (fun g hg=>((hown.lt) g hg).1)
        clear hgrow hown' hown
        go_wp2
        go_roundw
        case rel=>exact ⟨k+1,by omega,by go_num,by rw [HS1.out,if_neg hneg];rfl,hown2,hnx.trans hb1⟩
        case measure=>simp [intOf]<;>omega
      · have hd0:0≤(p:Int)-(bw:Int):=by have hq0:=HY0.out (by omega);omega
        go_wp2_with (at_builtin;refine wpList_append_own _ rfl _ _ 98 rfl w.heap.size 3 i0 (.int .i64 0) 1 8 Tryz.underlying98 hi hz0 hz1 hz2 rfl (by decide) _ _ _ rfl (hown.alloc _) ⟨wr.heap.size,0,none⟩ 1 1 [.int .i64 ((p-q-bw:Nat):Int)] rfl rfl ?_ ?_ ?_ ?_ ?_ ?_)
        · intro j u hj;exact one_cell j u hj (by have hq0:=HY0.out (by omega);simp<;>omega)
        · intro u hu;simp at hu;subst hu;rfl
        · unfold maxLen;omega
        · omega
        · have:=hnx.size;simp;omega
        intro v' w1 hown' hgrow _
        have hown2:=own_next hown' (by rw [HS2.out,if_neg hneg])
        have hb1:Below w.heap.size wr w1:=((Below.refl _ _).alloc hnx.size _).grown hgrow (by simp;exact Nat.le_succ_of_le hnx.size) (fun g hg=>((hown.lt) g hg).1)
        clear hgrow hown' hown
        go_wp2
        go_roundw
        case rel=>exact ⟨k+1,by omega,by go_num,by rw [HS1.out,if_neg hneg];rfl,hown2,hnx.trans hb1⟩
        case measure=>simp [intOf]<;>omega
  · obtain rfl:k=n:=by omega
    obtain ⟨A',c',rfl,hc',hn',hr,hnew⟩:=own_form hown
    have HW:=Lib.hid hnew
    clear hnew
    have hd:Dg wr .i64 256 A' k (X-Y):=⟨by have:=HX.out.lt;omega,hr⟩
    have HD:=Lib.hid hd
    have HN:=Lib.hid hn'
    clear hr hd hown hn'
    go_wp2_with fail
    refine (rtrim_any A' k c' (X-Y) _ (by omega) hc' HD.out).mono ?_
    rintro e w' ⟨rfl,rfl⟩
    go_wp2
    go_ret
    exact ⟨A',_,c',rfl,Tr.of hc' HN.out HD.out,hnx,HW.out⟩
end Go.Proofs.YtdbhahiieokplaaGreatDoor


namespace Go.Proofs.YtdbhahiieokplaaGreatDoor
open Go.RowKit
attribute [local go_sem ↓] Go.wp_at_zero Go.wp_at_succ

theorem prod_rest {X Y i m:Nat} (hY:Y<256^m):X%256^i*Y / 256^i<256^m:=by
 apply Nat.div_lt_of_lt_mul
 exact Nat.mul_lt_mul'' (Nat.mod_lt _ (Nat.pow_pos (by omega))) hY

theorem prod_car {X Y i m k:Nat} (hY:Y<256^m) (hk:m<k):car 256 (X%256^i*Y / 256^i) (D 256 X i) Y k=0:=by
 have h1:=prod_rest (X:=X) (i:=i) hY
 have h2:256^(m+1)≤256^k:=Nat.pow_le_pow_right (by omega) hk
 have h3:=D_lt (b:=256) (by omega) X i
 have h4:D 256 X i*Y≤255*Y:=Nat.mul_le_mul_right Y (by omega)
 rw [Nat.pow_succ] at h2
 rw [car_end (by omega) (by omega),Nat.div_eq_of_lt]
 omega

theorem prod_end {X Y i m k:Nat} (hY:Y<256^m) (hk:m≤k) (hz:car 256 (X%256^i*Y / 256^i) (D 256 X i) Y k=0) (j:Nat) :
  (if i≤j∧j<i+k then D 256 (X%256^i*Y / 256^i+D 256 X i*Y) (j-i) else D 256 (X%256^i*Y) j)=D 256 (X%256^(i+1)*Y) j:=by
 have hp:0<256^i:=Nat.pow_pos (by omega)
 have hP2:X%256^(i+1)*Y=X%256^i*Y+256^i*(D 256 X i*Y):=by rw [mod_succ,Nat.add_mul,Nat.mul_assoc]
 have hU:X%256^(i+1)*Y / 256^i=X%256^i*Y / 256^i+D 256 X i*Y:=by rw [hP2,Nat.add_mul_div_left _ _ hp]
 have hmk:256^m≤256^k:=Nat.pow_le_pow_right (by omega) hk
 have hlt:=lt_of_car (b:=256) (by omega) (Nat.lt_of_lt_of_le (prod_rest (X:=X) (i:=i) hY) hmk) (Nat.lt_of_lt_of_le hY hmk) hz
 by_cases e:i≤j∧j<i+k
 · rw [if_pos e,D_high (P:=X%256^(i+1)*Y) (k:=i) e.1,hU]
 · rw [if_neg e]
   by_cases e3:j<i
   · rw [hP2,D_low (by omega) e3]
   · rw [D_high (P:=X%256^(i+1)*Y) (k:=i) (by omega),hU,D_zero_of (by omega) hlt (by omega),D_high (P:=X%256^i*Y) (k:=i) (by omega),D_zero_of (by omega) (Nat.lt_of_lt_of_le (prod_rest (X:=X) (i:=i) hY) hmk) (by omega)]

set_option maxHeartbeats 4000000 in
set_option maxRecDepth 100000 in
theorem rtimes (A B:Option Addr) (n m c d X Y:Nat) (w:World) (hn:n≤10000000) (hm:m≤10000000) (hx:Dg w .i64 256 A n X) (hy:Dg w .i64 256 B m Y) :
  Calls Tryz.prog 90 #[.slice A n c,.slice B m d] w (RetTr w (X*Y)):=by
 have HX:=Lib.hid hx
 have HY:=Lib.hid hy
 clear hx hy
 have hmk:=fun W=>run_make_row' (P:=Tryz.prog) 98 3 (.int .i64 0) 8 Tryz.underlying98 intTy_info rfl .i64 .i64 (n+m+1) (by omega) (by omega) W
 have ec:((n+m+1:Nat):Int)=(n:Int)+(m:Int)+1:=by omega
 rw [ec] at hmk
 clear ec
 go_enter Tryz.func90,Tryz.ntmps90
 go_wp2
 go_loopw [6] (fun iv wr=>∃ i:Nat,i≤n∧iv=.int .i64 i∧wr.rowIs w.heap.size 3 (n+m+1) (fun j=>.int .i64 (D 256 (X%256^i*Y) j:Int))∧Below w.heap.size w wr) (fun iv _=>n-(intOf iv).toNat)
 case atStart =>
  refine ⟨0,Nat.zero_le _,rfl,(World.rowIs_made w (.int .i64 0) (n+m+1) 3).congr fun j hj=>?_,(Below.refl _ _).alloc (Nat.le_refl _) _⟩
  simp [D,Nat.mod_one]
 case round =>
  obtain ⟨i,hi,rfl,hrow,hbl⟩:=hrel
  by_cases hlt:i<n
  · obtain ⟨wo,rfl⟩:∃ wo:World,wo=wr:=⟨_,rfl⟩
    obtain ⟨g,o,rfl,hg,hcx⟩:=HX.out.rd (by omega)
    have hxi0:=hcx i hlt
    clear hcx
    have hdx:=D_lt (b:=256) (by omega) X i
    have HROW:=Lib.hid hrow
    have HBL:=Lib.hid hbl
    clear hrow hbl
    go_wp2
    go_loopw [7,8] (fun cy kv wr=>∃ k:Nat,k≤m+1∧kv=.int .i64 k∧cy=.int .i64 (car 256 (X%256^i*Y / 256^i) (D 256 X i) Y k:Nat) ∧
     wr.rowIs w.heap.size 3 (n+m+1) (fun j=>.int .i64 ((if i≤j∧j<i+k then D 256 (X%256^i*Y / 256^i+D 256 X i*Y) (j-i) else D 256 (X%256^i*Y) j:Nat):Int))∧Below w.heap.size w wr) (fun _ kv _=>m+2-(intOf kv).toNat)
    case atStart =>
     refine ⟨0,Nat.zero_le _,rfl,by rw [car_zero];rfl,HROW.out.congr fun j hj=>?_,HBL.out⟩
     rw [if_neg (by omega)]
    case round =>
     obtain ⟨k,hk,rfl,rfl,hrow,hbl⟩:=hrel
     have HEND:=Lib.hid (fun h1 h2=>prod_end (X:=X) (i:=i) (k:=k) HY.out.lt h1 h2)
     have hcp:0<car 256 (X%256^i*Y / 256^i) (D 256 X i) Y k→k≤m:=fun h=>by
      rcases Nat.lt_or_ge m k with h1 | h1
      · rw [prod_car HY.out.lt h1] at h;omega
      · exact h1
     by_cases hgo:k<m∨0<car 256 (X%256^i*Y / 256^i) (D 256 X i) Y k
     · have hkm:k≤m:=by rcases hgo with h | h;omega;exact hcp h
       have hxi:wr.cell? ⟨g,o+i,none⟩=some (.int .i64 (D 256 X i:Int)):=(hbl.cell (p:=⟨g,o+i,none⟩) hg).trans hxi0
       have hci:=hrow.cell (i:=i+k) (by omega)
       have hfi:=hrow.frozen (i+k)
       rw [if_neg (by omega)] at hci
       have hDh:D 256 (X%256^i*Y) (i+k)=D 256 (X%256^i*Y / 256^i) k:=by rw [D_high (k:=i) (by omega),Nat.add_sub_cancel_left]
       rw [hDh] at hci
       obtain ⟨hs1,hs2⟩:=car_step (b:=256) (by omega) (X%256^i*Y / 256^i) (D 256 X i) Y k
       have hcl:=car_lt (b:=256) (by omega) hdx (X%256^i*Y / 256^i) Y k
       have hdu:=D_lt (b:=256) (by omega) (X%256^i*Y / 256^i) k
       have hdy:=D_lt (b:=256) (by omega) Y k
       have hpb:D 256 X i*D 256 Y k≤255*255:=Nat.mul_le_mul (by omega) (by omega)
       have hpe:((D 256 X i:Nat):Int)*((D 256 Y k:Nat):Int)=((D 256 X i*D 256 Y k:Nat):Int):=by simp
       have HP0:=Lib.hid (fun h:m≤k=>show D 256 X i*D 256 Y k=0 by rw [D_zero_of (b:=256) (by omega) HY.out.lt h,Nat.mul_zero])
       have HR:=Lib.hid hrow
       have hyk:k<m→∃ g' o',B=some ⟨g',o',none⟩∧wr.cell? ⟨g',o'+k,none⟩=some (.int .i64 (D 256 Y k:Int)):=fun h=>by
        obtain ⟨g',o',e,_,hc⟩:=(HY.out.rd.below hbl) (by omega)
        exact ⟨g',o',e,hc k h⟩
       have HYK:=Lib.hid hyk
       clear hyk
       generalize D 256 X i*D 256 Y k=p at *
       generalize car 256 (X%256^i*Y / 256^i) (D 256 X i) Y k=cy at *
       generalize hug:D 256 (X%256^i*Y / 256^i) k=u at *
       have HS1:=Lib.hid hs1
       have HS2:=Lib.hid hs2
       have hi1:(0:Int)≤(i:Int)+(k:Int):=by omega
       have hi2:(i:Int)+(k:Int)<(n:Int)+(m:Int)+1:=by omega
       have hi3:((i:Int)+(k:Int)).toNat=i+k:=by omega
       have HUG:=Lib.hid hug
       clear hs1 hs2 hDh hrow hug hcp
       by_cases hkt:k<m
       · obtain ⟨g',o',rfl,hc2⟩:=HYK.out hkt
         have e1:IntKind.i64.wrap (p:Int)=(p:Int):=IntWalk.i64_in _ (by omega)
         have e2:IntKind.i64.wrap ((u:Int)+(cy:Int))=(u:Int)+(cy:Int):=IntWalk.i64_in _ (by omega)
         have e3:IntKind.i64.wrap ((u:Int)+(cy:Int)+(p:Int))=(u:Int)+(cy:Int)+(p:Int):=IntWalk.i64_in _ (by omega)
         clear hgo
         go_wp2_with fail
         go_quiet (fail)
         clear e1 e2 e3
         go_wp2
         go_roundw
         case rel =>
          refine ⟨k+1,by omega,by go_num,by rw [←HS1.out];go_num,(World.rowIs.set (w:=wr.drewN nq) HR.out (i+k) _).congr fun j hj=>?_,(below_draws hbl nq).setCell (Nat.le_refl _) _⟩
          by_cases e:j=i+k
          · rw [if_pos e,if_pos (by omega),e,Nat.add_sub_cancel_left,←HS2.out];go_num
          · rw [if_neg e]
            by_cases e2:i≤j∧j<i+k
            · rw [if_pos e2,if_pos (by omega)]
            · rw [if_neg e2,if_neg (by omega)]
         case measure=>simp [intOf]<;>omega
       · have hcy:0<cy:=by omega
         clear hgo
         go_wp2
         go_roundw
         case rel =>
          have hp0:=HP0.out (by omega)
          refine ⟨k+1,by omega,by go_num,by rw [←HS1.out];go_num,(World.rowIs.set (w:=wr) HR.out (i+k) _).congr fun j hj=>?_,hbl.setCell (Nat.le_refl _) _⟩
          by_cases e:j=i+k
          · rw [if_pos e,if_pos (by omega),e,Nat.add_sub_cancel_left,←HS2.out];go_num
          · rw [if_neg e]
            by_cases e2:i≤j∧j<i+k
            · rw [if_pos e2,if_pos (by omega)]
            · rw [if_neg e2,if_neg (by omega)]
         case measure=>simp [intOf]<;>omega
     · have hn2 : wr.rowIs w.heap.size 3 (n + m + 1) (fun j => .int .i64 (D 256 (X % 256 ^ (i + 1) * Y) j : Int)) := hrow.congr fun j hj => by
        rw [HEND.out (by omega) (by omega) j]
       have hk1:¬k<m:=by omega
       have hk2:¬0<car 256 (X%256^i*Y / 256^i) (D 256 X i) Y k:=by omega
       clear hrow hgo hcp
       go_wp2
       go_roundw
       case rel=>exact ⟨i+1,by omega,by go_num,hn2,hbl⟩
       case measure=>simp [intOf]<;>omega
  · obtain rfl:i=n:=by omega
    have hXm:X%256^i=X:=Nat.mod_eq_of_lt HX.out.lt
    rw [hXm] at hrow
    have HR:=Lib.hid hrow
    clear hXm hrow
    have hd:Dg wr .i64 256 (some ⟨w.heap.size,0,none⟩) (i+m+1) (X*Y):=by
     refine ⟨?_,fun _=>⟨_,0,rfl,HR.out.lt,fun j hj=>?_⟩⟩
     · rw [Nat.pow_succ,Nat.pow_add]
       have h1:=Nat.mul_lt_mul'' HX.out.lt HY.out.lt
       omega
     · rw [Nat.zero_add];exact HR.out.cell hj
    have HD:=Lib.hid hd
    clear hd
    have HT:=Lib.hid (fun W (h:Dg W .i64 256 (some ⟨w.heap.size,0,none⟩) (i+m+1) (X*Y))=>rtrim_any (some ⟨w.heap.size,0,none⟩) (i+m+1) (i+m+1) (X*Y) W (by omega) (Nat.le_refl _) h)
    have ec:((i+m+1:Nat):Int)=(i:Int)+(m:Int)+1:=by omega
    have HE:=Lib.hid ec
    clear ec
    go_wp2_with fail
    refine (HT.out _ HD.out).mono ?_
    rintro e w' ⟨rfl,rfl⟩
    go_wp2
    go_ret
    exact ⟨_,_,_,rfl,Tr.of (Nat.le_refl _) (fun h=>by cases h) HD.out,hbl,fun a ha=>by injection ha with ha;subst ha;exact Nat.le_refl _⟩
end Go.Proofs.YtdbhahiieokplaaGreatDoor


namespace Go.Proofs.YtdbhahiieokplaaGreatDoor
open Go.RowKit

theorem long_step (X:Nat) {Y k:Nat} (hY:0<Y) :
  X / 256^k%Y=(256*(X / 256^(k+1)%Y)+D 256 X k)%Y∧D 256 (X / Y) k=(256*(X / 256^(k+1)%Y)+D 256 X k) / Y∧256*(X / 256^(k+1)%Y)+D 256 X k<256*Y:=by
 have h1:=div_D 256 X k
 have h2:=Nat.div_add_mod (X / 256^(k+1)) Y
 have h3:=Nat.mod_lt (X / 256^(k+1)) hY
 have h4:=D_lt (b:=256) (by omega) X k
 have e0:D 256 (X / Y) k=X / 256^k / Y%256:=by
  unfold D
  rw [Nat.div_div_eq_div_mul,Nat.div_div_eq_div_mul,Nat.mul_comm Y]
 generalize X / 256^(k+1) / Y=q at *
 generalize X / 256^(k+1)%Y=r at *
 generalize D 256 X k=e at *
 have e1:X / 256^k=Y*(256*q)+(256*r+e):=by
  rw [h1,←h2,Nat.mul_add,Nat.mul_left_comm]
  omega
 have h5:(256*r+e) / Y<256:=Nat.div_lt_of_lt_mul (by rw [Nat.mul_comm];omega)
 refine ⟨?_,?_,by omega⟩
 · rw [e1,Nat.mul_add_mod]
 · rw [e0,e1,Nat.mul_add_div hY]
   generalize (256*r+e) / Y=H at *
   clear e0 e1 h1 h2 h3
   omega

theorem D_front (R e:Nat) (he:e<256) (j:Nat):D 256 (256*R+e) j=if j=0 then e else D 256 R (j-1):=by
 rcases j with _ | j
 · rw [if_pos rfl]
   unfold D
   rw [Nat.pow_zero,Nat.div_one]
   omega
 · rw [if_neg (by omega),Nat.add_sub_cancel]
   unfold D
   rw [Nat.pow_succ',←Nat.div_div_eq_div_mul,show (256*R+e) / 256=R by omega]

theorem nums_front (R e n:Nat) (he:e<256):[Value.int .i64 (e:Int)]++nums .i64 (D 256 R) n=nums .i64 (D 256 (256*R+e)) (n+1):=by
 apply List.ext_getElem?
 intro i
 rcases i with _ | i
 · rw [nums_get _ _ _ _ (by omega),D_front R e he,if_pos rfl];rfl
 · rw [List.cons_append,List.nil_append,List.getElem?_cons_succ]
   by_cases hi:i<n
   · rw [nums_get _ _ _ _ hi,nums_get _ _ _ _ (by omega),D_front R e he,if_neg (by omega),Nat.add_sub_cancel]
   · rw [List.getElem?_eq_none (by rw [nums_length];omega),List.getElem?_eq_none (by rw [nums_length];omega)]

theorem front_lt {R e n:Nat} (he:e<256) (h:R<256^n):256*R+e<256^(n+1):=by
 rw [Nat.pow_succ]
 omega

theorem take_more {T Y t s:Nat} (h:s*Y≤T-t*Y) (ht:t*Y≤T):(t+s)*Y≤T∧T-t*Y-s*Y=T-(t+s)*Y:=by
 rw [Nat.add_mul]
 omega
theorem take_all {T Y t:Nat} (hY:0<Y) (ht:t*Y≤T) (h:T-t*Y<Y):t=T / Y∧T-t*Y=T%Y:=by
 have h1:T / Y=t:=by
  rw [show T=Y*t+(T-t*Y) by rw [Nat.mul_comm Y];omega,Nat.mul_add_div hY,Nat.div_eq_of_lt h];omega
 have h2:=Nat.div_add_mod T Y
 rw [h1,Nat.mul_comm] at h2
 exact ⟨h1.symm,by omega⟩
theorem take_le {T Y t:Nat} (hY:0<Y):t*Y≤T↔t≤T / Y:=(Nat.le_div_iff_mul_le hY).symm
theorem take_lt {T Y t:Nat} (hY:0<Y) (ht:t*Y≤T):Y≤T-t*Y↔t<T / Y:=by
 rw [show t<T / Y↔t+1≤T / Y from Iff.rfl,←take_le hY,Nat.add_mul]
 omega
end Go.Proofs.YtdbhahiieokplaaGreatDoor
