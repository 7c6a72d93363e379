import Derived.Test.YtpnokfgplnmjpaaGreatDoorGPo
import Derived.Test.YtpnokfgplnmjpaaGreatDoorGQE
import Derived.Laws.CopyOwn
set_option linter.unusedSimpArgs false
set_option linter.unusedVariables false
set_option maxRecDepth 100000
set_option maxHeartbeats 2000000
open Go.Lib (hid)
open Go.Proofs.Tryz (prog)
namespace Go.Proofs.YtpnokfgplnmjpaaGreatDoor
open Go.RowKit
attribute [local go_sem ↓] Go.wp_at_zero Go.wp_at_succ
theorem sign_true (w:World):Calls prog 210 #[.bool true] w (RetV w (.int .i64 1)):=by
 go_enter Tryz.func210,Tryz.ntmps210;go_wp2
 go_ret
 exact ⟨rfl,rfl⟩
theorem sign_false (w:World):Calls prog 210 #[.bool false] w (RetV w (.int .i64 (-1))):=by
 go_enter Tryz.func210,Tryz.ntmps210;go_wp2
 go_ret
 exact ⟨rfl,rfl⟩
def sgB (b:Bool):Int:=if b then 1 else -1
theorem sign_any (b:Bool) (w:World):Calls prog 210 #[.bool b] w (RetV w (.int .i64 (sgB b))):=by
 cases b
 · exact sign_false w
 · exact sign_true w
def Drew (w w':World):Prop:=∃ q,w'=w.drewN q
theorem Drew.refl (w:World):Drew w w:=⟨0,rfl⟩
theorem Drew.drewN {w w':World} (h:Drew w w') (k:Nat):Drew w (w'.drewN k):=by
 obtain ⟨q,rfl⟩:=h;exact ⟨q+k,by rw [World.drewN_drewN]⟩
theorem Drew.below {w w':World} (h:Drew w w') (B:Nat):Below B w w':=by
 obtain ⟨q,rfl⟩:=h;exact below_draws (Below.refl _ _) q
theorem Drew.cell {w w':World} (h:Drew w w') (a:Addr):w'.cell? a=w.cell? a:=by
 obtain ⟨q,rfl⟩:=h
 rfl
def RetO (w:World) (z:Int) (e:Ending) (w':World):Prop:=e=.returned (.int .i64 z)∧Drew w w'
theorem ord_of_len {A B:Option Addr} {n m c d X Y:Nat} {w:World} (hx:Nm w A n c X) (hy:Nm w B m d Y) (h:n≠m):ord X Y=sgB (decide (m<n)):=by
 have key:∀ {p q P Q:Nat},p<q→P<B64^p→(0<q→B64^(q-1)≤Q)→P<Q:=fun {p q P Q} h1 h2 h3=>by
  have h4:B64^p≤B64^(q-1):=Nat.pow_le_pow_right B64_pos om;have h5:=h3 om;omega
 unfold sgB;by_cases hlt:m<n
 · rw [decide_eq_true hlt,ord_gt (key hlt hy.lt hx.top)];rfl
 · rw [decide_eq_false hlt,ord_lt (key om hx.lt hy.top)];rfl
theorem compare_any (A B:Option Addr) (n m c d X Y:Nat) (w:World) (hn:n≤1000000000) (hm:m≤1000000000) (hx:Nm w A n c X) (hy:Nm w B m d Y) :
  Calls prog 184 #[.slice A n c,.slice B m d] w (RetO w (ord X Y)):=by
 by_cases hlen:n=m
 · subst hlen;have hstep:∀ j,X / B64^(j+1)=Y / B64^(j+1)→D B64 X j=D B64 Y j→X / B64^j=Y / B64^j:=fun j h1 h2=>by rw [div_D B64 X j,div_D B64 Y j,h1,h2]
   have hst:X / B64^n=Y / B64^n:=by rw [Nat.div_eq_of_lt hx.lt,Nat.div_eq_of_lt hy.lt]
   have HX:=hid hx;have HY:=hid hy;have HS:=hid hstep;have HT:=hid hst;clear hx hy hstep hst;go_enter Tryz.func184,Tryz.ntmps184;go_wp2
   go_loopw [5] (fun i wr=>∃ k:Nat,k≤n∧i=.int .i64 ((k:Int)-1)∧Hid (X / B64^k=Y / B64^k)∧Drew w wr) (fun i _=>(intOf i+1).toNat)
   case atStart=>exact ⟨n,Nat.le_refl _,rfl,HT,Drew.refl _⟩
   case round =>
    obtain ⟨k,hk,rfl,HE,HD⟩:=hrel;rcases k with _ | j
    · have e:(((0:Nat):Int)-1)=-1:=rfl;rw [e];go_wp2
      go_ret
      have h:=HE.out;simp at h;subst h;exact ⟨congrArg (fun z=>Ending.returned (.int .i64 z)) (ord_eq X).symm,HD⟩
    · have e:(((j+1:Nat):Int)-1)=(j:Int):=om;rw [e];clear e;obtain ⟨g1,o1,rfl,hg1,hc1⟩:=HX.out.rd om;obtain ⟨g2,o2,rfl,hg2,hc2⟩:=HY.out.rd om;have hc1j:=(HD.cell ⟨g1,o1+j,none⟩).trans (hc1 j om);have hc2j:=(HD.cell ⟨g2,o2+j,none⟩).trans (hc2 j om);have hj0:(0:Int)≤(j:Int):=om;have hj1:(j:Int)<(n:Int):=om;have hlo:=fun h2=>ord_lt (lt_of_digit HE.out (b:=B64) (X:=X) (Y:=Y) (k:=j) h2)
      have hhi:=fun h2=>ord_gt (lt_of_digit HE.out.symm (b:=B64) (X:=Y) (Y:=X) (k:=j) h2)
      have hst:=HS.out j HE.out;have HLO:=hid hlo;have HHI:=hid hhi;have HST:=hid hst;clear hc1 hc2 hlo hhi hst;generalize D B64 X j=x at *;generalize D B64 Y j=y at *;by_cases hxy:x=y
      · subst hxy;have hne:((x:Int) != (x:Int))=false:=by simp
        go_wp2_with fail
        go_quiet (fail)
        go_wp2
        go_roundw
        case rel=>exact ⟨j,om,by go_num,HST.out trivial,HD.drewN _⟩
        case measure=>simp [intOf]<;>omega
      · have hne:((x:Int) != (y:Int))=true:=by simp;omega
        obtain ⟨b,hb⟩:∃ b,decide (y<x)=b:=⟨_,rfl⟩
        have hgt:decide ((y:Int)<(x:Int))=b:=by rw [←hb];simp
        have HB:=hid hb;have HNE:=hid hxy;clear hb hxy;go_wp2_with fail
        go_quiet (fail)
        go_wp2_with fail
        go_quiet ((go_at_call 210;first | exact quietV (sign_any _ _) | exact (sign_any _ _).mono fun _ _ ⟨he,hm⟩=>⟨he,by rw [←hm];exact ⟨_,by rw [World.drewN_drewN]⟩⟩ | exact (sign_any _ _).mono fun _ _ ⟨he,hm⟩=>⟨he,_,hm.symm⟩))
        go_wp2
        go_ret
        refine ⟨congrArg (fun z=>Ending.returned (.int .i64 z)) ?_,(HD.drewN _).drewN _⟩;have hb:=HB.out;have hxy:=HNE.out;by_cases hlt:y<x
        · rw [HHI.out hlt,decide_eq_true hlt];rfl
        · rw [HLO.out om,decide_eq_false hlt];rfl
 · have hne:((n:Int) != (m:Int))=true:=by simp;omega
   have hv:=ord_of_len hx hy hlen;obtain ⟨b,hb⟩:∃ b,decide (m<n)=b:=⟨_,rfl⟩
   rw [hb] at hv;have HV:=hid hv;clear hv hx hy hlen;go_enter Tryz.func184,Tryz.ntmps184;go_wp2_with fail
   refine (sign_any _ _).mono ?_;rintro e w' ⟨rfl,rfl⟩;go_wp2
   go_ret
   exact ⟨congrArg (fun z=>Ending.returned (.int .i64 z)) HV.out.symm,Drew.refl _⟩
theorem wpList_copy_lies {w:World} {ops:Array Oper} {rest:List Oper} {o:Oper} {a:Act} {Q:Exit→Act→World→Prop} (hgd:o.guard=none) (d s:Operand)
  (ho:o.op=.call { callee:=.builtin .copy,args:=#[d,s],argTypes:=#[131,131] })
  (g dLen dCap:Nat) (A:Option Addr) (n c:Nat) (hd:a.eval d=.slice (some ⟨g,0,none⟩) dLen dCap) (hs:a.eval s=.slice A n c) (N:Nat) (F f:Nat→Nat)
  (hl:Lies w g N F) (hn:n≤dLen) (hN:dLen≤N) (hr:Rd w .u64 A n f)
  (h:∀ w',Lies w' g N (fun i=>if i<n then f i else F i)→w.grownBy w' (some g)→wpList prog ops Q rest (a.put o.dst (goInt n)) w'):wpList prog ops Q (o :: rest) a w:=by
 have hu:prog.underlying 131=some (.slice 124):=Tryz.underlying131;have hsz:(prog.info? 124).map (·.size)=some 1:=by kernel_rfl
 by_cases h0:n=0
 · subst h0;refine wpList_copy_nothing hgd d s _ _ ho 124 hu hsz _ _ _ _ _ _ hd hs (Nat.min_eq_left (Nat.zero_le _)) ?_;exact h w (hl.congr fun i hi=>by rw [if_neg om]) (World.grownBy.refl _ _)
 · obtain ⟨cur,T,hg,hcs,hcell⟩:=hl;obtain ⟨gx,ox,rfl,hgx,hcx⟩:=hr om;have hnl:(nums .u64 f n).length=n:=nums_length _ _ _;refine wpList_copy_own hgd d s _ _ ho 124 hu hsz g 0 _ _ _ _ _ hd hs cur T hg (nums .u64 f n) (by rw [hnl];exact (Nat.min_eq_left hn).symm) ?_ (by rw [hnl];omega) ?_ ?_
   · intro j v hj
     have hjn:j<n:=by
      rcases Nat.lt_or_ge j n with h1 | h1
      · exact h1
      · rw [List.getElem?_eq_none (by rw [hnl];exact h1)] at hj;cases hj
     rw [nums_get _ _ _ _ hjn] at hj
     injection hj with hj
     subst hj;rw [Addr.add_lit];exact hcx j hjn
   · intro v hv;unfold nums at hv;obtain ⟨_,_,rfl⟩:=List.mem_map.1 hv
     rfl
   · rw [hnl];refine h _ ⟨_,T,setRow_heap w g cur _ T _ hg,?_,fun i hi=>?_⟩ ⟨rfl,rfl,rfl,by simp [World.setRow],fun k _ hk=>setRow_other w g k _ (fun e=>hk (by rw [e]))⟩
     · simp;omega
     · by_cases hi2:i<n
       · show _=some (Value.int .u64 ((if i<n then f i else F i:Nat):Int));rw [if_pos hi2];have:=nums_get .u64 f n i hi2
         have e3:(nums .u64 f n)[i]'(by rw [hnl];exact hi2)=Value.int .u64 (f i:Int):=by
          have h3:=List.getElem?_eq_getElem (l:=nums .u64 f n) (i:=i) (by rw [hnl];exact hi2);rw [h3] at this
          injection this
         simp [List.getElem?_append,hnl,hi2,e3]
       · show _=some (Value.int .u64 ((if i<n then f i else F i:Nat):Int));rw [if_neg hi2];have:=hcell i hi;have e:n+(i-n)=i:=om;simp [List.getElem?_append,hnl,hi2,e,this]
end Go.Proofs.YtpnokfgplnmjpaaGreatDoor
