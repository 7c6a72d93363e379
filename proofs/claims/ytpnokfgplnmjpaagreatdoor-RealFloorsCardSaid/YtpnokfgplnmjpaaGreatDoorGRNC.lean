import Derived.Test.YtpnokfgplnmjpaaGreatDoorGSgQ
import Derived.Deep.QuietTactic
import Derived.BigQuiet
set_option linter.unusedSimpArgs false
set_option linter.unusedVariables false

namespace Go.Proofs.YtpnokfgplnmjpaaGreatDoor
open Go.RowKit

set_option maxHeartbeats 400000 in
set_option maxRecDepth 100000 in
theorem order_anyN (A B:Option Addr) (n m c d X Y:Nat) (w:World) (hn:n≤1000000000000) (hm:m≤1000000000000) (hx:Dg w .i64 256 A n X) (hy:Dg w .i64 256 B m Y) :
  Calls Tryz.prog 156 #[.slice A n c,.slice B m d] w (RetV w (.int .i64 (ord X Y))):=by
 have hstep:∀ j,X / 256^(j+1)=Y / 256^(j+1)→D 256 X j=D 256 Y j→X / 256^j=Y / 256^j:=fun j h1 h2=>by rw [div_D 256 X j,div_D 256 Y j,h1,h2]
 have hlo:∀ j,X / 256^(j+1)=Y / 256^(j+1)→D 256 X j<D 256 Y j→ord X Y=-1:=fun j h1 h2=>ord_lt (lt_of_digit h1 h2)
 have hhi:∀ j,X / 256^(j+1)=Y / 256^(j+1)→D 256 Y j<D 256 X j→ord X Y=1:=fun j h1 h2=>ord_gt (lt_of_digit h1.symm h2)
 have hst:∀ N,n≤N→m≤N→X / 256^N=Y / 256^N:=fun N h1 h2=>by
  have a1:256^n≤256^N:=Nat.pow_le_pow_right (by omega) h1
  have a2:256^m≤256^N:=Nat.pow_le_pow_right (by omega) h2
  have a3:=hx.lt
  have a4:=hy.lt
  rw [Nat.div_eq_of_lt (by omega),Nat.div_eq_of_lt (by omega)]
 have HX:=Lib.hid hx
 have HY:=Lib.hid hy
 have HS:=Lib.hid hstep
 have HL:=Lib.hid hlo
 have HH:=Lib.hid hhi
 have HT:=Lib.hid hst
 clear hx hy hstep hlo hhi hst
 by_cases hnm:n<m
 all_goals
  go_enter Tryz.func156,Tryz.ntmps156
  go_wp2
  go_loop [5] (fun i=>∃ k:Nat,k≤1000000000000∧i=.int .i64 ((k:Int)-1)∧X / 256^k=Y / 256^k) (fun i=>(intOf i+1).toNat)
  case atStart=>first | exact ⟨m,hm,rfl,HT.out _ (by omega) (by omega)⟩ | exact ⟨n,hn,rfl,HT.out _ (by omega) (by omega)⟩
  case round =>
   obtain ⟨k,hk,rfl,heq⟩:=hrel
   have HE:=Lib.hid heq
   clear heq
   rcases k with _ | j
   · have e:(((0:Nat):Int)-1)=-1:=rfl
     rw [e]
     go_wp2
     go_ret
     have h:=HE.out
     simp at h
     subst h
     exact ⟨congrArg (fun z=>Ending.returned (.int .i64 z)) (ord_eq X).symm,rfl⟩
   · have e:(((j+1:Nat):Int)-1)=(j:Int):=by omega
     rw [e]
     clear e
     rcases Nat.lt_trichotomy (D 256 X j) (D 256 Y j) with h | h | h
     · go_wp2_with fail
       refine (at_any A n c X j _ (by omega) (by omega) HX.out).mono ?_
       rintro e w' ⟨rfl,rfl⟩
       go_wp2_with fail
       refine (at_any B m d Y j _ (by omega) (by omega) HY.out).mono ?_
       rintro e w' ⟨rfl,rfl⟩
       go_wp2
       go_ret
       exact ⟨congrArg (fun z=>Ending.returned (.int .i64 z)) (HL.out j HE.out h).symm,rfl⟩
     · have HD:=Lib.hid h
       have h1:D 256 X j≤D 256 Y j:=by omega
       have h2:D 256 Y j≤D 256 X j:=by omega
       clear h
       go_wp2_with fail
       refine (at_any A n c X j _ (by omega) (by omega) HX.out).mono ?_
       rintro e w' ⟨rfl,rfl⟩
       go_wp2_with fail
       refine (at_any B m d Y j _ (by omega) (by omega) HY.out).mono ?_
       rintro e w' ⟨rfl,rfl⟩
       go_wp2_with fail
       refine (at_any A n c X j _ (by omega) (by omega) HX.out).mono ?_
       rintro e w' ⟨rfl,rfl⟩
       go_wp2_with fail
       refine (at_any B m d Y j _ (by omega) (by omega) HY.out).mono ?_
       rintro e w' ⟨rfl,rfl⟩
       go_wp2
       go_round
       case rel=>exact ⟨j,by omega,by go_num,HS.out j HE.out HD.out⟩
       case measure=>simp [intOf]<;>omega
     · go_wp2_with fail
       refine (at_any A n c X j _ (by omega) (by omega) HX.out).mono ?_
       rintro e w' ⟨rfl,rfl⟩
       go_wp2_with fail
       refine (at_any B m d Y j _ (by omega) (by omega) HY.out).mono ?_
       rintro e w' ⟨rfl,rfl⟩
       go_wp2_with fail
       refine (at_any A n c X j _ (by omega) (by omega) HX.out).mono ?_
       rintro e w' ⟨rfl,rfl⟩
       go_wp2_with fail
       refine (at_any B m d Y j _ (by omega) (by omega) HY.out).mono ?_
       rintro e w' ⟨rfl,rfl⟩
       go_wp2
       go_ret
       exact ⟨congrArg (fun z=>Ending.returned (.int .i64 z)) (HH.out j HE.out h).symm,rfl⟩
end Go.Proofs.YtpnokfgplnmjpaaGreatDoor
