import Derived.Test.YtdbhahiieokplaaGreatDoorGRefL
import Derived.Test.YtdbhahiieokplaaGreatDoorGRefAx
import Derived.Test.YtdbhahiieokplaaGreatDoorGRNCx
import Derived.Test.YtdbhahiieokplaaGreatDoorGRefGx
import Derived.Test.YtdbhahiieokplaaGreatDoorGRefG
set_option linter.unusedSimpArgs false
set_option linter.unusedVariables false

namespace Go.Proofs.YtdbhahiieokplaaGreatDoor
open Go.RowKit
attribute [local go_sem ↓] Go.wp_at_zero Go.wp_at_succ

theorem sgn_lt (na:Bool) {X Y:Nat} (h:X<Y):sgn (!na) (Y-X)=sgn na X+sgn (!na) Y:=sgn_add_not2 na (Nat.le_of_lt h)

set_option maxHeartbeats 4000000 in
set_option maxRecDepth 100000 in
theorem refAdd_pair (na nb:Bool) (a b:ByteArray) (ha:a.size≤100000) (hb:b.size≤100000) (w:World) :
  Calls Tryz.prog 124 #[.agg #[.bool na,.string a],.agg #[.bool nb,.string b]] w (RetZ w (sgn na (bval a)+sgn nb (bval b))):=by
 have HU1:=Lib.hid (fun V=>digits_any na a V (by omega))
 have HU2:=Lib.hid (fun V=>digits_any nb b V (by omega))
 have K0:=Lib.hid (Kp.start w 23 (.bool na) (.string a) (.bool nb) (.string b) (.cells #[.bool false,.string ⟨#[]⟩] 23))
 have hne1:¬(w.heap.size=w.heap.size+1+1):=by omega
 have hne2:¬(w.heap.size+1+1=w.heap.size):=by omega
 by_cases hs:na=nb
 · subst hs
   go_enter Tryz.func124,Tryz.ntmps124
   go_wp2_with fail
   go_region_held3 (fun w'=>w'.cell? ⟨w.heap.size,0,none⟩=some (.bool na)∧w'.cell? ⟨w.heap.size,1,none⟩=some (.string a)∧w'.cell? ⟨w.heap.size+1,0,none⟩=some (.bool na)∧w'.cell? ⟨w.heap.size+1,1,none⟩=some (.string b))
    (first
     | go_keep
     | exact ⟨K2.out.a0,K2.out.a1,K2.out.a2,K2.out.a3⟩
     | exact ⟨K1.out.a0,K1.out.a1,K1.out.a2,K1.out.a3⟩)
    (first
     | (go_at_call 156;(with_reducible refine (HU1.out _).mono ?_);rintro e w1 ⟨A1,n1,c1,hn1,rfl,hd1,hb1⟩;have K1:=Lib.hid (K0.out.drew.next hb1))
     | (go_at_call 156;(with_reducible refine (HU2.out _).mono ?_);rintro e w2 ⟨A2,n2,c2,hn2,rfl,hd2,hb2⟩;have K2:=Lib.hid (K1.out.next hb2)))
   have HD1:=Lib.hid (hd1.below hb2)
   have HD2:=Lib.hid hd2
   have hn1':n1≤100000:=by omega
   have hn2':n2≤100000:=by omega
   have q0:=K2.out.a0
   have q2:=K2.out.a2
   clear hd1 hd2 hb1 hb2 K1 K0 hn1 hn2
   generalize bval a=X at *
   generalize bval b=Y at *
   go_wp2_with fail
   go_region_held3 (fun w'=>w'.cell? ⟨w.heap.size,0,none⟩=some (.bool na))
    (first
     | go_keep
     | exact K5.out.a0
     | exact K4.out.a0)
    (first
     | (go_at_call 157;refine (sum_any A1 A2 n1 n2 c1 c2 X Y _ ?_ ?_ ?_ ?_).mono ?_;(omega);(omega);(exact (HD1.out.drew));(exact (HD2.out.drew));rintro e w4 ⟨A3,n3,c3,hn3,rfl,hd3,hb4⟩;have K4:=Lib.hid (K2.out.drew.next hb4))
     | (go_at_call 111;refine (number_any na A3 n3 c3 (X+Y) _ ?_ ?_).mono ?_;(omega);(exact hd3);rintro e w5 ⟨rfl,hb5⟩;have K5:=Lib.hid (K4.out.next hb5);obtain ⟨bz,mz,hbm⟩:=enc_form (sgn na (X+Y));rw [hbm];have HBM:=Lib.hid hbm;clear hbm;obtain ⟨p0,p1,g0,g1⟩:=K5.out.res))
   go_wp2
   refine bodyPost_ret (v:=.agg #[.bool bz,.string mz]) (by simp [results,Tryz.results124,go_sem,p0,p1]) rfl ⟨?_,K5.out.stored _ _⟩
   rw [←HBM.out]
   exact congrArg (fun z=>Ending.returned (enc z)) (sgn_add_same na X Y)
 · obtain rfl:nb=!na:=by cases na<;>cases nb<;>first | rfl | exact absurd rfl hs
   clear hs
   go_enter Tryz.func124,Tryz.ntmps124
   go_wp2_with fail
   go_region_held3 (fun w'=>w'.cell? ⟨w.heap.size,0,none⟩=some (.bool na)∧w'.cell? ⟨w.heap.size,1,none⟩=some (.string a)∧w'.cell? ⟨w.heap.size+1,0,none⟩=some (.bool (!na))∧w'.cell? ⟨w.heap.size+1,1,none⟩=some (.string b))
    (first
     | go_keep
     | exact ⟨K2.out.a0,K2.out.a1,K2.out.a2,K2.out.a3⟩
     | exact ⟨K1.out.a0,K1.out.a1,K1.out.a2,K1.out.a3⟩)
    (first
     | (go_at_call 156;(with_reducible refine (HU1.out _).mono ?_);rintro e w1 ⟨A1,n1,c1,hn1,rfl,hd1,hb1⟩;have K1:=Lib.hid (K0.out.drew.next hb1))
     | (go_at_call 156;(with_reducible refine (HU2.out _).mono ?_);rintro e w2 ⟨A2,n2,c2,hn2,rfl,hd2,hb2⟩;have K2:=Lib.hid (K1.out.next hb2)))
   have HD1:=Lib.hid (hd1.below hb2)
   have HD2:=Lib.hid hd2
   have hn1':n1≤100000:=by omega
   have hn2':n2≤100000:=by omega
   have q0:=K2.out.a0
   have q2:=K2.out.a2
   clear hd1 hd2 hb1 hb2 K1 K0 hn1 hn2
   generalize bval a=X at *
   generalize bval b=Y at *
   have hord:=fun V (h1:Dg V .i64 256 A1 n1 X) (h2:Dg V .i64 256 A2 n2 Y)=>order_any A1 A2 n1 n2 c1 c2 X Y V (by omega) (by omega) h1 h2
   by_cases hlt:X<Y
   · rw [ord_lt hlt] at hord
     have HO:=Lib.hid hord
     clear hord
     go_wp2_with fail
     refine (HO.out _ HD1.out HD2.out).mono ?_
     rintro e w3 ⟨rfl,rfl⟩
     go_wp2_with fail
     go_region_held3 (fun w'=>w'.cell? ⟨w.heap.size+1,0,none⟩=some (.bool (!na)))
      (first
       | go_keep
       | exact K5.out.a2
       | exact K4.out.a2)
      (first
       | (go_at_call 159;refine (difference_any A2 A1 n2 n1 c2 c1 Y X _ ?_ ?_ ?_ ?_ ?_).mono ?_;(omega);(omega);(exact (HD2.out.drew));(exact (HD1.out.drew));(omega);rintro e w4 ⟨A3,n3,c3,hn3,rfl,hd3,hb4⟩;have K4:=Lib.hid (K2.out.drew.next hb4))
       | (go_at_call 111;refine (number_any (!na) A3 n3 c3 (Y-X) _ ?_ ?_).mono ?_;(omega);(exact hd3);rintro e w5 ⟨rfl,hb5⟩;have K5:=Lib.hid (K4.out.next hb5);obtain ⟨bz,mz,hbm⟩:=enc_form (sgn (!na) (Y-X));rw [hbm];have HBM:=Lib.hid hbm;clear hbm;obtain ⟨p0,p1,g0,g1⟩:=K5.out.res))
     go_wp2
     refine bodyPost_ret (v:=.agg #[.bool bz,.string mz]) (by simp [results,Tryz.results124,go_sem,p0,p1]) rfl ⟨?_,K5.out.stored _ _⟩
     rw [←HBM.out]
     exact congrArg (fun z=>Ending.returned (enc z)) (sgn_lt na hlt)
   · obtain ⟨o,hoo,ho⟩:∃ o:Int,ord X Y=o∧0≤o:=⟨_,rfl,by unfold ord;rw [if_neg hlt];split<;>omega⟩
     rw [hoo] at hord
     have HO:=Lib.hid hord
     clear hord hoo
     go_wp2_with fail
     refine (HO.out _ HD1.out HD2.out).mono ?_
     rintro e w3 ⟨rfl,rfl⟩
     go_wp2_with fail
     go_region_held3 (fun w'=>w'.cell? ⟨w.heap.size,0,none⟩=some (.bool na))
      (first
       | go_keep
       | exact K5.out.a0
       | exact K4.out.a0)
      (first
       | (go_at_call 159;refine (difference_any A1 A2 n1 n2 c1 c2 X Y _ ?_ ?_ ?_ ?_ ?_).mono ?_;(omega);(omega);(exact (HD1.out.drew));(exact (HD2.out.drew));(omega);rintro e w4 ⟨A3,n3,c3,hn3,rfl,hd3,hb4⟩;have K4:=Lib.hid (K2.out.drew.next hb4))
       | (go_at_call 111;refine (number_any na A3 n3 c3 (X-Y) _ ?_ ?_).mono ?_;(omega);(exact hd3);rintro e w5 ⟨rfl,hb5⟩;have K5:=Lib.hid (K4.out.next hb5);obtain ⟨bz,mz,hbm⟩:=enc_form (sgn na (X-Y));rw [hbm];have HBM:=Lib.hid hbm;clear hbm;obtain ⟨p0,p1,g0,g1⟩:=K5.out.res))
     go_wp2
     refine bodyPost_ret (v:=.agg #[.bool bz,.string mz]) (by simp [results,Tryz.results124,go_sem,p0,p1]) rfl ⟨?_,K5.out.stored _ _⟩
     rw [←HBM.out]
     exact congrArg (fun z=>Ending.returned (enc z)) (sgn_add_not na (by omega))
end Go.Proofs.YtdbhahiieokplaaGreatDoor


namespace Go.Proofs.YtdbhahiieokplaaGreatDoor
open Go.RowKit
attribute [local go_sem ↓] Go.wp_at_zero Go.wp_at_succ

section
variable {x y z:Int} {b1 b2 b3:Bool} {m1 m2 m3:ByteArray} (hx:enc x=.agg #[.bool b1,.string m1]) (hy:enc y=.agg #[.bool b2,.string m2]) (s1:m1.size≤100000) (s2:m2.size≤100000) (hz:enc z=.agg #[.bool b3,.string m3])
include hx hy s1 s2 hz

theorem refAdd_f (e:z=x+y) (w:World):Calls Tryz.prog 124 #[.agg #[.bool b1,.string m1],.agg #[.bool b2,.string m2]] w (RetB w (.agg #[.bool b3,.string m3])):=by
 subst e
 have h:=refAdd_pair b1 b2 m1 m2 s1 s2 w
 rw [enc_sgn hx,enc_sgn hy] at h
 exact zf2 hz h

end
end Go.Proofs.YtdbhahiieokplaaGreatDoor
