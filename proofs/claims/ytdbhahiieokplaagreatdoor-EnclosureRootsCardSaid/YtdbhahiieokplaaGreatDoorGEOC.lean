import Derived.Test.YtdbhahiieokplaaGreatDoorGRLF
import Derived.Test.YtdbhahiieokplaaGreatDoorGRefLx
import Derived.Test.YtdbhahiieokplaaGreatDoorGRefGx
import Derived.Test.YtdbhahiieokplaaGreatDoorGRNCx
import Derived.Test.YtdbhahiieokplaaGreatDoorGRefAx
import Derived.Test.YtdbhahiieokplaaGreatDoorGENE
import Derived.Test.YtdbhahiieokplaaGreatDoorGRMR
import Derived.Test.YtdbhahiieokplaaGreatDoorGRGC
import Derived.Test.YtdbhahiieokplaaGreatDoorGKtD
import Derived.Test.YtdbhahiieokplaaGreatDoorGRNA
import Derived.Test.YtdbhahiieokplaaGreatDoorGRefI
import Derived.Test.YtdbhahiieokplaaGreatDoorGRNC
import Derived.Test.YtdbhahiieokplaaGreatDoorGRLN
set_option linter.unusedSimpArgs false
set_option linter.unusedVariables false

namespace Go.Proofs.YtdbhahiieokplaaGreatDoor
open Go.RowKit
attribute [local go_sem ↓] Go.wp_at_zero Go.wp_at_succ

set_option maxHeartbeats 8000000 in
set_option maxRecDepth 100000 in
theorem egrid_neg {n:Int} (h:n<0) (w:World) :
  Calls Tryz.prog 73 #[.int .i64 (n)] w (RetB w (.bool false)):=by
 go_enter Tryz.func73,Tryz.ntmps73
 exact wk0

set_option maxHeartbeats 8000000 in
set_option maxRecDepth 100000 in
theorem esqrt_bad (w:World) {b1 b2:Bool} {m1 k1 m2 k2:ByteArray} {n:Int} (HG:∀ V,Below w.heap.size w V→Calls Tryz.prog 73 #[.int .i64 (n)] V (RetB V (.bool false))) :
  Calls Tryz.prog 48 #[.agg #[.bool b1,.string m1,.bool false,.string k1,.bool b2,.string m2,.bool false,.string k2],.int .i64 (n)] w (RetB w (.tuple #[.agg #[.bool false,.string ⟨#[]⟩,.bool false,.string ⟨#[]⟩,.bool false,.string ⟨#[]⟩,.bool false,.string ⟨#[]⟩],.int .i64 2])):=by
 have C1:=Lib.hid HG
 have RS:=Lib.hid Tryz.results48
 clear HG 
 go_enter Tryz.func48,Tryz.ntmps48
 exact wk0

set_option maxHeartbeats 8000000 in
set_option maxRecDepth 100000 in
theorem esqrt_neg (w:World) {b1 b2:Bool} {m1 k1 m2 k2:ByteArray} {n c:Int} (h:c<0) (HG:∀ V,Below w.heap.size w V→Calls Tryz.prog 73 #[.int .i64 (n)] V (RetB V (.bool true))) (HS:∀ V,Below w.heap.size w V→Calls Tryz.prog 95 #[.agg #[.bool b1,.string m1,.bool false,.string k1]] V (RetB V (.int .i64 (c)))) :
  Calls Tryz.prog 48 #[.agg #[.bool b1,.string m1,.bool false,.string k1,.bool b2,.string m2,.bool false,.string k2],.int .i64 (n)] w (RetB w (.tuple #[.agg #[.bool false,.string ⟨#[]⟩,.bool false,.string ⟨#[]⟩,.bool false,.string ⟨#[]⟩,.bool false,.string ⟨#[]⟩],.int .i64 2])):=by
 have C1:=Lib.hid HG
 have C2:=Lib.hid HS
 have RS:=Lib.hid Tryz.results48
 clear HG HS 
 go_enter Tryz.func48,Tryz.ntmps48
 exact wk0

end Go.Proofs.YtdbhahiieokplaaGreatDoor


namespace Go.Proofs.YtdbhahiieokplaaGreatDoor
open Go.RowKit
attribute [local go_sem ↓] Go.wp_at_zero Go.wp_at_succ

theorem floor_parts (b:Bool) {x:Int} {N D:Nat} (hx:x=sgn b N) (hD:0<D) :
  (b=false→x / (D:Int)=sgn b (N / D))∧(b=true→N%D=0→x / (D:Int)=sgn b (N / D))∧(b=true→0<N%D→x / (D:Int)=sgn b (N / D)-1):=by
 subst hx
 have h1:=Nat.div_add_mod N D
 have h2:=Nat.mod_lt N hD
 refine ⟨?_,?_,?_⟩
 · rintro rfl
   simp [sgn]
 · rintro rfl h0
   have h3:(N:Int)=(D:Int)*((N / D:Nat):Int):=by
    rw [h0,Nat.add_zero] at h1
    rw [←Int.natCast_mul,h1]
   simp only [sgn,if_true]
   rw [h3,Int.neg_ediv_of_dvd ⟨_,rfl⟩,Int.mul_ediv_cancel_left _ (by omega)]
 · rintro rfl h0
   have h3:-(N:Int)=((D:Int)-((N%D:Nat):Int))+(-((N / D:Nat):Int)-1)*(D:Int):=by
    have h4:(N:Int)=(D:Int)*((N / D:Nat):Int)+((N%D:Nat):Int):=by
     rw [←Int.natCast_mul,←Int.natCast_add,h1]
    rw [Int.sub_mul,Int.neg_mul,Int.mul_comm (((N / D:Nat):Int)),Int.one_mul]
    omega
   simp only [sgn,if_true]
   rw [h3,Int.add_mul_ediv_right _ _ (by omega),Int.ediv_eq_zero_of_lt (by omega) (by omega),Int.zero_add]

set_option maxHeartbeats 8000000 in
set_option maxRecDepth 100000 in
theorem rFloor_pos {p:Rat} {bz:Bool} {m k mz:ByteArray} (h:Rq p false m k) (hz:enc (p.num / (p.den:Int))=.agg #[.bool bz,.string mz]) (s1:m.size≤9000) (s2:(mag p.den).size≤9000) (w:World) :
  Calls Tryz.prog 77 #[.agg #[.bool false,.string m,.bool false,.string k]] w (RetB w (.agg #[.bool bz,.string mz,.bool false,.string ⟨#[]⟩])):=by
 have hk:k.size≤9000:=by
  by_cases hd:p.den=1
  · rw [h.den1 hd];exact Nat.zero_le _
  · rw [h.den2 hd];exact s2
 have HF:=Lib.hid (fun V=>rof2 h (by omega) (by omega) V)
 have n0:nd p.num.natAbs≤9000:=by unfold nd;rw [←h.mag.2];exact s1
 have n1':nd p.den≤9000:=s2
 have hfl:=floor_parts false h.sg p.den_pos
 obtain ⟨bo,mo,ho⟩:=enc_form (sgn false (p.num.natAbs / p.den))
 rw [hfl.1 rfl,ho] at hz
 obtain ⟨rfl,rfl⟩:bz=bo∧mz=mo:=by cases hz;exact ⟨rfl,rfl⟩
 have HPOS:=Lib.hid p.den_pos
 have HWH:=Lib.hid (fun (A:Option Addr) (n c:Nat) (V:World) (ht:Tr V A n c (p.num.natAbs / p.den))=>rwhole false A n c (p.num.natAbs / p.den) V (by have:=ht.ln;have:=nd_div p.num.natAbs p.den;omega) ht.cap ht.dg)
 have hwh:=fun (A:Option Addr) (n c:Nat) (V:World) (ht:Tr V A n c (p.num.natAbs / p.den))=>rwhole false A n c (p.num.natAbs / p.den) V (by have:=ht.ln;have:=nd_div p.num.natAbs p.den;omega) ht.cap ht.dg
 unfold RetZ at hwh
 simp only [ho] at hwh
 have HWH:=Lib.hid hwh
 have HN0:=Lib.hid n0
 have HN1:=Lib.hid n1'
 have X:=Lib.hid (((Sb.start w).new #[.bool false,.string m,.bool false,.string k] 25).new #[.bool false,.string ⟨#[]⟩,.bool false,.string ⟨#[]⟩] 25)
 have X:=Lib.hid (X.out.pick [0,1] [(w.heap.size,#[.bool false,.string m,.bool false,.string k],25),(w.heap.size+1,#[.bool false,.string ⟨#[]⟩,.bool false,.string ⟨#[]⟩],25)] [] (by simp) (by decide) (by simp))
 clear h hz hfl ho hk n0 n1' s1 s2 hwh
 generalize p.num.natAbs=NN at *
 generalize p.den=DD at *
 go_enter Tryz.func77,Tryz.ntmps77
 obtain ⟨a0,a1,a2,a3⟩:=X.out.c4 (i:=0) rfl
 go_wp2_with fail
 refine (HF.out _).mono ?_
 rintro e u1 ⟨A1,n1,c1,B1,n2,c2,rfl,ht9,hu9,hb9,hf9,hg9⟩
 have X:=Lib.hid (X.out.row2 hb9 ht9 hu9 hf9 hg9)
 clear hb9 ht9 hu9 hf9 hg9 a0 a1 a2 a3
 go_upto_region 2 with fail
 have X:=Lib.hid (X.out.new #[.bool false,.slice A1 n1 c1,.slice B1 n2 c2] 121)
 obtain ⟨gF,hgF⟩:∃ g,g=u1.heap.size:=⟨_,rfl⟩
 rw [←hgF] at X ⊢
 obtain ⟨W1,hV⟩:=wexi X.out
 rw [←hV] at X ⊢
 clear hV
 clear hgF
 obtain ⟨f0,f1,f2⟩:=X.out.c3 (i:=2) rfl
 go_wp2_with fail
 refine (rdivide _ _ _ _ _ _ _ _ _ (by have:=(X.out.rw (i:=0) rfl).ln;have:=HN0.out;omega) (by have:=(X.out.rw (i:=1) rfl).ln;have:=HN1.out;omega) (X.out.rw (i:=0) rfl) (X.out.rw (i:=1) rfl) HPOS.out).mono ?_
 rintro e u2 ⟨A4,n4,c4,A5,n5,c5,rfl,ht4,ht5,hb9⟩
 have X:=Lib.hid (X.out.next hb9)
 have T4:=Lib.hid ht4
 have hn5:=ht5.ln
 clear hb9 ht4 ht5 f0 f1 f2
 clear hn5
 obtain ⟨f0,f1,f2⟩:=X.out.c3 (i:=2) rfl
 go_wp2_with fail
 refine (HWH.out _ _ _ _ T4.out).mono ?_
 rintro e u3 ⟨rfl,hb9⟩
 have X:=Lib.hid (X.out.next hb9)
 clear hb9 f0 f1 f2
 go_upto_region 4 with fail
 have X:=Lib.hid (X.out.new #[.bool bz,.string mz,.bool false,.string ⟨#[]⟩] 25)
 obtain ⟨gO,hgO⟩:∃ g,g=u3.heap.size:=⟨_,rfl⟩
 rw [←hgO] at X ⊢
 obtain ⟨W2,hV⟩:=wexi X.out
 rw [←hV] at X ⊢
 clear hV
 clear hgO
 obtain ⟨f0,f1,f2⟩:=X.out.c3 (i:=2) rfl
 obtain ⟨o0,o1,o2,o3⟩:=X.out.c4 (i:=3) rfl
 obtain ⟨x0,x1,x2,x3⟩:=X.out.c4 (i:=1) rfl
 obtain ⟨y0,y1,y2,y3⟩:=X.out.f4 (i:=1) rfl
 go_wp2
 have X:=Lib.hid (X.out.set4 (i:=1) rfl (.bool bz) (.string mz) (.bool false) (.string ⟨#[]⟩))
 obtain ⟨p0,p1,p2,p3⟩:=X.out.c4 (i:=1) rfl
 exact bodyPost_ret (v:=.agg #[.bool bz,.string mz,.bool false,.string ⟨#[]⟩]) (by simp [results,Tryz.results77,go_sem,p0,p1,p2,p3]) rfl ⟨rfl,X.out.bel⟩

set_option maxHeartbeats 8000000 in
set_option maxRecDepth 100000 in
theorem rFloor_neg {p:Rat} {bz:Bool} {m k mz:ByteArray} (h:Rq p true m k) (hrem:p.num.natAbs%p.den=0) (hz:enc (p.num / (p.den:Int))=.agg #[.bool bz,.string mz]) (s1:m.size≤9000) (s2:(mag p.den).size≤9000) (w:World) :
  Calls Tryz.prog 77 #[.agg #[.bool true,.string m,.bool false,.string k]] w (RetB w (.agg #[.bool bz,.string mz,.bool false,.string ⟨#[]⟩])):=by
 have hk:k.size≤9000:=by
  by_cases hd:p.den=1
  · rw [h.den1 hd];exact Nat.zero_le _
  · rw [h.den2 hd];exact s2
 have HF:=Lib.hid (fun V=>rof2 h (by omega) (by omega) V)
 have n0:nd p.num.natAbs≤9000:=by unfold nd;rw [←h.mag.2];exact s1
 have n1':nd p.den≤9000:=s2
 have hfl:=floor_parts true h.sg p.den_pos
 obtain ⟨bo,mo,ho⟩:=enc_form (sgn true (p.num.natAbs / p.den))
 rw [hfl.2.1 rfl hrem,ho] at hz
 obtain ⟨rfl,rfl⟩:bz=bo∧mz=mo:=by cases hz;exact ⟨rfl,rfl⟩
 have hr0:nd (p.num.natAbs%p.den)=0:=by rw [hrem];exact nd_zero
 have HPOS:=Lib.hid p.den_pos
 have HWH:=Lib.hid (fun (A:Option Addr) (n c:Nat) (V:World) (ht:Tr V A n c (p.num.natAbs / p.den))=>rwhole true A n c (p.num.natAbs / p.den) V (by have:=ht.ln;have:=nd_div p.num.natAbs p.den;omega) ht.cap ht.dg)
 have hwh:=fun (A:Option Addr) (n c:Nat) (V:World) (ht:Tr V A n c (p.num.natAbs / p.den))=>rwhole true A n c (p.num.natAbs / p.den) V (by have:=ht.ln;have:=nd_div p.num.natAbs p.den;omega) ht.cap ht.dg
 unfold RetZ at hwh
 simp only [ho] at hwh
 have HWH:=Lib.hid hwh
 have HN0:=Lib.hid n0
 have HN1:=Lib.hid n1'
 have HR0:=Lib.hid hr0
 have X:=Lib.hid (((Sb.start w).new #[.bool true,.string m,.bool false,.string k] 25).new #[.bool false,.string ⟨#[]⟩,.bool false,.string ⟨#[]⟩] 25)
 have X:=Lib.hid (X.out.pick [0,1] [(w.heap.size,#[.bool true,.string m,.bool false,.string k],25),(w.heap.size+1,#[.bool false,.string ⟨#[]⟩,.bool false,.string ⟨#[]⟩],25)] [] (by simp) (by decide) (by simp))
 clear h hz hfl ho hk n0 n1' s1 s2 hwh hrem hr0
 generalize p.num.natAbs=NN at *
 generalize p.den=DD at *
 go_enter Tryz.func77,Tryz.ntmps77
 obtain ⟨a0,a1,a2,a3⟩:=X.out.c4 (i:=0) rfl
 go_wp2_with fail
 refine (HF.out _).mono ?_
 rintro e u1 ⟨A1,n1,c1,B1,n2,c2,rfl,ht9,hu9,hb9,hf9,hg9⟩
 have X:=Lib.hid (X.out.row2 hb9 ht9 hu9 hf9 hg9)
 clear hb9 ht9 hu9 hf9 hg9 a0 a1 a2 a3
 go_upto_region 2 with fail
 have X:=Lib.hid (X.out.new #[.bool true,.slice A1 n1 c1,.slice B1 n2 c2] 121)
 obtain ⟨gF,hgF⟩:∃ g,g=u1.heap.size:=⟨_,rfl⟩
 rw [←hgF] at X ⊢
 obtain ⟨W1,hV⟩:=wexi X.out
 rw [←hV] at X ⊢
 clear hV
 clear hgF
 obtain ⟨f0,f1,f2⟩:=X.out.c3 (i:=2) rfl
 go_wp2_with fail
 refine (rdivide _ _ _ _ _ _ _ _ _ (by have:=(X.out.rw (i:=0) rfl).ln;have:=HN0.out;omega) (by have:=(X.out.rw (i:=1) rfl).ln;have:=HN1.out;omega) (X.out.rw (i:=0) rfl) (X.out.rw (i:=1) rfl) HPOS.out).mono ?_
 rintro e u2 ⟨A4,n4,c4,A5,n5,c5,rfl,ht4,ht5,hb9⟩
 have X:=Lib.hid (X.out.next hb9)
 have T4:=Lib.hid ht4
 have hn5:=ht5.ln
 clear hb9 ht4 ht5 f0 f1 f2
 obtain rfl:n5=0:=by rw [hn5];exact HR0.out
 clear hn5
 obtain ⟨f0,f1,f2⟩:=X.out.c3 (i:=2) rfl
 go_wp2_with fail
 refine (HWH.out _ _ _ _ T4.out).mono ?_
 rintro e u3 ⟨rfl,hb9⟩
 have X:=Lib.hid (X.out.next hb9)
 clear hb9 f0 f1 f2
 go_upto_region 4 with fail
 have X:=Lib.hid (X.out.new #[.bool bz,.string mz,.bool false,.string ⟨#[]⟩] 25)
 obtain ⟨gO,hgO⟩:∃ g,g=u3.heap.size:=⟨_,rfl⟩
 rw [←hgO] at X ⊢
 obtain ⟨W2,hV⟩:=wexi X.out
 rw [←hV] at X ⊢
 clear hV
 clear hgO
 obtain ⟨f0,f1,f2⟩:=X.out.c3 (i:=2) rfl
 obtain ⟨o0,o1,o2,o3⟩:=X.out.c4 (i:=3) rfl
 obtain ⟨x0,x1,x2,x3⟩:=X.out.c4 (i:=1) rfl
 obtain ⟨y0,y1,y2,y3⟩:=X.out.f4 (i:=1) rfl
 go_wp2
 have X:=Lib.hid (X.out.set4 (i:=1) rfl (.bool bz) (.string mz) (.bool false) (.string ⟨#[]⟩))
 obtain ⟨p0,p1,p2,p3⟩:=X.out.c4 (i:=1) rfl
 exact bodyPost_ret (v:=.agg #[.bool bz,.string mz,.bool false,.string ⟨#[]⟩]) (by simp [results,Tryz.results77,go_sem,p0,p1,p2,p3]) rfl ⟨rfl,X.out.bel⟩

set_option maxHeartbeats 8000000 in
set_option maxRecDepth 100000 in
theorem rFloor_rem {p:Rat} {bz:Bool} {m k mz:ByteArray} (h:Rq p true m k) (hrem:0<p.num.natAbs%p.den) (hz:enc (p.num / (p.den:Int))=.agg #[.bool bz,.string mz]) (s1:m.size≤9000) (s2:(mag p.den).size≤9000) (w:World) :
  Calls Tryz.prog 77 #[.agg #[.bool true,.string m,.bool false,.string k]] w (RetB w (.agg #[.bool bz,.string mz,.bool false,.string ⟨#[]⟩])):=by
 have hk:k.size≤9000:=by
  by_cases hd:p.den=1
  · rw [h.den1 hd];exact Nat.zero_le _
  · rw [h.den2 hd];exact s2
 have HF:=Lib.hid (fun V=>rof2 h (by omega) (by omega) V)
 have n0:nd p.num.natAbs≤9000:=by unfold nd;rw [←h.mag.2];exact s1
 have n1':nd p.den≤9000:=s2
 have hfl:=floor_parts true h.sg p.den_pos
 obtain ⟨bo,mo,ho⟩:=enc_form (sgn true (p.num.natAbs / p.den))
 have h1:=rq_int ho
 have h2:=rq_int hz
 obtain ⟨b1,m1,k1,h3⟩:=Rq.some_ (1:Rat)
 have h1s:Sz 1 (1:Rat):=⟨by decide,by decide⟩
 have y3:=h1s.m h3 (by omega)
 have hmo:mo.size≤10000:=by
  rw [(enc_parts ho).2,sgn_natAbs]
  exact Nat.le_trans (nd_div p.num.natAbs p.den) (by omega)
 have hd1:(mag ((sgn true (p.num.natAbs / p.den):Int):Rat).den).size≤10000:=by rw [Rat.den_intCast];exact (h1s.m h3 (by omega)).2
 have HOF:=Lib.hid (fun V=>rOf_f (x:=1) (y:=1) (by rw [divInt_1];exact h3) (by decide) (by decide) (by decide) (by decide) (by decide) V)
 have HSB:=Lib.hid (fun V=>rSub_f h1 h3 (by rw [hfl.2.2 rfl hrem] at h2;rw [show ((sgn true (p.num.natAbs / p.den):Int):Rat)-1=((sgn true (p.num.natAbs / p.den)-1:Int):Rat) from (Rat.intCast_sub _ 1).symm];exact h2) hmo y3.1 hd1 y3.2 V)
 have hr0:0<nd (p.num.natAbs%p.den):=nd_pos hrem
 have HPOS:=Lib.hid p.den_pos
 have HWH:=Lib.hid (fun (A:Option Addr) (n c:Nat) (V:World) (ht:Tr V A n c (p.num.natAbs / p.den))=>rwhole true A n c (p.num.natAbs / p.den) V (by have:=ht.ln;have:=nd_div p.num.natAbs p.den;omega) ht.cap ht.dg)
 have hwh:=fun (A:Option Addr) (n c:Nat) (V:World) (ht:Tr V A n c (p.num.natAbs / p.den))=>rwhole true A n c (p.num.natAbs / p.den) V (by have:=ht.ln;have:=nd_div p.num.natAbs p.den;omega) ht.cap ht.dg
 unfold RetZ at hwh
 simp only [ho] at hwh
 have HWH:=Lib.hid hwh
 have HN0:=Lib.hid n0
 have HN1:=Lib.hid n1'
 have HR0:=Lib.hid hr0
 have X:=Lib.hid (((Sb.start w).new #[.bool true,.string m,.bool false,.string k] 25).new #[.bool false,.string ⟨#[]⟩,.bool false,.string ⟨#[]⟩] 25)
 have X:=Lib.hid (X.out.pick [0,1] [(w.heap.size,#[.bool true,.string m,.bool false,.string k],25),(w.heap.size+1,#[.bool false,.string ⟨#[]⟩,.bool false,.string ⟨#[]⟩],25)] [] (by simp) (by decide) (by simp))
 clear h hz hfl ho hk n0 n1' s1 s2 hwh hrem hr0 h1 h2 h3 h1s y3 hmo hd1
 generalize p.num.natAbs=NN at *
 generalize p.den=DD at *
 go_enter Tryz.func77,Tryz.ntmps77
 obtain ⟨a0,a1,a2,a3⟩:=X.out.c4 (i:=0) rfl
 go_wp2_with fail
 refine (HF.out _).mono ?_
 rintro e u1 ⟨A1,n1,c1,B1,n2,c2,rfl,ht9,hu9,hb9,hf9,hg9⟩
 have X:=Lib.hid (X.out.row2 hb9 ht9 hu9 hf9 hg9)
 clear hb9 ht9 hu9 hf9 hg9 a0 a1 a2 a3
 go_upto_region 2 with fail
 have X:=Lib.hid (X.out.new #[.bool true,.slice A1 n1 c1,.slice B1 n2 c2] 121)
 obtain ⟨gF,hgF⟩:∃ g,g=u1.heap.size:=⟨_,rfl⟩
 rw [←hgF] at X ⊢
 obtain ⟨W1,hV⟩:=wexi X.out
 rw [←hV] at X ⊢
 clear hV
 clear hgF
 obtain ⟨f0,f1,f2⟩:=X.out.c3 (i:=2) rfl
 go_wp2_with fail
 refine (rdivide _ _ _ _ _ _ _ _ _ (by have:=(X.out.rw (i:=0) rfl).ln;have:=HN0.out;omega) (by have:=(X.out.rw (i:=1) rfl).ln;have:=HN1.out;omega) (X.out.rw (i:=0) rfl) (X.out.rw (i:=1) rfl) HPOS.out).mono ?_
 rintro e u2 ⟨A4,n4,c4,A5,n5,c5,rfl,ht4,ht5,hb9⟩
 have X:=Lib.hid (X.out.next hb9)
 have T4:=Lib.hid ht4
 have hn5:=ht5.ln
 clear hb9 ht4 ht5 f0 f1 f2
 have hn6:0<n5:=by rw [hn5];exact HR0.out
 have hn7:decide (0<(n5:Int))=true:=decide_eq_true (by omega)
 clear hn5
 obtain ⟨f0,f1,f2⟩:=X.out.c3 (i:=2) rfl
 go_wp2_with fail
 refine (HWH.out _ _ _ _ T4.out).mono ?_
 rintro e u3 ⟨rfl,hb9⟩
 have X:=Lib.hid (X.out.next hb9)
 clear hb9 f0 f1 f2
 go_upto_region 4 with fail
 have X:=Lib.hid (X.out.new #[.bool bo,.string mo,.bool false,.string ⟨#[]⟩] 25)
 obtain ⟨gO,hgO⟩:∃ g,g=u3.heap.size:=⟨_,rfl⟩
 rw [←hgO] at X ⊢
 obtain ⟨W2,hV⟩:=wexi X.out
 rw [←hV] at X ⊢
 clear hV
 clear hgO
 obtain ⟨f0,f1,f2⟩:=X.out.c3 (i:=2) rfl
 go_upto_region 5 with fail
 clear f0 f1 f2
 refine wp_region_late (S:=fun w'=>(w'.cell? ⟨gO,0,none⟩=some (.bool bo)∧w'.cell? ⟨gO,1,none⟩=some (.string mo)∧w'.cell? ⟨gO,2,none⟩=some (.bool false)∧w'.cell? ⟨gO,3,none⟩=some (.string ⟨#[]⟩))) (L:=[3]) (by kernel_rfl) ?_
 have X:=Lib.hid X.out.drew
 obtain ⟨V0,hV⟩:=wexi X.out
 rw [←hV] at X ⊢
 clear hV
 refine tk (i:=0) (oi:=⟨some 29,_,_,_,_,_⟩) (v:=_) rfl (by kernel_rfl) (fun _ _ _ h=>h) (X.out.c4 (i:=3) rfl) (Or.inl ⟨by rfl,by intro w hSw;(try dsimp only at hSw);(first | (go_simp;done) | (go_simp;with_reducible rfl))⟩) ?_
 try simp only [Act.put,seti,set0,setS]
 refine wpLate_one (i:=1) (o:=⟨some 30,_,_,_,_,_⟩) (by kernel_rfl) rfl (fun K hK=>?_)
 go_simp
 (go_at_call 53;refine (HOF.out _).mono ?_;rintro e u1 ⟨rfl,hb9⟩;have X:=Lib.hid (X.out.next hb9);clear hb9)
 try go_wp2_with fail
 refine hK.out _ _ (Or.inr (fun _=>X.out.c4 (i:=3) rfl)) ?_
 clear hK K
 try simp only [Act.put,seti,set0,setS]
 refine wpLate_one (i:=2) (o:=⟨some 31,_,_,_,_,_⟩) (by kernel_rfl) rfl (fun K hK=>?_)
 go_simp
 (go_at_call 44;refine (HSB.out _).mono ?_;rintro e u2 ⟨rfl,hb9⟩;have X:=Lib.hid (X.out.next hb9);clear hb9)
 try go_wp2_with fail
 refine hK.out _ _ (Or.inr (fun _=>X.out.c4 (i:=3) rfl)) ?_
 clear hK K
 try simp only [Act.put,seti,set0,setS]
 refine wpLate_one (i:=3) (o:=⟨none,_,_,_,_,_⟩) (by kernel_rfl) rfl (fun K hK=>?_)
 obtain ⟨x0,x1,x2,x3⟩:=X.out.c4 (i:=3) rfl
 obtain ⟨y0,y1,y2,y3⟩:=X.out.f4 (i:=3) rfl
 have X:=Lib.hid (X.out.set4 (i:=3) rfl (.bool bz) (.string mz) (.bool false) (.string ⟨#[]⟩))
 go_simp
 refine hK.out _ _ (Or.inl (by rfl)) ?_
 clear hK K x0 x1 x2 x3 y0 y1 y2 y3
 try simp only [Act.put,seti,set0,setS]
 obtain ⟨W3,hV⟩:=wexi X.out
 rw [←hV] at X ⊢
 clear hV
 refine wpLate_done (by kernel_rfl) ?_ _
 obtain ⟨o0,o1,o2,o3⟩:=X.out.c4 (i:=3) rfl
 obtain ⟨x0,x1,x2,x3⟩:=X.out.c4 (i:=1) rfl
 obtain ⟨y0,y1,y2,y3⟩:=X.out.f4 (i:=1) rfl
 go_wp2
 have X:=Lib.hid (X.out.set4 (i:=1) rfl (.bool bz) (.string mz) (.bool false) (.string ⟨#[]⟩))
 obtain ⟨p0,p1,p2,p3⟩:=X.out.c4 (i:=1) rfl
 exact bodyPost_ret (v:=.agg #[.bool bz,.string mz,.bool false,.string ⟨#[]⟩]) (by simp [results,Tryz.results77,go_sem,p0,p1,p2,p3]) rfl ⟨rfl,X.out.bel⟩

theorem rFloor_f {p:Rat} {b bz:Bool} {m k mz:ByteArray} (h:Rq p b m k) (hz:enc (p.num / (p.den:Int))=.agg #[.bool bz,.string mz]) (s1:m.size≤9000) (s2:(mag p.den).size≤9000) (w:World) :
  Calls Tryz.prog 77 #[.agg #[.bool b,.string m,.bool false,.string k]] w (RetB w (.agg #[.bool bz,.string mz,.bool false,.string ⟨#[]⟩])):=by
 cases b
 · exact rFloor_pos h hz s1 s2 w
 · rcases Nat.eq_zero_or_pos (p.num.natAbs%p.den) with e | e
   · exact rFloor_neg h e hz s1 s2 w
   · exact rFloor_rem h e hz s1 s2 w
end Go.Proofs.YtdbhahiieokplaaGreatDoor


namespace Go.Proofs.YtdbhahiieokplaaGreatDoor
open Go.RowKit
attribute [local go_sem ↓] Go.wp_at_zero Go.wp_at_succ

theorem bit_next (T i:Nat):T / 2^i=2*(T / 2^(i+1))∨T / 2^i=2*(T / 2^(i+1))+1:=by
 have h:T / 2^(i+1)=T / 2^i / 2:=by rw [Nat.pow_succ,Nat.div_div_eq_div_mul]
 omega
theorem bit_fits {T i:Nat}:2*(T / 2^(i+1))*2^i+2^i≤T↔T / 2^i=2*(T / 2^(i+1))+1:=by
 have hp:0<(2:Nat)^i:=Nat.pow_pos (by decide)
 have e:2*(T / 2^(i+1))*2^i+2^i=(2*(T / 2^(i+1))+1)*2^i:=by rw [Nat.add_mul,Nat.one_mul]
 rw [e,←Nat.le_div_iff_mul_le hp]
 rcases bit_next T i with h | h<;>omega
theorem set_wordN {p Q:Nat} (hp:p<8):(2^p*(2*Q)+2^p) / 256=2^p*(2*Q) / 256∧(2^p*(2*Q)+2^p)%256=2^p*(2*Q)%256+2^p:=by
 have:p=0∨p=1∨p=2∨p=3∨p=4∨p=5∨p=6∨p=7:=by omega
 rcases this with rfl | rfl | rfl | rfl | rfl | rfl | rfl | rfl<;>(simp only [Nat.reducePow];omega)

theorem set_bitN (Q i j:Nat):D 256 (2*Q*2^i+2^i) j=if j=i / 8 then D 256 (2*Q*2^i) j+2^(i%8) else D 256 (2*Q*2^i) j:=by
 have hP:0<256^(i / 8):=Nat.pow_pos (by omega)
 have e:2^i=256^(i / 8)*2^(i%8):=by
  have e:(256:Nat)^(i / 8)=2^(8*(i / 8)):=by rw [Nat.pow_mul]
  rw [e,←Nat.pow_add]
  congr 1
  omega
 obtain ⟨w1,w2⟩:=set_wordN (Q:=Q) (Nat.mod_lt i (show 0<8 by omega))
 have e1:2*Q*2^i=256^(i / 8)*(2^(i%8)*(2*Q)):=by rw [e];ac_rfl
 have e2:2*Q*2^i+2^i=256^(i / 8)*(2^(i%8)*(2*Q)+2^(i%8)):=by rw [e1,Nat.mul_add,←e]
 rw [e1,e2] at *
 generalize 2^(i%8)*(2*Q)+2^(i%8)=V' at *
 generalize 2^(i%8)*(2*Q)=V at *
 generalize 2^(i%8)=t at *
 generalize i / 8=a at *
 rcases Nat.lt_trichotomy j a with h | h | h
 · rw [if_neg (by omega)]
   have h1:=D_low (b:=256) (P:=0) (Z:=V') (k:=a) (by omega) h
   have h2:=D_low (b:=256) (P:=0) (Z:=V) (k:=a) (by omega) h
   rw [Nat.zero_add] at h1 h2
   rw [h1,h2]
 · subst h
   rw [if_pos rfl]
   unfold D
   rw [Nat.mul_div_cancel_left _ hP,Nat.mul_div_cancel_left _ hP]
   exact w2
 · rw [if_neg (by omega),D_high (k:=a) (by omega),D_high (P:=256^a*V) (k:=a) (by omega),Nat.mul_div_cancel_left _ hP,Nat.mul_div_cancel_left _ hP]
   obtain ⟨d,hd⟩:∃ d,j-a=d+1:=⟨j-a-1,by omega⟩
   rw [hd]
   unfold D
   rw [Nat.pow_succ',←Nat.div_div_eq_div_mul,←Nat.div_div_eq_div_mul,w1]

theorem sq_le_rt {V m:Nat}:m*m≤V↔m≤rt V:=by
 have h1:=rt_spec V
 constructor
 · intro h
   rcases Nat.lt_or_ge (rt V) m with h2 | h2
   · have h3:=Nat.mul_le_mul (show rt V+1≤m from h2) (show rt V+1≤m from h2)
     omega
   · exact h2
 · intro h
   exact Nat.le_trans (Nat.mul_le_mul h h) h1.1
theorem rt_room {V n:Nat} (h:V<256^n):rt V<256^((n+1) / 2):=by
 rcases Nat.lt_or_ge (rt V) (256^((n+1) / 2)) with h1 | h1
 · exact h1
 · exfalso
   have h2:=Nat.mul_le_mul h1 h1
   have h3:=(rt_spec V).1
   have h4:(256:Nat)^n≤256^((n+1) / 2)*256^((n+1) / 2):=by
    rw [←Nat.pow_add]
    exact Nat.pow_le_pow_right (by decide) (by omega)
   omega

theorem set_i64 {u p:Nat} (hu:u<256) (hp:p<8):IntKind.i64.wrap ((u:Int)+IntKind.i64.wrap ((2:Int)^p))=((u+2^p:Nat):Int):=by
 have:p=0∨p=1∨p=2∨p=3∨p=4∨p=5∨p=6∨p=7:=by omega
 rcases this with rfl | rfl | rfl | rfl | rfl | rfl | rfl | rfl<;>(rw [IntWalk.i64_in (2^_) (by omega),IntWalk.i64_in _ (by omega)];omega)
theorem unset_i64 {u p z:Nat} (hu:u<256) (hp:p<8) (h:u+2^p=z):wrap64 ((z:Int)-wrap64 ((2:Int)^p))=(u:Int):=by
 have:p=0∨p=1∨p=2∨p=3∨p=4∨p=5∨p=6∨p=7:=by omega
 rcases this with rfl | rfl | rfl | rfl | rfl | rfl | rfl | rfl<;>(rw [IntWalk.wrap64_in (2^_) (by omega),IntWalk.wrap64_in _ (by omega)];omega)

set_option maxHeartbeats 8000000 in
set_option maxRecDepth 100000 in
theorem refSqrt_any (b:Bool) (s:ByteArray) (w:World) (hs:s.size≤100000) :
  Calls Tryz.prog 136 #[.agg #[.bool b,.string s]] w (RetZ w ((rt (bval s):Nat):Int)):=by
 have HU:=Lib.hid (fun V=>digits_any b s V (by omega))
 have hmk:=fun (N:Nat) (hN:N≤100000) W=>run_make_row' (P:=Tryz.prog) 98 3 (.int .i64 0) 8 Tryz.underlying98 intTy_info rfl .i64 .i64 N (by omega) (by omega) W
 obtain ⟨V,hV⟩:∃ V,bval s=V:=⟨_,rfl⟩
 obtain ⟨T,hT⟩:∃ T,rt V=T:=⟨_,rfl⟩
 rw [hV] at HU ⊢
 rw [hT]
 go_enter Tryz.func136,Tryz.ntmps136
 go_wp2_with fail
 refine (HU.out _).mono ?_
 rintro e w1 ⟨A,n,c,hn,rfl,hd,hb⟩
 have HK:=Lib.hid ((hb.block (w.heap.size+1) (by simp)).trans (heap_two w (.cells #[.bool b,.string s] 23) (.cells #[.bool false,.string ⟨#[]⟩] 23)))
 have hs1:w.heap.size+2≤w1.heap.size:=by have:=hb.size;simpa using this
 have HB:=Lib.hid ((((Below.refl w.heap.size w).alloc (Nat.le_refl _) (.cells #[.bool b,.string s] 23)).alloc (by simp) (.cells #[.bool false,.string ⟨#[]⟩] 23)).trans (hb.mono (by simp<;>omega)))
 have HD:=Lib.hid hd
 have HS1:=Lib.hid hs1
 obtain ⟨N,hN⟩:∃ N,N=(n+1) / 2:=⟨_,rfl⟩
 have hTN:T<256^N:=by rw [←hT,hN];exact rt_room HD.out.lt
 have HTN:=Lib.hid hTN
 have HT:=Lib.hid hT
 have hN1:N≤100000:=by omega
 have hmk2:=hmk N hN1
 have e1:IntKind.i64.wrap ((n:Int)+1)=(n:Int)+1:=IntWalk.i64_in _ (by omega)
 have e2:((n:Int)+1) / 2=(N:Int):=by omega
 clear hd hb hs1 hTN hT hV hmk hN HU
 go_wp2
 clear e1 e2 hmk2
 go_loopw [5] (fun iv wr=>∃ k:Nat,k≤8*N∧iv=.int .i64 ((k:Int)-1)∧wr.rowIs w1.heap.size 3 N (fun j=>.int .i64 (D 256 (T / 2^k*2^k) j:Int))∧Below w1.heap.size w1 wr) (fun iv _=>(intOf iv+1).toNat)
 case atStart =>
  refine ⟨8*N,Nat.le_refl _,?_,(World.rowIs_made w1 (.int .i64 0) N 3).congr fun j hj=>?_,(Below.refl _ _).alloc (Nat.le_refl _) _⟩
  · congr 1
    have h1:IntKind.i64.wrap ((N:Int)*8)=(N:Int)*8:=IntWalk.i64_in _ (by omega)
    have h2:IntKind.i64.wrap ((N:Int)*8-1)=(N:Int)*8-1:=IntWalk.i64_in _ (by omega)
    first | omega | (rw [h1,h2];omega)
  · have hz : T / 2 ^ (8 * N) = 0 := by
     apply Nat.div_eq_of_lt
     have h1:=HTN.out
     rw [show (256:Nat)^N=2^(8*N) by rw [Nat.pow_mul]] at h1
     exact h1
    rw [hz]
    simp [D]
 case round =>
  obtain ⟨k,hk,rfl,hrow,hbl⟩:=hrel
  rcases k with _ | i
  · have e:(((0:Nat):Int)-1)=-1:=rfl
    rw [e]
    clear e
    rw [Nat.pow_zero,Nat.mul_one,Nat.div_one] at hrow
    have HROW:=Lib.hid hrow
    have HBL:=Lib.hid hbl
    clear hrow hbl
    go_wp2_with fail
    refine (number_any false (some ⟨w1.heap.size,0,none⟩) N N T wr (by omega) ⟨HTN.out,fun _=>⟨_,0,rfl,HROW.out.lt,fun j hj=>by rw [Nat.zero_add];exact HROW.out.cell hj⟩⟩).mono ?_
    rintro e w5 ⟨rfl,hb5⟩
    have hall:=HBL.out.trans (hb5.mono HBL.out.size)
    have h1:=HS1.out
    obtain ⟨p0,p1,g0,g1⟩:=res2 (g:=w.heap.size+1) HK.out hall (by omega)
    obtain ⟨bz,mz,hbm⟩:=enc_form (sgn false T)
    rw [hbm]
    have HBM:=Lib.hid hbm
    have HAL:=Lib.hid (HB.out.trans (hall.mono (by omega)))
    clear hbm hall hb5 h1
    go_wp2
    exact bodyPost_ret (v:=.agg #[.bool bz,.string mz]) (by simp [results,Tryz.results136,go_sem,p0,p1]) rfl ⟨by rw [←HBM.out];rfl,(HAL.out.setCell (by show w.heap.size≤w.heap.size+1;omega) _).setCell (by show w.heap.size≤w.heap.size+1;omega) _⟩
  · have e:(((i+1:Nat):Int)-1)=(i:Int):=by omega
    rw [e]
    clear e
    obtain ⟨Q,hQ⟩:∃ Q,T / 2^(i+1)=Q:=⟨_,rfl⟩
    rw [hQ,show Q*2^(i+1)=2*Q*2^i by rw [Nat.pow_succ];ac_rfl] at hrow
    have hfit:=bit_fits (T:=T) (i:=i)
    have hnext:=bit_next T i
    rw [hQ] at hfit hnext
    obtain ⟨q,hq⟩:∃ q,i / 8=q:=⟨_,rfl⟩
    obtain ⟨p,hp⟩:∃ p,i%8=p:=⟨_,rfl⟩
    have hq1:(i:Int) / 8=(q:Int):=by omega
    have hp1:(i:Int)%8=(p:Int):=by omega
    have hq2:q<N:=by omega
    have hp2:p<8:=by omega
    have i0:(0:Int)≤(i:Int):=by omega
    have i1:(i:Int)≤8000000:=by omega
    have i2:IntKind.i64.wrap (q:Int)=(q:Int):=IntWalk.i64_in _ (by omega)
    have i3:(i:Int).tmod 8=(p:Int):=by rw [Int.tmod_eq_emod_of_nonneg (by omega)];exact hp1
    have i4:(0:Int)≤(q:Int):=by omega
    have i5:(q:Int)<(N:Int):=by omega
    have hsb:=set_bitN Q i
    rw [hq,hp] at hsb
    have hR:2*Q*2^i+2^i<256^N:=by
     have h1:=HTN.out
     rw [show (256:Nat)^N=2^(8*N) by rw [Nat.pow_mul]] at h1 ⊢
     have h2:2^(8*N)=2^(8*N-(i+1))*2^(i+1):=by rw [←Nat.pow_add];congr 1;omega
     have h3:Q<2^(8*N-(i+1)):=by
      rw [←hQ]
      apply (Nat.div_lt_iff_lt_mul (Nat.pow_pos (by decide))).2
      rw [←h2];exact h1
     have h4:=Nat.mul_le_mul_right (2^(i+1)) (show Q+1≤_ from h3)
     rw [←h2] at h4
     have h5:0<(2:Nat)^i:=Nat.pow_pos (by decide)
     have h6:(Q+1)*2^(i+1)=2*Q*2^i+2*2^i:=by rw [Nat.pow_succ,Nat.add_mul,Nat.one_mul];congr 1<;>ac_rfl
     omega
    have hqc:=hrow.cell (i:=q) hq2
    have hqf:=hrow.frozen q
    obtain ⟨u,hu⟩:∃ u,D 256 (2*Q*2^i) q=u:=⟨_,rfl⟩
    rw [hu] at hqc
    have hul:u<256:=by rw [←hu];exact D_lt (by omega) _ _
    obtain ⟨M,hM⟩:∃ M,2*Q*2^i+2^i=M:=⟨_,rfl⟩
    obtain ⟨M0,hM0⟩:∃ M0,2*Q*2^i=M0:=⟨_,rfl⟩
    rw [hM,hM0] at hsb
    rw [hM] at hR hfit
    rw [hM0] at hrow hu
    have hq0:T / 2^(i+1)*2^(i+1)=M0:=by rw [hQ,←hM0,Nat.pow_succ];ac_rfl
    have hnx:(M≤T→T / 2^i*2^i=M)∧(¬M≤T→T / 2^i*2^i=M0):=by
     constructor
     · intro h
       rw [hfit.1 h,←hM,Nat.add_mul,Nat.one_mul]
     · intro h
       rcases hnext with h1 | h1
       · rw [h1,←hM0]
       · exact absurd (hfit.2 h1) h
    have HNX:=Lib.hid hnx
    have HSB:=Lib.hid hsb
    have HR:=Lib.hid hR
    have HROW:=Lib.hid hrow
    have HBL:=Lib.hid hbl
    have HU:=Lib.hid hu
    have HUL:=Lib.hid (And.intro hul hp2)
    clear hnx hsb hR hrow hbl hu hfit hnext hQ hM hM0 hq0 hq hp
    go_wp2_with fail
    go_region_law (fail)
    have hv:=set_i64 HUL.out.1 HUL.out.2
    obtain ⟨z,hz⟩:∃ z:Nat,u+2^p=z:=⟨_,rfl⟩
    rw [hz] at hv
    obtain ⟨W2,hW⟩:∃ W2,W2=(wr.setCell ⟨w1.heap.size,q,none⟩ (.int .i64 (IntKind.i64.wrap ((u:Int)+IntKind.i64.wrap (2^p))))).drew:=⟨_,rfl⟩
    rw [←hW]
    have hrow2:W2.rowIs w1.heap.size 3 N (fun j=>.int .i64 (D 256 M j:Int)):=by
     rw [hW]
     refine ((HROW.out.set q _).congr fun j hj=>?_).drew
     show (if j=q then (Value.int .i64 (IntKind.i64.wrap ((u:Int)+IntKind.i64.wrap ((2:Int)^p)))) else _)=Value.int .i64 _
     rw [hv,HSB.out]
     by_cases e:j=q
     · rw [if_pos e,if_pos e,e,HU.out,hz]
     · rw [if_neg e,if_neg e]
    have hbl2:Below w1.heap.size w1 W2:=by rw [hW];exact (HBL.out.setCell (by show w1.heap.size≤w1.heap.size;omega) _).drew
    have HV:=Lib.hid (And.intro hv hz)
    have HROW2:=Lib.hid hrow2
    have HBL2:=Lib.hid hbl2
    have HDG:=Lib.hid (show Dg W2 .i64 256 (some ⟨w1.heap.size,0,none⟩) N M from ⟨HR.out,fun _=>⟨_,0,rfl,HROW2.out.lt,fun j hj=>by rw [Nat.zero_add];exact HROW2.out.cell hj⟩⟩)
    clear hv hz hrow2 hbl2 hW hqc hqf HBL
    go_wp2_with fail
    refine (product_any _ _ N N N N M M W2 (by omega) (by omega) HDG.out HDG.out).mono ?_
    rintro e w3 ⟨A3,n3,c3,hn3,rfl,hd3,hb3⟩
    have HD3:=Lib.hid hd3
    have HROW3:=Lib.hid (HROW2.out.of_block (hb3.block _ HROW2.out.lt))
    have HBL3:=Lib.hid (HBL2.out.trans (hb3.mono HBL2.out.size))
    have HDX:=Lib.hid (HD.out.below HBL3.out)
    clear hd3 hb3 HROW2 HBL2 HDG
    have HOR:=Lib.hid (order_anyN A3 A n3 n c3 c (M*M) V w3 (by omega) (by omega) HD3.out HDX.out)
    by_cases hle:M≤T
    · have ho : ¬ 0 < ord (M * M) V := by
       have h1:=sq_le_rt.2 (show M≤rt V by rw [HT.out];exact hle)
       unfold ord
       split
       · omega
       · rw [if_neg (by omega)];omega
      have HLE:=Lib.hid hle
      obtain ⟨o,ho2⟩:∃ o,ord (M*M) V=o:=⟨_,rfl⟩
      rw [ho2] at ho HOR
      have ho3:o≤0:=by omega
      clear hle ho2
      go_wp2_with fail
      refine HOR.out.mono ?_
      rintro e w4 ⟨rfl,rfl⟩
      go_wp2
      go_roundw
      case rel =>
       exact ⟨i,by omega,rfl,by rw [HNX.out.1 HLE.out];exact HROW3.out,HBL3.out⟩
      case measure=>simp [intOf]<;>omega
    · have ho : 0 < ord (M * M) V := by
       have h1:¬M*M≤V:=fun h=>hle (by rw [←HT.out];exact sq_le_rt.1 h)
       rw [ord_gt (by omega)]
       omega
      have HLE:=Lib.hid hle
      obtain ⟨o,ho2⟩:∃ o,ord (M*M) V=o:=⟨_,rfl⟩
      rw [ho2] at ho HOR
      clear hle ho2
      have hqc:=HROW3.out.cell (i:=q) hq2
      have hqf:=HROW3.out.frozen q
      have hMq:D 256 M q=z:=by rw [HSB.out,if_pos rfl,HU.out];exact HV.out.2
      rw [hMq] at hqc
      have HMQ:=Lib.hid hMq
      clear hMq
      go_wp2_with fail
      refine HOR.out.mono ?_
      rintro e w4 ⟨rfl,rfl⟩
      go_wp2_with fail
      go_region_law (fail)
      go_wp2
      go_roundw
      case rel =>
       refine ⟨i,by omega,rfl,?_,(HBL3.out.setCell (by show w1.heap.size≤w1.heap.size;omega) _).drew⟩
       rw [HNX.out.2 HLE.out]
       refine ((HROW3.out.set q _).congr fun j hj=>?_).drew
       have hv2:=unset_i64 HUL.out.1 HUL.out.2 HV.out.2
       show (if j=q then (Value.int .i64 (wrap64 ((z:Int)-wrap64 ((2:Int)^p)))) else _)=Value.int .i64 _
       rw [hv2]
       by_cases e:j=q
       · rw [if_pos e,e,HU.out]
       · rw [if_neg e,HSB.out,if_neg e]
      case measure=>simp [intOf]<;>omega
end Go.Proofs.YtdbhahiieokplaaGreatDoor


namespace Go.Proofs.YtdbhahiieokplaaGreatDoor
open Go.RowKit
attribute [local go_sem ↓] Go.wp_at_zero Go.wp_at_succ

end Go.Proofs.YtdbhahiieokplaaGreatDoor


namespace Go.Proofs.YtdbhahiieokplaaGreatDoor
open Go.RowKit
attribute [local go_sem ↓] Go.wp_at_zero Go.wp_at_succ

theorem sqb_le {a b:Rat} (h0:0≤a) (h:a≤b):a*a≤b*b:=by
 have h1:=Rat.mul_le_mul_of_nonneg_right h h0
 have h2:=Rat.mul_le_mul_of_nonneg_left h (show (0:Rat)≤b by grind)
 grind
end Go.Proofs.YtdbhahiieokplaaGreatDoor


namespace Go.Proofs.YtdbhahiieokplaaGreatDoor
open Go.RowKit
attribute [local go_sem ↓] Go.wp_at_zero Go.wp_at_succ

set_option maxHeartbeats 8000000 in
set_option maxRecDepth 100000 in
theorem fpow_w (w:World) {b3:Bool} {m3:ByteArray} {n:Nat} (hn:n≤128) (H0:Hid (enc ((2^0:Nat):Int)=.agg #[.bool false,.string ⟨#[1]⟩])) (H3:Hid (enc ((2^n:Nat):Int)=.agg #[.bool b3,.string m3])) (HAdd:∀ (k:Nat) (b:Bool) (m:ByteArray),k<n→enc ((2^k:Nat):Int)=.agg #[.bool b,.string m]→∃ b' m',enc ((2^(k+1):Nat):Int)=.agg #[.bool b',.string m']∧∀ V,Below w.heap.size w V→Calls Tryz.prog 124 #[.agg #[.bool b,.string m],.agg #[.bool b,.string m]] V (RetB V (.agg #[.bool b',.string m']))) (HO:∀ V,Below w.heap.size w V→Calls Tryz.prog 65 #[.int .i64 (1)] V (RetB V (.agg #[.bool false,.string ⟨#[1]⟩]))) :
  Calls Tryz.prog 76 #[.int .i64 ((n:Int))] w (RetB w (.agg #[.bool b3,.string m3,.bool false,.string ⟨#[]⟩])):=by
 have HAddh:=Lib.hid HAdd
 clear HAdd
 have C1:=Lib.hid HO
 have Z1:Hid (∀ {p:Prop} (h:p:=by ((fail_if_success (fail_if_success (with_reducible refine wp_loop_rounds 1 ?_)));(with_reducible refine sf2 X.out lk (fun V X0=>?_));(try simp only [List.set_cons_zero,List.set_cons_succ,List.cons_append,List.nil_append,List.length_cons,List.length_nil] at X0);replace X:=Lib.hid X0;clear X0 F;obtain ⟨g,hg⟩:∃ g,g=u.heap.size:=⟨_,rfl⟩;rw [←hg] at X ⊢;clear hg;(go_loopw [4] (fun iv wr=>∃ (k:Nat) (b:Bool) (m:ByteArray),k≤n∧iv=.int .i64 k∧Hid (enc ((2^k:Nat):Int)=.agg #[.bool b,.string m])∧Sb w [(w.heap.size,#[.bool false,.string ⟨#[]⟩,.bool false,.string ⟨#[]⟩],25),(g,#[.bool b,.string m],23)] [] wr) (fun iv _=>n-(intOf iv).toNat));(case atStart=>exact ⟨0,false,⟨#[1]⟩,by omega,rfl,H0,X.out⟩);(case round=>obtain ⟨k,b,m,hk,rfl,he,hX⟩:=hrel;replace X:=Lib.hid hX;clear hX;replace F:=X.out.facts;simp only [Facts,cellsAt,List.take_succ_cons,List.take_zero,Nat.reduceAdd,and_true,List.set_cons_succ,List.set_cons_zero,List.cons_append,List.nil_append] at F;by_cases hlt:k<n;(obtain ⟨b',m',he',hM⟩:=HAddh.out k b m hlt he.out;have HE2:=Lib.hid he';have C9:=Lib.hid hM;have hl2:(k:Int)<(n:Int):=Int.ofNat_lt.2 hlt;clear he hM he';exact wk);(obtain rfl:k=n:=Nat.le_antisymm hk (Nat.le_of_not_lt hlt);have e2:b=b3∧m=m3:=(by have e:=he.out.symm.trans H3.out;simpa using e);obtain ⟨e3,e4⟩:=e2;subst e3 e4;clear he;exact wk));all_goals exact wk)),p):=@fun _ h=>h
 have Z2:Hid (∀ {p:Prop} (h:p:=by ((go_roundw);(case rel=>exact ⟨k+1,_,_,hlt,by go_num,HE2,X.out⟩);(case measure=>(simp [intOf]<;>first | omega | exact Nat.sub_lt_sub_left hlt (Nat.lt_succ_self k)));all_goals exact wk)),p):=@fun _ h=>h
 have RS:=Lib.hid Tryz.results76
 clear HO 
 go_enter Tryz.func76,Tryz.ntmps76
 exact wk0

set_option maxHeartbeats 8000000 in
set_option maxRecDepth 100000 in
theorem froot5_w (w:World) {b1:Bool} {m1 k1:ByteArray} {b2 b3:Bool} {m2 m3:ByteArray} (HF:∀ V,Below w.heap.size w V→Calls Tryz.prog 77 #[.agg #[.bool b1,.string m1,.bool false,.string k1]] V (RetB V (.agg #[.bool b2,.string m2,.bool false,.string ⟨#[]⟩]))) (HS:∀ V,Below w.heap.size w V→Calls Tryz.prog 136 #[.agg #[.bool b2,.string m2]] V (RetB V (.agg #[.bool b3,.string m3]))) :
  Calls Tryz.prog 97 #[.agg #[.bool b1,.string m1,.bool false,.string k1]] w (RetB w (.agg #[.bool b3,.string m3,.bool false,.string ⟨#[]⟩])):=by
 have hfd:∀ w:World,(Instr.field 25 (.agg #[.bool b2,.string m2,.bool false,.string ⟨#[]⟩]) 0).run Tryz.prog w=.ok (.agg #[.bool b2,.string m2]) w:=fun _=>by kernel_rfl
 have C1:=Lib.hid HF
 have C2:=Lib.hid HS
 have RS:=Lib.hid Tryz.results97
 clear HF HS 
 go_enter Tryz.func97,Tryz.ntmps97
 exact wk0

set_option maxHeartbeats 8000000 in
set_option maxRecDepth 100000 in
theorem fsqrt5_add (w:World) {b1 b2 b5 b6 b7 b8 b9 b10 b11 b12 b13 b14:Bool} {m1 k1 m2 k2 m5 k5 m6 k6 m7 k7 m8 k8 m9 k9 m10 k10 m11 k11 m12 k12 m13 k13 m14 k14:ByteArray} {n c:Int} (h:c<0) (HP:∀ V,Below w.heap.size w V→Calls Tryz.prog 76 #[.int .i64 (n)] V (RetB V (.agg #[.bool b5,.string m5,.bool false,.string k5]))) (V1:∀ V,Below w.heap.size w V→Calls Tryz.prog 45 #[.agg #[.bool b5,.string m5,.bool false,.string k5],.agg #[.bool b5,.string m5,.bool false,.string k5]] V (RetB V (.agg #[.bool b6,.string m6,.bool false,.string k6]))) (V2:∀ V,Below w.heap.size w V→Calls Tryz.prog 45 #[.agg #[.bool b1,.string m1,.bool false,.string k1],.agg #[.bool b6,.string m6,.bool false,.string k6]] V (RetB V (.agg #[.bool b7,.string m7,.bool false,.string k7]))) (R1:∀ V,Below w.heap.size w V→Calls Tryz.prog 97 #[.agg #[.bool b7,.string m7,.bool false,.string k7]] V (RetB V (.agg #[.bool b8,.string m8,.bool false,.string k8]))) (V3:∀ V,Below w.heap.size w V→Calls Tryz.prog 45 #[.agg #[.bool b2,.string m2,.bool false,.string k2],.agg #[.bool b6,.string m6,.bool false,.string k6]] V (RetB V (.agg #[.bool b9,.string m9,.bool false,.string k9]))) (R2:∀ V,Below w.heap.size w V→Calls Tryz.prog 97 #[.agg #[.bool b9,.string m9,.bool false,.string k9]] V (RetB V (.agg #[.bool b10,.string m10,.bool false,.string k10]))) (V4:∀ V,Below w.heap.size w V→Calls Tryz.prog 45 #[.agg #[.bool b10,.string m10,.bool false,.string k10],.agg #[.bool b10,.string m10,.bool false,.string k10]] V (RetB V (.agg #[.bool b11,.string m11,.bool false,.string k11]))) (K1:∀ V,Below w.heap.size w V→Calls Tryz.prog 15 #[.agg #[.bool b11,.string m11,.bool false,.string k11],.agg #[.bool b9,.string m9,.bool false,.string k9]] V (RetB V (.int .i64 (c)))) (O1:∀ V,Below w.heap.size w V→Calls Tryz.prog 53 #[.int .i64 (1),.int .i64 (1)] V (RetB V (.agg #[.bool false,.string ⟨#[1]⟩,.bool false,.string ⟨#[]⟩]))) (A1:∀ V,Below w.heap.size w V→Calls Tryz.prog 43 #[.agg #[.bool b10,.string m10,.bool false,.string k10],.agg #[.bool false,.string ⟨#[1]⟩,.bool false,.string ⟨#[]⟩]] V (RetB V (.agg #[.bool b12,.string m12,.bool false,.string k12]))) (D1:∀ V,Below w.heap.size w V→Calls Tryz.prog 47 #[.agg #[.bool b8,.string m8,.bool false,.string k8],.agg #[.bool b5,.string m5,.bool false,.string k5]] V (RetB V (.agg #[.bool b13,.string m13,.bool false,.string k13]))) (D2:∀ V,Below w.heap.size w V→Calls Tryz.prog 47 #[.agg #[.bool b12,.string m12,.bool false,.string k12],.agg #[.bool b5,.string m5,.bool false,.string k5]] V (RetB V (.agg #[.bool b14,.string m14,.bool false,.string k14]))) :
  Calls Tryz.prog 50 #[.agg #[.bool b1,.string m1,.bool false,.string k1,.bool b2,.string m2,.bool false,.string k2],.int .i64 (n)] w (RetB w (.agg #[.bool b13,.string m13,.bool false,.string k13,.bool b14,.string m14,.bool false,.string k14])):=by
 have C1:=Lib.hid HP
 have C2:=Lib.hid V1
 have C3:=Lib.hid V2
 have C4:=Lib.hid R1
 have C5:=Lib.hid V3
 have C6:=Lib.hid R2
 have C7:=Lib.hid V4
 have C8:=Lib.hid K1
 have C9:=Lib.hid O1
 have C10:=Lib.hid A1
 have C11:=Lib.hid D1
 have C12:=Lib.hid D2
 have RS:=Lib.hid Tryz.results50
 clear HP V1 V2 R1 V3 R2 V4 K1 O1 A1 D1 D2 
 go_enter Tryz.func50,Tryz.ntmps50
 exact wk0

set_option maxHeartbeats 8000000 in
set_option maxRecDepth 100000 in
theorem fsqrt5_no (w:World) {b1 b2 b5 b6 b7 b8 b9 b10 b11 b12 b13 b14:Bool} {m1 k1 m2 k2 m5 k5 m6 k6 m7 k7 m8 k8 m9 k9 m10 k10 m11 k11 m12 k12 m13 k13 m14 k14:ByteArray} {n c:Int} (h:¬c<0) (HP:∀ V,Below w.heap.size w V→Calls Tryz.prog 76 #[.int .i64 (n)] V (RetB V (.agg #[.bool b5,.string m5,.bool false,.string k5]))) (V1:∀ V,Below w.heap.size w V→Calls Tryz.prog 45 #[.agg #[.bool b5,.string m5,.bool false,.string k5],.agg #[.bool b5,.string m5,.bool false,.string k5]] V (RetB V (.agg #[.bool b6,.string m6,.bool false,.string k6]))) (V2:∀ V,Below w.heap.size w V→Calls Tryz.prog 45 #[.agg #[.bool b1,.string m1,.bool false,.string k1],.agg #[.bool b6,.string m6,.bool false,.string k6]] V (RetB V (.agg #[.bool b7,.string m7,.bool false,.string k7]))) (R1:∀ V,Below w.heap.size w V→Calls Tryz.prog 97 #[.agg #[.bool b7,.string m7,.bool false,.string k7]] V (RetB V (.agg #[.bool b8,.string m8,.bool false,.string k8]))) (V3:∀ V,Below w.heap.size w V→Calls Tryz.prog 45 #[.agg #[.bool b2,.string m2,.bool false,.string k2],.agg #[.bool b6,.string m6,.bool false,.string k6]] V (RetB V (.agg #[.bool b9,.string m9,.bool false,.string k9]))) (R2:∀ V,Below w.heap.size w V→Calls Tryz.prog 97 #[.agg #[.bool b9,.string m9,.bool false,.string k9]] V (RetB V (.agg #[.bool b10,.string m10,.bool false,.string k10]))) (V4:∀ V,Below w.heap.size w V→Calls Tryz.prog 45 #[.agg #[.bool b10,.string m10,.bool false,.string k10],.agg #[.bool b10,.string m10,.bool false,.string k10]] V (RetB V (.agg #[.bool b11,.string m11,.bool false,.string k11]))) (K1:∀ V,Below w.heap.size w V→Calls Tryz.prog 15 #[.agg #[.bool b11,.string m11,.bool false,.string k11],.agg #[.bool b9,.string m9,.bool false,.string k9]] V (RetB V (.int .i64 (c)))) (D1:∀ V,Below w.heap.size w V→Calls Tryz.prog 47 #[.agg #[.bool b8,.string m8,.bool false,.string k8],.agg #[.bool b5,.string m5,.bool false,.string k5]] V (RetB V (.agg #[.bool b13,.string m13,.bool false,.string k13]))) (D2:∀ V,Below w.heap.size w V→Calls Tryz.prog 47 #[.agg #[.bool b10,.string m10,.bool false,.string k10],.agg #[.bool b5,.string m5,.bool false,.string k5]] V (RetB V (.agg #[.bool b14,.string m14,.bool false,.string k14]))) :
  Calls Tryz.prog 50 #[.agg #[.bool b1,.string m1,.bool false,.string k1,.bool b2,.string m2,.bool false,.string k2],.int .i64 (n)] w (RetB w (.agg #[.bool b13,.string m13,.bool false,.string k13,.bool b14,.string m14,.bool false,.string k14])):=by
 have C1:=Lib.hid HP
 have C2:=Lib.hid V1
 have C3:=Lib.hid V2
 have C4:=Lib.hid R1
 have C5:=Lib.hid V3
 have C6:=Lib.hid R2
 have C7:=Lib.hid V4
 have C8:=Lib.hid K1
 have C9:=Lib.hid D1
 have C10:=Lib.hid D2
 have RS:=Lib.hid Tryz.results50
 clear HP V1 V2 R1 V3 R2 V4 K1 D1 D2 
 go_enter Tryz.func50,Tryz.ntmps50
 exact wk0
end Go.Proofs.YtdbhahiieokplaaGreatDoor


namespace Go.Proofs.YtdbhahiieokplaaGreatDoor
open Go.RowKit
attribute [local go_sem ↓] Go.wp_at_zero Go.wp_at_succ

set_option maxHeartbeats 8000000 in
set_option maxRecDepth 100000 in
theorem roots_bad (w:World) {b1 b2:Bool} {m1 k1 m2 k2:ByteArray} {n1 d1 n2 d2 n:Int} (h:n<0∨(¬n<0∧128<n)) (HK:∀ V,Below w.heap.size w V→Calls Tryz.prog 18 #[] V (RetB V (.bool true))) (HA:∀ V,Below w.heap.size w V→Calls Tryz.prog 26 #[.agg #[.int .i32 n1,.int .u16 d1,.int .i32 n2,.int .u16 d2]] V (RetB V (.agg #[.bool b1,.string m1,.bool false,.string k1,.bool b2,.string m2,.bool false,.string k2]))) (HQ:∀ V,Below w.heap.size w V→Calls Tryz.prog 48 #[.agg #[.bool b1,.string m1,.bool false,.string k1,.bool b2,.string m2,.bool false,.string k2],.int .i64 (n)] V (RetB V (.tuple #[.agg #[.bool false,.string ⟨#[]⟩,.bool false,.string ⟨#[]⟩,.bool false,.string ⟨#[]⟩,.bool false,.string ⟨#[]⟩],.int .i64 2]))) :
  Calls Tryz.prog 7 #[.agg #[.int .i32 n1,.int .u16 d1,.int .i32 n2,.int .u16 d2],.int .i64 (n)] w (RetB w (.bool true)):=by
 have C1:=Lib.hid HK
 have C2:=Lib.hid HA
 have C3:=Lib.hid HQ
 rcases h with h1 | ⟨h1,h2⟩
 all_goals
  clear HK HA HQ 
  go_enter Tryz.func7,Tryz.ntmps7
  exact wk0

set_option maxHeartbeats 8000000 in
set_option maxRecDepth 100000 in
theorem roots_neg (w:World) {b1 b2:Bool} {m1 k1 m2 k2:ByteArray} {n1 d1 n2 d2 n:Int} {c:Int} (h1:¬n<0) (h2:¬128<n) (h3:c<0) (HK:∀ V,Below w.heap.size w V→Calls Tryz.prog 18 #[] V (RetB V (.bool true))) (HA:∀ V,Below w.heap.size w V→Calls Tryz.prog 26 #[.agg #[.int .i32 n1,.int .u16 d1,.int .i32 n2,.int .u16 d2]] V (RetB V (.agg #[.bool b1,.string m1,.bool false,.string k1,.bool b2,.string m2,.bool false,.string k2]))) (HS:∀ V,Below w.heap.size w V→Calls Tryz.prog 49 #[.agg #[.bool b1,.string m1,.bool false,.string k1]] V (RetB V (.int .i64 (c)))) (HQ:∀ V,Below w.heap.size w V→Calls Tryz.prog 48 #[.agg #[.bool b1,.string m1,.bool false,.string k1,.bool b2,.string m2,.bool false,.string k2],.int .i64 (n)] V (RetB V (.tuple #[.agg #[.bool false,.string ⟨#[]⟩,.bool false,.string ⟨#[]⟩,.bool false,.string ⟨#[]⟩,.bool false,.string ⟨#[]⟩],.int .i64 2]))) :
  Calls Tryz.prog 7 #[.agg #[.int .i32 n1,.int .u16 d1,.int .i32 n2,.int .u16 d2],.int .i64 (n)] w (RetB w (.bool true)):=by
 have C1:=Lib.hid HK
 have C2:=Lib.hid HA
 have C3:=Lib.hid HS
 have C4:=Lib.hid HQ
 clear HK HA HS HQ 
 go_enter Tryz.func7,Tryz.ntmps7
 exact wk0

set_option maxHeartbeats 8000000 in
set_option maxRecDepth 100000 in
theorem roots_good (w:World) {b1 b2 b3 b4:Bool} {m1 k1 m2 k2 m3 k3 m4 k4:ByteArray} {n1 d1 n2 d2 n:Int} {c:Int} (h1:¬n<0) (h2:¬128<n) (h3:¬c<0) (HK:∀ V,Below w.heap.size w V→Calls Tryz.prog 18 #[] V (RetB V (.bool true))) (HA:∀ V,Below w.heap.size w V→Calls Tryz.prog 26 #[.agg #[.int .i32 n1,.int .u16 d1,.int .i32 n2,.int .u16 d2]] V (RetB V (.agg #[.bool b1,.string m1,.bool false,.string k1,.bool b2,.string m2,.bool false,.string k2]))) (HS:∀ V,Below w.heap.size w V→Calls Tryz.prog 49 #[.agg #[.bool b1,.string m1,.bool false,.string k1]] V (RetB V (.int .i64 (c)))) (HQ:∀ V,Below w.heap.size w V→Calls Tryz.prog 48 #[.agg #[.bool b1,.string m1,.bool false,.string k1,.bool b2,.string m2,.bool false,.string k2],.int .i64 (n)] V (RetB V (.tuple #[.agg #[.bool b3,.string m3,.bool false,.string k3,.bool b4,.string m4,.bool false,.string k4],.int .i64 0]))) (HL:∀ V,Below w.heap.size w V→Calls Tryz.prog 29 #[.agg #[.bool b1,.string m1,.bool false,.string k1,.bool b2,.string m2,.bool false,.string k2]] V (RetB V (.agg #[.bool b1,.string m1,.bool false,.string k1,.bool b2,.string m2,.bool false,.string k2]))) (HF:∀ V,Below w.heap.size w V→Calls Tryz.prog 50 #[.agg #[.bool b1,.string m1,.bool false,.string k1,.bool b2,.string m2,.bool false,.string k2],.int .i64 (n)] V (RetB V (.agg #[.bool b3,.string m3,.bool false,.string k3,.bool b4,.string m4,.bool false,.string k4]))) (SM:∀ V,Below w.heap.size w V→Calls Tryz.prog 22 #[.agg #[.bool b3,.string m3,.bool false,.string k3,.bool b4,.string m4,.bool false,.string k4],.agg #[.bool b3,.string m3,.bool false,.string k3,.bool b4,.string m4,.bool false,.string k4]] V (RetB V (.bool true))) :
  Calls Tryz.prog 7 #[.agg #[.int .i32 n1,.int .u16 d1,.int .i32 n2,.int .u16 d2],.int .i64 (n)] w (RetB w (.bool true)):=by
 have C1:=Lib.hid HK
 have C2:=Lib.hid HA
 have C3:=Lib.hid HS
 have C4:=Lib.hid HQ
 have C5:=Lib.hid HL
 have C6:=Lib.hid HF
 have C7:=Lib.hid SM
 clear HK HA HS HQ HL HF SM 
 go_enter Tryz.func7,Tryz.ntmps7
 exact wk0
end Go.Proofs.YtdbhahiieokplaaGreatDoor


namespace Go.Proofs.YtdbhahiieokplaaGreatDoor
open Go.RowKit
attribute [local go_sem ↓] Go.wp_at_zero Go.wp_at_succ

set_option maxHeartbeats 8000000 in
set_option maxRecDepth 100000 in
theorem same5_yes {b1 b2:Bool} {m1 k1 m2 k2:ByteArray} (w:World) :
  Calls Tryz.prog 22 #[.agg #[.bool b1,.string m1,.bool false,.string k1,.bool b2,.string m2,.bool false,.string k2],.agg #[.bool b1,.string m1,.bool false,.string k1,.bool b2,.string m2,.bool false,.string k2]] w (RetB w (.bool true)):=by
 go_enter Tryz.func22,Tryz.ntmps22
 exact wk0
end Go.Proofs.YtdbhahiieokplaaGreatDoor
