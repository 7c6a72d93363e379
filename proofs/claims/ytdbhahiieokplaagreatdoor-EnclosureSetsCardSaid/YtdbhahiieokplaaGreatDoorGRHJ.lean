import Derived.Test.YtdbhahiieokplaaGreatDoorGRHI
import Derived.Test.YtdbhahiieokplaaGreatDoorGRGC
set_option linter.unusedSimpArgs false
set_option linter.unusedVariables false

namespace Go.Proofs.YtdbhahiieokplaaGreatDoor
open Go.RowKit
attribute [local go_sem ↓] Go.wp_at_zero Go.wp_at_succ

theorem rcmp_b (A B:Option Addr) (n m c d X Y:Nat) (w:World) (hn:n≤1000000000) (hm:m≤1000000000) (hx:Tr w A n c X) (hy:Tr w B m d Y) :
  Calls Tryz.prog 93 #[.slice A n c,.slice B m d] w (RetB w (.int .i64 (ord X Y))):=by
 refine (rcompare_any A B n m c d X Y w hn hm hx hy).mono ?_
 rintro e w' ⟨rfl,nn,rfl⟩
 exact ⟨rfl,below_draws (Below.refl _ _) nn⟩
theorem rcmp_eq (A B:Option Addr) (n m c d:Nat) {X Y:Nat} (w:World) (hn:n≤1000000000) (hm:m≤1000000000) (h:X=Y) (hx:Tr w A n c X) (hy:Tr w B m d Y) :
  Calls Tryz.prog 93 #[.slice A n c,.slice B m d] w (RetB w (.int .i64 0)):=by
 have h1:=rcmp_b A B n m c d X Y w hn hm hx hy
 rw [h,ord_eq] at h1
 exact h1
theorem rcmp_lt (A B:Option Addr) (n m c d:Nat) {X Y:Nat} (w:World) (hn:n≤1000000000) (hm:m≤1000000000) (h:X<Y) (hx:Tr w A n c X) (hy:Tr w B m d Y) :
  Calls Tryz.prog 93 #[.slice A n c,.slice B m d] w (RetB w (.int .i64 (-1))):=by
 have h1:=rcmp_b A B n m c d X Y w hn hm hx hy
 rw [ord_lt h] at h1
 exact h1
theorem isSq_no {x:Int} {b:Bool} {m:ByteArray} (hx:enc x=.agg #[.bool b,.string m]) (h:x<0∨rt x.natAbs*rt x.natAbs≠x.natAbs) (s:m.size≤30000) (w:World) :
  Calls Tryz.prog 203 #[.agg #[.bool b,.string m]] w (RetB w (.tuple #[.agg #[.bool false,.string ⟨#[]⟩],.bool false])):=by
 by_cases h0:x<0
 · exact isSquare_neg hx h0 w
 · have h1:=h.resolve_left h0
   obtain ⟨bp,mp,hp⟩:=enc_form (((rt x.natAbs:Nat):Int)*((rt x.natAbs:Nat):Int))
   have hs:(mag (rt x.natAbs)).size≤40000:=by
    have h2:=nd_mono (rt_self x.natAbs)
    have h3:nd x.natAbs≤30000:=by unfold nd;rw [←(enc_parts hx).2];exact s
    unfold nd at h2 h3
    omega
   refine (isSquare_f hx (by omega) (by omega) (enc_mag _) hp hs w).mono ?_
   intro e w' hw
   have hne:¬((rt x.natAbs:Nat):Int)*((rt x.natAbs:Nat):Int)=x:=fun e=>h1 (by
    rw [←Int.natCast_mul] at e
    omega)
   rw [if_neg hne] at hw
   exact hw

set_option maxHeartbeats 4000000 in
set_option maxRecDepth 100000 in
theorem ratRoot_no1 {q:Rat} {b:Bool} {m k:ByteArray} (h:Rq q b m k) (hno:q.num<0∨rt q.num.natAbs*rt q.num.natAbs≠q.num.natAbs) (s1:m.size≤30000) (w:World) :
  Calls Tryz.prog 186 #[.agg #[.bool b,.string m,.bool false,.string k]] w (RetB w (.tuple #[.agg #[.bool false,.string ⟨#[]⟩,.bool false,.string ⟨#[]⟩],.bool false])):=by
 have HI:=Lib.hid (fun V=>isSq_no h.num hno (by omega) V)
 have X:=Lib.hid (((Sb.start w).new #[.bool b,.string m,.bool false,.string k] 25).new #[.bool false,.string ⟨#[]⟩,.bool false,.string ⟨#[]⟩] 25)
 have X:=Lib.hid (X.out.pick [0,1] [(w.heap.size,#[.bool b,.string m,.bool false,.string k],25),(w.heap.size+1,#[.bool false,.string ⟨#[]⟩,.bool false,.string ⟨#[]⟩],25)] [] (by simp) (by decide) (by simp))
 clear h hno s1
 go_enter Tryz.func186,Tryz.ntmps186
 obtain ⟨a0,a1,a2,a3⟩:=X.out.c4 (i:=0) rfl
 go_wp2_with fail
 refine (HI.out _).mono ?_
 rintro e u1 ⟨rfl,hb9⟩
 have X:=Lib.hid (X.out.next hb9)
 clear hb9
 clear a0 a1 a2 a3
 go_upto_region 2 with fail
 have X:=Lib.hid (X.out.new #[.bool false,.string ⟨#[]⟩] 23)
 obtain ⟨W1,hV⟩:=wexi X.out
 rw [←hV] at X ⊢
 clear hV
 obtain ⟨x0,x1,x2,x3⟩:=X.out.c4 (i:=1) rfl
 obtain ⟨y0,y1,y2,y3⟩:=X.out.f4 (i:=1) rfl
 go_wp2
 have X:=Lib.hid (X.out.set4 (i:=1) rfl (.bool false) (.string ⟨#[]⟩) (.bool false) (.string ⟨#[]⟩))
 obtain ⟨p0,p1,p2,p3⟩:=X.out.c4 (i:=1) rfl
 exact bodyPost_ret (v:=.tuple #[.agg #[.bool false,.string ⟨#[]⟩,.bool false,.string ⟨#[]⟩],.bool false]) (by simp [results,Tryz.results186,go_sem,p0,p1,p2,p3]) rfl ⟨rfl,X.out.bel⟩

set_option maxHeartbeats 4000000 in
set_option maxRecDepth 100000 in
theorem ratRoot_no2 {q:Rat} {m k:ByteArray} (h:Rq q false m k) {N:Nat} (hN:q.num.natAbs=N*N) (hno:rt q.den*rt q.den≠q.den) (s1:(mag (N*N)).size≤30000) (s2:(mag q.den).size≤30000) (w:World) (hE:Env w) :
  Calls Tryz.prog 186 #[.agg #[.bool false,.string m,.bool false,.string k]] w (RetB w (.tuple #[.agg #[.bool false,.string ⟨#[]⟩,.bool false,.string ⟨#[]⟩],.bool false])):=by
 obtain rfl:m=mag (N*N):=by rw [h.mag.2,hN]
 have HI:=Lib.hid (fun V=>isSq_yes N s1 V)
 have HD:=Lib.hid (fun V (hV:Env V)=>den_f h V hV)
 have HJ:=Lib.hid (fun V=>isSq_no (x:=(q.den:Int)) (enc_mag q.den) (.inr (by rw [Int.natAbs_natCast];exact hno)) s2 V)
 have HE:=Lib.hid (fun V (hb:Below w.heap.size w V)=>hE.next hb)
 generalize mag (N*N)=mN at *
 generalize mag N=rN at *
 generalize mag q.den=mD at *
 have X:=Lib.hid (((Sb.start w).new #[.bool false,.string mN,.bool false,.string k] 25).new #[.bool false,.string ⟨#[]⟩,.bool false,.string ⟨#[]⟩] 25)
 have X:=Lib.hid (X.out.pick [0,1] [(w.heap.size,#[.bool false,.string mN,.bool false,.string k],25),(w.heap.size+1,#[.bool false,.string ⟨#[]⟩,.bool false,.string ⟨#[]⟩],25)] [] (by simp) (by decide) (by simp))
 clear h hN hno s1 s2 hE
 go_enter Tryz.func186,Tryz.ntmps186
 obtain ⟨a0,a1,a2,a3⟩:=X.out.c4 (i:=0) rfl
 go_wp2_with fail
 refine (HI.out _).mono ?_
 rintro e u1 ⟨rfl,hb9⟩
 have X:=Lib.hid (X.out.next hb9)
 clear hb9
 clear a0 a1 a2 a3
 go_upto_region 4 with fail
 have X:=Lib.hid (X.out.new #[.bool false,.string rN] 23)
 obtain ⟨W1,hV⟩:=wexi X.out
 rw [←hV] at X ⊢
 clear hV
 obtain ⟨a0,a1,a2,a3⟩:=X.out.c4 (i:=0) rfl
 go_wp2_with fail
 refine (HD.out _ (HE.out _ X.out.bel)).mono ?_
 rintro e u2 ⟨rfl,hb9⟩
 have X:=Lib.hid (X.out.next hb9)
 clear hb9
 clear a0 a1 a2 a3
 go_wp2_with fail
 refine (HJ.out _).mono ?_
 rintro e u3 ⟨rfl,hb9⟩
 have X:=Lib.hid (X.out.next hb9)
 clear hb9
 go_upto_region 5 with fail
 have X:=Lib.hid (X.out.new #[.bool false,.string ⟨#[]⟩] 23)
 obtain ⟨W2,hV⟩:=wexi X.out
 rw [←hV] at X ⊢
 clear hV
 obtain ⟨x0,x1,x2,x3⟩:=X.out.c4 (i:=1) rfl
 obtain ⟨y0,y1,y2,y3⟩:=X.out.f4 (i:=1) rfl
 go_wp2
 have X:=Lib.hid (X.out.set4 (i:=1) rfl (.bool false) (.string ⟨#[]⟩) (.bool false) (.string ⟨#[]⟩))
 obtain ⟨p0,p1,p2,p3⟩:=X.out.c4 (i:=1) rfl
 exact bodyPost_ret (v:=.tuple #[.agg #[.bool false,.string ⟨#[]⟩,.bool false,.string ⟨#[]⟩],.bool false]) (by simp [results,Tryz.results186,go_sem,p0,p1,p2,p3]) rfl ⟨rfl,X.out.bel⟩

set_option maxHeartbeats 8000000 in
set_option maxRecDepth 100000 in
theorem rRoot_neg {p:Rat} {m k:ByteArray} (h:Rq p true m k) (s1:m.size≤9000) (s2:(mag p.den).size≤9000) (w:World) :
  Calls Tryz.prog 72 #[.agg #[.bool true,.string m,.bool false,.string k]] w (RetB w (.tuple #[.agg #[.bool false,.string ⟨#[]⟩,.bool false,.string ⟨#[]⟩],.bool false])):=by
 have hk:k.size≤9000:=by
  by_cases hd:p.den=1
  · rw [h.den1 hd];exact Nat.zero_le _
  · rw [h.den2 hd];exact s2
 have HF:=Lib.hid (fun V=>rof2 h (by omega) (by omega) V)
 have n0:nd p.num.natAbs≤9000:=by unfold nd;rw [←h.mag.2];exact s1
 have n1':nd p.den≤9000:=s2
 have hd0:=p.den_pos
 generalize p.num.natAbs=NN at *
 generalize p.den=DD at *
 have r0:nd (rt NN)≤9000:=Nat.le_trans (nd_mono (rt_self NN)) n0
 have r1:nd (rt DD)≤9000:=Nat.le_trans (nd_mono (rt_self DD)) n1'
 have rp:=rt_pos hd0
 have q0:=nd_mul (rt NN) (rt NN)
 have q1:=nd_mul (rt DD) (rt DD)
 have HRN:=Lib.hid (fun (A:Option Addr) (n c:Nat) (V:World) (ht:Tr V A n c NN)=>rroot A n c NN V (by have:=ht.ln;omega) ht)
 have HRD:=Lib.hid (fun (A:Option Addr) (n c:Nat) (V:World) (ht:Tr V A n c DD)=>rroot A n c DD V (by have:=ht.ln;omega) ht)
 clear n0 n1' hd0 r0 r1 rp q0 q1 hk s1 s2 h
 generalize rt NN=RN at *
 generalize rt DD=RD at *
 have X:=Lib.hid (((Sb.start w).new #[.bool true,.string m,.bool false,.string k] 25).new #[.bool false,.string ⟨#[]⟩,.bool false,.string ⟨#[]⟩] 25)
 have X:=Lib.hid (X.out.pick [0,1] [(w.heap.size,#[.bool true,.string m,.bool false,.string k],25),(w.heap.size+1,#[.bool false,.string ⟨#[]⟩,.bool false,.string ⟨#[]⟩],25)] [] (by simp) (by decide) (by simp))
 go_enter Tryz.func72,Tryz.ntmps72
 obtain ⟨a0,a1,a2,a3⟩:=X.out.c4 (i:=0) rfl
 go_wp2_with fail
 refine (HF.out _).mono ?_
 rintro e u1 ⟨A1,n1,c1,B1,n2,c2,rfl,ht9,hu9,hb9,hf9,hg9⟩
 have X:=Lib.hid (X.out.row2 hb9 ht9 hu9 hf9 hg9)
 clear hb9 ht9 hu9 hf9 hg9 a0 a1 a2 a3
 go_upto_region 2 with fail
 have X:=Lib.hid (X.out.new #[.bool true,.slice A1 n1 c1,.slice B1 n2 c2] 121)
 obtain ⟨gF,hgF⟩:∃ g,g=u1.heap.size:=⟨_,rfl⟩
 rw [←hgF] at X ⊢
 obtain ⟨W1,hV⟩:=wexi X.out
 rw [←hV] at X ⊢
 clear hV
 clear hgF
 go_cut [5,6] (fun s5 s6 wx=>∃ A5 n5 c5 A6 n6 c6,s5=.slice A5 n5 c5∧s6=.slice A6 n6 c6∧Tr wx A5 n5 c5 RN∧Tr wx A6 n6 c6 RD∧Sb w [(w.heap.size,#[.bool true,.string m,.bool false,.string k],25),(w.heap.size+1,#[.bool false,.string ⟨#[]⟩,.bool false,.string ⟨#[]⟩],25),(gF,#[.bool true,.slice A1 n1 c1,.slice B1 n2 c2],121)] [(A1,n1,c1,NN),(B1,n2,c2,DD)] wx)
 case first =>
  refine wp_region_late (S:=fun w'=>(w'.cell? ⟨gF,0,none⟩=some (.bool true)∧w'.cell? ⟨gF,1,none⟩=some (.slice A1 n1 c1)∧w'.cell? ⟨gF,2,none⟩=some (.slice B1 n2 c2))) (L:=[]) (by kernel_rfl) ?_
  have X:=Lib.hid X.out.drew
  obtain ⟨V0,hV⟩:=wexi X.out
  rw [←hV] at X ⊢
  clear hV
  refine tk (i:=0) (oi:=⟨some 9,_,_,_,_,_⟩) (v:=_) rfl (by kernel_rfl) (fun _ _ _ h=>h) (X.out.c3 (i:=2) rfl) (Or.inl ⟨by rfl,by intro w hSw;(try dsimp only at hSw);(first | (go_simp;done) | (go_simp;with_reducible rfl))⟩) ?_
  try simp only [Act.put,seti,set0,setS]
  refine tk (i:=1) (oi:=⟨some 10,_,_,_,_,_⟩) (v:=_) rfl (by kernel_rfl) (fun _ _ _ h=>h) (X.out.c3 (i:=2) rfl) (Or.inl ⟨by rfl,by intro w hSw;(try dsimp only at hSw);(first | (go_simp;done) | (go_simp;with_reducible rfl))⟩) ?_
  try simp only [Act.put,seti,set0,setS]
  refine tk (i:=3) (oi:=⟨some 12,_,_,_,_,_⟩) (v:=_) rfl (by kernel_rfl) (fun _ _ _ h=>h) (X.out.c3 (i:=2) rfl) (Or.inl ⟨by rfl,by intro w hSw;(try dsimp only at hSw);(first | (go_simp;done) | (go_simp;with_reducible rfl))⟩) ?_
  try simp only [Act.put,seti,set0,setS]
  refine tk (i:=4) (oi:=⟨some 13,_,_,_,_,_⟩) (v:=_) rfl (by kernel_rfl) (fun _ _ _ h=>h) (X.out.c3 (i:=2) rfl) (Or.inl ⟨by rfl,by intro w hSw;(try dsimp only at hSw);(first | (go_simp;done) | (go_simp;with_reducible rfl))⟩) ?_
  try simp only [Act.put,seti,set0,setS]
  refine wpLate_one (i:=2) (o:=⟨some 11,_,_,_,_,_⟩) (by kernel_rfl) rfl (fun K hK=>?_)
  go_simp
  (go_at_call 118;refine (HRN.out _ _ _ _ (X.out.rw (i:=0) rfl)).mono ?_;rintro e u1 ⟨A1,n1,c1,rfl,ht9,hb9⟩;have TG1:=Lib.hid ht9;have X:=Lib.hid (X.out.next hb9);clear hb9 ht9)
  try go_wp2_with fail
  refine hK.out _ _ (Or.inr (fun _=>X.out.c3 (i:=2) rfl)) ?_
  clear hK K
  try simp only [Act.put,seti,set0,setS]
  refine wpLate_one (i:=5) (o:=⟨some 14,_,_,_,_,_⟩) (by kernel_rfl) rfl (fun K hK=>?_)
  go_simp
  (go_at_call 118;refine (HRD.out _ _ _ _ (X.out.rw (i:=1) rfl)).mono ?_;rintro e u2 ⟨A2,n2,c2,rfl,ht9,hb9⟩;have TG1:=Lib.hid (TG1.out.below hb9);have TG2:=Lib.hid ht9;have X:=Lib.hid (X.out.next hb9);clear hb9 ht9)
  try go_wp2_with fail
  refine hK.out _ _ (Or.inr (fun _=>X.out.c3 (i:=2) rfl)) ?_
  clear hK K
  try simp only [Act.put,seti,set0,setS]
  refine tk (i:=6) (oi:=⟨some 5,_,_,_,_,_⟩) (v:=_) rfl (by kernel_rfl) (fun _ _ _ h=>h) (X.out.c3 (i:=2) rfl) (Or.inl ⟨by rfl,by intro w hSw;(try dsimp only at hSw);(first | (go_simp;done) | (go_simp;with_reducible rfl))⟩) ?_
  try simp only [Act.put,seti,set0,setS]
  refine tk (i:=7) (oi:=⟨some 6,_,_,_,_,_⟩) (v:=_) rfl (by kernel_rfl) (fun _ _ _ h=>h) (X.out.c3 (i:=2) rfl) (Or.inl ⟨by rfl,by intro w hSw;(try dsimp only at hSw);(first | (go_simp;done) | (go_simp;with_reducible rfl))⟩) ?_
  try simp only [Act.put,seti,set0,setS]
  refine wpLate_done (by kernel_rfl) ?_ _
  go_wp2_with fail
  go_meet
  exact ⟨_,_,_,_,_,_,rfl,rfl,TG1.out,TG2.out,X.out⟩
 obtain ⟨A5,n5,c5,A6,n6,c6,rfl,rfl,hT5,hT6,hX⟩:=hcut
 have X:=Lib.hid hX
 have TG5:=Lib.hid hT5
 have TG6:=Lib.hid hT6
 clear hX hT5 hT6
 go_upto_region 3 with fail
 refine wp_region_late (S:=fun w'=>(w'.cell? ⟨gF,0,none⟩=some (.bool true)∧w'.cell? ⟨gF,1,none⟩=some (.slice A1 n1 c1)∧w'.cell? ⟨gF,2,none⟩=some (.slice B1 n2 c2))) (L:=[]) (by kernel_rfl) ?_
 have X:=Lib.hid X.out.drew
 have TG5:=Lib.hid TG5.out.drew
 have TG6:=Lib.hid TG6.out.drew
 obtain ⟨V0,hV⟩:=wexi X.out
 rw [←hV] at X TG5 TG6 ⊢
 clear hV
 refine tk (i:=0) (oi:=⟨some 15,_,_,_,_,_⟩) (v:=_) rfl (by kernel_rfl) (fun _ _ _ h=>h) (X.out.c3 (i:=2) rfl) (Or.inl ⟨by rfl,by intro w hSw;(try dsimp only at hSw);(first | (go_simp;done) | (go_simp;with_reducible rfl))⟩) ?_
 try simp only [Act.put,seti,set0,setS]
 refine tk (i:=1) (oi:=⟨some 16,_,_,_,_,_⟩) (v:=_) rfl (by kernel_rfl) (fun _ _ _ h=>h) (X.out.c3 (i:=2) rfl) (Or.inl ⟨by rfl,by intro w hSw;(try dsimp only at hSw);(first | (go_simp;done) | (go_simp;with_reducible rfl))⟩) ?_
 try simp only [Act.put,seti,set0,setS]
 refine tk (i:=2) (oi:=⟨some 17,_,_,_,_,_⟩) (v:=_) rfl (by kernel_rfl) (fun _ _ _ h=>h) (X.out.c3 (i:=2) rfl) (Or.inl ⟨by rfl,by intro w hSw;(try dsimp only at hSw);(first | (go_simp;done) | (go_simp;with_reducible rfl))⟩) ?_
 try simp only [Act.put,seti,set0,setS]
 refine tk (i:=3) (oi:=⟨some 18,_,_,_,_,_⟩) (v:=undef) rfl (by kernel_rfl) (fun _ _ _ h=>h) (X.out.c3 (i:=2) rfl) (Or.inr ⟨by rfl,rfl⟩) ?_
 try simp only [Act.put,seti,set0,setS]
 refine tk (i:=4) (oi:=⟨some 19,_,_,_,_,_⟩) (v:=undef) rfl (by kernel_rfl) (fun _ _ _ h=>h) (X.out.c3 (i:=2) rfl) (Or.inr ⟨by rfl,rfl⟩) ?_
 try simp only [Act.put,seti,set0,setS]
 refine tk (i:=5) (oi:=⟨some 20,_,_,_,_,_⟩) (v:=undef) rfl (by kernel_rfl) (fun _ _ _ h=>h) (X.out.c3 (i:=2) rfl) (Or.inr ⟨by rfl,rfl⟩) ?_
 try simp only [Act.put,seti,set0,setS]
 refine tk (i:=6) (oi:=⟨some 21,_,_,_,_,_⟩) (v:=undef) rfl (by kernel_rfl) (fun _ _ _ h=>h) (X.out.c3 (i:=2) rfl) (Or.inr ⟨by rfl,rfl⟩) ?_
 try simp only [Act.put,seti,set0,setS]
 refine tk (i:=7) (oi:=⟨some 22,_,_,_,_,_⟩) (v:=undef) rfl (by kernel_rfl) (fun _ _ _ h=>h) (X.out.c3 (i:=2) rfl) (Or.inr ⟨by rfl,rfl⟩) ?_
 try simp only [Act.put,seti,set0,setS]
 refine tk (i:=8) (oi:=⟨some 23,_,_,_,_,_⟩) (v:=undef) rfl (by kernel_rfl) (fun _ _ _ h=>h) (X.out.c3 (i:=2) rfl) (Or.inr ⟨by rfl,rfl⟩) ?_
 try simp only [Act.put,seti,set0,setS]
 refine tk (i:=9) (oi:=⟨some 24,_,_,_,_,_⟩) (v:=undef) rfl (by kernel_rfl) (fun _ _ _ h=>h) (X.out.c3 (i:=2) rfl) (Or.inr ⟨by rfl,rfl⟩) ?_
 try simp only [Act.put,seti,set0,setS]
 refine tk (i:=10) (oi:=⟨some 25,_,_,_,_,_⟩) (v:=_) rfl (by kernel_rfl) (fun _ _ _ h=>h) (X.out.c3 (i:=2) rfl) (Or.inl ⟨by rfl,by intro w hSw;(try dsimp only at hSw);(first | (go_simp;done) | (go_simp;with_reducible rfl))⟩) ?_
 try simp only [Act.put,seti,set0,setS]
 refine tk (i:=11) (oi:=⟨some 26,_,_,_,_,_⟩) (v:=_) rfl (by kernel_rfl) (fun _ _ _ h=>h) (X.out.c3 (i:=2) rfl) (Or.inl ⟨by rfl,by intro w hSw;(try dsimp only at hSw);(first | (go_simp;done) | (go_simp;with_reducible rfl))⟩) ?_
 try simp only [Act.put,seti,set0,setS]
 refine tk (i:=12) (oi:=⟨some 27,_,_,_,_,_⟩) (v:=undef) rfl (by kernel_rfl) (fun _ _ _ h=>h) (X.out.c3 (i:=2) rfl) (Or.inr ⟨by rfl,rfl⟩) ?_
 try simp only [Act.put,seti,set0,setS]
 refine tk (i:=13) (oi:=⟨some 28,_,_,_,_,_⟩) (v:=undef) rfl (by kernel_rfl) (fun _ _ _ h=>h) (X.out.c3 (i:=2) rfl) (Or.inr ⟨by rfl,rfl⟩) ?_
 try simp only [Act.put,seti,set0,setS]
 refine tk (i:=14) (oi:=⟨some 29,_,_,_,_,_⟩) (v:=undef) rfl (by kernel_rfl) (fun _ _ _ h=>h) (X.out.c3 (i:=2) rfl) (Or.inr ⟨by rfl,rfl⟩) ?_
 try simp only [Act.put,seti,set0,setS]
 refine tk (i:=15) (oi:=⟨some 30,_,_,_,_,_⟩) (v:=undef) rfl (by kernel_rfl) (fun _ _ _ h=>h) (X.out.c3 (i:=2) rfl) (Or.inr ⟨by rfl,rfl⟩) ?_
 try simp only [Act.put,seti,set0,setS]
 refine tk (i:=16) (oi:=⟨some 31,_,_,_,_,_⟩) (v:=undef) rfl (by kernel_rfl) (fun _ _ _ h=>h) (X.out.c3 (i:=2) rfl) (Or.inr ⟨by rfl,rfl⟩) ?_
 try simp only [Act.put,seti,set0,setS]
 refine tk (i:=17) (oi:=⟨some 32,_,_,_,_,_⟩) (v:=undef) rfl (by kernel_rfl) (fun _ _ _ h=>h) (X.out.c3 (i:=2) rfl) (Or.inr ⟨by rfl,rfl⟩) ?_
 try simp only [Act.put,seti,set0,setS]
 refine tk (i:=18) (oi:=⟨some 33,_,_,_,_,_⟩) (v:=undef) rfl (by kernel_rfl) (fun _ _ _ h=>h) (X.out.c3 (i:=2) rfl) (Or.inr ⟨by rfl,rfl⟩) ?_
 try simp only [Act.put,seti,set0,setS]
 refine tk (i:=19) (oi:=⟨some 34,_,_,_,_,_⟩) (v:=_) rfl (by kernel_rfl) (fun _ _ _ h=>h) (X.out.c3 (i:=2) rfl) (Or.inl ⟨by rfl,by intro w hSw;(try dsimp only at hSw);(first | (go_simp;done) | (go_simp;with_reducible rfl))⟩) ?_
 try simp only [Act.put,seti,set0,setS]
 refine wpLate_done (by kernel_rfl) ?_ _
 obtain ⟨x0,x1,x2,x3⟩:=X.out.c4 (i:=1) rfl
 obtain ⟨y0,y1,y2,y3⟩:=X.out.f4 (i:=1) rfl
 go_wp2
 have X:=Lib.hid (X.out.set4 (i:=1) rfl (.bool false) (.string ⟨#[]⟩) (.bool false) (.string ⟨#[]⟩))
 obtain ⟨p0,p1,p2,p3⟩:=X.out.c4 (i:=1) rfl
 exact bodyPost_ret (v:=.tuple #[.agg #[.bool false,.string ⟨#[]⟩,.bool false,.string ⟨#[]⟩],.bool false]) (by simp [results,Tryz.results72,go_sem,p0,p1,p2,p3]) rfl ⟨rfl,X.out.bel⟩

set_option maxHeartbeats 8000000 in
set_option maxRecDepth 100000 in
theorem rRoot_no1 {p:Rat} {m k:ByteArray} (h:Rq p false m k) (h1:rt p.num.natAbs*rt p.num.natAbs≠p.num.natAbs) (s1:m.size≤9000) (s2:(mag p.den).size≤9000) (w:World) :
  Calls Tryz.prog 72 #[.agg #[.bool false,.string m,.bool false,.string k]] w (RetB w (.tuple #[.agg #[.bool false,.string ⟨#[]⟩,.bool false,.string ⟨#[]⟩],.bool false])):=by
 have hk:k.size≤9000:=by
  by_cases hd:p.den=1
  · rw [h.den1 hd];exact Nat.zero_le _
  · rw [h.den2 hd];exact s2
 have HF:=Lib.hid (fun V=>rof2 h (by omega) (by omega) V)
 have n0:nd p.num.natAbs≤9000:=by unfold nd;rw [←h.mag.2];exact s1
 have n1':nd p.den≤9000:=s2
 have hd0:=p.den_pos
 generalize p.num.natAbs=NN at *
 generalize p.den=DD at *
 have r0:nd (rt NN)≤9000:=Nat.le_trans (nd_mono (rt_self NN)) n0
 have r1:nd (rt DD)≤9000:=Nat.le_trans (nd_mono (rt_self DD)) n1'
 have rp:=rt_pos hd0
 have q0:=nd_mul (rt NN) (rt NN)
 have q1:=nd_mul (rt DD) (rt DD)
 have HRN:=Lib.hid (fun (A:Option Addr) (n c:Nat) (V:World) (ht:Tr V A n c NN)=>rroot A n c NN V (by have:=ht.ln;omega) ht)
 have HRD:=Lib.hid (fun (A:Option Addr) (n c:Nat) (V:World) (ht:Tr V A n c DD)=>rroot A n c DD V (by have:=ht.ln;omega) ht)
 have HTN:=Lib.hid (fun (A:Option Addr) (n c:Nat) (V:World) (ht:Tr V A n c (rt NN))=>rtimes A A n n c c (rt NN) (rt NN) V (by have:=ht.ln;omega) (by have:=ht.ln;omega) ht.dg ht.dg)
 have HCN:=Lib.hid (fun (A B:Option Addr) (n m c d:Nat) (V:World) (ht:Tr V A n c (rt NN*rt NN)) (hu:Tr V B m d NN)=>rcmp_lt A B n m c d V (by have:=ht.ln;omega) (by have:=hu.ln;omega) (Nat.lt_of_le_of_ne (rt_spec NN).1 h1) ht hu)
 clear n0 n1' hd0 r0 r1 rp q0 q1 hk s1 s2 h h1
 generalize rt NN=RN at *
 generalize rt DD=RD at *
 have X:=Lib.hid (((Sb.start w).new #[.bool false,.string m,.bool false,.string k] 25).new #[.bool false,.string ⟨#[]⟩,.bool false,.string ⟨#[]⟩] 25)
 have X:=Lib.hid (X.out.pick [0,1] [(w.heap.size,#[.bool false,.string m,.bool false,.string k],25),(w.heap.size+1,#[.bool false,.string ⟨#[]⟩,.bool false,.string ⟨#[]⟩],25)] [] (by simp) (by decide) (by simp))
 go_enter Tryz.func72,Tryz.ntmps72
 obtain ⟨a0,a1,a2,a3⟩:=X.out.c4 (i:=0) rfl
 go_wp2_with fail
 refine (HF.out _).mono ?_
 rintro e u1 ⟨A1,n1,c1,B1,n2,c2,rfl,ht9,hu9,hb9,hf9,hg9⟩
 have X:=Lib.hid (X.out.row2 hb9 ht9 hu9 hf9 hg9)
 clear hb9 ht9 hu9 hf9 hg9 a0 a1 a2 a3
 go_upto_region 2 with fail
 have X:=Lib.hid (X.out.new #[.bool false,.slice A1 n1 c1,.slice B1 n2 c2] 121)
 obtain ⟨gF,hgF⟩:∃ g,g=u1.heap.size:=⟨_,rfl⟩
 rw [←hgF] at X ⊢
 obtain ⟨W1,hV⟩:=wexi X.out
 rw [←hV] at X ⊢
 clear hV
 clear hgF
 go_cut [5,6] (fun s5 s6 wx=>∃ A5 n5 c5 A6 n6 c6,s5=.slice A5 n5 c5∧s6=.slice A6 n6 c6∧Tr wx A5 n5 c5 RN∧Tr wx A6 n6 c6 RD∧Sb w [(w.heap.size,#[.bool false,.string m,.bool false,.string k],25),(w.heap.size+1,#[.bool false,.string ⟨#[]⟩,.bool false,.string ⟨#[]⟩],25),(gF,#[.bool false,.slice A1 n1 c1,.slice B1 n2 c2],121)] [(A1,n1,c1,NN),(B1,n2,c2,DD)] wx)
 case first =>
  refine wp_region_late (S:=fun w'=>(w'.cell? ⟨gF,0,none⟩=some (.bool false)∧w'.cell? ⟨gF,1,none⟩=some (.slice A1 n1 c1)∧w'.cell? ⟨gF,2,none⟩=some (.slice B1 n2 c2))) (L:=[]) (by kernel_rfl) ?_
  have X:=Lib.hid X.out.drew
  obtain ⟨V0,hV⟩:=wexi X.out
  rw [←hV] at X ⊢
  clear hV
  refine tk (i:=0) (oi:=⟨some 9,_,_,_,_,_⟩) (v:=_) rfl (by kernel_rfl) (fun _ _ _ h=>h) (X.out.c3 (i:=2) rfl) (Or.inl ⟨by rfl,by intro w hSw;(try dsimp only at hSw);(first | (go_simp;done) | (go_simp;with_reducible rfl))⟩) ?_
  try simp only [Act.put,seti,set0,setS]
  refine tk (i:=1) (oi:=⟨some 10,_,_,_,_,_⟩) (v:=_) rfl (by kernel_rfl) (fun _ _ _ h=>h) (X.out.c3 (i:=2) rfl) (Or.inl ⟨by rfl,by intro w hSw;(try dsimp only at hSw);(first | (go_simp;done) | (go_simp;with_reducible rfl))⟩) ?_
  try simp only [Act.put,seti,set0,setS]
  refine tk (i:=3) (oi:=⟨some 12,_,_,_,_,_⟩) (v:=_) rfl (by kernel_rfl) (fun _ _ _ h=>h) (X.out.c3 (i:=2) rfl) (Or.inl ⟨by rfl,by intro w hSw;(try dsimp only at hSw);(first | (go_simp;done) | (go_simp;with_reducible rfl))⟩) ?_
  try simp only [Act.put,seti,set0,setS]
  refine tk (i:=4) (oi:=⟨some 13,_,_,_,_,_⟩) (v:=_) rfl (by kernel_rfl) (fun _ _ _ h=>h) (X.out.c3 (i:=2) rfl) (Or.inl ⟨by rfl,by intro w hSw;(try dsimp only at hSw);(first | (go_simp;done) | (go_simp;with_reducible rfl))⟩) ?_
  try simp only [Act.put,seti,set0,setS]
  refine wpLate_one (i:=2) (o:=⟨some 11,_,_,_,_,_⟩) (by kernel_rfl) rfl (fun K hK=>?_)
  go_simp
  (go_at_call 118;refine (HRN.out _ _ _ _ (X.out.rw (i:=0) rfl)).mono ?_;rintro e u1 ⟨A1,n1,c1,rfl,ht9,hb9⟩;have TG1:=Lib.hid ht9;have X:=Lib.hid (X.out.next hb9);clear hb9 ht9)
  try go_wp2_with fail
  refine hK.out _ _ (Or.inr (fun _=>X.out.c3 (i:=2) rfl)) ?_
  clear hK K
  try simp only [Act.put,seti,set0,setS]
  refine wpLate_one (i:=5) (o:=⟨some 14,_,_,_,_,_⟩) (by kernel_rfl) rfl (fun K hK=>?_)
  go_simp
  (go_at_call 118;refine (HRD.out _ _ _ _ (X.out.rw (i:=1) rfl)).mono ?_;rintro e u2 ⟨A2,n2,c2,rfl,ht9,hb9⟩;have TG1:=Lib.hid (TG1.out.below hb9);have TG2:=Lib.hid ht9;have X:=Lib.hid (X.out.next hb9);clear hb9 ht9)
  try go_wp2_with fail
  refine hK.out _ _ (Or.inr (fun _=>X.out.c3 (i:=2) rfl)) ?_
  clear hK K
  try simp only [Act.put,seti,set0,setS]
  refine tk (i:=6) (oi:=⟨some 5,_,_,_,_,_⟩) (v:=_) rfl (by kernel_rfl) (fun _ _ _ h=>h) (X.out.c3 (i:=2) rfl) (Or.inl ⟨by rfl,by intro w hSw;(try dsimp only at hSw);(first | (go_simp;done) | (go_simp;with_reducible rfl))⟩) ?_
  try simp only [Act.put,seti,set0,setS]
  refine tk (i:=7) (oi:=⟨some 6,_,_,_,_,_⟩) (v:=_) rfl (by kernel_rfl) (fun _ _ _ h=>h) (X.out.c3 (i:=2) rfl) (Or.inl ⟨by rfl,by intro w hSw;(try dsimp only at hSw);(first | (go_simp;done) | (go_simp;with_reducible rfl))⟩) ?_
  try simp only [Act.put,seti,set0,setS]
  refine wpLate_done (by kernel_rfl) ?_ _
  go_wp2_with fail
  go_meet
  exact ⟨_,_,_,_,_,_,rfl,rfl,TG1.out,TG2.out,X.out⟩
 obtain ⟨A5,n5,c5,A6,n6,c6,rfl,rfl,hT5,hT6,hX⟩:=hcut
 have X:=Lib.hid hX
 have TG5:=Lib.hid hT5
 have TG6:=Lib.hid hT6
 clear hX hT5 hT6
 go_upto_region 3 with fail
 refine wp_region_late (S:=fun w'=>(w'.cell? ⟨gF,0,none⟩=some (.bool false)∧w'.cell? ⟨gF,1,none⟩=some (.slice A1 n1 c1)∧w'.cell? ⟨gF,2,none⟩=some (.slice B1 n2 c2))) (L:=[]) (by kernel_rfl) ?_
 have X:=Lib.hid X.out.drew
 have TG5:=Lib.hid TG5.out.drew
 have TG6:=Lib.hid TG6.out.drew
 obtain ⟨V0,hV⟩:=wexi X.out
 rw [←hV] at X TG5 TG6 ⊢
 clear hV
 refine tk (i:=0) (oi:=⟨some 15,_,_,_,_,_⟩) (v:=_) rfl (by kernel_rfl) (fun _ _ _ h=>h) (X.out.c3 (i:=2) rfl) (Or.inl ⟨by rfl,by intro w hSw;(try dsimp only at hSw);(first | (go_simp;done) | (go_simp;with_reducible rfl))⟩) ?_
 try simp only [Act.put,seti,set0,setS]
 refine tk (i:=1) (oi:=⟨some 16,_,_,_,_,_⟩) (v:=_) rfl (by kernel_rfl) (fun _ _ _ h=>h) (X.out.c3 (i:=2) rfl) (Or.inl ⟨by rfl,by intro w hSw;(try dsimp only at hSw);(first | (go_simp;done) | (go_simp;with_reducible rfl))⟩) ?_
 try simp only [Act.put,seti,set0,setS]
 refine tk (i:=2) (oi:=⟨some 17,_,_,_,_,_⟩) (v:=_) rfl (by kernel_rfl) (fun _ _ _ h=>h) (X.out.c3 (i:=2) rfl) (Or.inl ⟨by rfl,by intro w hSw;(try dsimp only at hSw);(first | (go_simp;done) | (go_simp;with_reducible rfl))⟩) ?_
 try simp only [Act.put,seti,set0,setS]
 refine tk (i:=3) (oi:=⟨some 18,_,_,_,_,_⟩) (v:=_) rfl (by kernel_rfl) (fun _ _ _ h=>h) (X.out.c3 (i:=2) rfl) (Or.inl ⟨by rfl,by intro w hSw;(try dsimp only at hSw);(first | (go_simp;done) | (go_simp;with_reducible rfl))⟩) ?_
 try simp only [Act.put,seti,set0,setS]
 refine tk (i:=4) (oi:=⟨some 19,_,_,_,_,_⟩) (v:=_) rfl (by kernel_rfl) (fun _ _ _ h=>h) (X.out.c3 (i:=2) rfl) (Or.inl ⟨by rfl,by intro w hSw;(try dsimp only at hSw);(first | (go_simp;done) | (go_simp;with_reducible rfl))⟩) ?_
 try simp only [Act.put,seti,set0,setS]
 refine tk (i:=6) (oi:=⟨some 21,_,_,_,_,_⟩) (v:=_) rfl (by kernel_rfl) (fun _ _ _ h=>h) (X.out.c3 (i:=2) rfl) (Or.inl ⟨by rfl,by intro w hSw;(try dsimp only at hSw);(first | (go_simp;done) | (go_simp;with_reducible rfl))⟩) ?_
 try simp only [Act.put,seti,set0,setS]
 refine tk (i:=7) (oi:=⟨some 22,_,_,_,_,_⟩) (v:=_) rfl (by kernel_rfl) (fun _ _ _ h=>h) (X.out.c3 (i:=2) rfl) (Or.inl ⟨by rfl,by intro w hSw;(try dsimp only at hSw);(first | (go_simp;done) | (go_simp;with_reducible rfl))⟩) ?_
 try simp only [Act.put,seti,set0,setS]
 refine wpLate_one (i:=5) (o:=⟨some 20,_,_,_,_,_⟩) (by kernel_rfl) rfl (fun K hK=>?_)
 go_simp
 (go_at_call 90;refine (HTN.out _ _ _ _ TG5.out).mono ?_;rintro e u1 ⟨A1,n1,c1,rfl,ht9,hb9,hf9⟩;have TG5:=Lib.hid (TG5.out.below hb9);have TG6:=Lib.hid (TG6.out.below hb9);have X:=Lib.hid (X.out.row hb9 ht9 hf9);clear hb9 ht9 hf9)
 try go_wp2_with fail
 refine hK.out _ _ (Or.inr (fun _=>X.out.c3 (i:=2) rfl)) ?_
 clear hK K
 try simp only [Act.put,seti,set0,setS]
 refine wpLate_one (i:=8) (o:=⟨some 23,_,_,_,_,_⟩) (by kernel_rfl) rfl (fun K hK=>?_)
 go_simp
 (go_at_call 93;refine (HCN.out _ _ _ _ _ _ _ (X.out.rw (i:=2) rfl) (X.out.rw (i:=0) rfl)).mono ?_;rintro e u2 ⟨rfl,hb9⟩;have TG5:=Lib.hid (TG5.out.below hb9);have TG6:=Lib.hid (TG6.out.below hb9);have X:=Lib.hid (X.out.next hb9);clear hb9)
 try go_wp2_with fail
 refine hK.out _ _ (Or.inr (fun _=>X.out.c3 (i:=2) rfl)) ?_
 clear hK K
 try simp only [Act.put,seti,set0,setS]
 refine tk (i:=9) (oi:=⟨some 24,_,_,_,_,_⟩) (v:=_) rfl (by kernel_rfl) (fun _ _ _ h=>h) (X.out.c3 (i:=2) rfl) (Or.inl ⟨by rfl,by intro w hSw;(try dsimp only at hSw);(first | (go_simp;done) | (go_simp;with_reducible rfl))⟩) ?_
 try simp only [Act.put,seti,set0,setS]
 refine tk (i:=10) (oi:=⟨some 25,_,_,_,_,_⟩) (v:=_) rfl (by kernel_rfl) (fun _ _ _ h=>h) (X.out.c3 (i:=2) rfl) (Or.inl ⟨by rfl,by intro w hSw;(try dsimp only at hSw);(first | (go_simp;done) | (go_simp;with_reducible rfl))⟩) ?_
 try simp only [Act.put,seti,set0,setS]
 refine tk (i:=11) (oi:=⟨some 26,_,_,_,_,_⟩) (v:=_) rfl (by kernel_rfl) (fun _ _ _ h=>h) (X.out.c3 (i:=2) rfl) (Or.inl ⟨by rfl,by intro w hSw;(try dsimp only at hSw);(first | (go_simp;done) | (go_simp;with_reducible rfl))⟩) ?_
 try simp only [Act.put,seti,set0,setS]
 refine tk (i:=12) (oi:=⟨some 27,_,_,_,_,_⟩) (v:=undef) rfl (by kernel_rfl) (fun _ _ _ h=>h) (X.out.c3 (i:=2) rfl) (Or.inr ⟨by rfl,rfl⟩) ?_
 try simp only [Act.put,seti,set0,setS]
 refine tk (i:=13) (oi:=⟨some 28,_,_,_,_,_⟩) (v:=undef) rfl (by kernel_rfl) (fun _ _ _ h=>h) (X.out.c3 (i:=2) rfl) (Or.inr ⟨by rfl,rfl⟩) ?_
 try simp only [Act.put,seti,set0,setS]
 refine tk (i:=14) (oi:=⟨some 29,_,_,_,_,_⟩) (v:=undef) rfl (by kernel_rfl) (fun _ _ _ h=>h) (X.out.c3 (i:=2) rfl) (Or.inr ⟨by rfl,rfl⟩) ?_
 try simp only [Act.put,seti,set0,setS]
 refine tk (i:=15) (oi:=⟨some 30,_,_,_,_,_⟩) (v:=undef) rfl (by kernel_rfl) (fun _ _ _ h=>h) (X.out.c3 (i:=2) rfl) (Or.inr ⟨by rfl,rfl⟩) ?_
 try simp only [Act.put,seti,set0,setS]
 refine tk (i:=16) (oi:=⟨some 31,_,_,_,_,_⟩) (v:=undef) rfl (by kernel_rfl) (fun _ _ _ h=>h) (X.out.c3 (i:=2) rfl) (Or.inr ⟨by rfl,rfl⟩) ?_
 try simp only [Act.put,seti,set0,setS]
 refine tk (i:=17) (oi:=⟨some 32,_,_,_,_,_⟩) (v:=undef) rfl (by kernel_rfl) (fun _ _ _ h=>h) (X.out.c3 (i:=2) rfl) (Or.inr ⟨by rfl,rfl⟩) ?_
 try simp only [Act.put,seti,set0,setS]
 refine tk (i:=18) (oi:=⟨some 33,_,_,_,_,_⟩) (v:=undef) rfl (by kernel_rfl) (fun _ _ _ h=>h) (X.out.c3 (i:=2) rfl) (Or.inr ⟨by rfl,rfl⟩) ?_
 try simp only [Act.put,seti,set0,setS]
 refine tk (i:=19) (oi:=⟨some 34,_,_,_,_,_⟩) (v:=_) rfl (by kernel_rfl) (fun _ _ _ h=>h) (X.out.c3 (i:=2) rfl) (Or.inl ⟨by rfl,by intro w hSw;(try dsimp only at hSw);(first | (go_simp;done) | (go_simp;with_reducible rfl))⟩) ?_
 try simp only [Act.put,seti,set0,setS]
 refine wpLate_done (by kernel_rfl) ?_ _
 obtain ⟨x0,x1,x2,x3⟩:=X.out.c4 (i:=1) rfl
 obtain ⟨y0,y1,y2,y3⟩:=X.out.f4 (i:=1) rfl
 go_wp2
 have X:=Lib.hid (X.out.set4 (i:=1) rfl (.bool false) (.string ⟨#[]⟩) (.bool false) (.string ⟨#[]⟩))
 obtain ⟨p0,p1,p2,p3⟩:=X.out.c4 (i:=1) rfl
 exact bodyPost_ret (v:=.tuple #[.agg #[.bool false,.string ⟨#[]⟩,.bool false,.string ⟨#[]⟩],.bool false]) (by simp [results,Tryz.results72,go_sem,p0,p1,p2,p3]) rfl ⟨rfl,X.out.bel⟩

set_option maxHeartbeats 8000000 in
set_option maxRecDepth 100000 in
theorem rRoot_no2 {p:Rat} {m k:ByteArray} (h:Rq p false m k) (h1:rt p.num.natAbs*rt p.num.natAbs=p.num.natAbs) (h2:rt p.den*rt p.den≠p.den) (s1:m.size≤9000) (s2:(mag p.den).size≤9000) (w:World) :
  Calls Tryz.prog 72 #[.agg #[.bool false,.string m,.bool false,.string k]] w (RetB w (.tuple #[.agg #[.bool false,.string ⟨#[]⟩,.bool false,.string ⟨#[]⟩],.bool false])):=by
 have hk:k.size≤9000:=by
  by_cases hd:p.den=1
  · rw [h.den1 hd];exact Nat.zero_le _
  · rw [h.den2 hd];exact s2
 have HF:=Lib.hid (fun V=>rof2 h (by omega) (by omega) V)
 have n0:nd p.num.natAbs≤9000:=by unfold nd;rw [←h.mag.2];exact s1
 have n1':nd p.den≤9000:=s2
 have hd0:=p.den_pos
 generalize p.num.natAbs=NN at *
 generalize p.den=DD at *
 have r0:nd (rt NN)≤9000:=Nat.le_trans (nd_mono (rt_self NN)) n0
 have r1:nd (rt DD)≤9000:=Nat.le_trans (nd_mono (rt_self DD)) n1'
 have rp:=rt_pos hd0
 have q0:=nd_mul (rt NN) (rt NN)
 have q1:=nd_mul (rt DD) (rt DD)
 have HRN:=Lib.hid (fun (A:Option Addr) (n c:Nat) (V:World) (ht:Tr V A n c NN)=>rroot A n c NN V (by have:=ht.ln;omega) ht)
 have HRD:=Lib.hid (fun (A:Option Addr) (n c:Nat) (V:World) (ht:Tr V A n c DD)=>rroot A n c DD V (by have:=ht.ln;omega) ht)
 have HTN:=Lib.hid (fun (A:Option Addr) (n c:Nat) (V:World) (ht:Tr V A n c (rt NN))=>rtimes A A n n c c (rt NN) (rt NN) V (by have:=ht.ln;omega) (by have:=ht.ln;omega) ht.dg ht.dg)
 have HCN:=Lib.hid (fun (A B:Option Addr) (n m c d:Nat) (V:World) (ht:Tr V A n c (rt NN*rt NN)) (hu:Tr V B m d NN)=>rcmp_eq A B n m c d V (by have:=ht.ln;omega) (by have:=hu.ln;omega) h1 ht hu)
 have HTD:=Lib.hid (fun (A:Option Addr) (n c:Nat) (V:World) (ht:Tr V A n c (rt DD))=>rtimes A A n n c c (rt DD) (rt DD) V (by have:=ht.ln;omega) (by have:=ht.ln;omega) ht.dg ht.dg)
 have HCD:=Lib.hid (fun (A B:Option Addr) (n m c d:Nat) (V:World) (ht:Tr V A n c (rt DD*rt DD)) (hu:Tr V B m d DD)=>rcmp_lt A B n m c d V (by have:=ht.ln;omega) (by have:=hu.ln;omega) (Nat.lt_of_le_of_ne (rt_spec DD).1 h2) ht hu)
 clear n0 n1' hd0 r0 r1 rp q0 q1 hk s1 s2 h h1 h2
 generalize rt NN=RN at *
 generalize rt DD=RD at *
 have X:=Lib.hid (((Sb.start w).new #[.bool false,.string m,.bool false,.string k] 25).new #[.bool false,.string ⟨#[]⟩,.bool false,.string ⟨#[]⟩] 25)
 have X:=Lib.hid (X.out.pick [0,1] [(w.heap.size,#[.bool false,.string m,.bool false,.string k],25),(w.heap.size+1,#[.bool false,.string ⟨#[]⟩,.bool false,.string ⟨#[]⟩],25)] [] (by simp) (by decide) (by simp))
 go_enter Tryz.func72,Tryz.ntmps72
 obtain ⟨a0,a1,a2,a3⟩:=X.out.c4 (i:=0) rfl
 go_wp2_with fail
 refine (HF.out _).mono ?_
 rintro e u1 ⟨A1,n1,c1,B1,n2,c2,rfl,ht9,hu9,hb9,hf9,hg9⟩
 have X:=Lib.hid (X.out.row2 hb9 ht9 hu9 hf9 hg9)
 clear hb9 ht9 hu9 hf9 hg9 a0 a1 a2 a3
 go_upto_region 2 with fail
 have X:=Lib.hid (X.out.new #[.bool false,.slice A1 n1 c1,.slice B1 n2 c2] 121)
 obtain ⟨gF,hgF⟩:∃ g,g=u1.heap.size:=⟨_,rfl⟩
 rw [←hgF] at X ⊢
 obtain ⟨W1,hV⟩:=wexi X.out
 rw [←hV] at X ⊢
 clear hV
 clear hgF
 go_cut [5,6] (fun s5 s6 wx=>∃ A5 n5 c5 A6 n6 c6,s5=.slice A5 n5 c5∧s6=.slice A6 n6 c6∧Tr wx A5 n5 c5 RN∧Tr wx A6 n6 c6 RD∧Sb w [(w.heap.size,#[.bool false,.string m,.bool false,.string k],25),(w.heap.size+1,#[.bool false,.string ⟨#[]⟩,.bool false,.string ⟨#[]⟩],25),(gF,#[.bool false,.slice A1 n1 c1,.slice B1 n2 c2],121)] [(A1,n1,c1,NN),(B1,n2,c2,DD)] wx)
 case first =>
  refine wp_region_late (S:=fun w'=>(w'.cell? ⟨gF,0,none⟩=some (.bool false)∧w'.cell? ⟨gF,1,none⟩=some (.slice A1 n1 c1)∧w'.cell? ⟨gF,2,none⟩=some (.slice B1 n2 c2))) (L:=[]) (by kernel_rfl) ?_
  have X:=Lib.hid X.out.drew
  obtain ⟨V0,hV⟩:=wexi X.out
  rw [←hV] at X ⊢
  clear hV
  refine tk (i:=0) (oi:=⟨some 9,_,_,_,_,_⟩) (v:=_) rfl (by kernel_rfl) (fun _ _ _ h=>h) (X.out.c3 (i:=2) rfl) (Or.inl ⟨by rfl,by intro w hSw;(try dsimp only at hSw);(first | (go_simp;done) | (go_simp;with_reducible rfl))⟩) ?_
  try simp only [Act.put,seti,set0,setS]
  refine tk (i:=1) (oi:=⟨some 10,_,_,_,_,_⟩) (v:=_) rfl (by kernel_rfl) (fun _ _ _ h=>h) (X.out.c3 (i:=2) rfl) (Or.inl ⟨by rfl,by intro w hSw;(try dsimp only at hSw);(first | (go_simp;done) | (go_simp;with_reducible rfl))⟩) ?_
  try simp only [Act.put,seti,set0,setS]
  refine tk (i:=3) (oi:=⟨some 12,_,_,_,_,_⟩) (v:=_) rfl (by kernel_rfl) (fun _ _ _ h=>h) (X.out.c3 (i:=2) rfl) (Or.inl ⟨by rfl,by intro w hSw;(try dsimp only at hSw);(first | (go_simp;done) | (go_simp;with_reducible rfl))⟩) ?_
  try simp only [Act.put,seti,set0,setS]
  refine tk (i:=4) (oi:=⟨some 13,_,_,_,_,_⟩) (v:=_) rfl (by kernel_rfl) (fun _ _ _ h=>h) (X.out.c3 (i:=2) rfl) (Or.inl ⟨by rfl,by intro w hSw;(try dsimp only at hSw);(first | (go_simp;done) | (go_simp;with_reducible rfl))⟩) ?_
  try simp only [Act.put,seti,set0,setS]
  refine wpLate_one (i:=2) (o:=⟨some 11,_,_,_,_,_⟩) (by kernel_rfl) rfl (fun K hK=>?_)
  go_simp
  (go_at_call 118;refine (HRN.out _ _ _ _ (X.out.rw (i:=0) rfl)).mono ?_;rintro e u1 ⟨A1,n1,c1,rfl,ht9,hb9⟩;have TG1:=Lib.hid ht9;have X:=Lib.hid (X.out.next hb9);clear hb9 ht9)
  try go_wp2_with fail
  refine hK.out _ _ (Or.inr (fun _=>X.out.c3 (i:=2) rfl)) ?_
  clear hK K
  try simp only [Act.put,seti,set0,setS]
  refine wpLate_one (i:=5) (o:=⟨some 14,_,_,_,_,_⟩) (by kernel_rfl) rfl (fun K hK=>?_)
  go_simp
  (go_at_call 118;refine (HRD.out _ _ _ _ (X.out.rw (i:=1) rfl)).mono ?_;rintro e u2 ⟨A2,n2,c2,rfl,ht9,hb9⟩;have TG1:=Lib.hid (TG1.out.below hb9);have TG2:=Lib.hid ht9;have X:=Lib.hid (X.out.next hb9);clear hb9 ht9)
  try go_wp2_with fail
  refine hK.out _ _ (Or.inr (fun _=>X.out.c3 (i:=2) rfl)) ?_
  clear hK K
  try simp only [Act.put,seti,set0,setS]
  refine tk (i:=6) (oi:=⟨some 5,_,_,_,_,_⟩) (v:=_) rfl (by kernel_rfl) (fun _ _ _ h=>h) (X.out.c3 (i:=2) rfl) (Or.inl ⟨by rfl,by intro w hSw;(try dsimp only at hSw);(first | (go_simp;done) | (go_simp;with_reducible rfl))⟩) ?_
  try simp only [Act.put,seti,set0,setS]
  refine tk (i:=7) (oi:=⟨some 6,_,_,_,_,_⟩) (v:=_) rfl (by kernel_rfl) (fun _ _ _ h=>h) (X.out.c3 (i:=2) rfl) (Or.inl ⟨by rfl,by intro w hSw;(try dsimp only at hSw);(first | (go_simp;done) | (go_simp;with_reducible rfl))⟩) ?_
  try simp only [Act.put,seti,set0,setS]
  refine wpLate_done (by kernel_rfl) ?_ _
  go_wp2_with fail
  go_meet
  exact ⟨_,_,_,_,_,_,rfl,rfl,TG1.out,TG2.out,X.out⟩
 obtain ⟨A5,n5,c5,A6,n6,c6,rfl,rfl,hT5,hT6,hX⟩:=hcut
 have X:=Lib.hid hX
 have TG5:=Lib.hid hT5
 have TG6:=Lib.hid hT6
 clear hX hT5 hT6
 go_upto_region 3 with fail
 refine wp_region_late (S:=fun w'=>(w'.cell? ⟨gF,0,none⟩=some (.bool false)∧w'.cell? ⟨gF,1,none⟩=some (.slice A1 n1 c1)∧w'.cell? ⟨gF,2,none⟩=some (.slice B1 n2 c2))) (L:=[]) (by kernel_rfl) ?_
 have X:=Lib.hid X.out.drew
 have TG5:=Lib.hid TG5.out.drew
 have TG6:=Lib.hid TG6.out.drew
 obtain ⟨V0,hV⟩:=wexi X.out
 rw [←hV] at X TG5 TG6 ⊢
 clear hV
 refine tk (i:=0) (oi:=⟨some 15,_,_,_,_,_⟩) (v:=_) rfl (by kernel_rfl) (fun _ _ _ h=>h) (X.out.c3 (i:=2) rfl) (Or.inl ⟨by rfl,by intro w hSw;(try dsimp only at hSw);(first | (go_simp;done) | (go_simp;with_reducible rfl))⟩) ?_
 try simp only [Act.put,seti,set0,setS]
 refine tk (i:=1) (oi:=⟨some 16,_,_,_,_,_⟩) (v:=_) rfl (by kernel_rfl) (fun _ _ _ h=>h) (X.out.c3 (i:=2) rfl) (Or.inl ⟨by rfl,by intro w hSw;(try dsimp only at hSw);(first | (go_simp;done) | (go_simp;with_reducible rfl))⟩) ?_
 try simp only [Act.put,seti,set0,setS]
 refine tk (i:=2) (oi:=⟨some 17,_,_,_,_,_⟩) (v:=_) rfl (by kernel_rfl) (fun _ _ _ h=>h) (X.out.c3 (i:=2) rfl) (Or.inl ⟨by rfl,by intro w hSw;(try dsimp only at hSw);(first | (go_simp;done) | (go_simp;with_reducible rfl))⟩) ?_
 try simp only [Act.put,seti,set0,setS]
 refine tk (i:=3) (oi:=⟨some 18,_,_,_,_,_⟩) (v:=_) rfl (by kernel_rfl) (fun _ _ _ h=>h) (X.out.c3 (i:=2) rfl) (Or.inl ⟨by rfl,by intro w hSw;(try dsimp only at hSw);(first | (go_simp;done) | (go_simp;with_reducible rfl))⟩) ?_
 try simp only [Act.put,seti,set0,setS]
 refine tk (i:=4) (oi:=⟨some 19,_,_,_,_,_⟩) (v:=_) rfl (by kernel_rfl) (fun _ _ _ h=>h) (X.out.c3 (i:=2) rfl) (Or.inl ⟨by rfl,by intro w hSw;(try dsimp only at hSw);(first | (go_simp;done) | (go_simp;with_reducible rfl))⟩) ?_
 try simp only [Act.put,seti,set0,setS]
 refine tk (i:=6) (oi:=⟨some 21,_,_,_,_,_⟩) (v:=_) rfl (by kernel_rfl) (fun _ _ _ h=>h) (X.out.c3 (i:=2) rfl) (Or.inl ⟨by rfl,by intro w hSw;(try dsimp only at hSw);(first | (go_simp;done) | (go_simp;with_reducible rfl))⟩) ?_
 try simp only [Act.put,seti,set0,setS]
 refine tk (i:=7) (oi:=⟨some 22,_,_,_,_,_⟩) (v:=_) rfl (by kernel_rfl) (fun _ _ _ h=>h) (X.out.c3 (i:=2) rfl) (Or.inl ⟨by rfl,by intro w hSw;(try dsimp only at hSw);(first | (go_simp;done) | (go_simp;with_reducible rfl))⟩) ?_
 try simp only [Act.put,seti,set0,setS]
 refine wpLate_one (i:=5) (o:=⟨some 20,_,_,_,_,_⟩) (by kernel_rfl) rfl (fun K hK=>?_)
 go_simp
 (go_at_call 90;refine (HTN.out _ _ _ _ TG5.out).mono ?_;rintro e u1 ⟨A1,n1,c1,rfl,ht9,hb9,hf9⟩;have TG5:=Lib.hid (TG5.out.below hb9);have TG6:=Lib.hid (TG6.out.below hb9);have X:=Lib.hid (X.out.row hb9 ht9 hf9);clear hb9 ht9 hf9)
 try go_wp2_with fail
 refine hK.out _ _ (Or.inr (fun _=>X.out.c3 (i:=2) rfl)) ?_
 clear hK K
 try simp only [Act.put,seti,set0,setS]
 refine wpLate_one (i:=8) (o:=⟨some 23,_,_,_,_,_⟩) (by kernel_rfl) rfl (fun K hK=>?_)
 go_simp
 (go_at_call 93;refine (HCN.out _ _ _ _ _ _ _ (X.out.rw (i:=2) rfl) (X.out.rw (i:=0) rfl)).mono ?_;rintro e u2 ⟨rfl,hb9⟩;have TG5:=Lib.hid (TG5.out.below hb9);have TG6:=Lib.hid (TG6.out.below hb9);have X:=Lib.hid (X.out.next hb9);clear hb9)
 try go_wp2_with fail
 refine hK.out _ _ (Or.inr (fun _=>X.out.c3 (i:=2) rfl)) ?_
 clear hK K
 try simp only [Act.put,seti,set0,setS]
 refine tk (i:=9) (oi:=⟨some 24,_,_,_,_,_⟩) (v:=_) rfl (by kernel_rfl) (fun _ _ _ h=>h) (X.out.c3 (i:=2) rfl) (Or.inl ⟨by rfl,by intro w hSw;(try dsimp only at hSw);(first | (go_simp;done) | (go_simp;with_reducible rfl))⟩) ?_
 try simp only [Act.put,seti,set0,setS]
 refine tk (i:=10) (oi:=⟨some 25,_,_,_,_,_⟩) (v:=_) rfl (by kernel_rfl) (fun _ _ _ h=>h) (X.out.c3 (i:=2) rfl) (Or.inl ⟨by rfl,by intro w hSw;(try dsimp only at hSw);(first | (go_simp;done) | (go_simp;with_reducible rfl))⟩) ?_
 try simp only [Act.put,seti,set0,setS]
 refine tk (i:=11) (oi:=⟨some 26,_,_,_,_,_⟩) (v:=_) rfl (by kernel_rfl) (fun _ _ _ h=>h) (X.out.c3 (i:=2) rfl) (Or.inl ⟨by rfl,by intro w hSw;(try dsimp only at hSw);(first | (go_simp;done) | (go_simp;with_reducible rfl))⟩) ?_
 try simp only [Act.put,seti,set0,setS]
 refine tk (i:=12) (oi:=⟨some 27,_,_,_,_,_⟩) (v:=_) rfl (by kernel_rfl) (fun _ _ _ h=>h) (X.out.c3 (i:=2) rfl) (Or.inl ⟨by rfl,by intro w hSw;(try dsimp only at hSw);(first | (go_simp;done) | (go_simp;with_reducible rfl))⟩) ?_
 try simp only [Act.put,seti,set0,setS]
 refine tk (i:=13) (oi:=⟨some 28,_,_,_,_,_⟩) (v:=_) rfl (by kernel_rfl) (fun _ _ _ h=>h) (X.out.c3 (i:=2) rfl) (Or.inl ⟨by rfl,by intro w hSw;(try dsimp only at hSw);(first | (go_simp;done) | (go_simp;with_reducible rfl))⟩) ?_
 try simp only [Act.put,seti,set0,setS]
 refine tk (i:=15) (oi:=⟨some 30,_,_,_,_,_⟩) (v:=_) rfl (by kernel_rfl) (fun _ _ _ h=>h) (X.out.c3 (i:=2) rfl) (Or.inl ⟨by rfl,by intro w hSw;(try dsimp only at hSw);(first | (go_simp;done) | (go_simp;with_reducible rfl))⟩) ?_
 try simp only [Act.put,seti,set0,setS]
 refine tk (i:=16) (oi:=⟨some 31,_,_,_,_,_⟩) (v:=_) rfl (by kernel_rfl) (fun _ _ _ h=>h) (X.out.c3 (i:=2) rfl) (Or.inl ⟨by rfl,by intro w hSw;(try dsimp only at hSw);(first | (go_simp;done) | (go_simp;with_reducible rfl))⟩) ?_
 try simp only [Act.put,seti,set0,setS]
 refine wpLate_one (i:=14) (o:=⟨some 29,_,_,_,_,_⟩) (by kernel_rfl) rfl (fun K hK=>?_)
 go_simp
 (go_at_call 90;refine (HTD.out _ _ _ _ TG6.out).mono ?_;rintro e u3 ⟨A3,n3,c3,rfl,ht9,hb9,hf9⟩;have TG5:=Lib.hid (TG5.out.below hb9);have TG6:=Lib.hid (TG6.out.below hb9);have X:=Lib.hid (X.out.row hb9 ht9 hf9);clear hb9 ht9 hf9)
 try go_wp2_with fail
 refine hK.out _ _ (Or.inr (fun _=>X.out.c3 (i:=2) rfl)) ?_
 clear hK K
 try simp only [Act.put,seti,set0,setS]
 refine wpLate_one (i:=17) (o:=⟨some 32,_,_,_,_,_⟩) (by kernel_rfl) rfl (fun K hK=>?_)
 go_simp
 (go_at_call 93;refine (HCD.out _ _ _ _ _ _ _ (X.out.rw (i:=3) rfl) (X.out.rw (i:=1) rfl)).mono ?_;rintro e u4 ⟨rfl,hb9⟩;have TG5:=Lib.hid (TG5.out.below hb9);have TG6:=Lib.hid (TG6.out.below hb9);have X:=Lib.hid (X.out.next hb9);clear hb9)
 try go_wp2_with fail
 refine hK.out _ _ (Or.inr (fun _=>X.out.c3 (i:=2) rfl)) ?_
 clear hK K
 try simp only [Act.put,seti,set0,setS]
 refine tk (i:=18) (oi:=⟨some 33,_,_,_,_,_⟩) (v:=_) rfl (by kernel_rfl) (fun _ _ _ h=>h) (X.out.c3 (i:=2) rfl) (Or.inl ⟨by rfl,by intro w hSw;(try dsimp only at hSw);(first | (go_simp;done) | (go_simp;with_reducible rfl))⟩) ?_
 try simp only [Act.put,seti,set0,setS]
 refine tk (i:=19) (oi:=⟨some 34,_,_,_,_,_⟩) (v:=_) rfl (by kernel_rfl) (fun _ _ _ h=>h) (X.out.c3 (i:=2) rfl) (Or.inl ⟨by rfl,by intro w hSw;(try dsimp only at hSw);(first | (go_simp;done) | (go_simp;with_reducible rfl))⟩) ?_
 try simp only [Act.put,seti,set0,setS]
 refine wpLate_done (by kernel_rfl) ?_ _
 obtain ⟨x0,x1,x2,x3⟩:=X.out.c4 (i:=1) rfl
 obtain ⟨y0,y1,y2,y3⟩:=X.out.f4 (i:=1) rfl
 go_wp2
 have X:=Lib.hid (X.out.set4 (i:=1) rfl (.bool false) (.string ⟨#[]⟩) (.bool false) (.string ⟨#[]⟩))
 obtain ⟨p0,p1,p2,p3⟩:=X.out.c4 (i:=1) rfl
 exact bodyPost_ret (v:=.tuple #[.agg #[.bool false,.string ⟨#[]⟩,.bool false,.string ⟨#[]⟩],.bool false]) (by simp [results,Tryz.results72,go_sem,p0,p1,p2,p3]) rfl ⟨rfl,X.out.bel⟩

set_option maxHeartbeats 8000000 in
set_option maxRecDepth 100000 in
theorem rRoot_yes {p:Rat} {m k:ByteArray} (h:Rq p false m k) (h1:rt p.num.natAbs*rt p.num.natAbs=p.num.natAbs) (h2:rt p.den*rt p.den=p.den) {mR kR:ByteArray} (hr:Rq (mkRat (sgn false (rt p.num.natAbs)) (rt p.den)) false mR kR) (s1:m.size≤9000) (s2:(mag p.den).size≤9000) (w:World) :
  Calls Tryz.prog 72 #[.agg #[.bool false,.string m,.bool false,.string k]] w (RetB w (.tuple #[.agg #[.bool false,.string mR,.bool false,.string kR],.bool true])):=by
 have hk:k.size≤9000:=by
  by_cases hd:p.den=1
  · rw [h.den1 hd];exact Nat.zero_le _
  · rw [h.den2 hd];exact s2
 have HF:=Lib.hid (fun V=>rof2 h (by omega) (by omega) V)
 have n0:nd p.num.natAbs≤9000:=by unfold nd;rw [←h.mag.2];exact s1
 have n1':nd p.den≤9000:=s2
 have hd0:=p.den_pos
 generalize p.num.natAbs=NN at *
 generalize p.den=DD at *
 have r0:nd (rt NN)≤9000:=Nat.le_trans (nd_mono (rt_self NN)) n0
 have r1:nd (rt DD)≤9000:=Nat.le_trans (nd_mono (rt_self DD)) n1'
 have rp:=rt_pos hd0
 have q0:=nd_mul (rt NN) (rt NN)
 have q1:=nd_mul (rt DD) (rt DD)
 have HRN:=Lib.hid (fun (A:Option Addr) (n c:Nat) (V:World) (ht:Tr V A n c NN)=>rroot A n c NN V (by have:=ht.ln;omega) ht)
 have HRD:=Lib.hid (fun (A:Option Addr) (n c:Nat) (V:World) (ht:Tr V A n c DD)=>rroot A n c DD V (by have:=ht.ln;omega) ht)
 have HTN:=Lib.hid (fun (A:Option Addr) (n c:Nat) (V:World) (ht:Tr V A n c (rt NN))=>rtimes A A n n c c (rt NN) (rt NN) V (by have:=ht.ln;omega) (by have:=ht.ln;omega) ht.dg ht.dg)
 have HCN:=Lib.hid (fun (A B:Option Addr) (n m c d:Nat) (V:World) (ht:Tr V A n c (rt NN*rt NN)) (hu:Tr V B m d NN)=>rcmp_eq A B n m c d V (by have:=ht.ln;omega) (by have:=hu.ln;omega) h1 ht hu)
 have HTD:=Lib.hid (fun (A:Option Addr) (n c:Nat) (V:World) (ht:Tr V A n c (rt DD))=>rtimes A A n n c c (rt DD) (rt DD) V (by have:=ht.ln;omega) (by have:=ht.ln;omega) ht.dg ht.dg)
 have HCD:=Lib.hid (fun (A B:Option Addr) (n m c d:Nat) (V:World) (ht:Tr V A n c (rt DD*rt DD)) (hu:Tr V B m d DD)=>rcmp_eq A B n m c d V (by have:=ht.ln;omega) (by have:=hu.ln;omega) h2 ht hu)
 have hca:∀ (A B:Option Addr) (n m c d:Nat) (V:World),Tr V A n c (rt NN)→Tr V B m d (rt DD)→Calls Tryz.prog 91 #[.agg #[.bool false,.slice A n c,.slice B m d]] V (RetB V (.agg #[.bool false,.string mR,.bool false,.string kR])):=by
  intro A B n m c d V hA hB
  refine (rcanonical false A B n m c d _ _ V (by have:=hA.ln;omega) (by have:=hB.ln;omega) hA hB rp).mono ?_
  rintro e w3 ⟨b4,m4,k4,rfl,hq4,hb3⟩
  obtain ⟨rfl,rfl,rfl⟩:=hr.inj hq4
  exact ⟨rfl,hb3⟩
 have HCA:=Lib.hid hca
 clear n0 n1' hd0 r0 r1 rp q0 q1 hk s1 s2 h h1 h2 hr hca
 generalize rt NN=RN at *
 generalize rt DD=RD at *
 have X:=Lib.hid (((Sb.start w).new #[.bool false,.string m,.bool false,.string k] 25).new #[.bool false,.string ⟨#[]⟩,.bool false,.string ⟨#[]⟩] 25)
 have X:=Lib.hid (X.out.pick [0,1] [(w.heap.size,#[.bool false,.string m,.bool false,.string k],25),(w.heap.size+1,#[.bool false,.string ⟨#[]⟩,.bool false,.string ⟨#[]⟩],25)] [] (by simp) (by decide) (by simp))
 go_enter Tryz.func72,Tryz.ntmps72
 obtain ⟨a0,a1,a2,a3⟩:=X.out.c4 (i:=0) rfl
 go_wp2_with fail
 refine (HF.out _).mono ?_
 rintro e u1 ⟨A1,n1,c1,B1,n2,c2,rfl,ht9,hu9,hb9,hf9,hg9⟩
 have X:=Lib.hid (X.out.row2 hb9 ht9 hu9 hf9 hg9)
 clear hb9 ht9 hu9 hf9 hg9 a0 a1 a2 a3
 go_upto_region 2 with fail
 have X:=Lib.hid (X.out.new #[.bool false,.slice A1 n1 c1,.slice B1 n2 c2] 121)
 obtain ⟨gF,hgF⟩:∃ g,g=u1.heap.size:=⟨_,rfl⟩
 rw [←hgF] at X ⊢
 obtain ⟨W1,hV⟩:=wexi X.out
 rw [←hV] at X ⊢
 clear hV
 clear hgF
 go_cut [5,6] (fun s5 s6 wx=>∃ A5 n5 c5 A6 n6 c6,s5=.slice A5 n5 c5∧s6=.slice A6 n6 c6∧Tr wx A5 n5 c5 RN∧Tr wx A6 n6 c6 RD∧Sb w [(w.heap.size,#[.bool false,.string m,.bool false,.string k],25),(w.heap.size+1,#[.bool false,.string ⟨#[]⟩,.bool false,.string ⟨#[]⟩],25),(gF,#[.bool false,.slice A1 n1 c1,.slice B1 n2 c2],121)] [(A1,n1,c1,NN),(B1,n2,c2,DD)] wx)
 case first =>
  refine wp_region_late (S:=fun w'=>(w'.cell? ⟨gF,0,none⟩=some (.bool false)∧w'.cell? ⟨gF,1,none⟩=some (.slice A1 n1 c1)∧w'.cell? ⟨gF,2,none⟩=some (.slice B1 n2 c2))) (L:=[]) (by kernel_rfl) ?_
  have X:=Lib.hid X.out.drew
  obtain ⟨V0,hV⟩:=wexi X.out
  rw [←hV] at X ⊢
  clear hV
  refine tk (i:=0) (oi:=⟨some 9,_,_,_,_,_⟩) (v:=_) rfl (by kernel_rfl) (fun _ _ _ h=>h) (X.out.c3 (i:=2) rfl) (Or.inl ⟨by rfl,by intro w hSw;(try dsimp only at hSw);(first | (go_simp;done) | (go_simp;with_reducible rfl))⟩) ?_
  try simp only [Act.put,seti,set0,setS]
  refine tk (i:=1) (oi:=⟨some 10,_,_,_,_,_⟩) (v:=_) rfl (by kernel_rfl) (fun _ _ _ h=>h) (X.out.c3 (i:=2) rfl) (Or.inl ⟨by rfl,by intro w hSw;(try dsimp only at hSw);(first | (go_simp;done) | (go_simp;with_reducible rfl))⟩) ?_
  try simp only [Act.put,seti,set0,setS]
  refine tk (i:=3) (oi:=⟨some 12,_,_,_,_,_⟩) (v:=_) rfl (by kernel_rfl) (fun _ _ _ h=>h) (X.out.c3 (i:=2) rfl) (Or.inl ⟨by rfl,by intro w hSw;(try dsimp only at hSw);(first | (go_simp;done) | (go_simp;with_reducible rfl))⟩) ?_
  try simp only [Act.put,seti,set0,setS]
  refine tk (i:=4) (oi:=⟨some 13,_,_,_,_,_⟩) (v:=_) rfl (by kernel_rfl) (fun _ _ _ h=>h) (X.out.c3 (i:=2) rfl) (Or.inl ⟨by rfl,by intro w hSw;(try dsimp only at hSw);(first | (go_simp;done) | (go_simp;with_reducible rfl))⟩) ?_
  try simp only [Act.put,seti,set0,setS]
  refine wpLate_one (i:=2) (o:=⟨some 11,_,_,_,_,_⟩) (by kernel_rfl) rfl (fun K hK=>?_)
  go_simp
  (go_at_call 118;refine (HRN.out _ _ _ _ (X.out.rw (i:=0) rfl)).mono ?_;rintro e u1 ⟨A1,n1,c1,rfl,ht9,hb9⟩;have TG1:=Lib.hid ht9;have X:=Lib.hid (X.out.next hb9);clear hb9 ht9)
  try go_wp2_with fail
  refine hK.out _ _ (Or.inr (fun _=>X.out.c3 (i:=2) rfl)) ?_
  clear hK K
  try simp only [Act.put,seti,set0,setS]
  refine wpLate_one (i:=5) (o:=⟨some 14,_,_,_,_,_⟩) (by kernel_rfl) rfl (fun K hK=>?_)
  go_simp
  (go_at_call 118;refine (HRD.out _ _ _ _ (X.out.rw (i:=1) rfl)).mono ?_;rintro e u2 ⟨A2,n2,c2,rfl,ht9,hb9⟩;have TG1:=Lib.hid (TG1.out.below hb9);have TG2:=Lib.hid ht9;have X:=Lib.hid (X.out.next hb9);clear hb9 ht9)
  try go_wp2_with fail
  refine hK.out _ _ (Or.inr (fun _=>X.out.c3 (i:=2) rfl)) ?_
  clear hK K
  try simp only [Act.put,seti,set0,setS]
  refine tk (i:=6) (oi:=⟨some 5,_,_,_,_,_⟩) (v:=_) rfl (by kernel_rfl) (fun _ _ _ h=>h) (X.out.c3 (i:=2) rfl) (Or.inl ⟨by rfl,by intro w hSw;(try dsimp only at hSw);(first | (go_simp;done) | (go_simp;with_reducible rfl))⟩) ?_
  try simp only [Act.put,seti,set0,setS]
  refine tk (i:=7) (oi:=⟨some 6,_,_,_,_,_⟩) (v:=_) rfl (by kernel_rfl) (fun _ _ _ h=>h) (X.out.c3 (i:=2) rfl) (Or.inl ⟨by rfl,by intro w hSw;(try dsimp only at hSw);(first | (go_simp;done) | (go_simp;with_reducible rfl))⟩) ?_
  try simp only [Act.put,seti,set0,setS]
  refine wpLate_done (by kernel_rfl) ?_ _
  go_wp2_with fail
  go_meet
  exact ⟨_,_,_,_,_,_,rfl,rfl,TG1.out,TG2.out,X.out⟩
 obtain ⟨A5,n5,c5,A6,n6,c6,rfl,rfl,hT5,hT6,hX⟩:=hcut
 have X:=Lib.hid hX
 have TG5:=Lib.hid hT5
 have TG6:=Lib.hid hT6
 clear hX hT5 hT6
 go_upto_region 3 with fail
 refine wp_region_late (S:=fun w'=>(w'.cell? ⟨gF,0,none⟩=some (.bool false)∧w'.cell? ⟨gF,1,none⟩=some (.slice A1 n1 c1)∧w'.cell? ⟨gF,2,none⟩=some (.slice B1 n2 c2))) (L:=[]) (by kernel_rfl) ?_
 have X:=Lib.hid X.out.drew
 have TG5:=Lib.hid TG5.out.drew
 have TG6:=Lib.hid TG6.out.drew
 obtain ⟨V0,hV⟩:=wexi X.out
 rw [←hV] at X TG5 TG6 ⊢
 clear hV
 refine tk (i:=0) (oi:=⟨some 15,_,_,_,_,_⟩) (v:=_) rfl (by kernel_rfl) (fun _ _ _ h=>h) (X.out.c3 (i:=2) rfl) (Or.inl ⟨by rfl,by intro w hSw;(try dsimp only at hSw);(first | (go_simp;done) | (go_simp;with_reducible rfl))⟩) ?_
 try simp only [Act.put,seti,set0,setS]
 refine tk (i:=1) (oi:=⟨some 16,_,_,_,_,_⟩) (v:=_) rfl (by kernel_rfl) (fun _ _ _ h=>h) (X.out.c3 (i:=2) rfl) (Or.inl ⟨by rfl,by intro w hSw;(try dsimp only at hSw);(first | (go_simp;done) | (go_simp;with_reducible rfl))⟩) ?_
 try simp only [Act.put,seti,set0,setS]
 refine tk (i:=2) (oi:=⟨some 17,_,_,_,_,_⟩) (v:=_) rfl (by kernel_rfl) (fun _ _ _ h=>h) (X.out.c3 (i:=2) rfl) (Or.inl ⟨by rfl,by intro w hSw;(try dsimp only at hSw);(first | (go_simp;done) | (go_simp;with_reducible rfl))⟩) ?_
 try simp only [Act.put,seti,set0,setS]
 refine tk (i:=3) (oi:=⟨some 18,_,_,_,_,_⟩) (v:=_) rfl (by kernel_rfl) (fun _ _ _ h=>h) (X.out.c3 (i:=2) rfl) (Or.inl ⟨by rfl,by intro w hSw;(try dsimp only at hSw);(first | (go_simp;done) | (go_simp;with_reducible rfl))⟩) ?_
 try simp only [Act.put,seti,set0,setS]
 refine tk (i:=4) (oi:=⟨some 19,_,_,_,_,_⟩) (v:=_) rfl (by kernel_rfl) (fun _ _ _ h=>h) (X.out.c3 (i:=2) rfl) (Or.inl ⟨by rfl,by intro w hSw;(try dsimp only at hSw);(first | (go_simp;done) | (go_simp;with_reducible rfl))⟩) ?_
 try simp only [Act.put,seti,set0,setS]
 refine tk (i:=6) (oi:=⟨some 21,_,_,_,_,_⟩) (v:=_) rfl (by kernel_rfl) (fun _ _ _ h=>h) (X.out.c3 (i:=2) rfl) (Or.inl ⟨by rfl,by intro w hSw;(try dsimp only at hSw);(first | (go_simp;done) | (go_simp;with_reducible rfl))⟩) ?_
 try simp only [Act.put,seti,set0,setS]
 refine tk (i:=7) (oi:=⟨some 22,_,_,_,_,_⟩) (v:=_) rfl (by kernel_rfl) (fun _ _ _ h=>h) (X.out.c3 (i:=2) rfl) (Or.inl ⟨by rfl,by intro w hSw;(try dsimp only at hSw);(first | (go_simp;done) | (go_simp;with_reducible rfl))⟩) ?_
 try simp only [Act.put,seti,set0,setS]
 refine wpLate_one (i:=5) (o:=⟨some 20,_,_,_,_,_⟩) (by kernel_rfl) rfl (fun K hK=>?_)
 go_simp
 (go_at_call 90;refine (HTN.out _ _ _ _ TG5.out).mono ?_;rintro e u1 ⟨A1,n1,c1,rfl,ht9,hb9,hf9⟩;have TG5:=Lib.hid (TG5.out.below hb9);have TG6:=Lib.hid (TG6.out.below hb9);have X:=Lib.hid (X.out.row hb9 ht9 hf9);clear hb9 ht9 hf9)
 try go_wp2_with fail
 refine hK.out _ _ (Or.inr (fun _=>X.out.c3 (i:=2) rfl)) ?_
 clear hK K
 try simp only [Act.put,seti,set0,setS]
 refine wpLate_one (i:=8) (o:=⟨some 23,_,_,_,_,_⟩) (by kernel_rfl) rfl (fun K hK=>?_)
 go_simp
 (go_at_call 93;refine (HCN.out _ _ _ _ _ _ _ (X.out.rw (i:=2) rfl) (X.out.rw (i:=0) rfl)).mono ?_;rintro e u2 ⟨rfl,hb9⟩;have TG5:=Lib.hid (TG5.out.below hb9);have TG6:=Lib.hid (TG6.out.below hb9);have X:=Lib.hid (X.out.next hb9);clear hb9)
 try go_wp2_with fail
 refine hK.out _ _ (Or.inr (fun _=>X.out.c3 (i:=2) rfl)) ?_
 clear hK K
 try simp only [Act.put,seti,set0,setS]
 refine tk (i:=9) (oi:=⟨some 24,_,_,_,_,_⟩) (v:=_) rfl (by kernel_rfl) (fun _ _ _ h=>h) (X.out.c3 (i:=2) rfl) (Or.inl ⟨by rfl,by intro w hSw;(try dsimp only at hSw);(first | (go_simp;done) | (go_simp;with_reducible rfl))⟩) ?_
 try simp only [Act.put,seti,set0,setS]
 refine tk (i:=10) (oi:=⟨some 25,_,_,_,_,_⟩) (v:=_) rfl (by kernel_rfl) (fun _ _ _ h=>h) (X.out.c3 (i:=2) rfl) (Or.inl ⟨by rfl,by intro w hSw;(try dsimp only at hSw);(first | (go_simp;done) | (go_simp;with_reducible rfl))⟩) ?_
 try simp only [Act.put,seti,set0,setS]
 refine tk (i:=11) (oi:=⟨some 26,_,_,_,_,_⟩) (v:=_) rfl (by kernel_rfl) (fun _ _ _ h=>h) (X.out.c3 (i:=2) rfl) (Or.inl ⟨by rfl,by intro w hSw;(try dsimp only at hSw);(first | (go_simp;done) | (go_simp;with_reducible rfl))⟩) ?_
 try simp only [Act.put,seti,set0,setS]
 refine tk (i:=12) (oi:=⟨some 27,_,_,_,_,_⟩) (v:=_) rfl (by kernel_rfl) (fun _ _ _ h=>h) (X.out.c3 (i:=2) rfl) (Or.inl ⟨by rfl,by intro w hSw;(try dsimp only at hSw);(first | (go_simp;done) | (go_simp;with_reducible rfl))⟩) ?_
 try simp only [Act.put,seti,set0,setS]
 refine tk (i:=13) (oi:=⟨some 28,_,_,_,_,_⟩) (v:=_) rfl (by kernel_rfl) (fun _ _ _ h=>h) (X.out.c3 (i:=2) rfl) (Or.inl ⟨by rfl,by intro w hSw;(try dsimp only at hSw);(first | (go_simp;done) | (go_simp;with_reducible rfl))⟩) ?_
 try simp only [Act.put,seti,set0,setS]
 refine tk (i:=15) (oi:=⟨some 30,_,_,_,_,_⟩) (v:=_) rfl (by kernel_rfl) (fun _ _ _ h=>h) (X.out.c3 (i:=2) rfl) (Or.inl ⟨by rfl,by intro w hSw;(try dsimp only at hSw);(first | (go_simp;done) | (go_simp;with_reducible rfl))⟩) ?_
 try simp only [Act.put,seti,set0,setS]
 refine tk (i:=16) (oi:=⟨some 31,_,_,_,_,_⟩) (v:=_) rfl (by kernel_rfl) (fun _ _ _ h=>h) (X.out.c3 (i:=2) rfl) (Or.inl ⟨by rfl,by intro w hSw;(try dsimp only at hSw);(first | (go_simp;done) | (go_simp;with_reducible rfl))⟩) ?_
 try simp only [Act.put,seti,set0,setS]
 refine wpLate_one (i:=14) (o:=⟨some 29,_,_,_,_,_⟩) (by kernel_rfl) rfl (fun K hK=>?_)
 go_simp
 (go_at_call 90;refine (HTD.out _ _ _ _ TG6.out).mono ?_;rintro e u3 ⟨A3,n3,c3,rfl,ht9,hb9,hf9⟩;have TG5:=Lib.hid (TG5.out.below hb9);have TG6:=Lib.hid (TG6.out.below hb9);have X:=Lib.hid (X.out.row hb9 ht9 hf9);clear hb9 ht9 hf9)
 try go_wp2_with fail
 refine hK.out _ _ (Or.inr (fun _=>X.out.c3 (i:=2) rfl)) ?_
 clear hK K
 try simp only [Act.put,seti,set0,setS]
 refine wpLate_one (i:=17) (o:=⟨some 32,_,_,_,_,_⟩) (by kernel_rfl) rfl (fun K hK=>?_)
 go_simp
 (go_at_call 93;refine (HCD.out _ _ _ _ _ _ _ (X.out.rw (i:=3) rfl) (X.out.rw (i:=1) rfl)).mono ?_;rintro e u4 ⟨rfl,hb9⟩;have TG5:=Lib.hid (TG5.out.below hb9);have TG6:=Lib.hid (TG6.out.below hb9);have X:=Lib.hid (X.out.next hb9);clear hb9)
 try go_wp2_with fail
 refine hK.out _ _ (Or.inr (fun _=>X.out.c3 (i:=2) rfl)) ?_
 clear hK K
 try simp only [Act.put,seti,set0,setS]
 refine tk (i:=18) (oi:=⟨some 33,_,_,_,_,_⟩) (v:=_) rfl (by kernel_rfl) (fun _ _ _ h=>h) (X.out.c3 (i:=2) rfl) (Or.inl ⟨by rfl,by intro w hSw;(try dsimp only at hSw);(first | (go_simp;done) | (go_simp;with_reducible rfl))⟩) ?_
 try simp only [Act.put,seti,set0,setS]
 refine tk (i:=19) (oi:=⟨some 34,_,_,_,_,_⟩) (v:=_) rfl (by kernel_rfl) (fun _ _ _ h=>h) (X.out.c3 (i:=2) rfl) (Or.inl ⟨by rfl,by intro w hSw;(try dsimp only at hSw);(first | (go_simp;done) | (go_simp;with_reducible rfl))⟩) ?_
 try simp only [Act.put,seti,set0,setS]
 refine wpLate_done (by kernel_rfl) ?_ _
 go_wp2_with fail
 refine (HCA.out _ _ _ _ _ _ _ TG5.out TG6.out).mono ?_
 rintro e u9 ⟨rfl,hb9⟩
 have X:=Lib.hid (X.out.next hb9)
 clear hb9
 obtain ⟨x0,x1,x2,x3⟩:=X.out.c4 (i:=1) rfl
 obtain ⟨y0,y1,y2,y3⟩:=X.out.f4 (i:=1) rfl
 go_wp2
 have X:=Lib.hid (X.out.set4 (i:=1) rfl (.bool false) (.string mR) (.bool false) (.string kR))
 obtain ⟨p0,p1,p2,p3⟩:=X.out.c4 (i:=1) rfl
 exact bodyPost_ret (v:=.tuple #[.agg #[.bool false,.string mR,.bool false,.string kR],.bool true]) (by simp [results,Tryz.results72,go_sem,p0,p1,p2,p3]) rfl ⟨rfl,X.out.bel⟩
end Go.Proofs.YtdbhahiieokplaaGreatDoor
