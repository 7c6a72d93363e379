import Derived.Test.YtdbhahiieokplaaGreatDoorGRGC
set_option linter.unusedSimpArgs false
set_option linter.unusedVariables false

namespace Go.Proofs.YtdbhahiieokplaaGreatDoor
open Go.RowKit
attribute [local go_sem ↓] Go.wp_at_zero Go.wp_at_succ

set_option maxHeartbeats 32000000 in
set_option maxRecDepth 100000 in
theorem rAdd_same {p q:Rat} {b1 b3:Bool} {m1 m2 m3 k1 k2 k3:ByteArray} (hp:Rq p b1 m1 k1) (hq:Rq q b1 m2 k2) (hr':Rq (mkRat (sgn b1 ((p.num.natAbs*q.den)+(q.num.natAbs*p.den))) (p.den*q.den)) b3 m3 k3)  (s1:m1.size≤10000) (s2:m2.size≤10000) (s3:(mag p.den).size≤10000) (s4:(mag q.den).size≤10000) (w:World) :
  Calls Tryz.prog 43 #[.agg #[.bool b1,.string m1,.bool false,.string k1],.agg #[.bool b1,.string m2,.bool false,.string k2]] w (RetB w (.agg #[.bool b3,.string m3,.bool false,.string k3])):=by
 have ks:∀ {x:Rat} {b:Bool} {m k:ByteArray},Rq x b m k→(mag x.den).size≤10000→k.size≤10000:=fun {x b m k} h hs=>by
  by_cases hd:x.den=1
  · rw [h.den1 hd];exact Nat.zero_le _
  · rw [h.den2 hd];exact hs
 have HF1:=Lib.hid (fun V=>rof2 hp (by omega) (by have:=ks hp s3;omega) V)
 have HF2:=Lib.hid (fun V=>rof2 hq (by omega) (by have:=ks hq s4;omega) V)
 have n0:nd p.num.natAbs≤10000:=by unfold nd;rw [←hp.mag.2];exact s1
 have n1:nd p.den≤10000:=s3
 have n2:nd q.num.natAbs≤10000:=by unfold nd;rw [←hq.mag.2];exact s2
 have n3:nd q.den≤10000:=s4
 have n4:nd (p.num.natAbs*q.den)≤20000:=by have:=nd_mul p.num.natAbs q.den;omega
 have n5:nd (q.num.natAbs*p.den)≤20000:=by have:=nd_mul q.num.natAbs p.den;omega
 have n6:nd (p.den*q.den)≤20000:=by have:=nd_mul p.den q.den;omega
 have n7:nd ((p.num.natAbs*q.den)+(q.num.natAbs*p.den))≤30000:=by have:=nd_add (p.num.natAbs*q.den) (q.num.natAbs*p.den);omega
 have hcn:∀ (A B:Option Addr) (n m c d:Nat) (V:World),Tr V A n c ((p.num.natAbs*q.den)+(q.num.natAbs*p.den))→Tr V B m d (p.den*q.den)→Calls Tryz.prog 91 #[.agg #[.bool b1,.slice A n c,.slice B m d]] V (RetB V (.agg #[.bool b3,.string m3,.bool false,.string k3])):=by
  intro A B n m c d V hA hB
  refine (rcanonical b1 A B n m c d _ _ V (by have:=hA.ln;omega) (by have:=hB.ln;omega) hA hB (Nat.mul_pos p.den_pos q.den_pos)).mono ?_
  rintro e w3 ⟨b4,m4,k4,rfl,hq4,hb3⟩
  obtain ⟨rfl,rfl,rfl⟩:=hr'.inj hq4
  exact ⟨rfl,hb3⟩
 have HN0:=Lib.hid n0
 have HN1:=Lib.hid n1
 have HN2:=Lib.hid n2
 have HN3:=Lib.hid n3
 have HN4:=Lib.hid n4
 have HN5:=Lib.hid n5
 have HCN:=Lib.hid hcn
 have X:=Lib.hid ((((Sb.start w).new #[.bool b1,.string m1,.bool false,.string k1] 25).new #[.bool b1,.string m2,.bool false,.string k2] 25).new #[.bool false,.string ⟨#[]⟩,.bool false,.string ⟨#[]⟩] 25)
 have X:=Lib.hid (X.out.pick [0,1,2] [(w.heap.size,#[.bool b1,.string m1,.bool false,.string k1],25),(w.heap.size+1,#[.bool b1,.string m2,.bool false,.string k2],25),(w.heap.size+1+1,#[.bool false,.string ⟨#[]⟩,.bool false,.string ⟨#[]⟩],25)] [] (by simp) (by decide) (by simp))
 clear hp hq hr' hcn n0 n1 n2 n3 n4 n5 n6 n7 s1 s2 s3 s4 ks
 go_enter Tryz.func43,Tryz.ntmps43
 go_upto_region 1 with fail
 go_cut [5,6] (fun s5 s6 wx=>∃ g5 g6 A1 n1 c1 B1 x1 d1 A3 n3 c3 B3 x3 d3,s5=.pointer (some ⟨g5,0,none⟩)∧s6=.pointer (some ⟨g6,0,none⟩)∧Sb w [(w.heap.size+1+1,#[.bool false,.string ⟨#[]⟩,.bool false,.string ⟨#[]⟩],25),(g5,#[.bool b1,.slice A1 n1 c1,.slice B1 x1 d1],121),(g6,#[.bool b1,.slice A3 n3 c3,.slice B3 x3 d3],121)] [(A1,n1,c1,p.num.natAbs),(B1,x1,d1,p.den),(A3,n3,c3,q.num.natAbs),(B3,x3,d3,q.den)] wx)
 case first =>
  refine wp_region_any (by kernel_rfl) ?_
  have X:=Lib.hid X.out.drew
  obtain ⟨W0,hV⟩:=wexi X.out
  rw [show ∀ v:World,{ v with drawn:=v.drawn+1 }=v.drew from fun _=>rfl,←hV]
  rw [←hV] at X
  clear hV
  refine rg_run (ef:=[.val (.agg #[.bool b1,.string m1,.bool false,.string k1]),.rel (FracP b1 p.num.natAbs p.den),.val (.agg #[.bool b1,.string m2,.bool false,.string k2]),.rel (FracP b1 q.num.natAbs q.den),.new #[.bool false,.slice none 0 0,.slice none 0 0] 121,.new #[.bool false,.slice none 0 0,.slice none 0 0] 121]) (ds:=[10,11,12,13,5,6]) (by kernel_rfl) (stays_of (List.forall_mem_cons.2 ⟨trivial,(List.forall_mem_cons.2 ⟨fine_frac _ _ _,(List.forall_mem_cons.2 ⟨trivial,(List.forall_mem_cons.2 ⟨fine_frac _ _ _,(List.forall_mem_cons.2 ⟨trivial,(List.forall_mem_cons.2 ⟨trivial,(fun _ h=>by simp at h)⟩)⟩)⟩)⟩)⟩)⟩)) (by decide) rfl (by intro d hd;simp at hd ⊢;omega) (fun i d o hd ho listed a w1 hR hdep K hK=>?_) 2 (fun a w1 hR=>?_)
  · have X:=Lib.hid (X.out.next hR.bel)
    have HKt:=Lib.hid hK
    have HDp:=Lib.hid hdep
    have sl2:a.tmps.getD 2 undef=.pointer (some ⟨w.heap.size,0,none⟩):=hR.keep 2 (by decide)
    have sl3:a.tmps.getD 3 undef=.pointer (some ⟨w.heap.size+1,0,none⟩):=hR.keep 3 (by decide)
    have HRg:=Lib.hid hR
    clear hK hdep hR
    rcases i with _ | _ | _ | _ | _ | _ | i
    · cases hd
      cases ho
      obtain ⟨x00,x01,x02,x03⟩:=X.out.c4 (i:=0) rfl
      obtain ⟨x10,x11,x12,x13⟩:=X.out.c4 (i:=1) rfl
      go_simp
      exact HKt.out _ _ (Or.inl ⟨rfl,Below.refl _ _⟩)
    · cases hd
      cases ho
      have dd0:a.tmps.getD 10 undef=.agg #[.bool b1,.string m1,.bool false,.string k1]:=HRg.out.val 0 _ (HDp.out 0 (by decide)) rfl
      go_simp
      (go_at_call 89;refine (HF1.out _).mono ?_;rintro e u ⟨A9,n9,c9,B9,m9,d9,rfl,hT9,hU9,hb9,_,_⟩)
      try go_wp2_with fail
      exact HKt.out _ _ (Or.inr (Or.inr ⟨_,rfl,⟨A9,n9,c9,B9,m9,d9,rfl,hT9,hU9⟩,hb9⟩))
    · cases hd
      cases ho
      obtain ⟨x00,x01,x02,x03⟩:=X.out.c4 (i:=0) rfl
      obtain ⟨x10,x11,x12,x13⟩:=X.out.c4 (i:=1) rfl
      go_simp
      exact HKt.out _ _ (Or.inl ⟨rfl,Below.refl _ _⟩)
    · cases hd
      cases ho
      have dd2:a.tmps.getD 12 undef=.agg #[.bool b1,.string m2,.bool false,.string k2]:=HRg.out.val 2 _ (HDp.out 2 (by decide)) rfl
      go_simp
      (go_at_call 89;refine (HF2.out _).mono ?_;rintro e u ⟨A9,n9,c9,B9,m9,d9,rfl,hT9,hU9,hb9,_,_⟩)
      try go_wp2_with fail
      exact HKt.out _ _ (Or.inr (Or.inr ⟨_,rfl,⟨A9,n9,c9,B9,m9,d9,rfl,hT9,hU9⟩,hb9⟩))
    · cases hd
      cases ho
      go_simp
      exact HKt.out _ _ (Or.inr (Or.inl ⟨_,_,rfl,rfl,rfl⟩))
    · cases hd
      cases ho
      go_simp
      exact HKt.out _ _ (Or.inr (Or.inl ⟨_,_,rfl,rfl,rfl⟩))
    · cases hd
  obtain ⟨g4,hg4,lg4,kg4⟩:=hR.new 4 _ _ (by rfl) rfl
  obtain ⟨g5,hg5,lg5,kg5⟩:=hR.new 5 _ _ (by rfl) rfl
  have vv0:a.tmps.getD 10 undef=.agg #[.bool b1,.string m1,.bool false,.string k1]:=hR.val 0 _ (by rfl) rfl
  obtain ⟨A1,n1,c1,B1,m1,d1,vv1,hT1,hU1⟩:=hR.rel 1 _ (by rfl) rfl
  replace vv1:a.tmps.getD 11 undef=.agg #[.bool b1,.slice A1 n1 c1,.slice B1 m1 d1]:=vv1
  have vv2:a.tmps.getD 12 undef=.agg #[.bool b1,.string m2,.bool false,.string k2]:=hR.val 2 _ (by rfl) rfl
  obtain ⟨A3,n3,c3,B3,m3,d3,vv3,hT3,hU3⟩:=hR.rel 3 _ (by rfl) rfl
  replace vv3:a.tmps.getD 13 undef=.agg #[.bool b1,.slice A3 n3 c3,.slice B3 m3 d3]:=vv3
  replace hg4:a.tmps.getD 5 undef=.pointer (some ⟨g4,0,none⟩):=hg4
  replace hg5:a.tmps.getD 6 undef=.pointer (some ⟨g5,0,none⟩):=hg5
  have hne:g4≠g5:=fun e=>hR.ne 4 5 _ _ _ _ g4 (by decide) (by rfl) (by rfl) rfl rfl hg4 (by rw [e];exact hg5)
  have X:=Lib.hid (X.out.add2 hR.bel lg4 kg4 lg5 kg5 hne)
  have X:=Lib.hid (X.out.rows [(A1,n1,c1,p.num.natAbs),(B1,m1,d1,p.den),(A3,n3,c3,q.num.natAbs),(B3,m3,d3,q.den)] (List.forall_mem_cons.2 ⟨hT1,List.forall_mem_cons.2 ⟨hU1,(List.forall_mem_cons.2 ⟨hT3,List.forall_mem_cons.2 ⟨hU3,(fun _ h=>by simp at h)⟩⟩)⟩⟩) (by intro x hx;simp at hx;rcases hx with rfl | rfl | rfl | rfl | rfl<;>(intro j k n;rcases j with _ | _ | _ | _ | _ | j<;>simp)))
  have ha:=hR.act
  simp only [List.foldl_cons,List.foldl_nil,seti,set0,setS,vv0,vv1,vv2,vv3,hg4,hg5] at ha
  subst ha
  clear hR vv0 vv1 vv2 vv3 hg4 lg4 kg4 hg5 lg5 kg5 hne
  refine wpAny_of_late (S:=fun _=>True) (L:=[]) _ _ _ _ ?_
  refine wpLate_one (i:=6) (o:=⟨none,_,_,_,_,_⟩) (by kernel_rfl) rfl (fun K hK=>?_)
  obtain ⟨x0,x1,x2⟩:=X.out.c3 (i:=3) rfl
  obtain ⟨y0,y1,y2⟩:=X.out.f3 (i:=3) rfl
  have X:=Lib.hid (X.out.set3 (i:=3) rfl (.bool b1) (.slice A1 n1 c1) (.slice B1 m1 d1))
  go_simp
  refine hK.out _ _ (Or.inr fun _=>trivial) ?_
  clear hK K x0 x1 x2 y0 y1 y2
  obtain ⟨W6,hV⟩:=wexi X.out
  rw [←hV] at X ⊢
  clear hV
  try simp only [Act.put]
  refine wpLate_one (i:=7) (o:=⟨none,_,_,_,_,_⟩) (by kernel_rfl) rfl (fun K hK=>?_)
  obtain ⟨x0,x1,x2⟩:=X.out.c3 (i:=4) rfl
  obtain ⟨y0,y1,y2⟩:=X.out.f3 (i:=4) rfl
  have X:=Lib.hid (X.out.set3 (i:=4) rfl (.bool b1) (.slice A3 n3 c3) (.slice B3 m3 d3))
  go_simp
  refine hK.out _ _ (Or.inr fun _=>trivial) ?_
  clear hK K x0 x1 x2 y0 y1 y2
  obtain ⟨W7,hV⟩:=wexi X.out
  rw [←hV] at X ⊢
  clear hV
  try simp only [Act.put]
  refine wpLate_done (by kernel_rfl) ?_ _
  go_wp2_with fail
  go_meet
  exact ⟨_,_,_,_,_,_,_,_,_,_,_,_,_,_,rfl,rfl,X.out.pick [2,3,4] _ _ rfl (by decide) (fun _ h=>h)⟩
 obtain ⟨g5,g6,A1,n1,c1,B1,x1,d1,A3,n3,c3,B3,x3,d3,rfl,rfl,hX⟩:=hcut
 have X:=Lib.hid hX
 clear hX
 go_upto_region 2 with fail
 go_cut [7,8] (fun s7 s8 wx=>∃ A5 n5 c5 A6 n6 c6,s7=.slice A5 n5 c5∧s8=.slice A6 n6 c6∧Sb w [(w.heap.size+1+1,#[.bool false,.string ⟨#[]⟩,.bool false,.string ⟨#[]⟩],25),(g5,#[.bool b1,.slice A1 n1 c1,.slice B1 x1 d1],121),(g6,#[.bool b1,.slice A3 n3 c3,.slice B3 x3 d3],121)] [(A1,n1,c1,p.num.natAbs),(B1,x1,d1,p.den),(A3,n3,c3,q.num.natAbs),(B3,x3,d3,q.den),(A5,n5,c5,(p.num.natAbs*q.den)),(A6,n6,c6,(q.num.natAbs*p.den))] wx)
 case first =>
  refine wp_region_late (S:=fun w'=>(w'.cell? ⟨g5,0,none⟩=some (.bool b1)∧w'.cell? ⟨g5,1,none⟩=some (.slice A1 n1 c1)∧w'.cell? ⟨g5,2,none⟩=some (.slice B1 x1 d1))∧(w'.cell? ⟨g6,0,none⟩=some (.bool b1)∧w'.cell? ⟨g6,1,none⟩=some (.slice A3 n3 c3)∧w'.cell? ⟨g6,2,none⟩=some (.slice B3 x3 d3))) (L:=[]) (by kernel_rfl) ?_
  have X:=Lib.hid X.out.drew
  obtain ⟨V0,hV⟩:=wexi X.out
  rw [←hV] at X ⊢
  clear hV
  refine tk (i:=0) (oi:=⟨some 14,_,_,_,_,_⟩) (v:=_) rfl (by kernel_rfl) (fun _ _ _ h=>h) (⟨X.out.c3 (i:=1) rfl,X.out.c3 (i:=2) rfl⟩) (Or.inl ⟨by rfl,by intro w hSw;(try dsimp only at hSw);(first | (go_simp;done) | (go_simp;with_reducible rfl))⟩) ?_
  try simp only [Act.put,seti,set0,setS]
  refine tk (i:=1) (oi:=⟨some 15,_,_,_,_,_⟩) (v:=_) rfl (by kernel_rfl) (fun _ _ _ h=>h) (⟨X.out.c3 (i:=1) rfl,X.out.c3 (i:=2) rfl⟩) (Or.inl ⟨by rfl,by intro w hSw;(try dsimp only at hSw);(first | (go_simp;done) | (go_simp;with_reducible rfl))⟩) ?_
  try simp only [Act.put,seti,set0,setS]
  refine tk (i:=2) (oi:=⟨some 16,_,_,_,_,_⟩) (v:=_) rfl (by kernel_rfl) (fun _ _ _ h=>h) (⟨X.out.c3 (i:=1) rfl,X.out.c3 (i:=2) rfl⟩) (Or.inl ⟨by rfl,by intro w hSw;(try dsimp only at hSw);(first | (go_simp;done) | (go_simp;with_reducible rfl))⟩) ?_
  try simp only [Act.put,seti,set0,setS]
  refine tk (i:=3) (oi:=⟨some 17,_,_,_,_,_⟩) (v:=_) rfl (by kernel_rfl) (fun _ _ _ h=>h) (⟨X.out.c3 (i:=1) rfl,X.out.c3 (i:=2) rfl⟩) (Or.inl ⟨by rfl,by intro w hSw;(try dsimp only at hSw);(first | (go_simp;done) | (go_simp;with_reducible rfl))⟩) ?_
  try simp only [Act.put,seti,set0,setS]
  refine tk (i:=5) (oi:=⟨some 19,_,_,_,_,_⟩) (v:=_) rfl (by kernel_rfl) (fun _ _ _ h=>h) (⟨X.out.c3 (i:=1) rfl,X.out.c3 (i:=2) rfl⟩) (Or.inl ⟨by rfl,by intro w hSw;(try dsimp only at hSw);(first | (go_simp;done) | (go_simp;with_reducible rfl))⟩) ?_
  try simp only [Act.put,seti,set0,setS]
  refine tk (i:=6) (oi:=⟨some 20,_,_,_,_,_⟩) (v:=_) rfl (by kernel_rfl) (fun _ _ _ h=>h) (⟨X.out.c3 (i:=1) rfl,X.out.c3 (i:=2) rfl⟩) (Or.inl ⟨by rfl,by intro w hSw;(try dsimp only at hSw);(first | (go_simp;done) | (go_simp;with_reducible rfl))⟩) ?_
  try simp only [Act.put,seti,set0,setS]
  refine tk (i:=7) (oi:=⟨some 21,_,_,_,_,_⟩) (v:=_) rfl (by kernel_rfl) (fun _ _ _ h=>h) (⟨X.out.c3 (i:=1) rfl,X.out.c3 (i:=2) rfl⟩) (Or.inl ⟨by rfl,by intro w hSw;(try dsimp only at hSw);(first | (go_simp;done) | (go_simp;with_reducible rfl))⟩) ?_
  try simp only [Act.put,seti,set0,setS]
  refine tk (i:=8) (oi:=⟨some 22,_,_,_,_,_⟩) (v:=_) rfl (by kernel_rfl) (fun _ _ _ h=>h) (⟨X.out.c3 (i:=1) rfl,X.out.c3 (i:=2) rfl⟩) (Or.inl ⟨by rfl,by intro w hSw;(try dsimp only at hSw);(first | (go_simp;done) | (go_simp;with_reducible rfl))⟩) ?_
  try simp only [Act.put,seti,set0,setS]
  refine wpLate_one (i:=4) (o:=⟨some 18,_,_,_,_,_⟩) (by kernel_rfl) rfl (fun K hK=>?_)
  go_simp
  (go_at_call 90;refine (rtimes _ _ _ _ _ _ _ _ _ (by have h:=(X.out.rw (i:=0) rfl).ln;have h2:=HN0.out;omega) (by have h:=(X.out.rw (i:=3) rfl).ln;have h2:=HN3.out;omega) (X.out.rw (i:=0) rfl).dg (X.out.rw (i:=3) rfl).dg).mono ?_;rintro e u1 ⟨A1,n1,c1,rfl,ht9,hb9,hf9⟩;have X:=Lib.hid (X.out.row hb9 ht9 hf9);clear hb9 ht9 hf9)
  try go_wp2_with fail
  refine hK.out _ _ (Or.inr (fun _=>⟨X.out.c3 (i:=1) rfl,X.out.c3 (i:=2) rfl⟩)) ?_
  clear hK K
  try simp only [Act.put,seti,set0,setS]
  refine wpLate_one (i:=9) (o:=⟨some 23,_,_,_,_,_⟩) (by kernel_rfl) rfl (fun K hK=>?_)
  go_simp
  (go_at_call 90;refine (rtimes _ _ _ _ _ _ _ _ _ (by have h:=(X.out.rw (i:=2) rfl).ln;have h2:=HN2.out;omega) (by have h:=(X.out.rw (i:=1) rfl).ln;have h2:=HN1.out;omega) (X.out.rw (i:=2) rfl).dg (X.out.rw (i:=1) rfl).dg).mono ?_;rintro e u2 ⟨A2,n2,c2,rfl,ht9,hb9,hf9⟩;have X:=Lib.hid (X.out.row hb9 ht9 hf9);clear hb9 ht9 hf9)
  try go_wp2_with fail
  refine hK.out _ _ (Or.inr (fun _=>⟨X.out.c3 (i:=1) rfl,X.out.c3 (i:=2) rfl⟩)) ?_
  clear hK K
  try simp only [Act.put,seti,set0,setS]
  refine tk (i:=10) (oi:=⟨some 7,_,_,_,_,_⟩) (v:=_) rfl (by kernel_rfl) (fun _ _ _ h=>h) (⟨X.out.c3 (i:=1) rfl,X.out.c3 (i:=2) rfl⟩) (Or.inl ⟨by rfl,by intro w hSw;(try dsimp only at hSw);(first | (go_simp;done) | (go_simp;with_reducible rfl))⟩) ?_
  try simp only [Act.put,seti,set0,setS]
  refine tk (i:=11) (oi:=⟨some 8,_,_,_,_,_⟩) (v:=_) rfl (by kernel_rfl) (fun _ _ _ h=>h) (⟨X.out.c3 (i:=1) rfl,X.out.c3 (i:=2) rfl⟩) (Or.inl ⟨by rfl,by intro w hSw;(try dsimp only at hSw);(first | (go_simp;done) | (go_simp;with_reducible rfl))⟩) ?_
  try simp only [Act.put,seti,set0,setS]
  refine wpLate_done (by kernel_rfl) ?_ _
  go_wp2_with fail
  go_meet
  exact ⟨_,_,_,_,_,_,rfl,rfl,X.out⟩
 obtain ⟨A5,n5,c5,A6,n6,c6,rfl,rfl,hX⟩:=hcut
 have X:=Lib.hid hX
 clear hX
 obtain ⟨a0,a1,a2⟩:=X.out.c3 (i:=1) rfl
 obtain ⟨c0,c1,c2⟩:=X.out.c3 (i:=2) rfl
 go_wp2_with fail
 refine (rtimes _ _ _ _ _ _ _ _ _ (by have h:=(X.out.rw (i:=1) rfl).ln;have h2:=HN1.out;omega) (by have h:=(X.out.rw (i:=3) rfl).ln;have h2:=HN3.out;omega) (X.out.rw (i:=1) rfl).dg (X.out.rw (i:=3) rfl).dg).mono ?_
 rintro e u2 ⟨A7,n7,c7,rfl,ht9,hb9,hf9⟩
 have X:=Lib.hid (X.out.row hb9 ht9 hf9)
 clear hb9 ht9 hf9 a0 a1 a2 c0 c1 c2
 obtain ⟨a0,a1,a2⟩:=X.out.c3 (i:=1) rfl
 obtain ⟨c0,c1,c2⟩:=X.out.c3 (i:=2) rfl
 go_upto_region 5 with fail
 clear a0 a1 a2 c0 c1 c2
 refine wp_region_late (S:=fun w'=>(w'.cell? ⟨g5,0,none⟩=some (.bool b1)∧w'.cell? ⟨g5,1,none⟩=some (.slice A1 n1 c1)∧w'.cell? ⟨g5,2,none⟩=some (.slice B1 x1 d1))∧(w'.cell? ⟨g6,0,none⟩=some (.bool b1)∧w'.cell? ⟨g6,1,none⟩=some (.slice A3 n3 c3)∧w'.cell? ⟨g6,2,none⟩=some (.slice B3 x3 d3))) (L:=[]) (by kernel_rfl) ?_
 have X:=Lib.hid X.out.drew
 obtain ⟨V0,hV⟩:=wexi X.out
 rw [←hV] at X ⊢
 clear hV
 refine tk (i:=0) (oi:=⟨some 35,_,_,_,_,_⟩) (v:=_) rfl (by kernel_rfl) (fun _ _ _ h=>h) (⟨X.out.c3 (i:=1) rfl,X.out.c3 (i:=2) rfl⟩) (Or.inl ⟨by rfl,by intro w hSw;(try dsimp only at hSw);(first | (go_simp;done) | (go_simp;with_reducible rfl))⟩) ?_
 try simp only [Act.put,seti,set0,setS]
 refine tk (i:=1) (oi:=⟨some 36,_,_,_,_,_⟩) (v:=_) rfl (by kernel_rfl) (fun _ _ _ h=>h) (⟨X.out.c3 (i:=1) rfl,X.out.c3 (i:=2) rfl⟩) (Or.inl ⟨by rfl,by intro w hSw;(try dsimp only at hSw);(first | (go_simp;done) | (go_simp;with_reducible rfl))⟩) ?_
 try simp only [Act.put,seti,set0,setS]
 refine tk (i:=2) (oi:=⟨some 37,_,_,_,_,_⟩) (v:=_) rfl (by kernel_rfl) (fun _ _ _ h=>h) (⟨X.out.c3 (i:=1) rfl,X.out.c3 (i:=2) rfl⟩) (Or.inl ⟨by rfl,by intro w hSw;(try dsimp only at hSw);(first | (go_simp;done) | (go_simp;with_reducible rfl))⟩) ?_
 try simp only [Act.put,seti,set0,setS]
 refine tk (i:=3) (oi:=⟨some 38,_,_,_,_,_⟩) (v:=_) rfl (by kernel_rfl) (fun _ _ _ h=>h) (⟨X.out.c3 (i:=1) rfl,X.out.c3 (i:=2) rfl⟩) (Or.inl ⟨by rfl,by intro w hSw;(try dsimp only at hSw);(first | (go_simp;done) | (go_simp;with_reducible rfl))⟩) ?_
 try simp only [Act.put,seti,set0,setS]
 refine tk (i:=5) (oi:=⟨some 40,_,_,_,_,_⟩) (v:=_) rfl (by kernel_rfl) (fun _ _ _ h=>h) (⟨X.out.c3 (i:=1) rfl,X.out.c3 (i:=2) rfl⟩) (Or.inl ⟨by rfl,by intro w hSw;(try dsimp only at hSw);(first | (go_simp;done) | (go_simp;with_reducible rfl))⟩) ?_
 try simp only [Act.put,seti,set0,setS]
 refine wpLate_one (i:=4) (o:=⟨some 39,_,_,_,_,_⟩) (by kernel_rfl) rfl (fun K hK=>?_)
 go_simp
 (go_at_call 92;refine (rplus _ _ _ _ _ _ _ _ _ (by have h:=(X.out.rw (i:=4) rfl).ln;have h2:=HN4.out;omega) (by have h:=(X.out.rw (i:=5) rfl).ln;have h2:=HN5.out;omega) (X.out.rw (i:=4) rfl).dg (X.out.rw (i:=5) rfl).dg).mono ?_;rintro e u1 ⟨A1,n1,c1,rfl,ht9,hb9,hf9⟩;have X:=Lib.hid (X.out.row hb9 ht9 hf9);clear hb9 ht9 hf9)
 try go_wp2_with fail
 refine hK.out _ _ (Or.inr (fun _=>⟨X.out.c3 (i:=1) rfl,X.out.c3 (i:=2) rfl⟩)) ?_
 clear hK K
 try simp only [Act.put,seti,set0,setS]
 refine tk (i:=6) (oi:=⟨some 41,_,_,_,_,_⟩) (v:=_) rfl (by kernel_rfl) (fun _ _ _ h=>h) (⟨X.out.c3 (i:=1) rfl,X.out.c3 (i:=2) rfl⟩) (Or.inl ⟨by rfl,by intro w hSw;(try dsimp only at hSw);(first | (go_simp;done) | (go_simp;with_reducible rfl))⟩) ?_
 try simp only [Act.put,seti,set0,setS]
 refine wpLate_one (i:=7) (o:=⟨some 42,_,_,_,_,_⟩) (by kernel_rfl) rfl (fun K hK=>?_)
 go_simp
 (go_at_call 91;refine (HCN.out _ _ _ _ _ _ _ (X.out.rw (i:=7) rfl) (X.out.rw (i:=6) rfl)).mono ?_;rintro e u2 ⟨rfl,hb9⟩;have X:=Lib.hid (X.out.next hb9);clear hb9)
 try go_wp2_with fail
 refine hK.out _ _ (Or.inr (fun _=>⟨X.out.c3 (i:=1) rfl,X.out.c3 (i:=2) rfl⟩)) ?_
 clear hK K
 try simp only [Act.put,seti,set0,setS]
 refine wpLate_one (i:=8) (o:=⟨none,_,_,_,_,_⟩) (by kernel_rfl) rfl (fun K hK=>?_)
 obtain ⟨x0,x1,x2,x3⟩:=X.out.c4 (i:=0) rfl
 obtain ⟨y0,y1,y2,y3⟩:=X.out.f4 (i:=0) rfl
 have X:=Lib.hid (X.out.set4 (i:=0) rfl (.bool b3) (.string m3) (.bool false) (.string k3))
 go_simp
 refine hK.out _ _ (Or.inr (fun _=>⟨X.out.c3 (i:=1) rfl,X.out.c3 (i:=2) rfl⟩)) ?_
 clear hK K x0 x1 x2 x3 y0 y1 y2 y3
 try simp only [Act.put,seti,set0,setS]
 obtain ⟨W3,hV⟩:=wexi X.out
 rw [←hV] at X ⊢
 clear hV
 refine wpLate_done (by kernel_rfl) ?_ _
 go_wp2
 obtain ⟨p0,p1,p2,p3⟩:=X.out.c4 (i:=0) rfl
 exact bodyPost_ret (v:=.agg #[.bool b3,.string m3,.bool false,.string k3]) (by simp [results,Tryz.results43,go_sem,p0,p1,p2,p3]) rfl ⟨rfl,X.out.bel⟩

set_option maxHeartbeats 32000000 in
set_option maxRecDepth 100000 in
theorem rAdd_ge {p q:Rat} {b1 b3:Bool} {m1 m2 m3 k1 k2 k3:ByteArray} (hp:Rq p b1 m1 k1) (hq:Rq q (!b1) m2 k2) (hr':Rq (mkRat (sgn b1 ((p.num.natAbs*q.den)-(q.num.natAbs*p.den))) (p.den*q.den)) b3 m3 k3) (hle:(q.num.natAbs*p.den)≤(p.num.natAbs*q.den)) (s1:m1.size≤10000) (s2:m2.size≤10000) (s3:(mag p.den).size≤10000) (s4:(mag q.den).size≤10000) (w:World) :
  Calls Tryz.prog 43 #[.agg #[.bool b1,.string m1,.bool false,.string k1],.agg #[.bool (!b1),.string m2,.bool false,.string k2]] w (RetB w (.agg #[.bool b3,.string m3,.bool false,.string k3])):=by
 have ks:∀ {x:Rat} {b:Bool} {m k:ByteArray},Rq x b m k→(mag x.den).size≤10000→k.size≤10000:=fun {x b m k} h hs=>by
  by_cases hd:x.den=1
  · rw [h.den1 hd];exact Nat.zero_le _
  · rw [h.den2 hd];exact hs
 have HF1:=Lib.hid (fun V=>rof2 hp (by omega) (by have:=ks hp s3;omega) V)
 have HF2:=Lib.hid (fun V=>rof2 hq (by omega) (by have:=ks hq s4;omega) V)
 have n0:nd p.num.natAbs≤10000:=by unfold nd;rw [←hp.mag.2];exact s1
 have n1:nd p.den≤10000:=s3
 have n2:nd q.num.natAbs≤10000:=by unfold nd;rw [←hq.mag.2];exact s2
 have n3:nd q.den≤10000:=s4
 have n4:nd (p.num.natAbs*q.den)≤20000:=by have:=nd_mul p.num.natAbs q.den;omega
 have n5:nd (q.num.natAbs*p.den)≤20000:=by have:=nd_mul q.num.natAbs p.den;omega
 have n6:nd (p.den*q.den)≤20000:=by have:=nd_mul p.den q.den;omega
 have n7:nd ((p.num.natAbs*q.den)-(q.num.natAbs*p.den))≤30000:=by have:=nd_mono (Nat.sub_le (p.num.natAbs*q.den) (q.num.natAbs*p.den));omega
 have hcn:∀ (A B:Option Addr) (n m c d:Nat) (V:World),Tr V A n c ((p.num.natAbs*q.den)-(q.num.natAbs*p.den))→Tr V B m d (p.den*q.den)→Calls Tryz.prog 91 #[.agg #[.bool b1,.slice A n c,.slice B m d]] V (RetB V (.agg #[.bool b3,.string m3,.bool false,.string k3])):=by
  intro A B n m c d V hA hB
  refine (rcanonical b1 A B n m c d _ _ V (by have:=hA.ln;omega) (by have:=hB.ln;omega) hA hB (Nat.mul_pos p.den_pos q.den_pos)).mono ?_
  rintro e w3 ⟨b4,m4,k4,rfl,hq4,hb3⟩
  obtain ⟨rfl,rfl,rfl⟩:=hr'.inj hq4
  exact ⟨rfl,hb3⟩
 have HN0:=Lib.hid n0
 have HN1:=Lib.hid n1
 have HN2:=Lib.hid n2
 have HN3:=Lib.hid n3
 have HN4:=Lib.hid n4
 have HN5:=Lib.hid n5
 have HLE:=Lib.hid (hle)
 have HCN:=Lib.hid hcn
 obtain ⟨o,ho,hge⟩:=ord_ge hle
 have hcm:∀ (A B:Option Addr) (n m c d:Nat) (V:World),n≤1000000000→m≤1000000000→Tr V A n c (p.num.natAbs*q.den)→Tr V B m d (q.num.natAbs*p.den)→Calls Tryz.prog 93 #[.slice A n c,.slice B m d] V (RetDw V (.int .i64 o)):=by
  intro A B n m c d V h1 h2 h3 h4
  rw [←ho]
  exact rcompare_any A B n m c d _ _ V h1 h2 h3 h4
 have HCM:=Lib.hid hcm
 have hge2:¬o<0:=by omega
 clear ho hcm
 have X:=Lib.hid ((((Sb.start w).new #[.bool b1,.string m1,.bool false,.string k1] 25).new #[.bool (!b1),.string m2,.bool false,.string k2] 25).new #[.bool false,.string ⟨#[]⟩,.bool false,.string ⟨#[]⟩] 25)
 have X:=Lib.hid (X.out.pick [0,1,2] [(w.heap.size,#[.bool b1,.string m1,.bool false,.string k1],25),(w.heap.size+1,#[.bool (!b1),.string m2,.bool false,.string k2],25),(w.heap.size+1+1,#[.bool false,.string ⟨#[]⟩,.bool false,.string ⟨#[]⟩],25)] [] (by simp) (by decide) (by simp))
 clear hp hq hr' hcn n0 n1 n2 n3 n4 n5 n6 n7 s1 s2 s3 s4 ks hle
 go_enter Tryz.func43,Tryz.ntmps43
 go_upto_region 1 with fail
 go_cut [5,6] (fun s5 s6 wx=>∃ g5 g6 A1 n1 c1 B1 x1 d1 A3 n3 c3 B3 x3 d3,s5=.pointer (some ⟨g5,0,none⟩)∧s6=.pointer (some ⟨g6,0,none⟩)∧Sb w [(w.heap.size+1+1,#[.bool false,.string ⟨#[]⟩,.bool false,.string ⟨#[]⟩],25),(g5,#[.bool b1,.slice A1 n1 c1,.slice B1 x1 d1],121),(g6,#[.bool (!b1),.slice A3 n3 c3,.slice B3 x3 d3],121)] [(A1,n1,c1,p.num.natAbs),(B1,x1,d1,p.den),(A3,n3,c3,q.num.natAbs),(B3,x3,d3,q.den)] wx)
 case first =>
  refine wp_region_any (by kernel_rfl) ?_
  have X:=Lib.hid X.out.drew
  obtain ⟨W0,hV⟩:=wexi X.out
  rw [show ∀ v:World,{ v with drawn:=v.drawn+1 }=v.drew from fun _=>rfl,←hV]
  rw [←hV] at X
  clear hV
  refine rg_run (ef:=[.val (.agg #[.bool b1,.string m1,.bool false,.string k1]),.rel (FracP b1 p.num.natAbs p.den),.val (.agg #[.bool (!b1),.string m2,.bool false,.string k2]),.rel (FracP (!b1) q.num.natAbs q.den),.new #[.bool false,.slice none 0 0,.slice none 0 0] 121,.new #[.bool false,.slice none 0 0,.slice none 0 0] 121]) (ds:=[10,11,12,13,5,6]) (by kernel_rfl) (stays_of (List.forall_mem_cons.2 ⟨trivial,(List.forall_mem_cons.2 ⟨fine_frac _ _ _,(List.forall_mem_cons.2 ⟨trivial,(List.forall_mem_cons.2 ⟨fine_frac _ _ _,(List.forall_mem_cons.2 ⟨trivial,(List.forall_mem_cons.2 ⟨trivial,(fun _ h=>by simp at h)⟩)⟩)⟩)⟩)⟩)⟩)) (by decide) rfl (by intro d hd;simp at hd ⊢;omega) (fun i d o hd ho listed a w1 hR hdep K hK=>?_) 2 (fun a w1 hR=>?_)
  · have X:=Lib.hid (X.out.next hR.bel)
    have HKt:=Lib.hid hK
    have HDp:=Lib.hid hdep
    have sl2:a.tmps.getD 2 undef=.pointer (some ⟨w.heap.size,0,none⟩):=hR.keep 2 (by decide)
    have sl3:a.tmps.getD 3 undef=.pointer (some ⟨w.heap.size+1,0,none⟩):=hR.keep 3 (by decide)
    have HRg:=Lib.hid hR
    clear hK hdep hR
    rcases i with _ | _ | _ | _ | _ | _ | i
    · cases hd
      cases ho
      obtain ⟨x00,x01,x02,x03⟩:=X.out.c4 (i:=0) rfl
      obtain ⟨x10,x11,x12,x13⟩:=X.out.c4 (i:=1) rfl
      go_simp
      exact HKt.out _ _ (Or.inl ⟨rfl,Below.refl _ _⟩)
    · cases hd
      cases ho
      have dd0:a.tmps.getD 10 undef=.agg #[.bool b1,.string m1,.bool false,.string k1]:=HRg.out.val 0 _ (HDp.out 0 (by decide)) rfl
      go_simp
      (go_at_call 89;refine (HF1.out _).mono ?_;rintro e u ⟨A9,n9,c9,B9,m9,d9,rfl,hT9,hU9,hb9,_,_⟩)
      try go_wp2_with fail
      exact HKt.out _ _ (Or.inr (Or.inr ⟨_,rfl,⟨A9,n9,c9,B9,m9,d9,rfl,hT9,hU9⟩,hb9⟩))
    · cases hd
      cases ho
      obtain ⟨x00,x01,x02,x03⟩:=X.out.c4 (i:=0) rfl
      obtain ⟨x10,x11,x12,x13⟩:=X.out.c4 (i:=1) rfl
      go_simp
      exact HKt.out _ _ (Or.inl ⟨rfl,Below.refl _ _⟩)
    · cases hd
      cases ho
      have dd2:a.tmps.getD 12 undef=.agg #[.bool (!b1),.string m2,.bool false,.string k2]:=HRg.out.val 2 _ (HDp.out 2 (by decide)) rfl
      go_simp
      (go_at_call 89;refine (HF2.out _).mono ?_;rintro e u ⟨A9,n9,c9,B9,m9,d9,rfl,hT9,hU9,hb9,_,_⟩)
      try go_wp2_with fail
      exact HKt.out _ _ (Or.inr (Or.inr ⟨_,rfl,⟨A9,n9,c9,B9,m9,d9,rfl,hT9,hU9⟩,hb9⟩))
    · cases hd
      cases ho
      go_simp
      exact HKt.out _ _ (Or.inr (Or.inl ⟨_,_,rfl,rfl,rfl⟩))
    · cases hd
      cases ho
      go_simp
      exact HKt.out _ _ (Or.inr (Or.inl ⟨_,_,rfl,rfl,rfl⟩))
    · cases hd
  obtain ⟨g4,hg4,lg4,kg4⟩:=hR.new 4 _ _ (by rfl) rfl
  obtain ⟨g5,hg5,lg5,kg5⟩:=hR.new 5 _ _ (by rfl) rfl
  have vv0:a.tmps.getD 10 undef=.agg #[.bool b1,.string m1,.bool false,.string k1]:=hR.val 0 _ (by rfl) rfl
  obtain ⟨A1,n1,c1,B1,m1,d1,vv1,hT1,hU1⟩:=hR.rel 1 _ (by rfl) rfl
  replace vv1:a.tmps.getD 11 undef=.agg #[.bool b1,.slice A1 n1 c1,.slice B1 m1 d1]:=vv1
  have vv2:a.tmps.getD 12 undef=.agg #[.bool (!b1),.string m2,.bool false,.string k2]:=hR.val 2 _ (by rfl) rfl
  obtain ⟨A3,n3,c3,B3,m3,d3,vv3,hT3,hU3⟩:=hR.rel 3 _ (by rfl) rfl
  replace vv3:a.tmps.getD 13 undef=.agg #[.bool (!b1),.slice A3 n3 c3,.slice B3 m3 d3]:=vv3
  replace hg4:a.tmps.getD 5 undef=.pointer (some ⟨g4,0,none⟩):=hg4
  replace hg5:a.tmps.getD 6 undef=.pointer (some ⟨g5,0,none⟩):=hg5
  have hne:g4≠g5:=fun e=>hR.ne 4 5 _ _ _ _ g4 (by decide) (by rfl) (by rfl) rfl rfl hg4 (by rw [e];exact hg5)
  have X:=Lib.hid (X.out.add2 hR.bel lg4 kg4 lg5 kg5 hne)
  have X:=Lib.hid (X.out.rows [(A1,n1,c1,p.num.natAbs),(B1,m1,d1,p.den),(A3,n3,c3,q.num.natAbs),(B3,m3,d3,q.den)] (List.forall_mem_cons.2 ⟨hT1,List.forall_mem_cons.2 ⟨hU1,(List.forall_mem_cons.2 ⟨hT3,List.forall_mem_cons.2 ⟨hU3,(fun _ h=>by simp at h)⟩⟩)⟩⟩) (by intro x hx;simp at hx;rcases hx with rfl | rfl | rfl | rfl | rfl<;>(intro j k n;rcases j with _ | _ | _ | _ | _ | j<;>simp)))
  have ha:=hR.act
  simp only [List.foldl_cons,List.foldl_nil,seti,set0,setS,vv0,vv1,vv2,vv3,hg4,hg5] at ha
  subst ha
  clear hR vv0 vv1 vv2 vv3 hg4 lg4 kg4 hg5 lg5 kg5 hne
  refine wpAny_of_late (S:=fun _=>True) (L:=[]) _ _ _ _ ?_
  refine wpLate_one (i:=6) (o:=⟨none,_,_,_,_,_⟩) (by kernel_rfl) rfl (fun K hK=>?_)
  obtain ⟨x0,x1,x2⟩:=X.out.c3 (i:=3) rfl
  obtain ⟨y0,y1,y2⟩:=X.out.f3 (i:=3) rfl
  have X:=Lib.hid (X.out.set3 (i:=3) rfl (.bool b1) (.slice A1 n1 c1) (.slice B1 m1 d1))
  go_simp
  refine hK.out _ _ (Or.inr fun _=>trivial) ?_
  clear hK K x0 x1 x2 y0 y1 y2
  obtain ⟨W6,hV⟩:=wexi X.out
  rw [←hV] at X ⊢
  clear hV
  try simp only [Act.put]
  refine wpLate_one (i:=7) (o:=⟨none,_,_,_,_,_⟩) (by kernel_rfl) rfl (fun K hK=>?_)
  obtain ⟨x0,x1,x2⟩:=X.out.c3 (i:=4) rfl
  obtain ⟨y0,y1,y2⟩:=X.out.f3 (i:=4) rfl
  have X:=Lib.hid (X.out.set3 (i:=4) rfl (.bool (!b1)) (.slice A3 n3 c3) (.slice B3 m3 d3))
  go_simp
  refine hK.out _ _ (Or.inr fun _=>trivial) ?_
  clear hK K x0 x1 x2 y0 y1 y2
  obtain ⟨W7,hV⟩:=wexi X.out
  rw [←hV] at X ⊢
  clear hV
  try simp only [Act.put]
  refine wpLate_done (by kernel_rfl) ?_ _
  go_wp2_with fail
  go_meet
  exact ⟨_,_,_,_,_,_,_,_,_,_,_,_,_,_,rfl,rfl,X.out.pick [2,3,4] _ _ rfl (by decide) (fun _ h=>h)⟩
 obtain ⟨g5,g6,A1,n1,c1,B1,x1,d1,A3,n3,c3,B3,x3,d3,rfl,rfl,hX⟩:=hcut
 have X:=Lib.hid hX
 clear hX
 go_upto_region 2 with fail
 go_cut [7,8] (fun s7 s8 wx=>∃ A5 n5 c5 A6 n6 c6,s7=.slice A5 n5 c5∧s8=.slice A6 n6 c6∧Sb w [(w.heap.size+1+1,#[.bool false,.string ⟨#[]⟩,.bool false,.string ⟨#[]⟩],25),(g5,#[.bool b1,.slice A1 n1 c1,.slice B1 x1 d1],121),(g6,#[.bool (!b1),.slice A3 n3 c3,.slice B3 x3 d3],121)] [(A1,n1,c1,p.num.natAbs),(B1,x1,d1,p.den),(A3,n3,c3,q.num.natAbs),(B3,x3,d3,q.den),(A5,n5,c5,(p.num.natAbs*q.den)),(A6,n6,c6,(q.num.natAbs*p.den))] wx)
 case first =>
  refine wp_region_late (S:=fun w'=>(w'.cell? ⟨g5,0,none⟩=some (.bool b1)∧w'.cell? ⟨g5,1,none⟩=some (.slice A1 n1 c1)∧w'.cell? ⟨g5,2,none⟩=some (.slice B1 x1 d1))∧(w'.cell? ⟨g6,0,none⟩=some (.bool (!b1))∧w'.cell? ⟨g6,1,none⟩=some (.slice A3 n3 c3)∧w'.cell? ⟨g6,2,none⟩=some (.slice B3 x3 d3))) (L:=[]) (by kernel_rfl) ?_
  have X:=Lib.hid X.out.drew
  obtain ⟨V0,hV⟩:=wexi X.out
  rw [←hV] at X ⊢
  clear hV
  refine tk (i:=0) (oi:=⟨some 14,_,_,_,_,_⟩) (v:=_) rfl (by kernel_rfl) (fun _ _ _ h=>h) (⟨X.out.c3 (i:=1) rfl,X.out.c3 (i:=2) rfl⟩) (Or.inl ⟨by rfl,by intro w hSw;(try dsimp only at hSw);(first | (go_simp;done) | (go_simp;with_reducible rfl))⟩) ?_
  try simp only [Act.put,seti,set0,setS]
  refine tk (i:=1) (oi:=⟨some 15,_,_,_,_,_⟩) (v:=_) rfl (by kernel_rfl) (fun _ _ _ h=>h) (⟨X.out.c3 (i:=1) rfl,X.out.c3 (i:=2) rfl⟩) (Or.inl ⟨by rfl,by intro w hSw;(try dsimp only at hSw);(first | (go_simp;done) | (go_simp;with_reducible rfl))⟩) ?_
  try simp only [Act.put,seti,set0,setS]
  refine tk (i:=2) (oi:=⟨some 16,_,_,_,_,_⟩) (v:=_) rfl (by kernel_rfl) (fun _ _ _ h=>h) (⟨X.out.c3 (i:=1) rfl,X.out.c3 (i:=2) rfl⟩) (Or.inl ⟨by rfl,by intro w hSw;(try dsimp only at hSw);(first | (go_simp;done) | (go_simp;with_reducible rfl))⟩) ?_
  try simp only [Act.put,seti,set0,setS]
  refine tk (i:=3) (oi:=⟨some 17,_,_,_,_,_⟩) (v:=_) rfl (by kernel_rfl) (fun _ _ _ h=>h) (⟨X.out.c3 (i:=1) rfl,X.out.c3 (i:=2) rfl⟩) (Or.inl ⟨by rfl,by intro w hSw;(try dsimp only at hSw);(first | (go_simp;done) | (go_simp;with_reducible rfl))⟩) ?_
  try simp only [Act.put,seti,set0,setS]
  refine tk (i:=5) (oi:=⟨some 19,_,_,_,_,_⟩) (v:=_) rfl (by kernel_rfl) (fun _ _ _ h=>h) (⟨X.out.c3 (i:=1) rfl,X.out.c3 (i:=2) rfl⟩) (Or.inl ⟨by rfl,by intro w hSw;(try dsimp only at hSw);(first | (go_simp;done) | (go_simp;with_reducible rfl))⟩) ?_
  try simp only [Act.put,seti,set0,setS]
  refine tk (i:=6) (oi:=⟨some 20,_,_,_,_,_⟩) (v:=_) rfl (by kernel_rfl) (fun _ _ _ h=>h) (⟨X.out.c3 (i:=1) rfl,X.out.c3 (i:=2) rfl⟩) (Or.inl ⟨by rfl,by intro w hSw;(try dsimp only at hSw);(first | (go_simp;done) | (go_simp;with_reducible rfl))⟩) ?_
  try simp only [Act.put,seti,set0,setS]
  refine tk (i:=7) (oi:=⟨some 21,_,_,_,_,_⟩) (v:=_) rfl (by kernel_rfl) (fun _ _ _ h=>h) (⟨X.out.c3 (i:=1) rfl,X.out.c3 (i:=2) rfl⟩) (Or.inl ⟨by rfl,by intro w hSw;(try dsimp only at hSw);(first | (go_simp;done) | (go_simp;with_reducible rfl))⟩) ?_
  try simp only [Act.put,seti,set0,setS]
  refine tk (i:=8) (oi:=⟨some 22,_,_,_,_,_⟩) (v:=_) rfl (by kernel_rfl) (fun _ _ _ h=>h) (⟨X.out.c3 (i:=1) rfl,X.out.c3 (i:=2) rfl⟩) (Or.inl ⟨by rfl,by intro w hSw;(try dsimp only at hSw);(first | (go_simp;done) | (go_simp;with_reducible rfl))⟩) ?_
  try simp only [Act.put,seti,set0,setS]
  refine wpLate_one (i:=4) (o:=⟨some 18,_,_,_,_,_⟩) (by kernel_rfl) rfl (fun K hK=>?_)
  go_simp
  (go_at_call 90;refine (rtimes _ _ _ _ _ _ _ _ _ (by have h:=(X.out.rw (i:=0) rfl).ln;have h2:=HN0.out;omega) (by have h:=(X.out.rw (i:=3) rfl).ln;have h2:=HN3.out;omega) (X.out.rw (i:=0) rfl).dg (X.out.rw (i:=3) rfl).dg).mono ?_;rintro e u1 ⟨A1,n1,c1,rfl,ht9,hb9,hf9⟩;have X:=Lib.hid (X.out.row hb9 ht9 hf9);clear hb9 ht9 hf9)
  try go_wp2_with fail
  refine hK.out _ _ (Or.inr (fun _=>⟨X.out.c3 (i:=1) rfl,X.out.c3 (i:=2) rfl⟩)) ?_
  clear hK K
  try simp only [Act.put,seti,set0,setS]
  refine wpLate_one (i:=9) (o:=⟨some 23,_,_,_,_,_⟩) (by kernel_rfl) rfl (fun K hK=>?_)
  go_simp
  (go_at_call 90;refine (rtimes _ _ _ _ _ _ _ _ _ (by have h:=(X.out.rw (i:=2) rfl).ln;have h2:=HN2.out;omega) (by have h:=(X.out.rw (i:=1) rfl).ln;have h2:=HN1.out;omega) (X.out.rw (i:=2) rfl).dg (X.out.rw (i:=1) rfl).dg).mono ?_;rintro e u2 ⟨A2,n2,c2,rfl,ht9,hb9,hf9⟩;have X:=Lib.hid (X.out.row hb9 ht9 hf9);clear hb9 ht9 hf9)
  try go_wp2_with fail
  refine hK.out _ _ (Or.inr (fun _=>⟨X.out.c3 (i:=1) rfl,X.out.c3 (i:=2) rfl⟩)) ?_
  clear hK K
  try simp only [Act.put,seti,set0,setS]
  refine tk (i:=10) (oi:=⟨some 7,_,_,_,_,_⟩) (v:=_) rfl (by kernel_rfl) (fun _ _ _ h=>h) (⟨X.out.c3 (i:=1) rfl,X.out.c3 (i:=2) rfl⟩) (Or.inl ⟨by rfl,by intro w hSw;(try dsimp only at hSw);(first | (go_simp;done) | (go_simp;with_reducible rfl))⟩) ?_
  try simp only [Act.put,seti,set0,setS]
  refine tk (i:=11) (oi:=⟨some 8,_,_,_,_,_⟩) (v:=_) rfl (by kernel_rfl) (fun _ _ _ h=>h) (⟨X.out.c3 (i:=1) rfl,X.out.c3 (i:=2) rfl⟩) (Or.inl ⟨by rfl,by intro w hSw;(try dsimp only at hSw);(first | (go_simp;done) | (go_simp;with_reducible rfl))⟩) ?_
  try simp only [Act.put,seti,set0,setS]
  refine wpLate_done (by kernel_rfl) ?_ _
  go_wp2_with fail
  go_meet
  exact ⟨_,_,_,_,_,_,rfl,rfl,X.out⟩
 obtain ⟨A5,n5,c5,A6,n6,c6,rfl,rfl,hX⟩:=hcut
 have X:=Lib.hid hX
 clear hX
 obtain ⟨a0,a1,a2⟩:=X.out.c3 (i:=1) rfl
 obtain ⟨c0,c1,c2⟩:=X.out.c3 (i:=2) rfl
 go_wp2_with fail
 refine (rtimes _ _ _ _ _ _ _ _ _ (by have h:=(X.out.rw (i:=1) rfl).ln;have h2:=HN1.out;omega) (by have h:=(X.out.rw (i:=3) rfl).ln;have h2:=HN3.out;omega) (X.out.rw (i:=1) rfl).dg (X.out.rw (i:=3) rfl).dg).mono ?_
 rintro e u2 ⟨A7,n7,c7,rfl,ht9,hb9,hf9⟩
 have X:=Lib.hid (X.out.row hb9 ht9 hf9)
 clear hb9 ht9 hf9 a0 a1 a2 c0 c1 c2
 obtain ⟨a0,a1,a2⟩:=X.out.c3 (i:=1) rfl
 obtain ⟨c0,c1,c2⟩:=X.out.c3 (i:=2) rfl
 go_wp2_with fail
 refine (HCM.out _ _ _ _ _ _ _ (by have h:=(X.out.rw (i:=4) rfl).ln;have h2:=HN4.out;omega) (by have h:=(X.out.rw (i:=5) rfl).ln;have h2:=HN5.out;omega) (X.out.rw (i:=4) rfl) (X.out.rw (i:=5) rfl)).mono ?_
 rintro e u5 ⟨rfl,nn,rfl⟩
 have X:=Lib.hid (X.out.next (below_draws (Below.refl _ _) nn))
 obtain ⟨u6,hV⟩:=wexi X.out
 rw [←hV] at X ⊢
 clear hV a0 a1 a2 c0 c1 c2
 go_upto_region 7 with fail
 refine wp_region_late (S:=fun w'=>(w'.cell? ⟨g5,0,none⟩=some (.bool b1)∧w'.cell? ⟨g5,1,none⟩=some (.slice A1 n1 c1)∧w'.cell? ⟨g5,2,none⟩=some (.slice B1 x1 d1))∧(w'.cell? ⟨g6,0,none⟩=some (.bool (!b1))∧w'.cell? ⟨g6,1,none⟩=some (.slice A3 n3 c3)∧w'.cell? ⟨g6,2,none⟩=some (.slice B3 x3 d3))) (L:=[]) (by kernel_rfl) ?_
 have X:=Lib.hid X.out.drew
 obtain ⟨V0,hV⟩:=wexi X.out
 rw [←hV] at X ⊢
 clear hV
 refine tk (i:=0) (oi:=⟨some 48,_,_,_,_,_⟩) (v:=_) rfl (by kernel_rfl) (fun _ _ _ h=>h) (⟨X.out.c3 (i:=1) rfl,X.out.c3 (i:=2) rfl⟩) (Or.inl ⟨by rfl,by intro w hSw;(try dsimp only at hSw);(first | (go_simp;done) | (go_simp;with_reducible rfl))⟩) ?_
 try simp only [Act.put,seti,set0,setS]
 refine tk (i:=1) (oi:=⟨some 49,_,_,_,_,_⟩) (v:=_) rfl (by kernel_rfl) (fun _ _ _ h=>h) (⟨X.out.c3 (i:=1) rfl,X.out.c3 (i:=2) rfl⟩) (Or.inl ⟨by rfl,by intro w hSw;(try dsimp only at hSw);(first | (go_simp;done) | (go_simp;with_reducible rfl))⟩) ?_
 try simp only [Act.put,seti,set0,setS]
 refine tk (i:=2) (oi:=⟨some 50,_,_,_,_,_⟩) (v:=_) rfl (by kernel_rfl) (fun _ _ _ h=>h) (⟨X.out.c3 (i:=1) rfl,X.out.c3 (i:=2) rfl⟩) (Or.inl ⟨by rfl,by intro w hSw;(try dsimp only at hSw);(first | (go_simp;done) | (go_simp;with_reducible rfl))⟩) ?_
 try simp only [Act.put,seti,set0,setS]
 refine tk (i:=3) (oi:=⟨some 51,_,_,_,_,_⟩) (v:=_) rfl (by kernel_rfl) (fun _ _ _ h=>h) (⟨X.out.c3 (i:=1) rfl,X.out.c3 (i:=2) rfl⟩) (Or.inl ⟨by rfl,by intro w hSw;(try dsimp only at hSw);(first | (go_simp;done) | (go_simp;with_reducible rfl))⟩) ?_
 try simp only [Act.put,seti,set0,setS]
 refine tk (i:=5) (oi:=⟨some 53,_,_,_,_,_⟩) (v:=_) rfl (by kernel_rfl) (fun _ _ _ h=>h) (⟨X.out.c3 (i:=1) rfl,X.out.c3 (i:=2) rfl⟩) (Or.inl ⟨by rfl,by intro w hSw;(try dsimp only at hSw);(first | (go_simp;done) | (go_simp;with_reducible rfl))⟩) ?_
 try simp only [Act.put,seti,set0,setS]
 refine wpLate_one (i:=4) (o:=⟨some 52,_,_,_,_,_⟩) (by kernel_rfl) rfl (fun K hK=>?_)
 go_simp
 (go_at_call 94;refine (rminus _ _ _ _ _ _ _ _ _ (by have h:=(X.out.rw (i:=4) rfl).ln;have h2:=HN4.out;omega) (by have h:=(X.out.rw (i:=5) rfl).ln;have h2:=HN5.out;omega) (X.out.rw (i:=4) rfl).dg (X.out.rw (i:=5) rfl).dg HLE.out).mono ?_;rintro e u1 ⟨A1,n1,c1,rfl,ht9,hb9,hf9⟩;have X:=Lib.hid (X.out.row hb9 ht9 hf9);clear hb9 ht9 hf9)
 try go_wp2_with fail
 refine hK.out _ _ (Or.inr (fun _=>⟨X.out.c3 (i:=1) rfl,X.out.c3 (i:=2) rfl⟩)) ?_
 clear hK K
 try simp only [Act.put,seti,set0,setS]
 refine tk (i:=6) (oi:=⟨some 54,_,_,_,_,_⟩) (v:=_) rfl (by kernel_rfl) (fun _ _ _ h=>h) (⟨X.out.c3 (i:=1) rfl,X.out.c3 (i:=2) rfl⟩) (Or.inl ⟨by rfl,by intro w hSw;(try dsimp only at hSw);(first | (go_simp;done) | (go_simp;with_reducible rfl))⟩) ?_
 try simp only [Act.put,seti,set0,setS]
 refine wpLate_one (i:=7) (o:=⟨some 55,_,_,_,_,_⟩) (by kernel_rfl) rfl (fun K hK=>?_)
 go_simp
 (go_at_call 91;refine (HCN.out _ _ _ _ _ _ _ (X.out.rw (i:=7) rfl) (X.out.rw (i:=6) rfl)).mono ?_;rintro e u2 ⟨rfl,hb9⟩;have X:=Lib.hid (X.out.next hb9);clear hb9)
 try go_wp2_with fail
 refine hK.out _ _ (Or.inr (fun _=>⟨X.out.c3 (i:=1) rfl,X.out.c3 (i:=2) rfl⟩)) ?_
 clear hK K
 try simp only [Act.put,seti,set0,setS]
 refine wpLate_one (i:=8) (o:=⟨none,_,_,_,_,_⟩) (by kernel_rfl) rfl (fun K hK=>?_)
 obtain ⟨x0,x1,x2,x3⟩:=X.out.c4 (i:=0) rfl
 obtain ⟨y0,y1,y2,y3⟩:=X.out.f4 (i:=0) rfl
 have X:=Lib.hid (X.out.set4 (i:=0) rfl (.bool b3) (.string m3) (.bool false) (.string k3))
 go_simp
 refine hK.out _ _ (Or.inr (fun _=>⟨X.out.c3 (i:=1) rfl,X.out.c3 (i:=2) rfl⟩)) ?_
 clear hK K x0 x1 x2 x3 y0 y1 y2 y3
 try simp only [Act.put,seti,set0,setS]
 obtain ⟨W3,hV⟩:=wexi X.out
 rw [←hV] at X ⊢
 clear hV
 refine wpLate_done (by kernel_rfl) ?_ _
 go_wp2
 obtain ⟨p0,p1,p2,p3⟩:=X.out.c4 (i:=0) rfl
 exact bodyPost_ret (v:=.agg #[.bool b3,.string m3,.bool false,.string k3]) (by simp [results,Tryz.results43,go_sem,p0,p1,p2,p3]) rfl ⟨rfl,X.out.bel⟩

set_option maxHeartbeats 32000000 in
set_option maxRecDepth 100000 in
theorem rAdd_lt {p q:Rat} {b1 b3:Bool} {m1 m2 m3 k1 k2 k3:ByteArray} (hp:Rq p b1 m1 k1) (hq:Rq q (!b1) m2 k2) (hr':Rq (mkRat (sgn (!b1) ((q.num.natAbs*p.den)-(p.num.natAbs*q.den))) (p.den*q.den)) b3 m3 k3) (hle:(p.num.natAbs*q.den)<(q.num.natAbs*p.den)) (s1:m1.size≤10000) (s2:m2.size≤10000) (s3:(mag p.den).size≤10000) (s4:(mag q.den).size≤10000) (w:World) :
  Calls Tryz.prog 43 #[.agg #[.bool b1,.string m1,.bool false,.string k1],.agg #[.bool (!b1),.string m2,.bool false,.string k2]] w (RetB w (.agg #[.bool b3,.string m3,.bool false,.string k3])):=by
 have ks:∀ {x:Rat} {b:Bool} {m k:ByteArray},Rq x b m k→(mag x.den).size≤10000→k.size≤10000:=fun {x b m k} h hs=>by
  by_cases hd:x.den=1
  · rw [h.den1 hd];exact Nat.zero_le _
  · rw [h.den2 hd];exact hs
 have HF1:=Lib.hid (fun V=>rof2 hp (by omega) (by have:=ks hp s3;omega) V)
 have HF2:=Lib.hid (fun V=>rof2 hq (by omega) (by have:=ks hq s4;omega) V)
 have n0:nd p.num.natAbs≤10000:=by unfold nd;rw [←hp.mag.2];exact s1
 have n1:nd p.den≤10000:=s3
 have n2:nd q.num.natAbs≤10000:=by unfold nd;rw [←hq.mag.2];exact s2
 have n3:nd q.den≤10000:=s4
 have n4:nd (p.num.natAbs*q.den)≤20000:=by have:=nd_mul p.num.natAbs q.den;omega
 have n5:nd (q.num.natAbs*p.den)≤20000:=by have:=nd_mul q.num.natAbs p.den;omega
 have n6:nd (p.den*q.den)≤20000:=by have:=nd_mul p.den q.den;omega
 have n7:nd ((q.num.natAbs*p.den)-(p.num.natAbs*q.den))≤30000:=by have:=nd_mono (Nat.sub_le (q.num.natAbs*p.den) (p.num.natAbs*q.den));omega
 have hcn:∀ (A B:Option Addr) (n m c d:Nat) (V:World),Tr V A n c ((q.num.natAbs*p.den)-(p.num.natAbs*q.den))→Tr V B m d (p.den*q.den)→Calls Tryz.prog 91 #[.agg #[.bool (!b1),.slice A n c,.slice B m d]] V (RetB V (.agg #[.bool b3,.string m3,.bool false,.string k3])):=by
  intro A B n m c d V hA hB
  refine (rcanonical (!b1) A B n m c d _ _ V (by have:=hA.ln;omega) (by have:=hB.ln;omega) hA hB (Nat.mul_pos p.den_pos q.den_pos)).mono ?_
  rintro e w3 ⟨b4,m4,k4,rfl,hq4,hb3⟩
  obtain ⟨rfl,rfl,rfl⟩:=hr'.inj hq4
  exact ⟨rfl,hb3⟩
 have HN0:=Lib.hid n0
 have HN1:=Lib.hid n1
 have HN2:=Lib.hid n2
 have HN3:=Lib.hid n3
 have HN4:=Lib.hid n4
 have HN5:=Lib.hid n5
 have HLE:=Lib.hid (Nat.le_of_lt hle)
 have HCN:=Lib.hid hcn
 have ho:=ord_lt hle
 have hcm:∀ (A B:Option Addr) (n m c d:Nat) (V:World),n≤1000000000→m≤1000000000→Tr V A n c (p.num.natAbs*q.den)→Tr V B m d (q.num.natAbs*p.den)→Calls Tryz.prog 93 #[.slice A n c,.slice B m d] V (RetDw V (.int .i64 (-1))):=by
  intro A B n m c d V h1 h2 h3 h4
  rw [←ho]
  exact rcompare_any A B n m c d _ _ V h1 h2 h3 h4
 have HCM:=Lib.hid hcm
 clear ho hcm
 have X:=Lib.hid ((((Sb.start w).new #[.bool b1,.string m1,.bool false,.string k1] 25).new #[.bool (!b1),.string m2,.bool false,.string k2] 25).new #[.bool false,.string ⟨#[]⟩,.bool false,.string ⟨#[]⟩] 25)
 have X:=Lib.hid (X.out.pick [0,1,2] [(w.heap.size,#[.bool b1,.string m1,.bool false,.string k1],25),(w.heap.size+1,#[.bool (!b1),.string m2,.bool false,.string k2],25),(w.heap.size+1+1,#[.bool false,.string ⟨#[]⟩,.bool false,.string ⟨#[]⟩],25)] [] (by simp) (by decide) (by simp))
 clear hp hq hr' hcn n0 n1 n2 n3 n4 n5 n6 n7 s1 s2 s3 s4 ks hle
 go_enter Tryz.func43,Tryz.ntmps43
 go_upto_region 1 with fail
 go_cut [5,6] (fun s5 s6 wx=>∃ g5 g6 A1 n1 c1 B1 x1 d1 A3 n3 c3 B3 x3 d3,s5=.pointer (some ⟨g5,0,none⟩)∧s6=.pointer (some ⟨g6,0,none⟩)∧Sb w [(w.heap.size+1+1,#[.bool false,.string ⟨#[]⟩,.bool false,.string ⟨#[]⟩],25),(g5,#[.bool b1,.slice A1 n1 c1,.slice B1 x1 d1],121),(g6,#[.bool (!b1),.slice A3 n3 c3,.slice B3 x3 d3],121)] [(A1,n1,c1,p.num.natAbs),(B1,x1,d1,p.den),(A3,n3,c3,q.num.natAbs),(B3,x3,d3,q.den)] wx)
 case first =>
  refine wp_region_any (by kernel_rfl) ?_
  have X:=Lib.hid X.out.drew
  obtain ⟨W0,hV⟩:=wexi X.out
  rw [show ∀ v:World,{ v with drawn:=v.drawn+1 }=v.drew from fun _=>rfl,←hV]
  rw [←hV] at X
  clear hV
  refine rg_run (ef:=[.val (.agg #[.bool b1,.string m1,.bool false,.string k1]),.rel (FracP b1 p.num.natAbs p.den),.val (.agg #[.bool (!b1),.string m2,.bool false,.string k2]),.rel (FracP (!b1) q.num.natAbs q.den),.new #[.bool false,.slice none 0 0,.slice none 0 0] 121,.new #[.bool false,.slice none 0 0,.slice none 0 0] 121]) (ds:=[10,11,12,13,5,6]) (by kernel_rfl) (stays_of (List.forall_mem_cons.2 ⟨trivial,(List.forall_mem_cons.2 ⟨fine_frac _ _ _,(List.forall_mem_cons.2 ⟨trivial,(List.forall_mem_cons.2 ⟨fine_frac _ _ _,(List.forall_mem_cons.2 ⟨trivial,(List.forall_mem_cons.2 ⟨trivial,(fun _ h=>by simp at h)⟩)⟩)⟩)⟩)⟩)⟩)) (by decide) rfl (by intro d hd;simp at hd ⊢;omega) (fun i d o hd ho listed a w1 hR hdep K hK=>?_) 2 (fun a w1 hR=>?_)
  · have X:=Lib.hid (X.out.next hR.bel)
    have HKt:=Lib.hid hK
    have HDp:=Lib.hid hdep
    have sl2:a.tmps.getD 2 undef=.pointer (some ⟨w.heap.size,0,none⟩):=hR.keep 2 (by decide)
    have sl3:a.tmps.getD 3 undef=.pointer (some ⟨w.heap.size+1,0,none⟩):=hR.keep 3 (by decide)
    have HRg:=Lib.hid hR
    clear hK hdep hR
    rcases i with _ | _ | _ | _ | _ | _ | i
    · cases hd
      cases ho
      obtain ⟨x00,x01,x02,x03⟩:=X.out.c4 (i:=0) rfl
      obtain ⟨x10,x11,x12,x13⟩:=X.out.c4 (i:=1) rfl
      go_simp
      exact HKt.out _ _ (Or.inl ⟨rfl,Below.refl _ _⟩)
    · cases hd
      cases ho
      have dd0:a.tmps.getD 10 undef=.agg #[.bool b1,.string m1,.bool false,.string k1]:=HRg.out.val 0 _ (HDp.out 0 (by decide)) rfl
      go_simp
      (go_at_call 89;refine (HF1.out _).mono ?_;rintro e u ⟨A9,n9,c9,B9,m9,d9,rfl,hT9,hU9,hb9,_,_⟩)
      try go_wp2_with fail
      exact HKt.out _ _ (Or.inr (Or.inr ⟨_,rfl,⟨A9,n9,c9,B9,m9,d9,rfl,hT9,hU9⟩,hb9⟩))
    · cases hd
      cases ho
      obtain ⟨x00,x01,x02,x03⟩:=X.out.c4 (i:=0) rfl
      obtain ⟨x10,x11,x12,x13⟩:=X.out.c4 (i:=1) rfl
      go_simp
      exact HKt.out _ _ (Or.inl ⟨rfl,Below.refl _ _⟩)
    · cases hd
      cases ho
      have dd2:a.tmps.getD 12 undef=.agg #[.bool (!b1),.string m2,.bool false,.string k2]:=HRg.out.val 2 _ (HDp.out 2 (by decide)) rfl
      go_simp
      (go_at_call 89;refine (HF2.out _).mono ?_;rintro e u ⟨A9,n9,c9,B9,m9,d9,rfl,hT9,hU9,hb9,_,_⟩)
      try go_wp2_with fail
      exact HKt.out _ _ (Or.inr (Or.inr ⟨_,rfl,⟨A9,n9,c9,B9,m9,d9,rfl,hT9,hU9⟩,hb9⟩))
    · cases hd
      cases ho
      go_simp
      exact HKt.out _ _ (Or.inr (Or.inl ⟨_,_,rfl,rfl,rfl⟩))
    · cases hd
      cases ho
      go_simp
      exact HKt.out _ _ (Or.inr (Or.inl ⟨_,_,rfl,rfl,rfl⟩))
    · cases hd
  obtain ⟨g4,hg4,lg4,kg4⟩:=hR.new 4 _ _ (by rfl) rfl
  obtain ⟨g5,hg5,lg5,kg5⟩:=hR.new 5 _ _ (by rfl) rfl
  have vv0:a.tmps.getD 10 undef=.agg #[.bool b1,.string m1,.bool false,.string k1]:=hR.val 0 _ (by rfl) rfl
  obtain ⟨A1,n1,c1,B1,m1,d1,vv1,hT1,hU1⟩:=hR.rel 1 _ (by rfl) rfl
  replace vv1:a.tmps.getD 11 undef=.agg #[.bool b1,.slice A1 n1 c1,.slice B1 m1 d1]:=vv1
  have vv2:a.tmps.getD 12 undef=.agg #[.bool (!b1),.string m2,.bool false,.string k2]:=hR.val 2 _ (by rfl) rfl
  obtain ⟨A3,n3,c3,B3,m3,d3,vv3,hT3,hU3⟩:=hR.rel 3 _ (by rfl) rfl
  replace vv3:a.tmps.getD 13 undef=.agg #[.bool (!b1),.slice A3 n3 c3,.slice B3 m3 d3]:=vv3
  replace hg4:a.tmps.getD 5 undef=.pointer (some ⟨g4,0,none⟩):=hg4
  replace hg5:a.tmps.getD 6 undef=.pointer (some ⟨g5,0,none⟩):=hg5
  have hne:g4≠g5:=fun e=>hR.ne 4 5 _ _ _ _ g4 (by decide) (by rfl) (by rfl) rfl rfl hg4 (by rw [e];exact hg5)
  have X:=Lib.hid (X.out.add2 hR.bel lg4 kg4 lg5 kg5 hne)
  have X:=Lib.hid (X.out.rows [(A1,n1,c1,p.num.natAbs),(B1,m1,d1,p.den),(A3,n3,c3,q.num.natAbs),(B3,m3,d3,q.den)] (List.forall_mem_cons.2 ⟨hT1,List.forall_mem_cons.2 ⟨hU1,(List.forall_mem_cons.2 ⟨hT3,List.forall_mem_cons.2 ⟨hU3,(fun _ h=>by simp at h)⟩⟩)⟩⟩) (by intro x hx;simp at hx;rcases hx with rfl | rfl | rfl | rfl | rfl<;>(intro j k n;rcases j with _ | _ | _ | _ | _ | j<;>simp)))
  have ha:=hR.act
  simp only [List.foldl_cons,List.foldl_nil,seti,set0,setS,vv0,vv1,vv2,vv3,hg4,hg5] at ha
  subst ha
  clear hR vv0 vv1 vv2 vv3 hg4 lg4 kg4 hg5 lg5 kg5 hne
  refine wpAny_of_late (S:=fun _=>True) (L:=[]) _ _ _ _ ?_
  refine wpLate_one (i:=6) (o:=⟨none,_,_,_,_,_⟩) (by kernel_rfl) rfl (fun K hK=>?_)
  obtain ⟨x0,x1,x2⟩:=X.out.c3 (i:=3) rfl
  obtain ⟨y0,y1,y2⟩:=X.out.f3 (i:=3) rfl
  have X:=Lib.hid (X.out.set3 (i:=3) rfl (.bool b1) (.slice A1 n1 c1) (.slice B1 m1 d1))
  go_simp
  refine hK.out _ _ (Or.inr fun _=>trivial) ?_
  clear hK K x0 x1 x2 y0 y1 y2
  obtain ⟨W6,hV⟩:=wexi X.out
  rw [←hV] at X ⊢
  clear hV
  try simp only [Act.put]
  refine wpLate_one (i:=7) (o:=⟨none,_,_,_,_,_⟩) (by kernel_rfl) rfl (fun K hK=>?_)
  obtain ⟨x0,x1,x2⟩:=X.out.c3 (i:=4) rfl
  obtain ⟨y0,y1,y2⟩:=X.out.f3 (i:=4) rfl
  have X:=Lib.hid (X.out.set3 (i:=4) rfl (.bool (!b1)) (.slice A3 n3 c3) (.slice B3 m3 d3))
  go_simp
  refine hK.out _ _ (Or.inr fun _=>trivial) ?_
  clear hK K x0 x1 x2 y0 y1 y2
  obtain ⟨W7,hV⟩:=wexi X.out
  rw [←hV] at X ⊢
  clear hV
  try simp only [Act.put]
  refine wpLate_done (by kernel_rfl) ?_ _
  go_wp2_with fail
  go_meet
  exact ⟨_,_,_,_,_,_,_,_,_,_,_,_,_,_,rfl,rfl,X.out.pick [2,3,4] _ _ rfl (by decide) (fun _ h=>h)⟩
 obtain ⟨g5,g6,A1,n1,c1,B1,x1,d1,A3,n3,c3,B3,x3,d3,rfl,rfl,hX⟩:=hcut
 have X:=Lib.hid hX
 clear hX
 go_upto_region 2 with fail
 go_cut [7,8] (fun s7 s8 wx=>∃ A5 n5 c5 A6 n6 c6,s7=.slice A5 n5 c5∧s8=.slice A6 n6 c6∧Sb w [(w.heap.size+1+1,#[.bool false,.string ⟨#[]⟩,.bool false,.string ⟨#[]⟩],25),(g5,#[.bool b1,.slice A1 n1 c1,.slice B1 x1 d1],121),(g6,#[.bool (!b1),.slice A3 n3 c3,.slice B3 x3 d3],121)] [(A1,n1,c1,p.num.natAbs),(B1,x1,d1,p.den),(A3,n3,c3,q.num.natAbs),(B3,x3,d3,q.den),(A5,n5,c5,(p.num.natAbs*q.den)),(A6,n6,c6,(q.num.natAbs*p.den))] wx)
 case first =>
  refine wp_region_late (S:=fun w'=>(w'.cell? ⟨g5,0,none⟩=some (.bool b1)∧w'.cell? ⟨g5,1,none⟩=some (.slice A1 n1 c1)∧w'.cell? ⟨g5,2,none⟩=some (.slice B1 x1 d1))∧(w'.cell? ⟨g6,0,none⟩=some (.bool (!b1))∧w'.cell? ⟨g6,1,none⟩=some (.slice A3 n3 c3)∧w'.cell? ⟨g6,2,none⟩=some (.slice B3 x3 d3))) (L:=[]) (by kernel_rfl) ?_
  have X:=Lib.hid X.out.drew
  obtain ⟨V0,hV⟩:=wexi X.out
  rw [←hV] at X ⊢
  clear hV
  refine tk (i:=0) (oi:=⟨some 14,_,_,_,_,_⟩) (v:=_) rfl (by kernel_rfl) (fun _ _ _ h=>h) (⟨X.out.c3 (i:=1) rfl,X.out.c3 (i:=2) rfl⟩) (Or.inl ⟨by rfl,by intro w hSw;(try dsimp only at hSw);(first | (go_simp;done) | (go_simp;with_reducible rfl))⟩) ?_
  try simp only [Act.put,seti,set0,setS]
  refine tk (i:=1) (oi:=⟨some 15,_,_,_,_,_⟩) (v:=_) rfl (by kernel_rfl) (fun _ _ _ h=>h) (⟨X.out.c3 (i:=1) rfl,X.out.c3 (i:=2) rfl⟩) (Or.inl ⟨by rfl,by intro w hSw;(try dsimp only at hSw);(first | (go_simp;done) | (go_simp;with_reducible rfl))⟩) ?_
  try simp only [Act.put,seti,set0,setS]
  refine tk (i:=2) (oi:=⟨some 16,_,_,_,_,_⟩) (v:=_) rfl (by kernel_rfl) (fun _ _ _ h=>h) (⟨X.out.c3 (i:=1) rfl,X.out.c3 (i:=2) rfl⟩) (Or.inl ⟨by rfl,by intro w hSw;(try dsimp only at hSw);(first | (go_simp;done) | (go_simp;with_reducible rfl))⟩) ?_
  try simp only [Act.put,seti,set0,setS]
  refine tk (i:=3) (oi:=⟨some 17,_,_,_,_,_⟩) (v:=_) rfl (by kernel_rfl) (fun _ _ _ h=>h) (⟨X.out.c3 (i:=1) rfl,X.out.c3 (i:=2) rfl⟩) (Or.inl ⟨by rfl,by intro w hSw;(try dsimp only at hSw);(first | (go_simp;done) | (go_simp;with_reducible rfl))⟩) ?_
  try simp only [Act.put,seti,set0,setS]
  refine tk (i:=5) (oi:=⟨some 19,_,_,_,_,_⟩) (v:=_) rfl (by kernel_rfl) (fun _ _ _ h=>h) (⟨X.out.c3 (i:=1) rfl,X.out.c3 (i:=2) rfl⟩) (Or.inl ⟨by rfl,by intro w hSw;(try dsimp only at hSw);(first | (go_simp;done) | (go_simp;with_reducible rfl))⟩) ?_
  try simp only [Act.put,seti,set0,setS]
  refine tk (i:=6) (oi:=⟨some 20,_,_,_,_,_⟩) (v:=_) rfl (by kernel_rfl) (fun _ _ _ h=>h) (⟨X.out.c3 (i:=1) rfl,X.out.c3 (i:=2) rfl⟩) (Or.inl ⟨by rfl,by intro w hSw;(try dsimp only at hSw);(first | (go_simp;done) | (go_simp;with_reducible rfl))⟩) ?_
  try simp only [Act.put,seti,set0,setS]
  refine tk (i:=7) (oi:=⟨some 21,_,_,_,_,_⟩) (v:=_) rfl (by kernel_rfl) (fun _ _ _ h=>h) (⟨X.out.c3 (i:=1) rfl,X.out.c3 (i:=2) rfl⟩) (Or.inl ⟨by rfl,by intro w hSw;(try dsimp only at hSw);(first | (go_simp;done) | (go_simp;with_reducible rfl))⟩) ?_
  try simp only [Act.put,seti,set0,setS]
  refine tk (i:=8) (oi:=⟨some 22,_,_,_,_,_⟩) (v:=_) rfl (by kernel_rfl) (fun _ _ _ h=>h) (⟨X.out.c3 (i:=1) rfl,X.out.c3 (i:=2) rfl⟩) (Or.inl ⟨by rfl,by intro w hSw;(try dsimp only at hSw);(first | (go_simp;done) | (go_simp;with_reducible rfl))⟩) ?_
  try simp only [Act.put,seti,set0,setS]
  refine wpLate_one (i:=4) (o:=⟨some 18,_,_,_,_,_⟩) (by kernel_rfl) rfl (fun K hK=>?_)
  go_simp
  (go_at_call 90;refine (rtimes _ _ _ _ _ _ _ _ _ (by have h:=(X.out.rw (i:=0) rfl).ln;have h2:=HN0.out;omega) (by have h:=(X.out.rw (i:=3) rfl).ln;have h2:=HN3.out;omega) (X.out.rw (i:=0) rfl).dg (X.out.rw (i:=3) rfl).dg).mono ?_;rintro e u1 ⟨A1,n1,c1,rfl,ht9,hb9,hf9⟩;have X:=Lib.hid (X.out.row hb9 ht9 hf9);clear hb9 ht9 hf9)
  try go_wp2_with fail
  refine hK.out _ _ (Or.inr (fun _=>⟨X.out.c3 (i:=1) rfl,X.out.c3 (i:=2) rfl⟩)) ?_
  clear hK K
  try simp only [Act.put,seti,set0,setS]
  refine wpLate_one (i:=9) (o:=⟨some 23,_,_,_,_,_⟩) (by kernel_rfl) rfl (fun K hK=>?_)
  go_simp
  (go_at_call 90;refine (rtimes _ _ _ _ _ _ _ _ _ (by have h:=(X.out.rw (i:=2) rfl).ln;have h2:=HN2.out;omega) (by have h:=(X.out.rw (i:=1) rfl).ln;have h2:=HN1.out;omega) (X.out.rw (i:=2) rfl).dg (X.out.rw (i:=1) rfl).dg).mono ?_;rintro e u2 ⟨A2,n2,c2,rfl,ht9,hb9,hf9⟩;have X:=Lib.hid (X.out.row hb9 ht9 hf9);clear hb9 ht9 hf9)
  try go_wp2_with fail
  refine hK.out _ _ (Or.inr (fun _=>⟨X.out.c3 (i:=1) rfl,X.out.c3 (i:=2) rfl⟩)) ?_
  clear hK K
  try simp only [Act.put,seti,set0,setS]
  refine tk (i:=10) (oi:=⟨some 7,_,_,_,_,_⟩) (v:=_) rfl (by kernel_rfl) (fun _ _ _ h=>h) (⟨X.out.c3 (i:=1) rfl,X.out.c3 (i:=2) rfl⟩) (Or.inl ⟨by rfl,by intro w hSw;(try dsimp only at hSw);(first | (go_simp;done) | (go_simp;with_reducible rfl))⟩) ?_
  try simp only [Act.put,seti,set0,setS]
  refine tk (i:=11) (oi:=⟨some 8,_,_,_,_,_⟩) (v:=_) rfl (by kernel_rfl) (fun _ _ _ h=>h) (⟨X.out.c3 (i:=1) rfl,X.out.c3 (i:=2) rfl⟩) (Or.inl ⟨by rfl,by intro w hSw;(try dsimp only at hSw);(first | (go_simp;done) | (go_simp;with_reducible rfl))⟩) ?_
  try simp only [Act.put,seti,set0,setS]
  refine wpLate_done (by kernel_rfl) ?_ _
  go_wp2_with fail
  go_meet
  exact ⟨_,_,_,_,_,_,rfl,rfl,X.out⟩
 obtain ⟨A5,n5,c5,A6,n6,c6,rfl,rfl,hX⟩:=hcut
 have X:=Lib.hid hX
 clear hX
 obtain ⟨a0,a1,a2⟩:=X.out.c3 (i:=1) rfl
 obtain ⟨c0,c1,c2⟩:=X.out.c3 (i:=2) rfl
 go_wp2_with fail
 refine (rtimes _ _ _ _ _ _ _ _ _ (by have h:=(X.out.rw (i:=1) rfl).ln;have h2:=HN1.out;omega) (by have h:=(X.out.rw (i:=3) rfl).ln;have h2:=HN3.out;omega) (X.out.rw (i:=1) rfl).dg (X.out.rw (i:=3) rfl).dg).mono ?_
 rintro e u2 ⟨A7,n7,c7,rfl,ht9,hb9,hf9⟩
 have X:=Lib.hid (X.out.row hb9 ht9 hf9)
 clear hb9 ht9 hf9 a0 a1 a2 c0 c1 c2
 obtain ⟨a0,a1,a2⟩:=X.out.c3 (i:=1) rfl
 obtain ⟨c0,c1,c2⟩:=X.out.c3 (i:=2) rfl
 go_wp2_with fail
 refine (HCM.out _ _ _ _ _ _ _ (by have h:=(X.out.rw (i:=4) rfl).ln;have h2:=HN4.out;omega) (by have h:=(X.out.rw (i:=5) rfl).ln;have h2:=HN5.out;omega) (X.out.rw (i:=4) rfl) (X.out.rw (i:=5) rfl)).mono ?_
 rintro e u5 ⟨rfl,nn,rfl⟩
 have X:=Lib.hid (X.out.next (below_draws (Below.refl _ _) nn))
 obtain ⟨u6,hV⟩:=wexi X.out
 rw [←hV] at X ⊢
 clear hV a0 a1 a2 c0 c1 c2
 go_upto_region 8 with fail
 refine wp_region_late (S:=fun w'=>(w'.cell? ⟨g5,0,none⟩=some (.bool b1)∧w'.cell? ⟨g5,1,none⟩=some (.slice A1 n1 c1)∧w'.cell? ⟨g5,2,none⟩=some (.slice B1 x1 d1))∧(w'.cell? ⟨g6,0,none⟩=some (.bool (!b1))∧w'.cell? ⟨g6,1,none⟩=some (.slice A3 n3 c3)∧w'.cell? ⟨g6,2,none⟩=some (.slice B3 x3 d3))) (L:=[]) (by kernel_rfl) ?_
 have X:=Lib.hid X.out.drew
 obtain ⟨V0,hV⟩:=wexi X.out
 rw [←hV] at X ⊢
 clear hV
 refine tk (i:=0) (oi:=⟨some 56,_,_,_,_,_⟩) (v:=_) rfl (by kernel_rfl) (fun _ _ _ h=>h) (⟨X.out.c3 (i:=1) rfl,X.out.c3 (i:=2) rfl⟩) (Or.inl ⟨by rfl,by intro w hSw;(try dsimp only at hSw);(first | (go_simp;done) | (go_simp;with_reducible rfl))⟩) ?_
 try simp only [Act.put,seti,set0,setS]
 refine tk (i:=1) (oi:=⟨some 57,_,_,_,_,_⟩) (v:=_) rfl (by kernel_rfl) (fun _ _ _ h=>h) (⟨X.out.c3 (i:=1) rfl,X.out.c3 (i:=2) rfl⟩) (Or.inl ⟨by rfl,by intro w hSw;(try dsimp only at hSw);(first | (go_simp;done) | (go_simp;with_reducible rfl))⟩) ?_
 try simp only [Act.put,seti,set0,setS]
 refine tk (i:=2) (oi:=⟨some 58,_,_,_,_,_⟩) (v:=_) rfl (by kernel_rfl) (fun _ _ _ h=>h) (⟨X.out.c3 (i:=1) rfl,X.out.c3 (i:=2) rfl⟩) (Or.inl ⟨by rfl,by intro w hSw;(try dsimp only at hSw);(first | (go_simp;done) | (go_simp;with_reducible rfl))⟩) ?_
 try simp only [Act.put,seti,set0,setS]
 refine tk (i:=3) (oi:=⟨some 59,_,_,_,_,_⟩) (v:=_) rfl (by kernel_rfl) (fun _ _ _ h=>h) (⟨X.out.c3 (i:=1) rfl,X.out.c3 (i:=2) rfl⟩) (Or.inl ⟨by rfl,by intro w hSw;(try dsimp only at hSw);(first | (go_simp;done) | (go_simp;with_reducible rfl))⟩) ?_
 try simp only [Act.put,seti,set0,setS]
 refine tk (i:=5) (oi:=⟨some 61,_,_,_,_,_⟩) (v:=_) rfl (by kernel_rfl) (fun _ _ _ h=>h) (⟨X.out.c3 (i:=1) rfl,X.out.c3 (i:=2) rfl⟩) (Or.inl ⟨by rfl,by intro w hSw;(try dsimp only at hSw);(first | (go_simp;done) | (go_simp;with_reducible rfl))⟩) ?_
 try simp only [Act.put,seti,set0,setS]
 refine wpLate_one (i:=4) (o:=⟨some 60,_,_,_,_,_⟩) (by kernel_rfl) rfl (fun K hK=>?_)
 go_simp
 (go_at_call 94;refine (rminus _ _ _ _ _ _ _ _ _ (by have h:=(X.out.rw (i:=5) rfl).ln;have h2:=HN5.out;omega) (by have h:=(X.out.rw (i:=4) rfl).ln;have h2:=HN4.out;omega) (X.out.rw (i:=5) rfl).dg (X.out.rw (i:=4) rfl).dg HLE.out).mono ?_;rintro e u1 ⟨A1,n1,c1,rfl,ht9,hb9,hf9⟩;have X:=Lib.hid (X.out.row hb9 ht9 hf9);clear hb9 ht9 hf9)
 try go_wp2_with fail
 refine hK.out _ _ (Or.inr (fun _=>⟨X.out.c3 (i:=1) rfl,X.out.c3 (i:=2) rfl⟩)) ?_
 clear hK K
 try simp only [Act.put,seti,set0,setS]
 refine tk (i:=6) (oi:=⟨some 62,_,_,_,_,_⟩) (v:=_) rfl (by kernel_rfl) (fun _ _ _ h=>h) (⟨X.out.c3 (i:=1) rfl,X.out.c3 (i:=2) rfl⟩) (Or.inl ⟨by rfl,by intro w hSw;(try dsimp only at hSw);(first | (go_simp;done) | (go_simp;with_reducible rfl))⟩) ?_
 try simp only [Act.put,seti,set0,setS]
 refine wpLate_one (i:=7) (o:=⟨some 63,_,_,_,_,_⟩) (by kernel_rfl) rfl (fun K hK=>?_)
 go_simp
 (go_at_call 91;refine (HCN.out _ _ _ _ _ _ _ (X.out.rw (i:=7) rfl) (X.out.rw (i:=6) rfl)).mono ?_;rintro e u2 ⟨rfl,hb9⟩;have X:=Lib.hid (X.out.next hb9);clear hb9)
 try go_wp2_with fail
 refine hK.out _ _ (Or.inr (fun _=>⟨X.out.c3 (i:=1) rfl,X.out.c3 (i:=2) rfl⟩)) ?_
 clear hK K
 try simp only [Act.put,seti,set0,setS]
 refine wpLate_one (i:=8) (o:=⟨none,_,_,_,_,_⟩) (by kernel_rfl) rfl (fun K hK=>?_)
 obtain ⟨x0,x1,x2,x3⟩:=X.out.c4 (i:=0) rfl
 obtain ⟨y0,y1,y2,y3⟩:=X.out.f4 (i:=0) rfl
 have X:=Lib.hid (X.out.set4 (i:=0) rfl (.bool b3) (.string m3) (.bool false) (.string k3))
 go_simp
 refine hK.out _ _ (Or.inr (fun _=>⟨X.out.c3 (i:=1) rfl,X.out.c3 (i:=2) rfl⟩)) ?_
 clear hK K x0 x1 x2 x3 y0 y1 y2 y3
 try simp only [Act.put,seti,set0,setS]
 obtain ⟨W3,hV⟩:=wexi X.out
 rw [←hV] at X ⊢
 clear hV
 refine wpLate_done (by kernel_rfl) ?_ _
 go_wp2
 obtain ⟨p0,p1,p2,p3⟩:=X.out.c4 (i:=0) rfl
 exact bodyPost_ret (v:=.agg #[.bool b3,.string m3,.bool false,.string k3]) (by simp [results,Tryz.results43,go_sem,p0,p1,p2,p3]) rfl ⟨rfl,X.out.bel⟩
end Go.Proofs.YtdbhahiieokplaaGreatDoor
